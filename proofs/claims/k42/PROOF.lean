import PyProof.Rows.All
import Wide.All
import OpenK.AllK
import Wide.FinOn
import Lean
import PyProof.EqAt
import PyProof.EqKinds
import PyProof.TupleCall
import PyProof.NeKinds
import PySem.Challenge.RW_maskwright_k42_two_by_tries
set_option Elab.async false
set_option linter.all false
set_option maxRecDepth 100000
set_option maxHeartbeats 4000000
abbrev aPu:=PySem.W.Frag
set_option compiler.extract_closed false
abbrev aM3:= @PySem.wpAny_bind
abbrev aM4:= @PySem.wpAny_pure
abbrev aM5:= @PySem.Heap.get?_push_of_some
abbrev aM6:= @List.getElem?_eq_some_iff
abbrev aM7:= @Nat.le_refl
abbrev aM8:= @List.mem_cons_self
abbrev aM9:= @List.mem_cons_of_mem
abbrev aMa:= @PySem.Heap.get?_push_size
abbrev aMb:= @PySem.Heap.lt_size
abbrev aMc:= @List.mem_of_getElem?
abbrev aMd:= @List.mem_map
abbrev aMe:= @PySem.sizeLine_eq
abbrev aMf:= @List.mem_cons
abbrev aMg:= @Nat.ne_of_lt
abbrev aMh:= @List.map_congr_left
abbrev aMi:= @List.mem_append
abbrev aMj:= @Nat.lt_of_lt_of_le
abbrev aMk:= @PySem.wpAny_call_entry
abbrev aMl:= @PySem.W.mg_none_of
abbrev aMm:= @Classical.byContradiction
abbrev aMn:= @Option.some.inj
abbrev aMo:= @PySem.wpAny_callSpecial?_slot
abbrev aMp:= @PySem.wpAny_setField_rec
abbrev aMq:= @Nat.le_trans
abbrev aMr:= @List.mem_iff_getElem?
abbrev aMs:= @PySem.wpAny_newObj_type
abbrev aMt:= @Nat.lt_succ_self
abbrev aMu:= @PySem.mem_of_lookup
abbrev aMv:= @PySem.wpAny_holding
abbrev aMw:= @Nat.lt_succ_of_lt
abbrev aMx:= @List.mem_append_right
abbrev aMy:= @PyProof.Rows.wpS_bind
abbrev aMz:= @PySem.wpAny_field
abbrev aN0:= @PySem.Heap.SameBut.update
abbrev aN1:= @Option.map_eq_some_iff
abbrev aN2:= @PySem.wpAny_seqItems
abbrev aN3:= @PyProof.Rows.slot_tuple_getitem
abbrev aN4:= @PySem.wpAny_rule
abbrev aN5:= @congrArg
abbrev aN6:= @List.mem_map_of_mem
abbrev aN7:= @List.getElem?_eq_getElem
abbrev aN8:= @Bool.false_ne_true
abbrev aN9:= @Nat.zero_le
abbrev aNa:= @PyProof.Rows.wpS_pure
abbrev aNb:= @PyProof.Rows.callWith_type1
abbrev aNc:= @Nat.ne_of_gt
abbrev aNd:= @PySem.Heap.get?_update_other
abbrev aNe:= @decide_eq_false
abbrev aNf:= @Ne.symm
abbrev aNg:= @PySem.F.plainAttrs_list
abbrev aNh:= @Int.eq_ofNat_of_zero_le
abbrev aNi:= @List.mem_filter
abbrev aNj:= @PySem.wpAny_mono
abbrev aNk:= @Nat.lt_irrefl
abbrev aNl:= @PySem.wpAny_attempt
abbrev aNm:= @PySem.F.slot_tuple_iterator_next
abbrev aNn:= @PySem.Heap.get?_update_self
abbrev aNo:= @PySem.W.Looks.of_pure
abbrev aNp:= @PySem.F.slot_enumerate_next
abbrev aNq:= @List.findIdx?_eq_some_iff_getElem
abbrev aNr:= @PySem.wpAny_passesOwn
abbrev aNs:= @List.Perm.of_eq
abbrev aNt:= @Nat.le_of_lt
abbrev aNu:= @List.mem_append_left
abbrev aNv:= @PySem.wpAny_setState_of
abbrev aNw:= @List.mem_of_mem_take
abbrev aNx:= @PySem.wpAny_setEntries_of
abbrev aNy:= @PySem.wpAny_isInstance
abbrev aNz:= @PySem.Calls.spliced_cons
abbrev aO0:= @PySem.wpAny_Call_Name_kw
abbrev aO1:= @PySem.F.called_set
abbrev aO2:= @List.pairwise_cons
abbrev aO3:= @Int.emod_lt_of_pos
abbrev aO4:= @List.nodup_cons
abbrev aO5:= @PySem.codeAny_builtin
abbrev aO6:= @PySem.wpAny_specialOf
abbrev aO7:= @PySem.wpAny_updateSeq
abbrev aO8:= @PySem.wpAny_truthy_bool
abbrev aO9:= @List.countP_congr
abbrev aOa:= @List.mem_iff_getElem
abbrev aOb:= @PySem.wpAny_newTuple
abbrev aOc:= @PySem.Heap.size_push
abbrev aOd:= @List.getElem?_of_mem
abbrev aOe:= @PySem.wpAny_typeOf
abbrev aOf:= @PySem.wpAny_forIn_list
abbrev aOg:= @List.nodup_range
abbrev aOh:= @List.pairwise_iff_getElem
abbrev aOi:= @PySem.Calls.call_function_entry
abbrev aOj:= @PyProof.Rows.F.entry_set_update_loop
abbrev aOk:= @List.getElem_of_mem
abbrev aOl:= @PySem.wpAny_standAt
abbrev aOm:= @PySem.F.args_tuple_add_2
abbrev aOn:= @PySem.F.slot_list_extend
abbrev aOo:= @PySem.F.slot_zip_next
abbrev aOp:= @Int.emod_nonneg
abbrev aOq:= @PySem.wpAny_pyIter_tuple
abbrev aOr:= @PySem.F.entry_tuple_add
abbrev aOs:= @Nat.le_succ
abbrev aOt:= @List.length_eq_zero_iff
abbrev aOu:= @PySem.codeAny_mono
abbrev aOv:= @PySem.F.slot_tuple_add
abbrev aOw:= @PySem.Calls.callWith_builtin
abbrev aOx:= @List.pairwise_lt_range
abbrev aOy:= @PySem.wpAny_pyIter_list
abbrev aOz:= @PySem.wpAny_pyIter_slot
abbrev aP0:= @PyProof.Rows.wpS_forRange
abbrev aP1:= @PySem.F.slot_tuple_hash
abbrev aP2:= @List.ext_getElem?
abbrev aP3:= @PySem.F.slot_dict_get
abbrev aP4:= @List.countP_le_length
abbrev aP5:= @Nat.le_of_not_lt
abbrev aP6:= @PySem.wpAny_askSetting
abbrev aP7:= @beq_iff_eq
abbrev aP8:= @List.ext_getElem
abbrev aP9:= @PySem.plainId_quiet
abbrev aPa:= @PySem.Calls.evalArgs_plain
abbrev aPb:= @PySem.wpAny_execs_nil
abbrev aPc:= @PySem.F.slot_dict_setdefault
abbrev aPd:= @List.idxOf_lt_length_of_mem
abbrev aPe:= @PySem.call_meets
abbrev aPf:= @PySem.tupleKind_room_in1
abbrev aPg:= @Nat.lt_or_eq_of_le
abbrev aPh:= @PySem.wpAny_fieldsOf
abbrev aPi:= @List.map_inj_right
abbrev aPj:= @PySem.wpAny_tupleItemsOf
abbrev aPk:= @List.Perm.cons_inv
abbrev aPl:= @List.take_sublist
abbrev aPm:= @PySem.wpAny_mkInt
abbrev aPn:= @PySem.W.mg_of
abbrev aPo:= @List.getElem_inj
abbrev aPp:= @List.map_snd_zip
abbrev aPq:= @Nat.lt_trans
abbrev aPr:= @Nat.succ.inj
abbrev aPs:= @Nat.not_lt_zero
abbrev aPt:= @List.append_inj
abbrev aPv:=PySem.Value->PySem.Shared->Prop
abbrev aPw:=PyProof.Rows.Keyed->PyProof.Rows.Keyed->Bool
abbrev aPx:=PySem.Str->Option PySem.Value
abbrev aPy:=Array PyProof.Rows.Keyed
namespace L2
open PySem PySem.Spec PyProof.Rows
abbrev Key:=Sum Int Str
def BF:Key->Value->Bool
 | .inl k,v=>Value.isInt k v
 | .inr x,v=>Value.isStrOf x v
def aLf(w:World):Key->Int
 | .inl k=>hashInt k
 | .inr x=>hashStr w x
theorem bL:∀{k:Key} {v:Value},BF k v=true->(∃i t,k=Sum.inl i/\v=Value.int i t)\/(∃x t,k=Sum.inr x/\v=Value.str x t)
 | .inl i,v,h=>by
  obtain⟨t,e⟩:=Value.isInt_shape (k:=i) (v:=v) h;exact .inl ⟨i,t,rfl,e⟩
 | .inr x,v,h=>by
  obtain⟨t,e⟩:=Value.isStrOf_shape (x:=x) (v:=v) h;exact .inr ⟨x,t,rfl,e⟩
theorem OR(i:Int)(t:Tok):BF (.inl i) (.int i t)=true:=by simp[BF,Value.isInt]
theorem OQ(x:Str)(t:Tok):BF (.inr x) (.str x t)=true:=by simp[BF,Value.isStrOf]
theorem aDr(a b:Int):decide ((Sum.inl a:Key)=Sum.inl b)=(a==b):=by
 by_cases e:a=b
 ·subst e;simp
 ·have h:¬(Sum.inl a:Key)=Sum.inl b:=λq=>e (Sum.inl.inj q);rw[decide_eq_false h];exact(beq_eq_false_iff_ne.mpr e).symm
theorem aDo(a b:Str):decide ((Sum.inr a:Key)=Sum.inr b)=decide (a=b):=by
 by_cases e:a=b
 ·subst e;simp
 ·have h:¬(Sum.inr a:Key)=Sum.inr b:=λq=>e (Sum.inr.inj q);rw[decide_eq_false h,decide_eq_false e]
theorem aDq(a:Int)(b:Str):decide ((Sum.inl a:Key)=Sum.inr b)=false:=aNe (λq=>nomatch q)
theorem aDp(a:Str)(b:Int):decide ((Sum.inr a:Key)=Sum.inl b)=false:=aNe (λq=>nomatch q)
def aW(prog:Program)(w:World):PySem.KeyKind prog w Key where
 is:=BF
 hash:=aLf w
 inj:=λv a b ha f=>by
  rcases bL ha with ⟨i,t,rfl,rfl⟩ | ⟨x,t,rfl,rfl⟩
  ·rcases bL f with ⟨j,u,rfl,e⟩ | ⟨y,u,rfl,e⟩
   ·injection e with c _;rw[c]
   ·exact nomatch e
  ·rcases bL f with ⟨j,u,rfl,e⟩ | ⟨y,u,rfl,e⟩
   ·exact nomatch e
   ·injection e with c _;rw[c]
 byValue:=λk v h=>by
  rcases bL h with ⟨i,t,rfl,rfl⟩ | ⟨x,t,rfl,rfl⟩ <;> rfl
 pyHash:=λd h=>by
  rcases bL d with ⟨i,t,rfl,rfl⟩ | ⟨x,t,rfl,rfl⟩
  ·exact wpAny_pyHash_int h
  ·exact wpAny_pyHash_str h
 eqBool:=λg d h=>by
  rcases bL g with ⟨i,t,rfl,rfl⟩ | ⟨x,t,rfl,rfl⟩
  ·rcases bL d with ⟨j,u,rfl,rfl⟩ | ⟨y,u,rfl,rfl⟩
   ·rw[aDr]at h;exact wpAny_eqBool_int h
   ·rw[aDq]at h;exact SeqAt.EqAt.int_str i t y u _ _ _ _ h
  ·rcases bL d with ⟨j,u,rfl,rfl⟩ | ⟨y,u,rfl,rfl⟩
   ·rw[aDp]at h;exact SeqAt.EqAt.str_int x t j u _ _ _ _ h
   ·rw[aDo]at h;exact wpAny_eqBool_str h
 «strs»:=λk x t v h=>by
  rcases bL h with ⟨i,u,rfl,e⟩ | ⟨y,u,rfl,e⟩
  ·exact nomatch e
  ·injection e with c _;subst c;cases v <;> rfl
theorem F9(prog:Program)(w:World)(i:Int)(t:Tok):(aW prog w).is (.inl i) (.int i t)=true:=OR i t
theorem F8(prog:Program)(w:World)(x:Str)(t:Tok):(aW prog w).is (.inr x) (.str x t)=true:=OQ x t
inductive V where
 | bU | bl (b:Bool) | int (i:Int) | str (x:Str) | byt (b:Array UInt8) | flt (b:UInt64) | ref (a:Addr) | ty (n:String)
 deriving DecidableEq
def RelV:V->Value->Prop
 | .bU,u=>u=Value.none
 | .bl b,u=>u=Value.bool b
 | .int i,u=>∃t,u=Value.int i t
 | .str x,u=>∃t,u=Value.str x t
 | .byt b,u=>∃t,u=Value.bytes b t
 | .flt b,u=>∃t,u=Value.float b t
 | .ref a,u=>u=Value.ref a
 | .ty n,u=>u=Value.type n
abbrev Vals:List V->List Value->Prop:=Paired RelV
variable{us:List Value}
theorem Vals.length{xs:List V}(r:Vals xs us):xs.length=us.length:=Paired.length r
theorem Vals.get:∀{xs:List V} {us:List Value} {i:Nat} {x:V},Vals xs us->xs[i]? =some x->∃u,us[i]? =some u/\RelV x u
 | _,_,_,_,.nil,e=>by simp at e
 | _,_,0,_,.cons r _,e=>by simp at e;subst e;exact⟨_,rfl,r⟩
 | _,_,i+1,x,.cons _ t,e=>by
  obtain⟨u,a,b⟩:=Vals.get (i:=i) (x:=x) t (by simpa using e);exact⟨u,by simpa using a,b⟩
theorem Vals.set{x:V}{u:Value}(r:RelV x u):∀{xs:List V} {us:List Value} (i:Nat),Vals xs us->Vals (xs.set i x) (us.set i u)
 | _,_,_,.nil=>.nil
 | _,_,0,.cons _ t=>.cons r t
 | _,_,i+1,.cons q t=>.cons q (Vals.set r i t)
theorem Vals.append:∀{xs a:List V} {us ws:List Value},Vals xs us->Vals a ws->Vals (xs++a) (us++ws)
 | _,_,_,_,.nil,s=>s
 | _,_,_,_,.cons r t,s=>.cons r (Vals.append t s)
theorem Vals.take:∀{xs:List V} {us:List Value} (n:Nat),Vals xs us->Vals (xs.take n) (us.take n)
 | _,_,0,_=>.nil
 | _,_,_+1,.nil=>.nil
 | _,_,n+1,.cons r t=>.cons r (Vals.take n t)
theorem Vals.drop:∀{xs:List V} {us:List Value} (n:Nat),Vals xs us->Vals (xs.drop n) (us.drop n)
 | _,_,0,r=>r
 | _,_,_+1,.nil=>.nil
 | _,_,n+1,.cons _ t=>Vals.drop n t
def vR:Option V->Option Value->Prop
 | some v,some u=>RelV v u
 | none,none=>True
 | _,_=>False
def KV{κ:Type}:List (κ×V)->List (κ×Value)->Prop:=Paired λ(p:κ×V) (q:κ×Value)=>p.1=q.1/\RelV p.2 q.2
def kV:Key->V
 | .inl i=>.int i
 | .inr x=>.str x
inductive HO where
 | lst (xs:List V)
 | tup (xs:List V)
 | dK (kvs:List (Key×V)) | dT (kvs:List (List Key×V))
 | set (S:Int->Bool) (n:Nat)
 | ins (C dx:Addr) (fs:List (Str×V))
 | own (x:Addr)
 | xd (fs:List (Str×V))
 | met (f x:Addr)
 | rng (lo hi:Int)
 | frz (o:Obj) (u:HO)
 | tbl (ps:Array Value)
 | ext (φ:World->Heap->Prop)
abbrev Hp:=Addr->Option HO
def upd(H:Hp)(a:Addr)(o:HO):Hp:=λb=>if b=a then some o else H b
variable{H:Hp}{a:Addr}
theorem bY{o:HO}:upd H a o a=some o:=by unfold upd;rw[if_pos rfl]
variable{b:Addr}
theorem bD{o:HO}(h:b≠a):upd H a o b=H b:=by unfold upd;rw[if_neg h]
theorem aHj{o u:HO}(h:H a=some o)(h' :H b=some u)(d:o≠u):a≠b:=by
 intro e;subst e;rw[h]at h';exact d (aMn h')
theorem bV{o:HO}(h:H a=some o)(h' :H b=none):a≠b:=by
 intro e;subst e;rw[h]at h';cases h'
theorem CH(h:Heap)(items:Array Value):∀o,(h.push {cls:= .type "tuple",data:= .seq items}).get? h.objs.size=some o->o.dict=none:=λo e=>by rw[Heap.get?_push_size _ rfl]at e;cases e;rfl
section
variable (P:Program)(w:World)
def dF(H:Hp)(h:Heap)(a:Addr):HO->Prop
 | .lst xs=>xs.length<=sizeLine/\∃(aM:List Value) (n:Nat),Vals xs aM/\h.get? a=some {cls:= .type "list",data:= .seq aM.toArray n}
 | .tup xs=>xs.length<=sizeLine/\∃aM:List Value,Vals xs aM/\IsTup h a aM.toArray/\∀o,h.get? a=some o->o.dict=none
 | .dK kvs=>kvs.length<=sizeLine/\(a==sysModules)=false/\∃vs,KV kvs vs/\h.DictOf (aW P w) a vs
 | .dT kvs=>kvs.length<=sizeLine/\(a==sysModules)=false/\∃xs:List (List Key×Addr×Value),
   Paired (λ(p:List Key×V) (q:List Key×Addr×Value)=>p.1=q.1/\H q.2.1=some (.tup (p.1.map kV))/\RelV p.2 q.2.2) kvs xs/\
   ∃o es e,h.get? a=some o/\o.ExactDict/\o.data= .dict es e/\es.toList=xs.map (entryOfKey (tupleKind (aW P w)))/\(xs.map (·.1)).Nodup
 | .set S n=>h.SetOf (intKind P w) a S n
 | .ins C dx fs=>H dx=some (.own a)/\fs.length<=1000/\dx≠a/\h.get? a=some (PySem.W.instObj C dx)/\
   ∃b,h.Ns1 dx b/\(∀f,vR (fs.lookup f) (b f))/\PySem.Within b (fs.map (·.1))
 | .own _=>∃o,h.get? a=some o
 | .xd fs=>∃b,h.Ns1 a b/\∀f,vR (fs.lookup f) (b f)
 | .rng lo hi=>∃t u v,h.get? a=some {cls:= .type "range",data:= .fields #[.int lo t,.int hi u,.int 1 v]}
 | .frz o u=>h.get? a=some o/\dF H h a u
 | .tbl ps=>h.get? a=some {cls:= .none,data:= .fields ps}
 | .met f x=>h.get? a=some (PySem.W.methodObj (.ref f) (.ref x))
 | .ext φ=>φ w h/\(∃o,h.get? a=some o)/\∀c d:Heap,φ w c->(∀o,c.get? a=some o->d.get? a=some o)->φ w d
def tE(H:Hp)(h:Heap):Prop:=∀a o,H a=some o->dF P w H h a o
end
section
variable {P:Program}{w:World}{H H' :Hp}{h h' :Heap}{a:Addr}{o:HO}
theorem dF.lt(x:dF P w H h a o):a<h.objs.size:=by
 cases o with
 | lst xs=>obtain⟨_,_,_,_,e⟩:=x;exact aMb e
 | tup xs=>obtain⟨_,_,_,p,_⟩:=x;exact p.lt
 | dK kvs=>obtain⟨_,_,_,_,o,_,_,e,_⟩:=x;exact aMb e
 | dT kvs=>obtain⟨_,_,_,_,o,_,_,e,_⟩:=x;exact aMb e
 | set S n=>obtain⟨o,_,_,_,e,_⟩:=x;exact aMb e
 | ins C dx fs=>obtain⟨_,_,_,e,_⟩:=x;exact aMb e
 | own y=>obtain⟨_,e⟩:=x;exact aMb e
 | xd fs=>obtain⟨_,⟨_,_,_,e,_⟩,_⟩:=x;exact aMb e
 | rng lo hi=>obtain⟨_,_,_,e⟩:=x;exact aMb e
 | frz ob u=>obtain⟨e,_⟩:=x;exact aMb e
 | tbl ps=>exact aMb (show h.get? a=some _ from x)
 | met f y=>exact aMb (show h.get? a=some _ from x)
 | ext φ=>obtain⟨_,⟨_,e⟩,_⟩:=x;exact aMb e
theorem Paired.aCs{d e:Type}{F G:d->e->Prop}:∀{l₁:List d} {c:List e},Paired F l₁ c->(∀a b,F a b->G a b)->Paired G l₁ c
 | _,_,.nil,_=>.nil
 | _,_,.cons r t,f=>.cons (f _ _ r) (Paired.aCs t f)
theorem dF.IJ(x:dF P w H h a o)(k:∀b u,(b=a\/H b=some (.own a))->h.get? b=some u->h'.get? b=some u)
  (ho:∀b,H b=some (.own a)->H' b=some (.own a)) (ht:∀b xs,H b=some (.tup xs)->H' b=some (.tup xs)):dF P w H' h' a o:=by
 induction o with
 | lst xs=>obtain⟨z,aM,n,r,e⟩:=x;exact⟨z,aM,n,r,k _ _ (.inl rfl) e⟩
 | tup xs=>obtain⟨z,aM,r,⟨ob,e,c⟩,nd⟩:=x;exact⟨z,aM,r,⟨ob,k _ _ (.inl rfl) e,c⟩,λo' j =>by rw[k _ _ (.inl rfl) e]at j;cases j;exact nd _ e⟩
 | dK kvs=>obtain⟨z,y,vs,r,ob,es,g,e,c⟩:=x;exact⟨z,y,vs,r,ob,es,g,k _ _ (.inl rfl) e,c⟩
 | dT kvs=>
  obtain⟨z,y,xs,r,ob,es,g,e,c⟩:=x;exact⟨z,y,xs,Paired.aCs r λp q z=>⟨z.1,ht _ _ z.2.1,z.2.2⟩,ob,es,g,k _ _ (.inl rfl) e,c⟩
 | set S n=>obtain⟨ob,es,g,t,e,c⟩:=x;exact⟨ob,es,g,t,k _ _ (.inl rfl) e,c⟩
 | ins C dx fs=>
  obtain⟨d,z,ne,e,i,⟨od,es,g,l,c⟩,r⟩:=x;exact⟨ho _ d,z,ne,k _ _ (.inl rfl) e,i,⟨od,es,g,k _ _ (.inr d) l,c⟩,r⟩
 | own y=>obtain⟨ob,e⟩:=x;exact⟨ob,k _ _ (.inl rfl) e⟩
 | xd fs=>obtain⟨i,⟨od,es,g,e,c⟩,r⟩:=x;exact⟨i,⟨od,es,g,k _ _ (.inl rfl) e,c⟩,r⟩
 | rng lo hi=>obtain⟨t,u,v,e⟩:=x;exact⟨t,u,v,k _ _ (.inl rfl) e⟩
 | frz ob u ih=>obtain⟨e,q⟩:=x;exact⟨k _ _ (.inl rfl) e,ih q⟩
 | tbl ps=>
  have e:h.get? a=some {cls:= .none,data:= .fields ps}:=x;show h'.get? a=some {cls:= .none,data:= .fields ps};exact k a _ (.inl rfl) e
 | met f y=>
  have e:h.get? a=some (PySem.W.methodObj (.ref f) (.ref y)):=x;show h'.get? a=some (PySem.W.methodObj (.ref f) (.ref y));exact k a _ (.inl rfl) e
 | ext φ=>obtain⟨p,⟨o,e⟩,st⟩:=x;exact⟨st _ _ p λo q=>k _ _ (.inl rfl) q,⟨o,k _ _ (.inl rfl) e⟩,st⟩
theorem tE.lt(x:tE P w H h)(e:H a=some o):a<h.objs.size:=(x a o e).lt
theorem tE.fresh(x:tE P w H h)(e:h.objs.size<=a):H a=none:=by
 cases q:H a with
 | none=>rfl
 | some u=>exact absurd (aMj (x.lt q) e) (aNk _)
theorem tE.kept(x:tE P w H h)(k:∀b u,h.get? b=some u->h'.get? b=some u):tE P w H h' :=λa o e=>
 (x a o e).IJ (λb u _ q=>k b u q) (λ_ q=>q) λ_ _ q=>q
theorem tE.laid(x:tE P w H h)(k:∀b u,h.get? b=some u->h'.get? b=some u)(g:h.objs.size<=a)(new:dF P w (upd H a o) h' a o):tE P w (upd H a o) h' :=λb u e=>by
 have d:=x.fresh g;by_cases f:b=a
 ·subst f;rw[bY]at e;cases e;exact new
 ·rw[bD f]at e;exact(x b u e).IJ (λc v _ q=>k c v q) (λc q=>by rw[bD (bV q d)];exact q) λc xs q=>by rw[bD (bV q d)];exact q
end
def Rd(H:Hp)(a:Addr)(u:HO):Prop:=H a=some u\/∃o,H a=some (.frz o u)
variable{P:Program}{w:World}{h:Heap}
theorem Rd.ok{u:HO}(r:Rd H a u)(x:tE P w H h):dF P w H h a u:=by
 rcases r with r | ⟨o,r⟩
 ·exact x a u r
 ·obtain⟨_,q⟩:=x a _ r;exact q
def VB:Option HO->Prop
 | some (.lst _)=>True
 | some (.dK _)=>True
 | some (.dT _)=>True
 | some (.set _ _)=>True
 | some (.ins _ _ _)=>True
 | some (.ext _)=>True
 | _=>False
section
variable {P:Program}{w:World}{H:Hp}{h h' :Heap}{x e:Addr}{o' :HO}
theorem tE.write(ok:tE P w H h)(g:VB (H x))(he:e=x\/H e=some (.own x))(k:∀b u,b≠e->h.get? b=some u->h'.get? b=some u)(j:∃u,h'.get? e=some u)
  (new:dF P w (upd H x o') h' x o'):tE P w (upd H x o') h' :=λb u q=>by
 have d:∀c y,H c=some (.own y)->c≠x:=λc y r z=>by subst z;rw[r]at g;exact g
 have f:∀c xs,H c=some (.tup xs)->c≠x:=λc xs r z=>by subst z;rw[r]at g;exact g
 by_cases i:b=x
 ·subst i;rw[bY]at q;cases q;exact new
 ·rw[bD i]at q;by_cases a:b=e
  ·have l :H b=some (.own x):=by
    rcases he with z | z
    ·exact absurd (a.trans z) i
    ·rw[a];exact z
   rw[q]at l;cases l;obtain⟨v,m⟩:=j;exact⟨v,by rw[a];exact m⟩
  ·refine(ok b u q).IJ (λc v hc r=>k c v ?_ r) (λc r=>by rw[bD (d c b r)];exact r) λc xs r=>by rw[bD (f c xs r)];exact r
   rcases hc with rfl | hc
   ·exact a
   ·rintro rfl;rcases he with z | z
    ·exact d c b hc z
    ·rw[hc]at z;cases z;exact i rfl
end
structure Un(fs ex:List Addr)(H H' :Hp)(h h' :Heap):Prop where
 keep:∀b o,h.get? b=some o->H b=none->b∉fs->b∉ex->h'.get? b=some o
 slot:∀b o,h.get? b=some o->H b=none->b∈fs->b∉ex->∃sl,h'.get? b=some {o with slots:=sl}
 free:∀b o,h.get? b=some o->H b=none->b∉ex->H' b=none
 there:∀b o,h.get? b=some o->b∉ex->∃o',h'.get? b=some o'
 E7:∀b xs,H b=some (.tup xs)->H' b=some (.tup xs)
 DZ:∀b o u,H b=some (.frz o u)->H' b=some (.frz o u)
 E8:∀b ps,H b=some (.tbl ps)->∃more,H' b=some (.tbl (ps++more))
section
variable {fs fs' ex ex' :List Addr}{H H1 H2:Hp}{h h1 h2 h' :Heap}{a x e:Addr}{o:HO}
theorem Un.any(u:Un fs ex H H1 h h1){ob:Obj}(q:h.get? b=some ob)(n:H b=none)(a:b∉ex):∃sl,h1.get? b=some {ob with slots:=sl}:=by
 by_cases c:b∈fs
 ·exact u.slot b ob q n c a
 ·exact⟨ob.slots,u.keep b ob q n c a⟩
theorem Un.kept(k:∀b u,h.get? b=some u->h'.get? b=some u):Un fs ex H H h h' :=
 ⟨λb ob q _ _ _=>k b ob q,λb ob q _ _ _=>⟨ob.slots,k b ob q⟩,λ_ _ _ n _=>n,λb ob q _=>⟨ob,k b ob q⟩,λ_ _ q=>q,λ_ _ _ q=>q,λ_ ps q=>⟨#[],by rw[q];simp⟩⟩
theorem Un.refl:Un fs ex H H h h:=Un.kept λ_ _ q=>q
theorem Un.laid(k:∀b u,h.get? b=some u->h'.get? b=some u)(d:h.objs.size<=a)(c:H a=none):Un fs ex H (upd H a o) h h' where
 keep:=λb u q _ _ _=>k b u q
 slot:=λb u q _ _ _=>⟨u.slots,k b u q⟩
 free:=λb u q n _=>by rw[bD (Nat.ne_of_lt (Nat.lt_of_lt_of_le (Heap.lt_size q) d))];exact n
 there:=λb u q _=>⟨u,k b u q⟩
 E7:=λb xs q=>by rw[bD (bV q c)];exact q
 DZ:=λb u xs q=>by rw[bD (bV q c)];exact q
 E8:=λb ps q=>⟨#[],by rw[bD (bV q c),q];simp⟩
theorem Un.write(c:VB (H x))(he:e=x\/H e=some (.own x))(k:∀b u,b≠e->h.get? b=some u->h'.get? b=some u)(d:∃u,h'.get? e=some u):Un fs ex H (upd H x o) h h' :=by
 have f:∀b,H b=none->b≠x:=λb n z=>by subst z;rw[n]at c;exact c
 have g:∀b,H b=none->b≠e:=λb n z=>by
  subst z;rcases he with r | r
  ·exact f b n r
  ·rw[n]at r;cases r
 have hm:∀b u,H b=some u->¬VB (some u)->b≠x:=λb u q nm z=>by subst z;rw[q]at c;exact nm c
 refine⟨λb u q n _ _=>k b u (g b n) q,λb u q n _ _=>⟨u.slots,k b u (g b n) q⟩,λb u q n _=>by rw[bD (f b n)];exact n,λb u q _=>?_,
  λb xs q=>by rw[bD (hm b _ q λz=>z)];exact q,λb u xs q=>by rw[bD (hm b _ q λz=>z)];exact q,λb ps q=>⟨#[],by rw[bD (hm b _ q λz=>z),q];simp⟩⟩
 by_cases a:b=e
 ·subst a;exact d
 ·exact⟨u,k b u a q⟩
end
def trk(h:Heap)(H:Hp):List Addr:=(List.range h.objs.size).filter λa=>(H a).isSome
def DV(h:Heap)(H:Hp):Heap:=PySem.W.hideAll h (trk h H)
theorem OY(h:Heap)(H:Hp):(DV h H).objs.size=h.objs.size:=PySem.W.hideAll_size _ _
variable{o:Obj}
theorem TM(e:h.get? b=some o)(n:H b=none):(DV h H).get? b=some o:=
 PySem.W.hideAll_get _ e λhm=>by
  have q:(H b).isSome=true:=(aNi.mp hm).2;rw[n]at q;simp at q
theorem XI(e:(DV h H).get? b=some o):h.get? b=some o/\H b=none:=by
 have a :h.get? b=some o:=PySem.W.of_hideAll (trk h H) e;refine⟨a,?_⟩
 cases q:H b with
 | none=>rfl
 | some x=>
  have hm:b∈trk h H:=aNi.mpr ⟨List.mem_range.mpr (aMb a),by simp[q]⟩;have z:(DV h H).get? b=none:=PySem.W.hideAll_none (trk h H) hm;rw[z]at e;cases e
structure Mod(K:aPu)(mg:aPx)(base:Heap):Prop where
 kin:K.In base
 glob:base.Ns mainGlobals mg
 blt:∃mb,base.Ns builtinsNs mb/\∀x:Str,x≠ "__name__"->mb x=bootBuiltins x
 nolimit:base.NoLimit
structure Cx where
 prog:Program
 w:World
 K:aPu
 mg:aPx
 base:Heap
 A:Around
 N:List Str
 s₀:Shared
 H₀:Hp
 env:Env
 outer:List Env
 stack:List Env
 ex:List Addr
 fn:Str->Bool
 calm:Bool
 pn:List (Addr×Obj)
 xe:aPv
def T7(l:List Env):List Addr:=l.filterMap (·.frame)
abbrev Cx.fs(X:Cx):List Addr:=T7 X.outer
def Vis(sc:Scope)(x:Str):Prop:=sc.names.lookup x=some .local\/sc.names.lookup x=some .cell\/sc.names.lookup x=some .free
def Loc(sc:Scope)(x:Str):Prop:=sc.names.lookup x=some .local\/sc.names.lookup x=some .cell
def Look(env:Env)(h:Heap)(m:aPx)(x:Str)(u:Value):Prop:=
 (env.kindOf x=some .local/\m x=some u)\/((env.kindOf x=some .cell\/env.kindOf x=some .free)/\∃c,env.cells.lookup x=some c/\h.IsCell c (some u))
structure Cx.Ok(X:Cx):Prop where
 mod:Mod X.K X.mg X.base
 kind:X.env.scope.kind= .function
 glob:X.env.globals=mainGlobals
 blt:X.env.builtins=builtinsNs
 above:X.s₀.heap.objs.size<=X.env.locals
 inj:∀x y c,X.env.cells.lookup x=some c->X.env.cells.lookup y=some c->x=y
 has:∀x,(X.env.kindOf x=some .cell\/X.env.kindOf x=some .free)->∃c,X.env.cells.lookup x=some c
 cab:∀x c,X.fn x=true->X.env.cells.lookup x=some c->X.s₀.heap.objs.size<=c
 hd:X.calm=true->X.A.handled=none
 frames:X.A.frames=some X.stack
 stk:X.stack=X.outer\/(X.stack=X.env::X.outer/\X.env.frame=some X.env.locals)
 exf:∀b∈X.ex,b≠X.env.locals/\∀x c,X.env.cells.lookup x=some c->c≠b
 bs:∀b o,X.base.get? b=some o->X.s₀.heap.get? b=some o/\X.H₀ b=none
 ZN:X.base.objs.size<=X.s₀.heap.objs.size
 RW:∀b o,X.base.get? b=some o->b∉X.ex
 UE:∀b∈X.ex,b∉X.fs
 yM:X.s₀.heap.FunFrames X.base X.outer
 frf:∀b∈X.fs,X.H₀ b=none
structure Inv(X:Cx)(pins:List (Addr×Obj))(σ:List (Option V))(H:Hp)(s:Shared):Prop where
 ok:X.Ok
 os:s.os=X.s₀.os
 bare:AllBare s.gens
 base:Un X.fs X.ex X.H₀ H X.s₀.heap s.heap
 loc:∃m,s.heap.Ns X.env.locals m/\∀(i:Nat) (x:Str) (v:V),X.N[i]? =some x->σ[i]? =some (some v)->Vis X.env.scope x->∃u,RelV v u/\Look X.env s.heap m x u
 cell:∀x c,X.env.cells.lookup x=some c->∃v,s.heap.IsCell c v
 free:H X.env.locals=none
 oS:∀x c,X.env.cells.lookup x=some c->H c=none
 pin:∀p∈X.pn++pins,s.heap.get? p.1=some p.2/\H p.1=none/\p.1≠X.env.locals/\p.1∉X.fs/\∀v,p.2.data≠ .cell v
 cS:tE X.prog X.w H s.heap
 len:σ.length=X.N.length
section
variable {X:Cx}{pins:List (Addr×Obj)}{σ:List (Option V)}{H H' :Hp}{s:Shared}{h' :Heap}
theorem Cx.Ok.aL5(ok:X.Ok)(e:X.base.get? b=some o):b∉X.fs:=λa=>by
 have:=(ok.yM.mem a).1;rw[e]at this;cases this
theorem Inv.bs(I:Inv X pins σ H s):∀b o,X.base.get? b=some o->s.heap.get? b=some o/\H b=none:=λb o e=>
 ⟨I.base.keep b o (I.ok.bs b o e).1 (I.ok.bs b o e).2 (I.ok.aL5 e) (I.ok.RW b o e),I.base.free b o (I.ok.bs b o e).1 (I.ok.bs b o e).2 (I.ok.RW b o e)⟩
theorem Inv.bk(I:Inv X pins σ H s):∀b o,X.base.get? b=some o->s.heap.get? b=some o:=λb o e=>(I.bs b o e).1
theorem Inv.mod(I:Inv X pins σ H s):Mod X.K X.mg X.base:=I.ok.mod
theorem Inv.kIn(I:Inv X pins σ H s):X.K.In s.heap:=I.ok.mod.kin.keeps I.bk
theorem Inv.fr(I:Inv X pins σ H s):∃m,Fr X.base X.env.locals s.heap m:=
 let ⟨m,hn,_⟩:=I.loc
 ⟨m,hn,I.bk,aMq I.ok.ZN I.ok.above⟩
theorem Inv.lt(I:Inv X pins σ H s):X.env.locals<s.heap.objs.size:=let ⟨_,hn,_⟩:=I.loc;hn.lt
theorem Inv.sz(I:Inv X pins σ H s):X.s₀.heap.objs.size<=s.heap.objs.size:=aMq I.ok.above (aNt I.lt)
theorem Inv.aL4(I:Inv X pins σ H s)(h:s.heap.objs.size<=a):a∉X.fs:=λb=>by
 obtain⟨_,o,ho,_⟩:=I.ok.yM.mem b;exact absurd (aMj (aMb ho) (aMq I.sz h)) (aNk _)
theorem Inv.cne(I:Inv X pins σ H s):∀x c,X.env.cells.lookup x=some c->c≠X.env.locals:=λx c e z=>by
 obtain⟨v,o,ho,hd⟩:=I.cell x c e;obtain⟨m,⟨o',es,d,a,b,_⟩,_⟩:=I.loc;rw[z,a]at ho;cases ho;rw[b]at hd;cases hd
theorem Inv.yM(I:Inv X pins σ H s):s.heap.FunFrames X.base X.outer:=by
 have all:∀(l:List Env),(∀b∈T7 l,b∈X.fs)->X.s₀.heap.FunFrames X.base l->s.heap.FunFrames X.base l:=by
  intro l
  induction l with
  | nil=>intro _ _;trivial
  | cons env r ih=>
   intro f g;obtain⟨h,⟨L,o,a,i,ho,hd⟩,j⟩:=g;have c:L∈X.fs:=f L (by unfold T7;rw[List.filterMap_cons,a];exact aM8);obtain⟨sl,e⟩:=I.base.slot L o ho (I.ok.frf L c) c λz=>I.ok.UE L z c;exact⟨h,⟨L,_,a,i,e,hd⟩,ih (λb d=>f b (by unfold T7;rw[List.filterMap_cons,a];exact aM9 _ d)) j⟩
 exact all X.outer (λ_ d=>d) I.ok.yM
theorem Inv.stack(I:Inv X pins σ H s):s.heap.FunFrames X.base X.stack:=by
 rcases I.ok.stk with e | ⟨e,a⟩
 ·rw[e];exact I.yM
 ·rw[e];obtain⟨m,b,_⟩:=I.loc;refine .cons (by rw[I.ok.kind];decide) a b ?_ I.yM;exact Heap.get?_none_of_le (aMq I.ok.ZN I.ok.above)
theorem Inv.II(I:Inv X pins σ H s):∀b∈T7 X.stack,b∈X.env.locals::X.fs:=λb a=>by
 rcases I.ok.stk with e | ⟨e,c⟩
 ·rw[e]at a;exact aM9 _ a
 ·rw[e]at a;unfold T7 at a;rw[List.filterMap_cons,c]at a;exact a
theorem Inv.LF(I:Inv X pins σ H s):∀b∈T7 X.stack,H b=none:=λb hb=>by
 rcases aMf.mp (I.II b hb) with e | hb
 ·rw[e];exact I.free
 ·obtain⟨_,o,ho,_⟩:=I.ok.yM.mem hb;exact I.base.free b o ho (I.ok.frf b hb) λz=>I.ok.UE b z hb
variable{g':Array GenState}{t':Nat}{ch:List Addr}
theorem Inv.step{d' :Drawn}(I:Inv X pins σ H s)
  (f:∀b∈ch,(b∈X.ex\/X.s₀.heap.objs.size<=b)/\b≠X.env.locals/\(∀x c,X.env.cells.lookup x=some c->c≠b)/\∀p∈X.pn++pins,p.1≠b)
  (keep:∀b o,b≠X.env.locals->b∉X.fs->b∉ch->s.heap.get? b=some o->H b=none->h'.get? b=some o)
  (slot:∀b o,b≠X.env.locals->b∈X.fs->b∉ch->s.heap.get? b=some o->H b=none->∃sl,h'.get? b=some {o with slots:=sl}) (free:∀b o,b∉ch->s.heap.get? b=some o->H b=none->H' b=none)
  (there:∀b o,b∉ch->s.heap.get? b=some o->∃o',h'.get? b=some o')
  (E7:∀b xs,H b=some (.tup xs)->H' b=some (.tup xs)) (DZ:∀b o u,H b=some (.frz o u)->H' b=some (.frz o u)) (E8:∀b ps,H b=some (.tbl ps)->∃more,H' b=some (.tbl (ps++more)))
  (ns:∀m,s.heap.Ns X.env.locals m->h'.Ns X.env.locals m) (cS:tE X.prog X.w H' h') (hg:AllBare g'):
  Inv X pins σ H' {s with heap:=h',gens:=g',drawn:=d',toks:=t'}:=by
 have A:∀b o,X.s₀.heap.get? b=some o->b≠X.env.locals:=λb o e=>aMg (aMj (aMb e) I.ok.above)
 have j:∀b o,X.s₀.heap.get? b=some o->b∉X.ex->b∉ch:=λb o e a y=>by
  rcases(f b y).1 with z | z
  ·exact a z
  ·exact absurd (aMj (aMb e) z) (aNk _)
 have g:∀x c,X.env.cells.lookup x=some c->∀v,s.heap.IsCell c v->h'.IsCell c v:=λx c e v C=>by
  obtain⟨o,ho,hd⟩:=C;have h:c∉ch:=λz=>(f c z).2.2.1 x c e rfl;by_cases E:c∈X.fs
  ·obtain⟨sl,q⟩:=slot c o (I.cne x c e) E h ho (I.oS x c e);exact⟨_,q,hd⟩
  ·exact⟨o,keep c o (I.cne x c e) E h ho (I.oS x c e),hd⟩
 refine⟨I.ok,I.os,hg,⟨λb o e n y a=>?_,λb o e n y a=>?_,λb o e n a=>?_,λb o e a=>?_,λb xs e=>E7 b xs (I.base.E7 b xs e),λb o xs e=>DZ b o xs (I.base.DZ b o xs e),λb ps e=>?_⟩,?_,λx c e=>?_,?_,λx c e=>?_,λp F=>?_,cS,I.len⟩
 ·exact keep b o (A b o e) y (j b o e a) (I.base.keep b o e n y a) (I.base.free b o e n a)
 ·obtain⟨sl,t⟩:=I.base.slot b o e n y a;obtain⟨D,B⟩:=slot b _ (A b o e) y (j b o e a) t (I.base.free b o e n a);exact⟨D,B⟩
 ·obtain⟨o',t⟩:=I.base.there b o e a;exact free b o' (j b o e a) t (I.base.free b o e n a)
 ·obtain⟨o',t⟩:=I.base.there b o e a;exact there b o' (j b o e a) t
 ·obtain⟨m1,t⟩:=I.base.E8 b ps e;obtain⟨J,B⟩:=E8 b _ t;exact⟨m1++J,by rw[B,Array.append_assoc]⟩
 ·obtain⟨m,K,L⟩:=I.loc;refine⟨m,ns m K,λi x v t B M=>?_⟩;obtain⟨u,r,l⟩:=L i x v t B M;refine⟨u,r,?_⟩;rcases l with l | ⟨k,c,e,z⟩
  ·exact .inl l
  ·exact .inr ⟨k,c,e,g x c e _ z⟩
 ·obtain⟨v,z⟩:=I.cell x c e;exact⟨v,g x c e v z⟩
 ·obtain⟨m,⟨o,_,_,ho,_⟩,_⟩:=I.loc;exact free _ o (λz=>(f _ z).2.1 rfl) ho I.free
 ·obtain⟨v,o,ho,hd⟩:=I.cell x c e;exact free c o (λz=>(f c z).2.2.1 x c e rfl) ho (I.oS x c e)
 ·obtain⟨e,n,ne,G,d⟩:=I.pin p F;have h:p.1∉ch:=λz=>(f p.1 z).2.2.2 p F rfl;exact⟨keep p.1 p.2 ne G h e n,free p.1 p.2 h e n,ne,G,d⟩
theorem Inv.un(I:Inv X pins σ H s)(u:Un X.fs [] H H' s.heap h')(cS:tE X.prog X.w H' h'):Inv X pins σ H' {s with heap:=h',toks:=t'}:=by
 obtain⟨m,⟨o,es,i,ho,r⟩,_⟩:=id I.loc;obtain⟨sl,g⟩:=u.any ho I.free (by simp)
 exact I.step (g' :=s.gens) (d' :=s.drawn) (ch:=[]) (λ_ z=>nomatch z) (λb o _ c _ e n=>u.keep b o e n c (by simp)) (λb o _ c _ e n=>u.slot b o e n c (by simp)) (λb o _ e n=>u.free b o e n (by simp)) (λb o _ e=>u.there b o e (by simp)) u.E7 u.DZ u.E8 (λj hm=>by
  obtain⟨o',d,f,a,h⟩:=hm;rw[ho]at a;cases a
  exact⟨_,d,f,g,h⟩) cS I.bare
theorem Inv.call{d' :Drawn}(I:Inv X pins σ H s)(u:Un (T7 X.stack) ch H H' s.heap h')(cS:tE X.prog X.w H' h')(hg:AllBare g')
  (d:∀b∈ch,(b∈X.ex\/X.s₀.heap.objs.size<=b)/\b≠X.env.locals/\(∀x c,X.env.cells.lookup x=some c->c≠b)/\∀p∈X.pn++pins,p.1≠b):
  Inv X pins σ H' {s with heap:=h',gens:=g',drawn:=d',toks:=t'}:=by
 obtain⟨m,⟨o,es,l,ho,r⟩,_⟩:=id I.loc;obtain⟨sl,g⟩:=u.any ho I.free λz=>(d _ z).2.1 rfl
 exact I.step (ch:=ch) d (λb o g j a e n=>u.keep b o e n (λz=>(aMf.mp (I.II b z)).elim g j) a) (λb o _ _ a e n=>u.any e n a) (λb o a e n=>u.free b o e n a) (λb o a e=>u.there b o e a) u.E7 u.DZ u.E8 (λq hm=>by
  obtain⟨o',h,i,f,k⟩:=hm;rw[ho]at f;cases f
  exact⟨_,h,i,g,k⟩) cS hg
theorem Inv.turned{it:Addr}(I:Inv X pins σ H s)(k:∀b o,b≠it->s.heap.get? b=some o->h'.get? b=some o)(g:H it=none)(f:it≠X.env.locals)
  (h:it∈X.ex\/X.s₀.heap.objs.size<=it) (i:∀x c,X.env.cells.lookup x=some c->c≠it) (j:∀p∈X.pn++pins,p.1≠it):Inv X pins σ H {s with heap:=h',toks:=t'}:=by
 have d:∀b u,H b=some u->b≠it:=λb u e z=>by rw[z,g]at e;cases e
 refine I.step (g' :=s.gens) (d' :=s.drawn) (ch:=[it]) (λb l=>?_) (λb o _ _ a e _=>k b o (λz=>a (by simp[z])) e) (λb o _ _ a e _=>⟨o.slots,k b o (λz=>a (by simp[z])) e⟩) (λ_ _ _ _ n=>n)
  (λb o a e=>⟨o,k b o (λz=>a (by simp[z])) e⟩) (λ_ _ e=>e) (λ_ _ _ e=>e) (λb ps e=>⟨#[],by rw[e];simp⟩) (λm hm=>?_) (λb u e=>?_) I.bare
 ·have e:b=it:=by simpa using l
  subst e;exact⟨h,f,i,j⟩
 ·obtain⟨o,es,t,ho,r⟩:=hm;exact⟨o,es,t,k _ o (aNf f) ho,r⟩
 ·refine(I.cS b u e).IJ (λc v a q=>k c v ?_ q) (λ_ q=>q) λ_ _ q=>q;rcases a with z | z
  ·rw[z];exact d b u e
  ·exact d c _ z
theorem Inv.tok(I:Inv X pins σ H s)(t:Nat):Inv X pins σ H {s with toks:=t}:=I.un (h' :=s.heap) (t' :=t) Un.refl I.cS
theorem Inv.kept(I:Inv X pins σ H s)(k:∀b u,s.heap.get? b=some u->h'.get? b=some u):Inv X pins σ H {s with heap:=h',toks:=t'}:=I.un (Un.kept k) (I.cS.kept k)
theorem Inv.laid{o:HO}(I:Inv X pins σ H s)(k:∀b u,s.heap.get? b=some u->h'.get? b=some u)(c:s.heap.objs.size<=a)(new:dF X.prog X.w (upd H a o) h' a o):
  Inv X pins σ (upd H a o) {s with heap:=h',toks:=t'}:=I.un (Un.laid k c (I.cS.fresh c)) (I.cS.laid k c new)
theorem Inv.write{x e:Addr}{o:HO}(I:Inv X pins σ H s)(c:VB (H x))(he:e=x\/H e=some (.own x))(k:∀b u,b≠e->s.heap.get? b=some u->h'.get? b=some u)(a:∃u,h'.get? e=some u)
  (new:dF X.prog X.w (upd H x o) h' x o):Inv X pins σ (upd H x o) {s with heap:=h',toks:=t'}:=I.un (Un.write c he k a) (I.cS.write c he k a new)
theorem Inv.weak{a :List (Option V)}(I:Inv X pins σ H s)(b:a.length=σ.length)(w:∀(i:Nat) v,a[i]? =some (some v)->σ[i]? =some (some v)):Inv X pins a H s:=
 ⟨I.ok,I.os,I.bare,I.base,let ⟨m,hn,hl'⟩:=I.loc;⟨m,hn,λi x v c d e=>hl' i x v c (w i v d) e⟩,I.cell,I.free,I.oS,I.pin,I.cS,b.trans I.len⟩
theorem Inv.LQ{a :List (Addr×Obj)}(I:Inv X pins σ H s)(h:∀p∈a,s.heap.get? p.1=some p.2/\H p.1=none/\p.1≠X.env.locals/\p.1∉X.fs/\∀v,p.2.data≠ .cell v):Inv X a σ H s:=
 ⟨I.ok,I.os,I.bare,I.base,I.loc,I.cell,I.free,I.oS,λp b=>(aMi.mp b).elim (λz=>I.pin p (aNu _ z)) (h p),I.cS,I.len⟩
theorem F2{N:List Str}(hN:N.Nodup){i j:Nat}{x:Str}(a:N[i]? =some x)(b:N[j]? =some x):i=j:=by
 obtain⟨e,c⟩:=aM6.mp a;obtain⟨f,d⟩:=aM6.mp b;exact(aPo hN).mp (c.trans d.symm)
variable{Q:Unit->Shared->Prop}
theorem AX{M:Model}{A:Around}{E:aPv}{i:Nat}{x:Str}{v:V}{u:Value}(I:Inv X pins σ H s)(hN:X.N.Nodup)(hi:X.N[i]? =some x)(t:Loc X.env.scope x)(r:RelV v u)
  (h:∀U,Inv X pins (σ.set i (some v)) H U ->(∃a,Heap.SameBut a s.heap U.heap/\(a=X.env.locals\/X.env.cells.lookup x=some a))->Q () U) (hf:X.fn x=true\/X.env.scope.names.lookup x=some .local:=by first | exact .inl rfl | exact .inr rfl | assumption):wpAny M A (storeName X.env x u) Q E s:=by
 obtain⟨m,W,hl⟩:=id I.loc;have K:(X.env.scope.kind== .class || (X.env.scope.kind== .module && X.env.locals !=X.env.globals))=false:=by rw[I.ok.kind];rfl
 have D:i<σ.length:=by rw[I.len];exact(aM6.mp hi).1
 have cne:=I.cne
 have g:∀{a:Addr} {h' :Heap},(∃o,s.heap.get? a=some o/\H a=none)->Heap.SameBut a s.heap h' ->tE X.prog X.w H h' :=λ{a h'} ha f b ob e=>by
  obtain⟨_,_,B⟩:=ha;refine(I.cS b ob e).IJ (λc S hc q=>(f.2 c ?_).trans q) (λ_ q=>q) λ_ _ q=>q;rintro rfl;rcases hc with rfl | hc
  ·rw[B]at e;cases e
  ·rw[B]at hc;cases hc
 rcases t with hk | hk
 ·refine wpAny_storeName_local hk W (λh' Y f=>?_) K;obtain⟨oL,_,_,Z,_⟩:=id W;refine h _ ⟨I.ok,I.os,I.bare,⟨λb o e n F t=>?_,λb o e n F t=>?_,I.base.free,λb o e t=>?_,I.base.E7,I.base.DZ,I.base.E8⟩,⟨_,Y,λj y v' l C e3=>?_⟩,λy c e=>?_,I.free,I.oS,λp hp=>?_,g ⟨oL,Z,I.free⟩ f,by simpa using I.len⟩ ⟨_,f,.inl rfl⟩
  ·exact(f.2 b (aMg (aMj (aMb e) I.ok.above))).trans (I.base.keep b o e n F t)
  ·obtain⟨sl,l⟩:=I.base.slot b o e n F t;exact⟨sl,(f.2 b (aMg (aMj (aMb e) I.ok.above))).trans l⟩
  ·obtain⟨o',l⟩:=I.base.there b o e t;exact⟨o',(f.2 b (aMg (aMj (aMb e) I.ok.above))).trans l⟩
  ·by_cases G:j=i
   ·subst G;rw[hi]at l;cases l;rw[List.getElem?_set_self D]at C;cases C;exact⟨u,r,.inl ⟨hk,by simp⟩⟩
   ·rw[List.getElem?_set_ne (Ne.symm G)]at C;obtain⟨u',r',q⟩:=hl j y v' l C e3;refine⟨u',r',?_⟩
    rcases q with ⟨k,e⟩ | ⟨k,c,e,z⟩
    ·refine .inl ⟨k,?_⟩;have:y≠x:=λe=>G (F2 hN l (e▸hi));simp[this,e]
    ·exact .inr ⟨k,c,e,z.sameBut f (cne y c e)⟩
  ·obtain⟨S,z⟩:=I.cell y c e;exact⟨S,z.sameBut f (cne y c e)⟩
  ·obtain⟨e,n,ne,nf,d⟩:=I.pin p hp;exact⟨(f.2 p.1 ne).trans e,n,ne,nf,d⟩
 ·have J:X.fn x=true:=by
   rcases hf with z | z
   ·exact z
   ·rw[z]at hk;cases hk
  obtain⟨c,hc⟩:=I.ok.has x (.inl hk);obtain⟨S,z⟩:=I.cell x c hc;refine wpAny_storeName_cell I.ok.kind hk hc z (λh' L f=>?_);obtain⟨oc,O,P⟩:=id z;refine h {s with heap:=h'} ⟨I.ok,I.os,I.bare,⟨λb o e n F t=>?_,λb o e n F t=>?_,I.base.free,λb o e t=>?_,I.base.E7,I.base.DZ,I.base.E8⟩,⟨m,W.sameBut f (aNf (cne x c hc)),λj y v' l C e3=>?_⟩,λy T e=>?_,I.free,I.oS,λp hp=>?_,g ⟨oc,O,I.oS x c hc⟩ f,by simpa using I.len⟩ ⟨c,f,.inr hc⟩
  ·exact(f.2 b (aMg (aMj (aMb e) (I.ok.cab x c J hc)))).trans (I.base.keep b o e n F t)
  ·obtain⟨sl,l⟩:=I.base.slot b o e n F t;exact⟨sl,(f.2 b (aMg (aMj (aMb e) (I.ok.cab x c J hc)))).trans l⟩
  ·obtain⟨o',l⟩:=I.base.there b o e t;exact⟨o',(f.2 b (aMg (aMj (aMb e) (I.ok.cab x c J hc)))).trans l⟩
  ·by_cases G:j=i
   ·subst G;rw[hi]at l;cases l;rw[List.getElem?_set_self D]at C;cases C;exact⟨u,r,.inr ⟨.inl hk,c,hc,L⟩⟩
   ·rw[List.getElem?_set_ne (Ne.symm G)]at C;obtain⟨u',r',q⟩:=hl j y v' l C e3;refine⟨u',r',?_⟩;rcases q with q | ⟨k,T,e,z'⟩
    ·exact .inl q
    ·refine .inr ⟨k,T,e,z'.sameBut f ?_⟩;rintro rfl;exact G (F2 hN l (I.ok.inj _ _ _ e hc▸hi))
  ·by_cases R:T =c
   ·subst R;exact⟨_,L⟩
   ·obtain⟨w2,z2⟩:=I.cell y T e;exact⟨w2,z2.sameBut f R⟩
  ·obtain⟨e,n,ne,nf,d⟩:=I.pin p hp;refine⟨(f.2 p.1 ?_).trans e,n,ne,nf,d⟩;intro q;rw[q,O]at e;have q' :oc=p.2:=aMn e;exact d S (by rw[<-q'];exact P)
theorem rP{M:Model}{A:Around}{E:aPv}{i:Nat}{x:Str}{v:V}{u:Value}(I:Inv X pins σ H s)(hN:X.N.Nodup)(hi:X.N[i]? =some x)(b:Loc X.env.scope x)(r:RelV v u)
  (h:∀a,Inv X pins (σ.set i (some v)) H a ->Q () a) (c:X.fn x=true\/X.env.scope.names.lookup x=some .local:=by first | exact .inl rfl | exact .inr rfl | assumption):wpAny M A (storeName X.env x u) Q E s:=
 AX I hN hi b r (λa d _=>h a d) c
theorem Inv.aIn{a :Shared}(I:Inv X pins σ H s)(ho:a.os=s.os)(u:Un (T7 X.stack) ch H H' s.heap a.heap)(cS:tE X.prog X.w H' a.heap)(hg:AllBare a.gens)
  (d:∀b∈ch,(b∈X.ex\/X.s₀.heap.objs.size<=b)/\b≠X.env.locals/\(∀x c,X.env.cells.lookup x=some c->c≠b)/\∀p∈X.pn++pins,p.1≠b):Inv X pins σ H' a :=by
 obtain⟨h',g',d',t',o'⟩:=a;have e:o' =s.os:=ho;subst e;exact I.call (g' :=g') (t' :=t') (d' :=d') u cS hg d
end
abbrev XK:=Value->Option Addr->Hp->Prop
abbrev St:=List (Option V)
abbrev VK:=V->Hp->Prop
abbrev TE:=St->Hp->VK->Prop
abbrev TT:=St->Hp->(Bool->Hp->Prop)->Prop
abbrev TA:=St->Hp->(List V->Hp->Prop)->Prop
structure Ends where
 nx:St->Hp->Prop
 rt:VK
 bk:St->Hp->Prop:=λ_ _=>False
 ct:St->Hp->Prop:=λ_ _=>False
abbrev TS:=Ends->St->Hp->Prop
def EP(X:Cx)(pins:List (Addr×Obj))(σ:St)(Q:VK)(u:Value)(a :Shared):Prop:=∃v H',Inv X pins σ H' a /\RelV v u/\Q v H'
def TP(X:Cx)(pins:List (Addr×Obj))(σ:St)(Q:Bool->Hp->Prop)(b:Bool)(a :Shared):Prop:=∃H',Inv X pins σ H' a /\Q b H'
def AP(X:Cx)(pins:List (Addr×Obj))(σ:St)(Q:List V->Hp->Prop)(us:List Value)(a :Shared):Prop:=∃vs H',Inv X pins σ H' a /\Vals vs us/\Q vs H'
def SP(X:Cx)(pins:List (Addr×Obj))(D:Ends)(f:Flow)(b :Shared):Prop:=
 match f with
 | .next=>∃a H',Inv X pins a H' b /\D.nx a H'
 | .brk=>∃a H',Inv X pins a H' b /\D.bk a H'
 | .cont=>∃a H',Inv X pins a H' b /\D.ct a H'
 | .ret u=>∃v a H',Inv X pins a H' b /\RelV v u/\D.rt v H'
def PE(X:Cx)(e:Expr)(t:TE):Prop:=
 ∀(pins:List (Addr×Obj)) (s:Shared) (σ:St) (H:Hp) (Q:VK),Inv X pins σ H s->t σ H Q->wpAny (model X.prog X.w) X.A (eval e X.env) (EP X pins σ Q) X.xe s
def PT(X:Cx)(e:Expr)(t:TT):Prop:=
 ∀(pins:List (Addr×Obj)) (s:Shared) (σ:St) (H:Hp) (Q:Bool->Hp->Prop),Inv X pins σ H s->t σ H Q->wpAny (model X.prog X.w) X.A (isTrue e X.env (eval e X.env)) (TP X pins σ Q) X.xe s
def PW(X:Cx)(e:Expr)(t:TT):Prop:=
 ∀(a:Sem Value) (pins:List (Addr×Obj)) (s:Shared) (σ:St) (H:Hp) (Q:Bool->Hp->Prop),Inv X pins σ H s->t σ H Q->wpAny (model X.prog X.w) X.A (isTrue e X.env a) (TP X pins σ Q) X.xe s
variable{e:Expr}
theorem PW.pt{X:Cx}{t:TT}(h:PW X e t):PT X e t:=h _
def PA(X:Cx)(es:List Expr)(t:TA):Prop:=
 ∀(pos:Pos) (pins:List (Addr×Obj)) (s:Shared) (σ:St) (H:Hp) (Q:List V->Hp->Prop),Inv X pins σ H s->t σ H Q->wpAny (model X.prog X.w) X.A (spliced (backTo pos (starEach es X.env))) (AP X pins σ Q) X.xe s
def PS(X:Cx)(st:Stmt)(t:TS):Prop:=
 ∀(pins:List (Addr×Obj)) (s:Shared) (σ:St) (H:Hp) (D:Ends),Inv X pins σ H s->t D σ H->wpAny (model X.prog X.w) X.A (exec st X.env) (SP X pins D) X.xe s
def EO(X:Cx)(st:List Stmt)(t:TS):Prop:=
 ∀(pins:List (Addr×Obj)) (s:Shared) (σ:St) (H:Hp) (D:Ends),Inv X pins σ H s->t D σ H->wpAny (model X.prog X.w) X.A (execs st X.env) (SP X pins D) X.xe s
variable{A:Around}{E:aPv}{s:Shared}
theorem dZ{b:Type}{t:Sem b}{Q c :b->Shared->Prop}{M:Model}(h:wpAny M A t Q E s)(d:∀a s,Q a s->c a s):wpAny M A t c E s:=aNj h d λ_ _ x=>x
section
variable {X:Cx}
def aJv(i:Nat):TE:=λσ H Q=>∃v,σ[i]? =some (some v)/\Q v H
def tC(v:V):TE:=λ_ H Q=>Q v H
variable{x:Str}{pos:Pos}
theorem aBu{i:Nat}(hN:X.N[i]? =some x)(g:Vis X.env.scope x)(hd:(x==("__debug__":Str))=false:=by decide)(d:(x==("__classdict__":Str))=false:=by decide):PE X (.Name x pos) (aJv i):=by
 intro pins s σ H Q I h;obtain⟨v,e,h⟩:=h;obtain⟨m,j,k⟩:=I.loc;obtain⟨u,r,l⟩:=k i x v hN e g
 have b:EP X pins σ Q u s:=⟨v,H,I,r,h⟩
 rcases l with ⟨hk,hm⟩ | ⟨hk,c,f,a⟩
 ·exact wpAny_Name (wpAny_loadName_local I.ok.kind hk j hm b) hd
 ·rcases hk with hk | hk
  ·exact wpAny_Name (wpAny_loadName_cell I.ok.kind hk f a b) hd
  ·exact wpAny_Name (wpAny_loadName_free I.ok.kind hk f a b d) hd
theorem aC1{i j pos}:PE X (.Constant (.int i) j pos) (tC (.int i)):=λ_ _ _ H _ I h=>wpAny_Constant_int ⟨.int i,H,I.tok _,⟨_,rfl⟩,h⟩
theorem aH4{b j pos}:PE X (.Constant (.bool b) j pos) (tC (.bl b)):=λ_ _ _ H _ I h=>Constant_bool ⟨.bl b,H,I,rfl,h⟩
theorem aBz{j pos}:PE X (.Constant .none j pos) (tC .bU):=λ_ _ _ H _ I h=>Constant_none ⟨.bU,H,I,rfl,h⟩
theorem aBw{x j pos}:PE X (.Constant (.str x) j pos) (tC (.str x)):=λ_ _ _ H _ I h=>Calls.Constant_str ⟨.str x,H,I.tok _,⟨_,rfl⟩,h⟩
def Gl(X:Cx)(x:Str):Prop:=X.env.kindOf x=some .globalImplicit
variable{pins:List (Addr×Obj)}{u:Value}
theorem L8{σ:St}{Q:aPv}(I:Inv X pins σ H s)(hg:Gl X x)(hm:X.mg x=some u)(h:Q u s)
  (hd:(x==("__debug__":Str))=false:=by decide):wpAny (model X.prog X.w) X.A (eval (.Name x pos) X.env) Q E s:=
 Calls.Name_function_global I.ok.kind hg (Calls.loadGlobal_global (by rw[I.ok.glob];exact I.mod.glob.keeps I.bk) hm h) hd
theorem qP{σ:St}{Q:aPv}(I:Inv X pins σ H s)(hg:Gl X x)(hm:X.mg x=none)(a:bootBuiltins x=some u)(h:Q u s)
  (b:x≠ "__name__":=by decide) (hd:(x==("__debug__":Str))=false:=by decide):wpAny (model X.prog X.w) X.A (eval (.Name x pos) X.env) Q E s:=by
 obtain⟨mb,c,d⟩:=I.mod.blt;exact Calls.Name_function_global I.ok.kind hg (Calls.loadGlobal_builtin (by rw[I.ok.glob];exact I.mod.glob.keeps I.bk) hm (by rw[I.ok.blt];exact c.keeps I.bk) ((d x b).trans a) h) hd
theorem W7{v:V}(hg:Gl X x)(hm:X.mg x=some u)(r:RelV v u)(hd:(x==("__debug__":Str))=false:=by decide):PE X (.Name x pos) (tC v):=
 λ_ _ _ H _ I h=>L8 I hg hm ⟨v,H,I,r,h⟩ hd
theorem XA{v:V}(hg:Gl X x)(hm:X.mg x=none)(a:bootBuiltins x=some u)(r:RelV v u)(b:x≠ "__name__":=by decide)(hd:(x==("__debug__":Str))=false:=by decide):PE X (.Name x pos) (tC v):=
 λ_ _ _ H _ I h=>qP I hg hm a ⟨v,H,I,r,h⟩ b hd
variable {a b:Expr}{ta tb:TE}{pos:Pos}
theorem RX(b:Expr){op:CmpOp}(h:op≠ .In)(a:op≠ .NotIn):behindInMarks op b=false:=by
 have c:(op==CmpOp.In)=false:=by cases op <;> first | rfl | exact absurd rfl h
 have d:(op==CmpOp.NotIn)=false:=by cases op <;> first | rfl | exact absurd rfl a
 cases b <;> simp[behindInMarks,c,d]
variable {tA tB' :TT}{rest:List Expr}
def aK5(t u:TT):TT:=λσ H Q=>t σ H λc a=>if c=true then u σ a Q else Q false a
def tOr(t u:TT):TT:=λσ H Q=>t σ H λc a=>if c=true then Q true a else u σ a Q
def aK0(t:TT):TT:=λσ H Q=>t σ H λc a=>Q (!c) a
theorem WL(ha:PT X a tA):PW X (.BoolOp .And [a] pos) tA:=by
 intro b pins s σ H Q I h;refine isTrue_and (dZ (ha pins s σ H Q I h) λc s1 e=>?_)
 cases c with
 | true=>exact isTrue_and_nil e
 | false=>exact e
theorem aBi(ha:PT X a tA):PW X (.BoolOp .Or [a] pos) tA:=by
 intro b pins s σ H Q I h;refine isTrue_or (dZ (ha pins s σ H Q I h) λc s1 e=>?_)
 cases c with
 | false=>exact isTrue_or_nil e
 | true=>exact e
theorem aBj(ha:PT X a tA)(i:PW X (.BoolOp .And (b::rest) pos) tB'):PW X (.BoolOp .And (a::b::rest) pos) (aK5 tA tB'):=by
 intro j pins s σ H Q I h;refine isTrue_and (dZ (ha pins s σ H _ I h) λc s1 d=>?_);obtain⟨e,f,g⟩:=d
 cases c with
 | true=>exact i j pins s1 σ e Q f g
 | false=>exact⟨e,f,g⟩
theorem aGs(ha:PT X a tA)(i:PW X (.BoolOp .Or (b::rest) pos) tB'):PW X (.BoolOp .Or (a::b::rest) pos) (tOr tA tB'):=by
 intro j pins s σ H Q I h;refine isTrue_or (dZ (ha pins s σ H _ I h) λc s1 d=>?_);obtain⟨e,f,g⟩:=d
 cases c with
 | true=>exact⟨e,f,g⟩
 | false=>exact i j pins s1 σ e Q f g
theorem aBk(ha:PT X a tA):PT X (.UnaryOp .Not a pos) (aK0 tA):=by
 intro pins s σ H Q I h;exact isTrue_not (ha pins s σ H (λc b=>Q (!c) b) I h)
def aGa(ta tb:TE):TE:=λσ H Q=>ta σ H λx a=>∃c,x= .bl c/\if c=true then tb σ a Q else Q (.bl false) a
def aG4(ta:TE):TE:=λσ H Q=>ta σ H λx a=>∃c,x= .bl c/\Q (.bl (!c)) a
theorem aBx{op}{t:TE}(h:PE X a t):PE X (.BoolOp op [a] pos) t:=λpins s σ H Q I b=>BoolOp_one (h pins s σ H Q I b)
theorem aC2(ha:PE X a ta)(i:PE X (.BoolOp .And (b::rest) pos) tb):PE X (.BoolOp .And (a::b::rest) pos) (aGa ta tb):=by
 intro pins s σ H Q I h;refine BoolOp_and (dZ (ha pins s σ H _ I h) λv s1 e=>?_);obtain⟨x,f,g,j,d⟩:=e;obtain⟨c,rfl,d⟩:=d;cases j;refine aO8 ?_
 cases c with
 | true=>exact i pins s1 σ f Q g d
 | false=>exact⟨.bl false,f,g,rfl,d⟩
theorem aBy(ha:PE X a ta):PE X (.UnaryOp .Not a pos) (aG4 ta):=by
 intro pins s σ H Q I h;refine UnaryOp_ (dZ (ha pins s σ H _ I h) λv s1 b=>?_);obtain⟨x,e,f,g,d⟩:=b;obtain⟨c,rfl,d⟩:=d;cases g;exact not_of (aO8 ⟨.bl (!c),e,f,rfl,d⟩)
def tIf(t:TT)(ta tb:TE):TE:=λσ H Q=>t σ H λc a=>if c=true then ta σ a Q else tb σ a Q
theorem RK{c:Expr}(j:PT X c tA)(ha:PE X a ta)(k:PE X b tb):PE X (.IfExp c a b pos) (tIf tA ta tb):=by
 intro pins s σ H Q I h;refine wpAny_IfExp (dZ (j pins s σ H _ I h) λd s1 e=>?_);obtain⟨f,g,i⟩:=e
 cases d with
 | true=>exact ha pins s1 σ f Q g i
 | false=>exact k pins s1 σ f Q g i
end
def rA(K:aPu)(H:Hp)(a:Addr)(xs:List V):Prop:=
 Rd H a (.lst xs)\/
  ∃(o:Obj) (aM:Array Value) (n:Nat),K.lookup a=some o/\o.cls= .type "list"/\o.dict=none/\o.data= .seq aM n/\aM.size<=sizeLine/\Vals xs aM.toList
def zI(K:aPu)(H:Hp)(a:Addr)(xs:List V):Prop:=
 Rd H a (.tup xs)\/
  ∃(o:Obj) (aM:Array Value) (n:Nat),K.lookup a=some o/\o.cls= .type "tuple"/\o.dict=none/\o.data= .seq aM n/\aM.size<=sizeLine/\Vals xs aM.toList
def aLt:Value->Option V
 | .none=>some .bU
 | .bool b=>some (.bl b)
 | .int i _=>some (.int i)
 | .str x _=>some (.str x)
 | .bytes b _=>some (.byt b)
 | .float b _=>some (.flt b)
 | .ref a=>some (.ref a)
 | .type n=>some (.ty n)
 | _=>none
variable{u:Value}
theorem RelV.abs{x:V}(r:RelV x u):aLt u=some x:=by
 cases x with
 | bU=>cases r;rfl
 | bl _=>cases r;rfl
 | int _=>obtain⟨t,rfl⟩:=r;rfl
 | str _=>obtain⟨t,rfl⟩:=r;rfl
 | byt _=>obtain⟨t,rfl⟩:=r;rfl
 | flt _=>obtain⟨t,rfl⟩:=r;rfl
 | ref _=>cases r;rfl
 | ty _=>cases r;rfl
theorem RelV.inj{x y:V}(r:RelV x u)(q:RelV y u):x=y:=aMn (r.abs.symm.trans q.abs)
theorem Vals.inj:∀{xs a:List V} {us:List Value},Vals xs us->Vals a us->xs=a
 | _,_,_,.nil,.nil=>rfl
 | _,_,_,.cons r t,.cons r' t' =>by rw[r.inj r',Vals.inj t t']
section
variable {X:Cx}{pins:List (Addr×Obj)}{σ:St}{H:Hp}{s:Shared}{a:Addr}{xs ys:List V}
theorem rA.of{K:aPu}(h:H a=some (.lst xs)):rA K H a xs:= .inl (.inl h)
theorem Inv.list(I:Inv X pins σ H s)(h:rA X.K H a xs):∃aM:List Value,Vals xs aM/\PlainL s.heap a aM.toArray/\xs.length<=sizeLine:=by
 rcases h with h | ⟨o,aM,n,b,c,hd,d,hz,r⟩
 ·obtain⟨z,aM,n,r,e⟩:=h.ok I.cS;exact⟨aM,r,⟨_,n,e,rfl,rfl,rfl⟩,z⟩
 ·refine⟨aM.toList,r,⟨o,n,I.kIn a o b,c,hd,by simpa using d⟩,?_⟩;have e:=r.length;simp only[Array.length_toList]at e
  lia
theorem Inv.tuple(I:Inv X pins σ H s)(h:zI X.K H a xs):∃aM:List Value,Vals xs aM/\IsTup s.heap a aM.toArray/\xs.length<=sizeLine:=by
 rcases h with h | ⟨o,aM,n,b,c,_,d,hz,r⟩
 ·obtain⟨z,aM,r,p,_⟩:=h.ok I.cS;exact⟨aM,r,p,z⟩
 ·refine⟨aM.toList,r,⟨o,I.kIn a o b,c,n,by simpa using d⟩,?_⟩;have e:=r.length;simp only[Array.length_toList]at e
  lia
theorem Inv.aAs(I:Inv X pins σ H s)(h:zI X.K H a xs):∃ob,s.heap.get? a=some ob/\ob.cls= .type "tuple"/\ob.dict=none:=by
 rcases h with h | ⟨o,aM,n,b,d,hd,f,hz,r⟩
 ·obtain⟨z,aM,r,⟨o,e,c,_⟩,nd⟩:=h.ok I.cS;exact⟨o,e,c,nd o e⟩
 ·exact⟨o,I.kIn a o b,d,hd⟩
theorem Inv.GC(I:Inv X pins σ H s)(h:rA X.K H a xs)(h' :rA X.K H a ys):xs=ys:=by
 obtain⟨aM,r,⟨o,n,e,_,_,d⟩,_⟩:=I.list h;obtain⟨its',c,⟨o',g,b,_,_,d'⟩,_⟩:=I.list h';rw[e]at b;cases b;rw[d]at d';injection d' with f _;have:aM=its' :=by simpa using aN5 Array.toList f
 subst this;exact r.inj c
theorem Inv.AW(I:Inv X pins σ H s)(h:zI X.K H a xs)(h' :zI X.K H a ys):xs=ys:=by
 obtain⟨aM,r,⟨o,e,_,n,d⟩,_⟩:=I.tuple h;obtain⟨its',c,⟨o',b,_,g,d'⟩,_⟩:=I.tuple h';rw[e]at b;cases b;rw[d]at d';injection d' with f _;have:aM=its' :=by simpa using aN5 Array.toList f
 subst this;exact r.inj c
end
abbrev Cx.zO(X:Cx)(E:aPv):Cx:={X with xe:=E}
abbrev Cx.XJ(X:Cx):Cx:=X.zO λ_ _=>False
theorem Cx.Ok.zO{X:Cx}(ok:X.Ok)(E:aPv):(X.zO E).Ok:=
 ⟨ok.mod,ok.kind,ok.glob,ok.blt,ok.above,ok.inj,ok.has,ok.cab,ok.hd,ok.frames,ok.stk,ok.exf,ok.bs,ok.ZN,ok.RW,ok.UE,ok.yM,ok.frf⟩
theorem Cx.Ok.n5{X:Cx}(ok:(X.zO E).Ok):X.Ok:=
 ⟨ok.mod,ok.kind,ok.glob,ok.blt,ok.above,ok.inj,ok.has,ok.cab,ok.hd,ok.frames,ok.stk,ok.exf,ok.bs,ok.ZN,ok.RW,ok.UE,ok.yM,ok.frf⟩
section
variable {X:Cx}{pins:List (Addr×Obj)}{σ:St}{H:Hp}{s:Shared}{E:aPv}
theorem Inv.zO(I:Inv X pins σ H s)(E:aPv):Inv (X.zO E) pins σ H s:=⟨I.ok.zO E,I.os,I.bare,I.base,I.loc,I.cell,I.free,I.oS,I.pin,I.cS,I.len⟩
theorem Inv.n5(I:Inv (X.zO E) pins σ H s):Inv X pins σ H s:=⟨I.ok.n5,I.os,I.bare,I.base,I.loc,I.cell,I.free,I.oS,I.pin,I.cS,I.len⟩
theorem SP.n5{D:Ends}{f:Flow}{b :Shared}(h:SP (X.zO E) pins D f b):SP X pins D f b :=by
 cases f with
 | next=>obtain⟨a,H',I,q⟩:=h;exact⟨a,H',I.n5,q⟩
 | brk=>obtain⟨a,H',I,q⟩:=h;exact⟨a,H',I.n5,q⟩
 | cont=>obtain⟨a,H',I,q⟩:=h;exact⟨a,H',I.n5,q⟩
 | ret u=>obtain⟨v,a,H',I,r,q⟩:=h;exact⟨v,a,H',I.n5,r,q⟩
theorem EO.XJ{st:List Stmt}{t:TS}(h:EO X.XJ st t):EO X st t:=λpins s σ H D I a=>
 aNj (h pins s σ H D (I.zO _) a) (λ_ _ q=>q.n5) λ_ _ z=>False.elim z
end
section
variable {X:Cx}{st:Stmt}{rest:List Stmt}{t u:TS}{e:Expr}{te:TE}{pos:Pos}
def aG6:TS:=λD σ H=>D.nx σ H
def aJx(t u:TS):TS:=λD σ H=>t {D with nx:=u D} σ H
theorem WV:EO X [] aG6:=λ_ _ σ H _ I h=>aPb ⟨σ,H,I,h⟩
theorem RB(b:PS X st t)(c:EO X rest u):EO X (st::rest) (aJx t u):=by
 intro pins s σ H D I h;refine wpAny_execs_cons (dZ (b pins s σ H {D with nx:=u D} I h) λf s1 q=>?_)
 cases f with
 | next=>
  obtain⟨a,H',d,q⟩:=q;exact c pins s1 a H' D d q
 | ret v=>exact q
 | brk=>exact q
 | cont=>exact q
theorem WU(a:PS X st t):EO X [st] t:=by
 intro pins s σ H D I h;refine wpAny_execs_cons (dZ (a pins s σ H D I h) λf s1 q=>?_)
 cases f with
 | next=>exact aPb q
 | ret v=>exact q
 | brk=>exact q
 | cont=>exact q
def aB2:TS:=λD σ H=>D.bk σ H
theorem RF:PS X (.Break pos) aB2:=λ_ _ σ H _ I h=>wpAny_Break ⟨σ,H,I,h⟩
theorem Inv.quiet{pins:List (Addr×Obj)}{σ:St}(I:Inv X pins σ H s):interactive X.env=false:=by simp[interactive,I.ok.kind]
def aG8(te:TE):TS:=λD σ H=>te σ H λ_ a=>D.nx σ a
theorem WW(he:PE X e te)(b:swapsWith e none pos.line X.env=pure false:=by rfl):PS X (.Expr e pos) (aG8 te):=by
 intro pins s σ H D I h;exact wpAny_Expr_any (dZ (he pins s σ H _ I h) λv s1 a=>by obtain⟨x,c,d,g,f⟩:=a;exact⟨σ,c,d,f⟩) I.quiet b
def aJy(te:TE):TS:=λD σ H=>te σ H D.rt
theorem aBm(he:PE X e te):PS X (.Return (some e) pos) (aJy te):=by
 intro pins s σ H D I h;exact wpAny_Return_some (dZ (he pins s σ H _ I h) λv s1 a=>by obtain⟨x,b,c,d,f⟩:=a;exact⟨x,σ,b,c,d,f⟩)
def aK3(c:TT)(t u:TS):TS:=λD σ H=>c σ H λb a=>if b=true then t D σ a else u D σ a
theorem aGu{c:Expr}{a b:List Stmt}{f:TT}(k:PT X c f)(ha:EO X a t)(l:EO X b u):PS X (.If c a b pos) (aK3 f t u):=by
 intro pins s σ H D I h;refine wpAny_If (dZ (k pins s σ H _ I h) λd s1 e=>?_);obtain⟨g,i,j⟩:=e
 cases d with
 | true=>exact ha pins s1 σ g D i j
 | false=>exact l pins s1 σ g D i j
end
abbrev TG:=V->St->Hp->(St->Hp->Prop)->Prop
abbrev HU:=List V->St->Hp->(St->Hp->Prop)->Prop
def PG(X:Cx)(a:Expr)(t:TG):Prop:=
 ∀(pins:List (Addr×Obj)) (s:Shared) (σ:St) (H:Hp) (v:V) (u:Value) (Q:St->Hp->Prop),Inv X pins σ H s->RelV v u->t v σ H Q->
  wpAny (model X.prog X.w) X.A (assign a X.env u) (λ_ c =>∃b H',Inv X pins b H' c /\Q b H') X.xe s
def ZS(X:Cx)(ts:List Expr)(t:HU):Prop:=
 ∀(pins:List (Addr×Obj)) (s:Shared) (σ:St) (H:Hp) (vs:List V) (us:List Value) (Q:St->Hp->Prop),Inv X pins σ H s->Vals vs us->t vs σ H Q->
  wpAny (model X.prog X.w) X.A (assignInOrder ((assignEach ts X.env).map (·.2)) us) (λ_ b =>∃a H',Inv X pins a H' b /\Q a H') X.xe s
abbrev aFc:=V->V->V->Hp->(Hp->Prop)->Prop
def aIs(X:Cx)(t:aFc):Prop:=
 ∀(pins:List (Addr×Obj)) (s:Shared) (σ:St) (H:Hp) (o i v:V) (a b u:Value) (Q:Hp->Prop),Inv X pins σ H s->RelV o a->RelV i b->RelV v u->t o i v H Q->
  wpAny (model X.prog X.w) X.A (setItem a b u) (λ_ c =>∃H',Inv X pins σ H' c /\Q H') X.xe s
section
variable {X:Cx}{pos:Pos}
def u7(i:Nat):TG:=λv σ H Q=>Q (σ.set i (some v)) H
theorem W4{i:Nat}{x:Str}(hN:X.N.Nodup)(hi:X.N[i]? =some x)(a:Loc X.env.scope x)(b:X.fn x=true\/X.env.scope.names.lookup x=some .local:=by first | exact .inl rfl | exact .inr rfl | assumption):PG X (.Name x pos) (u7 i):=by
 intro pins s σ H v u Q I r h;exact wpAny_assign_Name (rP I hN hi a r (λd c =>⟨_,H,c,h⟩) b)
def T6:HU:=λvs σ H Q=>vs=[]/\Q σ H
def GU(t:TG)(u:HU):HU:=λvs σ H Q=>∃v r,vs=v::r/\t v σ H λa H' =>u r a H' Q
theorem W3:ZS X [] T6:=by
 intro pins s σ H vs us Q I r h;obtain⟨e,h⟩:=h;subst e;cases r;exact assignInOrder_nil ⟨σ,H,I,h⟩
theorem RI{es:List Expr}{t:TG}{u:HU}(c:PG X e t)(d:ZS X es u)
  (f:(assignEach (e::es) X.env).map (·.2)=assign e X.env::(assignEach es X.env).map (·.2):=by rfl):ZS X (e::es) (GU t u):=by
 intro pins s σ H vs us Q I r h;obtain⟨v,m,g,h⟩:=h;subst g
 cases r with
 | cons r i=>
  rw[f];refine assignInOrder_cons (dZ (c pins s σ H _ _ _ I r h) λ_ s1 a=>?_);obtain⟨b,j,k,l⟩:=a;exact d pins s1 b j _ _ Q k i l
def aEh(K:aPu)(n:Nat)(t:HU):TG:=λv σ H Q=>∃a xs,v= .ref a/\zI K H a xs/\xs.length=n/\t xs σ H Q
theorem aBr{es:List Expr}{k:Nat}{t:HU}{n:Nat}(g:X.calm=true)(h:ZS X es t)
  (i:(assignEach es X.env).length=n:=by rfl) (c:(assignEach es X.env).findIdx? (·.1)=none:=by rfl):PG X (.Tuple es k pos) (aEh X.K n t):=by
 intro pins s σ H v u Q I r d;obtain⟨a,xs,j,l,m,d⟩:=d;subst j;cases r;obtain⟨aM,f,ht,hz⟩:=I.tuple l;refine assign_Tuple_tuple (I.ok.hd g) ht (by simp[i,<-m,f.length]) c λh' p=>?_;have q:Inv X pins σ H {s with heap:=h'}:=I.kept (t' :=s.toks) λb o e=>p b o (aMg (aMb e)) e;exact h pins _ σ H xs _ Q q (by simpa using f) d
def aLk(to a:TE)(t:aFc):TG:=λv σ H Q=>to σ H λo b=>a σ b λi c=>t o i v c λd=>Q σ d
theorem aBs{o i:Expr}{to f:TE}{t:aFc}(ho:PE X o to)(hi:PE X i f)(g:aIs X t)
  (ha:∀v,assign (.Subscript o i pos) X.env v=(do
   let a<-holding [v] (eval o X.env)
   let b<-holding [v,a] (eval i X.env)
   standAt pos
   holding [v,a,b] (setItem a b v)
   release [v,a,b] []):=by intro _;rfl):PG X (.Subscript o i pos) (aLk to f t):=by
 intro pins s σ H v u Q I r h;rw[ha];refine aM3 (aMv (dZ (ho pins s σ H _ I h) λa s1 c=>?_));obtain⟨x,j,k,l,m⟩:=c;refine aM3 (aMv (dZ (hi pins s1 σ j _ k m) λb s2 d=>?_));obtain⟨y,n,p,q,w⟩:=d;refine aM3 (aOl (aM3 (aMv (dZ (g pins s2 σ n x y v a b u _ p l q r w) λ_ C e=>?_))));obtain⟨z,A,B⟩:=e;exact wpAny_release ⟨σ,z,A,B⟩
def VZ(te:TE)(g:TG):TS:=λD σ H=>te σ H λx a=>g x σ a D.nx
theorem IU{tg e:Expr}{te:TE}{g:TG}(he:PE X e te)(hg:PG X tg g)(a:swapsWithSole [tg] e pos.line X.env=pure false:=by rfl)(b:swappedStores [tg] e X.env=pure none:=by rfl)
  (c:(assignEach [tg] X.env).map (·.2)=[assign tg X.env]:=by rfl):PS X (.Assign [tg] e pos) (VZ te g):=by
 intro pins s σ H D I h;refine wpAny_Assign_stores (dZ (he pins s σ H _ I h) λv s1 ⟨x,d,f,i,j⟩=>?_) a b;rw[c];exact dZ (hg pins s1 σ d x v _ f i j) λ_ s2 q=>q
theorem aBl{i:Nat}{x:Str}{te:TE}{a :Pos}(hN:X.N.Nodup)(hi:X.N[i]? =some x)(b:Loc X.env.scope x)(he:PE X e te)(c:swapsWith e (some (.Name x a)) pos.line X.env=pure false:=by rfl)(d:X.fn x=true\/X.env.scope.names.lookup x=some .local:=by first | exact .inl rfl | exact .inr rfl | assumption):
  PS X (.Assign [.Name x a] e pos) (VZ te (u7 i)):=by
 intro pins s σ H D I h;refine wpAny_Assign_Name (dZ (he pins s σ H _ I h) λv s1 ⟨y,f,g,j,k⟩=>?_) c;exact rP g hN hi b j (λs2 l=>⟨_,f,l,k⟩) d
def aJz(i j:Nat)(a:TA):TS:=λD σ H=>a σ H λvs b=>∃v w,vs=[v,w]/\D.nx ((σ.set i (some v)).set j (some w)) b
theorem aBn{i j:Nat}{x y:Str}{a b:Expr}{r:TA}{px g pt:Pos}{kt k2 pt2}(C:X.calm=true)(hN:X.N.Nodup)(hi:X.N[i]? =some x)(E:X.N[j]? =some y)(k:i≠j)
  (t:X.env.scope.names.lookup x=some .local) (u:X.env.scope.names.lookup y=some .local) (ha:PA X [a,b] r)
  (F:swappedStores [.Tuple [.Name x px,.Name y g] kt pt] (.Tuple [a,b] k2 pt2) X.env=pure (some [x,y]))
  (G:swapsWithSole [.Tuple [.Name x px,.Name y g] kt pt] (.Tuple [a,b] k2 pt2) pos.line X.env=pure false:=by rfl):
  PS X (.Assign [.Tuple [.Name x px,.Name y g] kt pt] (.Tuple [a,b] k2 pt2) pos) (aJz i j r):=by
 intro pins s σ H D I h;rw[exec_Assign_arm];refine aM3 (aOl ?_);rw[G];refine aM3 (aM4 ?_);rw[if_neg (by decide)];refine aM3 (Tuple_ (dZ (ha _ pins s σ H _ I h) λus s1 f=>?_));obtain⟨vs,z,J,K,l⟩:=f;obtain⟨v,w,L,l⟩:=l;subst L
 obtain⟨c,d,rfl,M,m⟩:∃c d,us=[c,d]/\RelV v c/\RelV w d:=by
  cases K with
  | cons p q=>
   cases q with
   | cons O P =>
    cases P;exact⟨_,_,rfl,p,O⟩
 refine aMs ?_ (by show 2<=sizeLine;decide);have Q:Inv X pins σ z {s1 with heap:=s1.heap.push {cls:= .type "tuple",data:= .seq [c,d].toArray}}:=J.kept (t' :=s1.toks) λb o e=>aM5 _ e;rw[F];refine aM3 (aM4 ?_);show wpAny (model X.prog X.w) X.A (do rule "assign.swapped-stores";let items<-unpackItems (.ref s1.heap.objs.size) 2 none;assignInOrder [λv=>bindName X.env y v,λv=>bindName X.env x v] items.reverse;pure Flow.next) _ _ _;refine aM3 (aN4 (aM3 (unpackItems_tuple (items:= #[c,d]) (I.ok.hd C) (IsTup.new s1.heap _) λh' n =>?_)));have R:=Q.kept (h' :=h') (t' :=s1.toks) λb o e=>n b o (aMg (aMb e)) e;show wpAny _ _ (assignInOrder [λv=>bindName X.env y v,λv=>bindName X.env x v] [d,c] >>=λ_=>pure Flow.next) _ _ _;refine aM3 (assignInOrder_cons (wpAny_bindName (rP R hN E (.inl u) m (λs2 S=>?_) (.inr u))));refine assignInOrder_cons (wpAny_bindName (rP S hN hi (.inl t) M (λT B=>assignInOrder_nil (aM4 ?_)) (.inr t)));rw[List.set_comm _ _ (Ne.symm k)]at B;exact⟨_,z,B,l⟩
end
section
variable {X:Cx}{pos:Pos}
def aAy(c:TT)(f:TS):TS:=λD σ H=>∃W:Nat->St->Hp->Prop,(∃m,W m σ H)/\∀m σ H,W m σ H->
 c σ H λb d=>if b=true then ∃N:St->Hp->Prop,(∀a H',N a H' ->∃e,e<m/\W e a H')/\f {D with nx:=N,ct:=N,bk:=D.nx} σ d else D.nx σ d
theorem RD{c:Expr}{body:List Stmt}{r:TT}{t:TS}(u:PassesOwn (model X.prog X.w) X.A X.env X.xe)(B:PT X c r)(C:EO X body t):PS X (.While c body [] pos) (aAy r t):=by
 intro pins s σ H D I h;obtain⟨W,⟨m0,E⟩,e⟩:=h;refine wpAny_While (codeAny_whileLoop (λn F =>∃g H',Inv X pins g H' F /\W n g H') ?_ m0 ⟨σ,H,I,E⟩);rintro n s1 ⟨d,x,G,J⟩;refine aNr u (dZ (B pins s1 d x _ G (e n d x J)) λb s2 i=>?_);obtain⟨y,z,k⟩:=i
 cases b with
 | true=>
  obtain⟨N,hN,k⟩:=k;rw[if_pos rfl];refine aNr u (dZ (C pins s2 d y _ z k) λf K l=>?_)
  cases f with
  | next=>
   obtain⟨a,j,m,o⟩:=l;obtain⟨p,hm,q⟩:=hN a j o;exact⟨p,hm,a,j,m,q⟩
  | cont=>
   obtain⟨a,j,m,o⟩:=l;obtain⟨p,hm,q⟩:=hN a j o;exact⟨p,hm,a,j,m,q⟩
  | brk=>exact l
  | ret v=>exact l
 | false=>
  rw[if_neg Bool.false_ne_true];exact aPb ⟨d,y,z,k⟩
end
structure It where
 go:Nat->Hp->Prop
 yld:Nat->Hp->V->Hp->Prop
 stop:Nat->Hp->Prop
def zM(X:Cx)(pins:List (Addr×Obj))(H:Hp)(b:Addr):Prop:=
 H b=none/\b≠X.env.locals/\b∉X.fs/\(b∈X.ex\/X.s₀.heap.objs.size<=b)/\(∀x c,X.env.cells.lookup x=some c->c≠b)/\∀p∈X.pn++pins,p.1≠b
variable{pins:List (Addr×Obj)}{σ:St}
theorem Inv.T9{X:Cx}{H H' :Hp}(I:Inv X pins σ H s)(a:s.heap.objs.size<=b)(d:H' b=none):zM X pins H' b:=by
 refine⟨d,aNc (aMj I.lt a),I.aL4 a,.inr (aMq I.sz a),λx c e z=>?_,λp f z=>?_⟩
 ·obtain⟨v,q⟩:=I.cell x c e;exact absurd (aMj q.lt (by rw[z];exact a)) (aNk _)
 ·exact absurd (aMj (aMb (I.pin p f).1) (by rw[z];exact a)) (aNk _)
structure Turn(P:Program)(w:World)(K:aPu)(tg:Expr)(J:It)(fp:List Addr)(it:Addr)(tn:Nat->Heap->Prop):Prop where
 mem:it∈fp
 obj:∀i h,tn i h->∀b∈fp,∃o,h.get? b=some o/\∀v,o.data≠ .cell v
 keep:∀i h h',tn i h->(∀b∈fp,∀o,h.get? b=some o->h'.get? b=some o)->tn i h'
 item:∀(X:Cx),X.prog=P->X.w=w->X.K=K->X.calm=true->∀(i:Nat) (pins:List (Addr×Obj)) (s:Shared) (σ:St) (H:Hp) (E:aPv),Inv X pins σ H s->(∀b∈fp,zM X pins H b)->tn i s.heap->J.go i H->
  wpAny (model P w) X.A (pyNext (.ref it)) (λr s1=>∃u,r=some u/\
   wpAny (model P w) X.A (letOwnedTupleGo tg (.ref it) u) (λ_ s2=>∃x H',Inv X pins σ H' s2/\RelV x u/\J.yld i H x H' /\tn (i+1) s2.heap/\∀b∈fp,H' b=none) E s1) E s
 done:∀(X:Cx),X.prog=P->X.w=w->X.K=K->X.calm=true->∀(i:Nat) (pins:List (Addr×Obj)) (s:Shared) (σ:St) (H:Hp) (E:aPv),Inv X pins σ H s->(∀b∈fp,zM X pins H b)->tn i s.heap->J.stop i H->
  wpAny (model P w) X.A (pyNext (.ref it)) (λr s1=>r=none/\Inv X pins σ H s1) E s
 self:∀(A:Around) (i:Nat) (s:Shared) (Q:aPv) (E:aPv),tn i s.heap->Q (.ref it) s->wpAny (model P w) A (pyIter (.ref it)) Q E s
abbrev TI:=St->Hp->(It->Hp->Prop)->Prop
def PIE(X:Cx)(pins:List (Addr×Obj))(σ:St)(tg:Expr)(R:It->Hp->Prop)(a:Value)(s2:Shared):Prop:=
 ∃(it:Addr) (fp:List Addr) (tn:Nat->Heap->Prop) (J:It) (H' :Hp),a= .ref it/\Inv X pins σ H' s2/\Turn X.prog X.w X.K tg J fp it tn/\tn 0 s2.heap/\(∀b∈fp,zM X pins H' b)/\R J H'
def PI(X:Cx)(tg iter:Expr)(wi:TI):Prop:=
 ∀(pins:List (Addr×Obj)) (s:Shared) (σ:St) (H:Hp) (R:It->Hp->Prop),Inv X pins σ H s->wi σ H R->
  wpAny (model X.prog X.w) X.A (eval iter X.env) (λv s1=>wpAny (model X.prog X.w) X.A (pyIter v) (PIE X pins σ tg R) X.xe s1) X.xe s
variable{tg:Expr}
theorem T3{M:Model}{it:Addr}{n:String}{vs:Array Value}{Q:Unit->Shared->Prop}(ho:s.heap.get? it=some o)(b:o.cls= .type n)(hd:o.data= .fields vs)
    (c:["enumerate","zip","dict_itemiterator","dict_reverseitemiterator","odict_iterator","itertools.zip_longest","itertools.pairwise"].contains n=false) (a:Q () s):wpAny M A (letOwnedTupleGo tg (.ref it) u) Q E s:=by
  unfold letOwnedTupleGo
  cases tg <;> first
    | exact aM4 a
    | (cases u <;> first
        | exact aM4 a
        | (refine aM3 (wpAny_load ho ?_)
           rw[b,hd];show wpAny M A (if (["enumerate","zip","dict_itemiterator","dict_reverseitemiterator","odict_iterator","itertools.zip_longest","itertools.pairwise"].contains n && vs[0]? ==some (rawInt _))=true then _ else _) Q E s;rw[if_neg (by intro h;rw[c,Bool.false_and]at h;cases h)]
           exact aM4 a))
def Itl(K:aPu)(a:Addr):It:=
 ⟨λi H=>∃xs x,rA K H a xs/\xs[i]? =some x,λi H x H' =>H' =H/\∀xs,rA K H a xs->xs[i]? =some x,λi H=>∃xs,rA K H a xs/\xs.length<=i⟩
def Itt(K:aPu)(a:Addr):It:=
 ⟨λi H=>∃xs x,zI K H a xs/\xs[i]? =some x,λi H x H' =>H' =H/\∀xs,zI K H a xs->xs[i]? =some x,λi H=>∃xs,zI K H a xs/\xs.length<=i⟩
def Itr(lo:Int)(n:Nat):It:=⟨λi _=>i<n,λi H x H' =>H' =H/\x= .int (lo+i),λi _=>n<=i⟩
variable{K:aPu}
theorem NP(a it:Addr):Turn P w K tg (Itl K a) [it] it (λi h=>h.IsListIter it a i) where
 mem:=by simp
 obj:=λi h st b f=>by
  have e:b=it:=by simpa using f
  subst e;obtain⟨o,e,c,d⟩:=st;exact⟨o,e,λv z=>by rw[d]at z;cases z⟩
 keep:=λi h h' st k=>st.at λo e=>k it (by simp) o e
 item:=by
  intro X m n q D i pins s σ H E I j st hg;subst m n q;obtain⟨xs,x,l,r⟩:=hg;obtain⟨aM,t,p,hz⟩:=I.list l;obtain⟨u,F,G⟩:=t.get r;obtain⟨f0,y,J,A,B,C⟩:=j it (by simp);refine wpAny_pyNext_list_item st p.isList (x:=u) (by simpa using F) λh' g L=>?_;have M:Inv X pins σ H {s with heap:=h'}:=I.turned (t' :=s.toks) (λb o f e=>(L.2 b f).trans e) f0 y A B C;obtain⟨o,e,c,d⟩:=id g;exact⟨u,rfl,T3 (s:={s with heap:=h'}) e c d (by decide) ⟨x,H,M,G,⟨rfl,λQ N=>by rw[I.GC N l];exact r⟩,g,λb f=>(j b f).1⟩⟩
 done:=by
  intro X m n q D i pins s σ H E I j st hg;subst m n q;obtain⟨xs,l,r⟩:=hg;obtain⟨aM,t,p,hz⟩:=I.list l;obtain⟨f0,y,J,A,B,C⟩:=j it (by simp);have R:=t.length
  exact wpAny_pyNext_list_end (I.ok.hd D) st p.isList (by simp;lia) λh' O=>⟨rfl,I.turned (t' :=s.toks) (λb o f e=>O b o f e) f0 y A B C⟩
 self:=λ_ _ _ _ _ st h=>wpAny_pyIter_listiter st h
theorem IG(a it:Addr):Turn P w K tg (Itt K a) [it] it (λi h=>h.IsTupleIter it a i) where
 mem:=by simp
 obj:=λi h st b f=>by
  have e:b=it:=by simpa using f
  subst e;obtain⟨o,e,c,d⟩:=st;exact⟨o,e,λv z=>by rw[d]at z;cases z⟩
 keep:=λi h h' st k=>st.at λo e=>k it (by simp) o e
 item:=by
  intro X m n q D i pins s σ H E I j st hg;subst m n q;obtain⟨xs,x,l,r⟩:=hg;obtain⟨aM,t,p,hz⟩:=I.tuple l;obtain⟨u,F,G⟩:=t.get r;obtain⟨f0,y,J,A,B,C⟩:=j it (by simp);refine wpAny_pyNext_tuple_item st (show s.heap.IsTuple a aM.toArray from p) (x:=u) (by simpa using F) λh' g L=>?_;have M:Inv X pins σ H {s with heap:=h'}:=I.turned (t' :=s.toks) (λb o f e=>(L.2 b f).trans e) f0 y A B C;obtain⟨o,e,c,d⟩:=id g;exact⟨u,rfl,T3 (s:={s with heap:=h'}) e c d (by decide) ⟨x,H,M,G,⟨rfl,λQ N=>by rw[I.AW N l];exact r⟩,g,λb f=>(j b f).1⟩⟩
 done:=by
  intro X m n q D i pins s σ H E I j st hg;subst m n q;obtain⟨xs,l,r⟩:=hg;obtain⟨aM,t,p,hz⟩:=I.tuple l;obtain⟨f0,y,J,A,B,C⟩:=j it (by simp);have R:=t.length
  exact wpAny_pyNext_tuple_end (I.ok.hd D) st (show s.heap.IsTuple a aM.toArray from p) (by simp;lia) λh' O=>⟨rfl,I.turned (t' :=s.toks) (λb o f e=>O b o f e) f0 y A B C⟩
 self:=λ_ _ _ _ _ st h=>wpAny_pyIter_tupleiter st h
theorem IH(it:Addr)(lo:Int)(n:Nat):Turn P w K tg (Itr lo n) [it] it (λi h=>IsRangeIter h it (lo+(i:Nat)*1) ((n:Int)-(i:Nat)) 1) where
 mem:=by simp
 obj:=λi h st b a=>by
  have e:b=it:=by simpa using a
  subst e
  exact⟨_,st,λv z=>by
   have x :Data.fields _=Data.cell v:=z
   cases x⟩
 keep:=λi h h' st k=>k it (by simp) _ st
 item:=by
  intro X f g j l i pins s σ H E I d st hg;subst f g j;obtain⟨f0,m,y,p,q,r⟩:=d it (by simp);have W:=Walks.range (prog:=X.prog) (w:=X.w) (I.ok.hd l) it lo 1 n;refine W.item i s _ _ hg st λv h' u A c kk=>?_;obtain⟨t,rfl⟩:=A;have B:Inv X pins σ H {s with heap:=h',toks:=u}:=I.turned (λb o a e=>kk b o (by simpa using a) e) f0 m p q r;refine⟨_,rfl,T3 (s:={s with heap:=h',toks:=u}) (n:= "range_iterator") c rfl rfl (by decide) ⟨.int (lo+i),H,B,⟨t,?_⟩,⟨rfl,rfl⟩,c,λb a=>(d b a).1⟩⟩;rw[Int.mul_one]
 done:=by
  intro X f g j l i pins s σ H E I d st hg;subst f g j;obtain⟨f0,m,y,p,q,r⟩:=d it (by simp)
  exact wpAny_pyNext_range_end (I.ok.hd l) st (by have:n<=i:=hg;lia) λh' C=>⟨rfl,I.turned (t' :=s.toks) (λb o a e=>C b o a e) f0 m p q r⟩
 self:=λ_ _ _ _ _ st h=>wpAny_pyIter_rangeiter st h
section
variable {X:Cx}{tg:Expr}
theorem Q8{R:It->Hp->Prop}{lo hi:Int}{t u v:Tok}{a:Nat}(I:Inv X pins σ H s)(d: -(2^62)<=lo)(f:lo<2^62)(g: -(2^62)<=hi)(h:hi<2^62)
  (q:R (Itr lo (hi-lo).toNat) H):wpAny (model X.prog X.w) X.A (pyIter (.ref s.heap.objs.size)) (PIE X pins σ tg R) E {s with heap:=s.heap.push {cls:= .type "range",data:= .fields #[.int lo t,.int hi u,.int 1 v]},toks:=a}:=by
 refine wpAny_pyIter_range (IsRange.new ..) (small_one d f g h) ?_;have c:Inv X pins σ H {s with heap:=s.heap.push {cls:= .type "range",data:= .fields #[.int lo t,.int hi u,.int 1 v]},toks:=a}:=I.kept λb o e=>aM5 _ e
 refine⟨(s.heap.push {cls:= .type "range",data:= .fields #[.int lo t,.int hi u,.int 1 v]}).objs.size,[(s.heap.push {cls:= .type "range",data:= .fields #[.int lo t,.int hi u,.int 1 v]}).objs.size],_,_,H,rfl,
  c.kept (t' :=a) λb o e=>aM5 _ e,IH _ lo (hi-lo).toNat,?_,λb i=>?_,q⟩
 ·have j:lo+((0:Nat):Int)*1=lo:=by simp
  have k:(((hi-lo).toNat:Nat):Int)-((0:Nat):Int)=Builtin.Range.rangeSize lo hi 1:=by rw[rangeSize_one];split <;> lia
  show IsRangeIter _ _ (lo+((0:Nat):Int)*1) ((((hi-lo).toNat:Nat):Int)-((0:Nat):Int)) 1;rw[j,k];exact aMa _ rfl
 ·have e:b=(s.heap.push {cls:= .type "range",data:= .fields #[.int lo t,.int hi u,.int 1 v]}).objs.size:=by simpa using i
  subst e;exact c.T9 (aM7 _) (c.cS.fresh (aM7 _))
def aI4(a:TA):TI:=λσ H R=>a σ H λvs b=>∃j:Int,vs=[.int j]/\ -(2^62)<=j/\j<2^62/\R (Itr 0 j.toNat) b
theorem N5{a:Expr}{c:TA}{p pos:Pos}(hg:Gl X "range")(hm:X.mg "range"=none)(ha:PA X [a] c)(d:starEach [a] X.env=[(false,eval a X.env)]:=by rfl):PI X tg (.Call (.Name "range" p) [a] [] pos) (aI4 c):=by
 intro pins s σ H R I h;refine Call_ (qP I hg hm boot_range (aNb (dZ (ha pos pins s σ H _ I h) λus s1 ⟨vs,l,f,g,b⟩=>?_) d rfl));obtain⟨j,e,b,i,q⟩:=b;subst e
 cases g with
 | cons r k=>
  cases k;obtain⟨t,rfl⟩:=r;exact call_range_1 (Q8 f (by lia) (by lia) b i (by simpa using q))
def aK4(wi:TI)(g:TG)(d:TS):TS:=λD σ H=>wi σ H λJ e=>∃W:Nat->Nat->St->Hp->Prop,(∃m,W 0 m σ e)/\∀i m σ H,W i m σ H->
 (J.stop i H/\D.nx σ H)\/(J.go i H/\∃N:St->Hp->Prop,(∀a H',N a H' ->∃c,c<m/\W (i+1) c a H')/\∀x H',J.yld i H x H' ->g x σ H' λb f=>d {D with nx:=N,ct:=N,bk:=D.nx} b f)
def xO(fp:List Addr)(h:Heap):List (Addr×Obj):=fp.filterMap λb=>(h.get? b).map λo=>(b,o)
variable{fp:List Addr}
theorem mR(a:b∈fp)(e:h.get? b=some o):(b,o)∈xO fp h:=List.mem_filterMap.mpr ⟨b,a,by rw[e];rfl⟩
theorem N8{p:Addr×Obj}(a:p∈xO fp h):p.1∈fp/\h.get? p.1=some p.2:=by
 obtain⟨b,c,e⟩:=List.mem_filterMap.mp a
 cases q:h.get? b with
 | none=>rw[q]at e;cases e
 | some o=>
  rw[q]at e;have d :(b,o)=p:=aMn e;subst d;exact⟨c,q⟩
theorem Inv.pinned(I:Inv X pins σ H s)(f:∀b∈fp,zM X pins H b)(ho:∀b∈fp,∃o,s.heap.get? b=some o/\∀v,o.data≠ .cell v):Inv X (pins++xO fp s.heap) σ H s:=
 I.LQ λp g=>(aMi.mp g).elim (λz=>I.pin p (aMx _ z)) λz=>by
  obtain⟨a,e⟩:=N8 z;obtain⟨f0,h,i,_⟩:=f p.1 a;obtain⟨o,c,d⟩:=ho p.1 a;rw[e]at c;cases c;exact⟨e,f0,h,i,d⟩
theorem Inv.rN{pins a:List (Addr×Obj)}(I:Inv X (pins++a) σ H s):Inv X pins σ H s:=I.LQ λp b=>I.pin p (aMx _ (aNu _ b))
theorem aBo{iter:Expr}{body:List Stmt}{wi:TI}{g:TG}{V:TS}{pos:Pos}(z:PassesOwn (model X.prog X.w) X.A X.env X.xe)(Y:X.calm=true)(hi:PI X tg iter wi)(hg:PG X tg g)(c:EO X body V)
  (hs:∀x,foldedSetIterable iter X.env x=pure x:=by intro _;rfl):PS X (.For tg iter body [] pos) (aK4 wi g V):=by
 intro pins s σ H D I h;refine wpAny_For (dZ (hi pins s σ H _ I h) λv s1 h1=>dZ h1 λitv s2 h2=>?_) hs;obtain⟨it,fp,tn,J,H2,e,I2,T,pS,Z,W,⟨m0,w0⟩,B⟩:=h2;subst e
 have j:∀{H' :Hp},(∀b∈fp,H' b=none)->∀b∈fp,zM X pins H' b:=λhn b c=>⟨hn b c,(Z b c).2⟩
 refine codeAny_forLoop_any (λn s' =>∃i k H',Inv X pins k H' s' /\tn i s'.heap/\(∀b∈fp,H' b=none)/\W i n k H') ?_ m0 ⟨0,σ,H2,I2,pS,λb c=>(Z b c).1,w0⟩;rintro n s3 ⟨i,l,O,I3,C,E,w3⟩
 rcases B i n l O w3 with ⟨stop,qn⟩ | ⟨go,N,hN,step⟩
 ·refine aNr z (dZ (T.done X rfl rfl rfl Y i pins s3 l O X.xe I3 (j E) C stop) λr s4 F=>?_);obtain⟨P,I4⟩:=F;subst P;exact aPb ⟨l,O,I4,qn⟩
 ·refine aNr z (dZ (T.item X rfl rfl rfl Y i pins s3 l O X.xe I3 (j E) C go) λr s4 G=>?_);obtain⟨u,P,h4⟩:=G;subst P;refine aNr z (dZ h4 λ_ s5 K=>?_);obtain⟨x,H5,I5,r5,y5,y,Q⟩:=K;have R :=I5.pinned (j Q) (T.obj _ _ y);refine aNr z (dZ (hg _ s5 l H5 x u _ R r5 (step x H5 y5)) λ_ s6 L=>?_);obtain⟨S,H6,I6,q6⟩:=L;refine aNr z (dZ (c _ s6 S H6 _ I6 q6) λf U t=>?_)
  have again:∀{a:St} {p:Hp},Inv X (pins++xO fp s5.heap) a p U->N a p->∃m,m<n/\∃i k H',Inv X pins k H' U/\tn i U.heap/\(∀b∈fp,H' b=none)/\W i m k H' :=λ{a p} q M=>by
   obtain⟨m',hm,w7⟩:=hN a p M;refine⟨m',hm,i+1,a,p,q.rN,T.keep _ _ _ y λb c o e=>(q.pin (b,o) (aMx _ (aMx _ (mR c e)))).1,λb c=>?_,w7⟩;obtain⟨o,e,d⟩:=T.obj _ _ y b c;exact(q.pin (b,o) (aMx _ (aMx _ (mR c e)))).2.1
  cases f with
  | next=>obtain⟨a,p,q,M⟩:=t;exact again q M
  | cont=>obtain⟨a,p,q,M⟩:=t;exact again q M
  | brk=>obtain⟨a,p,q,t⟩:=t;exact⟨a,p,q.rN,t⟩
  | ret v=>obtain⟨x7,a,p,q,r7,t⟩:=t;exact⟨x7,a,p,q.rN,r7,t⟩
end
abbrev R2:=V->V->Hp->VK->Prop
def g5(X:Cx)(f:Value->Value->Sem Value)(r:R2):Prop:=
 ∀(pins:List (Addr×Obj)) (s:Shared) (σ:St) (H:Hp) (x y:V) (v u:Value) (Q:VK),Inv X pins σ H s->RelV x v->RelV y u->r x y H Q->
  wpAny (model X.prog X.w) X.A (f v u) (EP X pins σ Q) X.xe s
def UnR(X:Cx)(f:Value->Sem Value)(r:V->Hp->VK->Prop):Prop:=
 ∀(pins:List (Addr×Obj)) (s:Shared) (σ:St) (H:Hp) (x:V) (v:Value) (Q:VK),Inv X pins σ H s->RelV x v->r x H Q->
  wpAny (model X.prog X.w) X.A (f v) (EP X pins σ Q) X.xe s
def cG(X:Cx)(f:Value)(r:List V->Hp->VK->Prop):Prop:=
 ∀(pins:List (Addr×Obj)) (s:Shared) (σ:St) (H:Hp) (xs:List V) (us:List Value) (Q:VK),Inv X pins σ H s->Vals xs us->r xs H Q->
  wpAny (model X.prog X.w) X.A (call f us) (EP X pins σ Q) X.xe s
def aLv(X:Cx)(r:V->Hp->(Bool->Hp->Prop)->Prop):Prop:=
 ∀(pins:List (Addr×Obj)) (s:Shared) (σ:St) (H:Hp) (x:V) (v:Value) (Q:Bool->Hp->Prop),Inv X pins σ H s->RelV x v->r x H Q->
  wpAny (model X.prog X.w) X.A (truthy v) (TP X pins σ Q) X.xe s
def tOp(r:R2)(a b:TE):TE:=λσ H Q=>a σ H λx c=>b σ c λy d=>r x y d Q
def tUn(r:V->Hp->VK->Prop)(a:TE):TE:=λσ H Q=>a σ H λx b=>r x b Q
def rI(C:Int->Int->Prop)(g:Int->Int->V):R2:=λx y H Q=>∃i j,x= .int i/\y= .int j/\C i j/\Q (g i j) H
def rI0(g:Int->Int->V):R2:=λx y H Q=>∃i j,x= .int i/\y= .int j/\Q (g i j) H
def rU(g:Int->V):V->Hp->VK->Prop:=λx H Q=>∃i,x= .int i/\Q (g i) H
section
variable {X:Cx}{a b c:Expr}{ta tb tc:TE}{pos:Pos}
variable{f:Value->Value->Sem Value}
theorem aF5(ha:PE X a ta)(k:PE X b tb){R:V->V->Hp->Prop}(I:Inv X pins σ H s)
  (h:ta σ H λx j=>tb σ j λy c=>R x y c) {Q:aPv} 
  (l:∀v u s2 x y c,Inv X pins σ c s2->RelV x v->RelV y u->R x y c->wpAny (model X.prog X.w) X.A (f v u) Q X.xe s2):
  wpAny (model X.prog X.w) X.A (eval a X.env) (λv d=>wpAny (model X.prog X.w) X.A (eval b X.env) (λu e=>wpAny (model X.prog X.w) X.A (f v u) Q X.xe e) X.xe d) X.xe s:=by
 refine dZ (ha pins s σ H _ I h) λv s1 g=>?_;obtain⟨x,j,m,n,o⟩:=g;refine dZ (k pins s1 σ j _ m o) λu s2 i=>?_;obtain⟨y,c,p,q,r⟩:=i;exact l v u s2 x y c p n q r
theorem aH0{op:Operator}{r:R2}(ho:g5 X (binaryOp op) r)(ha:PE X a ta)(c:PE X b tb):PE X (.BinOp a op b pos) (tOp r ta tb):=by
 intro pins s σ H Q I h;exact wpAny_BinOp (aF5 ha c I h λv u s2 x y d e f g q=>ho pins s2 σ d x y v u Q e f g q)
theorem aGz{op:UnaryOp}{r:V->Hp->VK->Prop}(ho:UnR X (unaryOp op) r)(ha:PE X a ta):PE X (.UnaryOp op a pos) (tUn r ta):=by
 intro pins s σ H Q I h;exact UnaryOp_ (dZ (ha pins s σ H _ I h) λv s1 b=>by obtain⟨x,c,d,e,f⟩:=b;exact ho pins s1 σ c x v Q d e f)
variable{g:Int->Int->Int}
theorem opI{C:Int->Int->Prop}
  (rule:∀(i j:Int) (t u:Tok) (s:Shared) (Q:aPv) (E:aPv),C i j->Q (.int (g i j) s.toks) {s with toks:=s.toks+1}->wpAny (model X.prog X.w) X.A (f (.int i t) (.int j u)) Q E s):
  g5 X f (rI C λi j=>.int (g i j)):=by
 intro pins s σ H x y v u Q I a b h;obtain⟨i,j,rfl,rfl,c,q⟩:=h;obtain⟨t,rfl⟩:=a;obtain⟨t',rfl⟩:=b;exact rule i j t t' s _ _ c ⟨.int (g i j),H,I.tok _,⟨_,rfl⟩,q⟩
theorem aH8
  (rule:∀(i j:Int) (t u:Tok) (s:Shared) (Q:aPv) (E:aPv),Q (.int (g i j) s.toks) {s with toks:=s.toks+1}->wpAny (model X.prog X.w) X.A (f (.int i t) (.int j u)) Q E s):
  g5 X f (rI0 λi j=>.int (g i j)):=by
 intro pins s σ H x y v u Q I a b h;obtain⟨i,j,rfl,rfl,q⟩:=h;obtain⟨t,rfl⟩:=a;obtain⟨t',rfl⟩:=b;exact rule i j t t' s _ _ ⟨.int (g i j),H,I.tok _,⟨_,rfl⟩,q⟩
theorem aH9{g:Int->Int->Bool}
  (rule:∀(i j:Int) (t u:Tok) (s:Shared) (Q:aPv) (E:aPv),Q (.bool (g i j)) s->wpAny (model X.prog X.w) X.A (f (.int i t) (.int j u)) Q E s):
  g5 X f (rI0 λi j=>.bl (g i j)):=by
 intro pins s σ H x y v u Q I a b h;obtain⟨i,j,rfl,rfl,q⟩:=h;obtain⟨t,rfl⟩:=a;obtain⟨t',rfl⟩:=b;exact rule i j t t' s _ _ ⟨.bl (g i j),H,I,rfl,q⟩
def aIv(i j:Int):Prop:=0<j/\j<1073741824
def aFd(i j:Int):Prop:=0<=j/\j<=1000000/\i.natAbs<2^64
def P5(i j:Int):Prop:=(-(2^64)<i/\i<2^64)\/(-(2^64)<j/\j<2^64)
theorem P5.ok{i j:Int}(h:P5 i j):IntMulOk i j:=by
 rcases h with ⟨a,b⟩ | ⟨a,b⟩
 ·exact .of_left (intBits_le_64 a b)
 ·exact .of_right (intBits_le_64 a b)
theorem aC8:g5 X (binaryOp .Add) (rI0 λi j=>.int (i+j)):=aH8 λ_ _ _ _ _ _ _ q=>add_int q
theorem aC3:g5 X (binaryOp .Sub) (rI0 λi j=>.int (i-j)):=aH8 λ_ _ _ _ _ _ _ q=>sub_int q
theorem aC5:g5 X (binaryOp .Mult) (rI P5 λi j=>.int (i*j)):=opI λ_ _ _ _ _ _ _ a q=>mul_int q a.ok
theorem XE:g5 X (binaryOp .FloorDiv) (rI aIv λi j=>.int (i / j)):=opI λi j _ _ _ _ _ a q=>by
 have b:(0:Int)<j:=a.1;have c:j<1073741824:=a.2;exact floordiv_int (by lia) (by rw[Int.fdiv_eq_ediv_of_nonneg i (by lia)];exact q) (.inl (PyProof.noPylong_small (by lia)))
theorem aC6:g5 X (binaryOp .Mod) (rI (λ_ j=>0<j) λi j=>.int (i % j)):=opI λi j _ _ _ _ _ a q=>by
 have b:(0:Int)<j:=a;exact mod_int' (by lia) (by rw[Int.fmod_eq_emod_of_nonneg i (by lia)];exact q)
theorem aC4:g5 X (binaryOp .Pow) (rI aFd λi j=>.int (i^j.toNat)):=opI λ_ _ _ _ _ _ _ a q=>pow_int_small a.1 a.2.1 a.2.2 q
theorem unI{f:Value->Sem Value}{g:Int->Int}
  (rule:∀(i:Int) (t:Tok) (s:Shared) (Q:aPv) (E:aPv),Q (.int (g i) s.toks) {s with toks:=s.toks+1}->wpAny (model X.prog X.w) X.A (f (.int i t)) Q E s):
  UnR X f (rU λi=>.int (g i)):=by
 intro pins s σ H x v Q I a h;obtain⟨i,rfl,q⟩:=h;obtain⟨t,rfl⟩:=a;exact rule i t s _ _ ⟨.int (g i),H,I.tok _,⟨_,rfl⟩,q⟩
theorem aAp:UnR X (unaryOp .USub) (rU λi=>.int (-i)):=unI λ_ _ _ _ _ q=>neg_int q
end
section
variable {X:Cx}{a b c:Expr}{ta tb tc:TE}{pos:Pos}
theorem UC{Q:VK}{k a :Bool}(I:Inv X pins σ H s)(q:Q (.bl k) H)(e:k=a):EP X pins σ Q (.bool a) s:=by
 subst e;exact⟨.bl k,H,I,rfl,q⟩
theorem aH6:g5 X (compareOp .Lt) (rI0 λi j=>.bl (decide (i<j))):=aH9 λ_ _ _ _ _ _ _ q=>lt_int q
theorem aH7:g5 X (compareOp .Gt) (rI0 λi j=>.bl (decide (j<i))):=aH9 λ_ _ _ _ _ _ _ q=>gt_int q
theorem N6:g5 X (compareOp .Lt) (λx y H Q=>∃i j,x= .str i/\y= .str j/\Q (.bl (decide (i.cps.toList<j.cps.toList))) H):=by
 intro pins s σ H x y v u Q I a b h;obtain⟨i,j,rfl,rfl,q⟩:=h;obtain⟨t,rfl⟩:=a;obtain⟨t',rfl⟩:=b;exact lt_str (UC I q rfl)
theorem XD:g5 X (compareOp .IsNot) (λx y H Q=>y= .bU/\Q (.bl (!decide (x= .bU))) H):=by
 intro pins s σ H x y v u Q I a b h;obtain⟨rfl,q⟩:=h;cases b;refine isnot_none_gen (UC I q ?_)
 cases x <;> first
  | (cases a;rfl)
  | (obtain⟨t,rfl⟩:=a;rfl)
theorem W8{op:CmpOp}{r:R2}(ho:g5 X (compareOp op) r)(ha:PE X a ta)(c:PE X b tb)(hm:behindInMarks op b=false):PE X (.Compare a [op] [b] pos) (tOp r ta tb):=by
 intro pins s σ H Q I h;exact wpAny_Compare1 (aF5 ha c I h λv u s2 x y d e f g q=>ho pins s2 σ d x y v u Q e f g q) hm
def Z7(t:TE):TT:=λσ H Q=>t σ H λx H' =>∃k,x= .bl k/\Q k H'
theorem WR{op:CmpOp}{r:R2}(ho:g5 X (compareOp op) r)(ha:PE X a ta)(d:PE X b tb)(hm:behindInMarks op b=false):PT X (.Compare a [op] [b] pos) (Z7 (tOp r ta tb)):=by
 intro pins s σ H Q I h
 refine wpAny_isTrue_Compare1 (dZ (ha pins s σ H _ I h) λv s1 ⟨x,f,g,i,j⟩=>dZ (d pins s1 σ f _ g j) λu s2 ⟨y,l,m,n,o⟩=>
  dZ (ho pins s2 σ l x y v u _ m i n o) λc A ⟨z,p,q,t,k,e,w⟩=>?_) hm
 subst e;cases t;exact aO8 ⟨p,q,w⟩
def aFa(K:aPu)(x:V)(H:Hp)(k:Bool):Prop:=
 match x with
 | .bU=>k=false
 | .bl b=>k=b
 | .int i=>k=(i !=0)
 | .str y=>y.length<=sizeLine/\k=((y.length:Int) !=0)
 | .byt y=>y.size<=sizeLine/\k=((y.size:Int) !=0)
 | .ref p=>(∃xs,rA K H p xs/\k= !xs.isEmpty)\/(∃xs,zI K H p xs/\k= !xs.isEmpty)\/∃kvs,H p=some (.dK kvs)/\k= !kvs.isEmpty
 | _=>False
theorem JR{κ:Type}{kvs:List (κ×V)}{vs:List (κ×Value)}(r:KV kvs vs):(!vs.isEmpty)= !kvs.isEmpty:=by
 cases r <;> rfl
theorem yK{xs:List V}{aM:List Value}(r:Vals xs aM):(!aM.toArray.isEmpty)= !xs.isEmpty:=by
 cases r <;> simp
theorem oK:(sizeLine:Nat)<2^63:=by rw[sizeLine_eq];decide
theorem aAu:aLv X (λx H Q=>∃k,aFa X.K x H k/\Q k H):=by
 intro pins s σ H x v Q I d h;obtain⟨k,e,q⟩:=h;have n:=oK;have o:sizeLine=16777216:=aMe
 cases x with
 | bU=>
  cases d;have a :k=false:=e;subst a;exact truthy_none ⟨H,I,q⟩
 | bl b=>
  cases d;have a :k=b:=e;subst a;exact aO8 ⟨H,I,q⟩
 | int i=>
  obtain⟨t,rfl⟩:=d;have a :k=(i !=0):=e;subst a;exact PySem.P.truthy_int ⟨H,I,q⟩
 | str y=>
  obtain⟨t,rfl⟩:=d;obtain⟨j,a⟩:y.length<=sizeLine/\k=((y.length:Int) !=0):=e;subst a;exact PySem.P.truthy_str (by lia) ⟨H,I.tok _,q⟩
 | byt y=>
  obtain⟨t,rfl⟩:=d;obtain⟨j,a⟩:y.size<=sizeLine/\k=((y.size:Int) !=0):=e;subst a;exact PySem.W.truthy_bytes (by lia) ⟨H,I.tok _,q⟩
 | ref p=>
  cases d;have a :(∃xs,rA X.K H p xs/\k= !xs.isEmpty)\/(∃xs,zI X.K H p xs/\k= !xs.isEmpty)\/∃kvs,H p=some (.dK kvs)/\k= !kvs.isEmpty:=e
  rcases a with ⟨xs,f,a⟩ | ⟨xs,f,a⟩ | ⟨kvs,f,a⟩
  ·subst a;obtain⟨aM,r,g,hz⟩:=I.list f;have c:=r.length;exact wpAny_truthy_list g.isList (by simp only[List.size_toArray];lia) ⟨H,I.tok _,by rw[yK r];exact q⟩
  ·subst a;obtain⟨aM,r,g,hz⟩:=I.tuple f;have c:=r.length;exact truthy_tuple g (by simp only[List.size_toArray];lia) ⟨H,I.tok _,by rw[yK r];exact q⟩
  ·subst a;obtain⟨hz,l,vs,r,m⟩:kvs.length<=sizeLine/\(p==sysModules)=false/\∃vs,KV kvs vs/\s.heap.DictOf (aW X.prog X.w) p vs:=I.cS p _ f;have c:kvs.length=vs.length:=Paired.length r;exact wpAny_truthy_dict l m (by lia) ⟨H,I.tok _,by rw[JR r];exact q⟩
 | _=>exact(show False from e).elim
theorem RA(ha:PE X a ta)(he:∀b,isTrue a X.env b=(do let v<-b;standAt a.pos;holding [v] (truthy v))):
  PT X a (λσ H Q=>ta σ H λx H' =>∃k,aFa X.K x H' k/\Q k H'):=by
 intro pins s σ H Q I h;exact isTrue_plain (dZ (ha pins s σ H _ I h) λv s1 c=>by obtain⟨x,d,e,f,g⟩:=c;exact aAu pins s1 σ d x v Q e f g) (he _)
theorem IY:g5 X (binaryOp .Add) (λx y H Q=>∃i j,x= .str i/\y= .str j/\i.length+j.length<=sizeLine/\Q (.str (i++j)) H):=by
 intro pins s σ H x y v u Q I a b h;obtain⟨i,j,rfl,rfl,hz,q⟩:=h;obtain⟨t,rfl⟩:=a;obtain⟨t',rfl⟩:=b;exact add_str (λt' c=>⟨.str (i++j),H,I.tok _,⟨_,rfl⟩,q⟩) hz
theorem vals1{x:V}(r:Vals [x] us):∃u,us=[u]/\RelV x u:=by
 cases r with
 | cons a b=>cases b;exact⟨_,rfl,a⟩
theorem vals2{x y:V}(r:Vals [x,y] us):∃u a,us=[u,a]/\RelV x u/\RelV y a :=by
 cases r with
 | cons b c=>
  cases c with
  | cons d e=>cases e;exact⟨_,_,rfl,b,d⟩
theorem UW:cG X (.builtin "abs") (λxs H Q=>∃i,xs=[.int i]/\Q (.int (if i<0 then -i else i)) H):=by
 intro pins s σ H xs us Q I r h;obtain⟨i,rfl,q⟩:=h;obtain⟨u,rfl,t,rfl⟩:=vals1 r
 exact call_abs_int λu a=>⟨.int (if i<0 then -i else i),H,I.tok _,⟨_,rfl⟩,q⟩
theorem PX(b:X.calm=true):cG X (.builtin "max") (λxs H Q=>∃i j,xs=[.int i,.int j]/\Q (.int (if j > i then j else i)) H):=by
 intro pins s σ H xs us Q I r h;obtain⟨i,j,rfl,q⟩:=h;obtain⟨u,c,rfl,⟨t,rfl⟩,⟨t',rfl⟩⟩:=vals2 r
 refine max_two_ints (I.ok.hd b) λh' d k=>⟨_,H,I.kept k,?_,q⟩
 by_cases a:j > i
 ·rw[if_pos a,if_pos a];exact⟨_,rfl⟩
 ·rw[if_neg a,if_neg a];exact⟨_,rfl⟩
theorem PV(b:X.calm=true):cG X (.builtin "min") (λxs H Q=>∃i j,xs=[.int i,.int j]/\Q (.int (if j<i then j else i)) H):=by
 intro pins s σ H xs us Q I r h;obtain⟨i,j,rfl,q⟩:=h;obtain⟨u,c,rfl,⟨t,rfl⟩,⟨t',rfl⟩⟩:=vals2 r
 refine min_two_ints (I.ok.hd b) λh' d k=>⟨_,H,I.kept k,?_,q⟩
 by_cases a:j<i
 ·rw[if_pos a,if_pos a];exact⟨_,rfl⟩
 ·rw[if_neg a,if_neg a];exact⟨_,rfl⟩
theorem B3:cG X (.type "int") (λxs H Q=>(∃i,xs=[.int i]/\Q (.int i) H)\/∃k,xs=[.bl k]/\Q (.int (if k then 1 else 0)) H):=by
 intro pins s σ H xs us Q I r h
 rcases h with ⟨i,rfl,q⟩ | ⟨k,rfl,q⟩
 ·obtain⟨u,rfl,t,rfl⟩:=vals1 r;exact call_int_int ⟨.int i,H,I,⟨_,rfl⟩,q⟩
 ·obtain⟨u,rfl,a⟩:=vals1 r;cases a;exact call_int_bool ⟨.int (if k then 1 else 0),H,I.tok _,⟨_,rfl⟩,q⟩
end
theorem vR.some_of{v:V}{o:Option Value}(r:vR (some v) o):∃u,o=some u/\RelV v u:=by
 cases o with
 | none=>exact(show False from r).elim
 | some u=>exact⟨u,rfl,r⟩
structure iS(k:Nat)(A:Around):Prop where
 hd:A.handled=none
 dp:A.depth+3*k+5<recursionLimit
 un:A.units+16*k+200<cLine
theorem iS.mono{j k:Nat}(r:iS k A)(h:j<=k):iS j A:=⟨r.hd,by have:=r.dp;lia,by have:=r.un;lia⟩
theorem iS.deeper{k:Nat}(r:iS (k+1) A)(env:Env):iS k (A.deeper env):=
 ⟨r.hd,by have:=r.dp;show A.depth+1+3*k+5<_;lia,by have:=r.un;show A.units+3+16*k+200<_;lia⟩
theorem iS.depth{k:Nat}(r:iS k A):A.depth<recursionLimit:=by have:=r.dp;lia
theorem iS.units{k:Nat}(r:iS k A):A.units+64<cLine:=by have:=r.un;lia
def aG5:TA:=λ_ H Q=>Q [] H
def Z8(a:TE)(tr:TA):TA:=λσ H Q=>a σ H λx b=>tr σ b λxs c=>Q (x::xs) c
section
variable {X:Cx}{e:Expr}{es:List Expr}{te:TE}{t:TA}{pos:Pos}
theorem xR:PA X [] aG5:=λ_ _ _ _ H Q I h=>Calls.spliced_nil ⟨[],H,I,.nil,h⟩
theorem r6(ha:PE X e te)(c:PA X es t)(d:starEach (e::es) X.env=(false,eval e X.env)::starEach es X.env:=by rfl):PA X (e::es) (Z8 te t):=by
 intro pos pins s σ H Q I h;rw[d];show wpAny _ _ (spliced ((false,eval e X.env)::backTo pos (starEach es X.env))) _ _ s;refine aNz (dZ (ha pins s σ H _ I h) λu s1 a=>?_);obtain⟨x,f,g,i,j⟩:=a;exact dZ (c pos pins s1 σ f _ g j) λus s2 b=>by obtain⟨xs,k,l,m,n⟩:=b;exact⟨x::xs,k,l,.cons i m,n⟩
def aJw(t:TA):TE:=λσ H Q=>t σ H λxs a=>xs.length<=sizeLine/\∀p,a p=none->Q (.ref p) (upd a p (.tup xs))
def aK1(t:TA):TE:=λσ H Q=>t σ H λxs a=>xs.length<=sizeLine/\∀p,a p=none->Q (.ref p) (upd a p (.lst xs))
theorem aBv{x1}(h:PA X es t):PE X (.Tuple es x1 pos) (aJw t):=by
 intro pins s σ H Q I d;refine wpAny_Tuple_spliced (dZ (h pos pins s σ H _ I d) λus s1 ⟨xs,a,c,r,z,q⟩=>⟨by rw[<-r.length];exact z,?_⟩);have f:a s1.heap.objs.size=none:=c.cS.fresh (aM7 _);refine⟨.ref s1.heap.objs.size,upd a s1.heap.objs.size (.tup xs),c.laid (t' :=s1.toks) (λb u e=>aM5 _ e) (aM7 _) ?_,rfl,q _ f⟩;exact⟨z,us,r,⟨_,aMa _ rfl,rfl,_,rfl⟩,CH _ _⟩
theorem aC0(h:PA X es t):PE X (.List es pos) (aK1 t):=by
 intro pins s σ H Q I d;refine wpAny_List_spliced (dZ (h pos pins s σ H _ I d) λus s1 ⟨xs,a,c,r,z,q⟩=>⟨by rw[<-r.length];exact z,?_⟩);have f:a s1.heap.objs.size=none:=c.cS.fresh (aM7 _);refine⟨.ref s1.heap.objs.size,upd a s1.heap.objs.size (.lst xs),c.laid (t' :=s1.toks) (λb u e=>aM5 _ e) (aM7 _) ?_,rfl,q _ f⟩;exact⟨z,us,0,r,aMa _ rfl⟩
end
abbrev Sp:=List V->Hp->VK->XK->Prop
abbrev P9:=List Env->Hp->Shared->XK->aPv
structure ZX(P:Program)(w:World)(K:aPu)(mg:aPx)(base:Heap)(A:Around)(outer:List Env)(s:Shared)(H:Hp):Prop where
 frames:A.frames=some outer
 mod:Mod K mg base
 bs:∀b o,base.get? b=some o->s.heap.get? b=some o/\H b=none
 ZN:base.objs.size<=s.heap.objs.size
 yM:s.heap.FunFrames base outer
 frf:∀b∈T7 outer,H b=none
 cS:tE P w H s.heap
 bare:AllBare s.gens
def CE(outer:List Env)(P:Program)(w:World)(H:Hp)(s:Shared)(Q:VK)(u:Value)(a :Shared):Prop:=
 ∃v H',a.os=s.os/\AllBare a.gens/\Un (T7 outer) [] H H' s.heap a.heap/\tE P w H' a.heap/\RelV v u/\Q v H'
def CR(CX:P9)(outer:List Env)(P:Program)(w:World)(H:Hp)(s:Shared)(Q:VK)(E:XK)(r:Result)(a :Shared):Prop:=
 match r with
 | .ok (.ret u)=>CE outer P w H s Q u a
 | .ok _=>False
 | .error e=>CX outer H s E e a
structure mG(P:Program)(w:World)(K:aPu)(mg:aPx)(base:Heap)(CX:P9)(k:Nat)(f:Addr)(fd:FuncData)(ps:List Str)(sp:Sp):Prop where
 len:∀vs H Q E,sp vs H Q E->vs.length=ps.length
 run:∀(A:Around) (outer:List Env) (s:Shared) (H:Hp) (args:Args) (us:List Value) (vs:List V) (Q:VK) (E:XK),iS k A->ZX P w K mg base A outer s H->BindsTo s fd args (ps.zip us)->Vals vs us->sp vs H Q E->
  codeAny (model P w) A (.call (.ref f) args) (CR CX outer P w H s Q E) s
variable{mg:aPx}{base:Heap}{f:Addr}{fd:FuncData}{ps:List Str}
theorem mG.mono{CX:P9}{j k:Nat}{sp:Sp}(F:mG P w K mg base CX j f fd ps sp)(h:j<=k):
  mG P w K mg base CX k f fd ps sp:=⟨F.len,λA outer s H args us vs Q E a=>F.run A outer s H args us vs Q E (a.mono h)⟩
theorem mG.imp{CX:P9}{k:Nat}{sp a :Sp}(F:mG P w K mg base CX k f fd ps sp)
  (h:∀vs H Q E,a vs H Q E->sp vs H Q E):mG P w K mg base CX k f fd ps a :=
 ⟨λvs H Q E q=>F.len vs H Q E (h _ _ _ _ q),λA outer s H args us vs Q E b he c d e=>F.run A outer s H args us vs Q E b he c d (h _ _ _ _ e)⟩
section
variable {X:Cx}{pins:List (Addr×Obj)}{σ:St}{H:Hp}{s s' :Shared}
theorem Inv.aLn(I:Inv X pins σ H s):ZX X.prog X.w X.K X.mg X.base X.A X.stack s H:=
 ⟨I.ok.frames,I.ok.mod,I.bs,aMq I.ok.ZN I.sz,I.stack,I.LF,I.cS,I.bare⟩
theorem Inv.after{Q:VK}(I:Inv X pins σ H s)(h:CE X.stack X.prog X.w H s Q u s'):EP X pins σ Q u s' :=by
 obtain⟨v,H',os,bare,un,cS,r,q⟩:=h;obtain⟨c,g,d,t,a⟩:=s';obtain rfl:a =s.os:=os;exact⟨v,H',I.call (h' :=c) (g' :=g) (d' :=d) (t' :=t) (ch:=[]) un cS bare (λb z=>absurd z (by simp)),r,q⟩
end
def aG9(sp:Sp)(a:List V)(E:XK)(t:TA):TE:=λσ H Q=>t σ H λvs b=>sp (vs++a) b Q E
def Binds(K:aPu)(fd:FuncData)(ps:List Str)(ds:List Value):Prop:=
 ∀(s:Shared) (us:List Value),K.In s.heap->(us++ds).length=ps.length->BindsTo s fd ⟨us,[]⟩ (ps.zip (us++ds))
theorem Binds.all(h:∀us:List Value,us.length=ps.length->bindArgs fd ⟨us,[]⟩=pure (ps.zip us)):Binds K fd ps []:=λs us _ a=>by
 rw[List.append_nil]at a⊢;exact .of_eq (h us a)
def Passes(CX:P9)(X:Cx)(E:XK):Prop:=∀(pins:List (Addr×Obj)) (σ:St) (H:Hp) (s:Shared) (e:Value) (a :Shared),Inv X pins σ H s->CX X.stack H s E e a ->X.xe e a
section
variable {X:Cx}{CX:P9}{k:Nat}{f C:Addr}{fd:FuncData}{ps:List Str}{sp:Sp}{dvs:List V}{ds:List Value}{E:XK}{x m:Str}{p pos apos:Pos}{e o:Expr}{es:List Expr}{ta:TE}{t:TA}
theorem aBc{Q:VK}{vs:List V}(F:mG X.prog X.w X.K X.mg X.base CX k f fd ps sp)(c:iS k X.A)(d:Binds X.K fd ps ds)(hd:Vals dvs ds)(g:Passes CX X E)
  (I:Inv X pins σ H s) (r:Vals vs us) (h:sp (vs++dvs) H Q E):wpAny (model X.prog X.w) X.A (call (.ref f) us) (EP X pins σ Q) X.xe s:=by
 have b:Vals (vs++dvs) (us++ds):=r.append hd;have i:(us++ds).length=ps.length:=by rw[<-b.length];exact F.len _ _ _ _ h
 refine wpAny_call (aOu (F.run X.A X.stack s H ⟨us,[]⟩ (us++ds) (vs++dvs) Q E c I.aLn (d s us I.kIn i) b h) λr j a=>?_)
 cases r with
 | error e=>exact g pins σ H s e j I a
 | ok fl=>
  cases fl with
  | ret u=>exact I.after a
  | next=>exact False.elim a
  | brk=>exact False.elim a
  | cont=>exact False.elim a
theorem W9(F:mG X.prog X.w X.K X.mg X.base CX k f fd ps sp)(d:iS k X.A)(hg:Gl X x)(hm:X.mg x=some (.ref f))(g:PySem.W.keepIn X.K (.ref f)=true)(i:Binds X.K fd ps ds)(hd:Vals dvs ds)(j:Passes CX X E)
  (ha:PA X (e::es) t) (a:(x==("__debug__":Str))=false:=by decide) (he:starEach (e::es) X.env=(false,eval e X.env)::starEach es X.env:=by rfl) (b:(backTo pos (starEach es X.env)).any (·.1)=false:=by rfl):
  PE X (.Call (.Name x p) (e::es) [] pos) (aG9 sp dvs E t):=by
 intro pins s σ H Q I h;refine aO0 (L8 I hg hm ?_ a);refine PySem.W.callWith_K (h₀:=X.base) I.ok.mod.kin g (dZ (ha pos pins s σ H _ I h) λus s1 ⟨vs,l,c,r,q⟩=>⟨c.kIn,?_⟩) he b;exact aBc F d i hd j c r q
end
structure aV(N P:List Str)(sc:Scope):Prop where
 kind:sc.kind= .function
 co:sc.isCoroutine=false
 gen:sc.isGenerator=false
 nd:N.Nodup
 pre:N.take P.length=P
 par:∀x∈P,sc.names.lookup x=some .local\/sc.names.lookup x=some .cell
 aCm:∀y∈sc.names,y.2≠ .free
theorem B4{kindOf:Str->Option NameKind}{x:Str}:∀{binds:List (Str×Value)} {m:aPx},(∀v,(x,v)∉binds)->bindL kindOf binds m x=m x
 | [],_,_=>rfl
 | (n,v)::r,m,h=>by
  unfold bindL;rw[B4 λw a=>h w (List.mem_cons_of_mem _ a)];split
  ·have:x≠n:=by rintro rfl;exact h v aM8
   simp[this]
  ·rfl
theorem B6{kindOf:Str->Option NameKind}{x:Str}:∀{binds:List (Str×Value)} {m:aPx},(∀v,(x,v)∉binds)->bindC kindOf binds m x=m x
 | [],_,_=>rfl
 | (n,v)::r,m,h=>by
  unfold bindC;rw[B6 λw a=>h w (List.mem_cons_of_mem _ a)];split
  ·rfl
  ·have:x≠n:=by rintro rfl;exact h v aM8
   simp[this]
theorem B5{kindOf:Str->Option NameKind}{x:Str}{v:Value}:∀{P:List Str} {vs:List Value} {i:Nat} {m:aPx},P.Nodup->P[i]? =some x->vs[i]? =some v->kindOf x=some .local->
  bindL kindOf (P.zip vs) m x=some v
 | [],_,_,_,_,h,_,_=>by simp at h
 | _::_,[],_,_,_,_,h,_=>by simp at h
 | p::P,w::vs,0,m,nd,h1,h2,hk=>by
  simp at h1 h2;subst h1;subst h2;show bindL kindOf ((p,w)::P.zip vs) m p=_;unfold bindL;rw[B4 λv a=>(List.nodup_cons.mp nd).1 (List.of_mem_zip a).1,if_pos hk];simp
 | p::P,w::vs,i+1,m,nd,h1,h2,hk=>by
  show bindL kindOf ((p,w)::P.zip vs) m x=_;unfold bindL;exact B5 (i:=i) (aO4.mp nd).2 (by simpa using h1) (by simpa using h2) hk
theorem B7{kindOf:Str->Option NameKind}{x:Str}{v:Value}:∀{P:List Str} {vs:List Value} {i:Nat} {m:aPx},P.Nodup->P[i]? =some x->vs[i]? =some v->kindOf x≠some .local->
  bindC kindOf (P.zip vs) m x=some v
 | [],_,_,_,_,h,_,_=>by simp at h
 | _::_,[],_,_,_,_,h,_=>by simp at h
 | p::P,w::vs,0,m,nd,h1,h2,hk=>by
  simp at h1 h2;subst h1;subst h2;show bindC kindOf ((p,w)::P.zip vs) m p=_;unfold bindC;rw[B6 λv a=>(List.nodup_cons.mp nd).1 (List.of_mem_zip a).1,if_neg hk];simp
 | p::P,w::vs,i+1,m,nd,h1,h2,hk=>by
  show bindC kindOf ((p,w)::P.zip vs) m x=_;unfold bindC;exact B7 (i:=i) (aO4.mp nd).2 (by simpa using h1) (by simpa using h2) hk
def start(N:List Str)(vs:List V):St:=vs.map some++List.replicate (N.length-vs.length) none
def yZ(CX:P9)(P:Program)(w:World)(K:aPu)(mg:aPx)(base:Heap)(N:List Str)(qual:Str)(scope:Scope)(f:Addr)(b:Value)(A:Around)(outer:List Env)(s:Shared)(H:Hp)(E:XK):Cx where
 prog:=P
 w:=w
 K:=K
 mg:=mg
 base:=base
 A:=A.deeper (envOfC qual scope s.heap.objs.size f b)
 N:=N
 s₀:=s
 H₀:=H
 env:=envOfC qual scope s.heap.objs.size f b
 outer:=outer
 stack:=envOfC qual scope s.heap.objs.size f b::outer
 ex:=[]
 calm:=true
 fn:=λ_=>true
 pn:=[]
 xe:=λe c =>wpAny (model P w) (A.deeper (envOfC qual scope s.heap.objs.size f b)) (leaving (envOfC qual scope s.heap.objs.size f b) e) (λ_ a =>CX outer H s E e a) (λd a =>CX outer H s E d a) c
theorem HE{sc:Scope}{n:Nat}{x:Str}(h:sc.names.lookup x=some .cell):∃c,(cellsFrom n sc.names []).lookup x=some c:=by
 have q:=PySem.W.cellsFrom_some sc.names n [] (.inl h);exact Option.isSome_iff_exists.mp q
theorem OX{CX:P9}{N ps:List Str}{qual:Str}{scope:Scope}{o:Value}{outer:List Env}{s s1:Shared}{E:XK}{vs:List V}
  (S:aV N ps scope) (hd:A.handled=none) (g:ZX P w K mg base A outer s H) (G:vs.length=ps.length) (r:Vals vs us)
  (x:InCallC s s.heap.objs.size (bindL (envOfC qual scope s.heap.objs.size f o).kindOf (ps.zip us) λ_=>none) (cellsFrom (s.heap.objs.size+1) scope.names []) (bindC (envOfC qual scope s.heap.objs.size f o).kindOf (ps.zip us) λ_=>none) s1):
  Inv (yZ CX P w K mg base N qual scope f o A outer s H E) [] (start N vs) H s1:=by
 have D:ps.length<=N.length:=by have:=aN5 List.length S.pre;rw[List.length_take]at this;lia
 obtain⟨t,I,rfl,B⟩:=x.done;have j:∀b:Addr,b∉(yZ CX P w K mg base N qual scope f o A outer s H E).ex:=λb z=>absurd (show b∈([]:List Addr) from z) (by simp)
 refine⟨⟨g.mod,S.kind,rfl,rfl,aM7 _,λy z c t d=>?_,λy hy=>?_,λy c _ h=>?_,λ_=>hd,Around.frames_deeper g.frames,.inr ⟨rfl,rfl⟩,λb z=>absurd z (j b),g.bs,g.ZN,λb _ _=>j b,λb z=>absurd z (j b),g.yM,g.frf⟩,
  rfl,g.bare,Un.kept B,⟨_,x.toInCall.ns,λi y v t d J=>?_⟩,λy c h=>⟨_,x.cell y c h⟩,g.cS.fresh (aM7 _),λy c h=>?_,λp l=>absurd (show p∈([]:List (Addr×Obj)) from l) (by simp),g.cS.kept B,?_⟩
 ·exact name_of_addr x.apart (aMu t) (aMu d)
 ·have hy:scope.names.lookup y=some .cell\/scope.names.lookup y=some .free:=hy;rcases hy with hy | hy
  ·exact HE hy
  ·exact absurd rfl (S.aCm _ (aMu hy))
 ·exact aNt (x.above y c (aMu h))
 ·have hi:i<vs.length:=by
   unfold start at d;by_cases hi:i<vs.length
   ·exact hi
   ·rw[List.getElem?_append_right (by simpa using hi)]at d;rw[List.getElem?_replicate]at d;split at d <;> cases d
  have ha:vs[i]? =some v:=by
   unfold start at d;rw[List.getElem?_append_left (by simpa using hi),List.getElem?_map]at d
   cases e:vs[i]? with
   | none=>rw[e]at d;cases d
   | some a=>rw[e]at d;cases d;rfl
  obtain⟨u,C,F⟩:=r.get ha
  have l:ps[i]? =some y:=by
   rw[<-S.pre,List.getElem?_take_of_lt (by lia)];exact t
  have m:ps.Nodup:=by rw[<-S.pre];exact S.nd.sublist (aPl _ _)
  refine⟨u,F,?_⟩;rcases S.par y (aMc l) with k | k
  ·exact .inl ⟨k,B5 m l C k⟩
  ·obtain⟨c,e⟩:=HE (n:=s.heap.objs.size+1) k;refine .inr ⟨.inl k,c,e,?_⟩;have q:=x.cell y c e;rw[B7 m l C (by show scope.names.lookup y≠_;rw[k];decide)]at q;exact q
 ·exact g.cS.fresh (aNt (x.above y c (aMu h)))
 ·unfold start;show _=N.length;rw[List.length_append,List.length_map,List.length_replicate]
  lia
theorem aIf{CX:P9}{k:Nat}{name qual:Str}{a:Arguments}{body:List Stmt}{scope:Scope}{F kV doc pm cdv ct oc:Value}{an od:Option Addr}
  {osl:Array (Option Value)} {N ps:List Str} {sp:Sp} (G:K.lookup f=some ⟨oc,od,.func (PySem.W.fnOf name qual a body scope F kV doc pm an cdv ct),osl⟩) (p:PySem.W.codeIn K cdv qual=true) (S:aV N ps scope)
  (len:∀vs H Q E,sp vs H Q E->vs.length=ps.length)
  (d:∀(A:Around) (outer:List Env) (s:Shared) (H:Hp) (vs:List V) (Q:VK) (E:XK),iS k (A.deeper (envOfC qual scope s.heap.objs.size f cdv))->sp vs H Q E->
   ∃t,EO (yZ CX P w K mg base N qual scope f cdv A outer s H E) body t/\t {nx:=λ_ H' =>Q .bU H',rt:=Q} (start N vs) H):
  mG P w K mg base CX (k+1) f (PySem.W.fnOf name qual a body scope F kV doc pm an cdv ct) ps sp:=by
 refine⟨len,λA outer s H args us vs Q E z i L r j=>?_⟩;have M:=len _ _ _ _ j;have KX:K.In s.heap:=i.mod.kin.keeps λb o e=>(i.bs b o e).1;have B:s.heap.NoLimit:=i.mod.nolimit.keeps λb o e=>(i.bs b o e).1
 have g:∀y∈ps.zip us,scope.names.lookup y.1=some .local\/(scope.names.lookup y.1=some .cell/\((cellsFrom (s.heap.objs.size+1) scope.names []).lookup y.1).isSome=true):=λl O=>by
  obtain⟨n,v⟩:=l;rcases S.par n (List.of_mem_zip O).1 with q | q
  ·exact .inl q
  ·exact .inr ⟨q,PySem.W.cellsFrom_some _ _ _ (.inl q)⟩
 refine codeAny_call_function z.depth (KX _ _ G) rfl S.co S.gen rfl (PySem.W.codeRec_of KX p) (L _ _ _ _ ?_);refine wpAny_newFunctionEnv_cells S.kind g λenv he s1 x=>?_;subst he;refine⟨B.keeps x.toInCall.keep,codeAny_func ?_⟩;obtain⟨t,ht,R⟩:=d A outer s H vs Q E (z.deeper _) j;have I:Inv (yZ CX P w K mg base N qual scope f cdv A outer s H E) [] (start N vs) H s1:=OX S z.hd i M r x;refine aNj (ht [] s1 (start N vs) H _ I R) (λfl C h=>?_) λe C h=>h
 have m:∀{c :St} {H' :Hp} {v:V} {u:Value},Inv (yZ CX P w K mg base N qual scope f cdv A outer s H E) [] c H' C ->RelV v u->Q v H' ->CE outer P w H s Q u C :=
  λ{c H' v u} J D q=>⟨v,H',J.os,J.bare,J.base,J.cS,D,q⟩
 cases fl with
 | ret u=>
  obtain⟨v,c,H',J,D,q⟩:=h;exact m J D q
 | next=>
  obtain⟨c,H',J,q⟩:=h;exact m (v:=V.bU) (u:=Value.none) J rfl q
 | brk=>
  obtain⟨_,_,_,q⟩:=h;exact False.elim q
 | cont=>
  obtain⟨_,_,_,q⟩:=h;exact False.elim q
section
variable {X:Cx}{x:Str}{p pos:Pos}{e:Expr}{es:List Expr}{t:TA}{id T:String}{r:List V->Hp->VK->Prop}
def tCB(r:List V->Hp->VK->Prop)(t:TA):TE:=λσ H Q=>t σ H λvs a=>r vs a Q
theorem xQ(d:cG X (.builtin id) r)(hg:Gl X x)(hm:X.mg x=none)(f:bootBuiltins x=some (.builtin id))(ha:PA X (e::es) t)(g:x≠ "__name__":=by decide)(b:(x==("__debug__":Str))=false:=by decide)
  (he:starEach (e::es) X.env=(false,eval e X.env)::starEach es X.env:=by rfl) (c:(backTo pos (starEach es X.env)).any (·.1)=false:=by rfl):PE X (.Call (.Name x p) (e::es) [] pos) (tCB r t):=by
 intro pins s σ H Q I h;refine aO0 (qP I hg hm f ?_ g b);exact PyProof.Rows.callWith_builtin1 (dZ (ha pos pins s σ H _ I h) λus s1 a=>by obtain⟨vs,i,j,k,l⟩:=a;exact d pins s1 σ i vs us Q j k l) he c
theorem tQ(d:cG X (.type T) r)(hg:Gl X x)(hm:X.mg x=none)(f:bootBuiltins x=some (.type T))(ha:PA X (e::es) t)(g:x≠ "__name__":=by decide)(b:(x==("__debug__":Str))=false:=by decide)
  (he:starEach (e::es) X.env=(false,eval e X.env)::starEach es X.env:=by rfl) (c:(backTo pos (starEach es X.env)).any (·.1)=false:=by rfl):PE X (.Call (.Name x p) (e::es) [] pos) (tCB r t):=by
 intro pins s σ H Q I h;refine aO0 (qP I hg hm f ?_ g b);exact aNb (dZ (ha pos pins s σ H _ I h) λus s1 a=>by obtain⟨vs,i,j,k,l⟩:=a;exact d pins s1 σ i vs us Q j k l) he c
end
end L2
namespace HT
open PySem PyProof.Rows
section
open PySem.SeqAt
open PySem.AutoSeq1 (wpAny_loadPart')
open PySem.MeetsSeq PySem.MeetsSeq2 PySem.MeetsSeq3
end
section
variable {prog:Program}{w:World}{A:Around}{E:aPv}{s:Shared}
theorem ZJ{t b:Addr}{vs ws:List Value}{Q:aPv}(ht:IsTup s.heap t vs.toArray)(o:IsTup s.heap b ws.toArray)(i:vs≠[])
  (p:ws=[]->Q (.ref t) s) (q:ws≠[]->Q (.ref s.heap.objs.size) {s with heap:=s.heap.push {cls:= .type "tuple",data:= .seq (vs++ws).toArray}})
  (hsz:vs.length+ws.length<=sizeLine):wpAny (model prog w) A (binaryOp .Add (.ref t) (.ref b)) Q E s:=by
 obtain⟨⟨cls,j,data,sl⟩,ho,k,n,hd⟩:=id ht;obtain⟨⟨l,c,data2,d⟩,a,f,m,g⟩:=id o;simp only at k hd f g;subst k hd f g;have e:vs.toArray++ws.toArray=(vs++ws).toArray:=by simp
 by_cases h:ws=[]
 ·exact concat_meets ⟨_,ho,rfl⟩ ⟨_,a,rfl⟩ noFill_tuple_add seq_tuple_add aOv aOr (aOm _ _)
   (tuple_addW1 t b vs.toArray ws.toArray n m j c sl d (by simpa using i) (by simp[h])) ⟨ho,a,p h⟩
 ·refine concat_meets ⟨_,ho,rfl⟩ ⟨_,a,rfl⟩ noFill_tuple_add seq_tuple_add aOv aOr (aOm _ _)
   (tuple_addW2 t b vs.toArray ws.toArray n m j c sl d (by simpa using i) (by simpa using h) (by rw[List.size_toArray,List.size_toArray];exact hsz)) ⟨ho,a,?_⟩
  rw[e];exact q h
def dE(n d:Nat):Option Int->Nat
 | none=>d
 | some v=>if v<0 then (v+(n:Int)).toNat else min v.toNat n
theorem V7(n d k:Nat):dE n d (some (k:Int))=min k n:=by
 show (if (k:Int)<0 then ((k:Int)+(n:Int)).toNat else min (k:Int).toNat n)=min k n;rw[if_neg (by lia),Int.toNat_natCast]
theorem aBb(n d:Nat)(hd:d<=n)(o:Option Int):dE n d o<=n:=by
 cases o with
 | none=>exact hd
 | some v=>
  show (if v<0 then (v+(n:Int)).toNat else min v.toNat n)<=n;by_cases a:v<0
  ·rw[if_pos a];lia
  ·rw[if_neg a];exact Nat.min_le_right _ _
theorem ND(v:Int)(n d:Nat):(if v<0 then max (v+(n:Int)) 0 else min v (n:Int))=((dE n d (some v):Nat):Int):=by
 show (if v<0 then max (v+(n:Int)) 0 else min v (n:Int))=(((if v<0 then (v+(n:Int)).toNat else min v.toNat n):Nat):Int);by_cases a:v<0
 ·simp only[if_pos a];lia
 ·simp only[if_neg a];lia
theorem KP(lo hi:Option Int)(n:Nat):Builtin.Slice.sliceAdjust lo hi 1 (n:Int)=(((dE n 0 lo:Nat):Int),((dE n n hi:Nat):Int)):=by
 have a:¬((1:Int)<0):=by lia
 unfold Builtin.Slice.sliceAdjust;simp only[a,if_false];refine Prod.ext ?_ ?_
 ·cases lo with
  | none=>rfl
  | some v=>exact ND v n 0
 ·cases hi with
  | none=>rfl
  | some v=>exact ND v n n
theorem IW(i j:Nat):Builtin.Slice.slicePlaces (i:Int) (j:Int) 1=j-i:=by
 unfold Builtin.Slice.slicePlaces;have a:(1:Int) > 0:=by lia
 simp only[a,if_true,Int.ediv_one];split <;> lia
theorem xC{v:Value}{o:Option Int}{Q:Option Int->Shared->Prop}(p:IsPart v o)(h:Q o s):wpAny (model prog w) A (Builtin.Slice.slicePartIndex v) Q E s:=by
 cases p with
 | none=>exact slicePart_none h
 | int i t=>exact slicePart_int h
theorem l5{sl:Addr}{c d:Value}{lo hi:Option Int}{n:Nat}{Q:Int×Int×Nat->Shared->Prop}(e:s.heap.IsSliceOf sl c d .none)(f:IsPart c lo)(g:IsPart d hi)
  (h:Q (((dE n 0 lo:Nat):Int),1,dE n n hi-dE n 0 lo) s):wpAny (model prog w) A (Builtin.Slice.sliceApplied (.ref sl) (pure (n:Int))) Q E s:=by
 obtain⟨os,a,i,b⟩:=id e;unfold Builtin.Slice.sliceApplied Builtin.Slice.sliceFields;refine aM3 (aM3 (aMz a b (x:=c) rfl (aM3 (aMz a b (x:=d) rfl (aM3 (aMz a b (x:= .none) rfl (aM4 ?_)))))));refine aM3 (slicePart_none ?_);show wpAny _ _ (if ((1:Int)==0)=true then _ else _) _ _ s;rw[if_neg (by decide)];refine aM3 (xC f (aM3 (xC g (aM3 (aM4 ?_)))));show wpAny _ _ (match Builtin.Slice.sliceAdjust lo hi 1 (n:Int) with | (lo,hi)=>pure (lo,(1:Int),Builtin.Slice.slicePlaces lo hi 1)) _ _ s;rw[KP lo hi n];show wpAny _ _ (pure (((dE n 0 lo:Nat):Int),(1:Int),Builtin.Slice.slicePlaces ((dE n 0 lo:Nat):Int) ((dE n n hi:Nat):Int) 1)) _ _ s;rw[IW];exact aM4 h
theorem RH(xs:Array Value)(i k:Nat):((List.range k).filterMap λ(m:Nat)=>xs[((i:Int)+(m:Int)*1).toNat]?).toArray=((xs.toList.drop i).take k).toArray:=by
 have e:(λ(m:Nat)=>xs[((i:Int)+(m:Int)*1).toNat]?)=λm=>xs[i+m]? :=by
  funext m;have:((i:Int)+(m:Int)*1).toNat=i+m:=by lia
  rw[this]
 rw[e];have:=pick_run xs i k;rw[List.filterMap_map]at this;have a:((λx=>xs[x]?) ∘ λx=>i+x)=λm=>xs[i+m]? :=rfl;rw[a]at this;rw[this]
theorem sO{t sl:Addr}{items:Array Value}{f g:Value}{lo hi:Option Int}{Q:aPv}(ht:IsTup s.heap t items)(i:s.heap.IsSliceOf sl f g .none)(j:IsPart f lo)(k:IsPart g hi)
  (l:¬(dE items.size 0 lo=0/\dE items.size items.size hi=items.size))
  (h:Q (.ref s.heap.objs.size) {s with heap:=s.heap.push {cls:= .type "tuple",data:= .seq ((items.toList.drop (dE items.size 0 lo)).take (dE items.size items.size hi-dE items.size 0 lo)).toArray}})
  (hsz:items.size<=sizeLine):wpAny (model prog w) A (getItem (.ref t) (.ref sl)) Q E s:=by
 have a:sizeOk (.seq ((items.toList.drop (dE items.size 0 lo)).take (dE items.size items.size hi-dE items.size 0 lo)).toArray):=by
  show ((items.toList.drop (dE items.size 0 lo)).take (dE items.size items.size hi-dE items.size 0 lo)).toArray.size<=sizeLine;rw[List.size_toArray,List.length_take,List.length_drop,Array.length_toList]
  lia
 have o:dE items.size items.size hi<=items.size:=aBb _ _ (aM7 _) hi;obtain⟨os,b,c,n⟩:=id i
 have d:s.TypeIs (.ref sl) "slice":=⟨os,b,c⟩
 unfold getItem
 try with_reducible refine aMv ?_
 first | refine aM3 (aM4 ?_) | skip
 refine aM3 (wpAny_sequenceKey ht.typeIs (by decide) ?_)
 refine aM3 (aMo (name:=Str.ofString "__getitem__") ht.typeIs aN3
  (aMk aN3 ht.typeIs entry_tuple_getitem ?_ (args_tuple_getitem _ _)))
 show wpAny _ _ (Builtin.Tuple.tupleItemsOf (.ref t) >>=_) _ _ s;refine aM3 (tupleItemsOf_ ht ?_);refine aM3 (aOe d ?_);rw[if_pos (by decide)];refine aM3 (l5 i j k ?_)
 have e:¬((((dE items.size 0 lo:Nat):Int)==0 && (1:Int)==1 && (dE items.size items.size hi-dE items.size 0 lo)==items.size)=true):=by
  intro q;rw[Bool.and_eq_true,Bool.and_eq_true]at q;have p:((dE items.size 0 lo:Nat):Int)=0:=eq_of_beq q.1.1;have r:dE items.size items.size hi-dE items.size 0 lo=items.size:=eq_of_beq q.2;exact l ⟨by lia,by lia⟩
 show wpAny _ _ (if (((dE items.size 0 lo:Nat):Int)==0 && (1:Int)==1 && (dE items.size items.size hi-dE items.size 0 lo)==items.size)=true then _ else _) _ _ s;rw[if_neg e,RH]
 first
  | exact aM3 (m:=Builtin.Tuple.tupleExact _) (aMs (aM4 ⟨_,rfl,aM4 h⟩) a)
  | exact aM3 (m:=Builtin.Tuple.tupleExact _) (aMs (aM3 (aM4 (aM4 ⟨_,rfl,aM4 h⟩))) a)
  | exact aM3 (aM3 (m:=Builtin.Tuple.tupleExact _) (aMs (aM4 (aM4 ⟨_,rfl,aM4 h⟩)) a))
  | exact aM3 (aM3 (m:=Builtin.Tuple.tupleExact _) (aMs (aM4 ⟨_,rfl,aM4 h⟩) a))
end
end HT
namespace L2
open PySem PySem.Spec PyProof.Rows
abbrev TO:=St->Hp->(Option Int->Hp->Prop)->Prop
def PO(X:Cx)(e:Option Expr)(t:TO):Prop:=
 ∀(pins:List (Addr×Obj)) (s:Shared) (σ:St) (H:Hp) (Q:Option Int->Hp->Prop),Inv X pins σ H s->t σ H Q->
  wpAny (model X.prog X.w) X.A (evalPart e X.env) (λu a =>∃o H',Inv X pins σ H' a /\IsPart u o/\Q o H') X.xe s
def VY:TO:=λ_ H Q=>Q none H
def aG2(t:TE):TO:=λσ H Q=>t σ H λx a=>∃i,x= .int i/\Q (some i) a
section
variable {X:Cx}{e:Expr}{te:TE}{lo hi:Option Expr}{tl th:TO}{pos p2:Pos}
theorem W2:PO X none VY:=by
 intro pins s σ H Q I h;rw[evalPart_none];exact aM4 ⟨none,H,I,.none,h⟩
theorem W0(h:PE X e te):PO X (some e) (aG2 te):=by
 intro pins s σ H Q I b;rw[evalPart_some];refine dZ (h pins s σ H _ I b) λu s1 a=>?_;obtain⟨x,c,d,f,g⟩:=a;obtain⟨i,rfl,q⟩:=g;obtain⟨t,rfl⟩:=f;exact⟨some i,c,d,.int i t,q⟩
def SlR(X:Cx)(r:V->Option Int->Option Int->Hp->VK->Prop):Prop:=
 ∀(pins:List (Addr×Obj)) (s:Shared) (σ:St) (H:Hp) (x:V) (v a b:Value) (lo hi:Option Int) (sl:Addr) (Q:VK),Inv X pins σ H s->RelV x v->s.heap.IsSliceOf sl a b .none->IsPart a lo->IsPart b hi->r x lo hi H Q->
  ∃T id,typeLookup (.type T) "__getitem__"=pure (some (.builtin id))/\s.TypeIs v T/\wpAny (model X.prog X.w) X.A (getItem v (.ref sl)) (EP X pins σ Q) X.xe s
def tSl(r:V->Option Int->Option Int->Hp->VK->Prop)(te:TE)(tl th:TO):TE:=λσ H Q=>te σ H λx a=>tl σ a λl b=>th σ b λu c=>r x l u c Q
theorem RJ{r:V->Option Int->Option Int->Hp->VK->Prop}(j:SlR X r)(he:PE X e te)(k:PO X lo tl)(m:PO X hi th):PE X (.Subscript e (.Slice lo hi none p2) pos) (tSl r te tl th):=by
 intro pins s σ H Q I h;refine Subscript_ (dZ (he pins s σ H _ I h) λv s1 c=>?_);obtain⟨x,n,o,p,t⟩:=c;refine wpAny_Slice (dZ (k pins s1 σ n _ o t) λf s2 ⟨l,y,z,B,C⟩=>dZ (m pins s2 σ y _ z C) λg a d=>?_);obtain⟨u,i,D,E,F⟩:=d;rw[evalPart_none];refine aM4 ?_;have G:Inv X pins σ i {a with heap:=a.heap.push {cls:= .type "slice",data:= .fields #[f,g,.none]}}:=D.kept (t' :=a.toks) λb ob q=>aM5 _ q;obtain⟨T,id,J,ht,hg⟩:=j pins {a with heap:=a.heap.push {cls:= .type "slice",data:= .fields #[f,g,.none]}} σ i x v f g l u a.heap.objs.size Q G p (Heap.IsSliceOf.new ..) B E F;show wpAny (model X.prog X.w) X.A (subscriptTail e (.Slice lo hi none p2) v (.ref a.heap.objs.size)) (EP X pins σ Q) X.xe {a with heap:=a.heap.push {cls:= .type "slice",data:= .fields #[f,g,.none]}};exact tail_any (ops:=[.ref a.heap.objs.size,v]) ht J hg (by with_unfolding_all rfl)
def EA(xs:List V)(lo hi:Option Int):List V:=(xs.drop (HT.dE xs.length 0 lo)).take (HT.dE xs.length xs.length hi-HT.dE xs.length 0 lo)
theorem vC(xs:List V)(lo hi:Option Int):(EA xs lo hi).length<=xs.length:=by
 unfold EA;rw[List.length_take,List.length_drop]
 lia
def aKx(K:aPu):V->Option Int->Option Int->Hp->VK->Prop:=λx lo hi H Q=>∃a xs,x= .ref a/\zI K H a xs/\
 ¬(HT.dE xs.length 0 lo=0/\HT.dE xs.length xs.length hi=xs.length)/\∀p,H p=none->Q (.ref p) (upd H p (.tup (EA xs lo hi)))
theorem aB6:SlR X (aKx X.K):=by
 intro pins s σ H x v k l lo hi sl Q I d e f g h;obtain⟨a,xs,rfl,i,j,q⟩:=h;cases d;obtain⟨aM,r,ht,hz⟩:=I.tuple i;have c:aM.toArray.size=xs.length:=by rw[List.size_toArray];exact r.length.symm
 refine⟨"tuple",_,aN3.lookup,ht.typeIs,?_⟩;refine HT.sO ht e f g (by rw[c];exact j) ?_ (by rw[c];exact hz);rw[c];refine⟨.ref s.heap.objs.size,_,I.laid (t' :=s.toks) (o:= .tup (EA xs lo hi)) (λb ob q=>aM5 _ q) (aM7 _) ?_,rfl,q _ (I.cS.fresh (aM7 _))⟩;exact⟨aMq (vC xs lo hi) hz,_,(r.drop (HT.dE xs.length 0 lo)).take (HT.dE xs.length xs.length hi-HT.dE xs.length 0 lo),IsTup.new _ _,CH _ _⟩
def aGr(K:aPu):R2:=λx y H Q=>∃a b xs c,x= .ref a/\y= .ref b/\zI K H a xs/\zI K H b c/\xs≠[]/\xs.length+c.length<=sizeLine/\
 (c=[]->Q (.ref a) H)/\(c≠[]->∀p,H p=none->Q (.ref p) (upd H p (.tup (xs++c))))
theorem Vals.C2{xs:List V}{us:List Value}(r:Vals xs us):us=[]↔xs=[]:=by
 cases r with
 | nil=>simp
 | cons _ _=>simp
theorem XF:g5 X (binaryOp .Add) (aGr X.K):=by
 intro pins s σ H x y v u Q I f g h;obtain⟨a,b,xs,i,rfl,rfl,ha,j,k,hz,l,m⟩:=h;cases f;cases g;obtain⟨aM,d,n,_⟩:=I.tuple ha;obtain⟨e,c,p2,_⟩:=I.tuple j;refine HT.ZJ n p2 (λz=>k (d.C2.mp z)) (λz=>⟨.ref a,H,I,rfl,l (c.C2.mp z)⟩) (λz=>?_) (by rw[<-d.length,<-c.length];exact hz);refine⟨.ref s.heap.objs.size,_,I.laid (t' :=s.toks) (o:= .tup (xs++i)) (λb ob q=>aM5 _ q) (aM7 _) ?_,rfl,m (λw=>z (c.C2.mpr w)) _ (I.cS.fresh (aM7 _))⟩;exact⟨by rw[List.length_append];exact hz,_,d.append c,IsTup.new _ _,CH _ _⟩
end
def OT(n:Nat)(i:Int):Option Nat:=if 0<=i then (if i<n then some i.toNat else none) else if -(n:Int)<=i then some (i+n).toNat else none
variable{α:Type}
def fI(xs:List α)(i:Int):Option α:=(OT xs.length i).bind λj=>xs[j]?
variable{n:Nat}
theorem MK{i:Int}{j:Nat}(h:OT n i=some j):seqIndex? i n=some j/\j<n/\ -(n:Int)<=i/\i<n:=by
 unfold OT at h;by_cases h0:0<=i
 ·rw[if_pos h0]at h;by_cases a:i<n
  ·rw[if_pos a]at h;have e:i.toNat=j:=aMn h;exact⟨by rw[seqIndex_of h0 a,e],by lia,by lia,a⟩
  ·rw[if_neg a]at h;cases h
 ·rw[if_neg h0]at h;by_cases a: -(n:Int)<=i
  ·rw[if_pos a]at h;have e:(i+n).toNat=j:=aMn h;exact⟨by rw[seqIndex_neg (by lia) a,e],by lia,a,by lia⟩
  ·rw[if_neg a]at h;cases h
theorem EJ{xs:List α}{i:Int}{v:α}(h:fI xs i=some v):∃j,seqIndex? i xs.length=some j/\xs[j]? =some v/\j<xs.length/\ -(xs.length:Int)<=i/\i<xs.length:=by
 unfold fI at h
 cases e:OT xs.length i with
 | none=>rw[e]at h;cases h
 | some j=>
  rw[e]at h;obtain⟨a,b,c,d⟩:=MK e;exact⟨j,a,h,b,c,d⟩
theorem dI{xs:List α}{j:Nat}{v:α}(h:xs[j]? =some v):fI xs (j:Int)=some v:=by
 have a:j<xs.length:=(aM6.mp h).1
 have e:OT xs.length (j:Int)=some j:=by
  unfold OT;rw[if_pos (by lia),if_pos (by lia)];simp
 unfold fI;rw[e];exact h
def NJ(b:Expr):Prop:=∀o i,subscripted b false o i=operate [o,i] (getItem o i)
def IxR(X:Cx)(r:R2):Prop:=
 ∀(b a:Expr) (pins:List (Addr×Obj)) (s:Shared) (σ:St) (H:Hp) (x y:V) (v u:Value) (Q:VK),Inv X pins σ H s->RelV x v->RelV y u->r x y H Q->
  subscripted a false v u=operate [v,u] (getItem v u)->wpAny (model X.prog X.w) X.A (subscriptTail b a v u) (EP X pins σ Q) X.xe s
def ZU(X:Cx)(id:String)(r:V->List V->Hp->VK->Prop):Prop:=
 ∀(pins:List (Addr×Obj)) (s:Shared) (σ:St) (H:Hp) (x:V) (xs:List V) (v:Value) (us:List Value) (Q:VK),Inv X pins σ H s->RelV x v->Vals xs us->r x xs H Q->
  wpAny (model X.prog X.w) X.A (call (.builtin id) (v::us)) (EP X pins σ Q) X.xe s
section
variable {X:Cx}{a b:Expr}{ta tb:TE}{pos:Pos}
theorem aH2{r:R2}(c:IxR X r)(ha:PE X a ta)(d:PE X b tb)(e:NJ b):PE X (.Subscript a b pos) (tOp r ta tb):=by
 intro pins s σ H Q I h;exact Subscript_ (aF5 ha d I h λv u s2 x y f g i j q=>c a b pins s2 σ f x y v u Q g i j q (e _ _))
def aL2(K:aPu):R2:=λx y H Q=>∃p xs i v,x= .ref p/\y= .int i/\rA K H p xs/\fI xs i=some v/\Q v H
def aL0(K:aPu):R2:=λx y H Q=>∃p xs i v,x= .ref p/\y= .int i/\zI K H p xs/\fI xs i=some v/\Q v H
def aL1:R2:=λx y H Q=>∃z i c,x= .str z/\y= .int i/\z.length<=sizeLine/\fI z.cps.toList i=some c/\Q (.str ⟨#[c]⟩) H
theorem YF:IxR X (aL2 X.K):=by
 intro c d pins s σ H x y v u Q I m n h k;obtain⟨p,xs,i,z,rfl,rfl,o,he,q⟩:=h;cases m;obtain⟨t,rfl⟩:=n;obtain⟨aM,r,e,hz⟩:=I.list o;obtain⟨j,b,A,F,B,C⟩:=EJ he;obtain⟨w,l,f⟩:=r.get A;have D:=r.length;have G:=oK
 have a:EP X pins σ Q w s:=⟨z,H,I,f,q⟩
 by_cases h0:0<=i
 ·have g:i.toNat=j:=by
   rw[seqIndex_of h0 C]at b;exact aMn b
  exact item_listR e.isList h0 (by lia) (by rw[g];simpa using l) a k
 ·have g:(i+(aM.toArray.size:Int)).toNat=j:=by
   rw[seqIndex_neg (by lia) B]at b;rw[List.size_toArray,<-D];exact aMn b
  exact subscriptTail_builtinR (x:=w) e.isList.typeIs slot_list_getitem.lookup
   (wpAny_getItem_list_neg (Q:=λr E =>r=w/\EP X pins σ Q r E) e.isList (by lia) (by rw[List.size_toArray] <;> lia) (by lia) (by rw[g];simpa using l) ⟨rfl,a⟩) k
theorem aDt:IxR X (aL0 X.K):=by
 intro a b pins s σ H x y v u Q I f g h k;obtain⟨p,xs,i,z,rfl,rfl,l,he,q⟩:=h;cases f;obtain⟨t,rfl⟩:=g;obtain⟨aM,r,e,hz⟩:=I.tuple l;obtain⟨j,m,n,C,D,E⟩:=EJ he;obtain⟨w,o,c⟩:=r.get n;have A:=r.length;have F:=oK
 have d:EP X pins σ Q w s:=⟨z,H,I,c,q⟩
 exact subscriptTail_builtinR (x:=w) e.typeIs slot_tuple_getitem.lookup
  (getItem_tuple (j:=j) (Q:=λr B =>r=w/\EP X pins σ Q r B) e (by lia) (by lia) (by rw[List.size_toArray,<-A];exact m) (by simpa using o) ⟨rfl,d⟩) k
theorem aDv:IxR X aL1:=by
 intro a b pins s σ H x y v u Q I e f h g;obtain⟨z,i,c,rfl,rfl,hz,he,q⟩:=h;obtain⟨t,rfl⟩:=e;obtain⟨t',rfl⟩:=f;obtain⟨j,d,k,r,l,m⟩:=EJ he;have n:z.cps.toList.length=z.length:=by simp[Str.length]
 rw[n]at d l m;have w:=oK
 exact tail_any (typeIs_str s z t) slot_str_getitem.lookup (getItem_str (c:=c) (by
  have o:decide (i < -(2^63:Int))=false:=aNe (by lia);have p:decide (i>=2^63)=false:=aNe (by lia)
  rw[o,p,Bool.or_false]) (by rw[d];simpa using k) ⟨.str ⟨#[c]⟩,H,I.tok _,⟨_,rfl⟩,q⟩) g
theorem JJ(aM:List Value)(n j:Nat)(u:Value):Obj.mapSeq (·.setIfInBounds j u) {cls:= .type "list",data:= .seq aM.toArray n}={cls:= .type "list",data:= .seq (aM.set j u).toArray n}:=by
 simp[Obj.mapSeq]
variable{pins:List (Addr×Obj)}{s:Shared}
theorem Inv.lst{σ:St}{H:Hp}{p:Addr}{xs:List V}(I:Inv X pins σ H s)(h:H p=some (.lst xs)):
  ∃(aM:List Value) (n:Nat),Vals xs aM/\s.heap.get? p=some {cls:= .type "list",data:= .seq aM.toArray n}/\xs.length<=sizeLine:=by
 obtain⟨z,aM,n,r,e⟩:=I.cS p _ h;exact⟨aM,n,r,e,z⟩
theorem Inv.aCx{σ:St}{H:Hp}{p:Addr}{xs a:List V}{aM its' :List Value}{n c :Nat}{f:Obj->Obj}(I:Inv X pins σ H s)(h:H p=some (.lst xs))
  (ho:s.heap.get? p=some {cls:= .type "list",data:= .seq aM.toArray n}) (d:f {cls:= .type "list",data:= .seq aM.toArray n}={cls:= .type "list",data:= .seq its'.toArray c}) (r:Vals a its') (hz:a.length<=sizeLine) (t:Nat):
  Inv X pins σ (upd H p (.lst a)) {s with heap:=s.heap.update p f,toks:=t}:=by
 have e:(s.heap.update p f).get? p=some {cls:= .type "list",data:= .seq its'.toArray c}:=by
  rw[Heap.get?_update_self f ho (by rw[d] <;> rfl),d]
 refine I.write (x:=p) (e:=p) (by rw[h];trivial) (.inl rfl) (λb u g q=>(aNd _ _ (aNf g)).trans q) ⟨_,e⟩ ?_;exact⟨hz,its',c,r,e⟩
def aGp:V->V->V->Hp->(Hp->Prop)->Prop:=λo i v H Q=>∃p xs k j,o= .ref p/\i= .int k/\H p=some (.lst xs)/\OT xs.length k=some j/\Q (upd H p (.lst (xs.set j v)))
theorem set_list:aIs X aGp:=by
 intro pins s σ H o i v y z u Q I l m w h;obtain⟨p,xs,k,j,rfl,rfl,d,x,q⟩:=h;cases l;obtain⟨t,rfl⟩:=m;obtain⟨aM,n,r,ho,hz⟩:=I.lst d;obtain⟨a,A,e,f⟩:=MK x;have b:=r.length;have B:=oK
 have g :Inv X pins σ (upd H p (.lst (xs.set j v))) {s with heap:=s.heap.update p (Obj.mapSeq (·.setIfInBounds j u))}:=
  I.aCx d ho (JJ aM n j u) (r.set w j) (by rw[List.length_set];exact hz) s.toks
 by_cases h0:0<=k
 ·have c:k.toNat=j:=by
   rw[seqIndex_of h0 f]at a;exact aMn a
  exact PySem.W.ki_setAt ho h0 (by lia) (by rw[List.size_toArray,<-b];exact f) (by rw[c];exact⟨_,g,q⟩)
 ·have c:(k+(aM.toArray.size:Int)).toNat=j:=by
   rw[seqIndex_neg (by lia) e]at a;rw[List.size_toArray,<-b];exact aMn a
  exact PySem.W.ki_setBack ho (by lia) (by rw[List.size_toArray,<-b];exact e) (by lia) (by rw[c];exact⟨_,g,q⟩)
theorem CI(lo hi:Option Int)(n:Nat):(sliceBounds lo hi none n).1=((HT.dE n 0 lo:Nat):Int)/\(sliceBounds lo hi none n).2.1=((HT.dE n n hi:Nat):Int)/\(sliceBounds lo hi none n).2.2=1:=by
 refine⟨?_,?_,rfl⟩
 ·cases lo with
  | none=>simp[sliceBounds,HT.dE]
  | some i=>
   simp only[sliceBounds,HT.dE,Option.getD_none,show (1:Int) > 0 by decide,if_true];by_cases h:i<0
   ·simp only[h,if_true] <;> lia
   ·simp only[h,if_false] <;> lia
 ·cases hi with
  | none=>simp[sliceBounds,HT.dE]
  | some i=>
   simp only[sliceBounds,HT.dE,Option.getD_none,show (1:Int) > 0 by decide,if_true];by_cases h:i<0
   ·simp only[h,if_true] <;> lia
   ·simp only[h,if_false] <;> lia
theorem zQ(aM:List Value)(lo hi:Option Int):slicePick aM.toArray lo hi none=((aM.drop (HT.dE aM.length 0 lo)).take (HT.dE aM.length aM.length hi-HT.dE aM.length 0 lo)).toArray:=by
 obtain⟨a,b,c⟩:=CI lo hi aM.toArray.size;unfold slicePick;rw[a,b,c];simp only[sliceRange_one,pick_run,List.size_toArray] <;> rfl
def aKy(K:aPu):V->Option Int->Option Int->Hp->VK->Prop:=λx lo hi H Q=>∃a xs,x= .ref a/\rA K H a xs/\∀p,H p=none->Q (.ref p) (upd H p (.lst (EA xs lo hi)))
theorem V2:SlR X (aKy X.K):=by
 intro pins s σ H x v j k lo hi sl Q I d e f g h;obtain⟨a,xs,rfl,i,q⟩:=h;cases d;obtain⟨aM,r,ht,hz⟩:=I.list i;have c:=r.length;refine⟨"list",_,slot_list_getitem.lookup,ht.isList.typeIs,?_⟩;refine wpAny_getItem_list_slice ht.isList e f g .none (by simp) ?_ (by rw[List.size_toArray] <;> lia);rw[zQ,<-c];refine⟨.ref s.heap.objs.size,_,I.laid (t' :=s.toks) (o:= .lst (EA xs lo hi)) (λb ob q=>aM5 _ q) (aM7 _) ?_,rfl,q _ (I.cS.fresh (aM7 _))⟩;exact⟨aMq (vC xs lo hi) hz,_,0,(r.drop (HT.dE xs.length 0 lo)).take (HT.dE xs.length xs.length hi-HT.dE xs.length 0 lo),aMa _ rfl⟩
theorem EE:cG X (.builtin "len") (λxs H Q=>∃p b,xs=[.ref p]/\(rA X.K H p b\/zI X.K H p b)/\Q (.int b.length) H):=by
 intro pins s σ H xs us Q I r h;obtain⟨p,b,rfl,hq,q⟩:=h;obtain⟨u,rfl,e⟩:=vals1 r;cases e;have f:=oK;rcases hq with hq | hq
 ·obtain⟨aM,c,d,hz⟩:=I.list hq;have a:=c.length;exact Calls.call_len_list d.isList (by simp only[List.size_toArray] <;> lia) ⟨.int b.length,H,I.tok _,⟨s.toks+1,by rw[List.size_toArray,a]⟩,q⟩
 ·obtain⟨aM,c,d,hz⟩:=I.tuple hq;have a:=c.length;exact len_tuple d (by simp only[List.size_toArray] <;> lia) ⟨.int b.length,H,I.tok _,⟨s.toks+1,by rw[List.size_toArray,a]⟩,q⟩
theorem ED:cG X (.builtin "len") (λxs H Q=>∃z,xs=[.str z]/\z.length<=sizeLine/\Q (.int z.length) H):=by
 intro pins s σ H xs us Q I r h;obtain⟨z,rfl,hz,q⟩:=h;obtain⟨u,rfl,t,rfl⟩:=vals1 r;have a:=oK;exact len_str (by lia) ⟨.int z.length,H,I.tok _,⟨_,rfl⟩,q⟩
theorem lJ:cG X (.type "tuple") (λxs H Q=>∃p a,xs=[.ref p]/\((rA X.K H p a/\∀l,H l=none->Q (.ref l) (upd H l (.tup a)))\/(zI X.K H p a/\Q (.ref p) H))):=by
 intro pins s σ H xs us Q I r h;obtain⟨p,a,rfl,h⟩:=h;obtain⟨u,rfl,j⟩:=vals1 r;cases j
 rcases h with ⟨c,q⟩ | ⟨c,q⟩
 ·obtain⟨aM,d,f,hz⟩:=I.list c;have g:=d.length;refine call_tuple_list f.isList (λh' kp=>?_) (by simp only[List.size_toArray] <;> lia);have i:Inv X pins σ H {s with heap:=h'}:=I.kept (t' :=s.toks) kp
  have k:Inv X pins σ (upd H h'.objs.size (.tup a)) {s with heap:=h'.push {cls:= .type "tuple",data:= .seq aM.toArray}}:=
   i.laid (t' :=s.toks) (λb o e=>aM5 _ e) (aM7 _) (show dF X.prog X.w _ _ _ (.tup a) from ⟨hz,aM,d,IsTup.new _ _,CH _ _⟩)
  exact⟨.ref h'.objs.size,_,k,rfl,q _ (i.cS.fresh (aM7 _))⟩
 ·obtain⟨aM,d,f,hz⟩:=I.tuple c;exact call_tuple_same f ⟨.ref p,H,I,rfl,q⟩
def tyV(K:aPu)(T:String)(x:V)(H:Hp):Prop:=match x with
 | .str _=>T= "str"
 | .int _=>T= "int"
 | .ref p=>(T= "list"/\∃xs,rA K H p xs)\/(T= "tuple"/\∃xs,zI K H p xs)\/
   (T= "dict"/\((∃kvs,H p=some (.dK kvs))\/∃kvs,H p=some (.dT kvs)))\/(T= "set"/\∃S n,H p=some (.set S n))
 | _=>False
theorem aAr{σ:St}{H:Hp}{T:String}{x:V}{v:Value}(I:Inv X pins σ H s)(r:RelV x v)(ty:tyV X.K T x H):
  s.TypeIs v T/\∀a,v= .ref a->∃ob,s.heap.get? a=some ob/\ob.dict=none:=by
 cases x with
 | str z=>
  obtain⟨t,rfl⟩:=r;cases (show T= "str" from ty);exact⟨typeIs_str s z t,λ_ e=>nomatch e⟩
 | int i=>
  obtain⟨t,rfl⟩:=r;cases (show T= "int" from ty);exact⟨typeIs_int s i t,λ_ e=>nomatch e⟩
 | ref p=>
  cases r
  rcases ty with ⟨rfl,xs,f⟩ | ⟨rfl,xs,f⟩ | ⟨rfl,b⟩ | ⟨rfl,S,n,b⟩
  ·obtain⟨aM,_,g,_⟩:=I.list f;refine⟨g.isList.typeIs,λa e=>?_⟩;cases e;obtain⟨o,n,e,c,hd,_⟩:=g;exact⟨o,e,hd⟩
  ·obtain⟨o,h,d,j⟩:=I.aAs f;refine⟨⟨o,h,d⟩,λa e=>?_⟩;cases e;exact⟨o,h,j⟩
  ·have z:∃o,s.heap.get? p=some o/\o.ExactDict:=by
    rcases b with ⟨kvs,b⟩ | ⟨kvs,b⟩
    ·obtain⟨_,_,_,_,o,_,_,e,ex,_⟩:=I.cS p _ b;exact⟨o,e,ex⟩
    ·obtain⟨_,_,_,_,o,_,_,e,ex,_⟩:=I.cS p _ b;exact⟨o,e,ex⟩
   obtain⟨o,e,ex⟩:=z;refine⟨⟨o,e,ex.1⟩,λa d=>?_⟩;cases d;exact⟨o,e,ex.2.1⟩
  ·obtain⟨o,_,_,_,e,ex,_⟩:=I.cS p _ b;refine⟨⟨o,e,ex.1⟩,λa d=>?_⟩;cases d;exact⟨o,e,ex.2.1⟩
 | _=>exact False.elim ty
def tBM(K:aPu)(T:String)(r:V->List V->Hp->VK->Prop)(to:TE)(t:TA):TE:=λσ H Q=>to σ H λx a=>tyV K T x a/\t σ a λxs b=>r x xs b Q
variable {o e:Expr}{es:List Expr}{to:TE}{t:TA}{name:Str}{apos eG:Pos}{T id:String}{r:V->List V->Hp->VK->Prop}
theorem aH3(m:PlainAttrs T)(slot:Slot T name id)(i:typeOf (.builtin id)=pure (.type "method_descriptor"))(hm:ZU X id r)(ho:PE X o to)(ha:PA X (e::es) t)
  (b:attributeBase o name X.env (eval o X.env)=eval o X.env:=by rfl)
  (d:((backTo eG (starEach (e::es) X.env)).all (λx=>!x.1) && (backToKw eG (keywordEach [] X.env)).all (λx=>x.1.isSome)
   && decide ((e::es).length+([]:List Keyword).length+(if ([]:List Keyword).isEmpty then 0 else 1)<30))=true:=by rfl)
  (c:(apos.endLine==eG.line)=true:=by rfl) (n:starEach (e::es) X.env=(false,eval e X.env)::starEach es X.env:=by rfl) (a:(backTo eG (starEach es X.env)).any (·.1)=false:=by rfl):
  PE X (.Call (.Attribute o name apos) (e::es) [] eG) (tBM X.K T r to t):=by
 intro pins s σ H Q I h;refine wpAny_Call_method_late b d c rfl (dZ (ho pins s σ H _ I h) λv s1 f=>?_);obtain⟨x,p,j,k,ty,q⟩:=f;obtain⟨u,w⟩:=aAr j k ty;refine⟨T,id,m,slot,i,u,w,?_⟩;have l:=ha eG pins s1 σ p _ j q;rw[n]at l⊢;refine aOw (by show (false || (backTo eG (starEach es X.env)).any (·.1))=false;rw[a] <;> rfl) (aPa ?_);exact dZ l λus s2 g=>by obtain⟨vs,y,z,A,B⟩:=g;exact hm pins s2 σ y x vs v us Q z k A B
end
def MtM(X:Cx)(id:String)(r:V->List V->Hp->VK->Prop):Prop:=
 ∀(pins:List (Addr×Obj)) (s:Shared) (σ:St) (H:Hp) (x:V) (xs:List V) (v:Value) (us:List Value) (Q:VK),Inv X pins σ H s->RelV x v->Vals xs us->r x xs H Q->
  wpAny (model X.prog X.w) X.A (call (.builtin id) (v::us)) (EP X pins σ Q) X.xe s
theorem Vals.one:∀{x:V} {us:List Value},Vals [x] us->∃u,us=[u]/\RelV x u
 | _,_,.cons r .nil=>⟨_,rfl,r⟩
theorem Vals.zero:∀{us:List Value},Vals [] us->us=[]
 | _,.nil=>rfl
theorem Vals.dropLast{xs:List V}{us:List Value}(h:Vals xs us):Vals xs.dropLast us.dropLast:=by
 induction h with
 | nil=>exact .nil
 | cons r t ih=>
  cases t with
  | nil=>exact .nil
  | cons q t' =>exact .cons r ih
theorem Vals.eraseIdx:∀{xs:List V} {us:List Value} (i:Nat),Vals xs us->Vals (xs.eraseIdx i) (us.eraseIdx i)
 | _,_,_,.nil=>.nil
 | _,_,0,.cons _ t=>t
 | _,_,i+1,.cons r t=>.cons r (Vals.eraseIdx i t)
theorem J3(l:List α):l.eraseIdx (l.length-1)=l.dropLast:=by
 induction l with
 | nil=>rfl
 | cons a r ih=>
  cases r with
  | nil=>rfl
  | cons b r=>
   have e:(a::b::r).length-1=((b::r).length-1)+1:=by
    have c:(a::b::r).length=r.length+2:=rfl;have d:(b::r).length=r.length+1:=rfl
    lia
   rw[e,List.eraseIdx_cons_succ,ih]
   all_goals rfl
theorem BC{α:Type}:∀(l:List α) (i:Nat),(l.eraseIdx i).length<=l.length
 | [],_=>aM7 _
 | _::_,0=>aOs _
 | _::r,i+1=>Nat.succ_le_succ (BC r i)
section
variable {X:Cx}{pins:List (Addr×Obj)}{σ:St}{H:Hp}{s:Shared}{l b:Addr}{xs ys zs:List V}
theorem Inv.OH{aM its' :List Value}{f:Array Value->Array Value}{t' :Nat}(I:Inv X pins σ H s)(a:H l=some (.lst xs))
  (e:s.heap.get? l=some {cls:= .type "list",data:= .seq aM.toArray n}) (b:f aM.toArray=its'.toArray) (c:Vals ys its') (hz:ys.length<=sizeLine):
  Inv X pins σ (upd H l (.lst ys)) {s with heap:=s.heap.update l (Obj.mapSeq f),toks:=t'}:=by
 have q:=PySem.IsL.update e f;rw[b]at q;refine I.write (x:=l) (e:=l) (by rw[a];exact trivial) (.inl rfl) (λh u d g=>(aNd s.heap (Obj.mapSeq f) (aNf d)).trans g) ⟨_,q⟩ ?_;exact⟨hz,its',_,c,q⟩
theorem Inv.aLc{aM:List Value}{t' :Nat}(I:Inv X pins σ H s)(a:Vals ys aM)(hz:ys.length<=sizeLine):
  Inv X pins σ (upd H s.heap.objs.size (.lst ys)) {s with heap:=s.heap.push {cls:= .type "list",data:= .seq aM.toArray},toks:=t'}:=
 I.laid (λ_ _ q=>aM5 _ q) (aM7 _) ⟨hz,aM,0,a,aMa _ rfl⟩
theorem Inv.fresh(I:Inv X pins σ H s):H s.heap.objs.size=none:=I.cS.fresh (aM7 _)
theorem Inv.DE(I:Inv X pins σ H s)(a:H l=some (.lst xs)):xs.length<=sizeLine/\∃(aM:List Value) (n:Nat),Vals xs aM/\xs.length=aM.length/\s.heap.get? l=some {cls:= .type "list",data:= .seq aM.toArray n}:=by
 obtain⟨z,aM,n,r,e⟩:=I.cS l _ a;exact⟨z,aM,n,r,r.length,e⟩
theorem xW(h:n<=sizeLine):Builtin.List.listTooLong n=false:=by
 unfold Builtin.List.listTooLong;exact aNe (by lia)
end
section
variable {X:Cx}
def WJ:V->List V->Hp->VK->Prop:=λx vs H Q=>∃l xs y,x= .ref l/\vs=[y]/\H l=some (.lst xs)/\xs.length<sizeLine/\Q .bU (upd H l (.lst (xs++[y])))
theorem BA:MtM X "list.append" WJ:=by
 intro pins s σ H x vs v us Q I b c h;obtain⟨l,xs,y,rfl,rfl,a,hz,q⟩:=h;cases b;obtain⟨u,rfl,d⟩:=c.one;obtain⟨z,aM,n,r,f,e⟩:=I.DE a;refine aPe F.slot_list_append ⟨_,e,rfl⟩ F.entry_list_append (F.args_list_append_2 _ _) (PySem.list_append l aM.toArray n u (by rw[List.size_toArray];lia)) ⟨e,?_⟩;refine⟨.bU,_,I.OH (its' :=aM++[u]) a e (by simp) (r.append (.cons d .nil)) ?_,rfl,q⟩;rw[List.length_append,List.length_singleton]
 lia
def WH:V->List V->Hp->VK->Prop:=λx vs H Q=>∃l b xs a,x= .ref l/\vs=[.ref b]/\H l=some (.lst xs)/\H b=some (.lst a)/\xs.length+a.length<=sizeLine/\Q .bU (upd H l (.lst (xs++a)))
theorem aFj:MtM X "list.extend" WH:=by
 intro pins s σ H x vs v us Q I f g h;obtain⟨l,b,xs,t,rfl,rfl,d,i,hz,q⟩:=h;cases f;obtain⟨u,rfl,j⟩:=g.one;cases j;obtain⟨z,aM,n,r,w,e⟩:=I.DE d;obtain⟨y,a,k,m,o,p⟩:=I.DE i;have hsz:aM.toArray.size+a.toArray.size<=sizeLine:=by rw[List.size_toArray,List.size_toArray];lia
 have c:¬(!aM.toArray.isEmpty && Builtin.List.listTooLong (aM.toArray.size+a.toArray.size))=true:=by
  rw[xW hsz,Bool.and_false];exact aN8
 refine aPe F.slot_list_extend ⟨_,e,rfl⟩ F.entry_list_extend (F.args_list_extend_2 _ _)
  (AutoSeq1.list_extend_list_list_0 l aM.toArray n b a.toArray k c (by rw[List.size_toArray];lia) (by lia)) ⟨e,p,?_⟩
 refine⟨.bU,_,I.OH (its' :=aM++a) d e (by simp) (r.append m) ?_,rfl,q⟩;rw[List.length_append]
 lia
def aKz:V->List V->Hp->VK->Prop:=λx vs H Q=>∃l xs y,x= .ref l/\vs=[]/\H l=some (.lst xs)/\xs[xs.length-1]? =some y/\Q y (upd H l (.lst xs.dropLast))
theorem aL6:MtM X "list.pop" aKz:=by
 intro pins s σ H x vs v us Q I d f h;obtain⟨l,xs,y,rfl,rfl,c,g,q⟩:=h;cases d;have a:=f.zero;subst a;obtain⟨z,aM,n,r,i,e⟩:=I.DE c;obtain⟨u,j,k⟩:=r.get g
 have b :aM.toArray[aM.toArray.size-1]? =some u:=by
  show aM.toArray[aM.length-1]? =some u;rw[<-Array.getElem?_toList,<-i];exact j
 refine aPe F.slot_list_pop ⟨_,e,rfl⟩ F.entry_list_pop (F.args_list_pop_1 _) (MeetsSeq.list_pop_last l aM.toArray n u b (by rw[List.size_toArray];lia)) ⟨e,?_⟩;refine⟨y,_,I.OH (its' :=aM.dropLast) c e ?_ r.dropLast ?_,k,q⟩
 ·show aM.toArray.eraseIdxIfInBounds (aM.toArray.size-1)=aM.dropLast.toArray;rw[List.size_toArray,List.eraseIdxIfInBounds_toArray,J3]
 ·rw[List.length_dropLast]
  lia
def aBg:V->List V->Hp->VK->Prop:=λx vs H Q=>∃l xs i k y,x= .ref l/\vs=[.int i]/\H l=some (.lst xs)/\ -(2^63)<=i/\i<2^63/\seqIndex? i xs.length=some k/\xs[k]? =some y/\Q y (upd H l (.lst (xs.eraseIdx k)))
theorem R8:MtM X "list.pop" aBg:=by
 intro pins s σ H x vs v us Q I c d h;obtain⟨l,xs,i,k,y,rfl,rfl,b,f,g,j,m,q⟩:=h;cases c;obtain⟨u,rfl,o⟩:=d.one;obtain⟨t,rfl⟩:=o;obtain⟨z,aM,n,r,p,e⟩:=I.DE b;obtain⟨w,A,a⟩:=r.get m
 refine aPe F.slot_list_pop ⟨_,e,rfl⟩ F.entry_list_pop (F.args_list_pop_2 _ _)
  (MeetsSeq.list_pop_at l aM.toArray n i t k w (fitsIndex_both f g) (by rw[List.size_toArray,<-p];exact j) (by rw[<-Array.getElem?_toList];exact A) (by rw[List.size_toArray];lia)) ⟨e,?_⟩
 refine⟨y,_,I.OH (its' :=aM.eraseIdx k) b e ?_ (r.eraseIdx k) ?_,a,q⟩
 ·show aM.toArray.eraseIdxIfInBounds k=(aM.eraseIdx k).toArray;rw[List.eraseIdxIfInBounds_toArray]
 ·have:=BC xs k
  lia
def aL3:R2:=λx y H Q=>∃l b xs a,x= .ref l/\y= .ref b/\H l=some (.lst xs)/\H b=some (.lst a)/\xs.length+a.length<=sizeLine/\∀p,H p=none->Q (.ref p) (upd H p (.lst (xs++a)))
theorem aC7:g5 X (binaryOp .Add) aL3:=by
 intro pins s σ H x y v u Q I c d h;obtain⟨l,b,xs,o,rfl,rfl,f,g,hz,q⟩:=h;cases c;cases d;obtain⟨z,aM,n,r,p,e⟩:=I.DE f;obtain⟨t,a,w,i,j,k⟩:=I.DE g;refine PySem.P.add_list e k ?_ (by rw[List.size_toArray,List.size_toArray];lia);have m:aM.toArray++a.toArray=(aM++a).toArray:=by simp
 rw[m];exact⟨.ref _,_,I.aLc (t' :=s.toks) (r.append i) (by rw[List.length_append];lia),rfl,q _ I.fresh⟩
end
end L2
namespace Att
open PySem PySem.W PySem.Calls PyProof.Rows
theorem vI{P:Params}{h:Heap}:∀(ns:List Int) (vs:List Value),WellAll P h vs (ns.map WData.int)->IntsAre vs ns:=by
 intro ns
 induction ns with
 | nil=>
  intro vs w;rw[List.map_nil]at w;cases w;exact .nil
 | cons n ns ih=>
  intro vs w;rw[List.map_cons]at w
  cases w with
  | cons a b=>
   cases a;exact .cons _ _ (ih _ b)
theorem NY{l:OpenLaw}{n:Nat}(m:l.most=some n){P:Params}{h:Heap}{args:List WData}{vals:List Value}
  (b:l.row.toRowW.claim.pre args=true) (i:WellAll P h vals args):
  ∃a vs ns,vals=[Value.ref a]/\args=[WData.list (ns.map WData.int)]/\h.get? a=some {cls:= .type "list",data:= .seq vs.toArray}/\IntsAre vs ns/\ns.length<=n:=by
 have j:WShape.hasAll [] args [.list .int]=true:=(pre_splitW b).1;have k:l.pre.holds [] {args:=args}=true:=(pre_splitW b).2;obtain⟨d,r,rfl,o,p⟩:=hasAllW_cons j;obtain rfl:=hasAllW_nil p;obtain⟨xs,rfl,s⟩:=hasW_list o;obtain⟨ns,rfl⟩:=items_int s
 have c:ns.length<=n:=by
  unfold OpenLaw.pre at k
  have f:(WTm.not (.lt (.lit (.int (n:Int))) (.len (.arg 0)))).holds [] {args:=[.list (ns.map .int)]}=true:=by
   have f:=(holds_andW k).1;rw[m]at f;exact f
  have g:=condW_of f (w_not (w_lt w_lit (w_len_list (w_arg rfl))));rw[List.length_map]at g;refine aP5 λq=>?_;have t :(n:Int)<((ns.length:Nat):Int):=by lia
  first
   | (rw[decide_eq_true t]at g;exact absurd g (by decide))
   | (simp at g;lia)
 cases i with
 | cons u v=>
  cases v
  cases u with
  | list ho e=>exact⟨_,_,ns,rfl,rfl,ho,vI ns _ e,c⟩
theorem N4(l:OpenLaw)(args:List WData):l.row.toRowW.claim.post args (.bool true) args=true:=
 postW_of (r:=l.row.toRowW) (X:=(true==true))
  (show WShape.has [] (.bool true) .bool=true by first | rfl | decide | simp[WShape.has,WShape.arms,WShape.armsAll])
  (show (WTm.eq .res (.lit (.bool true))).value [] {args:=args,res:=some (.bool true),after:=args}=some (.bool (true==true)) from w_eq_bool (w_res rfl) w_lit) rfl
theorem HQ{l:OpenLaw}{n:Nat}{q:Program}{loose:List Str}{XP:(aPx)->Heap->Prop}{u:World->Heap->Prop}{d:DefRec}
  (y:l.most=some n) (m:d.params.defaults=[])
  (call:∀(w:World) (s₀ b:Shared) (mg mb:aPx) (e:Addr) (o:Obj) (pm j doc:Value) (a:Addr) (vs:List Value) (ns:List Int),
   Ground q loose [] XP w s₀ mg mb b.heap->u w b.heap->
   b.heap.get? e=some o->o.data= .func (docDef d.name d.params d.body d.scope pm j doc)->b.heap.CodeRec j d.name->mg d.name=some (.ref e)->
   b.heap.get? a=some {cls:= .type "list",data:= .seq vs.toArray}->IntsAre vs ns->ns.length<=n->b.gens= #[]->
   codeAny (model l.prog w) callerA (.call (.ref e) ⟨[.ref a],[]⟩) (λr k =>r= .ok (.ret (.bool true))/\OldK b.heap k.heap/\k.os=b.os/\AllBare k.gens) b):
  WalkO q loose XP u l.row.toRowW d [] (λf vs=>PySem.call f vs):=by
 intro w s₀ b mg mb G Y e o pm j doc z kV ho hd p v s hg args vals as g x A t B;obtain rfl:z= .none:=Dflts.none v m;obtain rfl:kV= .none:=Dflts.noKw v;obtain⟨a,vs,ns,rfl,rfl,h,c,i⟩:=NY y g t;refine enter_call (aOu (call w s₀ b mg mb e o pm j doc a vs ns G Y ho (fd_plain hd) p s h c i hg) λr k C=>?_);obtain⟨rfl,D,E,F⟩:=C;exact⟨.inl ⟨.bool true,.bool true,[],rfl,λ_=>rfl,.bool true,N4 l _,λ_=>⟨List.Pairwise.nil,λ_ hm=>(nomatch hm)⟩⟩,D,E,F⟩
end Att
namespace L2
open PySem PySem.Spec PyProof.Rows
theorem AV:∀{vs:List Value} {ns:List Int},IntsAre vs ns->Vals (ns.map V.int) vs
 | _,_,.nil=>.nil
 | _,_,.cons n t h=>.cons ⟨t,rfl⟩ (AV h)
def ZT(H:Hp):Prop:=∀b,H b=none\/∃o xs,H b=some (.frz o (.lst xs))
variable{fd:FuncData}{x:Str}
theorem S1{P:Program}{w:World}{K:aPu}{mg mb:aPx}{CX:P9}{k:Nat}{G a:Addr}{sp:Sp}{c:Shared}{vs:List Value}{ns:List Int}
  (KX:K.In c.heap) (t:c.heap.Ns mainGlobals mg) (g:c.heap.Ns builtinsNs mb) (I:∀x:Str,x≠ "__name__"->mb x=bootBuiltins x) (y:c.heap.NoLimit) (hg:c.gens= #[])
  (ha:c.heap.get? a=some {cls:= .type "list",data:= .seq vs.toArray}) (hi:IntsAre vs ns) (O:ns.length<=sizeLine) (U:iS k callerA)
  (F:∀base:Heap,K.In base->base.Ns mainGlobals mg->mG P w K mg base CX k G fd [x] sp) (p:∀(s:Shared) (u:Value),BindsTo s fd ⟨[u],[]⟩ [(x,u)])
  (J:∀H:Hp,ZT H->rA K H a (ns.map V.int)->sp [.ref a] H (λv _=>v= .bl true) λ_ _ _=>False)
  (L:∀H e i,CX [] H c (λ_ _ _=>False) e i ->False):
  codeAny (model P w) callerA (.call (.ref G) ⟨[.ref a],[]⟩) (λr i =>r= .ok (.ret (.bool true))/\OldK c.heap i.heap/\i.os=c.os/\AllBare i.gens) c:=by
 have Q:=AV hi;have A:=hi.length
 have l:∀H:Hp,ZT H->rA K H a (ns.map V.int)->tE P w H c.heap->(∀b,H b≠none->b=a)->(H a≠none->K.lookup a=none)->
   codeAny (model P w) callerA (.call (.ref G) ⟨[.ref a],[]⟩) (λr i =>r= .ok (.ret (.bool true))/\OldK c.heap i.heap/\i.os=c.os/\AllBare i.gens) c:=by
  intro H R W cS S X;have f:∀{b:Addr} {o:Obj},c.heap.get? b=some o->H b=none->(DV c.heap H).get? b=some o:=λe n=>TM e n
  have M:∀{b:Addr} {o:Obj} {es:Array DictEntry} {B:Nat},c.heap.get? b=some o->o.data= .dict es B->H b=none:=λ{b o es B} e d=>by
   cases q:H b with
   | none=>rfl
   | some u=>
    have N :b=a:=S b (by rw[q];simp);subst N;rw[ha]at e;cases e;have d' :Data.seq vs.toArray _=Data.dict es B:=d;cases d'
  have j:∀{b:Addr} {m:aPx},c.heap.Ns b m->(DV c.heap H).Ns b m:=λ{b m} ⟨o,es,B,e,d,r⟩=>⟨o,es,B,f e (M e d),d,r⟩
  have C:K.In (DV c.heap H):=λb o e=>f (KX b o e) (by
   cases q:H b with
   | none=>rfl
   | some u=>
    have N :b=a:=S b (by rw[q];simp);subst N
    rw[X (by rw[q];simp)]at e;cases e)
  have Y:Mod K mg (DV c.heap H):=⟨C,j t,⟨mb,j g,I⟩,let ⟨mc,h1,h2⟩:=y;⟨mc,j h1,h2⟩⟩
  have Z:ZX P w K mg (DV c.heap H) callerA [] c H:=⟨rfl,Y,λb o e=>XI e,Nat.le_of_eq (OY _ _),trivial,λb g=>absurd (show b∈([]:List Addr) from g) (by simp),cS,.of_eq hg⟩
  refine aOu ((F _ C (j t)).run callerA [] c H ⟨[.ref a],[]⟩ [.ref a] [.ref a] _ _ U Z (p c (.ref a)) (.cons rfl .nil) (J H R W)) λr i h=>?_
  cases r with
  | error e=>exact(L H e i h).elim
  | ok fl=>
   cases fl with
   | next=>exact False.elim h
   | brk=>exact False.elim h
   | cont=>exact False.elim h
   | ret u=>
    obtain⟨v,H',os,bare,un,D,r',q⟩:=h;have q' :v= .bl true:=q;subst q';obtain rfl:u=Value.bool true:=r';refine⟨rfl,OldK.of_keep λb o e=>?_,os,bare⟩
    cases q:H b with
    | none=>exact un.keep b o e q (by intro z;exact absurd (show b∈([]:List Addr) from z) (by simp)) (by simp)
    | some u=>
     rcases R b with z | ⟨ob,xs,z⟩
     ·rw[q]at z;cases z
     ·have z2:=un.DZ b ob _ z;obtain⟨T,_⟩:=cS b _ z;obtain⟨e2,_⟩:=D b _ z2;rw[e]at T;cases T;exact e2
 cases hk:K.lookup a with
 | some o=>
  have e:=KX a o hk;rw[ha]at e;cases e;refine l (λ_=>none) (λ_=>.inl rfl) (.inr ⟨_,vs.toArray,_,hk,rfl,rfl,rfl,by rw[List.size_toArray,A];exact O,by simpa using Q⟩) (λb u z=>by have E :(none:Option HO)=some u:=z;cases E) (λb z=>absurd rfl z) λz=>absurd rfl z
 | none=>
  refine l (λb=>if b=a then some (.frz {cls:= .type "list",data:= .seq vs.toArray} (.lst (ns.map V.int))) else none) (λb=>?_) (.inl (.inr ⟨{cls:= .type "list",data:= .seq vs.toArray},if_pos rfl⟩)) (λb u z=>?_) (λb z=>?_) λ_=>hk
  ·by_cases g:b=a
   ·exact .inr ⟨_,_,if_pos g⟩
   ·exact .inl (if_neg g)
  ·by_cases g:b=a
   ·have E :=(if_pos g).symm.trans z;cases E;subst g;exact⟨ha,by rw[List.length_map];exact O,vs,_,Q,ha⟩
   ·have E :=(if_neg g).symm.trans z;cases E
  ·by_cases g:b=a
   ·exact g
   ·exact absurd (if_neg g) z
theorem VO{l:PySem.W.OpenLaw}{n k:Nat}{q:Program}{loose:List Str}{XP:(aPx)->Heap->Prop}{C:World->Heap->Prop}{d:DefRec}{K:Params->aPu}{CX:World->P9}{sp:World->Sp}
  (D:l.most=some n) (r:n<=sizeLine) (t:d.params.defaults=[]) (E:iS k callerA)
  (I:∀(w:World) (h:Heap),C w h->(K w.params).In h)
  (F:∀(w:World) (mg:aPx) (p:Addr) (h:Heap),(K w.params).In h->h.Ns mainGlobals mg->mg d.name=some (.ref p)->
   ∃fd:FuncData,(∀(s:Shared) (u:Value),BindsTo s fd ⟨[u],[]⟩ [(x,u)])/\
    ∀base:Heap,(K w.params).In base->base.Ns mainGlobals mg->mG l.prog w (K w.params) mg base (CX w) k p fd [x] (sp w))
  (y:∀(w:World) (H:Hp) (a:Addr) (ns:List Int),ns.length<=n->ZT H->rA (K w.params) H a (ns.map V.int)->sp w [.ref a] H (λv _=>v= .bl true) λ_ _ _=>False)
  (z:∀(w:World) (H:Hp) (s:Shared) (e:Value) (A :Shared),CX w [] H s (λ_ _ _=>False) e A ->False):
  PySem.W.WalkO q loose XP C l.row.toRowW d [] (λf vs=>PySem.call f vs):=by
 refine Att.HQ D t λw s₀ j mg mb p o pm P doc a vs ns G Y ho hd J B m i c hg=>?_;have KX:=I w _ Y;obtain⟨fd,L,M⟩:=F w mg p _ KX G.T.g B;exact S1 KX G.T.g G.T.b G.T.builtins G.T.nolimit hg m i (aMq c r) E M L (λH N O=>y w H a ns c N O) λH e A =>z w H j e A
def fF(s:Stmt):Arguments:=match s with
 | .FunctionDef _ a _ _ _ _ _ _ _ _=>a
 | _=>{posonlyargs:=[],args:=[],vararg:=none,kwonlyargs:=[],kw_defaults:=[],kwarg:=none,defaults:=[]}
def cZ(s:Stmt):List Stmt:=match s with
 | .FunctionDef _ _ b _ _ _ _ _ _ _=>b
 | _=>[]
def aG(s:Stmt):Scope:=match s with
 | .FunctionDef _ _ _ _ _ _ sc _ _ _=>sc
 | _=>{kind:= .function,names:=[],isGenerator:=false,isCoroutine:=false}
abbrev HX:P9:=λ_ _ _ _ _ _=>False
abbrev E0:XK:=λ_ _ _=>False
theorem aH5{X:Cx}:Passes HX X E0:=λ_ _ _ _ _ _ _ h=>h.elim
structure Fun(K:aPu)(x qual:Str)(st:Stmt)(f:Addr)(fd:FuncData):Prop where
 ex:∃(oc:Value) (od:Option Addr) (kV doc pm:Value) (an:Option Addr) (cdv ct:Value) (osl:Array (Option Value)),
  fd=PySem.W.fnOf x qual (fF st) (cZ st) (aG st) .none kV doc pm an cdv ct/\K.lookup f=some ⟨oc,od,.func fd,osl⟩/\PySem.W.codeIn K cdv qual=true
 kp:PySem.W.keepIn K (.ref f)=true
section
variable {P:Program}{w:World}{K:aPu}{mg:aPx}{base:Heap}
theorem Fun.ok{x qual:Str}{st:Stmt}{f:Addr}{N ps:List Str}{k:Nat}{sp:Sp}(F:Fun K x qual st f fd)(S:aV N ps (aG st))(len:∀vs H Q E,sp vs H Q E->vs.length=ps.length)
  (a:∀(cdv:Value) (A:Around) (outer:List Env) (s:Shared) (H:Hp) (vs:List V) (Q:VK) (E:XK),iS k (A.deeper (envOfC qual (aG st) s.heap.objs.size f cdv))->sp vs H Q E->
   ∃t,EO (yZ HX P w K mg base N qual (aG st) f cdv A outer s H E).XJ (cZ st) t/\t {nx:=λ_ H' =>Q .bU H',rt:=Q} (start N vs) H):mG P w K mg base HX (k+1) f fd ps sp:=by
 obtain⟨oc,od,kV,doc,pm,an,cdv,ct,osl,rfl,d,b⟩:=F.ex;refine aIf d b S len λA outer s H vs Q E e c=>?_;obtain⟨t,h,q⟩:=a cdv A outer s H vs Q E e c;exact⟨t,h.XJ,q⟩
theorem Fun.binds{x qual:Str}{st:Stmt}{f:Addr}{ps:List Str}(F:Fun K x qual st f fd)
  (h:∀(kV doc pm:Value) (an:Option Addr) (cdv ct:Value) (us:List Value),us.length=ps.length->bindArgs (PySem.W.fnOf x qual (fF st) (cZ st) (aG st) .none kV doc pm an cdv ct) ⟨us,[]⟩=pure (ps.zip us)):Binds K fd ps []:=by
 obtain⟨oc,od,kV,doc,pm,an,cdv,ct,osl,rfl,b,a⟩:=F.ex;exact .all (h kV doc pm an cdv ct)
theorem JY{x qual:Str}{st:Stmt}{f:Addr}{oc:Value}{od an:Option Addr}{osl:Array (Option Value)}{kV doc pm cdv ct:Value}(l:K.lookup f=some ⟨oc,od,.func (PySem.W.fnOf x qual (fF st) (cZ st) (aG st) .none kV doc pm an cdv ct),osl⟩)
  (c:PySem.W.codeIn K cdv qual=true) (k:PySem.W.keepIn K (.ref f)=true):Fun K x qual st f (PySem.W.fnOf x qual (fF st) (cZ st) (aG st) .none kV doc pm an cdv ct):=⟨⟨oc,od,kV,doc,pm,an,cdv,ct,osl,rfl,l,c⟩,k⟩
end
theorem NW{n:Nat}(h:n<=1000):n<sizeLine:=Nat.lt_of_le_of_lt h (by decide)
end L2
namespace D3
open PySem PySem.Spec PyProof.Rows L2 PySem.Calls
noncomputable def kE(P:Params)(x:Str)(t:Tok)(v:Value):DictEntry:=⟨PyData.keyHash P x,.str x t,v⟩
noncomputable def kF(x:Str)(st:Stmt)(m:Value)(c:Addr)(d:Value:= .none):Obj:=⟨.type "function",none,.func (PySem.W.fnOf x x (fF st) (cZ st) (aG st) d .none .none m none (.ref c) .none),#[]⟩
noncomputable def kC(x:Str)(t:Nat)(l n:Int)(T c:Nat)(u v:Value:= .none)(k:Nat:=3):Obj:=
 ⟨.type "code",none,.fields #[.str x t,.str x (t+1),.str "/claim/cut.py" (t+2),.int l 0,.int n 0,.int 0 0,.int 0 0,.int 3 0,.ref (c-k),.bool true,.int 181 0,.ref (c-k+1),.none,u,v,.ref (c-1),.int T 0,.int l 0,.str "/claim/cut.py" (T+1)],#[]⟩
noncomputable def kD(x:Str)(t:Nat)(l n:Int)(T c:Nat):Obj:=kC x t l n T c (.ref (c-3)) (.ref (c-2)) 5
noncomputable def kQ(p:Program)(ks:List Nat):Program:={p with main:={p.main with body:=ks.filterMap λi=>p.main.body[i]?}}
end D3
namespace K42
open PySem PySem.Spec PyProof.Rows L2 D3
def top(i:Nat):Stmt:=PySem.Challenge.pw_maskwright_k42_two_by_tries.main.body.getD i (.Pass ⟨0,0,0,0⟩)
abbrev iE:Stmt:=top 7
abbrev dN:Stmt:=top 8
abbrev dO:Stmt:=top 9
abbrev j6:Stmt:=top 10
abbrev d7:Stmt:=top 11
abbrev eV:Stmt:=top 12
abbrev iD:Stmt:=top 13
abbrev eX:Stmt:=top 14
abbrev iF:Stmt:=top 15
abbrev fZ:Stmt:=top 16
abbrev eW:Stmt:=top 17
abbrev cV:Stmt:=top 18
abbrev d5:Stmt:=top 19
abbrev j5:Stmt:=top 20
abbrev n6:Stmt:=top 21
abbrev rR:Stmt:=top 22
abbrev iG:Stmt:=top 24
abbrev f9:Stmt:=top 25
abbrev d9:Stmt:=top 26
abbrev e9:Stmt:=top 27
abbrev dP:Stmt:=top 28
abbrev eZ:Stmt:=top 29
abbrev e8:Stmt:=top 30
abbrev f7:Stmt:=top 31
abbrev dC:Stmt:=top 32
abbrev eY:Stmt:=top 33
abbrev dQ:Stmt:=top 34
abbrev d8:Stmt:=top 35
abbrev f6:Stmt:=top 36
abbrev cO:Stmt:=top 37
abbrev cD:Stmt:=top 38
abbrev w8:Stmt:=top 39
noncomputable def m0:Value:= .str "maskwright.alike" 223
noncomputable def m1:Value:= .str "law_maskwright_k42_two_by_tries" 360
noncomputable def kk:Params->W.Frag:=λP=>(nat_lit 3,⟨.type "dict",none,.dict #[kE P "__name__" 165 (.str "law_maskwright_k42_two_by_tries" 360),kE P "__doc__" 166 .none,kE P "__package__" 167 .none,kE P "__loader__" 168 (.builtin "__main__.__loader__#opaque"),kE P "__spec__" 169 .none,kE P "__annotations__" 170 (.ref 6),kE P "__builtins__" 171 (.ref 4),kE P "__file__" 173 (.str "/claim/cut.py" 172),kE P "__cached__" 174 .none,kE P "MaskError" 206 (.ref 24),kE P "TooMuch" 222 (.ref 37),kE P "AT_GATE" 226 (.int 0 225),kE P "AT_END" 228 (.int 1 227),kE P "MOST_ALIKE" 230 (.int 8 229),kE P "numbered" 236 (.ref 44),kE P "names_by_net" 242 (.ref 49),kE P "hooks_by_net" 248 (.ref 54),kE P "telling" 261 (.ref 61),kE P "first_marks" 269 (.ref 68),kE P "next_marks" 275 (.ref 73),kE P "sides_of" 283 (.ref 80),kE P "are_parted" 290 (.ref 87),kE P "marks_on" 300 (.ref 94),kE P "with_name" 306 (.ref 99),kE P "nets_alike" 312 (.ref 104),kE P "rounds_to_part" 323 (.ref 111),kE P "is_as_great" 331 (.ref 118),kE P "weighed" 337 (.ref 123),kE P "tried" 348 (.ref 130),kE P "held" 359 (.ref 137),kE P "_law_bag" 372 (.ref 144),kE P "_law_take" 383 (.ref 151),kE P "_law_number" 390 (.ref 158),kE P "_law_order" 400 (.ref 165),kE P "_law_renamed" 406 (.ref 170),kE P "_law_rings" 419 (.ref 177),kE P "_law_parts" 429 (.ref 184),kE P "_law_tell" 446 (.ref 191),kE P "_law_numbered" 452 (.ref 196),kE P "_law_start" 458 (.ref 201),kE P "_law_further" 464 (.ref 206),kE P "_law_rounds" 476 (.ref 213),kE P "_law_word" 485 (.ref 220),kE P "_law_part_right" 491 (.ref 225),kE P "_law_paper_right" 497 (.ref 230),kE P "law" 512 (.ref 237)] 46,#[]⟩)::(nat_lit 43,kC "numbered" 231 10 1 234 43)::(nat_lit 44,kF "numbered" iE m0 43)::(nat_lit 48,kC "names_by_net" 237 13 1 240 48)::(nat_lit 49,kF "names_by_net" dN m0 48)::(nat_lit 53,kC "hooks_by_net" 243 18 1 246 53)::(nat_lit 54,kF "hooks_by_net" dO m0 53)::(nat_lit 60,kD "telling" 249 25 2 259 60)::(nat_lit 61,kF "telling" j6 m0 60)::(nat_lit 67,kD "first_marks" 262 31 2 267 67)::(nat_lit 68,kF "first_marks" d7 m0 67)::(nat_lit 72,kC "next_marks" 270 33 2 273 72)::(nat_lit 73,kF "next_marks" eV m0 72)::(nat_lit 79,kD "sides_of" 276 38 2 281 79)::(nat_lit 80,kF "sides_of" iD m0 79)::(nat_lit 86,kD "are_parted" 284 40 1 288 86)::(nat_lit 87,kF "are_parted" eX m0 86)::(nat_lit 93,kD "marks_on" 291 42 2 298 93)::(nat_lit 94,kF "marks_on" iF m0 93)::(nat_lit 98,kC "with_name" 301 50 3 304 98)::(nat_lit 99,kF "with_name" fZ m0 98)::(nat_lit 103,kC "nets_alike" 307 55 1 310 103)::(nat_lit 104,kF "nets_alike" eW m0 103)::(nat_lit 110,kD "rounds_to_part" 313 60 3 321 110)::(nat_lit 111,kF "rounds_to_part" cV m0 110)::(nat_lit 117,kD "is_as_great" 324 65 2 329 117)::(nat_lit 118,kF "is_as_great" d5 m0 117)::(nat_lit 122,kC "weighed" 332 67 2 335 122)::(nat_lit 123,kF "weighed" j5 m0 122)::(nat_lit 129,kD "tried" 338 81 4 346 129)::(nat_lit 130,kF "tried" n6 m0 129)::(nat_lit 136,kD "held" 349 86 2 357 136)::(nat_lit 137,kF "held" rR m0 136)::(nat_lit 143,kD "_law_bag" 362 96 2 370 143)::(nat_lit 144,kF "_law_bag" iG m1 143)::(nat_lit 150,kD "_law_take" 373 106 2 381 150)::(nat_lit 151,kF "_law_take" f9 m1 150)::(nat_lit 157,kD "_law_number" 384 118 1 388 157)::(nat_lit 158,kF "_law_number" d9 m1 157)::(nat_lit 164,kD "_law_order" 391 120 2 398 164)::(nat_lit 165,kF "_law_order" e9 m1 164)::(nat_lit 169,kC "_law_renamed" 401 126 2 404 169)::(nat_lit 170,kF "_law_renamed" dP m1 169)::(nat_lit 176,kD "_law_rings" 407 133 2 417 176)::(nat_lit 177,kF "_law_rings" eZ m1 176)::(nat_lit 183,kD "_law_parts" 420 142 2 427 183)::(nat_lit 184,kF "_law_parts" e8 m1 183)::(nat_lit 190,kD "_law_tell" 430 153 3 444 190)::(nat_lit 191,kF "_law_tell" f7 m1 190)::(nat_lit 195,kC "_law_numbered" 447 164 2 450 195)::(nat_lit 196,kF "_law_numbered" dC m1 195)::(nat_lit 200,kC "_law_start" 453 171 3 456 200)::(nat_lit 201,kF "_law_start" eY m1 200)::(nat_lit 205,kC "_law_further" 459 178 3 462 205)::(nat_lit 206,kF "_law_further" dQ m1 205)::(nat_lit 212,kD "_law_rounds" 465 183 3 474 212)::(nat_lit 213,kF "_law_rounds" d8 m1 212)::(nat_lit 219,kD "_law_word" 477 195 3 483 219)::(nat_lit 220,kF "_law_word" f6 m1 219)::(nat_lit 224,kC "_law_part_right" 486 199 4 489 224)::(nat_lit 225,kF "_law_part_right" cO m1 224)::(nat_lit 229,kC "_law_paper_right" 492 212 3 495 229)::(nat_lit 230,kF "_law_paper_right" cD m1 229)::(nat_lit 236,kD "law" 498 221 1 510 236)::(nat_lit 237,kF "law" w8 m1 236)::[]
theorem kl:PySem.W.LeftO PySem.Challenge.rw_maskwright_k42_two_by_tries.prog (D3.kQ PySem.Challenge.pw_maskwright_k42_two_by_tries [1,2,4,5,6,7,8,9,10,11,12,13,14,15,16,17,18,19,20,21,22,24,25,26,27,28,29,30,31,32,33,34,35,36,37,38,39]) [] (λ_=>true) (λs=>List.map s.heap.get? [3,43,44,48,49,53,54,60,61,67,68,72,73,79,80,86,87,93,94,98,99,103,104,110,111,117,118,122,123,129,130,136,137,143,144,150,151,157,158,164,165,169,170,176,177,183,184,190,191,195,196,200,201,205,206,212,213,219,220,224,225,229,230,236,237]) (λw=>(kk w.params).map λp=>some p.2) 2948:=λ_=>by kernel_rfl
end K42
namespace L2
open PySem PySem.Spec PyProof.Rows
section
variable {κ:Type}[DecidableEq κ]
def tK(kvs:List (κ×V))(k:κ):Option V:=(kvs.find? λa=>decide (a.1=k)).map (·.2)
def putK(kvs:List (κ×V))(k:κ)(v:V):List (κ×V):=
 if (kvs.any λa=>decide (a.1=k))=true then kvs.map (λa=>if a.1=k then (a.1,v) else a) else kvs++[(k,v)]
variable{r:List (κ×V)}
theorem rL{p:κ×V}{k:κ}(e:p.1=k):tK (p::r) k=some p.2:=by simp[tK,List.find?_cons,e]
theorem rM{p:κ×V}{k:κ}(e:¬p.1=k):tK (p::r) k=tK r k:=by simp[tK,List.find?_cons,e]
theorem E5(k:κ):∀kvs:List (κ×V),(kvs.any λa=>decide (a.1=k))=(tK kvs k).isSome
 | []=>rfl
 | p::r=>by
  rw[List.any_cons];by_cases e:p.1=k
  ·simp only[rL e,decide_eq_true e,Bool.true_or,Option.isSome_some]
  ·rw[rM e,decide_eq_false e,Bool.false_or];exact E5 k r
theorem u3(kvs:List (κ×V))(k:κ)(v:V):(putK kvs k v).length<=kvs.length+1:=by
 unfold putK;split
 ·rw[List.length_map];lia
 ·rw[List.length_append,List.length_cons,List.length_nil];lia
variable{u:Option Value}
theorem vR.OW{o:Option V}(r:vR o u):o.isSome=u.isSome:=by
 cases o with
 | none=>cases u with
  | none=>rfl
  | some _=>exact(show False from r).elim
 | some _=>cases u with
  | none=>exact(show False from r).elim
  | some _=>rfl
theorem vR.getD{o:Option V}{d:V}{d' :Value}(r:vR o u)(a:RelV d d'):RelV (o.getD d) (u.getD d'):=by
 cases o with
 | none=>cases u with
  | none=>exact a
  | some _=>exact(show False from r).elim
 | some _=>cases u with
  | none=>exact(show False from r).elim
  | some _=>exact r
variable{kvs:List (κ×V)}{vs:List (κ×Value)}
theorem KV.val(r:KV kvs vs)(k:κ):vR (tK kvs k) (valueAt vs k):=by
 unfold KV at r
 induction r with
 | nil=>exact True.intro
 | @cons p q ps qs h t ih=>
  obtain⟨c,d⟩:=h;by_cases e:p.1=k
  ·have a :q.1=k:=c.symm.trans e;have b:valueAt (q::qs) k=some q.2:=by simp[valueAt,List.find?_cons,a]
   rw[rL e,b];exact d
  ·have a :¬q.1=k:=λz=>e (c.trans z);have b:valueAt (q::qs) k=valueAt qs k:=by simp[valueAt,List.find?_cons,a]
   rw[rM e,b];exact ih
theorem KV.any(r:KV kvs vs)(k:κ):(kvs.any λa=>decide (a.1=k))=vs.any λa=>decide (a.1=k):=by
 unfold KV at r
 induction r with
 | nil=>rfl
 | cons h t ih=>rw[List.any_cons,List.any_cons,ih,h.1]
theorem KV.aBd(r:KV kvs vs)(k:κ){y:V}{u:Value}(c:RelV y u):
  KV (kvs.map λa=>if a.1=k then (a.1,y) else a) (vs.map λa=>if a.1=k then (a.1,u) else a):=by
 unfold KV at r⊢
 induction r with
 | nil=>exact .nil
 | @cons p q ps qs h t ih=>
  rw[List.map_cons,List.map_cons];refine .cons ?_ ih;obtain⟨b,d⟩:=h;by_cases e:p.1=k
  ·rw[if_pos e,if_pos (b.symm.trans e)];exact⟨b,c⟩
  ·rw[if_neg e,if_neg (λz=>e (b.trans z))];exact⟨b,d⟩
theorem KV.put(r:KV kvs vs)(k:κ){y:V}{u:Value}(a:RelV y u):KV (putK kvs k y) (stored vs k u):=by
 unfold putK stored;rw[r.any k];by_cases e:(vs.any λb=>decide (b.1=k))=true
 ·rw[if_pos e,if_pos e];exact r.aBd k a
 ·rw[if_neg e,if_neg e];exact Paired.snoc r ⟨rfl,a⟩
theorem KV.length(r:KV kvs vs):kvs.length=vs.length:=Paired.length r
end
variable{P:Program}{w:World}{u:Value}
theorem oO{k:Key}(r:RelV (kV k) u):(aW P w).is k u=true:=by
 cases k with
 | inl i=>obtain⟨t,e⟩:=(show ∃t,u=Value.int i t from r);subst e;exact F9 P w i t
 | inr x=>obtain⟨t,e⟩:=(show ∃t,u=Value.str x t from r);subst e;exact F8 P w x t
theorem BJ{P:Program}{w:World}:∀{ks:List Key} {us:List Value},Vals (ks.map kV) us->ItemsAre (aW P w) ks us
 | [],_,r=>by rw[List.map_nil]at r;cases r;exact .nil
 | k::ks,_,r=>by
  rw[List.map_cons]at r
  cases r with
  | cons h t=>exact .cons (oO h) (BJ t)
abbrev KT(H:Hp):List (List Key×V)->List (List Key×Addr×Value)->Prop:=Paired λp q=>p.1=q.1/\H q.2.1=some (.tup (p.1.map kV))/\RelV p.2 q.2.2
variable{H:Hp}{kvs:List (List Key×V)}{xs:List (List Key×Addr×Value)}
theorem KT.val(r:KT H kvs xs)(k:List Key):vR (tK kvs k) ((atKey xs k).map (·.2)):=by
 induction r with
 | nil=>exact True.intro
 | @cons p q ps qs h t ih=>
  obtain⟨c,_,d⟩:=h;by_cases e:p.1=k
  ·have a :q.1=k:=c.symm.trans e;have b:atKey (q::qs) k=some q.2:=by simp[atKey,List.find?_cons,a]
   rw[rL e,b];exact d
  ·have a :¬q.1=k:=λz=>e (c.trans z);have b:atKey (q::qs) k=atKey qs k:=by simp[atKey,List.find?_cons,a]
   rw[rM e,b];exact ih
theorem KT.aBd(r:KT H kvs xs)(k:List Key){y:V}(d:RelV y u):
  KT H (kvs.map λb=>if b.1=k then (b.1,y) else b) (xs.map (putAt k u)):=by
 induction r with
 | nil=>exact .nil
 | @cons p q ps qs h t ih=>
  rw[List.map_cons,List.map_cons];refine .cons ?_ ih;obtain⟨a,c,f⟩:=h;unfold putAt;by_cases e:p.1=k
  ·rw[if_pos e,if_pos (a.symm.trans e)];exact⟨a,c,d⟩
  ·rw[if_neg e,if_neg (λz=>e (a.trans z))];exact⟨a,c,f⟩
theorem KT.put(r:KT H kvs xs)(k:List Key){b:Addr}{y:V}(c:H b=some (.tup (k.map kV)))(a:RelV y u):
  KT H (putK kvs k y) (storedH xs k b u):=by
 have e:(kvs.any λd=>decide (d.1=k))=(atKey xs k).isSome:=by
  rw[E5,(r.val k).OW,Option.isSome_map]
 unfold putK storedH;rw[e];by_cases q:(atKey xs k).isSome=true
 ·rw[if_pos q,if_pos q];exact r.aBd k a
 ·rw[if_neg q,if_neg q];exact Paired.snoc r ⟨rfl,c,a⟩
theorem KT.keeps{H H' :Hp}(r:KT H kvs xs)(ht:∀b a,H b=some (.tup a)->H' b=some (.tup a)):KT H' kvs xs:=
 Paired.aCs r λ_ _ z=>⟨z.1,ht _ _ z.2.1,z.2.2⟩
section
variable {P:Program}{w:World}{H:Hp}{h:Heap}{a:Addr}
theorem aA3{u:HO}(ok:tE P w H h)(e:Rd H a u):dF P w H h a u:=e.ok ok
variable{kvs:List (Key×V)}
theorem G3(ok:tE P w H h)(e:Rd H a (.dK kvs)):kvs.length<=sizeLine/\(a==sysModules)=false/\∃vs,KV kvs vs/\h.DictOf (aW P w) a vs:=
 show dF P w H h a (.dK kvs) from aA3 ok e
theorem aIj(ok:tE P w H h)(e:H a=some (.dK kvs)):kvs.length<=sizeLine/\(a==sysModules)=false/\∃vs,KV kvs vs/\h.DictOf (aW P w) a vs:=G3 ok (.inl e)
theorem oM{ks:List Key}(ok:tE P w H h)(e:H a=some (.tup (ks.map kV))):(tupleKind (aW P w)).is h ks a:=by
 obtain⟨_,aM,r,⟨o,b,c,n,d⟩,_⟩:=(show dF P w H h a (.tup (ks.map kV)) from ok a _ e)
 exact⟨o,aM.toArray,n,b,c,d,by simpa using BJ r⟩
variable{kvs:List (List Key×V)}
theorem G1(ok:tE P w H h)(e:Rd H a (.dT kvs)):kvs.length<=sizeLine/\(a==sysModules)=false/\
  ∃xs,KT H kvs xs/\h.DictOfH (tupleKind (aW P w)) a xs:=by
 obtain⟨z,y,xs,r,o,es,b,c,d,f,g,i⟩:=(show dF P w H h a (.dT kvs) from aA3 ok e)
 refine⟨z,y,xs,r,o,es,b,c,d,f,g,λx hx=>?_,i⟩
 have all:∀{l:List (List Key×V)} {m:List (List Key×Addr×Value)},KT H l m->∀x∈m,(tupleKind (aW P w)).is h x.1 x.2.1:=by
  intro l m q
  induction q with
  | nil=>intro x hx;exact nomatch hx
  | @cons p q ps qs hq t ih=>
   intro x hx;rcases aMf.mp hx with e | hx
   ·subst e;exact oM ok (by rw[<-hq.1];exact hq.2.1)
   ·exact ih x hx
 exact all r x hx
theorem aIi(ok:tE P w H h)(e:H a=some (.dT kvs)):kvs.length<=sizeLine/\(a==sysModules)=false/\
  ∃xs,KT H kvs xs/\h.DictOfH (tupleKind (aW P w)) a xs:=G1 ok (.inl e)
end
def KS(H:Hp)(a:Addr)(y:V)(r:Option V):Prop:=
 (∃kvs k,Rd H a (.dK kvs)/\y=kV k/\r=tK kvs k)\/∃kvs k b,Rd H a (.dT kvs)/\y= .ref b/\H b=some (.tup (k.map kV))/\r=tK kvs k
def ZZ(H:Hp)(a:Addr)(y v:V)(H' :Hp):Prop:=
 (∃kvs k,H a=some (.dK kvs)/\y=kV k/\kvs.length<sizeLine/\H' =upd H a (.dK (putK kvs k v)))\/
 ∃kvs k b,H a=some (.dT kvs)/\y= .ref b/\H b=some (.tup (k.map kV))/\kvs.length<sizeLine/\H' =upd H a (.dT (putK kvs k v))
variable{a:Addr}{kvs:List (Key×V)}
theorem KS.k{k:Key}(e:H a=some (.dK kvs)):KS H a (kV k) (tK kvs k):= .inl ⟨kvs,k,.inl e,rfl,rfl⟩
theorem ZZ.k{k:Key}{v:V}(e:H a=some (.dK kvs))(b:kvs.length<sizeLine):ZZ H a (kV k) v (upd H a (.dK (putK kvs k v))):= .inl ⟨kvs,k,e,rfl,b,rfl⟩
section
variable {X:Cx}{pins:List (Addr×Obj)}{σ:St}{H:Hp}{s:Shared}{a:Addr}{y v:V}{u r:Value}{o:Option V}{A:Around}{E:aPv}
theorem Inv.big(I:Inv X pins σ H s):sysModules<s.heap.objs.size:=by
 have h:mainGlobals<s.heap.objs.size:=(I.mod.glob.keeps I.bk).lt;exact aPq (by decide) h
theorem PK{Q:aPv}(t:A.units+1<cLine)(I:Inv X pins σ H s)(g:KS H a y (some v))(q:RelV y u)(h:∀f r,Inv X pins σ H r ->RelV v f ->Q f r):
  wpAny (model X.prog X.w) A (getItem (.ref a) u) Q E s:=by
 rcases g with ⟨kvs,k,e,i,l⟩ | ⟨kvs,k,b,e,i,x,l⟩
 ·subst i;obtain⟨z,hd,vs,c,j⟩:=G3 I.cS e;obtain⟨f,m,d⟩:=vR.some_of (v:=v) (o:=valueAt vs k) (by rw[l];exact c.val k);exact wpAny_getItem_of (oO q) j.mapOf m (h f _ (I.tok _) d)
 ·subst i;cases (show u=Value.ref b from q);obtain⟨z,hd,xs,c,j⟩:=G1 I.cS e;obtain⟨f,m,d⟩:=vR.some_of (v:=v) (o:=(atKey xs k).map (·.2)) (by rw[l];exact c.val k);obtain⟨p,B,n⟩:=aN1.mp m;refine wpAny_getItem_heap (aPf t) (oM I.cS x) j B ?_;rw[n];exact h f _ (I.tok _) d
theorem D1{h' :Heap}{t' :Nat}{ob:HO}(I:Inv X pins σ H s)(c:VB (H a))(d:Heap.SameBut a s.heap h')(he:∃q,h'.get? a=some q)(new:dF X.prog X.w (upd H a ob) h' a ob):
  Inv X pins σ (upd H a ob) {s with heap:=h',toks:=t'}:=
 I.write (x:=a) (e:=a) c (.inl rfl) (λb q f z=>(d.2 b f).trans z) he new
theorem aEo{H' :Hp}{h' :Heap}{vs:List (Key×Value)}(z:kvs.length<=sizeLine)(hd:(a==sysModules)=false)(b:KV kvs vs)(c:h'.DictOf (aW P w) a vs):
  dF P w H' h' a (.dK kvs):=⟨z,hd,vs,b,c⟩
theorem PJ{H' :Hp}{Q:Unit->Shared->Prop}(F:A.units+1<cLine)(I:Inv X pins σ H s)(g:ZZ H a y v H')(t:RelV y u)(x:RelV v r)(h:∀B,Inv X pins σ H' B ->Q () B):
  wpAny (model X.prog X.w) A (setItem (.ref a) u r) Q E s:=by
 rcases g with ⟨kvs,k,e,j,l,m⟩ | ⟨kvs,k,b,e,j,C,l,m⟩
 ·subst j m;obtain⟨z,hd,vs,d,n⟩:=aIj I.cS e;have hz:vs.length<=sizeLine:=by rw[<-d.length];exact z
  have o:(putK kvs k v).length<=sizeLine:=by have:=u3 kvs k v;lia
  refine wpAny_setItem_pairs (hsz:=hz) (oO t) n λh' f p=>h _ ?_;have he:∃q,h'.get? a=some q:=let ⟨q,_,_,i,_⟩:=f;⟨q,i⟩;exact D1 I (by rw[e];exact True.intro) p he (aEo o hd (d.put k x) f)
 ·subst j m;cases (show u=Value.ref b from t);obtain⟨z,hd,xs,d,n⟩:=aIi I.cS e;have hz:xs.length<=sizeLine:=by rw[<-Paired.length d];exact z
  have o:(putK kvs k v).length<=sizeLine:=by have:=u3 kvs k v;lia
  refine wpAny_setItem_heap (hsz:=hz) (aPf F) (oM I.cS C) n λh' f p=>h _ ?_;obtain⟨q,es,G,i,J,K,L,_,M⟩:=f;refine D1 I (by rw[e];exact True.intro) p ⟨q,i⟩ ⟨o,hd,_,(d.put k C x).keeps λc N D=>?_,q,es,G,i,J,K,L,M⟩;rw[bD (aHj D e (λz=>nomatch z))];exact D
end
variable{pins:List (Addr×Obj)}
theorem G5{X:Cx}{σ:St}{s:Shared}{y:V}{o:Option V}(I:Inv X pins σ H s)(g:KS H a y o):s.TypeIs (.ref a) "dict":=by
 rcases g with ⟨kvs,k,e,_,_⟩ | ⟨kvs,k,b,e,_,_,_⟩
 ·obtain⟨_,_,vs,_,c⟩:=G3 I.cS e;exact c.typeIs
 ·obtain⟨_,_,xs,_,c⟩:=G1 I.cS e;exact c.typeIs
def aGm(c ty d:TE):TS:=λD σ H=>d σ H λv e=>c σ e λx f=>ty σ f λy g=>∃a b,x= .ref a/\ZZ g a y v b/\D.nx σ b
section
variable {X:Cx}{o i e value:Expr}{pos pos' tpos:Pos}{td ty tv:TE}
theorem WX(b:X.A.units+1<cLine)(ho:PE X o td)(hi:PE X i ty)(c:PE X value tv)(d:swapsWith value (some (.Subscript o i pos')) pos.line X.env=pure false):
  PS X (.Assign [.Subscript o i pos'] value pos) (aGm td ty tv):=by
 intro pins s σ H D I h;refine wpAny_Assign_Subscript (dZ (c pins s σ H _ I h) λr s1 ⟨v,e,f,j,k⟩=>dZ (ho pins s1 σ e _ f k) λu s2 ⟨x,l,m,n,p⟩=>dZ (hi pins s2 σ l _ m p) λC E ⟨y,F,q,t,a,w,ex,g,z⟩=>?_) d;subst ex;obtain rfl:u=Value.ref a:=n
 exact PJ b q g t j λG B=>⟨σ,w,B,z⟩
end
theorem G4(h:Heap)(a:sysModules<h.objs.size):dF P w H (h.push {cls:= .type "dict",data:= .dict #[]}) h.objs.size (.dK []):=
 ⟨aN9 _,beq_eq_false_iff_ne.mpr (aNf (aMg a)),[],.nil,Heap.DictOf.new h⟩
def aB0:TE:=λ_ H Q=>∀p,H p=none->Q (.ref p) (upd H p (.dK []))
section
variable {X:Cx}{pos:Pos}
theorem RN:PE X (.Dict [] [] pos) aB0:=λpins s σ H Q I h=>
 wpAny_Dict_empty ⟨.ref s.heap.objs.size,_,I.laid (a:=s.heap.objs.size) (o:= .dK []) (t' :=s.toks) (λ_ _ q=>aM5 _ q) (aM7 _) (G4 s.heap I.big),rfl,h _ (I.cS.fresh (aM7 _))⟩
end
structure M2(X:Cx)(o:Expr)(m:Str)(apos:Pos)(e f:Expr)(eG:Pos):Prop where
 base:attributeBase o m X.env (eval o X.env)=eval o X.env
 PD:((backTo eG (starEach [e,f] X.env)).all (λx=>!x.1) && (backToKw eG (keywordEach [] X.env)).all (λx=>x.1.isSome)
  && decide (([e,f]:List Expr).length+([]:List Keyword).length+(if ([]:List Keyword).isEmpty then 0 else 1)<30))=true
 line:(apos.endLine==eG.line)=true
 trees:backTo eG (starEach [e,f] X.env)=[(false,eval e X.env),(false,eval f X.env)]
def IsD(H:Hp)(a:Addr):Prop:=(∃kvs,Rd H a (.dK kvs))\/∃kvs,Rd H a (.dT kvs)
theorem aE3{X:Cx}{σ:St}{s:Shared}(I:Inv X pins σ H s)(d:IsD H a):
  s.TypeIs (.ref a) "dict"/\(∀b,Value.ref a= .ref b->∃ob,s.heap.get? b=some ob/\ob.dict=none)/\(a==sysModules)=false:=by
 rcases d with ⟨kvs,e⟩ | ⟨kvs,e⟩
 ·obtain⟨_,hd,vs,_,c⟩:=G3 I.cS e;refine⟨c.typeIs,λb q=>?_,hd⟩;cases q;obtain⟨ob,_,_,f,g,_⟩:=c;exact⟨ob,f,g.2.1⟩
 ·obtain⟨_,hd,xs,_,c⟩:=G1 I.cS e;refine⟨c.typeIs,λb q=>?_,hd⟩;cases q;obtain⟨ob,_,_,f,g,_⟩:=c;exact⟨ob,f,g.2.1⟩
section
variable {X:Cx}{pins:List (Addr×Obj)}{σ:St}{H:Hp}{s:Shared}{a:Addr}{y d:V}{u r:Value}{o:Option V}{A:Around}{E:aPv}
theorem aEq{Q:aPv}(q:A.units+1<cLine)(I:Inv X pins σ H s)(g:KS H a y o)(j:RelV y u)(m:RelV d r)(h:∀n p,Inv X pins σ H p ->RelV (o.getD d) n ->Q n p):
  wpAny (model X.prog X.w) A (call (.builtin "dict.get") [.ref a,u,r]) Q E s:=by
 rcases g with ⟨kvs,k,e,i,l⟩ | ⟨kvs,k,b,e,i,t,l⟩
 ·subst i;obtain⟨z,hd,vs,c,f⟩:=G3 I.cS e;refine call_meetsIn aP3 f.typeIs PySem.F.entry_dict_get (PySem.F.args_dict_get_3 _ _ _) (meets_dict_get_default (aW X.prog X.w) a (oO j) hd r) ⟨_,f.mapOf,h _ _ (I.tok _) ?_⟩;rw[l];exact(c.val k).getD m
 ·subst i;cases (show u=Value.ref b from j);obtain⟨z,hd,xs,c,f⟩:=G1 I.cS e;refine call_meetsIn aP3 f.typeIs PySem.F.entry_dict_get (PySem.F.args_dict_get_3 _ _ _) (meetsH_dict_get_default (tupleKind (aW X.prog X.w)) a b hd r) ⟨aPf q,k,xs,oM I.cS t,f,h _ _ (I.tok _) ?_⟩;rw[l];exact(c.val k).getD m
end
def aB1(d ty e:TE):TE:=λσ H Q=>d σ H λx b=>∃a,x= .ref a/\IsD b a/\ty σ b λy f=>e σ f λz c=>∃o,KS c a y o/\Q (o.getD z) c
section
variable {X:Cx}{o e f:Expr}{apos eG:Pos}{td ty tx:TE}
theorem RO(j:X.A.units+1<cLine)(ho:PE X o td)(he:PE X e ty)(k:PE X f tx)(m:M2 X o "get" apos e f eG):PE X (.Call (.Attribute o "get" apos) [e,f] [] eG) (aB1 td ty tx):=by
 intro pins s σ H Q I h;refine wpAny_Call_method m.base m.PD m.line PySem.F.plainAttrs_dict aP3 PySem.F.type_dict_get (dZ (ho pins s σ H _ I h) λu s1 b=>?_);obtain⟨x,l,i,n,a,ex,d,p⟩:=b;subst ex;obtain rfl:u=Value.ref a:=n;obtain⟨q,r,_⟩:=aE3 i d;refine⟨q,r,?_⟩;rw[m.trees]
 refine aOw rfl (aPa (aNz (dZ (he pins s1 σ l _ i p) λK s2 ⟨y,t,v,w,B⟩=>
  aNz (dZ (k pins s2 σ t _ v B) λL M ⟨z,C,D,E,N,g,G⟩=>Calls.spliced_nil ?_))))
 exact aEq j D g w E λO P J c =>⟨_,C,J,c,G⟩
end
end L2
namespace ST
open PySem PySem.SetTable
def KQ(xs:Array Nat):Prop:=xs.toList.Pairwise (· < ·)
variable{xs:Array Nat}{i j:Nat}
theorem IQ(h:KQ xs)(hi:i<j)(a:j<xs.size):xs[i]'(by lia)<xs[j]:=by
 have:=aOh.mp h i j (by simp;lia) (by simpa using a) hi;simpa using this
theorem Q3(h:KQ xs)(hi:i<=j)(a:j<xs.size):xs[i]'(by lia)<=xs[j]:=by
 rcases aPg hi with z | z
 ·exact aNt (IQ h z a)
 ·subst z;exact aM7 _
theorem DY(xs:Array Nat)(j:Nat)(h:KQ xs):∀(fuel lo hi:Nat),hi-lo<=fuel->lo<=hi->hi<=xs.size->(∀k (c:k<xs.size),k<lo->xs[k]<j)->(∀k (c:k<xs.size),hi<=k->j<=xs[k])->
  (below.go xs j fuel lo hi<=xs.size)/\(∀k (c:k<xs.size),k<below.go xs j fuel lo hi->xs[k]<j)/\(∀k (c:k<xs.size),below.go xs j fuel lo hi<=k->j<=xs[k])
 | 0,lo,hi,h1,h2,h3,a,b=>by
  have:lo=hi:=by lia
  subst this;exact⟨h3,a,b⟩
 | fuel+1,lo,hi,h1,h2,h3,a,b=>by
  unfold below.go;by_cases f:lo<hi
  ·rw[if_pos f];have hm:(lo+hi) / 2<xs.size:=by lia
   have g:xs.getD ((lo+hi) / 2) j=xs[(lo+hi) / 2]:=by simp[Array.getD,hm]
   simp only[g];by_cases e:xs[(lo+hi) / 2]<j
   ·rw[if_pos e];exact DY xs j h fuel _ _ (by lia) (by lia) h3 (λk c d=>Nat.lt_of_le_of_lt (Q3 h (by lia) hm) e) b
   ·rw[if_neg e];exact DY xs j h fuel _ _ (by lia) (by lia) (by lia) a (λk c d=>aMq (aP5 e) (Q3 h d c))
  ·rw[if_neg f];have:lo=hi:=by lia
   subst this;exact⟨h3,a,b⟩
theorem mU(j:Nat)(h:KQ xs):(below xs j<=xs.size)/\(∀k (a:k<xs.size),k<below xs j->xs[k]<j)/\(∀k (a:k<xs.size),below xs j<=k->j<=xs[k]):=
 DY xs j h xs.size 0 xs.size (by lia) (by lia) (aM7 _) (λk a z=>by lia) (λk a z=>by lia)
theorem KG(h:KQ xs):below xs 0=0:=by
 obtain⟨a,b,_⟩:=mU 0 h;apply aMm;intro z;have:=b 0 (by lia) (by lia)
 lia
theorem KI(h:KQ xs)(hi:i<xs.size):below xs (xs[i]+1)=i+1:=by
 obtain⟨a,b,c⟩:=mU (xs[i]+1) h
 have e:i<below xs (xs[i]+1):=by
  apply aMm;intro z;have:=c i hi (by lia)
  lia
 apply aMm;intro z;have d:i+1<below xs (xs[i]+1):=by lia
 have f:=b (i+1) (by lia) d;have g:=IQ (i:=i) (j:=i+1) h (by lia) (by lia)
 lia
theorem XM(h:KQ xs)(f:xs[below xs j]? ≠some j):j∉xs.toList:=by
 intro hm;obtain⟨k,g,e⟩:=aOa.mp hm;have d :k<xs.size:=by simpa using g
 have i :xs[k]=j:=by simpa using e
 obtain⟨a,b,c⟩:=mU j h
 have l:below xs j<=k:=by
  apply aMm;intro z;have:=b k d (by lia)
  lia
 rcases aPg l with z | z
 ·have:=IQ h z d;have:=c _ (by lia) (aM7 _)
  lia
 ·apply f;rw[z];simp[d,i]
theorem GQ{a:Type}(xs:Array a)(p:Nat)(x:a)(b:p<=xs.size):(insertAt xs p x).toList=xs.toList.take p++x::xs.toList.drop p:=by
 unfold insertAt;simp[Array.toList_extract];rw[List.take_of_length_le (by simp)]
theorem IS(h:KQ xs)(l:j∉xs.toList):KQ (insertAt xs (below xs j) j):=by
 obtain⟨a,b,c⟩:=mU j h;unfold KQ;rw[GQ _ _ _ a,List.pairwise_append];refine⟨h.sublist (aPl _ _),?_,?_⟩
 ·rw[List.pairwise_cons];refine⟨λy f=>?_,h.sublist (List.drop_sublist _ _)⟩;obtain⟨k,g,e⟩:=aOa.mp f;have d:below xs j+k<xs.size:=by simp at g;lia
  have n:xs[below xs j+k]=y:=by simpa using e
  have:=c _ d (by lia);rcases aPg this with z | z
  ·lia
  ·exfalso;apply l;rw[z];simp
 ·intro x o y f;obtain⟨k,g,e⟩:=aOa.mp o;have d:k<below xs j/\k<xs.size:=by simp at g;lia
  have n:xs[k]=x:=by simpa using e
  have q:=b k d.2 d.1;rcases aMf.mp f with z | z
  ·lia
  ·obtain⟨m,hm,p⟩:=aOa.mp z;have i:below xs j+m<xs.size:=by simp at hm;lia
   have r:xs[below xs j+m]=y:=by simpa using p
   have:=c _ i (by lia)
   lia
theorem N3(n:Nat):KQ (Array.range n):=by
 unfold KQ;rw[Array.toList_range];exact aOx
structure uG(l:Bool)(t:SetTable):Prop where
 ris:KQ t.place
 dum:t.dummies= #[]
 led:t.led=l
variable{l:Bool}{t:SetTable}
theorem uG.plain(h:uG l t)(b:Bool):uG l {t with plain:=b}:=⟨h.ris,h.dum,h.led⟩
theorem uG.fresh(f m:Nat)(l:Bool):uG l (.fresh f m l):=⟨by unfold KQ SetTable.fresh;simp,rfl,rfl⟩
theorem uG.LG(h:uG l t)(n:Nat):uG l (t.standIn n):=⟨N3 n,rfl,h.led⟩
theorem uG.XC(h:uG l t)(n:Nat):uG l (t.orStandIn n):=by
 unfold SetTable.orStandIn;split
 ·exact h
 ·exact h.LG n
theorem xA(h:t.dummies= #[])(j:Nat):t.slot j≠ .dummy:=by
 unfold SetTable.slot;simp only[h,SetTable.has];split
 ·exact λz=>by cases z
 ·simp
theorem FY{t:SetTable}(h:t.dummies= #[])(x:Int):∀(fuel:Nat) (p:Probe) (j:Nat) (d:Option Nat),p.dummy=none->probe.go t (λ_=>x+1) x fuel p=some (.empty j d)->t.slot j= .empty/\d=none
 | 0,p,j,d,_,e=>by simp[probe.go]at e
 | fuel+1,p,j,d,hp,e=>by
  unfold probe.go at e
  cases hs:t.slot p.j with
  | empty=>
   rw[hs]at e;simp at e;obtain⟨rfl,rfl⟩:=e;exact⟨hs,hp⟩
  | dummy=>exact absurd hs (xA h _)
  | live i=>
   rw[hs]at e;have:(x+1==x)=false:=by simp;lia
   simp only[this]at e;refine FY h x fuel _ j d ?_ e;unfold SetTable.advance;split <;> simp[hp]
theorem O9(h:t.dummies= #[]){x:Int}{b:Bool}(e:t.freeSlot x=some (j,b)):t.slot j= .empty:=by
 unfold SetTable.freeSlot at e
 cases hp:t.probe (λ_=>x+1) x (t.probeStart x) with
 | none=>rw[hp]at e;cases e
 | some m=>
  rw[hp]at e
  cases m with
  | candidate a b c=>cases e
  | empty k d=>
   obtain⟨f,g⟩:=FY h x _ _ k d rfl hp;subst g;simp at e;obtain⟨rfl,_⟩:=e;exact f
theorem IK(h:uG l t)(e:t.slot j= .empty):j∉t.place.toList:=by
 apply XM h.ris;intro z;unfold SetTable.slot at e;simp[z]at e
theorem uG.put(h:uG l t)(a:j∉t.place.toList):uG l (t.put j).1:=by
 unfold SetTable.put;refine⟨IS h.ris a,?_,h.led⟩;simp[h.dum,SetTable.has]
theorem uG.lay(h:uG l t)(es:Array (Int×Value))(x:Int)(v:Value):uG l (layNew t es x v).2.1:=by
 unfold layNew
 cases hf:t.freeSlot x with
 | none=>exact h.LG _
 | some p=>
  obtain⟨j,b⟩:=p;have:=h.put (IK h (O9 h.dum hf));exact this.XC _
theorem uG.aGo(h:uG l t)(es:Array (Int×Value))(n:Nat):uG l (relayAll t es n).2.1:=by
 unfold relayAll
 cases hr:t.relaid (es.map (·.1)) n with
 | none=>exact h.LG _
 | some p=>
  obtain⟨t',e⟩:=p;simp only;split
  ·unfold SetTable.relaid SetTable.laid at hr
   cases ho:layClean (sizeAbove n-1) (es.map (·.1)) with
   | none=>rw[ho]at hr;cases hr
   | some ow=>
    rw[ho]at hr;simp at hr;obtain⟨rfl,_⟩:=hr;refine⟨?_,rfl,h.led⟩;unfold KQ;simp only[List.map_filterMap];have:(List.range (sizeAbove n-1+1)).Pairwise (· < ·):=aOx;rw[List.pairwise_filterMap];refine this.imp_of_mem λ{a b} _ _ f x g y i=>?_;simp at g i;obtain⟨c,j,rfl⟩:=g;obtain⟨d,hd,rfl⟩:=i;exact f
  ·exact h.LG _
theorem oH{d g:Type}(f:d->g):∀{l:List g} {m:List g},l.Perm m->∀t:List d,m=t.map f->∃t' :List d,t'.Perm t/\t'.map f=l:=by
 intro l m p
 induction p with
 | nil=>
  intro t e
  cases t with
  | nil=>exact⟨[],.refl _,rfl⟩
  | cons a t=>cases e
 | cons x p ih=>
  intro t e
  cases t with
  | nil=>cases e
  | cons a t=>
   simp at e;obtain⟨t',c,h⟩:=ih t e.2;exact⟨a::t',c.cons a,by simp[e.1,h]⟩
 | swap x y l=>
  intro t e
  cases t with
  | nil=>cases e
  | cons a t=>
   cases t with
   | nil=>simp at e
   | cons b t=>
    simp at e;exact⟨b::a::t,.swap a b t,by simp[e]⟩
 | trans c i ih1 ih2=>
  intro t e;obtain⟨j,c,h⟩:=ih2 t e;obtain⟨k,i,n⟩:=ih1 j h.symm;exact⟨k,i.trans c,n⟩
section
variable {prog:Program}{w:World}{K:Type}[DecidableEq K](knd:KeyKind prog w K)
def Es(es:Array (Int×Value))(ks:List K):Prop:=
 ∃ps:List (K×(Int×Value)),ps.map (·.2)=es.toList/\(ps.map (·.1)).Perm ks/\∀p∈ps,knd.is p.1 p.2.2=true/\p.2.1=knd.hash p.1/\p.2.2.scannable=true
def qZ(l:Bool)(h:Heap)(a:Addr)(ks:List K):Prop:=
 ∃o es b t,h.get? a=some o/\o.ExactSet/\o.data= .set es b t/\Es knd es ks/\ks.Nodup/\es.size<scanBound/\t.fits es.size=true/\uG l t
variable {knd}
variable{es es':Array (Int×Value)}{ks:List K}
theorem Es.perm(h:Es knd es ks)(p:es'.toList.Perm es.toList):Es knd es' ks:=by
 obtain⟨ps,c,d,e⟩:=h;obtain⟨a,b,f⟩:=oH (·.2) p ps c.symm;exact⟨a,f,(b.map _).trans d,λp g=>e p (b.mem_iff.mp g)⟩
theorem Es.size(h:Es knd es ks):es.size=ks.length:=by
 obtain⟨ps,c,d,e⟩:=h;have a:=aN5 List.length c;have b:=d.length_eq;simp at a b
 lia
theorem Es.elems(h:Es knd es ks):ElemsOf knd es.toList:=by
 obtain⟨ps,d,i,f⟩:=h;intro e he;rw[<-d]at he;obtain⟨p,g,rfl⟩:=aMd.mp he;obtain⟨a,b,c⟩:=f p g;exact⟨⟨p.1,a,b⟩,c⟩
theorem Es.mem(h:Es knd es ks)(k:K):k∈ks↔∃e∈es.toList,knd.is k e.2=true:=by
 obtain⟨ps,d,f,c⟩:=h;rw[<-f.mem_iff,<-d];constructor
 ·intro b;obtain⟨p,a,rfl⟩:=aMd.mp b;exact⟨p.2,aMd.mpr ⟨p,a,rfl⟩,(c p a).1⟩
 ·rintro⟨e,he,b⟩;obtain⟨p,a,rfl⟩:=aMd.mp he;exact aMd.mpr ⟨p,a,knd.inj _ _ _ (c p a).1 b⟩
theorem Es.push(h:Es knd es ks){k:K}{x:Value}(a:knd.is k x=true)(b:x.scannable=true):Es knd (es.push (knd.hash k,x)) (ks++[k]):=by
 obtain⟨ps,c,d,e⟩:=h;refine⟨ps++[(k,(knd.hash k,x))],by simp[c],by simpa using d.append_right [k],λp hp=>?_⟩;rcases aMi.mp hp with hp | hp
 ·exact e p hp
 ·simp at hp;subst hp;exact⟨a,rfl,b⟩
variable{a:Addr}
theorem qZ.keep{h h' :Heap}(x:qZ knd l h a ks)(k:∀o,h.get? a=some o->h'.get? a=some o):qZ knd l h' a ks:=let ⟨o,es,ep,t,ho,r⟩:=x;⟨o,es,ep,t,k o ho,r⟩
theorem store{h:Heap}{o:Obj}{b:Nat}(ho:h.get? a=some o)(hex:o.ExactSet)(hd:o.data= .set es b t)
   {t' :SetTable}  (he:Es knd es' ks) (nd:ks.Nodup) (c:es'.size<scanBound) (d:t'.fits es'.size=true) (ht:uG l t'):
  (h.update a (Obj.putSet es' t')).get? a=some {o with data:= .set es' (b+1) t'}/\qZ knd l (h.update a (Obj.putSet es' t')) a ks:=by
 have hg:(h.update a (Obj.putSet es' t')).get? a=some {o with data:= .set es' (b+1) t'}:=by
  have:=aNn (Obj.putSet es' t') ho (by rw[putSet_of es' t' hd];rfl);rw[putSet_of es' t' hd]at this;exact this
 exact⟨hg,_,es',b+1,t',hg,hex,rfl,he,nd,c,d,ht⟩
variable {A:Around}{E:aPv}{s:Shared}
theorem NG{g:Bool->Sem Unit}(hg:∀(b:Bool) (f:Shared) (B :Unit->Shared->Prop),B () f->wpAny (model prog w) A (g b) B E f)
   {o:Obj}  {C:Nat}  (ho:s.heap.get? a=some o) (hex:o.ExactSet) (hd:o.data= .set es C t)
  {c:Array (Int×Value)} {e:SetTable}  (he:Es knd c ks) (nd:ks.Nodup)
  (j:c.size<scanBound) (u:e.fits c.size=true) (ht:uG l e) {d:Bool} {R:Option Bool->Shared->Prop}
  (h:∀h',Heap.SameBut a s.heap h' ->qZ knd l h' a ks->R (some true) {s with heap:=h'}):
  wpAny (model prog w) A (do
    storeSet a c e
    if (!d && e.tooFull)=true then do
      g (relayAll e c (SetTable.grown c.size)).2.2
      storeSet a (relayAll e c (SetTable.grown c.size)).1 (relayAll e c (SetTable.grown c.size)).2.1
      pure (some true)
     else pure (some true)) R E s:=by
 refine aM3 (wpAny_storeSet_of ho hd ?_ (fits_of_scanBound j));obtain⟨n,v⟩:=store (knd:=knd) ho hex hd he nd j u ht;have i:=aN0 s.heap a (Obj.putSet c e);split
 ·have r:=relayAll_perm e c (SetTable.grown c.size);have k:=relayAll_fits e c (SetTable.grown c.size);have m:=ht.aGo c (SetTable.grown c.size);generalize D:relayAll e c (SetTable.grown c.size)=Rl at r k m⊢;obtain⟨p,F,x⟩:=Rl;dsimp only at r k m⊢;have y:=he.perm r;have hsz:p.size=c.size:=by rw[<-Array.length_toList,r.length_eq,Array.length_toList]
  have q:p.size<scanBound:=by rw[hsz];exact j
  refine aM3 (hg _ _ _ ?_);refine aM3 (wpAny_storeSet_of n rfl ?_ (fits_of_scanBound q));obtain⟨_,z⟩:=store (knd:=knd) n hex rfl y nd q k m;exact aM4 (h _ (i.trans (aN0 _ a _)) z)
 ·exact aM4 (h _ i v)
def nE(ks:List K)(k:K):List K:=if k∈ks then ks else ks++[k]
theorem PY{k:K}{x:Value}{Q:Bool->Shared->Prop}(m:knd.is k x=true)(hsc:x.scannable=true)(P:qZ knd l s.heap a ks)
  (r:ks.length+1<scanBound) (h:∀(b:Bool) h',Heap.SameBut a s.heap h' ->qZ knd l h' a (nE ks k)->Q b {s with heap:=h'}):
  wpAny (model prog w) A (setAddHashed a x (knd.hash k)) Q E s:=by
 obtain⟨o,es,R,t,ho,hex,hd,he,nd,B,I,ht⟩:=P;have S:=he.size;have C:=he.elems;have n:=he.mem;have J:es.size+1<scanBound:=by rw[S];exact r
 unfold setAddHashed setAddHashedIn;refine aMv (aM3 (aNv ho hd I ?_));dsimp only;rw[byScan_of hsc B C];simp only[↓reduceIte];unfold setAddByScan;refine aM3 ?_;refine aM3 (aN4 ?_);refine aM3 (wpAny_setScan_of m ho hd I C ?_)
 cases hr:List.findIdx? (λe=>knd.is k e.2) es.toList with
 | some j=>
  dsimp only;obtain⟨T,M,_⟩:=aNq.mp hr;have i:k∈ks:=(n k).mpr ⟨es.toList[j],List.getElem_mem T,M⟩;refine aM4 (aM4 ?_);have e:s={s with heap:=s.heap}:=by cases s;rfl
  have:=h false s.heap (Heap.SameBut.refl a s.heap) ⟨o,es,R,t,ho,hex,hd,by unfold nE;rw[if_pos i];exact he,by unfold nE;rw[if_pos i];exact nd,B,I,ht⟩;rw[e];exact this
 | none=>
  dsimp only
  have i:k∉ks:=λU=>by
   obtain⟨e,he,V⟩:=(n k).mp U;have:=List.findIdx?_eq_none_iff.mp hr e he;rw[V]at this;exact Bool.noConfusion this
  have N:∀(b:Bool) {f:Shared} {D :Unit->Shared->Prop},D () f->wpAny (model prog w) A (match b with | true=>rule "set.scan.the-table-gave-way" | false=>pure ()) D E f:=
   λb f D p=>by cases b <;> first | exact aM4 p | exact aN4 p
  have d:=layNew_perm t es (knd.hash k) x;have c:=layNew_fits t es (knd.hash k) x;have g:=ht.lay es (knd.hash k) x;generalize W:layNew t es (knd.hash k) x=L at d c g⊢;obtain⟨F,X,y,O⟩:=L;dsimp only at d c g⊢;have G:Es knd F (nE ks k):=by unfold nE;rw[if_neg i];exact(he.push m hsc).perm d
  have H:(nE ks k).Nodup:=by
   unfold nE;rw[if_neg i,List.nodup_append];exact⟨nd,by simp,λa ha b B=>by simp at B;subst B;exact λz=>i (z▸ha)⟩
  have q :F.size<scanBound:=by rw[<-Array.length_toList,d.length_eq,Array.length_toList,Array.size_push];exact J
  refine aM3 (N _ ?_);split
  ·refine aM3 ?_;rw[hashByValue_scannable 8 hsc];refine aM4 ?_;refine NG (l:=l) ?_ ho hex hd G H q ?_ ?_ ?_
   ·intro b f D p;cases b <;> first | exact aM4 p | exact aN4 p
   ·split
    ·exact c
    ·exact SetTable.fits_plain_off c
   ·split
    ·exact g
    ·exact g.plain false
   ·intro h' u v;dsimp only;exact aM4 (h _ h' u v)
  ·refine aM3 (aM4 ?_);simp only[↓reduceIte];refine NG (l:=l) ?_ ho hex hd G H q c g ?_
   ·intro b f D p;cases b <;> first | exact aM4 p | exact aN4 p
   ·intro h' u v;dsimp only;exact aM4 (h _ h' u v)
end
open PySem.Spec
def gK(w:World):Bool:= !(w.params.followText "set-order")
section
variable {prog:Program}{w:World}{K:Type}[DecidableEq K]{knd:KeyKind prog w K}{A:Around}{E:aPv}{s:Shared}
theorem yN{h:Heap}{a:Addr}(ho:h.get? a=some {cls:= .type "set",dict:=none,data:= .set #[] 0 (.fresh 0 0 (gK w))}):qZ knd (gK w) h a []:=
 ⟨_,#[],0,_,ho,⟨rfl,rfl,rfl⟩,rfl,⟨[],rfl,by simp,λp b=>by cases b⟩,by simp,by decide,by rfl,.fresh 0 0 _⟩
def cR(ks:List K)(xs:List K):List K:=xs.foldl nE ks
theorem U4(ks:List K)(k:K):(nE ks k).length<=ks.length+1:=by unfold nE;split <;> simp
theorem qX:∀(xs ks:List K),(cR ks xs).length<=ks.length+xs.length
 | [],ks=>by simp[cR]
 | x::xs,ks=>by
  have a:=qX xs (nE ks x);have b:=U4 ks x;simp only[cR,List.foldl_cons,List.length_cons]at*
  lia
theorem SF{ks:List K}{k j:K}:j∈nE ks k↔j∈ks\/j=k:=by
 unfold nE;split
 ·rename_i h;exact⟨.inl,λz=>z.elim id λe=>e▸h⟩
 ·simp
theorem x8{j:K}:∀{xs ks:List K},j∈cR ks xs↔j∈ks\/j∈xs
 | [],ks=>by simp[cR]
 | x::xs,ks=>by
  have:=x8 (j:=j) (xs:=xs) (ks:=nE ks x);simp only[cR,List.foldl_cons]at*;rw[this,SF];simp[or_assoc]
theorem R6(a:Value){Q₁:aPv}
  (h:Q₁ (.ref s.heap.objs.size) {s with heap:=s.heap.push {cls:= .type "set",dict:=none,data:= .set #[] 0 (.fresh 0 0 (gK w))}}):
  codeAny (model prog w) A (.call (.builtin "set.__new__") ⟨[.type "set",a],[]⟩) (wants Q₁ E) s:=by
 refine codeAny_of_tree ?_;show wpAny _ A.in1 (do checkBuiltinCall "set.__new__" ⟨[.type "set",a],[]⟩;again (.builtin "set.__new__" ⟨[.type "set",a],[]⟩)) _ _ s;refine aM3 (wpAny_of_eq (F.newCall_set_1 a) (aM4 ⟨aP9 F.plain_set_new _,aO5 F.entry_set_new ?_⟩));rw[Around.under_plainId F.plain_set_new _];unfold Builtin.«set.__new__» Builtin.Frozenset.newClass;have b:=sub_set_self;obtain⟨c,g,d,e,os⟩:=s;dsimp only
 wp_walk
 refine aP6 (aM4 ?_);dsimp only;simp only[newObj];refine aM3 (wpAny_alloc (aM4 ?_));exact aM4 h
end
section
variable {prog:Program}{w:World}{K:Type}[DecidableEq K]{knd:KeyKind prog w K}{A:Around}{R:Result->Shared->Prop}{I:Addr}{fp wr:List Addr}{G:Array GenState->Array GenState->Prop}{n:Nat}{P:Nat->Value->Prop}{St:Nat->Shared->Prop}
theorem uR(W:WalksS prog w A.in1 I fp wr G n P St)(S:Addr)(l:S∉fp)(V:Nat->Heap->Prop)(a:∀i h h',V i h->(∀b o,b∉wr->h.get? b=some o->h'.get? b=some o)->V i h')
  (m:∀i v (s:Shared) (J :aPv) (H :Bool->Shared->Prop),i<n->P i v->V i s.heap->(∀r y h',s.toks<=y->Heap.SameBut S s.heap h' ->V (i+1) h' ->H r {s with heap:=h',toks:=y})->wpAny (model prog w) A.in1 (setAdd S v) H J s):
  ∀(k i:Nat) (s:Shared),n-i=k->i<=n->St i s->V i s.heap->
   (∀c,Moved (S::wr) G s c ->V n c.heap->R (.ok (.ret .none)) c)->
   codeAny (model prog w) A (.builtin "set.update.loop" ⟨[.ref S,.ref I],[]⟩) R s:=by
 have K:S∉wr:=λh=>l (W.sub _ h);have f:∀b∈wr,b∈S::wr:=λb d=>aM9 _ d;intro k
 induction k with
 | zero=>
  intro i s L hi g z B;have C:i=n:=by lia
  subst C;refine aO5 aOj ?_;rw[Around.under_plainId PyProof.Rows.F.plain_set_update_loop _];show wpAny _ A.in1 (pyNext (.ref I) >>=_) _ _ s;refine aM3 (W.done s _ _ g λc hm=>?_);show wpAny _ A.in1 (ret Value.none) _ _ c;exact aM4 (B c (hm.mono f) (a _ _ _ z λb o d e=>hm.heap b o d e))
 | succ k ih=>
  intro i s L hi g z B;have j:i<n:=by lia
  refine aO5 aOj ?_;rw[Around.under_plainId PyProof.Rows.F.plain_set_update_loop _];show wpAny _ A.in1 (pyNext (.ref I) >>=_) _ _ s;refine aM3 (W.item i s _ _ j g λv c M p hm=>?_);show wpAny _ A.in1 (holding [v] (setAdd S v) >>=_) _ _ c;refine aM3 (aMv ?_);refine m i v c _ _ j M (a _ _ _ z λb o d e=>hm.heap b o d e) λr y h' q t D=>?_;refine aM4 ⟨aP9 PyProof.Rows.F.plain_set_update_loop _,ih (i+1) _ (by lia) j (W.frame _ c _ _ p q λb d o e=>?_) D λE u x =>?_⟩
  ·rw[t.2 b (λh:b=S=>l (by rw[<-h];exact d))];exact e
  ·refine B E (Moved.trans W.gtrans ((hm.mono f).then_heap q λb o d e=>?_) u) x;rw[t.2 b (λh:b=S=>d (by rw[h];exact List.mem_cons_self))];exact e
end
section
variable {prog:Program}{w:World}{K:Type}[DecidableEq K]{knd:KeyKind prog w K}{A:Around}{E:aPv}{s:Shared}
variable{items:Array Value}
theorem aB7{l:Addr}{Q:aPv}
  (hh:A.handled=none) (hl:s.heap.IsList l items\/s.heap.IsTuple l items) (V:Nat->Heap->Prop) (m:∀i h h',V i h->(∀b o,b≠s.heap.objs.size+1->h.get? b=some o->h'.get? b=some o)->V i h')
  (B:∀i v (f :Shared) (N :aPv) (L :Bool->Shared->Prop),items[i]? =some v->V i f.heap->(∀r y h',f.toks<=y->Heap.SameBut s.heap.objs.size f.heap h' ->V (i+1) h' ->L r {f with heap:=h',toks:=y})->wpAny (model prog w) A.in1.in1.in1 (setAdd s.heap.objs.size v) L N f)
  (h0:∀h',h'.get? s.heap.objs.size=some {cls:= .type "set",dict:=none,data:= .set #[] 0 (.fresh 0 0 (gK w))}->(∀b o,s.heap.get? b=some o->h'.get? b=some o)->V 0 h')
  (h:∀(h' :Heap) (y:Nat),V items.size h' ->
   (∀b o,b<s.heap.objs.size->s.heap.get? b=some o->h'.get? b=some o)->Q (.ref s.heap.objs.size) {s with heap:=h',toks:=y}):
  wpAny (model prog w) A (call (.type "set") [.ref l]) Q E s:=by
 obtain⟨c,tl,hmro⟩:=aO1.mro;have Z:=aO1.made;have hsub:=aO1.sub;refine wpAny_call (codeAny_of_tree ?_);show wpAny _ _ (callAny (.type "set") _) _ _ _;refine aM4 ⟨Code.quiet_builtin _ (by decide+kernel),aO5 F.entry_type_call ?_⟩;rw[Around.under_plain (weight_type_call_type "set" [.ref l] []) rfl];have h1:=aO1.notType;have h2:=aO1.canCreate;have hct:=F.typeCall_set_1 (.ref l)
 repeat (any_goals (first | assumption | wp_step))
 refine aOu (R6 (.ref l) (E:=E) (Q₁:=λobj C=>obj= .ref s.heap.objs.size/\C={s with heap:=s.heap.push {cls:= .type "set",dict:=none,data:= .set #[] 0 (.fresh 0 0 (gK w))}}) ⟨rfl,rfl⟩) λr C hr=>?_
 cases r with
 | error e=>exact hr
 | ok fl=>
  cases fl with
  | ret obj=>
   obtain⟨rfl,rfl⟩:=hr;generalize hled:gK w=led at*;have hS:(s.heap.push {cls:= .type "set",dict:=none,data:= .set #[] 0 (.fresh 0 0 led)}).get? s.heap.objs.size=some {cls:= .type "set",dict:=none,data:= .set #[] 0 (.fresh 0 0 led)}:=aMa _ rfl
   have hT:Shared.TypeIs {s with heap:=s.heap.push {cls:= .type "set",dict:=none,data:= .set #[] 0 (.fresh 0 0 led)}} (.ref s.heap.objs.size) "set":=⟨_,hS,rfl⟩
   have hli:=aO1.init.lookup;have hbi:=aO1.init.bind (.ref s.heap.objs.size)
   repeat (any_goals (first | assumption | wp_step))
   refine aOu (codeAny_call_builtin (R:=wants (λr D=>r= .none/\∃h' y,D={s with heap:=h',toks:=y}/\
     V items.size h' /\
     (∀b o,b<s.heap.objs.size->s.heap.get? b=some o->h'.get? b=some o)) E) aO1.init.plain F.entry_set_init (check_set_init_1 hT ?_)) λO D g=>?_
   ·have P:l<s.heap.objs.size:=by rcases hl with ⟨o,e,_⟩ | ⟨o,e,_⟩ <;> exact aMb e
    have S:A.in1.in1.in1.handled=none:=by simp[hh]
    have G:l≠(s.heap.push {cls:= .type "set",dict:=none,data:= .set #[] 0 (.fresh 0 0 led)}).objs.size:=by
     rw[Heap.size_push];exact aMg (aMw P)
    have T:s.heap.objs.size∉[(s.heap.push {cls:= .type "set",dict:=none,data:= .set #[] 0 (.fresh 0 0 led)}).objs.size,l]:=by
     rw[Heap.size_push];simp only[List.mem_cons,List.mem_singleton,List.not_mem_nil,or_false,not_or];exact⟨aMg (aMt _),aNc P⟩
    have hw:∀b,b∉[(s.heap.push {cls:= .type "set",dict:=none,data:= .set #[] 0 (.fresh 0 0 led)}).objs.size]↔b≠s.heap.objs.size+1:=λb=>by rw[Heap.size_push];simp
    have hR:∀(io:Obj) (f :Shared),Moved [s.heap.objs.size,(s.heap.push {cls:= .type "set",dict:=none,data:= .set #[] 0 (.fresh 0 0 led)}).objs.size] (λa b=>b=a) {s with heap:=(s.heap.push {cls:= .type "set",dict:=none,data:= .set #[] 0 (.fresh 0 0 led)}).push io} f ->V items.size f.heap->
      ∃h' y,f ={s with heap:=h',toks:=y}/\V items.size h' /\∀b o,b<s.heap.objs.size->s.heap.get? b=some o->h'.get? b=some o:=λio f hm z=>by
     obtain⟨h',g',d',n,os'⟩:=f;have eg:g' =s.gens:=hm.gens;have ed:d' =s.drawn:=hm.drawn;have eo:os' =s.os:=hm.os;subst eg;subst ed;subst eo;refine⟨h',n,rfl,z,λb o M e=>?_⟩;have hb1:b≠s.heap.objs.size:=aMg M
     have hb2:b≠(s.heap.push {cls:= .type "set",dict:=none,data:= .set #[] 0 (.fresh 0 0 led)}).objs.size:=by
      rw[Heap.size_push];exact aMg (aMw M)
     exact hm.heap b o (by simp only[List.mem_cons,List.mem_singleton,List.not_mem_nil,or_false,not_or];exact⟨hb1,hb2⟩) (aM5 _ (aM5 _ e))
    rcases hl with hl | hl
    ·obtain⟨ol,H,p,U,q⟩:=hl;obtain⟨W,j,I,d⟩:=ol;simp only at p q;subst p;subst q;have t :(s.heap.push {cls:= .type "set",dict:=none,data:= .set #[] 0 (.fresh 0 0 led)}).get? l=some {cls:= .type "list",dict:=j,data:= .seq items U,slots:=d}:=aM5 _ H;have X:=F.sub_list_set;have Y:=F.sub_list_frozenset;have hne:(Value.type "list"==Value.type "dict")=false:=by decide
     have u:(s.heap.push {cls:= .type "set",dict:=none,data:= .set #[] 0 (.fresh 0 0 led)}).IsList l items:=⟨_,t,rfl,U,rfl⟩
     unfold Builtin.«set.__init__» noKeywords Builtin.Frozenset.updateFrom;generalize J:pyIter=PI
     wp_walk
     subst J;refine aOy u ?_;refine aM3 (wpAny_runValue ?_)
     exact uR ((Walks.list S _ l G items).toS) s.heap.objs.size T V (λi h h' v k=>m i h h' v λb o M e=>k b o ((hw b).mpr M) e) (λi v f N L _ hP z hq=>B i v f N L hP z hq) (items.size-0) 0 _ (by lia) (aN9 _)
      ⟨⟨_,aMa _ rfl,rfl,rfl⟩,(u.push _)⟩ (h0 _ (aM5 _ hS) λb o e=>aM5 _ (aM5 _ e)) λf hm z=>by
       obtain⟨h',n,rfl,K,x⟩:=hR _ _ hm z;exact aM4 (aM4 ⟨rfl,h',n,rfl,K,x⟩)
    ·obtain⟨ol,H,p,U,q⟩:=hl;obtain⟨W,j,I,d⟩:=ol;simp only at p q;subst p;subst q;have t :(s.heap.push {cls:= .type "set",dict:=none,data:= .set #[] 0 (.fresh 0 0 led)}).get? l=some {cls:= .type "tuple",dict:=j,data:= .seq items U,slots:=d}:=aM5 _ H;have X:isSubtype (.type "tuple") (.type "set")=pure false:=by rw[isSubtype_type];kernel_rfl
     have Y:isSubtype (.type "tuple") (.type "frozenset")=pure false:=by rw[isSubtype_type];kernel_rfl
     have hne:(Value.type "tuple"==Value.type "dict")=false:=by decide
     have u:(s.heap.push {cls:= .type "set",dict:=none,data:= .set #[] 0 (.fresh 0 0 led)}).IsTuple l items:=⟨_,t,rfl,U,rfl⟩
     unfold Builtin.«set.__init__» noKeywords Builtin.Frozenset.updateFrom;generalize J:pyIter=PI
     wp_walk
     subst J;refine aOq u ?_;refine aM3 (wpAny_runValue ?_)
     exact uR ((Walks.tuple S _ l G items).toS) s.heap.objs.size T V (λi h h' v k=>m i h h' v λb o M e=>k b o ((hw b).mpr M) e) (λi v f N L _ hP z hq=>B i v f N L hP z hq) (items.size-0) 0 _ (by lia) (aN9 _)
      ⟨⟨_,aMa _ rfl,rfl,rfl⟩,(u.push _)⟩ (h0 _ (aM5 _ hS) λb o e=>aM5 _ (aM5 _ e)) λf hm z=>by
       obtain⟨h',n,rfl,K,x⟩:=hR _ _ hm z;exact aM4 (aM4 ⟨rfl,h',n,rfl,K,x⟩)
   ·cases O with
    | error e=>exact g
    | ok fl₂=>
     cases fl₂ with
     | ret r=>
      obtain⟨rfl,h',y,rfl,hS',x⟩:=g
      repeat (any_goals (first | assumption | wp_step))
      exact h _ _ hS' x
     | _=>exact g.elim
  | _=>exact hr.elim
theorem NX{l:Addr}{xs:List K}{Q:aPv}
  (p:A.handled=none) (r:s.heap.IsList l items) (x:xs.length=items.size) (hi:∀(i:Nat) (v:Value),items[i]? =some v->∃k,xs[i]? =some k/\knd.is k v=true/\v.scannable=true) (t:∀i,(cR [] (xs.take i)).length+1<scanBound)
  (h:∀(h' :Heap) (d:Nat),qZ knd (gK w) h' s.heap.objs.size (cR [] xs)->
   (∀b o,b<s.heap.objs.size->s.heap.get? b=some o->h'.get? b=some o)->Q (.ref s.heap.objs.size) {s with heap:=h',toks:=d}):
  wpAny (model prog w) A (call (.type "set") [.ref l]) Q E s:=by
 refine aB7 p (.inl r) (λi h=>qZ knd (gK w) h s.heap.objs.size (cR [] (xs.take i))) (λi h h' v k=>v.keep λo e=>k _ o (aMg (aMt _)) e) (λi v f y z u c q=>?_) (λh' e _=>yN e) λh' d c k=>h h' d (by rw[List.take_of_length_le (by lia)]at c;exact c) k;obtain⟨g,j,a,hsc⟩:=hi i v u;unfold setAdd;refine aMv (aM3 (knd.pyHash (k:=g) a ?_));refine PY (s:={f with toks:=f.toks+1}) a hsc c (t i) λb h' m n=>q b (f.toks+1) h' (aOs _) m ?_;rw[List.take_add_one,j];simpa[cR] using n
theorem set_list{l:Addr}{xs:List K}{Q:aPv}
  (a:A.handled=none) (c:s.heap.IsList l items) (d:xs.length=items.size) (hi:∀(i:Nat) (v:Value),items[i]? =some v->∃k,xs[i]? =some k/\knd.is k v=true/\v.scannable=true) (f:items.size+1<scanBound)
  (h:∀(h' :Heap) (e:Nat),qZ knd (gK w) h' s.heap.objs.size (cR [] xs)->
   (∀b o,b<s.heap.objs.size->s.heap.get? b=some o->h'.get? b=some o)->Q (.ref s.heap.objs.size) {s with heap:=h',toks:=e}):
  wpAny (model prog w) A (call (.type "set") [.ref l]) Q E s:=
 NX a c d hi (λi=>by have:=qX (xs.take i) [];simp at this;lia) h
end
theorem slot_next:Slot "set_iterator" "__next__" "set_iterator.__next__":=
 .of (owner:= "set_iterator") (n:= "__next__") (by rw[typeLookup_type,builtinLookup_eq_fast];kernel_rfl) (by decide+kernel) (by decide+kernel) (by decide+kernel)
  (by first | exact .inl (by decide+kernel) | exact .inr (by decide+kernel)) (by rw[isSubtype_type];kernel_rfl)
theorem AZ:Slot "set_iterator" "__iter__" "set_iterator.__iter__":=
 .of (owner:= "set_iterator") (n:= "__iter__") (by rw[typeLookup_type,builtinLookup_eq_fast];kernel_rfl) (by decide+kernel) (by decide+kernel) (by decide+kernel)
  (by first | exact .inl (by decide+kernel) | exact .inr (by decide+kernel)) (by rw[isSubtype_type];kernel_rfl)
theorem entry_next:entryFor table "set_iterator.__next__"=some Builtin.«set_iterator.__next__»:=entryFor_of_tree (by kernel_rfl)
theorem F0:Manifest.owners.lookup (String.ofList "rotareti_tes".toList.reverse)=some Manifest.sig_set_iterator:=by kernel_rfl
theorem args_next(a:Value):argsOk "set_iterator.__next__" ⟨[a],[]⟩:=by
 unfold argsOk;rw[signature?_of (id:= "set_iterator.__next__") (n:= "__txen__".toList) (o:= "rotareti_tes".toList) (by kernel_rfl) F0];kernel_rfl
theorem yR:entryFor table "set.__iter__"=some Builtin.«frozenset.__iter__»:=
 entryFor_alias (id' := "frozenset.__iter__") (by kernel_rfl) rfl (by decide+kernel) (by kernel_rfl)
def oP(first:Value)(i:Nat)(a:Addr)(n b:Nat):Obj:={cls:= .type "set_iterator",dict:=none,data:= .fields #[first,.int i 0,.ref a,.int n 0,.int b 0],slots:= #[]}
section
variable {prog:Program}{w:World}{A:Around}{E:aPv}{s:Shared}{it a:Addr}{first:Value}{i ep n:Nat}{o:Obj}{es:Array (Int×Value)}{t:SetTable}
variable{Q:Option Value->Shared->Prop}
theorem R5{slot nx:Nat}{x:Value}(b:s.heap.get? it=some (oP (.int slot 0) i a es.size ep))(ho:s.heap.get? a=some o)(hd:o.data= .set es ep t)(c:t.fits es.size=true)
  (hN:∀(A:Around) (E:aPv) (Q:Option (Value×Nat)->Shared->Prop),Q (some (x,nx)) s->wpAny (model prog w) A (setNext a slot i ep) Q E s)
  (q:∀h',h'.get? it=some (oP (.int nx 0) (i+1) a es.size ep)->Heap.SameBut it s.heap h' ->Q (some x) {s with heap:=h'}):wpAny (model prog w) A (pyNext (.ref it)) Q E s:=by
 have ht:s.TypeIs (.ref it) "set_iterator":=⟨_,b,rfl⟩
 unfold pyNext;refine aM3 (aNl (aMo (name:=Str.ofString "__next__") ht slot_next (aMk slot_next ht entry_next ?_ (args_next _))));unfold Builtin.«set_iterator.__next__»;refine aM3 (m:=slotArgs "__next__" 0 _) (aM4 ?_);refine aM3 (aPh b rfl ?_);dsimp only;refine aM3 (aNx ho hd c ?_);rw[if_neg (show ¬(((es.size:Int) !=(es.size:Int))=true) by simp)];simp only[Int.toNat_natCast];refine aM3 (hN _ _ _ ?_);dsimp only;refine aM3 (aMp b (by simp) λg d k1=>?_);refine aM3 (aMp d (by simp) λe f k2=>?_);refine aM4 ⟨x,rfl,aM4 (q e ?_ (k1.trans k2))⟩;rw[f];simp[oP,rawInt]
theorem AY{B:Around}(f:B.handled=none)(h:∀h',(∀b u,s.heap.get? b=some u->h'.get? b=some u)->Q none {s with heap:=h'}):
  wpAny (model prog w) B (do let e<-newExc (.type "StopIteration") [];raiseNew e) (λ(c:Fin) d =>∃v,c=Fin.done (Flow.ret v)/\wpAny (model prog w) A (pure (some v)) Q E d)
   (λe d =>wpAny (model prog w) A (do let b<-isInstance e (Value.type "StopIteration");if b=true then pure none else throw e) Q E d) s:=by
 refine aM3 ?_;simp only[newExc,newTuple];refine aM3 (aMs ?_ (by size_fits));refine aM3 (m:=firstArgMember _ _) (wpAny_of_eq (a:=Value.none) (by first | rfl | (simp only[firstArgMember];rfl)) ?_);refine aMs ?_ (by size_fits);simp only[raiseNew];refine aM3 (wpAny_handled ?_);rw[f];refine aM3 (aM4 (wpAny_throw ?_));refine aM3 (aNy (T:= "StopIteration") (b:=true) ⟨_,aMa _ rfl,rfl⟩ isSubtype_stop ?_);exact aM4 (h _ λb u e=>aM5 _ (aM5 _ e))
theorem C6{slot:Nat}(d:A.handled=none)(c:s.heap.get? it=some (oP (.int slot 0) i a es.size ep))(ho:s.heap.get? a=some o)(hd:o.data= .set es ep t)(f:t.fits es.size=true)
  (hN:∀(A:Around) (E:aPv) (Q:Option (Value×Nat)->Shared->Prop),Q none s->wpAny (model prog w) A (setNext a slot i ep) Q E s)
  (q:∀h',Heap.ExtBut it s.heap h' ->Q none {s with heap:=h'}):wpAny (model prog w) A (pyNext (.ref it)) Q E s:=by
 have ht:s.TypeIs (.ref it) "set_iterator":=⟨_,c,rfl⟩
 unfold pyNext;refine aM3 (aNl (aMo (name:=Str.ofString "__next__") ht slot_next (aMk slot_next ht entry_next ?_ (args_next _))));unfold Builtin.«set_iterator.__next__»;refine aM3 (m:=slotArgs "__next__" 0 _) (aM4 ?_);refine aM3 (aPh c rfl ?_);dsimp only;refine aM3 (aNx ho hd f ?_);rw[if_neg (show ¬(((es.size:Int) !=(es.size:Int))=true) by simp)];simp only[Int.toNat_natCast];refine aM3 (hN _ _ _ ?_);dsimp only;refine aM3 (aMp c (by simp) λg j k1=>?_);exact AY (B:=A.in1) (s:={s with heap:=g}) (show A.in1.handled=none from d) λh' k=>q h' λb u h e=>k b u ((k1.2 b h).trans e)
theorem R0{tp:Addr}{d:Nat}{ns:List Nat}{x:Value}(b:s.heap.get? it=some (oP (.ref tp) i a es.size ep))(ho:s.heap.get? a=some o)(hd:o.data= .set es ep t)(l:t.fits es.size=true)
  (e:s.heap.IsTuple tp (ns.map λ(k:Nat)=>rawInt k).toArray) (f:ns[i]? =some d) (n:(es[d]?).map (·.2)=some x)
  (q:∀h',h'.get? it=some (oP (.ref tp) (i+1) a es.size ep)->Heap.SameBut it s.heap h' ->Q (some x) {s with heap:=h'}):wpAny (model prog w) A (pyNext (.ref it)) Q E s:=by
 have ht:s.TypeIs (.ref it) "set_iterator":=⟨_,b,rfl⟩
 obtain⟨z,g,_,B,h⟩:=e;obtain⟨⟨p,r⟩,j,c⟩:=aN1.mp n;simp only at c;subst c;unfold pyNext;refine aM3 (aNl (aMo (name:=Str.ofString "__next__") ht slot_next (aMk slot_next ht entry_next ?_ (args_next _))));unfold Builtin.«set_iterator.__next__»;refine aM3 (m:=slotArgs "__next__" 0 _) (aM4 ?_);refine aM3 (aPh b rfl ?_);dsimp only;refine aM3 (aNx ho hd l ?_);rw[if_neg (show ¬(((es.size:Int) !=(es.size:Int))=true) by simp)];refine aM3 (aN2 g h ?_);dsimp only;have u:(ns.map λ(k:Nat)=>rawInt k).toArray[(i:Int).toNat]? =some (Value.int d 0):=by simp[f,rawInt]
 rw[u];dsimp only;simp only[Int.toNat_natCast];refine aM3 (m:=setNextDrawn a d ep) ?_;unfold setNextDrawn;refine aM3 (aNv ho hd l ?_);dsimp only;rw[if_neg (by simp)];rw[j];dsimp only;refine aM4 ?_;refine aM3 (aMp b (by simp) λv y k2=>?_);refine aM4 ⟨r,rfl,aM4 (q v ?_ k2)⟩;rw[y];simp[oP,rawInt]
theorem C4{tp:Addr}{ns:List Nat}(j:A.handled=none)(c:s.heap.get? it=some (oP (.ref tp) i a es.size ep))(ho:s.heap.get? a=some o)(hd:o.data= .set es ep t)(l:t.fits es.size=true)
  (d:s.heap.IsTuple tp (ns.map λ(k:Nat)=>rawInt k).toArray) (f:ns[i]? =none)
  (q:∀h',Heap.ExtBut it s.heap h' ->Q none {s with heap:=h'}):wpAny (model prog w) A (pyNext (.ref it)) Q E s:=by
 have ht:s.TypeIs (.ref it) "set_iterator":=⟨_,c,rfl⟩
 obtain⟨x,g,_,y,h⟩:=d;unfold pyNext;refine aM3 (aNl (aMo (name:=Str.ofString "__next__") ht slot_next (aMk slot_next ht entry_next ?_ (args_next _))));unfold Builtin.«set_iterator.__next__»;refine aM3 (m:=slotArgs "__next__" 0 _) (aM4 ?_);refine aM3 (aPh c rfl ?_);dsimp only;refine aM3 (aNx ho hd l ?_);rw[if_neg (show ¬(((es.size:Int) !=(es.size:Int))=true) by simp)];refine aM3 (aN2 g h ?_);dsimp only;have n:(ns.map λ(k:Nat)=>rawInt k).toArray[(i:Int).toNat]? =none:=by simpa using f
 rw[n];dsimp only;refine aM3 (aMp c (by simp) λz p k1=>?_);refine aM3 (aMp p (by simp) λr C k2=>?_);exact AY (B:=A.in1) (s:={s with heap:=r}) (show A.in1.handled=none from j) λh' k=>q h' λb u v e=>k b u (((k1.trans k2).2 b v).trans e)
end
theorem gX{a:Type}:∀{xs:List a} {i:Nat} (h:i<xs.length),(xs[i]::xs.eraseIdx i).Perm xs
 | x::xs,0,h=>.refl _
 | x::xs,i+1,h=>by
  simp only[List.getElem_cons_succ,List.eraseIdx_cons_succ];exact(List.Perm.swap x _ _).trans ((gX (by simpa using h)).cons x)
section
variable {M:Model}{A:Around}{E:aPv}
theorem BR{e:Type}:∀(n:Nat) (xs:List e) (s:Shared) (Q:List e->Shared->Prop),xs.length<=n->(∀b d,b.Perm xs->Q b {s with drawn:=d})->wpAny M A (drawOrder n xs) Q E s
 | 0,[],s,Q,_,h=>by unfold drawOrder;exact aM4 (h [] s.drawn (.refl _))
 | 0,x::xs,s,Q,hl,h=>by simp at hl
 | n+1,[],s,Q,_,h=>by unfold drawOrder;exact aM4 (h [] s.drawn (.refl _))
 | n+1,x::xs,s,Q,hl,h=>by
  unfold drawOrder;refine aM3 ?_;have a:0<(x::xs).length:=by simp
  refine(λf p c=>⟨by simp,?_⟩:wpAny M A (choose .order (x::xs).length) _ E s);have hi:M.w.draws .order (s.drawn.get .order) % (x::xs).length<(x::xs).length:=Nat.mod_lt _ a;generalize M.w.draws .order (s.drawn.get .order) % (x::xs).length=i at hi;revert f p c;show wpAny M A _ _ E _;refine aM4 ?_;rw[List.getElem?_eq_getElem hi];dsimp only;refine aM3 (BR n ((x::xs).eraseIdx i) _ _ (by rw[List.length_eraseIdx_of_lt hi];simp at hl⊢;lia) λb d g=>aM4 (h _ d ?_));exact(g.cons _).trans (gX hi)
end
theorem A8{a:Type}(next:Nat->Nat):∀(fuel k:Nat) (left:List a) (out:Array a),left.length<=fuel->(pickOrder.go next fuel k left out).toList.Perm (out.toList++left)
 | 0,k,left,out,h=>by
  have:left=[]:=aOt.mp (by lia);subst this;simp[pickOrder.go]
 | fuel+1,k,[],out,h=>by simp[pickOrder.go]
 | fuel+1,k,x::xs,out,h=>by
  unfold pickOrder.go
  have hi:next k % (x::xs).length<(x::xs).length:=Nat.mod_lt _ (by simp)
  rw[List.getElem?_eq_getElem hi];dsimp only
  generalize next k % (x::xs).length=i at hi
  have:=A8 next fuel (k+1) ((x::xs).eraseIdx i) (out.push (x::xs)[i]) (by rw[List.length_eraseIdx_of_lt hi];simp at h⊢;lia)
  refine this.trans ?_;simp only[Array.toList_push,List.append_assoc,List.singleton_append];exact(gX hi).append_left _
theorem xP{a:Type}(next:Nat->Nat)(xs:Array a):(pickOrder next xs).toList.Perm xs.toList:=by
 unfold pickOrder
 have:=A8 next xs.size 0 xs.toList #[] (by simp)
 simpa using this
section
variable {prog:Program}{w:World}{A:Around}{E:aPv}{s:Shared}{a:Addr}{ep:Nat}{o:Obj}{es:Array (Int×Value)}{t:SetTable}
theorem mC{Q:Bool->Shared->Prop}(h:Q (w.params.followText "set-order") s):wpAny (model prog w) A setsByText Q E s:=by
 unfold setsByText;exact aM3 (aP6 (aM4 h))
def xB(t:SetTable):Nat->Nat
 | 0=>0
 | i+1=>t.place.getD i 0+1
theorem KH(ht:uG l t)(hi:i<=t.place.size):below t.place (xB t i)=i:=by
 cases i with
 | zero=>exact KG ht.ris
 | succ i=>
  have:t.place.getD i 0=t.place[i]'(by lia):=by simp[Array.getD,show i<t.place.size by lia]
  show below t.place (t.place.getD i 0+1)=i+1;rw[this];exact KI ht.ris (by lia)
theorem PB(a:t.fits es.size=true):t.place.size=es.size:=by
 simp only[SetTable.fits,Bool.and_eq_true,beq_iff_eq]at a;exact a.1
variable{Q:Option (Value×Nat)->Shared->Prop}
theorem JE(ho:s.heap.get? a=some o)(hd:o.data= .set es ep t)(d:t.fits es.size=true)(ht:uG l t)(g:w.params.followText "set-order"=false)(j:l=true)
  (f:(!t.plain && decide (es.size > 1))=false) (hi:i<=es.size) (q:Q ((es[i]?).map λe=>(e.2,xB t (i+1))) s):wpAny (model prog w) A (setNext a (xB t i) i ep) Q E s:=by
 have n:=PB d;unfold setNext;refine aM3 (aNv ho hd d ?_);dsimp only;refine aM3 (mC ?_);rw[g,if_neg Bool.false_ne_true];have p:(if (!t.plain && decide (es.size > 1))=true then (unsupported "set_iterator.__next__:the-table-is-plain-no-more":Sem Unit) else pure ())=pure ():=by rw[f];rfl
 show wpAny _ _ (if (!t.plain && decide (es.size > 1))=true then _ else _) Q E s;rw[f,if_neg Bool.false_ne_true];have b:t.led=true:=by rw[ht.led,j]
 refine aM3 ?_;show wpAny _ _ (if (!t.led && !es.isEmpty)=true then _ else _) _ E s;rw[b];simp only[Bool.not_true,Bool.false_and,Bool.false_eq_true,if_false];refine aM4 ?_;rw[KH ht (by lia)];by_cases h:i<es.size
 ·have c:es[i]? =some es[i]:=by simp[h]
  have k:t.place[i]? =some (t.place[i]'(by lia)):=by simp[show i<t.place.size by lia]
  rw[c]at q⊢;rw[k];have m:t.place.getD i 0=t.place[i]'(by lia):=by simp[Array.getD,show i<t.place.size by lia]
  simp only[xB,m,Option.map_some]at q;exact aM4 q
 ·have c:es[i]? =none:=by simp;lia
  rw[c]at q⊢;exact aM4 q
theorem OC(ho:s.heap.get? a=some o)(hd:o.data= .set es ep t)(b:t.fits es.size=true)(c:w.params.followText "set-order"=true)
  (q:Q (((pickOrder (w.params.setOrder a ep) es)[i]?).map λe=>(e.2,0)) s):wpAny (model prog w) A (setNext a 0 i ep) Q E s:=by
 unfold setNext;refine aM3 (aNv ho hd b ?_);dsimp only;refine aM3 (mC ?_);rw[c,if_pos rfl];rw[if_neg (by simp)];refine aM3 ?_;unfold setWalk;refine aM3 (aNv ho hd b ?_);dsimp only;refine aM3 (mC ?_);rw[c,if_pos rfl];refine aM3 (aP6 ?_);exact aM4 (aM4 q)
end
theorem z0:entryFor table "set_iterator.__iter__"=some Builtin.«dict_keyiterator.__iter__»:=
 entryFor_alias (id' := "dict_keyiterator.__iter__") (by kernel_rfl) rfl (by decide+kernel) (by kernel_rfl)
theorem EK(a:Value):argsOk "set_iterator.__iter__" ⟨[a],[]⟩:=by
 unfold argsOk;rw[signature?_of (id:= "set_iterator.__iter__") (n:= "__reti__".toList) (o:= "rotareti_tes".toList) (by kernel_rfl) F0];kernel_rfl
theorem A7{a:Type}:∀l:List a,(List.range l.length).filterMap (λk=>l[k]?)=l
 | []=>rfl
 | x::l=>by
  have:=A7 l;rw[List.length_cons,List.range_succ_eq_map,List.filterMap_cons];simp only[List.getElem?_cons_zero,List.filterMap_map,Function.comp_def,List.getElem?_cons_succ];rw[this]
section
variable {prog:Program}{w:World}{A:Around}{E:aPv}{s:Shared}
theorem BI{it a:Addr}{first:Value}{i n c:Nat}{Q:aPv}(b:s.heap.get? it=some (oP first i a n c))(h:Q (.ref it) s):wpAny (model prog w) A (pyIter (.ref it)) Q E s:=by
 have ht:s.TypeIs (.ref it) "set_iterator":=⟨_,b,rfl⟩
 refine aOz ht AZ (aMk AZ ht z0 ?_ (EK _));show wpAny _ _ (ret (.ref it)) _ _ s;exact aM4 ⟨_,rfl,"set_iterator",_,ht,slot_next.lookup,h⟩
variable{es:Array (Int×Value)}
theorem EY(p:A.handled=none){it a:Addr}(j:a≠it){o:Obj}{l:Nat}(hd:o.data= .set es l t)(m:t.fits es.size=true)(sl:Nat->Nat)(vs:List Value)(d:vs.length=es.size)
  (hN:∀(i:Nat),i<=es.size->∀(s:Shared),s.heap.get? a=some o->∀(A:Around) (E:aPv) (Q:Option (Value×Nat)->Shared->Prop),Q ((vs[i]?).map λv=>(v,sl (i+1))) s->wpAny (model prog w) A (setNext a (sl i) i l) Q E s):
  Walks prog w A it [it,a] [it] vs.length (λi v=>vs[i]? =some v) (λi h=>i<=es.size/\h.get? it=some (oP (.int (sl i) 0) i a es.size l)/\h.get? a=some o) where
 sub:=λb c=>by simp at c;simp[c]
 frame:=λ_ _ _ st n=>⟨st.1,n it (by simp) _ st.2.1,n a (by simp) _ st.2.2⟩
 item:=λi s Q E hi st f=>by
  have e:vs[i]? =some vs[i]:=by simp[hi]
  refine R5 (x:=vs[i]) (nx:=sl (i+1)) st.2.1 st.2.2 hd m (λA E Q q=>hN i st.1 s st.2.2 A E Q (by rw[e];exact q)) λh' g k=>?_;refine f _ h' s.toks e ⟨by lia,g,(k.2 a j).trans st.2.2⟩ λb u c e=>(k.2 b (by simpa using c)).trans e
 done:=λs Q E st f=>by
  rw[d]at st;refine C6 p st.2.1 st.2.2 hd m (λA E Q q=>hN es.size (aM7 _) s st.2.2 A E Q (by rw[List.getElem?_eq_none (by lia)];exact q)) λh' k=>?_;exact f h' s.toks λb u c e=>k b u (by simpa using c) e
 self:=λ_ _ _ _ st f=>BI st.2.1 f
theorem QF(z:A.handled=none){it a tp:Addr}(f:a≠it)(j:tp≠it){o:Obj}{n:Nat}(hd:o.data= .set es n t)(p:t.fits es.size=true)(ns:List Nat)(vs:List Value)(q:ns.length=vs.length)
  (B:∀(i r:Nat),ns[i]? =some r->(es[r]?).map (·.2)=vs[i]?):
  Walks prog w A it [it,a,tp] [it] vs.length (λi v=>vs[i]? =some v) (λi h=>h.get? it=some (oP (.ref tp) i a es.size n)/\h.get? a=some o/\h.IsTuple tp (ns.map λ(k:Nat)=>rawInt k).toArray) where
 sub:=λb c=>by simp at c;simp[c]
 frame:=λ_ _ _ st l=>⟨l it (by simp) _ st.1,l a (by simp) _ st.2.1,st.2.2.at λo e=>l tp (by simp) o e⟩
 item:=λi s Q E hi st d=>by
  have e:vs[i]? =some vs[i]:=by simp[hi]
  have m:i<ns.length:=by lia
  have y:ns[i]? =some ns[i]:=by simp[m]
  refine R0 (x:=vs[i]) st.1 st.2.1 hd p st.2.2 y (by rw[B i _ y,e]) λh' g k=>?_;refine d _ h' s.toks e ⟨g,(k.2 a f).trans st.2.1,st.2.2.extBut k.extBut j⟩ λb u c e=>(k.2 b (by simpa using c)).trans e
 done:=λs Q E st d=>by
  refine C4 z st.1 st.2.1 hd p st.2.2 (by rw[List.getElem?_eq_none (by lia)]) λh' k=>?_;exact d h' s.toks λb u c e=>k b u (by simpa using c) e
 self:=λ_ _ _ _ st d=>BI st.1 d
end
section
variable {prog:Program}{w:World}{K:Type}[DecidableEq K]{knd:KeyKind prog w K}{A:Around}{E:aPv}{s:Shared}
def Vof(knd:KeyKind prog w K)(ks:List K)(vs:List Value):Prop:=∃ps:List (K×Value),ps.map (·.2)=vs/\(ps.map (·.1)).Perm ks/\∀p∈ps,knd.is p.1 p.2=true
variable{es:Array (Int×Value)}
theorem Es.vof{ks:List K}(h:Es knd es ks){l:List (Int×Value)}(p:l.Perm es.toList):Vof knd ks (l.map (·.2)):=by
 obtain⟨ps,c,d,e⟩:=h;obtain⟨a,b,f⟩:=oH (·.2) p ps c.symm;refine⟨a.map λp=>(p.1,p.2.2),by rw[<-f];simp,?_,λp g=>?_⟩
 ·have:=(b.map (·.1)).trans d;simpa[Function.comp_def] using this
 ·obtain⟨q,i,rfl⟩:=aMd.mp g;exact(e q (b.mem_iff.mp i)).1
def EN(l:Bool)(h:Heap)(a:Addr)(es:Array (Int×Value)):Prop:=∃o b t,h.get? a=some o/\o.ExactSet/\o.data= .set es b t/\es.size<scanBound/\t.fits es.size=true/\uG l t
theorem EN.keep{h h' :Heap}{a:Addr}(x:EN l h a es)(k:∀o,h.get? a=some o->h'.get? a=some o):EN l h' a es:=by
 obtain⟨o,b,t,ho,r⟩:=x;exact⟨o,b,t,k o ho,r⟩
theorem EN.typeIs{s:Shared}{a:Addr}(x:EN l s.heap a es):s.TypeIs (.ref a) "set":=by
 obtain⟨o,c,t,ho,b,_⟩:=x;exact⟨o,ho,b.1⟩
structure ItS(prog:Program)(w:World)(es:Array (Int×Value))(a:Addr)(s s2:Shared)(I:Addr):Prop where
 kept:∀b u,s.heap.get? b=some u->s2.heap.get? b=some u
 new:s.heap.objs.size<=I
 same:s2.gens=s.gens/\s2.os=s.os/\s2.toks=s.toks
 walk:∃(fp:List Addr) (St:Nat->Heap->Prop) (vs:List Value),(∀A:Around,A.handled=none->Walks prog w A I fp [I] vs.length (λi v=>vs[i]? =some v) St)/\St 0 s2.heap/\(∀b∈fp,(b=a\/s.heap.objs.size<=b)/\b<s2.heap.objs.size)/\vs.Perm (es.toList.map (·.2))
theorem S5{a:Addr}{Q:aPv}(G:EN (gK w) s.heap a es)(h:∀I s2,ItS prog w es a s s2 I->Q (.ref I) s2):wpAny (model prog w) A (pyIter (.ref a)) Q E s:=by
 have H:=G.typeIs;obtain⟨o,J,t,ho,hex,hd,f,g,ht⟩:=G;have c:=aMb ho;refine aOz H F.slot_set_iter (aMk F.slot_set_iter H yR ?_ (F.args_set_iter_1 _));unfold Builtin.«frozenset.__iter__»;refine aM3 (m:=Builtin.Frozenset.slot0 "__iter__" _) (aM4 ?_);refine aM3 ?_;unfold Builtin.Frozenset.sizeOf;refine aM3 (aNx ho hd g (aM4 ?_));refine aM3 ?_;unfold setDrawn;refine aM3 (aNv ho hd g ?_);dsimp only;refine aM3 (mC (aM4 ?_));show wpAny _ _ (if (!w.params.followText "set-order" && (!t.plain && decide (es.size > 1)))=true then _ else _) _ _ s;by_cases l:(!w.params.followText "set-order" && (!t.plain && decide (es.size > 1)))=true
 ·rw[if_pos l];refine aM3 (BR es.size (List.range es.size) s _ (by simp) λns d p=>?_)
  have hsz:(ns.map λ(i:Nat)=>rawInt i).length<=sizeLine:=by
   have:=p.length_eq;have:=fits_of_scanBound f;simp at*;lia
  refine aM3 (aOb ?_ hsz);dsimp only;refine aM3 (m:=setEpoch a) (wpAny_setEpoch_of (o:=o) (aM5 _ ho) hd g ?_);refine aM3 (m:=newFields "set_iterator" _) (aMs ?_ (by size_fits));refine aM4 ⟨_,rfl,"set_iterator",_,⟨_,aMa _ rfl,rfl⟩,slot_next.lookup,?_⟩;refine h _ _ ⟨λb u e=>aM5 _ (aM5 _ e),by simp[Heap.size_push],⟨rfl,rfl,rfl⟩,?_⟩;have C:∀k∈ns,k<es.size:=λk B=>by simpa using p.mem_iff.mp B
  have r:(ns.filterMap λk=>es[k]?).Perm es.toList:=by
   have K:=p.filterMap λk=>es[k]?;have M:(List.range es.size).filterMap (λk=>es[k]?)=es.toList:=by simpa using A7 es.toList
   rw[M]at K;exact K
  have v:(ns.filterMap λk=>es[k]?).length=ns.length:=by
   have:=r.length_eq;have:=p.length_eq;simp at*;lia
  have x:∀(ns:List Nat),(∀k∈ns,k<es.size)->∀(i n:Nat),ns[i]? =some n->es[n]? =(ns.filterMap λk=>es[k]?)[i]? :=by
   intro ns
   induction ns with
   | nil=>intro _ i n hi;simp at hi
   | cons k ns ih=>
    intro L i n hi;have B:=L k (by simp)
    cases i with
    | zero=>simp at hi;subst hi;simp[B]
    | succ i=>
     simp at hi;rw[ih (λj N=>L j (by simp[N])) i n hi];simp[B]
  refine⟨_,_,(ns.filterMap λk=>es[k]?).map (·.2),λA y=>QF (tp:=s.heap.objs.size) y ?_ ?_ hd g ns _ (by simp[v]) λi n hi=>by rw[x ns C i n hi,List.getElem?_map],⟨aMa _ rfl,aM5 _ (aM5 _ ho),?_⟩,?_,r.map _⟩
  ·rw[Heap.size_push];exact aMg (aMw c)
  ·rw[Heap.size_push];exact aMg (aMt _)
  ·exact⟨_,aM5 _ (aMa _ rfl),rfl,_,rfl⟩
  ·intro b f;simp only[List.mem_cons,List.not_mem_nil,or_false]at f;simp only[Heap.size_push];rcases f with rfl | rfl | rfl
   ·exact⟨.inr (by simp only[Heap.size_push];exact aOs _),by simp only[Heap.size_push];exact aMt _⟩
   ·exact⟨.inl rfl,aMw (aMw c)⟩
   ·exact⟨.inr (aM7 _),aMw (aMt _)⟩
 ·rw[if_neg l];refine aM3 (aM4 ?_);refine aM3 (m:=setEpoch a) (wpAny_setEpoch_of ho hd g ?_);refine aM3 (m:=newFields "set_iterator" _) (aMs ?_ (by size_fits));refine aM4 ⟨_,rfl,"set_iterator",_,⟨_,aMa _ rfl,rfl⟩,slot_next.lookup,?_⟩;refine h _ _ ⟨λb u e=>aM5 _ e,aM7 _,⟨rfl,rfl,rfl⟩,?_⟩;have z:a≠s.heap.objs.size:=aMg c
  cases hbt:w.params.followText "set-order" with
  | true=>
   have r:=xP (w.params.setOrder a J) es;refine⟨_,_,(pickOrder (w.params.setOrder a J) es).toList.map (·.2),λA y=>EY y z hd g (λ_=>0) _ (by have:=r.length_eq;simp at*;lia) λi hi O D A E Q q=>OC D hd g hbt (by simpa[Function.comp_def] using q),⟨by lia,aMa _ rfl,aM5 _ ho⟩,?_,r.map _⟩;intro b f;simp only[List.mem_cons,List.not_mem_nil,or_false]at f;simp only[Heap.size_push];rcases f with rfl | rfl
   ·exact⟨.inr (aM7 _),aMt _⟩
   ·exact⟨.inl rfl,aMw c⟩
  | false=>
   have p:(!t.plain && decide (es.size > 1))=false:=by
    rw[hbt]at l;simpa using l
   refine⟨_,_,es.toList.map (·.2),λA y=>EY y z hd g (xB t) _ (by simp) λi hi O D A E Q q=>JE D hd g ht hbt (by simp[gK,hbt]) p hi (by simpa[Function.comp_def] using q),⟨by lia,aMa _ rfl,aM5 _ ho⟩,?_,.refl _⟩;intro b f;simp only[List.mem_cons,List.not_mem_nil,or_false]at f;simp only[Heap.size_push];rcases f with rfl | rfl
   ·exact⟨.inr (aM7 _),aMt _⟩
   ·exact⟨.inl rfl,aMw c⟩
end
open PySem.Calls
section
variable {prog:Program}{w:World}{K:Type}[DecidableEq K]{knd:KeyKind prog w K}{A:Around}{E:aPv}{s:Shared}{a:Addr}{ks:List K}{es:Array (Int×Value)}
theorem TK{Q:Bool->Shared->Prop}(e:s.TypeIs (.ref a) "set")(h:Q false s):wpAny (model prog w) A (Builtin.List.listLengthHint (.ref a)) Q E s:=by
 unfold Builtin.List.listLengthHint;refine aM3 (aO6 e PySem.F.slot_set_len.lookup ?_);generalize d:("set.__len__":String)=id0
 wp_delta
 rw[show splitId id0=some ("set","__len__") from by subst d;decide+kernel];subst d;refine aM3 (aNy (T:= "set") (b:=true) e (by rw[isSubtype_type];kernel_rfl) ?_);refine wpAny_ite_split (λc=>absurd c (by decide)) (λ_=>?_);refine wpAny_ite_split (λ_=>?_) (λc=>absurd (by decide+kernel) c);refine aM3 (aOe e ?_);exact aM4 h
theorem S6{vs:List Value}{a:Array Value}(h:ItemsOf (λi v=>vs[i]? =some v) a vs.length):a=vs.toArray:=by
 apply Array.ext_getElem?;intro i;by_cases hi:i<vs.length
 ·have b:i<a.size:=by rw[h.1];exact hi
  have:=h.2 i a[i] (by simp[b]);simp[b,this]
 ·simp[hi,h.1]
theorem IL{R:Result->Shared->Prop}(B:EN (gK w) s.heap a es)(G:A.handled=none)(S:Addr)(p:S≠a)(res:Value)(j:Nat)(q:s.heap.get? S=some {cls:= .type "list",data:= .seq #[] j})
  (L:∀(d :Shared) (vs:List Value) (n :Nat),vs.Perm (es.toList.map (·.2))->d.gens=s.gens->d.os=s.os->(∀b o,b≠S->s.heap.get? b=some o->d.heap.get? b=some o)->d.heap.get? S=some {cls:= .type "list",dict:=none,data:= .seq vs.toArray n,slots:= #[]}->R (.ok (.ret res)) d)
  (U:es.size<=sizeLine):
  wpAny (model prog w) A.in1 (Builtin.List.listExtendWith (.ref S) (.ref a) res)
   (λC d =>match C with | .done f=>R (.ok f) d | .again n =>n.quiet=true/\codeAny (model prog w) A n R d) (λe d =>R (.error e) d) s:=by
 have r:=aMb q;unfold Builtin.List.listExtendWith;refine aM3 (aOe (T:= "set") B.typeIs ?_);have M:Builtin.List.listSameRef (.ref S) (.ref a)=false:=by simp[Builtin.List.listSameRef,p]
 have N:(Value.type "set"==Value.type "list")=false:=by decide
 have O:(Value.type "set"==Value.type "tuple")=false:=by decide
 simp only[M,N,O,Bool.or_false,Bool.false_eq_true,if_false];refine aM3 (S5 B λI s2 it=>?_);obtain⟨fp,St,vs,W,st,D,vof⟩:=it.walk
 have H:vs.length=es.size:=by
  have:=vof.length_eq;simpa using this
 have t:S∉fp:=λhm=>by
  rcases(D S hm).1 with z | z
  ·exact p z
  ·exact absurd r (Nat.not_lt.mpr z)
 have u:∀(h:Heap) (g J:Nat),St 0 h->(∀b o,b≠S->s.heap.get? b=some o->h.get? b=some o)->
   h.get? S=some {cls:= .type "list",data:= .seq #[] g}->codeAny (model prog w) A (.builtin "list.extend.loop" ⟨[.ref S,.ref I,res],[]⟩) R {s2 with heap:=h,toks:=J}:=by
  intro h g J E P c;refine codeAny_extend_loopS (W A.in1 G).toS (by lia) S t res vs.length 0 _ #[] g rfl (aN9 _) E c (ItemsOf.nil _) λd K n hm v x=>?_;rw[S6 x]at v;refine L d vs n vof (hm.gens.trans it.same.1) (hm.os.trans it.same.2.1) (λb o k e=>hm.heap b o (λhmem=>?_) (P b o k e)) v;rcases aMf.mp hmem with Q | hmem
  ·exact k Q
  ·rw[List.mem_singleton.mp hmem]at e;exact absurd (aMb e) (Nat.not_lt.mpr it.new)
 have c:=it.kept _ _ q;have l:EN (gK w) s2.heap a es:=B.keep λo e=>it.kept _ _ e;refine aM3 (aMv (TK l.typeIs ?_));refine wpAny_ite_split (λ_=>?_) (λ_=>aM4 ⟨aP9 PySem.F.plain_extend_loop _,u s2.heap j s2.toks st (λb o _ e=>it.kept _ _ e) c⟩);refine aM3 (aN4 ?_);refine aM3 ?_;show wpAny _ _ (updateSeq S (·.push .none) >>=λ_=>updateSeq S (·.pop)) _ _ _;refine aM3 (aO7 c rfl ?_);have i:=aNn (Obj.mapSeq (·.push Value.none)) c rfl;refine aO7 (hz:=by seq_fits) i rfl ?_;have m:=aNn (Obj.mapSeq (·.pop)) i rfl;refine aM4 ⟨aP9 PySem.F.plain_extend_loop _,u _ _ s2.toks ?_ (λb o k e=>?_) m⟩
 ·refine(W A.in1 G).frame 0 _ _ st λb k o e=>?_;have y:b≠S:=λh=>t (h▸k);exact(aNd _ _ (aNf y)).trans ((aNd _ _ (aNf y)).trans e)
 ·exact(aNd _ _ (aNf k)).trans ((aNd _ _ (aNf k)).trans (it.kept _ _ e))
variable{R:List Value->Shared->Prop}
theorem CL(t:EN (gK w) s.heap a es)(u:A.handled=none)(v:es.size<=sizeLine)
  (h:∀(c :Shared) (vs:List Value),vs.Perm (es.toList.map (·.2))->c.gens=s.gens->c.os=s.os->(∀b o,s.heap.get? b=some o->c.heap.get? b=some o)->R vs c):
  wpAny (model prog w) A (collect (.ref a)) R E s:=by
 have n:a<s.heap.objs.size:=by obtain⟨o,_,_,ho,_⟩:=t;exact aMb ho
 unfold collect;refine aM3 (wpAny_runValue (aO5 PySem.F.entry_proto_collect ?_));rw[Around.under_plainId PySem.F.plain_proto_collect _];show wpAny _ A.in1 (newList [] >>=λl=>again (.builtin "list.__iadd__" ⟨[l,.ref a],[]⟩)) _ _ s;refine aM3 (aMs ?_);refine aM4 ⟨aP9 PySem.F.plain_list_iadd _,aO5 PySem.F.entry_list_iadd ?_⟩;rw[Around.under_plainId PySem.F.plain_list_iadd _];have g:(s.heap.push {cls:= .type "list",data:= .seq ([]:List Value).toArray}).get? s.heap.objs.size=some {cls:= .type "list",data:= .seq #[]}:=aMa _ rfl;show wpAny _ A.in1 (Builtin.List.listExtendWith (.ref s.heap.objs.size) (.ref a) (.ref s.heap.objs.size)) _ _ _
 have p:=IL (prog:=prog) (A:=A) (s:={s with heap:=s.heap.push {cls:= .type "list",data:= .seq ([]:List Value).toArray}}) (es:=es)
  (R:=λ(q:Result) (c :Shared)=>∃(vs:List Value) (i :Nat),q= .ok (.ret (.ref s.heap.objs.size))/\vs.Perm (es.toList.map (·.2))/\c.gens=s.gens/\c.os=s.os/\
   (∀b o,s.heap.get? b=some o->c.heap.get? b=some o)/\c.heap.get? s.heap.objs.size=some {cls:= .type "list",dict:=none,data:= .seq vs.toArray i,slots:= #[]})
  (t.keep λo e=>aM5 _ e) u s.heap.objs.size (aNc n) (.ref s.heap.objs.size) 0 g
  (λc vs i j hg ho k d =>⟨vs,i,rfl,j,hg,ho,λb o e=>k b o (aMg (aMb e)) (aM5 _ e),d⟩) v
 refine aNj p (λr c x=>?_) λe c x=>?_
 ·cases r with
  | done f=>
   obtain⟨vs,i,e,j,hg,ho,k,d⟩:=x;cases e;show wpAny _ A (load s.heap.objs.size >>=_) _ _ _;refine aM3 (wpAny_load d ?_);exact aM4 (by simpa using h c vs j hg ho k)
  | again c₁=>
   refine⟨x.1,aOu x.2 λq m y=>?_⟩;obtain⟨vs,i,rfl,j,hg,ho,k,d⟩:=y;show wpAny _ A (load s.heap.objs.size >>=_) _ _ _;refine aM3 (wpAny_load d ?_);exact aM4 (by simpa using h m vs j hg ho k)
 ·obtain⟨_,_,z,_⟩:=x;cases z
theorem FF(d:qZ knd (gK w) s.heap a ks)(e:A.handled=none)(f:ks.length<=sizeLine)
  (h:∀(c :Shared) (vs:List Value),Vof knd ks vs->c.gens=s.gens->c.os=s.os->(∀b o,s.heap.get? b=some o->c.heap.get? b=some o)->R vs c):
  wpAny (model prog w) A (collect (.ref a)) R E s:=by
 obtain⟨o,es,g,t,ho,hex,hd,he,nd,i,j,ht⟩:=d;refine CL ⟨o,g,t,ho,hex,hd,i,j,ht⟩ e (by rw[he.size];exact f) λc vs pm=>h c vs ?_;obtain⟨l,k,m⟩:=oH (·.2) pm es.toList rfl;rw[<-m];exact he.vof k
end
variable {M:Nat}{h:Int}
variable {t:SetTable}{hs:List Int}
end ST
namespace L2
open PySem PySem.Spec PyProof.Rows
def mB:List (Str×NameKind)->List (Str×Addr)->List (Str×Addr)->List (Str×Addr)
 | [],_,acc=>acc
 | (n,k)::r,cells,acc=>mB r cells (if k== .free then (n,(cells.lookup n).getD 0)::acc else acc)
theorem BZ{env:Env}:∀(names:List (Str×NameKind)) (b:List (Str×Addr)),(∀x∈names,x.2= .free->∃c,env.cells.lookup x.1=some c)->
  (forIn names b λ(x:Str×NameKind) (cs:List (Str×Addr))=>(if (x.2==NameKind.free)=true then do let a<-cellOf env x.1;pure (ForInStep.yield ((x.1,a)::cs)) else pure (ForInStep.yield cs):Sem _))=(pure (mB names env.cells b):Sem _)
 | [],b,_=>by simp[mB]
 | (n,k)::r,b,h=>by
  have f:=λd =>BZ (env:=env) r d λx i=>h x (aM9 _ i);rw[List.forIn_cons];by_cases g:k= .free
  ·subst g;obtain⟨c,j⟩:=h (n,.free) aM8 rfl;have e :env.cells.lookup n=some c:=j;simp only[mB,beq_self_eq_true,if_true,cellOf,e,pure_bind,Option.getD_some];exact f _
  ·have l:(k==NameKind.free)=false:=by simpa using g
   simp only[mB,l,Bool.false_eq_true,if_false,pure_bind];exact f _
variable{scope:Scope}{env:Env}
theorem AF(h:∀x∈scope.names,x.2= .free->∃c,env.cells.lookup x.1=some c):closureFor scope env=pure (mB scope.names env.cells []):=by
 have e:=BZ (env:=env) scope.names [] h;unfold closureFor;simp only[bind_pure_comp]at e⊢
 first
  | (rw[<-e];rfl)
  | (simp at e⊢;rw[<-e];rfl)
  | (simp at e⊢;exact e)
theorem B1{cells:List (Str×Addr)}{P:Str->Addr->Prop}:∀(names:List (Str×NameKind)) (a:List (Str×Addr)),(∀x∈a,P x.1 x.2)->(∀n,(n,NameKind.free)∈names->P n ((cells.lookup n).getD 0))->∀x∈mB names cells a,P x.1 x.2
 | [],a,h,_,x,hx=>h x hx
 | (n,k)::r,a,h,b,x,hx=>by
  refine B1 (cells:=cells) r _ (λy hy=>?_) (λm hm=>b m (aM9 _ hm)) x hx;by_cases c:k= .free
  ·subst c;simp only[beq_self_eq_true,if_true]at hy;rcases aMf.mp hy with rfl | hy
   ·exact b n aM8
   ·exact h y hy
  ·have d:(k==NameKind.free)=false:=by simpa using c
   simp only[d,Bool.false_eq_true,if_false]at hy;exact h y hy
theorem cW{a:Type}:∀{l:List (Str×a)} {n:Str} {c:a},(n,c)∈l->∃b,l.lookup n=some b
 | (k,v)::r,n,c,h=>by
  rw[List.lookup_cons]
  cases hb:n==k with
  | true=>exact⟨v,rfl⟩
  | false=>
   rcases aMf.mp h with e | h
   ·injection e with d _;rw[d]at hb;simp at hb
   ·exact cW h
theorem vD{cells:List (Str×Addr)}:∀(names:List (Str×NameKind)) (a:List (Str×Addr)) (x:Str×Addr),x∈a->x∈mB names cells a
 | [],_,_,h=>h
 | (n,k)::r,a,x,h=>by
  refine vD r _ x ?_;by_cases b:(k==NameKind.free)=true
  ·rw[if_pos b];exact aM9 _ h
  ·rw[if_neg b];exact h
theorem B2{cells:List (Str×Addr)}:∀(names:List (Str×NameKind)) (a:List (Str×Addr)) (n:Str),(n,NameKind.free)∈names->∃c,(n,c)∈mB names cells a
 | (m,k)::r,a,n,h=>by
  rcases aMf.mp h with e | h
  ·injection e with b d;subst b d;exact⟨(cells.lookup n).getD 0,vD r _ _ (by simp)⟩
  ·exact B2 r _ n h
theorem rY{x:Str}{b :NameKind}:(relabel scope env).names.lookup x=some b ->∃k,scope.names.lookup x=some k/\(b =k\/(k= .free/\b = .cell)):=by
 unfold relabel;dsimp only;generalize scope.names=l
 induction l with
 | nil=>intro h;simp at h
 | cons p r ih=>
  obtain⟨n,k⟩:=p;intro h;rw[List.map_cons]at h;by_cases a:(k==NameKind.free && env.scope.kind== .function && env.kindOf n==some .cell)=true
  ·simp only[a,if_true,List.lookup_cons]at h⊢
   cases hb:x==n with
   | true=>
    rw[hb]at h;simp only[Bool.and_eq_true,beq_iff_eq]at a;exact⟨k,rfl,.inr ⟨a.1.1,(aMn h).symm⟩⟩
   | false=>rw[hb]at h;exact ih h
  ·have c :(k==NameKind.free && env.scope.kind== .function && env.kindOf n==some .cell)=false:=by simpa using a
   simp only[c,Bool.false_eq_true,if_false,List.lookup_cons]at h⊢
   cases hb:x==n with
   | true=>rw[hb]at h;exact⟨k,rfl,.inl (aMn h).symm⟩
   | false=>rw[hb]at h;exact ih h
theorem CS{x:Str}:scope.names.lookup x=some .free->(relabel scope env).names.lookup x=some .cell\/(relabel scope env).names.lookup x=some .free:=by
 unfold relabel;dsimp only;generalize scope.names=l
 induction l with
 | nil=>intro h;simp at h
 | cons p r ih=>
  obtain⟨n,k⟩:=p;intro h;rw[List.map_cons];rw[List.lookup_cons]at h
  cases hb:x==n with
  | true=>
   rw[hb]at h;have c:k= .free:=aMn h;subst c;by_cases b:(NameKind.free==NameKind.free && env.scope.kind== .function && env.kindOf n==some .cell)=true
   ·simp only[b,if_true,List.lookup_cons,hb];first | exact .inl rfl | exact .inl trivial
   ·have a :(NameKind.free==NameKind.free && env.scope.kind== .function && env.kindOf n==some .cell)=false:=by simpa using b
    simp only[a,Bool.false_eq_true,if_false,List.lookup_cons,hb];first | exact .inr rfl | exact .inr trivial
  | false=>
   rw[hb]at h;by_cases b:(k==NameKind.free && env.scope.kind== .function && env.kindOf n==some .cell)=true
   ·simp only[b,if_true,List.lookup_cons,hb];exact ih h
   ·have a :(k==NameKind.free && env.scope.kind== .function && env.kindOf n==some .cell)=false:=by simpa using b
    simp only[a,Bool.false_eq_true,if_false,List.lookup_cons,hb];exact ih h
def bE(X:Cx)(own:List Str)(aS:List Nat)(scope:Scope)(cl:List (Str×Addr))(C:Addr)(fp:List Addr)(s₀:Shared)(H₀:Hp):Cx where
 prog:=X.prog
 w:=X.w
 K:=X.K
 mg:=X.mg
 base:=X.base
 A:=X.A
 N:=own++aS.map λi=>X.N.getD i ""
 s₀:=s₀
 H₀:=H₀
 env:=compEnvC scope cl C X.env
 outer:=X.stack
 stack:=X.stack
 ex:=fp
 fn:=λx=>scope.names.lookup x==some .cell
 calm:=X.calm
 pn:=[]
 xe:=λ_ _=>False
def uB(own:List Str)(aS:List Nat)(σ:St):St:=own.map (λ_=>none)++aS.map λi=>(σ[i]?).join
def hX(N:List Str)(sc scope:Scope)(aS:List Nat):Bool:=
 scope.kind== .function && scope.names.all (λy=>y.2 != .cell || scope.names.lookup y.1==some .cell) && scope.names.all (λy=>y.2 != .local || scope.names.lookup y.1==some .local) &&
 scope.names.all (λy=>y.2 != .free || (scope.names.lookup y.1==some .free && (sc.names.lookup y.1==some .cell || sc.names.lookup y.1==some .free))) &&
 aS.all (λi=>match N[i]? with | some x=>scope.names.lookup x==some .free | none=>false)
structure KU(X:Cx)(scope:Scope)(aS:List Nat):Prop where
 kind:scope.kind= .function
 cel:∀y∈scope.names,y.2= .cell->scope.names.lookup y.1=some .cell
 loc:∀y∈scope.names,y.2= .local->scope.names.lookup y.1=some .local
 fre:∀y∈scope.names,y.2= .free->scope.names.lookup y.1=some .free
 fr:∀y∈scope.names,y.2= .free->X.env.kindOf y.1=some .cell\/X.env.kindOf y.1=some .free
 cap:∀i∈aS,∃x,X.N[i]? =some x/\scope.names.lookup x=some .free
variable{X:Cx}{sc:Scope}{N:List Str}
theorem KU.of{aS:List Nat}(hN:X.N=N)(c:X.env.scope=sc)(h:hX N sc scope aS=true):KU X scope aS:=by
 subst hN c;unfold hX at h;simp only[Bool.and_eq_true,List.all_eq_true]at h;obtain⟨⟨⟨⟨d,f⟩,g⟩,b⟩,j⟩:=h;refine⟨aP7.mp d,λy a z=>?_,λy a z=>?_,λy a z=>?_,λy a z=>?_,λi hi=>?_⟩
 ·have:=f y a;rw[z]at this;simpa using this
 ·have:=g y a;rw[z]at this;simpa using this
 ·have:=b y a;rw[z]at this;have this:(scope.names.lookup y.1==some NameKind.free && (X.env.scope.names.lookup y.1==some NameKind.cell || X.env.scope.names.lookup y.1==some NameKind.free))=true:=by simpa using this
  exact aP7.mp (Bool.and_eq_true_iff.mp this).1
 ·have:=b y a;rw[z]at this;have this:(scope.names.lookup y.1==some NameKind.free && (X.env.scope.names.lookup y.1==some NameKind.cell || X.env.scope.names.lookup y.1==some NameKind.free))=true:=by simpa using this
  have this:=(Bool.and_eq_true_iff.mp this).2;rcases Bool.or_eq_true_iff.mp this with q | q
  ·exact .inl (aP7.mp q)
  ·exact .inr (aP7.mp q)
 ·have:=j i hi
  cases e:X.N[i]? with
  | none=>rw[e]at this;simp at this
  | some x=>rw[e]at this;exact⟨x,rfl,aP7.mp this⟩
theorem y4:∀(names:List (Str×NameKind)) (n:Nat) (a:List (Str×Addr)),cellsFrom n names a=cellsFrom n names []++a
 | [],_,_=>rfl
 | (x,k)::r,n,a=>by
  unfold cellsFrom;split
  ·rw[y4 r (n+1) ((x,n)::a),y4 r (n+1) [(x,n)]];simp
  ·exact y4 r n a
theorem KC:∀(names:List (Str×NameKind)) (n:Nat) (a:List (Str×Addr)) {x:Str} {c:Addr},(x,c)∈cellsFrom n names a->(x,c)∈a\/(x,NameKind.cell)∈names
 | [],_,_,_,_,h=>.inl h
 | (y,k)::r,n,a,x,c,h=>by
  unfold cellsFrom at h;split at h
  ·rename_i b;have b:k= .cell:=aP7.mp b;rcases KC r _ _ h with z | z
   ·rcases aMf.mp z with z | z
    ·injection z with d e;exact .inr (by rw[d,b];exact aM8)
    ·exact .inl z
   ·exact .inr (aM9 _ z)
  ·rcases KC r _ _ h with z | z
   ·exact .inl z
   ·exact .inr (aM9 _ z)
theorem ZI:∀(names:List (Str×NameKind)) (n:Nat) (a:List (Str×Addr)) {p:Str×Addr},p∈a->p∈cellsFrom n names a:=λnames n a p h=>by
 rw[y4];exact aMx _ h
theorem EB:∀(names:List (Str×NameKind)) (n:Nat) (a:List (Str×Addr)) {x:Str},(x,NameKind.cell)∈names->∃c,(x,c)∈cellsFrom n names a
 | (y,k)::r,n,a,x,h=>by
  unfold cellsFrom;rcases aMf.mp h with z | z
  ·injection z with b d;subst b d;rw[if_pos (show (NameKind.cell==NameKind.cell)=true from rfl)];exact⟨n,ZI _ _ _ aM8⟩
  ·split
   ·exact EB r _ _ z
   ·exact EB r _ _ z
variable{A:Around}{s:Shared}
theorem zV{M:Model}{E:aPv}{globals:Addr}{cl:List (Str×Addr)}{qual:Str}{outer:Env}{b:Addr}{Q:Env->Shared->Prop}
  (a:∀h',h'.Ns s.heap.objs.size (λ_=>none)->(∀c o,s.heap.get? c=some o->h'.get? c=some o)->CellsOk h' (s.heap.objs.size+1) (cellsFrom (s.heap.objs.size+1) scope.names [])->
   Q (newEnv scope s.heap.objs.size globals (cellsFrom (s.heap.objs.size+1) scope.names []++cl) qual none .none (some outer) b) {s with heap:=h'}):
  wpAny M A (newFunctionEnv scope globals cl [] qual none .none (some outer) b) Q E s:=by
 simp only[newFunctionEnv,Option.isSome_some,if_true];refine aM3 (wpAny_alloc ?_);refine aM3 (wpAny_layCells _ (λname kind cells=>by cases hkc:kind==NameKind.cell <;> simp[hkc]) _ _ _ _ ?_);have ok:=cellsFrom_ok scope.names (s.heap.push {cls:= .type "dict",data:= .dict #[]}) (s.heap.objs.size+1) [] ⟨λ_ _ hm=>(nomatch hm),List.Pairwise.nil⟩ (by rw[Heap.size_push];exact aM7 _);rw[Heap.size_push]at ok;rw[show ({s with heap:=s.heap.push {cls:= .type "dict",data:= .dict #[]}}:Shared).heap.objs.size=s.heap.objs.size+1 from Heap.size_push ..];refine aM3 ?_;rw[List.forIn_nil];refine aM4 (aM4 ?_);rw[y4];exact a _ ((Heap.Ns.new s.heap (.type "dict")).keeps (pushCells_keeps _ _)) (λc o e=>pushCells_keeps _ _ c o (aM5 _ e)) ok
def PTs(X:Cx)(a:List Expr)(t:TT):Prop:=
 ∀(pins:List (Addr×Obj)) (s:Shared) (σ:St) (H:Hp) (Q:Bool->Hp->Prop),Inv X pins σ H s->t σ H Q->
  wpAny (model X.prog X.w) X.A (forIn a true λc r=>if r=true then do let ok<-isTrue c X.env (eval c X.env);pure (ForInStep.yield ok) else pure (ForInStep.yield r)) (TP X pins σ Q) X.xe s
def aJu:TT:=λ_ H Q=>Q true H
theorem WQ:PTs X [] aJu:=λ_ _ _ H _ I h=>wpAny_tests_nil ⟨H,I,h⟩
theorem WN{c:Expr}{t:TT}(h:PT X c t):PTs X [c] t:=λpins s σ H Q I q=>wpAny_tests_one (h pins s σ H Q I q)
def zL(n:Nat)(g:TG):Prop:=∀v σ H Q,g v σ H Q->g v σ H λa H' =>Q a H' /\a.length=σ.length/\∀j,n<=j->a[j]? =σ[j]?
def NK(n:Nat)(g:HU):Prop:=∀vs σ H Q,g vs σ H Q->g vs σ H λa H' =>Q a H' /\a.length=σ.length/\∀j,n<=j->a[j]? =σ[j]?
variable{n i:Nat}
theorem O5(h:i<n):zL n (u7 i):=λv σ H Q q=>⟨q,by simp,λj a=>by rw[List.getElem?_set_ne (by lia)]⟩
theorem TZ:NK n T6:=λvs σ H Q q=>⟨q.1,q.2,rfl,λ_ _=>rfl⟩
theorem O6{t:TG}{u:HU}(mt:∀v σ H Q b,(∀a H',Q a H' ->b a H')->t v σ H Q->t v σ H b)(d:∀v σ H Q b,(∀a H',Q a H' ->b a H')->u v σ H Q->u v σ H b)(f:zL n t)(g:NK n u):NK n (GU t u):=by
 intro vs σ H Q q;obtain⟨v,r,e,q⟩:=q;refine⟨v,r,e,mt _ _ _ _ _ (λa H' ⟨h,l,k⟩=>?_) (f _ _ _ _ q)⟩;refine d _ _ _ _ _ (λi p ⟨m,o,k2⟩=>?_) (g _ _ _ _ h);exact⟨m,o.trans l,λj c=>(k2 j c).trans (k j c)⟩
theorem TY{n m:Nat}{K:aPu}{u:HU}(h:NK n u):zL n (aEh K m u):=by
 intro v σ H Q q;obtain⟨a,xs,e,b,c,q⟩:=q;exact⟨a,xs,e,b,c,h _ _ _ _ q⟩
theorem JW:∀v σ H Q b,(∀a H',Q a H' ->b a H')->u7 i v σ H Q->u7 i v σ H b :=λ_ _ _ _ _ h q=>h _ _ q
theorem O8:∀v σ H Q b,(∀a H',Q a H' ->b a H')->T6 v σ H Q->T6 v σ H b :=λ_ _ _ _ _ h q=>⟨q.1,h _ _ q.2⟩
theorem JX{t:TG}{u:HU}(mt:∀v σ H Q b,(∀a H',Q a H' ->b a H')->t v σ H Q->t v σ H b)(c:∀v σ H Q b,(∀a H',Q a H' ->b a H')->u v σ H Q->u v σ H b):
  ∀v σ H Q b,(∀a H',Q a H' ->b a H')->GU t u v σ H Q->GU t u v σ H b :=by
 intro vs σ H Q b h ⟨v,r,e,q⟩;exact⟨v,r,e,mt _ _ _ _ _ (λa H' d =>c _ _ _ _ _ h d) q⟩
variable{w:World}{R:Result->Shared->Prop}{ifs:List Expr}{pos:Pos}
theorem HD{prog:Program}{k a iter:Expr}{it l:Value}(I:Nat->Shared->Prop)
  (o:∀n s,I n s->wpAny (model prog w) A (pyNext it) (λr b=>match r with
   | none=>R (.ok .next) b
   | some v=>wpAny (model prog w) A (letOwnedTupleGo a it v) (λ_ b=>wpAny (model prog w) A (assign a env v) (λ_ f=>
     wpAny (model prog w) A (forIn ifs true λc r=>if r=true then do let ok<-isTrue c env (eval c env);pure (ForInStep.yield ok) else pure (ForInStep.yield r)) (λok e=>
      if ok=true then wpAny (model prog w) A (eval k env) (λx g=>
       wpAny (model prog w) A (call (.builtin "list.append") [l,x]) (λ_ i=>∃m,m<n/\I m i) (λ_ _=>False) g) (λ_ _=>False) e
      else ∃m,m<n/\I m e) (λ_ _=>False) f) (λ_ _=>False) b) (λ_ _=>False) b) (λ_ _=>False) s)
  (n:Nat) (h:I n s):codeAny (model prog w) A (.compLoop (.ListComp k [⟨a,iter,ifs,0⟩] scope pos) 0 it l env) R s:=by
 refine codeAny_loop rfl I (λn s u=>?_) n h;show wpAny _ A ((compTurn (.ListComp k [⟨a,iter,ifs,0⟩] scope pos) 0 it l env).onRaise (λx=>do noteFrame x env;theTreesLotGoes x)) _ _ s;refine wpAny_noted ?_;rw[compTurn_list];refine aM3 (aOl (aM3 (aNj (o n s u) (λr b d=>?_) λ_ _ h' =>h'.elim)))
 cases r with
 | none=>exact aM4 d
 | some v=>
  refine aM3 (aNj d (λ_ b d=>?_) λ_ _ h' =>h'.elim);refine aM3 (aNj d (λ_ f p=>aM3 (aNj p (λok e j=>?_) λ_ _ h' =>h'.elim)) λ_ _ h' =>h'.elim)
  cases ok with
  | false=>exact aM4 ⟨rfl,j⟩
  | true=>
   exact aM3 (aM3 (aNj j (λx g q=>aM3 (aNj q (λ_ i t=>aM4 (aM4 ⟨rfl,t⟩)) λ_ _ h' =>h'.elim)) λ_ _ h' =>h'.elim))
def HV(P:Program)(w:World)(p:Addr)(ks:List Key):HO:= .ext λ_ h=>ST.qZ (aW P w) (ST.gK w) h p ks
variable{P:Program}{h:Heap}
theorem LN{H:Hp}{p:Addr}{ks:List Key}(x:ST.qZ (aW P w) (ST.gK w) h p ks):dF P w H h p (HV P w p ks):=
 ⟨x,by obtain⟨o,_,_,_,ho,_⟩:=x;exact⟨o,ho⟩,λa b q k=>q.keep λo e=>k o e⟩
def aJs:V->Option Key
 | .int i=>some (.inl i)
 | .str x=>some (.inr x)
 | _=>none
abbrev VF(b:Bool)(a:Expr)(c:List Comprehension)(sc:Scope)(pos:Pos):Expr:=match b with
 | false=>.ListComp a c sc pos
 | true=>.SetComp a c sc pos
def cmO(P:Program)(w:World)(b:Bool)(a:Addr)(c:List V):HO:=match b with
 | false=>.lst c
 | true=>HV P w a (ST.cR [] (c.filterMap aJs))
abbrev cmN(b:Bool):Sem Value:=match b with
 | false=>newList []
 | true=>newSet (.type "set")
variable{Q:aPv}
theorem aEv{E:aPv}{b:Bool}(h:∀G:Heap,(∀c o,s.heap.get? c=some o->G.get? c=some o)->G.objs.size=s.heap.objs.size+1->
  (∀H,dF P w H G s.heap.objs.size (cmO P w b s.heap.objs.size []))->Q (.ref s.heap.objs.size) {s with heap:=G}):wpAny (model P w) A (cmN b) Q E s:=by
 cases b with
 | false=>exact aMs (h _ (λc o e=>aM5 _ e) (aOc _ _) λH=>⟨aN9 _,[],0,.nil,aMa _ rfl⟩)
 | true=>
  unfold cmN newSet;exact aM3 (ST.mC (aMs (h _ (λc o e=>aM5 _ e) (aOc _ _) λH=>LN (ST.yN (aMa _ rfl)))))
theorem US{prog:Program}{b:Bool}{a:Expr}{e:List Comprehension}{d:Nat}{g:Comprehension}{it c:Value}(j:e[d]? =some g)(ha:g.is_async=0)
  (h0:codeAny (model prog w) A (.compLoop (VF b a e scope pos) d it c env) R s)
  (h:wpAny (model prog w) A (pyIter it) (λf i =>codeAny (model prog w) A (.compLoop (VF b a e scope pos) d f c env) R i) (notedBy (model prog w) A env λx i =>R (.error x) i) s):
  codeAny (model prog w) A (.compStart (VF b a e scope pos) d it c env) R s:=by
 have k:clausesOf (VF b a e scope pos)=e:=by cases b <;> rfl
 have hd:(model prog w).den (.compStart (VF b a e scope pos) d it c env)=(compStart (VF b a e scope pos) d it c env).onRaise (λx=>do noteFrame x env;standAt theWindowsPlace):=by cases b <;> rfl
 refine codeAny_of_tree ?_;rw[hd];have l:A.under (.compStart (VF b a e scope pos) d it c env)=A:=by cases b <;> rfl
 rw[l];refine wpAny_notedAt ?_;unfold compStart;rw[k,j];simp only[Option.elim,ha,bne_self_eq_false,Bool.false_eq_true,if_false];refine aM3 (aP6 (wpAny_ite ?_));split
 ·exact aM4 (And.intro rfl h0)
 ·exact aM3 (aN4 (aM3 (aOl (aM3 (aNj h (λf i h' =>aM4 (And.intro rfl h')) λ_ _ x=>x)))))
abbrev TBd:=List V->St->Hp->(List V->Hp->Prop)->Prop
def aG7(P:Program)(w:World)(b:Bool)(own:List Str)(aS:List Nat)(wi:TI)(g:TG)(tt:TT)(k:Addr->TBd):TE:=λσ H Q=>wi σ H λJ f=>∀a,f a=none->
 ∃W:Nat->Nat->List V->Hp->Prop,(∃m,W 0 m [] (upd f a (cmO P w b a [])))/\∀i m e H,W i m e H->H a=some (cmO P w b a e)/\
  ((J.stop i H/\Q (.ref a) H)\/(J.go i H/\∃N:List V->Hp->Prop,(∀c H',N c H' ->∃h,h<m/\W (i+1) h c H')/\
   ∀x H',J.yld i H x H' ->g x (uB own aS σ) H' λd l=>tt d l λb j=>if b=true then k a e d j N else N e j))
def tbE(te:TE)(a:Addr):TBd:=λb σ H N=>b.length<sizeLine/\te σ H λy c=>c a=some (.lst b)/\N (b++[y]) (upd c a (.lst (b++[y])))
def tLC(own:List Str)(aS:List Nat)(wi:TI)(g:TG)(tt:TT)(te:TE):TE:=λσ H Q=>∀P w,aG7 P w false own aS wi g tt (tbE te) σ H Q
variable{pins:List (Addr×Obj)}{use:Option (Value->Sem Unit)}
theorem PM{bm:Bool}{tg iter elt:Expr}{more:List Comprehension}{wi:TI}{g:TG}{tt:TT}{tb:Addr->TBd}(own:List Str)(o1:Nat)(aS:List Nat)(B:Env->Addr->(Shared->Prop)->Shared->Prop)
  (hN:X.N=N) (hsc:X.env.scope=sc) (chk:hX N sc scope aS=true) (hcalm:X.calm=true) (hi:PI X tg iter wi) (ho1:o1<=own.length) (ho:zL o1 g)
  (hg:∀cl C fp s₀ H₀,PG (bE X own aS scope cl C fp s₀ H₀) tg g) (ht:∀cl C fp s₀ H₀,PTs (bE X own aS scope cl C fp s₀ H₀) ifs tt)
  (hbody:∀D cl C fp s₀ H₀ pins s σ H ys NN K,Inv (bE X own aS scope cl C fp s₀ H₀) pins σ H s->(∀j,o1<=j->j<own.length->σ[j]? =some none)->tb D ys σ H NN->
   (∀E H' s',Inv (bE X own aS scope cl C fp s₀ H₀) pins σ H' s' ->NN E H' ->K s')->B (compEnvC scope cl C X.env) D K s)
  (hloop:∀(it D:Addr) (env:Env) (R:Result->Shared->Prop) (I:Nat->Shared->Prop),(∀n s,I n s->wpAny (model X.prog X.w) X.A (pyNext (.ref it)) (λr M=>match r with
   | none=>R (.ok .next) M
   | some v=>wpAny (model X.prog X.w) X.A (letOwnedTupleGo tg (.ref it) v) (λ_ M=>wpAny (model X.prog X.w) X.A (assign tg env v) (λ_ s₂=>
     wpAny (model X.prog X.w) X.A (forIn ifs true λc r=>if r=true then do let ok<-isTrue c env (eval c env);pure (ForInStep.yield ok) else pure (ForInStep.yield r)) (λok s₃=>
      if ok=true then B env D (λs=>∃m,m<n/\I m s) s₃ else ∃m,m<n/\I m s₃) (λ_ _=>False) s₂) (λ_ _=>False) M) (λ_ _=>False) M) (λ_ _=>False) s)->
   ∀n s,I n s->codeAny (model X.prog X.w) X.A (.compLoop (VF bm elt (⟨tg,iter,ifs,0⟩::more) scope pos) 0 (.ref it) (.ref D) env) R s)
  (hs:∀x,foldedSetIterable iter X.env x=pure x)   {σ:St} {H:Hp} {Q:VK}  {Q' :aPv} (I:Inv X pins σ H s) (h:aG7 X.prog X.w bm own aS wi g tt tb σ H Q)
  (hend:∀(D C:Addr) (m:aPx) (H5:Hp) (s6:Shared) (r:Flow),Inv X pins σ H5 s6->H5 C=none->C≠X.env.locals->X.s₀.heap.objs.size<=C->(∀x c,X.env.cells.lookup x=some c->c≠C)->(∀p∈X.pn++pins,p.1≠C)->s6.heap.Ns C m->Q (.ref D) H5->
   compPost (model X.prog X.w) X.A X.xe use Q' (.ref D) C (.ok r) s6):
  wpAny (model X.prog X.w) X.A (comprehension (VF bm elt (⟨tg,iter,ifs,0⟩::more) scope pos) scope X.env (firstIterPos (⟨tg,iter,ifs,0⟩::more) pos) (cmN bm) (firstAsync (⟨tg,iter,ifs,0⟩::more)) (firstIter (⟨tg,iter,ifs,0⟩::more) X.env) use) Q' X.xe s:=by
 have ck:=KU.of hN hsc chk;have hcl:∀x∈scope.names,x.2= .free->∃c,X.env.cells.lookup x.1=some c:=λx hx hf=>I.ok.has x.1 (ck.fr x hx hf);refine wpAny_comprehension_free (use:=use) (cl:=mB scope.names X.env.cells []) (by cases bm <;> rfl) hs (AF hcl) ck.kind ck.loc (dZ (hi pins s σ H _ I h) λv s1 h1=>dZ h1 λitv s2 h2=>?_);obtain⟨it,fp,tn,J,H2,e,I2,T,pS,f2,hW⟩:=h2;subst e;refine aEv λG hGk hGs hGo=>zV (λO S kept hcs=>?_);dsimp only at S kept hcs⊢;have hacc0:H2 s2.heap.objs.size=none:=I2.cS.fresh (aM7 _);obtain⟨W,⟨m0,w0⟩,turn⟩:=hW s2.heap.objs.size hacc0;have f:Inv X pins σ (upd H2 s2.heap.objs.size (cmO X.prog X.w bm s2.heap.objs.size [])) {s2 with heap:=G}:=I2.laid (t' :=s2.toks) hGk (aM7 _) (hGo _);generalize hH3:upd H2 s2.heap.objs.size (cmO X.prog X.w bm s2.heap.objs.size [])=H3 at f w0
 have oldOk:∀x c,(mB scope.names X.env.cells []).lookup x=some c->X.env.cells.lookup x=some c:=λx c e=>by
  have:=B1 (cells:=X.env.cells) (P:=λx c=>X.env.cells.lookup x=some c) scope.names [] (by simp) (λn hn=>by
   obtain⟨c,hc⟩:=hcl (n,.free) hn rfl;have hc' :X.env.cells.lookup n=some c:=hc
   rw[hc'];rfl) (x,c) (aMu e)
  exact this
 have oldHas:∀x,scope.names.lookup x=some .free->∃c,(mB scope.names X.env.cells []).lookup x=some c:=λx e=>by
  obtain⟨c,hc⟩:=B2 (cells:=X.env.cells) scope.names [] x (aMu e);exact cW hc
 have newNo:∀x,scope.names.lookup x=some .free->(cellsFrom (G.objs.size+1) scope.names []).lookup x=none:=λx e=>by
  cases q:(cellsFrom (G.objs.size+1) scope.names []).lookup x with
  | none=>rfl
  | some c=>
   rcases KC _ _ _ (aMu q) with z | z
   ·cases z
   ·have:=ck.cel _ z rfl;rw[e]at this;cases this
 have oldLt:∀x c,X.env.cells.lookup x=some c->c<G.objs.size:=λx c e=>by obtain⟨v,z⟩:=f.cell x c e;exact z.lt
 generalize U :cellsFrom (G.objs.size+1) scope.names []++mB scope.names X.env.cells []=cl at⊢
 have l:∀x c,cl.lookup x=some c->X.env.cells.lookup x=some c\/(G.objs.size<c/\O.IsCell c none/\(x,c)∈cellsFrom (G.objs.size+1) scope.names []):=λx c e=>by
  rw[<-U,List.lookup_append]at e
  cases q:(cellsFrom (G.objs.size+1) scope.names []).lookup x with
  | none=>rw[q]at e;exact .inl (oldOk x c (by simpa using e))
  | some c' =>
   rw[q]at e;have e' :c' =c:=by simpa using e
   subst e';have hm:=aMu q;obtain⟨z1,z2⟩:=hcs.empty _ _ hm;exact .inr ⟨z2,z1,hm⟩
 have clHas:∀x,scope.names.lookup x=some .free->∃c,cl.lookup x=some c/\X.env.cells.lookup x=some c:=λx e=>by
  obtain⟨c,hc⟩:=oldHas x e;refine⟨c,?_,oldOk x c hc⟩;rw[<-U,List.lookup_append,newNo x e,hc];rfl
 have clNew:∀x,scope.names.lookup x=some .cell->∃c,cl.lookup x=some c:=λx e=>by
  obtain⟨c,hc⟩:=EB scope.names (G.objs.size+1) [] (aMu e);exact cW (c:=c) (by rw[<-U];exact aNu _ hc)
 have fpObj:=T.obj _ _ pS;have fpLt:∀b∈fp,b<s2.heap.objs.size:=λb a=>by obtain⟨o,e,_⟩:=fpObj b a;exact aMb e
 have cS:(bE X own aS scope cl G.objs.size fp {s2 with heap:=G} H3).Ok:=by
  refine⟨f.ok.mod,ck.kind,f.ok.glob,f.ok.blt,aM7 _,λx y c e1 t=>?_,λx hx=>?_,λx c hf e=>?_,f.ok.hd,f.ok.frames,.inl rfl,λb a=>⟨?_,λx c e=>?_⟩,f.bs,aMq f.ok.ZN f.sz,λb o e a=>?_,λb a z=>?_,f.stack,f.LF⟩
  ·have two:∀{x c},cl.lookup x=some c->_:=λ{x c} e=>l x c e;rcases two e1 with z1 | ⟨z1,_,m1⟩
   ·rcases two t with z2 | ⟨z2,_,m2⟩
    ·exact f.ok.inj x y c z1 z2
    ·have:=oldLt x c z1;exact absurd this (by lia)
   ·rcases two t with z2 | ⟨z2,_,m2⟩
    ·have:=oldLt y c z2;exact absurd this (by lia)
    ·exact name_of_addr hcs.apart m1 m2
  ·have hx:(relabel scope X.env).names.lookup x=some .cell\/(relabel scope X.env).names.lookup x=some .free:=hx
   have fr:∀{x},scope.names.lookup x=some .free->∃c,cl.lookup x=some c:=λ{x} e=>by
    obtain⟨c,h1,_⟩:=clHas x e;exact⟨c,h1⟩
   rcases hx with q | q
   ·obtain⟨k,hk,z | ⟨z,_⟩⟩:=rY q
    ·exact clNew x (by rw[hk,<-z])
    ·exact fr (by rw[hk,z])
   ·obtain⟨k,hk,z | ⟨_,z⟩⟩:=rY q
    ·exact fr (by rw[hk,<-z])
    ·cases z
  ·have hx:scope.names.lookup x=some .cell:=aP7.mp hf;obtain⟨c',hc'⟩:=EB scope.names (G.objs.size+1) [] (aMu hx);obtain⟨c'',hc''⟩:=cW hc';have e:cl.lookup x=some c:=e;rw[<-U,List.lookup_append,hc'']at e;have e' :c'' =c:=by simpa using e
   subst e';exact aNt (hcs.empty _ _ (aMu hc'')).2
  ·exact aMg (aPq (fpLt b a) (by show s2.heap.objs.size<G.objs.size;rw[hGs];exact aMt _))
  ·rcases l x c e with z | ⟨z,_⟩
   ·exact(f2 b a).2.2.2.2.1 x c z
   ·exact aNc (aPq (aPq (fpLt b a) (by show s2.heap.objs.size<G.objs.size;rw[hGs];exact aMt _)) z)
  ·rcases(f2 b a).2.2.2.1 with z | z
   ·exact f.ok.RW b o e z
   ·exact absurd (aMj (aMb e) (aMq f.ok.ZN z)) (aNk _)
  ·rcases aMf.mp (f.II b z) with q | q
   ·exact(f2 b a).2.1 q
   ·exact(f2 b a).2.2.1 q
 have hCn:H3 G.objs.size=none:=f.cS.fresh (aM7 _)
 have I4:Inv (bE X own aS scope cl G.objs.size fp {s2 with heap:=G} H3) [] (uB own aS σ) H3 {s2 with heap:=O}:=by
  refine⟨cS,rfl,f.bare,Un.kept kept,⟨_,S,λi x v e1 t e3=>?_⟩,λx c e=>?_,hCn,λx c e=>?_,λp hp=>absurd hp (by simp[bE]),f.cS.kept kept,by simp[uB,bE]⟩
  ·have hge:own.length<=i:=by
    refine aP5 λhlt=>?_;unfold uB at t;rw[List.getElem?_append_left (by simpa using hlt),List.getElem?_map]at t
    cases q:own[i]? with
    | none=>rw[q]at t;simp at t
    | some z=>rw[q]at t;simp at t
   unfold uB at t;have Y :(own++aS.map λi=>X.N.getD i "")[i]? =some x:=e1;rw[List.getElem?_append_right hge,List.getElem?_map]at Y;rw[List.getElem?_append_right (by simpa using hge),List.getElem?_map]at t;simp only[List.length_map]at t
   cases q:aS[i-own.length]? with
   | none=>rw[q]at Y;simp at Y
   | some k=>
    rw[q]at Y t;simp only[Option.map_some,Option.some.injEq]at Y t;obtain⟨x',hx',F⟩:=ck.cap k (aMc q);have ex:x' =x:=by rw[<-Y,List.getD_eq_getElem?_getD,hx'];rfl
    subst ex
    have e2' :σ[k]? =some (some v):=by
     cases w:σ[k]? with
     | none=>rw[w]at t;simp at t
     | some z=>rw[w]at t;simp at t;rw[t]
    have kx:=ck.fr _ (aMu F) rfl
    have visX:Vis X.env.scope x' :=by
     rcases kx with z | z
     ·exact .inr (.inl z)
     ·exact .inr (.inr z)
    obtain⟨m,hn,hl⟩:=f.loc;obtain⟨u,ru,lk⟩:=hl k x' v hx' e2' visX;refine⟨u,ru,.inr ⟨CS F,?_⟩⟩
    rcases lk with ⟨z,_⟩ | ⟨_,c,hc,hcell⟩
    ·rcases kx with z' | z' <;> (have z'' :=z.symm.trans z';cases z'')
    ·obtain⟨c',hc',this⟩:=clHas x' F;rw[hc]at this;cases this;obtain⟨o,ho,hd⟩:=hcell;exact⟨c,hc',⟨o,kept _ _ ho,hd⟩⟩
  ·rcases l x c e with z | ⟨_,z,_⟩
   ·obtain⟨v,o,ho,hd⟩:=f.cell x c z;exact⟨v,o,kept _ _ ho,hd⟩
   ·exact⟨_,z⟩
  ·rcases l x c e with z | ⟨z,_⟩
   ·exact f.oS x c z
   ·exact f.cS.fresh (aNt z)
 have st4:tn 0 O:=T.keep _ _ _ pS λb a o e=>kept b o (hGk b o e);have fp4:∀b∈fp,H3 b=none:=λb a=>by rw[<-hH3,bD (Nat.ne_of_lt (fpLt b a))];exact(f2 b a).1
 have stat:∀{H' :Hp},(∀b∈fp,H' b=none)->∀b∈fp,zM (bE X own aS scope cl G.objs.size fp {s2 with heap:=G} H3) [] H' b:=λhn b a=>
  ⟨hn b a,(cS.exf b a).1,cS.UE b a,.inl a,(cS.exf b a).2,λp hp=>absurd hp (by simp[bE])⟩
 have loop:codeAny (model X.prog X.w) X.A (.compLoop (VF bm elt (⟨tg,iter,ifs,0⟩::more) scope pos) 0 (.ref it) (.ref s2.heap.objs.size) (compEnvC scope cl G.objs.size X.env))
   (compPost (model X.prog X.w) X.A X.xe use Q' (.ref s2.heap.objs.size) G.objs.size) {s2 with heap:=O}:=by
  refine hloop _ _ _ _ (λn s' =>∃i ys H',Inv (bE X own aS scope cl G.objs.size fp {s2 with heap:=G} H3) [] (uB own aS σ) H' s' /\tn i s'.heap/\(∀b∈fp,H' b=none)/\W i n ys H') ?_ m0 _ ⟨0,[],H3,I4,st4,fp4,w0⟩;rintro n s5 ⟨i,ys,H5,I5,st5,fr5,w5⟩;obtain⟨hacc,turn5⟩:=turn i n ys H5 w5
  rcases turn5 with ⟨stop,q⟩ | ⟨go,NN,hNN,step⟩
  ·refine dZ (T.done (bE X own aS scope cl G.objs.size fp {s2 with heap:=G} H3) rfl rfl rfl hcalm i [] s5 _ H5 (λ_ _=>False) I5 (stat fr5) st5 stop) λr s6 zz0=>?_;obtain⟨hr,I6⟩:=zz0;subst hr;obtain⟨m,hm,_⟩:=id I6.loc
   have I7:Inv X pins σ H5 s6:=f.aIn (ch:=fp) I6.os I6.base I6.cS I6.bare λb a=>⟨(f2 b a).2.2.2.1,(f2 b a).2.1,λx c e=>(f2 b a).2.2.2.2.1 x c e,λp hp=>(f2 b a).2.2.2.2.2 p hp⟩
   exact hend _ _ m H5 s6 _ I7 I6.free (aNc (by have:=f.lt;exact this)) f.sz (λx c e=>by obtain⟨v,z⟩:=f.cell x c e;exact aMg z.lt) (λp hp=>aMg (aMb (f.pin p hp).1)) hm q
  ·refine dZ (T.item (bE X own aS scope cl G.objs.size fp {s2 with heap:=G} H3) rfl rfl rfl hcalm i [] s5 _ H5 (λ_ _=>False) I5 (stat fr5) st5 go) λr s6 zz1=>?_;obtain⟨u,hr,h6⟩:=zz1;subst hr;refine dZ h6 λ_ s7 zz2=>?_;obtain⟨x,H7,I7,r7,y7,st7,fr7⟩:=zz2;have I7' :=I7.pinned (stat fr7) (T.obj _ _ st7);refine dZ (hg _ _ _ _ _ _ s7 _ H7 x u _ I7' r7 (ho _ _ _ _ (step x H7 y7))) λ_ s8 zz3=>?_;obtain⟨σ8,H8,I8,q8,l8,k8⟩:=zz3;refine dZ (ht _ _ _ _ _ _ s8 σ8 H8 _ I8 q8) λok s9 zz4=>?_;obtain⟨H9,I9,q9⟩:=zz4
   have again:∀{E:List V} {L:Hp} {Z:Shared},Inv (bE X own aS scope cl G.objs.size fp {s2 with heap:=G} H3) ([]++xO fp s7.heap) σ8 L Z->NN E L->
     ∃m,m<n/\∃i ys H',Inv (bE X own aS scope cl G.objs.size fp {s2 with heap:=G} H3) [] (uB own aS σ) H' Z/\tn i Z.heap/\(∀b∈fp,H' b=none)/\W i m ys H' :=λ{E L Z} I10 n10=>by
    obtain⟨m',hm,w10⟩:=hNN E L n10
    have I10' :Inv (bE X own aS scope cl G.objs.size fp {s2 with heap:=G} H3) ([]:List (Addr×Obj)) (uB own aS σ) L Z:=I10.rN.weak l8.symm λj v e=>by
     have hge:own.length<=j:=by
      refine aP5 λhlt=>?_;unfold uB at e;rw[List.getElem?_append_left (by simpa using hlt),List.getElem?_map]at e
      cases q:own[j]? with
      | none=>rw[q]at e;simp at e
      | some z=>rw[q]at e;simp at e
     rw[k8 j (Nat.le_trans ho1 hge)];exact e
    refine⟨m',hm,i+1,E,L,I10',T.keep _ _ _ st7 λb a o e=>(I10.pin (b,o) (aMx _ (aMx _ (mR a e)))).1,λb a=>?_,w10⟩;obtain⟨o,e,d⟩:=T.obj _ _ st7 b a;exact(I10.pin (b,o) (aMx _ (aMx _ (mR a e)))).2.1
   cases ok with
   | false=>exact again I9 q9
   | true=>
    rw[if_pos rfl];refine hbody _ _ _ _ _ _ _ s9 σ8 H9 ys NN _ I9 (λj hj1 hj2=>?_) q9 λE L Z I10 q10=>again I10 q10;rw[k8 j hj1];unfold uB;rw[List.getElem?_append_left (by simpa using hj2),List.getElem?_map];simp[hj2]
 exact US (g:=⟨tg,iter,ifs,0⟩) (by cases bm <;> rfl) rfl loop (T.self _ 0 _ _ _ st4 loop)
theorem UP{σ:St}{Q:VK}(a C:Addr)(m:aPx)(d:Hp)(f:Shared)(r:Flow)(g:Inv X pins σ d f)(h:d C=none)(i:C≠X.env.locals)(j:X.s₀.heap.objs.size<=C)(k:∀x c,X.env.cells.lookup x=some c->c≠C)(l:∀p∈X.pn++pins,p.1≠C)(hm:f.heap.Ns C m)(q:Q (.ref a) d):
  compPost (model X.prog X.w) X.A X.xe none (EP X pins σ Q) (.ref a) C (.ok r) f:=
 ⟨m,hm,λh' n=>⟨.ref a,d,g.turned (t' :=f.toks) (it:=C) (λb o s e=>n.extBut b o s e) h i (.inr j) k l,rfl,q⟩⟩
section
variable {X:Cx}{tg iter elt:Expr}{ifs:List Expr}{scope sc:Scope}{N:List Str}{pos:Pos}{wi:TI}{g:TG}{tt:TT}{te:TE}(own:List Str)(aS:List Nat)
  (hN:X.N=N) (hsc:X.env.scope=sc) (chk:hX N sc scope aS=true) (hcalm:X.calm=true) (hi:PI X tg iter wi) (ho:zL own.length g)
  (hg:∀cl C fp s₀ H₀,PG (bE X own aS scope cl C fp s₀ H₀) tg g) (ht:∀cl C fp s₀ H₀,PTs (bE X own aS scope cl C fp s₀ H₀) ifs tt)
  (he:∀cl C fp s₀ H₀,PE (bE X own aS scope cl C fp s₀ H₀) elt te)
include hN hsc chk hcalm hi ho hg ht he
theorem MA(F:∀x,foldedSetIterable iter X.env x=pure x){σ:St}{H:Hp}{Q:VK}{E :aPv}(I:Inv X pins σ H s)(h:tLC own aS wi g tt te σ H Q)
  (d:∀(a C:Addr) (m:aPx) (f:Hp) (i:Shared) (r:Flow),Inv X pins σ f i->f C=none->C≠X.env.locals->X.s₀.heap.objs.size<=C->(∀x c,X.env.cells.lookup x=some c->c≠C)->(∀p∈X.pn++pins,p.1≠C)->i.heap.Ns C m->Q (.ref a) f->
   compPost (model X.prog X.w) X.A X.xe use E (.ref a) C (.ok r) i):
  wpAny (model X.prog X.w) X.A (comprehension (.ListComp elt [⟨tg,iter,ifs,0⟩] scope pos) scope X.env (firstIterPos [⟨tg,iter,ifs,0⟩] pos) (newList []) (firstAsync [⟨tg,iter,ifs,0⟩]) (firstIter [⟨tg,iter,ifs,0⟩] X.env) use) E X.xe s:=by
 refine PM (bm:=false) own own.length aS (λenv a K s=>wpAny (model X.prog X.w) X.A (eval elt env) (λx G=>wpAny (model X.prog X.w) X.A (call (.builtin "list.append") [.ref a,x]) (λ_ J=>K J) (λ_ _=>False) G) (λ_ _=>False) s)
  hN hsc chk hcalm hi (aM7 _) ho hg ht (λa cl C fp s₀ H₀ pins s σ H L M K N _ q k=>?_) (λit a env R I e n s h=>HD I e n h) F I (h _ _) d
 refine dZ (he _ _ _ _ _ _ s σ H _ N q.2) λO j l=>?_;obtain⟨y,o,t,P,b,u⟩:=l;refine dZ (BA _ j σ o (.ref a) [y] (.ref a) [O] (λv H' =>v= .bU/\M (L++[y]) H') t rfl (.cons P .nil) ⟨_,_,_,rfl,rfl,b,q.1,rfl,u⟩) λ_ S z=>?_;obtain⟨_,T,B,_,_,D⟩:=z;exact k _ _ _ B D
theorem aH1(a:∀x,foldedSetIterable iter X.env x=pure x:=by intro _;rfl):PE X (.ListComp elt [⟨tg,iter,ifs,0⟩] scope pos) (tLC own aS wi g tt te):=by
 intro pins s σ H Q I h;rw[eval_ListComp];exact MA own aS hN hsc chk hcalm hi ho hg ht he a I h UP
end
theorem RE{tg iter f:Expr}{pos d k:Pos}{wi:TI}{g:TG}{tt:TT}{te:TE}{x:Str}(own:List Str)(aS:List Nat)
  (hN:X.N=N) (hsc:X.env.scope=sc) (chk:hX N sc scope aS=true) (hcalm:X.calm=true) (hi:PI X tg iter wi) (ho:zL own.length g)
  (hg:∀cl C fp s₀ H₀,PG (bE X own aS scope cl C fp s₀ H₀) tg g) (ht:∀cl C fp s₀ H₀,PTs (bE X own aS scope cl C fp s₀ H₀) ifs tt)
  (he:∀cl C fp s₀ H₀,PE (bE X own aS scope cl C fp s₀ H₀) f te)
  (nd:X.N.Nodup) (l:X.N[i]? =some x) (y:Loc X.env.scope x) (A:swapsWith (.ListComp f [⟨tg,iter,ifs,0⟩] scope pos) (some (.Name x d)) k.line X.env=pure true)
  (B:X.fn x=true\/X.env.scope.names.lookup x=some .local) (E:∀x,foldedSetIterable iter X.env x=pure x:=by intro _;rfl):
  PS X (.Assign [.Name x d] (.ListComp f [⟨tg,iter,ifs,0⟩] scope pos) k) (VZ (tLC own aS wi g tt te) (u7 i)):=by
 intro pins s σ H D I h;rw[arm_exec_Assign];refine aM3 (aOl (aM3 (wpAny_of_eq (show swapsWithSole [.Name x d] _ k.line X.env=pure true from A) ?_)));rw[if_pos rfl];refine aM3 (aM3 (MA (Q:=λv F=>D.nx (σ.set i (some v)) F) own aS hN hsc chk hcalm hi ho hg ht he E I h λj C m G U r J K u L w M hm q=>?_));show wpAny _ _ (assign (.Name x d) X.env (.ref j)) _ _ _;refine PyProof.Rows.assign_Name (AX J nd l y (v:= .ref j) rfl (λO P n=>?_) B);obtain⟨a,R,ha⟩:=n
 have p:C≠a:=by
  rcases ha with rfl | ha
  ·exact u
  ·exact λz=>w x a ha z.symm
 refine⟨m,?_,λh' t=>aM4 (aM4 ⟨_,G,?_,q⟩)⟩
 ·obtain⟨o,es,S,e,c⟩:=hm;exact⟨o,es,S,(R.2 C p).trans e,c⟩
 ·exact P.turned (t' :=O.toks) (it:=C) (λb o T e=>t.extBut b o T e) K u (.inr L) w M
structure Src where
 it:Addr
 l:Addr
 tup:Bool
def Src.At(q:Src)(h:Heap)(i:Nat):Prop:=match q.tup with | true=>h.IsTupleIter q.it q.l i | false=>h.IsListIter q.it q.l i
def Src.Sq(q:Src)(h:Heap)(items:Array Value):Prop:=match q.tup with | true=>h.IsTuple q.l items | false=>h.IsList q.l items
variable{q:Src}{h':Heap}
theorem Src.At.to(x:q.At h i)(e:∀o,h.get? q.it=some o->h'.get? q.it=some o):q.At h' i:=by
 obtain⟨it,l,t⟩:=q;cases t <;> (obtain⟨o,ho,r⟩:=x;exact⟨o,e o ho,r⟩)
theorem Src.At.obj(x:q.At h i):∃o,h.get? q.it=some o/\o.data= .fields #[.ref q.l,.int i 0]:=by
 obtain⟨it,l,t⟩:=q;cases t <;> (obtain⟨o,ho,_,r⟩:=x;exact⟨o,ho,r⟩)
variable{items:Array Value}
theorem Src.Sq.to(x:q.Sq h items)(e:∀o,h.get? q.l=some o->h'.get? q.l=some o):q.Sq h' items:=by
 obtain⟨it,l,t⟩:=q;cases t <;> (obtain⟨o,ho,r⟩:=x;exact⟨o,e o ho,r⟩)
theorem Src.Sq.obj(x:q.Sq h items):∃o n,h.get? q.l=some o/\o.data= .seq items n:=by
 obtain⟨it,l,t⟩:=q;cases t <;> (obtain⟨o,ho,_,n,r⟩:=x;exact⟨o,n,ho,r⟩)
section
variable {prog:Program}{w:World}{A:Around}{E:aPv}{s:Shared}
theorem vF{it l:Addr}{x:Value}(c:s.heap.IsTupleIter it l i)(g:s.heap.IsTuple l items)(h:items[i]? =some x)
  (j:∀h',h'.IsTupleIter it l (i+1)->Heap.SameBut it s.heap h' ->Q x {s with heap:=h'}):wpAny (model prog w) A (Builtin.SmallTypes.nextOf (.ref it)) Q E s:=by
 obtain⟨k,b,d,a⟩:=id c;obtain⟨os,e,_,ns,f⟩:=g;unfold Builtin.SmallTypes.nextOf;refine aM3 (aMo (name:=Str.ofString "__next__") c.typeIs aNm (aMk aNm c.typeIs F.entry_tuple_iterator_next ?_ (F.args_tuple_iterator_next_1 _)));refine aM3 (m:=field (.ref it) 0) (aMz b a (x:= .ref l) rfl ?_);show wpAny _ _ (if (Value.ref l==Value.none)=true then _ else field (.ref it) 1 >>=_) _ _ s;rw[if_neg (show ¬((Value.ref l==Value.none)=true) from Bool.false_ne_true)];refine aM3 (aMz b a (x:= .int i 0) rfl ?_);refine aM3 (m:=seqItems? (.ref l)) (aN2 e f ?_);simp only[Int.toNat_natCast,h];refine aM3 (wpAny_setField b a (by simp) (aM4 ⟨x,rfl,aM4 (j _ ⟨_,aNn _ b (Obj.isFreed_of_fields (Obj.data_mapFields a _)),(Obj.cls_mapFields ..).trans d,?_⟩ (aN0 ..))⟩));rw[Obj.data_mapFields a];simp[rawInt]
theorem xY{it l:Addr}(h:A.handled=none)(b:s.heap.IsTupleIter it l i)(j:s.heap.IsTuple l items)(k:items[i]? =none)
  (n:∀h' e,Heap.ExtBut it s.heap h' ->(∃o,h'.get? e=some o/\o.cls= .type "StopIteration")->E (.ref e) {s with heap:=h'}):wpAny (model prog w) A (Builtin.SmallTypes.nextOf (.ref it)) Q E s:=by
 obtain⟨q,c,p,d⟩:=id b;obtain⟨os,f,_,ns,g⟩:=j;unfold Builtin.SmallTypes.nextOf;refine aM3 (aMo (name:=Str.ofString "__next__") b.typeIs aNm (aMk aNm b.typeIs F.entry_tuple_iterator_next ?_ (F.args_tuple_iterator_next_1 _)));refine aM3 (m:=field (.ref it) 0) (aMz c d (x:= .ref l) rfl ?_);show wpAny _ _ (if (Value.ref l==Value.none)=true then _ else field (.ref it) 1 >>=_) _ _ s;rw[if_neg (show ¬((Value.ref l==Value.none)=true) from Bool.false_ne_true)];refine aM3 (aMz c d (x:= .int i 0) rfl ?_);refine aM3 (m:=seqItems? (.ref l)) (aN2 f g ?_);simp only[Int.toNat_natCast,k];refine aM3 (aN4 (aM3 (wpAny_setField c d (by simp) ?_)));refine aM3 (m:=newExc (.type "StopIteration") []) ?_;simp only[newExc,newTuple];refine aM3 (aMs ?_ (by size_fits));refine aM3 (m:=firstArgMember _ _) (wpAny_of_eq (a:=Value.none) (by first | rfl | (simp only[firstArgMember];rfl)) ?_);refine aMs (?_:_) (by size_fits);simp only[raiseNew];refine aM3 (wpAny_handled (?_:_))
 first | rw[show A.in1.handled=none from h] | rw[h]
 refine aM3 (aM4 (wpAny_throw (?_:_)));exact n _ _ (((aN0 ..).extBut.push _).push _) ⟨_,aMa _ rfl,rfl⟩
theorem Src.item{x:Value}(a:q.At s.heap i)(b:q.Sq s.heap items)(c:items[i]? =some x)
  (d:∀h',q.At h' (i+1)->Heap.SameBut q.it s.heap h' ->Q x {s with heap:=h'}):wpAny (model prog w) A (Builtin.SmallTypes.nextOf (.ref q.it)) Q E s:=by
 obtain⟨it,l,t⟩:=q;cases t
 ·exact wpAny_nextOf_list_item a b c d
 ·exact vF a b c d
theorem Src.done(b:A.handled=none)(a:q.At s.heap i)(c:q.Sq s.heap items)(d:items[i]? =none)
  (f:∀h' e,Heap.ExtBut q.it s.heap h' ->(∃o,h'.get? e=some o/\o.cls= .type "StopIteration")->E (.ref e) {s with heap:=h'}):wpAny (model prog w) A (Builtin.SmallTypes.nextOf (.ref q.it)) Q E s:=by
 obtain⟨it,l,t⟩:=q;cases t
 ·exact wpAny_nextOf_list_end b a c d f
 ·exact xY b a c d f
theorem Src.start(a:q.Sq s.heap items)
  (c:∀h',(⟨s.heap.objs.size,q.l,q.tup⟩:Src).At h' 0->h'.objs.size=s.heap.objs.size+1->(∀b o,s.heap.get? b=some o->h'.get? b=some o)->Q (.ref s.heap.objs.size) {s with heap:=h'}):wpAny (model prog w) A (pyIter (.ref q.l)) Q E s:=by
 obtain⟨it,l,t⟩:=q;cases t
 ·exact aOy a (c _ ⟨_,aMa _ rfl,rfl,rfl⟩ (aOc ..) λb o e=>aM5 _ e)
 ·exact aOq a (c _ ⟨_,aMa _ rfl,rfl,rfl⟩ (aOc ..) λb o e=>aM5 _ e)
structure nD(h:Heap)(z TI TO:Addr)(qs:List Src)(f0:Value)(i:Nat):Prop where
 obj:h.get? z=some {cls:= .type "zip",dict:=none,data:= .fields #[f0,.bool false,.bool false,.ref TI,.ref TO],slots:= #[]}
 aM:∃n,h.get? TI=some {cls:= .type "tuple",data:= .seq (qs.map λq=>Value.ref q.it).toArray n}
 own:∃(xs:List Value) (n:Nat),xs.length=qs.length/\h.get? TO=some {cls:= .type "tuple",data:= .seq xs.toArray n}
 at_:∀q∈qs,q.At h i
structure qY(z TI TO:Addr)(qs:List Src):Prop where
 ne1:TI≠z
 ne2:TO≠z
 ne3:TI≠TO
 S4:∀q∈qs,q.it≠z/\q.it≠TI/\q.it≠TO
 nd:(qs.map (·.it)).Nodup
 src:∀q∈qs,q.l≠z/\q.l≠TO/\∀r∈qs,q.l≠r.it
end
section
variable {prog:Program}{w:World}{A:Around}{E:aPv}{s:Shared}
structure NL(h0 h:Heap)(z TI TO:Addr)(qs:List Src)(vals:List Value)(i j:Nat):Prop where
 obj:h.get? z=some {cls:= .type "zip",dict:=none,data:= .fields #[.ellipsis,.bool false,.bool false,.ref TI,.ref TO],slots:= #[]}
 own:∃(xs:List Value) (n:Nat),xs.length=qs.length/\xs.take j=vals.take j/\h.get? TO=some {cls:= .type "tuple",data:= .seq xs.toArray n}
 done:∀q∈qs.take j,q.At h (i+1)
 todo:∀q∈qs.drop j,q.At h i
 size:h.objs.size=h0.objs.size
 keep:∀c o,c≠z->c≠TO->(∀q∈qs,c≠q.it)->h0.get? c=some o->h.get? c=some o
theorem QB{z TI TO:Addr}{qs:List Src}{vals:List Value}(D:qY z TI TO qs)(Z:nD s.heap z TI TO qs .none i)(G:qs≠[])
  (hv:vals.length=qs.length) (F:∀(k:Nat) q x,qs[k]? =some q->vals[k]? =some x->∃items,q.Sq s.heap items/\items[i]? =some x) (hsz:qs.length<=sizeLine)
  (hQ:∀h',nD h' z TI TO qs (rawInt s.heap.objs.size) (i+1)->h'.get? s.heap.objs.size=some {cls:= .type "tuple",data:= .seq vals.toArray}->h'.objs.size=s.heap.objs.size+1->
   (∀c o,c≠z->c≠TO->(∀q∈qs,c≠q.it)->s.heap.get? c=some o->h'.get? c=some o)->Q (.ref s.heap.objs.size) {s with heap:=h'}):
  wpAny (model prog w) A (Builtin.«zip.__next__» ⟨[.ref z],[]⟩) (λfin s' =>∃v,fin= .done (.ret v)/\Q v s') E s:=by
 obtain⟨nI,N⟩:=Z.aM;obtain⟨xs0,n0,hx0,hTO⟩:=Z.own;refine aM3 (m:=field (.ref z) 2) (aMz Z.obj rfl (x:= .bool false) rfl ?_);refine aM3 (m:=field (.ref z) 3) (aMz Z.obj rfl (x:= .ref TI) rfl ?_);refine aM3 (m:=seqItems? (.ref TI)) (aN2 N rfl ?_)
 have O:(qs.map λq=>Value.ref q.it).toArray.isEmpty=false:=by cases qs with | nil=>exact absurd rfl G | cons a r=>rfl
 simp only[O];refine aM3 (m:=Builtin.SmallTypes.ownedTupleIsFree (.ref z)) ?_;refine aM3 (m:=field (.ref z) 0) (aMz Z.obj rfl (x:= .none) rfl (aM4 ?_));simp only[if_true];refine aM3 (aN4 ?_);refine aM3 (aMz Z.obj rfl (x:= .ref TO) rfl ?_);refine aM3 (aMp Z.obj (by simp) λh1 z1 u=>?_);refine aM3 ?_;refine aOf _ (λrest b s' =>b.1=none/\∃j h',s' ={s with heap:=h'}/\rest=((qs.map λq=>Value.ref q.it).zipIdx).drop j/\j<=qs.length/\NL s.heap h' z TI TO qs vals i j) _ ?turn ?fin _ _ ?start
 case start=>
  refine⟨rfl,0,h1,rfl,by simp,aN9 _,?_⟩;refine⟨z1,⟨xs0,n0,hx0,by simp,u.extBut _ _ D.ne2 hTO⟩,by simp,λq F=>?_,u.1,λc o f _ _ e=>u.extBut _ _ f e⟩;have P :q∈qs:=by simpa using F
  exact(Z.at_ q P).to λo e=>u.extBut _ _ (D.S4 q P).1 e
 case turn=>
  rintro x rest b s5 ⟨hb,j,h',rfl,hd,hj,d⟩
  have g:j<qs.length:=by
   refine Nat.lt_of_not_le λhle=>?_;rw[List.drop_eq_nil_of_le (by simpa using hle)]at hd;cases hd
  have R :=hd;rw[List.drop_eq_getElem_cons (by simpa using g)]at R;injection R with ex er;have S:x=(Value.ref qs[j].it,j):=by rw[ex];simp
  have h:qs[j]? =some qs[j]:=aN7 g;have H:vals[j]? =some vals[j]:=aN7 (by lia);generalize hqq:qs[j]=q at h S;generalize hvv:vals[j]'(by lia)=v at H;subst S;have I:q∈qs:=aMc h;obtain⟨items,hSq,hit⟩:=F j q v h H;obtain⟨l1,l2,l3⟩:=D.src q I;have T :q.Sq h' items:=hSq.to λo e=>d.keep _ o l1 l2 l3 e;have hAt:q.At h' i:=d.todo q (by rw[List.drop_eq_getElem_cons g,hqq];exact aM8);refine aM3 (wpAny_onRaise ?_);show wpAny _ _ (Builtin.SmallTypes.nextOf (.ref q.it) >>=_) _ _ _;refine aM3 (Src.item (s:={s with heap:=h'}) hAt T hit λY at2 J=>aM4 ?_);obtain⟨xs,n,y,B,hO⟩:=d.own;have K:=D.S4 q I;have L:Y.get? TO=some {cls:= .type "tuple",data:= .seq xs.toArray n}:=J.extBut _ _ (aNf K.2.2) hO;refine aM3 (m:=seqItems? (.ref TO)) (aN2 L rfl ?_);refine aM3 (aO7 L rfl ?_);refine aM3 (wpAny_letGo (aM4 ?_))
  have l:∀(k:Nat) p,qs[k]? =some p->k≠j->p.it≠q.it:=λk p t G e=>by
   have h1:(qs.map (·.it))[k]? =some q.it:=by rw[List.getElem?_map,t];simp[e]
   have Y:(qs.map (·.it))[j]? =some q.it:=by rw[List.getElem?_map,h];rfl
   obtain⟨a1,b1⟩:=aM6.mp h1;obtain⟨a2,b2⟩:=aM6.mp Y;refine G ?_;have pw:=aOh.mp D.nd;rcases Nat.lt_trichotomy k j with hlt | heq | hlt
   ·exact absurd (b1.trans b2.symm) (pw k j a1 a2 hlt)
   ·exact heq
   ·exact absurd (b2.trans b1.symm) (pw j k a2 a1 hlt)
  have up:∀c o,c≠TO->c≠q.it->h'.get? c=some o->(Y.update TO (Obj.mapSeq λx=>x.setIfInBounds j v)).get? c=some o:=λc o f M e=>(aN0 ..).extBut _ _ f (J.extBut _ _ M e);refine⟨rfl,j+1,_,rfl,er,g,⟨up _ _ (aNf D.ne2) (aNf K.1) d.obj,⟨xs.set j v,n,by simpa using y,?_,?_⟩,λp U=>?_,λp U=>?_,?_,λc o f M c3 e=>up c o M (c3 q I) (d.keep c o f M c3 e)⟩⟩
  ·have V :vals[j]? =some v:=H;have hjx:j<xs.length:=by lia
   rw[List.take_add_one,List.take_add_one,V,List.getElem?_set_self hjx,List.take_set_of_le (Nat.le_refl j),B]
  ·rw[Heap.get?_update_self _ L (by rfl)];simp[Obj.mapSeq]
  ·rw[List.take_add_one,h]at U;rcases aMi.mp U with z | z
   ·obtain⟨k,t⟩:=aOd z
    have hkj:k<j:=by
     have:=(aM6.mp t).1;rw[List.length_take]at this;lia
    rw[List.getElem?_take_of_lt hkj]at t;exact(d.done p z).to λo e=>up _ o (D.S4 p (aMc t)).2.2 (l k p t (by lia)) e
   ·have:p=q:=by simpa using z
    subst this;exact at2.to λo e=>(aN0 ..).extBut _ _ K.2.2 e
  ·obtain⟨k,t⟩:=aOd U;rw[List.getElem?_drop]at t;have hp' :p∈qs.drop j:=by rw[List.drop_eq_getElem_cons g];exact aM9 _ U
   exact(d.todo p hp').to λo e=>up _ o (D.S4 p (aMc t)).2.2 (l _ p t (by lia)) e
  ·rw[Heap.size_update,J.1];exact d.size
 case fin=>
  rintro⟨b1,b2⟩ s5 ⟨hb,j,h',rfl,hd,hj,d⟩
  have hje:j=qs.length:=by
   have:=aN5 List.length hd;simp at this
   lia
  subst hje;have hb' :b1=none:=hb;subst hb';obtain⟨xs,n,y,B,hO⟩:=d.own
  have hxv:xs=vals:=by
   rw[List.take_of_length_le (by lia),List.take_of_length_le (by lia)]at B;exact B
  subst hxv;refine aM3 (m:=seqItems? (.ref TO)) (aN2 hO rfl ?_);refine aM3 (aOb ?_ (by simpa using aMq (Nat.le_of_eq y) hsz));refine aM3 (m:=Builtin.SmallTypes.ownedTupleHandOut (.ref z) (.ref h'.objs.size)) ?_;have z5:(h'.push {cls:= .type "tuple",data:= .seq xs.toArray}).get? z=some {cls:= .type "zip",dict:=none,data:= .fields #[.ellipsis,.bool false,.bool false,.ref TI,.ref TO],slots:= #[]}:=aM5 _ d.obj;refine aM3 (aMp z5 (by simp) λh7 z7 W=>?_);refine aMp z7 (by simp) λh8 z8 X=>aM4 ⟨_,rfl,?_⟩;have zlt:z<h'.objs.size:=aMb d.obj;have up:∀c o,c≠z->(h'.push {cls:= .type "tuple",data:= .seq xs.toArray}).get? c=some o->h8.get? c=some o:=λc o f e=>X.extBut _ _ f (W.extBut _ _ f e);have C:∀c o,c≠z->h'.get? c=some o->h8.get? c=some o:=λc o f e=>up c o f (aM5 _ e);show Q (.ref h'.objs.size) _;have hs:=d.size;rw[hs];refine hQ h8 ⟨?_,⟨nI,?_⟩,⟨xs,n,y,C _ _ D.ne2 hO⟩,λq F=>?_⟩ ?_ ?_ λc o f M c3 e=>C c o f (d.keep c o f M c3 e)
  ·rw[z8,hs];rfl
  ·exact C _ _ D.ne1 (d.keep _ _ D.ne1 D.ne3 (λq F=>aNf (D.S4 q F).2.1) N)
  ·exact(d.done q (by rw[List.take_length];exact F)).to λo e=>C _ o (D.S4 q F).1 e
  ·rw[<-hs];exact up _ _ (aNc zlt) (aMa _ rfl)
  ·rw[X.1,W.1,Heap.size_push,hs]
end
section
variable {prog:Program}{w:World}{A:Around}{E:aPv}{s:Shared}
variable{qs:List Src}
theorem VI{z TI TO:Addr}{i k:Nat}{Q:PySem.Fin->Shared->Prop}(hh:A.handled=none)(D:qY z TI TO qs)(Z:nD s.heap z TI TO qs .none i)
  (X:∀(j:Nat) q,qs[j]? =some q->j<k->∃items x,q.Sq s.heap items/\items[i]? =some x) (g:∃q items,qs[k]? =some q/\q.Sq s.heap items/\items[i]? =none) (hsz:qs.length<=sizeLine)
  (hE:∀h' e,(∀c o,c≠z->c≠TO->(∀q∈qs,c≠q.it)->s.heap.get? c=some o->h'.get? c=some o)->(∃o,h'.get? e=some o/\o.cls= .type "StopIteration")->E (.ref e) {s with heap:=h'}):
  wpAny (model prog w) A (Builtin.«zip.__next__» ⟨[.ref z],[]⟩) Q E s:=by
 obtain⟨nI,Y⟩:=Z.aM;obtain⟨K,n0,hx0,hTO⟩:=Z.own;obtain⟨qk,W,L,hSk,hik⟩:=g;have hkl:k<qs.length:=(aM6.mp L).1;refine aM3 (m:=field (.ref z) 2) (aMz Z.obj rfl (x:= .bool false) rfl ?_);refine aM3 (m:=field (.ref z) 3) (aMz Z.obj rfl (x:= .ref TI) rfl ?_);refine aM3 (m:=seqItems? (.ref TI)) (aN2 Y rfl ?_)
 have M:(qs.map λq=>Value.ref q.it).toArray.isEmpty=false:=by cases qs with | nil=>simp at hkl | cons a r=>rfl
 simp only[M];refine aM3 (m:=Builtin.SmallTypes.ownedTupleIsFree (.ref z)) ?_;refine aM3 (m:=field (.ref z) 0) (aMz Z.obj rfl (x:= .none) rfl (aM4 ?_));simp only[if_true];refine aM3 (aN4 ?_);refine aM3 (aMz Z.obj rfl (x:= .ref TO) rfl ?_);refine aM3 (aMp Z.obj (by simp) λh1 z1 u=>?_);refine aM3 ?_;refine aOf _ (λrest b s' =>∃j h' vals,s' ={s with heap:=h'}/\rest=((qs.map λq=>Value.ref q.it).zipIdx).drop j/\j<=k/\NL s.heap h' z TI TO qs vals i j) _ ?turn ?fin _ _ ?start
 case start=>
  refine⟨0,h1,K,rfl,by simp,aN9 _,?_⟩;refine⟨z1,⟨K,n0,hx0,by simp,u.extBut _ _ D.ne2 hTO⟩,by simp,λq X=>?_,u.1,λc o F _ _ e=>u.extBut _ _ F e⟩;have N :q∈qs:=by simpa using X
  exact(Z.at_ q N).to λo e=>u.extBut _ _ (D.S4 q N).1 e
 case fin=>
  rintro b s5 ⟨j,h',vals,rfl,hd,hj,h⟩;have:=aN5 List.length hd;simp at this
  lia
 case turn=>
  rintro x rest b s5 ⟨j,h',vals,rfl,hd,hj,h⟩;have y:j<qs.length:=by lia
  have O :=hd;rw[List.drop_eq_getElem_cons (by simpa using y)]at O;injection O with ex er;have P:x=(Value.ref qs[j].it,j):=by rw[ex];simp
  have d:qs[j]? =some qs[j]:=aN7 y;generalize hqq:qs[j]=q at d P;subst P;have B:q∈qs:=aMc d;have C:=D.S4 q B;obtain⟨l1,l2,l3⟩:=D.src q B;have R:q.At h' i:=h.todo q (by rw[List.drop_eq_getElem_cons y,hqq];exact aM8);refine aM3 (wpAny_onRaise ?_);show wpAny _ _ (Builtin.SmallTypes.nextOf (.ref q.it) >>=_) _ _ _;by_cases hjk:j=k
  ·subst hjk;obtain rfl:qk=q:=(aMn (d.symm.trans L)).symm;have l :=hSk.to (h' :=h') λo e=>h.keep _ o l1 l2 l3 e;refine aM3 (Src.done (s:={s with heap:=h'}) hh R l hik λI e f he=>?_);obtain⟨oe,G,S⟩:=he;have z2:I.get? z=some {cls:= .type "zip",dict:=none,data:= .fields #[.ellipsis,.bool false,.bool false,.ref TI,.ref TO],slots:= #[]}:=f _ _ (aNf C.1) h.obj;have hez:e≠z:=λx=>by subst x;rw[z2]at G;cases G;simp at S
   refine aMp z2 (by simp) λh3 _ T=>hE h3 e (λc o F J U q' =>T.extBut _ _ F (f _ _ (U _ B) (h.keep c o F J U q'))) ⟨oe,T.extBut _ _ hez G,S⟩
  ·obtain⟨items,v,hSq,hit⟩:=X j q d (by lia);have l :q.Sq h' items:=hSq.to λo e=>h.keep _ o l1 l2 l3 e;refine aM3 (Src.item (s:={s with heap:=h'}) R l hit λI at2 f=>aM4 ?_);obtain⟨xs,n,hxl,hxt,hO⟩:=h.own;have H:I.get? TO=some {cls:= .type "tuple",data:= .seq xs.toArray n}:=f.extBut _ _ (aNf C.2.2) hO;refine aM3 (m:=seqItems? (.ref TO)) (aN2 H rfl ?_);refine aM3 (aO7 H rfl ?_);refine aM3 (wpAny_letGo (aM4 ?_))
   have t:∀(k:Nat) p,qs[k]? =some p->k≠j->p.it≠q.it:=λk p g hne e=>by
    have h1:(qs.map (·.it))[k]? =some q.it:=by rw[List.getElem?_map,g];simp[e]
    have I:(qs.map (·.it))[j]? =some q.it:=by rw[List.getElem?_map,d];rfl
    obtain⟨a1,b1⟩:=aM6.mp h1;obtain⟨a2,b2⟩:=aM6.mp I;refine hne ?_;have pw:=aOh.mp D.nd;rcases Nat.lt_trichotomy k j with hlt | heq | hlt
    ·exact absurd (b1.trans b2.symm) (pw k j a1 a2 hlt)
    ·exact heq
    ·exact absurd (b2.trans b1.symm) (pw j k a2 a1 hlt)
   have up:∀c o,c≠TO->c≠q.it->h'.get? c=some o->(I.update TO (Obj.mapSeq λx=>x.setIfInBounds j v)).get? c=some o:=λc o F J e=>(aN0 ..).extBut _ _ F (f.extBut _ _ J e);refine⟨j+1,_,xs.set j v,rfl,er,by lia,⟨up _ _ (aNf D.ne2) (aNf C.1) h.obj,⟨xs.set j v,n,by simpa using hxl,rfl,?_⟩,λp V=>?_,λp V=>?_,?_,λc o F J U e=>up c o J (U q B) (h.keep c o F J U e)⟩⟩
   ·rw[Heap.get?_update_self _ H (by rfl)];simp[Obj.mapSeq]
   ·rw[List.take_add_one,d]at V;rcases aMi.mp V with z | z
    ·obtain⟨k,g⟩:=aOd z
     have hkj:k<j:=by
      have:=(aM6.mp g).1;rw[List.length_take]at this;lia
     rw[List.getElem?_take_of_lt hkj]at g;exact(h.done p z).to λo e=>up _ o (D.S4 p (aMc g)).2.2 (t k p g (by lia)) e
    ·have:p=q:=by simpa using z
     subst this;exact at2.to λo e=>(aN0 ..).extBut _ _ C.2.2 e
   ·obtain⟨k,g⟩:=aOd V;rw[List.getElem?_drop]at g;have hp' :p∈qs.drop j:=by rw[List.drop_eq_getElem_cons y];exact aM9 _ V
    exact(h.todo p hp').to λo e=>up _ o (D.S4 p (aMc g)).2.2 (t _ p g (by lia)) e
   ·rw[Heap.size_update,f.1];exact h.size
variable{Q:Option Value->Shared->Prop}
theorem zU{z TI TO:Addr}{vals:List Value}(D:qY z TI TO qs)(Z:nD s.heap z TI TO qs .none i)(a:qs≠[])
  (d:vals.length=qs.length) (e:∀(k:Nat) q x,qs[k]? =some q->vals[k]? =some x->∃items,q.Sq s.heap items/\items[i]? =some x) (hsz:qs.length<=sizeLine)
  (f:∀h',nD h' z TI TO qs (rawInt s.heap.objs.size) (i+1)->h'.get? s.heap.objs.size=some {cls:= .type "tuple",data:= .seq vals.toArray}->h'.objs.size=s.heap.objs.size+1->
   (∀c o,c≠z->c≠TO->(∀q∈qs,c≠q.it)->s.heap.get? c=some o->h'.get? c=some o)->Q (some (.ref s.heap.objs.size)) {s with heap:=h'}):
  wpAny (model prog w) A (pyNext (.ref z)) Q E s:=by
 have b:s.TypeIs (.ref z) "zip":=⟨_,Z.obj,rfl⟩
 unfold pyNext
 exact aM3 (aNl (aMo (name:=Str.ofString "__next__") b aOo (aMk aOo b F.entry_zip_next
  (QB D Z a d e hsz λh' g h j l=>aM4 (f h' g h j l)) (F.args_zip_next_1 _))))
theorem C3{z TI TO:Addr}{i k:Nat}(d:A.handled=none)(D:qY z TI TO qs)(Z:nD s.heap z TI TO qs .none i)
  (f:∀(j:Nat) q,qs[j]? =some q->j<k->∃items x,q.Sq s.heap items/\items[i]? =some x) (g:∃q items,qs[k]? =some q/\q.Sq s.heap items/\items[i]? =none) (hsz:qs.length<=sizeLine)
  (h:∀h',(∀c o,c≠z->c≠TO->(∀q∈qs,c≠q.it)->s.heap.get? c=some o->h'.get? c=some o)->Q none {s with heap:=h'}):wpAny (model prog w) A (pyNext (.ref z)) Q E s:=by
 have a:s.TypeIs (.ref z) "zip":=⟨_,Z.obj,rfl⟩
 unfold pyNext
 refine aM3 (aNl (aMo (name:=Str.ofString "__next__") a aOo (aMk aOo a F.entry_zip_next
  (VI d D Z f g hsz λh' e kp he=>?_) (F.args_zip_next_1 _))))
 obtain⟨o,ho,l⟩:=he;refine aM3 (aNy (T:= "StopIteration") (b:=true) ⟨o,ho,l⟩ isSubtype_stop ?_);exact aM4 (h _ kp)
theorem aEg{elts:List Expr}{x1}{z TI TO T:Addr}{Q:Unit->Shared->Prop}(D:qY z TI TO qs)(Z:nD s.heap z TI TO qs (rawInt T) i)
  (d:∀h',nD h' z TI TO qs .none i->Heap.SameBut z s.heap h' ->Q () {s with heap:=h'}):wpAny (model prog w) A (letOwnedTupleGo (.Tuple elts x1 pos) (.ref z) (.ref T)) Q E s:=by
 unfold letOwnedTupleGo;refine aM3 (wpAny_load Z.obj ?_);show wpAny _ _ (if (["enumerate","zip","dict_itemiterator","dict_reverseitemiterator","odict_iterator","itertools.zip_longest","itertools.pairwise"].contains "zip" && (#[rawInt T,.bool false,.bool false,.ref TI,.ref TO]:Array Value)[0]? ==some (rawInt T))=true then _ else _) Q E s;rw[if_pos (by simp)];refine aM3 (aN4 ?_);show wpAny _ _ (setField (.ref z) 0 .none) Q E s;refine aMp Z.obj (by simp) λh' b a=>d h' ⟨b,?_,?_,λq c=>(Z.at_ q c).to λo e=>a.extBut _ _ (D.S4 q c).1 e⟩ a
 ·obtain⟨n,e⟩:=Z.aM;exact⟨n,a.extBut _ _ D.ne1 e⟩
 ·obtain⟨xs,n,l,e⟩:=Z.own;exact⟨xs,n,l,a.extBut _ _ D.ne2 e⟩
theorem GL{z TI TO:Addr}{f0:Value}{Q:aPv}(Z:nD s.heap z TI TO qs f0 i)(h:Q (.ref z) s):wpAny (model prog w) A (pyIter (.ref z)) Q E s:=by
 have a:s.TypeIs (.ref z) "zip":=⟨_,Z.obj,rfl⟩
 refine aOz a F.slot_zip_iter (aMk F.slot_zip_iter a F.entry_zip_iter ?_ (F.args_zip_iter_1 _));exact aM4 ⟨_,rfl,"zip",_,a,aOo.lookup,h⟩
end
section
variable {prog:Program}{w:World}{A:Around}{E:aPv}{s:Shared}
def b8:Nat->List Src->List Src
 | _,[]=>[]
 | n,q::r=>⟨n,q.l,q.tup⟩::b8 (n+1) r
theorem lG:∀(n:Nat) (qs:List Src),(b8 n qs).length=qs.length
 | _,[]=>rfl
 | n,_::r=>by simp[b8,lG (n+1) r]
theorem gU:∀{n:Nat} {qs:List Src} {p:Src},p∈b8 n qs->n<=p.it/\p.it<n+qs.length/\∃q∈qs,p.l=q.l/\p.tup=q.tup
 | n,q::r,p,h=>by
  rcases aMf.mp h with rfl | h
  ·exact⟨aM7 _,by simp,q,aM8,rfl,rfl⟩
  ·obtain⟨a,b,c,d,e⟩:=gU h;exact⟨Nat.le_of_succ_le a,Nat.lt_of_lt_of_eq b (by simp only[List.length_cons];lia),c,aM9 _ d,e⟩
theorem sI:∀(n:Nat) (qs:List Src),((b8 n qs).map (·.it)).Nodup
 | _,[]=>by simp[b8]
 | n,q::r=>by
  simp only[b8,List.map_cons,List.nodup_cons];refine⟨λh=>?_,sI (n+1) r⟩;obtain⟨p,a,e⟩:=aMd.mp h;have b:=(gU a).1;have c :p.it=n:=e;exact absurd b (by rw[c];exact Nat.not_succ_le_self n)
theorem u5{Q:Array Value->Shared->Prop}:∀(qs:List Src) (a:Array Value) (s:Shared),(∀q∈qs,∃items,q.Sq s.heap items)->
  (∀h',h'.objs.size=s.heap.objs.size+qs.length->(∀b o,s.heap.get? b=some o->h'.get? b=some o)->(∀p∈b8 s.heap.objs.size qs,p.At h' 0)->Q (a++((b8 s.heap.objs.size qs).map λp=>Value.ref p.it).toArray) {s with heap:=h'})->
  wpAny (model prog w) A (forIn (qs.map λq=>Value.ref q.l) a λx aM=>do let r<-holding aM.toList (pyIter x);pure (ForInStep.yield (aM.push r))) Q E s
 | [],a,s,_,hQ=>by
  have:=hQ s.heap (by simp) (λ_ _ e=>e) (by simp[b8]);simp only[List.map_nil,List.forIn_nil];refine aM4 ?_;simpa[b8] using this
 | q::r,a,s,hs,hQ=>by
  obtain⟨items,n⟩:=hs q aM8;simp only[List.map_cons,List.forIn_cons];refine aM3 (aM3 (aMv (Src.start n λh' h sz kp=>aM4 ?_)));refine u5 r (a.push (.ref s.heap.objs.size)) {s with heap:=h'} (λt i =>?_) λg j c k=>?_
  ·obtain⟨m,u⟩:=hs t (aM9 _ i);exact⟨m,u.to λo e=>kp _ o e⟩
  ·have v:g.objs.size=s.heap.objs.size+(q::r).length:=by
    have:g.objs.size=h'.objs.size+r.length:=j;rw[this,sz,List.length_cons];lia
   have d :h'.objs.size=s.heap.objs.size+1:=sz;have f :∀p∈b8 (s.heap.objs.size+1) r,p.At g 0:=by rw[<-d];exact k
   have:=hQ g v (λb o e=>c b o (kp b o e)) (λp hp=>by
    rcases aMf.mp hp with rfl | hp
    ·exact h.to λo e=>c _ o e
    ·exact f p hp)
   have y:(a.push (.ref s.heap.objs.size)++((b8 h'.objs.size r).map λp=>Value.ref p.it).toArray)=(a++((b8 s.heap.objs.size (q::r)).map λp=>Value.ref p.it).toArray):=by
    rw[d];simp[b8]
   show Q (a.push (.ref s.heap.objs.size)++((b8 h'.objs.size r).map λp=>Value.ref p.it).toArray) _;rw[y];exact this
theorem Y4:(5:Nat)<=sizeLine+2:=Nat.add_le_add_right (by decide:3<=sizeLine) 2
theorem JI(qs:List Src)(hsz:qs.length<=sizeLine):Meets (Builtin.«zip.__new__» ⟨.type "zip"::(qs.map λq=>Value.ref q.l),[]⟩) (λ_ R s=>(∀q∈qs,∃items,q.Sq s.heap items)/\
   ∀h' z TI TO,s.heap.objs.size+qs.length<=TI->TI≠TO->TI≠z->TO≠z->s.heap.objs.size+qs.length<=TO->s.heap.objs.size+qs.length<=z->nD h' z TI TO (b8 s.heap.objs.size qs) .none 0->(∀b o,s.heap.get? b=some o->h'.get? b=some o)->R (.ok (.ret (.ref z))) {s with heap:=h'}):=
 .of_wp λprog w A R s h=>by
  obtain⟨k,f⟩:=h;unfold Builtin.«zip.__new__»;have g:=sub_zip;refine aM3 (m:=Builtin.SmallTypes.newClass "zip" _) ?_;unfold Builtin.SmallTypes.newClass
  wp_walk
  refine u5 qs #[] s k λh' sz kp a =>?_;have c:(b8 s.heap.objs.size qs).length=qs.length:=lG _ _;have n:((#[]:Array Value)++((b8 s.heap.objs.size qs).map λp=>Value.ref p.it).toArray).toList=(b8 s.heap.objs.size qs).map λp=>Value.ref p.it:=by simp
  refine aM4 ?_;simp only[n];refine aM3 (aOb ?_ (by simp[c];exact hsz));refine aM3 (aOb ?_ (by simp[c];exact hsz));unfold Builtin.SmallTypes.newRecord;dsimp only;refine aM3 (aMs ?_ Y4);refine aM4 ⟨_,rfl,?_⟩;generalize d:b8 s.heap.objs.size qs=ls at c a f⊢;have r:(h'.push {cls:= .type "tuple",data:= .seq ((ls.map λp=>Value.ref p.it).toArray)}).objs.size=h'.objs.size+1:=aOc ..;have i:(h'.push {cls:= .type "tuple",data:= .seq ((ls.map λp=>Value.ref p.it).toArray)}).get? h'.objs.size=some _:=aMa _ rfl;have k1:∀b o,h'.get? b=some o->(h'.push {cls:= .type "tuple",data:= .seq ((ls.map λp=>Value.ref p.it).toArray)}).get? b=some o:=λb o e=>aM5 _ e;generalize t:h'.push {cls:= .type "tuple",data:= .seq ((ls.map λp=>Value.ref p.it).toArray)}=h1 at r i k1⊢;have u:(h1.push {cls:= .type "tuple",data:= .seq ((List.map (λx=>Value.none) (ls.map λp=>Value.ref p.it)).toArray)}).objs.size=h1.objs.size+1:=aOc ..;have j:(h1.push {cls:= .type "tuple",data:= .seq ((List.map (λx=>Value.none) (ls.map λp=>Value.ref p.it)).toArray)}).get? h1.objs.size=some _:=aMa _ rfl;have k2:∀b o,h1.get? b=some o->(h1.push {cls:= .type "tuple",data:= .seq ((List.map (λx=>Value.none) (ls.map λp=>Value.ref p.it)).toArray)}).get? b=some o:=λb o e=>aM5 _ e;generalize v:h1.push {cls:= .type "tuple",data:= .seq ((List.map (λx=>Value.none) (ls.map λp=>Value.ref p.it)).toArray)}=h2 at u j k2⊢;refine f _ h2.objs.size h'.objs.size h1.objs.size (by lia) (by lia) (by lia) (by lia) (by lia) (by lia) ⟨?_,⟨0,?_⟩,⟨List.map (λx=>Value.none) (ls.map λp=>Value.ref p.it),0,by simp[d],?_⟩,λq y=>?_⟩ λb o e=>aM5 _ (k2 _ _ (k1 _ _ (kp b o e)))
  ·exact aMa _ rfl
  ·exact aM5 _ (k2 _ _ i)
  ·exact aM5 _ j
  ·exact(a q y).to λo e=>aM5 _ (k2 _ _ (k1 _ _ e))
theorem PR{qs:List Src}(hsz:qs.length<=sizeLine)(k:checkTypeCall "zip" ⟨qs.map λq=>Value.ref q.l,[]⟩=pure ())(hN:checkBuiltinCall "zip.__new__" ⟨.type "zip"::qs.map λq=>Value.ref q.l,[]⟩=pure ())
  (m:∀obj,argsOk "object.__init__" ⟨obj::qs.map λq=>Value.ref q.l,[]⟩) (g:∀q∈qs,∃items,q.Sq s.heap items)
  (h:∀h' z TI TO,s.heap.objs.size<=TI->s.heap.objs.size<=TO->s.heap.objs.size<=z->qY z TI TO (b8 s.heap.objs.size qs)->nD h' z TI TO (b8 s.heap.objs.size qs) .none 0->(∀b o,s.heap.get? b=some o->h'.get? b=some o)->Q (.ref z) {s with heap:=h'}):
  wpAny (model prog w) A (call (.type "zip") (qs.map λq=>Value.ref q.l)) Q E s:=by
 refine callType_new F.called_zip (by decide) k hN m F.entry_zip_new (JI qs hsz) ⟨g,λh' z TI TO p t u v i j Z kp=>?_⟩;refine⟨⟨_,Z.obj,rfl⟩,h h' z TI TO (by lia) (by lia) (by lia) ⟨u,v,t,λq d=>?_,sI _ _,λq d=>?_⟩ Z kp⟩
 ·obtain⟨x,c,_⟩:=gU d;exact⟨aMg (aMj c j),aMg (aMj c p),aMg (aMj c i)⟩
 ·obtain⟨x,c,y,e,B,_⟩:=gU d;obtain⟨items,f⟩:=g y e;obtain⟨o,n,ho,_⟩:=f.obj;have a:q.l<s.heap.objs.size:=by rw[B];exact aMb ho
  exact⟨aMg (aMj a (aMq (Nat.le_add_right _ _) j)),aMg (aMj a (aMq (Nat.le_add_right _ _) i)),λr C=>aMg (aMj a (gU C).1)⟩
end
def IB(K:aPu)(H:Hp)(t:Bool)(a:Addr)(xs:List V):Prop:=match t with | true=>zI K H a xs | false=>rA K H a xs
def Itz(K:aPu)(src:List (Addr×Bool)):It where
 go:=λi H=>∃vs:List V,vs.length=src.length/\∀(k:Nat) a t v,src[k]? =some (a,t)->vs[k]? =some v->∃xs,IB K H t a xs/\xs[i]? =some v
 yld:=λi H x H' =>∃p vs,H p=none/\x= .ref p/\H' =upd H p (.tup vs)/\vs.length=src.length/\∀(k:Nat) a t v,src[k]? =some (a,t)->vs[k]? =some v->∀xs,IB K H t a xs->xs[i]? =some v
 stop:=λi H=>∃(k:Nat) (a:Addr) (t:Bool) (xs:List V),src[k]? =some (a,t)/\IB K H t a xs/\xs.length<=i/\∀(j:Nat) b u,j<k->src[j]? =some (b,u)->∃c,IB K H u b c/\i<c.length
section
variable {X:Cx}{pins:List (Addr×Obj)}{σ:St}{H:Hp}{s:Shared}
theorem Inv.sqx{t:Bool}{a:Addr}{xs:List V}(I:Inv X pins σ H s)(h:IB X.K H t a xs):∃aM:List Value,Vals xs aM/\∀it,(⟨it,a,t⟩:Src).Sq s.heap aM.toArray:=by
 cases t with
 | true=>obtain⟨aM,r,p,_⟩:=I.tuple h;exact⟨aM,r,λ_=>p⟩
 | false=>obtain⟨aM,r,p,_⟩:=I.list h;exact⟨aM,r,λ_=>p.isList⟩
theorem Inv.LH{t:Bool}{a:Addr}{xs b:List V}(I:Inv X pins σ H s)(h:IB X.K H t a xs)(h' :IB X.K H t a b):xs=b:=by
 cases t with
 | true=>exact I.AW h h'
 | false=>exact I.GC h h'
theorem Inv.aAg{fp:List Addr}{t' :Nat}{p:Addr}{o:HO}(I:Inv X pins σ H s)(d:∀b∈fp,zM X pins H b)(k:∀b o,b∉fp->s.heap.get? b=some o->h'.get? b=some o)
  (h:s.heap.objs.size<=p) (new:dF X.prog X.w (upd H p o) h' p o):Inv X pins σ (upd H p o) {s with heap:=h',toks:=t'}:=by
 have f:H p=none:=I.cS.fresh h;have g:∀b u,H b=some u->b∉fp:=λb u e z=>by rw[(d b z).1]at e;cases e
 refine I.step (g' :=s.gens) (d' :=s.drawn) (ch:=fp) (λb a=>⟨(d b a).2.2.2.1,(d b a).2.1,(d b a).2.2.2.2.1,(d b a).2.2.2.2.2⟩) (λb o _ _ hc e _=>k b o hc e) (λb o _ _ hc e _=>⟨o.slots,k b o hc e⟩)
  (λb o _ e n=>by rw[bD (Nat.ne_of_lt (Nat.lt_of_lt_of_le (Heap.lt_size e) h))];exact n) (λb o hc e=>⟨o,k b o hc e⟩) (λb xs e=>by rw[bD (bV e f)];exact e) (λb o u e=>by rw[bD (bV e f)];exact e)
  (λb ps e=>⟨#[],by rw[bD (bV e f),e];simp⟩) (λm hm=>?_) (λb u e=>?_) I.bare
 ·obtain⟨o,es,i,ho,r⟩:=hm;exact⟨o,es,i,k _ o (λz=>(d _ z).2.1 rfl) ho,r⟩
 ·by_cases a:b=p
  ·subst a;rw[bY]at e;cases e;exact new
  ·rw[bD a]at e;refine(I.cS b u e).IJ (λc v hc q=>k c v ?_ q) (λc q=>by rw[bD (bV q f)];exact q) λc xs q=>by rw[bD (bV q f)];exact q
   rcases hc with rfl | hc
   ·exact g _ u e
   ·exact g _ _ hc
theorem Inv.T8{fp:List Addr}{t' :Nat}(I:Inv X pins σ H s)(a:∀b∈fp,zM X pins H b)(k:∀b o,b∉fp->s.heap.get? b=some o->h'.get? b=some o):Inv X pins σ H {s with heap:=h',toks:=t'}:=by
 have d:∀b u,H b=some u->b∉fp:=λb u e z=>by rw[(a b z).1]at e;cases e
 refine I.step (g' :=s.gens) (d' :=s.drawn) (ch:=fp) (λb f=>⟨(a b f).2.2.2.1,(a b f).2.1,(a b f).2.2.2.2.1,(a b f).2.2.2.2.2⟩) (λb o _ _ hc e _=>k b o hc e) (λb o _ _ hc e _=>⟨o.slots,k b o hc e⟩)
  (λb o _ e n=>n) (λb o hc e=>⟨o,k b o hc e⟩) (λb xs e=>e) (λb o u e=>e) (λb ps e=>⟨#[],by rw[e];simp⟩) (λm hm=>?_) (λb u e=>?_) I.bare
 ·obtain⟨o,es,g,ho,r⟩:=hm;exact⟨o,es,g,k _ o (λz=>(a _ z).2.1 rfl) ho,r⟩
 ·refine(I.cS b u e).IJ (λc v hc q=>k c v ?_ q) (λ_ q=>q) λ_ _ q=>q;rcases hc with rfl | hc
  ·exact d _ u e
  ·exact d _ _ hc
end
theorem aA5{P:Nat->Value->Prop}:∀{vs:List V},(∀(k:Nat) v,vs[k]? =some v->∃u,RelV v u/\P k u)->∃us,Vals vs us/\∀(k:Nat) u,us[k]? =some u->P k u
 | [],_=>⟨[],.nil,λk u e=>by simp at e⟩
 | v::r,h=>by
  obtain⟨u,a,b⟩:=h 0 v rfl;obtain⟨us,rs,ps⟩:=aA5 (P:=λk u=>P (k+1) u) (vs:=r) λk v e=>h (k+1) v (by simpa using e);refine⟨u::us,.cons a rs,λk w e=>?_⟩
  cases k with
  | zero=>simp at e;subst e;exact b
  | succ k=>exact ps k w (by simpa using e)
theorem QL{K:aPu}{elts:List Expr}{x1}{z TI TO:Addr}{qs:List Src}(D:qY z TI TO qs)(F:qs≠[])(hsz:qs.length<=sizeLine):
  Turn P w K (.Tuple elts x1 pos) (Itz K (qs.map λq=>(q.l,q.tup))) (z::TI::TO::qs.map (·.it)) z (λi h=>nD h z TI TO qs .none i) where
 mem:=aM8
 obj:=λi h Z b hb=>by
  rcases aMf.mp hb with rfl | hb
  ·exact⟨_,Z.obj,λv e=>by cases e⟩
  rcases aMf.mp hb with rfl | hb
  ·obtain⟨n,e⟩:=Z.aM;exact⟨_,e,λv e=>by cases e⟩
  rcases aMf.mp hb with rfl | hb
  ·obtain⟨xs,n,_,e⟩:=Z.own;exact⟨_,e,λv e=>by cases e⟩
  obtain⟨q,c,rfl⟩:=aMd.mp hb;obtain⟨o,ho,hd⟩:=(Z.at_ q c).obj;exact⟨o,ho,λv e=>by rw[hd]at e;cases e⟩
 keep:=λi h h' Z k=>by
  refine⟨k z (by simp) _ Z.obj,?_,?_,λq c=>(Z.at_ q c).to λo e=>k q.it (by simp;exact .inr (.inr (.inr ⟨q,c,rfl⟩))) o e⟩
  ·obtain⟨n,e⟩:=Z.aM;exact⟨n,k TI (by simp) _ e⟩
  ·obtain⟨xs,n,l,e⟩:=Z.own;exact⟨xs,n,l,k TO (by simp) _ e⟩
 item:=by
  intro X G J L hc i pins s σ H E I B Z hg;subst G J L;obtain⟨vs,C,hv⟩:=hg;have M:vs.length=qs.length:=by simpa using C
  obtain⟨us,ru,pu⟩:=aA5 (P:=λk u=>∀q,qs[k]? =some q->∃items,q.Sq s.heap items/\items[i]? =some u) (vs:=vs) λk v e=>by
   have g:k<qs.length:=by have:=(aM6.mp e).1;lia
   have d:qs[k]? =some qs[k]:=aN7 g;obtain⟨xs,m,hi⟩:=hv k qs[k].l qs[k].tup v (by rw[List.getElem?_map,d];rfl) e;obtain⟨aM,rv,p⟩:=I.sqx m;obtain⟨u,N,r⟩:=rv.get hi;refine⟨u,r,λq c=>?_⟩;rw[d]at c;cases c;exact⟨aM.toArray,p qs[k].it,by simpa using N⟩
  have O:us.length=qs.length:=by rw[<-ru.length,M]
  refine zU D Z F O (λk q x c m=>pu k x m q c) hsz λh1 Z1 t1 z1 k1=>?_;refine⟨_,rfl,aEg (s:={s with heap:=h1}) D Z1 λh2 Z2 y=>?_⟩;have f:s.heap.objs.size≠z:=aNc (aMb Z.obj)
  have kk:∀b o,b∉(z::TI::TO::qs.map (·.it))->s.heap.get? b=some o->h2.get? b=some o:=λb o hb e=>by
   have b1:b≠z:=λz=>hb (by simp[z]);have b2:b≠TO:=λz=>hb (by simp[z]);exact y.extBut _ _ b1 (k1 b o b1 b2 (λq c z=>hb (by simp;exact .inr (.inr (.inr ⟨q,c,z.symm⟩)))) e)
  refine⟨.ref s.heap.objs.size,upd H s.heap.objs.size (.tup vs),I.aAg (t' :=s.toks) B kk (aM7 _) ⟨by lia,us,ru,⟨_,y.extBut _ _ f t1,rfl,0,rfl⟩,λo e=>by rw[y.extBut _ _ f t1]at e;cases e;rfl⟩,rfl,?_,Z2,λb hb=>?_⟩
  ·refine⟨s.heap.objs.size,vs,I.cS.fresh (aM7 _),rfl,rfl,C,λk a t v p R xs m=>?_⟩;obtain⟨ys,S,hi⟩:=hv k a t v p R;rw[I.LH m S];exact hi
  ·have T:=(B b hb).1
   have:b≠s.heap.objs.size:=by
    rintro rfl
    have ho:∃o,s.heap.get? s.heap.objs.size=some o:=by
     rcases aMf.mp hb with e | hb
     ·rw[e];exact⟨_,Z.obj⟩
     rcases aMf.mp hb with e | hb
     ·rw[e];obtain⟨n,e⟩:=Z.aM;exact⟨_,e⟩
     rcases aMf.mp hb with e | hb
     ·rw[e];obtain⟨xs,n,_,e⟩:=Z.own;exact⟨_,e⟩
     obtain⟨q,c,e⟩:=aMd.mp hb;have e' :q.it=s.heap.objs.size:=e;rw[<-e'];obtain⟨o,ho,_⟩:=(Z.at_ q c).obj;exact⟨o,ho⟩
    obtain⟨o,ho⟩:=ho;exact absurd (aMb ho) (aNk _)
   rw[bD this];exact T
 done:=by
  intro X G J L hc i pins s σ H E I B Z hg;subst G J L;obtain⟨k,a,t,xs,g,m,hle,U⟩:=hg;rw[List.getElem?_map]at g
  cases d:qs[k]? with
  | none=>rw[d]at g;cases g
  | some q=>
   rw[d]at g;have V :(q.l,q.tup)=(a,t):=aMn g;injection V with e1 e2;subst e1 e2
   refine C3 (k:=k) (I.ok.hd hc) D Z (λj W hj Y=>?_) ⟨q,?_⟩ hsz λh' kp=>⟨rfl,I.T8 (t' :=s.toks) B λb o hb e=>kp b o (λz=>hb (by simp[z])) (λz=>hb (by simp[z])) (λq c z=>hb (by simp;exact .inr (.inr (.inr ⟨q,c,z.symm⟩)))) e⟩
   ·obtain⟨ys,S,C⟩:=U j W.l W.tup Y (by rw[List.getElem?_map,hj];rfl);obtain⟨aM,r,p⟩:=I.sqx S;obtain⟨u,N,_⟩:=r.get (aN7 C);exact⟨aM.toArray,u,p W.it,by simpa using N⟩
   ·obtain⟨aM,r,p⟩:=I.sqx m;refine⟨aM.toArray,d,p q.it,?_⟩;have:=r.length;rw[List.getElem?_toArray];exact List.getElem?_eq_none_iff.mpr (by lia)
 self:=λA i s Q E Z h=>GL Z h
structure aIr(m:Nat):Prop where
 t:∀us:List Value,us.length=m->checkTypeCall "zip" ⟨us,[]⟩=pure ()
 n:∀us:List Value,us.length=m->checkBuiltinCall "zip.__new__" ⟨.type "zip"::us,[]⟩=pure ()
 i:∀(us:List Value) (o:Value),us.length=m->argsOk "object.__init__" ⟨o::us,[]⟩
theorem aFs:aIr 2:=⟨λus h=>match us,h with | [a,b],_=>F.typeCall_zip_2 a b,λus h=>match us,h with | [a,b],_=>F.newCall_zip_2 a b,λus o h=>match us,h with | [a,b],_=>F.args_object_init_3 o a b⟩
def aLh(K:aPu)(n:Nat)(b:TA):TI:=λσ H R=>b σ H λvs a=>∃src:List (Addr×Bool),vs=src.map (λp=>V.ref p.1)/\src.length=n/\(∀p∈src,∃xs,IB K a p.2 p.1 xs)/\R (Itz K src) a
theorem AS:∀{src:List (Addr×Bool)} {us:List Value},Vals (src.map λp=>V.ref p.1) us->us=src.map λp=>Value.ref p.1
 | [],us,h=>by cases h;rfl
 | p::r,us,h=>by
  cases h with
  | cons a b=>rw[AS b];cases a;rfl
theorem yA:∀(src:List (Addr×Bool)) (m:Nat),((b8 m (src.map λp=>(⟨0,p.1,p.2⟩:Src))).map λq=>(q.l,q.tup))=src
 | [],_=>rfl
 | p::r,m=>by simp only[List.map_cons,b8];rw[yA r (m+1)]
theorem aBp{e:Expr}{es:List Expr}{v:TA}{p pos:Pos}{elts:List Expr}{x1}{a:Pos}(z:aIr n)(U:0<n/\n<=1000)(hg:Gl X "zip")(hm:X.mg "zip"=none)(ha:PA X (e::es) v)
  (x:bootBuiltins "zip"=some (.type "zip"):=by decide+kernel)
  (he:starEach (e::es) X.env=(false,eval e X.env)::starEach es X.env:=by rfl) (m:(backTo pos (starEach es X.env)).any (·.1)=false:=by rfl):
  PI X (.Tuple elts x1 a) (.Call (.Name "zip" p) (e::es) [] pos) (aLh X.K n v):=by
 intro pins s σ H R I h;refine aO0 (qP I hg hm x ?_);refine aNb (dZ (ha pos pins s σ H _ I h) λus s1 ⟨vs,o,j,y,A⟩=>?_) he m;obtain⟨src,rfl,r,B,C⟩:=A;have E:=AS y;subst E;have em:(src.map λp=>Value.ref p.1)=(src.map λp=>(⟨0,p.1,p.2⟩:Src)).map λq=>Value.ref q.l:=by rw[List.map_map];rfl
 have hz:src.length<=sizeLine:=aNt (NW (by lia));rw[em];refine PR (by simpa using hz) (z.t _ (by simpa using r)) (z.n _ (by simpa using r)) (λobj=>z.i _ obj (by simpa using r)) (λq k=>?_) λh' F TI TO G J L D Z kp=>?_
 ·obtain⟨p,M,rfl⟩:=aMd.mp k;obtain⟨xs,N⟩:=B p M;obtain⟨aM,_,u⟩:=j.sqx N;exact⟨aM.toArray,u 0⟩
 ·generalize c:b8 s1.heap.objs.size (src.map λp=>(⟨0,p.1,p.2⟩:Src))=qs at D Z;have f:qs.length=src.length:=by rw[<-c,lG];simp
  have d:(qs.map λq=>(q.l,q.tup))=src:=by rw[<-c];exact yA _ _
  have O:Inv X pins σ o {s1 with heap:=h'}:=j.kept (t' :=s1.toks) kp;have T:=QL (P:=X.prog) (w:=X.w) (K:=X.K) (elts:=elts) (x1:=x1) (pos:=a) D (by intro Q;rw[Q]at f;simp at f;lia) (by lia);rw[d]at T;refine GL Z ⟨F,_,_,Itz X.K src,o,rfl,O,T,Z,λb hb=>?_,C⟩
  have g:s1.heap.objs.size<=b:=by
   rcases aMf.mp hb with e | hb
   ·rw[e];exact L
   rcases aMf.mp hb with e | hb
   ·rw[e];exact G
   rcases aMf.mp hb with e | hb
   ·rw[e];exact J
   obtain⟨q,k,e⟩:=aMd.mp hb;rw[<-c]at k;have S :q.it=b:=e;rw[<-S];exact(gU k).1
  exact(j.T9 g (j.cS.fresh g):zM X pins o b)
variable {b:Bool}
variable {b:Bool}
end L2
namespace TS
open PySem PyProof.Rows
structure Wk(lt:aPw):Prop where
 U1:∀x y,lt x y=true->lt y x=false
 tr:∀x y z,lt y x=false->lt z y=false->lt z x=false
theorem Wk.TF{lt:aPw}(O:Wk lt)(x:Keyed):lt x x=false:=by
 cases h:lt x x with
 | false=>rfl
 | true=>exact(O.U1 x x h).symm.trans h |>.symm▸rfl
def eT(xs:aPy)(i:Nat):Keyed:=(xs[i]?).getD (Value.none,Value.none)
variable{xs:aPy}{i:Nat}
theorem MG(h:i<xs.size):xs[i]? =some (eT xs i):=by unfold eT;rw[getElem?_pos xs i h];rfl
def Seg(lt:aPw)(xs:aPy)(i j:Nat):Prop:=∀p q,i<=p->p<=q->q<j->lt (eT xs q) (eT xs p)=false
def ZY(lt:aPw)(xs:aPy)(i j:Nat):Prop:=∀p q,i<=p->p<=q->q<j->lt (eT xs p) (eT xs q)=false
structure Base(κ:SortKind)(a₀:aPy)(st:SortSt):Prop where
 perm:(arrOf st).Perm a₀
 kind:kindOf st=κ
 cY:failedOf st=none
variable{κ:SortKind}{st:SortSt}
theorem Base.size{a₀:aPy}(h:Base κ a₀ st):(arrOf st).size=a₀.size:=h.perm.size_eq
theorem Base.arr{a₀:aPy}(h:Base κ a₀ st)(p:xs.Perm (arrOf st)):Base κ a₀ (setArr st xs):=⟨p.trans h.perm,h.kind,h.cY⟩
theorem Base.mem{a₀:aPy}(h:Base κ a₀ st)(hi:i<a₀.size):eT (arrOf st) i∈a₀.toList:=by
 have hz:i<(arrOf st).size:=by rw[h.size];exact hi
 have e:=MG hz;have:eT (arrOf st) i∈arrOf st:=Array.mem_of_getElem? e;exact(Array.perm_iff_toList_perm.mp h.perm).mem_iff.mp this.val
def ID(prog:Program)(w:World)(A:Around)(s:Shared)(κ:SortKind)(lt:aPw)(a₀:aPy):Prop:=
 ∀x y,x∈a₀.toList->y∈a₀.toList->∀Q:Bool->Shared->Prop,Q (lt x y) s->wpAny (model prog w) A (keyLt' κ x.1 y.1) Q (λ_ _=>False) s
section
variable {prog:Program}{w:World}{A:Around}{E:aPv}{s:Shared}{a₀:aPy}{κ:SortKind}{lt:aPw}
variable{Q:Option Bool->SortSt->Prop}
theorem wlt{x y:Keyed}(C:ID prog w A s κ lt a₀)(c:kindOf st=κ)(d:x∈a₀.toList)(f:y∈a₀.toList)(h:Q (some (lt x y)) st):wpS (model prog w) A E s (lt' x y) Q st:=by
 rw[lt'_eq];refine aMy (wpS_get ?_);rw[c];refine aMy (wpS_lift (aNl (aNj (C x y d f (λb a =>b=lt x y/\a =s) ⟨rfl,rfl⟩) (λb a g=>?_) λ_ _ e=>e.elim)));obtain⟨rfl,rfl⟩:=g;exact⟨rfl,aNa h⟩
theorem Z6{arr:aPy}{Q:Keyed->SortSt->Prop}(hi:i<arr.size)(h:Q (eT arr i) st):wpS (model prog w) A E s (elem' arr i) Q st:=by
 rw[elem'_eq,MG hi];exact aNa h
theorem EX{i j:Nat}(C:ID prog w A s κ lt a₀)(a:Base κ a₀ st)(hi:i<a₀.size)(b:j<a₀.size)(h:Q (some (lt (eT (arrOf st) i) (eT (arrOf st) j))) st):
  wpS (model prog w) A E s (ltAt' i j) Q st:=by
 rw[ltAt'_eq];refine aMy (wpS_get ?_);have z:=a.size;exact aMy (Z6 (by rw[z];exact hi) (aMy (Z6 (by rw[z];exact b) (wlt C a.kind (a.mem hi) (a.mem b) h))))
theorem qR{src d:Nat}(a:src<xs.size)(hd:d<=src)(k:Nat):eT (bubble xs src d) k=if k=src-d then eT xs src else if src-d<k/\k<=src then eT xs (k-1) else eT xs k:=by
 have e:=getElem?_bubble a d hd k;unfold eT;rw[e]
 repeat' split
 all_goals rfl
theorem j8{i j:Nat}(a:j<=xs.size)(k:Nat):eT (mirror xs i j ((j-i) / 2)) k=if i<=k/\k<j then eT xs (i+j-1-k) else eT xs k:=by
 have e:=getElem?_mirror_all (i:=i) a k;unfold eT;rw[e];split <;> rfl
theorem VN(O:Wk lt)(C:ID prog w A s κ lt a₀){lo n ok:Nat}{Q:Bool->SortSt->Prop}(H:lo+n<=a₀.size)(cS:ok<=n)(K:Base κ a₀ st)(L:Seg lt (arrOf st) lo (lo+ok))
  (h:∀a,Base κ a₀ a ->Seg lt (arrOf a) lo (lo+n)->(∀k,k<lo->eT (arrOf a) k=eT (arrOf st) k)->pendingOf a =pendingOf st->Q true a):wpS (model prog w) A E s (binarySort' lo n ok) Q st:=by
 rw[binarySort'_eq]
 refine aMy (wpS_mono (aP0 (I:=λk c a =>c=(none,())/\Base κ a₀ a /\Seg lt (arrOf a) lo (lo+min k n)/\(∀k,k<lo->eT (arrOf a) k=eT (arrOf st) k)/\pendingOf a =pendingOf st)
  (Q:=λc a =>c=(none,())/\Base κ a₀ a /\Seg lt (arrOf a) lo (lo+n)/\(∀k,k<lo->eT (arrOf a) k=eT (arrOf st) k)/\pendingOf a =pendingOf st) ?step ?fin ?init) ?post)
 case post=>
  rintro c a ⟨rfl,e,d,m,o⟩;exact aNa (h a e d m o)
 case init=>
  refine⟨rfl,K,λp q z t J=>?_,λ_ _=>rfl,rfl⟩;by_cases y:p=q
  ·subst y;exact O.TF _
  ·exact L p q z t (by lia)
 case fin=>
  rintro c a ⟨M,e,d,r⟩;refine⟨M,e,?_,r⟩
  rwa [show min (max (max ok 1) n) n=n by (clear r cS H;lia)]at d
 case step=>
  rintro k c a B D ⟨rfl,e,d,m,o⟩;rw[show min k n=k by lia]at d;have F:lo+k<a₀.size:=by lia
  refine aMy (wpS_mono (aP0 (I:=λx c b =>b =a /\∃l r,c=(none,l,r)/\l<=r/\r<=k/\r-l<=k-x/\
    (∀i,i<l->lt (eT (arrOf a) (lo+k)) (eT (arrOf a) (lo+i))=false)/\(∀i,r<=i->i<k->lt (eT (arrOf a) (lo+k)) (eT (arrOf a) (lo+i))=true))
   (Q:=λc b =>b =a /\∃l r,c=(none,l,r)/\l<=k/\
    (∀i,i<l->lt (eT (arrOf a) (lo+k)) (eT (arrOf a) (lo+i))=false)/\(∀i,l<=i->i<k->lt (eT (arrOf a) (lo+k)) (eT (arrOf a) (lo+i))=true)) ?istep ?ifin ?iinit) ?ipost)
  case iinit=>exact⟨rfl,0,k,rfl,by lia,by lia,by lia,λi hi=>by lia,λi y N=>by lia⟩
  case ifin=>
   rintro c b ⟨rfl,l,r,rfl,G,u,hm,f,g⟩;obtain rfl:l=r:=by lia
   exact⟨rfl,l,l,rfl,u,f,g⟩
  case istep=>
   rintro x c b _ P ⟨rfl,l,r,rfl,G,u,hm,f,g⟩;dsimp only;by_cases v:l>=r
   ·rw[if_pos v];obtain rfl:l=r:=by lia
    exact aNa ⟨rfl,l,l,rfl,u,f,g⟩
   ·rw[if_neg v];refine aMy (EX C e F (by lia) ?_)
    cases hless:lt (eT (arrOf b) (lo+k)) (eT (arrOf b) (lo+(l+r) / 2)) with
    | true=>
     simp only[if_true];refine aNa ⟨rfl,l,(l+r) / 2,rfl,by lia,by lia,by lia,f,λi y N=>?_⟩
     cases hx:lt (eT (arrOf b) (lo+k)) (eT (arrOf b) (lo+i)) with
     | true=>rfl
     | false=>rw[O.tr _ _ _ (d (lo+(l+r) / 2) (lo+i) (by lia) (by lia) (by lia)) hx]at hless;cases hless
    | false=>
     simp only[Bool.false_eq_true,if_false];refine aNa ⟨rfl,(l+r) / 2+1,r,rfl,by lia,by lia,by lia,λi y=>?_,g⟩;exact O.tr _ _ _ (d (lo+i) (lo+(l+r) / 2) (by lia) (by lia) (by lia)) hless
  case ipost=>
   rintro c b ⟨rfl,l,r,rfl,R,f,g⟩;show wpS _ _ _ _ (do moveDown' (lo+k) (lo+l);pure (ForInStep.yield (none,()))) _ _;rw[moveDown'_eq];have q5:lo+k<(arrOf b).size:=by rw[e.size];exact F
   have S:lo+k-(lo+l)=k-l:=by lia
   refine aMy (wpS_modify (aNa ⟨rfl,e.arr (bubble_perm _ _ _),?_,λj T=>?_,o⟩))
   ·rw[show min (k+1) n=k+1 by lia];intro p q z t J;show lt (eT (bubble (arrOf b) (lo+k) (lo+k-(lo+l))) q) (eT (bubble (arrOf b) (lo+k) (lo+k-(lo+l))) p)=false;rw[qR q5 (by lia),qR q5 (by lia),show lo+k-(lo+k-(lo+l))=lo+l by (clear J t z S q5 F D B cS H;lia)]
    repeat' split
    all_goals first
     | (exfalso;lia)
     | exact O.TF _
     | (have:=f (p-lo) (by lia);rwa [show lo+(p-lo)=p by lia]at this)
     | (have:=O.U1 _ _ (g (q-1-lo) (by lia) (by lia));rwa [show lo+(q-1-lo)=q-1 by lia]at this)
     | exact d _ _ (by lia) (by lia) (by lia)
   ·show eT (bubble (arrOf b) (lo+k) (lo+k-(lo+l))) j=_;rw[qR q5 (by lia),if_neg (by lia),if_neg (by lia)];exact m j T
end
def upL(lo a d:Nat):StateT SortSt Sem (Option (Option Nat)×Nat):=
 forIn [a:d] ((none,a):Option (Option Nat)×Nat) λ_ c=>do
  let x<-ltAt' (lo+c.snd) (lo+c.snd-1)
  match x with
  | some b=>if b=true then pure (ForInStep.done (none,c.snd)) else pure (ForInStep.yield (none,c.snd+1))
  | _=>pure (ForInStep.done (some none,c.snd))
def GD(lo n a:Nat):StateT SortSt Sem (Option Nat):=do
 reverseSlice' lo (lo+n)
 let c<-upL lo n a
 match c.fst with
 | some r=>pure r
 | none=>pure (some c.snd)
def M8(lo n d:Nat):StateT SortSt Sem (Option (Option Nat)×Nat×Nat):=
 forIn [n:d] ((none,n,0):Option (Option Nat)×Nat×Nat) λ_ c=>do
  let x<-ltAt' (lo+c.snd.fst) (lo+c.snd.fst-1)
  match x with
  | some a=>
   if a=true then
    if c.snd.snd > 0 then do
     reverseSlice' (lo+c.snd.fst-(c.snd.snd+1)) (lo+c.snd.fst)
     pure (ForInStep.yield (none,c.snd.fst+1,0))
    else pure (ForInStep.yield (none,c.snd.fst+1,0))
   else do
    let y<-ltAt' (lo+c.snd.fst-1) (lo+c.snd.fst)
    match y with
    | some b=>if b=true then pure (ForInStep.done (none,c.snd.fst,c.snd.snd)) else pure (ForInStep.yield (none,c.snd.fst+1,c.snd.snd+1))
    | _=>pure (ForInStep.done (some none,c.snd.fst,c.snd.snd))
  | _=>pure (ForInStep.done (some none,c.snd.fst,c.snd.snd))
def GZ(lo n a:Nat):StateT SortSt Sem (Option Nat):=do
 liftM (rule "list.sort.descending-run")
 let c<-M8 lo (n+1) a
 match c.fst with
 | some r=>pure r
 | none=>
  if c.snd.snd > 0 then do
   reverseSlice' (lo+c.snd.fst-(c.snd.snd+1)) (lo+c.snd.fst)
   GD lo c.snd.fst a
  else GD lo c.snd.fst a
theorem PL(lo e:Nat):countRun' lo e=(do
  let c<-upL lo 1 e
  match c.fst with
  | some r=>pure r
  | none=>
   if (c.snd==e)=true then pure (some c.snd)
   else if c.snd > 1 then do
    let x<-ltAt' lo (lo+c.snd-1)
    match x with
    | some b=>if b=true then pure (some c.snd) else do
      reverseSlice' lo (lo+c.snd)
      GZ lo c.snd e
    | _=>pure none
   else GZ lo c.snd e):=by
 rw[countRun'_eq];dsimp only;unfold GZ GD M8 upL;congr 1;funext c;obtain⟨r,n⟩:=c
 cases r with
 | some r=>rfl
 | none=>
  dsimp only;have h:∀(a:Option (Option Nat)×Nat),(match a.fst with | some r=>(pure r:StateT SortSt Sem (Option Nat)) | none=>pure (some a.snd))=(match a.fst with | some r=>pure r | none=>pure (some a.snd)):=λ_=>rfl;split
  ·rfl
  ·split
   ·congr 1;funext x
    cases x with
    | none=>rfl
    | some b=>
     dsimp only;split
     ·rfl
     ·congr 1;funext u;congr 1;funext u1;congr 1;congr 1;funext c2;obtain⟨f,i,j⟩:=c2
      cases f with
      | some f=>rfl
      | none=>
       dsimp only;split
       ·congr 1;funext v;congr 1;funext v1;congr 1;funext a;obtain⟨d,g⟩:=a;cases d <;> rfl
       ·congr 1;funext v1;congr 1;funext a;obtain⟨d,g⟩:=a;cases d <;> rfl
   ·congr 1;funext u1;congr 1;congr 1;funext c2;obtain⟨f,i,j⟩:=c2
    cases f with
    | some f=>rfl
    | none=>
     dsimp only;split
     ·congr 1;funext v;congr 1;funext v1;congr 1;funext a;obtain⟨d,g⟩:=a;cases d <;> rfl
     ·congr 1;funext v1;congr 1;funext a;obtain⟨d,g⟩:=a;cases d <;> rfl
section
variable {prog:Program}{w:World}{A:Around}{E:aPv}{s:Shared}{a₀:aPy}{κ:SortKind}{lt:aPw}
theorem VJ{i j:Nat}{Q:Unit->SortSt->Prop}(h:Q () (setArr st (mirror (arrOf st) i j ((j-i) / 2)))):wpS (model prog w) A E s (reverseSlice' i j) Q st:=by
 rw[reverseSlice'_eq];exact wpS_modify h
def mF(lo:Nat)(st a :SortSt):Prop:=(∀k,k<lo->eT (arrOf a) k=eT (arrOf st) k)/\pendingOf a =pendingOf st
variable{lo:Nat}
theorem mF.refl:mF lo st st:=⟨λ_ _=>rfl,rfl⟩
theorem mF.trans{a b c:SortSt}(h:mF lo a b)(h' :mF lo b c):mF lo a c:=⟨λk d=>(h'.1 k d).trans (h.1 k d),h'.2.trans h.2⟩
theorem mF.mirror{lo i j:Nat}(hi:lo<=i)(a:j<=(arrOf st).size):mF lo st (setArr st (PyProof.Rows.mirror (arrOf st) i j ((j-i) / 2))):=
 ⟨λk b=>by show eT (PyProof.Rows.mirror (arrOf st) i j ((j-i) / 2)) k=_;rw[j8 a,if_neg (by lia)],rfl⟩
theorem wup(O:Wk lt)(C:ID prog w A s κ lt a₀){lo a e:Nat}{Q:Option (Option Nat)×Nat->SortSt->Prop}(t:lo+e<=a₀.size)(ha:1<=a)(f:a<=e)(m:Base κ a₀ st)(o:Seg lt (arrOf st) lo (lo+a))
  (h:∀n,a<=n->n<=e->Seg lt (arrOf st) lo (lo+n)->(n=e\/lt (eT (arrOf st) (lo+n)) (eT (arrOf st) (lo+n-1))=true)->Q (none,n) st):wpS (model prog w) A E s (upL lo a e) Q st:=by
 unfold upL;refine aP0 (I:=λx c d =>d =st/\c=(none,x)/\Seg lt (arrOf st) lo (lo+x)) ?step ?fin ⟨rfl,rfl,o⟩
 case fin=>
  rintro c d ⟨rfl,rfl,b⟩;rw[show max a e=e by lia]at b ⊢;exact h e f (aM7 _) b (.inl rfl)
 case step=>
  rintro x c d g r ⟨rfl,rfl,b⟩;dsimp only;refine aMy (EX C m (by lia) (by lia) ?_)
  cases hless:lt (eT (arrOf d) (lo+x)) (eT (arrOf d) (lo+x-1)) with
  | true=>
   simp only[if_true];exact aNa (h x g (by lia) b (.inr hless))
  | false=>
   simp only[Bool.false_eq_true,if_false];refine aNa ⟨rfl,rfl,λp q l i u=>?_⟩;by_cases j:q<lo+x
   ·exact b p q l i j
   ·obtain rfl:q=lo+x:=by lia
    by_cases k :p=lo+x
    ·subst k;exact O.TF _
    ·exact O.tr _ _ _ (b p (lo+x-1) l (by lia) (by lia)) hless
variable{n cL:Nat}{Q:Option Nat->SortSt->Prop}
theorem Z4(O:Wk lt)(C:ID prog w A s κ lt a₀)(g:lo+cL<=a₀.size)(i:1<=n)(c:n<=cL)(f:Base κ a₀ st)(j:ZY lt (arrOf st) lo (lo+n))
  (h:∀m a,Base κ a₀ a ->1<=m->m<=cL->Seg lt (arrOf a) lo (lo+m)->mF lo st a ->Q (some m) a):wpS (model prog w) A E s (GD lo n cL) Q st:=by
 unfold GD;have hsz:lo+n<=(arrOf st).size:=by rw[f.size];lia
 refine aMy (VJ ?_);have b :Base κ a₀ (setArr st (mirror (arrOf st) lo (lo+n) ((lo+n-lo) / 2))):=f.arr (mirror_perm _ _ _ _);refine aMy (wup O C g i c b ?_ λm k d e _=>aNa (h m _ b (by lia) d e (mF.mirror (aM7 _) hsz)));intro p q o l r;show lt (eT (mirror (arrOf st) lo (lo+n) ((lo+n-lo) / 2)) q) (eT (mirror (arrOf st) lo (lo+n) ((lo+n-lo) / 2)) p)=false;rw[j8 hsz,j8 hsz,if_pos (by lia),if_pos (by lia)];exact j _ _ (by lia) (by lia) (by lia)
def Alike(lt:aPw)(xs:aPy)(i j:Nat):Prop:=∀p q,i<=p->p<j->i<=q->q<j->lt (eT xs p) (eT xs q)=false
theorem qT(O:Wk lt){lo i j n:Nat}(d:j<=xs.size)(he:Alike lt xs i j)(b:ZY lt xs lo n)(hi:lo<=i)(h:j<=n):ZY lt (mirror xs i j ((j-i) / 2)) lo n:=by
 intro p q e c f;rw[j8 d,j8 d];by_cases g:i<=p/\p<j
 ·rw[if_pos g];by_cases a:i<=q/\q<j
  ·rw[if_pos a];exact he _ _ (by lia) (by lia) (by lia) (by lia)
  ·rw[if_neg a];exact b _ _ (by lia) (by lia) f
 ·rw[if_neg g];by_cases a:i<=q/\q<j
  ·rw[if_pos a];exact b _ _ e (by lia) (by lia)
  ·rw[if_neg a];exact b _ _ e c f
theorem aFv(O:Wk lt)(C:ID prog w A s κ lt a₀){Q:Option (Option Nat)×Nat×Nat->SortSt->Prop}(J:lo+cL<=a₀.size)(t:1<=n)(u:n<=cL)(z:Base κ a₀ st)(B:ZY lt (arrOf st) lo (lo+n))
  (h:∀m b a,Base κ a₀ a ->n<=m->m<=cL->ZY lt (arrOf a) lo (lo+m)->b+1<=m->Alike lt (arrOf a) (lo+m-(b+1)) (lo+m)->mF lo st a ->Q (none,m,b) a):wpS (model prog w) A E s (M8 lo n cL) Q st:=by
 unfold M8
 have one:∀(xs:aPy) (x:Nat),1<=x->Alike lt xs (lo+x-(0+1)) (lo+x):=λxs x K p q t D F G=>by
  obtain rfl:p=q:=by lia
  exact O.TF _
 refine aP0 (I:=λx c a =>∃b,c=(none,x,b)/\Base κ a₀ a /\ZY lt (arrOf a) lo (lo+x)/\b+1<=x/\Alike lt (arrOf a) (lo+x-(b+1)) (lo+x)/\mF lo st a) ?step ?fin ⟨0,rfl,z,B,by lia,one _ _ t,mF.refl⟩
 case fin=>
  rintro c a ⟨b,rfl,d,e,l,he,o⟩;rw[show max n cL=cL by lia]at e l he⊢;exact h cL b a d u (aM7 _) e l he o
 case step=>
  rintro x c a v H ⟨b,rfl,d,e,l,he,o⟩;dsimp only;have hsz:lo+x<=(arrOf a).size:=by rw[d.size];lia
  refine aMy (EX C d (by lia) (by lia) ?_)
  cases hless:lt (eT (arrOf a) (lo+x)) (eT (arrOf a) (lo+x-1)) with
  | true=>
   simp only[if_true]
   have g:ZY lt (arrOf a) lo (lo+x+1):=by
    intro p q r j l;by_cases f:q<lo+x
    ·exact e p q r j f
    ·obtain rfl:q=lo+x:=by lia
     by_cases k :p=lo+x
     ·subst k;exact O.TF _
     ·exact O.tr _ _ _ (O.U1 _ _ hless) (e p (lo+x-1) r (by lia) (by lia))
   by_cases i:b > 0
   ·rw[if_pos i];refine aMy (VJ (aNa ⟨0,rfl,d.arr (mirror_perm _ _ _ _),?_,by lia,one _ _ (by lia),o.trans (mF.mirror (by lia) hsz)⟩));exact qT O hsz he g (by lia) (by lia)
   ·rw[if_neg i];exact aNa ⟨0,rfl,d,g,by lia,one _ _ (by lia),o⟩
  | false=>
   simp only[Bool.false_eq_true,if_false];refine aMy (EX C d (by lia) (by lia) ?_)
   cases hlarger:lt (eT (arrOf a) (lo+x-1)) (eT (arrOf a) (lo+x)) with
   | true=>
    simp only[if_true];exact aNa (h x b a d v (by lia) e l he o)
   | false=>
    simp only[Bool.false_eq_true,if_false];refine aNa ⟨b+1,rfl,d,λp q r j l=>?_,by lia,λp q t D F G=>?_,o⟩
    ·by_cases f:q<lo+x
     ·exact e p q r j f
     ·obtain rfl:q=lo+x:=by lia
      by_cases k :p=lo+x
      ·subst k;exact O.TF _
      ·exact O.tr _ _ _ hlarger (e p (lo+x-1) r (by lia) (by lia))
    ·by_cases y:p=lo+x
     ·subst y;by_cases f:q=lo+x
      ·subst f;exact O.TF _
      ·exact O.tr _ _ _ (he (lo+x-1) q (by lia) (by lia) (by lia) (by lia)) hless
     ·by_cases f:q=lo+x
      ·subst f;exact O.tr _ _ _ hlarger (he p (lo+x-1) (by lia) (by lia) (by lia) (by lia))
      ·exact he p q (by lia) (by lia) (by lia) (by lia)
theorem Z5(O:Wk lt)(C:ID prog w A s κ lt a₀)(f:lo+cL<=a₀.size)(g:n+1<=cL)(r:Base κ a₀ st)(t:ZY lt (arrOf st) lo (lo+(n+1)))
  (h:∀m a,Base κ a₀ a ->1<=m->m<=cL->Seg lt (arrOf a) lo (lo+m)->mF lo st a ->Q (some m) a):wpS (model prog w) A E s (GZ lo n cL) Q st:=by
 unfold GZ;refine aMy (wpS_lift (aN4 ⟨rfl,?_⟩));refine aMy (aFv O C f (by lia) g r t λm i a c u d e v he q=>?_);dsimp only;have hsz:lo+m<=(arrOf a).size:=by rw[c.size];lia
 by_cases b:i > 0
 ·rw[if_pos b];refine aMy (VJ (Z4 O C f (by lia) d (c.arr (mirror_perm _ _ _ _)) ?_ λm pS j k l o p=>h m pS j k l o (q.trans ((mF.mirror (by lia) hsz).trans p))));exact qT O hsz he e (by lia) (aM7 _)
 ·rw[if_neg b];exact Z4 O C f (by lia) d c e λm pS j k l o p=>h m pS j k l o (q.trans p)
theorem aAm(O:Wk lt)(C:ID prog w A s κ lt a₀)(l:lo+cL<=a₀.size)(v:1<=cL)(d:Base κ a₀ st)
  (h:∀m b,Base κ a₀ b ->1<=m->m<=cL->Seg lt (arrOf b) lo (lo+m)->mF lo st b ->Q (some m) b):wpS (model prog w) A E s (countRun' lo cL) Q st:=by
 rw[PL]
 refine aMy (wup O C l (aM7 1) v d (λp q v J K=>by
  obtain rfl:p=q:=by lia
  exact O.TF _) λn g i c o=>?_)
 dsimp only;by_cases e:n=cL
 ·rw[if_pos (by simpa using e)];exact aNa (h n st d g i c mF.refl)
 ·rw[if_neg (by simpa using e)];have j:lt (eT (arrOf st) (lo+n)) (eT (arrOf st) (lo+n-1))=true:=o.resolve_left e;by_cases k:n > 1
  ·rw[if_pos k];refine aMy (EX C d (by lia) (by lia) ?_)
   cases hrose:lt (eT (arrOf st) lo) (eT (arrOf st) (lo+n-1)) with
   | true=>
    simp only[if_true];exact aNa (h n st d g i c mF.refl)
   | false=>
    simp only[Bool.false_eq_true,if_false];have hsz:lo+n<=(arrOf st).size:=by rw[d.size];lia
    have a:Alike lt (arrOf st) lo (lo+n):=λp q L M x N=>by
     have y:=c lo p (aM7 _) (by lia) (by lia);have z:=c q (lo+n-1) x (by lia) (by lia);exact O.tr _ _ _ (O.tr _ _ _ z hrose) y
    have hd:ZY lt (arrOf st) lo (lo+(n+1)):=λp q r t B=>by
     by_cases u:q<lo+n
     ·exact a p q r (by lia) (by lia) u
     ·obtain rfl:q=lo+n:=by lia
      by_cases f :p=lo+n
      ·subst f;exact O.TF _
      ·exact O.tr _ _ _ (O.U1 _ _ j) (a p (lo+n-1) r (by lia) (by lia) (by lia))
    refine aMy (VJ (Z5 O C l (by lia) (d.arr (mirror_perm _ _ _ _)) ?_ λm pS D F G H I=>h m pS D F G H ((mF.mirror (aM7 _) hsz).trans I)));exact qT O hsz a hd (aM7 _) (by lia)
  ·rw[if_neg k];obtain rfl:n=1:=by lia
   refine Z5 O C l (by lia) d (λp q r t B=>?_) h;by_cases f :p=q
   ·subst f;exact O.TF _
   ·obtain rfl:p=lo:=by lia
    obtain rfl:q=p+1:=by lia
    exact O.U1 _ _ j
end
section
variable {prog:Program}{w:World}{A:Around}{E:aPv}{s:Shared}{a₀:aPy}{κ:SortKind}{lt:aPw}
theorem aFt(O:Wk lt)(C:ID prog w A s κ lt a₀){Q:Unit->SortSt->Prop}(F:Base κ a₀ st)(u:pendingOf st= #[])(H:2<=a₀.size)(e:a₀.size<64)
  (h:∀a,Base κ a₀ a ->Seg lt (arrOf a) 0 a₀.size->Q () a):wpS (model prog w) A E s sortRuns' Q st:=by
 have j:minRun' a₀.size a₀.size 0=a₀.size:=by
  cases hz:a₀.size with
  | zero=>(clear e;omega)
  | succ f=>rw[minRun'_succ,if_pos (by omega)];try rfl
 have k:=F.size;rw[sortRuns'_eq];refine aMy (wpS_get ?_);dsimp only;simp only[k,j]
 refine aMy (wpS_mono (aP0
  (I:=λx c a =>(x=0/\c=(none,0)/\Base κ a₀ a /\pendingOf a = #[])\/(0<x/\c=(none,a₀.size)/\Base κ a₀ a /\Seg lt (arrOf a) 0 a₀.size/\(pendingOf a).size<=1))
  (Q:=λc a =>c=(none,a₀.size)/\Base κ a₀ a /\Seg lt (arrOf a) 0 a₀.size/\(pendingOf a).size<=1) ?turn ?last (.inl ⟨rfl,rfl,F,u⟩)) ?rest)
 case last=>
  rintro c a (⟨t,_⟩ | ⟨_,r⟩)
  ·(clear k j e;omega)
  ·exact r
 case turn=>
  have g:∀{d:SortSt},Base κ a₀ d->Seg lt (arrOf d) 0 a₀.size->pendingOf d= #[]->∀n,Base κ a₀ (setPending d ((pendingOf d).push (0,n,0)))/\Seg lt (arrOf (setPending d ((pendingOf d).push (0,n,0)))) 0 a₀.size/\(pendingOf (setPending d ((pendingOf d).push (0,n,0)))).size<=1:=λ{d} b v p n=>by
   refine⟨⟨b.perm,b.kind,b.cY⟩,v,?_⟩;show ((pendingOf d).push (0,n,0)).size<=1;rw[p];simp
  rintro x c a _ t (⟨rfl,rfl,b,p⟩ | ⟨_,rfl,r⟩)
  ·dsimp only;rw[if_neg (by (clear t k j e;omega))];simp only[Nat.sub_zero,Nat.min_self,Nat.zero_add];refine aMy (aAm O C (by omega) (by (clear t k j e;omega)) b λm pS G m1 J i l=>?_);have y:pendingOf pS= #[]:=l.2.trans p;simp only[Nat.zero_add]at i;dsimp only;by_cases less:m<a₀.size
   ·rw[if_pos less];refine aMy (wpS_lift (aN4 ⟨rfl,?_⟩));refine aMy (VN O C (by omega) J G (by simpa using i) λd K o _ L=>?_);have q :pendingOf d= #[]:=L.trans y;simp only[Nat.zero_add]at o;simp only[Bool.not_true,Bool.false_eq_true,if_false];refine aMy (wpS_get ?_);rw[show (pendingOf d).back? =none by rw[q];rfl];dsimp only;obtain⟨z,B,D⟩:=g K o q a₀.size;exact aMy (wpS_modify (aNa (.inr ⟨by omega,rfl,z,B,D⟩)))
   ·obtain rfl:m=a₀.size:=by (clear m1 t k j e H;omega)
    rw[if_neg less];refine aMy (wpS_get ?_);rw[show (pendingOf pS).back? =none by rw[y];rfl];dsimp only;obtain⟨z,B,D⟩:=g G i y a₀.size;exact aMy (wpS_modify (aNa (.inr ⟨by omega,rfl,z,B,D⟩)))
  ·dsimp only;rw[if_pos (Nat.le_refl _)];exact aNa ⟨rfl,r⟩
 case rest=>
  rintro c a ⟨rfl,b,v,p⟩;dsimp only;refine aMy (wpS_mono (aP0 (I:=λ_ c pS=>c=(none,())/\pS=a) (Q:=λc pS=>c=(none,())/\pS=a) ?_ (λ_ _ r=>r) ⟨rfl,rfl⟩) ?_)
  ·rintro x c pS _ _ ⟨rfl,rfl⟩;refine aMy (wpS_get ?_);rw[if_pos p];exact aNa ⟨rfl,rfl⟩
  ·rintro c pS ⟨rfl,rfl⟩;exact aNa (h _ b v)
variable{vs:List Value}
theorem V4(g:xs.Perm (pairsOf vs))(m:Seg lt xs 0 vs.length):
  ((xs.map (·.2)).toList).Perm vs/\((xs.map (·.2)).toList).Pairwise (λx y=>lt (y,y) (x,x)=false):=by
 have h:xs.toList.Perm (vs.zip vs):=by rw[<-pairsOf_toList];exact Array.perm_iff_toList_perm.mp g
 have same:∀p∈xs.toList,p=(p.2,p.2):=λp b=>by
  have hm:=h.mem_iff.mp b
  have:∀(l:List Value) (q:Keyed),q∈l.zip l->q=(q.2,q.2):=λl q c=>by
   induction l with
   | nil=>simp at c
   | cons v r n=>
    rw[List.zip_cons_cons]at c;rcases aMf.mp c with e | e
    ·rw[e]
    ·exact n e
  exact this vs p hm
 have hsz:xs.size=vs.length:=by have:=g.size_eq;rw[pairsOf_size]at this;exact this
 refine⟨?_,?_⟩
 ·rw[Array.toList_map];have:=h.map (·.2)
  rwa [show (vs.zip vs).map (·.2)=vs from aPp (aM7 _)]at this
 ·rw[Array.toList_map,List.pairwise_map];rw[List.pairwise_iff_getElem];intro i j hi k d;have f :i<xs.size:=by simpa using hi
  have a :j<xs.size:=by simpa using k
  have q:=m i j (aN9 _) (aNt d) (by rw[<-hsz];exact a);have o:eT xs i=xs.toList[i]:=by unfold eT;rw[getElem?_pos xs i f];simp
  have s:eT xs j=xs.toList[j]:=by unfold eT;rw[getElem?_pos xs j a];simp
  rw[o,s]at q;rw[same _ (List.getElem_mem hi),same _ (List.getElem_mem k)]at q;exact q
theorem QQ(O:Wk lt){a:Addr}{n:Nat}{P:PySem.Fin->Shared->Prop}(ho:s.heap.get? a=some (seqObj "list" vs.toArray n))(k:vs.length<64)
  (t:2<=vs.length->∀h' :Heap,(∀b o,b≠a->s.heap.get? b=some o->h'.get? b=some o)->ID prog w A {s with heap:=h'} κ lt (pairsOf vs)/\
   ∀v,v κ {s with heap:=h'}->wpAny (model prog w) A (keyKind' vs.toArray) v E {s with heap:=h'})
  (h:∀out:List Value,out.Perm vs->out.Pairwise (λx y=>lt (y,y) (x,x)=false)->P (.done (.ret .none)) {s with heap:=sortedHeap s.heap a vs out.toArray}):
  wpAny (model prog w) A (Builtin.«list.sort» ⟨[.ref a],[]⟩) P E s:=by
 have la:a<s.heap.objs.size:=aMb ho;have z:sizeLine=16777216:=aMe
 obtain⟨m,B⟩:∃m,(s.heap.update a (Obj.mapSeq λ_=>#[])).get? a=some (seqObj "list" #[] m):=⟨_,get?_update_seq ho λ_=>#[]⟩
 have C:(((s.heap.update a (Obj.mapSeq λ_=>#[])).push (seqObj "tuple" vs.toArray 0)).push (seqObj "list" #[] 0)).get? a=some (seqObj "list" #[] m):=aM5 _ (aM5 _ B)
 have g:∀b o,b≠a->s.heap.get? b=some o->(((s.heap.update a (Obj.mapSeq λ_=>#[])).push (seqObj "tuple" vs.toArray 0)).push (seqObj "list" #[] 0)).get? b=some o:=λb o F e=>
  aM5 _ (aM5 _ (by rw[Heap.get?_update_ne _ _ _ _ F];exact e))
 have d:∀c :SortSt,(arrOf c).Perm (pairsOf vs)->Seg lt (arrOf c) 0 vs.length->failedOf c =none->wpAny (model prog w) A (do
   let touched:=(<-seqEpoch a) !=m
   Builtin.List.listUpdate (.ref a) λ_=>(arrOf c).map (·.2)
   if let some e:=failedOf c then rule "list.sort.comparison-raised";throw e
   if touched then rule "list.sort.modified";raiseError "ValueError" "list modified during sort"
   ret .none) P E {s with heap:=((s.heap.update a (Obj.mapSeq λ_=>#[])).push (seqObj "tuple" vs.toArray 0)).push (seqObj "list" #[] 0)}:=λc D j G=>by
  obtain⟨H,I⟩:=V4 D j
  have L:((arrOf c).map (·.2)).size<=sizeLine:=by
   rw[Array.size_map];have:=D.size_eq;rw[pairsOf_size]at this;omega
  refine aM3 (seqEpoch_at C rfl ?_);refine aM3 (listUpdate_at C rfl ?_ (hsz2:=by (clear z la t k;omega)));rw[G];simp only[bne_self_eq_false,Bool.false_eq_true,if_false];have l:=h _ H I;rw[Array.toArray_toList]at l;exact aM4 l
 rw[list_sort_plain];refine aM3 (listItems_at ho rfl ?_);refine aM3 (listUpdate_at ho rfl ?_ (by rw[List.size_toArray];omega) (aN9 _));refine aM3 (seqEpoch_at B rfl ?_);refine aM3 (aOb ?_ (by show vs.length<=_;omega));refine aM3 (wpAny_newList ?_ (aN9 _));refine aMv ?_;dsimp only;by_cases PD:vs.length<2
 ·have f :vs.toArray.size<2:=by rw[List.size_toArray];exact PD
  rw[if_pos f,if_pos f];refine aM3 (aM4 ?_);rw[StateT.run_pure];refine aM3 (aM4 ?_)
  exact d (SortSt.mk' general' (vs.toArray.zip vs.toArray) #[] 7 none) (Array.Perm.refl _) (λp q _ J M=>by
   obtain rfl:p=q:=by (clear f z la t k;omega)
   exact O.TF _) rfl
 ·have i:¬vs.toArray.size<2:=by rw[List.size_toArray];exact PD
  rw[if_neg i,if_neg i];obtain⟨u,kind⟩:=t (by omega) _ g;refine aM3 (kind _ ?_)
  refine aM3 (aNj (aFt (Q:=λ_ c =>Base κ (pairsOf vs) c /\Seg lt (arrOf c) 0 (pairsOf vs).size) O u (st:=SortSt.mk' κ (vs.toArray.zip vs.toArray) #[] 7 none) ⟨Array.Perm.refl _,rfl,rfl⟩ rfl
   (by rw[pairsOf_size];omega) (by rw[pairsOf_size];omega) λc b j=>⟨b,j⟩) (λr N K=>?_) λ_ _ e=>e)
  obtain⟨⟨⟩,c⟩:=r;obtain⟨rfl,b,j⟩:=K;rw[pairsOf_size]at j;exact d c b.perm j b.cY
theorem FE(O:Wk lt){l:Addr}{Q:aPv}(d:s.heap.IsList l vs.toArray)(c:vs.length<64)
  (f:2<=vs.length->∀h' :Heap,(∀b o,s.heap.get? b=some o->h'.get? b=some o)->ID prog w A.in1.in1 {s with heap:=h'} κ lt (pairsOf vs)/\
   ∀a g,a κ {s with heap:=h'}->wpAny (model prog w) A.in1.in1 (keyKind' vs.toArray) a g {s with heap:=h'})
  (h:∀out:List Value,out.Perm vs->out.Pairwise (λx y=>lt (y,y) (x,x)=false)->Q (.ref (s.heap.objs.size+1)) {s with heap:=sortedAll s.heap vs out.toArray}):
  wpAny (model prog w) A (call (.builtin "sorted") [.ref l]) Q E s:=by
 have t:sizeLine=16777216:=aMe;have grown:((s.heap.push (seqObj "list" #[] 0)).update s.heap.objs.size (Obj.mapSeq (· ++vs.toArray))).objs.size=s.heap.objs.size+1:=by rw[Heap.size_update,size_push']
 have kept:∀b o,s.heap.get? b=some o->(((s.heap.push (seqObj "list" #[] 0)).update s.heap.objs.size (Obj.mapSeq (· ++vs.toArray))).push (seqObj "list" vs.toArray 0)).get? b=some o:=λb o e=>by
  have lb:=aMb e;refine aM5 _ ?_;rw[Heap.get?_update_ne _ _ _ _ (Nat.ne_of_lt lb)];exact aM5 _ e
 refine aOi kind_sorted plain_sorted entry_sorted (args_sorted1 _) ?_;unfold Builtin.«sorted»;refine aM3 (m:=checkCount "sorted" 1 1 _) (aM4 ?_);refine aM3 (collect_list d ?_ (by omega));refine aM3 (wpAny_newList ?_ (by omega))
 have ob:(((s.heap.push (seqObj "list" #[] 0)).update s.heap.objs.size (Obj.mapSeq (· ++vs.toArray))).push (seqObj "list" vs.toArray 0)).get? (s.heap.objs.size+1)=some (seqObj "list" vs.toArray 0):=by
  rw[<-grown];exact aMa _ rfl
 show wpAny _ _ _ _ _ {s with heap:=((s.heap.push (seqObj "list" #[] 0)).update s.heap.objs.size (Obj.mapSeq (· ++vs.toArray))).push (seqObj "list" vs.toArray 0)};rw[grown];refine aM3 (aMv (aMk slot_list_sort ⟨_,ob,rfl⟩ entry_list_sort (QQ (κ:=κ) (s:={s with heap:=((s.heap.push (seqObj "list" #[] 0)).update s.heap.objs.size (Obj.mapSeq (· ++vs.toArray))).push (seqObj "list" vs.toArray 0)}) O ob c (λi h' k=>?_) λout j n=>⟨_,rfl,aM4 ⟨_,rfl,h out j n⟩⟩) (args_list_sort _)));obtain⟨p,r⟩:=f i h' λb o e=>k b o (aMg (aMw (aMb e))) (kept b o e);exact⟨p,λa q=>r a _ q⟩
end
end TS
namespace D3
open PySem PySem.Spec PyProof.Rows L2
inductive D where
 | bU | bl (b:Bool) | int (i:Int) | str (x:Str) | ty (n:String)
 | tup (ds:List D) | fl (ds:List D) | ref (n:Nat)
inductive MO where
 | lst (ds:List D)
 | dic (t:Bool) (kvs:List (D×D))
 | fdc (t:Bool) (kvs:List (D×D)) (ob:Obj)
 | oth (ds:List D) (f:Addr->List V->HO)
abbrev MH:=List MO
abbrev iM:=List (Option D)
def VG(K:aPu)(H:Hp)(a:Addr)(xs:List V):Prop:=
 (∃o,H a=some (.frz o (.lst xs)))\/
  ∃(o:Obj) (aM:Array Value) (n:Nat),K.lookup a=some o/\o.cls= .type "list"/\o.dict=none/\o.data= .seq aM n/\aM.size<=sizeLine/\Vals xs aM.toList
variable{K:aPu}{H:Hp}{a:Addr}{xs:List V}
theorem VG.sq(h:VG K H a xs):rA K H a xs:=by
 rcases h with h | h
 ·exact .inl (.inr h)
 ·exact .inr h
def U9(K:aPu)(H:Hp)(a:Addr)(xs:List V):Prop:=
 H a=some (.tup xs)\/
  ∃(o:Obj) (aM:Array Value) (n:Nat),K.lookup a=some o/\o.cls= .type "tuple"/\o.dict=none/\o.data= .seq aM n/\aM.size<=sizeLine/\Vals xs aM.toList
theorem U9.of(h:H a=some (.tup xs)):U9 K H a xs:= .inl h
theorem U9.sq(h:U9 K H a xs):zI K H a xs:=by
 rcases h with h | h
 ·exact .inl (.inl h)
 ·exact .inr h
mutual
def Is(K:aPu)(μ:List Addr)(H:Hp):D->V->Prop
 | .bU,v=>v= .bU
 | .bl b,v=>v= .bl b
 | .int i,v=>v= .int i
 | .str x,v=>v= .str x
 | .ty n,v=>v= .ty n
 | .tup ds,v=>∃a vs,v= .ref a/\U9 K H a vs/\IsL K μ H ds vs
 | .fl ds,v=>∃a vs,v= .ref a/\VG K H a vs/\IsL K μ H ds vs
 | .ref n,v=>∃a,μ[n]? =some a/\v= .ref a
def IsL(K:aPu)(μ:List Addr)(H:Hp):List D->List V->Prop
 | [],vs=>vs=[]
 | d::ds,vs=>∃v r,vs=v::r/\Is K μ H d v/\IsL K μ H ds r
end
def bJ:Key->D
 | .inl i=>.int i
 | .inr x=>.str x
def VC(o:Option HO)(ks:List D)(vs:List V):Bool->Prop
 | false=>∃kk:List (Key×V),o=some (.dK kk)/\ks=kk.map (λp=>bJ p.1)/\vs=kk.map (·.2)
 | true=>∃kk:List (List Key×V),o=some (.dT kk)/\ks=kk.map (λp=>.tup (p.1.map bJ))/\vs=kk.map (·.2)
def Own:Option HO->Prop
 | some (.frz _ (.dK _))=>True
 | some (.frz _ (.dT _))=>True
 | o=>VB o
def qC(K:aPu)(μ:List Addr)(H:Hp):MO->Addr->Prop
 | .lst ds,a=>∃vs,H a=some (.lst vs)/\IsL K μ H ds vs
 | .dic t kvs,a=>∃vs,VC (H a) (kvs.map (·.1)) vs t/\IsL K μ H (kvs.map (·.2)) vs
 | .fdc t kvs ob,a=>∃vs u,H a=some (.frz ob u)/\VC (some u) (kvs.map (·.1)) vs t/\IsL K μ H (kvs.map (·.2)) vs
 | .oth ds f,a=>∃vs,(H a=some (f a vs)/\Own (some (f a vs)))/\IsL K μ H ds vs
structure Rep(K:aPu)(μ:List Addr)(mh:MH)(H:Hp):Prop where
 len:μ.length=mh.length
 nd:μ.Nodup
 obj:∀(n:Nat) a o,μ[n]? =some a->mh[n]? =some o->qC K μ H o a
structure aZ(μ:List Addr)(H:Hp)(μ' :List Addr)(H' :Hp):Prop where
 pre:∃t,μ' =μ++t
 fr:∀b o,H b=some o->b∉μ->H' b=some o
 nw:∀a∈μ',a∈μ\/H a=none
def dG(K:aPu)(μ:List Addr)(H:Hp)(a:iM)(σ:L2.St):Prop:=
 a.length=σ.length/\∀(i:Nat) d,a[i]? =some (some d)->∃v,σ[i]? =some (some v)/\Is K μ H d v
section
variable {K:aPu}{μ μ1 μ2 μ' :List Addr}{mh mh' :MH}{H H1 H2 H' :Hp}
theorem qC.mut{o:MO}(h:qC K μ H o a):Own (H a):=by
 cases o with
 | lst ds=>obtain⟨vs,e,_⟩:=h;rw[e];trivial
 | dic t kvs=>cases t <;> (obtain⟨vs,⟨kk,e,_⟩,_⟩:=h;rw[e];trivial)
 | fdc t kvs ob=>cases t <;> (obtain⟨vs,u,e,⟨kk,b,_⟩,_⟩:=h;cases b;rw[e];trivial)
 | oth ds f=>obtain⟨vs,⟨e,m⟩,_⟩:=h;rw[e];exact m
theorem Rep.at(R:Rep K μ mh H)(h:a∈μ):∃(n:Nat) (o:MO),μ[n]? =some a/\mh[n]? =some o/\qC K μ H o a:=by
 obtain⟨n,b⟩:=aMr.mp h;have c:n<mh.length:=by rw[<-R.len];exact(aM6.mp b).1
 exact⟨n,mh[n],b,by simp[c],R.obj n a _ b (by simp[c])⟩
theorem Rep.mut(R:Rep K μ mh H)(h:a∈μ):Own (H a):=let ⟨_,_,_,_,q⟩:=R.at h;q.mut
theorem aZ.refl:aZ μ H μ H:=⟨⟨[],by simp⟩,λ_ _ h _=>h,λ_ h=>.inl h⟩
theorem aZ.trans(p:aZ μ H μ1 H1)(q:aZ μ1 H1 μ2 H2):aZ μ H μ2 H2:=by
 refine⟨?_,λb o e n=>?_,λa ha=>?_⟩
 ·obtain⟨t,rfl⟩:=p.pre;obtain⟨u,rfl⟩:=q.pre;exact⟨t++u,by simp⟩
 ·refine q.fr b o (p.fr b o e n) λc=>?_;rcases p.nw b c with z | z
  ·exact n z
  ·rw[e]at z;cases z
 ·rcases q.nw a ha with z | z
  ·exact p.nw a z
  ·by_cases hm:a∈μ
   ·exact .inl hm
   ·right
    cases e:H a with
    | none=>rfl
    | some o=>rw[p.fr a o e hm]at z;cases z
variable{n:Nat}
theorem aZ.get(p:aZ μ H μ' H')(h:μ[n]? =some a):μ'[n]? =some a:=by
 obtain⟨t,rfl⟩:=p.pre;rw[List.getElem?_append_left (List.getElem?_eq_some_iff.mp h).1];exact h
variable{vs:List V}
theorem Rep.sqT(R:Rep K μ mh H)(p:aZ μ H μ' H')(h:U9 K H a vs):U9 K H' a vs:=by
 rcases h with h | h
 ·refine .inl (p.fr _ _ h λhm=>?_);have:=R.mut hm;rw[h]at this;exact this
 ·exact .inr h
theorem Rep.sqF(R:Rep K μ mh H)(p:aZ μ H μ' H')(h:VG K H a vs):VG K H' a vs:=by
 rcases h with ⟨o,h⟩ | h
 ·refine .inl ⟨o,p.fr _ _ h λhm=>?_⟩;have:=R.mut hm;rw[h]at this;exact this
 ·exact .inr h
mutual
theorem Is.mono(R:Rep K μ mh H)(p:aZ μ H μ' H'):∀(d:D) (v:V),Is K μ H d v->Is K μ' H' d v
 | .bU,v,h=>by unfold Is at*;exact h
 | .bl _,v,h=>by unfold Is at*;exact h
 | .int _,v,h=>by unfold Is at*;exact h
 | .str _,v,h=>by unfold Is at*;exact h
 | .ty _,v,h=>by unfold Is at*;exact h
 | .tup ds,v,h=>by
  unfold Is at*;obtain⟨a,vs,e,s,l⟩:=h;exact⟨a,vs,e,R.sqT p s,IsL.mono R p ds vs l⟩
 | .fl ds,v,h=>by
  unfold Is at*;obtain⟨a,vs,e,s,l⟩:=h;exact⟨a,vs,e,R.sqF p s,IsL.mono R p ds vs l⟩
 | .ref n,v,h=>by
  unfold Is at*;obtain⟨a,e,q⟩:=h;exact⟨a,p.get e,q⟩
theorem IsL.mono(R:Rep K μ mh H)(p:aZ μ H μ' H'):∀(ds:List D) (vs:List V),IsL K μ H ds vs->IsL K μ' H' ds vs
 | [],vs,h=>by unfold IsL at*;exact h
 | d::ds,vs,h=>by
  unfold IsL at*;obtain⟨v,r,e,q,l⟩:=h;exact⟨v,r,e,Is.mono R p d v q,IsL.mono R p ds r l⟩
end
theorem dG.mono{a:iM}{σ:L2.St}(R:Rep K μ mh H)(p:aZ μ H μ' H')(E:dG K μ H a σ):dG K μ' H' a σ:=⟨E.1,λi d e=>by
 obtain⟨v,b,c⟩:=E.2 i d e
 exact⟨v,b,Is.mono R p d v c⟩⟩
theorem qC.mono{o:MO}(R:Rep K μ mh H)(p:aZ μ H μ' H')(e:H' a=H a)(h:qC K μ H o a):qC K μ' H' o a:=by
 cases o with
 | lst ds=>obtain⟨vs,q,l⟩:=h;exact⟨vs,by rw[e];exact q,IsL.mono R p ds vs l⟩
 | dic t kvs=>obtain⟨vs,q,l⟩:=h;exact⟨vs,by rw[e];exact q,IsL.mono R p _ vs l⟩
 | fdc t kvs ob=>obtain⟨vs,u,q,b,l⟩:=h;exact⟨vs,u,by rw[e];exact q,b,IsL.mono R p _ vs l⟩
 | oth ds f=>obtain⟨vs,⟨q,m⟩,l⟩:=h;exact⟨vs,⟨by rw[e];exact q,m⟩,IsL.mono R p ds vs l⟩
variable{q:Addr}
theorem aZ.new{o:HO}(R:Rep K μ mh H)(a:H q=none):aZ μ H μ (upd H q o):=
 ⟨⟨[],by simp⟩,λb u e _=>by rw[bD (bV e a)];exact e,λ_ h=>.inl h⟩
theorem Rep.ne(R:Rep K μ mh H)(b:H q=none)(h:a∈μ):a≠q:=by
 rintro rfl;have:=R.mut h;rw[b]at this;exact this
theorem Rep.new{o:HO}(R:Rep K μ mh H)(b:H q=none):Rep K μ mh (upd H q o):=
 ⟨R.len,R.nd,λn a ob c d=>(R.obj n a ob c d).mono R (aZ.new R b) (bD (R.ne b (aMc c)))⟩
theorem aZ.OD{o:HO}(R:Rep K μ mh H)(c:H q=none):aZ μ H (μ++[q]) (upd H q o):=
 ⟨⟨[q],rfl⟩,λb u e _=>by rw[bD (bV e c)];exact e,λa h=>by
  rcases aMi.mp h with h | h
  ·exact .inl h
  ·simp at h;subst h;exact .inr c⟩
theorem Rep.OD{ds:List D}(R:Rep K μ mh H)(e:H q=none)(l:IsL K μ H ds vs):Rep K (μ++[q]) (mh++[.lst ds]) (upd H q (.lst vs)):=by
 have P:aZ μ H (μ++[q]) (upd H q (.lst vs)):=aZ.OD R e;refine⟨by simp[R.len],?_,λn a ob c d=>?_⟩
 ·rw[List.nodup_append];refine⟨R.nd,by simp,λa ha b f=>?_⟩;simp at f;subst f;exact R.ne e ha
 ·by_cases g:n<μ.length
  ·rw[List.getElem?_append_left g]at c;rw[List.getElem?_append_left (by rw[<-R.len];exact g)]at d;exact(R.obj n a ob c d).mono R P (bD (R.ne e (aMc c)))
  ·rw[List.getElem?_append_right (by lia)]at c;rw[List.getElem?_append_right (by rw[<-R.len];lia)]at d
   have hz:n-μ.length=0:=by
    have:=(aM6.mp c).1;simp at this;lia
   rw[hz]at c;rw[<-R.len,hz]at d;simp at c d;subst c d;exact⟨vs,bY,l.mono R P⟩
theorem aZ.set{o:HO}(R:Rep K μ mh H)(h:μ[n]? =some a):aZ μ H μ (upd H a o):=
 ⟨⟨[],by simp⟩,λb u e c=>by rw[bD (λz=>c (by rw[z];exact List.mem_of_getElem? h))];exact e,λ_ h=>.inl h⟩
theorem R7{n m:Nat}(nd:μ.Nodup)(b:μ[n]? =some a)(c:μ[m]? =some a):n=m:=by
 obtain⟨f,d⟩:=aM6.mp b;obtain⟨g,e⟩:=aM6.mp c;exact(aPo nd).mp (d.trans e.symm)
theorem Rep.set{ds:List D}(R:Rep K μ mh H)(h:μ[n]? =some a)(l:IsL K μ H ds vs):Rep K μ (mh.set n (.lst ds)) (upd H a (.lst vs)):=by
 have P:aZ μ H μ (upd H a (.lst vs)):=aZ.set R h;refine⟨by simp[R.len],R.nd,λm b ob c d=>?_⟩;by_cases hm:m=n
 ·subst hm;rw[h]at c;cases c;have e:m<mh.length:=by rw[<-R.len];exact(aM6.mp h).1
  rw[List.getElem?_set_self e]at d;cases d;exact⟨vs,bY,l.mono R P⟩
 ·rw[List.getElem?_set_ne (Ne.symm hm)]at d;exact(R.obj m b ob c d).mono R P (bD λz=>hm (R7 R.nd c (by rw[z];exact h)))
end
abbrev DK:=D->MH->Prop
abbrev WE:=iM->MH->DK->Prop
def Fin(K:aPu)(μ:List Addr)(H:Hp)(R:DK)(Q:VK):Prop:=
 ∀d mh',R d mh' ->∀μ' v H',aZ μ H μ' H' ->Rep K μ' mh' H' ->Is K μ' H' d v->Q v H'
def tL(K:aPu)(w:WE):TE:=λσ H Q=>∃μ a mh R,Rep K μ mh H/\dG K μ H a σ/\w a mh R/\Fin K μ H R Q
def LE(X:Cx)(e:Expr)(w:WE):Prop:=PE X e (tL X.K w)
variable{X:Cx}
theorem PE.imp{e:Expr}{t t' :TE}(h:PE X e t)(i:∀σ H Q,t' σ H Q->t σ H Q):PE X e t' :=λpins s σ H Q I q=>h pins s σ H Q I (i σ H Q q)
variable{R:DK}{Q:VK}
theorem Fin.at{μ a:List Addr}{H b:Hp}(F:Fin K μ H R Q)(P:aZ μ H a b):Fin K a b R Q:=
 λd mh' r μ' v H' c e I=>F d mh' r μ' v H' (P.trans c) e I
def aB(i:Nat):WE:=λa mh Q=>∃d,a[i]? =some (some d)/\Q d mh
def wC(d:D):WE:=λ_ mh Q=>Q d mh
section
variable {X:Cx}{a b c:Expr}{wa wb wc:WE}{pos:Pos}
theorem aD7(i:Nat){x:Str}(hN:X.N[i]? =some x:=by rfl)(b:Vis X.env.scope x:=by first | exact Or.inl rfl | exact Or.inr (Or.inl rfl) | exact Or.inr (Or.inr rfl))(hd:(x==("__debug__":Str))=false:=by decide)
  (a:(x==("__classdict__":Str))=false:=by decide):LE X (.Name x pos) (aB i):=PE.imp (aBu hN b hd a) λσ H Q h=>by
 obtain⟨μ,f,mh,R,r,E,⟨d,hd,c⟩,F⟩:=h;obtain⟨v,e,i⟩:=E.2 _ d hd;exact⟨v,e,F d mh c μ v H aZ.refl r i⟩
theorem ON{e:Expr}{v:V}{d:D}(h:PE X e (tC v))(a:∀μ H,Is X.K μ H d v):LE X e (wC d):=PE.imp h λσ H Q h=>by
 obtain⟨μ,c,mh,R,r,E,b,F⟩:=h;exact F d mh b μ v H aZ.refl r (a μ H)
theorem le_int{i:Int}{j}:LE X (.Constant (.int i) j pos) (wC (.int i)):=ON aC1 λ_ _=>by unfold Is;rfl
theorem aHy{i:Bool}{j}:LE X (.Constant (.bool i) j pos) (wC (.bl i)):=ON aH4 λ_ _=>by unfold Is;rfl
theorem aDb{j}:LE X (.Constant .none j pos) (wC .bU):=ON aBz λ_ _=>by unfold Is;rfl
theorem le_str{i:Str}{j}:LE X (.Constant (.str i) j pos) (wC (.str i)):=ON aBw λ_ _=>by unfold Is;rfl
theorem X7{x:Str}{d:D}{v:V}{u:Value}(hg:Gl X x)(hm:X.mg x=some u)(r:RelV v u)(a:∀μ H,Is X.K μ H d v)(hd:(x==("__debug__":Str))=false:=by decide):LE X (.Name x pos) (wC d):=ON (W7 hg hm r hd) a
theorem X5{x:Str}{T:String}(hg:Gl X x)(hm:X.mg x=none)(a:bootBuiltins x=some (.type T))(b:x≠ "__name__":=by decide)(hd:(x==("__debug__":Str))=false:=by decide):LE X (.Name x pos) (wC (.ty T)):=
 ON (XA (v:= .ty T) hg hm a rfl b hd) λ_ _=>by unfold Is;rfl
abbrev O1:=D->MH->DK->Prop
abbrev O2:=D->D->MH->DK->Prop
def bW(K:aPu)(f:O2):R2:=λx y H Q=>∃μ mh dx a R,Rep K μ mh H/\Is K μ H dx x/\Is K μ H a y/\f dx a mh R/\Fin K μ H R Q
def SU(K:aPu)(f:O1):V->Hp->VK->Prop:=λx H Q=>∃μ mh dx R,Rep K μ mh H/\Is K μ H dx x/\f dx mh R/\Fin K μ H R Q
def aU(f:O2)(wa wb:WE):WE:=λc mh Q=>wa c mh λx a=>wb c a λy b=>f x y b Q
def VD(f:O1)(wa:WE):WE:=λb mh Q=>wa b mh λx a=>f x a Q
variable{f:O2}{σ:L2.St}
theorem LU(h:tL K (aU f wa wb) σ H Q):tOp (bW K f) (tL K wa) (tL K wb) σ H Q:=by
 obtain⟨μ,e,mh,R,g,E,h,F⟩:=h;refine⟨μ,e,mh,_,g,E,h,λdx a l b m r i j n=>⟨b,e,a,_,j,E.mono g i,l,λo c p d s t k R2 q=>?_⟩⟩;exact⟨d,c,dx,o,R,R2,Is.mono j k dx m n,q,p,F.at (i.trans k)⟩
theorem aFy{f:O1}(h:tL K (VD f wa) σ H Q):tUn (SU K f) (tL K wa) σ H Q:=by
 obtain⟨μ,c,mh,R,d,E,h,F⟩:=h;exact⟨μ,c,mh,_,d,E,h,λdx a e b k l g i j=>⟨b,a,dx,R,i,j,e,F.at g⟩⟩
theorem aHt{op:Operator}(ho:g5 X (binaryOp op) (bW X.K f))(ha:LE X a wa)(c:LE X b wb):LE X (.BinOp a op b pos) (aU f wa wb):=PE.imp (aH0 ho ha c) λ_ _ _ h=>LU h
theorem aHr{op:UnaryOp}{f:O1}(ho:UnR X (unaryOp op) (SU X.K f))(ha:LE X a wa):LE X (.UnaryOp op a pos) (VD f wa):=PE.imp (aGz ho ha) λ_ _ _ h=>aFy h
theorem aDf{op:CmpOp}(ho:g5 X (compareOp op) (bW X.K f))(ha:LE X a wa)(c:LE X b wb)(hm:behindInMarks op b=false):LE X (.Compare a [op] [b] pos) (aU f wa wb):=PE.imp (W8 ho ha c hm) λ_ _ _ h=>LU h
theorem aAb(ho:IxR X (bW X.K f))(ha:LE X a wa)(c:LE X b wb)(d:NJ b):LE X (.Subscript a b pos) (aU f wa wb):=PE.imp (aH2 ho ha c d) λ_ _ _ h=>LU h
abbrev WT:=iM->MH->(Bool->MH->Prop)->Prop
def ZW(K:aPu)(μ:List Addr)(H:Hp)(R:Bool->MH->Prop)(Q:Bool->Hp->Prop):Prop:=
 ∀b mh',R b mh' ->∀μ' H',aZ μ H μ' H' ->Rep K μ' mh' H' ->Q b H'
def tLT(K:aPu)(w:WT):TT:=λσ H Q=>∃μ a mh R,Rep K μ mh H/\dG K μ H a σ/\w a mh R/\ZW K μ H R Q
def LT(X:Cx)(e:Expr)(w:WT):Prop:=PT X e (tLT X.K w)
def LW(X:Cx)(e:Expr)(w:WT):Prop:=PW X e (tLT X.K w)
theorem PT.imp{X:Cx}{e:Expr}{t t' :TT}(h:PT X e t)(i:∀σ H Q,t' σ H Q->t σ H Q):PT X e t' :=λpins s σ H Q I q=>h pins s σ H Q I (i σ H Q q)
theorem PW.imp{X:Cx}{e:Expr}{t t' :TT}(h:PW X e t)(i:∀σ H Q,t' σ H Q->t σ H Q):PW X e t' :=λa pins s σ H Q I q=>h a pins s σ H Q I (i σ H Q q)
variable{Q:Bool->Hp->Prop}
theorem ZW.at{μ a:List Addr}{H c:Hp}{R:Bool->MH->Prop}(F:ZW K μ H R Q)(P:aZ μ H a c):ZW K a c R Q:=
 λb mh' r μ' H' d e =>F b mh' r μ' H' (P.trans d) e
def cU(w:WE):WT:=λb mh Q=>w b mh λx a=>∃k,x= .bl k/\Q k a
theorem aAt{t:TE}{w:WE}(i:∀σ H Q,tL K w σ H Q->t σ H Q)(h:tLT K (cU w) σ H Q):Z7 t σ H Q:=by
 obtain⟨μ,e,mh,R,f,E,h,F⟩:=h;refine i σ H _ ⟨μ,e,mh,_,f,E,h,λdx a b c m g j l d=>?_⟩;obtain⟨k,rfl,b⟩:=b;unfold Is at d;exact⟨k,d,F k a b c g j l⟩
theorem SN{op:CmpOp}(ho:g5 X (compareOp op) (bW X.K f))(ha:LE X a wa)(c:LE X b wb)(hm:behindInMarks op b=false):LT X (.Compare a [op] [b] pos) (cU (aU f wa wb)):=
 PT.imp (WR ho ha c hm) λ_ _ _ h=>aAt (λ_ _ _ z=>LU z) h
def iA(mh:MH):D->Option Bool
 | .bU=>some false
 | .bl b=>some b
 | .int i=>some (i !=0)
 | .str y=>if y.length<=sizeLine then some ((y.length:Int) !=0) else none
 | .tup ds=>some !ds.isEmpty
 | .fl ds=>some !ds.isEmpty
 | .ref n=>match mh[n]? with | some (.lst ds)=>some !ds.isEmpty | _=>none
 | .ty _=>none
theorem bB{K:aPu}{μ:List Addr}{H:Hp}:∀{ds:List D} {vs:List V},IsL K μ H ds vs->vs.length=ds.length
 | [],vs,h=>by unfold IsL at h;subst h;rfl
 | d::ds,vs,h=>by unfold IsL at h;obtain⟨v,r,rfl,_,l⟩:=h;simp[bB l]
theorem DU{μ:List Addr}{ds:List D}{vs:List V}(h:IsL K μ H ds vs):vs.isEmpty=ds.isEmpty:=by
 have:=bB h;cases vs <;> cases ds <;> simp_all
theorem aAv{μ:List Addr}{mh:MH}{d:D}{v:V}{k:Bool}(R:Rep K μ mh H)(h:Is K μ H d v)(e:iA mh d=some k):aFa K v H k:=by
 cases d with
 | bU=>unfold Is at h;subst h;simp[iA]at e;subst e;rfl
 | bl b=>unfold Is at h;subst h;simp[iA]at e;subst e;rfl
 | int i=>unfold Is at h;subst h;simp[iA]at e;subst e;rfl
 | str y=>
  unfold Is at h;subst h;simp only[iA]at e;split at e
  ·rename_i hl;exact⟨hl,(aMn e).symm⟩
  ·cases e
 | ty n=>simp[iA]at e
 | tup ds=>
  unfold Is at h;obtain⟨a,vs,rfl,s,l⟩:=h;obtain rfl:(!ds.isEmpty)=k:=aMn e;exact .inr (.inl ⟨vs,s.sq,by rw[DU l]⟩)
 | fl ds=>
  unfold Is at h;obtain⟨a,vs,rfl,s,l⟩:=h;obtain rfl:(!ds.isEmpty)=k:=aMn e;exact .inl ⟨vs,s.sq,by rw[DU l]⟩
 | ref n=>
  unfold Is at h;obtain⟨a,q,rfl⟩:=h;simp only[iA]at e
  cases o:mh[n]? with
  | none=>rw[o]at e;cases e
  | some ob=>
   cases ob with
   | lst ds=>
    rw[o]at e;cases e;obtain⟨vs,c,l⟩:=R.obj n a _ q o;exact .inl ⟨vs,.of c,by rw[DU l]⟩
   | dic t kvs=>rw[o]at e;cases e
   | fdc t kvs ob=>rw[o]at e;cases e
   | oth ds f=>rw[o]at e;cases e
def mP(w:WE):WT:=λb mh Q=>w b mh λx a=>∃k,iA a x=some k/\Q k a
theorem SM(ha:LE X a wa)(he:∀b,isTrue a X.env b=(do let v<-b;standAt a.pos;holding [v] (truthy v)):=by intro _;rfl):LT X a (mP wa):=PT.imp (RA ha he) λσ H Q h=>by
 obtain⟨μ,i,mh,R,j,E,h,F⟩:=h;refine⟨μ,i,mh,_,j,E,h,λdx c d f o l m g n=>?_⟩;obtain⟨k,e,d⟩:=d;exact⟨k,aAv g n e,F k c d f l m g⟩
def K7(t u:WT):WT:=λb mh Q=>t b mh λc a=>if c=true then u b a Q else Q false a
def wV(t u:WT):WT:=λb mh Q=>t b mh λc a=>if c=true then Q true a else u b a Q
def i6(t:WT):WT:=λb mh Q=>t b mh λc a=>Q (!c) a
variable {ta tb:WT}{rest:List Expr}
theorem XT(ha:LT X a ta):LW X (.BoolOp .And [a] pos) ta:=WL ha
theorem aCt(ha:LT X a ta):LW X (.BoolOp .Or [a] pos) ta:=aBi ha
theorem aCu(ha:LT X a ta)(l:LW X (.BoolOp .And (b::rest) pos) tb):LW X (.BoolOp .And (a::b::rest) pos) (K7 ta tb):=PW.imp (aBj ha l) λσ H Q h=>by
 obtain⟨μ,i,mh,R,j,E,h,F⟩:=h;refine⟨μ,i,mh,_,j,E,h,λc d f e m g k=>?_⟩
 cases c with
 | true=>rw[if_pos rfl]at f⊢;exact⟨e,i,d,R,k,E.mono j g,f,F.at g⟩
 | false=>rw[if_neg Bool.false_ne_true]at f⊢;exact F false d f e m g k
theorem aA8(ha:LT X a ta)(l:LW X (.BoolOp .Or (b::rest) pos) tb):LW X (.BoolOp .Or (a::b::rest) pos) (wV ta tb):=PW.imp (aGs ha l) λσ H Q h=>by
 obtain⟨μ,i,mh,R,j,E,h,F⟩:=h;refine⟨μ,i,mh,_,j,E,h,λc d f e m g k=>?_⟩
 cases c with
 | true=>rw[if_pos rfl]at f⊢;exact F true d f e m g k
 | false=>rw[if_neg Bool.false_ne_true]at f⊢;exact⟨e,i,d,R,k,E.mono j g,f,F.at g⟩
theorem LW.lt(h:LW X a ta):LT X a ta:=PW.pt h
theorem aCv(ha:LT X a ta):LT X (.UnaryOp .Not a pos) (i6 ta):=PT.imp (aBk ha) λσ H Q h=>by
 obtain⟨μ,e,mh,R,f,E,h,F⟩:=h;exact⟨μ,e,mh,_,f,E,h,λc b g d i j k=>F (!c) b g d i j k⟩
def uQ(wa wb:WE):WE:=λb mh Q=>wa b mh λx a=>∃c,x= .bl c/\if c=true then wb b a Q else Q (.bl false) a
theorem aD9{op}(ha:LE X a wa):LE X (.BoolOp op [a] pos) wa:=aBx ha
theorem aDg(ha:LE X a wa)(m:LE X (.BoolOp .And (b::rest) pos) wb):LE X (.BoolOp .And (a::b::rest) pos) (uQ wa wb):=PE.imp (aC2 ha m) λσ H Q h=>by
 obtain⟨μ,i,mh,R,j,E,h,F⟩:=h;refine⟨μ,i,mh,_,j,E,h,λdx e d f o n g k l=>?_⟩;obtain⟨c,rfl,d⟩:=d;unfold Is at l;refine⟨c,l,?_⟩
 cases c with
 | true=>rw[if_pos rfl]at d⊢;exact⟨f,i,e,R,k,E.mono j g,d,F.at g⟩
 | false=>rw[if_neg Bool.false_ne_true]at d⊢;exact F _ e d f _ n g k (by unfold Is;rfl)
def K3(wa:WE):WE:=λb mh Q=>wa b mh λx a=>∃c,x= .bl c/\Q (.bl !c) a
theorem aDa(ha:LE X a wa):LE X (.UnaryOp .Not a pos) (K3 wa):=PE.imp (aBy ha) λσ H Q h=>by
 obtain⟨μ,g,mh,R,i,E,h,F⟩:=h;refine⟨μ,g,mh,_,i,E,h,λdx b d e m j k l f=>?_⟩;obtain⟨c,rfl,d⟩:=d;unfold Is at f;exact⟨c,f,F _ b d e _ j k l (by unfold Is;rfl)⟩
def wIf(t:WT)(wa wb:WE):WE:=λb mh Q=>t b mh λc a=>if c=true then wa b a Q else wb b a Q
theorem SW(m:LT X c ta)(ha:LE X a wa)(n:LE X b wb):LE X (.IfExp c a b pos) (wIf ta wa wb):=PE.imp (RK m ha n) λσ H Q h=>by
 obtain⟨μ,i,mh,R,j,E,h,F⟩:=h;refine⟨μ,i,mh,_,j,E,h,λk d f e o g l=>?_⟩
 cases k with
 | true=>rw[if_pos rfl]at f⊢;exact⟨e,i,d,R,l,E.mono j g,f,F.at g⟩
 | false=>rw[if_neg Bool.false_ne_true]at f⊢;exact⟨e,i,d,R,l,E.mono j g,f,F.at g⟩
end
abbrev WA:=iM->MH->(List D->MH->Prop)->Prop
def FinA(K:aPu)(μ:List Addr)(H:Hp)(R:List D->MH->Prop)(Q:List V->Hp->Prop):Prop:=
 ∀ds mh',R ds mh' ->∀μ' vs H',aZ μ H μ' H' ->Rep K μ' mh' H' ->IsL K μ' H' ds vs->Q vs H'
def tLA(K:aPu)(w:WA):TA:=λσ H Q=>∃μ a mh R,Rep K μ mh H/\dG K μ H a σ/\w a mh R/\FinA K μ H R Q
def LA(X:Cx)(es:List Expr)(w:WA):Prop:=PA X es (tLA X.K w)
theorem PA.imp{e:List Expr}{t t' :TA}(h:PA X e t)(i:∀σ H Q,t' σ H Q->t σ H Q):PA X e t' :=λpos pins s σ H Q I q=>h pos pins s σ H Q I (i σ H Q q)
def aD:WA:=λ_ mh Q=>Q [] mh
def aA(w:WE)(d:WA):WA:=λc mh Q=>w c mh λx a=>d c a λxs b=>Q (x::xs) b
def aCn(ds:List D)(mh:MH)(Q:DK):Prop:=ds.length<=sizeLine/\Q (.tup ds) mh
def JF(ds:List D)(mh:MH)(Q:DK):Prop:=ds.length<=sizeLine/\Q (.ref mh.length) (mh++[.lst ds])
section
variable {K:aPu}{μ:List Addr}{mh:MH}{H:Hp}{R:DK}{Q:VK}{ds:List D}{vs:List V}
theorem sQ(a:Rep K μ mh H)(F:Fin K μ H R Q)(l:IsL K μ H ds vs)(h:R (.tup ds) mh):∀p,H p=none->Q (.ref p) (upd H p (.tup vs)):=λp b=>
 F _ mh h μ _ _ (aZ.new a b) (a.new b) (by unfold Is;exact⟨p,vs,rfl,.of bY,IsL.mono a (aZ.new a b) ds vs l⟩)
theorem k7(a:Rep K μ mh H)(F:Fin K μ H R Q)(l:IsL K μ H ds vs)(h:R (.ref mh.length) (mh++[.lst ds])):∀p,H p=none->Q (.ref p) (upd H p (.lst vs)):=λp b=>
 F _ _ h (μ++[p]) _ _ (aZ.OD a b) (a.OD b l) (by unfold Is;exact⟨p,by rw[<-a.len];simp,rfl⟩)
end
def dB(w:WA):WE:=λb mh Q=>w b mh λds a=>aCn ds a Q
def fO(w:WA):WE:=λb mh Q=>w b mh λds a=>JF ds a Q
section
variable {X:Cx}{e:Expr}{es:List Expr}{w:WE}{wr:WA}{pos:Pos}
theorem aDk:LA X [] aD:=PA.imp xR λσ H Q h=>by
 obtain⟨μ,b,mh,R,a,E,h,F⟩:=h;exact F [] mh h μ [] H aZ.refl a (by unfold IsL;rfl)
theorem YD(ha:LE X e w)(m:LA X es wr)(n:starEach (e::es) X.env=(false,eval e X.env)::starEach es X.env:=by rfl):LA X (e::es) (aA w wr):=PA.imp (r6 ha m n) λσ H Q h=>by
 obtain⟨μ,f,mh,R,g,E,h,F⟩:=h;refine⟨μ,f,mh,_,g,E,h,λdx a o b i t j k p=>⟨b,f,a,_,k,E.mono g j,o,λds c q d vs r l R2 s=>?_⟩⟩;exact F _ c q d _ r (j.trans l) R2 (by unfold IsL;exact⟨i,vs,rfl,Is.mono k l dx i p,s⟩)
theorem aD8{x1}(h:LA X es wr):LE X (.Tuple es x1 pos) (dB wr):=PE.imp (aBv h) λσ H Q h=>by
 obtain⟨μ,c,mh,R,d,E,h,F⟩:=h;refine⟨μ,c,mh,_,d,E,h,λds e a f vs j g i b=>⟨by rw[bB b];exact a.1,sQ i (F.at g) b a.2⟩⟩
theorem aDc(h:LA X es wr):LE X (.List es pos) (fO wr):=PE.imp (aC0 h) λσ H Q h=>by
 obtain⟨μ,c,mh,R,d,E,h,F⟩:=h;refine⟨μ,c,mh,_,d,E,h,λds e a f vs j g i b=>⟨by rw[bB b];exact a.1,k7 i (F.at g) b a.2⟩⟩
abbrev OA:=List D->MH->DK->Prop
def eB(K:aPu)(f:OA):List V->Hp->VK->Prop:=λxs H Q=>∃μ mh ds R,Rep K μ mh H/\IsL K μ H ds xs/\f ds mh R/\Fin K μ H R Q
def aE(f:OA)(w:WA):WE:=λb mh Q=>w b mh λds a=>f ds a Q
theorem call_in{f:OA}{σ:L2.St}(h:tL K (aE f wr) σ H Q):tCB (eB K f) (tLA K wr) σ H Q:=by
 obtain⟨μ,c,mh,R,d,E,h,F⟩:=h;exact⟨μ,c,mh,_,d,E,h,λds a e b vs k g i j=>⟨b,a,ds,R,i,j,e,F.at g⟩⟩
theorem S0{x:Str}{p:Pos}{id:String}{f:OA}(c:cG X (.builtin id) (eB X.K f))(hg:Gl X x)(hm:X.mg x=none)(d:bootBuiltins x=some (.builtin id))(ha:LA X (e::es) wr)(g:x≠ "__name__":=by decide)(a:(x==("__debug__":Str))=false:=by decide)
  (he:starEach (e::es) X.env=(false,eval e X.env)::starEach es X.env:=by rfl) (b:(backTo pos (starEach es X.env)).any (·.1)=false:=by rfl):LE X (.Call (.Name x p) (e::es) [] pos) (aE f wr):=
 PE.imp (xQ c hg hm d ha g a he b) λ_ _ _ h=>call_in h
theorem OL{x:Str}{p:Pos}{T:String}{f:OA}(c:cG X (.type T) (eB X.K f))(hg:Gl X x)(hm:X.mg x=none)(d:bootBuiltins x=some (.type T))(ha:LA X (e::es) wr)(g:x≠ "__name__":=by decide)(a:(x==("__debug__":Str))=false:=by decide)
  (he:starEach (e::es) X.env=(false,eval e X.env)::starEach es X.env:=by rfl) (b:(backTo pos (starEach es X.env)).any (·.1)=false:=by rfl):LE X (.Call (.Name x p) (e::es) [] pos) (aE f wr):=
 PE.imp (tQ c hg hm d ha g a he b) λ_ _ _ h=>call_in h
def VE(K:aPu)(f:OA):Sp:=λvs H Q _=>eB K f vs H Q
theorem YB{k:Nat}{f:Addr}{fd:FuncData}{ps:List Str}{x:Str}{p:Pos}{s:OA}(F:mG X.prog X.w X.K X.mg X.base HX k f fd ps (VE X.K s))(g:iS k X.A)(hg:Gl X x)(hm:X.mg x=some (.ref f))(i:PySem.W.keepIn X.K (.ref f)=true)(j:Binds X.K fd ps [])
  (ha:LA X (e::es) wr) (a:(x==("__debug__":Str))=false:=by decide) (he:starEach (e::es) X.env=(false,eval e X.env)::starEach es X.env:=by rfl) (b:(backTo pos (starEach es X.env)).any (·.1)=false:=by rfl):
  LE X (.Call (.Name x p) (e::es) [] pos) (aE s wr):=PE.imp (W9 F g hg hm i j .nil aH5 ha a he b) λσ H Q h=>by
 obtain⟨μ,l,mh,R,m,E,h,n⟩:=h;refine⟨μ,l,mh,_,m,E,h,λds c o d vs q r t u=>?_⟩;show eB X.K s (vs++[]) q Q;rw[List.append_nil];exact⟨d,c,ds,R,t,u,o,n.at r⟩
end
section
variable {K:aPu}{μ:List Addr}{mh:MH}{H:Hp}
theorem Is.int{i:Int}:Is K μ H (.int i) (.int i):=by unfold Is;rfl
theorem Is.str{i:Str}:Is K μ H (.str i) (.str i):=by unfold Is;rfl
theorem Is.bl{i:Bool}:Is K μ H (.bl i) (.bl i):=by unfold Is;rfl
theorem Is.bU:Is K μ H .bU .bU:=by unfold Is;rfl
variable{v:V}
theorem b9{i:Int}(h:Is K μ H (.int i) v):v= .int i:=by unfold Is at h;exact h
theorem lI{i:Str}(h:Is K μ H (.str i) v):v= .str i:=by unfold Is at h;exact h
theorem BK{i:Bool}(h:Is K μ H (.bl i) v):v= .bl i:=by unfold Is at h;exact h
theorem DT(h:Is K μ H .bU v):v= .bU:=by unfold Is at h;exact h
variable{ds:List D}
theorem MM(h:Is K μ H (.tup ds) v):∃a vs,v= .ref a/\U9 K H a vs/\IsL K μ H ds vs:=by unfold Is at h;exact h
theorem eC(h:Is K μ H (.tup ds) v):∃a vs,v= .ref a/\zI K H a vs/\IsL K μ H ds vs:=by obtain⟨a,vs,e,s,l⟩:=MM h;exact⟨a,vs,e,s.sq,l⟩
theorem p8(h:Is K μ H (.fl ds) v):∃a vs,v= .ref a/\VG K H a vs/\IsL K μ H ds vs:=by unfold Is at h;exact h
theorem oQ{n:Nat}(h:Is K μ H (.ref n) v):∃a,μ[n]? =some a/\v= .ref a:=by unfold Is at h;exact h
theorem fD:∀{ds:List D} {vs:List V} {i:Nat} {d:D},IsL K μ H ds vs->ds[i]? =some d->∃v,vs[i]? =some v/\Is K μ H d v
 | [],_,_,_,_,e=>by simp at e
 | x::ds,vs,i,d,h,e=>by
  unfold IsL at h;obtain⟨v,r,rfl,q,l⟩:=h
  cases i with
  | zero=>simp at e;subst e;exact⟨v,rfl,q⟩
  | succ i=>obtain⟨u,a,b⟩:=fD (i:=i) l (by simpa using e);exact⟨u,by simpa using a,b⟩
theorem gE:∀{ds es:List D} {vs us:List V},IsL K μ H ds vs->IsL K μ H es us->IsL K μ H (ds++es) (vs++us)
 | [],es,vs,us,h,q=>by unfold IsL at h;subst h;exact q
 | d::ds,es,vs,us,h,q=>by
  unfold IsL at h;obtain⟨v,r,rfl,i,l⟩:=h;show IsL K μ H (d::(ds++es)) (v::(r++us));unfold IsL;exact⟨v,_,rfl,i,gE l q⟩
variable{d:D}
theorem kZ(h:Is K μ H d v):IsL K μ H [d] [v]:=by unfold IsL;exact⟨v,[],rfl,h,by unfold IsL;rfl⟩
theorem yJ:∀(n:Nat) {ds:List D} {vs:List V},IsL K μ H ds vs->IsL K μ H (ds.drop n) (vs.drop n)
 | 0,_,_,h=>by simpa using h
 | n+1,[],vs,h=>by unfold IsL at h;subst h;simp[IsL]
 | n+1,d::ds,vs,h=>by unfold IsL at h;obtain⟨v,r,rfl,_,l⟩:=h;simpa using yJ n l
theorem yH:∀(n:Nat) {ds:List D} {vs:List V},IsL K μ H ds vs->IsL K μ H (ds.take n) (vs.take n)
 | 0,_,_,h=>by simp[IsL]
 | n+1,[],vs,h=>by unfold IsL at h;subst h;simp[IsL]
 | n+1,d::ds,vs,h=>by
  unfold IsL at h;obtain⟨v,r,rfl,i,l⟩:=h;simp only[List.take_succ_cons];unfold IsL;exact⟨v,_,rfl,i,yH n l⟩
theorem MP:∀(n:Nat) {ds:List D} {vs:List V} {d:D} {v:V},Is K μ H d v->IsL K μ H ds vs->IsL K μ H (ds.set n d) (vs.set n v)
 | n,[],vs,d,v,_,h=>by unfold IsL at h;subst h;simp[IsL]
 | 0,x::ds,vs,d,v,i,h=>by unfold IsL at h;obtain⟨u,r,rfl,_,l⟩:=h;simp only[List.set_cons_zero];unfold IsL;exact⟨v,r,rfl,i,l⟩
 | n+1,x::ds,vs,d,v,i,h=>by unfold IsL at h;obtain⟨u,r,rfl,q,l⟩:=h;simp only[List.set_cons_succ];unfold IsL;exact⟨u,_,rfl,q,MP n i l⟩
theorem aDz{vs:List V}{i:Int}(l:IsL K μ H ds vs)(e:fI ds i=some d):∃v,fI vs i=some v/\Is K μ H d v:=by
 unfold fI at*;rw[bB l]
 cases q:OT ds.length i with
 | none=>rw[q]at e;cases e
 | some j=>rw[q]at e;exact fD l e
def bF(mh:MH):D->Option (List D)
 | .tup ds=>some ds
 | .fl ds=>some ds
 | .ref n=>match mh[n]? with | some (.lst ds)=>some ds | _=>none
 | _=>none
theorem qL(R:Rep K μ mh H)(h:Is K μ H d v)(e:bF mh d=some ds):∃a vs,v= .ref a/\(rA K H a vs\/zI K H a vs)/\IsL K μ H ds vs:=by
 cases d with
 | tup es=>obtain⟨a,vs,rfl,s,l⟩:=eC h;cases e;exact⟨a,vs,rfl,.inr s,l⟩
 | fl es=>obtain⟨a,vs,rfl,s,l⟩:=p8 h;cases e;exact⟨a,vs,rfl,.inl s.sq,l⟩
 | ref n=>
  obtain⟨a,q,rfl⟩:=oQ h;simp only[bF]at e
  cases o:mh[n]? with
  | none=>rw[o]at e;cases e
  | some ob=>
   cases ob with
   | lst es=>
    rw[o]at e;cases e;obtain⟨vs,b,l⟩:=R.obj n a _ q o;exact⟨a,vs,rfl,.inl (.of b),l⟩
   | dic t kvs=>rw[o]at e;cases e
   | fdc t kvs ob=>rw[o]at e;cases e
   | oth ds f=>rw[o]at e;cases e
 | _=>cases e
def lF(mh:MH):D->Option (List D)
 | .fl ds=>some ds
 | .ref n=>match mh[n]? with | some (.lst ds)=>some ds | _=>none
 | _=>none
theorem oJ(R:Rep K μ mh H)(h:Is K μ H d v)(e:lF mh d=some ds):∃a vs,v= .ref a/\rA K H a vs/\IsL K μ H ds vs:=by
 cases d with
 | fl es=>obtain⟨a,vs,rfl,s,l⟩:=p8 h;cases e;exact⟨a,vs,rfl,s.sq,l⟩
 | ref n=>
  obtain⟨a,q,rfl⟩:=oQ h;simp only[lF]at e
  cases o:mh[n]? with
  | none=>rw[o]at e;cases e
  | some ob=>
   cases ob with
   | lst es=>
    rw[o]at e;cases e;obtain⟨vs,b,l⟩:=R.obj n a _ q o;exact⟨a,vs,rfl,.of b,l⟩
   | dic t kvs=>rw[o]at e;cases e
   | fdc t kvs ob=>rw[o]at e;cases e
   | oth ds f=>rw[o]at e;cases e
 | _=>cases e
theorem gA{n:Nat}(R:Rep K μ mh H)(h:Is K μ H (.ref n) v)(e:mh[n]? =some (.lst ds)):∃a vs,v= .ref a/\μ[n]? =some a/\H a=some (.lst vs)/\IsL K μ H ds vs:=by
 obtain⟨a,q,rfl⟩:=oQ h;obtain⟨vs,b,l⟩:=R.obj n a _ q e;exact⟨a,vs,rfl,q,b,l⟩
theorem Fin.here(F:Fin K μ H R Q)(a:Rep K μ mh H)(h:R d mh)(i:Is K μ H d v):Q v H:=F d mh h μ v H aZ.refl a i
theorem Fin.put{n:Nat}{vs:List V}(F:Fin K μ H R Q)(b:Rep K μ mh H)(c:μ[n]? =some a)(l:IsL K μ H ds vs)(h:R d (mh.set n (.lst ds)))(i:Is K μ H d v):Q v (upd H a (.lst vs)):=
 F d _ h μ v _ (aZ.set b c) (b.set c l) (Is.mono b (aZ.set b c) d v i)
end
def F1(C:Int->Int->Prop)(g:Int->Int->D):O2:=λx y mh Q=>∃i j,x= .int i/\y= .int j/\C i j/\Q (g i j) mh
section
variable {X:Cx}
variable{f:Value->Value->Sem Value}{g:Int->Int->V}
theorem xT{C:Int->Int->Prop}{g' :Int->Int->D}(h:g5 X f (rI C g))(hg:∀μ H i j,Is X.K μ H (g' i j) (g i j)):g5 X f (bW X.K (F1 C g')):=by
 intro pins s σ H x y v u Q I a b q;obtain⟨μ,mh,dx,k,R,d,ix,e,⟨i,j,rfl,rfl,c,q⟩,F⟩:=q;cases b9 ix;cases b9 e;exact h pins s σ H _ _ v u Q I a b ⟨i,j,rfl,rfl,c,F.here d q (hg _ _ _ _)⟩
theorem aGq(h:g5 X f (rI0 g)):g5 X f (rI (λ_ _=>True) g):=λpins s σ H x y v u Q I b c a=>by obtain⟨i,j,d,e,_,q⟩:=a;exact h pins s σ H x y v u Q I b c ⟨i,j,d,e,q⟩
abbrev N9:O2:=F1 (λ_ _=>True) λi j=>.int (i-j)
abbrev xU:O2:=F1 P5 λi j=>.int (i*j)
abbrev LV:O2:=F1 aIv λi j=>.int (i / j)
abbrev oMod:O2:=F1 (λ_ j=>0<j) λi j=>.int (i % j)
abbrev RS:O2:=F1 aFd λi j=>.int (i^j.toNat)
theorem aC9:g5 X (binaryOp .Sub) (bW X.K N9):=xT (aGq aC3) λ_ _ _ _=>.int
theorem aCc:g5 X (binaryOp .Mult) (bW X.K xU):=xT aC5 λ_ _ _ _=>.int
theorem XH:g5 X (binaryOp .FloorDiv) (bW X.K LV):=xT XE λ_ _ _ _=>.int
theorem aCd:g5 X (binaryOp .Mod) (bW X.K oMod):=xT aC6 λ_ _ _ _=>.int
theorem aCa:g5 X (binaryOp .Pow) (bW X.K RS):=xT aC4 λ_ _ _ _=>.int
def zT:O1:=λx mh Q=>∃i,x= .int i/\Q (.int (-i)) mh
theorem aAq:UnR X (unaryOp .USub) (SU X.K zT):=by
 intro pins s σ H x v Q I a q;obtain⟨μ,mh,dx,R,b,ix,⟨i,rfl,q⟩,F⟩:=q;cases b9 ix;exact aAp pins s σ H _ v Q I a ⟨i,rfl,F.here b q .int⟩
def iR:O2:=λx y mh Q=>match x with
 | .int i=>match y with | .int j=>Q (.int (i+j)) mh | _=>False
 | .str i=>match y with | .str j=>i.length+j.length<=sizeLine/\Q (.str (i++j)) mh | _=>False
 | .tup i=>match y with | .tup j=>i.length+j.length<=sizeLine/\Q (.tup (i++j)) mh | _=>False
 | .ref n=>match y with | .ref m=>∃i j,mh[n]? =some (.lst i)/\mh[m]? =some (.lst j)/\JF (i++j) mh Q | _=>False
 | _=>False
theorem UU{prog:Program}{w:World}{A:Around}{E:aPv}{s:Shared}{t b:Addr}{ws:List Value}{Q:aPv}(ht:IsTup s.heap t ([]:List Value).toArray)(j:IsTup s.heap b ws.toArray)
  (h:Q (.ref b) s):wpAny (model prog w) A (binaryOp .Add (.ref t) (.ref b)) Q E s:=by
 obtain⟨⟨cls,k,data,sl⟩,ho,g,n,hd⟩:=id ht;obtain⟨⟨i,e,data2,f⟩,a,c,l,d⟩:=id j;simp only at g hd c d;subst g hd c d
 exact concat_meets ⟨_,ho,rfl⟩ ⟨_,a,rfl⟩ noFill_tuple_add seq_tuple_add aOv aOr (aOm _ _)
   (tuple_addW0 t b _ ws.toArray n l k e sl f (by simp)) ⟨ho,a,h⟩
theorem aCf:g5 X (binaryOp .Add) (bW X.K iR):=by
 intro pins s σ H x y v u Q I d f q;obtain⟨μ,mh,dx,h,R,c,ix,g,q,F⟩:=q
 cases dx with
 | int i=>cases h with
  | int j=>cases b9 ix;cases b9 g;exact aC8 pins s σ H _ _ v u Q I d f ⟨i,j,rfl,rfl,F.here c q .int⟩
  | _=>exact False.elim q
 | str i=>cases h with
  | str j=>cases lI ix;cases lI g;exact IY pins s σ H _ _ v u Q I d f ⟨i,j,rfl,rfl,q.1,F.here c q.2 .str⟩
  | _=>exact False.elim q
 | tup i=>cases h with
  | tup j=>
   obtain⟨a,xs,rfl,k,la⟩:=eC ix;obtain⟨b,o,rfl,l,lb⟩:=eC g;by_cases p:xs=[]
   ·subst p;cases d;cases f;obtain⟨aM,t,w,_⟩:=I.tuple k;obtain⟨r,D,z,_⟩:=I.tuple l;cases t;have hi:i=[]:=by have:=bB la;cases i <;> simp_all
    subst hi;exact UU w z ⟨.ref b,H,I,rfl,F.here c q.2 g⟩
   ·refine XF pins s σ H _ _ v u Q I d f ⟨a,b,xs,o,rfl,rfl,k,l,p,by rw[bB la,bB lb];exact q.1,λe=>?_,λ_=>sQ c F (gE la lb) q.2⟩;subst e;have A:j=[]:=by have:=bB lb;cases j <;> simp_all
    subst A;exact F.here c q.2 (by simpa using ix)
  | _=>exact False.elim q
 | ref n=>cases h with
  | ref m=>
   obtain⟨i,j,B,C,q⟩:=q;obtain⟨a,xs,rfl,_,k,la⟩:=gA c ix B;obtain⟨b,o,rfl,_,l,lb⟩:=gA c g C;exact aC7 pins s σ H _ _ v u Q I d f ⟨a,b,xs,o,rfl,rfl,k,l,by rw[bB la,bB lb,<-List.length_append];exact q.1,k7 c F (gE la lb) q.2⟩
  | _=>exact False.elim q
 | _=>exact False.elim q
def bO:O2:=λx y mh Q=>∃i,y= .int i/\match x with
 | .str z=>z.length<=sizeLine/\∃c,fI z.cps.toList i=some c/\Q (.str ⟨#[c]⟩) mh
 | _=>∃ds d,bF mh x=some ds/\fI ds i=some d/\Q d mh
theorem ixl:IxR X (bW X.K bO):=by
 intro b f pins s σ H x y v u Q I h j q k;obtain⟨μ,mh,dx,B,R,g,ix,p,⟨i,rfl,q⟩,F⟩:=q;cases b9 p
 have go:(∃ds d,bF mh dx=some ds/\fI ds i=some d/\R d mh)->wpAny (model X.prog X.w) X.A (subscriptTail b f v u) (EP X pins σ Q) X.xe s:=λm=>by
  obtain⟨ds,d,r,t,q⟩:=m;obtain⟨a,vs,rfl,sq,l⟩:=qL g ix r;obtain⟨z,n,o⟩:=aDz l t;rcases sq with sq | sq
  ·exact YF b f pins s σ H _ _ v u Q I h j ⟨a,vs,i,z,rfl,rfl,sq,n,F.here g q o⟩ k
  ·exact aDt b f pins s σ H _ _ v u Q I h j ⟨a,vs,i,z,rfl,rfl,sq,n,F.here g q o⟩ k
 cases dx with
 | str z=>
  obtain⟨hz,c,e,q⟩:=q;cases lI ix;exact aDv b f pins s σ H _ _ v u Q I h j ⟨z,i,c,rfl,rfl,hz,e,F.here g q .str⟩ k
 | _=>exact go q
def u6:D->Bool | .bU=>true | _=>false
variable{μ:List Addr}
theorem TB{d:D}{v:V}(h:Is K μ H d v):decide (v= .bU)=u6 d:=by
 cases d with
 | bU=>cases DT h;rfl
 | bl _=>cases BK h;rfl
 | int _=>cases b9 h;rfl
 | str _=>cases lI h;rfl
 | ty _=>unfold Is at h;subst h;rfl
 | tup _=>obtain⟨a,vs,rfl,_,_⟩:=eC h;rfl
 | fl _=>obtain⟨a,vs,rfl,_,_⟩:=p8 h;rfl
 | ref _=>obtain⟨a,_,rfl⟩:=oQ h;rfl
def p6:O2:=λx y mh Q=>y= .bU/\Q (.bl !u6 x) mh
theorem XG:g5 X (compareOp .IsNot) (bW X.K p6):=by
 intro pins s σ H x y v u Q I a b q;obtain⟨μ,mh,dx,e,R,c,ix,d,⟨rfl,q⟩,F⟩:=q;cases DT d;exact XD pins s σ H x _ v u Q I a b ⟨rfl,F.here c q (by rw[TB ix];exact .bl)⟩
def gZ:OA:=λxs mh Q=>∃x,xs=[x]/\match x with
 | .str z=>z.length<=sizeLine/\Q (.int z.length) mh
 | _=>∃ds,bF mh x=some ds/\Q (.int ds.length) mh
variable{vs:List V}
theorem eD{d:D}(h:IsL K μ H [d] vs):∃v,vs=[v]/\Is K μ H d v:=by
 unfold IsL at h;obtain⟨v,r,rfl,i,l⟩:=h;unfold IsL at l;subst l;exact⟨v,rfl,i⟩
theorem MT{d e:D}(h:IsL K μ H [d,e] vs):∃v u,vs=[v,u]/\Is K μ H d v/\Is K μ H e u:=by
 unfold IsL at h;obtain⟨v,r,rfl,i,l⟩:=h;obtain⟨u,rfl,j⟩:=eD l;exact⟨v,u,rfl,i,j⟩
theorem aEw:cG X (.builtin "len") (eB X.K gZ):=by
 intro pins s σ H xs us Q I r q;obtain⟨μ,mh,ds,R,b,f,⟨x,rfl,q⟩,F⟩:=q;obtain⟨v,rfl,d⟩:=eD f
 have go:(∃ds,bF mh x=some ds/\R (.int ds.length) mh)->wpAny (model X.prog X.w) X.A (call (.builtin "len") us) (EP X pins σ Q) X.xe s:=λc=>by
  obtain⟨es,e,q⟩:=c;obtain⟨a,vs,rfl,sq,l⟩:=qL b d e;exact EE pins s σ H _ us Q I r ⟨a,vs,rfl,sq,F.here b q (by rw[bB l];exact .int)⟩
 cases x with
 | str z=>cases lI d;exact ED pins s σ H _ us Q I r ⟨z,rfl,q.1,F.here b q.2 .int⟩
 | _=>exact go q
def U8:OA:=λxs mh Q=>∃i,xs=[.int i]/\Q (.int (if i<0 then -i else i)) mh
theorem aF0:cG X (.builtin "abs") (eB X.K U8):=by
 intro pins s σ H xs us Q I r q;obtain⟨μ,mh,ds,R,a,b,⟨i,rfl,q⟩,F⟩:=q;obtain⟨v,rfl,c⟩:=eD b;cases b9 c;exact UW pins s σ H _ us Q I r ⟨i,rfl,F.here a q .int⟩
def HS:OA:=λxs mh Q=>∃i j,xs=[.int i,.int j]/\Q (.int (if j > i then j else i)) mh
def zH:OA:=λxs mh Q=>∃i j,xs=[.int i,.int j]/\Q (.int (if j<i then j else i)) mh
theorem ZG(a:X.calm=true):cG X (.builtin "max") (eB X.K HS):=by
 intro pins s σ H xs us Q I r q;obtain⟨μ,mh,ds,R,b,c,⟨i,j,rfl,q⟩,F⟩:=q;obtain⟨v,u,rfl,d,e⟩:=MT c;cases b9 d;cases b9 e;exact PX a pins s σ H _ us Q I r ⟨i,j,rfl,F.here b q .int⟩
theorem ZE(a:X.calm=true):cG X (.builtin "min") (eB X.K zH):=by
 intro pins s σ H xs us Q I r q;obtain⟨μ,mh,ds,R,b,c,⟨i,j,rfl,q⟩,F⟩:=q;obtain⟨v,u,rfl,d,e⟩:=MT c;cases b9 d;cases b9 e;exact PV a pins s σ H _ us Q I r ⟨i,j,rfl,F.here b q .int⟩
def aF9:OA:=λxs mh Q=>(∃i,xs=[.int i]/\Q (.int i) mh)\/∃k,xs=[.bl k]/\Q (.int (if k then 1 else 0)) mh
theorem aEy:cG X (.type "int") (eB X.K aF9):=by
 intro pins s σ H xs us Q I r q;obtain⟨μ,mh,ds,R,b,c,q,F⟩:=q
 rcases q with ⟨i,rfl,q⟩ | ⟨k,rfl,q⟩
 ·obtain⟨v,rfl,a⟩:=eD c;cases b9 a;exact B3 pins s σ H _ us Q I r (.inl ⟨i,rfl,F.here b q .int⟩)
 ·obtain⟨v,rfl,a⟩:=eD c;cases BK a;exact B3 pins s σ H _ us Q I r (.inr ⟨k,rfl,F.here b q .int⟩)
theorem aB4{pins:List (Addr×Obj)}{σ:L2.St}{s:Shared}(I:Inv X pins σ H s)(h:rA X.K H a vs\/zI X.K H a vs):vs.length<=sizeLine:=by
 rcases h with h | h
 ·obtain⟨_,_,_,z⟩:=I.list h;exact z
 ·obtain⟨_,_,_,z⟩:=I.tuple h;exact z
def gH:OA:=λxs mh Q=>∃x ds,xs=[x]/\bF mh x=some ds/\Q (.tup ds) mh
theorem UT:cG X (.type "tuple") (eB X.K gH):=by
 intro pins s σ H xs us Q I r q;obtain⟨μ,mh,ds,R,b,d,⟨x,es,rfl,e,q⟩,F⟩:=q;obtain⟨v,rfl,c⟩:=eD d
 cases x with
 | tup ts=>
  cases e;obtain⟨a,vs,rfl,sq,l⟩:=eC c;exact lJ pins s σ H _ us Q I r ⟨a,vs,rfl,.inr ⟨sq,F.here b q c⟩⟩
 | fl ts=>
  cases e;obtain⟨a,vs,rfl,sq,l⟩:=p8 c;exact lJ pins s σ H _ us Q I r ⟨a,vs,rfl,.inl ⟨sq.sq,sQ b F l q⟩⟩
 | ref n=>
  obtain⟨a,vs,rfl,sq,l⟩:=oJ b c (show lF mh (.ref n)=some es from e);exact lJ pins s σ H _ us Q I r ⟨a,vs,rfl,.inl ⟨sq,sQ b F l q⟩⟩
 | _=>cases e
end
def VT(mh:MH):D->Option String
 | .bU=>some "NoneType"
 | .bl _=>some "bool"
 | .int _=>some "int"
 | .str _=>some "str"
 | .tup _=>some "tuple"
 | .fl _=>some "list"
 | .ref n=>match mh[n]? with | some (.lst _)=>some "list" | _=>none
 | .ty _=>none
def rO(t c:String):Bool:=t==c || (t== "bool" && c== "int")
def bP:List String:=["int","bool","str","tuple","list"]
theorem aAc:∀t∈ "NoneType"::bP,∀c∈bP,PySem.W.kitOne K (.type t) (.type c)=some (rO t c):=by
 intro t ht c a;simp only[bP,List.mem_cons,List.not_mem_nil,or_false]at ht a;rcases ht with rfl | rfl | rfl | rfl | rfl | rfl <;> rcases a with rfl | rfl | rfl | rfl | rfl <;> kernel_rfl
theorem MF{K:aPu}{t:String}(ht:t∈ "NoneType"::bP):∀cs:List String,(∀c∈cs,c∈bP)->PySem.W.kitAny K (.type t) (cs.map Value.type)=some (cs.any (rO t))
 | [],_=>rfl
 | c::cs,h=>by
  have e:=aAc (K:=K) t ht c (h c aM8);have a:=MF (K:=K) ht cs λx b=>h x (aM9 _ b);simp only[List.map_cons,PySem.W.kitAny,e,List.any_cons]
  cases rO t c with
  | true=>rfl
  | false=>simpa using a
def vP:OA:=λxs mh Q=>∃x c t,xs=[x,c]/\VT mh x=some t/\
 ((∃T,c= .ty T/\T∈bP/\Q (.bl (rO t T)) mh)\/∃a:List String,c= .tup (a.map .ty)/\(∀T∈a,T∈bP)/\Q (.bl (a.any (rO t))) mh)
section
variable {X:Cx}
theorem aDn{pins:List (Addr×Obj)}{σ:L2.St}{s:Shared}{μ:List Addr}{mh:MH}{d:D}{v:V}{u:Value}{t:String}(I:Inv X pins σ H s)(R:Rep X.K μ mh H)(h:Is X.K μ H d v)(r:RelV v u)(e:VT mh d=some t):
  t∈ "NoneType"::bP/\u≠ .builtin "__main__.__loader__#opaque"/\∃P,PySem.W.KitX X.K u (.type t) P/\P s.heap:=by
 have i:∀{a:Addr} {vs:List V},rA X.K H a vs->∃P,PySem.W.KitX X.K (.ref a) (.type "list") P/\P s.heap:=λ{a vs} sq=>by
  obtain⟨aM,_,⟨o,n,c,g,_⟩,_⟩:=I.list sq;exact⟨_,PySem.W.kitx_list,⟨o,c,g⟩⟩
 cases d with
 | bU=>cases DT h;cases r;cases e;exact⟨by simp[bP],nofun,_,PySem.W.kitx_none,trivial⟩
 | bl b=>cases BK h;cases r;cases e;exact⟨by simp[bP],nofun,_,PySem.W.kitx_bool,trivial⟩
 | int b=>cases b9 h;obtain⟨j,rfl⟩:=r;cases e;exact⟨by simp[bP],nofun,_,PySem.W.kitx_int,trivial⟩
 | str b=>cases lI h;obtain⟨j,rfl⟩:=r;cases e;exact⟨by simp[bP],nofun,_,PySem.W.kitx_str,trivial⟩
 | ty b=>cases e
 | tup ds=>
  obtain⟨a,vs,rfl,sq,_⟩:=eC h;cases r;cases e;obtain⟨aM,_,⟨o,c,g,_⟩,_⟩:=I.tuple sq;exact⟨by simp[bP],nofun,_,PySem.W.kitx_tuple,⟨o,c,g⟩⟩
 | fl ds=>
  obtain⟨a,vs,rfl,sq,_⟩:=p8 h;cases r;cases e;exact⟨by simp[bP],nofun,i sq.sq⟩
 | ref n=>
  obtain⟨a,q,rfl⟩:=oQ h;cases r;simp only[VT]at e
  cases o:mh[n]? with
  | none=>rw[o]at e;cases e
  | some ob=>
   cases ob with
   | lst es=>
    rw[o]at e;cases e;obtain⟨vs,k,l⟩:=R.obj n a _ q o;exact⟨by simp[bP],nofun,i (.of k)⟩
   | dic t kvs=>rw[o]at e;cases e
   | fdc t kvs ob=>rw[o]at e;cases e
   | oth ds f=>rw[o]at e;cases e
theorem MN{K:aPu}{μ:List Addr}{H:Hp}:∀{a:List String} {vs:List V} {us:List Value},IsL K μ H (a.map .ty) vs->Vals vs us->us=a.map Value.type
 | [],vs,us,h,r=>by simp only[List.map_nil]at h;unfold IsL at h;subst h;cases r;rfl
 | T::a,vs,us,h,r=>by
  simp only[List.map_cons]at h;unfold IsL at h;obtain⟨v,e,rfl,i,l⟩:=h
  cases r with
  | cons c d=>
   unfold Is at i;subst i;have b :_=Value.type T:=c;subst b;rw[MN l d];rfl
theorem aEx:cG X (.builtin "isinstance") (eB X.K vP):=by
 intro pins s σ H xs us Q I r q;obtain⟨μ,mh,ds,R,e,u,⟨x,c,t,rfl,y,q⟩,F⟩:=q;obtain⟨v,w,rfl,z,f⟩:=MT u
 cases r with
 | cons A d=>
  cases d with
  | cons d B=>
   cases B;obtain⟨hm,i,P,j,k⟩:=aDn I e z A y
   rcases q with ⟨T,rfl,g,q⟩ | ⟨C,rfl,g,q⟩
   ·unfold Is at f;subst f;have b :_=Value.type T:=d;subst b
    exact PySem.W.kia_one j I.kIn k (aAc t hm T g) i λh=>⟨.bl _,H,I.tok h,rfl,F.here e q .bl⟩
   ·obtain⟨a,vs,rfl,sq,l⟩:=eC f;have b :_=Value.ref a:=d;subst b;obtain⟨aM,D,⟨o,E,m,n,p⟩,_⟩:=I.tuple sq;have G:=MN l D;obtain⟨oc,od,J,osl⟩:=o;simp only at m p;subst m p
    exact PySem.W.kia_tup j I.kIn k E (by rw[G];exact MF hm C g) i λh=>⟨.bl _,H,I.tok h,rfl,F.here e q .bl⟩
def U7:OA:=λxs mh Q=>∃(x:D) (bs:List Bool),xs=[x]/\lF mh x=some (bs.map .bl)/\Q (.bl (bs.all id)) mh
theorem MS{K:aPu}{μ:List Addr}{H:Hp}:∀{bs:List Bool} {vs:List V} {us:List Value},IsL K μ H (bs.map .bl) vs->Vals vs us->us=bs.map Value.bool
 | [],vs,us,h,r=>by simp only[List.map_nil]at h;unfold IsL at h;subst h;cases r;rfl
 | T::Ts,vs,us,h,r=>by
  simp only[List.map_cons]at h;unfold IsL at h;obtain⟨v,d,rfl,i,l⟩:=h
  cases r with
  | cons b c=>
   cases BK i;have a :_=Value.bool T:=b;subst a;rw[MS l c];rfl
theorem range_all:∀bs:List Bool,(List.range bs.length).all (λi=>bs.getD i true)=bs.all id
 | []=>rfl
 | b::bs=>by
  have:=range_all bs;simp only[List.length_cons,List.range_succ_eq_map,List.all_cons,List.all_map];simp only[Function.comp_def,List.getD_cons_zero,List.getD_cons_succ,this,id]
theorem o7{prog:Program}{w:World}{A:Around}{E:aPv}{s:Shared}{l:Addr}{items:Array Value}{Q:aPv}(b:s.heap.IsList l items)
  (h:∀a:Shared,a={s with heap:=s.heap.push {cls:= .type "list_iterator",data:= .fields #[.ref l,.int 0 0]}}->
   (a.heap.IsListIter s.heap.objs.size l 0/\a.heap.IsList l items)->l≠s.heap.objs.size->Q (.ref s.heap.objs.size) a):
  wpAny (model prog w) A (pyIter (.ref l)) Q E s:=by
 have c:l<s.heap.objs.size:=by obtain⟨_,e,_⟩:=b;exact aMb e
 exact aOy b (h _ rfl ⟨⟨_,aMa _ rfl,rfl,rfl⟩,b.push _⟩ (aMg c))
theorem aEz(j:X.calm=true):cG X (.builtin "all") (eB X.K U7):=by
 intro pins s σ H xs us Q I r q;obtain⟨μ,mh,ds,R,f,k,⟨x,bs,rfl,e,q⟩,F⟩:=q;obtain⟨v,rfl,m⟩:=eD k;obtain⟨a,vs,rfl,sq,l⟩:=oJ f m e;obtain⟨u,rfl,n⟩:=vals1 r;cases n;obtain⟨aM,p,t,hz⟩:=I.list sq;have w:=MS l p;subst w;refine call_all_walk (o7 t.isList λg y st d=>?_);subst y;refine⟨_,_,_,_,_,_,λi=>bs.getD i true,rfl,Walks.list (A:=X.A.in1) (I.ok.hd j) _ a d (bs.map Value.bool).toArray,st,?_,λh' h z=>?_⟩
 ·intro i v G J L B C;have c :(bs.map Value.bool).toArray[i]? =some v:=B;rw[List.getElem?_toArray,List.getElem?_map]at c;obtain⟨b,D,rfl⟩:=aN1.mp c;have:bs.getD i true=b:=by rw[List.getD_eq_getElem?_getD,D];rfl
  refine aO8 ?_;rw[<-this];exact C
 ·have M:Inv X pins σ H {s with heap:=s.heap.push {cls:= .type "list_iterator",data:= .fields #[.ref a,.int 0 0]}}:=I.kept (t' :=s.toks) λb o e=>aM5 _ e;have E:Inv X pins σ H {s with heap:=h',toks:=h}:=I.kept (t' :=h) λb o e=>z b o (by simp;exact aMg (aMb e)) (aM5 _ e);refine⟨.bl (bs.all id),H,E,?_,F.here f q .bl⟩;have:=range_all bs;simp only[List.size_toArray,List.length_map,this];rfl
end
mutual
def Vl(h:Heap):D->Value->Prop
 | .bU,u=>u= .none
 | .bl b,u=>u= .bool b
 | .int i,u=>∃t,u= .int i t
 | .str x,u=>∃t,u= .str x t
 | .ty _,_=>False
 | .tup ds,u=>∃a us,u= .ref a/\IsTup h a us.toArray/\cJ h ds us
 | .fl ds,u=>∃a us,u= .ref a/\h.IsList a us.toArray/\cJ h ds us
 | .ref _,_=>False
def cJ(h:Heap):List D->List Value->Prop
 | [],us=>us=[]
 | d::ds,us=>∃u r,us=u::r/\Vl h d u/\cJ h ds r
end
mutual
def bare:D->Bool
 | .ty _=>false
 | .ref _=>false
 | .tup ds=>cT ds
 | .fl ds=>cT ds
 | _=>true
def cT:List D->Bool
 | []=>true
 | d::ds=>bare d && cT ds
end
mutual
def deep:D->Nat
 | .tup ds=>bM ds+1
 | .fl ds=>bM ds+1
 | _=>0
def bM:List D->Nat
 | []=>0
 | d::ds=>max (deep d) (bM ds)
end
mutual
def dD:D->D->Bool
 | .bU,y=>u6 y
 | .bl a,y=>match y with | .bl b=>a==b | .int j=>(if a then 1 else 0)==j | _=>false
 | .int i,y=>match y with | .int j=>i==j | .bl b=>i==(if b then 1 else 0) | _=>false
 | .str a,y=>match y with | .str b=>a==b | _=>false
 | .tup as,y=>match y with | .tup bs=>dH as bs | _=>false
 | .fl as,y=>match y with | .fl bs=>dH as bs | _=>false
 | .ref _,_=>false
 | .ty _,_=>false
def dH:List D->List D->Bool
 | [],y=>y.isEmpty
 | a::as,y=>match y with | b::bs=>dD a b && dH as bs | []=>false
end
theorem c7:∀(as bs:List D),dH as bs=((List.range (min as.length bs.length)).all (λj=>dD (as.getD j .bU) (bs.getD j .bU)) && as.length==bs.length)
 | [],[]=>by simp[dH]
 | [],b::bs=>by simp[dH]
 | a::as,[]=>by simp[dH]
 | a::as,b::bs=>by
  have c:=c7 as bs;simp only[dH,List.length_cons,Nat.succ_min_succ,List.range_succ_eq_map,List.all_cons,List.all_map,Function.comp_def,List.getD_cons_zero,List.getD_cons_succ,c];cases dD a b <;> simp
theorem bG{h:Heap}:∀{ds:List D} {us:List Value},cJ h ds us->us.length=ds.length
 | [],us,q=>by unfold cJ at q;subst q;rfl
 | d::ds,us,q=>by unfold cJ at q;obtain⟨u,r,rfl,_,l⟩:=q;simp[bG l]
theorem eM{h:Heap}:∀{ds:List D} {us:List Value} {j:Nat} {u:Value},cJ h ds us->us[j]? =some u->Vl h (ds.getD j .bU) u
 | [],us,j,u,q,e=>by unfold cJ at q;subst q;simp at e
 | d::ds,us,j,u,q,e=>by
  unfold cJ at q;obtain⟨w,r,rfl,i,l⟩:=q
  cases j with
  | zero=>simp at e;subst e;exact i
  | succ j=>exact eM (j:=j) l (by simpa using e)
theorem gY:∀(ds:List D) (j:Nat),deep (ds.getD j .bU)<=bM ds
 | [],j=>by simp[deep]
 | d::ds,0=>by simp[bM];lia
 | d::ds,j+1=>by have:=gY ds j;simp[bM]at*;lia
variable{h:Heap}
theorem vW{x y:Array Value}(d:h.IsList a x)(e:IsTup h a y):False:=by
 obtain⟨o,ho,f,_⟩:=d;obtain⟨g,b,c,_⟩:=e;rw[ho]at b;cases b;rw[f]at c;exact absurd c (by simp)
mutual
theorem CA{h:Heap}:∀{d e:D} {u:Value},Vl h d u->Vl h e u->dD d e=true
 | .bU,e,u,p,q=>by
  unfold Vl at p;subst p
  cases e <;> unfold Vl at q <;> first | rfl | (cases q;done) | (obtain⟨_,q⟩:=q;cases q;done) | (obtain⟨_,_,q,_⟩:=q;cases q;done)
 | .bl a,e,u,p,q=>by
  unfold Vl at p;subst p
  cases e <;> unfold Vl at q <;> first | (subst q;simp[dD];done) | (cases q;simp[dD];done) | (cases q;done) | (obtain⟨_,q⟩:=q;cases q;done) | (obtain⟨_,_,q,_⟩:=q;cases q;done)
 | .int a,e,u,p,q=>by
  unfold Vl at p;obtain⟨t,rfl⟩:=p
  cases e <;> unfold Vl at q <;> first | (cases q;done) | (obtain⟨_,q⟩:=q;cases q;simp[dD];done) | (obtain⟨_,q⟩:=q;cases q;done) | (obtain⟨_,_,q,_⟩:=q;cases q;done)
 | .str a,e,u,p,q=>by
  unfold Vl at p;obtain⟨t,rfl⟩:=p
  cases e <;> unfold Vl at q <;> first | (cases q;done) | (obtain⟨_,q⟩:=q;cases q;simp[dD];done) | (obtain⟨_,q⟩:=q;cases q;done) | (obtain⟨_,_,q,_⟩:=q;cases q;done)
 | .ty _,e,u,p,q=>by unfold Vl at p;exact p.elim
 | .ref _,e,u,p,q=>by unfold Vl at p;exact p.elim
 | .tup as,e,u,p,q=>by
  unfold Vl at p;obtain⟨a,us,rfl,ht,l⟩:=p
  cases e with
  | tup bs=>
   unfold Vl at q;obtain⟨b,ws,e,c,f⟩:=q;cases e;obtain⟨o,j,_,n,k⟩:=ht;obtain⟨s,g,_,v,i⟩:=c;rw[j]at g;cases g;rw[k]at i;injection i with m;have r:us=ws:=by simpa using aN5 Array.toList m
   subst r;show dH as bs=true;exact wY l f
  | fl bs=>
   unfold Vl at q;obtain⟨b,ws,e,c,f⟩:=q;cases e;exact(vW c ht).elim
  | _=>unfold Vl at q;first | (cases q;done) | (obtain⟨_,q⟩:=q;cases q;done)
 | .fl as,e,u,p,q=>by
  unfold Vl at p;obtain⟨a,us,rfl,ht,l⟩:=p
  cases e with
  | fl bs=>
   unfold Vl at q;obtain⟨b,ws,e,c,f⟩:=q;cases e;obtain⟨o,j,_,n,k⟩:=ht;obtain⟨s,g,_,v,i⟩:=c;rw[j]at g;cases g;rw[k]at i;injection i with m;have r:us=ws:=by simpa using aN5 Array.toList m
   subst r;show dH as bs=true;exact wY l f
  | tup bs=>
   unfold Vl at q;obtain⟨b,ws,e,c,f⟩:=q;cases e;exact(vW ht c).elim
  | _=>unfold Vl at q;first | (cases q;done) | (obtain⟨_,q⟩:=q;cases q;done)
theorem wY{h:Heap}:∀{ds es:List D} {us:List Value},cJ h ds us->cJ h es us->dH ds es=true
 | [],es,us,p,q=>by unfold cJ at p;subst p;cases es with | nil=>rfl | cons=>unfold cJ at q;obtain⟨_,_,e,_⟩:=q;cases e
 | d::ds,es,us,p,q=>by
  unfold cJ at p;obtain⟨u,r,rfl,i,l⟩:=p
  cases es with
  | nil=>unfold cJ at q;cases q
  | cons e es=>
   unfold cJ at q;obtain⟨f,g,a,b,c⟩:=q;cases a;simp only[dH,CA i b,wY l c,Bool.and_self]
end
open SeqAt in
theorem kB{s:Shared}:∀(k:Nat) {A:Around} {d e:D} {u v:Value},deep d<=k->A.units+k+1<cLine->Vl s.heap d u->Vl s.heap e v->EqAt A s u v (dD d e)
 | k,A,.bU,e,u,v,hk,hu,p,q=>by
  unfold Vl at p;subst p;cases e <;> unfold Vl at q
  ·subst q;exact EqAt.same _
  ·subst q;exact EqAt.none_bool _
  ·obtain⟨t,rfl⟩:=q;exact EqAt.none_int _ t
  ·obtain⟨t,rfl⟩:=q;exact EqAt.none_str _ t
  ·exact q.elim
  ·obtain⟨a,us,rfl,ht,_⟩:=q;exact EqAt.none_tuple ht (by lia)
  ·obtain⟨a,us,rfl,ht,_⟩:=q;exact EqAt.none_list ht (by lia)
  ·exact q.elim
 | k,A,.bl x,e,u,v,hk,hu,p,q=>by
  unfold Vl at p;subst p;cases e <;> unfold Vl at q
  ·subst q;exact EqAt.bool_none _
  ·subst q;exact EqAt.bool_bool _ _
  ·obtain⟨t,rfl⟩:=q;exact EqAt.bool_int _ _ t
  ·obtain⟨t,rfl⟩:=q;exact EqAt.bool_str _ _ t
  ·exact q.elim
  ·obtain⟨a,us,rfl,ht,_⟩:=q;exact EqAt.bool_tuple _ ht (by lia)
  ·obtain⟨a,us,rfl,ht,_⟩:=q;exact EqAt.bool_list _ ht (by lia)
  ·exact q.elim
 | k,A,.int x,e,u,v,hk,hu,p,q=>by
  unfold Vl at p;obtain⟨o,rfl⟩:=p;cases e <;> unfold Vl at q
  ·subst q;exact EqAt.int_none _ _
  ·subst q;exact EqAt.int_bool _ _ _
  ·obtain⟨t,rfl⟩:=q;exact EqAt.int_int _ _ _ t
  ·obtain⟨t,rfl⟩:=q;exact EqAt.int_str _ _ _ t
  ·exact q.elim
  ·obtain⟨a,us,rfl,ht,_⟩:=q;exact EqAt.int_tuple _ _ ht (by lia)
  ·obtain⟨a,us,rfl,ht,_⟩:=q;exact EqAt.int_list _ _ ht (by lia)
  ·exact q.elim
 | k,A,.str x,e,u,v,hk,hu,p,q=>by
  unfold Vl at p;obtain⟨o,rfl⟩:=p;cases e <;> unfold Vl at q
  ·subst q;exact EqAt.str_none _ _
  ·subst q;exact EqAt.str_bool _ _ _
  ·obtain⟨t,rfl⟩:=q;exact EqAt.str_int _ _ _ t
  ·obtain⟨t,rfl⟩:=q;exact EqAt.str_str _ _ _ t
  ·exact q.elim
  ·obtain⟨a,us,rfl,ht,_⟩:=q;exact EqAt.str_tuple _ _ ht (by lia)
  ·obtain⟨a,us,rfl,ht,_⟩:=q;exact EqAt.str_list _ _ ht (by lia)
  ·exact q.elim
 | k,A,.ty x,e,u,v,hk,hu,p,q=>by unfold Vl at p;exact p.elim
 | k,A,.ref x,e,u,v,hk,hu,p,q=>by unfold Vl at p;exact p.elim
 | k,A,.tup as,e,u,v,hk,hu,p,q=>by
  have n:=p;unfold Vl at p;obtain⟨a,us,rfl,ht,l⟩:=p
  cases e with
  | tup bs=>
   by_cases f:Value.ref a=v
   ·subst f;rw[CA n q];exact EqAt.same _
   unfold Vl at q;obtain⟨b,ws,rfl,c,g⟩:=q;have h:a≠b:=λz=>f (by rw[z])
   cases k with
   | zero=>simp[deep]at hk
   | succ k=>
    refine EqAt.of_refs h ?_;have r:=RcAt.tuples (e:=λj=>dD (as.getD j .bU) (bs.getD j .bU)) ht c (by lia) (λj i m=>kB k (A:=A.in1) (aMq (gY as j) (by simp[deep]at hk;exact hk)) (by show A.units+1+k+1<_;lia) (eM l (by simp at i;simp[i])) (eM g (by simp at m;simp[m])));show RcAt A s _ _ (dH as bs);rw[c7,<-bG l,<-bG g];simpa using r
  | bU=>unfold Vl at q;subst q;exact EqAt.tuple_none ht (by lia)
  | bl x=>unfold Vl at q;subst q;exact EqAt.tuple_bool _ ht (by lia)
  | int x=>unfold Vl at q;obtain⟨t,rfl⟩:=q;exact EqAt.tuple_int _ _ ht (by lia)
  | str x=>unfold Vl at q;obtain⟨t,rfl⟩:=q;exact EqAt.tuple_str _ _ ht (by lia)
  | fl bs=>unfold Vl at q;obtain⟨b,ws,rfl,c,g⟩:=q;exact EqAt.tuple_list ht c (by lia)
  | ty x=>unfold Vl at q;exact q.elim
  | ref x=>unfold Vl at q;exact q.elim
 | k,A,.fl as,e,u,v,hk,hu,p,q=>by
  have n:=p;unfold Vl at p;obtain⟨a,us,rfl,ht,l⟩:=p
  cases e with
  | fl bs=>
   by_cases f:Value.ref a=v
   ·subst f;rw[CA n q];exact EqAt.same _
   unfold Vl at q;obtain⟨b,ws,rfl,c,g⟩:=q;have h:a≠b:=λz=>f (by rw[z])
   cases k with
   | zero=>simp[deep]at hk
   | succ k=>
    refine EqAt.of_refs h ?_;show RcAt A s _ _ (dH as bs);by_cases hsz:us.length=ws.length
    ·have r:=RcAt.lists (e:=λj=>dD (as.getD j .bU) (bs.getD j .bU)) ht c (by simpa using hsz) (by lia) (λj i m=>kB k (A:=A.in1) (aMq (gY as j) (by simp[deep]at hk;exact hk)) (by show A.units+1+k+1<_;lia) (eM l (by simp at i;simp[i])) (eM g (by simp at m;simp[m])));rw[c7,<-bG l,<-bG g,<-hsz,Nat.min_self,beq_self_eq_true,Bool.and_true];simpa using r
    ·have r:=RcAt.lists_lengths (A:=A) ht c (by simpa using hsz) (by lia);rw[c7,<-bG l,<-bG g,beq_eq_false_iff_ne.mpr hsz,Bool.and_false];exact r
  | bU=>unfold Vl at q;subst q;exact EqAt.list_none ht (by lia)
  | bl x=>unfold Vl at q;subst q;exact EqAt.list_bool _ ht (by lia)
  | int x=>unfold Vl at q;obtain⟨t,rfl⟩:=q;exact EqAt.list_int _ _ ht (by lia)
  | str x=>unfold Vl at q;obtain⟨t,rfl⟩:=q;exact EqAt.list_str _ _ ht (by lia)
  | tup bs=>unfold Vl at q;obtain⟨b,ws,rfl,c,g⟩:=q;exact EqAt.list_tuple ht c (by lia)
  | ty x=>unfold Vl at q;exact q.elim
  | ref x=>unfold Vl at q;exact q.elim
open SeqAt in
theorem Q6{s:Shared}{A:Around}{d e:D}{u v:Value}(i:deep d<=40)(m:A.units+64<cLine)(p:Vl s.heap d u)(q:Vl s.heap e v):RcAt A s u v (dD d e):=by
 cases d with
 | bU=>
  unfold Vl at p;subst p;cases e <;> unfold Vl at q
  ·subst q;exact RcAt.none_none
  ·subst q;exact RcAt.none_bool _
  ·obtain⟨t,rfl⟩:=q;exact RcAt.none_int _ _
  ·obtain⟨t,rfl⟩:=q;exact RcAt.none_str _ _
  ·exact q.elim
  ·obtain⟨a,us,rfl,ht,_⟩:=q;exact RcAt.none_tuple ht (by lia)
  ·obtain⟨a,us,rfl,ht,_⟩:=q;exact RcAt.none_list ht (by lia)
  ·exact q.elim
 | bl x=>
  unfold Vl at p;subst p;cases e <;> unfold Vl at q
  ·subst q;exact RcAt.bool_none _
  ·subst q;exact RcAt.bool_bool _ _
  ·obtain⟨t,rfl⟩:=q;exact RcAt.bool_int _ _ _
  ·obtain⟨t,rfl⟩:=q;exact RcAt.bool_str _ _ _
  ·exact q.elim
  ·obtain⟨a,us,rfl,ht,_⟩:=q;exact RcAt.bool_tuple _ ht (by lia)
  ·obtain⟨a,us,rfl,ht,_⟩:=q;exact RcAt.bool_list _ ht (by lia)
  ·exact q.elim
 | int x=>
  unfold Vl at p;obtain⟨k,rfl⟩:=p;cases e <;> unfold Vl at q
  ·subst q;exact RcAt.int_none _ _
  ·subst q;exact RcAt.int_bool _ _ _
  ·obtain⟨t,rfl⟩:=q;exact RcAt.int_int _ _ _ _
  ·obtain⟨t,rfl⟩:=q;exact RcAt.int_str _ _ _ _
  ·exact q.elim
  ·obtain⟨a,us,rfl,ht,_⟩:=q;exact RcAt.int_tuple _ _ ht (by lia)
  ·obtain⟨a,us,rfl,ht,_⟩:=q;exact RcAt.int_list _ _ ht (by lia)
  ·exact q.elim
 | str x=>
  unfold Vl at p;obtain⟨k,rfl⟩:=p;cases e <;> unfold Vl at q
  ·subst q;exact RcAt.str_none _ _
  ·subst q;exact RcAt.str_bool _ _ _
  ·obtain⟨t,rfl⟩:=q;exact RcAt.str_int _ _ _ _
  ·obtain⟨t,rfl⟩:=q;exact RcAt.str_str _ _ _ _
  ·exact q.elim
  ·obtain⟨a,us,rfl,ht,_⟩:=q;exact RcAt.str_tuple _ _ ht (by lia)
  ·obtain⟨a,us,rfl,ht,_⟩:=q;exact RcAt.str_list _ _ ht (by lia)
  ·exact q.elim
 | ty x=>unfold Vl at p;exact p.elim
 | ref x=>unfold Vl at p;exact p.elim
 | tup as=>
  unfold Vl at p;obtain⟨a,us,rfl,ht,l⟩:=p
  cases e with
  | tup bs=>
   unfold Vl at q;obtain⟨b,ws,rfl,c,f⟩:=q;have r:=RcAt.tuples (e:=λj=>dD (as.getD j .bU) (bs.getD j .bU)) ht c (by lia) (λj g h=>kB 40 (A:=A.in1) (aMq (gY as j) (by simp[deep]at i;lia)) (by show A.units+1+40+1<_;lia) (eM l (by simp at g;simp[g])) (eM f (by simp at h;simp[h])));show RcAt A s _ _ (dH as bs);rw[c7,<-bG l,<-bG f];simpa using r
  | fl bs=>unfold Vl at q;obtain⟨b,ws,rfl,c,f⟩:=q;exact RcAt.tuple_list ht c (by lia)
  | bU=>unfold Vl at q;subst q;exact RcAt.tuple_none ht (by lia)
  | bl x=>unfold Vl at q;subst q;exact RcAt.tuple_bool _ ht (by lia)
  | int x=>unfold Vl at q;obtain⟨t,rfl⟩:=q;exact RcAt.tuple_int _ _ ht (by lia)
  | str x=>unfold Vl at q;obtain⟨t,rfl⟩:=q;exact RcAt.tuple_str _ _ ht (by lia)
  | ty x=>unfold Vl at q;exact q.elim
  | ref x=>unfold Vl at q;exact q.elim
 | fl as=>
  unfold Vl at p;obtain⟨a,us,rfl,ht,l⟩:=p
  cases e with
  | fl bs=>
   unfold Vl at q;obtain⟨b,ws,rfl,c,f⟩:=q;show RcAt A s _ _ (dH as bs);by_cases hsz:us.length=ws.length
   ·have r:=RcAt.lists (e:=λj=>dD (as.getD j .bU) (bs.getD j .bU)) ht c (by simpa using hsz) (by lia) (λj g h=>kB 40 (A:=A.in1) (aMq (gY as j) (by simp[deep]at i;lia)) (by show A.units+1+40+1<_;lia) (eM l (by simp at g;simp[g])) (eM f (by simp at h;simp[h])));rw[c7,<-bG l,<-bG f,<-hsz,Nat.min_self,beq_self_eq_true,Bool.and_true];simpa using r
   ·have r:=RcAt.lists_lengths (A:=A) ht c (by simpa using hsz) (by lia);rw[c7,<-bG l,<-bG f,beq_eq_false_iff_ne.mpr hsz,Bool.and_false];exact r
  | tup bs=>unfold Vl at q;obtain⟨b,ws,rfl,c,f⟩:=q;exact RcAt.list_tuple ht c (by lia)
  | bU=>unfold Vl at q;subst q;exact RcAt.list_none ht (by lia)
  | bl x=>unfold Vl at q;subst q;exact RcAt.list_bool _ ht (by lia)
  | int x=>unfold Vl at q;obtain⟨t,rfl⟩:=q;exact RcAt.list_int _ _ ht (by lia)
  | str x=>unfold Vl at q;obtain⟨t,rfl⟩:=q;exact RcAt.list_str _ _ ht (by lia)
  | ty x=>unfold Vl at q;exact q.elim
  | ref x=>unfold Vl at q;exact q.elim
open SeqAt in
theorem FW{s:Shared}{A:Around}{d e:D}{u v:Value}(i:deep d<=40)(m:A.units+64<cLine)(p:Vl s.heap d u)(q:Vl s.heap e v):RcNeAt A s u v (!dD d e):=by
 cases d with
 | bU=>
  unfold Vl at p;subst p;cases e <;> unfold Vl at q
  ·subst q;exact RcNeAt.none_none
  ·subst q;exact RcNeAt.none_bool _
  ·obtain⟨t,rfl⟩:=q;exact RcNeAt.none_int _ _
  ·obtain⟨t,rfl⟩:=q;exact RcNeAt.none_str _ _
  ·exact q.elim
  ·obtain⟨a,us,rfl,ht,_⟩:=q;exact RcNeAt.none_tuple ht (by lia)
  ·obtain⟨a,us,rfl,ht,_⟩:=q;exact RcNeAt.none_list ht (by lia)
  ·exact q.elim
 | bl x=>
  unfold Vl at p;subst p;cases e <;> unfold Vl at q
  ·subst q;exact RcNeAt.bool_none _
  ·subst q;exact RcNeAt.bool_bool _ _
  ·obtain⟨t,rfl⟩:=q;exact RcNeAt.bool_int _ _ _
  ·obtain⟨t,rfl⟩:=q;exact RcNeAt.bool_str _ _ _
  ·exact q.elim
  ·obtain⟨a,us,rfl,ht,_⟩:=q;exact RcNeAt.bool_tuple _ ht (by lia)
  ·obtain⟨a,us,rfl,ht,_⟩:=q;exact RcNeAt.bool_list _ ht (by lia)
  ·exact q.elim
 | int x=>
  unfold Vl at p;obtain⟨k,rfl⟩:=p;cases e <;> unfold Vl at q
  ·subst q;exact RcNeAt.int_none _ _
  ·subst q;exact RcNeAt.int_bool _ _ _
  ·obtain⟨t,rfl⟩:=q;exact RcNeAt.int_int _ _ _ _
  ·obtain⟨t,rfl⟩:=q;exact RcNeAt.int_str _ _ _ _
  ·exact q.elim
  ·obtain⟨a,us,rfl,ht,_⟩:=q;exact RcNeAt.int_tuple _ _ ht (by lia)
  ·obtain⟨a,us,rfl,ht,_⟩:=q;exact RcNeAt.int_list _ _ ht (by lia)
  ·exact q.elim
 | str x=>
  unfold Vl at p;obtain⟨k,rfl⟩:=p;cases e <;> unfold Vl at q
  ·subst q;exact RcNeAt.str_none _ _
  ·subst q;exact RcNeAt.str_bool _ _ _
  ·obtain⟨t,rfl⟩:=q;exact RcNeAt.str_int _ _ _ _
  ·obtain⟨t,rfl⟩:=q;exact RcNeAt.str_str _ _ _ _
  ·exact q.elim
  ·obtain⟨a,us,rfl,ht,_⟩:=q;exact RcNeAt.str_tuple _ _ ht (by lia)
  ·obtain⟨a,us,rfl,ht,_⟩:=q;exact RcNeAt.str_list _ _ ht (by lia)
  ·exact q.elim
 | ty x=>unfold Vl at p;exact p.elim
 | ref x=>unfold Vl at p;exact p.elim
 | tup as=>
  unfold Vl at p;obtain⟨a,us,rfl,ht,l⟩:=p
  cases e with
  | tup bs=>
   unfold Vl at q;obtain⟨b,ws,rfl,c,f⟩:=q;have r:=RcNeAt.tuples (e:=λj=>dD (as.getD j .bU) (bs.getD j .bU)) ht c (by lia) (λj g h=>kB 40 (A:=A.in1) (aMq (gY as j) (by simp[deep]at i;lia)) (by show A.units+1+40+1<_;lia) (eM l (by simp at g;simp[g])) (eM f (by simp at h;simp[h])));show RcNeAt A s _ _ (!dH as bs);rw[c7,<-bG l,<-bG f];simpa using r
  | fl bs=>unfold Vl at q;obtain⟨b,ws,rfl,c,f⟩:=q;exact RcNeAt.tuple_list ht c (by lia)
  | bU=>unfold Vl at q;subst q;exact RcNeAt.tuple_none ht (by lia)
  | bl x=>unfold Vl at q;subst q;exact RcNeAt.tuple_bool _ ht (by lia)
  | int x=>unfold Vl at q;obtain⟨t,rfl⟩:=q;exact RcNeAt.tuple_int _ _ ht (by lia)
  | str x=>unfold Vl at q;obtain⟨t,rfl⟩:=q;exact RcNeAt.tuple_str _ _ ht (by lia)
  | ty x=>unfold Vl at q;exact q.elim
  | ref x=>unfold Vl at q;exact q.elim
 | fl as=>
  unfold Vl at p;obtain⟨a,us,rfl,ht,l⟩:=p
  cases e with
  | fl bs=>
   unfold Vl at q;obtain⟨b,ws,rfl,c,f⟩:=q;show RcNeAt A s _ _ (!dH as bs);by_cases hsz:us.length=ws.length
   ·have r:=RcNeAt.lists (e:=λj=>dD (as.getD j .bU) (bs.getD j .bU)) ht c (by simpa using hsz) (by lia) (λj g h=>kB 40 (A:=A.in1) (aMq (gY as j) (by simp[deep]at i;lia)) (by show A.units+1+40+1<_;lia) (eM l (by simp at g;simp[g])) (eM f (by simp at h;simp[h])));rw[c7,<-bG l,<-bG f,<-hsz,Nat.min_self,beq_self_eq_true,Bool.and_true];simpa using r
   ·have r:=RcNeAt.lists_lengths (A:=A) ht c (by simpa using hsz) (by lia);rw[c7,<-bG l,<-bG f,beq_eq_false_iff_ne.mpr hsz,Bool.and_false];exact r
  | tup bs=>unfold Vl at q;obtain⟨b,ws,rfl,c,f⟩:=q;exact RcNeAt.list_tuple ht c (by lia)
  | bU=>unfold Vl at q;subst q;exact RcNeAt.list_none ht (by lia)
  | bl x=>unfold Vl at q;subst q;exact RcNeAt.list_bool _ ht (by lia)
  | int x=>unfold Vl at q;obtain⟨t,rfl⟩:=q;exact RcNeAt.list_int _ _ ht (by lia)
  | str x=>unfold Vl at q;obtain⟨t,rfl⟩:=q;exact RcNeAt.list_str _ _ ht (by lia)
  | ty x=>unfold Vl at q;exact q.elim
  | ref x=>unfold Vl at q;exact q.elim
def jM(mh:MH):D->D
 | .ref n=>match mh[n]? with | some (.lst ds)=>.fl ds | _=>.ref n
 | d=>d
section
variable {X:Cx}{pins:List (Addr×Obj)}{σ:L2.St}{H:Hp}{s:Shared}{μ:List Addr}{mh:MH}
mutual
theorem nZ(I:Inv X pins σ H s):∀(d:D) {v:V} {u:Value},bare d=true->Is X.K μ H d v->RelV v u->Vl s.heap d u
 | .bU,v,u,_,i,r=>by cases DT i;unfold Vl;exact r
 | .bl _,v,u,_,i,r=>by cases BK i;unfold Vl;exact r
 | .int _,v,u,_,i,r=>by cases b9 i;unfold Vl;exact r
 | .str _,v,u,_,i,r=>by cases lI i;unfold Vl;exact r
 | .ty _,v,u,b,i,r=>by simp[bare]at b
 | .ref _,v,u,b,i,r=>by simp[bare]at b
 | .tup ds,v,u,b,i,r=>by
  obtain⟨a,vs,rfl,sq,l⟩:=eC i;have c :u=Value.ref a:=r;subst c;obtain⟨aM,e,p,_⟩:=I.tuple sq;unfold Vl;exact⟨a,aM,rfl,p,n4 I ds (by simpa[bare] using b) l e⟩
 | .fl ds,v,u,b,i,r=>by
  obtain⟨a,vs,rfl,sq,l⟩:=p8 i;have c :u=Value.ref a:=r;subst c;obtain⟨aM,e,p,_⟩:=I.list sq.sq;unfold Vl;exact⟨a,aM,rfl,p.isList,n4 I ds (by simpa[bare] using b) l e⟩
theorem n4(I:Inv X pins σ H s):∀(ds:List D) {vs:List V} {us:List Value},cT ds=true->IsL X.K μ H ds vs->Vals vs us->cJ s.heap ds us
 | [],vs,us,_,l,r=>by unfold IsL at l;subst l;cases r;unfold cJ;rfl
 | d::ds,vs,us,b,l,r=>by
  unfold IsL at l;obtain⟨v,e,rfl,i,l⟩:=l
  cases r with
  | cons a c=>
   simp only[cT,Bool.and_eq_true]at b;unfold cJ;exact⟨_,_,rfl,nZ I d b.1 i a,n4 I ds b.2 l c⟩
end
theorem wX(I:Inv X pins σ H s)(R:Rep X.K μ mh H){d:D}{v:V}{u:Value}(b:bare (jM mh d)=true)(i:Is X.K μ H d v)(r:RelV v u):Vl s.heap (jM mh d) u:=by
 cases d with
 | ref n=>
  simp only[jM]at b⊢
  cases o:mh[n]? with
  | none=>rw[o]at b;simp[bare]at b
  | some ob=>
   cases ob with
   | lst ds=>
    rw[o]at b;simp only;obtain⟨a,vs,rfl,_,c,l⟩:=gA R i o;have e :u=Value.ref a:=r;subst e;obtain⟨aM,g,p,_⟩:=I.list (.of c);unfold Vl;exact⟨a,aM,rfl,p.isList,n4 I ds (by simpa[bare] using b) l g⟩
   | dic t kvs=>rw[o]at b;simp[bare]at b
   | fdc t kvs ob=>rw[o]at b;simp[bare]at b
   | oth ds f=>rw[o]at b;simp[bare]at b
 | _=>exact nZ I _ b i r
end
def oEq:O2:=λx y mh Q=>bare (jM mh x)=true/\bare (jM mh y)=true/\deep (jM mh x)<=40/\Q (.bl (dD (jM mh x) (jM mh y))) mh
def oNe:O2:=λx y mh Q=>bare (jM mh x)=true/\bare (jM mh y)=true/\deep (jM mh x)<=40/\Q (.bl !dD (jM mh x) (jM mh y)) mh
section
variable {X:Cx}
theorem aHd(b:X.A.units+64<cLine):g5 X (compareOp .Eq) (bW X.K oEq):=by
 intro pins s σ H x y v u Q I c d q;obtain⟨μ,mh,dx,h,R,a,ix,e,⟨f,g,hd,q⟩,F⟩:=q;exact Q6 hd b (wX I a f ix c) (wX I a g e d) X.prog X.w X.xe _ ⟨.bl _,H,I,rfl,F.here a q .bl⟩
theorem aHa(b:X.A.units+64<cLine):g5 X (compareOp .NotEq) (bW X.K oNe):=by
 intro pins s σ H x y v u Q I c d q;obtain⟨μ,mh,dx,h,R,a,ix,e,⟨f,g,hd,q⟩,F⟩:=q;exact FW hd b (wX I a f ix c) (wX I a g e d) X.prog X.w X.xe _ ⟨.bl _,H,I,rfl,F.here a q .bl⟩
def u9:D->Bool
 | .bU=>true | .bl _=>true | .int _=>true | .str _=>true | _=>false
def eqW(x:D)(u:Value):Bool:=match u with
 | .none=>dD .bU x
 | .bool b=>dD (.bl b) x
 | .int i _=>dD (.int i) x
 | .str z _=>dD (.str z) x
 | _=>false
theorem UH{x y:D}{u:Value}(f:u9 y=true)(p:Vl h y u):eqW x u=dD y x:=by
 cases y with
 | bU=>unfold Vl at p;subst p;rfl
 | bl b=>unfold Vl at p;subst p;rfl
 | int b=>unfold Vl at p;obtain⟨t,rfl⟩:=p;rfl
 | str b=>unfold Vl at p;obtain⟨t,rfl⟩:=p;rfl
 | _=>simp[u9]at f
theorem L3{A:Around}{s:Shared}{x:D}{v:Value}(a:A.units+64<cLine)(q:Vl s.heap x v):∀{ds:List D} {us:List Value},ds.all u9=true->cJ s.heap ds us->∀u∈us,SeqAt.EqAt A.in1 s u v (eqW x u)
 | [],us,_,l=>by unfold cJ at l;subst l;intro u a;cases a
 | d::ds,us,f,l=>by
  unfold cJ at l;obtain⟨u,r,rfl,p,l⟩:=l;rw[List.all_cons,Bool.and_eq_true]at f;intro b hu';rcases aMf.mp hu' with rfl | hu'
  ·rw[UH f.1 p];refine kB 0 ?_ (by show A.units+1+0+1<_;lia) p q
   cases d <;> first | exact aM7 _ | (simp[u9]at f)
  ·exact L3 a q f.2 l b hu'
theorem zE:∀{ds:List D},ds.all u9=true->cT ds=true
 | [],_=>rfl
 | d::ds,f=>by
  rw[List.all_cons,Bool.and_eq_true]at f;simp only[cT,zE f.2,Bool.and_true]
  cases d <;> first | rfl | (simp[u9]at f)
end
section
variable {prog:Program}{w:World}{A:Around}{E:aPv}{s:Shared}
open HT in
theorem pH{t sl:Addr}{items:Array Value}{e f:Value}{lo hi:Option Int}{Q:aPv}(ht:IsTup s.heap t items)(g:s.heap.IsSliceOf sl e f .none)(j:IsPart e lo)(k:IsPart f hi)
  (i:dE items.size 0 lo=0/\dE items.size items.size hi=items.size)
  (h:Q (.ref t) s):wpAny (model prog w) A (getItem (.ref t) (.ref sl)) Q E s:=by
 obtain⟨os,b,c,l⟩:=id g
 have d:s.TypeIs (.ref sl) "slice":=⟨os,b,c⟩
 unfold getItem
 try with_reducible refine aMv ?_
 first | refine aM3 (aM4 ?_) | skip
 refine aM3 (wpAny_sequenceKey ht.typeIs (by decide) ?_)
 refine aM3 (aMo (name:=Str.ofString "__getitem__") ht.typeIs aN3
  (aMk aN3 ht.typeIs entry_tuple_getitem ?_ (args_tuple_getitem _ _)))
 show wpAny _ _ (Builtin.Tuple.tupleItemsOf (.ref t) >>=_) _ _ s;refine aM3 (tupleItemsOf_ ht ?_);refine aM3 (aOe d ?_);rw[if_pos (by decide)];refine aM3 (l5 g j k ?_)
 have a:((((dE items.size 0 lo:Nat):Int)==0 && (1:Int)==1 && (dE items.size items.size hi-dE items.size 0 lo)==items.size)=true):=by
  rw[i.1,i.2];simp
 show wpAny _ _ (if (((dE items.size 0 lo:Nat):Int)==0 && (1:Int)==1 && (dE items.size items.size hi-dE items.size 0 lo)==items.size)=true then _ else _) _ _ s;rw[if_pos a];have m:=ht.typeIs;refine aM3 ?_
 first
  | (refine aM3 (aOe m (aM4 ?_));simp only[beq_self_eq_true,if_true];refine aM3 (aN4 ?_);first | exact aM4 (aM4 ⟨_,rfl,aM4 h⟩) | exact aM3 (aM4 (aM4 ⟨_,rfl,aM4 h⟩)) | exact aM3 (aM4 (aM4 (aM4 ⟨_,rfl,aM4 h⟩))))
  | trace_state
end
section
variable {X:Cx}
theorem V1:SlR X (λx lo hi H Q=>∃a xs,x= .ref a/\zI X.K H a xs/\
  ((HT.dE xs.length 0 lo=0/\HT.dE xs.length xs.length hi=xs.length)->Q (.ref a) H)/\(¬(HT.dE xs.length 0 lo=0/\HT.dE xs.length xs.length hi=xs.length)->∀p,H p=none->Q (.ref p) (upd H p (.tup (EA xs lo hi))))):=by
 intro pins s σ H x v j k lo hi sl Q I d e f g h;obtain⟨a,xs,rfl,i,l,m⟩:=h;by_cases c:HT.dE xs.length 0 lo=0/\HT.dE xs.length xs.length hi=xs.length
 ·cases d;obtain⟨aM,r,ht,hz⟩:=I.tuple i;have b:aM.toArray.size=xs.length:=by rw[List.size_toArray];exact r.length.symm
  exact⟨"tuple",_,aN3.lookup,ht.typeIs,pH ht e f g (by rw[b];exact c) ⟨.ref a,H,I,rfl,l c⟩⟩
 ·exact aB6 pins s σ H _ v j k lo hi sl Q I d e f g ⟨a,xs,rfl,i,c,m c⟩
def cutD(xs:List D)(lo hi:Option Int):List D:=(xs.drop (HT.dE xs.length 0 lo)).take (HT.dE xs.length xs.length hi-HT.dE xs.length 0 lo)
abbrev OS:=D->Option Int->Option Int->MH->DK->Prop
def aA9(K:aPu)(f:OS):V->Option Int->Option Int->Hp->VK->Prop:=λx lo hi H Q=>∃μ mh dx R,Rep K μ mh H/\Is K μ H dx x/\f dx lo hi mh R/\Fin K μ H R Q
def oSl:OS:=λx lo hi mh Q=>match x with
 | .tup ds=>Q (.tup (cutD ds lo hi)) mh
 | _=>∃ds,lF mh x=some ds/\Q (.ref mh.length) (mh++[.lst (cutD ds lo hi)])
theorem MR{μ:List Addr}{ds:List D}{vs:List V}(l:IsL K μ H ds vs)(lo hi:Option Int):IsL K μ H (cutD ds lo hi) (EA vs lo hi):=by
 unfold cutD EA;rw[bB l];exact yH _ (yJ _ l)
theorem sll:SlR X (aA9 X.K oSl):=by
 intro pins s σ H x v d f lo hi sl Q I g h i j q;obtain⟨μ,mh,dx,R,c,ix,q,F⟩:=q
 have go:(∃ds,lF mh dx=some ds/\R (.ref mh.length) (mh++[.lst (cutD ds lo hi)]))->∃T id,typeLookup (.type T) "__getitem__"=pure (some (.builtin id))/\s.TypeIs v T/\wpAny (model X.prog X.w) X.A (getItem v (.ref sl)) (EP X pins σ Q) X.xe s:=λb=>by
  obtain⟨ds,e,q⟩:=b;obtain⟨a,vs,rfl,sq,l⟩:=oJ c ix e;exact V2 pins s σ H _ v d f lo hi sl Q I g h i j ⟨a,vs,rfl,sq,k7 c F (MR l lo hi) q⟩
 cases dx with
 | tup ds=>
  obtain⟨a,vs,rfl,sq,l⟩:=eC ix;refine V1 pins s σ H _ v d f lo hi sl Q I g h i j ⟨a,vs,rfl,sq,λk=>?_,λ_=>sQ c F (MR l lo hi) q⟩
  have e:cutD ds lo hi=ds:=by
   unfold cutD;rw[<-bB l,k.1,k.2,bB l];simp
  have m :R (.tup (cutD ds lo hi)) mh:=q;rw[e]at m;exact F.here c m ix
 | _=>exact go q
abbrev WO:=iM->MH->(Option Int->MH->Prop)->Prop
def tLO(K:aPu)(w:WO):TO:=λσ H Q=>∃μ a mh R,Rep K μ mh H/\dG K μ H a σ/\w a mh R/\∀o mh',R o mh' ->∀μ' H',aZ μ H μ' H' ->Rep K μ' mh' H' ->Q o H'
def LO(X:Cx)(e:Option Expr)(w:WO):Prop:=PO X e (tLO X.K w)
def wNo:WO:=λ_ mh Q=>Q none mh
def AR(w:WE):WO:=λb mh Q=>w b mh λx a=>∃i,x= .int i/\Q (some i) a
variable {e:Expr}{w:WE}{lo hi:Option Expr}{wl wh:WO}{pos p2:Pos}
theorem X3:LO X none wNo:=λpins s σ H Q I q=>W2 pins s σ H Q I (by
 obtain⟨μ,b,mh,R,a,E,h,F⟩:=q
 exact F none mh h μ H aZ.refl a)
theorem X2(h:LE X e w):LO X (some e) (AR w):=λpins s σ H Q I q=>W0 h pins s σ H Q I (by
 obtain⟨μ,d,mh,R,f,E,h,F⟩:=q;refine⟨μ,d,mh,_,f,E,h,λdx a b c m g j k l=>?_⟩;obtain⟨i,rfl,b⟩:=b
 exact⟨i,b9 l,F (some i) a b c g j k⟩)
def wSl(f:OS)(w:WE)(wl wh:WO):WE:=λa mh Q=>w a mh λx b=>wl a b λl c=>wh a c λu d=>f x l u d Q
theorem SV{f:OS}(r:SlR X (aA9 X.K f))(he:LE X e w)(s:LO X lo wl)(t:LO X hi wh):LE X (.Subscript e (.Slice lo hi none p2) pos) (wSl f w wl wh):=PE.imp (RJ r he s t) λσ H Q q=>by
 obtain⟨μ,a,mh,R,b,E,h,F⟩:=q;refine⟨μ,a,mh,_,b,E,h,λdx c v d x C g o y=>⟨d,a,c,_,o,E.mono b g,v,λl i z j D k R2=>⟨j,a,i,_,R2,E.mono b (g.trans k),z,λu m A n G p B=>?_⟩⟩⟩;exact⟨n,m,dx,R,B,Is.mono o (k.trans p) dx x y,A,F.at ((g.trans k).trans p)⟩
abbrev OM:=D->List D->MH->DK->Prop
def liftM(K:aPu)(f:OM):V->List V->Hp->VK->Prop:=λx xs H Q=>∃μ mh dx ds R,Rep K μ mh H/\Is K μ H dx x/\IsL K μ H ds xs/\f dx ds mh R/\Fin K μ H R Q
def lH(mh:MH)(T:String):D->Prop
 | .str _=>T= "str"
 | .int _=>T= "int"
 | .ref n=>T= "list"/\∃ds,mh[n]? =some (.lst ds)
 | .fl _=>T= "list"
 | .tup _=>T= "tuple"
 | _=>False
theorem aDm{μ:List Addr}{mh:MH}{T:String}{d:D}{v:V}(b:Rep K μ mh H)(i:Is K μ H d v)(k:lH mh T d):tyV K T v H:=by
 cases d with
 | str z=>cases lI i;exact k
 | int z=>cases b9 i;exact k
 | ref n=>obtain⟨e,ds,o⟩:=k;obtain⟨a,vs,rfl,_,c,_⟩:=gA b i o;exact .inl ⟨e,vs,.of c⟩
 | fl ds=>obtain⟨a,vs,rfl,sq,_⟩:=p8 i;exact .inl ⟨k,vs,sq.sq⟩
 | tup ds=>obtain⟨a,vs,rfl,sq,_⟩:=eC i;exact .inr (.inl ⟨k,vs,sq⟩)
 | _=>exact False.elim k
variable {o:Expr}{es:List Expr}{wo:WE}{wa:WA}{name:Str}{apos eG:Pos}{T id:String}
def qF(T:String)(f:OM)(wo:WE)(wa:WA):WE:=λc mh Q=>wo c mh λx a=>lH a T x/\wa c a λds b=>f x ds b Q
theorem BE{f:OM}(v:PlainAttrs T)(slot:Slot T name id)(g:typeOf (.builtin id)=pure (.type "method_descriptor"))(hm:ZU X id (liftM X.K f))(ho:LE X o wo)(ha:LA X (e::es) wa)
  (b:attributeBase o name X.env (eval o X.env)=eval o X.env:=by rfl)
  (d:((backTo eG (starEach (e::es) X.env)).all (λx=>!x.1) && (backToKw eG (keywordEach [] X.env)).all (λx=>x.1.isSome)
   && decide ((e::es).length+([]:List Keyword).length+(if ([]:List Keyword).isEmpty then 0 else 1)<30))=true:=by rfl)
  (c:(apos.endLine==eG.line)=true:=by rfl) (w:starEach (e::es) X.env=(false,eval e X.env)::starEach es X.env:=by rfl) (a:(backTo eG (starEach es X.env)).any (·.1)=false:=by rfl):
  LE X (.Call (.Attribute o name apos) (e::es) [] eG) (qF T f wo wa):=PE.imp (aH3 v slot g hm ho ha b d c w a) λσ H Q q=>by
 obtain⟨μ,n,mh,R,p,E,h,F⟩:=q;refine⟨μ,n,mh,_,p,E,h,λdx i r j y B s k t=>⟨aDm k t r.1,j,n,i,_,k,E.mono p s,r.2,λds l z m vs C u R2 A=>?_⟩⟩;exact⟨m,l,dx,ds,R,R2,Is.mono k u dx y t,A,z,F.at (s.trans u)⟩
def bS:OM:=λx ds mh Q=>∃n es d,x= .ref n/\ds=[d]/\mh[n]? =some (.lst es)/\es.length<sizeLine/\Q .bU (mh.set n (.lst (es++[d])))
theorem OG:ZU X "list.append" (liftM X.K bS):=by
 intro pins s σ H x xs v us Q I c rs q;obtain⟨μ,mh,dx,ds,R,b,ix,f,⟨n,es,d,rfl,rfl,e,hz,q⟩,F⟩:=q;obtain⟨a,vs,rfl,g,h,l⟩:=gA b ix e;obtain⟨z,rfl,i⟩:=eD f;exact BA pins s σ H _ _ v us Q I c rs ⟨a,vs,z,rfl,rfl,h,by rw[bB l];exact hz,F.put b g (gE l (kZ i)) q .bU⟩
end
structure iL where
 nx:iM->MH->Prop
 rt:DK
 bk:iM->MH->Prop:=λ_ _=>False
 ct:iM->MH->Prop:=λ_ _=>False
abbrev WS:=iL->iM->MH->Prop
def KR(K:aPu)(μ:List Addr)(H:Hp)(R:iM->MH->Prop)(Q:L2.St->Hp->Prop):Prop:=
 ∀a mh',R a mh' ->∀μ' b H',aZ μ H μ' H' ->Rep K μ' mh' H' ->dG K μ' H' a b ->Q b H'
structure ER(K:aPu)(μ:List Addr)(H:Hp)(E:iL)(D:Ends):Prop where
 nx:KR K μ H E.nx D.nx
 rt:Fin K μ H E.rt D.rt
 bk:KR K μ H E.bk D.bk
 ct:KR K μ H E.ct D.ct
def tLS(K:aPu)(w:WS):TS:=λD σ H=>∃μ a mh E,Rep K μ mh H/\dG K μ H a σ/\w E a mh/\ER K μ H E D
def LS(X:Cx)(st:Stmt)(w:WS):Prop:=PS X st (tLS X.K w)
def jQ(X:Cx)(st:List Stmt)(w:WS):Prop:=EO X st (tLS X.K w)
theorem PS.imp{e:Stmt}{t t' :TS}(h:PS X e t)(i:∀D σ H,t' D σ H->t D σ H):PS X e t' :=λpins s σ H D I q=>h pins s σ H D I (i D σ H q)
theorem EO.imp{e:List Stmt}{t t' :TS}(h:EO X e t)(i:∀D σ H,t' D σ H->t D σ H):EO X e t' :=λpins s σ H D I q=>h pins s σ H D I (i D σ H q)
section
variable {K:aPu}{μ μ1:List Addr}{H H1:Hp}
theorem KR.at{R:iM->MH->Prop}{Q:L2.St->Hp->Prop}(F:KR K μ H R Q)(P:aZ μ H μ1 H1):KR K μ1 H1 R Q:=λa mh' r μ' b H' c d I=>F a mh' r μ' b H' (P.trans c) d I
theorem ER.at{E:iL}{D:Ends}(F:ER K μ H E D)(P:aZ μ H μ1 H1):ER K μ1 H1 E D:=⟨F.nx.at P,F.rt.at P,F.bk.at P,F.ct.at P⟩
theorem dG.set{c:iM}{σ:L2.St}{d:D}{v:V}(E:dG K μ H c σ)(i:Nat)(h:Is K μ H d v):dG K μ H (c.set i (some d)) (σ.set i (some v)):=by
 refine⟨by simp[E.1],λj e b=>?_⟩;by_cases a:j=i
 ·subst a
  have f:j<c.length:=by
   have:=(aM6.mp b).1;simpa using this
  rw[List.getElem?_set_self f]at b;cases b;exact⟨v,by rw[List.getElem?_set_self (by rw[<-E.1];exact f)],h⟩
 ·rw[List.getElem?_set_ne (Ne.symm a)]at b;obtain⟨u,g,k⟩:=E.2 j e b;exact⟨u,by rw[List.getElem?_set_ne (Ne.symm a)];exact g,k⟩
end
def cB:WS:=λE a mh=>E.nx a mh
def aT(t u:WS):WS:=λE a mh=>t {E with nx:=u E} a mh
def aAn:WS:=λE a mh=>E.bk a mh
def eP(w:WE):WS:=λE b mh=>w b mh λ_ a=>E.nx b a
def bX(w:WE):WS:=λE a mh=>w a mh E.rt
def eS(t:WT)(a b:WS):WS:=λE e mh=>t e mh λc d=>if c=true then a E e d else b E e d
section
variable {X:Cx}{st:Stmt}{rest a b:List Stmt}{t u:WS}{e:Expr}{w:WE}{wt:WT}{pos:Pos}
theorem aD3:jQ X [] cB:=EO.imp WV λD σ H a=>by obtain⟨μ,b,mh,E,R,En,h,F⟩:=a;exact F.nx b mh h μ σ H aZ.refl R En
theorem X1(d:LS X st t)(e:jQ X rest u):jQ X (st::rest) (aT t u):=EO.imp (RB d e) λD σ H a=>by
 obtain⟨μ,f,mh,E,R,En,h,F⟩:=a;exact⟨μ,f,mh,_,R,En,h,⟨λb mh' q μ' g H' i j c =>⟨μ',b,mh',E,j,c,q,F.at i⟩,F.rt,F.bk,F.ct⟩⟩
theorem aD2(a:LS X st t):jQ X [st] t:=WU a
theorem SS:LS X (.Break pos) aAn:=PS.imp RF λD σ H a=>by obtain⟨μ,b,mh,E,R,En,h,F⟩:=a;exact F.bk b mh h μ σ H aZ.refl R En
theorem X0(he:LE X e w)(g:swapsWith e none pos.line X.env=pure false:=by rfl):LS X (.Expr e pos) (eP w):=PS.imp (WW he g) λD σ H ⟨μ,c,mh,E,R,En,h,F⟩=>
 ⟨μ,c,mh,_,R,En,h,λd a q b v i f j k=>F.nx c a q b σ i f j (En.mono R f)⟩
theorem aD0(he:LE X e w):LS X (.Return (some e) pos) (bX w):=PS.imp (aBm he) λD σ H a=>by obtain⟨μ,b,mh,E,R,En,h,F⟩:=a;exact⟨μ,b,mh,_,R,En,h,F.rt⟩
theorem aHm{c:Expr}(l:LT X c wt)(ha:jQ X a t)(m:jQ X b u):LS X (.If c a b pos) (eS wt t u):=PS.imp (aGu l ha m) λD σ H g=>by
 obtain⟨μ,i,mh,E,R,En,h,F⟩:=g;refine⟨μ,i,mh,_,R,En,h,λk d q e n f j=>?_⟩
 cases k with
 | true=>rw[if_pos rfl]at q⊢;exact⟨e,i,d,E,j,En.mono R f,q,F.at f⟩
 | false=>rw[if_neg Bool.false_ne_true]at q⊢;exact⟨e,i,d,E,j,En.mono R f,q,F.at f⟩
abbrev WG:=D->iM->(iM->Prop)->Prop
abbrev P8:=List D->iM->(iM->Prop)->Prop
def tG(K:aPu)(g:TG)(gd:WG):Prop:=∀v σ H Q μ c mh d R,Rep K μ mh H->dG K μ H c σ->Is K μ H d v->gd d c R->(∀a,R a ->∀b,dG K μ H a b ->Q b H)->g v σ H Q
def zK(K:aPu)(g:HU)(gd:P8):Prop:=∀vs σ H Q μ c mh ds R,Rep K μ mh H->dG K μ H c σ->IsL K μ H ds vs->gd ds c R->(∀a,R a ->∀b,dG K μ H a b ->Q b H)->g vs σ H Q
def gN(i:Nat):WG:=λd a Q=>Q (a.set i (some d))
def eE:P8:=λds a Q=>ds=[]/\Q a
def aQ(t:WG)(u:P8):P8:=λds b Q=>∃d r,ds=d::r/\t d b λa =>u r a Q
def gT(n:Nat)(u:P8):WG:=λd a Q=>∃ds,d= .tup ds/\ds.length=n/\u ds a Q
theorem DW(i:Nat):tG K (u7 i) (gN i):=λv σ H Q μ a mh d R b En I h F=>F _ h _ (En.set i I)
theorem Y1:zK K T6 eE:=λvs σ H Q μ a mh ds R b En I h F=>by
 obtain⟨rfl,h⟩:=h;unfold IsL at I;exact⟨I,F a h σ En⟩
theorem TX{g:TG}{f:HU}{gd:WG}{a:P8}(k:tG K g gd)(l:zK K f a):zK K (GU g f) (aQ gd a):=λvs σ H Q μ m mh ds R i En I h F=>by
 obtain⟨d,r,rfl,h⟩:=h;unfold IsL at I;obtain⟨v,j,rfl,n,o⟩:=I;exact⟨v,j,rfl,k v σ H _ μ m mh d _ i En n h λb q c e =>l j c H Q μ b mh r R i e o q F⟩
theorem aEf{n:Nat}{c:HU}{b:P8}(h:zK K c b):tG K (aEh K n c) (gT n b):=λv σ H Q μ e mh d R f En I q F=>by
 obtain⟨ds,rfl,g,q⟩:=q;obtain⟨a,vs,rfl,sq,l⟩:=eC I;exact⟨a,vs,rfl,sq,by rw[bB l];exact g,h vs σ H Q μ e mh ds R f En l q F⟩
def bH(w:WE)(g:WG):WS:=λE c mh=>w c mh λd a=>g d c λb =>E.nx b a
theorem KO{g:TG}{gd:WG}{D:Ends}{σ:L2.St}(m:tG K g gd)(h:tLS K (bH w gd) D σ H):VZ (tL K w) g D σ H:=by
 obtain⟨μ,i,mh,E,R,En,h,F⟩:=h;refine⟨μ,i,mh,_,R,En,h,λd a q b v j k l n=>?_⟩;exact m v σ j _ b i a d _ l (En.mono R k) n q λc o e f =>F.nx c a o b e j k l f
theorem aCz(i:Nat){x:Str}{a :Pos}(hN:X.N.Nodup)(he:LE X e w)(hi:X.N[i]? =some x:=by rfl)(b:Loc X.env.scope x:=by first | exact Or.inl rfl | exact Or.inr rfl)(c:swapsWith e (some (.Name x a)) pos.line X.env=pure false:=by rfl)(d:X.fn x=true\/X.env.scope.names.lookup x=some .local:=by first | exact .inl rfl | exact .inr rfl | assumption):
  LS X (.Assign [.Name x a] e pos) (bH w (gN i)):=PS.imp (aBl hN hi b he c d) λD σ H h=>KO (DW i) h
theorem aD5{tg:Expr}{g:TG}{gd:WG}(he:LE X e w)(hg:PG X tg g)(a:tG X.K g gd)(b:swapsWithSole [tg] e pos.line X.env=pure false:=by rfl)(c:swappedStores [tg] e X.env=pure none:=by rfl)
  (d:(assignEach [tg] X.env).map (·.2)=[assign tg X.env]:=by rfl):LS X (.Assign [tg] e pos) (bH w gd):=PS.imp (IU he hg b c d) λD σ H h=>KO a h
def V3:D->D->D->MH->(MH->Prop)->Prop:=λo i d mh Q=>∃n ds k j,o= .ref n/\i= .int k/\mh[n]? =some (.lst ds)/\OT ds.length k=some j/\Q (mh.set n (.lst (ds.set j d)))
def K0(w g wi:WE):WS:=λE a mh=>w a mh λd b=>g a b λo c=>wi a c λi e=>V3 o i d e λf=>E.nx a f
theorem XY{o i:Expr}{z wi:WE}{b:Pos}(he:LE X e w)(ho:LE X o z)(hi:LE X i wi)
  (ha:∀v,assign (.Subscript o i b) X.env v=(do
   let ov<-holding [v] (eval o X.env)
   let iv<-holding [v,ov] (eval i X.env)
   standAt b
   holding [v,ov,iv] (setItem ov iv v)
   release [v,ov,iv] []):=by intro _;rfl)
  (G:swapsWithSole [.Subscript o i b] e pos.line X.env=pure false:=by rfl) (I:swappedStores [.Subscript o i b] e X.env=pure none:=by rfl)
  (J:(assignEach [.Subscript o i b] X.env).map (·.2)=[assign (.Subscript o i b) X.env]:=by rfl):LS X (.Assign [.Subscript o i b] e pos) (K0 w z wi):=
 PS.imp (IU he (aBs ho hi set_list ha) G I J) λD σ H h=>by
  obtain⟨μ,g,mh,E,R,En,h,F⟩:=h;refine⟨μ,g,mh,_,R,En,h,λd m q p v H1 r A K=>?_⟩;refine⟨p,g,m,_,A,En.mono R r,q,λL s M t vo H2 u R2 N=>?_⟩;refine⟨t,g,s,_,R2,En.mono R (r.trans u),M,λdi O P c vi B x y Q=>?_⟩;obtain⟨n,ds,k,j,rfl,rfl,S,T,U⟩:=P;obtain⟨a,vs,rfl,C,V,l⟩:=gA y (Is.mono R2 x _ _ N) S;cases b9 Q;have W:=Is.mono A (u.trans x) d v K;have Y:aZ c B c (upd B a (.lst (vs.set j v))):=aZ.set y C;have Z:=y.set C (MP j W l);have f:=((r.trans u).trans x).trans Y;exact⟨a,vs,k,j,rfl,rfl,V,by rw[bB l];exact T,F.nx g _ U c σ _ f Z (En.mono R f)⟩
def tI(t:WT)(b:WS):WS:=λE a mh=>∃W:Nat->iM->MH->Prop,(∃m,W m a mh)/\∀m a mh,W m a mh->∃N:iM->MH->Prop,(∀d mh',N d mh' ->∃f,f<m/\W f d mh')/\
 t a mh λc e=>if c=true then b {E with nx:=N,ct:=N,bk:=E.nx} a e else E.nx a e
theorem SO{c:Expr}{body:List Stmt}(B:PassesOwn (model X.prog X.w) X.A X.env X.xe)(C:LT X c wt)(G:jQ X body t):LS X (.While c body [] pos) (tI wt t):=PS.imp (RD B C G) λD σ H h=>by
 obtain⟨μ,I,mh,E,R,En,⟨W,⟨m,J⟩,o⟩,F⟩:=h;refine⟨λm j H' =>∃μ' e mh',aZ μ H μ' H' /\Rep X.K μ' mh' H' /\dG X.K μ' H' e j /\W m e mh',⟨m,μ,I,mh,aZ.refl,R,En,J⟩,?_⟩;rintro m j H' ⟨μ',e,mh',y,x,l,L⟩;obtain⟨N,hN,tt⟩:=o m e mh' L;refine⟨μ',e,mh',_,x,l,tt,λk p q r M v z=>?_⟩
 cases k with
 | false=>rw[if_neg Bool.false_ne_true]at q⊢;exact F.nx e p q r j M (y.trans v) z (l.mono x v)
 | true=>
  rw[if_pos rfl]at q⊢;refine⟨λg n=>∃a b d,aZ μ H a n/\Rep X.K a d n/\dG X.K a n b g/\N b d,?_,?_⟩
  ·rintro g n ⟨a,b,d,s,R2,f,u⟩;obtain⟨O,hm,P⟩:=hN b d u;exact⟨O,hm,a,b,d,s,R2,f,P⟩
  ·have i:=y.trans v;exact⟨r,e,p,_,z,l.mono x v,q,⟨λb d u a g n s R2 f=>⟨a,b,d,i.trans s,R2,f,u⟩,F.rt.at i,F.nx.at i,λb d u a g n s R2 f=>⟨a,b,d,i.trans s,R2,f,u⟩⟩⟩
def eQ(t:WT)(b:WS)(E:iL):Nat->iM->MH->Prop
 | 0,_,_=>False
 | n+1,ρ,mh=>t ρ mh λc a=>if c=true then b {E with nx:=eQ t b E n,ct:=eQ t b E n,bk:=E.nx} ρ a else E.nx ρ a
theorem mI{t:WT}{b:WS}{E:iL}{a:iM}{mh:MH}(n:Nat)(h:eQ t b E n a mh):tI t b E a mh:=by
 refine⟨λm a mh=>eQ t b E m a mh,⟨n,h⟩,λm a mh c=>?_⟩
 cases m with
 | zero=>exact c.elim
 | succ m=>exact⟨eQ t b E m,λd mh' q=>⟨m,aMt _,q⟩,c⟩
abbrev WI:=iM->MH->(List D->(MH->Prop)->MH->Prop)->Prop
structure mE(μ:List Addr)(H:Hp)(μ' :List Addr)(H' :Hp):Prop where
 pre:∃t,μ' =μ++t
 fr:∀b o,H b=some o->¬Own (some o)->H' b=some o
section
variable {K:aPu}{μ μ' :List Addr}{mh:MH}{H H' :Hp}
theorem aZ.weak(R:Rep K μ mh H)(P:aZ μ H μ' H'):mE μ H μ' H' :=⟨P.pre,λb o e n=>P.fr b o e λhm=>n (by have:=R.mut hm;rwa [e]at this)⟩
theorem mE.get(p:mE μ H μ' H'){n:Nat}{a:Addr}(h:μ[n]? =some a):μ'[n]? =some a:=by
 obtain⟨t,rfl⟩:=p.pre;rw[List.getElem?_append_left (List.getElem?_eq_some_iff.mp h).1];exact h
theorem mE.sqT(p:mE μ H μ' H'){a:Addr}{vs:List V}(h:U9 K H a vs):U9 K H' a vs:=by
 rcases h with h | h
 ·exact .inl (p.fr _ _ h id)
 ·exact .inr h
theorem mE.sqF(p:mE μ H μ' H'){a:Addr}{vs:List V}(h:VG K H a vs):VG K H' a vs:=by
 rcases h with ⟨o,h⟩ | h
 ·exact .inl ⟨o,p.fr _ _ h id⟩
 ·exact .inr h
mutual
theorem Is.p7(p:mE μ H μ' H'):∀(d:D) (v:V),Is K μ H d v->Is K μ' H' d v
 | .bU,v,h=>by unfold Is at*;exact h
 | .bl _,v,h=>by unfold Is at*;exact h
 | .int _,v,h=>by unfold Is at*;exact h
 | .str _,v,h=>by unfold Is at*;exact h
 | .ty _,v,h=>by unfold Is at*;exact h
 | .tup ds,v,h=>by
  unfold Is at*;obtain⟨a,vs,e,s,l⟩:=h;exact⟨a,vs,e,p.sqT s,IsL.p7 p ds vs l⟩
 | .fl ds,v,h=>by
  unfold Is at*;obtain⟨a,vs,e,s,l⟩:=h;exact⟨a,vs,e,p.sqF s,IsL.p7 p ds vs l⟩
 | .ref n,v,h=>by
  unfold Is at*;obtain⟨a,e,q⟩:=h;exact⟨a,p.get e,q⟩
theorem IsL.p7(p:mE μ H μ' H'):∀(ds:List D) (vs:List V),IsL K μ H ds vs->IsL K μ' H' ds vs
 | [],vs,h=>by unfold IsL at*;exact h
 | d::ds,vs,h=>by
  unfold IsL at*;obtain⟨v,r,e,q,l⟩:=h;exact⟨v,r,e,Is.p7 p d v q,IsL.p7 p ds r l⟩
end
end
structure P0(K:aPu)(μ:List Addr)(H:Hp)(ds:List D)(St:MH->Prop)(J:It):Prop where
 small:ds.length<=sizeLine
 go:∀μ' mh' H',mE μ H μ' H' ->Rep K μ' mh' H' ->St mh' ->∀(i:Nat) d,ds[i]? =some d->J.go i H' /\∀x H'',J.yld i H' x H'' ->aZ μ' H' μ' H'' /\Rep K μ' mh' H'' /\Is K μ' H'' d x
 stop:∀μ' mh' H',mE μ H μ' H' ->Rep K μ' mh' H' ->St mh' ->J.stop ds.length H'
def tLI(K:aPu)(w:WI):TI:=λσ H R=>∃μ d mh e,Rep K μ mh H/\dG K μ H d σ/\w d mh e /\
 ∀ds St b,e ds St b->∀a J c,aZ μ H a c->Rep K a b c->P0 K a c ds St J->R J c
def LI(X:Cx)(tg iter:Expr)(w:WI):Prop:=PI X tg iter (tLI X.K w)
theorem PI.imp{X:Cx}{tg e:Expr}{t t' :TI}(h:PI X tg e t)(i:∀σ H Q,t' σ H Q->t σ H Q):PI X tg e t' :=λpins s σ H Q I q=>h pins s σ H Q I (i σ H Q q)
def kY(g:WG)(b:WS)(E:iL)(St:MH->Prop):List D->iM->MH->Prop
 | [],ρ,mh=>St mh/\E.nx ρ mh
 | d::ds,ρ,mh=>St mh/\g d ρ λa=>b {E with nx:=kY g b E St ds,ct:=kY g b E St ds,bk:=E.nx} a mh
def lD(wi:WI)(g:WG)(b:WS):WS:=λE c mh=>wi c mh λds St a=>kY g b E St ds c a
theorem aD4{tg iter:Expr}{body:List Stmt}{wi:WI}{g:TG}{gd:WG}(V:PassesOwn (model X.prog X.w) X.A X.env X.xe)(W:X.calm=true)(hi:LI X tg iter wi)(hg:PG X tg g)(Y:tG X.K g gd)(Z:jQ X body t)
  (hs:∀x,foldedSetIterable iter X.env x=pure x:=by intro _;rfl):LS X (.For tg iter body [] pos) (lD wi gd t):=PS.imp (aBo V W hi hg Z hs) λD σ H h=>by
 obtain⟨μ,Q,mh,E,R,En,h,F⟩:=h;refine⟨μ,Q,mh,_,R,En,h,λds St B q j J C G I It=>?_⟩;refine⟨λi m k H' =>∃μ' d mh',aZ j C μ' H' /\Rep X.K μ' mh' H' /\dG X.K μ' H' d k /\i<=ds.length/\m=ds.length-i/\kY gd t E St (ds.drop i) d mh',⟨ds.length,j,Q,B,aZ.refl,I,En.mono R G,aN9 _,by simp,by simpa using q⟩,?_⟩;rintro i m k H' ⟨μ',d,mh',v,z,r,hi',rfl,l⟩;by_cases o:i<ds.length
 ·rw[List.drop_eq_getElem_cons o]at l;obtain⟨L,l⟩:=l;obtain⟨M,hy⟩:=It.go μ' mh' H' (v.weak I) z L i ds[i] (by simp[o]);refine .inr ⟨M,λf n=>∃a b c,aZ j C a n/\Rep X.K a c n/\dG X.K a n b f/\kY gd t E St (ds.drop (i+1)) b c,?_,λx H'' y=>?_⟩
  ·rintro f n ⟨a,b,c,N,R2,p,l2⟩;exact⟨ds.length-(i+1),by lia,a,b,c,N,R2,p,o,rfl,l2⟩
  ·obtain⟨S,T,Iy⟩:=hy x H'' y;refine Y x k H'' _ μ' d mh' _ _ T (r.mono z S) Iy l λO q3 σ3 P=>?_;have U:=v.trans S;have s:=G.trans U
   have u:KR X.K μ' H'' (kY gd t E St (ds.drop (i+1))) (λf n=>∃a b c,aZ j C a n/\Rep X.K a c n/\dG X.K a n b f/\kY gd t E St (ds.drop (i+1)) b c):=
    λb c n2 a f n N R2 p=>⟨a,b,c,U.trans N,R2,p,n2⟩
   exact⟨μ',O,mh',_,T,P,q3,⟨u,F.rt.at s,F.nx.at s,u⟩⟩
 ·have e:i=ds.length:=by lia
  subst e;rw[List.drop_of_length_le (Nat.le_refl _)]at l;exact .inl ⟨It.stop μ' mh' H' (v.weak I) z l.1,F.nx d mh' l.2 μ' k H' (G.trans v) z r⟩
end
def eU(w:WE):WI:=λb mh Q=>w b mh λx a=>∃ds,bF a x=some ds/\Q ds (λmh' =>bF mh' x=some ds) a
section
variable {K:aPu}{μ:List Addr}{mh:MH}{H:Hp}{ds:List D}{vs:List V}{a:Addr}
theorem aDw{St:MH->Prop}(R:Rep K μ mh H)(s:U9 K H a vs)(l:IsL K μ H ds vs)(hz:ds.length<=sizeLine):P0 K μ H ds St (Itt K a):=by
 refine⟨hz,λμ' mh' H' b c _ i d e=>?_,λμ' mh' H' b c _=>⟨vs,(b.sqT s).sq,by rw[bB l];exact aM7 _⟩⟩;have f :=(b.sqT s).sq;obtain⟨v,g,h⟩:=fD (IsL.p7 b ds vs l) e;refine⟨⟨vs,v,f,g⟩,λx H'' y=>?_⟩;obtain⟨rfl,y⟩:=y;have:=y vs f;rw[g]at this;cases this;exact⟨aZ.refl,c,h⟩
theorem aI2{St:MH->Prop}(R:Rep K μ mh H)(s:VG K H a vs)(l:IsL K μ H ds vs)(hz:ds.length<=sizeLine):P0 K μ H ds St (Itl K a):=by
 refine⟨hz,λμ' mh' H' b c _ i d e=>?_,λμ' mh' H' b c _=>⟨vs,(b.sqF s).sq,by rw[bB l];exact aM7 _⟩⟩;have f :=(b.sqF s).sq;obtain⟨v,g,h⟩:=fD (IsL.p7 b ds vs l) e;refine⟨⟨vs,v,f,g⟩,λx H'' y=>?_⟩;obtain⟨rfl,y⟩:=y;have:=y vs f;rw[g]at this;cases this;exact⟨aZ.refl,c,h⟩
theorem vU{mh:MH}{n:Nat}{ds:List D}(h:bF mh (.ref n)=some ds):mh[n]? =some (.lst ds):=by
 simp only[bF]at h
 cases o:mh[n]? with
 | none=>rw[o]at h;cases h
 | some ob=>cases ob with
  | lst es=>rw[o]at h;cases h;rfl
  | dic t kvs=>rw[o]at h;cases h
  | fdc t kvs ob=>rw[o]at h;cases h
  | oth ds f=>rw[o]at h;cases h
theorem aDy{n:Nat}(R:Rep K μ mh H)(h:μ[n]? =some a)(hz:ds.length<=sizeLine):P0 K μ H ds (λmh' =>bF mh' (.ref n)=some ds) (Itl K a):=by
 refine⟨hz,λμ' mh' H' f b g i d e=>?_,λμ' mh' H' f b g=>?_⟩
 ·obtain⟨vs,c,l⟩:=b.obj n a _ (f.get h) (vU g);obtain⟨v,j,k⟩:=fD l e;refine⟨⟨vs,v,.of c,j⟩,λx H'' y=>?_⟩;obtain⟨rfl,y⟩:=y;have:=y vs (.of c);rw[j]at this;cases this;exact⟨aZ.refl,b,k⟩
 ·obtain⟨vs,c,l⟩:=b.obj n a _ (f.get h) (vU g);exact⟨vs,.of c,by rw[bB l];exact aM7 _⟩
end
section
variable {X:Cx}{tg l:Expr}{w:WE}
theorem aD6(D:LE X l w):LI X tg l (eU w):=by
 intro pins s σ H R I h;obtain⟨μ,E,mh,G,J,En,h,F⟩:=h;refine dZ (D pins s σ H (λv g=>∃c x f ds,aZ μ H c g/\Rep X.K c f g/\Is X.K c g x v/\bF f x=some ds/\G ds (λmh' =>bF mh' x=some ds) f) I ⟨μ,E,mh,_,J,En,h,λd f q c v g y m i=>?_⟩) λv s1 ⟨x,g,i,B,L⟩=>?_
 ·obtain⟨ds,e,q⟩:=q;exact⟨c,d,f,ds,y,m,i,e,q⟩
 ·obtain⟨c,dx,f,ds,y,m,ix,e,q⟩:=L;obtain⟨a,vs,rfl,sq,M⟩:=qL m ix e;have hz:ds.length<=sizeLine:=by rw[<-bB M];exact aB4 i sq
  have j:∀{vs:List V},rA X.K g a vs->P0 X.K c g ds (λmh' =>bF mh' dx=some ds) (Itl X.K a)->wpAny (model X.prog X.w) X.A (pyIter v) (PIE X pins σ tg R) X.xe s1:=λ{vs} sq It=>by
   obtain⟨aM,N,p,_⟩:=i.list sq;cases B;refine aOy p.isList ?_;refine⟨s1.heap.objs.size,[s1.heap.objs.size],_,_,g,rfl,i.kept (t' :=s1.toks) λb o e=>aM5 _ e,NP a _,⟨_,aMa _ rfl,rfl,rfl⟩,λb z=>?_,F ds _ f q c _ g y m It⟩;have e:b=s1.heap.objs.size:=by simpa using z
   subst e;exact i.T9 (aM7 _) (i.cS.fresh (aM7 _))
  cases dx with
  | tup es=>
   cases e;obtain⟨C,t,u,k,r⟩:=MM ix;cases u;obtain⟨aM,N,p,_⟩:=i.tuple k.sq;cases B;refine aOq (show s1.heap.IsTuple a aM.toArray from p) ?_;refine⟨s1.heap.objs.size,[s1.heap.objs.size],_,_,g,rfl,i.kept (t' :=s1.toks) λb o e=>aM5 _ e,IG a _,⟨_,aMa _ rfl,rfl,rfl⟩,λb z=>?_,F ds _ f q c _ g y m (aDw m k r hz)⟩;have e:b=s1.heap.objs.size:=by simpa using z
   subst e;exact i.T9 (aM7 _) (i.cS.fresh (aM7 _))
  | fl es=>
   cases e;obtain⟨C,t,u,k,r⟩:=p8 ix;cases u;exact j k.sq (aI2 m k r hz)
  | ref n=>
   obtain⟨C,t,u,O,P,r⟩:=gA m ix (vU e);cases u;exact j (.of P) (aDy m O hz)
  | _=>cases e
def dU(lo:Int)(n:Nat):List D:=(List.range n).map λ(k:Nat)=>D.int (lo+(k:Int))
theorem aDx{μ:List Addr}{St:MH->Prop}{lo:Int}{n:Nat}(hz:n<=sizeLine):P0 K μ H (dU lo n) St (Itr lo n):=by
 refine⟨by simpa[dU] using hz,λμ' mh' H' b a _ i d e=>?_,λμ' mh' H' b a _=>by show n<=_;simp[dU]⟩;simp only[dU,List.getElem?_map]at e;obtain⟨k,c,rfl⟩:=aN1.mp e;obtain⟨hi,rfl⟩:=aM6.mp c;simp at hi;refine⟨hi,λx H'' y=>?_⟩;obtain⟨rfl,rfl⟩:=y;exact⟨aZ.refl,a,by simp;exact .int⟩
variable {a b:Expr}{wa:WA}{p pos:Pos}
def j3(wa:WA):WI:=λb mh Q=>wa b mh λds a=>∃j,ds=[.int j]/\ -(2^62)<=j/\j<=sizeLine/\Q (dU 0 j.toNat) (λ_=>True) a
theorem OJ(hg:Gl X "range")(hm:X.mg "range"=none)(ha:LA X [a] wa)(d:starEach [a] X.env=[(false,eval a X.env)]:=by rfl):LI X tg (.Call (.Name "range" p) [a] [] pos) (j3 wa):=
 PI.imp (N5 hg hm ha d) λσ H R h=>by
  obtain⟨μ,e,mh,o,f,En,h,F⟩:=h;refine⟨μ,e,mh,_,f,En,h,λds b q c vs g i k l=>?_⟩;obtain⟨j,rfl,m,r,q⟩:=q;obtain⟨v,rfl,n⟩:=eD l;cases b9 n;have s:=oK;have d:sizeLine=16777216:=aMe;exact⟨j,rfl,m,by lia,F _ _ b q c _ g i k (aDx (by lia))⟩
def nF:List D->List D->List D
 | a::as,b::bs=>.tup [a,b]::nF as bs
 | _,_=>[]
theorem wG:∀(as bs:List D),(nF as bs).length=min as.length bs.length
 | [],bs=>by simp[nF]
 | a::as,[]=>by simp[nF]
 | a::as,b::bs=>by simp[nF,wG as bs]
theorem EW:∀{as bs:List D} {i:Nat} {d:D},(nF as bs)[i]? =some d->∃x y,as[i]? =some x/\bs[i]? =some y/\d= .tup [x,y]
 | [],bs,i,d,h=>by simp[nF]at h
 | a::as,[],i,d,h=>by simp[nF]at h
 | a::as,b::bs,0,d,h=>by simp[nF]at h;exact⟨a,b,rfl,rfl,h.symm⟩
 | a::as,b::bs,i+1,d,h=>by simpa using EW (as:=as) (bs:=bs) (i:=i) (by simpa[nF] using h)
def wR(wa:WA):WI:=λb mh Q=>wa b mh λxs a=>∃x y ds es,xs=[x,y]/\bF a x=some ds/\bF a y=some es/\ds.length<=sizeLine/\Q (nF ds es) (λmh' =>bF mh' x=some ds/\bF mh' y=some es) a
def TC:D->Bool | .tup _=>true | _=>false
theorem tN{μ:List Addr}{mh:MH}{d:D}{v:V}{ds:List D}(R:Rep K μ mh H)(h:Is K μ H d v)(e:bF mh d=some ds):∃a vs,v= .ref a/\IB K H (TC d) a vs/\IsL K μ H ds vs:=by
 cases d with
 | tup es=>obtain⟨a,vs,rfl,s,l⟩:=eC h;cases e;exact⟨a,vs,rfl,s,l⟩
 | fl es=>obtain⟨a,vs,rfl,s,l⟩:=p8 h;cases e;exact⟨a,vs,rfl,s.sq,l⟩
 | ref n=>obtain⟨a,vs,rfl,_,b,l⟩:=gA R h (vU e);exact⟨a,vs,rfl,rA.of b,l⟩
 | _=>cases e
variable {e1 e2:Expr}{elts:List Expr}{x1:Nat}{tpos:Pos}
theorem X4{x1}(hg:Gl X "zip")(hm:X.mg "zip"=none)(ha:LA X [e1,e2] wa)
  (he:starEach [e1,e2] X.env=(false,eval e1 X.env)::starEach [e2] X.env:=by rfl) (C:(backTo pos (starEach [e2] X.env)).any (·.1)=false:=by rfl):
  LI X (.Tuple elts x1 tpos) (.Call (.Name "zip" p) [e1,e2] [] pos) (wR wa):=
 PI.imp (aBp aFs ⟨by decide,by decide⟩ hg hm ha (by decide+kernel) he C) λσ H R h=>by
  obtain⟨μ,T,mh,g,U,En,h,F⟩:=h;refine⟨μ,T,mh,_,U,En,h,λxs D q o vs M V E W=>?_⟩;obtain⟨x,y,ds,es,rfl,Y,Z,hz,q⟩:=q;obtain⟨v,u,rfl,N,O⟩:=MT W;obtain⟨a,xs,rfl,sa,la⟩:=tN E N Y;obtain⟨b,w,rfl,sb,lb⟩:=tN E O Z;refine⟨[(a,TC x),(b,TC y)],rfl,rfl,?_,F _ _ D q o _ M V E ?_⟩
  ·intro G r;simp at r;rcases r with rfl | rfl
   ·exact⟨xs,sa⟩
   ·exact⟨w,sb⟩
  ·have l:∀μ' mh' H',mE o M μ' H' ->Rep X.K μ' mh' H' ->(bF mh' x=some ds/\bF mh' y=some es)->∃xs w,IB X.K H' (TC x) a xs/\IsL X.K μ' H' ds xs/\IB X.K H' (TC y) b w/\IsL X.K μ' H' es w:=λμ' mh' H' m g st=>by
    obtain⟨a',c,e1,s1,n⟩:=tN g (Is.p7 m _ _ N) st.1;obtain⟨b',f,e2,s2,s⟩:=tN g (Is.p7 m _ _ O) st.2;cases e1;cases e2;exact⟨c,f,s1,n,s2,s⟩
   refine⟨by rw[wG];lia,λμ' mh' H' m g st i d e=>?_,λμ' mh' H' m g st=>?_⟩
   ·obtain⟨c,f,s1,n,s2,s⟩:=l μ' mh' H' m g st;obtain⟨dx,dy,g1,g2,rfl⟩:=EW e;obtain⟨A,k1,ix⟩:=fD n g1;obtain⟨B,k2,iy⟩:=fD s g2;refine⟨⟨[A,B],rfl,λk a' t' v I P=>?_⟩,λz H'' yl=>?_⟩
    ·match k with
     | 0=>cases I;cases P;exact⟨c,s1,k1⟩
     | 1=>cases I;cases P;exact⟨f,s2,k2⟩
     | k+2=>simp at I
    ·obtain⟨G,vs,Q,rfl,rfl,J,t⟩:=yl
     match vs,J with
     | [v1,v2],_=>
      have e1:=t 0 a (TC x) v1 rfl rfl c s1;have e2:=t 1 b (TC y) v2 rfl rfl f s2;rw[k1]at e1;rw[k2]at e2;cases e1;cases e2;have L:aZ μ' H' μ' (upd H' G (.tup [A,B])):=aZ.new g Q;refine⟨L,g.new Q,?_⟩;unfold Is;refine⟨G,[A,B],rfl,.of bY,?_⟩;unfold IsL;exact⟨A,[B],rfl,Is.mono g L _ _ ix,kZ (Is.mono g L _ _ iy)⟩
   ·obtain⟨c,f,s1,n,s2,s⟩:=l μ' mh' H' m g st;rw[wG];by_cases hle:ds.length<=es.length
    ·refine⟨0,a,TC x,c,rfl,s1,by rw[bB n];lia,λj b u S=>absurd S (by lia)⟩
    ·refine⟨1,b,TC y,f,rfl,s2,by rw[bB s];lia,λj b u S hs=>?_⟩;have:j=0:=by lia
     subst this;cases hs;exact⟨c,s1,by rw[bB n];lia⟩
end
section
variable {K:aPu}{μ μ' :List Addr}{mh:MH}{H H0:Hp}{q:Addr}{o:HO}
mutual
theorem Is.out(hm:VB (H q)):∀(d:D) (v:V),Is K μ H d v->Is K μ (upd H q o) d v
 | .bU,v,h=>by unfold Is at*;exact h
 | .bl _,v,h=>by unfold Is at*;exact h
 | .int _,v,h=>by unfold Is at*;exact h
 | .str _,v,h=>by unfold Is at*;exact h
 | .ty _,v,h=>by unfold Is at*;exact h
 | .tup ds,v,h=>by
  unfold Is at*;obtain⟨a,vs,e,s,l⟩:=h;refine⟨a,vs,e,?_,IsL.out hm ds vs l⟩;rcases s with s | s
  ·exact .inl (by rw[bD (λz=>by subst z;rw[s]at hm;exact hm)];exact s)
  ·exact .inr s
 | .fl ds,v,h=>by
  unfold Is at*;obtain⟨a,vs,e,s,l⟩:=h;refine⟨a,vs,e,?_,IsL.out hm ds vs l⟩
  rcases s with ⟨ob,s⟩ | s
  ·exact .inl ⟨ob,by rw[bD (λz=>by subst z;rw[s]at hm;exact hm)];exact s⟩
  ·exact .inr s
 | .ref n,v,h=>by unfold Is at*;exact h
theorem IsL.out(hm:VB (H q)):∀(ds:List D) (vs:List V),IsL K μ H ds vs->IsL K μ (upd H q o) ds vs
 | [],vs,h=>by unfold IsL at*;exact h
 | d::ds,vs,h=>by
  unfold IsL at*;obtain⟨v,r,e,i,l⟩:=h;exact⟨v,r,e,Is.out hm d v i,IsL.out hm ds r l⟩
end
mutual
theorem Is.pre(b:∀(n:Nat) a,μ[n]? =some a->μ'[n]? =some a):∀(d:D) (v:V),Is K μ H d v->Is K μ' H d v
 | .bU,v,h=>by unfold Is at*;exact h
 | .bl _,v,h=>by unfold Is at*;exact h
 | .int _,v,h=>by unfold Is at*;exact h
 | .str _,v,h=>by unfold Is at*;exact h
 | .ty _,v,h=>by unfold Is at*;exact h
 | .tup ds,v,h=>by unfold Is at*;obtain⟨a,vs,e,s,l⟩:=h;exact⟨a,vs,e,s,IsL.pre b ds vs l⟩
 | .fl ds,v,h=>by unfold Is at*;obtain⟨a,vs,e,s,l⟩:=h;exact⟨a,vs,e,s,IsL.pre b ds vs l⟩
 | .ref n,v,h=>by unfold Is at*;obtain⟨a,e,q⟩:=h;exact⟨a,b n a e,q⟩
theorem IsL.pre(b:∀(n:Nat) a,μ[n]? =some a->μ'[n]? =some a):∀(ds:List D) (vs:List V),IsL K μ H ds vs->IsL K μ' H ds vs
 | [],vs,h=>by unfold IsL at*;exact h
 | d::ds,vs,h=>by unfold IsL at*;obtain⟨v,r,e,i,l⟩:=h;exact⟨v,r,e,Is.pre b d v i,IsL.pre b ds r l⟩
end
theorem Rep.out(R:Rep K μ mh H)(hm:VB (H q))(d:q∉μ):Rep K μ mh (upd H q o):=⟨R.len,R.nd,λn a ob c g=>by
 have h:=R.obj n a ob c g;have b:a≠q:=λz=>d (z▸aMc c)
 cases ob with
 | lst ds=>obtain⟨vs,e,l⟩:=h;exact⟨vs,by rw[bD b];exact e,IsL.out hm ds vs l⟩
 | dic t kvs=>obtain⟨vs,e,l⟩:=h;exact⟨vs,by rw[bD b];exact e,IsL.out hm _ vs l⟩
 | fdc t kvs ob=>obtain⟨vs,u,e,i,l⟩:=h;exact⟨vs,u,by rw[bD b];exact e,i,IsL.out hm _ vs l⟩
 | oth ds f=>obtain⟨vs,⟨e,m⟩,l⟩:=h;exact⟨vs,⟨by rw[bD b];exact e,m⟩,IsL.out hm ds vs l⟩⟩
theorem aZ.out(P:aZ μ H0 μ' H)(h0:H0 q=none):aZ μ H0 μ' (upd H q o):=⟨P.pre,λb u e n=>by rw[bD (bV e h0)];exact P.fr b u e n,P.nw⟩
theorem Rep.U3{j:MO}(R:Rep K μ mh H)(p:q∉μ)(e:qC K (μ++[q]) H j q):Rep K (μ++[q]) (mh++[j]) H:=by
 have k:∀{es us},IsL K μ H es us->IsL K (μ++[q]) H es us:=λ{es us} l=>IsL.pre (λn a h=>by rw[List.getElem?_append_left (List.getElem?_eq_some_iff.mp h).1];exact h) es us l;refine⟨by simp[R.len],?_,λn a ob c i=>?_⟩
 ·rw[List.nodup_append];refine⟨R.nd,by simp,λa ha b m=>?_⟩;simp at m;subst m;exact λz=>p (z▸ha)
 ·by_cases o:n<μ.length
  ·rw[List.getElem?_append_left o]at c;rw[List.getElem?_append_left (by rw[<-R.len];exact o)]at i;have h:=R.obj n a ob c i
   cases ob with
   | lst es=>obtain⟨us,d,g⟩:=h;exact⟨us,d,k g⟩
   | dic t kvs=>obtain⟨us,d,g⟩:=h;exact⟨us,d,k g⟩
   | fdc t kvs ob=>obtain⟨us,u,d,r,g⟩:=h;exact⟨us,u,d,r,k g⟩
   | oth ds f=>obtain⟨us,d,g⟩:=h;exact⟨us,d,k g⟩
  ·rw[List.getElem?_append_right (by lia)]at c;rw[List.getElem?_append_right (by rw[<-R.len];lia)]at i
   have hz:n-μ.length=0:=by
    have:=(aM6.mp c).1;simp at this;lia
   rw[hz]at c;rw[<-R.len,hz]at i;simp at c i;subst c i;exact e
theorem Rep.aIq{ds:List D}{vs:List V}(R:Rep K μ mh H)(b:q∉μ)(e:H q=some (.lst vs))(l:IsL K μ H ds vs):Rep K (μ++[q]) (mh++[.lst ds]) H:=
 R.U3 b ⟨vs,e,IsL.pre (λn a h=>by rw[List.getElem?_append_left (List.getElem?_eq_some_iff.mp h).1];exact h) ds vs l⟩
end
def jL(own:List Str)(aS:List Nat)(a:iM):iM:=own.map (λ_=>none)++aS.map λi=>(a[i]?).join
def i9(g:WG)(t:WT)(w:WE)(ρe:iM)(St:MH->Prop)(Q:DK):List D->List D->MH->Prop
 | [],ys,mh=>St mh/\Q (.ref mh.length) (mh++[.lst ys])
 | d::ds,ys,mh=>St mh/\g d ρe λa=>t a mh λb c=>if b=true then w a c λy e=>i9 g t w ρe St Q ds (ys++[y]) e else i9 g t w ρe St Q ds ys c
def tJ(own:List Str)(aS:List Nat)(wi:WI)(g:WG)(t:WT)(w:WE):WE:=λb mh Q=>wi b mh λds St a=>i9 g t w (jL own aS b) St Q ds [] a
def lY:WT:=λ_ mh Q=>Q true mh
section
variable {K:aPu}{μ μ1:List Addr}{mh:MH}{H H1:Hp}
theorem aZ.away{q:Addr}{o:HO}(P:aZ μ H μ1 H1)(a:q∉μ)(e:H q=some o):q∉μ1/\H1 q=some o:=by
 refine⟨λh=>?_,P.fr q o e a⟩;rcases P.nw q h with z | z
 ·exact a z
 ·rw[e]at z;cases z
theorem dG.emb{a:iM}{σ:L2.St}{own:List Str}{aS:List Nat}(E:dG K μ H a σ):dG K μ H (jL own aS a) (uB own aS σ):=by
 refine⟨by simp[jL,uB],λi d h=>?_⟩;unfold jL at h;unfold uB;by_cases hi:i<own.length
 ·rw[List.getElem?_append_left (by simpa using hi),List.getElem?_map]at h
  cases q:own[i]? with
  | none=>rw[q]at h;simp at h
  | some z=>rw[q]at h;simp at h
 ·rw[List.getElem?_append_right (by simpa using hi),List.getElem?_map]at h⊢;simp only[List.length_map]at h⊢
  cases q:aS[i-own.length]? with
  | none=>rw[q]at h;simp at h
  | some k=>
   rw[q]at h;simp only[Option.map_some,Option.some.injEq]at h⊢
   cases r:a[k]? with
   | none=>rw[r]at h;simp at h
   | some z=>
    rw[r]at h;simp at h;subst h;obtain⟨v,b,c⟩:=E.2 k d r;exact⟨v,by rw[b];rfl,c⟩
end
section
variable {X:Cx}
def VH(X:Cx)(es:List Expr)(w:WT):Prop:=PTs X es (tLT X.K w)
theorem XW:VH X [] lY:=λpins s σ H Q I q=>WQ pins s σ H Q I (by
 obtain⟨μ,b,mh,R,a,En,h,F⟩:=q
 exact F true mh h μ H aZ.refl a)
theorem XU{c:Expr}{t:WT}(h:LT X c t):VH X [c] t:=WN h
theorem L9{wi:WI}{g:TG}{gd:WG}{t:WT}{w:WE}{own:List Str}{aS:List Nat}(hr:tG X.K g gd){σ:L2.St}(h:tL X.K (tJ own aS wi gd t w) σ H Q):tLC own aS (tLI X.K wi) g (tLT X.K t) (tL X.K w) σ H Q:=by
 intro _ _;obtain⟨μ,O,mh,R,RR,En,h,F⟩:=h;refine⟨μ,O,mh,_,RR,En,h,λds St W q n J Y P1 P It d j=>?_⟩;have p:d∉n:=λz=>P.ne j z rfl
 refine⟨λi m v H' =>∃μ' mh' f,aZ n Y μ' H' /\Rep X.K μ' mh' H' /\d∉μ' /\H' d=some (.lst v)/\IsL X.K μ' H' f v/\f.length<=i/\i<=ds.length/\m=ds.length-i/\i9 gd t w (jL own aS O) St R (ds.drop i) f mh',
  ⟨ds.length,n,W,[],aZ.out aZ.refl j,P.new j,p,bY,by unfold IsL;rfl,aM7 _,aN9 _,by simp,by simpa using q⟩,?_⟩
 rintro i m v H' ⟨μ',mh',f,r,A,B,Z,l',hd',hi',rfl,c⟩;refine⟨Z,?_⟩;by_cases s:i<ds.length
 ·rw[List.drop_eq_getElem_cons s]at c;obtain⟨hst,c⟩:=c;obtain⟨hgo,hy⟩:=It.go μ' mh' H' (r.weak P) A hst i ds[i] (by simp[s]);refine .inr ⟨hgo,λu C=>∃l o k,aZ n Y l C/\Rep X.K l o C/\d∉l/\C d=some (.lst u)/\IsL X.K l C k u/\k.length<=i+1/\i9 gd t w (jL own aS O) St R (ds.drop (i+1)) k o,?_,λx H'' y=>?_⟩
  ·rintro u C ⟨l,o,k,P2,R2,ha2,e2,l2,hd2,c2⟩;exact⟨ds.length-(i+1),by lia,l,o,k,P2,R2,ha2,e2,l2,hd2,s,rfl,c2⟩
  ·obtain⟨S,T,Iy⟩:=hy x H'' y;obtain⟨hay,ey⟩:=S.away B Z;have ly:=IsL.mono A S f v l';have P0y:=P1.trans (r.trans S);refine hr x _ H'' _ μ' (jL own aS O) mh' _ _ T (En.mono RR P0y).emb Iy c λD q2 σ2 E=>?_;refine⟨μ',D,mh',_,T,E,q2,λb G U I H3 V R3=>?_⟩;obtain⟨L,e3⟩:=V.away hay ey;have l3:=IsL.mono T V f v ly;have M:=(r.trans S).trans V
   cases b with
   | false=>rw[if_neg Bool.false_ne_true]at U⊢;exact⟨I,G,f,M,R3,L,e3,l3,by lia,U⟩
   | true=>
    rw[if_pos rfl]at U⊢;refine⟨by have:=It.small;rw[bB l'];lia,I,D,G,_,R3,E.mono T V,U,λy mh4 q4 μ4 vy H4 P4 R4 I4=>?_⟩;obtain⟨N,e4⟩:=P4.away L e3;have hm:VB (H4 d):=by rw[e4];trivial
    have l4:=IsL.mono R3 P4 f v l3;exact⟨e4,μ4,mh4,f++[y],aZ.out (M.trans P4) j,R4.out hm N,N,bY,IsL.out hm _ _ (gE l4 (kZ I4)),by simp;lia,q4⟩
 ·have e:i=ds.length:=by lia
  subst e;rw[List.drop_of_length_le (Nat.le_refl _)]at c;refine .inl ⟨It.stop μ' mh' H' (r.weak P) A c.1,?_⟩
  have Pa:aZ n Y (μ' ++[d]) H' :=⟨by obtain⟨t,rfl⟩:=r.pre;exact⟨t++[d],by simp⟩,r.fr,λa ha=>by
   rcases aMi.mp ha with ha | ha
   ·exact r.nw a ha
   ·simp at ha;subst ha;exact .inr j⟩
  exact F _ _ c.2 (μ' ++[d]) _ H' (P1.trans Pa) (A.aIq B Z l') (by unfold Is;exact⟨d,by rw[<-A.len];simp,rfl⟩)
theorem aAa{tg iter a:Expr}{b:List Expr}{scope sc:Scope}{N:List Str}{pos:Pos}{wi:WI}{g:TG}{gd:WG}{t:WT}{w:WE}(own:List Str)(aS:List Nat)
  (hN:X.N=N) (hsc:X.env.scope=sc) (chk:hX N sc scope aS=true) (hcalm:X.calm=true) (hi:LI X tg iter wi) (ho:zL own.length g)
  (c:tG X.K g gd)
  (hg:∀cl C fp s₀ H₀,PG (bE X own aS scope cl C fp s₀ H₀) tg g) (ht:∀cl C fp s₀ H₀,VH (bE X own aS scope cl C fp s₀ H₀) b t)
  (he:∀cl C fp s₀ H₀,LE (bE X own aS scope cl C fp s₀ H₀) a w)
  (d:∀x,foldedSetIterable iter X.env x=pure x:=by intro _;rfl):LE X (.ListComp a [⟨tg,iter,b,0⟩] scope pos) (tJ own aS wi gd t w):=
 PE.imp (aH1 (wi:=tLI X.K wi) (tt:=tLT X.K t) (te:=tL X.K w) own aS hN hsc chk hcalm hi ho hg (λcl C fp s₀ H₀=>ht cl C fp s₀ H₀) (λcl C fp s₀ H₀=>he cl C fp s₀ H₀) d) λσ H Q h=>L9 c h
theorem SR(i:Nat){x:Str}{a e:Pos}{tg iter b:Expr}{c:List Expr}{scope sc:Scope}{N:List Str}{pos:Pos}{wi:WI}{g:TG}{gd:WG}{t:WT}{w:WE}(nd:X.N.Nodup)(own:List Str)(aS:List Nat)
  (hN:X.N=N) (hsc:X.env.scope=sc) (chk:hX N sc scope aS=true) (hcalm:X.calm=true) (hi:LI X tg iter wi) (ho:zL own.length g)
  (f:tG X.K g gd)
  (hg:∀cl C fp s₀ H₀,PG (bE X own aS scope cl C fp s₀ H₀) tg g) (ht:∀cl C fp s₀ H₀,VH (bE X own aS scope cl C fp s₀ H₀) c t)
  (he:∀cl C fp s₀ H₀,LE (bE X own aS scope cl C fp s₀ H₀) b w)
  (d:X.N[i]? =some x:=by rfl) (j:Loc X.env.scope x:=by first | exact Or.inl rfl | exact Or.inr rfl) (k:swapsWith (.ListComp b [⟨tg,iter,c,0⟩] scope pos) (some (.Name x a)) e.line X.env=pure true:=by rfl) (l:X.fn x=true\/X.env.scope.names.lookup x=some .local:=by first | exact .inl rfl | exact .inr rfl | assumption)
  (m:∀x,foldedSetIterable iter X.env x=pure x:=by intro _;rfl):LS X (.Assign [.Name x a] (.ListComp b [⟨tg,iter,c,0⟩] scope pos) e) (bH (tJ own aS wi gd t w) (gN i)):=
 PS.imp (RE (wi:=tLI X.K wi) (tt:=tLT X.K t) (te:=tL X.K w) own aS hN hsc chk hcalm hi ho hg (λcl C fp s₀ H₀=>ht cl C fp s₀ H₀) (λcl C fp s₀ H₀=>he cl C fp s₀ H₀) nd d j k l m) λD σ H h=>L9 f (KO (DW i) h)
end
mutual
def cI(n:Nat):D->Bool
 | .ref k=>decide (k<n)
 | .tup ds=>aX n ds
 | .fl ds=>aX n ds
 | _=>true
def aX(n:Nat):List D->Bool
 | []=>true
 | d::ds=>cI n d && aX n ds
end
def IZ(n:Nat):MO->Bool
 | .lst ds=>aX n ds
 | .dic _ kvs=>aX n (kvs.map (·.2))
 | .fdc _ kvs _=>aX n (kvs.map (·.2))
 | .oth ds _=>aX n ds
def iT(mh:MH):Prop:=∀o∈mh,IZ mh.length o=true
section
variable {K:aPu}{μ:List Addr}{mh:MH}{H:Hp}
mutual
theorem WB:∀(d:D) (v:V),Is K μ H d v->cI μ.length d=true
 | .bU,v,h=>rfl
 | .bl _,v,h=>rfl
 | .int _,v,h=>rfl
 | .str _,v,h=>rfl
 | .ty _,v,h=>rfl
 | .tup ds,v,h=>by obtain⟨a,vs,_,_,l⟩:=eC h;simpa[cI] using iH ds vs l
 | .fl ds,v,h=>by obtain⟨a,vs,_,_,l⟩:=p8 h;simpa[cI] using iH ds vs l
 | .ref n,v,h=>by obtain⟨a,e,_⟩:=oQ h;simpa[cI] using (aM6.mp e).1
theorem iH:∀(ds:List D) (vs:List V),IsL K μ H ds vs->aX μ.length ds=true
 | [],vs,h=>rfl
 | d::ds,vs,h=>by
  unfold IsL at h;obtain⟨v,r,_,i,l⟩:=h;simp only[aX,WB d v i,iH ds r l,Bool.and_self]
end
theorem Rep.mok(R:Rep K μ mh H):iT mh:=λo ho=>by
 obtain⟨n,a⟩:=aMr.mp ho;have b:n<μ.length:=by rw[R.len];exact(aM6.mp a).1
 have h:=R.obj n μ[n] o (by simp[b]) a;rw[<-R.len]
 cases o with
 | lst ds=>obtain⟨vs,_,l⟩:=h;exact iH ds vs l
 | dic t kvs=>obtain⟨vs,_,l⟩:=h;exact iH _ vs l
 | fdc t kvs ob=>obtain⟨vs,_,_,_,l⟩:=h;exact iH _ vs l
 | oth ds f=>obtain⟨vs,_,l⟩:=h;exact iH _ vs l
mutual
theorem Is.cut{n:Nat}:∀(d:D) (v:V),cI n d=true->Is K μ H d v->Is K (μ.take n) H d v
 | .bU,v,_,h=>by unfold Is at*;exact h
 | .bl _,v,_,h=>by unfold Is at*;exact h
 | .int _,v,_,h=>by unfold Is at*;exact h
 | .str _,v,_,h=>by unfold Is at*;exact h
 | .ty _,v,_,h=>by unfold Is at*;exact h
 | .tup ds,v,b,h=>by unfold Is at*;obtain⟨a,vs,e,s,l⟩:=h;exact⟨a,vs,e,s,IsL.cut ds vs (by simpa[cI] using b) l⟩
 | .fl ds,v,b,h=>by unfold Is at*;obtain⟨a,vs,e,s,l⟩:=h;exact⟨a,vs,e,s,IsL.cut ds vs (by simpa[cI] using b) l⟩
 | .ref k,v,b,h=>by unfold Is at*;obtain⟨a,e,q⟩:=h;exact⟨a,by rw[List.getElem?_take_of_lt (by simpa[cI] using b)];exact e,q⟩
theorem IsL.cut{n:Nat}:∀(ds:List D) (vs:List V),aX n ds=true->IsL K μ H ds vs->IsL K (μ.take n) H ds vs
 | [],vs,_,h=>by unfold IsL at*;exact h
 | d::ds,vs,b,h=>by
  unfold IsL at*;simp only[aX,Bool.and_eq_true]at b;obtain⟨v,r,e,i,l⟩:=h;exact⟨v,r,e,Is.cut d v b.1 i,IsL.cut ds r b.2 l⟩
end
theorem Rep.cut{c d:MH}(R:Rep K μ (c++d) H)(ok:iT c):Rep K (μ.take c.length) c H:=by
 have k:c.length<=μ.length:=by rw[R.len];simp
 refine⟨by simp[k],List.Nodup.sublist (aPl _ _) R.nd,λn a o i g=>?_⟩;have j:n<c.length:=(aM6.mp g).1;rw[List.getElem?_take_of_lt j]at i;have h:=R.obj n a o i (by rw[List.getElem?_append_left j];exact g);have b:=ok o (aMc g)
 cases o with
 | lst ds=>obtain⟨vs,e,l⟩:=h;exact⟨vs,e,IsL.cut ds vs b l⟩
 | dic t kvs=>obtain⟨vs,e,l⟩:=h;exact⟨vs,e,IsL.cut _ vs b l⟩
 | fdc t kvs ob=>obtain⟨vs,u,e,m,l⟩:=h;exact⟨vs,u,e,m,IsL.cut _ vs b l⟩
 | oth ds f=>obtain⟨vs,e,l⟩:=h;exact⟨vs,e,IsL.cut ds vs b l⟩
end
def Out(n:Nat)(d:D)(c:MH)(R:DK):Prop:=R d c\/(∃a b,c=a++b/\n<=a.length/\iT a/\cI a.length d=true/\R d a)\/
 ∃a b j o,c=a++b/\n<=a.length/\iT a/\d= .ref j/\a.length<=j/\c[j]? =some o/\IZ a.length o=true/\R (.ref a.length) (a++[o])
variable{μ:List Addr}{mh:MH}
theorem XB(I:Rep K μ mh H)(F:Fin K μ H R Q):Fin K μ H (λd x=>Out mh.length d x R) Q:=by
 intro d x h i v y p A D
 have s:∀{g:MH},mh.length<=g.length->∃t,i.take g.length=μ++t:=λ{g} m=>by
  obtain⟨t,rfl⟩:=p.pre;rw[List.take_append,List.take_of_length_le (by rw[I.len];exact m)];exact⟨_,rfl⟩
 rcases h with h | ⟨g,B,rfl,m,ok,b,h⟩ | ⟨g,B,j,o,rfl,m,ok,rfl,L,ho,b,h⟩
 ·exact F d x h i v y p A D
 ·exact F d g h (i.take g.length) v y ⟨s m,p.fr,λa ha=>p.nw a (aNw ha)⟩ (A.cut ok) (Is.cut d v b D)
 ·have C:=A.cut ok;obtain⟨a,ha,rfl⟩:=oQ D;have w:=A.obj j a o ha ho;have q:(i.take g.length).length=g.length:=C.len
  have r:a∉i.take g.length:=λz=>by
   obtain⟨k,E⟩:=aMr.mp z;have G:k<g.length:=by have:=(aM6.mp E).1;lia
   rw[List.getElem?_take_of_lt G]at E;have:=R7 A.nd E ha
   lia
  cases o with
  | lst ds=>
   obtain⟨vs,e,l⟩:=w;refine F _ _ h (i.take g.length++[a]) _ y ⟨?_,p.fr,λc hc=>?_⟩ (C.aIq r e (IsL.cut ds vs b l)) (by unfold Is;exact⟨a,by rw[<-q];simp,rfl⟩)
   ·obtain⟨t,ht⟩:=s m;exact⟨t++[a],by rw[ht];simp⟩
   ·rcases aMi.mp hc with hc | hc
    ·exact p.nw c (aNw hc)
    ·simp at hc;subst hc;exact p.nw c (aMc ha)
  | dic t kvs=>
   obtain⟨vs,e,l⟩:=w;refine F _ _ h (i.take g.length++[a]) _ y ⟨?_,p.fr,λc hc=>?_⟩ (C.U3 r ⟨vs,e,IsL.pre (λn a h=>by rw[List.getElem?_append_left (List.getElem?_eq_some_iff.mp h).1];exact h) _ vs (IsL.cut _ vs b l)⟩) (by unfold Is;exact⟨a,by rw[<-q];simp,rfl⟩)
   ·obtain⟨t,ht⟩:=s m;exact⟨t++[a],by rw[ht];simp⟩
   ·rcases aMi.mp hc with hc | hc
    ·exact p.nw c (aNw hc)
    ·simp at hc;subst hc;exact p.nw c (aMc ha)
  | oth ds f=>
   obtain⟨vs,e,l⟩:=w;refine F _ _ h (i.take g.length++[a]) _ y ⟨?_,p.fr,λc hc=>?_⟩ (C.U3 r ⟨vs,e,IsL.pre (λn a h=>by rw[List.getElem?_append_left (List.getElem?_eq_some_iff.mp h).1];exact h) _ vs (IsL.cut _ vs b l)⟩) (by unfold Is;exact⟨a,by rw[<-q];simp,rfl⟩)
   ·obtain⟨t,ht⟩:=s m;exact⟨t++[a],by rw[ht];simp⟩
   ·rcases aMi.mp hc with hc | hc
    ·exact p.nw c (aNw hc)
    ·simp at hc;subst hc;exact p.nw c (aMc ha)
  | fdc t kvs ob=>
   obtain⟨vs,u,e,J,l⟩:=w;refine F _ _ h (i.take g.length++[a]) _ y ⟨?_,p.fr,λc hc=>?_⟩ (C.U3 r ⟨vs,u,e,J,IsL.pre (λn a h=>by rw[List.getElem?_append_left (List.getElem?_eq_some_iff.mp h).1];exact h) _ vs (IsL.cut _ vs b l)⟩) (by unfold Is;exact⟨a,by rw[<-q];simp,rfl⟩)
   ·obtain⟨t,ht⟩:=s m;exact⟨t++[a],by rw[ht];simp⟩
   ·rcases aMi.mp hc with hc | hc
    ·exact p.nw c (aNw hc)
    ·simp at hc;subst hc;exact p.nw c (aMc ha)
def aJ(N:List Str)(ds:List D):iM:=ds.map some++List.replicate (N.length-ds.length) none
variable{N:List Str}{ds:List D}
theorem QP{vs:List V}(l:IsL K μ H ds vs):dG K μ H (aJ N ds) (L2.start N vs):=by
 have a:=bB l;refine⟨by simp[aJ,L2.start,a],λi d h=>?_⟩;unfold aJ at h;unfold L2.start;by_cases hi:i<ds.length
 ·rw[List.getElem?_append_left (by simpa using hi),List.getElem?_map]at h;obtain⟨d',b,c⟩:=aN1.mp h;cases c;obtain⟨v,e,f⟩:=fD l b;exact⟨v,by rw[List.getElem?_append_left (by simpa[a] using hi),List.getElem?_map,e];rfl,f⟩
 ·rw[List.getElem?_append_right (by simpa using hi)]at h;obtain⟨_,h⟩:=aM6.mp h;simp at h
section
variable {P:Program}{w:World}{K:aPu}{mg:aPx}{base:Heap}
theorem aIg{x qual:Str}{st:Stmt}{f:Addr}{fd:FuncData}{N ps:List Str}{k:Nat}{s:OA}{wB:WS}(F:Fun K x qual st f fd)(S:aV N ps (aG st))(len:∀ds mh R,s ds mh R->ds.length=ps.length)
  (g:∀(cdv:Value) (A:Around) (outer:List Env) (s:Shared) (H:Hp) (E:XK),iS k (A.deeper (envOfC qual (aG st) s.heap.objs.size f cdv))->
   jQ (yZ HX P w K mg base N qual (aG st) f cdv A outer s H E).XJ (cZ st) wB)
  (i:∀ds mh R,iT mh->aX mh.length ds=true->s ds mh R->wB {nx:=λ_ a=>Out mh.length .bU a R,rt:=λd a=>Out mh.length d a R} (aJ N ds) mh):mG P w K mg base HX (k+1) f fd ps (VE K s):=by
 refine F.ok S (λvs H Q E h=>?_) (λcdv A outer j H vs Q E l h=>?_)
 ·obtain⟨μ,mh,ds,R,b,c,h,_⟩:=h;rw[bB c];exact len ds mh R h
 ·obtain⟨μ,mh,ds,R,b,c,h,m⟩:=h;refine⟨_,g cdv A outer j H E l,μ,aJ N ds,mh,_,b,QP c,i ds mh R b.mok (by rw[<-b.len];exact iH ds vs c) h,?_⟩;have e:=XB b m;exact⟨λn mh' q μ' o H' p r t =>e .bU mh' q μ' .bU H' p r .bU,e,λ_ _ q=>False.elim q,λ_ _ q=>False.elim q⟩
end
def Fn(P:Program)(w:World)(K:aPu)(mg:aPx)(base:Heap)(k:Nat)(x:Str)(ps:List Str)(s:OA):Prop:=
 ∃f fd,mG P w K mg base HX k f fd ps (VE K s)/\mg x=some (.ref f)/\PySem.W.keepIn K (.ref f)=true/\Binds K fd ps []
variable{P:Program}{w:World}{mg:aPx}{x:Str}{ps:List Str}
theorem Fn.mono{base:Heap}{j k:Nat}{s:OA}(h:Fn P w K mg base j x ps s)(e:j<=k):Fn P w K mg base k x ps s:=
 let ⟨f,fd,a,b,c,d⟩:=h;⟨f,fd,a.mono e,b,c,d⟩
theorem Fn.imp{base:Heap}{k:Nat}{s g :OA}(h:Fn P w K mg base k x ps s)(hi:∀ds mh R,g ds mh R->s ds mh R):Fn P w K mg base k x ps g :=
 let ⟨f,fd,a,b,c,d⟩:=h;⟨f,fd,a.imp λvs H Q E e=>by obtain⟨μ,mh,ds,R,i,j,l,m⟩:=e;exact⟨μ,mh,ds,R,i,j,hi ds mh R l,m⟩,b,c,d⟩
def tF(K:aPu)(mg:aPx)(x:Str)(d:D):Prop:=∃v u,mg x=some u/\RelV v u/\∀μ H,Is K μ H d v
section
variable {X:Cx}{e:Expr}{es:List Expr}{wr:WA}{pos p:Pos}{x:Str}
theorem SY{k:Nat}{s:OA}(F:Fn X.prog X.w X.K X.mg X.base k x ps s)(i:iS k X.A)(ha:LA X (e::es) wr)(hg:Gl X x:=by rfl)(g:(x==("__debug__":Str))=false:=by decide)
  (he:starEach (e::es) X.env=(false,eval e X.env)::starEach es X.env:=by rfl) (h:(backTo pos (starEach es X.env)).any (·.1)=false:=by rfl):LE X (.Call (.Name x p) (e::es) [] pos) (aE s wr):=by
 obtain⟨f,fd,a,b,c,d⟩:=F;exact YB a i hg b c d ha g he h
theorem aHu{d:D}(h:tF X.K X.mg x d)(hg:Gl X x:=by rfl)(hd:(x==("__debug__":Str))=false:=by decide):LE X (.Name x pos) (wC d):=by
 obtain⟨v,u,a,b,c⟩:=h;exact X7 hg a b c hd
theorem L7{T:String}(hm:X.mg x=none)(a:bootBuiltins x=some (.type T))(hg:Gl X x:=by rfl)(b:x≠ "__name__":=by decide)(hd:(x==("__debug__":Str))=false:=by decide):LE X (.Name x pos) (wC (.ty T)):=X5 hg hm a b hd
theorem aHx{id:String}{f:OA}(c:cG X (.builtin id) (eB X.K f))(hm:X.mg x=none)(d:bootBuiltins x=some (.builtin id))(ha:LA X (e::es) wr)(hg:Gl X x:=by rfl)(g:x≠ "__name__":=by decide)(a:(x==("__debug__":Str))=false:=by decide)
  (he:starEach (e::es) X.env=(false,eval e X.env)::starEach es X.env:=by rfl) (b:(backTo pos (starEach es X.env)).any (·.1)=false:=by rfl):LE X (.Call (.Name x p) (e::es) [] pos) (aE f wr):=S0 c hg hm d ha g a he b
theorem aHv{T:String}{f:OA}(c:cG X (.type T) (eB X.K f))(hm:X.mg x=none)(d:bootBuiltins x=some (.type T))(ha:LA X (e::es) wr)(hg:Gl X x:=by rfl)(g:x≠ "__name__":=by decide)(a:(x==("__debug__":Str))=false:=by decide)
  (he:starEach (e::es) X.env=(false,eval e X.env)::starEach es X.env:=by rfl) (b:(backTo pos (starEach es X.env)).any (·.1)=false:=by rfl):LE X (.Call (.Name x p) (e::es) [] pos) (aE f wr):=OL c hg hm d ha g a he b
theorem VX(i:Nat)(hN:X.N.Nodup)(hi:X.N[i]? =some x:=by rfl)(a:Loc X.env.scope x:=by first | exact Or.inl rfl | exact Or.inr rfl)(b:X.fn x=true\/X.env.scope.names.lookup x=some .local:=by first | exact .inl rfl | exact .inr rfl):PG X (.Name x pos) (u7 i):=W4 hN hi a b
theorem aHe{op:CmpOp}(b:Expr)(h:op≠ .In:=by decide)(a:op≠ .NotIn:=by decide):behindInMarks op b=false:=RX b h a
end
structure Bl(mg:aPx):Prop where
 len:mg "len"=none
 range:mg "range"=none
 zip:mg "zip"=none
 all:mg "all"=none
 any:mg "any"=none
 abs:mg "abs"=none
 min:mg "min"=none
 max:mg "max"=none
 isinstance:mg "isinstance"=none
 sorted:mg "sorted"=none
 int:mg "int"=none
 str:mg "str"=none
 bool:mg "bool"=none
 list:mg "list"=none
 tuple:mg "tuple"=none
 set:mg "set"=none
 dict:mg "dict"=none
 sum:mg "sum"=none
 enumerate:mg "enumerate"=none
theorem UZ:bootBuiltins "int"=some (.type "int"):=by decide+kernel
theorem aF1:bootBuiltins "str"=some (.type "str"):=by decide+kernel
theorem ZM:bootBuiltins "bool"=some (.type "bool"):=by decide+kernel
theorem ZL:bootBuiltins "list"=some (.type "list"):=by decide+kernel
theorem HH:bootBuiltins "tuple"=some (.type "tuple"):=by decide+kernel
theorem aF2:bootBuiltins "set"=some (.type "set"):=by decide+kernel
theorem KD:bootBuiltins "len"=some (.builtin "len"):=by decide+kernel
theorem aF3:bootBuiltins "all"=some (.builtin "all"):=by decide+kernel
theorem aF4:bootBuiltins "abs"=some (.builtin "abs"):=by decide+kernel
theorem UX:bootBuiltins "min"=some (.builtin "min"):=by decide+kernel
theorem UY:bootBuiltins "max"=some (.builtin "max"):=by decide+kernel
theorem AG:bootBuiltins "isinstance"=some (.builtin "isinstance"):=by decide+kernel
theorem pF:bootBuiltins "sorted"=some (.builtin "sorted"):=by decide+kernel
def oLt:O2:=λx y mh Q=>match x with
 | .int i=>match y with | .int j=>Q (.bl (decide (i<j))) mh | _=>False
 | .str a=>match y with | .str b=>Q (.bl (decide (a.cps.toList<b.cps.toList))) mh | _=>False
 | _=>False
def JA:O2:=λx y mh Q=>match x with
 | .int i=>match y with | .int j=>Q (.bl (decide (j<i))) mh | _=>False
 | _=>False
section
variable {X:Cx}
theorem aHb(f:X.A.units+64<cLine):g5 X (compareOp .Lt) (bW X.K oLt):=by
 intro pins s σ H x y v u Q I a b q;obtain⟨μ,mh,dx,c,R,d,ix,e,q,F⟩:=q
 cases dx with
 | int i=>cases c with
  | int j=>cases b9 ix;cases b9 e;exact aH6 pins s σ H _ _ v u Q I a b ⟨i,j,rfl,rfl,F.here d q .bl⟩
  | _=>exact False.elim q
 | str i=>cases c with
  | str j=>cases lI ix;cases lI e;exact N6 pins s σ H _ _ v u Q I a b ⟨i,j,rfl,rfl,F.here d q .bl⟩
  | _=>exact False.elim q
 | _=>exact False.elim q
theorem aHc(f:X.A.units+64<cLine):g5 X (compareOp .Gt) (bW X.K JA):=by
 intro pins s σ H x y v u Q I a b q;obtain⟨μ,mh,dx,c,R,d,ix,e,q,F⟩:=q
 cases dx with
 | int i=>cases c with
  | int j=>cases b9 ix;cases b9 e;exact aH7 pins s σ H _ _ v u Q I a b ⟨i,j,rfl,rfl,F.here d q .bl⟩
  | _=>exact False.elim q
 | _=>exact False.elim q
end
variable{α:Type}
def got(o:Option α)(k:α->Prop):Prop:=match o with | some a=>k a | none=>False
@[simp] theorem aH (a:α)(k:α->Prop):got (some a) k=k a:=rfl
@[simp] theorem aIb (k:α->Prop):got none k=False:=rfl
theorem gF(o:Option α)(k:α->Prop):(∃a,o=some a/\k a)↔got o k:=by
 cases o <;> simp[got]
def zF:D->Option Bool | .bl b=>some b | _=>none
def asI:D->Option Int | .int i=>some i | _=>none
@[simp] theorem aLs (b:Bool):zF (.bl b)=some b:=rfl
@[simp] theorem aJi (i:Int):asI (.int i)=some i:=rfl
theorem exB(x:D)(P:Bool->Prop):(∃k,x= .bl k/\P k)=got (zF x) P:=by
 apply propext
 cases x with
 | bl b=>exact⟨λa=>by obtain⟨k,e,h⟩:=a;cases e;exact h,λh=>⟨b,rfl,h⟩⟩
 | _=>exact⟨λc=>by obtain⟨k,e,h⟩:=c;exact(by cases e),λh=>False.elim h⟩
theorem exI(x:D)(P:Int->Prop):(∃k,x= .int k/\P k)=got (asI x) P:=by
 apply propext
 cases x with
 | int b=>exact⟨λa=>by obtain⟨k,e,h⟩:=a;cases e;exact h,λh=>⟨b,rfl,h⟩⟩
 | _=>exact⟨λc=>by obtain⟨k,e,h⟩:=c;exact(by cases e),λh=>False.elim h⟩
section
variable {mh:MH}{Q:DK}{ρ:iM}
@[simp] theorem aGd (i:Nat):aB i ρ mh Q↔got ((ρ[i]?).join) λd=>Q d mh:=by
 unfold aB
 cases h:ρ[i]? with
 | none=>simp
 | some o=>cases o <;> simp
@[simp] theorem s_c (d:D):wC d ρ mh Q=(Q d mh):=rfl
@[simp] theorem aKc (f:O2)(a b:WE):aU f a b ρ mh Q=(a ρ mh λx c=>b ρ c λy d=>f x y d Q):=rfl
@[simp] theorem s_un (f:O1)(a:WE):VD f a ρ mh Q=(a ρ mh λx b=>f x b Q):=rfl
@[simp] theorem aGf (R:List D->MH->Prop):aD ρ mh R=(R [] mh):=rfl
@[simp] theorem aB8 (a:WE)(r:WA)(R:List D->MH->Prop):aA a r ρ mh R=(a ρ mh λx b=>r ρ b λxs c=>R (x::xs) c):=rfl
@[simp] theorem s_call (f:OA)(a:WA):aE f a ρ mh Q=(a ρ mh λds b=>f ds b Q):=rfl
@[simp] theorem s_tup (a:WA):dB a ρ mh Q=(a ρ mh λds b=>ds.length<=sizeLine/\Q (.tup ds) b):=rfl
@[simp] theorem s_lst (a:WA):fO a ρ mh Q=(a ρ mh λds b=>ds.length<=sizeLine/\Q (.ref b.length) (b++[.lst ds])):=rfl
@[simp] theorem aKt (a b:WE):uQ a b ρ mh Q↔a ρ mh λx d=>got (zF x) λc=>if c=true then b ρ d Q else Q (.bl false) d:=by unfold uQ;simp only[exB]
@[simp] theorem aKd (a:WE):K3 a ρ mh Q↔a ρ mh λx b=>got (zF x) λc=>Q (.bl !c) b:=by unfold K3;simp only[exB]
@[simp] theorem s_if (t:WT)(a b:WE):wIf t a b ρ mh Q=(t ρ mh λc d=>if c=true then a ρ d Q else b ρ d Q):=rfl
@[simp] theorem s_sl (f:OS)(a:WE)(l h:WO):wSl f a l h ρ mh Q=(a ρ mh λx b=>l ρ b λlo c=>h ρ c λhi d=>f x lo hi d Q):=rfl
@[simp] theorem s_no (R:Option Int->MH->Prop):wNo ρ mh R=(R none mh):=rfl
@[simp] theorem aKb (a:WE)(R:Option Int->MH->Prop):AR a ρ mh R↔a ρ mh λx b=>got (asI x) λi=>R (some i) b:=by unfold AR;simp only[exI]
@[simp] theorem s_mt (T:String)(f:OM)(a:WE)(r:WA):qF T f a r ρ mh Q=(a ρ mh λx b=>lH b T x/\r ρ b λds c=>f x ds c Q):=rfl
@[simp] theorem s_lc (own:List Str)(aS:List Nat)(i:WI)(g:WG)(t:WT)(a:WE):tJ own aS i g t a ρ mh Q=(i ρ mh λds St b=>i9 g t a (jL own aS ρ) St Q ds [] b):=rfl
variable {R:Bool->MH->Prop}
@[simp] theorem s_tst (a:WE):cU a ρ mh R↔a ρ mh λx b=>got (zF x) λk=>R k b:=by unfold cU;simp only[exB]
@[simp] theorem s_tru (a:WE):mP a ρ mh R↔a ρ mh λx b=>got (iA b x) λk=>R k b:=by
 unfold mP
 have:(λx b=>∃k,iA b x=some k/\R k b)=λx b=>got (iA b x) λk=>R k b:=by
  funext x m;exact propext (gF _ _)
 rw[this]
@[simp] theorem aKu (t u:WT):K7 t u ρ mh R=(t ρ mh λc a=>if c=true then u ρ a R else R false a):=rfl
@[simp] theorem s_orT (t u:WT):wV t u ρ mh R=(t ρ mh λc a=>if c=true then R true a else u ρ a R):=rfl
@[simp] theorem aKe (t:WT):i6 t ρ mh R=(t ρ mh λc a=>R (!c) a):=rfl
@[simp] theorem QT:lY ρ mh R=(R true mh):=rfl
variable {E:iL}
@[simp] theorem aKg:cB E ρ mh=(E.nx ρ mh):=rfl
@[simp] theorem s_seq (t u:WS):aT t u E ρ mh=(t {E with nx:=u E} ρ mh):=rfl
@[simp] theorem s_brk:aAn E ρ mh=(E.bk ρ mh):=rfl
@[simp] theorem aKp (a:WE):eP a E ρ mh=(a ρ mh λ_ b=>E.nx ρ b):=rfl
@[simp] theorem s_ret (a:WE):bX a E ρ mh=(a ρ mh E.rt):=rfl
@[simp] theorem s_ifS (t:WT)(a b:WS):eS t a b E ρ mh=(t ρ mh λc d=>if c=true then a E ρ d else b E ρ d):=rfl
@[simp] theorem aGl (a:WE)(g:WG):bH a g E ρ mh=(a ρ mh λd b=>g d ρ λc =>E.nx c b):=rfl
@[simp] theorem aK7 (a o i:WE):K0 a o i E ρ mh=(a ρ mh λd b=>o ρ b λob c=>i ρ c λix e=>V3 ob ix d e λf=>E.nx ρ f):=rfl
@[simp] theorem s_for (i:WI)(g:WG)(b:WS):lD i g b E ρ mh=(i ρ mh λds St a=>kY g b E St ds ρ a):=rfl
@[simp] theorem aKo (i:Nat)(d:D)(P:iM->Prop):gN i d ρ P=(P (ρ.set i (some d))):=rfl
@[simp] theorem aJ5 (P:iM->Prop):eE [] ρ P↔P ρ:=by simp[eE]
@[simp] theorem aGi (t:WG)(u:P8)(d:D)(r:List D)(P:iM->Prop):aQ t u (d::r) ρ P↔t d ρ λc =>u r c P:=⟨λf=>by obtain⟨a,b,e,h⟩:=f;cases e;exact h,λh=>⟨d,r,rfl,h⟩⟩
@[simp] theorem s_gT (n:Nat)(u:P8)(ds:List D)(P:iM->Prop):gT n u (.tup ds) ρ P↔ds.length=n/\u ds ρ P:=by
 unfold gT;exact⟨λa=>by obtain⟨es,e,h⟩:=a;cases e;exact h,λh=>⟨ds,rfl,h⟩⟩
@[simp] theorem aK8 (a:WE)(P:List D->(MH->Prop)->MH->Prop):eU a ρ mh P↔a ρ mh λx b=>got (bF b x) λds=>P ds (λmh' =>bF mh' x=some ds) b:=by
 unfold eU
 have:(λx b=>∃ds,bF b x=some ds/\P ds (λmh' =>bF mh' x=some ds) b)=λx b=>got (bF b x) λds=>P ds (λmh' =>bF mh' x=some ds) b:=by
  funext x m;exact propext (gF _ _)
 rw[this]
@[simp] theorem aK9 (a:WA)(P:List D->(MH->Prop)->MH->Prop):j3 a ρ mh P=(a ρ mh λds b=>∃j,ds=[.int j]/\ -(2^62)<=j/\j<=sizeLine/\P (dU 0 j.toNat) (λ_=>True) b):=rfl
@[simp] theorem aK6 (a:WA)(P:List D->(MH->Prop)->MH->Prop):wR a ρ mh P↔a ρ mh λxs b=>match xs with
  | [x,y]=>got (bF b x) λds=>got (bF b y) λes=>ds.length<=sizeLine/\P (nF ds es) (λmh' =>bF mh' x=some ds/\bF mh' y=some es) b
  | _=>False:=by
 unfold wR
 have:(λxs b=>∃x y ds es,xs=[x,y]/\bF b x=some ds/\bF b y=some es/\ds.length<=sizeLine/\P (nF ds es) (λmh' =>bF mh' x=some ds/\bF mh' y=some es) b)=λxs b=>match xs with
  | [x,y]=>got (bF b x) λds=>got (bF b y) λes=>ds.length<=sizeLine/\P (nF ds es) (λmh' =>bF mh' x=some ds/\bF mh' y=some es) b
  | _=>False:=by
  funext xs m;apply propext
  match xs with
  | []=>simp
  | [_]=>simp
  | [x,y]=>
   simp only[<-gF];constructor
   ·rintro⟨f,g,ds,es,e,c,d,h⟩;cases e;exact⟨ds,c,es,d,h⟩
   ·rintro⟨ds,c,es,d,h⟩;exact⟨x,y,ds,es,rfl,c,d,h⟩
  | _::_::_::_=>simp
 rw[this]
@[simp high] theorem aJf (b:Int)(P:Int->Prop):(∃c,[D.int b]=[D.int c]/\P c)↔P b:=⟨λa=>by obtain⟨c,e,h⟩:=a;cases e;exact h,λh=>⟨b,rfl,h⟩⟩
@[simp high] theorem aJe (a b:Int)(P:Int->Int->Prop):(∃c d,[D.int a,D.int b]=[D.int c,D.int d]/\P c d)↔P a b:=⟨λf=>by obtain⟨c,d,e,h⟩:=f;cases e;exact h,λh=>⟨a,b,rfl,h⟩⟩
@[simp] theorem QX (C:Int->Int->Prop)(g:Int->Int->D)(i j:Int):F1 C g (.int i) (.int j) mh Q↔C i j/\Q (g i j) mh:=by
 unfold F1;exact⟨λc=>by obtain⟨a,b,e,f,h⟩:=c;cases e;cases f;exact h,λh=>⟨i,j,rfl,rfl,h⟩⟩
@[simp] theorem s_neg (i:Int):zT (.int i) mh Q↔Q (.int (-i)) mh:=by
 unfold zT;exact⟨λb=>by obtain⟨a,e,h⟩:=b;cases e;exact h,λh=>⟨i,rfl,h⟩⟩
@[simp] theorem xF (i j:Int):iR (.int i) (.int j) mh Q=(Q (.int (i+j)) mh):=rfl
@[simp] theorem aKw (i j:Str):iR (.str i) (.str j) mh Q=(i.length+j.length<=sizeLine/\Q (.str (i++j)) mh):=rfl
@[simp] theorem aKv (i j:List D):iR (.tup i) (.tup j) mh Q=(i.length+j.length<=sizeLine/\Q (.tup (i++j)) mh):=rfl
theorem IM{n m:Nat}{i j:List D}(d:mh[n]? =some (.lst i))(g:mh[m]? =some (.lst j)):iR (.ref n) (.ref m) mh Q↔(i++j).length<=sizeLine/\Q (.ref mh.length) (mh++[.lst (i++j)]):=by
 show (∃i j,mh[n]? =some (.lst i)/\mh[m]? =some (.lst j)/\JF (i++j) mh Q)↔_;rw[d,g];exact⟨λc=>by obtain⟨a,b,e,f,h⟩:=c;cases e;cases f;exact h,λh=>⟨i,j,rfl,rfl,h⟩⟩
@[simp] theorem oF (ds:List D)(i:Int):bO (.tup ds) (.int i) mh Q↔got (fI ds i) λd=>Q d mh:=by
 unfold bO;rw[<-gF];exact⟨λb=>by obtain⟨a,e,es,d,f,g,h⟩:=b;cases e;cases f;exact⟨d,g,h⟩,λc=>by obtain⟨d,f,h⟩:=c;exact⟨i,rfl,ds,d,rfl,f,h⟩⟩
@[simp] theorem aGh (ds:List D)(i:Int):bO (.fl ds) (.int i) mh Q↔got (fI ds i) λd=>Q d mh:=by
 unfold bO;rw[<-gF];exact⟨λb=>by obtain⟨a,e,es,d,f,g,h⟩:=b;cases e;cases f;exact⟨d,g,h⟩,λc=>by obtain⟨d,f,h⟩:=c;exact⟨i,rfl,ds,d,rfl,f,h⟩⟩
variable{n:Nat}
theorem cE(h:mh[n]? =some (.lst ds))(i:Int):bO (.ref n) (.int i) mh Q↔got (fI ds i) λd=>Q d mh:=by
 unfold bO;rw[<-gF];have e:bF mh (.ref n)=some ds:=by simp[bF,h]
 exact⟨λb=>by obtain⟨a,j,es,d,f,k,g⟩:=b;cases j;rw[e]at f;cases f;exact⟨d,k,g⟩,λc=>by obtain⟨d,f,g⟩:=c;exact⟨i,rfl,ds,d,e,f,g⟩⟩
@[simp] theorem s_ltI (i j:Int):oLt (.int i) (.int j) mh Q=(Q (.bl (decide (i<j))) mh):=rfl
@[simp] theorem s_gtI (i j:Int):JA (.int i) (.int j) mh Q=(Q (.bl (decide (j<i))) mh):=rfl
@[simp] theorem s_eqI (i j:Int):oEq (.int i) (.int j) mh Q↔Q (.bl (i==j)) mh:=by simp[oEq,jM,bare,deep,dD]
@[simp] theorem s_neI (i j:Int):oNe (.int i) (.int j) mh Q↔Q (.bl (!(i==j))) mh:=by simp[oNe,jM,bare,deep,dD]
@[simp] theorem s_eqB (i j:Bool):oEq (.bl i) (.bl j) mh Q↔Q (.bl (i==j)) mh:=by simp[oEq,jM,bare,deep,dD]
@[simp] theorem s_neB (i j:Bool):oNe (.bl i) (.bl j) mh Q↔Q (.bl (!(i==j))) mh:=by simp[oNe,jM,bare,deep,dD]
@[simp] theorem aGk (i j:Str):oEq (.str i) (.str j) mh Q↔Q (.bl (i==j)) mh:=by simp[oEq,jM,bare,deep,dD]
@[simp] theorem aGj (i j:List D):oEq (.tup i) (.tup j) mh Q↔cT i=true/\cT j=true/\bM i+1<=40/\Q (.bl (dH i j)) mh:=by simp[oEq,jM,bare,deep,dD]
@[simp] theorem aKf (x:D):p6 x .bU mh Q↔Q (.bl !u6 x) mh:=by simp[p6]
@[simp] theorem aKn (x:D)(T:String):vP [x,.ty T] mh Q↔got (VT mh x) λt=>T∈bP/\Q (.bl (rO t T)) mh:=by
 unfold vP;rw[<-gF];constructor
 ·rintro⟨f,c,t,e,a,⟨g,b,d,h⟩ | ⟨i,b,_⟩⟩
  ·cases e;cases b;exact⟨t,a,d,h⟩
  ·cases e;cases b
 ·rintro⟨t,a,d,h⟩;exact⟨x,_,t,rfl,a,.inl ⟨T,rfl,d,h⟩⟩
@[simp] theorem aKm (x:D)(T U:String):vP [x,.tup [.ty T,.ty U]] mh Q↔got (VT mh x) λt=>T∈bP/\U∈bP/\Q (.bl (rO t T || rO t U)) mh:=by
 unfold vP;rw[<-gF];constructor
 ·rintro⟨k,c,t,e,d,⟨g,f,a,h⟩ | ⟨i,f,a,h⟩⟩
  ·cases e;cases f
  ·cases e;injection f with b
   match i,b with
   | [g,l],b=>
    simp at b;obtain⟨rfl,rfl⟩:=b;exact⟨t,d,a _ (by simp),a _ (by simp),by simpa using h⟩
 ·rintro⟨t,d,a,j,h⟩;exact⟨x,_,t,rfl,d,.inr ⟨[T,U],rfl,by simp[a,j],by simpa using h⟩⟩
@[simp] theorem aKj (ds:List D):gZ [.tup ds] mh Q↔Q (.int ds.length) mh:=by
 unfold gZ;exact⟨λb=>by obtain⟨a,e,h⟩:=b;cases e;obtain⟨es,c,h⟩:=h;cases c;exact h,λh=>⟨_,rfl,ds,rfl,h⟩⟩
@[simp] theorem aKl (ds:List D):gZ [.fl ds] mh Q↔Q (.int ds.length) mh:=by
 unfold gZ;exact⟨λb=>by obtain⟨a,e,h⟩:=b;cases e;obtain⟨es,c,h⟩:=h;cases c;exact h,λh=>⟨_,rfl,ds,rfl,h⟩⟩
theorem tO(h:mh[n]? =some (.lst ds)):gZ [.ref n] mh Q↔Q (.int ds.length) mh:=by
 unfold gZ;have e:bF mh (.ref n)=some ds:=by simp[bF,h]
 exact⟨λb=>by obtain⟨a,f,c⟩:=b;cases f;obtain⟨es,d,c⟩:=c;rw[e]at d;cases d;exact c,λc=>⟨_,rfl,ds,e,c⟩⟩
@[simp] theorem aKk (z:Str):gZ [.str z] mh Q↔z.length<=sizeLine/\Q (.int z.length) mh:=by
 unfold gZ;exact⟨λb=>by obtain⟨a,e,h⟩:=b;cases e;exact h,λh=>⟨_,rfl,h⟩⟩
@[simp] theorem s_abs (i:Int):U8 [.int i] mh Q↔Q (.int (if i<0 then -i else i)) mh:=by
 unfold U8;exact⟨λb=>by obtain⟨a,e,h⟩:=b;cases e;exact h,λh=>⟨i,rfl,h⟩⟩
@[simp] theorem aKi (i j:Int):HS [.int i,.int j] mh Q↔Q (.int (if j > i then j else i)) mh:=by
 unfold HS;exact⟨λc=>by obtain⟨a,b,e,h⟩:=c;cases e;exact h,λh=>⟨i,j,rfl,h⟩⟩
@[simp] theorem aKh (i j:Int):zH [.int i,.int j] mh Q↔Q (.int (if j<i then j else i)) mh:=by
 unfold zH;exact⟨λc=>by obtain⟨a,b,e,h⟩:=c;cases e;exact h,λh=>⟨i,j,rfl,h⟩⟩
@[simp] theorem aGe (x:D):gH [x] mh Q↔got (bF mh x) λds=>Q (.tup ds) mh:=by
 unfold gH;rw[<-gF];exact⟨λb=>by obtain⟨a,ds,e,d,h⟩:=b;cases e;exact⟨ds,d,h⟩,λc=>by obtain⟨ds,d,h⟩:=c;exact⟨x,ds,rfl,d,h⟩⟩
@[simp] theorem s_slT (ds:List D)(lo hi:Option Int):oSl (.tup ds) lo hi mh Q=(Q (.tup (cutD ds lo hi)) mh):=rfl
theorem QU(h:mh[n]? =some (.lst ds))(lo hi:Option Int):oSl (.ref n) lo hi mh Q↔Q (.ref mh.length) (mh++[.lst (cutD ds lo hi)]):=by
 show (∃ds,lF mh (.ref n)=some ds/\Q (.ref mh.length) (mh++[.lst (cutD ds lo hi)]))↔_;have e:lF mh (.ref n)=some ds:=by simp[lF,h]
 exact⟨λa=>by obtain⟨es,c,b⟩:=a;rw[e]at c;cases c;exact b,λb=>⟨ds,e,b⟩⟩
theorem QV{P:MH->Prop}(h:mh[n]? =some (.lst ds))(i:Int)(d:D):V3 (.ref n) (.int i) d mh P↔got (OT ds.length i) λj=>P (mh.set n (.lst (ds.set j d))):=by
 unfold V3;rw[<-gF];exact⟨λa=>by obtain⟨m,es,k,j,f,g,c,l,e⟩:=a;cases f;cases g;rw[h]at c;cases c;exact⟨j,l,e⟩,λb=>by obtain⟨j,c,e⟩:=b;exact⟨n,ds,i,j,rfl,rfl,h,c,e⟩⟩
theorem dS{es:List D}(h:mh[n]? =some (.lst es))(d:D):bS (.ref n) [d] mh Q↔es.length<sizeLine/\Q .bU (mh.set n (.lst (es++[d]))):=by
 unfold bS;exact⟨λa=>by obtain⟨m,fs,d',e,f,c,b⟩:=a;cases e;cases f;rw[h]at c;cases c;exact b,λb=>⟨n,es,d,rfl,rfl,h,b⟩⟩
theorem aB9{bs:List Bool}(h:mh[n]? =some (.lst (bs.map .bl))):U7 [.ref n] mh Q↔Q (.bl (bs.all id)) mh:=by
 unfold U7;have e:lF mh (.ref n)=some (bs.map .bl):=by simp[lF,h]
 constructor
 ·rintro⟨x,c,i,g,d⟩;cases i;rw[e]at g;have j:bs.map D.bl=c.map D.bl:=aMn g;have k:bs=c :=(aPi (f:=D.bl) (λa b e=>by injection e)).mp j;subst k;exact d
 ·intro d;exact⟨_,bs,rfl,e,d⟩
@[simp] theorem atI0 (d:D)(ds:List D):fI (d::ds) 0=some d:=by
 have:=dI (xs:=d::ds) (j:=0) (v:=d) rfl;simpa using this
theorem aL(mh:MH)(o:MO):(mh++[o])[mh.length]? =some o:=by simp
end
variable{n:Nat}{d:D}
theorem bT(h:R d mh):Out n d mh R:= .inl h
theorem xS{mh a:MH}(ok:iT mh)(b:cI mh.length d=true)(h:R d mh):Out mh.length d (mh++a) R:= .inr (.inl ⟨mh,a,rfl,aM7 _,ok,b,h⟩)
def lx:List Int->List Int->Bool
 | [],[]=>false
 | [],_::_=>true
 | _::_,[]=>false
 | a::as,b::bs=>if a<b then true else if b<a then false else lx as bs
theorem sH:∀x y:List Int,lx x y=true->lx y x=false
 | [],[],h=>by simp[lx]at h
 | [],_::_,h=>by simp[lx]
 | _::_,[],h=>by simp[lx]at h
 | a::as,b::bs,h=>by
  simp only[lx]at h⊢;by_cases c:a<b
  ·rw[if_neg (by lia),if_pos c]
  ·rw[if_neg c]at h;by_cases d:b<a
   ·rw[if_pos d]at h;cases h
   ·rw[if_neg d]at h⊢;rw[if_neg c];exact sH as bs h
theorem L6:∀x y z:List Int,lx y x=false->lx z y=false->lx z x=false
 | [],y,z,h1,h2=>by
  cases z with
  | nil=>rfl
  | cons _ _=>rfl
 | a::as,[],z,h1,h2=>by simp[lx]at h1
 | a::as,b::bs,[],h1,h2=>by simp[lx]at h2
 | a::as,b::bs,c::cs,h1,h2=>by
  simp only[lx]at h1 h2⊢;by_cases d:b<a
  ·rw[if_pos d]at h1;cases h1
  ·rw[if_neg d]at h1;by_cases e:c<b
   ·rw[if_pos e]at h2;cases h2
   ·rw[if_neg e]at h2;rw[if_neg (by lia)];by_cases f:a<c
    ·rw[if_pos f]
    ·rw[if_neg f];rw[if_neg (by lia)]at h1 h2;exact L6 as bs cs h1 h2
def cA:D->List Int
 | .int i=>[i]
 | .str z=>z.cps.toList.map (λ(c:Nat)=>(c:Int))++[-1]
 | _=>[]
def enc:D->List Int
 | .tup ds=>ds.flatMap cA
 | d=>cA d
theorem tU:∀a b:List Nat,lx (a.map (λ(c:Nat)=>(c:Int))++[-1]) (b.map (λ(c:Nat)=>(c:Int))++[-1])=decide (a<b)
 | [],[]=>by simp[lx]
 | [],b::bs=>by
  have:(-1:Int)<(b:Int):=by lia
  simp[lx,this]
 | a::as,[]=>by
  have d:¬((a:Int) < -1):=by lia
  have f:(-1:Int)<(a:Int):=by lia
  simp[lx,d,f]
 | a::as,b::bs=>by
  have g:=tU as bs;simp only[List.map_cons,List.cons_append,lx,g];by_cases d:a<b
  ·rw[if_pos (by lia)];exact(decide_eq_true (List.cons_lt_cons_iff.mpr (.inl d))).symm
  ·rw[if_neg (by lia)];by_cases f:b<a
   ·rw[if_pos (by lia)];exact(aNe (λq=>by rcases List.cons_lt_cons_iff.mp q with q | q <;> lia)).symm
   ·rw[if_neg (by lia)];have e:a=b:=by lia
    subst e;rw[Bool.eq_iff_iff,decide_eq_true_iff,decide_eq_true_iff,List.cons_lt_cons_iff];simp
inductive Sc where | i | s
def cH:Sc->D->Bool
 | .i,.int _=>true
 | .s,.str _=>true
 | _,_=>false
def bA:List Sc->List D->Bool
 | [],[]=>true
 | c::cs,d::ds=>cH c d && bA cs ds
 | _,_=>false
theorem sG(x:List Int):∀r b :List Int,lx (x++r) (x++b)=lx r b :=by
 induction x with
 | nil=>intro r b;rfl
 | cons a as ih=>intro r b;simp[lx,ih]
theorem map_inj:∀a b:List Nat,a.map (λ(c:Nat)=>(c:Int))++[-1]=b.map (λ(c:Nat)=>(c:Int))++[-1]->a=b
 | [],[],_=>rfl
 | [],b::bs,h=>by simp at h
 | a::as,[],h=>by simp at h
 | a::as,b::bs,h=>by
  simp only[List.map_cons,List.cons_append,List.cons.injEq]at h;have d:a=b:=by lia
  rw[d,map_inj as bs h.2]
theorem LD{a b:Str}(h:a.cps.toList=b.cps.toList):a=b:=by
 cases a;cases b;simp at h;simp[h]
theorem M6{c:Sc}{d e:D}(a:cH c d=true)(b:cH c e=true)(h:cA d=cA e):d=e:=by
 cases c <;> cases d <;> simp[cH]at a <;> cases e <;> simp[cH]at b
 ·simp[cA]at h;rw[h]
 ·simp only[cA]at h;rw[LD (map_inj _ _ h)]
theorem uZ:∀(a b:List Nat) (r d :List Int),a≠b->lx ((a.map (λ(c:Nat)=>(c:Int))++[-1])++r) ((b.map (λ(c:Nat)=>(c:Int))++[-1])++d)=lx (a.map (λ(c:Nat)=>(c:Int))++[-1]) (b.map (λ(c:Nat)=>(c:Int))++[-1])
 | [],[],_,_,h=>absurd rfl h
 | [],b::bs,r,d,_=>by
  have:(-1:Int)<(b:Int):=by lia
  simp[lx,this]
 | a::as,[],r,d,_=>by
  have f:¬((a:Int) < -1):=by lia
  have g:(-1:Int)<(a:Int):=by lia
  simp[lx,f,g]
 | a::as,b::bs,r,d,h=>by
  simp only[List.map_cons,List.cons_append,lx];by_cases f:(a:Int)<b
  ·simp[f]
  ·by_cases g:(b:Int)<a
   ·simp[f,g]
   ·have e:a=b:=by lia
    subst e;simp only[f,g,if_false];exact uZ as bs r d λq=>h (by rw[q])
theorem jJ{c:Sc}{d e:D}(f:cH c d=true)(k:cH c e=true)(h:d≠e)(r g :List Int):lx (cA d++r) (cA e++g)=lx (cA d) (cA e):=by
 cases c <;> cases d <;> simp[cH]at f <;> cases e <;> simp[cH]at k
 ·rename_i i j;have:i≠j:=λq=>h (by rw[q]);simp only[cA,List.cons_append,List.nil_append,lx];by_cases f:i<j
  ·simp[f]
  ·have:j<i:=by lia
   simp[f,this]
 ·rename_i a b;simp only[cA];exact uZ _ _ r g λq=>h (by rw[LD q])
theorem UI{c:Sc}{d e:D}(a:cH c d=true)(b:cH c e=true):dD d e=true↔d=e:=by
 cases c <;> cases d <;> simp[cH]at a <;> cases e <;> simp[cH]at b
 ·simp[dD]
 ·simp[dD]
mutual
theorem IE{h:Heap}:∀{d e:D} {u:Value},Vl h d u->Vl h e u->d=e
 | .bU,e,u,p,q=>by
  unfold Vl at p;subst p
  cases e <;> unfold Vl at q <;> first | rfl | (cases q;done) | (obtain⟨_,q⟩:=q;cases q;done) | (obtain⟨_,_,q,_⟩:=q;cases q;done)
 | .bl a,e,u,p,q=>by
  unfold Vl at p;subst p
  cases e <;> unfold Vl at q <;> first | (cases q;rfl) | (cases q;done) | (obtain⟨_,q⟩:=q;cases q;done) | (obtain⟨_,_,q,_⟩:=q;cases q;done)
 | .int a,e,u,p,q=>by
  unfold Vl at p;obtain⟨t,rfl⟩:=p
  cases e <;> unfold Vl at q <;> first | (cases q;done) | (obtain⟨_,q⟩:=q;cases q;rfl) | (obtain⟨_,q⟩:=q;cases q;done) | (obtain⟨_,_,q,_⟩:=q;cases q;done)
 | .str a,e,u,p,q=>by
  unfold Vl at p;obtain⟨t,rfl⟩:=p
  cases e <;> unfold Vl at q <;> first | (cases q;done) | (obtain⟨_,q⟩:=q;cases q;rfl) | (obtain⟨_,q⟩:=q;cases q;done) | (obtain⟨_,_,q,_⟩:=q;cases q;done)
 | .ty _,e,u,p,q=>by unfold Vl at p;exact p.elim
 | .ref _,e,u,p,q=>by unfold Vl at p;exact p.elim
 | .tup as,e,u,p,q=>by
  unfold Vl at p;obtain⟨a,us,rfl,ht,l⟩:=p
  cases e with
  | tup bs=>
   unfold Vl at q;obtain⟨b,ws,e,c,f⟩:=q;cases e;obtain⟨o,j,_,n,k⟩:=ht;obtain⟨s,g,_,v,i⟩:=c;rw[j]at g;cases g;rw[k]at i;injection i with m;have r:us=ws:=by simpa using aN5 Array.toList m
   subst r;rw[CB l f]
  | fl bs=>
   unfold Vl at q;obtain⟨b,ws,e,c,f⟩:=q;cases e;exact(vW c ht).elim
  | _=>unfold Vl at q;first | (cases q;done) | (obtain⟨_,q⟩:=q;cases q;done)
 | .fl as,e,u,p,q=>by
  unfold Vl at p;obtain⟨a,us,rfl,ht,l⟩:=p
  cases e with
  | fl bs=>
   unfold Vl at q;obtain⟨b,ws,e,c,f⟩:=q;cases e;obtain⟨o,j,_,n,k⟩:=ht;obtain⟨s,g,_,v,i⟩:=c;rw[j]at g;cases g;rw[k]at i;injection i with m;have r:us=ws:=by simpa using aN5 Array.toList m
   subst r;rw[CB l f]
  | tup bs=>
   unfold Vl at q;obtain⟨b,ws,e,c,f⟩:=q;cases e;exact(vW ht c).elim
  | _=>unfold Vl at q;first | (cases q;done) | (obtain⟨_,q⟩:=q;cases q;done)
theorem CB{h:Heap}:∀{ds es:List D} {us:List Value},cJ h ds us->cJ h es us->ds=es
 | [],es,us,p,q=>by unfold cJ at p;subst p;cases es with | nil=>rfl | cons=>unfold cJ at q;obtain⟨_,_,e,_⟩:=q;cases e
 | d::ds,es,us,p,q=>by
  unfold cJ at p;obtain⟨u,r,rfl,i,l⟩:=p
  cases es with
  | nil=>unfold cJ at q;cases q
  | cons e es=>
   unfold cJ at q;obtain⟨f,g,a,b,c⟩:=q;cases a;rw[IE i b,CB l c]
end
mutual
theorem Vl.keep{h h' :Heap}(k:∀b o,h.get? b=some o->h'.get? b=some o):∀(d:D) (u:Value),Vl h d u->Vl h' d u
 | .bU,u,q=>by unfold Vl at*;exact q
 | .bl _,u,q=>by unfold Vl at*;exact q
 | .int _,u,q=>by unfold Vl at*;exact q
 | .str _,u,q=>by unfold Vl at*;exact q
 | .ty _,u,q=>by unfold Vl at*;exact q
 | .ref _,u,q=>by unfold Vl at*;exact q
 | .tup ds,u,q=>by
  unfold Vl at*;obtain⟨a,us,e,⟨o,c,f⟩,l⟩:=q;exact⟨a,us,e,⟨o,k _ _ c,f⟩,cJ.keep k ds us l⟩
 | .fl ds,u,q=>by
  unfold Vl at*;obtain⟨a,us,e,⟨o,c,f⟩,l⟩:=q;exact⟨a,us,e,⟨o,k _ _ c,f⟩,cJ.keep k ds us l⟩
theorem cJ.keep{h h' :Heap}(k:∀b o,h.get? b=some o->h'.get? b=some o):∀(ds:List D) (us:List Value),cJ h ds us->cJ h' ds us
 | [],us,q=>by unfold cJ at*;exact q
 | d::ds,us,q=>by
  unfold cJ at*;obtain⟨u,r,e,i,l⟩:=q;exact⟨u,r,e,Vl.keep k d u i,cJ.keep k ds r l⟩
end
def EV(ds:List D):Prop:=(∃c,∀d∈ds,cH c d=true)\/∃c cs,∀d∈ds,∃es,d= .tup es/\bA (c::cs) es=true
open Classical in
noncomputable def dv(h:Heap)(u:Value):D:=if q:∃d,Vl h d u then q.choose else .bU
theorem gO{u:Value}(p:Vl h d u):dv h u=d:=by
 unfold dv;rw[dif_pos ⟨d,p⟩];exact IE (Exists.choose_spec (⟨d,p⟩:∃d,Vl h d u)) p
noncomputable def ltV(h:Heap)(x y:Keyed):Bool:=lx (enc (dv h x.1)) (enc (dv h y.1))
theorem JL(h:Heap):TS.Wk (ltV h):=⟨λx y=>sH _ _,λx y z=>L6 _ _ _⟩
theorem jH{h:Heap}:∀{ds:List D} {us:List Value},cJ h ds us->∀u∈us,∃d∈ds,Vl h d u
 | [],us,q,u,hu=>by unfold cJ at q;subst q;cases hu
 | d::ds,us,q,u,hu=>by
  unfold cJ at q;obtain⟨w,r,rfl,i,l⟩:=q;rcases aMf.mp hu with rfl | hu
  ·exact⟨d,aM8,i⟩
  ·obtain⟨e,he,p⟩:=jH l u hu;exact⟨e,aM9 _ he,p⟩
open PySem.W in
theorem BH{prog:Program}{w:World}{A:Around}{Q:Bool->Shared->Prop}{s:Shared}(o:A.units+32<cLine):∀(cs:List Sc) (as bs:List D) (us vs:List Value) (i:Nat) (b:Bool),(b=true->i=0->True)->bA cs as=true->bA cs bs=true->cJ s.heap as us->cJ s.heap bs vs->
  Q (lx (as.flatMap cA) (bs.flatMap cA)) s->KatLex prog w A b false Q (us.zip vs) i s
 | [],[],[],us,vs,i,b,_,_,_,f,g,q=>by unfold cJ at f g;subst f g;exact kat_nil q
 | [],[],_::_,_,_,_,_,_,_,h2,_,_,_=>by simp[bA]at h2
 | [],_::_,_,_,_,_,_,_,h1,_,_,_,_=>by simp[bA]at h1
 | _::_,[],_,_,_,_,_,_,h1,_,_,_,_=>by simp[bA]at h1
 | _::_,_::_,[],_,_,_,_,_,_,h2,_,_,_=>by simp[bA]at h2
 | c::cs,a::as,d::bs,us,vs,i,b,hb,h1,h2,f,g,q=>by
  unfold cJ at f g;obtain⟨u,p,rfl,h,f⟩:=f;obtain⟨v,r,rfl,j,g⟩:=g;simp only[bA,Bool.and_eq_true]at h1 h2;rw[List.zip_cons_cons];have t:deep a<=0:=by cases c <;> cases a <;> simp[cH]at h1 <;> simp[deep]
  refine kat_cons (kB (s:=s) 0 t (by lia) h j prog w _ _ ?_);simp only[List.flatMap_cons]at q;refine kat_go (λe=>kat_yes ?_) (λe=>kat_no ?_)
  ·have m:a=d:=(UI h1.1 h2.1).mp e;subst m;rw[sG]at q;exact BH o cs as bs p r (i+1) b (λ_ _=>trivial) h1.2 h2.2 f g q
  ·have n:a≠d:=λz=>by rw[(UI h1.1 h2.1).mpr z]at e;cases e
   rw[jJ h1.1 h2.1 n]at q
   cases c with
   | i=>
    cases a <;> simp[cH]at h1;cases d <;> simp[cH]at h2;rename_i x y;unfold Vl at h j;obtain⟨B,rfl⟩:=h;obtain⟨C,rfl⟩:=j
    have k :Q (decide (x<y)) s:=by
     have:lx (cA (.int x)) (cA (.int y))=decide (x<y):=by
      simp only[cA,lx];by_cases l:x<y
      ·simp[l]
      ·simp[l]
     rw[<-this];exact q
    cases hbi:(b && i==0) with
    | true=>exact oneLt_int k
    | false=>exact kat_one _ _ (lt_int k)
   | s=>
    cases a <;> simp[cH]at h1;cases d <;> simp[cH]at h2;rename_i x y;unfold Vl at h j;obtain⟨B,rfl⟩:=h;obtain⟨C,rfl⟩:=j
    have k :Q (decide (x.cps.toList<y.cps.toList)) s:=by
     have:lx (cA (.str x)) (cA (.str y))=decide (x.cps.toList<y.cps.toList):=tU _ _;rw[<-this];exact q
    cases hbi:(b && i==0) with
    | true=>exact oneLt_str k
    | false=>exact kat_one _ _ (lt_str k)
def scT:Sc->String | .i=>"int" | .s=>"str"
section
variable {prog:Program}{w:World}{A:Around}
theorem tX:∀{cs:List Sc} {ds:List D},bA cs ds=true->ds.length=cs.length
 | [],[],_=>rfl
 | [],_::_,h=>by simp[bA]at h
 | _::_,[],h=>by simp[bA]at h
 | c::cs,d::ds,h=>by simp only[bA,Bool.and_eq_true]at h;simp[tX h.2]
theorem jO{vs:List Value}{x:Keyed}(h:x∈(pairsOf vs).toList):x=(x.1,x.1)/\x.1∈vs:=by
 rw[pairsOf_toList]at h
 induction vs with
 | nil=>simp at h
 | cons v r ih=>
  rw[List.zip_cons_cons]at h;rcases aMf.mp h with e | e
  ·rw[e];exact⟨rfl,aM8⟩
  ·obtain⟨a,b⟩:=ih e;exact⟨a,aM9 _ b⟩
theorem w9{s:Shared}{vs:List Value}(hu:A.units+40<cLine)(U:EV ds)(l:cJ s.heap ds vs)(S:2<=vs.length):
  ∃κ,∀h' :Heap,(∀b o,s.heap.get? b=some o->h'.get? b=some o)->TS.ID prog w A {s with heap:=h'} κ (ltV s.heap) (pairsOf vs)/\
   ∀C G,C κ {s with heap:=h'}->wpAny (model prog w) A (keyKind' vs.toArray) C G {s with heap:=h'}:=by
 rcases U with ⟨c,f⟩ | ⟨c,cs,f⟩
 ·refine⟨oneType',λh' k=>⟨λx y H I Q q=>?_,λC G q=>?_⟩⟩
  ·obtain⟨_,J⟩:=jO H;obtain⟨_,K⟩:=jO I;obtain⟨d,h,dp⟩:=jH l _ J;obtain⟨e,em,g⟩:=jH l _ K
   have E :Q (lx (enc d) (enc e)) {s with heap:=h'}:=by
    have:ltV s.heap x y=lx (enc d) (enc e):=by unfold ltV;rw[gO dp,gO g]
    rw[<-this];exact q
   have hd:=f d h;have he:=f e em;obtain⟨x1,Z⟩:=x;obtain⟨T,y2⟩:=y
   cases c with
   | i=>
    cases d <;> simp[cH]at hd;cases e <;> simp[cH]at he;rename_i i j;unfold Vl at dp g;obtain⟨m,rfl⟩:=dp;obtain⟨t2,rfl⟩:=g;refine PySem.W.kat_lt_int ?_
    have:lx (enc (.int i)) (enc (.int j))=decide (i<j):=by
     simp only[enc,cA,lx];by_cases t:i<j
     ·simp[t]
     ·simp[t]
    rw[<-this];exact E
   | s=>
    cases d <;> simp[cH]at hd;cases e <;> simp[cH]at he;rename_i i j;unfold Vl at dp g;obtain⟨m,rfl⟩:=dp;obtain⟨t2,rfl⟩:=g;refine PySem.W.kas_lt_str ?_;have:lx (enc (.str i)) (enc (.str j))=decide (i.cps.toList<j.cps.toList):=tU _ _;rw[<-this];exact E
  ·have ty:∀v∈vs,PySem.W.Looks (model prog w) h' (typeOf v) (.type (scT c)):=λv hv=>by
    obtain⟨d,h,dp⟩:=jH l _ hv;have hd:=f d h
    cases c with
    | i=>cases d <;> simp[cH]at hd;unfold Vl at dp;obtain⟨m,rfl⟩:=dp;exact aNo rfl
    | s=>cases d <;> simp[cH]at hd;unfold Vl at dp;obtain⟨m,rfl⟩:=dp;exact aNo rfl
   exact PySem.W.kas_kind (s:={s with heap:=h'}) S ty (by cases c <;> rfl) (by cases c <;> rfl) q
 ·refine⟨tuples' true,λh' k=>⟨λx y H I Q q=>?_,λC G q=>?_⟩⟩
  ·obtain⟨_,J⟩:=jO H;obtain⟨_,K⟩:=jO I;obtain⟨d,h,dp⟩:=jH l _ J;obtain⟨e,em,g⟩:=jH l _ K
   have E :Q (lx (enc d) (enc e)) {s with heap:=h'}:=by
    have:ltV s.heap x y=lx (enc d) (enc e):=by unfold ltV;rw[gO dp,gO g]
    rw[<-this];exact q
   obtain⟨as,rfl,ha⟩:=f d h;obtain⟨bs,rfl,V⟩:=f e em;obtain⟨x1,Z⟩:=x;obtain⟨T,y2⟩:=y;unfold Vl at dp g;obtain⟨a,us,ea,⟨o,ho,z,n,hd⟩,B⟩:=dp;obtain⟨b,ws,eb,⟨o2,L,X,n2,M⟩,lw⟩:=g;have N :x1=Value.ref a:=ea;have O :T=Value.ref b:=eb;subst N O;refine PySem.W.kat_lt (s:={s with heap:=h'}) (k _ _ ho) hd (k _ _ L) M ?_;have z1:=bG B;have z2:=bG lw;have z3:=tX ha;have z4:=tX V;have zz:decide (us.toArray.size<ws.toArray.size)=false:=aNe (by simp only[List.size_toArray];lia);rw[zz];exact BH (s:={s with heap:=h'}) (by lia) (c::cs) as bs us ws 0 true (λ_ _=>trivial) ha V (cJ.keep k as us B) (cJ.keep k bs ws lw) E
  ·have fs:∃fs:List Value,PySem.W.KatTups h' vs fs/\fs.length=vs.length/\∀v∈fs,PySem.W.Looks (model prog w) h' (typeOf v) (.type (scT c)):=by
    clear q S
    have go:∀(ds:List D) (vs:List Value),(∀d∈ds,∃es,d= .tup es/\bA (c::cs) es=true)->cJ s.heap ds vs->∃fs:List Value,PySem.W.KatTups h' vs fs/\fs.length=vs.length/\∀v∈fs,PySem.W.Looks (model prog w) h' (typeOf v) (.type (scT c)):=by
     intro ds
     induction ds with
     | nil=>intro vs _ l;unfold cJ at l;subst l;exact⟨[],PySem.W.KatTups.nil,rfl,λv hv=>by cases hv⟩
     | cons d r ih=>
      intro vs f l;unfold cJ at l;obtain⟨u,ur,rfl,p,l⟩:=l;obtain⟨fs,P,Y,R⟩:=ih ur (λe he=>f e (aM9 _ he)) l;obtain⟨es,rfl,he⟩:=f d aM8;unfold Vl at p;obtain⟨a,us,rfl,⟨o,ho,z,n,hd⟩,B⟩:=p
      cases es with
      | nil=>simp[bA]at he
      | cons e0 er=>
       unfold cJ at B;obtain⟨u0,u1,rfl,F,_⟩:=B;simp only[bA,Bool.and_eq_true]at he;refine⟨u0::fs,PySem.W.KatTups.cons (k _ _ ho) z hd (by simp) P,by simp[Y],λv hv=>?_⟩;rcases aMf.mp hv with rfl | hv
       ·cases c with
        | i=>cases e0 <;> simp[cH]at he;unfold Vl at F;obtain⟨m,rfl⟩:=F;exact aNo rfl
        | s=>cases e0 <;> simp[cH]at he;unfold Vl at F;obtain⟨m,rfl⟩:=F;exact aNo rfl
       ·exact R v hv
    exact go ds vs f l
   obtain⟨fs,P,Y,R⟩:=fs;refine PySem.W.kat_kind (s:={s with heap:=h'}) P (by lia) R (by cases c <;> rfl) ?_;have:(Value.type (scT c) !=Value.type "tuple")=true:=by cases c <;> rfl
   rw[this];exact q
end
theorem rZ{α c:Type}(f:α->c):∀{l:List c} {m:List c},l.Perm m->∀t:List α,m=t.map f->∃t' :List α,t'.Perm t/\t'.map f=l:=by
 intro l m h
 induction h with
 | nil=>intro t e;cases t <;> simp at e;exact⟨[],.refl _,rfl⟩
 | cons x _ ih=>
  intro t e
  cases t with
  | nil=>simp at e
  | cons a r=>
   simp at e;obtain⟨t',p,q⟩:=ih r e.2;exact⟨a::t',p.cons a,by simp[q,e.1]⟩
 | swap x y l=>
  intro t e
  match t,e with
  | [],e=>simp at e
  | [_],e=>simp at e
  | a::b::r,e=>
   simp at e;exact⟨b::a::r,.swap _ _ _,by simp[e]⟩
 | trans _ _ ih1 ih2=>
  intro t e;obtain⟨d,g,i⟩:=ih2 t e;obtain⟨j,k,n⟩:=ih1 d i.symm;exact⟨j,k.trans g,n⟩
def c5:OA:=λxs mh Q=>∃x ds,xs=[x]/\lF mh x=some ds/\ds.length<64/\EV ds/\
 ∀a,a.Perm ds->a.Pairwise (λd e=>lx (enc e) (enc d)=false)->Q (.ref mh.length) (mh++[.lst a])
theorem B8(U:EV ds):cT ds=true:=by
 have sc:∀{cs:List Sc} {es:List D},bA cs es=true->cT es=true:=λ{cs}=>by
  induction cs with
  | nil=>intro es h;cases es with | nil=>rfl | cons=>simp[bA]at h
  | cons c cs ih=>
   intro es h
   cases es with
   | nil=>simp[bA]at h
   | cons e es=>
    simp only[bA,Bool.and_eq_true]at h;simp only[cT,ih h.2,Bool.and_true];cases c <;> cases e <;> simp[cH]at h <;> rfl
 rcases U with ⟨c,a⟩ | ⟨c,cs,a⟩
 ·induction ds with
  | nil=>rfl
  | cons d r ih=>
   have hd:=a d aM8;simp only[cT,ih λe he=>a e (List.mem_cons_of_mem _ he),Bool.and_true];cases c <;> cases d <;> simp[cH]at hd <;> rfl
 ·induction ds with
  | nil=>rfl
  | cons d r ih=>
   obtain⟨es,rfl,he⟩:=a d aM8;simp only[cT,ih λe he=>a e (List.mem_cons_of_mem _ he),Bool.and_true];simpa[bare] using sc he
structure Tri where
 d:D
 v:V
 u:Value
theorem zP{K:aPu}{μ:List Addr}{H:Hp}{h:Heap}:∀{ds:List D} {vs:List V} {us:List Value},IsL K μ H ds vs->Vals vs us->cJ h ds us->∃ts:List Tri,ts.map (·.d)=ds/\ts.map (·.v)=vs/\ts.map (·.u)=us/\∀t∈ts,Is K μ H t.d t.v/\RelV t.v t.u/\Vl h t.d t.u
 | [],vs,us,l,r,q=>by unfold IsL at l;subst l;cases r;exact⟨[],rfl,rfl,rfl,λt ht=>by cases ht⟩
 | d::ds,vs,us,l,r,q=>by
  unfold IsL at l;obtain⟨v,s,rfl,i,l⟩:=l
  cases r with
  | @cons _ g _ j k m=>
   unfold cJ at q;obtain⟨w,x,e,p,q⟩:=q;injection e with n o;subst n o;obtain⟨ts,a,b,c,f⟩:=zP l m q
   exact⟨⟨d,v,g⟩::ts,by simp[a],by simp[b],by simp[c],λt ht=>by
    rcases aMf.mp ht with rfl | ht
    ·exact⟨i,k,p⟩
    ·exact f t ht⟩
theorem wA{K:aPu}{μ:List Addr}{H:Hp}:∀{ts:List Tri},(∀t∈ts,Is K μ H t.d t.v)->IsL K μ H (ts.map (·.d)) (ts.map (·.v))
 | [],_=>by simp[IsL]
 | t::ts,h=>by
  simp only[List.map_cons];unfold IsL;exact⟨_,_,rfl,h t aM8,wA λx a=>h x (aM9 _ a)⟩
theorem rK:∀{ts:List Tri},(∀t∈ts,RelV t.v t.u)->Vals (ts.map (·.v)) (ts.map (·.u))
 | [],_=>.nil
 | t::ts,h=>.cons (h t aM8) (rK λx a=>h x (aM9 _ a))
section
variable {X:Cx}
theorem PQ(hu:X.A.units+64<cLine):cG X (.builtin "sorted") (eB X.K c5):=by
 intro pins s σ H xs us Q I r q;obtain⟨μ,mh,ds,R,n,G,⟨x,es,rfl,e,J,U,q⟩,F⟩:=q;obtain⟨v,rfl,L⟩:=eD G;obtain⟨a,vs,rfl,sq,l⟩:=oJ n L e;obtain⟨u,rfl,M⟩:=vals1 r;cases M;obtain⟨aM,p,N,hz⟩:=I.list sq;have g:=n4 I es (B8 U) l p;have y:aM.length=es.length:=bG g;have O:X.A.in1.in1.units+40<cLine:=by show X.A.units+1+1+40<_;lia
 have ask:∃κ,2<=aM.length->∀h' :Heap,(∀b o,s.heap.get? b=some o->h'.get? b=some o)->TS.ID X.prog X.w X.A.in1.in1 {s with heap:=h'} κ (ltV s.heap) (pairsOf aM)/\
   ∀B P,B κ {s with heap:=h'}->wpAny (model X.prog X.w) X.A.in1.in1 (keyKind' aM.toArray) B P {s with heap:=h'}:=by
  by_cases C:2<=aM.length
  ·obtain⟨κ,S⟩:=w9 (prog:=X.prog) (w:=X.w) (A:=X.A.in1.in1) O U g C;exact⟨κ,λ_=>S⟩
  ·exact⟨general',λz=>absurd z C⟩
 obtain⟨κ,ask⟩:=ask;refine TS.FE (κ:=κ) (JL s.heap) N.isList (by lia) ask λout D h=>?_;obtain⟨ts,T,V,W,Y⟩:=zP l p g;rw[<-W]at D;obtain⟨c,i,E⟩:=rZ (·.u) D ts rfl;have f:∀t∈c,Is X.K μ H t.d t.v/\RelV t.v t.u/\Vl s.heap t.d t.u:=λt ht=>Y t (i.mem_iff.mp ht);have Z:(c.map (·.d)).Perm es:=by rw[<-T];exact i.map _
 have pw:(c.map (·.d)).Pairwise (λd e=>lx (enc e) (enc d)=false):=by
  rw[<-E]at h;rw[List.pairwise_map]at h⊢;refine h.imp_of_mem λ{t t'} m m' j=>?_;have e1:dv s.heap t.u=t.d:=gO (f t m).2.2;have e2:dv s.heap t'.u=t'.d:=gO (f t' m').2.2;unfold ltV at j;rw[e1,e2]at j;exact j
 obtain⟨ep,he⟩:=sortedAll_at s.heap aM out.toArray
 have ln:(c.map (·.v)).length<=sizeLine:=by
  have:=i.length_eq;have k :=aN5 List.length V;simp at k ⊢
  lia
 have I1:Inv X pins σ (upd H (s.heap.objs.size+1) (.lst (c.map (·.v)))) {s with heap:=sortedAll s.heap aM out.toArray}:=
  I.laid (t' :=s.toks) (λb o hb=>sortedAll_old hb) (aOs _) ⟨ln,out,ep,by rw[<-E];exact rK λt ht=>(f t ht).2.1,he⟩
 exact⟨.ref (s.heap.objs.size+1),_,I1,rfl,k7 n F (wA λt ht=>(f t ht).1) (q _ Z pw) _ (I.cS.fresh (aOs _))⟩
end
theorem cQ{g:WG}{b:WS}{E:iL}{St:MH->Prop}(e:Nat->iM->MH->Prop)(ds:List D)(f:∀i a mh,e i a mh->St mh)
  (l:∀i d a mh (N:iM->MH->Prop),ds[i]? =some d->e i a mh->(∀c mh',e (i+1) c mh' ->N c mh')->g d a λj=>b {E with nx:=N,ct:=N,bk:=E.nx} j mh)
  (hd:∀a mh,e ds.length a mh->E.nx a mh) {a:iM}  (h0:e 0 a mh):kY g b E St ds a mh:=by
 have go:∀(k i:Nat),i+k=ds.length->∀a mh,e i a mh->kY g b E St (ds.drop i) a mh:=by
  intro k
  induction k with
  | zero=>
   intro i hi a mh p;have:i=ds.length:=by lia
   subst this;rw[List.drop_of_length_le (Nat.le_refl _)];exact⟨f _ _ _ p,hd a mh p⟩
  | succ k ih=>
   intro i hi a mh p;have h:i<ds.length:=by lia
   rw[List.drop_eq_getElem_cons h];exact⟨f _ _ _ p,l i ds[i] a mh _ (by simp[h]) p λc mh' m =>ih (i+1) (by lia) c mh' m⟩
 have:=go ds.length 0 (by simp) a mh h0;simpa using this
theorem sX{g:WG}{t:WT}{w:WE}{ρe:iM}{St:MH->Prop}{Q:DK}(e:Nat->List D->MH->Prop)(ds:List D)(f:∀i a mh,e i a mh->St mh)
  (n:∀i d a mh (N:List D->MH->Prop),ds[i]? =some d->e i a mh->(∀c mh',e (i+1) c mh' ->N c mh')->g d ρe λh=>t h mh λb j=>if b=true then w h j λy m=>N (a++[y]) m else N a j)
  (hd:∀a mh,e ds.length a mh->Q (.ref mh.length) (mh++[.lst a]))  (h0:e 0 [] mh):i9 g t w ρe St Q ds [] mh:=by
 have go:∀(k i:Nat),i+k=ds.length->∀a mh,e i a mh->i9 g t w ρe St Q (ds.drop i) a mh:=by
  intro k
  induction k with
  | zero=>
   intro i hi a mh p;have:i=ds.length:=by lia
   subst this;rw[List.drop_of_length_le (Nat.le_refl _)];exact⟨f _ _ _ p,hd a mh p⟩
  | succ k ih=>
   intro i hi a mh p;have l:i<ds.length:=by lia
   rw[List.drop_eq_getElem_cons l];exact⟨f _ _ _ p,n i ds[i] a mh (λc mh' =>i9 g t w ρe St Q (ds.drop (i+1)) c mh') (by simp[l]) p λc mh' o =>ih (i+1) (by lia) c mh' o⟩
 have:=go ds.length 0 (by simp) [] mh h0;simpa using this
theorem comp_map{g:WG}{w:WE}{ρe:iM}{St:MH->Prop}{Q:DK}(f:D->D):∀(ds a:List D) {mh:MH},St mh->(∀d∈ds,∀N:DK,N (f d) mh->g d ρe λb=>w b mh N)->Q (.ref mh.length) (mh++[.lst (a++ds.map f)])->i9 g lY w ρe St Q ds a mh
 | [],a,mh,hst,_,q=>⟨hst,by simpa using q⟩
 | d::ds,a,mh,hst,h,q=>by
  refine⟨hst,?_⟩;simp only[QT,if_true];refine h d aM8 _ ?_;exact comp_map f ds (a++[f d]) hst (λe he=>h e (aM9 _ he)) (by simpa using q)
theorem jI{lo:Int}{n i:Nat}(h:(dU lo n)[i]? =some d):i<n/\d= .int (lo+i):=by
 simp only[dU,List.getElem?_map]at h;obtain⟨k,a,rfl⟩:=aN1.mp h;obtain⟨hi,rfl⟩:=aM6.mp a;simp at hi;exact⟨hi,by simp⟩
@[simp] theorem aJ8 (lo:Int)(n:Nat):(dU lo n).length=n:=by simp[dU]
def HY(mh:MH)(b:Nat):Prop:=∃c m:Int,mh[b]? =some (.lst [.int c,.int m])/\0<=c/\0<=m/\m<2147483629
variable{b:Nat}
theorem HY.lt(h:HY mh b):b<mh.length:=let ⟨_,_,e,_⟩:=h;(aM6.mp e).1
def gP(mh:MH)(b:Nat)(mh' :MH):Prop:=HY mh' b/\∃o,mh' =mh.set b o
theorem gP.len{mh mh' :MH}(h:gP mh b mh'):mh'.length=mh.length:=by obtain⟨_,o,rfl⟩:=h;simp
theorem gP.trans{mh a c:MH}(h:gP mh b a)(h' :gP a b c):gP mh b c:=by
 obtain⟨_,o,rfl⟩:=h;obtain⟨d,e,rfl⟩:=h';exact⟨d,e,by simp⟩
theorem gP.refl(h:HY mh b):gP mh b mh:=by
 refine⟨h,mh[b]'h.lt,?_⟩;simp
theorem gP.other{mh mh' :MH}(h:gP mh b mh')(a:n≠b):mh'[n]? =mh[n]? :=by
 obtain⟨_,o,rfl⟩:=h;exact List.getElem?_set_ne (aNf a)
theorem HY.IZ(h:HY mh b)(k:Nat):∀o,mh[b]? =some o->IZ k o=true:=by
 obtain⟨c,m,e,_⟩:=h;intro o ho;rw[e]at ho;cases ho;rfl
theorem gP.mok{mh mh' :MH}(h:gP mh b mh')(ok:iT mh):iT mh' :=by
 have d:=h.1;obtain⟨_,o,e⟩:=h;intro x f;have g:mh'.length=mh.length:=by rw[e];simp
 obtain⟨n,c⟩:=aMr.mp f;by_cases a:n=b
 ·subst a;exact d.IZ _ x c
 ·rw[e,List.getElem?_set_ne (Ne.symm a)]at c;rw[g];exact ok x (aMc c)
def fA:OA:=λds mh Q=>∃b a,ds=[.ref b,.int a]/\1<=a/\a<=1073741789/\HY mh b/\∀r mh',0<=r->r<a->gP mh b mh' ->Q (.int r) mh'
def IP:OA:=λds mh Q=>∃(ns:List Int) (a:Int),ds=[.fl (ns.map .int),.int a]/\ns.length<=63/\0<=a/\a<=100/\∀mh',(∃o,mh' =mh++[o])->HY mh' mh.length->Q (.ref mh.length) mh'
def dJ(K:aPu)(x:Str)(st:Stmt):Prop:=∃f oc od kV doc pm an a ct sl,PySem.W.nsIn K mainGlobals x=some (some (.ref f))/\
 K.lookup f=some ⟨oc,od,.func (PySem.W.fnOf x x (fF st) (cZ st) (aG st) .none kV doc pm an a ct),sl⟩/\PySem.W.codeIn K a x=true/\PySem.W.keepIn K (.ref f)=true
variable{st:Stmt}
theorem aJh{f:Addr}{oc:Value}{od an:Option Addr}{sl:Array (Option Value)}{kV doc pm b ct:Value}(a:PySem.W.nsIn K mainGlobals x=some (some (.ref f)))
  (l:K.lookup f=some ⟨oc,od,.func (PySem.W.fnOf x x (fF st) (cZ st) (aG st) .none kV doc pm an b ct),sl⟩) (c:PySem.W.codeIn K b x=true) (k:PySem.W.keepIn K (.ref f)=true):dJ K x st:=⟨f,oc,od,kV,doc,pm,an,b,ct,sl,a,l,c,k⟩
def bN(x:Str)(st:Stmt)(ps:List Str):Prop:=∀(kV doc pm:Value) (an:Option Addr) (cdv ct:Value) (us:List Value),us.length=ps.length->bindArgs (PySem.W.fnOf x x (fF st) (cZ st) (aG st) .none kV doc pm an cdv ct) ⟨us,[]⟩=pure (ps.zip us)
section
variable {P:Program}{w:World}{K:aPu}{mg:aPx}{base:Heap}{h:Heap}
theorem aEj{k:Nat}{s:OA}{wB:WS}(e:dJ K x st)(KX:K.In h)(G:h.Ns mainGlobals mg)(g:bN x st ps)(S:aV N ps (aG st))(len:∀ds mh R,s ds mh R->ds.length=ps.length)
  (i:∀(f:Addr) (cdv:Value) (A:Around) (outer:List Env) (s:Shared) (H:Hp) (E:XK),iS k (A.deeper (envOfC x (aG st) s.heap.objs.size f cdv))->
   jQ (yZ HX P w K mg base N x (aG st) f cdv A outer s H E).XJ (cZ st) wB)
  (j:∀ds mh R,iT mh->aX mh.length ds=true->s ds mh R->wB {nx:=λ_ b=>Out mh.length .bU b R,rt:=λd b=>Out mh.length d b R} (aJ N ds) mh):Fn P w K mg base (k+1) x ps s:=by
 obtain⟨f,oc,od,kV,doc,pm,an,n,ct,sl,a,l,c,kp⟩:=e;have F:=JY (st:=st) l c kp;exact⟨f,_,aIg F S len (λcdv A outer s H E m=>i f cdv A outer s H E m) j,aPn KX G a,kp,F.binds g⟩
theorem GW{k:Nat}(b:dJ K x st)(KX:K.In h)(G:h.Ns mainGlobals mg)(d:bN x st ps):Fn P w K mg base k x ps (λ_ _ _=>False):=by
 obtain⟨f,oc,od,kV,doc,pm,an,e,ct,sl,a,l,c,kp⟩:=b;have F:=JY (st:=st) l c kp;refine⟨f,_,⟨λvs H Q E q=>?_,λA outer s H args us vs Q E _ _ _ _ q=>?_⟩,aPn KX G a,kp,F.binds d⟩
 ·obtain⟨_,_,_,_,_,_,q,_⟩:=q;exact q.elim
 ·obtain⟨_,_,_,_,_,_,q,_⟩:=q;exact q.elim
end
def zR:OA:=λds mh Q=>∃ns:List Int,ds=[.fl (ns.map .int)]/\ns.length<=63/\∀mh',Q (.bl true) mh'
theorem yI{K:aPu}{μ:List Addr}{H:Hp}:∀ns:List Int,IsL K μ H (ns.map .int) (ns.map .int)
 | []=>by simp[IsL]
 | n::ns=>by simp only[List.map_cons];unfold IsL;exact⟨_,_,rfl,.int,yI ns⟩
theorem aDh{ns:List Int}(b:ns.length<=63)(c:ZT H)(hS:rA K H a (ns.map V.int)):VE K zR [.ref a] H (λv _=>v= .bl true) λ_ _ _=>False:=by
 have e:VG K H a (ns.map V.int):=by
  rcases hS with (hS | hS) | hS
  ·rcases c a with z | ⟨o,xs,z⟩
   ·rw[hS]at z;cases z
   ·rw[hS]at z;cases z
  ·exact .inl hS
  ·exact .inr hS
 refine⟨[],[],[.fl (ns.map .int)],λd _=>d= .bl true,⟨rfl,List.nodup_nil,λn a o f=>by simp at f⟩,?_,⟨ns,rfl,b,λ_=>rfl⟩,λd mh' q μ' v H' _ _ I=>?_⟩
 ·refine kZ ?_;unfold Is;exact⟨a,_,rfl,e,yI ns⟩
 ·subst q;exact BK I
theorem walkD{l:PySem.W.OpenLaw}{k:Nat}{q:Program}{loose:List Str}{XP:(aPx)->Heap->Prop}{c:World->Heap->Prop}{d:DefRec}{K:Params->aPu}(g:l.most=some 63)(b:d.params.defaults=[])(i:iS k callerA)
  (j:∀(w:World) (h:Heap),c w h->(K w.params).In h)
  (F:∀(w:World) (mg:aPx) (e:Addr) (h:Heap),(K w.params).In h->h.Ns mainGlobals mg->mg d.name=some (.ref e)->
   ∃fd:FuncData,(∀(s:Shared) (u:Value),BindsTo s fd ⟨[u],[]⟩ [(x,u)])/\∀base:Heap,(K w.params).In base->base.Ns mainGlobals mg->mG l.prog w (K w.params) mg base HX k e fd [x] (VE (K w.params) zR)):
  PySem.W.WalkO q loose XP c l.row.toRowW d [] (λf vs=>PySem.call f vs):=
 L2.VO (n:=63) (k:=k) (x:=x) (CX:=λ_=>HX) (sp:=λw=>VE (K w.params) zR) g (by decide) b i j F (λ_ _ a ns m o p=>aDh m o p) λ_ _ _ _ _ z=>z
theorem aDj{k:Nat}{g:Addr}(KX:K.In h)(G:h.Ns mainGlobals mg)(i:mg "law"=some (.ref g))(j:dJ K "law" st)(S:aV N [x] (aG st))(m:bN "law" st [x])
  (n:∀base:Heap,∃wB:WS,(∀(f:Addr) (cdv:Value) (A:Around) (outer:List Env) (s:Shared) (H:Hp) (E:XK),iS k (A.deeper (envOfC "law" (aG st) s.heap.objs.size f cdv))->
   jQ (yZ HX P w K mg base N "law" (aG st) f cdv A outer s H E).XJ (cZ st) wB)/\
   ∀ds mh R,iT mh->aX mh.length ds=true->zR ds mh R->wB {nx:=λ_ b=>Out mh.length .bU b R,rt:=λd b=>Out mh.length d b R} (aJ N ds) mh):
  ∃fd:FuncData,(∀(s:Shared) (u:Value),BindsTo s fd ⟨[u],[]⟩ [(x,u)])/\∀base:Heap,mG P w K mg base HX (k+1) g fd [x] (VE K zR):=by
 obtain⟨f,oc,od,kV,doc,pm,an,o,ct,sl,a,l,c,kp⟩:=j;have e:=i.symm.trans (aPn KX G a);cases e;have F:=JY (st:=st) l c kp;refine⟨_,λs u=>.of_eq (m kV doc pm an o ct [u] rfl),λbase=>?_⟩;obtain⟨wB,p,q⟩:=n base;exact aIg F S (λds mh R r=>by obtain⟨ns,rfl,_⟩:=r;rfl) (λcdv A outer s H E t=>p g cdv A outer s H E t) q
theorem bl_mk(KX:K.In h)(G:h.Ns mainGlobals mg)
  (l:PySem.W.nsIn K mainGlobals "len"=some none) (m:PySem.W.nsIn K mainGlobals "range"=some none) (n:PySem.W.nsIn K mainGlobals "zip"=some none) (o:PySem.W.nsIn K mainGlobals "all"=some none) (p:PySem.W.nsIn K mainGlobals "any"=some none) (q:PySem.W.nsIn K mainGlobals "abs"=some none) (r:PySem.W.nsIn K mainGlobals "min"=some none) (s:PySem.W.nsIn K mainGlobals "max"=some none) (t:PySem.W.nsIn K mainGlobals "isinstance"=some none) (a:PySem.W.nsIn K mainGlobals "sorted"=some none) (b:PySem.W.nsIn K mainGlobals "int"=some none) (c:PySem.W.nsIn K mainGlobals "str"=some none) (d:PySem.W.nsIn K mainGlobals "bool"=some none) (e:PySem.W.nsIn K mainGlobals "list"=some none) (f:PySem.W.nsIn K mainGlobals "tuple"=some none) (g:PySem.W.nsIn K mainGlobals "set"=some none) (i:PySem.W.nsIn K mainGlobals "dict"=some none) (j:PySem.W.nsIn K mainGlobals "sum"=some none) (k:PySem.W.nsIn K mainGlobals "enumerate"=some none):Bl mg:=
 ⟨aMl KX G l,aMl KX G m,aMl KX G n,aMl KX G o,aMl KX G p,aMl KX G q,aMl KX G r,aMl KX G s,aMl KX G t,aMl KX G a,aMl KX G b,aMl KX G c,aMl KX G d,aMl KX G e,aMl KX G f,aMl KX G g,aMl KX G i,aMl KX G j,aMl KX G k⟩
theorem yF{a b:Key}(h:bJ a=bJ b):a=b:=by
 cases a <;> cases b <;> simp[bJ]at h <;> rw[h]
open Classical in
noncomputable def putD(kvs:List (D×D))(k v:D):List (D×D):=if ∃p∈kvs,p.1=k then kvs.map (λp=>if p.1=k then (p.1,v) else p) else kvs++[(k,v)]
theorem Q9(kvs:List (D×D))(k v:D):(putD kvs k v).length<=kvs.length+1:=by
 unfold putD;split <;> simp
section
variable {K:aPu}{μ:List Addr}{H:Hp}{κ:Type}[DecidableEq κ]{f:κ->D}
theorem FQ(g:∀{a b},f a=f b->a=b)(k:κ){d:D}{v:V}(hd:Is K μ H d v):∀(kvs:List (D×D)) (kk:List (κ×V)),kvs.map (·.1)=kk.map (λp=>f p.1)->IsL K μ H (kvs.map (·.2)) (kk.map (·.2))->
  IsL K μ H ((open Classical in kvs.map λp=>if p.1=f k then (p.1,d) else p).map (·.2)) ((kk.map λp=>if p.1=k then (p.1,v) else p).map (·.2))
 | [],[],_,_=>by simp[IsL]
 | [],_::_,h,_=>by simp at h
 | _::_,[],h,_=>by simp at h
 | p::kvs,q::kk,h,l=>by
  simp only[List.map_cons,List.cons.injEq]at h;simp only[List.map_cons]at l⊢;unfold IsL at l⊢;obtain⟨w,r,e,i,l⟩:=l;simp only[List.cons.injEq]at e;obtain⟨rfl,rfl⟩:=e;have j:=FQ g k hd kvs kk h.2 l;by_cases c:q.1=k
  ·have:p.1=f k:=by rw[h.1,c]
   simp only[if_pos c,if_pos this];exact⟨_,_,rfl,hd,j⟩
  ·have:¬p.1=f k:=λz=>c (g (h.1.symm.trans z));simp only[if_neg c,if_neg this];exact⟨_,_,rfl,i,j⟩
theorem WM(m:∀{a b},f a=f b->a=b)(k:κ){v:V}(hd:Is K μ H d v){kvs:List (D×D)}{kk:List (κ×V)}(h:kvs.map (·.1)=kk.map (λp=>f p.1))(l:IsL K μ H (kvs.map (·.2)) (kk.map (·.2))):
  (putD kvs (f k) d).map (·.1)=(putK kk k v).map (λp=>f p.1)/\IsL K μ H ((putD kvs (f k) d).map (·.2)) ((putK kk k v).map (·.2)):=by
 have same:(∃p∈kvs,p.1=f k)↔(kk.any λn=>decide (n.1=k))=true:=by
  rw[List.any_eq_true];constructor
  ·rintro⟨p,i,e⟩;have:f k∈kk.map (λp=>f p.1):=by rw[<-h,<-e];exact aMd.mpr ⟨p,i,rfl⟩
   obtain⟨q,j,g⟩:=aMd.mp this;exact⟨q,j,by simpa using m g⟩
  ·rintro⟨q,j,e⟩;have:f q.1∈kvs.map (·.1):=by rw[h];exact aMd.mpr ⟨q,j,rfl⟩
   obtain⟨p,i,g⟩:=aMd.mp this;exact⟨p,i,by rw[g];simp at e;rw[e]⟩
 unfold putD putK;by_cases c:∃p∈kvs,p.1=f k
 ·rw[if_pos c,if_pos (same.mp c)];refine⟨?_,FQ m k hd kvs kk h l⟩
  have o:(open Classical in kvs.map λp=>if p.1=f k then (p.1,d) else p).map (·.1)=kvs.map (·.1):=by
   rw[List.map_map];apply aMh;intro p _;simp only[Function.comp];split <;> rfl
  have g:(kk.map λp=>if p.1=k then (p.1,v) else p).map (λp=>f p.1)=kk.map (λp=>f p.1):=by
   rw[List.map_map];apply aMh;intro p _;simp only[Function.comp];split <;> rfl
  rw[o,g,h]
 ·rw[if_neg c,if_neg (λz=>c (same.mpr z))];refine⟨by simp[h],?_⟩;simp only[List.map_append,List.map_cons,List.map_nil];exact gE l (kZ hd)
end
theorem NA{o:MO}{ob:HO}(R:Rep K μ mh H)(h:μ[n]? =some a)(hm:VB (some ob))(l:qC K μ (upd H a ob) o a):Rep K μ (mh.set n o) (upd H a ob):=by
 have P:aZ μ H μ (upd H a ob):=aZ.set R h;refine⟨by simp[R.len],R.nd,λm b f d e=>?_⟩;by_cases c:m=n
 ·subst c;rw[h]at d;cases d;have g:m<mh.length:=by rw[<-R.len];exact(aM6.mp h).1
  rw[List.getElem?_set_self g]at e;cases e;exact l
 ·rw[List.getElem?_set_ne (Ne.symm c)]at e;exact(R.obj m b f d e).mono R P (bD λz=>c (R7 R.nd d (by rw[z];exact h)))
theorem Rep.aHi{q:Addr}{o:MO}{ob:HO}(R:Rep K μ mh H)(a:H q=none)(l:qC K (μ++[q]) (upd H q ob) o q):Rep K (μ++[q]) (mh++[o]) (upd H q ob):=by
 have b:Rep K μ mh (upd H q ob):=R.new a;exact b.U3 (λz=>R.ne a z rfl) l
def VQ(t:Bool):WE:=λ_ mh Q=>Q (.ref mh.length) (mh++[.dic t []])
section
variable {X:Cx}{pos:Pos}
theorem X9:LE X (.Dict [] [] pos) (VQ false):=PE.imp RN λσ H Q h=>by
 obtain⟨μ,c,mh,R,a,E,h,F⟩:=h;intro p b;exact F _ _ h (μ++[p]) _ _ (aZ.OD a b) (a.aHi b ⟨[],⟨[],bY,rfl,rfl⟩,by simp[IsL]⟩) (by unfold Is;exact⟨p,by rw[<-a.len];simp,rfl⟩)
end
theorem v9{k:Key}{v:V}(h:Is K μ H (bJ k) v):v=kV k:=by
 cases k <;> (simp only[bJ]at h;unfold Is at h;exact h)
theorem tY{K:aPu}{μ:List Addr}{H:Hp}:∀{ks:List Key} {vs:List V},IsL K μ H (ks.map bJ) vs->vs=ks.map kV
 | [],vs,h=>by simp only[List.map_nil]at h;unfold IsL at h;exact h
 | k::ks,vs,h=>by
  simp only[List.map_cons]at h;unfold IsL at h;obtain⟨v,r,rfl,i,l⟩:=h;rw[v9 i,tY l];rfl
theorem D0{v:V}{t:Bool}{kvs:List (D×D)}(R:Rep K μ mh H)(h:Is K μ H (.ref n) v)(e:mh[n]? =some (.dic t kvs)):∃a vs,v= .ref a/\μ[n]? =some a/\VC (H a) (kvs.map (·.1)) vs t/\IsL K μ H (kvs.map (·.2)) vs:=by
 obtain⟨a,q,rfl⟩:=oQ h;obtain⟨vs,b,l⟩:=R.obj n a _ q e;exact⟨a,vs,rfl,q,b,l⟩
def aA4(o k d:D)(mh:MH)(Q:MH->Prop):Prop:=∃n kvs a,o= .ref n/\mh[n]? =some (.dic false kvs)/\k=bJ a/\kvs.length<sizeLine/\Q (mh.set n (.dic false (putD kvs k d)))
def QG(w g wi:WE):WS:=λE a mh=>w a mh λd b=>g a b λo c=>wi a c λi e=>aA4 o i d e λf=>E.nx a f
section
variable {X:Cx}{pos pos' tpos:Pos}{o i e:Expr}{es:List Expr}{w wo wi:WE}{wa:WA}
theorem XZ(hu:X.A.units+64<cLine)(he:LE X e w)(ho:LE X o wo)(hi:LE X i wi)(L:swapsWith e (some (.Subscript o i pos')) pos.line X.env=pure false:=by rfl):LS X (.Assign [.Subscript o i pos'] e pos) (QG w wo wi):=
 PS.imp (WX (by lia) ho hi he L) λD σ H h=>by
  obtain⟨μ,j,mh,E,R,En,h,F⟩:=h;refine⟨μ,j,mh,_,R,En,h,λd p q r v H1 s C M=>?_⟩;refine⟨r,j,p,_,C,En.mono R s,q,λN t O u vo H2 x R2 P=>?_⟩;refine⟨u,j,t,_,R2,En.mono R (s.trans x),O,λdi y Q b vi z B m S=>?_⟩;obtain⟨n,kvs,c,rfl,T,rfl,hz,U⟩:=Q;obtain⟨a,vs,rfl,G,⟨kk,V,I,rfl⟩,l⟩:=D0 m (Is.mono R2 B _ _ P) T;cases v9 S;have W:=Is.mono C (x.trans B) d v M;have J:aZ b z b (upd z a (.dK (putK kk c v))):=aZ.set m G;have ln:kk.length=kvs.length:=by have:=aN5 List.length I;simp at this;lia
  obtain⟨Y,Z⟩:=WM (f:=bJ) yF c W I l;have R4:Rep X.K b (y.set n (.dic false (putD kvs (bJ c) d))) (upd z a (.dK (putK kk c v))):=NA m G (by trivial) ⟨_,⟨_,bY,Y,rfl⟩,Z.mono m J⟩;have g:=((s.trans x).trans B).trans J;exact⟨a,_,rfl,.k V (by lia),F.nx j _ U b σ _ g R4 (En.mono R g)⟩
end
def ES(h:Heap)(d:Addr)(es:Array DictEntry)(a:Nat):Prop:=∃o,h.get? d=some o/\o.ExactDict/\o.data= .dict es a
theorem ES.typeIs{s:Shared}{d:Addr}{es:Array DictEntry}{e:Nat}(x:ES s.heap d es e):s.TypeIs (.ref d) "dict":=let ⟨o,a,b,c⟩:=x;⟨o,a,b.1⟩
end D3
namespace TS
open PySem PySem.Spec PyProof.Rows L2
end TS
namespace D3
open PySem PySem.Spec PyProof.Rows L2
variable{μ:List Addr}
theorem aI3{K:aPu}{H:Hp}(k:Key):Is K μ H (bJ k) (kV k):=by
 cases k <;> (simp only[bJ];unfold Is;rfl)
theorem MQ{K:aPu}{μ:List Addr}{H:Hp}:∀ks:List Key,IsL K μ H (ks.map bJ) (ks.map kV)
 | []=>by simp[IsL]
 | k::ks=>by simp only[List.map_cons];unfold IsL;exact⟨_,_,rfl,aI3 k,MQ ks⟩
theorem Q5{P:Program}{w:World}{k:Key}{u:Value}(h:(aW P w).is k u=true):RelV (kV k) u:=by
 rcases bL (k:=k) (v:=u) h with ⟨i,t,rfl,rfl⟩ | ⟨x,t,rfl,rfl⟩
 ·exact⟨t,rfl⟩
 ·exact⟨t,rfl⟩
theorem v5:∀x y:List Int,lx x y=false->lx y x=false->x=y
 | [],[],_,_=>rfl
 | [],b::y,h,_=>by simp[lx]at h
 | a::x,[],_,h=>by simp[lx]at h
 | a::x,b::y,h1,h2=>by
  unfold lx at h1 h2;by_cases e:a=b
  ·subst e;simp at h1 h2;rw[v5 x y h1 h2]
  ·have c :¬b=a:=λz=>e z.symm;simp[e,c]at h1 h2
   lia
theorem qO(x:List Int):lx x x=false:=by
 cases h:lx x x with
 | false=>rfl
 | true=>have:=sH x x h;rw[h]at this;cases this
theorem yS:∀{cs:List Sc} {es fs:List D},bA cs es=true->bA cs fs=true->(es.map cA).flatten=(fs.map cA).flatten->es=fs
 | [],[],[],_,_,_=>rfl
 | [],_::_,_,h,_,_=>by simp[bA]at h
 | [],_,_::_,_,h,_=>by simp[bA]at h
 | _::_,[],_,h,_,_=>by simp[bA]at h
 | _::_,_::_,[],_,h,_=>by simp[bA]at h
 | c::cs,e::es,f::fs,h1,h2,h=>by
  simp only[bA,Bool.and_eq_true]at h1 h2;simp only[List.map_cons,List.flatten_cons]at h
  have he:e=f:=by
   apply aMm;intro ne;have a:=jJ h1.1 h2.1 ne (es.map cA).flatten (fs.map cA).flatten;have b:=jJ h2.1 h1.1 (λz=>ne z.symm) (fs.map cA).flatten (es.map cA).flatten;rw[h,qO]at a;rw[<-h,qO]at b;exact ne (M6 h1.1 h2.1 (v5 _ _ a.symm b.symm))
  subst he;rw[yS h1.2 h2.2 (List.append_cancel_left h)]
theorem VS{ds:List D}(U:EV ds){d e:D}(hd:d∈ds)(he:e∈ds)(h:enc d=enc e):d=e:=by
 rcases U with ⟨c,a⟩ | ⟨c,cs,a⟩
 ·have b:=a d hd;have f:=a e he;cases c <;> cases d <;> simp[cH]at b <;> cases e <;> simp[cH]at f
  ·simpa[enc,cA] using h
  ·exact M6 (c:= .s) rfl rfl h
 ·obtain⟨es,rfl,b⟩:=a d hd;obtain⟨fs,rfl,f⟩:=a e he;rw[yS b f h]
theorem fK{ds:List D}(U:EV ds):∀{f c:List D},(∀d∈f,d∈ds)->f.Perm c->f.Pairwise (λd e=>lx (enc e) (enc d)=false)->c.Pairwise (λd e=>lx (enc e) (enc d)=false)->f=c
 | [],c,_,p,_,_=>(List.nil_perm.mp p).symm
 | a::t,c,hm,p,s1,s2=>by
  cases c with
  | nil=>exact absurd p.length_eq (by simp)
  | cons b u=>
   have ha:lx (enc b) (enc a)=false:=by
    rcases aMf.mp (p.mem_iff.mpr aM8) with z | z
    ·rw[z];exact qO _
    ·exact(aO2.mp s1).1 b z
   have g:lx (enc a) (enc b)=false:=by
    rcases aMf.mp (p.mem_iff.mp aM8) with z | z
    ·rw[z];exact qO _
    ·exact(aO2.mp s2).1 a z
   have e:a=b:=VS U (hm a aM8) (hm b (p.mem_iff.mpr aM8)) (v5 _ _ g ha);subst e;rw[fK U (λd hd=>hm d (List.mem_cons_of_mem _ hd)) (List.Perm.cons_inv p) (List.pairwise_cons.mp s1).2 (List.pairwise_cons.mp s2).2]
def gJ(mh:MH)(b:Nat)(mh' :MH):Prop:=∃a T,mh' =a++T/\gP mh b a
variable{mh:MH}{b:Nat}
theorem gJ.refl(h:HY mh b):gJ mh b mh:=⟨mh,[],by simp,.refl h⟩
variable{mh':MH}
theorem gJ.le(h:gJ mh b mh'):mh.length<=mh'.length:=by
 obtain⟨a,T,rfl,t⟩:=h;rw[List.length_append,t.len];lia
theorem gJ.blt(h:gJ mh b mh'):b<mh.length:=by
 obtain⟨a,T,rfl,t⟩:=h;rw[<-t.len];exact t.1.lt
theorem gJ.bag(h:gJ mh b mh'):HY mh' b:=by
 obtain⟨a,T,rfl,⟨c,m,e,r⟩,_⟩:=h;exact⟨c,m,by rw[List.getElem?_append_left (List.getElem?_eq_some_iff.mp e).1];exact e,r⟩
theorem gJ.to{mh mh' a:MH}(h:gJ mh b mh')(t:gP mh' b a):gJ mh b a:=by
 have i:=h.blt;obtain⟨d,T,rfl,g⟩:=h;have f:b<d.length:=by rw[g.len];exact i
 obtain⟨⟨c,m,e,r⟩,o,rfl⟩:=t;rw[List.set_append_left _ _ f]at e⊢;refine⟨d.set b o,T,rfl,g.trans ⟨⟨c,m,?_,r⟩,o,rfl⟩⟩;rw[List.getElem?_append_left (by simpa using f)]at e;exact e
theorem gJ.push(h:gJ mh b mh')(o:MO):gJ mh b (mh' ++[o]):=by
 obtain⟨a,T,rfl,c⟩:=h;exact⟨a,T++[o],by simp,c⟩
theorem gJ.set{b n:Nat}(h:gJ mh b mh')(d:mh.length<=n)(o:MO):gJ mh b (mh'.set n o):=by
 obtain⟨a,T,rfl,c⟩:=h;refine⟨a,T.set (n-a.length) o,?_,c⟩;rw[List.set_append_right _ _ (by rw[c.len];exact d)]
theorem E9{a:Int}{Q:DK}(h:gJ mh b mh')(d:1<=a)(e:a<=1073741789)
  (q:∀r c,0<=r->r<a->gJ mh b c->c.length=mh'.length->(∀n,mh.length<=n->c[n]? =mh'[n]?)->Q (.int r) c):fA [.ref b,.int a] mh' Q:=
 ⟨b,a,rfl,d,e,h.bag,λr c f g t=>q r c f g (h.to t) t.len λn i=>t.other (by have:=h.blt;lia)⟩
open Classical in
noncomputable def gI:List (D×D)->D->Option D
 | [],_=>none
 | p::r,k=>if p.1=k then some p.2 else gI r k
theorem CD{K:aPu}{μ:List Addr}{H:Hp}(a:Key):∀{kvs:List (D×D)} {kk:List (Key×V)},kvs.map (·.1)=kk.map (λp=>bJ p.1)->IsL K μ H (kvs.map (·.2)) (kk.map (·.2))->
  (tK kk a=none/\gI kvs (bJ a)=none)\/∃d v,tK kk a=some v/\gI kvs (bJ a)=some d/\Is K μ H d v
 | [],[],_,_=>.inl ⟨rfl,rfl⟩
 | [],_::_,h,_=>by simp at h
 | _::_,[],h,_=>by simp at h
 | p::kvs,q::kk,h,l=>by
  simp only[List.map_cons,List.cons.injEq]at h;simp only[List.map_cons]at l;unfold IsL at l;obtain⟨w,r,e,i,l⟩:=l;simp only[List.cons.injEq]at e;obtain⟨rfl,rfl⟩:=e;by_cases b:q.1=a
  ·right;have c:p.1=bJ a:=by rw[h.1,b]
   exact⟨p.2,q.2,rL b,by simp[gI,c],i⟩
  ·have c:¬p.1=bJ a:=λz=>b (yF (h.1.symm.trans z));rw[rM b];simp only[gI,if_neg c];exact CD a h.2 l
section
variable {X:Cx}
theorem YG(n:X.A.units+64<cLine):IxR X (λx y H Q=>∃a v,x= .ref a/\KS H a y (some v)/\Q v H):=by
 intro b c pins s σ H x y v u Q I j k h l;obtain⟨a,z,rfl,g,q⟩:=h;cases j;have i:=G5 I g;unfold subscriptTail;refine aM3 ?_;rw[getitemInPython_of_ne i.not_modules];refine aM3 (aO6 i PySem.F.slot_dict_getitem.lookup ?_)
 have d:wpAny (model X.prog X.w) X.A (subscripted c false (.ref a) u) (λr e=>wpAny (model X.prog X.w) X.A (letTemporaryGo b (.ref a) r >>=λ_=>pure r) (EP X pins σ Q) X.xe e) X.xe s:=by
  rw[l];exact wpAny_operating (PK (by lia) I g k λo p m f =>aM3 (wpAny_letTemporaryGo (aM4 ⟨z,H,m,f,q⟩)))
 first
  | exact aM4 (aM3 d)
  | exact aM3 (aM4 (aM3 d))
  | exact aM3 d
def aCi:O2:=λx y mh Q=>∃n kvs a d,x= .ref n/\mh[n]? =some (.dic false kvs)/\y=bJ a/\gI kvs y=some d/\Q d mh
theorem ixD(i:X.A.units+64<cLine):IxR X (bW X.K aCi):=by
 intro b c pins s σ H x y v u Q I j m q o;obtain⟨μ,mh,dx,D,R,g,ix,p,⟨n,kvs,f,d,rfl,e,rfl,hd,q⟩,F⟩:=q;obtain⟨a,vs,rfl,E,⟨kk,r,t,rfl⟩,l⟩:=D0 g ix e;cases v9 p
 rcases CD f t l with ⟨_,z⟩ | ⟨d',w,B,h,C⟩
 ·rw[hd]at z;cases z
 ·rw[hd]at h;cases h;exact YG i b c pins s σ H _ _ v u Q I j m ⟨a,w,rfl,by rw[<-B];exact .k r,F.here g q C⟩ o
end
def bestOf(f:Int->Int->Bool)(m:Int)(c:List Int):Int:=c.foldl (λa b=>if f b a then b else a) m
theorem HI(f:Int->Int->Bool)(m:Int)(a:List Int):∀k,k<=a.length->(m::a).getD (argBest (λi j=>f ((m::a).getD i 0) ((m::a).getD j 0)) k) 0=bestOf f m (a.take k)
 | 0,_=>by simp[argBest,bestOf]
 | k+1,h=>by
  have c:=HI f m a k (by lia);have b:k<a.length:=by lia
  have d:a.take (k+1)=a.take k++[a[k]]:=by rw[List.take_succ,List.getElem?_eq_getElem b];rfl
  have e:(m::a).getD (k+1) 0=a[k]:=by simp[b]
  have g:bestOf f m (a.take k++[a[k]])=if f a[k] (bestOf f m (a.take k))=true then a[k] else bestOf f m (a.take k):=by unfold bestOf;rw[List.foldl_append];rfl
  rw[d,g,<-c,<-e];simp only[argBest];split <;> rfl
theorem sM{K:aPu}{μ:List Addr}{H:Hp}:∀{ns:List Int} {vs:List V} {us:List Value},IsL K μ H (ns.map .int) vs->Vals vs us->IntsAre us ns
 | [],vs,us,l,r=>by unfold IsL at l;subst l;cases r;exact .nil
 | n::ns,vs,us,l,r=>by
  simp only[List.map_cons]at l;unfold IsL at l;obtain⟨v,c,rfl,i,l⟩:=l;cases b9 i
  cases r with
  | cons a b=>
   obtain⟨t,rfl⟩:=a;exact .cons n t (sM l b)
def aAj(f:Int->Int->Bool):OA:=λxs mh Q=>∃x m a,xs=[x]/\bF mh x=some ((m::a).map .int)/\Q (.int (bestOf f m a)) mh
abbrev U6:OA:=aAj λa b=>decide (a > b)
abbrev U5:OA:=aAj λa b=>decide (a<b)
section
variable {X:Cx}
theorem GN{prog:Program}{w:World}{A:Around}{E:aPv}{s:Shared}{l:Addr}{items:Array Value}{Q:aPv}(b:s.heap.IsTuple l items)
  (h:∀a:Shared,a={s with heap:=s.heap.push {cls:= .type "tuple_iterator",data:= .fields #[.ref l,.int 0 0]}}->
   (a.heap.IsTupleIter s.heap.objs.size l 0/\a.heap.IsTuple l items)->l<s.heap.objs.size->Q (.ref s.heap.objs.size) a):
  wpAny (model prog w) A (pyIter (.ref l)) Q E s:=by
 have c:l<s.heap.objs.size:=by obtain⟨_,e,_⟩:=b;exact aMb e
 exact aOq b (h _ rfl ⟨⟨_,aMa _ rfl,rfl,rfl⟩,b.push _⟩ c)
theorem sZ{pins:List (Addr×Obj)}{σ:L2.St}{H:Hp}{s:Shared}{R:DK}{Q:VK}{f:Int->Int->Bool}{m:Int}{a:List Int}{aM:List Value}{v:Value}{h' :Heap}{c:Nat}
  (I:Inv X pins σ H s) (d:Rep X.K μ mh H) (F:Fin X.K μ H R Q) (q:R (.int (bestOf f m a)) mh) (e:IntsAre aM (m::a))
  (g:aM[argBest (λi j=>f ((m::a).getD i 0) ((m::a).getD j 0)) a.length]? =some v) (h:∀b o',s.heap.get? b=some o' ->h'.get? b=some o'):
  EP X pins σ Q v {s with heap:=h',toks:=c}:=by
 obtain⟨t,rfl⟩:=e.int_at _ _ g;refine⟨.int (bestOf f m a),H,I.kept h,⟨t,?_⟩,F.here d q .int⟩;rw[HI f m a a.length (Nat.le_refl _),List.take_length]
theorem sL{aM:List Value}{ns:List Int}(a:IntsAre aM ns):∀(i:Nat) (v:Value),aM.toArray[i]? =some v->∃t,v= .int (ns.getD i 0) t:=λi v b=>a.int_at i v (by simpa using b)
theorem ZF(C:X.calm=true):cG X (.builtin "max") (eB X.K U6):=by
 intro pins s σ H xs us Q I r q;obtain⟨μ,mh,ds,R,p,D,⟨x,m,f,rfl,e,q⟩,F⟩:=q;obtain⟨v,rfl,E⟩:=eD D;obtain⟨a,vs,rfl,sq,l⟩:=qL p E e;obtain⟨u,rfl,G⟩:=vals1 r;cases G;rcases sq with sq | sq
 ·obtain⟨aM,t,o,hz⟩:=I.list sq;have g:=sM l t;have c:aM.length=f.length+1:=by have:=g.length;simpa using this
  refine call_max_walk (o7 o.isList λh w st y=>?_);have d:a<s.heap.objs.size:=by obtain⟨_,e,_⟩:=o.isList;exact aMb e
  subst w;refine⟨_,_,_,_,_,_,λi j=>decide ((m::f).getD i 0 > (m::f).getD j 0),rfl,Walks.list (A:=X.A.in1) (I.ok.hd C) _ a y aM.toArray,st,?_,by simp[c],CmpOf.ints_gt (λi=>(m::f).getD i 0) (sL g),λv h' J z B=>?_⟩
  ·intro b k;simp only[List.mem_cons,List.not_mem_nil,or_false]at k;simp only[Heap.size_push];rcases k with rfl | rfl
   ·exact aMt _
   ·exact aMw d
  ·refine sZ (s:=s) I p F q g (by simpa[c] using z) λb o' n =>B b o' (by simp;exact aMg (aMb n)) (aM5 _ n)
 ·obtain⟨aM,t,o,hz⟩:=I.tuple sq;have g:=sM l t;have c:aM.length=f.length+1:=by have:=g.length;simpa using this
  refine call_max_walk (GN (show s.heap.IsTuple a aM.toArray from o) λh w st d=>?_);subst w;refine⟨_,_,_,_,_,_,λi j=>decide ((m::f).getD i 0 > (m::f).getD j 0),rfl,Walks.tuple (A:=X.A.in1) (I.ok.hd C) _ a (aMg d) aM.toArray,st,?_,by simp[c],CmpOf.ints_gt (λi=>(m::f).getD i 0) (sL g),λv h' J z B=>?_⟩
  ·intro b k;simp only[List.mem_cons,List.not_mem_nil,or_false]at k;simp only[Heap.size_push];rcases k with rfl | rfl
   ·exact aMt _
   ·exact aMw d
  ·refine sZ (s:=s) I p F q g (by simpa[c] using z) λb o' n =>B b o' (by simp;exact aMg (aMb n)) (aM5 _ n)
theorem ZD(C:X.calm=true):cG X (.builtin "min") (eB X.K U5):=by
 intro pins s σ H xs us Q I r q;obtain⟨μ,mh,ds,R,p,D,⟨x,m,f,rfl,e,q⟩,F⟩:=q;obtain⟨v,rfl,E⟩:=eD D;obtain⟨a,vs,rfl,sq,l⟩:=qL p E e;obtain⟨u,rfl,G⟩:=vals1 r;cases G;rcases sq with sq | sq
 ·obtain⟨aM,t,o,hz⟩:=I.list sq;have g:=sM l t;have c:aM.length=f.length+1:=by have:=g.length;simpa using this
  refine call_min_walk (o7 o.isList λh w st y=>?_);have d:a<s.heap.objs.size:=by obtain⟨_,e,_⟩:=o.isList;exact aMb e
  subst w;refine⟨_,_,_,_,_,_,λi j=>decide ((m::f).getD i 0<(m::f).getD j 0),rfl,Walks.list (A:=X.A.in1) (I.ok.hd C) _ a y aM.toArray,st,?_,by simp[c],CmpOf.ints_lt (λi=>(m::f).getD i 0) (sL g),λv h' J z B=>?_⟩
  ·intro b k;simp only[List.mem_cons,List.not_mem_nil,or_false]at k;simp only[Heap.size_push];rcases k with rfl | rfl
   ·exact aMt _
   ·exact aMw d
  ·refine sZ (s:=s) I p F q g (by simpa[c] using z) λb o' n =>B b o' (by simp;exact aMg (aMb n)) (aM5 _ n)
 ·obtain⟨aM,t,o,hz⟩:=I.tuple sq;have g:=sM l t;have c:aM.length=f.length+1:=by have:=g.length;simpa using this
  refine call_min_walk (GN (show s.heap.IsTuple a aM.toArray from o) λh w st d=>?_);subst w;refine⟨_,_,_,_,_,_,λi j=>decide ((m::f).getD i 0<(m::f).getD j 0),rfl,Walks.tuple (A:=X.A.in1) (I.ok.hd C) _ a (aMg d) aM.toArray,st,?_,by simp[c],CmpOf.ints_lt (λi=>(m::f).getD i 0) (sL g),λv h' J z B=>?_⟩
  ·intro b k;simp only[List.mem_cons,List.not_mem_nil,or_false]at k;simp only[Heap.size_push];rcases k with rfl | rfl
   ·exact aMt _
   ·exact aMw d
  ·refine sZ (s:=s) I p F q g (by simpa[c] using z) λb o' n =>B b o' (by simp;exact aMg (aMb n)) (aM5 _ n)
end
def aG1(b:TA):TE:=λσ H Q=>b σ H λvs a=>∃j:Int,vs=[.int j]/\ -(2^62)<=j/\j<2^62/\∀p,a p=none->Q (.ref p) (upd a p (.rng 0 j))
theorem W6{X:Cx}{a:Expr}{b:TA}{p pos:Pos}(hg:Gl X "range")(hm:X.mg "range"=none)(ha:PA X [a] b)(f:starEach [a] X.env=[(false,eval a X.env)]:=by rfl):PE X (.Call (.Name "range" p) [a] [] pos) (aG1 b):=by
 intro pins s σ H Q I h;refine Call_ (qP I hg hm boot_range (aNb (dZ (ha pos pins s σ H _ I h) λus s1 ⟨vs,k,c,g,d⟩=>?_) f rfl));obtain⟨j,e,d,l,q⟩:=d;subst e
 cases g with
 | cons r i=>
  cases i;obtain⟨t,rfl⟩:=r;exact call_range_1 ⟨.ref s1.heap.objs.size,_,c.laid (a:=s1.heap.objs.size) (o:= .rng 0 j) (λ_ _ q=>aM5 _ q) (aM7 _) ⟨_,_,_,aMa _ rfl⟩,rfl,q _ (c.cS.fresh (aM7 _))⟩
theorem E4:∀(vs:List Value) (n:Nat) (k:Int),vs.length=n->(∀(j:Nat) (v:Value),vs[j]? =some v->∃t,v=Value.int (k+j) t)->Vals ((List.range n).map λ(i:Nat)=>V.int (k+(i:Int))) vs
 | [],0,_,_,_=>.nil
 | [],n+1,_,h,_=>by simp at h
 | v::vs,0,_,h,_=>by simp at h
 | v::vs,n+1,k,h,hi=>by
  rw[List.range_succ_eq_map,List.map_cons,List.map_map];refine .cons ?_ ?_
  ·obtain⟨t,e⟩:=hi 0 v rfl;exact⟨t,by simpa using e⟩
  ·have:=E4 vs n (k+1) (by simpa using h) λj v a=>by
    obtain⟨t,e⟩:=hi (j+1) v (by simpa using a);exact⟨t,by rw[e];congr 1;push_cast;lia⟩
   have e:((λi:Nat=>V.int (k+(i:Int))) ∘ Nat.succ)=λi:Nat=>V.int (k+1+(i:Int)):=by
    funext i;simp only[Function.comp];congr 1;push_cast;lia
   rw[e];exact this
theorem EC{X:Cx}(c:X.calm=true):cG X (.type "list") (λxs H Q=>∃a j,xs=[.ref a]/\H a=some (.rng 0 j)/\ -(2^62)<=j/\j<=16777216/\∀p,H p=none->Q (.ref p) (upd H p (.lst ((List.range j.toNat).map λ(i:Nat)=>V.int (0+(i:Int)))))):=by
 intro pins s σ H xs us Q I r q;obtain⟨a,j,rfl,e,d,y,q⟩:=q;obtain⟨u,rfl,f⟩:=vals1 r;cases f
 obtain⟨t,u,v,g⟩:=(show dF X.prog X.w H s.heap a (.rng 0 j) from I.cS a _ e)
 refine call_list_range (n:=j.toNat) (I.ok.hd c) g (small_one (by lia) (by lia) d (by lia)) (by rw[rangeSize_one];split <;> lia) (by lia) λh' h b k l m hi=>?_;refine⟨.ref s.heap.objs.size,_,I.laid (a:=s.heap.objs.size) (o:= .lst ((List.range j.toNat).map λ(i:Nat)=>V.int (0+(i:Int)))) (t' :=h) l (aM7 _) ⟨by simp[sizeLine_eq];lia,b.toList,k,E4 _ _ _ (by simpa using hi.1) λi v x=>?_,by simpa using m⟩,rfl,q _ (I.cS.fresh (aM7 _))⟩;obtain⟨t,e⟩:=hi.2 i v (by simpa using x);exact⟨t,by rw[e];simp⟩
def nY(b:WA):WE:=λc mh Q=>b c mh λds a=>∃j,ds=[.int j]/\ -(2^62)<=j/\j<=16777216/\Q (.ref a.length) (a++[.lst (dU 0 j.toNat)])
@[simp] theorem aFg (b:WA)(c:iM)(mh:MH)(Q:DK):nY b c mh Q=(b c mh λds a=>∃j,ds=[.int j]/\ -(2^62)<=j/\j<=16777216/\Q (.ref a.length) (a++[.lst (dU 0 j.toNat)])):=rfl
theorem YK{K:aPu}{H:Hp}(lo:Int)(n:Nat):IsL K μ H (dU lo n) ((List.range n).map λ(i:Nat)=>V.int (lo+(i:Int))):=by
 have:=yI (K:=K) (μ:=μ) (H:=H) ((List.range n).map λ(i:Nat)=>lo+(i:Int));rw[List.map_map,List.map_map]at this;exact this
theorem JM{X:Cx}{a:Expr}{f:WA}{l c d pos:Pos}(m:X.calm=true)(hm:X.mg "list"=none)(n:X.mg "range"=none)(ha:LA X [a] f)(hg:Gl X "list":=by rfl)(e:Gl X "range":=by rfl)
  (o:starEach [a] X.env=[(false,eval a X.env)]:=by rfl)
  (b:starEach [.Call (.Name "range" c) [a] [] d] X.env=(false,eval (.Call (.Name "range" c) [a] [] d) X.env)::starEach [] X.env:=by rfl):
  LE X (.Call (.Name "list" l) [.Call (.Name "range" c) [a] [] d] [] pos) (nY f):=
 PE.imp (tQ (EC m) hg hm ZL (r6 (W6 e n ha o) xR b) (by decide) (by decide) b rfl) λσ H Q h=>by
  obtain⟨μ,r,mh,R,s,E,h,F⟩:=h;refine⟨μ,r,mh,_,s,E,h,λds t u w vs B x g y=>?_⟩;obtain⟨j,rfl,i,z,q⟩:=u;obtain⟨v,rfl,A⟩:=eD y;cases b9 A;refine⟨j,rfl,i,by lia,λp k=>?_⟩;show ∃a C,[V.ref p]=[.ref a]/\_;exact⟨p,j,rfl,bY,i,z,k7 (g.new k) (F.at (x.trans (aZ.new g k))) (YK 0 j.toNat) q⟩
section
variable {prog:Program}{w:World}{A:Around}{E:aPv}{s:Shared}
variable{items:Array Value}{e:Value->Bool}
theorem TH{x:Value}{j:Nat}(l:j<items.size)(a:e items[j]=true)(c:∀m (hm:m<items.size),m<j->e items[m]=false)
  (he:∀y,y∈items->SeqAt.EqAt A s y x (e y)) {R:Option PySem.Fin×Unit->Shared->Prop} (h:R (some (.done (.ret (.int j s.toks))),()) {s with toks:=s.toks+1}):
  ∀(n i:Nat),i<=j->i+n=items.size->
   wpAny (model prog w) A (forIn (List.range' i n 1) ((none,()):Option PySem.Fin×Unit) λ(i:Nat) f=>
      match items[i]? with
      | some y=>do
       let b<-eqBool y x
       if b=true then do
         let r<-retInt (i:Int)
         pure (ForInStep.done (some r,()))
        else pure (ForInStep.yield (none,()))
      | x=>pure (ForInStep.yield (none,()))) R E s:=by
 intro n
 induction n with
 | zero=>intro i g k;lia
 | succ n ih=>
  intro i g k;have hi:i<items.size:=by lia
  rw[List.range'_succ];refine PySem.W.KPc.turn ?_;rw[show items[i]? =some items[i] by simp[hi]];dsimp only;refine aM3 (he _ (Array.getElem_mem hi) prog w _ _ ?_);by_cases d:i=j
  ·subst d;rw[a,if_pos rfl];refine aM3 (m:=retInt (i:Int)) ?_;unfold retInt;exact aM3 (aPm (aM4 (aM4 h)))
  ·rw[c i hi (by lia),if_neg Bool.false_ne_true];exact aM4 (ih (i+1) (by lia) (by lia))
theorem NQ{t:Addr}{x:Value}{j:Nat}{Q:aPv}(ht:s.heap.IsTuple t items)(c:j<items.size)(a:e items[j]=true)(b:∀m (hm:m<items.size),m<j->e items[m]=false)
  (he:∀y,y∈items->SeqAt.EqAt A.in1 s y x (e y)) (h:Q (.int j s.toks) {s with toks:=s.toks+1}):wpAny (model prog w) A (call (.builtin "tuple.index") [.ref t,x]) Q E s:=by
 obtain⟨o,ho,d,n,hd⟩:=id ht;refine aMk PySem.F.slot_tuple_index ht.typeIs PySem.F.entry_tuple_index ?_ (PySem.F.args_tuple_index_2 _ _);unfold Builtin.«tuple.index»;refine aM3 (m:=selfAndSome "tuple.index" "index" 1 3 _) (aM4 ?_);dsimp only;refine aM3 (m:=Builtin.Tuple.tupleItemsOf _) ?_;unfold Builtin.Tuple.tupleItemsOf;refine aM3 (aN2 ho hd (aM4 ?_));refine aM3 (aM4 (aM3 (aM4 ?_)));rw[Nat.min_self];refine aM3 ?_;rw[PySem.W.KPc.range_list];exact TH c a b he (aM4 ⟨_,rfl,h⟩) _ 0 (aN9 _) (by simp)
end
section
variable {X:Cx}
def JK:OM:=λx ds mh Q=>∃(es:List D) (d:D) (j:Nat),x= .tup es/\ds=[d]/\es.all u9=true/\bare (jM mh d)=true/\es.findIdx? (λy=>dD y (jM mh d))=some j/\Q (.int j) mh
theorem CC{h:Heap}:∀{ds:List D} {us:List Value} {j:Nat} {d:D},cJ h ds us->ds[j]? =some d->∃u,us[j]? =some u/\Vl h d u
 | d0::ds,us,0,d,l,e=>by
  unfold cJ at l;obtain⟨u,r,rfl,p,l⟩:=l;simp at e;subst e;exact⟨u,rfl,p⟩
 | d0::ds,us,j+1,d,l,e=>by
  unfold cJ at l;obtain⟨u,r,rfl,p,l⟩:=l;simp at e;obtain⟨v,a,b⟩:=CC l e;exact⟨v,by simpa using a,b⟩
theorem SD(r:X.A.units+64<cLine):ZU X "tuple.index" (liftM X.K JK):=by
 intro pins s σ H x xs v us Q I t rs q;obtain⟨μ,mh,dx,ds,R,n,ix,B,⟨es,d,j,rfl,rfl,h,C,hi,q⟩,F⟩:=q;obtain⟨z,rfl,D⟩:=eD B;obtain⟨a,vs,rfl,sq,l⟩:=eC ix;cases t;obtain⟨u,rfl,E⟩:=rs.one;obtain⟨aM,G,J,hz⟩:=I.tuple sq;have b:=n4 I es (zE h) l G;have L:=wX I n C D E;obtain⟨o,c,i⟩:=aNq.mp hi;have f:=bG b
 have at_:∀(m:Nat) (hm:m<aM.length) (g:m<es.length),eqW (jM mh d) aM[m]=dD es[m] (jM mh d):=λm hm g=>by
  obtain⟨w,p,M⟩:=CC b (aN7 g);rw[List.getElem?_eq_getElem hm]at p;cases p;exact UH (List.all_eq_true.mp h _ (List.getElem_mem _)) M
 refine NQ (e:=eqW (jM mh d)) (j:=j) (show s.heap.IsTuple a aM.toArray from J) (by simpa[f] using o) ?_ ?_ (λy N=>L3 r L h b y (by simpa using N)) ⟨.int j,H,I.tok _,⟨_,rfl⟩,F.here n q .int⟩
 ·rw[List.getElem_toArray,at_ j (by lia) o];simpa using c
 ·intro m hm k;rw[List.getElem_toArray,at_ m (by simpa using hm) (by lia)];simpa using i m k
end
end D3
namespace TS
open PySem PySem.Spec PyProof.Rows L2
section
variable {prog:Program}{w:World}{A:Around}{E:aPv}{s:Shared}{lt:Value×Value->Value×Value->Bool}
theorem FD(O:Wk lt){Q:aPv}{r:Addr}{Ok:List Value->Shared->Prop}
  (c:∀(E:aPv) (R:List Value->Shared->Prop),(∀vs a,Ok vs a ->R vs a)->wpAny (model prog w) A.in1 (collect (.ref r)) R E s)
  (g:∀vs a,Ok vs a ->vs.length<64)
  (i:∀vs a,Ok vs a ->∃κ,2<=vs.length->∀h' :Heap,(∀b o,a.heap.get? b=some o->h'.get? b=some o)->
   ID prog w A.in1.in1 {a with heap:=h'} κ lt (pairsOf vs)/\∀f l,f κ {a with heap:=h'}->wpAny (model prog w) A.in1.in1 (keyKind' vs.toArray) f l {a with heap:=h'})
  (h:∀vs a,Ok vs a ->∀out:List Value,out.Perm vs->out.Pairwise (λx y=>lt (y,y) (x,x)=false)->∀(d:Heap) (j:Nat),(∀b o,a.heap.get? b=some o->d.get? b=some o)->
   d.get? a.heap.objs.size=some (seqObj "list" out.toArray j)->Q (.ref a.heap.objs.size) {a with heap:=d}):
  wpAny (model prog w) A (call (.builtin "sorted") [.ref r]) Q E s:=by
 have z:sizeLine=16777216:=aMe;refine aOi kind_sorted plain_sorted entry_sorted (args_sorted1 _) ?_;unfold Builtin.«sorted»;refine aM3 (m:=checkCount "sorted" 1 1 _) (aM4 ?_);refine aM3 (c _ _ λvs a ok=>?_);have hsz:=g vs a ok;obtain⟨κ,i⟩:=i vs a ok;refine aM3 (wpAny_newList ?_ (by lia));have ob:(a.heap.push (seqObj "list" vs.toArray 0)).get? a.heap.objs.size=some (seqObj "list" vs.toArray 0):=aMa _ rfl;refine aM3 (aMv (aMk slot_list_sort ⟨_,ob,rfl⟩ entry_list_sort (QQ (κ:=κ) (s:={a with heap:=a.heap.push (seqObj "list" vs.toArray 0)}) O ob (by lia) (λd h' k=>?_) λout n p=>⟨_,rfl,aM4 ⟨_,rfl,?_⟩⟩) (args_list_sort _)))
 ·obtain⟨t,u⟩:=i d h' λb o e=>k b o (aMg (aMb e)) (aM5 _ e);exact⟨t,λf q=>u f _ q⟩
 ·obtain⟨j,he⟩:=sortedHeap_at (out:=out.toArray) ob;refine h vs a ok out n p _ j (λb o e=>?_) he;have lb:=aMb e;have v:b<(a.heap.push (seqObj "list" vs.toArray 0)).objs.size:=by rw[size_push'];exact aMw lb
  rw[sortedHeap_old (Nat.ne_of_lt lb) v];exact aM5 _ e
end
end TS
namespace D3
open PySem PySem.Spec PyProof.Rows L2
section
variable {X:Cx}
variable{pins:List (Addr×Obj)}
theorem Inv.drawn{σ:L2.St}{H:Hp}{s a :Shared}(I:Inv X pins σ H s)(hg:a.gens=s.gens)(ho:a.os=s.os)(e:∀b o,s.heap.get? b=some o->a.heap.get? b=some o):Inv X pins σ H a :=by
 have J:Inv X pins σ H {s with heap:=a.heap,toks:=a.toks}:=I.kept (t' :=a.toks) e;obtain⟨f,g,h,i,a5,a6,j,k,l,c,d⟩:=J;exact⟨f,by rw[ho];exact g,by rw[hg];exact h,i,a5,a6,j,k,l,c,d⟩
theorem AU{P:Program}{w:World}:∀{ks:List Key} {us:List Value},Vals (ks.map kV) us->ks.length=us.length/\∀(i:Nat) (v:Value),us[i]? =some v->∃k,ks[i]? =some k/\(aW P w).is k v=true/\v.scannable=true
 | [],us,r=>by cases r;exact⟨rfl,λi v h=>by simp at h⟩
 | k::ks,us,r=>by
  cases r with
  | cons a b=>
   obtain⟨e,f⟩:=AU (P:=P) (w:=w) b;refine⟨by simp[e],λi v h=>?_⟩
   cases i with
   | zero=>
    simp at h;subst h;refine⟨k,rfl,oO a,?_⟩
    cases k with
    | inl i=>obtain⟨t,rfl⟩:=a;rfl
    | inr x=>obtain⟨t,rfl⟩:=a;rfl
   | succ i=>exact f i v (by simpa using h)
theorem PU(c:X.calm=true):cG X (.type "set") (λxs H Q=>∃(a:Addr) (ks:List Key),xs=[.ref a]/\rA X.K H a (ks.map kV)/\ks.length+1<scanBound/\∀p,H p=none->Q (.ref p) (upd H p (HV X.prog X.w p (ST.cR [] ks)))):=by
 intro pins s σ H xs us Q I r q;obtain⟨a,ks,rfl,sq,t,q⟩:=q;obtain⟨u,rfl,d⟩:=vals1 r;cases d;obtain⟨aM,f,g,hz⟩:=I.list sq;obtain⟨j,k⟩:=AU (P:=X.prog) (w:=X.w) f;refine ST.set_list (knd:=aW X.prog X.w) (I.ok.hd c) g.isList (xs:=ks) (by simpa using j) (λi v h=>k i v (by simpa using h)) (by simp;lia) λh' l m n=>?_;exact⟨.ref s.heap.objs.size,_,I.laid (a:=s.heap.objs.size) (o:=HV X.prog X.w s.heap.objs.size (ST.cR [] ks)) (t' :=l) (λb o e=>n b o (aMb e) e) (aM7 _) (LN m),rfl,q _ (I.cS.fresh (aM7 _))⟩
theorem QR{σ:L2.St}{H:Hp}{s:Shared}{p:Addr}{ks:List Key}(I:Inv X pins σ H s)(e:H p=some (HV X.prog X.w p ks)):ST.qZ (aW X.prog X.w) (ST.gK X.w) s.heap p ks:=(I.cS p _ e).1
theorem HF:cG X (.builtin "len") (λxs H Q=>∃(p:Addr) (ks:List Key),xs=[.ref p]/\H p=some (HV X.prog X.w p ks)/\Q (.int ks.length) H):=by
 intro pins s σ H xs us Q I r q;obtain⟨p,ks,rfl,e,q⟩:=q;obtain⟨u,rfl,a⟩:=vals1 r;cases a;obtain⟨o,es,g,t,ho,hex,hd,he,nd,c,d,ht⟩:=QR I e;have f:=he.size;have:es.size<4096:=c;refine call_len_set ho hex hd d (by lia) ⟨.int ks.length,H,I.kept (h' :=s.heap) λb o e=>e,⟨_,by rw[<-f]⟩,q⟩
theorem rJ{P:Program}{w:World}{h:Heap}:∀{ps:List (Key×Value)},(∀p∈ps,(aW P w).is p.1 p.2=true)->cJ h (ps.map λp=>bJ p.1) (ps.map (·.2))
 | [],_=>by simp[cJ]
 | p::ps,hp=>by
  simp only[List.map_cons];unfold cJ;refine⟨_,_,rfl,?_,rJ λq c=>hp q (aM9 _ c)⟩;have:=hp p aM8
  rcases bL (k:=p.1) (v:=p.2) this with ⟨i,t,a,b⟩ | ⟨x,t,a,b⟩
  ·rw[a,b];simp only[bJ];unfold Vl;exact⟨t,rfl⟩
  ·rw[a,b];simp only[bJ];unfold Vl;exact⟨t,rfl⟩
theorem QJ{ds es:List D}(U:EV ds)(p:es.Perm ds):EV es:=by
 rcases U with ⟨c,h⟩ | ⟨c,cs,h⟩
 ·exact .inl ⟨c,λd hd=>h d (p.mem_iff.mp hd)⟩
 ·exact .inr ⟨c,cs,λd hd=>h d (p.mem_iff.mp hd)⟩
theorem y6(hu:X.A.units+64<cLine)(L:X.calm=true):cG X (.builtin "sorted") (λxs H Q=>∃(p:Addr) (ks:List Key),xs=[.ref p]/\H p=some (HV X.prog X.w p ks)/\ks.length<64/\EV (ks.map bJ)/\
  ∀f :List Key,f.Perm ks->(f.map bJ).Pairwise (λd e=>lx (enc e) (enc d)=false)->∀q,H q=none->Q (.ref q) (upd H q (.lst (f.map kV)))):=by
 intro pins s σ H xs us Q I r q;obtain⟨p,ks,rfl,e,M,U,q⟩:=q;obtain⟨u,rfl,N⟩:=vals1 r;cases N;have O:=QR I e;have sz:=aMe;have S:X.A.in1.in1.units+40<cLine:=by show X.A.units+1+1+40<_;lia
 refine TS.FD (A:=X.A) (JL s.heap) (Ok:=λvs c =>ST.Vof (aW X.prog X.w) ks vs/\c.gens=s.gens/\c.os=s.os/\∀b o,s.heap.get? b=some o->c.heap.get? b=some o)
  (λE R T=>ST.FF (A:=X.A.in1) O (I.ok.hd L) (by lia) λc vs V hg ho i=>T vs c ⟨V,hg,ho,i⟩) ?_ ?_ ?_
 ·rintro vs c ⟨⟨ps,W,j,n⟩,_⟩;have Y:=aN5 List.length W;have Z:=j.length_eq;simp at Y Z
  lia
 ·rintro vs c ⟨⟨ps,rfl,j,n⟩,hg,ho,i⟩;have vl:cJ s.heap (ps.map λp=>bJ p.1) (ps.map (·.2)):=rJ n;have U2:EV (ps.map λp=>bJ p.1):=QJ U (by have:=j.map bJ;simpa[Function.comp_def] using this);by_cases l:2<=(ps.map (·.2)).length
  ·obtain⟨κ,y⟩:=w9 (prog:=X.prog) (w:=X.w) (A:=X.A.in1.in1) (s:={c with heap:=s.heap}) S U2 vl l;exact⟨κ,λ_ h' k=>y h' λb o e=>k b o (i b o e)⟩
  ·exact⟨general',λz=>absurd z l⟩
 ·rintro vs c ⟨⟨ps,rfl,j,n⟩,hg,ho,i⟩ out p1 B l ep kept he;obtain⟨a,C,D⟩:=rZ (·.2) p1 ps rfl;have x:∀p∈a,(aW X.prog X.w).is p.1 p.2=true:=λp hp=>n p (C.mem_iff.mp hp);have J:Inv X pins σ H c :=Inv.drawn I hg ho i;have F:(a.map (·.1)).Perm ks:=(C.map _).trans j
  have K:((a.map (·.1)).map bJ).Pairwise (λd e=>lx (enc e) (enc d)=false):=by
   rw[<-D]at B;rw[List.pairwise_map]at B;rw[List.pairwise_map,List.pairwise_map];refine B.imp_of_mem λ{t t'} m m' G=>?_
   have v1:Vl s.heap (bJ t.1) t.2:=by
    have:=rJ (h:=s.heap) (ps:=[t]) (P:=X.prog) (w:=X.w) λq g=>by simp at g;subst g;exact x _ m
    simp only[List.map_cons,List.map_nil]at this;unfold cJ at this;obtain⟨u,r,e,v,_⟩:=this;cases e;exact v
   have v2:Vl s.heap (bJ t'.1) t'.2:=by
    have:=rJ (h:=s.heap) (ps:=[t']) (P:=X.prog) (w:=X.w) λq g=>by simp at g;subst g;exact x _ m'
    simp only[List.map_cons,List.map_nil]at this;unfold cJ at this;obtain⟨u,r,e,v,_⟩:=this;cases e;exact v
   unfold ltV at G;rw[gO v1,gO v2]at G;exact G
  have ln:((a.map (·.1)).map kV).length<=sizeLine:=by have:=F.length_eq;simp at*;lia
  have vv:Vals ((a.map (·.1)).map kV) out:=by
   rw[<-D];clear C D F K ln
   induction a with
   | nil=>exact .nil
   | cons p a ih=>exact .cons (Q5 (x p aM8)) (ih λq g=>x q (aM9 _ g))
  have I1:Inv X pins σ (upd H c.heap.objs.size (.lst ((a.map (·.1)).map kV))) {c with heap:=l}:=
   J.laid (h' :=l) (t' :=c.toks) kept (aM7 _) ⟨ln,out,ep,vv,he⟩
  exact⟨.ref c.heap.objs.size,_,I1,rfl,q _ F K _ (J.cS.fresh (aM7 _))⟩
end
def wU(w:WE):WE:=λc mh Q=>w c mh λx b=>∃ks:List Key,lF b x=some (ks.map bJ)/\ks.length<64/\EV (ks.map bJ)/\
 ∀a :List Key,(∀k,k∈a ↔k∈ks)->a.Nodup->a.length<=ks.length->(a.map bJ).Pairwise (λd e=>lx (enc e) (enc d)=false)->Q (.ref b.length) (b++[.lst (a.map bJ)])
def rH(w:WE):WE:=λb mh Q=>w b mh λx a=>∃ks:List Key,lF a x=some (ks.map bJ)/\ks.length<64/\Q (.int (ST.cR [] ks).length) a
@[simp] theorem Z9 (w:WE)(c:iM)(mh:MH)(Q:DK):wU w c mh Q↔w c mh λx b=>∃ks:List Key,lF b x=some (ks.map bJ)/\ks.length<64/\EV (ks.map bJ)/\
 ∀a :List Key,(∀k,k∈a ↔k∈ks)->a.Nodup->a.length<=ks.length->(a.map bJ).Pairwise (λd e=>lx (enc e) (enc d)=false)->Q (.ref b.length) (b++[.lst (a.map bJ)]):=Iff.rfl
@[simp] theorem aGg (w:WE)(b:iM)(mh:MH)(Q:DK):rH w b mh Q=(w b mh λx a=>∃ks:List Key,lF a x=some (ks.map bJ)/\ks.length<64/\Q (.int (ST.cR [] ks).length) a):=rfl
theorem JD{ks:List Key}(h:ks.Nodup)(k:Key):(ST.nE ks k).Nodup:=by
 unfold ST.nE;split
 ·exact h
 ·rename_i hk;rw[List.nodup_append];exact⟨h,by simp,λa ha b c=>by simp at c;subst c;exact λz=>hk (z▸ha)⟩
theorem sA:∀{xs ks:List Key},ks.Nodup->(ST.cR ks xs).Nodup
 | [],ks,h=>h
 | x::xs,ks,h=>sA (xs:=xs) (JD h x)
section
variable {X:Cx}{e:Expr}{w:WE}{p1 p2 p3 pos:Pos}
theorem LR{te:TE}(c:X.calm=true)(hm:X.mg "set"=none)(he:PE X e te)(hg:Gl X "set":=by rfl)
  (b:starEach [e] X.env=(false,eval e X.env)::starEach [] X.env:=by rfl):PE X (.Call (.Name "set" p2) [e] [] p3) (tCB (λxs H Q=>∃(a:Addr) (ks:List Key),xs=[.ref a]/\rA X.K H a (ks.map kV)/\ks.length+1<scanBound/\∀p,H p=none->Q (.ref p) (upd H p (HV X.prog X.w p (ST.cR [] ks)))) (Z8 te aG5)):=
 tQ (PU c) hg hm aF2 (r6 he xR b) (by decide) (by decide) b rfl
theorem X6(u:X.A.units+64<cLine)(g:X.calm=true)(hm:X.mg "set"=none)(m:X.mg "sorted"=none)(he:LE X e w)(hg:Gl X "set":=by rfl)(n:Gl X "sorted":=by rfl)
  (v:starEach [e] X.env=(false,eval e X.env)::starEach [] X.env:=by rfl)
  (i:starEach [.Call (.Name "set" p2) [e] [] p3] X.env=(false,eval (.Call (.Name "set" p2) [e] [] p3) X.env)::starEach [] X.env:=by rfl):
  LE X (.Call (.Name "sorted" p1) [.Call (.Name "set" p2) [e] [] p3] [] pos) (wU w):=
 PE.imp (xQ (y6 u g) n m pF (r6 (LR g hm he hg v) xR i) (by decide) (by decide) i rfl) λσ H Q h=>by
  obtain⟨μ,x,mh,R,y,E,h,F⟩:=h;refine⟨μ,x,mh,_,y,E,h,λdx z B C M N D o G=>?_⟩;obtain⟨ks,I,J,U,q⟩:=B;obtain⟨a,vs,rfl,sq,l⟩:=oJ o G I;cases tY l;have j:=ST.qX ks ([]:List Key);simp at j;have b:∀k,k∈ST.cR [] ks↔k∈ks:=λk=>by rw[ST.x8];simp
  refine⟨a,ks,rfl,sq,by unfold scanBound;lia,λp t=>?_⟩;show ∃K f,[V.ref p]=[.ref K]/\_;refine⟨p,ST.cR [] ks,rfl,bY,by lia,?_,λf r L=>?_⟩
  ·rcases U with ⟨c,g⟩ | ⟨c,cs,g⟩
   ·exact .inl ⟨c,λd hd=>by obtain⟨k,s,rfl⟩:=aMd.mp hd;exact g _ (aMd.mpr ⟨k,(b k).mp s,rfl⟩)⟩
   ·exact .inr ⟨c,cs,λd hd=>by obtain⟨k,s,rfl⟩:=aMd.mp hd;exact g _ (aMd.mpr ⟨k,(b k).mp s,rfl⟩)⟩
  ·exact k7 (o.new t) (F.at (D.trans (aZ.new o t))) (MQ f) (q f (λk=>by rw[r.mem_iff,b]) (r.symm.nodup (sA (by simp))) (by have:=r.length_eq;lia) L)
theorem OK(i:X.calm=true)(hm:X.mg "set"=none)(c:X.mg "len"=none)(he:LE X e w)(hg:Gl X "set":=by rfl)(d:Gl X "len":=by rfl)
  (j:starEach [e] X.env=(false,eval e X.env)::starEach [] X.env:=by rfl)
  (b:starEach [.Call (.Name "set" p2) [e] [] p3] X.env=(false,eval (.Call (.Name "set" p2) [e] [] p3) X.env)::starEach [] X.env:=by rfl):
  LE X (.Call (.Name "len" p1) [.Call (.Name "set" p2) [e] [] p3] [] pos) (rH w):=
 PE.imp (xQ HF d c KD (r6 (LR i hm he hg j) xR b) (by decide) (by decide) b rfl) λσ H Q h=>by
  obtain⟨μ,k,mh,R,m,E,h,F⟩:=h;refine⟨μ,k,mh,_,m,E,h,λdx n o r y z s f t=>?_⟩;obtain⟨ks,u,A,q⟩:=o;obtain⟨a,vs,rfl,sq,l⟩:=oJ f t u;cases tY l;refine⟨a,ks,rfl,sq,by unfold scanBound;lia,λp g=>?_⟩;show ∃v x,[V.ref p]=[.ref v]/\_;exact⟨p,ST.cR [] ks,rfl,bY,(F.at (s.trans (aZ.new f g))).here (f.new g) q .int⟩
end
def nst:Expr->Bool
 | .Starred .. =>false
 | _=>true
def OB:List Expr->Bool
 | []=>true
 | e::es=>nst e && OB es
theorem w6{e:Expr}{es:List Expr}{env:Env}(h:nst e=true):starEach (e::es) env=(false,eval e env)::starEach es env:=by
 cases e <;> first | rfl | (simp[nst]at h)
theorem rQ{pos:Pos}{env:Env}:∀{es:List Expr},OB es=true->(backTo pos (starEach es env)).any (·.1)=false
 | [],_=>rfl
 | e::es,h=>by
  unfold OB at h;rw[Bool.and_eq_true]at h;rw[w6 h.1];show (false || (backTo pos (starEach es env)).any (·.1))=false;rw[rQ h.2];rfl
section
variable {X:Cx}{e:Expr}{es:List Expr}{w:WE}{wr wa:WA}{pos p:Pos}{x:Str}
theorem aLd(ha:LE X e w)(a:LA X es wr)(h:nst e=true:=by rfl):LA X (e::es) (aA w wr):=YD ha a (w6 h)
theorem aHw{k:Nat}{ps:List Str}{s:OA}(F:Fn X.prog X.w X.K X.mg X.base k x ps s)(b:iS k X.A)(ha:LA X (e::es) wr)(hg:Gl X x:=by rfl)(a:(x==("__debug__":Str))=false:=by decide)
  (h:nst e=true:=by rfl) (c:OB es=true:=by rfl):LE X (.Call (.Name x p) (e::es) [] pos) (aE s wr):=SY F b ha hg a (w6 h) (rQ c)
theorem vG{id:String}{f:OA}(b:cG X (.builtin id) (eB X.K f))(hm:X.mg x=none)(c:bootBuiltins x=some (.builtin id))(ha:LA X (e::es) wr)(hg:Gl X x:=by rfl)(d:x≠ "__name__":=by decide)(a:(x==("__debug__":Str))=false:=by decide)
  (h:nst e=true:=by rfl) (g:OB es=true:=by rfl):LE X (.Call (.Name x p) (e::es) [] pos) (aE f wr):=aHx b hm c ha hg d a (w6 h) (rQ g)
theorem aHs{T:String}{f:OA}(b:cG X (.type T) (eB X.K f))(hm:X.mg x=none)(c:bootBuiltins x=some (.type T))(ha:LA X (e::es) wr)(hg:Gl X x:=by rfl)(d:x≠ "__name__":=by decide)(a:(x==("__debug__":Str))=false:=by decide)
  (h:nst e=true:=by rfl) (g:OB es=true:=by rfl):LE X (.Call (.Name x p) (e::es) [] pos) (aE f wr):=aHv b hm c ha hg d a (w6 h) (rQ g)
end
def L0:Expr->Bool
 | .ListComp .. =>false
 | .SetComp .. =>false
 | .DictComp .. =>false
 | _=>true
theorem FA{e:Expr}{t:Option Expr}{l:Nat}{env:Env}(h:L0 e=true):swapsWith e t l env=pure false:=by
 cases e <;> first | rfl | (simp[L0]at h)
section
variable {X:Cx}{e:Expr}{w:WE}{pos:Pos}
theorem aL8(i:Nat){x:Str}{a :Pos}(hN:X.N.Nodup)(he:LE X e w)(hi:X.N[i]? =some x:=by rfl)(b:Loc X.env.scope x:=by first | exact Or.inl rfl | exact Or.inr rfl)(c:L0 e=true:=by rfl)(d:X.fn x=true\/X.env.scope.names.lookup x=some .local:=by first | exact .inl rfl | exact .inr rfl | assumption):
  LS X (.Assign [.Name x a] e pos) (bH w (gN i)):=aCz i hN he hi b (FA c) d
theorem aL9(he:LE X e w)(a:L0 e=true:=by rfl):LS X (.Expr e pos) (eP w):=X0 he (FA a)
end
section
variable {prog:Program}{w:World}{A:Around}{E:aPv}{s:Shared}
variable{aM items:Array Value}
theorem yQ{S it:Addr}{c:Nat}{Q:aPv}(b:s.heap.get? S=some {cls:= .type "list",data:= .seq aM c})(ht:s.heap.IsTuple it items)
  (a:¬(!aM.isEmpty && Builtin.List.listTooLong (aM.size+items.size))=true) (hz:aM.size+items.size<=sizeLine)
  (h:Q .none {s with heap:=s.heap.update S (Obj.mapSeq (· ++items))}):wpAny (model prog w) A (call (.builtin "list.extend") [.ref S,.ref it]) Q E s:=by
 obtain⟨o,ho,e,n,hd⟩:=id ht;refine aMk aOn ⟨_,b,rfl⟩ PySem.F.entry_list_extend ?_ (PySem.F.args_list_extend_2 _ _);unfold Builtin.«list.extend»;refine aM3 (m:=selfAndOne "list.extend" _) (aM4 ?_);dsimp only;unfold Builtin.List.listExtendWith;refine aM3 (aOe ht.typeIs ?_);have d:(Builtin.List.listSameRef (.ref S) (.ref it) || Value.type "tuple"==Value.type "list" || Value.type "tuple"==Value.type "tuple")=true:=by simp
 simp only[d,if_true];refine aM3 ?_;unfold Builtin.List.listItems;refine aM3 (aN2 ho hd (aM4 ?_));refine aM3 ?_;refine aM3 (aN2 b rfl (aM4 ?_));rw[if_neg a];refine aM3 ?_;show wpAny _ _ (updateSeq S (· ++items)) _ _ _;refine aO7 (hz:=by lia) (_hz' :=by simp only[Array.size_append];lia) b rfl ?_;exact aM4 ⟨_,rfl,h⟩
theorem J0{S it:Addr}{c n:Nat}{o:Obj}{Q:aPv}(b:s.heap.get? S=some {cls:= .type "list",data:= .seq aM c})(ho:s.heap.get? it=some o)(d:o.cls= .type "list")(hd:o.data= .seq items n)
  (a:¬(!aM.isEmpty && Builtin.List.listTooLong (aM.size+items.size))=true) (hz:aM.size+items.size<=sizeLine)
  (h:Q .none {s with heap:=s.heap.update S (Obj.mapSeq (· ++items))}):wpAny (model prog w) A (call (.builtin "list.extend") [.ref S,.ref it]) Q E s:=by
 refine aMk aOn ⟨_,b,rfl⟩ PySem.F.entry_list_extend ?_ (PySem.F.args_list_extend_2 _ _);unfold Builtin.«list.extend»;refine aM3 (m:=selfAndOne "list.extend" _) (aM4 ?_);dsimp only;unfold Builtin.List.listExtendWith;refine aM3 (aOe (T:= "list") ⟨_,ho,d⟩ ?_);have e:(Builtin.List.listSameRef (.ref S) (.ref it) || Value.type "list"==Value.type "list" || Value.type "list"==Value.type "tuple")=true:=by simp
 simp only[e,if_true];refine aM3 ?_;unfold Builtin.List.listItems;refine aM3 (aN2 ho hd (aM4 ?_));refine aM3 ?_;refine aM3 (aN2 b rfl (aM4 ?_));rw[if_neg a];refine aM3 ?_;show wpAny _ _ (updateSeq S (· ++items)) _ _ _;refine aO7 (hz:=by lia) (_hz' :=by simp only[Array.size_append];lia) b rfl ?_;exact aM4 ⟨_,rfl,h⟩
end
section
variable {X:Cx}
def SH:OM:=λx ds mh Q=>∃n es fs,x= .ref n/\ds=[.tup fs]/\mh[n]? =some (.lst es)/\es.length+fs.length<=sizeLine/\Q .bU (mh.set n (.lst (es++fs)))
theorem aCq:ZU X "list.extend" (liftM X.K SH):=by
 intro pins s σ H x xs v us Q I k rs q;obtain⟨μ,mh,dx,ds,R,g,ix,m,⟨n,es,fs,rfl,rfl,e,hz,q⟩,F⟩:=q;obtain⟨a,vs,rfl,o,h,l⟩:=gA g ix e;obtain⟨z,rfl,p⟩:=eD m;obtain⟨b,ws,rfl,sq,i⟩:=eC p;cases k;obtain⟨u,rfl,t⟩:=rs.one;cases t;obtain⟨A,aM,c,r,B,ho⟩:=I.DE h;obtain⟨d,j,w,y⟩:=I.tuple sq;have k1:=bB l;have k2:=bB i;have C:=j.length;have hsz:aM.toArray.size+d.toArray.size<=sizeLine:=by rw[List.size_toArray,List.size_toArray];lia
 have f:¬(!aM.toArray.isEmpty && Builtin.List.listTooLong (aM.toArray.size+d.toArray.size))=true:=by
  rw[xW hsz,Bool.and_false];exact aN8
 refine yQ ho (show s.heap.IsTuple b d.toArray from w) f hsz ?_;refine⟨.bU,_,I.OH (its' :=aM++d) h ho (by simp) (r.append j) ?_,rfl,F.put g o (gE l i) q .bU⟩;rw[List.length_append]
 lia
def x9:OM:=λx ds mh Q=>∃n y es fs,x= .ref n/\ds=[y]/\mh[n]? =some (.lst es)/\bF mh y=some fs/\es.length+fs.length<=sizeLine/\Q .bU (mh.set n (.lst (es++fs)))
theorem JG:ZU X "list.extend" (liftM X.K x9):=by
 intro pins s σ H x xs v us Q I t rs q;obtain⟨μ,mh,dx,ds,R,h,ix,B,⟨n,y,es,fs,rfl,rfl,e,C,hz,q⟩,F⟩:=q;obtain⟨a,vs,rfl,D,m,l⟩:=gA h ix e;obtain⟨z,rfl,E⟩:=eD B;obtain⟨b,ws,rfl,sq,p⟩:=qL h E C;cases t;obtain⟨u,rfl,G⟩:=rs.one;cases G;obtain⟨P,aM,c,r,S,ho⟩:=I.DE m;have k1:=bB l;have k2:=bB p
 have g:∀d:List Value,Vals ws d->(∀{Q:aPv},aM.toArray.size+d.toArray.size<=sizeLine->¬(!aM.toArray.isEmpty && Builtin.List.listTooLong (aM.toArray.size+d.toArray.size))=true->Q .none {s with heap:=s.heap.update a (Obj.mapSeq (· ++d.toArray))}->
   wpAny (model X.prog X.w) X.A (call (.builtin "list.extend") [.ref a,.ref b]) Q X.xe s)->wpAny (model X.prog X.w) X.A (call (.builtin "list.extend") [.ref a,.ref b]) (EP X pins σ Q) X.xe s:=λd f go=>by
  have T:=f.length;have hsz:aM.toArray.size+d.toArray.size<=sizeLine:=by rw[List.size_toArray,List.size_toArray];lia
  refine go hsz (by rw[xW hsz,Bool.and_false];exact aN8) ?_;refine⟨.bU,_,I.OH (its' :=aM++d) m ho (by simp) (r.append f) ?_,rfl,F.put h D (gE l p) q .bU⟩;rw[List.length_append]
  lia
 rcases sq with sq | sq
 ·obtain⟨d,f,⟨o,U,J,L,_,M⟩,_⟩:=I.list sq;exact g d f λi j k=>J0 ho J L M j i k
 ·obtain⟨d,f,N,O⟩:=I.tuple sq;exact g d f λi j k=>yQ ho (show s.heap.IsTuple b d.toArray from N) j i k
end
section
variable {ρ:iM}{mh:MH}{Q:DK}{E:iL}
@[simp] theorem aKa (w f wi:WE):QG w f wi E ρ mh=(w ρ mh λd a=>f ρ a λo b=>wi ρ b λi c=>aA4 o i d c λe=>E.nx ρ e):=rfl
@[simp] theorem s_dic (t:Bool):VQ t ρ mh Q=(Q (.ref mh.length) (mh++[.dic t []])):=rfl
end
variable{x:Str}
theorem aFl{K:aPu}{h:Heap}{mg:aPx}{i:Int}{t:Tok}(KX:K.In h)(G:h.Ns mainGlobals mg)(e:PySem.W.nsIn K mainGlobals x=some (some (.int i t))):tF K mg x (.int i):=
 ⟨.int i,_,aPn KX G e,⟨t,rfl⟩,λ_ _=>.int⟩
open Classical in
theorem K8(k v:D):∀kvs:List (D×D),(∃p∈kvs,p.1=k)->gI (kvs.map λp=>if p.1=k then (p.1,v) else p) k=some v
 | [],h=>by obtain⟨p,b,_⟩:=h;cases b
 | p::kvs,h=>by
  rw[List.map_cons];by_cases e:p.1=k
  ·simp[gI,e]
  ·simp only[gI,if_neg e];refine K8 k v kvs ?_;obtain⟨r,c,a⟩:=h;rcases aMf.mp c with z | z
   ·subst z;exact absurd a e
   ·exact⟨r,z,a⟩
theorem K9(k v:D):∀kvs:List (D×D),(¬∃p∈kvs,p.1=k)->gI (kvs++[(k,v)]) k=some v
 | [],h=>by simp[gI]
 | p::kvs,h=>by
  have e:¬p.1=k:=λz=>h ⟨p,aM8,z⟩;rw[List.cons_append];simp only[gI,if_neg e];exact K9 k v kvs λa=>by obtain⟨r,b,c⟩:=a;exact h ⟨r,aM9 _ b,c⟩
theorem VR(kvs:List (D×D))(k v:D):gI (putD kvs k v) k=some v:=by
 classical
 unfold putD;by_cases h:∃p∈kvs,p.1=k
 ·rw[if_pos h];exact K8 k v kvs h
 ·rw[if_neg h];exact K9 k v kvs h
open Classical in
theorem qG(k v:D){a :D}(b:a ≠k):∀kvs:List (D×D),gI (kvs.map λp=>if p.1=k then (p.1,v) else p) a =gI kvs a
 | []=>rfl
 | p::kvs=>by
  rw[List.map_cons];by_cases e:p.1=k
  ·have c:¬p.1=a :=λz=>b (z.symm.trans e);simp only[if_pos e,gI,if_neg c,qG k v b kvs]
  ·simp only[if_neg e,gI,qG k v b kvs]
theorem wZ(k v:D){a :D}(b:a ≠k):∀kvs:List (D×D),gI (kvs++[(k,v)]) a =gI kvs a
 | []=>by simp[gI,Ne.symm b]
 | p::kvs=>by
  rw[List.cons_append];simp only[gI,wZ k v b kvs]
theorem IF(kvs:List (D×D)){k a :D}(v:D)(b:a ≠k):gI (putD kvs k v) a =gI kvs a :=by
 classical
 unfold putD;split
 ·exact qG k v b kvs
 ·exact wZ k v b kvs
variable{mh:MH}
theorem ZP{ns:List Int}{a:Int}{Q:DK}(b:ns.length<=63)(c:0<=a)(d:a<=100)(q:∀mh',(∃o,mh' =mh++[o])->HY mh' mh.length->Q (.ref mh.length) mh'):IP [.fl (ns.map .int),.int a] mh Q:=⟨ns,a,rfl,b,c,d,q⟩
def aR(mh mh' :MH):Prop:=∃T,mh' =mh++T
theorem aR.refl:aR mh mh:=⟨[],by simp⟩
theorem aR.trans{a b c:MH}(h:aR a b)(h' :aR b c):aR a c:=by
 obtain⟨T,rfl⟩:=h;obtain⟨U,rfl⟩:=h';exact⟨T++U,by simp⟩
variable{mh':MH}
theorem aR.app(h:aR mh mh')(T:MH):aR mh (mh' ++T):=by
 obtain⟨U,rfl⟩:=h;exact⟨U++T,by simp⟩
theorem aR.le(h:aR mh mh'):mh.length<=mh'.length:=by obtain⟨U,rfl⟩:=h;simp
variable{n:Nat}{o:MO}
theorem aR.old(h:aR mh mh')(e:mh[n]? =some o):mh'[n]? =some o:=by
 obtain⟨T,rfl⟩:=h;rw[List.getElem?_append_left (List.getElem?_eq_some_iff.mp e).1];exact e
theorem aR.push(h:aR mh mh')(o:MO):aR mh (mh' ++[o]):=by
 obtain⟨T,rfl⟩:=h;exact⟨T++[o],by simp⟩
theorem aR.set(h:aR mh mh')(a:mh.length<=n)(o:MO):aR mh (mh'.set n o):=by
 obtain⟨T,rfl⟩:=h;exact⟨T.set (n-mh.length) o,by rw[List.set_append_right _ _ a]⟩
theorem aR.out{d:D}{R:DK}(h:aR mh mh')(ok:iT mh)(hd:cI mh.length d=true)(q:R d mh):Out mh.length d mh' R:=by
 obtain⟨T,rfl⟩:=h;exact xS ok hd q
theorem aR.tR{j:Nat}{R:DK}(h:aR mh mh')(ok:iT mh)(a:mh.length<=j)(e:mh'[j]? =some o)(hd:IZ mh.length o=true)(q:R (.ref mh.length) (mh++[o])):Out mh.length (.ref j) mh' R:=by
 obtain⟨T,rfl⟩:=h;exact .inr (.inr ⟨mh,T,j,o,rfl,aM7 _,ok,rfl,a,e,hd,q⟩)
theorem gJ.tR{b j:Nat}{R:DK}(h:gJ mh b mh')(ok:iT mh)(c:mh.length<=j)(e:mh'[j]? =some o)(hd:IZ mh.length o=true)(q:∀a,gP mh b a->R (.ref a.length) (a++[o])):Out mh.length (.ref j) mh' R:=by
 obtain⟨a,T,rfl,t⟩:=h;exact .inr (.inr ⟨a,T,j,o,rfl,by rw[t.len];exact aM7 _,t.mok ok,rfl,by rw[t.len];exact c,e,by rw[t.len];exact hd,q a t⟩)
theorem aI{o x:MO}(e:mh[n]? =some o):(mh++[x])[n]? =some o:=by
 rw[List.getElem?_append_left (List.getElem?_eq_some_iff.mp e).1];exact e
theorem MV{mh T:MH}(e:mh[n]? =some o):(mh++T)[n]? =some o:=by
 rw[List.getElem?_append_left (List.getElem?_eq_some_iff.mp e).1];exact e
theorem get_set{n m:Nat}{o x:MO}(e:mh[n]? =some o)(h:m≠n):(mh.set m x)[n]? =some o:=by
 rw[List.getElem?_set_ne h];exact e
theorem bK(x:MO)(e:mh[n]? =some o):(mh.set n x)[n]? =some x:=by
 rw[List.getElem?_set_self (List.getElem?_eq_some_iff.mp e).1]
variable{ds:List D}
theorem bQ(e:mh[n]? =some (.lst ds)):bF mh (.ref n)=some ds:=by simp[bF,e]
theorem eA(e:mh[n]? =some (.lst ds)):lF mh (.ref n)=some ds:=by simp[lF,e]
variable{α:Type}
theorem DP(l:List α)(x:α):fI (l++[x]) (-1)=some x:=by
 unfold fI OT;rw[if_neg (by lia),if_pos (by simp;lia)];simp only[Option.bind_some];have:((-1:Int)+((l++[x]).length:Int)).toNat=l.length:=by simp;lia
 rw[this];simp
theorem o6{f:α->D}{l:List α}{i:Nat}{d:D}(h:(l.map f)[i]? =some d):∃x,l[i]? =some x/\d=f x:=by
 rw[List.getElem?_map]at h;obtain⟨x,a,b⟩:=aN1.mp h;exact⟨x,a,b.symm⟩
theorem aEr{k:Int}(h0:0<=k)(c:k<=ds.length):cutD ds none (some k)=ds.take k.toNat:=by
 unfold cutD;have a:HT.dE ds.length 0 none=0:=by simp[HT.dE]
 have b:HT.dE ds.length ds.length (some k)=k.toNat:=by
  simp[HT.dE];rw[if_neg (by lia)];lia
 rw[a,b];simp
theorem UO{k:Int}(h0:0<=k):cutD ds (some k) none=ds.drop k.toNat:=by
 unfold cutD
 have a:HT.dE ds.length 0 (some k)=min k.toNat ds.length:=by
  simp[HT.dE];lia
 have b:HT.dE ds.length ds.length none=ds.length:=by simp[HT.dE]
 rw[a,b];by_cases h:k.toNat<=ds.length
 ·rw[Nat.min_eq_left h,List.take_of_length_le (by simp)]
 ·rw[Nat.min_eq_right (by lia),List.drop_of_length_le (Nat.le_refl _),List.drop_of_length_le (by lia)];simp
theorem qV{α k:Type}{g:WG}{t:WT}{w:WE}{ρe:iM}{St:MH->Prop}{Q:DK}(em:α->D)(p:α->Bool)(f:α->k)(c:k->D):∀(ds:List α) (a:List k) {mh:MH},St mh->
  (∀d∈ds,∀(N:DK) (M:MH->Prop),(p d=true->N (c (f d)) mh)->(p d=false->M mh)->g (em d) ρe λi=>t i mh λb j=>if b=true then w i j N else M j)->
  Q (.ref mh.length) (mh++[.lst ((a++(ds.filter p).map f).map c)])->i9 g t w ρe St Q (ds.map em) (a.map c) mh
 | [],a,mh,hst,_,q=>⟨hst,by simpa using q⟩
 | d::ds,a,mh,hst,h,q=>by
  refine⟨hst,?_⟩;refine h d aM8 _ _ (λl=>?_) λl=>?_
  ·have:=qV (Q:=Q) (St:=St) (g:=g) (t:=t) (w:=w) (ρe:=ρe) em p f c ds (a++[f d]) hst (λe he=>h e (aM9 _ he)) (by rw[List.filter_cons_of_pos l]at q;simpa using q);simpa using this
  ·exact qV em p f c ds a hst (λe he=>h e (aM9 _ he)) (by rw[List.filter_cons_of_neg (by simp[l])]at q;exact q)
theorem BY{α c:Type}{g:WG}{w:WE}{ρe:iM}{St:MH->Prop}{Q:DK}(em:α->D)(f:α->c)(b:c->D):∀(ds:List α) (a:List c) {mh:MH},St mh->
  (∀d∈ds,∀(N:DK),N (b (f d)) mh->g (em d) ρe λi=>w i mh N)->
  Q (.ref mh.length) (mh++[.lst ((a++ds.map f).map b)])->i9 g lY w ρe St Q (ds.map em) (a.map b) mh
 | [],a,mh,hst,_,q=>⟨hst,by simpa using q⟩
 | d::ds,a,mh,hst,h,q=>by
  refine⟨hst,?_⟩;simp only[QT,if_true];refine h d aM8 _ ?_;have:=BY (Q:=Q) (St:=St) (g:=g) (w:=w) (ρe:=ρe) em f b ds (a++[f d]) hst (λe he=>h e (aM9 _ he)) (by simpa using q);simpa using this
theorem mT{α j:Type}{g:WG}{t:WT}{w:WE}{ρe:iM}{St:MH->Prop}{Q:DK}(em:α->D)(p:α->Bool)(f:α->j)(e:j->D)(ds:List α)(i:St mh)
  (h:∀d∈ds,∀(N:DK) (M:MH->Prop),(p d=true->N (e (f d)) mh)->(p d=false->M mh)->g (em d) ρe λa=>t a mh λb c=>if b=true then w a c N else M c)
  (q:Q (.ref mh.length) (mh++[.lst (((ds.filter p).map f).map e)])):i9 g t w ρe St Q (ds.map em) [] mh:=qV em p f e ds [] i h q
theorem jP{α e:Type}{g:WG}{w:WE}{ρe:iM}{St:MH->Prop}{Q:DK}(em:α->D)(f:α->e)(a:e->D)(ds:List α)(b:St mh)
  (h:∀d∈ds,∀(N:DK),N (a (f d)) mh->g (em d) ρe λc=>w c mh N)
  (q:Q (.ref mh.length) (mh++[.lst ((ds.map f).map a)])):i9 g lY w ρe St Q (ds.map em) [] mh:=BY em f a ds [] b h q
def oY(P:Program)(w:World)(K:aPu)(mg:aPx)(base:Heap)(k:Nat)(x:Str)(N:List Str)(st:Stmt)(wB:WS):Prop:=
 ∀(f:Addr) (cdv:Value) (A:Around) (outer:List Env) (s:Shared) (H:Hp) (E:XK),iS k (A.deeper (envOfC x (aG st) s.heap.objs.size f cdv))->
  jQ (yZ HX P w K mg base N x (aG st) f cdv A outer s H E).XJ (cZ st) wB
section
variable {P:Program}{w:World}{K:aPu}{mg:aPx}{base:Heap}{h:Heap}
theorem cX{st:Stmt}{N ps:List Str}{k:Nat}{s:OA}{wB:WS}(b:dJ K x st)(KX:K.In h)(G:h.Ns mainGlobals mg)(c:bN x st ps)(S:aV N ps (aG st))(e:oY P w K mg base k x N st wB)(len:∀ds mh R,s ds mh R->ds.length=ps.length)
  (f:∀ds mh R,iT mh->s ds mh R->wB {nx:=λ_ a=>Out mh.length .bU a R,rt:=λd a=>Out mh.length d a R} (aJ N ds) mh):Fn P w K mg base (k+1) x ps s:=
 aEj b KX G c S len e λds mh R ok _ g=>f ds mh R ok g
theorem JZ{st:Stmt}{N ps:List Str}{j k:Nat}{s:OA}{wB:WS}(e:k+1=j)(b:dJ K x st)(KX:K.In h)(G:h.Ns mainGlobals mg)(c:bN x st ps)(S:aV N ps (aG st))(f:oY P w K mg base k x N st wB)(len:∀ds mh R,s ds mh R->ds.length=ps.length)
  (g:∀ds mh R,iT mh->s ds mh R->wB {nx:=λ_ a=>Out mh.length .bU a R,rt:=λd a=>Out mh.length d a R} (aJ N ds) mh):Fn P w K mg base j x ps s:=
 e▸cX b KX G c S f len g
theorem aDi{st:Stmt}{N:List Str}{k:Nat}{c:Addr}{wB:WS}(KX:K.In h)(G:h.Ns mainGlobals mg)(b:mg "law"=some (.ref c))(e:dJ K "law" st)(S:aV N [x] (aG st))(f:bN "law" st [x])
  (g:∀base:Heap,oY P w K mg base k "law" N st wB)
  (i:∀ds mh R,iT mh->zR ds mh R->wB {nx:=λ_ a=>Out mh.length .bU a R,rt:=λd a=>Out mh.length d a R} (aJ N ds) mh):
  ∃fd:FuncData,(∀(s:Shared) (u:Value),BindsTo s fd ⟨[u],[]⟩ [(x,u)])/\∀base:Heap,mG P w K mg base HX (k+1) c fd [x] (VE K zR):=
 aDj KX G b e S f λbase=>⟨wB,g base,λds mh R ok _ j=>i ds mh R ok j⟩
end
end D3
namespace L2
open PySem PySem.Spec PyProof.Rows
open Builtin Builtin.Str
open AutoSeq1 (wpAny_loadPart')
end L2
namespace D3
open PySem PySem.Spec PyProof.Rows L2
end D3
namespace L2
open PySem PySem.Spec PyProof.Rows
end L2
namespace D3
open PySem PySem.Spec PyProof.Rows L2
end D3
namespace L2
open PySem PySem.Spec PyProof.Rows
section
variable {prog:Program}{w:World}{A:Around}{E:aPv}{s:Shared}
def enO(f0:Value)(it:Addr)(i:Nat)(old:Value):Obj:={cls:= .type "enumerate",dict:=none,data:= .fields #[f0,.bool false,.ref it,rawInt (i:Int),.none,old],slots:= #[]}
structure zN(h:Heap)(e:Addr)(q:Src)(f0:Value)(i:Nat):Prop where
 obj:∃old,h.get? e=some (enO f0 q.it i old)
 at_:q.At h i
variable{e:Addr}{q:Src}{i:Nat}{items:Array Value}
theorem Y8{x:Value}{Q:aPv}(Z:zN s.heap e q .none i)(I:q.Sq s.heap items)(J:items[i]? =some x)(c:e≠q.it)
  (K:∀h',zN h' e q (rawInt s.heap.objs.size) (i+1)->h'.get? s.heap.objs.size=some {cls:= .type "tuple",data:= .seq #[.int i s.toks,x]}->
   (∀b o,b≠e->b≠q.it->s.heap.get? b=some o->h'.get? b=some o)->Q (.ref s.heap.objs.size) {s with heap:=h',toks:=s.toks+1}):
  wpAny (model prog w) A (Builtin.«enumerate.__next__» ⟨[.ref e],[]⟩) (λy L =>∃v,y= .done (.ret v)/\Q v L) E s:=by
 obtain⟨⟨old,he⟩,z⟩:=Z;obtain⟨B,g,d,a,os⟩:=s;have f:e<B.objs.size:=aMb he;show wpAny _ _ (field (.ref e) 2 >>=_) _ _ _;refine aM3 (aMz he rfl (x:= .ref q.it) rfl (aM3 (Src.item z I J λn C h=>?_)));have D:n.get? e=some (enO .none q.it i old):=(h.2 e c).trans he;show wpAny _ _ (field (.ref e) 3 >>=_) _ _ ⟨n,g,d,a,os⟩;refine aM3 (aMz D rfl (x:=rawInt (i:Int)) rfl ?_);show wpAny _ _ (field (.ref e) 4 >>=_) _ _ ⟨n,g,d,a,os⟩;refine aM3 (aMz D rfl (x:= .none) rfl ?_);show wpAny _ _ (mkInt (i:Int) >>=_) _ _ ⟨n,g,d,a,os⟩;refine aM3 (aPm ?_);show wpAny _ _ (setField (.ref e) 3 (rawInt ((i:Int)+1)) >>=_) _ _ ⟨n,g,d,a+1,os⟩;refine aM3 (aMp D (by simp) λM N p=>?_);show wpAny _ _ (setField (.ref e) 4 .none >>=_) _ _ ⟨M,g,d,a+1,os⟩;refine aM3 (aMp N (by simp) λr O t=>?_);show wpAny _ _ (newTuple [.int i a,x] >>=_) _ _ ⟨r,g,d,a+1,os⟩;refine aM3 (aOb ?_);have hsz:r.objs.size=B.objs.size:=by rw[t.1,p.1,h.1]
 have u:=aM5 {cls:= .type "tuple",data:= .seq #[.int i a,x]} O;have H:(r.push {cls:= .type "tuple",data:= .seq #[.int i a,x]}).get? B.objs.size=some {cls:= .type "tuple",data:= .seq #[.int i a,x]}:=by rw[<-hsz];exact aMa _ rfl
 have F:∀b o,b≠e->n.get? b=some o->(r.push {cls:= .type "tuple",data:= .seq #[.int i a,x]}).get? b=some o:=λb o j G=>aM5 _ (t.extBut b o j (p.extBut b o j G));show wpAny _ _ (Builtin.SmallTypes.ownedTupleIsFree (.ref e) >>=_) _ _ _;rw[hsz];generalize r.push {cls:= .type "tuple",data:= .seq #[.int i a,x]}=h4 at u H F⊢;refine aM3 ?_;unfold Builtin.SmallTypes.ownedTupleIsFree;refine aM3 (aMz u rfl (x:= .none) rfl (aM4 ?_));simp only[if_true];refine aM3 (aN4 (aM3 (aMz u rfl (x:=old) rfl (aM3 (aMp u (by simp) λV P k=>?_)))));refine aM3 ?_;unfold Builtin.SmallTypes.ownedTupleHandOut;refine aM3 (aMp P (by simp) λW R l=>aMp R (by simp) λS T m=>aM3 (wpAny_letGo (aM4 ⟨_,rfl,K S ⟨⟨x,?_⟩,?_⟩ ?_ ?_⟩)))
 ·exact T
 ·exact C.to λo ho=>m.extBut _ _ (aNf c) (l.extBut _ _ (aNf c) (k.extBut _ _ (aNf c) (F _ _ (aNf c) ho)))
 ·exact m.extBut _ _ (aNc f) (l.extBut _ _ (aNc f) (k.extBut _ _ (aNc f) H))
 ·exact λb o j U G=>m.extBut _ _ j (l.extBut _ _ j (k.extBut _ _ j (F _ _ j (h.extBut _ _ U G))))
variable{Q:Option Value->Shared->Prop}
theorem C7{x:Value}(Z:zN s.heap e q .none i)(g:q.Sq s.heap items)(h:items[i]? =some x)(d:e≠q.it)
  (j:∀h',zN h' e q (rawInt s.heap.objs.size) (i+1)->h'.get? s.heap.objs.size=some {cls:= .type "tuple",data:= .seq #[.int i s.toks,x]}->
   (∀b o,b≠e->b≠q.it->s.heap.get? b=some o->h'.get? b=some o)->Q (some (.ref s.heap.objs.size)) {s with heap:=h',toks:=s.toks+1}):
  wpAny (model prog w) A (pyNext (.ref e)) Q E s:=by
 have f:s.TypeIs (.ref e) "enumerate":=by obtain⟨old,he⟩:=Z.obj;exact⟨_,he,rfl⟩
 unfold pyNext
 exact aM3 (aNl (aMo (name:=Str.ofString "__next__") f aNp (aMk aNp f F.entry_enumerate_next
  (Y8 Z g h d λh' a b c=>aM4 (j h' a b c)) (F.args_enumerate_next_1 _))))
theorem F4(f:A.handled=none)(Z:zN s.heap e q .none i)(g:q.Sq s.heap items)(h:items[i]? =none)
  (j:∀h',Heap.ExtBut q.it s.heap h' ->Q none {s with heap:=h'}):wpAny (model prog w) A (pyNext (.ref e)) Q E s:=by
 obtain⟨old,he⟩:=Z.obj
 have d:s.TypeIs (.ref e) "enumerate":=⟨_,he,rfl⟩
 unfold pyNext;refine aM3 (aNl (aMo (name:=Str.ofString "__next__") d aNp (aMk aNp d F.entry_enumerate_next ?_ (F.args_enumerate_next_1 _))));show wpAny _ _ (field (.ref e) 2 >>=_) _ _ _;refine aM3 (aMz he rfl (x:= .ref q.it) rfl (aM3 (Src.done f Z.at_ g h λh' x a c =>?_)));obtain⟨o,ho,k⟩:=c;exact aM3 (aNy (T:= "StopIteration") (b:=true) ⟨o,ho,k⟩ isSubtype_stop (aM4 (j _ a)))
theorem aIc{elts:List Expr}{x1}{pos:Pos}{e T:Addr}{Q:Unit->Shared->Prop}(a:e≠q.it)(Z:zN s.heap e q (rawInt T) i)
  (f:∀h',zN h' e q .none i->Heap.SameBut e s.heap h' ->Q () {s with heap:=h'}):wpAny (model prog w) A (letOwnedTupleGo (.Tuple elts x1 pos) (.ref e) (.ref T)) Q E s:=by
 obtain⟨⟨old,he⟩,b⟩:=Z;exact wpAny_letOwnedTupleGo_enum he λh' c d=>f h' ⟨⟨old,c⟩,b.to λo ho=>d.extBut _ _ (aNf a) ho⟩ d
theorem ML{f0:Value}{Q:aPv}(Z:zN s.heap e q f0 i)(h:Q (.ref e) s):wpAny (model prog w) A (pyIter (.ref e)) Q E s:=by
 have a:s.TypeIs (.ref e) "enumerate":=by obtain⟨old,he⟩:=Z.obj;exact⟨_,he,rfl⟩
 refine aOz a F.slot_enumerate_iter (aMk F.slot_enumerate_iter a F.entry_enumerate_iter ?_ (F.args_enumerate_iter_1 _));exact aM4 ⟨_,rfl,"enumerate",_,a,aNp.lookup,h⟩
end
open AutoSeq1 (wpAny_loadPart')
theorem SG(q:Src):Meets (Builtin.«enumerate.__new__» ⟨[.type "enumerate",.ref q.l],[]⟩) (λ_ R s=>(∃items,q.Sq s.heap items)/\
   ∀h' e,s.heap.objs.size<e->zN h' e ⟨s.heap.objs.size,q.l,q.tup⟩ .none 0->(∀b o,s.heap.get? b=some o->h'.get? b=some o)->R (.ok (.ret (.ref e))) {s with heap:=h'}):=
 .of_wp λprog w A R s h=>by
  obtain⟨k,p⟩:=h;obtain⟨items,k⟩:=k;obtain⟨m,g,d,r,os⟩:=s;have n:=sub_enumerate
  have f:∀a:Heap,(⟨m.objs.size,q.l,q.tup⟩:Src).At a 0->a.objs.size=m.objs.size+1->(∀b o,m.get? b=some o->a.get? b=some o)->
    R (.ok (.ret (.ref a.objs.size))) ⟨a.push {cls:= .type "enumerate",data:= .fields #[.none,.bool false,.ref m.objs.size,rawInt 0,.none,.none]},g,d,r,os⟩:=λa i j k1=>
   p _ _ (by show m.objs.size<_;lia) ⟨⟨.none,aMa _ rfl⟩,i.to λo e=>aM5 _ e⟩ λb o e=>aM5 _ (k1 b o e)
  unfold Builtin.«enumerate.__new__»
  wp_walk
  refine wpAny_stack_any λst=>aM4 ?_;split
  ·rename_i c _ _ _ _ _;cases (c==Value.type "enumerate")
   ·wp_walk using Src.start k
    intro a i j k1
    wp_walk
    exact⟨_,rfl,f a i j k1⟩
   ·wp_walk using Src.start k
    intro a i j k1
    wp_walk
    exact⟨_,rfl,f a i j k1⟩
  ·wp_walk using Src.start k
   intro a i j k1
   wp_walk
   exact⟨_,rfl,f a i j k1⟩
section
variable {prog:Program}{w:World}{A:Around}{E:aPv}{s:Shared}
theorem ZK{q:Src}{Q:aPv}(a:∃items,q.Sq s.heap items)
  (h:∀h' e,s.heap.objs.size<e->zN h' e ⟨s.heap.objs.size,q.l,q.tup⟩ .none 0->(∀b o,s.heap.get? b=some o->h'.get? b=some o)->Q (.ref e) {s with heap:=h'}):
  wpAny (model prog w) A (call (.type "enumerate") [Value.ref q.l]) Q E s:=
 callType_new F.called_enumerate (by decide) (F.typeCall_enumerate_1 _) (F.newCall_enumerate_1 _) (λobj=>F.args_object_init_2 obj _) F.entry_enumerate_new (SG q)
  ⟨a,λh' e t Z k=>⟨by obtain⟨old,he⟩:=Z.obj;exact⟨_,he,rfl⟩,h h' e t Z k⟩⟩
end
def Ite(K:aPu)(a:Addr)(t:Bool):It where
 go:=λi H=>∃xs v,IB K H t a xs/\xs[i]? =some v
 yld:=λi H x H' =>∃p v,H p=none/\x= .ref p/\H' =upd H p (.tup [.int i,v])/\∀xs,IB K H t a xs->xs[i]? =some v
 stop:=λi H=>∃xs,IB K H t a xs/\xs.length<=i
theorem VU{P:Program}{w:World}{K:aPu}{elts:List Expr}{x1}{pos:Pos}{e:Addr}{q:Src}(f:e≠q.it):
  Turn P w K (.Tuple elts x1 pos) (Ite K q.l q.tup) [e,q.it] e (λi h=>zN h e q .none i) where
 mem:=aM8
 self:=λA i s Q E Z h=>ML Z h
 obj:=λi h Z b a=>by
  simp only[List.mem_cons,List.not_mem_nil,or_false]at a;rcases a with rfl | rfl
  ·obtain⟨old,he⟩:=Z.obj;exact⟨_,he,λv z=>by cases z⟩
  ·obtain⟨o,ho,hd⟩:=Z.at_.obj;exact⟨o,ho,λv z=>by rw[hd]at z;cases z⟩
 keep:=λi h h' Z k=>by
  obtain⟨⟨old,he⟩,n⟩:=Z;exact⟨⟨old,k e (by simp) _ he⟩,n.to λo ho=>k q.it (by simp) o ho⟩
 item:=by
  intro X p t x D i pins s σ H E I j Z hg;subst p t x;obtain⟨xs,v,m,hi⟩:=hg;obtain⟨aM,G,y⟩:=I.sqx m;obtain⟨u,J,r⟩:=G.get hi;refine C7 Z (y q.it) (by simpa using J) f λL M F k1=>?_;refine⟨_,rfl,aIc (s:={s with heap:=L,toks:=s.toks+1}) f M λN O d=>?_⟩;have g:e<s.heap.objs.size:=by obtain⟨old,he⟩:=Z.obj;exact aMb he
  have B:q.it<s.heap.objs.size:=by obtain⟨o,ho,_⟩:=Z.at_.obj;exact aMb ho
  have c:s.heap.objs.size≠e:=aNc g
  have kk:∀b o,b∉[e,q.it]->s.heap.get? b=some o->N.get? b=some o:=λb o a ho=>by
   simp only[List.mem_cons,List.not_mem_nil,or_false,not_or]at a;exact d.extBut _ _ a.1 (k1 b o a.1 a.2 ho)
  refine⟨.ref s.heap.objs.size,upd H s.heap.objs.size (.tup [.int i,v]),I.aAg (t' :=s.toks+1) j kk (aM7 _) ⟨by have:=aMe;simp;lia,[.int i s.toks,u],.cons ⟨_,rfl⟩ (.cons r .nil),⟨_,d.extBut _ _ c F,rfl,0,rfl⟩,λo ho=>by rw[d.extBut _ _ c F]at ho;cases ho;rfl⟩,rfl,?_,O,λb a=>?_⟩
  ·refine⟨s.heap.objs.size,v,I.cS.fresh (aM7 _),rfl,rfl,λT R=>?_⟩;rw[I.LH R m];exact hi
  ·have C:=(j b a).1
   have:b≠s.heap.objs.size:=by
    simp only[List.mem_cons,List.not_mem_nil,or_false]at a;rcases a with rfl | rfl
    ·exact aMg g
    ·exact aMg B
   rw[bD this];exact C
 done:=by
  intro X p t x D i pins s σ H E I j Z hg;subst p t x;obtain⟨xs,m,S⟩:=hg;obtain⟨aM,r,y⟩:=I.sqx m
  refine F4 (I.ok.hd D) Z (y q.it) ?_ λh' kp=>⟨rfl,I.T8 (t' :=s.toks) j λb o a ho=>kp b o (λz=>a (by simp[z])) ho⟩
  have:=r.length;rw[List.getElem?_toArray];exact List.getElem?_eq_none_iff.mpr (by lia)
def iEn(K:aPu)(c:TA):TI:=λσ H R=>c σ H λvs b=>∃a t,vs=[.ref a]/\(∃xs,IB K b t a xs)/\R (Ite K a t) b
theorem aGx{X:Cx}{e:Expr}{j:TA}{p pos:Pos}{elts:List Expr}{x1}{c:Pos}(hg:Gl X "enumerate")(hm:X.mg "enumerate"=none)(ha:PA X [e] j)
  (m:bootBuiltins "enumerate"=some (.type "enumerate"):=by decide+kernel)
  (n:starEach [e] X.env=(false,eval e X.env)::starEach [] X.env:=by rfl):
  PI X (.Tuple elts x1 c) (.Call (.Name "enumerate" p) [e] [] pos) (iEn X.K j):=by
 intro pins s σ H R I h;refine aO0 (qP I hg hm m ?_);refine aNb (dZ (ha pos pins s σ H _ I h) λus s1 ⟨vs,g,f,o,r⟩=>?_) n rfl;obtain⟨a,t,rfl,⟨xs,v⟩,x⟩:=r;obtain⟨u,rfl,y⟩:=vals1 o;cases y;obtain⟨aM,_,i⟩:=f.sqx v;refine ZK (q:=⟨0,a,t⟩) ⟨aM.toArray,i 0⟩ λh' z k Z kp=>?_;have A:Inv X pins σ g {s1 with heap:=h'}:=f.kept (t' :=s1.toks) kp;have T:=VU (P:=X.prog) (w:=X.w) (K:=X.K) (elts:=elts) (x1:=x1) (pos:=c) (e:=z) (q:=⟨s1.heap.objs.size,a,t⟩) (aNc k);refine ML Z ⟨z,_,_,Ite X.K a t,g,rfl,A,T,Z,λb l=>?_,x⟩
 have d:s1.heap.objs.size<=b:=by
  simp only[List.mem_cons,List.not_mem_nil,or_false]at l;rcases l with rfl | rfl
  ·exact aNt k
  ·exact aM7 _
 exact(f.T9 d (f.cS.fresh d):zM X pins g b)
end L2
namespace D3
open PySem PySem.Spec PyProof.Rows L2
def K5(f wi g:WE):WE:=λc mh Q=>f c mh λo a=>∃n,o= .ref n/\(∃kvs,a[n]? =some (.dic false kvs))/\wi c a λi d=>g c d λx b=>∃kvs e,b[n]? =some (.dic false kvs)/\i=bJ e/\Q ((gI kvs i).getD x) b
section
variable {X:Cx}{o i x:Expr}{wo wi wx:WE}{apos eG pos tpos:Pos}
theorem aE2{K:aPu}{μ:List Addr}{mh:MH}{H:Hp}{n:Nat}{v:V}{kvs:List (D×D)}(R:Rep K μ mh H)(h:Is K μ H (.ref n) v)(e:mh[n]? =some (.dic false kvs)):∃a,v= .ref a/\IsD H a:=by
 obtain⟨a,vs,rfl,c,⟨kk,b,_,_⟩,_⟩:=D0 R h e;exact⟨a,rfl,.inl ⟨kk,.inl b⟩⟩
theorem YA(V:X.A.units+64<cLine)(ho:LE X o wo)(hi:LE X i wi)(E:LE X x wx)(base:attributeBase o "get" X.env (eval o X.env)=eval o X.env:=by rfl)
  (PD:((backTo eG (starEach [i,x] X.env)).all (λx=>!x.1) && (backToKw eG (keywordEach [] X.env)).all (λx=>x.1.isSome) && decide (([i,x]:List Expr).length+([]:List Keyword).length+(if ([]:List Keyword).isEmpty then 0 else 1)<30))=true:=by rfl)
  (line:(apos.endLine==eG.line)=true:=by rfl) (trees:backTo eG (starEach [i,x] X.env)=[(false,eval i X.env),(false,eval x X.env)]:=by rfl):
  LE X (.Call (.Attribute o "get" apos) [i,x] [] eG) (K5 wo wi wx):=PE.imp (RO (by lia) ho hi E ⟨base,PD,line,trees⟩) λσ H Q h=>by
 obtain⟨μ,b,mh,R,c,En,h,F⟩:=h;refine⟨μ,b,mh,_,c,En,h,λG d q f W Y g j y=>?_⟩;obtain⟨n,rfl,⟨z,I⟩,q⟩:=q;obtain⟨a,rfl,J⟩:=aE2 j y I;refine⟨a,rfl,J,f,b,d,_,j,En.mono c g,q,λZ m K p vi H2 r R2 L=>?_⟩;refine⟨p,b,m,_,R2,En.mono c (g.trans r),K,λdx M N O vx H3 B s P=>?_⟩;obtain⟨kvs,t,e,rfl,q⟩:=N;obtain⟨a',vs,S,hn,⟨kk,C,T,rfl⟩,l⟩:=D0 s (Is.mono j (r.trans B) _ _ y) e;cases S;cases v9 L;have D:=F.at ((g.trans r).trans B)
 rcases CD t T l with ⟨u,v⟩ | ⟨d',w,u,v,U⟩
 ·rw[v]at q;exact⟨none,by rw[<-u];exact .k C,D.here s q P⟩
 ·rw[v]at q;exact⟨some w,by rw[<-u];exact .k C,D.here s q U⟩
@[simp] theorem aKr {c:iM}{mh:MH}{Q:DK}:K5 wo wi wx c mh Q=(wo c mh λo a=>∃n,o= .ref n/\(∃kvs,a[n]? =some (.dic false kvs))/\wi c a λi d=>wx c d λx b=>∃kvs e,b[n]? =some (.dic false kvs)/\i=bJ e/\Q ((gI kvs i).getD x) b):=rfl
end
theorem aD1{X:Cx}(i j:Nat){x y:Str}{a b:Expr}{p:WA}{px k pt pos:Pos}{l k2:Nat}{c:Pos}(w:X.calm=true)(hN:X.N.Nodup)(ha:LA X [a,b] p)(hi:X.N[i]? =some x:=by rfl)(z:X.N[j]? =some y:=by rfl)(m:i≠j:=by decide)
  (A:X.env.scope.names.lookup x=some .local:=by rfl) (B:X.env.scope.names.lookup y=some .local:=by rfl)
  (C:swappedStores [.Tuple [.Name x px,.Name y k] l pt] (.Tuple [a,b] k2 c) X.env=pure (some [x,y]):=by rfl)
  (G:swapsWithSole [.Tuple [.Name x px,.Name y k] l pt] (.Tuple [a,b] k2 c) pos.line X.env=pure false:=by rfl):
  LS X (.Assign [.Tuple [.Name x px,.Name y k] l pt] (.Tuple [a,b] k2 c) pos) (bH (dB p) (gT 2 (aQ (gN i) (aQ (gN j) eE)))):=
 PS.imp (aBn w hN hi z m A B ha C G) λD σ H h=>by
  obtain⟨μ,I,mh,E,s,En,h,F⟩:=h;refine⟨μ,I,mh,_,s,En,h,λds n J o vs K t L f=>?_⟩;obtain⟨_,M,e,Q,d,r,rfl,R,S,rfl,rfl,q⟩:=J;cases e;unfold IsL at f;obtain⟨v,T,rfl,f,g⟩:=f;unfold IsL at g;obtain⟨O,P,rfl,g,u⟩:=g;unfold IsL at u;subst u;exact⟨v,O,rfl,F.nx _ n q o _ K t L (((En.mono s t).set i f).set j g)⟩
abbrev cF(P:Program)(W:World)(K:aPu)(mg:aPx)(base:Heap)(N:List Str)(q:Str)(S:Stmt)(f:Addr)(a:Value)(A:Around)(o:List Env)(s:Shared)(H:Hp)(E:XK):Cx:=(yZ HX P W K mg base N q (aG S) f a A o s H E).XJ
section
variable {P:Program}{W:World}{K:aPu}{mg:aPx}{base:Heap}{N:List Str}{q:Str}{S:Stmt}{f:Addr}{cd:Value}{A:Around}{o:List Env}{s:Shared}{H:Hp}{E:XK}
 {tg iter elt:Expr} {ifs:List Expr} {scope:Scope} {pos:Pos} {wi:WI} {g:TG} {gd:WG} {t:WT} {w:WE} (own:List Str) (aS:List Nat)
def cN(N own:List Str)(aS:List Nat):List Str:=own++aS.map λi=>N.getD i ""
theorem aDd(chk:hX N (aG S) scope aS=true)(nd:(cN N own aS).Nodup)(a:tG K g gd)(ho:zL own.length g)
  (hi:LI (cF P W K mg base N q S f cd A o s H E) tg iter wi)
  (hg:(cN N own aS).Nodup->∀cl C fp s₀ H₀,PG (bE (cF P W K mg base N q S f cd A o s H E) own aS scope cl C fp s₀ H₀) tg g) (ht:∀cl C fp s₀ H₀,VH (bE (cF P W K mg base N q S f cd A o s H E) own aS scope cl C fp s₀ H₀) ifs t)
  (he:∀cl C fp s₀ H₀,LE (bE (cF P W K mg base N q S f cd A o s H E) own aS scope cl C fp s₀ H₀) elt w)
  (b:∀x,foldedSetIterable iter (cF P W K mg base N q S f cd A o s H E).env x=pure x:=by intro _;rfl):LE (cF P W K mg base N q S f cd A o s H E) (.ListComp elt [⟨tg,iter,ifs,0⟩] scope pos) (tJ own aS wi gd t w):=
 aAa (N:=N) (sc:=aG S) own aS rfl rfl chk rfl hi ho a (hg nd) ht he b
theorem OI{i:Nat}{x:Str}{a c:Pos}(chk:hX N (aG S) scope aS=true)(nd:(cN N own aS).Nodup)(d:tG K g gd)(ho:zL own.length g)
  (hN:N.Nodup) (hi:LI (cF P W K mg base N q S f cd A o s H E) tg iter wi)
  (hg:(cN N own aS).Nodup->∀cl C fp s₀ H₀,PG (bE (cF P W K mg base N q S f cd A o s H E) own aS scope cl C fp s₀ H₀) tg g) (ht:∀cl C fp s₀ H₀,VH (bE (cF P W K mg base N q S f cd A o s H E) own aS scope cl C fp s₀ H₀) ifs t)
  (he:∀cl C fp s₀ H₀,LE (bE (cF P W K mg base N q S f cd A o s H E) own aS scope cl C fp s₀ H₀) elt w)
  (b:N[i]? =some x:=by rfl) (e:Loc (cF P W K mg base N q S f cd A o s H E).env.scope x:=by first | exact Or.inl rfl | exact Or.inr rfl) (h:swapsWith (.ListComp elt [⟨tg,iter,ifs,0⟩] scope pos) (some (.Name x a)) c.line (cF P W K mg base N q S f cd A o s H E).env=pure true:=by rfl)
  (j:(cF P W K mg base N q S f cd A o s H E).fn x=true\/(cF P W K mg base N q S f cd A o s H E).env.scope.names.lookup x=some .local:=by first | exact .inl rfl | exact .inr rfl | assumption)
  (k:∀x,foldedSetIterable iter (cF P W K mg base N q S f cd A o s H E).env x=pure x:=by intro _;rfl):LS (cF P W K mg base N q S f cd A o s H E) (.Assign [.Name x a] (.ListComp elt [⟨tg,iter,ifs,0⟩] scope pos) c) (bH (tJ own aS wi gd t w) (gN i)):=
 SR i hN (N:=N) (sc:=aG S) own aS rfl rfl chk rfl hi ho d (hg nd) ht he b e h j k
end
section
variable {X:Cx}{pins:List (Addr×Obj)}{σ:L2.St}{H:Hp}{s:Shared}{a:Addr}
theorem WD{prog:Program}{w:World}{A:Around}{E:aPv}{s:Shared}{d:Addr}{es:Array DictEntry}{b:Nat}{Q:aPv}(hd:(d==sysModules)=false)(hm:ES s.heap d es b)(c:(es.size:Int)<2^63)
  (h:∀t k,Q (.int es.size t) {s with toks:=k}):wpAny (model prog w) A (call (.builtin "len") [.ref d]) Q E s:=by
 refine aOi kind_len plain_len entry_len (args_len1 _) ?_;unfold Builtin.«len»;refine aM3 (m:=oneArg "len" _) (aM4 ?_)
 have M:MeetsIn prog w (Builtin.«dict.__len__» ⟨[.ref d],[]⟩) (λ_ R s=>ES s.heap d es b/\R (.ok (.ret (.int es.size s.toks))) {s with toks:=s.toks+1}):= .of_wp λA R s ⟨hm,h⟩=>by
  obtain⟨o,ho,e,a⟩:=hm;show wpAny _ _ (dictSize d >>=_) _ _ s;unfold dictSize;refine aM3 (aM3 (wpAny_dictEntries ho a (aM4 ?_)));show wpAny _ _ (Builtin.Dict.pendingCount d >>=_) _ _ s;refine aM3 (wpAny_pendingCount_other hd ?_);refine wpAny_ret_mkInt ?_;rw[Nat.add_zero];exact h
 refine aM3 (m:=callSpecial? (.ref d) (Str.ofString "__len__")) (aMo (name:=Str.ofString "__len__") hm.typeIs F.slot_dict_len
  (call_meetsIn F.slot_dict_len hm.typeIs F.entry_dict_len (F.args_dict_len_1 _) M ⟨hm,?_⟩))
 show wpAny _ _ _ _ _ {s with toks:=s.toks+1};refine aM3 (aMv (aM4 ?_));refine aM3 (wpAny_letGo ?_);show wpAny _ _ (if ((es.size:Nat):Int)<0 then _ else _) _ _ _;rw[if_neg (by lia)];show wpAny _ _ (if ((es.size:Nat):Int)>=2^63 then _ else _) _ _ _;rw[if_neg (by lia)];exact aM3 (aPm (aM4 ⟨_,rfl,h _ _⟩))
end
open PySem.Calls
theorem aJc{l:PySem.W.OpenLaw}{q:Program}{loose:List Str}{K:Params->aPu}{as:List Addr}{d:DefRec}{a:List (Str×Expr)}{N:Nat}(ok:l.wellSaid=true)(e:∀P,as=(K P).map (·.1))
  (left:PySem.W.LeftO l.prog q loose (λ_=>true) (λs=>as.map s.heap.get?) (λw=>(K w.params).map λp=>some p.2) N)
  (b:PySem.W.defOf q l.name=some (d,a)) (h:l.prog.theDef l.name=some (d.params,d.body,d.scope)) (i:PySem.W.kwWritten? d.params.kwonlyargs d.params.kw_defaults=some a)
  (g:(PySem.W.chainsOk q && PySem.W.opensWell l.prog && (PySem.W.frees l.row.toRowW && l.row.within.isEmpty))=true) (j:l.prog.bare) (k:l.row.toRowW.promised)
  (call:PySem.W.WalkO q loose (λ_ _=>True) (PySem.W.InK K) l.row.toRowW d a λf vs=>PySem.call f vs):l.Holds:=
 PySem.W.holds_law ok λc=>PySem.W.holds_open (r:=l.row) (XP:=λ_ _=>True) left (PySem.W.InK.of e) PySem.W.InK.keeps (λ_ _=>trivial) (λ_ _ _ _ _=>trivial) b h i
  (λs _=>PySem.W.recFacts_of (R:=[]) rfl) (Bool.or_true _) c g j k call
section
variable {P:Program}{W:World}{K:aPu}{mg:aPx}{base:Heap}{N:List Str}{q:Str}{S:Stmt}{f:Addr}{cd:Value}{A:Around}{o:List Env}{s:Shared}{H:Hp}{E:XK}
 {tg iter elt:Expr} {ifs:List Expr} {scope:Scope} {pos p1 p2:Pos} {wi:WI} {g:TG} {gd:WG} {t:WT} {w:WE} (own:List Str) (aS:List Nat)
end
theorem BS{prog:Program}{w:World}{A:Around}{E:aPv}{it l:Addr}{items:Array Value}(d:l≠it):∀(n i:Nat) (s:Shared) (Q:List Value->Shared->Prop),s.heap.IsListIter it l i->s.heap.IsList l items->i+n<=items.size->
  (∀h',h'.IsListIter it l (i+n)->Heap.SameBut it s.heap h' ->Q ((items.toList.drop i).take n) {s with heap:=h'})->wpAny (model prog w) A (draw (.ref it) n) Q E s
 | 0,i,s,Q,a,_,_,q=>aM4 (by simpa using q s.heap a (Heap.SameBut.refl ..))
 | n+1,i,s,Q,a,b,c,q=>by
  have e:i<items.size:=by lia
  show wpAny _ _ (pyNext (.ref it) >>=_) Q E s;refine aM3 (wpAny_pyNext_list_item a b (x:=items[i]) (by simp[e]) λj f s1=>?_);refine aM3 (aMv (BS d n (i+1) _ _ f (b.extBut s1.extBut d) (by lia) λg h s2=>aM4 ?_));have:=q g (by rw[show i+(n+1)=i+1+n by lia];exact h) (s1.trans s2);rw[show items.toList.drop i=items[i]::items.toList.drop (i+1) by simp[List.drop_eq_getElem_cons,e],List.take_succ_cons]at this;exact this
variable {X:Cx}{pos:Pos}
def aLl(K:aPu)(n:Nat)(t:HU):TG:=λv σ H Q=>∃a xs,v= .ref a/\rA K H a xs/\xs.length=n/\t xs σ H Q
theorem aBt{es:List Expr}{k:Nat}{t:HU}{n:Nat}(p:X.calm=true)(h:ZS X es t)
  (q:(assignEach es X.env).length=n:=by rfl) (f:(assignEach es X.env).findIdx? (·.1)=none:=by rfl):PG X (.Tuple es k pos) (aLl X.K n t):=by
 intro pins s σ H v u Q I r g;obtain⟨a,xs,w,x,B,g⟩:=g;subst w;cases r;obtain⟨aM,l,m,hz⟩:=I.list x;have C:=l.length;rw[assign_Tuple];refine aM3 (aOl ?_);unfold unpack;rw[q,f];refine aM3 (aMv ?_);unfold unpackItems;refine aM3 ?_;unfold notIterableAtAll;refine aM3 (aO6 m.isList.typeIs slot_list_iter.lookup ?_);refine aM4 ?_;simp only[Bool.false_eq_true,if_false];refine aM3 (aMv (o7 m.isList λs2 y st c=>?_));subst y;refine aM3 (aMv (BS c n 0 _ _ st.1 st.2 (by simp;lia) λD i d=>?_));rw[show List.take n (List.drop 0 aM.toArray.toList)=aM from List.take_of_length_le (by simp;lia),if_neg (by lia)];refine aM3 (aMv (wpAny_pyNext_list_end (I.ok.hd p) i (st.2.extBut d.extBut c) (by simp;lia) λz j=>?_));simp only[Option.isSome_none,Bool.false_eq_true,if_false];refine aM4 ?_;have A:Inv X pins σ H {s with heap:=z}:=I.kept (t' :=s.toks) λb o e=>j b o (aMg (aMb e)) (d.extBut b o (aMg (aMb e)) (aM5 _ e));exact h pins _ σ H xs _ Q A l g
def K6(w:WE)(n:Nat)(u:P8):WS:=λE c mh=>w c mh λd a=>∃ds,lF a d=some ds/\ds.length=n/\u ds c λb =>E.nx b a
theorem aCy{es:List Expr}{k:Nat}{e:Expr}{t:HU}{u:P8}{n:Nat}{w:WE}{tp:Pos}(s:X.calm=true)(he:LE X e w)(h:ZS X es t)(x:zK X.K t u)(y:(assignEach es X.env).length=n:=by rfl)(f:(assignEach es X.env).findIdx? (·.1)=none:=by rfl)
  (z:swapsWithSole [.Tuple es k tp] e pos.line X.env=pure false:=by rfl) (A:swappedStores [.Tuple es k tp] e X.env=pure none:=by rfl)
  (B:(assignEach [.Tuple es k tp] X.env).map (·.2)=[assign (.Tuple es k tp) X.env]:=by rfl):LS X (.Assign [.Tuple es k tp] e pos) (K6 w n u):=
 PS.imp (IU he (aBt s h y f) z A B) λD σ H h=>by
  obtain⟨μ,o,mh,E,R,En,h,F⟩:=h;refine⟨μ,o,mh,_,R,En,h,λd b q c v p r g C=>?_⟩;obtain⟨ds,G,I,q⟩:=q;obtain⟨a,vs,rfl,sq,l⟩:=oJ g C G;exact⟨a,vs,rfl,sq,by rw[bB l];exact I,x vs σ p _ c o b ds _ g (En.mono R r) l q λi J j m =>F.nx i b J c j p r g m⟩
@[simp] theorem aKs {w:WE}{n:Nat}{u:P8}{E:iL}{b:iM}{mh:MH}:K6 w n u E b mh=w b mh λd a=>∃ds,lF a d=some ds/\ds.length=n/\u ds b λc =>E.nx c a:=rfl
def tupK(k:List Key):D:= .tup (k.map bJ)
def ET(le:Bool)(x y:List Int):Bool:=match le with | true=>!lx y x | false=>lx x y
def aHl(le:Bool):CmpOp:=match le with | true=>.LtE | false=>.Lt
theorem SK(le:Bool)(p x y:List Int):ET le (p++x) (p++y)=ET le x y:=by cases le <;> simp[ET,sG]
theorem XS(le:Bool){i j:Int}(h:i≠j):ET le (cA (.int i)) (cA (.int j))=match le with | true=>decide (i<=j) | false=>decide (i<j):=by
 cases le with
 | false=>simp only[ET,cA,lx];by_cases a:i<j <;> simp[a]
 | true=>
  simp only[ET,cA,lx];by_cases a:j<i
  ·simp[a]
  ·have:i<=j:=by lia
   simp[a,this]
section
variable {prog:Program}{w:World}{A:Around}{E:aPv}{s:Shared}
theorem NC(le:Bool){c:Sc}{k1 k2:Key}{u v:Value}{Q:aPv}(f:(aW prog w).is k1 u=true)(b:(aW prog w).is k2 v=true)(d:cH c (bJ k1)=true)(e:cH c (bJ k2)=true)(a:k1≠k2)
  (h:Q (.bool (ET le (cA (bJ k1)) (cA (bJ k2)))) s):wpAny (model prog w) A (richCompare (aHl le) u v) Q E s:=by
 rcases bL (k:=k1) (v:=u) f with ⟨i,t,rfl,rfl⟩ | ⟨x,t,rfl,rfl⟩
 ·rcases bL (k:=k2) (v:=v) b with ⟨j,t',rfl,rfl⟩ | ⟨y,t',rfl,rfl⟩
  ·simp only[bJ]at h;rw[XS le (λz=>a (by rw[z]))]at h
   cases le with
   | true=>exact PyProof.Rows.le_int h
   | false=>exact PyProof.Rows.lt_int h
  ·cases c <;> simp[bJ,cH]at d e
 ·rcases bL (k:=k2) (v:=v) b with ⟨j,t',rfl,rfl⟩ | ⟨y,t',rfl,rfl⟩
  ·cases c <;> simp[bJ,cH]at d e
  ·simp only[bJ]at h;have g:lx (cA (.str x)) (cA (.str y))=decide (x.cps.toList<y.cps.toList):=tU _ _;have l:lx (cA (.str y)) (cA (.str x))=decide (y.cps.toList<x.cps.toList):=tU _ _
   cases le with
   | true=>simp only[ET,l]at h;exact PySem.P.le_str (by first | exact h | simpa using h)
   | false=>simp only[ET,g]at h;exact PyProof.Rows.lt_str h
theorem UR(le:Bool){B:Builtin}{x y:List Key}{a b:Addr}{P:PySem.Fin->Shared->Prop}{cs:List Sc}(Q:B=match le with | true=>Builtin.«tuple.__le__» | false=>Builtin.«tuple.__lt__»)(X:IsTupleKey (aW prog w) s.heap x a)(R:IsTupleKey (aW prog w) s.heap y b)(S:bA cs (x.map bJ)=true)(T:bA cs (y.map bJ)=true)
  (h:P (.done (.ret (.bool (ET le (enc (tupK x)) (enc (tupK y)))))) s):wpAny (model prog w) A (B ⟨[.ref a,.ref b],[]⟩) P E s:=by
 have J:=R.typeIs;obtain⟨oa,xs,na,K,_,L,C⟩:=X;obtain⟨ob,o,nb,M,_,N,F⟩:=R
 have i:∀{cs:List Sc} {ds:List D},bA cs ds=true->ds.length=cs.length:=by
  intro cs
  induction cs with
  | nil=>intro ds h;cases ds <;> simp[bA]at h⊢
  | cons c cs ih=>intro ds h;cases ds with
   | nil=>simp[bA]at h
   | cons d ds=>simp only[bA,Bool.and_eq_true]at h;simp[ih h.2]
 have sz:xs.size=o.size:=by
  have Y:=C.length;have Z:=F.length;have a3:=i S;have a4:=i T;simp at Y Z a3 a4
  lia
 have go:∀(op:CmpOp),op=aHl le->wpAny (model prog w) A (do
   if !(<-isInstance (.ref b) (.type "tuple")) then return<-ret .notImplemented
   let xs<-Builtin.Tuple.tupleItemsOf (.ref a)
   let o<-Builtin.Tuple.tupleItemsOf (.ref b)
   for (x,y) in xs.toList.zip o.toList do
    if !(<-eqBool x y) then
     match op with
     | .Eq=>return<-ret (.bool false)
     | .NotEq=>return<-ret (.bool true)
     | _=>rule "tuple.compare.by-the-first-pair-that-differs";return<-ret (<-richCompare op x y)
   ret (Builtin.Tuple.tupleCompareSizes op xs.size o.size)) P E s:=λop G=>by
  refine aM3 (aNy J isSubtype_tuple_tuple ?_);simp only[Bool.not_true,Bool.false_eq_true,if_false];refine aM3 (aPj K L ?_);refine aM3 (aPj M N ?_);refine aM3 ?_
  refine aOf _
   (λrest r H =>r.1=none/\H =s/\∃f q t j k,rest=List.zip j k /\ItemsAre (aW prog w) q j /\ItemsAre (aW prog w) t k /\bA f (q.map bJ)=true/\bA f (t.map bJ)=true/\ET le (enc (tupK q)) (enc (tupK t))=ET le (enc (tupK x)) (enc (tupK y)))
   _ ?_ ?_ _ _ ⟨rfl,rfl,cs,x,y,xs.toList,o.toList,rfl,C,F,S,T,rfl⟩
  ·rintro⟨u,v⟩ rest r H ⟨O,rfl,f,q,t,j,k,hz,p,l,m,n,g⟩
   cases p with
   | nil=>simp at hz
   | @cons k1 u' x'' xs'' h1 hx'' =>
    cases l with
    | nil=>simp at hz
    | @cons k2 v' y'' ys'' h2 hy'' =>
     simp only[List.zip_cons_cons,List.cons.injEq,Prod.mk.injEq]at hz;obtain⟨⟨rfl,rfl⟩,rfl⟩:=hz
     cases f with
     | nil=>simp[bA]at m
     | cons c f =>
      simp only[List.map_cons,bA,Bool.and_eq_true]at m n;refine aM3 ((aW prog w).eqBool (a:=k1) (b:=k2) h1 h2 ?_);by_cases I:k1=k2
      ·subst I;rw[decide_eq_true rfl];simp only[Bool.not_true,Bool.false_eq_true,if_false];refine aM4 ⟨rfl,rfl,f,x'',y'',xs'',ys'',rfl,hx'',hy'',m.2,n.2,?_⟩;rw[<-g];simp only[tupK,enc,List.map_cons,List.flatMap_cons,SK]
      ·rw[decide_eq_false I];simp only[Bool.not_false,if_true];have U:bJ k1≠bJ k2:=λz=>I (yF z)
       have e:ET le (enc (tupK (k1::x''))) (enc (tupK (k2::y'')))=ET le (cA (bJ k1)) (cA (bJ k2)):=by
        simp only[tupK,enc,List.map_cons,List.flatMap_cons]
        cases le with
        | true=>simp only[ET,jJ n.1 m.1 (Ne.symm U)]
        | false=>simp only[ET,jJ m.1 n.1 U]
       rw[<-g,e]at h;subst G
       cases le with
       | true=>exact aM3 (aN4 (aM3 (NC true h1 h2 m.1 n.1 I (aM3 (aM4 (aM4 (aM4 h)))))))
       | false=>exact aM3 (aN4 (aM3 (NC false h1 h2 m.1 n.1 I (aM3 (aM4 (aM4 (aM4 h)))))))
  ·rintro⟨r1,r2⟩ H ⟨O,rfl,f,q,t,j,k,hz,p,l,m,n,g⟩;simp only at O;subst O
   have e0:q =[]/\t =[]:=by
    have V:=i m;have W:=i n
    cases p with
    | nil=>simp at V;cases l with
     | nil=>exact⟨rfl,rfl⟩
     | cons _ _=>simp at W;lia
    | cons _ _=>cases l with
     | nil=>simp at V W;lia
     | cons _ _=>simp at hz
   obtain⟨rfl,rfl⟩:=e0;rw[<-g]at h;subst G;refine aM4 ?_
   cases le with
   | true=>show P (.done (.ret (.bool (decide (xs.size<=o.size))))) H;rw[sz];simpa[ET,tupK,enc,lx] using h
   | false=>show P (.done (.ret (.bool (decide (xs.size<o.size))))) H;rw[sz];simpa[ET,tupK,enc,lx] using h
 cases le with
 | true=>subst Q;exact go .LtE rfl
 | false=>subst Q;exact go .Lt rfl
end
def oX:OA:=λxs mh Q=>∃ds,xs=[.tup ds]/\ds.length<64/\EV ds/\
 ∀a,a.Perm ds->a.Pairwise (λd e=>lx (enc e) (enc d)=false)->Q (.ref mh.length) (mh++[.lst a])
section
variable {X:Cx}
theorem J9(hu:X.A.units+64<cLine):cG X (.builtin "sorted") (eB X.K oX):=by
 intro pins s σ H xs us Q I r q;obtain⟨μ,mh,ds,R,N,O,⟨es,rfl,P,U,q⟩,F⟩:=q;obtain⟨v,rfl,S⟩:=eD O;obtain⟨a,vs,rfl,sq,l⟩:=eC S;obtain⟨u,rfl,T⟩:=vals1 r;cases T;obtain⟨aM,i,V,hz⟩:=I.tuple sq;have sz:=aMe;have j:=n4 I es (B8 U) l i;have J:aM.length=es.length:=bG j;have W:X.A.in1.in1.units+40<cLine:=by show X.A.units+1+1+40<_;lia
 obtain⟨o,ho,Y,n,hd⟩:=V
 refine TS.FD (A:=X.A) (JL s.heap) (Ok:=λvs Z =>vs=aM/\∃c,Z ={s with heap:=c}/\∀b o,s.heap.get? b=some o->c.get? b=some o)
  (λE R hR=>wpAny_collect_seq a (.inr rfl) ho Y hd (λh' k=>hR _ _ ⟨by simp,h',rfl,k⟩) (by simp;lia)) ?_ ?_ ?_
 ·rintro ws _ ⟨e,_⟩;rw[e];lia
 ·rintro ws _ ⟨e,c,rfl,p⟩;rw[e];by_cases g:2<=aM.length
  ·obtain⟨κ,x⟩:=w9 (prog:=X.prog) (w:=X.w) (A:=X.A.in1.in1) W U j g;exact⟨κ,λ_ h' k=>x h' λb o e=>k b o (p b o e)⟩
  ·exact⟨general',λz=>absurd z g⟩
 ·rintro ws _ ⟨e,c,rfl,p⟩ out y B g ep kept C;rw[e]at y;obtain⟨ts,t1,t2,t3,t4⟩:=zP l i j;rw[<-t3]at y;obtain⟨f,D,L⟩:=rZ (·.u) y ts rfl;have h:∀t∈f,Is X.K μ H t.d t.v/\RelV t.v t.u/\Vl s.heap t.d t.u:=λt ht=>t4 t (D.mem_iff.mp ht);have pd:(f.map (·.d)).Perm es:=by rw[<-t1];exact D.map _
  have pw:(f.map (·.d)).Pairwise (λd e=>lx (enc e) (enc d)=false):=by
   rw[<-L]at B;rw[List.pairwise_map]at B⊢;refine B.imp_of_mem λ{t t'} m m' c=>?_;have e1:dv s.heap t.u=t.d:=gO (h t m).2.2;have e2:dv s.heap t'.u=t'.d:=gO (h t' m').2.2;unfold ltV at c;rw[e1,e2]at c;exact c
  have ln:(f.map (·.v)).length<=sizeLine:=by
   have:=D.length_eq;have G :=aN5 List.length t2;have:=i.length;simp at G ⊢
   lia
  have M:Inv X pins σ H {s with heap:=c}:=Inv.drawn I rfl rfl p
  have I1:Inv X pins σ (upd H c.objs.size (.lst (f.map (·.v)))) {s with heap:=g}:=
   M.laid (h' :=g) (t' :=s.toks) kept (aM7 _) ⟨ln,out,ep,by rw[<-L];exact rK λt ht=>(h t ht).2.1,C⟩
  exact⟨.ref c.objs.size,_,I1,rfl,k7 N F (wA λt ht=>(h t ht).1) (q _ pd pw) _ (M.cS.fresh (aM7 _))⟩
end
end D3
namespace HT
open PySem PyProof.Rows
open PySem.SeqAt
end HT
namespace D3
open PySem PySem.Spec PyProof.Rows L2
section
variable {P:Program}{W:World}{K:aPu}{mg:aPx}{base:Heap}{N:List Str}{q:Str}{S:Stmt}{f:Addr}{cd:Value}{A:Around}{o:List Env}{s:Shared}{H:Hp}{E:XK}
 {tg iter elt:Expr} {ifs:List Expr} {scope scope0:Scope} {pos:Pos} {wi:WI} {g:TG} {gd:WG} {t:WT} {w:WE} {own0:List Str} {caps0:List Nat} {cl0:List (Str×Addr)} {C0:Addr} {fp0:List Addr} {s0:Shared} {H0:Hp} (own:List Str) (aS:List Nat)
abbrev cC(P:Program)(W:World)(K:aPu)(mg:aPx)(base:Heap)(N:List Str)(q:Str)(S:Stmt)(f:Addr)(cd:Value)(A:Around)(o:List Env)(s:Shared)(H:Hp)(E:XK)(own0:List Str)(caps0:List Nat)(scope0:Scope)(cl0:List (Str×Addr))(C0:Addr)(fp0:List Addr)(s0:Shared)(H0:Hp):Cx:=
 bE (cF P W K mg base N q S f cd A o s H E) own0 caps0 scope0 cl0 C0 fp0 s0 H0
def reS(sc scope:Scope):Scope:={scope with names:=scope.names.map λy=>if (y.2==NameKind.free && sc.kind== .function && sc.names.lookup y.1==some .cell) then (y.1,NameKind.cell) else y}
theorem aDe(chk:hX (cN N own0 caps0) (reS (aG S) scope0) scope aS=true)(nd:(cN (cN N own0 caps0) own aS).Nodup)(a:tG K g gd)(ho:zL own.length g)
  (hi:LI (cC P W K mg base N q S f cd A o s H E own0 caps0 scope0 cl0 C0 fp0 s0 H0) tg iter wi)
  (hg:(cN (cN N own0 caps0) own aS).Nodup->∀cl C fp s₀ H₀,PG (bE (cC P W K mg base N q S f cd A o s H E own0 caps0 scope0 cl0 C0 fp0 s0 H0) own aS scope cl C fp s₀ H₀) tg g)
  (ht:∀cl C fp s₀ H₀,VH (bE (cC P W K mg base N q S f cd A o s H E own0 caps0 scope0 cl0 C0 fp0 s0 H0) own aS scope cl C fp s₀ H₀) ifs t)
  (he:∀cl C fp s₀ H₀,LE (bE (cC P W K mg base N q S f cd A o s H E own0 caps0 scope0 cl0 C0 fp0 s0 H0) own aS scope cl C fp s₀ H₀) elt w)
  (b:∀x,foldedSetIterable iter (cC P W K mg base N q S f cd A o s H E own0 caps0 scope0 cl0 C0 fp0 s0 H0).env x=pure x:=by intro _;rfl):
  LE (cC P W K mg base N q S f cd A o s H E own0 caps0 scope0 cl0 C0 fp0 s0 H0) (.ListComp elt [⟨tg,iter,ifs,0⟩] scope pos) (tJ own aS wi gd t w):=
 aAa (N:=cN N own0 caps0) (sc:=reS (aG S) scope0) own aS rfl rfl chk rfl hi ho a (hg nd) ht he b
end
section
variable {X:Cx}{K:aPu}{μ:List Addr}{H:Hp}
theorem BL:∀{ds:List D} {vs:List V} (i:Nat),IsL K μ H ds vs->IsL K μ H (ds.eraseIdx i) (vs.eraseIdx i)
 | [],vs,i,h=>by unfold IsL at h;subst h;simp;unfold IsL;rfl
 | d::ds,vs,i,h=>by
  unfold IsL at h;obtain⟨v,r,rfl,a,l⟩:=h
  cases i with
  | zero=>exact l
  | succ i=>
   simp only[List.eraseIdx_cons_succ];unfold IsL;exact⟨v,_,rfl,a,BL i l⟩
def DC:OM:=λx ds mh Q=>∃n es i d,x= .ref n/\ds=[.int (i:Nat)]/\mh[n]? =some (.lst es)/\i<2^62/\es[i]? =some d/\Q d (mh.set n (.lst (es.eraseIdx i)))
theorem SA:ZU X "list.pop" (liftM X.K DC):=by
 intro pins s σ H x xs v us Q I f rs q;obtain⟨μ,mh,dx,ds,R,b,ix,g,⟨n,es,i,d,rfl,rfl,e,hi,hd,q⟩,F⟩:=q;obtain⟨a,vs,rfl,h,j,l⟩:=gA b ix e;obtain⟨u,rfl,k⟩:=eD g;cases b9 k;have c:=bB l;obtain⟨z,hz,m⟩:=fD l hd;have o:i<vs.length:=(aM6.mp hz).1;refine R8 pins s σ H _ _ v us Q I f rs ⟨a,vs,i,i,z,rfl,rfl,j,by lia,by lia,?_,hz,F.put b h (BL i l) q m⟩;unfold seqIndex?;simp
 lia
end
section
variable {mh:MH}{Q:DK}
theorem QW{n i:Nat}{es:List D}{d:D}(h:mh[n]? =some (.lst es))(hi:i<2^62)(hd:es[i]? =some d)(q:Q d (mh.set n (.lst (es.eraseIdx i)))):DC (.ref n) [.int (i:Nat)] mh Q:=⟨n,es,i,d,rfl,rfl,h,hi,hd,q⟩
end
def nC:Nat->List D->List D
 | _,[]=>[]
 | k,d::ds=>.tup [.int (k:Nat),d]::nC (k+1) ds
theorem pB:∀(k:Nat) (ds:List D),(nC k ds).length=ds.length
 | _,[]=>rfl
 | k,d::ds=>by simp[nC,pB (k+1) ds]
theorem pC:∀{k:Nat} {ds:List D} {i:Nat} {x:D},(nC k ds)[i]? =some x->∃d,ds[i]? =some d/\x= .tup [.int ((k+i:Nat):Int),d]
 | k,[],i,x,h=>by simp[nC]at h
 | k,d::ds,0,x,h=>by simp[nC]at h;exact⟨d,rfl,by rw[<-h];rfl⟩
 | k,d::ds,i+1,x,h=>by
  obtain⟨e,he,rfl⟩:=pC (k:=k+1) (ds:=ds) (i:=i) (by simpa[nC] using h);exact⟨e,by simpa using he,by rw[show k+1+i=k+(i+1) by lia]⟩
def VP(b:WA):WI:=λc mh Q=>b c mh λxs a=>∃x ds,xs=[x]/\bF a x=some ds/\ds.length<=sizeLine/\Q (nC 0 ds) (λmh' =>bF mh' x=some ds) a
@[simp] theorem s_en (a:WE)(g:iM)(mh:MH)(P:List D->(MH->Prop)->MH->Prop):VP (aA a aD) g mh P=(a g mh λx b=>got (bF b x) λds=>ds.length<=sizeLine/\P (nC 0 ds) (λmh' =>bF mh' x=some ds) b):=by
 unfold VP;simp only[aB8,aGf];congr 1;funext x b;apply propext;rw[<-gF];constructor
 ·rintro⟨y,ds,e,c,d,f⟩;cases e;exact⟨ds,c,d,f⟩
 ·rintro⟨ds,c,d,f⟩;exact⟨x,ds,rfl,c,d,f⟩
section
variable {X:Cx}{e:Expr}{elts:List Expr}{wa:WA}{p pos tpos:Pos}
theorem aHq{x1}(hg:Gl X "enumerate")(hm:X.mg "enumerate"=none)(ha:LA X [e] wa)
  (y:starEach [e] X.env=(false,eval e X.env)::starEach [] X.env:=by rfl):
  LI X (.Tuple elts x1 tpos) (.Call (.Name "enumerate" p) [e] [] pos) (VP wa):=
 PI.imp (aGx hg hm ha (by decide+kernel) y) λσ H R h=>by
  obtain⟨μ,A,mh,f,B,En,h,F⟩:=h;refine⟨μ,A,mh,_,B,En,h,λxs m q g vs o C r D=>?_⟩;obtain⟨x,ds,rfl,E,hz,q⟩:=q;obtain⟨v,rfl,s⟩:=eD D;obtain⟨a,xs,rfl,G,la⟩:=tN r s E;refine⟨a,TC x,rfl,⟨xs,G⟩,F _ _ m q g _ o C r ?_⟩
  have c:∀μ' mh' H',mE g o μ' H' ->Rep X.K μ' mh' H' ->bF mh' x=some ds->∃xs,IB X.K H' (TC x) a xs/\IsL X.K μ' H' ds xs:=λμ' mh' H' j f st=>by
   obtain⟨O,b,I,s1,k⟩:=tN f (Is.p7 j _ _ s) st;cases I;exact⟨b,s1,k⟩
  refine⟨by rw[pB];exact hz,λμ' mh' H' j f st i d J=>?_,λμ' mh' H' j f st=>?_⟩
  ·obtain⟨b,s1,k⟩:=c μ' mh' H' j f st;obtain⟨d',L,rfl⟩:=pC J;obtain⟨l,k1,M⟩:=fD k L;refine⟨⟨b,l,s1,k1⟩,λz H'' N=>?_⟩;obtain⟨t,P,u,rfl,rfl,n⟩:=N;have:=n b s1;rw[k1]at this;cases this;have w:aZ μ' H' μ' (upd H' t (.tup [.int i,l])):=aZ.new f u;refine⟨w,f.new u,?_⟩;unfold Is;refine⟨t,[.int i,l],rfl,.of bY,?_⟩;unfold IsL;exact⟨.int i,[l],rfl,by rw[Nat.zero_add];unfold Is;rfl,kZ (Is.mono f w _ _ M)⟩
  ·obtain⟨b,s1,k⟩:=c μ' mh' H' j f st;rw[pB];exact⟨b,s1,by rw[bB k];exact aM7 _⟩
end
mutual
def RQ:D->Bool
 | .int _=>true
 | .str _=>true
 | .bl _=>true
 | .tup ds=>zS ds
 | _=>false
def zS:List D->Bool
 | []=>true
 | d::ds=>RQ d && zS ds
end
def aE0:List D->Bool
 | [.int _,.bl _]=>true
 | _=>false
def GP:List D->Bool
 | [.int _,.int _]=>true
 | _=>false
mutual
def good:D->Bool
 | .int _=>true
 | .str _=>true
 | .tup ds=>eF ds
 | _=>false
def eF:List D->Bool
 | []=>true
 | d::ds=>good d && eF ds
end
theorem o9:∀{ds:List D},aE0 ds=true->∃i b,ds=[.int i,.bl b]
 | [.int i,.bl b],_=>⟨i,b,rfl⟩
mutual
theorem aCg:∀{d:D},good d=true->RQ d=true
 | .int _,_=>rfl
 | .str _,_=>rfl
 | .tup ds,h=>CV (by simpa only[good] using h)
 | .bU,h=>by simp[good]at h
 | .bl _,h=>by simp[good]at h
 | .ty _,h=>by simp[good]at h
 | .fl _,h=>by simp[good]at h
 | .ref _,h=>by simp[good]at h
theorem CV:∀{ds:List D},eF ds=true->zS ds=true
 | [],_=>rfl
 | d::ds,h=>by
  simp only[eF,Bool.and_eq_true]at h;simp only[zS,aCg h.1,CV h.2,Bool.and_self]
end
def gd:D->Bool
 | .tup ds=>aE0 ds || (eF ds && !GP ds)
 | _=>false
variable{ds:List D}
theorem T4(h:eF ds=true)(a:GP ds=false):gd (.tup ds)=true:=by simp[gd,h,a]
variable{d:D}
theorem MW(h:gd d=true):∃ds,d= .tup ds/\(aE0 ds=true\/eF ds=true/\GP ds=false):=by
 cases d <;> simp[gd]at h;exact⟨_,rfl,h⟩
theorem RP(h:gd d=true):RQ d=true:=by
 obtain⟨ds,rfl,h | h⟩:=MW h
 ·obtain⟨i,b,rfl⟩:=o9 h;rfl
 ·exact CV h.1
section
variable (w:World)
mutual
def yL:D->Int
 | .int i=>hashInt i
 | .str x=>hashStr w x
 | .bl b=>reduceHash (if b=true then 1 else 0)
 | .tup ds=>reduceHash (Builtin.Tuple.tupleHashOf (oR ds))
 | _=>0
def oR:List D->List Int
 | []=>[]
 | d::ds=>yL d::oR ds
end
end
mutual
def yU:D->Nat
 | .tup ds=>uC ds+1
 | _=>1
def uC:List D->Nat
 | []=>0
 | d::ds=>yU d+uC ds
end
section
variable {prog:Program}{w:World}
theorem MU{A:Around}{E:aPv}{s:Shared}{Q:Int->Shared->Prop}(b:Bool)(q:Q (reduceHash (if b=true then 1 else 0)) {s with toks:=s.toks+1}):wpAny (model prog w) A (pyHash (.bool b)) Q E s:=by
 refine PySem.W.pyHash_slot (T:= "bool") rfl F.slot_bool_hash entry_int_hash (args_int_hash _) (beq_builtin_none _) (.inl rfl) ?_
 cases b with
 | false=>exact(show wpAny _ _ (do ret (<-mkInt 0)) _ _ s from aM3 (aPm (aM4 ⟨_,_,rfl,q⟩)))
 | true=>exact(show wpAny _ _ (do ret (<-mkInt 1)) _ _ s from aM3 (aPm (aM4 ⟨_,_,rfl,q⟩)))
theorem aE7:∀(n:Nat) {d:D} {A:Around} {E:aPv} {s:Shared} {u:Value} {Q:Int->Shared->Prop},deep d<=n->RQ d=true->A.units+n<cLine->Vl s.heap d u->Q (yL w d) {s with toks:=s.toks+yU d}->
  wpAny (model prog w) A (pyHash u) Q E s:=by
 intro n
 induction n with
 | zero=>
  intro d A E s u Q hd hg J c q
  cases d with
  | int i=>unfold Vl at c;obtain⟨t,rfl⟩:=c;exact(aW prog w).pyHash (k:= .inl i) (oO (k:= .inl i) ⟨t,rfl⟩) q
  | str x=>unfold Vl at c;obtain⟨t,rfl⟩:=c;exact(aW prog w).pyHash (k:= .inr x) (oO (k:= .inr x) ⟨t,rfl⟩) q
  | bl b=>
   unfold Vl at c;subst c;exact MU b q
  | tup ds=>simp[deep]at hd
  | _=>simp[RQ]at hg
 | succ n ih=>
  intro d A E s u Q hd hg J c q
  cases d with
  | int i=>unfold Vl at c;obtain⟨t,rfl⟩:=c;exact(aW prog w).pyHash (k:= .inl i) (oO (k:= .inl i) ⟨t,rfl⟩) q
  | str x=>unfold Vl at c;obtain⟨t,rfl⟩:=c;exact(aW prog w).pyHash (k:= .inr x) (oO (k:= .inr x) ⟨t,rfl⟩) q
  | bl b=>
   unfold Vl at c;subst c;exact MU b q
  | tup ds=>
   unfold Vl at c;obtain⟨a,us,rfl,⟨o,ho,K,m,g⟩,l⟩:=c
   have p:s.TypeIs (.ref a) "tuple":=⟨o,ho,K⟩
   have C:bM ds<=n:=by simp only[deep]at hd;lia
   have G:zS ds=true:=by simpa only[RQ] using hg
   unfold pyHash
   first | unfold pyHashByItsType | skip
   first | refine aM3 (wpAny_cRoomFor_or (.inr (by lia)) ?_) | skip
   refine aM3 (aO6 p aP1.lookup ?_);show wpAny _ _ (if (some (Value.builtin "tuple.__hash__")==some Value.none)=true then _ else _) Q E s;rw[if_neg (by rw[beq_builtin_none];exact Bool.false_ne_true)];refine aM3 (aO6 p aP1.lookup ?_);show wpAny _ _ (callSpecialIfBoundUnlessNone? (.ref a) "__hash__" _ >>=_) Q E s;refine aM3 (wpAny_callSpecialIfBoundUnlessNone?_slot p aP1 (aMk aP1 p F.entry_tuple_hash ?_ (F.args_tuple_hash_1 _)));show wpAny _ _ (Builtin.Tuple.tupleItemsOf (.ref a) >>=_) _ _ s;refine aM3 (aPj ho g ?_);refine aM3 ?_;rw[<-Array.forIn_toList]
   refine aOf _
    (λrest (b:Array Int) H =>∃done left k,oR w ds=done++oR w left/\cJ s.heap left rest/\bM left<=n/\zS left=true/\b.toList=done/\k+uC left=uC ds/\H ={s with toks:=s.toks+k})
    _ ?_ ?_ _ _ ⟨[],ds,0,rfl,by simpa using l,C,G,rfl,by lia,rfl⟩
   ·rintro x rest b H ⟨done,left,k,e,f,I,h,v,y,rfl⟩
    cases left with
    | nil=>unfold cJ at f;cases f
    | cons j left=>
     unfold cJ at f;obtain⟨N,r,L,M,f⟩:=f;cases L;simp only[bM]at I;simp only[zS,Bool.and_eq_true]at h;simp only[uC]at y;refine aM3 (ih (by lia) h.1 (by show A.units+1+n<_;lia) M ?_)
     first
      | exact aM4 ⟨done++[yL w j],left,k+yU j,by simp[e,oR],f,by lia,h.2,by simp[v],by lia,by simp[Nat.add_assoc]⟩
      | exact aM3 (aM4 (aM4 ⟨done++[yL w j],left,k+yU j,by simp[e,oR],f,by lia,h.2,by simp[v],by lia,by simp[Nat.add_assoc]⟩))
   ·rintro b H ⟨done,left,k,e,f,I,h,v,y,rfl⟩
    cases left with
    | cons j left=>unfold cJ at f;obtain⟨_,_,z,_⟩:=f;cases z
    | nil=>
     simp only[oR,List.append_nil]at e;simp only[uC,Nat.add_zero]at y;subst y;show wpAny _ _ (retInt (Builtin.Tuple.tupleHashOf b.toList)) _ _ _;rw[v,<-e];refine wpAny_ret_mkInt ?_;simp only[yL,yU]at q;generalize Builtin.Tuple.tupleHashOf (oR w ds)=z at q⊢;show wpAny _ _ (if (decide (-(2:Int)^63<=z) && decide (z<2^63))=true then _ else _) Q E _;unfold reduceHash at q;by_cases B:(decide (-(2:Int)^63<=z) && decide (z<2^63))=true
     ·rw[if_pos B];rw[if_pos B]at q;exact aM4 (by simpa[Nat.add_assoc] using q)
     ·rw[if_neg B];rw[if_neg B]at q;exact aM3 (aN4 (aM4 (by simpa[Nat.add_assoc] using q)))
  | _=>simp[RQ]at hg
end
section
variable {prog:Program}{w:World}
theorem WK:∀(n:Nat) {fuel:Nat} {d:D} {A:Around} {E:aPv} {s:Shared} {u:Value} {Q:Bool->Shared->Prop},deep d<=n->n<=fuel->RQ d=true->Vl s.heap d u->Q true s->wpAny (model prog w) A (eqIsQuiet fuel u) Q E s:=by
 intro n
 induction n with
 | zero=>
  intro fuel d A E s u Q hd B hg c q
  cases d with
  | int i=>unfold Vl at c;obtain⟨t,rfl⟩:=c;rw[eqIsQuiet_byValue _ rfl];exact aM4 q
  | str x=>unfold Vl at c;obtain⟨t,rfl⟩:=c;rw[eqIsQuiet_byValue _ rfl];exact aM4 q
  | bl b=>unfold Vl at c;subst c;rw[eqIsQuiet_byValue _ rfl];exact aM4 q
  | tup ds=>simp[deep]at hd
  | _=>simp[RQ]at hg
 | succ n ih=>
  intro fuel d A E s u Q hd B hg c q
  cases d with
  | int i=>unfold Vl at c;obtain⟨t,rfl⟩:=c;rw[eqIsQuiet_byValue _ rfl];exact aM4 q
  | str x=>unfold Vl at c;obtain⟨t,rfl⟩:=c;rw[eqIsQuiet_byValue _ rfl];exact aM4 q
  | bl b=>unfold Vl at c;subst c;rw[eqIsQuiet_byValue _ rfl];exact aM4 q
  | tup ds=>
   unfold Vl at c;obtain⟨a,us,rfl,⟨o,ho,C,m,g⟩,l⟩:=c
   have z:s.TypeIs (.ref a) "tuple":=⟨o,ho,C⟩
   have h:bM ds<=n:=by simp only[deep]at hd;lia
   have j:zS ds=true:=by simpa only[RQ] using hg
   obtain⟨f,rfl⟩:∃f,fuel=f+1:=⟨fuel-1,by lia⟩
   unfold eqIsQuiet;refine aM3 (aO6 z F.slot_tuple_eq.lookup ?_);show wpAny _ _ (isInstance (.ref a) (.type "tuple") >>=_) _ _ s;refine aM3 (aNy z isSubtype_tuple_tuple ?_);simp only[Bool.not_true,Bool.false_eq_true,if_false];refine aM3 (aN2 ho g (aM3 ?_));show wpAny _ _ (forIn us.toArray _ _) _ _ s;rw[<-Array.forIn_toList];refine aOf _ (λrest r k =>r.1=none/\k =s/\∃left,cJ s.heap left rest/\bM left<=n/\zS left=true) _ ?_ ?_ _ _ ⟨rfl,rfl,ds,by simpa using l,h,j⟩
   ·rintro v rest r k ⟨p,rfl,left,e,G,y⟩
    cases left with
    | nil=>unfold cJ at e;cases e
    | cons d0 left=>
     unfold cJ at e;obtain⟨J,K,H,I,e⟩:=e;cases H;simp only[bM]at G;simp only[zS,Bool.and_eq_true]at y;refine aM3 (ih (fuel:=f) (by lia) (by lia) y.1 I ?_);simp only[Bool.not_true,Bool.false_eq_true,if_false];exact aM4 ⟨rfl,rfl,left,e,by lia,y.2⟩
   ·rintro⟨L,M⟩ k ⟨p,rfl,_⟩;simp only at p;subst p;exact aM4 q
  | _=>simp[RQ]at hg
mutual
theorem Vl.BG{h h' :Heap}(k:∀b o aM n,o.data= .seq aM n->h.get? b=some o->h'.get? b=some o):∀(d:D) (u:Value),Vl h d u->Vl h' d u
 | .bU,u,q=>by unfold Vl at*;exact q
 | .bl _,u,q=>by unfold Vl at*;exact q
 | .int _,u,q=>by unfold Vl at*;exact q
 | .str _,u,q=>by unfold Vl at*;exact q
 | .ty _,u,q=>by unfold Vl at*;exact q
 | .ref _,u,q=>by unfold Vl at*;exact q
 | .tup ds,u,q=>by
  unfold Vl at*;obtain⟨a,us,e,⟨o,f,g,n,c⟩,l⟩:=q;exact⟨a,us,e,⟨o,k _ _ _ _ c f,g,n,c⟩,cJ.BG k ds us l⟩
 | .fl ds,u,q=>by
  unfold Vl at*;obtain⟨a,us,e,⟨o,f,g,n,c⟩,l⟩:=q;exact⟨a,us,e,⟨o,k _ _ _ _ c f,g,n,c⟩,cJ.BG k ds us l⟩
theorem cJ.BG{h h' :Heap}(k:∀b o aM n,o.data= .seq aM n->h.get? b=some o->h'.get? b=some o):∀(ds:List D) (us:List Value),cJ h ds us->cJ h' ds us
 | [],us,q=>by unfold cJ at*;exact q
 | d::ds,us,q=>by
  unfold cJ at*;obtain⟨u,r,e,i,l⟩:=q;exact⟨u,r,e,Vl.BG k d u i,cJ.BG k ds r l⟩
end
mutual
theorem DX:∀(d e:D),good d=true->good e=true->(dD d e=true↔d=e)
 | .int i,e,_,h2=>by cases e <;> simp[good]at h2 <;> simp[dD]
 | .str x,e,_,h2=>by cases e <;> simp[good]at h2 <;> simp[dD]
 | .tup ds,e,h1,h2=>by
  cases e with
  | tup es=>simp only[dD,D.tup.injEq];exact sN ds es (by simpa only[good] using h1) (by simpa only[good] using h2)
  | int i=>simp[dD]
  | str x=>simp[dD]
  | _=>simp[good]at h2
 | .bU,e,h1,_=>by simp[good]at h1
 | .bl _,e,h1,_=>by simp[good]at h1
 | .ty _,e,h1,_=>by simp[good]at h1
 | .fl _,e,h1,_=>by simp[good]at h1
 | .ref _,e,h1,_=>by simp[good]at h1
theorem sN:∀(ds es:List D),eF ds=true->eF es=true->(dH ds es=true↔ds=es)
 | [],es,_,_=>by cases es <;> simp[dH]
 | d::ds,[],_,_=>by simp[dH]
 | d::ds,e::es,h1,h2=>by
  simp only[eF,Bool.and_eq_true]at h1 h2;simp only[dH,Bool.and_eq_true,List.cons.injEq];rw[DX d e h1.1 h2.1,sN ds es h1.2 h2.2]
end
theorem aHf{es:List D}{i:Int}{b:Bool}(h:eF es=true)(a:GP es=false):¬dH [.int i,.bl b] es=true:=λq=>by
 cases es with
 | nil=>simp[dH]at q
 | cons x es=>
  cases es with
  | nil=>simp[dH]at q
  | cons y es=>
   cases es with
   | cons z es=>simp[dH]at q
   | nil=>
    simp only[eF,Bool.and_eq_true]at h;cases x <;> simp[good]at h <;> cases y <;> simp[good,GP]at h a <;> simp[dH,dD]at q
theorem aHg{es:List D}{i:Int}{b:Bool}(h:eF es=true)(a:GP es=false):¬dH es [.int i,.bl b]=true:=λq=>by
 cases es with
 | nil=>simp[dH]at q
 | cons x es=>
  cases es with
  | nil=>simp[dH]at q
  | cons y es=>
   cases es with
   | cons z es=>simp[dH]at q
   | nil=>
    simp only[eF,Bool.and_eq_true]at h;cases x <;> simp[good]at h <;> cases y <;> simp[good,GP]at h a <;> simp[dH,dD]at q
theorem aIe{d e:D}(a:gd d=true)(f:gd e=true):dD d e=true↔d=e:=by
 obtain⟨ds,rfl,h1⟩:=MW a;obtain⟨es,rfl,h2⟩:=MW f;simp only[dD,D.tup.injEq];refine⟨λq=>?_,λq=>?_⟩
 ·rcases h1 with h1 | h1
  ·obtain⟨i,b,rfl⟩:=o9 h1;rcases h2 with h2 | h2
   ·obtain⟨j,c,rfl⟩:=o9 h2;simpa[dH,dD] using q
   ·exact absurd q (aHf h2.1 h2.2)
  ·rcases h2 with h2 | h2
   ·obtain⟨j,c,rfl⟩:=o9 h2;exact absurd q (aHg h1.1 h1.2)
   ·exact(sN ds es h1.1 h2.1).mp q
 ·subst q;rcases h1 with z | z
  ·obtain⟨i,b,rfl⟩:=o9 z;simp[dH,dD]
  ·exact(sN ds ds z.1 z.1).mpr rfl
structure DN where
 d:D
noncomputable instance:DecidableEq DN:=λ_ _=>Classical.propDecidable _
noncomputable def G7(prog:Program)(w:World):HeapKind prog w DN where
 is:=λh k a=>gd k.d=true/\deep k.d<=8/\Vl h k.d (.ref a)
 hash:=λk=>yL w k.d
 draws:=λk=>yU k.d
 room:=λA=>A.units+16<cLine
 inj:=λ{h a x y} c e=>by cases x;cases y;rw[DN.mk.injEq];exact IE c.2.2 e.2.2
 keeps:=λ{h h' k a d o es j} x ho hd i=>⟨x.1,x.2.1,Vl.BG (λb u aM n f g=>i.extBut b u (λz=>by subst z;rw[ho]at g;cases g;rw[hd]at f;cases f) g) _ _ x.2.2⟩
 pyHash:=λ{A E s k a Q} f x q=>aE7 8 x.2.1 (RP x.1) (by lia) x.2.2 q
 eqBool:=λ{A E s x y a b Q} f c e q=>by
  refine kB (s:=s) 8 c.2.1 (by lia) c.2.2 e.2.2 prog w _ _ ?_
  have:dD x.d y.d=decide (x=y):=by
   rw[Bool.eq_iff_iff,aIe c.1 e.1,decide_eq_true_eq];cases x;cases y;simp
  rw[this];exact q
 quiet:=λ{A E s k a Q} x q=>WK 8 x.2.1 (aM7 _) (RP x.1) x.2.2 q
end
section
variable {prog:Program}{w:World}{K:Type}[DecidableEq K]{knd:HeapKind prog w K}{A:Around}{E:aPv}{s:Shared}
theorem FG{d a:Addr}{xs:List (K×Addr×Value)}{k:K}{dflt:Value}{Q:aPv}(h:knd.room A)(b:knd.is s.heap k a)(hm:s.heap.DictOfH knd d xs)
  (m:∀(j:Nat) (p:Addr×Value),xs[j]? =some (k,p)->Q p.2 {s with toks:=s.toks+knd.draws k})
  (n:(∀(j:Nat) (p:Addr×Value),xs[j]? ≠some (k,p))->∀h',h'.DictOfH knd d (xs++[(k,a,dflt)])->Heap.SameBut d s.heap h' ->Q dflt {s with heap:=h',toks:=s.toks+knd.draws k})
  (hz:xs.length<=sizeLine):wpAny (model prog w) A (dictSetDefault d (.ref a) dflt) Q E s:=by
 obtain⟨o,es,q,ho,r,hd,he,c,i⟩:=hm;unfold dictSetDefault
 try with_reducible refine aMv ?_
 refine aM3 (knd.pyHash h b (aM3 (wpAny_dictFind_heap (s:={s with toks:=s.toks+knd.draws k}) h b ho hd he c i ?_ ?_)))
 ·intro f
  refine aM3 (aN4 (aM3 (wpAny_updateDictKeys (hz:=by have e:=size_of_entries he;lia) (s:={s with toks:=s.toks+knd.draws k}) ho hd (aM4 (n f _ ⟨_,_,q+1,aNn _ ho (Obj.isFreed_of_dict (Obj.data_mapDictKeys hd _)),
   r.mapDictKeys _,Obj.data_mapDictKeys hd _,?_,?_,?_⟩ (aN0 ..))))))
  ·simp[he,entryOfKey]
  ·intro x hx;rcases aMi.mp hx with hx | hx
   ·exact knd.keeps (c x hx) ho hd (aN0 ..)
   ·simp only[List.mem_singleton]at hx;subst hx;exact knd.keeps b ho hd (aN0 ..)
  ·rw[List.map_append,List.nodup_append];refine⟨i,by simp,λx hx y l=>?_⟩;simp only[List.map_cons,List.map_nil,List.mem_singleton]at l;subst l;rintro rfl;obtain⟨p,t,e⟩:=aMd.mp hx;obtain⟨j,g⟩:=aMr.mp t;exact f j p.2 (by rw[g,<-e])
 ·intro j p g;refine aM3 (wpAny_dictEntries (s:={s with toks:=s.toks+knd.draws k}) ho hd ?_);rw[entry_at he j,g];exact aM3 (aN4 (aM4 (m j p g)))
theorem sF(knd:HeapKind prog w K)(d a:Addr)(hd:(d==sysModules)=false)(dflt:Value):
  MeetsIn prog w (Builtin.«dict.setdefault» ⟨[.ref d,.ref a,dflt],[]⟩) (λA R s=>knd.room A.in1/\∃k xs,knd.is s.heap k a/\s.heap.DictOfH knd d xs/\xs.length<=sizeLine/\
   (∀(j:Nat) (p:Addr×Value),xs[j]? =some (k,p)->R (.ok (.ret p.2)) {s with toks:=s.toks+knd.draws k})/\
   ((∀(j:Nat) (p:Addr×Value),xs[j]? ≠some (k,p))->∀h',h'.DictOfH knd d (xs++[(k,a,dflt)])->Heap.SameBut d s.heap h' ->R (.ok (.ret dflt)) {s with heap:=h',toks:=s.toks+knd.draws k})):=
 .of_wp λA R s e=>by
  obtain⟨f,k,xs,g,hm,hz,h,i⟩:=e;unfold Builtin.«dict.setdefault»;refine aM3 ?_;unfold Builtin.Dict.keyAndDefault;refine aM3 (wpAny_notOrdered_dict hm.typeIs ?_);show wpAny _ _ (pure (d,Value.ref a,some dflt)) _ _ s;refine aM4 ?_;show wpAny _ _ (if (d==sysModules)=true then _ else (dictSetDefault d (.ref a) dflt >>=_)) _ _ s;rw[if_neg (by rw[hd];exact Bool.false_ne_true)];exact aM3 (FG f g hm (λj p l=>aM4 ⟨_,rfl,h j p l⟩) (λm h' b c =>aM4 ⟨_,rfl,i m h' b c⟩) hz)
end
def aLo(w:World)(x:DN×Addr×Value):DictEntry:=⟨yL w x.1.d,.ref x.2.1,x.2.2⟩
def DnR(w:World)(h:Heap)(a:Addr)(ks:List D)(vs:List V):Prop:=
 ∃xs:List (DN×Addr×Value),xs.map (λx=>x.1.d)=ks/\Vals (vs.take ks.length) (xs.map λx=>Value.ref x.2.1)/\Vals (vs.drop ks.length) (xs.map λx=>x.2.2)/\xs.length<=sizeLine/\(a==sysModules)=false/\
  (∀x∈xs,gd x.1.d=true/\deep x.1.d<=8)/\(xs.map λx=>x.1).Nodup/\∃o es b,h.get? a=some o/\o.ExactDict/\o.data= .dict es b/\es.toList=xs.map (aLo w)
def P7(ks:List D):Addr->List V->HO:=λa vs=>.ext λw h=>DnR w h a ks vs
def PF(kvs:List (D×D)):MO:= .oth (kvs.map (·.1)++kvs.map (·.2)) (P7 (kvs.map (·.1)))
theorem aAh{P:Program}{w:World}{H:Hp}{h:Heap}{a:Addr}{ks:List D}{vs:List V}(x:DnR w h a ks vs):dF P w H h a (P7 ks a vs):=
 ⟨x,by obtain⟨_,_,_,_,_,_,_,_,o,_,_,ho,_⟩:=x;exact⟨o,ho⟩,λi j y k=>by
  obtain⟨xs,b,c,d,e,a5,a6,f,o,es,g,ho,r⟩:=y
  exact⟨xs,b,c,d,e,a5,a6,f,o,es,g,k o ho,r⟩⟩
section
variable {X:Cx}{pins:List (Addr×Obj)}{σ:L2.St}{H:Hp}{s:Shared}{a:Addr}{ks:List D}{vs:List V}
theorem UM(I:Inv X pins σ H s)(e:H a=some (P7 ks a vs)):DnR X.w s.heap a ks vs:=
 (show dF X.prog X.w H s.heap a (P7 ks a vs) from I.cS a _ e).1
theorem M9(x:DnR X.w s.heap a ks vs):s.TypeIs (.ref a) "dict"/\(∀b,Value.ref a= .ref b->∃ob,s.heap.get? b=some ob/\ob.dict=none)/\(a==sysModules)=false:=by
 obtain⟨_,_,_,_,_,hm,_,_,o,es,d,ho,c,hd,_⟩:=x;refine⟨⟨o,ho,c.1⟩,λb q=>?_,hm⟩;cases q;exact⟨o,ho,c.2.1⟩
theorem RM{pos:Pos}:PE X (.Dict [] [] pos) (λσ H Q=>∀p,H p=none->Q (.ref p) (upd H p (P7 [] p []))):=λpins s σ H Q I h=>
 wpAny_Dict_empty ⟨.ref s.heap.objs.size,_,I.laid (a:=s.heap.objs.size) (o:=P7 [] s.heap.objs.size []) (t' :=s.toks) (λ_ _ q=>aM5 _ q) (aM7 _)
  (aAh ⟨[],rfl,.nil,.nil,aN9 _,(G4 (P:=X.prog) (w:=X.w) (H:=H) s.heap I.big).2.1,λ_ h=>(by cases h),List.nodup_nil,_,#[],0,aMa _ rfl,⟨rfl,rfl,rfl⟩,rfl,rfl⟩),rfl,h _ (I.cS.fresh (aM7 _))⟩
end
def K4:WE:=λ_ mh Q=>Q (.ref mh.length) (mh++[PF []])
@[simp] theorem aKq (a:iM)(mh:MH)(Q:DK):K4 a mh Q=Q (.ref mh.length) (mh++[PF []]):=rfl
section
variable {X:Cx}
theorem X8{pos:Pos}:LE X (.Dict [] [] pos) K4:=PE.imp RM λσ H Q h=>by
 obtain⟨μ,c,mh,R,a,E,h,F⟩:=h;intro p b;exact F _ _ h (μ++[p]) _ _ (aZ.OD a b) (a.aHi b ⟨[],⟨bY,trivial⟩,by simp[IsL]⟩) (by unfold Is;exact⟨p,by rw[<-a.len];simp,rfl⟩)
theorem UL{K:aPu}{μ:List Addr}{mh:MH}{H:Hp}{n:Nat}{v:V}{kvs:List (D×D)}(R:Rep K μ mh H)(h:Is K μ H (.ref n) v)(e:mh[n]? =some (PF kvs)):
  ∃a vs,v= .ref a/\μ[n]? =some a/\H a=some (P7 (kvs.map (·.1)) a vs)/\IsL K μ H (kvs.map (·.1)) (vs.take kvs.length)/\IsL K μ H (kvs.map (·.2)) (vs.drop kvs.length):=by
 unfold Is at h;obtain⟨a,b,rfl⟩:=h;obtain⟨vs,⟨c,_⟩,l⟩:=R.obj n a _ b e;refine⟨a,vs,rfl,b,c,?_,?_⟩
 ·have:=yH kvs.length l
  rwa [List.take_left' (by simp)]at this
 ·have:=yJ kvs.length l
  rwa [List.drop_left' (by simp)]at this
def NH:OA:=λxs mh Q=>∃n kvs,xs=[.ref n]/\mh[n]? =some (PF kvs)/\Q (.int kvs.length) mh
theorem ZH:cG X (.builtin "len") (eB X.K NH):=by
 intro pins s σ H xs us Q I r q;obtain⟨μ,mh,ds,R,b,d,⟨n,kvs,rfl,e,q⟩,F⟩:=q;obtain⟨v,rfl,f⟩:=eD d;obtain⟨a,vs,rfl,w,g,_,_⟩:=UL b f e;obtain⟨x,rfl,h⟩:=vals1 r;cases h;obtain⟨xs,i,_,_,hz,hm,_,_,ob,es,y,j,l,m,c⟩:=UM I g
 have o:es.size=kvs.length:=by
  have p:=aN5 List.length c;have u:=aN5 List.length i;simp at p u
  lia
 have sz:=aMe;refine WD hm ⟨ob,j,l,m⟩ (by have:=aN5 List.length c;simp at this;lia) λt k=>?_;rw[o];exact⟨.int kvs.length,H,I.tok _,⟨t,rfl⟩,F.here b q .int⟩
end
def KAt(X:Cx)(H:Hp)(k:D)(b:Addr):Prop:=∀pins σ s,Inv X pins σ H s->Vl s.heap k (.ref b)
theorem QI:∀{vs:List V} {us:List Value} {j:Nat} {u:Value},Vals vs us->us[j]? =some u->∃v,vs[j]? =some v/\RelV v u
 | _,_,_,_,.nil,h=>by simp at h
 | _,_,0,_,.cons r t,h=>by simp at h;subst h;exact⟨_,rfl,r⟩
 | _,_,j+1,_,.cons r t,h=>by
  obtain⟨v,a,b⟩:=QI t (j:=j) (by simpa using h);exact⟨v,by simpa using a,b⟩
section
variable {X:Cx}{o i x:Expr}{wo wi wx:WE}{apos eG pos tpos:Pos}
theorem RL{U ty V:TE}(hu:X.A.units+64<cLine)(ho:PE X o U)(he:PE X i ty)(hf:PE X x V)(m:M2 X o "setdefault" apos i x eG):PE X (.Call (.Attribute o "setdefault" apos) [i,x] [] eG)
  (λσ H Q=>U σ H λx C=>∃a,x= .ref a/\(∃ks vs,C a=some (P7 ks a vs))/\ty σ C λy D=>V σ D λz g=>∃ks vs f b,g a=some (P7 ks a vs)/\y= .ref b/\gd f=true/\deep f<=8/\KAt X g f b/\
   (∀(j:Nat) k v,ks[j]? =some k->(vs.take ks.length)[j]? =some v->∃c,v= .ref c/\KAt X g k c)/\ks.length<sizeLine/\
   (∀(j:Nat) v,ks[j]? =some f->(vs.drop ks.length)[j]? =some v->Q v g)/\(f∉ks->Q z (upd g a (P7 (ks++[f]) a ((vs.take ks.length++[.ref b])++(vs.drop ks.length++[z])))))):=by
 intro pins s σ H Q I h;refine wpAny_Call_method m.base m.PD m.line PySem.F.plainAttrs_dict aPc PySem.F.type_dict_setdefault (dZ (ho pins s σ H _ I h) λu s1 E=>?_);obtain⟨x,C,W,rx,a,ex,⟨ks0,vs0,e0⟩,q1⟩:=E;subst ex;obtain rfl:u=Value.ref a:=rx;obtain⟨t1,t2,_⟩:=M9 (UM W e0);refine⟨t1,t2,?_⟩;rw[m.trees];refine aOw rfl (aPa (aNz (dZ (he pins s1 σ C _ W q1) λiv s2 G=>?_)));obtain⟨y,D,I2,ry,q2⟩:=G;refine aNz (dZ (hf pins s2 σ D _ I2 q2) λY J K=>Calls.spliced_nil ?_);obtain⟨z,g,n,Z,ks,vs,f,b,e,ey,hg,q,hk,q5,hlt,qa,qb⟩:=K;subst ey;obtain rfl:iv=Value.ref b:=ry;have dn:=UM n e;obtain⟨tt,_,hm⟩:=M9 dn;obtain⟨xs,t,L,v2,hz,_,gd,nd,ob,es,ep,g1,g2,g3,g4⟩:=dn;have hxl:xs.length=ks.length:=by have:=aN5 List.length t;simpa using this
 have eT:∀y∈xs,Vl J.heap y.1.d (.ref y.2.1):=λy hy=>by
  obtain⟨j,l⟩:=aMr.mp hy;obtain⟨v,M,N⟩:=QI L (j:=j) (u:= .ref y.2.1) (by rw[List.getElem?_map,l];rfl);obtain⟨c,rfl,hc⟩:=q5 j y.1.d v (by rw[<-t,List.getElem?_map,l];rfl) M;have:Value.ref y.2.1=Value.ref c:=N;cases this;exact hc _ _ _ n
 have dd:J.heap.DictOfH (G7 X.prog X.w) a xs:=⟨ob,es,ep,g1,g2,g3,g4,λy hy=>⟨(gd y hy).1,(gd y hy).2,eT y hy⟩,nd⟩
 refine call_meetsIn aPc tt PySem.F.entry_dict_setdefault (PySem.F.args_dict_setdefault_3 _ _ _) (sF (G7 X.prog X.w) a b hm Y)
  ⟨by show X.A.units+1+16<_;lia,⟨f⟩,xs,⟨hg,q,hk _ _ _ n⟩,dd,hz,λj p l=>?_,λO h' P hs=>?_⟩
 ·obtain⟨v,M,N⟩:=QI v2 (j:=j) (u:=p.2) (by rw[List.getElem?_map,l];rfl);exact⟨v,g,n.tok _,N,qa j v (by rw[<-t,List.getElem?_map,l];rfl) M⟩
 ·have R:f∉ks:=λB=>by
   rw[<-t]at B;obtain⟨y,hy,e2⟩:=aMd.mp B;obtain⟨j,l⟩:=aMr.mp hy;exact O j y.2 (by rw[l];cases y with | mk d r=>cases d;cases e2;rfl)
  obtain⟨o',S,T,d1,d2,d3,d4,_,d6⟩:=P;have tl:(vs.take ks.length).length=ks.length:=by have:=L.length;simp at this⊢;lia
  refine⟨z,_,D1 (t' :=J.toks+yU f) n (by rw[e];exact True.intro) hs ⟨o',d1⟩ (aAh ⟨xs++[((⟨f⟩:DN),b,Y)],by simp[t],?_,?_,by simp;lia,hm,λy hy=>?_,d6,o',S,T,d1,d2,d3,d4.trans rfl⟩),Z,qb R⟩
  ·rw[List.take_left' (by simp[tl])];simpa using L.append (.cons (show RelV (.ref b) (Value.ref b) from rfl) .nil)
  ·rw[List.drop_left' (by simp[tl])];simpa using v2.append (.cons Z .nil)
  ·rcases aMi.mp hy with hy | hy
   ·exact gd y hy
   ·simp only[List.mem_singleton]at hy;subst hy;exact⟨hg,q⟩
def wW(wo wi wx:WE):WE:=λc mh Q=>wo c mh λo b=>∃n,o= .ref n/\(∃kvs,b[n]? =some (PF kvs))/\wi c b λi d=>wx c d λx a=>∃kvs ds,a[n]? =some (PF kvs)/\i= .tup ds/\gd i=true/\deep i<=8/\kvs.length<sizeLine/\(∀p∈kvs,∃es,p.1= .tup es/\gd p.1=true)/\
 (∀p∈kvs,p.1=i->Q p.2 a)/\(i∉kvs.map (·.1)->Q x (a.set n (PF (kvs++[(i,x)]))))
@[simp] theorem aJ6 {c:iM}{mh:MH}{Q:DK}:wW wo wi wx c mh Q=(wo c mh λo b=>∃n,o= .ref n/\(∃kvs,b[n]? =some (PF kvs))/\wi c b λi d=>wx c d λx a=>∃kvs ds,a[n]? =some (PF kvs)/\i= .tup ds/\gd i=true/\deep i<=8/\kvs.length<sizeLine/\(∀p∈kvs,∃es,p.1= .tup es/\gd p.1=true)/\
 (∀p∈kvs,p.1=i->Q p.2 a)/\(i∉kvs.map (·.1)->Q x (a.set n (PF (kvs++[(i,x)]))))):=rfl
mutual
theorem O7:∀{d:D},good d=true->bare d=true
 | .int _,_=>rfl
 | .str _,_=>rfl
 | .tup ds,h=>by show cT ds=true;exact k5 (by simpa only[good] using h)
 | .bU,h=>by simp[good]at h
 | .bl _,h=>by simp[good]at h
 | .ty _,h=>by simp[good]at h
 | .fl _,h=>by simp[good]at h
 | .ref _,h=>by simp[good]at h
theorem k5:∀{ds:List D},eF ds=true->cT ds=true
 | [],_=>rfl
 | d::ds,h=>by
  simp only[eF,Bool.and_eq_true]at h;simp only[cT,O7 h.1,k5 h.2,Bool.and_self]
end
theorem MX(h:gd d=true):bare d=true:=by
 obtain⟨ds,rfl,h | h⟩:=MW h
 ·obtain⟨i,b,rfl⟩:=o9 h;rfl
 ·exact k5 h.1
theorem SX(hu:X.A.units+64<cLine)(ho:LE X o wo)(hi:LE X i wi)(hx:LE X x wx)(base:attributeBase o "setdefault" X.env (eval o X.env)=eval o X.env:=by rfl)
  (PD:((backTo eG (starEach [i,x] X.env)).all (λx=>!x.1) && (backToKw eG (keywordEach [] X.env)).all (λx=>x.1.isSome) && decide (([i,x]:List Expr).length+([]:List Keyword).length+(if ([]:List Keyword).isEmpty then 0 else 1)<30))=true:=by rfl)
  (line:(apos.endLine==eG.line)=true:=by rfl) (trees:backTo eG (starEach [i,x] X.env)=[(false,eval i X.env),(false,eval x X.env)]:=by rfl):
  LE X (.Call (.Attribute o "setdefault" apos) [i,x] [] eG) (wW wo wi wx):=PE.imp (RL hu ho hi hx ⟨base,PD,line,trees⟩) λσ H Q h=>by
 obtain⟨μ,B,mh,R,C,En,h,F⟩:=h;refine⟨μ,B,mh,_,C,En,h,λdo' E q G vo H1 J L I1=>?_⟩;obtain⟨n,rfl,⟨kvs0,e0⟩,q⟩:=q;obtain⟨a,vs0,rfl,_,M,_⟩:=UL L I1 e0;refine⟨a,rfl,⟨_,_,M⟩,G,B,E,_,L,En.mono C J,q,λdi N q2 O vi H2 P R2 I2=>?_⟩;refine⟨O,B,N,_,R2,En.mono C (J.trans P),q2,λdx S q3 g vx T U l I3=>?_⟩;obtain⟨kvs,ds,e,rfl,hg,V,hz,W,qa,qb⟩:=q3;obtain⟨a',vs,ea,hn,hv,lk,lv⟩:=UL l (Is.mono L (P.trans U) _ _ I1) e;cases ea;have m :=Is.mono R2 U _ _ I2;have i2:=m;unfold Is at i2;obtain⟨b,us,rfl,_,_⟩:=i2;have F3:=F.at ((J.trans P).trans U);have Y:(kvs.map (·.1)).length=kvs.length:=by simp
 refine⟨kvs.map (·.1),vs,.tup ds,b,hv,rfl,hg,V,λpins σ s I=>nZ I _ (MX hg) m rfl,λj k v r f=>?_,by simpa using hz,λj v r f=>?_,λZ=>?_⟩
 ·rw[Y]at f;obtain⟨v',h1,t⟩:=fD lk r;rw[h1]at f;cases f;obtain⟨p,y,rfl⟩:=aMd.mp (aMc r);obtain⟨es,et,u⟩:=W p y;rw[et]at t u⊢;have w :=t;unfold Is at w;obtain⟨c,ws,rfl,_,_⟩:=w;exact⟨c,rfl,λpins σ s I=>nZ I _ (MX u) t rfl⟩
 ·rw[Y]at f;rw[List.getElem?_map]at r;obtain⟨p,y,e2⟩:=aN1.mp r;obtain⟨v',h1,t⟩:=fD lv (i:=j) (d:=p.2) (by rw[List.getElem?_map,y];rfl);rw[h1]at f;cases f;exact F3.here l (qa p (aMc y) e2) t
 ·rw[Y];have z:aZ g T g (upd T a (P7 (kvs.map (·.1)++[.tup ds]) a ((vs.take kvs.length++[.ref b])++(vs.drop kvs.length++[vx])))):=aZ.set l hn;have em:(kvs++[(D.tup ds,dx)]).map (λp=>p.1)=kvs.map (λp=>p.1)++[D.tup ds]:=by simp
  have R4:Rep X.K g (S.set n (PF (kvs++[(.tup ds,dx)]))) (upd T a (P7 (kvs.map (·.1)++[.tup ds]) a ((vs.take kvs.length++[.ref b])++(vs.drop kvs.length++[vx])))):=by
   refine NA l hn (by trivial) ⟨_,⟨by rw[em];exact bY,trivial⟩,?_⟩;rw[em,List.map_append];exact gE (IsL.mono l z _ _ (gE lk (kZ m))) (IsL.mono l z _ _ (gE lv (kZ I3)))
  exact F3 _ _ (qb Z) g _ _ z R4 (Is.mono l z _ _ I3)
end
inductive Sh where
 | sc (c:Sc)
 | tp (cs:List Sc)
def qS:Sh->D->Bool
 | .sc c,d=>cH c d
 | .tp cs,.tup es=>bA cs es
 | .tp _,_=>false
def fL:List Sh->List D->Bool
 | [],[]=>true
 | s::ss,d::ds=>qS s d && fL ss ds
 | _,_=>false
def encM:D->List Int
 | .tup ds=>ds.flatMap enc
 | d=>cA d
def ZR(ds:List D):Prop:=∃cs a,∀d∈ds,∃es,d= .tup es/\fL (.tp cs::a) es=true
theorem GA:∀{cs:List Sc} {es fs:List D} (r a :List Int),bA cs es=true->bA cs fs=true->es≠fs->lx (es.flatMap cA++r) (fs.flatMap cA++a)=lx (es.flatMap cA) (fs.flatMap cA)
 | [],[],[],_,_,_,_,h=>absurd rfl h
 | [],[],_::_,_,_,_,h2,_=>by simp[bA]at h2
 | [],_::_,_,_,_,h1,_,_=>by simp[bA]at h1
 | _::_,[],_,_,_,h1,_,_=>by simp[bA]at h1
 | _::_,_::_,[],_,_,_,h2,_=>by simp[bA]at h2
 | c::cs,e::es,f::fs,r,a,h1,h2,h=>by
  simp only[bA,Bool.and_eq_true]at h1 h2;simp only[List.flatMap_cons,List.append_assoc];by_cases b:e=f
  ·subst b;rw[sG,sG];exact GA r a h1.2 h2.2 λz=>h (by rw[z])
  ·rw[jJ h1.1 h2.1 b,jJ h1.1 h2.1 b]
theorem GO{c:Sc}(h:cH c d=true):enc d=cA d:=by cases c <;> cases d <;> simp[cH]at h <;> rfl
theorem SJ{f:Sh}{a d:D}(b:qS f a=true)(e:qS f d=true)(h:a≠d)(r g :List Int):lx (enc a++r) (enc d++g)=lx (enc a) (enc d):=by
 cases f with
 | sc c=>rw[GO b,GO e];exact jJ b e h r g
 | tp cs=>
  cases a <;> simp[qS]at b;cases d <;> simp[qS]at e;exact GA r g b e λz=>h (by rw[z])
theorem A1:∀{cs:List Sc} {es:List D},bA cs es=true->eF es=true
 | [],[],_=>rfl
 | [],_::_,h=>by simp[bA]at h
 | _::_,[],h=>by simp[bA]at h
 | c::cs,e::es,h=>by
  simp only[bA,Bool.and_eq_true]at h;simp only[eF,A1 h.2,Bool.and_true];cases c <;> cases e <;> simp[cH]at h <;> rfl
theorem FH:∀{cs:List Sc} {es:List D},bA cs es=true->bM es=0
 | [],[],_=>rfl
 | [],_::_,h=>by simp[bA]at h
 | _::_,[],h=>by simp[bA]at h
 | c::cs,e::es,h=>by
  simp only[bA,Bool.and_eq_true]at h;simp only[bM,FH h.2];cases c <;> cases e <;> simp[cH]at h <;> rfl
theorem CK{a:Sh}(h:qS a d=true):good d=true/\deep d<=1:=by
 cases a with
 | sc c=>cases c <;> cases d <;> simp[qS,cH]at h <;> simp[good,deep]
 | tp cs=>
  cases d <;> simp[qS]at h;exact⟨by simp only[good];exact A1 h,by simp only[deep,FH h];lia⟩
theorem CJ:∀{a:List Sh} {ds:List D},fL a ds=true->ds.length=a.length
 | [],[],_=>rfl
 | [],_::_,h=>by simp[fL]at h
 | _::_,[],h=>by simp[fL]at h
 | s::a,d::ds,h=>by simp only[fL,Bool.and_eq_true]at h;simp[CJ h.2]
theorem A0:∀{a:List Sh} {es:List D},fL a es=true->eF es=true
 | [],[],_=>rfl
 | [],_::_,h=>by simp[fL]at h
 | _::_,[],h=>by simp[fL]at h
 | c::cs,e::es,h=>by
  simp only[fL,Bool.and_eq_true]at h;simp only[eF,A0 h.2,(CK h.1).1,Bool.and_true]
theorem oM{prog:Program}{w:World}{h:Heap}:∀{cs:List Sc} {es:List D} {us:List Value},bA cs es=true->cJ h es us->∃k:List Key,es=k.map bJ/\ItemsAre (aW prog w) k us
 | [],[],us,_,l=>by unfold cJ at l;subst l;exact⟨[],rfl,.nil⟩
 | [],_::_,_,h,_=>by simp[bA]at h
 | _::_,[],_,h,_=>by simp[bA]at h
 | c::cs,e::es,us,hs,l=>by
  simp only[bA,Bool.and_eq_true]at hs;unfold cJ at l;obtain⟨u,r,rfl,p,l⟩:=l;obtain⟨k,rfl,hi⟩:=oM (prog:=prog) (w:=w) hs.2 l
  cases c with
  | i=>
   cases e <;> simp[cH]at hs;rename_i i;unfold Vl at p;obtain⟨t,rfl⟩:=p;exact⟨.inl i::k,rfl,.cons (oO (k:= .inl i) ⟨t,rfl⟩) hi⟩
  | s=>
   cases e <;> simp[cH]at hs;rename_i x;unfold Vl at p;obtain⟨t,rfl⟩:=p;exact⟨.inr x::k,rfl,.cons (oO (k:= .inr x) ⟨t,rfl⟩) hi⟩
section
variable {prog:Program}{w:World}{A:Around}{E:aPv}{s:Shared}
theorem XX{cs:List Sc}{es fs:List D}{u v:Value}{Q:aPv}(B:A.units+4<cLine)(i:bA cs es=true)(j:bA cs fs=true)(p:Vl s.heap (.tup es) u)(q:Vl s.heap (.tup fs) v)
  (h:Q (.bool (lx (es.flatMap cA) (fs.flatMap cA))) s):wpAny (model prog w) A (compareOp .Lt u v) Q E s:=by
 unfold Vl at p q;obtain⟨a,us,rfl,⟨o,ho,m,n,hd⟩,l⟩:=p;obtain⟨b,ws,rfl,⟨r,c,d,t,f⟩,x⟩:=q;obtain⟨k1,rfl,y⟩:=oM (prog:=prog) (w:=w) i l;obtain⟨k2,rfl,z⟩:=oM (prog:=prog) (w:=w) j x
 have g:IsTupleKey (aW prog w) s.heap k1 a:=⟨o,_,n,ho,m,hd,by simpa using y⟩
 have k:IsTupleKey (aW prog w) s.heap k2 b:=⟨r,_,t,c,d,f,by simpa using z⟩
 exact wpAny_richCompare_same_room (op:= .Lt) g.typeIs k.typeIs PySem.F.slot_tuple_lt (aMk PySem.F.slot_tuple_lt g.typeIs PySem.F.entry_tuple_lt (UR false rfl g k i j ⟨_,rfl,(λe=>nomatch e),h⟩) (PySem.F.args_tuple_lt_2 _ _)) (by lia)
end
noncomputable def ltM(h:Heap)(x y:Keyed):Bool:=lx (encM (dv h x.1)) (encM (dv h y.1))
theorem aCw(h:Heap):TS.Wk (ltM h):=⟨λx y=>sH _ _,λx y z=>L6 _ _ _⟩
open PySem.W in
theorem MI{prog:Program}{w:World}{A:Around}{Q:Bool->Shared->Prop}{s:Shared}(B:A.units+32<cLine):∀(m:List Sh) (as bs:List D) (us vs:List Value) (i:Nat),fL m as=true->fL m bs=true->cJ s.heap as us->cJ s.heap bs vs->
  Q (lx (as.flatMap enc) (bs.flatMap enc)) s->KatLex prog w A false false Q (us.zip vs) i s
 | [],[],[],us,vs,i,_,_,g,h,q=>by unfold cJ at g h;subst g h;exact kat_nil q
 | [],[],_::_,_,_,_,_,h2,_,_,_=>by simp[fL]at h2
 | [],_::_,_,_,_,_,h1,_,_,_,_=>by simp[fL]at h1
 | _::_,[],_,_,_,_,h1,_,_,_,_=>by simp[fL]at h1
 | _::_,_::_,[],_,_,_,_,h2,_,_,_=>by simp[fL]at h2
 | sh::m,a::as,d::bs,us,vs,i,h1,h2,g,h,q=>by
  unfold cJ at g h;obtain⟨u,C,rfl,j,g⟩:=g;obtain⟨v,E,rfl,k,h⟩:=h;simp only[fL,Bool.and_eq_true]at h1 h2;rw[List.zip_cons_cons];have n:=CK h1.1;have t:=CK h2.1;refine kat_cons (kB (s:=s) 1 n.2 (by lia) j k prog w _ _ ?_);simp only[List.flatMap_cons]at q;refine kat_go (λe=>kat_yes ?_) (λe=>kat_no ?_)
  ·have o:a=d:=(DX _ _ n.1 t.1).mp e;subst o;rw[sG]at q;exact MI B m as bs C E (i+1) h1.2 h2.2 g h q
  ·have p:a≠d:=λz=>by rw[(DX _ _ n.1 t.1).mpr z]at e;cases e
   rw[SJ h1.1 h2.1 p]at q;rw[Bool.false_and]
   cases sh with
   | sc c=>
    cases c with
    | i=>
     have b :=h1.1;have f :=h2.1;cases a <;> simp[qS,cH]at b;cases d <;> simp[qS,cH]at f;rename_i x y;unfold Vl at j k;obtain⟨F,rfl⟩:=j;obtain⟨G,rfl⟩:=k
     have r :Q (decide (x<y)) s:=by
      have:lx (enc (.int x)) (enc (.int y))=decide (x<y):=by
       simp only[enc,cA,lx];by_cases l:x<y
       ·simp[l]
       ·simp[l]
      rw[<-this];exact q
     exact kat_one _ _ (lt_int r)
    | s=>
     have b :=h1.1;have f :=h2.1;cases a <;> simp[qS,cH]at b;cases d <;> simp[qS,cH]at f;rename_i x y;unfold Vl at j k;obtain⟨F,rfl⟩:=j;obtain⟨G,rfl⟩:=k
     have r :Q (decide (x.cps.toList<y.cps.toList)) s:=by
      have:lx (enc (.str x)) (enc (.str y))=decide (x.cps.toList<y.cps.toList):=tU _ _;rw[<-this];exact q
     exact kat_one _ _ (lt_str r)
   | tp cs=>
    have b :=h1.1;have f :=h2.1;cases a <;> simp[qS]at b;cases d <;> simp[qS]at f;exact kat_one _ _ (XX (by lia) b f j k q)
section
variable {prog:Program}{w:World}{A:Around}
theorem NV{s:Shared}{vs:List Value}(hu:A.units+40<cLine)(U:ZR ds)(l:cJ s.heap ds vs)(N:2<=vs.length):
  ∃κ,∀h' :Heap,(∀b o,s.heap.get? b=some o->h'.get? b=some o)->TS.ID prog w A {s with heap:=h'} κ (ltM s.heap) (pairsOf vs)/\
   ∀h H,h κ {s with heap:=h'}->wpAny (model prog w) A (keyKind' vs.toArray) h H {s with heap:=h'}:=by
 obtain⟨cs,I,c⟩:=U;refine⟨tuples' false,λh' k=>⟨λx y O P Q q=>?_,λh H q=>?_⟩⟩
 ·obtain⟨_,R⟩:=jO O;obtain⟨_,S⟩:=jO P;obtain⟨d,T,dp⟩:=jH l _ R;obtain⟨e,em,i⟩:=jH l _ S
  have V :Q (lx (encM d) (encM e)) {s with heap:=h'}:=by
   have:ltM s.heap x y=lx (encM d) (encM e):=by unfold ltM;rw[gO dp,gO i]
   rw[<-this];exact q
  obtain⟨as,rfl,ha⟩:=c d T;obtain⟨bs,rfl,J⟩:=c e em;obtain⟨x1,x2⟩:=x;obtain⟨X,y2⟩:=y;unfold Vl at dp i;obtain⟨a,us,Y,⟨o,ho,f,n,hd⟩,g⟩:=dp;obtain⟨b,ws,Z,⟨o2,j,K,n2,m⟩,lw⟩:=i;have t :x1=Value.ref a:=Y;have z :X=Value.ref b:=Z;subst t z;refine PySem.W.kat_lt (s:={s with heap:=h'}) (k _ _ ho) hd (k _ _ j) m ?_;have z1:=bG g;have z2:=bG lw;have z3:=CJ ha;have z4:=CJ J;have zz:decide (us.toArray.size<ws.toArray.size)=false:=aNe (by simp only[List.size_toArray];lia);rw[zz];exact MI (s:={s with heap:=h'}) (by lia) (.tp cs::I) as bs us ws 0 ha J (cJ.keep k as us g) (cJ.keep k bs ws lw) V
 ·have fs:∃fs:List Value,PySem.W.KatTups h' vs fs/\fs.length=vs.length/\∀v∈fs,PySem.W.Looks (model prog w) h' (typeOf v) (.type "tuple"):=by
   clear q N
   have go:∀(ds:List D) (vs:List Value),(∀d∈ds,∃es,d= .tup es/\fL (.tp cs::I) es=true)->cJ s.heap ds vs->∃fs:List Value,PySem.W.KatTups h' vs fs/\fs.length=vs.length/\∀v∈fs,PySem.W.Looks (model prog w) h' (typeOf v) (.type "tuple"):=by
    intro ds
    induction ds with
    | nil=>intro vs _ l;unfold cJ at l;subst l;exact⟨[],PySem.W.KatTups.nil,rfl,λv hv=>by cases hv⟩
    | cons d r ih=>
     intro vs c l;unfold cJ at l;obtain⟨u,ur,rfl,p,l⟩:=l;obtain⟨fs,B,L,C⟩:=ih ur (λe he=>c e (aM9 _ he)) l;obtain⟨es,rfl,he⟩:=c d aM8;unfold Vl at p;obtain⟨a,us,rfl,⟨o,ho,f,n,hd⟩,g⟩:=p
     cases es with
     | nil=>simp[fL]at he
     | cons e0 er=>
      unfold cJ at g;obtain⟨u0,u1,rfl,M,_⟩:=g;simp only[fL,Bool.and_eq_true]at he;refine⟨u0::fs,PySem.W.KatTups.cons (k _ _ ho) f hd (by simp) B,by simp[L],λv hv=>?_⟩;rcases aMf.mp hv with rfl | hv
      ·have E :=he.1;cases e0 <;> simp[qS]at E;unfold Vl at M;obtain⟨b,ws,rfl,⟨o3,F,G,_⟩,_⟩:=M;exact PySem.W.Looks.andThen (PySem.W.Looks.ld (k _ _ F)) (aNo (by rw[G]))
      ·exact C v hv
   exact go ds vs c l
  obtain⟨fs,B,L,C⟩:=fs;refine PySem.W.kat_kind (s:={s with heap:=h'}) B (by lia) C rfl ?_;exact q
end
def zG:OA:=λxs mh Q=>∃x ds,xs=[x]/\lF mh x=some ds/\ds.length<64/\ZR ds/\
 ∀a,a.Perm ds->a.Pairwise (λd e=>lx (encM e) (encM d)=false)->Q (.ref mh.length) (mh++[.lst a])
theorem KN(U:ZR ds):cT ds=true:=by
 obtain⟨cs,b,a⟩:=U
 induction ds with
 | nil=>rfl
 | cons d r ih=>
  obtain⟨es,rfl,he⟩:=a d aM8;simp only[cT,ih λe he=>a e (List.mem_cons_of_mem _ he),Bool.and_true];exact k5 (A0 he)
section
variable {X:Cx}
theorem KA(hu:X.A.units+64<cLine):cG X (.builtin "sorted") (eB X.K zG):=by
 intro pins s σ H xs us Q I r q;obtain⟨μ,mh,ds,R,n,G,⟨x,es,rfl,e,J,U,q⟩,F⟩:=q;obtain⟨v,rfl,L⟩:=eD G;obtain⟨a,vs,rfl,sq,l⟩:=oJ n L e;obtain⟨u,rfl,M⟩:=vals1 r;cases M;obtain⟨aM,p,N,hz⟩:=I.list sq;have g:=n4 I es (KN U) l p;have y:aM.length=es.length:=bG g;have O:X.A.in1.in1.units+40<cLine:=by show X.A.units+1+1+40<_;lia
 have ask:∃κ,2<=aM.length->∀h' :Heap,(∀b o,s.heap.get? b=some o->h'.get? b=some o)->TS.ID X.prog X.w X.A.in1.in1 {s with heap:=h'} κ (ltM s.heap) (pairsOf aM)/\
   ∀B P,B κ {s with heap:=h'}->wpAny (model X.prog X.w) X.A.in1.in1 (keyKind' aM.toArray) B P {s with heap:=h'}:=by
  by_cases C:2<=aM.length
  ·obtain⟨κ,S⟩:=NV (prog:=X.prog) (w:=X.w) (A:=X.A.in1.in1) O U g C;exact⟨κ,λ_=>S⟩
  ·exact⟨general',λz=>absurd z C⟩
 obtain⟨κ,ask⟩:=ask;refine TS.FE (κ:=κ) (aCw s.heap) N.isList (by lia) ask λout D h=>?_;obtain⟨ts,T,V,W,Y⟩:=zP l p g;rw[<-W]at D;obtain⟨c,i,E⟩:=rZ (·.u) D ts rfl;have f:∀t∈c,Is X.K μ H t.d t.v/\RelV t.v t.u/\Vl s.heap t.d t.u:=λt ht=>Y t (i.mem_iff.mp ht);have Z:(c.map (·.d)).Perm es:=by rw[<-T];exact i.map _
 have pw:(c.map (·.d)).Pairwise (λd e=>lx (encM e) (encM d)=false):=by
  rw[<-E]at h;rw[List.pairwise_map]at h⊢;refine h.imp_of_mem λ{t t'} m m' j=>?_;have e1:dv s.heap t.u=t.d:=gO (f t m).2.2;have e2:dv s.heap t'.u=t'.d:=gO (f t' m').2.2;unfold ltM at j;rw[e1,e2]at j;exact j
 obtain⟨ep,he⟩:=sortedAll_at s.heap aM out.toArray
 have ln:(c.map (·.v)).length<=sizeLine:=by
  have:=i.length_eq;have k :=aN5 List.length V;simp at k ⊢
  lia
 have I1:Inv X pins σ (upd H (s.heap.objs.size+1) (.lst (c.map (·.v)))) {s with heap:=sortedAll s.heap aM out.toArray}:=
  I.laid (t' :=s.toks) (λb o hb=>sortedAll_old hb) (aOs _) ⟨ln,out,ep,by rw[<-E];exact rK λt ht=>(f t ht).2.1,he⟩
 exact⟨.ref (s.heap.objs.size+1),_,I1,rfl,k7 n F (wA λt ht=>(f t ht).1) (q _ Z pw) _ (I.cS.fresh (aOs _))⟩
end
def aO(mh:MH):Nat->D->D
 | 0,d=>d
 | n+1,.ref k=>match mh[k]? with | some (.lst ds)=>.fl (ds.map (aO mh n)) | _=>.ref k
 | n+1,.tup ds=>.tup (ds.map (aO mh n))
 | _+1,d=>d
section
variable {X:Cx}{pins:List (Addr×Obj)}{σ:L2.St}{H:Hp}{s:Shared}{μ:List Addr}{mh:MH}
theorem mD:∀{ds:List D},cT ds=true↔∀d∈ds,bare d=true
 | []=>by simp[cT]
 | d::ds=>by simp only[cT,Bool.and_eq_true,mD (ds:=ds),List.mem_cons,forall_eq_or_imp]
theorem j4(I:Inv X pins σ H s){n:Nat}(h:∀{d:D} {v:V} {u:Value},bare (aO mh n d)=true->Is X.K μ H d v->RelV v u->Vl s.heap (aO mh n d) u):
  ∀(ds:List D) {vs:List V} {us:List Value},(∀d∈ds,bare (aO mh n d)=true)->IsL X.K μ H ds vs->Vals vs us->cJ s.heap (ds.map (aO mh n)) us
 | [],vs,us,_,l,r=>by unfold IsL at l;subst l;cases r;simp;unfold cJ;rfl
 | d::ds,vs,us,b,l,r=>by
  unfold IsL at l;obtain⟨v,f,rfl,i,l⟩:=l
  cases r with
  | cons a c=>
   rw[List.map_cons];unfold cJ;exact⟨_,_,rfl,h (b d aM8) i a,j4 I h ds (λe he=>b e (aM9 _ he)) l c⟩
theorem fX(I:Inv X pins σ H s)(R:Rep X.K μ mh H):∀(n:Nat) {d:D} {v:V} {u:Value},bare (aO mh n d)=true->Is X.K μ H d v->RelV v u->Vl s.heap (aO mh n d) u:=by
 intro n
 induction n with
 | zero=>intro d v u b i r;exact nZ I d b i r
 | succ n ih=>
  intro d v u b i r
  cases d with
  | ref k=>
   simp only[aO]at b⊢
   cases o:mh[k]? with
   | none=>rw[o]at b;simp[bare]at b
   | some ob=>
    cases ob with
    | lst ds=>
     rw[o]at b;simp only;obtain⟨a,vs,rfl,_,h,l⟩:=gA R i o;have c :u=Value.ref a:=r;subst c;obtain⟨aM,e,p,_⟩:=I.list (.of h);unfold Vl;have g :cT (ds.map (aO mh n))=true:=by simpa[bare] using b
     exact⟨a,aM,rfl,p.isList,j4 I ih ds (λd hd=>mD.mp g _ (aN6 hd)) l e⟩
    | dic t kvs=>rw[o]at b;simp[bare]at b
    | fdc t kvs ob=>rw[o]at b;simp[bare]at b
    | oth ds f=>rw[o]at b;simp[bare]at b
  | tup ds=>
   simp only[aO]at b⊢;obtain⟨a,vs,rfl,sq,l⟩:=eC i;have c :u=Value.ref a:=r;subst c;obtain⟨aM,e,p,_⟩:=I.tuple sq;unfold Vl;have g :cT (ds.map (aO mh n))=true:=by simpa[bare] using b
   exact⟨a,aM,rfl,p,j4 I ih ds (λd hd=>mD.mp g _ (aN6 hd)) l e⟩
  | bU=>exact nZ I _ b i r
  | bl _=>exact nZ I _ b i r
  | int _=>exact nZ I _ b i r
  | str _=>exact nZ I _ b i r
  | ty _=>exact nZ I _ b i r
  | fl _=>exact nZ I _ b i r
end
def xV:O2:=λx y mh Q=>∃n,bare (aO mh n x)=true/\bare (aO mh n y)=true/\deep (aO mh n x)<=40/\Q (.bl (dD (aO mh n x) (aO mh n y))) mh
def qN:O2:=λx y mh Q=>∃n,bare (aO mh n x)=true/\bare (aO mh n y)=true/\deep (aO mh n x)<=40/\Q (.bl !dD (aO mh n x) (aO mh n y)) mh
def inN(mh:MH)(n:Nat)(x:D)(ds:List D):Bool:=ds.any λy=>dD (aO mh n y) (aO mh n x)
def IA(mh:MH)(n:Nat)(d:D):Prop:=bare (aO mh n d)=true/\deep (aO mh n d)<=40
def CW:O2:=λx y mh Q=>∃n ds,bF mh y=some ds/\IA mh n x/\(∀d∈ds,IA mh n d)/\Q (.bl !inN mh n x ds) mh
section
variable {X:Cx}
theorem aCe(b:X.A.units+64<cLine):g5 X (compareOp .Eq) (bW X.K xV):=by
 intro pins s σ H x y v u Q I c d q;obtain⟨μ,mh,dx,h,R,a,ix,e,⟨n,f,g,hd,q⟩,F⟩:=q;exact Q6 hd b (fX I a n f ix c) (fX I a n g e d) X.prog X.w X.xe _ ⟨.bl _,H,I,rfl,F.here a q .bl⟩
theorem aCb(b:X.A.units+64<cLine):g5 X (compareOp .NotEq) (bW X.K qN):=by
 intro pins s σ H x y v u Q I c d q;obtain⟨μ,mh,dx,h,R,a,ix,e,⟨n,f,g,hd,q⟩,F⟩:=q;exact FW hd b (fX I a n f ix c) (fX I a n g e d) X.prog X.w X.xe _ ⟨.bl _,H,I,rfl,F.here a q .bl⟩
noncomputable def G0(h:Heap)(x:D)(u:Value):Bool:=dD (dv h u) x
theorem EL{h:Heap}{x:D}{f:D->D}:∀{ds:List D} {us:List Value},cJ h (ds.map f) us->us.any (G0 h x)=ds.any λy=>dD (f y) x
 | [],us,l=>by simp only[List.map_nil]at l;unfold cJ at l;subst l;rfl
 | d::ds,us,l=>by
  simp only[List.map_cons]at l;unfold cJ at l;obtain⟨u,r,rfl,p,l⟩:=l;rw[List.any_cons,List.any_cons,EL l];unfold G0;rw[gO p]
theorem vY{A:Around}{s:Shared}{x:D}{v:Value}(b:A.units+64<cLine)(q:Vl s.heap x v):∀{ds:List D} {us:List Value},(∀d∈ds,deep d<=40)->cJ s.heap ds us->∀u∈us,SeqAt.EqAt A.in1 s u v (G0 s.heap x u):=λ{ds us} hd l u a =>by
 obtain⟨d,hm,p⟩:=jH l u a;unfold G0;rw[gO p];exact kB 40 (hd d hm) (by show A.units+1+40+1<_;lia) p q
theorem N7(m:X.A.units+64<cLine):g5 X (compareOp .NotIn) (bW X.K CW):=by
 intro pins s σ H x y v u Q I p r q;obtain⟨μ,mh,dx,B,R,c,ix,t,⟨n,ds,e,z,g,q⟩,F⟩:=q;obtain⟨a,vs,rfl,sq,l⟩:=qL c t e;have h :u=Value.ref a:=r;subst h;have o:=fX I c n z.1 ix p;have f:∀d∈ds.map (aO mh n),deep d<=40:=λd hd=>by obtain⟨e,he,rfl⟩:=aMd.mp hd;exact(g e he).2
 rcases sq with sq | sq
 ·obtain⟨aM,i,j,hz⟩:=I.list sq;have b:=j4 I (fX I c n) ds (λd hd=>(g d hd).1) l i;refine SeqAt.notIn_listAt (G0 s.heap (aO mh n dx)) j.isList (λw k=>vY m o f b w (by simpa using k)) ⟨.bl _,H,I,rfl,?_⟩;rw[show aM.toArray.any (G0 s.heap (aO mh n dx))=aM.any (G0 s.heap (aO mh n dx)) by simp,EL b];exact F.here c q .bl
 ·obtain⟨aM,i,j,hz⟩:=I.tuple sq;have b:=j4 I (fX I c n) ds (λd hd=>(g d hd).1) l i;refine SeqAt.notIn_tupleAt (G0 s.heap (aO mh n dx)) j (λw k=>vY m o f b w (by simpa using k)) ⟨.bl _,H,I,rfl,?_⟩;rw[show aM.toArray.any (G0 s.heap (aO mh n dx))=aM.any (G0 s.heap (aO mh n dx)) by simp,EL b];exact F.here c q .bl
end
def vZ:OM:=λx ds mh Q=>∃(k n:Nat) (es:List D) (d:D) (j:Nat),x= .ref k/\ds=[d]/\mh[k]? =some (.lst es)/\IA mh n d/\(∀e∈es,IA mh n e)/\es.findIdx? (λy=>dD (aO mh n y) (aO mh n d))=some j/\Q (.int j) mh
section
variable {X:Cx}
theorem OE(G:X.A.units+64<cLine):ZU X "list.index" (liftM X.K vZ):=by
 intro pins s σ H x xs v us Q I J rs q;obtain⟨μ,mh,dx,ds,R,h,ix,L,⟨k,n,es,d,j,rfl,rfl,e,M,t,hi,q⟩,F⟩:=q;obtain⟨z,rfl,N⟩:=eD L;obtain⟨a,vs,rfl,Z,O,l⟩:=gA h ix e;cases J;obtain⟨u,rfl,P⟩:=rs.one;obtain⟨aM,B,S,hz⟩:=I.list (.of O);have c:=j4 I (fX I h n) es (λd hd=>(t d hd).1) l B;have T:=fX I h n M.1 N P;have o:∀d∈es.map (aO mh n),deep d<=40:=λd hd=>by obtain⟨e,he,rfl⟩:=aMd.mp hd;exact(t e he).2
 obtain⟨C,f,p⟩:=aNq.mp hi;have b:=bG c;simp only[List.length_map]at b;have sz:=aMe
 have at_:∀(m:Nat) (hm:m<aM.length) (g:m<es.length),G0 s.heap (aO mh n d) aM[m]=dD (aO mh n es[m]) (aO mh n d):=λm hm g=>by
  obtain⟨w,D,U⟩:=CC c (j:=m) (d:=aO mh n es[m]) (by rw[List.getElem?_map,List.getElem?_eq_getElem g];rfl);rw[List.getElem?_eq_getElem hm]at D;cases D;unfold G0;rw[gO U]
 obtain⟨⟨cls,V,data,sl⟩,ho,E,m,hd⟩:=S.isList;simp only at E hd;subst E hd;have W:aM.length<=sizeLine:=by have:=B.length;lia
 refine aPe PySem.F.slot_list_index ⟨_,ho,rfl⟩ PySem.F.entry_list_index (PySem.F.args_list_index_2 _ _)
  (SeqAt.list_indexAt a aM.toArray m V sl u (G0 s.heap (aO mh n d)) j (by simpa[b] using C) (by lia) ?_ ?_) ⟨ho,λy Y=>vY G T o c y (by simpa using Y),?_⟩
 ·rw[List.getElem_toArray,at_ j (by lia) C];simpa using f
 ·intro i hm r;rw[List.getElem_toArray,at_ i (by simpa using hm) (by lia)];simpa using p i r
 ·exact⟨.int j,H,I.tok _,⟨_,rfl⟩,F.here h q .int⟩
end
def QH:WS:=λ_ _ _=>False
theorem SQ{X:Cx}{st:Stmt}:LS X st QH:=λ_ _ _ _ _ _ z=>by obtain⟨_,_,_,_,_,_,h,_⟩:=z;exact h.elim
def DD:OM:=λx ds mh Q=>∃(k n:Nat) (es:List D) (d:D),x= .ref k/\ds=[d]/\mh[k]? =some (.lst es)/\IA mh n d/\(∀e∈es,IA mh n e)/\Q (.int ((es.countP λy=>dD (aO mh n y) (aO mh n d):Nat):Int)) mh
section
variable {X:Cx}
theorem OF(t:X.A.units+64<cLine):ZU X "list.count" (liftM X.K DD):=by
 intro pins s σ H x xs v us Q I B rs q;obtain⟨μ,mh,dx,ds,R,f,ix,C,⟨k,n,es,d,rfl,rfl,e,D,h,q⟩,F⟩:=q;obtain⟨z,rfl,E⟩:=eD C;obtain⟨a,vs,rfl,U,G,l⟩:=gA f ix e;cases B;obtain⟨u,rfl,J⟩:=rs.one;obtain⟨aM,L,M,hz⟩:=I.list (.of G);have c:=j4 I (fX I f n) es (λd hd=>(h d hd).1) l L;have N:=fX I f n D.1 E J;have g:∀d∈es.map (aO mh n),deep d<=40:=λd hd=>by obtain⟨e,he,rfl⟩:=aMd.mp hd;exact(h e he).2
 have b:=bG c;simp only[List.length_map]at b
 have em:aM.map (G0 s.heap (aO mh n d))=es.map λy=>dD (aO mh n y) (aO mh n d):=by
  refine aP8 (by simp[b]) λm i o=>?_;simp only[List.length_map]at i o;simp only[List.getElem_map];obtain⟨w,p,O⟩:=CC c (j:=m) (d:=aO mh n es[m]) (by rw[List.getElem?_map,List.getElem?_eq_getElem o];rfl);rw[List.getElem?_eq_getElem i]at p;cases p;unfold G0;rw[gO O]
 have P:aM.countP (G0 s.heap (aO mh n d))=es.countP λy=>dD (aO mh n y) (aO mh n d):=by
  have:=aN5 (List.countP id) em;rw[List.countP_map,List.countP_map]at this;exact this
 obtain⟨⟨cls,S,data,sl⟩,ho,r,m,hd⟩:=M.isList;simp only at r hd;subst r hd;refine aPe PySem.F.slot_list_count ⟨_,ho,rfl⟩ PySem.F.entry_list_count (PySem.F.args_list_count_2 _ _) (SeqAt.list_countAt a aM.toArray m S sl u (G0 s.heap (aO mh n d))) ⟨ho,λy T=>vY t N g c y (by simpa using T),?_⟩;rw[show aM.toArray.toList=aM from rfl,P];exact⟨.int _,H,I.tok _,⟨_,rfl⟩,F.here f q .int⟩
end
end D3
namespace L2
open PySem PySem.Spec PyProof.Rows
end L2
namespace D3
open PySem PySem.Spec PyProof.Rows L2
end D3
namespace R42
def sp(u v:Nat):Nat×Nat:=if u<=v then (u,v) else (v,u)
theorem LJ(u v:Nat):sp u v=sp v u:=by
 unfold sp;by_cases h:u<=v
 ·by_cases h' :v<=u
  ·have e:u=v:=Nat.le_antisymm h h';subst e;rfl
  ·rw[if_pos h,if_neg h']
 ·rw[if_neg h,if_pos (by omega)]
def xN(m w:Nat):List (Nat×Nat):=(List.range w).map λk=>sp (m+k) (m+(k+1) % w)
def bI:Nat->List Nat->List (Nat×Nat)
 | _,[]=>[]
 | m,w::ws=>xN m w++bI (m+w) ws
def mp(p:Nat->Nat)(e:Nat×Nat):Nat×Nat:=sp (p e.1) (p e.2)
theorem R9(p:Nat->Nat)(u v:Nat):mp p (sp u v)=sp (p u) (p v):=by
 unfold mp;by_cases h:u<=v
 ·have:sp u v=(u,v):=by unfold sp;rw[if_pos h]
  rw[this]
 ·have:sp u v=(v,u):=by unfold sp;rw[if_neg h]
  rw[this];exact LJ _ _
theorem kX(p:Nat->Nat)(m n w:Nat)(h:∀k,k<w->p (m+k)=n+k):(xN m w).map (mp p)=xN n w:=by
 unfold xN;rw[List.map_map];refine aMh λk b=>?_;have a :k<w:=by simpa using b
 have:(k+1) % w<w:=Nat.mod_lt _ (by omega);simp only[Function.comp,R9,h k a,h _ this]
theorem A5(p:Nat->Nat):∀(ws:List Nat) (m:Nat),(∀k,m<=k->p k=k)->(bI m ws).map (mp p)=bI m ws
 | [],_,_=>rfl
 | w::ws,m,h=>by
  simp only[bI,List.map_append];rw[kX p m m w λk _=>h _ (by omega),A5 p ws (m+w) λk a=>h k (by omega)]
structure Bij(m N:Nat)(p:Nat->Nat):Prop where
 lo:∀k,k<m->p k=k
 hi:∀k,N<=k->p k=k
 lt:∀k,k<N->p k<N
 inj:∀i j,p i=p j->i=j
theorem aF6(m N:Nat):Bij m N id:=⟨λ_ _=>rfl,λ_ _=>rfl,λ_ h=>h,λ_ _ h=>h⟩
theorem IT{ws d :List Nat}(h:ws.Perm d):∀m,∃p,Bij m (m+ws.sum) p/\((bI m ws).map (mp p)).Perm (bI m d):=by
 induction h with
 | nil=>intro m;exact⟨id,aF6 _ _,by simp[bI]⟩
 | cons w _ ih=>
  rename_i l l' n;intro m;obtain⟨p,b,o⟩:=ih (m+w);refine⟨p,⟨λk c=>b.lo k (by omega),λk c=>b.hi k (by simp at c;omega),λk c=>?_,b.inj⟩,?_⟩
  ·have:=b.lt k (by simp at c;omega);simp;omega
  ·simp only[bI,List.map_append];rw[kX p m m w λk c=>b.lo _ (by omega)];exact o.append_left _
 | swap a b l=>
  intro m;refine⟨λk=>if k<m then k else if k<m+b then k+a else if k<m+b+a then k-b else k,⟨λk c=>by simp[c],λk c=>?_,λk c=>?_,λi j e=>?_⟩,?_⟩
  ·simp only[List.sum_cons]at c;rw[if_neg (by omega),if_neg (by omega),if_neg (by omega)]
  ·simp only[List.sum_cons]at c⊢;split
   ·omega
   ·split
    ·omega
    ·split <;> omega
  ·split at e <;> split at e <;> (try split at e) <;> (try split at e) <;> (try split at e) <;> (try split at e) <;> omega
  ·simp only[bI,List.map_append];rw[kX _ m (m+a) b λk c=>by rw[if_neg (by omega),if_pos (by omega)];omega];rw[kX _ (m+b) m a λk c=>by rw[if_neg (by omega),if_neg (by omega),if_pos (by omega)];omega];rw[A5 _ l (m+b+a) λk c=>by rw[if_neg (by omega),if_neg (by omega),if_neg (by omega)]];rw[show m+b+a=m+a+b by omega,<-List.append_assoc,<-List.append_assoc];exact List.Perm.append_right _ List.perm_append_comm
 | trans _ _ ih1 ih2=>
  rename_i l1 l2 l3 h1 h2;intro m;obtain⟨p,f,n⟩:=ih1 m;obtain⟨q,g,r⟩:=ih2 m;have es:l1.sum=l2.sum:=h1.sum_nat;refine⟨λk=>q (p k),⟨λk c=>by rw[f.lo k c,g.lo k c],λk c=>by rw[f.hi k c,g.hi k (by omega)],λk c=>?_,λi j e=>f.inj _ _ (g.inj _ _ e)⟩,?_⟩
  ·have:=g.lt (p k) (by have:=f.lt k c;omega);omega
  ·have e:(bI m l1).map (mp λk=>q (p k))=((bI m l1).map (mp p)).map (mp q):=by
    rw[List.map_map];refine aMh λe _=>?_;show _=mp q (sp (p e.1) (p e.2));rw[R9];rfl
   rw[e];exact(n.map _).trans r
def mult(E:List (Nat×Nat))(u v:Nat):Nat:=E.count (sp u v)
def IV(N:Nat):List (Nat×Nat):=(List.range N).flatMap λu=>(List.range N).map λv=>(u,v)
def WZ(N:Nat):List (Nat×Nat×Nat):=(List.range N).flatMap λu=>(IV N).map λq=>(u,q)
def aIh(E:List (Nat×Nat))(q:Nat×Nat):Bool:=q.1 !=q.2 && mult E q.1 q.2==2
def aG0(E:List (Nat×Nat))(q:Nat×Nat×Nat):Bool:=q.1 !=q.2.1 && q.1 !=q.2.2 && q.2.1 !=q.2.2 && mult E q.1 q.2.1 !=0 && mult E q.1 q.2.2 !=0 && mult E q.2.1 q.2.2 !=0
def UK(N:Nat)(E:List (Nat×Nat)):Nat:=(IV N).countP (aIh E)
def zP(N:Nat)(E:List (Nat×Nat)):Nat:=(WZ N).countP (aG0 E)
theorem gV{c d:Type}{f g:c->List d}:∀(l:List c),(∀a∈l,(f a).Perm (g a))->(l.flatMap f).Perm (l.flatMap g)
 | [],_=>by simp
 | a::l,h=>by
  rw[List.flatMap_cons,List.flatMap_cons];exact(h a aM8).append (gV l λb e=>h b (aM9 _ e))
variable{N:Nat}{p:Nat->Nat}
theorem FX(h:((List.range N).map p).Perm (List.range N)):((IV N).map λq=>(p q.1,p q.2)).Perm (IV N):=by
 unfold IV;rw[List.map_flatMap]
 have e:(List.range N).flatMap (λu=>((List.range N).map λv=>(u,v)).map λq=>(p q.1,p q.2))=((List.range N).map p).flatMap λu=>((List.range N).map p).map λv=>(u,v):=by
  rw[List.flatMap_map];simp only[List.map_map];rfl
 rw[e];refine(h.flatMap_right _).trans (gV _ λu _=>h.map _)
theorem RG(h:((List.range N).map p).Perm (List.range N)):((WZ N).map λq=>(p q.1,p q.2.1,p q.2.2)).Perm (WZ N):=by
 unfold WZ;rw[List.map_flatMap]
 have e:(List.range N).flatMap (λu=>((IV N).map λq=>(u,q)).map λq=>(p q.1,p q.2.1,p q.2.2))=((List.range N).map p).flatMap λu=>((IV N).map λq=>(p q.1,p q.2)).map λq=>(u,q):=by
  rw[List.flatMap_map];simp only[List.map_map];rfl
 rw[e];refine(h.flatMap_right _).trans (gV _ λu _=>(FX h).map _)
theorem aB5{a b c d:Nat}(h:sp a b=sp c d):a=c/\b=d\/a=d/\b=c:=by
 unfold sp at h;split at h <;> split at h <;> simp at h <;> omega
def Nrm(E:List (Nat×Nat)):Prop:=∀e∈E,sp e.1 e.2=e
variable{E E':List (Nat×Nat)}
theorem F5(inj:∀i j,p i=p j->i=j)(n:Nrm E)(h:E'.Perm (E.map (mp p)))(u v:Nat):mult E' (p u) (p v)=mult E u v:=by
 unfold mult;rw[h.count_eq,List.count,List.countP_map,List.count];refine aO9 λe he=>?_;simp only[Function.comp,beq_iff_eq];have c:=n e he;constructor
 ·intro z;rw[<-c]
  rcases aB5 (show sp (p e.1) (p e.2)=sp (p u) (p v) from z) with ⟨a,b⟩ | ⟨a,b⟩
  ·rw[inj _ _ a,inj _ _ b]
  ·rw[inj _ _ a,inj _ _ b,LJ]
 ·intro z;rw[z,R9]
theorem UJ(a:((List.range N).map p).Perm (List.range N))(inj:∀i j,p i=p j->i=j)(n:Nrm E)(h:E'.Perm (E.map (mp p))):UK N E' =UK N E:=by
 unfold UK;rw[<-(FX a).countP_eq,List.countP_map];refine aO9 λq _=>?_
 have e:(p q.1 !=p q.2)=(q.1 !=q.2):=by
  by_cases z:q.1=q.2
  ·rw[z,bne_self_eq_false,bne_self_eq_false]
  ·have:p q.1≠p q.2:=λy=>z (inj _ _ y);rw[bne_iff_ne.mpr z,bne_iff_ne.mpr this]
 simp only[Function.comp,aIh,F5 inj n h,e]
theorem QM(c:((List.range N).map p).Perm (List.range N))(inj:∀i j,p i=p j->i=j)(n:Nrm E)(h:E'.Perm (E.map (mp p))):zP N E' =zP N E:=by
 unfold zP;rw[<-(RG c).countP_eq,List.countP_map];refine aO9 λq _=>?_
 have e:∀a b,(p a !=p b)=(a !=b):=λa b=>by
  by_cases z:a=b
  ·rw[z,bne_self_eq_false,bne_self_eq_false]
  ·have:p a≠p b:=λy=>z (inj _ _ y);rw[bne_iff_ne.mpr z,bne_iff_ne.mpr this]
 simp only[Function.comp,aG0,F5 inj n h,e]
theorem A9:∀(ws:List Nat) (m:Nat),Nrm (bI m ws)
 | [],_=>λe he=>by simp[bI]at he
 | w::ws,m=>λe he=>by
  simp only[bI]at he;rcases aMi.mp he with z | z
  ·obtain⟨k,_,rfl⟩:=aMd.mp z
   have:∀u v,sp (sp u v).1 (sp u v).2=sp u v:=λu v=>by
    unfold sp;by_cases h:u<=v
    ·simp[h]
    ·simp only[if_neg h];rw[if_pos (by omega)]
   exact this _ _
  ·exact A9 ws _ e z
def comps:Nat->List (List Nat)
 | 4=>[[4],[2,2]]
 | 5=>[[5],[2,3],[3,2]]
 | 6=>[[6],[2,4],[4,2],[3,3],[2,2,2]]
 | 7=>[[7],[2,5],[5,2],[3,4],[4,3],[2,2,3],[2,3,2],[3,2,2]]
 | _=>[]
theorem BX{ws:List Nat}{t:Nat}(h:∀w∈ws,2<=w)(e:ws.sum=t)(i:4<=t)(k:t<=7):ws∈comps t:=by
 match ws,h,e with
 | [],_,e=>simp at e;omega
 | [a],_,e=>
  simp at e;subst e;have:a=4\/a=5\/a=6\/a=7:=by omega
  rcases this with rfl | rfl | rfl | rfl <;> simp[comps]
 | [a,b],h,e=>
  have f:=h a (by simp);have g:=h b (by simp);simp at e;have:a=2\/a=3\/a=4\/a=5:=by omega
  have:b=2\/b=3\/b=4\/b=5:=by omega
  rcases ‹a=2\/_› with rfl | rfl | rfl | rfl <;> rcases ‹b=2\/_› with rfl | rfl | rfl | rfl <;> (first | (exfalso;omega) | (subst e;simp[comps]))
 | [a,b,c],h,e=>
  have f:=h a (by simp);have g:=h b (by simp);have j:=h c (by simp);simp at e;have:a=2\/a=3:=by omega
  have:b=2\/b=3:=by omega
  have:c=2\/c=3:=by omega
  rcases ‹a=2\/_› with rfl | rfl <;> rcases ‹b=2\/_› with rfl | rfl <;> rcases ‹c=2\/_› with rfl | rfl <;> (first | (exfalso;omega) | (subst e;simp[comps]))
 | a::b::c::d::l,h,e=>
  have f:=h a (by simp);have g:=h b (by simp);have j:=h c (by simp);have i:=h d (by simp);simp at e;omega
theorem J8:∀t∈[4,5,6,7],∀c∈[0,1],∀ws∈comps t,∀a ∈comps t,UK (1+t+c) (bI 1 ws)=UK (1+t+c) (bI 1 a)->zP (1+t+c) (bI 1 ws)=zP (1+t+c) (bI 1 a)->ws.Perm a :=by
 decide+kernel
end R42
namespace K42
open PySem PyProof.Rows L2 D3
set_option hygiene false
local macro_rules | `(tactic| specialize $t)=>`(tactic| with_reducible show $t)
local macro_rules | `(tactic| walk_at "t")=>`(tactic| repeat' first | ((specialize tG _ _ (gN _));exact DW _) | ((specialize tG _ _ _);refine' aEf ?_) | ((specialize zK _ _ (aQ _ _));refine' TX ?_ ?_) | ((specialize zK _ _ _);exact Y1) | exact O5 (by decide) | exact JW | refine' TY ?_ | refine' O6 ?_ ?_ ?_ ?_ | exact TZ | refine' gmono_tup ?_ | refine' JX ?_ ?_ | exact O8)
local macro_rules | `(tactic| walk_at "g")=>`(tactic| first | ((specialize List.Nodup _);assumption) | ((with_reducible show LE _ _ _);first | ((specialize LE (bE _ _ _ _ _ _ _ _ _) _ (tJ _ _ _ _ _ _));refine' aDe _ _ ?a ?b ?r ?s ?_ ?g ?u ?v;(case a | b=>decide+kernel);(case r | s=>walk_at "t");(case g | u | v=>walk_at "h")) | ((specialize LE _ _ (tJ _ _ _ _ _ _));refine' aDd _ _ ?a ?b ?r ?s ?_ ?g ?u ?v;(case a | b=>decide+kernel);(case r | s=>walk_at "t");(case g | u | v=>walk_at "h")) | ((specialize LE _ (.Name _ _) (aB _));exact aD7 _) | ((specialize LE _ (.Constant (.int _) _ _) _);exact le_int) | ((specialize LE _ _ (aU bO _ _));refine' aAb ixl ?_ ?_ (λ_ _=>rfl)) | ((specialize LE _ (.BinOp _ _ _ _) _);refine' aHt ?_ ?_ ?_) | ((specialize LE _ (.Tuple _ _ _) _);refine' aD8 ?_) | ((specialize LE _ (.List _ _) _);refine' aDc ?_) | ((specialize LE _ (.Constant (.str _) _ _) _);exact le_str) | ((specialize LE _ _ (qF _ bS _ _));refine' BE aNg PySem.F.slot_list_append PySem.F.type_list_append OG ?_ ?_) | ((specialize LE _ (.Call (.Name "len" _) _ _ _) (aE gZ _));refine' vG aEw B.len KD ?_) | ((specialize LE _ (.Call (.Name "sorted" _) _ _ _) (aE c5 _));refine' vG (PQ hr.units) B.sorted pF ?_) | ((specialize LE _ (.Compare _ [_] [_] _) _);refine' aDf ?_ ?_ ?_ (aHe _)) | ((specialize LE _ (.Constant (.bool _) _ _) _);exact aHy) | ((specialize LE _ (.Call (.Name "tuple" _) _ _ _) (aE gH _));refine' aHs UT B.tuple HH ?_) | ((specialize LE _ (.UnaryOp .USub _ _) _);refine' aHr ?_ ?_) | ((specialize LE _ (.Call (.Name "isinstance" _) _ _ _) (aE vP _));refine' vG aEx B.isinstance AG ?_) | ((specialize LE _ (.Constant .none _ _) _);exact aDb) | ((specialize LE _ (.BoolOp .And (_::_::_) _) _);refine' aDg ?_ ?_) | ((specialize LE _ (.BoolOp _ [_] _) _);refine' aD9 ?_) | ((specialize LE _ (.Call (.Name "min" _) _ _ _) (aE zH _));refine' vG (ZE rfl) B.min UX ?_) | ((specialize LE _ (.Call (.Name "sorted" _) _ _ _) (aE oX _));refine' vG (J9 hr.units) B.sorted pF ?_) | ((specialize LE _ _ (wSl oSl _ _ _));refine' SV sll ?_ ?_ ?_) | ((specialize LE _ (.Name "tuple" _) (wC _));exact L7 B.tuple HH) | ((specialize LE _ _ (nY _));refine' JM rfl B.list B.range ?_) | ((specialize LE _ _ (rH _));refine' OK rfl B.set B.len ?_) | ((specialize LE _ _ (K4));exact X8) | ((specialize LE _ (.Call (.Name "len" _) _ _ _) (aE NH _));refine' vG ZH B.len KD ?_) | ((specialize LE _ _ (wW _ _ _));refine' SX hr.units ?_ ?_ ?_) | ((specialize LE _ (.Call (.Name "max" _) _ _ _) (aE HS _));refine' vG (ZG rfl) B.max UY ?_) | ((specialize LE _ (.Call (.Name "sorted" _) _ _ _) (aE zG _));refine' vG (KA hr.units) B.sorted pF ?_) | ((specialize LE _ _ (VQ false));exact X9) | ((specialize LE _ _ (K5 _ _ _));refine' YA hr.units ?_ ?_ ?_) | ((specialize LE _ _ (aU aCi _ _));refine' aAb (ixD hr.units) ?_ ?_ (λ_ _=>rfl)) | ((specialize LE _ _ (qF _ JK _ _));refine' BE PySem.F.plainAttrs_tuple PySem.F.slot_tuple_index PySem.F.type_tuple_index (SD hr.units) ?_ ?_) | ((specialize LE _ (.IfExp _ _ _ _) _);refine' SW ?_ ?_ ?_) | ((specialize LE _ (.Call (.Name "abs" _) _ _ _) (aE U8 _));refine' vG aF0 B.abs aF4 ?_) | ((specialize LE _ (.Name "int" _) (wC _));exact L7 B.int UZ) | ((specialize LE _ (.Name "bool" _) (wC _));exact L7 B.bool ZM) | ((specialize LE _ (.UnaryOp .Not _ _) _);refine' aDa ?_) | ((specialize LE _ _ (qF _ DC _ _));refine' BE aNg PySem.F.slot_list_pop PySem.F.type_list_pop SA ?_ ?_) | ((specialize LE _ (.Call (.Name "min" _) _ _ _) (aE U5 _));refine' vG (ZD rfl) B.min UX ?_) | ((specialize LE _ (.Call (.Name "max" _) _ _ _) (aE U6 _));refine' vG (ZF rfl) B.max UY ?_) | ((specialize LE _ _ (qF _ vZ _ _));refine' BE aNg PySem.F.slot_list_index PySem.F.type_list_index (OE hr.units) ?_ ?_) | ((specialize LE _ _ (qF _ x9 _ _));refine' BE aNg aOn PySem.F.type_list_extend JG ?_ ?_) | ((specialize LE _ (.Name "str" _) (wC _));exact L7 B.str aF1) | ((specialize LE _ _ (qF _ DD _ _));refine' BE aNg PySem.F.slot_list_count PySem.F.type_list_count (OF hr.units) ?_ ?_) | ((specialize LE _ (.Call (.Name "all" _) _ _ _) (aE U7 _));refine' vG (aEz rfl) B.all aF3 ?_) | ((specialize LE _ (.Call (.Name "int" _) _ _ _) (aE aF9 _));refine' aHs aEy B.int UZ ?_) | ((specialize LE _ (.Call (.Name _ _) _ _ _) (aE _ _));refine' aHw (by assumption) hr ?_) | ((specialize LE _ (.Name _ _) (wC _));exact aHu (by assumption))) | ((with_reducible show LS _ _ _);first | ((specialize LS _ (.Assign [.Name _ _] (.ListComp _ _ _ _) _) _);refine' OI _ _ ?a ?b ?r ?s (by assumption) ?_ ?g ?u ?v;(case a | b=>decide+kernel);(case r | s=>walk_at "t");(case g | u | v=>walk_at "h")) | ((specialize LS _ (.Assign [.Tuple _ _ _] _ _) (K6 _ _ _));refine' aCy rfl ?_ ?_ ?r;(case r=>walk_at "t")) | ((specialize LS _ (.Return (some _) _) _);refine' aD0 ?_) | ((specialize LS _ (.If _ _ _ _) _);refine' aHm ?_ ?_ ?_) | ((specialize LS _ (.Expr _ _) _);refine' aL9 ?_) | ((specialize LS _ (.For _ _ _ _ _) _);refine' aD4 PassesOwn.never rfl ?_ ?_ ?r ?_;(case r=>walk_at "t")) | ((specialize LS _ (.While _ _ _ _) _);refine' SO PassesOwn.never ?_ ?_) | ((specialize LS _ (.Assign [.Tuple _ _ _] (.Tuple _ _ _) _) _);refine' aD1 _ _ rfl (by assumption) ?_) | ((specialize LS _ (.Break _) _);exact SS) | ((specialize LS _ (.Raise _ _ _) _);exact SQ) | ((specialize LS _ (.Assign [.Name _ _] _ _) _);refine' aL8 _ ?_ ?_) | ((specialize LS _ (.Assign [.Subscript _ _ _] _ _) _);refine' XY ?_ ?_ ?_) | ((specialize LS _ (.Assign [.Tuple _ _ _] _ _) _);refine' aD5 ?_ ?_ ?r;(case r=>walk_at "t")) | ((specialize LS _ (.Assign [.Subscript _ _ _] _ _) _);refine' XZ hr.units ?_ ?_ ?_)) | ((with_reducible show LI _ _ _ _);first | ((specialize LI _ _ _ (j3 _));refine' OJ rfl B.range ?_) | ((specialize LI _ _ _ (VP _));refine' aHq rfl B.enumerate ?_) | ((specialize LI _ _ _ (wR _));refine' X4 rfl B.zip ?_) | ((specialize LI _ _ _ (eU _));refine' aD6 ?_)) | ((with_reducible show PG _ _ _);first | ((specialize PG _ (.Name _ _) _);exact VX _ (by assumption)) | ((specialize PG _ (.Tuple _ _ _) _);refine' aBr rfl ?_)) | ((with_reducible show VH _ _ _);first | ((specialize VH _ [] _);exact XW) | ((specialize VH _ [_] _);refine' XU ?_)) | ((with_reducible show LA _ _ _);first | ((specialize LA _ (_::_) _);refine' aLd ?_ ?_) | ((specialize LA _ [] _);exact aDk)) | ((with_reducible show jQ _ _ _);first | ((specialize jQ _ [_] _);refine' aD2 ?_) | ((specialize jQ _ [] _);exact aD3) | ((specialize jQ _ (_::_) _);refine' X1 ?_ ?_)) | ((with_reducible show ZS _ _ _);first | ((specialize ZS _ (_::_) _);refine' RI ?_ ?_) | ((specialize ZS _ [] _);exact W3)) | ((with_reducible show g5 _ _ _);first | ((specialize g5 _ _ (bW _ iR));exact aCf) | ((specialize g5 _ _ (bW _ oEq));exact aHd hr.units) | ((specialize g5 _ _ (bW _ qN));exact aCb hr.units) | ((specialize g5 _ _ (bW _ xU));exact aCc) | ((specialize g5 _ _ (bW _ JA));exact aHc hr.units) | ((specialize g5 _ _ (bW _ oMod));exact aCd) | ((specialize g5 _ _ (bW _ xV));exact aCe hr.units) | ((specialize g5 _ _ (bW _ N9));exact aC9) | ((specialize g5 _ _ (bW _ oLt));exact aHb hr.units) | ((specialize g5 _ _ (bW _ RS));exact aCa) | ((specialize g5 _ _ (bW _ oNe));exact aHa hr.units) | ((specialize g5 _ _ (bW _ p6));exact XG) | ((specialize g5 _ _ (bW _ LV));exact XH) | ((specialize g5 _ _ (bW _ CW));exact N7 hr.units)) | ((with_reducible show LT _ _ _);first | ((specialize LT _ (.Compare _ [_] [_] _) _);refine' SN ?_ ?_ ?_ (aHe _)) | ((specialize LT _ (.UnaryOp .Not _ _) _);refine' aCv ?_) | ((specialize LT _ (.BoolOp .Or _ _) _);refine' LW.lt (aA8 ?_ ?_)) | ((specialize LT _ (.BoolOp .And _ _) _);refine' LW.lt (aCu ?_ ?_)) | ((specialize LT _ (.Compare _ [_] [_] _) _);refine' SN ?_ ?_ ?_ (by rfl)) | ((specialize LT _ _ _);refine' SM ?_)) | ((specialize UnR _ _ _);exact aAq) | ((with_reducible show LO _ _ _);first | ((specialize LO _ none _);exact X3) | ((specialize LO _ (some _) _);refine' X2 ?_)) | ((with_reducible show LW _ _ _);first | ((specialize LW _ (.BoolOp .Or [_] _) _);refine' aCt ?_) | ((specialize LW _ (.BoolOp .Or _ _) _);refine' aA8 ?_ ?_) | ((specialize LW _ (.BoolOp .And [_] _) _);refine' XT ?_)))
local macro_rules | `(tactic| walk_at "h")=>`(tactic| (intros;repeat' walk_at "g"))
set_option hygiene true
section
variable {P:Program}{w:World}{K:aPu}{mg:aPx}{base:Heap}{k:Nat}
theorem uU:aV ["keys","numbers"] ["keys"] (aG iE):=⟨rfl,rfl,rfl,by decide+kernel,rfl,by decide+kernel,by decide+kernel⟩
def rC:WS:=(bX (aE gH (aA (tJ ["own"] [1] (eU (aB 0)) (gN 0) lY (aE gH (aA (tJ ["key"] [1] (eU (aB 0)) (gN 0) lY (wW (aB 1) (aB 0) (aE NH (aA (aB 1) aD)))) aD))) aD)))
def mK:WS:=(aT (bH K4 (gN 1)) (rC))
theorem JO(B:Bl mg):oY P w K mg base k "numbered" ["keys","numbers"] iE (mK):=by
 intro f cdv A outer s H E hr;have nd:=uU.nd;show jQ _ (_::_) _
 repeat' walk_at "g"
theorem m6:aV ["some","names","name","net"] ["some"] (aG dN):=⟨rfl,rfl,rfl,by decide+kernel,rfl,by decide+kernel,by decide+kernel⟩
def kI:WS:=(eP (qF "list" bS (aU bO (aB 1) (aB 3)) (aA (aB 2) aD)))
def lK:WS:=(bX (tJ ["own"] [] (eU (aB 1)) (gN 0) lY (aE gH (aA (aB 0) aD))))
def lL:WS:=(aT (lD (eU (aU bO (aB 0) (wC (.int 1)))) (gT 2 (aQ (gN 2) (aQ (gN 3) eE))) (kI)) (lK))
def fP:WS:=(aT (bH (tJ ["net"] [] (j3 (aA (aU bO (aB 0) (wC (.int 0))) aD)) (gN 0) lY (fO aD)) (gN 1)) (lL))
theorem yB(B:Bl mg):oY P w K mg base k "names_by_net" ["some","names","name","net"] dN (fP):=by
 intro f cdv A outer s H E hr;have nd:=m6.nd;show jQ _ (_::_) _
 repeat' walk_at "g"
theorem m7:aV ["some","hooks","sort","gate","one","other","width","length"] ["some"] (aG dO):=⟨rfl,rfl,rfl,by decide+kernel,rfl,by decide+kernel,by decide+kernel⟩
def iV:WS:=(eP (qF "list" bS (aU bO (aB 1) (aB 5)) (aA (dB (aA (dB (aA (aB 2) (aA (aB 6) (aA (aB 7) (aA (wC (.int 1)) aD))))) (aA (aB 3) (aA (aB 4) aD)))) aD)))
def iW:WS:=(aT (eP (qF "list" bS (aU bO (aB 1) (aB 4)) (aA (dB (aA (dB (aA (aB 2) (aA (aB 6) (aA (aB 7) (aA (wC (.int 1)) aD))))) (aA (aB 3) (aA (aB 5) aD)))) aD))) (iV))
def kJ:WS:=(aT (eP (qF "list" bS (aU bO (aB 1) (aB 3)) (aA (dB (aA (dB (aA (aB 2) (aA (aB 6) (aA (aB 7) (aA (wC (.int 0)) aD))))) (aA (aB 4) (aA (aB 5) aD)))) aD))) (iW))
def lN:WS:=(bX (aB 1))
def lO:WS:=(aT (lD (eU (aU bO (aB 0) (wC (.int 2)))) (gT 6 (aQ (gN 2) (aQ (gN 3) (aQ (gN 4) (aQ (gN 5) (aQ (gN 6) (aQ (gN 7) eE))))))) (kJ)) (lN))
def fQ:WS:=(aT (bH (tJ ["net"] [] (j3 (aA (aU bO (aB 0) (wC (.int 0))) aD)) (gN 0) lY (fO aD)) (gN 1)) (lO))
theorem yC(B:Bl mg)(pE:tF K mg "AT_GATE" (.int 0))(HG:tF K mg "AT_END" (.int 1)):oY P w K mg base k "hooks_by_net" ["some","hooks","sort","gate","one","other","width","length"] dO (fQ):=by
 intro f cdv A outer s H E hr;have nd:=m7.nd;show jQ _ (_::_) _
 repeat' walk_at "g"
theorem xE:aV ["hook","own","fixed","one","other","left","right"] ["hook","own"] (aG j6):=⟨rfl,rfl,rfl,by decide+kernel,rfl,by decide+kernel,by decide+kernel⟩
def nJ:WS:=(bX (dB (aA (aB 2) (aA (aB 5) (aA (aB 6) aD)))))
def uN:WS:=(aT (eS (cU (aU oEq (aU bO (aB 2) (wC (.int 3))) (wC (.int 0)))) (bH (dB (aA (aE zH (aA (aB 5) (aA (aB 6) aD))) (aA (aE HS (aA (aB 5) (aA (aB 6) aD))) aD))) (gT 2 (aQ (gN 5) (aQ (gN 6) eE)))) cB) (nJ))
def uO:WS:=(aT (bH (dB (aA (aU bO (aB 1) (aB 3)) (aA (aU bO (aB 1) (aB 4)) aD))) (gT 2 (aQ (gN 5) (aQ (gN 6) eE)))) (uN))
def o4:WS:=(aT (bH (aB 0) (gT 3 (aQ (gN 2) (aQ (gN 3) (aQ (gN 4) eE))))) (uO))
theorem OP(B:Bl mg)(pE:tF K mg "AT_GATE" (.int 0)):oY P w K mg base k "telling" ["hook","own","fixed","one","other","left","right"] j6 (o4):=by
 intro f cdv A outer s H E hr;have nd:=xE.nd;show jQ _ (_::_) _
 repeat' walk_at "g"
theorem oC:aV ["one","other"] ["one","other"] (aG d7):=⟨rfl,rfl,rfl,by decide+kernel,rfl,by decide+kernel,by decide+kernel⟩
def g7(a s1:OA):WS:=(bX (aE a (aA (fO (aA (aE s1 (aA (aB 0) aD)) (aA (aE s1 (aA (aB 1) aD)) aD))) aD)))
variable{s0 s1:OA}
theorem zX(B:Bl mg)(gW:Fn P w K mg base k "numbered" ["keys"] s0)(oT:Fn P w K mg base k "names_by_net" ["some"] s1):oY P w K mg base k "first_marks" ["one","other"] d7 (g7 s0 s1):=by
 intro f cdv A outer s H E hr;have nd:=oC.nd;show jQ _ (_::_) _
 repeat' walk_at "g"
theorem pT:aV ["sides","marked","keys","hooks","own"] ["sides","marked"] (aG eV):=⟨rfl,rfl,rfl,by decide+kernel,rfl,by decide+kernel,by decide+kernel⟩
def iN(s0 s1:OA):WS:=(eP (qF "list" bS (aB 2) (aA (tJ ["net"] [4,3] (j3 (aA (aE gZ (aA (aB 4) aD)) aD)) (gN 0) lY (dB (aA (aU bO (aB 1) (aB 0)) (aA (aE gH (aA (aE zG (aA (tJ ["hook"] [1] (eU (aU bO (aB 2) (aB 0))) (gN 0) lY (aE s0 (aA (aB 0) (aA (aB 1) aD)))) aD)) aD)) aD)))) aD)))
def nK(s0 s1:OA):WS:=(bX (aE s1 (aA (aB 2) aD)))
def nL(s0 s1:OA):WS:=(aT (lD (wR (aA (aB 0) (aA (aB 1) aD))) (gT 2 (aQ (gN 3) (aQ (gN 4) eE))) (iN s0 s1)) (nK s0 s1))
def jA(s0 s1:OA):WS:=(aT (bH (fO aD) (gN 2)) (nL s0 s1))
theorem DF(B:Bl mg)(BQ:Fn P w K mg base k "telling" ["hook","own"] s0)(gW:Fn P w K mg base k "numbered" ["keys"] s1):oY P w K mg base k "next_marks" ["sides","marked","keys","hooks","own"] eV (jA s0 s1):=by
 intro f cdv A outer s H E hr;have nd:=pT.nd;show jQ _ (_::_) _
 repeat' walk_at "g"
theorem uT:aV ["one","other"] ["one","other"] (aG iD):=⟨rfl,rfl,rfl,by decide+kernel,rfl,by decide+kernel,by decide+kernel⟩
def mJ(s0:OA):WS:=(bX (dB (aA (aE s0 (aA (aB 0) aD)) (aA (aE s0 (aA (aB 1) aD)) aD))))
theorem JN(B:Bl mg)(oU:Fn P w K mg base k "hooks_by_net" ["some"] s0):oY P w K mg base k "sides_of" ["one","other"] iD (mJ s0):=by
 intro f cdv A outer s H E hr;have nd:=uT.nd;show jQ _ (_::_) _
 repeat' walk_at "g"
theorem pV:aV ["marked"] ["marked"] (aG eX):=⟨rfl,rfl,rfl,by decide+kernel,rfl,by decide+kernel,by decide+kernel⟩
def jC:WS:=(bX (aU qN (aE oX (aA (aU bO (aB 0) (wC (.int 0))) aD)) (aE oX (aA (aU bO (aB 0) (wC (.int 1))) aD))))
theorem DH(B:Bl mg):oY P w K mg base k "are_parted" ["marked"] eX (jC):=by
 intro f cdv A outer s H E hr;have nd:=pV.nd;show jQ _ (_::_) _
 repeat' walk_at "g"
theorem uV:aV ["sides","first","told","following"] ["sides","first"] (aG iF):=⟨rfl,rfl,rfl,by decide+kernel,rfl,by decide+kernel,by decide+kernel⟩
def mX(s0 s1:OA):WS:=(eP (qF "list" bS (aB 2) (aA (aB 3) aD)))
def mY(s0 s1:OA):WS:=(aT (eS (cU (aU oEq (aB 3) (aU bO (aB 2) (VD zT (wC (.int 1)))))) aAn cB) (mX s0 s1))
def lB(s0 s1:OA):WS:=(aT (bH (aE s1 (aA (aB 0) (aA (aU bO (aB 2) (VD zT (wC (.int 1)))) aD))) (gN 3)) (mY s0 s1))
def eJ(s0 s1:OA):WS:=(bX (aB 2))
def rD(s0 s1:OA):WS:=(aT (tI (i6 (mP (aE s0 (aA (aU bO (aB 2) (VD zT (wC (.int 1)))) aD)))) (lB s0 s1)) (eJ s0 s1))
def mL(s0 s1:OA):WS:=(aT (bH (fO (aA (aB 1) aD)) (gN 2)) (rD s0 s1))
theorem JP(B:Bl mg)(eO:Fn P w K mg base k "are_parted" ["marked"] s0)(sR:Fn P w K mg base k "next_marks" ["sides","marked"] s1):oY P w K mg base k "marks_on" ["sides","first","told","following"] iF (mL s0 s1):=by
 intro f cdv A outer s H E hr;have nd:=uV.nd;show jQ _ (_::_) _
 repeat' walk_at "g"
theorem rS:aV ["first","net","other_net","keys","own","named"] ["first","net","other_net"] (aG fZ):=⟨rfl,rfl,rfl,by decide+kernel,rfl,by decide+kernel,by decide+kernel⟩
def jR(s0:OA):WS:=(eP (qF "list" bS (aB 3) (aA (tJ ["number","mark"] [5] (VP (aA (aB 4) aD)) (gT 2 (aQ (gN 0) (aQ (gN 1) eE))) lY (dB (aA (aB 1) (aA (aU oEq (aB 0) (aB 2)) aD)))) aD)))
def pK(s0:OA):WS:=(bX (aE s0 (aA (aB 3) aD)))
def pL(s0:OA):WS:=(aT (lD (wR (aA (aB 0) (aA (dB (aA (aB 1) (aA (aB 2) aD))) aD))) (gT 2 (aQ (gN 4) (aQ (gN 5) eE))) (jR s0)) (pK s0))
def kH(s0:OA):WS:=(aT (bH (fO aD) (gN 3)) (pL s0))
theorem GF(B:Bl mg)(gW:Fn P w K mg base k "numbered" ["keys"] s0):oY P w K mg base k "with_name" ["first","net","other_net","keys","own","named"] fZ (kH s0):=by
 intro f cdv A outer s H E hr;have nd:=rS.nd;show jQ _ (_::_) _
 repeat' walk_at "g"
theorem pU:aV ["own","many","mark"] ["own"] (aG eW):=⟨rfl,rfl,rfl,by decide+kernel,rfl,by decide+kernel,by decide+kernel⟩
def mW:WS:=(QG (aU iR (K5 (aB 1) (aB 2) (wC (.int 0))) (wC (.int 1))) (aB 1) (aB 2))
def nM:WS:=(bX (tJ ["net","mark"] [1] (VP (aA (aB 0) aD)) (gT 2 (aQ (gN 0) (aQ (gN 1) eE))) (cU (aU JA (aU aCi (aB 2) (aB 1)) (wC (.int 1)))) (aB 0)))
def nN:WS:=(aT (lD (eU (aB 0)) (gN 2) (mW)) (nM))
def jB:WS:=(aT (bH (VQ false) (gN 1)) (nN))
theorem DG(B:Bl mg):oY P w K mg base k "nets_alike" ["own","many","mark"] eW (jB):=by
 intro f cdv A outer s H E hr;have nd:=pU.nd;show jQ _ (_::_) _
 repeat' walk_at "g"
theorem kW:aV ["told","net","other_net","rounds","marked"] ["told","net","other_net"] (aG cV):=⟨rfl,rfl,rfl,by decide+kernel,rfl,by decide+kernel,by decide+kernel⟩
def iU:WS:=(eS (cU (aU oNe (aU bO (aU bO (aB 4) (wC (.int 0))) (aB 1)) (aU bO (aU bO (aB 4) (wC (.int 1))) (aB 2)))) (bX (aB 3)) cB)
def jT:WS:=(bX (wC .bU))
def eI:WS:=(aT (lD (VP (aA (wSl oSl (aB 0) wNo (AR (wC (.int 2)))) aD)) (gT 2 (aQ (gN 3) (aQ (gN 4) eE))) (iU)) (jT))
theorem tV(B:Bl mg):oY P w K mg base k "rounds_to_part" ["told","net","other_net","rounds","marked"] cV (eI):=by
 intro f cdv A outer s H E hr;have nd:=kW.nd;show jQ _ (_::_) _
 repeat' walk_at "g"
theorem n9:aV ["one","other"] ["one","other"] (aG d5):=⟨rfl,rfl,rfl,by decide+kernel,rfl,by decide+kernel,by decide+kernel⟩
def g6:WS:=(bX (uQ (aU oEq (aU bO (aB 0) (wC (.int 0))) (aU bO (aB 1) (wC (.int 0)))) (aU oEq (aE gZ (aA (aU bO (aB 0) (wC (.int 2))) aD)) (aE gZ (aA (aU bO (aB 1) (wC (.int 2))) aD)))))
theorem zW(B:Bl mg):oY P w K mg base k "is_as_great" ["one","other"] d5 (g6):=by
 intro f cdv A outer s H E hr;have nd:=n9.nd;show jQ _ (_::_) _
 repeat' walk_at "g"
theorem xD:aV ["sides","told","last","alike","papers","net","paper"] ["sides","told"] (aG j5):=⟨rfl,rfl,rfl,by decide+kernel,rfl,by decide+kernel,by decide+kernel⟩
def nG(s0 s1 s2:OA):WS:=(eP (qF "list" bS (aB 4) (aA (aB 6) aD)))
def jS(s0 s1 s2:OA):WS:=(aT (eS (cU (aU oEq (aU bO (aB 6) (wC (.int 0))) (wC (.str "one")))) (bX (aB 6)) cB) (nG s0 s1 s2))
def rB(s0 s1 s2:OA):WS:=(aT (bH (aE s2 (aA (aB 0) (aA (aB 1) (aA (aU bO (aB 3) (wC (.int 0))) (aA (aB 5) aD))))) (gN 6)) (jS s0 s1 s2))
def uI(s0 s1 s2:OA):WS:=(bX (dB (aA (wC (.str "tries")) (aA (aU bO (aB 3) (wC (.int 0))) (aA (aE gH (aA (aB 4) aD)) aD)))))
def nH(s0 s1 s2:OA):WS:=(aT (lD (j3 (aA (aE gZ (aA (aU bO (aB 2) (wC (.int 1))) aD)) aD)) (gN 5) (rB s0 s1 s2)) (uI s0 s1 s2))
def uJ(s0 s1 s2:OA):WS:=(aT (bH (fO aD) (gN 4)) (nH s0 s1 s2))
def uK(s0 s1 s2:OA):WS:=(aT (eS (i6 (mP (aB 3))) (bX (dB (aA (wC (.str "one")) (aA (aE gH (aA (tJ ["mark"] [2] (eU (aU bO (aB 2) (wC (.int 0)))) (gN 0) lY (qF "tuple" JK (aU bO (aB 1) (wC (.int 1))) (aA (aB 0) aD))) aD)) aD)))) cB) (uJ s0 s1 s2))
def uL(s0 s1 s2:OA):WS:=(aT (bH (aE s1 (aA (aU bO (aB 2) (wC (.int 0))) aD)) (gN 3)) (uK s0 s1 s2))
def uM(s0 s1 s2:OA):WS:=(aT (eS (mP (aE s0 (aA (aB 2) aD))) (bX (dB (aA (wC (.str "marks")) (aA (aU N9 (aE gZ (aA (aB 1) aD)) (wC (.int 1))) aD)))) cB) (uL s0 s1 s2))
def oZ(s0 s1 s2:OA):WS:=(aT (bH (aU bO (aB 1) (VD zT (wC (.int 1)))) (gN 2)) (uM s0 s1 s2))
variable{s2:OA}
theorem OO(B:Bl mg)(eO:Fn P w K mg base k "are_parted" ["marked"] s0)(jK:Fn P w K mg base k "nets_alike" ["own"] s1)(MZ:Fn P w K mg base k "tried" ["sides","told","net","other_net"] s2):oY P w K mg base k "weighed" ["sides","told","last","alike","papers","net","paper"] j5 (oZ s0 s1 s2):=by
 intro f cdv A outer s H E hr;have nd:=xD.nd;show jQ _ (_::_) _
 repeat' walk_at "g"
theorem FI:aV ["sides","told","net","other_net","rounds"] ["sides","told","net","other_net"] (aG n6):=⟨rfl,rfl,rfl,by decide+kernel,rfl,by decide+kernel,by decide+kernel⟩
def AQ(s0 s1 s2 a:OA):WS:=(bX (aE s1 (aA (aB 0) (aA (aE s2 (aA (aB 0) (aA (aE a (aA (aU bO (aB 1) (wC (.int 0))) (aA (aB 2) (aA (aB 3) aD)))) aD))) aD))))
def tH(s0 s1 s2 a:OA):WS:=(aT (eS (cU (aU p6 (aB 4) (wC .bU))) (bX (dB (aA (wC (.str "marks")) (aA (aB 4) aD)))) cB) (AQ s0 s1 s2 a))
def vS(s0 s1 s2 a:OA):WS:=(aT (bH (aE s0 (aA (aB 1) (aA (aB 2) (aA (aB 3) aD)))) (gN 4)) (tH s0 s1 s2 a))
variable{s3:OA}
theorem YE(B:Bl mg)(l9:Fn P w K mg base k "rounds_to_part" ["told","net","other_net"] s0)(pA:Fn P w K mg base k "weighed" ["sides","told"] s1)(mS:Fn P w K mg base k "marks_on" ["sides","first"] s2)(vA:Fn P w K mg base k "with_name" ["first","net","other_net"] s3):oY P w K mg base k "tried" ["sides","told","net","other_net","rounds"] n6 (vS s0 s1 s2 s3):=by
 intro f cdv A outer s H E hr;have nd:=FI.nd;show jQ _ (_::_) _
 repeat' walk_at "g"
theorem LP:aV ["one","other","sides","told","paper"] ["one","other"] (aG rR):=⟨rfl,rfl,rfl,by decide+kernel,rfl,by decide+kernel,by decide+kernel⟩
def wO(s0 s1 s2 s3 a b c:OA):WS:=(bX (wIf (cU (aU oEq (aU bO (aB 4) (wC (.int 0))) (wC (.str "one")))) (aB 4) (dB (aA (wC (.str "two")) (aA (aB 4) aD)))))
def wQ(s0 s1 s2 s3 b c a:OA):WS:=(aT (bH (aE a (aA (aB 2) (aA (aB 3) aD))) (gN 4)) (wO s0 s1 s2 s3 b c a))
def E1(s0 s1 s2 s3 a b c:OA):WS:=(aT (eS (K7 (i6 (mP (aE a (aA (aU bO (aB 3) (VD zT (wC (.int 1)))) aD)))) (cU (aU JA (aE gZ (aA (aE b (aA (aU bO (aU bO (aB 3) (VD zT (wC (.int 1)))) (wC (.int 0))) aD)) aD)) (wC (.int 8))))) QH cB) (wQ s0 s1 s2 s3 a b c))
def E2(s0 s1 s2 s3 a b c:OA):WS:=(aT (bH (aE s2 (aA (aB 2) (aA (aE s3 (aA (aB 0) (aA (aB 1) aD))) aD))) (gN 3)) (E1 s0 s1 s2 s3 a b c))
def E3(s0 s1 s2 s3 a b c:OA):WS:=(aT (bH (aE s1 (aA (aB 0) (aA (aB 1) aD))) (gN 2)) (E2 s0 s1 s2 s3 a b c))
def B9(s0 s1 s2 s3 a b c:OA):WS:=(aT (eS (i6 (mP (aE s0 (aA (aB 0) (aA (aB 1) aD))))) (bX (dB (aA (wC (.str "two")) (aA (dB (aA (wC (.str "marks")) (aA (wC (.int 0)) aD))) aD)))) cB) (E3 s0 s1 s2 s3 a b c))
theorem aDl(B:Bl mg)(p9:Fn P w K mg base k "is_as_great" ["one","other"] s0)(yO:Fn P w K mg base k "sides_of" ["one","other"] s1)(mS:Fn P w K mg base k "marks_on" ["sides","first"] s2)(qA:Fn P w K mg base k "first_marks" ["one","other"] s3){s4:OA}(eO:Fn P w K mg base k "are_parted" ["marked"] s4){s5:OA}(jK:Fn P w K mg base k "nets_alike" ["own"] s5){s6:OA}(pA:Fn P w K mg base k "weighed" ["sides","told"] s6)(sY:tF K mg "MOST_ALIKE" (.int 8)):oY P w K mg base k "held" ["one","other","sides","told","paper"] rR (B9 s0 s1 s2 s3 s4 s5 s6):=by
 intro f cdv A outer s H E hr;have nd:=LP.nd;show jQ _ (_::_) _
 repeat' walk_at "g"
theorem uW:aV ["_law_script","_law_at","_law_cell","_law_mix","_law_k"] ["_law_script","_law_at"] (aG iG):=⟨rfl,rfl,rfl,by decide+kernel,rfl,by decide+kernel,by decide+kernel⟩
def pR:WS:=(bH (aU oMod (aU RS (aU iR (aU iR (aU xU (aB 3) (wC (.int 48271))) (aU oMod (aU bO (aB 0) (aB 4)) (wC (.int 2147483647)))) (aU xU (aB 4) (aB 4))) (wC (.int 5))) (wC (.int 2147483629))) (gN 3))
def rE:WS:=(bX (fO (aA (aB 2) (aA (aB 3) aD))))
def mM:WS:=(aT (eS (cU (aU oLt (aB 2) (aU RS (wC (.int 10)) (wC (.int 18))))) (bH (wC (.int 0)) (gN 2)) cB) (rE))
def rF:WS:=(aT (lD (j3 (aA (aE zH (aA (aE gZ (aA (aB 0) aD)) (aA (wC (.int 60)) aD))) aD)) (gN 4) (pR)) (mM))
def mN:WS:=(aT (bH (aU iR (aU iR (aU xU (aU xU (wC (.int 7919)) (aB 1)) (aB 1)) (aU xU (wC (.int 104729)) (aB 1))) (wC (.int 17))) (gN 3)) (rF))
def rG:WS:=(aT (eS (cU (aU oLt (aB 1) (aE gZ (aA (aB 0) aD)))) (bH (aE U8 (aA (aU bO (aB 0) (aB 1)) aD)) (gN 2)) cB) (mN))
def mO:WS:=(aT (bH (wC (.int 0)) (gN 2)) (rG))
theorem JQ(B:Bl mg):oY P w K mg base k "_law_bag" ["_law_script","_law_at","_law_cell","_law_mix","_law_k"] iG (mO):=by
 intro f cdv A outer s H E hr;have nd:=uW.nd;show jQ _ (_::_) _
 repeat' walk_at "g"
theorem rW:aV ["_law_bag_here","_law_many","_law_digit","_law_number_here","_law_room"] ["_law_bag_here","_law_many"] (aG f9):=⟨rfl,rfl,rfl,by decide+kernel,rfl,by decide+kernel,by decide+kernel⟩
def lQ:WS:=(bH (aU xU (aB 4) (wC (.int 1073741789))) (gN 4))
def lR:WS:=(aT (bH (aU iR (aU xU (aB 3) (wC (.int 1073741789))) (aU oMod (aU xU (aU LV (aU bO (aB 0) (wC (.int 1))) (wC (.int 8))) (wC (.int 69621))) (wC (.int 1073741789)))) (gN 3)) (lQ))
def nP:WS:=(aT (K0 (aU oMod (aU RS (aU iR (aU xU (aU bO (aB 0) (wC (.int 1))) (wC (.int 48271))) (wC (.int 7919))) (wC (.int 5))) (wC (.int 2147483629))) (aB 0) (wC (.int 1))) (lR))
def lC:WS:=(bX (aU oMod (aB 3) (aB 1)))
def pO:WS:=(aT (tI (cU (aU oLt (aB 4) (aB 1))) (nP)) (lC))
def pP:WS:=(aT (bH (wC (.int 1)) (gN 4)) (pO))
def pQ:WS:=(aT (bH (wC (.int 0)) (gN 3)) (pP))
def kM:WS:=(aT (eS (cU (aU JA (aU bO (aB 0) (wC (.int 0))) (wC (.int 0)))) (aT (bH (aU oMod (aU bO (aB 0) (wC (.int 0))) (aB 1)) (gN 2)) (aT (K0 (aU LV (aU bO (aB 0) (wC (.int 0))) (aB 1)) (aB 0) (wC (.int 0))) (bX (aB 2)))) cB) (pQ))
theorem GI(B:Bl mg):oY P w K mg base k "_law_take" ["_law_bag_here","_law_many","_law_digit","_law_number_here","_law_room"] f9 (kM):=by
 intro f cdv A outer s H E hr;have nd:=rW.nd;show jQ _ (_::_) _
 repeat' walk_at "g"
theorem oE:aV ["_law_thing"] ["_law_thing"] (aG d9):=⟨rfl,rfl,rfl,by decide+kernel,rfl,by decide+kernel,by decide+kernel⟩
def hC:WS:=(bX (uQ (aE vP (aA (aB 0) (aA (wC (.ty "int")) aD))) (K3 (aE vP (aA (aB 0) (aA (wC (.ty "bool")) aD))))))
theorem zZ(B:Bl mg):oY P w K mg base k "_law_number" ["_law_thing"] d9 (hC):=by
 intro f cdv A outer s H E hr;have nd:=oE.nd;show jQ _ (_::_) _
 repeat' walk_at "g"
theorem pZ:aV ["_law_bag_here","_law_many","_law_left","_law_found"] ["_law_bag_here","_law_many"] (aG e9):=⟨rfl,rfl,rfl,by decide+kernel,rfl,by decide+kernel,by decide+kernel⟩
def iQ(s0:OA):WS:=(eP (qF "list" bS (aB 3) (aA (qF "list" DC (aB 2) (aA (aE s0 (aA (aB 0) (aA (aE gZ (aA (aB 2) aD)) aD))) aD)) aD)))
def jY(s0:OA):WS:=(bX (aB 3))
def nW(s0:OA):WS:=(aT (tI (cU (aU JA (aE gZ (aA (aB 2) aD)) (wC (.int 0)))) (iQ s0)) (jY s0))
def nX(s0:OA):WS:=(aT (bH (fO aD) (gN 3)) (nW s0))
def jG(s0:OA):WS:=(aT (bH (nY (aA (aB 1) aD)) (gN 2)) (nX s0))
theorem DM(B:Bl mg)(fN:Fn P w K mg base k "_law_take" ["_law_bag_here","_law_many"] s0):oY P w K mg base k "_law_order" ["_law_bag_here","_law_many","_law_left","_law_found"] e9 (jG s0):=by
 intro f cdv A outer s H E hr;have nd:=pZ.nd;show jQ _ (_::_) _
 repeat' walk_at "g"
theorem nA:aV ["_law_some","_law_order_here","_law_names","_law_switches","_law_sort","_law_gate","_law_one","_law_other","_law_width","_law_length","_law_low","_law_high"] ["_law_some","_law_order_here"] (aG dP):=⟨rfl,rfl,rfl,by decide+kernel,rfl,by decide+kernel,by decide+kernel⟩
def iX:WS:=(eP (qF "list" bS (aB 3) (aA (dB (aA (aB 4) (aA (aU bO (aB 1) (aB 5)) (aA (aB 10) (aA (aB 11) (aA (aB 8) (aA (aB 9) aD))))))) aD)))
def kP:WS:=(aT (K6 (aE c5 (aA (fO (aA (aU bO (aB 1) (aB 6)) (aA (aU bO (aB 1) (aB 7)) aD))) aD)) 2 (aQ (gN 10) (aQ (gN 11) eE))) (iX))
def lT:WS:=(bX (dB (aA (aU bO (aB 0) (wC (.int 0))) (aA (aE gH (aA (aB 2) aD)) (aA (aE gH (aA (aE c5 (aA (aB 3) aD)) aD)) aD)))))
def lU:WS:=(aT (lD (eU (aU bO (aB 0) (wC (.int 2)))) (gT 6 (aQ (gN 4) (aQ (gN 5) (aQ (gN 6) (aQ (gN 7) (aQ (gN 8) (aQ (gN 9) eE))))))) (kP)) (lT))
def lV:WS:=(aT (bH (fO aD) (gN 3)) (lU))
def fS:WS:=(aT (bH (aE c5 (aA (tJ ["_law_name","_law_net"] [1] (eU (aU bO (aB 0) (wC (.int 1)))) (gT 2 (aQ (gN 0) (aQ (gN 1) eE))) lY (dB (aA (aB 0) (aA (aU bO (aB 2) (aB 1)) aD)))) aD)) (gN 2)) (lV))
theorem yD(B:Bl mg):oY P w K mg base k "_law_renamed" ["_law_some","_law_order_here","_law_names","_law_switches","_law_sort","_law_gate","_law_one","_law_other","_law_width","_law_length","_law_low","_law_high"] dP (fS):=by
 intro f cdv A outer s H E hr;have nd:=nA.nd;show jQ _ (_::_) _
 repeat' walk_at "g"
theorem pX:aV ["_law_wheels","_law_more","_law_many","_law_switches","_law_size","_law_k","_law_tips"] ["_law_wheels","_law_more"] (aG eZ):=⟨rfl,rfl,rfl,by decide+kernel,rfl,by decide+kernel,by decide+kernel⟩
def kN:WS:=(eP (qF "list" bS (aB 3) (aA (dB (aA (wC (.str "n")) (aA (wC (.int 0)) (aA (aU bO (aB 6) (wC (.int 0))) (aA (aU bO (aB 6) (wC (.int 1))) (aA (wC (.int 6)) (aA (wC (.int 2)) aD))))))) aD)))
def m4:WS:=(aT (bH (aE c5 (aA (fO (aA (aU iR (aB 2) (aB 5)) (aA (aU iR (aB 2) (aU oMod (aU iR (aB 5) (wC (.int 1))) (aB 4))) aD))) aD)) (gN 6)) (kN))
def kO:WS:=(bH (aU iR (aB 2) (aB 4)) (gN 2))
def m5:WS:=(aT (lD (j3 (aA (aB 4) aD)) (gN 5) (m4)) (kO))
def nS:WS:=(bX (dB (aA (aU iR (aB 2) (aB 1)) (aA (dB (aA (dB (aA (wC (.str "a")) (aA (wC (.int 0)) aD))) aD)) (aA (aE gH (aA (aE c5 (aA (aB 3) aD)) aD)) aD)))))
def nT:WS:=(aT (lD (eU (aB 0)) (gN 4) (m5)) (nS))
def nU:WS:=(aT (bH (fO aD) (gN 3)) (nT))
def jE:WS:=(aT (bH (wC (.int 1)) (gN 2)) (nU))
theorem DJ(B:Bl mg):oY P w K mg base k "_law_rings" ["_law_wheels","_law_more","_law_many","_law_switches","_law_size","_law_k","_law_tips"] eZ (jE):=by
 intro f cdv A outer s H E hr;have nd:=pX.nd;show jQ _ (_::_) _
 repeat' walk_at "g"
theorem pY:aV ["_law_bag_here","_law_total","_law_found","_law_part"] ["_law_bag_here","_law_total"] (aG e8):=⟨rfl,rfl,rfl,by decide+kernel,rfl,by decide+kernel,by decide+kernel⟩
def kR(s0:OA):WS:=(bH (aU N9 (aB 1) (aB 3)) (gN 1))
def fT(s0:OA):WS:=(aT (eP (qF "list" bS (aB 2) (aA (aB 3) aD))) (kR s0))
def kS(s0:OA):WS:=(aT (eS (cU (aU JA (aB 3) (aU N9 (aB 1) (wC (.int 2))))) (bH (aB 1) (gN 3)) cB) (fT s0))
def dM(s0:OA):WS:=(aT (bH (aU iR (wC (.int 2)) (aE s0 (aA (aB 0) (aA (aU N9 (aB 1) (wC (.int 1))) aD)))) (gN 3)) (kS s0))
def jX(s0:OA):WS:=(bX (aB 2))
def dA(s0:OA):WS:=(aT (eS (cU (aU JA (aB 1) (wC (.int 0)))) (eP (qF "list" bS (aB 2) (aA (aB 1) aD))) cB) (jX s0))
def nV(s0:OA):WS:=(aT (tI (cU (aU JA (aB 1) (wC (.int 3)))) (dM s0)) (dA s0))
def jF(s0:OA):WS:=(aT (bH (fO aD) (gN 2)) (nV s0))
theorem DL(B:Bl mg)(fN:Fn P w K mg base k "_law_take" ["_law_bag_here","_law_many"] s0):oY P w K mg base k "_law_parts" ["_law_bag_here","_law_total","_law_found","_law_part"] e8 (jF s0):=by
 intro f cdv A outer s H E hr;have nd:=pY.nd;show jQ _ (_::_) _
 repeat' walk_at "g"
theorem rV:aV ["_law_some","_law_net","_law_old","_law_found","_law_sort","_law_gate","_law_one","_law_other","_law_width","_law_length","_law_tips"] ["_law_some","_law_net","_law_old"] (aG f7):=⟨rfl,rfl,rfl,by decide+kernel,rfl,by decide+kernel,by decide+kernel⟩
def gQ:WS:=(eS (cU (aU oEq (aB 7) (aB 1))) (eP (qF "list" bS (aB 3) (aA (dB (aA (aB 4) (aA (aB 8) (aA (aB 9) (aA (wC (.str "end")) (aA (aU bO (aB 2) (aB 5)) (aA (aU bO (aB 2) (aB 6)) aD))))))) aD))) cB)
def gR:WS:=(aT (eS (cU (aU oEq (aB 6) (aB 1))) (eP (qF "list" bS (aB 3) (aA (dB (aA (aB 4) (aA (aB 8) (aA (aB 9) (aA (wC (.str "end")) (aA (aU bO (aB 2) (aB 5)) (aA (aU bO (aB 2) (aB 7)) aD))))))) aD))) cB) (gQ))
def lP:WS:=(aT (eS (cU (aU oEq (aB 5) (aB 1))) (eP (qF "list" bS (aB 3) (aA (dB (aA (aB 4) (aA (aB 8) (aA (aB 9) (aA (wC (.str "gate")) (aA (aE U5 (aA (aB 10) aD)) (aA (aE U6 (aA (aB 10) aD)) aD))))))) aD))) cB) (gR))
def nO:WS:=(aT (bH (fO (aA (aU bO (aB 2) (aB 6)) (aA (aU bO (aB 2) (aB 7)) aD))) (gN 10)) (lP))
def g8:WS:=(bX (aE c5 (aA (aB 3) aD)))
def pN:WS:=(aT (lD (eU (aU bO (aB 0) (wC (.int 2)))) (gT 6 (aQ (gN 4) (aQ (gN 5) (aQ (gN 6) (aQ (gN 7) (aQ (gN 8) (aQ (gN 9) eE))))))) (nO)) (g8))
def kL:WS:=(aT (bH (fO aD) (gN 3)) (pN))
theorem GH(B:Bl mg):oY P w K mg base k "_law_tell" ["_law_some","_law_net","_law_old","_law_found","_law_sort","_law_gate","_law_one","_law_other","_law_width","_law_length","_law_tips"] f7 (kL):=by
 intro f cdv A outer s H E hr;have nd:=rV.nd;show jQ _ (_::_) _
 repeat' walk_at "g"
theorem l6:aV ["_law_things","_law_cut","_law_first","_law_thing","_law_row"] ["_law_things","_law_cut"] (aG dC):=⟨rfl,rfl,rfl,by decide+kernel,rfl,by decide+kernel,by decide+kernel⟩
def jZ:WS:=(eS (cU (aU CW (aB 3) (aB 2))) (eP (qF "list" bS (aB 2) (aA (aB 3) aD))) cB)
def kT:WS:=(bX (dB (aA (wSl oSl (aB 4) wNo (AR (aB 1))) (aA (wSl oSl (aB 4) (AR (aB 1)) wNo) aD))))
def fU:WS:=(aT (bH (tJ ["_law_thing"] [2] (eU (aB 0)) (gN 0) lY (qF "list" vZ (aB 1) (aA (aB 0) aD))) (gN 4)) (kT))
def kU:WS:=(aT (lD (eU (aB 0)) (gN 3) (jZ)) (fU))
def fC:WS:=(aT (bH (fO aD) (gN 2)) (kU))
theorem vH(B:Bl mg):oY P w K mg base k "_law_numbered" ["_law_things","_law_cut","_law_first","_law_thing","_law_row"] dC (fC):=by
 intro f cdv A outer s H E hr;have nd:=l6.nd;show jQ _ (_::_) _
 repeat' walk_at "g"
theorem pW:aV ["_law_one","_law_other","_law_tries","_law_things","_law_which","_law_some","_law_net","_law_more"] ["_law_one","_law_other","_law_tries"] (aG eY):=⟨rfl,rfl,rfl,by decide+kernel,rfl,by decide+kernel,by decide+kernel⟩
def fR(s0:OA):WS:=(eP (qF "list" bS (aB 3) (aA (dB (aA (aE c5 (aA (tJ ["_law_name","_law_at"] [6] (eU (aU bO (aB 5) (wC (.int 1)))) (gT 2 (aQ (gN 0) (aQ (gN 1) eE))) (cU (aU oEq (aB 1) (aB 2))) (aB 0)) aD)) (aA (aB 7) aD))) aD)))
def mZ(s0:OA):WS:=(aT (bH (tJ ["_law_k"] [2,4,6] (j3 (aA (aE gZ (aA (aB 2) aD)) aD)) (gN 0) (cU (aU oEq (aU bO (aU bO (aB 1) (aB 0)) (aB 2)) (aB 3))) (aB 0)) (gN 7)) (fR s0))
def iO(s0:OA):WS:=(lD (j3 (aA (aU bO (aB 5) (wC (.int 0))) aD)) (gN 6) (mZ s0))
def nQ(s0:OA):WS:=(bX (aE s0 (aA (aB 3) (aA (aU bO (aB 0) (wC (.int 0))) aD))))
def nR(s0:OA):WS:=(aT (lD (VP (aA (fO (aA (aB 0) (aA (aB 1) aD))) aD)) (gT 2 (aQ (gN 4) (aQ (gN 5) eE))) (iO s0)) (nQ s0))
def jD(s0:OA):WS:=(aT (bH (fO aD) (gN 3)) (nR s0))
theorem DI(B:Bl mg)(fE:Fn P w K mg base k "_law_numbered" ["_law_things","_law_cut"] s0):oY P w K mg base k "_law_start" ["_law_one","_law_other","_law_tries","_law_things","_law_which","_law_some","_law_net","_law_more"] eY (jD s0):=by
 intro f cdv A outer s H E hr;have nd:=pW.nd;show jQ _ (_::_) _
 repeat' walk_at "g"
theorem nB:aV ["_law_one","_law_other","_law_duo","_law_things","_law_some","_law_old"] ["_law_one","_law_other","_law_duo"] (aG dQ):=⟨rfl,rfl,rfl,by decide+kernel,rfl,by decide+kernel,by decide+kernel⟩
def fV(s0 s1:OA):WS:=(eP (qF "list" x9 (aB 3) (aA (tJ ["_law_net"] [5,4] (j3 (aA (aU bO (aB 4) (wC (.int 0))) aD)) (gN 0) lY (dB (aA (aU bO (aB 1) (aB 0)) (aA (aE s0 (aA (aB 2) (aA (aB 0) (aA (aB 1) aD)))) aD)))) aD)))
def lW(s0 s1:OA):WS:=(bX (aE s1 (aA (aB 3) (aA (aU bO (aB 0) (wC (.int 0))) aD))))
def lX(s0 s1:OA):WS:=(aT (lD (wR (aA (fO (aA (aB 0) (aA (aB 1) aD))) (aA (aB 2) aD))) (gT 2 (aQ (gN 4) (aQ (gN 5) eE))) (fV s0 s1)) (lW s0 s1))
def fW(s0 s1:OA):WS:=(aT (bH (fO aD) (gN 3)) (lX s0 s1))
theorem yE(B:Bl mg)(vB:Fn P w K mg base k "_law_tell" ["_law_some","_law_net","_law_old"] s0)(fE:Fn P w K mg base k "_law_numbered" ["_law_things","_law_cut"] s1):oY P w K mg base k "_law_further" ["_law_one","_law_other","_law_duo","_law_things","_law_some","_law_old"] dQ (fW s0 s1):=by
 intro f cdv A outer s H E hr;have nd:=nB.nd;show jQ _ (_::_) _
 repeat' walk_at "g"
theorem oD:aV ["_law_one","_law_other","_law_tries","_law_duo","_law_rounds_here","_law_later"] ["_law_one","_law_other","_law_tries"] (aG d8):=⟨rfl,rfl,rfl,by decide+kernel,rfl,by decide+kernel,by decide+kernel⟩
def jU(s0 s1:OA):WS:=(bH (aB 5) (gN 3))
def jV(s0 s1:OA):WS:=(aT (eS (K7 (cU (aU xV (rH (aU iR (aU bO (aB 5) (wC (.int 0))) (aU bO (aB 5) (wC (.int 1))))) (rH (aU iR (aU bO (aB 3) (wC (.int 0))) (aU bO (aB 3) (wC (.int 1))))))) (cU (aU xV (aE c5 (aA (aU bO (aB 5) (wC (.int 0))) aD)) (aE c5 (aA (aU bO (aB 5) (wC (.int 1))) aD))))) (bX (dB (aA (wC .bU) (aA (aU bO (aB 5) (wC (.int 0))) aD)))) cB) (jU s0 s1))
def jW(s0 s1:OA):WS:=(aT (bH (aE s1 (aA (aB 0) (aA (aB 1) (aA (aB 3) aD)))) (gN 5)) (jV s0 s1))
def lS(s0 s1:OA):WS:=(aT (eS (cU (aU qN (aE c5 (aA (aU bO (aB 3) (wC (.int 0))) aD)) (aE c5 (aA (aU bO (aB 3) (wC (.int 1))) aD)))) (bX (dB (aA (aB 4) (aA (aU bO (aB 3) (wC (.int 0))) aD)))) cB) (jW s0 s1))
def vE(s0 s1:OA):WS:=(bX (dB (aA (wC .bU) (aA (aU bO (aB 3) (wC (.int 0))) aD))))
def iP(s0 s1:OA):WS:=(aT (lD (j3 (aA (aU iR (aU bO (aB 0) (wC (.int 0))) (wC (.int 1))) aD)) (gN 4) (lS s0 s1)) (vE s0 s1))
def m3(s0 s1:OA):WS:=(aT (eS (wV (cU (aU qN (aU bO (aB 0) (wC (.int 0))) (aU bO (aB 1) (wC (.int 0))))) (cU (aU qN (aE gZ (aA (aU bO (aB 0) (wC (.int 2))) aD)) (aE gZ (aA (aU bO (aB 1) (wC (.int 2))) aD))))) (bX (dB (aA (wC (.int 0)) (aA (aU bO (aB 3) (wC (.int 0))) aD)))) cB) (iP s0 s1))
def g9(s0 s1:OA):WS:=(aT (bH (aE s0 (aA (aB 0) (aA (aB 1) (aA (aB 2) aD)))) (gN 3)) (m3 s0 s1))
theorem zY(B:Bl mg)(sS:Fn P w K mg base k "_law_start" ["_law_one","_law_other","_law_tries"] s0)(oV:Fn P w K mg base k "_law_further" ["_law_one","_law_other","_law_duo"] s1):oY P w K mg base k "_law_rounds" ["_law_one","_law_other","_law_tries","_law_duo","_law_rounds_here","_law_later"] d8 (g9 s0 s1):=by
 intro f cdv A outer s H E hr;have nd:=oD.nd;show jQ _ (_::_) _
 repeat' walk_at "g"
theorem rT:aV ["_law_thing","_law_word_here","_law_many"] ["_law_thing","_law_word_here","_law_many"] (aG f6):=⟨rfl,rfl,rfl,by decide+kernel,rfl,by decide+kernel,by decide+kernel⟩
def pM:WS:=(bX (aU oEq (aU bO (aB 0) (wC (.int 0))) (aB 1)))
def kK:WS:=(aT (eS (wV (i6 (mP (aE vP (aA (aB 0) (aA (wC (.ty "tuple")) aD))))) (wV (cU (aU oNe (aE gZ (aA (aB 0) aD)) (aB 2))) (i6 (mP (aE vP (aA (aU bO (aB 0) (wC (.int 0))) (aA (wC (.ty "str")) aD))))))) (bX (wC (.bl false))) cB) (pM))
theorem GG(B:Bl mg):oY P w K mg base k "_law_word" ["_law_thing","_law_word_here","_law_many"] f6 (kK):=by
 intro f cdv A outer s H E hr;have nd:=rT.nd;show jQ _ (_::_) _
 repeat' walk_at "g"
theorem j7:aV ["_law_one","_law_other","_law_tries","_law_paper","_law_rounds_here","_law_first","_law_alike","_law_there","_law_more"] ["_law_one","_law_other","_law_tries","_law_paper"] (aG cO):=⟨rfl,rfl,rfl,by decide+kernel,rfl,by decide+kernel,by decide+kernel⟩
def hZ(s0 s1 s2 s3:OA):WS:=(eS (i6 (mP (aE s3 (aA (aB 0) (aA (aB 1) (aA (aU iR (aB 2) (fO (aA (dB (aA (aU bO (aB 6) (wC (.int 0))) (aA (aB 7) aD))) aD))) (aA (aB 8) aD))))))) (bX (wC (.bl false))) cB)
def iY(s0 s1 s2 s3:OA):WS:=(bX (wC (.bl true)))
def eR(s0 s1 s2 s3:OA):WS:=(aT (lD (VP (aA (aU bO (aB 3) (wC (.int 2))) aD)) (gT 2 (aQ (gN 7) (aQ (gN 8) eE))) (hZ s0 s1 s2 s3)) (iY s0 s1 s2 s3))
def iZ(s0 s1 s2 s3:OA):WS:=(aT (eS (wV (cU (aU qN (aU bO (aB 3) (wC (.int 1))) (aU bO (aB 6) (wC (.int 0))))) (wV (i6 (mP (aE vP (aA (aU bO (aB 3) (wC (.int 2))) (aA (wC (.ty "tuple")) aD))))) (cU (aU qN (aE gZ (aA (aU bO (aB 3) (wC (.int 2))) aD)) (aU bO (aB 1) (wC (.int 0))))))) (bX (wC (.bl false))) cB) (eR s0 s1 s2 s3))
def i4(s0 s1 s2 s3:OA):WS:=(aT (eS (wV (cU (aU xV (aB 6) (fO aD))) (wV (i6 (mP (aE s1 (aA (aB 3) (aA (wC (.str "tries")) (aA (wC (.int 3)) aD)))))) (i6 (mP (aE s2 (aA (aU bO (aB 3) (wC (.int 1))) aD)))))) (bX (wC (.bl false))) cB) (iZ s0 s1 s2 s3))
def i5(s0 s1 s2 s3:OA):WS:=(aT (bH (tJ ["_law_net"] [5] (j3 (aA (aU bO (aB 0) (wC (.int 0))) aD)) (gN 0) (cU (aU JA (qF "list" DD (aB 1) (aA (aU bO (aB 1) (aB 0)) aD)) (wC (.int 1)))) (aB 0)) (gN 6)) (i4 s0 s1 s2 s3))
def c8(s0 s1 s2 s3:OA):WS:=(aT (eS (cU (aU p6 (aB 4) (wC .bU))) (bX (uQ (aE s1 (aA (aB 3) (aA (wC (.str "marks")) (aA (wC (.int 2)) aD)))) (uQ (aE s2 (aA (aU bO (aB 3) (wC (.int 1))) aD)) (aU xV (aU bO (aB 3) (wC (.int 1))) (aB 4))))) cB) (i5 s0 s1 s2 s3))
def dW(s0 s1 s2 s3:OA):WS:=(aT (bH (aE s0 (aA (aB 0) (aA (aB 1) (aA (aB 2) aD)))) (gT 2 (aQ (gN 4) (aQ (gN 5) eE)))) (c8 s0 s1 s2 s3))
theorem sJ(B:Bl mg)(qB:Fn P w K mg base k "_law_rounds" ["_law_one","_law_other","_law_tries"] s0)(k9:Fn P w K mg base k "_law_word" ["_law_thing","_law_word_here","_law_many"] s1)(hU:Fn P w K mg base k "_law_number" ["_law_thing"] s2)(dY:Fn P w K mg base k "_law_part_right" ["_law_one","_law_other","_law_tries","_law_paper"] s3):oY P w K mg base k "_law_part_right" ["_law_one","_law_other","_law_tries","_law_paper","_law_rounds_here","_law_first","_law_alike","_law_there","_law_more"] cO (dW s0 s1 s2 s3):=by
 intro f cdv A outer s H E hr;have nd:=j7.nd;show jQ _ (_::_) _
 repeat' walk_at "g"
theorem i7:aV ["_law_one","_law_other","_law_paper","_law_order_here"] ["_law_one","_law_other","_law_paper"] (aG cD):=⟨rfl,rfl,rfl,by decide+kernel,rfl,by decide+kernel,by decide+kernel⟩
def h9(s0 s1 s2 s3:OA):WS:=(bX (uQ (aE s0 (aA (aB 2) (aA (wC (.str "two")) (aA (wC (.int 2)) aD)))) (aE s3 (aA (aB 0) (aA (aB 1) (aA (fO aD) (aA (aU bO (aB 2) (wC (.int 1))) aD)))))))
def cM(s0 s1 s2 s3:OA):WS:=(aT (eS (mP (aE s0 (aA (aB 2) (aA (wC (.str "one")) (aA (wC (.int 2)) aD))))) (aT (bH (aU bO (aB 2) (wC (.int 1))) (gN 3)) (aT (eS (wV (i6 (mP (aE vP (aA (aB 3) (aA (wC (.ty "tuple")) aD))))) (i6 (mP (aE U7 (aA (tJ ["_law_net"] [] (eU (aB 3)) (gN 0) lY (aE s1 (aA (aB 0) aD))) aD))))) (bX (wC (.bl false))) cB) (aT (eS (wV (cU (aU qN (aU bO (aB 0) (wC (.int 0))) (aU bO (aB 1) (wC (.int 0))))) (cU (aU qN (aE oX (aA (aB 3) aD)) (nY (aA (aU bO (aB 0) (wC (.int 0))) aD))))) (bX (wC (.bl false))) cB) (bX (aU xV (aE s2 (aA (aB 0) (aA (aB 3) aD))) (aB 1)))))) cB) (h9 s0 s1 s2 s3))
theorem qQ(B:Bl mg)(k9:Fn P w K mg base k "_law_word" ["_law_thing","_law_word_here","_law_many"] s0)(hU:Fn P w K mg base k "_law_number" ["_law_thing"] s1)(gG:Fn P w K mg base k "_law_renamed" ["_law_some","_law_order_here"] s2)(dY:Fn P w K mg base k "_law_part_right" ["_law_one","_law_other","_law_tries","_law_paper"] s3):oY P w K mg base k "_law_paper_right" ["_law_one","_law_other","_law_paper","_law_order_here"] cD (cM s0 s1 s2 s3):=by
 intro f cdv A outer s H E hr;have nd:=i7.nd;show jQ _ (_::_) _
 repeat' walk_at "g"
theorem QS:aV ["_law_script","_law_k","_law_bag_here","_law_total","_law_more","_law_wheels","_law_one","_law_other","_law_paper"] ["_law_script"] (aG w8):=⟨rfl,rfl,rfl,by decide+kernel,rfl,by decide+kernel,by decide+kernel⟩
def uP(s0 s1 s2 s3 a b c d:OA):WS:=(eS (cU (aU qN (aU oEq (aU bO (aB 8) (wC (.int 0))) (wC (.str "one"))) (aU xV (aE c5 (aA (aU bO (aB 5) (wC (.int 0))) aD)) (aE c5 (aA (aU bO (aB 5) (wC (.int 1))) aD))))) (bX (wC (.bl false))) cB)
def wH(s0 s1 s2 s3 b c d a:OA):WS:=(aT (eS (i6 (mP (aE a (aA (aB 6) (aA (aB 7) (aA (aB 8) aD)))))) (bX (wC (.bl false))) cB) (uP s0 s1 s2 s3 b c d a))
def wI(s0 s1 s2 s3 b c a d:OA):WS:=(aT (bH (aE a (aA (aB 6) (aA (aB 7) aD))) (gN 8)) (wH s0 s1 s2 s3 b c a d))
def wJ(s0 s1 s2 s3 a b c d:OA):WS:=(aT (bH (aE a (aA (aB 7) (aA (aE b (aA (aB 2) (aA (aU bO (aB 7) (wC (.int 0))) aD))) aD))) (gN 7)) (wI s0 s1 s2 s3 a b c d))
def qD(s0 s1 s2 s3 a b c d:OA):WS:=(aT (bH (aE a (aA (aB 6) (aA (aE b (aA (aB 2) (aA (aU bO (aB 6) (wC (.int 0))) aD))) aD))) (gN 6)) (wJ s0 s1 s2 s3 a b c d))
def wK(s0 s1 s2 s3 a b c d:OA):WS:=(aT (bH (aE s3 (aA (aU bO (aB 5) (wC (.int 1))) (aA (aB 4) aD))) (gN 7)) (qD s0 s1 s2 s3 a b c d))
def wL(s0 s1 s2 s3 a b c d:OA):WS:=(aT (bH (aE s3 (aA (aU bO (aB 5) (wC (.int 0))) (aA (aB 4) aD))) (gN 6)) (wK s0 s1 s2 s3 a b c d))
def wM(s0 s1 s2 s3 a b c d:OA):WS:=(aT (bH (fO (aA (aE s2 (aA (aB 2) (aA (aB 3) aD))) (aA (aE s2 (aA (aB 2) (aA (aB 3) aD))) aD))) (gN 5)) (wL s0 s1 s2 s3 a b c d))
def qE(s0 s1 s2 s3 a b c d:OA):WS:=(aT (bH (aE s1 (aA (aB 2) (aA (wC (.int 2)) aD))) (gN 4)) (wM s0 s1 s2 s3 a b c d))
def wN(s0 s1 s2 s3 a b c d:OA):WS:=(aT (bH (aU iR (wC (.int 4)) (aE s1 (aA (aB 2) (aA (aU bO (fO (aA (wC (.int 3)) (aA (wC (.int 4)) aD))) (aE aF9 (aA (aU oEq (aB 1) (wC (.int 0))) aD))) aD)))) (gN 3)) (qE s0 s1 s2 s3 a b c d))
def EZ(s0 s1 s2 s3 a b c d:OA):WS:=(aT (bH (aE s0 (aA (aB 0) (aA (aB 1) aD))) (gN 2)) (wN s0 s1 s2 s3 a b c d))
def KY(s0 s1 s2 s3 a b c d:OA):WS:=(bX (wC (.bl true)))
def KZ(s0 s1 s2 s3 a b c d:OA):WS:=(aT (lD (j3 (aA (aU iR (aE zH (aA (wC (.int 2)) (aA (aE gZ (aA (aB 0) aD)) aD))) (wC (.int 1))) aD)) (gN 1) (EZ s0 s1 s2 s3 a b c d)) (KY s0 s1 s2 s3 a b c d))
theorem aHz(B:Bl mg)(yP:Fn P w K mg base k "_law_bag" ["_law_script","_law_at"] s0)(fN:Fn P w K mg base k "_law_take" ["_law_bag_here","_law_many"] s1)(sU:Fn P w K mg base k "_law_parts" ["_law_bag_here","_law_total"] s2)(sT:Fn P w K mg base k "_law_rings" ["_law_wheels","_law_more"] s3){s4:OA}(gG:Fn P w K mg base k "_law_renamed" ["_law_some","_law_order_here"] s4){s5:OA}(sV:Fn P w K mg base k "_law_order" ["_law_bag_here","_law_many"] s5){s6:OA}(UD:Fn P w K mg base k "held" ["one","other"] s6){s7:OA}(kA:Fn P w K mg base k "_law_paper_right" ["_law_one","_law_other","_law_paper"] s7):oY P w K mg base k "law" ["_law_script","_law_k","_law_bag_here","_law_total","_law_more","_law_wheels","_law_one","_law_other","_law_paper"] w8 (KZ s0 s1 s2 s3 s4 s5 s6 s7):=by
 intro f cdv A outer s H E hr;have nd:=QS.nd;show jQ _ (_::_) _
 repeat' walk_at "g"
end
theorem aI1:OT 2 0=some 0:=by decide
theorem aI0:OT 2 1=some 1:=by decide
theorem pJ(d e:D)(ds:List D):fI (d::e::ds) 1=some e:=by
 have:=dI (xs:=d::e::ds) (j:=1) (v:=e) rfl;simpa using this
theorem y3{i j:Int}(a: -18446744073709551616<j)(b:j<18446744073709551616):P5 i j:= .inr ⟨a,b⟩
theorem aAi{i j:Int}(a: -18446744073709551616<i)(b:i<18446744073709551616):P5 i j:= .inl ⟨a,b⟩
theorem aEs{i:Int}{j:Int}(h0:0<=j)(a:j<=1000000)(b: -18446744073709551616<i)(c:i<18446744073709551616):aFd i j:=⟨h0,a,by omega⟩
abbrev En(mh:MH)(R:DK):iL:={nx:=λ_ a=>Out mh.length .bU a R,rt:=λd a=>Out mh.length d a R}
theorem aEa(ds:List D)(mh:MH)(R:DK)(ok:iT mh)(s:fA ds mh R):kM (En mh R) (aJ ["_law_bag_here","_law_many","_law_digit","_law_number_here","_law_room"] ds) mh:=by
 obtain⟨b,a,rfl,A,B,⟨c,m,h,p,j,k⟩,q⟩:=s;have f:b<mh.length:=(aM6.mp h).1
 have g:∀(r n l :Int),0<=r->r<a->0<=n ->0<=l ->l<2147483629->Out mh.length (.int r) (mh.set b (.lst [.int n,.int l])) R:=λr n l t u v w a5=>
  bT (q r _ t u ⟨⟨n,l,by simp[f],v,w,a5⟩,_,rfl⟩)
 simp[kM,pQ,pP,pO,aJ,cE h,QV h,aI1];by_cases h0:0<c
 ·rw[if_pos h0];exact⟨by omega,⟨by omega,by omega⟩,g _ _ _ (aOp _ (by omega)) (aO3 _ (by omega)) (Int.ediv_nonneg (by omega) (by omega)) j k⟩
 ·rw[if_neg h0];refine mI 2 ?_;by_cases d:1<a
  ·have x:0<=(m*48271+7919)^5 % 2147483629:=aOp _ (by omega);have y:(m*48271+7919)^5 % 2147483629<2147483629:=aO3 _ (by omega);simp[eQ,nP,lR,lQ,lC,d,cE h,QV h,aI0,pJ];refine⟨y3 (by omega) (by omega),aEs (by omega) (by omega) (by omega) (by omega),?_⟩;have o:(mh.set b (.lst [.int c,.int ((m*48271+7919)^5 % 2147483629)]))[b]? =some (.lst [.int c,.int ((m*48271+7919)^5 % 2147483629)]):=by simp[f]
   simp only[cE o,pJ,aH,QX,xF];refine⟨y3 (by omega) (by omega),⟨by omega,by omega⟩,y3 (by omega) (by omega),by omega,y3 (by omega) (by omega),?_⟩;simp;rw[if_neg (by omega)];exact⟨by omega,g _ _ _ (aOp _ (by omega)) (aO3 _ (by omega)) p x y⟩
  ·simp[eQ,d,lC];have e:a=1:=by omega
   subst e;refine⟨by omega,?_⟩
   have z:mh.set b (.lst [.int c,.int m])=mh:=by
    apply aP2;intro i;by_cases hi:i=b
    ·subst hi;rw[List.getElem?_set_self f,h]
    ·rw[List.getElem?_set_ne (Ne.symm hi)]
   have:=g 0 c m (by omega) (by omega) p j k;rw[z]at this;exact this
variable{ns:List Int}
theorem HR{i:Int}(h0:0<=i)(a:i<ns.length):∃v,fI (ns.map D.int) i=some (.int v):=by
 refine⟨ns[i.toNat]'(by omega),?_⟩;have e:i=((i.toNat:Nat):Int):=by omega
 have:=dI (xs:=ns.map D.int) (j:=i.toNat) (v:= .int (ns[i.toNat]'(by omega))) (by rw[List.getElem?_map,List.getElem?_eq_getElem (by omega)];rfl);rw[<-e]at this;exact this
variable{mh:MH}{R:DK}
theorem aEe{a c m:Int}{k:Option D}(q:∀mh',(∃o,mh' =mh++[o])->HY mh' mh.length->R (.ref mh.length) mh')(d:0<=c)(e:0<=m)(f:m<2147483629):
  mM (En mh R) [some (.fl (ns.map .int)),some (.int a),some (.int c),some (.int m),k] mh:=by
 have b:∀c,0<=c->Out mh.length (.ref mh.length) (mh++[.lst [.int c,.int m]]) R:=λc g=>bT (q _ ⟨_,rfl⟩ ⟨c,m,by simp,g,e,f⟩);simp[mM,rE];refine⟨aEs (by omega) (by omega) (by omega) (by omega),?_⟩;split
 ·exact⟨by rw[sizeLine_eq];omega,b 0 (by omega)⟩
 ·exact⟨by rw[sizeLine_eq];omega,b c d⟩
theorem TV{a c:Int}(s:ns.length<=63)(b:0<=a)(f:a<=100)(q:∀mh',(∃o,mh' =mh++[o])->HY mh' mh.length->R (.ref mh.length) mh')(j:0<=c):
  mN (En mh R) [some (.fl (ns.map .int)),some (.int a),some (.int c),none,none] mh:=by
 have l:7919*a*a<=79190000:=by
  have:a*a<=100*100:=Int.mul_le_mul f f b (by omega);have e:7919*a*a=7919*(a*a):=Int.mul_assoc _ _ _;omega
 have n:0<=7919*a*a:=Int.mul_nonneg (by omega) b;simp[mN,rF];refine⟨aAi (by omega) (by omega),y3 (by omega) (by omega),aAi (by omega) (by omega),?_,?_,?_⟩
 ·split <;> omega
 ·split <;> (rw[sizeLine_eq];omega)
 ·refine cQ (λi g mh' =>mh' =mh/\∃m k,g=[some (.fl (ns.map .int)),some (.int a),some (.int c),some (.int m),k]/\0<=m/\m<2147483629) _ (λ_ _ _ _=>trivial) ?_ ?_ ⟨rfl,_,_,rfl,by omega,by omega⟩
  ·rintro i d g mh' N hi ⟨rfl,m,k,rfl,m0,m1⟩ nx;obtain⟨hi,rfl⟩:=jI hi
   have p:i<ns.length:=by
    revert hi;split <;> intro hi <;> omega
   have h:i<60:=by
    revert hi;split <;> intro hi <;> omega
   obtain⟨v,r⟩:=HR (ns:=ns) (i:=0+(i:Int)) (by omega) (by omega);have t:0<=v % 2147483647:=aOp _ (by omega);have u:v % 2147483647<2147483647:=aO3 _ (by omega);have w:0<=(0+(i:Int))*(0+(i:Int)):=Int.mul_nonneg (by omega) (by omega);have k1:(0+(i:Int))*(0+(i:Int))<=60*60:=Int.mul_le_mul (by omega) (by omega) (by omega) (by omega);simp only[aKo,pR,aGl,aKc,s_c,aGd,List.set_cons_succ,List.set_cons_zero,List.getElem?_cons_succ,List.getElem?_cons_zero,Option.join_some,aH,QX,xF,aGh,r];refine⟨y3 (by omega) (by omega),by omega,y3 (by omega) (by omega),aEs (by omega) (by omega) (by omega) (by omega),by omega,nx _ _ ⟨rfl,_,_,rfl,aOp _ (by omega),aO3 _ (by omega)⟩⟩
  ·rintro g mh' ⟨rfl,m,k,rfl,m0,m1⟩;exact aEe q j m0 m1
theorem aIa(ds:List D)(mh:MH)(R:DK)(ok:iT mh)(e:IP ds mh R):mO (En mh R) (aJ ["_law_script","_law_at","_law_cell","_law_mix","_law_k"] ds) mh:=by
 obtain⟨ns,a,rfl,d,b,c,q⟩:=e;simp[mO,rG,aJ];split
 ·rename_i hlt;obtain⟨v,f⟩:=HR (ns:=ns) (i:=a) b hlt;simp[f];exact TV d b c q (by split <;> omega)
 ·exact TV d b c q (by omega)
open Classical in
noncomputable def u4(us:List D)(d:D):Nat:=us.findIdx λx=>decide (x=d)
open Classical in
noncomputable def aN(us:List D)(d:D):List D:=if d∈us then us else us++[d]
noncomputable def aF:List D->List D->List Nat
 | _,[]=>[]
 | us,d::l=>u4 (aN us d) d::aF (aN us d) l
variable{us:List D}{d:D}
theorem iC(h:d∈us):aN us d=us:=by unfold aN;rw[if_pos h]
theorem fJ(h:d∉us):aN us d=us++[d]:=by unfold aN;rw[if_neg h]
theorem tT{d e:D}:e∈aN us d↔e∈us\/e=d:=by
 by_cases h:d∈us
 ·rw[iC h];exact⟨.inl,λz=>z.elim id λz=>z▸h⟩
 ·rw[fJ h];simp
theorem YJ{us t:List D}(h:d∈us):u4 (us++t) d=u4 us d:=by
 unfold u4;rw[List.findIdx_append];rw[if_pos (List.findIdx_lt_length.mpr ⟨d,h,by simp⟩)]
theorem NT(us:List D)(d:D):∃t,aN us d=us++t:=by
 by_cases h:d∈us
 ·exact⟨[],by rw[iC h];simp⟩
 ·exact⟨[d],fJ h⟩
theorem GV:∀(l us:List D),∃t,l.foldl aN us=us++t
 | [],us=>⟨[],by simp⟩
 | d::l,us=>by
  obtain⟨t,ht⟩:=NT us d;obtain⟨t',a⟩:=GV l (aN us d);exact⟨t++t',by rw[List.foldl_cons,a,ht];simp⟩
theorem r9:∀(l us:List D),l.map (u4 (l.foldl aN us))=aF us l
 | [],us=>rfl
 | d::l,us=>by
  rw[List.foldl_cons,List.map_cons,r9 l (aN us d)];obtain⟨t,ht⟩:=GV l (aN us d);simp only[aF];rw[ht,YJ (tT.mpr (.inr rfl))]
theorem aP:∀(l us:List D),(aF us l).length=l.length
 | [],us=>rfl
 | d::l,us=>by simp[aF,aP l]
theorem cK:∀(l m us:List D),aF us (l++m)=aF us l++aF (l.foldl aN us) m
 | [],m,us=>rfl
 | d::l,m,us=>by simp[aF,cK l m]
theorem o5:∀(L U:List (D×D)),(∀p∈U++L,∀q∈U++L,p.1=q.1↔p.2=q.2)->aF (U.map (·.1)) (L.map (·.1))=aF (U.map (·.2)) (L.map (·.2))
 | [],U,_=>rfl
 | p::L,U,h=>by
  have f:p∈U++p::L:=by simp
  have hm:p.1∈U.map (·.1)↔p.2∈U.map (·.2):=by
   simp only[List.mem_map];constructor
   ·rintro⟨q,a,e⟩;exact⟨q,a,(h q (aNu _ a) p f).mp e⟩
   ·rintro⟨q,a,e⟩;exact⟨q,a,(h q (aNu _ a) p f).mpr e⟩
  have c:∀V:List (D×D),(∀q∈V,q∈U++p::L)->u4 (V.map (·.1)) p.1=u4 (V.map (·.2)) p.2:=λV g=>by
   induction V with
   | nil=>rfl
   | cons q V ih=>
    have a:=h q (g q aM8) p f;have:=ih λr d=>g r (aM9 _ d);unfold u4 at*;simp only[List.map_cons,List.findIdx_cons];by_cases e:q.1=p.1
    ·simp[e,a.mp e]
    ·have i :¬q.2=p.2:=λz=>e (a.mpr z);simp only[e,i,decide_false,cond_false,this]
  simp only[List.map_cons,aF];by_cases b:p.1∈U.map (·.1)
  ·rw[iC b,iC (hm.mp b),c U λq a=>List.mem_append_left _ a];rw[o5 L U λq a r d=>h q (by rcases List.mem_append.mp a with z | z <;> simp[z]) r (by rcases List.mem_append.mp d with z | z <;> simp[z])]
  ·rw[fJ b,fJ λz=>b (hm.mpr z)];have j:U.map (·.1)++[p.1]=(U++[p]).map (·.1):=by simp
   have k:U.map (·.2)++[p.2]=(U++[p]).map (·.2):=by simp
   rw[j,k,c (U++[p]) (λq a=>by rcases List.mem_append.mp a with z | z <;> simp_all),o5 L (U++[p]) λq a r d=>h q (by simpa using a) r (by simpa using d)]
mutual
def cY:D->Bool
 | .int _=>true
 | .str _=>true
 | .tup ds=>dX ds
 | .fl ds=>dX ds
 | _=>false
def dX:List D->Bool
 | []=>true
 | d::ds=>cY d && dX ds
end
mutual
theorem k6:∀(d e:D),cY d=true->cY e=true->(dD d e=true↔d=e)
 | .int i,e,_,h2=>by cases e <;> simp[cY]at h2 <;> simp[dD]
 | .str x,e,_,h2=>by cases e <;> simp[cY]at h2 <;> simp[dD]
 | .tup ds,e,h1,h2=>by
  cases e with
  | tup es=>simp only[dD,D.tup.injEq];exact sP ds es (by simpa only[cY] using h1) (by simpa only[cY] using h2)
  | int i=>simp[dD]
  | str x=>simp[dD]
  | fl x=>simp[dD]
  | _=>simp[cY]at h2
 | .fl ds,e,h1,h2=>by
  cases e with
  | fl es=>simp only[dD,D.fl.injEq];exact sP ds es (by simpa only[cY] using h1) (by simpa only[cY] using h2)
  | int i=>simp[dD]
  | str x=>simp[dD]
  | tup x=>simp[dD]
  | _=>simp[cY]at h2
 | .bU,e,h1,_=>by simp[cY]at h1
 | .bl _,e,h1,_=>by simp[cY]at h1
 | .ty _,e,h1,_=>by simp[cY]at h1
 | .ref _,e,h1,_=>by simp[cY]at h1
theorem sP:∀(ds es:List D),dX ds=true->dX es=true->(dH ds es=true↔ds=es)
 | [],es,_,_=>by cases es <;> simp[dH]
 | d::ds,[],_,_=>by simp[dH]
 | d::ds,e::es,h1,h2=>by
  simp only[dX,Bool.and_eq_true]at h1 h2;simp only[dH,Bool.and_eq_true,List.cons.injEq];rw[k6 d e h1.1 h2.1,sP ds es h1.2 h2.2]
end
mutual
theorem eN:∀{d:D},cY d=true->bare d=true
 | .int _,_=>rfl
 | .str _,_=>rfl
 | .tup ds,h=>by show cT ds=true;exact iK (by simpa only[cY] using h)
 | .fl ds,h=>by show cT ds=true;exact iK (by simpa only[cY] using h)
 | .bU,h=>by simp[cY]at h
 | .bl _,h=>by simp[cY]at h
 | .ty _,h=>by simp[cY]at h
 | .ref _,h=>by simp[cY]at h
theorem iK:∀{ds:List D},dX ds=true->cT ds=true
 | [],_=>rfl
 | d::ds,h=>by
  simp only[dX,Bool.and_eq_true]at h;simp only[cT,eN h.1,iK h.2,Bool.and_self]
end
def MD(k:Nat):List D->List (D×D)
 | []=>[]
 | d::us=>(d,.int (k:Nat))::MD (k+1) us
theorem l7:∀(k:Nat) (us:List D),(MD k us).map (·.1)=us
 | _,[]=>rfl
 | k,d::us=>by simp[MD,l7 (k+1) us]
theorem MC:∀(k:Nat) (us:List D) (d:D),MD k (us++[d])=MD k us++[(d,.int ((k+us.length:Nat):Int))]
 | k,[],d=>by simp[MD]
 | k,e::us,d=>by
  simp only[List.cons_append,MD,MC (k+1) us d,List.length_cons];rw[show k+1+us.length=k+(us.length+1) by lia]
theorem DO(k:Nat)(us:List D):(MD k us).length=us.length:=by
 have:=aN5 List.length (l7 k us);simpa using this
theorem YH(h:d∉us):u4 (us++[d]) d=us.length:=by
 have e:us.findIdx (λx=>@decide (x=d) (Classical.propDecidable _))=us.length:=List.findIdx_eq_length.mpr λx a=>by
  have:¬x=d:=λz=>h (z▸a);simp[this]
 unfold u4;rw[List.findIdx_append,e,if_neg (Nat.lt_irrefl _)];simp[List.findIdx_cons]
theorem MB:∀{k:Nat} {us:List D} {p:D×D},us.Nodup->p∈MD k us->p.2= .int ((k+u4 us p.1:Nat):Int)
 | _,[],p,_,h=>by simp[MD]at h
 | k,d::us,p,nd,h=>by
  have a :=aO4.mp nd;unfold u4;rw[List.findIdx_cons];rcases aMf.mp h with rfl | h
  ·simp
  ·have c:p.1∈us:=by rw[<-l7 (k+1) us];exact aN6 h
   have b:¬d=p.1:=λz=>a.1 (z▸c);have:=MB a.2 h;unfold u4 at this;simp only[b,decide_false,cond_false];rw[this];congr 1
   lia
def Ky(d:D):Prop:=∃es,d= .tup es/\gd d=true/\deep d<=8
structure DS(mh M:MH)(us:List D):Prop where
 px:aR mh M
 at_:M[mh.length]? =some (PF (MD 0 us))
 nd:us.Nodup
 ky:∀d∈us,Ky d
def aC(l:List Nat):List D:=l.map λn=>.int (n:Nat)
def p5:OA:=λds mh Q=>∃(r a b:Nat) (k1 k2:List D),ds=[.ref r]/\mh[r]? =some (.lst [.ref a,.ref b])/\mh[a]? =some (.lst k1)/\mh[b]? =some (.lst k2)/\(∀k∈k1,Ky k)/\(∀k∈k2,Ky k)/\k1.length<=100/\k2.length<=100/\
 Q (.tup [.tup (aC (aF [] k1)),.tup (aC (aF (k1.foldl aN []) k2))]) mh
theorem Y3:∀(l us:List D),(l.foldl aN us).length<=us.length+l.length
 | [],us=>by simp
 | d::l,us=>by
  have:=Y3 l (aN us d);have:(aN us d).length<=us.length+1:=by unfold aN;split <;> simp
  simp only[List.foldl_cons,List.length_cons]
  lia
theorem cP(n:Nat):∀l:List Nat,aX n (aC l)=true
 | []=>rfl
 | a::l=>by
  have:=cP n l;simp only[aC,List.map_cons]at*;simp[aX,cI,this]
theorem JB(us l:List D)(d:D):aF us (l++[d])=aF us l++[u4 (aN (l.foldl aN us) d) d]:=by rw[cK];rfl
variable{M:MH}
theorem Q2{us ks:List D}{B:Nat}{N:DK}(d:DS mh M us)(C:mh[B]? =some (.lst ks))(G:∀k∈ks,Ky k)(L:us.length+ks.length<=1000)(q:∀j,DS mh j (ks.foldl aN us)->N (.tup (aC (aF us ks))) j):
  aE gH (aA (tJ ["key"] [1] (eU (aB 0)) (gN 0) lY (wW (aB 1) (aB 0) (aE NH (aA (aB 1) aD)))) aD) [some (.ref B),some (.ref mh.length)] M N:=by
 have sz:=aMe;simp;rw[bQ (d.px.old C)];simp only[aH];refine sX (λi r j =>DS mh j ((ks.take i).foldl aN us)/\r=aC (aF us (ks.take i))) ks (λi r j h=>bQ (h.1.px.old C)) ?_ ?_ ⟨by simpa using d,by simp[aF,aC]⟩
 ·rintro i k r j N hi ⟨c,rfl⟩ nx;have s:=aMc hi;obtain⟨es,rfl,hg,n⟩:=G k s;have t:=Y3 (ks.take i) us;have H:(ks.take i).length<=ks.length:=by rw[List.length_take];exact Nat.min_le_right _ _
  have E:ks.take (i+1)=ks.take i++[.tup es]:=by rw[List.take_add_one,hi];rfl
  have o:(ks.take (i+1)).foldl aN us=aN ((ks.take i).foldl aN us) (.tup es):=by rw[E,List.foldl_append];rfl
  have l:aF us (ks.take (i+1))=aF us (ks.take i)++[u4 (aN ((ks.take i).foldl aN us) (.tup es)) (.tup es)]:=by rw[E,JB]
  generalize (ks.take i).foldl aN us=vs at c t o l⊢;simp[jL];refine⟨⟨_,c.at_⟩,mh.length,MD 0 vs,rfl,c.at_,MD 0 vs,c.at_,hg,n,by rw[DO];lia,λa b m=>?_,λa b m e=>?_,λu=>?_⟩
  ·have:a∈vs:=by rw[<-l7 0 vs];exact aN6 (f:=Prod.fst) m
   obtain⟨v,I,g',_⟩:=c.ky a this;exact⟨⟨v,I⟩,g'⟩
  ·subst e;have w:D.tup es∈vs:=by rw[<-l7 0 vs];exact aN6 (f:=Prod.fst) m
   have J:=MB c.nd m;rw[iC w]at o l;refine nx _ _ ⟨by rw[o];exact c,?_⟩;rw[l];simp only[aC,List.map_append,List.map_cons,List.map_nil];have A :b= .int ((0+u4 vs (.tup es):Nat):Int):=J;rw[A,Nat.zero_add]
  ·have g :D.tup es∉vs:=λz=>by
    rw[<-l7 0 vs]at z;obtain⟨p,m,e⟩:=aMd.mp z;exact u p.2 (by rw[<-e];exact m)
   rw[fJ g]at o l;rw[YH g]at l;refine nx _ _ ⟨?_,?_⟩
   ·rw[o];refine⟨c.px.set (aM7 _) _,?_,?_,λe he=>?_⟩
    ·rw[MC,DO,Nat.zero_add];exact bK _ c.at_
    ·rw[List.nodup_append];exact⟨c.nd,by simp,λx K y F=>by simp at F;subst F;exact λz=>g (z▸K)⟩
    ·rcases aMi.mp he with he | he
     ·exact c.ky e he
     ·simp at he;subst he;exact⟨es,rfl,hg,n⟩
   ·rw[l,DO];simp[aC]
 ·rintro r j ⟨c,rfl⟩;rw[List.take_length]at c⊢;rw[bQ (aL _ _)];simp only[aH];refine q _ ⟨c.px.push _,aI c.at_,c.nd,c.ky⟩
theorem JU(ds:List D)(mh:MH)(R:DK)(ok:iT mh)(f:p5 ds mh R):mK (En mh R) (aJ ["keys","numbers"] ds) mh:=by
 obtain⟨r,j,k,k1,k2,rfl,a,b,c,g,h,l,m,q⟩:=f;have sz:=aMe
 have i:DS mh (mh++[PF []]) []:=⟨aR.refl.push _,by simp[MD],List.nodup_nil,by simp⟩
 simp[mK,rC,aJ];rw[bQ (aI a)];simp only[aH];simp only[i9];refine⟨bQ (aI a),?_⟩;simp only[jL,gN]
 refine Q2 i b g (by simp;lia) λn d=>⟨bQ (d.px.old a),?_⟩
 refine Q2 d c h (by have:=Y3 k1 [];simp at this;lia) λM2 e=>⟨bQ (e.px.old a),?_⟩
 rw[bQ (aL _ _)];exact(e.px.push _).out ok (by simp[cI,aX,cP]) q
structure Sw where
 s:Str
 g:Nat
 a:Nat
 b:Nat
 w:Int
 l:Int
def iB(x:Sw):D:= .tup [.str x.s,.int x.g,.int x.a,.int x.b,.int x.w,.int x.l]
def gC(p:Str×Nat):D:= .tup [.str p.1,.int (p.2:Nat)]
structure Ls where
 m:Nat
 ns:List (Str×Nat)
 sw:List Sw
def bZ(x:Ls):D:= .tup [.int x.m,.tup (x.ns.map gC),.tup (x.sw.map iB)]
structure fH(x:Ls):Prop where
 m1:1<=x.m
 m8:x.m<=9
 ns:∀p∈x.ns,p.2<x.m
 sw:∀s∈x.sw,s.g<x.m/\s.a<x.m/\s.b<x.m
 ab:∀s∈x.sw,s.a<=s.b
 ln:x.ns.length<=12
 lw:x.sw.length<=14
 up:(x.ns.map gC).Pairwise (λd e=>lx (enc e) (enc d)=false)
 us:(x.sw.map iB).Pairwise (λd e=>lx (enc e) (enc d)=false)
structure LL(mh M:MH)(m:Nat)(f:Nat->List D):Prop where
 px:aR mh M
 at_:∀j,j<m->M[mh.length+j]? =some (.lst (f j))
 top:M[mh.length+m]? =some (.lst ((List.range m).map λj=>.ref (mh.length+j)))
variable{m n:Nat}{f:Nat->List D}
theorem LL.app(h:LL mh M m f)(b:n<m)(d:D):LL mh (M.set (mh.length+n) (.lst (f n++[d]))) m (λj=>if j=n then f j++[d] else f j):=by
 refine⟨h.px.set (by lia) _,λj a=>?_,get_set h.top (by lia)⟩;by_cases e:j=n
 ·subst e;simp only[if_true];exact bK _ (h.at_ j a)
 ·simp only[e,if_false];exact get_set (h.at_ j a) (by lia)
theorem LL.congr{f g:Nat->List D}(h:LL mh M m f)(e:∀j,j<m->f j=g j):LL mh M m g:=⟨h.px,λj a=>by rw[<-e j a];exact h.at_ j a,h.top⟩
variable{Q:DK}
theorem GB{g:WG}{ρe:iM}{St:MH->Prop}(hm:m<=1000)(a:∀M,St M)(hg:∀(i:Nat) (M:MH) (N:DK),N (.ref M.length) (M++[.lst []])->g (.int (i:Nat)) ρe λb=>fO aD b M N)
  (q:∀M,LL mh M m (λ_=>[])->M.length=mh.length+m+1->Q (.ref (mh.length+m)) M):i9 g lY (fO aD) ρe St Q (dU 0 m) [] mh:=by
 refine sX (λi c M=>M=mh++List.replicate i (.lst [])/\c=(List.range i).map λj=>.ref (mh.length+j)) _ (λ_ _ M _=>a M) ?_ ?_ ⟨by simp,rfl⟩
 ·rintro i d c M N hi ⟨rfl,rfl⟩ nx;obtain⟨h,rfl⟩:=jI hi;have e:(0:Int)+(i:Nat)=(i:Nat):=by lia
  rw[e];simp only[QT,if_true];refine hg i _ _ (nx _ _ ⟨?_,?_⟩)
  ·rw[List.append_assoc,List.replicate_succ']
  ·rw[List.range_succ];simp
 ·rintro c M ⟨rfl,rfl⟩;have k:(dU 0 m).length=m:=by simp
  rw[k];have f:(mh++List.replicate m (MO.lst [])).length=mh.length+m:=by simp
  rw[f];refine q _ ⟨⟨_,by rw[List.append_assoc]⟩,λj l=>?_,?_⟩ (by simp;lia)
  ·rw[List.append_assoc,List.getElem?_append_right (by lia),List.getElem?_append_left (by simp;lia)];simp[List.getElem?_replicate];lia
  ·rw[<-f];simp
theorem LL.ix(h:LL mh M m f)(a:n<m)(q:Q (.ref (mh.length+n)) M):bO (.ref (mh.length+m)) (.int (n:Nat)) M Q:=by
 rw[cE h.top];have:fI ((List.range m).map λj=>D.ref (mh.length+j)) (n:Nat)=some (.ref (mh.length+n)):=dI (by simp[a]);rw[this];exact q
def bC(l:List (Str×Nat))(n:Nat):List D:=((l.filter λp=>decide (p.2=n)).map (·.1)).map .str
theorem A6(n:Nat):∀l:List Str,aX n (l.map .str)=true
 | []=>rfl
 | a::l=>by simp[aX,cI,A6 n l]
theorem FT(n:Nat)(l:List (Str×Nat)):∀a:List Nat,aX n (a.map λj=>.tup (bC l j))=true
 | []=>rfl
 | j::a=>by
  have b:aX n (bC l j)=true:=A6 n _;simp[aX,cI,b,FT n l a]
def CM:OA:=λds mh Q=>∃x:Ls,ds=[bZ x]/\fH x/\Q (.ref mh.length) (mh++[.lst ((List.range x.m).map λn=>.tup (bC x.ns n))])
theorem YV(ds:List D)(mh:MH)(R:DK)(ok:iT mh)(o:CM ds mh R):fP (En mh R) (aJ ["some","names","name","net"] ds) mh:=by
 obtain⟨x,rfl,c,q⟩:=o;have sz:=aMe;have m8:=c.m8;simp[fP,aJ,bZ];refine⟨by lia,?_⟩;refine GB (by lia) (λ_=>trivial) (λi M N hN=>by simpa[jL] using hN) λM r v=>?_;simp[lL,pJ,bF];refine cQ (λi f g =>(∃h k,f=[some (D.tup [D.int x.m,D.tup (List.map gC x.ns),D.tup (List.map iB x.sw)]),some (.ref (mh.length+x.m)),h,k])/\LL mh g x.m (bC (x.ns.take i))) _ (λ_ _ _ _=>trivial) ?_ ?_ ⟨⟨_,_,rfl⟩,r.congr λj _=>by simp[bC]⟩
 ·rintro i d f g N hi ⟨⟨h,k,rfl⟩,a⟩ nx;obtain⟨p,l,rfl⟩:=o6 hi;have b:=c.ns p (aMc l);have s:i<x.ns.length:=(aM6.mp l).1;have ln:=c.ln;simp[gC,kI];refine a.ix b ⟨⟨rfl,_,a.at_ _ b⟩,?_⟩;rw[dS (a.at_ _ b)];refine⟨?_,nx _ _ ⟨⟨_,_,rfl⟩,(a.app b _).congr λj n=>?_⟩⟩
  ·have:(bC (x.ns.take i) p.2).length<=(x.ns.take i).length:=by simp only[bC,List.length_map];exact List.length_filter_le _ _
   rw[List.length_take]at this
   lia
  ·have t:x.ns.take (i+1)=x.ns.take i++[p]:=by rw[List.take_add_one,l];rfl
   rw[t];by_cases e:j=p.2
   ·subst e;simp[bC]
   ·have u :¬p.2=j:=λz=>e z.symm;simp[bC,e,u]
 ·rintro f g ⟨⟨h,k,rfl⟩,a⟩;rw[show (List.map gC x.ns).length=x.ns.length by simp,List.take_length]at a;simp[lK];rw[bQ a.top];simp only[aH];refine jP (λj=>D.ref (mh.length+j)) (λj=>j) (λj=>.tup (bC x.ns j)) (List.range x.m) (bQ a.top) (λj n N hN=>?_) ?_
  ·simp[jL];rw[bQ (a.at_ j (by simpa using n))];exact hN
  ·refine(a.px.push _).tR ok a.px.le (by simp;rfl) ?_ (by simpa using q);show aX mh.length _=true;exact FT _ _ _
structure Hk where
 s:Str
 w:Int
 l:Int
 t:Nat
 a:Nat
 b:Nat
def BN(s:Str)(w l:Int)(t:Nat):D:= .tup [.str s,.int w,.int l,.int (t:Nat)]
def hkD(h:Hk):D:= .tup [BN h.s h.w h.l h.t,.int (h.a:Nat),.int (h.b:Nat)]
def EU(x:Sw)(n:Nat):List Hk:=(if x.g=n then [⟨x.s,x.w,x.l,0,x.a,x.b⟩] else [])++((if x.a=n then [⟨x.s,x.w,x.l,1,x.g,x.b⟩] else [])++(if x.b=n then [⟨x.s,x.w,x.l,1,x.g,x.a⟩] else []))
def q5(l:List Sw)(n:Nat):List Hk:=l.flatMap λx=>EU x n
def vJ(l:List Sw)(n:Nat):List D:=(q5 l n).map hkD
def CN:OA:=λds mh Q=>∃x:Ls,ds=[bZ x]/\fH x/\∀M,LL mh M x.m (vJ x.sw)->Q (.ref (mh.length+x.m)) M
theorem YM(x:Sw)(n:Nat):(EU x n).length<=3:=by
 unfold EU;split <;> split <;> split <;> simp
theorem wD(n:Nat):∀l:List Sw,(q5 l n).length<=3*l.length
 | []=>by simp[q5]
 | x::l=>by
  have:=wD n l;have:=YM x n;simp only[q5,List.flatMap_cons,List.length_append,List.length_cons]at*
  lia
theorem YY(ds:List D)(mh:MH)(R:DK)(ok:iT mh)(F:CN ds mh R):fQ (En mh R) (aJ ["some","hooks","sort","gate","one","other","width","length"] ds) mh:=by
 obtain⟨x,rfl,v,q⟩:=F;have sz:=aMe;have m8:=v.m8;simp[fQ,aJ,bZ];refine⟨by lia,?_⟩;refine GB (by lia) (λ_=>trivial) (λi M N hN=>by simpa[jL] using hN) λM G T=>?_;have H:fI [D.int x.m,D.tup (List.map gC x.ns),D.tup (List.map iB x.sw)] 2=some (D.tup (List.map iB x.sw)):=rfl;simp[lO,H,bF];refine cQ (λi y h =>(∃z A B a5 a6 C,y=[some (D.tup [D.int x.m,D.tup (List.map gC x.ns),D.tup (List.map iB x.sw)]),some (.ref (mh.length+x.m)),z,A,B,a5,a6,C])/\LL mh h x.m (vJ (x.sw.take i))) _ (λ_ _ _ _=>trivial) ?_ ?_ ⟨⟨_,_,_,_,_,_,rfl⟩,G.congr λj _=>by simp[vJ,q5]⟩
 ·rintro i d y h N hi ⟨⟨z,A,B,a5,a6,C,rfl⟩,e⟩ nx;obtain⟨p,E,rfl⟩:=o6 hi;obtain⟨k,o,r⟩:=v.sw p (aMc E);have I:i<x.sw.length:=(aM6.mp E).1;have lw:=v.lw
  have f:∀n,(vJ (x.sw.take i) n).length<=42:=λn=>by
   have:=wD n (x.sw.take i);simp only[vJ,List.length_map];rw[List.length_take]at this
   lia
  simp[iB,kJ];refine e.ix k ⟨⟨rfl,_,e.at_ _ k⟩,by lia,by lia,?_⟩;rw[dS (e.at_ _ k)];refine⟨by have:=f p.g;lia,?_⟩;have t:=e.app k (.tup [BN p.s p.w p.l 0,.int p.a,.int p.b]);simp[iW];refine t.ix o ⟨⟨rfl,_,t.at_ _ o⟩,by lia,by lia,?_⟩;rw[dS (t.at_ _ o)];refine⟨by have:=f p.a;split <;> simp <;> lia,?_⟩;have u:=t.app o (.tup [BN p.s p.w p.l 1,.int p.g,.int p.b]);simp[iV];refine u.ix r ⟨⟨rfl,_,u.at_ _ r⟩,by lia,by lia,?_⟩;rw[dS (u.at_ _ r)];refine⟨by have:=f p.b;split <;> split <;> simp <;> lia,nx _ _ ⟨⟨_,_,_,_,_,_,rfl⟩,(u.app r (.tup [BN p.s p.w p.l 1,.int p.g,.int p.a])).congr λj U=>?_⟩⟩;have J:x.sw.take (i+1)=x.sw.take i++[p]:=by rw[List.take_add_one,E];rfl
  have K:vJ (x.sw.take i++[p]) j=vJ (x.sw.take i) j++(EU p j).map hkD:=by simp[vJ,q5]
  rw[J,K];generalize vJ (x.sw.take i) j=V;simp only[EU,List.map_append,show (p.g=j)=(j=p.g) from propext eq_comm,show (p.a=j)=(j=p.a) from propext eq_comm,show (p.b=j)=(j=p.b) from propext eq_comm]
  have O:List.map hkD (if j=p.g then [⟨p.s,p.w,p.l,0,p.a,p.b⟩] else [])=if j=p.g then [.tup [BN p.s p.w p.l 0,.int p.a,.int p.b]] else []:=by split <;> rfl
  have P:List.map hkD (if j=p.a then [⟨p.s,p.w,p.l,1,p.g,p.b⟩] else [])=if j=p.a then [.tup [BN p.s p.w p.l 1,.int p.g,.int p.b]] else []:=by split <;> rfl
  have Q:List.map hkD (if j=p.b then [⟨p.s,p.w,p.l,1,p.g,p.a⟩] else [])=if j=p.b then [.tup [BN p.s p.w p.l 1,.int p.g,.int p.a]] else []:=by split <;> rfl
  rw[O,P,Q]
  have S:∀(c:Prop) [Decidable c] (L:List D) (d:D),(if c then L++[d] else L)=L++if c then [d] else []:=λc _ L d=>by split <;> simp
  simp only[S];simp only[List.append_assoc]
 ·rintro y h ⟨⟨z,A,B,a5,a6,C,rfl⟩,e⟩;rw[show (List.map iB x.sw).length=x.sw.length by simp,List.take_length]at e;simp[lN];exact bT (q h e)
def mk(own:List Nat)(i:Nat):Nat:=own.getD i 0
def NS(h:Hk)(own:List Nat):Nat:=if h.t=0 then min (mk own h.a) (mk own h.b) else mk own h.a
def NR(h:Hk)(own:List Nat):Nat:=if h.t=0 then max (mk own h.a) (mk own h.b) else mk own h.b
def lZ(own:List Nat)(h:Hk):D:= .tup [BN h.s h.w h.l h.t,.int (NS h own:Nat),.int (NR h own:Nat)]
variable{own:List Nat}{i:Nat}
theorem fG(h:i<own.length):fI (aC own) (i:Nat)=some (.int (mk own i:Nat)):=dI (by simp[aC,mk,List.getD,h])
def FK:OA:=λds mh Q=>∃(h:Hk) (own:List Nat),ds=[hkD h,.tup (aC own)]/\h.a<own.length/\h.b<own.length/\Q (lZ own h) mh
theorem O0(ds:List D)(mh:MH)(R:DK)(ok:iT mh)(f:FK ds mh R):o4 (En mh R) (aJ ["hook","own","fixed","one","other","left","right"] ds) mh:=by
 obtain⟨h,own,rfl,ha,g,q⟩:=f;have sz:=aMe;have i:fI [D.str h.s,D.int h.w,D.int h.l,D.int (h.t:Nat)] 3=some (D.int (h.t:Nat)):=rfl;simp[o4,uO,aJ,hkD,fG ha,fG g];refine⟨by lia,?_⟩;simp[uN,BN,i];by_cases e:h.t=0
 ·rw[if_pos e];refine⟨by lia,?_⟩;simp[nJ];refine⟨by lia,?_⟩
  have c:(if mk own h.b<mk own h.a then ((mk own h.b:Nat):Int) else ((mk own h.a:Nat):Int))=((NS h own:Nat):Int):=by
   unfold NS;rw[if_pos e];split <;> lia
  have d:(if mk own h.a<mk own h.b then ((mk own h.b:Nat):Int) else ((mk own h.a:Nat):Int))=((NR h own:Nat):Int):=by
   unfold NR;rw[if_pos e];split <;> lia
  rw[c,d];exact bT q
 ·rw[if_neg e];simp[nJ];refine⟨by lia,?_⟩;have c:mk own h.a=NS h own:=by unfold NS;rw[if_neg e]
  have d:mk own h.b=NR h own:=by unfold NR;rw[if_neg e]
  rw[c,d];exact bT q
def HA(mh:MH)(r:Nat)(x:Ls):Prop:=∃nb,(∀j,j<x.m->mh[nb+j]? =some (.lst (vJ x.sw j)))/\mh[r]? =some (.lst ((List.range x.m).map λj=>.ref (nb+j)))
variable{r:Nat}{x:Ls}
theorem HA.px(h:HA mh r x)(p:aR mh M):HA M r x:=by
 obtain⟨nb,a,b⟩:=h;exact⟨nb,λj c=>p.old (a j c),p.old b⟩
def tells(x:Ls)(own:List Nat)(n:Nat):List D:=(q5 x.sw n).map (lZ own)
structure mV(x:Ls)(own:List Nat)(K:List D):Prop where
 len:K.length=x.m
 at_:∀n,n<x.m->∃L,K[n]? =some (.tup [.int (mk own n:Nat),.tup L])/\L.Perm (tells x own n)/\L.Pairwise (λd e=>lx (encM e) (encM d)=false)
theorem aAd(c:fH x){h:Hk}(hh:h∈q5 x.sw n):h.a<x.m/\h.b<x.m:=by
 obtain⟨s,d,hh⟩:=List.mem_flatMap.mp hh;obtain⟨e,f,g⟩:=c.sw s d;unfold EU at hh;simp only[List.mem_append]at hh;rcases hh with hh | hh | hh <;> split at hh <;> simp at hh <;> subst hh <;> exact⟨by assumption,by assumption⟩
theorem NO(own:List Nat)(l:List Hk):ZR (l.map (lZ own)):=⟨[.s,.i,.i,.i],[.sc .i,.sc .i],λd hd=>by
 obtain⟨h,_,rfl⟩:=aMd.mp hd
 exact⟨_,rfl,rfl⟩⟩
theorem TJ(a:fH x)(n:Nat):(q5 x.sw n).length<=42:=by
 have:=wD n x.sw;have:=a.lw
 lia
variable{rk:Nat}{E:iL}{a0 a1:Option D}
theorem FP{kk:List D}(g:fH x)(v:own.length=x.m)(w:HA mh r x)(p:mh[rk]? =some (.lst kk))(kl:kk.length<=10)
  (q:∀(M:MH) (K:List D),aR mh M->mV x own K->E.nx [a0,a1,some (.ref rk),some (.ref r),some (.tup (aC own))] (List.set (M++[MO.lst K]) rk (MO.lst (kk++[D.ref (List.length M)])))):
  iN FK p5 E [a0,a1,some (.ref rk),some (.ref r),some (.tup (aC own))] mh:=by
 have sz:=aMe;have m8:=g.m8;obtain⟨nb,s,y⟩:=w;have z:(aC own).length=x.m:=by simp[aC,v]
 simp[iN,lH];refine⟨⟨_,p⟩,by lia,?_⟩;rw[z];refine sX (λi b M=>aR mh M/\b.length=i/\∀n,n<i->∃L,b[n]? =some (.tup [.int (mk own n:Nat),.tup L])/\L.Perm (tells x own n)/\L.Pairwise (λd e=>lx (encM e) (encM d)=false)) _ (λ_ _ _ _=>trivial) ?_ ?_ ⟨aR.refl,rfl,λn A=>by lia⟩
 ·rintro i d b M N hi ⟨px,c,f⟩ nx;obtain⟨a,rfl⟩:=jI hi;have B:(0:Int)+(i:Nat)=(i:Nat):=by lia
  rw[B];have k:i<own.length:=by lia
  have l:fI ((List.range x.m).map λj=>D.ref (nb+j)) (i:Nat)=some (.ref (nb+i)):=dI (by simp[a]);simp[jL,fG k];rw[cE (px.old y),l];simp only[aH];rw[bQ (px.old (s i a))];simp only[aH,vJ];refine jP hkD (λh=>h) (lZ own) (q5 x.sw i) (bQ (px.old (s i a))) (λh hm N hN=>?_) ?_
  ·obtain⟨t,u⟩:=aAd g hm;simp;exact⟨h,own,rfl,by lia,by lia,hN⟩
  ·have C:=TJ g i;refine⟨_,_,rfl,eA (aL _ _),by simp;lia,by simpa using NO own _,λo pm F=>?_⟩;dsimp only;rw[bQ (aL _ _)];simp only[aH];refine⟨by lia,nx _ _ ⟨(px.push _).push _,by simp[c],λn A=>?_⟩⟩;by_cases e:n=i
   ·subst e;exact⟨o,by rw[<-c];simp,by simpa[tells] using pm,F⟩
   ·obtain⟨L,t,u,G⟩:=f n (by lia);exact⟨L,by rw[List.getElem?_append_left (by lia)];exact t,u,G⟩
 ·rintro b M ⟨px,c,f⟩;have H:(dU 0 x.m).length=x.m:=by simp
  rw[H]at c f;rw[dS (aI (px.old p))];exact⟨by lia,q M b px ⟨c,f⟩⟩
theorem tZ:∀{ds:List D},(∀d∈ds,good d=true)->eF ds=true
 | [],_=>rfl
 | d::ds,h=>by simp only[eF,h d List.mem_cons_self,tZ λe he=>h e (List.mem_cons_of_mem _ he),Bool.and_self]
theorem uD{n:Nat}:∀{ds:List D},(∀d∈ds,deep d<=n)->bM ds<=n
 | [],_=>by simp[bM]
 | d::ds,h=>by
  have:=uD (n:=n) (ds:=ds) λe he=>h e (aM9 _ he);have:=h d aM8;simp only[bM];lia
variable{K:List D}
theorem ME(h:mV x own K):∀k∈K,Ky k:=λk c=>by
 obtain⟨n,a⟩:=aMr.mp c;have f:n<x.m:=by rw[<-h.len];exact(aM6.mp a).1
 obtain⟨L,b,i,_⟩:=h.at_ n f;rw[a]at b;cases b
 have hm:∀d∈L,good d=true/\deep d<=2:=λd hd=>by
  obtain⟨e,_,rfl⟩:=aMd.mp (i.mem_iff.mp hd);exact⟨rfl,by simp[lZ,BN,deep,bM]⟩
 have g:=tZ λd hd=>(hm d hd).1;have j:=uD λd hd=>(hm d hd).2;exact⟨_,rfl,T4 (by simp[good,eF,g]) rfl,by simp only[deep,bM];lia⟩
noncomputable def tR(a b:List D):D:= .tup [.tup (aC (aF [] a)),.tup (aC (aF (a.foldl aN []) b))]
def uY:OA:=λds mh Q=>∃(d e:Nat) (x1 a:Ls) (b c:List Nat),ds=[.tup [.ref d,.ref e],.tup [.tup (aC b),.tup (aC c)]]/\fH x1/\fH a/\b.length=x1.m/\c.length=a.m/\HA mh d x1/\HA mh e a/\
 ∀f g,mV x1 b f->mV a c g->Q (tR f g) mh
theorem aEc(ds:List D)(mh:MH)(R:DK)(ok:iT mh)(t:uY ds mh R):jA FK p5 (En mh R) (aJ ["sides","marked","keys","hooks","own"] ds) mh:=by
 obtain⟨y,z,x1,A,B,C,rfl,h,i,u,v,j,k,q⟩:=t;have sz:=aMe;have m1:=h.m8;have E:=i.m8;have o:aR mh (mh++[MO.lst []]):=aR.refl.push _;simp[jA,nL,aJ,bF,nF];refine⟨by lia,by lia,?_⟩;simp only[kY];simp;refine FP h u (j.px o) (aL _ _) (by simp) λa c e f=>?_;have l:aR mh (List.set (a++[MO.lst c]) mh.length (MO.lst ([]++[D.ref a.length]))):=((o.trans e).push _).set (aM7 _) _;have w:mh.length<a.length:=by have:=e.le;simp at this;lia
 have m:(List.set (a++[MO.lst c]) mh.length (MO.lst ([]++[D.ref a.length])))[mh.length]? =some (.lst ([]++[D.ref a.length])):=bK _ (aI (e.old (aL _ _)));have n:(List.set (a++[MO.lst c]) mh.length (MO.lst ([]++[D.ref a.length])))[a.length]? =some (.lst c):=get_set (aL _ _) (by lia);generalize List.set (a++[MO.lst c]) mh.length (MO.lst ([]++[D.ref a.length]))=F at l m n⊢;simp;refine FP i v (k.px l) m (by simp) λM2 d b g=>?_;have p:aR mh (List.set (M2++[MO.lst d]) mh.length (MO.lst ([]++[D.ref a.length]++[D.ref M2.length]))):=((l.trans b).push _).set (aM7 _) _
 have x:a.length<M2.length:=by
  have:=b.le;have:=(aM6.mp n).1
  lia
 have f0:(List.set (M2++[MO.lst d]) mh.length (MO.lst ([]++[D.ref a.length]++[D.ref M2.length])))[mh.length]? =some (.lst ([]++[D.ref a.length]++[D.ref M2.length])):=bK _ (aI (b.old m));have r:(List.set (M2++[MO.lst d]) mh.length (MO.lst ([]++[D.ref a.length]++[D.ref M2.length])))[a.length]? =some (.lst c):=get_set (aI (b.old n)) (by lia);have s:(List.set (M2++[MO.lst d]) mh.length (MO.lst ([]++[D.ref a.length]++[D.ref M2.length])))[M2.length]? =some (.lst d):=get_set (aL _ _) (by lia);generalize List.set (M2++[MO.lst d]) mh.length (MO.lst ([]++[D.ref a.length]++[D.ref M2.length]))=G at p f0 r s⊢;simp[nK];refine⟨mh.length,a.length,M2.length,c,d,rfl,f0,r,s,ME f,ME g,by rw[f.len];lia,by rw[g.len];lia,?_⟩;exact p.out ok (by simp[cI,aX,cP]) (q c d f g)
def aY(x:Ls):List D:=(List.range x.m).map λn=>.tup (bC x.ns n)
theorem YL:∀l:List Str,GP (l.map .str)=false
 | []=>rfl
 | [_]=>rfl
 | [_,_]=>rfl
 | _::_::_::_=>rfl
theorem aA7(x:Ls):∀k∈aY x,Ky k:=λk a=>by
 obtain⟨n,_,rfl⟩:=aMd.mp a
 have hm:∀d∈bC x.ns n,good d=true/\deep d<=0:=λd hd=>by
  obtain⟨z,_,rfl⟩:=aMd.mp hd;exact⟨rfl,aM7 _⟩
 have g:=tZ λd hd=>(hm d hd).1;have b:=uD λd hd=>(hm d hd).2;exact⟨_,rfl,T4 g (YL _),by simp only[deep];lia⟩
def xI:OA:=λds mh Q=>∃x1 a:Ls,ds=[bZ x1,bZ a]/\fH x1/\fH a/\Q (tR (aY x1) (aY a)) mh
theorem YZ(ds:List D)(mh:MH)(R:DK)(ok:iT mh)(d:xI ds mh R):g7 p5 CM (En mh R) (aJ ["one","other"] ds) mh:=by
 obtain⟨x1,c,rfl,a,b,q⟩:=d;have sz:=aMe;have m1:=a.m8;have e:=b.m8;simp[g7,aJ];refine⟨x1,rfl,a,?_⟩;refine⟨c,rfl,b,?_⟩;simp;refine⟨by lia,?_⟩;refine⟨_,mh.length,mh.length+1,aY x1,aY c,rfl,by simp,by simp[aY],by simp[aY],aA7 x1,aA7 c,by simp[aY];lia,by simp[aY];lia,?_⟩
 have px:aR mh (mh++[MO.lst (aY x1)]):=⟨_,rfl⟩
 exact aR.out ⟨_,rfl⟩ ok (by simp[cI,aX,cP]) q
def xG:OA:=λds mh Q=>∃x1 a:Ls,ds=[bZ x1,bZ a]/\fH x1/\fH a/\∀M b c,aR mh M->HA M b x1->HA M c a->Q (.tup [.ref b,.ref c]) M
theorem LL.ha(h:LL mh M x.m (vJ x.sw)):HA M (mh.length+x.m) x:=⟨mh.length,h.at_,h.top⟩
theorem YQ(ds:List D)(mh:MH)(R:DK)(ok:iT mh)(e:xG ds mh R):mJ CN (En mh R) (aJ ["one","other"] ds) mh:=by
 obtain⟨x1,f,rfl,a,b,q⟩:=e;have sz:=aMe;simp[mJ,aJ];refine⟨x1,rfl,a,λg d=>?_⟩;refine⟨f,rfl,b,λM2 c=>?_⟩;simp;exact⟨by lia,bT (q M2 _ _ (d.px.trans c.px) (d.ha.px c.px) c.ha)⟩
def L1(a b:List Nat):D:= .tup [.tup (aC a),.tup (aC b)]
def c9(K:List D)(i:Nat):D:=K.getD i .bU
theorem yG(h:K[i]? =some d):c9 K i=d:=by simp[c9,List.getD,h]
theorem oI:∀(l us:List D) (d:D),d∈l.foldl aN us↔d∈us\/d∈l
 | [],us,d=>by simp
 | e::l,us,d=>by
  rw[List.foldl_cons,oI l,tT];simp only[List.mem_cons];exact or_assoc
theorem MJ(h:d∈us):us[u4 us d]? =some d:=by
 have a:us.findIdx (λx=>@decide (x=d) (Classical.propDecidable _))<us.length:=List.findIdx_lt_length.mpr ⟨d,h,by simp⟩;have:=List.findIdx_getElem (w:=a);unfold u4;rw[List.getElem?_eq_getElem a];simpa using this
theorem YI{d e:D}(hd:d∈us)(he:e∈us)(h:u4 us d=u4 us e):d=e:=by
 have a:=MJ hd;rw[h,MJ he]at a;cases a;rfl
theorem SE(f:D->Nat)(h:i<K.length):mk (K.map f) i=f (c9 K i):=by
 simp[mk,c9,List.getD,h]
variable{j:Nat}
theorem dR(hi:i<K.length)(a:j<K.length):mk (aF [] K) i=mk (aF [] K) j↔c9 K i=c9 K j:=by
 rw[<-r9 K [],SE _ hi,SE _ a];have b:c9 K i∈K.foldl aN []:=(oI K [] _).mpr (.inr (by simp[c9,List.getD,hi]));have c:c9 K j∈K.foldl aN []:=(oI K [] _).mpr (.inr (by simp[c9,List.getD,a]));exact⟨λz=>YI b c z,λz=>by rw[z]⟩
theorem Z0{c d:Type}:∀{l:List c} {l' :List d},l.length=l'.length->(l.zip l').map (·.1)=l/\(l.zip l').map (·.2)=l'
 | [],[],_=>⟨rfl,rfl⟩
 | a::l,b::l',h=>by
  have:=Z0 (l:=l) (l' :=l') (by simpa using h);simp[this.1,this.2]
variable{K':List D}
theorem KW{p:D×D}(h:p∈K.zip K'):∃i,i<K.length/\i<K'.length/\p.1=c9 K i/\p.2=c9 K' i:=by
 obtain⟨i,hi⟩:=aMr.mp h;obtain⟨a,b⟩:=List.getElem?_zip_eq_some.mp hi;exact⟨i,(aM6.mp a).1,(aM6.mp b).1,(yG a).symm,(yG b).symm⟩
theorem tS(c:K.length=K'.length)(h:∀i j,i<K.length->j<K.length->(c9 K i=c9 K j↔c9 K' i=c9 K' j)):aF [] K=aF [] K' :=by
 obtain⟨a,b⟩:=Z0 c
 have:=o5 (K.zip K') [] λp d q e=>by
  obtain⟨i,f,_,a,b⟩:=KW (by simpa using d);obtain⟨j,g,_,k,l⟩:=KW (by simpa using e);rw[a,b,k,l];exact h i j f g
 rw[a,b]at this;exact this
theorem pD{a:Type}{p q:a->Bool}:∀{l:List a},(∀x∈l,q x=true->p x=true)->(∃x∈l,p x=true/\q x=false)->l.countP q<l.countP p
 | [],_,h=>by obtain⟨x,hx,_⟩:=h;simp at hx
 | y::l,h1,h2=>by
  have d:l.countP q<=l.countP p:=List.countP_mono_left λx hx=>h1 x (aM9 _ hx);obtain⟨x,hx,b,c⟩:=h2;rcases aMf.mp hx with rfl | hx
  ·rw[List.countP_cons_of_neg (by simp[c]),List.countP_cons_of_pos b]
   lia
  ·have:=pD (l:=l) (λx hx=>h1 x (aM9 _ hx)) ⟨x,hx,b,c⟩;have h0:=h1 y aM8;by_cases e:q y=true
   ·rw[List.countP_cons_of_pos e,List.countP_cons_of_pos (h0 e)]
    lia
   ·rw[List.countP_cons_of_neg e];have:l.countP p<=(y::l).countP p:=by rw[List.countP_cons];lia
    lia
def prs(n:Nat):List (Nat×Nat):=(List.range n).flatMap λi=>(List.range n).map λj=>(i,j)
def eqs(c:List Nat):Nat:=(prs c.length).countP λq=>decide (mk c q.1=mk c q.2)
theorem C9:(i,j)∈prs n↔i<n/\j<n:=by
 simp only[prs,List.mem_flatMap,List.mem_map,List.mem_range];constructor
 ·rintro⟨a,ha,b,c,e⟩;cases e;exact⟨ha,c⟩
 ·rintro⟨d,f⟩;exact⟨i,d,j,f,rfl⟩
theorem WY(n:Nat):(prs n).length=n*n:=by
 simp only[prs,List.length_flatMap,List.length_map,List.length_range];rw[List.map_const',List.length_range];exact List.sum_replicate_nat
variable{c:List Nat}
theorem aEk:eqs c<=c.length*c.length:=by
 unfold eqs;exact aMq aP4 (Nat.le_of_eq (WY _))
def IC(c a :List Nat):Prop:=∀i j,i<a.length->j<a.length->mk a i=mk a j->mk c i=mk c j
theorem V0(g:K.length=K'.length)(d:IC (aF [] K) (aF [] K')):aF [] K' =aF [] K\/eqs (aF [] K')<eqs (aF [] K):=by
 by_cases h:∀i j,i<K.length->j<K.length->c9 K i=c9 K j->c9 K' i=c9 K' j
 ·refine .inl (tS g.symm λi j hi c=>⟨λz=>?_,λz=>h i j (by lia) (by lia) z⟩);have:=d i j (by rw[aP];exact hi) (by rw[aP];exact c) ((dR hi c).mpr z);exact(dR (by lia) (by lia)).mp this
 ·right
  have:∃i j,i<K.length/\j<K.length/\c9 K i=c9 K j/\¬c9 K' i=c9 K' j:=by
   refine aMm λk=>h λi j hi c e=>aMm λf =>k ⟨i,j,hi,c,e,f⟩
  obtain⟨i,j,hi,c,e,f⟩:=this;unfold eqs;rw[aP,aP,<-g];refine pD (λx l z=>?_) ⟨(i,j),C9.mpr ⟨hi,c⟩,?_,?_⟩
  ·obtain⟨a,b⟩:=x;obtain⟨ha,m⟩:=C9.mp l;simp only[decide_eq_true_eq]at z⊢;exact d a b (by rw[aP];lia) (by rw[aP];lia) z
  ·simp only[decide_eq_true_eq];exact(dR hi c).mpr e
  ·simp only[decide_eq_false_iff_not];exact λz=>f ((dR (by lia) (by lia)).mp z)
variable{a b:List Nat}
theorem IC.trans(d:IC a b)(f:IC b c)(h:c.length<=b.length):IC a c:=λi j hi g e=>d i j (by lia) (by lia) (f i j hi g e)
structure Mk(m:Nat)(a b:List Nat):Prop where
 la:a.length=m
 lb:b.length=m
 nu:∃K:List D,K.length=m+m/\a++b=aF [] K
theorem bR(h:i<a.length):mk (a++b) i=mk a i:=by simp[mk,List.getD,List.getElem?_append_left h]
theorem hG(h:a.length=m):mk (a++b) (m+j)=mk b j:=by
 subst h;simp[mk,List.getD,List.getElem?_append_right]
variable{K1 K2:List D}
theorem x5(a:K1.length=m)(b:K2.length=m):Mk m (aF [] K1) (aF (K1.foldl aN []) K2):=
 ⟨by rw[aP,a],by rw[aP,b],K1++K2,by simp[a,b],(cK K1 K2 []).symm⟩
theorem qK(f:D->List Int){ds:List D}(inj:∀d∈ds,∀e∈ds,f d=f e->d=e):∀{g c:List D},(∀d∈g,d∈ds)->g.Perm c->g.Pairwise (λd e=>lx (f e) (f d)=false)->c.Pairwise (λd e=>lx (f e) (f d)=false)->g=c
 | [],c,_,p,_,_=>(List.nil_perm.mp p).symm
 | a::t,c,hm,p,s1,s2=>by
  cases c with
  | nil=>exact absurd p.length_eq (by simp)
  | cons b u=>
   have ha:lx (f b) (f a)=false:=by
    rcases aMf.mp (p.mem_iff.mpr aM8) with z | z
    ·rw[z];exact qO _
    ·exact(aO2.mp s1).1 b z
   have h:lx (f a) (f b)=false:=by
    rcases aMf.mp (p.mem_iff.mp aM8) with z | z
    ·rw[z];exact qO _
    ·exact(aO2.mp s2).1 a z
   have e:a=b:=inj a (hm a aM8) b (hm b (p.mem_iff.mpr aM8)) (v5 _ _ h ha);subst e;rw[qK f inj (λd hd=>hm d (List.mem_cons_of_mem _ hd)) (List.Perm.cons_inv p) (List.pairwise_cons.mp s1).2 (List.pairwise_cons.mp s2).2]
theorem QN{c d:List Nat}{a b:Hk}(e:encM (lZ c a)=encM (lZ d b)):lZ c a=lZ d b:=by
 have:=yS (cs:=[.s,.i,.i,.i,.i,.i]) (es:=[.str a.s,.int a.w,.int a.l,.int (a.t:Nat),.int (NS a c:Nat),.int (NR a c:Nat)]) (fs:=[.str b.s,.int b.w,.int b.l,.int (b.t:Nat),.int (NS b d:Nat),.int (NR b d:Nat)]) rfl rfl (by simpa[D3.encM,lZ,BN,enc,List.flatMap_cons,cA] using e);simp only[List.cons.injEq,and_true]at this;obtain⟨f,g,h,j,k,m⟩:=this;unfold lZ BN;rw[f,g,h,j,k,m]
theorem aHh{p q:Str×Nat}(h:lx (enc (gC q)) (enc (gC p))=false):lx (enc (.str q.1)) (enc (.str p.1))=false:=by
 by_cases e:q.1=p.1
 ·rw[e];exact qO _
 ·have:=jJ (c:= .s) (d:= .str q.1) (e:= .str p.1) rfl rfl (λz=>e (by injection z)) (cA (.int (q.2:Nat))++[]) (cA (.int (p.2:Nat))++[]);simp only[enc,gC,List.flatMap_cons,List.flatMap_nil]at h⊢;rw[<-this];exact h
theorem C1:∀{l:List (Str×Nat)} (n:Nat),(l.map gC).Pairwise (λd e=>lx (enc e) (enc d)=false)->(bC l n).Pairwise (λd e=>lx (enc e) (enc d)=false)
 | [],n,_=>by simp[bC]
 | p::l,n,h=>by
  rw[List.map_cons,List.pairwise_cons]at h;have a:=C1 n h.2;by_cases e:p.2=n
  ·have:bC (p::l) n= .str p.1::bC l n:=by simp[bC,e]
   rw[this,List.pairwise_cons];refine⟨λd hd=>?_,a⟩;obtain⟨s,b,rfl⟩:=aMd.mp hd;obtain⟨q,c,rfl⟩:=aMd.mp b;exact aHh (h.1 _ (aN6 (aNi.mp c).1))
  ·have:bC (p::l) n=bC l n:=by simp[bC,e]
   rw[this];exact a
theorem CG(l:List (Str×Nat))(n:Nat):EV (bC l n):= .inl ⟨.s,λd hd=>by
 obtain⟨s,_,rfl⟩:=aMd.mp hd
 rfl⟩
variable{p:List Nat}
theorem i8(h:p.Perm (List.range m))(hi:i<m):mk p i<m:=by
 have a:i<p.length:=by rw[h.length_eq];simpa using hi
 have:mk p i∈p:=by simp[mk,List.getD,a]
 simpa using h.mem_iff.mp this
def CQ(p:List Nat)(s:Sw):Sw:=if mk p s.a<=mk p s.b then ⟨s.s,mk p s.g,mk p s.a,mk p s.b,s.w,s.l⟩ else ⟨s.s,mk p s.g,mk p s.b,mk p s.a,s.w,s.l⟩
structure uH(x y:Ls)(p:List Nat):Prop where
 pm:p.Perm (List.range x.m)
 m:y.m=x.m
 ns:y.ns.Perm (x.ns.map λq=>(q.1,mk p q.2))
 sw:y.sw.Perm (x.sw.map (CQ p))
theorem mk_inj(h:p.Perm (List.range m))(hi:i<m)(c:j<m)(e:mk p i=mk p j):i=j:=by
 have nd:p.Nodup:=h.nodup_iff.mpr aOg;have l:p.length=m:=by have:=h.length_eq;simpa using this
 have a:i<p.length:=by lia
 have b:j<p.length:=by lia
 simp only[mk,List.getD,List.getElem?_eq_getElem a,List.getElem?_eq_getElem b,Option.getD_some]at e;exact(aPo nd).mp e
theorem RY{l l' :List (Str×Nat)}(h:l.Perm l')(n:Nat):(bC l n).Perm (bC l' n):=((h.filter _).map _).map _
theorem LY{p:List Nat}{m i:Nat}(h:p.Perm (List.range m))(hi:i<m):∀l:List (Str×Nat),(∀q∈l,q.2<m)->bC (l.map λq=>(q.1,mk p q.2)) (mk p i)=bC l i
 | [],_=>rfl
 | q::l,hl=>by
  have a:=LY h hi l λr b=>hl r (aM9 _ b);unfold bC at*
  have e:(mk p q.2=mk p i)↔(q.2=i):=⟨λz=>mk_inj h (hl q aM8) hi z,λz=>by rw[z]⟩
  by_cases z:q.2=i
  ·simp[z]at a⊢;exact a
  ·simp[z,e]at a⊢;exact a
variable{y:Ls}
theorem tW(h:uH x y p)(a:fH x)(c:fH y)(hi:i<x.m):bC y.ns (mk p i)=bC x.ns i:=by
 have b:=RY h.ns (mk p i);rw[LY h.pm hi _ a.ns]at b;exact fK (CG y.ns (mk p i)) (λd hd=>hd) b (C1 _ c.up) (C1 _ a.up)
def NI(m:Nat)(p a b:List Nat):Prop:=∀i,i<m->mk b (mk p i)=mk a i
theorem tM(r:NI m p a b){s:Str}{w l:Int}{t u v:Nat}(c:u<m)(d:v<m):lZ b ⟨s,w,l,t,mk p u,mk p v⟩=lZ a ⟨s,w,l,t,u,v⟩:=by
 simp only[lZ,NS,NR,r u c,r v d]
theorem VW(own:List Nat)(s:Str)(w l:Int)(u v:Nat):lZ own ⟨s,w,l,0,u,v⟩=lZ own ⟨s,w,l,0,v,u⟩:=by
 simp only[lZ,NS,NR,if_true,Nat.min_comm,Nat.max_comm]
theorem aE5(pm:p.Perm (List.range m))(r:NI m p a b)(s:Sw)(d:s.g<m)(j:s.a<m)(k:s.b<m)(hi:i<m):((EU (CQ p s) (mk p i)).map (lZ b)).Perm ((EU s i).map (lZ a)):=by
 have e:∀u,u<m->(mk p u=mk p i)=(u=i):=λu n=>propext ⟨λz=>mk_inj pm n hi z,λz=>by rw[z]⟩
 have l:∀(c:Prop) [Decidable c] (h:Hk) (f:Hk->D),(if c then [h] else []).map f=if c then [f h] else []:=λc _ h f=>by split <;> rfl
 unfold CQ;by_cases z:mk p s.a<=mk p s.b
 ·rw[if_pos z];simp only[EU,List.map_append,l,e _ d,e _ j,e _ k,tM r j k,tM r d k,tM r d j];exact List.Perm.refl _
 ·rw[if_neg z];simp only[EU,List.map_append,l,e _ d,e _ j,e _ k,tM r k j,tM r d k,tM r d j];rw[VW];exact List.Perm.append_left _ List.perm_append_comm
theorem gV{c d:Type}{f g:c->List d}:∀(l:List c),(∀a∈l,(f a).Perm (g a))->(l.flatMap f).Perm (l.flatMap g)
 | [],_=>by simp
 | a::l,h=>by
  rw[List.flatMap_cons,List.flatMap_cons];exact(h a aM8).append (gV l λb e=>h b (aM9 _ e))
theorem OU(h:uH x y p)(c:fH x)(r:NI x.m p a b)(hi:i<x.m):(tells y b (mk p i)).Perm (tells x a i):=by
 unfold tells q5;refine((h.sw.flatMap_right _).map _).trans ?_;rw[List.flatMap_map,List.map_flatMap,List.map_flatMap];refine gV _ λs d=>?_;obtain⟨e,f,g⟩:=c.sw s d;exact aE5 h.pm r s e f g hi
theorem hJ(h:mV x own K)(a:n<x.m):∃L,c9 K n= .tup [.int (mk own n:Nat),.tup L]/\L.Perm (tells x own n)/\L.Pairwise (λd e=>lx (encM e) (encM d)=false):=by
 obtain⟨L,b,c⟩:=h.at_ n a;exact⟨L,yG b,c⟩
theorem qH{L f :List D}(g:L.Perm (tells x a i))(l:L.Pairwise (λd e=>lx (encM e) (encM d)=false))(m:f.Perm (tells y b j))(n:f.Pairwise (λd e=>lx (encM e) (encM d)=false))(p:(tells x a i).Perm (tells y b j)):L=f :=by
 have mt:∀{z:Ls} {c:List Nat} {k:Nat} {d:D},d∈tells z c k->∃o h,d=lZ o h:=λhd=>by
  obtain⟨h,_,rfl⟩:=aMd.mp hd;exact⟨_,h,rfl⟩
 refine qK encM (ds:=L) (λd hd e he q=>?_) (λd hd=>hd) ((g.trans p).trans m.symm) l n;obtain⟨_,_,rfl⟩:=mt (g.mem_iff.mp hd);obtain⟨_,_,rfl⟩:=mt (g.mem_iff.mp he);exact QN q
theorem xJ(pm:p.Perm (List.range m))(c:K1.length=m)(g:K2.length=m)(h:∀i,i<m->c9 K2 (mk p i)=c9 K1 i):NI m p (aF [] K1) (aF (K1.foldl aN []) K2):=λi hi=>by
 have j:=i8 pm hi;have d:(aF [] K1).length=m:=by rw[aP,c]
 rw[<-hG (a:=aF [] K1) (m:=m) d,<-bR (a:=aF [] K1) (b:=aF (K1.foldl aN []) K2) (by lia),<-cK];refine(dR (by simp;lia) (by simp;lia)).mpr ?_
 have e:c9 (K1++K2) (m+mk p i)=c9 K2 (mk p i):=by
  subst c;simp[c9,List.getD,List.getElem?_append_right]
 have f:c9 (K1++K2) i=c9 K1 i:=by simp[c9,List.getD,List.getElem?_append_left (show i<K1.length by lia)]
 rw[e,f,h i hi]
theorem S9(h:uH x y p)(c:fH x)(k1:mV x a K1)(k2:mV y b K2)(r:NI x.m p a b):NI x.m p (aF [] K1) (aF (K1.foldl aN []) K2):=by
 refine xJ h.pm k1.len (by rw[k2.len,h.m]) λi hi=>?_;obtain⟨L,d,e,s1⟩:=hJ k1 hi;obtain⟨j,f,g,s2⟩:=hJ k2 (n:=mk p i) (by rw[h.m];exact i8 h.pm hi);rw[d,f,r i hi,qH e s1 g s2 (OU h c r hi).symm]
theorem OV(h:uH x y p)(b:fH x)(c:fH y):NI x.m p (aF [] (aY x)) (aF ((aY x).foldl aN []) (aY y)):=by
 refine xJ h.pm (by simp[aY]) (by simp[aY,h.m]) λi hi=>?_;have d:=i8 h.pm hi;have a :mk p i<y.m:=by rw[h.m];exact d
 have e:c9 (aY x) i= .tup (bC x.ns i):=by simp[c9,aY,List.getD,hi]
 have f:c9 (aY y) (mk p i)= .tup (bC y.ns (mk p i)):=by simp[c9,aY,List.getD,a]
 rw[e,f,tW h b c hi]
theorem GR{d:Type}{k:Nat}{x:d}{F:Nat->List d}:∀(a:List Nat),a.Nodup->k∈a->(a.flatMap λj=>(if k=j then [x] else [])++F j).Perm (x::a.flatMap F)
 | [],_,h=>by simp at h
 | j::a,nd,h=>by
  rw[List.flatMap_cons,List.flatMap_cons];have b :=aO4.mp nd;by_cases e:k=j
  ·subst e
   have:(a.flatMap λj=>(if k=j then [x] else [])++F j)=a.flatMap F:=by
    have f:∀j∈a,(if k=j then [x] else [])++F j=F j:=λj c=>by
     have z:¬k=j:=λz=>b.1 (z.symm▸c);rw[if_neg z];rfl
    clear h nd b
    induction a with
    | nil=>rfl
    | cons i a ih=>rw[List.flatMap_cons,List.flatMap_cons,f i List.mem_cons_self,ih λj c=>f j (List.mem_cons_of_mem _ c)]
   rw[this];simp
  ·rw[if_neg e,List.nil_append];have g:k∈a:=by rcases aMf.mp h with z | z;exact absurd z e;exact z
   exact((GR a b.2 g).append_left (F j)).trans List.perm_middle
theorem qI{c:Type}(b:c->Nat){m:Nat}:∀l:List c,(∀a∈l,b a<m)->((List.range m).flatMap λj=>l.filter λa=>decide (b a=j)).Perm l
 | [],_=>by simp
 | x::l,h=>by
  have d:=qI b l λa ha=>h a (aM9 _ ha)
  have e:(λj=>(x::l).filter λa=>decide (b a=j))=λj=>(if b x=j then [x] else [])++l.filter λa=>decide (b a=j):=by
   funext j;by_cases z:b x=j
   ·simp[z]
   ·simp[z]
  rw[e];exact(GR _ aOg (by simpa using h x aM8)).trans (d.cons x)
theorem mQ(h:p.Perm (List.range m)):(List.range m).map (mk p)=p:=by
 have l:p.length=m:=by have:=h.length_eq;simpa using this
 refine aP8 (by simp[l]) λi b a=>?_;simp[mk,List.getD,a]
theorem group{d e:Type}(c:d->Nat)(ky:e->Nat){X:List d}{Y:List e}(f:d->e)(pm:p.Perm (List.range m))(j:∀a∈X,c a<m)(k:∀b∈Y,ky b<m)
  (h:∀i,i<m->(Y.filter λb=>decide (ky b=mk p i)).Perm ((X.filter λa=>decide (c a=i)).map f)):Y.Perm (X.map f):=by
 refine(qI ky Y k).symm.trans ?_;refine(pm.symm.flatMap_right _).trans ?_;rw[<-mQ pm,List.flatMap_map];refine(gV (g:=λi=>(X.filter λa=>decide (c a=i)).map f) _ λi hi=>h i (by simpa using hi)).trans ?_;rw[<-List.map_flatMap];exact(qI c X j).map f
def isG:D->Bool
 | .tup [.tup [_,_,_,.int t],_,_]=>decide (t=0)
 | _=>false
theorem T5(own:List Nat)(n:Nat):∀l:List Sw,((q5 l n).map (lZ own)).filter isG=(l.filter λs=>decide (s.g=n)).map λs=>lZ own ⟨s.s,s.w,s.l,0,s.a,s.b⟩
 | []=>rfl
 | s::l=>by
  have f:=T5 own n l;have e:q5 (s::l) n=EU s n++q5 l n:=rfl
  have i:∀(c:Prop) [Decidable c] (h:Hk),((if c then [h] else []).map (lZ own)).filter isG=if c/\h.t=0 then [lZ own h] else []:=λc _ h=>by
   by_cases z:c
   ·by_cases d:h.t=0
    ·have:isG (lZ own h)=true:=by simp[lZ,BN,isG,d]
     simp[z,d,this]
    ·have:isG (lZ own h)=false:=by simp[lZ,BN,isG];lia
     simp[z,d,this]
   ·simp[z]
  rw[e,List.map_append,List.filter_append,f];simp only[EU,List.map_append,List.filter_append,i];by_cases z:s.g=n
  ·simp[z]
  ·simp[z]
def psi(b:List Nat)(j:Nat):D->Sw
 | .tup [.tup [.str s,.int w,.int l,_],.int A,.int C]=>⟨s,j,min (b.idxOf A.toNat) (b.idxOf C.toNat),max (b.idxOf A.toNat) (b.idxOf C.toNat),w,l⟩
 | _=>⟨"",0,0,0,0,0⟩
theorem RC(b own:List Nat)(j:Nat)(s:Str)(w l:Int)(u v:Nat):psi b j (lZ own ⟨s,w,l,0,u,v⟩)=⟨s,j,min (b.idxOf (mk own u)) (b.idxOf (mk own v)),max (b.idxOf (mk own u)) (b.idxOf (mk own v)),w,l⟩:=by
 simp only[lZ,BN,psi,NS,NR,if_true,Int.toNat_natCast];rcases Nat.le_total (mk own u) (mk own v) with h | h
 ·rw[Nat.min_eq_left h,Nat.max_eq_right h]
 ·rw[Nat.min_eq_right h,Nat.max_eq_left h,Nat.min_comm,Nat.max_comm]
theorem x6(h:i<a.length):mk a i∈a:=by simp[mk,List.getD,h]
theorem JS(nd:b.Nodup)(h:i<b.length):b.idxOf (mk b i)=i:=by
 have:mk b i=b[i]:=by simp[mk,List.getD,h]
 rw[this];exact nd.idxOf_getElem i h
variable{v:Nat}
theorem JH(h:v∈b):mk b (b.idxOf v)=v:=by
 have a:=aPd h;have:mk b (b.idxOf v)=b[b.idxOf v]:=by simp only[mk,List.getD,List.getElem?_eq_getElem a,Option.getD_some]
 rw[this];exact List.getElem_idxOf a
def lead(a b:List Nat):List Nat:=a.map λv=>b.idxOf v
theorem sD(h:i<a.length):mk (lead a b) i=b.idxOf (mk a i):=by simp[lead,mk,List.getD,h]
theorem BD(nd:a.Nodup)(pm:a.Perm b)(d:a.length=m):(lead a b).Perm (List.range m):=by
 have nb:b.Nodup:=pm.nodup_iff.mp nd
 have e:b.map (λv=>b.idxOf v)=List.range m:=by
  refine aP8 (by simp[<-d,pm.length_eq]) λi c f=>?_;simp at c;simp[nb.idxOf_getElem i c]
 rw[<-e];exact pm.map _
theorem XO{l l' :List (Str×Nat)}(h:bC l i=bC l' j):(l.filter λq=>decide (q.2=i)).map (·.1)=(l'.filter λq=>decide (q.2=j)).map (·.1):=by
 unfold bC at h;exact aPi (λa b e=>by injection e) |>.mp h
theorem Y6{l:List (Str×Nat)}:(l.filter λq=>decide (q.2=j))=((l.filter λq=>decide (q.2=j)).map (·.1)).map λs=>(s,j):=by
 rw[List.map_map]
 have:∀q∈l.filter λq=>decide (q.2=j),q=(q.1,j):=λq a=>by
  have:=(aNi.mp a).2;simp at this;rw[<-this]
 conv=>lhs;rw[<-List.map_id (l.filter λq=>decide (q.2=j))]
 exact aMh λq a=>this q a
theorem sound(p:fH x)(n:fH y)(hm:y.m=x.m)(la:a.length=x.m)(lb:b.length=x.m)
  (nm:∀i j,i<x.m->j<x.m->mk a i=mk b j->bC x.ns i=bC y.ns j)
  (st:∀i j,i<x.m->j<x.m->mk a i=mk b j->(tells x a i).Perm (tells y b j)) (nd:a.Nodup) (pm:a.Perm b):uH x y (lead a b):=by
 have h:=BD nd pm la;have nb:b.Nodup:=pm.nodup_iff.mp nd
 have u:∀i,i<x.m->mk a i=mk b (mk (lead a b) i):=λi hi=>by
  rw[sD (by lia),JH (pm.mem_iff.mp (x6 (by lia)))]
 refine⟨h,hm,?_,?_⟩
 ·refine group (λq:Str×Nat=>q.2) (λq:Str×Nat=>q.2) (λq=>(q.1,mk (lead a b) q.2)) h p.ns (λq r=>by rw[<-hm];exact n.ns q r) λi hi=>?_;have t:=i8 h hi;have e:=XO (nm i _ hi t (u i hi));rw[Y6,<-e];rw[List.map_map];refine aNs (aMh λq r=>?_);have:=(aNi.mp r).2;simp at this;simp[this]
 ·refine group (λs=>s.g) (λs=>s.g) (CQ (lead a b)) h (λs f=>(p.sw s f).1) (λs f=>by rw[<-hm];exact(n.sw s f).1) λi hi=>?_;have t:=i8 h hi;have o:=((st i _ hi t (u i hi)).filter isG).map (psi b (mk (lead a b) i));unfold tells at o;rw[T5,T5,List.map_map,List.map_map]at o
  have v:((x.sw.filter λs=>decide (s.g=i)).map (psi b (mk (lead a b) i) ∘ λs=>lZ a ⟨s.s,s.w,s.l,0,s.a,s.b⟩))=(x.sw.filter λs=>decide (s.g=i)).map (CQ (lead a b)):=by
   refine aMh λs f=>?_;obtain⟨d,c⟩:=aNi.mp f;obtain⟨A,B,C⟩:=p.sw s d;simp at c;simp only[Function.comp,RC,CQ,sD (show s.a<a.length by lia),sD (show s.b<a.length by lia),c];split
   ·rename_i z;rw[Nat.min_eq_left z,Nat.max_eq_right z]
   ·rename_i z;rw[Nat.min_eq_right (by lia),Nat.max_eq_left (by lia)]
  have D:((y.sw.filter λs=>decide (s.g=mk (lead a b) i)).map (psi b (mk (lead a b) i) ∘ λs=>lZ b ⟨s.s,s.w,s.l,0,s.a,s.b⟩))=y.sw.filter λs=>decide (s.g=mk (lead a b) i):=by
   conv=>rhs;rw[<-List.map_id (y.sw.filter λs=>decide (s.g=mk (lead a b) i))]
   refine aMh λs f=>?_;obtain⟨d,c⟩:=aNi.mp f;obtain⟨A,B,C⟩:=n.sw s d;have k:=n.ab s d;simp at c;simp only[Function.comp,RC,JS nb (show s.a<b.length by lia),JS nb (show s.b<b.length by lia),<-c,Nat.min_eq_left k,Nat.max_eq_right k,id]
  rw[v,D]at o;exact o.symm
theorem all_map{b:Type}{f:b->D}{Pr:b->Prop}:∀{l:List D},(∀d∈l,∃a,Pr a/\d=f a)->∃as:List b,l=as.map f/\∀a∈as,Pr a
 | [],_=>⟨[],rfl,by simp⟩
 | d::l,h=>by
  obtain⟨a,ha,rfl⟩:=h d aM8;obtain⟨as,rfl,c⟩:=all_map λe he=>h e (aM9 _ he);exact⟨a::as,rfl,by simp;exact⟨ha,c⟩⟩
theorem LB(l:List (Str×Nat)):EV (l.map gC):= .inr ⟨.s,[.i],λd hd=>by
 obtain⟨p,_,rfl⟩:=aMd.mp hd
 exact⟨_,rfl,rfl⟩⟩
theorem CF(l:List Sw):EV (l.map iB):= .inr ⟨.s,[.i,.i,.i,.i,.i],λd hd=>by
 obtain⟨p,_,rfl⟩:=aMd.mp hd
 exact⟨_,rfl,rfl⟩⟩
theorem FU(n:Nat):∀l:List (Str×Nat),aX n (l.map gC)=true
 | []=>rfl
 | p::l=>by simp only[List.map_cons,aX,FU n l,Bool.and_true];rfl
theorem FR(n:Nat):∀l:List Sw,aX n (l.map iB)=true
 | []=>rfl
 | p::l=>by simp only[List.map_cons,aX,FR n l,Bool.and_true];rfl
theorem FV(n:Nat)(x:Ls):cI n (bZ x)=true:=by simp[bZ,cI,aX,FU,FR]
def bk(p:List Nat)(m:Nat):List Nat:=lead (List.range m) p
theorem F7(h:i<m):mk (List.range m) i=i:=by simp[mk,List.getD,h]
theorem NF(h:p.Perm (List.range m)):(bk p m).Perm (List.range m):=BD aOg h.symm (by simp)
theorem y8(h:p.Perm (List.range m))(hi:i<m):mk (bk p m) (mk p i)=i:=by
 have l:p.length=m:=by have:=h.length_eq;simpa using this
 have:=i8 h hi;unfold bk;rw[sD (by simpa using this),F7 this,JS (h.nodup_iff.mpr List.nodup_range) (by lia)]
theorem aHk(h:p.Perm (List.range m))(a:j<m):mk p (mk (bk p m) j)=j:=by
 unfold bk;rw[sD (by simpa using a),F7 a,JH (h.mem_iff.mpr (by simpa using a))]
theorem aBf(h:p.Perm (List.range m)){s:Sw}(d:s.g<m)(f:s.a<m)(i:s.b<m)(c:s.a<=s.b):CQ (bk p m) (CQ p s)=s:=by
 unfold CQ;by_cases z:mk p s.a<=mk p s.b
 ·simp only[if_pos z,y8 h d,y8 h f,y8 h i,if_pos c]
 ·by_cases e:s.b<=s.a
  ·have j :s.a=s.b:=by lia
   exact absurd (by rw[j];exact aM7 _) z
  ·simp only[if_neg z,y8 h d,y8 h f,y8 h i,if_neg e]
theorem DQ(h:uH x y p)(a:fH x):uH y x (bk p x.m):=by
 refine⟨by rw[h.m];exact NF h.pm,h.m.symm,?_,?_⟩
 ·refine List.Perm.symm ((h.ns.map _).trans ?_);rw[List.map_map]
  conv=>rhs;rw[<-List.map_id x.ns]
  refine aNs (aMh λq c=>?_);simp[y8 h.pm (a.ns q c)]
 ·refine List.Perm.symm ((h.sw.map _).trans ?_);rw[List.map_map]
  conv=>rhs;rw[<-List.map_id x.sw]
  refine aNs (aMh λs b=>?_);obtain⟨d,e,f⟩:=a.sw s b;exact aBf h.pm d e f (a.ab s b)
theorem S7{x y z:Ls}(a:uH x y p)(b:uH x z p)(c:fH y)(e:fH z):bZ y=bZ z:=by
 have f:=fK (LB y.ns) (λd hd=>hd) ((a.ns.trans b.ns.symm).map gC) c.up e.up;have g:=fK (CF y.sw) (λd hd=>hd) ((a.sw.trans b.sw.symm).map iB) c.us e.us;unfold bZ;rw[f,g,a.m,b.m]
def Few(x:Ls):Prop:=x.m<=8\/∃i,i<x.m/\∀j,j<x.m->bC x.ns j=bC x.ns i->j=i
theorem Y7(h:uH x y p)(b:fH x)(c:fH y)(f:Few x):Few y:=by
 rcases f with f | ⟨i,hi,f⟩
 ·exact .inl (by rw[h.m];exact f)
 ·refine .inr ⟨mk p i,by rw[h.m];exact i8 h.pm hi,λj d e=>?_⟩;have a :j<x.m:=by rw[<-h.m];exact d
  have g:=tW (DQ h b) c b d;rw[tW h b c hi,<-g]at e;have k:=i8 (NF h.pm) a;have:=f _ k e;rw[<-this,aHk h.pm a]
theorem fM:∀l:List Nat,dX (aC l)=true/\bM (aC l)<=1
 | []=>⟨rfl,by simp[aC,bM]⟩
 | n::l=>by
  obtain⟨a,b⟩:=fM l;have e:aC (n::l)= .int (n:Nat)::aC l:=rfl;refine⟨by rw[e];simp[dX,cY,a],?_⟩;rw[e];simp only[bM,deep]
  lia
theorem sW(M:MH)(n:Nat):∀l:List Nat,(aC l).map (aO M n)=aC l
 | []=>rfl
 | k::l=>by
  have e:aC (k::l)= .int (k:Nat)::aC l:=rfl;rw[e,List.map_cons,sW M n l];cases n <;> rfl
theorem fY(l:List Nat):EV (aC l):= .inl ⟨.i,λd hd=>by
 obtain⟨n,_,rfl⟩:=aMd.mp hd
 rfl⟩
theorem iJ(h:aC a=aC b):a=b:=(aPi λi j e=>by injection e with e;lia).mp h
def natOf:D->Nat
 | .int i=>i.toNat
 | _=>0
theorem x3:∀l:List Nat,(aC l).map natOf=l
 | []=>rfl
 | n::l=>by
  have:=x3 l;unfold aC at*;simp only[List.map_cons,this,natOf,Int.toNat_natCast]
theorem BM:(aC a).Perm (aC b)↔a.Perm b:=by
 refine⟨λh=>?_,λh=>h.map _⟩;have:=h.map natOf;rw[x3,x3]at this;exact this
theorem jN{l:List D}(h:l.Perm (aC a)):∃c:List Nat,l=aC c/\c.Perm a:=by
 obtain⟨c,rfl,_⟩:=all_map (f:=λn:Nat=>D.int (n:Nat)) (Pr:=λ_=>True) (l:=l) λd hd=>by
  obtain⟨n,_,rfl⟩:=aMd.mp (h.mem_iff.mp hd);exact⟨n,trivial,rfl⟩
 exact⟨c,rfl,BM.mp h⟩
theorem qJ{l l' :List D}(c:l.Perm (aC a))(s1:l.Pairwise (λd e=>lx (enc e) (enc d)=false))(f:l'.Perm (aC b))(s2:l'.Pairwise (λd e=>lx (enc e) (enc d)=false)):l=l' ↔a.Perm b:=by
 refine⟨λz=>?_,λz=>?_⟩
 ·subst z;exact BM.mp (c.symm.trans f)
 ·exact fK (fY a) (λd hd=>c.mem_iff.mp hd) ((c.trans (z.map _)).trans f.symm) s1 s2
theorem xZ{k f :Nat}(h:M[k]? =some (.lst (aC a)))(h' :M[f]? =some (.lst (aC b)))(q:∀c:Bool,(c=true↔¬a=b)->Q (.bl c) M):qN (.ref k) (.ref f) M Q:=by
 have e:∀{k:Nat} {a:List Nat},M[k]? =some (.lst (aC a))->aO M 2 (.ref k)= .fl (aC a):=λh=>by
  simp only[aO,h];rw[sW]
 have j:=fM a;have l:=fM b;have g:cY (.fl (aC a))=true:=by simp[cY,j.1]
 have i:cY (.fl (aC b))=true:=by simp[cY,l.1]
 refine⟨2,?_⟩;rw[e h,e h'];refine⟨eN g,eN i,by simp only[deep];lia,q _ ?_⟩;have:=k6 _ _ g i;rw[Bool.not_eq_true',<-Bool.not_eq_true,this];exact⟨λz d=>z (by rw[d]),λz d=>z (iJ (by injection d))⟩
def qM:OA:=λds mh Q=>∃a b:List Nat,ds=[L1 a b]/\a.length<=50/\b.length<=50/\∀c:Bool,(c=true↔¬a.Perm b)->Q (.bl c) mh
theorem TQ(ds:List D)(mh:MH)(R:DK)(ok:iT mh)(f:qM ds mh R):jC (En mh R) (aJ ["marked"] ds) mh:=by
 obtain⟨a,b,rfl,la,lb,q⟩:=f;simp[jC,aJ,L1,pJ];refine⟨_,rfl,by simp[aC];lia,fY a,λl d s1=>⟨_,rfl,by simp[aC];lia,fY b,λl' e s2=>?_⟩⟩;have hi:=qJ d s1 e s2;obtain⟨c,rfl,_⟩:=jN d;obtain⟨h,rfl,_⟩:=jN e;refine xZ (aI (aL _ _)) (aL _ _) λk g=>?_;refine((aR.refl.push _).push _).out ok rfl (q k ?_);rw[g,<-hi];exact not_congr ⟨λz=>by rw[z],iJ⟩
theorem uA:∀(own:List Nat) (k:Nat),nC k (aC own)=(List.range own.length).map λi=>D.tup [.int ((k+i:Nat):Int),.int (mk own i:Nat)]
 | [],k=>rfl
 | a::own,k=>by
  have b:=uA own (k+1);have e:aC (a::own)= .int (a:Nat)::aC own:=rfl;rw[e,nC,b,List.length_cons,List.range_succ_eq_map,List.map_cons,List.map_map];congr 1;refine aMh λi _=>?_;simp only[Function.comp,mk,List.getD_cons_succ,Nat.succ_eq_add_one];rw[show k+1+i=k+(i+1) by lia]
def aK(own:List Nat)(n:Nat):List D:=(List.range own.length).map λi=>.tup [.int (mk own i:Nat),.bl (decide (i=n))]
variable{a2:Option D}
theorem FO{kk:List D}(b:own.length<=100)(a:mh[rk]? =some (.lst kk))(kl:kk.length<=10)
  (q:E.nx [a0,a1,a2,some (.ref rk),some (.tup (aC own)),some (.int (n:Nat))] (List.set (mh++[MO.lst (aK own n)]) rk (MO.lst (kk++[D.ref (List.length mh)])))):
  jR p5 E [a0,a1,a2,some (.ref rk),some (.tup (aC own)),some (.int (n:Nat))] mh:=by
 have sz:=aMe;have c:(aC own).length=own.length:=by simp[aC]
 simp[jR,lH,bF];refine⟨⟨_,a⟩,by lia,?_⟩;rw[uA];refine jP (λi=>D.tup [.int ((0+i:Nat):Int),.int (mk own i:Nat)]) (λi=>i) (λi=>.tup [.int (mk own i:Nat),.bl (decide (i=n))]) (List.range own.length) (by simp[bF]) (λi hi N hN=>?_) ?_
 ·simp[jL];have e:(((i:Nat):Int)==((n:Nat):Int))=decide (i=n):=by rw[Bool.eq_iff_iff];simp;lia
  rw[e];exact⟨by lia,hN⟩
 ·rw[dS (aI a)];exact⟨by lia,by simpa[aK] using q⟩
theorem Z3(own:List Nat)(n:Nat):∀k∈aK own n,Ky k:=λk a=>by
 obtain⟨i,_,rfl⟩:=aMd.mp a;exact⟨_,rfl,rfl,by simp[deep,bM]⟩
def sWN:OA:=λds mh Q=>∃(a b:List Nat) (i j:Nat),ds=[L1 a b,.int (i:Nat),.int (j:Nat)]/\a.length<=100/\b.length<=100/\Q (tR (aK a i) (aK b j)) mh
theorem aE9(ds:List D)(mh:MH)(R:DK)(ok:iT mh)(o:sWN ds mh R):kH p5 (En mh R) (aJ ["first","net","other_net","keys","own","named"] ds) mh:=by
 obtain⟨a,b,i,j,rfl,la,lb,q⟩:=o;have sz:=aMe;have p:aR mh (mh++[MO.lst []]):=aR.refl.push _;have h:∀(c:List Nat) (n:Nat),(aK c n).length=c.length:=λc n=>by simp[aK]
 simp[kH,pL,aJ,L1,bF,nF];refine⟨by lia,by lia,?_⟩;simp only[kY];simp;refine FO la (aL _ _) (by simp) ?_;have g:aR mh (List.set (mh++[MO.lst []]++[MO.lst (aK a i)]) mh.length (MO.lst ([]++[D.ref (mh++[MO.lst []]).length]))):=(p.push _).set (aM7 _) _;have e:(List.set (mh++[MO.lst []]++[MO.lst (aK a i)]) mh.length (MO.lst ([]++[D.ref (mh++[MO.lst []]).length])))[mh.length]? =some (.lst ([]++[D.ref (mh++[MO.lst []]).length])):=bK _ (aI (aL _ _));have f:(List.set (mh++[MO.lst []]++[MO.lst (aK a i)]) mh.length (MO.lst ([]++[D.ref (mh++[MO.lst []]).length])))[(mh++[MO.lst []]).length]? =some (.lst (aK a i)):=get_set (aL _ _) (by simp);have r:(mh++[MO.lst []]).length=mh.length+1:=by simp
 rw[r]at e f g⊢;generalize List.set (mh++[MO.lst []]++[MO.lst (aK a i)]) mh.length (MO.lst ([]++[D.ref (mh.length+1)]))=d at g e f⊢;have s:mh.length+1<d.length:=(aM6.mp f).1;simp;refine FO lb e (by simp) ?_;have k:aR mh (List.set (d++[MO.lst (aK b j)]) mh.length (MO.lst ([]++[D.ref (mh.length+1)]++[D.ref d.length]))):=(g.push _).set (aM7 _) _;have f0:(List.set (d++[MO.lst (aK b j)]) mh.length (MO.lst ([]++[D.ref (mh.length+1)]++[D.ref d.length])))[mh.length]? =some (.lst ([]++[D.ref (mh.length+1)]++[D.ref d.length])):=bK _ (aI e);have l:(List.set (d++[MO.lst (aK b j)]) mh.length (MO.lst ([]++[D.ref (mh.length+1)]++[D.ref d.length])))[mh.length+1]? =some (.lst (aK a i)):=get_set (aI f) (by lia);have m:(List.set (d++[MO.lst (aK b j)]) mh.length (MO.lst ([]++[D.ref (mh.length+1)]++[D.ref d.length])))[d.length]? =some (.lst (aK b j)):=get_set (aL _ _) (by lia);generalize List.set (d++[MO.lst (aK b j)]) mh.length (MO.lst ([]++[D.ref (mh.length+1)]++[D.ref d.length]))=t at k f0 l m⊢;simp[pK];refine⟨mh.length,mh.length+1,d.length,aK a i,aK b j,rfl,f0,l,m,Z3 a i,Z3 b j,by rw[h];lia,by rw[h];lia,?_⟩;exact k.out ok (by simp[cI,aX,cP]) q
def Q0:OA:=λds mh Q=>∃x y:Ls,ds=[bZ x,bZ y]/\fH x/\fH y/\x.m=y.m/\x.sw.length=y.sw.length/\Q (.bl true) mh
theorem aI9(ds:List D)(mh:MH)(R:DK)(ok:iT mh)(d:Q0 ds mh R):g6 (En mh R) (aJ ["one","other"] ds) mh:=by
 obtain⟨x,y,rfl,e,i,f,g,q⟩:=d;have sz:=aMe;have h:∀a b c:D,fI [a,b,c] 2=some c:=λa b c=>rfl;have j:=e.lw;simp[g6,aJ,bZ,h,f,g];exact bT q
def mH(a:List Nat):List Nat:=(List.range a.length).filter λi=>decide (1<a.count (mk a i))
def PN(l:List Nat)(v:Nat):Option D:=if l.count v=0 then none else some (.int ((l.count v:Nat):Int))
theorem UQ(l:List Nat)(v u:Nat):(l++[v]).count u=l.count u+if v=u then 1 else 0:=by
 rw[List.count_append];by_cases e:v=u
 ·subst e;simp
 ·rw[if_neg e,List.count_cons_of_ne e];simp
def sNA:OA:=λds mh Q=>∃a:List Nat,ds=[.tup (aC a)]/\a.length<=100/\Q (.ref mh.length) (mh++[.lst (aC (mH a))])
theorem Y0(ds:List D)(mh:MH)(R:DK)(ok:iT mh)(j:sNA ds mh R):jB (En mh R) (aJ ["own","many","mark"] ds) mh:=by
 obtain⟨a,rfl,la,q⟩:=j;have sz:=aMe;simp[jB,nN,aJ,bF];refine cQ (λi f M=>(∃a2,f=[some (D.tup (aC a)),some (.ref mh.length),a2])/\aR mh M/\∃kvs,M[mh.length]? =some (.dic false kvs)/\kvs.length<=i/\∀v:Nat,gI kvs (.int (v:Nat))=PN (a.take i) v) _ (λ_ _ _ _=>trivial) ?_ ?_ ⟨⟨_,rfl⟩,aR.refl.push _,[],aL _ _,by simp,λv=>by simp[gI,PN]⟩
 ·rintro i d f M N hi ⟨⟨a2,rfl⟩,px,kvs,g,kl,b⟩ nx;obtain⟨v,c,rfl⟩:=o6 hi;have k:i<a.length:=(aM6.mp c).1;have l:a.take (i+1)=a.take i++[v]:=by rw[List.take_add_one,c];rfl
  simp[mW];refine⟨⟨_,g⟩,kvs,g,⟨.inl (v:Int),rfl⟩,?_⟩
  have m:(gI kvs (.int (v:Nat))).getD (.int 0)= .int (((a.take i).count v:Nat):Int):=by
   rw[b v,PN];by_cases e:(a.take i).count v=0
   ·rw[if_pos e,e];rfl
   ·rw[if_neg e];rfl
  rw[m];simp;refine⟨_,kvs,.inl (v:Int),rfl,g,rfl,by lia,?_⟩;refine nx _ _ ⟨⟨_,rfl⟩,px.set (aM7 _) _,_,bK _ g,?_,λu=>?_⟩
  ·have:=Q9 kvs (.int (v:Nat)) (.int (((a.take i).count v:Nat)+1:Int))
   lia
  ·rw[l,PN,UQ];by_cases e:v=u
   ·subst e;rw[VR,if_pos rfl,if_neg (by lia)];simp
   ·rw[IF _ _ (λz=>e (by injection z with z;lia)),b u,PN,if_neg e,Nat.add_zero]
 ·rintro f M ⟨⟨a2,rfl⟩,px,kvs,g,kl,b⟩;rw[show (aC a).length=a.length by simp[aC],List.take_length]at b;simp[nM,bF];refine⟨by simp[aC];lia,?_⟩;rw[uA];refine mT (λi=>D.tup [.int ((0+i:Nat):Int),.int (mk a i:Nat)]) (λi=>decide (1<a.count (mk a i))) (λi=>i) (λi=>.int (i:Nat)) (List.range a.length) (by simp[bF]) (λi hi N r n o=>?_) ?_
  ·have h :i<a.length:=by simpa using hi
   have p:a.count (mk a i)≠0:=λz=>List.count_eq_zero.mp z (x6 h);simp[jL];refine⟨_,kvs,.inl (mk a i:Int),_,rfl,g,rfl,by rw[b,PN,if_neg p],?_⟩;simp;by_cases e:1<a.count (mk a i)
   ·rw[if_pos (by lia)];simpa using n (by simpa using e)
   ·rw[if_neg (by lia)];exact o (by simpa using e)
  ·refine(px.push _).tR ok px.le (aL _ _) (cP _ _) ?_;simpa[mH,aC] using q
def tD(t:List Nat×List Nat):D:=L1 t.1 t.2
def Rtp(tl:List (List Nat×List Nat))(i j:Nat)(d:D):Prop:=(d= .bU/\∀k t,k<2->tl[k]? =some t->mk t.1 i=mk t.2 j)\/∃(k:Nat) (t:List Nat×List Nat),d= .int (k:Nat)/\k<2/\tl[k]? =some t/\mk t.1 i≠mk t.2 j/\∀a t',a<k->tl[a]? =some t' ->mk t'.1 i=mk t'.2 j
theorem ZC(ds:List D):D3.cutD ds none (some 2)=ds.take 2:=by
 unfold D3.cutD;have a:HT.dE ds.length 0 none=0:=by simp[HT.dE]
 have b:HT.dE ds.length ds.length (some 2)=min 2 ds.length:=HT.V7 _ _ 2;rw[a,b];simp
def V5:OA:=λds mh Q=>∃(r i j:Nat) (tl:List (List Nat×List Nat)),ds=[.ref r,.int (i:Nat),.int (j:Nat)]/\mh[r]? =some (.lst (tl.map tD))/\tl.length<=1000/\(∀t∈tl,i<t.1.length/\j<t.2.length)/\
 ∀d,Rtp tl i j d->Q d mh
theorem aI5(ds:List D)(mh:MH)(R:DK)(ok:iT mh)(s:V5 ds mh R):eI (En mh R) (aJ ["told","net","other_net","rounds","marked"] ds) mh:=by
 obtain⟨r,i,j,tl,rfl,u,v,w,q⟩:=s;have sz:=aMe;simp[eI,aJ];rw[QU u,ZC];rw[bQ (aL _ _)];simp only[aH];refine⟨by simp;lia,?_⟩;refine cQ (λn g M=>(∃l m,g=[some (D.ref r),some (.int (i:Nat)),some (.int (j:Nat)),l,m])/\M=mh++[.lst ((tl.map tD).take 2)]/\∀k t,k<n->k<2->tl[k]? =some t->mk t.1 i=mk t.2 j) _ (λ_ _ M h=>by rw[h.2.1];exact bQ (aL _ _)) ?_ ?_ ⟨⟨_,_,rfl⟩,rfl,λk t c=>absurd c (aPs _)⟩
 ·rintro n d g M N x ⟨⟨l,m,rfl⟩,rfl,f⟩ nx;obtain⟨e,he,rfl⟩:=pC x
  have b:n<2:=by
   have:=(aM6.mp he).1;simp at this
   lia
  rw[List.getElem?_take_of_lt b,List.getElem?_map]at he;obtain⟨t,ht,rfl⟩:=aN1.mp he;obtain⟨y,A⟩:=w t (aMc ht);simp[iU,tD,L1,pJ,fG y,fG A];by_cases e:mk t.1 i=mk t.2 j
  ·rw[if_pos (by lia)];refine nx _ _ ⟨⟨_,_,rfl⟩,rfl,λk t' c o a =>?_⟩;by_cases z:k=n
   ·subst z;rw[ht]at a;cases a;exact e
   ·exact f k t' (by lia) o a
  ·rw[if_neg (by lia)];exact xS ok rfl (q _ (.inr ⟨n,t,rfl,b,ht,e,λB t' p a =>f B t' p (by lia) a⟩))
 ·rintro g M ⟨⟨l,m,rfl⟩,rfl,f⟩;simp[jT];refine xS ok rfl (q _ (.inl ⟨rfl,λk t c ht=>f k t ?_ c ht⟩));rw[pB];have:=(aM6.mp ht).1;simp
  lia
def tC(t:List Nat×List Nat):List Nat:=t.1++t.2
structure TL(x y:Ls)(t0:List Nat×List Nat)(tl:List (List Nat×List Nat)):Prop where
 hd:tl[0]? =some t0
 nb:∀t∈tl,Mk x.m t.1 t.2
 fn:∀t∈tl,IC (tC t0) (tC t)
 rs:∀p,uH x y p->NI x.m p t0.1 t0.2->∀t∈tl,NI x.m p t.1 t.2
 ln:tl.length<=400
def Stb(x y:Ls)(t:List Nat×List Nat):Prop:=¬t.1.Perm t.2\/∀i j,i<x.m->j<x.m->mk t.1 i=mk t.2 j->(tells x t.1 i).Perm (tells y t.2 j)
theorem iI(h:i<K1.length):c9 (K1++K2) i=c9 K1 i:=by simp[c9,List.getD,List.getElem?_append_left h]
theorem j9(h:K1.length=m):c9 (K1++K2) (m+j)=c9 K2 j:=by
 subst h;simp[c9,List.getD,List.getElem?_append_right]
section
variable {x y:Ls}{a b:List Nat}{K1 K2:List D}(hm:y.m=x.m)(mk0:Mk x.m a b)(k1:mV x a K1)(k2:mV y b K2)
include hm mk0 k1 k2
theorem GK(hi:i<x.m+x.m):∃L,c9 (K1++K2) i= .tup [.int (mk (a++b) i:Nat),.tup L]:=by
 by_cases h:i<x.m
 ·obtain⟨L,e,_⟩:=hJ k1 h;exact⟨L,by rw[iI (by rw[k1.len];exact h),e,bR (by rw[mk0.la];exact h)]⟩
 ·obtain⟨j,rfl⟩:∃j,i=x.m+j:=⟨i-x.m,by lia⟩
  obtain⟨L,e,_⟩:=hJ k2 (n:=j) (by lia);exact⟨L,by rw[j9 k1.len,e,hG mk0.la]⟩
theorem xX:(K1++K2).length=x.m+x.m:=by simp[k1.len,k2.len,hm]
theorem C5:Mk x.m (aF [] K1) (aF (K1.foldl aN []) K2):=x5 k1.len (by rw[k2.len,hm])
theorem vX:IC (a++b) (aF [] K1++aF (K1.foldl aN []) K2):=λi j hi c e=>by
 have f:=xX hm mk0 k1 k2;rw[<-cK]at hi c e;rw[aP,f]at hi c;have d :=(dR (by lia) (by lia)).mp e;obtain⟨L,g⟩:=GK hm mk0 k1 k2 hi;obtain⟨k,h⟩:=GK hm mk0 k1 k2 c;rw[g,h]at d;simp at d
 lia
theorem LZ:(aF [] K1++aF (K1.foldl aN []) K2)=a++b\/eqs (aF [] K1++aF (K1.foldl aN []) K2)<eqs (a++b):=by
 obtain⟨K,kl,e⟩:=mk0.nu;have fn:=vX hm mk0 k1 k2;have c:=xX hm mk0 k1 k2;rw[<-cK]at fn⊢;rw[e]at fn⊢;exact V0 (by lia) fn
theorem XQ(e:(aF [] K1++aF (K1.foldl aN []) K2)=a++b)(hi:i<x.m)(k:j<x.m)(h:mk a i=mk b j):(tells x a i).Perm (tells y b j):=by
 have l:=xX hm mk0 k1 k2;rw[<-bR (a:=a) (b:=b) (by rw[mk0.la];exact hi),<-hG (a:=a) (b:=b) mk0.la,<-e,<-cK]at h;have h' :=(dR (by lia) (by lia)).mp h;rw[iI (by rw[k1.len];exact hi),j9 k1.len]at h';obtain⟨L,d,c,_⟩:=hJ k1 hi;obtain⟨o,f,g,_⟩:=hJ k2 (n:=j) (by lia);rw[d,f]at h';simp at h';rw[h'.2]at c;exact c.symm.trans g
end
variable{t0 l:List Nat×List Nat}{tl:List (List Nat×List Nat)}
theorem TL.snoc(h:TL x y t0 (tl++[l]))(d:fH x)(hm:y.m=x.m)(k1:mV x l.1 K1)(k2:mV y l.2 K2)(e:tl.length+2<=400):TL x y t0 ((tl++[l])++[(aF [] K1,aF (K1.foldl aN []) K2)]):=by
 have a:l∈tl++[l]:=by simp
 have mk0:=h.nb l a;refine⟨?_,λt ht=>?_,λt ht=>?_,λp b r t ht=>?_,by simp;lia⟩
 ·rw[List.getElem?_append_left (by simp)];exact h.hd
 ·rcases aMi.mp ht with ht | ht
  ·exact h.nb t ht
  ·simp at ht;subst ht;exact C5 hm mk0 k1 k2
 ·rcases aMi.mp ht with ht | ht
  ·exact h.fn t ht
  ·simp at ht;subst ht;have c:=C5 hm mk0 k1 k2;exact(h.fn l a).trans (vX hm mk0 k1 k2) (by simp[tC,c.la,c.lb,mk0.la,mk0.lb])
 ·rcases aMi.mp ht with ht | ht
  ·exact h.rs p b r t ht
  ·simp at ht;subst ht;exact S9 b d k1 k2 (h.rs p b r l a)
theorem aCr{a b c d:List Nat}(q:∀k:Bool,(k=true↔a=c/\b=d)->Q (.bl k) mh):oEq (L1 a b) (L1 c d) mh Q:=by
 have f:∀a b:List Nat,dX [D.tup (aC a),.tup (aC b)]=true/\bM [D.tup (aC a),.tup (aC b)]<=2:=λa b=>by
  have e:=fM a;have g:=fM b;refine⟨by simp[dX,cY,e.1,g.1],?_⟩;simp only[bM,deep]
  lia
 unfold L1;rw[aGj];refine⟨iK (f a b).1,iK (f c d).1,by have:=(f a b).2;lia,q _ ?_⟩;rw[sP _ _ (f a b).1 (f c d).1];simp only[List.cons.injEq,D.tup.injEq,and_true];exact⟨λz=>⟨iJ z.1,iJ z.2⟩,λz=>by rw[z.1,z.2];exact⟨rfl,rfl⟩⟩
def VA(x y:Ls)(t t' :List Nat×List Nat):Prop:=∃K1 K2,mV x t.1 K1/\mV y t.2 K2/\t' =(aF [] K1,aF (K1.foldl aN []) K2)
theorem GJ(h:mV x a K)(h' :mV x a K'):K=K' :=by
 refine aP2 λn=>?_;by_cases b:n<x.m
 ·obtain⟨L,e,p,s⟩:=h.at_ n b;obtain⟨g,c,d,f⟩:=h'.at_ n b;rw[e,c,qH p s d f (List.Perm.refl _)]
 ·rw[List.getElem?_eq_none (by rw[h.len];lia),List.getElem?_eq_none (by rw[h'.len];lia)]
theorem CZ{t u v:List Nat×List Nat}(h:VA x y t u)(h' :VA x y t v):u=v:=by
 obtain⟨K1,K2,k1,k2,rfl⟩:=h;obtain⟨c,d,a,b,rfl⟩:=h';rw[GJ k1 a,GJ k2 b]
inductive Run (x y:Ls):List Nat×List Nat->List (List Nat×List Nat)->List Nat×List Nat->Prop where
 | stop (t:List Nat×List Nat):(¬t.1.Perm t.2\/VA x y t t)->Run x y t [] t
 | step {t t' l:List Nat×List Nat} {tl:List (List Nat×List Nat)}:t.1.Perm t.2->VA x y t t' ->t' ≠t->Run x y t' tl l->Run x y t (t::tl) l
def sMO:OA:=λds mh Q=>∃(a b:Nat) (x y:Ls) (t0:List Nat×List Nat),ds=[.tup [.ref a,.ref b],tD t0]/\fH x/\fH y/\y.m=x.m/\HA mh a x/\HA mh b y/\Mk x.m t0.1 t0.2/\
 ∀tl l,TL x y t0 (tl++[l])->Stb x y l->Run x y t0 tl l->Q (.ref mh.length) (mh++[.lst ((tl++[l]).map tD)])
theorem CT(n:Nat):∀tl:List (List Nat×List Nat),aX n (tl.map tD)=true
 | []=>rfl
 | t::tl=>by simp[aX,cI,tD,L1,cP,CT n tl]
theorem aLj(ds:List D)(mh:MH)(R:DK)(ok:iT mh)(F:sMO ds mh R):mL qM uY (En mh R) (aJ ["sides","first","told","following"] ds) mh:=by
 obtain⟨h,m,x,y,t0,rfl,n,G,hm,H,I,mk0,q⟩:=F;have sz:=aMe;have P:=n.m8
 have go:∀(k:Nat) (tl:List (List Nat×List Nat)) (l:List Nat×List Nat) (M:MH) (o:Option D),eqs (tC l)<=k->TL x y t0 (tl++[l])->(∀tl' l',Run x y l tl' l' ->Run x y t0 (tl++tl') l')->tl.length+k<=330->aR mh M->M[mh.length]? =some (.lst ((tl++[l]).map tD))->
   eQ (i6 (mP (aE qM (aA (aU bO (aB 2) (VD zT (wC (.int 1)))) aD)))) (lB qM uY) {En mh R with nx:=eJ qM uY (En mh R)} (k+1) [some (.tup [.ref h,.ref m]),some (tD t0),some (.ref mh.length),o] M:=by
  intro k
  induction k using Nat.strongRecOn with
  | ind k J=>
   intro tl l M o K T s Q px g;have L:l∈tl++[l]:=by simp
   have a:=T.nb l L;have u:fI ((tl++[l]).map tD) (-1)=some (tD l):=by rw[List.map_append];exact DP _ _
   have v:Stb x y l->Run x y l [] l->eJ qM uY (En mh R) [some (.tup [.ref h,.ref m]),some (tD t0),some (.ref mh.length),o] M:=λst d=>by
    simp[eJ];exact px.tR ok (aM7 _) g (CT _ _) (q tl l T st (by have:=s [] l d;rwa [List.append_nil]at this))
   have f :∀B,Stb x y l->Run x y l [] l->eJ qM uY (En mh R) [some (.tup [.ref h,.ref m]),some (tD t0),some (.ref mh.length),B] M:=λB st d=>by
    simp[eJ];exact px.tR ok (aM7 _) g (CT _ _) (q tl l T st (by have:=s [] l d;rwa [List.append_nil]at this))
   rw[eQ];simp;rw[cE g,u];simp only[aH];refine⟨l.1,l.2,rfl,by rw[a.la];lia,by rw[a.lb];lia,λc b=>?_⟩
   cases c with
   | true=>
    exact v (.inl (b.mp rfl)) (.stop _ (.inl (b.mp rfl)))
   | false=>
    simp[lB];rw[cE g,u];simp only[aH];refine⟨h,m,x,y,l.1,l.2,rfl,n,G,a.la,by rw[a.lb,hm],H.px px,I.px px,λK1 K2 k1 k2=>?_⟩;simp[mY];rw[cE g,u];simp only[aH];refine aCr λc w=>?_
    cases c with
    | true=>
     simp;obtain⟨C,E⟩:=w.mp rfl;exact f _ (.inr λi j hi N e=>XQ hm a k1 k2 (by rw[C,E]) hi N e) (.stop _ (.inr ⟨K1,K2,k1,k2,by rw[C,E]⟩))
    | false=>
     simp[mX,lH];refine⟨⟨_,g⟩,?_⟩;rw[dS g]
     have lt:eqs (aF [] K1++aF (K1.foldl aN []) K2)<k:=by
      rcases LZ hm a k1 k2 with z | z
      ·have:=aPt z (by rw[aP,k1.len,a.la]);exact absurd (w.mpr this) aN8
      ·exact aMj z K
     refine⟨by simp;lia,?_⟩
     obtain⟨A,rfl⟩:∃A,k=A +1:=⟨k-1,by lia⟩
     refine J A (aMt _) (tl++[l]) (aF [] K1,aF (K1.foldl aN []) K2) _ _ (Nat.le_of_lt_succ lt) (T.snoc n hm k1 k2 (by lia)) (λtl' l' d=>?_) (by simp;lia) (px.set (aM7 _) _) ?_
     ·rw[List.append_assoc];exact s _ l' (.step (aMm λO=>aN8 (b.mpr O)) ⟨K1,K2,k1,k2,rfl⟩ (λz=>aN8 (w.mpr ⟨aN5 Prod.fst z,aN5 Prod.snd z⟩)) d)
     ·rw[bK _ g,List.map_append (l₁:=tl++[l])];rfl
 have S:eqs (tC t0)<=324:=by
  refine aMq aEk ?_;have:(tC t0).length<=18:=by simp[tC,mk0.la,mk0.lb];lia
  exact Nat.mul_le_mul this this
 simp[mL,rD,aJ];refine⟨by lia,mI (eqs (tC t0)+1) (go _ [] t0 _ _ (aM7 _) ⟨rfl,?_,?_,?_,by simp⟩ (λ_ _ z=>z) (by simp;lia) (aR.refl.push _) (by simp))⟩
 ·intro t ht;simp at ht;subst ht;exact mk0
 ·intro t ht;simp at ht;subst ht;exact λi j _ _ e=>e
 ·intro p U r t ht;simp at ht;subst ht;exact r
theorem gS(c:K1.length=m)(e:K2.length=m)(hi:i<m)(f:j<m):mk (aF [] K1) i=mk (aF (K1.foldl aN []) K2) j↔c9 K1 i=c9 K2 j:=by
 have d:(aF [] K1).length=m:=by rw[aP,c]
 rw[<-bR (a:=aF [] K1) (b:=aF (K1.foldl aN []) K2) (by lia),<-hG (a:=aF [] K1) (b:=aF (K1.foldl aN []) K2) d,<-cK];rw[dR (by simp;lia) (by simp;lia),iI (by lia),j9 c]
def JC(a:List Nat)(i:Nat):Bool:=(List.range a.length).any λj=>decide (j≠i) && decide (mk a j=mk a i)
def LX(a:List Nat):Nat:=(List.range a.length).countP (JC a)
theorem gB:JC a i=true↔∃j,j<a.length/\j≠i/\mk a j=mk a i:=by
 simp only[JC,List.any_eq_true,List.mem_range,Bool.and_eq_true,decide_eq_true_eq]
theorem gD(h:i<a.length):c9 (aK a n) i= .tup [.int (mk a i:Nat),.bl (decide (i=n))]:=by simp[c9,aK,List.getD,h]
theorem c6(a:List Nat)(n:Nat):(aK a n).length=a.length:=by simp[aK]
theorem QD(hi:i<a.length)(b:j<a.length):mk (aF [] (aK a n)) i=mk (aF [] (aK a n)) j↔mk a i=mk a j/\(i=n↔j=n):=by
 rw[dR (by rw[c6];exact hi) (by rw[c6];exact b),gD hi,gD b];simp only[D.tup.injEq,List.cons.injEq,D.int.injEq,D.bl.injEq,and_true,decide_eq_decide];exact and_congr_left' (by lia)
theorem RU(c:n<a.length)(h:JC a n=true):LX (aF [] (aK a n))<LX a:=by
 unfold LX;have l:(aF [] (aK a n)).length=a.length:=by rw[aP,c6]
 rw[l];refine pD (λi hi z=>?_) ⟨n,by simpa using c,h,?_⟩
 ·obtain⟨j,b,ne,e⟩:=gB.mp z;rw[l]at b;exact gB.mpr ⟨j,b,ne,((QD b (by simpa using hi)).mp e).1⟩
 ·rw[<-Bool.not_eq_true,gB];rintro⟨j,b,ne,e⟩;rw[l]at b;exact ne (((QD b c).mp e).2.mpr rfl)
theorem map_mk(a:List Nat):(List.range a.length).map (mk a)=a:=by
 refine aP8 (by simp) λi c b=>?_;simp[mk,List.getD,b]
theorem EM(hi:i<a.length)(h:1<a.count (mk a i)):JC a i=true:=by
 refine aMm λc=>?_;have d:∀j,j<a.length->mk a j=mk a i->j=i:=λj b e=>aMm λne=>c (gB.mpr ⟨j,b,ne,e⟩)
 have e:a.count (mk a i)=(List.range a.length).countP λj=>decide (mk a j=mk a i):=by
  have z:=aN5 (List.count (mk a i)) (map_mk a);rw[<-z,List.count,List.countP_map];congr 1
 have f:((List.range a.length).countP λj=>decide (mk a j=mk a i))<=(List.range a.length).countP λj=>j==i:=List.countP_mono_left λj b z=>by
  simp only[decide_eq_true_eq]at z;simpa using d j (by simpa using b) z
 have g:((List.range a.length).countP λj=>j==i)<=1:=List.nodup_iff_count.mp aOg i
 lia
theorem wF:i∈mH a↔i<a.length/\1<a.count (mk a i):=by simp[mH]
theorem ZQ(h:mH a=[]):a.Nodup:=by
 rw[List.nodup_iff_count];intro v;by_cases b:v∈a
 ·obtain⟨i,hi,e⟩:=aOk b;have c :mk a i=v:=by simp[mk,List.getD,hi,e]
  refine aMm λd=>?_;have:i∈mH a:=wF.mpr ⟨hi,by rw[c];lia⟩;rw[h]at this;simp at this
 ·rw[List.count_eq_zero.mpr b];lia
theorem Q1(pm:p.Perm (List.range m))(la:a.length=m)(lb:b.length=m)(r:NI m p a b):a.Perm b:=by
 have c:a=p.map (mk b):=by
  rw[<-map_mk a,la,<-mQ pm,List.map_map];refine aMh λi hi=>?_;exact(r i (by simpa using hi)).symm
 rw[c];refine(pm.map (mk b)).trans ?_;rw[<-lb,map_mk]
def CU(p:List Nat):D:= .tup [.str "one",.tup (aC p)]
def zJ(d:D):Prop:=∃(z:Str) (es:List D),d= .tup (.str z::es)/\(z== "one")=false/\∀n,aX n es=true
theorem zJ.refs(h:zJ d)(n:Nat):cI n d=true:=by
 obtain⟨z,es,rfl,_,h⟩:=h;simp[cI,aX,h n]
theorem r8(p:List Nat)(n:Nat):cI n (CU p)=true:=by simp[CU,cI,aX,cP]
structure TW(x y:Ls)(t0:List Nat×List Nat)(tl:List (List Nat×List Nat))(l:List Nat×List Nat):Prop where
 T:TL x y t0 (tl++[l])
 st:Stb x y l
 nm:∀i j,i<x.m->j<x.m->mk t0.1 i=mk t0.2 j->bC x.ns i=bC y.ns j
mutual
inductive Ptg (x y:Ls):List (List Nat×List Nat)->List Nat×List Nat->D->Prop where
 | marks {tl:List (List Nat×List Nat)} {l:List Nat×List Nat}:¬l.1.Perm l.2->Ptg x y tl l (.tup [.str "marks",.int (tl.length:Nat)])
 | tries {tl:List (List Nat×List Nat)} {l:List Nat×List Nat} {i0:Nat} {rest:List Nat} {ps:List D}:l.1.Perm l.2->mH l.1=i0::rest->ps.length=x.m->(∀j d,ps[j]? =some d->Trd x y tl l i0 j d)->Ptg x y tl l (.tup [.str "tries",.int (i0:Nat),.tup ps])
inductive Trd (x y:Ls):List (List Nat×List Nat)->List Nat×List Nat->Nat->Nat->D->Prop where
 | marks {tl:List (List Nat×List Nat)} {l:List Nat×List Nat} {i j:Nat} {k:Nat}:Rtp (tl++[l]) i j (.int (k:Nat))->Trd x y tl l i j (.tup [.str "marks",.int (k:Nat)])
 | goes {tl tl' :List (List Nat×List Nat)} {l t0 l' :List Nat×List Nat} {i j:Nat} {d:D}:Rtp (tl++[l]) i j .bU->(tl++[l])[0]? =some t0->Run x y (aF [] (aK t0.1 i),aF ((aK t0.1 i).foldl aN []) (aK t0.2 j)) tl' l' ->Ptg x y tl' l' d->Trd x y tl l i j d
end
def FJ(n:Nat):OA:=λds mh Q=>∃(a b r:Nat) (x y:Ls) (t0:List Nat×List Nat) (tl:List (List Nat×List Nat)) (l:List Nat×List Nat),ds=[.tup [.ref a,.ref b],.ref r]/\fH x/\fH y/\y.m=x.m/\HA mh a x/\HA mh b y/\mh[r]? =some (.lst ((tl++[l]).map tD))/\TW x y t0 tl l/\LX t0.1<n/\
 ∀d,((∃p,d=CU p/\uH x y p)\/(zJ d/\Ptg x y tl l d/\∀p,uH x y p->¬NI x.m p t0.1 t0.2))->Q d mh
def QY(n:Nat):OA:=λds mh Q=>∃(a b r i j:Nat) (x y:Ls) (t0:List Nat×List Nat) (tl:List (List Nat×List Nat)) (l:List Nat×List Nat),ds=[.tup [.ref a,.ref b],.ref r,.int (i:Nat),.int (j:Nat)]/\fH x/\fH y/\y.m=x.m/\HA mh a x/\HA mh b y/\mh[r]? =some (.lst ((tl++[l]).map tD))/\TW x y t0 tl l/\LX t0.1<n+1/\i∈mH l.1/\j<x.m/\
 ∀d,((∃p,d=CU p/\uH x y p)\/(zJ d/\Trd x y tl l i j d/\∀p,uH x y p->NI x.m p t0.1 t0.2->mk p i≠j))->Q d mh
theorem YO(n:Nat)(ds:List D)(mh:MH)(R:DK)(ok:iT mh)(S:QY n ds mh R):vS V5 (FJ n) sMO sWN (En mh R) (aJ ["sides","told","net","other_net","rounds"] ds) mh:=by
 obtain⟨G,H,r,i,j,x,y,t0,tl,l,rfl,s,I,hm,J,K,L,W,hn,hi,U,q⟩:=S;have sz:=aMe;have m9:=s.m8;have M:l∈tl++[l]:=by simp
 have f:=W.T.nb l M;have w:t0∈tl++[l]:=aMc W.T.hd;have m0:=W.T.nb t0 w;obtain⟨a,A⟩:=wF.mp hi;rw[f.la]at a;simp[vS,aJ];refine⟨r,i,j,tl++[l],rfl,L,by have:=W.T.ln;lia,λt ht=>by have:=W.T.nb t ht;rw[this.la,this.lb];exact⟨a,U⟩,λd hd=>?_⟩;have g:=hd
 rcases hd with ⟨rfl,_⟩ | ⟨k,t,rfl,V,B,ne,_⟩
 ·have X:fI ((tl++[l]).map tD) 0=some (tD t0):=dI (j:=0) (by rw[List.getElem?_map,W.T.hd];rfl);simp[tH,p6,u6,AQ];rw[cE L,X];simp only[aH];refine⟨t0.1,t0.2,i,j,rfl,by rw[m0.la];lia,by rw[m0.lb];lia,?_⟩;refine⟨G,H,x,y,(aF [] (aK t0.1 i),aF ((aK t0.1 i).foldl aN []) (aK t0.2 j)),rfl,s,I,hm,J,K,x5 (by rw[c6,m0.la]) (by rw[c6,m0.lb]),λtl' l' Y C E =>?_⟩;have px:aR mh (mh++[.lst ((tl' ++[l']).map tD)]):=aR.refl.push _;have N:(aK t0.1 i).length=x.m:=by rw[c6,m0.la]
  have O:(aK t0.2 j).length=x.m:=by rw[c6,m0.lb]
  have Z:JC t0.1 i=true:=by
   obtain⟨k,o,ne,e⟩:=gB.mp (EM (by rw[f.la];exact a) A);rw[f.la]at o;have:=W.T.fn l M k i (by simp[tC,f.la];lia) (by simp[tC,f.la];lia) (by rw[tC,bR (by rw[f.la];exact o),bR (by rw[f.la];exact a)];exact e);rw[tC,bR (by rw[m0.la];exact o),bR (by rw[m0.la];exact a)]at this;exact gB.mpr ⟨k,by rw[m0.la];exact o,ne,this⟩
  refine⟨G,H,mh.length,x,y,_,tl',l',rfl,s,I,hm,J.px px,K.px px,aL _ _,⟨Y,C,λu v b F e=>?_⟩,?_,λd hd=>?_⟩
  ·have P :=(gS N O b F).mp e;rw[gD (by rw[m0.la];exact b),gD (by rw[m0.lb];exact F)]at P;simp at P;exact W.nm u v b F (by lia)
  ·have:=RU (by rw[m0.la];exact a) Z;show LX (aF [] (aK t0.1 i))<n
   lia
  ·rcases hd with ⟨p,rfl,c⟩ | ⟨Q,pt,h⟩
   ·exact px.out ok (r8 p _) (q _ (.inl ⟨p,rfl,c⟩))
   ·refine px.out ok (Q.refs _) (q _ (.inr ⟨Q,.goes g W.T.hd E pt,λp c rs e=>h p c ?_⟩));refine xJ c.pm N O λu b=>?_;have hp:=i8 c.pm b;have ku:c9 (aK t0.1 i) u=_:=gD (by rw[m0.la];exact b);have kp:c9 (aK t0.2 j) (mk p u)=_:=gD (by rw[m0.lb];exact hp);rw[ku,kp,rs u b];have:(mk p u=j)=(u=i):=propext ⟨λz=>mk_inj c.pm b a (by rw[z,e]),λz=>by rw[z,e]⟩;simp only[this]
 ·simp[tH,p6,u6];refine⟨by lia,bT (q _ (.inr ⟨⟨"marks",[.int (k:Nat)],rfl,by decide,λn=>rfl⟩,.marks g,λp c rs e=>ne ?_⟩))⟩;have:=W.T.rs p c rs t (aMc B) i a;rw[e]at this;exact this.symm
theorem BP{v:Nat}:∀{b:List Nat},v∈b->(aC b).findIdx? (λy=>dD y (.int (v:Nat)))=some (b.idxOf v)
 | [],h=>by simp at h
 | u::b,h=>by
  have e:aC (u::b)= .int (u:Nat)::aC b:=rfl;rw[e,List.findIdx?_cons,List.idxOf_cons];by_cases z:u=v
  ·subst z;simp[dD]
  ·have a:v∈b:=by rcases aMf.mp h with q | q;exact absurd q.symm z;exact q
   have c:dD (.int (u:Nat)) (.int (v:Nat))=false:=by simp[dD];lia
   have d:(u==v)=false:=by simpa using z
   rw[c,d,BP a];simp
theorem BO:∀b:List Nat,(aC b).all u9=true
 | []=>rfl
 | u::b=>by
  have e:aC (u::b)= .int (u:Nat)::aC b:=rfl;rw[e,List.all_cons,BO b];rfl
theorem tP{n:Nat}{d:D}:∀{ps:List D},aX n ps=true->cI n d=true->aX n (ps++[d])=true
 | [],_,h=>by simp[aX,h]
 | e::ps,h1,h2=>by
  simp only[aX,Bool.and_eq_true,List.cons_append]at h1⊢;exact⟨h1.1,tP h1.2 h2⟩
variable{a5 a6:Option D}
theorem JT{o s r:Nat}(ok:iT mh)(F:fH x)(K:fH y)(hm:y.m=x.m)(L:HA mh o x)(O:HA mh s y)(P:mh[r]? =some (.lst ((tl++[l]).map tD)))(W:TW x y t0 tl l)(Q:LX t0.1<n+1)
  (q:∀d,((∃p,d=CU p/\uH x y p)\/(zJ d/\Ptg x y tl l d/\∀p,uH x y p->¬NI x.m p t0.1 t0.2))->R d mh) (pm:l.1.Perm l.2) {i0:Nat} {rest:List Nat} (ha:mH l.1=i0::rest):
  nH qM sNA (QY n) (En mh R) [some (.tup [.ref o,.ref s]),some (.ref r),some (tD l),some (.ref mh.length),some (.ref (mh.length+1)),a5,a6] (mh++[.lst (aC (mH l.1))]++[.lst []]):=by
 have sz:=aMe;have Z:=F.m8;have G:=W.T.nb l (by simp);have g:i0∈mH l.1:=by rw[ha];simp
 have w:i0<x.m:=by rw[<-G.la];exact(wF.mp g).1
 have H:fI (aC (mH l.1)) 0=some (.int (i0:Nat)):=by rw[ha];exact dI (j:=0) rfl
 have I:aR mh (mh++[.lst (aC (mH l.1))]++[.lst []]):=(aR.refl.push _).push _;have b:(mh++[MO.lst (aC (mH l.1))]++[MO.lst []])[mh.length]? =some (.lst (aC (mH l.1))):=aI (aL _ _)
 have a:(mh++[MO.lst (aC (mH l.1))]++[MO.lst []])[mh.length+1]? =some (.lst []):=by
  have:=aL (mh++[MO.lst (aC (mH l.1))]) (MO.lst []);simpa using this
 generalize mh++[MO.lst (aC (mH l.1))]++[MO.lst []]=M0 at I b a⊢;have S:(aC l.2).length=x.m:=by simp[aC,G.lb]
 simp[nH,tD,L1,pJ];refine⟨by lia,?_⟩;rw[S];refine cQ (λi A M=>(∃a5 a6,A=[some (.tup [.ref o,.ref s]),some (.ref r),some (tD l),some (.ref mh.length),some (.ref (mh.length+1)),a5,a6])/\aR mh M/\M[mh.length]? =some (.lst (aC (mH l.1)))/\∃ps:List D,M[mh.length+1]? =some (.lst ps)/\ps.length=i/\(∀n,aX n ps=true)/\(∀j d,ps[j]? =some d->Trd x y tl l i0 j d)/\∀p,uH x y p->NI x.m p t0.1 t0.2->∀j,j<i->mk p i0≠j) _ (λ_ _ _ _=>trivial) ?_ ?_ ⟨⟨_,_,rfl⟩,I,b,[],a,rfl,λ_=>rfl,λj d hd=>by simp at hd,λ_ _ _ j t=>absurd t (aPs _)⟩
 ·rintro i d A M N hi ⟨⟨a5,a6,rfl⟩,px,b,ps,a,k,u,c,v⟩ nx;obtain⟨J,rfl⟩:=jI hi;have U:(0:Int)+(i:Nat)=(i:Nat):=by lia
  rw[U];simp[rB];rw[cE b,H];simp only[aH];refine⟨o,s,r,i0,i,x,y,t0,tl,l,rfl,F,K,hm,L.px px,O.px px,px.old P,W,Q,g,by lia,λd hd=>?_⟩
  rcases hd with ⟨p,rfl,f⟩ | ⟨B,V,h⟩
  ·simp[jS,CU];exact px.out ok (r8 p _) (q _ (.inl ⟨p,rfl,f⟩))
  ·obtain⟨z,es,rfl,hz,C⟩:=B;have E :fI (D.str z::es) 0=some (.str z):=dI (j:=0) rfl;simp[jS,E,hz,nG,lH];refine⟨⟨_,a⟩,?_⟩;rw[dS a];refine⟨by lia,nx _ _ ⟨⟨_,_,rfl⟩,px.set (by lia) _,get_set b (by lia),ps++[.tup (.str z::es)],bK _ a,by simp[k],λn=>?_,λj d hd=>?_,λp f rs j t=>?_⟩⟩
   ·exact tP (u n) (by simp[cI,aX,C n])
   ·by_cases e:j<ps.length
    ·rw[List.getElem?_append_left e]at hd;exact c j d hd
    ·have t:=(aM6.mp hd).1;simp at t;have X:j=ps.length:=by lia
     subst X;simp at hd;subst hd;rw[k];exact V
   ·by_cases e:j=i
    ·subst e;exact h p f rs
    ·exact v p f rs j (by lia)
 ·rintro A M ⟨⟨a5,a6,rfl⟩,px,b,ps,a,k,u,c,v⟩;have Y:(dU 0 x.m).length=x.m:=by simp
  rw[Y]at k v;simp[uI];rw[cE b,H];simp only[aH];rw[bQ a];simp only[aH];refine⟨by lia,px.out ok (by simp[cI,aX,u]) (q _ (.inr ⟨⟨"tries",[.int (i0:Nat),.tup ps],rfl,by decide,λn=>by simp[cI,aX,u]⟩,.tries pm ha k c,λp f rs=>v p f rs _ (i8 f.pm w) rfl⟩))⟩
theorem OZ(n:Nat)(ds:List D)(mh:MH)(R:DK)(ok:iT mh)(w:FJ (n+1) ds mh R):oZ qM sNA (QY n) (En mh R) (aJ ["sides","told","last","alike","papers","net","paper"] ds) mh:=by
 obtain⟨I,J,r,x,y,t0,tl,l,rfl,b,s,hm,A,B,d,W,C,q⟩:=w;have sz:=aMe;have K:=b.m8;have f:l∈tl++[l]:=by simp
 have a:=W.T.nb l f;have g:t0∈tl++[l]:=aMc W.T.hd;have m0:=W.T.nb t0 g;have E:fI ((tl++[l]).map tD) (-1)=some (tD l):=by rw[List.map_append];exact DP _ _
 simp[oZ,aJ];rw[cE d,E];simp only[aH];simp[uM];refine⟨l.1,l.2,rfl,by rw[a.la];lia,by rw[a.lb];lia,λc h=>?_⟩
 cases c with
 | true=>
  simp[iA];rw[tO d];simp;refine⟨by lia,bT (q _ (.inr ⟨⟨"marks",_,rfl,by decide,λn=>rfl⟩,.marks (h.mp rfl),λp t rs=>h.mp rfl ?_⟩))⟩;exact Q1 t.pm a.la a.lb (W.T.rs p t rs l f)
 | false=>
  have pm:l.1.Perm l.2:=aMm λF=>aN8 (h.mpr F);simp[iA,uL,tD,L1];refine⟨l.1,rfl,by rw[a.la];lia,?_⟩;simp[uK,iA];by_cases ha:mH l.1=[]
  ·rw[if_pos (by rw[ha];rfl)];have st:∀M:MH,bF M (.tup (aC l.1))=some (aC l.1):=λ_=>rfl;rw[st];simp only[aH];refine jP (λv=>D.int (v:Nat)) (λv=>l.2.idxOf v) (λv=>.int (v:Nat)) l.1 rfl (λv G N hN=>?_) ?_
   ·have H:=BP (pm.mem_iff.mp G);simp[jL,pJ,lH];exact⟨_,_,_,rfl,rfl,BO _,rfl,H,hN⟩
   ·rw[bQ (aL _ _)];simp only[aH];have nd:=ZQ ha;refine⟨by lia,?_⟩;refine((aR.refl.push _).push _).out ok (r8 (lead l.1 l.2) _) (q _ (.inl ⟨lead l.1 l.2,rfl,?_⟩));refine sound b s hm a.la a.lb (λi j hi k e=>W.nm i j hi k ?_) (λi j hi k e=>?_) nd pm
    ·have:=W.T.fn l f i (x.m+j) (by simp[tC,a.la];lia) (by simp[tC,a.la,a.lb];lia) (by rw[tC,bR (by rw[a.la];exact hi),hG a.la];exact e);rw[tC,bR (by rw[m0.la];exact hi),hG m0.la]at this;exact this
    ·rcases W.st with z | z
     ·exact absurd pm z
     ·exact z i j hi k e
  ·rw[if_neg λz=>ha (by cases hz:mH l.1 with | nil=>rfl | cons u v=>rw[hz]at z;cases z)]
   obtain⟨i0,rest,o⟩:∃i0 rest,mH l.1=i0::rest:=by
    cases hz:mH l.1 with
    | nil=>exact absurd hz ha
    | cons u v=>exact⟨u,v,rfl⟩
   simp[uJ];have:=JT (a5:=none) (a6:=none) ok b s hm A B d W C q pm o;simpa[tD,L1] using this
theorem PC(n:fH x)(hm:y.m=x.m)(o:t0.1=aF [] (aY x))(T:TL x y t0 (tl++[l]))(f:Few x):(mH l.1).length<=8:=by
 have r:=n.m8;have a:=T.nb l (by simp);have c:t0∈tl++[l]:=aMc T.hd;have m0:=T.nb t0 c
 have le:(mH l.1).length=(List.range x.m).countP λi=>decide (1<l.1.count (mk l.1 i)):=by
  rw[mH,a.la,List.countP_eq_length_filter]
 rcases f with f | ⟨i,hi,f⟩
 ·rw[le];have:=aP4 (p:=λi=>decide (1<l.1.count (mk l.1 i))) (l:=List.range x.m);simp at this
  lia
 ·have lt:((List.range x.m).countP λi=>decide (1<l.1.count (mk l.1 i)))<(List.range x.m).countP λ_=>true:=by
   refine pD (λ_ _ _=>rfl) ⟨i,by simpa using hi,rfl,?_⟩;refine aNe λh=>?_;obtain⟨k,b,ne,e⟩:=gB.mp (EM (by rw[a.la];exact hi) h);rw[a.la]at b;have:=T.fn l (by simp) k i (by simp[tC,a.la];lia) (by simp[tC,a.la];lia) (by rw[tC,bR (by rw[a.la];exact b),bR (by rw[a.la];exact hi)];exact e);rw[tC,bR (by rw[m0.la];exact b),bR (by rw[m0.la];exact hi),o]at this;have d:=(dR (by simp[aY];exact b) (by simp[aY];exact hi)).mp this;have g:∀{j:Nat},j<x.m->c9 (aY x) j= .tup (bC x.ns j):=λq=>by simp[c9,aY,List.getD,q]
   rw[g b,g hi]at d;exact ne (f k b (by injection d))
  have:((List.range x.m).countP λ_=>true)=x.m:=by simp
  lia
noncomputable def aEi(x y:Ls):List Nat×List Nat:=(aF [] (aY x),aF ((aY x).foldl aN []) (aY y))
def aFz(d:D):D:= .tup [.str "two",d]
def ZV(x y:Ls):Prop:=x.m=y.m/\x.sw.length=y.sw.length
def HP(x y:Ls)(d:D):Prop:=(∃p,d=CU p/\uH x y p)\/∃e tl l,d=aFz e/\(∀n,cI n e=true)/\Run x y (aEi x y) tl l/\Ptg x y tl l e/\∀p,¬uH x y p
def A2:OA:=λds mh Q=>∃x y:Ls,ds=[bZ x,bZ y]/\fH x/\fH y/\Few x/\y.m=x.m/\x.sw.length=y.sw.length/\∀d,HP x y d->Q d mh
theorem RV(a:List Nat):LX a<=a.length:=by
 unfold LX;refine aMq aP4 ?_;simp
theorem aEd(ds:List D)(mh:MH)(R:DK)(ok:iT mh)(K:A2 ds mh R):B9 Q0 xG sMO xI qM sNA (FJ 12) (En mh R) (aJ ["one","other","sides","told","paper"] ds) mh:=by
 obtain⟨x,y,rfl,a,f,PD,hm,L,q⟩:=K;have sz:=aMe;have S:=a.m8;have s:(aY x).length=x.m:=by simp[aY]
 have C:(aY y).length=x.m:=by simp[aY,hm]
 simp[B9,aJ];refine⟨x,y,rfl,a,f,hm.symm,L,?_⟩;simp[iA,E3];refine⟨x,y,rfl,a,f,λM t u px E F=>?_⟩;simp[E2];refine⟨x,y,rfl,a,f,?_⟩;have mk0:Mk x.m (aF [] (aY x)) (aF ((aY x).foldl aN []) (aY y)):=x5 s C;refine⟨t,u,x,y,(aF [] (aY x),aF ((aY x).foldl aN []) (aY y)),rfl,a,f,hm,E,F,mk0,λtl l T st N=>?_⟩;have b:aR mh (M++[.lst ((tl++[l]).map tD)]):=px.push _;have g:(M++[MO.lst ((tl++[l]).map tD)])[M.length]? =some (.lst ((tl++[l]).map tD)):=aL _ _;have G:fI ((tl++[l]).map tD) (-1)=some (tD l):=by rw[List.map_append];exact DP _ _
 have v:=T.nb l (by simp);have h :=E.px (aR.refl.push (MO.lst ((tl++[l]).map tD)));have k :=F.px (aR.refl.push (MO.lst ((tl++[l]).map tD)));generalize M++[MO.lst ((tl++[l]).map tD)]=M2 at b g h k ⊢
 have n:∀w,aR M2 w->wQ Q0 xG sMO xI qM sNA (FJ 12) (En mh R) [some (bZ x),some (bZ y),some (.tup [.ref t,.ref u]),some (.ref M.length),none] w:=λw o=>by
  simp[wQ];refine⟨t,u,M.length,x,y,_,tl,l,rfl,a,f,hm,h.px o,k.px o,o.old g,⟨T,st,λi j hi O e=>?_⟩,?_,λd hd=>?_⟩
  ·have H :=(gS s C hi O).mp e;have A :j<y.m:=by lia
   have k1:c9 (aY x) i= .tup (bC x.ns i):=by simp[c9,aY,List.getD,hi]
   have k2:c9 (aY y) j= .tup (bC y.ns j):=by simp[c9,aY,List.getD,A]
   rw[k1,k2]at H;injection H
  ·have:=RV (aF [] (aY x));rw[aP,s]at this;show LX (aF [] (aY x))<12
   lia
  ·rcases hd with ⟨p,rfl,r⟩ | ⟨I,pt,P⟩
   ·simp[wO,CU];exact(b.trans o).out ok (r8 p _) (q _ (.inl ⟨p,rfl,r⟩))
   ·have J:=I.refs;obtain⟨z,es,rfl,hz,_⟩:=I;have B :fI (D.str z::es) 0=some (.str z):=dI (j:=0) rfl;simp[wO,B,hz];refine⟨by lia,(b.trans o).out ok (show (true && (cI mh.length (.tup (.str z::es)) && true))=true by rw[J];rfl) (q _ (.inr ⟨_,tl,l,rfl,J,N,pt,λp r=>P p r (OV r a f)⟩))⟩
 simp[E1];rw[cE g,G];simp only[aH];refine⟨l.1,l.2,rfl,by rw[v.la];lia,by rw[v.lb];lia,λc U=>?_⟩
 cases c with
 | true=>
  simp[iA];exact n M2 aR.refl
 | false=>
  simp[iA];rw[cE g,G];simp[tD,L1];refine⟨l.1,rfl,by rw[v.la];lia,?_⟩;dsimp only;rw[tO (aL _ _)];have:=PC a hm rfl T PD;have Q:(aC (mH l.1)).length=(mH l.1).length:=by simp[aC]
  rw[Q];simp;rw[if_neg (by lia)];exact n _ (aR.refl.push _)
noncomputable def dst(K:List D):Nat:=(K.foldl aN []).length
theorem snoc_ind{b:Type}{P:List b->Prop}(h0:P [])(d:∀l a,P l->P (l++[a]))(l:List b):P l:=by
 have:∀n (l:List b),l.length=n->P l:=by
  intro n
  induction n with
  | zero=>intro l h;rw[List.length_eq_zero_iff.mp h];exact h0
  | succ n ih=>
   intro l h;have c:l≠[]:=λz=>by rw[z]at h;cases h
   rw[<-List.dropLast_concat_getLast c];exact d _ _ (ih _ (by simp[h]))
 exact this _ l rfl
open Classical in
theorem yT(K:List D)(d:D):dst (K++[d])=dst K+if d∈K then 0 else 1:=by
 unfold dst;rw[List.foldl_append];show (aN (K.foldl aN []) d).length=_;have hm:d∈K.foldl aN []↔d∈K:=by rw[oI];simp
 by_cases h:d∈K
 ·rw[iC (hm.mpr h),if_pos h];rfl
 ·rw[fJ λz=>h (hm.mp z),if_neg h];simp
def FnK(K K' :List D):Prop:=∀i j,i<K.length->j<K.length->c9 K' i=c9 K' j->c9 K i=c9 K j
theorem sE:d∈K↔∃i,i<K.length/\c9 K i=d:=by
 constructor
 ·intro h;obtain⟨i,hi,e⟩:=aOk h;exact⟨i,hi,by simp[c9,List.getD,hi,e]⟩
 ·rintro⟨i,hi,rfl⟩;simp[c9,List.getD,hi]
theorem aEm:∀(K K' :List D),K.length=K'.length->FnK K K' ->dst K<=dst K' /\(dst K=dst K' ->FnK K' K):=by
 intro K
 induction K using snoc_ind
 next=>intro K' b _;have:K' =[]:=aOt.mp b.symm;subst this;exact⟨aM7 _,λ_ i j hi=>absurd hi (by simp)⟩
 next K d ih=>
  intro K' b fn;have n:K' ≠[]:=λz=>by rw[z]at b;simp at b
  obtain⟨J,d',rfl⟩:∃J d',K' =J++[d']:=⟨_,_,(List.dropLast_concat_getLast n).symm⟩
  have a :K.length=J.length:=by simpa using b
  have lo:∀{L:List D} {e:D} {i},i<L.length->c9 (L++[e]) i=c9 L i:=λh=>iI h;have la:∀{L:List D} {e:D},c9 (L++[e]) L.length=e:=λ{L e}=>by simp[c9,List.getD]
  have o :FnK K J:=λi j hi c e=>by
   have:=fn i j (by simp;lia) (by simp;lia) (by rw[lo (by lia),lo (by lia)];exact e)
   rwa [lo hi,lo c]at this
  obtain⟨u,s⟩:=ih J a o
  have f:d' ∈J->d∈K:=λh=>by
   obtain⟨j,c,e⟩:=sE.mp h;have:=fn j K.length (by simp;lia) (by simp) (by rw[lo c,a,la];exact e);rw[lo (by lia),la]at this;exact sE.mpr ⟨j,by lia,this⟩
  rw[yT,yT];refine⟨?_,λeq=>?_⟩
  ·by_cases h:d∈K
   ·rw[if_pos h];lia
   ·rw[if_neg h,if_neg λz=>h (f z)];lia
  ·have g:dst K=dst J/\(d∈K->d' ∈J):=by
    by_cases h:d∈K
    ·rw[if_pos h]at eq;by_cases h' :d' ∈J
     ·rw[if_pos h']at eq;exact⟨by lia,λ_=>h'⟩
     ·rw[if_neg h']at eq;lia
    ·rw[if_neg h,if_neg λz=>h (f z)]at eq;exact⟨by lia,λz=>absurd z h⟩
   have old:=s g.1
   have lst:∀i,i<K.length->c9 K i=d->c9 J i=d' :=λi hi e=>by
    have hd:d∈K:=sE.mpr ⟨i,hi,e⟩;obtain⟨l,k,r⟩:=sE.mp (g.2 hd);have:=fn l K.length (by simp;lia) (by simp) (by rw[lo k,a,la];exact r);rw[lo (by lia),la]at this;rw[<-r];exact old i l (by lia) k (by rw[e,this])
   intro i j hi c e;simp only[List.length_append,List.length_singleton]at hi c;by_cases p:i<K.length
   ·by_cases m:j<K.length
    ·rw[lo p,lo m]at e;rw[lo (by lia),lo (by lia)];exact old i j (by lia) (by lia) e
    ·have q:j=K.length:=by lia
     subst q;rw[lo p,la]at e;rw[lo (by lia),a,la];exact lst i p e
   ·have t:i=K.length:=by lia
    subst t;by_cases m:j<K.length
    ·rw[lo m,la]at e;rw[a,la,lo (i:=j) (by lia)];exact(lst j m e.symm).symm
    ·have q:j=K.length:=by lia
     subst q;rfl
theorem NM(la:a.length=m)(lb:b.length=m)(hi:i<m)(ne:mk a i≠mk b j):¬(aF [] (aK a i)).Perm (aF ((aK a i).foldl aN []) (aK b j)):=λpm=>by
 have g:(aK a i).length=m:=by rw[c6,la]
 have c:(aK b j).length=m:=by rw[c6,lb]
 have h:mk (aF [] (aK a i)) i∈aF [] (aK a i):=x6 (by rw[aP];lia);obtain⟨v,d,e⟩:=aOk (pm.mem_iff.mp h);rw[aP,c]at d
 have k :mk (aF [] (aK a i)) i=mk (aF ((aK a i).foldl aN []) (aK b j)) v:=by
  rw[<-e];simp[mk,List.getD,aP,c,d]
 have f:=(gS g c hi d).mp k;rw[gD (by lia),gD (by lia)]at f;simp at f;obtain⟨n,l⟩:=f;subst l;exact ne (by lia)
theorem oW{b:Type}:∀(l:List b) (i:Nat) (h:i<l.length),(l[i]::l.eraseIdx i).Perm l
 | a::l,0,_=>by simp
 | a::l,i+1,h=>by
  simp only[List.getElem_cons_succ,List.eraseIdx_cons_succ];exact(List.Perm.swap _ _ _).trans ((oW l i (by simpa using h)).cons a)
theorem QE(a:List Nat)(i:Nat):(aK a i).eraseIdx i=(a.eraseIdx i).map λv=>D.tup [.int (v:Nat),.bl false]:=by
 refine aP2 λn=>?_;rw[List.getElem?_eraseIdx,List.getElem?_map,List.getElem?_eraseIdx]
 have at_:∀k,k≠i->(aK a i)[k]? =(a[k]?).map λv=>D.tup [.int (v:Nat),.bl false]:=λk b=>by
  unfold aK;rw[List.getElem?_map];by_cases z:k<a.length
  ·rw[List.getElem?_range z,List.getElem?_eq_getElem z];simp[mk,List.getD,z,b]
  ·rw[List.getElem?_eq_none (by simp;lia),List.getElem?_eq_none (by lia)];rfl
 by_cases z:n<i
 ·rw[if_pos z,if_pos z];exact at_ n (by lia)
 ·rw[if_neg z,if_neg z];exact at_ (n+1) (by lia)
theorem VL(la:a.length=m)(lb:b.length=m)(hi:i<m)(p:j<m)(e:mk a i=mk b j)(pm:a.Perm b):(aK a i).Perm (aK b j):=by
 have c:i<a.length:=by lia
 have d:j<b.length:=by lia
 have f:i<(aK a i).length:=by rw[c6];exact c
 have g:j<(aK b j).length:=by rw[c6];exact d
 have k:mk a i=a[i]:=by simp[mk,List.getD,c]
 have l:mk b j=b[j]:=by simp[mk,List.getD,d]
 have n:(a.eraseIdx i).Perm (b.eraseIdx j):=by
  have h:=(oW a i c).trans (pm.trans (oW b j d).symm);rw[<-k,<-l,e]at h;exact aPk h
 refine(oW _ i f).symm.trans (List.Perm.trans ?_ (oW _ j g));have x1:(aK a i)[i]= .tup [.int (mk a i:Nat),.bl true]:=by simp[aK]
 have o:(aK b j)[j]= .tup [.int (mk b j:Nat),.bl true]:=by simp[aK]
 rw[x1,o,e,QE,QE];exact(n.map _).cons _
theorem VM(la:a.length=m)(lb:b.length=m)(hi:i<m)(c:j<m)(e:mk a i=mk b j)(pm:a.Perm b):(aF [] (aK a i)).Perm (aF ((aK a i).foldl aN []) (aK b j)):=by
 have h:=r9 (aK a i++aK b j) [];rw[cK,List.map_append]at h;have:=aPt h (by rw[List.length_map,aP]);rw[<-this.1,<-this.2];exact(VL la lb hi c e pm).map _
variable{c':List Nat}
theorem aBq(b:c.length=c'.length)(fn:IC c c'):∃φ:Nat->Nat,∀n,n<c'.length->mk c n=φ (mk c' n):=by
 refine⟨λv=>mk c (c'.idxOf v),λn a=>?_⟩;have hm:mk c' n∈c' :=x6 a;exact(fn _ n (aPd hm) a (JH hm)).symm
theorem aFu(la:a.length=m)(lb:b.length=m):IC (a++b) (aF [] (aK a i)++aF ((aK a i).foldl aN []) (aK b j)):=λu v d h e=>by
 rw[<-cK]at d h e;have o:(aK a i++aK b j).length=m+m:=by simp[c6,la,lb]
 rw[aP,o]at d h;have l :=(dR (by lia) (by lia)).mp e
 have c:∀n,n<m+m->∃f,c9 (aK a i++aK b j) n= .tup [.int (mk (a++b) n:Nat),.bl f]:=λn r=>by
  by_cases z:n<m
  ·exact⟨_,by rw[iI (by rw[c6];lia),gD (by lia),bR (by lia)]⟩
  ·obtain⟨k,rfl⟩:∃k,n=m+k:=⟨n-m,by lia⟩
   exact⟨_,by rw[j9 (by rw[c6,la]),gD (by lia),hG la]⟩
 obtain⟨f,p⟩:=c u d;obtain⟨g,q⟩:=c v h;rw[p,q]at l;simp at l
 lia
def phD(φ:Nat->Nat):D->D
 | .tup [.tup [s,w,l,.int t],.int A,.int C]=>if t=0 then .tup [.tup [s,w,l,.int t],.int (min (φ A.toNat) (φ C.toNat):Nat),.int (max (φ A.toNat) (φ C.toNat):Nat)] else .tup [.tup [s,w,l,.int t],.int (φ A.toNat:Nat),.int (φ C.toNat:Nat)]
 | d=>d
theorem aGy{φ:Nat->Nat}{o o' :List Nat}{h:Hk}(ha:mk o h.a=φ (mk o' h.a))(d:mk o h.b=φ (mk o' h.b)):phD φ (lZ o' h)=lZ o h:=by
 simp only[lZ,BN,phD,Int.toNat_natCast];by_cases e:h.t=0
 ·have c :((h.t:Nat):Int)=0:=by lia
  rw[if_pos c];simp only[NS,NR,if_pos e,ha,d];rcases Nat.le_total (mk o' h.a) (mk o' h.b) with z | z
  ·rw[Nat.min_eq_left z,Nat.max_eq_right z]
  ·rw[Nat.min_eq_right z,Nat.max_eq_left z,Nat.min_comm,Nat.max_comm]
 ·have c :¬((h.t:Nat):Int)=0:=by lia
  rw[if_neg c];simp only[NS,NR,if_neg e,ha,d]
theorem FZ{φ:Nat->Nat}{o o' :List Nat}(a:fH x)(h:∀n,n<x.m->mk o n=φ (mk o' n))(i:Nat):(tells x o' i).map (phD φ)=tells x o i:=by
 unfold tells;rw[List.map_map];refine aMh λk b=>?_;obtain⟨c,d⟩:=aAd a b;exact aGy (h _ c) (h _ d)
theorem QC{t0 k a :List Nat×List Nat}(A:fH x)(B:fH y)(hm:y.m=x.m)(m0:Mk x.m t0.1 t0.2)(hi:i<x.m)(S:j<x.m)(C:mk t0.1 i=mk t0.2 j)(D:VA x y t0 k)(ne:mk k.1 i≠mk k.2 j)
  (l :VA x y (aF [] (aK t0.1 i),aF ((aK t0.1 i).foldl aN []) (aK t0.2 j)) a):¬a.1.Perm a.2:=λpm=>by
 obtain⟨K1,K2,k1,k2,rfl⟩:=D;obtain⟨g,u,o,w,rfl⟩:=l;have b:(aK t0.1 i).length=x.m:=by rw[c6,m0.la]
 have h:(aK t0.2 j).length=x.m:=by rw[c6,m0.lb]
 have p:u.length=x.m:=by rw[w.len,hm]
 have E:mk (aF [] g) i∈aF [] g:=x6 (by rw[aP,o.len];exact hi);obtain⟨v,c,e⟩:=aOk (pm.mem_iff.mp E);simp only[aP,p]at c
 have F :mk (aF [] g) i=mk (aF (g.foldl aN []) u) v:=by
  rw[<-e];simp[mk,List.getD,aP,p,c]
 have q:=(gS o.len p hi c).mp F;obtain⟨L,G,z,_⟩:=hJ o hi;obtain⟨T,H,I,_⟩:=hJ w (n:=v) (by lia);rw[G,H]at q;simp at q;obtain⟨U,J⟩:=q;have r:=(gS b h hi c).mp (by lia);rw[gD (by rw[m0.la];exact hi),gD (by rw[m0.lb];exact c)]at r;simp at r;have s:v=j:=r.2;subst s;rw[J]at z;have pt:=z.symm.trans I;obtain⟨φ,d⟩:=aBq (by simp[aP,b,h,m0.la,m0.lb]) (aFu (i:=i) (j:=v) m0.la m0.lb)
 have K:∀n,n<x.m->mk t0.1 n=φ (mk (aF [] (aK t0.1 i)) n):=λn t=>by
  have:=d n (by simp[aP,b,h];lia)
  rwa [bR (by rw[m0.la];exact t),bR (by rw[aP,b];exact t)]at this
 have N:∀n,n<y.m->mk t0.2 n=φ (mk (aF ((aK t0.1 i).foldl aN []) (aK t0.2 v)) n):=λn t=>by
  have:=d (x.m+n) (by simp[aP,b,h];lia)
  rwa [hG m0.la,hG (by rw[aP,b])]at this
 have f:=pt.map (phD φ);rw[FZ A K,FZ B N]at f;obtain⟨M,O,s1,P⟩:=hJ k1 hi;obtain⟨V,Q,s2,R⟩:=hJ k2 (n:=v) (by lia);refine ne ((gS k1.len (by rw[k2.len,hm]) hi c).mpr ?_);rw[O,Q,C,qH s1 P s2 R f]
theorem NB(p:aR mh M):∀(n:Nat) (d:D),bare (aO mh n d)=true->aO M n d=aO mh n d:=by
 intro n
 induction n with
 | zero=>intro d _;rfl
 | succ n ih=>
  intro d b
  cases d with
  | ref k=>
   simp only[aO]at b⊢
   cases o:mh[k]? with
   | none=>rw[o]at b;simp[bare]at b
   | some ob=>
    cases ob with
    | lst ds=>
     rw[o]at b;rw[p.old o];simp only;have a :cT (ds.map (aO mh n))=true:=by simpa[bare] using b
     rw[List.map_congr_left λe he=>ih e (mD.mp a _ (List.mem_map_of_mem he))]
    | dic t kvs=>rw[o]at b;simp[bare]at b
    | fdc t kvs ob=>rw[o]at b;simp[bare]at b
    | oth ds f=>rw[o]at b;simp[bare]at b
  | tup ds=>
   simp only[aO]at b⊢;have a :cT (ds.map (aO mh n))=true:=by simpa[bare] using b
   rw[List.map_congr_left λe he=>ih e (mD.mp a _ (List.mem_map_of_mem he))]
  | _=>rfl
theorem IA.px(p:aR mh M)(h:IA mh n d):IA M n d:=by
 unfold IA at*;rw[NB p n d h.1];exact h
def Th(mh:MH)(n:Nat)(d:D):Prop:=cY (aO mh n d)=true/\deep (aO mh n d)<=40
theorem Th.thg(h:Th mh n d):IA mh n d:=⟨eN h.1,h.2⟩
theorem Th.eq(p:aR mh M)(h:Th mh n d):aO M n d=aO mh n d:=NB p n d (eN h.1)
open Classical in
theorem aE4{mh M:MH}(p:aR mh M){n:Nat}{x:D}{fs:List D}(b:Th mh n x)(c:∀f∈fs,Th mh n f):inN M n x fs=decide (aO mh n x∈fs.map (aO mh n)):=by
 rw[Bool.eq_iff_iff,decide_eq_true_eq];unfold inN;rw[List.any_eq_true,List.mem_map];constructor
 ·rintro⟨y,a,e⟩;rw[(c y a).eq p,b.eq p]at e;exact⟨y,a,(k6 _ _ (c y a).1 b.1).mp e⟩
 ·rintro⟨y,a,e⟩;refine⟨y,a,?_⟩;rw[(c y a).eq p,b.eq p];exact(k6 _ _ (c y a).1 b.1).mpr e
theorem aDu(p:aR mh M){x:D}{fs:List D}(c:Th mh n x)(b:∀f∈fs,Th mh n f)(d:aO mh n x∈fs.map (aO mh n)):fs.findIdx? (λy=>dD (aO M n y) (aO M n x))=some (u4 (fs.map (aO mh n)) (aO mh n x)):=by
 have e:∀a:List D,(∀f∈a,Th mh n f)->a.findIdx (λy=>dD (aO M n y) (aO M n x))=u4 (a.map (aO mh n)) (aO mh n x):=λa hg=>by
  induction a with
  | nil=>rfl
  | cons g a ih=>
   have k:=hg g aM8;have:=ih λf b=>hg f (aM9 _ b);unfold u4 at*;rw[List.map_cons,List.findIdx_cons,List.findIdx_cons,this,k.eq p,c.eq p];have l:=k6 _ _ k.1 c.1;by_cases z:aO mh n g=aO mh n x
   ·rw[l.mpr z];simp[z]
   ·have m :dD (aO mh n g) (aO mh n x)=false:=by
     cases h:dD (aO mh n g) (aO mh n x) with
     | false=>rfl
     | true=>exact absurd (l.mp h) z
    rw[m];simp[z]
 rw[<-e fs b]
 have i:fs.findIdx (λy=>dD (aO M n y) (aO M n x))<fs.length:=by
  rw[List.findIdx_lt_length];obtain⟨y,j,o⟩:=aMd.mp d;exact⟨y,j,by rw[(b y j).eq p,c.eq p];exact(k6 _ _ (b y j).1 c.1).mpr o⟩
 rw[List.findIdx?_eq_guard_findIdx_lt];simp[Option.guard,i]
def rX:OA:=λds mh Q=>∃(r c n:Nat) (ts:List D),ds=[.ref r,.int (c:Nat)]/\mh[r]? =some (.lst ts)/\(∀t∈ts,Th mh n t)/\ts.length<=100/\c<=ts.length/\
 ∀M p q,aR mh M->M[p]? =some (.lst (aC ((aF [] (ts.map (aO mh n))).take c)))->M[q]? =some (.lst (aC ((aF [] (ts.map (aO mh n))).drop c)))->Q (.tup [.ref p,.ref q]) M
variable{c:Nat}
theorem YX{ts fs:List D}{m:Option D}(ok:iT mh)(i:mh[r]? =some (.lst ts))(ht:∀t∈ts,Th mh n t)(tl:ts.length<=100)(v:c<=ts.length)(px:aR mh M)(g:M[mh.length]? =some (.lst fs))(j:∀f∈fs,f∈ts)(k:fs.map (aO mh n)=(ts.map (aO mh n)).foldl aN [])
  (q:∀M p q,aR mh M->M[p]? =some (.lst (aC ((aF [] (ts.map (aO mh n))).take c)))->M[q]? =some (.lst (aC ((aF [] (ts.map (aO mh n))).drop c)))->R (.tup [.ref p,.ref q]) M):
  fU (En mh R) [some (.ref r),some (.int (c:Nat)),some (.ref mh.length),m,none] M:=by
 have sz:=aMe;simp[fU];rw[bQ (px.old i)];simp only[aH]
 have a:∀t∈ts,aO mh n t∈(ts.map (aO mh n)).foldl aN []:=λt h=>by
  have go:∀(l us:List D) (d:D),d∈us\/d∈l->d∈l.foldl aN us:=λl=>by
   induction l with
   | nil=>intro us d h;simpa using h
   | cons e l ih=>
    intro us d h;rw[List.foldl_cons];refine ih _ _ ?_;rw[tT];simp only[List.mem_cons]at h;rcases h with h | h | h
    ·exact .inl (.inl h)
    ·exact .inl (.inr h)
    ·exact .inr h
  exact go _ _ _ (.inr (aN6 h))
 have step:∀t∈ts,∀N:DK,N (.int ((u4 ((ts.map (aO mh n)).foldl aN []) (aO mh n t):Nat):Int)) M->vZ (.ref mh.length) [t] M N:=λt h N hN=>
  ⟨mh.length,n,fs,t,_,rfl,rfl,g,IA.px px (ht t h).thg,λe he=>IA.px px (ht e (j e he)).thg,aDu px (ht t h) (λf b =>ht f (j f b)) (by rw[k];exact a t h),by rw[k];exact hN⟩
 refine comp_map (λt=>.int ((u4 ((ts.map (aO mh n)).foldl aN []) (aO mh n t):Nat):Int)) ts [] (bQ (px.old i)) (λt h N hN=>?_) ?_
 ·simp[jL,lH];exact⟨⟨_,g⟩,step t h N hN⟩
 ·have o:([]:List D)++ts.map (λt=>D.int ((u4 ((ts.map (aO mh n)).foldl aN []) (aO mh n t):Nat):Int))=aC (aF [] (ts.map (aO mh n))):=by
   rw[<-r9,List.map_map];simp[aC]
  rw[o];generalize hN:aF [] (ts.map (aO mh n))=ns at q⊢;have w:ns.length=ts.length:=by rw[<-hN,aP];simp
  simp[kT];rw[QU (aL _ _),aEr (by lia) (by simp[aC];lia)];rw[QU (aI (aL _ _)),UO (by lia),Int.toNat_natCast];have s:(aC ns).take c=aC (ns.take c):=by simp[aC,List.map_take]
  have u:(aC ns).drop c=aC (ns.drop c):=by simp[aC,List.map_drop]
  rw[s,u];refine⟨by lia,bT (q _ _ _ (((px.push _).push _).push _) (aI (aL _ _)) (aL _ _))⟩
open Classical in
theorem GS(ds:List D)(mh:MH)(R:DK)(ok:iT mh)(p:rX ds mh R):fC (En mh R) (aJ ["_law_things","_law_cut","_law_first","_law_thing","_law_row"] ds) mh:=by
 obtain⟨r,c,n,ts,rfl,m,ht,tl,s,q⟩:=p;have sz:=aMe;simp[fC,kU,aJ];rw[bQ (aI m)];simp only[aH];refine cQ (λi l M=>(∃o,l=[some (.ref r),some (.int (c:Nat)),some (.ref mh.length),o,none])/\aR mh M/\∃fs,M[mh.length]? =some (.lst fs)/\(∀f∈fs,f∈ts)/\fs.length<=i/\fs.map (aO mh n)=((ts.take i).map (aO mh n)).foldl aN []) _ (λi l M h=>bQ (h.2.1.old m)) ?_ ?_ ⟨⟨_,rfl⟩,aR.refl.push _,[],by simp,by simp,by simp,by simp⟩
 ·rintro i t l M N hi ⟨⟨o,rfl⟩,px,fs,g,e,fl,j⟩ nx;have d:=aMc hi;have u:i<ts.length:=(aM6.mp hi).1;have v:ts.take (i+1)=ts.take i++[t]:=by rw[List.take_add_one,hi];rfl
  have ex:((ts.take (i+1)).map (aO mh n)).foldl aN []=aN (((ts.take i).map (aO mh n)).foldl aN []) (aO mh n t):=by rw[v,List.map_append,List.foldl_append];rfl
  have k :=aE4 px (ht t d) (fs:=fs) λf a =>ht f (e f a);rw[j]at k;simp[jZ];refine⟨n,fs,bQ g,IA.px px (ht t d).thg,λf a =>IA.px px (ht f (e f a)).thg,?_⟩;rw[k];by_cases b:aO mh n t∈((ts.take i).map (aO mh n)).foldl aN []
  ·rw[@decide_eq_true _ _ b];simp;exact nx _ _ ⟨⟨_,rfl⟩,px,fs,g,e,by lia,by rw[ex,iC b];exact j⟩
  ·rw[@decide_eq_false _ _ b];simp[lH];refine⟨⟨_,g⟩,?_⟩;rw[dS g];refine⟨by lia,nx _ _ ⟨⟨_,rfl⟩,px.set (aM7 _) _,_,bK _ g,λf a =>?_,by simp;lia,by rw[ex,fJ b,List.map_append,j];rfl⟩⟩;rcases aMi.mp a with h | h
   ·exact e f h
   ·simp at h;subst h;exact d
 ·rintro l M ⟨⟨o,rfl⟩,px,fs,g,e,fl,j⟩;rw[List.take_length]at j;exact YX ok m ht tl s px g e j q
def pG(own:List Nat)(h:Hk):D:= .tup [.str h.s,.int h.w,.int h.l,.str (if h.t=0 then Str.ofString "gate" else Str.ofString "end"),.int (NS h own:Nat),.int (NR h own:Nat)]
def lE(x:Ls)(own:List Nat)(n:Nat):List D:=(q5 x.sw n).map (pG own)
def xH:OA:=λds mh Q=>∃(x:Ls) (n o:Nat) (own:List Nat),ds=[bZ x,.int (n:Nat),.ref o]/\fH x/\mh[o]? =some (.lst (aC own))/\own.length=x.m/\
 ∀L,L.Perm (lE x own n)->L.Pairwise (λd e=>lx (enc e) (enc d)=false)->Q (.ref mh.length) (mh++[.lst L])
theorem aAo(own:List Nat)(l:List Hk):EV (l.map (pG own)):= .inr ⟨.s,[.i,.i,.s,.i,.i],λd hd=>by
 obtain⟨h,_,rfl⟩:=aMd.mp hd
 exact⟨_,rfl,rfl⟩⟩
variable{L:List D}
theorem WC(n:Nat)(own:List Nat)(h:∀d∈L,∃k,d=pG own k):aX n L=true:=by
 induction L with
 | nil=>rfl
 | cons d L ih=>
  obtain⟨k,rfl⟩:=h d aM8;simp only[aX,ih λe he=>h e (List.mem_cons_of_mem _ he),Bool.and_true];rfl
theorem YW(ds:List D)(mh:MH)(R:DK)(ok:iT mh)(T:xH ds mh R):kL (En mh R) (aJ ["_law_some_here","_law_net","_law_old","_law_found","_law_sort","_law_gate","_law_one","_law_other","_law_width","_law_length","_law_tips"] ds) mh:=by
 obtain⟨x,n,o,own,rfl,y,ho,ol,q⟩:=T;have sz:=aMe;have m8:=y.m8;have U :o<mh.length:=(aM6.mp ho).1;have V:fI [D.int x.m,D.tup (List.map gC x.ns),D.tup (List.map iB x.sw)] 2=some (D.tup (List.map iB x.sw)):=rfl;simp[kL,pN,aJ,bZ,V,bF];refine cQ (λi z M=>(∃A a5 a6 E F G j,z=[some (D.tup [D.int x.m,D.tup (List.map gC x.ns),D.tup (List.map iB x.sw)]),some (.int (n:Nat)),some (.ref o),some (.ref mh.length),A,a5,a6,E,F,G,j])/\aR mh M/\M[mh.length]? =some (.lst ((q5 (x.sw.take i) n).map (pG own)))) _ (λ_ _ _ _=>trivial) ?_ ?_ ⟨⟨_,_,_,_,_,_,_,rfl⟩,aR.refl.push _,by simp[q5]⟩
 ·rintro i d z M N hi ⟨⟨A,a5,a6,E,F,G,j,rfl⟩,px,g⟩ nx;obtain⟨p,H,rfl⟩:=o6 hi;obtain⟨p1,p2,p3⟩:=y.sw p (aMc H);have X:i<x.sw.length:=(aM6.mp H).1;have lw:=y.lw
  have I:((q5 (x.sw.take i) n).map (pG own)).length<=42:=by
   have:=wD n (x.sw.take i);rw[List.length_map];rw[List.length_take]at this
   lia
  have Y:x.sw.take (i+1)=x.sw.take i++[p]:=by rw[List.take_add_one,H];rfl
  have J:(q5 (x.sw.take (i+1)) n).map (pG own)=(q5 (x.sw.take i) n).map (pG own)++(EU p n).map (pG own):=by rw[Y];simp[q5]
  generalize (q5 (x.sw.take i) n).map (pG own)=B at g I J;simp[iB,nO];have K:=fG (own:=own) (i:=p.a) (by lia);have O:=fG (own:=own) (i:=p.b) (by lia);have P:=fG (own:=own) (i:=p.g) (by lia);rw[cE (px.old ho),K];simp only[aH];rw[cE (px.old ho),O];simp only[aH];refine⟨by lia,?_⟩;have c:=px.push (MO.lst [D.int (mk own p.a:Nat),D.int (mk own p.b:Nat)]);have f:=aI (x:=MO.lst [D.int (mk own p.a:Nat),D.int (mk own p.b:Nat)]) g;have Q:=aL M (MO.lst [D.int (mk own p.a:Nat),D.int (mk own p.b:Nat)])
  have Z:M.length≠mh.length:=by
   have:=(aM6.mp g).1
   lia
  generalize M++[MO.lst [D.int (mk own p.a:Nat),D.int (mk own p.b:Nat)]]=W at c f Q⊢
  have t:∀(W:MH) (C:List D),aR mh W->W[mh.length]? =some (.lst (B++C))->C.length<=2->(B++C)++(if p.b=n then [pG own ⟨p.s,p.w,p.l,1,p.g,p.a⟩] else [])=B++(EU p n).map (pG own)->
    gQ {nx:=N,rt:=λd r=>Out (List.length mh) d r R,bk:=g8 (En mh R),ct:=N} [some (D.tup [D.int x.m,D.tup (List.map gC x.ns),D.tup (List.map iB x.sw)]),some (D.int (n:Nat)),some (D.ref o),some (D.ref mh.length),some (D.str p.s),some (D.int (p.g:Nat)),some (D.int (p.a:Nat)),some (D.int (p.b:Nat)),some (D.int p.w),some (D.int p.l),some (D.ref M.length)] W:=λW C c f cl u=>by
   simp[gQ];by_cases e:p.b=n
   ·have h :((p.b:Nat):Int)=(n:Nat):=by lia
    rw[if_pos h];simp[lH];refine⟨⟨_,f⟩,?_⟩;rw[cE (c.old ho),P];simp only[aH];rw[cE (c.old ho),K];simp only[aH];refine⟨by lia,?_⟩;rw[dS f];refine⟨by simp;lia,nx _ _ ⟨⟨_,_,_,_,_,_,_,rfl⟩,c.set (aM7 _) _,?_⟩⟩;rw[J,<-u,if_pos e];exact bK _ f
   ·have h :¬((p.b:Nat):Int)=(n:Nat):=by lia
    rw[if_neg h];refine nx _ _ ⟨⟨_,_,_,_,_,_,_,rfl⟩,c,?_⟩;rw[J,<-u,if_neg e,List.append_nil];exact f
  have v:∀(W:MH) (C:List D),aR mh W->W[mh.length]? =some (.lst (B++C))->C.length<=1->(B++C)++((if p.a=n then [pG own ⟨p.s,p.w,p.l,1,p.g,p.b⟩] else [])++(if p.b=n then [pG own ⟨p.s,p.w,p.l,1,p.g,p.a⟩] else []))=B++(EU p n).map (pG own)->
    gR {nx:=N,rt:=λd r=>Out (List.length mh) d r R,bk:=g8 (En mh R),ct:=N} [some (D.tup [D.int x.m,D.tup (List.map gC x.ns),D.tup (List.map iB x.sw)]),some (D.int (n:Nat)),some (D.ref o),some (D.ref mh.length),some (D.str p.s),some (D.int (p.g:Nat)),some (D.int (p.a:Nat)),some (D.int (p.b:Nat)),some (D.int p.w),some (D.int p.l),some (D.ref M.length)] W:=λW C c f cl u=>by
   simp[gR];by_cases e:p.a=n
   ·have h :((p.a:Nat):Int)=(n:Nat):=by lia
    rw[if_pos h];simp[lH];refine⟨⟨_,f⟩,?_⟩;rw[cE (c.old ho),P];simp only[aH];rw[cE (c.old ho),O];simp only[aH];refine⟨by lia,?_⟩;rw[dS f];refine⟨by simp;lia,t _ (C++[pG own ⟨p.s,p.w,p.l,1,p.g,p.b⟩]) (c.set (aM7 _) _) ?_ (by simp;lia) ?_⟩
    ·rw[<-List.append_assoc];exact bK _ f
    ·rw[<-u,if_pos e];simp
   ·have h :¬((p.a:Nat):Int)=(n:Nat):=by lia
    rw[if_neg h];exact t _ C c f (by lia) (by rw[<-u,if_neg e];simp)
  have S:(EU p n).map (pG own)=(if p.g=n then [pG own ⟨p.s,p.w,p.l,0,p.a,p.b⟩] else [])++((if p.a=n then [pG own ⟨p.s,p.w,p.l,1,p.g,p.b⟩] else [])++(if p.b=n then [pG own ⟨p.s,p.w,p.l,1,p.g,p.a⟩] else [])):=by
   unfold EU;split <;> split <;> split <;> rfl
  simp[lP];by_cases e:p.g=n
  ·have h :((p.g:Nat):Int)=(n:Nat):=by lia
   rw[if_pos h];simp[lH];refine⟨⟨_,f⟩,?_⟩;have sq:bF W (.ref M.length)=some (([((mk own p.a:Nat):Int),((mk own p.b:Nat):Int)]).map .int):=eA Q;refine⟨_,_,_,rfl,sq,_,_,_,rfl,sq,by lia,?_⟩;rw[dS f];refine⟨by lia,?_⟩
   have ed:(D.tup [D.str p.s,D.int p.w,D.int p.l,D.str (Str.ofString "gate"),.int (bestOf (λa b=>decide (a<b)) ((mk own p.a:Nat):Int) [((mk own p.b:Nat):Int)]),.int (bestOf (λa b=>decide (a > b)) ((mk own p.a:Nat):Int) [((mk own p.b:Nat):Int)])])=pG own ⟨p.s,p.w,p.l,0,p.a,p.b⟩:=by
    have e1:bestOf (λa b=>decide (a<b)) ((mk own p.a:Nat):Int) [((mk own p.b:Nat):Int)]=(min (mk own p.a) (mk own p.b):Nat):=by
     simp only[bestOf,List.foldl,decide_eq_true_eq];split <;> lia
    have e2:bestOf (λa b=>decide (a > b)) ((mk own p.a:Nat):Int) [((mk own p.b:Nat):Int)]=(max (mk own p.a) (mk own p.b):Nat):=by
     simp only[bestOf,List.foldl,decide_eq_true_eq];split <;> lia
    rw[e1,e2];rfl
   rw[ed];exact v _ [pG own ⟨p.s,p.w,p.l,0,p.a,p.b⟩] (c.set (aM7 _) _) (bK _ f) (by simp) (by rw[S,if_pos e];simp)
  ·have h :¬((p.g:Nat):Int)=(n:Nat):=by lia
   rw[if_neg h];exact v _ [] c (by simpa using f) (by simp) (by rw[S,if_neg e];simp)
 ·rintro z M ⟨⟨A,a5,a6,E,F,G,j,rfl⟩,px,g⟩;rw[show (List.map iB x.sw).length=x.sw.length by simp,List.take_length]at g;simp[g8];have hle:=TJ y n;refine⟨_,_,rfl,eA g,by simp;lia,aAo own _,λL pm c=>?_⟩;refine(px.push _).tR ok px.le (aL _ _) ?_ (q L pm c);exact WC _ own λd hd=>by obtain⟨k,_,e⟩:=aMd.mp (pm.mem_iff.mp hd);exact⟨k,e.symm⟩
structure vQ(nb:Nat)(M:MH)(x:Ls)(own:List Nat)(K:List D):Prop where
 len:K.length=x.m
 at_:∀n,n<x.m->∃L k,K[n]? =some (.tup [.int (mk own n:Nat),.ref k])/\nb<=k/\M[k]? =some (.lst L)/\L.Perm (lE x own n)/\L.Pairwise (λd e=>lx (enc e) (enc d)=false)
variable{nb:Nat}
theorem vQ.px{M a :MH}(h:vQ nb M x own K)(p:aR M a):vQ nb a x own K:=⟨h.len,λn b=>by
 obtain⟨L,k,c,d,e,f⟩:=h.at_ n b
 exact⟨L,k,c,d,p.old e,f⟩⟩
theorem vQ.set{o:MO}(h:vQ nb M x own K)(f:rk<nb):vQ nb (M.set rk o) x own K:=⟨h.len,λn a=>by
 obtain⟨L,k,b,c,d,e⟩:=h.at_ n a
 exact⟨L,k,b,c,get_set d (by lia),e⟩⟩
structure HW(x:Ls)(own:List Nat)(T:List D):Prop where
 len:T.length=x.m
 at_:∀n,n<x.m->∃L,T[n]? =some (.tup [.int (mk own n:Nat),.fl L])/\L.Perm (lE x own n)/\L.Pairwise (λd e=>lx (enc e) (enc d)=false)
theorem UN(M:MH)(own:List Nat):∀{L:List D},(∀d∈L,∃k,d=pG own k)->L.map (aO M 2)=L
 | [],_=>rfl
 | d::L,h=>by
  obtain⟨k,rfl⟩:=h d aM8;rw[List.map_cons,UN M own λe he=>h e (List.mem_cons_of_mem _ he)];rfl
theorem vV(p:L.Perm (lE x own n)):∀d∈L,∃k,d=pG own k:=λd hd=>by
 obtain⟨k,_,e⟩:=aMd.mp (p.mem_iff.mp hd);exact⟨k,e.symm⟩
theorem BU{i:Int}{k:Nat}(h:M[k]? =some (.lst L))(a:∀d∈L,∃k,d=pG own k):aO M 4 (.tup [.int i,.ref k])= .tup [.int i,.fl L]:=by
 simp only[aO,List.map_cons,List.map_nil,h];rw[UN M own a]
theorem vQ.der(h:vQ nb M x own K):HW x own (K.map (aO M 4)):=⟨by simp[h.len],λn b=>by
 obtain⟨L,k,c,f,d,a,e⟩:=h.at_ n b;refine⟨L,?_,a,e⟩
 rw[List.getElem?_map,c,Option.map_some,BU d (vV a)]⟩
theorem MY(own:List Nat):∀{L:List D},(∀d∈L,∃k,d=pG own k)->dX L=true/\bM L<=1
 | [],_=>⟨rfl,by simp[bM]⟩
 | d::L,h=>by
  obtain⟨k,rfl⟩:=h d aM8;obtain⟨a,b⟩:=MY own λe he=>h e (aM9 _ he);refine⟨by simp only[dX,a,Bool.and_true];rfl,?_⟩;simp only[bM];have:deep (pG own k)<=1:=by simp[pG,deep,bM]
  lia
theorem vQ.th(h:vQ nb M x own K):∀t∈K,Th M 4 t:=λt ht=>by
 obtain⟨n,a⟩:=aMr.mp ht;have d:n<x.m:=by rw[<-h.len];exact(aM6.mp a).1
 obtain⟨L,k,b,g,e,c,i⟩:=h.at_ n d;rw[a]at b;cases b;unfold Th;rw[BU e (vV c)];obtain⟨f,j⟩:=MY own (vV c);refine⟨by simp[cY,dX,f],?_⟩;simp[deep,bM]
 lia
theorem xK{o rk:Nat}{kk:List D}(g:fH x)(j:own.length=x.m)(ho:mh[o]? =some (.lst (aC own)))(h:mh[rk]? =some (.lst kk))(kl:kk.length<=10)
  (q:∀(M:MH) (K:List D),aR mh M->vQ mh.length M x own K->E.nx [a0,a1,a2,some (.ref rk),some (bZ x),some (.ref o)] (List.set M rk (MO.lst (kk++K)))):
  fV xH rX E [a0,a1,a2,some (.ref rk),some (bZ x),some (.ref o)] mh:=by
 have sz:=aMe;have m8:=g.m8;have i0:fI [D.int x.m,D.tup (List.map gC x.ns),D.tup (List.map iB x.sw)] 0=some (D.int x.m):=rfl;simp[fV,lH];refine⟨⟨_,h⟩,?_⟩;simp[bZ,i0];refine⟨by lia,?_⟩;refine sX (λi a M=>aR mh M/\a.length=i/\∀n,n<i->∃L k,a[n]? =some (.tup [.int (mk own n:Nat),.ref k])/\mh.length<=k/\M[k]? =some (.lst L)/\L.Perm (lE x own n)/\L.Pairwise (λd e=>lx (enc e) (enc d)=false)) _ (λ_ _ _ _=>trivial) ?_ ?_ ⟨aR.refl,rfl,λn l=>by lia⟩
 ·rintro i d a M N hi ⟨px,b,c⟩ nx;obtain⟨p,rfl⟩:=jI hi;have r:(0:Int)+(i:Nat)=(i:Nat):=by lia
  rw[r];have f:i<own.length:=by lia
  simp[jL];rw[cE (px.old ho),fG f];simp only[aH];refine⟨x,i,o,own,rfl,g,px.old ho,j,λL pm s=>?_⟩;dsimp only;refine⟨by lia,nx _ _ ⟨px.push _,by simp[b],λn l=>?_⟩⟩;by_cases e:n=i
  ·subst e;exact⟨L,M.length,by rw[<-b];simp,px.le,aL _ _,pm,s⟩
  ·obtain⟨L,k,t,u,v,w⟩:=c n (by lia);exact⟨L,k,by rw[List.getElem?_append_left (by lia)];exact t,u,aI v,w⟩
 ·rintro a M ⟨px,b,c⟩;have y:(dU 0 x.m).length=x.m:=by simp
  rw[y]at b c
  have tr:vQ mh.length M x own a:=⟨b,c⟩
  refine⟨_,_,_,_,rfl,rfl,aI (px.old h),eA (aL _ _),by lia,?_⟩;exact q _ a (px.push _) (tr.px (aR.refl.push _))
def FN:OA:=λds mh Q=>∃(x1 c:Ls) (p q:Nat) (a b:List Nat),ds=[bZ x1,bZ c,.tup [.ref p,.ref q]]/\fH x1/\fH c/\mh[p]? =some (.lst (aC a))/\mh[q]? =some (.lst (aC b))/\a.length=x1.m/\b.length=c.m/\
 ∀d e M f g,aR mh M->HW x1 a d->HW c b e->M[f]? =some (.lst (aC ((aF [] (d++e)).take x1.m)))->M[g]? =some (.lst (aC ((aF [] (d++e)).drop x1.m)))->Q (.tup [.ref f,.ref g]) M
theorem JV(ds:List D)(mh:MH)(R:DK)(ok:iT mh)(F:FN ds mh R):fW xH rX (En mh R) (aJ ["_law_one","_law_other","_law_duo","_law_things","_law_some_here","_law_old"] ds) mh:=by
 obtain⟨x1,d,p,q,a,b,rfl,i,j,G,H,I,J,K⟩:=F;have sz:=aMe;have m1:=i.m8;have T:=j.m8;have L:aR mh (mh++[MO.lst []]):=aR.refl.push _;have s:aR mh (mh++[MO.lst []]++[MO.lst [bZ x1,bZ d]]):=L.push _;have u:(mh++[MO.lst []]++[MO.lst [bZ x1,bZ d]])[mh.length]? =some (.lst []):=aI (aL _ _);have k:=aL (mh++[MO.lst []]) (MO.lst [bZ x1,bZ d]);simp[fW,lX,aJ];rw[show mh++[MO.lst [],MO.lst [bZ x1,bZ d]]=mh++[MO.lst []]++[MO.lst [bZ x1,bZ d]] by simp];rw[show (mh++[MO.lst []]).length=mh.length+1 by simp]at k;have N:mh.length+1<(mh++[MO.lst []]++[MO.lst [bZ x1,bZ d]]).length:=by simp
 generalize mh++[MO.lst []]++[MO.lst [bZ x1,bZ d]]=U at s u k N⊢;refine⟨by lia,?_⟩;rw[bQ k];simp only[aH,bF];refine⟨by simp;lia,?_⟩;simp only[nF,List.zip_cons_cons,List.zip_nil_right,List.map_cons,List.map_nil,kY];simp;refine⟨by rw[k],?_⟩;refine xK i I (s.old G) u (by simp) λv K1 f y=>?_;have l :=y.set (o:=MO.lst ([]++K1)) (rk:=mh.length) (by lia);have w:aR mh (List.set v mh.length (MO.lst ([]++K1))):=(s.trans f).set (aM7 _) _;have r:=bK (MO.lst ([]++K1)) (f.old u);have g:(List.set v mh.length (MO.lst ([]++K1)))[mh.length+1]? =some (.lst [bZ x1,bZ d]):=get_set (f.old k) (by lia);generalize List.set v mh.length (MO.lst ([]++K1))=O at l w r g⊢;simp;refine⟨by rw[g],?_⟩;have P:=y.len;refine xK j J (w.old H) r (by simp;lia) λM2 K2 e A=>?_;have Q:mh.length<O.length:=(aM6.mp r).1;have h :=A.set (o:=MO.lst ([]++K1++K2)) (rk:=mh.length) (by lia);have c :=(l.px e).set (o:=MO.lst ([]++K1++K2)) (rk:=mh.length) (by lia);have B:aR mh (List.set M2 mh.length (MO.lst ([]++K1++K2))):=(w.trans e).set (aM7 _) _;have x:=bK (MO.lst ([]++K1++K2)) (e.old r);have n:(List.set M2 mh.length (MO.lst ([]++K1++K2)))[mh.length+1]? =some (.lst [bZ x1,bZ d]):=get_set (e.old g) (by lia);generalize List.set M2 mh.length (MO.lst ([]++K1++K2))=V at c h B x n⊢;have S:=A.len;have i0:fI [D.int x1.m,D.tup (List.map gC x1.ns),D.tup (List.map iB x1.sw)] 0=some (D.int x1.m):=rfl;simp only[List.nil_append]at x;refine⟨by rw[n],?_⟩;simp[lW,bZ,i0];refine⟨mh.length,x1.m,4,K1++K2,rfl,x,λt ht=>?_,by simp;lia,by simp;lia,λM W X pm C E=>?_⟩
 ·rcases aMi.mp ht with z | z
  ·exact c.th t z
  ·exact h.th t z
 ·rw[List.map_append]at C E;exact bT (K _ _ _ _ _ (B.trans pm) c.der h.der C E)
theorem XN(l:List (Str×Nat))(n:Nat):(bC l n).length<=l.length:=by simp only[bC,List.length_map];exact List.length_filter_le _ _
def pick(w:Nat)(p:Nat×Nat):Nat:=if w=0 then p.1 else p.2
def P6(p:Nat×Nat):D:= .tup [.int (p.1:Nat),.int (p.2:Nat)]
def x4(ts:List (Nat×Nat))(w n:Nat):List Nat:=(List.range ts.length).filter λk=>decide (pick w (ts.getD k (0,0))=n)
def HZ(x:Ls)(ts:List (Nat×Nat))(w n:Nat):D:= .tup [.fl (bC x.ns n),.fl (aC (x4 ts w n))]
variable{w:Nat}
theorem aGw{p:Nat×Nat}(h:w<2):fI [D.int (p.1:Nat),D.int (p.2:Nat)] (w:Nat)=some (.int (pick w p:Nat)):=by
 have:w=0\/w=1:=by lia
 rcases this with rfl | rfl <;> exact dI rfl
structure AO(nb:Nat)(M:MH)(x:Ls)(ts:List (Nat×Nat))(w i:Nat)(K:List D):Prop where
 len:K.length=i
 at_:∀n,n<i->∃k k2,K[n]? =some (.tup [.ref k,.ref k2])/\nb<=k/\nb<=k2/\M[k]? =some (.lst (bC x.ns n))/\M[k2]? =some (.lst (aC (x4 ts w n)))
variable{ts:List (Nat×Nat)}
theorem AO.px{M a :MH}(h:AO nb M x ts w i K)(p:∀k o,nb<=k->M[k]? =some o->a[k]? =some o):AO nb a x ts w i K:=⟨h.len,λn d=>by
 obtain⟨k,k2,e,b,c,f,g⟩:=h.at_ n d
 exact⟨k,k2,e,b,c,p _ _ b f,p _ _ c g⟩⟩
theorem G6(M:MH)(n:Nat):∀l:List Str,(l.map D.str).map (aO M n)=l.map D.str
 | []=>rfl
 | s::l=>by
  rw[List.map_cons,List.map_cons,G6 M n l];cases n <;> rfl
theorem BV{w n k k2:Nat}(a:M[k]? =some (.lst (bC x.ns n)))(b:M[k2]? =some (.lst (aC (x4 ts w n)))):aO M 4 (.tup [.ref k,.ref k2])=HZ x ts w n:=by
 simp only[aO,List.map_cons,List.map_nil,a,b,HZ];unfold bC;rw[G6,sW]
theorem AO.der(h:AO nb M x ts w i K):K.map (aO M 4)=(List.range i).map (HZ x ts w):=by
 apply aP2;intro n;by_cases a:n<i
 ·obtain⟨k,k2,b,e,f,c,d⟩:=h.at_ n a;rw[List.getElem?_map,b,Option.map_some,BV c d];simp[a]
 ·rw[List.getElem?_eq_none (by simp[h.len];lia),List.getElem?_eq_none (by simp;lia)]
theorem t8:∀l:List Str,dX (l.map .str)=true/\bM (l.map .str)<=1
 | []=>⟨rfl,by simp[bM]⟩
 | s::l=>by
  obtain⟨a,b⟩:=t8 l;refine⟨by simp[dX,cY,a],?_⟩;simp only[List.map_cons,bM,deep]
  lia
theorem AO.th(h:AO nb M x ts w i K):∀t∈K,Th M 4 t:=λt ht=>by
 obtain⟨n,a⟩:=aMr.mp ht;have d:n<i:=by rw[<-h.len];exact(aM6.mp a).1
 obtain⟨k,k2,b,j,l,e,f⟩:=h.at_ n d;rw[a]at b;cases b;unfold Th;rw[BV e f];have g:dX (bC x.ns n)=true:=(t8 _).1;have m:bM (bC x.ns n)<=1:=(t8 _).2;have c:=fM (x4 ts w n);refine⟨by simp[HZ,cY,dX,g,c.1],?_⟩;have o:=c.2;simp only[HZ,deep,bM]
 lia
variable{a7:Option D}
theorem A3{b mh:MH}{t rk w:Nat}{kk:List D}(y:fH x)(P:ts.length<=20)(z:w<2)(Q:aR b mh)(R:b.length<=rk)(ht:mh[t]? =some (.lst (ts.map P6)))(A:t≠rk)(v:mh[rk]? =some (.lst kk))(kl:kk.length<=10)
  (q:∀(M:MH) (K:List D) a6 a7,aR b M->(∀k o,mh[k]? =some o->k≠rk->M[k]? =some o)->M[rk]? =some (.lst (kk++K))->AO mh.length M x ts w x.m K->E.nx [a0,a1,some (.ref t),some (.ref rk),some (.int (w:Nat)),some (bZ x),a6,a7] M):
  iO rX E [a0,a1,some (.ref t),some (.ref rk),some (.int (w:Nat)),some (bZ x),a6,a7] mh:=by
 have sz:=aMe;have m8:=y.m8;have ln:=y.ln;have i0:fI [D.int x.m,D.tup (List.map gC x.ns),D.tup (List.map iB x.sw)] 0=some (D.int x.m):=rfl;have S:rk<mh.length:=(aM6.mp v).1;simp[iO,bZ,i0];refine⟨by lia,?_⟩;refine cQ (λi B M=>(∃a6 a7,B=[a0,a1,some (.ref t),some (.ref rk),some (.int (w:Nat)),some (bZ x),a6,a7])/\aR b M/\(∀k o,mh[k]? =some o->k≠rk->M[k]? =some o)/\mh.length<=M.length/\∃K,M[rk]? =some (.lst (kk++K))/\AO mh.length M x ts w i K) _ (λ_ _ _ _=>trivial) ?_ ?_ ⟨⟨_,_,rfl⟩,Q,λk o h _=>h,aM7 _,[],by simpa using v,rfl,λn T=>by lia⟩
 ·rintro i d B M N hi ⟨⟨a6,a7,rfl⟩,px,kp,I,K,c,f⟩ nx;obtain⟨U,rfl⟩:=jI hi;have V:(0:Int)+(i:Nat)=(i:Nat):=by lia
  rw[V];simp[mZ];have g:=kp _ _ ht A;rw[tO g];have W:∀n:Nat,dU 0 n=(List.range n).map λk=>D.int (k:Nat):=λn=>by simp[dU]
  simp;refine⟨by lia,?_⟩;rw[W];refine mT (λk=>D.int (k:Nat)) (λk=>decide (pick w (ts.getD k (0,0))=i)) (λk=>k) (λk=>.int (k:Nat)) (List.range ts.length) trivial (λk v N M' j l=>?_) ?_
  ·have C :k<ts.length:=by simpa using v
   have at_:fI (ts.map P6) (k:Nat)=some (P6 (ts.getD k (0,0))):=dI (by simp[List.getD,C]);simp[jL];rw[cE g,at_];simp[P6,aGw z];by_cases e:pick w (ts.getD k (0,0))=i
   ·have r :=j (by simpa using e);simp[List.getD]at e r ⊢;simp[e];exact r
   ·have s :=l (by simpa using e);simp[List.getD]at e s ⊢;rw[if_neg (by lia)];exact s
  have X:((List.range ts.length).filter λk=>decide (pick w (ts.getD k (0,0))=i)).map (λk=>k)=x4 ts w i:=by simp[x4]
  rw[X];have J:=aL M (MO.lst (aC (x4 ts w i)));have a:∀k o,M[k]? =some o->(M++[MO.lst (aC (x4 ts w i))])[k]? =some o:=λk o h=>aI h;have F:(M++[MO.lst (aC (x4 ts w i))]).length=M.length+1:=by simp
  have u:=px.push (MO.lst (aC (x4 ts w i)));change fR rX _ _ (M++[MO.lst (aC (x4 ts w i))]);generalize M++[MO.lst (aC (x4 ts w i))]=O at J a F u⊢;have Y:fI [D.int x.m,D.tup (List.map gC x.ns),D.tup (List.map iB x.sw)] 1=some (D.tup (List.map gC x.ns)):=rfl;simp[fR,bZ,Y,bF,lH];refine⟨⟨_,a _ _ c⟩,?_⟩;refine mT gC (λp=>decide (p.2=i)) (λp=>p.1) D.str x.ns trivial (λp hp N M j l=>?_) ?_
  ·simp[gC,jL];by_cases e:p.2=i
   ·have G :((p.2:Nat):Int)=(i:Nat):=by lia
    rw[if_pos G];exact j (by simpa using e)
   ·have G :¬((p.2:Nat):Int)=(i:Nat):=by lia
    rw[if_neg G];exact l (by simpa using e)
  ·have Z:((x.ns.filter λp=>decide (p.2=i)).map λp=>p.1).map D.str=bC x.ns i:=rfl;rw[Z];have nl:=XN x.ns i;refine⟨_,_,rfl,eA (aL _ _),by lia,CG _ _,λL pm pw=>?_⟩;have eL:L=bC x.ns i:=fK (CG x.ns i) (λd hd=>pm.mem_iff.mp hd) pm pw (C1 i y.up);subst eL;dsimp only;refine⟨by lia,?_⟩;rw[dS (aI (aI (a _ _ c)))];have sl:=f.len;refine⟨by simp;lia,nx _ _ ⟨⟨_,_,rfl⟩,((u.push _).push _).set R _,λk o h H=>get_set (aI (aI (a _ _ (kp k o h H)))) (by lia),by simp;lia,K++[.tup [.ref (O++[MO.lst (bC x.ns i)]).length,.ref M.length]],?_,?_⟩⟩
   ·rw[<-List.append_assoc];exact bK _ (aI (aI (a _ _ c)))
   ·refine⟨by simp[sl],λn T=>?_⟩;by_cases e:n=i
    ·subst e;refine⟨(O++[MO.lst (bC x.ns n)]).length,M.length,by rw[<-sl];simp,by simp;lia,I,get_set (aL _ _) (by simp;lia),get_set (aI (aI J)) (by lia)⟩
    ·obtain⟨k,k2,j,l,h3,h4,h5⟩:=f.at_ n (by lia);exact⟨k,k2,by rw[List.getElem?_append_left (by lia)];exact j,l,h3,get_set (aI (aI (a _ _ h4))) (by lia),get_set (aI (aI (a _ _ h5))) (by lia)⟩
 ·rintro B M ⟨⟨a6,a7,rfl⟩,px,kp,I,K,c,f⟩;have rl:(dU 0 x.m).length=x.m:=by simp
  rw[rl]at f;exact q M K a6 a7 px kp c f
noncomputable def LS0(x y:Ls)(ts:List (Nat×Nat)):List Nat:=aF [] ((List.range x.m).map (HZ x ts 0)++(List.range y.m).map (HZ y ts 1))
def QZ:OA:=λds mh Q=>∃(x1 a:Ls) (ts:List (Nat×Nat)) (t:Nat),ds=[bZ x1,bZ a,.ref t]/\fH x1/\fH a/\ts.length<=20/\mh[t]? =some (.lst (ts.map P6))/\
 ∀M b c,aR mh M->M[b]? =some (.lst (aC ((LS0 x1 a ts).take x1.m)))->M[c]? =some (.lst (aC ((LS0 x1 a ts).drop x1.m)))->Q (.tup [.ref b,.ref c]) M
theorem TU(ds:List D)(mh:MH)(R:DK)(ok:iT mh)(A:QZ ds mh R):jD rX (En mh R) (aJ ["_law_one","_law_other","_law_tries","_law_things","_law_which","_law_some_here","_law_net","_law_more"] ds) mh:=by
 obtain⟨x1,a,ts,t,rfl,b,c,d,ht,B⟩:=A;have sz:=aMe;have m1:=b.m8;have N:=c.m8;have C:t<mh.length:=(aM6.mp ht).1;have E:aR mh (mh++[MO.lst []]):=aR.refl.push _;have j:aR mh (mh++[MO.lst []]++[MO.lst [bZ x1,bZ a]]):=E.push _;have q:(mh++[MO.lst []]++[MO.lst [bZ x1,bZ a]])[mh.length]? =some (.lst []):=aI (aL _ _);have e:=aL (mh++[MO.lst []]) (MO.lst [bZ x1,bZ a]);simp[jD,nR,aJ];rw[show mh++[MO.lst [],MO.lst [bZ x1,bZ a]]=mh++[MO.lst []]++[MO.lst [bZ x1,bZ a]] by simp];rw[show (mh++[MO.lst []]).length=mh.length+1 by simp]at e;have F:mh.length+1<(mh++[MO.lst []]++[MO.lst [bZ x1,bZ a]]).length:=by simp
 generalize mh++[MO.lst []]++[MO.lst [bZ x1,bZ a]]=G at j q e F⊢;refine⟨by lia,?_⟩;rw[bQ e];simp only[aH,bF];refine⟨by simp;lia,?_⟩;simp only[nC,kY];simp;refine⟨by rw[e],?_⟩;refine A3 (w:=0) b d (by lia) j (aM7 _) (j.old ht) (by lia) q (by simp) λH K1 a6 a7 r l s u=>?_;have f:=l _ _ e (by lia);simp;refine⟨by rw[f],?_⟩;have I:=u.len;have J:mh.length<H.length:=(aM6.mp s).1;refine A3 (w:=1) c d (by lia) r (aM7 _) (r.old ht) (by lia) s (by simp;lia) λM2 K2 O P K g v n=>?_;have p:=g _ _ f (by lia);have L:=n.len;have i :AO G.length M2 x1 ts 0 x1.m K1:=u.px λk o Q h=>g k o h (by lia);have i0:fI [D.int x1.m,D.tup (List.map gC x1.ns),D.tup (List.map iB x1.sw)] 0=some (D.int x1.m):=rfl;simp only[List.nil_append]at v;refine⟨by rw[p],?_⟩;simp[nQ,bZ,i0];refine⟨mh.length,x1.m,4,K1++K2,rfl,v,λt ht=>?_,by simp;lia,by simp;lia,λM S T pm x y=>?_⟩
 ·rcases aMi.mp ht with z | z
  ·exact i.th t z
  ·exact n.th t z
 ·rw[List.map_append,i.der,n.der]at x y;exact bT (B _ _ _ (K.trans pm) x y)
theorem NU(l:List D):∃L:List D,L.Perm l/\L.Pairwise (λd e=>lx (encM e) (encM d)=false):=by
 refine⟨l.mergeSort λd e=>!lx (encM e) (encM d),List.mergeSort_perm _ _,?_⟩;refine(List.pairwise_mergeSort (λa b c f g=>?_) (λa b=>?_) l).imp λh=>by simpa using h
 ·simp only[Bool.not_eq_true']at f g⊢;exact L6 _ _ _ f g
 ·cases h:lx (encM b) (encM a) with
  | false=>rfl
  | true=>rw[sH _ _ h];rfl
theorem v8(x:Ls)(own:List Nat):∃K,mV x own K:=by
 have h:=λn=>NU (tells x own n);refine⟨(List.range x.m).map λn=>.tup [.int (mk own n:Nat),.tup (Classical.choose (h n))],by simp,λn a=>?_⟩;exact⟨_,by simp[a],(Classical.choose_spec (h n)).1,(Classical.choose_spec (h n)).2⟩
theorem aCj(x y:Ls)(t:List Nat×List Nat):∃t',VA x y t t' :=by
 obtain⟨K1,k1⟩:=v8 x t.1;obtain⟨K2,k2⟩:=v8 y t.2;exact⟨_,K1,K2,k1,k2,rfl⟩
def Hd(x y:Ls)(ts:List (Nat×Nat))(t0:List Nat×List Nat):Prop:=t0.1++t0.2=LS0 x y ts
def pS(x y:Ls)(ts:List (Nat×Nat)):List D:=(List.range x.m).map (HZ x ts 0)++(List.range y.m).map (HZ y ts 1)
theorem vT(x y:Ls)(ts:List (Nat×Nat)):(pS x y ts).length=x.m+y.m:=by simp[pS]
theorem S3(h:n<x.m):c9 (pS x y ts) n=HZ x ts 0 n:=by
 unfold pS;rw[iI (by simpa using h)];simp[c9,List.getD,h]
theorem S2(h:n<y.m):c9 (pS x y ts) (x.m+n)=HZ y ts 1 n:=by
 unfold pS;rw[j9 (by simp)];simp[c9,List.getD,h]
theorem aE6(x y:Ls):Hd x y [] (aEi x y):=by
 show aF [] (aY x)++aF ((aY x).foldl aN []) (aY y)=aF [] (pS x y []);rw[<-cK];have l:(aY x++aY y).length=x.m+y.m:=by simp[aY]
 have a:∀n,n<x.m+y.m->∃z,c9 (aY x++aY y) n= .tup z/\c9 (pS x y []) n= .tup [.fl z,.fl []]:=λn g=>by
  by_cases h:n<x.m
  ·exact⟨bC x.ns n,by rw[iI (by simpa[aY] using h)];simp[c9,aY,List.getD,h],by rw[S3 h];rfl⟩
  ·obtain⟨k,rfl⟩:∃k,n=x.m+k:=⟨n-x.m,by lia⟩
   have b:k<y.m:=by lia
   exact⟨bC y.ns k,by rw[j9 (by simp[aY])];simp[c9,aY,List.getD,b],by rw[S2 b];rfl⟩
 refine tS (by rw[l,vT]) λi j hi o=>?_;obtain⟨z,c,d⟩:=a i (by lia);obtain⟨p,e,f⟩:=a j (by lia);rw[c,d,e,f];simp
theorem F6(ts:List (Nat×Nat))(p:Nat×Nat)(w n:Nat):x4 (ts++[p]) w n=x4 ts w n++if pick w p=n then [ts.length] else []:=by
 unfold x4;rw[List.length_append,List.length_singleton,List.range_succ,List.filter_append];congr 1
 ·refine List.filter_congr λk a=>?_;have:k<ts.length:=by simpa using a
  have e:(ts++[p]).getD k (0,0)=ts.getD k (0,0):=by simp[List.getD,List.getElem?_append_left this]
  rw[e]
 ·by_cases e:pick w p=n
  ·simp[List.getD,e]
  ·simp[List.getD,e]
theorem aCp{w n k:Nat}(h:k∈x4 ts w n):k<ts.length:=by
 have:=(aNi.mp h).1;simpa using this
theorem XR{p:Nat×Nat}{w c n d :Nat}:x4 (ts++[p]) w n=x4 (ts++[p]) c d ↔x4 ts w n=x4 ts c d /\(pick w p=n↔pick c p=d):=by
 rw[F6,F6];have e:∀{w n},ts.length∉x4 ts w n:=λh=>aNk _ (aCp h);by_cases a:pick w p=n
 ·by_cases b:pick c p=d
  ·simp[a,b]
  ·simp only[if_pos a,if_neg b,List.append_nil];refine⟨λz=>absurd (show ts.length∈x4 ts c d by rw[<-z];simp) e,λz=>absurd (z.2.mp a) b⟩
 ·by_cases b:pick c p=d
  ·simp only[if_neg a,if_pos b,List.append_nil];refine⟨λz=>absurd (show ts.length∈x4 ts w n by rw[z];simp) e,λz=>absurd (z.2.mpr b) a⟩
  ·simp[a,b]
theorem YN(hm:y.m=x.m)(m0:Mk x.m t0.1 t0.2)(h:Hd x y ts t0):Hd x y (ts++[(i,j)]) (aF [] (aK t0.1 i),aF ((aK t0.1 i).foldl aN []) (aK t0.2 j)):=by
 show aF [] (aK t0.1 i)++aF ((aK t0.1 i).foldl aN []) (aK t0.2 j)=aF [] (pS x y (ts++[(i,j)]));have h:t0.1++t0.2=aF [] (pS x y ts):=h;rw[<-cK];have l:(aK t0.1 i++aK t0.2 j).length=x.m+x.m:=by simp[c6,m0.la,m0.lb]
 have c:∀n,n<x.m+x.m->∃(z:Ls) (w k:Nat),c9 (aK t0.1 i++aK t0.2 j) n= .tup [.int (mk (t0.1++t0.2) n:Nat),.bl (decide (pick w (i,j)=k))]/\c9 (pS x y ts) n=HZ z ts w k/\c9 (pS x y (ts++[(i,j)])) n=HZ z (ts++[(i,j)]) w k:=λn H=>by
  by_cases d:n<x.m
  ·refine⟨x,0,n,?_,S3 d,S3 d⟩;rw[iI (by rw[c6,m0.la];exact d),gD (by rw[m0.la];exact d),bR (by rw[m0.la];exact d)];simp only[pick,if_true,eq_comm]
  ·obtain⟨k,rfl⟩:∃k,n=x.m+k:=⟨n-x.m,by lia⟩
   refine⟨y,1,k,?_,S2 (by lia),S2 (by lia)⟩;rw[j9 (by rw[c6,m0.la]),gD (by rw[m0.lb];lia),hG m0.la];simp only[pick,Nat.one_ne_zero,if_false];simp;exact eq_comm
 refine tS (by rw[l,vT,hm]) λu v g o=>?_;rw[l]at g o;obtain⟨z,w,k,q,r,s⟩:=c u g;obtain⟨t,A,B,C,E,F⟩:=c v o
 have e:mk (t0.1++t0.2) u=mk (t0.1++t0.2) v↔HZ z ts w k=HZ t ts A B :=by
  rw[h,dR (by rw[vT];lia) (by rw[vT];lia),r,E]
 rw[q,C,s,F];simp only[D.tup.injEq,List.cons.injEq,D.int.injEq,D.bl.injEq,and_true,decide_eq_decide,HZ,D.fl.injEq]at e⊢
 have inj:∀{a b:List Nat},aC a=aC b↔a=b:=⟨iJ,λz=>by rw[z]⟩
 rw[inj]at e;rw[inj,XR];constructor
 ·rintro⟨p,f⟩;have:=e.mp (by lia);exact⟨this.1,this.2,f⟩
 ·rintro⟨p,f,G⟩;have:=e.mpr ⟨p,f⟩;exact⟨by lia,G⟩
def toL:D->D
 | .tup [.tup [s,w,l,.int t],a,b]=>.tup [s,w,l,.str (if t=0 then Str.ofString "gate" else Str.ofString "end"),a,b]
 | d=>d
def toT:D->D
 | .tup [s,w,l,.str z,a,b]=>.tup [.tup [s,w,l,.int (if z=Str.ofString "gate" then 0 else 1)],a,b]
 | d=>d
theorem aAx(own:List Nat)(h:Hk):toL (lZ own h)=pG own h:=by
 by_cases e:h.t=0
 ·simp[toL,lZ,BN,pG,e]
 ·have:¬((h.t:Nat):Int)=0:=by lia
  simp[toL,lZ,BN,pG,e,this]
theorem aAw(own:List Nat)(h:Hk)(ht:h.t=0\/h.t=1):toT (pG own h)=lZ own h:=by
 have ne:¬Str.ofString "end"=Str.ofString "gate":=by decide
 rcases ht with e | e
 ·simp[toT,lZ,BN,pG,e]
 ·simp[toT,lZ,BN,pG,e,ne]
theorem aLi{l:List Sw}{h:Hk}(hh:h∈q5 l n):h.t=0\/h.t=1:=by
 obtain⟨s,a,hh⟩:=List.mem_flatMap.mp hh;unfold EU at hh;simp only[List.mem_append]at hh;rcases hh with hh | hh | hh <;> split at hh <;> simp at hh <;> subst hh <;> simp
theorem L5(x:Ls)(own:List Nat)(n:Nat):(tells x own n).map toL=lE x own n:=by
 unfold tells lE;rw[List.map_map];exact aMh λh _=>aAx own h
theorem L4(x:Ls)(own:List Nat)(n:Nat):(lE x own n).map toT=tells x own n:=by
 unfold tells lE;rw[List.map_map];exact aMh λh a=>aAw own h (aLi a)
def PT(p:D×D):Prop:=∃(x:Ls) (own:List Nat) (n:Nat) (L a :List D),p.1= .tup [.int (mk own n:Nat),.tup L]/\p.2= .tup [.int (mk own n:Nat),.fl a]/\L.Perm (tells x own n)/\L.Pairwise (λd e=>lx (encM e) (encM d)=false)/\a.Perm (lE x own n)/\a.Pairwise (λd e=>lx (enc e) (enc d)=false)
theorem PT.iff{p q:D×D}(j:PT p)(l:PT q):p.1=q.1↔p.2=q.2:=by
 obtain⟨w,A⟩:=p;obtain⟨B,C⟩:=q;obtain⟨x,o,n,L,f,rfl,rfl,a1,a2,a,r⟩:=j;obtain⟨y,o',m,M,t,rfl,rfl,g,u,h,v⟩:=l;constructor
 ·intro e;simp only[D.tup.injEq,List.cons.injEq,D.int.injEq,and_true]at e;obtain⟨b,c⟩:=e;subst c
  have pm:f.Perm t :=by
   refine a.trans (List.Perm.trans ?_ h.symm);rw[<-L5,<-L5];exact(a1.symm.trans g).map _
  have U:EV f := .inr ⟨.s,[.i,.i,.s,.i,.i],λd hd=>by
   obtain⟨k,rfl⟩:=vV a d hd
   exact⟨_,rfl,rfl⟩⟩
  rw[fK U (λd hd=>hd) pm r v];simp[b]
 ·intro e;simp only[D.tup.injEq,D.fl.injEq,List.cons.injEq,D.int.injEq,and_true]at e;obtain⟨b,c⟩:=e;subst c
  have pm:L.Perm M:=by
   refine a1.trans (List.Perm.trans ?_ g.symm);rw[<-L4,<-L4];exact(a.symm.trans h).map _
  have U:∀d∈L,∀e∈L,encM d=encM e->d=e:=λd hd e he z=>by
   obtain⟨E,_,rfl⟩:=aMd.mp (a1.mem_iff.mp hd);obtain⟨F,_,rfl⟩:=aMd.mp (a1.mem_iff.mp he);exact QN z
  rw[qK encM U (λd hd=>hd) pm a2 u];simp[b]
theorem QA{K T:List D}(b:mV x own K)(ht:HW x own T):∀p∈K.zip T,PT p:=λp f=>by
 obtain⟨n,a⟩:=aMr.mp f;rw[List.getElem?_zip_eq_some]at a;have c:n<x.m:=by rw[<-b.len];exact(aM6.mp a.1).1
 obtain⟨L,d,g,h⟩:=b.at_ n c;obtain⟨i,e,j,k⟩:=ht.at_ n c;rw[a.1]at d;rw[a.2]at e;exact⟨x,own,n,L,i,aMn d,aMn e,g,h,j,k⟩
theorem N2{x1 h:Ls}{K1 K2 c d:List D}(k1:mV x1 a K1)(k2:mV h b K2)(e:HW x1 a c)(f:HW h b d):aF [] (K1++K2)=aF [] (c++d):=by
 have:=o5 (K1.zip c++K2.zip d) [] λp g q i=>by
  have all:∀p∈[]++(K1.zip c++K2.zip d),PT p:=λp g=>by
   rcases aMi.mp (by simpa using g) with z | z
   ·exact QA k1 e p z
   ·exact QA k2 f p z
  exact(all p g).iff (all q i)
 have j:(K1.zip c).map (·.1)=K1:=List.map_fst_zip (by rw[k1.len,e.len];exact aM7 _);have k:(K2.zip d).map (·.1)=K2:=List.map_fst_zip (by rw[k2.len,f.len];exact aM7 _);have l:(K1.zip c).map (·.2)=c:=aPp (by rw[k1.len,e.len];exact aM7 _);have m:(K2.zip d).map (·.2)=d:=aPp (by rw[k2.len,f.len];exact aM7 _);simpa[j,k,l,m] using this
theorem Y2{c d:List D}(la:a.length=x.m)(e:HW x a c)(f:HW y b d):VA x y (a,b) ((aF [] (c++d)).take x.m,(aF [] (c++d)).drop x.m):=by
 obtain⟨K1,k1⟩:=v8 x a;obtain⟨K2,k2⟩:=v8 y b;refine⟨K1,K2,k1,k2,?_⟩;rw[<-N2 k1 k2 e f,cK];have g:(aF [] K1).length=x.m:=by rw[aP,k1.len]
 rw[<-g,List.take_left,List.drop_left]
noncomputable def dl(t:List Nat×List Nat):Nat:=dst (aC (tC t))
variable{c:List Nat}
theorem oN(h:i<c.length):c9 (aC c) i= .int (mk c i:Nat):=by simp[c9,aC,mk,List.getD,h]
theorem fB(c:List Nat):(aC c).length=c.length:=by simp[aC]
theorem UB(b:c.length=c'.length)(h:IC c c'):FnK (aC c) (aC c'):=λi j hi a e=>by
 rw[fB]at hi a;rw[oN (by lia),oN (by lia)]at e;rw[oN hi,oN a];have:=h i j (by lia) (by lia) (by simp at e;lia);rw[this]
theorem UA(b:c.length=c'.length)(h:FnK (aC c) (aC c')):IC c c' :=λi j hi a e=>by
 have:=h i j (by rw[fB];lia) (by rw[fB];lia) (by rw[oN hi,oN a,e]);rw[oN (by lia),oN (by lia)]at this;simp at this
 lia
theorem UG(d:c.length=c'.length)(e:IC c c')(f:IC c' c):eqs c=eqs c' :=by
 unfold eqs;rw[d];refine aO9 λq g=>?_;obtain⟨a,b⟩:=q;obtain⟨ha,h⟩:=C9.mp g;simp only[decide_eq_true_eq];exact⟨λz=>f a b (by lia) (by lia) z,λz=>e a b ha h z⟩
variable{t:List Nat×List Nat}
theorem w4(h:Mk m t.1 t.2):(tC t).length=m+m:=by simp[tC,h.la,h.lb]
variable{t':List Nat×List Nat}
theorem CY(hm:y.m=x.m)(m0:Mk x.m t.1 t.2)(h:VA x y t t'):Mk x.m t'.1 t'.2:=by
 obtain⟨K1,K2,k1,k2,rfl⟩:=h;exact C5 hm m0 k1 k2
theorem RT(hm:y.m=x.m)(m0:Mk x.m t.1 t.2)(h:VA x y t t'):dl t<=dl t' /\(dl t=dl t' ->t' =t):=by
 have m1:=CY hm m0 h;have d:=w4 m0;have f:=w4 m1;obtain⟨K1,K2,k1,k2,rfl⟩:=h;have fn:IC (tC t) (tC (aF [] K1,aF (K1.foldl aN []) K2)):=vX hm m0 k1 k2;obtain⟨b,c⟩:=aEm _ _ (by rw[fB,fB];lia) (UB (by lia) fn);refine⟨b,λe=>?_⟩;have a:=UA (by lia) (c e);have g:=UG (by lia) fn a;rcases LZ hm m0 k1 k2 with z | z
 ·obtain⟨a1,a2⟩:=aPt z (by rw[aP,k1.len,m0.la]);rw[a1,a2]
 ·have i :eqs (tC (aF [] K1,aF (K1.foldl aN []) K2))<eqs (tC t):=z
  lia
theorem G2:∀(b a:List D),(∀d∈b,d∈a)->dst (a++b)=dst a:=by
 intro b
 induction b using snoc_ind
 next=>intro a _;simp
 next b d ih=>
  intro a h;rw[<-List.append_assoc,yT,if_pos (List.mem_append_left _ (h d (by simp))),ih a λe he=>h e (by simp[he])];rfl
theorem Y9(a:List D):dst a<=a.length:=by
 have:=Y3 a [];simpa[dst] using this
theorem W5(m0:Mk m t.1 t.2)(pm:t.1.Perm t.2):dl t<=m:=by
 unfold dl tC;have e:aC (t.1++t.2)=aC t.1++aC t.2:=by simp[aC]
 have a:(aC t.1).Perm (aC t.2):=pm.map _;rw[e,G2 (aC t.2) (aC t.1) λd hd=>a.mem_iff.mpr hd];have:=Y9 (aC t.1);rw[fB,m0.la]at this;exact this
theorem aEn(m0:Mk m t.1 t.2)(hm:1<=m):1<=dl t:=by
 unfold dl dst;have a:=w4 m0;have:c9 (aC (tC t)) 0∈(aC (tC t)).foldl aN []:=(oI _ _ _).mpr (.inr (sE.mpr ⟨0,by rw[fB];lia,rfl⟩));exact List.length_pos_of_mem this
theorem V8(hm:y.m=x.m)(h:Run x y t tl l):Mk x.m t.1 t.2->tl=[]\/tl.length+dl t<=x.m+1:=by
 induction h with
 | stop _ _=>intro _;exact .inl rfl
 | step p n ne _ a=>
  intro m0;right;have m1:=CY hm m0 n;have d:=W5 m0 p;obtain⟨b,c⟩:=RT hm m0 n;have lt:dl _<dl _:=Nat.lt_of_le_of_ne b λe=>ne (c e);rcases a m1 with z | z
  ·subst z;simp;lia
  ·simp;lia
theorem LM:∀(xs ks:List Key),(xs.foldl ST.nE ks).map bJ=(xs.map bJ).foldl aN (ks.map bJ)
 | [],ks=>rfl
 | x::xs,ks=>by
  rw[List.foldl_cons,List.map_cons,List.foldl_cons,LM xs];congr 1
  have inj:∀{a b:Key},bJ a=bJ b->a=b:=λ{a b} e=>by
   cases a <;> cases b <;> simp[bJ]at e <;> rw[e]
  unfold ST.nE;by_cases h:x∈ks
  ·rw[if_pos h,iC (List.mem_map_of_mem h)]
  ·rw[if_neg h,fJ λz=>by
    obtain⟨y,c,e⟩:=List.mem_map.mp z
    exact h (inj e▸c)]
   simp
theorem LK(c:List Nat):(ST.cR [] (c.map λn=>(Sum.inl ((n:Nat):Int):Key))).length=dst (aC c):=by
 have:=aN5 List.length (LM (c.map λn=>(Sum.inl ((n:Nat):Int):Key)) []);rw[List.length_map]at this;unfold ST.cR dst;rw[this,List.map_map];rfl
theorem sC{a b:Int}(q:Q (.bl !(a==b)) M):qN (.int a) (.int b) M Q:=⟨0,rfl,rfl,by simp[aO,deep],q⟩
theorem M5{a b:Int}(q:Q (.bl (a==b)) M):xV (.int a) (.int b) M Q:=⟨0,rfl,rfl,by simp[aO,deep],q⟩
theorem t9{k d :Nat}(h:M[k]? =some (.lst (aC a)))(h' :M[d]? =some (.lst (aC b)))(q:∀c:Bool,(c=true↔a=b)->Q (.bl c) M):xV (.ref k) (.ref d) M Q:=by
 have e:∀{k:Nat} {a:List Nat},M[k]? =some (.lst (aC a))->aO M 2 (.ref k)= .fl (aC a):=λh=>by
  simp only[aO,h];rw[sW]
 have i:=fM a;have j:=fM b;have f:cY (.fl (aC a))=true:=by simp[cY,i.1]
 have g:cY (.fl (aC b))=true:=by simp[cY,j.1]
 refine⟨2,?_⟩;rw[e h,e h'];refine⟨eN f,eN g,by simp only[deep];lia,q _ ?_⟩;rw[k6 _ _ f g];exact⟨λz=>iJ (by injection z),λz=>by rw[z]⟩
theorem E6{p q:Nat}{f:D->D->MH->DK->Prop}(la:a.length<=50)(lb:b.length<=50)(l:M[p]? =some (.lst (aC a)))(m:M[q]? =some (.lst (aC b)))
  (h:∀(c c' :List Nat) (d :MH) (k e :Nat),aR M d ->d[k]? =some (.lst (aC c))->d[e]? =some (.lst (aC c'))->(c=c' ↔a.Perm b)->f (.ref k) (.ref e) d Q):
  c5 [.ref p] M λx n=>c5 [.ref q] n λy M2=>f x y M2 Q:=by
 have g:∀c:List Nat,(aC c).length=c.length:=λc=>fB c;refine⟨_,_,rfl,eA l,by rw[g];lia,fY a,λL i s1=>⟨_,_,rfl,eA (aI m),by rw[g];lia,fY b,λo j s2=>?_⟩⟩;have hi:=qJ i s1 j s2;obtain⟨c,rfl,_⟩:=jN i;obtain⟨c',rfl,_⟩:=jN j;refine h c c' _ _ _ ((aR.refl.push _).push _) (aI (aL _ _)) (aL _ _) ?_;rw[<-hi];exact⟨λz=>by rw[z],iJ⟩
def NZ:OA:=λds mh Q=>∃(x y:Ls) (ts:List (Nat×Nat)) (t:Nat),ds=[bZ x,bZ y,.ref t]/\fH x/\fH y/\ts.length<=20/\mh[t]? =some (.lst (ts.map P6))/\
 ((¬ZV x y/\∀M a,aR mh M->Q (.tup [.int 0,.ref a]) M)\/(ZV x y/\∃t0 tl l,Hd x y ts t0/\Mk x.m t0.1 t0.2/\Run x y t0 tl l/\∀M a d,aR mh M->M[a]? =some (.lst (aC l.1))->(l.1.Perm l.2->d= .bU)->(¬l.1.Perm l.2->d= .int (tl.length:Nat))->Q (.tup [d,.ref a]) M))
variable{a4:Option D}
theorem O3{p q:Nat}(C:fH x)(yo:fH y)(gr:ZV x y)(m0:Mk x.m t0.1 t0.2)(j:Run x y t0 tl l)(px:aR mh M)(o:M[p]? =some (.lst (aC t0.1)))(u:M[q]? =some (.lst (aC t0.2)))
  (Q:∀M w d,aR mh M->M[w]? =some (.lst (aC l.1))->(l.1.Perm l.2->d= .bU)->(¬l.1.Perm l.2->d= .int (tl.length:Nat))->R (.tup [d,.ref w]) M):
  iP QZ FN (En mh R) [some (bZ x),some (bZ y),a2,some (.tup [.ref p,.ref q]),a4,a5] M:=by
 have sz:=aMe;have m9:=C.m8;have m1:=C.m1;have hm:y.m=x.m:=gr.1.symm;have i0:∀a b c:D,fI [a,b,c] 0=some a:=λ_ _ _=>rfl;have E:∀a b:D,fI [a,b] 0=some a:=λ_ _=>rfl;have S:∀c:List Nat,(aC c).length=c.length:=λc=>fB c
 have tll:tl.length<=x.m:=by
  rcases V8 hm j m0 with z | z
  ·rw[z];simp
  ·have:=aEn m0 m1;lia
 simp[iP];rw[show bZ x= .tup [.int x.m,.tup (x.ns.map gC),.tup (x.sw.map iB)] from rfl,oF,i0];simp only[aH];rw[show D.tup [.int x.m,.tup (x.ns.map gC),.tup (x.sw.map iB)]=bZ x from rfl,xF];rw[show ((x.m:Nat):Int)+1=((x.m+1:Nat):Int) by lia];simp;refine⟨by lia,by lia,?_⟩;refine cQ (λi F M=>(∃p q a4 a5 t tl',F=[some (bZ x),some (bZ y),a2,some (.tup [.ref p,.ref q]),a4,a5]/\M[p]? =some (.lst (aC t.1))/\M[q]? =some (.lst (aC t.2))/\Mk x.m t.1 t.2/\Run x y t tl' l/\tl'.length+i=tl.length)/\aR mh M) _ (λ_ _ _ _=>trivial) ?_ ?_ ⟨⟨p,q,_,_,t0,tl,rfl,o,u,m0,j,rfl⟩,px⟩
 ·rintro i d F M N hi ⟨⟨p,q,a4,a5,t,tl',rfl,o,u,mt,j,A⟩,px⟩ nx;obtain⟨hil,rfl⟩:=jI hi;have e0:(0:Int)+(i:Nat)=(i:Nat):=by lia
  rw[e0];simp[lS,E,pJ];refine E6 (f:=qN) (by rw[mt.la];lia) (by rw[mt.lb];lia) o u λc c' M1 k k' r G H T=>?_;refine xZ G H λb U=>?_
  cases b with
  | true=>
   have V:¬t.1.Perm t.2:=λz=>(U.mp rfl) (T.mpr z)
   have es:tl' =[]/\l=t:=by
    cases j with
    | stop _ _=>exact⟨rfl,rfl⟩
    | step p _ _ _=>exact absurd p V
   obtain⟨rfl,rfl⟩:=es;simp[zF,E];refine⟨by lia,bT (Q _ _ _ (px.trans r) (r.old o) (λz=>absurd z V) λ_=>?_)⟩;simp at A;rw[A]
  | false=>
   have pm:t.1.Perm t.2:=T.mp (aMm λz=>aN8 (U.mpr z));simp[zF,jW];refine⟨x,y,p,q,t.1,t.2,rfl,C,yo,r.old o,r.old u,mt.la,by rw[mt.lb,hm],λW X M2 w Y I r1 r2 e1 e2=>?_⟩;have v:=Y2 mt.la r1 r2;have Z:=px.trans (r.trans I);have ep:M2[p]? =some (.lst (aC t.1)):=I.old (r.old o);have eq:M2[q]? =some (.lst (aC t.2)):=I.old (r.old u);generalize B :((aF [] (W++X)).take x.m,(aF [] (W++X)).drop x.m)=t' at v;have g :M2[w]? =some (.lst (aC t'.1)):=by rw[<-B];exact e1
   have s :M2[Y]? =some (.lst (aC t'.2)):=by rw[<-B];exact e2
   have e :=CY hm mt v;obtain⟨d1,d2⟩:=RT hm mt v;simp[jV,E,pJ];rw[IM g s];refine⟨by simp[S,e.la,e.lb];lia,?_⟩
   have ek:∀a b:List Nat,aC a++aC b=((a++b).map λn=>(Sum.inl ((n:Nat):Int):Key)).map bJ:=λa b=>by
    rw[List.map_map,List.map_append];rfl
   refine⟨(t'.1++t'.2).map λn=>(Sum.inl ((n:Nat):Int):Key),by rw[<-ek];exact eA (aL _ _),by simp[e.la,e.lb];lia,?_⟩;rw[IM (aI ep) (aI eq)];refine⟨by simp[S,mt.la,mt.lb];lia,?_⟩;refine⟨(t.1++t.2).map λn=>(Sum.inl ((n:Nat):Int):Key),by rw[<-ek];exact eA (aL _ _),by simp[mt.la,mt.lb];lia,?_⟩;rw[LK,LK];refine M5 ?_;have h:aR M2 (M2++[MO.lst (aC t'.1++aC t'.2)]++[MO.lst (aC t.1++aC t.2)]):=(aR.refl.push _).push _;generalize M2++[MO.lst (aC t'.1++aC t'.2)]++[MO.lst (aC t.1++aC t.2)]=M3 at h⊢;by_cases hd:dl t=dl t'
   ·have tt:=d2 hd
    have J:(((dst (aC (t'.1++t'.2)):Nat):Int)==((dst (aC (t.1++t.2)):Nat):Int))=true:=by
     have:dst (aC (t.1++t.2))=dst (aC (t'.1++t'.2)):=hd;rw[this];simp
    rw[J];simp only[zF,aH,if_true];refine E6 (f:=xV) (by rw[e.la];lia) (by rw[e.lb];lia) (h.old g) (h.old s) λc c' M4 k k' p4 G H K=>?_;refine t9 G H λb L=>?_;have O:b=true:=L.mpr (K.mpr (by rw[tt];exact pm));rw[O];simp only[zF,aH,if_true]
    have es:tl' =[]/\l=t:=by
     cases j with
     | stop _ _=>exact⟨rfl,rfl⟩
     | step _ n ne _=>exact absurd ((CZ n v).trans tt) ne
    obtain⟨rfl,rfl⟩:=es;refine⟨by lia,bT (Q _ _ _ (Z.trans (h.trans p4)) (p4.old (h.old (by rw[<-tt];exact g))) (λ_=>rfl) λz=>absurd pm z)⟩
   ·have J:(((dst (aC (t'.1++t'.2)):Nat):Int)==((dst (aC (t.1++t.2)):Nat):Int))=false:=by
     have:¬dst (aC (t.1++t.2))=dst (aC (t'.1++t'.2)):=hd;simp;lia
    rw[J];simp[zF,jU]
    cases j with
    | stop _ z=>
     rcases z with z | z
     ·exact absurd pm z
     ·exact absurd (by rw[CZ v z]) hd
    | step _ n ne P =>
     cases CZ n v;exact nx _ _ ⟨⟨w,Y,_,_,t',_,rfl,h.old g,h.old s,e,P,by simp at A;lia⟩,Z.trans h⟩
 ·rintro F M ⟨⟨p,q,a4,a5,t,tl',rfl,o,u,mt,j,A⟩,px⟩;rw[show (dU 0 (x.m+1)).length=x.m+1 by simp]at A
  lia
theorem TN(ds:List D)(mh:MH)(R:DK)(ok:iT mh)(B:NZ ds mh R):g9 QZ FN (En mh R) (aJ ["_law_one","_law_other","_law_tries","_law_duo","_law_rounds_here","_law_later"] ds) mh:=by
 obtain⟨x,y,ts,t,rfl,k,n,e,ht,h⟩:=B;have sz:=aMe;have i0:∀a b c:D,fI [a,b,c] 0=some a:=λ_ _ _=>rfl;have o:∀a b c:D,fI [a,b,c] 2=some c:=λ_ _ _=>rfl;have r:∀a b:D,fI [a,b] 0=some a:=λ_ _=>rfl;have ex:∀z:Ls,bZ z= .tup [.int z.m,.tup (z.ns.map gC),.tup (z.sw.map iB)]:=λ_=>rfl;simp[g9,aJ];refine⟨x,y,ts,t,rfl,k,n,e,ht,λM p q px s u=>?_⟩;simp[m3];rw[ex x,ex y,oF,i0];simp only[aH];rw[oF,i0];simp only[aH];refine sC ?_;rw[<-ex x,<-ex y]
 have v:¬ZV x y->Out mh.length (.tup [.int 0,.ref p]) M R:=λf=>by
  rcases h with ⟨_,q⟩ | ⟨g,_⟩
  ·exact bT (q M p px)
  ·exact absurd g f
 by_cases w:x.m=y.m
 ·have i:(!(((x.m:Nat):Int)==((y.m:Nat):Int)))=false:=by simp;lia
  rw[i];simp only[zF,aH,Bool.false_eq_true,if_false];rw[ex x,ex y,oF,o];simp[o];refine sC ?_;rw[<-ex x,<-ex y];by_cases A:x.sw.length=y.sw.length
  ·have j:(!(((x.sw.length:Nat):Int)==((y.sw.length:Nat):Int)))=false:=by simp;lia
   rw[j];simp only[zF,aH,Bool.false_eq_true,if_false]
   rcases h with ⟨f,_⟩ | ⟨g,t0,tl,l,hd,m0,C,E⟩
   ·exact absurd ⟨w,A⟩ f
   ·have d :LS0 x y ts=t0.1++t0.2:=hd.symm;rw[d,<-m0.la,List.take_left]at s;rw[d,<-m0.la,List.drop_left]at u;exact O3 k n g m0 C px s u E
  ·have j:(!(((x.sw.length:Nat):Int)==((y.sw.length:Nat):Int)))=true:=by simp;lia
   rw[j];simp[zF,r];exact⟨by lia,v λz=>A z.2⟩
 ·have i:(!(((x.m:Nat):Int)==((y.m:Nat):Int)))=true:=by simp;lia
  rw[i];simp[zF,r];exact⟨by lia,v λz=>w z.1⟩
def sNo:OA:=λds mh Q=>∃i:Int,ds=[.int i]/\Q (.bl true) mh
theorem TR(ds:List D)(mh:MH)(R:DK)(ok:iT mh)(a:sNo ds mh R):hC (En mh R) (aJ ["_law_thing"] ds) mh:=by
 obtain⟨i,rfl,q⟩:=a;simp[hC,aJ,VT];have b:rO "int" "int"=true:=by decide
 have c:rO "int" "bool"=false:=by decide
 have d: "int"∈bP:=by decide
 have e: "bool"∈bP:=by decide
 rw[b,c,if_pos rfl];exact⟨d,e,bT q⟩
theorem CO(h:Run x y t tl l):(tl++[l])[0]? =some t:=by
 cases h with
 | stop _ _=>rfl
 | step _ _ _ _=>rfl
theorem aCk(hm:y.m=x.m)(m0:Mk x.m t.1 t.2)(h:VA x y t t'):IC (tC t) (tC t'):=by
 obtain⟨K1,K2,k1,k2,rfl⟩:=h;exact vX hm m0 k1 k2
theorem CP(hm:y.m=x.m)(h:Run x y t tl l):Mk x.m t.1 t.2->∀u∈tl++[l],Mk x.m u.1 u.2/\IC (tC t) (tC u):=by
 induction h with
 | stop t _=>intro m0 u a;simp at a;subst a;exact⟨m0,λ_ _ _ _ e=>e⟩
 | step p n ne _ ih=>
  intro m0 u a;rw[List.cons_append]at a;rcases aMf.mp a with z | z
  ·subst z;exact⟨m0,λ_ _ _ _ e=>e⟩
  ·have m1:=CY hm m0 n;obtain⟨b,c⟩:=ih m1 u z;exact⟨b,(aCk hm m0 n).trans c (by rw[w4 b,w4 m1];exact aM7 _)⟩
theorem VV(s:fH x)(u:fH y)(hm:y.m=x.m)(m0:Mk x.m t0.1 t0.2)(g:Run x y t0 tl l)(hi:i<x.m)(q:j<x.m)(v:Trd x y tl l i j d):
  ∃tl' l',Run x y (aF [] (aK t0.1 i),aF ((aK t0.1 i).foldl aN []) (aK t0.2 j)) tl' l' /\Ptg x y tl' l' d:=by
 cases v with
 | goes _ h0 b pt=>
  rw[CO g]at h0;cases h0;exact⟨_,_,b,pt⟩
 | marks w=>
  rename_i k
  rcases w with ⟨z,_⟩ | ⟨A,t,B,C,a,ne,D⟩
  ·cases z
  ·have h:k=A :=by injection B with e;lia
   subst h;have:k=0\/k=1:=by lia
   rcases this with rfl | rfl
   ·rw[CO g]at a;cases a;have c:=NM (j:=j) m0.la m0.lb hi ne;exact⟨[],_,.stop _ (.inl c),.marks c⟩
   ·have r:=D 0 t0 (by lia) (CO g)
    cases g with
    | stop _ _=>simp at a
    | step p n ne' b =>
     have E:=CO b;rw[List.cons_append,List.getElem?_cons_succ,E]at a;cases a;obtain⟨o,f⟩:=aCj x y (aF [] (aK t0.1 i),aF ((aK t0.1 i).foldl aN []) (aK t0.2 j));have c:=QC s u hm m0 hi q r n ne f;have pm:=VM m0.la m0.lb hi q r p;exact⟨[_],o,.step pm f (λz=>c (by rw[z];exact pm)) (.stop _ (.inl c)),.marks c⟩
def uX:OA:=λds mh Q=>∃(z a :Str) (es:List D),ds=[.tup (.str z::es),.str a,.int ((es.length+1:Nat):Int)]/\Q (.bl (z==a)) mh
theorem aE8(ds:List D)(mh:MH)(R:DK)(ok:iT mh)(a:uX ds mh R):kK (En mh R) (aJ ["_law_thing","_law_word_here","_law_many"] ds) mh:=by
 obtain⟨z,d,es,rfl,q⟩:=a;have sz:=aMe;have a0:fI (D.str z::es) 0=some (.str z):=dI (j:=0) rfl;have b:("tuple":String)∈bP:=by decide
 have c:("str":String)∈bP:=by decide
 have s1:rO "tuple" "tuple"=true:=by decide
 have s2:rO "str" "str"=true:=by decide
 simp[kK,aJ,VT,iA,b,c,s1,s2,a0,pM];exact bT q
def sPR(n:Nat):OA:=λds mh Q=>∃(x y:Ls) (ts:List (Nat×Nat)) (t:Nat) (d:D),ds=[bZ x,bZ y,.ref t,d]/\fH x/\fH y/\ts.length+n<=20/\0<n/\mh[t]? =some (.lst (ts.map P6))/\
 (¬ZV x y/\d= .tup [.str "marks",.int 0]\/ZV x y/\∃t0 tl l,Hd x y ts t0/\Mk x.m t0.1 t0.2/\Run x y t0 tl l/\Ptg x y tl l d/\LX t0.1<n)/\Q (.bl true) mh
theorem aEt(a:List Nat)(v:Nat):((aC a).countP λy=>dD y (.int (v:Nat)))=a.count v:=by
 unfold aC;rw[List.countP_map,List.count];refine aO9 λn _=>?_;simp[dD]
 lia
theorem LC(M:MH)(i:Int):IA M 0 (.int i):=⟨rfl,by simp[aO,deep]⟩
variable{a8:Option D}
theorem YT{t p k i0:Nat}{rest:List Nat}{ps:List D}(ok:iT mh)(s:fH x)(E:fH y)(F:ZV x y)(G:ts.length+(n+1)<=20)(hd:Hd x y ts t0)(m0:Mk x.m t0.1 t0.2)(u:Run x y t0 tl l)(P:LX t0.1<n+1)
  (ha:mH l.1=i0::rest) (Q:ps.length=x.m) (v:∀j d,ps[j]? =some d->Trd x y tl l i0 j d) (px:aR mh M) (ht:M[t]? =some (.lst (ts.map P6))) (h:M[k]? =some (.lst (aC (mH l.1)))) (q:R (.bl true) mh):
  eR NZ uX sNo (sPR n) (En mh R) [some (bZ x),some (bZ y),some (.ref t),some (.tup [.str "tries",.int (i0:Nat),.tup ps]),a4,some (.ref p),some (.ref k),a7,a8] M:=by
 have sz:=aMe;have S:=s.m8;have hm:y.m=x.m:=F.1.symm;have g:=(CP hm u m0 l (by simp)).1;have fl:=(CP hm u m0 l (by simp)).2;have w:i0∈mH l.1:=by rw[ha];simp
 obtain⟨f,z⟩:=wF.mp w;rw[g.la]at f;have H:fI (aC (mH l.1)) 0=some (.int (i0:Nat)):=by rw[ha];exact dI (j:=0) rfl
 have I:∀a b c:D,fI [a,b,c] 2=some c:=λ_ _ _=>rfl
 have J:JC t0.1 i0=true:=by
  obtain⟨k,r,ne,e⟩:=gB.mp (EM (by rw[g.la];exact f) z);rw[g.la]at r;have:=fl k i0 (by simp[tC,g.la];lia) (by simp[tC,g.la];lia) (by rw[tC,bR (by rw[g.la];exact r),bR (by rw[g.la];exact f)];exact e);rw[tC,bR (by rw[m0.la];exact r),bR (by rw[m0.la];exact f)]at this;exact gB.mpr ⟨k,by rw[m0.la];exact r,ne,this⟩
 have lt:=RU (by rw[m0.la];exact f) J;simp[eR,I,bF];refine⟨by lia,?_⟩;refine cQ (λ_ A i =>(∃a7 a8,A=[some (bZ x),some (bZ y),some (.ref t),some (.tup [.str "tries",.int (i0:Nat),.tup ps]),a4,some (.ref p),some (.ref k),a7,a8])/\aR mh i /\i[t]? =some (.lst (ts.map P6))/\i[k]? =some (.lst (aC (mH l.1)))) _ (λ_ _ _ _=>by simp[bF]) ?_ ?_ ⟨⟨_,_,rfl⟩,px,ht,h⟩
 ·rintro j e A i N K ⟨⟨a7,a8,rfl⟩,px,ht,h⟩ nx;obtain⟨d,o,rfl⟩:=pC K;have L:=(aM6.mp o).1;simp[hZ];rw[cE h,H];simp;refine⟨by lia,by lia,?_⟩;rw[IM (aI ht) (aL _ _)];refine⟨by simp;lia,?_⟩;have O:ts.map P6++[D.tup [.int (i0:Nat),.int (j:Nat)]]=(ts++[(i0,j)]).map P6:=by simp[P6]
  obtain⟨tl',l',B,C⟩:=VV s E hm m0 u f (by lia) (v j d o);rw[O];refine⟨x,y,ts++[(i0,j)],_,d,rfl,s,E,by simp;lia,by lia,aL _ _,.inr ⟨F,_,tl',l',YN hm m0 hd,x5 (by rw[c6,m0.la]) (by rw[c6,m0.lb]),B,C,?_⟩,?_⟩
  ·show LX (aF [] (aK t0.1 i0))<n
   lia
  ·simp[iA];exact nx _ _ ⟨⟨_,_,rfl⟩,px.app _,MV ht,MV h⟩
 ·rintro A i ⟨⟨a7,a8,rfl⟩,px,ht,h⟩;simp[iY];exact px.out ok rfl q
theorem aEb(n:Nat)(ds:List D)(mh:MH)(R:DK)(ok:iT mh)(P:sPR (n+1) ds mh R):dW NZ uX sNo (sPR n) (En mh R) (aJ ["_law_one","_law_other","_law_tries","_law_paper","_law_rounds_here","_law_first","_law_alike","_law_there","_law_more"] ds) mh:=by
 obtain⟨x,y,ts,t,d,rfl,s,w,A,_,ht,h,q⟩:=P;have sz:=aMe;have m9:=s.m8
 have marks:∀(M:MH) (k p:Nat) (a5 a6 a7 a8:Option D),aR mh M->c8 NZ uX sNo (sPR n) (En mh R) [some (bZ x),some (bZ y),some (.ref t),some (.tup [.str "marks",.int (k:Nat)]),some (.int (k:Nat)),a5,a6,a7,a8] M:=λM k p a5 a6 a7 a8 px=>by
  simp[c8,p6,u6];refine⟨"marks","marks",[.int (k:Nat)],rfl,?_⟩;simp[zF,pJ];refine⟨_,rfl,?_⟩;simp[zF];refine M5 ?_;simp;exact px.out ok rfl q
 simp[dW,aJ]
 rcases h with ⟨Q,rfl⟩ | ⟨B,t0,tl,l,hd,m0,C,pt,S⟩
 ·refine⟨x,y,ts,t,rfl,s,w,by lia,ht,.inl ⟨Q,λM p px=>?_⟩⟩;simp;exact marks M 0 p _ _ _ _ px
 ·refine⟨x,y,ts,t,rfl,s,w,by lia,ht,.inr ⟨B,t0,tl,l,hd,m0,C,λM p d0 px E T U=>?_⟩⟩;have hm:y.m=x.m:=B.1.symm;have I:=(CP hm C m0 l (by simp)).1
  cases pt with
  | marks V=>
   rw[U V];simp;exact marks M tl.length p _ _ _ _ px
  | tries pm ha pl ptr=>
   rename_i i0 rest ps;rw[T pm];have g :∀a b c:D,fI [a,b,c] 0=some a:=λ_ _ _=>rfl;have i :∀a b c:D,fI [a,b,c] 1=some b:=λ_ _ _=>rfl;have F :∀a b c:D,fI [a,b,c] 2=some c:=λ_ _ _=>rfl;have W:("tuple":String)∈bP:=by decide
   have s1:rO "tuple" "tuple"=true:=by decide
   have ex:∀z:Ls,bZ z= .tup [.int z.m,.tup (z.ns.map gC),.tup (z.sw.map iB)]:=λ_=>rfl;have X:∀n:Nat,dU 0 n=(List.range n).map λk=>D.int (k:Nat):=λn=>by simp[dU]
   simp[c8,p6,u6,i5];rw[ex x,oF,g];simp only[aH];rw[<-ex x];simp;refine⟨by lia,?_⟩;rw[X];refine mT (λk=>D.int (k:Nat)) (λk=>decide (1<l.1.count (mk l.1 k))) (λk=>k) (λk=>.int (k:Nat)) (List.range x.m) trivial (λk J N M' Y Z=>?_) ?_
   ·have G :k<l.1.length:=by rw[I.la];simpa using J
    simp[jL,lH];refine⟨⟨_,E⟩,?_⟩;rw[cE E,fG G];simp only[aH];refine⟨p,0,_,_,rfl,rfl,E,LC _ _,λe he=>?_,?_⟩
    ·obtain⟨v,_,rfl⟩:=aMd.mp he;exact LC _ _
    ·have K:=aEt l.1 (mk l.1 k);simp only[aO]at K⊢;rw[K];simp;by_cases e:1<l.1.count (mk l.1 k)
     ·rw[if_pos (by lia)];simpa using Y (by simpa using e)
     ·rw[if_neg (by lia)];exact Z (by simpa using e)
   ·have ea:(((List.range x.m).filter λk=>decide (1<l.1.count (mk l.1 k))).map λk=>k).map (λk=>D.int (k:Nat))=aC (mH l.1):=by
     rw[mH,I.la];simp[aC]
    rw[ea];have L:aR mh (M++[MO.lst (aC (mH l.1))]):=px.push _;have u:=aL M (MO.lst (aC (mH l.1)));have o:=aI (x:=MO.lst (aC (mH l.1))) (px.old ht);generalize J:M.length=k at u⊢;generalize M++[MO.lst (aC (mH l.1))]=M1 at L u o⊢;simp[i4];refine t9 (aI u) (b:=[]) (by exact aL _ _) λc hc=>?_
    have H:c=false:=by
     cases c with
     | false=>rfl
     | true=>have:=hc.mp rfl;rw[ha]at this;cases this
    subst H;have O:=L.push (MO.lst []);have f:=aI (x:=MO.lst []) u;have r:=aI (x:=MO.lst []) o;generalize M1++[MO.lst []]=M2 at O f r⊢;have ga:fI (aC (mH l.1)) 0=some (.int (i0:Nat)):=by rw[ha];exact dI (j:=0) rfl
    simp[zF];refine⟨"tries","tries",[.int (i0:Nat),.tup ps],rfl,?_⟩;simp[iA,i];refine⟨_,rfl,?_⟩;simp[iA,iZ,i,F];rw[cE f,ga];simp only[aH];refine sC ?_;simp[zF,VT,W,s1,iA];rw[ex y,oF,g];simp only[aH];refine sC ?_;rw[<-ex y];have be:(!(((ps.length:Nat):Int)==((y.m:Nat):Int)))=false:=by simp;lia
    rw[be];simp only[zF,aH,Bool.false_eq_true,if_false];exact YT ok s w B A hd m0 C S ha pl ptr O r f q
theorem gX{b:Type}:∀(l:List b) (i:Nat) (h:i<l.length),(l[i]::l.eraseIdx i).Perm l
 | [],i,h=>by simp at h
 | a::l,0,h=>by simp
 | a::l,i+1,h=>by
  simp only[List.getElem_cons_succ,List.eraseIdx_cons_succ];exact(List.Perm.swap _ _ _).trans ((gX l i (by simpa using h)).cons a)
theorem BB{b c:Type}(f:b->c):∀(l:List b) (i:Nat),(l.map f).eraseIdx i=(l.eraseIdx i).map f
 | [],i=>by simp
 | a::l,0=>by simp
 | a::l,i+1=>by simp[BB f l i]
def N1:OA:=λds mh Q=>∃b m:Nat,ds=[.ref b,.int (m:Nat)]/\m<=9/\HY mh b/\∀(p:List Nat) a,p.Perm (List.range m)->gP mh b a->Q (.ref a.length) (a++[.lst (aC p)])
theorem YU(ds:List D)(mh:MH)(R:DK)(ok:iT mh)(v:N1 ds mh R):jG fA (En mh R) (aJ ["_law_bag_here","_law_many","_law_left","_law_found"] ds) mh:=by
 obtain⟨b,m,rfl,hm,w,q⟩:=v;have sz:=aMe
 have go:∀(k:Nat) (l f:List Nat) (M:MH),l.length=k->f.length<=9-k->k<=9->(f++l).Perm (List.range m)->gJ mh b M->M[mh.length]? =some (.lst (aC l))->M[mh.length+1]? =some (.lst (aC f))->
   eQ (cU (aU JA (aE gZ (aA (aB 2) aD)) (wC (.int 0)))) (iQ fA) {En mh R with nx:=jY fA (En mh R)} (k+1) [some (.ref b),some (.int (m:Nat)),some (.ref mh.length),some (.ref (mh.length+1))] M:=by
  intro k
  induction k with
  | zero=>
   intro l f M n x _ pm j a c;have e:l=[]:=aOt.mp n;subst e;simp only[eQ];simp;rw[tO a];simp[aC,jY];rw[List.append_nil]at pm;exact j.tR ok (by lia) c (cP _ _) λo t=>q f o pm t
  | succ k ih=>
   intro l f M n x B pm j a c;rw[eQ];simp;rw[tO a];have s:(aC l).length=k+1:=by simp[aC,n]
   rw[s];simp[iQ,lH];refine⟨⟨_,c⟩,⟨_,a⟩,?_⟩;rw[tO a,s];refine E9 j (by lia) (by lia) λr M2 y C p z u=>?_;obtain⟨i,rfl⟩:=aNh y;have hi:i<l.length:=by lia
   have g :=u mh.length (aM7 _);have h :=u (mh.length+1) (by lia);rw[a]at g;rw[c]at h;refine QW g (by lia) (d:= .int (l[i]:Nat)) (by simp[aC,hi]) ?_;rw[dS (get_set h (by lia))];have fl:(aC f).length=f.length:=by simp[aC]
   refine⟨by lia,?_⟩;refine ih (l.eraseIdx i) (f++[l[i]]) _ (by rw[List.length_eraseIdx_of_lt hi];lia) (by simp;lia) (by lia) ?_ ((p.set (aM7 _) _).set (by lia) _) ?_ ?_
   ·rw[List.append_assoc];exact((gX l i hi).append_left f).trans pm
   ·refine get_set (bK _ g) (by lia) |>.trans ?_;simp[aC,BB]
   ·refine(bK _ (get_set h (by lia))).trans ?_;simp[aC]
 have j:gJ mh b (mh++[MO.lst (dU 0 m)]++[MO.lst []]):=((gJ.refl w).push _).push _;have a:(mh++[MO.lst (dU 0 m)]++[MO.lst []])[mh.length]? =some (.lst (dU 0 m)):=aI (aL _ _);have c:=aL (mh++[MO.lst (dU 0 m)]) (MO.lst []);rw[show (mh++[MO.lst (dU 0 m)]).length=mh.length+1 by simp]at c;simp[jG,nX,nW,aJ];rw[show mh++[MO.lst (dU 0 m),MO.lst []]=mh++[MO.lst (dU 0 m)]++[MO.lst []] by simp];generalize mh++[MO.lst (dU 0 m)]++[MO.lst []]=M at j a c⊢;refine⟨by lia,mI (m+1) ?_⟩;have A:dU 0 m=aC (List.range m):=by simp[dU,aC]
 rw[A]at a;exact go m (List.range m) [] M (by simp) (by simp) hm (by simp) j a c
theorem SI(a b:Int):lx (enc (.int b)) (enc (.int a))=false↔a<=b:=by
 simp only[enc,cA,lx];by_cases h:b<a
 ·simp[h]
 ·rw[if_neg h];exact⟨λ_=>by lia,λ_=>by split <;> rfl⟩
theorem QK{u v:Nat}(pm:L.Perm [.int (u:Nat),.int (v:Nat)])(c:L.Pairwise (λd e=>lx (enc e) (enc d)=false)):∃a b:Nat,L=[.int (a:Nat),.int (b:Nat)]/\a<=b/\(a=u/\b=v\/a=v/\b=u):=by
 have g:=pm.length_eq
 have up:∀{a b:Nat},[D.int (a:Nat),D.int (b:Nat)].Pairwise (λd e=>lx (enc e) (enc d)=false)->a<=b:=λh=>by
  have:=(SI _ _).mp ((aO2.mp h).1 _ (List.mem_singleton.mpr rfl))
  lia
 match L,g,pm,c with
 | [x,y],_,pm,c=>
  have f:=pm.mem_iff.mp (show x∈[x,y] by simp);simp at f;rcases f with rfl | rfl
  ·have:=List.perm_singleton.mp (aPk pm);simp at this;subst this;exact⟨_,_,rfl,up c,.inl ⟨rfl,rfl⟩⟩
  ·have:=List.perm_singleton.mp (aPk (pm.trans (List.Perm.swap _ _ _)));simp at this;subst this;exact⟨_,_,rfl,up c,.inr ⟨rfl,rfl⟩⟩
def OkN(m:Nat)(l:List (Str×Nat)):Prop:=∀p∈l,p.2<m
def PZ(m:Nat)(l:List Sw):Prop:=∀s∈l,s.g<m/\s.a<m/\s.b<m/\s.a<=s.b
def SqP(mh:MH)(d:D)(p:List Nat):Prop:=d= .tup (aC p)\/∃o,d= .ref o/\mh[o]? =some (.lst (aC p))
theorem SqP.px(h:SqP mh d p)(x:aR mh M):SqP M d p:=by
 rcases h with rfl | ⟨o,rfl,h⟩
 ·exact .inl rfl
 ·exact .inr ⟨o,rfl,x.old h⟩
theorem SqP.ix(h:SqP mh d p)(hi:i<p.length)(q:Q (.int (mk p i:Nat)) mh):bO d (.int (i:Nat)) mh Q:=by
 rcases h with rfl | ⟨o,rfl,h⟩
 ·simp[fG hi];exact q
 ·rw[cE h,fG hi];exact q
def nmI:D->Str×Nat
 | .tup [.str z,.int i]=>(z,i.toNat)
 | _=>("",0)
def swI:D->Sw
 | .tup [.str z,.int g,.int a,.int b,.int w,.int l]=>⟨z,g.toNat,a.toNat,b.toNat,w,l⟩
 | _=>⟨"",0,0,0,0,0⟩
theorem DB:∀l:List (Str×Nat),(l.map gC).map nmI=l
 | []=>rfl
 | q::l=>by simp only[List.map_cons,DB l];rfl
theorem DA:∀l:List Sw,(l.map iB).map swI=l
 | []=>rfl
 | q::l=>by simp only[List.map_cons,DA l];rfl
theorem RZ{l l' :List (Str×Nat)}(h:(l.map gC).Perm (l'.map gC)):l.Perm l' :=by
 have:=h.map nmI
 rwa [DB,DB]at this
theorem FC{l l' :List Sw}(h:(l.map iB).Perm (l'.map iB)):l.Perm l' :=by
 have:=h.map swI
 rwa [DA,DA]at this
theorem aBe{s:Sw}{u v:Nat}(h:u=mk p s.a/\v=mk p s.b\/u=mk p s.b/\v=mk p s.a)(c:u<=v):(⟨s.s,mk p s.g,u,v,s.w,s.l⟩:Sw)=CQ p s:=by
 unfold CQ
 rcases h with ⟨rfl,rfl⟩ | ⟨rfl,rfl⟩
 ·rw[if_pos c]
 ·by_cases e:mk p s.a<=mk p s.b
  ·rw[if_pos e,Nat.le_antisymm c e]
  ·rw[if_neg e]
def FL:OA:=λds mh Q=>∃(x:Ls) (o:D) (p:List Nat),ds=[bZ x,o]/\fH x/\SqP mh o p/\p.Perm (List.range x.m)/\∀y,fH y->uH x y p->Q (bZ y) mh
theorem O4(ds:List D)(mh:MH)(R:DK)(ok:iT mh)(n:FL ds mh R):fS (En mh R) (aJ ["_law_some","_law_order_here","_law_names","_law_switches","_law_sort","_law_gate","_law_one","_law_other","_law_width","_law_length","_law_low","_law_high"] ds) mh:=by
 obtain⟨x,o,p,rfl,A,ho,J,q⟩:=n;have sz:=aMe;have m8:=A.m8;have ln:=A.ln;have lw:=A.lw;have pl:p.length=x.m:=by rw[J.length_eq];simp
 have i0:fI [D.int x.m,D.tup (List.map gC x.ns),D.tup (List.map iB x.sw)] 0=some (D.int x.m):=rfl;have i1:fI [D.int x.m,D.tup (List.map gC x.ns),D.tup (List.map iB x.sw)] 1=some (D.tup (List.map gC x.ns)):=rfl;have i2:fI [D.int x.m,D.tup (List.map gC x.ns),D.tup (List.map iB x.sw)] 2=some (D.tup (List.map iB x.sw)):=rfl;simp[fS,aJ,bZ,i1,bF];refine jP gC (λa:Str×Nat=>(a.1,mk p a.2)) gC x.ns trivial (λa ha N hN=>?_) ?_
 ·have:=A.ns a ha;simp[gC,jL];exact ho.ix (by lia) ⟨by lia,hN⟩
 refine⟨_,_,rfl,eA (aL _ _),by simp;lia,LB _,λL pm S=>?_⟩
 obtain⟨j,rfl,n2⟩:∃j :List (Str×Nat),L=j.map gC/\OkN x.m j :=by
  refine all_map (f:=gC) (Pr:=λp=>p.2<x.m) λd hd=>?_;obtain⟨a,ha,e⟩:=aMd.mp (pm.mem_iff.mp hd);obtain⟨c,hc,rfl⟩:=aMd.mp ha;exact⟨_,i8 J (A.ns c hc),e.symm⟩
 have l2:j.length<=12:=by
  have:=pm.length_eq;simp at this
  lia
 have B:aR mh (mh++[MO.lst ((x.ns.map λa:Str×Nat=>(a.1,mk p a.2)).map gC)]++[MO.lst (j.map gC)]):=(aR.refl.push _).push _;have y:=aL (mh++[MO.lst ((x.ns.map λa:Str×Nat=>(a.1,mk p a.2)).map gC)]) (MO.lst (j.map gC));have T:mh.length<=(mh++[MO.lst ((x.ns.map λa:Str×Nat=>(a.1,mk p a.2)).map gC)]).length:=by simp
 generalize (mh++[MO.lst ((x.ns.map λa:Str×Nat=>(a.1,mk p a.2)).map gC)]).length=rn at y T⊢;generalize mh++[MO.lst ((x.ns.map λa:Str×Nat=>(a.1,mk p a.2)).map gC)]++[MO.lst (j.map gC)]=U at B y⊢;have C:=aL U (MO.lst []);have K:=aI (x:=MO.lst []) y;have O:=B.push (MO.lst []);have V:=B.le;have W:=(aM6.mp y).1;simp[lV,lU,i2,bF];generalize U++[MO.lst []]=M1 at O C K⊢;generalize U.length=rs at C V W⊢;refine cQ (λi X M=>(∃a4 a5 a6 a7 a8 Y E F,X=[some (D.tup [D.int x.m,D.tup (List.map gC x.ns),D.tup (List.map iB x.sw)]),some o,some (.ref rn),some (.ref rs),a4,a5,a6,a7,a8,Y,E,F])/\aR mh M/\M[rn]? =some (.lst (j.map gC))/\∃r:List Sw,M[rs]? =some (.lst (r.map iB))/\r=(x.sw.take i).map (CQ p)/\PZ x.m r) _ (λ_ _ _ _=>trivial) ?_ ?_ ⟨⟨_,_,_,_,_,_,_,_,rfl⟩,O,K,[],C,by simp,by simp[PZ]⟩
 ·rintro i d X M N hi ⟨⟨a4,a5,a6,a7,a8,Y,E,F,rfl⟩,px,y,r,C,es,Z⟩ nx;obtain⟨s,hp,rfl⟩:=o6 hi;obtain⟨p1,p2,p3⟩:=A.sw s (aMc hp);have hil:i<x.sw.length:=(aM6.mp hp).1;simp[iB,kP];have sl:r.length<=i:=by rw[es];simp;lia
  refine(ho.px px).ix (by lia) ((ho.px px).ix (by lia) ?_);refine⟨by lia,_,_,rfl,eA (aL _ _),by simp,.inl ⟨.i,by simp[cH]⟩,λL pm S=>?_⟩;obtain⟨u,v,rfl,P,G⟩:=QK pm S;have hr:=aBe G P;have hu:u<x.m:=by rcases G with z | z <;> rw[z.1] <;> exact i8 J (by assumption)
  have hv:v<x.m:=by rcases G with z | z <;> rw[z.2] <;> exact i8 J (by assumption)
  refine⟨_,eA (aL _ _),rfl,?_⟩;have H:=(px.push (MO.lst [.int (mk p s.a:Nat),.int (mk p s.b:Nat)])).push (MO.lst [.int (u:Nat),.int (v:Nat)]);have Q:=aI (x:=MO.lst [.int (u:Nat),.int (v:Nat)]) (aI (x:=MO.lst [.int (mk p s.a:Nat),.int (mk p s.b:Nat)]) y);have t:=aI (x:=MO.lst [.int (u:Nat),.int (v:Nat)]) (aI (x:=MO.lst [.int (mk p s.a:Nat),.int (mk p s.b:Nat)]) C);generalize M++[MO.lst [.int (mk p s.a:Nat),.int (mk p s.b:Nat)]]++[MO.lst [.int (u:Nat),.int (v:Nat)]]=M2 at H Q t⊢;simp[iX,lH];refine⟨⟨_,t⟩,?_⟩;refine(ho.px H).ix (by lia) ⟨by lia,?_⟩;rw[dS t];refine⟨by simp;lia,nx _ _ ⟨⟨_,_,_,_,_,_,_,_,rfl⟩,H.set (by lia) _,get_set Q (by lia),r++[⟨s.s,mk p s.g,u,v,s.w,s.l⟩],(bK _ t).trans (by simp[iB]),?_,?_⟩⟩
  ·rw[List.take_add_one,hp,hr,es];simp
  intro z hz;rcases aMi.mp hz with h | h
  ·exact Z z h
  ·simp at h;subst h;exact⟨i8 J p1,hu,hv,P⟩
 ·rintro X M ⟨⟨a4,a5,a6,a7,a8,Y,E,F,rfl⟩,px,y,r,C,es,Z⟩;rw[show (List.map iB x.sw).length=x.sw.length by simp,List.take_length]at es;have sl:r.length=x.sw.length:=by rw[es];simp
  simp[lT,i0];rw[bQ y];simp only[aH];refine⟨_,_,rfl,eA C,by simp;lia,CF r,λL I pw3=>?_⟩
  obtain⟨k,rfl,s2⟩:∃k :List Sw,L=k.map iB/\PZ x.m k :=by
   refine all_map (f:=iB) (Pr:=λs=>s.g<x.m/\s.a<x.m/\s.b<x.m/\s.a<=s.b) λd hd=>?_;obtain⟨s,n,e⟩:=aMd.mp (I.mem_iff.mp hd);exact⟨s,Z s n,e.symm⟩
  have l3:k.length<=14:=by
   have:=I.length_eq;simp at this
   lia
  try dsimp only
  rw[bQ (aL _ _)];simp only[aH];refine⟨by lia,?_⟩;exact(px.push _).out ok (FV _ ⟨x.m,j,k⟩) (q ⟨x.m,j,k⟩ ⟨A.m1,m8,n2,λs n=>⟨(s2 s n).1,(s2 s n).2.1,(s2 s n).2.2.1⟩,λs n=>(s2 s n).2.2.2,l2,l3,S,pw3⟩ ⟨J,rfl,RZ pm,by rw[<-es];exact FC I⟩)
theorem GY:∀l:List (Str×Nat),dX (l.map gC)=true/\bM (l.map gC)<=1
 | []=>⟨rfl,by simp[bM]⟩
 | n::l=>by
  obtain⟨a,b⟩:=GY l;refine⟨by simp[dX,cY,gC,a],?_⟩;simp only[List.map_cons,bM,gC,deep]
  lia
theorem GX:∀l:List Sw,dX (l.map iB)=true/\bM (l.map iB)<=1
 | []=>⟨rfl,by simp[bM]⟩
 | n::l=>by
  obtain⟨a,b⟩:=GX l;refine⟨by simp[dX,cY,iB,a],?_⟩;simp only[List.map_cons,bM,iB,deep]
  lia
theorem Y5(x:Ls):cY (bZ x)=true/\deep (bZ x)<=3:=by
 have a:=GY x.ns;have b:=GX x.sw;refine⟨by simp[bZ,cY,dX,a.1,b.1],?_⟩;simp only[bZ,deep,bM]
 lia
theorem Q7(m:Nat):(aC (List.range m)).Pairwise (λd e=>lx (enc e) (enc d)=false):=by
 unfold aC;rw[List.pairwise_map];exact aOx.imp λh=>(SI _ _).mpr (by lia)
def N0:OA:=λds mh Q=>∃(x y:Ls) (d:D),ds=[bZ x,bZ y,d]/\fH x/\fH y/\ZV x y/\HP x y d/\Q (.bl true) mh
theorem aI6(ds:List D)(mh:MH)(R:DK)(ok:iT mh)(n:N0 ds mh R):cM uX sNo FL (sPR 12) (En mh R) (aJ ["_law_one","_law_other","_law_paper","_law_order_here"] ds) mh:=by
 obtain⟨x,y,d,rfl,h,i,j,o,q⟩:=n;have sz:=aMe;have H:=h.m8;have i0:∀a b c:D,fI [a,b,c] 0=some a:=λ_ _ _=>rfl;have ex:∀z:Ls,bZ z= .tup [.int z.m,.tup (z.ns.map gC),.tup (z.sw.map iB)]:=λ_=>rfl;have r:("tuple":String)∈bP:=by decide
 have s1:rO "tuple" "tuple"=true:=by decide
 have s:(Str.ofString "two"==Str.ofString "one")=false:=by decide
 rcases o with ⟨p,rfl,g⟩ | ⟨e,tl,l,rfl,_,t,pt,_⟩
 ·have I:p.length=x.m:=by rw[g.pm.length_eq];simp
  have st:∀M:MH,bF M (.tup (aC p))=some (aC p):=λ_=>rfl;simp[cM,aJ];refine⟨"one","one",[.tup (aC p)],rfl,?_⟩;simp[iA,CU,pJ,VT,r,s1,st];refine jP (λv=>D.int (v:Nat)) (λ_=>true) (λc=>.bl c) p trivial (λv J N hN=>?_) ?_
  ·simp[jL];exact⟨_,rfl,hN⟩
  ·rw[aB9 (aL _ _)];have u:((p.map λ_=>true).all id)=true:=by simp
   rw[u];simp[iA];rw[ex x,ex y,oF,i0];simp only[aH];rw[oF,i0];simp only[aH];refine sC ?_;have bm:(!(((x.m:Nat):Int)==((y.m:Nat):Int)))=false:=by rw[g.m];simp
   rw[bm];simp[zF,i0];refine⟨_,rfl,by simp[aC];lia,fY p,λL pm w=>?_⟩;refine⟨by lia,?_⟩
   have A:L=aC (List.range x.m):=by
    refine fK (fY p) (λd hd=>pm.mem_iff.mp hd) (pm.trans (g.pm.map _)) w (Q7 _)
   have B:dU 0 x.m=aC (List.range x.m):=by simp[dU,aC]
   rw[A,B];refine xZ (aI (aL _ _)) (aL _ _) λc C=>?_
   cases c with
   | true=>exact absurd rfl (C.mp rfl)
   | false=>
    have px:aR mh (mh++[MO.lst (List.map (D.bl ∘ λx=>true) p)]++[MO.lst (aC (List.range x.m))]++[MO.lst (aC (List.range x.m))]):=((aR.refl.push _).push _).push _;generalize mh++[MO.lst (List.map (D.bl ∘ λx=>true) p)]++[MO.lst (aC (List.range x.m))]++[MO.lst (aC (List.range x.m))]=M at px⊢;simp[zF];rw[<-ex x,<-ex y];refine⟨x,_,p,rfl,h,.inl rfl,g.pm,λz E F=>?_⟩;have e:=S7 F g E i;have f:=Y5 y;refine⟨0,?_⟩;show bare (bZ z)=true/\bare (bZ y)=true/\deep (bZ z)<=40/\_;rw[e];refine⟨eN f.1,eN f.1,by have:=f.2;lia,?_⟩;show Out mh.length (.bl (dD (bZ y) (bZ y))) M R;rw[(k6 _ _ f.1 f.1).mpr rfl];exact px.out ok rfl q
 ·simp[cM,aJ];refine⟨"two","one",[e],rfl,?_⟩;rw[s];simp[iA,h9];refine⟨"two","two",[e],rfl,?_⟩;simp[zF,aFz,pJ];refine⟨x,y,[],mh.length,e,rfl,h,i,by simp,by lia,aL _ _,?_,(aR.refl.push _).out ok rfl q⟩;have k:(aY x).length=x.m:=by simp[aY]
  have G:(aY y).length=x.m:=by simp[aY,j.1]
  refine .inr ⟨j,aEi x y,tl,l,aE6 x y,x5 k G,t,pt,?_⟩;have:=RV (aF [] (aY x));rw[aP,k]at this;show LX (aF [] (aY x))<12
  lia
theorem v7:∀{ws:List Nat},(∀w∈ws,1<=w)->ws.length<=ws.sum
 | [],_=>by simp
 | w::ws,h=>by
  have:=v7 λv a=>h v (aM9 _ a);have:=h w aM8;simp only[List.length_cons,List.sum_cons]
  lia
def sPt:OA:=λds mh Q=>∃b t:Nat,ds=[.ref b,.int (t:Nat)]/\2<=t/\t<=7/\HY mh b/\∀(ws:List Nat) a,(∀w∈ws,2<=w)->ws.sum=t->gP mh b a->Q (.ref a.length) (a++[.lst (aC ws)])
theorem YS(ds:List D)(mh:MH)(R:DK)(ok:iT mh)(p:sPt ds mh R):jF fA (En mh R) (aJ ["_law_bag_here","_law_total","_law_found","_law_part"] ds) mh:=by
 obtain⟨b,t,rfl,s,ht,x,q⟩:=p;have sz:=aMe
 have go:∀(k u:Nat) (ws:List Nat) (M:MH) (n:Option D),u<=k->(u=0\/2<=u)->(∀w∈ws,2<=w)->ws.sum+u=t->gJ mh b M->M[mh.length]? =some (.lst (aC ws))->
   eQ (cU (aU JA (aB 1) (wC (.int 3)))) (dM fA) {En mh R with nx:=dA fA (En mh R)} (k+1) [some (.ref b),some (.int (u:Nat)),some (.ref mh.length),n] M:=by
  intro k
  induction k using Nat.strongRecOn with
  | ind k y=>
   intro u ws M n H I f o j g;have J:=v7 λw h=>aMq (show 1<=2 by lia) (f w h);have K:(aC ws).length=ws.length:=by simp[aC]
   rw[eQ];simp;by_cases L:3<u
   ·rw[if_pos (by lia)];simp[dM];refine E9 j (by lia) (by lia) λr A B N l C E=>?_;have i:=E mh.length (aM7 _);rw[g]at i;obtain⟨r,rfl⟩:=aNh B
    have d:∀v:Nat,2<=v->v<=u->(u-v=0\/2<=u-v)->fT fA {En mh R with nx:=eQ (cU (aU JA (aB 1) (wC (.int 3)))) (dM fA) {En mh R with nx:=dA fA (En mh R)} k,ct:=eQ (cU (aU JA (aB 1) (wC (.int 3)))) (dM fA) {En mh R with nx:=dA fA (En mh R)} k,bk:=dA fA (En mh R)} [some (.ref b),some (.int (u:Nat)),some (.ref mh.length),some (.int (v:Nat))] A:=λv F O G=>by
     simp[fT,lH];refine⟨⟨_,i⟩,?_⟩;rw[dS i];refine⟨by lia,?_⟩;simp[kR];rw[show ((u:Nat):Int)-((v:Nat):Int)=((u-v:Nat):Int) by lia]
     obtain⟨m,rfl⟩:∃m,k=m +1:=⟨k-1,by lia⟩
     refine y m (aMt _) (u-v) (ws++[v]) _ _ (by lia) G (λw a =>?_) (by simp;lia) (l.set (aM7 _) _) ((bK _ i).trans (by simp[aC]));rcases aMi.mp a with z | z
     ·exact f w z
     ·simp at z;subst z;exact F
    simp[kS];by_cases e:((u:Nat):Int)-2<2+((r:Nat):Int)
    ·rw[if_pos (by lia)];exact d u (by lia) (aM7 _) (by lia)
    ·rw[if_neg (by lia)];have:=d (2+r) (by lia) (by lia) (by lia);rw[show ((2+r:Nat):Int)=2+((r:Nat):Int) by lia]at this;exact this
   ·rw[if_neg (by lia)];simp[dA];by_cases e:0<u
    ·rw[if_pos (by lia)];simp[lH];refine⟨⟨_,g⟩,?_⟩;rw[dS g];refine⟨by lia,?_⟩;simp[jX];refine(j.set (aM7 _) _).tR ok (aM7 _) (bK _ g) (show aX _ _=true from tP (cP _ _) rfl) λc tt=>?_
     have:=q (ws++[u]) c (λw a =>by
      rcases aMi.mp a with z | z
      ·exact f w z
      ·simp at z;subst z;lia) (by simp;lia) tt
     simpa[aC] using this
    ·rw[if_neg (by lia)];simp[jX];exact j.tR ok (aM7 _) g (cP _ _) λc tt=>q ws c f (by lia) tt
 simp[jF,nV,aJ];exact mI (t+1) (go t t [] _ _ (aM7 _) (.inr s) (by simp) (by simp) ((gJ.refl x).push _) (aL _ _))
variable{ws:List Nat}
theorem QO(h:ws[i]? =some w):(ws.take (i+1)).sum=(ws.take i).sum+w:=by
 rw[List.take_add_one,h];simp
theorem uS:∀(ws:List Nat) (i:Nat),(ws.take i).sum<=ws.sum
 | [],i=>by simp
 | w::ws,0=>by simp
 | w::ws,i+1=>by
  have:=uS ws i;simp only[List.take_succ_cons,List.sum_cons]
  lia
theorem PZ.mono{l:List Sw}(h:PZ m l)(hm:m<=n):PZ n l:=λs a=>by
 obtain⟨c,d,e,b⟩:=h s a;exact⟨by lia,by lia,by lia,b⟩
theorem PZ.snoc{l:List Sw}{s:Sw}(h:PZ m l)(c:s.g<m/\s.a<m/\s.b<m/\s.a<=s.b):PZ m (l++[s]):=λz hz=>by
 rcases aMi.mp hz with q | q
 ·exact h z q
 ·simp at q;subst q;exact c
def V6(e:Nat×Nat):Sw:=⟨"n",0,e.1,e.2,6,2⟩
def eOf(s:Sw):Nat×Nat:=(s.a,s.b)
theorem xM(w:Nat):∀(ws:List Nat) (m:Nat),R42.bI m (ws++[w])=R42.bI m ws++R42.xN (m+ws.sum) w
 | [],m=>by simp[R42.bI]
 | v::ws,m=>by
  simp only[List.cons_append,R42.bI,xM w ws,List.sum_cons,List.append_assoc,Nat.add_assoc]
structure Rg(ws:List Nat)(c:Nat)(x:Ls):Prop where
 ok:fH x
 PD:Few x
 m:x.m=1+ws.sum+c
 ns:x.ns=[(Str.ofString "a",0)]
 sw:x.sw.Perm ((R42.bI 1 ws).map V6)
def sRg:OA:=λds mh Q=>∃(o c:Nat) (ws:List Nat),ds=[.ref o,.int (c:Nat)]/\mh[o]? =some (.lst (aC ws))/\(∀w∈ws,2<=w)/\ws.sum<=7/\c<=1/\∀x,Rg ws c x->Q (bZ x) mh
theorem YR(ds:List D)(mh:MH)(R:DK)(ok:iT mh)(v:sRg ds mh R):jE (En mh R) (aJ ["_law_wheels","_law_more","_law_many","_law_switches","_law_size","_law_k","_law_tips"] ds) mh:=by
 obtain⟨o,c,ws,rfl,ho,P,J,hc,q⟩:=v;have sz:=aMe;have ob:o<mh.length:=(aM6.mp ho).1;simp[jE,nU,nT,aJ];rw[bQ (aI ho)];simp only[aH];refine cQ (λi u M=>(∃a4 a5 a6,u=[some (.ref o),some (.int (c:Nat)),some (.int ((1+(ws.take i).sum:Nat):Int)),some (.ref mh.length),a4,a5,a6])/\aR mh M/\∃l:List Sw,M[mh.length]? =some (.lst (l.map iB))/\l.length=(ws.take i).sum/\PZ (1+(ws.take i).sum) l/\l=(R42.bI 1 (ws.take i)).map V6) _ (λi u M h=>bQ (h.2.1.old ho)) ?_ ?_ ⟨⟨none,none,none,by simp⟩,aR.refl.push _,[],aL _ _,by simp,by simp[PZ],by simp[R42.bI]⟩
 ·rintro i d u M N hi ⟨⟨a4,a5,a6,rfl⟩,px,l,g,sl,r,t⟩ nx;obtain⟨w,A,rfl⟩:=o6 hi;have w1:=P w (aMc A);have G:=QO A;have le:=uS ws (i+1);generalize hm:1+(ws.take i).sum=m at r⊢;simp[m5];refine⟨by lia,?_⟩;refine cQ (λk u M=>(∃a5 a6,u=[some (.ref o),some (.int (c:Nat)),some (.int (m:Nat)),some (.ref mh.length),some (.int (w:Nat)),a5,a6])/\aR mh M/\∃l:List Sw,M[mh.length]? =some (.lst (l.map iB))/\l.length=(ws.take i).sum+k/\PZ (m+w) l/\l=((R42.bI 1 (ws.take i))++(List.range k).map λk=>R42.sp (m+k) (m+(k+1) % w)).map V6) _ (λ_ _ _ _=>trivial) ?_ ?_ ⟨⟨_,_,rfl⟩,px,l,g,by lia,r.mono (by lia),by simpa using t⟩
  ·rintro k d u M N Q ⟨⟨a5,a6,rfl⟩,px,l,g,sl,r,t⟩ H;obtain⟨S,rfl⟩:=jI Q;have T:(0:Int)+(k:Nat)=(k:Nat):=by lia
   rw[T];have em:(((k:Nat):Int)+1) % ((w:Nat):Int)=(((k+1) % w:Nat):Int):=by lia
   have K:(k+1) % w<w:=Nat.mod_lt _ (by lia);simp[m4];rw[em];rw[show ((m:Nat):Int)+((k:Nat):Int)=((m+k:Nat):Int) by lia,show ((m:Nat):Int)+(((k+1) % w:Nat):Int)=((m+(k+1) % w:Nat):Int) by lia];refine⟨by lia,by lia,_,_,rfl,eA (aL _ _),by simp,.inl ⟨.i,by simp[cH]⟩,λL pm I=>?_⟩;obtain⟨a,b,rfl,B,U⟩:=QK pm I;have C:=(px.push (MO.lst [.int ((m+k:Nat):Int),.int ((m+(k+1) % w:Nat):Int)])).push (MO.lst [.int (a:Nat),.int (b:Nat)]);have E:=aI (x:=MO.lst [.int (a:Nat),.int (b:Nat)]) (aI (x:=MO.lst [.int ((m+k:Nat):Int),.int ((m+(k+1) % w:Nat):Int)]) g);have F:=aL (M++[MO.lst [.int ((m+k:Nat):Int),.int ((m+(k+1) % w:Nat):Int)]]) (MO.lst [.int (a:Nat),.int (b:Nat)]);generalize (M++[MO.lst [.int ((m+k:Nat):Int),.int ((m+(k+1) % w:Nat):Int)]]).length=rt at F⊢;generalize M++[MO.lst [.int ((m+k:Nat):Int),.int ((m+(k+1) % w:Nat):Int)]]++[MO.lst [.int (a:Nat),.int (b:Nat)]]=M2 at C E F⊢;have a0:fI [D.int (a:Nat),D.int (b:Nat)] 0=some (.int (a:Nat)):=rfl;simp[kN,lH];refine⟨⟨_,E⟩,?_⟩;rw[cE F,a0];simp only[aH];rw[cE F,pJ];simp only[aH];refine⟨by lia,?_⟩;rw[dS E];refine⟨by simp;lia,H _ _ ⟨⟨_,_,rfl⟩,C.set (aM7 _) _,l++[⟨"n",0,a,b,6,2⟩],(bK _ E).trans (by simp[iB]),by simp;lia,r.snoc ⟨?_,?_,?_,B⟩,?_⟩⟩
   ·show 0<m+w
    lia
   ·show a<m+w
    lia
   ·show b<m+w
    lia
   ·have V:R42.sp (m+k) (m+(k+1) % w)=(a,b):=by
     unfold R42.sp
     rcases U with ⟨rfl,rfl⟩ | ⟨rfl,rfl⟩
     ·rw[if_pos B]
     ·by_cases z:m+k<=m+(k+1) % w
      ·rw[if_pos z,Nat.le_antisymm z B]
      ·rw[if_neg z]
    rw[t,List.range_succ];simp[V,V6]
  ·rintro u M ⟨⟨a5,a6,rfl⟩,px,l,g,sl,r,t⟩;rw[show (dU 0 w).length=w by simp]at sl t;simp[kO];have W:((m:Nat):Int)+((w:Nat):Int)=((1+(ws.take (i+1)).sum:Nat):Int):=by rw[G];lia
   rw[W];refine nx _ _ ⟨⟨_,_,_,rfl⟩,px,l,g,by rw[G];exact sl,by rw[G];exact r.mono (by lia),?_⟩;rw[t,List.take_add_one,A,<-hm];simp[xM,R42.xN]
 ·rintro u M ⟨⟨a4,a5,a6,rfl⟩,px,l,g,sl,r,t⟩;rw[show (aC ws).length=ws.length by simp[aC],List.take_length]at sl r t⊢;simp[nS];refine⟨by lia,by lia,_,_,rfl,eA g,by simp;lia,CF l,λL pm I=>?_⟩
  obtain⟨n,rfl,s2⟩:∃n :List Sw,L=n.map iB/\PZ (1+ws.sum) n :=by
   refine all_map (f:=iB) (Pr:=λs=>s.g<1+ws.sum/\s.a<1+ws.sum/\s.b<1+ws.sum/\s.a<=s.b) λd hd=>?_;obtain⟨s,v,e⟩:=aMd.mp (pm.mem_iff.mp hd);exact⟨s,r s v,e.symm⟩
  have X:n.length<=14:=by
   have:=pm.length_eq;simp at this
   lia
  rw[bQ (aL _ _)];simp only[aH];refine⟨by lia,?_⟩
  have Y:D.tup [D.int (1+(ws.sum:Nat)+(c:Nat)),D.tup [D.tup [D.str (Str.ofString "a"),D.int 0]],D.tup (n.map iB)]=bZ ⟨1+ws.sum+c,[(Str.ofString "a",0)],n⟩:=by
   simp[bZ,gC]
  rw[Y];refine(px.push _).out ok (FV _ _) (q _ ⟨⟨?_,?_,?_,?_,?_,?_,X,?_,I⟩,.inr ⟨0,?_,?_⟩,rfl,rfl,by rw[<-t];exact FC pm⟩)
  ·show 1<=1+ws.sum+c
   lia
  ·show 1+ws.sum+c<=9
   lia
  ·intro p O;simp at O;subst O;show 0<1+ws.sum+c
   lia
  ·intro s v;obtain⟨h1,h2,h3,_⟩:=s2 s v;exact⟨by show _<1+ws.sum+c;lia,by show _<1+ws.sum+c;lia,by show _<1+ws.sum+c;lia⟩
  ·exact λs v=>(s2 s v).2.2.2
  ·simp
  ·simp
  ·show 0<1+ws.sum+c
   lia
  ·intro j hj e;by_cases z:j=0
   ·exact z
   ·have Z :¬0=j:=λy=>z y.symm;simp[bC,Z]at e
variable{q:List Nat}
theorem C8(h:i<p.length):mk (p.map (mk q)) i=mk q (mk p i):=by simp[mk,List.getD,h]
theorem V9{s:Sw}(d:s.g<p.length)(e:s.a<p.length)(f:s.b<p.length):CQ q (CQ p s)=CQ (p.map (mk q)) s:=by
 unfold CQ;rw[C8 d,C8 e,C8 f];by_cases a:mk p s.a<=mk p s.b
 ·simp only[if_pos a]
 ·simp only[if_neg a];by_cases b:mk q (mk p s.b)<=mk q (mk p s.a)
  ·by_cases c:mk q (mk p s.a)<=mk q (mk p s.b)
   ·rw[if_pos b,if_pos c,Nat.le_antisymm b c]
   ·rw[if_pos b,if_neg c]
  ·rw[if_neg b,if_pos (by lia)]
theorem o8{x y z:Ls}(a:fH x)(h:uH x y p)(h' :uH y z q):uH x z (p.map (mk q)):=by
 have e:p.length=x.m:=by rw[h.pm.length_eq];simp
 have b:q.Perm (List.range x.m):=by rw[<-h.m];exact h'.pm
 refine⟨?_,by rw[h'.m,h.m],?_,?_⟩
 ·refine(h.pm.map (mk q)).trans ?_;rw[mQ b];exact b
 ·refine h'.ns.trans ((h.ns.map _).trans ?_);rw[List.map_map];refine aNs (aMh λn c=>?_);have:=a.ns n c;simp[C8 (show n.2<p.length by lia)]
 ·refine h'.sw.trans ((h.sw.map _).trans ?_);rw[List.map_map];refine aNs (aMh λs d=>?_);obtain⟨f,g,i⟩:=a.sw s d;exact V9 (by lia) (by lia) (by lia)
theorem IX:∀(n:Nat) (l:List Nat),l.Nodup->l.length=n->(∀x∈l,x<n)->l.Perm (List.range n)
 | 0,l,_,h,_=>by
  rw[List.length_eq_zero_iff.mp h];simp
 | n+1,l,nd,h,hl=>by
  rw[List.range_succ];by_cases z:n∈l
  ·have p:=List.perm_cons_erase z;have c :=p.nodup_iff.mp nd;obtain⟨d,f⟩:=aO4.mp c
   have:=IX n (l.erase n) f (by have:=p.length_eq;simp at this;lia) λx b=>by
    have g:=hl x (List.mem_of_mem_erase b);have i:x≠n:=λe=>d (e▸b)
    lia
   exact p.trans ((this.cons n).trans (List.perm_append_singleton _ _).symm)
  ·cases l with
   | nil=>simp at h
   | cons a t=>
    obtain⟨d,f⟩:=aO4.mp nd
    have lt:∀x∈a::t,x<n:=λx b=>by
     have g:=hl x b;have i:x≠n:=λe=>z (e▸b)
     lia
    have:=IX n t f (by simpa using h) λx b=>lt x (aM9 _ b);exact absurd (this.mem_iff.mpr (by simpa using lt a aM8)) d
variable{c:Nat}
theorem M7(h:Rg ws c x){e:Nat×Nat}(he:e∈R42.bI 1 ws):e.1<x.m/\e.2<x.m:=by
 have:=h.ok.sw (V6 e) (h.sw.mem_iff.mpr (aN6 he));exact⟨this.2.1,this.2.2⟩
variable{ws':List Nat}
theorem Q4(d:Rg ws c x)(f:Rg ws' c y)(h:ws.Perm ws'):∃p,uH x y p:=by
 obtain⟨p,b,g⟩:=R42.IT h 1;have n:=d.m;have o:=f.m;have es:=h.sum_nat
 have lt:∀i,i<x.m->p i<x.m:=λi hi=>by
  by_cases z:i<1+ws.sum
  ·have:=b.lt i z
   lia
  ·rw[b.hi i (by lia)];exact hi
 have pm:((List.range x.m).map p).Perm (List.range x.m):=IX _ _ (by
  unfold List.Nodup;rw[List.pairwise_map]
  exact aOg.imp λh e=>h (b.inj _ _ e)) (by simp) λv j=>by
   obtain⟨i,hi,rfl⟩:=aMd.mp j;exact lt i (by simpa using hi)
 have a:∀i,i<x.m->mk ((List.range x.m).map p) i=p i:=λi hi=>by simp[mk,List.getD,hi]
 have m0:0<x.m:=by lia
 refine⟨(List.range x.m).map p,pm,by lia,?_,?_⟩
 ·rw[d.ns,f.ns];simp[a 0 m0,b.lo 0 (by lia)]
 ·refine f.sw.trans ((g.symm.map V6).trans (List.Perm.trans ?_ (d.sw.map _).symm));rw[List.map_map,List.map_map];refine aNs (aMh λe he=>?_);obtain⟨k,l⟩:=M7 d he;simp only[Function.comp,R42.mp,R42.sp,V6,CQ,a _ k,a _ l,a 0 m0,b.lo 0 (by lia)];split <;> rfl
theorem S8{c t:Nat}(f:Rg ws c x)(B:Rg ws' c y)(C:∀w∈ws,2<=w)(g :∀w∈ws',2<=w)(D:ws.sum=t)(h :ws'.sum=t)(n:4<=t)(o:t<=7)(G:c<=1){r:List Nat}(q:uH x y r):ws.Perm ws' :=by
 have H:=f.m;have em:x.m=1+t+c:=by lia
 have pm:=q.pm
 let p:Nat->Nat:=λi=>if i<x.m then mk r i else i
 have s:((List.range (1+t+c)).map p).Perm (List.range (1+t+c)):=by
  rw[<-em]
  have:(List.range x.m).map p=r:=by
   rw[<-mQ pm];refine aMh λi hi=>?_;have k :i<x.m:=by simpa using hi
   simp[p,k]
  rw[this];exact pm
 have inj:∀i j,p i=p j->i=j:=λi j e=>by
  by_cases hi:i<x.m
  ·by_cases a:j<x.m
   ·simp only[p,if_pos hi,if_pos a]at e;exact mk_inj pm hi a e
   ·simp only[p,if_pos hi,if_neg a]at e;have:=i8 pm hi
    lia
  ·by_cases a:j<x.m
   ·simp only[p,if_neg hi,if_pos a]at e;have:=i8 pm a
    lia
   ·simpa only[p,if_neg hi,if_neg a] using e
 have u:(R42.bI 1 ws').Perm ((R42.bI 1 ws).map (R42.mp p)):=by
  have b:=(B.sw.symm.trans (q.sw.trans (f.sw.map (CQ r)))).map eOf;rw[List.map_map,List.map_map,List.map_map]at b
  have E:(R42.bI 1 ws').map (eOf ∘ V6)=R42.bI 1 ws' :=by
   conv=>rhs;rw[<-List.map_id (R42.bI 1 ws')]
   exact aMh λe _=>rfl
  rw[E]at b;refine b.trans (aNs (aMh λe he=>?_));obtain⟨b,F⟩:=M7 f he
  have v:CQ r (V6 e)=if mk r e.1<=mk r e.2 then ⟨"n",mk r 0,mk r e.1,mk r e.2,6,2⟩ else ⟨"n",mk r 0,mk r e.2,mk r e.1,6,2⟩:=rfl
  simp only[Function.comp,R42.mp,R42.sp,p,if_pos b,if_pos F];by_cases z:mk r e.1<=mk r e.2
  ·rw[v,if_pos z,if_pos z];rfl
  ·rw[v,if_neg z,if_neg z];rfl
 have A:=R42.A9 ws 1;have d:=R42.UJ s inj A u;have tr:=R42.QM s inj A u
 have ht:t∈[4,5,6,7]:=by
  have:t=4\/t=5\/t=6\/t=7:=by lia
  simpa using this
 have l :c∈[0,1]:=by
  have:c=0\/c=1:=by lia
  simpa using this
 exact R42.J8 t ht c l ws (R42.BX C D n o) ws' (R42.BX g h n o) d.symm tr.symm
theorem A4:∀(ws:List Nat) (m:Nat),(R42.bI m ws).length=ws.sum
 | [],_=>rfl
 | w::ws,m=>by simp[R42.bI,R42.xN,A4 ws]
theorem aCo{a b:Bool}(q:Q (.bl !(a==b)) M):qN (.bl a) (.bl b) M Q:=⟨0,rfl,rfl,by simp[aO,deep],q⟩
theorem HP.wd(h:HP x y d):∃(c:Bool) (e:D),d= .tup [.str (if c then "one" else "two"),e]/\(c=true↔∃p,uH x y p):=by
 rcases h with ⟨p,rfl,a⟩ | ⟨e,tl,l,rfl,_,_,_,b⟩
 ·exact⟨true,_,rfl,by simp;exact⟨p,a⟩⟩
 ·exact⟨false,_,rfl,by simp;exact b⟩
theorem aI8{b w u v c t:Nat}{s A:Ls}{a0 a1 R a4 a8:Option D}(j:Rg ws c s)(l:Rg ws' c A)(S:∀w∈ws,2<=w)(B :∀w∈ws',2<=w)(hs:ws.sum=t)(J :ws'.sum=t)(t4:4<=t)(t7:t<=7)(hc:c<=1)(T:HY mh b)(bu:b≠u)(bv:b≠v)(bw:b≠w)
  (g:mh[w]? =some (.lst [.ref u,.ref v])) (gu:mh[u]? =some (.lst (aC ws))) (gv:mh[v]? =some (.lst (aC ws')))
  (nx:∀M a6 a7 a8,E.nx [a0,a1,some (.ref b),R,a4,some (.ref w),a6,a7,a8] M):
  qD IP fA sPt sRg FL N1 A2 N0 E [a0,a1,some (.ref b),R,a4,some (.ref w),some (bZ s),some (bZ A),a8] mh:=by
 have sz:=aMe;have i0:∀a b c:D,fI [a,b,c] 0=some a:=λ_ _ _=>rfl;have U:∀a b:D,fI [a,b] 0=some a:=λ_ _=>rfl;have ex:∀z:Ls,bZ z= .tup [.int z.m,.tup (z.ns.map gC),.tup (z.sw.map iB)]:=λ_=>rfl;have C:=j.ok;have V:=l.ok;have mx:=j.ok.m8;have my:=l.ok.m8;simp[qD];rw[ex s,oF,i0];simp only[aH];rw[<-ex];refine⟨b,s.m,rfl,mx,T,λp M1 pp W=>?_⟩;refine⟨s,_,p,rfl,C,.inr ⟨_,rfl,aL _ _⟩,pp,λx f F=>?_⟩;have K:=((gJ.refl T).to W).push (.lst (aC p));simp[wJ];rw[ex A,oF,i0];simp only[aH];rw[<-ex];refine⟨b,A.m,rfl,my,K.bag,λq M2 qq t2=>?_⟩;refine⟨A,_,q,rfl,V,.inr ⟨_,rfl,aL _ _⟩,qq,λy G i =>?_⟩
 have kp:∀{n:Nat} {o:MO},b≠n->mh[n]? =some o->(M2++[MO.lst (aC q)])[n]? =some o:=λX h=>by
  refine aI ?_;rw[t2.other (Ne.symm X)];refine aI ?_;rw[W.other (Ne.symm X)];exact h
 have N:=kp bw g;have H:=kp bu gu;have I:=kp bv gv;generalize M2++[MO.lst (aC q)]=M3 at N H I⊢;have xm:=j.m;have ym:=l.m;have lx:=j.sw.length_eq;have Y:=l.sw.length_eq
 have O:ZV x y:=⟨by rw[F.m,i.m];lia,by
  have h1:=F.sw.length_eq;have h2:=i.sw.length_eq;rw[List.length_map]at h1 h2 lx Y;rw[A4]at lx Y
  lia⟩
 simp[wI];refine⟨x,y,rfl,f,G,Y7 F C f j.PD,O.1.symm,O.2,λd hd=>?_⟩;simp[wH];refine⟨x,y,d,rfl,f,G,O,hd,?_⟩;simp[iA,uP];obtain⟨c',e,rfl,P⟩:=hd.wd
 have hi:c' =true↔ws.Perm ws' :=by
  rw[P];constructor
  ·rintro⟨r,h⟩;exact S8 j l S B hs J t4 t7 hc (o8 C F (o8 f h (DQ i V)))
  ·intro h;obtain⟨r,h⟩:=Q4 j l h;exact⟨_,o8 f (DQ F C) (o8 C h i)⟩
 have nw:=v7 λw h=>aMq (show 1<=2 by lia) (S w h);have nw' :=v7 λw h=>aMq (show 1<=2 by lia) (B w h);have Z:∀c:List Nat,(aC c).length=c.length:=λc=>fB c;rw[oF,U];simp only[aH];have eo:(Str.ofString (if c' =true then "one" else "two")==Str.ofString "one")=c' :=by cases c' <;> decide
 have Q :(if c' =true then Str.ofString "one" else Str.ofString "two")=Str.ofString (if c' =true then "one" else "two"):=by cases c' <;> rfl
 rw[Q,aGk,eo];rw[cE N,U];simp only[aH];refine⟨_,_,rfl,eA H,by rw[Z];lia,fY ws,λL p1 s1=>?_⟩;dsimp only;rw[cE (aI N),pJ];simp only[aH];refine⟨_,_,rfl,eA (aI I),by rw[Z];lia,fY ws',λL' p2 s2=>?_⟩;have hj:=qJ p1 s1 p2 s2;obtain⟨c1,rfl,_⟩:=jN p1;obtain⟨c2,rfl,_⟩:=jN p2;refine t9 (aI (aL _ _)) (aL _ _) λk hk=>?_
 have ek:k=c' :=by
  rw[Bool.eq_iff_iff,hk,hi,<-hj];exact⟨λz=>by rw[z],iJ⟩
 subst ek;refine aCo ?_;simp[zF];exact nx _ _ _ _
theorem aAf{b t:Nat}(q:4<=t)(k:t<=7)(r:HY mh b)
  (nx:∀M a4 a5 a6 a7 a8,E.nx [a0,a1,some (.ref b),some (.int (t:Nat)),a4,a5,a6,a7,a8] M):
  qE IP fA sPt sRg FL N1 A2 N0 E [a0,a1,some (.ref b),some (.int (t:Nat)),a4,a5,a6,a7,a8] mh:=by
 have sz:=aMe;have s:∀a b:D,fI [a,b] 0=some a:=λ_ _=>rfl;simp[qE];refine E9 (.refl r) (by lia) (by lia) λc I u J e v K=>?_;obtain⟨c,rfl⟩:=aNh u;simp[wM];refine⟨b,t,rfl,by lia,k,e.bag,λws M2 o z A=>?_⟩;have f:=e.to A;have bl:=e.blt;have B:=f.le;refine⟨b,t,rfl,by lia,k,(f.push _).bag,λws' d g l p=>?_⟩;have h:=(f.push (MO.lst (aC ws))).to p;have C:=h.le
 have m:(d++[MO.lst (aC ws')]++[MO.lst [.ref M2.length,.ref d.length]])[M2.length]? =some (MO.lst (aC ws)):=by
  refine aI (aI ?_);rw[p.other (by lia)];exact aL _ _
 have n:(d++[MO.lst (aC ws')]++[MO.lst [.ref M2.length,.ref d.length]])[d.length]? =some (MO.lst (aC ws')):=aI (aL _ _);have i:=aL (d++[MO.lst (aC ws')]) (MO.lst [.ref M2.length,.ref d.length]);have j:=(h.push (MO.lst (aC ws'))).push (MO.lst [.ref M2.length,.ref d.length]);have F:d.length<(d++[MO.lst (aC ws')]).length:=by simp
 simp;refine⟨by lia,?_⟩;rw[show d++[MO.lst (aC ws'),MO.lst [D.ref M2.length,D.ref d.length]]=d++[MO.lst (aC ws')]++[MO.lst [.ref M2.length,.ref d.length]] by simp,show d.length+1=(d++[MO.lst (aC ws')]).length by simp];generalize d++[MO.lst (aC ws')]++[MO.lst [.ref M2.length,.ref d.length]]=L at m n i j⊢;generalize (d++[MO.lst (aC ws')]).length=w at i F⊢;simp[wL];rw[cE i,s];simp only[aH];refine⟨_,c,ws,rfl,m,o,by lia,by lia,λx G=>?_⟩;simp[wK];rw[cE i,pJ];simp only[aH];refine⟨_,c,ws',rfl,n,g,by lia,by lia,λy H=>?_⟩;exact aI8 G H o g z l q k (by lia) j.bag (by lia) (by lia) (by lia) i m n λM a6 a7 a8=>nx _ _ _ _ _ _
theorem aI7(ds:List D)(mh:MH)(R:DK)(ok:iT mh)(r:zR ds mh R):KZ IP fA sPt sRg FL N1 A2 N0 (En mh R) (aJ ["_law_script","_law_k","_law_bag_here","_law_total","_law_more","_law_wheels","_law_one","_law_other","_law_paper"] ds) mh:=by
 obtain⟨ns,rfl,s,q⟩:=r;have sz:=aMe;have t:∀a b:D,fI [a,b] 0=some a:=λ_ _=>rfl;simp[KZ,aJ];refine⟨by split <;> (try split) <;> lia,by split <;> (try split) <;> lia,?_⟩;refine cQ (λi m _=>∃a b c d e f g h,m=[some (.fl (ns.map .int)),a,b,c,d,e,f,g,h]) _ (λ_ _ _ _=>trivial) ?_ ?_ ⟨_,_,_,_,_,_,_,_,rfl⟩
 ·rintro i d m v N hi ⟨a,b,c,d',e,f,g,h,rfl⟩ nx;obtain⟨k,rfl⟩:=jI hi
  have w:i<12:=by
   revert k;split <;> (try split) <;> intro k <;> lia
  simp[EZ];refine ZP s (by lia) (by lia) λx _ y=>?_;simp[wN];have l:=(gJ.refl y).push (MO.lst [.int 3,.int 4]);refine⟨by lia,.inr ⟨_,rfl,?_⟩⟩;dsimp only;rw[cE (aL _ _)];by_cases z:(i:Int)=0
  ·have n :(if ((i:Int)==0)=true then (1:Int) else 0)=1:=by simp[z]
   rw[n,pJ];simp only[aH];refine E9 l (by lia) (by lia) λu A o B j p C=>?_;obtain⟨u,rfl⟩:=aNh o;rw[xF,show (4:Int)+((u:Nat):Int)=((4+u:Nat):Int) by lia];exact aAf (by lia) (by lia) j.bag λM a4 a5 a6 a7 a8=>nx _ _ ⟨_,_,_,_,_,_,_,_,rfl⟩
  ·have n :(if ((i:Int)==0)=true then (1:Int) else 0)=0:=by simp;lia
   rw[n,t];simp only[aH];refine E9 l (by lia) (by lia) λu A o B j p C=>?_;obtain⟨u,rfl⟩:=aNh o;rw[xF,show (4:Int)+((u:Nat):Int)=((4+u:Nat):Int) by lia];exact aAf (by lia) (by lia) j.bag λM a4 a5 a6 a7 a8=>nx _ _ ⟨_,_,_,_,_,_,_,_,rfl⟩
 ·rintro m M ⟨a,b,c,d,e,f,g,h,rfl⟩;simp[KY];exact bT (q _)
variable{P:List Value->Prop}
theorem aLb(us:List Value)(b:us.length=0)(h:P []):P us:=by
 cases us with
 | nil=>exact h
 | cons a us=>cases b
theorem aHp(us:List Value)(b:us.length=1)(h:∀a0,P [a0]):P us:=by
 cases us with
 | nil=>cases b
 | cons a us=>exact aLb (P:=λus=>P (a::us)) us (aPr b) (h a)
theorem aHo(us:List Value)(b:us.length=2)(h:∀a0 a1,P [a0,a1]):P us:=by
 cases us with
 | nil=>cases b
 | cons a us=>exact aHp (P:=λus=>P (a::us)) us (aPr b) (h a)
theorem aHn(us:List Value)(b:us.length=3)(h:∀a0 a1 a2,P [a0,a1,a2]):P us:=by
 cases us with
 | nil=>cases b
 | cons a us=>exact aHo (P:=λus=>P (a::us)) us (aPr b) (h a)
theorem aLa(us:List Value)(b:us.length=4)(h:∀a0 a1 a2 c,P [a0,a1,a2,c]):P us:=by
 cases us with
 | nil=>cases b
 | cons a us=>exact aHn (P:=λus=>P (a::us)) us (aPr b) (h a)
variable{x:Str}{st:Stmt}{ps:List Str}
theorem KJ(h:∀kV doc pm an cdv ct a0,bindArgs (PySem.W.fnOf x x (fF st) (cZ st) (aG st) .none kV doc pm an cdv ct) ⟨[a0],[]⟩=pure (ps.zip [a0]))(g:ps.length=1:=by rfl):bN x st ps:=λa b c d e f us i=>aHp (P:=λus=>bindArgs _ ⟨us,[]⟩=pure (List.zip _ us)) us (i.trans g) (h a b c d e f)
theorem qW(h:∀kV doc pm an cdv ct a0 a1,bindArgs (PySem.W.fnOf x x (fF st) (cZ st) (aG st) .none kV doc pm an cdv ct) ⟨[a0,a1],[]⟩=pure (ps.zip [a0,a1]))(g:ps.length=2:=by rfl):bN x st ps:=λa b c d e f us i=>aHo (P:=λus=>bindArgs _ ⟨us,[]⟩=pure (List.zip _ us)) us (i.trans g) (h a b c d e f)
theorem HJ(h:∀kV doc pm an cdv ct a0 a1 a2,bindArgs (PySem.W.fnOf x x (fF st) (cZ st) (aG st) .none kV doc pm an cdv ct) ⟨[a0,a1,a2],[]⟩=pure (ps.zip [a0,a1,a2]))(g:ps.length=3:=by rfl):bN x st ps:=λa b c d e f us i=>aHn (P:=λus=>bindArgs _ ⟨us,[]⟩=pure (List.zip _ us)) us (i.trans g) (h a b c d e f)
theorem aIp(h:∀kV doc pm an cdv ct a0 a1 a2 g,bindArgs (PySem.W.fnOf x x (fF st) (cZ st) (aG st) .none kV doc pm an cdv ct) ⟨[a0,a1,a2,g],[]⟩=pure (ps.zip [a0,a1,a2,g]))(i:ps.length=4:=by rfl):bN x st ps:=λa b c d e f us j=>aLa (P:=λus=>bindArgs _ ⟨us,[]⟩=pure (List.zip _ us)) us (j.trans i) (h a b c d e f)
theorem HL:bN "numbered" iE ["keys"]:=KJ λ_ _ _ _ _ _ _=>rfl
theorem vL:bN "names_by_net" dN ["some"]:=KJ λ_ _ _ _ _ _ _=>rfl
theorem vM:bN "hooks_by_net" dO ["some"]:=KJ λ_ _ _ _ _ _ _=>rfl
theorem KL:bN "telling" j6 ["hook","own"]:=qW λ_ _ _ _ _ _ _ _=>rfl
theorem zB:bN "first_marks" d7 ["one","other"]:=qW λ_ _ _ _ _ _ _ _=>rfl
theorem AH:bN "next_marks" eV ["sides","marked"]:=qW λ_ _ _ _ _ _ _ _=>rfl
theorem HK:bN "sides_of" iD ["one","other"]:=qW λ_ _ _ _ _ _ _ _=>rfl
theorem AJ:bN "are_parted" eX ["marked"]:=KJ λ_ _ _ _ _ _ _=>rfl
theorem HM:bN "marks_on" iF ["sides","first"]:=qW λ_ _ _ _ _ _ _ _=>rfl
theorem EF:bN "with_name" fZ ["first","net","other_net"]:=HJ λ_ _ _ _ _ _ _ _ _=>rfl
theorem AI:bN "nets_alike" eW ["own"]:=KJ λ_ _ _ _ _ _ _=>rfl
theorem tB:bN "rounds_to_part" cV ["told","net","other_net"]:=HJ λ_ _ _ _ _ _ _ _ _=>rfl
theorem zA:bN "is_as_great" d5 ["one","other"]:=qW λ_ _ _ _ _ _ _ _=>rfl
theorem U0:bN "tried" n6 ["sides","told","net","other_net"]:=aIp λ_ _ _ _ _ _ _ _ _ _=>rfl
theorem y9:bN "weighed" j5 ["sides","told"]:=qW λ_ _ _ _ _ _ _ _=>rfl
theorem ZO:bN "held" rR ["one","other"]:=qW λ_ _ _ _ _ _ _ _=>rfl
theorem HN:bN "_law_bag" iG ["_law_script","_law_at"]:=qW λ_ _ _ _ _ _ _ _=>rfl
theorem EI:bN "_law_take" f9 ["_law_bag_here","_law_many"]:=qW λ_ _ _ _ _ _ _ _=>rfl
theorem zD:bN "_law_number" d9 ["_law_thing"]:=KJ λ_ _ _ _ _ _ _=>rfl
theorem AN:bN "_law_order" e9 ["_law_bag_here","_law_many"]:=qW λ_ _ _ _ _ _ _ _=>rfl
theorem vN:bN "_law_renamed" dP ["_law_some","_law_order_here"]:=qW λ_ _ _ _ _ _ _ _=>rfl
theorem AL:bN "_law_rings" eZ ["_law_wheels","_law_more"]:=qW λ_ _ _ _ _ _ _ _=>rfl
theorem AM:bN "_law_parts" e8 ["_law_bag_here","_law_total"]:=qW λ_ _ _ _ _ _ _ _=>rfl
theorem EH:bN "_law_tell" f7 ["_law_some","_law_net","_law_old"]:=HJ λ_ _ _ _ _ _ _ _ _=>rfl
theorem uF:bN "_law_numbered" dC ["_law_things","_law_cut"]:=qW λ_ _ _ _ _ _ _ _=>rfl
theorem AK:bN "_law_start" eY ["_law_one","_law_other","_law_tries"]:=HJ λ_ _ _ _ _ _ _ _ _=>rfl
theorem vO:bN "_law_further" dQ ["_law_one","_law_other","_law_duo"]:=HJ λ_ _ _ _ _ _ _ _ _=>rfl
theorem zC:bN "_law_rounds" d8 ["_law_one","_law_other","_law_tries"]:=HJ λ_ _ _ _ _ _ _ _ _=>rfl
theorem EG:bN "_law_word" f6 ["_law_thing","_law_word_here","_law_many"]:=HJ λ_ _ _ _ _ _ _ _ _=>rfl
theorem kG:bN "_law_part_right" cO ["_law_one","_law_other","_law_tries","_law_paper"]:=aIp λ_ _ _ _ _ _ _ _ _ _=>rfl
theorem pI:bN "_law_paper_right" cD ["_law_one","_law_other","_law_paper"]:=HJ λ_ _ _ _ _ _ _ _ _=>rfl
theorem aF7:bN "law" w8 ["_law_script"]:=KJ λ_ _ _ _ _ _ _=>rfl
structure Al(w:World)(K:aPu)(mg:aPx):Prop where
 J5:dJ K "numbered" iE
 yV:dJ K "names_by_net" dN
 yW:dJ K "hooks_by_net" dO
 PH:dJ K "telling" j6
 AB:dJ K "first_marks" d7
 D2:dJ K "next_marks" eV
 J4:dJ K "sides_of" iD
 D5:dJ K "are_parted" eX
 J6:dJ K "marks_on" iF
 G8:dJ K "with_name" fZ
 D4:dJ K "nets_alike" eW
 uE:dJ K "rounds_to_part" cV
 AA:dJ K "is_as_great" d5
 ZA:dJ K "tried" n6
 BW:dJ K "weighed" j5
 aEp:dJ K "held" rR
 J7:dJ K "_law_bag" iG
 HC:dJ K "_law_take" f9
 AE:dJ K "_law_number" d9
 D9:dJ K "_law_order" e9
 yX:dJ K "_law_renamed" dP
 D7:dJ K "_law_rings" eZ
 D8:dJ K "_law_parts" e8
 HB:dJ K "_law_tell" f7
 vK:dJ K "_law_numbered" dC
 D6:dJ K "_law_start" eY
 yY:dJ K "_law_further" dQ
 AD:dJ K "_law_rounds" d8
 G9:dJ K "_law_word" f6
 lA:dJ K "_law_part_right" cO
 qU:dJ K "_law_paper_right" cD
 aIl:dJ K "law" w8
 pE:tF K mg "AT_GATE" (.int 0)
 HG:tF K mg "AT_END" (.int 1)
 sY:tF K mg "MOST_ALIKE" (.int 8)
section
variable {P:Program}{w:World}{K:aPu}{mg:aPx}{base h:Heap}(KX:K.In h)(G:h.Ns mainGlobals mg)(B:Bl mg)(A:Al w K mg)
include KX G B A
theorem gW :Fn P w K mg base 1 "numbered" ["keys"] (p5):=
 cX (wB:=mK) (k:=0) A.J5 KX G HL uU (by with_reducible exact JO B) (λds mh R h=>by obtain⟨_,_,_,_,_,rfl,_⟩:=h;rfl) JU
theorem oT :Fn P w K mg base 1 "names_by_net" ["some"] (CM):=
 cX (wB:=fP) (k:=0) A.yV KX G vL m6 (by with_reducible exact yB B) (λds mh R h=>by obtain⟨_,rfl,_⟩:=h;rfl) YV
theorem oU :Fn P w K mg base 1 "hooks_by_net" ["some"] (CN):=
 cX (wB:=fQ) (k:=0) A.yW KX G vM m7 (by with_reducible exact yC B  A.pE A.HG) (λds mh R h=>by obtain⟨_,rfl,_⟩:=h;rfl) YY
theorem BQ :Fn P w K mg base 1 "telling" ["hook","own"] (FK):=
 cX (wB:=o4) (k:=0) A.PH KX G KL xE (by with_reducible exact OP B  A.pE) (λds mh R h=>by obtain⟨_,_,rfl,_⟩:=h;rfl) O0
theorem qA :Fn P w K mg base 2 "first_marks" ["one","other"] (xI):=
 cX (wB:=g7 (p5) (CM)) (k:=1) A.AB KX G zB oC (by with_reducible exact zX B ((gW KX G B A).mono (by lia)) ((oT KX G B A).mono (by lia))) (λds mh R h=>by obtain⟨_,_,rfl,_⟩:=h;rfl) YZ
theorem sR :Fn P w K mg base 2 "next_marks" ["sides","marked"] (uY):=
 cX (wB:=jA (FK) (p5)) (k:=1) A.D2 KX G AH pT (by with_reducible exact DF B ((BQ KX G B A).mono (by lia)) ((gW KX G B A).mono (by lia))) (λds mh R h=>by obtain⟨_,_,_,_,_,_,rfl,_⟩:=h;rfl) aEc
theorem yO :Fn P w K mg base 2 "sides_of" ["one","other"] (xG):=
 cX (wB:=mJ (CN)) (k:=1) A.J4 KX G HK uT (by with_reducible exact JN B ((oU KX G B A).mono (by lia))) (λds mh R h=>by obtain⟨_,_,rfl,_⟩:=h;rfl) YQ
theorem eO :Fn P w K mg base 1 "are_parted" ["marked"] (qM):=
 cX (wB:=jC) (k:=0) A.D5 KX G AJ pV (by with_reducible exact DH B) (λds mh R h=>by obtain⟨_,_,rfl,_⟩:=h;rfl) TQ
theorem mS :Fn P w K mg base 3 "marks_on" ["sides","first"] (sMO):=
 cX (wB:=mL (qM) (uY)) (k:=2) A.J6 KX G HM uV (by with_reducible exact JP B ((eO KX G B A).mono (by lia)) ((sR KX G B A).mono (by lia))) (λds mh R h=>by obtain⟨_,_,_,_,_,rfl,_⟩:=h;rfl) aLj
theorem vA :Fn P w K mg base 2 "with_name" ["first","net","other_net"] (sWN):=
 cX (wB:=kH (p5)) (k:=1) A.G8 KX G EF rS (by with_reducible exact GF B ((gW KX G B A).mono (by lia))) (λds mh R h=>by obtain⟨_,_,_,_,rfl,_⟩:=h;rfl) aE9
theorem jK :Fn P w K mg base 1 "nets_alike" ["own"] (sNA):=
 cX (wB:=jB) (k:=0) A.D4 KX G AI pU (by with_reducible exact DG B) (λds mh R h=>by obtain⟨_,rfl,_⟩:=h;rfl) Y0
theorem l9 :Fn P w K mg base 1 "rounds_to_part" ["told","net","other_net"] (V5):=
 cX (wB:=eI) (k:=0) A.uE KX G tB kW (by with_reducible exact tV B) (λds mh R h=>by obtain⟨_,_,_,_,rfl,_⟩:=h;rfl) aI5
theorem p9 :Fn P w K mg base 1 "is_as_great" ["one","other"] (Q0):=
 cX (wB:=g6) (k:=0) A.AA KX G zA n9 (by with_reducible exact zW B) (λds mh R h=>by obtain⟨_,_,rfl,_⟩:=h;rfl) aI9
theorem MZ  (a:Fn P w K mg base (2*n+3) "weighed" ["sides","told"] (FJ n)):Fn P w K mg base (2*n+4) "tried" ["sides","told","net","other_net"] (QY n):=
 JZ (wB:=vS (V5) (FJ n) (sMO) (sWN)) (k:=2*n+3) (by lia) A.ZA KX G U0 FI (by with_reducible exact YE B ((l9 KX G B A).mono (by lia)) a ((mS KX G B A).mono (by lia)) ((vA KX G B A).mono (by lia))) (λds mh R h=>by obtain⟨_,_,_,_,_,_,_,_,_,_,rfl,_⟩:=h;rfl) (YO n)
theorem pA :∀n:Nat,Fn P w K mg base (2*n+3) "weighed" ["sides","told"] (FJ n)
 | 0=>(GW A.BW KX G y9).imp λds mh R h=>by obtain⟨_,_,_,_,_,_,_,_,_,_,_,_,_,_,_,_,a,_⟩:=h;exact absurd a (aPs _)
 | n+1=>JZ (wB:=oZ (qM) (sNA) (QY n)) (k:=2*n+4) (by lia) A.BW KX G y9 xD (by with_reducible exact OO B ((eO KX G B A).mono (by lia)) ((jK KX G B A).mono (by lia)) (MZ KX G B A (pA n))) (λds mh R h=>by obtain⟨_,_,_,_,_,_,_,_,rfl,_⟩:=h;rfl) (OZ n)
theorem UD :Fn P w K mg base 28 "held" ["one","other"] (A2):=
 cX (wB:=B9 (Q0) (xG) (sMO) (xI) (qM) (sNA) (FJ 12)) (k:=27) A.aEp KX G ZO LP (by with_reducible exact aDl B ((p9 KX G B A).mono (by lia)) ((yO KX G B A).mono (by lia)) ((mS KX G B A).mono (by lia)) ((qA KX G B A).mono (by lia)) ((eO KX G B A).mono (by lia)) ((jK KX G B A).mono (by lia)) ((pA KX G B A 12).mono (by lia)) A.sY) (λds mh R h=>by obtain⟨_,_,rfl,_⟩:=h;rfl) aEd
theorem yP :Fn P w K mg base 1 "_law_bag" ["_law_script","_law_at"] (IP):=
 cX (wB:=mO) (k:=0) A.J7 KX G HN uW (by with_reducible exact JQ B) (λds mh R h=>by obtain⟨_,_,rfl,_⟩:=h;rfl) aIa
theorem fN :Fn P w K mg base 1 "_law_take" ["_law_bag_here","_law_many"] (fA):=
 cX (wB:=kM) (k:=0) A.HC KX G EI rW (by with_reducible exact GI B) (λds mh R h=>by obtain⟨_,_,rfl,_⟩:=h;rfl) aEa
theorem hU :Fn P w K mg base 1 "_law_number" ["_law_thing"] (sNo):=
 cX (wB:=hC) (k:=0) A.AE KX G zD oE (by with_reducible exact zZ B) (λds mh R h=>by obtain⟨_,rfl,_⟩:=h;rfl) TR
theorem sV :Fn P w K mg base 2 "_law_order" ["_law_bag_here","_law_many"] (N1):=
 cX (wB:=jG (fA)) (k:=1) A.D9 KX G AN pZ (by with_reducible exact DM B ((fN KX G B A).mono (by lia))) (λds mh R h=>by obtain⟨_,_,rfl,_⟩:=h;rfl) YU
theorem gG :Fn P w K mg base 1 "_law_renamed" ["_law_some","_law_order_here"] (FL):=
 cX (wB:=fS) (k:=0) A.yX KX G vN nA (by with_reducible exact yD B) (λds mh R h=>by obtain⟨_,_,_,rfl,_⟩:=h;rfl) O4
theorem sT :Fn P w K mg base 1 "_law_rings" ["_law_wheels","_law_more"] (sRg):=
 cX (wB:=jE) (k:=0) A.D7 KX G AL pX (by with_reducible exact DJ B) (λds mh R h=>by obtain⟨_,_,_,rfl,_⟩:=h;rfl) YR
theorem sU :Fn P w K mg base 2 "_law_parts" ["_law_bag_here","_law_total"] (sPt):=
 cX (wB:=jF (fA)) (k:=1) A.D8 KX G AM pY (by with_reducible exact DL B ((fN KX G B A).mono (by lia))) (λds mh R h=>by obtain⟨_,_,rfl,_⟩:=h;rfl) YS
theorem vB :Fn P w K mg base 1 "_law_tell" ["_law_some","_law_net","_law_old"] (xH):=
 cX (wB:=kL) (k:=0) A.HB KX G EH rV (by with_reducible exact GH B) (λds mh R h=>by obtain⟨_,_,_,_,rfl,_⟩:=h;rfl) YW
theorem fE :Fn P w K mg base 1 "_law_numbered" ["_law_things","_law_cut"] (rX):=
 cX (wB:=fC) (k:=0) A.vK KX G uF l6 (by with_reducible exact vH B) (λds mh R h=>by obtain⟨_,_,_,_,rfl,_⟩:=h;rfl) GS
theorem sS :Fn P w K mg base 2 "_law_start" ["_law_one","_law_other","_law_tries"] (QZ):=
 cX (wB:=jD (rX)) (k:=1) A.D6 KX G AK pW (by with_reducible exact DI B ((fE KX G B A).mono (by lia))) (λds mh R h=>by obtain⟨_,_,_,_,rfl,_⟩:=h;rfl) TU
theorem oV :Fn P w K mg base 2 "_law_further" ["_law_one","_law_other","_law_duo"] (FN):=
 cX (wB:=fW (xH) (rX)) (k:=1) A.yY KX G vO nB (by with_reducible exact yE B ((vB KX G B A).mono (by lia)) ((fE KX G B A).mono (by lia))) (λds mh R h=>by obtain⟨_,_,_,_,_,_,rfl,_⟩:=h;rfl) JV
theorem qB :Fn P w K mg base 3 "_law_rounds" ["_law_one","_law_other","_law_tries"] (NZ):=
 cX (wB:=g9 (QZ) (FN)) (k:=2) A.AD KX G zC oD (by with_reducible exact zY B ((sS KX G B A).mono (by lia)) ((oV KX G B A).mono (by lia))) (λds mh R h=>by obtain⟨_,_,_,_,rfl,_⟩:=h;rfl) TN
theorem k9 :Fn P w K mg base 1 "_law_word" ["_law_thing","_law_word_here","_law_many"] (uX):=
 cX (wB:=kK) (k:=0) A.G9 KX G EG rT (by with_reducible exact GG B) (λds mh R h=>by obtain⟨_,_,_,rfl,_⟩:=h;rfl) aE8
theorem dY :∀n:Nat,Fn P w K mg base (n+3) "_law_part_right" ["_law_one","_law_other","_law_tries","_law_paper"] (sPR n)
 | 0=>(GW A.lA KX G kG).imp λds mh R h=>by obtain⟨_,_,_,_,_,_,_,_,_,a,_⟩:=h;exact absurd a (aNk _)
 | n+1=>JZ (wB:=dW (NZ) (uX) (sNo) (sPR n)) (k:=n+3) (by lia) A.lA KX G kG j7 (by with_reducible exact sJ B ((qB KX G B A).mono (by lia)) ((k9 KX G B A).mono (by lia)) ((hU KX G B A).mono (by lia)) (dY n)) (λds mh R h=>by obtain⟨_,_,_,_,_,rfl,_⟩:=h;rfl) (aEb n)
theorem kA :Fn P w K mg base 16 "_law_paper_right" ["_law_one","_law_other","_law_paper"] (N0):=
 cX (wB:=cM (uX) (sNo) (FL) (sPR 12)) (k:=15) A.qU KX G pI i7 (by with_reducible exact qQ B ((k9 KX G B A).mono (by lia)) ((hU KX G B A).mono (by lia)) ((gG KX G B A).mono (by lia)) ((dY KX G B A 12).mono (by lia))) (λds mh R h=>by obtain⟨_,_,_,rfl,_⟩:=h;rfl) aI6
theorem YC{b:Addr}  (a:mg "law"=some (.ref b)):
  ∃fd:FuncData,(∀(s:Shared) (u:Value),BindsTo s fd ⟨[u],[]⟩ [("_law_script",u)])/\∀base:Heap,mG P w K mg base HX 29 b fd ["_law_script"] (VE K zR):=
 aDi (wB:=KZ (IP) (fA) (sPt) (sRg) (FL) (N1) (A2) (N0)) (k:=28) KX G a A.aIl QS aF7 (λbase=>by with_reducible exact aHz B ((yP KX G B A).mono (by lia)) ((fN KX G B A).mono (by lia)) ((sU KX G B A).mono (by lia)) ((sT KX G B A).mono (by lia)) ((gG KX G B A).mono (by lia)) ((sV KX G B A).mono (by lia)) ((UD KX G B A).mono (by lia)) ((kA KX G B A).mono (by lia))) aI7
theorem aJb{l:PySem.W.OpenLaw}{b:Addr}  (a:mg "law"=some (.ref b)):
  ∃fd:FuncData,(∀(s:Shared) (u:Value),BindsTo s fd ⟨[u],[]⟩ [("_law_script",u)])/\∀base:Heap,K.In base->base.Ns mainGlobals mg->mG l.prog w K mg base HX 29 b fd ["_law_script"] (VE K zR):=
 let ⟨fd,h1,h2⟩:=YC KX G B A a
 ⟨fd,h1,λbase _ _=>h2 base⟩
end
end K42
open PySem PySem.W PyProof.Rows
set_option maxRecDepth 100000 in
set_option maxHeartbeats 0 in
theorem PySem.Challenge.cw_maskwright_k42_two_by_tries_holds : PySem.Challenge.rw_maskwright_k42_two_by_tries.Holds := by
  w_on; refine D3.aJc (q := D3.kQ PySem.Challenge.pw_maskwright_k42_two_by_tries [1, 2, 4, 5, 6, 7, 8, 9, 10, 11, 12, 13, 14, 15, 16, 17, 18, 19, 20, 21, 22, 24, 25, 26, 27, 28, 29, 30, 31, 32, 33, 34, 35, 36, 37, 38, 39]) (loose := []) (K := K42.kk) (as := [3, 43, 44, 48, 49, 53, 54, 60, 61, 67, 68, 72, 73, 79, 80, 86, 87, 93, 94, 98, 99, 103, 104, 110, 111, 117, 118, 122, 123, 129, 130, 136, 137, 143, 144, 150, 151, 157, 158, 164, 165, 169, 170, 176, 177, 183, 184, 190, 191, 195, 196, 200, 201, 205, 206, 212, 213, 219, 220, 224, 225, 229, 230, 236, 237]) (by kernel_rfl) (fun _ => rfl) K42.kl (by rfl) (by rfl) (by rfl) (by decide +kernel) ⟨rfl, rfl, rfl, rfl, rfl, by decide +kernel⟩ ?hw ?_; (case hw => w_witness2)
  k_fill
  refine D3.walkD (l := PySem.Challenge.rw_maskwright_k42_two_by_tries) (k := 29) (x := "_law_script") rfl rfl ⟨rfl, by decide, by decide⟩ (fun _ _ Y => Y) ?F
  case F =>
    intro w mg fa h KX G hmg
    refine' K42.aJb KX G (D3.bl_mk KX G ?_ ?_ ?_ ?_ ?_ ?_ ?_ ?_ ?_ ?_ ?_ ?_ ?_ ?_ ?_ ?_ ?_ ?_ ?_) ⟨(D3.aJh ?_ ?_ ?_ ?_), (D3.aJh ?_ ?_ ?_ ?_), (D3.aJh ?_ ?_ ?_ ?_), (D3.aJh ?_ ?_ ?_ ?_), (D3.aJh ?_ ?_ ?_ ?_), (D3.aJh ?_ ?_ ?_ ?_), (D3.aJh ?_ ?_ ?_ ?_), (D3.aJh ?_ ?_ ?_ ?_), (D3.aJh ?_ ?_ ?_ ?_), (D3.aJh ?_ ?_ ?_ ?_), (D3.aJh ?_ ?_ ?_ ?_), (D3.aJh ?_ ?_ ?_ ?_), (D3.aJh ?_ ?_ ?_ ?_), (D3.aJh ?_ ?_ ?_ ?_), (D3.aJh ?_ ?_ ?_ ?_), (D3.aJh ?_ ?_ ?_ ?_), (D3.aJh ?_ ?_ ?_ ?_), (D3.aJh ?_ ?_ ?_ ?_), (D3.aJh ?_ ?_ ?_ ?_), (D3.aJh ?_ ?_ ?_ ?_), (D3.aJh ?_ ?_ ?_ ?_), (D3.aJh ?_ ?_ ?_ ?_), (D3.aJh ?_ ?_ ?_ ?_), (D3.aJh ?_ ?_ ?_ ?_), (D3.aJh ?_ ?_ ?_ ?_), (D3.aJh ?_ ?_ ?_ ?_), (D3.aJh ?_ ?_ ?_ ?_), (D3.aJh ?_ ?_ ?_ ?_), (D3.aJh ?_ ?_ ?_ ?_), (D3.aJh ?_ ?_ ?_ ?_), (D3.aJh ?_ ?_ ?_ ?_), (D3.aJh ?_ ?_ ?_ ?_), (D3.aFl KX G ?q0), (D3.aFl KX G ?q1), (D3.aFl KX G ?q2)⟩ hmg
    (case q0 => k_is)
    (case q1 => k_is)
    (case q2 => k_is)
    all_goals try k_is
