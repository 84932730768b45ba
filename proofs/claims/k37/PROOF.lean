import PyProof.Rows.All
import Wide.All
import OpenK.AllK
import Wide.FinOn
import Lean
import PyProof.EqAt
import PyProof.EqKinds
import PyProof.TupleCall
import PyProof.NeKinds
import PySem.Challenge.RW_maskwright_k37_lists_thinned
set_option Elab.async false
set_option linter.all false
set_option maxRecDepth 100000
set_option maxHeartbeats 4000000
abbrev aEd:=PySem.W.Frag
set_option compiler.extract_closed false
abbrev aAz:= @PySem.wpAny_bind
abbrev aB0:= @PySem.wpAny_pure
abbrev aB1:= @PySem.Heap.get?_push_of_some
abbrev aB2:= @List.getElem?_eq_some_iff
abbrev aB3:= @Nat.le_refl
abbrev aB4:= @PySem.Heap.get?_push_size
abbrev aB5:= @PySem.Heap.lt_size
abbrev aB6:= @List.mem_cons_self
abbrev aB7:= @List.mem_cons_of_mem
abbrev aB8:= @List.mem_of_getElem?
abbrev aB9:= @Nat.ne_of_lt
abbrev aBa:= @List.mem_cons
abbrev aBb:= @PySem.wpAny_call_entry
abbrev aBc:= @Nat.lt_of_lt_of_le
abbrev aBd:= @List.mem_map
abbrev aBe:= @PySem.W.mg_none_of
abbrev aBf:= @PySem.wpAny_holding
abbrev aBg:= @PySem.wpAny_callSpecial?_slot
abbrev aBh:= @PySem.wpAny_setField_rec
abbrev aBi:= @PySem.wpAny_newObj_type
abbrev aBj:= @PySem.wpAny_setState_of
abbrev aBk:= @PySem.sizeLine_eq
abbrev aBl:= @Option.some.inj
abbrev aBm:= @Option.map_eq_some_iff
abbrev aBn:= @List.mem_append
abbrev aBo:= @PySem.mem_of_lookup
abbrev aBp:= @PySem.Heap.SameBut.update
abbrev aBq:= @Nat.le_trans
abbrev aBr:= @List.getElem?_eq_getElem
abbrev aBs:= @List.mem_append_right
abbrev aBt:= @Nat.lt_succ_of_lt
abbrev aBu:= @PyProof.Rows.wpS_bind
abbrev aBv:= @PySem.wpAny_field
abbrev aBw:= @PySem.wpAny_mono
abbrev aBx:= @PyProof.Rows.slot_tuple_getitem
abbrev aBy:= @Nat.lt_succ_self
abbrev aBz:= @PyProof.Rows.callWith_type1
abbrev aC0:= @congrArg
abbrev aC1:= @Ne.symm
abbrev aC2:= @Classical.byContradiction
abbrev aC3:= @List.mem_iff_getElem?
abbrev aC4:= @PySem.F.slot_dict_keyiterator_next
abbrev aC5:= @PySem.wpAny_rule
abbrev aC6:= @PyProof.Rows.wpS_pure
abbrev aC7:= @PySem.wpAny_attempt
abbrev aC8:= @PySem.Heap.get?_update_other
abbrev aC9:= @PySem.wpAny_setEntries_of
abbrev aCa:= @Nat.zero_le
abbrev aCb:= @List.pairwise_iff_getElem
abbrev aCc:= @Nat.ne_of_gt
abbrev aCd:= @Nat.lt_or_ge
abbrev aCe:= @PySem.wpAny_seqItems
abbrev aCf:= @PySem.wpAny_typeNameOfWhole_keyiter
abbrev aCg:= @PySem.fits_of_scanBound
abbrev aCh:= @PySem.Heap.SameBut.refl
abbrev aCi:= @Nat.lt_trichotomy
abbrev aCj:= @Nat.lt_irrefl
abbrev aCk:= @PySem.wpAny_isInstance
abbrev aCl:= @PySem.tupleKind_room_in1
abbrev aCm:= @Int.emod_lt_of_pos
abbrev aCn:= @PySem.F.slot_tuple_iterator_next
abbrev aCo:= @PySem.Heap.get?_update_self
abbrev aCp:= @PySem.F.slot_enumerate_next
abbrev aCq:= @decide_eq_false
abbrev aCr:= @PySem.wpAny_passesOwn
abbrev aCs:= @Nat.le_of_lt
abbrev aCt:= @PySem.wpAny_storeSet_of
abbrev aCu:= @List.mem_of_mem_take
abbrev aCv:= @PySem.wpAny_standAt
abbrev aCw:= @PySem.Heap.size_push
abbrev aCx:= @PySem.Calls.spliced_cons
abbrev aCy:= @PySem.wpAny_Call_Name_kw
abbrev aCz:= @PySem.Calls.callWith_builtin
abbrev aD0:= @List.pairwise_lt_range
abbrev aD1:= @Int.emod_nonneg
abbrev aD2:= @PySem.W.Looks.of_pure
abbrev aD3:= @PySem.wpAny_truthy_bool
abbrev aD4:= @PySem.wpAny_pyIter_slot
abbrev aD5:= @List.ext_getElem?
abbrev aD6:= @List.mem_iff_getElem
abbrev aD7:= @PySem.wpAny_fieldsOf
abbrev aD8:= @PySem.wpAny_newTuple
abbrev aD9:= @List.perm_ext_iff_of_nodup
abbrev aDa:= @List.getElem?_of_mem
abbrev aDb:= @PySem.wpAny_askSetting
abbrev aDc:= @List.findIdx?_eq_none_iff
abbrev aDd:= @PySem.Calls.call_function_entry
abbrev aDe:= @PySem.F.args_tuple_add_2
abbrev aDf:= @List.mem_of_mem_eraseIdx
abbrev aDg:= @PySem.F.slot_zip_next
abbrev aDh:= @Nat.lt_or_eq_of_le
abbrev aDi:= @PySem.F.entry_tuple_add
abbrev aDj:= @PySem.F.plainAttrs_dict
abbrev aDk:= @List.findIdx?_eq_some_iff_getElem
abbrev aDl:= @PySem.F.slot_tuple_add
abbrev aDm:= @PySem.wpAny_typeOf
abbrev aDn:= @PyProof.Rows.wpS_forRange
abbrev aDo:= @PySem.F.slot_dict_get
abbrev aDp:= @Nat.le_of_not_lt
abbrev aDq:= @beq_iff_eq
abbrev aDr:= @PySem.F.slot_tuple_mul
abbrev aDs:= @List.mem_append_left
abbrev aDt:= @PySem.Calls.evalArgs_plain
abbrev aDu:= @PySem.wpAny_execs_nil
abbrev aDv:= @List.nodup_cons
abbrev aDw:= @PySem.wpAny_updateSeq
abbrev aDx:= @PySem.F.slot_dict_setdefault
abbrev aDy:= @beq_eq_false_iff_ne
abbrev aDz:= @List.map_congr_left
abbrev aE0:= @Nat.lt_trans
abbrev aE1:= @PySem.call_meets
abbrev aE2:= @PySem.wpAny_setField
abbrev aE3:= @PySem.wpAny_pyIter_tuple
abbrev aE4:= @List.map_inj_right
abbrev aE5:= @PySem.F.args_tuple_mul_2
abbrev aE6:= @List.take_sublist
abbrev aE7:= @PySem.wpAny_of_eq
abbrev aE8:= @PySem.wpAny_newList
abbrev aE9:= @PySem.W.mg_of
abbrev aEa:= @List.getElem_mem
abbrev aEb:= @List.nodup_range
abbrev aEc:= @Nat.succ.inj
abbrev aEe:=PySem.Value->PySem.Shared->Prop
abbrev aEf:=PyProof.Rows.Keyed->PyProof.Rows.Keyed->Bool
abbrev aEg:=PySem.Str->Option PySem.Value
abbrev aEh:=Array PyProof.Rows.Keyed
namespace L2
open PySem PySem.Spec PyProof.Rows
abbrev Key:=Sum Int Str
def tB:Key->Value->Bool
 | .inl k,v=>Value.isInt k v
 | .inr x,v=>Value.isStrOf x v
def aAf(w:World):Key->Int
 | .inl k=>hashInt k
 | .inr x=>hashStr w x
theorem bJ:∀{k:Key} {v:Value},tB k v=true->(∃i t,k=Sum.inl i/\v=Value.int i t)\/(∃x t,k=Sum.inr x/\v=Value.str x t)
 | .inl i,v,h=>by
  obtain⟨t,e⟩:=Value.isInt_shape (k:=i) (v:=v) h;exact .inl ⟨i,t,rfl,e⟩
 | .inr x,v,h=>by
  obtain⟨t,e⟩:=Value.isStrOf_shape (x:=x) (v:=v) h;exact .inr ⟨x,t,rfl,e⟩
theorem D4(i:Int)(t:Tok):tB (.inl i) (.int i t)=true:=by simp[tB,Value.isInt]
theorem D2(x:Str)(t:Tok):tB (.inr x) (.str x t)=true:=by simp[tB,Value.isStrOf]
theorem SN(a b:Int):decide ((Sum.inl a:Key)=Sum.inl b)=(a==b):=by
 by_cases e:a=b
 ·subst e;simp
 ·have h:¬(Sum.inl a:Key)=Sum.inl b:=λq=>e (Sum.inl.inj q);rw[decide_eq_false h];exact(aDy.mpr e).symm
theorem SJ(a b:Str):decide ((Sum.inr a:Key)=Sum.inr b)=decide (a=b):=by
 by_cases e:a=b
 ·subst e;simp
 ·have h:¬(Sum.inr a:Key)=Sum.inr b:=λq=>e (Sum.inr.inj q);rw[decide_eq_false h,decide_eq_false e]
theorem SM(a:Int)(b:Str):decide ((Sum.inl a:Key)=Sum.inr b)=false:=aCq (λq=>nomatch q)
theorem SK(a:Str)(b:Int):decide ((Sum.inr a:Key)=Sum.inl b)=false:=aCq (λq=>nomatch q)
def aP(prog:Program)(w:World):PySem.KeyKind prog w Key where
 is:=tB
 hash:=aAf w
 inj:=λv a b f d=>by
  rcases bJ f with ⟨i,t,rfl,rfl⟩ | ⟨x,t,rfl,rfl⟩
  ·rcases bJ d with ⟨j,u,rfl,e⟩ | ⟨y,u,rfl,e⟩
   ·injection e with c _;rw[c]
   ·exact nomatch e
  ·rcases bJ d with ⟨j,u,rfl,e⟩ | ⟨y,u,rfl,e⟩
   ·exact nomatch e
   ·injection e with c _;rw[c]
 byValue:=λk v h=>by
  rcases bJ h with ⟨i,t,rfl,rfl⟩ | ⟨x,t,rfl,rfl⟩ <;> rfl
 pyHash:=λhv h=>by
  rcases bJ hv with ⟨i,t,rfl,rfl⟩ | ⟨x,t,rfl,rfl⟩
  ·exact wpAny_pyHash_int h
  ·exact wpAny_pyHash_str h
 eqBool:=λg hv h=>by
  rcases bJ g with ⟨i,t,rfl,rfl⟩ | ⟨x,t,rfl,rfl⟩
  ·rcases bJ hv with ⟨j,u,rfl,rfl⟩ | ⟨y,u,rfl,rfl⟩
   ·rw[SN]at h;exact wpAny_eqBool_int h
   ·rw[SM]at h;exact SeqAt.EqAt.int_str i t y u _ _ _ _ h
  ·rcases bJ hv with ⟨j,u,rfl,rfl⟩ | ⟨y,u,rfl,rfl⟩
   ·rw[SK]at h;exact SeqAt.EqAt.str_int x t j u _ _ _ _ h
   ·rw[SJ]at h;exact wpAny_eqBool_str h
 «strs»:=λk x t v h=>by
  rcases bJ h with ⟨i,u,rfl,e⟩ | ⟨y,u,rfl,e⟩
  ·exact nomatch e
  ·injection e with c _;subst c;cases v <;> rfl
theorem xW(prog:Program)(w:World)(i:Int)(t:Tok):(aP prog w).is (.inl i) (.int i t)=true:=D4 i t
theorem xV(prog:Program)(w:World)(x:Str)(t:Tok):(aP prog w).is (.inr x) (.str x t)=true:=D2 x t
inductive V where
 | bF | bl (b:Bool) | int (i:Int) | str (x:Str) | byt (b:Array UInt8) | flt (b:UInt64) | ref (a:Addr) | ty (n:String)
 deriving DecidableEq
def RelV:V->Value->Prop
 | .bF,u=>u=Value.none
 | .bl b,u=>u=Value.bool b
 | .int i,u=>∃t,u=Value.int i t
 | .str x,u=>∃t,u=Value.str x t
 | .byt b,u=>∃t,u=Value.bytes b t
 | .flt b,u=>∃t,u=Value.float b t
 | .ref a,u=>u=Value.ref a
 | .ty n,u=>u=Value.type n
abbrev Vals:List V->List Value->Prop:=Paired RelV
variable{us:List Value}
theorem Vals.length{xs:List V}(r:Vals xs us):xs.length=us.length:=Paired.length r
theorem Vals.get:∀{xs:List V} {us:List Value} {i:Nat} {x:V},Vals xs us->xs[i]? =some x->∃u,us[i]? =some u/\RelV x u
 | _,_,_,_,.nil,e=>by simp at e
 | _,_,0,_,.cons r _,e=>by simp at e;subst e;exact⟨_,rfl,r⟩
 | _,_,i+1,x,.cons _ t,e=>by
  obtain⟨u,a,b⟩:=Vals.get (i:=i) (x:=x) t (by simpa using e);exact⟨u,by simpa using a,b⟩
theorem Vals.set{x:V}{u:Value}(r:RelV x u):∀{xs:List V} {us:List Value} (i:Nat),Vals xs us->Vals (xs.set i x) (us.set i u)
 | _,_,_,.nil=>.nil
 | _,_,0,.cons _ t=>.cons r t
 | _,_,i+1,.cons q t=>.cons q (Vals.set r i t)
theorem Vals.append:∀{xs a:List V} {us b:List Value},Vals xs us->Vals a b->Vals (xs++a) (us++b)
 | _,_,_,_,.nil,s=>s
 | _,_,_,_,.cons r t,s=>.cons r (Vals.append t s)
theorem Vals.take:∀{xs:List V} {us:List Value} (n:Nat),Vals xs us->Vals (xs.take n) (us.take n)
 | _,_,0,_=>.nil
 | _,_,_+1,.nil=>.nil
 | _,_,n+1,.cons r t=>.cons r (Vals.take n t)
theorem Vals.drop:∀{xs:List V} {us:List Value} (n:Nat),Vals xs us->Vals (xs.drop n) (us.drop n)
 | _,_,0,r=>r
 | _,_,_+1,.nil=>.nil
 | _,_,n+1,.cons _ t=>Vals.drop n t
def pH:Option V->Option Value->Prop
 | some v,some u=>RelV v u
 | none,none=>True
 | _,_=>False
def KV{κ:Type}:List (κ×V)->List (κ×Value)->Prop:=Paired λ(p:κ×V) (q:κ×Value)=>p.1=q.1/\RelV p.2 q.2
def kV:Key->V
 | .inl i=>.int i
 | .inr x=>.str x
inductive HO where
 | lst (xs:List V)
 | tup (xs:List V)
 | dK (kvs:List (Key×V)) | dT (kvs:List (List Key×V))
 | set (S:Int->Bool) (n:Nat)
 | ins (C dx:Addr) (fs:List (Str×V))
 | own (x:Addr)
 | xd (fs:List (Str×V))
 | met (f x:Addr)
 | rng (lo hi:Int)
 | frz (o:Obj) (u:HO)
 | tbl (ps:Array Value)
 | ext (φ:World->Heap->Prop)
abbrev Hp:=Addr->Option HO
def upd(H:Hp)(a:Addr)(o:HO):Hp:=λb=>if b=a then some o else H b
variable{H:Hp}{a:Addr}{o:HO}
theorem aQ:upd H a o a=some o:=by unfold upd;rw[if_pos rfl]
variable{b:Addr}
theorem aN(h:b≠a):upd H a o b=H b:=by unfold upd;rw[if_neg h]
theorem JY{o u:HO}:upd (upd H a o) a u=upd H a u:=by
 funext b;unfold upd;split <;> rfl
theorem WC{o u:HO}(h:H a=some o)(h' :H b=some u)(d:o≠u):a≠b:=by
 intro e;subst e;rw[h]at h';exact d (aBl h')
theorem bH(h:H a=some o)(h' :H b=none):a≠b:=by
 intro e;subst e;rw[h]at h';cases h'
theorem qB(h:Heap)(a:Array Value):∀o,(h.push {cls:= .type "tuple",data:= .seq a}).get? h.objs.size=some o->o.dict=none:=λo e=>by rw[Heap.get?_push_size _ rfl]at e;cases e;rfl
section
variable (P:Program)(w:World)
def bO(H:Hp)(h:Heap)(a:Addr):HO->Prop
 | .lst xs=>xs.length<=sizeLine/\∃(aH:List Value) (n:Nat),Vals xs aH/\h.get? a=some {cls:= .type "list",data:= .seq aH.toArray n}
 | .tup xs=>xs.length<=sizeLine/\∃aH:List Value,Vals xs aH/\IsTup h a aH.toArray/\∀o,h.get? a=some o->o.dict=none
 | .dK kvs=>kvs.length<=sizeLine/\(a==sysModules)=false/\∃vs,KV kvs vs/\h.DictOf (aP P w) a vs
 | .dT kvs=>kvs.length<=sizeLine/\(a==sysModules)=false/\∃xs:List (List Key×Addr×Value),
   Paired (λ(p:List Key×V) (q:List Key×Addr×Value)=>p.1=q.1/\H q.2.1=some (.tup (p.1.map kV))/\RelV p.2 q.2.2) kvs xs/\
   ∃o es ep,h.get? a=some o/\o.ExactDict/\o.data= .dict es ep/\es.toList=xs.map (entryOfKey (tupleKind (aP P w)))/\(xs.map (·.1)).Nodup
 | .set S n=>h.SetOf (intKind P w) a S n
 | .ins C dx fs=>H dx=some (.own a)/\fs.length<=1000/\dx≠a/\h.get? a=some (PySem.W.instObj C dx)/\
   ∃b,h.Ns1 dx b/\(∀f,pH (fs.lookup f) (b f))/\PySem.Within b (fs.map (·.1))
 | .own _=>∃o,h.get? a=some o
 | .xd fs=>∃b,h.Ns1 a b/\∀f,pH (fs.lookup f) (b f)
 | .rng lo hi=>∃t u v,h.get? a=some {cls:= .type "range",data:= .fields #[.int lo t,.int hi u,.int 1 v]}
 | .frz o u=>h.get? a=some o/\bO H h a u
 | .tbl ps=>h.get? a=some {cls:= .none,data:= .fields ps}
 | .met f x=>h.get? a=some (PySem.W.methodObj (.ref f) (.ref x))
 | .ext φ=>φ w h/\(∃o,h.get? a=some o)/\∀c d:Heap,φ w c->(∀o,c.get? a=some o->d.get? a=some o)->φ w d
def nT(H:Hp)(h:Heap):Prop:=∀a o,H a=some o->bO P w H h a o
end
section
variable {P:Program}{w:World}{H H' :Hp}{h h' :Heap}{a:Addr}{o:HO}
theorem bO.lt(x:bO P w H h a o):a<h.objs.size:=by
 cases o with
 | lst xs=>obtain⟨_,_,_,_,e⟩:=x;exact aB5 e
 | tup xs=>obtain⟨_,_,_,p,_⟩:=x;exact p.lt
 | dK kvs=>obtain⟨_,_,_,_,o,_,_,e,_⟩:=x;exact aB5 e
 | dT kvs=>obtain⟨_,_,_,_,o,_,_,e,_⟩:=x;exact aB5 e
 | set S n=>obtain⟨o,_,_,_,e,_⟩:=x;exact aB5 e
 | ins C dx fs=>obtain⟨_,_,_,e,_⟩:=x;exact aB5 e
 | own y=>obtain⟨_,e⟩:=x;exact aB5 e
 | xd fs=>obtain⟨_,⟨_,_,_,e,_⟩,_⟩:=x;exact aB5 e
 | rng lo hi=>obtain⟨_,_,_,e⟩:=x;exact aB5 e
 | frz ob u=>obtain⟨e,_⟩:=x;exact aB5 e
 | tbl ps=>exact aB5 (show h.get? a=some _ from x)
 | met f y=>exact aB5 (show h.get? a=some _ from x)
 | ext φ=>obtain⟨_,⟨_,e⟩,_⟩:=x;exact aB5 e
theorem Paired.RE{α e:Type}{F G:α->e->Prop}:∀{c:List α} {d:List e},Paired F c d->(∀a b,F a b->G a b)->Paired G c d
 | _,_,.nil,_=>.nil
 | _,_,.cons r t,f=>.cons (f _ _ r) (Paired.RE t f)
theorem bO.xF(x:bO P w H h a o)(k:∀b u,(b=a\/H b=some (.own a))->h.get? b=some u->h'.get? b=some u)
  (ho:∀b,H b=some (.own a)->H' b=some (.own a)) (ht:∀b xs,H b=some (.tup xs)->H' b=some (.tup xs)):bO P w H' h' a o:=by
 induction o with
 | lst xs=>obtain⟨z,aH,n,r,e⟩:=x;exact⟨z,aH,n,r,k _ _ (.inl rfl) e⟩
 | tup xs=>obtain⟨z,aH,r,⟨ob,e,c⟩,nd⟩:=x;exact⟨z,aH,r,⟨ob,k _ _ (.inl rfl) e,c⟩,λo' i =>by rw[k _ _ (.inl rfl) e]at i;cases i;exact nd _ e⟩
 | dK kvs=>obtain⟨z,y,vs,r,ob,es,ep,e,c⟩:=x;exact⟨z,y,vs,r,ob,es,ep,k _ _ (.inl rfl) e,c⟩
 | dT kvs=>
  obtain⟨z,y,xs,r,ob,es,ep,e,c⟩:=x;exact⟨z,y,xs,Paired.RE r λp q z=>⟨z.1,ht _ _ z.2.1,z.2.2⟩,ob,es,ep,k _ _ (.inl rfl) e,c⟩
 | set S n=>obtain⟨ob,es,ep,t,e,c⟩:=x;exact⟨ob,es,ep,t,k _ _ (.inl rfl) e,c⟩
 | ins C dx fs=>
  obtain⟨d,z,ne,e,g,⟨od,es,ep,j,c⟩,r⟩:=x;exact⟨ho _ d,z,ne,k _ _ (.inl rfl) e,g,⟨od,es,ep,k _ _ (.inr d) j,c⟩,r⟩
 | own y=>obtain⟨ob,e⟩:=x;exact⟨ob,k _ _ (.inl rfl) e⟩
 | xd fs=>obtain⟨g,⟨od,es,ep,e,c⟩,r⟩:=x;exact⟨g,⟨od,es,ep,k _ _ (.inl rfl) e,c⟩,r⟩
 | rng lo hi=>obtain⟨t,u,v,e⟩:=x;exact⟨t,u,v,k _ _ (.inl rfl) e⟩
 | frz ob u ih=>obtain⟨e,q⟩:=x;exact⟨k _ _ (.inl rfl) e,ih q⟩
 | tbl ps=>
  have e:h.get? a=some {cls:= .none,data:= .fields ps}:=x;show h'.get? a=some {cls:= .none,data:= .fields ps};exact k a _ (.inl rfl) e
 | met f y=>
  have e:h.get? a=some (PySem.W.methodObj (.ref f) (.ref y)):=x;show h'.get? a=some (PySem.W.methodObj (.ref f) (.ref y));exact k a _ (.inl rfl) e
 | ext φ=>obtain⟨p,⟨o,e⟩,st⟩:=x;exact⟨st _ _ p λo q=>k _ _ (.inl rfl) q,⟨o,k _ _ (.inl rfl) e⟩,st⟩
theorem nT.lt(x:nT P w H h)(e:H a=some o):a<h.objs.size:=(x a o e).lt
theorem nT.fresh(x:nT P w H h)(e:h.objs.size<=a):H a=none:=by
 cases q:H a with
 | none=>rfl
 | some u=>exact absurd (aBc (x.lt q) e) (aCj _)
theorem nT.kept(x:nT P w H h)(k:∀b u,h.get? b=some u->h'.get? b=some u):nT P w H h' :=λa o e=>
 (x a o e).xF (λb u _ q=>k b u q) (λ_ q=>q) λ_ _ q=>q
theorem nT.laid(x:nT P w H h)(k:∀b u,h.get? b=some u->h'.get? b=some u)(g:h.objs.size<=a)(new:bO P w (upd H a o) h' a o):nT P w (upd H a o) h' :=λb u e=>by
 have d:=x.fresh g;by_cases f:b=a
 ·subst f;rw[aQ]at e;cases e;exact new
 ·rw[aN f]at e;exact(x b u e).xF (λc v _ q=>k c v q) (λc q=>by rw[aN (bH q d)];exact q) λc xs q=>by rw[aN (bH q d)];exact q
end
def Rd(H:Hp)(a:Addr)(u:HO):Prop:=H a=some u\/∃o,H a=some (.frz o u)
variable{P:Program}{w:World}{h:Heap}
theorem Rd.ok{u:HO}(r:Rd H a u)(x:nT P w H h):bO P w H h a u:=by
 rcases r with r | ⟨o,r⟩
 ·exact x a u r
 ·obtain⟨_,q⟩:=x a _ r;exact q
def A9:Option HO->Prop
 | some (.lst _)=>True
 | some (.dK _)=>True
 | some (.dT _)=>True
 | some (.set _ _)=>True
 | some (.ins _ _ _)=>True
 | some (.ext _)=>True
 | _=>False
section
variable {P:Program}{w:World}{H:Hp}{h h' :Heap}{x e:Addr}{o' :HO}
theorem nT.write(ok:nT P w H h)(g:A9 (H x))(he:e=x\/H e=some (.own x))(k:∀b u,b≠e->h.get? b=some u->h'.get? b=some u)(j:∃u,h'.get? e=some u)
  (new:bO P w (upd H x o') h' x o'):nT P w (upd H x o') h' :=λb u q=>by
 have d:∀c y,H c=some (.own y)->c≠x:=λc y r z=>by subst z;rw[r]at g;exact g
 have f:∀c xs,H c=some (.tup xs)->c≠x:=λc xs r z=>by subst z;rw[r]at g;exact g
 by_cases i:b=x
 ·subst i;rw[aQ]at q;cases q;exact new
 ·rw[aN i]at q;by_cases a:b=e
  ·have q' :H b=some (.own x):=by
    rcases he with z | z
    ·exact absurd (a.trans z) i
    ·rw[a];exact z
   rw[q]at q';cases q';obtain⟨v,hv⟩:=j;exact⟨v,by rw[a];exact hv⟩
  ·refine(ok b u q).xF (λc v hc r=>k c v ?_ r) (λc r=>by rw[aN (d c b r)];exact r) λc xs r=>by rw[aN (f c xs r)];exact r
   rcases hc with rfl | hc
   ·exact a
   ·rintro rfl;rcases he with z | z
    ·exact d c b hc z
    ·rw[hc]at z;cases z;exact i rfl
end
structure Un(fs ex:List Addr)(H H' :Hp)(h h' :Heap):Prop where
 keep:∀b o,h.get? b=some o->H b=none->b∉fs->b∉ex->h'.get? b=some o
 slot:∀b o,h.get? b=some o->H b=none->b∈fs->b∉ex->∃sl,h'.get? b=some {o with slots:=sl}
 free:∀b o,h.get? b=some o->H b=none->b∉ex->H' b=none
 there:∀b o,h.get? b=some o->b∉ex->∃o',h'.get? b=some o'
 wZ:∀b xs,H b=some (.tup xs)->H' b=some (.tup xs)
 vK:∀b o u,H b=some (.frz o u)->H' b=some (.frz o u)
 xB:∀b ps,H b=some (.tbl ps)->∃more,H' b=some (.tbl (ps++more))
section
variable {fs fs' ex ex' :List Addr}{H H1 H2:Hp}{h h1 h2 h' :Heap}{a x e:Addr}{o:HO}
theorem Un.any(u:Un fs ex H H1 h h1){ob:Obj}(q:h.get? b=some ob)(n:H b=none)(a:b∉ex):∃sl,h1.get? b=some {ob with slots:=sl}:=by
 by_cases c:b∈fs
 ·exact u.slot b ob q n c a
 ·exact⟨ob.slots,u.keep b ob q n c a⟩
theorem Un.kept(k:∀b u,h.get? b=some u->h'.get? b=some u):Un fs ex H H h h' :=
 ⟨λb ob q _ _ _=>k b ob q,λb ob q _ _ _=>⟨ob.slots,k b ob q⟩,λ_ _ _ n _=>n,λb ob q _=>⟨ob,k b ob q⟩,λ_ _ q=>q,λ_ _ _ q=>q,λ_ ps q=>⟨#[],by rw[q];simp⟩⟩
theorem Un.refl:Un fs ex H H h h:=Un.kept λ_ _ q=>q
theorem Un.laid(k:∀b u,h.get? b=some u->h'.get? b=some u)(d:h.objs.size<=a)(c:H a=none):Un fs ex H (upd H a o) h h' where
 keep:=λb u q _ _ _=>k b u q
 slot:=λb u q _ _ _=>⟨u.slots,k b u q⟩
 free:=λb u q n _=>by rw[aN (Nat.ne_of_lt (Nat.lt_of_lt_of_le (Heap.lt_size q) d))];exact n
 there:=λb u q _=>⟨u,k b u q⟩
 wZ:=λb xs q=>by rw[aN (bH q c)];exact q
 vK:=λb u xs q=>by rw[aN (bH q c)];exact q
 xB:=λb ps q=>⟨#[],by rw[aN (bH q c),q];simp⟩
theorem Un.write(c:A9 (H x))(he:e=x\/H e=some (.own x))(k:∀b u,b≠e->h.get? b=some u->h'.get? b=some u)(d:∃u,h'.get? e=some u):Un fs ex H (upd H x o) h h' :=by
 have g:∀b,H b=none->b≠x:=λb n z=>by subst z;rw[n]at c;exact c
 have i:∀b,H b=none->b≠e:=λb n z=>by
  subst z;rcases he with r | r
  ·exact g b n r
  ·rw[n]at r;cases r
 have f:∀b u,H b=some u->¬A9 (some u)->b≠x:=λb u q j z=>by subst z;rw[q]at c;exact j c
 refine⟨λb u q n _ _=>k b u (i b n) q,λb u q n _ _=>⟨u.slots,k b u (i b n) q⟩,λb u q n _=>by rw[aN (g b n)];exact n,λb u q _=>?_,
  λb xs q=>by rw[aN (f b _ q λz=>z)];exact q,λb u xs q=>by rw[aN (f b _ q λz=>z)];exact q,λb ps q=>⟨#[],by rw[aN (f b _ q λz=>z),q];simp⟩⟩
 by_cases a:b=e
 ·subst a;exact d
 ·exact⟨u,k b u a q⟩
end
def X3(h:Heap)(H:Hp):List Addr:=(List.range h.objs.size).filter λa=>(H a).isSome
def vF(h:Heap)(H:Hp):Heap:=PySem.W.hideAll h (X3 h H)
theorem D6(h:Heap)(H:Hp):(vF h H).objs.size=h.objs.size:=PySem.W.hideAll_size _ _
variable{o:Obj}
theorem HS(e:h.get? b=some o)(n:H b=none):(vF h H).get? b=some o:=
 PySem.W.hideAll_get _ e λa=>by
  have q:(H b).isSome=true:=(List.mem_filter.mp a).2;rw[n]at q;simp at q
theorem LH(e:(vF h H).get? b=some o):h.get? b=some o/\H b=none:=by
 have a :h.get? b=some o:=PySem.W.of_hideAll (X3 h H) e;refine⟨a,?_⟩
 cases q:H b with
 | none=>rfl
 | some x=>
  have c:b∈X3 h H:=List.mem_filter.mpr ⟨List.mem_range.mpr (aB5 a),by simp[q]⟩;have z:(vF h H).get? b=none:=PySem.W.hideAll_none (X3 h H) c;rw[z]at e;cases e
structure Mod(K:aEd)(mg:aEg)(base:Heap):Prop where
 kin:K.In base
 glob:base.Ns mainGlobals mg
 blt:∃mb,base.Ns builtinsNs mb/\∀x:Str,x≠ "__name__"->mb x=bootBuiltins x
 nolimit:base.NoLimit
structure Cx where
 prog:Program
 w:World
 K:aEd
 mg:aEg
 base:Heap
 A:Around
 N:List Str
 s₀:Shared
 H₀:Hp
 env:Env
 outer:List Env
 stack:List Env
 ex:List Addr
 fn:Str->Bool
 calm:Bool
 pn:List (Addr×Obj)
 xe:aEe
def IA(l:List Env):List Addr:=l.filterMap (·.frame)
abbrev Cx.fs(X:Cx):List Addr:=IA X.outer
def YN(sc:Scope)(x:Str):Prop:=sc.names.lookup x=some .local\/sc.names.lookup x=some .cell\/sc.names.lookup x=some .free
def Loc(sc:Scope)(x:Str):Prop:=sc.names.lookup x=some .local\/sc.names.lookup x=some .cell
def Look(env:Env)(h:Heap)(m:aEg)(x:Str)(u:Value):Prop:=
 (env.kindOf x=some .local/\m x=some u)\/((env.kindOf x=some .cell\/env.kindOf x=some .free)/\∃c,env.cells.lookup x=some c/\h.IsCell c (some u))
structure Cx.Ok(X:Cx):Prop where
 mod:Mod X.K X.mg X.base
 kind:X.env.scope.kind= .function
 glob:X.env.globals=mainGlobals
 blt:X.env.builtins=builtinsNs
 above:X.s₀.heap.objs.size<=X.env.locals
 inj:∀x y c,X.env.cells.lookup x=some c->X.env.cells.lookup y=some c->x=y
 has:∀x,(X.env.kindOf x=some .cell\/X.env.kindOf x=some .free)->∃c,X.env.cells.lookup x=some c
 XO:∀x c,X.fn x=true->X.env.cells.lookup x=some c->X.s₀.heap.objs.size<=c
 hd:X.calm=true->X.A.handled=none
 frames:X.A.frames=some X.stack
 X6:X.stack=X.outer\/(X.stack=X.env::X.outer/\X.env.frame=some X.env.locals)
 YH:∀b∈X.ex,b≠X.env.locals/\∀x c,X.env.cells.lookup x=some c->c≠b
 bs:∀b o,X.base.get? b=some o->X.s₀.heap.get? b=some o/\X.H₀ b=none
 NM:X.base.objs.size<=X.s₀.heap.objs.size
 GL:∀b o,X.base.get? b=some o->b∉X.ex
 IG:∀b∈X.ex,b∉X.fs
 qZ:X.s₀.heap.FunFrames X.base X.outer
 UJ:∀b∈X.fs,X.H₀ b=none
structure Inv(X:Cx)(pins:List (Addr×Obj))(σ:List (Option V))(H:Hp)(s:Shared):Prop where
 ok:X.Ok
 os:s.os=X.s₀.os
 bare:AllBare s.gens
 base:Un X.fs X.ex X.H₀ H X.s₀.heap s.heap
 loc:∃m,s.heap.Ns X.env.locals m/\∀(i:Nat) (x:Str) (v:V),X.N[i]? =some x->σ[i]? =some (some v)->YN X.env.scope x->∃u,RelV v u/\Look X.env s.heap m x u
 cell:∀x c,X.env.cells.lookup x=some c->∃v,s.heap.IsCell c v
 free:H X.env.locals=none
 jU:∀x c,X.env.cells.lookup x=some c->H c=none
 pin:∀p∈X.pn++pins,s.heap.get? p.1=some p.2/\H p.1=none/\p.1≠X.env.locals/\p.1∉X.fs/\∀v,p.2.data≠ .cell v
 bD:nT X.prog X.w H s.heap
 len:σ.length=X.N.length
section
variable {X:Cx}{pins:List (Addr×Obj)}{σ:List (Option V)}{H H' :Hp}{s:Shared}{h' :Heap}
theorem Cx.Ok.aA5(ok:X.Ok)(e:X.base.get? b=some o):b∉X.fs:=λa=>by
 have:=(ok.qZ.mem a).1;rw[e]at this;cases this
theorem Inv.bs(I:Inv X pins σ H s):∀b o,X.base.get? b=some o->s.heap.get? b=some o/\H b=none:=λb o e=>
 ⟨I.base.keep b o (I.ok.bs b o e).1 (I.ok.bs b o e).2 (I.ok.aA5 e) (I.ok.GL b o e),I.base.free b o (I.ok.bs b o e).1 (I.ok.bs b o e).2 (I.ok.GL b o e)⟩
theorem Inv.bk(I:Inv X pins σ H s):∀b o,X.base.get? b=some o->s.heap.get? b=some o:=λb o e=>(I.bs b o e).1
theorem Inv.mod(I:Inv X pins σ H s):Mod X.K X.mg X.base:=I.ok.mod
theorem Inv.OO(I:Inv X pins σ H s):X.K.In s.heap:=I.ok.mod.kin.keeps I.bk
theorem Inv.fr(I:Inv X pins σ H s):∃m,Fr X.base X.env.locals s.heap m:=
 let ⟨m,hn,_⟩:=I.loc
 ⟨m,hn,I.bk,aBq I.ok.NM I.ok.above⟩
theorem Inv.lt(I:Inv X pins σ H s):X.env.locals<s.heap.objs.size:=let ⟨_,hn,_⟩:=I.loc;hn.lt
theorem Inv.sz(I:Inv X pins σ H s):X.s₀.heap.objs.size<=s.heap.objs.size:=aBq I.ok.above (aCs I.lt)
theorem Inv.aA4(I:Inv X pins σ H s)(h:s.heap.objs.size<=a):a∉X.fs:=λb=>by
 obtain⟨_,o,ho,_⟩:=I.ok.qZ.mem b;exact absurd (aBc (aB5 ho) (aBq I.sz h)) (aCj _)
theorem Inv.TU(I:Inv X pins σ H s):∀x c,X.env.cells.lookup x=some c->c≠X.env.locals:=λx c e z=>by
 obtain⟨v,o,ho,hd⟩:=I.cell x c e;obtain⟨m,⟨o',es,ep,a,b,_⟩,_⟩:=I.loc;rw[z,a]at ho;cases ho;rw[b]at hd;cases hd
theorem Inv.qZ(I:Inv X pins σ H s):s.heap.FunFrames X.base X.outer:=by
 have all:∀(l:List Env),(∀b∈IA l,b∈X.fs)->X.s₀.heap.FunFrames X.base l->s.heap.FunFrames X.base l:=by
  intro l
  induction l with
  | nil=>intro _ _;trivial
  | cons env r ih=>
   intro hs f;obtain⟨hk,⟨L,o,a,g,ho,hd⟩,h⟩:=f;have c:L∈X.fs:=hs L (by unfold IA;rw[List.filterMap_cons,a];exact aB6);obtain⟨sl,e⟩:=I.base.slot L o ho (I.ok.UJ L c) c λz=>I.ok.IG L z c;exact⟨hk,⟨L,_,a,g,e,hd⟩,ih (λb d=>hs b (by unfold IA;rw[List.filterMap_cons,a];exact aB7 _ d)) h⟩
 exact all X.outer (λ_ d=>d) I.ok.qZ
theorem Inv.stack(I:Inv X pins σ H s):s.heap.FunFrames X.base X.stack:=by
 rcases I.ok.X6 with e | ⟨e,a⟩
 ·rw[e];exact I.qZ
 ·rw[e];obtain⟨m,b,_⟩:=I.loc;refine .cons (by rw[I.ok.kind];decide) a b ?_ I.qZ;exact Heap.get?_none_of_le (aBq I.ok.NM I.ok.above)
theorem Inv.zP(I:Inv X pins σ H s):∀b∈IA X.stack,b∈X.env.locals::X.fs:=λb a=>by
 rcases I.ok.X6 with e | ⟨e,c⟩
 ·rw[e]at a;exact aB7 _ a
 ·rw[e]at a;unfold IA at a;rw[List.filterMap_cons,c]at a;exact a
theorem Inv.BS(I:Inv X pins σ H s):∀b∈IA X.stack,H b=none:=λb hb=>by
 rcases aBa.mp (I.zP b hb) with e | hb
 ·rw[e];exact I.free
 ·obtain⟨_,o,ho,_⟩:=I.ok.qZ.mem hb;exact I.base.free b o ho (I.ok.UJ b hb) λz=>I.ok.IG b z hb
variable{g':Array GenState}{t':Nat}{ch:List Addr}
theorem Inv.step{d' :Drawn}(I:Inv X pins σ H s)
  (f:∀b∈ch,(b∈X.ex\/X.s₀.heap.objs.size<=b)/\b≠X.env.locals/\(∀x c,X.env.cells.lookup x=some c->c≠b)/\∀p∈X.pn++pins,p.1≠b)
  (keep:∀b o,b≠X.env.locals->b∉X.fs->b∉ch->s.heap.get? b=some o->H b=none->h'.get? b=some o)
  (slot:∀b o,b≠X.env.locals->b∈X.fs->b∉ch->s.heap.get? b=some o->H b=none->∃sl,h'.get? b=some {o with slots:=sl}) (free:∀b o,b∉ch->s.heap.get? b=some o->H b=none->H' b=none)
  (there:∀b o,b∉ch->s.heap.get? b=some o->∃o',h'.get? b=some o')
  (wZ:∀b xs,H b=some (.tup xs)->H' b=some (.tup xs)) (vK:∀b o u,H b=some (.frz o u)->H' b=some (.frz o u)) (xB:∀b ps,H b=some (.tbl ps)->∃more,H' b=some (.tbl (ps++more)))
  (ns:∀m,s.heap.Ns X.env.locals m->h'.Ns X.env.locals m) (bD:nT X.prog X.w H' h') (hg:AllBare g'):
  Inv X pins σ H' {s with heap:=h',gens:=g',drawn:=d',toks:=t'}:=by
 have A:∀b o,X.s₀.heap.get? b=some o->b≠X.env.locals:=λb o e=>aB9 (aBc (aB5 e) I.ok.above)
 have j:∀b o,X.s₀.heap.get? b=some o->b∉X.ex->b∉ch:=λb o e a y=>by
  rcases(f b y).1 with z | z
  ·exact a z
  ·exact absurd (aBc (aB5 e) z) (aCj _)
 have g:∀x c,X.env.cells.lookup x=some c->∀v,s.heap.IsCell c v->h'.IsCell c v:=λx c e v C=>by
  obtain⟨o,ho,hd⟩:=C;have h:c∉ch:=λz=>(f c z).2.2.1 x c e rfl;by_cases E:c∈X.fs
  ·obtain⟨sl,q⟩:=slot c o (I.TU x c e) E h ho (I.jU x c e);exact⟨_,q,hd⟩
  ·exact⟨o,keep c o (I.TU x c e) E h ho (I.jU x c e),hd⟩
 refine⟨I.ok,I.os,hg,⟨λb o e n y a=>?_,λb o e n y a=>?_,λb o e n a=>?_,λb o e a=>?_,λb xs e=>wZ b xs (I.base.wZ b xs e),λb o xs e=>vK b o xs (I.base.vK b o xs e),λb ps e=>?_⟩,?_,λx c e=>?_,?_,λx c e=>?_,λp F=>?_,bD,I.len⟩
 ·exact keep b o (A b o e) y (j b o e a) (I.base.keep b o e n y a) (I.base.free b o e n a)
 ·obtain⟨sl,t⟩:=I.base.slot b o e n y a;obtain⟨D,B⟩:=slot b _ (A b o e) y (j b o e a) t (I.base.free b o e n a);exact⟨D,B⟩
 ·obtain⟨o',t⟩:=I.base.there b o e a;exact free b o' (j b o e a) t (I.base.free b o e n a)
 ·obtain⟨o',t⟩:=I.base.there b o e a;exact there b o' (j b o e a) t
 ·obtain⟨m1,t⟩:=I.base.xB b ps e;obtain⟨J,B⟩:=xB b _ t;exact⟨m1++J,by rw[B,Array.append_assoc]⟩
 ·obtain⟨m,K,L⟩:=I.loc;refine⟨m,ns m K,λi x v t B M=>?_⟩;obtain⟨u,r,l⟩:=L i x v t B M;refine⟨u,r,?_⟩;rcases l with l | ⟨k,c,e,z⟩
  ·exact .inl l
  ·exact .inr ⟨k,c,e,g x c e _ z⟩
 ·obtain⟨v,z⟩:=I.cell x c e;exact⟨v,g x c e v z⟩
 ·obtain⟨m,⟨o,_,_,ho,_⟩,_⟩:=I.loc;exact free _ o (λz=>(f _ z).2.1 rfl) ho I.free
 ·obtain⟨v,o,ho,hd⟩:=I.cell x c e;exact free c o (λz=>(f c z).2.2.1 x c e rfl) ho (I.jU x c e)
 ·obtain⟨e,n,ne,G,d⟩:=I.pin p F;have h:p.1∉ch:=λz=>(f p.1 z).2.2.2 p F rfl;exact⟨keep p.1 p.2 ne G h e n,free p.1 p.2 h e n,ne,G,d⟩
theorem Inv.un(I:Inv X pins σ H s)(u:Un X.fs [] H H' s.heap h')(bD:nT X.prog X.w H' h'):Inv X pins σ H' {s with heap:=h',toks:=t'}:=by
 obtain⟨m,⟨o,es,ep,ho,r⟩,_⟩:=id I.loc;obtain⟨sl,g⟩:=u.any ho I.free (by simp)
 exact I.step (g' :=s.gens) (d' :=s.drawn) (ch:=[]) (λ_ z=>nomatch z) (λb o _ c _ e n=>u.keep b o e n c (by simp)) (λb o _ c _ e n=>u.slot b o e n c (by simp)) (λb o _ e n=>u.free b o e n (by simp)) (λb o _ e=>u.there b o e (by simp)) u.wZ u.vK u.xB (λj h=>by
  obtain⟨o',d,f,a,i⟩:=h;rw[ho]at a;cases a
  exact⟨_,d,f,g,i⟩) bD I.bare
theorem Inv.call{d' :Drawn}(I:Inv X pins σ H s)(u:Un (IA X.stack) ch H H' s.heap h')(bD:nT X.prog X.w H' h')(hg:AllBare g')
  (d:∀b∈ch,(b∈X.ex\/X.s₀.heap.objs.size<=b)/\b≠X.env.locals/\(∀x c,X.env.cells.lookup x=some c->c≠b)/\∀p∈X.pn++pins,p.1≠b):
  Inv X pins σ H' {s with heap:=h',gens:=g',drawn:=d',toks:=t'}:=by
 obtain⟨m,⟨o,es,ep,ho,r⟩,_⟩:=id I.loc;obtain⟨sl,g⟩:=u.any ho I.free λz=>(d _ z).2.1 rfl
 exact I.step (ch:=ch) d (λb o g j a e n=>u.keep b o e n (λz=>(aBa.mp (I.zP b z)).elim g j) a) (λb o _ _ a e n=>u.any e n a) (λb o a e n=>u.free b o e n a) (λb o a e=>u.there b o e a) u.wZ u.vK u.xB (λq k=>by
  obtain⟨o',h,i,f,l⟩:=k;rw[ho]at f;cases f
  exact⟨_,h,i,g,l⟩) bD hg
theorem Inv.turned{it:Addr}(I:Inv X pins σ H s)(k:∀b o,b≠it->s.heap.get? b=some o->h'.get? b=some o)(g:H it=none)(f:it≠X.env.locals)
  (h:it∈X.ex\/X.s₀.heap.objs.size<=it) (i:∀x c,X.env.cells.lookup x=some c->c≠it) (j:∀p∈X.pn++pins,p.1≠it):Inv X pins σ H {s with heap:=h',toks:=t'}:=by
 have d:∀b u,H b=some u->b≠it:=λb u e z=>by rw[z,g]at e;cases e
 refine I.step (g' :=s.gens) (d' :=s.drawn) (ch:=[it]) (λb l=>?_) (λb o _ _ a e _=>k b o (λz=>a (by simp[z])) e) (λb o _ _ a e _=>⟨o.slots,k b o (λz=>a (by simp[z])) e⟩) (λ_ _ _ _ n=>n)
  (λb o a e=>⟨o,k b o (λz=>a (by simp[z])) e⟩) (λ_ _ e=>e) (λ_ _ _ e=>e) (λb ps e=>⟨#[],by rw[e];simp⟩) (λm t=>?_) (λb u e=>?_) I.bare
 ·have e:b=it:=by simpa using l
  subst e;exact⟨h,f,i,j⟩
 ·obtain⟨o,es,ep,ho,r⟩:=t;exact⟨o,es,ep,k _ o (aC1 f) ho,r⟩
 ·refine(I.bD b u e).xF (λc v a q=>k c v ?_ q) (λ_ q=>q) λ_ _ q=>q;rcases a with z | z
  ·rw[z];exact d b u e
  ·exact d c _ z
theorem Inv.tok(I:Inv X pins σ H s)(t:Nat):Inv X pins σ H {s with toks:=t}:=I.un (h' :=s.heap) (t' :=t) Un.refl I.bD
theorem Inv.kept(I:Inv X pins σ H s)(k:∀b u,s.heap.get? b=some u->h'.get? b=some u):Inv X pins σ H {s with heap:=h',toks:=t'}:=I.un (Un.kept k) (I.bD.kept k)
theorem Inv.laid{o:HO}(I:Inv X pins σ H s)(k:∀b u,s.heap.get? b=some u->h'.get? b=some u)(c:s.heap.objs.size<=a)(new:bO X.prog X.w (upd H a o) h' a o):
  Inv X pins σ (upd H a o) {s with heap:=h',toks:=t'}:=I.un (Un.laid k c (I.bD.fresh c)) (I.bD.laid k c new)
theorem Inv.write{x e:Addr}{o:HO}(I:Inv X pins σ H s)(c:A9 (H x))(he:e=x\/H e=some (.own x))(k:∀b u,b≠e->s.heap.get? b=some u->h'.get? b=some u)(a:∃u,h'.get? e=some u)
  (new:bO X.prog X.w (upd H x o) h' x o):Inv X pins σ (upd H x o) {s with heap:=h',toks:=t'}:=I.un (Un.write c he k a) (I.bD.write c he k a new)
theorem Inv.weak{a :List (Option V)}(I:Inv X pins σ H s)(b:a.length=σ.length)(w:∀(i:Nat) v,a[i]? =some (some v)->σ[i]? =some (some v)):Inv X pins a H s:=
 ⟨I.ok,I.os,I.bare,I.base,let ⟨m,hn,hl'⟩:=I.loc;⟨m,hn,λi x v c d e=>hl' i x v c (w i v d) e⟩,I.cell,I.free,I.jU,I.pin,I.bD,b.trans I.len⟩
theorem Inv.B0{a :List (Addr×Obj)}(I:Inv X pins σ H s)(h:∀p∈a,s.heap.get? p.1=some p.2/\H p.1=none/\p.1≠X.env.locals/\p.1∉X.fs/\∀v,p.2.data≠ .cell v):Inv X a σ H s:=
 ⟨I.ok,I.os,I.bare,I.base,I.loc,I.cell,I.free,I.jU,λp b=>(aBn.mp b).elim (λz=>I.pin p (aDs _ z)) (h p),I.bD,I.len⟩
theorem xT{N:List Str}(hN:N.Nodup){i j:Nat}{x:Str}(a:N[i]? =some x)(b:N[j]? =some x):i=j:=by
 obtain⟨e,c⟩:=aB2.mp a;obtain⟨f,d⟩:=aB2.mp b;exact(List.getElem_inj hN).mp (c.trans d.symm)
variable{Q:Unit->Shared->Prop}
theorem sR{M:Model}{A:Around}{E:aEe}{i:Nat}{x:Str}{v:V}{u:Value}(I:Inv X pins σ H s)(hN:X.N.Nodup)(hi:X.N[i]? =some x)(l:Loc X.env.scope x)(r:RelV v u)
  (h:∀S,Inv X pins (σ.set i (some v)) H S ->(∃a,Heap.SameBut a s.heap S.heap/\(a=X.env.locals\/X.env.cells.lookup x=some a))->Q () S) (hf:X.fn x=true\/X.env.scope.names.lookup x=some .local:=by first | exact .inl rfl | exact .inr rfl | assumption):wpAny M A (storeName X.env x u) Q E s:=by
 obtain⟨m,T,hl⟩:=id I.loc;have J:(X.env.scope.kind== .class || (X.env.scope.kind== .module && X.env.locals !=X.env.globals))=false:=by rw[I.ok.kind];rfl
 have C:i<σ.length:=by rw[I.len];exact(aB2.mp hi).1
 have TU:=I.TU
 have f:∀{a:Addr} {h' :Heap},(∃o,s.heap.get? a=some o/\H a=none)->Heap.SameBut a s.heap h' ->nT X.prog X.w H h' :=λ{a h'} ha hs b ob e=>by
  obtain⟨_,_,t⟩:=ha;refine(I.bD b ob e).xF (λc R hc q=>(hs.2 c ?_).trans q) (λ_ q=>q) λ_ _ q=>q;rintro rfl;rcases hc with rfl | hc
  ·rw[t]at e;cases e
  ·rw[t]at hc;cases hc
 rcases l with hk | hk
 ·refine wpAny_storeName_local hk T (λh' U hs=>?_) J;obtain⟨oL,_,_,W,_⟩:=id T;refine h _ ⟨I.ok,I.os,I.bare,⟨λb o e n D l=>?_,λb o e n D l=>?_,I.base.free,λb o e l=>?_,I.base.wZ,I.base.vK,I.base.xB⟩,⟨_,U,λj y Y g B Z=>?_⟩,λy c e=>?_,I.free,I.jU,λp hp=>?_,f ⟨oL,W,I.free⟩ hs,by simpa using I.len⟩ ⟨_,hs,.inl rfl⟩
  ·exact(hs.2 b (aB9 (aBc (aB5 e) I.ok.above))).trans (I.base.keep b o e n D l)
  ·obtain⟨sl,g⟩:=I.base.slot b o e n D l;exact⟨sl,(hs.2 b (aB9 (aBc (aB5 e) I.ok.above))).trans g⟩
  ·obtain⟨o',g⟩:=I.base.there b o e l;exact⟨o',(hs.2 b (aB9 (aBc (aB5 e) I.ok.above))).trans g⟩
  ·by_cases F:j=i
   ·subst F;rw[hi]at g;cases g;rw[List.getElem?_set_self C]at B;cases B;exact⟨u,r,.inl ⟨hk,by simp⟩⟩
   ·rw[List.getElem?_set_ne (Ne.symm F)]at B;obtain⟨u',r',q⟩:=hl j y Y g B Z;refine⟨u',r',?_⟩
    rcases q with ⟨k,e⟩ | ⟨k,c,e,z⟩
    ·refine .inl ⟨k,?_⟩;have:y≠x:=λe=>F (xT hN g (e▸hi));simp[this,e]
    ·exact .inr ⟨k,c,e,z.sameBut hs (TU y c e)⟩
  ·obtain⟨R,z⟩:=I.cell y c e;exact⟨R,z.sameBut hs (TU y c e)⟩
  ·obtain⟨e,n,ne,nf,d⟩:=I.pin p hp;exact⟨(hs.2 p.1 ne).trans e,n,ne,nf,d⟩
 ·have G:X.fn x=true:=by
   rcases hf with z | z
   ·exact z
   ·rw[z]at hk;cases hk
  obtain⟨c,hc⟩:=I.ok.has x (.inl hk);obtain⟨R,z⟩:=I.cell x c hc;refine wpAny_storeName_cell I.ok.kind hk hc z (λh' K hs=>?_);obtain⟨oc,L,O⟩:=id z;refine h {s with heap:=h'} ⟨I.ok,I.os,I.bare,⟨λb o e n D l=>?_,λb o e n D l=>?_,I.base.free,λb o e l=>?_,I.base.wZ,I.base.vK,I.base.xB⟩,⟨m,T.sameBut hs (aC1 (TU x c hc)),λj y Y g B Z=>?_⟩,λy c' e=>?_,I.free,I.jU,λp hp=>?_,f ⟨oc,L,I.jU x c hc⟩ hs,by simpa using I.len⟩ ⟨c,hs,.inr hc⟩
  ·exact(hs.2 b (aB9 (aBc (aB5 e) (I.ok.XO x c G hc)))).trans (I.base.keep b o e n D l)
  ·obtain⟨sl,g⟩:=I.base.slot b o e n D l;exact⟨sl,(hs.2 b (aB9 (aBc (aB5 e) (I.ok.XO x c G hc)))).trans g⟩
  ·obtain⟨o',g⟩:=I.base.there b o e l;exact⟨o',(hs.2 b (aB9 (aBc (aB5 e) (I.ok.XO x c G hc)))).trans g⟩
  ·by_cases F:j=i
   ·subst F;rw[hi]at g;cases g;rw[List.getElem?_set_self C]at B;cases B;exact⟨u,r,.inr ⟨.inl hk,c,hc,K⟩⟩
   ·rw[List.getElem?_set_ne (Ne.symm F)]at B;obtain⟨u',r',q⟩:=hl j y Y g B Z;refine⟨u',r',?_⟩;rcases q with q | ⟨k,c',e,z'⟩
    ·exact .inl q
    ·refine .inr ⟨k,c',e,z'.sameBut hs ?_⟩;rintro rfl;exact F (xT hN g (I.ok.inj _ _ _ e hc▸hi))
  ·by_cases P:c' =c
   ·subst P;exact⟨_,K⟩
   ·obtain⟨w2,z2⟩:=I.cell y c' e;exact⟨w2,z2.sameBut hs P⟩
  ·obtain⟨e,n,ne,nf,d⟩:=I.pin p hp;refine⟨(hs.2 p.1 ?_).trans e,n,ne,nf,d⟩;intro q;rw[q,L]at e;have q' :oc=p.2:=aBl e;exact d R (by rw[<-q'];exact O)
theorem xE{M:Model}{A:Around}{E:aEe}{i:Nat}{x:Str}{v:V}{u:Value}(I:Inv X pins σ H s)(hN:X.N.Nodup)(hi:X.N[i]? =some x)(b:Loc X.env.scope x)(r:RelV v u)
  (h:∀a,Inv X pins (σ.set i (some v)) H a ->Q () a) (c:X.fn x=true\/X.env.scope.names.lookup x=some .local:=by first | exact .inl rfl | exact .inr rfl | assumption):wpAny M A (storeName X.env x u) Q E s:=
 sR I hN hi b r (λa d _=>h a d) c
theorem Inv.XN{a :Shared}(I:Inv X pins σ H s)(ho:a.os=s.os)(u:Un (IA X.stack) ch H H' s.heap a.heap)(bD:nT X.prog X.w H' a.heap)(hg:AllBare a.gens)
  (d:∀b∈ch,(b∈X.ex\/X.s₀.heap.objs.size<=b)/\b≠X.env.locals/\(∀x c,X.env.cells.lookup x=some c->c≠b)/\∀p∈X.pn++pins,p.1≠b):Inv X pins σ H' a :=by
 obtain⟨h',g',d',t',o'⟩:=a;have e:o' =s.os:=ho;subst e;exact I.call (g' :=g') (t' :=t') (d' :=d') u bD hg d
end
abbrev XK:=Value->Option Addr->Hp->Prop
abbrev St:=List (Option V)
abbrev VK:=V->Hp->Prop
abbrev TE:=St->Hp->VK->Prop
abbrev TT:=St->Hp->(Bool->Hp->Prop)->Prop
abbrev TA:=St->Hp->(List V->Hp->Prop)->Prop
structure Ends where
 nx:St->Hp->Prop
 rt:VK
 bk:St->Hp->Prop:=λ_ _=>False
 ct:St->Hp->Prop:=λ_ _=>False
abbrev TS:=Ends->St->Hp->Prop
def EP(X:Cx)(pins:List (Addr×Obj))(σ:St)(Q:VK)(u:Value)(a :Shared):Prop:=∃v H',Inv X pins σ H' a /\RelV v u/\Q v H'
def TP(X:Cx)(pins:List (Addr×Obj))(σ:St)(Q:Bool->Hp->Prop)(b:Bool)(a :Shared):Prop:=∃H',Inv X pins σ H' a /\Q b H'
def AP(X:Cx)(pins:List (Addr×Obj))(σ:St)(Q:List V->Hp->Prop)(us:List Value)(a :Shared):Prop:=∃vs H',Inv X pins σ H' a /\Vals vs us/\Q vs H'
def SP(X:Cx)(pins:List (Addr×Obj))(D:Ends)(f:Flow)(b :Shared):Prop:=
 match f with
 | .next=>∃a H',Inv X pins a H' b /\D.nx a H'
 | .brk=>∃a H',Inv X pins a H' b /\D.bk a H'
 | .cont=>∃a H',Inv X pins a H' b /\D.ct a H'
 | .ret u=>∃v a H',Inv X pins a H' b /\RelV v u/\D.rt v H'
def PE(X:Cx)(e:Expr)(t:TE):Prop:=
 ∀(pins:List (Addr×Obj)) (s:Shared) (σ:St) (H:Hp) (Q:VK),Inv X pins σ H s->t σ H Q->wpAny (model X.prog X.w) X.A (eval e X.env) (EP X pins σ Q) X.xe s
def PT(X:Cx)(e:Expr)(t:TT):Prop:=
 ∀(pins:List (Addr×Obj)) (s:Shared) (σ:St) (H:Hp) (Q:Bool->Hp->Prop),Inv X pins σ H s->t σ H Q->wpAny (model X.prog X.w) X.A (isTrue e X.env (eval e X.env)) (TP X pins σ Q) X.xe s
def PW(X:Cx)(e:Expr)(t:TT):Prop:=
 ∀(a:Sem Value) (pins:List (Addr×Obj)) (s:Shared) (σ:St) (H:Hp) (Q:Bool->Hp->Prop),Inv X pins σ H s->t σ H Q->wpAny (model X.prog X.w) X.A (isTrue e X.env a) (TP X pins σ Q) X.xe s
variable{e:Expr}
theorem PW.pt{X:Cx}{t:TT}(h:PW X e t):PT X e t:=h _
def PA(X:Cx)(es:List Expr)(t:TA):Prop:=
 ∀(pos:Pos) (pins:List (Addr×Obj)) (s:Shared) (σ:St) (H:Hp) (Q:List V->Hp->Prop),Inv X pins σ H s->t σ H Q->wpAny (model X.prog X.w) X.A (spliced (backTo pos (starEach es X.env))) (AP X pins σ Q) X.xe s
def PS(X:Cx)(st:Stmt)(t:TS):Prop:=
 ∀(pins:List (Addr×Obj)) (s:Shared) (σ:St) (H:Hp) (D:Ends),Inv X pins σ H s->t D σ H->wpAny (model X.prog X.w) X.A (exec st X.env) (SP X pins D) X.xe s
def t9(X:Cx)(st:List Stmt)(t:TS):Prop:=
 ∀(pins:List (Addr×Obj)) (s:Shared) (σ:St) (H:Hp) (D:Ends),Inv X pins σ H s->t D σ H->wpAny (model X.prog X.w) X.A (execs st X.env) (SP X pins D) X.xe s
variable{A:Around}{E:aEe}{s:Shared}
theorem cA{α:Type}{t:Sem α}{Q b :α->Shared->Prop}{M:Model}(h:wpAny M A t Q E s)(c:∀a s,Q a s->b a s):wpAny M A t b E s:=aBw h c λ_ _ x=>x
section
variable {X:Cx}
def YZ(i:Nat):TE:=λσ H Q=>∃v,σ[i]? =some (some v)/\Q v H
def tC(v:V):TE:=λ_ H Q=>Q v H
variable{x:Str}{pos:Pos}
theorem QD{i:Nat}(hN:X.N[i]? =some x)(hv:YN X.env.scope x)(hd:(x==("__debug__":Str))=false:=by decide)(d:(x==("__classdict__":Str))=false:=by decide):PE X (.Name x pos) (YZ i):=by
 intro pins s σ H Q I h;obtain⟨v,e,h⟩:=h;obtain⟨m,g,j⟩:=I.loc;obtain⟨u,r,l⟩:=j i x v hN e hv
 have b:EP X pins σ Q u s:=⟨v,H,I,r,h⟩
 rcases l with ⟨hk,k⟩ | ⟨hk,c,f,a⟩
 ·exact wpAny_Name (wpAny_loadName_local I.ok.kind hk g k b) hd
 ·rcases hk with hk | hk
  ·exact wpAny_Name (wpAny_loadName_cell I.ok.kind hk f a b) hd
  ·exact wpAny_Name (wpAny_loadName_free I.ok.kind hk f a b d) hd
theorem QJ{i j pos}:PE X (.Constant (.int i) j pos) (tC (.int i)):=λ_ _ _ H _ I h=>wpAny_Constant_int ⟨.int i,H,I.tok _,⟨_,rfl⟩,h⟩
theorem VX{b j pos}:PE X (.Constant (.bool b) j pos) (tC (.bl b)):=λ_ _ _ H _ I h=>Constant_bool ⟨.bl b,H,I,rfl,h⟩
theorem QH{j pos}:PE X (.Constant .none j pos) (tC .bF):=λ_ _ _ H _ I h=>Constant_none ⟨.bF,H,I,rfl,h⟩
theorem QE{x j pos}:PE X (.Constant (.str x) j pos) (tC (.str x)):=λ_ _ _ H _ I h=>Calls.Constant_str ⟨.str x,H,I.tok _,⟨_,rfl⟩,h⟩
def Gl(X:Cx)(x:Str):Prop:=X.env.kindOf x=some .globalImplicit
variable{pins:List (Addr×Obj)}{u:Value}
theorem ME{σ:St}{Q:aEe}(I:Inv X pins σ H s)(hg:Gl X x)(a:X.mg x=some u)(h:Q u s)
  (hd:(x==("__debug__":Str))=false:=by decide):wpAny (model X.prog X.w) X.A (eval (.Name x pos) X.env) Q E s:=
 Calls.Name_function_global I.ok.kind hg (Calls.loadGlobal_global (by rw[I.ok.glob];exact I.mod.glob.keeps I.bk) a h) hd
theorem jS{σ:St}{Q:aEe}(I:Inv X pins σ H s)(hg:Gl X x)(a:X.mg x=none)(hv:bootBuiltins x=some u)(h:Q u s)
  (b:x≠ "__name__":=by decide) (hd:(x==("__debug__":Str))=false:=by decide):wpAny (model X.prog X.w) X.A (eval (.Name x pos) X.env) Q E s:=by
 obtain⟨mb,c,d⟩:=I.mod.blt;exact Calls.Name_function_global I.ok.kind hg (Calls.loadGlobal_builtin (by rw[I.ok.glob];exact I.mod.glob.keeps I.bk) a (by rw[I.ok.blt];exact c.keeps I.bk) ((d x b).trans hv) h) hd
theorem K5{v:V}(hg:Gl X x)(a:X.mg x=none)(hv:bootBuiltins x=some u)(r:RelV v u)(b:x≠ "__name__":=by decide)(hd:(x==("__debug__":Str))=false:=by decide):PE X (.Name x pos) (tC v):=
 λ_ _ _ H _ I h=>jS I hg a hv ⟨v,H,I,r,h⟩ b hd
variable {a b:Expr}{ta tb:TE}{pos:Pos}
theorem GN(b:Expr){a:CmpOp}(h:a≠ .In)(c:a≠ .NotIn):behindInMarks a b=false:=by
 have d:(a==CmpOp.In)=false:=by cases a <;> first | rfl | exact absurd rfl h
 have e:(a==CmpOp.NotIn)=false:=by cases a <;> first | rfl | exact absurd rfl c
 cases b <;> simp[behindInMarks,d,e]
variable {tA tB' :TT}{rest:List Expr}
def ZD(t u:TT):TT:=λσ H Q=>t σ H λc a=>if c=true then u σ a Q else Q false a
def tOr(t u:TT):TT:=λσ H Q=>t σ H λc a=>if c=true then Q true a else u σ a Q
def Y3(t:TT):TT:=λσ H Q=>t σ H λc a=>Q (!c) a
theorem KN(b:PT X a tA):PW X (.BoolOp .And [a] pos) tA:=by
 intro d pins s σ H Q I h;refine isTrue_and (cA (b pins s σ H Q I h) λc s1 e=>?_)
 cases c with
 | true=>exact isTrue_and_nil e
 | false=>exact e
theorem PZ(b:PT X a tA):PW X (.BoolOp .Or [a] pos) tA:=by
 intro d pins s σ H Q I h;refine isTrue_or (cA (b pins s σ H Q I h) λc s1 e=>?_)
 cases c with
 | false=>exact isTrue_or_nil e
 | true=>exact e
theorem P0(i:PT X a tA)(j:PW X (.BoolOp .And (b::rest) pos) tB'):PW X (.BoolOp .And (a::b::rest) pos) (ZD tA tB'):=by
 intro k pins s σ H Q I h;refine isTrue_and (cA (i pins s σ H _ I h) λc s1 d=>?_);obtain⟨e,f,g⟩:=d
 cases c with
 | true=>exact j k pins s1 σ e Q f g
 | false=>exact⟨e,f,g⟩
theorem VP(i:PT X a tA)(j:PW X (.BoolOp .Or (b::rest) pos) tB'):PW X (.BoolOp .Or (a::b::rest) pos) (tOr tA tB'):=by
 intro k pins s σ H Q I h;refine isTrue_or (cA (i pins s σ H _ I h) λc s1 d=>?_);obtain⟨e,f,g⟩:=d
 cases c with
 | true=>exact⟨e,f,g⟩
 | false=>exact j k pins s1 σ e Q f g
theorem P6(b:PT X a tA):PT X (.UnaryOp .Not a pos) (Y3 tA):=by
 intro pins s σ H Q I h;exact isTrue_not (b pins s σ H (λc d=>Q (!c) d) I h)
def U4(ta tb:TE):TE:=λσ H Q=>ta σ H λx a=>∃c,x= .bl c/\if c=true then tb σ a Q else Q (.bl false) a
def UY(ta:TE):TE:=λσ H Q=>ta σ H λx a=>∃c,x= .bl c/\Q (.bl (!c)) a
theorem QF{op}{t:TE}(h:PE X a t):PE X (.BoolOp op [a] pos) t:=λpins s σ H Q I b=>BoolOp_one (h pins s σ H Q I b)
theorem QK(i:PE X a ta)(j:PE X (.BoolOp .And (b::rest) pos) tb):PE X (.BoolOp .And (a::b::rest) pos) (U4 ta tb):=by
 intro pins s σ H Q I h;refine BoolOp_and (cA (i pins s σ H _ I h) λv s1 e=>?_);obtain⟨x,f,g,k,d⟩:=e;obtain⟨c,rfl,d⟩:=d;cases k;refine aD3 ?_
 cases c with
 | true=>exact j pins s1 σ f Q g d
 | false=>exact⟨.bl false,f,g,rfl,d⟩
theorem QG(e:PE X a ta):PE X (.UnaryOp .Not a pos) (UY ta):=by
 intro pins s σ H Q I h;refine UnaryOp_ (cA (e pins s σ H _ I h) λv s1 b=>?_);obtain⟨x,f,g,i,d⟩:=b;obtain⟨c,rfl,d⟩:=d;cases i;exact not_of (aD3 ⟨.bl (!c),f,g,rfl,d⟩)
def tIf(t:TT)(ta tb:TE):TE:=λσ H Q=>t σ H λc a=>if c=true then ta σ a Q else tb σ a Q
theorem F7{c:Expr}(j:PT X c tA)(k:PE X a ta)(l:PE X b tb):PE X (.IfExp c a b pos) (tIf tA ta tb):=by
 intro pins s σ H Q I h;refine wpAny_IfExp (cA (j pins s σ H _ I h) λd s1 e=>?_);obtain⟨f,g,i⟩:=e
 cases d with
 | true=>exact k pins s1 σ f Q g i
 | false=>exact l pins s1 σ f Q g i
end
def nV(K:aEd)(H:Hp)(a:Addr)(xs:List V):Prop:=
 Rd H a (.lst xs)\/
  ∃(o:Obj) (aH:Array Value) (n:Nat),K.lookup a=some o/\o.cls= .type "list"/\o.dict=none/\o.data= .seq aH n/\aH.size<=sizeLine/\Vals xs aH.toList
def pG(K:aEd)(H:Hp)(a:Addr)(xs:List V):Prop:=
 Rd H a (.tup xs)\/
  ∃(o:Obj) (aH:Array Value) (n:Nat),K.lookup a=some o/\o.cls= .type "tuple"/\o.dict=none/\o.data= .seq aH n/\aH.size<=sizeLine/\Vals xs aH.toList
def aAt:Value->Option V
 | .none=>some .bF
 | .bool b=>some (.bl b)
 | .int i _=>some (.int i)
 | .str x _=>some (.str x)
 | .bytes b _=>some (.byt b)
 | .float b _=>some (.flt b)
 | .ref a=>some (.ref a)
 | .type n=>some (.ty n)
 | _=>none
variable{u:Value}
theorem RelV.abs{x:V}(r:RelV x u):aAt u=some x:=by
 cases x with
 | bF=>cases r;rfl
 | bl _=>cases r;rfl
 | int _=>obtain⟨t,rfl⟩:=r;rfl
 | str _=>obtain⟨t,rfl⟩:=r;rfl
 | byt _=>obtain⟨t,rfl⟩:=r;rfl
 | flt _=>obtain⟨t,rfl⟩:=r;rfl
 | ref _=>cases r;rfl
 | ty _=>cases r;rfl
theorem RelV.inj{x y:V}(r:RelV x u)(q:RelV y u):x=y:=aBl (r.abs.symm.trans q.abs)
theorem Vals.inj:∀{xs a:List V} {us:List Value},Vals xs us->Vals a us->xs=a
 | _,_,_,.nil,.nil=>rfl
 | _,_,_,.cons r t,.cons r' t' =>by rw[r.inj r',Vals.inj t t']
section
variable {X:Cx}{pins:List (Addr×Obj)}{σ:St}{H:Hp}{s:Shared}{a:Addr}{xs ys:List V}
theorem nV.of{K:aEd}(h:H a=some (.lst xs)):nV K H a xs:= .inl (.inl h)
theorem Inv.list(I:Inv X pins σ H s)(h:nV X.K H a xs):∃aH:List Value,Vals xs aH/\PlainL s.heap a aH.toArray/\xs.length<=sizeLine:=by
 rcases h with h | ⟨o,aH,n,hk,b,hd,hs,hz,r⟩
 ·obtain⟨z,aH,n,r,e⟩:=h.ok I.bD;exact⟨aH,r,⟨_,n,e,rfl,rfl,rfl⟩,z⟩
 ·refine⟨aH.toList,r,⟨o,n,I.OO a o hk,b,hd,by simpa using hs⟩,?_⟩;have e:=r.length;simp only[Array.length_toList]at e
  lia
theorem Inv.tuple(I:Inv X pins σ H s)(h:pG X.K H a xs):∃aH:List Value,Vals xs aH/\IsTup s.heap a aH.toArray/\xs.length<=sizeLine:=by
 rcases h with h | ⟨o,aH,n,hk,b,_,hs,hz,r⟩
 ·obtain⟨z,aH,r,p,_⟩:=h.ok I.bD;exact⟨aH,r,p,z⟩
 ·refine⟨aH.toList,r,⟨o,I.OO a o hk,b,n,by simpa using hs⟩,?_⟩;have e:=r.length;simp only[Array.length_toList]at e
  lia
theorem Inv.O4(I:Inv X pins σ H s)(h:pG X.K H a xs):∃ob,s.heap.get? a=some ob/\ob.cls= .type "tuple"/\ob.dict=none:=by
 rcases h with h | ⟨o,aH,n,hk,b,hd,hs,hz,r⟩
 ·obtain⟨z,aH,r,⟨o,e,c,_⟩,nd⟩:=h.ok I.bD;exact⟨o,e,c,nd o e⟩
 ·exact⟨o,I.OO a o hk,b,hd⟩
theorem Inv.xX(I:Inv X pins σ H s)(h:nV X.K H a xs)(h' :nV X.K H a ys):xs=ys:=by
 obtain⟨aH,r,⟨o,n,e,_,_,d⟩,_⟩:=I.list h;obtain⟨its',c,⟨o',g,b,_,_,d'⟩,_⟩:=I.list h';rw[e]at b;cases b;rw[d]at d';injection d' with f _;have:aH=its' :=by simpa using aC0 Array.toList f
 subst this;exact r.inj c
theorem Inv.sQ(I:Inv X pins σ H s)(h:pG X.K H a xs)(h' :pG X.K H a ys):xs=ys:=by
 obtain⟨aH,r,⟨o,e,_,n,d⟩,_⟩:=I.tuple h;obtain⟨its',c,⟨o',b,_,g,d'⟩,_⟩:=I.tuple h';rw[e]at b;cases b;rw[d]at d';injection d' with f _;have:aH=its' :=by simpa using aC0 Array.toList f
 subst this;exact r.inj c
end
abbrev Cx.rU(X:Cx)(E:aEe):Cx:={X with xe:=E}
abbrev Cx.GJ(X:Cx):Cx:=X.rU λ_ _=>False
theorem Cx.Ok.rU{X:Cx}(ok:X.Ok)(E:aEe):(X.rU E).Ok:=
 ⟨ok.mod,ok.kind,ok.glob,ok.blt,ok.above,ok.inj,ok.has,ok.XO,ok.hd,ok.frames,ok.X6,ok.YH,ok.bs,ok.NM,ok.GL,ok.IG,ok.qZ,ok.UJ⟩
theorem Cx.Ok.jK{X:Cx}(ok:(X.rU E).Ok):X.Ok:=
 ⟨ok.mod,ok.kind,ok.glob,ok.blt,ok.above,ok.inj,ok.has,ok.XO,ok.hd,ok.frames,ok.X6,ok.YH,ok.bs,ok.NM,ok.GL,ok.IG,ok.qZ,ok.UJ⟩
section
variable {X:Cx}{pins:List (Addr×Obj)}{σ:St}{H:Hp}{s:Shared}{E:aEe}
theorem Inv.rU(I:Inv X pins σ H s)(E:aEe):Inv (X.rU E) pins σ H s:=⟨I.ok.rU E,I.os,I.bare,I.base,I.loc,I.cell,I.free,I.jU,I.pin,I.bD,I.len⟩
theorem Inv.jK(I:Inv (X.rU E) pins σ H s):Inv X pins σ H s:=⟨I.ok.jK,I.os,I.bare,I.base,I.loc,I.cell,I.free,I.jU,I.pin,I.bD,I.len⟩
theorem SP.jK{D:Ends}{f:Flow}{b :Shared}(h:SP (X.rU E) pins D f b):SP X pins D f b :=by
 cases f with
 | next=>obtain⟨a,H',I,q⟩:=h;exact⟨a,H',I.jK,q⟩
 | brk=>obtain⟨a,H',I,q⟩:=h;exact⟨a,H',I.jK,q⟩
 | cont=>obtain⟨a,H',I,q⟩:=h;exact⟨a,H',I.jK,q⟩
 | ret u=>obtain⟨v,a,H',I,r,q⟩:=h;exact⟨v,a,H',I.jK,r,q⟩
theorem t9.GJ{st:List Stmt}{t:TS}(h:t9 X.GJ st t):t9 X st t:=λpins s σ H D I a=>
 aBw (h pins s σ H D (I.rU _) a) (λ_ _ q=>q.jK) λ_ _ z=>False.elim z
end
section
variable {X:Cx}{st:Stmt}{rest:List Stmt}{t u:TS}{e:Expr}{te:TE}{pos:Pos}
def UZ:TS:=λD σ H=>D.nx σ H
def Y1(t u:TS):TS:=λD σ H=>t {D with nx:=u D} σ H
theorem KS:t9 X [] UZ:=λ_ _ σ H _ I h=>aDu ⟨σ,H,I,h⟩
theorem FV(b:PS X st t)(c:t9 X rest u):t9 X (st::rest) (Y1 t u):=by
 intro pins s σ H D I h;refine wpAny_execs_cons (cA (b pins s σ H {D with nx:=u D} I h) λf s1 q=>?_)
 cases f with
 | next=>
  obtain⟨a,H',d,q⟩:=q;exact c pins s1 a H' D d q
 | ret v=>exact q
 | brk=>exact q
 | cont=>exact q
theorem KR(a:PS X st t):t9 X [st] t:=by
 intro pins s σ H D I h;refine wpAny_execs_cons (cA (a pins s σ H D I h) λf s1 q=>?_)
 cases f with
 | next=>exact aDu q
 | ret v=>exact q
 | brk=>exact q
 | cont=>exact q
theorem Inv.quiet{pins:List (Addr×Obj)}{σ:St}(I:Inv X pins σ H s):interactive X.env=false:=by simp[interactive,I.ok.kind]
def U0(te:TE):TS:=λD σ H=>te σ H λ_ a=>D.nx σ a
theorem KU(he:PE X e te)(hs:swapsWith e none pos.line X.env=pure false:=by rfl):PS X (.Expr e pos) (U0 te):=by
 intro pins s σ H D I h;exact wpAny_Expr_any (cA (he pins s σ H _ I h) λv s1 a=>by obtain⟨x,b,c,f,d⟩:=a;exact⟨σ,b,c,d⟩) I.quiet hs
def Y2(te:TE):TS:=λD σ H=>te σ H D.rt
theorem P8(he:PE X e te):PS X (.Return (some e) pos) (Y2 te):=by
 intro pins s σ H D I h;exact wpAny_Return_some (cA (he pins s σ H _ I h) λv s1 a=>by obtain⟨x,b,c,d,f⟩:=a;exact⟨x,σ,b,c,d,f⟩)
def Y8(c:TT)(t u:TS):TS:=λD σ H=>c σ H λb a=>if b=true then t D σ a else u D σ a
theorem VR{c:Expr}{a b:List Stmt}{f:TT}(k:PT X c f)(l:t9 X a t)(m:t9 X b u):PS X (.If c a b pos) (Y8 f t u):=by
 intro pins s σ H D I h;refine wpAny_If (cA (k pins s σ H _ I h) λd s1 e=>?_);obtain⟨g,i,j⟩:=e
 cases d with
 | true=>exact l pins s1 σ g D i j
 | false=>exact m pins s1 σ g D i j
end
abbrev TG:=V->St->Hp->(St->Hp->Prop)->Prop
abbrev zE:=List V->St->Hp->(St->Hp->Prop)->Prop
def PG(X:Cx)(a:Expr)(t:TG):Prop:=
 ∀(pins:List (Addr×Obj)) (s:Shared) (σ:St) (H:Hp) (v:V) (u:Value) (Q:St->Hp->Prop),Inv X pins σ H s->RelV v u->t v σ H Q->
  wpAny (model X.prog X.w) X.A (assign a X.env u) (λ_ c =>∃b H',Inv X pins b H' c /\Q b H') X.xe s
def NQ(X:Cx)(ts:List Expr)(t:zE):Prop:=
 ∀(pins:List (Addr×Obj)) (s:Shared) (σ:St) (H:Hp) (vs:List V) (us:List Value) (Q:St->Hp->Prop),Inv X pins σ H s->Vals vs us->t vs σ H Q->
  wpAny (model X.prog X.w) X.A (assignInOrder ((assignEach ts X.env).map (·.2)) us) (λ_ b =>∃a H',Inv X pins a H' b /\Q a H') X.xe s
abbrev UD:=V->V->V->Hp->(Hp->Prop)->Prop
def XY(X:Cx)(t:UD):Prop:=
 ∀(pins:List (Addr×Obj)) (s:Shared) (σ:St) (H:Hp) (o i v:V) (a b u:Value) (Q:Hp->Prop),Inv X pins σ H s->RelV o a->RelV i b->RelV v u->t o i v H Q->
  wpAny (model X.prog X.w) X.A (setItem a b u) (λ_ c =>∃H',Inv X pins σ H' c /\Q H') X.xe s
section
variable {X:Cx}{pos:Pos}
def oR(i:Nat):TG:=λv σ H Q=>Q (σ.set i (some v)) H
theorem K0{i:Nat}{x:Str}(hN:X.N.Nodup)(hi:X.N[i]? =some x)(a:Loc X.env.scope x)(b:X.fn x=true\/X.env.scope.names.lookup x=some .local:=by first | exact .inl rfl | exact .inr rfl | assumption):PG X (.Name x pos) (oR i):=by
 intro pins s σ H v u Q I r h;exact wpAny_assign_Name (xE I hN hi a r (λd c =>⟨_,H,c,h⟩) b)
def HZ:zE:=λvs σ H Q=>vs=[]/\Q σ H
def yK(t:TG)(u:zE):zE:=λvs σ H Q=>∃v r,vs=v::r/\t v σ H λa H' =>u r a H' Q
theorem KZ:NQ X [] HZ:=by
 intro pins s σ H vs us Q I r h;obtain⟨e,h⟩:=h;subst e;cases r;exact assignInOrder_nil ⟨σ,H,I,h⟩
theorem F2{es:List Expr}{t:TG}{u:zE}(c:PG X e t)(d:NQ X es u)
  (hs:(assignEach (e::es) X.env).map (·.2)=assign e X.env::(assignEach es X.env).map (·.2):=by rfl):NQ X (e::es) (yK t u):=by
 intro pins s σ H vs us Q I r h;obtain⟨v,l,f,h⟩:=h;subst f
 cases r with
 | cons r g=>
  rw[hs];refine assignInOrder_cons (cA (c pins s σ H _ _ _ I r h) λ_ s1 a=>?_);obtain⟨b,i,j,k⟩:=a;exact d pins s1 b i _ _ Q j g k
def TH(K:aEd)(n:Nat)(t:zE):TG:=λv σ H Q=>∃a xs,v= .ref a/\pG K H a xs/\xs.length=n/\t xs σ H Q
theorem QA{es:List Expr}{k:Nat}{t:zE}{n:Nat}(g:X.calm=true)(h:NQ X es t)
  (i:(assignEach es X.env).length=n:=by rfl) (c:(assignEach es X.env).findIdx? (·.1)=none:=by rfl):PG X (.Tuple es k pos) (TH X.K n t):=by
 intro pins s σ H v u Q I r d;obtain⟨a,xs,j,l,m,d⟩:=d;subst j;cases r;obtain⟨aH,f,ht,hz⟩:=I.tuple l;refine assign_Tuple_tuple (I.ok.hd g) ht (by simp[i,<-m,f.length]) c λh' p=>?_;have q:Inv X pins σ H {s with heap:=h'}:=I.kept (t' :=s.toks) λb o e=>p b o (aB9 (aB5 e)) e;exact h pins _ σ H xs _ Q q (by simpa using f) d
def aAh(to a:TE)(t:UD):TG:=λv σ H Q=>to σ H λo b=>a σ b λi c=>t o i v c λd=>Q σ d
theorem QB{o i:Expr}{to f:TE}{t:UD}(ho:PE X o to)(hi:PE X i f)(hs:XY X t)
  (g:∀v,assign (.Subscript o i pos) X.env v=(do
   let a<-holding [v] (eval o X.env)
   let b<-holding [v,a] (eval i X.env)
   standAt pos
   holding [v,a,b] (setItem a b v)
   release [v,a,b] []):=by intro _;rfl):PG X (.Subscript o i pos) (aAh to f t):=by
 intro pins s σ H v u Q I r h;rw[g];refine aAz (aBf (cA (ho pins s σ H _ I h) λa s1 c=>?_));obtain⟨x,j,k,l,m⟩:=c;refine aAz (aBf (cA (hi pins s1 σ j _ k m) λb s2 d=>?_));obtain⟨y,n,p,q,w⟩:=d;refine aAz (aCv (aAz (aBf (cA (hs pins s2 σ n x y v a b u _ p l q r w) λ_ C e=>?_))));obtain⟨z,A,B⟩:=e;exact wpAny_release ⟨σ,z,A,B⟩
def J6(te:TE)(g:TG):TS:=λD σ H=>te σ H λx a=>g x σ a D.nx
theorem FZ{tg e:Expr}{te:TE}{g:TG}(he:PE X e te)(hg:PG X tg g)(hs:swapsWithSole [tg] e pos.line X.env=pure false:=by rfl)(a:swappedStores [tg] e X.env=pure none:=by rfl)
  (b:(assignEach [tg] X.env).map (·.2)=[assign tg X.env]:=by rfl):PS X (.Assign [tg] e pos) (J6 te g):=by
 intro pins s σ H D I h;refine wpAny_Assign_stores (cA (he pins s σ H _ I h) λv s1 ⟨x,c,d,f,i⟩=>?_) hs a;rw[b];exact cA (hg pins s1 σ c x v _ d f i) λ_ s2 q=>q
theorem P7{i:Nat}{x:Str}{te:TE}{a :Pos}(hN:X.N.Nodup)(hi:X.N[i]? =some x)(b:Loc X.env.scope x)(he:PE X e te)(hs:swapsWith e (some (.Name x a)) pos.line X.env=pure false:=by rfl)(c:X.fn x=true\/X.env.scope.names.lookup x=some .local:=by first | exact .inl rfl | exact .inr rfl | assumption):
  PS X (.Assign [.Name x a] e pos) (J6 te (oR i)):=by
 intro pins s σ H D I h;refine wpAny_Assign_Name (cA (he pins s σ H _ I h) λv s1 ⟨y,d,f,g,j⟩=>?_) hs;exact xE f hN hi b g (λs2 k=>⟨_,d,k,j⟩) c
end
section
variable {X:Cx}{pos:Pos}
def O8(c:TT)(f:TS):TS:=λD σ H=>∃W:Nat->St->Hp->Prop,(∃m,W m σ H)/\∀m σ H,W m σ H->
 c σ H λb d=>if b=true then ∃N:St->Hp->Prop,(∀a H',N a H' ->∃e,e<m/\W e a H')/\f {D with nx:=N,ct:=N,bk:=D.nx} σ d else D.nx σ d
theorem FW{c:Expr}{body:List Stmt}{t:TT}{u:TS}(x:PassesOwn (model X.prog X.w) X.A X.env X.xe)(C:PT X c t)(E:t9 X body u):PS X (.While c body [] pos) (O8 t u):=by
 intro pins s σ H D I h;obtain⟨W,⟨m0,F⟩,e⟩:=h;refine wpAny_While (codeAny_whileLoop (λn G =>∃g H',Inv X pins g H' G /\W n g H') ?_ m0 ⟨σ,H,I,F⟩);rintro n s1 ⟨d,y,J,K⟩;refine aCr x (cA (C pins s1 d y _ J (e n d y K)) λb s2 i=>?_);obtain⟨z,B,k⟩:=i
 cases b with
 | true=>
  obtain⟨N,hN,k⟩:=k;rw[if_pos rfl];refine aCr x (cA (E pins s2 d z _ B k) λf L l=>?_)
  cases f with
  | next=>
   obtain⟨a,j,m,o⟩:=l;obtain⟨p,q,r⟩:=hN a j o;exact⟨p,q,a,j,m,r⟩
  | cont=>
   obtain⟨a,j,m,o⟩:=l;obtain⟨p,q,r⟩:=hN a j o;exact⟨p,q,a,j,m,r⟩
  | brk=>exact l
  | ret v=>exact l
 | false=>
  rw[if_neg Bool.false_ne_true];exact aDu ⟨d,z,B,k⟩
end
structure It where
 go:Nat->Hp->Prop
 NY:Nat->Hp->V->Hp->Prop
 stop:Nat->Hp->Prop
def rR(X:Cx)(pins:List (Addr×Obj))(H:Hp)(b:Addr):Prop:=
 H b=none/\b≠X.env.locals/\b∉X.fs/\(b∈X.ex\/X.s₀.heap.objs.size<=b)/\(∀x c,X.env.cells.lookup x=some c->c≠b)/\∀p∈X.pn++pins,p.1≠b
variable{pins:List (Addr×Obj)}{σ:St}
theorem Inv.AR{X:Cx}{H H' :Hp}(I:Inv X pins σ H s)(a:s.heap.objs.size<=b)(d:H' b=none):rR X pins H' b:=by
 refine⟨d,aCc (aBc I.lt a),I.aA4 a,.inr (aBq I.sz a),λx c e z=>?_,λp f z=>?_⟩
 ·obtain⟨v,q⟩:=I.cell x c e;exact absurd (aBc q.lt (by rw[z];exact a)) (aCj _)
 ·exact absurd (aBc (aB5 (I.pin p f).1) (by rw[z];exact a)) (aCj _)
structure Turn(P:Program)(w:World)(K:aEd)(tg:Expr)(J:It)(fp:List Addr)(it:Addr)(tn:Nat->Heap->Prop):Prop where
 mem:it∈fp
 obj:∀i h,tn i h->∀b∈fp,∃o,h.get? b=some o/\∀v,o.data≠ .cell v
 keep:∀i h h',tn i h->(∀b∈fp,∀o,h.get? b=some o->h'.get? b=some o)->tn i h'
 item:∀(X:Cx),X.prog=P->X.w=w->X.K=K->X.calm=true->∀(i:Nat) (pins:List (Addr×Obj)) (s:Shared) (σ:St) (H:Hp) (E:aEe),Inv X pins σ H s->(∀b∈fp,rR X pins H b)->tn i s.heap->J.go i H->
  wpAny (model P w) X.A (pyNext (.ref it)) (λr s1=>∃u,r=some u/\
   wpAny (model P w) X.A (letOwnedTupleGo tg (.ref it) u) (λ_ s2=>∃x H',Inv X pins σ H' s2/\RelV x u/\J.NY i H x H' /\tn (i+1) s2.heap/\∀b∈fp,H' b=none) E s1) E s
 done:∀(X:Cx),X.prog=P->X.w=w->X.K=K->X.calm=true->∀(i:Nat) (pins:List (Addr×Obj)) (s:Shared) (σ:St) (H:Hp) (E:aEe),Inv X pins σ H s->(∀b∈fp,rR X pins H b)->tn i s.heap->J.stop i H->
  wpAny (model P w) X.A (pyNext (.ref it)) (λr s1=>r=none/\Inv X pins σ H s1) E s
 self:∀(A:Around) (i:Nat) (s:Shared) (Q:aEe) (E:aEe),tn i s.heap->Q (.ref it) s->wpAny (model P w) A (pyIter (.ref it)) Q E s
abbrev TI:=St->Hp->(It->Hp->Prop)->Prop
def YO(X:Cx)(pins:List (Addr×Obj))(σ:St)(tg:Expr)(R:It->Hp->Prop)(a:Value)(s2:Shared):Prop:=
 ∃(it:Addr) (fp:List Addr) (tn:Nat->Heap->Prop) (J:It) (H' :Hp),a= .ref it/\Inv X pins σ H' s2/\Turn X.prog X.w X.K tg J fp it tn/\tn 0 s2.heap/\(∀b∈fp,rR X pins H' b)/\R J H'
def PI(X:Cx)(tg iter:Expr)(wi:TI):Prop:=
 ∀(pins:List (Addr×Obj)) (s:Shared) (σ:St) (H:Hp) (R:It->Hp->Prop),Inv X pins σ H s->wi σ H R->
  wpAny (model X.prog X.w) X.A (eval iter X.env) (λv s1=>wpAny (model X.prog X.w) X.A (pyIter v) (YO X pins σ tg R) X.xe s1) X.xe s
variable{tg:Expr}
theorem yJ{M:Model}{it:Addr}{n:String}{vs:Array Value}{Q:Unit->Shared->Prop}(ho:s.heap.get? it=some o)(b:o.cls= .type n)(hd:o.data= .fields vs)
    (c:["enumerate","zip","dict_itemiterator","dict_reverseitemiterator","odict_iterator","itertools.zip_longest","itertools.pairwise"].contains n=false) (a:Q () s):wpAny M A (letOwnedTupleGo tg (.ref it) u) Q E s:=by
  unfold letOwnedTupleGo
  cases tg <;> first
    | exact aB0 a
    | (cases u <;> first
        | exact aB0 a
        | (refine aAz (wpAny_load ho ?_)
           rw[b,hd];show wpAny M A (if (["enumerate","zip","dict_itemiterator","dict_reverseitemiterator","odict_iterator","itertools.zip_longest","itertools.pairwise"].contains n && vs[0]? ==some (rawInt _))=true then _ else _) Q E s;rw[if_neg (by intro h;rw[c,Bool.false_and]at h;cases h)]
           exact aB0 a))
def YR(K:aEd)(a:Addr):It:=
 ⟨λi H=>∃xs x,nV K H a xs/\xs[i]? =some x,λi H x H' =>H' =H/\∀xs,nV K H a xs->xs[i]? =some x,λi H=>∃xs,nV K H a xs/\xs.length<=i⟩
def Itt(K:aEd)(a:Addr):It:=
 ⟨λi H=>∃xs x,pG K H a xs/\xs[i]? =some x,λi H x H' =>H' =H/\∀xs,pG K H a xs->xs[i]? =some x,λi H=>∃xs,pG K H a xs/\xs.length<=i⟩
def X0(lo:Int)(n:Nat):It:=⟨λi _=>i<n,λi H x H' =>H' =H/\x= .int (lo+i),λi _=>n<=i⟩
variable{K:aEd}
theorem C7(a it:Addr):Turn P w K tg (YR K a) [it] it (λi h=>h.IsListIter it a i) where
 mem:=by simp
 obj:=λi h st b f=>by
  have e:b=it:=by simpa using f
  subst e;obtain⟨o,e,c,d⟩:=st;exact⟨o,e,λv z=>by rw[d]at z;cases z⟩
 keep:=λi h h' st k=>st.at λo e=>k it (by simp) o e
 item:=by
  intro X m n q D i pins s σ H E I j st hg;subst m n q;obtain⟨xs,x,l,r⟩:=hg;obtain⟨aH,t,p,hz⟩:=I.list l;obtain⟨u,F,G⟩:=t.get r;obtain⟨f0,y,J,A,B,C⟩:=j it (by simp);refine wpAny_pyNext_list_item st p.isList (x:=u) (by simpa using F) λh' g L=>?_;have M:Inv X pins σ H {s with heap:=h'}:=I.turned (t' :=s.toks) (λb o f e=>(L.2 b f).trans e) f0 y A B C;obtain⟨o,e,c,d⟩:=id g;exact⟨u,rfl,yJ (s:={s with heap:=h'}) e c d (by decide) ⟨x,H,M,G,⟨rfl,λQ N=>by rw[I.xX N l];exact r⟩,g,λb f=>(j b f).1⟩⟩
 done:=by
  intro X m n q D i pins s σ H E I j st hg;subst m n q;obtain⟨xs,l,r⟩:=hg;obtain⟨aH,t,p,hz⟩:=I.list l;obtain⟨f0,y,J,A,B,C⟩:=j it (by simp);have R:=t.length
  exact wpAny_pyNext_list_end (I.ok.hd D) st p.isList (by simp;lia) λh' O=>⟨rfl,I.turned (t' :=s.toks) (λb o f e=>O b o f e) f0 y A B C⟩
 self:=λ_ _ _ _ _ st h=>wpAny_pyIter_listiter st h
theorem zN(a it:Addr):Turn P w K tg (Itt K a) [it] it (λi h=>h.IsTupleIter it a i) where
 mem:=by simp
 obj:=λi h st b f=>by
  have e:b=it:=by simpa using f
  subst e;obtain⟨o,e,c,d⟩:=st;exact⟨o,e,λv z=>by rw[d]at z;cases z⟩
 keep:=λi h h' st k=>st.at λo e=>k it (by simp) o e
 item:=by
  intro X m n q D i pins s σ H E I j st hg;subst m n q;obtain⟨xs,x,l,r⟩:=hg;obtain⟨aH,t,p,hz⟩:=I.tuple l;obtain⟨u,F,G⟩:=t.get r;obtain⟨f0,y,J,A,B,C⟩:=j it (by simp);refine wpAny_pyNext_tuple_item st (show s.heap.IsTuple a aH.toArray from p) (x:=u) (by simpa using F) λh' g L=>?_;have M:Inv X pins σ H {s with heap:=h'}:=I.turned (t' :=s.toks) (λb o f e=>(L.2 b f).trans e) f0 y A B C;obtain⟨o,e,c,d⟩:=id g;exact⟨u,rfl,yJ (s:={s with heap:=h'}) e c d (by decide) ⟨x,H,M,G,⟨rfl,λQ N=>by rw[I.sQ N l];exact r⟩,g,λb f=>(j b f).1⟩⟩
 done:=by
  intro X m n q D i pins s σ H E I j st hg;subst m n q;obtain⟨xs,l,r⟩:=hg;obtain⟨aH,t,p,hz⟩:=I.tuple l;obtain⟨f0,y,J,A,B,C⟩:=j it (by simp);have R:=t.length
  exact wpAny_pyNext_tuple_end (I.ok.hd D) st (show s.heap.IsTuple a aH.toArray from p) (by simp;lia) λh' O=>⟨rfl,I.turned (t' :=s.toks) (λb o f e=>O b o f e) f0 y A B C⟩
 self:=λ_ _ _ _ _ st h=>wpAny_pyIter_tupleiter st h
theorem zO(it:Addr)(lo:Int)(n:Nat):Turn P w K tg (X0 lo n) [it] it (λi h=>IsRangeIter h it (lo+(i:Nat)*1) ((n:Int)-(i:Nat)) 1) where
 mem:=by simp
 obj:=λi h st b a=>by
  have e:b=it:=by simpa using a
  subst e
  exact⟨_,st,λv z=>by
   have u :Data.fields _=Data.cell v:=z
   cases u⟩
 keep:=λi h h' st k=>k it (by simp) _ st
 item:=by
  intro X f g j l i pins s σ H E I d st hg;subst f g j;obtain⟨f0,m,x,p,q,r⟩:=d it (by simp);have W:=Walks.range (prog:=X.prog) (w:=X.w) (I.ok.hd l) it lo 1 n;refine W.item i s _ _ hg st λv h' tk hv c kk=>?_;obtain⟨t,rfl⟩:=hv;have y:Inv X pins σ H {s with heap:=h',toks:=tk}:=I.turned (λb o a e=>kk b o (by simpa using a) e) f0 m p q r;refine⟨_,rfl,yJ (s:={s with heap:=h',toks:=tk}) (n:= "range_iterator") c rfl rfl (by decide) ⟨.int (lo+i),H,y,⟨t,?_⟩,⟨rfl,rfl⟩,c,λb a=>(d b a).1⟩⟩;rw[Int.mul_one]
 done:=by
  intro X f g j l i pins s σ H E I d st hg;subst f g j;obtain⟨f0,m,x,p,q,r⟩:=d it (by simp)
  exact wpAny_pyNext_range_end (I.ok.hd l) st (by have:n<=i:=hg;lia) λh' A=>⟨rfl,I.turned (t' :=s.toks) (λb o a e=>A b o a e) f0 m p q r⟩
 self:=λ_ _ _ _ _ st h=>wpAny_pyIter_rangeiter st h
section
variable {X:Cx}{tg:Expr}
theorem xP{R:It->Hp->Prop}{lo hi:Int}{t u v:Tok}{tk:Nat}(I:Inv X pins σ H s)(c: -(2^62)<=lo)(d:lo<2^62)(f: -(2^62)<=hi)(g:hi<2^62)
  (q:R (X0 lo (hi-lo).toNat) H):wpAny (model X.prog X.w) X.A (pyIter (.ref s.heap.objs.size)) (YO X pins σ tg R) E {s with heap:=s.heap.push {cls:= .type "range",data:= .fields #[.int lo t,.int hi u,.int 1 v]},toks:=tk}:=by
 refine wpAny_pyIter_range (IsRange.new ..) (small_one c d f g) ?_;have a:Inv X pins σ H {s with heap:=s.heap.push {cls:= .type "range",data:= .fields #[.int lo t,.int hi u,.int 1 v]},toks:=tk}:=I.kept λb o e=>aB1 _ e
 refine⟨(s.heap.push {cls:= .type "range",data:= .fields #[.int lo t,.int hi u,.int 1 v]}).objs.size,[(s.heap.push {cls:= .type "range",data:= .fields #[.int lo t,.int hi u,.int 1 v]}).objs.size],_,_,H,rfl,
  a.kept (t' :=tk) λb o e=>aB1 _ e,zO _ lo (hi-lo).toNat,?_,λb h=>?_,q⟩
 ·have i:lo+((0:Nat):Int)*1=lo:=by simp
  have j:(((hi-lo).toNat:Nat):Int)-((0:Nat):Int)=Builtin.Range.rangeSize lo hi 1:=by rw[rangeSize_one];split <;> lia
  show IsRangeIter _ _ (lo+((0:Nat):Int)*1) ((((hi-lo).toNat:Nat):Int)-((0:Nat):Int)) 1;rw[i,j];exact aB4 _ rfl
 ·have e:b=(s.heap.push {cls:= .type "range",data:= .fields #[.int lo t,.int hi u,.int 1 v]}).objs.size:=by simpa using h
  subst e;exact a.AR (aB3 _) (a.bD.fresh (aB3 _))
def W6(a:TA):TI:=λσ H R=>a σ H λvs b=>∃j:Int,vs=[.int j]/\ -(2^62)<=j/\j<2^62/\R (X0 0 j.toNat) b
def W5(a:TA):TI:=λσ H R=>a σ H λvs b=>∃i j:Int,vs=[.int i,.int j]/\(-(2^62)<=i/\i<2^62/\ -(2^62)<=j/\j<2^62)/\R (X0 i (j-i).toNat) b
theorem DG{a:Expr}{c:TA}{p pos:Pos}(hg:Gl X "range")(d:X.mg "range"=none)(f:PA X [a] c)(hs:starEach [a] X.env=[(false,eval a X.env)]:=by rfl):PI X tg (.Call (.Name "range" p) [a] [] pos) (W6 c):=by
 intro pins s σ H R I h;refine Call_ (jS I hg d boot_range (aBz (cA (f pos pins s σ H _ I h) λus s1 ⟨vs,m,g,i,b⟩=>?_) hs rfl));obtain⟨j,e,b,k,q⟩:=b;subst e
 cases i with
 | cons r l=>
  cases l;obtain⟨t,rfl⟩:=r;exact call_range_1 (xP g (by lia) (by lia) b k (by simpa using q))
theorem DF{a b:Expr}{g:TA}{p pos:Pos}(hg:Gl X "range")(k:X.mg "range"=none)(l:PA X [a,b] g)(hs:starEach [a,b] X.env=[(false,eval a X.env),(false,eval b X.env)]:=by rfl)(c:starEach [b] X.env=[(false,eval b X.env)]:=by rfl):
  PI X tg (.Call (.Name "range" p) [a,b] [] pos) (W5 g):=by
 intro pins s σ H R I h;refine Call_ (jS I hg k boot_range (aBz (cA (l pos pins s σ H _ I h) λus s1 ⟨vs,x,m,n,d⟩=>?_) (by rw[hs,c]) (by rw[c];rfl)));obtain⟨i,j,e,⟨d,o,u,v⟩,q⟩:=d;subst e
 cases n with
 | cons r f=>
  cases f with
  | cons w f=>
   cases f;obtain⟨t,rfl⟩:=r;obtain⟨t',rfl⟩:=w;exact call_range_2 (xP m d o u v q)
def Y9(wi:TI)(g:TG)(d:TS):TS:=λD σ H=>wi σ H λJ e=>∃W:Nat->Nat->St->Hp->Prop,(∃m,W 0 m σ e)/\∀i m σ H,W i m σ H->
 (J.stop i H/\D.nx σ H)\/(J.go i H/\∃N:St->Hp->Prop,(∀a H',N a H' ->∃c,c<m/\W (i+1) c a H')/\∀x H',J.NY i H x H' ->g x σ H' λb f=>d {D with nx:=N,ct:=N,bk:=D.nx} b f)
def qN(fp:List Addr)(h:Heap):List (Addr×Obj):=fp.filterMap λb=>(h.get? b).map λo=>(b,o)
variable{fp:List Addr}
theorem iH(a:b∈fp)(e:h.get? b=some o):(b,o)∈qN fp h:=List.mem_filterMap.mpr ⟨b,a,by rw[e];rfl⟩
theorem DM{p:Addr×Obj}(a:p∈qN fp h):p.1∈fp/\h.get? p.1=some p.2:=by
 obtain⟨b,c,e⟩:=List.mem_filterMap.mp a
 cases q:h.get? b with
 | none=>rw[q]at e;cases e
 | some o=>
  rw[q]at e;have d :(b,o)=p:=aBl e;subst d;exact⟨c,q⟩
theorem Inv.pinned(I:Inv X pins σ H s)(f:∀b∈fp,rR X pins H b)(ho:∀b∈fp,∃o,s.heap.get? b=some o/\∀v,o.data≠ .cell v):Inv X (pins++qN fp s.heap) σ H s:=
 I.B0 λp g=>(aBn.mp g).elim (λz=>I.pin p (aBs _ z)) λz=>by
  obtain⟨a,e⟩:=DM z;obtain⟨f0,h,i,_⟩:=f p.1 a;obtain⟨o,c,d⟩:=ho p.1 a;rw[e]at c;cases c;exact⟨e,f0,h,i,d⟩
theorem Inv.mV{pins a:List (Addr×Obj)}(I:Inv X (pins++a) σ H s):Inv X pins σ H s:=I.B0 λp b=>I.pin p (aBs _ (aDs _ b))
theorem FY{iter:Expr}{body:List Stmt}{wi:TI}{g:TG}{Y:TS}{pos:Pos}(z:PassesOwn (model X.prog X.w) X.A X.env X.xe)(Z:X.calm=true)(hi:PI X tg iter wi)(hg:PG X tg g)(c:t9 X body Y)
  (hs:∀x,foldedSetIterable iter X.env x=pure x:=by intro _;rfl):PS X (.For tg iter body [] pos) (Y9 wi g Y):=by
 intro pins s σ H D I h;refine wpAny_For (cA (hi pins s σ H _ I h) λv s1 h1=>cA h1 λitv s2 h2=>?_) hs;obtain⟨it,fp,tn,J,H2,e,I2,T,P,f2,W,⟨m0,w0⟩,B⟩:=h2;subst e
 have j:∀{H' :Hp},(∀b∈fp,H' b=none)->∀b∈fp,rR X pins H' b:=λhn b c=>⟨hn b c,(f2 b c).2⟩
 refine codeAny_forLoop_any (λn s' =>∃i k H',Inv X pins k H' s' /\tn i s'.heap/\(∀b∈fp,H' b=none)/\W i n k H') ?_ m0 ⟨0,σ,H2,I2,P,λb c=>(f2 b c).1,w0⟩;rintro n s3 ⟨i,l,O,I3,C,E,w3⟩
 rcases B i n l O w3 with ⟨stop,qn⟩ | ⟨go,N,hN,step⟩
 ·refine aCr z (cA (T.done X rfl rfl rfl Z i pins s3 l O X.xe I3 (j E) C stop) λr s4 F=>?_);obtain⟨Q,I4⟩:=F;subst Q;exact aDu ⟨l,O,I4,qn⟩
 ·refine aCr z (cA (T.item X rfl rfl rfl Z i pins s3 l O X.xe I3 (j E) C go) λr s4 G=>?_);obtain⟨u,Q,h4⟩:=G;subst Q;refine aCr z (cA h4 λ_ s5 K=>?_);obtain⟨x,H5,I5,r5,y5,y,R⟩:=K;have S :=I5.pinned (j R) (T.obj _ _ y);refine aCr z (cA (hg _ s5 l H5 x u _ S r5 (step x H5 y5)) λ_ s6 L=>?_);obtain⟨U,H6,I6,q6⟩:=L;refine aCr z (cA (c _ s6 U H6 _ I6 q6) λf V t=>?_)
  have again:∀{a:St} {p:Hp},Inv X (pins++qN fp s5.heap) a p V->N a p->∃m,m<n/\∃i k H',Inv X pins k H' V/\tn i V.heap/\(∀b∈fp,H' b=none)/\W i m k H' :=λ{a p} q M=>by
   obtain⟨m',hm,w7⟩:=hN a p M;refine⟨m',hm,i+1,a,p,q.mV,T.keep _ _ _ y λb c o e=>(q.pin (b,o) (aBs _ (aBs _ (iH c e)))).1,λb c=>?_,w7⟩;obtain⟨o,e,d⟩:=T.obj _ _ y b c;exact(q.pin (b,o) (aBs _ (aBs _ (iH c e)))).2.1
  cases f with
  | next=>obtain⟨a,p,q,M⟩:=t;exact again q M
  | cont=>obtain⟨a,p,q,M⟩:=t;exact again q M
  | brk=>obtain⟨a,p,q,t⟩:=t;exact⟨a,p,q.mV,t⟩
  | ret v=>obtain⟨x7,a,p,q,r7,t⟩:=t;exact⟨x7,a,p,q.mV,r7,t⟩
end
abbrev R2:=V->V->Hp->VK->Prop
def cS(X:Cx)(f:Value->Value->Sem Value)(r:R2):Prop:=
 ∀(pins:List (Addr×Obj)) (s:Shared) (σ:St) (H:Hp) (x y:V) (v u:Value) (Q:VK),Inv X pins σ H s->RelV x v->RelV y u->r x y H Q->
  wpAny (model X.prog X.w) X.A (f v u) (EP X pins σ Q) X.xe s
def bR(X:Cx)(f:Value)(r:List V->Hp->VK->Prop):Prop:=
 ∀(pins:List (Addr×Obj)) (s:Shared) (σ:St) (H:Hp) (xs:List V) (us:List Value) (Q:VK),Inv X pins σ H s->Vals xs us->r xs H Q->
  wpAny (model X.prog X.w) X.A (call f us) (EP X pins σ Q) X.xe s
def aAv(X:Cx)(r:V->Hp->(Bool->Hp->Prop)->Prop):Prop:=
 ∀(pins:List (Addr×Obj)) (s:Shared) (σ:St) (H:Hp) (x:V) (v:Value) (Q:Bool->Hp->Prop),Inv X pins σ H s->RelV x v->r x H Q->
  wpAny (model X.prog X.w) X.A (truthy v) (TP X pins σ Q) X.xe s
def UX(r:R2)(a b:TE):TE:=λσ H Q=>a σ H λx c=>b σ c λy d=>r x y d Q
def rI(C:Int->Int->Prop)(g:Int->Int->V):R2:=λx y H Q=>∃i j,x= .int i/\y= .int j/\C i j/\Q (g i j) H
def PY(g:Int->Int->V):R2:=λx y H Q=>∃i j,x= .int i/\y= .int j/\Q (g i j) H
section
variable {X:Cx}{a b c:Expr}{ta tb tc:TE}{pos:Pos}
variable{f:Value->Value->Sem Value}
theorem T8(k:PE X a ta)(l:PE X b tb){R:V->V->Hp->Prop}(I:Inv X pins σ H s)
  (h:ta σ H λx j=>tb σ j λy c=>R x y c) {Q:aEe} 
  (m:∀v u s2 x y c,Inv X pins σ c s2->RelV x v->RelV y u->R x y c->wpAny (model X.prog X.w) X.A (f v u) Q X.xe s2):
  wpAny (model X.prog X.w) X.A (eval a X.env) (λv d=>wpAny (model X.prog X.w) X.A (eval b X.env) (λu e=>wpAny (model X.prog X.w) X.A (f v u) Q X.xe e) X.xe d) X.xe s:=by
 refine cA (k pins s σ H _ I h) λv s1 g=>?_;obtain⟨x,j,n,o,p⟩:=g;refine cA (l pins s1 σ j _ n p) λu s2 i=>?_;obtain⟨y,c,q,r,t⟩:=i;exact m v u s2 x y c q o r t
theorem OF{c:Operator}{r:R2}(ho:cS X (binaryOp c) r)(d:PE X a ta)(e:PE X b tb):PE X (.BinOp a c b pos) (UX r ta tb):=by
 intro pins s σ H Q I h;exact wpAny_BinOp (T8 d e I h λv u s2 x y f g i j q=>ho pins s2 σ f x y v u Q g i j q)
variable{g:Int->Int->Int}
theorem YC{C:Int->Int->Prop}
  (rule:∀(i j:Int) (t u:Tok) (s:Shared) (Q:aEe) (E:aEe),C i j->Q (.int (g i j) s.toks) {s with toks:=s.toks+1}->wpAny (model X.prog X.w) X.A (f (.int i t) (.int j u)) Q E s):
  cS X f (rI C λi j=>.int (g i j)):=by
 intro pins s σ H x y v u Q I a b h;obtain⟨i,j,rfl,rfl,c,q⟩:=h;obtain⟨t,rfl⟩:=a;obtain⟨t',rfl⟩:=b;exact rule i j t t' s _ _ c ⟨.int (g i j),H,I.tok _,⟨_,rfl⟩,q⟩
theorem V1
  (rule:∀(i j:Int) (t u:Tok) (s:Shared) (Q:aEe) (E:aEe),Q (.int (g i j) s.toks) {s with toks:=s.toks+1}->wpAny (model X.prog X.w) X.A (f (.int i t) (.int j u)) Q E s):
  cS X f (PY λi j=>.int (g i j)):=by
 intro pins s σ H x y v u Q I a b h;obtain⟨i,j,rfl,rfl,q⟩:=h;obtain⟨t,rfl⟩:=a;obtain⟨t',rfl⟩:=b;exact rule i j t t' s _ _ ⟨.int (g i j),H,I.tok _,⟨_,rfl⟩,q⟩
theorem V2{g:Int->Int->Bool}
  (rule:∀(i j:Int) (t u:Tok) (s:Shared) (Q:aEe) (E:aEe),Q (.bool (g i j)) s->wpAny (model X.prog X.w) X.A (f (.int i t) (.int j u)) Q E s):
  cS X f (PY λi j=>.bl (g i j)):=by
 intro pins s σ H x y v u Q I a b h;obtain⟨i,j,rfl,rfl,q⟩:=h;obtain⟨t,rfl⟩:=a;obtain⟨t',rfl⟩:=b;exact rule i j t t' s _ _ ⟨.bl (g i j),H,I,rfl,q⟩
def X1(i j:Int):Prop:=0<j/\j<1073741824
def UG(i j:Int):Prop:=0<=j/\j<=1000000/\i.natAbs<2^64
def EU(i j:Int):Prop:=(-(2^64)<i/\i<2^64)\/(-(2^64)<j/\j<2^64)
theorem EU.ok{i j:Int}(h:EU i j):IntMulOk i j:=by
 rcases h with ⟨a,b⟩ | ⟨a,b⟩
 ·exact .of_left (intBits_le_64 a b)
 ·exact .of_right (intBits_le_64 a b)
theorem QR:cS X (binaryOp .Add) (PY λi j=>.int (i+j)):=V1 λ_ _ _ _ _ _ _ q=>add_int q
theorem QL:cS X (binaryOp .Sub) (PY λi j=>.int (i-j)):=V1 λ_ _ _ _ _ _ _ q=>sub_int q
theorem QO:cS X (binaryOp .Mult) (rI EU λi j=>.int (i*j)):=YC λ_ _ _ _ _ _ _ a q=>mul_int q a.ok
theorem LB:cS X (binaryOp .FloorDiv) (rI X1 λi j=>.int (i / j)):=YC λi j _ _ _ _ _ a q=>by
 have b:(0:Int)<j:=a.1;have c:j<1073741824:=a.2;exact floordiv_int (by lia) (by rw[Int.fdiv_eq_ediv_of_nonneg i (by lia)];exact q) (.inl (PyProof.noPylong_small (by lia)))
theorem QP:cS X (binaryOp .Mod) (rI (λ_ j=>0<j) λi j=>.int (i % j)):=YC λi j _ _ _ _ _ a q=>by
 have b:(0:Int)<j:=a;exact mod_int' (by lia) (by rw[Int.fmod_eq_emod_of_nonneg i (by lia)];exact q)
theorem QM:cS X (binaryOp .Pow) (rI UG λi j=>.int (i^j.toNat)):=YC λ_ _ _ _ _ _ _ a q=>pow_int_small a.1 a.2.1 a.2.2 q
end
section
variable {X:Cx}{a b c:Expr}{ta tb tc:TE}{pos:Pos}
theorem AS{Q:VK}{k a :Bool}(I:Inv X pins σ H s)(q:Q (.bl k) H)(e:k=a):EP X pins σ Q (.bool a) s:=by
 subst e;exact⟨.bl k,H,I,rfl,q⟩
theorem VZ:cS X (compareOp .Lt) (PY λi j=>.bl (decide (i<j))):=V2 λ_ _ _ _ _ _ _ q=>lt_int q
theorem V0:cS X (compareOp .Gt) (PY λi j=>.bl (decide (j<i))):=V2 λ_ _ _ _ _ _ _ q=>gt_int q
theorem DI:cS X (compareOp .Lt) (λx y H Q=>∃i j,x= .str i/\y= .str j/\Q (.bl (decide (i.cps.toList<j.cps.toList))) H):=by
 intro pins s σ H x y v u Q I a b h;obtain⟨i,j,rfl,rfl,q⟩:=h;obtain⟨t,rfl⟩:=a;obtain⟨t',rfl⟩:=b;exact lt_str (AS I q rfl)
theorem DJ:cS X (compareOp .In) (λx y H Q=>∃i j,x= .str i/\y= .str j/\Q (.bl (!(Builtin.Str.occurrences j i 0 j.length 1).isEmpty)) H):=by
 intro pins s σ H x y v u Q I a b h;obtain⟨i,j,rfl,rfl,q⟩:=h;obtain⟨t,rfl⟩:=a;obtain⟨t',rfl⟩:=b;exact in_str (AS I q rfl)
theorem K8:cS X (compareOp .IsNot) (λx y H Q=>y= .bF/\Q (.bl (!decide (x= .bF))) H):=by
 intro pins s σ H x y v u Q I a b h;obtain⟨rfl,q⟩:=h;cases b;refine isnot_none_gen (AS I q ?_)
 cases x <;> first
  | (cases a;rfl)
  | (obtain⟨t,rfl⟩:=a;rfl)
theorem K3{c:CmpOp}{r:R2}(ho:cS X (compareOp c) r)(d:PE X a ta)(e:PE X b tb)(f:behindInMarks c b=false):PE X (.Compare a [c] [b] pos) (UX r ta tb):=by
 intro pins s σ H Q I h;exact wpAny_Compare1 (T8 d e I h λv u s2 x y g i j k q=>ho pins s2 σ g x y v u Q i j k q) f
def N6(t:TE):TT:=λσ H Q=>t σ H λx H' =>∃k,x= .bl k/\Q k H'
theorem KQ{d:CmpOp}{r:R2}(ho:cS X (compareOp d) r)(f:PE X a ta)(g:PE X b tb)(i:behindInMarks d b=false):PT X (.Compare a [d] [b] pos) (N6 (UX r ta tb)):=by
 intro pins s σ H Q I h
 refine wpAny_isTrue_Compare1 (cA (f pins s σ H _ I h) λv s1 ⟨x,j,l,m,n⟩=>cA (g pins s1 σ j _ l n) λu s2 ⟨y,o,p,q,t⟩=>
  cA (ho pins s2 σ o x y v u _ p m q t) λc D ⟨z,w,A,B,k,e,C⟩=>?_) i
 subst e;cases B;exact aD3 ⟨w,A,C⟩
def UC(K:aEd)(x:V)(H:Hp)(k:Bool):Prop:=
 match x with
 | .bF=>k=false
 | .bl b=>k=b
 | .int i=>k=(i !=0)
 | .str y=>y.length<=sizeLine/\k=((y.length:Int) !=0)
 | .byt y=>y.size<=sizeLine/\k=((y.size:Int) !=0)
 | .ref p=>(∃xs,nV K H p xs/\k= !xs.isEmpty)\/(∃xs,pG K H p xs/\k= !xs.isEmpty)\/∃kvs,H p=some (.dK kvs)/\k= !kvs.isEmpty
 | _=>False
theorem AM{κ:Type}{kvs:List (κ×V)}{vs:List (κ×Value)}(r:KV kvs vs):(!vs.isEmpty)= !kvs.isEmpty:=by
 cases r <;> rfl
theorem qX{xs:List V}{aH:List Value}(r:Vals xs aH):(!aH.toArray.isEmpty)= !xs.isEmpty:=by
 cases r <;> simp
theorem jR:(sizeLine:Nat)<2^63:=by rw[sizeLine_eq];decide
theorem O6:aAv X (λx H Q=>∃k,UC X.K x H k/\Q k H):=by
 intro pins s σ H x v Q I d h;obtain⟨k,e,q⟩:=h;have n:=jR;have hs:sizeLine=16777216:=aBk
 cases x with
 | bF=>
  cases d;have a :k=false:=e;subst a;exact truthy_none ⟨H,I,q⟩
 | bl b=>
  cases d;have a :k=b:=e;subst a;exact aD3 ⟨H,I,q⟩
 | int i=>
  obtain⟨t,rfl⟩:=d;have a :k=(i !=0):=e;subst a;exact PySem.P.truthy_int ⟨H,I,q⟩
 | str y=>
  obtain⟨t,rfl⟩:=d;obtain⟨j,a⟩:y.length<=sizeLine/\k=((y.length:Int) !=0):=e;subst a;exact PySem.P.truthy_str (by lia) ⟨H,I.tok _,q⟩
 | byt y=>
  obtain⟨t,rfl⟩:=d;obtain⟨j,a⟩:y.size<=sizeLine/\k=((y.size:Int) !=0):=e;subst a;exact PySem.W.truthy_bytes (by lia) ⟨H,I.tok _,q⟩
 | ref p=>
  cases d;have a :(∃xs,nV X.K H p xs/\k= !xs.isEmpty)\/(∃xs,pG X.K H p xs/\k= !xs.isEmpty)\/∃kvs,H p=some (.dK kvs)/\k= !kvs.isEmpty:=e
  rcases a with ⟨xs,f,a⟩ | ⟨xs,f,a⟩ | ⟨kvs,f,a⟩
  ·subst a;obtain⟨aH,r,g,hz⟩:=I.list f;have c:=r.length;exact wpAny_truthy_list g.isList (by simp only[List.size_toArray];lia) ⟨H,I.tok _,by rw[qX r];exact q⟩
  ·subst a;obtain⟨aH,r,g,hz⟩:=I.tuple f;have c:=r.length;exact truthy_tuple g (by simp only[List.size_toArray];lia) ⟨H,I.tok _,by rw[qX r];exact q⟩
  ·subst a;obtain⟨hz,l,vs,r,m⟩:kvs.length<=sizeLine/\(p==sysModules)=false/\∃vs,KV kvs vs/\s.heap.DictOf (aP X.prog X.w) p vs:=I.bD p _ f;have c:kvs.length=vs.length:=Paired.length r;exact wpAny_truthy_dict l m (by lia) ⟨H,I.tok _,by rw[AM r];exact q⟩
 | _=>exact(show False from e).elim
theorem FU(d:PE X a ta)(he:∀b,isTrue a X.env b=(do let v<-b;standAt a.pos;holding [v] (truthy v))):
  PT X a (λσ H Q=>ta σ H λx H' =>∃k,UC X.K x H' k/\Q k H'):=by
 intro pins s σ H Q I h;exact isTrue_plain (cA (d pins s σ H _ I h) λv s1 c=>by obtain⟨x,e,f,g,i⟩:=c;exact O6 pins s1 σ e x v Q f g i) (he _)
theorem zY:cS X (binaryOp .Add) (λx y H Q=>∃i j,x= .str i/\y= .str j/\i.length+j.length<=sizeLine/\Q (.str (i++j)) H):=by
 intro pins s σ H x y v u Q I a b h;obtain⟨i,j,rfl,rfl,hz,q⟩:=h;obtain⟨t,rfl⟩:=a;obtain⟨t',rfl⟩:=b;exact add_str (λt' tk=>⟨.str (i++j),H,I.tok _,⟨_,rfl⟩,q⟩) hz
theorem vals1{x:V}(r:Vals [x] us):∃u,us=[u]/\RelV x u:=by
 cases r with
 | cons a b=>cases b;exact⟨_,rfl,a⟩
theorem vals2{x y:V}(r:Vals [x,y] us):∃u a,us=[u,a]/\RelV x u/\RelV y a :=by
 cases r with
 | cons b c=>
  cases c with
  | cons d e=>cases e;exact⟨_,_,rfl,b,d⟩
theorem IV:bR X (.builtin "abs") (λxs H Q=>∃i,xs=[.int i]/\Q (.int (if i<0 then -i else i)) H):=by
 intro pins s σ H xs us Q I r h;obtain⟨i,rfl,q⟩:=h;obtain⟨u,rfl,t,rfl⟩:=vals1 r
 exact call_abs_int λu tk=>⟨.int (if i<0 then -i else i),H,I.tok _,⟨_,rfl⟩,q⟩
theorem EN(b:X.calm=true):bR X (.builtin "max") (λxs H Q=>∃i j,xs=[.int i,.int j]/\Q (.int (if j > i then j else i)) H):=by
 intro pins s σ H xs us Q I r h;obtain⟨i,j,rfl,q⟩:=h;obtain⟨u,c,rfl,⟨t,rfl⟩,⟨t',rfl⟩⟩:=vals2 r
 refine max_two_ints (I.ok.hd b) λh' tk k=>⟨_,H,I.kept k,?_,q⟩
 by_cases a:j > i
 ·rw[if_pos a,if_pos a];exact⟨_,rfl⟩
 ·rw[if_neg a,if_neg a];exact⟨_,rfl⟩
theorem EM(b:X.calm=true):bR X (.builtin "min") (λxs H Q=>∃i j,xs=[.int i,.int j]/\Q (.int (if j<i then j else i)) H):=by
 intro pins s σ H xs us Q I r h;obtain⟨i,j,rfl,q⟩:=h;obtain⟨u,c,rfl,⟨t,rfl⟩,⟨t',rfl⟩⟩:=vals2 r
 refine min_two_ints (I.ok.hd b) λh' tk k=>⟨_,H,I.kept k,?_,q⟩
 by_cases a:j<i
 ·rw[if_pos a,if_pos a];exact⟨_,rfl⟩
 ·rw[if_neg a,if_neg a];exact⟨_,rfl⟩
theorem tU:bR X (.type "int") (λxs H Q=>(∃i,xs=[.int i]/\Q (.int i) H)\/∃k,xs=[.bl k]/\Q (.int (if k then 1 else 0)) H):=by
 intro pins s σ H xs us Q I r h
 rcases h with ⟨i,rfl,q⟩ | ⟨k,rfl,q⟩
 ·obtain⟨u,rfl,t,rfl⟩:=vals1 r;exact call_int_int ⟨.int i,H,I,⟨_,rfl⟩,q⟩
 ·obtain⟨u,rfl,a⟩:=vals1 r;cases a;exact call_int_bool ⟨.int (if k then 1 else 0),H,I.tok _,⟨_,rfl⟩,q⟩
end
theorem pH.some_of{v:V}{o:Option Value}(r:pH (some v) o):∃u,o=some u/\RelV v u:=by
 cases o with
 | none=>exact(show False from r).elim
 | some u=>exact⟨u,rfl,r⟩
structure eE(k:Nat)(A:Around):Prop where
 hd:A.handled=none
 dp:A.depth+3*k+5<recursionLimit
 un:A.units+16*k+200<cLine
theorem eE.mono{j k:Nat}(r:eE k A)(h:j<=k):eE j A:=⟨r.hd,by have:=r.dp;lia,by have:=r.un;lia⟩
theorem eE.deeper{k:Nat}(r:eE (k+1) A)(env:Env):eE k (A.deeper env):=
 ⟨r.hd,by have:=r.dp;show A.depth+1+3*k+5<_;lia,by have:=r.un;show A.units+3+16*k+200<_;lia⟩
theorem eE.depth{k:Nat}(r:eE k A):A.depth<recursionLimit:=by have:=r.dp;lia
theorem eE.units{k:Nat}(r:eE k A):A.units+64<cLine:=by have:=r.un;lia
def Y4:TA:=λ_ H Q=>Q [] H
def U1(a:TE)(tr:TA):TA:=λσ H Q=>a σ H λx b=>tr σ b λxs c=>Q (x::xs) c
section
variable {X:Cx}{e:Expr}{es:List Expr}{te:TE}{t:TA}{pos:Pos}
theorem zX:PA X [] Y4:=λ_ _ _ _ H Q I h=>Calls.spliced_nil ⟨[],H,I,.nil,h⟩
theorem uM(c:PE X e te)(d:PA X es t)(hs:starEach (e::es) X.env=(false,eval e X.env)::starEach es X.env:=by rfl):PA X (e::es) (U1 te t):=by
 intro pos pins s σ H Q I h;rw[hs];show wpAny _ _ (spliced ((false,eval e X.env)::backTo pos (starEach es X.env))) _ _ s;refine aCx (cA (c pins s σ H _ I h) λu s1 a=>?_);obtain⟨x,f,g,i,j⟩:=a;exact cA (d pos pins s1 σ f _ g j) λus s2 b=>by obtain⟨xs,k,l,m,n⟩:=b;exact⟨x::xs,k,l,.cons i m,n⟩
def Y0(t:TA):TE:=λσ H Q=>t σ H λxs a=>xs.length<=sizeLine/\∀p,a p=none->Q (.ref p) (upd a p (.tup xs))
def Y5(t:TA):TE:=λσ H Q=>t σ H λxs a=>xs.length<=sizeLine/\∀p,a p=none->Q (.ref p) (upd a p (.lst xs))
theorem F4{x1}(h:PA X es t):PE X (.Tuple es x1 pos) (Y0 t):=by
 intro pins s σ H Q I d;refine wpAny_Tuple_spliced (cA (h pos pins s σ H _ I d) λus s1 ⟨xs,a,c,r,z,q⟩=>⟨by rw[<-r.length];exact z,?_⟩);have f:a s1.heap.objs.size=none:=c.bD.fresh (aB3 _);refine⟨.ref s1.heap.objs.size,upd a s1.heap.objs.size (.tup xs),c.laid (t' :=s1.toks) (λb u e=>aB1 _ e) (aB3 _) ?_,rfl,q _ f⟩;exact⟨z,us,r,⟨_,aB4 _ rfl,rfl,_,rfl⟩,qB _ _⟩
theorem QI(h:PA X es t):PE X (.List es pos) (Y5 t):=by
 intro pins s σ H Q I d;refine wpAny_List_spliced (cA (h pos pins s σ H _ I d) λus s1 ⟨xs,a,c,r,z,q⟩=>⟨by rw[<-r.length];exact z,?_⟩);have f:a s1.heap.objs.size=none:=c.bD.fresh (aB3 _);refine⟨.ref s1.heap.objs.size,upd a s1.heap.objs.size (.lst xs),c.laid (t' :=s1.toks) (λb u e=>aB1 _ e) (aB3 _) ?_,rfl,q _ f⟩;exact⟨z,us,0,r,aB4 _ rfl⟩
end
abbrev Sp:=List V->Hp->VK->XK->Prop
abbrev EX:=List Env->Hp->Shared->XK->aEe
structure NT(P:Program)(w:World)(K:aEd)(mg:aEg)(base:Heap)(A:Around)(outer:List Env)(s:Shared)(H:Hp):Prop where
 frames:A.frames=some outer
 mod:Mod K mg base
 bs:∀b o,base.get? b=some o->s.heap.get? b=some o/\H b=none
 NM:base.objs.size<=s.heap.objs.size
 qZ:s.heap.FunFrames base outer
 UJ:∀b∈IA outer,H b=none
 bD:nT P w H s.heap
 bare:AllBare s.gens
def CE(outer:List Env)(P:Program)(w:World)(H:Hp)(s:Shared)(Q:VK)(u:Value)(a :Shared):Prop:=
 ∃v H',a.os=s.os/\AllBare a.gens/\Un (IA outer) [] H H' s.heap a.heap/\nT P w H' a.heap/\RelV v u/\Q v H'
def CR(CX:EX)(outer:List Env)(P:Program)(w:World)(H:Hp)(s:Shared)(Q:VK)(E:XK)(r:Result)(a :Shared):Prop:=
 match r with
 | .ok (.ret u)=>CE outer P w H s Q u a
 | .ok _=>False
 | .error e=>CX outer H s E e a
structure hU(P:Program)(w:World)(K:aEd)(mg:aEg)(base:Heap)(CX:EX)(k:Nat)(f:Addr)(fd:FuncData)(ps:List Str)(sp:Sp):Prop where
 len:∀vs H Q E,sp vs H Q E->vs.length=ps.length
 run:∀(A:Around) (outer:List Env) (s:Shared) (H:Hp) (args:Args) (us:List Value) (vs:List V) (Q:VK) (E:XK),eE k A->NT P w K mg base A outer s H->BindsTo s fd args (ps.zip us)->Vals vs us->sp vs H Q E->
  codeAny (model P w) A (.call (.ref f) args) (CR CX outer P w H s Q E) s
variable{mg:aEg}{base:Heap}{f:Addr}{fd:FuncData}{ps:List Str}
theorem hU.mono{CX:EX}{j k:Nat}{sp:Sp}(F:hU P w K mg base CX j f fd ps sp)(h:j<=k):
  hU P w K mg base CX k f fd ps sp:=⟨F.len,λA outer s H args us vs Q E a=>F.run A outer s H args us vs Q E (a.mono h)⟩
theorem hU.imp{CX:EX}{k:Nat}{sp a :Sp}(F:hU P w K mg base CX k f fd ps sp)
  (h:∀vs H Q E,a vs H Q E->sp vs H Q E):hU P w K mg base CX k f fd ps a :=
 ⟨λvs H Q E q=>F.len vs H Q E (h _ _ _ _ q),λA outer s H args us vs Q E b he c hv hs=>F.run A outer s H args us vs Q E b he c hv (h _ _ _ _ hs)⟩
section
variable {X:Cx}{pins:List (Addr×Obj)}{σ:St}{H:Hp}{s s' :Shared}
theorem Inv.aAk(I:Inv X pins σ H s):NT X.prog X.w X.K X.mg X.base X.A X.stack s H:=
 ⟨I.ok.frames,I.ok.mod,I.bs,aBq I.ok.NM I.sz,I.stack,I.BS,I.bD,I.bare⟩
theorem Inv.after{Q:VK}(I:Inv X pins σ H s)(h:CE X.stack X.prog X.w H s Q u s'):EP X pins σ Q u s' :=by
 obtain⟨v,H',os,bare,un,bD,r,q⟩:=h;obtain⟨c,g,d,t,a⟩:=s';obtain rfl:a =s.os:=os;exact⟨v,H',I.call (h' :=c) (g' :=g) (d' :=d) (t' :=t) (ch:=[]) un bD bare (λb z=>absurd z (by simp)),r,q⟩
end
def U3(sp:Sp)(a:List V)(E:XK)(t:TA):TE:=λσ H Q=>t σ H λvs b=>sp (vs++a) b Q E
def Binds(K:aEd)(fd:FuncData)(ps:List Str)(ds:List Value):Prop:=
 ∀(s:Shared) (us:List Value),K.In s.heap->(us++ds).length=ps.length->BindsTo s fd ⟨us,[]⟩ (ps.zip (us++ds))
theorem Binds.all(h:∀us:List Value,us.length=ps.length->bindArgs fd ⟨us,[]⟩=pure (ps.zip us)):Binds K fd ps []:=λs us _ a=>by
 rw[List.append_nil]at a⊢;exact .of_eq (h us a)
def Passes(CX:EX)(X:Cx)(E:XK):Prop:=∀(pins:List (Addr×Obj)) (σ:St) (H:Hp) (s:Shared) (e:Value) (a :Shared),Inv X pins σ H s->CX X.stack H s E e a ->X.xe e a
section
variable {X:Cx}{CX:EX}{k:Nat}{f C:Addr}{fd:FuncData}{ps:List Str}{sp:Sp}{dvs:List V}{ds:List Value}{E:XK}{x m:Str}{p pos apos:Pos}{e o:Expr}{es:List Expr}{ta:TE}{t:TA}
theorem PU{Q:VK}{vs:List V}(F:hU X.prog X.w X.K X.mg X.base CX k f fd ps sp)(c:eE k X.A)(d:Binds X.K fd ps ds)(hd:Vals dvs ds)(g:Passes CX X E)
  (I:Inv X pins σ H s) (r:Vals vs us) (h:sp (vs++dvs) H Q E):wpAny (model X.prog X.w) X.A (call (.ref f) us) (EP X pins σ Q) X.xe s:=by
 have b:Vals (vs++dvs) (us++ds):=r.append hd;have i:(us++ds).length=ps.length:=by rw[<-b.length];exact F.len _ _ _ _ h
 refine wpAny_call (codeAny_mono (F.run X.A X.stack s H ⟨us,[]⟩ (us++ds) (vs++dvs) Q E c I.aAk (d s us I.OO i) b h) λr j a=>?_)
 cases r with
 | error e=>exact g pins σ H s e j I a
 | ok fl=>
  cases fl with
  | ret u=>exact I.after a
  | next=>exact False.elim a
  | brk=>exact False.elim a
  | cont=>exact False.elim a
theorem K4(F:hU X.prog X.w X.K X.mg X.base CX k f fd ps sp)(d:eE k X.A)(hg:Gl X x)(g:X.mg x=some (.ref f))(hk:PySem.W.keepIn X.K (.ref f)=true)(i:Binds X.K fd ps ds)(hd:Vals dvs ds)(j:Passes CX X E)
  (l:PA X (e::es) t) (a:(x==("__debug__":Str))=false:=by decide) (he:starEach (e::es) X.env=(false,eval e X.env)::starEach es X.env:=by rfl) (b:(backTo pos (starEach es X.env)).any (·.1)=false:=by rfl):
  PE X (.Call (.Name x p) (e::es) [] pos) (U3 sp dvs E t):=by
 intro pins s σ H Q I h;refine aCy (ME I hg g ?_ a);refine PySem.W.callWith_K (h₀:=X.base) I.ok.mod.kin hk (cA (l pos pins s σ H _ I h) λus s1 ⟨vs,m,c,r,q⟩=>⟨c.OO,?_⟩) he b;exact PU F d i hd j c r q
end
structure aZ(N P:List Str)(sc:Scope):Prop where
 kind:sc.kind= .function
 co:sc.isCoroutine=false
 gen:sc.isGenerator=false
 nd:N.Nodup
 pre:N.take P.length=P
 par:∀x∈P,sc.names.lookup x=some .local\/sc.names.lookup x=some .cell
 RA:∀y∈sc.names,y.2≠ .free
theorem tV{kindOf:Str->Option NameKind}{x:Str}:∀{binds:List (Str×Value)} {m:aEg},(∀v,(x,v)∉binds)->bindL kindOf binds m x=m x
 | [],_,_=>rfl
 | (n,v)::r,m,h=>by
  unfold bindL;rw[tV λw a=>h w (List.mem_cons_of_mem _ a)];split
  ·have:x≠n:=by rintro rfl;exact h v aB6
   simp[this]
  ·rfl
theorem tX{kindOf:Str->Option NameKind}{x:Str}:∀{binds:List (Str×Value)} {m:aEg},(∀v,(x,v)∉binds)->bindC kindOf binds m x=m x
 | [],_,_=>rfl
 | (n,v)::r,m,h=>by
  unfold bindC;rw[tX λw a=>h w (List.mem_cons_of_mem _ a)];split
  ·rfl
  ·have:x≠n:=by rintro rfl;exact h v aB6
   simp[this]
theorem tW{kindOf:Str->Option NameKind}{x:Str}{v:Value}:∀{P:List Str} {vs:List Value} {i:Nat} {m:aEg},P.Nodup->P[i]? =some x->vs[i]? =some v->kindOf x=some .local->
  bindL kindOf (P.zip vs) m x=some v
 | [],_,_,_,_,h,_,_=>by simp at h
 | _::_,[],_,_,_,_,h,_=>by simp at h
 | p::P,w::vs,0,m,nd,h1,h2,hk=>by
  simp at h1 h2;subst h1;subst h2;show bindL kindOf ((p,w)::P.zip vs) m p=_;unfold bindL;rw[tV λv hv=>(List.nodup_cons.mp nd).1 (List.of_mem_zip hv).1,if_pos hk];simp
 | p::P,w::vs,i+1,m,nd,h1,h2,hk=>by
  show bindL kindOf ((p,w)::P.zip vs) m x=_;unfold bindL;exact tW (i:=i) (aDv.mp nd).2 (by simpa using h1) (by simpa using h2) hk
theorem tY{kindOf:Str->Option NameKind}{x:Str}{v:Value}:∀{P:List Str} {vs:List Value} {i:Nat} {m:aEg},P.Nodup->P[i]? =some x->vs[i]? =some v->kindOf x≠some .local->
  bindC kindOf (P.zip vs) m x=some v
 | [],_,_,_,_,h,_,_=>by simp at h
 | _::_,[],_,_,_,_,h,_=>by simp at h
 | p::P,w::vs,0,m,nd,h1,h2,hk=>by
  simp at h1 h2;subst h1;subst h2;show bindC kindOf ((p,w)::P.zip vs) m p=_;unfold bindC;rw[tX λv hv=>(List.nodup_cons.mp nd).1 (List.of_mem_zip hv).1,if_neg hk];simp
 | p::P,w::vs,i+1,m,nd,h1,h2,hk=>by
  show bindC kindOf ((p,w)::P.zip vs) m x=_;unfold bindC;exact tY (i:=i) (aDv.mp nd).2 (by simpa using h1) (by simpa using h2) hk
def start(N:List Str)(vs:List V):St:=vs.map some++List.replicate (N.length-vs.length) none
def pE(CX:EX)(P:Program)(w:World)(K:aEd)(mg:aEg)(base:Heap)(N:List Str)(qual:Str)(scope:Scope)(f:Addr)(b:Value)(A:Around)(outer:List Env)(s:Shared)(H:Hp)(E:XK):Cx where
 prog:=P
 w:=w
 K:=K
 mg:=mg
 base:=base
 A:=A.deeper (envOfC qual scope s.heap.objs.size f b)
 N:=N
 s₀:=s
 H₀:=H
 env:=envOfC qual scope s.heap.objs.size f b
 outer:=outer
 stack:=envOfC qual scope s.heap.objs.size f b::outer
 ex:=[]
 calm:=true
 fn:=λ_=>true
 pn:=[]
 xe:=λe c =>wpAny (model P w) (A.deeper (envOfC qual scope s.heap.objs.size f b)) (leaving (envOfC qual scope s.heap.objs.size f b) e) (λ_ a =>CX outer H s E e a) (λd a =>CX outer H s E d a) c
theorem yW{sc:Scope}{n:Nat}{x:Str}(h:sc.names.lookup x=some .cell):∃c,(cellsFrom n sc.names []).lookup x=some c:=by
 have q:=PySem.W.cellsFrom_some sc.names n [] (.inl h);exact Option.isSome_iff_exists.mp q
theorem D5{CX:EX}{N ps:List Str}{qual:Str}{scope:Scope}{o:Value}{outer:List Env}{s s1:Shared}{E:XK}{vs:List V}
  (S:aZ N ps scope) (hd:A.handled=none) (g:NT P w K mg base A outer s H) (G:vs.length=ps.length) (r:Vals vs us)
  (x:InCallC s s.heap.objs.size (bindL (envOfC qual scope s.heap.objs.size f o).kindOf (ps.zip us) λ_=>none) (cellsFrom (s.heap.objs.size+1) scope.names []) (bindC (envOfC qual scope s.heap.objs.size f o).kindOf (ps.zip us) λ_=>none) s1):
  Inv (pE CX P w K mg base N qual scope f o A outer s H E) [] (start N vs) H s1:=by
 have C:ps.length<=N.length:=by have:=aC0 List.length S.pre;rw[List.length_take]at this;lia
 obtain⟨t,tk,rfl,hk⟩:=x.done;have j:∀b:Addr,b∉(pE CX P w K mg base N qual scope f o A outer s H E).ex:=λb z=>absurd (show b∈([]:List Addr) from z) (by simp)
 refine⟨⟨g.mod,S.kind,rfl,rfl,aB3 _,λy z c t d=>?_,λy hy=>?_,λy c _ h=>?_,λ_=>hd,Around.frames_deeper g.frames,.inr ⟨rfl,rfl⟩,λb z=>absurd z (j b),g.bs,g.NM,λb _ _=>j b,λb z=>absurd z (j b),g.qZ,g.UJ⟩,
  rfl,g.bare,Un.kept hk,⟨_,x.toInCall.ns,λi y v t d I=>?_⟩,λy c h=>⟨_,x.cell y c h⟩,g.bD.fresh (aB3 _),λy c h=>?_,λp l=>absurd (show p∈([]:List (Addr×Obj)) from l) (by simp),g.bD.kept hk,?_⟩
 ·exact name_of_addr x.apart (aBo t) (aBo d)
 ·have hy:scope.names.lookup y=some .cell\/scope.names.lookup y=some .free:=hy;rcases hy with hy | hy
  ·exact yW hy
  ·exact absurd rfl (S.RA _ (aBo hy))
 ·exact aCs (x.above y c (aBo h))
 ·have hi:i<vs.length:=by
   unfold start at d;by_cases hi:i<vs.length
   ·exact hi
   ·rw[List.getElem?_append_right (by simpa using hi)]at d;rw[List.getElem?_replicate]at d;split at d <;> cases d
  have D:vs[i]? =some v:=by
   unfold start at d;rw[List.getElem?_append_left (by simpa using hi),List.getElem?_map]at d
   cases e:vs[i]? with
   | none=>rw[e]at d;cases d
   | some a=>rw[e]at d;cases d;rfl
  obtain⟨u,B,F⟩:=r.get D
  have l:ps[i]? =some y:=by
   rw[<-S.pre,List.getElem?_take_of_lt (by lia)];exact t
  have m:ps.Nodup:=by rw[<-S.pre];exact S.nd.sublist (aE6 _ _)
  refine⟨u,F,?_⟩;rcases S.par y (aB8 l) with k | k
  ·exact .inl ⟨k,tW m l B k⟩
  ·obtain⟨c,e⟩:=yW (n:=s.heap.objs.size+1) k;refine .inr ⟨.inl k,c,e,?_⟩;have q:=x.cell y c e;rw[tY m l B (by show scope.names.lookup y≠_;rw[k];decide)]at q;exact q
 ·exact g.bD.fresh (aCs (x.above y c (aBo h)))
 ·unfold start;show _=N.length;rw[List.length_append,List.length_map,List.length_replicate]
  lia
theorem OQ{CX:EX}{k:Nat}{name qual:Str}{a:Arguments}{body:List Stmt}{scope:Scope}{D kV doc pm cdv ct oc:Value}{an od:Option Addr}
  {osl:Array (Option Value)} {N ps:List Str} {sp:Sp} (F:K.lookup f=some ⟨oc,od,.func (PySem.W.fnOf name qual a body scope D kV doc pm an cdv ct),osl⟩) (m:PySem.W.codeIn K cdv qual=true) (S:aZ N ps scope)
  (len:∀vs H Q E,sp vs H Q E->vs.length=ps.length)
  (d:∀(A:Around) (outer:List Env) (s:Shared) (H:Hp) (vs:List V) (Q:VK) (E:XK),eE k (A.deeper (envOfC qual scope s.heap.objs.size f cdv))->sp vs H Q E->
   ∃t,t9 (pE CX P w K mg base N qual scope f cdv A outer s H E) body t/\t {nx:=λ_ H' =>Q .bF H',rt:=Q} (start N vs) H):
  hU P w K mg base CX (k+1) f (PySem.W.fnOf name qual a body scope D kV doc pm an cdv ct) ps sp:=by
 refine⟨len,λA outer s H args us vs Q E p h G r i=>?_⟩;have L:=len _ _ _ _ i;have KX:K.In s.heap:=h.mod.kin.keeps λb o e=>(h.bs b o e).1;have z:s.heap.NoLimit:=h.mod.nolimit.keeps λb o e=>(h.bs b o e).1
 have g:∀y∈ps.zip us,scope.names.lookup y.1=some .local\/(scope.names.lookup y.1=some .cell/\((cellsFrom (s.heap.objs.size+1) scope.names []).lookup y.1).isSome=true):=λj M=>by
  obtain⟨n,v⟩:=j;rcases S.par n (List.of_mem_zip M).1 with q | q
  ·exact .inl q
  ·exact .inr ⟨q,PySem.W.cellsFrom_some _ _ _ (.inl q)⟩
 refine codeAny_call_function p.depth (KX _ _ F) rfl S.co S.gen rfl (PySem.W.codeRec_of KX m) (G _ _ _ _ ?_);refine wpAny_newFunctionEnv_cells S.kind g λenv he s1 x=>?_;subst he;refine⟨z.keeps x.toInCall.keep,codeAny_func ?_⟩;obtain⟨t,ht,O⟩:=d A outer s H vs Q E (p.deeper _) i;have I:Inv (pE CX P w K mg base N qual scope f cdv A outer s H E) [] (start N vs) H s1:=D5 S p.hd h L r x;refine aBw (ht [] s1 (start N vs) H _ I O) (λfl B hs=>?_) λe B hs=>hs
 have l:∀{c :St} {H' :Hp} {v:V} {u:Value},Inv (pE CX P w K mg base N qual scope f cdv A outer s H E) [] c H' B ->RelV v u->Q v H' ->CE outer P w H s Q u B :=
  λ{c H' v u} J C q=>⟨v,H',J.os,J.bare,J.base,J.bD,C,q⟩
 cases fl with
 | ret u=>
  obtain⟨v,c,H',J,C,q⟩:=hs;exact l J C q
 | next=>
  obtain⟨c,H',J,q⟩:=hs;exact l (v:=V.bF) (u:=Value.none) J rfl q
 | brk=>
  obtain⟨_,_,_,q⟩:=hs;exact False.elim q
 | cont=>
  obtain⟨_,_,_,q⟩:=hs;exact False.elim q
section
variable {X:Cx}{x:Str}{p pos:Pos}{e:Expr}{es:List Expr}{t:TA}{id T:String}{r:List V->Hp->VK->Prop}
def ZC(r:List V->Hp->VK->Prop)(t:TA):TE:=λσ H Q=>t σ H λvs a=>r vs a Q
theorem xQ(d:bR X (.builtin id) r)(hg:Gl X x)(f:X.mg x=none)(hv:bootBuiltins x=some (.builtin id))(g:PA X (e::es) t)(i:x≠ "__name__":=by decide)(b:(x==("__debug__":Str))=false:=by decide)
  (he:starEach (e::es) X.env=(false,eval e X.env)::starEach es X.env:=by rfl) (c:(backTo pos (starEach es X.env)).any (·.1)=false:=by rfl):PE X (.Call (.Name x p) (e::es) [] pos) (ZC r t):=by
 intro pins s σ H Q I h;refine aCy (jS I hg f hv ?_ i b);exact PyProof.Rows.callWith_builtin1 (cA (g pos pins s σ H _ I h) λus s1 a=>by obtain⟨vs,j,k,l,m⟩:=a;exact d pins s1 σ j vs us Q k l m) he c
theorem sX(d:bR X (.type T) r)(hg:Gl X x)(f:X.mg x=none)(hv:bootBuiltins x=some (.type T))(g:PA X (e::es) t)(i:x≠ "__name__":=by decide)(b:(x==("__debug__":Str))=false:=by decide)
  (he:starEach (e::es) X.env=(false,eval e X.env)::starEach es X.env:=by rfl) (c:(backTo pos (starEach es X.env)).any (·.1)=false:=by rfl):PE X (.Call (.Name x p) (e::es) [] pos) (ZC r t):=by
 intro pins s σ H Q I h;refine aCy (jS I hg f hv ?_ i b);exact aBz (cA (g pos pins s σ H _ I h) λus s1 a=>by obtain⟨vs,j,k,l,m⟩:=a;exact d pins s1 σ j vs us Q k l m) he c
end
end L2
namespace HT
open PySem PyProof.Rows
section
open PySem.SeqAt
open PySem.AutoSeq1 (wpAny_loadPart')
open PySem.MeetsSeq PySem.MeetsSeq2 PySem.MeetsSeq3
end
section
variable {prog:Program}{w:World}{A:Around}{E:aEe}{s:Shared}
theorem NJ{t b:Addr}{vs a:List Value}{Q:aEe}(ht:IsTup s.heap t vs.toArray)(o:IsTup s.heap b a.toArray)(hv:vs≠[])
  (p:a=[]->Q (.ref t) s) (q:a≠[]->Q (.ref s.heap.objs.size) {s with heap:=s.heap.push {cls:= .type "tuple",data:= .seq (vs++a).toArray}})
  (hsz:vs.length+a.length<=sizeLine):wpAny (model prog w) A (binaryOp .Add (.ref t) (.ref b)) Q E s:=by
 obtain⟨⟨cls,j,data,sl⟩,ho,k,n,hd⟩:=id ht;obtain⟨⟨l,d,data2,f⟩,c,g,m,h⟩:=id o;simp only at k hd g h;subst k hd g h;have e:vs.toArray++a.toArray=(vs++a).toArray:=by simp
 by_cases i:a=[]
 ·exact concat_meets ⟨_,ho,rfl⟩ ⟨_,c,rfl⟩ noFill_tuple_add seq_tuple_add aDl aDi (aDe _ _)
   (tuple_addW1 t b vs.toArray a.toArray n m j d sl f (by simpa using hv) (by simp[i])) ⟨ho,c,p i⟩
 ·refine concat_meets ⟨_,ho,rfl⟩ ⟨_,c,rfl⟩ noFill_tuple_add seq_tuple_add aDl aDi (aDe _ _)
   (tuple_addW2 t b vs.toArray a.toArray n m j d sl f (by simpa using hv) (by simpa using i) (by rw[List.size_toArray,List.size_toArray];exact hsz)) ⟨ho,c,?_⟩
  rw[e];exact q i
def bW(n d:Nat):Option Int->Nat
 | none=>d
 | some v=>if v<0 then (v+(n:Int)).toNat else min v.toNat n
theorem PQ(n d:Nat)(hd:d<=n)(o:Option Int):bW n d o<=n:=by
 cases o with
 | none=>exact hd
 | some v=>
  show (if v<0 then (v+(n:Int)).toNat else min v.toNat n)<=n;by_cases hv:v<0
  ·rw[if_pos hv];lia
  ·rw[if_neg hv];exact Nat.min_le_right _ _
theorem CZ(v:Int)(n d:Nat):(if v<0 then max (v+(n:Int)) 0 else min v (n:Int))=((bW n d (some v):Nat):Int):=by
 show (if v<0 then max (v+(n:Int)) 0 else min v (n:Int))=(((if v<0 then (v+(n:Int)).toNat else min v.toNat n):Nat):Int);by_cases hv:v<0
 ·simp only[if_pos hv];lia
 ·simp only[if_neg hv];lia
theorem A8(lo hi:Option Int)(n:Nat):Builtin.Slice.sliceAdjust lo hi 1 (n:Int)=(((bW n 0 lo:Nat):Int),((bW n n hi:Nat):Int)):=by
 have a:¬((1:Int)<0):=by lia
 unfold Builtin.Slice.sliceAdjust;simp only[a,if_false];refine Prod.ext ?_ ?_
 ·cases lo with
  | none=>rfl
  | some v=>exact CZ v n 0
 ·cases hi with
  | none=>rfl
  | some v=>exact CZ v n n
theorem zW(i j:Nat):Builtin.Slice.slicePlaces (i:Int) (j:Int) 1=j-i:=by
 unfold Builtin.Slice.slicePlaces;have a:(1:Int) > 0:=by lia
 simp only[a,if_true,Int.ediv_one];split <;> lia
theorem qF{v:Value}{o:Option Int}{Q:Option Int->Shared->Prop}(p:IsPart v o)(h:Q o s):wpAny (model prog w) A (Builtin.Slice.slicePartIndex v) Q E s:=by
 cases p with
 | none=>exact slicePart_none h
 | int i t=>exact slicePart_int h
theorem gU{sl:Addr}{c d:Value}{lo hi:Option Int}{n:Nat}{Q:Int×Int×Nat->Shared->Prop}(hs:s.heap.IsSliceOf sl c d .none)(e:IsPart c lo)(f:IsPart d hi)
  (h:Q (((bW n 0 lo:Nat):Int),1,bW n n hi-bW n 0 lo) s):wpAny (model prog w) A (Builtin.Slice.sliceApplied (.ref sl) (pure (n:Int))) Q E s:=by
 obtain⟨os,a,g,b⟩:=id hs;unfold Builtin.Slice.sliceApplied Builtin.Slice.sliceFields;refine aAz (aAz (aBv a b (x:=c) rfl (aAz (aBv a b (x:=d) rfl (aAz (aBv a b (x:= .none) rfl (aB0 ?_)))))));refine aAz (slicePart_none ?_);show wpAny _ _ (if ((1:Int)==0)=true then _ else _) _ _ s;rw[if_neg (by decide)];refine aAz (qF e (aAz (qF f (aAz (aB0 ?_)))));show wpAny _ _ (match Builtin.Slice.sliceAdjust lo hi 1 (n:Int) with | (lo,hi)=>pure (lo,(1:Int),Builtin.Slice.slicePlaces lo hi 1)) _ _ s;rw[A8 lo hi n];show wpAny _ _ (pure (((bW n 0 lo:Nat):Int),(1:Int),Builtin.Slice.slicePlaces ((bW n 0 lo:Nat):Int) ((bW n n hi:Nat):Int) 1)) _ _ s;rw[zW];exact aB0 h
theorem F1(xs:Array Value)(i k:Nat):((List.range k).filterMap λ(m:Nat)=>xs[((i:Int)+(m:Int)*1).toNat]?).toArray=((xs.toList.drop i).take k).toArray:=by
 have e:(λ(m:Nat)=>xs[((i:Int)+(m:Int)*1).toNat]?)=λm=>xs[i+m]? :=by
  funext m;have:((i:Int)+(m:Int)*1).toNat=i+m:=by lia
  rw[this]
 rw[e];have:=pick_run xs i k;rw[List.filterMap_map]at this;have a:((λx=>xs[x]?) ∘ λx=>i+x)=λm=>xs[i+m]? :=rfl;rw[a]at this;rw[this]
theorem nH{t sl:Addr}{a:Array Value}{g i:Value}{lo hi:Option Int}{Q:aEe}(ht:IsTup s.heap t a)(hs:s.heap.IsSliceOf sl g i .none)(j:IsPart g lo)(k:IsPart i hi)
  (l:¬(bW a.size 0 lo=0/\bW a.size a.size hi=a.size))
  (h:Q (.ref s.heap.objs.size) {s with heap:=s.heap.push {cls:= .type "tuple",data:= .seq ((a.toList.drop (bW a.size 0 lo)).take (bW a.size a.size hi-bW a.size 0 lo)).toArray}})
  (hsz:a.size<=sizeLine):wpAny (model prog w) A (getItem (.ref t) (.ref sl)) Q E s:=by
 have b:sizeOk (.seq ((a.toList.drop (bW a.size 0 lo)).take (bW a.size a.size hi-bW a.size 0 lo)).toArray):=by
  show ((a.toList.drop (bW a.size 0 lo)).take (bW a.size a.size hi-bW a.size 0 lo)).toArray.size<=sizeLine;rw[List.size_toArray,List.length_take,List.length_drop,Array.length_toList]
  lia
 have o:bW a.size a.size hi<=a.size:=PQ _ _ (aB3 _) hi;obtain⟨os,c,d,n⟩:=id hs
 have e:s.TypeIs (.ref sl) "slice":=⟨os,c,d⟩
 unfold getItem
 try with_reducible refine aBf ?_
 first | refine aAz (aB0 ?_) | skip
 refine aAz (wpAny_sequenceKey ht.typeIs (by decide) ?_)
 refine aAz (aBg (name:=Str.ofString "__getitem__") ht.typeIs aBx
  (aBb aBx ht.typeIs entry_tuple_getitem ?_ (args_tuple_getitem _ _)))
 show wpAny _ _ (Builtin.Tuple.tupleItemsOf (.ref t) >>=_) _ _ s;refine aAz (tupleItemsOf_ ht ?_);refine aAz (aDm e ?_);rw[if_pos (by decide)];refine aAz (gU hs j k ?_)
 have f:¬((((bW a.size 0 lo:Nat):Int)==0 && (1:Int)==1 && (bW a.size a.size hi-bW a.size 0 lo)==a.size)=true):=by
  intro q;rw[Bool.and_eq_true,Bool.and_eq_true]at q;have p:((bW a.size 0 lo:Nat):Int)=0:=eq_of_beq q.1.1;have r:bW a.size a.size hi-bW a.size 0 lo=a.size:=eq_of_beq q.2;exact l ⟨by lia,by lia⟩
 show wpAny _ _ (if (((bW a.size 0 lo:Nat):Int)==0 && (1:Int)==1 && (bW a.size a.size hi-bW a.size 0 lo)==a.size)=true then _ else _) _ _ s;rw[if_neg f,F1]
 first
  | exact aAz (m:=Builtin.Tuple.tupleExact _) (aBi (aB0 ⟨_,rfl,aB0 h⟩) b)
  | exact aAz (m:=Builtin.Tuple.tupleExact _) (aBi (aAz (aB0 (aB0 ⟨_,rfl,aB0 h⟩))) b)
  | exact aAz (aAz (m:=Builtin.Tuple.tupleExact _) (aBi (aB0 (aB0 ⟨_,rfl,aB0 h⟩)) b))
  | exact aAz (aAz (m:=Builtin.Tuple.tupleExact _) (aBi (aB0 ⟨_,rfl,aB0 h⟩) b))
end
end HT
namespace L2
open PySem PySem.Spec PyProof.Rows
abbrev TO:=St->Hp->(Option Int->Hp->Prop)->Prop
def PO(X:Cx)(e:Option Expr)(t:TO):Prop:=
 ∀(pins:List (Addr×Obj)) (s:Shared) (σ:St) (H:Hp) (Q:Option Int->Hp->Prop),Inv X pins σ H s->t σ H Q->
  wpAny (model X.prog X.w) X.A (evalPart e X.env) (λu a =>∃o H',Inv X pins σ H' a /\IsPart u o/\Q o H') X.xe s
def J4:TO:=λ_ H Q=>Q none H
def UW(t:TE):TO:=λσ H Q=>t σ H λx a=>∃i,x= .int i/\Q (some i) a
section
variable {X:Cx}{e:Expr}{te:TE}{lo hi:Option Expr}{tl th:TO}{pos p2:Pos}
theorem KY:PO X none J4:=by
 intro pins s σ H Q I h;rw[evalPart_none];exact aB0 ⟨none,H,I,.none,h⟩
theorem KW(h:PE X e te):PO X (some e) (UW te):=by
 intro pins s σ H Q I b;rw[evalPart_some];refine cA (h pins s σ H _ I b) λu s1 a=>?_;obtain⟨x,c,d,f,g⟩:=a;obtain⟨i,rfl,q⟩:=g;obtain⟨t,rfl⟩:=f;exact⟨some i,c,d,.int i t,q⟩
def UM(X:Cx)(r:V->Option Int->Option Int->Hp->VK->Prop):Prop:=
 ∀(pins:List (Addr×Obj)) (s:Shared) (σ:St) (H:Hp) (x:V) (v a b:Value) (lo hi:Option Int) (sl:Addr) (Q:VK),Inv X pins σ H s->RelV x v->s.heap.IsSliceOf sl a b .none->IsPart a lo->IsPart b hi->r x lo hi H Q->
  ∃T id,typeLookup (.type T) "__getitem__"=pure (some (.builtin id))/\s.TypeIs v T/\wpAny (model X.prog X.w) X.A (getItem v (.ref sl)) (EP X pins σ Q) X.xe s
def tSl(r:V->Option Int->Option Int->Hp->VK->Prop)(te:TE)(tl th:TO):TE:=λσ H Q=>te σ H λx a=>tl σ a λl b=>th σ b λu c=>r x l u c Q
theorem F6{r:V->Option Int->Option Int->Hp->VK->Prop}(j:UM X r)(he:PE X e te)(k:PO X lo tl)(m:PO X hi th):PE X (.Subscript e (.Slice lo hi none p2) pos) (tSl r te tl th):=by
 intro pins s σ H Q I h;refine Subscript_ (cA (he pins s σ H _ I h) λv s1 c=>?_);obtain⟨x,n,o,p,t⟩:=c;refine wpAny_Slice (cA (k pins s1 σ n _ o t) λf s2 ⟨l,y,z,B,C⟩=>cA (m pins s2 σ y _ z C) λg a d=>?_);obtain⟨u,i,D,E,F⟩:=d;rw[evalPart_none];refine aB0 ?_;have G:Inv X pins σ i {a with heap:=a.heap.push {cls:= .type "slice",data:= .fields #[f,g,.none]}}:=D.kept (t' :=a.toks) λb ob q=>aB1 _ q;obtain⟨T,id,J,ht,hg⟩:=j pins {a with heap:=a.heap.push {cls:= .type "slice",data:= .fields #[f,g,.none]}} σ i x v f g l u a.heap.objs.size Q G p (Heap.IsSliceOf.new ..) B E F;show wpAny (model X.prog X.w) X.A (subscriptTail e (.Slice lo hi none p2) v (.ref a.heap.objs.size)) (EP X pins σ Q) X.xe {a with heap:=a.heap.push {cls:= .type "slice",data:= .fields #[f,g,.none]}};exact tail_any (ops:=[.ref a.heap.objs.size,v]) ht J hg (by with_unfolding_all rfl)
def vQ(xs:List V)(lo hi:Option Int):List V:=(xs.drop (HT.bW xs.length 0 lo)).take (HT.bW xs.length xs.length hi-HT.bW xs.length 0 lo)
theorem oX(xs:List V)(lo hi:Option Int):(vQ xs lo hi).length<=xs.length:=by
 unfold vQ;rw[List.length_take,List.length_drop]
 lia
def Z8(K:aEd):V->Option Int->Option Int->Hp->VK->Prop:=λx lo hi H Q=>∃a xs,x= .ref a/\pG K H a xs/\
 ¬(HT.bW xs.length 0 lo=0/\HT.bW xs.length xs.length hi=xs.length)/\∀p,H p=none->Q (.ref p) (upd H p (.tup (vQ xs lo hi)))
theorem PJ:UM X (Z8 X.K):=by
 intro pins s σ H x v j k lo hi sl Q I d hs e f h;obtain⟨a,xs,rfl,g,i,q⟩:=h;cases d;obtain⟨aH,r,ht,hz⟩:=I.tuple g;have c:aH.toArray.size=xs.length:=by rw[List.size_toArray];exact r.length.symm
 refine⟨"tuple",_,aBx.lookup,ht.typeIs,?_⟩;refine HT.nH ht hs e f (by rw[c];exact i) ?_ (by rw[c];exact hz);rw[c];refine⟨.ref s.heap.objs.size,_,I.laid (t' :=s.toks) (o:= .tup (vQ xs lo hi)) (λb ob q=>aB1 _ q) (aB3 _) ?_,rfl,q _ (I.bD.fresh (aB3 _))⟩;exact⟨aBq (oX xs lo hi) hz,_,(r.drop (HT.bW xs.length 0 lo)).take (HT.bW xs.length xs.length hi-HT.bW xs.length 0 lo),IsTup.new _ _,qB _ _⟩
def VO(K:aEd):R2:=λx y H Q=>∃a b xs c,x= .ref a/\y= .ref b/\pG K H a xs/\pG K H b c/\xs≠[]/\xs.length+c.length<=sizeLine/\
 (c=[]->Q (.ref a) H)/\(c≠[]->∀p,H p=none->Q (.ref p) (upd H p (.tup (xs++c))))
theorem Vals.uR{xs:List V}{us:List Value}(r:Vals xs us):us=[]↔xs=[]:=by
 cases r with
 | nil=>simp
 | cons _ _=>simp
theorem LC:cS X (binaryOp .Add) (VO X.K):=by
 intro pins s σ H x y v u Q I f g h;obtain⟨a,b,xs,i,rfl,rfl,j,k,l,hz,m,n⟩:=h;cases f;cases g;obtain⟨aH,d,p,_⟩:=I.tuple j;obtain⟨e,c,p2,_⟩:=I.tuple k;refine HT.NJ p p2 (λz=>l (d.uR.mp z)) (λz=>⟨.ref a,H,I,rfl,m (c.uR.mp z)⟩) (λz=>?_) (by rw[<-d.length,<-c.length];exact hz);refine⟨.ref s.heap.objs.size,_,I.laid (t' :=s.toks) (o:= .tup (xs++i)) (λb ob q=>aB1 _ q) (aB3 _) ?_,rfl,n (λw=>z (c.uR.mpr w)) _ (I.bD.fresh (aB3 _))⟩;exact⟨by rw[List.length_append];exact hz,_,d.append c,IsTup.new _ _,qB _ _⟩
end
def EV(n:Nat)(i:Int):Option Nat:=if 0<=i then (if i<n then some i.toNat else none) else if -(n:Int)<=i then some (i+n).toNat else none
variable{α:Type}
def hX(xs:List α)(i:Int):Option α:=(EV xs.length i).bind λj=>xs[j]?
variable{n:Nat}
theorem CM{i:Int}{j:Nat}(h:EV n i=some j):seqIndex? i n=some j/\j<n/\ -(n:Int)<=i/\i<n:=by
 unfold EV at h;by_cases h0:0<=i
 ·rw[if_pos h0]at h;by_cases a:i<n
  ·rw[if_pos a]at h;have e:i.toNat=j:=aBl h;exact⟨by rw[seqIndex_of h0 a,e],by lia,by lia,a⟩
  ·rw[if_neg a]at h;cases h
 ·rw[if_neg h0]at h;by_cases a: -(n:Int)<=i
  ·rw[if_pos a]at h;have e:(i+n).toNat=j:=aBl h;exact⟨by rw[seqIndex_neg (by lia) a,e],by lia,a,by lia⟩
  ·rw[if_neg a]at h;cases h
theorem vZ{xs:List α}{i:Int}{v:α}(h:hX xs i=some v):∃j,seqIndex? i xs.length=some j/\xs[j]? =some v/\j<xs.length/\ -(xs.length:Int)<=i/\i<xs.length:=by
 unfold hX at h
 cases e:EV xs.length i with
 | none=>rw[e]at h;cases h
 | some j=>
  rw[e]at h;obtain⟨a,b,c,d⟩:=CM e;exact⟨j,a,h,b,c,d⟩
theorem kJ{xs:List α}{j:Nat}{v:α}(h:xs[j]? =some v):hX xs (j:Int)=some v:=by
 have a:j<xs.length:=(aB2.mp h).1
 have e:EV xs.length (j:Int)=some j:=by
  unfold EV;rw[if_pos (by lia),if_pos (by lia)];simp
 unfold hX;rw[e];exact h
def C4(b:Expr):Prop:=∀o i,subscripted b false o i=operate [o,i] (getItem o i)
def JQ(X:Cx)(r:R2):Prop:=
 ∀(b a:Expr) (pins:List (Addr×Obj)) (s:Shared) (σ:St) (H:Hp) (x y:V) (v u:Value) (Q:VK),Inv X pins σ H s->RelV x v->RelV y u->r x y H Q->
  subscripted a false v u=operate [v,u] (getItem v u)->wpAny (model X.prog X.w) X.A (subscriptTail b a v u) (EP X pins σ Q) X.xe s
def YQ(X:Cx)(id:String)(r:V->List V->Hp->VK->Prop):Prop:=
 ∀(pins:List (Addr×Obj)) (s:Shared) (σ:St) (H:Hp) (x:V) (xs:List V) (v:Value) (us:List Value) (Q:VK),Inv X pins σ H s->RelV x v->Vals xs us->r x xs H Q->
  wpAny (model X.prog X.w) X.A (call (.builtin id) (v::us)) (EP X pins σ Q) X.xe s
section
variable {X:Cx}{a b:Expr}{ta tb:TE}{pos:Pos}
theorem VU{r:R2}(c:JQ X r)(d:PE X a ta)(e:PE X b tb)(hs:C4 b):PE X (.Subscript a b pos) (UX r ta tb):=by
 intro pins s σ H Q I h;exact Subscript_ (T8 d e I h λv u s2 x y f g i j q=>c a b pins s2 σ f x y v u Q g i j q (hs _ _))
def aA2(K:aEd):R2:=λx y H Q=>∃p xs i v,x= .ref p/\y= .int i/\nV K H p xs/\hX xs i=some v/\Q v H
def aA0(K:aEd):R2:=λx y H Q=>∃p xs i v,x= .ref p/\y= .int i/\pG K H p xs/\hX xs i=some v/\Q v H
def aA1:R2:=λx y H Q=>∃z i c,x= .str z/\y= .int i/\z.length<=sizeLine/\hX z.cps.toList i=some c/\Q (.str ⟨#[c]⟩) H
theorem ML:JQ X (aA2 X.K):=by
 intro c d pins s σ H x y v u Q I l m h hs;obtain⟨p,xs,i,z,rfl,rfl,n,he,q⟩:=h;cases l;obtain⟨t,rfl⟩:=m;obtain⟨aH,r,e,hz⟩:=I.list n;obtain⟨j,b,o,E,A,B⟩:=vZ he;obtain⟨w,k,f⟩:=r.get o;have C:=r.length;have F:=jR
 have a:EP X pins σ Q w s:=⟨z,H,I,f,q⟩
 by_cases h0:0<=i
 ·have g:i.toNat=j:=by
   rw[seqIndex_of h0 B]at b;exact aBl b
  exact item_listR e.isList h0 (by lia) (by rw[g];simpa using k) a hs
 ·have g:(i+(aH.toArray.size:Int)).toNat=j:=by
   rw[seqIndex_neg (by lia) A]at b;rw[List.size_toArray,<-C];exact aBl b
  exact subscriptTail_builtinR (x:=w) e.isList.typeIs slot_list_getitem.lookup
   (wpAny_getItem_list_neg (Q:=λr D =>r=w/\EP X pins σ Q r D) e.isList (by lia) (by rw[List.size_toArray] <;> lia) (by lia) (by rw[g];simpa using k) ⟨rfl,a⟩) hs
theorem SO:JQ X (aA0 X.K):=by
 intro a b pins s σ H x y v u Q I f g h hs;obtain⟨p,xs,i,z,rfl,rfl,k,he,q⟩:=h;cases f;obtain⟨t,rfl⟩:=g;obtain⟨aH,r,e,hz⟩:=I.tuple k;obtain⟨j,l,m,B,C,D⟩:=vZ he;obtain⟨w,n,c⟩:=r.get m;have o:=r.length;have E:=jR
 have d:EP X pins σ Q w s:=⟨z,H,I,c,q⟩
 exact subscriptTail_builtinR (x:=w) e.typeIs slot_tuple_getitem.lookup
  (getItem_tuple (j:=j) (Q:=λr A =>r=w/\EP X pins σ Q r A) e (by lia) (by lia) (by rw[List.size_toArray,<-o];exact l) (by simpa using n) ⟨rfl,d⟩) hs
theorem SQ:JQ X aA1:=by
 intro a b pins s σ H x y v u Q I e f h hs;obtain⟨z,i,c,rfl,rfl,hz,he,q⟩:=h;obtain⟨t,rfl⟩:=e;obtain⟨t',rfl⟩:=f;obtain⟨j,d,g,p,k,l⟩:=vZ he;have m:z.cps.toList.length=z.length:=by simp[Str.length]
 rw[m]at d k l;have r:=jR
 exact tail_any (typeIs_str s z t) slot_str_getitem.lookup (getItem_str (c:=c) (by
  have n:decide (i < -(2^63:Int))=false:=aCq (by lia);have o:decide (i>=2^63)=false:=aCq (by lia)
  rw[n,o,Bool.or_false]) (by rw[d];simpa using g) ⟨.str ⟨#[c]⟩,H,I.tok _,⟨_,rfl⟩,q⟩) hs
theorem AF(aH:List Value)(n j:Nat)(u:Value):Obj.mapSeq (·.setIfInBounds j u) {cls:= .type "list",data:= .seq aH.toArray n}={cls:= .type "list",data:= .seq (aH.set j u).toArray n}:=by
 simp[Obj.mapSeq]
variable{pins:List (Addr×Obj)}{s:Shared}
theorem Inv.lst{σ:St}{H:Hp}{p:Addr}{xs:List V}(I:Inv X pins σ H s)(h:H p=some (.lst xs)):
  ∃(aH:List Value) (n:Nat),Vals xs aH/\s.heap.get? p=some {cls:= .type "list",data:= .seq aH.toArray n}/\xs.length<=sizeLine:=by
 obtain⟨z,aH,n,r,e⟩:=I.bD p _ h;exact⟨aH,n,r,e,z⟩
theorem Inv.RI{σ:St}{H:Hp}{p:Addr}{xs a:List V}{aH its' :List Value}{n c :Nat}{f:Obj->Obj}(I:Inv X pins σ H s)(h:H p=some (.lst xs))
  (ho:s.heap.get? p=some {cls:= .type "list",data:= .seq aH.toArray n}) (d:f {cls:= .type "list",data:= .seq aH.toArray n}={cls:= .type "list",data:= .seq its'.toArray c}) (r:Vals a its') (hz:a.length<=sizeLine) (t:Nat):
  Inv X pins σ (upd H p (.lst a)) {s with heap:=s.heap.update p f,toks:=t}:=by
 have e:(s.heap.update p f).get? p=some {cls:= .type "list",data:= .seq its'.toArray c}:=by
  rw[Heap.get?_update_self f ho (by rw[d] <;> rfl),d]
 refine I.write (x:=p) (e:=p) (by rw[h];trivial) (.inl rfl) (λb u g q=>(aC8 _ _ (aC1 g)).trans q) ⟨_,e⟩ ?_;exact⟨hz,its',c,r,e⟩
def VJ:V->V->V->Hp->(Hp->Prop)->Prop:=λo i v H Q=>∃p xs k j,o= .ref p/\i= .int k/\H p=some (.lst xs)/\EV xs.length k=some j/\Q (upd H p (.lst (xs.set j v)))
theorem set_list:XY X VJ:=by
 intro pins s σ H o i v w x u Q I ro g l h;obtain⟨p,xs,k,j,rfl,rfl,c,m,q⟩:=h;cases ro;obtain⟨t,rfl⟩:=g;obtain⟨aH,n,r,ho,hz⟩:=I.lst c;obtain⟨a,y,d,e⟩:=CM m;have b:=r.length;have z:=jR
 have f :Inv X pins σ (upd H p (.lst (xs.set j v))) {s with heap:=s.heap.update p (Obj.mapSeq (·.setIfInBounds j u))}:=
  I.RI c ho (AF aH n j u) (r.set l j) (by rw[List.length_set];exact hz) s.toks
 by_cases h0:0<=k
 ·have hk:k.toNat=j:=by
   rw[seqIndex_of h0 e]at a;exact aBl a
  exact PySem.W.ki_setAt ho h0 (by lia) (by rw[List.size_toArray,<-b];exact e) (by rw[hk];exact⟨_,f,q⟩)
 ·have hk:(k+(aH.toArray.size:Int)).toNat=j:=by
   rw[seqIndex_neg (by lia) d]at a;rw[List.size_toArray,<-b];exact aBl a
  exact PySem.W.ki_setBack ho (by lia) (by rw[List.size_toArray,<-b];exact d) (by lia) (by rw[hk];exact⟨_,f,q⟩)
theorem uE(lo hi:Option Int)(n:Nat):(sliceBounds lo hi none n).1=((HT.bW n 0 lo:Nat):Int)/\(sliceBounds lo hi none n).2.1=((HT.bW n n hi:Nat):Int)/\(sliceBounds lo hi none n).2.2=1:=by
 refine⟨?_,?_,rfl⟩
 ·cases lo with
  | none=>simp[sliceBounds,HT.bW]
  | some i=>
   simp only[sliceBounds,HT.bW,Option.getD_none,show (1:Int) > 0 by decide,if_true];by_cases h:i<0
   ·simp only[h,if_true] <;> lia
   ·simp only[h,if_false] <;> lia
 ·cases hi with
  | none=>simp[sliceBounds,HT.bW]
  | some i=>
   simp only[sliceBounds,HT.bW,Option.getD_none,show (1:Int) > 0 by decide,if_true];by_cases h:i<0
   ·simp only[h,if_true] <;> lia
   ·simp only[h,if_false] <;> lia
theorem rW(aH:List Value)(lo hi:Option Int):slicePick aH.toArray lo hi none=((aH.drop (HT.bW aH.length 0 lo)).take (HT.bW aH.length aH.length hi-HT.bW aH.length 0 lo)).toArray:=by
 obtain⟨a,b,c⟩:=uE lo hi aH.toArray.size;unfold slicePick;rw[a,b,c];simp only[sliceRange_one,pick_run,List.size_toArray] <;> rfl
def Z9(K:aEd):V->Option Int->Option Int->Hp->VK->Prop:=λx lo hi H Q=>∃a xs,x= .ref a/\nV K H a xs/\∀p,H p=none->Q (.ref p) (upd H p (.lst (vQ xs lo hi)))
theorem J8:UM X (Z9 X.K):=by
 intro pins s σ H x v i j lo hi sl Q I d hs e f h;obtain⟨a,xs,rfl,g,q⟩:=h;cases d;obtain⟨aH,r,ht,hz⟩:=I.list g;have c:=r.length;refine⟨"list",_,slot_list_getitem.lookup,ht.isList.typeIs,?_⟩;refine wpAny_getItem_list_slice ht.isList hs e f .none (by simp) ?_ (by rw[List.size_toArray] <;> lia);rw[rW,<-c];refine⟨.ref s.heap.objs.size,_,I.laid (t' :=s.toks) (o:= .lst (vQ xs lo hi)) (λb ob q=>aB1 _ q) (aB3 _) ?_,rfl,q _ (I.bD.fresh (aB3 _))⟩;exact⟨aBq (oX xs lo hi) hz,_,0,(r.drop (HT.bW xs.length 0 lo)).take (HT.bW xs.length xs.length hi-HT.bW xs.length 0 lo),aB4 _ rfl⟩
theorem uN:cS X (compareOp .NotIn) (λx y H Q=>∃i j,x= .str i/\y= .str j/\Q (.bl (!(!(Builtin.Str.occurrences j i 0 j.length 1).isEmpty))) H):=by
 intro pins s σ H x y v u Q I a b h;obtain⟨i,j,rfl,rfl,q⟩:=h;obtain⟨t,rfl⟩:=a;obtain⟨t',rfl⟩:=b;exact notIn_str ⟨.bl _,H,I,rfl,q⟩
theorem vT:bR X (.builtin "len") (λxs H Q=>∃p b,xs=[.ref p]/\(nV X.K H p b\/pG X.K H p b)/\Q (.int b.length) H):=by
 intro pins s σ H xs us Q I r h;obtain⟨p,b,rfl,hq,q⟩:=h;obtain⟨u,rfl,e⟩:=vals1 r;cases e;have f:=jR;rcases hq with hq | hq
 ·obtain⟨aH,c,d,hz⟩:=I.list hq;have a:=c.length;exact Calls.call_len_list d.isList (by simp only[List.size_toArray] <;> lia) ⟨.int b.length,H,I.tok _,⟨s.toks+1,by rw[List.size_toArray,a]⟩,q⟩
 ·obtain⟨aH,c,d,hz⟩:=I.tuple hq;have a:=c.length;exact len_tuple d (by simp only[List.size_toArray] <;> lia) ⟨.int b.length,H,I.tok _,⟨s.toks+1,by rw[List.size_toArray,a]⟩,q⟩
theorem vS:bR X (.builtin "len") (λxs H Q=>∃z,xs=[.str z]/\z.length<=sizeLine/\Q (.int z.length) H):=by
 intro pins s σ H xs us Q I r h;obtain⟨z,rfl,hz,q⟩:=h;obtain⟨u,rfl,t,rfl⟩:=vals1 r;have a:=jR;exact len_str (by lia) ⟨.int z.length,H,I.tok _,⟨_,rfl⟩,q⟩
theorem gD:bR X (.type "tuple") (λxs H Q=>∃p a,xs=[.ref p]/\((nV X.K H p a/\∀l,H l=none->Q (.ref l) (upd H l (.tup a)))\/(pG X.K H p a/\Q (.ref p) H))):=by
 intro pins s σ H xs us Q I r h;obtain⟨p,a,rfl,h⟩:=h;obtain⟨u,rfl,j⟩:=vals1 r;cases j
 rcases h with ⟨c,q⟩ | ⟨c,q⟩
 ·obtain⟨aH,d,f,hz⟩:=I.list c;have g:=d.length;refine call_tuple_list f.isList (λh' kp=>?_) (by simp only[List.size_toArray] <;> lia);have i:Inv X pins σ H {s with heap:=h'}:=I.kept (t' :=s.toks) kp
  have k:Inv X pins σ (upd H h'.objs.size (.tup a)) {s with heap:=h'.push {cls:= .type "tuple",data:= .seq aH.toArray}}:=
   i.laid (t' :=s.toks) (λb o e=>aB1 _ e) (aB3 _) (show bO X.prog X.w _ _ _ (.tup a) from ⟨hz,aH,d,IsTup.new _ _,qB _ _⟩)
  exact⟨.ref h'.objs.size,_,k,rfl,q _ (i.bD.fresh (aB3 _))⟩
 ·obtain⟨aH,d,f,hz⟩:=I.tuple c;exact call_tuple_same f ⟨.ref p,H,I,rfl,q⟩
def YX(K:aEd)(T:String)(x:V)(H:Hp):Prop:=match x with
 | .str _=>T= "str"
 | .int _=>T= "int"
 | .ref p=>(T= "list"/\∃xs,nV K H p xs)\/(T= "tuple"/\∃xs,pG K H p xs)\/
   (T= "dict"/\((∃kvs,H p=some (.dK kvs))\/∃kvs,H p=some (.dT kvs)))\/(T= "set"/\∃S n,H p=some (.set S n))
 | _=>False
theorem O3{σ:St}{H:Hp}{T:String}{x:V}{v:Value}(I:Inv X pins σ H s)(r:RelV x v)(ty:YX X.K T x H):
  s.TypeIs v T/\∀a,v= .ref a->∃ob,s.heap.get? a=some ob/\ob.dict=none:=by
 cases x with
 | str z=>
  obtain⟨t,rfl⟩:=r;cases (show T= "str" from ty);exact⟨typeIs_str s z t,λ_ e=>nomatch e⟩
 | int i=>
  obtain⟨t,rfl⟩:=r;cases (show T= "int" from ty);exact⟨typeIs_int s i t,λ_ e=>nomatch e⟩
 | ref p=>
  cases r
  rcases ty with ⟨rfl,xs,d⟩ | ⟨rfl,xs,d⟩ | ⟨rfl,hk⟩ | ⟨rfl,S,n,hk⟩
  ·obtain⟨aH,_,f,_⟩:=I.list d;refine⟨f.isList.typeIs,λa e=>?_⟩;cases e;obtain⟨o,n,e,c,hd,_⟩:=f;exact⟨o,e,hd⟩
  ·obtain⟨o,g,b,h⟩:=I.O4 d;refine⟨⟨o,g,b⟩,λa e=>?_⟩;cases e;exact⟨o,g,h⟩
  ·have z:∃o,s.heap.get? p=some o/\o.ExactDict:=by
    rcases hk with ⟨kvs,hk⟩ | ⟨kvs,hk⟩
    ·obtain⟨_,_,_,_,o,_,_,e,ex,_⟩:=I.bD p _ hk;exact⟨o,e,ex⟩
    ·obtain⟨_,_,_,_,o,_,_,e,ex,_⟩:=I.bD p _ hk;exact⟨o,e,ex⟩
   obtain⟨o,e,ex⟩:=z;refine⟨⟨o,e,ex.1⟩,λa b=>?_⟩;cases b;exact⟨o,e,ex.2.1⟩
  ·obtain⟨o,_,_,_,e,ex,_⟩:=I.bD p _ hk;refine⟨⟨o,e,ex.1⟩,λa b=>?_⟩;cases b;exact⟨o,e,ex.2.1⟩
 | _=>exact False.elim ty
def tBM(K:aEd)(T:String)(r:V->List V->Hp->VK->Prop)(to:TE)(t:TA):TE:=λσ H Q=>to σ H λx a=>YX K T x a/\t σ a λxs b=>r x xs b Q
variable {o e:Expr}{es:List Expr}{to:TE}{t:TA}{name:Str}{apos bS:Pos}{T id:String}{r:V->List V->Hp->VK->Prop}
theorem VW(m:PlainAttrs T)(slot:Slot T name id)(i:typeOf (.builtin id)=pure (.type "method_descriptor"))(n:YQ X id r)(ho:PE X o to)(p:PA X (e::es) t)
  (b:attributeBase o name X.env (eval o X.env)=eval o X.env:=by rfl)
  (d:((backTo bS (starEach (e::es) X.env)).all (λx=>!x.1) && (backToKw bS (keywordEach [] X.env)).all (λx=>x.1.isSome)
   && decide ((e::es).length+([]:List Keyword).length+(if ([]:List Keyword).isEmpty then 0 else 1)<30))=true:=by rfl)
  (c:(apos.endLine==bS.line)=true:=by rfl) (hs:starEach (e::es) X.env=(false,eval e X.env)::starEach es X.env:=by rfl) (a:(backTo bS (starEach es X.env)).any (·.1)=false:=by rfl):
  PE X (.Call (.Attribute o name apos) (e::es) [] bS) (tBM X.K T r to t):=by
 intro pins s σ H Q I h;refine wpAny_Call_method_late b d c rfl (cA (ho pins s σ H _ I h) λv s1 f=>?_);obtain⟨x,q,j,k,ty,u⟩:=f;obtain⟨w,y⟩:=O3 j k ty;refine⟨T,id,m,slot,i,w,y,?_⟩;have l:=p bS pins s1 σ q _ j u;rw[hs]at l⊢;refine aCz (by show (false || (backTo bS (starEach es X.env)).any (·.1))=false;rw[a] <;> rfl) (aDt ?_);exact cA l λus s2 g=>by obtain⟨vs,z,A,B,C⟩:=g;exact n pins s2 σ z x vs v us Q A k B C
end
def MtM(X:Cx)(id:String)(r:V->List V->Hp->VK->Prop):Prop:=
 ∀(pins:List (Addr×Obj)) (s:Shared) (σ:St) (H:Hp) (x:V) (xs:List V) (v:Value) (us:List Value) (Q:VK),Inv X pins σ H s->RelV x v->Vals xs us->r x xs H Q->
  wpAny (model X.prog X.w) X.A (call (.builtin id) (v::us)) (EP X pins σ Q) X.xe s
theorem Vals.one:∀{x:V} {us:List Value},Vals [x] us->∃u,us=[u]/\RelV x u
 | _,_,.cons r .nil=>⟨_,rfl,r⟩
theorem Vals.rep{xs:List V}{us:List Value}(h:Vals xs us):∀k:Nat,Vals (List.replicate k xs).flatten (List.replicate k us).flatten
 | 0=>.nil
 | k+1=>by
  rw[List.replicate_succ,List.replicate_succ,List.flatten_cons,List.flatten_cons];exact Vals.append h (Vals.rep h k)
theorem foldl_rep(aH:List Value):∀(k:Nat) (acc:List Value),
  List.foldl (λx1 a=>x1++a) acc.toArray (List.replicate k aH.toArray)=(acc++(List.replicate k aH).flatten).toArray
 | 0,acc=>by simp
 | k+1,acc=>by
  have e:acc.toArray++aH.toArray=(acc++aH).toArray:=by simp
  have b:(acc++aH)++(List.replicate k aH).flatten=acc++(List.replicate (k+1) aH).flatten:=by
   rw[List.replicate_succ,List.flatten_cons,List.append_assoc]
  rw[<-b,<-foldl_rep aH k (acc++aH),<-e,List.replicate_succ,List.foldl_cons]
section
variable {X:Cx}{pins:List (Addr×Obj)}{σ:St}{H:Hp}{s:Shared}{l b:Addr}{xs ys zs:List V}
theorem Inv.WD{aH its' :List Value}{f:Array Value->Array Value}{t' :Nat}(I:Inv X pins σ H s)(a:H l=some (.lst xs))
  (e:s.heap.get? l=some {cls:= .type "list",data:= .seq aH.toArray n}) (b:f aH.toArray=its'.toArray) (hv:Vals ys its') (hz:ys.length<=sizeLine):
  Inv X pins σ (upd H l (.lst ys)) {s with heap:=s.heap.update l (Obj.mapSeq f),toks:=t'}:=by
 have q:=PySem.IsL.update e f;rw[b]at q;refine I.write (x:=l) (e:=l) (by rw[a];exact trivial) (.inl rfl) (λg u c d=>(aC8 s.heap (Obj.mapSeq f) (aC1 c)).trans d) ⟨_,q⟩ ?_;exact⟨hz,its',_,hv,q⟩
theorem Inv.aAc{aH:List Value}{t' :Nat}(I:Inv X pins σ H s)(hv:Vals ys aH)(hz:ys.length<=sizeLine):
  Inv X pins σ (upd H s.heap.objs.size (.lst ys)) {s with heap:=s.heap.push {cls:= .type "list",data:= .seq aH.toArray},toks:=t'}:=
 I.laid (λ_ _ q=>aB1 _ q) (aB3 _) ⟨hz,aH,0,hv,aB4 _ rfl⟩
theorem Inv.fresh(I:Inv X pins σ H s):H s.heap.objs.size=none:=I.bD.fresh (aB3 _)
theorem Inv.GY(I:Inv X pins σ H s)(a:H l=some (.lst xs)):xs.length<=sizeLine/\∃(aH:List Value) (n:Nat),Vals xs aH/\xs.length=aH.length/\s.heap.get? l=some {cls:= .type "list",data:= .seq aH.toArray n}:=by
 obtain⟨z,aH,n,r,e⟩:=I.bD l _ a;exact⟨z,aH,n,r,r.length,e⟩
theorem GK(h:n<=sizeLine):Builtin.List.listTooLong n=false:=by
 unfold Builtin.List.listTooLong;exact aCq (by lia)
end
section
variable {X:Cx}
def KL:V->List V->Hp->VK->Prop:=λx vs H Q=>∃l xs y,x= .ref l/\vs=[y]/\H l=some (.lst xs)/\xs.length<sizeLine/\Q .bF (upd H l (.lst (xs++[y])))
theorem sZ:MtM X "list.append" KL:=by
 intro pins s σ H x vs v us Q I b c h;obtain⟨l,xs,y,rfl,rfl,a,hz,q⟩:=h;cases b;obtain⟨u,rfl,d⟩:=c.one;obtain⟨z,aH,n,r,f,e⟩:=I.GY a;refine aE1 F.slot_list_append ⟨_,e,rfl⟩ F.entry_list_append (F.args_list_append_2 _ _) (PySem.list_append l aH.toArray n u (by rw[List.size_toArray];lia)) ⟨e,?_⟩;refine⟨.bF,_,I.WD (its' :=aH++[u]) a e (by simp) (r.append (.cons d .nil)) ?_,rfl,q⟩;rw[List.length_append,List.length_singleton]
 lia
def KJ:V->List V->Hp->VK->Prop:=λx vs H Q=>∃l b xs a,x= .ref l/\vs=[.ref b]/\H l=some (.lst xs)/\H b=some (.lst a)/\xs.length+a.length<=sizeLine/\Q .bF (upd H l (.lst (xs++a)))
theorem UI:MtM X "list.extend" KJ:=by
 intro pins s σ H x vs v us Q I f g h;obtain⟨l,b,xs,t,rfl,rfl,d,i,hz,q⟩:=h;cases f;obtain⟨u,rfl,j⟩:=g.one;cases j;obtain⟨z,aH,n,r,w,e⟩:=I.GY d;obtain⟨y,a,k,m,o,p⟩:=I.GY i;have hsz:aH.toArray.size+a.toArray.size<=sizeLine:=by rw[List.size_toArray,List.size_toArray];lia
 have c:¬(!aH.toArray.isEmpty && Builtin.List.listTooLong (aH.toArray.size+a.toArray.size))=true:=by
  rw[GK hsz,Bool.and_false];exact Bool.false_ne_true
 refine aE1 F.slot_list_extend ⟨_,e,rfl⟩ F.entry_list_extend (F.args_list_extend_2 _ _)
  (AutoSeq1.list_extend_list_list_0 l aH.toArray n b a.toArray k c (by rw[List.size_toArray];lia) (by lia)) ⟨e,p,?_⟩
 refine⟨.bF,_,I.WD (its' :=aH++a) d e (by simp) (r.append m) ?_,rfl,q⟩;rw[List.length_append]
 lia
def aA3:R2:=λx y H Q=>∃l b xs a,x= .ref l/\y= .ref b/\H l=some (.lst xs)/\H b=some (.lst a)/\xs.length+a.length<=sizeLine/\∀p,H p=none->Q (.ref p) (upd H p (.lst (xs++a)))
theorem QQ:cS X (binaryOp .Add) aA3:=by
 intro pins s σ H x y v u Q I c d h;obtain⟨l,b,xs,o,rfl,rfl,f,g,hz,q⟩:=h;cases c;cases d;obtain⟨z,aH,n,r,p,e⟩:=I.GY f;obtain⟨t,a,w,i,j,k⟩:=I.GY g;refine PySem.P.add_list e k ?_ (by rw[List.size_toArray,List.size_toArray];lia);have m:aH.toArray++a.toArray=(aH++a).toArray:=by simp
 rw[m];exact⟨.ref _,_,I.aAc (t' :=s.toks) (r.append i) (by rw[List.length_append];lia),rfl,q _ I.fresh⟩
theorem len_rep(xs:List α)(k:Nat):(List.replicate k xs).flatten.length=k*xs.length:=by
 induction k with
 | zero=>simp
 | succ k ih=>rw[List.replicate_succ,List.flatten_cons,List.length_append,ih,Nat.succ_mul,Nat.add_comm]
end
end L2
namespace Att
open PySem PySem.W PySem.Calls PyProof.Rows
theorem pC{P:Params}{h:Heap}:∀(ns:List Int) (vs:List Value),WellAll P h vs (ns.map WData.int)->IntsAre vs ns:=by
 intro ns
 induction ns with
 | nil=>
  intro vs w;rw[List.map_nil]at w;cases w;exact .nil
 | cons n ns ih=>
  intro vs w;rw[List.map_cons]at w
  cases w with
  | cons a b=>
   cases a;exact .cons _ _ (ih _ b)
theorem DA{l:OpenLaw}{n:Nat}(m:l.most=some n){P:Params}{h:Heap}{args:List WData}{vals:List Value}
  (b:l.row.toRowW.claim.pre args=true) (i:WellAll P h vals args):
  ∃a vs ns,vals=[Value.ref a]/\args=[WData.list (ns.map WData.int)]/\h.get? a=some {cls:= .type "list",data:= .seq vs.toArray}/\IntsAre vs ns/\ns.length<=n:=by
 have j:WShape.hasAll [] args [.list .int]=true:=(pre_splitW b).1;have k:l.pre.holds [] {args:=args}=true:=(pre_splitW b).2;obtain⟨d,r,rfl,o,p⟩:=hasAllW_cons j;obtain rfl:=hasAllW_nil p;obtain⟨xs,rfl,s⟩:=hasW_list o;obtain⟨ns,rfl⟩:=items_int s
 have c:ns.length<=n:=by
  unfold OpenLaw.pre at k
  have f:(WTm.not (.lt (.lit (.int (n:Int))) (.len (.arg 0)))).holds [] {args:=[.list (ns.map .int)]}=true:=by
   have f:=(holds_andW k).1;rw[m]at f;exact f
  have g:=condW_of f (w_not (w_lt w_lit (w_len_list (w_arg rfl))));rw[List.length_map]at g;refine aDp λq=>?_;have q' :(n:Int)<((ns.length:Nat):Int):=by lia
  first
   | (rw[decide_eq_true q']at g;exact absurd g (by decide))
   | (simp at g;lia)
 cases i with
 | cons t u=>
  cases u
  cases t with
  | list ho e=>exact⟨_,_,ns,rfl,rfl,ho,pC ns _ e,c⟩
theorem DE(l:OpenLaw)(args:List WData):l.row.toRowW.claim.post args (.bool true) args=true:=
 postW_of (r:=l.row.toRowW) (X:=(true==true))
  (show WShape.has [] (.bool true) .bool=true by first | rfl | decide | simp[WShape.has,WShape.arms,WShape.armsAll])
  (show (WTm.eq .res (.lit (.bool true))).value [] {args:=args,res:=some (.bool true),after:=args}=some (.bool (true==true)) from w_eq_bool (w_res rfl) w_lit) rfl
theorem y9{l:OpenLaw}{n:Nat}{q:Program}{loose:List Str}{XP:(aEg)->Heap->Prop}{u:World->Heap->Prop}{d:DefRec}
  (y:l.most=some n) (m:d.params.defaults=[])
  (call:∀(w:World) (s₀ b:Shared) (mg mb:aEg) (e:Addr) (o:Obj) (pm j doc:Value) (a:Addr) (vs:List Value) (ns:List Int),
   Ground q loose [] XP w s₀ mg mb b.heap->u w b.heap->
   b.heap.get? e=some o->o.data= .func (docDef d.name d.params d.body d.scope pm j doc)->b.heap.CodeRec j d.name->mg d.name=some (.ref e)->
   b.heap.get? a=some {cls:= .type "list",data:= .seq vs.toArray}->IntsAre vs ns->ns.length<=n->b.gens= #[]->
   codeAny (model l.prog w) callerA (.call (.ref e) ⟨[.ref a],[]⟩) (λr k =>r= .ok (.ret (.bool true))/\OldK b.heap k.heap/\k.os=b.os/\AllBare k.gens) b):
  WalkO q loose XP u l.row.toRowW d [] (λf vs=>PySem.call f vs):=by
 intro w s₀ b mg mb G Y e o pm j doc z kV ho hd p v s hg args vals as g x A t B;obtain rfl:z= .none:=Dflts.none v m;obtain rfl:kV= .none:=Dflts.noKw v;obtain⟨a,vs,ns,rfl,rfl,h,c,i⟩:=DA y g t;refine enter_call (codeAny_mono (call w s₀ b mg mb e o pm j doc a vs ns G Y ho (fd_plain hd) p s h c i hg) λr k C=>?_);obtain⟨rfl,D,E,F⟩:=C;exact⟨.inl ⟨.bool true,.bool true,[],rfl,λ_=>rfl,.bool true,DE l _,λ_=>⟨List.Pairwise.nil,λ_ H=>(nomatch H)⟩⟩,D,E,F⟩
end Att
namespace L2
open PySem PySem.Spec PyProof.Rows
theorem sP:∀{vs:List Value} {ns:List Int},IntsAre vs ns->Vals (ns.map V.int) vs
 | _,_,.nil=>.nil
 | _,_,.cons n t h=>.cons ⟨t,rfl⟩ (sP h)
def NR(H:Hp):Prop:=∀b,H b=none\/∃o xs,H b=some (.frz o (.lst xs))
variable{fd:FuncData}{x:Str}
theorem G8{P:Program}{w:World}{K:aEd}{mg mb:aEg}{CX:EX}{k:Nat}{G a:Addr}{sp:Sp}{c:Shared}{vs:List Value}{ns:List Int}
  (KX:K.In c.heap) (t:c.heap.Ns mainGlobals mg) (g:c.heap.Ns builtinsNs mb) (I:∀x:Str,x≠ "__name__"->mb x=bootBuiltins x) (y:c.heap.NoLimit) (hg:c.gens= #[])
  (E:c.heap.get? a=some {cls:= .type "list",data:= .seq vs.toArray}) (hi:IntsAre vs ns) (O:ns.length<=sizeLine) (U:eE k callerA)
  (F:∀base:Heap,K.In base->base.Ns mainGlobals mg->hU P w K mg base CX k G fd [x] sp) (p:∀(s:Shared) (u:Value),BindsTo s fd ⟨[u],[]⟩ [(x,u)])
  (J:∀H:Hp,NR H->nV K H a (ns.map V.int)->sp [.ref a] H (λv _=>v= .bl true) λ_ _ _=>False)
  (L:∀H e i,CX [] H c (λ_ _ _=>False) e i ->False):
  codeAny (model P w) callerA (.call (.ref G) ⟨[.ref a],[]⟩) (λr i =>r= .ok (.ret (.bool true))/\OldK c.heap i.heap/\i.os=c.os/\AllBare i.gens) c:=by
 have Q:=sP hi;have A:=hi.length
 have l:∀H:Hp,NR H->nV K H a (ns.map V.int)->nT P w H c.heap->(∀b,H b≠none->b=a)->(H a≠none->K.lookup a=none)->
   codeAny (model P w) callerA (.call (.ref G) ⟨[.ref a],[]⟩) (λr i =>r= .ok (.ret (.bool true))/\OldK c.heap i.heap/\i.os=c.os/\AllBare i.gens) c:=by
  intro H R W bD S X;have f:∀{b:Addr} {o:Obj},c.heap.get? b=some o->H b=none->(vF c.heap H).get? b=some o:=λe n=>HS e n
  have M:∀{b:Addr} {o:Obj} {es:Array DictEntry} {ep:Nat},c.heap.get? b=some o->o.data= .dict es ep->H b=none:=λ{b o es ep} e d=>by
   cases q:H b with
   | none=>rfl
   | some u=>
    have N :b=a:=S b (by rw[q];simp);subst N;rw[E]at e;cases e;have d' :Data.seq vs.toArray _=Data.dict es ep:=d;cases d'
  have j:∀{b:Addr} {m:aEg},c.heap.Ns b m->(vF c.heap H).Ns b m:=λ{b m} ⟨o,es,ep,e,d,r⟩=>⟨o,es,ep,f e (M e d),d,r⟩
  have B:K.In (vF c.heap H):=λb o e=>f (KX b o e) (by
   cases q:H b with
   | none=>rfl
   | some u=>
    have N :b=a:=S b (by rw[q];simp);subst N
    rw[X (by rw[q];simp)]at e;cases e)
  have Y:Mod K mg (vF c.heap H):=⟨B,j t,⟨mb,j g,I⟩,let ⟨mc,h1,h2⟩:=y;⟨mc,j h1,h2⟩⟩
  have Z:NT P w K mg (vF c.heap H) callerA [] c H:=⟨rfl,Y,λb o e=>LH e,Nat.le_of_eq (D6 _ _),trivial,λb g=>absurd (show b∈([]:List Addr) from g) (by simp),bD,.of_eq hg⟩
  refine codeAny_mono ((F _ B (j t)).run callerA [] c H ⟨[.ref a],[]⟩ [.ref a] [.ref a] _ _ U Z (p c (.ref a)) (.cons rfl .nil) (J H R W)) λr i h=>?_
  cases r with
  | error e=>exact(L H e i h).elim
  | ok fl=>
   cases fl with
   | next=>exact False.elim h
   | brk=>exact False.elim h
   | cont=>exact False.elim h
   | ret u=>
    obtain⟨v,H',os,bare,un,C,r',q⟩:=h;have q' :v= .bl true:=q;subst q';obtain rfl:u=Value.bool true:=r';refine⟨rfl,OldK.of_keep λb o e=>?_,os,bare⟩
    cases q:H b with
    | none=>exact un.keep b o e q (by intro z;exact absurd (show b∈([]:List Addr) from z) (by simp)) (by simp)
    | some u=>
     rcases R b with z | ⟨ob,xs,z⟩
     ·rw[q]at z;cases z
     ·have z2:=un.vK b ob _ z;obtain⟨T,_⟩:=bD b _ z;obtain⟨e2,_⟩:=C b _ z2;rw[e]at T;cases T;exact e2
 cases hk:K.lookup a with
 | some o=>
  have e:=KX a o hk;rw[E]at e;cases e;refine l (λ_=>none) (λ_=>.inl rfl) (.inr ⟨_,vs.toArray,_,hk,rfl,rfl,rfl,by rw[List.size_toArray,A];exact O,by simpa using Q⟩) (λb u z=>by have D :(none:Option HO)=some u:=z;cases D) (λb z=>absurd rfl z) λz=>absurd rfl z
 | none=>
  refine l (λb=>if b=a then some (.frz {cls:= .type "list",data:= .seq vs.toArray} (.lst (ns.map V.int))) else none) (λb=>?_) (.inl (.inr ⟨{cls:= .type "list",data:= .seq vs.toArray},if_pos rfl⟩)) (λb u z=>?_) (λb z=>?_) λ_=>hk
  ·by_cases g:b=a
   ·exact .inr ⟨_,_,if_pos g⟩
   ·exact .inl (if_neg g)
  ·by_cases g:b=a
   ·have D :=(if_pos g).symm.trans z;cases D;subst g;exact⟨E,by rw[List.length_map];exact O,vs,_,Q,E⟩
   ·have D :=(if_neg g).symm.trans z;cases D
  ·by_cases g:b=a
   ·exact g
   ·exact absurd (if_neg g) z
theorem JW{l:PySem.W.OpenLaw}{n k:Nat}{q:Program}{loose:List Str}{XP:(aEg)->Heap->Prop}{C:World->Heap->Prop}{d:DefRec}{K:Params->aEd}{CX:World->EX}{sp:World->Sp}
  (D:l.most=some n) (r:n<=sizeLine) (t:d.params.defaults=[]) (E:eE k callerA)
  (I:∀(w:World) (h:Heap),C w h->(K w.params).In h)
  (F:∀(w:World) (mg:aEg) (p:Addr) (h:Heap),(K w.params).In h->h.Ns mainGlobals mg->mg d.name=some (.ref p)->
   ∃fd:FuncData,(∀(s:Shared) (u:Value),BindsTo s fd ⟨[u],[]⟩ [(x,u)])/\
    ∀base:Heap,(K w.params).In base->base.Ns mainGlobals mg->hU l.prog w (K w.params) mg base (CX w) k p fd [x] (sp w))
  (y:∀(w:World) (H:Hp) (a:Addr) (ns:List Int),ns.length<=n->NR H->nV (K w.params) H a (ns.map V.int)->sp w [.ref a] H (λv _=>v= .bl true) λ_ _ _=>False)
  (z:∀(w:World) (H:Hp) (s:Shared) (e:Value) (A :Shared),CX w [] H s (λ_ _ _=>False) e A ->False):
  PySem.W.WalkO q loose XP C l.row.toRowW d [] (λf vs=>PySem.call f vs):=by
 refine Att.y9 D t λw s₀ j mg mb p o pm P doc a vs ns G Y ho hd J B m i c hg=>?_;have KX:=I w _ Y;obtain⟨fd,L,M⟩:=F w mg p _ KX G.T.g B;exact G8 KX G.T.g G.T.b G.T.builtins G.T.nolimit hg m i (aBq c r) E M L (λH N O=>y w H a ns c N O) λH e A =>z w H j e A
def c8(s:Stmt):Arguments:=match s with
 | .FunctionDef _ a _ _ _ _ _ _ _ _=>a
 | _=>{posonlyargs:=[],args:=[],vararg:=none,kwonlyargs:=[],kw_defaults:=[],kwarg:=none,defaults:=[]}
def bQ(s:Stmt):List Stmt:=match s with
 | .FunctionDef _ _ b _ _ _ _ _ _ _=>b
 | _=>[]
def aC(s:Stmt):Scope:=match s with
 | .FunctionDef _ _ _ _ _ _ sc _ _ _=>sc
 | _=>{kind:= .function,names:=[],isGenerator:=false,isCoroutine:=false}
abbrev wG:EX:=λ_ _ _ _ _ _=>False
abbrev E0:XK:=λ_ _ _=>False
theorem VY{X:Cx}:Passes wG X E0:=λ_ _ _ _ _ _ _ h=>h.elim
structure UO(K:aEd)(x qual:Str)(st:Stmt)(f:Addr)(fd:FuncData):Prop where
 ex:∃(oc:Value) (od:Option Addr) (kV doc pm:Value) (an:Option Addr) (cdv ct:Value) (osl:Array (Option Value)),
  fd=PySem.W.fnOf x qual (c8 st) (bQ st) (aC st) .none kV doc pm an cdv ct/\K.lookup f=some ⟨oc,od,.func fd,osl⟩/\PySem.W.codeIn K cdv qual=true
 kp:PySem.W.keepIn K (.ref f)=true
section
variable {P:Program}{w:World}{K:aEd}{mg:aEg}{base:Heap}
theorem UO.ok{x qual:Str}{st:Stmt}{f:Addr}{N ps:List Str}{k:Nat}{sp:Sp}(F:UO K x qual st f fd)(S:aZ N ps (aC st))(len:∀vs H Q E,sp vs H Q E->vs.length=ps.length)
  (a:∀(cdv:Value) (A:Around) (outer:List Env) (s:Shared) (H:Hp) (vs:List V) (Q:VK) (E:XK),eE k (A.deeper (envOfC qual (aC st) s.heap.objs.size f cdv))->sp vs H Q E->
   ∃t,t9 (pE wG P w K mg base N qual (aC st) f cdv A outer s H E).GJ (bQ st) t/\t {nx:=λ_ H' =>Q .bF H',rt:=Q} (start N vs) H):hU P w K mg base wG (k+1) f fd ps sp:=by
 obtain⟨oc,od,kV,doc,pm,an,cdv,ct,osl,rfl,d,b⟩:=F.ex;refine OQ d b S len λA outer s H vs Q E e c=>?_;obtain⟨t,h,q⟩:=a cdv A outer s H vs Q E e c;exact⟨t,h.GJ,q⟩
theorem UO.binds{x qual:Str}{st:Stmt}{f:Addr}{ps:List Str}(F:UO K x qual st f fd)
  (h:∀(kV doc pm:Value) (an:Option Addr) (cdv ct:Value) (us:List Value),us.length=ps.length->bindArgs (PySem.W.fnOf x qual (c8 st) (bQ st) (aC st) .none kV doc pm an cdv ct) ⟨us,[]⟩=pure (ps.zip us)):Binds K fd ps []:=by
 obtain⟨oc,od,kV,doc,pm,an,cdv,ct,osl,rfl,b,a⟩:=F.ex;exact .all (h kV doc pm an cdv ct)
theorem vJ{x qual:Str}{st:Stmt}{f:Addr}{oc:Value}{od an:Option Addr}{osl:Array (Option Value)}{kV doc pm cdv ct:Value}(l:K.lookup f=some ⟨oc,od,.func (PySem.W.fnOf x qual (c8 st) (bQ st) (aC st) .none kV doc pm an cdv ct),osl⟩)
  (c:PySem.W.codeIn K cdv qual=true) (k:PySem.W.keepIn K (.ref f)=true):UO K x qual st f (PySem.W.fnOf x qual (c8 st) (bQ st) (aC st) .none kV doc pm an cdv ct):=⟨⟨oc,od,kV,doc,pm,an,cdv,ct,osl,rfl,l,c⟩,k⟩
end
theorem C8{n:Nat}(h:n<=1000):n<sizeLine:=Nat.lt_of_le_of_lt h (by decide)
end L2
namespace D3
open PySem PySem.Spec PyProof.Rows L2 PySem.Calls
noncomputable def kE(P:Params)(x:Str)(t:Tok)(v:Value):DictEntry:=⟨PyData.keyHash P x,.str x t,v⟩
noncomputable def kF(x:Str)(st:Stmt)(m:Value)(c:Addr)(d:Value:= .none):Obj:=⟨.type "function",none,.func (PySem.W.fnOf x x (c8 st) (bQ st) (aC st) d .none .none m none (.ref c) .none),#[]⟩
noncomputable def kC(x:Str)(t:Nat)(l n:Int)(T c:Nat)(u v:Value:= .none)(k:Nat:=3):Obj:=
 ⟨.type "code",none,.fields #[.str x t,.str x (t+1),.str "/claim/cut.py" (t+2),.int l 0,.int n 0,.int 0 0,.int 0 0,.int 3 0,.ref (c-k),.bool true,.int 181 0,.ref (c-k+1),.none,u,v,.ref (c-1),.int T 0,.int l 0,.str "/claim/cut.py" (T+1)],#[]⟩
noncomputable def kD(x:Str)(t:Nat)(l n:Int)(T c:Nat):Obj:=kC x t l n T c (.ref (c-3)) (.ref (c-2)) 5
noncomputable def kQ(p:Program)(ks:List Nat):Program:={p with main:={p.main with body:=ks.filterMap λi=>p.main.body[i]?}}
end D3
namespace K37
open PySem PySem.Spec PyProof.Rows L2 D3
def top(i:Nat):Stmt:=PySem.Challenge.pw_maskwright_k37_lists_thinned.main.body.getD i (.Pass ⟨0,0,0,0⟩)
abbrev cU:Stmt:=top 1
abbrev cV:Stmt:=top 2
abbrev cW:Stmt:=top 3
abbrev cH:Stmt:=top 4
abbrev dH:Stmt:=top 5
abbrev d6:Stmt:=top 6
abbrev fE:Stmt:=top 7
abbrev d8:Stmt:=top 9
abbrev dI:Stmt:=top 10
abbrev dM:Stmt:=top 11
abbrev bY:Stmt:=top 12
abbrev cX:Stmt:=top 13
abbrev cB:Stmt:=top 14
abbrev d7:Stmt:=top 15
abbrev dJ:Stmt:=top 16
abbrev qD:Stmt:=top 17
noncomputable def m0:Value:= .str "maskwright.lists" 187
noncomputable def m1:Value:= .str "law_maskwright_k37_lists_thinned" 266
noncomputable def kk:Params->W.Frag:=λP=>(nat_lit 3,⟨.type "dict",none,.dict #[kE P "__name__" 165 (.str "law_maskwright_k37_lists_thinned" 266),kE P "__doc__" 166 .none,kE P "__package__" 167 .none,kE P "__loader__" 168 (.builtin "__main__.__loader__#opaque"),kE P "__spec__" 169 .none,kE P "__annotations__" 170 (.ref 6),kE P "__builtins__" 171 (.ref 4),kE P "__file__" 173 (.str "/claim/cut.py" 172),kE P "__cached__" 174 .none,kE P "next_alike" 205 (.ref 21),kE P "inner_nets" 211 (.ref 26),kE P "are_in_row" 219 (.ref 33),kE P "next_in_row" 230 (.ref 40),kE P "next_pair" 242 (.ref 47),kE P "made_one" 251 (.ref 54),kE P "thinned" 265 (.ref 61),kE P "_law_bag" 278 (.ref 68),kE P "_law_take" 289 (.ref 75),kE P "_law_list" 295 (.ref 80),kE P "_law_is_whole" 302 (.ref 87),kE P "_law_alike" 308 (.ref 92),kE P "_law_chained" 328 (.ref 99),kE P "_law_two" 334 (.ref 104),kE P "_law_once" 340 (.ref 109),kE P "law" 354 (.ref 116)] 25,#[]⟩)::(nat_lit 20,kD "next_alike" 189 2 1 203 20)::(nat_lit 21,kF "next_alike" cU m0 20)::(nat_lit 25,kC "inner_nets" 206 11 2 209 25)::(nat_lit 26,kF "inner_nets" cV m0 25)::(nat_lit 32,kD "are_in_row" 212 19 2 217 32)::(nat_lit 33,kF "are_in_row" cW m0 32)::(nat_lit 39,kD "next_in_row" 220 21 2 228 39)::(nat_lit 40,kF "next_in_row" cH m0 39)::(nat_lit 46,kD "next_pair" 231 27 2 240 46)::(nat_lit 47,kF "next_pair" dH m0 46)::(nat_lit 53,kD "made_one" 243 35 2 249 53)::(nat_lit 54,kF "made_one" d6 m0 53)::(nat_lit 60,kD "thinned" 252 40 1 263 60)::(nat_lit 61,kF "thinned" fE m0 60)::(nat_lit 67,kD "_law_bag" 268 50 2 276 67)::(nat_lit 68,kF "_law_bag" d8 m1 67)::(nat_lit 74,kD "_law_take" 279 60 2 287 74)::(nat_lit 75,kF "_law_take" dI m1 74)::(nat_lit 79,kC "_law_list" 290 72 4 293 79)::(nat_lit 80,kF "_law_list" dM m1 79)::(nat_lit 86,kD "_law_is_whole" 296 86 1 300 86)::(nat_lit 87,kF "_law_is_whole" bY m1 86)::(nat_lit 91,kC "_law_alike" 303 88 2 306 91)::(nat_lit 92,kF "_law_alike" cX m1 91)::(nat_lit 98,kD "_law_chained" 309 96 2 326 98)::(nat_lit 99,kF "_law_chained" cB m1 98)::(nat_lit 103,kC "_law_two" 329 109 3 332 103)::(nat_lit 104,kF "_law_two" d7 m1 103)::(nat_lit 108,kC "_law_once" 335 125 1 338 108)::(nat_lit 109,kF "_law_once" dJ m1 108)::(nat_lit 115,kD "law" 341 134 1 352 115)::(nat_lit 116,kF "law" qD m1 115)::[]
theorem kl:PySem.W.LeftO PySem.Challenge.rw_maskwright_k37_lists_thinned.prog (D3.kQ PySem.Challenge.pw_maskwright_k37_lists_thinned [1,2,3,4,5,6,7,9,10,11,12,13,14,15,16,17]) [] (λ_=>true) (λs=>List.map s.heap.get? [3,20,21,25,26,32,33,39,40,46,47,53,54,60,61,67,68,74,75,79,80,86,87,91,92,98,99,103,104,108,109,115,116]) (λw=>(kk w.params).map λp=>some p.2) 1174:=λ_=>by kernel_rfl
end K37
namespace L2
open PySem PySem.Spec PyProof.Rows
section
variable {κ:Type}[DecidableEq κ]
def iE(kvs:List (κ×V))(k:κ):Option V:=(kvs.find? λa=>decide (a.1=k)).map (·.2)
def putK(kvs:List (κ×V))(k:κ)(v:V):List (κ×V):=
 if (kvs.any λa=>decide (a.1=k))=true then kvs.map (λa=>if a.1=k then (a.1,v) else a) else kvs++[(k,v)]
variable{r:List (κ×V)}
theorem jI{p:κ×V}{k:κ}(e:p.1=k):iE (p::r) k=some p.2:=by simp[iE,List.find?_cons,e]
theorem jJ{p:κ×V}{k:κ}(e:¬p.1=k):iE (p::r) k=iE r k:=by simp[iE,List.find?_cons,e]
theorem wX(k:κ):∀kvs:List (κ×V),(kvs.any λa=>decide (a.1=k))=(iE kvs k).isSome
 | []=>rfl
 | p::r=>by
  rw[List.any_cons];by_cases e:p.1=k
  ·simp only[jI e,decide_eq_true e,Bool.true_or,Option.isSome_some]
  ·rw[jJ e,decide_eq_false e,Bool.false_or];exact wX k r
theorem fU(kvs:List (κ×V))(k:κ)(v:V):(putK kvs k v).length<=kvs.length+1:=by
 unfold putK;split
 ·rw[List.length_map];lia
 ·rw[List.length_append,List.length_cons,List.length_nil];lia
variable{u:Option Value}
theorem pH.fB{o:Option V}(r:pH o u):o.isSome=u.isSome:=by
 cases o with
 | none=>cases u with
  | none=>rfl
  | some _=>exact(show False from r).elim
 | some _=>cases u with
  | none=>exact(show False from r).elim
  | some _=>rfl
theorem pH.getD{o:Option V}{d:V}{d' :Value}(r:pH o u)(a:RelV d d'):RelV (o.getD d) (u.getD d'):=by
 cases o with
 | none=>cases u with
  | none=>exact a
  | some _=>exact(show False from r).elim
 | some _=>cases u with
  | none=>exact(show False from r).elim
  | some _=>exact r
variable{kvs:List (κ×V)}{vs:List (κ×Value)}
theorem KV.val(r:KV kvs vs)(k:κ):pH (iE kvs k) (valueAt vs k):=by
 unfold KV at r
 induction r with
 | nil=>exact True.intro
 | @cons p q ps qs h t ih=>
  obtain⟨c,d⟩:=h;by_cases e:p.1=k
  ·have a :q.1=k:=c.symm.trans e;have b:valueAt (q::qs) k=some q.2:=by simp[valueAt,List.find?_cons,a]
   rw[jI e,b];exact d
  ·have a :¬q.1=k:=λz=>e (c.trans z);have b:valueAt (q::qs) k=valueAt qs k:=by simp[valueAt,List.find?_cons,a]
   rw[jJ e,b];exact ih
theorem KV.any(r:KV kvs vs)(k:κ):(kvs.any λa=>decide (a.1=k))=vs.any λa=>decide (a.1=k):=by
 unfold KV at r
 induction r with
 | nil=>rfl
 | cons h t ih=>rw[List.any_cons,List.any_cons,ih,h.1]
theorem KV.PV(r:KV kvs vs)(k:κ){y:V}{u:Value}(c:RelV y u):
  KV (kvs.map λa=>if a.1=k then (a.1,y) else a) (vs.map λa=>if a.1=k then (a.1,u) else a):=by
 unfold KV at r⊢
 induction r with
 | nil=>exact .nil
 | @cons p q ps qs h t ih=>
  rw[List.map_cons,List.map_cons];refine .cons ?_ ih;obtain⟨b,d⟩:=h;by_cases e:p.1=k
  ·rw[if_pos e,if_pos (b.symm.trans e)];exact⟨b,c⟩
  ·rw[if_neg e,if_neg (λz=>e (b.trans z))];exact⟨b,d⟩
theorem KV.put(r:KV kvs vs)(k:κ){y:V}{u:Value}(a:RelV y u):KV (putK kvs k y) (stored vs k u):=by
 unfold putK stored;rw[r.any k];by_cases e:(vs.any λb=>decide (b.1=k))=true
 ·rw[if_pos e,if_pos e];exact r.PV k a
 ·rw[if_neg e,if_neg e];exact Paired.snoc r ⟨rfl,a⟩
theorem KV.length(r:KV kvs vs):kvs.length=vs.length:=Paired.length r
end
variable{P:Program}{w:World}{u:Value}
theorem nE{k:Key}(r:RelV (kV k) u):(aP P w).is k u=true:=by
 cases k with
 | inl i=>obtain⟨t,e⟩:=(show ∃t,u=Value.int i t from r);subst e;exact xW P w i t
 | inr x=>obtain⟨t,e⟩:=(show ∃t,u=Value.str x t from r);subst e;exact xV P w x t
theorem n5{P:Program}{w:World}:∀{ks:List Key} {us:List Value},Vals (ks.map kV) us->ItemsAre (aP P w) ks us
 | [],_,r=>by rw[List.map_nil]at r;cases r;exact .nil
 | k::ks,_,r=>by
  rw[List.map_cons]at r
  cases r with
  | cons h t=>exact .cons (nE h) (n5 t)
abbrev KT(H:Hp):List (List Key×V)->List (List Key×Addr×Value)->Prop:=Paired λp q=>p.1=q.1/\H q.2.1=some (.tup (p.1.map kV))/\RelV p.2 q.2.2
variable{H:Hp}{kvs:List (List Key×V)}{xs:List (List Key×Addr×Value)}
theorem KT.val(r:KT H kvs xs)(k:List Key):pH (iE kvs k) ((atKey xs k).map (·.2)):=by
 induction r with
 | nil=>exact True.intro
 | @cons p q ps qs h t ih=>
  obtain⟨c,_,d⟩:=h;by_cases e:p.1=k
  ·have a :q.1=k:=c.symm.trans e;have b:atKey (q::qs) k=some q.2:=by simp[atKey,List.find?_cons,a]
   rw[jI e,b];exact d
  ·have a :¬q.1=k:=λz=>e (c.trans z);have b:atKey (q::qs) k=atKey qs k:=by simp[atKey,List.find?_cons,a]
   rw[jJ e,b];exact ih
theorem KT.PV(r:KT H kvs xs)(k:List Key){y:V}(d:RelV y u):
  KT H (kvs.map λb=>if b.1=k then (b.1,y) else b) (xs.map (putAt k u)):=by
 induction r with
 | nil=>exact .nil
 | @cons p q ps qs h t ih=>
  rw[List.map_cons,List.map_cons];refine .cons ?_ ih;obtain⟨a,c,f⟩:=h;unfold putAt;by_cases e:p.1=k
  ·rw[if_pos e,if_pos (a.symm.trans e)];exact⟨a,c,d⟩
  ·rw[if_neg e,if_neg (λz=>e (a.trans z))];exact⟨a,c,f⟩
theorem KT.put(r:KT H kvs xs)(k:List Key){b:Addr}{y:V}(c:H b=some (.tup (k.map kV)))(a:RelV y u):
  KT H (putK kvs k y) (storedH xs k b u):=by
 have e:(kvs.any λd=>decide (d.1=k))=(atKey xs k).isSome:=by
  rw[wX,(r.val k).fB,Option.isSome_map]
 unfold putK storedH;rw[e];by_cases q:(atKey xs k).isSome=true
 ·rw[if_pos q,if_pos q];exact r.PV k a
 ·rw[if_neg q,if_neg q];exact Paired.snoc r ⟨rfl,c,a⟩
theorem KT.keeps{H H' :Hp}(r:KT H kvs xs)(ht:∀b a,H b=some (.tup a)->H' b=some (.tup a)):KT H' kvs xs:=
 Paired.RE r λ_ _ z=>⟨z.1,ht _ _ z.2.1,z.2.2⟩
section
variable {P:Program}{w:World}{H:Hp}{h:Heap}{a:Addr}
theorem OB{u:HO}(ok:nT P w H h)(e:Rd H a u):bO P w H h a u:=e.ok ok
variable{kvs:List (Key×V)}
theorem rE(ok:nT P w H h)(e:Rd H a (.dK kvs)):kvs.length<=sizeLine/\(a==sysModules)=false/\∃vs,KV kvs vs/\h.DictOf (aP P w) a vs:=
 show bO P w H h a (.dK kvs) from OB ok e
theorem tO(ok:nT P w H h)(e:H a=some (.dK kvs)):kvs.length<=sizeLine/\(a==sysModules)=false/\∃vs,KV kvs vs/\h.DictOf (aP P w) a vs:=rE ok (.inl e)
theorem nZ{ks:List Key}(ok:nT P w H h)(e:H a=some (.tup (ks.map kV))):(tupleKind (aP P w)).is h ks a:=by
 obtain⟨_,aH,r,⟨o,b,c,n,d⟩,_⟩:=(show bO P w H h a (.tup (ks.map kV)) from ok a _ e)
 exact⟨o,aH.toArray,n,b,c,d,by simpa using n5 r⟩
variable{kvs:List (List Key×V)}
theorem oW(ok:nT P w H h)(e:Rd H a (.dT kvs)):kvs.length<=sizeLine/\(a==sysModules)=false/\
  ∃xs,KT H kvs xs/\h.DictOfH (tupleKind (aP P w)) a xs:=by
 obtain⟨z,y,xs,r,o,es,ep,b,c,d,f,g⟩:=(show bO P w H h a (.dT kvs) from OB ok e)
 refine⟨z,y,xs,r,o,es,ep,b,c,d,f,λx hx=>?_,g⟩
 have all:∀{l:List (List Key×V)} {m:List (List Key×Addr×Value)},KT H l m->∀x∈m,(tupleKind (aP P w)).is h x.1 x.2.1:=by
  intro l m q
  induction q with
  | nil=>intro x hx;exact nomatch hx
  | @cons p q ps qs hq t ih=>
   intro x hx;rcases aBa.mp hx with e | hx
   ·subst e;exact nZ ok (by rw[<-hq.1];exact hq.2.1)
   ·exact ih x hx
 exact all r x hx
theorem OT(ok:nT P w H h)(e:H a=some (.dT kvs)):kvs.length<=sizeLine/\(a==sysModules)=false/\
  ∃xs,KT H kvs xs/\h.DictOfH (tupleKind (aP P w)) a xs:=oW ok (.inl e)
end
def wA(H:Hp)(a:Addr)(y:V)(r:Option V):Prop:=
 (∃kvs k,Rd H a (.dK kvs)/\y=kV k/\r=iE kvs k)\/∃kvs k b,Rd H a (.dT kvs)/\y= .ref b/\H b=some (.tup (k.map kV))/\r=iE kvs k
def ET(H:Hp)(a:Addr)(y v:V)(H' :Hp):Prop:=
 (∃kvs k,H a=some (.dK kvs)/\y=kV k/\kvs.length<sizeLine/\H' =upd H a (.dK (putK kvs k v)))\/
 ∃kvs k b,H a=some (.dT kvs)/\y= .ref b/\H b=some (.tup (k.map kV))/\kvs.length<sizeLine/\H' =upd H a (.dT (putK kvs k v))
variable{a:Addr}{kvs:List (Key×V)}
theorem wA.k{k:Key}(e:H a=some (.dK kvs)):wA H a (kV k) (iE kvs k):= .inl ⟨kvs,k,.inl e,rfl,rfl⟩
theorem ET.k{k:Key}{v:V}(e:H a=some (.dK kvs))(b:kvs.length<sizeLine):ET H a (kV k) v (upd H a (.dK (putK kvs k v))):= .inl ⟨kvs,k,e,rfl,b,rfl⟩
theorem ET.t{a b:Addr}{kvs:List (List Key×V)}{k:List Key}{v:V}(e:H a=some (.dT kvs))(c:H b=some (.tup (k.map kV)))(d:kvs.length<sizeLine):
  ET H a (.ref b) v (upd H a (.dT (putK kvs k v))):= .inr ⟨kvs,k,b,e,rfl,c,d,rfl⟩
section
variable {X:Cx}{pins:List (Addr×Obj)}{σ:St}{H:Hp}{s:Shared}{a:Addr}{y v:V}{u r:Value}{o:Option V}{A:Around}{E:aEe}
theorem Inv.big(I:Inv X pins σ H s):sysModules<s.heap.objs.size:=by
 have h:mainGlobals<s.heap.objs.size:=(I.mod.glob.keeps I.bk).lt;exact aE0 (by decide) h
theorem EG{Q:aEe}(t:A.units+1<cLine)(I:Inv X pins σ H s)(g:wA H a y (some v))(q:RelV y u)(h:∀f r,Inv X pins σ H r ->RelV v f ->Q f r):
  wpAny (model X.prog X.w) A (getItem (.ref a) u) Q E s:=by
 rcases g with ⟨kvs,k,e,i,l⟩ | ⟨kvs,k,b,e,i,x,l⟩
 ·subst i;obtain⟨z,hd,vs,c,j⟩:=rE I.bD e;obtain⟨f,m,d⟩:=pH.some_of (v:=v) (o:=valueAt vs k) (by rw[l];exact c.val k);exact wpAny_getItem_of (nE q) j.mapOf m (h f _ (I.tok _) d)
 ·subst i;cases (show u=Value.ref b from q);obtain⟨z,hd,xs,c,j⟩:=oW I.bD e;obtain⟨f,m,d⟩:=pH.some_of (v:=v) (o:=(atKey xs k).map (·.2)) (by rw[l];exact c.val k);obtain⟨p,B,n⟩:=aBm.mp m;refine wpAny_getItem_heap (aCl t) (nZ I.bD x) j B ?_;rw[n];exact h f _ (I.tok _) d
theorem XI{Q:aEe}(m:A.units+1<cLine)(I:Inv X pins σ H s)(g:wA H a y o)(i:RelV y u)(h:∀j,Inv X pins σ H j ->Q (.bool o.isSome) j):
  wpAny (model X.prog X.w) A (compareOp .In u (.ref a)) Q E s:=by
 rcases g with ⟨kvs,k,e,d,l⟩ | ⟨kvs,k,b,e,d,n,l⟩
 ·subst d;obtain⟨z,hd,vs,c,f⟩:=rE I.bD e;refine wpAny_in_of (nE i) hd f.mapOf ?_;rw[<-(c.val k).fB,<-l];exact h _ (I.tok _)
 ·subst d;cases (show u=Value.ref b from i);obtain⟨z,hd,xs,c,f⟩:=oW I.bD e;refine wpAny_in_heap (aCl m) (nZ I.bD n) hd f ?_;have q:=(c.val k).fB;rw[Option.isSome_map]at q;rw[<-q,<-l];exact h _ (I.tok _)
theorem M9{Q:aEe}(m:A.units+1<cLine)(I:Inv X pins σ H s)(g:wA H a y o)(i:RelV y u)(h:∀j,Inv X pins σ H j ->Q (.bool (!o.isSome)) j):
  wpAny (model X.prog X.w) A (compareOp .NotIn u (.ref a)) Q E s:=by
 rcases g with ⟨kvs,k,e,d,l⟩ | ⟨kvs,k,b,e,d,n,l⟩
 ·subst d;obtain⟨z,hd,vs,c,f⟩:=rE I.bD e;refine wpAny_notIn_of (nE i) hd f.mapOf ?_;rw[<-(c.val k).fB,<-l];exact h _ (I.tok _)
 ·subst d;cases (show u=Value.ref b from i);obtain⟨z,hd,xs,c,f⟩:=oW I.bD e;refine wpAny_notIn_heap (aCl m) (nZ I.bD n) hd f ?_;have q:=(c.val k).fB;rw[Option.isSome_map]at q;rw[<-q,<-l];exact h _ (I.tok _)
theorem nO{h' :Heap}{t' :Nat}{ob:HO}(I:Inv X pins σ H s)(c:A9 (H a))(hs:Heap.SameBut a s.heap h')(he:∃q,h'.get? a=some q)(new:bO X.prog X.w (upd H a ob) h' a ob):
  Inv X pins σ (upd H a ob) {s with heap:=h',toks:=t'}:=
 I.write (x:=a) (e:=a) c (.inl rfl) (λb q d z=>(hs.2 b d).trans z) he new
theorem AV{H' :Hp}{h' :Heap}{vs:List (Key×Value)}(z:kvs.length<=sizeLine)(hd:(a==sysModules)=false)(b:KV kvs vs)(c:h'.DictOf (aP P w) a vs):
  bO P w H' h' a (.dK kvs):=⟨z,hd,vs,b,c⟩
theorem EF{H' :Hp}{Q:Unit->Shared->Prop}(D:A.units+1<cLine)(I:Inv X pins σ H s)(g:ET H a y v H')(p:RelV y u)(t:RelV v r)(h:∀x,Inv X pins σ H' x ->Q () x):
  wpAny (model X.prog X.w) A (setItem (.ref a) u r) Q E s:=by
 rcases g with ⟨kvs,k,e,j,l,m⟩ | ⟨kvs,k,b,e,j,B,l,m⟩
 ·subst j m;obtain⟨z,hd,vs,d,n⟩:=tO I.bD e;have hz:vs.length<=sizeLine:=by rw[<-d.length];exact z
  have o:(putK kvs k v).length<=sizeLine:=by have:=fU kvs k v;lia
  refine wpAny_setItem_pairs (hsz:=hz) (nE p) n λh' f hs=>h _ ?_;have he:∃q,h'.get? a=some q:=let ⟨q,_,_,i,_⟩:=f;⟨q,i⟩;exact nO I (by rw[e];exact True.intro) hs he (AV o hd (d.put k t) f)
 ·subst j m;cases (show u=Value.ref b from p);obtain⟨z,hd,xs,d,n⟩:=OT I.bD e;have hz:xs.length<=sizeLine:=by rw[<-Paired.length d];exact z
  have o:(putK kvs k v).length<=sizeLine:=by have:=fU kvs k v;lia
  refine wpAny_setItem_heap (hsz:=hz) (aCl D) (nZ I.bD B) n λh' f hs=>h _ ?_;obtain⟨q,es,ep,i,F,G,J,_,K⟩:=f;refine nO I (by rw[e];exact True.intro) hs ⟨q,i⟩ ⟨o,hd,_,(d.put k B t).keeps λc L C=>?_,q,es,ep,i,F,G,J,K⟩;rw[aN (WC C e (λz=>nomatch z))];exact C
end
variable{pins:List (Addr×Obj)}
theorem yO{X:Cx}{σ:St}{s:Shared}{y:V}{o:Option V}(I:Inv X pins σ H s)(g:wA H a y o):s.TypeIs (.ref a) "dict":=by
 rcases g with ⟨kvs,k,e,_,_⟩ | ⟨kvs,k,b,e,_,_,_⟩
 ·obtain⟨_,_,vs,_,c⟩:=rE I.bD e;exact c.typeIs
 ·obtain⟨_,_,xs,_,c⟩:=oW I.bD e;exact c.typeIs
def VH(c ty tv:TE):TS:=λD σ H=>tv σ H λv d=>c σ d λx e=>ty σ e λy f=>∃a b,x= .ref a/\ET f a y v b/\D.nx σ b
section
variable {X:Cx}{o i e value:Expr}{pos pos' lS:Pos}{td ty tv:TE}
theorem uL(b:X.A.units+1<cLine)(ho:PE X o td)(hi:PE X i ty)(hv:PE X value tv)(hs:swapsWith value (some (.Subscript o i pos')) pos.line X.env=pure false):
  PS X (.Assign [.Subscript o i pos'] value pos) (VH td ty tv):=by
 intro pins s σ H D I h;refine wpAny_Assign_Subscript (cA (hv pins s σ H _ I h) λr s1 ⟨v,c,d,e,f⟩=>cA (ho pins s1 σ c _ d f) λu s2 ⟨x,j,k,l,m⟩=>cA (hi pins s2 σ j _ k m) λz B ⟨y,C,n,p,a,q,ex,g,t⟩=>?_) hs;subst ex;obtain rfl:u=Value.ref a:=l
 exact EF b n g p e λE w=>⟨σ,q,w,t⟩
end
theorem yN(h:Heap)(a:sysModules<h.objs.size):bO P w H (h.push {cls:= .type "dict",data:= .dict #[]}) h.objs.size (.dK []):=
 ⟨aCa _,aDy.mpr (aC1 (aB9 a)),[],.nil,Heap.DictOf.new h⟩
theorem IJ(h:Heap)(a:sysModules<h.objs.size):bO P w H (h.push {cls:= .type "dict",data:= .dict #[]}) h.objs.size (.dT []):=
 ⟨aCa _,aDy.mpr (aC1 (aB9 a)),[],.nil,_,#[],0,aB4 _ rfl,⟨rfl,rfl,rfl⟩,rfl,rfl,List.nodup_nil⟩
def PC:TE:=λ_ H Q=>∀p,H p=none->Q (.ref p) (upd H p (.dK []))
def PB:TE:=λ_ H Q=>∀p,H p=none->Q (.ref p) (upd H p (.dT []))
section
variable {X:Cx}{pos:Pos}
theorem F9:PE X (.Dict [] [] pos) PC:=λpins s σ H Q I h=>
 wpAny_Dict_empty ⟨.ref s.heap.objs.size,_,I.laid (a:=s.heap.objs.size) (o:= .dK []) (t' :=s.toks) (λ_ _ q=>aB1 _ q) (aB3 _) (yN s.heap I.big),rfl,h _ (I.bD.fresh (aB3 _))⟩
theorem F8:PE X (.Dict [] [] pos) PB:=λpins s σ H Q I h=>
 wpAny_Dict_empty ⟨.ref s.heap.objs.size,_,I.laid (a:=s.heap.objs.size) (o:= .dT []) (t' :=s.toks) (λ_ _ q=>aB1 _ q) (aB3 _) (IJ s.heap I.big),rfl,h _ (I.bD.fresh (aB3 _))⟩
end
structure M2(X:Cx)(o:Expr)(m:Str)(apos:Pos)(e f:Expr)(bS:Pos):Prop where
 base:attributeBase o m X.env (eval o X.env)=eval o X.env
 IF:((backTo bS (starEach [e,f] X.env)).all (λx=>!x.1) && (backToKw bS (keywordEach [] X.env)).all (λx=>x.1.isSome)
  && decide (([e,f]:List Expr).length+([]:List Keyword).length+(if ([]:List Keyword).isEmpty then 0 else 1)<30))=true
 line:(apos.endLine==bS.line)=true
 trees:backTo bS (starEach [e,f] X.env)=[(false,eval e X.env),(false,eval f X.env)]
def YS(H:Hp)(a:Addr):Prop:=(∃kvs,Rd H a (.dK kvs))\/∃kvs,Rd H a (.dT kvs)
theorem AN{X:Cx}{σ:St}{s:Shared}(I:Inv X pins σ H s)(d:YS H a):
  s.TypeIs (.ref a) "dict"/\(∀b,Value.ref a= .ref b->∃ob,s.heap.get? b=some ob/\ob.dict=none)/\(a==sysModules)=false:=by
 rcases d with ⟨kvs,e⟩ | ⟨kvs,e⟩
 ·obtain⟨_,hd,vs,_,c⟩:=rE I.bD e;refine⟨c.typeIs,λb q=>?_,hd⟩;cases q;obtain⟨ob,_,_,f,g,_⟩:=c;exact⟨ob,f,g.2.1⟩
 ·obtain⟨_,hd,xs,_,c⟩:=oW I.bD e;refine⟨c.typeIs,λb q=>?_,hd⟩;cases q;obtain⟨ob,_,_,f,g,_⟩:=c;exact⟨ob,f,g.2.1⟩
section
variable {X:Cx}{pins:List (Addr×Obj)}{σ:St}{H:Hp}{s:Shared}{a:Addr}{y d:V}{u r:Value}{o:Option V}{A:Around}{E:aEe}
theorem TQ{Q:aEe}(q:A.units+1<cLine)(I:Inv X pins σ H s)(g:wA H a y o)(j:RelV y u)(m:RelV d r)(h:∀n p,Inv X pins σ H p ->RelV (o.getD d) n ->Q n p):
  wpAny (model X.prog X.w) A (call (.builtin "dict.get") [.ref a,u,r]) Q E s:=by
 rcases g with ⟨kvs,k,e,i,l⟩ | ⟨kvs,k,b,e,i,t,l⟩
 ·subst i;obtain⟨z,hd,vs,c,f⟩:=rE I.bD e;refine call_meetsIn aDo f.typeIs PySem.F.entry_dict_get (PySem.F.args_dict_get_3 _ _ _) (meets_dict_get_default (aP X.prog X.w) a (nE j) hd r) ⟨_,f.mapOf,h _ _ (I.tok _) ?_⟩;rw[l];exact(c.val k).getD m
 ·subst i;cases (show u=Value.ref b from j);obtain⟨z,hd,xs,c,f⟩:=oW I.bD e;refine call_meetsIn aDo f.typeIs PySem.F.entry_dict_get (PySem.F.args_dict_get_3 _ _ _) (meetsH_dict_get_default (tupleKind (aP X.prog X.w)) a b hd r) ⟨aCl q,k,xs,nZ I.bD t,f,h _ _ (I.tok _) ?_⟩;rw[l];exact(c.val k).getD m
end
def PD(d ty e:TE):TE:=λσ H Q=>d σ H λx b=>∃a,x= .ref a/\YS b a/\ty σ b λy f=>e σ f λz c=>∃o,wA c a y o/\Q (o.getD z) c
section
variable {X:Cx}{o e f:Expr}{apos bS:Pos}{td ty tx:TE}
theorem GA(j:X.A.units+1<cLine)(ho:PE X o td)(he:PE X e ty)(k:PE X f tx)(m:M2 X o "get" apos e f bS):PE X (.Call (.Attribute o "get" apos) [e,f] [] bS) (PD td ty tx):=by
 intro pins s σ H Q I h;refine wpAny_Call_method m.base m.IF m.line aDj aDo PySem.F.type_dict_get (cA (ho pins s σ H _ I h) λu s1 b=>?_);obtain⟨x,l,i,n,a,ex,d,p⟩:=b;subst ex;obtain rfl:u=Value.ref a:=n;obtain⟨q,r,_⟩:=AN i d;refine⟨q,r,?_⟩;rw[m.trees]
 refine aCz rfl (aDt (aCx (cA (he pins s1 σ l _ i p) λK s2 ⟨y,t,v,w,B⟩=>
  aCx (cA (k pins s2 σ t _ v B) λL M ⟨z,C,D,E,N,g,G⟩=>Calls.spliced_nil ?_))))
 exact TQ j D g w E λO P J c =>⟨_,C,J,c,G⟩
end
end L2
namespace ST
open PySem PySem.SetTable
def zF(xs:Array Nat):Prop:=xs.toList.Pairwise (· < ·)
variable{xs:Array Nat}{i j:Nat}
theorem zU(h:zF xs)(hi:i<j)(a:j<xs.size):xs[i]'(by lia)<xs[j]:=by
 have:=aCb.mp h i j (by simp;lia) (by simpa using a) hi;simpa using this
theorem FO(h:zF xs)(hi:i<=j)(a:j<xs.size):xs[i]'(by lia)<=xs[j]:=by
 rcases aDh hi with z | z
 ·exact aCs (zU h z a)
 ·subst z;exact aB3 _
theorem vI(xs:Array Nat)(j:Nat)(h:zF xs):∀(fuel lo hi:Nat),hi-lo<=fuel->lo<=hi->hi<=xs.size->(∀k (hk:k<xs.size),k<lo->xs[k]<j)->(∀k (hk:k<xs.size),hi<=k->j<=xs[k])->
  (below.go xs j fuel lo hi<=xs.size)/\(∀k (hk:k<xs.size),k<below.go xs j fuel lo hi->xs[k]<j)/\(∀k (hk:k<xs.size),below.go xs j fuel lo hi<=k->j<=xs[k])
 | 0,lo,hi,h1,h2,h3,a,b=>by
  have:lo=hi:=by lia
  subst this;exact⟨h3,a,b⟩
 | fuel+1,lo,hi,h1,h2,h3,a,b=>by
  unfold below.go;by_cases e:lo<hi
  ·rw[if_pos e];have f:(lo+hi) / 2<xs.size:=by lia
   have g:xs.getD ((lo+hi) / 2) j=xs[(lo+hi) / 2]:=by simp[Array.getD,f]
   simp only[g];by_cases d:xs[(lo+hi) / 2]<j
   ·rw[if_pos d];exact vI xs j h fuel _ _ (by lia) (by lia) h3 (λk hk c=>Nat.lt_of_le_of_lt (FO h (by lia) f) d) b
   ·rw[if_neg d];exact vI xs j h fuel _ _ (by lia) (by lia) (by lia) a (λk hk c=>aBq (aDp d) (FO h c hk))
  ·rw[if_neg e];have:lo=hi:=by lia
   subst this;exact⟨h3,a,b⟩
theorem iL(j:Nat)(h:zF xs):(below xs j<=xs.size)/\(∀k (hk:k<xs.size),k<below xs j->xs[k]<j)/\(∀k (hk:k<xs.size),below xs j<=k->j<=xs[k]):=
 vI xs j h xs.size 0 xs.size (by lia) (by lia) (aB3 _) (λk hk z=>by lia) (λk hk z=>by lia)
theorem A3(h:zF xs):below xs 0=0:=by
 obtain⟨a,b,_⟩:=iL 0 h;apply aC2;intro z;have:=b 0 (by lia) (by lia)
 lia
theorem A5(h:zF xs)(hi:i<xs.size):below xs (xs[i]+1)=i+1:=by
 obtain⟨a,b,c⟩:=iL (xs[i]+1) h
 have e:i<below xs (xs[i]+1):=by
  apply aC2;intro z;have:=c i hi (by lia)
  lia
 apply aC2;intro z;have d:i+1<below xs (xs[i]+1):=by lia
 have f:=b (i+1) (by lia) d;have g:=zU (i:=i) (j:=i+1) h (by lia) (by lia)
 lia
theorem LK(h:zF xs)(f:xs[below xs j]? ≠some j):j∉xs.toList:=by
 intro g;obtain⟨k,hk,e⟩:=aD6.mp g;have d :k<xs.size:=by simpa using hk
 have i :xs[k]=j:=by simpa using e
 obtain⟨a,b,c⟩:=iL j h
 have l:below xs j<=k:=by
  apply aC2;intro z;have:=b k d (by lia)
  lia
 rcases aDh l with z | z
 ·have:=zU h z d;have:=c _ (by lia) (aB3 _)
  lia
 ·apply f;rw[z];simp[d,i]
theorem yI{α:Type}(xs:Array α)(p:Nat)(x:α)(a:p<=xs.size):(insertAt xs p x).toList=xs.toList.take p++x::xs.toList.drop p:=by
 unfold insertAt;simp[Array.toList_extract];rw[List.take_of_length_le (by simp)]
theorem zV(h:zF xs)(i:j∉xs.toList):zF (insertAt xs (below xs j) j):=by
 obtain⟨a,b,c⟩:=iL j h;unfold zF;rw[yI _ _ _ a,List.pairwise_append];refine⟨h.sublist (aE6 _ _),?_,?_⟩
 ·rw[List.pairwise_cons];refine⟨λy f=>?_,h.sublist (List.drop_sublist _ _)⟩;obtain⟨k,hk,e⟩:=aD6.mp f;have d:below xs j+k<xs.size:=by simp at hk;lia
  have l:xs[below xs j+k]=y:=by simpa using e
  have:=c _ d (by lia);rcases aDh this with z | z
  ·lia
  ·exfalso;apply i;rw[z];simp
 ·intro x n y f;obtain⟨k,hk,e⟩:=aD6.mp n;have d:k<below xs j/\k<xs.size:=by simp at hk;lia
  have l:xs[k]=x:=by simpa using e
  have q:=b k d.2 d.1;rcases aBa.mp f with z | z
  ·lia
  ·obtain⟨m,o,p⟩:=aD6.mp z;have g:below xs j+m<xs.size:=by simp at o;lia
   have r:xs[below xs j+m]=y:=by simpa using p
   have:=c _ g (by lia)
   lia
theorem DB(n:Nat):zF (Array.range n):=by
 unfold zF;rw[Array.toList_range];exact aD0
structure mD(l:Bool)(t:SetTable):Prop where
 JO:zF t.place
 led:t.led=l
variable{l:Bool}
theorem mD.plain{t:SetTable}(h:mD l t)(b:Bool):mD l {t with plain:=b}:=⟨h.JO,h.led⟩
theorem mD.fresh(f m:Nat)(l:Bool):mD l (.fresh f m l):=⟨by unfold zF SetTable.fresh;simp,rfl⟩
theorem mD.BV{t:SetTable}(h:mD l t)(n:Nat):mD l (t.standIn n):=⟨DB n,h.led⟩
theorem mD.K6{t:SetTable}(h:mD l t)(n:Nat):mD l (t.orStandIn n):=by
 unfold SetTable.orStandIn;split
 ·exact h
 ·exact h.BV n
def NX(t:SetTable)(j:Nat):Prop:=∀i,t.slot j≠ .live i
theorem qM{t:SetTable}(x:Int):∀(fuel:Nat) (p:Probe) (j:Nat) (d:Option Nat),(∀d,p.dummy=some d->NX t d)->probe.go t (λ_=>x+1) x fuel p=some (.empty j d)->NX t (d.getD j)
 | 0,p,j,d,_,e=>by simp[probe.go]at e
 | fuel+1,p,j,d,hp,e=>by
  unfold probe.go at e;have OY:∀q:Probe,(t.advance q).dummy=q.dummy:=λq=>by unfold SetTable.advance;split <;> rfl
  cases hs:t.slot p.j with
  | empty=>
   rw[hs]at e;simp at e;obtain⟨rfl,rfl⟩:=e
   cases hd:p.dummy with
   | none=>intro i;simp[hs]
   | some d=>exact hp d hd
  | dummy=>
   rw[hs]at e;exact qM x fuel _ j d (λd h=>by rw[OY]at h;cases h;intro i;simp[hs]) e
  | live i=>
   rw[hs]at e;have:(x+1==x)=false:=by simp;lia
   simp only[this]at e;exact qM x fuel _ j d (λd h=>hp d (by rw[OY]at h;exact h)) e
theorem EB{t:SetTable}{x:Int}{b:Bool}(e:t.freeSlot x=some (j,b)):NX t j:=by
 unfold SetTable.freeSlot at e
 cases hp:t.probe (λ_=>x+1) x (t.probeStart x) with
 | none=>rw[hp]at e;cases e
 | some m=>
  rw[hp]at e
  cases m with
  | candidate a b c=>cases e
  | empty k d=>
   have f:=qM x _ _ k d (λd h=>by cases h) hp;simp at e;obtain⟨rfl,_⟩:=e;exact f
theorem C9{t:SetTable}(h:mD l t)(e:NX t j):j∉t.place.toList:=by
 apply LK h.JO;intro z;refine e (below t.place j) ?_;unfold SetTable.slot;simp[z]
theorem mD.put{t:SetTable}(h:mD l t)(a:j∉t.place.toList):mD l (t.put j).1:=by
 unfold SetTable.put;exact⟨zV h.JO a,h.led⟩
theorem mD.lay{t:SetTable}(h:mD l t)(es:Array (Int×Value))(x:Int)(v:Value):mD l (layNew t es x v).2.1:=by
 unfold layNew
 cases hf:t.freeSlot x with
 | none=>exact h.BV _
 | some p=>
  obtain⟨j,b⟩:=p;have:=h.put (C9 h (EB hf));exact this.K6 _
theorem mD.VI{t:SetTable}(h:mD l t)(es:Array (Int×Value))(n:Nat):mD l (relayAll t es n).2.1:=by
 unfold relayAll
 cases hr:t.relaid (es.map (·.1)) n with
 | none=>exact h.BV _
 | some p=>
  obtain⟨t',e⟩:=p;simp only;split
  ·unfold SetTable.relaid SetTable.laid at hr
   cases ho:layClean (sizeAbove n-1) (es.map (·.1)) with
   | none=>rw[ho]at hr;cases hr
   | some ow=>
    rw[ho]at hr;simp at hr;obtain⟨rfl,_⟩:=hr;refine⟨?_,h.led⟩;unfold zF;simp only[List.map_filterMap];have:(List.range (sizeAbove n-1+1)).Pairwise (· < ·):=aD0;rw[List.pairwise_filterMap];refine this.imp_of_mem λ{a b} _ _ f x g y i=>?_;simp at g i;obtain⟨c,j,rfl⟩:=g;obtain⟨d,hd,rfl⟩:=i;exact f
  ·exact h.BV _
theorem jP{α d:Type}(f:α->d):∀{l:List d} {m:List d},l.Perm m->∀t:List α,m=t.map f->∃t' :List α,t'.Perm t/\t'.map f=l:=by
 intro l m p
 induction p with
 | nil=>
  intro t e
  cases t with
  | nil=>exact⟨[],.refl _,rfl⟩
  | cons a t=>cases e
 | cons x p ih=>
  intro t e
  cases t with
  | nil=>cases e
  | cons a t=>
   simp at e;obtain⟨t',c,g⟩:=ih t e.2;exact⟨a::t',c.cons a,by simp[e.1,g]⟩
 | swap x y l=>
  intro t e
  cases t with
  | nil=>cases e
  | cons a t=>
   cases t with
   | nil=>simp at e
   | cons b t=>
    simp at e;exact⟨b::a::t,.swap a b t,by simp[e]⟩
 | trans c h ih1 ih2=>
  intro t e;obtain⟨i,c,g⟩:=ih2 t e;obtain⟨j,h,k⟩:=ih1 i g.symm;exact⟨j,h.trans c,k⟩
section
variable {prog:Program}{w:World}{K:Type}[DecidableEq K](knd:KeyKind prog w K)
def Es(es:Array (Int×Value))(ks:List K):Prop:=
 ∃ps:List (K×(Int×Value)),ps.map (·.2)=es.toList/\(ps.map (·.1)).Perm ks/\∀p∈ps,knd.is p.1 p.2.2=true/\p.2.1=knd.hash p.1/\p.2.2.scannable=true
def cE(l:Bool)(h:Heap)(a:Addr)(ks:List K):Prop:=
 ∃o es ep t,h.get? a=some o/\o.ExactSet/\o.data= .set es ep t/\Es knd es ks/\ks.Nodup/\es.size<scanBound/\t.fits es.size=true/\mD l t
variable {knd}
variable{es es':Array (Int×Value)}{ks:List K}
theorem Es.perm(h:Es knd es ks)(p:es'.toList.Perm es.toList):Es knd es' ks:=by
 obtain⟨ps,c,d,e⟩:=h;obtain⟨a,b,f⟩:=jP (·.2) p ps c.symm;exact⟨a,f,(b.map _).trans d,λp g=>e p (b.mem_iff.mp g)⟩
theorem Es.size(h:Es knd es ks):es.size=ks.length:=by
 obtain⟨ps,c,d,e⟩:=h;have a:=aC0 List.length c;have b:=d.length_eq;simp at a b
 lia
theorem Es.elems(h:Es knd es ks):ElemsOf knd es.toList:=by
 obtain⟨ps,d,i,f⟩:=h;intro e he;rw[<-d]at he;obtain⟨p,g,rfl⟩:=aBd.mp he;obtain⟨a,b,c⟩:=f p g;exact⟨⟨p.1,a,b⟩,c⟩
theorem Es.mem(h:Es knd es ks)(k:K):k∈ks↔∃e∈es.toList,knd.is k e.2=true:=by
 obtain⟨ps,c,d,b⟩:=h;rw[<-d.mem_iff,<-c];constructor
 ·intro hk;obtain⟨p,a,rfl⟩:=aBd.mp hk;exact⟨p.2,aBd.mpr ⟨p,a,rfl⟩,(b p a).1⟩
 ·rintro⟨e,he,hk⟩;obtain⟨p,a,rfl⟩:=aBd.mp he;exact aBd.mpr ⟨p,a,knd.inj _ _ _ (b p a).1 hk⟩
theorem Es.push(h:Es knd es ks){k:K}{x:Value}(hk:knd.is k x=true)(a:x.scannable=true):Es knd (es.push (knd.hash k,x)) (ks++[k]):=by
 obtain⟨ps,b,c,d⟩:=h;refine⟨ps++[(k,(knd.hash k,x))],by simp[b],by simpa using c.append_right [k],λp hp=>?_⟩;rcases aBn.mp hp with hp | hp
 ·exact d p hp
 ·simp at hp;subst hp;exact⟨hk,rfl,a⟩
variable{a:Addr}
theorem cE.typeIs{s:Shared}(h:cE knd l s.heap a ks):s.TypeIs (.ref a) "set":=let ⟨o,_,_,_,ho,hx,_⟩:=h;⟨o,ho,hx.1⟩
theorem cE.keep{h h' :Heap}(x:cE knd l h a ks)(k:∀o,h.get? a=some o->h'.get? a=some o):cE knd l h' a ks:=let ⟨o,es,ep,t,ho,r⟩:=x;⟨o,es,ep,t,k o ho,r⟩
theorem store{h:Heap}{o:Obj}{ep:Nat}{t:SetTable}(ho:h.get? a=some o)(hex:o.ExactSet)(hd:o.data= .set es ep t)
   {t' :SetTable}  (he:Es knd es' ks) (nd:ks.Nodup) (b:es'.size<scanBound) (c:t'.fits es'.size=true) (ht:mD l t'):
  (h.update a (Obj.putSet es' t')).get? a=some {o with data:= .set es' (ep+1) t'}/\cE knd l (h.update a (Obj.putSet es' t')) a ks:=by
 have hg:(h.update a (Obj.putSet es' t')).get? a=some {o with data:= .set es' (ep+1) t'}:=by
  have:=aCo (Obj.putSet es' t') ho (by rw[putSet_of es' t' hd];rfl);rw[putSet_of es' t' hd]at this;exact this
 exact⟨hg,_,es',ep+1,t',hg,hex,rfl,he,nd,b,c,ht⟩
variable {A:Around}{E:aEe}{s:Shared}
theorem C3{g:Bool->Sem Unit}(hg:∀(b:Bool) (f:Shared) (B :Unit->Shared->Prop),B () f->wpAny (model prog w) A (g b) B E f)
   {o:Obj}  {ep:Nat} {t:SetTable} (ho:s.heap.get? a=some o) (hex:o.ExactSet) (hd:o.data= .set es ep t)
  {c:Array (Int×Value)} {e:SetTable}  (he:Es knd c ks) (nd:ks.Nodup)
  (j:c.size<scanBound) (u:e.fits c.size=true) (ht:mD l e) {d:Bool} {R:Option Bool->Shared->Prop}
  (h:∀h',Heap.SameBut a s.heap h' ->cE knd l h' a ks->R (some true) {s with heap:=h'}):
  wpAny (model prog w) A (do
    storeSet a c e
    if (!d && e.tooFull)=true then do
      g (relayAll e c (SetTable.grown c.size)).2.2
      storeSet a (relayAll e c (SetTable.grown c.size)).1 (relayAll e c (SetTable.grown c.size)).2.1
      pure (some true)
     else pure (some true)) R E s:=by
 refine aAz (aCt ho hd ?_ (aCg j));obtain⟨n,v⟩:=store (knd:=knd) ho hex hd he nd j u ht;have i:=aBp s.heap a (Obj.putSet c e);split
 ·have r:=relayAll_perm e c (SetTable.grown c.size);have k:=relayAll_fits e c (SetTable.grown c.size);have m:=ht.VI c (SetTable.grown c.size);generalize C:relayAll e c (SetTable.grown c.size)=Rl at r k m⊢;obtain⟨p,D,x⟩:=Rl;dsimp only at r k m⊢;have y:=he.perm r;have hsz:p.size=c.size:=by rw[<-Array.length_toList,r.length_eq,Array.length_toList]
  have q:p.size<scanBound:=by rw[hsz];exact j
  refine aAz (hg _ _ _ ?_);refine aAz (aCt n rfl ?_ (aCg q));obtain⟨_,z⟩:=store (knd:=knd) n hex rfl y nd q k m;exact aB0 (h _ (i.trans (aBp _ a _)) z)
 ·exact aB0 (h _ i v)
def kO(ks:List K)(k:K):List K:=if k∈ks then ks else ks++[k]
theorem t7{k:K}{x:Value}{Q:Bool->Shared->Prop}(m:knd.is k x=true)(hsc:x.scannable=true)(P:cE knd l s.heap a ks)
  (r:ks.length+1<scanBound) (h:∀(b:Bool) h',Heap.SameBut a s.heap h' ->cE knd l h' a (kO ks k)->Q b {s with heap:=h'}):
  wpAny (model prog w) A (setAddHashed a x (knd.hash k)) Q E s:=by
 obtain⟨o,es,ep,t,ho,hex,hd,he,nd,B,I,ht⟩:=P;have R:=he.size;have C:=he.elems;have n:=he.mem;have J:es.size+1<scanBound:=by rw[R];exact r
 unfold setAddHashed setAddHashedIn;refine aBf (aAz (aBj ho hd I ?_));dsimp only;rw[byScan_of hsc B C];simp only[↓reduceIte];unfold setAddByScan;refine aAz ?_;refine aAz (aC5 ?_);refine aAz (wpAny_setScan_of m ho hd I C ?_)
 cases hr:List.findIdx? (λe=>knd.is k e.2) es.toList with
 | some j=>
  dsimp only;obtain⟨S,M,_⟩:=aDk.mp hr;have i:k∈ks:=(n k).mpr ⟨es.toList[j],aEa S,M⟩;refine aB0 (aB0 ?_);have e:s={s with heap:=s.heap}:=by cases s;rfl
  have:=h false s.heap (aCh a s.heap) ⟨o,es,ep,t,ho,hex,hd,by unfold kO;rw[if_pos i];exact he,by unfold kO;rw[if_pos i];exact nd,B,I,ht⟩;rw[e];exact this
 | none=>
  dsimp only
  have i:k∉ks:=λhk=>by
   obtain⟨e,he,T⟩:=(n k).mp hk;have:=aDc.mp hr e he;rw[T]at this;exact Bool.noConfusion this
  have N:∀(b:Bool) {f:Shared} {D :Unit->Shared->Prop},D () f->wpAny (model prog w) A (match b with | true=>rule "set.scan.the-table-gave-way" | false=>pure ()) D E f:=
   λb f D p=>by cases b <;> first | exact aB0 p | exact aC5 p
  have d:=layNew_perm t es (knd.hash k) x;have c:=layNew_fits t es (knd.hash k) x;have g:=ht.lay es (knd.hash k) x;generalize V:layNew t es (knd.hash k) x=L at d c g⊢;obtain⟨F,W,y,O⟩:=L;dsimp only at d c g⊢;have G:Es knd F (kO ks k):=by unfold kO;rw[if_neg i];exact(he.push m hsc).perm d
  have H:(kO ks k).Nodup:=by
   unfold kO;rw[if_neg i,List.nodup_append];exact⟨nd,by simp,λa U b B=>by simp at B;subst B;exact λz=>i (z▸U)⟩
  have q :F.size<scanBound:=by rw[<-Array.length_toList,d.length_eq,Array.length_toList,Array.size_push];exact J
  refine aAz (N _ ?_);split
  ·refine aAz ?_;rw[hashByValue_scannable 8 hsc];refine aB0 ?_;refine C3 (l:=l) ?_ ho hex hd G H q ?_ ?_ ?_
   ·intro b f D p;cases b <;> first | exact aB0 p | exact aC5 p
   ·split
    ·exact c
    ·exact SetTable.fits_plain_off c
   ·split
    ·exact g
    ·exact g.plain false
   ·intro h' u v;dsimp only;exact aB0 (h _ h' u v)
  ·refine aAz (aB0 ?_);simp only[↓reduceIte];refine C3 (l:=l) ?_ ho hex hd G H q c g ?_
   ·intro b f D p;cases b <;> first | exact aB0 p | exact aC5 p
   ·intro h' u v;dsimp only;exact aB0 (h _ h' u v)
end
open PySem.Spec
def aR(w:World):Bool:= !(w.params.followText "set-order")
section
variable {prog:Program}{w:World}{K:Type}[DecidableEq K]{knd:KeyKind prog w K}{A:Around}{E:aEe}{s:Shared}
theorem lX{h:Heap}{a:Addr}(ho:h.get? a=some {cls:= .type "set",dict:=none,data:= .set #[] 0 (.fresh 0 0 (aR w))}):cE knd (aR w) h a []:=
 ⟨_,#[],0,_,ho,⟨rfl,rfl,rfl⟩,rfl,⟨[],rfl,by simp,λp b=>by cases b⟩,by simp,by decide,by rfl,.fresh 0 0 _⟩
def cJ(ks:List K)(xs:List K):List K:=xs.foldl kO ks
theorem zC(ks:List K)(k:K):(kO ks k).length<=ks.length+1:=by unfold kO;split <;> simp
theorem rO:∀(xs ks:List K),(cJ ks xs).length<=ks.length+xs.length
 | [],ks=>by simp[cJ]
 | x::xs,ks=>by
  have a:=rO xs (kO ks x);have b:=zC ks x;simp only[cJ,List.foldl_cons,List.length_cons]at*
  lia
theorem GS{ks:List K}{k j:K}:j∈kO ks k↔j∈ks\/j=k:=by
 unfold kO;split
 ·rename_i h;exact⟨.inl,λz=>z.elim id λe=>e▸h⟩
 ·simp
theorem lV{j:K}:∀{xs ks:List K},j∈cJ ks xs↔j∈ks\/j∈xs
 | [],ks=>by simp[cJ]
 | x::xs,ks=>by
  have:=lV (j:=j) (xs:=xs) (ks:=kO ks x);simp only[cJ,List.foldl_cons]at*;rw[this,GS];simp[or_assoc]
end
theorem slot_next:Slot "set_iterator" "__next__" "set_iterator.__next__":=
 .of (owner:= "set_iterator") (n:= "__next__") (by rw[typeLookup_type,builtinLookup_eq_fast];kernel_rfl) (by decide+kernel) (by decide+kernel) (by decide+kernel)
  (by first | exact .inl (by decide+kernel) | exact .inr (by decide+kernel)) (by rw[isSubtype_type];kernel_rfl)
theorem sU:Slot "set_iterator" "__iter__" "set_iterator.__iter__":=
 .of (owner:= "set_iterator") (n:= "__iter__") (by rw[typeLookup_type,builtinLookup_eq_fast];kernel_rfl) (by decide+kernel) (by decide+kernel) (by decide+kernel)
  (by first | exact .inl (by decide+kernel) | exact .inr (by decide+kernel)) (by rw[isSubtype_type];kernel_rfl)
theorem entry_next:entryFor table "set_iterator.__next__"=some Builtin.«set_iterator.__next__»:=entryFor_of_tree (by kernel_rfl)
theorem xR:Manifest.owners.lookup (String.ofList "rotareti_tes".toList.reverse)=some Manifest.sig_set_iterator:=by kernel_rfl
theorem args_next(a:Value):argsOk "set_iterator.__next__" ⟨[a],[]⟩:=by
 unfold argsOk;rw[signature?_of (id:= "set_iterator.__next__") (n:= "__txen__".toList) (o:= "rotareti_tes".toList) (by kernel_rfl) xR];kernel_rfl
theorem rD:entryFor table "set.__iter__"=some Builtin.«frozenset.__iter__»:=
 entryFor_alias (id' := "frozenset.__iter__") (by kernel_rfl) rfl (by decide+kernel) (by kernel_rfl)
def jT(first:Value)(i:Nat)(a:Addr)(n ep:Nat):Obj:={cls:= .type "set_iterator",dict:=none,data:= .fields #[first,.int i 0,.ref a,.int n 0,.int ep 0],slots:= #[]}
section
variable {prog:Program}{w:World}{A:Around}{E:aEe}{s:Shared}{it a:Addr}{first:Value}{i ep n:Nat}{o:Obj}{es:Array (Int×Value)}{t:SetTable}
variable{Q:Option Value->Shared->Prop}
theorem GP{slot nx:Nat}{x:Value}(b:s.heap.get? it=some (jT (.int slot 0) i a es.size ep))(ho:s.heap.get? a=some o)(hd:o.data= .set es ep t)(c:t.fits es.size=true)
  (hN:∀(A:Around) (E:aEe) (Q:Option (Value×Nat)->Shared->Prop),Q (some (x,nx)) s->wpAny (model prog w) A (setNext a slot i ep) Q E s)
  (q:∀h',h'.get? it=some (jT (.int nx 0) (i+1) a es.size ep)->Heap.SameBut it s.heap h' ->Q (some x) {s with heap:=h'}):wpAny (model prog w) A (pyNext (.ref it)) Q E s:=by
 have ht:s.TypeIs (.ref it) "set_iterator":=⟨_,b,rfl⟩
 unfold pyNext;refine aAz (aC7 (aBg (name:=Str.ofString "__next__") ht slot_next (aBb slot_next ht entry_next ?_ (args_next _))));unfold Builtin.«set_iterator.__next__»;refine aAz (m:=slotArgs "__next__" 0 _) (aB0 ?_);refine aAz (aD7 b rfl ?_);dsimp only;refine aAz (aC9 ho hd c ?_);rw[if_neg (show ¬(((es.size:Int) !=(es.size:Int))=true) by simp)];simp only[Int.toNat_natCast];refine aAz (hN _ _ _ ?_);dsimp only;refine aAz (aBh b (by simp) λj d e=>?_);refine aAz (aBh d (by simp) λf g h=>?_);refine aB0 ⟨x,rfl,aB0 (q f ?_ (e.trans h))⟩;rw[g];simp[jT,rawInt]
theorem sS{B:Around}(f:B.handled=none)(h:∀h',(∀b u,s.heap.get? b=some u->h'.get? b=some u)->Q none {s with heap:=h'}):
  wpAny (model prog w) B (do let e<-newExc (.type "StopIteration") [];raiseNew e) (λ(c:Fin) d =>∃v,c=Fin.done (Flow.ret v)/\wpAny (model prog w) A (pure (some v)) Q E d)
   (λe d =>wpAny (model prog w) A (do let b<-isInstance e (Value.type "StopIteration");if b=true then pure none else throw e) Q E d) s:=by
 refine aAz ?_;simp only[newExc,newTuple];refine aAz (aBi ?_ (by size_fits));refine aAz (m:=firstArgMember _ _) (aE7 (a:=Value.none) (by first | rfl | (simp only[firstArgMember];rfl)) ?_);refine aBi ?_ (by size_fits);simp only[raiseNew];refine aAz (wpAny_handled ?_);rw[f];refine aAz (aB0 (wpAny_throw ?_));refine aAz (aCk (T:= "StopIteration") (b:=true) ⟨_,aB4 _ rfl,rfl⟩ isSubtype_stop ?_);exact aB0 (h _ λb u e=>aB1 _ (aB1 _ e))
theorem uU{slot:Nat}(d:A.handled=none)(c:s.heap.get? it=some (jT (.int slot 0) i a es.size ep))(ho:s.heap.get? a=some o)(hd:o.data= .set es ep t)(f:t.fits es.size=true)
  (hN:∀(A:Around) (E:aEe) (Q:Option (Value×Nat)->Shared->Prop),Q none s->wpAny (model prog w) A (setNext a slot i ep) Q E s)
  (q:∀h',Heap.ExtBut it s.heap h' ->Q none {s with heap:=h'}):wpAny (model prog w) A (pyNext (.ref it)) Q E s:=by
 have ht:s.TypeIs (.ref it) "set_iterator":=⟨_,c,rfl⟩
 unfold pyNext;refine aAz (aC7 (aBg (name:=Str.ofString "__next__") ht slot_next (aBb slot_next ht entry_next ?_ (args_next _))));unfold Builtin.«set_iterator.__next__»;refine aAz (m:=slotArgs "__next__" 0 _) (aB0 ?_);refine aAz (aD7 c rfl ?_);dsimp only;refine aAz (aC9 ho hd f ?_);rw[if_neg (show ¬(((es.size:Int) !=(es.size:Int))=true) by simp)];simp only[Int.toNat_natCast];refine aAz (hN _ _ _ ?_);dsimp only;refine aAz (aBh c (by simp) λg l h=>?_);exact sS (B:=A.in1) (s:={s with heap:=g}) (show A.in1.handled=none from d) λh' k=>q h' λb u j e=>k b u ((h.2 b j).trans e)
theorem GO{tp:Addr}{d:Nat}{ns:List Nat}{x:Value}(b:s.heap.get? it=some (jT (.ref tp) i a es.size ep))(ho:s.heap.get? a=some o)(hd:o.data= .set es ep t)(l:t.fits es.size=true)
  (e:s.heap.IsTuple tp (ns.map λ(k:Nat)=>rawInt k).toArray) (f:ns[i]? =some d) (n:(es[d]?).map (·.2)=some x)
  (q:∀h',h'.get? it=some (jT (.ref tp) (i+1) a es.size ep)->Heap.SameBut it s.heap h' ->Q (some x) {s with heap:=h'}):wpAny (model prog w) A (pyNext (.ref it)) Q E s:=by
 have ht:s.TypeIs (.ref it) "set_iterator":=⟨_,b,rfl⟩
 obtain⟨B,g,_,nt,h⟩:=e;obtain⟨⟨p,r⟩,j,c⟩:=aBm.mp n;simp only at c;subst c;unfold pyNext;refine aAz (aC7 (aBg (name:=Str.ofString "__next__") ht slot_next (aBb slot_next ht entry_next ?_ (args_next _))));unfold Builtin.«set_iterator.__next__»;refine aAz (m:=slotArgs "__next__" 0 _) (aB0 ?_);refine aAz (aD7 b rfl ?_);dsimp only;refine aAz (aC9 ho hd l ?_);rw[if_neg (show ¬(((es.size:Int) !=(es.size:Int))=true) by simp)];refine aAz (aCe g h ?_);dsimp only;have u:(ns.map λ(k:Nat)=>rawInt k).toArray[(i:Int).toNat]? =some (Value.int d 0):=by simp[f,rawInt]
 rw[u];dsimp only;simp only[Int.toNat_natCast];refine aAz (m:=setNextDrawn a d ep) ?_;unfold setNextDrawn;refine aAz (aBj ho hd l ?_);dsimp only;rw[if_neg (by simp)];rw[j];dsimp only;refine aB0 ?_;refine aAz (aBh b (by simp) λv y z=>?_);refine aB0 ⟨r,rfl,aB0 (q v ?_ z)⟩;rw[y];simp[jT,rawInt]
theorem uT{tp:Addr}{ns:List Nat}(j:A.handled=none)(c:s.heap.get? it=some (jT (.ref tp) i a es.size ep))(ho:s.heap.get? a=some o)(hd:o.data= .set es ep t)(l:t.fits es.size=true)
  (d:s.heap.IsTuple tp (ns.map λ(k:Nat)=>rawInt k).toArray) (f:ns[i]? =none)
  (q:∀h',Heap.ExtBut it s.heap h' ->Q none {s with heap:=h'}):wpAny (model prog w) A (pyNext (.ref it)) Q E s:=by
 have ht:s.TypeIs (.ref it) "set_iterator":=⟨_,c,rfl⟩
 obtain⟨z,g,_,nt,h⟩:=d;unfold pyNext;refine aAz (aC7 (aBg (name:=Str.ofString "__next__") ht slot_next (aBb slot_next ht entry_next ?_ (args_next _))));unfold Builtin.«set_iterator.__next__»;refine aAz (m:=slotArgs "__next__" 0 _) (aB0 ?_);refine aAz (aD7 c rfl ?_);dsimp only;refine aAz (aC9 ho hd l ?_);rw[if_neg (show ¬(((es.size:Int) !=(es.size:Int))=true) by simp)];refine aAz (aCe g h ?_);dsimp only;have n:(ns.map λ(k:Nat)=>rawInt k).toArray[(i:Int).toNat]? =none:=by simpa using f
 rw[n];dsimp only;refine aAz (aBh c (by simp) λC p r=>?_);refine aAz (aBh p (by simp) λv D x=>?_);exact sS (B:=A.in1) (s:={s with heap:=v}) (show A.in1.handled=none from j) λh' k=>q h' λb u y e=>k b u (((r.trans x).2 b y).trans e)
end
theorem lY{α:Type}:∀{xs:List α} {i:Nat} (h:i<xs.length),(xs[i]::xs.eraseIdx i).Perm xs
 | x::xs,0,h=>.refl _
 | x::xs,i+1,h=>by
  simp only[List.getElem_cons_succ,List.eraseIdx_cons_succ];exact(List.Perm.swap x _ _).trans ((lY (by simpa using h)).cons x)
section
variable {M:Model}{A:Around}{E:aEe}
theorem n9{α:Type}:∀(n:Nat) (xs:List α) (s:Shared) (Q:List α->Shared->Prop),xs.length<=n->(∀b d,b.Perm xs->Q b {s with drawn:=d})->wpAny M A (drawOrder n xs) Q E s
 | 0,[],s,Q,_,h=>by unfold drawOrder;exact aB0 (h [] s.drawn (.refl _))
 | 0,x::xs,s,Q,hl,h=>by simp at hl
 | n+1,[],s,Q,_,h=>by unfold drawOrder;exact aB0 (h [] s.drawn (.refl _))
 | n+1,x::xs,s,Q,hl,h=>by
  unfold drawOrder;refine aAz ?_;have a:0<(x::xs).length:=by simp
  refine(λe p c=>⟨by simp,?_⟩:wpAny M A (choose .order (x::xs).length) _ E s);have hi:M.w.draws .order (s.drawn.get .order) % (x::xs).length<(x::xs).length:=Nat.mod_lt _ a;generalize M.w.draws .order (s.drawn.get .order) % (x::xs).length=i at hi;revert e p c;show wpAny M A _ _ E _;refine aB0 ?_;rw[List.getElem?_eq_getElem hi];dsimp only;refine aAz (n9 n ((x::xs).eraseIdx i) _ _ (by rw[List.length_eraseIdx_of_lt hi];simp at hl⊢;lia) λb d f=>aB0 (h _ d ?_));exact(f.cons _).trans (lY hi)
end
theorem sW{α:Type}(next:Nat->Nat):∀(fuel k:Nat) (left:List α) (out:Array α),left.length<=fuel->(pickOrder.go next fuel k left out).toList.Perm (out.toList++left)
 | 0,k,left,out,h=>by
  have:left=[]:=List.length_eq_zero_iff.mp (by lia);subst this;simp[pickOrder.go]
 | fuel+1,k,[],out,h=>by simp[pickOrder.go]
 | fuel+1,k,x::xs,out,h=>by
  unfold pickOrder.go
  have hi:next k % (x::xs).length<(x::xs).length:=Nat.mod_lt _ (by simp)
  rw[List.getElem?_eq_getElem hi];dsimp only
  generalize next k % (x::xs).length=i at hi
  have:=sW next fuel (k+1) ((x::xs).eraseIdx i) (out.push (x::xs)[i]) (by rw[List.length_eraseIdx_of_lt hi];simp at h⊢;lia)
  refine this.trans ?_;simp only[Array.toList_push,List.append_assoc,List.singleton_append];exact(lY hi).append_left _
theorem jO{α:Type}(next:Nat->Nat)(xs:Array α):(pickOrder next xs).toList.Perm xs.toList:=by
 unfold pickOrder
 have:=sW next xs.size 0 xs.toList #[] (by simp)
 simpa using this
section
variable {prog:Program}{w:World}{A:Around}{E:aEe}{s:Shared}{a:Addr}{ep:Nat}{o:Obj}{es:Array (Int×Value)}{t:SetTable}
theorem dW{Q:Bool->Shared->Prop}(h:Q (w.params.followText "set-order") s):wpAny (model prog w) A setsByText Q E s:=by
 unfold setsByText;exact aAz (aDb (aB0 h))
def qE(t:SetTable):Nat->Nat
 | 0=>0
 | i+1=>t.place.getD i 0+1
theorem A4(ht:mD l t)(hi:i<=t.place.size):below t.place (qE t i)=i:=by
 cases i with
 | zero=>exact A3 ht.JO
 | succ i=>
  have:t.place.getD i 0=t.place[i]'(by lia):=by simp[Array.getD,show i<t.place.size by lia]
  show below t.place (t.place.getD i 0+1)=i+1;rw[this];exact A5 ht.JO (by lia)
theorem EC(a:t.fits es.size=true):t.place.size=es.size:=by
 simp only[SetTable.fits,Bool.and_eq_true,beq_iff_eq]at a;exact a.1
variable{Q:Option (Value×Nat)->Shared->Prop}
theorem AA(ho:s.heap.get? a=some o)(hd:o.data= .set es ep t)(d:t.fits es.size=true)(ht:mD l t)(g:w.params.followText "set-order"=false)(j:l=true)
  (f:(!t.plain && decide (es.size > 1))=false) (hi:i<=es.size) (q:Q ((es[i]?).map λe=>(e.2,qE t (i+1))) s):wpAny (model prog w) A (setNext a (qE t i) i ep) Q E s:=by
 have hs:=EC d;unfold setNext;refine aAz (aBj ho hd d ?_);dsimp only;refine aAz (dW ?_);rw[g,if_neg Bool.false_ne_true];have n:(if (!t.plain && decide (es.size > 1))=true then (unsupported "set_iterator.__next__:the-table-is-plain-no-more":Sem Unit) else pure ())=pure ():=by rw[f];rfl
 show wpAny _ _ (if (!t.plain && decide (es.size > 1))=true then _ else _) Q E s;rw[f,if_neg Bool.false_ne_true];have b:t.led=true:=by rw[ht.led,j]
 refine aAz ?_;show wpAny _ _ (if (!t.led && !es.isEmpty)=true then _ else _) _ E s;rw[b];simp only[Bool.not_true,Bool.false_and,Bool.false_eq_true,if_false];refine aB0 ?_;rw[A4 ht (by lia)];by_cases h:i<es.size
 ·have c:es[i]? =some es[i]:=by simp[h]
  have k:t.place[i]? =some (t.place[i]'(by lia)):=by simp[show i<t.place.size by lia]
  rw[c]at q⊢;rw[k];have m:t.place.getD i 0=t.place[i]'(by lia):=by simp[Array.getD,show i<t.place.size by lia]
  simp only[qE,m,Option.map_some]at q;exact aB0 q
 ·have c:es[i]? =none:=by simp;lia
  rw[c]at q⊢;exact aB0 q
theorem DS(ho:s.heap.get? a=some o)(hd:o.data= .set es ep t)(b:t.fits es.size=true)(c:w.params.followText "set-order"=true)
  (q:Q (((pickOrder (w.params.setOrder a ep) es)[i]?).map λe=>(e.2,0)) s):wpAny (model prog w) A (setNext a 0 i ep) Q E s:=by
 unfold setNext;refine aAz (aBj ho hd b ?_);dsimp only;refine aAz (dW ?_);rw[c,if_pos rfl];rw[if_neg (by simp)];refine aAz ?_;unfold setWalk;refine aAz (aBj ho hd b ?_);dsimp only;refine aAz (dW ?_);rw[c,if_pos rfl];refine aAz (aDb ?_);exact aB0 (aB0 q)
end
theorem sC:entryFor table "set_iterator.__iter__"=some Builtin.«dict_keyiterator.__iter__»:=
 entryFor_alias (id' := "dict_keyiterator.__iter__") (by kernel_rfl) rfl (by decide+kernel) (by kernel_rfl)
theorem v5(a:Value):argsOk "set_iterator.__iter__" ⟨[a],[]⟩:=by
 unfold argsOk;rw[signature?_of (id:= "set_iterator.__iter__") (n:= "__reti__".toList) (o:= "rotareti_tes".toList) (by kernel_rfl) xR];kernel_rfl
theorem sV{α:Type}:∀l:List α,(List.range l.length).filterMap (λk=>l[k]?)=l
 | []=>rfl
 | x::l=>by
  have:=sV l;rw[List.length_cons,List.range_succ_eq_map,List.filterMap_cons];simp only[List.getElem?_cons_zero,List.filterMap_map,Function.comp_def,List.getElem?_cons_succ];rw[this]
section
variable {prog:Program}{w:World}{A:Around}{E:aEe}{s:Shared}
theorem tF{it a:Addr}{first:Value}{i n ep:Nat}{Q:aEe}(b:s.heap.get? it=some (jT first i a n ep))(h:Q (.ref it) s):wpAny (model prog w) A (pyIter (.ref it)) Q E s:=by
 have ht:s.TypeIs (.ref it) "set_iterator":=⟨_,b,rfl⟩
 refine aD4 ht sU (aBb sU ht sC ?_ (v5 _));show wpAny _ _ (ret (.ref it)) _ _ s;exact aB0 ⟨_,rfl,"set_iterator",_,ht,slot_next.lookup,h⟩
variable{es:Array (Int×Value)}
theorem wK(m:A.handled=none){it a:Addr}(j:a≠it){o:Obj}{ep:Nat}{t:SetTable}(hd:o.data= .set es ep t)(l:t.fits es.size=true)(sl:Nat->Nat)(vs:List Value)(d:vs.length=es.size)
  (hN:∀(i:Nat),i<=es.size->∀(s:Shared),s.heap.get? a=some o->∀(A:Around) (E:aEe) (Q:Option (Value×Nat)->Shared->Prop),Q ((vs[i]?).map λv=>(v,sl (i+1))) s->wpAny (model prog w) A (setNext a (sl i) i ep) Q E s):
  Walks prog w A it [it,a] [it] vs.length (λi v=>vs[i]? =some v) (λi h=>i<=es.size/\h.get? it=some (jT (.int (sl i) 0) i a es.size ep)/\h.get? a=some o) where
 sub:=λb c=>by simp at c;simp[c]
 frame:=λ_ _ _ st hk=>⟨st.1,hk it (by simp) _ st.2.1,hk a (by simp) _ st.2.2⟩
 item:=λi s Q E hi st f=>by
  have e:vs[i]? =some vs[i]:=by simp[hi]
  refine GP (x:=vs[i]) (nx:=sl (i+1)) st.2.1 st.2.2 hd l (λA E Q q=>hN i st.1 s st.2.2 A E Q (by rw[e];exact q)) λh' g k=>?_;refine f _ h' s.toks e ⟨by lia,g,(k.2 a j).trans st.2.2⟩ λb u c e=>(k.2 b (by simpa using c)).trans e
 done:=λs Q E st f=>by
  rw[d]at st;refine uU m st.2.1 st.2.2 hd l (λA E Q q=>hN es.size (aB3 _) s st.2.2 A E Q (by rw[List.getElem?_eq_none (by lia)];exact q)) λh' k=>?_;exact f h' s.toks λb u c e=>k b u (by simpa using c) e
 self:=λ_ _ _ _ st f=>tF st.2.1 f
theorem E5(r:A.handled=none){it a tp:Addr}(f:a≠it)(j:tp≠it){o:Obj}{ep:Nat}{t:SetTable}(hd:o.data= .set es ep t)(m:t.fits es.size=true)(ns:List Nat)(vs:List Value)(n:ns.length=vs.length)
  (y:∀(i p:Nat),ns[i]? =some p->(es[p]?).map (·.2)=vs[i]?):
  Walks prog w A it [it,a,tp] [it] vs.length (λi v=>vs[i]? =some v) (λi h=>h.get? it=some (jT (.ref tp) i a es.size ep)/\h.get? a=some o/\h.IsTuple tp (ns.map λ(k:Nat)=>rawInt k).toArray) where
 sub:=λb c=>by simp at c;simp[c]
 frame:=λ_ _ _ st hk=>⟨hk it (by simp) _ st.1,hk a (by simp) _ st.2.1,st.2.2.at λo e=>hk tp (by simp) o e⟩
 item:=λi s Q E hi st d=>by
  have e:vs[i]? =some vs[i]:=by simp[hi]
  have l:i<ns.length:=by lia
  have q:ns[i]? =some ns[i]:=by simp[l]
  refine GO (x:=vs[i]) st.1 st.2.1 hd m st.2.2 q (by rw[y i _ q,e]) λh' g k=>?_;refine d _ h' s.toks e ⟨g,(k.2 a f).trans st.2.1,st.2.2.extBut k.extBut j⟩ λb u c e=>(k.2 b (by simpa using c)).trans e
 done:=λs Q E st d=>by
  refine uT r st.1 st.2.1 hd m st.2.2 (by rw[List.getElem?_eq_none (by lia)]) λh' k=>?_;exact d h' s.toks λb u c e=>k b u (by simpa using c) e
 self:=λ_ _ _ _ st d=>tF st.1 d
end
section
variable {prog:Program}{w:World}{K:Type}[DecidableEq K]{knd:KeyKind prog w K}{A:Around}{E:aEe}{s:Shared}
def Vof(knd:KeyKind prog w K)(ks:List K)(vs:List Value):Prop:=∃ps:List (K×Value),ps.map (·.2)=vs/\(ps.map (·.1)).Perm ks/\∀p∈ps,knd.is p.1 p.2=true
variable{es:Array (Int×Value)}
theorem Es.X2{ks:List K}(h:Es knd es ks){l:List (Int×Value)}(p:l.Perm es.toList):Vof knd ks (l.map (·.2)):=by
 obtain⟨ps,c,d,e⟩:=h;obtain⟨a,b,f⟩:=jP (·.2) p ps c.symm;refine⟨a.map λp=>(p.1,p.2.2),by rw[<-f];simp,?_,λp g=>?_⟩
 ·have:=(b.map (·.1)).trans d;simpa[Function.comp_def] using this
 ·obtain⟨q,i,rfl⟩:=aBd.mp g;exact(e q (b.mem_iff.mp i)).1
def v8(l:Bool)(h:Heap)(a:Addr)(es:Array (Int×Value)):Prop:=∃o ep t,h.get? a=some o/\o.ExactSet/\o.data= .set es ep t/\es.size<scanBound/\t.fits es.size=true/\mD l t
theorem v8.keep{h h' :Heap}{a:Addr}(x:v8 l h a es)(k:∀o,h.get? a=some o->h'.get? a=some o):v8 l h' a es:=by
 obtain⟨o,ep,t,ho,r⟩:=x;exact⟨o,ep,t,k o ho,r⟩
theorem v8.typeIs{s:Shared}{a:Addr}(x:v8 l s.heap a es):s.TypeIs (.ref a) "set":=by
 obtain⟨o,ep,t,ho,b,_⟩:=x;exact⟨o,ho,b.1⟩
structure ItS(prog:Program)(w:World)(es:Array (Int×Value))(a:Addr)(s s2:Shared)(I:Addr):Prop where
 kept:∀b u,s.heap.get? b=some u->s2.heap.get? b=some u
 new:s.heap.objs.size<=I
 same:s2.gens=s.gens/\s2.os=s.os/\s2.toks=s.toks
 walk:∃(fp:List Addr) (St:Nat->Heap->Prop) (vs:List Value),(∀A:Around,A.handled=none->Walks prog w A I fp [I] vs.length (λi v=>vs[i]? =some v) St)/\St 0 s2.heap/\(∀b∈fp,(b=a\/s.heap.objs.size<=b)/\b<s2.heap.objs.size)/\vs.Perm (es.toList.map (·.2))
theorem HF{a:Addr}{Q:aEe}(C:v8 (aR w) s.heap a es)(h:∀I s2,ItS prog w es a s s2 I->Q (.ref I) s2):wpAny (model prog w) A (pyIter (.ref a)) Q E s:=by
 have D:=C.typeIs;obtain⟨o,ep,t,ho,hex,hd,f,g,ht⟩:=C;have c:=aB5 ho;refine aD4 D F.slot_set_iter (aBb F.slot_set_iter D rD ?_ (F.args_set_iter_1 _));unfold Builtin.«frozenset.__iter__»;refine aAz (m:=Builtin.Frozenset.slot0 "__iter__" _) (aB0 ?_);refine aAz ?_;unfold Builtin.Frozenset.sizeOf;refine aAz (aC9 ho hd g (aB0 ?_));refine aAz ?_;unfold setDrawn;refine aAz (aBj ho hd g ?_);dsimp only;refine aAz (dW (aB0 ?_));show wpAny _ _ (if (!w.params.followText "set-order" && (!t.plain && decide (es.size > 1)))=true then _ else _) _ _ s;by_cases l:(!w.params.followText "set-order" && (!t.plain && decide (es.size > 1)))=true
 ·rw[if_pos l];refine aAz (n9 es.size (List.range es.size) s _ (by simp) λns d p=>?_)
  have hsz:(ns.map λ(i:Nat)=>rawInt i).length<=sizeLine:=by
   have:=p.length_eq;have:=aCg f;simp at*;lia
  refine aAz (aD8 ?_ hsz);dsimp only;refine aAz (m:=setEpoch a) (wpAny_setEpoch_of (o:=o) (aB1 _ ho) hd g ?_);refine aAz (m:=newFields "set_iterator" _) (aBi ?_ (by size_fits));refine aB0 ⟨_,rfl,"set_iterator",_,⟨_,aB4 _ rfl,rfl⟩,slot_next.lookup,?_⟩;refine h _ _ ⟨λb u e=>aB1 _ (aB1 _ e),by simp[Heap.size_push],⟨rfl,rfl,rfl⟩,?_⟩;have B:∀k∈ns,k<es.size:=λk hk=>by simpa using p.mem_iff.mp hk
  have r:(ns.filterMap λk=>es[k]?).Perm es.toList:=by
   have G:=p.filterMap λk=>es[k]?;have H:(List.range es.size).filterMap (λk=>es[k]?)=es.toList:=by simpa using sV es.toList
   rw[H]at G;exact G
  have v:(ns.filterMap λk=>es[k]?).length=ns.length:=by
   have:=r.length_eq;have:=p.length_eq;simp at*;lia
  have x:∀(ns:List Nat),(∀k∈ns,k<es.size)->∀(i n:Nat),ns[i]? =some n->es[n]? =(ns.filterMap λk=>es[k]?)[i]? :=by
   intro ns
   induction ns with
   | nil=>intro _ i n hi;simp at hi
   | cons k ns ih=>
    intro hv i n hi;have hk:=hv k (by simp)
    cases i with
    | zero=>simp at hi;subst hi;simp[hk]
    | succ i=>
     simp at hi;rw[ih (λj J=>hv j (by simp[J])) i n hi];simp[hk]
  refine⟨_,_,(ns.filterMap λk=>es[k]?).map (·.2),λA y=>E5 (tp:=s.heap.objs.size) y ?_ ?_ hd g ns _ (by simp[v]) λi n hi=>by rw[x ns B i n hi,List.getElem?_map],⟨aB4 _ rfl,aB1 _ (aB1 _ ho),?_⟩,?_,r.map _⟩
  ·rw[Heap.size_push];exact aB9 (aBt c)
  ·rw[Heap.size_push];exact aB9 (aBy _)
  ·exact⟨_,aB1 _ (aB4 _ rfl),rfl,_,rfl⟩
  ·intro b f;simp only[List.mem_cons,List.not_mem_nil,or_false]at f;simp only[Heap.size_push];rcases f with rfl | rfl | rfl
   ·exact⟨.inr (by simp only[Heap.size_push];exact Nat.le_succ _),by simp only[Heap.size_push];exact aBy _⟩
   ·exact⟨.inl rfl,aBt (aBt c)⟩
   ·exact⟨.inr (aB3 _),aBt (aBy _)⟩
 ·rw[if_neg l];refine aAz (aB0 ?_);refine aAz (m:=setEpoch a) (wpAny_setEpoch_of ho hd g ?_);refine aAz (m:=newFields "set_iterator" _) (aBi ?_ (by size_fits));refine aB0 ⟨_,rfl,"set_iterator",_,⟨_,aB4 _ rfl,rfl⟩,slot_next.lookup,?_⟩;refine h _ _ ⟨λb u e=>aB1 _ e,aB3 _,⟨rfl,rfl,rfl⟩,?_⟩;have z:a≠s.heap.objs.size:=aB9 c
  cases hbt:w.params.followText "set-order" with
  | true=>
   have r:=jO (w.params.setOrder a ep) es;refine⟨_,_,(pickOrder (w.params.setOrder a ep) es).toList.map (·.2),λA y=>wK y z hd g (λ_=>0) _ (by have:=r.length_eq;simp at*;lia) λi hi K hs A E Q q=>DS hs hd g hbt (by simpa[Function.comp_def] using q),⟨by lia,aB4 _ rfl,aB1 _ ho⟩,?_,r.map _⟩;intro b f;simp only[List.mem_cons,List.not_mem_nil,or_false]at f;simp only[Heap.size_push];rcases f with rfl | rfl
   ·exact⟨.inr (aB3 _),aBy _⟩
   ·exact⟨.inl rfl,aBt c⟩
  | false=>
   have p:(!t.plain && decide (es.size > 1))=false:=by
    rw[hbt]at l;simpa using l
   refine⟨_,_,es.toList.map (·.2),λA y=>wK y z hd g (qE t) _ (by simp) λi hi K hs A E Q q=>AA hs hd g ht hbt (by simp[aR,hbt]) p hi (by simpa[Function.comp_def] using q),⟨by lia,aB4 _ rfl,aB1 _ ho⟩,?_,.refl _⟩;intro b f;simp only[List.mem_cons,List.not_mem_nil,or_false]at f;simp only[Heap.size_push];rcases f with rfl | rfl
   ·exact⟨.inr (aB3 _),aBy _⟩
   ·exact⟨.inl rfl,aBt c⟩
end
open PySem.Calls
section
variable {prog:Program}{w:World}{K:Type}[DecidableEq K]{knd:KeyKind prog w K}{A:Around}{E:aEe}{s:Shared}{a:Addr}{ks:List K}{es:Array (Int×Value)}
theorem HR{Q:Bool->Shared->Prop}(e:s.TypeIs (.ref a) "set")(h:Q false s):wpAny (model prog w) A (Builtin.List.listLengthHint (.ref a)) Q E s:=by
 unfold Builtin.List.listLengthHint;refine aAz (wpAny_specialOf e PySem.F.slot_set_len.lookup ?_);generalize d:("set.__len__":String)=id0
 wp_delta
 rw[show splitId id0=some ("set","__len__") from by subst d;decide+kernel];subst d;refine aAz (aCk (T:= "set") (b:=true) e (by rw[isSubtype_type];kernel_rfl) ?_);refine wpAny_ite_split (λc=>absurd c (by decide)) (λ_=>?_);refine wpAny_ite_split (λ_=>?_) (λc=>absurd (by decide+kernel) c);refine aAz (aDm e ?_);exact aB0 h
theorem HG{vs:List Value}{acc:Array Value}(h:ItemsOf (λi v=>vs[i]? =some v) acc vs.length):acc=vs.toArray:=by
 apply Array.ext_getElem?;intro i;by_cases hi:i<vs.length
 ·have a:i<acc.size:=by rw[h.1];exact hi
  have:=h.2 i acc[i] (by simp[a]);simp[a,this]
 ·simp[hi,h.1]
theorem zR{R:Result->Shared->Prop}(y:v8 (aR w) s.heap a es)(E:A.handled=none)(S:Addr)(n:S≠a)(res:Value)(j:Nat)(p:s.heap.get? S=some {cls:= .type "list",data:= .seq #[] j})
  (J:∀(d :Shared) (vs:List Value) (c' :Nat),vs.Perm (es.toList.map (·.2))->d.gens=s.gens->d.os=s.os->(∀b o,b≠S->s.heap.get? b=some o->d.heap.get? b=some o)->d.heap.get? S=some {cls:= .type "list",dict:=none,data:= .seq vs.toArray c',slots:= #[]}->R (.ok (.ret res)) d)
  (O:es.size<=sizeLine):
  wpAny (model prog w) A.in1 (Builtin.List.listExtendWith (.ref S) (.ref a) res)
   (λB d =>match B with | .done f=>R (.ok f) d | .again c' =>c'.quiet=true/\codeAny (model prog w) A c' R d) (λe d =>R (.error e) d) s:=by
 have q:=aB5 p;unfold Builtin.List.listExtendWith;refine aAz (aDm (T:= "set") y.typeIs ?_);have K:Builtin.List.listSameRef (.ref S) (.ref a)=false:=by simp[Builtin.List.listSameRef,n]
 have L:(Value.type "set"==Value.type "list")=false:=by decide
 have M:(Value.type "set"==Value.type "tuple")=false:=by decide
 simp only[K,L,M,Bool.or_false,Bool.false_eq_true,if_false];refine aAz (HF y λI s2 it=>?_);obtain⟨fp,St,vs,W,st,C,X2⟩:=it.walk
 have G:vs.length=es.size:=by
  have:=X2.length_eq;simpa using this
 have r:S∉fp:=λt=>by
  rcases(C S t).1 with z | z
  ·exact n z
  ·exact absurd q (Nat.not_lt.mpr z)
 have key:∀(h:Heap) (g tk:Nat),St 0 h->(∀b o,b≠S->s.heap.get? b=some o->h.get? b=some o)->
   h.get? S=some {cls:= .type "list",data:= .seq #[] g}->codeAny (model prog w) A (.builtin "list.extend.loop" ⟨[.ref S,.ref I,res],[]⟩) R {s2 with heap:=h,toks:=tk}:=by
  intro h g tk D hk c;refine codeAny_extend_loopS (W A.in1 E).toS (by lia) S r res vs.length 0 _ #[] g rfl (aCa _) D c (ItemsOf.nil _) λd H c' t u v=>?_;rw[HG v]at u;refine J d vs c' X2 (t.gens.trans it.same.1) (t.os.trans it.same.2.1) (λb o k e=>t.heap b o (λhmem=>?_) (hk b o k e)) u;rcases aBa.mp hmem with N | hmem
  ·exact k N
  ·rw[List.mem_singleton.mp hmem]at e;exact absurd (aB5 e) (Nat.not_lt.mpr it.new)
 have c:=it.kept _ _ p;have l:v8 (aR w) s2.heap a es:=y.keep λo e=>it.kept _ _ e;refine aAz (aBf (HR l.typeIs ?_));refine wpAny_ite_split (λ_=>?_) (λ_=>aB0 ⟨plainId_quiet PySem.F.plain_extend_loop _,key s2.heap j s2.toks st (λb o _ e=>it.kept _ _ e) c⟩);refine aAz (aC5 ?_);refine aAz ?_;show wpAny _ _ (updateSeq S (·.push .none) >>=λ_=>updateSeq S (·.pop)) _ _ _;refine aAz (aDw c rfl ?_);have i:=aCo (Obj.mapSeq (·.push Value.none)) c rfl;refine aDw (hz:=by seq_fits) i rfl ?_;have m:=aCo (Obj.mapSeq (·.pop)) i rfl;refine aB0 ⟨plainId_quiet PySem.F.plain_extend_loop _,key _ _ s2.toks ?_ (λb o k e=>?_) m⟩
 ·refine(W A.in1 E).frame 0 _ _ st λb k o e=>?_;have x:b≠S:=λh=>r (h▸k);exact(aC8 _ _ (aC1 x)).trans ((aC8 _ _ (aC1 x)).trans e)
 ·exact(aC8 _ _ (aC1 k)).trans ((aC8 _ _ (aC1 k)).trans (it.kept _ _ e))
variable{R:List Value->Shared->Prop}
theorem uF(m:v8 (aR w) s.heap a es)(n:A.handled=none)(p:es.size<=sizeLine)
  (h:∀(c :Shared) (vs:List Value),vs.Perm (es.toList.map (·.2))->c.gens=s.gens->c.os=s.os->(∀b o,s.heap.get? b=some o->c.heap.get? b=some o)->R vs c):
  wpAny (model prog w) A (collect (.ref a)) R E s:=by
 have j:a<s.heap.objs.size:=by obtain⟨o,_,_,ho,_⟩:=m;exact aB5 ho
 unfold collect;refine aAz (wpAny_runValue (codeAny_builtin PySem.F.entry_proto_collect ?_));rw[Around.under_plainId PySem.F.plain_proto_collect _];show wpAny _ A.in1 (newList [] >>=λl=>again (.builtin "list.__iadd__" ⟨[l,.ref a],[]⟩)) _ _ s;refine aAz (aBi ?_);refine aB0 ⟨plainId_quiet PySem.F.plain_list_iadd _,codeAny_builtin PySem.F.entry_list_iadd ?_⟩;rw[Around.under_plainId PySem.F.plain_list_iadd _];have g:(s.heap.push {cls:= .type "list",data:= .seq ([]:List Value).toArray}).get? s.heap.objs.size=some {cls:= .type "list",data:= .seq #[]}:=aB4 _ rfl;show wpAny _ A.in1 (Builtin.List.listExtendWith (.ref s.heap.objs.size) (.ref a) (.ref s.heap.objs.size)) _ _ _
 have key:=zR (prog:=prog) (A:=A) (s:={s with heap:=s.heap.push {cls:= .type "list",data:= .seq ([]:List Value).toArray}}) (es:=es)
  (R:=λ(q:Result) (c :Shared)=>∃(vs:List Value) (c' :Nat),q= .ok (.ret (.ref s.heap.objs.size))/\vs.Perm (es.toList.map (·.2))/\c.gens=s.gens/\c.os=s.os/\
   (∀b o,s.heap.get? b=some o->c.heap.get? b=some o)/\c.heap.get? s.heap.objs.size=some {cls:= .type "list",dict:=none,data:= .seq vs.toArray c',slots:= #[]})
  (m.keep λo e=>aB1 _ e) n s.heap.objs.size (aCc j) (.ref s.heap.objs.size) 0 g
  (λc vs c' hv hg ho hk d =>⟨vs,c',rfl,hv,hg,ho,λb o e=>hk b o (aB9 (aB5 e)) (aB1 _ e),d⟩) p
 refine aBw key (λk c x=>?_) λe c x=>?_
 ·cases k with
  | done f=>
   obtain⟨vs,c',e,hv,hg,ho,hk,d⟩:=x;cases e;show wpAny _ A (load s.heap.objs.size >>=_) _ _ _;refine aAz (wpAny_load d ?_);exact aB0 (by simpa using h c vs hv hg ho hk)
  | again c₁=>
   refine⟨x.1,codeAny_mono x.2 λq i y=>?_⟩;obtain⟨vs,c',rfl,hv,hg,ho,hk,d⟩:=y;show wpAny _ A (load s.heap.objs.size >>=_) _ _ _;refine aAz (wpAny_load d ?_);exact aB0 (by simpa using h i vs hv hg ho hk)
 ·obtain⟨_,_,r,_⟩:=x;cases r
theorem xI(d:cE knd (aR w) s.heap a ks)(e:A.handled=none)(f:ks.length<=sizeLine)
  (h:∀(c :Shared) (vs:List Value),Vof knd ks vs->c.gens=s.gens->c.os=s.os->(∀b o,s.heap.get? b=some o->c.heap.get? b=some o)->R vs c):
  wpAny (model prog w) A (collect (.ref a)) R E s:=by
 obtain⟨o,es,ep,t,ho,hex,hd,he,nd,g,i,ht⟩:=d;refine uF ⟨o,ep,t,ho,hex,hd,g,i,ht⟩ e (by rw[he.size];exact f) λc vs pm=>h c vs ?_;obtain⟨l,j,k⟩:=jP (·.2) pm es.toList rfl;rw[<-k];exact he.X2 j
end
def F5:Nat->Nat->Nat
 | 0,x=>x
 | n+1,x=>5*F5 n x+1
theorem JJ(m:Nat):∀n x,F5 (m+n) x=F5 m (F5 n x):=by
 induction m with
 | zero=>intro n x;simp[F5]
 | succ m ih=>intro n x;rw[Nat.succ_add];simp only[F5,ih]
theorem JH:∀k,∃u,∀x,F5 (2^k) x=x+2^k*((2*u+1)*(4*x+1))
 | 0=>⟨0,λx=>by simp[F5];lia⟩
 | k+1=>by
  obtain⟨u,h⟩:=JH k;refine⟨u+2^k*((2*u+1)*(2*u+1)),λx=>?_⟩;rw[Nat.pow_succ,Nat.mul_two,JJ,h,h];generalize 2^k=p
  grind
theorem half{p y e:Nat}(b:0<p)(h:y % p=e % p)(a:y % (p*2)≠e % (p*2)):(y+p) % (p*2)=e % (p*2):=by
 rw[Nat.mod_mul,Nat.mod_mul]at a⊢;rw[Nat.add_mod_right,Nat.add_div_right _ b];rw[h]at a⊢;have:y / p % 2≠e / p % 2:=λz=>a (by rw[z]);have:(y / p).succ % 2=e / p % 2:=by lia
 rw[this]
theorem JI:∀k x e,∃s,s<2^k/\F5 s x % 2^k=e % 2^k
 | 0,x,e=>⟨0,by simp,by simp[Nat.mod_one]⟩
 | k+1,x,e=>by
  obtain⟨s,hs,h⟩:=JI k x e;have a:0<2^k:=Nat.pow_pos (by lia);rw[Nat.pow_succ];by_cases c:F5 s x % (2^k*2)=e % (2^k*2)
  ·exact⟨s,by lia,c⟩
  ·refine⟨2^k+s,by lia,?_⟩;obtain⟨u,b⟩:=JH k;rw[JJ,b,<-half a h c];generalize F5 s x=y;generalize 2^k=p;have:y+p*((2*u+1)*(4*y+1))=y+p+p*2*(u*(4*y+1)+2*y):=by grind
   rw[this,Nat.add_mul_mod_self_left]
def lp(M:Nat)(h:Int):Nat->Nat×Nat
 | 0=>(bits h % (M+1),bits h)
 | r+1=>leap M (lp M h r).1 (lp M h r).2
variable {M:Nat}{h:Int}
theorem G2:∀r,(lp M h r).2=bits h / 32^r
 | 0=>by simp[lp]
 | r+1=>by
  show (lp M h r).2 / 32=_;rw[G2 r,Nat.div_div_eq_div_mul,Nat.pow_succ]
theorem NO:bits h<2^64:=by
 unfold bits;have:=aCm h (show (0:Int)<2^64 by decide);have:=aD1 h (show (2^64:Int)≠0 by decide)
 lia
theorem OI:∀r,(lp M h r).1<=M
 | 0=>by have:=Nat.mod_lt (bits h) (show 0<M+1 by lia);show bits h % (M+1)<=M;lia
 | r+1=>by
  show ((lp M h r).1*5+1+(lp M h r).2 / 32) % (M+1)<=M;have:=Nat.mod_lt ((lp M h r).1*5+1+(lp M h r).2 / 32) (show 0<M+1 by lia)
  lia
theorem CD:∀s,(lp M h (13+s)).1=F5 s (lp M h 13).1 % (M+1)
 | 0=>by rw[show F5 0 (lp M h 13).1=(lp M h 13).1 from rfl,Nat.mod_eq_of_lt (by have:=OI (M:=M) (h:=h) 13;lia)]
 | s+1=>by
  have e:(lp M h (13+s)).2=0:=by
   rw[G2,Nat.div_eq_of_lt];have:=NO (h:=h);have:(2:Nat)^64<=32^13:=by decide
   have:(32:Nat)^13<=32^(13+s):=Nat.pow_le_pow_right (by lia) (by lia)
   lia
  show ((lp M h (13+s)).1*5+1+(lp M h (13+s)).2 / 32) % (M+1)=(5*F5 s (lp M h 13).1+1) % (M+1);rw[e,CD s];generalize F5 s (lp M h 13).1=y;simp only[Nat.zero_div,Nat.add_zero];rw[Nat.add_mod,Nat.mod_mul_mod,<-Nat.add_mod,Nat.mul_comm]
theorem RO{k e:Nat}(a:M+1=2^k)(he:e<=M):∃r,r<=M+13/\(lp M h r).1=e:=by
 obtain⟨s,hs,b⟩:=JI k (lp M h 13).1 e;refine⟨13+s,by lia,?_⟩;rw[CD,a,b,Nat.mod_eq_of_lt (by lia)]
def OY(M:Nat)(p:Probe):Probe:=
 if p.more > 0 then {p with j:=p.j+1,more:=p.more-1} else
 {p with j:=(leap M p.i p.perturb).1,more:=runEnd M (leap M p.i p.perturb).1-(leap M p.i p.perturb).1,i:=(leap M p.i p.perturb).1,perturb:=(leap M p.i p.perturb).2}
def wD(M:Nat)(h:Int):Nat->Probe
 | 0=>{j:=bits h % (M+1),more:=runEnd M (bits h % (M+1))-bits h % (M+1),i:=bits h % (M+1),perturb:=bits h,dummy:=none}
 | n+1=>OY M (wD M h n)
def ln(M:Nat)(h:Int)(r:Nat):Nat:=runEnd M (lp M h r).1-(lp M h r).1
def Nr(M:Nat)(h:Int):Nat->Nat
 | 0=>0
 | r+1=>Nr M h r+ln M h r+1
theorem WM(r:Nat):ln M h r<=9/\(lp M h r).1+ln M h r<=M:=by
 have:=OI (M:=M) (h:=h) r;unfold ln runEnd;split <;> lia
theorem iF:∀r d,d<=ln M h r->wD M h (Nr M h r+d)=⟨(lp M h r).1+d,ln M h r-d,(lp M h r).1,(lp M h r).2,none⟩
 | 0,0,_=>by simp[Nr,wD,lp,ln]
 | r,d+1,hd=>by
  show OY M (wD M h (Nr M h r+d))=_;rw[iF r d (by lia)];unfold OY;rw[if_pos (by simp only;lia)];simp only[Probe.mk.injEq,and_true,true_and]
  lia
 | r+1,0,_=>by
  have e:Nr M h (r+1)+0=Nr M h r+ln M h r+1:=rfl;rw[e];show OY M (wD M h (Nr M h r+ln M h r))=_;rw[iF r (ln M h r) (Nat.le_refl _)];unfold OY;rw[if_neg (by simp)];simp[lp,ln]
theorem FT:∀n,∃r d,d<=ln M h r/\n=Nr M h r+d
 | 0=>⟨0,0,by lia,rfl⟩
 | n+1=>by
  obtain⟨r,d,hd,rfl⟩:=FT n;by_cases c:d<ln M h r
  ·exact⟨r,d+1,by lia,by lia⟩
  ·exact⟨r+1,0,by lia,by simp only[Nr];lia⟩
theorem FR(n:Nat):(wD M h n).j<=M:=by
 obtain⟨r,d,hd,rfl⟩:=FT (M:=M) (h:=h) n;rw[iF r d hd];have:=WM (M:=M) (h:=h) r;simp only;lia
section
variable {M:Nat}{owner:Array (Option Nat)}{h:Int}
theorem CV:∀fuel r a,r<=a->a<r+fuel->(owner.getD (lp M h a).1 (some 0)).isNone=true->
  ∃n,layClean.free M owner fuel (lp M h r).1 (lp M h r).2=some (wD M h n).j/\(owner.getD (wD M h n).j (some 0)).isNone=true/\Nr M h r<=n/\∀m,Nr M h r<=m->m<n->(owner.getD (wD M h m).j (some 0)).isNone=false
 | 0,r,a,h1,h2,_=>by lia
 | fuel+1,r,a,h1,h2,h3=>by
  unfold layClean.free
  have l:runEnd M (lp M h r).1+1-(lp M h r).1=ln M h r+1:=by
   unfold ln runEnd;split <;> lia
  rw[l]
  cases hf:(List.range (ln M h r+1)).find? λk=>(owner.getD ((lp M h r).1+k) (some 0)).isNone with
  | some k=>
   obtain⟨hk,as,bs,e,o⟩:=List.find?_eq_some_iff_append.mp hf;have f:k∈List.range (ln M h r+1):=by rw[e];simp
   have b:k<=ln M h r:=by simp at f;lia
   refine⟨Nr M h r+k,?_,?_,by lia,λm m1 g=>?_⟩
   ·rw[iF r k b]
   ·rw[iF r k b];exact hk
   ·obtain⟨d,rfl⟩:∃d,m=Nr M h r+d:=⟨m-Nr M h r,by lia⟩
    rw[iF r d (by lia)]
    have hd:d∈as:=by
     have i:as.length=k:=by
      have:=aC0 (·[as.length]?) e;simp at this;by_cases c:as.length<ln M h r+1
      ·simp[c]at this;exact this
      ·simp[c]at this
     have:(List.range (ln M h r+1))[d]? =as[d]? :=by rw[e,List.getElem?_append_left (by lia)]
     rw[List.getElem?_range (by lia)]at this;exact aB8 this.symm
    have:=o d hd;simpa using this
  | none=>
   have all:=List.find?_eq_none.mp hf
   have p:r≠a:=λz=>by
    subst z;have:=all 0 (by simp);simp only[Nat.add_zero]at this;exact this h3
   obtain⟨n,q,s,t,u⟩:=CV fuel (r+1) a (by lia) (by lia) h3;refine⟨n,q,s,by simp only[Nr]at t;lia,λm m1 g=>?_⟩;by_cases c:Nr M h (r+1)<=m
   ·exact u m c g
   ·obtain⟨d,rfl⟩:∃d,m=Nr M h r+d:=⟨m-Nr M h r,by lia⟩
    simp only[Nr]at c;rw[iF r d (by lia)];have:=all d (by simp;lia);simp only[Bool.not_eq_true]at this;exact this
end
structure Ow(M:Nat)(owner:Array (Option Nat))(pre:List Int):Prop where
 size:owner.size=M+1
 val:∀(j q:Nat),owner[j]? =some (some q)->q<pre.length
 inj:∀(j j' q:Nat),owner[j]? =some (some q)->owner[j']? =some (some q)->j=j'
 at' :∀(q:Nat) (h:Int),pre[q]? =some h->∃n,owner[(wD M h n).j]? =some (some q)/\∀m,m<n->∃q',owner[(wD M h m).j]? =some (some q')
theorem ndl{α:Type}[DecidableEq α]:∀(l m:List α),l.Nodup->(∀x∈l,x∈m)->l.length<=m.length
 | [],m,_,_=>by simp
 | a::l,m,nd,h=>by
  have c:=aDv.mp nd;have b:=h a aB6;have:=ndl l (m.erase a) c.2 λx d=>(List.mem_erase_of_ne (λz:x=a=>c.1 (by rw[<-z];exact d))).mpr (h x (aB7 _ d));rw[List.length_erase_of_mem b]at this;have:=List.length_pos_of_mem b;simp only[List.length_cons];lia
variable{owner:Array (Option Nat)}
theorem m9{M:Nat}(hs:owner.size=M+1)(b:j<=M):((owner.getD j (some 0)).isNone=true↔owner[j]? =some none)/\((owner.getD j (some 0)).isNone=false↔∃q,owner[j]? =some (some q)):=by
 have a:j<owner.size:=by lia
 have e:owner.getD j (some 0)=owner[j]:=by simp[Array.getD,a]
 rw[e];cases o:owner[j] <;> simp[a,o]
theorem Ow.room{M:Nat}{pre:List Int}(w:Ow M owner pre)(n:pre.length<=M):∃e,e<=M/\owner[e]? =some none:=by
 apply aC2;intro h
 have all:∀j,j<=M->∃q,owner[j]? =some (some q):=λj d=>by
  have:=m9 w.size d
  cases c:(owner.getD j (some 0)).isNone with
  | true=>exact absurd ⟨j,d,this.1.mp c⟩ h
  | false=>exact this.2.mp c
 have key:=ndl ((List.range (M+1)).map λj=>((owner[j]?).join).getD 0) (List.range pre.length) ?_ ?_
 ·simp at key;lia
 ·rw[List.nodup_iff_pairwise_ne,List.pairwise_map];refine aD0.imp_of_mem λ{a b} i k l=>?_;obtain⟨o,f⟩:=all a (by simp at i;lia);obtain⟨p,g⟩:=all b (by simp at k;lia);rw[f,g];simp;intro z;subst z;have:=w.inj a b _ f g
  lia
 ·intro x m;obtain⟨j,d,rfl⟩:=aBd.mp m;obtain⟨q,e⟩:=all j (by simp at d;lia);rw[e];simpa using w.val j q e
def X5(M:Nat)(acc:Option (Array (Option Nat)×Nat))(h:Int):Option (Array (Option Nat)×Nat):=do
  let (owner,k)<-acc
  let j<-layClean.free M owner (turns M) (bits h % (M+1)) (bits h)
  pure (owner.setIfInBounds j (some k),k+1)
theorem FF{M k:Nat}(f:M+1=2^k):∀(hs pre:List Int) (owner:Array (Option Nat)),Ow M owner pre->pre.length+hs.length<=M->∃a,hs.foldl (X5 M) (some (owner,pre.length))=some (a,(pre++hs).length)/\Ow M a (pre++hs)
 | [],pre,owner,w,_=>⟨owner,by simp,by simpa using w⟩
 | h::hs,pre,owner,w,hl=>by
  simp only[List.length_cons]at hl;obtain⟨e,he,g⟩:=w.room (by lia);obtain⟨l,B,o⟩:=RO (h:=h) f he;obtain⟨n,p,r,_,s⟩:=CV (M:=M) (owner:=owner) (h:=h) (turns M) 0 l (by lia) (by unfold turns;lia) (by rw[o];exact(m9 w.size he).1.mpr g);have t:=FR (M:=M) (h:=h) n;have u:=(m9 w.size t).1.mp r;have v:(wD M h n).j<owner.size:=by rw[w.size];lia
  have st:X5 M (some (owner,pre.length)) h=some (owner.setIfInBounds (wD M h n).j (some pre.length),pre.length+1):=by
   show (do let j<-layClean.free M owner (turns M) (lp M h 0).1 (lp M h 0).2;pure (owner.setIfInBounds j (some pre.length),pre.length+1))=_;rw[p];rfl
  have d:∀j,(owner.setIfInBounds (wD M h n).j (some pre.length))[j]? =if j=(wD M h n).j then some (some pre.length) else owner[j]? :=λj=>by
   rw[Array.getElem?_setIfInBounds];split
   ·rename_i c;rw[if_pos c.symm]
   ·rename_i c;rw[if_neg (λz=>c z.symm)]
  have x :Ow M (owner.setIfInBounds (wD M h n).j (some pre.length)) (pre++[h]):=by
   refine⟨by simp[w.size],λj q e=>?_,λj j' q e b =>?_,λq h' e=>?_⟩
   ·rw[d]at e;split at e
    ·simp at e;subst e;simp
    ·have:=w.val j q e;simp;lia
   ·rw[d]at e b;split at e <;> split at b
    ·lia
    ·simp at e;subst e;have:=w.val j' _ b;lia
    ·simp at b;subst b;have:=w.val j _ e;lia
    ·exact w.inj j j' q e b
   ·by_cases c:q<pre.length
    ·rw[List.getElem?_append_left c]at e;obtain⟨m,m1,y⟩:=w.at' q h' e;refine⟨m,?_,λi hi=>?_⟩
     ·rw[d,if_neg]
      ·exact m1
      ·intro z;rw[z,u]at m1;cases m1
     ·obtain⟨q',b⟩:=y i hi;rw[d];split
      ·exact⟨_,rfl⟩
      ·exact⟨q',b⟩
    ·have A:q=pre.length:=by
      have:=(aB2.mp e).1;simp at this;lia
     subst A;simp at e;subst e;refine⟨n,by rw[d,if_pos rfl],λi hi=>?_⟩;obtain⟨q',b⟩:=(m9 w.size (FR i)).2.mp (s i (by simp[Nr]) hi);rw[d];split
     ·exact⟨_,rfl⟩
     ·exact⟨q',b⟩
  rw[List.foldl_cons,st];have:=FF f hs (pre++[h]) _ x (by simp;lia);simpa using this
theorem R9{M k:Nat}(b:M+1=2^k)(hs:Array Int)(c:hs.size<=M):∃owner,layClean M hs=some owner/\Ow M owner hs.toList:=by
 have d:Ow M (Array.replicate (M+1) none) []:=by
  refine⟨by simp,λj q e=>?_,λj j' q e _=>?_,λq h e=>by simp at e⟩
  ·rw[Array.getElem?_replicate]at e;split at e <;> simp at e
  ·rw[Array.getElem?_replicate]at e;split at e <;> simp at e
 obtain⟨owner,f,g⟩:=FF b hs.toList [] _ d (by simpa using c);refine⟨owner,?_,by simpa using g⟩;unfold layClean;rw[<-Array.foldl_toList];change ((hs.toList.foldl (X5 M) (some (Array.replicate (M+1) none,0))).map (·.1))=_;have a :hs.toList.foldl (X5 M) (some (Array.replicate (M+1) none,0))=some (owner,([]++hs.toList).length):=f;rw[a];rfl
structure Tb(t:SetTable)(hs:List Int):Prop where
 JO:zF t.place
 dum:t.dummies= #[]
 pow:∃k,3<=k/\t.mask+1=2^k
 le:∀j∈t.place.toList,j<=t.mask
 len:t.place.size=hs.length
 IF:t.place.size<=t.mask
 small:t.mask+1<=8*(hs.length+1)
 reach:∀q∈t.place.toList.zip hs,∃n,(wD t.mask q.2 n).j=q.1/\∀m,m<n->(wD t.mask q.2 m).j∈t.place.toList
variable {t:SetTable}{hs:List Int}
theorem Tb.fits(T:Tb t hs){n:Nat}(a:n=hs.length):t.fits n=true:=by
 have:=T.len;have:=T.IF;simp[SetTable.fits,SetTable.fill,T.dum]
 lia
theorem MG{M k:Nat}(N:3<=k)(E:M+1=2^k)(hs:Array Int)(O:hs.size<=M)(P:M+1<=8*(hs.size+1))(f Q:Nat)(l A:Bool):
  ∃t g,laid M f Q l A hs=some (t,g)/\g.toList.Perm (List.range hs.size)/\t.mask=M/\t.led=l/\Tb t (g.toList.filterMap (hs[·]?)):=by
 obtain⟨owner,e,w⟩:=R9 E hs O;unfold laid;rw[e];refine⟨_,_,rfl,?_⟩;generalize F:(List.range (M+1)).filterMap (λj=>(owner.getD j none).map (j, ·))=L
 have mem:∀j q,(j,q)∈L↔owner[j]? =some (some q):=λj q=>by
  rw[<-F];simp only[List.mem_filterMap,List.mem_range,Option.map_eq_some_iff];constructor
  ·rintro⟨j',o,q',r,R⟩;cases R;have s :j<owner.size:=by rw[w.size];exact o
   simp[Array.getD,s]at r;simp[s,r]
  ·intro h;obtain⟨o,r⟩:=Array.getElem?_eq_some_iff.mp h;refine⟨j,by rw[w.size]at o;exact o,q,by simp[Array.getD,o,r],rfl⟩
 have G:L.Pairwise λa b=>a.1<b.1:=by
  rw[<-F,List.pairwise_filterMap];refine aD0.imp_of_mem λ{a b} _ _ u x H y I=>?_;simp at H I;obtain⟨c,X,rfl⟩:=H;obtain⟨d,hd,rfl⟩:=I;exact u
 have nd:(L.map (·.2)).Nodup:=by
  rw[List.nodup_iff_pairwise_ne,List.pairwise_map];refine G.imp_of_mem λ{a b} i B u z=>?_;have S:=(mem a.1 a.2).mp i;have J:=(mem b.1 b.2).mp B;rw[<-z]at J;have:=w.inj _ _ _ S J
  lia
 have pm:(L.map (·.2)).Perm (List.range hs.size):=by
  refine(aD9 nd aEb).mpr λq=>?_;simp only[List.mem_map,List.mem_range];constructor
  ·rintro⟨a,i,rfl⟩;have:=w.val _ _ ((mem a.1 a.2).mp i);simpa using this
  ·intro p;obtain⟨n,C,_⟩:=w.at' q hs[q] (by simp[p]);exact⟨_,(mem _ _).mpr C,rfl⟩
 have Y:L.length=hs.size:=by have:=pm.length_eq;simpa using this
 have T:(L.map (·.2)).filterMap (hs[·]?)=L.map λa=>hs.getD a.2 0:=by
  rw[List.filterMap_map]
  have:∀l:List (Nat×Nat),(∀a∈l,a.2<hs.size)->l.filterMap ((hs[·]?) ∘ (·.2))=l.map λa=>hs.getD a.2 0:=by
   intro l
   induction l with
   | nil=>intro _;rfl
   | cons a l ih=>
    intro K;have i:=K a aB6;have r:((hs[·]?) ∘ (·.2)) a=some (hs.getD a.2 0):=by simp[Array.getD,i]
    rw[List.filterMap_cons,r];simp only[List.map_cons];rw[ih λb B=>K b (List.mem_cons_of_mem _ B)]
  exact this L λa i=>by have:=w.val _ _ ((mem a.1 a.2).mp i);simpa using this
 refine⟨by simpa using pm,rfl,rfl,?_⟩;have D :((L.map (·.2)).toArray.toList.filterMap (hs[·]?))=L.map λa=>hs.getD a.2 0:=T;rw[D]
 have A:∀j,j∈L.map (·.1)↔∃q,owner[j]? =some (some q):=λj=>by
  simp only[List.mem_map];constructor
  ·rintro⟨a,i,rfl⟩;exact⟨_,(mem _ _).mp i⟩
  ·rintro⟨q,p⟩;exact⟨(j,q),(mem _ _).mpr p,rfl⟩
 refine⟨?_,rfl,⟨k,N,E⟩,λj o=>?_,?_,?_,?_,λq p=>?_⟩
 ·show (L.map (·.1)).Pairwise (· < ·);rw[List.pairwise_map];exact G
 ·obtain⟨q,p⟩:=(A j).mp o;have:=(Array.getElem?_eq_some_iff.mp p).1;rw[w.size]at this;show j<=M
  lia
 ·simp
 ·show (L.map (·.1)).toArray.size<=M;simp;lia
 ·show M+1<=_;simp;lia
 ·have v :q∈(L.map (·.1)).zip (L.map λa=>hs.getD a.2 0):=p;rw[List.zip_map']at v;obtain⟨a,i,rfl⟩:=aBd.mp v;have ho:=(mem a.1 a.2).mp i;have hv:a.2<hs.size:=by have:=w.val _ _ ho;simpa using this
  have U:hs.getD a.2 0=hs[a.2]:=by simp[Array.getD,hv]
  obtain⟨n,C,V⟩:=w.at' a.2 (hs.getD a.2 0) (by rw[U];simp[hv]);refine⟨n,w.inj _ _ _ C ho,λm W=>?_⟩;exact(A _).mpr (V m W)
end ST
namespace L2
open PySem PySem.Spec PyProof.Rows
def hC:List (Str×NameKind)->List (Str×Addr)->List (Str×Addr)->List (Str×Addr)
 | [],_,acc=>acc
 | (n,k)::r,cells,acc=>hC r cells (if k== .free then (n,(cells.lookup n).getD 0)::acc else acc)
theorem tR{env:Env}:∀(names:List (Str×NameKind)) (acc:List (Str×Addr)),(∀x∈names,x.2= .free->∃c,env.cells.lookup x.1=some c)->
  (forIn names acc λ(x:Str×NameKind) (e:List (Str×Addr))=>(if (x.2==NameKind.free)=true then do let a<-cellOf env x.1;pure (ForInStep.yield ((x.1,a)::e)) else pure (ForInStep.yield e):Sem _))=(pure (hC names env.cells acc):Sem _)
 | [],acc,_=>by simp[hC]
 | (n,k)::r,acc,h=>by
  have f:=λb =>tR (env:=env) r b λx g=>h x (aB7 _ g);rw[List.forIn_cons];by_cases hk:k= .free
  ·subst hk;obtain⟨c,i⟩:=h (n,.free) aB6 rfl;have d :env.cells.lookup n=some c:=i;simp only[hC,beq_self_eq_true,if_true,cellOf,d,pure_bind,Option.getD_some];exact f _
  ·have j:(k==NameKind.free)=false:=by simpa using hk
   simp only[hC,j,Bool.false_eq_true,if_false,pure_bind];exact f _
variable{scope:Scope}{env:Env}
theorem sG(h:∀x∈scope.names,x.2= .free->∃c,env.cells.lookup x.1=some c):closureFor scope env=pure (hC scope.names env.cells []):=by
 have e:=tR (env:=env) scope.names [] h;unfold closureFor;simp only[bind_pure_comp]at e⊢
 first
  | (rw[<-e];rfl)
  | (simp at e⊢;rw[<-e];rfl)
  | (simp at e⊢;exact e)
theorem tS{cells:List (Str×Addr)}{P:Str->Addr->Prop}:∀(names:List (Str×NameKind)) (acc:List (Str×Addr)),(∀x∈acc,P x.1 x.2)->(∀n,(n,NameKind.free)∈names->P n ((cells.lookup n).getD 0))->∀x∈hC names cells acc,P x.1 x.2
 | [],acc,h,_,x,hx=>h x hx
 | (n,k)::r,acc,h,a,x,hx=>by
  refine tS (cells:=cells) r _ (λy hy=>?_) (λm b=>a m (aB7 _ b)) x hx;by_cases hk:k= .free
  ·subst hk;simp only[beq_self_eq_true,if_true]at hy;rcases aBa.mp hy with rfl | hy
   ·exact a n aB6
   ·exact h y hy
  ·have c:(k==NameKind.free)=false:=by simpa using hk
   simp only[c,Bool.false_eq_true,if_false]at hy;exact h y hy
theorem bT{α:Type}:∀{l:List (Str×α)} {n:Str} {c:α},(n,c)∈l->∃c',l.lookup n=some c'
 | (k,v)::r,n,c,h=>by
  rw[List.lookup_cons]
  cases hb:n==k with
  | true=>exact⟨v,rfl⟩
  | false=>
   rcases aBa.mp h with e | h
   ·injection e with a _;rw[a]at hb;simp at hb
   ·exact bT h
theorem oZ{cells:List (Str×Addr)}:∀(names:List (Str×NameKind)) (acc:List (Str×Addr)) (x:Str×Addr),x∈acc->x∈hC names cells acc
 | [],_,_,h=>h
 | (n,k)::r,acc,x,h=>by
  refine oZ r _ x ?_;by_cases hk:(k==NameKind.free)=true
  ·rw[if_pos hk];exact aB7 _ h
  ·rw[if_neg hk];exact h
theorem tT{cells:List (Str×Addr)}:∀(names:List (Str×NameKind)) (acc:List (Str×Addr)) (n:Str),(n,NameKind.free)∈names->∃c,(n,c)∈hC names cells acc
 | (m,k)::r,acc,n,h=>by
  rcases aBa.mp h with e | h
  ·injection e with a b;subst a b;exact⟨(cells.lookup n).getD 0,oZ r _ _ (by simp)⟩
  ·exact tT r _ n h
theorem m6{x:Str}{b :NameKind}:(relabel scope env).names.lookup x=some b ->∃k,scope.names.lookup x=some k/\(b =k\/(k= .free/\b = .cell)):=by
 unfold relabel;dsimp only;generalize scope.names=l
 induction l with
 | nil=>intro h;simp at h
 | cons p r ih=>
  obtain⟨n,k⟩:=p;intro h;rw[List.map_cons]at h;by_cases a:(k==NameKind.free && env.scope.kind== .function && env.kindOf n==some .cell)=true
  ·simp only[a,if_true,List.lookup_cons]at h⊢
   cases hb:x==n with
   | true=>
    rw[hb]at h;simp only[Bool.and_eq_true,beq_iff_eq]at a;exact⟨k,rfl,.inr ⟨a.1.1,(aBl h).symm⟩⟩
   | false=>rw[hb]at h;exact ih h
  ·have c :(k==NameKind.free && env.scope.kind== .function && env.kindOf n==some .cell)=false:=by simpa using a
   simp only[c,Bool.false_eq_true,if_false,List.lookup_cons]at h⊢
   cases hb:x==n with
   | true=>rw[hb]at h;exact⟨k,rfl,.inl (aBl h).symm⟩
   | false=>rw[hb]at h;exact ih h
theorem uK{x:Str}:scope.names.lookup x=some .free->(relabel scope env).names.lookup x=some .cell\/(relabel scope env).names.lookup x=some .free:=by
 unfold relabel;dsimp only;generalize scope.names=l
 induction l with
 | nil=>intro h;simp at h
 | cons p r ih=>
  obtain⟨n,k⟩:=p;intro h;rw[List.map_cons];rw[List.lookup_cons]at h
  cases hb:x==n with
  | true=>
   rw[hb]at h;have hk:k= .free:=aBl h;subst hk;by_cases b:(NameKind.free==NameKind.free && env.scope.kind== .function && env.kindOf n==some .cell)=true
   ·simp only[b,if_true,List.lookup_cons,hb];first | exact .inl rfl | exact .inl trivial
   ·have a :(NameKind.free==NameKind.free && env.scope.kind== .function && env.kindOf n==some .cell)=false:=by simpa using b
    simp only[a,Bool.false_eq_true,if_false,List.lookup_cons,hb];first | exact .inr rfl | exact .inr trivial
  | false=>
   rw[hb]at h;by_cases b:(k==NameKind.free && env.scope.kind== .function && env.kindOf n==some .cell)=true
   ·simp only[b,if_true,List.lookup_cons,hb];exact ih h
   ·have a :(k==NameKind.free && env.scope.kind== .function && env.kindOf n==some .cell)=false:=by simpa using b
    simp only[a,Bool.false_eq_true,if_false,List.lookup_cons,hb];exact ih h
def aL(X:Cx)(own:List Str)(aF:List Nat)(scope:Scope)(cl:List (Str×Addr))(C:Addr)(fp:List Addr)(s₀:Shared)(H₀:Hp):Cx where
 prog:=X.prog
 w:=X.w
 K:=X.K
 mg:=X.mg
 base:=X.base
 A:=X.A
 N:=own++aF.map λi=>X.N.getD i ""
 s₀:=s₀
 H₀:=H₀
 env:=compEnvC scope cl C X.env
 outer:=X.stack
 stack:=X.stack
 ex:=fp
 fn:=λx=>scope.names.lookup x==some .cell
 calm:=X.calm
 pn:=[]
 xe:=λ_ _=>False
def n8(own:List Str)(aF:List Nat)(σ:St):St:=own.map (λ_=>none)++aF.map λi=>(σ[i]?).join
def c9(N:List Str)(sc scope:Scope)(aF:List Nat):Bool:=
 scope.kind== .function && scope.names.all (λy=>y.2 != .cell || scope.names.lookup y.1==some .cell) && scope.names.all (λy=>y.2 != .local || scope.names.lookup y.1==some .local) &&
 scope.names.all (λy=>y.2 != .free || (scope.names.lookup y.1==some .free && (sc.names.lookup y.1==some .cell || sc.names.lookup y.1==some .free))) &&
 aF.all (λi=>match N[i]? with | some x=>scope.names.lookup x==some .free | none=>false)
structure BA(X:Cx)(scope:Scope)(aF:List Nat):Prop where
 kind:scope.kind= .function
 cel:∀y∈scope.names,y.2= .cell->scope.names.lookup y.1=some .cell
 loc:∀y∈scope.names,y.2= .local->scope.names.lookup y.1=some .local
 fre:∀y∈scope.names,y.2= .free->scope.names.lookup y.1=some .free
 fr:∀y∈scope.names,y.2= .free->X.env.kindOf y.1=some .cell\/X.env.kindOf y.1=some .free
 cap:∀i∈aF,∃x,X.N[i]? =some x/\scope.names.lookup x=some .free
variable{X:Cx}{sc:Scope}{N:List Str}
theorem BA.of{aF:List Nat}(hN:X.N=N)(hs:X.env.scope=sc)(h:c9 N sc scope aF=true):BA X scope aF:=by
 subst hN hs;unfold c9 at h;simp only[Bool.and_eq_true,List.all_eq_true]at h;obtain⟨⟨⟨⟨c,d⟩,f⟩,b⟩,g⟩:=h;refine⟨aDq.mp c,λy a z=>?_,λy a z=>?_,λy a z=>?_,λy a z=>?_,λi hi=>?_⟩
 ·have:=d y a;rw[z]at this;simpa using this
 ·have:=f y a;rw[z]at this;simpa using this
 ·have:=b y a;rw[z]at this;have this:(scope.names.lookup y.1==some NameKind.free && (X.env.scope.names.lookup y.1==some NameKind.cell || X.env.scope.names.lookup y.1==some NameKind.free))=true:=by simpa using this
  exact aDq.mp (Bool.and_eq_true_iff.mp this).1
 ·have:=b y a;rw[z]at this;have this:(scope.names.lookup y.1==some NameKind.free && (X.env.scope.names.lookup y.1==some NameKind.cell || X.env.scope.names.lookup y.1==some NameKind.free))=true:=by simpa using this
  have this:=(Bool.and_eq_true_iff.mp this).2;rcases Bool.or_eq_true_iff.mp this with q | q
  ·exact .inl (aDq.mp q)
  ·exact .inr (aDq.mp q)
 ·have:=g i hi
  cases e:X.N[i]? with
  | none=>rw[e]at this;simp at this
  | some x=>rw[e]at this;exact⟨x,rfl,aDq.mp this⟩
theorem rK:∀(names:List (Str×NameKind)) (n:Nat) (acc:List (Str×Addr)),cellsFrom n names acc=cellsFrom n names []++acc
 | [],_,_=>rfl
 | (x,k)::r,n,acc=>by
  unfold cellsFrom;split
  ·rw[rK r (n+1) ((x,n)::acc),rK r (n+1) [(x,n)]];simp
  ·exact rK r n acc
theorem A2:∀(names:List (Str×NameKind)) (n:Nat) (acc:List (Str×Addr)) {x:Str} {c:Addr},(x,c)∈cellsFrom n names acc->(x,c)∈acc\/(x,NameKind.cell)∈names
 | [],_,_,_,_,h=>.inl h
 | (y,k)::r,n,acc,x,c,h=>by
  unfold cellsFrom at h;split at h
  ·rename_i hk;have hk:k= .cell:=aDq.mp hk;rcases A2 r _ _ h with z | z
   ·rcases aBa.mp z with z | z
    ·injection z with a b;exact .inr (by rw[a,hk];exact aB6)
    ·exact .inl z
   ·exact .inr (aB7 _ z)
  ·rcases A2 r _ _ h with z | z
   ·exact .inl z
   ·exact .inr (aB7 _ z)
theorem NI:∀(names:List (Str×NameKind)) (n:Nat) (acc:List (Str×Addr)) {p:Str×Addr},p∈acc->p∈cellsFrom n names acc:=λnames n acc p h=>by
 rw[rK];exact aBs _ h
theorem vR:∀(names:List (Str×NameKind)) (n:Nat) (acc:List (Str×Addr)) {x:Str},(x,NameKind.cell)∈names->∃c,(x,c)∈cellsFrom n names acc
 | (y,k)::r,n,acc,x,h=>by
  unfold cellsFrom;rcases aBa.mp h with z | z
  ·injection z with a b;subst a b;rw[if_pos (show (NameKind.cell==NameKind.cell)=true from rfl)];exact⟨n,NI _ _ _ aB6⟩
  ·split
   ·exact vR r _ _ z
   ·exact vR r _ _ z
variable{A:Around}{s:Shared}
theorem rZ{M:Model}{E:aEe}{globals:Addr}{cl:List (Str×Addr)}{qual:Str}{outer:Env}{b:Addr}{Q:Env->Shared->Prop}
  (a:∀h',h'.Ns s.heap.objs.size (λ_=>none)->(∀c o,s.heap.get? c=some o->h'.get? c=some o)->CellsOk h' (s.heap.objs.size+1) (cellsFrom (s.heap.objs.size+1) scope.names [])->
   Q (newEnv scope s.heap.objs.size globals (cellsFrom (s.heap.objs.size+1) scope.names []++cl) qual none .none (some outer) b) {s with heap:=h'}):
  wpAny M A (newFunctionEnv scope globals cl [] qual none .none (some outer) b) Q E s:=by
 simp only[newFunctionEnv,Option.isSome_some,if_true];refine aAz (wpAny_alloc ?_);refine aAz (wpAny_layCells _ (λname kind cells=>by cases hkc:kind==NameKind.cell <;> simp[hkc]) _ _ _ _ ?_);have ok:=cellsFrom_ok scope.names (s.heap.push {cls:= .type "dict",data:= .dict #[]}) (s.heap.objs.size+1) [] ⟨λ_ _ d=>(nomatch d),List.Pairwise.nil⟩ (by rw[Heap.size_push];exact aB3 _);rw[Heap.size_push]at ok;rw[show ({s with heap:=s.heap.push {cls:= .type "dict",data:= .dict #[]}}:Shared).heap.objs.size=s.heap.objs.size+1 from Heap.size_push ..];refine aAz ?_;rw[List.forIn_nil];refine aB0 (aB0 ?_);rw[rK];exact a _ ((Heap.Ns.new s.heap (.type "dict")).keeps (pushCells_keeps _ _)) (λc o e=>pushCells_keeps _ _ c o (aB1 _ e)) ok
def UE(X:Cx)(a:List Expr)(t:TT):Prop:=
 ∀(pins:List (Addr×Obj)) (s:Shared) (σ:St) (H:Hp) (Q:Bool->Hp->Prop),Inv X pins σ H s->t σ H Q->
  wpAny (model X.prog X.w) X.A (forIn a true λc r=>if r=true then do let ok<-isTrue c X.env (eval c X.env);pure (ForInStep.yield ok) else pure (ForInStep.yield r)) (TP X pins σ Q) X.xe s
def YY:TT:=λ_ H Q=>Q true H
theorem KP:UE X [] YY:=λ_ _ _ H _ I h=>wpAny_tests_nil ⟨H,I,h⟩
theorem KO{c:Expr}{t:TT}(h:PT X c t):UE X [c] t:=λpins s σ H Q I q=>wpAny_tests_one (h pins s σ H Q I q)
def oD(n:Nat)(g:TG):Prop:=∀v σ H Q,g v σ H Q->g v σ H λa H' =>Q a H' /\a.length=σ.length/\∀j,n<=j->a[j]? =σ[j]?
def C5(n:Nat)(g:zE):Prop:=∀vs σ H Q,g vs σ H Q->g vs σ H λa H' =>Q a H' /\a.length=σ.length/\∀j,n<=j->a[j]? =σ[j]?
variable{n i:Nat}
theorem D8(h:i<n):oD n (oR i):=λv σ H Q q=>⟨q,by simp,λj a=>by rw[List.getElem?_set_ne (by lia)]⟩
theorem HY:C5 n HZ:=λvs σ H Q q=>⟨q.1,q.2,rfl,λ_ _=>rfl⟩
theorem D9{t:TG}{u:zE}(mt:∀v σ H Q b,(∀a H',Q a H' ->b a H')->t v σ H Q->t v σ H b)(d:∀v σ H Q b,(∀a H',Q a H' ->b a H')->u v σ H Q->u v σ H b)(f:oD n t)(g:C5 n u):C5 n (yK t u):=by
 intro vs σ H Q q;obtain⟨v,r,e,q⟩:=q;refine⟨v,r,e,mt _ _ _ _ _ (λa H' ⟨q',l,k⟩=>?_) (f _ _ _ _ q)⟩;refine d _ _ _ _ _ (λh p ⟨i,m,o⟩=>?_) (g _ _ _ _ q');exact⟨i,m.trans l,λj c=>(o j c).trans (k j c)⟩
theorem HX{n m:Nat}{K:aEd}{u:zE}(h:C5 n u):oD n (TH K m u):=by
 intro v σ H Q q;obtain⟨a,xs,e,hs,b,q⟩:=q;exact⟨a,xs,e,hs,b,h _ _ _ _ q⟩
theorem AO:∀v σ H Q b,(∀a H',Q a H' ->b a H')->oR i v σ H Q->oR i v σ H b :=λ_ _ _ _ _ h q=>h _ _ q
theorem EA:∀v σ H Q b,(∀a H',Q a H' ->b a H')->HZ v σ H Q->HZ v σ H b :=λ_ _ _ _ _ h q=>⟨q.1,h _ _ q.2⟩
theorem AQ{t:TG}{u:zE}(mt:∀v σ H Q b,(∀a H',Q a H' ->b a H')->t v σ H Q->t v σ H b)(c:∀v σ H Q b,(∀a H',Q a H' ->b a H')->u v σ H Q->u v σ H b):
  ∀v σ H Q b,(∀a H',Q a H' ->b a H')->yK t u v σ H Q->yK t u v σ H b :=by
 intro vs σ H Q b h ⟨v,r,e,q⟩;exact⟨v,r,e,mt _ _ _ _ _ (λa H' q' =>c _ _ _ _ _ h q') q⟩
variable{w:World}{R:Result->Shared->Prop}{ifs:List Expr}{pos:Pos}
theorem yV{prog:Program}{k a iter:Expr}{it acc:Value}(I:Nat->Shared->Prop)
  (l:∀n s,I n s->wpAny (model prog w) A (pyNext it) (λr b=>match r with
   | none=>R (.ok .next) b
   | some v=>wpAny (model prog w) A (letOwnedTupleGo a it v) (λ_ b=>wpAny (model prog w) A (assign a env v) (λ_ f=>
     wpAny (model prog w) A (forIn ifs true λc r=>if r=true then do let ok<-isTrue c env (eval c env);pure (ForInStep.yield ok) else pure (ForInStep.yield r)) (λok e=>
      if ok=true then wpAny (model prog w) A (eval k env) (λx g=>
       wpAny (model prog w) A (call (.builtin "list.append") [acc,x]) (λ_ i=>∃m,m<n/\I m i) (λ_ _=>False) g) (λ_ _=>False) e
      else ∃m,m<n/\I m e) (λ_ _=>False) f) (λ_ _=>False) b) (λ_ _=>False) b) (λ_ _=>False) s)
  (n:Nat) (h:I n s):codeAny (model prog w) A (.compLoop (.ListComp k [⟨a,iter,ifs,0⟩] scope pos) 0 it acc env) R s:=by
 refine codeAny_loop rfl I (λn s t=>?_) n h;show wpAny _ A ((compTurn (.ListComp k [⟨a,iter,ifs,0⟩] scope pos) 0 it acc env).onRaise (λx=>do noteFrame x env;theTreesLotGoes x)) _ _ s;refine wpAny_noted ?_;rw[compTurn_list];refine aAz (aCv (aAz (aBw (l n s t) (λr b d=>?_) λ_ _ h' =>h'.elim)))
 cases r with
 | none=>exact aB0 d
 | some v=>
  refine aAz (aBw d (λ_ b d=>?_) λ_ _ h' =>h'.elim);refine aAz (aBw d (λ_ f o=>aAz (aBw o (λok e j=>?_) λ_ _ h' =>h'.elim)) λ_ _ h' =>h'.elim)
  cases ok with
  | false=>exact aB0 ⟨rfl,j⟩
  | true=>
   exact aAz (aAz (aBw j (λx g p=>aAz (aBw p (λ_ i q=>aB0 (aB0 ⟨rfl,q⟩)) λ_ _ h' =>h'.elim)) λ_ _ h' =>h'.elim))
def gG(P:Program)(w:World)(p:Addr)(ks:List Key):HO:= .ext λ_ h=>ST.cE (aP P w) (ST.aR w) h p ks
variable{P:Program}{h:Heap}
theorem pK{H:Hp}{p:Addr}{ks:List Key}(x:ST.cE (aP P w) (ST.aR w) h p ks):bO P w H h p (gG P w p ks):=
 ⟨x,by obtain⟨o,_,_,_,ho,_⟩:=x;exact⟨o,ho⟩,λa b q k=>q.keep λo e=>k o e⟩
def YW:V->Option Key
 | .int i=>some (.inl i)
 | .str x=>some (.inr x)
 | _=>none
abbrev cmE(b:Bool)(a:Expr)(gs:List Comprehension)(sc:Scope)(pos:Pos):Expr:=match b with
 | false=>.ListComp a gs sc pos
 | true=>.SetComp a gs sc pos
def cmO(P:Program)(w:World)(b:Bool)(a:Addr)(c:List V):HO:=match b with
 | false=>.lst c
 | true=>gG P w a (ST.cJ [] (c.filterMap YW))
abbrev cmN(b:Bool):Sem Value:=match b with
 | false=>newList []
 | true=>newSet (.type "set")
variable{Q:aEe}
theorem TV{E:aEe}{b:Bool}(h:∀G:Heap,(∀c o,s.heap.get? c=some o->G.get? c=some o)->G.objs.size=s.heap.objs.size+1->
  (∀H,bO P w H G s.heap.objs.size (cmO P w b s.heap.objs.size []))->Q (.ref s.heap.objs.size) {s with heap:=G}):wpAny (model P w) A (cmN b) Q E s:=by
 cases b with
 | false=>exact aBi (h _ (λc o e=>aB1 _ e) (aCw _ _) λH=>⟨aCa _,[],0,.nil,aB4 _ rfl⟩)
 | true=>
  unfold cmN newSet;exact aAz (ST.dW (aBi (h _ (λc o e=>aB1 _ e) (aCw _ _) λH=>pK (ST.lX (aB4 _ rfl)))))
structure NV{α:Type}(P:Program)(w:World)(e:Expr)(gs:List Comprehension)(nw:Sem Value)(O:Addr->α->HO)(y0:α):Prop where
 cl:clausesOf e=gs
 nw:∀{A:Around} {E:aEe} {s:Shared} {Q:aEe},sysModules<s.heap.objs.size->(∀G:Heap,(∀c o,s.heap.get? c=some o->G.get? c=some o)->G.objs.size=s.heap.objs.size+1->
  (∀H,bO P w H G s.heap.objs.size (O s.heap.objs.size y0))->Q (.ref s.heap.objs.size) {s with heap:=G})->wpAny (model P w) A nw Q E s
 den:∀d it acc env,(model P w).den (.compStart e d it acc env)=(compStart e d it acc env).onRaise (λx=>do noteFrame x env;standAt theWindowsPlace)
 un:∀(A:Around) d it acc env,A.under (.compStart e d it acc env)=A
variable{gs:List Comprehension}
theorem XM{b:Bool}{a:Expr}:NV P w (cmE b a gs scope pos) gs (cmN b) (cmO P w b) []:=
 ⟨by cases b <;> rfl,λ_ h=>TV h,by intros;cases b <;> rfl,by intros;cases b <;> rfl⟩
theorem IS{α:Type}{prog:Program}{e:Expr}{nw:Sem Value}{O:Addr->α->HO}{y0:α}{d:Nat}{g:Comprehension}{it acc:Value}(ok:NV prog w e gs nw O y0)(c:gs[d]? =some g)(f:g.is_async=0)
  (h0:codeAny (model prog w) A (.compLoop e d it acc env) R s)
  (h:wpAny (model prog w) A (pyIter it) (λa b =>codeAny (model prog w) A (.compLoop e d a acc env) R b) (notedBy (model prog w) A env λx b =>R (.error x) b) s):
  codeAny (model prog w) A (.compStart e d it acc env) R s:=by
 refine codeAny_of_tree ?_;rw[ok.den,ok.un];refine wpAny_notedAt ?_;unfold compStart;rw[ok.cl,c];simp only[Option.elim,f,bne_self_eq_false,Bool.false_eq_true,if_false];refine aAz (aDb (wpAny_ite ?_));split
 ·exact aB0 (And.intro rfl h0)
 ·exact aAz (aC5 (aAz (aCv (aAz (aBw h (λa b h' =>aB0 (And.intro rfl h')) λ_ _ x=>x)))))
abbrev NP(α:Type):=α->St->Hp->(α->Hp->Prop)->Prop
abbrev TBd:=NP (List V)
def FE{α:Type}(O:Addr->α->HO)(y0:α)(own:List Str)(aF:List Nat)(wi:TI)(g:TG)(tt:TT)(j:Addr->NP α):TE:=λσ H Q=>wi σ H λJ e=>∀acc,e acc=none->
 ∃W:Nat->Nat->α->Hp->Prop,(∃m,W 0 m y0 (upd e acc (O acc y0)))/\∀i m d H,W i m d H->H acc=some (O acc d)/\
  ((J.stop i H/\Q (.ref acc) H)\/(J.go i H/\∃N:α->Hp->Prop,(∀a H',N a H' ->∃f,f<m/\W (i+1) f a H')/\
   ∀x H',J.NY i H x H' ->g x (n8 own aF σ) H' λc k=>tt c k λb h=>if b=true then j acc d c h N else N d h))
abbrev Y7(P:Program)(w:World)(b:Bool):=FE (cmO P w b) []
def tbE(te:TE)(acc:Addr):TBd:=λa σ H N=>a.length<sizeLine/\te σ H λy b=>b acc=some (.lst a)/\N (a++[y]) (upd b acc (.lst (a++[y])))
def X4(own:List Str)(aF:List Nat)(wi:TI)(g:TG)(tt:TT)(te:TE):TE:=λσ H Q=>∀P w,Y7 P w false own aF wi g tt (tbE te) σ H Q
variable{pins:List (Addr×Obj)}{use:Option (Value->Sem Unit)}
theorem tQ{α:Type}{e:Expr}{nw:Sem Value}{O:Addr->α->HO}{y0:α}{tg iter:Expr}{more:List Comprehension}{wi:TI}{g:TG}{tt:TT}{tb:Addr->NP α}(ce:NV X.prog X.w e (⟨tg,iter,ifs,0⟩::more) nw O y0)(own:List Str)(o1:Nat)(aF:List Nat)(B:Env->Addr->(Shared->Prop)->Shared->Prop)
  (hN:X.N=N) (hsc:X.env.scope=sc) (chk:c9 N sc scope aF=true) (dQ:X.calm=true) (hi:PI X tg iter wi) (ho1:o1<=own.length) (ho:oD o1 g)
  (hg:∀cl C fp s₀ H₀,PG (aL X own aF scope cl C fp s₀ H₀) tg g) (ht:∀cl C fp s₀ H₀,UE (aL X own aF scope cl C fp s₀ H₀) ifs tt)
  (hbody:∀acc cl C fp s₀ H₀ pins s σ H ys NN K,Inv (aL X own aF scope cl C fp s₀ H₀) pins σ H s->(∀j,o1<=j->j<own.length->σ[j]? =some none)->tb acc ys σ H NN->
   (∀D H' s',Inv (aL X own aF scope cl C fp s₀ H₀) pins σ H' s' ->NN D H' ->K s')->B (compEnvC scope cl C X.env) acc K s)
  (hloop:∀(it acc:Addr) (env:Env) (R:Result->Shared->Prop) (I:Nat->Shared->Prop),(∀n s,I n s->wpAny (model X.prog X.w) X.A (pyNext (.ref it)) (λr L=>match r with
   | none=>R (.ok .next) L
   | some v=>wpAny (model X.prog X.w) X.A (letOwnedTupleGo tg (.ref it) v) (λ_ L=>wpAny (model X.prog X.w) X.A (assign tg env v) (λ_ s₂=>
     wpAny (model X.prog X.w) X.A (forIn ifs true λc r=>if r=true then do let ok<-isTrue c env (eval c env);pure (ForInStep.yield ok) else pure (ForInStep.yield r)) (λok s₃=>
      if ok=true then B env acc (λs=>∃m,m<n/\I m s) s₃ else ∃m,m<n/\I m s₃) (λ_ _=>False) s₂) (λ_ _=>False) L) (λ_ _=>False) L) (λ_ _=>False) s)->
   ∀n s,I n s->codeAny (model X.prog X.w) X.A (.compLoop e 0 (.ref it) (.ref acc) env) R s)
  (hs:∀x,foldedSetIterable iter X.env x=pure x)   {σ:St} {H:Hp} {Q:VK}  {Q' :aEe} (I:Inv X pins σ H s) (h:FE O y0 own aF wi g tt tb σ H Q)
  (hend:∀(acc C:Addr) (m:aEg) (H5:Hp) (s6:Shared) (r:Flow),Inv X pins σ H5 s6->H5 C=none->C≠X.env.locals->X.s₀.heap.objs.size<=C->(∀x c,X.env.cells.lookup x=some c->c≠C)->(∀p∈X.pn++pins,p.1≠C)->s6.heap.Ns C m->Q (.ref acc) H5->
   compPost (model X.prog X.w) X.A X.xe use Q' (.ref acc) C (.ok r) s6):
  wpAny (model X.prog X.w) X.A (comprehension e scope X.env (firstIterPos (⟨tg,iter,ifs,0⟩::more) pos) nw (firstAsync (⟨tg,iter,ifs,0⟩::more)) (firstIter (⟨tg,iter,ifs,0⟩::more) X.env) use) Q' X.xe s:=by
 have ck:=BA.of hN hsc chk;have hcl:∀x∈scope.names,x.2= .free->∃c,X.env.cells.lookup x.1=some c:=λx hx hf=>I.ok.has x.1 (ck.fr x hx hf);refine wpAny_comprehension_free (use:=use) (cl:=hC scope.names X.env.cells []) ce.cl hs (sG hcl) ck.kind ck.loc (cA (hi pins s σ H _ I h) λv s1 h1=>cA h1 λitv s2 h2=>?_);obtain⟨it,fp,tn,J,H2,e,I2,T,st2,f2,hW⟩:=h2;subst e;refine ce.nw (by have:=I2.mod.glob.keeps I2.bk;exact aE0 (by decide) this.lt) λG hGk hGs hGo=>rZ (λM S kept hcs=>?_);dsimp only at S kept hcs⊢;have hacc0:H2 s2.heap.objs.size=none:=I2.bD.fresh (aB3 _);obtain⟨W,⟨m0,w0⟩,turn⟩:=hW s2.heap.objs.size hacc0;have f:Inv X pins σ (upd H2 s2.heap.objs.size (O s2.heap.objs.size y0)) {s2 with heap:=G}:=I2.laid (t' :=s2.toks) hGk (aB3 _) (hGo _);generalize hH3:upd H2 s2.heap.objs.size (O s2.heap.objs.size y0)=H3 at f w0
 have Z:∀x c,(hC scope.names X.env.cells []).lookup x=some c->X.env.cells.lookup x=some c:=λx c e=>by
  have:=tS (cells:=X.env.cells) (P:=λx c=>X.env.cells.lookup x=some c) scope.names [] (by simp) (λn hn=>by
   obtain⟨c,hc⟩:=hcl (n,.free) hn rfl;have hc' :X.env.cells.lookup n=some c:=hc
   rw[hc'];rfl) (x,c) (aBo e)
  exact this
 have oldHas:∀x,scope.names.lookup x=some .free->∃c,(hC scope.names X.env.cells []).lookup x=some c:=λx e=>by
  obtain⟨c,hc⟩:=tT (cells:=X.env.cells) scope.names [] x (aBo e);exact bT hc
 have newNo:∀x,scope.names.lookup x=some .free->(cellsFrom (G.objs.size+1) scope.names []).lookup x=none:=λx e=>by
  cases q:(cellsFrom (G.objs.size+1) scope.names []).lookup x with
  | none=>rfl
  | some c=>
   rcases A2 _ _ _ (aBo q) with z | z
   ·cases z
   ·have:=ck.cel _ z rfl;rw[e]at this;cases this
 have oldLt:∀x c,X.env.cells.lookup x=some c->c<G.objs.size:=λx c e=>by obtain⟨v,z⟩:=f.cell x c e;exact z.lt
 generalize U :cellsFrom (G.objs.size+1) scope.names []++hC scope.names X.env.cells []=cl at⊢
 have l:∀x c,cl.lookup x=some c->X.env.cells.lookup x=some c\/(G.objs.size<c/\M.IsCell c none/\(x,c)∈cellsFrom (G.objs.size+1) scope.names []):=λx c e=>by
  rw[<-U,List.lookup_append]at e
  cases q:(cellsFrom (G.objs.size+1) scope.names []).lookup x with
  | none=>rw[q]at e;exact .inl (Z x c (by simpa using e))
  | some c' =>
   rw[q]at e;have e' :c' =c:=by simpa using e
   subst e';have hm:=aBo q;obtain⟨z1,z2⟩:=hcs.empty _ _ hm;exact .inr ⟨z2,z1,hm⟩
 have clHas:∀x,scope.names.lookup x=some .free->∃c,cl.lookup x=some c/\X.env.cells.lookup x=some c:=λx e=>by
  obtain⟨c,hc⟩:=oldHas x e;refine⟨c,?_,Z x c hc⟩;rw[<-U,List.lookup_append,newNo x e,hc];rfl
 have clNew:∀x,scope.names.lookup x=some .cell->∃c,cl.lookup x=some c:=λx e=>by
  obtain⟨c,hc⟩:=vR scope.names (G.objs.size+1) [] (aBo e);exact bT (c:=c) (by rw[<-U];exact aDs _ hc)
 have fpObj:=T.obj _ _ st2;have fpLt:∀b∈fp,b<s2.heap.objs.size:=λb a=>by obtain⟨o,e,_⟩:=fpObj b a;exact aB5 e
 have bD:(aL X own aF scope cl G.objs.size fp {s2 with heap:=G} H3).Ok:=by
  refine⟨f.ok.mod,ck.kind,f.ok.glob,f.ok.blt,aB3 _,λx y c e1 t=>?_,λx hx=>?_,λx c hf e=>?_,f.ok.hd,f.ok.frames,.inl rfl,λb a=>⟨?_,λx c e=>?_⟩,f.bs,aBq f.ok.NM f.sz,λb o e a=>?_,λb a z=>?_,f.stack,f.BS⟩
  ·have two:∀{x c},cl.lookup x=some c->_:=λ{x c} e=>l x c e;rcases two e1 with z1 | ⟨z1,_,m1⟩
   ·rcases two t with z2 | ⟨z2,_,m2⟩
    ·exact f.ok.inj x y c z1 z2
    ·have:=oldLt x c z1;exact absurd this (by lia)
   ·rcases two t with z2 | ⟨z2,_,m2⟩
    ·have:=oldLt y c z2;exact absurd this (by lia)
    ·exact name_of_addr hcs.apart m1 m2
  ·have hx:(relabel scope X.env).names.lookup x=some .cell\/(relabel scope X.env).names.lookup x=some .free:=hx
   have fr:∀{x},scope.names.lookup x=some .free->∃c,cl.lookup x=some c:=λ{x} e=>by
    obtain⟨c,h1,_⟩:=clHas x e;exact⟨c,h1⟩
   rcases hx with q | q
   ·obtain⟨k,hk,z | ⟨z,_⟩⟩:=m6 q
    ·exact clNew x (by rw[hk,<-z])
    ·exact fr (by rw[hk,z])
   ·obtain⟨k,hk,z | ⟨_,z⟩⟩:=m6 q
    ·exact fr (by rw[hk,<-z])
    ·cases z
  ·have hx:scope.names.lookup x=some .cell:=aDq.mp hf;obtain⟨c',hc'⟩:=vR scope.names (G.objs.size+1) [] (aBo hx);obtain⟨c'',hc''⟩:=bT hc';have e:cl.lookup x=some c:=e;rw[<-U,List.lookup_append,hc'']at e;have e' :c'' =c:=by simpa using e
   subst e';exact aCs (hcs.empty _ _ (aBo hc'')).2
  ·exact aB9 (aE0 (fpLt b a) (by show s2.heap.objs.size<G.objs.size;rw[hGs];exact aBy _))
  ·rcases l x c e with z | ⟨z,_⟩
   ·exact(f2 b a).2.2.2.2.1 x c z
   ·exact aCc (aE0 (aE0 (fpLt b a) (by show s2.heap.objs.size<G.objs.size;rw[hGs];exact aBy _)) z)
  ·rcases(f2 b a).2.2.2.1 with z | z
   ·exact f.ok.GL b o e z
   ·exact absurd (aBc (aB5 e) (aBq f.ok.NM z)) (aCj _)
  ·rcases aBa.mp (f.zP b z) with q | q
   ·exact(f2 b a).2.1 q
   ·exact(f2 b a).2.2.1 q
 have hCn:H3 G.objs.size=none:=f.bD.fresh (aB3 _)
 have I4:Inv (aL X own aF scope cl G.objs.size fp {s2 with heap:=G} H3) [] (n8 own aF σ) H3 {s2 with heap:=M}:=by
  refine⟨bD,rfl,f.bare,Un.kept kept,⟨_,S,λi x v e1 t e3=>?_⟩,λx c e=>?_,hCn,λx c e=>?_,λp hp=>absurd hp (by simp[aL]),f.bD.kept kept,by simp[n8,aL]⟩
  ·have hge:own.length<=i:=by
    refine aDp λhlt=>?_;unfold n8 at t;rw[List.getElem?_append_left (by simpa using hlt),List.getElem?_map]at t
    cases q:own[i]? with
    | none=>rw[q]at t;simp at t
    | some z=>rw[q]at t;simp at t
   unfold n8 at t;have V :(own++aF.map λi=>X.N.getD i "")[i]? =some x:=e1;rw[List.getElem?_append_right hge,List.getElem?_map]at V;rw[List.getElem?_append_right (by simpa using hge),List.getElem?_map]at t;simp only[List.length_map]at t
   cases q:aF[i-own.length]? with
   | none=>rw[q]at V;simp at V
   | some k=>
    rw[q]at V t;simp only[Option.map_some,Option.some.injEq]at V t;obtain⟨x',hx',E⟩:=ck.cap k (aB8 q);have ex:x' =x:=by rw[<-V,List.getD_eq_getElem?_getD,hx'];rfl
    subst ex
    have e2' :σ[k]? =some (some v):=by
     cases w:σ[k]? with
     | none=>rw[w]at t;simp at t
     | some z=>rw[w]at t;simp at t;rw[t]
    have kx:=ck.fr _ (aBo E) rfl
    have visX:YN X.env.scope x' :=by
     rcases kx with z | z
     ·exact .inr (.inl z)
     ·exact .inr (.inr z)
    obtain⟨m,hn,hl⟩:=f.loc;obtain⟨u,ru,lk⟩:=hl k x' v hx' e2' visX;refine⟨u,ru,.inr ⟨uK E,?_⟩⟩
    rcases lk with ⟨z,_⟩ | ⟨_,c,hc,hcell⟩
    ·rcases kx with z' | z' <;> (have z'' :=z.symm.trans z';cases z'')
    ·obtain⟨c',hc',this⟩:=clHas x' E;rw[hc]at this;cases this;obtain⟨o,ho,hd⟩:=hcell;exact⟨c,hc',⟨o,kept _ _ ho,hd⟩⟩
  ·rcases l x c e with z | ⟨_,z,_⟩
   ·obtain⟨v,o,ho,hd⟩:=f.cell x c z;exact⟨v,o,kept _ _ ho,hd⟩
   ·exact⟨_,z⟩
  ·rcases l x c e with z | ⟨z,_⟩
   ·exact f.jU x c z
   ·exact f.bD.fresh (aCs z)
 have st4:tn 0 M:=T.keep _ _ _ st2 λb a o e=>kept b o (hGk b o e);have fp4:∀b∈fp,H3 b=none:=λb a=>by rw[<-hH3,aN (Nat.ne_of_lt (fpLt b a))];exact(f2 b a).1
 have stat:∀{H' :Hp},(∀b∈fp,H' b=none)->∀b∈fp,rR (aL X own aF scope cl G.objs.size fp {s2 with heap:=G} H3) [] H' b:=λhn b a=>
  ⟨hn b a,(bD.YH b a).1,bD.IG b a,.inl a,(bD.YH b a).2,λp hp=>absurd hp (by simp[aL])⟩
 have loop:codeAny (model X.prog X.w) X.A (.compLoop e 0 (.ref it) (.ref s2.heap.objs.size) (compEnvC scope cl G.objs.size X.env))
   (compPost (model X.prog X.w) X.A X.xe use Q' (.ref s2.heap.objs.size) G.objs.size) {s2 with heap:=M}:=by
  refine hloop _ _ _ _ (λn s' =>∃i ys H',Inv (aL X own aF scope cl G.objs.size fp {s2 with heap:=G} H3) [] (n8 own aF σ) H' s' /\tn i s'.heap/\(∀b∈fp,H' b=none)/\W i n ys H') ?_ m0 _ ⟨0,y0,H3,I4,st4,fp4,w0⟩;rintro n s5 ⟨i,ys,H5,I5,st5,fr5,w5⟩;obtain⟨hacc,turn5⟩:=turn i n ys H5 w5
  rcases turn5 with ⟨stop,q⟩ | ⟨go,NN,hNN,step⟩
  ·refine cA (T.done (aL X own aF scope cl G.objs.size fp {s2 with heap:=G} H3) rfl rfl rfl dQ i [] s5 _ H5 (λ_ _=>False) I5 (stat fr5) st5 stop) λr s6 zz0=>?_;obtain⟨hr,I6⟩:=zz0;subst hr;obtain⟨m,hm,_⟩:=id I6.loc
   have I7:Inv X pins σ H5 s6:=f.XN (ch:=fp) I6.os I6.base I6.bD I6.bare λb a=>⟨(f2 b a).2.2.2.1,(f2 b a).2.1,λx c e=>(f2 b a).2.2.2.2.1 x c e,λp hp=>(f2 b a).2.2.2.2.2 p hp⟩
   exact hend _ _ m H5 s6 _ I7 I6.free (aCc (by have:=f.lt;exact this)) f.sz (λx c e=>by obtain⟨v,z⟩:=f.cell x c e;exact aB9 z.lt) (λp hp=>aB9 (aB5 (f.pin p hp).1)) hm q
  ·refine cA (T.item (aL X own aF scope cl G.objs.size fp {s2 with heap:=G} H3) rfl rfl rfl dQ i [] s5 _ H5 (λ_ _=>False) I5 (stat fr5) st5 go) λr s6 zz1=>?_;obtain⟨u,hr,h6⟩:=zz1;subst hr;refine cA h6 λ_ s7 zz2=>?_;obtain⟨x,H7,I7,r7,y7,st7,fr7⟩:=zz2;have I7' :=I7.pinned (stat fr7) (T.obj _ _ st7);refine cA (hg _ _ _ _ _ _ s7 _ H7 x u _ I7' r7 (ho _ _ _ _ (step x H7 y7))) λ_ s8 zz3=>?_;obtain⟨σ8,H8,I8,q8,l8,k8⟩:=zz3;refine cA (ht _ _ _ _ _ _ s8 σ8 H8 _ I8 q8) λok s9 zz4=>?_;obtain⟨H9,I9,q9⟩:=zz4
   have again:∀{D:α} {F:Hp} {Y:Shared},Inv (aL X own aF scope cl G.objs.size fp {s2 with heap:=G} H3) ([]++qN fp s7.heap) σ8 F Y->NN D F->
     ∃m,m<n/\∃i ys H',Inv (aL X own aF scope cl G.objs.size fp {s2 with heap:=G} H3) [] (n8 own aF σ) H' Y/\tn i Y.heap/\(∀b∈fp,H' b=none)/\W i m ys H' :=λ{D F Y} I10 n10=>by
    obtain⟨m',hm,w10⟩:=hNN D F n10
    have I10' :Inv (aL X own aF scope cl G.objs.size fp {s2 with heap:=G} H3) ([]:List (Addr×Obj)) (n8 own aF σ) F Y:=I10.mV.weak l8.symm λj v e=>by
     have hge:own.length<=j:=by
      refine aDp λhlt=>?_;unfold n8 at e;rw[List.getElem?_append_left (by simpa using hlt),List.getElem?_map]at e
      cases q:own[j]? with
      | none=>rw[q]at e;simp at e
      | some z=>rw[q]at e;simp at e
     rw[k8 j (Nat.le_trans ho1 hge)];exact e
    refine⟨m',hm,i+1,D,F,I10',T.keep _ _ _ st7 λb a o e=>(I10.pin (b,o) (aBs _ (aBs _ (iH a e)))).1,λb a=>?_,w10⟩;obtain⟨o,e,d⟩:=T.obj _ _ st7 b a;exact(I10.pin (b,o) (aBs _ (aBs _ (iH a e)))).2.1
   cases ok with
   | false=>exact again I9 q9
   | true=>
    rw[if_pos rfl];refine hbody _ _ _ _ _ _ _ s9 σ8 H9 ys NN _ I9 (λj hj1 hj2=>?_) q9 λD F Y I10 q10=>again I10 q10;rw[k8 j hj1];unfold n8;rw[List.getElem?_append_left (by simpa using hj2),List.getElem?_map];simp[hj2]
 exact IS ce (g:=⟨tg,iter,ifs,0⟩) rfl rfl loop (T.self _ 0 _ _ _ st4 loop)
theorem yU{σ:St}{Q:VK}(acc C:Addr)(m:aEg)(a:Hp)(d:Shared)(r:Flow)(f:Inv X pins σ a d)(g:a C=none)(h:C≠X.env.locals)(i:X.s₀.heap.objs.size<=C)(j:∀x c,X.env.cells.lookup x=some c->c≠C)(k:∀p∈X.pn++pins,p.1≠C)(l:d.heap.Ns C m)(q:Q (.ref acc) a):
  compPost (model X.prog X.w) X.A X.xe none (EP X pins σ Q) (.ref acc) C (.ok r) d:=
 ⟨m,l,λh' n=>⟨.ref acc,a,f.turned (t' :=d.toks) (it:=C) (λb o s e=>n.extBut b o s e) g h (.inr i) j k,rfl,q⟩⟩
section
variable {X:Cx}{tg iter elt:Expr}{ifs:List Expr}{scope sc:Scope}{N:List Str}{pos:Pos}{wi:TI}{g:TG}{tt:TT}{te:TE}(own:List Str)(aF:List Nat)
  (hN:X.N=N) (hsc:X.env.scope=sc) (chk:c9 N sc scope aF=true) (dQ:X.calm=true) (hi:PI X tg iter wi) (ho:oD own.length g)
  (hg:∀cl C fp s₀ H₀,PG (aL X own aF scope cl C fp s₀ H₀) tg g) (ht:∀cl C fp s₀ H₀,UE (aL X own aF scope cl C fp s₀ H₀) ifs tt)
  (he:∀cl C fp s₀ H₀,PE (aL X own aF scope cl C fp s₀ H₀) elt te)
include hN hsc chk dQ hi ho hg ht he
theorem CH(hs:∀x,foldedSetIterable iter X.env x=pure x){σ:St}{H:Hp}{Q:VK}{E :aEe}(I:Inv X pins σ H s)(h:X4 own aF wi g tt te σ H Q)
  (d:∀(acc C:Addr) (m:aEg) (f:Hp) (i:Shared) (r:Flow),Inv X pins σ f i->f C=none->C≠X.env.locals->X.s₀.heap.objs.size<=C->(∀x c,X.env.cells.lookup x=some c->c≠C)->(∀p∈X.pn++pins,p.1≠C)->i.heap.Ns C m->Q (.ref acc) f->
   compPost (model X.prog X.w) X.A X.xe use E (.ref acc) C (.ok r) i):
  wpAny (model X.prog X.w) X.A (comprehension (.ListComp elt [⟨tg,iter,ifs,0⟩] scope pos) scope X.env (firstIterPos [⟨tg,iter,ifs,0⟩] pos) (newList []) (firstAsync [⟨tg,iter,ifs,0⟩]) (firstIter [⟨tg,iter,ifs,0⟩] X.env) use) E X.xe s:=by
 refine tQ (XM (b:=false)) own own.length aF (λenv acc K s=>wpAny (model X.prog X.w) X.A (eval elt env) (λx F=>wpAny (model X.prog X.w) X.A (call (.builtin "list.append") [.ref acc,x]) (λ_ G=>K G) (λ_ _=>False) F) (λ_ _=>False) s)
  hN hsc chk dQ hi (aB3 _) ho hg ht (λacc cl C fp s₀ H₀ pins s σ H J L K M _ q k=>?_) (λit acc env R I e n s h=>yV I e n h) hs I (h _ _) d
 refine cA (he _ _ _ _ _ _ s σ H _ M q.2) λN j l=>?_;obtain⟨y,o,t,O,a,u⟩:=l;refine cA (sZ _ j σ o (.ref acc) [y] (.ref acc) [N] (λv H' =>v= .bF/\L (J++[y]) H') t rfl (.cons O .nil) ⟨_,_,_,rfl,rfl,a,q.1,rfl,u⟩) λ_ P z=>?_;obtain⟨_,S,B,_,_,D⟩:=z;exact k _ _ _ B D
theorem VT(hs:∀x,foldedSetIterable iter X.env x=pure x:=by intro _;rfl):PE X (.ListComp elt [⟨tg,iter,ifs,0⟩] scope pos) (X4 own aF wi g tt te):=by
 intro pins s σ H Q I h;rw[eval_ListComp];exact CH own aF hN hsc chk dQ hi ho hg ht he hs I h yU
end
theorem FX{tg iter f:Expr}{pos d j:Pos}{wi:TI}{g:TG}{tt:TT}{te:TE}{x:Str}(own:List Str)(aF:List Nat)
  (hN:X.N=N) (hsc:X.env.scope=sc) (chk:c9 N sc scope aF=true) (dQ:X.calm=true) (hi:PI X tg iter wi) (ho:oD own.length g)
  (hg:∀cl C fp s₀ H₀,PG (aL X own aF scope cl C fp s₀ H₀) tg g) (ht:∀cl C fp s₀ H₀,UE (aL X own aF scope cl C fp s₀ H₀) ifs tt)
  (he:∀cl C fp s₀ H₀,PE (aL X own aF scope cl C fp s₀ H₀) f te)
  (nd:X.N.Nodup) (k:X.N[i]? =some x) (w:Loc X.env.scope x) (y:swapsWith (.ListComp f [⟨tg,iter,ifs,0⟩] scope pos) (some (.Name x d)) j.line X.env=pure true)
  (A:X.fn x=true\/X.env.scope.names.lookup x=some .local) (hs:∀x,foldedSetIterable iter X.env x=pure x:=by intro _;rfl):
  PS X (.Assign [.Name x d] (.ListComp f [⟨tg,iter,ifs,0⟩] scope pos) j) (J6 (X4 own aF wi g tt te) (oR i)):=by
 intro pins s σ H D I h;rw[arm_exec_Assign];refine aAz (aCv (aAz (aE7 (show swapsWithSole [.Name x d] _ j.line X.env=pure true from y) ?_)));rw[if_pos rfl];refine aAz (aAz (CH (Q:=λv B=>D.nx (σ.set i (some v)) B) own aF hN hsc chk dQ hi ho hg ht he hs I h λacc C m E S r F G t J u K L q=>?_));show wpAny _ _ (assign (.Name x d) X.env (.ref acc)) _ _ _;refine PyProof.Rows.assign_Name (sR F nd k w (v:= .ref acc) rfl (λM O l=>?_) A);obtain⟨a,P,ha⟩:=l
 have n:C≠a:=by
  rcases ha with rfl | ha
  ·exact t
  ·exact λz=>u x a ha z.symm
 refine⟨m,?_,λh' p=>aB0 (aB0 ⟨_,E,?_,q⟩)⟩
 ·obtain⟨o,es,ep,e,c⟩:=L;exact⟨o,es,ep,(P.2 C n).trans e,c⟩
 ·exact O.turned (t' :=M.toks) (it:=C) (λb o R e=>p.extBut b o R e) G t (.inr J) u K
structure Src where
 it:Addr
 l:Addr
 tup:Bool
def Src.At(q:Src)(h:Heap)(i:Nat):Prop:=match q.tup with | true=>h.IsTupleIter q.it q.l i | false=>h.IsListIter q.it q.l i
def Src.Sq(q:Src)(h:Heap)(a:Array Value):Prop:=match q.tup with | true=>h.IsTuple q.l a | false=>h.IsList q.l a
variable{q:Src}{h':Heap}
theorem Src.At.to(x:q.At h i)(e:∀o,h.get? q.it=some o->h'.get? q.it=some o):q.At h' i:=by
 obtain⟨it,l,t⟩:=q;cases t <;> (obtain⟨o,ho,r⟩:=x;exact⟨o,e o ho,r⟩)
theorem Src.At.obj(x:q.At h i):∃o,h.get? q.it=some o/\o.data= .fields #[.ref q.l,.int i 0]:=by
 obtain⟨it,l,t⟩:=q;cases t <;> (obtain⟨o,ho,_,r⟩:=x;exact⟨o,ho,r⟩)
variable{items:Array Value}
theorem Src.Sq.to(x:q.Sq h items)(e:∀o,h.get? q.l=some o->h'.get? q.l=some o):q.Sq h' items:=by
 obtain⟨it,l,t⟩:=q;cases t <;> (obtain⟨o,ho,r⟩:=x;exact⟨o,e o ho,r⟩)
theorem Src.Sq.obj(x:q.Sq h items):∃o n,h.get? q.l=some o/\o.data= .seq items n:=by
 obtain⟨it,l,t⟩:=q;cases t <;> (obtain⟨o,ho,_,n,r⟩:=x;exact⟨o,n,ho,r⟩)
section
variable {prog:Program}{w:World}{A:Around}{E:aEe}{s:Shared}
theorem pA{it l:Addr}{x:Value}(c:s.heap.IsTupleIter it l i)(g:s.heap.IsTuple l items)(h:items[i]? =some x)
  (j:∀h',h'.IsTupleIter it l (i+1)->Heap.SameBut it s.heap h' ->Q x {s with heap:=h'}):wpAny (model prog w) A (Builtin.SmallTypes.nextOf (.ref it)) Q E s:=by
 obtain⟨k,b,d,a⟩:=id c;obtain⟨os,e,_,ns,f⟩:=g;unfold Builtin.SmallTypes.nextOf;refine aAz (aBg (name:=Str.ofString "__next__") c.typeIs aCn (aBb aCn c.typeIs F.entry_tuple_iterator_next ?_ (F.args_tuple_iterator_next_1 _)));refine aAz (m:=field (.ref it) 0) (aBv b a (x:= .ref l) rfl ?_);show wpAny _ _ (if (Value.ref l==Value.none)=true then _ else field (.ref it) 1 >>=_) _ _ s;rw[if_neg (show ¬((Value.ref l==Value.none)=true) from Bool.false_ne_true)];refine aAz (aBv b a (x:= .int i 0) rfl ?_);refine aAz (m:=seqItems? (.ref l)) (aCe e f ?_);simp only[Int.toNat_natCast,h];refine aAz (aE2 b a (by simp) (aB0 ⟨x,rfl,aB0 (j _ ⟨_,aCo _ b (Obj.isFreed_of_fields (Obj.data_mapFields a _)),(Obj.cls_mapFields ..).trans d,?_⟩ (aBp ..))⟩));rw[Obj.data_mapFields a];simp[rawInt]
theorem qP{it l:Addr}(h:A.handled=none)(b:s.heap.IsTupleIter it l i)(j:s.heap.IsTuple l items)(k:items[i]? =none)
  (n:∀h' e,Heap.ExtBut it s.heap h' ->(∃o,h'.get? e=some o/\o.cls= .type "StopIteration")->E (.ref e) {s with heap:=h'}):wpAny (model prog w) A (Builtin.SmallTypes.nextOf (.ref it)) Q E s:=by
 obtain⟨q,c,p,d⟩:=id b;obtain⟨os,f,_,ns,g⟩:=j;unfold Builtin.SmallTypes.nextOf;refine aAz (aBg (name:=Str.ofString "__next__") b.typeIs aCn (aBb aCn b.typeIs F.entry_tuple_iterator_next ?_ (F.args_tuple_iterator_next_1 _)));refine aAz (m:=field (.ref it) 0) (aBv c d (x:= .ref l) rfl ?_);show wpAny _ _ (if (Value.ref l==Value.none)=true then _ else field (.ref it) 1 >>=_) _ _ s;rw[if_neg (show ¬((Value.ref l==Value.none)=true) from Bool.false_ne_true)];refine aAz (aBv c d (x:= .int i 0) rfl ?_);refine aAz (m:=seqItems? (.ref l)) (aCe f g ?_);simp only[Int.toNat_natCast,k];refine aAz (aC5 (aAz (aE2 c d (by simp) ?_)));refine aAz (m:=newExc (.type "StopIteration") []) ?_;simp only[newExc,newTuple];refine aAz (aBi ?_ (by size_fits));refine aAz (m:=firstArgMember _ _) (aE7 (a:=Value.none) (by first | rfl | (simp only[firstArgMember];rfl)) ?_);refine aBi (?_:_) (by size_fits);simp only[raiseNew];refine aAz (wpAny_handled (?_:_))
 first | rw[show A.in1.handled=none from h] | rw[h]
 refine aAz (aB0 (wpAny_throw (?_:_)));exact n _ _ (((aBp ..).extBut.push _).push _) ⟨_,aB4 _ rfl,rfl⟩
theorem Src.item{x:Value}(a:q.At s.heap i)(b:q.Sq s.heap items)(c:items[i]? =some x)
  (d:∀h',q.At h' (i+1)->Heap.SameBut q.it s.heap h' ->Q x {s with heap:=h'}):wpAny (model prog w) A (Builtin.SmallTypes.nextOf (.ref q.it)) Q E s:=by
 obtain⟨it,l,t⟩:=q;cases t
 ·exact wpAny_nextOf_list_item a b c d
 ·exact pA a b c d
theorem Src.done(b:A.handled=none)(a:q.At s.heap i)(c:q.Sq s.heap items)(d:items[i]? =none)
  (f:∀h' e,Heap.ExtBut q.it s.heap h' ->(∃o,h'.get? e=some o/\o.cls= .type "StopIteration")->E (.ref e) {s with heap:=h'}):wpAny (model prog w) A (Builtin.SmallTypes.nextOf (.ref q.it)) Q E s:=by
 obtain⟨it,l,t⟩:=q;cases t
 ·exact wpAny_nextOf_list_end b a c d f
 ·exact qP b a c d f
theorem Src.start(a:q.Sq s.heap items)
  (c:∀h',(⟨s.heap.objs.size,q.l,q.tup⟩:Src).At h' 0->h'.objs.size=s.heap.objs.size+1->(∀b o,s.heap.get? b=some o->h'.get? b=some o)->Q (.ref s.heap.objs.size) {s with heap:=h'}):wpAny (model prog w) A (pyIter (.ref q.l)) Q E s:=by
 obtain⟨it,l,t⟩:=q;cases t
 ·exact wpAny_pyIter_list a (c _ ⟨_,aB4 _ rfl,rfl,rfl⟩ (aCw ..) λb o e=>aB1 _ e)
 ·exact aE3 a (c _ ⟨_,aB4 _ rfl,rfl,rfl⟩ (aCw ..) λb o e=>aB1 _ e)
structure iV(h:Heap)(z TI TO:Addr)(qs:List Src)(f0:Value)(i:Nat):Prop where
 obj:h.get? z=some {cls:= .type "zip",dict:=none,data:= .fields #[f0,.bool false,.bool false,.ref TI,.ref TO],slots:= #[]}
 aH:∃n,h.get? TI=some {cls:= .type "tuple",data:= .seq (qs.map λq=>Value.ref q.it).toArray n}
 own:∃(xs:List Value) (n:Nat),xs.length=qs.length/\h.get? TO=some {cls:= .type "tuple",data:= .seq xs.toArray n}
 at_:∀q∈qs,q.At h i
structure mC(z TI TO:Addr)(qs:List Src):Prop where
 ne1:TI≠z
 ne2:TO≠z
 ne3:TI≠TO
 HE:∀q∈qs,q.it≠z/\q.it≠TI/\q.it≠TO
 nd:(qs.map (·.it)).Nodup
 src:∀q∈qs,q.l≠z/\q.l≠TO/\∀r∈qs,q.l≠r.it
end
section
variable {prog:Program}{w:World}{A:Around}{E:aEe}{s:Shared}
structure C6(h0 h:Heap)(z TI TO:Addr)(qs:List Src)(vals:List Value)(i j:Nat):Prop where
 obj:h.get? z=some {cls:= .type "zip",dict:=none,data:= .fields #[.ellipsis,.bool false,.bool false,.ref TI,.ref TO],slots:= #[]}
 own:∃(xs:List Value) (n:Nat),xs.length=qs.length/\xs.take j=vals.take j/\h.get? TO=some {cls:= .type "tuple",data:= .seq xs.toArray n}
 done:∀q∈qs.take j,q.At h (i+1)
 todo:∀q∈qs.drop j,q.At h i
 size:h.objs.size=h0.objs.size
 keep:∀c o,c≠z->c≠TO->(∀q∈qs,c≠q.it)->h0.get? c=some o->h.get? c=some o
theorem EY{z TI TO:Addr}{qs:List Src}{vals:List Value}(D:mC z TI TO qs)(Z:iV s.heap z TI TO qs .none i)(G:qs≠[])
  (hv:vals.length=qs.length) (C:∀(k:Nat) q x,qs[k]? =some q->vals[k]? =some x->∃items,q.Sq s.heap items/\items[i]? =some x) (hsz:qs.length<=sizeLine)
  (hQ:∀h',iV h' z TI TO qs (rawInt s.heap.objs.size) (i+1)->h'.get? s.heap.objs.size=some {cls:= .type "tuple",data:= .seq vals.toArray}->h'.objs.size=s.heap.objs.size+1->
   (∀c o,c≠z->c≠TO->(∀q∈qs,c≠q.it)->s.heap.get? c=some o->h'.get? c=some o)->Q (.ref s.heap.objs.size) {s with heap:=h'}):
  wpAny (model prog w) A (Builtin.«zip.__next__» ⟨[.ref z],[]⟩) (λfin s' =>∃v,fin= .done (.ret v)/\Q v s') E s:=by
 obtain⟨nI,O⟩:=Z.aH;obtain⟨xs0,n0,hx0,hTO⟩:=Z.own;refine aAz (m:=field (.ref z) 2) (aBv Z.obj rfl (x:= .bool false) rfl ?_);refine aAz (m:=field (.ref z) 3) (aBv Z.obj rfl (x:= .ref TI) rfl ?_);refine aAz (m:=seqItems? (.ref TI)) (aCe O rfl ?_)
 have P:(qs.map λq=>Value.ref q.it).toArray.isEmpty=false:=by cases qs with | nil=>exact absurd rfl G | cons a r=>rfl
 simp only[P];refine aAz (m:=Builtin.SmallTypes.ownedTupleIsFree (.ref z)) ?_;refine aAz (m:=field (.ref z) 0) (aBv Z.obj rfl (x:= .none) rfl (aB0 ?_));simp only[if_true];refine aAz (aC5 ?_);refine aAz (aBv Z.obj rfl (x:= .ref TO) rfl ?_);refine aAz (aBh Z.obj (by simp) λh1 z1 t=>?_);refine aAz ?_;refine wpAny_forIn_list _ (λF b s' =>b.1=none/\∃j h',s' ={s with heap:=h'}/\F=((qs.map λq=>Value.ref q.it).zipIdx).drop j/\j<=qs.length/\C6 s.heap h' z TI TO qs vals i j) _ ?turn ?fin _ _ ?start
 case start=>
  refine⟨rfl,0,h1,rfl,by simp,aCa _,?_⟩;refine⟨z1,⟨xs0,n0,hx0,by simp,t.extBut _ _ D.ne2 hTO⟩,by simp,λq C=>?_,t.1,λc o f _ _ e=>t.extBut _ _ f e⟩;have R :q∈qs:=by simpa using C
  exact(Z.at_ q R).to λo e=>t.extBut _ _ (D.HE q R).1 e
 case turn=>
  rintro x F b s5 ⟨hb,j,h',rfl,hd,hj,d⟩
  have g:j<qs.length:=by
   refine Nat.lt_of_not_le λhle=>?_;rw[List.drop_eq_nil_of_le (by simpa using hle)]at hd;cases hd
  have S :=hd;rw[List.drop_eq_getElem_cons (by simpa using g)]at S;injection S with ex er;have T:x=(Value.ref qs[j].it,j):=by rw[ex];simp
  have h:qs[j]? =some qs[j]:=aBr g;have H:vals[j]? =some vals[j]:=aBr (by lia);generalize hqq:qs[j]=q at h T;generalize hvv:vals[j]'(by lia)=v at H;subst T;have I:q∈qs:=aB8 h;obtain⟨items,hSq,hit⟩:=C j q v h H;obtain⟨l1,l2,l3⟩:=D.src q I;have U :q.Sq h' items:=hSq.to λo e=>d.keep _ o l1 l2 l3 e;have hAt:q.At h' i:=d.todo q (by rw[List.drop_eq_getElem_cons g,hqq];exact aB6);refine aAz (wpAny_onRaise ?_);show wpAny _ _ (Builtin.SmallTypes.nextOf (.ref q.it) >>=_) _ _ _;refine aAz (Src.item (s:={s with heap:=h'}) hAt U hit λh2 at2 J=>aB0 ?_);obtain⟨xs,n,u,y,hO⟩:=d.own;have K:=D.HE q I;have L:h2.get? TO=some {cls:= .type "tuple",data:= .seq xs.toArray n}:=J.extBut _ _ (aC1 K.2.2) hO;refine aAz (m:=seqItems? (.ref TO)) (aCe L rfl ?_);refine aAz (aDw L rfl ?_);refine aAz (wpAny_letGo (aB0 ?_))
  have l:∀(k:Nat) p,qs[k]? =some p->k≠j->p.it≠q.it:=λk p hk G e=>by
   have h1:(qs.map (·.it))[k]? =some q.it:=by rw[List.getElem?_map,hk];simp[e]
   have h2:(qs.map (·.it))[j]? =some q.it:=by rw[List.getElem?_map,h];rfl
   obtain⟨a1,b1⟩:=aB2.mp h1;obtain⟨a2,b2⟩:=aB2.mp h2;refine G ?_;have pw:=aCb.mp D.nd;rcases aCi k j with hlt | heq | hlt
   ·exact absurd (b1.trans b2.symm) (pw k j a1 a2 hlt)
   ·exact heq
   ·exact absurd (b2.trans b1.symm) (pw j k a2 a1 hlt)
  have M:∀c o,c≠TO->c≠q.it->h'.get? c=some o->(h2.update TO (Obj.mapSeq λx=>x.setIfInBounds j v)).get? c=some o:=λc o f N e=>(aBp ..).extBut _ _ f (J.extBut _ _ N e);refine⟨rfl,j+1,_,rfl,er,g,⟨M _ _ (aC1 D.ne2) (aC1 K.1) d.obj,⟨xs.set j v,n,by simpa using u,?_,?_⟩,λp V=>?_,λp V=>?_,?_,λc o f N c3 e=>M c o N (c3 q I) (d.keep c o f N c3 e)⟩⟩
  ·have W :vals[j]? =some v:=H;have hjx:j<xs.length:=by lia
   rw[List.take_add_one,List.take_add_one,W,List.getElem?_set_self hjx,List.take_set_of_le (Nat.le_refl j),y]
  ·rw[Heap.get?_update_self _ L (by rfl)];simp[Obj.mapSeq]
  ·rw[List.take_add_one,h]at V;rcases aBn.mp V with z | z
   ·obtain⟨k,hk⟩:=aDa z
    have hkj:k<j:=by
     have:=(aB2.mp hk).1;rw[List.length_take]at this;lia
    rw[List.getElem?_take_of_lt hkj]at hk;exact(d.done p z).to λo e=>M _ o (D.HE p (aB8 hk)).2.2 (l k p hk (by lia)) e
   ·have:p=q:=by simpa using z
    subst this;exact at2.to λo e=>(aBp ..).extBut _ _ K.2.2 e
  ·obtain⟨k,hk⟩:=aDa V;rw[List.getElem?_drop]at hk;have hp' :p∈qs.drop j:=by rw[List.drop_eq_getElem_cons g];exact aB7 _ V
   exact(d.todo p hp').to λo e=>M _ o (D.HE p (aB8 hk)).2.2 (l _ p hk (by lia)) e
  ·rw[Heap.size_update,J.1];exact d.size
 case fin=>
  rintro⟨b1,b2⟩ s5 ⟨hb,j,h',rfl,hd,hj,d⟩
  have hje:j=qs.length:=by
   have:=aC0 List.length hd;simp at this
   lia
  subst hje;have hb' :b1=none:=hb;subst hb';obtain⟨xs,n,u,y,hO⟩:=d.own
  have hxv:xs=vals:=by
   rw[List.take_of_length_le (by lia),List.take_of_length_le (by lia)]at y;exact y
  subst hxv;refine aAz (m:=seqItems? (.ref TO)) (aCe hO rfl ?_);refine aAz (aD8 ?_ (by simpa using aBq (Nat.le_of_eq u) hsz));refine aAz (m:=Builtin.SmallTypes.ownedTupleHandOut (.ref z) (.ref h'.objs.size)) ?_;have z5:(h'.push {cls:= .type "tuple",data:= .seq xs.toArray}).get? z=some {cls:= .type "zip",dict:=none,data:= .fields #[.ellipsis,.bool false,.bool false,.ref TI,.ref TO],slots:= #[]}:=aB1 _ d.obj;refine aAz (aBh z5 (by simp) λh7 z7 X=>?_);refine aBh z7 (by simp) λh8 z8 Y=>aB0 ⟨_,rfl,?_⟩;have zlt:z<h'.objs.size:=aB5 d.obj;have M:∀c o,c≠z->(h'.push {cls:= .type "tuple",data:= .seq xs.toArray}).get? c=some o->h8.get? c=some o:=λc o f e=>Y.extBut _ _ f (X.extBut _ _ f e);have B:∀c o,c≠z->h'.get? c=some o->h8.get? c=some o:=λc o f e=>M c o f (aB1 _ e);show Q (.ref h'.objs.size) _;have hs:=d.size;rw[hs];refine hQ h8 ⟨?_,⟨nI,?_⟩,⟨xs,n,u,B _ _ D.ne2 hO⟩,λq C=>?_⟩ ?_ ?_ λc o f N c3 e=>B c o f (d.keep c o f N c3 e)
  ·rw[z8,hs];rfl
  ·exact B _ _ D.ne1 (d.keep _ _ D.ne1 D.ne3 (λq C=>aC1 (D.HE q C).2.1) O)
  ·exact(d.done q (by rw[List.take_length];exact C)).to λo e=>B _ o (D.HE q C).1 e
  ·rw[<-hs];exact M _ _ (aCc zlt) (aB4 _ rfl)
  ·rw[Y.1,X.1,Heap.size_push,hs]
end
section
variable {prog:Program}{w:World}{A:Around}{E:aEe}{s:Shared}
variable{qs:List Src}
theorem JR{z TI TO:Addr}{i k:Nat}{Q:PySem.Fin->Shared->Prop}(hh:A.handled=none)(D:mC z TI TO qs)(Z:iV s.heap z TI TO qs .none i)
  (Y:∀(j:Nat) q,qs[j]? =some q->j<k->∃items x,q.Sq s.heap items/\items[i]? =some x) (hk:∃q items,qs[k]? =some q/\q.Sq s.heap items/\items[i]? =none) (hsz:qs.length<=sizeLine)
  (hE:∀h' e,(∀c o,c≠z->c≠TO->(∀q∈qs,c≠q.it)->s.heap.get? c=some o->h'.get? c=some o)->(∃o,h'.get? e=some o/\o.cls= .type "StopIteration")->E (.ref e) {s with heap:=h'}):
  wpAny (model prog w) A (Builtin.«zip.__next__» ⟨[.ref z],[]⟩) Q E s:=by
 obtain⟨nI,hTI⟩:=Z.aH;obtain⟨K,n0,hx0,hTO⟩:=Z.own;obtain⟨qk,W,L,hSk,hik⟩:=hk;have hkl:k<qs.length:=(aB2.mp L).1;refine aAz (m:=field (.ref z) 2) (aBv Z.obj rfl (x:= .bool false) rfl ?_);refine aAz (m:=field (.ref z) 3) (aBv Z.obj rfl (x:= .ref TI) rfl ?_);refine aAz (m:=seqItems? (.ref TI)) (aCe hTI rfl ?_)
 have M:(qs.map λq=>Value.ref q.it).toArray.isEmpty=false:=by cases qs with | nil=>simp at hkl | cons a r=>rfl
 simp only[M];refine aAz (m:=Builtin.SmallTypes.ownedTupleIsFree (.ref z)) ?_;refine aAz (m:=field (.ref z) 0) (aBv Z.obj rfl (x:= .none) rfl (aB0 ?_));simp only[if_true];refine aAz (aC5 ?_);refine aAz (aBv Z.obj rfl (x:= .ref TO) rfl ?_);refine aAz (aBh Z.obj (by simp) λh1 z1 t=>?_);refine aAz ?_;refine wpAny_forIn_list _ (λC b s' =>∃j h' vals,s' ={s with heap:=h'}/\C=((qs.map λq=>Value.ref q.it).zipIdx).drop j/\j<=k/\C6 s.heap h' z TI TO qs vals i j) _ ?turn ?fin _ _ ?start
 case start=>
  refine⟨0,h1,K,rfl,by simp,aCa _,?_⟩;refine⟨z1,⟨K,n0,hx0,by simp,t.extBut _ _ D.ne2 hTO⟩,by simp,λq Y=>?_,t.1,λc o F _ _ e=>t.extBut _ _ F e⟩;have N :q∈qs:=by simpa using Y
  exact(Z.at_ q N).to λo e=>t.extBut _ _ (D.HE q N).1 e
 case fin=>
  rintro b s5 ⟨j,h',vals,rfl,hd,hj,g⟩;have:=aC0 List.length hd;simp at this
  lia
 case turn=>
  rintro x C b s5 ⟨j,h',vals,rfl,hd,hj,g⟩;have u:j<qs.length:=by lia
  have O :=hd;rw[List.drop_eq_getElem_cons (by simpa using u)]at O;injection O with ex er;have P:x=(Value.ref qs[j].it,j):=by rw[ex];simp
  have d:qs[j]? =some qs[j]:=aBr u;generalize hqq:qs[j]=q at d P;subst P;have y:q∈qs:=aB8 d;have B:=D.HE q y;obtain⟨l1,l2,l3⟩:=D.src q y;have R:q.At h' i:=g.todo q (by rw[List.drop_eq_getElem_cons u,hqq];exact aB6);refine aAz (wpAny_onRaise ?_);show wpAny _ _ (Builtin.SmallTypes.nextOf (.ref q.it) >>=_) _ _ _;by_cases hjk:j=k
  ·subst hjk;obtain rfl:qk=q:=(aBl (d.symm.trans L)).symm;have h :=hSk.to (h' :=h') λo e=>g.keep _ o l1 l2 l3 e;refine aAz (Src.done (s:={s with heap:=h'}) hh R h hik λI e f he=>?_);obtain⟨oe,G,S⟩:=he;have z2:I.get? z=some {cls:= .type "zip",dict:=none,data:= .fields #[.ellipsis,.bool false,.bool false,.ref TI,.ref TO],slots:= #[]}:=f _ _ (aC1 B.1) g.obj;have hez:e≠z:=λx=>by subst x;rw[z2]at G;cases G;simp at S
   refine aBh z2 (by simp) λh3 _ T=>hE h3 e (λc o F J U q' =>T.extBut _ _ F (f _ _ (U _ y) (g.keep c o F J U q'))) ⟨oe,T.extBut _ _ hez G,S⟩
  ·obtain⟨items,v,hSq,hit⟩:=Y j q d (by lia);have h :q.Sq h' items:=hSq.to λo e=>g.keep _ o l1 l2 l3 e;refine aAz (Src.item (s:={s with heap:=h'}) R h hit λI at2 f=>aB0 ?_);obtain⟨xs,n,hxl,hxt,hO⟩:=g.own;have H:I.get? TO=some {cls:= .type "tuple",data:= .seq xs.toArray n}:=f.extBut _ _ (aC1 B.2.2) hO;refine aAz (m:=seqItems? (.ref TO)) (aCe H rfl ?_);refine aAz (aDw H rfl ?_);refine aAz (wpAny_letGo (aB0 ?_))
   have l:∀(k:Nat) p,qs[k]? =some p->k≠j->p.it≠q.it:=λk p hk hne e=>by
    have h1:(qs.map (·.it))[k]? =some q.it:=by rw[List.getElem?_map,hk];simp[e]
    have I:(qs.map (·.it))[j]? =some q.it:=by rw[List.getElem?_map,d];rfl
    obtain⟨a1,b1⟩:=aB2.mp h1;obtain⟨a2,b2⟩:=aB2.mp I;refine hne ?_;have pw:=aCb.mp D.nd;rcases aCi k j with hlt | heq | hlt
    ·exact absurd (b1.trans b2.symm) (pw k j a1 a2 hlt)
    ·exact heq
    ·exact absurd (b2.trans b1.symm) (pw j k a2 a1 hlt)
   have X:∀c o,c≠TO->c≠q.it->h'.get? c=some o->(I.update TO (Obj.mapSeq λx=>x.setIfInBounds j v)).get? c=some o:=λc o F J e=>(aBp ..).extBut _ _ F (f.extBut _ _ J e);refine⟨j+1,_,xs.set j v,rfl,er,by lia,⟨X _ _ (aC1 D.ne2) (aC1 B.1) g.obj,⟨xs.set j v,n,by simpa using hxl,rfl,?_⟩,λp V=>?_,λp V=>?_,?_,λc o F J U e=>X c o J (U q y) (g.keep c o F J U e)⟩⟩
   ·rw[Heap.get?_update_self _ H (by rfl)];simp[Obj.mapSeq]
   ·rw[List.take_add_one,d]at V;rcases aBn.mp V with z | z
    ·obtain⟨k,hk⟩:=aDa z
     have hkj:k<j:=by
      have:=(aB2.mp hk).1;rw[List.length_take]at this;lia
     rw[List.getElem?_take_of_lt hkj]at hk;exact(g.done p z).to λo e=>X _ o (D.HE p (aB8 hk)).2.2 (l k p hk (by lia)) e
    ·have:p=q:=by simpa using z
     subst this;exact at2.to λo e=>(aBp ..).extBut _ _ B.2.2 e
   ·obtain⟨k,hk⟩:=aDa V;rw[List.getElem?_drop]at hk;have hp' :p∈qs.drop j:=by rw[List.drop_eq_getElem_cons u];exact aB7 _ V
    exact(g.todo p hp').to λo e=>X _ o (D.HE p (aB8 hk)).2.2 (l _ p hk (by lia)) e
   ·rw[Heap.size_update,f.1];exact g.size
variable{Q:Option Value->Shared->Prop}
theorem rY{z TI TO:Addr}{vals:List Value}(D:mC z TI TO qs)(Z:iV s.heap z TI TO qs .none i)(a:qs≠[])
  (hv:vals.length=qs.length) (d:∀(k:Nat) q x,qs[k]? =some q->vals[k]? =some x->∃items,q.Sq s.heap items/\items[i]? =some x) (hsz:qs.length<=sizeLine)
  (e:∀h',iV h' z TI TO qs (rawInt s.heap.objs.size) (i+1)->h'.get? s.heap.objs.size=some {cls:= .type "tuple",data:= .seq vals.toArray}->h'.objs.size=s.heap.objs.size+1->
   (∀c o,c≠z->c≠TO->(∀q∈qs,c≠q.it)->s.heap.get? c=some o->h'.get? c=some o)->Q (some (.ref s.heap.objs.size)) {s with heap:=h'}):
  wpAny (model prog w) A (pyNext (.ref z)) Q E s:=by
 have b:s.TypeIs (.ref z) "zip":=⟨_,Z.obj,rfl⟩
 unfold pyNext
 exact aAz (aC7 (aBg (name:=Str.ofString "__next__") b aDg (aBb aDg b F.entry_zip_next
  (EY D Z a hv d hsz λh' f g h j=>aB0 (e h' f g h j)) (F.args_zip_next_1 _))))
theorem uS{z TI TO:Addr}{i k:Nat}(d:A.handled=none)(D:mC z TI TO qs)(Z:iV s.heap z TI TO qs .none i)
  (f:∀(j:Nat) q,qs[j]? =some q->j<k->∃items x,q.Sq s.heap items/\items[i]? =some x) (hk:∃q items,qs[k]? =some q/\q.Sq s.heap items/\items[i]? =none) (hsz:qs.length<=sizeLine)
  (g:∀h',(∀c o,c≠z->c≠TO->(∀q∈qs,c≠q.it)->s.heap.get? c=some o->h'.get? c=some o)->Q none {s with heap:=h'}):wpAny (model prog w) A (pyNext (.ref z)) Q E s:=by
 have a:s.TypeIs (.ref z) "zip":=⟨_,Z.obj,rfl⟩
 unfold pyNext
 refine aAz (aC7 (aBg (name:=Str.ofString "__next__") a aDg (aBb aDg a F.entry_zip_next
  (JR d D Z f hk hsz λh' e kp he=>?_) (F.args_zip_next_1 _))))
 obtain⟨o,ho,h⟩:=he;refine aAz (aCk (T:= "StopIteration") (b:=true) ⟨o,ho,h⟩ isSubtype_stop ?_);exact aB0 (g _ kp)
theorem TF{elts:List Expr}{x1}{z TI TO T:Addr}{Q:Unit->Shared->Prop}(D:mC z TI TO qs)(Z:iV s.heap z TI TO qs (rawInt T) i)
  (d:∀h',iV h' z TI TO qs .none i->Heap.SameBut z s.heap h' ->Q () {s with heap:=h'}):wpAny (model prog w) A (letOwnedTupleGo (.Tuple elts x1 pos) (.ref z) (.ref T)) Q E s:=by
 unfold letOwnedTupleGo;refine aAz (wpAny_load Z.obj ?_);show wpAny _ _ (if (["enumerate","zip","dict_itemiterator","dict_reverseitemiterator","odict_iterator","itertools.zip_longest","itertools.pairwise"].contains "zip" && (#[rawInt T,.bool false,.bool false,.ref TI,.ref TO]:Array Value)[0]? ==some (rawInt T))=true then _ else _) Q E s;rw[if_pos (by simp)];refine aAz (aC5 ?_);show wpAny _ _ (setField (.ref z) 0 .none) Q E s;refine aBh Z.obj (by simp) λh' b a=>d h' ⟨b,?_,?_,λq c=>(Z.at_ q c).to λo e=>a.extBut _ _ (D.HE q c).1 e⟩ a
 ·obtain⟨n,e⟩:=Z.aH;exact⟨n,a.extBut _ _ D.ne1 e⟩
 ·obtain⟨xs,n,l,e⟩:=Z.own;exact⟨xs,n,l,a.extBut _ _ D.ne2 e⟩
theorem yE{z TI TO:Addr}{f0:Value}{Q:aEe}(Z:iV s.heap z TI TO qs f0 i)(h:Q (.ref z) s):wpAny (model prog w) A (pyIter (.ref z)) Q E s:=by
 have a:s.TypeIs (.ref z) "zip":=⟨_,Z.obj,rfl⟩
 refine aD4 a F.slot_zip_iter (aBb F.slot_zip_iter a F.entry_zip_iter ?_ (F.args_zip_iter_1 _));exact aB0 ⟨_,rfl,"zip",_,a,aDg.lookup,h⟩
end
section
variable {prog:Program}{w:World}{A:Around}{E:aEe}{s:Shared}
def bI:Nat->List Src->List Src
 | _,[]=>[]
 | n,q::r=>⟨n,q.l,q.tup⟩::bI (n+1) r
theorem gA:∀(n:Nat) (qs:List Src),(bI n qs).length=qs.length
 | _,[]=>rfl
 | n,_::r=>by simp[bI,gA (n+1) r]
theorem dS:∀{n:Nat} {qs:List Src} {p:Src},p∈bI n qs->n<=p.it/\p.it<n+qs.length/\∃q∈qs,p.l=q.l/\p.tup=q.tup
 | n,q::r,p,h=>by
  rcases aBa.mp h with rfl | h
  ·exact⟨aB3 _,by simp,q,aB6,rfl,rfl⟩
  ·obtain⟨a,b,q',c,d⟩:=dS h;exact⟨Nat.le_of_succ_le a,Nat.lt_of_lt_of_eq b (by simp only[List.length_cons];lia),q',aB7 _ c,d⟩
theorem nC:∀(n:Nat) (qs:List Src),((bI n qs).map (·.it)).Nodup
 | _,[]=>by simp[bI]
 | n,q::r=>by
  simp only[bI,List.map_cons,List.nodup_cons];refine⟨λh=>?_,nC (n+1) r⟩;obtain⟨p,a,e⟩:=aBd.mp h;have b:=(dS a).1;have c :p.it=n:=e;exact absurd b (by rw[c];exact Nat.not_succ_le_self n)
theorem oP{Q:Array Value->Shared->Prop}:∀(qs:List Src) (acc:Array Value) (s:Shared),(∀q∈qs,∃items,q.Sq s.heap items)->
  (∀h',h'.objs.size=s.heap.objs.size+qs.length->(∀b o,s.heap.get? b=some o->h'.get? b=some o)->(∀p∈bI s.heap.objs.size qs,p.At h' 0)->Q (acc++((bI s.heap.objs.size qs).map λp=>Value.ref p.it).toArray) {s with heap:=h'})->
  wpAny (model prog w) A (forIn (qs.map λq=>Value.ref q.l) acc λx aH=>do let r<-holding aH.toList (pyIter x);pure (ForInStep.yield (aH.push r))) Q E s
 | [],acc,s,_,hQ=>by
  have:=hQ s.heap (by simp) (λ_ _ e=>e) (by simp[bI]);simp only[List.map_nil,List.forIn_nil];refine aB0 ?_;simpa[bI] using this
 | q::r,acc,s,hs,hQ=>by
  obtain⟨items,k⟩:=hs q aB6;simp only[List.map_cons,List.forIn_cons];refine aAz (aAz (aBf (Src.start k λh' at' sz kp=>aB0 ?_)));refine oP r (acc.push (.ref s.heap.objs.size)) {s with heap:=h'} (λq' g =>?_) λf h a i=>?_
  ·obtain⟨j,m⟩:=hs q' (aB7 _ g);exact⟨j,m.to λo e=>kp _ o e⟩
  ·have n:f.objs.size=s.heap.objs.size+(q::r).length:=by
    have:f.objs.size=h'.objs.size+r.length:=h;rw[this,sz,List.length_cons];lia
   have c :h'.objs.size=s.heap.objs.size+1:=sz;have d :∀p∈bI (s.heap.objs.size+1) r,p.At f 0:=by rw[<-c];exact i
   have:=hQ f n (λb o e=>a b o (kp b o e)) (λp hp=>by
    rcases aBa.mp hp with rfl | hp
    ·exact at'.to λo e=>a _ o e
    ·exact d p hp)
   have t:(acc.push (.ref s.heap.objs.size)++((bI h'.objs.size r).map λp=>Value.ref p.it).toArray)=(acc++((bI s.heap.objs.size (q::r)).map λp=>Value.ref p.it).toArray):=by
    rw[c];simp[bI]
   show Q (acc.push (.ref s.heap.objs.size)++((bI h'.objs.size r).map λp=>Value.ref p.it).toArray) _;rw[t];exact this
theorem MV:(5:Nat)<=sizeLine+2:=Nat.add_le_add_right (by decide:3<=sizeLine) 2
theorem AD(qs:List Src)(hsz:qs.length<=sizeLine):Meets (Builtin.«zip.__new__» ⟨.type "zip"::(qs.map λq=>Value.ref q.l),[]⟩) (λ_ R s=>(∀q∈qs,∃items,q.Sq s.heap items)/\
   ∀h' z TI TO,s.heap.objs.size+qs.length<=TI->TI≠TO->TI≠z->TO≠z->s.heap.objs.size+qs.length<=TO->s.heap.objs.size+qs.length<=z->iV h' z TI TO (bI s.heap.objs.size qs) .none 0->(∀b o,s.heap.get? b=some o->h'.get? b=some o)->R (.ok (.ret (.ref z))) {s with heap:=h'}):=
 .of_wp λprog w A R s h=>by
  obtain⟨hs,g⟩:=h;unfold Builtin.«zip.__new__»;have i:=sub_zip;refine aAz (m:=Builtin.SmallTypes.newClass "zip" _) ?_;unfold Builtin.SmallTypes.newClass
  wp_walk
  refine oP qs #[] s hs λh' sz kp at' =>?_;have c:(bI s.heap.objs.size qs).length=qs.length:=gA _ _;have n:((#[]:Array Value)++((bI s.heap.objs.size qs).map λp=>Value.ref p.it).toArray).toList=(bI s.heap.objs.size qs).map λp=>Value.ref p.it:=by simp
  refine aB0 ?_;simp only[n];refine aAz (aD8 ?_ (by simp[c];exact hsz));refine aAz (aD8 ?_ (by simp[c];exact hsz));unfold Builtin.SmallTypes.newRecord;dsimp only;refine aAz (aBi ?_ MV);refine aB0 ⟨_,rfl,?_⟩;generalize d:bI s.heap.objs.size qs=ls at c at' g⊢;have r:(h'.push {cls:= .type "tuple",data:= .seq ((ls.map λp=>Value.ref p.it).toArray)}).objs.size=h'.objs.size+1:=aCw ..;have j:(h'.push {cls:= .type "tuple",data:= .seq ((ls.map λp=>Value.ref p.it).toArray)}).get? h'.objs.size=some _:=aB4 _ rfl;have f:∀b o,h'.get? b=some o->(h'.push {cls:= .type "tuple",data:= .seq ((ls.map λp=>Value.ref p.it).toArray)}).get? b=some o:=λb o e=>aB1 _ e;generalize t:h'.push {cls:= .type "tuple",data:= .seq ((ls.map λp=>Value.ref p.it).toArray)}=h1 at r j f⊢;have u:(h1.push {cls:= .type "tuple",data:= .seq ((List.map (λx=>Value.none) (ls.map λp=>Value.ref p.it)).toArray)}).objs.size=h1.objs.size+1:=aCw ..;have k:(h1.push {cls:= .type "tuple",data:= .seq ((List.map (λx=>Value.none) (ls.map λp=>Value.ref p.it)).toArray)}).get? h1.objs.size=some _:=aB4 _ rfl;have a:∀b o,h1.get? b=some o->(h1.push {cls:= .type "tuple",data:= .seq ((List.map (λx=>Value.none) (ls.map λp=>Value.ref p.it)).toArray)}).get? b=some o:=λb o e=>aB1 _ e;generalize v:h1.push {cls:= .type "tuple",data:= .seq ((List.map (λx=>Value.none) (ls.map λp=>Value.ref p.it)).toArray)}=h2 at u k a⊢;refine g _ h2.objs.size h'.objs.size h1.objs.size (by lia) (by lia) (by lia) (by lia) (by lia) (by lia) ⟨?_,⟨0,?_⟩,⟨List.map (λx=>Value.none) (ls.map λp=>Value.ref p.it),0,by simp[d],?_⟩,λq y=>?_⟩ λb o e=>aB1 _ (a _ _ (f _ _ (kp b o e)))
  ·exact aB4 _ rfl
  ·exact aB1 _ (a _ _ j)
  ·exact aB1 _ k
  ·exact(at' q y).to λo e=>aB1 _ (a _ _ (f _ _ e))
theorem EL{qs:List Src}(hsz:qs.length<=sizeLine)(j:checkTypeCall "zip" ⟨qs.map λq=>Value.ref q.l,[]⟩=pure ())(hN:checkBuiltinCall "zip.__new__" ⟨.type "zip"::qs.map λq=>Value.ref q.l,[]⟩=pure ())
  (k:∀obj,argsOk "object.__init__" ⟨obj::qs.map λq=>Value.ref q.l,[]⟩) (hs:∀q∈qs,∃items,q.Sq s.heap items)
  (h:∀h' z TI TO,s.heap.objs.size<=TI->s.heap.objs.size<=TO->s.heap.objs.size<=z->mC z TI TO (bI s.heap.objs.size qs)->iV h' z TI TO (bI s.heap.objs.size qs) .none 0->(∀b o,s.heap.get? b=some o->h'.get? b=some o)->Q (.ref z) {s with heap:=h'}):
  wpAny (model prog w) A (call (.type "zip") (qs.map λq=>Value.ref q.l)) Q E s:=by
 refine callType_new F.called_zip (by decide) j hN k F.entry_zip_new (AD qs hsz) ⟨hs,λh' z TI TO m p t u g i Z kp=>?_⟩;refine⟨⟨_,Z.obj,rfl⟩,h h' z TI TO (by lia) (by lia) (by lia) ⟨t,u,p,λq d=>?_,nC _ _,λq d=>?_⟩ Z kp⟩
 ·obtain⟨v,c,_⟩:=dS d;exact⟨aB9 (aBc c i),aB9 (aBc c m),aB9 (aBc c g)⟩
 ·obtain⟨v,c,q',e,x,_⟩:=dS d;obtain⟨items,f⟩:=hs q' e;obtain⟨o,n,ho,_⟩:=f.obj;have a:q.l<s.heap.objs.size:=by rw[x];exact aB5 ho
  exact⟨aB9 (aBc a (aBq (Nat.le_add_right _ _) i)),aB9 (aBc a (aBq (Nat.le_add_right _ _) g)),λr y=>aB9 (aBc a (dS y).1)⟩
end
def zK(K:aEd)(H:Hp)(t:Bool)(a:Addr)(xs:List V):Prop:=match t with | true=>pG K H a xs | false=>nV K H a xs
def Itz(K:aEd)(src:List (Addr×Bool)):It where
 go:=λi H=>∃vs:List V,vs.length=src.length/\∀(k:Nat) a t v,src[k]? =some (a,t)->vs[k]? =some v->∃xs,zK K H t a xs/\xs[i]? =some v
 NY:=λi H x H' =>∃p vs,H p=none/\x= .ref p/\H' =upd H p (.tup vs)/\vs.length=src.length/\∀(k:Nat) a t v,src[k]? =some (a,t)->vs[k]? =some v->∀xs,zK K H t a xs->xs[i]? =some v
 stop:=λi H=>∃(k:Nat) (a:Addr) (t:Bool) (xs:List V),src[k]? =some (a,t)/\zK K H t a xs/\xs.length<=i/\∀(j:Nat) b u,j<k->src[j]? =some (b,u)->∃c,zK K H u b c/\i<c.length
section
variable {X:Cx}{pins:List (Addr×Obj)}{σ:St}{H:Hp}{s:Shared}
theorem Inv.PF{t:Bool}{a:Addr}{xs:List V}(I:Inv X pins σ H s)(h:zK X.K H t a xs):∃aH:List Value,Vals xs aH/\∀it,(⟨it,a,t⟩:Src).Sq s.heap aH.toArray:=by
 cases t with
 | true=>obtain⟨aH,r,p,_⟩:=I.tuple h;exact⟨aH,r,λ_=>p⟩
 | false=>obtain⟨aH,r,p,_⟩:=I.list h;exact⟨aH,r,λ_=>p.isList⟩
theorem Inv.BW{t:Bool}{a:Addr}{xs b:List V}(I:Inv X pins σ H s)(h:zK X.K H t a xs)(h' :zK X.K H t a b):xs=b:=by
 cases t with
 | true=>exact I.sQ h h'
 | false=>exact I.xX h h'
theorem Inv.OP{fp:List Addr}{t' :Nat}{p:Addr}{o:HO}(I:Inv X pins σ H s)(d:∀b∈fp,rR X pins H b)(k:∀b o,b∉fp->s.heap.get? b=some o->h'.get? b=some o)
  (h:s.heap.objs.size<=p) (new:bO X.prog X.w (upd H p o) h' p o):Inv X pins σ (upd H p o) {s with heap:=h',toks:=t'}:=by
 have f:H p=none:=I.bD.fresh h;have g:∀b u,H b=some u->b∉fp:=λb u e z=>by rw[(d b z).1]at e;cases e
 refine I.step (g' :=s.gens) (d' :=s.drawn) (ch:=fp) (λb a=>⟨(d b a).2.2.2.1,(d b a).2.1,(d b a).2.2.2.2.1,(d b a).2.2.2.2.2⟩) (λb o _ _ hc e _=>k b o hc e) (λb o _ _ hc e _=>⟨o.slots,k b o hc e⟩)
  (λb o _ e n=>by rw[aN (Nat.ne_of_lt (Nat.lt_of_lt_of_le (Heap.lt_size e) h))];exact n) (λb o hc e=>⟨o,k b o hc e⟩) (λb xs e=>by rw[aN (bH e f)];exact e) (λb o u e=>by rw[aN (bH e f)];exact e)
  (λb ps e=>⟨#[],by rw[aN (bH e f),e];simp⟩) (λm i=>?_) (λb u e=>?_) I.bare
 ·obtain⟨o,es,ep,ho,r⟩:=i;exact⟨o,es,ep,k _ o (λz=>(d _ z).2.1 rfl) ho,r⟩
 ·by_cases a:b=p
  ·subst a;rw[aQ]at e;cases e;exact new
  ·rw[aN a]at e;refine(I.bD b u e).xF (λc v hc q=>k c v ?_ q) (λc q=>by rw[aN (bH q f)];exact q) λc xs q=>by rw[aN (bH q f)];exact q
   rcases hc with rfl | hc
   ·exact g _ u e
   ·exact g _ _ hc
theorem Inv.IB{fp:List Addr}{t' :Nat}(I:Inv X pins σ H s)(a:∀b∈fp,rR X pins H b)(k:∀b o,b∉fp->s.heap.get? b=some o->h'.get? b=some o):Inv X pins σ H {s with heap:=h',toks:=t'}:=by
 have d:∀b u,H b=some u->b∉fp:=λb u e z=>by rw[(a b z).1]at e;cases e
 refine I.step (g' :=s.gens) (d' :=s.drawn) (ch:=fp) (λb f=>⟨(a b f).2.2.2.1,(a b f).2.1,(a b f).2.2.2.2.1,(a b f).2.2.2.2.2⟩) (λb o _ _ hc e _=>k b o hc e) (λb o _ _ hc e _=>⟨o.slots,k b o hc e⟩)
  (λb o _ e n=>n) (λb o hc e=>⟨o,k b o hc e⟩) (λb xs e=>e) (λb o u e=>e) (λb ps e=>⟨#[],by rw[e];simp⟩) (λm g=>?_) (λb u e=>?_) I.bare
 ·obtain⟨o,es,ep,ho,r⟩:=g;exact⟨o,es,ep,k _ o (λz=>(a _ z).2.1 rfl) ho,r⟩
 ·refine(I.bD b u e).xF (λc v hc q=>k c v ?_ q) (λ_ q=>q) λ_ _ q=>q;rcases hc with rfl | hc
  ·exact d _ u e
  ·exact d _ _ hc
end
theorem OE{P:Nat->Value->Prop}:∀{vs:List V},(∀(k:Nat) v,vs[k]? =some v->∃u,RelV v u/\P k u)->∃us,Vals vs us/\∀(k:Nat) u,us[k]? =some u->P k u
 | [],_=>⟨[],.nil,λk u e=>by simp at e⟩
 | v::r,h=>by
  obtain⟨u,a,b⟩:=h 0 v rfl;obtain⟨us,c,ps⟩:=OE (P:=λk u=>P (k+1) u) (vs:=r) λk v e=>h (k+1) v (by simpa using e);refine⟨u::us,.cons a c,λk w e=>?_⟩
  cases k with
  | zero=>simp at e;subst e;exact b
  | succ k=>exact ps k w (by simpa using e)
theorem FC{K:aEd}{elts:List Expr}{x1}{z TI TO:Addr}{qs:List Src}(D:mC z TI TO qs)(B:qs≠[])(hsz:qs.length<=sizeLine):
  Turn P w K (.Tuple elts x1 pos) (Itz K (qs.map λq=>(q.l,q.tup))) (z::TI::TO::qs.map (·.it)) z (λi h=>iV h z TI TO qs .none i) where
 mem:=aB6
 obj:=λi h Z b hb=>by
  rcases aBa.mp hb with rfl | hb
  ·exact⟨_,Z.obj,λv e=>by cases e⟩
  rcases aBa.mp hb with rfl | hb
  ·obtain⟨n,e⟩:=Z.aH;exact⟨_,e,λv e=>by cases e⟩
  rcases aBa.mp hb with rfl | hb
  ·obtain⟨xs,n,_,e⟩:=Z.own;exact⟨_,e,λv e=>by cases e⟩
  obtain⟨q,c,rfl⟩:=aBd.mp hb;obtain⟨o,ho,hd⟩:=(Z.at_ q c).obj;exact⟨o,ho,λv e=>by rw[hd]at e;cases e⟩
 keep:=λi h h' Z k=>by
  refine⟨k z (by simp) _ Z.obj,?_,?_,λq c=>(Z.at_ q c).to λo e=>k q.it (by simp;exact .inr (.inr (.inr ⟨q,c,rfl⟩))) o e⟩
  ·obtain⟨n,e⟩:=Z.aH;exact⟨n,k TI (by simp) _ e⟩
  ·obtain⟨xs,n,l,e⟩:=Z.own;exact⟨xs,n,l,k TO (by simp) _ e⟩
 item:=by
  intro X C F G V i pins s σ H E I p Z hg;subst C F G;obtain⟨vs,y,hv⟩:=hg;have J:vs.length=qs.length:=by simpa using y
  obtain⟨us,W,pu⟩:=OE (P:=λk u=>∀q,qs[k]? =some q->∃items,q.Sq s.heap items/\items[i]? =some u) (vs:=vs) λk v e=>by
   have hk:k<qs.length:=by have:=(aB2.mp e).1;lia
   have d:qs[k]? =some qs[k]:=aBr hk;obtain⟨xs,g,hi⟩:=hv k qs[k].l qs[k].tup v (by rw[List.getElem?_map,d];rfl) e;obtain⟨aH,rv,hs⟩:=I.PF g;obtain⟨u,L,r⟩:=rv.get hi;refine⟨u,r,λq c=>?_⟩;rw[d]at c;cases c;exact⟨aH.toArray,hs qs[k].it,by simpa using L⟩
  have M:us.length=qs.length:=by rw[<-W.length,J]
  refine rY D Z B M (λk q x c g=>pu k x g q c) hsz λh1 Z1 Y z1 k1=>?_;refine⟨_,rfl,TF (s:={s with heap:=h1}) D Z1 λh2 Z2 m=>?_⟩;have f:s.heap.objs.size≠z:=aCc (aB5 Z.obj)
  have kk:∀b o,b∉(z::TI::TO::qs.map (·.it))->s.heap.get? b=some o->h2.get? b=some o:=λb o hb e=>by
   have b1:b≠z:=λz=>hb (by simp[z]);have b2:b≠TO:=λz=>hb (by simp[z]);exact m.extBut _ _ b1 (k1 b o b1 b2 (λq c z=>hb (by simp;exact .inr (.inr (.inr ⟨q,c,z.symm⟩)))) e)
  refine⟨.ref s.heap.objs.size,upd H s.heap.objs.size (.tup vs),I.OP (t' :=s.toks) p kk (aB3 _) ⟨by lia,us,W,⟨_,m.extBut _ _ f Y,rfl,0,rfl⟩,λo e=>by rw[m.extBut _ _ f Y]at e;cases e;rfl⟩,rfl,?_,Z2,λb hb=>?_⟩
  ·refine⟨s.heap.objs.size,vs,I.bD.fresh (aB3 _),rfl,rfl,y,λk a t v hs N xs g=>?_⟩;obtain⟨ys,O,hi⟩:=hv k a t v hs N;rw[I.BW g O];exact hi
  ·have R:=(p b hb).1
   have:b≠s.heap.objs.size:=by
    rintro rfl
    have ho:∃o,s.heap.get? s.heap.objs.size=some o:=by
     rcases aBa.mp hb with e | hb
     ·rw[e];exact⟨_,Z.obj⟩
     rcases aBa.mp hb with e | hb
     ·rw[e];obtain⟨n,e⟩:=Z.aH;exact⟨_,e⟩
     rcases aBa.mp hb with e | hb
     ·rw[e];obtain⟨xs,n,_,e⟩:=Z.own;exact⟨_,e⟩
     obtain⟨q,c,e⟩:=aBd.mp hb;have e' :q.it=s.heap.objs.size:=e;rw[<-e'];obtain⟨o,ho,_⟩:=(Z.at_ q c).obj;exact⟨o,ho⟩
    obtain⟨o,ho⟩:=ho;exact absurd (aB5 ho) (aCj _)
   rw[aN this];exact R
 done:=by
  intro X C F G V i pins s σ H E I p Z hg;subst C F G;obtain⟨k,a,t,xs,hk,g,hle,S⟩:=hg;rw[List.getElem?_map]at hk
  cases d:qs[k]? with
  | none=>rw[d]at hk;cases hk
  | some q=>
   rw[d]at hk;have T :(q.l,q.tup)=(a,t):=aBl hk;injection T with e1 e2;subst e1 e2
   refine uS (k:=k) (I.ok.hd V) D Z (λj q' hj U=>?_) ⟨q,?_⟩ hsz λh' kp=>⟨rfl,I.IB (t' :=s.toks) p λb o hb e=>kp b o (λz=>hb (by simp[z])) (λz=>hb (by simp[z])) (λq c z=>hb (by simp;exact .inr (.inr (.inr ⟨q,c,z.symm⟩)))) e⟩
   ·obtain⟨ys,O,y⟩:=S j q'.l q'.tup U (by rw[List.getElem?_map,hj];rfl);obtain⟨aH,r,hs⟩:=I.PF O;obtain⟨u,L,_⟩:=r.get (aBr y);exact⟨aH.toArray,u,hs q'.it,by simpa using L⟩
   ·obtain⟨aH,r,hs⟩:=I.PF g;refine⟨aH.toArray,d,hs q.it,?_⟩;have:=r.length;rw[List.getElem?_toArray];exact List.getElem?_eq_none_iff.mpr (by lia)
 self:=λA i s Q E Z h=>yE Z h
structure XU(m:Nat):Prop where
 t:∀us:List Value,us.length=m->checkTypeCall "zip" ⟨us,[]⟩=pure ()
 n:∀us:List Value,us.length=m->checkBuiltinCall "zip.__new__" ⟨.type "zip"::us,[]⟩=pure ()
 i:∀(us:List Value) (o:Value),us.length=m->argsOk "object.__init__" ⟨o::us,[]⟩
theorem UP:XU 2:=⟨λus h=>match us,h with | [a,b],_=>F.typeCall_zip_2 a b,λus h=>match us,h with | [a,b],_=>F.newCall_zip_2 a b,λus o h=>match us,h with | [a,b],_=>F.args_object_init_3 o a b⟩
def aAg(K:aEd)(n:Nat)(b:TA):TI:=λσ H R=>b σ H λvs a=>∃src:List (Addr×Bool),vs=src.map (λp=>V.ref p.1)/\src.length=n/\(∀p∈src,∃xs,zK K a p.2 p.1 xs)/\R (Itz K src) a
theorem gS:∀{src:List (Addr×Bool)} {us:List Value},Vals (src.map λp=>V.ref p.1) us->us=src.map λp=>Value.ref p.1
 | [],us,h=>by cases h;rfl
 | p::r,us,h=>by
  cases h with
  | cons a b=>rw[gS b];cases a;rfl
theorem qS:∀(src:List (Addr×Bool)) (m:Nat),((bI m (src.map λp=>(⟨0,p.1,p.2⟩:Src))).map λq=>(q.l,q.tup))=src
 | [],_=>rfl
 | p::r,m=>by simp only[List.map_cons,bI];rw[qS r (m+1)]
theorem P9{e:Expr}{es:List Expr}{u:TA}{p pos:Pos}{elts:List Expr}{x1}{v:Pos}(z:XU n)(U:0<n/\n<=1000)(hg:Gl X "zip")(x:X.mg "zip"=none)(y:PA X (e::es) u)
  (hv:bootBuiltins "zip"=some (.type "zip"):=by decide+kernel)
  (he:starEach (e::es) X.env=(false,eval e X.env)::starEach es X.env:=by rfl) (k:(backTo pos (starEach es X.env)).any (·.1)=false:=by rfl):
  PI X (.Tuple elts x1 v) (.Call (.Name "zip" p) (e::es) [] pos) (aAg X.K n u):=by
 intro pins s σ H R I h;refine aCy (jS I hg x hv ?_);refine aBz (cA (y pos pins s σ H _ I h) λus s1 ⟨vs,m,g,A,B⟩=>?_) he k;obtain⟨src,rfl,o,hs,C⟩:=B;have E:=gS A;subst E;have em:(src.map λp=>Value.ref p.1)=(src.map λp=>(⟨0,p.1,p.2⟩:Src)).map λq=>Value.ref q.l:=by rw[List.map_map];rfl
 have hz:src.length<=sizeLine:=aCs (C8 (by lia));rw[em];refine EL (by simpa using hz) (z.t _ (by simpa using o)) (z.n _ (by simpa using o)) (λobj=>z.i _ obj (by simpa using o)) (λq j=>?_) λh' F TI TO G J L D Z kp=>?_
 ·obtain⟨p,M,rfl⟩:=aBd.mp j;obtain⟨xs,N⟩:=hs p M;obtain⟨aH,_,r⟩:=g.PF N;exact⟨aH.toArray,r 0⟩
 ·generalize a:bI s1.heap.objs.size (src.map λp=>(⟨0,p.1,p.2⟩:Src))=qs at D Z;have d:qs.length=src.length:=by rw[<-a,gA];simp
  have c:(qs.map λq=>(q.l,q.tup))=src:=by rw[<-a];exact qS _ _
  have O:Inv X pins σ m {s1 with heap:=h'}:=g.kept (t' :=s1.toks) kp;have T:=FC (P:=X.prog) (w:=X.w) (K:=X.K) (elts:=elts) (x1:=x1) (pos:=v) D (by intro Q;rw[Q]at d;simp at d;lia) (by lia);rw[c]at T;refine yE Z ⟨F,_,_,Itz X.K src,m,rfl,O,T,Z,λb hb=>?_,C⟩
  have f:s1.heap.objs.size<=b:=by
   rcases aBa.mp hb with e | hb
   ·rw[e];exact L
   rcases aBa.mp hb with e | hb
   ·rw[e];exact G
   rcases aBa.mp hb with e | hb
   ·rw[e];exact J
   obtain⟨q,j,e⟩:=aBd.mp hb;rw[<-a]at j;have S :q.it=b:=e;rw[<-S];exact(dS j).1
  exact(g.AR f (g.bD.fresh f):rR X pins m b)
variable {b:Bool}
variable {b:Bool}
end L2
namespace TS
open PySem PyProof.Rows
structure Wk(lt:aEf):Prop where
 IZ:∀x y,lt x y=true->lt y x=false
 tr:∀x y z,lt y x=false->lt z y=false->lt z x=false
theorem Wk.HN{lt:aEf}(O:Wk lt)(x:Keyed):lt x x=false:=by
 cases h:lt x x with
 | false=>rfl
 | true=>exact(O.IZ x x h).symm.trans h |>.symm▸rfl
def c7(xs:aEh)(i:Nat):Keyed:=(xs[i]?).getD (Value.none,Value.none)
variable{xs:aEh}{i:Nat}
theorem CL(h:i<xs.size):xs[i]? =some (c7 xs i):=by unfold c7;rw[getElem?_pos xs i h];rfl
def Seg(lt:aEf)(xs:aEh)(i j:Nat):Prop:=∀p q,i<=p->p<=q->q<j->lt (c7 xs q) (c7 xs p)=false
def NU(lt:aEf)(xs:aEh)(i j:Nat):Prop:=∀p q,i<=p->p<=q->q<j->lt (c7 xs p) (c7 xs q)=false
structure Base(κ:SortKind)(a₀:aEh)(st:SortSt):Prop where
 perm:(arrOf st).Perm a₀
 kind:kindOf st=κ
 TM:failedOf st=none
variable{κ:SortKind}{st:SortSt}
theorem Base.size{a₀:aEh}(h:Base κ a₀ st):(arrOf st).size=a₀.size:=h.perm.size_eq
theorem Base.arr{a₀:aEh}(h:Base κ a₀ st)(p:xs.Perm (arrOf st)):Base κ a₀ (setArr st xs):=⟨p.trans h.perm,h.kind,h.TM⟩
theorem Base.mem{a₀:aEh}(h:Base κ a₀ st)(hi:i<a₀.size):c7 (arrOf st) i∈a₀.toList:=by
 have hz:i<(arrOf st).size:=by rw[h.size];exact hi
 have e:=CL hz;have:c7 (arrOf st) i∈arrOf st:=Array.mem_of_getElem? e;exact(Array.perm_iff_toList_perm.mp h.perm).mem_iff.mp this.val
def BB(prog:Program)(w:World)(A:Around)(s:Shared)(κ:SortKind)(lt:aEf)(a₀:aEh):Prop:=
 ∀x y,x∈a₀.toList->y∈a₀.toList->∀Q:Bool->Shared->Prop,Q (lt x y) s->wpAny (model prog w) A (keyLt' κ x.1 y.1) Q (λ_ _=>False) s
section
variable {prog:Program}{w:World}{A:Around}{E:aEe}{s:Shared}{a₀:aEh}{κ:SortKind}{lt:aEf}
variable{Q:Option Bool->SortSt->Prop}
theorem wlt{x y:Keyed}(C:BB prog w A s κ lt a₀)(hk:kindOf st=κ)(c:x∈a₀.toList)(d:y∈a₀.toList)(h:Q (some (lt x y)) st):wpS (model prog w) A E s (lt' x y) Q st:=by
 rw[lt'_eq];refine aBu (wpS_get ?_);rw[hk];refine aBu (wpS_lift (aC7 (aBw (C x y c d (λb a =>b=lt x y/\a =s) ⟨rfl,rfl⟩) (λb a f=>?_) λ_ _ e=>e.elim)));obtain⟨rfl,rfl⟩:=f;exact⟨rfl,aC6 h⟩
theorem N1{arr:aEh}{Q:Keyed->SortSt->Prop}(hi:i<arr.size)(h:Q (c7 arr i) st):wpS (model prog w) A E s (elem' arr i) Q st:=by
 rw[elem'_eq,CL hi];exact aC6 h
theorem wJ{i j:Nat}(C:BB prog w A s κ lt a₀)(a:Base κ a₀ st)(hi:i<a₀.size)(b:j<a₀.size)(h:Q (some (lt (c7 (arrOf st) i) (c7 (arrOf st) j))) st):
  wpS (model prog w) A E s (ltAt' i j) Q st:=by
 rw[ltAt'_eq];refine aBu (wpS_get ?_);have z:=a.size;exact aBu (N1 (by rw[z];exact hi) (aBu (N1 (by rw[z];exact b) (wlt C a.kind (a.mem hi) (a.mem b) h))))
theorem lW{src d:Nat}(hs:src<xs.size)(hd:d<=src)(k:Nat):c7 (bubble xs src d) k=if k=src-d then c7 xs src else if src-d<k/\k<=src then c7 xs (k-1) else c7 xs k:=by
 have e:=getElem?_bubble hs d hd k;unfold c7;rw[e]
 repeat' split
 all_goals rfl
theorem fF{i j:Nat}(a:j<=xs.size)(k:Nat):c7 (mirror xs i j ((j-i) / 2)) k=if i<=k/\k<j then c7 xs (i+j-1-k) else c7 xs k:=by
 have e:=getElem?_mirror_all (i:=i) a k;unfold c7;rw[e];split <;> rfl
theorem JU(O:Wk lt)(C:BB prog w A s κ lt a₀){lo n ok:Nat}{Q:Bool->SortSt->Prop}(H:lo+n<=a₀.size)(bD:ok<=n)(K:Base κ a₀ st)(hs:Seg lt (arrOf st) lo (lo+ok))
  (h:∀a,Base κ a₀ a ->Seg lt (arrOf a) lo (lo+n)->(∀k,k<lo->c7 (arrOf a) k=c7 (arrOf st) k)->pendingOf a =pendingOf st->Q true a):wpS (model prog w) A E s (binarySort' lo n ok) Q st:=by
 rw[binarySort'_eq]
 refine aBu (wpS_mono (aDn (I:=λk c a =>c=(none,())/\Base κ a₀ a /\Seg lt (arrOf a) lo (lo+min k n)/\(∀k,k<lo->c7 (arrOf a) k=c7 (arrOf st) k)/\pendingOf a =pendingOf st)
  (Q:=λc a =>c=(none,())/\Base κ a₀ a /\Seg lt (arrOf a) lo (lo+n)/\(∀k,k<lo->c7 (arrOf a) k=c7 (arrOf st) k)/\pendingOf a =pendingOf st) ?step ?fin ?init) ?post)
 case post=>
  rintro c a ⟨rfl,e,d,o,t⟩;exact aC6 (h a e d o t)
 case init=>
  refine⟨rfl,K,λp q B u J=>?_,λ_ _=>rfl,rfl⟩;by_cases z:p=q
  ·subst z;exact O.HN _
  ·exact hs p q B u (by lia)
 case fin=>
  rintro c a ⟨L,e,d,r⟩;refine⟨L,e,?_,r⟩
  rwa [show min (max (max ok 1) n) n=n by (clear r bD H;lia)]at d
 case step=>
  rintro k c a D F ⟨rfl,e,d,o,t⟩;rw[show min k n=k by lia]at d;have hk:lo+k<a₀.size:=by lia
  refine aBu (wpS_mono (aDn (I:=λx c b =>b =a /\∃l r,c=(none,l,r)/\l<=r/\r<=k/\r-l<=k-x/\
    (∀i,i<l->lt (c7 (arrOf a) (lo+k)) (c7 (arrOf a) (lo+i))=false)/\(∀i,r<=i->i<k->lt (c7 (arrOf a) (lo+k)) (c7 (arrOf a) (lo+i))=true))
   (Q:=λc b =>b =a /\∃l r,c=(none,l,r)/\l<=k/\
    (∀i,i<l->lt (c7 (arrOf a) (lo+k)) (c7 (arrOf a) (lo+i))=false)/\(∀i,l<=i->i<k->lt (c7 (arrOf a) (lo+k)) (c7 (arrOf a) (lo+i))=true)) ?istep ?ifin ?iinit) ?ipost)
  case iinit=>exact⟨rfl,0,k,rfl,by lia,by lia,by lia,λi hi=>by lia,λi z M=>by lia⟩
  case ifin=>
   rintro c b ⟨rfl,l,r,rfl,G,v,N,f,g⟩;obtain rfl:l=r:=by lia
   exact⟨rfl,l,l,rfl,v,f,g⟩
  case istep=>
   rintro x c b _ P ⟨rfl,l,r,rfl,G,v,N,f,g⟩;dsimp only;by_cases y:l>=r
   ·rw[if_pos y];obtain rfl:l=r:=by lia
    exact aC6 ⟨rfl,l,l,rfl,v,f,g⟩
   ·rw[if_neg y];refine aBu (wJ C e hk (by lia) ?_)
    cases hless:lt (c7 (arrOf b) (lo+k)) (c7 (arrOf b) (lo+(l+r) / 2)) with
    | true=>
     simp only[if_true];refine aC6 ⟨rfl,l,(l+r) / 2,rfl,by lia,by lia,by lia,f,λi z M=>?_⟩
     cases hx:lt (c7 (arrOf b) (lo+k)) (c7 (arrOf b) (lo+i)) with
     | true=>rfl
     | false=>rw[O.tr _ _ _ (d (lo+(l+r) / 2) (lo+i) (by lia) (by lia) (by lia)) hx]at hless;cases hless
    | false=>
     simp only[Bool.false_eq_true,if_false];refine aC6 ⟨rfl,(l+r) / 2+1,r,rfl,by lia,by lia,by lia,λi z=>?_,g⟩;exact O.tr _ _ _ (d (lo+i) (lo+(l+r) / 2) (by lia) (by lia) (by lia)) hless
  case ipost=>
   rintro c b ⟨rfl,l,r,rfl,R,f,g⟩;show wpS _ _ _ _ (do moveDown' (lo+k) (lo+l);pure (ForInStep.yield (none,()))) _ _;rw[moveDown'_eq];have m:lo+k<(arrOf b).size:=by rw[e.size];exact hk
   have S:lo+k-(lo+l)=k-l:=by lia
   refine aBu (wpS_modify (aC6 ⟨rfl,e.arr (bubble_perm _ _ _),?_,λj T=>?_,t⟩))
   ·rw[show min (k+1) n=k+1 by lia];intro p q B u J;show lt (c7 (bubble (arrOf b) (lo+k) (lo+k-(lo+l))) q) (c7 (bubble (arrOf b) (lo+k) (lo+k-(lo+l))) p)=false;rw[lW m (by lia),lW m (by lia),show lo+k-(lo+k-(lo+l))=lo+l by (clear J u B S m hk F D bD H;lia)]
    repeat' split
    all_goals first
     | (exfalso;lia)
     | exact O.HN _
     | (have:=f (p-lo) (by lia);rwa [show lo+(p-lo)=p by lia]at this)
     | (have:=O.IZ _ _ (g (q-1-lo) (by lia) (by lia));rwa [show lo+(q-1-lo)=q-1 by lia]at this)
     | exact d _ _ (by lia) (by lia) (by lia)
   ·show c7 (bubble (arrOf b) (lo+k) (lo+k-(lo+l))) j=_;rw[lW m (by lia),if_neg (by lia),if_neg (by lia)];exact o j T
end
def US(lo a d:Nat):StateT SortSt Sem (Option (Option Nat)×Nat):=
 forIn [a:d] ((none,a):Option (Option Nat)×Nat) λ_ c=>do
  let x<-ltAt' (lo+c.snd) (lo+c.snd-1)
  match x with
  | some b=>if b=true then pure (ForInStep.done (none,c.snd)) else pure (ForInStep.yield (none,c.snd+1))
  | _=>pure (ForInStep.done (some none,c.snd))
def x6(lo n a:Nat):StateT SortSt Sem (Option Nat):=do
 reverseSlice' lo (lo+n)
 let c<-US lo n a
 match c.fst with
 | some r=>pure r
 | none=>pure (some c.snd)
def CY(lo n d:Nat):StateT SortSt Sem (Option (Option Nat)×Nat×Nat):=
 forIn [n:d] ((none,n,0):Option (Option Nat)×Nat×Nat) λ_ c=>do
  let x<-ltAt' (lo+c.snd.fst) (lo+c.snd.fst-1)
  match x with
  | some a=>
   if a=true then
    if c.snd.snd > 0 then do
     reverseSlice' (lo+c.snd.fst-(c.snd.snd+1)) (lo+c.snd.fst)
     pure (ForInStep.yield (none,c.snd.fst+1,0))
    else pure (ForInStep.yield (none,c.snd.fst+1,0))
   else do
    let y<-ltAt' (lo+c.snd.fst-1) (lo+c.snd.fst)
    match y with
    | some b=>if b=true then pure (ForInStep.done (none,c.snd.fst,c.snd.snd)) else pure (ForInStep.yield (none,c.snd.fst+1,c.snd.snd+1))
    | _=>pure (ForInStep.done (some none,c.snd.fst,c.snd.snd))
  | _=>pure (ForInStep.done (some none,c.snd.fst,c.snd.snd))
def yL(lo n a:Nat):StateT SortSt Sem (Option Nat):=do
 liftM (rule "list.sort.descending-run")
 let c<-CY lo (n+1) a
 match c.fst with
 | some r=>pure r
 | none=>
  if c.snd.snd > 0 then do
   reverseSlice' (lo+c.snd.fst-(c.snd.snd+1)) (lo+c.snd.fst)
   x6 lo c.snd.fst a
  else x6 lo c.snd.fst a
theorem EI(lo e:Nat):countRun' lo e=(do
  let c<-US lo 1 e
  match c.fst with
  | some r=>pure r
  | none=>
   if (c.snd==e)=true then pure (some c.snd)
   else if c.snd > 1 then do
    let x<-ltAt' lo (lo+c.snd-1)
    match x with
    | some b=>if b=true then pure (some c.snd) else do
      reverseSlice' lo (lo+c.snd)
      yL lo c.snd e
    | _=>pure none
   else yL lo c.snd e):=by
 rw[countRun'_eq];dsimp only;unfold yL x6 CY US;congr 1;funext c;obtain⟨r,n⟩:=c
 cases r with
 | some r=>rfl
 | none=>
  dsimp only;have h:∀(a:Option (Option Nat)×Nat),(match a.fst with | some r=>(pure r:StateT SortSt Sem (Option Nat)) | none=>pure (some a.snd))=(match a.fst with | some r=>pure r | none=>pure (some a.snd)):=λ_=>rfl;split
  ·rfl
  ·split
   ·congr 1;funext x
    cases x with
    | none=>rfl
    | some b=>
     dsimp only;split
     ·rfl
     ·congr 1;funext u;congr 1;funext u1;congr 1;congr 1;funext c2;obtain⟨f,i,j⟩:=c2
      cases f with
      | some f=>rfl
      | none=>
       dsimp only;split
       ·congr 1;funext v;congr 1;funext v1;congr 1;funext a;obtain⟨d,g⟩:=a;cases d <;> rfl
       ·congr 1;funext v1;congr 1;funext a;obtain⟨d,g⟩:=a;cases d <;> rfl
   ·congr 1;funext u1;congr 1;congr 1;funext c2;obtain⟨f,i,j⟩:=c2
    cases f with
    | some f=>rfl
    | none=>
     dsimp only;split
     ·congr 1;funext v;congr 1;funext v1;congr 1;funext a;obtain⟨d,g⟩:=a;cases d <;> rfl
     ·congr 1;funext v1;congr 1;funext a;obtain⟨d,g⟩:=a;cases d <;> rfl
section
variable {prog:Program}{w:World}{A:Around}{E:aEe}{s:Shared}{a₀:aEh}{κ:SortKind}{lt:aEf}
theorem JT{i j:Nat}{Q:Unit->SortSt->Prop}(h:Q () (setArr st (mirror (arrOf st) i j ((j-i) / 2)))):wpS (model prog w) A E s (reverseSlice' i j) Q st:=by
 rw[reverseSlice'_eq];exact wpS_modify h
def hJ(lo:Nat)(st a :SortSt):Prop:=(∀k,k<lo->c7 (arrOf a) k=c7 (arrOf st) k)/\pendingOf a =pendingOf st
variable{lo:Nat}
theorem hJ.refl:hJ lo st st:=⟨λ_ _=>rfl,rfl⟩
theorem hJ.trans{a b c:SortSt}(h:hJ lo a b)(h' :hJ lo b c):hJ lo a c:=⟨λk hk=>(h'.1 k hk).trans (h.1 k hk),h'.2.trans h.2⟩
theorem hJ.mirror{lo i j:Nat}(hi:lo<=i)(a:j<=(arrOf st).size):hJ lo st (setArr st (PyProof.Rows.mirror (arrOf st) i j ((j-i) / 2))):=
 ⟨λk hk=>by show c7 (PyProof.Rows.mirror (arrOf st) i j ((j-i) / 2)) k=_;rw[fF a,if_neg (by lia)],rfl⟩
theorem wup(O:Wk lt)(C:BB prog w A s κ lt a₀){lo a e:Nat}{Q:Option (Option Nat)×Nat->SortSt->Prop}(r:lo+e<=a₀.size)(t:1<=a)(f:a<=e)(m:Base κ a₀ st)(hs:Seg lt (arrOf st) lo (lo+a))
  (h:∀n,a<=n->n<=e->Seg lt (arrOf st) lo (lo+n)->(n=e\/lt (c7 (arrOf st) (lo+n)) (c7 (arrOf st) (lo+n-1))=true)->Q (none,n) st):wpS (model prog w) A E s (US lo a e) Q st:=by
 unfold US;refine aDn (I:=λx c d =>d =st/\c=(none,x)/\Seg lt (arrOf st) lo (lo+x)) ?step ?fin ⟨rfl,rfl,hs⟩
 case fin=>
  rintro c d ⟨rfl,rfl,b⟩;rw[show max a e=e by lia]at b ⊢;exact h e f (aB3 _) b (.inl rfl)
 case step=>
  rintro x c d g o ⟨rfl,rfl,b⟩;dsimp only;refine aBu (wJ C m (by lia) (by lia) ?_)
  cases hless:lt (c7 (arrOf d) (lo+x)) (c7 (arrOf d) (lo+x-1)) with
  | true=>
   simp only[if_true];exact aC6 (h x g (by lia) b (.inr hless))
  | false=>
   simp only[Bool.false_eq_true,if_false];refine aC6 ⟨rfl,rfl,λp q l i u=>?_⟩;by_cases j:q<lo+x
   ·exact b p q l i j
   ·obtain rfl:q=lo+x:=by lia
    by_cases k :p=lo+x
    ·subst k;exact O.HN _
    ·exact O.tr _ _ _ (b p (lo+x-1) l (by lia) (by lia)) hless
variable{n bP:Nat}{Q:Option Nat->SortSt->Prop}
theorem NZ(O:Wk lt)(C:BB prog w A s κ lt a₀)(g:lo+bP<=a₀.size)(i:1<=n)(c:n<=bP)(f:Base κ a₀ st)(hs:NU lt (arrOf st) lo (lo+n))
  (h:∀m a,Base κ a₀ a ->1<=m->m<=bP->Seg lt (arrOf a) lo (lo+m)->hJ lo st a ->Q (some m) a):wpS (model prog w) A E s (x6 lo n bP) Q st:=by
 unfold x6;have hsz:lo+n<=(arrOf st).size:=by rw[f.size];lia
 refine aBu (JT ?_);have b :Base κ a₀ (setArr st (mirror (arrOf st) lo (lo+n) ((lo+n-lo) / 2))):=f.arr (mirror_perm _ _ _ _);refine aBu (wup O C g i c b ?_ λm j d e _=>aC6 (h m _ b (by lia) d e (hJ.mirror (aB3 _) hsz)));intro p q l k o;show lt (c7 (mirror (arrOf st) lo (lo+n) ((lo+n-lo) / 2)) q) (c7 (mirror (arrOf st) lo (lo+n) ((lo+n-lo) / 2)) p)=false;rw[fF hsz,fF hsz,if_pos (by lia),if_pos (by lia)];exact hs _ _ (by lia) (by lia) (by lia)
def Alike(lt:aEf)(xs:aEh)(i j:Nat):Prop:=∀p q,i<=p->p<j->i<=q->q<j->lt (c7 xs p) (c7 xs q)=false
theorem lZ(O:Wk lt){lo i j n:Nat}(c:j<=xs.size)(he:Alike lt xs i j)(hs:NU lt xs lo n)(hi:lo<=i)(g:j<=n):NU lt (mirror xs i j ((j-i) / 2)) lo n:=by
 intro p q d b e;rw[fF c,fF c];by_cases f:i<=p/\p<j
 ·rw[if_pos f];by_cases a:i<=q/\q<j
  ·rw[if_pos a];exact he _ _ (by lia) (by lia) (by lia) (by lia)
  ·rw[if_neg a];exact hs _ _ (by lia) (by lia) e
 ·rw[if_neg f];by_cases a:i<=q/\q<j
  ·rw[if_pos a];exact hs _ _ d (by lia) (by lia)
  ·rw[if_neg a];exact hs _ _ d b e
theorem UR(O:Wk lt)(C:BB prog w A s κ lt a₀){Q:Option (Option Nat)×Nat×Nat->SortSt->Prop}(H:lo+bP<=a₀.size)(t:1<=n)(u:n<=bP)(z:Base κ a₀ st)(hs:NU lt (arrOf st) lo (lo+n))
  (h:∀m b a,Base κ a₀ a ->n<=m->m<=bP->NU lt (arrOf a) lo (lo+m)->b+1<=m->Alike lt (arrOf a) (lo+m-(b+1)) (lo+m)->hJ lo st a ->Q (none,m,b) a):wpS (model prog w) A E s (CY lo n bP) Q st:=by
 unfold CY
 have one:∀(xs:aEh) (x:Nat),1<=x->Alike lt xs (lo+x-(0+1)) (lo+x):=λxs x J p q t B D F=>by
  obtain rfl:p=q:=by lia
  exact O.HN _
 refine aDn (I:=λx c a =>∃b,c=(none,x,b)/\Base κ a₀ a /\NU lt (arrOf a) lo (lo+x)/\b+1<=x/\Alike lt (arrOf a) (lo+x-(b+1)) (lo+x)/\hJ lo st a) ?step ?fin ⟨0,rfl,z,hs,by lia,one _ _ t,hJ.refl⟩
 case fin=>
  rintro c a ⟨b,rfl,d,e,l,he,o⟩;rw[show max n bP=bP by lia]at e l he⊢;exact h bP b a d u (aB3 _) e l he o
 case step=>
  rintro x c a v G ⟨b,rfl,d,e,l,he,o⟩;dsimp only;have hsz:lo+x<=(arrOf a).size:=by rw[d.size];lia
  refine aBu (wJ C d (by lia) (by lia) ?_)
  cases hless:lt (c7 (arrOf a) (lo+x)) (c7 (arrOf a) (lo+x-1)) with
  | true=>
   simp only[if_true]
   have g:NU lt (arrOf a) lo (lo+x+1):=by
    intro p q r j l;by_cases f:q<lo+x
    ·exact e p q r j f
    ·obtain rfl:q=lo+x:=by lia
     by_cases k :p=lo+x
     ·subst k;exact O.HN _
     ·exact O.tr _ _ _ (O.IZ _ _ hless) (e p (lo+x-1) r (by lia) (by lia))
   by_cases i:b > 0
   ·rw[if_pos i];refine aBu (JT (aC6 ⟨0,rfl,d.arr (mirror_perm _ _ _ _),?_,by lia,one _ _ (by lia),o.trans (hJ.mirror (by lia) hsz)⟩));exact lZ O hsz he g (by lia) (by lia)
   ·rw[if_neg i];exact aC6 ⟨0,rfl,d,g,by lia,one _ _ (by lia),o⟩
  | false=>
   simp only[Bool.false_eq_true,if_false];refine aBu (wJ C d (by lia) (by lia) ?_)
   cases hlarger:lt (c7 (arrOf a) (lo+x-1)) (c7 (arrOf a) (lo+x)) with
   | true=>
    simp only[if_true];exact aC6 (h x b a d v (by lia) e l he o)
   | false=>
    simp only[Bool.false_eq_true,if_false];refine aC6 ⟨b+1,rfl,d,λp q r j l=>?_,by lia,λp q t B D F=>?_,o⟩
    ·by_cases f:q<lo+x
     ·exact e p q r j f
     ·obtain rfl:q=lo+x:=by lia
      by_cases k :p=lo+x
      ·subst k;exact O.HN _
      ·exact O.tr _ _ _ hlarger (e p (lo+x-1) r (by lia) (by lia))
    ·by_cases y:p=lo+x
     ·subst y;by_cases f:q=lo+x
      ·subst f;exact O.HN _
      ·exact O.tr _ _ _ (he (lo+x-1) q (by lia) (by lia) (by lia) (by lia)) hless
     ·by_cases f:q=lo+x
      ·subst f;exact O.tr _ _ _ hlarger (he p (lo+x-1) (by lia) (by lia) (by lia) (by lia))
      ·exact he p q (by lia) (by lia) (by lia) (by lia)
theorem N0(O:Wk lt)(C:BB prog w A s κ lt a₀)(g:lo+bP<=a₀.size)(i:n+1<=bP)(t:Base κ a₀ st)(hs:NU lt (arrOf st) lo (lo+(n+1)))
  (h:∀m a,Base κ a₀ a ->1<=m->m<=bP->Seg lt (arrOf a) lo (lo+m)->hJ lo st a ->Q (some m) a):wpS (model prog w) A E s (yL lo n bP) Q st:=by
 unfold yL;refine aBu (wpS_lift (aC5 ⟨rfl,?_⟩));refine aBu (UR O C g (by lia) i t hs λm j a c u e f v he r=>?_);dsimp only;have hsz:lo+m<=(arrOf a).size:=by rw[c.size];lia
 by_cases b:j > 0
 ·rw[if_pos b];refine aBu (JT (NZ O C g (by lia) e (c.arr (mirror_perm _ _ _ _)) ?_ λm d k l o p q=>h m d k l o p (r.trans ((hJ.mirror (by lia) hsz).trans q))));exact lZ O hsz he f (by lia) (aB3 _)
 ·rw[if_neg b];exact NZ O C g (by lia) e c f λm d k l o p q=>h m d k l o p (r.trans q)
theorem O0(O:Wk lt)(C:BB prog w A s κ lt a₀)(l:lo+bP<=a₀.size)(x:1<=bP)(d:Base κ a₀ st)
  (h:∀m b,Base κ a₀ b ->1<=m->m<=bP->Seg lt (arrOf b) lo (lo+m)->hJ lo st b ->Q (some m) b):wpS (model prog w) A E s (countRun' lo bP) Q st:=by
 rw[EI]
 refine aBu (wup O C l (aB3 1) x d (λp q x K L=>by
  obtain rfl:p=q:=by lia
  exact O.HN _) λn g i c o=>?_)
 dsimp only;by_cases e:n=bP
 ·rw[if_pos (by simpa using e)];exact aC6 (h n st d g i c hJ.refl)
 ·rw[if_neg (by simpa using e)];have j:lt (c7 (arrOf st) (lo+n)) (c7 (arrOf st) (lo+n-1))=true:=o.resolve_left e;by_cases k:n > 1
  ·rw[if_pos k];refine aBu (wJ C d (by lia) (by lia) ?_)
   cases hrose:lt (c7 (arrOf st) lo) (c7 (arrOf st) (lo+n-1)) with
   | true=>
    simp only[if_true];exact aC6 (h n st d g i c hJ.refl)
   | false=>
    simp only[Bool.false_eq_true,if_false];have hsz:lo+n<=(arrOf st).size:=by rw[d.size];lia
    have a:Alike lt (arrOf st) lo (lo+n):=λp q M N y P=>by
     have z:=c lo p (aB3 _) (by lia) (by lia);have B:=c q (lo+n-1) y (by lia) (by lia);exact O.tr _ _ _ (O.tr _ _ _ B hrose) z
    have hd:NU lt (arrOf st) lo (lo+(n+1)):=λp q r t D=>by
     by_cases u:q<lo+n
     ·exact a p q r (by lia) (by lia) u
     ·obtain rfl:q=lo+n:=by lia
      by_cases f :p=lo+n
      ·subst f;exact O.HN _
      ·exact O.tr _ _ _ (O.IZ _ _ j) (a p (lo+n-1) r (by lia) (by lia) (by lia))
    refine aBu (JT (N0 O C l (by lia) (d.arr (mirror_perm _ _ _ _)) ?_ λm v F G H I J=>h m v F G H I ((hJ.mirror (aB3 _) hsz).trans J)));exact lZ O hsz a hd (aB3 _) (by lia)
  ·rw[if_neg k];obtain rfl:n=1:=by lia
   refine N0 O C l (by lia) d (λp q r t D=>?_) h;by_cases f :p=q
   ·subst f;exact O.HN _
   ·obtain rfl:p=lo:=by lia
    obtain rfl:q=p+1:=by lia
    exact O.IZ _ _ j
end
section
variable {prog:Program}{w:World}{A:Around}{E:aEe}{s:Shared}{a₀:aEh}{κ:SortKind}{lt:aEf}
theorem UQ(O:Wk lt)(C:BB prog w A s κ lt a₀){Q:Unit->SortSt->Prop}(G:Base κ a₀ st)(v:pendingOf st= #[])(J:2<=a₀.size)(g:a₀.size<64)
  (h:∀a,Base κ a₀ a ->Seg lt (arrOf a) 0 a₀.size->Q () a):wpS (model prog w) A E s sortRuns' Q st:=by
 have k:minRun' a₀.size a₀.size 0=a₀.size:=by
  cases hz:a₀.size with
  | zero=>(clear g;omega)
  | succ f=>rw[minRun'_succ,if_pos (by omega)];try rfl
 have l:=G.size;rw[sortRuns'_eq];refine aBu (wpS_get ?_);dsimp only;simp only[l,k]
 refine aBu (wpS_mono (aDn
  (I:=λx c a =>(x=0/\c=(none,0)/\Base κ a₀ a /\pendingOf a = #[])\/(0<x/\c=(none,a₀.size)/\Base κ a₀ a /\Seg lt (arrOf a) 0 a₀.size/\(pendingOf a).size<=1))
  (Q:=λc a =>c=(none,a₀.size)/\Base κ a₀ a /\Seg lt (arrOf a) 0 a₀.size/\(pendingOf a).size<=1) ?turn ?last (.inl ⟨rfl,rfl,G,v⟩)) ?rest)
 case last=>
  rintro c a (⟨u,_⟩ | ⟨_,r⟩)
  ·(clear l k g;omega)
  ·exact r
 case turn=>
  have i:∀{d:SortSt},Base κ a₀ d->Seg lt (arrOf d) 0 a₀.size->pendingOf d= #[]->∀n,Base κ a₀ (setPending d ((pendingOf d).push (0,n,0)))/\Seg lt (arrOf (setPending d ((pendingOf d).push (0,n,0)))) 0 a₀.size/\(pendingOf (setPending d ((pendingOf d).push (0,n,0)))).size<=1:=λ{d} b y p n=>by
   refine⟨⟨b.perm,b.kind,b.TM⟩,y,?_⟩;show ((pendingOf d).push (0,n,0)).size<=1;rw[p];simp
  rintro x c a _ u (⟨rfl,rfl,b,p⟩ | ⟨_,rfl,r⟩)
  ·dsimp only;rw[if_neg (by (clear u l k g;omega))];simp only[Nat.sub_zero,Nat.min_self,Nat.zero_add];refine aBu (O0 O C (by omega) (by (clear u l k g;omega)) b λm e H m1 K j o=>?_);have z:pendingOf e= #[]:=o.2.trans p;simp only[Nat.zero_add]at j;dsimp only;by_cases less:m<a₀.size
   ·rw[if_pos less];refine aBu (wpS_lift (aC5 ⟨rfl,?_⟩));refine aBu (JU O C (by omega) K H (by simpa using j) λd L q _ M=>?_);have t :pendingOf d= #[]:=M.trans z;simp only[Nat.zero_add]at q;simp only[Bool.not_true,Bool.false_eq_true,if_false];refine aBu (wpS_get ?_);rw[show (pendingOf d).back? =none by rw[t];rfl];dsimp only;obtain⟨B,D,F⟩:=i L q t a₀.size;exact aBu (wpS_modify (aC6 (.inr ⟨by omega,rfl,B,D,F⟩)))
   ·obtain rfl:m=a₀.size:=by (clear m1 u l k g J;omega)
    rw[if_neg less];refine aBu (wpS_get ?_);rw[show (pendingOf e).back? =none by rw[z];rfl];dsimp only;obtain⟨B,D,F⟩:=i H j z a₀.size;exact aBu (wpS_modify (aC6 (.inr ⟨by omega,rfl,B,D,F⟩)))
  ·dsimp only;rw[if_pos (Nat.le_refl _)];exact aC6 ⟨rfl,r⟩
 case rest=>
  rintro c a ⟨rfl,b,y,p⟩;dsimp only;refine aBu (wpS_mono (aDn (I:=λ_ c e=>c=(none,())/\e=a) (Q:=λc e=>c=(none,())/\e=a) ?_ (λ_ _ r=>r) ⟨rfl,rfl⟩) ?_)
  ·rintro x c e _ _ ⟨rfl,rfl⟩;refine aBu (wpS_get ?_);rw[if_pos p];exact aC6 ⟨rfl,rfl⟩
  ·rintro c e ⟨rfl,rfl⟩;exact aC6 (h _ b y)
variable{vs:List Value}
theorem KA(g:xs.Perm (pairsOf vs))(m:Seg lt xs 0 vs.length):
  ((xs.map (·.2)).toList).Perm vs/\((xs.map (·.2)).toList).Pairwise (λx y=>lt (y,y) (x,x)=false):=by
 have h:xs.toList.Perm (vs.zip vs):=by rw[<-pairsOf_toList];exact Array.perm_iff_toList_perm.mp g
 have same:∀p∈xs.toList,p=(p.2,p.2):=λp b=>by
  have n:=h.mem_iff.mp b
  have:∀(l:List Value) (q:Keyed),q∈l.zip l->q=(q.2,q.2):=λl q c=>by
   induction l with
   | nil=>simp at c
   | cons v r o=>
    rw[List.zip_cons_cons]at c;rcases aBa.mp c with e | e
    ·rw[e]
    ·exact o e
  exact this vs p n
 have hsz:xs.size=vs.length:=by have:=g.size_eq;rw[pairsOf_size]at this;exact this
 refine⟨?_,?_⟩
 ·rw[Array.toList_map];have:=h.map (·.2)
  rwa [show (vs.zip vs).map (·.2)=vs from List.map_snd_zip (aB3 _)]at this
 ·rw[Array.toList_map,List.pairwise_map];rw[List.pairwise_iff_getElem];intro i j hi k d;have f :i<xs.size:=by simpa using hi
  have a :j<xs.size:=by simpa using k
  have q:=m i j (aCa _) (aCs d) (by rw[<-hsz];exact a);have s:c7 xs i=xs.toList[i]:=by unfold c7;rw[getElem?_pos xs i f];simp
  have t:c7 xs j=xs.toList[j]:=by unfold c7;rw[getElem?_pos xs j a];simp
  rw[s,t]at q;rw[same _ (List.getElem_mem hi),same _ (List.getElem_mem k)]at q;exact q
theorem zQ(O:Wk lt){a:Addr}{n:Nat}{P:PySem.Fin->Shared->Prop}(ho:s.heap.get? a=some (seqObj "list" vs.toArray n))(k:vs.length<64)
  (t:2<=vs.length->∀h' :Heap,(∀b o,b≠a->s.heap.get? b=some o->h'.get? b=some o)->BB prog w A {s with heap:=h'} κ lt (pairsOf vs)/\
   ∀v,v κ {s with heap:=h'}->wpAny (model prog w) A (keyKind' vs.toArray) v E {s with heap:=h'})
  (h:∀out:List Value,out.Perm vs->out.Pairwise (λx y=>lt (y,y) (x,x)=false)->P (.done (.ret .none)) {s with heap:=sortedHeap s.heap a vs out.toArray}):
  wpAny (model prog w) A (Builtin.«list.sort» ⟨[.ref a],[]⟩) P E s:=by
 have z:a<s.heap.objs.size:=aB5 ho;have B:sizeLine=16777216:=aBk
 obtain⟨m,C⟩:∃m,(s.heap.update a (Obj.mapSeq λ_=>#[])).get? a=some (seqObj "list" #[] m):=⟨_,get?_update_seq ho λ_=>#[]⟩
 have D:(((s.heap.update a (Obj.mapSeq λ_=>#[])).push (seqObj "tuple" vs.toArray 0)).push (seqObj "list" #[] 0)).get? a=some (seqObj "list" #[] m):=aB1 _ (aB1 _ C)
 have g:∀b o,b≠a->s.heap.get? b=some o->(((s.heap.update a (Obj.mapSeq λ_=>#[])).push (seqObj "tuple" vs.toArray 0)).push (seqObj "list" #[] 0)).get? b=some o:=λb o G e=>
  aB1 _ (aB1 _ (by rw[Heap.get?_update_ne _ _ _ _ G];exact e))
 have d:∀c :SortSt,(arrOf c).Perm (pairsOf vs)->Seg lt (arrOf c) 0 vs.length->failedOf c =none->wpAny (model prog w) A (do
   let touched:=(<-seqEpoch a) !=m
   Builtin.List.listUpdate (.ref a) λ_=>(arrOf c).map (·.2)
   if let some e:=failedOf c then rule "list.sort.comparison-raised";throw e
   if touched then rule "list.sort.modified";raiseError "ValueError" "list modified during sort"
   ret .none) P E {s with heap:=((s.heap.update a (Obj.mapSeq λ_=>#[])).push (seqObj "tuple" vs.toArray 0)).push (seqObj "list" #[] 0)}:=λc F j H=>by
  obtain⟨I,J⟩:=KA F j
  have M:((arrOf c).map (·.2)).size<=sizeLine:=by
   rw[Array.size_map];have:=F.size_eq;rw[pairsOf_size]at this;omega
  refine aAz (seqEpoch_at D rfl ?_);refine aAz (listUpdate_at D rfl ?_ (hsz2:=by (clear B z t k;omega)));rw[H];simp only[bne_self_eq_false,Bool.false_eq_true,if_false];have l:=h _ I J;rw[Array.toArray_toList]at l;exact aB0 l
 rw[list_sort_plain];refine aAz (listItems_at ho rfl ?_);refine aAz (listUpdate_at ho rfl ?_ (by rw[List.size_toArray];omega) (aCa _));refine aAz (seqEpoch_at C rfl ?_);refine aAz (aD8 ?_ (by show vs.length<=_;omega));refine aAz (aE8 ?_ (aCa _));refine aBf ?_;dsimp only;by_cases IF:vs.length<2
 ·have f :vs.toArray.size<2:=by rw[List.size_toArray];exact IF
  rw[if_pos f,if_pos f];refine aAz (aB0 ?_);rw[StateT.run_pure];refine aAz (aB0 ?_)
  exact d (SortSt.mk' general' (vs.toArray.zip vs.toArray) #[] 7 none) (Array.Perm.refl _) (λp q _ K N=>by
   obtain rfl:p=q:=by (clear f B z t k;omega)
   exact O.HN _) rfl
 ·have i:¬vs.toArray.size<2:=by rw[List.size_toArray];exact IF
  rw[if_neg i,if_neg i];obtain⟨u,kind⟩:=t (by omega) _ g;refine aAz (kind _ ?_)
  refine aAz (aBw (UQ (Q:=λ_ c =>Base κ (pairsOf vs) c /\Seg lt (arrOf c) 0 (pairsOf vs).size) O u (st:=SortSt.mk' κ (vs.toArray.zip vs.toArray) #[] 7 none) ⟨Array.Perm.refl _,rfl,rfl⟩ rfl
   (by rw[pairsOf_size];omega) (by rw[pairsOf_size];omega) λc b j=>⟨b,j⟩) (λr R L=>?_) λ_ _ e=>e)
  obtain⟨⟨⟩,c⟩:=r;obtain⟨rfl,b,j⟩:=L;rw[pairsOf_size]at j;exact d c b.perm j b.TM
theorem FH(O:Wk lt){l:Addr}{Q:aEe}(d:s.heap.IsList l vs.toArray)(c:vs.length<64)
  (f:2<=vs.length->∀h' :Heap,(∀b o,s.heap.get? b=some o->h'.get? b=some o)->BB prog w A.in1.in1 {s with heap:=h'} κ lt (pairsOf vs)/\
   ∀a g,a κ {s with heap:=h'}->wpAny (model prog w) A.in1.in1 (keyKind' vs.toArray) a g {s with heap:=h'})
  (h:∀out:List Value,out.Perm vs->out.Pairwise (λx y=>lt (y,y) (x,x)=false)->Q (.ref (s.heap.objs.size+1)) {s with heap:=sortedAll s.heap vs out.toArray}):
  wpAny (model prog w) A (call (.builtin "sorted") [.ref l]) Q E s:=by
 have u:sizeLine=16777216:=aBk;have grown:((s.heap.push (seqObj "list" #[] 0)).update s.heap.objs.size (Obj.mapSeq (· ++vs.toArray))).objs.size=s.heap.objs.size+1:=by rw[Heap.size_update,size_push']
 have kept:∀b o,s.heap.get? b=some o->(((s.heap.push (seqObj "list" #[] 0)).update s.heap.objs.size (Obj.mapSeq (· ++vs.toArray))).push (seqObj "list" vs.toArray 0)).get? b=some o:=λb o e=>by
  have i:=aB5 e;refine aB1 _ ?_;rw[Heap.get?_update_ne _ _ _ _ (Nat.ne_of_lt i)];exact aB1 _ e
 refine aDd kind_sorted plain_sorted entry_sorted (args_sorted1 _) ?_;unfold Builtin.«sorted»;refine aAz (m:=checkCount "sorted" 1 1 _) (aB0 ?_);refine aAz (collect_list d ?_ (by omega));refine aAz (aE8 ?_ (by omega))
 have ob:(((s.heap.push (seqObj "list" #[] 0)).update s.heap.objs.size (Obj.mapSeq (· ++vs.toArray))).push (seqObj "list" vs.toArray 0)).get? (s.heap.objs.size+1)=some (seqObj "list" vs.toArray 0):=by
  rw[<-grown];exact aB4 _ rfl
 show wpAny _ _ _ _ _ {s with heap:=((s.heap.push (seqObj "list" #[] 0)).update s.heap.objs.size (Obj.mapSeq (· ++vs.toArray))).push (seqObj "list" vs.toArray 0)};rw[grown];refine aAz (aBf (aBb slot_list_sort ⟨_,ob,rfl⟩ entry_list_sort (zQ (κ:=κ) (s:={s with heap:=((s.heap.push (seqObj "list" #[] 0)).update s.heap.objs.size (Obj.mapSeq (· ++vs.toArray))).push (seqObj "list" vs.toArray 0)}) O ob c (λj h' k=>?_) λout n p=>⟨_,rfl,aB0 ⟨_,rfl,h out n p⟩⟩) (args_list_sort _)));obtain⟨r,t⟩:=f j h' λb o e=>k b o (aB9 (aBt (aB5 e))) (kept b o e);exact⟨r,λa q=>t a _ q⟩
end
end TS
namespace D3
open PySem PySem.Spec PyProof.Rows L2
inductive D where
 | bF | bl (b:Bool) | int (i:Int) | str (x:Str) | ty (n:String)
 | tup (ds:List D) | fl (ds:List D) | ref (n:Nat)
inductive MO where
 | lst (ds:List D)
 | dic (t:Bool) (kvs:List (D×D))
 | fdc (t:Bool) (kvs:List (D×D)) (ob:Obj)
 | dO (ds:List D) (f:Addr->List V->HO)
abbrev MH:=List MO
abbrev dX:=List (Option D)
def JP(K:aEd)(H:Hp)(a:Addr)(xs:List V):Prop:=
 (∃o,H a=some (.frz o (.lst xs)))\/
  ∃(o:Obj) (aH:Array Value) (n:Nat),K.lookup a=some o/\o.cls= .type "list"/\o.dict=none/\o.data= .seq aH n/\aH.size<=sizeLine/\Vals xs aH.toList
variable{K:aEd}{H:Hp}{a:Addr}{xs:List V}
theorem JP.sq(h:JP K H a xs):nV K H a xs:=by
 rcases h with h | h
 ·exact .inl (.inr h)
 ·exact .inr h
def ES(K:aEd)(H:Hp)(a:Addr)(xs:List V):Prop:=
 H a=some (.tup xs)\/
  ∃(o:Obj) (aH:Array Value) (n:Nat),K.lookup a=some o/\o.cls= .type "tuple"/\o.dict=none/\o.data= .seq aH n/\aH.size<=sizeLine/\Vals xs aH.toList
theorem ES.of(h:H a=some (.tup xs)):ES K H a xs:= .inl h
theorem ES.sq(h:ES K H a xs):pG K H a xs:=by
 rcases h with h | h
 ·exact .inl (.inl h)
 ·exact .inr h
mutual
def Is(K:aEd)(μ:List Addr)(H:Hp):D->V->Prop
 | .bF,v=>v= .bF
 | .bl b,v=>v= .bl b
 | .int i,v=>v= .int i
 | .str x,v=>v= .str x
 | .ty n,v=>v= .ty n
 | .tup ds,v=>∃a vs,v= .ref a/\ES K H a vs/\IsL K μ H ds vs
 | .fl ds,v=>∃a vs,v= .ref a/\JP K H a vs/\IsL K μ H ds vs
 | .ref n,v=>∃a,μ[n]? =some a/\v= .ref a
def IsL(K:aEd)(μ:List Addr)(H:Hp):List D->List V->Prop
 | [],vs=>vs=[]
 | d::ds,vs=>∃v r,vs=v::r/\Is K μ H d v/\IsL K μ H ds r
end
def aV:Key->D
 | .inl i=>.int i
 | .inr x=>.str x
def o5(o:Option HO)(ks:List D)(vs:List V):Bool->Prop
 | false=>∃kk:List (Key×V),o=some (.dK kk)/\ks=kk.map (λp=>aV p.1)/\vs=kk.map (·.2)
 | true=>∃kk:List (List Key×V),o=some (.dT kk)/\ks=kk.map (λp=>.tup (p.1.map aV))/\vs=kk.map (·.2)
def Own:Option HO->Prop
 | some (.frz _ (.dK _))=>True
 | some (.frz _ (.dT _))=>True
 | o=>A9 o
def j3(K:aEd)(μ:List Addr)(H:Hp):MO->Addr->Prop
 | .lst ds,a=>∃vs,H a=some (.lst vs)/\IsL K μ H ds vs
 | .dic t kvs,a=>∃vs,o5 (H a) (kvs.map (·.1)) vs t/\IsL K μ H (kvs.map (·.2)) vs
 | .fdc t kvs ob,a=>∃vs u,H a=some (.frz ob u)/\o5 (some u) (kvs.map (·.1)) vs t/\IsL K μ H (kvs.map (·.2)) vs
 | .dO ds f,a=>∃vs,(H a=some (f a vs)/\Own (some (f a vs)))/\IsL K μ H ds vs
structure Rep(K:aEd)(μ:List Addr)(mh:MH)(H:Hp):Prop where
 len:μ.length=mh.length
 nd:μ.Nodup
 obj:∀(n:Nat) a o,μ[n]? =some a->mh[n]? =some o->j3 K μ H o a
structure aG(μ:List Addr)(H:Hp)(μ' :List Addr)(H' :Hp):Prop where
 pre:∃t,μ' =μ++t
 fr:∀b o,H b=some o->b∉μ->H' b=some o
 nw:∀a∈μ',a∈μ\/H a=none
def bU(K:aEd)(μ:List Addr)(H:Hp)(a:dX)(σ:L2.St):Prop:=
 a.length=σ.length/\∀(i:Nat) d,a[i]? =some (some d)->∃v,σ[i]? =some (some v)/\Is K μ H d v
section
variable {K:aEd}{μ μ1 μ2 μ' :List Addr}{mh mh' :MH}{H H1 H2 H' :Hp}
theorem j3.mut{o:MO}(h:j3 K μ H o a):Own (H a):=by
 cases o with
 | lst ds=>obtain⟨vs,e,_⟩:=h;rw[e];trivial
 | dic t kvs=>cases t <;> (obtain⟨vs,⟨kk,e,_⟩,_⟩:=h;rw[e];trivial)
 | fdc t kvs ob=>cases t <;> (obtain⟨vs,u,e,⟨kk,b,_⟩,_⟩:=h;cases b;rw[e];trivial)
 | dO ds f=>obtain⟨vs,⟨e,m⟩,_⟩:=h;rw[e];exact m
theorem Rep.at(R:Rep K μ mh H)(h:a∈μ):∃(n:Nat) (o:MO),μ[n]? =some a/\mh[n]? =some o/\j3 K μ H o a:=by
 obtain⟨n,b⟩:=aC3.mp h;have c:n<mh.length:=by rw[<-R.len];exact(aB2.mp b).1
 exact⟨n,mh[n],b,by simp[c],R.obj n a _ b (by simp[c])⟩
theorem Rep.mut(R:Rep K μ mh H)(h:a∈μ):Own (H a):=let ⟨_,_,_,_,q⟩:=R.at h;q.mut
theorem aG.refl:aG μ H μ H:=⟨⟨[],by simp⟩,λ_ _ h _=>h,λ_ h=>.inl h⟩
theorem aG.trans(p:aG μ H μ1 H1)(q:aG μ1 H1 μ2 H2):aG μ H μ2 H2:=by
 refine⟨?_,λb o e n=>?_,λa d=>?_⟩
 ·obtain⟨t,rfl⟩:=p.pre;obtain⟨u,rfl⟩:=q.pre;exact⟨t++u,by simp⟩
 ·refine q.fr b o (p.fr b o e n) λf=>?_;rcases p.nw b f with z | z
  ·exact n z
  ·rw[e]at z;cases z
 ·rcases q.nw a d with z | z
  ·exact p.nw a z
  ·by_cases c:a∈μ
   ·exact .inl c
   ·right
    cases e:H a with
    | none=>rfl
    | some o=>rw[p.fr a o e c]at z;cases z
variable{n:Nat}
theorem aG.get(p:aG μ H μ' H')(h:μ[n]? =some a):μ'[n]? =some a:=by
 obtain⟨t,rfl⟩:=p.pre;rw[List.getElem?_append_left (List.getElem?_eq_some_iff.mp h).1];exact h
variable{vs:List V}
theorem Rep.U5(R:Rep K μ mh H)(p:aG μ H μ' H')(h:ES K H a vs):ES K H' a vs:=by
 rcases h with h | h
 ·refine .inl (p.fr _ _ h λb=>?_);have:=R.mut b;rw[h]at this;exact this
 ·exact .inr h
theorem Rep.U6(R:Rep K μ mh H)(p:aG μ H μ' H')(h:JP K H a vs):JP K H' a vs:=by
 rcases h with ⟨o,h⟩ | h
 ·refine .inl ⟨o,p.fr _ _ h λb=>?_⟩;have:=R.mut b;rw[h]at this;exact this
 ·exact .inr h
mutual
theorem Is.mono(R:Rep K μ mh H)(p:aG μ H μ' H'):∀(d:D) (v:V),Is K μ H d v->Is K μ' H' d v
 | .bF,v,h=>by unfold Is at*;exact h
 | .bl _,v,h=>by unfold Is at*;exact h
 | .int _,v,h=>by unfold Is at*;exact h
 | .str _,v,h=>by unfold Is at*;exact h
 | .ty _,v,h=>by unfold Is at*;exact h
 | .tup ds,v,h=>by
  unfold Is at*;obtain⟨a,vs,e,s,l⟩:=h;exact⟨a,vs,e,R.U5 p s,IsL.mono R p ds vs l⟩
 | .fl ds,v,h=>by
  unfold Is at*;obtain⟨a,vs,e,s,l⟩:=h;exact⟨a,vs,e,R.U6 p s,IsL.mono R p ds vs l⟩
 | .ref n,v,h=>by
  unfold Is at*;obtain⟨a,e,q⟩:=h;exact⟨a,p.get e,q⟩
theorem IsL.mono(R:Rep K μ mh H)(p:aG μ H μ' H'):∀(ds:List D) (vs:List V),IsL K μ H ds vs->IsL K μ' H' ds vs
 | [],vs,h=>by unfold IsL at*;exact h
 | d::ds,vs,h=>by
  unfold IsL at*;obtain⟨v,r,e,q,l⟩:=h;exact⟨v,r,e,Is.mono R p d v q,IsL.mono R p ds r l⟩
end
theorem bU.mono{a:dX}{σ:L2.St}(R:Rep K μ mh H)(p:aG μ H μ' H')(E:bU K μ H a σ):bU K μ' H' a σ:=⟨E.1,λi d e=>by
 obtain⟨v,b,c⟩:=E.2 i d e
 exact⟨v,b,Is.mono R p d v c⟩⟩
theorem j3.mono{o:MO}(R:Rep K μ mh H)(p:aG μ H μ' H')(e:H' a=H a)(h:j3 K μ H o a):j3 K μ' H' o a:=by
 cases o with
 | lst ds=>obtain⟨vs,q,l⟩:=h;exact⟨vs,by rw[e];exact q,IsL.mono R p ds vs l⟩
 | dic t kvs=>obtain⟨vs,q,l⟩:=h;exact⟨vs,by rw[e];exact q,IsL.mono R p _ vs l⟩
 | fdc t kvs ob=>obtain⟨vs,u,q,b,l⟩:=h;exact⟨vs,u,by rw[e];exact q,b,IsL.mono R p _ vs l⟩
 | dO ds f=>obtain⟨vs,⟨q,m⟩,l⟩:=h;exact⟨vs,⟨by rw[e];exact q,m⟩,IsL.mono R p ds vs l⟩
variable{q:Addr}
theorem aG.new{o:HO}(R:Rep K μ mh H)(a:H q=none):aG μ H μ (upd H q o):=
 ⟨⟨[],by simp⟩,λb u e _=>by rw[aN (bH e a)];exact e,λ_ h=>.inl h⟩
theorem Rep.ne(R:Rep K μ mh H)(b:H q=none)(h:a∈μ):a≠q:=by
 rintro rfl;have:=R.mut h;rw[b]at this;exact this
theorem Rep.new{o:HO}(R:Rep K μ mh H)(b:H q=none):Rep K μ mh (upd H q o):=
 ⟨R.len,R.nd,λn a ob c d=>(R.obj n a ob c d).mono R (aG.new R b) (aN (R.ne b (aB8 c)))⟩
theorem aG.DT{o:HO}(R:Rep K μ mh H)(c:H q=none):aG μ H (μ++[q]) (upd H q o):=
 ⟨⟨[q],rfl⟩,λb u e _=>by rw[aN (bH e c)];exact e,λa h=>by
  rcases aBn.mp h with h | h
  ·exact .inl h
  ·simp at h;subst h;exact .inr c⟩
theorem Rep.DT{ds:List D}(R:Rep K μ mh H)(e:H q=none)(l:IsL K μ H ds vs):Rep K (μ++[q]) (mh++[.lst ds]) (upd H q (.lst vs)):=by
 have P:aG μ H (μ++[q]) (upd H q (.lst vs)):=aG.DT R e;refine⟨by simp[R.len],?_,λn a ob c d=>?_⟩
 ·rw[List.nodup_append];refine⟨R.nd,by simp,λa h b f=>?_⟩;simp at f;subst f;exact R.ne e h
 ·by_cases g:n<μ.length
  ·rw[List.getElem?_append_left g]at c;rw[List.getElem?_append_left (by rw[<-R.len];exact g)]at d;exact(R.obj n a ob c d).mono R P (aN (R.ne e (aB8 c)))
  ·rw[List.getElem?_append_right (by lia)]at c;rw[List.getElem?_append_right (by rw[<-R.len];lia)]at d
   have hz:n-μ.length=0:=by
    have:=(aB2.mp c).1;simp at this;lia
   rw[hz]at c;rw[<-R.len,hz]at d;simp at c d;subst c d;exact⟨vs,aQ,l.mono R P⟩
theorem aG.set{o:HO}(R:Rep K μ mh H)(h:μ[n]? =some a):aG μ H μ (upd H a o):=
 ⟨⟨[],by simp⟩,λb u e c=>by rw[aN (λz=>c (by rw[z];exact List.mem_of_getElem? h))];exact e,λ_ h=>.inl h⟩
theorem sY{n m:Nat}(nd:μ.Nodup)(b:μ[n]? =some a)(c:μ[m]? =some a):n=m:=by
 obtain⟨f,d⟩:=aB2.mp b;obtain⟨g,e⟩:=aB2.mp c;exact(List.getElem_inj nd).mp (d.trans e.symm)
theorem Rep.set{ds:List D}(R:Rep K μ mh H)(h:μ[n]? =some a)(l:IsL K μ H ds vs):Rep K μ (mh.set n (.lst ds)) (upd H a (.lst vs)):=by
 have P:aG μ H μ (upd H a (.lst vs)):=aG.set R h;refine⟨by simp[R.len],R.nd,λm b ob c d=>?_⟩;by_cases e:m=n
 ·subst e;rw[h]at c;cases c;have f:m<mh.length:=by rw[<-R.len];exact(aB2.mp h).1
  rw[List.getElem?_set_self f]at d;cases d;exact⟨vs,aQ,l.mono R P⟩
 ·rw[List.getElem?_set_ne (Ne.symm e)]at d;exact(R.obj m b ob c d).mono R P (aN λz=>e (sY R.nd c (by rw[z];exact h)))
end
abbrev DK:=D->MH->Prop
abbrev WE:=dX->MH->DK->Prop
def Fin(K:aEd)(μ:List Addr)(H:Hp)(R:DK)(Q:VK):Prop:=
 ∀d mh',R d mh' ->∀μ' v H',aG μ H μ' H' ->Rep K μ' mh' H' ->Is K μ' H' d v->Q v H'
def tL(K:aEd)(w:WE):TE:=λσ H Q=>∃μ a mh R,Rep K μ mh H/\bU K μ H a σ/\w a mh R/\Fin K μ H R Q
def LE(X:Cx)(e:Expr)(w:WE):Prop:=PE X e (tL X.K w)
variable{X:Cx}
theorem PE.imp{e:Expr}{t t' :TE}(h:PE X e t)(i:∀σ H Q,t' σ H Q->t σ H Q):PE X e t' :=λpins s σ H Q I q=>h pins s σ H Q I (i σ H Q q)
variable{R:DK}
theorem Fin.at{μ a:List Addr}{H b:Hp}{Q:VK}(F:Fin K μ H R Q)(P:aG μ H a b):Fin K a b R Q:=
 λd mh' r μ' v H' c e I=>F d mh' r μ' v H' (P.trans c) e I
def aB(i:Nat):WE:=λa mh Q=>∃d,a[i]? =some (some d)/\Q d mh
def wC(d:D):WE:=λ_ mh Q=>Q d mh
section
variable {X:Cx}{a b c:Expr}{wa wb wc:WE}{pos:Pos}
theorem RT(i:Nat){x:Str}(hN:X.N[i]? =some x:=by rfl)(hv:YN X.env.scope x:=by first | exact Or.inl rfl | exact Or.inr (Or.inl rfl) | exact Or.inr (Or.inr rfl))(hd:(x==("__debug__":Str))=false:=by decide)
  (a:(x==("__classdict__":Str))=false:=by decide):LE X (.Name x pos) (aB i):=PE.imp (QD hN hv hd a) λσ H Q h=>by
 obtain⟨μ,c,mh,R,r,E,⟨d,hd,b⟩,F⟩:=h;obtain⟨v,e,i⟩:=E.2 _ d hd;exact⟨v,e,F d mh b μ v H aG.refl r i⟩
theorem G7{e:Expr}{v:V}{d:D}(h:PE X e (tC v))(a:∀μ H,Is X.K μ H d v):LE X e (wC d):=PE.imp h λσ H Q h=>by
 obtain⟨μ,c,mh,R,r,E,b,F⟩:=h;exact F d mh b μ v H aG.refl r (a μ H)
theorem le_int{i:Int}{j}:LE X (.Constant (.int i) j pos) (wC (.int i)):=G7 QJ λ_ _=>by unfold Is;rfl
theorem WZ{i:Bool}{j}:LE X (.Constant (.bool i) j pos) (wC (.bl i)):=G7 VX λ_ _=>by unfold Is;rfl
theorem RX{j}:LE X (.Constant .none j pos) (wC .bF):=G7 QH λ_ _=>by unfold Is;rfl
theorem le_str{i:Str}{j}:LE X (.Constant (.str i) j pos) (wC (.str i)):=G7 QE λ_ _=>by unfold Is;rfl
theorem L7{x:Str}{T:String}(hg:Gl X x)(a:X.mg x=none)(hv:bootBuiltins x=some (.type T))(b:x≠ "__name__":=by decide)(hd:(x==("__debug__":Str))=false:=by decide):LE X (.Name x pos) (wC (.ty T)):=
 G7 (K5 (v:= .ty T) hg a hv rfl b hd) λ_ _=>by unfold Is;rfl
abbrev O2:=D->D->MH->DK->Prop
def aY(K:aEd)(f:O2):R2:=λx y H Q=>∃μ mh dx a R,Rep K μ mh H/\Is K μ H dx x/\Is K μ H a y/\f dx a mh R/\Fin K μ H R Q
def aJ(f:O2)(wa wb:WE):WE:=λc mh Q=>wa c mh λx a=>wb c a λy b=>f x y b Q
variable{f:O2}
theorem B4{σ:L2.St}{Q:VK}(h:tL K (aJ f wa wb) σ H Q):UX (aY K f) (tL K wa) (tL K wb) σ H Q:=by
 obtain⟨μ,e,mh,R,g,E,h,F⟩:=h;refine⟨μ,e,mh,_,g,E,h,λdx a l b m r i j n=>⟨b,e,a,_,j,E.mono g i,l,λo c p d s t k R2 q=>?_⟩⟩;exact⟨d,c,dx,o,R,R2,Is.mono j k dx m n,q,p,F.at (i.trans k)⟩
theorem WR{c:Operator}(ho:cS X (binaryOp c) (aY X.K f))(d:LE X a wa)(e:LE X b wb):LE X (.BinOp a c b pos) (aJ f wa wb):=PE.imp (OF ho d e) λ_ _ _ h=>B4 h
theorem R7{c:CmpOp}(ho:cS X (compareOp c) (aY X.K f))(d:LE X a wa)(e:LE X b wb)(g:behindInMarks c b=false):LE X (.Compare a [c] [b] pos) (aJ f wa wb):=PE.imp (K3 ho d e g) λ_ _ _ h=>B4 h
theorem CF(ho:JQ X (aY X.K f))(c:LE X a wa)(d:LE X b wb)(hs:C4 b):LE X (.Subscript a b pos) (aJ f wa wb):=PE.imp (VU ho c d hs) λ_ _ _ h=>B4 h
abbrev WT:=dX->MH->(Bool->MH->Prop)->Prop
def NS(K:aEd)(μ:List Addr)(H:Hp)(R:Bool->MH->Prop)(Q:Bool->Hp->Prop):Prop:=
 ∀b mh',R b mh' ->∀μ' H',aG μ H μ' H' ->Rep K μ' mh' H' ->Q b H'
def J5(K:aEd)(w:WT):TT:=λσ H Q=>∃μ a mh R,Rep K μ mh H/\bU K μ H a σ/\w a mh R/\NS K μ H R Q
def LT(X:Cx)(e:Expr)(w:WT):Prop:=PT X e (J5 X.K w)
def LW(X:Cx)(e:Expr)(w:WT):Prop:=PW X e (J5 X.K w)
theorem PT.imp{X:Cx}{e:Expr}{t t' :TT}(h:PT X e t)(i:∀σ H Q,t' σ H Q->t σ H Q):PT X e t' :=λpins s σ H Q I q=>h pins s σ H Q I (i σ H Q q)
theorem PW.imp{X:Cx}{e:Expr}{t t' :TT}(h:PW X e t)(i:∀σ H Q,t' σ H Q->t σ H Q):PW X e t' :=λa pins s σ H Q I q=>h a pins s σ H Q I (i σ H Q q)
variable{Q:Bool->Hp->Prop}
theorem NS.at{μ a:List Addr}{H c:Hp}{R:Bool->MH->Prop}(F:NS K μ H R Q)(P:aG μ H a c):NS K a c R Q:=
 λb mh' r μ' H' d e =>F b mh' r μ' H' (P.trans d) e
def cL(w:WE):WT:=λb mh Q=>w b mh λx a=>∃k,x= .bl k/\Q k a
theorem O5{t:TE}{w:WE}{σ:L2.St}(i:∀σ H Q,tL K w σ H Q->t σ H Q)(h:J5 K (cL w) σ H Q):N6 t σ H Q:=by
 obtain⟨μ,e,mh,R,f,E,h,F⟩:=h;refine i σ H _ ⟨μ,e,mh,_,f,E,h,λdx a b c m g j l d=>?_⟩;obtain⟨k,rfl,b⟩:=b;unfold Is at d;exact⟨k,d,F k a b c g j l⟩
theorem GX{c:CmpOp}(ho:cS X (compareOp c) (aY X.K f))(d:LE X a wa)(e:LE X b wb)(g:behindInMarks c b=false):LT X (.Compare a [c] [b] pos) (cL (aJ f wa wb)):=
 PT.imp (KQ ho d e g) λ_ _ _ h=>O5 (λ_ _ _ z=>B4 z) h
def jL(mh:MH):D->Option Bool
 | .bF=>some false
 | .bl b=>some b
 | .int i=>some (i !=0)
 | .str y=>if y.length<=sizeLine then some ((y.length:Int) !=0) else none
 | .tup ds=>some !ds.isEmpty
 | .fl ds=>some !ds.isEmpty
 | .ref n=>match mh[n]? with | some (.lst ds)=>some !ds.isEmpty | _=>none
 | .ty _=>none
theorem aO{K:aEd}{μ:List Addr}{H:Hp}:∀{ds:List D} {vs:List V},IsL K μ H ds vs->vs.length=ds.length
 | [],vs,h=>by unfold IsL at h;subst h;rfl
 | d::ds,vs,h=>by unfold IsL at h;obtain⟨v,r,rfl,_,l⟩:=h;simp[aO l]
theorem vE{μ:List Addr}{ds:List D}{vs:List V}(h:IsL K μ H ds vs):vs.isEmpty=ds.isEmpty:=by
 have:=aO h;cases vs <;> cases ds <;> simp_all
theorem O7{μ:List Addr}{mh:MH}{d:D}{v:V}{k:Bool}(R:Rep K μ mh H)(h:Is K μ H d v)(e:jL mh d=some k):UC K v H k:=by
 cases d with
 | bF=>unfold Is at h;subst h;simp[jL]at e;subst e;rfl
 | bl b=>unfold Is at h;subst h;simp[jL]at e;subst e;rfl
 | int i=>unfold Is at h;subst h;simp[jL]at e;subst e;rfl
 | str y=>
  unfold Is at h;subst h;simp only[jL]at e;split at e
  ·rename_i hl;exact⟨hl,(aBl e).symm⟩
  ·cases e
 | ty n=>simp[jL]at e
 | tup ds=>
  unfold Is at h;obtain⟨a,vs,rfl,s,l⟩:=h;obtain rfl:(!ds.isEmpty)=k:=aBl e;exact .inr (.inl ⟨vs,s.sq,by rw[vE l]⟩)
 | fl ds=>
  unfold Is at h;obtain⟨a,vs,rfl,s,l⟩:=h;obtain rfl:(!ds.isEmpty)=k:=aBl e;exact .inl ⟨vs,s.sq,by rw[vE l]⟩
 | ref n=>
  unfold Is at h;obtain⟨a,q,rfl⟩:=h;simp only[jL]at e
  cases o:mh[n]? with
  | none=>rw[o]at e;cases e
  | some ob=>
   cases ob with
   | lst ds=>
    rw[o]at e;cases e;obtain⟨vs,hv,l⟩:=R.obj n a _ q o;exact .inl ⟨vs,.of hv,by rw[vE l]⟩
   | dic t kvs=>rw[o]at e;cases e
   | fdc t kvs ob=>rw[o]at e;cases e
   | dO ds f=>rw[o]at e;cases e
def wO(w:WE):WT:=λb mh Q=>w b mh λx a=>∃k,jL a x=some k/\Q k a
theorem GW(i:LE X a wa)(he:∀b,isTrue a X.env b=(do let v<-b;standAt a.pos;holding [v] (truthy v)):=by intro _;rfl):LT X a (wO wa):=PT.imp (FU i he) λσ H Q h=>by
 obtain⟨μ,j,mh,R,l,E,h,F⟩:=h;refine⟨μ,j,mh,_,l,E,h,λdx c d f p m n g o=>?_⟩;obtain⟨k,e,d⟩:=d;exact⟨k,O7 g o e,F k c d f m n g⟩
def wV(t u:WT):WT:=λb mh Q=>t b mh λc a=>if c=true then u b a Q else Q false a
def wU(t u:WT):WT:=λb mh Q=>t b mh λc a=>if c=true then Q true a else u b a Q
def E7(t:WT):WT:=λb mh Q=>t b mh λc a=>Q (!c) a
variable {ta tb:WT}{rest:List Expr}
theorem LP(b:LT X a ta):LW X (.BoolOp .And [a] pos) ta:=KN b
theorem RF(b:LT X a ta):LW X (.BoolOp .Or [a] pos) ta:=PZ b
theorem RG(l:LT X a ta)(m:LW X (.BoolOp .And (b::rest) pos) tb):LW X (.BoolOp .And (a::b::rest) pos) (wV ta tb):=PW.imp (P0 l m) λσ H Q h=>by
 obtain⟨μ,i,mh,R,j,E,h,F⟩:=h;refine⟨μ,i,mh,_,j,E,h,λc d f e n g k=>?_⟩
 cases c with
 | true=>rw[if_pos rfl]at f⊢;exact⟨e,i,d,R,k,E.mono j g,f,F.at g⟩
 | false=>rw[if_neg Bool.false_ne_true]at f⊢;exact F false d f e n g k
theorem OH(l:LT X a ta)(m:LW X (.BoolOp .Or (b::rest) pos) tb):LW X (.BoolOp .Or (a::b::rest) pos) (wU ta tb):=PW.imp (VP l m) λσ H Q h=>by
 obtain⟨μ,i,mh,R,j,E,h,F⟩:=h;refine⟨μ,i,mh,_,j,E,h,λc d f e n g k=>?_⟩
 cases c with
 | true=>rw[if_pos rfl]at f⊢;exact F true d f e n g k
 | false=>rw[if_neg Bool.false_ne_true]at f⊢;exact⟨e,i,d,R,k,E.mono j g,f,F.at g⟩
theorem LW.lt(h:LW X a ta):LT X a ta:=PW.pt h
theorem RH(e:LT X a ta):LT X (.UnaryOp .Not a pos) (E7 ta):=PT.imp (P6 e) λσ H Q h=>by
 obtain⟨μ,f,mh,R,g,E,h,F⟩:=h;exact⟨μ,f,mh,_,g,E,h,λc b i d j k l=>F (!c) b i d j k l⟩
def mS(wa wb:WE):WE:=λb mh Q=>wa b mh λx a=>∃c,x= .bl c/\if c=true then wb b a Q else Q (.bl false) a
theorem RV{op}(b:LE X a wa):LE X (.BoolOp op [a] pos) wa:=QF b
theorem R8(m:LE X a wa)(n:LE X (.BoolOp .And (b::rest) pos) wb):LE X (.BoolOp .And (a::b::rest) pos) (mS wa wb):=PE.imp (QK m n) λσ H Q h=>by
 obtain⟨μ,i,mh,R,j,E,h,F⟩:=h;refine⟨μ,i,mh,_,j,E,h,λdx e d f p o g k l=>?_⟩;obtain⟨c,rfl,d⟩:=d;unfold Is at l;refine⟨c,l,?_⟩
 cases c with
 | true=>rw[if_pos rfl]at d⊢;exact⟨f,i,e,R,k,E.mono j g,d,F.at g⟩
 | false=>rw[if_neg Bool.false_ne_true]at d⊢;exact F _ e d f _ o g k (by unfold Is;rfl)
def BJ(wa:WE):WE:=λb mh Q=>wa b mh λx a=>∃c,x= .bl c/\Q (.bl !c) a
theorem RW(g:LE X a wa):LE X (.UnaryOp .Not a pos) (BJ wa):=PE.imp (QG g) λσ H Q h=>by
 obtain⟨μ,i,mh,R,j,E,h,F⟩:=h;refine⟨μ,i,mh,_,j,E,h,λdx b d e n k l m f=>?_⟩;obtain⟨c,rfl,d⟩:=d;unfold Is at f;exact⟨c,f,F _ b d e _ k l m (by unfold Is;rfl)⟩
def YV(t:WT)(wa wb:WE):WE:=λb mh Q=>t b mh λc a=>if c=true then wa b a Q else wb b a Q
theorem G4(m:LT X c ta)(n:LE X a wa)(o:LE X b wb):LE X (.IfExp c a b pos) (YV ta wa wb):=PE.imp (F7 m n o) λσ H Q h=>by
 obtain⟨μ,i,mh,R,j,E,h,F⟩:=h;refine⟨μ,i,mh,_,j,E,h,λk d f e p g l=>?_⟩
 cases k with
 | true=>rw[if_pos rfl]at f⊢;exact⟨e,i,d,R,l,E.mono j g,f,F.at g⟩
 | false=>rw[if_neg Bool.false_ne_true]at f⊢;exact⟨e,i,d,R,l,E.mono j g,f,F.at g⟩
end
abbrev WA:=dX->MH->(List D->MH->Prop)->Prop
def FinA(K:aEd)(μ:List Addr)(H:Hp)(R:List D->MH->Prop)(Q:List V->Hp->Prop):Prop:=
 ∀ds mh',R ds mh' ->∀μ' vs H',aG μ H μ' H' ->Rep K μ' mh' H' ->IsL K μ' H' ds vs->Q vs H'
def tLA(K:aEd)(w:WA):TA:=λσ H Q=>∃μ a mh R,Rep K μ mh H/\bU K μ H a σ/\w a mh R/\FinA K μ H R Q
def LA(X:Cx)(es:List Expr)(w:WA):Prop:=PA X es (tLA X.K w)
theorem PA.imp{e:List Expr}{t t' :TA}(h:PA X e t)(i:∀σ H Q,t' σ H Q->t σ H Q):PA X e t' :=λpos pins s σ H Q I q=>h pos pins s σ H Q I (i σ H Q q)
def aE:WA:=λ_ mh Q=>Q [] mh
def aA(w:WE)(d:WA):WA:=λc mh Q=>w c mh λx a=>d c a λxs b=>Q (x::xs) b
def RC(ds:List D)(mh:MH)(Q:DK):Prop:=ds.length<=sizeLine/\Q (.tup ds) mh
def AB(ds:List D)(mh:MH)(Q:DK):Prop:=ds.length<=sizeLine/\Q (.ref mh.length) (mh++[.lst ds])
section
variable {K:aEd}{μ:List Addr}{mh:MH}{H:Hp}{R:DK}{Q:VK}{ds:List D}{vs:List V}
theorem kH(a:Rep K μ mh H)(F:Fin K μ H R Q)(l:IsL K μ H ds vs)(h:R (.tup ds) mh):∀p,H p=none->Q (.ref p) (upd H p (.tup vs)):=λp b=>
 F _ mh h μ _ _ (aG.new a b) (a.new b) (by unfold Is;exact⟨p,vs,rfl,.of aQ,IsL.mono a (aG.new a b) ds vs l⟩)
theorem fW(a:Rep K μ mh H)(F:Fin K μ H R Q)(l:IsL K μ H ds vs)(h:R (.ref mh.length) (mh++[.lst ds])):∀p,H p=none->Q (.ref p) (upd H p (.lst vs)):=λp b=>
 F _ _ h (μ++[p]) _ _ (aG.DT a b) (a.DT b l) (by unfold Is;exact⟨p,by rw[<-a.len];simp,rfl⟩)
end
def iW(w:WA):WE:=λb mh Q=>w b mh λds a=>RC ds a Q
def f9(w:WA):WE:=λb mh Q=>w b mh λds a=>AB ds a Q
section
variable {X:Cx}{e:Expr}{es:List Expr}{w:WE}{wr:WA}{pos:Pos}
theorem SF:LA X [] aE:=PA.imp zX λσ H Q h=>by
 obtain⟨μ,b,mh,R,a,E,h,F⟩:=h;exact F [] mh h μ [] H aG.refl a (by unfold IsL;rfl)
theorem MI(m:LE X e w)(n:LA X es wr)(hs:starEach (e::es) X.env=(false,eval e X.env)::starEach es X.env:=by rfl):LA X (e::es) (aA w wr):=PA.imp (uM m n hs) λσ H Q h=>by
 obtain⟨μ,f,mh,R,g,E,h,F⟩:=h;refine⟨μ,f,mh,_,g,E,h,λdx a o b i t j k p=>⟨b,f,a,_,k,E.mono g j,o,λds c q d vs r l R2 s=>?_⟩⟩;exact F _ c q d _ r (j.trans l) R2 (by unfold IsL;exact⟨i,vs,rfl,Is.mono k l dx i p,s⟩)
theorem RU{x1}(h:LA X es wr):LE X (.Tuple es x1 pos) (iW wr):=PE.imp (F4 h) λσ H Q h=>by
 obtain⟨μ,c,mh,R,d,E,h,F⟩:=h;refine⟨μ,c,mh,_,d,E,h,λds e a f vs j g i b=>⟨by rw[aO b];exact a.1,kH i (F.at g) b a.2⟩⟩
theorem RY(h:LA X es wr):LE X (.List es pos) (f9 wr):=PE.imp (QI h) λσ H Q h=>by
 obtain⟨μ,c,mh,R,d,E,h,F⟩:=h;refine⟨μ,c,mh,_,d,E,h,λds e a f vs j g i b=>⟨by rw[aO b];exact a.1,fW i (F.at g) b a.2⟩⟩
abbrev OA:=List D->MH->DK->Prop
def cP(K:aEd)(f:OA):List V->Hp->VK->Prop:=λxs H Q=>∃μ mh ds R,Rep K μ mh H/\IsL K μ H ds xs/\f ds mh R/\Fin K μ H R Q
def aD(f:OA)(w:WA):WE:=λb mh Q=>w b mh λds a=>f ds a Q
theorem call_in{f:OA}{σ:L2.St}{Q:VK}(h:tL K (aD f wr) σ H Q):ZC (cP K f) (tLA K wr) σ H Q:=by
 obtain⟨μ,c,mh,R,d,E,h,F⟩:=h;exact⟨μ,c,mh,_,d,E,h,λds a e b vs k g i j=>⟨b,a,ds,R,i,j,e,F.at g⟩⟩
theorem G6{x:Str}{p:Pos}{id:String}{f:OA}(c:bR X (.builtin id) (cP X.K f))(hg:Gl X x)(d:X.mg x=none)(hv:bootBuiltins x=some (.builtin id))(g:LA X (e::es) wr)(i:x≠ "__name__":=by decide)(a:(x==("__debug__":Str))=false:=by decide)
  (he:starEach (e::es) X.env=(false,eval e X.env)::starEach es X.env:=by rfl) (b:(backTo pos (starEach es X.env)).any (·.1)=false:=by rfl):LE X (.Call (.Name x p) (e::es) [] pos) (aD f wr):=
 PE.imp (xQ c hg d hv g i a he b) λ_ _ _ h=>call_in h
theorem D0{x:Str}{p:Pos}{T:String}{f:OA}(c:bR X (.type T) (cP X.K f))(hg:Gl X x)(d:X.mg x=none)(hv:bootBuiltins x=some (.type T))(g:LA X (e::es) wr)(i:x≠ "__name__":=by decide)(a:(x==("__debug__":Str))=false:=by decide)
  (he:starEach (e::es) X.env=(false,eval e X.env)::starEach es X.env:=by rfl) (b:(backTo pos (starEach es X.env)).any (·.1)=false:=by rfl):LE X (.Call (.Name x p) (e::es) [] pos) (aD f wr):=
 PE.imp (sX c hg d hv g i a he b) λ_ _ _ h=>call_in h
def JK(K:aEd)(f:OA):Sp:=λvs H Q _=>cP K f vs H Q
theorem MD{k:Nat}{f:Addr}{fd:FuncData}{ps:List Str}{x:Str}{p:Pos}{s:OA}(F:hU X.prog X.w X.K X.mg X.base wG k f fd ps (JK X.K s))(g:eE k X.A)(hg:Gl X x)(i:X.mg x=some (.ref f))(hk:PySem.W.keepIn X.K (.ref f)=true)(j:Binds X.K fd ps [])
  (l:LA X (e::es) wr) (a:(x==("__debug__":Str))=false:=by decide) (he:starEach (e::es) X.env=(false,eval e X.env)::starEach es X.env:=by rfl) (b:(backTo pos (starEach es X.env)).any (·.1)=false:=by rfl):
  LE X (.Call (.Name x p) (e::es) [] pos) (aD s wr):=PE.imp (K4 F g hg i hk j .nil VY l a he b) λσ H Q h=>by
 obtain⟨μ,m,mh,R,n,E,h,o⟩:=h;refine⟨μ,m,mh,_,n,E,h,λds c q d vs r t u v=>?_⟩;show cP X.K s (vs++[]) r Q;rw[List.append_nil];exact⟨d,c,ds,R,u,v,q,o.at t⟩
end
section
variable {K:aEd}{μ:List Addr}{mh:MH}{H:Hp}
theorem Is.int{i:Int}:Is K μ H (.int i) (.int i):=by unfold Is;rfl
theorem Is.str{i:Str}:Is K μ H (.str i) (.str i):=by unfold Is;rfl
theorem Is.bl{i:Bool}:Is K μ H (.bl i) (.bl i):=by unfold Is;rfl
theorem Is.bF:Is K μ H .bF .bF:=by unfold Is;rfl
variable{v:V}
theorem aX{i:Int}(h:Is K μ H (.int i) v):v= .int i:=by unfold Is at h;exact h
theorem cD{i:Str}(h:Is K μ H (.str i) v):v= .str i:=by unfold Is at h;exact h
theorem tG{i:Bool}(h:Is K μ H (.bl i) v):v= .bl i:=by unfold Is at h;exact h
theorem vD(h:Is K μ H .bF v):v= .bF:=by unfold Is at h;exact h
variable{ds:List D}
theorem pP(h:Is K μ H (.tup ds) v):∃a vs,v= .ref a/\ES K H a vs/\IsL K μ H ds vs:=by unfold Is at h;exact h
theorem cQ(h:Is K μ H (.tup ds) v):∃a vs,v= .ref a/\pG K H a vs/\IsL K μ H ds vs:=by obtain⟨a,vs,e,s,l⟩:=pP h;exact⟨a,vs,e,s.sq,l⟩
theorem lI(h:Is K μ H (.fl ds) v):∃a vs,v= .ref a/\JP K H a vs/\IsL K μ H ds vs:=by unfold Is at h;exact h
theorem fG{n:Nat}(h:Is K μ H (.ref n) v):∃a,μ[n]? =some a/\v= .ref a:=by unfold Is at h;exact h
theorem d3:∀{ds:List D} {vs:List V} {i:Nat} {d:D},IsL K μ H ds vs->ds[i]? =some d->∃v,vs[i]? =some v/\Is K μ H d v
 | [],_,_,_,_,e=>by simp at e
 | x::ds,vs,i,d,h,e=>by
  unfold IsL at h;obtain⟨v,r,rfl,q,l⟩:=h
  cases i with
  | zero=>simp at e;subst e;exact⟨v,rfl,q⟩
  | succ i=>obtain⟨u,a,b⟩:=d3 (i:=i) l (by simpa using e);exact⟨u,by simpa using a,b⟩
theorem iJ:∀{ds es:List D} {vs us:List V},IsL K μ H ds vs->IsL K μ H es us->IsL K μ H (ds++es) (vs++us)
 | [],es,vs,us,h,q=>by unfold IsL at h;subst h;exact q
 | d::ds,es,vs,us,h,q=>by
  unfold IsL at h;obtain⟨v,r,rfl,i,l⟩:=h;show IsL K μ H (d::(ds++es)) (v::(r++us));unfold IsL;exact⟨v,_,rfl,i,iJ l q⟩
variable{d:D}
theorem kA(h:Is K μ H d v):IsL K μ H [d] [v]:=by unfold IsL;exact⟨v,[],rfl,h,by unfold IsL;rfl⟩
theorem yH:∀(n:Nat) {ds:List D} {vs:List V},IsL K μ H ds vs->IsL K μ H (ds.drop n) (vs.drop n)
 | 0,_,_,h=>by simpa using h
 | n+1,[],vs,h=>by unfold IsL at h;subst h;simp[IsL]
 | n+1,d::ds,vs,h=>by unfold IsL at h;obtain⟨v,r,rfl,_,l⟩:=h;simpa using yH n l
theorem yG:∀(n:Nat) {ds:List D} {vs:List V},IsL K μ H ds vs->IsL K μ H (ds.take n) (vs.take n)
 | 0,_,_,h=>by simp[IsL]
 | n+1,[],vs,h=>by unfold IsL at h;subst h;simp[IsL]
 | n+1,d::ds,vs,h=>by
  unfold IsL at h;obtain⟨v,r,rfl,i,l⟩:=h;simp only[List.take_succ_cons];unfold IsL;exact⟨v,_,rfl,i,yG n l⟩
theorem CP:∀(n:Nat) {ds:List D} {vs:List V} {d:D} {v:V},Is K μ H d v->IsL K μ H ds vs->IsL K μ H (ds.set n d) (vs.set n v)
 | n,[],vs,d,v,_,h=>by unfold IsL at h;subst h;simp[IsL]
 | 0,x::ds,vs,d,v,i,h=>by unfold IsL at h;obtain⟨u,r,rfl,_,l⟩:=h;simp only[List.set_cons_zero];unfold IsL;exact⟨v,r,rfl,i,l⟩
 | n+1,x::ds,vs,d,v,i,h=>by unfold IsL at h;obtain⟨u,r,rfl,q,l⟩:=h;simp only[List.set_cons_succ];unfold IsL;exact⟨u,_,rfl,q,CP n i l⟩
theorem SW{vs:List V}{i:Int}(l:IsL K μ H ds vs)(e:hX ds i=some d):∃v,hX vs i=some v/\Is K μ H d v:=by
 unfold hX at*;rw[aO l]
 cases q:EV ds.length i with
 | none=>rw[q]at e;cases e
 | some j=>rw[q]at e;exact d3 l e
def aT(mh:MH):D->Option (List D)
 | .tup ds=>some ds
 | .fl ds=>some ds
 | .ref n=>match mh[n]? with | some (.lst ds)=>some ds | _=>none
 | _=>none
theorem lT(R:Rep K μ mh H)(h:Is K μ H d v)(e:aT mh d=some ds):∃a vs,v= .ref a/\(nV K H a vs\/pG K H a vs)/\IsL K μ H ds vs:=by
 cases d with
 | tup es=>obtain⟨a,vs,rfl,s,l⟩:=cQ h;cases e;exact⟨a,vs,rfl,.inr s,l⟩
 | fl es=>obtain⟨a,vs,rfl,s,l⟩:=lI h;cases e;exact⟨a,vs,rfl,.inl s.sq,l⟩
 | ref n=>
  obtain⟨a,q,rfl⟩:=fG h;simp only[aT]at e
  cases o:mh[n]? with
  | none=>rw[o]at e;cases e
  | some ob=>
   cases ob with
   | lst es=>
    rw[o]at e;cases e;obtain⟨vs,hv,l⟩:=R.obj n a _ q o;exact⟨a,vs,rfl,.inl (.of hv),l⟩
   | dic t kvs=>rw[o]at e;cases e
   | fdc t kvs ob=>rw[o]at e;cases e
   | dO ds f=>rw[o]at e;cases e
 | _=>cases e
def iI(mh:MH):D->Option (List D)
 | .fl ds=>some ds
 | .ref n=>match mh[n]? with | some (.lst ds)=>some ds | _=>none
 | _=>none
theorem qR(R:Rep K μ mh H)(h:Is K μ H d v)(e:iI mh d=some ds):∃a vs,v= .ref a/\nV K H a vs/\IsL K μ H ds vs:=by
 cases d with
 | fl es=>obtain⟨a,vs,rfl,s,l⟩:=lI h;cases e;exact⟨a,vs,rfl,s.sq,l⟩
 | ref n=>
  obtain⟨a,q,rfl⟩:=fG h;simp only[iI]at e
  cases o:mh[n]? with
  | none=>rw[o]at e;cases e
  | some ob=>
   cases ob with
   | lst es=>
    rw[o]at e;cases e;obtain⟨vs,hv,l⟩:=R.obj n a _ q o;exact⟨a,vs,rfl,.of hv,l⟩
   | dic t kvs=>rw[o]at e;cases e
   | fdc t kvs ob=>rw[o]at e;cases e
   | dO ds f=>rw[o]at e;cases e
 | _=>cases e
theorem iG{n:Nat}(R:Rep K μ mh H)(h:Is K μ H (.ref n) v)(e:mh[n]? =some (.lst ds)):∃a vs,v= .ref a/\μ[n]? =some a/\H a=some (.lst vs)/\IsL K μ H ds vs:=by
 obtain⟨a,q,rfl⟩:=fG h;obtain⟨vs,hv,l⟩:=R.obj n a _ q e;exact⟨a,vs,rfl,q,hv,l⟩
theorem Fin.here{Q:VK}(F:Fin K μ H R Q)(a:Rep K μ mh H)(h:R d mh)(i:Is K μ H d v):Q v H:=F d mh h μ v H aG.refl a i
theorem Fin.put{Q:VK}{n:Nat}{vs:List V}(F:Fin K μ H R Q)(b:Rep K μ mh H)(c:μ[n]? =some a)(l:IsL K μ H ds vs)(h:R d (mh.set n (.lst ds)))(i:Is K μ H d v):Q v (upd H a (.lst vs)):=
 F d _ h μ v _ (aG.set b c) (b.set c l) (Is.mono b (aG.set b c) d v i)
end
def xS(C:Int->Int->Prop)(g:Int->Int->D):O2:=λx y mh Q=>∃i j,x= .int i/\y= .int j/\C i j/\Q (g i j) mh
section
variable {X:Cx}
variable{f:Value->Value->Sem Value}{g:Int->Int->V}
theorem qO{C:Int->Int->Prop}{g' :Int->Int->D}(h:cS X f (rI C g))(hg:∀μ H i j,Is X.K μ H (g' i j) (g i j)):cS X f (aY X.K (xS C g')):=by
 intro pins s σ H x y v u Q I a b q;obtain⟨μ,mh,dx,l,R,d,e,k,⟨i,j,rfl,rfl,c,q⟩,F⟩:=q;cases aX e;cases aX k;exact h pins s σ H _ _ v u Q I a b ⟨i,j,rfl,rfl,c,F.here d q (hg _ _ _ _)⟩
theorem VN(h:cS X f (PY g)):cS X f (rI (λ_ _=>True) g):=λpins s σ H x y v u Q I b c a=>by obtain⟨i,j,d,e,_,q⟩:=a;exact h pins s σ H x y v u Q I b c ⟨i,j,d,e,q⟩
abbrev LJ:O2:=xS (λ_ _=>True) λi j=>.int (i-j)
abbrev o9:O2:=xS EU λi j=>.int (i*j)
abbrev CA:O2:=xS X1 λi j=>.int (i / j)
abbrev oMod:O2:=xS (λ_ j=>0<j) λi j=>.int (i % j)
abbrev DP:O2:=xS UG λi j=>.int (i^j.toNat)
theorem QS:cS X (binaryOp .Sub) (aY X.K LJ):=qO (VN QL) λ_ _ _ _=>.int
theorem GF:cS X (binaryOp .Mult) (aY X.K o9):=qO QO λ_ _ _ _=>.int
theorem LG:cS X (binaryOp .FloorDiv) (aY X.K CA):=qO LB λ_ _ _ _=>.int
theorem QU:cS X (binaryOp .Mod) (aY X.K oMod):=qO QP λ_ _ _ _=>.int
theorem QT:cS X (binaryOp .Pow) (aY X.K DP):=qO QM λ_ _ _ _=>.int
def bN:O2:=λx y mh Q=>match x with
 | .int i=>match y with | .int j=>Q (.int (i+j)) mh | _=>False
 | .str i=>match y with | .str j=>i.length+j.length<=sizeLine/\Q (.str (i++j)) mh | _=>False
 | .tup i=>match y with | .tup j=>i.length+j.length<=sizeLine/\Q (.tup (i++j)) mh | _=>False
 | .ref n=>match y with | .ref m=>∃i j,mh[n]? =some (.lst i)/\mh[m]? =some (.lst j)/\AB (i++j) mh Q | _=>False
 | _=>False
theorem IU{prog:Program}{w:World}{A:Around}{E:aEe}{s:Shared}{t b:Addr}{g:List Value}{Q:aEe}(ht:IsTup s.heap t ([]:List Value).toArray)(k:IsTup s.heap b g.toArray)
  (h:Q (.ref b) s):wpAny (model prog w) A (binaryOp .Add (.ref t) (.ref b)) Q E s:=by
 obtain⟨⟨cls,l,data,sl⟩,ho,i,n,hd⟩:=id ht;obtain⟨⟨j,e,data2,f⟩,a,c,m,d⟩:=id k;simp only at i hd c d;subst i hd c d
 exact concat_meets ⟨_,ho,rfl⟩ ⟨_,a,rfl⟩ noFill_tuple_add seq_tuple_add aDl aDi (aDe _ _)
   (tuple_addW0 t b _ g.toArray n m l e sl f (by simp)) ⟨ho,a,h⟩
theorem QX:cS X (binaryOp .Add) (aY X.K bN):=by
 intro pins s σ H x y v u Q I g h q;obtain⟨μ,mh,dx,o,R,c,k,l,q,F⟩:=q
 cases dx with
 | int i=>cases o with
  | int j=>cases aX k;cases aX l;exact QR pins s σ H _ _ v u Q I g h ⟨i,j,rfl,rfl,F.here c q .int⟩
  | _=>exact False.elim q
 | str i=>cases o with
  | str j=>cases cD k;cases cD l;exact zY pins s σ H _ _ v u Q I g h ⟨i,j,rfl,rfl,q.1,F.here c q.2 .str⟩
  | _=>exact False.elim q
 | tup i=>cases o with
  | tup j=>
   obtain⟨a,xs,rfl,p,d⟩:=cQ k;obtain⟨b,t,rfl,r,f⟩:=cQ l;by_cases w:xs=[]
   ·subst w;cases g;cases h;obtain⟨aH,A,B,_⟩:=I.tuple p;obtain⟨z,J,C,_⟩:=I.tuple r;cases A;have hi:i=[]:=by have:=aO d;cases i <;> simp_all
    subst hi;exact IU B C ⟨.ref b,H,I,rfl,F.here c q.2 l⟩
   ·refine LC pins s σ H _ _ v u Q I g h ⟨a,b,xs,t,rfl,rfl,p,r,w,by rw[aO d,aO f];exact q.1,λe=>?_,λ_=>kH c F (iJ d f) q.2⟩;subst e;have D:j=[]:=by have:=aO f;cases j <;> simp_all
    subst D;exact F.here c q.2 (by simpa using k)
  | _=>exact False.elim q
 | ref n=>cases o with
  | ref m=>
   obtain⟨i,j,E,G,q⟩:=q;obtain⟨a,xs,rfl,_,p,d⟩:=iG c k E;obtain⟨b,t,rfl,_,r,f⟩:=iG c l G;exact QQ pins s σ H _ _ v u Q I g h ⟨a,b,xs,t,rfl,rfl,p,r,by rw[aO d,aO f,<-List.length_append];exact q.1,fW c F (iJ d f) q.2⟩
  | _=>exact False.elim q
 | _=>exact False.elim q
def b9:O2:=λx y mh Q=>∃i,y= .int i/\match x with
 | .str z=>z.length<=sizeLine/\∃c,hX z.cps.toList i=some c/\Q (.str ⟨#[c]⟩) mh
 | _=>∃ds d,aT mh x=some ds/\hX ds i=some d/\Q d mh
theorem ixl:JQ X (aY X.K b9):=by
 intro b f pins s σ H x y v u Q I h j q hs;obtain⟨μ,mh,dx,B,R,g,m,p,⟨i,rfl,q⟩,F⟩:=q;cases aX p
 have go:(∃ds d,aT mh dx=some ds/\hX ds i=some d/\R d mh)->wpAny (model X.prog X.w) X.A (subscriptTail b f v u) (EP X pins σ Q) X.xe s:=λk=>by
  obtain⟨ds,d,r,t,q⟩:=k;obtain⟨a,vs,rfl,sq,l⟩:=lT g m r;obtain⟨z,n,o⟩:=SW l t;rcases sq with sq | sq
  ·exact ML b f pins s σ H _ _ v u Q I h j ⟨a,vs,i,z,rfl,rfl,sq,n,F.here g q o⟩ hs
  ·exact SO b f pins s σ H _ _ v u Q I h j ⟨a,vs,i,z,rfl,rfl,sq,n,F.here g q o⟩ hs
 cases dx with
 | str z=>
  obtain⟨hz,c,e,q⟩:=q;cases cD m;exact SQ b f pins s σ H _ _ v u Q I h j ⟨z,i,c,rfl,rfl,hz,e,F.here g q .str⟩ hs
 | _=>exact go q
def oQ:D->Bool | .bF=>true | _=>false
variable{μ:List Addr}
theorem HJ{d:D}{v:V}(h:Is K μ H d v):decide (v= .bF)=oQ d:=by
 cases d with
 | bF=>cases vD h;rfl
 | bl _=>cases tG h;rfl
 | int _=>cases aX h;rfl
 | str _=>cases cD h;rfl
 | ty _=>unfold Is at h;subst h;rfl
 | tup _=>obtain⟨a,vs,rfl,_,_⟩:=cQ h;rfl
 | fl _=>obtain⟨a,vs,rfl,_,_⟩:=lI h;rfl
 | ref _=>obtain⟨a,_,rfl⟩:=fG h;rfl
def gW:O2:=λx y mh Q=>y= .bF/\Q (.bl !oQ x) mh
theorem LD:cS X (compareOp .IsNot) (aY X.K gW):=by
 intro pins s σ H x y v u Q I a b q;obtain⟨μ,mh,dx,f,R,c,d,e,⟨rfl,q⟩,F⟩:=q;cases vD e;exact K8 pins s σ H x _ v u Q I a b ⟨rfl,F.here c q (by rw[HJ d];exact .bl)⟩
def gF:OA:=λxs mh Q=>∃x,xs=[x]/\match x with
 | .str z=>z.length<=sizeLine/\Q (.int z.length) mh
 | _=>∃ds,aT mh x=some ds/\Q (.int ds.length) mh
variable{vs:List V}
theorem eP{d:D}(h:IsL K μ H [d] vs):∃v,vs=[v]/\Is K μ H d v:=by
 unfold IsL at h;obtain⟨v,r,rfl,i,l⟩:=h;unfold IsL at l;subst l;exact⟨v,rfl,i⟩
theorem tJ{d e:D}(h:IsL K μ H [d,e] vs):∃v u,vs=[v,u]/\Is K μ H d v/\Is K μ H e u:=by
 unfold IsL at h;obtain⟨v,r,rfl,i,l⟩:=h;obtain⟨u,rfl,j⟩:=eP l;exact⟨v,u,rfl,i,j⟩
theorem TX:bR X (.builtin "len") (cP X.K gF):=by
 intro pins s σ H xs us Q I r q;obtain⟨μ,mh,ds,R,b,f,⟨x,rfl,q⟩,F⟩:=q;obtain⟨v,rfl,d⟩:=eP f
 have go:(∃ds,aT mh x=some ds/\R (.int ds.length) mh)->wpAny (model X.prog X.w) X.A (call (.builtin "len") us) (EP X pins σ Q) X.xe s:=λc=>by
  obtain⟨es,e,q⟩:=c;obtain⟨a,vs,rfl,sq,l⟩:=lT b d e;exact vT pins s σ H _ us Q I r ⟨a,vs,rfl,sq,F.here b q (by rw[aO l];exact .int)⟩
 cases x with
 | str z=>cases cD d;exact vS pins s σ H _ us Q I r ⟨z,rfl,q.1,F.here b q.2 .int⟩
 | _=>exact go q
def JC:OA:=λxs mh Q=>∃i,xs=[.int i]/\Q (.int (if i<0 then -i else i)) mh
theorem T2:bR X (.builtin "abs") (cP X.K JC):=by
 intro pins s σ H xs us Q I r q;obtain⟨μ,mh,ds,R,a,b,⟨i,rfl,q⟩,F⟩:=q;obtain⟨v,rfl,c⟩:=eP b;cases aX c;exact IV pins s σ H _ us Q I r ⟨i,rfl,F.here a q .int⟩
def zD:OA:=λxs mh Q=>∃i j,xs=[.int i,.int j]/\Q (.int (if j > i then j else i)) mh
def o3:OA:=λxs mh Q=>∃i j,xs=[.int i,.int j]/\Q (.int (if j<i then j else i)) mh
theorem NH(a:X.calm=true):bR X (.builtin "max") (cP X.K zD):=by
 intro pins s σ H xs us Q I r q;obtain⟨μ,mh,ds,R,b,c,⟨i,j,rfl,q⟩,F⟩:=q;obtain⟨v,u,rfl,d,e⟩:=tJ c;cases aX d;cases aX e;exact EN a pins s σ H _ us Q I r ⟨i,j,rfl,F.here b q .int⟩
theorem NG(a:X.calm=true):bR X (.builtin "min") (cP X.K o3):=by
 intro pins s σ H xs us Q I r q;obtain⟨μ,mh,ds,R,b,c,⟨i,j,rfl,q⟩,F⟩:=q;obtain⟨v,u,rfl,d,e⟩:=tJ c;cases aX d;cases aX e;exact EM a pins s σ H _ us Q I r ⟨i,j,rfl,F.here b q .int⟩
def UB:OA:=λxs mh Q=>(∃i,xs=[.int i]/\Q (.int i) mh)\/∃k,xs=[.bl k]/\Q (.int (if k then 1 else 0)) mh
theorem TZ:bR X (.type "int") (cP X.K UB):=by
 intro pins s σ H xs us Q I r q;obtain⟨μ,mh,ds,R,b,c,q,F⟩:=q
 rcases q with ⟨i,rfl,q⟩ | ⟨k,rfl,q⟩
 ·obtain⟨v,rfl,a⟩:=eP c;cases aX a;exact tU pins s σ H _ us Q I r (.inl ⟨i,rfl,F.here b q .int⟩)
 ·obtain⟨v,rfl,a⟩:=eP c;cases tG a;exact tU pins s σ H _ us Q I r (.inr ⟨k,rfl,F.here b q .int⟩)
theorem PH{pins:List (Addr×Obj)}{σ:L2.St}{s:Shared}(I:Inv X pins σ H s)(h:nV X.K H a vs\/pG X.K H a vs):vs.length<=sizeLine:=by
 rcases h with h | h
 ·obtain⟨_,_,_,z⟩:=I.list h;exact z
 ·obtain⟨_,_,_,z⟩:=I.tuple h;exact z
def gE:OA:=λxs mh Q=>∃x ds,xs=[x]/\aT mh x=some ds/\Q (.tup ds) mh
theorem IT:bR X (.type "tuple") (cP X.K gE):=by
 intro pins s σ H xs us Q I r q;obtain⟨μ,mh,ds,R,b,d,⟨x,es,rfl,e,q⟩,F⟩:=q;obtain⟨v,rfl,c⟩:=eP d
 cases x with
 | tup ts=>
  cases e;obtain⟨a,vs,rfl,sq,l⟩:=cQ c;exact gD pins s σ H _ us Q I r ⟨a,vs,rfl,.inr ⟨sq,F.here b q c⟩⟩
 | fl ts=>
  cases e;obtain⟨a,vs,rfl,sq,l⟩:=lI c;exact gD pins s σ H _ us Q I r ⟨a,vs,rfl,.inl ⟨sq.sq,kH b F l q⟩⟩
 | ref n=>
  obtain⟨a,vs,rfl,sq,l⟩:=qR b c (show iI mh (.ref n)=some es from e);exact gD pins s σ H _ us Q I r ⟨a,vs,rfl,.inl ⟨sq,kH b F l q⟩⟩
 | _=>cases e
end
def J0(mh:MH):D->Option String
 | .bF=>some "NoneType"
 | .bl _=>some "bool"
 | .int _=>some "int"
 | .str _=>some "str"
 | .tup _=>some "tuple"
 | .fl _=>some "list"
 | .ref n=>match mh[n]? with | some (.lst _)=>some "list" | _=>none
 | .ty _=>none
def o8(t c:String):Bool:=t==c || (t== "bool" && c== "int")
def bG:List String:=["int","bool","str","tuple","list"]
theorem ON:∀t∈ "NoneType"::bG,∀c∈bG,PySem.W.kitOne K (.type t) (.type c)=some (o8 t c):=by
 intro t ht c a;simp only[bG,List.mem_cons,List.not_mem_nil,or_false]at ht a;rcases ht with rfl | rfl | rfl | rfl | rfl | rfl <;> rcases a with rfl | rfl | rfl | rfl | rfl <;> kernel_rfl
theorem CK{K:aEd}{t:String}(ht:t∈ "NoneType"::bG):∀a:List String,(∀c∈a,c∈bG)->PySem.W.kitAny K (.type t) (a.map Value.type)=some (a.any (o8 t))
 | [],_=>rfl
 | c::a,h=>by
  have e:=ON (K:=K) t ht c (h c aB6);have b:=CK (K:=K) ht a λx d=>h x (aB7 _ d);simp only[List.map_cons,PySem.W.kitAny,e,List.any_cons]
  cases o8 t c with
  | true=>rfl
  | false=>simpa using b
def mB:OA:=λxs mh Q=>∃x c t,xs=[x,c]/\J0 mh x=some t/\
 ((∃T,c= .ty T/\T∈bG/\Q (.bl (o8 t T)) mh)\/∃a:List String,c= .tup (a.map .ty)/\(∀T∈a,T∈bG)/\Q (.bl (a.any (o8 t))) mh)
section
variable {X:Cx}
theorem SI{pins:List (Addr×Obj)}{σ:L2.St}{s:Shared}{μ:List Addr}{mh:MH}{d:D}{v:V}{u:Value}{t:String}(I:Inv X pins σ H s)(R:Rep X.K μ mh H)(h:Is X.K μ H d v)(r:RelV v u)(e:J0 mh d=some t):
  t∈ "NoneType"::bG/\u≠ .builtin "__main__.__loader__#opaque"/\∃P,PySem.W.KitX X.K u (.type t) P/\P s.heap:=by
 have i:∀{a:Addr} {vs:List V},nV X.K H a vs->∃P,PySem.W.KitX X.K (.ref a) (.type "list") P/\P s.heap:=λ{a vs} sq=>by
  obtain⟨aH,_,⟨o,n,c,g,_⟩,_⟩:=I.list sq;exact⟨_,PySem.W.kitx_list,⟨o,c,g⟩⟩
 cases d with
 | bF=>cases vD h;cases r;cases e;exact⟨by simp[bG],nofun,_,PySem.W.kitx_none,trivial⟩
 | bl b=>cases tG h;cases r;cases e;exact⟨by simp[bG],nofun,_,PySem.W.kitx_bool,trivial⟩
 | int b=>cases aX h;obtain⟨tk,rfl⟩:=r;cases e;exact⟨by simp[bG],nofun,_,PySem.W.kitx_int,trivial⟩
 | str b=>cases cD h;obtain⟨tk,rfl⟩:=r;cases e;exact⟨by simp[bG],nofun,_,PySem.W.kitx_str,trivial⟩
 | ty b=>cases e
 | tup ds=>
  obtain⟨a,vs,rfl,sq,_⟩:=cQ h;cases r;cases e;obtain⟨aH,_,⟨o,c,g,_⟩,_⟩:=I.tuple sq;exact⟨by simp[bG],nofun,_,PySem.W.kitx_tuple,⟨o,c,g⟩⟩
 | fl ds=>
  obtain⟨a,vs,rfl,sq,_⟩:=lI h;cases r;cases e;exact⟨by simp[bG],nofun,i sq.sq⟩
 | ref n=>
  obtain⟨a,q,rfl⟩:=fG h;cases r;simp only[J0]at e
  cases o:mh[n]? with
  | none=>rw[o]at e;cases e
  | some ob=>
   cases ob with
   | lst es=>
    rw[o]at e;cases e;obtain⟨vs,hv,l⟩:=R.obj n a _ q o;exact⟨by simp[bG],nofun,i (.of hv)⟩
   | dic t kvs=>rw[o]at e;cases e
   | fdc t kvs ob=>rw[o]at e;cases e
   | dO ds f=>rw[o]at e;cases e
theorem CO{K:aEd}{μ:List Addr}{H:Hp}:∀{a:List String} {vs:List V} {us:List Value},IsL K μ H (a.map .ty) vs->Vals vs us->us=a.map Value.type
 | [],vs,us,h,r=>by simp only[List.map_nil]at h;unfold IsL at h;subst h;cases r;rfl
 | T::a,vs,us,h,r=>by
  simp only[List.map_cons]at h;unfold IsL at h;obtain⟨v,e,rfl,i,l⟩:=h
  cases r with
  | cons c d=>
   unfold Is at i;subst i;have b :_=Value.type T:=c;subst b;rw[CO l d];rfl
theorem TY:bR X (.builtin "isinstance") (cP X.K mB):=by
 intro pins s σ H xs us Q I r q;obtain⟨μ,mh,ds,R,e,u,⟨x,c,t,rfl,y,q⟩,F⟩:=q;obtain⟨v,w,rfl,z,f⟩:=tJ u
 cases r with
 | cons A d=>
  cases d with
  | cons d B=>
   cases B;obtain⟨h,i,P,j,k⟩:=SI I e z A y
   rcases q with ⟨T,rfl,g,q⟩ | ⟨C,rfl,g,q⟩
   ·unfold Is at f;subst f;have b :_=Value.type T:=d;subst b
    exact PySem.W.kia_one j I.OO k (ON t h T g) i λtk=>⟨.bl _,H,I.tok tk,rfl,F.here e q .bl⟩
   ·obtain⟨a,vs,rfl,sq,l⟩:=cQ f;have b :_=Value.ref a:=d;subst b;obtain⟨aH,D,⟨o,E,m,n,p⟩,_⟩:=I.tuple sq;have G:=CO l D;obtain⟨oc,od,J,osl⟩:=o;simp only at m p;subst m p
    exact PySem.W.kia_tup j I.OO k E (by rw[G];exact CK h C g) i λtk=>⟨.bl _,H,I.tok tk,rfl,F.here e q .bl⟩
def JB:OA:=λxs mh Q=>∃(x:D) (bs:List Bool),xs=[x]/\iI mh x=some (bs.map .bl)/\Q (.bl (bs.all id)) mh
theorem CT{K:aEd}{μ:List Addr}{H:Hp}:∀{bs:List Bool} {vs:List V} {us:List Value},IsL K μ H (bs.map .bl) vs->Vals vs us->us=bs.map Value.bool
 | [],vs,us,h,r=>by simp only[List.map_nil]at h;unfold IsL at h;subst h;cases r;rfl
 | T::Ts,vs,us,h,r=>by
  simp only[List.map_cons]at h;unfold IsL at h;obtain⟨v,d,rfl,i,l⟩:=h
  cases r with
  | cons b c=>
   cases tG i;have a :_=Value.bool T:=b;subst a;rw[CT l c];rfl
theorem range_all:∀bs:List Bool,(List.range bs.length).all (λi=>bs.getD i true)=bs.all id
 | []=>rfl
 | b::bs=>by
  have:=range_all bs;simp only[List.length_cons,List.range_succ_eq_map,List.all_cons,List.all_map];simp only[Function.comp_def,List.getD_cons_zero,List.getD_cons_succ,this,id]
theorem j9{prog:Program}{w:World}{A:Around}{E:aEe}{s:Shared}{l:Addr}{b:Array Value}{Q:aEe}(c:s.heap.IsList l b)
  (h:∀a:Shared,a={s with heap:=s.heap.push {cls:= .type "list_iterator",data:= .fields #[.ref l,.int 0 0]}}->
   (a.heap.IsListIter s.heap.objs.size l 0/\a.heap.IsList l b)->l≠s.heap.objs.size->Q (.ref s.heap.objs.size) a):
  wpAny (model prog w) A (pyIter (.ref l)) Q E s:=by
 have d:l<s.heap.objs.size:=by obtain⟨_,e,_⟩:=c;exact aB5 e
 exact wpAny_pyIter_list c (h _ rfl ⟨⟨_,aB4 _ rfl,rfl,rfl⟩,c.push _⟩ (aB9 d))
theorem T1(h:X.calm=true):bR X (.builtin "all") (cP X.K JB):=by
 intro pins s σ H xs us Q I r q;obtain⟨μ,mh,ds,R,f,j,⟨x,bs,rfl,e,q⟩,F⟩:=q;obtain⟨v,rfl,k⟩:=eP j;obtain⟨a,vs,rfl,sq,l⟩:=qR f k e;obtain⟨u,rfl,m⟩:=vals1 r;cases m;obtain⟨aH,n,p,hz⟩:=I.list sq;have t:=CT l n;subst t;refine call_all_walk (j9 p.isList λg w st d=>?_);subst w;refine⟨_,_,_,_,_,_,λi=>bs.getD i true,rfl,Walks.list (A:=X.A.in1) (I.ok.hd h) _ a d (bs.map Value.bool).toArray,st,?_,λh' tk hk=>?_⟩
 ·intro i v D E G y z;have c :(bs.map Value.bool).toArray[i]? =some v:=y;rw[List.getElem?_toArray,List.getElem?_map]at c;obtain⟨b,B,rfl⟩:=aBm.mp c;have:bs.getD i true=b:=by rw[List.getD_eq_getElem?_getD,B];rfl
  refine aD3 ?_;rw[<-this];exact z
 ·have J:Inv X pins σ H {s with heap:=s.heap.push {cls:= .type "list_iterator",data:= .fields #[.ref a,.int 0 0]}}:=I.kept (t' :=s.toks) λb o e=>aB1 _ e;have C:Inv X pins σ H {s with heap:=h',toks:=tk}:=I.kept (t' :=tk) λb o e=>hk b o (by simp;exact aB9 (aB5 e)) (aB1 _ e);refine⟨.bl (bs.all id),H,C,?_,F.here f q .bl⟩;have:=range_all bs;simp only[List.size_toArray,List.length_map,this];rfl
end
mutual
def Vl(h:Heap):D->Value->Prop
 | .bF,u=>u= .none
 | .bl b,u=>u= .bool b
 | .int i,u=>∃t,u= .int i t
 | .str x,u=>∃t,u= .str x t
 | .ty _,_=>False
 | .tup ds,u=>∃a us,u= .ref a/\IsTup h a us.toArray/\dE h ds us
 | .fl ds,u=>∃a us,u= .ref a/\h.IsList a us.toArray/\dE h ds us
 | .ref _,_=>False
def dE(h:Heap):List D->List Value->Prop
 | [],us=>us=[]
 | d::ds,us=>∃u r,us=u::r/\Vl h d u/\dE h ds r
end
mutual
def bare:D->Bool
 | .ty _=>false
 | .ref _=>false
 | .tup ds=>cZ ds
 | .fl ds=>cZ ds
 | _=>true
def cZ:List D->Bool
 | []=>true
 | d::ds=>bare d && cZ ds
end
mutual
def deep:D->Nat
 | .tup ds=>jY ds+1
 | .fl ds=>jY ds+1
 | _=>0
def jY:List D->Nat
 | []=>0
 | d::ds=>max (deep d) (jY ds)
end
mutual
def fX:D->D->Bool
 | .bF,y=>oQ y
 | .bl a,y=>match y with | .bl b=>a==b | .int j=>(if a then 1 else 0)==j | _=>false
 | .int i,y=>match y with | .int j=>i==j | .bl b=>i==(if b then 1 else 0) | _=>false
 | .str a,y=>match y with | .str b=>a==b | _=>false
 | .tup as,y=>match y with | .tup bs=>cY as bs | _=>false
 | .fl as,y=>match y with | .fl bs=>cY as bs | _=>false
 | .ref _,_=>false
 | .ty _,_=>false
def cY:List D->List D->Bool
 | [],y=>y.isEmpty
 | a::as,y=>match y with | b::bs=>fX a b && cY as bs | []=>false
end
theorem bV:∀(as bs:List D),cY as bs=((List.range (min as.length bs.length)).all (λj=>fX (as.getD j .bF) (bs.getD j .bF)) && as.length==bs.length)
 | [],[]=>by simp[cY]
 | [],b::bs=>by simp[cY]
 | a::as,[]=>by simp[cY]
 | a::as,b::bs=>by
  have c:=bV as bs;simp only[cY,List.length_cons,Nat.succ_min_succ,List.range_succ_eq_map,List.all_cons,List.all_map,Function.comp_def,List.getD_cons_zero,List.getD_cons_succ,c];cases fX a b <;> simp
theorem bC{h:Heap}:∀{ds:List D} {us:List Value},dE h ds us->us.length=ds.length
 | [],us,q=>by unfold dE at q;subst q;rfl
 | d::ds,us,q=>by unfold dE at q;obtain⟨u,r,rfl,_,l⟩:=q;simp[bC l]
theorem cM{h:Heap}:∀{ds:List D} {us:List Value} {j:Nat} {u:Value},dE h ds us->us[j]? =some u->Vl h (ds.getD j .bF) u
 | [],us,j,u,q,e=>by unfold dE at q;subst q;simp at e
 | d::ds,us,j,u,q,e=>by
  unfold dE at q;obtain⟨w,r,rfl,i,l⟩:=q
  cases j with
  | zero=>simp at e;subst e;exact i
  | succ j=>exact cM (j:=j) l (by simpa using e)
theorem dU:∀(ds:List D) (j:Nat),deep (ds.getD j .bF)<=jY ds
 | [],j=>by simp[deep]
 | d::ds,0=>by simp[jY];lia
 | d::ds,j+1=>by have:=dU ds j;simp[jY]at*;lia
variable{h:Heap}
theorem pN{x y:Array Value}(d:h.IsList a x)(e:IsTup h a y):False:=by
 obtain⟨o,ho,f,_⟩:=d;obtain⟨g,b,c,_⟩:=e;rw[ho]at b;cases b;rw[f]at c;exact absurd c (by simp)
mutual
theorem uB{h:Heap}:∀{d e:D} {u:Value},Vl h d u->Vl h e u->fX d e=true
 | .bF,e,u,p,q=>by
  unfold Vl at p;subst p
  cases e <;> unfold Vl at q <;> first | rfl | (cases q;done) | (obtain⟨_,q⟩:=q;cases q;done) | (obtain⟨_,_,q,_⟩:=q;cases q;done)
 | .bl a,e,u,p,q=>by
  unfold Vl at p;subst p
  cases e <;> unfold Vl at q <;> first | (subst q;simp[fX];done) | (cases q;simp[fX];done) | (cases q;done) | (obtain⟨_,q⟩:=q;cases q;done) | (obtain⟨_,_,q,_⟩:=q;cases q;done)
 | .int a,e,u,p,q=>by
  unfold Vl at p;obtain⟨t,rfl⟩:=p
  cases e <;> unfold Vl at q <;> first | (cases q;done) | (obtain⟨_,q⟩:=q;cases q;simp[fX];done) | (obtain⟨_,q⟩:=q;cases q;done) | (obtain⟨_,_,q,_⟩:=q;cases q;done)
 | .str a,e,u,p,q=>by
  unfold Vl at p;obtain⟨t,rfl⟩:=p
  cases e <;> unfold Vl at q <;> first | (cases q;done) | (obtain⟨_,q⟩:=q;cases q;simp[fX];done) | (obtain⟨_,q⟩:=q;cases q;done) | (obtain⟨_,_,q,_⟩:=q;cases q;done)
 | .ty _,e,u,p,q=>by unfold Vl at p;exact p.elim
 | .ref _,e,u,p,q=>by unfold Vl at p;exact p.elim
 | .tup as,e,u,p,q=>by
  unfold Vl at p;obtain⟨a,us,rfl,ht,l⟩:=p
  cases e with
  | tup bs=>
   unfold Vl at q;obtain⟨b,f,e,c,g⟩:=q;cases e;obtain⟨o,k,_,n,m⟩:=ht;obtain⟨v,i,_,w,j⟩:=c;rw[k]at i;cases i;rw[m]at j;injection j with r;have s:us=f:=by simpa using aC0 Array.toList r
   subst s;show cY as bs=true;exact p7 l g
  | fl bs=>
   unfold Vl at q;obtain⟨b,f,e,c,g⟩:=q;cases e;exact(pN c ht).elim
  | _=>unfold Vl at q;first | (cases q;done) | (obtain⟨_,q⟩:=q;cases q;done)
 | .fl as,e,u,p,q=>by
  unfold Vl at p;obtain⟨a,us,rfl,ht,l⟩:=p
  cases e with
  | fl bs=>
   unfold Vl at q;obtain⟨b,f,e,c,g⟩:=q;cases e;obtain⟨o,k,_,n,m⟩:=ht;obtain⟨v,i,_,w,j⟩:=c;rw[k]at i;cases i;rw[m]at j;injection j with r;have s:us=f:=by simpa using aC0 Array.toList r
   subst s;show cY as bs=true;exact p7 l g
  | tup bs=>
   unfold Vl at q;obtain⟨b,f,e,c,g⟩:=q;cases e;exact(pN ht c).elim
  | _=>unfold Vl at q;first | (cases q;done) | (obtain⟨_,q⟩:=q;cases q;done)
theorem p7{h:Heap}:∀{ds es:List D} {us:List Value},dE h ds us->dE h es us->cY ds es=true
 | [],es,us,p,q=>by unfold dE at p;subst p;cases es with | nil=>rfl | cons=>unfold dE at q;obtain⟨_,_,e,_⟩:=q;cases e
 | d::ds,es,us,p,q=>by
  unfold dE at p;obtain⟨u,r,rfl,i,l⟩:=p
  cases es with
  | nil=>unfold dE at q;cases q
  | cons e es=>
   unfold dE at q;obtain⟨c,f,a,i2,b⟩:=q;cases a;simp only[cY,uB i i2,p7 l b,Bool.and_self]
end
open SeqAt in
theorem jX{s:Shared}:∀(k:Nat) {A:Around} {d e:D} {u v:Value},deep d<=k->A.units+k+1<cLine->Vl s.heap d u->Vl s.heap e v->EqAt A s u v (fX d e)
 | k,A,.bF,e,u,v,hk,hu,p,q=>by
  unfold Vl at p;subst p;cases e <;> unfold Vl at q
  ·subst q;exact EqAt.same _
  ·subst q;exact EqAt.none_bool _
  ·obtain⟨t,rfl⟩:=q;exact EqAt.none_int _ t
  ·obtain⟨t,rfl⟩:=q;exact EqAt.none_str _ t
  ·exact q.elim
  ·obtain⟨a,us,rfl,ht,_⟩:=q;exact EqAt.none_tuple ht (by lia)
  ·obtain⟨a,us,rfl,ht,_⟩:=q;exact EqAt.none_list ht (by lia)
  ·exact q.elim
 | k,A,.bl x,e,u,v,hk,hu,p,q=>by
  unfold Vl at p;subst p;cases e <;> unfold Vl at q
  ·subst q;exact EqAt.bool_none _
  ·subst q;exact EqAt.bool_bool _ _
  ·obtain⟨t,rfl⟩:=q;exact EqAt.bool_int _ _ t
  ·obtain⟨t,rfl⟩:=q;exact EqAt.bool_str _ _ t
  ·exact q.elim
  ·obtain⟨a,us,rfl,ht,_⟩:=q;exact EqAt.bool_tuple _ ht (by lia)
  ·obtain⟨a,us,rfl,ht,_⟩:=q;exact EqAt.bool_list _ ht (by lia)
  ·exact q.elim
 | k,A,.int x,e,u,v,hk,hu,p,q=>by
  unfold Vl at p;obtain⟨w,rfl⟩:=p;cases e <;> unfold Vl at q
  ·subst q;exact EqAt.int_none _ _
  ·subst q;exact EqAt.int_bool _ _ _
  ·obtain⟨t,rfl⟩:=q;exact EqAt.int_int _ _ _ t
  ·obtain⟨t,rfl⟩:=q;exact EqAt.int_str _ _ _ t
  ·exact q.elim
  ·obtain⟨a,us,rfl,ht,_⟩:=q;exact EqAt.int_tuple _ _ ht (by lia)
  ·obtain⟨a,us,rfl,ht,_⟩:=q;exact EqAt.int_list _ _ ht (by lia)
  ·exact q.elim
 | k,A,.str x,e,u,v,hk,hu,p,q=>by
  unfold Vl at p;obtain⟨w,rfl⟩:=p;cases e <;> unfold Vl at q
  ·subst q;exact EqAt.str_none _ _
  ·subst q;exact EqAt.str_bool _ _ _
  ·obtain⟨t,rfl⟩:=q;exact EqAt.str_int _ _ _ t
  ·obtain⟨t,rfl⟩:=q;exact EqAt.str_str _ _ _ t
  ·exact q.elim
  ·obtain⟨a,us,rfl,ht,_⟩:=q;exact EqAt.str_tuple _ _ ht (by lia)
  ·obtain⟨a,us,rfl,ht,_⟩:=q;exact EqAt.str_list _ _ ht (by lia)
  ·exact q.elim
 | k,A,.ty x,e,u,v,hk,hu,p,q=>by unfold Vl at p;exact p.elim
 | k,A,.ref x,e,u,v,hk,hu,p,q=>by unfold Vl at p;exact p.elim
 | k,A,.tup as,e,u,v,hk,hu,p,q=>by
  have o:=p;unfold Vl at p;obtain⟨a,us,rfl,ht,l⟩:=p
  cases e with
  | tup bs=>
   by_cases f:Value.ref a=v
   ·subst f;rw[uB o q];exact EqAt.same _
   unfold Vl at q;obtain⟨b,n,rfl,c,g⟩:=q;have h:a≠b:=λz=>f (by rw[z])
   cases k with
   | zero=>simp[deep]at hk
   | succ k=>
    refine EqAt.of_refs h ?_;have r:=RcAt.tuples (e:=λj=>fX (as.getD j .bF) (bs.getD j .bF)) ht c (by lia) (λj i m=>jX k (A:=A.in1) (aBq (dU as j) (by simp[deep]at hk;exact hk)) (by show A.units+1+k+1<_;lia) (cM l (by simp at i;simp[i])) (cM g (by simp at m;simp[m])));show RcAt A s _ _ (cY as bs);rw[bV,<-bC l,<-bC g];simpa using r
  | bF=>unfold Vl at q;subst q;exact EqAt.tuple_none ht (by lia)
  | bl x=>unfold Vl at q;subst q;exact EqAt.tuple_bool _ ht (by lia)
  | int x=>unfold Vl at q;obtain⟨t,rfl⟩:=q;exact EqAt.tuple_int _ _ ht (by lia)
  | str x=>unfold Vl at q;obtain⟨t,rfl⟩:=q;exact EqAt.tuple_str _ _ ht (by lia)
  | fl bs=>unfold Vl at q;obtain⟨b,n,rfl,c,g⟩:=q;exact EqAt.tuple_list ht c (by lia)
  | ty x=>unfold Vl at q;exact q.elim
  | ref x=>unfold Vl at q;exact q.elim
 | k,A,.fl as,e,u,v,hk,hu,p,q=>by
  have o:=p;unfold Vl at p;obtain⟨a,us,rfl,ht,l⟩:=p
  cases e with
  | fl bs=>
   by_cases f:Value.ref a=v
   ·subst f;rw[uB o q];exact EqAt.same _
   unfold Vl at q;obtain⟨b,n,rfl,c,g⟩:=q;have h:a≠b:=λz=>f (by rw[z])
   cases k with
   | zero=>simp[deep]at hk
   | succ k=>
    refine EqAt.of_refs h ?_;show RcAt A s _ _ (cY as bs);by_cases hsz:us.length=n.length
    ·have r:=RcAt.lists (e:=λj=>fX (as.getD j .bF) (bs.getD j .bF)) ht c (by simpa using hsz) (by lia) (λj i m=>jX k (A:=A.in1) (aBq (dU as j) (by simp[deep]at hk;exact hk)) (by show A.units+1+k+1<_;lia) (cM l (by simp at i;simp[i])) (cM g (by simp at m;simp[m])));rw[bV,<-bC l,<-bC g,<-hsz,Nat.min_self,beq_self_eq_true,Bool.and_true];simpa using r
    ·have r:=RcAt.lists_lengths (A:=A) ht c (by simpa using hsz) (by lia);rw[bV,<-bC l,<-bC g,beq_eq_false_iff_ne.mpr hsz,Bool.and_false];exact r
  | bF=>unfold Vl at q;subst q;exact EqAt.list_none ht (by lia)
  | bl x=>unfold Vl at q;subst q;exact EqAt.list_bool _ ht (by lia)
  | int x=>unfold Vl at q;obtain⟨t,rfl⟩:=q;exact EqAt.list_int _ _ ht (by lia)
  | str x=>unfold Vl at q;obtain⟨t,rfl⟩:=q;exact EqAt.list_str _ _ ht (by lia)
  | tup bs=>unfold Vl at q;obtain⟨b,n,rfl,c,g⟩:=q;exact EqAt.list_tuple ht c (by lia)
  | ty x=>unfold Vl at q;exact q.elim
  | ref x=>unfold Vl at q;exact q.elim
open SeqAt in
theorem PX{s:Shared}{A:Around}{d e:D}{u v:Value}(hk:deep d<=40)(m:A.units+64<cLine)(p:Vl s.heap d u)(q:Vl s.heap e v):RcAt A s u v (fX d e):=by
 cases d with
 | bF=>
  unfold Vl at p;subst p;cases e <;> unfold Vl at q
  ·subst q;exact RcAt.none_none
  ·subst q;exact RcAt.none_bool _
  ·obtain⟨t,rfl⟩:=q;exact RcAt.none_int _ _
  ·obtain⟨t,rfl⟩:=q;exact RcAt.none_str _ _
  ·exact q.elim
  ·obtain⟨a,us,rfl,ht,_⟩:=q;exact RcAt.none_tuple ht (by lia)
  ·obtain⟨a,us,rfl,ht,_⟩:=q;exact RcAt.none_list ht (by lia)
  ·exact q.elim
 | bl x=>
  unfold Vl at p;subst p;cases e <;> unfold Vl at q
  ·subst q;exact RcAt.bool_none _
  ·subst q;exact RcAt.bool_bool _ _
  ·obtain⟨t,rfl⟩:=q;exact RcAt.bool_int _ _ _
  ·obtain⟨t,rfl⟩:=q;exact RcAt.bool_str _ _ _
  ·exact q.elim
  ·obtain⟨a,us,rfl,ht,_⟩:=q;exact RcAt.bool_tuple _ ht (by lia)
  ·obtain⟨a,us,rfl,ht,_⟩:=q;exact RcAt.bool_list _ ht (by lia)
  ·exact q.elim
 | int x=>
  unfold Vl at p;obtain⟨k,rfl⟩:=p;cases e <;> unfold Vl at q
  ·subst q;exact RcAt.int_none _ _
  ·subst q;exact RcAt.int_bool _ _ _
  ·obtain⟨t,rfl⟩:=q;exact RcAt.int_int _ _ _ _
  ·obtain⟨t,rfl⟩:=q;exact RcAt.int_str _ _ _ _
  ·exact q.elim
  ·obtain⟨a,us,rfl,ht,_⟩:=q;exact RcAt.int_tuple _ _ ht (by lia)
  ·obtain⟨a,us,rfl,ht,_⟩:=q;exact RcAt.int_list _ _ ht (by lia)
  ·exact q.elim
 | str x=>
  unfold Vl at p;obtain⟨k,rfl⟩:=p;cases e <;> unfold Vl at q
  ·subst q;exact RcAt.str_none _ _
  ·subst q;exact RcAt.str_bool _ _ _
  ·obtain⟨t,rfl⟩:=q;exact RcAt.str_int _ _ _ _
  ·obtain⟨t,rfl⟩:=q;exact RcAt.str_str _ _ _ _
  ·exact q.elim
  ·obtain⟨a,us,rfl,ht,_⟩:=q;exact RcAt.str_tuple _ _ ht (by lia)
  ·obtain⟨a,us,rfl,ht,_⟩:=q;exact RcAt.str_list _ _ ht (by lia)
  ·exact q.elim
 | ty x=>unfold Vl at p;exact p.elim
 | ref x=>unfold Vl at p;exact p.elim
 | tup as=>
  unfold Vl at p;obtain⟨a,us,rfl,ht,l⟩:=p
  cases e with
  | tup bs=>
   unfold Vl at q;obtain⟨b,i,rfl,c,f⟩:=q;have r:=RcAt.tuples (e:=λj=>fX (as.getD j .bF) (bs.getD j .bF)) ht c (by lia) (λj g h=>jX 40 (A:=A.in1) (aBq (dU as j) (by simp[deep]at hk;lia)) (by show A.units+1+40+1<_;lia) (cM l (by simp at g;simp[g])) (cM f (by simp at h;simp[h])));show RcAt A s _ _ (cY as bs);rw[bV,<-bC l,<-bC f];simpa using r
  | fl bs=>unfold Vl at q;obtain⟨b,i,rfl,c,f⟩:=q;exact RcAt.tuple_list ht c (by lia)
  | bF=>unfold Vl at q;subst q;exact RcAt.tuple_none ht (by lia)
  | bl x=>unfold Vl at q;subst q;exact RcAt.tuple_bool _ ht (by lia)
  | int x=>unfold Vl at q;obtain⟨t,rfl⟩:=q;exact RcAt.tuple_int _ _ ht (by lia)
  | str x=>unfold Vl at q;obtain⟨t,rfl⟩:=q;exact RcAt.tuple_str _ _ ht (by lia)
  | ty x=>unfold Vl at q;exact q.elim
  | ref x=>unfold Vl at q;exact q.elim
 | fl as=>
  unfold Vl at p;obtain⟨a,us,rfl,ht,l⟩:=p
  cases e with
  | fl bs=>
   unfold Vl at q;obtain⟨b,i,rfl,c,f⟩:=q;show RcAt A s _ _ (cY as bs);by_cases hsz:us.length=i.length
   ·have r:=RcAt.lists (e:=λj=>fX (as.getD j .bF) (bs.getD j .bF)) ht c (by simpa using hsz) (by lia) (λj g h=>jX 40 (A:=A.in1) (aBq (dU as j) (by simp[deep]at hk;lia)) (by show A.units+1+40+1<_;lia) (cM l (by simp at g;simp[g])) (cM f (by simp at h;simp[h])));rw[bV,<-bC l,<-bC f,<-hsz,Nat.min_self,beq_self_eq_true,Bool.and_true];simpa using r
   ·have r:=RcAt.lists_lengths (A:=A) ht c (by simpa using hsz) (by lia);rw[bV,<-bC l,<-bC f,beq_eq_false_iff_ne.mpr hsz,Bool.and_false];exact r
  | tup bs=>unfold Vl at q;obtain⟨b,i,rfl,c,f⟩:=q;exact RcAt.list_tuple ht c (by lia)
  | bF=>unfold Vl at q;subst q;exact RcAt.list_none ht (by lia)
  | bl x=>unfold Vl at q;subst q;exact RcAt.list_bool _ ht (by lia)
  | int x=>unfold Vl at q;obtain⟨t,rfl⟩:=q;exact RcAt.list_int _ _ ht (by lia)
  | str x=>unfold Vl at q;obtain⟨t,rfl⟩:=q;exact RcAt.list_str _ _ ht (by lia)
  | ty x=>unfold Vl at q;exact q.elim
  | ref x=>unfold Vl at q;exact q.elim
open SeqAt in
theorem FQ{s:Shared}{A:Around}{d e:D}{u v:Value}(hk:deep d<=40)(m:A.units+64<cLine)(p:Vl s.heap d u)(q:Vl s.heap e v):RcNeAt A s u v (!fX d e):=by
 cases d with
 | bF=>
  unfold Vl at p;subst p;cases e <;> unfold Vl at q
  ·subst q;exact RcNeAt.none_none
  ·subst q;exact RcNeAt.none_bool _
  ·obtain⟨t,rfl⟩:=q;exact RcNeAt.none_int _ _
  ·obtain⟨t,rfl⟩:=q;exact RcNeAt.none_str _ _
  ·exact q.elim
  ·obtain⟨a,us,rfl,ht,_⟩:=q;exact RcNeAt.none_tuple ht (by lia)
  ·obtain⟨a,us,rfl,ht,_⟩:=q;exact RcNeAt.none_list ht (by lia)
  ·exact q.elim
 | bl x=>
  unfold Vl at p;subst p;cases e <;> unfold Vl at q
  ·subst q;exact RcNeAt.bool_none _
  ·subst q;exact RcNeAt.bool_bool _ _
  ·obtain⟨t,rfl⟩:=q;exact RcNeAt.bool_int _ _ _
  ·obtain⟨t,rfl⟩:=q;exact RcNeAt.bool_str _ _ _
  ·exact q.elim
  ·obtain⟨a,us,rfl,ht,_⟩:=q;exact RcNeAt.bool_tuple _ ht (by lia)
  ·obtain⟨a,us,rfl,ht,_⟩:=q;exact RcNeAt.bool_list _ ht (by lia)
  ·exact q.elim
 | int x=>
  unfold Vl at p;obtain⟨k,rfl⟩:=p;cases e <;> unfold Vl at q
  ·subst q;exact RcNeAt.int_none _ _
  ·subst q;exact RcNeAt.int_bool _ _ _
  ·obtain⟨t,rfl⟩:=q;exact RcNeAt.int_int _ _ _ _
  ·obtain⟨t,rfl⟩:=q;exact RcNeAt.int_str _ _ _ _
  ·exact q.elim
  ·obtain⟨a,us,rfl,ht,_⟩:=q;exact RcNeAt.int_tuple _ _ ht (by lia)
  ·obtain⟨a,us,rfl,ht,_⟩:=q;exact RcNeAt.int_list _ _ ht (by lia)
  ·exact q.elim
 | str x=>
  unfold Vl at p;obtain⟨k,rfl⟩:=p;cases e <;> unfold Vl at q
  ·subst q;exact RcNeAt.str_none _ _
  ·subst q;exact RcNeAt.str_bool _ _ _
  ·obtain⟨t,rfl⟩:=q;exact RcNeAt.str_int _ _ _ _
  ·obtain⟨t,rfl⟩:=q;exact RcNeAt.str_str _ _ _ _
  ·exact q.elim
  ·obtain⟨a,us,rfl,ht,_⟩:=q;exact RcNeAt.str_tuple _ _ ht (by lia)
  ·obtain⟨a,us,rfl,ht,_⟩:=q;exact RcNeAt.str_list _ _ ht (by lia)
  ·exact q.elim
 | ty x=>unfold Vl at p;exact p.elim
 | ref x=>unfold Vl at p;exact p.elim
 | tup as=>
  unfold Vl at p;obtain⟨a,us,rfl,ht,l⟩:=p
  cases e with
  | tup bs=>
   unfold Vl at q;obtain⟨b,i,rfl,c,f⟩:=q;have r:=RcNeAt.tuples (e:=λj=>fX (as.getD j .bF) (bs.getD j .bF)) ht c (by lia) (λj g h=>jX 40 (A:=A.in1) (aBq (dU as j) (by simp[deep]at hk;lia)) (by show A.units+1+40+1<_;lia) (cM l (by simp at g;simp[g])) (cM f (by simp at h;simp[h])));show RcNeAt A s _ _ (!cY as bs);rw[bV,<-bC l,<-bC f];simpa using r
  | fl bs=>unfold Vl at q;obtain⟨b,i,rfl,c,f⟩:=q;exact RcNeAt.tuple_list ht c (by lia)
  | bF=>unfold Vl at q;subst q;exact RcNeAt.tuple_none ht (by lia)
  | bl x=>unfold Vl at q;subst q;exact RcNeAt.tuple_bool _ ht (by lia)
  | int x=>unfold Vl at q;obtain⟨t,rfl⟩:=q;exact RcNeAt.tuple_int _ _ ht (by lia)
  | str x=>unfold Vl at q;obtain⟨t,rfl⟩:=q;exact RcNeAt.tuple_str _ _ ht (by lia)
  | ty x=>unfold Vl at q;exact q.elim
  | ref x=>unfold Vl at q;exact q.elim
 | fl as=>
  unfold Vl at p;obtain⟨a,us,rfl,ht,l⟩:=p
  cases e with
  | fl bs=>
   unfold Vl at q;obtain⟨b,i,rfl,c,f⟩:=q;show RcNeAt A s _ _ (!cY as bs);by_cases hsz:us.length=i.length
   ·have r:=RcNeAt.lists (e:=λj=>fX (as.getD j .bF) (bs.getD j .bF)) ht c (by simpa using hsz) (by lia) (λj g h=>jX 40 (A:=A.in1) (aBq (dU as j) (by simp[deep]at hk;lia)) (by show A.units+1+40+1<_;lia) (cM l (by simp at g;simp[g])) (cM f (by simp at h;simp[h])));rw[bV,<-bC l,<-bC f,<-hsz,Nat.min_self,beq_self_eq_true,Bool.and_true];simpa using r
   ·have r:=RcNeAt.lists_lengths (A:=A) ht c (by simpa using hsz) (by lia);rw[bV,<-bC l,<-bC f,beq_eq_false_iff_ne.mpr hsz,Bool.and_false];exact r
  | tup bs=>unfold Vl at q;obtain⟨b,i,rfl,c,f⟩:=q;exact RcNeAt.list_tuple ht c (by lia)
  | bF=>unfold Vl at q;subst q;exact RcNeAt.list_none ht (by lia)
  | bl x=>unfold Vl at q;subst q;exact RcNeAt.list_bool _ ht (by lia)
  | int x=>unfold Vl at q;obtain⟨t,rfl⟩:=q;exact RcNeAt.list_int _ _ ht (by lia)
  | str x=>unfold Vl at q;obtain⟨t,rfl⟩:=q;exact RcNeAt.list_str _ _ ht (by lia)
  | ty x=>unfold Vl at q;exact q.elim
  | ref x=>unfold Vl at q;exact q.elim
def bM(mh:MH):D->D
 | .ref n=>match mh[n]? with | some (.lst ds)=>.fl ds | _=>.ref n
 | d=>d
section
variable {X:Cx}{pins:List (Addr×Obj)}{σ:L2.St}{H:Hp}{s:Shared}{μ:List Addr}{mh:MH}
mutual
theorem N5(I:Inv X pins σ H s):∀(d:D) {v:V} {u:Value},bare d=true->Is X.K μ H d v->RelV v u->Vl s.heap d u
 | .bF,v,u,_,i,r=>by cases vD i;unfold Vl;exact r
 | .bl _,v,u,_,i,r=>by cases tG i;unfold Vl;exact r
 | .int _,v,u,_,i,r=>by cases aX i;unfold Vl;exact r
 | .str _,v,u,_,i,r=>by cases cD i;unfold Vl;exact r
 | .ty _,v,u,b,i,r=>by simp[bare]at b
 | .ref _,v,u,b,i,r=>by simp[bare]at b
 | .tup ds,v,u,b,i,r=>by
  obtain⟨a,vs,rfl,sq,l⟩:=cQ i;have c :u=Value.ref a:=r;subst c;obtain⟨aH,e,p,_⟩:=I.tuple sq;unfold Vl;exact⟨a,aH,rfl,p,fD I ds (by simpa[bare] using b) l e⟩
 | .fl ds,v,u,b,i,r=>by
  obtain⟨a,vs,rfl,sq,l⟩:=lI i;have c :u=Value.ref a:=r;subst c;obtain⟨aH,e,p,_⟩:=I.list sq.sq;unfold Vl;exact⟨a,aH,rfl,p.isList,fD I ds (by simpa[bare] using b) l e⟩
theorem fD(I:Inv X pins σ H s):∀(ds:List D) {vs:List V} {us:List Value},cZ ds=true->IsL X.K μ H ds vs->Vals vs us->dE s.heap ds us
 | [],vs,us,_,l,r=>by unfold IsL at l;subst l;cases r;unfold dE;rfl
 | d::ds,vs,us,b,l,r=>by
  unfold IsL at l;obtain⟨v,e,rfl,i,l⟩:=l
  cases r with
  | cons a c=>
   simp only[cZ,Bool.and_eq_true]at b;unfold dE;exact⟨_,_,rfl,N5 I d b.1 i a,fD I ds b.2 l c⟩
end
theorem nW(I:Inv X pins σ H s)(R:Rep X.K μ mh H){d:D}{v:V}{u:Value}(b:bare (bM mh d)=true)(i:Is X.K μ H d v)(r:RelV v u):Vl s.heap (bM mh d) u:=by
 cases d with
 | ref n=>
  simp only[bM]at b⊢
  cases o:mh[n]? with
  | none=>rw[o]at b;simp[bare]at b
  | some ob=>
   cases ob with
   | lst ds=>
    rw[o]at b;simp only;obtain⟨a,vs,rfl,_,hv,l⟩:=iG R i o;have c :u=Value.ref a:=r;subst c;obtain⟨aH,e,p,_⟩:=I.list (.of hv);unfold Vl;exact⟨a,aH,rfl,p.isList,fD I ds (by simpa[bare] using b) l e⟩
   | dic t kvs=>rw[o]at b;simp[bare]at b
   | fdc t kvs ob=>rw[o]at b;simp[bare]at b
   | dO ds f=>rw[o]at b;simp[bare]at b
 | _=>exact N5 I _ b i r
end
def oEq:O2:=λx y mh Q=>bare (bM mh x)=true/\bare (bM mh y)=true/\deep (bM mh x)<=40/\Q (.bl (fX (bM mh x) (bM mh y))) mh
def zJ:O2:=λx y mh Q=>bare (bM mh x)=true/\bare (bM mh y)=true/\deep (bM mh x)<=40/\Q (.bl !fX (bM mh x) (bM mh y)) mh
section
variable {X:Cx}
theorem V7(b:X.A.units+64<cLine):cS X (compareOp .Eq) (aY X.K oEq):=by
 intro pins s σ H x y v u Q I c d q;obtain⟨μ,mh,dx,i,R,a,e,f,⟨g,h,hd,q⟩,F⟩:=q;exact PX hd b (nW I a g e c) (nW I a h f d) X.prog X.w X.xe _ ⟨.bl _,H,I,rfl,F.here a q .bl⟩
theorem V3(b:X.A.units+64<cLine):cS X (compareOp .NotEq) (aY X.K zJ):=by
 intro pins s σ H x y v u Q I c d q;obtain⟨μ,mh,dx,i,R,a,e,f,⟨g,h,hd,q⟩,F⟩:=q;exact FQ hd b (nW I a g e c) (nW I a h f d) X.prog X.w X.xe _ ⟨.bl _,H,I,rfl,F.here a q .bl⟩
def eR:D->Bool
 | .bF=>true | .bl _=>true | .int _=>true | .str _=>true | _=>false
def AU(x:D)(u:Value):Bool:=match u with
 | .none=>fX .bF x
 | .bool b=>fX (.bl b) x
 | .int i _=>fX (.int i) x
 | .str z _=>fX (.str z) x
 | _=>false
theorem IH{x y:D}{u:Value}(f:eR y=true)(p:Vl h y u):AU x u=fX y x:=by
 cases y with
 | bF=>unfold Vl at p;subst p;rfl
 | bl b=>unfold Vl at p;subst p;rfl
 | int b=>unfold Vl at p;obtain⟨t,rfl⟩:=p;rfl
 | str b=>unfold Vl at p;obtain⟨t,rfl⟩:=p;rfl
 | _=>simp[eR]at f
theorem nR{h:Heap}{x:D}:∀{ds:List D} {us:List Value},ds.all eR=true->dE h ds us->us.any (AU x)=ds.any λy=>fX y x
 | [],us,_,l=>by unfold dE at l;subst l;rfl
 | d::ds,us,f,l=>by
  unfold dE at l;obtain⟨u,r,rfl,p,l⟩:=l;rw[List.all_cons,Bool.and_eq_true]at f;rw[List.any_cons,List.any_cons,IH f.1 p,nR f.2 l]
theorem nB{A:Around}{s:Shared}{x:D}{v:Value}(a:A.units+64<cLine)(q:Vl s.heap x v):∀{ds:List D} {us:List Value},ds.all eR=true->dE s.heap ds us->∀u∈us,SeqAt.EqAt A.in1 s u v (AU x u)
 | [],us,_,l=>by unfold dE at l;subst l;intro u a;cases a
 | d::ds,us,f,l=>by
  unfold dE at l;obtain⟨u,r,rfl,p,l⟩:=l;rw[List.all_cons,Bool.and_eq_true]at f;intro b hu';rcases aBa.mp hu' with rfl | hu'
  ·rw[IH f.1 p];refine jX 0 ?_ (by show A.units+1+0+1<_;lia) p q
   cases d <;> first | exact aB3 _ | (simp[eR]at f)
  ·exact nB a q f.2 l b hu'
def inD(x:D)(ds:List D):Bool:=ds.any λy=>fX y x
theorem fI:∀{ds:List D},ds.all eR=true->cZ ds=true
 | [],_=>rfl
 | d::ds,f=>by
  rw[List.all_cons,Bool.and_eq_true]at f;simp only[cZ,fI f.2,Bool.and_true]
  cases d <;> first | rfl | (simp[eR]at f)
def V8:O2:=λx y mh Q=>match y with
 | .str j=>∃i,x= .str i/\Q (.bl (!(Builtin.Str.occurrences j i 0 j.length 1).isEmpty)) mh
 | _=>∃ds,aT mh y=some ds/\bare (bM mh x)=true/\ds.all eR=true/\Q (.bl (inD (bM mh x) ds)) mh
def uQ:O2:=λx y mh Q=>match y with
 | .str j=>∃i,x= .str i/\Q (.bl (!(!(Builtin.Str.occurrences j i 0 j.length 1).isEmpty))) mh
 | _=>∃ds,aT mh y=some ds/\bare (bM mh x)=true/\ds.all eR=true/\Q (.bl !inD (bM mh x) ds) mh
theorem V5(o:X.A.units+64<cLine):cS X (compareOp .In) (aY X.K V8):=by
 intro pins s σ H x y v u Q I p r q;obtain⟨μ,mh,dx,t,R,d,z,B,q,F⟩:=q
 have go:(∃ds,aT mh t=some ds/\bare (bM mh dx)=true/\ds.all eR=true/\R (.bl (inD (bM mh dx) ds)) mh)->wpAny (model X.prog X.w) X.A (compareOp .In v u) (EP X pins σ Q) X.xe s:=λg=>by
  obtain⟨ds,e,b,f,q⟩:=g;obtain⟨a,vs,rfl,sq,l⟩:=lT d B e;have h :u=Value.ref a:=r;subst h;have C:=nW I d b z p;rcases sq with sq | sq
  ·obtain⟨aH,k,m,hz⟩:=I.list sq;have c:=fD I ds (fI f) l k;refine SeqAt.in_listAt (AU (bM mh dx)) m.isList (λw n=>nB o C f c w (by simpa using n)) ⟨.bl _,H,I,rfl,?_⟩;rw[show aH.toArray.any (AU (bM mh dx))=aH.any (AU (bM mh dx)) by simp,nR f c];exact F.here d q .bl
  ·obtain⟨aH,k,m,hz⟩:=I.tuple sq;have c:=fD I ds (fI f) l k;refine SeqAt.in_tupleAt (AU (bM mh dx)) m (λw n=>nB o C f c w (by simpa using n)) ⟨.bl _,H,I,rfl,?_⟩;rw[show aH.toArray.any (AU (bM mh dx))=aH.any (AU (bM mh dx)) by simp,nR f c];exact F.here d q .bl
 cases t with
 | str j=>
  obtain⟨i,rfl,q⟩:=q;cases cD z;cases cD B;exact DJ pins s σ H _ _ v u Q I p r ⟨i,j,rfl,rfl,F.here d q .bl⟩
 | _=>exact go q
theorem GD(o:X.A.units+64<cLine):cS X (compareOp .NotIn) (aY X.K uQ):=by
 intro pins s σ H x y v u Q I p r q;obtain⟨μ,mh,dx,t,R,d,z,B,q,F⟩:=q
 have go:(∃ds,aT mh t=some ds/\bare (bM mh dx)=true/\ds.all eR=true/\R (.bl !inD (bM mh dx) ds) mh)->wpAny (model X.prog X.w) X.A (compareOp .NotIn v u) (EP X pins σ Q) X.xe s:=λg=>by
  obtain⟨ds,e,b,f,q⟩:=g;obtain⟨a,vs,rfl,sq,l⟩:=lT d B e;have h :u=Value.ref a:=r;subst h;have C:=nW I d b z p;rcases sq with sq | sq
  ·obtain⟨aH,k,m,hz⟩:=I.list sq;have c:=fD I ds (fI f) l k;refine SeqAt.notIn_listAt (AU (bM mh dx)) m.isList (λw n=>nB o C f c w (by simpa using n)) ⟨.bl _,H,I,rfl,?_⟩;rw[show aH.toArray.any (AU (bM mh dx))=aH.any (AU (bM mh dx)) by simp,nR f c];exact F.here d q .bl
  ·obtain⟨aH,k,m,hz⟩:=I.tuple sq;have c:=fD I ds (fI f) l k;refine SeqAt.notIn_tupleAt (AU (bM mh dx)) m (λw n=>nB o C f c w (by simpa using n)) ⟨.bl _,H,I,rfl,?_⟩;rw[show aH.toArray.any (AU (bM mh dx))=aH.any (AU (bM mh dx)) by simp,nR f c];exact F.here d q .bl
 cases t with
 | str j=>
  obtain⟨i,rfl,q⟩:=q;cases cD z;cases cD B;exact uN pins s σ H _ _ v u Q I p r ⟨i,j,rfl,rfl,F.here d q .bl⟩
 | _=>exact go q
end
section
variable {prog:Program}{w:World}{A:Around}{E:aEe}{s:Shared}
open HT in
theorem kN{t sl:Addr}{a:Array Value}{f g:Value}{lo hi:Option Int}{Q:aEe}(ht:IsTup s.heap t a)(hs:s.heap.IsSliceOf sl f g .none)(j:IsPart f lo)(k:IsPart g hi)
  (i:bW a.size 0 lo=0/\bW a.size a.size hi=a.size)
  (h:Q (.ref t) s):wpAny (model prog w) A (getItem (.ref t) (.ref sl)) Q E s:=by
 obtain⟨os,c,d,l⟩:=id hs
 have e:s.TypeIs (.ref sl) "slice":=⟨os,c,d⟩
 unfold getItem
 try with_reducible refine aBf ?_
 first | refine aAz (aB0 ?_) | skip
 refine aAz (wpAny_sequenceKey ht.typeIs (by decide) ?_)
 refine aAz (aBg (name:=Str.ofString "__getitem__") ht.typeIs aBx
  (aBb aBx ht.typeIs entry_tuple_getitem ?_ (args_tuple_getitem _ _)))
 show wpAny _ _ (Builtin.Tuple.tupleItemsOf (.ref t) >>=_) _ _ s;refine aAz (tupleItemsOf_ ht ?_);refine aAz (aDm e ?_);rw[if_pos (by decide)];refine aAz (gU hs j k ?_)
 have b:((((bW a.size 0 lo:Nat):Int)==0 && (1:Int)==1 && (bW a.size a.size hi-bW a.size 0 lo)==a.size)=true):=by
  rw[i.1,i.2];simp
 show wpAny _ _ (if (((bW a.size 0 lo:Nat):Int)==0 && (1:Int)==1 && (bW a.size a.size hi-bW a.size 0 lo)==a.size)=true then _ else _) _ _ s;rw[if_pos b];have m:=ht.typeIs;refine aAz ?_
 first
  | (refine aAz (aDm m (aB0 ?_));simp only[beq_self_eq_true,if_true];refine aAz (aC5 ?_);first | exact aB0 (aB0 ⟨_,rfl,aB0 h⟩) | exact aAz (aB0 (aB0 ⟨_,rfl,aB0 h⟩)) | exact aAz (aB0 (aB0 (aB0 ⟨_,rfl,aB0 h⟩))))
  | trace_state
end
section
variable {X:Cx}
theorem J7:UM X (λx lo hi H Q=>∃a xs,x= .ref a/\pG X.K H a xs/\
  ((HT.bW xs.length 0 lo=0/\HT.bW xs.length xs.length hi=xs.length)->Q (.ref a) H)/\(¬(HT.bW xs.length 0 lo=0/\HT.bW xs.length xs.length hi=xs.length)->∀p,H p=none->Q (.ref p) (upd H p (.tup (vQ xs lo hi))))):=by
 intro pins s σ H x v i j lo hi sl Q I d hs e f h;obtain⟨a,xs,rfl,g,k,l⟩:=h;by_cases c:HT.bW xs.length 0 lo=0/\HT.bW xs.length xs.length hi=xs.length
 ·cases d;obtain⟨aH,r,ht,hz⟩:=I.tuple g;have b:aH.toArray.size=xs.length:=by rw[List.size_toArray];exact r.length.symm
  exact⟨"tuple",_,aBx.lookup,ht.typeIs,kN ht hs e f (by rw[b];exact c) ⟨.ref a,H,I,rfl,k c⟩⟩
 ·exact PJ pins s σ H _ v i j lo hi sl Q I d hs e f ⟨a,xs,rfl,g,c,l c⟩
def cutD(xs:List D)(lo hi:Option Int):List D:=(xs.drop (HT.bW xs.length 0 lo)).take (HT.bW xs.length xs.length hi-HT.bW xs.length 0 lo)
abbrev OS:=D->Option Int->Option Int->MH->DK->Prop
def OJ(K:aEd)(f:OS):V->Option Int->Option Int->Hp->VK->Prop:=λx lo hi H Q=>∃μ mh dx R,Rep K μ mh H/\Is K μ H dx x/\f dx lo hi mh R/\Fin K μ H R Q
def oM:OS:=λx lo hi mh Q=>match x with
 | .tup ds=>Q (.tup (cutD ds lo hi)) mh
 | _=>∃ds,iI mh x=some ds/\Q (.ref mh.length) (mh++[.lst (cutD ds lo hi)])
theorem CS{μ:List Addr}{ds:List D}{vs:List V}(l:IsL K μ H ds vs)(lo hi:Option Int):IsL K μ H (cutD ds lo hi) (vQ vs lo hi):=by
 unfold cutD vQ;rw[aO l];exact yG _ (yH _ l)
theorem sll:UM X (OJ X.K oM):=by
 intro pins s σ H x v f g lo hi sl Q I h hs i j q;obtain⟨μ,mh,dx,R,c,d,q,F⟩:=q
 have go:(∃ds,iI mh dx=some ds/\R (.ref mh.length) (mh++[.lst (cutD ds lo hi)]))->∃T id,typeLookup (.type T) "__getitem__"=pure (some (.builtin id))/\s.TypeIs v T/\wpAny (model X.prog X.w) X.A (getItem v (.ref sl)) (EP X pins σ Q) X.xe s:=λb=>by
  obtain⟨ds,e,q⟩:=b;obtain⟨a,vs,rfl,sq,l⟩:=qR c d e;exact J8 pins s σ H _ v f g lo hi sl Q I h hs i j ⟨a,vs,rfl,sq,fW c F (CS l lo hi) q⟩
 cases dx with
 | tup ds=>
  obtain⟨a,vs,rfl,sq,l⟩:=cQ d;refine J7 pins s σ H _ v f g lo hi sl Q I h hs i j ⟨a,vs,rfl,sq,λk=>?_,λ_=>kH c F (CS l lo hi) q⟩
  have e:cutD ds lo hi=ds:=by
   unfold cutD;rw[<-aO l,k.1,k.2,aO l];simp
  have q' :R (.tup (cutD ds lo hi)) mh:=q;rw[e]at q';exact F.here c q' d
 | _=>exact go q
abbrev WO:=dX->MH->(Option Int->MH->Prop)->Prop
def tLO(K:aEd)(w:WO):TO:=λσ H Q=>∃μ a mh R,Rep K μ mh H/\bU K μ H a σ/\w a mh R/\∀o mh',R o mh' ->∀μ' H',aG μ H μ' H' ->Rep K μ' mh' H' ->Q o H'
def LO(X:Cx)(e:Option Expr)(w:WO):Prop:=PO X e (tLO X.K w)
def E8:WO:=λ_ mh Q=>Q none mh
def bE(w:WE):WO:=λb mh Q=>w b mh λx a=>∃i,x= .int i/\Q (some i) a
variable {e:Expr}{w:WE}{lo hi:Option Expr}{wl wh:WO}{pos p2:Pos}
theorem L5:LO X none E8:=λpins s σ H Q I q=>KY pins s σ H Q I (by
 obtain⟨μ,b,mh,R,a,E,h,F⟩:=q
 exact F none mh h μ H aG.refl a)
theorem L4(h:LE X e w):LO X (some e) (bE w):=λpins s σ H Q I q=>KW h pins s σ H Q I (by
 obtain⟨μ,d,mh,R,f,E,h,F⟩:=q;refine⟨μ,d,mh,_,f,E,h,λdx a b c m g j k l=>?_⟩;obtain⟨i,rfl,b⟩:=b
 exact⟨i,aX l,F (some i) a b c g j k⟩)
def o7(f:OS)(w:WE)(wl wh:WO):WE:=λa mh Q=>w a mh λx b=>wl a b λl c=>wh a c λu d=>f x l u d Q
theorem G3{f:OS}(r:UM X (OJ X.K f))(he:LE X e w)(s:LO X lo wl)(t:LO X hi wh):LE X (.Subscript e (.Slice lo hi none p2) pos) (o7 f w wl wh):=PE.imp (F6 r he s t) λσ H Q q=>by
 obtain⟨μ,a,mh,R,b,E,h,F⟩:=q;refine⟨μ,a,mh,_,b,E,h,λdx c v d x C g o y=>⟨d,a,c,_,o,E.mono b g,v,λl i z j D k R2=>⟨j,a,i,_,R2,E.mono b (g.trans k),z,λu m A n G p B=>?_⟩⟩⟩;exact⟨n,m,dx,R,B,Is.mono o (k.trans p) dx x y,A,F.at ((g.trans k).trans p)⟩
abbrev OM:=D->List D->MH->DK->Prop
def liftM(K:aEd)(f:OM):V->List V->Hp->VK->Prop:=λx xs H Q=>∃μ mh dx ds R,Rep K μ mh H/\Is K μ H dx x/\IsL K μ H ds xs/\f dx ds mh R/\Fin K μ H R Q
def AL(mh:MH)(T:String):D->Prop
 | .str _=>T= "str"
 | .int _=>T= "int"
 | .ref n=>T= "list"/\∃ds,mh[n]? =some (.lst ds)
 | .fl _=>T= "list"
 | .tup _=>T= "tuple"
 | _=>False
theorem SH{μ:List Addr}{mh:MH}{T:String}{d:D}{v:V}(b:Rep K μ mh H)(i:Is K μ H d v)(k:AL mh T d):YX K T v H:=by
 cases d with
 | str z=>cases cD i;exact k
 | int z=>cases aX i;exact k
 | ref n=>obtain⟨e,ds,o⟩:=k;obtain⟨a,vs,rfl,_,hv,_⟩:=iG b i o;exact .inl ⟨e,vs,.of hv⟩
 | fl ds=>obtain⟨a,vs,rfl,sq,_⟩:=lI i;exact .inl ⟨k,vs,sq.sq⟩
 | tup ds=>obtain⟨a,vs,rfl,sq,_⟩:=cQ i;exact .inr (.inl ⟨k,vs,sq⟩)
 | _=>exact False.elim k
variable {o:Expr}{es:List Expr}{wo:WE}{wa:WA}{name:Str}{apos bS:Pos}{T id:String}
def JX(T:String)(f:OM)(wo:WE)(wa:WA):WE:=λc mh Q=>wo c mh λx a=>AL a T x/\wa c a λds b=>f x ds b Q
theorem OL{f:OM}(v:PlainAttrs T)(slot:Slot T name id)(g:typeOf (.builtin id)=pure (.type "method_descriptor"))(w:YQ X id (liftM X.K f))(ho:LE X o wo)(y:LA X (e::es) wa)
  (b:attributeBase o name X.env (eval o X.env)=eval o X.env:=by rfl)
  (d:((backTo bS (starEach (e::es) X.env)).all (λx=>!x.1) && (backToKw bS (keywordEach [] X.env)).all (λx=>x.1.isSome)
   && decide ((e::es).length+([]:List Keyword).length+(if ([]:List Keyword).isEmpty then 0 else 1)<30))=true:=by rfl)
  (c:(apos.endLine==bS.line)=true:=by rfl) (hs:starEach (e::es) X.env=(false,eval e X.env)::starEach es X.env:=by rfl) (a:(backTo bS (starEach es X.env)).any (·.1)=false:=by rfl):
  LE X (.Call (.Attribute o name apos) (e::es) [] bS) (JX T f wo wa):=PE.imp (VW v slot g w ho y b d c hs a) λσ H Q q=>by
 obtain⟨μ,n,mh,R,p,E,h,F⟩:=q;refine⟨μ,n,mh,_,p,E,h,λdx i r j z C s k t=>⟨SH k t r.1,j,n,i,_,k,E.mono p s,r.2,λds l A m vs D u R2 B=>?_⟩⟩;exact⟨m,l,dx,ds,R,R2,Is.mono k u dx z t,B,A,F.at (s.trans u)⟩
def d2:OM:=λx ds mh Q=>∃n es d,x= .ref n/\ds=[d]/\mh[n]? =some (.lst es)/\es.length<sizeLine/\Q .bF (mh.set n (.lst (es++[d])))
theorem DU:YQ X "list.append" (liftM X.K d2):=by
 intro pins s σ H x xs v us Q I c f q;obtain⟨μ,mh,dx,ds,R,b,g,h,⟨n,es,d,rfl,rfl,e,hz,q⟩,F⟩:=q;obtain⟨a,vs,rfl,i,hv,l⟩:=iG b g e;obtain⟨z,rfl,j⟩:=eP h;exact sZ pins s σ H _ _ v us Q I c f ⟨a,vs,z,rfl,rfl,hv,by rw[aO l];exact hz,F.put b i (iJ l (kA j)) q .bF⟩
end
structure hV where
 nx:dX->MH->Prop
 rt:DK
 bk:dX->MH->Prop:=λ_ _=>False
 ct:dX->MH->Prop:=λ_ _=>False
abbrev WS:=hV->dX->MH->Prop
def zI(K:aEd)(μ:List Addr)(H:Hp)(R:dX->MH->Prop)(Q:L2.St->Hp->Prop):Prop:=
 ∀a mh',R a mh' ->∀μ' b H',aG μ H μ' H' ->Rep K μ' mh' H' ->bU K μ' H' a b ->Q b H'
structure v9(K:aEd)(μ:List Addr)(H:Hp)(E:hV)(D:Ends):Prop where
 nx:zI K μ H E.nx D.nx
 rt:Fin K μ H E.rt D.rt
 bk:zI K μ H E.bk D.bk
 ct:zI K μ H E.ct D.ct
def Y6(K:aEd)(w:WS):TS:=λD σ H=>∃μ a mh E,Rep K μ mh H/\bU K μ H a σ/\w E a mh/\v9 K μ H E D
def LS(X:Cx)(st:Stmt)(w:WS):Prop:=PS X st (Y6 X.K w)
def kL(X:Cx)(st:List Stmt)(w:WS):Prop:=t9 X st (Y6 X.K w)
theorem PS.imp{e:Stmt}{t t' :TS}(h:PS X e t)(i:∀D σ H,t' D σ H->t D σ H):PS X e t' :=λpins s σ H D I q=>h pins s σ H D I (i D σ H q)
theorem t9.imp{e:List Stmt}{t t' :TS}(h:t9 X e t)(i:∀D σ H,t' D σ H->t D σ H):t9 X e t' :=λpins s σ H D I q=>h pins s σ H D I (i D σ H q)
section
variable {K:aEd}{μ μ1:List Addr}{H H1:Hp}
theorem zI.at{R:dX->MH->Prop}{Q:L2.St->Hp->Prop}(F:zI K μ H R Q)(P:aG μ H μ1 H1):zI K μ1 H1 R Q:=λa mh' r μ' b H' c d I=>F a mh' r μ' b H' (P.trans c) d I
theorem v9.at{E:hV}{D:Ends}(F:v9 K μ H E D)(P:aG μ H μ1 H1):v9 K μ1 H1 E D:=⟨F.nx.at P,F.rt.at P,F.bk.at P,F.ct.at P⟩
theorem bU.set{c:dX}{σ:L2.St}{d:D}{v:V}(E:bU K μ H c σ)(i:Nat)(h:Is K μ H d v):bU K μ H (c.set i (some d)) (σ.set i (some v)):=by
 refine⟨by simp[E.1],λj e b=>?_⟩;by_cases a:j=i
 ·subst a
  have f:j<c.length:=by
   have:=(aB2.mp b).1;simpa using this
  rw[List.getElem?_set_self f]at b;cases b;exact⟨v,by rw[List.getElem?_set_self (by rw[<-E.1];exact f)],h⟩
 ·rw[List.getElem?_set_ne (Ne.symm a)]at b;obtain⟨u,g,k⟩:=E.2 j e b;exact⟨u,by rw[List.getElem?_set_ne (Ne.symm a)];exact g,k⟩
end
def dC:WS:=λE a mh=>E.nx a mh
def aS(t u:WS):WS:=λE a mh=>t {E with nx:=u E} a mh
def p6(w:WE):WS:=λE b mh=>w b mh λ_ a=>E.nx b a
def dA(w:WE):WS:=λE a mh=>w a mh E.rt
def gR(t:WT)(a b:WS):WS:=λE e mh=>t e mh λc d=>if c=true then a E e d else b E e d
section
variable {X:Cx}{st:Stmt}{rest a b:List Stmt}{t u:WS}{e:Expr}{w:WE}{wt:WT}{pos:Pos}
theorem RL:kL X [] dC:=t9.imp KS λD σ H a=>by obtain⟨μ,b,mh,E,R,En,h,F⟩:=a;exact F.nx b mh h μ σ H aG.refl R En
theorem L3(d:LS X st t)(e:kL X rest u):kL X (st::rest) (aS t u):=t9.imp (FV d e) λD σ H a=>by
 obtain⟨μ,f,mh,E,R,En,h,F⟩:=a;exact⟨μ,f,mh,_,R,En,h,⟨λb mh' q μ' g H' i j c =>⟨μ',b,mh',E,j,c,q,F.at i⟩,F.rt,F.bk,F.ct⟩⟩
theorem RK(a:LS X st t):kL X [st] t:=KR a
theorem L1(he:LE X e w)(hs:swapsWith e none pos.line X.env=pure false:=by rfl):LS X (.Expr e pos) (p6 w):=PS.imp (KU he hs) λD σ H ⟨μ,c,mh,E,R,En,h,F⟩=>
 ⟨μ,c,mh,_,R,En,h,λd a q b v g f i j=>F.nx c a q b σ g f i (En.mono R f)⟩
theorem RJ(he:LE X e w):LS X (.Return (some e) pos) (dA w):=PS.imp (P8 he) λD σ H a=>by obtain⟨μ,b,mh,E,R,En,h,F⟩:=a;exact⟨μ,b,mh,_,R,En,h,F.rt⟩
theorem WH{c:Expr}(l:LT X c wt)(m:kL X a t)(n:kL X b u):LS X (.If c a b pos) (gR wt t u):=PS.imp (VR l m n) λD σ H g=>by
 obtain⟨μ,i,mh,E,R,En,h,F⟩:=g;refine⟨μ,i,mh,_,R,En,h,λk d q e o f j=>?_⟩
 cases k with
 | true=>rw[if_pos rfl]at q⊢;exact⟨e,i,d,E,j,En.mono R f,q,F.at f⟩
 | false=>rw[if_neg Bool.false_ne_true]at q⊢;exact⟨e,i,d,E,j,En.mono R f,q,F.at f⟩
abbrev WG:=D->dX->(dX->Prop)->Prop
abbrev ER:=List D->dX->(dX->Prop)->Prop
def kP(K:aEd)(g:TG)(e:WG):Prop:=∀v σ H Q μ c mh d R,Rep K μ mh H->bU K μ H c σ->Is K μ H d v->e d c R->(∀a,R a ->∀b,bU K μ H a b ->Q b H)->g v σ H Q
def rQ(K:aEd)(g:zE)(d:ER):Prop:=∀vs σ H Q μ c mh ds R,Rep K μ mh H->bU K μ H c σ->IsL K μ H ds vs->d ds c R->(∀a,R a ->∀b,bU K μ H a b ->Q b H)->g vs σ H Q
def gN(i:Nat):WG:=λd a Q=>Q (a.set i (some d))
def eQ:ER:=λds a Q=>ds=[]/\Q a
def aW(t:WG)(u:ER):ER:=λds b Q=>∃d r,ds=d::r/\t d b λa =>u r a Q
def gT(n:Nat)(u:ER):WG:=λd a Q=>∃ds,d= .tup ds/\ds.length=n/\u ds a Q
theorem vH(i:Nat):kP K (oR i) (gN i):=λv σ H Q μ a mh d R b En I h F=>F _ h _ (En.set i I)
theorem MT:rQ K HZ eQ:=λvs σ H Q μ a mh ds R b En I h F=>by
 obtain⟨rfl,h⟩:=h;unfold IsL at I;exact⟨I,F a h σ En⟩
theorem HW{g:TG}{gs:zE}{f:WG}{a:ER}(k:kP K g f)(l:rQ K gs a):rQ K (yK g gs) (aW f a):=λvs σ H Q μ m mh ds R i En I h F=>by
 obtain⟨d,r,rfl,h⟩:=h;unfold IsL at I;obtain⟨v,j,rfl,n,o⟩:=I;exact⟨v,j,rfl,k v σ H _ μ m mh d _ i En n h λb q c e =>l j c H Q μ b mh r R i e o q F⟩
theorem TC{n:Nat}{gs:zE}{b:ER}(h:rQ K gs b):kP K (TH K n gs) (gT n b):=λv σ H Q μ c mh d R e En I q F=>by
 obtain⟨ds,rfl,f,q⟩:=q;obtain⟨a,vs,rfl,sq,l⟩:=cQ I;exact⟨a,vs,rfl,sq,by rw[aO l];exact f,h vs σ H Q μ c mh ds R e En l q F⟩
def bA(w:WE)(g:WG):WS:=λE c mh=>w c mh λd a=>g d c λb =>E.nx b a
theorem A7{g:TG}{i:WG}{D:Ends}{σ:L2.St}(n:kP K g i)(h:Y6 K (bA w i) D σ H):J6 (tL K w) g D σ H:=by
 obtain⟨μ,j,mh,E,R,En,h,F⟩:=h;refine⟨μ,j,mh,_,R,En,h,λd a q b v k l m o=>?_⟩;exact n v σ k _ b j a d _ m (En.mono R l) o q λc q' e f =>F.nx c a q' b e k l m f
theorem AH(i:Nat){x:Str}{a :Pos}(hN:X.N.Nodup)(he:LE X e w)(hi:X.N[i]? =some x:=by rfl)(b:Loc X.env.scope x:=by first | exact Or.inl rfl | exact Or.inr rfl)(hs:swapsWith e (some (.Name x a)) pos.line X.env=pure false:=by rfl)(c:X.fn x=true\/X.env.scope.names.lookup x=some .local:=by first | exact .inl rfl | exact .inr rfl | assumption):
  LS X (.Assign [.Name x a] e pos) (bA w (gN i)):=PS.imp (P7 hN hi b he hs c) λD σ H h=>A7 (vH i) h
theorem RN{tg:Expr}{g:TG}{a:WG}(he:LE X e w)(hg:PG X tg g)(b:kP X.K g a)(hs:swapsWithSole [tg] e pos.line X.env=pure false:=by rfl)(c:swappedStores [tg] e X.env=pure none:=by rfl)
  (d:(assignEach [tg] X.env).map (·.2)=[assign tg X.env]:=by rfl):LS X (.Assign [tg] e pos) (bA w a):=PS.imp (FZ he hg hs c d) λD σ H h=>A7 b h
def J9:D->D->D->MH->(MH->Prop)->Prop:=λo i d mh Q=>∃n ds k j,o= .ref n/\i= .int k/\mh[n]? =some (.lst ds)/\EV ds.length k=some j/\Q (mh.set n (.lst (ds.set j d)))
def wQ(w g wi:WE):WS:=λE a mh=>w a mh λd b=>g a b λo c=>wi a c λi e=>J9 o i d e λf=>E.nx a f
theorem LU{o i:Expr}{z wi:WE}{b:Pos}(he:LE X e w)(ho:LE X o z)(hi:LE X i wi)
  (G:∀v,assign (.Subscript o i b) X.env v=(do
   let ov<-holding [v] (eval o X.env)
   let iv<-holding [v,ov] (eval i X.env)
   standAt b
   holding [v,ov,iv] (setItem ov iv v)
   release [v,ov,iv] []):=by intro _;rfl)
  (hs:swapsWithSole [.Subscript o i b] e pos.line X.env=pure false:=by rfl) (I:swappedStores [.Subscript o i b] e X.env=pure none:=by rfl)
  (J:(assignEach [.Subscript o i b] X.env).map (·.2)=[assign (.Subscript o i b) X.env]:=by rfl):LS X (.Assign [.Subscript o i b] e pos) (wQ w z wi):=
 PS.imp (FZ he (QB ho hi set_list G) hs I J) λD σ H h=>by
  obtain⟨μ,g,mh,E,R,En,h,F⟩:=h;refine⟨μ,g,mh,_,R,En,h,λd m q p v Z r A K=>?_⟩;refine⟨p,g,m,_,A,En.mono R r,q,λL s M t vo H2 u R2 N=>?_⟩;refine⟨t,g,s,_,R2,En.mono R (r.trans u),M,λdi O P c vi B x y Q=>?_⟩;obtain⟨n,ds,k,j,rfl,rfl,S,T,U⟩:=P;obtain⟨a,vs,rfl,C,hv,l⟩:=iG y (Is.mono R2 x _ _ N) S;cases aX Q;have V:=Is.mono A (u.trans x) d v K;have W:aG c B c (upd B a (.lst (vs.set j v))):=aG.set y C;have Y:=y.set C (CP j V l);have f:=((r.trans u).trans x).trans W;exact⟨a,vs,k,j,rfl,rfl,hv,by rw[aO l];exact T,F.nx g _ U c σ _ f Y (En.mono R f)⟩
def lQ(t:WT)(b:WS):WS:=λE a mh=>∃W:Nat->dX->MH->Prop,(∃m,W m a mh)/\∀m a mh,W m a mh->∃N:dX->MH->Prop,(∀d mh',N d mh' ->∃f,f<m/\W f d mh')/\
 t a mh λc e=>if c=true then b {E with nx:=N,ct:=N,bk:=E.nx} a e else E.nx a e
theorem GZ{c:Expr}{body:List Stmt}(B:PassesOwn (model X.prog X.w) X.A X.env X.xe)(C:LT X c wt)(G:kL X body t):LS X (.While c body [] pos) (lQ wt t):=PS.imp (FW B C G) λD σ H h=>by
 obtain⟨μ,I,mh,E,R,En,⟨W,⟨m,J⟩,o⟩,F⟩:=h;refine⟨λm j H' =>∃μ' e mh',aG μ H μ' H' /\Rep X.K μ' mh' H' /\bU X.K μ' H' e j /\W m e mh',⟨m,μ,I,mh,aG.refl,R,En,J⟩,?_⟩;rintro m j H' ⟨μ',e,mh',y,x,l,L⟩;obtain⟨N,hN,tt⟩:=o m e mh' L;refine⟨μ',e,mh',_,x,l,tt,λk p q r M v z=>?_⟩
 cases k with
 | false=>rw[if_neg Bool.false_ne_true]at q⊢;exact F.nx e p q r j M (y.trans v) z (l.mono x v)
 | true=>
  rw[if_pos rfl]at q⊢;refine⟨λg n=>∃a b d,aG μ H a n/\Rep X.K a d n/\bU X.K a n b g/\N b d,?_,?_⟩
  ·rintro g n ⟨a,b,d,s,R2,f,u⟩;obtain⟨O,P,Q⟩:=hN b d u;exact⟨O,P,a,b,d,s,R2,f,Q⟩
  ·have i:=y.trans v;exact⟨r,e,p,_,z,l.mono x v,q,⟨λb d u a g n s R2 f=>⟨a,b,d,i.trans s,R2,f,u⟩,F.rt.at i,F.nx.at i,λb d u a g n s R2 f=>⟨a,b,d,i.trans s,R2,f,u⟩⟩⟩
def lM(t:WT)(b:WS)(E:hV):Nat->dX->MH->Prop
 | 0,_,_=>False
 | n+1,ρ,mh=>t ρ mh λc a=>if c=true then b {E with nx:=lM t b E n,ct:=lM t b E n,bk:=E.nx} ρ a else E.nx ρ a
theorem zL{t:WT}{b:WS}{E:hV}{a:dX}{mh:MH}(n:Nat)(h:lM t b E n a mh):lQ t b E a mh:=by
 refine⟨λm a mh=>lM t b E m a mh,⟨n,h⟩,λm a mh c=>?_⟩
 cases m with
 | zero=>exact c.elim
 | succ m=>exact⟨lM t b E m,λd mh' q=>⟨m,aBy _,q⟩,c⟩
abbrev WI:=dX->MH->(List D->(MH->Prop)->MH->Prop)->Prop
structure hG(μ:List Addr)(H:Hp)(μ' :List Addr)(H' :Hp):Prop where
 pre:∃t,μ' =μ++t
 fr:∀b o,H b=some o->¬Own (some o)->H' b=some o
section
variable {K:aEd}{μ μ' :List Addr}{mh:MH}{H H' :Hp}
theorem aG.weak(R:Rep K μ mh H)(P:aG μ H μ' H'):hG μ H μ' H' :=⟨P.pre,λb o e n=>P.fr b o e λa=>n (by have:=R.mut a;rwa [e]at this)⟩
theorem hG.get(p:hG μ H μ' H'){n:Nat}{a:Addr}(h:μ[n]? =some a):μ'[n]? =some a:=by
 obtain⟨t,rfl⟩:=p.pre;rw[List.getElem?_append_left (List.getElem?_eq_some_iff.mp h).1];exact h
theorem hG.U5(p:hG μ H μ' H'){a:Addr}{vs:List V}(h:ES K H a vs):ES K H' a vs:=by
 rcases h with h | h
 ·exact .inl (p.fr _ _ h id)
 ·exact .inr h
theorem hG.U6(p:hG μ H μ' H'){a:Addr}{vs:List V}(h:JP K H a vs):JP K H' a vs:=by
 rcases h with ⟨o,h⟩ | h
 ·exact .inl ⟨o,p.fr _ _ h id⟩
 ·exact .inr h
mutual
theorem Is.lG(p:hG μ H μ' H'):∀(d:D) (v:V),Is K μ H d v->Is K μ' H' d v
 | .bF,v,h=>by unfold Is at*;exact h
 | .bl _,v,h=>by unfold Is at*;exact h
 | .int _,v,h=>by unfold Is at*;exact h
 | .str _,v,h=>by unfold Is at*;exact h
 | .ty _,v,h=>by unfold Is at*;exact h
 | .tup ds,v,h=>by
  unfold Is at*;obtain⟨a,vs,e,s,l⟩:=h;exact⟨a,vs,e,p.U5 s,IsL.lG p ds vs l⟩
 | .fl ds,v,h=>by
  unfold Is at*;obtain⟨a,vs,e,s,l⟩:=h;exact⟨a,vs,e,p.U6 s,IsL.lG p ds vs l⟩
 | .ref n,v,h=>by
  unfold Is at*;obtain⟨a,e,q⟩:=h;exact⟨a,p.get e,q⟩
theorem IsL.lG(p:hG μ H μ' H'):∀(ds:List D) (vs:List V),IsL K μ H ds vs->IsL K μ' H' ds vs
 | [],vs,h=>by unfold IsL at*;exact h
 | d::ds,vs,h=>by
  unfold IsL at*;obtain⟨v,r,e,q,l⟩:=h;exact⟨v,r,e,Is.lG p d v q,IsL.lG p ds r l⟩
end
end
structure zH(K:aEd)(μ:List Addr)(H:Hp)(ds:List D)(St:MH->Prop)(J:It):Prop where
 small:ds.length<=sizeLine
 go:∀μ' mh' H',hG μ H μ' H' ->Rep K μ' mh' H' ->St mh' ->∀(i:Nat) d,ds[i]? =some d->J.go i H' /\∀x H'',J.NY i H' x H'' ->aG μ' H' μ' H'' /\Rep K μ' mh' H'' /\Is K μ' H'' d x
 stop:∀μ' mh' H',hG μ H μ' H' ->Rep K μ' mh' H' ->St mh' ->J.stop ds.length H'
def UH(K:aEd)(w:WI):TI:=λσ H R=>∃μ d mh e,Rep K μ mh H/\bU K μ H d σ/\w d mh e /\
 ∀ds St b,e ds St b->∀a J c,aG μ H a c->Rep K a b c->zH K a c ds St J->R J c
def LI(X:Cx)(tg iter:Expr)(w:WI):Prop:=PI X tg iter (UH X.K w)
theorem PI.imp{X:Cx}{tg e:Expr}{t t' :TI}(h:PI X tg e t)(i:∀σ H Q,t' σ H Q->t σ H Q):PI X tg e t' :=λpins s σ H Q I q=>h pins s σ H Q I (i σ H Q q)
def jQ(g:WG)(b:WS)(E:hV)(St:MH->Prop):List D->dX->MH->Prop
 | [],ρ,mh=>St mh/\E.nx ρ mh
 | d::ds,ρ,mh=>St mh/\g d ρ λa=>b {E with nx:=jQ g b E St ds,ct:=jQ g b E St ds,bk:=E.nx} a mh
def kM(wi:WI)(g:WG)(b:WS):WS:=λE c mh=>wi c mh λds St a=>jQ g b E St ds c a
theorem RM{tg iter:Expr}{body:List Stmt}{wi:WI}{g:TG}{r:WG}(W:PassesOwn (model X.prog X.w) X.A X.env X.xe)(Y:X.calm=true)(hi:LI X tg iter wi)(hg:PG X tg g)(Z:kP X.K g r)(hb:kL X body t)
  (hs:∀x,foldedSetIterable iter X.env x=pure x:=by intro _;rfl):LS X (.For tg iter body [] pos) (kM wi r t):=PS.imp (FY W Y hi hg hb hs) λD σ H h=>by
 obtain⟨μ,S,mh,E,R,En,h,F⟩:=h;refine⟨μ,S,mh,_,R,En,h,λds St C q j J G I L It=>?_⟩;refine⟨λi m k H' =>∃μ' d mh',aG j G μ' H' /\Rep X.K μ' mh' H' /\bU X.K μ' H' d k /\i<=ds.length/\m=ds.length-i/\jQ r t E St (ds.drop i) d mh',⟨ds.length,j,S,C,aG.refl,L,En.mono R I,aCa _,by simp,by simpa using q⟩,?_⟩;rintro i m k H' ⟨μ',d,mh',z,B,s,hi',rfl,l⟩;by_cases o:i<ds.length
 ·rw[List.drop_eq_getElem_cons o]at l;obtain⟨M,l⟩:=l;obtain⟨N,hy⟩:=It.go μ' mh' H' (z.weak L) B M i ds[i] (by simp[o]);refine .inr ⟨N,λf n=>∃a b c,aG j G a n/\Rep X.K a c n/\bU X.K a n b f/\jQ r t E St (ds.drop (i+1)) b c,?_,λx H'' y=>?_⟩
  ·rintro f n ⟨a,b,c,O,R2,p,l2⟩;exact⟨ds.length-(i+1),by lia,a,b,c,O,R2,p,o,rfl,l2⟩
  ·obtain⟨T,U,Iy⟩:=hy x H'' y;refine Z x k H'' _ μ' d mh' _ _ U (s.mono B T) Iy l λP q3 σ3 Q=>?_;have V:=z.trans T;have u:=I.trans V
   have v:zI X.K μ' H'' (jQ r t E St (ds.drop (i+1))) (λf n=>∃a b c,aG j G a n/\Rep X.K a c n/\bU X.K a n b f/\jQ r t E St (ds.drop (i+1)) b c):=
    λb c n2 a f n O R2 p=>⟨a,b,c,V.trans O,R2,p,n2⟩
   exact⟨μ',P,mh',_,U,Q,q3,⟨v,F.rt.at u,F.nx.at u,v⟩⟩
 ·have e:i=ds.length:=by lia
  subst e;rw[List.drop_of_length_le (Nat.le_refl _)]at l;exact .inl ⟨It.stop μ' mh' H' (z.weak L) B l.1,F.nx d mh' l.2 μ' k H' (I.trans z) B s⟩
end
def mQ(w:WE):WI:=λb mh Q=>w b mh λx a=>∃ds,aT a x=some ds/\Q ds (λmh' =>aT mh' x=some ds) a
section
variable {K:aEd}{μ:List Addr}{mh:MH}{H:Hp}{ds:List D}{vs:List V}{a:Addr}
theorem SS{St:MH->Prop}(R:Rep K μ mh H)(s:ES K H a vs)(l:IsL K μ H ds vs)(hz:ds.length<=sizeLine):zH K μ H ds St (Itt K a):=by
 refine⟨hz,λμ' mh' H' b c _ i d e=>?_,λμ' mh' H' b c _=>⟨vs,(b.U5 s).sq,by rw[aO l];exact aB3 _⟩⟩;have f :=(b.U5 s).sq;obtain⟨v,g,h⟩:=d3 (IsL.lG b ds vs l) e;refine⟨⟨vs,v,f,g⟩,λx H'' y=>?_⟩;obtain⟨rfl,y⟩:=y;have:=y vs f;rw[g]at this;cases this;exact⟨aG.refl,c,h⟩
theorem W4{St:MH->Prop}(R:Rep K μ mh H)(s:JP K H a vs)(l:IsL K μ H ds vs)(hz:ds.length<=sizeLine):zH K μ H ds St (YR K a):=by
 refine⟨hz,λμ' mh' H' b c _ i d e=>?_,λμ' mh' H' b c _=>⟨vs,(b.U6 s).sq,by rw[aO l];exact aB3 _⟩⟩;have f :=(b.U6 s).sq;obtain⟨v,g,h⟩:=d3 (IsL.lG b ds vs l) e;refine⟨⟨vs,v,f,g⟩,λx H'' y=>?_⟩;obtain⟨rfl,y⟩:=y;have:=y vs f;rw[g]at this;cases this;exact⟨aG.refl,c,h⟩
theorem pL{mh:MH}{n:Nat}{ds:List D}(h:aT mh (.ref n)=some ds):mh[n]? =some (.lst ds):=by
 simp only[aT]at h
 cases o:mh[n]? with
 | none=>rw[o]at h;cases h
 | some ob=>cases ob with
  | lst es=>rw[o]at h;cases h;rfl
  | dic t kvs=>rw[o]at h;cases h
  | fdc t kvs ob=>rw[o]at h;cases h
  | dO ds f=>rw[o]at h;cases h
theorem SU{n:Nat}(R:Rep K μ mh H)(f:μ[n]? =some a)(hz:ds.length<=sizeLine):zH K μ H ds (λmh' =>aT mh' (.ref n)=some ds) (YR K a):=by
 refine⟨hz,λμ' mh' H' c b hs i d e=>?_,λμ' mh' H' c b hs=>?_⟩
 ·obtain⟨vs,hv,l⟩:=b.obj n a _ (c.get f) (pL hs);obtain⟨v,g,h⟩:=d3 l e;refine⟨⟨vs,v,.of hv,g⟩,λx H'' y=>?_⟩;obtain⟨rfl,y⟩:=y;have:=y vs (.of hv);rw[g]at this;cases this;exact⟨aG.refl,b,h⟩
 ·obtain⟨vs,hv,l⟩:=b.obj n a _ (c.get f) (pL hs);exact⟨vs,.of hv,by rw[aO l];exact aB3 _⟩
end
section
variable {X:Cx}{tg l:Expr}{w:WE}
theorem RQ(E:LE X l w):LI X tg l (mQ w):=by
 intro pins s σ H R I h;obtain⟨μ,G,mh,J,L,En,h,F⟩:=h;refine cA (E pins s σ H (λv g=>∃c x f ds,aG μ H c g/\Rep X.K c f g/\Is X.K c g x v/\aT f x=some ds/\J ds (λmh' =>aT mh' x=some ds) f) I ⟨μ,G,mh,_,L,En,h,λd f q c v g y m i=>?_⟩) λv s1 ⟨x,g,i,C,M⟩=>?_
 ·obtain⟨ds,e,q⟩:=q;exact⟨c,d,f,ds,y,m,i,e,q⟩
 ·obtain⟨c,dx,f,ds,y,m,z,e,q⟩:=M;obtain⟨a,vs,rfl,sq,N⟩:=lT m z e;have hz:ds.length<=sizeLine:=by rw[<-aO N];exact PH i sq
  have j:∀{vs:List V},nV X.K g a vs->zH X.K c g ds (λmh' =>aT mh' dx=some ds) (YR X.K a)->wpAny (model X.prog X.w) X.A (pyIter v) (YO X pins σ tg R) X.xe s1:=λ{vs} sq It=>by
   obtain⟨aH,O,p,_⟩:=i.list sq;cases C;refine wpAny_pyIter_list p.isList ?_;refine⟨s1.heap.objs.size,[s1.heap.objs.size],_,_,g,rfl,i.kept (t' :=s1.toks) λb o e=>aB1 _ e,C7 a _,⟨_,aB4 _ rfl,rfl,rfl⟩,λb B=>?_,F ds _ f q c _ g y m It⟩;have e:b=s1.heap.objs.size:=by simpa using B
   subst e;exact i.AR (aB3 _) (i.bD.fresh (aB3 _))
  cases dx with
  | tup es=>
   cases e;obtain⟨D,t,u,k,r⟩:=pP z;cases u;obtain⟨aH,O,p,_⟩:=i.tuple k.sq;cases C;refine aE3 (show s1.heap.IsTuple a aH.toArray from p) ?_;refine⟨s1.heap.objs.size,[s1.heap.objs.size],_,_,g,rfl,i.kept (t' :=s1.toks) λb o e=>aB1 _ e,zN a _,⟨_,aB4 _ rfl,rfl,rfl⟩,λb B=>?_,F ds _ f q c _ g y m (SS m k r hz)⟩;have e:b=s1.heap.objs.size:=by simpa using B
   subst e;exact i.AR (aB3 _) (i.bD.fresh (aB3 _))
  | fl es=>
   cases e;obtain⟨D,t,u,k,r⟩:=lI z;cases u;exact j k.sq (W4 m k r hz)
  | ref n=>
   obtain⟨D,t,u,P,hv,r⟩:=iG m z (pL e);cases u;exact j (.of hv) (SU m P hz)
  | _=>cases e
def dF(lo:Int)(n:Nat):List D:=(List.range n).map λ(k:Nat)=>D.int (lo+(k:Int))
theorem HH{μ:List Addr}{St:MH->Prop}{lo:Int}{n:Nat}(hz:n<=sizeLine):zH K μ H (dF lo n) St (X0 lo n):=by
 refine⟨by simpa[dF] using hz,λμ' mh' H' b a _ i d e=>?_,λμ' mh' H' b a _=>by show n<=_;simp[dF]⟩;simp only[dF,List.getElem?_map]at e;obtain⟨k,hk,rfl⟩:=aBm.mp e;obtain⟨hi,rfl⟩:=aB2.mp hk;simp at hi;refine⟨hi,λx H'' y=>?_⟩;obtain⟨rfl,rfl⟩:=y;exact⟨aG.refl,a,by simp;exact .int⟩
variable {a b:Expr}{wa:WA}{p pos:Pos}
def fT(wa:WA):WI:=λb mh Q=>wa b mh λds a=>∃j,ds=[.int j]/\ -(2^62)<=j/\j<=sizeLine/\Q (dF 0 j.toNat) (λ_=>True) a
def BH(wa:WA):WI:=λb mh Q=>wa b mh λds a=>∃i j,ds=[.int i,.int j]/\ -(2^62)<=i/\i<2^62/\ -(2^62)<=j/\j<2^62/\j-i<=sizeLine/\Q (dF i (j-i).toNat) (λ_=>True) a
theorem DZ(hg:Gl X "range")(d:X.mg "range"=none)(e:LA X [a] wa)(hs:starEach [a] X.env=[(false,eval a X.env)]:=by rfl):LI X tg (.Call (.Name "range" p) [a] [] pos) (fT wa):=
 PI.imp (DG hg d e hs) λσ H R h=>by
  obtain⟨μ,f,mh,r,g,En,h,F⟩:=h;refine⟨μ,f,mh,_,g,En,h,λds b q c vs i k l m=>?_⟩;obtain⟨j,rfl,n,s,q⟩:=q;obtain⟨v,rfl,o⟩:=eP m;cases aX o;have t:=jR;have hs:sizeLine=16777216:=aBk;exact⟨j,rfl,n,by lia,F _ _ b q c _ i k l (HH (by lia))⟩
theorem DY(hg:Gl X "range")(f:X.mg "range"=none)(g:LA X [a,b] wa)(hs:starEach [a,b] X.env=[(false,eval a X.env),(false,eval b X.env)]:=by rfl)(c:starEach [b] X.env=[(false,eval b X.env)]:=by rfl):LI X tg (.Call (.Name "range" p) [a,b] [] pos) (BH wa):=
 PI.imp (DF hg f g hs c) λσ H R h=>by
  obtain⟨μ,k,mh,A,l,En,h,F⟩:=h;refine⟨μ,k,mh,_,l,En,h,λds d q e vs m n o r=>?_⟩;obtain⟨i,j,rfl,s,t,w,x,B,q⟩:=q;obtain⟨v,u,rfl,y,z⟩:=tJ r;cases aX y;cases aX z;exact⟨i,j,rfl,⟨s,t,w,x⟩,F _ _ d q e _ m n o (HH (by lia))⟩
def d5:List D->List D->List D
 | a::as,b::bs=>.tup [a,b]::d5 as bs
 | _,_=>[]
theorem pT:∀(as bs:List D),(d5 as bs).length=min as.length bs.length
 | [],bs=>by simp[d5]
 | a::as,[]=>by simp[d5]
 | a::as,b::bs=>by simp[d5,pT as bs]
theorem wI:∀{as bs:List D} {i:Nat} {d:D},(d5 as bs)[i]? =some d->∃x y,as[i]? =some x/\bs[i]? =some y/\d= .tup [x,y]
 | [],bs,i,d,h=>by simp[d5]at h
 | a::as,[],i,d,h=>by simp[d5]at h
 | a::as,b::bs,0,d,h=>by simp[d5]at h;exact⟨a,b,rfl,rfl,h.symm⟩
 | a::as,b::bs,i+1,d,h=>by simpa using wI (as:=as) (bs:=bs) (i:=i) (by simpa[d5] using h)
def sN(wa:WA):WI:=λb mh Q=>wa b mh λxs a=>∃x y ds es,xs=[x,y]/\aT a x=some ds/\aT a y=some es/\ds.length<=sizeLine/\Q (d5 ds es) (λmh' =>aT mh' x=some ds/\aT mh' y=some es) a
def HK:D->Bool | .tup _=>true | _=>false
theorem nX{μ:List Addr}{mh:MH}{d:D}{v:V}{ds:List D}(R:Rep K μ mh H)(h:Is K μ H d v)(e:aT mh d=some ds):∃a vs,v= .ref a/\zK K H (HK d) a vs/\IsL K μ H ds vs:=by
 cases d with
 | tup es=>obtain⟨a,vs,rfl,s,l⟩:=cQ h;cases e;exact⟨a,vs,rfl,s,l⟩
 | fl es=>obtain⟨a,vs,rfl,s,l⟩:=lI h;cases e;exact⟨a,vs,rfl,s.sq,l⟩
 | ref n=>obtain⟨a,vs,rfl,_,hv,l⟩:=iG R h (pL e);exact⟨a,vs,rfl,nV.of hv,l⟩
 | _=>cases e
variable {e1 e2:Expr}{elts:List Expr}{x1:Nat}{lS:Pos}
theorem L6{x1}(hg:Gl X "zip")(T:X.mg "zip"=none)(U:LA X [e1,e2] wa)
  (he:starEach [e1,e2] X.env=(false,eval e1 X.env)::starEach [e2] X.env:=by rfl) (C:(backTo pos (starEach [e2] X.env)).any (·.1)=false:=by rfl):
  LI X (.Tuple elts x1 lS) (.Call (.Name "zip" p) [e1,e2] [] pos) (sN wa):=
 PI.imp (P9 UP ⟨by decide,by decide⟩ hg T U (by decide+kernel) he C) λσ H R h=>by
  obtain⟨μ,V,mh,g,W,En,h,F⟩:=h;refine⟨μ,V,mh,_,W,En,h,λxs D q o vs L Y E Z=>?_⟩;obtain⟨x,y,ds,es,rfl,h1,h2,hz,q⟩:=q;obtain⟨v,u,rfl,M,N⟩:=tJ Z;obtain⟨a,xs,rfl,sa,la⟩:=nX E M h1;obtain⟨b,w,rfl,sb,lb⟩:=nX E N h2;refine⟨[(a,HK x),(b,HK y)],rfl,rfl,?_,F _ _ D q o _ L Y E ?_⟩
  ·intro G r;simp at r;rcases r with rfl | rfl
   ·exact⟨xs,sa⟩
   ·exact⟨w,sb⟩
  ·have l:∀μ' mh' H',hG o L μ' H' ->Rep X.K μ' mh' H' ->(aT mh' x=some ds/\aT mh' y=some es)->∃xs w,zK X.K H' (HK x) a xs/\IsL X.K μ' H' ds xs/\zK X.K H' (HK y) b w/\IsL X.K μ' H' es w:=λμ' mh' H' m g st=>by
    obtain⟨a',c,e1,s1,n⟩:=nX g (Is.lG m _ _ M) st.1;obtain⟨b',f,e2,s2,s⟩:=nX g (Is.lG m _ _ N) st.2;cases e1;cases e2;exact⟨c,f,s1,n,s2,s⟩
   refine⟨by rw[pT];lia,λμ' mh' H' m g st i d e=>?_,λμ' mh' H' m g st=>?_⟩
   ·obtain⟨c,f,s1,n,s2,s⟩:=l μ' mh' H' m g st;obtain⟨dx,dy,g1,g2,rfl⟩:=wI e;obtain⟨A,O,ix⟩:=d3 n g1;obtain⟨B,P,iy⟩:=d3 s g2;refine⟨⟨[A,B],rfl,λk a' t' v hk hv=>?_⟩,λz H'' yl=>?_⟩
    ·match k with
     | 0=>cases hk;cases hv;exact⟨c,s1,O⟩
     | 1=>cases hk;cases hv;exact⟨f,s2,P⟩
     | k+2=>simp at hk
    ·obtain⟨G,vs,Q,rfl,rfl,I,t⟩:=yl
     match vs,I with
     | [v1,v2],_=>
      have e1:=t 0 a (HK x) v1 rfl rfl c s1;have e2:=t 1 b (HK y) v2 rfl rfl f s2;rw[O]at e1;rw[P]at e2;cases e1;cases e2;have J:aG μ' H' μ' (upd H' G (.tup [A,B])):=aG.new g Q;refine⟨J,g.new Q,?_⟩;unfold Is;refine⟨G,[A,B],rfl,.of aQ,?_⟩;unfold IsL;exact⟨A,[B],rfl,Is.mono g J _ _ ix,kA (Is.mono g J _ _ iy)⟩
   ·obtain⟨c,f,s1,n,s2,s⟩:=l μ' mh' H' m g st;rw[pT];by_cases hle:ds.length<=es.length
    ·refine⟨0,a,HK x,c,rfl,s1,by rw[aO n];lia,λj b u S=>absurd S (by lia)⟩
    ·refine⟨1,b,HK y,f,rfl,s2,by rw[aO s];lia,λj b u S hs=>?_⟩;have:j=0:=by lia
     subst this;cases hs;exact⟨c,s1,by rw[aO n];lia⟩
end
section
variable {K:aEd}{μ μ' :List Addr}{mh:MH}{H H0:Hp}{q:Addr}{o:HO}
mutual
theorem Is.out(b:A9 (H q)):∀(d:D) (v:V),Is K μ H d v->Is K μ (upd H q o) d v
 | .bF,v,h=>by unfold Is at*;exact h
 | .bl _,v,h=>by unfold Is at*;exact h
 | .int _,v,h=>by unfold Is at*;exact h
 | .str _,v,h=>by unfold Is at*;exact h
 | .ty _,v,h=>by unfold Is at*;exact h
 | .tup ds,v,h=>by
  unfold Is at*;obtain⟨a,vs,e,s,l⟩:=h;refine⟨a,vs,e,?_,IsL.out b ds vs l⟩;rcases s with s | s
  ·exact .inl (by rw[aN (λz=>by subst z;rw[s]at b;exact b)];exact s)
  ·exact .inr s
 | .fl ds,v,h=>by
  unfold Is at*;obtain⟨a,vs,e,s,l⟩:=h;refine⟨a,vs,e,?_,IsL.out b ds vs l⟩
  rcases s with ⟨ob,s⟩ | s
  ·exact .inl ⟨ob,by rw[aN (λz=>by subst z;rw[s]at b;exact b)];exact s⟩
  ·exact .inr s
 | .ref n,v,h=>by unfold Is at*;exact h
theorem IsL.out(a:A9 (H q)):∀(ds:List D) (vs:List V),IsL K μ H ds vs->IsL K μ (upd H q o) ds vs
 | [],vs,h=>by unfold IsL at*;exact h
 | d::ds,vs,h=>by
  unfold IsL at*;obtain⟨v,r,e,i,l⟩:=h;exact⟨v,r,e,Is.out a d v i,IsL.out a ds r l⟩
end
mutual
theorem Is.pre(b:∀(n:Nat) a,μ[n]? =some a->μ'[n]? =some a):∀(d:D) (v:V),Is K μ H d v->Is K μ' H d v
 | .bF,v,h=>by unfold Is at*;exact h
 | .bl _,v,h=>by unfold Is at*;exact h
 | .int _,v,h=>by unfold Is at*;exact h
 | .str _,v,h=>by unfold Is at*;exact h
 | .ty _,v,h=>by unfold Is at*;exact h
 | .tup ds,v,h=>by unfold Is at*;obtain⟨a,vs,e,s,l⟩:=h;exact⟨a,vs,e,s,IsL.pre b ds vs l⟩
 | .fl ds,v,h=>by unfold Is at*;obtain⟨a,vs,e,s,l⟩:=h;exact⟨a,vs,e,s,IsL.pre b ds vs l⟩
 | .ref n,v,h=>by unfold Is at*;obtain⟨a,e,q⟩:=h;exact⟨a,b n a e,q⟩
theorem IsL.pre(b:∀(n:Nat) a,μ[n]? =some a->μ'[n]? =some a):∀(ds:List D) (vs:List V),IsL K μ H ds vs->IsL K μ' H ds vs
 | [],vs,h=>by unfold IsL at*;exact h
 | d::ds,vs,h=>by unfold IsL at*;obtain⟨v,r,e,i,l⟩:=h;exact⟨v,r,e,Is.pre b d v i,IsL.pre b ds r l⟩
end
theorem Rep.out(R:Rep K μ mh H)(c:A9 (H q))(g:q∉μ):Rep K μ mh (upd H q o):=⟨R.len,R.nd,λn a ob d i=>by
 have h:=R.obj n a ob d i;have b:a≠q:=λz=>g (z▸aB8 d)
 cases ob with
 | lst ds=>obtain⟨vs,e,l⟩:=h;exact⟨vs,by rw[aN b];exact e,IsL.out c ds vs l⟩
 | dic t kvs=>obtain⟨vs,e,l⟩:=h;exact⟨vs,by rw[aN b];exact e,IsL.out c _ vs l⟩
 | fdc t kvs ob=>obtain⟨vs,u,e,j,l⟩:=h;exact⟨vs,u,by rw[aN b];exact e,j,IsL.out c _ vs l⟩
 | dO ds f=>obtain⟨vs,⟨e,m⟩,l⟩:=h;exact⟨vs,⟨by rw[aN b];exact e,m⟩,IsL.out c ds vs l⟩⟩
theorem aG.out(P:aG μ H0 μ' H)(h0:H0 q=none):aG μ H0 μ' (upd H q o):=⟨P.pre,λb u e n=>by rw[aN (bH e h0)];exact P.fr b u e n,P.nw⟩
theorem Rep.EO{j:MO}(R:Rep K μ mh H)(p:q∉μ)(e:j3 K (μ++[q]) H j q):Rep K (μ++[q]) (mh++[j]) H:=by
 have k:∀{es us},IsL K μ H es us->IsL K (μ++[q]) H es us:=λ{es us} l=>IsL.pre (λn a h=>by rw[List.getElem?_append_left (List.getElem?_eq_some_iff.mp h).1];exact h) es us l;refine⟨by simp[R.len],?_,λn a ob c i=>?_⟩
 ·rw[List.nodup_append];refine⟨R.nd,by simp,λa r b m=>?_⟩;simp at m;subst m;exact λz=>p (z▸r)
 ·by_cases o:n<μ.length
  ·rw[List.getElem?_append_left o]at c;rw[List.getElem?_append_left (by rw[<-R.len];exact o)]at i;have h:=R.obj n a ob c i
   cases ob with
   | lst es=>obtain⟨us,d,g⟩:=h;exact⟨us,d,k g⟩
   | dic t kvs=>obtain⟨us,d,g⟩:=h;exact⟨us,d,k g⟩
   | fdc t kvs ob=>obtain⟨us,u,d,s,g⟩:=h;exact⟨us,u,d,s,k g⟩
   | dO ds f=>obtain⟨us,d,g⟩:=h;exact⟨us,d,k g⟩
  ·rw[List.getElem?_append_right (by lia)]at c;rw[List.getElem?_append_right (by rw[<-R.len];lia)]at i
   have hz:n-μ.length=0:=by
    have:=(aB2.mp c).1;simp at this;lia
   rw[hz]at c;rw[<-R.len,hz]at i;simp at c i;subst c i;exact e
theorem Rep.XS{ds:List D}{vs:List V}(R:Rep K μ mh H)(b:q∉μ)(e:H q=some (.lst vs))(l:IsL K μ H ds vs):Rep K (μ++[q]) (mh++[.lst ds]) H:=
 R.EO b ⟨vs,e,IsL.pre (λn a h=>by rw[List.getElem?_append_left (List.getElem?_eq_some_iff.mp h).1];exact h) ds vs l⟩
end
def gB(own:List Str)(aF:List Nat)(a:dX):dX:=own.map (λ_=>none)++aF.map λi=>(a[i]?).join
def eS(g:WG)(t:WT)(w:WE)(ρe:dX)(St:MH->Prop)(Q:DK):List D->List D->MH->Prop
 | [],ys,mh=>St mh/\Q (.ref mh.length) (mh++[.lst ys])
 | d::ds,ys,mh=>St mh/\g d ρe λa=>t a mh λb c=>if b=true then w a c λy e=>eS g t w ρe St Q ds (ys++[y]) e else eS g t w ρe St Q ds ys c
def BK(own:List Str)(aF:List Nat)(wi:WI)(g:WG)(t:WT)(w:WE):WE:=λb mh Q=>wi b mh λds St a=>eS g t w (gB own aF b) St Q ds [] a
def rV:WT:=λ_ mh Q=>Q true mh
section
variable {K:aEd}{μ μ1:List Addr}{mh:MH}{H H1:Hp}
theorem aG.away{q:Addr}{o:HO}(P:aG μ H μ1 H1)(a:q∉μ)(e:H q=some o):q∉μ1/\H1 q=some o:=by
 refine⟨λh=>?_,P.fr q o e a⟩;rcases P.nw q h with z | z
 ·exact a z
 ·rw[e]at z;cases z
theorem bU.emb{a:dX}{σ:L2.St}{own:List Str}{aF:List Nat}(E:bU K μ H a σ):bU K μ H (gB own aF a) (n8 own aF σ):=by
 refine⟨by simp[gB,n8],λi d h=>?_⟩;unfold gB at h;unfold n8;by_cases hi:i<own.length
 ·rw[List.getElem?_append_left (by simpa using hi),List.getElem?_map]at h
  cases q:own[i]? with
  | none=>rw[q]at h;simp at h
  | some z=>rw[q]at h;simp at h
 ·rw[List.getElem?_append_right (by simpa using hi),List.getElem?_map]at h⊢;simp only[List.length_map]at h⊢
  cases q:aF[i-own.length]? with
  | none=>rw[q]at h;simp at h
  | some k=>
   rw[q]at h;simp only[Option.map_some,Option.some.injEq]at h⊢
   cases r:a[k]? with
   | none=>rw[r]at h;simp at h
   | some z=>
    rw[r]at h;simp at h;subst h;obtain⟨v,b,c⟩:=E.2 k d r;exact⟨v,by rw[b];rfl,c⟩
end
section
variable {X:Cx}
def JE(X:Cx)(es:List Expr)(w:WT):Prop:=UE X es (J5 X.K w)
theorem LR:JE X [] rV:=λpins s σ H Q I q=>KP pins s σ H Q I (by
 obtain⟨μ,b,mh,R,a,En,h,F⟩:=q
 exact F true mh h μ H aG.refl a)
theorem LQ{c:Expr}{t:WT}(h:LT X c t):JE X [c] t:=KO h
theorem CG{wi:WI}{g:TG}{N:WG}{t:WT}{w:WE}{own:List Str}{aF:List Nat}(hr:kP X.K g N){σ:L2.St}{Q:VK}(h:tL X.K (BK own aF wi N t w) σ H Q):X4 own aF (UH X.K wi) g (J5 X.K t) (tL X.K w) σ H Q:=by
 intro _ _;obtain⟨μ,O,mh,R,RR,En,h,F⟩:=h;refine⟨μ,O,mh,_,RR,En,h,λds St W q l J Y P1 P It acc f=>?_⟩;have o:acc∉l:=λz=>P.ne f z rfl
 refine⟨λi m u H' =>∃μ' mh' d,aG l Y μ' H' /\Rep X.K μ' mh' H' /\acc∉μ' /\H' acc=some (.lst u)/\IsL X.K μ' H' d u/\d.length<=i/\i<=ds.length/\m=ds.length-i/\eS N t w (gB own aF O) St R (ds.drop i) d mh',
  ⟨ds.length,l,W,[],aG.out aG.refl f,P.new f,o,aQ,by unfold IsL;rfl,aB3 _,aCa _,by simp,by simpa using q⟩,?_⟩
 rintro i m u H' ⟨μ',mh',d,p,v,A,Z,l',hd',hi',rfl,c⟩;refine⟨Z,?_⟩;by_cases r:i<ds.length
 ·rw[List.drop_eq_getElem_cons r]at c;obtain⟨hst,c⟩:=c;obtain⟨hgo,hy⟩:=It.go μ' mh' H' (p.weak P) v hst i ds[i] (by simp[r]);refine .inr ⟨hgo,λs B=>∃k n j,aG l Y k B/\Rep X.K k n B/\acc∉k/\B acc=some (.lst s)/\IsL X.K k B j s/\j.length<=i+1/\eS N t w (gB own aF O) St R (ds.drop (i+1)) j n,?_,λx H'' y=>?_⟩
  ·rintro s B ⟨k,n,j,P2,R2,ha2,e2,l2,hd2,c2⟩;exact⟨ds.length-(i+1),by lia,k,n,j,P2,R2,ha2,e2,l2,hd2,r,rfl,c2⟩
  ·obtain⟨S,T,Iy⟩:=hy x H'' y;obtain⟨hay,ey⟩:=S.away A Z;have ly:=IsL.mono v S d u l';have P0y:=P1.trans (p.trans S);refine hr x _ H'' _ μ' (gB own aF O) mh' _ _ T (En.mono RR P0y).emb Iy c λC q2 σ2 D=>?_;refine⟨μ',C,mh',_,T,D,q2,λb E U G H3 V R3=>?_⟩;obtain⟨I,e3⟩:=V.away hay ey;have l3:=IsL.mono T V d u ly;have L:=(p.trans S).trans V
   cases b with
   | false=>rw[if_neg Bool.false_ne_true]at U⊢;exact⟨G,E,d,L,R3,I,e3,l3,by lia,U⟩
   | true=>
    rw[if_pos rfl]at U⊢;refine⟨by have:=It.small;rw[aO l'];lia,G,C,E,_,R3,D.mono T V,U,λy mh4 q4 μ4 vy H4 P4 R4 I4=>?_⟩;obtain⟨M,e4⟩:=P4.away I e3;have hm:A9 (H4 acc):=by rw[e4];trivial
    have l4:=IsL.mono R3 P4 d u l3;exact⟨e4,μ4,mh4,d++[y],aG.out (L.trans P4) f,R4.out hm M,M,aQ,IsL.out hm _ _ (iJ l4 (kA I4)),by simp;lia,q4⟩
 ·have e:i=ds.length:=by lia
  subst e;rw[List.drop_of_length_le (Nat.le_refl _)]at c;refine .inl ⟨It.stop μ' mh' H' (p.weak P) v c.1,?_⟩
  have Pa:aG l Y (μ' ++[acc]) H' :=⟨by obtain⟨t,rfl⟩:=p.pre;exact⟨t++[acc],by simp⟩,p.fr,λa ha=>by
   rcases aBn.mp ha with ha | ha
   ·exact p.nw a ha
   ·simp at ha;subst ha;exact .inr f⟩
  exact F _ _ c.2 (μ' ++[acc]) _ H' (P1.trans Pa) (v.XS A Z l') (by unfold Is;exact⟨acc,by rw[<-v.len];simp,rfl⟩)
theorem WU{tg iter a:Expr}{b:List Expr}{scope sc:Scope}{N:List Str}{pos:Pos}{wi:WI}{g:TG}{c:WG}{t:WT}{w:WE}(own:List Str)(aF:List Nat)
  (hN:X.N=N) (hsc:X.env.scope=sc) (chk:c9 N sc scope aF=true) (dQ:X.calm=true) (hi:LI X tg iter wi) (ho:oD own.length g)
  (d:kP X.K g c)
  (hg:∀cl C fp s₀ H₀,PG (aL X own aF scope cl C fp s₀ H₀) tg g) (ht:∀cl C fp s₀ H₀,JE (aL X own aF scope cl C fp s₀ H₀) b t)
  (he:∀cl C fp s₀ H₀,LE (aL X own aF scope cl C fp s₀ H₀) a w)
  (hs:∀x,foldedSetIterable iter X.env x=pure x:=by intro _;rfl):LE X (.ListComp a [⟨tg,iter,b,0⟩] scope pos) (BK own aF wi c t w):=
 PE.imp (VT (wi:=UH X.K wi) (tt:=J5 X.K t) (te:=tL X.K w) own aF hN hsc chk dQ hi ho hg (λcl C fp s₀ H₀=>ht cl C fp s₀ H₀) (λcl C fp s₀ H₀=>he cl C fp s₀ H₀) hs) λσ H Q h=>CG d h
theorem G1(i:Nat){x:Str}{a e:Pos}{tg iter b:Expr}{c:List Expr}{scope sc:Scope}{N:List Str}{pos:Pos}{wi:WI}{g:TG}{f:WG}{t:WT}{w:WE}(nd:X.N.Nodup)(own:List Str)(aF:List Nat)
  (hN:X.N=N) (hsc:X.env.scope=sc) (chk:c9 N sc scope aF=true) (dQ:X.calm=true) (hi:LI X tg iter wi) (ho:oD own.length g)
  (j:kP X.K g f)
  (hg:∀cl C fp s₀ H₀,PG (aL X own aF scope cl C fp s₀ H₀) tg g) (ht:∀cl C fp s₀ H₀,JE (aL X own aF scope cl C fp s₀ H₀) c t)
  (he:∀cl C fp s₀ H₀,LE (aL X own aF scope cl C fp s₀ H₀) b w)
  (d:X.N[i]? =some x:=by rfl) (k:Loc X.env.scope x:=by first | exact Or.inl rfl | exact Or.inr rfl) (l:swapsWith (.ListComp b [⟨tg,iter,c,0⟩] scope pos) (some (.Name x a)) e.line X.env=pure true:=by rfl) (m:X.fn x=true\/X.env.scope.names.lookup x=some .local:=by first | exact .inl rfl | exact .inr rfl | assumption)
  (hs:∀x,foldedSetIterable iter X.env x=pure x:=by intro _;rfl):LS X (.Assign [.Name x a] (.ListComp b [⟨tg,iter,c,0⟩] scope pos) e) (bA (BK own aF wi f t w) (gN i)):=
 PS.imp (FX (wi:=UH X.K wi) (tt:=J5 X.K t) (te:=tL X.K w) own aF hN hsc chk dQ hi ho hg (λcl C fp s₀ H₀=>ht cl C fp s₀ H₀) (λcl C fp s₀ H₀=>he cl C fp s₀ H₀) nd d k l m hs) λD σ H h=>CG j (A7 (vH i) h)
end
mutual
def eB(n:Nat):D->Bool
 | .ref k=>decide (k<n)
 | .tup ds=>cC n ds
 | .fl ds=>cC n ds
 | _=>true
def cC(n:Nat):List D->Bool
 | []=>true
 | d::ds=>eB n d && cC n ds
end
def GH(n:Nat):MO->Bool
 | .lst ds=>cC n ds
 | .dic _ kvs=>cC n (kvs.map (·.2))
 | .fdc _ kvs _=>cC n (kvs.map (·.2))
 | .dO ds _=>cC n ds
def j4(mh:MH):Prop:=∀o∈mh,GH mh.length o=true
section
variable {K:aEd}{μ:List Addr}{mh:MH}{H:Hp}
mutual
theorem KH:∀(d:D) (v:V),Is K μ H d v->eB μ.length d=true
 | .bF,v,h=>rfl
 | .bl _,v,h=>rfl
 | .int _,v,h=>rfl
 | .str _,v,h=>rfl
 | .ty _,v,h=>rfl
 | .tup ds,v,h=>by obtain⟨a,vs,_,_,l⟩:=cQ h;simpa[eB] using eA ds vs l
 | .fl ds,v,h=>by obtain⟨a,vs,_,_,l⟩:=lI h;simpa[eB] using eA ds vs l
 | .ref n,v,h=>by obtain⟨a,e,_⟩:=fG h;simpa[eB] using (aB2.mp e).1
theorem eA:∀(ds:List D) (vs:List V),IsL K μ H ds vs->cC μ.length ds=true
 | [],vs,h=>rfl
 | d::ds,vs,h=>by
  unfold IsL at h;obtain⟨v,r,_,i,l⟩:=h;simp only[cC,KH d v i,eA ds r l,Bool.and_self]
end
theorem Rep.YE(R:Rep K μ mh H):j4 mh:=λo ho=>by
 obtain⟨n,a⟩:=aC3.mp ho;have b:n<μ.length:=by rw[R.len];exact(aB2.mp a).1
 have h:=R.obj n μ[n] o (by simp[b]) a;rw[<-R.len]
 cases o with
 | lst ds=>obtain⟨vs,_,l⟩:=h;exact eA ds vs l
 | dic t kvs=>obtain⟨vs,_,l⟩:=h;exact eA _ vs l
 | fdc t kvs ob=>obtain⟨vs,_,_,_,l⟩:=h;exact eA _ vs l
 | dO ds f=>obtain⟨vs,_,l⟩:=h;exact eA _ vs l
mutual
theorem Is.cut{n:Nat}:∀(d:D) (v:V),eB n d=true->Is K μ H d v->Is K (μ.take n) H d v
 | .bF,v,_,h=>by unfold Is at*;exact h
 | .bl _,v,_,h=>by unfold Is at*;exact h
 | .int _,v,_,h=>by unfold Is at*;exact h
 | .str _,v,_,h=>by unfold Is at*;exact h
 | .ty _,v,_,h=>by unfold Is at*;exact h
 | .tup ds,v,b,h=>by unfold Is at*;obtain⟨a,vs,e,s,l⟩:=h;exact⟨a,vs,e,s,IsL.cut ds vs (by simpa[eB] using b) l⟩
 | .fl ds,v,b,h=>by unfold Is at*;obtain⟨a,vs,e,s,l⟩:=h;exact⟨a,vs,e,s,IsL.cut ds vs (by simpa[eB] using b) l⟩
 | .ref k,v,b,h=>by unfold Is at*;obtain⟨a,e,q⟩:=h;exact⟨a,by rw[List.getElem?_take_of_lt (by simpa[eB] using b)];exact e,q⟩
theorem IsL.cut{n:Nat}:∀(ds:List D) (vs:List V),cC n ds=true->IsL K μ H ds vs->IsL K (μ.take n) H ds vs
 | [],vs,_,h=>by unfold IsL at*;exact h
 | d::ds,vs,b,h=>by
  unfold IsL at*;simp only[cC,Bool.and_eq_true]at b;obtain⟨v,r,e,i,l⟩:=h;exact⟨v,r,e,Is.cut d v b.1 i,IsL.cut ds r b.2 l⟩
end
theorem Rep.cut{c d:MH}(R:Rep K μ (c++d) H)(ok:j4 c):Rep K (μ.take c.length) c H:=by
 have k:c.length<=μ.length:=by rw[R.len];simp
 refine⟨by simp[k],List.Nodup.sublist (aE6 _ _) R.nd,λn a o i g=>?_⟩;have j:n<c.length:=(aB2.mp g).1;rw[List.getElem?_take_of_lt j]at i;have h:=R.obj n a o i (by rw[List.getElem?_append_left j];exact g);have b:=ok o (aB8 g)
 cases o with
 | lst ds=>obtain⟨vs,e,l⟩:=h;exact⟨vs,e,IsL.cut ds vs b l⟩
 | dic t kvs=>obtain⟨vs,e,l⟩:=h;exact⟨vs,e,IsL.cut _ vs b l⟩
 | fdc t kvs ob=>obtain⟨vs,u,e,m,l⟩:=h;exact⟨vs,u,e,m,IsL.cut _ vs b l⟩
 | dO ds f=>obtain⟨vs,e,l⟩:=h;exact⟨vs,e,IsL.cut ds vs b l⟩
end
def Out(n:Nat)(d:D)(c:MH)(R:DK):Prop:=R d c\/(∃a b,c=a++b/\n<=a.length/\j4 a/\eB a.length d=true/\R d a)\/
 ∃a b j o,c=a++b/\n<=a.length/\j4 a/\d= .ref j/\a.length<=j/\c[j]? =some o/\GH a.length o=true/\R (.ref a.length) (a++[o])
variable{μ:List Addr}{mh:MH}
theorem B3{Q:VK}(G:Rep K μ mh H)(F:Fin K μ H R Q):Fin K μ H (λd x=>Out mh.length d x R) Q:=by
 intro d x h i v y p A D
 have key:∀{g:MH},mh.length<=g.length->∃t,i.take g.length=μ++t:=λ{g} m=>by
  obtain⟨t,rfl⟩:=p.pre;rw[List.take_append,List.take_of_length_le (by rw[G.len];exact m)];exact⟨_,rfl⟩
 rcases h with h | ⟨g,B,rfl,m,ok,b,h⟩ | ⟨g,B,j,o,rfl,m,ok,rfl,J,ho,b,h⟩
 ·exact F d x h i v y p A D
 ·exact F d g h (i.take g.length) v y ⟨key m,p.fr,λa w=>p.nw a (aCu w)⟩ (A.cut ok) (Is.cut d v b D)
 ·have C:=A.cut ok;obtain⟨a,w,rfl⟩:=fG D;have s:=A.obj j a o w ho;have q:(i.take g.length).length=g.length:=C.len
  have r:a∉i.take g.length:=λz=>by
   obtain⟨k,hk⟩:=aC3.mp z;have E:k<g.length:=by have:=(aB2.mp hk).1;lia
   rw[List.getElem?_take_of_lt E]at hk;have:=sY A.nd hk w
   lia
  cases o with
  | lst ds=>
   obtain⟨vs,e,l⟩:=s;refine F _ _ h (i.take g.length++[a]) _ y ⟨?_,p.fr,λc hc=>?_⟩ (C.XS r e (IsL.cut ds vs b l)) (by unfold Is;exact⟨a,by rw[<-q];simp,rfl⟩)
   ·obtain⟨t,ht⟩:=key m;exact⟨t++[a],by rw[ht];simp⟩
   ·rcases aBn.mp hc with hc | hc
    ·exact p.nw c (aCu hc)
    ·simp at hc;subst hc;exact p.nw c (aB8 w)
  | dic t kvs=>
   obtain⟨vs,e,l⟩:=s;refine F _ _ h (i.take g.length++[a]) _ y ⟨?_,p.fr,λc hc=>?_⟩ (C.EO r ⟨vs,e,IsL.pre (λn a h=>by rw[List.getElem?_append_left (List.getElem?_eq_some_iff.mp h).1];exact h) _ vs (IsL.cut _ vs b l)⟩) (by unfold Is;exact⟨a,by rw[<-q];simp,rfl⟩)
   ·obtain⟨t,ht⟩:=key m;exact⟨t++[a],by rw[ht];simp⟩
   ·rcases aBn.mp hc with hc | hc
    ·exact p.nw c (aCu hc)
    ·simp at hc;subst hc;exact p.nw c (aB8 w)
  | dO ds f=>
   obtain⟨vs,e,l⟩:=s;refine F _ _ h (i.take g.length++[a]) _ y ⟨?_,p.fr,λc hc=>?_⟩ (C.EO r ⟨vs,e,IsL.pre (λn a h=>by rw[List.getElem?_append_left (List.getElem?_eq_some_iff.mp h).1];exact h) _ vs (IsL.cut _ vs b l)⟩) (by unfold Is;exact⟨a,by rw[<-q];simp,rfl⟩)
   ·obtain⟨t,ht⟩:=key m;exact⟨t++[a],by rw[ht];simp⟩
   ·rcases aBn.mp hc with hc | hc
    ·exact p.nw c (aCu hc)
    ·simp at hc;subst hc;exact p.nw c (aB8 w)
  | fdc t kvs ob=>
   obtain⟨vs,u,e,I,l⟩:=s;refine F _ _ h (i.take g.length++[a]) _ y ⟨?_,p.fr,λc hc=>?_⟩ (C.EO r ⟨vs,u,e,I,IsL.pre (λn a h=>by rw[List.getElem?_append_left (List.getElem?_eq_some_iff.mp h).1];exact h) _ vs (IsL.cut _ vs b l)⟩) (by unfold Is;exact⟨a,by rw[<-q];simp,rfl⟩)
   ·obtain⟨t,ht⟩:=key m;exact⟨t++[a],by rw[ht];simp⟩
   ·rcases aBn.mp hc with hc | hc
    ·exact p.nw c (aCu hc)
    ·simp at hc;subst hc;exact p.nw c (aB8 w)
def aK(N:List Str)(ds:List D):dX:=ds.map some++List.replicate (N.length-ds.length) none
variable{N:List Str}{ds:List D}
theorem xG{vs:List V}(l:IsL K μ H ds vs):bU K μ H (aK N ds) (L2.start N vs):=by
 have a:=aO l;refine⟨by simp[aK,L2.start,a],λi d h=>?_⟩;unfold aK at h;unfold L2.start;by_cases hi:i<ds.length
 ·rw[List.getElem?_append_left (by simpa using hi),List.getElem?_map]at h;obtain⟨d',b,c⟩:=aBm.mp h;cases c;obtain⟨v,e,f⟩:=d3 l b;exact⟨v,by rw[List.getElem?_append_left (by simpa[a] using hi),List.getElem?_map,e];rfl,f⟩
 ·rw[List.getElem?_append_right (by simpa using hi)]at h;obtain⟨_,h⟩:=aB2.mp h;simp at h
section
variable {P:Program}{w:World}{K:aEd}{mg:aEg}{base:Heap}
theorem XE{x qual:Str}{st:Stmt}{f:Addr}{fd:FuncData}{N ps:List Str}{k:Nat}{s:OA}{wB:WS}(F:UO K x qual st f fd)(S:aZ N ps (aC st))(len:∀ds mh R,s ds mh R->ds.length=ps.length)
  (g:∀(cdv:Value) (A:Around) (outer:List Env) (s:Shared) (H:Hp) (E:XK),eE k (A.deeper (envOfC qual (aC st) s.heap.objs.size f cdv))->
   kL (pE wG P w K mg base N qual (aC st) f cdv A outer s H E).GJ (bQ st) wB)
  (i:∀ds mh R,j4 mh->cC mh.length ds=true->s ds mh R->wB {nx:=λ_ a=>Out mh.length .bF a R,rt:=λd a=>Out mh.length d a R} (aK N ds) mh):hU P w K mg base wG (k+1) f fd ps (JK K s):=by
 refine F.ok S (λvs H Q E h=>?_) (λcdv A outer j H vs Q E l h=>?_)
 ·obtain⟨μ,mh,ds,R,b,c,h,_⟩:=h;rw[aO c];exact len ds mh R h
 ·obtain⟨μ,mh,ds,R,b,c,h,m⟩:=h;refine⟨_,g cdv A outer j H E l,μ,aK N ds,mh,_,b,xG c,i ds mh R b.YE (by rw[<-b.len];exact eA ds vs c) h,?_⟩;have e:=B3 b m;exact⟨λn mh' q μ' o H' p r t =>e .bF mh' q μ' .bF H' p r .bF,e,λ_ _ q=>False.elim q,λ_ _ q=>False.elim q⟩
end
def Fn(P:Program)(w:World)(K:aEd)(mg:aEg)(base:Heap)(k:Nat)(x:Str)(ps:List Str)(s:OA):Prop:=
 ∃f fd,hU P w K mg base wG k f fd ps (JK K s)/\mg x=some (.ref f)/\PySem.W.keepIn K (.ref f)=true/\Binds K fd ps []
variable{P:Program}{w:World}{mg:aEg}{x:Str}{ps:List Str}
theorem Fn.mono{base:Heap}{j k:Nat}{s:OA}(h:Fn P w K mg base j x ps s)(hk:j<=k):Fn P w K mg base k x ps s:=
 let ⟨f,fd,a,b,c,d⟩:=h;⟨f,fd,a.mono hk,b,c,d⟩
theorem Fn.imp{base:Heap}{k:Nat}{s g :OA}(h:Fn P w K mg base k x ps s)(hi:∀ds mh R,g ds mh R->s ds mh R):Fn P w K mg base k x ps g :=
 let ⟨f,fd,a,b,c,d⟩:=h;⟨f,fd,a.imp λvs H Q E e=>by obtain⟨μ,mh,ds,R,i,j,l,m⟩:=e;exact⟨μ,mh,ds,R,i,j,hi ds mh R l,m⟩,b,c,d⟩
section
variable {X:Cx}{e:Expr}{es:List Expr}{wr:WA}{pos p:Pos}{x:Str}
theorem G5{k:Nat}{s:OA}(F:Fn X.prog X.w X.K X.mg X.base k x ps s)(i:eE k X.A)(j:LA X (e::es) wr)(hg:Gl X x:=by rfl)(g:(x==("__debug__":Str))=false:=by decide)
  (he:starEach (e::es) X.env=(false,eval e X.env)::starEach es X.env:=by rfl) (h:(backTo pos (starEach es X.env)).any (·.1)=false:=by rfl):LE X (.Call (.Name x p) (e::es) [] pos) (aD s wr):=by
 obtain⟨f,fd,a,b,c,d⟩:=F;exact MD a i hg b c d j g he h
theorem xY{T:String}(a:X.mg x=none)(hv:bootBuiltins x=some (.type T))(hg:Gl X x:=by rfl)(b:x≠ "__name__":=by decide)(hd:(x==("__debug__":Str))=false:=by decide):LE X (.Name x pos) (wC (.ty T)):=L7 hg a hv b hd
theorem WY{id:String}{f:OA}(c:bR X (.builtin id) (cP X.K f))(d:X.mg x=none)(hv:bootBuiltins x=some (.builtin id))(g:LA X (e::es) wr)(hg:Gl X x:=by rfl)(h:x≠ "__name__":=by decide)(a:(x==("__debug__":Str))=false:=by decide)
  (he:starEach (e::es) X.env=(false,eval e X.env)::starEach es X.env:=by rfl) (b:(backTo pos (starEach es X.env)).any (·.1)=false:=by rfl):LE X (.Call (.Name x p) (e::es) [] pos) (aD f wr):=G6 c hg d hv g h a he b
theorem WW{T:String}{f:OA}(c:bR X (.type T) (cP X.K f))(d:X.mg x=none)(hv:bootBuiltins x=some (.type T))(g:LA X (e::es) wr)(hg:Gl X x:=by rfl)(h:x≠ "__name__":=by decide)(a:(x==("__debug__":Str))=false:=by decide)
  (he:starEach (e::es) X.env=(false,eval e X.env)::starEach es X.env:=by rfl) (b:(backTo pos (starEach es X.env)).any (·.1)=false:=by rfl):LE X (.Call (.Name x p) (e::es) [] pos) (aD f wr):=D0 c hg d hv g h a he b
theorem J3(i:Nat)(hN:X.N.Nodup)(hi:X.N[i]? =some x:=by rfl)(a:Loc X.env.scope x:=by first | exact Or.inl rfl | exact Or.inr rfl)(b:X.fn x=true\/X.env.scope.names.lookup x=some .local:=by first | exact .inl rfl | exact .inr rfl):PG X (.Name x pos) (oR i):=K0 hN hi a b
theorem V9{a:CmpOp}(b:Expr)(h:a≠ .In:=by decide)(c:a≠ .NotIn:=by decide):behindInMarks a b=false:=GN b h c
end
structure Bl(mg:aEg):Prop where
 len:mg "len"=none
 range:mg "range"=none
 zip:mg "zip"=none
 all:mg "all"=none
 any:mg "any"=none
 abs:mg "abs"=none
 min:mg "min"=none
 max:mg "max"=none
 isinstance:mg "isinstance"=none
 sorted:mg "sorted"=none
 int:mg "int"=none
 str:mg "str"=none
 bool:mg "bool"=none
 list:mg "list"=none
 tuple:mg "tuple"=none
 set:mg "set"=none
 dict:mg "dict"=none
 sum:mg "sum"=none
 enumerate:mg "enumerate"=none
theorem IX:bootBuiltins "int"=some (.type "int"):=by decide+kernel
theorem T3:bootBuiltins "str"=some (.type "str"):=by decide+kernel
theorem NL:bootBuiltins "bool"=some (.type "bool"):=by decide+kernel
theorem C1:bootBuiltins "list"=some (.type "list"):=by decide+kernel
theorem yX:bootBuiltins "tuple"=some (.type "tuple"):=by decide+kernel
theorem T5:bootBuiltins "len"=some (.builtin "len"):=by decide+kernel
theorem T6:bootBuiltins "all"=some (.builtin "all"):=by decide+kernel
theorem T7:bootBuiltins "abs"=some (.builtin "abs"):=by decide+kernel
theorem IW:bootBuiltins "min"=some (.builtin "min"):=by decide+kernel
theorem T4:bootBuiltins "max"=some (.builtin "max"):=by decide+kernel
theorem sI:bootBuiltins "isinstance"=some (.builtin "isinstance"):=by decide+kernel
theorem kI:bootBuiltins "sorted"=some (.builtin "sorted"):=by decide+kernel
def oLt:O2:=λx y mh Q=>match x with
 | .int i=>match y with | .int j=>Q (.bl (decide (i<j))) mh | _=>False
 | .str a=>match y with | .str b=>Q (.bl (decide (a.cps.toList<b.cps.toList))) mh | _=>False
 | _=>False
def YD:O2:=λx y mh Q=>match x with
 | .int i=>match y with | .int j=>Q (.bl (decide (j<i))) mh | _=>False
 | _=>False
section
variable {X:Cx}
theorem V4(g:X.A.units+64<cLine):cS X (compareOp .Lt) (aY X.K oLt):=by
 intro pins s σ H x y v u Q I a b q;obtain⟨μ,mh,dx,c,R,d,e,f,q,F⟩:=q
 cases dx with
 | int i=>cases c with
  | int j=>cases aX e;cases aX f;exact VZ pins s σ H _ _ v u Q I a b ⟨i,j,rfl,rfl,F.here d q .bl⟩
  | _=>exact False.elim q
 | str i=>cases c with
  | str j=>cases cD e;cases cD f;exact DI pins s σ H _ _ v u Q I a b ⟨i,j,rfl,rfl,F.here d q .bl⟩
  | _=>exact False.elim q
 | _=>exact False.elim q
theorem V6(g:X.A.units+64<cLine):cS X (compareOp .Gt) (aY X.K YD):=by
 intro pins s σ H x y v u Q I a b q;obtain⟨μ,mh,dx,c,R,d,e,f,q,F⟩:=q
 cases dx with
 | int i=>cases c with
  | int j=>cases aX e;cases aX f;exact V0 pins s σ H _ _ v u Q I a b ⟨i,j,rfl,rfl,F.here d q .bl⟩
  | _=>exact False.elim q
 | _=>exact False.elim q
end
variable{α:Type}
def got(o:Option α)(k:α->Prop):Prop:=match o with | some a=>k a | none=>False
@[simp] theorem bK (a:α)(k:α->Prop):got (some a) k=k a:=rfl
@[simp] theorem XC (k:α->Prop):got none k=False:=rfl
theorem dN(o:Option α)(k:α->Prop):(∃a,o=some a/\k a)↔got o k:=by
 cases o <;> simp[got]
def oC:D->Option Bool | .bl b=>some b | _=>none
def asI:D->Option Int | .int i=>some i | _=>none
@[simp] theorem aAs (b:Bool):oC (.bl b)=some b:=rfl
@[simp] theorem YM (i:Int):asI (.int i)=some i:=rfl
theorem exB(x:D)(P:Bool->Prop):(∃k,x= .bl k/\P k)=got (oC x) P:=by
 apply propext
 cases x with
 | bl b=>exact⟨λa=>by obtain⟨k,e,h⟩:=a;cases e;exact h,λh=>⟨b,rfl,h⟩⟩
 | _=>exact⟨λc=>by obtain⟨k,e,h⟩:=c;exact(by cases e),λh=>False.elim h⟩
theorem exI(x:D)(P:Int->Prop):(∃k,x= .int k/\P k)=got (asI x) P:=by
 apply propext
 cases x with
 | int b=>exact⟨λa=>by obtain⟨k,e,h⟩:=a;cases e;exact h,λh=>⟨b,rfl,h⟩⟩
 | _=>exact⟨λc=>by obtain⟨k,e,h⟩:=c;exact(by cases e),λh=>False.elim h⟩
section
variable {mh:MH}{Q:DK}{ρ:dX}
@[simp] theorem U7 (i:Nat):aB i ρ mh Q↔got ((ρ[i]?).join) λd=>Q d mh:=by
 unfold aB
 cases h:ρ[i]? with
 | none=>simp
 | some o=>cases o <;> simp
@[simp] theorem s_c (d:D):wC d ρ mh Q=(Q d mh):=rfl
@[simp] theorem ZN (f:O2)(a b:WE):aJ f a b ρ mh Q=(a ρ mh λx c=>b ρ c λy d=>f x y d Q):=rfl
@[simp] theorem VB (R:List D->MH->Prop):aE ρ mh R=(R [] mh):=rfl
@[simp] theorem PL (a:WE)(r:WA)(R:List D->MH->Prop):aA a r ρ mh R=(a ρ mh λx b=>r ρ b λxs c=>R (x::xs) c):=rfl
@[simp] theorem s_call (f:OA)(a:WA):aD f a ρ mh Q=(a ρ mh λds b=>f ds b Q):=rfl
@[simp] theorem s_tup (a:WA):iW a ρ mh Q=(a ρ mh λds b=>ds.length<=sizeLine/\Q (.tup ds) b):=rfl
@[simp] theorem s_lst (a:WA):f9 a ρ mh Q=(a ρ mh λds b=>ds.length<=sizeLine/\Q (.ref b.length) (b++[.lst ds])):=rfl
@[simp] theorem Z5 (a b:WE):mS a b ρ mh Q↔a ρ mh λx d=>got (oC x) λc=>if c=true then b ρ d Q else Q (.bl false) d:=by unfold mS;simp only[exB]
@[simp] theorem ZO (a:WE):BJ a ρ mh Q↔a ρ mh λx b=>got (oC x) λc=>Q (.bl !c) b:=by unfold BJ;simp only[exB]
@[simp] theorem s_if (t:WT)(a b:WE):YV t a b ρ mh Q=(t ρ mh λc d=>if c=true then a ρ d Q else b ρ d Q):=rfl
@[simp] theorem s_sl (f:OS)(a:WE)(l h:WO):o7 f a l h ρ mh Q=(a ρ mh λx b=>l ρ b λlo c=>h ρ c λhi d=>f x lo hi d Q):=rfl
@[simp] theorem s_no (R:Option Int->MH->Prop):E8 ρ mh R=(R none mh):=rfl
@[simp] theorem ZM (a:WE)(R:Option Int->MH->Prop):bE a ρ mh R↔a ρ mh λx b=>got (asI x) λi=>R (some i) b:=by unfold bE;simp only[exI]
@[simp] theorem s_mt (T:String)(f:OM)(a:WE)(r:WA):JX T f a r ρ mh Q=(a ρ mh λx b=>AL b T x/\r ρ b λds c=>f x ds c Q):=rfl
@[simp] theorem s_lc (own:List Str)(aF:List Nat)(i:WI)(g:WG)(t:WT)(a:WE):BK own aF i g t a ρ mh Q=(i ρ mh λds St b=>eS g t a (gB own aF ρ) St Q ds [] b):=rfl
variable {R:Bool->MH->Prop}
@[simp] theorem s_tst (a:WE):cL a ρ mh R↔a ρ mh λx b=>got (oC x) λk=>R k b:=by unfold cL;simp only[exB]
@[simp] theorem s_tru (a:WE):wO a ρ mh R↔a ρ mh λx b=>got (jL b x) λk=>R k b:=by
 unfold wO
 have:(λx b=>∃k,jL b x=some k/\R k b)=λx b=>got (jL b x) λk=>R k b:=by
  funext x m;exact propext (dN _ _)
 rw[this]
@[simp] theorem Z6 (t u:WT):wV t u ρ mh R=(t ρ mh λc a=>if c=true then u ρ a R else R false a):=rfl
@[simp] theorem s_orT (t u:WT):wU t u ρ mh R=(t ρ mh λc a=>if c=true then R true a else u ρ a R):=rfl
@[simp] theorem ZP (t:WT):E7 t ρ mh R=(t ρ mh λc a=>R (!c) a):=rfl
@[simp] theorem N7:rV ρ mh R=(R true mh):=rfl
variable {E:hV}
@[simp] theorem ZR:dC E ρ mh=(E.nx ρ mh):=rfl
@[simp] theorem VA (t u:WS):aS t u E ρ mh=(t {E with nx:=u E} ρ mh):=rfl
@[simp] theorem Z3 (a:WE):p6 a E ρ mh=(a ρ mh λ_ b=>E.nx ρ b):=rfl
@[simp] theorem s_ret (a:WE):dA a E ρ mh=(a ρ mh E.rt):=rfl
@[simp] theorem s_ifS (t:WT)(a b:WS):gR t a b E ρ mh=(t ρ mh λc d=>if c=true then a E ρ d else b E ρ d):=rfl
@[simp] theorem VE (a:WE)(g:WG):bA a g E ρ mh=(a ρ mh λd b=>g d ρ λc =>E.nx c b):=rfl
@[simp] theorem ZG (a o i:WE):wQ a o i E ρ mh=(a ρ mh λd b=>o ρ b λob c=>i ρ c λg e=>J9 ob g d e λf=>E.nx ρ f):=rfl
@[simp] theorem s_for (i:WI)(g:WG)(b:WS):kM i g b E ρ mh=(i ρ mh λds St a=>jQ g b E St ds ρ a):=rfl
@[simp] theorem ZZ (i:Nat)(d:D)(P:dX->Prop):gN i d ρ P=(P (ρ.set i (some d))):=rfl
@[simp] theorem X8 (P:dX->Prop):eQ [] ρ P↔P ρ:=by simp[eQ]
@[simp] theorem VD (t:WG)(u:ER)(d:D)(r:List D)(P:dX->Prop):aW t u (d::r) ρ P↔t d ρ λc =>u r c P:=⟨λf=>by obtain⟨a,b,e,h⟩:=f;cases e;exact h,λh=>⟨d,r,rfl,h⟩⟩
@[simp] theorem s_gT (n:Nat)(u:ER)(ds:List D)(P:dX->Prop):gT n u (.tup ds) ρ P↔ds.length=n/\u ds ρ P:=by
 unfold gT;exact⟨λa=>by obtain⟨es,e,h⟩:=a;cases e;exact h,λh=>⟨ds,rfl,h⟩⟩
@[simp] theorem ZH (a:WE)(P:List D->(MH->Prop)->MH->Prop):mQ a ρ mh P↔a ρ mh λx b=>got (aT b x) λds=>P ds (λmh' =>aT mh' x=some ds) b:=by
 unfold mQ
 have:(λx b=>∃ds,aT b x=some ds/\P ds (λmh' =>aT mh' x=some ds) b)=λx b=>got (aT b x) λds=>P ds (λmh' =>aT mh' x=some ds) b:=by
  funext x m;exact propext (dN _ _)
 rw[this]
@[simp] theorem ZJ (a:WA)(P:List D->(MH->Prop)->MH->Prop):fT a ρ mh P=(a ρ mh λds b=>∃j,ds=[.int j]/\ -(2^62)<=j/\j<=sizeLine/\P (dF 0 j.toNat) (λ_=>True) b):=rfl
@[simp] theorem ZI (a:WA)(P:List D->(MH->Prop)->MH->Prop):BH a ρ mh P=(a ρ mh λds b=>∃i j,ds=[.int i,.int j]/\ -(2^62)<=i/\i<2^62/\ -(2^62)<=j/\j<2^62/\j-i<=sizeLine/\P (dF i (j-i).toNat) (λ_=>True) b):=rfl
@[simp] theorem ZE (a:WA)(P:List D->(MH->Prop)->MH->Prop):sN a ρ mh P↔a ρ mh λxs b=>match xs with
  | [x,y]=>got (aT b x) λds=>got (aT b y) λes=>ds.length<=sizeLine/\P (d5 ds es) (λmh' =>aT mh' x=some ds/\aT mh' y=some es) b
  | _=>False:=by
 unfold sN
 have:(λxs b=>∃x y ds es,xs=[x,y]/\aT b x=some ds/\aT b y=some es/\ds.length<=sizeLine/\P (d5 ds es) (λmh' =>aT mh' x=some ds/\aT mh' y=some es) b)=λxs b=>match xs with
  | [x,y]=>got (aT b x) λds=>got (aT b y) λes=>ds.length<=sizeLine/\P (d5 ds es) (λmh' =>aT mh' x=some ds/\aT mh' y=some es) b
  | _=>False:=by
  funext xs m;apply propext
  match xs with
  | []=>simp
  | [_]=>simp
  | [x,y]=>
   simp only[<-dN];constructor
   ·rintro⟨f,g,ds,es,e,c,d,h⟩;cases e;exact⟨ds,c,es,d,h⟩
   ·rintro⟨ds,c,es,d,h⟩;exact⟨x,y,ds,es,rfl,c,d,h⟩
  | _::_::_::_=>simp
 rw[this]
@[simp high] theorem YJ (b:Int)(P:Int->Prop):(∃c,[D.int b]=[D.int c]/\P c)↔P b:=⟨λa=>by obtain⟨c,e,h⟩:=a;cases e;exact h,λh=>⟨b,rfl,h⟩⟩
@[simp high] theorem YI (a b:Int)(P:Int->Int->Prop):(∃c d,[D.int a,D.int b]=[D.int c,D.int d]/\P c d)↔P a b:=⟨λf=>by obtain⟨c,d,e,h⟩:=f;cases e;exact h,λh=>⟨a,b,rfl,h⟩⟩
@[simp] theorem FN (C:Int->Int->Prop)(g:Int->Int->D)(i j:Int):xS C g (.int i) (.int j) mh Q↔C i j/\Q (g i j) mh:=by
 unfold xS;exact⟨λc=>by obtain⟨a,b,e,f,h⟩:=c;cases e;cases f;exact h,λh=>⟨i,j,rfl,rfl,h⟩⟩
@[simp] theorem uH (i j:Int):bN (.int i) (.int j) mh Q=(Q (.int (i+j)) mh):=rfl
@[simp] theorem Z7 (i j:Str):bN (.str i) (.str j) mh Q=(i.length+j.length<=sizeLine/\Q (.str (i++j)) mh):=rfl
@[simp] theorem PN (i j:List D):bN (.tup i) (.tup j) mh Q=(i.length+j.length<=sizeLine/\Q (.tup (i++j)) mh):=rfl
theorem qH{n m:Nat}{i j:List D}(d:mh[n]? =some (.lst i))(g:mh[m]? =some (.lst j)):bN (.ref n) (.ref m) mh Q↔(i++j).length<=sizeLine/\Q (.ref mh.length) (mh++[.lst (i++j)]):=by
 show (∃i j,mh[n]? =some (.lst i)/\mh[m]? =some (.lst j)/\AB (i++j) mh Q)↔_;rw[d,g];exact⟨λc=>by obtain⟨a,b,e,f,h⟩:=c;cases e;cases f;exact h,λh=>⟨i,j,rfl,rfl,h⟩⟩
@[simp] theorem s_ixT (ds:List D)(i:Int):b9 (.tup ds) (.int i) mh Q↔got (hX ds i) λd=>Q d mh:=by
 unfold b9;rw[<-dN];exact⟨λb=>by obtain⟨a,e,es,d,f,g,h⟩:=b;cases e;cases f;exact⟨d,g,h⟩,λc=>by obtain⟨d,f,h⟩:=c;exact⟨i,rfl,ds,d,rfl,f,h⟩⟩
@[simp] theorem VC (ds:List D)(i:Int):b9 (.fl ds) (.int i) mh Q↔got (hX ds i) λd=>Q d mh:=by
 unfold b9;rw[<-dN];exact⟨λb=>by obtain⟨a,e,es,d,f,g,h⟩:=b;cases e;cases f;exact⟨d,g,h⟩,λc=>by obtain⟨d,f,h⟩:=c;exact⟨i,rfl,ds,d,rfl,f,h⟩⟩
variable{n:Nat}
theorem d9(h:mh[n]? =some (.lst ds))(i:Int):b9 (.ref n) (.int i) mh Q↔got (hX ds i) λd=>Q d mh:=by
 unfold b9;rw[<-dN];have e:aT mh (.ref n)=some ds:=by simp[aT,h]
 exact⟨λb=>by obtain⟨a,j,es,d,f,k,g⟩:=b;cases j;rw[e]at f;cases f;exact⟨d,k,g⟩,λc=>by obtain⟨d,f,g⟩:=c;exact⟨i,rfl,ds,d,e,f,g⟩⟩
@[simp] theorem s_ltI (i j:Int):oLt (.int i) (.int j) mh Q=(Q (.bl (decide (i<j))) mh):=rfl
@[simp] theorem s_gtI (i j:Int):YD (.int i) (.int j) mh Q=(Q (.bl (decide (j<i))) mh):=rfl
@[simp] theorem s_eqI (i j:Int):oEq (.int i) (.int j) mh Q↔Q (.bl (i==j)) mh:=by simp[oEq,bM,bare,deep,fX]
@[simp] theorem s_neI (i j:Int):zJ (.int i) (.int j) mh Q↔Q (.bl (!(i==j))) mh:=by simp[zJ,bM,bare,deep,fX]
@[simp] theorem s_eqB (i j:Bool):oEq (.bl i) (.bl j) mh Q↔Q (.bl (i==j)) mh:=by simp[oEq,bM,bare,deep,fX]
@[simp] theorem s_neB (i j:Bool):zJ (.bl i) (.bl j) mh Q↔Q (.bl (!(i==j))) mh:=by simp[zJ,bM,bare,deep,fX]
@[simp] theorem s_eqS (i j:Str):oEq (.str i) (.str j) mh Q↔Q (.bl (i==j)) mh:=by simp[oEq,bM,bare,deep,fX]
@[simp] theorem s_eqT (i j:List D):oEq (.tup i) (.tup j) mh Q↔cZ i=true/\cZ j=true/\jY i+1<=40/\Q (.bl (cY i j)) mh:=by simp[oEq,bM,bare,deep,fX]
@[simp] theorem ZQ (x:D):gW x .bF mh Q↔Q (.bl !oQ x) mh:=by simp[gW]
@[simp] theorem ZY (x:D)(T:String):mB [x,.ty T] mh Q↔got (J0 mh x) λt=>T∈bG/\Q (.bl (o8 t T)) mh:=by
 unfold mB;rw[<-dN];constructor
 ·rintro⟨f,c,t,e,a,⟨g,b,d,h⟩ | ⟨i,b,_⟩⟩
  ·cases e;cases b;exact⟨t,a,d,h⟩
  ·cases e;cases b
 ·rintro⟨t,a,d,h⟩;exact⟨x,_,t,rfl,a,.inl ⟨T,rfl,d,h⟩⟩
@[simp] theorem ZX (x:D)(T U:String):mB [x,.tup [.ty T,.ty U]] mh Q↔got (J0 mh x) λt=>T∈bG/\U∈bG/\Q (.bl (o8 t T || o8 t U)) mh:=by
 unfold mB;rw[<-dN];constructor
 ·rintro⟨k,c,t,e,d,⟨g,f,a,h⟩ | ⟨i,f,a,h⟩⟩
  ·cases e;cases f
  ·cases e;injection f with b
   match i,b with
   | [g,l],b=>
    simp at b;obtain⟨rfl,rfl⟩:=b;exact⟨t,d,a _ (by simp),a _ (by simp),by simpa using h⟩
 ·rintro⟨t,d,a,j,h⟩;exact⟨x,_,t,rfl,d,.inr ⟨[T,U],rfl,by simp[a,j],by simpa using h⟩⟩
@[simp] theorem ZU (ds:List D):gF [.tup ds] mh Q↔Q (.int ds.length) mh:=by
 unfold gF;exact⟨λb=>by obtain⟨a,e,h⟩:=b;cases e;obtain⟨es,c,h⟩:=h;cases c;exact h,λh=>⟨_,rfl,ds,rfl,h⟩⟩
@[simp] theorem ZW (ds:List D):gF [.fl ds] mh Q↔Q (.int ds.length) mh:=by
 unfold gF;exact⟨λb=>by obtain⟨a,e,h⟩:=b;cases e;obtain⟨es,c,h⟩:=h;cases c;exact h,λh=>⟨_,rfl,ds,rfl,h⟩⟩
theorem zS(h:mh[n]? =some (.lst ds)):gF [.ref n] mh Q↔Q (.int ds.length) mh:=by
 unfold gF;have e:aT mh (.ref n)=some ds:=by simp[aT,h]
 exact⟨λb=>by obtain⟨a,f,c⟩:=b;cases f;obtain⟨es,d,c⟩:=c;rw[e]at d;cases d;exact c,λc=>⟨_,rfl,ds,e,c⟩⟩
@[simp] theorem ZV (z:Str):gF [.str z] mh Q↔z.length<=sizeLine/\Q (.int z.length) mh:=by
 unfold gF;exact⟨λb=>by obtain⟨a,e,h⟩:=b;cases e;exact h,λh=>⟨_,rfl,h⟩⟩
@[simp] theorem s_abs (i:Int):JC [.int i] mh Q↔Q (.int (if i<0 then -i else i)) mh:=by
 unfold JC;exact⟨λb=>by obtain⟨a,e,h⟩:=b;cases e;exact h,λh=>⟨i,rfl,h⟩⟩
@[simp] theorem ZT (i j:Int):zD [.int i,.int j] mh Q↔Q (.int (if j > i then j else i)) mh:=by
 unfold zD;exact⟨λc=>by obtain⟨a,b,e,h⟩:=c;cases e;exact h,λh=>⟨i,j,rfl,h⟩⟩
@[simp] theorem ZS (i j:Int):o3 [.int i,.int j] mh Q↔Q (.int (if j<i then j else i)) mh:=by
 unfold o3;exact⟨λc=>by obtain⟨a,b,e,h⟩:=c;cases e;exact h,λh=>⟨i,j,rfl,h⟩⟩
@[simp] theorem U8 (x:D):gE [x] mh Q↔got (aT mh x) λds=>Q (.tup ds) mh:=by
 unfold gE;rw[<-dN];exact⟨λb=>by obtain⟨a,ds,e,d,h⟩:=b;cases e;exact⟨ds,d,h⟩,λc=>by obtain⟨ds,d,h⟩:=c;exact⟨x,ds,rfl,d,h⟩⟩
@[simp] theorem s_slT (ds:List D)(lo hi:Option Int):oM (.tup ds) lo hi mh Q=(Q (.tup (cutD ds lo hi)) mh):=rfl
theorem U9(h:mh[n]? =some (.lst ds))(lo hi:Option Int):oM (.ref n) lo hi mh Q↔Q (.ref mh.length) (mh++[.lst (cutD ds lo hi)]):=by
 show (∃ds,iI mh (.ref n)=some ds/\Q (.ref mh.length) (mh++[.lst (cutD ds lo hi)]))↔_;have e:iI mh (.ref n)=some ds:=by simp[iI,h]
 exact⟨λa=>by obtain⟨es,c,b⟩:=a;rw[e]at c;cases c;exact b,λb=>⟨ds,e,b⟩⟩
theorem FL{P:MH->Prop}(h:mh[n]? =some (.lst ds))(i:Int)(d:D):J9 (.ref n) (.int i) d mh P↔got (EV ds.length i) λj=>P (mh.set n (.lst (ds.set j d))):=by
 unfold J9;rw[<-dN];exact⟨λa=>by obtain⟨m,es,k,j,f,g,c,l,e⟩:=a;cases f;cases g;rw[h]at c;cases c;exact⟨j,l,e⟩,λb=>by obtain⟨j,c,e⟩:=b;exact⟨n,ds,i,j,rfl,rfl,h,c,e⟩⟩
theorem zT{es:List D}(h:mh[n]? =some (.lst es))(d:D):d2 (.ref n) [d] mh Q↔es.length<sizeLine/\Q .bF (mh.set n (.lst (es++[d]))):=by
 unfold d2;exact⟨λa=>by obtain⟨m,fs,d',e,f,c,b⟩:=a;cases e;cases f;rw[h]at c;cases c;exact b,λb=>⟨n,es,d,rfl,rfl,h,b⟩⟩
theorem PM{bs:List Bool}(h:mh[n]? =some (.lst (bs.map .bl))):JB [.ref n] mh Q↔Q (.bl (bs.all id)) mh:=by
 unfold JB;have e:iI mh (.ref n)=some (bs.map .bl):=by simp[iI,h]
 constructor
 ·rintro⟨x,c,i,g,d⟩;cases i;rw[e]at g;have j:bs.map D.bl=c.map D.bl:=aBl g;have k:bs=c :=(aE4 (f:=D.bl) (λa b e=>by injection e)).mp j;subst k;exact d
 ·intro d;exact⟨_,bs,rfl,e,d⟩
@[simp] theorem XQ (d:D)(ds:List D):hX (d::ds) 0=some d:=by
 have:=kJ (xs:=d::ds) (j:=0) (v:=d) rfl;simpa using this
theorem eF(mh:MH)(o:MO):(mh++[o])[mh.length]? =some o:=by simp
end
variable{n:Nat}{d:D}
theorem aM(h:R d mh):Out n d mh R:= .inl h
theorem GB{mh a:MH}(ok:j4 mh)(b:eB mh.length d=true)(h:R d mh):Out mh.length d (mh++a) R:= .inr (.inl ⟨mh,a,rfl,aB3 _,ok,b,h⟩)
theorem DH{mh a:MH}(c:n<=mh.length)(ok:j4 mh)(b:eB mh.length d=true)(h:R d mh):Out n d (mh++a) R:= .inr (.inl ⟨mh,a,rfl,c,ok,b,h⟩)
def lx:List Int->List Int->Bool
 | [],[]=>false
 | [],_::_=>true
 | _::_,[]=>false
 | a::as,b::bs=>if a<b then true else if b<a then false else lx as bs
theorem uZ:∀x y:List Int,lx x y=true->lx y x=false
 | [],[],h=>by simp[lx]at h
 | [],_::_,h=>by simp[lx]
 | _::_,[],h=>by simp[lx]at h
 | a::as,b::bs,h=>by
  simp only[lx]at h⊢;by_cases c:a<b
  ·rw[if_neg (by lia),if_pos c]
  ·rw[if_neg c]at h;by_cases d:b<a
   ·rw[if_pos d]at h;cases h
   ·rw[if_neg d]at h⊢;rw[if_neg c];exact uZ as bs h
theorem OG:∀x y z:List Int,lx y x=false->lx z y=false->lx z x=false
 | [],y,z,h1,h2=>by
  cases z with
  | nil=>rfl
  | cons _ _=>rfl
 | a::as,[],z,h1,h2=>by simp[lx]at h1
 | a::as,b::bs,[],h1,h2=>by simp[lx]at h2
 | a::as,b::bs,c::cs,h1,h2=>by
  simp only[lx]at h1 h2⊢;by_cases d:b<a
  ·rw[if_pos d]at h1;cases h1
  ·rw[if_neg d]at h1;by_cases e:c<b
   ·rw[if_pos e]at h2;cases h2
   ·rw[if_neg e]at h2;rw[if_neg (by lia)];by_cases f:a<c
    ·rw[if_pos f]
    ·rw[if_neg f];rw[if_neg (by lia)]at h1 h2;exact OG as bs cs h1 h2
def dP:D->List Int
 | .int i=>[i]
 | .str z=>z.cps.toList.map (λ(c:Nat)=>(c:Int))++[-1]
 | _=>[]
def enc:D->List Int
 | .tup ds=>ds.flatMap dP
 | d=>dP d
theorem AG:∀a b:List Nat,lx (a.map (λ(c:Nat)=>(c:Int))++[-1]) (b.map (λ(c:Nat)=>(c:Int))++[-1])=decide (a<b)
 | [],[]=>by simp[lx]
 | [],b::bs=>by
  have:(-1:Int)<(b:Int):=by lia
  simp[lx,this]
 | a::as,[]=>by
  have d:¬((a:Int) < -1):=by lia
  have f:(-1:Int)<(a:Int):=by lia
  simp[lx,d,f]
 | a::as,b::bs=>by
  have g:=AG as bs;simp only[List.map_cons,List.cons_append,lx,g];by_cases d:a<b
  ·rw[if_pos (by lia)];exact(decide_eq_true (List.cons_lt_cons_iff.mpr (.inl d))).symm
  ·rw[if_neg (by lia)];by_cases f:b<a
   ·rw[if_pos (by lia)];exact(aCq (λq=>by rcases List.cons_lt_cons_iff.mp q with q | q <;> lia)).symm
   ·rw[if_neg (by lia)];have e:a=b:=by lia
    subst e;rw[Bool.eq_iff_iff,decide_eq_true_iff,decide_eq_true_iff,List.cons_lt_cons_iff];simp
inductive Sc where | i | s
def dB:Sc->D->Bool
 | .i,.int _=>true
 | .s,.str _=>true
 | _,_=>false
def b6:List Sc->List D->Bool
 | [],[]=>true
 | c::cs,d::ds=>dB c d && b6 cs ds
 | _,_=>false
theorem LN(x:List Int):∀r b :List Int,lx (x++r) (x++b)=lx r b :=by
 induction x with
 | nil=>intro r b;rfl
 | cons a as ih=>intro r b;simp[lx,ih]
theorem map_inj:∀a b:List Nat,a.map (λ(c:Nat)=>(c:Int))++[-1]=b.map (λ(c:Nat)=>(c:Int))++[-1]->a=b
 | [],[],_=>rfl
 | [],b::bs,h=>by simp at h
 | a::as,[],h=>by simp at h
 | a::as,b::bs,h=>by
  simp only[List.map_cons,List.cons_append,List.cons.injEq]at h;have d:a=b:=by lia
  rw[d,map_inj as bs h.2]
theorem BR{a b:Str}(h:a.cps.toList=b.cps.toList):a=b:=by
 cases a;cases b;simp at h;simp[h]
theorem CW{c:Sc}{d e:D}(a:dB c d=true)(b:dB c e=true)(h:dP d=dP e):d=e:=by
 cases c <;> cases d <;> simp[dB]at a <;> cases e <;> simp[dB]at b
 ·simp[dP]at h;rw[h]
 ·simp only[dP]at h;rw[BR (map_inj _ _ h)]
theorem oO:∀(a b:List Nat) (r d :List Int),a≠b->lx ((a.map (λ(c:Nat)=>(c:Int))++[-1])++r) ((b.map (λ(c:Nat)=>(c:Int))++[-1])++d)=lx (a.map (λ(c:Nat)=>(c:Int))++[-1]) (b.map (λ(c:Nat)=>(c:Int))++[-1])
 | [],[],_,_,h=>absurd rfl h
 | [],b::bs,r,d,_=>by
  have:(-1:Int)<(b:Int):=by lia
  simp[lx,this]
 | a::as,[],r,d,_=>by
  have f:¬((a:Int) < -1):=by lia
  have g:(-1:Int)<(a:Int):=by lia
  simp[lx,f,g]
 | a::as,b::bs,r,d,h=>by
  simp only[List.map_cons,List.cons_append,lx];by_cases f:(a:Int)<b
  ·simp[f]
  ·by_cases g:(b:Int)<a
   ·simp[f,g]
   ·have e:a=b:=by lia
    subst e;simp only[f,g,if_false];exact oO as bs r d λq=>h (by rw[q])
theorem uY{c:Sc}{d e:D}(f:dB c d=true)(k:dB c e=true)(h:d≠e)(r g :List Int):lx (dP d++r) (dP e++g)=lx (dP d) (dP e):=by
 cases c <;> cases d <;> simp[dB]at f <;> cases e <;> simp[dB]at k
 ·rename_i i j;have:i≠j:=λq=>h (by rw[q]);simp only[dP,List.cons_append,List.nil_append,lx];by_cases f:i<j
  ·simp[f]
  ·have:j<i:=by lia
   simp[f,this]
 ·rename_i a b;simp only[dP];exact oO _ _ r g λq=>h (by rw[BR q])
theorem II{c:Sc}{d e:D}(a:dB c d=true)(b:dB c e=true):fX d e=true↔d=e:=by
 cases c <;> cases d <;> simp[dB]at a <;> cases e <;> simp[dB]at b
 ·simp[fX]
 ·simp[fX]
mutual
theorem E9{h:Heap}:∀{d e:D} {u:Value},Vl h d u->Vl h e u->d=e
 | .bF,e,u,p,q=>by
  unfold Vl at p;subst p
  cases e <;> unfold Vl at q <;> first | rfl | (cases q;done) | (obtain⟨_,q⟩:=q;cases q;done) | (obtain⟨_,_,q,_⟩:=q;cases q;done)
 | .bl a,e,u,p,q=>by
  unfold Vl at p;subst p
  cases e <;> unfold Vl at q <;> first | (cases q;rfl) | (cases q;done) | (obtain⟨_,q⟩:=q;cases q;done) | (obtain⟨_,_,q,_⟩:=q;cases q;done)
 | .int a,e,u,p,q=>by
  unfold Vl at p;obtain⟨t,rfl⟩:=p
  cases e <;> unfold Vl at q <;> first | (cases q;done) | (obtain⟨_,q⟩:=q;cases q;rfl) | (obtain⟨_,q⟩:=q;cases q;done) | (obtain⟨_,_,q,_⟩:=q;cases q;done)
 | .str a,e,u,p,q=>by
  unfold Vl at p;obtain⟨t,rfl⟩:=p
  cases e <;> unfold Vl at q <;> first | (cases q;done) | (obtain⟨_,q⟩:=q;cases q;rfl) | (obtain⟨_,q⟩:=q;cases q;done) | (obtain⟨_,_,q,_⟩:=q;cases q;done)
 | .ty _,e,u,p,q=>by unfold Vl at p;exact p.elim
 | .ref _,e,u,p,q=>by unfold Vl at p;exact p.elim
 | .tup as,e,u,p,q=>by
  unfold Vl at p;obtain⟨a,us,rfl,ht,l⟩:=p
  cases e with
  | tup bs=>
   unfold Vl at q;obtain⟨b,f,e,c,g⟩:=q;cases e;obtain⟨o,k,_,n,m⟩:=ht;obtain⟨v,i,_,w,j⟩:=c;rw[k]at i;cases i;rw[m]at j;injection j with r;have s:us=f:=by simpa using aC0 Array.toList r
   subst s;rw[uC l g]
  | fl bs=>
   unfold Vl at q;obtain⟨b,f,e,c,g⟩:=q;cases e;exact(pN c ht).elim
  | _=>unfold Vl at q;first | (cases q;done) | (obtain⟨_,q⟩:=q;cases q;done)
 | .fl as,e,u,p,q=>by
  unfold Vl at p;obtain⟨a,us,rfl,ht,l⟩:=p
  cases e with
  | fl bs=>
   unfold Vl at q;obtain⟨b,f,e,c,g⟩:=q;cases e;obtain⟨o,k,_,n,m⟩:=ht;obtain⟨v,i,_,w,j⟩:=c;rw[k]at i;cases i;rw[m]at j;injection j with r;have s:us=f:=by simpa using aC0 Array.toList r
   subst s;rw[uC l g]
  | tup bs=>
   unfold Vl at q;obtain⟨b,f,e,c,g⟩:=q;cases e;exact(pN ht c).elim
  | _=>unfold Vl at q;first | (cases q;done) | (obtain⟨_,q⟩:=q;cases q;done)
theorem uC{h:Heap}:∀{ds es:List D} {us:List Value},dE h ds us->dE h es us->ds=es
 | [],es,us,p,q=>by unfold dE at p;subst p;cases es with | nil=>rfl | cons=>unfold dE at q;obtain⟨_,_,e,_⟩:=q;cases e
 | d::ds,es,us,p,q=>by
  unfold dE at p;obtain⟨u,r,rfl,i,l⟩:=p
  cases es with
  | nil=>unfold dE at q;cases q
  | cons e es=>
   unfold dE at q;obtain⟨c,f,a,i2,b⟩:=q;cases a;rw[E9 i i2,uC l b]
end
mutual
theorem Vl.keep{h h' :Heap}(k:∀b o,h.get? b=some o->h'.get? b=some o):∀(d:D) (u:Value),Vl h d u->Vl h' d u
 | .bF,u,q=>by unfold Vl at*;exact q
 | .bl _,u,q=>by unfold Vl at*;exact q
 | .int _,u,q=>by unfold Vl at*;exact q
 | .str _,u,q=>by unfold Vl at*;exact q
 | .ty _,u,q=>by unfold Vl at*;exact q
 | .ref _,u,q=>by unfold Vl at*;exact q
 | .tup ds,u,q=>by
  unfold Vl at*;obtain⟨a,us,e,⟨o,c,f⟩,l⟩:=q;exact⟨a,us,e,⟨o,k _ _ c,f⟩,dE.keep k ds us l⟩
 | .fl ds,u,q=>by
  unfold Vl at*;obtain⟨a,us,e,⟨o,c,f⟩,l⟩:=q;exact⟨a,us,e,⟨o,k _ _ c,f⟩,dE.keep k ds us l⟩
theorem dE.keep{h h' :Heap}(k:∀b o,h.get? b=some o->h'.get? b=some o):∀(ds:List D) (us:List Value),dE h ds us->dE h' ds us
 | [],us,q=>by unfold dE at*;exact q
 | d::ds,us,q=>by
  unfold dE at*;obtain⟨u,r,e,i,l⟩:=q;exact⟨u,r,e,Vl.keep k d u i,dE.keep k ds r l⟩
end
def EW(ds:List D):Prop:=(∃c,∀d∈ds,dB c d=true)\/∃c a,∀d∈ds,∃es,d= .tup es/\b6 (c::a) es=true
open Classical in
noncomputable def dv(h:Heap)(u:Value):D:=if q:∃d,Vl h d u then q.choose else .bF
theorem iU{u:Value}(p:Vl h d u):dv h u=d:=by
 unfold dv;rw[dif_pos ⟨d,p⟩];exact E9 (Exists.choose_spec (⟨d,p⟩:∃d,Vl h d u)) p
noncomputable def ltV(h:Heap)(x y:Keyed):Bool:=lx (enc (dv h x.1)) (enc (dv h y.1))
theorem u4(h:Heap):TS.Wk (ltV h):=⟨λx y=>uZ _ _,λx y z=>OG _ _ _⟩
theorem j7{h:Heap}:∀{ds:List D} {us:List Value},dE h ds us->∀u∈us,∃d∈ds,Vl h d u
 | [],us,q,u,hu=>by unfold dE at q;subst q;cases hu
 | d::ds,us,q,u,hu=>by
  unfold dE at q;obtain⟨w,r,rfl,i,l⟩:=q;rcases aBa.mp hu with rfl | hu
  ·exact⟨d,aB6,i⟩
  ·obtain⟨e,he,p⟩:=j7 l u hu;exact⟨e,aB7 _ he,p⟩
open PySem.W in
theorem tE{prog:Program}{w:World}{A:Around}{Q:Bool->Shared->Prop}{s:Shared}(o:A.units+32<cLine):∀(l:List Sc) (as bs:List D) (us vs:List Value) (i:Nat) (b:Bool),(b=true->i=0->True)->b6 l as=true->b6 l bs=true->dE s.heap as us->dE s.heap bs vs->
  Q (lx (as.flatMap dP) (bs.flatMap dP)) s->KatLex prog w A b false Q (us.zip vs) i s
 | [],[],[],us,vs,i,b,_,_,_,f,g,q=>by unfold dE at f g;subst f g;exact kat_nil q
 | [],[],_::_,_,_,_,_,_,_,h2,_,_,_=>by simp[b6]at h2
 | [],_::_,_,_,_,_,_,_,h1,_,_,_,_=>by simp[b6]at h1
 | _::_,[],_,_,_,_,_,_,h1,_,_,_,_=>by simp[b6]at h1
 | _::_,_::_,[],_,_,_,_,_,_,h2,_,_,_=>by simp[b6]at h2
 | c::l,a::as,d::bs,us,vs,i,b,hb,h1,h2,f,g,q=>by
  unfold dE at f g;obtain⟨u,p,rfl,h,f⟩:=f;obtain⟨v,r,rfl,j,g⟩:=g;simp only[b6,Bool.and_eq_true]at h1 h2;rw[List.zip_cons_cons];have t:deep a<=0:=by cases c <;> cases a <;> simp[dB]at h1 <;> simp[deep]
  refine kat_cons (jX (s:=s) 0 t (by lia) h j prog w _ _ ?_);simp only[List.flatMap_cons]at q;refine kat_go (λe=>kat_yes ?_) (λe=>kat_no ?_)
  ·have m:a=d:=(II h1.1 h2.1).mp e;subst m;rw[LN]at q;exact tE o l as bs p r (i+1) b (λ_ _=>trivial) h1.2 h2.2 f g q
  ·have n:a≠d:=λz=>by rw[(II h1.1 h2.1).mpr z]at e;cases e
   rw[uY h1.1 h2.1 n]at q
   cases c with
   | i=>
    cases a <;> simp[dB]at h1;cases d <;> simp[dB]at h2;rename_i x y;unfold Vl at h j;obtain⟨B,rfl⟩:=h;obtain⟨C,rfl⟩:=j
    have q' :Q (decide (x<y)) s:=by
     have:lx (dP (.int x)) (dP (.int y))=decide (x<y):=by
      simp only[dP,lx];by_cases k:x<y
      ·simp[k]
      ·simp[k]
     rw[<-this];exact q
    cases hbi:(b && i==0) with
    | true=>exact oneLt_int q'
    | false=>exact kat_one _ _ (lt_int q')
   | s=>
    cases a <;> simp[dB]at h1;cases d <;> simp[dB]at h2;rename_i x y;unfold Vl at h j;obtain⟨B,rfl⟩:=h;obtain⟨C,rfl⟩:=j
    have q' :Q (decide (x.cps.toList<y.cps.toList)) s:=by
     have:lx (dP (.str x)) (dP (.str y))=decide (x.cps.toList<y.cps.toList):=AG _ _;rw[<-this];exact q
    cases hbi:(b && i==0) with
    | true=>exact oneLt_str q'
    | false=>exact kat_one _ _ (lt_str q')
def X7:Sc->String | .i=>"int" | .s=>"str"
section
variable {prog:Program}{w:World}{A:Around}
theorem n6:∀{a:List Sc} {ds:List D},b6 a ds=true->ds.length=a.length
 | [],[],_=>rfl
 | [],_::_,h=>by simp[b6]at h
 | _::_,[],h=>by simp[b6]at h
 | c::a,d::ds,h=>by simp only[b6,Bool.and_eq_true]at h;simp[n6 h.2]
theorem j8{vs:List Value}{x:Keyed}(h:x∈(pairsOf vs).toList):x=(x.1,x.1)/\x.1∈vs:=by
 rw[pairsOf_toList]at h
 induction vs with
 | nil=>simp at h
 | cons v r ih=>
  rw[List.zip_cons_cons]at h;rcases aBa.mp h with e | e
  ·rw[e];exact⟨rfl,aB6⟩
  ·obtain⟨a,b⟩:=ih e;exact⟨a,aB7 _ b⟩
theorem mX{s:Shared}{vs:List Value}(hu:A.units+40<cLine)(U:EW ds)(l:dE s.heap ds vs)(R:2<=vs.length):
  ∃κ,∀h' :Heap,(∀b o,s.heap.get? b=some o->h'.get? b=some o)->TS.BB prog w A {s with heap:=h'} κ (ltV s.heap) (pairsOf vs)/\
   ∀B E,B κ {s with heap:=h'}->wpAny (model prog w) A (keyKind' vs.toArray) B E {s with heap:=h'}:=by
 rcases U with ⟨c,f⟩ | ⟨c,S,f⟩
 ·refine⟨oneType',λh' k=>⟨λx y F G Q q=>?_,λB E q=>?_⟩⟩
  ·obtain⟨_,H⟩:=j8 F;obtain⟨_,I⟩:=j8 G;obtain⟨d,g,dp⟩:=j7 l _ H;obtain⟨e,em,ep⟩:=j7 l _ I
   have q' :Q (lx (enc d) (enc e)) {s with heap:=h'}:=by
    have:ltV s.heap x y=lx (enc d) (enc e):=by unfold ltV;rw[iU dp,iU ep]
    rw[<-this];exact q
   have hd:=f d g;have he:=f e em;obtain⟨x1,x2⟩:=x;obtain⟨T,y2⟩:=y
   cases c with
   | i=>
    cases d <;> simp[dB]at hd;cases e <;> simp[dB]at he;rename_i i j;unfold Vl at dp ep;obtain⟨h,rfl⟩:=dp;obtain⟨t2,rfl⟩:=ep;refine PySem.W.kat_lt_int ?_
    have:lx (enc (.int i)) (enc (.int j))=decide (i<j):=by
     simp only[enc,dP,lx];by_cases m:i<j
     ·simp[m]
     ·simp[m]
    rw[<-this];exact q'
   | s=>
    cases d <;> simp[dB]at hd;cases e <;> simp[dB]at he;rename_i i j;unfold Vl at dp ep;obtain⟨h,rfl⟩:=dp;obtain⟨t2,rfl⟩:=ep;refine PySem.W.kas_lt_str ?_;have:lx (enc (.str i)) (enc (.str j))=decide (i.cps.toList<j.cps.toList):=AG _ _;rw[<-this];exact q'
  ·have ty:∀v∈vs,PySem.W.Looks (model prog w) h' (typeOf v) (.type (X7 c)):=λv hv=>by
    obtain⟨d,g,dp⟩:=j7 l _ hv;have hd:=f d g
    cases c with
    | i=>cases d <;> simp[dB]at hd;unfold Vl at dp;obtain⟨h,rfl⟩:=dp;exact aD2 rfl
    | s=>cases d <;> simp[dB]at hd;unfold Vl at dp;obtain⟨h,rfl⟩:=dp;exact aD2 rfl
   exact PySem.W.kas_kind (s:={s with heap:=h'}) R ty (by cases c <;> rfl) (by cases c <;> rfl) q
 ·refine⟨tuples' true,λh' k=>⟨λx y F G Q q=>?_,λB E q=>?_⟩⟩
  ·obtain⟨_,H⟩:=j8 F;obtain⟨_,I⟩:=j8 G;obtain⟨d,g,dp⟩:=j7 l _ H;obtain⟨e,em,ep⟩:=j7 l _ I
   have q' :Q (lx (enc d) (enc e)) {s with heap:=h'}:=by
    have:ltV s.heap x y=lx (enc d) (enc e):=by unfold ltV;rw[iU dp,iU ep]
    rw[<-this];exact q
   obtain⟨as,rfl,V⟩:=f d g;obtain⟨bs,rfl,X⟩:=f e em;obtain⟨x1,x2⟩:=x;obtain⟨T,y2⟩:=y;unfold Vl at dp ep;obtain⟨a,us,ea,⟨o,ho,t,n,hd⟩,z⟩:=dp;obtain⟨b,J,eb,⟨o2,K,Y,n2,L⟩,Z⟩:=ep;have M :x1=Value.ref a:=ea;have N :T=Value.ref b:=eb;subst M N;refine PySem.W.kat_lt (s:={s with heap:=h'}) (k _ _ ho) hd (k _ _ K) L ?_;have z1:=bC z;have z2:=bC Z;have z3:=n6 V;have z4:=n6 X;have zz:decide (us.toArray.size<J.toArray.size)=false:=aCq (by simp only[List.size_toArray];lia);rw[zz];exact tE (s:={s with heap:=h'}) (by lia) (c::S) as bs us J 0 true (λ_ _=>trivial) V X (dE.keep k as us z) (dE.keep k bs J Z) q'
  ·have fs:∃fs:List Value,PySem.W.KatTups h' vs fs/\fs.length=vs.length/\∀v∈fs,PySem.W.Looks (model prog w) h' (typeOf v) (.type (X7 c)):=by
    clear q R
    have go:∀(ds:List D) (vs:List Value),(∀d∈ds,∃es,d= .tup es/\b6 (c::S) es=true)->dE s.heap ds vs->∃fs:List Value,PySem.W.KatTups h' vs fs/\fs.length=vs.length/\∀v∈fs,PySem.W.Looks (model prog w) h' (typeOf v) (.type (X7 c)):=by
     intro ds
     induction ds with
     | nil=>intro vs _ l;unfold dE at l;subst l;exact⟨[],PySem.W.KatTups.nil,rfl,λv hv=>by cases hv⟩
     | cons d r ih=>
      intro vs f l;unfold dE at l;obtain⟨u,ur,rfl,p,l⟩:=l;obtain⟨fs,O,f2,P⟩:=ih ur (λe he=>f e (aB7 _ he)) l;obtain⟨es,rfl,he⟩:=f d aB6;unfold Vl at p;obtain⟨a,us,rfl,⟨o,ho,t,n,hd⟩,z⟩:=p
      cases es with
      | nil=>simp[b6]at he
      | cons e0 er=>
       unfold dE at z;obtain⟨u0,u1,rfl,C,_⟩:=z;simp only[b6,Bool.and_eq_true]at he;refine⟨u0::fs,PySem.W.KatTups.cons (k _ _ ho) t hd (by simp) O,by simp[f2],λv hv=>?_⟩;rcases aBa.mp hv with rfl | hv
       ·cases c with
        | i=>cases e0 <;> simp[dB]at he;unfold Vl at C;obtain⟨h,rfl⟩:=C;exact aD2 rfl
        | s=>cases e0 <;> simp[dB]at he;unfold Vl at C;obtain⟨h,rfl⟩:=C;exact aD2 rfl
       ·exact P v hv
    exact go ds vs f l
   obtain⟨fs,O,f2,P⟩:=fs;refine PySem.W.kat_kind (s:={s with heap:=h'}) O (by lia) P (by cases c <;> rfl) ?_;have:(Value.type (X7 c) !=Value.type "tuple")=true:=by cases c <;> rfl
   rw[this];exact q
end
theorem eD{α c:Type}(f:α->c):∀{l:List c} {m:List c},l.Perm m->∀t:List α,m=t.map f->∃t' :List α,t'.Perm t/\t'.map f=l:=by
 intro l m h
 induction h with
 | nil=>intro t e;cases t <;> simp at e;exact⟨[],.refl _,rfl⟩
 | cons x _ ih=>
  intro t e
  cases t with
  | nil=>simp at e
  | cons a r=>
   simp at e;obtain⟨t',p,q⟩:=ih r e.2;exact⟨a::t',p.cons a,by simp[q,e.1]⟩
 | swap x y l=>
  intro t e
  match t,e with
  | [],e=>simp at e
  | [_],e=>simp at e
  | a::b::r,e=>
   simp at e;exact⟨b::a::r,.swap _ _ _,by simp[e]⟩
 | trans _ _ ih1 ih2=>
  intro t e;obtain⟨d,g,i⟩:=ih2 t e;obtain⟨j,k,n⟩:=ih1 d i.symm;exact⟨j,k.trans g,n⟩
def kK:OA:=λxs mh Q=>∃x ds,xs=[x]/\iI mh x=some ds/\ds.length<64/\EW ds/\
 ∀a,a.Perm ds->a.Pairwise (λd e=>lx (enc e) (enc d)=false)->Q (.ref mh.length) (mh++[.lst a])
theorem oB(U:EW ds):cZ ds=true:=by
 have sc:∀{a:List Sc} {es:List D},b6 a es=true->cZ es=true:=λ{a}=>by
  induction a with
  | nil=>intro es h;cases es with | nil=>rfl | cons=>simp[b6]at h
  | cons c a ih=>
   intro es h
   cases es with
   | nil=>simp[b6]at h
   | cons e es=>
    simp only[b6,Bool.and_eq_true]at h;simp only[cZ,ih h.2,Bool.and_true];cases c <;> cases e <;> simp[dB]at h <;> rfl
 rcases U with ⟨c,b⟩ | ⟨c,a,b⟩
 ·induction ds with
  | nil=>rfl
  | cons d r ih=>
   have hd:=b d aB6;simp only[cZ,ih λe he=>b e (List.mem_cons_of_mem _ he),Bool.and_true];cases c <;> cases d <;> simp[dB]at hd <;> rfl
 ·induction ds with
  | nil=>rfl
  | cons d r ih=>
   obtain⟨es,rfl,he⟩:=b d aB6;simp only[cZ,ih λe he=>b e (List.mem_cons_of_mem _ he),Bool.and_true];simpa[bare] using sc he
structure Tri where
 d:D
 v:V
 u:Value
theorem J2{K:aEd}{μ:List Addr}{H:Hp}{h:Heap}:∀{ds:List D} {vs:List V} {us:List Value},IsL K μ H ds vs->Vals vs us->dE h ds us->∃ts:List Tri,ts.map (·.d)=ds/\ts.map (·.v)=vs/\ts.map (·.u)=us/\∀t∈ts,Is K μ H t.d t.v/\RelV t.v t.u/\Vl h t.d t.u
 | [],vs,us,l,r,q=>by unfold IsL at l;subst l;cases r;exact⟨[],rfl,rfl,rfl,λt ht=>by cases ht⟩
 | d::ds,vs,us,l,r,q=>by
  unfold IsL at l;obtain⟨v,s,rfl,i,l⟩:=l
  cases r with
  | @cons _ g _ j k m=>
   unfold dE at q;obtain⟨w,x,e,p,q⟩:=q;injection e with n o;subst n o;obtain⟨ts,a,b,c,f⟩:=J2 l m q
   exact⟨⟨d,v,g⟩::ts,by simp[a],by simp[b],by simp[c],λt ht=>by
    rcases aBa.mp ht with rfl | ht
    ·exact⟨i,k,p⟩
    ·exact f t ht⟩
theorem pQ{K:aEd}{μ:List Addr}{H:Hp}:∀{ts:List Tri},(∀t∈ts,Is K μ H t.d t.v)->IsL K μ H (ts.map (·.d)) (ts.map (·.v))
 | [],_=>by simp[IsL]
 | t::ts,h=>by
  simp only[List.map_cons];unfold IsL;exact⟨_,_,rfl,h t aB6,pQ λx a=>h x (aB7 _ a)⟩
theorem mU:∀{ts:List Tri},(∀t∈ts,RelV t.v t.u)->Vals (ts.map (·.v)) (ts.map (·.u))
 | [],_=>.nil
 | t::ts,h=>.cons (h t aB6) (mU λx a=>h x (aB7 _ a))
section
variable {X:Cx}
theorem EK(hu:X.A.units+64<cLine):bR X (.builtin "sorted") (cP X.K kK):=by
 intro pins s σ H xs us Q I r q;obtain⟨μ,mh,ds,R,n,G,⟨x,es,rfl,e,J,U,q⟩,F⟩:=q;obtain⟨v,rfl,L⟩:=eP G;obtain⟨a,vs,rfl,sq,l⟩:=qR n L e;obtain⟨u,rfl,M⟩:=vals1 r;cases M;obtain⟨aH,p,N,hz⟩:=I.list sq;have g:=fD I es (oB U) l p;have y:aH.length=es.length:=bC g;have O:X.A.in1.in1.units+40<cLine:=by show X.A.units+1+1+40<_;lia
 have ask:∃κ,2<=aH.length->∀h' :Heap,(∀b o,s.heap.get? b=some o->h'.get? b=some o)->TS.BB X.prog X.w X.A.in1.in1 {s with heap:=h'} κ (ltV s.heap) (pairsOf aH)/\
   ∀B P,B κ {s with heap:=h'}->wpAny (model X.prog X.w) X.A.in1.in1 (keyKind' aH.toArray) B P {s with heap:=h'}:=by
  by_cases C:2<=aH.length
  ·obtain⟨κ,hk⟩:=mX (prog:=X.prog) (w:=X.w) (A:=X.A.in1.in1) O U g C;exact⟨κ,λ_=>hk⟩
  ·exact⟨general',λz=>absurd z C⟩
 obtain⟨κ,ask⟩:=ask;refine TS.FH (κ:=κ) (u4 s.heap) N.isList (by lia) ask λout D h=>?_;obtain⟨ts,S,T,V,W⟩:=J2 l p g;rw[<-V]at D;obtain⟨c,i,E⟩:=eD (·.u) D ts rfl;have f:∀t∈c,Is X.K μ H t.d t.v/\RelV t.v t.u/\Vl s.heap t.d t.u:=λt ht=>W t (i.mem_iff.mp ht);have Y:(c.map (·.d)).Perm es:=by rw[<-S];exact i.map _
 have Z:(c.map (·.d)).Pairwise (λd e=>lx (enc e) (enc d)=false):=by
  rw[<-E]at h;rw[List.pairwise_map]at h⊢;refine h.imp_of_mem λ{t t'} m m' j=>?_;have e1:dv s.heap t.u=t.d:=iU (f t m).2.2;have e2:dv s.heap t'.u=t'.d:=iU (f t' m').2.2;unfold ltV at j;rw[e1,e2]at j;exact j
 obtain⟨ep,he⟩:=sortedAll_at s.heap aH out.toArray
 have ln:(c.map (·.v)).length<=sizeLine:=by
  have:=i.length_eq;have k :=aC0 List.length T;simp at k ⊢
  lia
 have I1:Inv X pins σ (upd H (s.heap.objs.size+1) (.lst (c.map (·.v)))) {s with heap:=sortedAll s.heap aH out.toArray}:=
  I.laid (t' :=s.toks) (λb o hb=>sortedAll_old hb) (Nat.le_succ _) ⟨ln,out,ep,by rw[<-E];exact mU λt ht=>(f t ht).2.1,he⟩
 exact⟨.ref (s.heap.objs.size+1),_,I1,rfl,fW n F (pQ λt ht=>(f t ht).1) (q _ Y Z) _ (I.bD.fresh (Nat.le_succ _))⟩
end
theorem bZ{g:WG}{b:WS}{E:hV}{St:MH->Prop}(e:Nat->dX->MH->Prop)(ds:List D)(f:∀i a mh,e i a mh->St mh)
  (hs:∀i d a mh (N:dX->MH->Prop),ds[i]? =some d->e i a mh->(∀c mh',e (i+1) c mh' ->N c mh')->g d a λj=>b {E with nx:=N,ct:=N,bk:=E.nx} j mh)
  (hd:∀a mh,e ds.length a mh->E.nx a mh) {a:dX}  (h0:e 0 a mh):jQ g b E St ds a mh:=by
 have go:∀(k i:Nat),i+k=ds.length->∀a mh,e i a mh->jQ g b E St (ds.drop i) a mh:=by
  intro k
  induction k with
  | zero=>
   intro i hi a mh p;have:i=ds.length:=by lia
   subst this;rw[List.drop_of_length_le (Nat.le_refl _)];exact⟨f _ _ _ p,hd a mh p⟩
  | succ k ih=>
   intro i hi a mh p;have h:i<ds.length:=by lia
   rw[List.drop_eq_getElem_cons h];exact⟨f _ _ _ p,hs i ds[i] a mh _ (by simp[h]) p λc mh' l =>ih (i+1) (by lia) c mh' l⟩
 have:=go ds.length 0 (by simp) a mh h0;simpa using this
theorem rG{g:WG}{t:WT}{w:WE}{ρe:dX}{St:MH->Prop}{Q:DK}(e:Nat->List D->MH->Prop)(ds:List D)(f:∀i a mh,e i a mh->St mh)
  (hs:∀i d a mh (N:List D->MH->Prop),ds[i]? =some d->e i a mh->(∀c mh',e (i+1) c mh' ->N c mh')->g d ρe λh=>t h mh λb j=>if b=true then w h j λy m=>N (a++[y]) m else N a j)
  (hd:∀a mh,e ds.length a mh->Q (.ref mh.length) (mh++[.lst a]))  (h0:e 0 [] mh):eS g t w ρe St Q ds [] mh:=by
 have go:∀(k i:Nat),i+k=ds.length->∀a mh,e i a mh->eS g t w ρe St Q (ds.drop i) a mh:=by
  intro k
  induction k with
  | zero=>
   intro i hi a mh p;have:i=ds.length:=by lia
   subst this;rw[List.drop_of_length_le (Nat.le_refl _)];exact⟨f _ _ _ p,hd a mh p⟩
  | succ k ih=>
   intro i hi a mh p;have l:i<ds.length:=by lia
   rw[List.drop_eq_getElem_cons l];exact⟨f _ _ _ p,hs i ds[i] a mh (λc mh' =>eS g t w ρe St Q (ds.drop (i+1)) c mh') (by simp[l]) p λc mh' n =>ih (i+1) (by lia) c mh' n⟩
 have:=go ds.length 0 (by simp) [] mh h0;simpa using this
theorem comp_map{g:WG}{w:WE}{ρe:dX}{St:MH->Prop}{Q:DK}(f:D->D):∀(ds a:List D) {mh:MH},St mh->(∀d∈ds,∀N:DK,N (f d) mh->g d ρe λb=>w b mh N)->Q (.ref mh.length) (mh++[.lst (a++ds.map f)])->eS g rV w ρe St Q ds a mh
 | [],a,mh,hst,_,q=>⟨hst,by simpa using q⟩
 | d::ds,a,mh,hst,h,q=>by
  refine⟨hst,?_⟩;simp only[N7,if_true];refine h d aB6 _ ?_;exact comp_map f ds (a++[f d]) hst (λe he=>h e (aB7 _ he)) (by simpa using q)
theorem eY{lo:Int}{n i:Nat}(h:(dF lo n)[i]? =some d):i<n/\d= .int (lo+i):=by
 simp only[dF,List.getElem?_map]at h;obtain⟨k,hk,rfl⟩:=aBm.mp h;obtain⟨hi,rfl⟩:=aB2.mp hk;simp at hi;exact⟨hi,by simp⟩
@[simp] theorem YB (lo:Int)(n:Nat):(dF lo n).length=n:=by simp[dF]
def BC(mh:MH)(b:Nat):Prop:=∃c m:Int,mh[b]? =some (.lst [.int c,.int m])/\0<=c/\0<=m/\m<2147483629
variable{b:Nat}
theorem BC.lt(h:BC mh b):b<mh.length:=let ⟨_,_,e,_⟩:=h;(aB2.mp e).1
def c5(mh:MH)(b:Nat)(mh' :MH):Prop:=BC mh' b/\∃o,mh' =mh.set b o
theorem c5.len{mh mh' :MH}(h:c5 mh b mh'):mh'.length=mh.length:=by obtain⟨_,o,rfl⟩:=h;simp
theorem c5.trans{mh a c:MH}(h:c5 mh b a)(h' :c5 a b c):c5 mh b c:=by
 obtain⟨_,o,rfl⟩:=h;obtain⟨d,e,rfl⟩:=h';exact⟨d,e,by simp⟩
theorem c5.refl(h:BC mh b):c5 mh b mh:=by
 refine⟨h,mh[b]'h.lt,?_⟩;simp
theorem c5.other{mh mh' :MH}(h:c5 mh b mh')(a:n≠b):mh'[n]? =mh[n]? :=by
 obtain⟨_,o,rfl⟩:=h;exact List.getElem?_set_ne (aC1 a)
theorem BC.GH(h:BC mh b)(k:Nat):∀o,mh[b]? =some o->GH k o=true:=by
 obtain⟨c,m,e,_⟩:=h;intro o ho;rw[e]at ho;cases ho;rfl
theorem c5.YE{mh mh' :MH}(h:c5 mh b mh')(ok:j4 mh):j4 mh' :=by
 have d:=h.1;obtain⟨_,o,e⟩:=h;intro x f;have g:mh'.length=mh.length:=by rw[e];simp
 obtain⟨n,c⟩:=aC3.mp f;by_cases a:n=b
 ·subst a;exact d.GH _ x c
 ·rw[e,List.getElem?_set_ne (Ne.symm a)]at c;rw[g];exact ok x (aB8 c)
def eO:OA:=λds mh Q=>∃b a,ds=[.ref b,.int a]/\1<=a/\a<=1073741789/\BC mh b/\∀r mh',0<=r->r<a->c5 mh b mh' ->Q (.int r) mh'
def xJ:OA:=λds mh Q=>∃(ns:List Int) (a:Int),ds=[.fl (ns.map .int),.int a]/\ns.length<=63/\0<=a/\a<=100/\∀mh',(∃o,mh' =mh++[o])->BC mh' mh.length->Q (.ref mh.length) mh'
def e9(K:aEd)(x:Str)(st:Stmt):Prop:=∃f oc od kV doc pm an a ct sl,PySem.W.nsIn K mainGlobals x=some (some (.ref f))/\
 K.lookup f=some ⟨oc,od,.func (PySem.W.fnOf x x (c8 st) (bQ st) (aC st) .none kV doc pm an a ct),sl⟩/\PySem.W.codeIn K a x=true/\PySem.W.keepIn K (.ref f)=true
variable{st:Stmt}
theorem YK{f:Addr}{oc:Value}{od an:Option Addr}{sl:Array (Option Value)}{kV doc pm b ct:Value}(a:PySem.W.nsIn K mainGlobals x=some (some (.ref f)))
  (l:K.lookup f=some ⟨oc,od,.func (PySem.W.fnOf x x (c8 st) (bQ st) (aC st) .none kV doc pm an b ct),sl⟩) (c:PySem.W.codeIn K b x=true) (k:PySem.W.keepIn K (.ref f)=true):e9 K x st:=⟨f,oc,od,kV,doc,pm,an,b,ct,sl,a,l,c,k⟩
def b8(x:Str)(st:Stmt)(ps:List Str):Prop:=∀(kV doc pm:Value) (an:Option Addr) (cdv ct:Value) (us:List Value),us.length=ps.length->bindArgs (PySem.W.fnOf x x (c8 st) (bQ st) (aC st) .none kV doc pm an cdv ct) ⟨us,[]⟩=pure (ps.zip us)
section
variable {P:Program}{w:World}{K:aEd}{mg:aEg}{base:Heap}{h:Heap}
theorem TL{k:Nat}{s:OA}{wB:WS}(e:e9 K x st)(KX:K.In h)(G:h.Ns mainGlobals mg)(g:b8 x st ps)(S:aZ N ps (aC st))(len:∀ds mh R,s ds mh R->ds.length=ps.length)
  (i:∀(f:Addr) (cdv:Value) (A:Around) (outer:List Env) (s:Shared) (H:Hp) (E:XK),eE k (A.deeper (envOfC x (aC st) s.heap.objs.size f cdv))->
   kL (pE wG P w K mg base N x (aC st) f cdv A outer s H E).GJ (bQ st) wB)
  (j:∀ds mh R,j4 mh->cC mh.length ds=true->s ds mh R->wB {nx:=λ_ b=>Out mh.length .bF b R,rt:=λd b=>Out mh.length d b R} (aK N ds) mh):Fn P w K mg base (k+1) x ps s:=by
 obtain⟨f,oc,od,kV,doc,pm,an,n,ct,sl,a,l,c,kp⟩:=e;have F:=vJ (st:=st) l c kp;exact⟨f,_,XE F S len (λcdv A outer s H E m=>i f cdv A outer s H E m) j,aE9 KX G a,kp,F.binds g⟩
theorem IE{k:Nat}(b:e9 K x st)(KX:K.In h)(G:h.Ns mainGlobals mg)(d:b8 x st ps):Fn P w K mg base k x ps (λ_ _ _=>False):=by
 obtain⟨f,oc,od,kV,doc,pm,an,e,ct,sl,a,l,c,kp⟩:=b;have F:=vJ (st:=st) l c kp;refine⟨f,_,⟨λvs H Q E q=>?_,λA outer s H args us vs Q E _ _ _ _ q=>?_⟩,aE9 KX G a,kp,F.binds d⟩
 ·obtain⟨_,_,_,_,_,_,q,_⟩:=q;exact q.elim
 ·obtain⟨_,_,_,_,_,_,q,_⟩:=q;exact q.elim
end
def rX:OA:=λds mh Q=>∃ns:List Int,ds=[.fl (ns.map .int)]/\ns.length<=63/\∀mh',Q (.bl true) mh'
theorem qW{K:aEd}{μ:List Addr}{H:Hp}:∀ns:List Int,IsL K μ H (ns.map .int) (ns.map .int)
 | []=>by simp[IsL]
 | n::ns=>by simp only[List.map_cons];unfold IsL;exact⟨_,_,rfl,.int,qW ns⟩
theorem SA{ns:List Int}(b:ns.length<=63)(c:NR H)(hS:nV K H a (ns.map V.int)):JK K rX [.ref a] H (λv _=>v= .bl true) λ_ _ _=>False:=by
 have e:JP K H a (ns.map V.int):=by
  rcases hS with (hS | hS) | hS
  ·rcases c a with z | ⟨o,xs,z⟩
   ·rw[hS]at z;cases z
   ·rw[hS]at z;cases z
  ·exact .inl hS
  ·exact .inr hS
 refine⟨[],[],[.fl (ns.map .int)],λd _=>d= .bl true,⟨rfl,List.nodup_nil,λn a o f=>by simp at f⟩,?_,⟨ns,rfl,b,λ_=>rfl⟩,λd mh' q μ' v H' _ _ I=>?_⟩
 ·refine kA ?_;unfold Is;exact⟨a,_,rfl,e,qW ns⟩
 ·subst q;exact tG I
theorem walkD{l:PySem.W.OpenLaw}{k:Nat}{q:Program}{loose:List Str}{XP:(aEg)->Heap->Prop}{c:World->Heap->Prop}{d:DefRec}{K:Params->aEd}(g:l.most=some 63)(b:d.params.defaults=[])(i:eE k callerA)
  (j:∀(w:World) (h:Heap),c w h->(K w.params).In h)
  (F:∀(w:World) (mg:aEg) (e:Addr) (h:Heap),(K w.params).In h->h.Ns mainGlobals mg->mg d.name=some (.ref e)->
   ∃fd:FuncData,(∀(s:Shared) (u:Value),BindsTo s fd ⟨[u],[]⟩ [(x,u)])/\∀base:Heap,(K w.params).In base->base.Ns mainGlobals mg->hU l.prog w (K w.params) mg base wG k e fd [x] (JK (K w.params) rX)):
  PySem.W.WalkO q loose XP c l.row.toRowW d [] (λf vs=>PySem.call f vs):=
 L2.JW (n:=63) (k:=k) (x:=x) (CX:=λ_=>wG) (sp:=λw=>JK (K w.params) rX) g (by decide) b i j F (λ_ _ a ns m o p=>SA m o p) λ_ _ _ _ _ z=>z
theorem SE{k:Nat}{g:Addr}(KX:K.In h)(G:h.Ns mainGlobals mg)(i:mg "law"=some (.ref g))(j:e9 K "law" st)(S:aZ N [x] (aC st))(m:b8 "law" st [x])
  (n:∀base:Heap,∃wB:WS,(∀(f:Addr) (cdv:Value) (A:Around) (outer:List Env) (s:Shared) (H:Hp) (E:XK),eE k (A.deeper (envOfC "law" (aC st) s.heap.objs.size f cdv))->
   kL (pE wG P w K mg base N "law" (aC st) f cdv A outer s H E).GJ (bQ st) wB)/\
   ∀ds mh R,j4 mh->cC mh.length ds=true->rX ds mh R->wB {nx:=λ_ b=>Out mh.length .bF b R,rt:=λd b=>Out mh.length d b R} (aK N ds) mh):
  ∃fd:FuncData,(∀(s:Shared) (u:Value),BindsTo s fd ⟨[u],[]⟩ [(x,u)])/\∀base:Heap,hU P w K mg base wG (k+1) g fd [x] (JK K rX):=by
 obtain⟨f,oc,od,kV,doc,pm,an,o,ct,sl,a,l,c,kp⟩:=j;have e:=i.symm.trans (aE9 KX G a);cases e;have F:=vJ (st:=st) l c kp;refine⟨_,λs u=>.of_eq (m kV doc pm an o ct [u] rfl),λbase=>?_⟩;obtain⟨wB,p,q⟩:=n base;exact XE F S (λds mh R hs=>by obtain⟨ns,rfl,_⟩:=hs;rfl) (λcdv A outer s H E r=>p g cdv A outer s H E r) q
theorem bl_mk(KX:K.In h)(G:h.Ns mainGlobals mg)
  (l:PySem.W.nsIn K mainGlobals "len"=some none) (m:PySem.W.nsIn K mainGlobals "range"=some none) (n:PySem.W.nsIn K mainGlobals "zip"=some none) (o:PySem.W.nsIn K mainGlobals "all"=some none) (p:PySem.W.nsIn K mainGlobals "any"=some none) (q:PySem.W.nsIn K mainGlobals "abs"=some none) (r:PySem.W.nsIn K mainGlobals "min"=some none) (s:PySem.W.nsIn K mainGlobals "max"=some none) (t:PySem.W.nsIn K mainGlobals "isinstance"=some none) (a:PySem.W.nsIn K mainGlobals "sorted"=some none) (b:PySem.W.nsIn K mainGlobals "int"=some none) (c:PySem.W.nsIn K mainGlobals "str"=some none) (d:PySem.W.nsIn K mainGlobals "bool"=some none) (e:PySem.W.nsIn K mainGlobals "list"=some none) (f:PySem.W.nsIn K mainGlobals "tuple"=some none) (g:PySem.W.nsIn K mainGlobals "set"=some none) (i:PySem.W.nsIn K mainGlobals "dict"=some none) (j:PySem.W.nsIn K mainGlobals "sum"=some none) (k:PySem.W.nsIn K mainGlobals "enumerate"=some none):Bl mg:=
 ⟨aBe KX G l,aBe KX G m,aBe KX G n,aBe KX G o,aBe KX G p,aBe KX G q,aBe KX G r,aBe KX G s,aBe KX G t,aBe KX G a,aBe KX G b,aBe KX G c,aBe KX G d,aBe KX G e,aBe KX G f,aBe KX G g,aBe KX G i,aBe KX G j,aBe KX G k⟩
theorem xD{K:aEd}{μ:List Addr}{H:Hp}:∀(a:List Str) {vs:List V} {us:List Value},IsL K μ H (a.map .str) vs->Vals vs us->StrsAre us a
 | [],vs,us,l,r=>by simp only[List.map_nil]at l;unfold IsL at l;subst l;cases r;exact .nil
 | y::a,vs,us,l,r=>by
  simp only[List.map_cons]at l;unfold IsL at l;obtain⟨v,d,rfl,i,l⟩:=l;cases cD i
  cases r with
  | cons b c=>
   obtain⟨t,rfl⟩:=b;exact .cons _ _ (xD a l c)
section
variable {X:Cx}
def GV:OM:=λx ds mh Q=>∃a n b,x= .str a/\ds=[.ref n]/\mh[n]? =some (.lst (b.map .str))/\(b.map λy=>y.length).sum+b.length*a.length<=16777216/\Q (.str (Txt.join a b)) mh
theorem LL:YQ X "str.join" (liftM X.K GV):=by
 intro pins s σ H x xs v us Q I c d q;obtain⟨μ,mh,dx,ds,R,b,f,g,⟨h,n,i,rfl,rfl,e,hz,q⟩,F⟩:=q;obtain⟨z,rfl,j⟩:=eP g;obtain⟨a,vs,rfl,r,hv,l⟩:=iG b j e;cases cD f;obtain⟨t,rfl⟩:=c;obtain⟨u,rfl,m⟩:=d.one;cases m;obtain⟨aH,o,p,_⟩:=I.list (.of hv)
 exact join_list p.isList (by simpa using xD i l o) hz λt' k=>⟨.str _,H,I.tok _,⟨_,rfl⟩,F.here b q .str⟩
end
theorem gX{a b:Key}(h:aV a=aV b):a=b:=by
 cases a <;> cases b <;> simp[aV]at h <;> rw[h]
theorem tD:∀{a b:List Key},a.map aV=b.map aV->a=b
 | [],[],_=>rfl
 | [],_::_,h=>by simp at h
 | _::_,[],h=>by simp at h
 | x::xs,y::ys,h=>by
  simp only[List.map_cons,List.cons.injEq]at h;rw[gX h.1,tD h.2]
theorem yD{a b:List Key}(h:D.tup (a.map aV)=D.tup (b.map aV)):a=b:=tD (by injection h)
open Classical in
noncomputable def putD(kvs:List (D×D))(k v:D):List (D×D):=if ∃p∈kvs,p.1=k then kvs.map (λp=>if p.1=k then (p.1,v) else p) else kvs++[(k,v)]
variable{kvs:List (D×D)}
theorem qL{k v:D}{p:D×D}(h:p∈putD kvs k v):p∈kvs\/(p.1=k/\p.2=v):=by
 unfold putD at h;split at h
 ·obtain⟨q,a,e⟩:=aBd.mp h;split at e
  ·rename_i hk;subst e;exact .inr ⟨hk,rfl⟩
  ·subst e;exact .inl a
 ·rcases aBn.mp h with h | h
  ·exact .inl h
  ·simp at h;subst h;exact .inr ⟨rfl,rfl⟩
theorem eC(kvs:List (D×D))(k v:D):(putD kvs k v).length<=kvs.length+1:=by
 unfold putD;split <;> simp
open Classical in
theorem DD(kvs:List (D×D))(k v:D):(putD kvs k v).map (·.1)=if (∃p∈kvs,p.1=k) then kvs.map (·.1) else kvs.map (·.1)++[k]:=by
 unfold putD;split
 ·rw[List.map_map];apply aDz;intro p _;simp only[Function.comp];split <;> rfl
 ·simp
section
variable {K:aEd}{μ:List Addr}{H:Hp}{κ:Type}[DecidableEq κ]{f:κ->D}
theorem xK(c:∀{a b},f a=f b->a=b)(k:κ){d:D}{v:V}(hd:Is K μ H d v):∀(kvs:List (D×D)) (kk:List (κ×V)),kvs.map (·.1)=kk.map (λp=>f p.1)->IsL K μ H (kvs.map (·.2)) (kk.map (·.2))->
  IsL K μ H ((open Classical in kvs.map λp=>if p.1=f k then (p.1,d) else p).map (·.2)) ((kk.map λp=>if p.1=k then (p.1,v) else p).map (·.2))
 | [],[],_,_=>by simp[IsL]
 | [],_::_,h,_=>by simp at h
 | _::_,[],h,_=>by simp at h
 | p::kvs,q::kk,h,l=>by
  simp only[List.map_cons,List.cons.injEq]at h;simp only[List.map_cons]at l⊢;unfold IsL at l⊢;obtain⟨w,r,e,i,l⟩:=l;simp only[List.cons.injEq]at e;obtain⟨rfl,rfl⟩:=e;have g:=xK c k hd kvs kk h.2 l;by_cases hk:q.1=k
  ·have:p.1=f k:=by rw[h.1,hk]
   simp only[if_pos hk,if_pos this];exact⟨_,_,rfl,hd,g⟩
  ·have:¬p.1=f k:=λz=>hk (c (h.1.symm.trans z));simp only[if_neg hk,if_neg this];exact⟨_,_,rfl,i,g⟩
theorem m7(m:∀{a b},f a=f b->a=b)(k:κ){v:V}(hd:Is K μ H d v){kk:List (κ×V)}(h:kvs.map (·.1)=kk.map (λp=>f p.1))(l:IsL K μ H (kvs.map (·.2)) (kk.map (·.2))):
  (putD kvs (f k) d).map (·.1)=(putK kk k v).map (λp=>f p.1)/\IsL K μ H ((putD kvs (f k) d).map (·.2)) ((putK kk k v).map (·.2)):=by
 have same:(∃p∈kvs,p.1=f k)↔(kk.any λn=>decide (n.1=k))=true:=by
  rw[List.any_eq_true];constructor
  ·rintro⟨p,i,e⟩;have:f k∈kk.map (λp=>f p.1):=by rw[<-h,<-e];exact aBd.mpr ⟨p,i,rfl⟩
   obtain⟨q,j,g⟩:=aBd.mp this;exact⟨q,j,by simpa using m g⟩
  ·rintro⟨q,j,e⟩;have:f q.1∈kvs.map (·.1):=by rw[h];exact aBd.mpr ⟨q,j,rfl⟩
   obtain⟨p,i,g⟩:=aBd.mp this;exact⟨p,i,by rw[g];simp at e;rw[e]⟩
 unfold putD putK;by_cases c:∃p∈kvs,p.1=f k
 ·rw[if_pos c,if_pos (same.mp c)];refine⟨?_,xK m k hd kvs kk h l⟩
  have o:(open Classical in kvs.map λp=>if p.1=f k then (p.1,d) else p).map (·.1)=kvs.map (·.1):=by
   rw[List.map_map];apply aDz;intro p _;simp only[Function.comp];split <;> rfl
  have g:(kk.map λp=>if p.1=k then (p.1,v) else p).map (λp=>f p.1)=kk.map (λp=>f p.1):=by
   rw[List.map_map];apply aDz;intro p _;simp only[Function.comp];split <;> rfl
  rw[o,g,h]
 ·rw[if_neg c,if_neg (λz=>c (same.mpr z))];refine⟨by simp[h],?_⟩;simp only[List.map_append,List.map_cons,List.map_nil];exact iJ l (kA hd)
end
theorem pS{o:MO}{ob:HO}(R:Rep K μ mh H)(h:μ[n]? =some a)(i:A9 (some ob))(l:j3 K μ (upd H a ob) o a):Rep K μ (mh.set n o) (upd H a ob):=by
 have P:aG μ H μ (upd H a ob):=aG.set R h;refine⟨by simp[R.len],R.nd,λm b f d e=>?_⟩;by_cases c:m=n
 ·subst c;rw[h]at d;cases d;have g:m<mh.length:=by rw[<-R.len];exact(aB2.mp h).1
  rw[List.getElem?_set_self g]at e;cases e;exact l
 ·rw[List.getElem?_set_ne (Ne.symm c)]at e;exact(R.obj m b f d e).mono R P (aN λz=>c (sY R.nd d (by rw[z];exact h)))
theorem Rep.WB{q:Addr}{o:MO}{ob:HO}(R:Rep K μ mh H)(a:H q=none)(l:j3 K (μ++[q]) (upd H q ob) o q):Rep K (μ++[q]) (mh++[o]) (upd H q ob):=by
 have b:Rep K μ mh (upd H q ob):=R.new a;exact b.EO (λz=>R.ne a z rfl) l
def mR(t:Bool):WE:=λ_ mh Q=>Q (.ref mh.length) (mh++[.dic t []])
section
variable {X:Cx}{pos:Pos}
theorem MB:LE X (.Dict [] [] pos) (mR false):=PE.imp F9 λσ H Q h=>by
 obtain⟨μ,c,mh,R,a,E,h,F⟩:=h;intro p b;exact F _ _ h (μ++[p]) _ _ (aG.DT a b) (a.WB b ⟨[],⟨[],aQ,rfl,rfl⟩,by simp[IsL]⟩) (by unfold Is;exact⟨p,by rw[<-a.len];simp,rfl⟩)
theorem MA:LE X (.Dict [] [] pos) (mR true):=PE.imp F8 λσ H Q h=>by
 obtain⟨μ,c,mh,R,a,E,h,F⟩:=h;intro p b;exact F _ _ h (μ++[p]) _ _ (aG.DT a b) (a.WB b ⟨[],⟨[],aQ,rfl,rfl⟩,by simp[IsL]⟩) (by unfold Is;exact⟨p,by rw[<-a.len];simp,rfl⟩)
end
theorem eZ{k:Key}{v:V}(h:Is K μ H (aV k) v):v=kV k:=by
 cases k <;> (simp only[aV]at h;unfold Is at h;exact h)
theorem gY{K:aEd}{μ:List Addr}{H:Hp}:∀{ks:List Key} {vs:List V},IsL K μ H (ks.map aV) vs->vs=ks.map kV
 | [],vs,h=>by simp only[List.map_nil]at h;unfold IsL at h;exact h
 | k::ks,vs,h=>by
  simp only[List.map_cons]at h;unfold IsL at h;obtain⟨v,r,rfl,i,l⟩:=h;rw[eZ i,gY l];rfl
theorem gC{v:V}{t:Bool}(R:Rep K μ mh H)(h:Is K μ H (.ref n) v)(e:mh[n]? =some (.dic t kvs)):∃a vs,v= .ref a/\μ[n]? =some a/\o5 (H a) (kvs.map (·.1)) vs t/\IsL K μ H (kvs.map (·.2)) vs:=by
 obtain⟨a,q,rfl⟩:=fG h;obtain⟨vs,hv,l⟩:=R.obj n a _ q e;exact⟨a,vs,rfl,q,hv,l⟩
def OD(o k d:D)(mh:MH)(Q:MH->Prop):Prop:=∃n kvs key,o= .ref n/\mh[n]? =some (.dic false kvs)/\k=aV key/\kvs.length<sizeLine/\Q (mh.set n (.dic false (putD kvs k d)))
def pZ(w g wi:WE):WS:=λE a mh=>w a mh λd b=>g a b λo c=>wi a c λi e=>OD o i d e λf=>E.nx a f
def OC(o:D)(ks:List D)(d:D)(mh:MH)(Q:MH->Prop):Prop:=∃(n:Nat) (kvs:List (D×D)) (a:List Key),o= .ref n/\mh[n]? =some (.dic true kvs)/\ks=a.map aV/\ks.length<=sizeLine/\kvs.length<sizeLine/\Q (mh.set n (.dic true (putD kvs (.tup ks) d)))
def BI(w g:WE)(wi:WA):WS:=λE a mh=>w a mh λd b=>g a b λo c=>wi a c λks e=>OC o ks d e λf=>E.nx a f
section
variable {X:Cx}{pos pos' lS:Pos}{o i e:Expr}{es:List Expr}{w wo wi:WE}{wa:WA}
theorem LZ(Y:X.A.units+64<cLine)(he:LE X e w)(ho:LE X o wo)(hi:LE X i wi)(hs:swapsWith e (some (.Subscript o i pos')) pos.line X.env=pure false:=by rfl):LS X (.Assign [.Subscript o i pos'] e pos) (pZ w wo wi):=
 PS.imp (uL (by lia) ho hi he hs) λD σ H h=>by
  obtain⟨μ,g,mh,E,R,En,h,F⟩:=h;refine⟨μ,g,mh,_,R,En,h,λd m q p v Z r B J=>?_⟩;refine⟨p,g,m,_,B,En.mono R r,q,λL s M t vo H2 u R2 N=>?_⟩;refine⟨t,g,s,_,R2,En.mono R (r.trans u),M,λdi x O b vi y z j P=>?_⟩;obtain⟨n,kvs,key,rfl,Q,rfl,hz,S⟩:=O;obtain⟨a,vs,rfl,C,⟨kk,hv,G,rfl⟩,l⟩:=gC j (Is.mono R2 z _ _ N) Q;cases eZ P;have T:=Is.mono B (u.trans z) d v J;have I:aG b y b (upd y a (.dK (putK kk key v))):=aG.set j C;have ln:kk.length=kvs.length:=by have:=aC0 List.length G;simp at this;lia
  obtain⟨U,V⟩:=m7 (f:=aV) gX key T G l;have W:Rep X.K b (x.set n (.dic false (putD kvs (aV key) d))) (upd y a (.dK (putK kk key v))):=pS j C (by trivial) ⟨_,⟨_,aQ,U,rfl⟩,V.mono j I⟩;have c:=((r.trans u).trans z).trans I;exact⟨a,_,rfl,.k hv (by lia),F.nx g _ S b σ _ c W (En.mono R c)⟩
theorem LY{x1}(hu:X.A.units+64<cLine)(he:LE X e w)(ho:LE X o wo)(hi:LA X es wa)(hs:swapsWith e (some (.Subscript o (.Tuple es x1 lS) pos')) pos.line X.env=pure false:=by rfl):LS X (.Assign [.Subscript o (.Tuple es x1 lS) pos'] e pos) (BI w wo wa):=
 PS.imp (uL (by lia) ho (F4 hi) he hs) λD σ H h=>by
  obtain⟨μ,r,mh,E,R,En,h,F⟩:=h;refine⟨μ,r,mh,_,R,En,h,λd s q u v H1 x G O=>?_⟩;refine⟨u,r,s,_,G,En.mono R x,q,λP y Q z vo H2 B R2 S=>?_⟩;refine⟨z,r,y,_,R2,En.mono R (x.trans B),Q,λks k T c U j C I V=>?_⟩;obtain⟨n,kvs,b,rfl,W,rfl,hk,hz,Y⟩:=T;have Z:=gY V;subst Z;refine⟨by simpa using hk,λp J=>?_⟩;have i :aG c j c (upd j p (.tup (b.map kV))):=aG.new I J;have g :Rep X.K c k (upd j p (.tup (b.map kV))):=I.new J;obtain⟨a,vs,rfl,L,⟨kk,hv,M,rfl⟩,l⟩:=gC g (Is.mono R2 (C.trans i) _ _ S) W;have Iv:=Is.mono G (B.trans (C.trans i)) d v O;have N:aG c (upd j p (.tup (b.map kV))) c (upd (upd j p (.tup (b.map kV))) a (.dT (putK kk b v))):=aG.set g L;have ln:kk.length=kvs.length:=by have:=aC0 List.length M;simp at this;lia
  obtain⟨p1,p2⟩:=m7 (f:=λks:List Key=>D3.D.tup (ks.map aV)) yD b Iv M l;have R4:Rep X.K c (k.set n (.dic true (putD kvs (.tup (b.map aV)) d))) (upd (upd j p (.tup (b.map kV))) a (.dT (putK kk b v))):=pS g L (by trivial) ⟨_,⟨_,aQ,p1,rfl⟩,p2.mono g N⟩;have m:=((x.trans B).trans (C.trans i)).trans N;exact⟨a,_,rfl,.t hv aQ (by lia),F.nx r _ Y c σ _ m R4 (En.mono R m)⟩
end
def fJ(h:Heap)(d:Addr)(es:Array DictEntry)(ep:Nat):Prop:=∃o,h.get? d=some o/\o.ExactDict/\o.data= .dict es ep
variable{es:Array DictEntry}
theorem fJ.keep{h h' :Heap}{d:Addr}{ep:Nat}(x:fJ h d es ep)(k:∀o,h.get? d=some o->h'.get? d=some o):fJ h' d es ep:=let ⟨o,a,b,c⟩:=x;⟨o,k o a,b,c⟩
section
variable {prog:Program}{w:World}{A:Around}{E:aEe}{s:Shared}{it d:Addr}{i ep:Nat}{es:Array DictEntry}
variable{Q:Option Value->Shared->Prop}
theorem xO{e:DictEntry}(b:Heap.IsKeyIter s.heap it d i es.size ep)(m:fJ s.heap d es ep)(n:es[i]? =some e)
  (q:∀h',Heap.IsKeyIter h' it d (i+1) es.size ep->Heap.SameBut it s.heap h' ->Q (some e.key) {s with heap:=h'}):wpAny (model prog w) A (pyNext (.ref it)) Q E s:=by
 obtain⟨o,ho,h,hd⟩:=id b;obtain⟨od,f,p,g⟩:=id m;have ht:=b.typeIs;refine aAz (aC7 (aBg ht aC4 (aBb aC4 ht F.entry_dict_keyiterator_next ?_ (F.args_dict_keyiterator_next_1 _))));refine aAz (aB0 ?_);refine aAz (aAz (aAz (aCf ht (aB0 ?_))));refine aAz (aD7 ho hd ?_);show wpAny _ _ (if (Value.ref d==Value.none)=true then _ else _) _ _ _;rw[if_neg (show ¬((Value.ref d==Value.none)=true) from Bool.false_ne_true)];refine aAz (aB0 ?_);refine aAz (wpAny_dictEntries f g ?_);rw[if_neg (show ¬(((es.size:Int) !=(es.size:Int))=true) by simp)];refine aAz (aB0 ?_);refine aAz (wpAny_dictEpoch f g ?_);rw[if_neg (show ¬(((ep:Int) !=(ep:Int))=true) by simp)];refine aB0 ?_
 have r:(if (i:Int)<0 then none else es[(i:Int).toNat]?)=some e:=by
  rw[if_neg (by lia)];simpa using n
 show wpAny _ _ (match (if (i:Int)<0 then none else es[(i:Int).toNat]?) with | some e=>_ | none=>_) _ _ _;rw[r];refine aAz (aAz (aCf ht (aB0 ?_)));refine aAz (wpAny_isOneOf_keyiter ht ?_);refine aAz (aE2 ho hd (by show 1<4;lia) ?_)
 have j:(s.heap.update it (Obj.mapFields λx=>x.setIfInBounds 1 (rawInt ((i:Int)+1)))).get? it=some (Obj.mapFields (λx=>x.setIfInBounds 1 (rawInt ((i:Int)+1))) o):=by
  refine aCo _ ho ?_;obtain⟨c,k,l,sl⟩:=o;simp only at hd h;subst hd;rfl
 have a:Heap.IsKeyIter (s.heap.update it (Obj.mapFields λx=>x.setIfInBounds 1 (rawInt ((i:Int)+1)))) it d (i+1) es.size ep:=by
  refine⟨_,j,?_,?_⟩
  ·obtain⟨c,k,l,sl⟩:=o;simp only at hd h;subst hd;exact h
  ·obtain⟨c,k,l,sl⟩:=o;simp only at hd h;subst hd;rfl
 refine aAz (aBf (aAz (wpAny_isOneOf_keyiter (Heap.IsKeyIter.typeIs (s:={s with heap:=s.heap.update it (Obj.mapFields λx=>x.setIfInBounds 1 (rawInt ((i:Int)+1)))}) a) (aB0 (aB0 ⟨_,rfl,aB0 (q _ a (aBp _ _ _))⟩)))))
theorem BZ(g:A.handled=none)(a:Heap.IsKeyIter s.heap it d i es.size ep)(h:fJ s.heap d es ep)(j:es[i]? =none)
  (q:∀h',Heap.ExtBut it s.heap h' ->Q none {s with heap:=h'}):wpAny (model prog w) A (pyNext (.ref it)) Q E s:=by
 obtain⟨o,ho,n,hd⟩:=id a;obtain⟨od,c,k,f⟩:=id h;have ht:=a.typeIs;refine aAz (aC7 (aBg ht aC4 (aBb aC4 ht F.entry_dict_keyiterator_next ?_ (F.args_dict_keyiterator_next_1 _))));refine aAz (aB0 ?_);refine aAz (aAz (aAz (aCf ht (aB0 ?_))));refine aAz (aD7 ho hd ?_);show wpAny _ _ (if (Value.ref d==Value.none)=true then _ else _) _ _ _;rw[if_neg (show ¬((Value.ref d==Value.none)=true) from Bool.false_ne_true)];refine aAz (aB0 ?_);refine aAz (wpAny_dictEntries c f ?_);rw[if_neg (show ¬(((es.size:Int) !=(es.size:Int))=true) by simp)];refine aAz (aB0 ?_);refine aAz (wpAny_dictEpoch c f ?_);rw[if_neg (show ¬(((ep:Int) !=(ep:Int))=true) by simp)];refine aB0 ?_
 have l:(if (i:Int)<0 then none else es[(i:Int).toNat]?)=none:=by
  rw[if_neg (by lia)];simpa using j
 show wpAny _ _ (match (if (i:Int)<0 then none else es[(i:Int).toNat]?) with | some e=>_ | none=>_) _ _ _;rw[l];refine aAz (aAz (aCf ht (aB0 ?_)));refine aAz (aE2 ho hd (by show 0<4;lia) ?_);refine aAz (aAz (aBi (aAz (aE7 (show firstArgMember (Value.type "StopIteration") []=pure _ from rfl) (aBi ?_)))));refine aAz (wpAny_handled ?_);rw[show A.in1.handled=none from g];refine wpAny_throw (aAz (aCk (T:= "StopIteration") (b:=true) ⟨_,aB4 _ rfl,rfl⟩ rfl (aB0 (q _ ?_))));intro b u m e;refine aB1 _ (aB1 _ ?_);rw[Heap.get?_update_ne _ _ _ _ m];exact e
end
theorem fJ.typeIs{s:Shared}{d:Addr}{ep:Nat}(x:fJ s.heap d es ep):s.TypeIs (.ref d) "dict":=let ⟨o,a,b,c⟩:=x;⟨o,a,b.1⟩
section
variable {prog:Program}{w:World}{A:Around}{E:aEe}{s:Shared}{d:Addr}{ep:Nat}{es:Array DictEntry}
theorem xN{Q:aEe}(hd:(d==sysModules)=false)(b:fJ s.heap d es ep)
  (q:Q (.ref s.heap.objs.size) {s with heap:=s.heap.push {cls:= .type "dict_keyiterator",data:= .fields #[.ref d,.int 0 0,.int es.size 0,.int ep 0]}}):wpAny (model prog w) A (pyIter (.ref d)) Q E s:=by
 obtain⟨o,ho,c,a⟩:=id b;refine aD4 b.typeIs F.slot_dict_iter (aBb F.slot_dict_iter b.typeIs F.entry_dict_iter ?_ (F.args_dict_iter_1 _));refine aAz (aAz (wpAny_notOrdered_dict b.typeIs (aAz (aB0 (aB0 ?_)))));refine aAz (aB0 ?_);refine aAz (m:=Builtin.Dict.showsAll d) ?_;show wpAny _ _ (if (d==sysModules)=true then _ else _) _ _ _;rw[hd,if_neg Bool.false_ne_true];refine aB0 (aAz (wpAny_dictEntries ho a (aAz (wpAny_dictEpoch ho a (aAz (aBi (aB0 ⟨_,rfl,"dict_keyiterator",_,⟨_,aB4 _ rfl,rfl⟩,aC4.lookup,q⟩)))))))
theorem KI(hd:(d==sysModules)=false):W.KdlSrc prog w "dict" d d es.size (λi v=>∃e,es[i]? =some e/\v=e.key) λh=>fJ h d es ep where
 type:=λs x=>x.typeIs
 there:=λh x=>let ⟨o,a,_⟩:=x;⟨aB5 a,aB5 a⟩
 keep:=λh h' x k=>x.keep λo=>k d (.inl rfl) o
 notList:=rfl
 notTuple:=rfl
 hint:=λA E s Q x q=>W.kdl_hint_dict x.typeIs q
 iter:=λA s m x=>by
  refine⟨_,λi h=>Heap.IsKeyIter h s.heap.objs.size d i es.size ep/\fJ h d es ep,λE Q q=>xN hd x q,?_,?_⟩
  ·have g:d≠s.heap.objs.size:=by obtain⟨o,a,_⟩:=x;exact aB9 (aB5 a)
   refine⟨λb j=>by simp at j;simp[j],λi h h' st k=>⟨st.1.at λo=>k _ (by simp) o,st.2.keep λo=>k _ (by simp) o⟩,λi s1 Q E hi st q=>?_,λs1 Q E st q=>?_,λi s1 Q E st q=>wpAny_pyIter_keyiter st.1 q⟩
   ·have l:es[i]? =some es[i]:=by simp[hi]
    refine xO st.1 st.2 l λh' a b=>q _ h' s1.toks ⟨_,l,rfl⟩ ⟨a,st.2.keep λo e=>(b.2 d g).trans e⟩ λc o f e=>?_;simp at f;exact(b.2 c f).trans e
   ·refine BZ m st.1 st.2 (by simp) λh' a=>q h' s1.toks λc o f e=>?_;simp at f;exact a c o f e
  ·refine⟨⟨_,aB4 _ rfl,rfl,rfl⟩,x.keep λo e=>aB1 _ e⟩
end
end D3
namespace TS
open PySem PySem.Spec PyProof.Rows L2
section
variable {prog:Program}{w:World}{A:Around}{E:aEe}{s:Shared}{lt:Value×Value->Value×Value->Bool}{r d:Addr}{n:Nat}{P:Nat->Value->Prop}{OK:Heap->Prop}{T:String}
theorem FI(O:Wk lt){Q:aEe}(src:W.KdlSrc prog w T r d n P OK)(l:A.handled=none)(ok:OK s.heap)(p:n<64)
  (i:∀vs:List Value,ItemsOf P vs.toArray n->∀(c:Heap) (tk:Nat),(∀b o,s.heap.get? b=some o->c.get? b=some o)->∃κ,2<=vs.length->∀h' :Heap,(∀b o,c.get? b=some o->h'.get? b=some o)->
   BB prog w A.in1.in1 {s with heap:=h',toks:=tk} κ lt (pairsOf vs)/\∀g t,g κ {s with heap:=h',toks:=tk}->wpAny (model prog w) A.in1.in1 (keyKind' vs.toArray) g t {s with heap:=h',toks:=tk})
  (h:∀vs:List Value,ItemsOf P vs.toArray n->∀out:List Value,out.Perm vs->out.Pairwise (λx y=>lt (y,y) (x,x)=false)->∀(c f:Heap) (tk:Nat) (ep:Nat),(∀b o,s.heap.get? b=some o->c.get? b=some o)->(∀b o,c.get? b=some o->f.get? b=some o)->
   f.get? c.objs.size=some (seqObj "list" out.toArray ep)->Q (.ref c.objs.size) {s with heap:=f,toks:=tk}):
  wpAny (model prog w) A (call (.builtin "sorted") [.ref r]) Q E s:=by
 have D:sizeLine=16777216:=aBk;refine aDd kind_sorted plain_sorted entry_sorted (args_sorted1 _) ?_;unfold Builtin.«sorted»;refine aAz (m:=checkCount "sorted" 1 1 _) (aB0 ?_);refine aAz (W.kdu_collect src l ok (by lia) λc tk acc kept a=>?_);have hsz:acc.toList.length=n:=by have:=a.1;simpa using this
 obtain⟨κ,i⟩:=i acc.toList (by simpa using a) c tk kept;refine aAz (aE8 ?_ (by lia));have ob:(c.push (seqObj "list" acc.toList.toArray 0)).get? c.objs.size=some (seqObj "list" acc.toList.toArray 0):=aB4 _ rfl;refine aAz (aBf (aBb slot_list_sort ⟨_,ob,rfl⟩ entry_list_sort (zQ (κ:=κ) (s:={s with heap:=c.push (seqObj "list" acc.toList.toArray 0),toks:=tk}) O ob (by lia) (λf h' k=>?_) λout u v=>⟨_,rfl,aB0 ⟨_,rfl,?_⟩⟩) (args_list_sort _)))
 ·obtain⟨z,B⟩:=i f h' λb o e=>k b o (aB9 (aB5 e)) (aB1 _ e);exact⟨z,λg q=>B g _ q⟩
 ·obtain⟨ep,he⟩:=sortedHeap_at (out:=out.toArray) ob;refine h acc.toList (by simpa using a) out u v c _ tk ep kept (λb o e=>?_) he;have j:=aB5 e;have C:b<(c.push (seqObj "list" acc.toList.toArray 0)).objs.size:=by rw[size_push'];exact aBt j
  rw[sortedHeap_old (Nat.ne_of_lt j) C];exact aB1 _ e
end
end TS
namespace D3
open PySem PySem.Spec PyProof.Rows L2
def rP:OA:=λxs mh Q=>∃n t kvs,xs=[.ref n]/\mh[n]? =some (.dic t kvs)/\kvs.length<64/\EW (kvs.map (·.1))/\∀fs:List D,fs.Perm (kvs.map (·.1))->fs.Pairwise (λd e=>lx (enc e) (enc d)=false)->Q (.ref mh.length) (mh++[.lst fs])
variable{μ:List Addr}
theorem HI{K:aEd}{H:Hp}(k:Key):Is K μ H (aV k) (kV k):=by
 cases k <;> (simp only[aV];unfold Is;rfl)
theorem pR{K:aEd}{μ:List Addr}{H:Hp}:∀ks:List Key,IsL K μ H (ks.map aV) (ks.map kV)
 | []=>by simp[IsL]
 | k::ks=>by simp only[List.map_cons];unfold IsL;exact⟨_,_,rfl,HI k,pR ks⟩
theorem xM{P:Program}{w:World}{k:Key}{u:Value}(h:(aP P w).is k u=true):RelV (kV k) u:=by
 rcases bJ (k:=k) (v:=u) h with ⟨i,t,rfl,rfl⟩ | ⟨x,t,rfl,rfl⟩
 ·exact⟨t,rfl⟩
 ·exact⟨t,rfl⟩
theorem lU{P:Program}{w:World}:∀{es:List DictEntry} {vs:List (Key×Value)} {kk:List (Key×V)},Pairs (aP P w) es vs->KV kk vs->Vals (kk.map λp=>kV p.1) (es.map (·.key))
 | [],vs,kk,p,r=>by cases p;cases r;exact .nil
 | e::es,vs,kk,p,r=>by
  cases p with
  | cons a f b=>
   cases r with
   | cons c d=>
    simp only[List.map_cons];refine .cons ?_ (lU b d);rw[c.1];exact xM a
theorem tI{K:aEd}{μ:List Addr}{H:Hp}:∀kk:List (Key×V),IsL K μ H (kk.map λp=>aV p.1) (kk.map λp=>kV p.1)
 | []=>by simp[IsL]
 | p::kk=>by simp only[List.map_cons];unfold IsL;exact⟨_,_,rfl,HI _,tI kk⟩
theorem tH{K:aEd}{μ:List Addr}{H:Hp}:∀{kk:List (List Key×V)} {xs:List (List Key×Addr×Value)},KT H kk xs->IsL K μ H (kk.map λp=>.tup (p.1.map aV)) (xs.map λx=>.ref x.2.1)
 | [],xs,r=>by cases r;simp[IsL]
 | p::kk,xs,r=>by
  cases r with
  | cons a b=>
   simp only[List.map_cons];unfold IsL;refine⟨_,_,rfl,?_,tH b⟩;unfold Is;exact⟨_,_,rfl,.inl a.2.1,pR _⟩
theorem gS:∀(xs:List (List Key×Addr×Value)),Vals (xs.map λx=>V.ref x.2.1) (xs.map λx=>Value.ref x.2.1)
 | []=>.nil
 | x::xs=>.cons rfl (gS xs)
variable{pins:List (Addr×Obj)}{s:Shared}
theorem MZ{X:Cx}{σ:L2.St}{H:Hp}{a:Addr}{ks:List D}{vs:List V}{t:Bool}(I:Inv X pins σ H s)(hv:o5 (H a) ks vs t):
  ∃(es:Array DictEntry) (ep:Nat) (f:List V),(a==sysModules)=false/\fJ s.heap a es ep/\IsL X.K μ H ks f/\Vals f (es.toList.map (·.key)):=by
 cases t with
 | false=>
  obtain⟨kk,e,rfl,rfl⟩:=hv;obtain⟨z,hd,vs,r,o,es,ep,b,c,d,g,h,i⟩:=tO I.bD e;exact⟨es,ep,_,hd,⟨o,b,c,d⟩,tI kk,lU h r⟩
 | true=>
  obtain⟨kk,e,rfl,rfl⟩:=hv;obtain⟨z,hd,xs,r,o,es,ep,b,c,d,g,h⟩:=OT I.bD e;refine⟨es,ep,_,hd,⟨o,b,c,d⟩,tH r,?_⟩;rw[g,List.map_map];exact gS xs
section
variable {X:Cx}
theorem A0(hu:X.A.units+64<cLine)(V:X.calm=true):bR X (.builtin "sorted") (cP X.K rP):=by
 intro pins s σ H xs us Q I r q;obtain⟨μ,mh,ds,R,L,W,⟨n,t,kvs,rfl,e,Y,U,q⟩,F⟩:=q;obtain⟨v,rfl,Z⟩:=eP W;obtain⟨a,vs,rfl,hn,hv,l0⟩:=gC L Z e;obtain⟨u,rfl,ru⟩:=vals1 r;cases ru;obtain⟨es,ep,ws,hd,B,l,M⟩:=MZ (μ:=μ) I hv;have C:=fD I (kvs.map (·.1)) (oB U) l M;have N:es.size=kvs.length:=by have:=bC C;simpa using this
 have u2:X.A.in1.in1.units+40<cLine:=by show X.A.units+1+1+40<_;lia
 have p:∀vs:List Value,ItemsOf (λi v=>∃e,es[i]? =some e/\v=e.key) vs.toArray es.size->vs=es.toList.map (·.key):=λvs h=>by
  apply aD5;intro i;have hs:vs.length=es.size:=by simpa using h.1
  by_cases hi:i<es.size
  ·have x :i<vs.length:=by lia
   obtain⟨e,j,f⟩:=h.2 i vs[i] (by simp[x]);rw[List.getElem?_map,List.getElem?_eq_getElem x];simp only[Array.getElem?_toList,j,Option.map_some,f]
  ·rw[List.getElem?_eq_none (by lia),List.getElem?_eq_none (by simp;lia)]
 refine TS.FI (u4 s.heap) (KI (ep:=ep) hd) (I.ok.hd V) B (by lia) (λvs hi j tk kept=>?_) λvs hi out O D j f tk E kept g he=>?_
 ·cases p vs hi;by_cases f:2<=(es.toList.map (·.key)).length
  ·obtain⟨κ,hk⟩:=mX (prog:=X.prog) (w:=X.w) (A:=X.A.in1.in1) (s:={s with toks:=tk}) u2 U C f;exact⟨κ,λ_ h' k=>hk h' λb o e=>k b o (kept b o e)⟩
  ·exact⟨general',λz=>absurd z f⟩
 ·cases p vs hi;obtain⟨ts,P,t2,t3,t4⟩:=J2 l M C;rw[<-t3]at O;obtain⟨c,G,S⟩:=eD (·.u) O ts rfl;have y:∀t∈c,Is X.K μ H t.d t.v/\RelV t.v t.u/\Vl s.heap t.d t.u:=λt ht=>t4 t (G.mem_iff.mp ht);have pd:(c.map (·.d)).Perm (kvs.map (·.1)):=by rw[<-P];exact G.map _
  have pw:(c.map (·.d)).Pairwise (λd e=>lx (enc e) (enc d)=false):=by
   rw[<-S]at D;rw[List.pairwise_map]at D⊢;refine D.imp_of_mem λ{t t'} m m' J=>?_;have e1:dv s.heap t.u=t.d:=iU (y t m).2.2;have e2:dv s.heap t'.u=t'.d:=iU (y t' m').2.2;unfold ltV at J;rw[e1,e2]at J;exact J
  have ln:(c.map (·.v)).length<=sizeLine:=by
   have a1:=G.length_eq;have a2:=aC0 List.length P;have a3:=aBk;simp at a2⊢
   lia
  have T:Inv X pins σ H {s with heap:=j,toks:=tk}:=I.kept (t' :=tk) kept
  have I1:Inv X pins σ (upd H j.objs.size (.lst (c.map (·.v)))) {s with heap:=f,toks:=tk}:=
   T.laid (h' :=f) (t' :=tk) g (aB3 _) ⟨ln,out,E,by rw[<-S];exact mU λt ht=>(y t ht).2.1,he⟩
  exact⟨.ref j.objs.size,_,I1,rfl,fW L F (pQ λt ht=>(y t ht).1) (q _ pd pw) _ (T.bD.fresh (aB3 _))⟩
end
theorem u3:∀x y:List Int,lx x y=false->lx y x=false->x=y
 | [],[],_,_=>rfl
 | [],b::y,h,_=>by simp[lx]at h
 | a::x,[],_,h=>by simp[lx]at h
 | a::x,b::y,h1,h2=>by
  unfold lx at h1 h2;by_cases e:a=b
  ·subst e;simp at h1 h2;rw[u3 x y h1 h2]
  ·have c :¬b=a:=λz=>e z.symm;simp[e,c]at h1 h2
   lia
theorem uX(x:List Int):lx x x=false:=by
 cases h:lx x x with
 | false=>rfl
 | true=>have:=uZ x x h;rw[h]at this;cases this
theorem yM:∀{a:List Sc} {es fs:List D},b6 a es=true->b6 a fs=true->(es.map dP).flatten=(fs.map dP).flatten->es=fs
 | [],[],[],_,_,_=>rfl
 | [],_::_,_,h,_,_=>by simp[b6]at h
 | [],_,_::_,_,h,_=>by simp[b6]at h
 | _::_,[],_,h,_,_=>by simp[b6]at h
 | _::_,_::_,[],_,h,_=>by simp[b6]at h
 | c::a,e::es,f::fs,h1,h2,h=>by
  simp only[b6,Bool.and_eq_true]at h1 h2;simp only[List.map_cons,List.flatten_cons]at h
  have he:e=f:=by
   apply aC2;intro ne;have b:=uY h1.1 h2.1 ne (es.map dP).flatten (fs.map dP).flatten;have d:=uY h2.1 h1.1 (λz=>ne z.symm) (fs.map dP).flatten (es.map dP).flatten;rw[h,uX]at b;rw[<-h,uX]at d;exact ne (CW h1.1 h2.1 (u3 _ _ b.symm d.symm))
  subst he;rw[yM h1.2 h2.2 (List.append_cancel_left h)]
theorem JZ{ds:List D}(U:EW ds){d e:D}(hd:d∈ds)(he:e∈ds)(h:enc d=enc e):d=e:=by
 rcases U with ⟨c,a⟩ | ⟨c,g,a⟩
 ·have b:=a d hd;have f:=a e he;cases c <;> cases d <;> simp[dB]at b <;> cases e <;> simp[dB]at f
  ·simpa[enc,dP] using h
  ·exact CW (c:= .s) rfl rfl h
 ·obtain⟨es,rfl,b⟩:=a d hd;obtain⟨fs,rfl,f⟩:=a e he;rw[yM b f h]
theorem sT{ds:List D}(U:EW ds):∀{f c:List D},(∀d∈f,d∈ds)->f.Perm c->f.Pairwise (λd e=>lx (enc e) (enc d)=false)->c.Pairwise (λd e=>lx (enc e) (enc d)=false)->f=c
 | [],c,_,p,_,_=>(List.nil_perm.mp p).symm
 | a::t,c,hm,p,s1,s2=>by
  cases c with
  | nil=>exact absurd p.length_eq (by simp)
  | cons b u=>
   have g:lx (enc b) (enc a)=false:=by
    rcases aBa.mp (p.mem_iff.mpr aB6) with z | z
    ·rw[z];exact uX _
    ·exact(List.pairwise_cons.mp s1).1 b z
   have h:lx (enc a) (enc b)=false:=by
    rcases aBa.mp (p.mem_iff.mp aB6) with z | z
    ·rw[z];exact uX _
    ·exact(List.pairwise_cons.mp s2).1 a z
   have e:a=b:=JZ U (hm a aB6) (hm b (p.mem_iff.mpr aB6)) (u3 _ _ h g);subst e;rw[sT U (λd hd=>hm d (List.mem_cons_of_mem _ hd)) (List.Perm.cons_inv p) (List.pairwise_cons.mp s1).2 (List.pairwise_cons.mp s2).2]
def cR(mh:MH)(b:Nat)(mh' :MH):Prop:=∃a T,mh' =a++T/\c5 mh b a
variable{mh:MH}{b:Nat}
theorem cR.refl(h:BC mh b):cR mh b mh:=⟨mh,[],by simp,.refl h⟩
variable{mh':MH}
theorem cR.le(h:cR mh b mh'):mh.length<=mh'.length:=by
 obtain⟨a,T,rfl,t⟩:=h;rw[List.length_append,t.len];lia
theorem cR.blt(h:cR mh b mh'):b<mh.length:=by
 obtain⟨a,T,rfl,t⟩:=h;rw[<-t.len];exact t.1.lt
theorem cR.bag(h:cR mh b mh'):BC mh' b:=by
 obtain⟨a,T,rfl,⟨c,m,e,r⟩,_⟩:=h;exact⟨c,m,by rw[List.getElem?_append_left (List.getElem?_eq_some_iff.mp e).1];exact e,r⟩
theorem cR.to{mh mh' a:MH}(h:cR mh b mh')(t:c5 mh' b a):cR mh b a:=by
 have i:=h.blt;obtain⟨d,T,rfl,g⟩:=h;have f:b<d.length:=by rw[g.len];exact i
 obtain⟨⟨c,m,e,r⟩,o,rfl⟩:=t;rw[List.set_append_left _ _ f]at e⊢;refine⟨d.set b o,T,rfl,g.trans ⟨⟨c,m,?_,r⟩,o,rfl⟩⟩;rw[List.getElem?_append_left (by simpa using f)]at e;exact e
theorem cR.push(h:cR mh b mh')(o:MO):cR mh b (mh' ++[o]):=by
 obtain⟨a,T,rfl,c⟩:=h;exact⟨a,T++[o],by simp,c⟩
theorem cR.set{b n:Nat}(h:cR mh b mh')(d:mh.length<=n)(o:MO):cR mh b (mh'.set n o):=by
 obtain⟨a,T,rfl,c⟩:=h;refine⟨a,T.set (n-a.length) o,?_,c⟩;rw[List.set_append_right _ _ (by rw[c.len];exact d)]
theorem cR.out{d:D}{R:DK}(h:cR mh b mh')(ok:j4 mh)(hd:eB mh.length d=true)(q:∀a,c5 mh b a->R d a):Out mh.length d mh' R:=by
 obtain⟨a,T,rfl,c⟩:=h;exact DH (by rw[c.len];exact aB3 _) (c.YE ok) (by rw[c.len];exact hd) (q a c)
theorem cG{a:Int}{Q:DK}(h:cR mh b mh')(d:1<=a)(e:a<=1073741789)
  (q:∀r c,0<=r->r<a->cR mh b c->c.length=mh'.length->(∀n,mh.length<=n->c[n]? =mh'[n]?)->Q (.int r) c):eO [.ref b,.int a] mh' Q:=
 ⟨b,a,rfl,d,e,h.bag,λr c f g t=>q r c f g (h.to t) t.len λn i=>t.other (by have:=h.blt;lia)⟩
open Classical in
noncomputable def aU:List (D×D)->D->Option D
 | [],_=>none
 | p::r,k=>if p.1=k then some p.2 else aU r k
theorem eX{K:aEd}{μ:List Addr}{H:Hp}(key:Key):∀{kvs:List (D×D)} {kk:List (Key×V)},kvs.map (·.1)=kk.map (λp=>aV p.1)->IsL K μ H (kvs.map (·.2)) (kk.map (·.2))->
  (iE kk key=none/\aU kvs (aV key)=none)\/∃d v,iE kk key=some v/\aU kvs (aV key)=some d/\Is K μ H d v
 | [],[],_,_=>.inl ⟨rfl,rfl⟩
 | [],_::_,h,_=>by simp at h
 | _::_,[],h,_=>by simp at h
 | p::kvs,q::kk,h,l=>by
  simp only[List.map_cons,List.cons.injEq]at h;simp only[List.map_cons]at l;unfold IsL at l;obtain⟨w,r,e,i,l⟩:=l;simp only[List.cons.injEq]at e;obtain⟨rfl,rfl⟩:=e;by_cases hk:q.1=key
  ·right;have a:p.1=aV key:=by rw[h.1,hk]
   exact⟨p.2,q.2,jI hk,by simp[aU,a],i⟩
  ·have a:¬p.1=aV key:=λz=>hk (gX (h.1.symm.trans z));rw[jJ hk];simp only[aU,if_neg a];exact eX key h.2 l
section
variable {X:Cx}
theorem vC(m:X.A.units+64<cLine):JQ X (λx y H Q=>∃a v,x= .ref a/\wA H a y (some v)/\Q v H):=by
 intro b c pins s σ H x y v u Q I j k h hs;obtain⟨a,z,rfl,g,q⟩:=h;cases j;have i:=yO I g;unfold subscriptTail;refine aAz ?_;rw[getitemInPython_of_ne i.not_modules];refine aAz (wpAny_specialOf i PySem.F.slot_dict_getitem.lookup ?_)
 have d:wpAny (model X.prog X.w) X.A (subscripted c false (.ref a) u) (λr e=>wpAny (model X.prog X.w) X.A (letTemporaryGo b (.ref a) r >>=λ_=>pure r) (EP X pins σ Q) X.xe e) X.xe s:=by
  rw[hs];exact wpAny_operating (EG (by lia) I g k λn o l f =>aAz (wpAny_letTemporaryGo (aB0 ⟨z,H,l,f,q⟩)))
 first
  | exact aB0 (aAz d)
  | exact aAz (aB0 (aAz d))
  | exact aAz d
def Q0:O2:=λx y mh Q=>∃n kvs key d,x= .ref n/\mh[n]? =some (.dic false kvs)/\y=aV key/\aU kvs y=some d/\Q d mh
theorem ixD(h:X.A.units+64<cLine):JQ X (aY X.K Q0):=by
 intro b c pins s σ H x y v u Q I i j q hs;obtain⟨μ,mh,dx,B,R,f,m,o,⟨n,kvs,key,d,rfl,e,rfl,hd,q⟩,F⟩:=q;obtain⟨a,vs,rfl,C,⟨kk,hv,p,rfl⟩,l⟩:=gC f m e;cases eZ o
 rcases eX key p l with ⟨_,z⟩ | ⟨d',w,r,g,t⟩
 ·rw[hd]at z;cases z
 ·rw[hd]at g;cases g;exact vC h b c pins s σ H _ _ v u Q I i j ⟨a,w,rfl,by rw[<-r];exact .k hv,F.here f q t⟩ hs
def Q8:O2:=λy x mh Q=>∃n kvs key,x= .ref n/\mh[n]? =some (.dic false kvs)/\y=aV key/\Q (.bl (aU kvs y).isSome) mh
def uP:O2:=λy x mh Q=>∃n kvs key,x= .ref n/\mh[n]? =some (.dic false kvs)/\y=aV key/\Q (.bl !(aU kvs y).isSome) mh
theorem QW(o:X.A.units+64<cLine):cS X (compareOp .In) (aY X.K Q8):=by
 intro pins s σ H y x u v Q I g h q;obtain⟨μ,mh,p,dx,R,b,i,j,⟨n,kvs,key,rfl,e,rfl,q⟩,F⟩:=q;obtain⟨a,vs,rfl,r,⟨kk,hv,m,rfl⟩,l⟩:=gC b j e;cases eZ i;cases h;refine XI (by lia) I (.k hv) g λt f =>?_
 rcases eX key m l with ⟨c,d⟩ | ⟨d',w,c,d,z⟩
 ·rw[c];rw[d]at q;exact⟨.bl false,H,f,rfl,F.here b q .bl⟩
 ·rw[c];rw[d]at q;exact⟨.bl true,H,f,rfl,F.here b q .bl⟩
theorem DL(o:X.A.units+64<cLine):cS X (compareOp .NotIn) (aY X.K uP):=by
 intro pins s σ H y x u v Q I g h q;obtain⟨μ,mh,p,dx,R,b,i,j,⟨n,kvs,key,rfl,e,rfl,q⟩,F⟩:=q;obtain⟨a,vs,rfl,r,⟨kk,hv,m,rfl⟩,l⟩:=gC b j e;cases eZ i;cases h;refine M9 (by lia) I (.k hv) g λt f =>?_
 rcases eX key m l with ⟨c,d⟩ | ⟨d',w,c,d,z⟩
 ·rw[c];rw[d]at q;exact⟨.bl true,H,f,rfl,F.here b q .bl⟩
 ·rw[c];rw[d]at q;exact⟨.bl false,H,f,rfl,F.here b q .bl⟩
end
def bestOf(f:Int->Int->Bool)(m:Int)(c:List Int):Int:=c.foldl (λa b=>if f b a then b else a) m
theorem yY(f:Int->Int->Bool)(m:Int)(a:List Int):∀k,k<=a.length->(m::a).getD (argBest (λi j=>f ((m::a).getD i 0) ((m::a).getD j 0)) k) 0=bestOf f m (a.take k)
 | 0,_=>by simp[argBest,bestOf]
 | k+1,h=>by
  have b:=yY f m a k (by lia);have hk:k<a.length:=by lia
  have c:a.take (k+1)=a.take k++[a[k]]:=by rw[List.take_succ,List.getElem?_eq_getElem hk];rfl
  have d:(m::a).getD (k+1) 0=a[k]:=by simp[hk]
  have e:bestOf f m (a.take k++[a[k]])=if f a[k] (bestOf f m (a.take k))=true then a[k] else bestOf f m (a.take k):=by unfold bestOf;rw[List.foldl_append];rfl
  rw[c,e,<-b,<-d];simp only[argBest];split <;> rfl
theorem nG{K:aEd}{μ:List Addr}{H:Hp}:∀{ns:List Int} {vs:List V} {us:List Value},IsL K μ H (ns.map .int) vs->Vals vs us->IntsAre us ns
 | [],vs,us,l,r=>by unfold IsL at l;subst l;cases r;exact .nil
 | n::ns,vs,us,l,r=>by
  simp only[List.map_cons]at l;unfold IsL at l;obtain⟨v,c,rfl,i,l⟩:=l;cases aX i
  cases r with
  | cons a b=>
   obtain⟨t,rfl⟩:=a;exact .cons n t (nG l b)
def OZ(f:Int->Int->Bool):OA:=λxs mh Q=>∃x m a,xs=[x]/\aT mh x=some ((m::a).map .int)/\Q (.int (bestOf f m a)) mh
abbrev XT:OA:=OZ λa b=>decide (a > b)
abbrev JA:OA:=OZ λa b=>decide (a<b)
section
variable {X:Cx}
theorem yF{prog:Program}{w:World}{A:Around}{E:aEe}{l:Addr}{b:Array Value}{Q:aEe}(c:s.heap.IsTuple l b)
  (h:∀a:Shared,a={s with heap:=s.heap.push {cls:= .type "tuple_iterator",data:= .fields #[.ref l,.int 0 0]}}->
   (a.heap.IsTupleIter s.heap.objs.size l 0/\a.heap.IsTuple l b)->l<s.heap.objs.size->Q (.ref s.heap.objs.size) a):
  wpAny (model prog w) A (pyIter (.ref l)) Q E s:=by
 have d:l<s.heap.objs.size:=by obtain⟨_,e,_⟩:=c;exact aB5 e
 exact aE3 c (h _ rfl ⟨⟨_,aB4 _ rfl,rfl,rfl⟩,c.push _⟩ d)
theorem nQ{σ:L2.St}{H:Hp}{R:DK}{Q:VK}{f:Int->Int->Bool}{m:Int}{a:List Int}{aH:List Value}{v:Value}{h' :Heap}{tk:Nat}
  (I:Inv X pins σ H s) (c:Rep X.K μ mh H) (F:Fin X.K μ H R Q) (q:R (.int (bestOf f m a)) mh) (d:IntsAre aH (m::a))
  (hv:aH[argBest (λi j=>f ((m::a).getD i 0) ((m::a).getD j 0)) a.length]? =some v) (hk:∀b o',s.heap.get? b=some o' ->h'.get? b=some o'):
  EP X pins σ Q v {s with heap:=h',toks:=tk}:=by
 obtain⟨t,rfl⟩:=d.int_at _ _ hv;refine⟨.int (bestOf f m a),H,I.kept hk,⟨t,?_⟩,F.here c q .int⟩;rw[yY f m a a.length (Nat.le_refl _),List.take_length]
theorem nF{aH:List Value}{ns:List Int}(a:IntsAre aH ns):∀(i:Nat) (v:Value),aH.toArray[i]? =some v->∃t,v= .int (ns.getD i 0) t:=λi v hv=>a.int_at i v (by simpa using hv)
theorem YL(B:X.calm=true):bR X (.builtin "max") (cP X.K XT):=by
 intro pins s σ H xs us Q I r q;obtain⟨μ,mh,ds,R,p,C,⟨x,m,f,rfl,e,q⟩,F⟩:=q;obtain⟨v,rfl,D⟩:=eP C;obtain⟨a,vs,rfl,sq,l⟩:=lT p D e;obtain⟨u,rfl,E⟩:=vals1 r;cases E;rcases sq with sq | sq
 ·obtain⟨aH,t,o,hz⟩:=I.list sq;have g:=nG l t;have c:aH.length=f.length+1:=by have:=g.length;simpa using this
  refine call_max_walk (j9 o.isList λh w st y=>?_);have d:a<s.heap.objs.size:=by obtain⟨_,e,_⟩:=o.isList;exact aB5 e
  subst w;refine⟨_,_,_,_,_,_,λi j=>decide ((m::f).getD i 0 > (m::f).getD j 0),rfl,Walks.list (A:=X.A.in1) (I.ok.hd B) _ a y aH.toArray,st,?_,by simp[c],CmpOf.ints_gt (λi=>(m::f).getD i 0) (nF g),λv h' tk z hk=>?_⟩
  ·intro b k;simp only[List.mem_cons,List.not_mem_nil,or_false]at k;simp only[Heap.size_push];rcases k with rfl | rfl
   ·exact aBy _
   ·exact aBt d
  ·refine nQ (s:=s) I p F q g (by simpa[c] using z) λb o' n =>hk b o' (by simp;exact aB9 (aB5 n)) (aB1 _ n)
 ·obtain⟨aH,t,o,hz⟩:=I.tuple sq;have g:=nG l t;have c:aH.length=f.length+1:=by have:=g.length;simpa using this
  refine call_max_walk (yF (show s.heap.IsTuple a aH.toArray from o) λh w st d=>?_);subst w;refine⟨_,_,_,_,_,_,λi j=>decide ((m::f).getD i 0 > (m::f).getD j 0),rfl,Walks.tuple (A:=X.A.in1) (I.ok.hd B) _ a (aB9 d) aH.toArray,st,?_,by simp[c],CmpOf.ints_gt (λi=>(m::f).getD i 0) (nF g),λv h' tk z hk=>?_⟩
  ·intro b k;simp only[List.mem_cons,List.not_mem_nil,or_false]at k;simp only[Heap.size_push];rcases k with rfl | rfl
   ·exact aBy _
   ·exact aBt d
  ·refine nQ (s:=s) I p F q g (by simpa[c] using z) λb o' n =>hk b o' (by simp;exact aB9 (aB5 n)) (aB1 _ n)
theorem NF(B:X.calm=true):bR X (.builtin "min") (cP X.K JA):=by
 intro pins s σ H xs us Q I r q;obtain⟨μ,mh,ds,R,p,C,⟨x,m,f,rfl,e,q⟩,F⟩:=q;obtain⟨v,rfl,D⟩:=eP C;obtain⟨a,vs,rfl,sq,l⟩:=lT p D e;obtain⟨u,rfl,E⟩:=vals1 r;cases E;rcases sq with sq | sq
 ·obtain⟨aH,t,o,hz⟩:=I.list sq;have g:=nG l t;have c:aH.length=f.length+1:=by have:=g.length;simpa using this
  refine call_min_walk (j9 o.isList λh w st y=>?_);have d:a<s.heap.objs.size:=by obtain⟨_,e,_⟩:=o.isList;exact aB5 e
  subst w;refine⟨_,_,_,_,_,_,λi j=>decide ((m::f).getD i 0<(m::f).getD j 0),rfl,Walks.list (A:=X.A.in1) (I.ok.hd B) _ a y aH.toArray,st,?_,by simp[c],CmpOf.ints_lt (λi=>(m::f).getD i 0) (nF g),λv h' tk z hk=>?_⟩
  ·intro b k;simp only[List.mem_cons,List.not_mem_nil,or_false]at k;simp only[Heap.size_push];rcases k with rfl | rfl
   ·exact aBy _
   ·exact aBt d
  ·refine nQ (s:=s) I p F q g (by simpa[c] using z) λb o' n =>hk b o' (by simp;exact aB9 (aB5 n)) (aB1 _ n)
 ·obtain⟨aH,t,o,hz⟩:=I.tuple sq;have g:=nG l t;have c:aH.length=f.length+1:=by have:=g.length;simpa using this
  refine call_min_walk (yF (show s.heap.IsTuple a aH.toArray from o) λh w st d=>?_);subst w;refine⟨_,_,_,_,_,_,λi j=>decide ((m::f).getD i 0<(m::f).getD j 0),rfl,Walks.tuple (A:=X.A.in1) (I.ok.hd B) _ a (aB9 d) aH.toArray,st,?_,by simp[c],CmpOf.ints_lt (λi=>(m::f).getD i 0) (nF g),λv h' tk z hk=>?_⟩
  ·intro b k;simp only[List.mem_cons,List.not_mem_nil,or_false]at k;simp only[Heap.size_push];rcases k with rfl | rfl
   ·exact aBy _
   ·exact aBt d
  ·refine nQ (s:=s) I p F q g (by simpa[c] using z) λb o' n =>hk b o' (by simp;exact aB9 (aB5 n)) (aB1 _ n)
end
theorem wW:∀(vs:List Value) (n:Nat) (k:Int),vs.length=n->(∀(j:Nat) (v:Value),vs[j]? =some v->∃t,v=Value.int (k+j) t)->Vals ((List.range n).map λ(i:Nat)=>V.int (k+(i:Int))) vs
 | [],0,_,_,_=>.nil
 | [],n+1,_,h,_=>by simp at h
 | v::vs,0,_,h,_=>by simp at h
 | v::vs,n+1,k,h,hi=>by
  rw[List.range_succ_eq_map,List.map_cons,List.map_map];refine .cons ?_ ?_
  ·obtain⟨t,e⟩:=hi 0 v rfl;exact⟨t,by simpa using e⟩
  ·have:=wW vs n (k+1) (by simpa using h) λj v a=>by
    obtain⟨t,e⟩:=hi (j+1) v (by simpa using a);exact⟨t,by rw[e];congr 1;push_cast;lia⟩
   have e:((λi:Nat=>V.int (k+(i:Int))) ∘ Nat.succ)=λi:Nat=>V.int (k+1+(i:Int)):=by
    funext i;simp only[Function.comp];congr 1;push_cast;lia
   rw[e];exact this
theorem MM{K:aEd}{H:Hp}(lo:Int)(n:Nat):IsL K μ H (dF lo n) ((List.range n).map λ(i:Nat)=>V.int (lo+(i:Int))):=by
 have:=qW (K:=K) (μ:=μ) (H:=H) ((List.range n).map λ(i:Nat)=>lo+(i:Int));rw[List.map_map,List.map_map]at this;exact this
end D3
namespace TS
open PySem PySem.Spec PyProof.Rows L2
section
variable {prog:Program}{w:World}{A:Around}{E:aEe}{s:Shared}{lt:Value×Value->Value×Value->Bool}
theorem xH(O:Wk lt){Q:aEe}{r:Addr}{Ok:List Value->Shared->Prop}
  (c:∀(E:aEe) (R:List Value->Shared->Prop),(∀vs a,Ok vs a ->R vs a)->wpAny (model prog w) A.in1 (collect (.ref r)) R E s)
  (g:∀vs a,Ok vs a ->vs.length<64)
  (i:∀vs a,Ok vs a ->∃κ,2<=vs.length->∀h' :Heap,(∀b o,a.heap.get? b=some o->h'.get? b=some o)->
   BB prog w A.in1.in1 {a with heap:=h'} κ lt (pairsOf vs)/\∀f l,f κ {a with heap:=h'}->wpAny (model prog w) A.in1.in1 (keyKind' vs.toArray) f l {a with heap:=h'})
  (h:∀vs a,Ok vs a ->∀out:List Value,out.Perm vs->out.Pairwise (λx y=>lt (y,y) (x,x)=false)->∀(d:Heap) (ep:Nat),(∀b o,a.heap.get? b=some o->d.get? b=some o)->
   d.get? a.heap.objs.size=some (seqObj "list" out.toArray ep)->Q (.ref a.heap.objs.size) {a with heap:=d}):
  wpAny (model prog w) A (call (.builtin "sorted") [.ref r]) Q E s:=by
 have z:sizeLine=16777216:=aBk;refine aDd kind_sorted plain_sorted entry_sorted (args_sorted1 _) ?_;unfold Builtin.«sorted»;refine aAz (m:=checkCount "sorted" 1 1 _) (aB0 ?_);refine aAz (c _ _ λvs a ok=>?_);have hsz:=g vs a ok;obtain⟨κ,i⟩:=i vs a ok;refine aAz (aE8 ?_ (by lia));have ob:(a.heap.push (seqObj "list" vs.toArray 0)).get? a.heap.objs.size=some (seqObj "list" vs.toArray 0):=aB4 _ rfl;refine aAz (aBf (aBb slot_list_sort ⟨_,ob,rfl⟩ entry_list_sort (zQ (κ:=κ) (s:={a with heap:=a.heap.push (seqObj "list" vs.toArray 0)}) O ob (by lia) (λd h' k=>?_) λout n p=>⟨_,rfl,aB0 ⟨_,rfl,?_⟩⟩) (args_list_sort _)))
 ·obtain⟨t,u⟩:=i d h' λb o e=>k b o (aB9 (aB5 e)) (aB1 _ e);exact⟨t,λf q=>u f _ q⟩
 ·obtain⟨ep,he⟩:=sortedHeap_at (out:=out.toArray) ob;refine h vs a ok out n p _ ep (λb o e=>?_) he;have j:=aB5 e;have v:b<(a.heap.push (seqObj "list" vs.toArray 0)).objs.size:=by rw[size_push'];exact aBt j
  rw[sortedHeap_old (Nat.ne_of_lt j) v];exact aB1 _ e
end
end TS
namespace D3
open PySem PySem.Spec PyProof.Rows L2
section
variable {X:Cx}
variable{pins:List (Addr×Obj)}
theorem Inv.drawn{σ:L2.St}{H:Hp}{s a :Shared}(I:Inv X pins σ H s)(hg:a.gens=s.gens)(ho:a.os=s.os)(hk:∀b o,s.heap.get? b=some o->a.heap.get? b=some o):Inv X pins σ H a :=by
 have J:Inv X pins σ H {s with heap:=a.heap,toks:=a.toks}:=I.kept (t' :=a.toks) hk;obtain⟨e,f,g,h,i,a6,a7,a8,j,c,d⟩:=J;exact⟨e,by rw[ho];exact f,by rw[hg];exact g,h,i,a6,a7,a8,j,c,d⟩
theorem uG{σ:L2.St}{H:Hp}{s:Shared}{p:Addr}{ks:List Key}(I:Inv X pins σ H s)(e:H p=some (gG X.prog X.w p ks)):ST.cE (aP X.prog X.w) (ST.aR X.w) s.heap p ks:=(I.bD p _ e).1
theorem mT{P:Program}{w:World}{h:Heap}:∀{ps:List (Key×Value)},(∀p∈ps,(aP P w).is p.1 p.2=true)->dE h (ps.map λp=>aV p.1) (ps.map (·.2))
 | [],_=>by simp[dE]
 | p::ps,hp=>by
  simp only[List.map_cons];unfold dE;refine⟨_,_,rfl,?_,mT λq c=>hp q (aB7 _ c)⟩;have:=hp p aB6
  rcases bJ (k:=p.1) (v:=p.2) this with ⟨i,t,a,b⟩ | ⟨x,t,a,b⟩
  ·rw[a,b];simp only[aV];unfold Vl;exact⟨t,rfl⟩
  ·rw[a,b];simp only[aV];unfold Vl;exact⟨t,rfl⟩
theorem FA{ds es:List D}(U:EW ds)(p:es.Perm ds):EW es:=by
 rcases U with ⟨c,h⟩ | ⟨c,a,h⟩
 ·exact .inl ⟨c,λd hd=>h d (p.mem_iff.mp hd)⟩
 ·exact .inr ⟨c,a,λd hd=>h d (p.mem_iff.mp hd)⟩
theorem rL(hu:X.A.units+64<cLine)(K:X.calm=true):bR X (.builtin "sorted") (λxs H Q=>∃(p:Addr) (ks:List Key),xs=[.ref p]/\H p=some (gG X.prog X.w p ks)/\ks.length<64/\EW (ks.map aV)/\
  ∀f :List Key,f.Perm ks->(f.map aV).Pairwise (λd e=>lx (enc e) (enc d)=false)->∀q,H q=none->Q (.ref q) (upd H q (.lst (f.map kV)))):=by
 intro pins s σ H xs us Q I r q;obtain⟨p,ks,rfl,e,L,U,q⟩:=q;obtain⟨u,rfl,M⟩:=vals1 r;cases M;have N:=uG I e;have sz:=aBk;have O:X.A.in1.in1.units+40<cLine:=by show X.A.units+1+1+40<_;lia
 refine TS.xH (A:=X.A) (u4 s.heap) (Ok:=λvs c =>ST.Vof (aP X.prog X.w) ks vs/\c.gens=s.gens/\c.os=s.os/\∀b o,s.heap.get? b=some o->c.heap.get? b=some o)
  (λE R S=>ST.xI (A:=X.A.in1) N (I.ok.hd K) (by lia) λc vs hv hg ho hk=>S vs c ⟨hv,hg,ho,hk⟩) ?_ ?_ ?_
 ·rintro vs c ⟨⟨ps,T,i,l⟩,_⟩;have V:=aC0 List.length T;have W:=i.length_eq;simp at V W
  lia
 ·rintro vs c ⟨⟨ps,rfl,i,l⟩,hg,ho,hk⟩;have Y:dE s.heap (ps.map λp=>aV p.1) (ps.map (·.2)):=mT l;have Z:EW (ps.map λp=>aV p.1):=FA U (by have:=i.map aV;simpa[Function.comp_def] using this);by_cases j:2<=(ps.map (·.2)).length
  ·obtain⟨κ,x⟩:=mX (prog:=X.prog) (w:=X.w) (A:=X.A.in1.in1) (s:={c with heap:=s.heap}) O Z Y j;exact⟨κ,λ_ h' k=>x h' λb o e=>k b o (hk b o e)⟩
  ·exact⟨general',λz=>absurd z j⟩
 ·rintro vs c ⟨⟨ps,rfl,i,l⟩,hg,ho,hk⟩ out p1 y j ep kept he;obtain⟨a,B,C⟩:=eD (·.2) p1 ps rfl;have n:∀p∈a,(aP X.prog X.w).is p.1 p.2=true:=λp hp=>l p (B.mem_iff.mp hp);have G:Inv X pins σ H c :=Inv.drawn I hg ho hk;have D:(a.map (·.1)).Perm ks:=(B.map _).trans i
  have J:((a.map (·.1)).map aV).Pairwise (λd e=>lx (enc e) (enc d)=false):=by
   rw[<-C]at y;rw[List.pairwise_map]at y;rw[List.pairwise_map,List.pairwise_map];refine y.imp_of_mem λ{t t'} m m' F=>?_
   have v1:Vl s.heap (aV t.1) t.2:=by
    have:=mT (h:=s.heap) (ps:=[t]) (P:=X.prog) (w:=X.w) λq g=>by simp at g;subst g;exact n _ m
    simp only[List.map_cons,List.map_nil]at this;unfold dE at this;obtain⟨u,r,e,v,_⟩:=this;cases e;exact v
   have v2:Vl s.heap (aV t'.1) t'.2:=by
    have:=mT (h:=s.heap) (ps:=[t']) (P:=X.prog) (w:=X.w) λq g=>by simp at g;subst g;exact n _ m'
    simp only[List.map_cons,List.map_nil]at this;unfold dE at this;obtain⟨u,r,e,v,_⟩:=this;cases e;exact v
   unfold ltV at F;rw[iU v1,iU v2]at F;exact F
  have ln:((a.map (·.1)).map kV).length<=sizeLine:=by have:=D.length_eq;simp at*;lia
  have vv:Vals ((a.map (·.1)).map kV) out:=by
   rw[<-C];clear B C D J ln
   induction a with
   | nil=>exact .nil
   | cons p a ih=>exact .cons (xM (n p aB6)) (ih λq g=>n q (aB7 _ g))
  have I1:Inv X pins σ (upd H c.heap.objs.size (.lst ((a.map (·.1)).map kV))) {c with heap:=j}:=
   G.laid (h' :=j) (t' :=c.toks) kept (aB3 _) ⟨ln,out,ep,vv,he⟩
  exact⟨.ref c.heap.objs.size,_,I1,rfl,q _ D J _ (G.bD.fresh (aB3 _))⟩
end
def Q9:Expr->Bool
 | .Starred .. =>false
 | _=>true
def DQ:List Expr->Bool
 | []=>true
 | e::es=>Q9 e && DQ es
theorem qC{e:Expr}{es:List Expr}{env:Env}(h:Q9 e=true):starEach (e::es) env=(false,eval e env)::starEach es env:=by
 cases e <;> first | rfl | (simp[Q9]at h)
theorem mW{pos:Pos}{env:Env}:∀{es:List Expr},DQ es=true->(backTo pos (starEach es env)).any (·.1)=false
 | [],_=>rfl
 | e::es,h=>by
  unfold DQ at h;rw[Bool.and_eq_true]at h;rw[qC h.1];show (false || (backTo pos (starEach es env)).any (·.1))=false;rw[mW h.2];rfl
section
variable {X:Cx}{e:Expr}{es:List Expr}{w:WE}{wr wa:WA}{pos p:Pos}{x:Str}
theorem aAd(a:LE X e w)(b:LA X es wr)(h:Q9 e=true:=by rfl):LA X (e::es) (aA w wr):=MI a b (qC h)
theorem WX{k:Nat}{ps:List Str}{s:OA}(F:Fn X.prog X.w X.K X.mg X.base k x ps s)(b:eE k X.A)(c:LA X (e::es) wr)(hg:Gl X x:=by rfl)(a:(x==("__debug__":Str))=false:=by decide)
  (h:Q9 e=true:=by rfl) (d:DQ es=true:=by rfl):LE X (.Call (.Name x p) (e::es) [] pos) (aD s wr):=G5 F b c hg a (qC h) (mW d)
theorem r8{id:String}{f:OA}(b:bR X (.builtin id) (cP X.K f))(c:X.mg x=none)(hv:bootBuiltins x=some (.builtin id))(d:LA X (e::es) wr)(hg:Gl X x:=by rfl)(g:x≠ "__name__":=by decide)(a:(x==("__debug__":Str))=false:=by decide)
  (h:Q9 e=true:=by rfl) (i:DQ es=true:=by rfl):LE X (.Call (.Name x p) (e::es) [] pos) (aD f wr):=WY b c hv d hg g a (qC h) (mW i)
theorem WQ{T:String}{f:OA}(b:bR X (.type T) (cP X.K f))(c:X.mg x=none)(hv:bootBuiltins x=some (.type T))(d:LA X (e::es) wr)(hg:Gl X x:=by rfl)(g:x≠ "__name__":=by decide)(a:(x==("__debug__":Str))=false:=by decide)
  (h:Q9 e=true:=by rfl) (i:DQ es=true:=by rfl):LE X (.Call (.Name x p) (e::es) [] pos) (aD f wr):=WW b c hv d hg g a (qC h) (mW i)
end
def CC:Expr->Bool
 | .ListComp .. =>false
 | .SetComp .. =>false
 | .DictComp .. =>false
 | _=>true
theorem xC{e:Expr}{t:Option Expr}{l:Nat}{env:Env}(h:CC e=true):swapsWith e t l env=pure false:=by
 cases e <;> first | rfl | (simp[CC]at h)
section
variable {X:Cx}{e:Expr}{w:WE}{pos:Pos}
theorem aA8(i:Nat){x:Str}{a :Pos}(hN:X.N.Nodup)(he:LE X e w)(hi:X.N[i]? =some x:=by rfl)(b:Loc X.env.scope x:=by first | exact Or.inl rfl | exact Or.inr rfl)(hs:CC e=true:=by rfl)(c:X.fn x=true\/X.env.scope.names.lookup x=some .local:=by first | exact .inl rfl | exact .inr rfl | assumption):
  LS X (.Assign [.Name x a] e pos) (bA w (gN i)):=AH i hN he hi b (xC hs) c
theorem aA9(he:LE X e w)(hs:CC e=true:=by rfl):LS X (.Expr e pos) (p6 w):=L1 he (xC hs)
end
section
variable {ρ:dX}{mh:MH}{Q:DK}{E:hV}
@[simp] theorem ZL (w f wi:WE):pZ w f wi E ρ mh=(w ρ mh λd a=>f ρ a λo b=>wi ρ b λi c=>OD o i d c λe=>E.nx ρ e):=rfl
@[simp] theorem ZK (w f:WE)(wi:WA):BI w f wi E ρ mh=(w ρ mh λd a=>f ρ a λo b=>wi ρ b λks c=>OC o ks d c λe=>E.nx ρ e):=rfl
@[simp] theorem s_dic (t:Bool):mR t ρ mh Q=(Q (.ref mh.length) (mh++[.dic t []])):=rfl
end
open Classical in
theorem BO(k v:D):∀kvs:List (D×D),(∃p∈kvs,p.1=k)->aU (kvs.map λp=>if p.1=k then (p.1,v) else p) k=some v
 | [],h=>by obtain⟨p,b,_⟩:=h;cases b
 | p::kvs,h=>by
  rw[List.map_cons];by_cases e:p.1=k
  ·simp[aU,e]
  ·simp only[aU,if_neg e];refine BO k v kvs ?_;obtain⟨r,c,a⟩:=h;rcases aBa.mp c with z | z
   ·subst z;exact absurd a e
   ·exact⟨r,z,a⟩
theorem BP(k v:D):∀kvs:List (D×D),(¬∃p∈kvs,p.1=k)->aU (kvs++[(k,v)]) k=some v
 | [],h=>by simp[aU]
 | p::kvs,h=>by
  have e:¬p.1=k:=λz=>h ⟨p,aB6,z⟩;rw[List.cons_append];simp only[aU,if_neg e];exact BP k v kvs λa=>by obtain⟨r,b,c⟩:=a;exact h ⟨r,aB7 _ b,c⟩
theorem dZ(kvs:List (D×D))(k v:D):aU (putD kvs k v) k=some v:=by
 classical
 unfold putD;by_cases h:∃p∈kvs,p.1=k
 ·rw[if_pos h];exact BO k v kvs h
 ·rw[if_neg h];exact BP k v kvs h
open Classical in
theorem lR(k v:D){a :D}(hk:a ≠k):∀kvs:List (D×D),aU (kvs.map λp=>if p.1=k then (p.1,v) else p) a =aU kvs a
 | []=>rfl
 | p::kvs=>by
  rw[List.map_cons];by_cases e:p.1=k
  ·have b:¬p.1=a :=λz=>hk (z.symm.trans e);simp only[if_pos e,aU,if_neg b,lR k v hk kvs]
  ·simp only[if_neg e,aU,lR k v hk kvs]
theorem p9(k v:D){a :D}(hk:a ≠k):∀kvs:List (D×D),aU (kvs++[(k,v)]) a =aU kvs a
 | []=>by simp[aU,Ne.symm hk]
 | p::kvs=>by
  rw[List.cons_append];simp only[aU,p9 k v hk kvs]
theorem bL(kvs:List (D×D)){k a :D}(v:D)(hk:a ≠k):aU (putD kvs k v) a =aU kvs a :=by
 classical
 unfold putD;split
 ·exact lR k v hk kvs
 ·exact p9 k v hk kvs
def bB(mh mh' :MH):Prop:=∃T,mh' =mh++T
variable{mh:MH}
theorem bB.refl:bB mh mh:=⟨[],by simp⟩
theorem bB.trans{a b c:MH}(h:bB a b)(h' :bB b c):bB a c:=by
 obtain⟨T,rfl⟩:=h;obtain⟨U,rfl⟩:=h';exact⟨T++U,by simp⟩
variable{n:Nat}
theorem bB.old{mh mh' :MH}{o:MO}(h:bB mh mh')(e:mh[n]? =some o):mh'[n]? =some o:=by
 obtain⟨T,rfl⟩:=h;rw[List.getElem?_append_left (List.getElem?_eq_some_iff.mp e).1];exact e
theorem bB.push{mh mh' :MH}(h:bB mh mh')(o:MO):bB mh (mh' ++[o]):=by
 obtain⟨T,rfl⟩:=h;exact⟨T++[o],by simp⟩
theorem bB.set{mh mh' :MH}(h:bB mh mh')(a:mh.length<=n)(o:MO):bB mh (mh'.set n o):=by
 obtain⟨T,rfl⟩:=h;exact⟨T.set (n-mh.length) o,by rw[List.set_append_right _ _ a]⟩
theorem aI{o x:MO}(e:mh[n]? =some o):(mh++[x])[n]? =some o:=by
 rw[List.getElem?_append_left (List.getElem?_eq_some_iff.mp e).1];exact e
theorem get_set{n m:Nat}{o x:MO}(e:mh[n]? =some o)(h:m≠n):(mh.set m x)[n]? =some o:=by
 rw[List.getElem?_set_ne h];exact e
theorem cI{o:MO}(x:MO)(e:mh[n]? =some o):(mh.set n x)[n]? =some x:=by
 rw[List.getElem?_set_self (List.getElem?_eq_some_iff.mp e).1]
theorem EH(ds:List D):cutD ds (some 1) none=ds.tail:=by
 cases ds with
 | nil=>rfl
 | cons a ds=>
  unfold cutD;have b:HT.bW (a::ds).length 0 (some 1)=1:=by simp[HT.bW]
  have c:HT.bW (a::ds).length (a::ds).length none=(a::ds).length:=by simp[HT.bW]
  rw[b,c];simp
variable{ds:List D}
theorem TR{k:Int}(h0:0<=k)(c:k<=ds.length):cutD ds none (some k)=ds.take k.toNat:=by
 unfold cutD;have a:HT.bW ds.length 0 none=0:=by simp[HT.bW]
 have b:HT.bW ds.length ds.length (some k)=k.toNat:=by
  simp[HT.bW];rw[if_neg (by lia)];lia
 rw[a,b];simp
theorem IL{k:Int}(h0:0<=k):cutD ds (some k) none=ds.drop k.toNat:=by
 unfold cutD
 have a:HT.bW ds.length 0 (some k)=min k.toNat ds.length:=by
  simp[HT.bW];lia
 have b:HT.bW ds.length ds.length none=ds.length:=by simp[HT.bW]
 rw[a,b];by_cases h:k.toNat<=ds.length
 ·rw[Nat.min_eq_left h,List.take_of_length_le (by simp)]
 ·rw[Nat.min_eq_right (by lia),List.drop_of_length_le (Nat.le_refl _),List.drop_of_length_le (by lia)];simp
theorem NB{k m:Int}(h0:0<=k)(d:0<=m):cutD ds (some k) (some m)=(ds.drop k.toNat).take (m.toNat-k.toNat):=by
 unfold cutD
 have a:HT.bW ds.length 0 (some k)=min k.toNat ds.length:=by
  simp[HT.bW];lia
 have b:HT.bW ds.length ds.length (some m)=min m.toNat ds.length:=by
  simp[HT.bW];lia
 rw[a,b];by_cases h:k.toNat<=ds.length
 ·rw[Nat.min_eq_left h];by_cases c:m.toNat<=ds.length
  ·rw[Nat.min_eq_left c]
  ·rw[Nat.min_eq_right (by lia),List.take_of_length_le (by simp),List.take_of_length_le (by simp;lia)]
 ·rw[show min k.toNat ds.length=ds.length by lia,List.drop_of_length_le (Nat.le_refl _),List.drop_of_length_le (show ds.length<=k.toNat by lia)];simp
theorem l6(ds:List D)(lo hi:Option Int):(cutD ds lo hi).length<=ds.length:=by
 unfold cutD;simp;lia
theorem l7{α k:Type}{g:WG}{t:WT}{w:WE}{ρe:dX}{St:MH->Prop}{Q:DK}(em:α->D)(p:α->Bool)(f:α->k)(c:k->D):∀(ds:List α) (a:List k) {mh:MH},St mh->
  (∀d∈ds,∀(N:DK) (M:MH->Prop),(p d=true->N (c (f d)) mh)->(p d=false->M mh)->g (em d) ρe λi=>t i mh λb j=>if b=true then w i j N else M j)->
  Q (.ref mh.length) (mh++[.lst ((a++(ds.filter p).map f).map c)])->eS g t w ρe St Q (ds.map em) (a.map c) mh
 | [],a,mh,hst,_,q=>⟨hst,by simpa using q⟩
 | d::ds,a,mh,hst,h,q=>by
  refine⟨hst,?_⟩;refine h d aB6 _ _ (λl=>?_) λl=>?_
  ·have:=l7 (Q:=Q) (St:=St) (g:=g) (t:=t) (w:=w) (ρe:=ρe) em p f c ds (a++[f d]) hst (λe he=>h e (aB7 _ he)) (by rw[List.filter_cons_of_pos l]at q;simpa using q);simpa using this
  ·exact l7 em p f c ds a hst (λe he=>h e (aB7 _ he)) (by rw[List.filter_cons_of_neg (by simp[l])]at q;exact q)
theorem tP{α c:Type}{g:WG}{w:WE}{ρe:dX}{St:MH->Prop}{Q:DK}(em:α->D)(f:α->c)(b:c->D):∀(ds:List α) (a:List c) {mh:MH},St mh->
  (∀d∈ds,∀(N:DK),N (b (f d)) mh->g (em d) ρe λi=>w i mh N)->
  Q (.ref mh.length) (mh++[.lst ((a++ds.map f).map b)])->eS g rV w ρe St Q (ds.map em) (a.map b) mh
 | [],a,mh,hst,_,q=>⟨hst,by simpa using q⟩
 | d::ds,a,mh,hst,h,q=>by
  refine⟨hst,?_⟩;simp only[N7,if_true];refine h d aB6 _ ?_;have:=tP (Q:=Q) (St:=St) (g:=g) (w:=w) (ρe:=ρe) em f b ds (a++[f d]) hst (λe he=>h e (aB7 _ he)) (by simpa using q);simpa using this
theorem rH{α j:Type}{g:WG}{t:WT}{w:WE}{ρe:dX}{St:MH->Prop}{Q:DK}(em:α->D)(p:α->Bool)(f:α->j)(e:j->D)(ds:List α)(i:St mh)
  (h:∀d∈ds,∀(N:DK) (M:MH->Prop),(p d=true->N (e (f d)) mh)->(p d=false->M mh)->g (em d) ρe λa=>t a mh λb c=>if b=true then w a c N else M c)
  (q:Q (.ref mh.length) (mh++[.lst (((ds.filter p).map f).map e)])):eS g t w ρe St Q (ds.map em) [] mh:=l7 em p f e ds [] i h q
theorem EJ{α e:Type}{g:WG}{w:WE}{ρe:dX}{St:MH->Prop}{Q:DK}(em:α->D)(f:α->e)(a:e->D)(ds:List α)(b:St mh)
  (h:∀d∈ds,∀(N:DK),N (a (f d)) mh->g (em d) ρe λc=>w c mh N)
  (q:Q (.ref mh.length) (mh++[.lst ((ds.map f).map a)])):eS g rV w ρe St Q (ds.map em) [] mh:=tP em f a ds [] b h q
def wF(P:Program)(w:World)(K:aEd)(mg:aEg)(base:Heap)(k:Nat)(x:Str)(N:List Str)(st:Stmt)(wB:WS):Prop:=
 ∀(f:Addr) (cdv:Value) (A:Around) (outer:List Env) (s:Shared) (H:Hp) (E:XK),eE k (A.deeper (envOfC x (aC st) s.heap.objs.size f cdv))->
  kL (pE wG P w K mg base N x (aC st) f cdv A outer s H E).GJ (bQ st) wB
section
variable {P:Program}{w:World}{K:aEd}{mg:aEg}{base:Heap}{h:Heap}
theorem fV{x:Str}{st:Stmt}{N ps:List Str}{k:Nat}{s:OA}{wB:WS}(b:e9 K x st)(KX:K.In h)(G:h.Ns mainGlobals mg)(c:b8 x st ps)(S:aZ N ps (aC st))(e:wF P w K mg base k x N st wB)(len:∀ds mh R,s ds mh R->ds.length=ps.length)
  (f:∀ds mh R,j4 mh->s ds mh R->wB {nx:=λ_ a=>Out mh.length .bF a R,rt:=λd a=>Out mh.length d a R} (aK N ds) mh):Fn P w K mg base (k+1) x ps s:=
 TL b KX G c S len e λds mh R ok _ hs=>f ds mh R ok hs
theorem TK{x:Str}{st:Stmt}{N ps:List Str}{j k:Nat}{s:OA}{wB:WS}(e:k+1=j)(b:e9 K x st)(KX:K.In h)(G:h.Ns mainGlobals mg)(c:b8 x st ps)(S:aZ N ps (aC st))(f:wF P w K mg base k x N st wB)(len:∀ds mh R,s ds mh R->ds.length=ps.length)
  (g:∀ds mh R,j4 mh->s ds mh R->wB {nx:=λ_ a=>Out mh.length .bF a R,rt:=λd a=>Out mh.length d a R} (aK N ds) mh):Fn P w K mg base j x ps s:=
 e▸fV b KX G c S f len g
theorem SD{x:Str}{st:Stmt}{N:List Str}{k:Nat}{c:Addr}{wB:WS}(KX:K.In h)(G:h.Ns mainGlobals mg)(b:mg "law"=some (.ref c))(e:e9 K "law" st)(S:aZ N [x] (aC st))(f:b8 "law" st [x])
  (g:∀base:Heap,wF P w K mg base k "law" N st wB)
  (i:∀ds mh R,j4 mh->rX ds mh R->wB {nx:=λ_ a=>Out mh.length .bF a R,rt:=λd a=>Out mh.length d a R} (aK N ds) mh):
  ∃fd:FuncData,(∀(s:Shared) (u:Value),BindsTo s fd ⟨[u],[]⟩ [(x,u)])/\∀base:Heap,hU P w K mg base wG (k+1) c fd [x] (JK K rX):=
 SE KX G b e S f λbase=>⟨wB,g base,λds mh R ok _ hs=>i ds mh R ok hs⟩
end
end D3
namespace L2
open PySem PySem.Spec PyProof.Rows
open Builtin Builtin.Str
def VM:R2:=λx y H Q=>∃z n,x= .str z/\y= .int n/\MulOk z n/\Q (.str (Txt.mul z n)) H
theorem K9{X:Cx}:cS X (binaryOp .Mult) VM:=by
 intro pins s σ H x y v u Q I a c h;obtain⟨z,n,rfl,rfl,d,q⟩:=h;obtain⟨t,rfl⟩:=a;obtain⟨f,rfl⟩:=c
 exact SB.mul d λt' k=>⟨.str _,H,I.kept (t' :=k) λb o e=>e,⟨t',rfl⟩,q⟩
open AutoSeq1 (wpAny_loadPart')
theorem xA(l:Addr)(a:Array Value)(n:Nat)(c:Option Addr)(sl:Array (Option Value))(k:Int)(t:Tok)(e:(decide (k < -(2^63:Int)) || decide (k>=2^63))=false)(f:(a.isEmpty || k==1)=true):
  Meets (Builtin.«tuple.__mul__» ⟨[.ref l,.int k t],[]⟩) (λ_ R s=>s.heap.get? l=some {cls:= .type "tuple",dict:=c,data:= .seq a n,slots:=sl}/\R (.ok (.ret (Value.ref l))) {s with heap:=s.heap,toks:=s.toks}):=
 .of_wp λprog w A R s h=>by obtain⟨i,g,d,tk,os⟩:=s;obtain⟨b,h⟩:=h;have j:=AutoSeq1.idx_int;wp_walk using wpAny_loadPart' b;simp only[e,Bool.false_eq_true,if_false];wp_walk using wpAny_loadPart' b;exact⟨_,rfl,h⟩
theorem w9(l:Addr)(items:Array Value)(n:Nat)(b:Option Addr)(sl:Array (Option Value))(k:Int)(t:Tok)(c:(decide (k < -(2^63:Int)) || decide (k>=2^63))=false)(e:¬(items.isEmpty || k==1)=true)
  (hd:(decide (k<=0) || items.isEmpty)=true):
  Meets (Builtin.«tuple.__mul__» ⟨[.ref l,.int k t],[]⟩) (λ_ R s=>s.heap.get? l=some {cls:= .type "tuple",dict:=b,data:= .seq items n,slots:=sl}/\R (.ok (.ret (Value.ref s.heap.objs.size))) {s with heap:=s.heap.push {cls:=Value.type "tuple",data:=Data.seq #[]},toks:=s.toks}):=
 .of_wp λprog w A R s h=>by obtain⟨f,g,d,tk,os⟩:=s;obtain⟨a,h⟩:=h;have i:=AutoSeq1.idx_int;wp_walk using wpAny_loadPart' a;simp only[c,Bool.false_eq_true,if_false];wp_walk using wpAny_loadPart' a;exact⟨_,rfl,h⟩
theorem w4(l:Addr)(items:Array Value)(n:Nat)(c:Option Addr)(sl:Array (Option Value))(k:Int)(t:Tok)(e:(decide (k < -(2^63:Int)) || decide (k>=2^63))=false)(i:¬(items.isEmpty || k==1)=true)
  (hd:¬(decide (k<=0) || items.isEmpty)=true) (he:¬((items.size:Int)*k > (2^63-1) / 8)) (f:¬Builtin.Tuple.tupleTooMany ((items.size:Int)*k)=true) (hg:¬((List.replicate k.toNat items).foldl (λx1 a=>x1++a) #[]).size > sizeLine):
  Meets (Builtin.«tuple.__mul__» ⟨[.ref l,.int k t],[]⟩) (λ_ R s=>s.heap.get? l=some {cls:= .type "tuple",dict:=c,data:= .seq items n,slots:=sl}/\R (.ok (.ret (Value.ref s.heap.objs.size))) {s with heap:=s.heap.push {cls:=Value.type "tuple",data:=Data.seq ((List.replicate k.toNat items).foldl (λx1 a=>x1++a) #[])},toks:=s.toks}):=
 .of_wp λprog w A R s h=>by obtain⟨j,g,d,tk,os⟩:=s;obtain⟨b,h⟩:=h;have m:=AutoSeq1.idx_int;wp_walk using wpAny_loadPart' b;simp only[e,Bool.false_eq_true,if_false];wp_walk using wpAny_loadPart' b;simp only[he,f,if_false];wp_walk using wpAny_loadPart' b;exact⟨_,rfl,h⟩
theorem nY:fillsNumberSlot (.type "tuple") "mul"=pure false:=
 PySem.fillsNumberSlot_seq (id:= "tuple.__mul__") (r:=some (.builtin "tuple.__rmul__")) aDr.lookup (by decide+kernel) F.slot_tuple_rmul.lookup (by decide+kernel)
theorem uJ:seqRepeat? (.type "tuple")=pure (some (.builtin "tuple.__mul__")):=by
 unfold seqRepeat?;rw[PySem.seqSlot_of (T:= "tuple") (name:= "__mul__") (id:= "tuple.__mul__") F.slot_tuple_mul.lookup (by decide+kernel),PySem.seqSlot_of (T:= "tuple") (name:= "__rmul__") (id:= "tuple.__rmul__") F.slot_tuple_rmul.lookup (by decide+kernel)];rfl
theorem qY(a:Int)(t:Tok)(l:Addr)(b:Array Value)(n:Nat)(c:Option Addr)(sl:Array (Option Value)):
  Meets (Builtin.«int.__rmul__» ⟨[.int a t,.ref l],[]⟩) (λ_ R s=>s.heap.get? l=some {cls:= .type "tuple",dict:=c,data:= .seq b n,slots:=sl}/\R (.ok (.ret Value.notImplemented)) s):=
 .of_wp λprog w A R s h=>by obtain⟨e,g,d,tk,os⟩:=s;obtain⟨f,h⟩:=h;wp_walk;exact⟨_,rfl,h⟩
def VL(K:aEd):R2:=λx y H Q=>∃a k xs,x= .ref a/\y= .int k/\pG K H a xs/\ -(2^63)<=k/\k<2^63/\xs.length*k.toNat<=sizeLine/\
 ((List.replicate k.toNat xs).flatten=xs->Q (.ref a) H)/\∀p,H p=none->Q (.ref p) (upd H p (.tup (List.replicate k.toNat xs).flatten))
theorem K7{X:Cx}:cS X (binaryOp .Mult) (VL X.K):=by
 intro pins s σ H x y v u Q I l m h;obtain⟨a,k,xs,rfl,rfl,z,G,J,hz,B,C⟩:=h;cases l;obtain⟨t,rfl⟩:=m;obtain⟨aH,r,p,_⟩:=I.tuple z;obtain⟨⟨cls,c,data,sl⟩,ho,j,n,hd⟩:=id p;simp only at j hd;subst j hd;have g:aH.length=xs.length:=r.length.symm;have i:(decide (k < -(2^63:Int)) || decide (k>=2^63))=false:=by simp;lia
 have new:EP X pins σ Q (.ref s.heap.objs.size) {s with heap:=s.heap.push {cls:=Value.type "tuple",data:=Data.seq ((List.replicate k.toNat aH).flatten.toArray)},toks:=s.toks}:=by
  refine⟨.ref s.heap.objs.size,_,I.laid (t' :=s.toks) (o:= .tup (List.replicate k.toNat xs).flatten) (λb ob q=>aB1 _ q) (aB3 _) ?_,rfl,C _ (I.bD.fresh (aB3 _))⟩;exact⟨by rw[len_rep,Nat.mul_comm];exact hz,_,r.rep k.toNat,IsTup.new _ _,qB _ _⟩
 have go:wpAny (model X.prog X.w) X.A (call (.builtin "tuple.__mul__") [.ref a,.int k t]) (EP X pins σ Q) X.xe s:=by
  by_cases d:(aH.toArray.isEmpty || k==1)=true
  ·refine aE1 aDr ⟨_,ho,rfl⟩ F.entry_tuple_mul (aE5 _ _) (xA a aH.toArray n c sl k t i d) ⟨ho,?_⟩
   have e:(List.replicate k.toNat xs).flatten=xs:=by
    rcases(by simpa using d:aH=[]\/k=1) with e | rfl
    ·subst e
     have:xs=[]:=by cases xs with | nil=>rfl | cons _ _=>simp at g
     subst this;simp
    ·simp
   exact⟨.ref a,H,I,rfl,B e⟩
  ·by_cases f:(decide (k<=0) || aH.toArray.isEmpty)=true
   ·refine aE1 aDr ⟨_,ho,rfl⟩ F.entry_tuple_mul (aE5 _ _) (w9 a aH.toArray n c sl k t i d f) ⟨ho,?_⟩
    have e:(List.replicate k.toNat aH).flatten.toArray= #[]:=by
     rcases(by simpa using f:k<=0\/aH=[]) with e | e
     ·have:k.toNat=0:=by lia
      rw[this];rfl
     ·subst e;simp
    rw[e]at new;exact new
   ·have hs:aH.toArray.size=xs.length:=by simpa using g
    have hk:((xs.length*k.toNat:Nat):Int)=(xs.length:Int)*k:=by
     have:0<k:=by
      have:=f;simp at this
      lia
     rw[Int.natCast_mul,Int.toNat_of_nonneg (by lia)]
    have L:(sizeLine:Int)=16777216:=by have:=aBk;lia
    have f0:=foldl_rep aH k.toNat [];rw[List.nil_append]at f0;have e:List.foldl (λx1 D=>x1++D) #[] (List.replicate k.toNat aH.toArray)=(List.replicate k.toNat aH).flatten.toArray:=f0;refine aE1 aDr ⟨_,ho,rfl⟩ F.entry_tuple_mul (aE5 _ _) (w4 a aH.toArray n c sl k t i d f (by rw[hs,<-hk];lia) (by rw[hs,<-hk];unfold Builtin.Tuple.tupleTooMany;intro h;have:=of_decide_eq_true h;lia) (by rw[e,List.size_toArray,len_rep,g,Nat.mul_comm];lia)) ⟨ho,?_⟩;rw[e];exact new
 exact wpAny_binaryOp_repeat_ref (T:= "tuple") (U:= "int") (by decide) ⟨_,ho,rfl⟩ (λE =>typeIs_int E k t) nY F.fills_int_mul F.slot_int_rmul uJ F.slot_int_index.lookup
  (aE1 F.slot_int_rmul (typeIs_int s k t) F.entry_int_rmul (F.args_int_rmul_2 _ _) (qY k t a aH.toArray n c sl) ⟨ho,rfl,⟨_,ho,rfl⟩,go⟩)
end L2
namespace D3
open PySem PySem.Spec PyProof.Rows L2
def B9:O2:=λx y mh Q=>match x with
 | .str z=>∃n,y= .int n/\MulOk z n/\Q (.str (Txt.mul z n)) mh
 | .tup ds=>∃k,y= .int k/\ -(2^63)<=k/\k<2^63/\ds.length*k.toNat<=sizeLine/\Q (.tup (List.replicate k.toNat ds).flatten) mh
 | _=>o9 x y mh Q
theorem CQ{K:aEd}{μ:List Addr}{H:Hp}{ds:List D}{vs:List V}(l:IsL K μ H ds vs):∀k:Nat,IsL K μ H (List.replicate k ds).flatten (List.replicate k vs).flatten
 | 0=>by simp[IsL]
 | k+1=>by simp only[List.replicate_succ,List.flatten_cons];exact iJ l (CQ l k)
theorem LF{X:Cx}:cS X (binaryOp .Mult) (aY X.K B9):=by
 intro pins s σ H x y v u Q I f g q;obtain⟨μ,mh,dx,l,R,b,c,h,q,F⟩:=q
 cases dx with
 | str z=>
  obtain⟨n,rfl,m,q⟩:=q;cases cD c;cases aX h;exact K9 pins s σ H _ _ v u Q I f g ⟨z,n,rfl,rfl,m,F.here b q .str⟩
 | tup ds=>
  obtain⟨k,rfl,o,p,hz,q⟩:=q;obtain⟨a,xs,rfl,r,i⟩:=cQ c;cases aX h;refine K7 pins s σ H _ _ v u Q I f g ⟨a,k,xs,rfl,rfl,r,o,p,by rw[aO i];exact hz,λe=>?_,kH b F (CQ i k.toNat) q⟩;have j:=aC0 List.length e;rw[len_rep,aO i]at j
  have t:(List.replicate k.toNat ds).flatten=ds:=by
   rcases ds with _ | ⟨d,ds⟩
   ·simp
   ·have:k.toNat=1:=by
     have:k.toNat*(ds.length+1)=ds.length+1:=by simpa using j
     exact Nat.eq_of_mul_eq_mul_right (Nat.succ_pos _) (by simpa using this)
    rw[this];simp
  rw[t]at q;exact F.here b q c
 | _=>exact GF pins s σ H x y v u Q I f g ⟨μ,mh,_,l,R,b,c,h,q,F⟩
end D3
namespace L2
open PySem PySem.Spec PyProof.Rows
end L2
namespace D3
open PySem PySem.Spec PyProof.Rows L2
end D3
namespace L2
open PySem PySem.Spec PyProof.Rows
section
variable {prog:Program}{w:World}{A:Around}{E:aEe}{s:Shared}
def enO(f0:Value)(it:Addr)(i:Nat)(old:Value):Obj:={cls:= .type "enumerate",dict:=none,data:= .fields #[f0,.bool false,.ref it,rawInt (i:Int),.none,old],slots:= #[]}
structure rS(h:Heap)(e:Addr)(q:Src)(f0:Value)(i:Nat):Prop where
 obj:∃old,h.get? e=some (enO f0 q.it i old)
 at_:q.At h i
variable{e:Addr}{q:Src}{i:Nat}{items:Array Value}
theorem MX{x:Value}{Q:aEe}(Z:rS s.heap e q .none i)(H:q.Sq s.heap items)(I:items[i]? =some x)(a:e≠q.it)
  (J:∀h',rS h' e q (rawInt s.heap.objs.size) (i+1)->h'.get? s.heap.objs.size=some {cls:= .type "tuple",data:= .seq #[.int i s.toks,x]}->
   (∀b o,b≠e->b≠q.it->s.heap.get? b=some o->h'.get? b=some o)->Q (.ref s.heap.objs.size) {s with heap:=h',toks:=s.toks+1}):
  wpAny (model prog w) A (Builtin.«enumerate.__next__» ⟨[.ref e],[]⟩) (λu K =>∃v,u= .done (.ret v)/\Q v K) E s:=by
 obtain⟨⟨old,he⟩,y⟩:=Z;obtain⟨z,g,d,tk,os⟩:=s;have c:e<z.objs.size:=aB5 he;show wpAny _ _ (field (.ref e) 2 >>=_) _ _ _;refine aAz (aBv he rfl (x:= .ref q.it) rfl (aAz (Src.item y H I λm B f=>?_)));have C:m.get? e=some (enO .none q.it i old):=(f.2 e a).trans he;show wpAny _ _ (field (.ref e) 3 >>=_) _ _ ⟨m,g,d,tk,os⟩;refine aAz (aBv C rfl (x:=rawInt (i:Int)) rfl ?_);show wpAny _ _ (field (.ref e) 4 >>=_) _ _ ⟨m,g,d,tk,os⟩;refine aAz (aBv C rfl (x:= .none) rfl ?_);show wpAny _ _ (mkInt (i:Int) >>=_) _ _ ⟨m,g,d,tk,os⟩;refine aAz (wpAny_mkInt ?_);show wpAny _ _ (setField (.ref e) 3 (rawInt ((i:Int)+1)) >>=_) _ _ ⟨m,g,d,tk+1,os⟩;refine aAz (aBh C (by simp) λL M n=>?_);show wpAny _ _ (setField (.ref e) 4 .none >>=_) _ _ ⟨L,g,d,tk+1,os⟩;refine aAz (aBh M (by simp) λp N r=>?_);show wpAny _ _ (newTuple [.int i tk,x] >>=_) _ _ ⟨p,g,d,tk+1,os⟩;refine aAz (aD8 ?_);have hsz:p.objs.size=z.objs.size:=by rw[r.1,n.1,f.1]
 have t:=aB1 {cls:= .type "tuple",data:= .seq #[.int i tk,x]} N;have G:(p.push {cls:= .type "tuple",data:= .seq #[.int i tk,x]}).get? z.objs.size=some {cls:= .type "tuple",data:= .seq #[.int i tk,x]}:=by rw[<-hsz];exact aB4 _ rfl
 have D:∀b o,b≠e->m.get? b=some o->(p.push {cls:= .type "tuple",data:= .seq #[.int i tk,x]}).get? b=some o:=λb o h F=>aB1 _ (r.extBut b o h (n.extBut b o h F));show wpAny _ _ (Builtin.SmallTypes.ownedTupleIsFree (.ref e) >>=_) _ _ _;rw[hsz];generalize p.push {cls:= .type "tuple",data:= .seq #[.int i tk,x]}=h4 at t G D⊢;refine aAz ?_;unfold Builtin.SmallTypes.ownedTupleIsFree;refine aAz (aBv t rfl (x:= .none) rfl (aB0 ?_));simp only[if_true];refine aAz (aC5 (aAz (aBv t rfl (x:=old) rfl (aAz (aBh t (by simp) λU O j=>?_)))));refine aAz ?_;unfold Builtin.SmallTypes.ownedTupleHandOut;refine aAz (aBh O (by simp) λV P k=>aBh P (by simp) λR S l=>aAz (wpAny_letGo (aB0 ⟨_,rfl,J R ⟨⟨x,?_⟩,?_⟩ ?_ ?_⟩)))
 ·exact S
 ·exact B.to λo ho=>l.extBut _ _ (aC1 a) (k.extBut _ _ (aC1 a) (j.extBut _ _ (aC1 a) (D _ _ (aC1 a) ho)))
 ·exact l.extBut _ _ (aCc c) (k.extBut _ _ (aCc c) (j.extBut _ _ (aCc c) G))
 ·exact λb o h T F=>l.extBut _ _ h (k.extBut _ _ h (j.extBut _ _ h (D _ _ h (f.extBut _ _ T F))))
variable{Q:Option Value->Shared->Prop}
theorem uV{x:Value}(Z:rS s.heap e q .none i)(g:q.Sq s.heap items)(h:items[i]? =some x)(d:e≠q.it)
  (j:∀h',rS h' e q (rawInt s.heap.objs.size) (i+1)->h'.get? s.heap.objs.size=some {cls:= .type "tuple",data:= .seq #[.int i s.toks,x]}->
   (∀b o,b≠e->b≠q.it->s.heap.get? b=some o->h'.get? b=some o)->Q (some (.ref s.heap.objs.size)) {s with heap:=h',toks:=s.toks+1}):
  wpAny (model prog w) A (pyNext (.ref e)) Q E s:=by
 have f:s.TypeIs (.ref e) "enumerate":=by obtain⟨old,he⟩:=Z.obj;exact⟨_,he,rfl⟩
 unfold pyNext
 exact aAz (aC7 (aBg (name:=Str.ofString "__next__") f aCp (aBb aCp f F.entry_enumerate_next
  (MX Z g h d λh' a b c=>aB0 (j h' a b c)) (F.args_enumerate_next_1 _))))
theorem xU(f:A.handled=none)(Z:rS s.heap e q .none i)(g:q.Sq s.heap items)(h:items[i]? =none)
  (j:∀h',Heap.ExtBut q.it s.heap h' ->Q none {s with heap:=h'}):wpAny (model prog w) A (pyNext (.ref e)) Q E s:=by
 obtain⟨old,he⟩:=Z.obj
 have d:s.TypeIs (.ref e) "enumerate":=⟨_,he,rfl⟩
 unfold pyNext;refine aAz (aC7 (aBg (name:=Str.ofString "__next__") d aCp (aBb aCp d F.entry_enumerate_next ?_ (F.args_enumerate_next_1 _))));show wpAny _ _ (field (.ref e) 2 >>=_) _ _ _;refine aAz (aBv he rfl (x:= .ref q.it) rfl (aAz (Src.done f Z.at_ g h λh' x a c =>?_)));obtain⟨o,ho,k⟩:=c;exact aAz (aCk (T:= "StopIteration") (b:=true) ⟨o,ho,k⟩ isSubtype_stop (aB0 (j _ a)))
theorem XD{elts:List Expr}{x1}{pos:Pos}{e T:Addr}{Q:Unit->Shared->Prop}(a:e≠q.it)(Z:rS s.heap e q (rawInt T) i)
  (f:∀h',rS h' e q .none i->Heap.SameBut e s.heap h' ->Q () {s with heap:=h'}):wpAny (model prog w) A (letOwnedTupleGo (.Tuple elts x1 pos) (.ref e) (.ref T)) Q E s:=by
 obtain⟨⟨old,he⟩,b⟩:=Z;exact wpAny_letOwnedTupleGo_enum he λh' c d=>f h' ⟨⟨old,c⟩,b.to λo ho=>d.extBut _ _ (aC1 a) ho⟩ d
theorem CN{f0:Value}{Q:aEe}(Z:rS s.heap e q f0 i)(h:Q (.ref e) s):wpAny (model prog w) A (pyIter (.ref e)) Q E s:=by
 have a:s.TypeIs (.ref e) "enumerate":=by obtain⟨old,he⟩:=Z.obj;exact⟨_,he,rfl⟩
 refine aD4 a F.slot_enumerate_iter (aBb F.slot_enumerate_iter a F.entry_enumerate_iter ?_ (F.args_enumerate_iter_1 _));exact aB0 ⟨_,rfl,"enumerate",_,a,aCp.lookup,h⟩
end
open AutoSeq1 (wpAny_loadPart')
theorem GU(q:Src):Meets (Builtin.«enumerate.__new__» ⟨[.type "enumerate",.ref q.l],[]⟩) (λ_ R s=>(∃f,q.Sq s.heap f)/\
   ∀h' e,s.heap.objs.size<e->rS h' e ⟨s.heap.objs.size,q.l,q.tup⟩ .none 0->(∀b o,s.heap.get? b=some o->h'.get? b=some o)->R (.ok (.ret (.ref e))) {s with heap:=h'}):=
 .of_wp λprog w A R s h=>by
  obtain⟨hs,r⟩:=h;obtain⟨f,hs⟩:=hs;obtain⟨n,g,d,tk,os⟩:=s;have p:=sub_enumerate
  have i:∀a:Heap,(⟨n.objs.size,q.l,q.tup⟩:Src).At a 0->a.objs.size=n.objs.size+1->(∀b o,n.get? b=some o->a.get? b=some o)->
    R (.ok (.ret (.ref a.objs.size))) ⟨a.push {cls:= .type "enumerate",data:= .fields #[.none,.bool false,.ref n.objs.size,rawInt 0,.none,.none]},g,d,tk,os⟩:=λa j m k=>
   r _ _ (by show n.objs.size<_;lia) ⟨⟨.none,aB4 _ rfl⟩,j.to λo e=>aB1 _ e⟩ λb o e=>aB1 _ (k b o e)
  unfold Builtin.«enumerate.__new__»
  wp_walk
  refine wpAny_stack_any λst=>aB0 ?_;split
  ·rename_i c _ _ _ _ _;cases (c==Value.type "enumerate")
   ·wp_walk using Src.start hs
    intro a j m k
    wp_walk
    exact⟨_,rfl,i a j m k⟩
   ·wp_walk using Src.start hs
    intro a j m k
    wp_walk
    exact⟨_,rfl,i a j m k⟩
  ·wp_walk using Src.start hs
   intro a j m k
   wp_walk
   exact⟨_,rfl,i a j m k⟩
section
variable {prog:Program}{w:World}{A:Around}{E:aEe}{s:Shared}
theorem NK{q:Src}{Q:aEe}(hs:∃a,q.Sq s.heap a)
  (h:∀h' e,s.heap.objs.size<e->rS h' e ⟨s.heap.objs.size,q.l,q.tup⟩ .none 0->(∀b o,s.heap.get? b=some o->h'.get? b=some o)->Q (.ref e) {s with heap:=h'}):
  wpAny (model prog w) A (call (.type "enumerate") [Value.ref q.l]) Q E s:=
 callType_new F.called_enumerate (by decide) (F.typeCall_enumerate_1 _) (F.newCall_enumerate_1 _) (λobj=>F.args_object_init_2 obj _) F.entry_enumerate_new (GU q)
  ⟨hs,λh' e t Z k=>⟨by obtain⟨old,he⟩:=Z.obj;exact⟨_,he,rfl⟩,h h' e t Z k⟩⟩
end
def Ite(K:aEd)(a:Addr)(t:Bool):It where
 go:=λi H=>∃xs v,zK K H t a xs/\xs[i]? =some v
 NY:=λi H x H' =>∃p v,H p=none/\x= .ref p/\H' =upd H p (.tup [.int i,v])/\∀xs,zK K H t a xs->xs[i]? =some v
 stop:=λi H=>∃xs,zK K H t a xs/\xs.length<=i
theorem J1{P:Program}{w:World}{K:aEd}{elts:List Expr}{x1}{pos:Pos}{e:Addr}{q:Src}(f:e≠q.it):
  Turn P w K (.Tuple elts x1 pos) (Ite K q.l q.tup) [e,q.it] e (λi h=>rS h e q .none i) where
 mem:=aB6
 self:=λA i s Q E Z h=>CN Z h
 obj:=λi h Z b a=>by
  simp only[List.mem_cons,List.not_mem_nil,or_false]at a;rcases a with rfl | rfl
  ·obtain⟨old,he⟩:=Z.obj;exact⟨_,he,λv z=>by cases z⟩
  ·obtain⟨o,ho,hd⟩:=Z.at_.obj;exact⟨o,ho,λv z=>by rw[hd]at z;cases z⟩
 keep:=λi h h' Z k=>by
  obtain⟨⟨old,he⟩,n⟩:=Z;exact⟨⟨old,k e (by simp) _ he⟩,n.to λo ho=>k q.it (by simp) o ho⟩
 item:=by
  intro X p t x C i pins s σ H E I j Z hg;subst p t x;obtain⟨xs,v,m,hi⟩:=hg;obtain⟨aH,F,hs⟩:=I.PF m;obtain⟨u,G,r⟩:=F.get hi;refine uV Z (hs q.it) (by simpa using G) f λJ L D M=>?_;refine⟨_,rfl,XD (s:={s with heap:=J,toks:=s.toks+1}) f L λN O d=>?_⟩;have g:e<s.heap.objs.size:=by obtain⟨old,he⟩:=Z.obj;exact aB5 he
  have y:q.it<s.heap.objs.size:=by obtain⟨o,ho,_⟩:=Z.at_.obj;exact aB5 ho
  have c:s.heap.objs.size≠e:=aCc g
  have kk:∀b o,b∉[e,q.it]->s.heap.get? b=some o->N.get? b=some o:=λb o a ho=>by
   simp only[List.mem_cons,List.not_mem_nil,or_false,not_or]at a;exact d.extBut _ _ a.1 (M b o a.1 a.2 ho)
  refine⟨.ref s.heap.objs.size,upd H s.heap.objs.size (.tup [.int i,v]),I.OP (t' :=s.toks+1) j kk (aB3 _) ⟨by have:=aBk;simp;lia,[.int i s.toks,u],.cons ⟨_,rfl⟩ (.cons r .nil),⟨_,d.extBut _ _ c D,rfl,0,rfl⟩,λo ho=>by rw[d.extBut _ _ c D]at ho;cases ho;rfl⟩,rfl,?_,O,λb a=>?_⟩
  ·refine⟨s.heap.objs.size,v,I.bD.fresh (aB3 _),rfl,rfl,λT R=>?_⟩;rw[I.BW R m];exact hi
  ·have B:=(j b a).1
   have:b≠s.heap.objs.size:=by
    simp only[List.mem_cons,List.not_mem_nil,or_false]at a;rcases a with rfl | rfl
    ·exact aB9 g
    ·exact aB9 y
   rw[aN this];exact B
 done:=by
  intro X p t x C i pins s σ H E I j Z hg;subst p t x;obtain⟨xs,m,S⟩:=hg;obtain⟨aH,r,hs⟩:=I.PF m
  refine xU (I.ok.hd C) Z (hs q.it) ?_ λh' kp=>⟨rfl,I.IB (t' :=s.toks) j λb o a ho=>kp b o (λz=>a (by simp[z])) ho⟩
  have:=r.length;rw[List.getElem?_toArray];exact List.getElem?_eq_none_iff.mpr (by lia)
def iEn(K:aEd)(c:TA):TI:=λσ H R=>c σ H λvs b=>∃a t,vs=[.ref a]/\(∃xs,zK K b t a xs)/\R (Ite K a t) b
theorem VS{X:Cx}{e:Expr}{i:TA}{p pos:Pos}{elts:List Expr}{x1}{j:Pos}(hg:Gl X "enumerate")(m:X.mg "enumerate"=none)(n:PA X [e] i)
  (hv:bootBuiltins "enumerate"=some (.type "enumerate"):=by decide+kernel)
  (hs:starEach [e] X.env=(false,eval e X.env)::starEach [] X.env:=by rfl):
  PI X (.Tuple elts x1 j) (.Call (.Name "enumerate" p) [e] [] pos) (iEn X.K i):=by
 intro pins s σ H R I h;refine aCy (jS I hg m hv ?_);refine aBz (cA (n pos pins s σ H _ I h) λus s1 ⟨vs,f,d,o,r⟩=>?_) hs rfl;obtain⟨a,t,rfl,⟨xs,v⟩,x⟩:=r;obtain⟨u,rfl,y⟩:=vals1 o;cases y;obtain⟨aH,_,g⟩:=d.PF v;refine NK (q:=⟨0,a,t⟩) ⟨aH.toArray,g 0⟩ λh' z k Z kp=>?_;have A:Inv X pins σ f {s1 with heap:=h'}:=d.kept (t' :=s1.toks) kp;have T:=J1 (P:=X.prog) (w:=X.w) (K:=X.K) (elts:=elts) (x1:=x1) (pos:=j) (e:=z) (q:=⟨s1.heap.objs.size,a,t⟩) (aCc k);refine CN Z ⟨z,_,_,Ite X.K a t,f,rfl,A,T,Z,λb l=>?_,x⟩
 have c:s1.heap.objs.size<=b:=by
  simp only[List.mem_cons,List.not_mem_nil,or_false]at l;rcases l with rfl | rfl
  ·exact aCs k
  ·exact aB3 _
 exact(d.AR c (d.bD.fresh c):rR X pins f b)
end L2
namespace D3
open PySem PySem.Spec PyProof.Rows L2
def BN(e wi f:WE):WE:=λc mh Q=>e c mh λo a=>∃n,o= .ref n/\(∃kvs,a[n]? =some (.dic false kvs))/\wi c a λi d=>f c d λx b=>∃kvs key,b[n]? =some (.dic false kvs)/\i=aV key/\Q ((aU kvs i).getD x) b
def sO(e wi f:WE):WE:=λc mh Q=>e c mh λo b=>∃n,o= .ref n/\(∃kvs,b[n]? =some (.dic false kvs))/\wi c b λi d=>f c d λx a=>∃kvs key,a[n]? =some (.dic false kvs)/\i=aV key/\kvs.length<sizeLine/\
 (∀v,aU kvs i=some v->Q v a)/\(aU kvs i=none->Q x (a.set n (.dic false (putD kvs i x))))
section
variable {X:Cx}{o i x:Expr}{wo wi wx:WE}{apos bS pos lS:Pos}
theorem HM{K:aEd}{μ:List Addr}{mh:MH}{H:Hp}{n:Nat}{v:V}{kvs:List (D×D)}(R:Rep K μ mh H)(h:Is K μ H (.ref n) v)(e:mh[n]? =some (.dic false kvs)):∃a,v= .ref a/\YS H a:=by
 obtain⟨a,vs,rfl,b,⟨kk,hv,_,_⟩,_⟩:=gC R h e;exact⟨a,rfl,.inl ⟨kk,.inl hv⟩⟩
theorem MC(T:X.A.units+64<cLine)(ho:LE X o wo)(hi:LE X i wi)(C:LE X x wx)(base:attributeBase o "get" X.env (eval o X.env)=eval o X.env:=by rfl)
  (IF:((backTo bS (starEach [i,x] X.env)).all (λx=>!x.1) && (backToKw bS (keywordEach [] X.env)).all (λx=>x.1.isSome) && decide (([i,x]:List Expr).length+([]:List Keyword).length+(if ([]:List Keyword).isEmpty then 0 else 1)<30))=true:=by rfl)
  (line:(apos.endLine==bS.line)=true:=by rfl) (trees:backTo bS (starEach [i,x] X.env)=[(false,eval i X.env),(false,eval x X.env)]:=by rfl):
  LE X (.Call (.Attribute o "get" apos) [i,x] [] bS) (BN wo wi wx):=PE.imp (GA (by lia) ho hi C ⟨base,IF,line,trees⟩) λσ H Q h=>by
 obtain⟨μ,b,mh,R,c,En,h,F⟩:=h;refine⟨μ,b,mh,_,c,En,h,λD d q f U V g j v=>?_⟩;obtain⟨n,rfl,⟨y,E⟩,q⟩:=q;obtain⟨a,rfl,G⟩:=HM j v E;refine⟨a,rfl,G,f,b,d,_,j,En.mono c g,q,λW m I p Y Z r R2 J=>?_⟩;refine⟨p,b,m,_,R2,En.mono c (g.trans r),I,λdx K L M vx H3 z s N=>?_⟩;obtain⟨kvs,key,e,rfl,q⟩:=L;obtain⟨a',vs,O,hn,⟨kk,hv,P,rfl⟩,l⟩:=gC s (Is.mono j (r.trans z) _ _ v) e;cases O;cases eZ J;have B:=F.at ((g.trans r).trans z)
 rcases eX key P l with ⟨t,u⟩ | ⟨d',w,t,u,S⟩
 ·rw[u]at q;exact⟨none,by rw[<-t];exact .k hv,B.here s q N⟩
 ·rw[u]at q;exact⟨some w,by rw[<-t];exact .k hv,B.here s q S⟩
theorem K2{t ty A:TE}(ho:PE X o t)(he:PE X i ty)(E:PE X x A)(m:M2 X o "setdefault" apos i x bS):PE X (.Call (.Attribute o "setdefault" apos) [i,x] [] bS)
  (λσ H Q=>t σ H λx j=>∃a,x= .ref a/\YS j a/\ty σ j λy l=>A σ l λz f=>∃kvs k,f a=some (.dK kvs)/\y=kV k/\kvs.length<sizeLine/\(∀v,iE kvs k=some v->Q v f)/\(iE kvs k=none->Q z (upd f a (.dK (putK kvs k z))))):=by
 intro pins s σ H Q I h;refine wpAny_Call_method m.base m.IF m.line aDj aDx PySem.F.type_dict_setdefault (cA (ho pins s σ H _ I h) λu s1 n=>?_);obtain⟨x,j,B,G,a,ex,d,J⟩:=n;subst ex;obtain rfl:u=Value.ref a:=G;obtain⟨K,L,_⟩:=AN B d;refine⟨K,L,?_⟩;rw[m.trees]
 refine aCz rfl (aDt (aCx (cA (he pins s1 σ j _ B J) λZ s2 ⟨y,l,M,N,O⟩=>
  aCx (cA (E pins s2 σ l _ M O) λP s3 ⟨z,f,p,C,kvs,k,e,R,S,T,U⟩=>Calls.spliced_nil ?_))))
 subst R;obtain⟨V,hd,vs,b,D⟩:=tO p.bD e;have hz:vs.length<=sizeLine:=by rw[<-b.length];exact V
 refine call_meetsIn aDx D.typeIs PySem.F.entry_dict_setdefault (PySem.F.args_dict_setdefault_3 _ _ _) (kt_meets_setdefault (aP X.prog X.w) a (nE N) hd P) ⟨vs,D,hz,λv hv=>?_,λW h' g hs=>?_⟩
 ·have c:=b.val k;rw[hv]at c
  cases hvv:iE kvs k with
  | none=>rw[hvv]at c;exact c.elim
  | some r =>rw[hvv]at c;exact⟨r,f,p.tok _,c,T r hvv⟩
 ·have c:=b.val k;rw[W]at c
  cases hvv:iE kvs k with
  | some r =>rw[hvv]at c;exact c.elim
  | none=>
   have Y:(putK kvs k z).length<=sizeLine:=by have:=fU kvs k z;lia
   have he:∃q,h'.get? a=some q:=let ⟨q,_,_,hq,_⟩:=g;⟨q,hq⟩;exact⟨z,_,nO p (by rw[e];exact True.intro) hs he (AV Y hd (b.put k C) g),C,U hvv⟩
theorem L9(ho:LE X o wo)(hi:LE X i wi)(P:LE X x wx)(base:attributeBase o "setdefault" X.env (eval o X.env)=eval o X.env:=by rfl)
  (IF:((backTo bS (starEach [i,x] X.env)).all (λx=>!x.1) && (backToKw bS (keywordEach [] X.env)).all (λx=>x.1.isSome) && decide (([i,x]:List Expr).length+([]:List Keyword).length+(if ([]:List Keyword).isEmpty then 0 else 1)<30))=true:=by rfl)
  (line:(apos.endLine==bS.line)=true:=by rfl) (trees:backTo bS (starEach [i,x] X.env)=[(false,eval i X.env),(false,eval x X.env)]:=by rfl):
  LE X (.Call (.Attribute o "setdefault" apos) [i,x] [] bS) (sO wo wi wx):=PE.imp (K2 ho hi P ⟨base,IF,line,trees⟩) λσ H Q h=>by
 obtain⟨μ,m,mh,R,p,En,h,F⟩:=h;refine⟨μ,m,mh,_,p,En,h,λS r q s vo H1 t u E=>?_⟩;obtain⟨n,rfl,⟨G,T⟩,q⟩:=q;obtain⟨a,rfl,U⟩:=HM u E T;refine⟨a,rfl,U,s,m,r,_,u,En.mono p t,q,λdi y V z vi H2 A R2 W=>?_⟩;refine⟨z,m,y,_,R2,En.mono p (t.trans A),V,λdx B Y b I C J g L=>?_⟩;obtain⟨kvs,key,e,rfl,hz,Z,qb⟩:=Y;obtain⟨a',vs,ea,M,⟨kk,hv,k,rfl⟩,l⟩:=gC g (Is.mono u (A.trans J) _ _ E) e;cases ea;cases eZ W;have N:=F.at ((t.trans A).trans J);have ln:kk.length=kvs.length:=by have:=aC0 List.length k;simp at this;lia
 refine⟨kk,key,hv,rfl,by lia,λv c=>?_,λc=>?_⟩
 ·rcases eX key k l with ⟨d,j⟩ | ⟨d',w,d,j,O⟩
  ·rw[c]at d;cases d
  ·rw[c]at d;cases d;exact N.here g (Z d' j) O
 ·rcases eX key k l with ⟨d,j⟩ | ⟨d',w,d,j,O⟩
  ·have D:aG b C b (upd C a (.dK (putK kk key I))):=aG.set g M;obtain⟨p1,p2⟩:=m7 (f:=aV) gX key L k l;have R4:Rep X.K b (B.set n (.dic false (putD kvs (aV key) dx))) (upd C a (.dK (putK kk key I))):=pS g M (by trivial) ⟨_,⟨_,aQ,p1,rfl⟩,p2.mono g D⟩;exact N _ _ (qb j) b _ _ D R4 (Is.mono g D _ _ L)
  ·rw[c]at d;cases d
@[simp] theorem Z4 {c:dX}{mh:MH}{Q:DK}:BN wo wi wx c mh Q=(wo c mh λo a=>∃n,o= .ref n/\(∃kvs,a[n]? =some (.dic false kvs))/\wi c a λi d=>wx c d λx b=>∃kvs key,b[n]? =some (.dic false kvs)/\i=aV key/\Q ((aU kvs i).getD x) b):=rfl
@[simp] theorem Z0 {c:dX}{mh:MH}{Q:DK}:sO wo wi wx c mh Q↔wo c mh λo b=>∃n,o= .ref n/\(∃kvs,b[n]? =some (.dic false kvs))/\wi c b λi d=>wx c d λx a=>∃kvs key,a[n]? =some (.dic false kvs)/\i=aV key/\kvs.length<sizeLine/\
 (∀v,aU kvs i=some v->Q v a)/\(aU kvs i=none->Q x (a.set n (.dic false (putD kvs i x)))):=Iff.rfl
end
abbrev cF(P:Program)(W:World)(K:aEd)(mg:aEg)(base:Heap)(N:List Str)(q:Str)(S:Stmt)(f:Addr)(a:Value)(A:Around)(o:List Env)(s:Shared)(H:Hp)(E:XK):Cx:=(pE wG P W K mg base N q (aC S) f a A o s H E).GJ
section
variable {P:Program}{W:World}{K:aEd}{mg:aEg}{base:Heap}{N:List Str}{q:Str}{S:Stmt}{f:Addr}{cd:Value}{A:Around}{o:List Env}{s:Shared}{H:Hp}{E:XK}
 {tg iter elt:Expr} {ifs:List Expr} {scope:Scope} {pos:Pos} {wi:WI} {g:TG} {gd:WG} {t:WT} {w:WE} (own:List Str) (aF:List Nat)
def cN(N own:List Str)(aF:List Nat):List Str:=own++aF.map λi=>N.getD i ""
theorem RZ(chk:c9 N (aC S) scope aF=true)(nd:(cN N own aF).Nodup)(a:kP K g gd)(ho:oD own.length g)
  (hi:LI (cF P W K mg base N q S f cd A o s H E) tg iter wi)
  (hg:(cN N own aF).Nodup->∀cl C fp s₀ H₀,PG (aL (cF P W K mg base N q S f cd A o s H E) own aF scope cl C fp s₀ H₀) tg g) (ht:∀cl C fp s₀ H₀,JE (aL (cF P W K mg base N q S f cd A o s H E) own aF scope cl C fp s₀ H₀) ifs t)
  (he:∀cl C fp s₀ H₀,LE (aL (cF P W K mg base N q S f cd A o s H E) own aF scope cl C fp s₀ H₀) elt w)
  (hs:∀x,foldedSetIterable iter (cF P W K mg base N q S f cd A o s H E).env x=pure x:=by intro _;rfl):LE (cF P W K mg base N q S f cd A o s H E) (.ListComp elt [⟨tg,iter,ifs,0⟩] scope pos) (BK own aF wi gd t w):=
 WU (N:=N) (sc:=aC S) own aF rfl rfl chk rfl hi ho a (hg nd) ht he hs
theorem DX{i:Nat}{x:Str}{a c:Pos}(chk:c9 N (aC S) scope aF=true)(nd:(cN N own aF).Nodup)(d:kP K g gd)(ho:oD own.length g)
  (hN:N.Nodup) (hi:LI (cF P W K mg base N q S f cd A o s H E) tg iter wi)
  (hg:(cN N own aF).Nodup->∀cl C fp s₀ H₀,PG (aL (cF P W K mg base N q S f cd A o s H E) own aF scope cl C fp s₀ H₀) tg g) (ht:∀cl C fp s₀ H₀,JE (aL (cF P W K mg base N q S f cd A o s H E) own aF scope cl C fp s₀ H₀) ifs t)
  (he:∀cl C fp s₀ H₀,LE (aL (cF P W K mg base N q S f cd A o s H E) own aF scope cl C fp s₀ H₀) elt w)
  (b:N[i]? =some x:=by rfl) (e:Loc (cF P W K mg base N q S f cd A o s H E).env.scope x:=by first | exact Or.inl rfl | exact Or.inr rfl) (h:swapsWith (.ListComp elt [⟨tg,iter,ifs,0⟩] scope pos) (some (.Name x a)) c.line (cF P W K mg base N q S f cd A o s H E).env=pure true:=by rfl)
  (j:(cF P W K mg base N q S f cd A o s H E).fn x=true\/(cF P W K mg base N q S f cd A o s H E).env.scope.names.lookup x=some .local:=by first | exact .inl rfl | exact .inr rfl | assumption)
  (hs:∀x,foldedSetIterable iter (cF P W K mg base N q S f cd A o s H E).env x=pure x:=by intro _;rfl):LS (cF P W K mg base N q S f cd A o s H E) (.Assign [.Name x a] (.ListComp elt [⟨tg,iter,ifs,0⟩] scope pos) c) (bA (BK own aF wi gd t w) (gN i)):=
 G1 i hN (N:=N) (sc:=aC S) own aF rfl rfl chk rfl hi ho d (hg nd) ht he b e h j hs
end
def nU:HO->Nat
 | .dK kk=>kk.length
 | .dT kk=>kk.length
 | _=>0
def JG:HO->Nat->Hp->V->Prop
 | .dK kk,i,_,x=>∃p,kk[i]? =some p/\x=kV p.1
 | .dT kk,i,H,x=>∃p b,kk[i]? =some p/\x= .ref b/\H b=some (.tup (p.1.map kV))
 | _,_,_,_=>False
def HL:HO->Prop
 | .dK _=>True
 | .dT _=>True
 | _=>False
def Itd(a:Addr)(ob:Obj):It where
 go:=λi H=>∃u,H a=some (.frz ob u)/\HL u/\i<nU u
 NY:=λi H x H' =>H' =H/\∃u,H a=some (.frz ob u)/\JG u i H x
 stop:=λi H=>∃u,H a=some (.frz ob u)/\HL u/\nU u<=i
theorem HB{H:Hp}:∀{kk:List (List Key×V)} {xs:List (List Key×Addr×Value)} {i:Nat},KT H kk xs->i<kk.length->∃p q,kk[i]? =some p/\xs[i]? =some q/\H q.2.1=some (.tup (p.1.map kV))
 | _,_,_,.nil,h=>by simp at h
 | _,_,0,.cons r _,h=>⟨_,_,rfl,rfl,r.2.1⟩
 | _,_,i+1,.cons _ t,h=>by
  obtain⟨p,q,a,b,c⟩:=HB (i:=i) t (by simpa using h);exact⟨p,q,by simpa using a,by simpa using b,c⟩
theorem HA{H:Hp}:∀{kk:List (List Key×V)} {xs:List (List Key×Addr×Value)},KT H kk xs->kk.length=xs.length
 | _,_,.nil=>rfl
 | _,_,.cons _ t=>by simp[HA t]
variable{es:Array DictEntry}
theorem HC{P:Program}{w:World}{H:Hp}{h:Heap}{a:Addr}{ob:Obj}{ep:Nat}{u:HO}(m:HL u)(ok:bO P w H h a u)(ho:h.get? a=some ob)(hd:ob.data= .dict es ep):
  es.size=nU u/\∀i,i<nU u->∃e x,es[i]? =some e/\RelV x e.key/\JG u i H x:=by
 cases u with
 | dK kk=>
  obtain⟨z,n,vs,r,o,f,g,b,s,c,j,k,C⟩:=ok;rw[ho]at b;cases b;rw[hd]at c;cases c;have V:=lU k r;have d:=V.length;simp at d;refine⟨d.symm,λi hi=>?_⟩
  replace hi:i<kk.length:=hi
  obtain⟨y,l,t⟩:=V.get (i:=i) (x:=kV kk[i].1) (by simp[hi]);rw[List.getElem?_map,Option.map_eq_some_iff]at l;obtain⟨e,he,rfl⟩:=l;exact⟨e,_,by simpa using he,t,kk[i],by simp[hi],rfl⟩
 | dT kk=>
  obtain⟨z,n,xs,r,o,f,g,b,s,c,j,k⟩:=ok;rw[ho]at b;cases b;rw[hd]at c;cases c;have d:=aC0 List.length j;simp at d;have hk:=HA r;refine⟨by rw[d];exact hk.symm,λi hi=>?_⟩;obtain⟨p,q,v,A,B⟩:=HB r hi;have:es.toList[i]? =some (entryOfKey (tupleKind (aP P w)) q):=by rw[j,List.getElem?_map,A];rfl
  exact⟨entryOfKey (tupleKind (aP P w)) q,.ref q.2.1,by simpa using this,rfl,p,q.2.1,v,rfl,B⟩
 | _=>exact m.elim
theorem FD{P:Program}{w:World}{K:aEd}{tg:Expr}(it a:Addr){ob:Obj}{ep:Nat}(D:ob.ExactDict)(hd:ob.data= .dict es ep):Turn P w K tg (Itd a ob) [it] it (λi h=>Heap.IsKeyIter h it a i es.size ep) where
 mem:=by simp
 obj:=λi h st b f=>by
  have e:b=it:=by simpa using f
  subst e;obtain⟨o,e,c,d⟩:=st;exact⟨o,e,λv z=>by rw[d]at z;cases z⟩
 keep:=λi h h' st k=>st.at λo e=>k it (by simp) o e
 item:=by
  intro X p q r F i pins s σ H E I m st hg;subst p q r;obtain⟨u,n,g,hi⟩:=hg
  obtain⟨j,t⟩:=(show s.heap.get? a=some ob/\bO X.prog X.w H s.heap a u from I.bD a _ n)
  obtain⟨e,x,G,J,L⟩:=(HC g t j hd).2 i hi;obtain⟨f0,y,M,A,B,C⟩:=m it (by simp);refine xO st ⟨ob,j,D,hd⟩ G λh' l N=>?_;have O:Inv X pins σ H {s with heap:=h'}:=I.turned (t' :=s.toks) (λb o f e=>(N.2 b f).trans e) f0 y A B C;obtain⟨o,e,c,d⟩:=id l;exact⟨_,rfl,yJ (s:={s with heap:=h'}) e c d (by decide) ⟨x,H,O,J,⟨rfl,u,n,L⟩,l,λb f=>(m b f).1⟩⟩
 done:=by
  intro X p q r F i pins s σ H E I m st hg;subst p q r;obtain⟨u,n,g,hi⟩:=hg
  obtain⟨j,t⟩:=(show s.heap.get? a=some ob/\bO X.prog X.w H s.heap a u from I.bD a _ n)
  have hz:=(HC g t j hd).1;obtain⟨f0,y,M,A,B,C⟩:=m it (by simp)
  exact BZ (I.ok.hd F) st ⟨ob,j,D,hd⟩ (by simp;lia) λh' Q=>⟨rfl,I.turned (t' :=s.toks) (λb o f e=>Q b o f e) f0 y A B C⟩
 self:=λ_ _ _ _ _ st h=>wpAny_pyIter_keyiter st h
theorem yP{K:aEd}{μ:List Addr}{mh:MH}{H:Hp}{n:Nat}{a:Addr}{o:MO}{ob:HO}(R:Rep K μ mh H)(h:μ[n]? =some a)(l:j3 K μ (upd H a ob) o a):Rep K μ (mh.set n o) (upd H a ob):=by
 have P:aG μ H μ (upd H a ob):=aG.set R h;refine⟨by simp[R.len],R.nd,λm b f d e=>?_⟩;by_cases c:m=n
 ·subst c;rw[h]at d;cases d;have g:m<mh.length:=by rw[<-R.len];exact(aB2.mp h).1
  rw[List.getElem?_set_self g]at e;cases e;exact l
 ·rw[List.getElem?_set_ne (Ne.symm c)]at e;exact(R.obj m b f d e).mono R P (aN λz=>c (sY R.nd d (by rw[z];exact h)))
def BM(w:WE):WI:=λb mh Q=>w b mh λx a=>∃n t kvs,x= .ref n/\((a[n]? =some (.dic t kvs)/\∀ob,Q (kvs.map (·.1)) (λmh' =>mh'[n]? =some (.fdc t kvs ob)) (a.set n (.fdc t kvs ob)))\/
 ∃ob,a[n]? =some (.fdc t kvs ob)/\Q (kvs.map (·.1)) (λmh' =>mh'[n]? =some (.fdc t kvs ob)) a)
section
variable {K:aEd}{μ:List Addr}{mh:MH}{H:Hp}{n:Nat}{a:Addr}{t:Bool}{kvs:List (D×D)}{ob:Obj}
theorem nN{u:HO}{ks:List D}{vs:List V}(h:o5 (some u) ks vs t):HL u/\nU u=ks.length:=by
 cases t with
 | false=>obtain⟨kk,e,rfl,_⟩:=h;cases e;exact⟨trivial,by simp[nU]⟩
 | true=>obtain⟨kk,e,rfl,_⟩:=h;cases e;exact⟨trivial,by simp[nU]⟩
theorem HD{u:HO}{ks:List D}{vs:List V}{i:Nat}{d:D}{x:V}(h:o5 (some u) ks vs t)(hd:ks[i]? =some d)(k:JG u i H x):Is K μ H d x:=by
 cases t with
 | false=>
  obtain⟨kk,e,rfl,_⟩:=h;cases e;obtain⟨p,a,rfl⟩:=k;rw[List.getElem?_map,a]at hd;cases hd;exact HI _
 | true=>
  obtain⟨kk,e,rfl,_⟩:=h;cases e;obtain⟨p,b,a,rfl,c⟩:=k;rw[List.getElem?_map,a]at hd;cases hd;unfold Is;exact⟨b,_,rfl,.inl c,pR _⟩
theorem SV(m:μ[n]? =some a)(hz:kvs.length<=sizeLine):zH K μ H (kvs.map (·.1)) (λmh' =>mh'[n]? =some (.fdc t kvs ob)) (Itd a ob):=by
 refine⟨by simpa using hz,λμ' mh' H' g c hs i d e=>?_,λμ' mh' H' g c hs=>?_⟩
 ·obtain⟨vs,u,hv,f,l⟩:=c.obj n a _ (g.get m) hs;obtain⟨h,j⟩:=nN f;refine⟨⟨u,hv,h,by rw[j];exact(aB2.mp e).1⟩,λx H'' y=>?_⟩;obtain⟨rfl,o,b,k⟩:=y;rw[hv]at b;cases b;exact⟨aG.refl,c,HD f e k⟩
 ·obtain⟨vs,u,hv,f,l⟩:=c.obj n a _ (g.get m) hs;obtain⟨h,j⟩:=nN f;exact⟨u,hv,h,by rw[j];exact aB3 _⟩
theorem freeze{X:Cx}{pins:List (Addr×Obj)}{σ:L2.St}{s:Shared}{u:HO}(I:Inv X pins σ H s)(e:H a=some u)(j:HL u):
  ∃ob es ep,s.heap.get? a=some ob/\ob.ExactDict/\ob.data= .dict es ep/\(a==sysModules)=false/\Inv X pins σ (upd H a (.frz ob u)) s:=by
 have ok:=I.bD a u e
 obtain⟨ob,es,ep,c,g,h,i⟩:∃ob es ep,s.heap.get? a=some ob/\ob.ExactDict/\ob.data= .dict es ep/\(a==sysModules)=false:=by
  cases u with
  | dK kk=>obtain⟨z,i,vs,r,o,d,f,c,g,h,_⟩:=ok;exact⟨o,d,f,c,g,h,i⟩
  | dT kk=>obtain⟨z,i,xs,r,o,d,f,c,g,h,_⟩:=ok;exact⟨o,d,f,c,g,h,i⟩
  | _=>exact j.elim
 have k:A9 (H a):=by rw[e];cases u <;> first | exact j.elim | trivial
 refine⟨ob,es,ep,c,g,h,i,?_⟩;refine I.write (t' :=s.toks) (h' :=s.heap) k (.inl rfl) (λb u _ q=>q) ⟨ob,c⟩ ⟨c,?_⟩;refine ok.xF (λb u _ q=>q) (λb q=>?_) λb xs q=>?_
 ·rw[aN (λz=>by subst z;rw[e]at q;cases q;exact j)];exact q
 ·rw[aN (λz=>by subst z;rw[e]at q;cases q;exact j)];exact q
end
section
variable {X:Cx}{tg l:Expr}{w:WE}
theorem RS(Y:LE X l w):LI X tg l (BM w):=by
 intro pins s σ H R I h;obtain⟨μ,Z,mh,S,RR,En,h,F⟩:=h
 refine cA (Y pins s σ H (λv j=>∃c x f,aG μ H c j/\Rep X.K c f j/\Is X.K c j x v/\∃n t kvs,x= .ref n/\((f[n]? =some (.dic t kvs)/\∀ob,S (kvs.map (·.1)) (λmh' =>mh'[n]? =some (.fdc t kvs ob)) (f.set n (.fdc t kvs ob)))\/
  ∃ob,f[n]? =some (.fdc t kvs ob)/\S (kvs.map (·.1)) (λmh' =>mh'[n]? =some (.fdc t kvs ob)) f)) I ⟨μ,Z,mh,_,RR,En,h,λd f q c v j O y E=>⟨c,d,f,O,y,E,q⟩⟩) λv s1 zz=>?_
 obtain⟨x,j,E,r1,c,dx,f,O,y,ix,n,t,kvs,rfl,q⟩:=zz;obtain⟨a,J,rfl⟩:=fG ix;cases r1
 have L:∀{G:Hp} {B:MH} {ob:Obj} {es:Array DictEntry} {ep:Nat},Inv X pins σ G s1->aG μ H c G->Rep X.K c B G->s1.heap.get? a=some ob->ob.ExactDict->ob.data= .dict es ep->(a==sysModules)=false->kvs.length<=sizeLine->
   S (kvs.map (·.1)) (λmh' =>mh'[n]? =some (.fdc t kvs ob)) B->wpAny (model X.prog X.w) X.A (pyIter (.ref a)) (YO X pins σ tg R) X.xe s1:=λ{G B ob es ep} M P R2 k g i T hz q=>by
  refine xN T ⟨ob,k,g,i⟩ ?_;refine⟨s1.heap.objs.size,[s1.heap.objs.size],_,_,G,rfl,M.kept (t' :=s1.toks) λb o e=>aB1 _ e,FD _ a g i,⟨_,aB4 _ rfl,rfl,rfl⟩,λb hb=>?_,F _ _ _ q c _ G P R2 (SV J hz)⟩;have e:b=s1.heap.objs.size:=by simpa using hb
  subst e;exact M.AR (aB3 _) (M.bD.fresh (aB3 _))
 rcases q with ⟨e,q⟩ | ⟨ob,e,q⟩
 ·obtain⟨vs,hv,V⟩:=y.obj n a _ J e
  obtain⟨u,W,Q⟩:∃u,j a=some u/\o5 (some u) (kvs.map (·.1)) vs t:=by
   cases t with
   | false=>obtain⟨kk,z,r⟩:=hv;exact⟨_,z,kk,rfl,r⟩
   | true=>obtain⟨kk,z,r⟩:=hv;exact⟨_,z,kk,rfl,r⟩
  obtain⟨m,p⟩:=nN Q;obtain⟨ob,es,ep,k,g,i,T,M⟩:=freeze E W m
  have hz:kvs.length<=sizeLine:=by
   have ok:=E.bD a u W
   cases u with
   | dK kk=>
    obtain⟨z,_⟩:=ok;have:kk.length=kvs.length:=by simpa[nU] using p
    lia
   | dT kk=>
    obtain⟨z,_⟩:=ok;have:kk.length=kvs.length:=by simpa[nU] using p
    lia
   | _=>exact m.elim
  have P:aG c j c (upd j a (.frz ob u)):=aG.set y J;exact L M (O.trans P) (yP (o:= .fdc t kvs ob) y J ⟨vs,u,aQ,Q,IsL.mono y P _ vs V⟩) k g i T hz (q ob)
 ·obtain⟨vs,u,hv,Q,V⟩:=y.obj n a _ J e;obtain⟨m,p⟩:=nN Q
  obtain⟨U,ok⟩:=(show s1.heap.get? a=some ob/\bO X.prog X.w j s1.heap a u from E.bD a _ hv)
  obtain⟨es,ep,g,i,N,hz⟩:∃es ep,ob.ExactDict/\ob.data= .dict es ep/\(a==sysModules)=false/\nU u<=sizeLine:=by
   cases u with
   | dK kk=>obtain⟨z,N,vs,r,o,C,D,k,g,i,_⟩:=ok;rw[U]at k;cases k;exact⟨C,D,g,i,N,z⟩
   | dT kk=>obtain⟨z,N,xs,r,o,C,D,k,g,i,_⟩:=ok;rw[U]at k;cases k;exact⟨C,D,g,i,N,z⟩
   | _=>exact m.elim
  exact L E O y U g i N (by rw[p]at hz;simpa using hz) q
end
def kOk:Bool->D->Prop
 | false,y=>∃key,y=aV key
 | true,y=>∃ks:List Key,y= .tup (ks.map aV)
def TN(mh:MH)(n:Nat)(t:Bool)(kvs:List (D×D)):Prop:=mh[n]? =some (.dic t kvs)\/∃ob,mh[n]? =some (.fdc t kvs ob)
theorem p8{K:aEd}{μ:List Addr}{H:Hp}(key:List Key):∀{kvs:List (D×D)} {kk:List (List Key×V)},kvs.map (·.1)=kk.map (λp=>.tup (p.1.map aV))->IsL K μ H (kvs.map (·.2)) (kk.map (·.2))->
  (iE kk key=none/\aU kvs (.tup (key.map aV))=none)\/∃d v,iE kk key=some v/\aU kvs (.tup (key.map aV))=some d/\Is K μ H d v
 | [],[],_,_=>.inl ⟨rfl,rfl⟩
 | [],_::_,h,_=>by simp at h
 | _::_,[],h,_=>by simp at h
 | p::kvs,q::kk,h,l=>by
  simp only[List.map_cons,List.cons.injEq]at h;simp only[List.map_cons]at l;unfold IsL at l;obtain⟨w,r,e,i,l⟩:=l;simp only[List.cons.injEq]at e;obtain⟨rfl,rfl⟩:=e;by_cases hk:q.1=key
  ·right;have c:p.1= .tup (key.map aV):=by rw[h.1,hk]
   exact⟨p.2,q.2,jI hk,by simp[aU,c],i⟩
  ·have c:¬p.1= .tup (key.map aV):=λz=>hk (by
    have:=h.1.symm.trans z;simp only[D.tup.injEq]at this
    exact(aE4 (f:=aV) λa b e=>gX e).mp this)
   rw[jJ hk];simp only[aU,if_neg c];exact p8 key h.2 l
section
variable {X:Cx}{pins:List (Addr×Obj)}{σ:L2.St}{H:Hp}{s:Shared}{a:Addr}
theorem vM{μ:List Addr}{mh:MH}{n:Nat}{t:Bool}{kvs:List (D×D)}{v:V}(R:Rep X.K μ mh H)(h:Is X.K μ H (.ref n) v)(e:TN mh n t kvs):∃a vs u,v= .ref a/\Rd H a u/\o5 (some u) (kvs.map (·.1)) vs t/\IsL X.K μ H (kvs.map (·.2)) vs:=by
 obtain⟨a,q,rfl⟩:=fG h;rcases e with e | ⟨ob,e⟩
 ·obtain⟨vs,hv,l⟩:=R.obj n a _ q e
  cases t with
  | false=>obtain⟨kk,z,r⟩:=hv;exact⟨a,vs,_,rfl,.inl z,⟨kk,rfl,r⟩,l⟩
  | true=>obtain⟨kk,z,r⟩:=hv;exact⟨a,vs,_,rfl,.inl z,⟨kk,rfl,r⟩,l⟩
 ·obtain⟨vs,u,hv,b,l⟩:=R.obj n a _ q e;exact⟨a,vs,u,rfl,.inr ⟨ob,hv⟩,b,l⟩
theorem MJ{b:Addr}{ks:List Key}(I:Inv X pins σ H s)(e:pG X.K H b (ks.map kV)):(tupleKind (aP X.prog X.w)).is s.heap ks b:=by
 obtain⟨aH,r,⟨o,a,c,n,d⟩,_⟩:=I.tuple e;exact⟨o,aH.toArray,n,a,c,d,by simpa using n5 r⟩
def Q7:O2:=λy x mh Q=>∃n t kvs,x= .ref n/\TN mh n t kvs/\kOk t y/\Q (.bl (aU kvs y).isSome) mh
theorem QV(G:X.A.units+64<cLine):cS X (compareOp .In) (aY X.K Q7):=by
 intro pins s σ H y x u v Q I i r q;obtain⟨μ,mh,J,dx,R,f,j,B,⟨n,t,kvs,rfl,e,hk,q⟩,F⟩:=q;obtain⟨a,vs,L,rfl,k,m,l⟩:=vM f B e;cases r
 cases t with
 | false=>
  obtain⟨kk,z,g,rfl⟩:=m;cases z;obtain⟨key,rfl⟩:=hk;cases eZ j;refine XI (by lia) I (.inl ⟨kk,key,k,rfl,rfl⟩) i λM o =>?_
  rcases eX key g l with ⟨c,d⟩ | ⟨d',w,c,d,C⟩
  ·rw[c];rw[d]at q;exact⟨.bl false,H,o,rfl,F.here f q .bl⟩
  ·rw[c];rw[d]at q;exact⟨.bl true,H,o,rfl,F.here f q .bl⟩
 | true=>
  obtain⟨kk,z,g,rfl⟩:=m;cases z;obtain⟨ks,rfl⟩:=hk;obtain⟨b,N,rfl,sq,D⟩:=cQ j;cases gY D;cases i;obtain⟨z,hd,xs,h,E⟩:=oW I.bD k;refine wpAny_in_heap (aCl (by lia)) (MJ I sq) hd E ?_;have p:=(h.val ks).fB;rw[Option.isSome_map]at p;rw[<-p]
  rcases p8 ks g l with ⟨c,d⟩ | ⟨d',w,c,d,C⟩
  ·rw[c];rw[d]at q;exact⟨.bl false,H,I.tok _,rfl,F.here f q .bl⟩
  ·rw[c];rw[d]at q;exact⟨.bl true,H,I.tok _,rfl,F.here f q .bl⟩
end
open PySem.Calls
theorem YG{l:PySem.W.OpenLaw}{q:Program}{loose:List Str}{K:Params->aEd}{as:List Addr}{d:DefRec}{a:List (Str×Expr)}{N:Nat}(ok:l.wellSaid=true)(e:∀P,as=(K P).map (·.1))
  (left:PySem.W.LeftO l.prog q loose (λ_=>true) (λs=>as.map s.heap.get?) (λw=>(K w.params).map λp=>some p.2) N)
  (b:PySem.W.defOf q l.name=some (d,a)) (h:l.prog.theDef l.name=some (d.params,d.body,d.scope)) (hk:PySem.W.kwWritten? d.params.kwonlyargs d.params.kw_defaults=some a)
  (g:(PySem.W.chainsOk q && PySem.W.opensWell l.prog && (PySem.W.frees l.row.toRowW && l.row.within.isEmpty))=true) (i:l.prog.bare) (j:l.row.toRowW.promised)
  (call:PySem.W.WalkO q loose (λ_ _=>True) (PySem.W.InK K) l.row.toRowW d a λf vs=>PySem.call f vs):l.Holds:=
 PySem.W.holds_law ok λc=>PySem.W.holds_open (r:=l.row) (XP:=λ_ _=>True) left (PySem.W.InK.of e) PySem.W.InK.keeps (λ_ _=>trivial) (λ_ _ _ _ _=>trivial) b h hk
  (λs _=>PySem.W.recFacts_of (R:=[]) rfl) (Bool.or_true _) c g i j call
section
variable {P:Program}{W:World}{K:aEd}{mg:aEg}{base:Heap}{N:List Str}{q:Str}{S:Stmt}{f:Addr}{cd:Value}{A:Around}{o:List Env}{s:Shared}{H:Hp}{E:XK}
 {tg iter elt:Expr} {ifs:List Expr} {scope:Scope} {pos p1 p2:Pos} {wi:WI} {g:TG} {gd:WG} {t:WT} {w:WE} (own:List Str) (aF:List Nat)
end
theorem tN{prog:Program}{w:World}{A:Around}{E:aEe}{it l:Addr}{d:Array Value}(e:l≠it):∀(n i:Nat) (s:Shared) (Q:List Value->Shared->Prop),s.heap.IsListIter it l i->s.heap.IsList l d->i+n<=d.size->
  (∀h',h'.IsListIter it l (i+n)->Heap.SameBut it s.heap h' ->Q ((d.toList.drop i).take n) {s with heap:=h'})->wpAny (model prog w) A (draw (.ref it) n) Q E s
 | 0,i,s,Q,a,_,_,q=>aB0 (by simpa using q s.heap a (aCh ..))
 | n+1,i,s,Q,a,b,c,q=>by
  have f:i<d.size:=by lia
  show wpAny _ _ (pyNext (.ref it) >>=_) Q E s;refine aAz (wpAny_pyNext_list_item a b (x:=d[i]) (by simp[f]) λk g s1=>?_);refine aAz (aBf (tN e n (i+1) _ _ g (b.extBut s1.extBut e) (by lia) λh j s2=>aB0 ?_));have:=q h (by rw[show i+(n+1)=i+1+n by lia];exact j) (s1.trans s2);rw[show d.toList.drop i=d[i]::d.toList.drop (i+1) by simp[List.drop_eq_getElem_cons,f],List.take_succ_cons]at this;exact this
variable {X:Cx}{pos:Pos}
def aAi(K:aEd)(n:Nat)(t:zE):TG:=λv σ H Q=>∃a xs,v= .ref a/\nV K H a xs/\xs.length=n/\t xs σ H Q
theorem QC{es:List Expr}{k:Nat}{t:zE}{n:Nat}(p:X.calm=true)(h:NQ X es t)
  (q:(assignEach es X.env).length=n:=by rfl) (f:(assignEach es X.env).findIdx? (·.1)=none:=by rfl):PG X (.Tuple es k pos) (aAi X.K n t):=by
 intro pins s σ H v u Q I r g;obtain⟨a,xs,w,x,B,g⟩:=g;subst w;cases r;obtain⟨aH,l,m,hz⟩:=I.list x;have C:=l.length;rw[assign_Tuple];refine aAz (aCv ?_);unfold unpack;rw[q,f];refine aAz (aBf ?_);unfold unpackItems;refine aAz ?_;unfold notIterableAtAll;refine aAz (wpAny_specialOf m.isList.typeIs slot_list_iter.lookup ?_);refine aB0 ?_;simp only[Bool.false_eq_true,if_false];refine aAz (aBf (j9 m.isList λs2 y st c=>?_));subst y;refine aAz (aBf (tN c n 0 _ _ st.1 st.2 (by simp;lia) λD i d=>?_));rw[show List.take n (List.drop 0 aH.toArray.toList)=aH from List.take_of_length_le (by simp;lia),if_neg (by lia)];refine aAz (aBf (wpAny_pyNext_list_end (I.ok.hd p) i (st.2.extBut d.extBut c) (by simp;lia) λz j=>?_));simp only[Option.isSome_none,Bool.false_eq_true,if_false];refine aB0 ?_;have A:Inv X pins σ H {s with heap:=z}:=I.kept (t' :=s.toks) λb o e=>j b o (aB9 (aB5 e)) (d.extBut b o (aB9 (aB5 e)) (aB1 _ e));exact h pins _ σ H xs _ Q A l g
def noT(o:Obj):Bool:=match o.data with | .seq aH _=>decide (aH.size<2) | _=>true
def UN(K:aEd):Prop:=∀a o,K.lookup a=some o->noT o=true
theorem RB:∀{K:aEd},(K.all λp=>noT p.2)=true->UN K
 | [],_,a,o,e=>by cases e
 | (b,u)::K,h,a,o,e=>by
  simp only[List.all_cons,Bool.and_eq_true]at h;rw[List.lookup_cons]at e;split at e
  ·cases e;exact h.1
  ·exact RB h.2 a o e
theorem ES.own{K:aEd}{H:Hp}{a:Addr}{xs:List V}(nt:UN K)(h:ES K H a xs)(b:2<=xs.length):H a=some (.tup xs):=by
 rcases h with h | ⟨o,aH,n,e,_,_,c,_,r⟩
 ·exact h
 ·have:=nt a o e;have:=r.length;simp_all[noT]
  lia
def VQ(o k d:D)(mh:MH)(Q:MH->Prop):Prop:=∃n kvs,∃ks:List Key,o= .ref n/\mh[n]? =some (.dic true kvs)/\k= .tup (ks.map aV)/\2<=ks.length/\kvs.length<sizeLine/\Q (mh.set n (.dic true (putD kvs k d)))
def wR(w g wi:WE):WS:=λE a mh=>w a mh λd b=>g a b λo c=>wi a c λi e=>VQ o i d e λf=>E.nx a f
section
variable {X:Cx}{pos pos' lS:Pos}{o i e:Expr}{es:List Expr}{w wo wi:WE}{wa:WA}
theorem LX(nt:UN X.K)(hu:X.A.units+64<cLine)(he:LE X e w)(ho:LE X o wo)(hi:LE X i wi)(hs:swapsWith e (some (.Subscript o i pos')) pos.line X.env=pure false:=by rfl):LS X (.Assign [.Subscript o i pos'] e pos) (wR w wo wi):=
 PS.imp (uL (by lia) ho hi he hs) λD σ H h=>by
  obtain⟨μ,k,mh,E,R,En,h,F⟩:=h;refine⟨μ,k,mh,_,R,En,h,λd p q r v H1 s G M=>?_⟩;refine⟨r,k,p,_,G,En.mono R s,q,λN u O x vo H2 y R2 P=>?_⟩;refine⟨x,k,u,_,R2,En.mono R (s.trans y),O,λdi z Q g vi B C m S=>?_⟩;obtain⟨n,kvs,c,rfl,T,rfl,U,hz,V⟩:=Q;obtain⟨a,vs,rfl,I,⟨kk,hv,J,rfl⟩,l⟩:=gC m (Is.mono R2 C _ _ P) T;obtain⟨b,ys,rfl,sq,W⟩:=pP S;cases gY W;have Y:=Is.mono G (y.trans C) d v M;have L:aG g B g (upd B a (.dT (putK kk c v))):=aG.set m I;have ln:kk.length=kvs.length:=by have:=aC0 List.length J;simp at this;lia
  obtain⟨Z,p2⟩:=m7 (f:=λks:List Key=>D3.D.tup (ks.map aV)) yD c Y J l;have R4:Rep X.K g (z.set n (.dic true (putD kvs (.tup (c.map aV)) d))) (upd B a (.dT (putK kk c v))):=pS m I (by trivial) ⟨_,⟨_,aQ,Z,rfl⟩,p2.mono m L⟩;have j:=((s.trans y).trans C).trans L;exact⟨a,_,rfl,.t hv (sq.own nt (by simpa using U)) (by lia),F.nx k _ V g σ _ j R4 (En.mono R j)⟩
end
def nS:OA:=λxs mh Q=>∃ds,xs=[.tup ds]/\ds.length<64/\EW ds/\
 ∀a,a.Perm ds->a.Pairwise (λd e=>lx (enc e) (enc d)=false)->Q (.ref mh.length) (mh++[.lst a])
section
variable {X:Cx}
theorem AZ(hu:X.A.units+64<cLine):bR X (.builtin "sorted") (cP X.K nS):=by
 intro pins s σ H xs us Q I r q;obtain⟨μ,mh,ds,R,N,O,⟨es,rfl,P,U,q⟩,F⟩:=q;obtain⟨v,rfl,S⟩:=eP O;obtain⟨a,vs,rfl,sq,l⟩:=cQ S;obtain⟨u,rfl,T⟩:=vals1 r;cases T;obtain⟨aH,i,V,hz⟩:=I.tuple sq;have sz:=aBk;have j:=fD I es (oB U) l i;have G:aH.length=es.length:=bC j;have W:X.A.in1.in1.units+40<cLine:=by show X.A.units+1+1+40<_;lia
 obtain⟨o,ho,Y,n,hd⟩:=V
 refine TS.xH (A:=X.A) (u4 s.heap) (Ok:=λvs Z =>vs=aH/\∃c,Z ={s with heap:=c}/\∀b o,s.heap.get? b=some o->c.get? b=some o)
  (λE R hR=>wpAny_collect_seq a (.inr rfl) ho Y hd (λh' k=>hR _ _ ⟨by simp,h',rfl,k⟩) (by simp;lia)) ?_ ?_ ?_
 ·rintro J _ ⟨e,_⟩;rw[e];lia
 ·rintro J _ ⟨e,c,rfl,hk⟩;rw[e];by_cases g:2<=aH.length
  ·obtain⟨κ,p⟩:=mX (prog:=X.prog) (w:=X.w) (A:=X.A.in1.in1) W U j g;exact⟨κ,λ_ h' k=>p h' λb o e=>k b o (hk b o e)⟩
  ·exact⟨general',λz=>absurd z g⟩
 ·rintro J _ ⟨e,c,rfl,hk⟩ out x y g ep kept B;rw[e]at x;obtain⟨ts,t1,t2,t3,t4⟩:=J2 l i j;rw[<-t3]at x;obtain⟨f,C,L⟩:=eD (·.u) x ts rfl;have h:∀t∈f,Is X.K μ H t.d t.v/\RelV t.v t.u/\Vl s.heap t.d t.u:=λt ht=>t4 t (C.mem_iff.mp ht);have pd:(f.map (·.d)).Perm es:=by rw[<-t1];exact C.map _
  have pw:(f.map (·.d)).Pairwise (λd e=>lx (enc e) (enc d)=false):=by
   rw[<-L]at y;rw[List.pairwise_map]at y⊢;refine y.imp_of_mem λ{t t'} m m' c=>?_;have e1:dv s.heap t.u=t.d:=iU (h t m).2.2;have e2:dv s.heap t'.u=t'.d:=iU (h t' m').2.2;unfold ltV at c;rw[e1,e2]at c;exact c
  have ln:(f.map (·.v)).length<=sizeLine:=by
   have:=C.length_eq;have D :=aC0 List.length t2;have:=i.length;simp at D ⊢
   lia
  have M:Inv X pins σ H {s with heap:=c}:=Inv.drawn I rfl rfl hk
  have I1:Inv X pins σ (upd H c.objs.size (.lst (f.map (·.v)))) {s with heap:=g}:=
   M.laid (h' :=g) (t' :=s.toks) kept (aB3 _) ⟨ln,out,ep,by rw[<-L];exact mU λt ht=>(h t ht).2.1,B⟩
  exact⟨.ref c.objs.size,_,I1,rfl,fW N F (pQ λt ht=>(h t ht).1) (q _ pd pw) _ (M.bD.fresh (aB3 _))⟩
end
end D3
namespace HT
open PySem PyProof.Rows
open PySem.SeqAt
end HT
namespace D3
open PySem PySem.Spec PyProof.Rows L2
section
variable {P:Program}{W:World}{K:aEd}{mg:aEg}{base:Heap}{N:List Str}{q:Str}{S:Stmt}{f:Addr}{cd:Value}{A:Around}{o:List Env}{s:Shared}{H:Hp}{E:XK}
 {tg iter elt:Expr} {ifs:List Expr} {scope scope0:Scope} {pos:Pos} {wi:WI} {g:TG} {gd:WG} {t:WT} {w:WE} {own0:List Str} {caps0:List Nat} {cl0:List (Str×Addr)} {C0:Addr} {fp0:List Addr} {s0:Shared} {H0:Hp} (own:List Str) (aF:List Nat)
end
def lK:Nat->List D->List D
 | _,[]=>[]
 | k,d::ds=>.tup [.int (k:Nat),d]::lK (k+1) ds
theorem cO:∀(k:Nat) (ds:List D),(lK k ds).length=ds.length
 | _,[]=>rfl
 | k,d::ds=>by simp[lK,cO (k+1) ds]
theorem gZ:∀{k:Nat} {ds:List D} {i:Nat} {x:D},(lK k ds)[i]? =some x->∃d,ds[i]? =some d/\x= .tup [.int ((k+i:Nat):Int),d]
 | k,[],i,x,h=>by simp[lK]at h
 | k,d::ds,0,x,h=>by simp[lK]at h;exact⟨d,rfl,by rw[<-h];rfl⟩
 | k,d::ds,i+1,x,h=>by
  obtain⟨e,he,rfl⟩:=gZ (k:=k+1) (ds:=ds) (i:=i) (by simpa[lK] using h);exact⟨e,by simpa using he,by rw[show k+1+i=k+(i+1) by lia]⟩
def O1(b:WA):WI:=λc mh Q=>b c mh λxs a=>∃x ds,xs=[x]/\aT a x=some ds/\ds.length<=sizeLine/\Q (lK 0 ds) (λmh' =>aT mh' x=some ds) a
@[simp] theorem s_en (a:WE)(g:dX)(mh:MH)(P:List D->(MH->Prop)->MH->Prop):O1 (aA a aE) g mh P=(a g mh λx b=>got (aT b x) λds=>ds.length<=sizeLine/\P (lK 0 ds) (λmh' =>aT mh' x=some ds) b):=by
 unfold O1;simp only[PL,VB];congr 1;funext x b;apply propext;rw[<-dN];constructor
 ·rintro⟨y,ds,e,c,d,f⟩;cases e;exact⟨ds,c,d,f⟩
 ·rintro⟨ds,c,d,f⟩;exact⟨x,ds,rfl,c,d,f⟩
section
variable {X:Cx}{e:Expr}{elts:List Expr}{wa:WA}{p pos lS:Pos}
theorem WN{x1}(hg:Gl X "enumerate")(A:X.mg "enumerate"=none)(B:LA X [e] wa)
  (hs:starEach [e] X.env=(false,eval e X.env)::starEach [] X.env:=by rfl):
  LI X (.Tuple elts x1 lS) (.Call (.Name "enumerate" p) [e] [] pos) (O1 wa):=
 PI.imp (VS hg A B (by decide+kernel) hs) λσ H R h=>by
  obtain⟨μ,C,mh,f,D,En,h,F⟩:=h;refine⟨μ,C,mh,_,D,En,h,λxs m q g vs o E r G=>?_⟩;obtain⟨x,ds,rfl,I,hz,q⟩:=q;obtain⟨v,rfl,s⟩:=eP G;obtain⟨a,xs,rfl,J,P⟩:=nX r s I;refine⟨a,HK x,rfl,⟨xs,J⟩,F _ _ m q g _ o E r ?_⟩
  have c:∀μ' mh' H',hG g o μ' H' ->Rep X.K μ' mh' H' ->aT mh' x=some ds->∃xs,zK X.K H' (HK x) a xs/\IsL X.K μ' H' ds xs:=λμ' mh' H' j f st=>by
   obtain⟨Q,b,L,s1,k⟩:=nX f (Is.lG j _ _ s) st;cases L;exact⟨b,s1,k⟩
  refine⟨by rw[cO];exact hz,λμ' mh' H' j f st i d M=>?_,λμ' mh' H' j f st=>?_⟩
  ·obtain⟨b,s1,k⟩:=c μ' mh' H' j f st;obtain⟨d',N,rfl⟩:=gZ M;obtain⟨l,t,i1⟩:=d3 k N;refine⟨⟨b,l,s1,t⟩,λz H'' O=>?_⟩;obtain⟨u,S,w,rfl,rfl,n⟩:=O;have:=n b s1;rw[t]at this;cases this;have y:aG μ' H' μ' (upd H' u (.tup [.int i,l])):=aG.new f w;refine⟨y,f.new w,?_⟩;unfold Is;refine⟨u,[.int i,l],rfl,.of aQ,?_⟩;unfold IsL;exact⟨.int i,[l],rfl,by rw[Nat.zero_add];unfold Is;rfl,kA (Is.mono f y _ _ i1)⟩
  ·obtain⟨b,s1,k⟩:=c μ' mh' H' j f st;rw[cO];exact⟨b,s1,by rw[aO k];exact aB3 _⟩
end
section
variable {prog:Program}{w:World}
noncomputable instance:DecidableEq DN:=λ_ _=>Classical.propDecidable _
end
theorem LV{X:Cx}{b:Expr}{c:List Comprehension}{scope:Scope}{bS pos a :Pos}{w:WE}(i:Nat){x:Str}(hN:X.N.Nodup)(he:LE X (.ListComp b c scope bS) w)(hi:X.N[i]? =some x:=by rfl)(d:Loc X.env.scope x:=by first | exact Or.inl rfl | exact Or.inr rfl)(hs:swapsWith (.ListComp b c scope bS) (some (.Name x a)) pos.line X.env=pure false:=by rfl)(e:X.fn x=true\/X.env.scope.names.lookup x=some .local:=by first | exact .inl rfl | exact .inr rfl | assumption):
  LS X (.Assign [.Name x a] (.ListComp b c scope bS) pos) (bA w (gN i)):=AH i hN he hi d hs e
end D3
namespace L2
open PySem PySem.Spec PyProof.Rows
end L2
namespace D3
open PySem PySem.Spec PyProof.Rows L2
end D3
namespace ST
open PySem PySem.SetTable
theorem iK{α:Type}(xs:Array α)(p:Nat):(eraseAt xs p).toList=xs.toList.eraseIdx p:=by
 unfold eraseAt;rw[List.eraseIdx_eq_take_drop_succ];simp[Array.toList_extract];rw[List.take_of_length_le (by simp)]
theorem oN{α b:Type}(f:α->b):∀(l:List α) (j:Nat),(l.eraseIdx j).map f=(l.map f).eraseIdx j
 | [],j=>by simp
 | a::l,0=>rfl
 | a::l,j+1=>by simp[oN f l j]
theorem nM{α:Type}:∀(l:List α) (j:Nat) (h:j<l.length),(l[j]::l.eraseIdx j).Perm l
 | a::l,0,_=>.refl _
 | a::l,j+1,h=>by
  simp only[List.getElem_cons_succ,List.eraseIdx_cons_succ];exact(List.Perm.swap _ _ _).trans ((nM l j (by simpa using h)).cons a)
variable{l:Bool}
theorem mD.drop{t:SetTable}(h:mD l t)(i:Nat):mD l (t.drop i):=by
 unfold SetTable.drop;split
 ·refine⟨?_,h.led⟩;unfold zF;rw[iK];exact List.Pairwise.sublist (List.eraseIdx_sublist _ _) h.JO
 ·exact h
theorem ED{t:SetTable}{n i:Nat}(h:t.fits n=true)(hi:i<n):(t.drop i).fits (n-1)=true:=by
 unfold SetTable.fits SetTable.fill at*;simp only[Bool.and_eq_true,beq_iff_eq,decide_eq_true_eq]at*;obtain⟨b,c⟩:=h;have e:t.place[i]? =some (t.place[i]'(by lia)):=by simp
 unfold SetTable.drop;rw[e]
 have d:(eraseAt t.place i).size=t.place.size-1:=by
  rw[<-Array.length_toList,iK,List.length_eraseIdx_of_lt (by simp;lia),Array.length_toList]
 have a:∀j,(insertAt t.dummies (below t.dummies j) j).size<=t.dummies.size+1:=λj=>by
  unfold insertAt;simp;lia
 have:=a (t.place[i]'(by lia));simp only;refine⟨by lia,by lia⟩
section
variable {prog:Program}{w:World}{K:Type}[DecidableEq K]{knd:KeyKind prog w K}{A:Around}{E:aEe}{s:Shared}
theorem aAl{a:Addr}{ks:List K}{k:K}{x:Value}{Q:Bool->Shared->Prop}(d:knd.is k x=true)(hsc:x.scannable=true)(D:cE knd l s.heap a ks)
  (h:∀h',Heap.SameBut a s.heap h' ->cE knd l h' a (ks.erase k)->Q (decide (k∈ks)) {s with heap:=h'}):
  wpAny (model prog w) A (setDiscardHashed a x (knd.hash k)) Q E s:=by
 obtain⟨o,es,ep,t,ho,hex,hd,he,nd,B,f,ht⟩:=D;have g:=he.elems;have c:=he.mem;unfold setDiscardHashed setFind setFindIn;refine aAz (aAz (aBj ho hd f ?_));dsimp only;rw[byScan_of hsc B g];simp only[↓reduceIte];refine aAz (aC5 ?_);refine aAz (wpAny_setScan_of d ho hd f g ?_)
 cases hr:List.findIdx? (λe=>knd.is k e.2) es.toList with
 | none=>
  dsimp only
  have b:k∉ks:=λhk=>by
   obtain⟨e,he,n⟩:=(c k).mp hk;have:=aDc.mp hr e he;rw[n]at this;exact Bool.noConfusion this
  refine aB0 (aB0 ?_);have e:s={s with heap:=s.heap}:=by cases s;rfl
  have:=h s.heap (aCh a s.heap) ⟨o,es,ep,t,ho,hex,hd,by rw[List.erase_of_not_mem b];exact he,by rw[List.erase_of_not_mem b];exact nd,B,f,ht⟩;rw[e];simpa[b] using this
 | some j=>
  dsimp only;obtain⟨q,i,F⟩:=aDk.mp hr;have b:k∈ks:=(c k).mpr ⟨es.toList[j],aEa q,i⟩;refine aB0 ?_;dsimp only;rw[Nat.zero_add];refine aAz (aBj ho hd f ?_);dsimp only;have r :j<es.size:=by simpa using q
  have hsz:(eraseAt es j).size=es.size-1:=by rw[<-Array.length_toList,iK,List.length_eraseIdx_of_lt q];simp
  have u :Es knd (eraseAt es j) (ks.erase k):=by
   obtain⟨ps,v,G,C⟩:=he;have y:j<ps.length:=by have:=aC0 List.length v;simp at this;lia
   refine⟨ps.eraseIdx j,?_,?_,λp n=>C p (aDf n)⟩
   ·rw[iK,<-v,oN]
   ·have H:ps[j].1=k:=by
     obtain⟨i1,i2,i3⟩:=C ps[j] (aEa y)
     have I:ps[j].2=es.toList[j]:=by
      have:(ps.map (·.2))[j]'(by simpa using y)=es.toList[j]:=by simp only[v]
      simpa using this
     rw[I]at i1;exact knd.inj _ _ _ i1 i
    have J:(k::(ps.eraseIdx j).map (·.1)).Perm ks:=by
     rw[<-H,<-List.map_cons];exact((nM ps j y).map _).trans G
    exact List.perm_cons k |>.mp (J.trans (List.perm_cons_erase b))
  have m :(eraseAt es j).size<scanBound:=by lia
  refine aAz (aCt ho hd ?_ (aCg m));obtain⟨_,z⟩:=store (knd:=knd) ho hex hd u (nd.erase k) m (by rw[hsz];exact ED f r) (ht.drop j);refine aAz (wpAny_point (aB0 ?_));simpa[b] using h _ (aBp ..) z
end
section
variable {prog:Program}{w:World}{K:Type}[DecidableEq K]{knd:KeyKind prog w K}{A:Around}{E:aEe}{s:Shared}
def iS(ks:List K)(k:K):List K:=if k∈ks then ks.erase k else ks++[k]
theorem XF{a:Addr}{ks:List K}{k:K}{x:Value}{Q:Unit->Shared->Prop}(d:knd.is k x=true)(hsc:x.scannable=true)(m:cE knd l s.heap a ks)(e:ks.length+1<scanBound)
  (h:∀h',Heap.SameBut a s.heap h' ->cE knd l h' a (iS ks k)->Q () {s with heap:=h'}):
  wpAny (model prog w) A (holding [x] do
   if !(<-setDiscardHashed a x (knd.hash k)) then
    let _<-setAddHashed a x (knd.hash k)) Q E s:=by
 refine aBf (aAz (aAl d hsc m λh' j f=>?_));by_cases c:k∈ks
 ·simp only[c,decide_true,Bool.not_true,Bool.false_eq_true,if_false];exact aB0 (h h' j (by unfold iS;rw[if_pos c];exact f))
 ·simp only[c,decide_false,Bool.not_false,if_true];rw[List.erase_of_not_mem c]at f;refine aAz (t7 d hsc f e λb n g i=>aB0 ?_);refine h n (j.trans g) ?_;unfold iS;unfold kO at i;rw[if_neg c]at i⊢;exact i
end
section
variable {prog:Program}{w:World}{K:Type}[DecidableEq K]{knd:KeyKind prog w K}{A:Around}{E:aEe}{s:Shared}
theorem E6{a:Addr}{ks:List K}{Q:Array (Int×Value)->Shared->Prop}(g:cE knd (aR w) s.heap a ks)(h:∀es d,Es knd es ks->Q es {s with drawn:=d}):wpAny (model prog w) A (setWalk a) Q E s:=by
 obtain⟨o,es,ep,t,ho,hex,hd,he,nd,k,i,ht⟩:=g
 have here:∀b,b.toList.Perm es.toList->Q b s:=λb p=>by
  have:=h b s.drawn (he.perm p);have e:s={s with drawn:=s.drawn}:=by cases s;rfl
  rw[e];exact this
 unfold setWalk;refine aAz (aBj ho hd i ?_);dsimp only;refine aAz (dW ?_);by_cases c:w.params.followText "set-order"=true
 ·rw[c,if_pos rfl];refine aAz (aDb ?_);exact aB0 (here _ (jO _ es))
 ·have c' :w.params.followText "set-order"=false:=by simpa using c
  rw[c',if_neg Bool.false_ne_true];show wpAny _ _ (if (!t.plain && decide (es.size > 1))=true then _ else _) Q E s;split
  ·refine aAz (n9 es.size es.toList s _ (by simp) λj d p=>?_);exact aB0 (h j.toArray d (he.perm (by simpa using p)))
  ·refine aAz ?_;show wpAny _ _ (if (!t.led && decide (es.size > 1))=true then _ else _) _ E s;have f:t.led=true:=by rw[ht.led];unfold aR;rw[c'];rfl
   rw[f];simp only[Bool.not_true,Bool.false_and,Bool.false_eq_true,if_false];exact aB0 (aB0 (here es (.refl _)))
end
section
variable {prog:Program}{w:World}{K:Type}[DecidableEq K]{knd:KeyKind prog w K}{A:Around}{E:aEe}{s:Shared}
theorem qK{α:Type}{f:Int×Value->Option Bool×Unit->Sem (ForInStep (Option Bool×Unit))}{Q:Option Bool×Unit->Shared->Prop}(a:∀e r,e.2.scannable=true->f e r=pure (ForInStep.yield (none,()))):
  ∀(l:List (Int×Value)),(∀e∈l,e.2.scannable=true)->Q (none,()) s->wpAny (model prog w) A (forIn l (none,()) f) Q E s
 | [],_,q=>by rw[List.forIn_nil];exact aB0 q
 | e::l,h,q=>by
  rw[List.forIn_cons,a e _ (h e (by simp))];exact aAz (aB0 (qK (α:=α) a l (λe he=>h e (by simp[he])) q))
variable{ks:List K}
theorem Es.scan{es:Array (Int×Value)}(h:Es knd es ks):∀e∈es.toList,e.2.scannable=true:=λe he=>by
 obtain⟨ps,a,d,b⟩:=h;rw[<-a]at he;obtain⟨p,c,rfl⟩:=aBd.mp he;exact(b p c).2.2
theorem quiet{a b:Addr}{ks m:List K}{Q:Bool->Shared->Prop}(n:cE knd l s.heap a ks)(p:cE knd l s.heap b m)(q:Q true s):wpAny (model prog w) A (setsQuiet [a,b]) Q E s:=by
 obtain⟨o,es,ep,t,ho,hex,hd,he,nd,u,x,ht⟩:=n;obtain⟨D,y,z,F,c,j,d,f,B,k,g,C⟩:=p;unfold setsQuiet;refine aAz ?_;rw[List.forIn_cons];refine aAz (aAz (aC9 ho hd x (aAz ?_)));rw[<-Array.forIn_toList];refine qK (α:=Unit) (λe r h=>?_) _ he.scan ?_
 ·obtain⟨i,v⟩:=e
  cases v <;> first | rfl | exact absurd h (by simp[Value.scannable])
 dsimp only;refine aB0 ?_;dsimp only;rw[List.forIn_cons];refine aAz (aAz (aC9 c d g (aAz ?_)));rw[<-Array.forIn_toList];refine qK (α:=Unit) (λe r h=>?_) _ f.scan ?_
 ·obtain⟨i,v⟩:=e
  cases v <;> first | rfl | exact absurd h (by simp[Value.scannable])
 dsimp only;refine aB0 ?_;dsimp only;rw[List.forIn_nil];exact aB0 (aB0 q)
theorem JV{a f:Addr}{ks r:List K}{Q:Array (Int×Value)->Shared->Prop}(m:cE knd (aR w) s.heap a ks)(k:cE knd (aR w) s.heap f r)
  (h:∀es d h',Heap.SameBut f s.heap h' ->cE knd (aR w) h' f r->Es knd es ks->Q es {s with heap:=h',drawn:=d}):wpAny (model prog w) A (setWalkUnseen a [f] (some f)) Q E s:=by
 have plain:wpAny (model prog w) A (setWalk a) Q E s:=E6 m λes d he=>h es d s.heap (aCh _ _) k he;obtain⟨o,es,ep,t,ho,hex,hd,he,nd,z,u,ht⟩:=id m;unfold setWalkUnseen;refine aAz (aBj ho hd u ?_);dsimp only;refine aAz (dW ?_);split
 ·exact plain
 ·refine aAz (quiet m k ?_);simp only[Bool.not_true,Bool.false_eq_true,if_false];refine aAz (aC5 ?_);obtain⟨B,v,x,n,b,e,c,p,q,g,i,j⟩:=id k;refine aAz (aBj b c i ?_);dsimp only;split
  ·refine aAz (aCt b c ?_ (aCg g));obtain⟨_,y⟩:=store (knd:=knd) (l:=aR w) (t' :={n with led:=n.led && t.led,plain:=n.plain && t.plain}) b e c p q g i ⟨j.JO,by simp[j.led,ht.led]⟩;have:=h es s.drawn _ (aBp s.heap f _) y he;exact aB0 this
  ·have:=h es s.drawn s.heap (aCh _ _) k he;exact aB0 this
end
section
variable {prog:Program}{w:World}{K:Type}[DecidableEq K]{knd:KeyKind prog w K}{A:Around}{E:aEe}{s:Shared}
theorem qJ{α:Type}(l:List α):(List.range l.length).filterMap (l[·]?)=l:=by
 apply aD5;intro i
 induction l generalizing i with
 | nil=>simp
 | cons a l ih=>
  rw[List.length_cons,List.range_succ_eq_map,List.filterMap_cons];simp only[List.getElem?_cons_zero,List.filterMap_map,Function.comp_def]
  cases i with
  | zero=>simp
  | succ i=>simpa using ih i
theorem DV{a b:Addr}{ks:List K}{Q:Unit->Shared->Prop}{g:Sem Unit}(n:a≠b)(f:s.heap.get? a=some {cls:= .type "set",dict:=none,data:= .set #[] 0 (.fresh 0 0 (aR w))})(B:cE knd (aR w) s.heap b ks)(I:ks.length<=4)
  (h:∀h',Heap.SameBut a s.heap h' ->cE knd (aR w) h' a ks->Q () {s with heap:=h'}):wpAny (model prog w) A (setMerge a b g) Q E s:=by
 obtain⟨o,es,ep,t,ho,hex,hd,he,nd,p,v,ht⟩:=B;have hsz:=he.size;unfold setMerge;rw[if_neg (by simpa using n)];refine aAz (aBj ho hd v ?_);dsimp only;by_cases c:es.isEmpty=true
 ·rw[if_pos c]
  have hk:ks=[]:=by
   have:es.size=0:=by simpa using c
   exact List.length_eq_zero_iff.mp (by lia)
  subst hk;have e:s={s with heap:=s.heap}:=by cases s;rfl
  have:=h s.heap (aCh _ _) (lX f);rw[e];exact aB0 this
 rw[if_neg c];unfold setRoomFor;refine aAz (aAz (aBj f rfl (by rfl) ?_))
 have C:(SetTable.fresh 0 0 (aR w)).roomFor es.size=none:=by
  unfold SetTable.roomFor SetTable.fill SetTable.fresh;rw[if_neg (by simp;lia)]
 dsimp only;rw[C];refine aB0 ?_;refine aAz (aBj f rfl (by rfl) ?_);dsimp only;have q:(SetTable.fresh 0 0 (aR w)).fill=0:=rfl;unfold SetTable.road;rw[q];simp only[bne_self_eq_false,Bool.false_eq_true,if_false];by_cases x:((SetTable.fresh 0 0 (aR w)).mask==t.mask && t.dummies.isEmpty)=true
 ·rw[if_pos x];dsimp only;refine aCt f rfl ?_ (aCg p);obtain⟨_,r⟩:=store (knd:=knd) (l:=aR w) (t' :={t with finger:=(SetTable.fresh 0 0 (aR w)).finger,led:=(SetTable.fresh 0 0 (aR w)).led && t.led,moves:=(SetTable.fresh 0 0 (aR w)).moves,plain:=(SetTable.fresh 0 0 (aR w)).plain && t.plain}) f ⟨rfl,rfl,rfl⟩ rfl he nd p v ⟨ht.JO,by simp[SetTable.fresh,ht.led]⟩;exact h _ (aBp s.heap a _) r
 ·rw[if_neg x];dsimp only;have D:es.size<=7:=by lia
  obtain⟨t',d,F,y,J,G,z⟩:=MG (M:=7) (k:=3) (by decide) (by decide) (es.map (·.1)) (by simpa using D) (by simp;lia) 0 0 ((SetTable.fresh 0 0 (aR w)).led && t.led) ((SetTable.fresh 0 0 (aR w)).plain && t.plain);have u :SetTable.laid (SetTable.fresh 0 0 (aR w)).mask (SetTable.fresh 0 0 (aR w)).finger (SetTable.fresh 0 0 (aR w)).moves ((SetTable.fresh 0 0 (aR w)).led && t.led) ((SetTable.fresh 0 0 (aR w)).plain && t.plain) (es.map (·.1))=some (t',d):=F;rw[u]
  have pm:(d.filterMap (es[·]?)).toList.Perm es.toList:=by
   rw[Array.toList_filterMap];have i:=y.filterMap (es[·]?)
   have m:(List.range (es.map (·.1)).size).filterMap (es[·]?)=es.toList:=by
    have:=qJ es.toList;simpa using this
   rw[m]at i;exact i
  have hs:(d.filterMap (es[·]?)).size=es.size:=by rw[<-Array.length_toList,pm.length_eq,Array.length_toList]
  have H:(d.toList.filterMap ((es.map (·.1))[·]?)).length=es.size:=by
   have i:=(y.filterMap ((es.map (·.1))[·]?)).length_eq;have m:=qJ (es.map (·.1)).toList;simp only[Array.length_toList,Array.getElem?_toList]at m;rw[m]at i;rw[i];simp
  refine aAz (aE7 (a:=(d.filterMap (es[·]?),t')) ?_ ?_)
  ·show (if ((d.filterMap (es[·]?)).size !=es.size)=true then _ else _)=_;rw[if_neg (by simp[hs])]
  ·dsimp only;have j:(d.filterMap (es[·]?)).size<scanBound:=by rw[hs];exact p
   refine aCt f rfl ?_ (aCg j);obtain⟨_,r⟩:=store (knd:=knd) (l:=aR w) (t' :=t') f ⟨rfl,rfl,rfl⟩ rfl (he.perm pm) nd j (z.fits (by rw[hs,H])) ⟨z.JO,by rw[G];simp[SetTable.fresh,ht.led]⟩;exact h _ (aBp s.heap a _) r
end
open PySem.Builtin PySem.Builtin.Frozenset
section
variable {prog:Program}{w:World}{K:Type}[DecidableEq K]{knd:KeyKind prog w K}{A:Around}{E:aEe}{s:Shared}
theorem qQ{Q:aEe}(h:Q (.ref s.heap.objs.size) {s with heap:=s.heap.push {cls:= .type "set",dict:=none,data:= .set #[] 0 (.fresh 0 0 (aR w))}}):wpAny (model prog w) A (newSet (.type "set")) Q E s:=by
 unfold newSet setsByText;refine aAz (aAz (aDb (aB0 ?_)));dsimp only;simp only[newObj];exact aAz (wpAny_alloc (aB0 h))
def d4(ks:List K)(xs:List K):List K:=xs.foldl iS ks
theorem tK(ks:List K)(k:K):(iS ks k).length<=ks.length+1:=by
 unfold iS;split
 ·have:=List.length_erase_le (a:=k) (l:=ks);lia
 ·simp
theorem oS:∀(xs ks:List K),(d4 ks xs).length<=ks.length+xs.length
 | [],ks=>by simp[d4]
 | x::xs,ks=>by
  have a:=oS xs (iS ks x);have b:=tK ks x;simp only[d4,List.foldl_cons,List.length_cons]at*
  lia
theorem zZ{ks:List K}(h:ks.Nodup)(k:K):(iS ks k).Nodup:=by
 unfold iS;split
 ·exact h.erase k
 ·rename_i hk;rw[List.nodup_append];exact⟨h,by simp,λa d b c=>by simp at c;subst c;exact λz=>hk (z▸d)⟩
theorem DW{ks:List K}(h:ks.Nodup){k j:K}:j∈iS ks k↔(j=k/\k∉ks)\/(j≠k/\j∈ks):=by
 unfold iS;split
 ·rename_i hk;rw[h.mem_erase_iff];constructor
  ·exact λz=>.inr z
  ·rintro(⟨rfl,z⟩ | z)
   ·exact absurd hk z
   ·exact z
 ·rename_i hk;simp only[List.mem_append,List.mem_singleton];constructor
  ·rintro(z | rfl)
   ·exact .inr ⟨λe=>hk (e▸z),z⟩
   ·exact .inl ⟨rfl,hk⟩
  ·rintro(⟨rfl,_⟩ | ⟨_,z⟩)
   ·exact .inr rfl
   ·exact .inl z
theorem jV{j:K}:∀{xs ks:List K},ks.Nodup->xs.Nodup->((d4 ks xs).Nodup/\(j∈d4 ks xs↔(j∈ks/\j∉xs)\/(j∉ks/\j∈xs)))
 | [],ks,h,_=>by simpa[d4] using h
 | x::xs,ks,h,hx=>by
  obtain⟨c,d⟩:=aDv.mp hx;obtain⟨a,b⟩:=jV (j:=j) (xs:=xs) (zZ h x) d;refine⟨a,?_⟩;show j∈d4 (iS ks x) xs↔_;rw[b,DW h];by_cases e:j=x
  ·subst e;simp[c]
  ·simp[e]
theorem OR{f:Int×Value->PUnit->Sem (ForInStep PUnit)}{o:Addr}{ro:Obj}{a:Addr}{was:Nat}{Q:PUnit->Shared->Prop}(b:a≠o)
  (j:∀(e:Int×Value),f e PUnit.unit=(do
   holding [e.2] do
    if !(<-setDiscardHashed a e.2 e.1) then
     let _<-setAddHashed a e.2 e.1
   unchanged "frozenset.__xor__" o was
   pure (ForInStep.yield PUnit.unit)))
  (c:∃es ep t,ro.data= .set es ep t/\t.fits es.size=true/\ep=was):
  ∀(ps:List (K×(Int×Value))) (ks:List K) (s:Shared),(∀p∈ps,knd.is p.1 p.2.2=true/\p.2.1=knd.hash p.1/\p.2.2.scannable=true)->cE knd (aR w) s.heap a ks->s.heap.get? o=some ro->ks.length+ps.length<scanBound->
   (∀h',Heap.SameBut a s.heap h' ->cE knd (aR w) h' a (d4 ks (ps.map (·.1)))->Q PUnit.unit {s with heap:=h'})->wpAny (model prog w) A (forIn (ps.map (·.2)) PUnit.unit f) Q E s
 | [],ks,s,_,hS,ho,hl,q=>by
  have e:s={s with heap:=s.heap}:=by cases s;rfl
  have:=q s.heap (aCh _ _) hS;rw[List.map_nil,List.forIn_nil,e];exact aB0 this
 | p::ps,ks,s,hp,hS,ho,hl,q=>by
  obtain⟨i1,i2,i3⟩:=hp p (by simp);rw[List.map_cons,List.forIn_cons,j];refine aAz (aAz ?_);rw[i2];simp only[List.length_cons]at hl;refine XF i1 i3 hS (by lia) λh' k m=>?_;refine aAz ?_;have d :h'.get? o=some ro:=(k.2 o (aC1 b)).trans ho;obtain⟨es,ep,t,hd,g,n⟩:=id c;unfold unchanged setEpoch;refine aAz (aAz (aBj (s:={s with heap:=h'}) d hd g ?_));refine aB0 ?_;dsimp only;rw[if_neg (by simp[n])];refine aB0 (aB0 ?_);dsimp only;have l:=tK ks p.1;exact OR b j c ps _ {s with heap:=h'} (λp h =>hp p (by simp[h])) m d (by lia) λr i u=>q r (k.trans i) u
end
section
variable {prog:Program}{w:World}{K:Type}[DecidableEq K]{knd:KeyKind prog w K}{A:Around}{E:aEe}{s:Shared}
theorem v7{v:Value}{Q:Bool->Shared->Prop}(h:s.TypeIs v "set")(q:Q true s):wpAny (model prog w) A (isAnySet v) Q E s:=by
 unfold isAnySet;exact aAz (aCk h sub_set_self (aB0 q))
theorem sA:entryFor table "set.__xor__"=some Builtin.«frozenset.__xor__»:=
 entryFor_alias (id' := "frozenset.__xor__") (by kernel_rfl) rfl (by decide+kernel) (by kernel_rfl)
theorem E1{a b:Addr}{l h:List K}{Q:aEe}(hab:a≠b)(t:cE knd (aR w) s.heap a l)(I:cE knd (aR w) s.heap b h)(h4:l.length<=4)(h5:h.length<=4)
  (q:∀h' d ks,(∀c o,s.heap.get? c=some o->h'.get? c=some o)->ks.Nodup->ks.length<=8->(∀j,j∈ks↔(j∈h/\j∉l)\/(j∉h/\j∈l))->cE knd (aR w) h' s.heap.objs.size ks->Q (.ref s.heap.objs.size) {s with heap:=h',drawn:=d}):
  wpAny (model prog w) A (Builtin.«frozenset.__xor__» ⟨[.ref a,.ref b],[]⟩) (λJ s' =>∃v,J= .done (.ret v)/\Q v s') E s:=by
 have ta:=t.typeIs;have tb:=I.typeIs;show wpAny _ _ (slot1 "__xor__" ⟨[.ref a,.ref b],[]⟩ >>=_) _ _ _;refine aAz ?_;unfold slot1 slotArgs;refine aAz (aB0 ?_);dsimp only;refine aB0 ?_;dsimp only;refine aAz (aAz (v7 ta ?_));refine v7 tb ?_;simp only[Bool.not_true,Bool.false_eq_true,if_false];refine aAz (aB0 ?_);refine aAz ?_;have L:(toString "frozenset."++toString "__xor__")= "frozenset.__xor__":=by decide
 rw[L];show wpAny _ _ (baseOf a >>=λc=>newFrom "frozenset.__xor__" c (.ref b) >>=λf=>addrOf f >>=λr=>holding [f] (symmetricDifferenceUpdate "frozenset.__xor__" r (.ref a)) >>=λ_=>pure f) _ _ _;unfold baseOf newFrom;refine aAz (aAz (aCk ta sub_set_self (aB0 ?_)));simp only[if_true];refine aAz (aAz (qQ ?_));refine aAz (aB0 ?_);refine aAz (aBf ?_);have i:(s.heap.push {cls:= .type "set",dict:=none,data:= .set #[] 0 (.fresh 0 0 (aR w))}).get? s.heap.objs.size=some {cls:= .type "set",dict:=none,data:= .set #[] 0 (.fresh 0 0 (aR w))}:=aB4 _ rfl;have kp:∀c o,s.heap.get? c=some o->(s.heap.push {cls:= .type "set",dict:=none,data:= .set #[] 0 (.fresh 0 0 (aR w))}).get? c=some o:=λc o e=>aB1 _ e;generalize hH:s.heap.push {cls:= .type "set",dict:=none,data:= .set #[] 0 (.fresh 0 0 (aR w))}=H0 at i kp⊢;have u:cE knd (aR w) H0 a l:=t.keep (kp a);have m:cE knd (aR w) H0 b h:=I.keep (kp b);have x:s.heap.objs.size≠a:=λz=>by obtain⟨o,_,_,_,ho,_⟩:=t;have:=aB5 ho;lia
 have nb:s.heap.objs.size≠b:=λz=>by obtain⟨o,_,_,_,ho,_⟩:=I;have:=aB5 ho;lia
 unfold updateFrom;refine aAz (v7 (s:={s with heap:=H0}) m.typeIs ?_);simp only[if_true];refine aAz (aB0 ?_);unfold merge;obtain⟨ob,eb,epb,tb',M,hxb,N,heb,y,hbb,O,htb⟩:=id m;obtain⟨P,ea,B,R,S,hxa,C,hea,T,hba,D,hta⟩:=id u;refine aAz ?_;unfold setEpoch;refine aAz (aBj (s:={s with heap:=H0}) M N O ?_);refine aB0 ?_;refine DV (s:={s with heap:=H0}) (knd:=knd) nb i m h5 λn U S1=>?_;refine aB0 ?_;dsimp only;refine aAz (aB0 ?_);refine aAz (aBf ?_);have g :Heap.SameBut s.heap.objs.size H0 n:=U;have p:cE knd (aR w) n a l:=u.keep λo e=>(g.2 a (aC1 x)).trans e;have k:n.get? a=some P:=(g.2 a (aC1 x)).trans S;unfold symmetricDifferenceUpdate;rw[if_neg (by simpa using Ne.symm x)];refine aAz (aDm (s:={s with heap:=n}) p.typeIs ?_);rw[if_neg (by decide)];refine aAz (v7 (s:={s with heap:=n}) p.typeIs ?_);simp only[if_true];refine aAz (aB0 (aAz (aB0 ?_)));unfold setEpoch;refine aAz (aAz (aBj (s:={s with heap:=n}) k C D ?_));refine aB0 ?_;dsimp only;refine aBf (aAz (JV (s:={s with heap:=n}) p S1 λes d h2 F S2 V=>?_));have G:h2.get? a=some P:=(F.2 a (aC1 x)).trans k;obtain⟨ps,e1,W,e3⟩:=V;rw[<-Array.forIn_toList,<-e1];have hps:ps.length=l.length:=by have:=W.length_eq;simpa using this
 refine aAz (OR (s:={s with heap:=h2,drawn:=d}) (knd:=knd) (o:=a) (ro:=P) (was:=B) x (λe=>?_) ⟨ea,B,R,C,D,rfl⟩ ps h e3 S2 G (by have:scanBound=4096:=rfl;lia) λh3 X S3=>?_)
 ·rfl
 ·refine aB0 (aB0 (aB0 ⟨_,rfl,?_⟩));have H:(ps.map (·.1)).Nodup:=W.symm.nodup T
  have Y:(d4 h (ps.map (·.1))).Nodup:=by
   cases t:h++ps.map (·.1) with
   | nil=>rw[(List.append_eq_nil_iff.mp t).1,(List.append_eq_nil_iff.mp t).2];simp[d4]
   | cons j _=>exact(jV (j:=j) y H).1
  have hm:=λj=>jV (j:=j) y H;refine q h3 d _ (λc o e=>?_) Y ?_ (λj=>?_) S3
  ·have Z:c≠s.heap.objs.size:=aB9 (aB5 e);exact(X.2 c Z).trans ((F.2 c Z).trans ((g.2 c Z).trans (kp c o e)))
  ·have:=oS (ps.map (·.1)) h;simp only[List.length_map]at this
   lia
  ·rw[(hm j).2,W.mem_iff]
theorem EZ{a b:Addr}{e f:List K}{Q:aEe}(g:a≠b)(h:cE knd (aR w) s.heap a e)(i:cE knd (aR w) s.heap b f)(k:e.length<=4)(l:f.length<=4)
  (q:∀h' d ks,(∀c o,s.heap.get? c=some o->h'.get? c=some o)->ks.Nodup->ks.length<=8->(∀j,j∈ks↔(j∈f/\j∉e)\/(j∉f/\j∈e))->cE knd (aR w) h' s.heap.objs.size ks->Q (.ref s.heap.objs.size) {s with heap:=h',drawn:=d}):
  wpAny (model prog w) A (binaryOp .BitXor (.ref a) (.ref b)) Q E s:=
 wpAny_binaryOp_same h.typeIs i.typeIs F.fills_set_xor F.slot_set_xor (aBb F.slot_set_xor h.typeIs sA (E1 g h i k l λh' d ks m n p r t=>⟨by simp,q h' d ks m n p r t⟩) (F.args_set_xor_2 _ _))
end
end ST
namespace L2
open PySem PySem.Spec PyProof.Rows
theorem XG{P:Program}{w:World}{k v:Expr}{gs:List Comprehension}{scope:Scope}{pos:Pos}:NV P w (.DictComp k v gs scope pos) gs newDict (λ_ (kvs:List (Key×V))=>.dK kvs) []:=
 ⟨rfl,λa h=>aBi (h _ (λc o e=>aB1 _ e) (aCw _ _) λH=>yN _ a),by intros;rfl,by intros;rfl⟩
theorem compTurn_dict(k v a iter:Expr)(b:List Expr)(scope:Scope)(pos:Pos)(it:Value)(acc:Addr)(env:Env):
  compTurn (.DictComp k v [⟨a,iter,b,0⟩] scope pos) 0 it (.ref acc) env=(do
   standAt iter.pos
   match<-pyNext it with
   | none=>pure (.done .next)
   | some x=>
    letOwnedTupleGo a it x
    assign a env x
    let mut ok:=true
    for c in b do
     if ok then ok<-isTrue c env (eval c env)
    if ok then
     (do
       let kv<-eval k env
       let vv<-holding [kv] (eval v env)
       standAt {k.pos with endLine:=v.pos.endLine,endCol:=v.pos.endCol}
       holding [kv,vv] (dictSet acc kv vv))
    again (.compLoop (.DictComp k v [⟨a,iter,b,0⟩] scope pos) 0 it (.ref acc) env)):=by rfl
theorem sF{prog:Program}{w:World}{A:Around}{R:Result->Shared->Prop}{s:Shared}{k v a iter:Expr}{o:List Expr}{scope:Scope}{pos:Pos}{it:Value}{acc:Addr}{env:Env}(I:Nat->Shared->Prop)
  (p:∀n s,I n s->wpAny (model prog w) A (pyNext it) (λr b=>match r with
   | none=>R (.ok .next) b
   | some x=>wpAny (model prog w) A (letOwnedTupleGo a it x) (λ_ b=>wpAny (model prog w) A (assign a env x) (λ_ f=>
     wpAny (model prog w) A (forIn o true λc r=>if r=true then do let ok<-isTrue c env (eval c env);pure (ForInStep.yield ok) else pure (ForInStep.yield r)) (λok e=>
      if ok=true then wpAny (model prog w) A (eval k env) (λz g=>wpAny (model prog w) A (eval v env) (λB i=>
       wpAny (model prog w) A (dictSet acc z B) (λ_ j=>∃m,m<n/\I m j) (λ_ _=>False) i) (λ_ _=>False) g) (λ_ _=>False) e
      else ∃m,m<n/\I m e) (λ_ _=>False) f) (λ_ _=>False) b) (λ_ _=>False) b) (λ_ _=>False) s)
  (n:Nat) (h:I n s):codeAny (model prog w) A (.compLoop (.DictComp k v [⟨a,iter,o,0⟩] scope pos) 0 it (.ref acc) env) R s:=by
 refine codeAny_loop rfl I (λn s C=>?_) n h;show wpAny _ A ((compTurn (.DictComp k v [⟨a,iter,o,0⟩] scope pos) 0 it (.ref acc) env).onRaise (λx=>do noteFrame x env;theTreesLotGoes x)) _ _ s;refine wpAny_noted ?_;rw[compTurn_dict];refine aAz (aCv (aAz (aBw (p n s C) (λr b d=>?_) λ_ _ h' =>h'.elim)))
 cases r with
 | none=>exact aB0 d
 | some x=>
  refine aAz (aBw d (λ_ b d=>?_) λ_ _ h' =>h'.elim);refine aAz (aBw d (λ_ f q=>aAz (aBw q (λok e l=>?_) λ_ _ h' =>h'.elim)) λ_ _ h' =>h'.elim)
  cases ok with
  | false=>exact aB0 ⟨rfl,l⟩
  | true=>
   exact aAz (aAz (aBw l (λz g t=>aAz (aBf (aBw t (λB i u=>aAz (aCv (aBf (aBw u (λ_ j y=>aB0 ⟨rfl,y⟩) λ_ _ h' =>h'.elim)))) λ_ _ h' =>h'.elim))) λ_ _ h' =>h'.elim))
def tbD(tk tv:TE)(acc:Addr):NP (List (Key×V)):=λkvs σ H N=>kvs.length<sizeLine/\tk σ H λy b=>tv σ b λv a=>∃k,y=kV k/\a acc=some (.dK kvs)/\N (putK kvs k v) (upd a acc (.dK (putK kvs k v)))
def ZA(own:List Str)(aF:List Nat)(wi:TI)(g:TG)(tt:TT)(tk tv:TE):TE:=FE (λ_ kvs=>.dK kvs) [] own aF wi g tt (tbD tk tv)
section
variable {X:Cx}{tg iter ek ev:Expr}{ifs:List Expr}{scope sc:Scope}{N:List Str}{pos:Pos}{wi:TI}{g:TG}{tt:TT}{tk tv:TE}(own:List Str)(aF:List Nat)
  (hN:X.N=N) (hsc:X.env.scope=sc) (chk:c9 N sc scope aF=true) (dQ:X.calm=true) (hi:PI X tg iter wi) (ho:oD own.length g)
  (hg:∀cl C fp s₀ H₀,PG (aL X own aF scope cl C fp s₀ H₀) tg g) (ht:∀cl C fp s₀ H₀,UE (aL X own aF scope cl C fp s₀ H₀) ifs tt)
  (hk:∀cl C fp s₀ H₀,PE (aL X own aF scope cl C fp s₀ H₀) ek tk) (hv:∀cl C fp s₀ H₀,PE (aL X own aF scope cl C fp s₀ H₀) ev tv)
include hN hsc chk dQ hi ho hg ht hk hv
theorem M8(hs:∀x,foldedSetIterable iter X.env x=pure x){pins:List (Addr×Obj)}{s:Shared}{σ:St}{H:Hp}{Q:VK}{use:Option (Value->Sem Unit)}{L :aEe}(I:Inv X pins σ H s)(h:ZA own aF wi g tt tk tv σ H Q)
  (b:∀(acc C:Addr) (m:aEg) (o:Hp) (d:Shared) (r:Flow),Inv X pins σ o d->o C=none->C≠X.env.locals->X.s₀.heap.objs.size<=C->(∀x c,X.env.cells.lookup x=some c->c≠C)->(∀p∈X.pn++pins,p.1≠C)->d.heap.Ns C m->Q (.ref acc) o->
   compPost (model X.prog X.w) X.A X.xe use L (.ref acc) C (.ok r) d):
  wpAny (model X.prog X.w) X.A (comprehension (.DictComp ek ev [⟨tg,iter,ifs,0⟩] scope pos) scope X.env (firstIterPos [⟨tg,iter,ifs,0⟩] pos) newDict (firstAsync [⟨tg,iter,ifs,0⟩]) (firstIter [⟨tg,iter,ifs,0⟩] X.env) use) L X.xe s:=by
 refine tQ XG own own.length aF (λenv acc K s=>wpAny (model X.prog X.w) X.A (eval ek env) (λM P=>wpAny (model X.prog X.w) X.A (eval ev env) (λN S=>wpAny (model X.prog X.w) X.A (dictSet acc M N) (λ_ d=>K d) (λ_ _=>False) S) (λ_ _=>False) P) (λ_ _=>False) s)
  hN hsc chk dQ hi (aB3 _) ho hg ht (λacc cl C fp s₀ H₀ pins s σ H O NN K T _ q k=>?_) (λit acc env R I f n s h=>sF I f n h) hs I h b
 obtain⟨hl,q⟩:=q;refine cA (hk _ _ _ _ _ _ s σ H _ T q) λM t u=>?_;obtain⟨y,v,B,U,D⟩:=u;refine cA (hv _ _ _ _ _ _ t σ v _ B D) λN V E=>?_;obtain⟨x,W,i,Y,key,e,a,F⟩:=E;subst e;obtain⟨z,hd,vs,j,Z⟩:=tO i.bD a;have hz:vs.length<=sizeLine:=by rw[<-j.length];exact z
 have G:(putK O key x).length<=sizeLine:=by have:=fU O key x;lia
 refine wpAny_dictSet_pairs (hsz:=hz) (nE U) Z λh' l J=>?_;have he:∃q,h'.get? acc=some q:=let ⟨q,_,_,hq,_⟩:=l;⟨q,hq⟩;exact k _ _ _ (nO i (by rw[a];exact True.intro) J he (AV G hd (j.put key Y) l)) F
theorem VV(hs:∀x,foldedSetIterable iter X.env x=pure x:=by intro _;rfl):PE X (.DictComp ek ev [⟨tg,iter,ifs,0⟩] scope pos) (ZA own aF wi g tt tk tv):=by
 intro pins s σ H Q I h;have e:eval (.DictComp ek ev [⟨tg,iter,ifs,0⟩] scope pos) X.env=comprehension (.DictComp ek ev [⟨tg,iter,ifs,0⟩] scope pos) scope X.env (firstIterPos [⟨tg,iter,ifs,0⟩] pos) newDict (firstAsync [⟨tg,iter,ifs,0⟩]) (firstIter [⟨tg,iter,ifs,0⟩] X.env):=by rfl
 rw[e];exact M8 own aF hN hsc chk dQ hi ho hg ht hk hv hs I h yU
end
end L2
namespace D3
open PySem PySem.Spec PyProof.Rows L2
def jZ(g:WG)(t:WT)(e f:WE)(ρe:dX)(St:MH->Prop)(Q:DK):List D->List (D×D)->MH->Prop
 | [],ys,mh=>St mh/\Q (.ref mh.length) (mh++[.dic false ys])
 | d::ds,ys,mh=>St mh/\g d ρe λa=>t a mh λb c=>if b=true then e a c λk h=>f a h λy i=>(∃key,k=aV key)/\jZ g t e f ρe St Q ds (putD ys k y) i else jZ g t e f ρe St Q ds ys c
def N4(own:List Str)(aF:List Nat)(wi:WI)(g:WG)(t:WT)(c d:WE):WE:=λb mh Q=>wi b mh λds St a=>jZ g t c d (gB own aF b) St Q ds [] a
variable{K:aEd}
theorem MN{μ:List Addr}{H:Hp}{k:Key}{v:V}(h:Is K μ H (aV k) v):v=kV k:=by
 cases k with
 | inl i=>exact aX h
 | inr x=>exact cD h
section
variable {X:Cx}
theorem M7{wi:WI}{g:TG}{P:WG}{t:WT}{S T:WE}{own:List Str}{aF:List Nat}(hr:kP X.K g P){σ:L2.St}{H:Hp}{Q:VK}(h:tL X.K (N4 own aF wi P t S T) σ H Q):ZA own aF (UH X.K wi) g (J5 X.K t) (tL X.K S) (tL X.K T) σ H Q:=by
 obtain⟨μ,U,mh,R,RR,En,h,F⟩:=h;refine⟨μ,U,mh,_,RR,En,h,λds St mh1 q l J H1 P1 V It acc j=>?_⟩;have r:acc∉l:=λz=>V.ne j z rfl
 refine⟨λi m kk H' =>∃μ' mh' f,aG l H1 μ' H' /\Rep X.K μ' mh' H' /\acc∉μ' /\H' acc=some (.dK kk)/\f.map (·.1)=kk.map (λp=>aV p.1)/\IsL X.K μ' H' (f.map (·.2)) (kk.map (·.2))/\f.length<=i/\i<=ds.length/\m=ds.length-i/\jZ P t S T (gB own aF U) St R (ds.drop i) f mh',
  ⟨ds.length,l,mh1,[],aG.out aG.refl j,V.new j,r,aQ,rfl,by simp[IsL],aB3 _,aCa _,by simp,by simpa using q⟩,?_⟩
 rintro i m kk H' ⟨μ',mh',f,s,B,C,e',W,l',hd',hi',rfl,c⟩;refine⟨e',?_⟩;have hlen:kk.length=f.length:=by have:=aC0 List.length W;simpa using this.symm
 by_cases u:i<ds.length
 ·rw[List.drop_eq_getElem_cons u]at c;obtain⟨hst,c⟩:=c;obtain⟨hgo,hy⟩:=It.go μ' mh' H' (s.weak V) B hst i ds[i] (by simp[u]);refine .inr ⟨hgo,λv D=>∃k o d,aG l H1 k D/\Rep X.K k o D/\acc∉k/\D acc=some (.dK v)/\d.map (·.1)=v.map (λp=>aV p.1)/\IsL X.K k D (d.map (·.2)) (v.map (·.2))/\d.length<=i+1/\jZ P t S T (gB own aF U) St R (ds.drop (i+1)) d o,?_,λx H'' y=>?_⟩
  ·rintro ys2 D ⟨k,o,d,P2,R2,ha2,e2,k2,l2,hd2,c2⟩;exact⟨ds.length-(i+1),by lia,k,o,d,P2,R2,ha2,e2,k2,l2,hd2,u,rfl,c2⟩
  ·obtain⟨Y,E,Iy⟩:=hy x H'' y;obtain⟨hay,ey⟩:=Y.away C e';have ly:=IsL.mono B Y _ _ l';have P0y:=P1.trans (s.trans Y);refine hr x _ H'' _ μ' (gB own aF U) mh' _ _ E (En.mono RR P0y).emb Iy c λw q2 σ2 A=>?_;refine⟨μ',w,mh',_,E,A,q2,λb G Z I H3 L R3=>?_⟩;obtain⟨M,e3⟩:=L.away hay ey;have l3:=IsL.mono E L _ _ ly;have N:=(s.trans Y).trans L
   cases b with
   | false=>rw[if_neg Bool.false_ne_true]at Z⊢;exact⟨I,G,f,N,R3,M,e3,W,l3,by lia,Z⟩
   | true=>
    rw[if_pos rfl]at Z⊢;refine⟨by have:=It.small;lia,I,w,G,_,R3,A.mono E L,Z,λdk mh4 q4 μ4 vk H4 P4 R4 I4=>?_⟩;obtain⟨ha4,e4⟩:=P4.away M e3;refine⟨μ4,w,mh4,_,R4,(A.mono E L).mono R3 P4,q4,λy mh5 q5 μ5 vy H5 P5 R5 I5=>?_⟩;obtain⟨⟨key,rfl⟩,q5⟩:=q5;obtain⟨O,e5⟩:=P5.away ha4 e4;have hm:A9 (H5 acc):=by rw[e5];trivial
    have l5:=IsL.mono R3 (P4.trans P5) _ _ l3;obtain⟨n1,n2⟩:=m7 gX key I5 W l5;have:=eC f (aV key) y;exact⟨key,MN I4,e5,μ5,mh5,putD f (aV key) y,aG.out ((N.trans P4).trans P5) j,R5.out hm O,O,aQ,n1,IsL.out hm _ _ n2,by lia,q5⟩
 ·have e:i=ds.length:=by lia
  subst e;rw[List.drop_of_length_le (Nat.le_refl _)]at c;refine .inl ⟨It.stop μ' mh' H' (s.weak V) B c.1,?_⟩
  have Pa:aG l H1 (μ' ++[acc]) H' :=⟨by obtain⟨t,rfl⟩:=s.pre;exact⟨t++[acc],by simp⟩,s.fr,λa ha=>by
   rcases aBn.mp ha with ha | ha
   ·exact s.nw a ha
   ·simp at ha;subst ha;exact .inr j⟩
  exact F _ _ c.2 (μ' ++[acc]) _ H' (P1.trans Pa) (B.EO C ⟨kk.map (·.2),⟨kk,e',W,rfl⟩,IsL.pre (λn a h=>by rw[List.getElem?_append_left (List.getElem?_eq_some_iff.mp h).1];exact h) _ _ l'⟩) (by unfold Is;exact⟨acc,by rw[<-B.len];simp,rfl⟩)
theorem WV{tg iter d e:Expr}{a:List Expr}{scope sc:Scope}{N:List Str}{pos:Pos}{wi:WI}{g:TG}{f:WG}{t:WT}{b c:WE}(own:List Str)(aF:List Nat)
  (hN:X.N=N) (hsc:X.env.scope=sc) (chk:c9 N sc scope aF=true) (dQ:X.calm=true) (hi:LI X tg iter wi) (ho:oD own.length g)
  (i:kP X.K g f)
  (hg:∀cl C fp s₀ H₀,PG (aL X own aF scope cl C fp s₀ H₀) tg g) (ht:∀cl C fp s₀ H₀,JE (aL X own aF scope cl C fp s₀ H₀) a t)
  (hk:∀cl C fp s₀ H₀,LE (aL X own aF scope cl C fp s₀ H₀) d b) (hv:∀cl C fp s₀ H₀,LE (aL X own aF scope cl C fp s₀ H₀) e c)
  (hs:∀x,foldedSetIterable iter X.env x=pure x:=by intro _;rfl):LE X (.DictComp d e [⟨tg,iter,a,0⟩] scope pos) (N4 own aF wi f t b c):=
 PE.imp (VV (wi:=UH X.K wi) (tt:=J5 X.K t) (tk:=tL X.K b) (tv:=tL X.K c) own aF hN hsc chk dQ hi ho hg (λcl C fp s₀ H₀=>ht cl C fp s₀ H₀) (λcl C fp s₀ H₀=>hk cl C fp s₀ H₀) (λcl C fp s₀ H₀=>hv cl C fp s₀ H₀) hs) λσ H Q h=>M7 i h
end
def Itv(a:Addr)(ob:Obj):It where
 go:=λi H=>∃kk,H a=some (.frz ob (.dK kk))/\i<kk.length
 NY:=λi H x H' =>H' =H/\∃kk p,H a=some (.frz ob (.dK kk))/\kk[i]? =some p/\x=p.2
 stop:=λi H=>∃kk,H a=some (.frz ob (.dK kk))/\kk.length<=i
theorem G9:∀{kk:List (Key×V)} {vs:List (Key×Value)} {i:Nat} {p:Key×V},KV kk vs->kk[i]? =some p->∃q,vs[i]? =some q/\RelV p.2 q.2
 | _,_,_,_,.nil,h=>by simp at h
 | _,_,0,_,.cons r _,h=>by cases h;exact⟨_,rfl,r.2⟩
 | _,_,i+1,_,.cons _ t,h=>G9 (i:=i) t (by simpa using h)
theorem turn_val{P:Program}{w:World}{tg:Expr}(it a:Addr){ob:Obj}{es:Array DictEntry}{ep:Nat}(O:ob.ExactDict)(hd:ob.data= .dict es ep):Turn P w K tg (Itv a ob) [it] it (λi h=>Heap.IsValIter h it a i es.size ep) where
 mem:=by simp
 obj:=λi h st b f=>by
  have e:b=it:=by simpa using f
  subst e;obtain⟨o,e,c,d⟩:=st;exact⟨o,e,λv z=>by rw[d]at z;cases z⟩
 keep:=λi h h' st k=>st.at λo e=>k it (by simp) o e
 item:=by
  intro X y A B Q i pins s σ H E I t st hg;subst y A B;obtain⟨kk,u,hi⟩:=hg
  obtain⟨j,z,R,vs,r,o,C,D,l,S,m,F,n,G⟩:=(show s.heap.get? a=some ob/\bO X.prog X.w H s.heap a (.dK kk) from I.bD a _ u)
  rw[j]at l;cases l;rw[hd]at m;cases m;obtain⟨q,T,U⟩:=G9 (i:=i) r (p:=kk[i]) (by simp[hi]);have x:es.size=vs.length:=by rw[<-n.length];simp
  obtain⟨f0,J,V,L,M,N⟩:=t it (by simp);rw[x]at st;refine wpAny_pyNext_values_item (knd:=aP X.prog X.w) st ⟨ob,es,j,O,hd,F,n,G⟩ (k:=q.1) (v:=q.2) T λh' g W=>?_;have Y:Inv X pins σ H {s with heap:=h'}:=I.turned (t' :=s.toks) (λb o f e=>(W.2 b f).trans e) f0 J L M N;obtain⟨o,e,c,d⟩:=id g;rw[<-x]at g;exact⟨_,rfl,yJ (s:={s with heap:=h'}) e c d (by decide) ⟨kk[i].2,H,Y,U,⟨rfl,kk,kk[i],u,by simp[hi],rfl⟩,g,λb f=>(t b f).1⟩⟩
 done:=by
  intro X y A B Q i pins s σ H E I t st hg;subst y A B;obtain⟨kk,u,hi⟩:=hg
  obtain⟨j,z,R,vs,r,o,C,D,l,S,m,F,n,G⟩:=(show s.heap.get? a=some ob/\bO X.prog X.w H s.heap a (.dK kk) from I.bD a _ u)
  rw[j]at l;cases l;rw[hd]at m;cases m;have x:es.size=vs.length:=by rw[<-n.length];simp
  have hr:=r.length;obtain⟨f0,J,V,L,M,N⟩:=t it (by simp);rw[x]at st
  exact wpAny_pyNext_values_end (knd:=aP X.prog X.w) (I.ok.hd Q) st ⟨ob,es,j,O,hd,F,n,G⟩ (by simp;lia) λh' Z=>⟨rfl,I.turned (t' :=s.toks) (λb o f e=>Z b o f e) f0 J L M N⟩
 self:=λ_ _ _ _ _ st h=>wpAny_pyIter_valiter st h
def BF(w:WE):WI:=λb mh Q=>w b mh λx a=>∃n kvs,x= .ref n/\a[n]? =some (.dic false kvs)/\∀ob,Q (kvs.map (·.2)) (λmh' =>mh'[n]? =some (.fdc false kvs ob)) (a.set n (.fdc false kvs ob))
theorem SR{μ:List Addr}{H:Hp}{n:Nat}{a:Addr}{kvs:List (D×D)}{ob:Obj}(j:μ[n]? =some a)(hz:kvs.length<=sizeLine):zH K μ H (kvs.map (·.2)) (λmh' =>mh'[n]? =some (.fdc false kvs ob)) (Itv a ob):=by
 refine⟨by simpa using hz,λμ' mh' H' f c hs i d e=>?_,λμ' mh' H' f c hs=>?_⟩
 ·obtain⟨vs,u,hv,⟨kk,g,hk,rfl⟩,l⟩:=c.obj n a _ (f.get j) hs;cases g;have h:=aO l;have hi:=(aB2.mp e).1;simp at h hi;refine⟨⟨kk,hv,by lia⟩,λx H'' y=>?_⟩;obtain⟨rfl,m,p,b,o,rfl⟩:=y;rw[hv]at b;cases b;obtain⟨v,k,q⟩:=d3 l e;rw[List.getElem?_map,o]at k;cases k;exact⟨aG.refl,c,q⟩
 ·obtain⟨vs,u,hv,⟨kk,g,hk,rfl⟩,l⟩:=c.obj n a _ (f.get j) hs;cases g;have h:=aO l;simp at h;exact⟨kk,hv,by simp;lia⟩
variable{X:Cx}
theorem RP{tg o:Expr}{w:WE}{apos bS:Pos}(r:LE X o w)(i:attributeBase o "values" X.env (eval o X.env)=eval o X.env:=by rfl)(j:(apos.endLine==bS.line)=true:=by rfl):LI X tg (.Call (.Attribute o "values" apos) [] [] bS) (BF w):=by
 intro pins s σ H R I h;obtain⟨μ,O,mh,P,Q,En,h,F⟩:=h
 refine wpAny_Call_method0_late i j (cA (r pins s σ H (λv g=>∃c x f,aG μ H c g/\Rep X.K c f g/\Is X.K c g x v/\∃n kvs,x= .ref n/\f[n]? =some (.dic false kvs)/\∀ob,P (kvs.map (·.2)) (λmh' =>mh'[n]? =some (.fdc false kvs ob)) (f.set n (.fdc false kvs ob)))
  I ⟨μ,O,mh,_,Q,En,h,λd f q c v g t k l=>⟨c,d,f,t,k,l,q⟩⟩) λv s1 S=>?_)
 obtain⟨x,g,l,T,c,dx,f,t,k,U,n,kvs,rfl,e,q⟩:=S;obtain⟨a,m,rfl⟩:=fG U;cases T;obtain⟨vs,⟨kk,p,hk,rfl⟩,V⟩:=k.obj n a _ m e;obtain⟨W,Y,lo⟩:=AN l (.inl ⟨kk,.inl p⟩);obtain⟨z,hd,u,y,C⟩:=tO l.bD p;refine⟨"dict","dict.values",aDj,PySem.F.slot_dict_values,PySem.F.type_dict_values,W,Y,aCz rfl (PySem.evalArgs_none ?_)⟩;refine call_meetsIn PySem.F.slot_dict_values C.typeIs PySem.F.entry_dict_values (PySem.F.args_dict_values_1 _) (meets_dict_values (aP X.prog X.w) a lo) ⟨⟨u,C⟩,?_⟩;have D:Inv X pins σ g {s1 with heap:=s1.heap.push {cls:= .type "dict_values",data:= .fields #[.ref a]}}:=l.kept (t' :=s1.toks) λb o e=>aB1 _ e;obtain⟨ob,es,ep,E,G,A,h4,B⟩:=freeze D p trivial;obtain⟨_,_,u,y,o',Z,ep',J,g2,L,g4,M,g6⟩:=tO D.bD p;rw[E]at J;cases J;rw[A]at L;cases L;have r:es.size=u.length:=by rw[<-M.length];simp
 have hz:kvs.length<=sizeLine:=by have:=aC0 List.length hk;simp at this;lia
 have N:aG c g c (upd g a (.frz ob (.dK kk))):=aG.set k m;have R2:Rep X.K c (f.set n (.fdc false kvs ob)) (upd g a (.frz ob (.dK kk))):=yP (o:= .fdc false kvs ob) k m ⟨_,.dK kk,aQ,⟨kk,rfl,hk,rfl⟩,IsL.mono k N _ _ V⟩;refine wpAny_pyIter_values (knd:=aP X.prog X.w) ⟨_,aB4 _ rfl,rfl,rfl⟩ ⟨ob,es,E,G,A,g4,M,g6⟩ ?_;refine⟨_,[_],_,_,_,rfl,B.kept (t' :=s1.toks) λb o e=>aB1 _ e,turn_val _ a G A,⟨_,aB4 _ rfl,rfl,by rw[r];rfl⟩,λb hb=>?_,F _ _ _ (q ob) c _ _ (t.trans N) R2 (SR m hz)⟩;have e:b=_:=List.mem_singleton.mp hb;subst e;exact B.AR (aB3 _) (B.bD.fresh (aB3 _))
def lH(n:Nat)(u:ER)(b:WS)(E:hV)(St:MH->Prop):List D->dX->MH->Prop
 | [],ρ,mh=>St mh/\E.nx ρ mh
 | d::ds,ρ,mh=>St mh/\∃es,iI mh d=some es/\es.length=n/\u es ρ λa=>b {E with nx:=lH n u b E St ds,ct:=lH n u b E St ds,bk:=E.nx} a mh
def BL(wi:WI)(n:Nat)(u:ER)(b:WS):WS:=λE c mh=>wi c mh λds St a=>lH n u b E St ds c a
section
variable {X:Cx}{pos:Pos}{t:WS}
theorem L0{es:List Expr}{k:Nat}{tp:Pos}{iter:Expr}{body:List Stmt}{wi:WI}{g:zE}{u:ER}{n:Nat}(hp:PassesOwn (model X.prog X.w) X.A X.env X.xe)(Y:X.calm=true)(hi:LI X (.Tuple es k tp) iter wi)(hg:NQ X es g)(hr:rQ X.K g u)(hb:kL X body t)
  (hn:(assignEach es X.env).length=n:=by rfl) (s:(assignEach es X.env).findIdx? (·.1)=none:=by rfl)
  (hs:∀x,foldedSetIterable iter X.env x=pure x:=by intro _;rfl):LS X (.For (.Tuple es k tp) iter body [] pos) (BL wi n u t):=PS.imp (FY hp Y hi (QC Y hg hn s) hb hs) λD σ H h=>by
 obtain⟨μ,Z,mh,E,R,En,h,F⟩:=h;refine⟨μ,Z,mh,_,R,En,h,λds St M q o J N O P It=>?_⟩;refine⟨λi m p H' =>∃μ' f mh',aG o N μ' H' /\Rep X.K μ' mh' H' /\bU X.K μ' H' f p /\i<=ds.length/\m=ds.length-i/\lH n u t E St (ds.drop i) f mh',⟨ds.length,o,Z,M,aG.refl,P,En.mono R O,aCa _,by simp,by simpa using q⟩,?_⟩;rintro i m p H' ⟨μ',f,mh',I,L,B,hi',rfl,l⟩;by_cases v:i<ds.length
 ·rw[List.drop_eq_getElem_cons v]at l;obtain⟨s,es,l1,Q,l⟩:=l;obtain⟨S,hy⟩:=It.go μ' mh' H' (I.weak P) L s i ds[i] (by simp[v]);refine .inr ⟨S,λj r=>∃b c d,aG o N b r/\Rep X.K b d r/\bU X.K b r c j/\lH n u t E St (ds.drop (i+1)) c d,?_,λx H'' y=>?_⟩
  ·rintro j r ⟨b,c,d,T,R2,z,Q⟩;exact⟨ds.length-(i+1),by lia,b,c,d,T,R2,z,v,rfl,Q⟩
  ·obtain⟨Py,U,Iy⟩:=hy x H'' y;obtain⟨a,vs,rfl,sq,il⟩:=qR U Iy l1;refine⟨a,vs,rfl,sq,by rw[aO il];exact Q,hr vs p H'' _ μ' f mh' es _ U (B.mono L Py) il l λV q3 σ3 W=>?_⟩;have P3:=I.trans Py;have C:=O.trans P3
   have G:zI X.K μ' H'' (lH n u t E St (ds.drop (i+1))) (λj r=>∃b c d,aG o N b r/\Rep X.K b d r/\bU X.K b r c j/\lH n u t E St (ds.drop (i+1)) c d):=
    λc d n2 b j r T R2 z=>⟨b,c,d,P3.trans T,R2,z,n2⟩
   exact⟨μ',V,mh',_,U,W,q3,⟨G,F.rt.at C,F.nx.at C,G⟩⟩
 ·have e:i=ds.length:=by lia
  subst e;rw[List.drop_of_length_le (Nat.le_refl _)]at l;exact .inl ⟨It.stop μ' mh' H' (I.weak P) L l.1,F.nx f mh' l.2 μ' p H' (O.trans I) L B⟩
end
def XZ(P:Program)(w:World)(K:aEd)(mg:aEg)(base:Heap)(k:Nat)(x:Str)(N:List Str)(st:Stmt)(wB:WS):Prop:=
 ∀(f:Addr) (cdv:Value) (A:Around) (outer:List Env) (s:Shared) (H:Hp) (E:XK),eE k (A.deeper (envOfC x (aC st) s.heap.objs.size f cdv))->PySem.W.codeIn K cdv x=true->
  kL (pE wG P w K mg base N x (aC st) f cdv A outer s H E).GJ (bQ st) wB
section
variable {P:Program}{w:World}{K:aEd}{mg:aEg}{base:Heap}{h:Heap}
theorem TJ{x:Str}{st:Stmt}{N ps:List Str}{k:Nat}{s:OA}{wB:WS}(j:e9 K x st)(KX:K.In h)(G:h.Ns mainGlobals mg)(m:b8 x st ps)(S:aZ N ps (aC st))(n:XZ P w K mg base k x N st wB)(len:∀ds mh R,s ds mh R->ds.length=ps.length)
  (o:∀ds mh R,j4 mh->s ds mh R->wB {nx:=λ_ b=>Out mh.length .bF b R,rt:=λd b=>Out mh.length d b R} (aK N ds) mh):Fn P w K mg base (k+1) x ps s:=by
 obtain⟨f,oc,od,kV,doc,pm,an,p,ct,sl,a,l,c,kp⟩:=j;have F:=vJ (st:=st) l c kp;refine⟨f,_,OQ l c S (λvs H Q E z=>?_) (λA outer r H vs Q E t z=>?_),aE9 KX G a,kp,F.binds m⟩
 ·obtain⟨μ,mh,ds,R,e,g,z,_⟩:=z;rw[aO g];exact len ds mh R z
 ·obtain⟨μ,mh,ds,R,e,g,z,u⟩:=z;have h0:=n f p A outer r H E t c;refine⟨_,t9.GJ h0,μ,aK N ds,mh,_,e,xG g,o ds mh R e.YE z,?_⟩;have i:=B3 e u;exact⟨λv mh' q μ' y H' B C D =>i .bF mh' q μ' .bF H' B C .bF,i,λ_ _ q=>False.elim q,λ_ _ q=>False.elim q⟩
end
section
variable {X:Cx}
theorem YU:cS X (binaryOp .BitXor) (λx y H Q=>∃p q kp c,x= .ref p/\y= .ref q/\p≠q/\H p=some (gG X.prog X.w p kp)/\H q=some (gG X.prog X.w q c)/\kp.length<=4/\c.length<=4/\
  ∀r ks,H r=none->ks.Nodup->ks.length<=8->(∀j,j∈ks↔(j∈c/\j∉kp)\/(j∉c/\j∈kp))->Q (.ref r) (upd H r (gG X.prog X.w r ks))):=by
 intro pins s σ H x y v u Q I f g h;obtain⟨p,q,kp,c,rfl,rfl,ne,i,k,l,m,h⟩:=h;cases f;cases g;refine ST.EZ ne (uG I i) (uG I k) l m λh' d ks n t z A B=>?_;have C:Inv X pins σ H {s with drawn:=d}:=Inv.drawn I rfl rfl λb o e=>e;exact⟨.ref s.heap.objs.size,_,C.laid (s:={s with drawn:=d}) (a:=s.heap.objs.size) (o:=gG X.prog X.w s.heap.objs.size ks) (t' :=s.toks) n (aB3 _) (pK B),rfl,h _ ks (I.bD.fresh (aB3 _)) t z A⟩
end
open PySem.W
theorem IQ{a:Value}{q:Str}(h:codeIn K a q=true):kdsCode K a=true:=by
 unfold codeIn at h;unfold kdsCode;split at h
 ·split at h
  ·rename_i e;simp only[e]
  ·cases h
 ·cases h
section
variable {prog:Program}{w:World}{A:Around}{E:aEe}{s:Shared}
theorem MY{b:Bool}{elts:List (Bool×Sem Value)}{ts:List (Sem Value)}{Q:aEe}(hs:elts.findIdx? (·.1)=none)(d:elts.length<=30)(e:elts.map (·.2)=ts)
  (h:wpAny (model prog w) A (evalAll ts) (λvs c =>KdsFill (model prog w) A E false s.heap.objs.size Q vs c) E {s with heap:=s.heap.push {cls:= .type "set",dict:=none,data:= .set #[] 0 (.fresh 0 0 (ST.aR w))}}):
  wpAny (model prog w) A (setDisplay .oneByOne b elts) Q E s:=by
 have f:(if elts.length > 30 then 0 else (elts.findIdx? (·.1)).getD elts.length)=elts.length:=by rw[if_neg (by lia),hs];rfl
 unfold setDisplay
 try dsimp only
 rw[if_neg (by decide)];refine aAz (ST.qQ ?_);dsimp only;rw[f,List.take_length,List.drop_length,e];refine aAz (aBf ?_);refine aAz (aBw h (λvs c h' =>?_) λ_ _ x=>x);refine aAz (aBf ?_);refine aAz (aBw (kds_for (λx P s g=>?_) vs c h') (λ_ s1 i=>?_) λ_ _ x=>x)
 ·refine aAz (aBw g (λ_ s2 a=>?_) λ_ _ x=>x)
  first | exact aB0 ⟨rfl,a⟩ | exact aAz (aB0 (aB0 ⟨rfl,a⟩))
 ·have a:Q (.ref s.heap.objs.size) s1:=by simpa[KdsFill] using i
  rw[if_neg (by decide)];refine aB0 ?_;rw[List.forIn_nil];exact aB0 (aB0 a)
end
section
variable {X:Cx}{pins:List (Addr×Obj)}{σ:L2.St}{H:Hp}{s:Shared}
theorem BX{a:Addr}{ks:List Key}{k:Key}{v:Value}{Q:Bool->Shared->Prop}(I:Inv X pins σ H s)(r:RelV (kV k) v)(e:H a=some (gG X.prog X.w a ks))(l:ks.length<64)
  (q:∀b c,Inv X pins σ (upd H a (gG X.prog X.w a (ST.kO ks k))) c ->Q b c):wpAny (model X.prog X.w) X.A (setAdd a v) Q X.xe s:=by
 have f:=uG I e;unfold setAdd;have hk:(aP X.prog X.w).is k v=true:=nE r
 have hsc:v.scannable=true:=by
  cases k with
  | inl i=>obtain⟨t,rfl⟩:=r;rfl
  | inr x=>obtain⟨t,rfl⟩:=r;rfl
 refine aBf (aAz ((aP X.prog X.w).pyHash hk ?_));refine ST.t7 (s:={s with toks:=s.toks+1}) hk hsc f (by have:scanBound=4096:=rfl;lia) λb h' g d=>?_;have h:∃q,h'.get? a=some q:=by obtain⟨o,_,_,_,ho,_⟩:=d;exact⟨o,ho⟩
 have j :Inv X pins σ H {s with toks:=s.toks+1}:=I.tok _;exact q b _ (nO (s:={s with toks:=s.toks+1}) (t' :=s.toks+1) j (by rw[e];exact True.intro) g h (pK d))
def UU(P:Program)(w:World)(b c:TE):TE:=λσ H Q=>∀p,H p=none->b σ (upd H p (gG P w p [])) λx d=>c σ d λy a=>∃k l:Key,x=kV k/\y=kV l/\a p=some (gG P w p [])/\Q (.ref p) (upd a p (gG P w p (ST.cJ [] [k,l])))
theorem B1{a b:Expr}{d f:TE}{pos:Pos}(i:kdsCode X.K X.env.code=true)(j:PE X a d)(m:PE X b f)(n:[a,b].all kdsPlain=true:=by rfl):PE X (.Set [a,b] 0 pos) (UU X.prog X.w d f):=by
 intro pins s σ H Q I h;rw[arm_eval_Set];refine aAz (aCv ?_);refine aAz (kds_main I.OO i λL=>?_);rw[kds_star [a,b] n,List.map_map];show wpAny _ _ (setDisplay .oneByOne _ _) _ _ _;refine MY (ts:=(evalEach [a,b] X.env).map λt=>do let v<-t;standAt pos;pure v) ?_ ?_ ?_ ?_
 ·refine aDc.mpr λx p=>?_;obtain⟨t,_,rfl⟩:=aBd.mp p;rfl
 ·rw[List.length_map,kds_len];simp
 ·rw[List.map_map];try rfl
 ·refine kds_all pos [a,b] _ _ ?_
  have q:Inv X pins σ (upd H s.heap.objs.size (gG X.prog X.w s.heap.objs.size [])) {s with heap:=s.heap.push {cls:= .type "set",dict:=none,data:= .set #[] 0 (.fresh 0 0 (ST.aR X.w))}}:=
   I.laid (t' :=s.toks) (λc o e=>aB1 _ e) (aB3 _) (pK (ST.lX (aB4 _ rfl)))
  refine cA (j pins _ σ _ _ q (h _ (I.bD.fresh (aB3 _)))) λv s1 z=>?_;obtain⟨x,r,A,B,C⟩:=z;refine cA (m pins s1 σ r _ A C) λu s2 z=>?_;obtain⟨y,M,D,E,k,l,rfl,rfl,F,G⟩:=z;refine BX D B F (by simp) λ_ N J=>?_;refine BX J E aQ (by have:=ST.zC ([]:List Key) k;simp at this;lia) λ_ O g=>?_;rw[JY]at g;exact⟨.ref _,_,g,rfl,G⟩
end
def BG(o p q r:WE):WE:=λf mh Q=>o f mh λa g=>p f g λb h=>∃i j:Int,a= .int i/\b= .int j/\q f h λc m=>r f m λd e=>∃k l:Int,c= .int k/\d= .int l/\
 ∀ns:List Int,ns.Nodup->(∀n,n∈ns↔((n=k\/n=l)/\¬(n=i\/n=j))\/(¬(n=k\/n=l)/\(n=i\/n=j)))->ns.Pairwise (· <= ·)->Q (.ref e.length) (e++[.lst (ns.map .int)])
@[simp] theorem ZF (o p q r:WE)(e:dX)(mh:MH)(Q:DK):BG o p q r e mh Q=(o e mh λa g=>p e g λb h=>∃i j:Int,a= .int i/\b= .int j/\q e h λc m=>r e m λd f=>∃k l:Int,c= .int k/\d= .int l/\
 ∀ns:List Int,ns.Nodup->(∀n,n∈ns↔((n=k\/n=l)/\¬(n=i\/n=j))\/(¬(n=k\/n=l)/\(n=i\/n=j)))->ns.Pairwise (· <= ·)->Q (.ref f.length) (f++[.lst (ns.map .int)])):=rfl
theorem lxi(a b:Int):lx (enc (.int b)) (enc (.int a))=false->a<=b:=by
 simp only[enc,dP,lx];by_cases c:b<a
 ·simp[c]
 ·intro _;lia
theorem CU:∀(ks:List Key),(∀j∈ks,∃n:Int,j= .inl n)->∃ns:List Int,ks=ns.map .inl
 | [],_=>⟨[],rfl⟩
 | k::ks,h=>by
  obtain⟨n,rfl⟩:=h k (by simp);obtain⟨ns,rfl⟩:=CU ks λj a=>h j (by simp[a]);exact⟨n::ns,rfl⟩
section
variable {X:Cx}{a b c d:Expr}{wa wb wc wd:WE}{p1 p2 p3 p4 pos:Pos}
theorem L8(hu:X.A.units+64<cLine)(hk:kdsCode X.K X.env.code=true)(M:X.calm=true)(N:X.mg "sorted"=none)(ha:LE X a wa)(hb:LE X b wb)(hc:LE X c wc)(hd:LE X d wd)(O:Gl X "sorted":=by rfl)
  (P:[a,b].all kdsPlain=true:=by rfl) (S:[c,d].all kdsPlain=true:=by rfl)
  (m:starEach [.BinOp (.Set [a,b] 0 p2) .BitXor (.Set [c,d] 0 p3) p4] X.env=(false,eval (.BinOp (.Set [a,b] 0 p2) .BitXor (.Set [c,d] 0 p3) p4) X.env)::starEach [] X.env:=by rfl):
  LE X (.Call (.Name "sorted" p1) [.BinOp (.Set [a,b] 0 p2) .BitXor (.Set [c,d] 0 p3) p4] [] pos) (BG wa wb wc wd):=
 PE.imp (xQ (rL hu M) O N kI (uM (OF YU (B1 hk ha hb P) (B1 hk hc hd S)) zX m) (by decide) (by decide) m rfl) λσ H Q h=>by
  obtain⟨μ,E,mh,R,g,En,h,F⟩:=h;intro p s;refine⟨μ,E,mh,_,g.new s,En.mono g (aG.new g s),h,λda T U W va H1 P1 R1 I1=>?_⟩;have Y:p∉μ:=λz=>g.ne s z rfl;obtain⟨Z,e1⟩:=P1.away Y aQ;have Q1:=(aG.new g s).trans P1;refine⟨W,E,T,_,R1,En.mono g Q1,U,λdb t h2 f vb G P2 R2 I2=>?_⟩;obtain⟨v,e2⟩:=P2.away Z e1;have Q2:=Q1.trans P2;obtain⟨i,j,rfl,rfl,h2⟩:=h2;cases aX (Is.mono R1 P2 _ _ I1);cases aX I2;refine⟨.inl i,.inl j,rfl,rfl,e2,?_⟩;have hm2:A9 (G p):=by rw[e2];exact True.intro
  have Q3:aG μ H f (upd G p (gG X.prog X.w p (ST.cJ [] [.inl i,.inl j]))):=aG.out Q2 s;have I:Rep X.K f t (upd G p (gG X.prog X.w p (ST.cJ [] [.inl i,.inl j]))):=R2.out hm2 v;generalize hH3:upd G p (gG X.prog X.w p (ST.cJ [] [.inl i,.inl j]))=H3 at Q3 I⊢;have e3:H3 p=some (gG X.prog X.w p (ST.cJ [] [.inl i,.inl j])):=by rw[<-hH3];exact aQ
  intro q B;have nq:p≠q:=λz=>by rw[z,B]at e3;cases e3
  have hq2:q∉f:=λz=>I.ne B z rfl;have Q4:=Q3.trans (aG.new (o:=gG X.prog X.w q []) I B);refine⟨f,E,t,_,I.new B,En.mono g Q4,h2,λdc mh3 h3 μ3 vc H4 J R4 I4=>?_⟩;obtain⟨hq3,f3⟩:=J.away hq2 aQ;obtain⟨hp3,g3⟩:=J.away v ((aN nq).trans e3);refine⟨μ3,E,mh3,_,R4,En.mono g (Q4.trans J),h3,λdd mh4 h4 C vd H5 L R5 I5=>?_⟩;obtain⟨hq4,f4⟩:=L.away hq3 f3;obtain⟨hp4,g4⟩:=L.away hp3 g3;have Q5:=(Q4.trans J).trans L;obtain⟨k,l,rfl,rfl,h4⟩:=h4;cases aX (Is.mono R4 L _ _ I4);cases aX I5;refine⟨.inl k,.inl l,rfl,rfl,f4,?_⟩;have hm4:A9 (H5 q):=by rw[f4];exact True.intro
  have R6:Rep X.K C mh4 (upd H5 q (gG X.prog X.w q (ST.cJ [] [.inl k,.inl l]))):=R5.out hm4 hq4
  have Q6:aG μ H C (upd H5 q (gG X.prog X.w q (ST.cJ [] [.inl k,.inl l]))):=⟨Q5.pre,λb u e n=>by
   have nb:b≠q:=λz=>by
    subst z;have:=Q3.fr b u e n;rw[B]at this;cases this
   rw[aN nb];exact Q5.fr b u e n,Q5.nw⟩
  have al:∀x y:Int,(ST.cJ ([]:List Key) [.inl x,.inl y]).length<=4:=λx y=>by have:=ST.rO [.inl x,.inl y] ([]:List Key);simp at this;lia
  have am:∀(x y:Int) (n:Int),(.inl n:Key)∈ST.cJ ([]:List Key) [.inl x,.inl y]↔n=x\/n=y:=λx y n=>by rw[ST.lV];simp
  have ai:∀(x y:Int) (z:Key),z∈ST.cJ ([]:List Key) [.inl x,.inl y]->∃n:Int,z= .inl n:=λx y z hz=>by
   rw[ST.lV]at hz;simp at hz;rcases hz with rfl | rfl
   ·exact⟨_,rfl⟩
   ·exact⟨_,rfl⟩
  refine⟨p,q,_,_,rfl,rfl,nq,(aN nq).trans g4,aQ,al _ _,al _ _,λr ks hr nd len mem=>?_⟩
  have hi:∀z∈ks,∃n:Int,z= .inl n:=λz hz=>by
   rcases(mem z).mp hz with ⟨h,_⟩ | ⟨_,h⟩
   ·exact ai _ _ z h
   ·exact ai _ _ z h
  show ∃p' D,[V.ref r]=[.ref p']/\_;refine⟨r,ks,rfl,aQ,by lia,.inl ⟨.i,λd hd=>?_⟩,λD pk pw=>?_⟩
  ·obtain⟨z,hz,rfl⟩:=aBd.mp hd;obtain⟨n,rfl⟩:=hi z hz;rfl
  ·obtain⟨ns,rfl⟩:=CU D λz hz=>hi z (pk.mem_iff.mp hz);have em:(ns.map (.inl:Int->Key)).map kV=(ns.map (.inl:Int->Key)).map kV:=rfl;have ed:(ns.map (.inl:Int->Key)).map aV=ns.map .int:=by rw[List.map_map];rfl
   refine fW (R6.new hr) (F.at (Q6.trans (aG.new R6 hr))) (pR _) ?_;rw[ed];refine h4 ns ?_ (λn=>?_) ?_
   ·have h0:(ns.map (.inl:Int->Key)).Nodup:=pk.symm.nodup nd;rw[List.nodup_iff_pairwise_ne,List.pairwise_map]at h0;rw[List.nodup_iff_pairwise_ne];exact h0.imp λhne z=>hne (by rw[z])
   ·have U:n∈ns↔(.inl n:Key)∈ns.map (.inl:Int->Key):=by simp
    rw[U,pk.mem_iff,mem,am,am]
   ·rw[ed,List.pairwise_map]at pw;exact pw.imp λh=>lxi _ _ h
end
def GI:O2:=λx y mh Q=>∃n kvs key d,x= .ref n/\TN mh n false kvs/\y=aV key/\aU kvs y=some d/\Q d mh
theorem ixF(h:X.A.units+64<cLine):JQ X (aY X.K GI):=by
 intro b c pins s σ H x y v u Q I i j q hs;obtain⟨μ,mh,dx,C,R,f,k,m,⟨n,kvs,key,d,rfl,e,rfl,hd,q⟩,F⟩:=q;obtain⟨a,vs,D,rfl,o,p,l⟩:=vM f k e;obtain⟨kk,z,r,rfl⟩:=p;cases z;cases eZ m
 rcases eX key r l with ⟨_,z⟩ | ⟨d',w,t,g,B⟩
 ·rw[hd]at z;cases z
 ·rw[hd]at g;cases g;exact vC h b c pins s σ H _ _ v u Q I i j ⟨a,w,rfl,.inl ⟨kk,key,o,rfl,t.symm⟩,F.here f q B⟩ hs
def QZ:O2:=λx y mh Q=>∃(n:Nat) (kvs:List (D×D)) (ks:List Key) (d:D),x= .ref n/\mh[n]? =some (.dic true kvs)/\y= .tup (ks.map aV)/\2<=ks.length/\aU kvs y=some d/\Q d mh
theorem ixT(nt:UN X.K)(i:X.A.units+64<cLine):JQ X (aY X.K QZ):=by
 intro c f pins s σ H x y v u Q I j k q hs;obtain⟨μ,mh,dx,G,R,g,m,o,⟨n,kvs,ks,d,rfl,e,rfl,p,hd,q⟩,F⟩:=q;obtain⟨a,vs,J,rfl,r,t,l⟩:=vM g m (.inl e);obtain⟨kk,z,B,rfl⟩:=t;cases z;obtain⟨b,L,rfl,sq,C⟩:=pP o;cases gY C
 rcases p8 ks B l with ⟨_,z⟩ | ⟨d',w,D,h,E⟩
 ·rw[hd]at z;cases z
 ·rw[hd]at h;cases h;exact vC i c f pins s σ H _ _ v u Q I j k ⟨a,w,rfl,.inr ⟨kk,ks,b,r,rfl,sq.own nt (by simpa using p),D.symm⟩,F.here g q E⟩ hs
section
variable {P:Program}{W:World}{K:aEd}{mg:aEg}{base:Heap}{N:List Str}{q:Str}{S:Stmt}{f:Addr}{cd:Value}{A:Around}{o:List Env}{s:Shared}{H:Hp}{E:XK}
variable {tg iter ek ev:Expr}{ifs:List Expr}{scope:Scope}{pos:Pos}{wi:WI}{g:TG}{gd:WG}{t:WT}{wk wv:WE}(own:List Str)(aF:List Nat)
theorem R0(chk:c9 N (aC S) scope aF=true)(nd:(cN N own aF).Nodup)(a:kP K g gd)(ho:oD own.length g)
  (hi:LI (cF P W K mg base N q S f cd A o s H E) tg iter wi)
  (hg:(cN N own aF).Nodup->∀cl C fp s₀ H₀,PG (aL (cF P W K mg base N q S f cd A o s H E) own aF scope cl C fp s₀ H₀) tg g) (ht:∀cl C fp s₀ H₀,JE (aL (cF P W K mg base N q S f cd A o s H E) own aF scope cl C fp s₀ H₀) ifs t)
  (hk:∀cl C fp s₀ H₀,LE (aL (cF P W K mg base N q S f cd A o s H E) own aF scope cl C fp s₀ H₀) ek wk) (hv:∀cl C fp s₀ H₀,LE (aL (cF P W K mg base N q S f cd A o s H E) own aF scope cl C fp s₀ H₀) ev wv)
  (hs:∀x,foldedSetIterable iter (cF P W K mg base N q S f cd A o s H E).env x=pure x:=by intro _;rfl):LE (cF P W K mg base N q S f cd A o s H E) (.DictComp ek ev [⟨tg,iter,ifs,0⟩] scope pos) (N4 own aF wi gd t wk wv):=
 WV (N:=N) (sc:=aC S) own aF rfl rfl chk rfl hi ho a (hg nd) ht hk hv hs
theorem G0{k v:Expr}{b:List Comprehension}{scope:Scope}{bS pos a :Pos}{w:WE}(i:Nat){x:Str}(hN:X.N.Nodup)(he:LE X (.DictComp k v b scope bS) w)(hi:X.N[i]? =some x:=by rfl)(c:Loc X.env.scope x:=by first | exact Or.inl rfl | exact Or.inr rfl)(hs:swapsWith (.DictComp k v b scope bS) (some (.Name x a)) pos.line X.env=pure false:=by rfl)(d:X.fn x=true\/X.env.scope.names.lookup x=some .local:=by first | exact .inl rfl | exact .inr rfl | assumption):
  LS X (.Assign [.Name x a] (.DictComp k v b scope bS) pos) (bA w (gN i)):=AH i hN he hi c hs d
end
def O9(b:TA):TE:=λσ H Q=>b σ H λvs a=>∃i j:Int,vs=[.int i,.int j]/\∀p,a p=none->Q (.ref p) (upd a p (.rng i j))
theorem K1{a b:Expr}{f:TA}{p pos:Pos}(hg:Gl X "range")(k:X.mg "range"=none)(l:PA X [a,b] f)(hs:starEach [a,b] X.env=[(false,eval a X.env),(false,eval b X.env)]:=by rfl)(c:starEach [b] X.env=[(false,eval b X.env)]:=by rfl):PE X (.Call (.Name "range" p) [a,b] [] pos) (O9 f):=by
 intro pins s σ H Q I h;refine Call_ (jS I hg k boot_range (aBz (cA (l pos pins s σ H _ I h) λus s1 ⟨vs,v,g,m,n⟩=>?_) (by rw[hs,c]) (by rw[c];rfl)));obtain⟨i,j,e,q⟩:=n;subst e
 cases m with
 | cons r d=>
  cases d with
  | cons u d=>
   cases d;obtain⟨t,rfl⟩:=r;obtain⟨t',rfl⟩:=u;exact call_range_2 ⟨.ref s1.heap.objs.size,_,g.laid (a:=s1.heap.objs.size) (o:= .rng i j) (λ_ _ q=>aB1 _ q) (aB3 _) ⟨_,_,_,aB4 _ rfl⟩,rfl,q _ (g.bD.fresh (aB3 _))⟩
theorem sH(c:X.calm=true):bR X (.type "list") (λxs H Q=>∃a i j,xs=[.ref a]/\H a=some (.rng i j)/\0<=i/\i<=16777216/\0<=j/\j<=16777216/\∀p,H p=none->Q (.ref p) (upd H p (.lst ((List.range (j-i).toNat).map λ(k:Nat)=>V.int (i+(k:Int)))))):=by
 intro pins s σ H xs us Q I r q;obtain⟨a,i,j,rfl,e,h,l,m,x,q⟩:=q;obtain⟨u,rfl,d⟩:=vals1 r;cases d
 obtain⟨t,u,v,f⟩:=(show bO X.prog X.w H s.heap a (.rng i j) from I.bD a _ e)
 refine call_list_range (n:=(j-i).toNat) (I.ok.hd c) f (small_one (by lia) (by lia) (by lia) (by lia)) (by rw[rangeSize_one];split <;> lia) (by lia) λh' tk b c' hk g hi=>?_;refine⟨.ref s.heap.objs.size,_,I.laid (a:=s.heap.objs.size) (o:= .lst ((List.range (j-i).toNat).map λ(k:Nat)=>V.int (i+(k:Int)))) (t' :=tk) hk (aB3 _) ⟨by simp[sizeLine_eq];lia,b.toList,c',wW _ _ _ (by simpa using hi.1) λk v hv=>?_,by simpa using g⟩,rfl,q _ (I.bD.fresh (aB3 _))⟩;obtain⟨t,e⟩:=hi.2 k v (by simpa using hv);exact⟨t,by rw[e];simp⟩
def j6(b:WA):WE:=λc mh Q=>b c mh λds a=>∃i j,ds=[.int i,.int j]/\0<=i/\i<=16777216/\0<=j/\j<=16777216/\Q (.ref a.length) (a++[.lst (dF i (j-i).toNat)])
@[simp] theorem PK (b:WA)(c:dX)(mh:MH)(Q:DK):j6 b c mh Q=(b c mh λds a=>∃i j,ds=[.int i,.int j]/\0<=i/\i<=16777216/\0<=j/\j<=16777216/\Q (.ref a.length) (a++[.lst (dF i (j-i).toNat)])):=rfl
theorem xZ{a b:Expr}{k:WA}{n d e pos:Pos}(o:X.calm=true)(r:X.mg "list"=none)(s:X.mg "range"=none)(t:LA X [a,b] k)(hg:Gl X "list":=by rfl)(f:Gl X "range":=by rfl)
  (hs:starEach [a,b] X.env=[(false,eval a X.env),(false,eval b X.env)]:=by rfl) (g:starEach [b] X.env=[(false,eval b X.env)]:=by rfl)
  (c:starEach [.Call (.Name "range" d) [a,b] [] e] X.env=(false,eval (.Call (.Name "range" d) [a,b] [] e) X.env)::starEach [] X.env:=by rfl):
  LE X (.Call (.Name "list" n) [.Call (.Name "range" d) [a,b] [] e] [] pos) (j6 k):=
 PE.imp (sX (sH o) hg r C1 (uM (K1 f s t hs g) zX c) (by decide) (by decide) c rfl) λσ H Q h=>by
  obtain⟨μ,w,mh,R,x,E,h,F⟩:=h;refine⟨μ,w,mh,_,x,E,h,λds y z A vs M B l C=>?_⟩;obtain⟨i,j,rfl,D,G,I,J,q⟩:=z;obtain⟨v,u,rfl,K,L⟩:=tJ C;cases aX K;cases aX L;refine⟨i,j,rfl,λp m=>?_⟩;show ∃a N j',[V.ref p]=[.ref a]/\_;exact⟨p,i,j,rfl,aQ,D,G,I,J,fW (l.new m) (F.at (B.trans (aG.new l m))) (MM i (j-i).toNat) q⟩
end D3
namespace K37
open PySem PyProof.Rows L2 D3
set_option hygiene false
local macro_rules | `(tactic| specialize $t)=>`(tactic| with_reducible show $t)
local macro_rules | `(tactic| walk_at "t")=>`(tactic| repeat' first | ((specialize kP _ _ (gN _));exact vH _) | ((specialize kP _ _ _);refine' TC ?_) | ((specialize rQ _ _ (aW _ _));refine' HW ?_ ?_) | ((specialize rQ _ _ _);exact MT) | exact D8 (by decide) | exact AO | refine' HX ?_ | refine' D9 ?_ ?_ ?_ ?_ | exact HY | refine' gmono_tup ?_ | refine' AQ ?_ ?_ | exact EA)
local macro_rules | `(tactic| walk_at "g")=>`(tactic| first | ((specialize List.Nodup _);assumption) | ((with_reducible show LE _ _ _);first | ((specialize LE _ _ (BK _ _ _ _ _ _));refine' RZ _ _ ?a ?b ?r ?s ?_ ?g ?u ?v;(case a | b=>decide+kernel);(case r | s=>walk_at "t");(case g | u | v=>walk_at "h")) | ((specialize LE _ _ (N4 _ _ _ _ _ _ _));refine' R0 _ _ ?a ?b ?r ?s ?_ ?g ?u ?v ?w;(case a | b=>decide+kernel);(case r | s=>walk_at "t");(case g | u | v | w=>walk_at "h")) | ((specialize LE _ (.Name _ _) (aB _));exact RT _) | ((specialize LE _ (.Constant (.int _) _ _) _);exact le_int) | ((specialize LE _ _ (aJ b9 _ _));refine' CF ixl ?_ ?_ (λ_ _=>rfl)) | ((specialize LE _ (.BinOp _ _ _ _) _);refine' WR ?_ ?_ ?_) | ((specialize LE _ _ (o7 oM _ _ _));refine' G3 sll ?_ ?_ ?_) | ((specialize LE _ (.List _ _) _);refine' RY ?_) | ((specialize LE _ (.Tuple _ _ _) _);refine' RU ?_) | ((specialize LE _ (.Call (.Name "len" _) _ _ _) (aD gF _));refine' r8 TX B.len T5 ?_) | ((specialize LE _ (.Constant .none _ _) _);exact RX) | ((specialize LE _ (.Call (.Name "isinstance" _) _ _ _) (aD mB _));refine' r8 TY B.isinstance sI ?_) | ((specialize LE _ (.Compare _ [_] [_] _) _);refine' R7 ?_ ?_ ?_ (V9 _)) | ((specialize LE _ (.Constant (.bool _) _ _) _);exact WZ) | ((specialize LE _ (.BoolOp .And (_::_::_) _) _);refine' R8 ?_ ?_) | ((specialize LE _ (.Call (.Name "tuple" _) _ _ _) (aD gE _));refine' WQ IT B.tuple yX ?_) | ((specialize LE _ (.BoolOp _ [_] _) _);refine' RV ?_) | ((specialize LE _ (.Call (.Name "min" _) _ _ _) (aD o3 _));refine' r8 (NG rfl) B.min IW ?_) | ((specialize LE _ (.Constant (.str _) _ _) _);exact le_str) | ((specialize LE _ (.Call (.Name "sorted" _) _ _ _) (aD kK _));refine' r8 (EK hr.units) B.sorted kI ?_) | ((specialize LE _ _ (mR false));exact MB) | ((specialize LE _ _ (JX _ d2 _ _));refine' OL PySem.F.plainAttrs_list PySem.F.slot_list_append PySem.F.type_list_append DU ?_ ?_) | ((specialize LE _ (.Name "list" _) (wC _));exact xY B.list C1) | ((specialize LE _ (.Name "tuple" _) (wC _));exact xY B.tuple yX) | ((specialize LE _ _ (mR true));exact MA) | ((specialize LE _ _ (sO _ _ _));refine' L9 ?_ ?_ ?_) | ((specialize LE _ _ (aJ GI _ _));refine' CF (ixF hr.units) ?_ ?_ (λ_ _=>rfl)) | ((specialize LE _ (.Call (.Name "sorted" _) _ _ _) (aD nS _));refine' r8 (AZ hr.units) B.sorted kI ?_) | ((specialize LE _ (.Name "str" _) (wC _));exact xY B.str T3) | ((specialize LE _ _ (aJ QZ _ _));refine' CF (ixT nt hr.units) ?_ ?_ (λ_ _=>rfl)) | ((specialize LE _ _ (BN _ _ _));refine' MC hr.units ?_ ?_ ?_) | ((specialize LE _ _ (aJ Q0 _ _));refine' CF (ixD hr.units) ?_ ?_ (λ_ _=>rfl)) | ((specialize LE _ (.IfExp _ _ _ _) _);refine' G4 ?_ ?_ ?_) | ((specialize LE _ (.Call (.Name "min" _) _ _ _) (aD JA _));refine' r8 (NF rfl) B.min IW ?_) | ((specialize LE _ _ (BG _ _ _ _));refine' L8 hr.units (IQ hcd) rfl B.sorted ?_ ?_ ?_ ?_) | ((specialize LE _ (.Call (.Name "abs" _) _ _ _) (aD JC _));refine' r8 T2 B.abs T7 ?_) | ((specialize LE _ _ (JX _ GV _ _));refine' OL PySem.F.plainAttrs_str PySem.F.slot_str_join PySem.F.type_str_join LL ?_ ?_) | ((specialize LE _ (.Call (.Name "sorted" _) _ _ _) (aD rP _));refine' r8 (A0 hr.units rfl) B.sorted kI ?_) | ((specialize LE _ (.Name "int" _) (wC _));exact xY B.int IX) | ((specialize LE _ (.Name "bool" _) (wC _));exact xY B.bool NL) | ((specialize LE _ (.UnaryOp .Not _ _) _);refine' RW ?_) | ((specialize LE _ (.Call (.Name "all" _) _ _ _) (aD JB _));refine' r8 (T1 rfl) B.all T6 ?_) | ((specialize LE _ _ (j6 _));refine' xZ rfl B.list B.range ?_) | ((specialize LE _ (.Call (.Name "max" _) _ _ _) (aD zD _));refine' r8 (NH rfl) B.max T4 ?_) | ((specialize LE _ (.Call (.Name "int" _) _ _ _) (aD UB _));refine' WQ TZ B.int IX ?_) | ((specialize LE _ (.Call (.Name _ _) _ _ _) (aD _ _));refine' WX (by assumption) hr ?_)) | ((with_reducible show LS _ _ _);first | ((specialize LS _ (.Assign [.Name _ _] (.ListComp _ _ _ _) _) _);refine' DX _ _ ?a ?b ?r ?s (by assumption) ?_ ?g ?u ?v;(case a | b=>decide+kernel);(case r | s=>walk_at "t");(case g | u | v=>walk_at "h")) | ((specialize LS _ (.Assign [.Name _ _] (.DictComp _ _ _ _ _) _) _);refine' G0 _ ?_ ?_) | ((specialize LS _ (.For _ _ _ _ _) (BL _ _ _ _));refine' L0 PassesOwn.never rfl ?_ ?_ ?r ?_;(case r=>walk_at "t")) | ((specialize LS _ (.Assign [.Name _ _] (.ListComp _ _ _ _) _) _);refine' LV _ ?_ ?_) | ((specialize LS _ (.Return (some _) _) _);refine' RJ ?_) | ((specialize LS _ (.If _ _ _ _) _);refine' WH ?_ ?_ ?_) | ((specialize LS _ (.For _ _ _ _ _) _);refine' RM PassesOwn.never rfl ?_ ?_ ?r ?_;(case r=>walk_at "t")) | ((specialize LS _ (.Expr _ _) _);refine' aA9 ?_) | ((specialize LS _ (.While _ _ _ _) _);refine' GZ PassesOwn.never ?_ ?_) | ((specialize LS _ (.Assign [.Subscript _ _ _] _ _) (wR _ _ _));refine' LX nt hr.units ?_ ?_ ?_) | ((specialize LS _ (.Assign [.Subscript _ (.Tuple _ _ _) _] _ _) _);refine' LY hr.units ?_ ?_ ?_) | ((specialize LS _ (.Assign [.Tuple _ _ _] (.Tuple _ _ _) _) _);refine' ls_par _ _ rfl (by assumption) ?_) | ((specialize LS _ (.Assign [.Name _ _] _ _) _);refine' aA8 _ ?_ ?_) | ((specialize LS _ (.Assign [.Subscript _ _ _] _ _) (wQ _ _ _));refine' LU ?_ ?_ ?_) | ((specialize LS _ (.Assign [.Tuple _ _ _] _ _) _);refine' RN ?_ ?_ ?r;(case r=>walk_at "t")) | ((specialize LS _ (.Assign [.Subscript _ _ _] _ _) (pZ _ _ _));refine' LZ hr.units ?_ ?_ ?_)) | ((with_reducible show LA _ _ _);first | ((specialize LA _ (_::_) _);refine' aAd ?_ ?_) | ((specialize LA _ [] _);exact SF)) | ((with_reducible show LI _ _ _ _);first | ((specialize LI _ _ _ (fT _));refine' DZ rfl B.range ?_) | ((specialize LI _ _ _ (O1 _));refine' WN rfl B.enumerate ?_) | ((specialize LI _ _ _ (sN _));refine' L6 rfl B.zip ?_) | ((specialize LI _ _ _ (BM _));refine' RS ?_) | ((specialize LI _ _ _ (BF _));refine' RP ?_) | ((specialize LI _ _ _ (BH _));refine' DY rfl B.range ?_) | ((specialize LI _ _ _ (mQ _));refine' RQ ?_)) | ((with_reducible show PG _ _ _);first | ((specialize PG _ (.Name _ _) _);exact J3 _ (by assumption)) | ((specialize PG _ (.Tuple _ _ _) _);refine' QA rfl ?_)) | ((with_reducible show NQ _ _ _);first | ((specialize NQ _ (_::_) _);refine' F2 ?_ ?_) | ((specialize NQ _ [] _);exact KZ)) | ((with_reducible show cS _ _ _);first | ((specialize cS _ _ (aY _ bN));exact QX) | ((specialize cS _ _ (aY _ oEq));exact V7 hr.units) | ((specialize cS _ _ (aY _ o9));exact GF) | ((specialize cS _ _ (aY _ zJ));exact V3 hr.units) | ((specialize cS _ _ (aY _ oMod));exact QU) | ((specialize cS _ _ (aY _ DP));exact QT) | ((specialize cS _ _ (aY _ gW));exact LD) | ((specialize cS _ _ (aY _ oLt));exact V4 hr.units) | ((specialize cS _ _ (aY _ V8));exact V5 hr.units) | ((specialize cS _ _ (aY _ CA));exact LG) | ((specialize cS _ _ (aY _ LJ));exact QS) | ((specialize cS _ _ (aY _ uQ));exact GD hr.units) | ((specialize cS _ _ (aY _ Q7));exact QV hr.units) | ((specialize cS _ _ (aY _ uP));exact DL hr.units) | ((specialize cS _ _ (aY _ Q8));exact QW hr.units) | ((specialize cS _ _ (aY _ YD));exact V6 hr.units) | ((specialize cS _ _ (aY _ B9));exact LF)) | ((with_reducible show LT _ _ _);first | ((specialize LT _ (.Compare _ [_] [_] _) _);refine' GX ?_ ?_ ?_ (V9 _)) | ((specialize LT _ (.Compare _ [_] [_] _) _);refine' GX ?_ ?_ ?_ (by rfl)) | ((specialize LT _ (.BoolOp .Or _ _) _);refine' LW.lt (OH ?_ ?_)) | ((specialize LT _ (.BoolOp .And _ _) _);refine' LW.lt (RG ?_ ?_)) | ((specialize LT _ (.UnaryOp .Not _ _) _);refine' RH ?_) | ((specialize LT _ _ _);refine' GW ?_)) | ((with_reducible show kL _ _ _);first | ((specialize kL _ [_] _);refine' RK ?_) | ((specialize kL _ [] _);exact RL) | ((specialize kL _ (_::_) _);refine' L3 ?_ ?_)) | ((with_reducible show JE _ _ _);first | ((specialize JE _ [] _);exact LR) | ((specialize JE _ [_] _);refine' LQ ?_)) | ((with_reducible show LO _ _ _);first | ((specialize LO _ (some _) _);refine' L4 ?_) | ((specialize LO _ none _);exact L5)) | ((with_reducible show LW _ _ _);first | ((specialize LW _ (.BoolOp .Or [_] _) _);refine' RF ?_) | ((specialize LW _ (.BoolOp .And [_] _) _);refine' LP ?_) | ((specialize LW _ (.BoolOp .Or _ _) _);refine' OH ?_ ?_)))
local macro_rules | `(tactic| walk_at "h")=>`(tactic| (intros;repeat' walk_at "g"))
set_option hygiene true
section
variable {P:Program}{w:World}{K:aEd}{mg:aEg}{base:Heap}{k:Nat}
theorem lB:aZ ["switches","following","last","number","sort","gate","one","other","width","length","key"] ["switches"] (aC cU):=⟨rfl,rfl,rfl,by decide+kernel,rfl,by decide+kernel,by decide+kernel⟩
def fM:WS:=(aS (gR (cL (aJ Q7 (aB 10) (aB 2))) (pZ (aB 3) (aB 1) (aJ QZ (aB 2) (aB 10))) dC) (wR (aB 3) (aB 2) (aB 10)))
def iO:WS:=(aS (bA (iW (aA (aB 4) (aA (aB 5) (aA (aB 6) (aA (aB 7) (aA (aB 9) aE)))))) (gN 10)) (fM))
def i6:WS:=(dA (aB 1))
def i7:WS:=(aS (kM (O1 (aA (aB 0) aE)) (gT 2 (aW (gN 3) (aW (gT 6 (aW (gN 4) (aW (gN 5) (aW (gN 6) (aW (gN 7) (aW (gN 8) (aW (gN 9) eQ))))))) eQ))) (iO)) (i6))
def i8:WS:=(aS (bA (mR true) (gN 2)) (i7))
def eT:WS:=(aS (bA (mR false) (gN 1)) (i8))
theorem u6(B:Bl mg)(nt:UN K):wF P w K mg base k "next_alike" ["switches","following","last","number","sort","gate","one","other","width","length","key"] cU (eT):=by
 intro f cdv A outer s H E hr;have nd:=lB.nd;show kL _ (_::_) _
 repeat' walk_at "g"
theorem lC:aZ ["names","switches","ends","barred","number","switch","net"] ["names","switches"] (aC cV):=⟨rfl,rfl,rfl,by decide+kernel,rfl,by decide+kernel,by decide+kernel⟩
def o6:WS:=(p6 (JX "list" d2 (sO (aB 2) (aB 6) (f9 aE)) (aA (aB 4) aE)))
def fN:WS:=(kM (mQ (o7 oM (aB 5) (bE (wC (.int 2))) (bE (wC (.int 4))))) (gN 6) (o6))
def iP:WS:=(aS (pZ (wC (.bl true)) (aB 3) (aJ b9 (aB 5) (wC (.int 1)))) (fN))
def i9:WS:=(dA (N4 ["net"] [2,3] (BM (aB 2)) (gN 0) (wV (cL (aJ oEq (aD gF (aA (aJ GI (aB 1) (aB 0)) aE)) (wC (.int 2)))) (cL (aJ uP (aB 0) (aB 2)))) (aB 0) (aJ GI (aB 1) (aB 0))))
def jA:WS:=(aS (kM (O1 (aA (aB 1) aE)) (gT 2 (aW (gN 4) (aW (gN 5) eQ))) (iP)) (i9))
def jB:WS:=(aS (bA (N4 ["name","net"] [] (mQ (aB 0)) (gT 2 (aW (gN 0) (aW (gN 1) eQ))) rV (aB 1) (wC (.bl true))) (gN 3)) (jA))
def eU:WS:=(aS (bA (mR false) (gN 2)) (jB))
theorem u7(B:Bl mg):wF P w K mg base k "inner_nets" ["names","switches","ends","barred","number","switch","net"] cV (eU):=by
 intro f cdv A outer s H E hr;have nd:=lC.nd;show kL _ (_::_) _
 repeat' walk_at "g"
theorem lE:aZ ["one","other"] ["one","other"] (aC cW):=⟨rfl,rfl,rfl,by decide+kernel,rfl,by decide+kernel,by decide+kernel⟩
def eV:WS:=(dA (mS (aJ oEq (o7 oM (aB 0) E8 (bE (wC (.int 2)))) (o7 oM (aB 1) E8 (bE (wC (.int 2))))) (mS (aJ oEq (aJ b9 (aB 0) (wC (.int 4))) (aJ b9 (aB 1) (wC (.int 4)))) (aJ zJ (o7 oM (aB 0) (bE (wC (.int 2))) (bE (wC (.int 4)))) (o7 oM (aB 1) (bE (wC (.int 2))) (bE (wC (.int 4))))))))
theorem u9(B:Bl mg):wF P w K mg base k "are_in_row" ["one","other"] cW (eV):=by
 intro f cdv A outer s H E hr;have nd:=lE.nd;show kL _ (_::_) _
 repeat' walk_at "g"
theorem jN:aZ ["names","switches","following","low","high"] ["names","switches"] (aC cH):=⟨rfl,rfl,rfl,by decide+kernel,rfl,by decide+kernel,by decide+kernel⟩
def gI(a s1:OA):WS:=(gR (wO (aD s1 (aA (aJ b9 (aB 1) (aB 3)) (aA (aJ b9 (aB 1) (aB 4)) aE)))) (p6 (JX "list" d2 (sO (aB 2) (aB 3) (f9 aE)) (aA (aB 4) aE))) dC)
def iM(a s1:OA):WS:=(dA (aB 2))
def iN(a s1:OA):WS:=(aS (BL (BF (aD a (aA (aB 0) (aA (aB 1) aE)))) 2 (aW (gN 3) (aW (gN 4) eQ)) (gI a s1)) (iM a s1))
def dY(a s1:OA):WS:=(aS (bA (mR false) (gN 2)) (iN a s1))
variable{s0 s1:OA}
theorem r9(B:Bl mg)(nK:Fn P w K mg base k "inner_nets" ["names","switches"] s0)(nL:Fn P w K mg base k "are_in_row" ["one","other"] s1):wF P w K mg base k "next_in_row" ["names","switches","following","low","high"] cH (dY s0 s1):=by
 intro f cdv A outer s H E hr;have nd:=jN.nd;show kL _ (_::_) _
 repeat' walk_at "g"
theorem mY:aZ ["names","switches","alike","in_row","number","found"] ["names","switches"] (aC dH):=⟨rfl,rfl,rfl,by decide+kernel,rfl,by decide+kernel,by decide+kernel⟩
def bX(s0 s1:OA):WS:=(gR (wO (aB 5)) (dA (iW (aA (aB 4) (aA (aD JA (aA (aB 5) aE)) aE)))) dC)
def i5(s0 s1:OA):WS:=(aS (bA (aJ bN (BN (aB 3) (aB 4) (f9 aE)) (YV (cL (aJ Q8 (aB 4) (aB 2))) (f9 (aA (aJ Q0 (aB 2) (aB 4)) aE)) (f9 aE))) (gN 5)) (bX s0 s1))
def cT(s0 s1:OA):WS:=(dA (wC .bF))
def kR(s0 s1:OA):WS:=(aS (kM (fT (aA (aD gF (aA (aB 1) aE)) aE)) (gN 4) (i5 s0 s1)) (cT s0 s1))
def kS(s0 s1:OA):WS:=(aS (bA (aD s1 (aA (aB 0) (aA (aB 1) aE))) (gN 3)) (kR s0 s1))
def fK(s0 s1:OA):WS:=(aS (bA (aD s0 (aA (aB 1) aE)) (gN 2)) (kS s0 s1))
theorem x9(B:Bl mg)(nJ:Fn P w K mg base k "next_alike" ["switches"] s0)(lJ:Fn P w K mg base k "next_in_row" ["names","switches"] s1):wF P w K mg base k "next_pair" ["names","switches","alike","in_row","number","found"] dH (fK s0 s1):=by
 intro f cdv A outer s H E hr;have nd:=mY.nd;show kL _ (_::_) _
 repeat' walk_at "g"
theorem oG:aZ ["one","other","ends"] ["one","other"] (aC d6):=⟨rfl,rfl,rfl,by decide+kernel,rfl,by decide+kernel,by decide+kernel⟩
def mF:WS:=(dA (aJ bN (o7 oM (aB 0) E8 (bE (wC (.int 2)))) (iW (aA (aJ b9 (aB 2) (wC (.int 0))) (aA (aJ b9 (aB 2) (wC (.int 1))) (aA (aJ b9 (aB 0) (wC (.int 4))) (aA (aJ bN (aJ b9 (aB 0) (wC (.int 5))) (aJ b9 (aB 1) (wC (.int 5)))) aE)))))))
def mG:WS:=(aS (bA (BG (aJ b9 (aB 0) (wC (.int 2))) (aJ b9 (aB 0) (wC (.int 3))) (aJ b9 (aB 1) (wC (.int 2))) (aJ b9 (aB 1) (wC (.int 3)))) (gN 2)) (mF))
def hZ:WS:=(aS (gR (cL (aJ oEq (o7 oM (aB 0) (bE (wC (.int 2))) (bE (wC (.int 4)))) (o7 oM (aB 1) (bE (wC (.int 2))) (bE (wC (.int 4)))))) (dA (aJ bN (o7 oM (aB 0) E8 (bE (wC (.int 4)))) (iW (aA (aJ bN (aJ b9 (aB 0) (wC (.int 4))) (aJ b9 (aB 1) (wC (.int 4)))) (aA (aJ b9 (aB 0) (wC (.int 5))) aE))))) dC) (mG))
theorem AI(B:Bl mg):XZ P w K mg base k "made_one" ["one","other","ends"] d6 (hZ):=by
 intro f cdv A outer s H E hr;intro hcd;have nd:=oG.nd;show kL _ (_::_) _
 repeat' walk_at "g"
theorem qG:aZ ["some","many","names","switches","pair","low","high","kept"] ["some"] (aC fE):=⟨rfl,rfl,rfl,by decide+kernel,rfl,by decide+kernel,by decide+kernel⟩
def iX(s0 s1:OA):WS:=(bA (aD s0 (aA (aB 2) (aA (aB 3) aE))) (gN 4))
def iY(s0 s1:OA):WS:=(aS (bA (aD gE (aA (aD nS (aA (aJ bN (aB 7) (iW (aA (aD s1 (aA (aJ b9 (aB 3) (aB 5)) (aA (aJ b9 (aB 3) (aB 6)) aE))) aE))) aE)) aE)) (gN 3)) (iX s0 s1))
def iZ(s0 s1:OA):WS:=(aS (bA (aJ bN (aJ bN (o7 oM (aB 3) E8 (bE (aB 5))) (o7 oM (aB 3) (bE (aJ bN (aB 5) (wC (.int 1)))) (bE (aB 6)))) (o7 oM (aB 3) (bE (aJ bN (aB 6) (wC (.int 1)))) E8)) (gN 7)) (iY s0 s1))
def mE(s0 s1:OA):WS:=(aS (bA (aB 4) (gT 2 (aW (gN 5) (aW (gN 6) eQ)))) (iZ s0 s1))
def oE(s0 s1:OA):WS:=(dA (iW (aA (aB 1) (aA (aB 2) (aA (aB 3) aE)))))
def i4(s0 s1:OA):WS:=(aS (lQ (cL (aJ gW (aB 4) (wC .bF))) (mE s0 s1)) (oE s0 s1))
def oF(s0 s1:OA):WS:=(aS (bA (aD s0 (aA (aB 2) (aA (aB 3) aE))) (gN 4)) (i4 s0 s1))
def j5(s0 s1:OA):WS:=(aS (bA (aB 0) (gT 3 (aW (gN 1) (aW (gN 2) (aW (gN 3) eQ))))) (oF s0 s1))
theorem D1(B:Bl mg)(oT:Fn P w K mg base k "next_pair" ["names","switches"] s0)(rA:Fn P w K mg base k "made_one" ["one","other"] s1):wF P w K mg base k "thinned" ["some","many","names","switches","pair","low","high","kept"] fE (j5 s0 s1):=by
 intro f cdv A outer s H E hr;have nd:=qG.nd;show kL _ (_::_) _
 repeat' walk_at "g"
theorem oI:aZ ["_law_script","_law_at","_law_cell","_law_mix","_law_k"] ["_law_script","_law_at"] (aC d8):=⟨rfl,rfl,rfl,by decide+kernel,rfl,by decide+kernel,by decide+kernel⟩
def lA:WS:=(bA (aJ oMod (aJ DP (aJ bN (aJ bN (aJ o9 (aB 3) (wC (.int 48271))) (aJ oMod (aJ b9 (aB 0) (aB 4)) (wC (.int 2147483647)))) (aJ o9 (aB 4) (aB 4))) (wC (.int 5))) (wC (.int 2147483629))) (gN 3))
def mN:WS:=(dA (f9 (aA (aB 2) (aA (aB 3) aE))))
def iB:WS:=(aS (gR (cL (aJ oLt (aB 2) (aJ DP (wC (.int 10)) (wC (.int 18))))) (bA (wC (.int 0)) (gN 2)) dC) (mN))
def mO:WS:=(aS (kM (fT (aA (aD o3 (aA (aD gF (aA (aB 0) aE)) (aA (wC (.int 60)) aE))) aE)) (gN 4) (lA)) (iB))
def iC:WS:=(aS (bA (aJ bN (aJ bN (aJ o9 (aJ o9 (wC (.int 7919)) (aB 1)) (aB 1)) (aJ o9 (wC (.int 104729)) (aB 1))) (wC (.int 17))) (gN 3)) (mO))
def mP:WS:=(aS (gR (cL (aJ oLt (aB 1) (aD gF (aA (aB 0) aE)))) (bA (aD JC (aA (aJ b9 (aB 0) (aB 1)) aE)) (gN 2)) dC) (iC))
def iD:WS:=(aS (bA (wC (.int 0)) (gN 2)) (mP))
theorem AK(B:Bl mg):wF P w K mg base k "_law_bag" ["_law_script","_law_at","_law_cell","_law_mix","_law_k"] d8 (iD):=by
 intro f cdv A outer s H E hr;have nd:=oI.nd;show kL _ (_::_) _
 repeat' walk_at "g"
theorem mZ:aZ ["_law_bag_here","_law_many","_law_digit","_law_number","_law_room"] ["_law_bag_here","_law_many"] (aC dI):=⟨rfl,rfl,rfl,by decide+kernel,rfl,by decide+kernel,by decide+kernel⟩
def gJ:WS:=(bA (aJ o9 (aB 4) (wC (.int 1073741789))) (gN 4))
def gK:WS:=(aS (bA (aJ bN (aJ o9 (aB 3) (wC (.int 1073741789))) (aJ oMod (aJ o9 (aJ CA (aJ b9 (aB 0) (wC (.int 1))) (wC (.int 8))) (wC (.int 69621))) (wC (.int 1073741789)))) (gN 3)) (gJ))
def jC:WS:=(aS (wQ (aJ oMod (aJ DP (aJ bN (aJ o9 (aJ b9 (aB 0) (wC (.int 1))) (wC (.int 48271))) (wC (.int 7919))) (wC (.int 5))) (wC (.int 2147483629))) (aB 0) (wC (.int 1))) (gK))
def fY:WS:=(dA (aJ oMod (aB 3) (aB 1)))
def kU:WS:=(aS (lQ (cL (aJ oLt (aB 4) (aB 1))) (jC)) (fY))
def kW:WS:=(aS (bA (wC (.int 1)) (gN 4)) (kU))
def kX:WS:=(aS (bA (wC (.int 0)) (gN 3)) (kW))
def fO:WS:=(aS (gR (cL (aJ YD (aJ b9 (aB 0) (wC (.int 0))) (wC (.int 0)))) (aS (bA (aJ oMod (aJ b9 (aB 0) (wC (.int 0))) (aB 1)) (gN 2)) (aS (wQ (aJ CA (aJ b9 (aB 0) (wC (.int 0))) (aB 1)) (aB 0) (wC (.int 0))) (dA (aB 2)))) dC) (kX))
theorem yA(B:Bl mg):wF P w K mg base k "_law_take" ["_law_bag_here","_law_many","_law_digit","_law_number","_law_room"] dI (fO):=by
 intro f cdv A outer s H E hr;have nd:=mZ.nd;show kL _ (_::_) _
 repeat' walk_at "g"
theorem m4:aZ ["_law_bag_here","_law_nets_most","_law_names_most","_law_switches_most","_law_many","_law_low_nets","_law_names","_law_turn","_law_word","_law_switches","_law_ends_there","_law_two_here","_law_sort"] ["_law_bag_here","_law_nets_most","_law_names_most","_law_switches_most"] (aC dM):=⟨rfl,rfl,rfl,by decide+kernel,rfl,by decide+kernel,by decide+kernel⟩
def jG(s0:OA):WS:=(aS (bA (JX "str" GV (wC (.str "")) (aA (BK ["_law_k"] [0] (fT (aA (aJ bN (wC (.int 1)) (aD s0 (aA (aB 0) (aA (aJ b9 (f9 (aA (wC (.int 2)) (aA (wC (.int 8)) aE))) (aD s0 (aA (aB 0) (aA (wC (.int 2)) aE)))) aE)))) aE)) (gN 0) rV (aJ b9 (wC (.str "abcxyzou")) (aD s0 (aA (aB 1) (aA (wC (.int 8)) aE))))) aE)) (gN 8)) (BI (wC (.bl true)) (aB 6) (aA (aB 8) (aA (aD s0 (aA (aB 0) (aA (aB 4) aE))) aE))))
def gL(s0:OA):WS:=(p6 (JX "list" d2 (aB 9) (aA (iW (aA (aB 12) (aA (aD s0 (aA (aB 0) (aA (aB 5) aE))) (aA (aJ b9 (aB 10) (wC (.int 0))) (aA (aJ b9 (aB 10) (wC (.int 1))) (aA (aJ b9 (aB 11) (wC (.int 0))) (aA (aJ b9 (aB 11) (wC (.int 1))) aE))))))) aE)))
def gM(s0:OA):WS:=(aS (bA (aJ b9 (wC (.str "np")) (aD s0 (aA (aB 0) (aA (wC (.int 2)) aE)))) (gN 12)) (gL s0))
def gO(s0:OA):WS:=(aS (bA (BK ["_law_k"] [0] (fT (aA (wC (.int 2)) aE)) (gN 0) rV (aJ bN (wC (.int 1)) (aD s0 (aA (aB 1) (aA (aJ b9 (f9 (aA (wC (.int 2)) (aA (wC (.int 3)) (aA (aJ DP (wC (.int 2)) (wC (.int 21))) aE)))) (aD s0 (aA (aB 1) (aA (wC (.int 3)) aE)))) aE))))) (gN 11)) (gM s0))
def jF(s0:OA):WS:=(aS (bA (aD kK (aA (f9 (aA (aD s0 (aA (aB 0) (aA (aB 4) aE))) (aA (aD s0 (aA (aB 0) (aA (aB 5) aE))) aE))) aE)) (gN 10)) (gO s0))
def fZ(s0:OA):WS:=(dA (iW (aA (aB 4) (aA (aD gE (aA (aD rP (aA (aB 6) aE)) aE)) (aA (aD gE (aA (aD kK (aA (aB 9) aE)) aE)) aE)))))
def f6(s0:OA):WS:=(aS (kM (fT (aA (aD s0 (aA (aB 0) (aA (aJ bN (aB 3) (wC (.int 1))) aE))) aE)) (gN 7) (jF s0)) (fZ s0))
def k6(s0:OA):WS:=(aS (bA (f9 aE) (gN 9)) (f6 s0))
def f7(s0:OA):WS:=(aS (kM (fT (aA (aD s0 (aA (aB 0) (aA (aJ bN (aB 2) (wC (.int 1))) aE))) aE)) (gN 7) (jG s0)) (k6 s0))
def k7(s0:OA):WS:=(aS (bA (mR true) (gN 6)) (f7 s0))
def k9(s0:OA):WS:=(aS (bA (aJ bN (wC (.int 1)) (aD s0 (aA (aB 0) (aA (aJ b9 (f9 (aA (aB 4) (aA (aD o3 (aA (aB 4) (aA (wC (.int 3)) aE))) aE))) (aD s0 (aA (aB 0) (aA (wC (.int 2)) aE)))) aE)))) (gN 5)) (k7 s0))
def fQ(s0:OA):WS:=(aS (bA (aJ bN (wC (.int 1)) (aD s0 (aA (aB 0) (aA (aB 1) aE)))) (gN 4)) (k9 s0))
theorem yC(B:Bl mg)(dD:Fn P w K mg base k "_law_take" ["_law_bag_here","_law_many"] s0):wF P w K mg base k "_law_list" ["_law_bag_here","_law_nets_most","_law_names_most","_law_switches_most","_law_many","_law_low_nets","_law_names","_law_turn","_law_word","_law_switches","_law_ends_there","_law_two_here","_law_sort"] dM (fQ s0):=by
 intro f cdv A outer s H E hr;have nd:=m4.nd;show kL _ (_::_) _
 repeat' walk_at "g"
theorem gV:aZ ["_law_thing"] ["_law_thing"] (aC bY):=⟨rfl,rfl,rfl,by decide+kernel,rfl,by decide+kernel,by decide+kernel⟩
def c6:WS:=(dA (mS (aD mB (aA (aB 0) (aA (wC (.ty "int")) aE))) (BJ (aD mB (aA (aB 0) (aA (wC (.ty "bool")) aE))))))
theorem pB(B:Bl mg):wF P w K mg base k "_law_is_whole" ["_law_thing"] bY (c6):=by
 intro f cdv A outer s H E hr;have nd:=gV.nd;show kL _ (_::_) _
 repeat' walk_at "g"
theorem lF:aZ ["_law_found","_law_due"] ["_law_found","_law_due"] (aC cX):=⟨rfl,rfl,rfl,by decide+kernel,rfl,by decide+kernel,by decide+kernel⟩
def jH(s0 s1:OA):WS:=(dA (mS (aD s1 (aA (aB 0) aE)) (aJ oEq (aB 0) (aB 1))))
def fC(s0 s1:OA):WS:=(aS (gR (wO (aD mB (aA (aB 1) (aA (wC (.ty "str")) aE)))) (dA (mS (aD mB (aA (aB 0) (aA (wC (.ty "str")) aE))) (aJ oEq (aB 0) (aB 1)))) dC) (jH s0 s1))
def cK(s0 s1:OA):WS:=(aS (gR (wO (aD mB (aA (aB 1) (aA (iW (aA (wC (.ty "list")) (aA (wC (.ty "tuple")) aE))) aE)))) (aS (gR (wU (cL (aJ zJ (aD mB (aA (aB 1) (aA (wC (.ty "list")) aE))) (aD mB (aA (aB 0) (aA (wC (.ty "list")) aE))))) (cL (aJ zJ (aD mB (aA (aB 1) (aA (wC (.ty "tuple")) aE))) (aD mB (aA (aB 0) (aA (wC (.ty "tuple")) aE)))))) (dA (wC (.bl false))) dC) (dA (mS (aJ oEq (aD gF (aA (aB 0) aE)) (aD gF (aA (aB 1) aE))) (aD JB (aA (BK ["_law_one","_law_two_here"] [] (sN (aA (aB 0) (aA (aB 1) aE))) (gT 2 (aW (gN 0) (aW (gN 1) eQ))) rV (aD s0 (aA (aB 0) (aA (aB 1) aE)))) aE))))) dC) (fC s0 s1))
theorem vA(B:Bl mg)(e8:Fn P w K mg base k "_law_alike" ["_law_found","_law_due"] s0)(iT:Fn P w K mg base k "_law_is_whole" ["_law_thing"] s1):wF P w K mg base k "_law_alike" ["_law_found","_law_due"] cX (cK s0 s1):=by
 intro f cdv A outer s H E hr;have nd:=lF.nd;show kL _ (_::_) _
 repeat' walk_at "g"
theorem iQ:aZ ["_law_bag_here","_law_some","_law_many","_law_names","_law_switches","_law_turn","_law_ends_there","_law_steps","_law_row","_law_gate","_law_wide","_law_one","_law_other","_law_switch"] ["_law_bag_here","_law_some"] (aC cB):=⟨rfl,rfl,rfl,by decide+kernel,rfl,by decide+kernel,by decide+kernel⟩
def eG(s0:OA):WS:=(bA (aJ bN (aB 4) (aJ B9 (iW (aA (aB 13) aE)) (aJ bN (wC (.int 1)) (aD UB (aA (aJ oEq (aD s0 (aA (aB 0) (aA (wC (.int 5)) aE))) (wC (.int 0))) aE))))) (gN 4))
def fR(s0:OA):WS:=(aS (bA (iW (aA (aJ b9 (wC (.str "np")) (aJ oMod (aB 5) (wC (.int 2)))) (aA (aB 9) (aA (aD o3 (aA (aB 11) (aA (aB 12) aE))) (aA (aD zD (aA (aB 11) (aA (aB 12) aE))) (aA (aB 10) (aA (aJ bN (wC (.int 1)) (aD s0 (aA (aB 0) (aA (wC (.int 3)) aE)))) aE))))))) (gN 13)) (eG s0))
def eI(s0:OA):WS:=(bA (aJ LJ (aJ bN (aB 2) (aB 7)) (wC (.int 1))) (gN 2))
def eJ(s0:OA):WS:=(aS (kM (sN (aA (aB 8) (aA (o7 oM (aB 8) (bE (wC (.int 1))) E8) aE))) (gT 2 (aW (gN 11) (aW (gN 12) eQ))) (fR s0)) (eI s0))
def eK(s0:OA):WS:=(aS (bA (aJ bN (wC (.int 1)) (aD s0 (aA (aB 0) (aA (wC (.int 2)) aE)))) (gN 10)) (eJ s0))
def eL(s0:OA):WS:=(aS (bA (aD s0 (aA (aB 0) (aA (aB 2) aE))) (gN 9)) (eK s0))
def eM(s0:OA):WS:=(aS (bA (aJ bN (aJ bN (f9 (aA (aJ b9 (aB 6) (wC (.int 0))) aE)) (j6 (aA (aB 2) (aA (aJ LJ (aJ bN (aB 2) (aB 7)) (wC (.int 1))) aE)))) (f9 (aA (aJ b9 (aB 6) (wC (.int 1))) aE))) (gN 8)) (eL s0))
def eN(s0:OA):WS:=(aS (bA (aJ bN (wC (.int 1)) (aD s0 (aA (aB 0) (aA (wC (.int 4)) aE)))) (gN 7)) (eM s0))
def fS(s0:OA):WS:=(aS (bA (f9 (aA (aD s0 (aA (aB 0) (aA (aB 2) aE))) (aA (aD s0 (aA (aB 0) (aA (aB 2) aE))) aE))) (gN 6)) (eN s0))
def gP(s0:OA):WS:=(dA (iW (aA (aB 2) (aA (aB 3) (aA (aD gE (aA (aD nS (aA (aB 4) aE)) aE)) aE)))))
def gQ(s0:OA):WS:=(aS (kM (fT (aA (aJ bN (wC (.int 1)) (aD s0 (aA (aB 0) (aA (wC (.int 3)) aE)))) aE)) (gN 5) (fS s0)) (gP s0))
def dG(s0:OA):WS:=(aS (bA (aB 1) (gT 3 (aW (gN 2) (aW (gN 3) (aW (gN 4) eQ))))) (gQ s0))
theorem qT(B:Bl mg)(dD:Fn P w K mg base k "_law_take" ["_law_bag_here","_law_many"] s0):wF P w K mg base k "_law_chained" ["_law_bag_here","_law_some","_law_many","_law_names","_law_switches","_law_turn","_law_ends_there","_law_steps","_law_row","_law_gate","_law_wide","_law_one","_law_other","_law_switch"] cB (dG s0):=by
 intro f cdv A outer s H E hr;have nd:=iQ.nd;show kL _ (_::_) _
 repeat' walk_at "g"
theorem oH:aZ ["_law_some","_law_i","_law_j","_law_one","_law_other","_law_common","_law_k","_law_switch","_law_ends_there"] ["_law_some","_law_i","_law_j"] (aC d7):=⟨rfl,rfl,rfl,by decide+kernel,rfl,by decide+kernel,by decide+kernel⟩
def kT:WS:=(gR (wU (cL (aJ oEq (aJ b9 (aB 5) (wC (.int 0))) (aJ b9 (aB 7) (wC (.int 1))))) (wV (cL (aJ uQ (aB 6) (f9 (aA (aB 1) (aA (aB 2) aE))))) (cL (aJ V8 (aJ b9 (aB 5) (wC (.int 0))) (o7 oM (aB 7) (bE (wC (.int 2))) (bE (wC (.int 4)))))))) (dA (wC .bF)) dC)
def mH:WS:=(dA (aJ bN (aJ bN (o7 oM (aB 3) E8 (bE (wC (.int 2)))) (aD gE (aA (aB 8) aE))) (iW (aA (aJ b9 (aB 3) (wC (.int 4))) (aA (aJ bN (aJ b9 (aB 3) (wC (.int 5))) (aJ b9 (aB 4) (wC (.int 5)))) aE)))))
def mI:WS:=(aS (bA (aD kK (aA (BK ["_law_net"] [5] (mQ (aJ bN (o7 oM (aB 3) (bE (wC (.int 2))) (bE (wC (.int 4)))) (o7 oM (aB 4) (bE (wC (.int 2))) (bE (wC (.int 4)))))) (gN 0) (cL (aJ zJ (aB 0) (aJ b9 (aB 1) (wC (.int 0))))) (aB 0)) aE)) (gN 8)) (mH))
def mJ:WS:=(aS (kM (O1 (aA (aJ b9 (aB 0) (wC (.int 2))) aE)) (gT 2 (aW (gN 6) (aW (gN 7) eQ))) (kT)) (mI))
def eW:WS:=(aS (gR (wU (cL (aJ zJ (aD gF (aA (aB 5) aE)) (wC (.int 1)))) (cL (aJ V8 (aJ b9 (aB 5) (wC (.int 0))) (BK ["_law_name","_law_net"] [] (mQ (aJ b9 (aB 0) (wC (.int 1)))) (gT 2 (aW (gN 0) (aW (gN 1) eQ))) rV (aB 1))))) (dA (wC .bF)) dC) (mJ))
def mK:WS:=(aS (bA (BK ["_law_net"] [4] (mQ (o7 oM (aB 3) (bE (wC (.int 2))) (bE (wC (.int 4))))) (gN 0) (cL (aJ V8 (aB 0) (o7 oM (aB 1) (bE (wC (.int 2))) (bE (wC (.int 4)))))) (aB 0)) (gN 5)) (eW))
def h9:WS:=(aS (gR (wU (cL (aJ zJ (aJ b9 (aB 3) (wC (.int 4))) (aJ b9 (aB 4) (wC (.int 4))))) (wU (cL (aJ oEq (aJ b9 (aB 3) (wC (.int 2))) (aJ b9 (aB 3) (wC (.int 3))))) (cL (aJ oEq (aJ b9 (aB 4) (wC (.int 2))) (aJ b9 (aB 4) (wC (.int 3))))))) (dA (wC .bF)) dC) (mK))
def mL:WS:=(aS (gR (wV (cL (aJ oEq (o7 oM (aB 3) (bE (wC (.int 2))) (bE (wC (.int 4)))) (o7 oM (aB 4) (bE (wC (.int 2))) (bE (wC (.int 4)))))) (cL (aJ oEq (aJ b9 (aB 3) (wC (.int 5))) (aJ b9 (aB 4) (wC (.int 5)))))) (dA (aJ bN (o7 oM (aB 3) E8 (bE (wC (.int 4)))) (iW (aA (aJ bN (aJ b9 (aB 3) (wC (.int 4))) (aJ b9 (aB 4) (wC (.int 4)))) (aA (aJ b9 (aB 3) (wC (.int 5))) aE))))) dC) (h9))
def mM:WS:=(aS (gR (wU (cL (aJ zJ (aJ b9 (aB 3) (wC (.int 0))) (aJ b9 (aB 4) (wC (.int 0))))) (cL (aJ zJ (aJ b9 (aB 3) (wC (.int 1))) (aJ b9 (aB 4) (wC (.int 1)))))) (dA (wC .bF)) dC) (mL))
def iA:WS:=(aS (bA (iW (aA (aJ b9 (aJ b9 (aB 0) (wC (.int 2))) (aB 1)) (aA (aJ b9 (aJ b9 (aB 0) (wC (.int 2))) (aB 2)) aE))) (gT 2 (aW (gN 3) (aW (gN 4) eQ)))) (mM))
theorem AJ(B:Bl mg):wF P w K mg base k "_law_two" ["_law_some","_law_i","_law_j","_law_one","_law_other","_law_common","_law_k","_law_switch","_law_ends_there"] d7 (iA):=by
 intro f cdv A outer s H E hr;have nd:=oH.nd;show kL _ (_::_) _
 repeat' walk_at "g"
theorem m3:aZ ["_law_some","_law_switches","_law_i","_law_j","_law_made_one","_law_rest"] ["_law_some"] (aC dJ):=⟨rfl,rfl,rfl,by decide+kernel,rfl,by decide+kernel,by decide+kernel⟩
def dR(s0:OA):WS:=(gR (cL (aJ gW (aB 4) (wC .bF))) (aS (bA (BK ["_law_k"] [1,2,3] (fT (aA (aD gF (aA (aB 1) aE)) aE)) (gN 0) (cL (aJ uQ (aB 0) (f9 (aA (aB 2) (aA (aB 3) aE))))) (aJ b9 (aB 1) (aB 0))) (gN 5)) (dA (iW (aA (aJ b9 (aB 0) (wC (.int 0))) (aA (aJ b9 (aB 0) (wC (.int 1))) (aA (aD gE (aA (aD kK (aA (aJ bN (aB 5) (f9 (aA (aB 4) aE))) aE)) aE)) aE)))))) dC)
def jD(s0:OA):WS:=(aS (bA (aD s0 (aA (aB 0) (aA (aB 2) (aA (aB 3) aE)))) (gN 4)) (dR s0))
def jE(s0:OA):WS:=(kM (BH (aA (aJ bN (aB 2) (wC (.int 1))) (aA (aD gF (aA (aB 1) aE)) aE))) (gN 3) (jD s0))
def kY(s0:OA):WS:=(dA (wC .bF))
def kZ(s0:OA):WS:=(aS (kM (fT (aA (aD gF (aA (aB 1) aE)) aE)) (gN 2) (jE s0)) (kY s0))
def fP(s0:OA):WS:=(aS (bA (aJ b9 (aB 0) (wC (.int 2))) (gN 1)) (kZ s0))
theorem yB(B:Bl mg)(rB:Fn P w K mg base k "_law_two" ["_law_some","_law_i","_law_j"] s0):wF P w K mg base k "_law_once" ["_law_some","_law_switches","_law_i","_law_j","_law_made_one","_law_rest"] dJ (fP s0):=by
 intro f cdv A outer s H E hr;have nd:=m3.nd;show kL _ (_::_) _
 repeat' walk_at "g"
theorem FK:aZ ["_law_script","_law_k","_law_bag_here","_law_more","_law_some","_law_due","_law_thinner","_law_again"] ["_law_script"] (aC qD):=⟨rfl,rfl,rfl,by decide+kernel,rfl,by decide+kernel,by decide+kernel⟩
def pU(s0 s1 s2 b a c d:OA):WS:=(bA (aD a (aA (aB 5) aE)) (gN 6))
def wM(s0 s1 s2 a b c d:OA):WS:=(aS (bA (aB 6) (gN 5)) (pU s0 s1 s2 a b c d))
def wL(s0 s1 s2 c d a b:OA):WS:=(gR (E7 (wO (aD a (aA (aD b (aA (aB 4) aE)) (aA (aB 5) aE))))) (dA (wC (.bl false))) dC)
def pV(s0 s1 s2 a b c d:OA):WS:=(kM (fT (aA (wC (.int 2)) aE)) (gN 7) (wL s0 s1 s2 a b c d))
def lN(s0 s1 s2 a b c d:OA):WS:=(aS (lQ (cL (aJ gW (aB 6) (wC .bF))) (wM s0 s1 s2 a b c d)) (pV s0 s1 s2 a b c d))
def pW(s0 s1 s2 b a c d:OA):WS:=(aS (bA (aD a (aA (aB 5) aE)) (gN 6)) (lN s0 s1 s2 b a c d))
def lO(s0 s1 s2 a b c d:OA):WS:=(aS (bA (aB 4) (gN 5)) (pW s0 s1 s2 a b c d))
def lP(s0 s1 s2 a b c d:OA):WS:=(aS (gR (cL (aJ oEq (aB 3) (wC (.int 1)))) (bA (aD a (aA (aB 2) (aA (aB 4) aE))) (gN 4)) dC) (lO s0 s1 s2 a b c d))
def pX(s0 s1 s2 a b c d:OA):WS:=(aS (bA (aD s2 (aA (aB 2) (aA (wC (.int 8)) (aA (wC (.int 3)) (aA (aJ b9 (f9 (aA (wC (.int 14)) (aA (wC (.int 6)) aE))) (aB 3)) aE))))) (gN 4)) (lP s0 s1 s2 a b c d))
def pY(s0 s1 s2 a b c d:OA):WS:=(aS (bA (aD s1 (aA (aB 2) (aA (wC (.int 2)) aE))) (gN 3)) (pX s0 s1 s2 a b c d))
def wN(s0 s1 s2 a b c d:OA):WS:=(aS (bA (aD s0 (aA (aB 0) (aA (aB 1) aE))) (gN 2)) (pY s0 s1 s2 a b c d))
def pI(s0 s1 s2 a b c d:OA):WS:=(dA (wC (.bl true)))
def BE(s0 s1 s2 a b c d:OA):WS:=(aS (kM (fT (aA (aJ bN (aD o3 (aA (aD gF (aA (aB 0) aE)) (aA (wC (.int 6)) aE))) (wC (.int 2))) aE)) (gN 1) (wN s0 s1 s2 a b c d)) (pI s0 s1 s2 a b c d))
theorem W0(B:Bl mg)(rC:Fn P w K mg base k "_law_bag" ["_law_script","_law_at"] s0)(dD:Fn P w K mg base k "_law_take" ["_law_bag_here","_law_many"] s1){s2:OA}(oV:Fn P w K mg base k "_law_list" ["_law_bag_here","_law_nets_most","_law_names_most","_law_switches_most"] s2){s3:OA}(jW:Fn P w K mg base k "_law_chained" ["_law_bag_here","_law_some"] s3){s4:OA}(oU:Fn P w K mg base k "_law_once" ["_law_some"] s4){s5:OA}(e8:Fn P w K mg base k "_law_alike" ["_law_found","_law_due"] s5){s6:OA}(tM:Fn P w K mg base k "thinned" ["some"] s6):wF P w K mg base k "law" ["_law_script","_law_k","_law_bag_here","_law_more","_law_some","_law_due","_law_thinner","_law_again"] qD (BE s0 s1 s2 s3 s4 s5 s6):=by
 intro f cdv A outer s H E hr;have nd:=FK.nd;show kL _ (_::_) _
 repeat' walk_at "g"
end
theorem W3:EV 2 0=some 0:=by decide
theorem W2:EV 2 1=some 1:=by decide
theorem zB(d e:D)(ds:List D):hX (d::e::ds) 1=some e:=by
 have:=kJ (xs:=d::e::ds) (j:=1) (v:=e) rfl;simpa using this
theorem rJ{i j:Int}(a: -18446744073709551616<j)(b:j<18446744073709551616):EU i j:= .inr ⟨a,b⟩
theorem OV{i j:Int}(a: -18446744073709551616<i)(b:i<18446744073709551616):EU i j:= .inl ⟨a,b⟩
theorem NC{i:Int}{j:Int}(h0:0<=j)(a:j<=1000000)(b: -18446744073709551616<i)(c:i<18446744073709551616):UG i j:=⟨h0,a,by omega⟩
abbrev En(mh:MH)(R:DK):hV:={nx:=λ_ a=>Out mh.length .bF a R,rt:=λd a=>Out mh.length d a R}
theorem S0(ds:List D)(mh:MH)(R:DK)(ok:j4 mh)(hs:eO ds mh R):fO (En mh R) (aK ["_law_bag_here","_law_many","_law_digit","_law_number","_law_room"] ds) mh:=by
 obtain⟨b,a,rfl,z,A,⟨c,m,h,o,j,k⟩,q⟩:=hs;have f:b<mh.length:=(aB2.mp h).1
 have g:∀(r c' l :Int),0<=r->r<a->0<=c' ->0<=l ->l<2147483629->Out mh.length (.int r) (mh.set b (.lst [.int c',.int l])) R:=λr c' l p s t u v=>
  aM (q r _ p s ⟨⟨c',l,by simp[f],t,u,v⟩,_,rfl⟩)
 simp[fO,kX,kW,kU,aK,d9 h,FL h,W3];by_cases h0:0<c
 ·rw[if_pos h0];exact⟨by omega,⟨by omega,by omega⟩,g _ _ _ (aD1 _ (by omega)) (aCm _ (by omega)) (Int.ediv_nonneg (by omega) (by omega)) j k⟩
 ·rw[if_neg h0];refine zL 2 ?_;by_cases d:1<a
  ·have w:0<=(m*48271+7919)^5 % 2147483629:=aD1 _ (by omega);have x:(m*48271+7919)^5 % 2147483629<2147483629:=aCm _ (by omega);simp[lM,jC,gK,gJ,fY,d,d9 h,FL h,W2,zB];refine⟨rJ (by omega) (by omega),NC (by omega) (by omega) (by omega) (by omega),?_⟩;have n:(mh.set b (.lst [.int c,.int ((m*48271+7919)^5 % 2147483629)]))[b]? =some (.lst [.int c,.int ((m*48271+7919)^5 % 2147483629)]):=by simp[f]
   simp only[d9 n,zB,bK,FN,uH];refine⟨rJ (by omega) (by omega),⟨by omega,by omega⟩,rJ (by omega) (by omega),by omega,rJ (by omega) (by omega),?_⟩;simp;rw[if_neg (by omega)];exact⟨by omega,g _ _ _ (aD1 _ (by omega)) (aCm _ (by omega)) o w x⟩
  ·simp[lM,d,fY];have e:a=1:=by omega
   subst e;refine⟨by omega,?_⟩
   have y:mh.set b (.lst [.int c,.int m])=mh:=by
    apply aD5;intro i;by_cases hi:i=b
    ·subst hi;rw[List.getElem?_set_self f,h]
    ·rw[List.getElem?_set_ne (Ne.symm hi)]
   have:=g 0 c m (by omega) (by omega) o j k;rw[y]at this;exact this
variable{ns:List Int}
theorem zA{i:Int}(h0:0<=i)(a:i<ns.length):∃v,hX (ns.map D.int) i=some (.int v):=by
 refine⟨ns[i.toNat]'(by omega),?_⟩;have e:i=((i.toNat:Nat):Int):=by omega
 have:=kJ (xs:=ns.map D.int) (j:=i.toNat) (v:= .int (ns[i.toNat]'(by omega))) (by rw[List.getElem?_map,List.getElem?_eq_getElem (by omega)];rfl);rw[<-e]at this;exact this
variable{mh:MH}{R:DK}
theorem TB{a c m:Int}{k:Option D}(q:∀mh',(∃o,mh' =mh++[o])->BC mh' mh.length->R (.ref mh.length) mh')(d:0<=c)(e:0<=m)(f:m<2147483629):
  iB (En mh R) [some (.fl (ns.map .int)),some (.int a),some (.int c),some (.int m),k] mh:=by
 have b:∀c,0<=c->Out mh.length (.ref mh.length) (mh++[.lst [.int c,.int m]]) R:=λc g=>aM (q _ ⟨_,rfl⟩ ⟨c,m,by simp,g,e,f⟩);simp[iB,mN];refine⟨NC (by omega) (by omega) (by omega) (by omega),?_⟩;split
 ·exact⟨by rw[sizeLine_eq];omega,b 0 (by omega)⟩
 ·exact⟨by rw[sizeLine_eq];omega,b c d⟩
theorem HV{a c:Int}(r:ns.length<=63)(b:0<=a)(f:a<=100)(q:∀mh',(∃o,mh' =mh++[o])->BC mh' mh.length->R (.ref mh.length) mh')(j:0<=c):
  iC (En mh R) [some (.fl (ns.map .int)),some (.int a),some (.int c),none,none] mh:=by
 have l:7919*a*a<=79190000:=by
  have:a*a<=100*100:=Int.mul_le_mul f f b (by omega);have e:7919*a*a=7919*(a*a):=Int.mul_assoc _ _ _;omega
 have n:0<=7919*a*a:=Int.mul_nonneg (by omega) b;simp[iC,mO];refine⟨OV (by omega) (by omega),rJ (by omega) (by omega),OV (by omega) (by omega),?_,?_,?_⟩
 ·split <;> omega
 ·split <;> (rw[sizeLine_eq];omega)
 ·refine bZ (λi g mh' =>mh' =mh/\∃m k,g=[some (.fl (ns.map .int)),some (.int a),some (.int c),some (.int m),k]/\0<=m/\m<2147483629) _ (λ_ _ _ _=>trivial) ?_ ?_ ⟨rfl,_,_,rfl,by omega,by omega⟩
  ·rintro i d g mh' N hi ⟨rfl,m,k,rfl,m0,m1⟩ nx;obtain⟨hi,rfl⟩:=eY hi
   have p:i<ns.length:=by
    revert hi;split <;> intro hi <;> omega
   have h:i<60:=by
    revert hi;split <;> intro hi <;> omega
   obtain⟨v,hv⟩:=zA (ns:=ns) (i:=0+(i:Int)) (by omega) (by omega);have s:0<=v % 2147483647:=aD1 _ (by omega);have t:v % 2147483647<2147483647:=aCm _ (by omega);have u:0<=(0+(i:Int))*(0+(i:Int)):=Int.mul_nonneg (by omega) (by omega);have w:(0+(i:Int))*(0+(i:Int))<=60*60:=Int.mul_le_mul (by omega) (by omega) (by omega) (by omega);simp only[ZZ,lA,VE,ZN,s_c,U7,List.set_cons_succ,List.set_cons_zero,List.getElem?_cons_succ,List.getElem?_cons_zero,Option.join_some,bK,FN,uH,VC,hv];refine⟨rJ (by omega) (by omega),by omega,rJ (by omega) (by omega),NC (by omega) (by omega) (by omega) (by omega),by omega,nx _ _ ⟨rfl,_,_,rfl,aD1 _ (by omega),aCm _ (by omega)⟩⟩
  ·rintro g mh' ⟨rfl,m,k,rfl,m0,m1⟩;exact TB q j m0 m1
theorem XB(ds:List D)(mh:MH)(R:DK)(ok:j4 mh)(hs:xJ ds mh R):iD (En mh R) (aK ["_law_script","_law_at","_law_cell","_law_mix","_law_k"] ds) mh:=by
 obtain⟨ns,a,rfl,d,b,c,q⟩:=hs;simp[iD,mP,aK];split
 ·rename_i hlt;obtain⟨v,hv⟩:=zA (ns:=ns) (i:=a) b hlt;simp[hv];exact HV d b c q (by split <;> omega)
 ·exact HV d b c q (by omega)
abbrev Nm:=Str×Int
structure Sw where
 s:Str
 g:Int
 a:Int
 b:Int
 w:Int
 l:Int
structure Li where
 m:Int
 ns:List Nm
 ss:List Sw
def nD(p:Nm):D:= .tup [.str p.1,.int p.2]
def sD(q:Sw):D:= .tup [.str q.s,.int q.g,.int q.a,.int q.b,.int q.w,.int q.l]
def lD(L:Li):D:= .tup [.int L.m,.tup (L.ns.map nD),.tup (L.ss.map sD)]
structure Wf(L:Li):Prop where
 n:L.ns.length<=100
 s:L.ss.length<=50
 o:∀x∈L.ss,x.a<=x.b
variable{x y:Sw}
theorem PR(h:sD x=sD y):x=y:=by
 cases x;cases y;simp[sD]at h;simp[h]
def cnt(x:Sw)(c:Int):Nat:=(if x.a=c then 1 else 0)+(if x.b=c then 1 else 0)
def iR(c:Int):Nat->List Sw->List Nat
 | _,[]=>[]
 | k,x::r=>List.replicate (cnt x c) k++iR c (k+1) r
theorem B6{c:Int}:∀{ss:List Sw} {k:Nat},iR c k ss=[]↔∀(n:Nat) (x:Sw),ss[n]? =some x->cnt x c=0
 | [],k=>by simp[iR]
 | x::r,k=>by
  simp only[iR,List.append_eq_nil_iff,List.replicate_eq_nil_iff,B6 (ss:=r) (k:=k+1)];constructor
  ·rintro⟨h0,h⟩ n y a
   cases n with
   | zero=>simp at a;subst a;exact h0
   | succ n=>exact h n y (by simpa using a)
  ·intro h;exact⟨h 0 x rfl,λn y a=>h (n+1) y (by simpa using a)⟩
theorem B5{c:Int}:∀{ss:List Sw} {k j:Nat},iR c k ss=[j]↔∃n x,j=k+n/\ss[n]? =some x/\cnt x c=1/\∀(m:Nat) (y:Sw),ss[m]? =some y->m≠n->cnt y c=0
 | [],k,j=>by simp[iR]
 | x::r,k,j=>by
  have g:=λj=>B5 (c:=c) (ss:=r) (k:=k+1) (j:=j);have i:=B6 (c:=c) (ss:=r) (k:=k+1);simp only[iR];constructor
  ·intro h;rcases(show cnt x c=0\/cnt x c=1\/cnt x c=2 by unfold cnt;split <;> split <;> simp) with e | e | e
   ·rw[e]at h;obtain⟨n,y,l,a,d,b⟩:=(g j).mp (by simpa using h);refine⟨n+1,y,by lia,by simpa using a,d,λm z hz f=>?_⟩
    cases m with
    | zero=>simp at hz;subst hz;exact e
    | succ m=>exact b m z (by simpa using hz) (by lia)
   ·rw[e]at h;simp at h;obtain⟨rfl,h⟩:=h;refine⟨0,x,by simp,rfl,e,λm z hz f=>?_⟩
    cases m with
    | zero=>exact absurd rfl f
    | succ m=>exact i.mp h m z (by simpa using hz)
   ·rw[e]at h;simp[List.replicate_succ]at h
  ·rintro⟨n,y,l,a,d,b⟩
   cases n with
   | zero=>
    simp at a;subst a;rw[d,i.mpr λm z hz=>b (m+1) z (by simpa using hz) (by simp)];simp[l]
   | succ n=>
    have e:cnt x c=0:=b 0 x rfl (by simp);rw[e];simp only[List.replicate_zero,List.nil_append];exact(g j).mpr ⟨n,y,by lia,by simpa using a,d,λm z hz f=>b (m+1) z (by simpa using hz) (by lia)⟩
theorem uO{c:Int}:∀{ss:List Sw} {k i j:Nat},i<j->(iR c k ss=[i,j]↔∃n x m y,i=k+n/\j=k+m/\ss[n]? =some x/\cnt x c=1/\ss[m]? =some y/\cnt y c=1/\∀(p:Nat) (z:Sw),ss[p]? =some z->p≠n->p≠m->cnt z c=0)
 | [],k,i,j,_=>by simp[iR]
 | x::r,k,i,j,hij=>by
  have v:=uO (c:=c) (ss:=r) (k:=k+1) hij;have i1:=λj=>B5 (c:=c) (ss:=r) (k:=k+1) (j:=j);simp only[iR];constructor
  ·intro h;rcases(show cnt x c=0\/cnt x c=1\/cnt x c=2 by unfold cnt;split <;> split <;> simp) with e | e | e
   ·rw[e]at h;obtain⟨n,y,m,z,t,u,f,g,o,s,l⟩:=v.mp (by simpa using h);refine⟨n+1,y,m+1,z,by lia,by lia,by simpa using f,g,by simpa using o,s,λp q d a b=>?_⟩
    cases p with
    | zero=>simp at d;subst d;exact e
    | succ p=>exact l p q (by simpa using d) (by lia) (by lia)
   ·rw[e]at h;simp at h;obtain⟨rfl,h⟩:=h;obtain⟨n,y,t,u,f,g⟩:=(i1 j).mp h;refine⟨0,x,n+1,y,by simp,by lia,rfl,e,by simpa using u,f,λp q d a b=>?_⟩
    cases p with
    | zero=>exact absurd rfl a
    | succ p=>exact g p q (by simpa using d) (by lia)
   ·rw[e]at h;simp[List.replicate_succ]at h
    lia
  ·rintro⟨n,y,m,z,t,u,f,g,o,s,l⟩
   cases n with
   | zero=>
    simp at f;subst f
    cases m with
    | zero=>lia
    | succ m=>
     rw[g,(i1 j).mpr ⟨m,z,by lia,by simpa using o,s,λp q d a=>l (p+1) q (by simpa using d) (by simp) (by lia)⟩];simp[t]
   | succ n=>
    cases m with
    | zero=>lia
    | succ m=>
     have e:cnt x c=0:=l 0 x rfl (by simp) (by simp);rw[e];simp only[List.replicate_zero,List.nil_append];exact v.mpr ⟨n,y,m,z,by lia,by lia,by simpa using f,g,by simpa using o,s,λp q d a b=>l (p+1) q (by simpa using d) (by lia) (by lia)⟩
def b7(x y:Sw):Prop:=x.s=y.s/\x.g=y.g/\x.a=y.a/\x.b=y.b/\x.l=y.l
def NW(L:Li)(c:Int):Prop:=(∃p∈L.ns,p.2=c)\/∃x∈L.ss,x.g=c
def o4(L:Li)(i j:Nat):Prop:=∃x y c,L.ss[i]? =some x/\L.ss[j]? =some y/\x.s=y.s/\x.g=y.g/\x.w=y.w/\¬(x.a=y.a/\x.b=y.b)/\iR c 0 L.ss=[i,j]/\¬NW L c
def YT(L:Li)(i j:Nat):Prop:=∃x y,L.ss[i]? =some x/\L.ss[j]? =some y/\b7 x y
def t8(L:Li)(i j:Nat):Prop:=YT L i j\/o4 L i j
def l9(x y:Sw):List Int:=[x.a,x.b].filter λn=>decide (n=y.a) || decide (n=y.b)
variable{c:Int}
theorem fH:l9 x y=[c]↔(c=x.a/\(x.a=y.a\/x.a=y.b)/\¬(x.b=y.a\/x.b=y.b))\/(c=x.b/\(x.b=y.a\/x.b=y.b)/\¬(x.a=y.a\/x.a=y.b)):=by
 unfold l9;have e:∀n:Int,(decide (n=y.a) || decide (n=y.b))=decide (n=y.a\/n=y.b):=λn=>by simp
 rw[List.filter_cons,List.filter_cons,List.filter_nil,e,e];by_cases d:x.a=y.a\/x.a=y.b <;> by_cases f:x.b=y.a\/x.b=y.b <;> simp only[d,f,decide_true,decide_false,if_true,if_false,Bool.false_eq_true] <;> simp <;> grind
theorem ND:cnt x c=1↔(x.a=c/\x.b≠c)\/(x.b=c/\x.a≠c):=by
 unfold cnt;split <;> split <;> simp_all
theorem XJ:cnt x c=0↔x.a≠c/\x.b≠c:=by
 unfold cnt;split <;> split <;> simp_all
variable{L:Li}{i j:Nat}
theorem kB(w:Wf L)(d:i<j)(e:L.ss[i]? =some x)(f:L.ss[j]? =some y)(es:x.s=y.s)(G:x.g=y.g):
  o4 L i j↔x.w=y.w/\x.a≠x.b/\y.a≠y.b/\∃c,l9 x y=[c]/\¬NW L c/\∀(k:Nat) (z:Sw),L.ss[k]? =some z->k≠i->k≠j->c≠z.a/\c≠z.b:=by
 have R:=w.o x (aB8 e);have S:=w.o y (aB8 f);constructor
 ·rintro⟨H,I,c,A,B,_,_,r,l,q,t⟩;rw[e]at A;cases A;rw[f]at B;cases B;obtain⟨n,H,m,I,C,D,E,u,F,v,J⟩:=(uO d).mp q;have C:n=i:=by lia
  have D:m=j:=by lia
  subst C;subst D;rw[e]at E;cases E;rw[f]at F;cases F;have u:=ND.mp u;have v:=ND.mp v;refine⟨r,by grind,by grind,c,fH.mpr ?_,t,λk z hz K M=>?_⟩
  ·rcases u with ⟨h,N⟩ | ⟨h,N⟩ <;> rcases v with ⟨O,P⟩ | ⟨O,P⟩
   ·left;refine⟨h.symm,.inl (by lia),λz=>l ?_⟩;constructor <;> lia
   ·left;refine⟨h.symm,.inr (by lia),λz=>l ?_⟩;constructor <;> lia
   ·right;refine⟨h.symm,.inl (by lia),λz=>l ?_⟩;constructor <;> lia
   ·right;refine⟨h.symm,.inr (by lia),λz=>l ?_⟩;constructor <;> lia
  ·have:=XJ.mp (J k z hz K M);exact⟨λz=>this.1 z.symm,λz=>this.2 z.symm⟩
 ·rintro⟨r,T,U,c,q,t,Q⟩;have q:=fH.mp q;refine⟨x,y,c,e,f,es,G,r,by grind,(uO d).mpr ⟨i,x,j,y,by lia,by lia,e,ND.mpr (by grind),f,ND.mpr (by grind),λp z hz a b=>XJ.mpr ?_⟩,t⟩;have:=Q p z hz a b;exact⟨λz=>this.1 z.symm,λz=>this.2 z.symm⟩
def dO(x:Sw)(c:Int):Int:=if x.a=c then x.b else x.a
def UK(x y:Sw):Int:=if x.a=y.a\/x.a=y.b then x.a else x.b
def made(x y:Sw):Sw:=if x.a=y.a/\x.b=y.b then ⟨x.s,x.g,x.a,x.b,x.w+y.w,x.l⟩ else ⟨x.s,x.g,min (dO x (UK x y)) (dO y (UK x y)),max (dO x (UK x y)) (dO y (UK x y)),x.w,x.l+y.l⟩
def Mk(x y:Sw):Prop:=(x.a=y.a/\x.b=y.b)\/(x.a≠x.b/\y.a≠y.b/\¬(x.a=y.a/\x.b=y.b)/\∃c,l9 x y=[c])
theorem IP(h:l9 x y=[c]):UK x y=c:=by
 have:=fH.mp h;unfold UK;split <;> grind
theorem LM(h:x.a<=x.b):(made x y).a<=(made x y).b:=by
 unfold made;split
 ·exact h
 ·simp;lia
theorem zM(w:Wf L)(m:i<j)(n:L.ss[i]? =some x)(o:L.ss[j]? =some y)(h:t8 L i j):Mk x y/\x.s=y.s/\x.g=y.g:=by
 rcases h with ⟨p,q,e,f,k,l,r,t,_⟩ | h
 ·rw[n]at e;cases e;rw[o]at f;cases f;exact⟨.inl ⟨r,t⟩,k,l⟩
 ·obtain⟨p,q,c,e,f,k,l,_,u,_⟩:=id h;rw[n]at e;cases e;rw[o]at f;cases f;obtain⟨_,a,b,c,d,_⟩:=(kB w m n o k l).mp h;exact⟨.inr ⟨a,b,u,c,d⟩,k,l⟩
def zG(L:Li)(i j:Nat):Prop:=i<j/\t8 L i j/\(∀a j',a<i->a<j' ->¬t8 L a j')/\∀j',i<j' ->j'<j->¬t8 L i j'
def gH(L:Li):Prop:=∀i j,i<j->¬t8 L i j
theorem F0{i j a j' :Nat}(h:zG L i j)(h' :zG L a j'):i=a /\j=j' :=by
 obtain⟨b,c,g,k⟩:=h;obtain⟨d,f,l,m⟩:=h'
 have e:i=a :=by
  rcases aCi i a with z | z | z
  ·exact absurd c (l i j z b)
  ·exact z
  ·exact absurd f (g a j' z d)
 subst e;refine⟨rfl,?_⟩;rcases aCi j j' with z | z | z
 ·exact absurd c (m j b z)
 ·exact z
 ·exact absurd f (k j' d z)
def restOf(ss:List Sw)(i j:Nat):List Sw:=(ss.eraseIdx j).eraseIdx i
def Step(L M:Li):Prop:=∃i j x y,zG L i j/\L.ss[i]? =some x/\L.ss[j]? =some y/\M.m=L.m/\M.ns=L.ns/\M.ss.Perm (restOf L.ss i j++[made x y])/\(M.ss.map sD).Pairwise (λd e=>lx (enc e) (enc d)=false)
theorem qA(h:t8 L i j):i<L.ss.length/\j<L.ss.length:=by
 rcases h with ⟨x,y,a,b,_⟩ | ⟨x,y,c,a,b,_⟩
 ·exact⟨(aB2.mp a).1,(aB2.mp b).1⟩
 ·exact⟨(aB2.mp a).1,(aB2.mp b).1⟩
variable{ss:List Sw}
theorem qI(a:i<j)(b:j<ss.length):(restOf ss i j).length+2=ss.length:=by
 unfold restOf;have c:=List.length_eraseIdx_of_lt b;have d:=List.length_eraseIdx_of_lt (l:=ss.eraseIdx j) (i:=i) (by lia)
 lia
theorem BU{L M:Li}(w:Wf L)(h:Step L M):Wf M/\M.ss.length+1=L.ss.length:=by
 obtain⟨i,j,x,y,a,b,e,f,c,pm,g⟩:=h;have d:=qA a.2.1;have k:=qI a.1 d.2;have ln:=pm.length_eq;simp at ln;refine⟨⟨by rw[c];exact w.n,by have:=w.s;lia,λz hz=>?_⟩,by lia⟩;rcases aBn.mp (pm.mem_iff.mp hz) with h | h
 ·exact w.o z (aDf (aDf h))
 ·simp at h;subst h;exact LM (w.o x (aB8 b))
theorem uI(ss:List Sw):EW (ss.map sD):= .inr ⟨.s,[.i,.i,.i,.i,.i],λd hd=>by obtain⟨x,_,rfl⟩:=aBd.mp hd;exact⟨_,rfl,rfl⟩⟩
theorem AE:∀{a b:List Sw},a.map sD=b.map sD->a=b:=λh=>(aE4 λ_ _ e=>PR e).mp h
theorem FG{L M c :Li}(h:Step L M)(h' :Step L c):M=c :=by
 obtain⟨i,j,x,y,k,l,m,q,r,pm,n⟩:=h;obtain⟨s,j',t,u,e,a,b,o,p,f,g⟩:=h';obtain⟨rfl,rfl⟩:=F0 k e;rw[l]at a;cases a;rw[m]at b;cases b;have:M.ss=c.ss:=AE (sT (uI M.ss) (λd hd=>hd) ((pm.trans f.symm).map sD) n g);cases M;cases c;simp_all
inductive Fin:Li->Li->Prop
 | stop {L:Li}:gH L->Fin L L
 | step {L M N:Li}:Step L M->Fin M N->Fin L N
theorem CB{L M:Li}(h:gH L)(s:Step L M):False:=by
 obtain⟨i,j,_,_,a,_⟩:=s;exact h i j a.1 a.2.1
theorem MW{L A:Li}(h:Fin L A):∀{B:Li},Fin L B->A=B:=by
 induction h with
 | stop n=>
  intro B h'
  cases h' with
  | stop _=>rfl
  | step s _=>exact(CB n s).elim
 | step s _ ih=>
  intro B h'
  cases h' with
  | stop n=>exact(CB n s).elim
  | step s' f=>cases FG s s';exact ih f
def vB(x:Sw):List Key:=[.inr x.s,.inl x.g,.inl x.a,.inl x.b,.inl x.l]
def qU(x:Sw):D:= .tup [.str x.s,.int x.g,.int x.a,.int x.b,.int x.l]
theorem pO:qU x=qU y↔b7 x y:=by simp[qU,b7]
def NA(ss:List Sw)(k i j:Nat):Prop:=i<j/\j<k/\∃x y,ss[i]? =some x/\ss[j]? =some y/\b7 x y/\∀(m:Nat) (z:Sw),i<m->m<j->ss[m]? =some z->¬b7 x z
def La(ss:List Sw)(k:Nat)(x:Sw)(i:Nat):Prop:=i<k/\∃y,ss[i]? =some y/\b7 x y/\∀(m:Nat) (z:Sw),i<m->m<k->ss[m]? =some z->¬b7 x z
theorem tZ(h:b7 x y):b7 y x:=⟨h.1.symm,h.2.1.symm,h.2.2.1.symm,h.2.2.2.1.symm,h.2.2.2.2.symm⟩
theorem j1{x y z:Sw}(h:b7 x y)(g:b7 y z):b7 x z:=⟨h.1.trans g.1,h.2.1.trans g.2.1,h.2.2.1.trans g.2.2.1,h.2.2.2.1.trans g.2.2.2.1,h.2.2.2.2.trans g.2.2.2.2⟩
theorem nA{k i j:Nat}(hk:ss[k]? =some x):NA ss (k+1) i j↔NA ss k i j\/(j=k/\La ss k x i):=by
 constructor
 ·rintro⟨b,g,y,z,c,hz,a,n⟩;by_cases e:j=k
  ·subst e;rw[hk]at hz;cases hz;exact .inr ⟨rfl,b,y,c,tZ a,λm z d f e q=>n m z d f e (j1 a q)⟩
  ·exact .inl ⟨b,by lia,y,z,c,hz,a,n⟩
 ·rintro(⟨b,g,h⟩ | ⟨rfl,b,y,c,a,n⟩)
  ·exact⟨b,by lia,h⟩
  ·exact⟨b,by lia,y,x,c,hk,tZ a,λm z d f e q=>n m z d f e (j1 a q)⟩
theorem u5{k i:Nat}(hk:ss[k]? =some x):La ss (k+1) y i↔(b7 y x/\i=k)\/(¬b7 y x/\La ss k y i):=by
 constructor
 ·rintro⟨f,z,hz,a,n⟩;by_cases e:i=k
  ·subst e;rw[hk]at hz;cases hz;exact .inl ⟨a,rfl⟩
  ·refine .inr ⟨λq=>n k x (by lia) (by lia) hk q,by lia,z,hz,a,λm u b d=>n m u b (by lia)⟩
 ·rintro(⟨a,rfl⟩ | ⟨g,f,z,hz,a,n⟩)
  ·exact⟨by lia,x,hk,a,λm u b d=>by lia⟩
  ·refine⟨by lia,z,hz,a,λm u b d c=>?_⟩;by_cases e:m=k
   ·subst e;rw[hk]at c;cases c;exact g
   ·exact n m u b (by lia) c
def uA(ss:List Sw)(k:Nat)(kvs:List (D×D)):Prop:=kvs.length<=k/\(∀(i:Nat) d,aU kvs (.int i)=some d->∃j:Nat,d= .int j/\NA ss k i j)/\∀i j,NA ss k i j->aU kvs (.int i)=some (.int j)
def JD(ss:List Sw)(k:Nat)(kvs:List (D×D)):Prop:=kvs.length<=k/\(∀x d,aU kvs (qU x)=some d->∃j:Nat,d= .int j/\La ss k x j)/\∀x j,La ss k x j->aU kvs (qU x)=some (.int j)
def JM:OA:=λds mh Q=>∃ss:List Sw,ds=[.tup (ss.map sD)]/\ss.length<=50/\∀mh' n kvs,bB mh mh' ->mh.length<=n->mh'[n]? =some (.dic false kvs)->uA ss ss.length kvs->Q (.ref n) mh'
theorem HP(h:i≠j):D.int (i:Nat)≠D.int (j:Nat):=λz=>h (by have:=D.int.inj z;lia)
theorem RD{k i j j' :Nat}(h:NA ss k i j)(h' :NA ss k i j'):j=j' :=by
 obtain⟨e,p,x,y,f,g,a,n⟩:=h;obtain⟨l,q,r,m,c,d,b,o⟩:=h';rw[f]at c;cases c;rcases aCi j j' with z | z | z
 ·exact absurd a (o j y e z g)
 ·exact z
 ·exact absurd b (n j' m l z d)
theorem SG{k i c :Nat}(h:La ss k x i)(h' :La ss k x c):i=c :=by
 obtain⟨e,y,f,a,n⟩:=h;obtain⟨g,j,d,b,l⟩:=h';rcases aCi i c with z | z | z
 ·exact absurd b (n c j z g d)
 ·exact z
 ·exact absurd a (l i y z e f)
variable{kvs:List (D×D)}
theorem CI{k:Nat}(h:JD ss k kvs)(hk:ss[k]? =some x):JD ss (k+1) (putD kvs (qU x) (.int k)):=by
 obtain⟨f,b,c⟩:=h;refine⟨by have:=eC kvs (qU x) (.int k);lia,λy d e=>?_,λy j q=>?_⟩
 ·by_cases a:b7 y x
  ·rw[pO.mpr a,dZ]at e;cases e;exact⟨k,rfl,(u5 hk).mpr (.inl ⟨a,rfl⟩)⟩
  ·rw[bL _ _ λz=>a (pO.mp z)]at e;obtain⟨j,rfl,q⟩:=b y d e;exact⟨j,rfl,(u5 hk).mpr (.inr ⟨a,q⟩)⟩
 ·rcases(u5 hk).mp q with ⟨a,rfl⟩ | ⟨a,q⟩
  ·rw[pO.mpr a,dZ]
  ·rw[bL _ _ λz=>a (pO.mp z)];exact c y j q
theorem MU{k i:Nat}(h:uA ss k kvs)(hk:ss[k]? =some x)(hi:La ss k x i):uA ss (k+1) (putD kvs (.int i) (.int k)):=by
 obtain⟨s,f,g⟩:=h;refine⟨by have:=eC kvs (.int i) (.int k);lia,λp d e=>?_,λp j q=>?_⟩
 ·by_cases a:p=i
  ·subst a;rw[dZ]at e;cases e;exact⟨k,rfl,(nA hk).mpr (.inr ⟨rfl,hi⟩)⟩
  ·rw[bL _ _ (HP a)]at e;obtain⟨j,rfl,q⟩:=f p d e;exact⟨j,rfl,(nA hk).mpr (.inl q)⟩
 ·rcases(nA hk).mp q with q | ⟨rfl,q⟩
  ·have:p≠i:=λz=>by
    subst z;obtain⟨l,o,y,z,r,hz,a,n⟩:=q;obtain⟨t,u,c,b,m⟩:=hi;rw[r]at c;cases c;exact m j z l o hz (j1 b a)
   rw[bL _ _ (HP this)];exact g p j q
  ·cases SG q hi;rw[dZ]
theorem ID{k:Nat}(h:uA ss k kvs)(hk:ss[k]? =some x)(hi:∀i,¬La ss k x i):uA ss (k+1) kvs:=by
 obtain⟨c,a,b⟩:=h;refine⟨by lia,λp d e=>?_,λp j q=>?_⟩
 ·obtain⟨j,rfl,q⟩:=a p d e;exact⟨j,rfl,(nA hk).mpr (.inl q)⟩
 ·rcases(nA hk).mp q with q | ⟨rfl,q⟩
  ·exact b p j q
  ·exact absurd q (hi p)
theorem vG(ds:List D)(mh:MH)(R:DK)(ok:j4 mh)(hs:JM ds mh R):eT (En mh R) (aK ["switches","following","last","number","sort","gate","one","other","width","length","key"] ds) mh:=by
 obtain⟨ss,rfl,I,q⟩:=hs;have sz:=aBk;simp[eT,aK,mR,i8,i7,aT];refine⟨by lia,?_⟩;have f0:(mh++[MO.dic false [],MO.dic true []])[mh.length]? =some (.dic false []):=by simp
 have B:(mh++[MO.dic false [],MO.dic true []])[mh.length+1]? =some (.dic true []):=by simp
 have C:bB mh (mh++[MO.dic false [],MO.dic true []]):=⟨_,rfl⟩
 generalize mh++[MO.dic false [],MO.dic true []]=E at f0 B C⊢;refine bZ (λi u M=>(∃v w y a6 a7 a8 A f,u=[some (.tup (ss.map sD)),some (.ref mh.length),some (.ref (mh.length+1)),v,w,y,a6,a7,a8,A,f])/\bB mh M/\∃n k,M[mh.length]? =some (.dic false n)/\M[mh.length+1]? =some (.dic true k)/\uA ss i n/\JD ss i k) _ (λ_ _ _ _=>trivial) ?_ ?_ ⟨⟨_,_,_,_,_,_,_,_,rfl⟩,C,[],[],f0,B,⟨by simp,λi d e=>by simp[aU]at e,λi j h=>absurd h.2.1 (by simp)⟩,⟨by simp,λi d e=>by simp[aU]at e,λi j h=>absurd h.1 (by simp)⟩⟩
 ·rintro i d u M N hi ⟨⟨v,w,y,a6,a7,a8,A,f,rfl⟩,t,n,k,o,c,m,lo⟩ nx;obtain⟨d,hd,rfl⟩:=gZ hi;rw[List.getElem?_map]at hd;obtain⟨x,r,rfl⟩:=aBm.mp hd;have F:i<ss.length:=(aB2.mp r).1;have G:D.tup [.str x.s,.int x.g,.int x.a,.int x.b,.int x.l]=qU x:=rfl;have fl:=m.1;have J:=lo.1;simp[iO,sD,fM];refine⟨by lia,mh.length+1,true,k,rfl,.inl c,⟨vB x,rfl⟩,?_⟩;rw[G]
  cases e:aU k (qU x) with
  | none=>
   simp;have H:∀p,¬La ss i x p:=λp z=>by rw[lo.2.2 x p z]at e;cases e
   simp[wR];refine⟨_,_,vB x,rfl,c,by simp[vB,qU,aV],by simp[vB],by lia,?_⟩;exact nx _ _ ⟨⟨_,_,_,_,_,_,_,_,rfl⟩,t.set (by lia) _,n,_,get_set o (by lia),cI _ c,ID m r H,CI lo r⟩
  | some d=>
   obtain⟨p,rfl,lp⟩:=lo.2.1 x d e;simp[pZ];refine⟨_,_,vB x,_,rfl,c,rfl,by simp[vB],e,?_⟩;refine⟨_,_,.inl p,rfl,o,rfl,by lia,?_⟩;simp[wR];refine⟨_,_,vB x,rfl,get_set c (by lia),by simp[vB,qU,aV],by simp[vB],by lia,?_⟩;exact nx _ _ ⟨⟨_,_,_,_,_,_,_,_,rfl⟩,(t.set (aB3 _) _).set (by lia) _,_,_,get_set (cI _ o) (by lia),cI _ (get_set c (by lia)),MU m r lp,CI lo r⟩
 ·rintro u M ⟨⟨v,w,y,a6,a7,a8,A,f,rfl⟩,t,n,k,o,c,m,lo⟩;simp[i6];rw[cO,List.length_map]at m;exact aM (q _ _ _ t (aB3 _) o m)
theorem IK{g:WG}{t:WT}{n o:WE}{ρe:dX}{St:MH->Prop}{Q:DK}(h:Nat->List (D×D)->MH->Prop)(ds:List D)(j:∀i a mh,h i a mh->St mh)
  (hs:∀i d a mh (N:List (D×D)->MH->Prop),ds[i]? =some d->h i a mh->(∀c mh',h (i+1) c mh' ->N c mh')->g d ρe λf=>t f mh λb l=>if b=true then n f l λk q=>o f q λy r=>(∃key,k=aV key)/\N (putD a k y) r else N a l)
  (hd:∀a mh,h ds.length a mh->Q (.ref mh.length) (mh++[.dic false a])) {a:List (D×D)}  (h0:h 0 a mh):jZ g t n o ρe St Q ds a mh:=by
 have go:∀(k i:Nat),i+k=ds.length->∀a mh,h i a mh->jZ g t n o ρe St Q (ds.drop i) a mh:=by
  intro k
  induction k with
  | zero=>
   intro i hi a mh p;have e:i=ds.length:=by lia
   subst e;rw[List.drop_of_length_le (Nat.le_refl _)];exact⟨j _ _ _ p,hd a mh p⟩
  | succ k ih=>
   intro i hi a mh p;have m:i<ds.length:=by lia
   rw[List.drop_eq_getElem_cons m];exact⟨j _ _ _ p,hs i ds[i] a mh (λc mh' =>jZ g t n o ρe St Q (ds.drop (i+1)) c mh') (by simp[m]) p λc mh' s =>ih (i+1) (by lia) c mh' s⟩
 have:=go ds.length 0 (by lia) a mh h0;simpa using this
theorem IC{n:Nat}{u:ER}{b:WS}{E:hV}{St:MH->Prop}(f:Nat->dX->MH->Prop)(ds:List D)(g:∀i a mh,f i a mh->St mh)
  (hs:∀i d a mh (N:dX->MH->Prop),ds[i]? =some d->f i a mh->(∀c mh',f (i+1) c mh' ->N c mh')->∃es,iI mh d=some es/\es.length=n/\u es a λj=>b {E with nx:=N,ct:=N,bk:=E.nx} j mh)
  (hd:∀a mh,f ds.length a mh->E.nx a mh) {a:dX}  (h0:f 0 a mh):lH n u b E St ds a mh:=by
 have go:∀(k i:Nat),i+k=ds.length->∀a mh,f i a mh->lH n u b E St (ds.drop i) a mh:=by
  intro k
  induction k with
  | zero=>
   intro i hi a mh p;have e:i=ds.length:=by lia
   subst e;rw[List.drop_of_length_le (Nat.le_refl _)];exact⟨g _ _ _ p,hd a mh p⟩
  | succ k ih=>
   intro i hi a mh p;have h:i<ds.length:=by lia
   rw[List.drop_eq_getElem_cons h];exact⟨g _ _ _ p,hs i ds[i] a mh (lH n u b E St (ds.drop (i+1))) (by simp[h]) p λc mh' l =>ih (i+1) (by lia) c mh' l⟩
 have:=go ds.length 0 (by lia) a mh h0;simpa using this
def nums(l:List Nat):List D:=l.map λk=>.int (k:Nat)
structure Ends(b:Nat)(M:MH)(kvs:List (D×D))(f:Int->List Nat):Prop where
 some:∀c d,aU kvs (.int c)=some d->∃r,d= .ref r/\b<=r/\M[r]? =some (.lst (nums (f c)))/\f c≠[]
 none:∀c,aU kvs (.int c)=none->f c=[]
 ne:∀c c' r,aU kvs (.int c)= .some (.ref r)->aU kvs (.int c')= .some (.ref r)->c=c'
 key:∀p∈kvs,∃c,p.1= .int c
 nd:(kvs.map (·.1)).Nodup
theorem GQ{k v:D}(h:(kvs.map (·.1)).Nodup):((putD kvs k v).map (·.1)).Nodup:=by
 rw[DD];split
 ·exact h
 ·rename_i n;rw[List.nodup_append];refine⟨h,by simp,λa d c b=>?_⟩;simp at b;subst b;rintro rfl;obtain⟨p,f,e⟩:=aBd.mp d;exact n ⟨p,f,e⟩
def uD(f:Int->List Nat)(c:Int)(k:Nat):Int->List Nat:=λx=>if x=c then f x++[k] else f x
variable{f:Int->List Nat}
theorem BY{b n:Nat}{M:MH}{QN:MH->Prop}{k:Nat}(E:Ends b M kvs f)(N:M[n]? =some (.dic false kvs))(Q:b<=M.length)(R:n<b)(hl:kvs.length<=1000)(S:∀c,(f c).length<=1000)
  (q:∀A i,A[n]? =some (.dic false i)->Ends b A i (uD f c k)->i.length<=kvs.length+1->M.length<=A.length->(∀(m:Nat) (o:MO),M[m]? =some o->m<b->m≠n->A[m]? =some o)->(∀j,bB j M->j.length<=n->bB j A)->QN A):
  (∃kvs,M[n]? =some (MO.dic false kvs))/\∃kvs,(M++[MO.lst []])[n]? =some (MO.dic false kvs)/\(∃x,D.int c=aV x)/\kvs.length<sizeLine/\
   (∀v,aU kvs (D.int c)=some v->AL (M++[MO.lst []]) "list" v/\d2 v [D.int (k:Nat)] (M++[MO.lst []]) λ_ t=>QN t)/\
   (aU kvs (D.int c)=none->AL (List.set (M++[MO.lst []]) n (MO.dic false (putD kvs (D.int c) (D.ref (List.length M))))) "list" (D.ref (List.length M))/\
    d2 (D.ref (List.length M)) [D.int (k:Nat)] (List.set (M++[MO.lst []]) n (MO.dic false (putD kvs (D.int c) (D.ref (List.length M))))) λ_ t=>QN t):=by
 have sz:=aBk;have u:=aI (x:=MO.lst []) N;refine⟨⟨_,N⟩,kvs,u,⟨.inl c,rfl⟩,by lia,λv e=>?_,λe=>?_⟩
 ·obtain⟨r,rfl,T,U,V⟩:=E.some c v e;have w:=aI (x:=MO.lst []) U;have W:=S c;refine⟨⟨rfl,_,w⟩,(zT w _).mpr ⟨by simp[nums];lia,q _ kvs (get_set u (by lia)) ?_ (by lia) (by simp) (λm o I X Y=>get_set (aI I) (by lia)) λj p l=>(p.push _).set (by lia) _⟩⟩;refine⟨λc' d' a =>?_,λc' a =>?_,E.ne,E.key,E.nd⟩
  ·obtain⟨F,rfl,y,g,s⟩:=E.some c' d' a;by_cases d:c' =c
   ·subst d;rw[e]at a;cases a;refine⟨r,rfl,T,?_,by simp[uD]⟩;rw[cI _ w];simp[uD,nums]
   ·have Z:r≠F :=λz=>d (E.ne c' c r (by rw[z];exact a) e);exact⟨F,rfl,y,by rw[List.getElem?_set_ne Z];simp only[uD,if_neg d];exact aI g,by simp only[uD,if_neg d];exact s⟩
  ·have d:c' ≠c:=λz=>by rw[z,e]at a;cases a
   simp only[uD,if_neg d];exact E.none c' a
 ·have h0:(List.set (M++[MO.lst []]) n (MO.dic false (putD kvs (D.int c) (D.ref (List.length M)))))[M.length]? =some (.lst []):=by
   rw[List.getElem?_set_ne (by lia)];simp
  have fc:=E.none c e;refine⟨⟨rfl,_,h0⟩,(zT h0 _).mpr ⟨by simp;lia,q _ (putD kvs (.int c) (.ref M.length)) (get_set (cI _ u) (by lia)) ?_ (eC _ _ _) (by simp) (λm o I X Y=>get_set (get_set (aI I) (by lia)) (by lia)) λj p l=>((p.push _).set l _).set (by lia) _⟩⟩;refine⟨λc' d' a =>?_,λc' a =>?_,λO P r B C=>?_,λp hp=>?_,GQ E.nd⟩
  ·by_cases d:c' =c
   ·subst d;rw[dZ]at a;cases a;refine⟨_,rfl,Q,?_,by simp[uD]⟩;rw[cI _ h0];simp[uD,nums,fc]
   ·have J:D.int c' ≠D.int c:=λz=>d (D.int.inj z);rw[bL _ _ J]at a;obtain⟨F,rfl,y,g,s⟩:=E.some c' d' a;have lt:=(aB2.mp g).1;exact⟨F,rfl,y,by rw[List.getElem?_set_ne (by lia),List.getElem?_set_ne (by lia)];simp only[uD,if_neg d];exact aI g,by simp only[uD,if_neg d];exact s⟩
  ·have d:c' ≠c:=λz=>by rw[z,dZ]at a;cases a
   have J:D.int c' ≠D.int c:=λz=>d (D.int.inj z);rw[bL _ _ J]at a;simp only[uD,if_neg d];exact E.none c' a
  ·have lo:∀K L,aU kvs (.int K)= .some (.ref L)->L<M.length:=λK L h=>by
    obtain⟨F,er,_,g,_⟩:=E.some K _ h;cases er;exact(aB2.mp g).1
   by_cases G:O=c <;> by_cases H:P=c
   ·rw[G,H]
   ·subst G;rw[dZ]at B;cases B;rw[bL _ _ λz=>H (D.int.inj z)]at C;exact absurd (lo _ _ C) (aCj _)
   ·subst H;rw[dZ]at C;cases C;rw[bL _ _ λz=>G (D.int.inj z)]at B;exact absurd (lo _ _ B) (aCj _)
   ·rw[bL _ _ λz=>G (D.int.inj z)]at B;rw[bL _ _ λz=>H (D.int.inj z)]at C;exact E.ne O P r B C
  ·rcases qL hp with h | h
   ·exact E.key p h
   ·exact⟨c,h.1⟩
theorem FJ{b n i1 i2 i3:Nat}{M:MH}{e:dX}{E0:hV}{k:Nat}(E:Ends b M kvs f)(i:M[n]? =some (.dic false kvs))(j:b<=M.length)(h:n<b)(l:kvs.length<=1000)(p:∀c,(f c).length<=1000)
  (r:e[i1]? = .some (.some (.ref n))) (s:e[i2]? = .some (.some (.int c))) (t:e[i3]? = .some (.some (.int (k:Nat))))
  (q:∀g a,g[n]? =some (.dic false a)->Ends b g a (uD f c k)->a.length<=kvs.length+1->M.length<=g.length->(∀(m:Nat) (o:MO),M[m]? =some o->m<b->m≠n->g[m]? =some o)->(∀d,bB d M->d.length<=n->bB d g)->E0.nx e g):p6 (JX "list" d2 (sO (aB i1) (aB i2) (f9 aE)) (aA (aB i3) aE)) E0 e M:=by
 simp[aB,r,s,t];exact BY (QN:=λm=>E0.nx e m) E i j h l p q
variable{b:Nat}
theorem Ends.keep{M a :MH}(E:Ends b M kvs f)(h:∀(m:Nat) (o:MO),b<=m->M[m]? = .some o->a[m]? = .some o):Ends b a kvs f:=
 ⟨λc d e=>by obtain⟨r,i,g,j,k⟩:=E.some c d e;exact⟨r,i,g,h r _ g j,k⟩,E.none,E.ne,E.key,E.nd⟩
theorem pJ:∀{kvs:List (D×D)} {p:D×D},(kvs.map (·.1)).Nodup->p∈kvs->aU kvs p.1= .some p.2
 | [],p,_,h=>by simp at h
 | q::kvs,p,nd,h=>by
  simp only[List.map_cons,List.nodup_cons]at nd;rcases aBa.mp h with rfl | h
  ·simp[aU]
  ·have ne:q.1≠p.1:=λz=>nd.1 (by rw[z];exact aBd.mpr ⟨p,h,rfl⟩);have:=pJ nd.2 h;simp only[aU];rw[if_neg ne];exact this
theorem uW:∀{kvs:List (D×D)} {k d:D},aU kvs k= .some d->(k,d)∈kvs
 | [],k,d,h=>by simp[aU]at h
 | q::kvs,k,d,h=>by
  simp only[aU]at h;split at h
  ·rename_i e;cases h;cases q;simp at e;subst e;simp
  ·exact aB7 _ (uW h)
theorem aAq(a b c d e f:D):hX [a,b,c,d,e,f] 1=some b:=rfl
theorem oY(a b c d e f:D):cutD [a,b,c,d,e,f] (some 2) (some 4)=[c,d]:=rfl
theorem IM(a b c d e f:D):cutD [a,b,c,d,e,f] none (some 2)=[a,b]:=rfl
theorem OU(a b c d e f:D):cutD [a,b,c,d,e,f] none (some 4)=[a,b,c,d]:=rfl
theorem sY{α:Type}{l:List α}(nd:l.Nodup){a:α}(f:l[i]? =some a)(g:l[j]? =some a):i=j:=by
 obtain⟨b,c⟩:=aB2.mp f;obtain⟨d,e⟩:=aB2.mp g;rcases aCi i j with z | z | z
 ·exact absurd (c.trans e.symm) (aCb.mp nd i j b d z)
 ·exact z
 ·exact absurd (e.trans c.symm) (aCb.mp nd j i d b z)
theorem B8{c:Int}(x:Sw):∀(ss:List Sw) (k:Nat),iR c k (ss++[x])=iR c k ss++List.replicate (cnt x c) (k+ss.length)
 | [],k=>by simp[iR]
 | y::r,k=>by
  simp only[List.cons_append,iR,B8 x r (k+1),List.append_assoc,List.length_cons];rw[show k+1+r.length=k+(r.length+1) by lia]
def occs(ss:List Sw)(i:Nat):Int->List Nat:=λc=>iR c 0 (ss.take i)
theorem DO(j:ss[i]? =some x):uD (uD (occs ss i) x.a i) x.b i=occs ss (i+1):=by
 funext c;have k:=(aB2.mp j).1;have e:ss.take (i+1)=ss.take i++[x]:=by rw[List.take_add_one,j];rfl
 have l:(ss.take i).length=i:=by simp;lia
 unfold occs;rw[e,B8,l,Nat.zero_add];unfold uD cnt;by_cases f:c=x.a <;> by_cases d:c=x.b
 ·have:x.a=x.b:=by rw[<-f,d]
  simp[d,this,List.replicate_succ]
 ·have g:¬x.b=c:=λz=>d z.symm;simp[f,List.replicate_succ];rw[if_neg (by rw[<-f];exact d),if_neg (by rw[<-f];exact g)];simp
 ·have h:¬x.a=c:=λz=>f z.symm;simp[d,List.replicate_succ];rw[if_neg (by rw[<-d];exact f),if_neg (by rw[<-d];exact h)];simp
 ·have h:¬x.a=c:=λz=>f z.symm;have g:¬x.b=c:=λz=>d z.symm;simp[f,d,h,g]
theorem B7(c:Int):∀(ss:List Sw) (k:Nat),(iR c k ss).length<=2*ss.length
 | [],k=>by simp[iR]
 | x::r,k=>by
  have:=B7 c r (k+1);have a:cnt x c<=2:=by unfold cnt;split <;> split <;> simp
  simp[iR];lia
def rT(S:Int->Prop)(kvs:List (D×D)):Prop:=∀c,(aU kvs (.int c)).isSome=true↔S c
theorem C2{S:Int->Prop}(h:rT S kvs)(c:Int)(v:D):rT (λx=>S x\/x=c) (putD kvs (.int c) v):=by
 intro x;by_cases e:x=c
 ·subst e;rw[dZ];simp
 ·rw[bL _ _ λz=>e (D.int.inj z)];simp[h x,e]
structure Inn(L:Li)(b:Nat)(M:MH)(n:Nat)(kvs:List (D×D)):Prop where
 here:M[n]? =some (.dic false kvs)
 len:kvs.length<=1000
 all:∀p∈kvs,∃(c:Int) (i j r:Nat),p.2= .ref r/\r≠n/\M[r]? =some (.lst [.int (i:Nat),.int (j:Nat)])/\iR c 0 L.ss=[i,j]/\¬NW L c
 has:∀(c:Int) (i j:Nat),iR c 0 L.ss=[i,j]->¬NW L c->∃p∈kvs,∃r:Nat,p.2= .ref r/\M[r]? =some (.lst [.int (i:Nat),.int (j:Nat)])
def X9:OA:=λds mh Q=>∃L:Li,ds=[.tup (L.ns.map nD),.tup (L.ss.map sD)]/\Wf L/\∀M n kvs,bB mh M->mh.length<=n->Inn L mh.length M n kvs->Q (.ref n) M
theorem MS(ds:List D)(mh:MH)(R:DK)(ok:j4 mh)(hs:X9 ds mh R):eU (En mh R) (aK ["names","switches","ends","barred","number","switch","net"] ds) mh:=by
 obtain⟨L,rfl,w,q⟩:=hs;have sz:=aBk;have wn:=w.n;have ws:=w.s;simp[eU,aK,mR,jB,N4,aT];have e0:(mh++[MO.dic false []])[mh.length]? =some (.dic false []):=by simp
 have p0:bB mh (mh++[MO.dic false []]):=⟨_,rfl⟩
 have Z:(mh++[MO.dic false []]).length=mh.length+1:=by simp
 generalize mh++[MO.dic false []]=mh0 at e0 p0 Z⊢;refine IK (λi b M=>M=mh0/\b.length<=i/\rT (λc=>∃p∈L.ns.take i,p.2=c) b) _ (λ_ _ _ _=>trivial) ?_ ?_ ⟨rfl,by simp,λc=>by simp[aU]⟩
 ·rintro i d b M N hi ⟨rfl,hl,H⟩ nx;rw[List.getElem?_map]at hi;obtain⟨p,u,rfl⟩:=aBm.mp hi;simp[nD,gB];refine⟨⟨.inl p.2,rfl⟩,nx _ _ ⟨rfl,by have:=eC b (.int p.2) (.bl true);lia,λc=>?_⟩⟩;rw[C2 H p.2 (.bl true) c,List.take_add_one,u];simp[eq_comm]
 rintro b M ⟨rfl,hl,H⟩;simp at hl;have H:rT (λc=>∃p∈L.ns,p.2=c) b:=λc=>by rw[H c];simp
 have b1:(M++[MO.dic false b])[M.length]? =some (.dic false b):=by simp
 have e1:=aI (x:=MO.dic false b) e0;have p1:=p0.push (MO.dic false b);have g1:(M++[MO.dic false b]).length=mh.length+2:=by simp[Z]
 rw[Z]at b1⊢;generalize M++[MO.dic false b]=M1 at b1 e1 p1 g1⊢;simp[jA,aT];refine⟨by lia,?_⟩
 refine bZ (λi ρ M=>(∃a4 a5 a6,ρ=[some (.tup (L.ns.map nD)),some (.tup (L.ss.map sD)),some (.ref mh.length),some (.ref (mh.length+1)),a4,a5,a6])/\bB mh M/\mh.length+2<=M.length/\∃f bk,M[mh.length]? =some (.dic false f)/\M[mh.length+1]? =some (.dic false bk)/\f.length<=2*i/\bk.length<=100+i/\Ends (mh.length+2) M f (occs L.ss i)/\rT (λc=>(∃p∈L.ns,p.2=c)\/∃x∈L.ss.take i,x.g=c) bk) _ (λ_ _ _ _=>trivial) ?_ ?_
  ⟨⟨_,_,_,rfl⟩,p1,by lia,[],b,e1,b1,by simp,by lia,⟨λc d h=>by simp[aU]at h,λc _=>by simp[occs,iR],λc c' r h=>by simp[aU]at h,λp u=>by simp at u,by simp⟩,λc=>by rw[H c];simp⟩
 ·rintro i d ρ M N hi ⟨⟨a4,a5,a6,rfl⟩,px,gl,f,bk,he,C,el,bl,E,B⟩ nx;obtain⟨d,hd,rfl⟩:=gZ hi;rw[List.getElem?_map]at hd;obtain⟨x,hx,rfl⟩:=aBm.mp hd;have hil:i<L.ss.length:=(aB2.mp hx).1;simp[iP,sD,pZ];rw[aAq];simp only[bK];refine⟨_,_,.inl x.g,rfl,C,rfl,by lia,?_⟩;have I:(List.set M (mh.length+1) (MO.dic false (putD bk (.int x.g) (.bl true))))[mh.length]? =some (.dic false f):=get_set he (by lia);have J:=cI (MO.dic false (putD bk (.int x.g) (.bl true))) C;have K:=px.set (n:=mh.length+1) (by lia) (MO.dic false (putD bk (.int x.g) (.bl true)));have O:mh.length+2<=(List.set M (mh.length+1) (MO.dic false (putD bk (.int x.g) (.bl true)))).length:=by simpa using gl
  have E2:Ends (mh.length+2) (List.set M (mh.length+1) (MO.dic false (putD bk (.int x.g) (.bl true)))) f (occs L.ss i):=E.keep λm o h1 t=>get_set t (by lia)
  have B2:rT (λc=>(∃p∈L.ns,p.2=c)\/∃x∈L.ss.take (i+1),x.g=c) (putD bk (.int x.g) (.bl true)):=λc=>by
   rw[C2 B x.g (.bl true) c,List.take_add_one,hx];simp[or_assoc,eq_comm]
  have bl2:=eC bk (.int x.g) (.bl true);generalize List.set M (mh.length+1) (MO.dic false (putD bk (.int x.g) (.bl true)))=M2 at I J K O E2⊢;simp[fN];rw[oY];simp only[aT,bK,jQ,gN]
  have o1:∀c,(occs L.ss i c).length<=100:=λc=>by
   have:=B7 c (L.ss.take i) 0;simp only[List.length_take]at this;unfold occs;lia
  refine⟨trivial,FJ (i1:=2) (i2:=6) (i3:=4) E2 I O (by lia) (by lia) (λc=>by have:=o1 c;lia) rfl rfl rfl λM3 k3 h3 v l3 g3 s3 x3=>?_⟩;refine⟨trivial,FJ (i1:=2) (i2:=6) (i3:=4) v h3 (by lia) (by lia) (by lia) (λc=>by have:=o1 c;unfold uD;split <;> simp <;> lia) rfl rfl rfl λM4 k4 h4 E4 l4 g4 s4 x4=>?_⟩;refine⟨trivial,nx _ _ ⟨⟨_,_,_,rfl⟩,x4 _ (x3 _ K (by lia)) (by lia),by lia,k4,_,h4,s4 _ _ (s3 _ _ J (by lia) (by lia)) (by lia) (by lia),by lia,by lia,by rw[<-DO hx];exact E4,B2⟩⟩
 ·rintro ρ M ⟨⟨a4,a5,a6,rfl⟩,px,gl,f,bk,he,C,el,bl,E,B⟩
  have E:Ends (mh.length+2) M f (λc=>iR c 0 L.ss):=by
   have e:occs L.ss (lK 0 (L.ss.map sD)).length=λc=>iR c 0 L.ss:=by
    funext c;unfold occs;rw[cO,List.length_map,List.take_length]
   rw[e]at E;exact E
  have B:rT (λc=>NW L c) bk:=λc=>by
   rw[B c,cO,List.length_map,List.take_length];rfl
  rw[cO,List.length_map]at el;simp[i9,N4,BM];refine .inl ⟨f,.inl ⟨he,λob=>?_⟩⟩;have hf:=cI (MO.fdc false f ob) he;have P:(List.set M mh.length (MO.fdc false f ob))[mh.length+1]? =some (.dic false bk):=get_set C (by lia);have v:Ends (mh.length+2) (List.set M mh.length (MO.fdc false f ob)) f (λc=>iR c 0 L.ss):=E.keep λm o h1 t=>get_set t (by lia);have S:=px.set (aB3 _) (MO.fdc false f ob);have gl3:mh.length+2<=(List.set M mh.length (MO.fdc false f ob)).length:=by simpa using gl
  generalize List.set M mh.length (MO.fdc false f ob)=M3 at hf P v S gl3⊢;refine IK (λi b A =>A =M3/\b.length<=i/\(∀p∈b,∃c,p.1= .int c)/\(b.map (·.1)).Nodup/\∀c d,aU b (.int c)=some d↔∃k,k<i/\f[k]? =some (.int c,d)/\(iR c 0 L.ss).length=2/\¬NW L c) _ (λ_ _ _ h=>by rw[h.1];exact hf) ?_ ?_ ⟨rfl,by simp,by simp,by simp,λc d=>by simp[aU]⟩
  ·rintro i d b A N hi ⟨rfl,yl,V,W,T⟩ nx;rw[List.getElem?_map]at hi;obtain⟨p,u,rfl⟩:=aBm.mp hi;have pm:=aB8 u;obtain⟨c,X⟩:=v.key p pm;have hv:=pJ v.nd pm;rw[X]at hv;obtain⟨r,er,hr,U,hne⟩:=v.some c p.2 hv;rw[er]at hv;have y :f[i]? =some (.int c,.ref r):=by rw[u];cases p;simp_all
   have uq:∀k d,f[k]? =some (.int c,d)->k=i:=λk d hk=>by
    have h1:(f.map (·.1))[k]? =some (.int c):=by rw[List.getElem?_map,hk];rfl
    have t:(f.map (·.1))[i]? =some (.int c):=by rw[List.getElem?_map,y];rfl
    exact sY v.nd h1 t
   rw[X];simp[gB]
   have ix:∀{Q:DK},Q (.ref r) A ->GI (D.ref mh.length) (D.int c) A Q:=λq=>⟨_,f,.inl c,.ref r,rfl,.inr ⟨_,hf⟩,rfl,hv,q⟩
   have no:¬((iR c 0 L.ss).length=2/\¬NW L c)->N b A :=λhn=>nx _ _ ⟨rfl,by lia,V,W,λc' d=>by
    rw[T c' d];constructor
    ·rintro⟨k,a,z⟩;exact⟨k,by lia,z⟩
    ·rintro⟨k,a,G,Y⟩;refine⟨k,?_,G,Y⟩;rcases aCd k i with z | z
     ·exact z
     ·have:k=i:=by lia
      subst this;rw[y]at G;cases G
      exact absurd Y hn⟩
   refine ix ?_;rw[zS U];simp[nums,oC];by_cases t:(iR c 0 L.ss).length=2
   ·rw[if_pos (by exact_mod_cast t)];refine⟨_,bk,.inl c,rfl,P,rfl,?_⟩;by_cases F:NW L c
    ·rw[(B c).mpr F];simp[oC];exact no λz=>z.2 F
    ·have:(aU bk (.int c)).isSome=false:=by
      cases e:(aU bk (.int c)).isSome with
      | false=>rfl
      | true=>exact absurd ((B c).mp e) F
     rw[this];simp[oC];refine ix ⟨⟨.inl c,rfl⟩,nx _ _ ⟨rfl,by have:=eC b (.int c) (.ref r);lia,λp u=>?_,GQ W,λc' d=>?_⟩⟩
     ·rcases qL u with h | h
      ·exact V p h
      ·exact⟨c,h.1⟩
     ·by_cases ec:c' =c
      ·subst ec;rw[dZ];constructor
       ·intro e;cases e;exact⟨i,by lia,y,t,F⟩
       ·rintro⟨k,_,hk,_⟩;have:=uq k d hk;subst this;rw[y]at hk;cases hk;rfl
      ·rw[bL _ _ λz=>ec (D.int.inj z),T c' d];constructor
       ·rintro⟨k,a,z⟩;exact⟨k,by lia,z⟩
       ·rintro⟨k,a,G,Y⟩;refine⟨k,?_,G,Y⟩;rcases aCd k i with z | z
        ·exact z
        ·have:k=i:=by lia
         subst this;rw[y]at G;cases G;exact absurd rfl ec
   ·rw[if_neg (by exact_mod_cast t)];exact no λz=>t z.1
  ·rintro b A ⟨rfl,yl,V,W,T⟩;simp at yl
   have two:∀l:List Nat,l.length=2->∃i j,l=[i,j]:=λl h=>by
    match l,h with
    | [i,j],_=>exact⟨i,j,rfl⟩
   have lst:∀(r:Nat) o,A[r]? =some o->r≠A.length/\(A ++[MO.dic false b])[r]? =some o:=λr o h=>⟨by have:=(aB2.mp h).1;lia,aI h⟩
   refine aM (q _ _ b (S.push _) (by lia) ⟨by simp,by lia,λp u=>?_,λc i j ho F=>?_⟩)
   ·obtain⟨c,X⟩:=V p u;have hv:=pJ W u;rw[X]at hv;obtain⟨k,_,hk,t,F⟩:=(T c p.2).mp hv;have hk2:=pJ v.nd (aB8 hk);obtain⟨r,er,_,U,_⟩:=v.some c _ hk2;obtain⟨i,j,e⟩:=two _ t;obtain⟨a1,a2⟩:=lst r _ U;refine⟨c,i,j,r,er,a1,?_,e,F⟩;rw[a2,e];rfl
   ·cases e:aU f (.int c) with
    | none=>have h0:iR c 0 L.ss=[]:=v.none c e;rw[h0]at ho;cases ho
    | some d=>
     obtain⟨r,rfl,_,U,_⟩:=v.some c d e;obtain⟨k,hk⟩:=aC3.mp (uW e);have hkl:=(aB2.mp hk).1;refine⟨_,uW ((T c (.ref r)).mpr ⟨k,by simpa using hkl,hk,by rw[ho];rfl,F⟩),r,rfl,?_⟩;have hm' :A[r]? =some (.lst (nums (iR c 0 L.ss))):=U;rw[(lst r _ hm').2,ho];rfl
theorem XR(a b c d e f:D):hX [a,b,c,d,e,f] 4=some e:=rfl
def RowC(x y:Sw):Prop:=x.s=y.s/\x.g=y.g/\x.w=y.w/\¬(x.a=y.a/\x.b=y.b)
def YA:OA:=λds mh Q=>∃x y:Sw,ds=[sD x,sD y]/\∀b,(b=true↔RowC x y)->Q (.bl b) mh
theorem W8(ds:List D)(mh:MH)(R:DK)(ok:j4 mh)(hs:YA ds mh R):eV (En mh R) (aK ["one","other"] ds) mh:=by
 obtain⟨x,y,rfl,q⟩:=hs;simp[eV,aK,sD,IM,oY];refine⟨by simp[cZ,bare],by simp[cZ,bare],by simp[jY,deep],?_⟩;rw[XR,XR];simp only[bK];by_cases b:x.s=y.s/\x.g=y.g
 ·have e:cY [D.str x.s,D.int x.g] [D.str y.s,D.int y.g]=true:=by simp[cY,fX,b]
  rw[if_pos e];simp[oC];by_cases a:x.w=y.w
  ·simp[a,zJ,bM,cZ,bare,jY,deep];refine aM (q _ ?_);simp[fX,cY,RowC,b,a]
   grind
  ·simp[a];exact aM (q _ (by simp[RowC,a]))
 ·have e:¬cY [D.str x.s,D.int x.g] [D.str y.s,D.int y.g]=true:=by simp[cY,fX];grind
  rw[if_neg e];exact aM (q _ (by simp[RowC];grind))
theorem pM{c:Int}:∀{ss:List Sw} {o k:Nat},k∈iR c o ss->∃n x,k=o+n/\ss[n]? =some x
 | [],o,k,h=>by simp[iR]at h
 | x::r,o,k,h=>by
  simp only[iR,List.mem_append,List.mem_replicate]at h
  rcases h with ⟨_,rfl⟩ | h
  ·exact⟨0,x,by simp,rfl⟩
  ·obtain⟨n,y,e,a⟩:=pM h;exact⟨n+1,y,by lia,by simpa using a⟩
theorem qV{l:Nat}(h:ss[l]? =some x):hX (ss.map sD) (l:Nat)=some (sD x):=kJ (by rw[List.getElem?_map,h];rfl)
def XX(L:Li)(l h:Nat):Prop:=∃x y,L.ss[l]? =some x/\L.ss[h]? =some y/\RowC x y
def Ent(M:MH)(kvs:List (D×D))(k l h:Nat):Prop:=∃(p:D×D) (r:Nat),kvs[k]? =some p/\p.2= .ref r/\M[r]? =some (.lst [.int (l:Nat),.int (h:Nat)])
def JL:OA:=λds mh Q=>∃L:Li,ds=[.tup (L.ns.map nD),.tup (L.ss.map sD)]/\Wf L/\∀M n kvs f,bB mh M->mh.length<=n->M[n]? =some (.dic false kvs)->(∃b,Ends b M kvs f)->(∀c,(f c).length<=1000)->(∀(i j:Nat),j∈f i↔o4 L i j)->Q (.ref n) M
theorem S6(ds:List D)(mh:MH)(R:DK)(ok:j4 mh)(hs:JL ds mh R):dY X9 YA (En mh R) (aK ["names","switches","following","low","high"] ds) mh:=by
 obtain⟨L,rfl,w,q⟩:=hs;have sz:=aBk;have wn:=w.n;have ws:=w.s;simp[dY,aK,mR,iN,BL,BF];refine⟨L,rfl,w,λM n kvs px hn I=>?_⟩;have g0:(mh++[MO.dic false []]).length=mh.length+1:=by simp
 have f0:M[mh.length]? =some (.dic false []):=px.old (by simp);have px0:bB mh M:=by obtain⟨T,rfl⟩:=px;exact⟨[MO.dic false []]++T,by simp⟩
 rw[g0]at hn I;refine⟨n,rfl,kvs,I.here,λob=>?_⟩;have hi:=I.here;have nl:=(aB2.mp hi).1;have U:∀(k:Nat) (p:D×D),kvs[k]? =some p->∃(c:Int) (i j r:Nat),p.2= .ref r/\r≠n/\M[r]? =some (.lst [.int (i:Nat),.int (j:Nat)])/\iR c 0 L.ss=[i,j]/\¬NW L c:=λk p C=>I.all p (aB8 C)
 refine IC (λi ρ H =>(∃a3 a4,ρ=[some (.tup (L.ns.map nD)),some (.tup (L.ss.map sD)),some (.ref mh.length),a3,a4])/\bB mh H /\M.length<=H.length/\H[n]? =some (.fdc false kvs ob)/\(∀(m:Nat) o,M[m]? =some o->m≠n->m≠mh.length->H[m]? =some o)/\
   ∃K f,H[mh.length]? =some (.dic false K)/\K.length<=i/\Ends M.length H K f/\(∀c,(f c).length<=i)/\∀(lo:Int) (h:Nat),h∈f lo↔∃k l,k<i/\lo=(l:Nat)/\Ent M kvs k l h/\XX L l h) _ (λ_ _ _ h=>h.2.2.2.1) ?_ ?_
  ⟨⟨_,_,rfl⟩,px0.set (by lia) _,by simp,cI _ hi,λm o t v F=>get_set t (λz=>v z.symm),[],λ_=>[],get_set f0 (by lia),by simp,⟨λc d h=>by simp[aU]at h,λc _=>rfl,λc c' r h=>by simp[aU]at h,λp C=>by simp at C,by simp⟩,by simp,λlo h=>by simp⟩
 ·rintro i d ρ H N hd ⟨⟨a3,a4,rfl⟩,G,gl,hf,old,K,f,hk,fl,E,A,X⟩ nx;rw[List.getElem?_map]at hd;obtain⟨p,C,rfl⟩:=aBm.mp hd;have hil:=(aB2.mp C).1;have kl:=I.len;obtain⟨c,l,h,r,J,rn,u,ho,Y⟩:=U i p C;have rm:r≠mh.length:=λz=>by rw[z,f0]at u;cases u
  have B :=old r _ u rn rm;obtain⟨l',x,O,P⟩:=pM (c:=c) (ss:=L.ss) (o:=0) (k:=l) (by rw[ho];simp);obtain⟨h',y,Q,S⟩:=pM (c:=c) (ss:=L.ss) (o:=0) (k:=h) (by rw[ho];simp);have O:l=l' :=by lia
  have Q:h=h' :=by lia
  subst O;subst Q
  have eu:∀g h0,Ent M kvs i g h0↔g=l/\h0=h:=λg h0=>by
   constructor
   ·rintro⟨p',r',t,v,F⟩;rw[C]at t;cases t;rw[J]at v;cases v;rw[u]at F;simp at F
    lia
   ·rintro⟨rfl,rfl⟩;exact⟨p,r,C,J,u⟩
  refine⟨[.int (l:Nat),.int (h:Nat)],by rw[J];simp[iI,B],rfl,?_⟩;simp[gI];rw[qV P,qV S];simp only[bK];refine⟨x,y,rfl,λb hb=>?_⟩;simp[jL]
  cases b with
  | false=>
   simp;have nr:¬RowC x y:=λz=>Bool.false_ne_true (hb.mpr z);refine nx _ _ ⟨⟨_,_,rfl⟩,G,gl,hf,old,K,f,hk,by lia,E,λc=>by have:=A c;lia,λlo h0=>?_⟩;rw[X lo h0];constructor
   ·rintro⟨k,g,a,z⟩;exact⟨k,g,by lia,z⟩
   ·rintro⟨k,g,a,e,V,Z⟩;refine⟨k,g,?_,e,V,Z⟩;rcases aCd k i with z | z
    ·exact z
    ·have:k=i:=by lia
     subst this;obtain⟨rfl,rfl⟩:=(eu g h0).mp V;obtain⟨x',y',t,v,F⟩:=Z;rw[P]at t;cases t;rw[S]at v;cases v;exact absurd F nr
  | true=>
   have W:=hb.mp rfl;rw[if_pos rfl];refine BY (QN:=λm=>N _ m) (k:=h) E hk gl (by lia) (by lia) (λc=>by have:=A c;lia) λM4 k4 h4 E4 l4 g4 s4 x4=>?_;refine nx _ _ ⟨⟨_,_,rfl⟩,x4 _ G (aB3 _),by lia,s4 _ _ hf (by lia) (by lia),λm o t v F=>s4 m o (old m o t v F) (aB2.mp t).1 F,k4,_,h4,by lia,E4,λc=>?_,λlo h0=>?_⟩
   ·have:=A c;unfold uD;split <;> simp <;> lia
   ·have step:h0∈uD f (l:Nat) h lo↔(h0∈f lo\/(lo=(l:Nat)/\h0=h)):=by
     unfold uD;split
     ·rename_i e;simp[e]
     ·rename_i e;simp[e]
    rw[step,X lo h0];constructor
    ·rintro(⟨k,g,a,z⟩ | ⟨rfl,rfl⟩)
     ·exact⟨k,g,by lia,z⟩
     ·exact⟨i,l,by lia,rfl,(eu l h0).mpr ⟨rfl,rfl⟩,x,y,P,S,W⟩
    ·rintro⟨k,g,a,e,V,Z⟩;rcases aCd k i with z | z
     ·exact .inl ⟨k,g,z,e,V,Z⟩
     ·have:k=i:=by lia
      subst this;obtain⟨rfl,rfl⟩:=(eu g h0).mp V;exact .inr ⟨e,rfl⟩
 ·rintro ρ H ⟨⟨a3,a4,rfl⟩,G,gl,hf,old,K,f,hk,fl,E,A,X⟩;simp[iM];refine aM (q _ _ K f G (aB3 _) hk ⟨_,E⟩ (λc=>by have:=A c;have:=I.len;simp at*;lia) λi j=>?_);rw[X];constructor
  ·rintro⟨k,l,hk,e,⟨p,r,t,v,F⟩,x,y,P,S,u⟩;have e:i=l:=by lia
   subst e;obtain⟨c,l',h',r',J,rn,B,ho,Y⟩:=U k p t;rw[v]at J;cases J;rw[F]at B;simp at B;obtain⟨O,Q⟩:=B;have O:i=l' :=by lia
   have Q:j=h' :=by lia
   subst O;subst Q;exact⟨x,y,c,P,S,u.1,u.2.1,u.2.2.1,u.2.2.2,ho,Y⟩
  ·rintro⟨x,y,c,P,S,O,Q,e3,e4,ho,Y⟩;obtain⟨p,C,r,J,u⟩:=I.has c i j ho Y;obtain⟨k,hk⟩:=aC3.mp C;have hkl:=(aB2.mp hk).1;exact⟨k,i,by simpa using hkl,rfl,⟨p,r,hk,J,u⟩,x,y,P,S,O,Q,e3,e4⟩
theorem QY:∀{ss:List Sw} {o k:Nat},k∈iR c o ss->o<=k:=λh=>by obtain⟨n,x,e,_⟩:=pM h;lia
theorem GG{c:Int}:∀{ss:List Sw} {o:Nat},(iR c o ss).Pairwise (· <= ·)
 | [],o=>by simp[iR]
 | x::r,o=>by
  simp only[iR];rw[List.pairwise_append];refine⟨?_,GG,λa d b e=>?_⟩
  ·rw[List.pairwise_replicate];right;exact aB3 _
  ·have:=(List.mem_replicate.mp d).2;have:=QY e
   lia
theorem HQ(h:o4 L i j):i<j:=by
 obtain⟨x,y,c,b,a,_,_,_,d,ho,_⟩:=h
 have e:i<=j:=by
  have:=GG (c:=c) (ss:=L.ss) (o:=0);rw[ho]at this;simpa using this
 rcases aDh e with z | z
 ·exact z
 ·subst z;rw[b]at a;cases a;exact absurd ⟨rfl,rfl⟩ d
theorem GR(h:NA L.ss L.ss.length i j):i<j/\YT L i j:=by
 obtain⟨b,_,x,y,c,d,a,_⟩:=h;exact⟨b,x,y,c,d,a⟩
theorem UA(f:i<j)(h:YT L i j):∃k,k<=j/\NA L.ss L.ss.length i k:=by
 obtain⟨x,y,g,b,a⟩:=h
 have go:∀(n:Nat) (y:Sw),L.ss[i+1+n]? =some y->b7 x y->∃k,k<=i+1+n/\NA L.ss L.ss.length i k:=by
  intro n
  induction n using Nat.strongRecOn with
  | _ n l=>
   intro y b a;by_cases e:∃m z,m<n/\L.ss[i+1+m]? =some z/\b7 x z
   ·obtain⟨m,z,o,hz,c⟩:=e;obtain⟨k,p,d⟩:=l m o z hz c;exact⟨k,by lia,d⟩
   ·refine⟨i+1+n,aB3 _,by lia,(aB2.mp b).1,x,y,g,b,a,λm z q r hz c=>e ⟨m-(i+1),z,by lia,?_,c⟩⟩;rw[show i+1+(m-(i+1))=m by lia];exact hz
 obtain⟨k,p,d⟩:=go (j-(i+1)) y (by rw[show i+1+(j-(i+1))=j by lia];exact b) a;exact⟨k,by lia,d⟩
theorem rM:∀(a:Nat) (g:List Nat),∃m,m∈a::g/\bestOf (λx y:Int=>decide (x<y)) (a:Nat) (g.map λk=>((k:Nat):Int))=(m:Nat)/\∀k∈a::g,m<=k
 | a,[]=>⟨a,by simp,by simp[bestOf],by simp⟩
 | a,b::g=>by
  by_cases h:b<a
  ·obtain⟨m,e,d,c⟩:=rM b g;refine⟨m,aB7 _ e,?_,λk hk=>?_⟩
   ·simp only[List.map_cons,bestOf]at*;simpa[h] using d
   ·rcases aBa.mp hk with rfl | hk
    ·have:=c b (by simp);lia
    ·exact c k hk
  ·obtain⟨m,e,d,c⟩:=rM a g;refine⟨m,by grind,?_,λk hk=>?_⟩
   ·simp only[List.map_cons,bestOf]at*;simpa[h] using d
   ·rcases aBa.mp hk with rfl | hk
    ·exact c _ (by simp)
    ·rcases aBa.mp hk with rfl | hk
     ·have:=c a (by simp);lia
     ·exact c k (by simp[hk])
def VF:OA:=λds mh Q=>∃L:Li,ds=[.tup (L.ns.map nD),.tup (L.ss.map sD)]/\Wf L/\(∀M (i j:Nat),bB mh M->zG L i j->Q (.tup [.int (i:Nat),.int (j:Nat)]) M)/\∀M,bB mh M->gH L->Q .bF M
theorem S4(ds:List D)(mh:MH)(R:DK)(ok:j4 mh)(hs:VF ds mh R):fK JM JL (En mh R) (aK ["names","switches","alike","in_row","number","found"] ds) mh:=by
 obtain⟨L,rfl,w,q1,q2⟩:=hs;have sz:=aBk;have ws:=w.s;simp[fK,aK];refine⟨L.ss,rfl,by lia,λM1 o I T hn1 ha fo=>?_⟩;simp[kS];refine⟨L,rfl,w,λM2 u J f v hn2 hr E U fm=>?_⟩;obtain⟨b,E⟩:=E;have V:=v.old ha;have px:bB mh M2:=T.trans v;simp[kR];refine⟨by lia,?_⟩;refine bZ (λi W M=>(∃X Y,W=[some (.tup (L.ns.map nD)),some (.tup (L.ss.map sD)),some (.ref o),some (.ref u),X,Y])/\bB mh M/\bB M2 M/\∀l j',l<i->l<j' ->¬t8 L l j') _ (λ_ _ _ _=>trivial) ?_ ?_ ⟨⟨_,_,rfl⟩,px,bB.refl,λl j' h=>absurd h (by simp)⟩
 ·rintro i d W M N hi ⟨⟨X,Y,rfl⟩,Z,y,K⟩ nx;obtain⟨hil,rfl⟩:=eY hi;simp[i5];have A:M[u]? =some (.dic false J):=y.old hr;have B:M[o]? =some (.dic false I):=y.old V;have hl:=w.s;refine⟨⟨_,A⟩,J,aI A,⟨.inl i,rfl⟩,⟨o,I,.inl i,rfl,aI B,rfl,?_⟩⟩
  have first:∃r,(aU J (D.int (i:Nat))).getD (D.ref M.length)= .ref r/\(M++[MO.lst []])[r]? =some (.lst (nums (f (i:Nat)))):=by
   cases e:aU J (D.int (i:Nat)) with
   | none=>exact⟨_,rfl,by rw[E.none _ e];simp[nums]⟩
   | some d=>obtain⟨r,rfl,_,O,_⟩:=E.some _ d e;exact⟨r,rfl,aI (y.old O)⟩
  obtain⟨r,er,C⟩:=first
  rw[er];have fl:=U (i:Nat)
  have key:∀(g:List Nat) (n:MH),(∀j,j∈g↔o4 L i j\/NA L.ss L.ss.length i j)->bB M n->(n++[MO.lst (nums g)])[n.length]? =some (.lst (nums g))->bX JM JL {nx:=N,rt:=λd c=>Out mh.length d c R,bk:=cT JM JL (En mh R),ct:=N} [some (D.tup (L.ns.map nD)),some (D.tup (L.ss.map sD)),some (D.ref o),some (D.ref u),some (D.int (i:Nat)),some (D.ref n.length)] (n++[MO.lst (nums g)]):=by
   intro g n hg p4 P;have p5:=p4.push (MO.lst (nums g));have p:=(Z.trans p4).push (MO.lst (nums g));have F:=(y.trans p4).push (MO.lst (nums g))
   have t2:∀j,j∈g->i<j/\t8 L i j:=λj hj=>by
    rcases(hg j).mp hj with h | h
    ·exact⟨HQ h,.inr h⟩
    ·exact⟨(GR h).1,.inl (GR h).2⟩
   have t3:∀j,i<j->t8 L i j->∃k,k<=j/\k∈g:=λj hj t=>by
    rcases t with t | t
    ·obtain⟨k,S,G⟩:=UA hj t;exact⟨k,S,(hg k).mpr (.inr G)⟩
    ·exact⟨j,aB3 _,(hg j).mpr (.inl t)⟩
   generalize n.length=rf at P⊢;generalize n++[MO.lst (nums g)]=M5 at P p5 p F⊢;simp[bX,jL,P]
   cases g with
   | nil=>
    simp[nums];refine nx _ _ ⟨⟨_,_,rfl⟩,p,F,λl j' S G t=>?_⟩;rcases aCd l i with z | z
    ·exact K l j' z G t
    ·have:l =i:=by lia
     subst this;obtain⟨k,_,hk⟩:=t3 j' G t;simp at hk
   | cons a g=>
    simp[nums];refine⟨.ref rf,(a:Nat),g.map λk=>((k:Nat):Int),rfl,by simp[aT,P,nums],?_⟩;obtain⟨m,O,em,ml⟩:=rM a g;rw[em];refine⟨by lia,aM (q1 _ i m p ⟨(t2 m O).1,(t2 m O).2,K,λj' S G t=>?_⟩)⟩;obtain⟨k,h3,hk⟩:=t3 j' S t;have:=ml k hk
    lia
  cases e:aU I (D.int (i:Nat)) with
  | none=>
   simp[oC];have hx:(M++[MO.lst []]++[MO.lst []])[(M++[MO.lst []]).length]? =some (.lst []):=by simp
   have:=qH (mh:=M++[MO.lst []]++[MO.lst []]) (Q:=λd c=>bX JM JL {nx:=N,rt:=λd c=>Out mh.length d c R,bk:=cT JM JL (En mh R),ct:=N} [some (D.tup (L.ns.map nD)),some (D.tup (L.ss.map sD)),some (D.ref o),some (D.ref u),some (D.int (i:Nat)),some d] c) (aI (x:=MO.lst []) C) hx;simp at this
   try simp
   refine this.mpr ⟨by simp[nums];lia,?_⟩
   have k1:=key (f (i:Nat)) (M++[MO.lst [],MO.lst []]) (λj=>by
    rw[fm i j];constructor
    ·exact .inl
    ·rintro(h | h)
     ·exact h
     ·rw[fo.2.2 i j h]at e;cases e) ⟨_,rfl⟩ (by simp)
   simpa using k1
  | some d=>
   obtain⟨q,rfl,H⟩:=fo.2.1 i d e;simp[oC];refine⟨o,I,.inl i,_,rfl,aI B,rfl,e,by lia,?_⟩;have hx:(M++[MO.lst []]++[MO.lst [.int (q:Nat)]])[(M++[MO.lst []]).length]? =some (.lst [.int (q:Nat)]):=by simp
   have:=qH (mh:=M++[MO.lst []]++[MO.lst [.int (q:Nat)]]) (Q:=λd c=>bX JM JL {nx:=N,rt:=λd c=>Out mh.length d c R,bk:=cT JM JL (En mh R),ct:=N} [some (D.tup (L.ns.map nD)),some (D.tup (L.ss.map sD)),some (D.ref o),some (D.ref u),some (D.int (i:Nat)),some d] c) (aI (x:=MO.lst [.int (q:Nat)]) C) hx
   try simp at this
   try simp
   refine this.mpr ⟨by simp[nums];lia,?_⟩
   have k1:=key (f (i:Nat)++[q]) (M++[MO.lst [],MO.lst [.int (q:Nat)]]) (λj=>by
    rw[List.mem_append,fm i j];constructor
    ·rintro(h | h)
     ·exact .inl h
     ·simp at h;subst h;exact .inr H
    ·rintro(h | h)
     ·exact .inl h
     ·exact .inr (by simp[RD h H])) ⟨_,rfl⟩ (by simp)
   simpa[nums] using k1
 ·rintro W M ⟨⟨X,Y,rfl⟩,Z,y,K⟩;simp[cT];refine aM (q2 _ Z λi j hij t=>?_);have:=qA t;exact K i j (by simpa using this.1) hij t
theorem m5(x:Sw):hX [D.str x.s,.int x.g,.int x.a,.int x.b,.int x.w,.int x.l] 2=some (.int x.a)/\hX [D.str x.s,.int x.g,.int x.a,.int x.b,.int x.w,.int x.l] 3=some (.int x.b)/\hX [D.str x.s,.int x.g,.int x.a,.int x.b,.int x.w,.int x.l] 4=some (.int x.w)/\hX [D.str x.s,.int x.g,.int x.a,.int x.b,.int x.w,.int x.l] 5=some (.int x.l)/\hX [D.str x.s,.int x.g,.int x.a,.int x.b,.int x.w,.int x.l] 0=some (.str x.s)/\hX [D.str x.s,.int x.g,.int x.a,.int x.b,.int x.w,.int x.l] 1=some (.int x.g):=⟨rfl,rfl,rfl,rfl,rfl,rfl⟩
theorem wY{p r:Int}(nd:ns.Nodup)(c:∀n,n∈ns↔n=p\/n=r)(hs:ns.Pairwise (· <= ·))(ne:p≠r):ns=[min p r,max p r]:=by
 have d:[min p r,max p r].Perm ns:=by
  refine(aD9 ?_ nd).mpr λn=>?_
  ·simp;lia
  ·rw[c];simp;lia
 match ns,d.length_eq,nd,c,hs with
 | [a,b],_,nd,c,hs=>
  have e:=(c a).mp (by simp);have f:=(c b).mp (by simp);simp at nd hs;simp
  lia
theorem JS(h:l9 x y=[c])(d:x.a≠x.b)(e:y.a≠y.b)(n:Int):(((n=y.a\/n=y.b)/\¬(n=x.a\/n=x.b))\/(¬(n=y.a\/n=y.b)/\(n=x.a\/n=x.b)))↔n=dO x c\/n=dO y c:=by
 have h:=fH.mp h;unfold dO;split <;> split <;> grind
theorem GC(h:l9 x y=[c])(d:x.a≠x.b)(e:y.a≠y.b):dO x c≠dO y c:=by
 have h:=fH.mp h;unfold dO;split <;> split <;> grind
def VG:OA:=λds mh Q=>∃x y:Sw,ds=[sD x,sD y]/\Mk x y/\∀M,bB mh M->Q (sD (made x y)) M
theorem S7(ds:List D)(mh:MH)(R:DK)(ok:j4 mh)(hs:VG ds mh R):hZ (En mh R) (aK ["one","other","ends"] ds) mh:=by
 obtain⟨x,y,rfl,mk,q⟩:=hs;have sz:=aBk;obtain⟨m,o,d,f,w,x1⟩:=m5 x;obtain⟨p,r,s,j,y0,A⟩:=m5 y;simp[hZ,aK,sD,oY,OU,d,s,f];refine⟨by simp[cZ,bare],by simp[cZ,bare],by simp[jY,deep],?_⟩;by_cases h:x.a=y.a/\x.b=y.b
 ·have e:cY [D.int x.a,D.int x.b] [D.int y.a,D.int y.b]=true:=by simp[cY,fX,h]
  rw[if_pos e];refine⟨by lia,by lia,aM ?_⟩;have:=q mh bB.refl;simpa[made,h,sD] using this
 ·have e:¬cY [D.int x.a,D.int x.b] [D.int y.a,D.int y.b]=true:=by simp[cY,fX];grind
  rw[if_neg e];rcases mk with z | ⟨k,l,_,c,g⟩
  ·exact absurd z h
  simp[mG,m,o,p,r];intro ns nd t u;have i :∀n,n∈ns↔n=dO x c\/n=dO y c:=λn=>by rw[<-JS g k l n,t n];simp
  have v:=wY nd i u (GC g k l);subst v;have hg:(mh++[MO.lst [D.int (min (dO x c) (dO y c)),D.int (max (dO x c) (dO y c))]])[mh.length]? =some (.lst [D.int (min (dO x c) (dO y c)),D.int (max (dO x c) (dO y c))]):=by simp
  simp[mF,IM,d,f,j];rw[d9 hg];simp[zB,d,f,j];rw[d9 hg];simp[zB];refine⟨by lia,by lia,aM ?_⟩;have:=q _ (bB.refl.push (MO.lst [D.int (min (dO x c) (dO y c)),D.int (max (dO x c) (dO y c))]));simpa[made,h,sD,IP g] using this
theorem KG(a:i<j)(c:j<ss.length):restOf ss i j=ss.take i++(ss.drop (i+1)).take (j-(i+1))++ss.drop (j+1):=by
 unfold restOf;apply aD5;intro n;rw[List.getElem?_eraseIdx,List.getElem?_eraseIdx,List.getElem?_eraseIdx];have b:(ss.take i).length=i:=by simp;lia
 have d:((ss.drop (i+1)).take (j-(i+1))).length=j-(i+1):=by simp;lia
 rcases aCd n i with z | z
 ·rw[if_pos z,if_pos (by lia),List.append_assoc,List.getElem?_append_left (by lia),List.getElem?_take_of_lt z]
 ·rw[if_neg (by lia)];rcases aCd (n+1) j with y | y
  ·rw[if_pos y,List.append_assoc,List.getElem?_append_right (by lia),b,List.getElem?_append_left (by lia),List.getElem?_take_of_lt (by lia),List.getElem?_drop];congr 1;lia
  ·rw[if_neg (by lia),List.getElem?_append_right (by simp;lia),List.getElem?_drop];congr 1;simp;lia
theorem MK(a:i<j)(b:j<ss.length):cutD (ss.map sD) none (some (i:Nat))++cutD (ss.map sD) (some ((i:Nat)+1)) (some (j:Nat))++cutD (ss.map sD) (some ((j:Nat)+1)) none=(restOf ss i j).map sD:=by
 rw[KG a b,TR (by lia) (by simp;lia),NB (by lia) (by lia),IL (by lia)];rw[List.map_append,List.map_append,List.map_take,List.map_take,List.map_drop,List.map_drop];congr 2
def N8:OA:=λds mh Q=>∃L:Li,ds=[lD L]/\Wf L/\∀M N,bB mh M->Fin L N->Q (lD N) M
theorem SY(ds:List D)(mh:MH)(R:DK)(ok:j4 mh)(hs:N8 ds mh R):j5 VF VG (En mh R) (aK ["some","many","names","switches","pair","low","high","kept"] ds) mh:=by
 obtain⟨L,rfl,w,q⟩:=hs;have sz:=aBk;simp[j5,aK,lD,oF]
 have go:∀(M:MH) (d:D),bB mh M->((∃i j:Nat,d= .tup [.int (i:Nat),.int (j:Nat)]/\zG L i j)\/(d= .bF/\gH L))->i4 VF VG (En mh R) [some (lD L),some (.int L.m),some (.tup (L.ns.map nD)),some (.tup (L.ss.map sD)),some d,none,none,none] M:=by
  intro M d c hd;unfold i4;show lQ _ _ _ _ _;refine⟨λm k M=>(∃a d l a6 a7,k=[some (lD L),some (.int L.m),some (.tup (L.ns.map nD)),some (.tup (a.ss.map sD)),some d,l,a6,a7]/\a.m=L.m/\a.ns=L.ns/\Wf a /\(∀N,Fin a N->Fin L N)/\a.ss.length=m/\((∃i j:Nat,d= .tup [.int (i:Nat),.int (j:Nat)]/\zG a i j)\/(d= .bF/\gH a)))/\bB mh M,⟨_,⟨L,d,_,_,_,rfl,rfl,rfl,w,λN h=>h,rfl,hd⟩,c⟩,?_⟩;rintro m k M ⟨⟨a,d,l,a6,a7,rfl,em,n,o,g,W,hd⟩,c⟩;refine⟨λk M=>∃C,C<m/\(∃a d l a6 a7,k=[some (lD L),some (.int L.m),some (.tup (L.ns.map nD)),some (.tup (a.ss.map sD)),some d,l,a6,a7]/\a.m=L.m/\a.ns=L.ns/\Wf a /\(∀N,Fin a N->Fin L N)/\a.ss.length=C /\((∃i j:Nat,d= .tup [.int (i:Nat),.int (j:Nat)]/\zG a i j)\/(d= .bF/\gH a)))/\bB mh M,λG mh' h=>h,?_⟩
  rcases hd with ⟨i,j,rfl,e⟩ | ⟨rfl,p⟩
  ·simp[gW];have X:=o.s;have lt:=qA e.2.1
   obtain⟨x,r⟩:∃x,a.ss[i]? =some x:=⟨_,aBr lt.1⟩
   obtain⟨y,t⟩:∃y,a.ss[j]? =some y:=⟨_,aBr lt.2⟩
   simp[mE,iZ];rw[if_neg (by simp[oQ])];have H:=l6 (a.ss.map sD) none (some (i:Nat));have I:=l6 (a.ss.map sD) (some ((i:Nat)+1)) (some (j:Nat));have J:=l6 (a.ss.map sD) (some ((j:Nat)+1)) none;simp only[List.length_map]at H I J;refine⟨by lia,by lia,?_⟩;have K:=qI e.1 lt.2;obtain⟨mk,_,_⟩:=zM o e.1 r t e.2.1;have E:=MK e.1 lt.2;simp only[List.append_assoc]at E;rw[E];simp[iY];rw[qV r,qV t];simp only[bK];refine⟨x,y,rfl,mk,λF O=>?_⟩;simp;have P:(restOf a.ss i j).map sD++[sD (made x y)]=(restOf a.ss i j++[made x y]).map sD:=by simp
   rw[P];refine⟨by lia,by lia,_,rfl,by simp;lia,uI _,λQ pm S=>?_⟩;obtain⟨b,ps,rfl⟩:=eD sD pm _ rfl
   have st:Step a ⟨a.m,a.ns,b⟩:=⟨i,j,x,y,e,r,t,rfl,rfl,ps,S⟩
   obtain⟨u,T⟩:=BU o st;have v:bB mh (F++[MO.lst (b.map sD)]):=(c.trans O).push _;simp[aT];generalize F++[MO.lst (b.map sD)]=M2 at v⊢;simp only[]at T;have f:∀N,Fin ⟨a.m,a.ns,b⟩ N->Fin L N:=λN h=>g N (.step st h);simp[iX];refine⟨⟨a.m,a.ns,b⟩,by rw[<-n],u,λU i2 V z A=>?_,λU z B=>?_⟩
   ·exact⟨b.length,by lia,⟨⟨a.m,a.ns,b⟩,_,⟨rfl,rfl⟩,em,n,u,f,rfl,.inl ⟨i2,V,rfl,A⟩⟩,v.trans z⟩
   ·exact⟨b.length,by lia,⟨⟨a.m,a.ns,b⟩,_,⟨rfl,rfl⟩,em,n,u,f,rfl,.inr ⟨rfl,B⟩⟩,v.trans z⟩
  ·simp[gW,oE];refine⟨by lia,aM ?_⟩;have:=q M a c (g a (.stop p));simpa[lD,em,n] using this
 refine⟨L,rfl,w,λM i j c e=>go M _ c (.inl ⟨i,j,rfl,e⟩),λM c p=>go M _ c (.inr ⟨rfl,p⟩)⟩
inductive Tr:Nat->D->Prop
 | str {n:Nat} (s:Str):Tr (n+1) (.str s)
 | int {n:Nat} (i:Int):Tr (n+1) (.int i)
 | tup {n:Nat} (ds:List D):(∀d∈ds,Tr n d)->ds.length<=1000->Tr (n+1) (.tup ds)
def JN(n:Nat):OA:=λds mh Q=>∃d,ds=[d,d]/\Tr n d/\Q (.bl true) mh
def KD:OA:=λds mh Q=>∃i,ds=[.int i]/\Q (.bl true) mh
theorem W9(ds:List D)(mh:MH)(R:DK)(ok:j4 mh)(hs:KD ds mh R):c6 (En mh R) (aK ["_law_thing"] ds) mh:=by
 obtain⟨i,rfl,q⟩:=hs;simp[c6,aK,J0,o8,bG];exact aM q
theorem BD:∀{ds:List D} {x:D},x∈d5 ds ds->∃d∈ds,x= .tup [d,d]
 | [],x,h=>by simp[d5]at h
 | d::ds,x,h=>by
  simp[d5]at h;rcases h with rfl | h
  ·exact⟨d,by simp,rfl⟩
  ·obtain⟨e,he,rfl⟩:=BD h;exact⟨e,by simp[he],rfl⟩
theorem S9(n:Nat)(ds:List D)(mh:MH)(R:DK)(ok:j4 mh)(hs:JN (n+1) ds mh R):cK (JN n) KD (En mh R) (aK ["_law_found","_law_due"] ds) mh:=by
 obtain⟨d,rfl,ht,q⟩:=hs;have a:2<=sizeLine:=by rw[sizeLine_eq];lia
 cases ht with
 | str s=>
  simp[cK,fC,aK,J0,o8,bG,jL];exact⟨a,aM q⟩
 | int i=>
  simp[cK,fC,jH,aK,J0,o8,bG,jL];exact⟨a,i,rfl,aM q⟩
 | tup ds hd hl=>
  simp[cK,aK,J0,o8,bG,jL,aT];refine⟨a,by rw[sizeLine_eq];lia,comp_map (λ_=>.bl true) _ [] trivial (λx b N hN=>?_) ?_⟩
  ·obtain⟨d,c,rfl⟩:=BD b;simp[gB];exact⟨d,rfl,hd d c,hN⟩
  ·have e:(mh++[MO.lst ([]++(d5 ds ds).map λ_=>D.bl true)])[mh.length]? =some (.lst (((d5 ds ds).map λ_=>true).map .bl)):=by simp[Function.comp_def]
   rw[PM e];have f:((d5 ds ds).map λ_=>true).all id=true:=by simp
   rw[f];exact GB ok (by simp[eB]) q
theorem UT(w:Wf L):Tr 4 (lD L):=by
 have a:=w.n;have b:=w.s;refine .tup _ (λd hd=>?_) (by simp);simp at hd;rcases hd with rfl | rfl | rfl
 ·exact .int _
 ·refine .tup _ (λd hd=>?_) (by simp;lia);obtain⟨p,_,rfl⟩:=aBd.mp hd;refine .tup _ (λd hd=>?_) (by simp);simp at hd;rcases hd with rfl | rfl
  ·exact .str _
  ·exact .int _
 ·refine .tup _ (λd hd=>?_) (by simp;lia);obtain⟨x,_,rfl⟩:=aBd.mp hd;refine .tup _ (λd hd=>?_) (by simp);simp at hd;rcases hd with rfl | rfl | rfl | rfl | rfl | rfl
  ·exact .str _
  all_goals exact .int _
def KC:OA:=λds mh Q=>∃(L:Li) (i j:Nat) (x y:Sw),ds=[lD L,.int (i:Nat),.int (j:Nat)]/\Wf L/\i<j/\L.ss[i]? =some x/\L.ss[j]? =some y/\(∀M,bB mh M->t8 L i j->Q (sD (made x y)) M)/\∀M,bB mh M->¬t8 L i j->Q .bF M
theorem kG(c:Int):∀l:List Int,inD (.int c) (l.map D.int)=decide (c∈l)
 | []=>by simp[inD]
 | a::l=>by
  have:=kG c l;simp[inD,fX]at*
  grind
theorem SX{mh M:MH}{r:Nat}{a6 a7 a8:Option D}(w:Wf L)(U:i<j)(hx:L.ss[i]? =some x)(hy:L.ss[j]? =some y)(q1:∀M,bB mh M->t8 L i j->R (sD (made x y)) M)(V:∀M,bB mh M->¬t8 L i j->R .bF M)
  (es:x.s=y.s) (eg:x.g=y.g) (W:¬b7 x y) (ew:x.w=y.w) (n1:x.a≠x.b) (n2:y.a≠y.b) (C:l9 x y=[c]) (px:bB mh M) (X:M[r]? =some (.lst [.int c])):
  eW (En mh R) [some (lD L),some (.int (i:Nat)),some (.int (j:Nat)),some (sD x),some (sD y),some (.ref r),a6,a7,a8] M:=by
 have sz:=aBk;have wn:=w.n;have ws:=w.s;have A:=kB w U hx hy es eg
 have q:¬o4 L i j->¬t8 L i j:=λh t=>by
  rcases t with ⟨x',y',v,l,I⟩ | t
  ·rw[hx]at v;cases v;rw[hy]at l;cases l;exact W I
  ·exact h t
 have uc:∀c',l9 x y=[c']->c' =c:=λc' h=>by rw[C]at h;simpa using h.symm
 have l2:∀a b c:D,hX [a,b,c] 2=some c:=λ_ _ _=>rfl;have l1:∀a b c:D,hX [a,b,c] 1=some b:=λ_ _ _=>rfl;have J:hX [D.int c] 0=some (.int c):=rfl;simp[eW,zS X,oC,d9 X,lD,l1,J,aT];refine EJ nD (λp:Nm=>p.2) D.int L.ns trivial (λp K N hN=>?_) ?_
 ·simp[nD,gB];exact hN
 have e0:(M++[MO.lst ((L.ns.map λp=>p.2).map D.int)])[M.length]? =some (.lst ((L.ns.map λp=>p.2).map D.int)):=by simp
 have E:=aI (x:=MO.lst ((L.ns.map λp=>p.2).map D.int)) X;have Y:=px.push (MO.lst ((L.ns.map λp=>p.2).map D.int));generalize M++[MO.lst ((L.ns.map λp=>p.2).map D.int)]=M1 at e0 E Y⊢;refine⟨(L.ns.map λp=>p.2).map D.int,by simp[aT,e0],by simp[bM,bare],by simp[eR],?_⟩;simp only[bM];rw[kG];by_cases O:c∈L.ns.map λp=>p.2
 ·simp only[O,decide_true,oC,bK,if_true];refine aM (V _ Y (q λh=>?_));obtain⟨_,_,_,c',v,l,_⟩:=A.mp h;rw[uc c' v]at l;obtain⟨p,K,e⟩:=aBd.mp O;exact l (.inl ⟨p,K,e⟩)
 ·simp only[O,decide_false,oC,bK,Bool.false_eq_true,if_false];simp[mJ];rw[l2];simp only[aT,bK];refine⟨by simp;lia,?_⟩;refine bZ (λn Z B =>(∃a6 a7,Z=[some (lD L),some (.int (i:Nat)),some (.int (j:Nat)),some (sD x),some (sD y),some (.ref r),a6,a7,a8])/\bB mh B /\B[r]? =some (.lst [.int c])/\∀(k:Nat) (z:Sw),k<n->L.ss[k]? =some z->c≠z.g/\(k≠i->k≠j->c≠z.a/\c≠z.b)) _ (λ_ _ _ _=>trivial) ?_ ?_ ⟨⟨_,_,rfl⟩,Y,E,λk z h=>absurd h (by simp)⟩
  ·rintro n d Z B N hi ⟨⟨a6,a7,rfl⟩,P,m,Q⟩ nx;obtain⟨d,hd,rfl⟩:=gZ hi;rw[List.getElem?_map]at hd;obtain⟨z,hz,rfl⟩:=aBm.mp hd;obtain⟨z2,z3,z4,z5,z0,z1⟩:=m5 z;have hnl:n<L.ss.length:=(aB2.mp hz).1;simp[kT,d9 m,J,sD,z1]
   have step:(c≠z.g/\(n≠i->n≠j->c≠z.a/\c≠z.b))->∀(k:Nat) (u:Sw),k<n+1->L.ss[k]? =some u->c≠u.g/\(k≠i->k≠j->c≠u.a/\c≠u.b):=λh k u hk hu=>by
    rcases aCd k n with e | e
    ·exact Q k u e hu
    ·have:k=n:=by lia
     subst this;rw[hz]at hu;cases hu;exact h
   have F:¬(c≠z.g/\(n≠i->n≠j->c≠z.a/\c≠z.b))->¬t8 L i j:=λh=>q λt=>h (by
    obtain⟨_,_,_,c',v,l,I⟩:=A.mp t;rw[uc c' v]at l I
    exact⟨λe=>l (.inr ⟨z,aB8 hz,e.symm⟩),λG H=>I n z hz G H⟩)
   by_cases f :c=z.g
   ·simp[f];exact aM (V _ P (F λh=>h.1 f))
   ·simp[f,oY];have o:=aI (x:=MO.lst [D.int (i:Nat),D.int (j:Nat)]) m;have S:=P.push (MO.lst [D.int (i:Nat),D.int (j:Nat)]);refine⟨by lia,[.int (i:Nat),.int (j:Nat)],by simp[aT],by simp[bM,bare],by simp[eR],?_⟩
    have e1:inD (D.int (n:Nat)) [D.int (i:Nat),D.int (j:Nat)]=decide (n=i\/n=j):=by
     have:=kG (n:Nat) [(i:Nat),(j:Nat)];simp only[List.map_cons,List.map_nil]at this;rw[this];simp
     lia
    simp only[bM,e1];generalize B ++[MO.lst [D.int (i:Nat),D.int (j:Nat)]]=M3 at o S⊢;by_cases k:n=i\/n=j
    ·simp[k,oC];exact nx _ _ ⟨⟨_,_,rfl⟩,S,o,step ⟨f,λG H=>by rcases k with k | k;exact absurd k G;exact absurd k H⟩⟩
    ·simp[k,oC,d9 o,J];refine⟨[.int z.a,.int z.b],rfl,by simp[bM,bare],by simp[eR],?_⟩
     have e2:inD (D.int c) [D.int z.a,D.int z.b]=decide (c=z.a\/c=z.b):=by
      have:=kG c [z.a,z.b];simp only[List.map_cons,List.map_nil]at this;rw[this];simp
     simp only[bM,e2];by_cases kc:c=z.a\/c=z.b
     ·simp[kc,oC];exact aM (V _ S (F λh=>by have:=h.2 (λe=>k (.inl e)) λe=>k (.inr e);grind))
     ·simp[kc,oC];exact nx _ _ ⟨⟨_,_,rfl⟩,S,o,step ⟨f,λ_ _=>by grind⟩⟩
  ·rintro Z B ⟨⟨a6,a7,rfl⟩,P,m,Q⟩;have inr:o4 L i j:=A.mpr ⟨ew,n1,n2,c,C,λhb' =>?_,λk z hz G H=>?_⟩
   ·simp[mI,sD,oY,aT];refine⟨by lia,?_⟩;show eS _ _ _ _ _ _ ([x.a,x.b,y.a,y.b].map D.int) [] B;refine rH D.int (λn=>decide (n≠c)) id D.int _ trivial (λn hn N M0 v l=>?_) ?_
    ·simp[gB,d9 m,J,oC];by_cases T:n=c
     ·simp[T]at*;exact l
     ·simp[T]at*;exact v
    have ef:[x.a,x.b,y.a,y.b].filter (λn=>decide (n≠c))=[dO x c,dO y c]:=by
     have h:=fH.mp C;simp only[List.filter_cons,List.filter_nil,decide_eq_true_eq,dO]
     grind
    rw[ef];have ne:=GC C n1 n2;refine⟨_,_,rfl,by simp[iI];rfl,by simp,.inl ⟨.i,λd hd=>by simp at hd;rcases hd with rfl | rfl <;> rfl⟩,λds' pm so=>?_⟩;obtain⟨ns,pn,rfl⟩:=eD D.int pm [dO x c,dO y c] rfl;have T:=wY (pn.symm.nodup (by simpa using ne)) (λn=>by rw[pn.mem_iff];simp) (by rw[List.pairwise_map]at so;exact so.imp λh=>lxi _ _ h) ne;subst T;simp[mH,IM,aT];obtain⟨x2,x3,x4,x5,x0,x1⟩:=m5 x;obtain⟨y2,y3,y4,y5,y0,y1⟩:=m5 y;simp[x4,x5,y5];refine⟨by lia,by lia,by lia,aM ?_⟩;have hne:¬(x.a=y.a/\x.b=y.b):=by have h:=fH.mp C;grind
    have p4:bB mh (B ++[MO.lst [D.int (dO x c),D.int (dO y c)],MO.lst [D.int (min (dO x c) (dO y c)),D.int (max (dO x c) (dO y c))]]):=by
     have:=(P.push (MO.lst [D.int (dO x c),D.int (dO y c)])).push (MO.lst [D.int (min (dO x c) (dO y c)),D.int (max (dO x c) (dO y c))]);simpa using this
    have:=q1 _ p4 (.inr inr);simpa[made,hne,sD,IP C] using this
   ·rcases hb' with ⟨p,K,e⟩ | ⟨z,hz,e⟩
    ·exact O (aBd.mpr ⟨p,K,e⟩)
    ·obtain⟨k,hk⟩:=aC3.mp hz;exact(Q k z (by rw[cO,List.length_map];exact(aB2.mp hk).1) hk).1 e.symm
   ·exact(Q k z (by rw[cO,List.length_map];exact(aB2.mp hz).1) hz).2 G H
theorem HU(w:Wf L)(k:i<j)(u:L.ss[i]? =some x)(v:L.ss[j]? =some y)(H:∀M,bB mh M->t8 L i j->R (sD (made x y)) M)(E:∀M,bB mh M->¬t8 L i j->R .bF M)
  (es:x.s=y.s) (F:x.g=y.g) (l:¬b7 x y):
  h9 (En mh R) [some (lD L),some (.int (i:Nat)),some (.int (j:Nat)),some (sD x),some (sD y),none,none,none,none] mh:=by
 have sz:=aBk;have z:=kB w k u v es F
 have m:¬o4 L i j->¬t8 L i j:=λh t=>by
  rcases t with ⟨W,X,d,e,A⟩ | t
  ·rw[u]at d;cases d;rw[v]at e;cases e;exact l A
  ·exact h t
 obtain⟨I,J,K,Y,Z,x1⟩:=m5 x;obtain⟨O,P,Q,y5,y0,y1⟩:=m5 y
 have none:¬(x.w=y.w/\x.a≠x.b/\y.a≠y.b/\∃c,l9 x y=[c])->∀M,bB mh M->R .bF M:=λh M p=>E M p (m λt=>h (by
  obtain⟨d,e,A,c,S,_⟩:=z.mp t
  exact⟨d,e,A,c,S⟩))
 simp[h9,sD,K,Q,I,J,O,P,oC];by_cases f:x.w=y.w
 ·by_cases o:x.a=x.b
  ·rw[if_pos f,if_pos o];exact aM (none (λh=>h.2.1 o) _ bB.refl)
  ·by_cases q:y.a=y.b
   ·rw[if_pos f,if_neg o,if_pos q];exact aM (none (λh=>h.2.2.1 q) _ bB.refl)
   ·rw[if_pos f,if_neg o,if_neg q];simp[mK,oY,aT];show eS _ _ _ _ _ _ ([x.a,x.b].map D.int) [] mh;refine rH D.int (λn=>decide (n=y.a) || decide (n=y.b)) id D.int _ trivial (λn hn N M0 d e=>?_) ?_
    ·simp[gB,oY];refine⟨[.int y.a,.int y.b],rfl,by simp[bM,bare],by simp[eR],?_⟩
     have T:inD (D.int n) [D.int y.a,D.int y.b]=decide (n=y.a\/n=y.b):=by
      have:=kG n [y.a,y.b];simp only[List.map_cons,List.map_nil]at this;rw[this];simp
     simp only[bM,T];by_cases r:n=y.a\/n=y.b
     ·simp[r,oC];exact d (by simpa using r)
     ·simp[r,oC];exact e (by simpa using r)
    have U:([x.a,x.b].filter (λn=>decide (n=y.a) || decide (n=y.b)))=l9 x y:=rfl;rw[U,List.map_id];have B:(mh++[MO.lst ((l9 x y).map D.int)])[mh.length]? =some (.lst ((l9 x y).map D.int)):=by simp
    by_cases C:∃c,l9 x y=[c]
    ·obtain⟨c,G⟩:=C;rw[G]at B⊢;have:=SX (M:=mh++[MO.lst [.int c]]) (a6:=Option.none) (a7:=Option.none) (a8:=Option.none) w k u v H E es F l f o q G ⟨_,rfl⟩ B;simpa[sD] using this
    ·have V:(l9 x y).length≠1:=λh=>C (List.length_eq_one_iff.mp h);simp[eW,zS B,oC];rw[if_neg (by exact_mod_cast V)];exact aM (none (λh=>C h.2.2.2) _ ⟨_,rfl⟩)
 ·rw[if_neg f];exact aM (none (λh=>f h.1) _ bB.refl)
theorem W7(ds:List D)(mh:MH)(R:DK)(ok:j4 mh)(hs:KC ds mh R):iA (En mh R) (aK ["_law_some","_law_i","_law_j","_law_one","_law_other","_law_common","_law_k","_law_switch","_law_ends_there"] ds) mh:=by
 obtain⟨L,i,j,x,y,rfl,w,d,f,k,p,n⟩:=hs;have sz:=aBk;obtain⟨J,K,v,A,B,x1⟩:=m5 x;obtain⟨M,N,C,E,y0,F⟩:=m5 y;have G:∀a b c:D,hX [a,b,c] 2=some c:=λ_ _ _=>rfl;have O:∀a b c:D,hX [a,b,c] 1=some b:=λ_ _ _=>rfl;have H:=kB w d f k
 have q:YT L i j↔b7 x y:=by
  constructor
  ·rintro⟨P,Q,r,u,I⟩;rw[f]at r;cases r;rw[k]at u;cases u;exact I
  ·exact λh=>⟨x,y,f,k,h⟩
 simp[iA,aK,lD,G,qV f,qV k,mM];refine⟨by lia,?_⟩;simp[sD,B,y0,x1,F,oC,zJ,bM,bare,deep,fX];by_cases es:x.s=y.s
 ·by_cases m:x.g=y.g
  ·rw[if_pos es,if_pos m];simp[mL,oY,A,E,oC,OU,v,C];refine⟨by simp[cZ,bare],by simp[cZ,bare],by simp[jY,deep],?_⟩;by_cases h:x.a=y.a/\x.b=y.b
   ·have e:cY [D.int x.a,D.int x.b] [D.int y.a,D.int y.b]=true:=by simp[cY,fX,h]
    rw[if_pos e];by_cases o:x.l=y.l
    ·rw[if_pos o];refine⟨by lia,by lia,aM ?_⟩;have:=p mh bB.refl (.inl (q.mpr ⟨es,m,h.1,h.2,o⟩));simpa[made,h,sD] using this
    ·rw[if_neg o];exact HU w d f k p n es m λz=>o z.2.2.2.2
   ·have e:¬cY [D.int x.a,D.int x.b] [D.int y.a,D.int y.b]=true:=by simp[cY,fX];grind
    rw[if_neg e];exact HU w d f k p n es m λz=>h ⟨z.2.2.1,z.2.2.2.1⟩
  ·rw[if_pos es,if_neg m];exact aM (n _ bB.refl λt=>m (zM w d f k t).2.2)
 ·rw[if_neg es];exact aM (n _ bB.refl λt=>es (zM w d f k t).2.1)
theorem vL{α:Type}:∀(l:List α) (j:Nat) (a:α),l[j]? =some a->(a::l.eraseIdx j).Perm l
 | b::l,0,a,h=>by simp at h;subst h;simp
 | b::l,j+1,a,h=>by
  simp only[List.eraseIdx_cons_succ];exact(List.Perm.swap _ _ _).trans ((vL l j a (by simpa using h)).cons b)
theorem DC{x y d:Sw}(a:i<j)(b:ss[i]? =some x)(c:ss[j]? =some y):
  (((List.range ss.length).filter λk=>decide (k≠i) && decide (k≠j)).map λk=>ss.getD k d).Perm (restOf ss i j):=by
 have r:=(aB2.mp b).1;have s:=(aB2.mp c).1
 have l:(i::j::(List.range ss.length).filter λk=>decide (k≠i) && decide (k≠j)).Perm (List.range ss.length):=by
  refine(aD9 ?_ aEb).mpr λk=>?_
  ·rw[List.nodup_cons,List.nodup_cons];refine⟨?_,?_,List.Nodup.sublist List.filter_sublist aEb⟩
   ·simp;lia
   ·simp
  ·simp;lia
 have f:=l.map λk=>ss.getD k d
 have e:(List.range ss.length).map (λk=>ss.getD k d)=ss:=by
  apply aD5;intro n;rw[List.getElem?_map];rcases aCd n ss.length with h | h
  ·rw[List.getElem?_range h];simp[List.getD,h]
  ·simp[h]
 rw[e]at f;have ex:ss.getD i d=x:=by simp[List.getD,b]
 have m:ss.getD j d=y:=by simp[List.getD,c]
 simp only[List.map_cons,ex,m]at f;have o:=vL ss j y c;have g:(ss.eraseIdx j)[i]? =some x:=by rw[List.getElem?_eraseIdx,if_pos a];exact b
 have p:=vL (ss.eraseIdx j) i x g;have q:(x::y::restOf ss i j).Perm ss:=(List.Perm.swap _ _ _).trans ((p.cons y).trans o);exact List.perm_cons y |>.mp (List.perm_cons x |>.mp (f.trans q.symm))
def oJ:OA:=λds mh Q=>∃L:Li,ds=[lD L]/\Wf L/\(∀M N,bB mh M->Step L N->Q (lD N) M)/\∀M,bB mh M->gH L->Q .bF M
theorem S5(ds:List D)(mh:MH)(R:DK)(ok:j4 mh)(hs:oJ ds mh R):fP KC (En mh R) (aK ["_law_some","_law_switches","_law_i","_law_j","_law_made_one","_law_rest"] ds) mh:=by
 obtain⟨L,rfl,w,Z,q2⟩:=hs;have sz:=aBk;have ws:=w.s;have l2:∀a b c:D,hX [a,b,c] 2=some c:=λ_ _ _=>rfl;have l1:∀a b c:D,hX [a,b,c] 1=some b:=λ_ _ _=>rfl;have l0:∀a b c:D,hX [a,b,c] 0=some a:=λ_ _ _=>rfl;simp[fP,aK,lD,l2,kZ];refine⟨by lia,?_⟩;refine bZ (λi p M=>(∃E q r u,p=[some (lD L),some (.tup (L.ss.map sD)),E,q,r,u])/\bB mh M/\∀g j',g<i->g<j' ->¬t8 L g j') _ (λ_ _ _ _=>trivial) ?_ ?_ ⟨⟨_,_,_,_,rfl⟩,bB.refl,λg j' h=>absurd h (by simp)⟩
 ·rintro i d p M N hi ⟨⟨E,q,r,u,rfl⟩,F,A⟩ nx;obtain⟨G,rfl⟩:=eY hi;have e0:(0:Int)+(i:Nat)=(i:Nat):=by lia
  rw[e0];simp[jE];refine⟨_,_,⟨rfl,rfl⟩,by lia,by lia,by lia,by lia,by lia,?_⟩;rw[show ((L.ss.length:Int)-((i:Nat)+1)).toNat=L.ss.length-(i+1) by lia];refine bZ (λk p M=>(∃q r u,p=[some (lD L),some (.tup (L.ss.map sD)),some (.int (i:Nat)),q,r,u])/\bB mh M/\∀j',i<j' ->j'<i+1+k->¬t8 L i j') _ (λ_ _ _ _=>trivial) ?_ ?_ ⟨⟨_,_,_,rfl⟩,F,λj' l o=>by lia⟩
  ·rintro k d p M N2 hk ⟨⟨q,r,u,rfl⟩,B,f⟩ H;obtain⟨hkl,rfl⟩:=eY hk;have I:((i:Nat):Int)+1+(k:Nat)=((i+1+k:Nat):Int):=by lia
   rw[I];have W:i+1+k<L.ss.length:=by lia
   obtain⟨x,J⟩:∃x,L.ss[i]? =some x:=⟨_,aBr G⟩
   obtain⟨y,K⟩:∃y,L.ss[i+1+k]? =some y:=⟨_,aBr W⟩
   unfold jD;simp only[VA];simp;refine⟨L,i,i+1+k,x,y,by simp,w,by lia,J,K,λM2 O t=>?_,λM2 O nt=>?_⟩
   ·have X:zG L i (i+1+k):=⟨by lia,t,A,λj' l o=>f j' l (by lia)⟩
    simp[dR,gW,oQ,sD];refine⟨by lia,?_⟩;refine rG (λn P e =>bB M2 e /\P=(((List.range n).filter λm=>decide (m≠i) && decide (m≠i+1+k)).map λm=>L.ss.getD m x).map sD) _ (λ_ _ _ _=>trivial) ?_ ?_ ⟨bB.refl,by simp⟩
    ·rintro n d P e N3 hn ⟨C,rfl⟩ v;obtain⟨Q,rfl⟩:=eY hn;have hz:L.ss[n]? =some (L.ss.getD n x):=by simp[List.getD,Q]
     have e2:(0:Int)+(n:Nat)=(n:Nat):=by lia
     rw[e2];simp[gB];refine⟨by lia,[.int (i:Nat),.int ((i:Nat)+1+(k:Nat))],by simp[aT],by simp[bM,bare],by simp[eR],?_⟩
     have I:inD (D.int (n:Nat)) [D.int (i:Nat),D.int ((i:Nat)+1+(k:Nat))]=decide (n=i\/n=i+1+k):=by
      have:=kG (n:Nat) [(i:Nat),(i:Nat)+1+(k:Nat)];simp only[List.map_cons,List.map_nil]at this;rw[this];simp
      lia
     simp only[bM,I];by_cases h:n=i\/n=i+1+k
     ·simp[h,oC];refine v _ _ ⟨C.push _,?_⟩;rw[List.range_succ,List.filter_append];have:(decide (n≠i) && decide (n≠i+1+k))=false:=by simp;grind
      have S:List.filter (λm=>decide (m≠i) && decide (m≠i+1+k)) [n]=[]:=by rw[List.filter_cons,this];simp
      rw[S,List.append_nil];simp
     ·simp[h,oC];rw[qV hz];simp only[bK];refine v _ _ ⟨C.push _,?_⟩;rw[List.range_succ,List.filter_append];have:(decide (n≠i) && decide (n≠i+1+k))=true:=by simp;grind
      have S:List.filter (λm=>decide (m≠i) && decide (m≠i+1+k)) [n]=[n]:=by rw[List.filter_cons,this];simp
      rw[S,List.map_append,List.map_append];simp
    ·rintro P e ⟨C,rfl⟩;have T:=DC (d:=x) (by lia) J K;simp only[dF,List.length_map,List.length_range]at*;generalize (((List.range L.ss.length).filter λm=>decide (m≠i) && decide (m≠i+1+k)).map λm=>L.ss.getD m x)=rs at T⊢;have hl:=qI X.1 W;have rl:=T.length_eq;simp[lD,l0,l1];refine⟨by lia,?_⟩;have l:(e ++[MO.lst (rs.map sD),MO.lst [sD (made x y)]])[e.length]? =some (.lst (rs.map sD)):=by simp
     have o:(e ++[MO.lst (rs.map sD),MO.lst [sD (made x y)]])[e.length+1]? =some (.lst [sD (made x y)]):=by simp
     have Y:bB mh (e ++[MO.lst (rs.map sD),MO.lst [sD (made x y)]]):=((B.trans O).trans C).trans ⟨_,rfl⟩;show bN _ _ (e ++[MO.lst (rs.map sD),MO.lst [sD (made x y)]]) _;generalize e ++[MO.lst (rs.map sD),MO.lst [sD (made x y)]]=M5 at l o Y⊢;rw[qH l o];refine⟨by simp;lia,_,(rs++[made x y]).map sD,rfl,by simp[iI],by simp;lia,uI _,λds' pm so=>?_⟩;obtain⟨U,ps,rfl⟩:=eD sD pm _ rfl;simp[aT];refine⟨by lia,aM ?_⟩
     have st:Step L ⟨L.m,L.ns,U⟩:=⟨i,i+1+k,x,y,X,J,K,rfl,rfl,ps.trans (T.append_right _),so⟩
     exact Z _ _ (Y.trans ⟨_,rfl⟩) st
   ·simp[dR,gW,oQ];refine H _ _ ⟨⟨_,_,_,rfl⟩,B.trans O,λj' l o=>?_⟩;rcases aCd j' (i+1+k) with z | z
    ·exact f j' l z
    ·have:j' =i+1+k:=by lia
     subst this;exact nt
  ·rintro p M ⟨⟨q,r,u,rfl⟩,B,f⟩;refine nx _ _ ⟨⟨_,_,_,_,rfl⟩,B,λg j' l o t=>?_⟩;rcases aCd g i with z | z
   ·exact A g j' z o t
   ·have:g =i:=by lia
    subst this;have:=qA t;refine f j' o ?_ t;simp
    lia
 ·rintro p M ⟨⟨E,q,r,u,rfl⟩,F,A⟩;simp[kY];refine aM (q2 _ F λi j V t=>A i j ?_ V t);have:=qA t;simpa using this.1
theorem ix2{x y r:Int}(h0:0<=r)(a:r<2):∃v,hX [D.int x,.int y] r=some (.int v)/\(v=x\/v=y):=by
 have:r=0\/r=1:=by lia
 rcases this with rfl | rfl
 ·exact⟨x,XQ _ _,.inl rfl⟩
 ·exact⟨y,zB _ _ _,.inr rfl⟩
theorem ix3{x y z r:Int}(h0:0<=r)(a:r<3):∃v,hX [D.int x,.int y,.int z] r=some (.int v)/\(v=x\/v=y\/v=z):=by
 have:r=0\/r=1\/r=2:=by lia
 rcases this with rfl | rfl | rfl
 ·exact⟨x,XQ _ _,.inl rfl⟩
 ·exact⟨y,zB _ _ _,.inr (.inl rfl)⟩
 ·exact⟨z,by have:=kJ (xs:=[D.int x,.int y,.int z]) (j:=2) (v:= .int z) rfl;simpa using this,.inr (.inr rfl)⟩
theorem A1{z:Str}{r:Int}{Q:DK}(h0:0<=r)(a:r<z.cps.toList.length)(hz:z.length<=1000)(q:∀c,Q (.str ⟨#[c]⟩) mh):b9 (.str z) (.int r) mh Q:=by
 refine⟨r,rfl,by rw[sizeLine_eq];lia,z.cps.toList[r.toNat]'(by lia),?_,q _⟩;have e:r=((r.toNat:Nat):Int):=by lia
 have:=kJ (xs:=z.cps.toList) (j:=r.toNat) (v:=z.cps.toList[r.toNat]'(by lia)) (aBr (by lia));rw[<-e]at this;exact this
theorem OX:∀{l:List D},(∀d∈l,∃w n,d= .tup [.str w,.int n])->∃ns:List Nm,l=ns.map nD
 | [],_=>⟨[],rfl⟩
 | d::r,h=>by
  obtain⟨w,n,rfl⟩:=h d aB6;obtain⟨ns,rfl⟩:=OX λe he=>h e (aB7 _ he);exact⟨(w,n)::ns,rfl⟩
theorem OW:∀{l:List D},(∀d∈l,∃s g a b w n,d= .tup [.str s,.int g,.int a,.int b,.int w,.int n]/\a<=b)->∃ss:List Sw,l=ss.map sD/\∀x∈ss,x.a<=x.b
 | [],_=>⟨[],rfl,by simp⟩
 | d::r,h=>by
  obtain⟨s,g,a,b,w,n,rfl,c⟩:=h d aB6;obtain⟨ss,rfl,f⟩:=OW λe he=>h e (aB7 _ he);exact⟨⟨s,g,a,b,w,n⟩::ss,rfl,λx hx=>by rcases aBa.mp hx with rfl | hx;exact c;exact f x hx⟩
theorem BQ:∀{a:List Str},(∀y∈a,y.length=1)->(a.map λy=>y.length).sum=a.length
 | [],_=>rfl
 | y::r,h=>by
  simp only[List.map_cons,List.sum_cons,List.length_cons,h y List.mem_cons_self,BQ λz hz=>h z (List.mem_cons_of_mem _ hz)];lia
theorem FP{n:Nat}:∀{ds:List D},(∀d∈ds,eB n d=true)->cC n ds=true
 | [],_=>by simp[cC]
 | d::ds,h=>by simp[cC,h d (by simp),FP (ds:=ds) λe he=>h e (by simp[he])]
theorem CJ(n:Nat)(l:Li):eB n (lD l)=true:=by
 simp only[lD,eB,cC,Bool.and_true,Bool.true_and,Bool.and_eq_true];refine⟨FP λd hd=>?_,FP λd hd=>?_⟩
 ·obtain⟨p,_,rfl⟩:=aBd.mp hd;rfl
 ·obtain⟨p,_,rfl⟩:=aBd.mp hd;rfl
def JF(kvs:List (D×D)):Prop:=∀p∈kvs,∃w n,p.1= .tup [.str w,.int n]
def XW(es:List D):Prop:=∀d∈es,∃s g a b w n,d= .tup [.str s,.int g,.int a,.int b,.int w,.int n]/\a<=b
def UL(c:Nat)(l:Li):Prop:=l.ns.length<=3/\l.ss.length<=c/\(∀x∈l.ss,x.a<=x.b)/\1<=l.m/\l.m<=8
theorem MP{mh mh' :MH}{b f h j:Nat}{m:Int}(m0:1<=m)(m1:m<=8){x1 B C E F G k o r:Option D}(ok:j4 mh)(sl:j<=14)(q:∀(l:Li) mh',UL j l->c5 mh b mh' ->R (lD l) mh')(H:cR mh b mh'){es:List D}
  (hd:mh'[f]? =some (.dic true kvs)) (hk:JF kvs) (I:kvs.length<=3) (hs:mh'[h]? =some (.lst es)) (he:XW es) (J:es.length<=j):
  fZ eO (En mh R) [some (.ref b),x1,B,C,some (.int m),E,some (.ref f),F,G,some (.ref h),k,o,r] mh' :=by
 have sz:=aBk;simp[fZ];refine⟨f,true,kvs,rfl,hd,by lia,?_,λfs z s1=>?_⟩
 ·refine .inr ⟨.s,[.i],λd hd=>?_⟩;obtain⟨p,u,rfl⟩:=aBd.mp hd;obtain⟨w,n,e⟩:=hk p u;exact⟨_,e,rfl⟩
 simp[aT];refine⟨.ref h,es,rfl,by simp[iI,aI hs],by lia,?_,λgs A s2=>?_⟩
 ·refine .inr ⟨.s,[.i,.i,.i,.i,.i],λd hd=>?_⟩;obtain⟨s,g,a,c,w,n,rfl,_⟩:=he d hd;exact⟨_,rfl,rfl⟩
 simp[aT]
 obtain⟨ns,rfl⟩:=OX (l:=fs) λd hd=>by
  obtain⟨p,u,e⟩:=aBd.mp (z.mem_iff.mp hd);obtain⟨w,n,K⟩:=hk p u;exact⟨w,n,by rw[<-e,K]⟩
 obtain⟨ss,rfl,v⟩:=OW (l:=gs) λd hd=>he d (A.mem_iff.mp hd);have L:=z.length_eq;have M:=A.length_eq;simp at L M
 have x:cR mh b (mh' ++[.lst (ns.map nD),.lst (ss.map sD)]):=by
  have:=(H.push (.lst (ns.map nD))).push (.lst (ss.map sD));simpa using this
 exact⟨by lia,x.out ok (CJ _ ⟨m,ns,ss⟩) λy t=>q ⟨m,ns,ss⟩ y ⟨by simp;lia,by simp;lia,v,m0,m1⟩ t⟩
theorem MQ{mh mh' :MH}{b t w sm:Nat}{m A:Int}{x1 x2 x7 x8:Option D}(ok:j4 mh)(sl:sm<=14)(q:∀(l:Li) mh',UL sm l->c5 mh b mh' ->R (lD l) mh')(be:cR mh b mh')(m0:1<=m)(m1:m<=8)(l0:1<=A)(l1:A<=8)
  (h:mh.length<=t) (hd:mh'[t]? =some (.dic true kvs)) (hk:JF kvs) (hkl:kvs.length<=3) (f:mh.length<=w) (hne:t≠w) (hs:mh'[w]? =some (.lst [])):
  f6 eO (En mh R) [some (.ref b),x1,x2,some (.int (sm:Nat)),some (.int m),some (.int A),some (.ref t),x7,x8,some (.ref w),none,none,none] mh' :=by
 have sz:=aBk;simp[f6];refine cG be (by lia) (by lia) λcnt mh1 c0 c1 be1 ln1 g1=>?_;simp;refine⟨by lia,by lia,?_⟩;refine bZ (λi ρ n=>(∃x7 G H I,ρ=[some (.ref b),x1,x2,some (.int (sm:Nat)),some (.int m),some (.int A),some (.ref t),x7,x8,some (.ref w),G,H,I])/\cR mh b n/\n[t]? =some (.dic true kvs)/\∃es,n[w]? =some (.lst es)/\XW es/\es.length<=i) _ (λ_ _ _ _=>trivial) ?_ ?_ ⟨⟨_,_,_,_,rfl⟩,be1,by rw[g1 _ h];exact hd,[],by rw[g1 _ f];exact hs,λd hd=>by simp at hd,by simp⟩
 ·rintro i d ρ n N hi ⟨⟨x7,G,H,I,rfl⟩,J,K,es,L,O,hl2⟩ nx;obtain⟨hi,rfl⟩:=eY hi;simp[jF];refine cG J (by lia) (by lia) λP mh3 a0 a1 be3 ln3 g3=>?_;refine cG be3 (by lia) (by lia) λQ k b0 b1 be4 ln4 g4=>?_;have hd4:k[t]? =some (.dic true kvs):=by rw[g4 _ h,g3 _ h];exact K
  have hs4:k[w]? =some (.lst es):=by rw[g4 _ f,g3 _ f];exact L
  refine⟨by lia,.ref k.length,_,rfl,by simp[iI];rfl,by simp,.inl ⟨.i,λd hd=>by simp at hd;rcases hd with rfl | rfl <;> rfl⟩,λtwo pt so=>?_⟩
  obtain⟨u,v,rfl⟩:∃u v,two=[D.int u,.int v]:=by
   have hl:=pt.length_eq
   match two,hl with
   | [x,y],_=>
    have hx:=pt.mem_iff.mp (aB6 (a:=x));have hy:=pt.mem_iff.mp (aB7 x (aB6 (a:=y) (l:=[])));simp at hx hy;rcases hx with rfl | rfl <;> rcases hy with rfl | rfl <;> exact⟨_,_,rfl⟩
  have huv:u<=v:=by simp at so;exact lxi _ _ so
  have be5:=(be4.push (.lst [D.int P,.int Q])).push (.lst [D.int u,.int v]);have hd5:=aI (x:= .lst [D.int u,.int v]) (aI (x:= .lst [D.int P,.int Q]) hd4);have hs5:=aI (x:= .lst [D.int u,.int v]) (aI (x:= .lst [D.int P,.int Q]) hs4);have S:=eF (k++[.lst [D.int P,.int Q]]) (.lst [D.int u,.int v]);have g:mh.length<=(k++[MO.lst [D.int P,.int Q]]).length:=by have:=be4.le;simp;lia
  generalize (k++[MO.lst [D.int P,.int Q]]).length=tr at S g⊢;generalize k++[MO.lst [D.int P,.int Q]]++[MO.lst [D.int u,.int v]]=mh5 at be5 hd5 hs5 S⊢;simp[gO];refine⟨by lia,?_⟩;refine rG (λj ys e=>cR mh b e/\e[t]? =some (.dic true kvs)/\e[w]? =some (.lst es)/\e[tr]? =some (.lst [D.int u,.int v])/\∃T:List Int,ys=T.map .int/\T.length=j) _ (λ_ _ _ _=>trivial) ?_ ?_ ⟨be5,hd5,hs5,S,[],rfl,rfl⟩
  ·rintro j d ys e M hj ⟨o,U,V,W,T,rfl,hj2⟩ nx2;simp[gB];refine⟨NC (by lia) (by lia) (by lia) (by lia),by lia,cG (o.push _) (by lia) (by lia) λr3 mh7 e0 e1 B ln7 g7=>?_⟩;have hle6:mh.length<=e.length:=o.le;have hx:mh7[e.length]? =some (.lst [D.int 2,.int 3,.int (2^21)]):=by rw[g7 _ hle6];simp
   rw[d9 (by simpa using hx)];obtain⟨v3,hv3,X⟩:=ix3 (x:=2) (y:=3) (z:=2^21) e0 e1;simp only[show (2:Int)^21=2097152 from rfl]at hv3 X;simp only[hv3,bK];refine cG B (by rcases X with rfl | rfl | rfl <;> lia) (by rcases X with rfl | rfl | rfl <;> lia) λr4 mh8 f0 f1 Y ln8 C=>?_;rw[uH];refine nx2 _ _ ⟨Y,?_,?_,?_,T++[1+r4],by simp,by simp[hj2]⟩
   ·rw[C _ h,g7 _ h];exact aI U
   ·rw[C _ f,g7 _ f];exact aI V
   ·rw[C _ g,g7 _ g];exact aI W
  ·rintro ys e ⟨o,U,V,W,T,rfl,F⟩
   obtain⟨p,s,rfl⟩:∃p s,T=[p,s]:=by
    simp at F
    match T,F with
    | [p,s],_=>exact⟨p,s,rfl⟩
   have B:=o.push (.lst ([p,s].map D.int));have hd7:=aI (x:= .lst ([p,s].map D.int)) U;have Z:=aI (x:= .lst ([p,s].map D.int)) V;have ht7:=aI (x:= .lst ([p,s].map D.int)) W;have hw7:=eF e (.lst ([p,s].map D.int));have r:mh.length<=e.length:=o.le;generalize e.length=wr at hw7 r⊢;generalize e++[MO.lst ([p,s].map D.int)]=mh7 at B hd7 Z ht7 hw7⊢;simp[gM];refine cG B (by lia) (by lia) λr5 mh8 e0 e1 Y ln8 C=>?_;refine A1 e0 (by exact e1) (by decide) λc=>?_;simp[gL,AL];refine⟨⟨es,by rw[C _ f];exact Z⟩,cG Y (by lia) (by lia) λr6 E f0 f1 be9 ln9 g9=>?_⟩;have hs9:E[w]? =some (.lst es):=by rw[g9 _ f,C _ f];exact Z
   have hd9:E[t]? =some (.dic true kvs):=by rw[g9 _ h,C _ h];exact hd7
   have ht9:E[tr]? =some (.lst [D.int u,.int v]):=by rw[g9 _ g,C _ g];exact ht7
   have hw9:E[wr]? =some (.lst [D.int p,.int s]):=by rw[g9 _ r,C _ r];simpa using hw7
   simp[d9 ht9,d9 hw9,zB];refine⟨by lia,?_⟩;rw[zT hs9];refine⟨by lia,nx _ _ ⟨⟨_,_,_,_,rfl⟩,be9.set f _,get_set hd9 (λz=>hne z.symm),_,cI _ hs9,?_,by simp;lia⟩⟩;intro d hd;rcases aBn.mp hd with hd | hd
   ·exact O d hd
   ·simp at hd;subst hd;exact⟨_,_,_,_,_,_,rfl,huv⟩
 ·rintro ρ n ⟨⟨x7,G,H,I,rfl⟩,J,K,es,L,O,hl2⟩;exact MP m0 m1 ok sl q J K hk hkl L O (by simp at hl2;lia)
theorem MR{mh mh' :MH}{b k H:Nat}{f o:Int}{x1:Option D}(ok:j4 mh)(sl:H<=14)(q:∀(l:Li) mh',UL H l->c5 mh b mh' ->R (lD l) mh')(be:cR mh b mh')(m0:1<=f)(m1:f<=8)(l0:1<=o)(l1:o<=8)
  (a:mh.length<=k) (hd:mh'[k]? =some (.dic true [])):
  f7 eO (En mh R) [some (.ref b),x1,some (.int 3),some (.int (H:Nat)),some (.int f),some (.int o),some (.ref k),none,none,none,none,none,none] mh' :=by
 have sz:=aBk;simp[f7];refine cG be (by lia) (by lia) λcnt mh1 c0 c1 I ln1 g1=>?_;simp;refine⟨by lia,by lia,?_⟩;refine bZ (λi J e=>(∃K L,J=[some (.ref b),x1,some (.int 3),some (.int (H:Nat)),some (.int f),some (.int o),some (.ref k),K,L,none,none,none,none])/\cR mh b e/\∃kvs,e[k]? =some (.dic true kvs)/\JF kvs/\kvs.length<=i) _ (λ_ _ _ _=>trivial) ?_ ?_ ⟨⟨_,_,rfl⟩,I,[],by rw[g1 _ a];exact hd,λd hd=>by simp at hd,by simp⟩
 ·rintro i d J e N hi ⟨⟨K,L,rfl⟩,m,kvs,r,t,B⟩ nx;obtain⟨hi,rfl⟩:=eY hi;simp[jG,AL];refine⟨by lia,cG (m.push _) (by lia) (by lia) λr1 C a0 a1 O ln3 g3=>?_⟩;have hx:C[e.length]? =some (.lst [D.int 2,.int 8]):=by rw[g3 _ m.le];simp
  have P:C[k]? =some (.dic true kvs):=by rw[g3 _ a];exact aI r
  rw[d9 hx];obtain⟨v,hv,u⟩:=ix2 (x:=2) (y:=8) a0 a1;simp only[hv,bK];refine cG O (by rcases u with rfl | rfl <;> lia) (by rcases u with rfl | rfl <;> lia) λr2 Q b0 b1 S ln4 g4=>?_;have T:Q[k]? =some (.dic true kvs):=by rw[g4 _ a];exact P
  have hr2:r2<8:=by rcases u with rfl | rfl <;> lia
  rw[uH];simp;refine⟨by lia,by lia,?_⟩;refine rG (λj U g=>cR mh b g/\g[k]? =some (.dic true kvs)/\∃n:List Str,U=n.map .str/\n.length=j/\∀z∈n,z.length=1) _ (λ_ _ _ _=>trivial) ?_ ?_ ⟨S,T,[],rfl,rfl,by simp⟩
  ·rintro j d U g M hj ⟨w,A,n,rfl,V,hz⟩ W;simp[gB];refine cG w (by lia) (by lia) λr3 X e0 e1 s ln6 g6=>?_;refine A1 e0 (by exact e1) (by decide) λc=>?_;refine W _ _ ⟨s,by rw[g6 _ a];exact A,n++[⟨#[c]⟩],by simp,by simp[V],λz Y=>?_⟩;rcases aBn.mp Y with h | h
   ·exact hz z h
   ·simp at h;subst h;rfl
  ·rintro U g ⟨w,A,n,rfl,E,hz⟩;refine⟨_,_,n,rfl,rfl,eF g _,?_,?_⟩
   ·rw[BQ hz];have:(Str.ofString "").length=0:=by decide
    rw[this];simp at E
    lia
   ·simp[BI];have s:=w.push (.lst (n.map D.str));have F:=aI (x:= .lst (n.map D.str)) A;generalize g++[MO.lst (n.map D.str)]=X at s F⊢;refine cG s (by lia) (by lia) λr4 Z f0 f1 be7 ln7 g7=>?_;have G:Z[k]? =some (.dic true kvs):=by rw[g7 _ a];exact F
    refine⟨k,kvs,[.inr _,.inl r4],rfl,G,rfl,by simp;lia,by lia,nx _ _ ⟨⟨_,_,rfl⟩,be7.set a _,_,cI _ G,?_,?_⟩⟩
    ·intro p hp;rcases qL hp with h | h
     ·exact t p h
     ·exact⟨_,_,h.1⟩
    ·have:=eC kvs (.tup [.str (Txt.join (Str.ofString "") n),.int r4]) (.bl true);exact aBq this (by lia)
 ·rintro J e ⟨⟨K,L,rfl⟩,m,kvs,r,t,B⟩;simp[k6];have hsr:=eF e (.lst []);have hlt:k<e.length:=(aB2.mp r).1;exact MQ ok sl q (m.push _) m0 m1 l0 l1 a (aI r) t (by simp at B;lia) m.le (by lia) hsr
def oK:OA:=λds mh Q=>∃(b a:Nat),ds=[.ref b,.int 8,.int 3,.int (a:Nat)]/\a<=14/\BC mh b/\∀(l:Li) mh',UL a l->c5 mh b mh' ->Q (lD l) mh'
theorem S8(ds:List D)(mh:MH)(R:DK)(ok:j4 mh)(hs:oK ds mh R):fQ eO (En mh R) (aK ["_law_bag_here","_law_nets_most","_law_names_most","_law_switches_most","_law_many","_law_low_nets","_law_names","_law_turn","_law_word","_law_switches","_law_ends_there","_law_two_here","_law_sort"] ds) mh:=by
 obtain⟨b,t,rfl,sl,i,q⟩:=hs;have sz:=aBk;simp[fQ,aK];refine cG (.refl i) (by lia) (by lia) λm d m0 m1 a j u=>?_;simp[k9];refine⟨by lia,cG (a.push _) (by lia) (by lia) λw k l n e o p=>?_⟩;have h:=p d.length a.le;rw[eF]at h;rw[d9 h];obtain⟨v,hv,f⟩:=ix2 (x:=1+m) (y:=if 3<1+m then 3 else 1+m) l n
 have r:1<=v/\v<=8:=by
  rcases f with rfl | rfl
  ·lia
  ·split <;> lia
 simp only[hv,bK];refine cG e (by lia) (by lia) λz g A B c s C=>?_;simp[k7,mR];exact MR ok sl q (c.push _) (by lia) (by lia) (by lia) (by lia) c.le (eF g _)
theorem wH:∀(xs a:List Int),(∀d∈d5 (xs.map D.int) (a.map D.int),∃p q:Int,d= .tup [.int p,.int q])/\(d5 (xs.map D.int) (a.map D.int)).length<=a.length
 | [],a=>by simp[d5]
 | x::xs,[]=>by simp[d5]
 | x::xs,y::a=>by
  obtain⟨b,c⟩:=wH xs a;simp only[List.map_cons,d5,List.mem_cons,List.length_cons];exact⟨λd hd=>by rcases hd with rfl | hd;exact⟨x,y,rfl⟩;exact b d hd,by lia⟩
def N9:OA:=λds mh Q=>∃(b:Nat) (l:Li),ds=[.ref b,lD l]/\BC mh b/\UL 6 l/\∀(a :Li) mh',Wf a ->c5 mh b mh' ->Q (lD a) mh'
theorem D7(ds:List D)(mh:MH)(R:DK)(ok:j4 mh)(hs:N9 ds mh R):dG eO (En mh R) (aK ["_law_bag_here","_law_some","_law_many","_law_names","_law_switches","_law_turn","_law_ends_there","_law_steps","_law_row","_law_gate","_law_wide","_law_one","_law_other","_law_switch"] ds) mh:=by
 obtain⟨b,l,rfl,hb,⟨n3,s6,so,m0,m8⟩,q⟩:=hs;have sz:=aBk;simp[dG,aK,lD,gQ];refine cG (.refl hb) (by lia) (by lia) λcnt G c0 c1 be1 ln1 g1=>?_;simp;refine⟨by lia,by lia,?_⟩;refine bZ (λt P M=>∃(f:Int) (ss:List Sw) (a5 a6 a7 a8 a9 Q r s u:Option D),P=[some (.ref b),some (lD l),some (.int f),some (.tup (l.ns.map nD)),some (.tup (ss.map sD)),a5,a6,a7,a8,a9,Q,r,s,u]/\cR mh b M/\1<=f/\f<=8+3*(t:Nat)/\ss.length<=6+8*t/\∀x∈ss,x.a<=x.b) _ (λ_ _ _ _=>trivial) ?_ ?_ ⟨l.m,l.ss,_,_,_,_,_,_,_,_,_,rfl,be1,m0,by lia,by lia,so⟩
 ·rintro t d P M N hi ⟨f,ss,a5,a6,a7,a8,a9,Q,r,s,u,rfl,be,h1,h2,h3,h4⟩ nx;obtain⟨htl,rfl⟩:=eY hi;have ht:t<3:=by lia
  simp[fS];refine cG be (by lia) (by lia) λi mh3 a0 a1 be3 ln3 g3=>?_;refine cG be3 (by lia) (by lia) λz H b0 b1 be4 ln4 g4=>?_;refine⟨by lia,?_⟩;have be5:=be4.push (.lst [D.int i,.int z]);have S:=eF H (.lst [D.int i,.int z]);have I:mh.length<=H.length:=be4.le;generalize H.length=er at S I⊢;generalize H++[MO.lst [D.int i,.int z]]=mh5 at be5 S⊢;simp[eN];refine cG be5 (by lia) (by lia) λst j d0 d1 be6 ln6 g6=>?_;have T:j[er]? =some (.lst [D.int i,.int z]):=by rw[g6 _ I];exact S
  simp[eM,d9 T];refine⟨by lia,_,_,⟨rfl,rfl⟩,by lia,by lia,by lia,by lia,?_⟩;have ej:(f+(1+st)-1-f).toNat=st.toNat:=by lia
  rw[ej];have i1:(j++[MO.lst [D.int i],MO.lst (dF f st.toNat)])[j.length]? =some (.lst [D.int i]):=by simp
  have i2:(j++[MO.lst [D.int i],MO.lst (dF f st.toNat)])[j.length+1]? =some (.lst (dF f st.toNat)):=by simp
  have be7:cR mh b (j++[MO.lst [D.int i],MO.lst (dF f st.toNat)]):=by have:=(be6.push (.lst [D.int i])).push (.lst (dF f st.toNat));simpa using this
  have he7:(j++[MO.lst [D.int i],MO.lst (dF f st.toNat)])[er]? =some (.lst [D.int i,.int z]):=by rw[List.getElem?_append_left (List.getElem?_eq_some_iff.mp T).1];exact T
  generalize j++[MO.lst [D.int i],MO.lst (dF f st.toNat)]=U at i1 i2 be7 he7⊢;rw[qH i1 i2];refine⟨by simp;lia,?_⟩;have he8:=aI (x:=MO.lst ([D.int i]++dF f st.toNat)) he7;have V:=eF U (.lst ([D.int i]++dF f st.toNat));have W:=be7.push (.lst ([D.int i]++dF f st.toNat));generalize U.length=w8 at V⊢;generalize U++[MO.lst ([D.int i]++dF f st.toNat)]=A at he8 V W⊢;simp[d9 he8,zB];refine⟨by lia,?_⟩;rw[qH (aI V) (eF A (.lst [D.int z]))]
  have hx:∃xs:List Int,[D.int i]++dF f st.toNat++[D.int z]=xs.map D.int/\xs.length<=5:=by
   refine⟨[i]++(List.range st.toNat).map (λk=>f+(k:Nat))++[z],by simp[dF],by simp;lia⟩
  obtain⟨xs,ex,xl⟩:=hx;rw[ex];refine⟨by simp;lia,?_⟩;have be9:=(W.push (.lst [D.int z])).push (.lst (xs.map D.int));have X:=eF (A++[MO.lst [D.int z]]) (.lst (xs.map D.int));have n:mh.length<=(A++[MO.lst [D.int z]]).length:=(W.push _).le;generalize (A++[MO.lst [D.int z]]).length=rr at X n⊢;generalize A++[MO.lst [D.int z]]++[MO.lst (xs.map D.int)]=mh9 at be9 X⊢;simp[eL];refine cG be9 (by lia) (by lia) λC mh10 f0 f1 be10 ln10 g10=>?_;simp[eK];refine cG be10 (by lia) (by lia) λE o w0 w1 J ln11 g11=>?_;have K:o[rr]? =some (.lst (xs.map D.int)):=by rw[g11 _ n,g10 _ n];exact X
  simp[eJ];rw[U9 K,EH];have et:(xs.map D.int).tail=xs.tail.map D.int:=by cases xs <;> simp
  rw[et];have B:=aI (x:=MO.lst (xs.tail.map D.int)) K;have w:=eF o (.lst (xs.tail.map D.int));have L:=J.push (.lst (xs.tail.map D.int));have v:mh.length<=o.length:=J.le;generalize o.length=sr at w v⊢;generalize o++[MO.lst (xs.tail.map D.int)]=mh12 at B w L⊢;simp only[aT,B,w,bK];obtain⟨z1,z2⟩:=wH xs xs.tail;have z3:(d5 (xs.map D.int) (xs.tail.map D.int)).length<=4:=by simp at z2;lia
  refine⟨by simp;lia,?_⟩;refine bZ (λk P M=>∃(g :List Sw) (r s u:Option D),P=[some (.ref b),some (lD l),some (.int f),some (.tup (l.ns.map nD)),some (.tup (g.map sD)),some (.int (t:Nat)),some (.ref er),some (.int (1+st)),some (.ref rr),some (.int C),some (.int (1+E)),r,s,u]/\cR mh b M/\M[rr]? =some (.lst (xs.map D.int))/\M[sr]? =some (.lst (xs.tail.map D.int))/\g.length<=6+8*t+2*k/\∀x∈g,x.a<=x.b) _ (λ_ _ _ h=>by obtain⟨_,_,_,_,_,_,h1,h2,_⟩:=h;simp[aT,h1,h2]) ?_ ?_ ⟨ss,_,_,_,rfl,L,B,w,by lia,h4⟩
  ·rintro k d P M N2 hd ⟨g,r,s,u,rfl,Y,hr',hs',sl',Z⟩ nx2;obtain⟨p,F,rfl⟩:=z1 d (aB8 hd);have hk:=(aB2.mp hd).1;simp[fR];refine A1 (by lia) (by show (_:Int)<(2:Nat);lia) (by decide) λc=>?_;refine cG Y (by lia) (by lia) λr5 mh13 k0 k1 be13 ln13 g13=>?_;simp;refine⟨by lia,?_⟩;have hab:(if F<p then F else p)<=(if p<F then F else p):=by split <;> split <;> lia
   generalize (if F<p then F else p)=lo at hab⊢;generalize (if p<F then F else p)=hi at hab⊢;simp[eG];refine⟨by lia,?_⟩;refine cG be13 (by lia) (by lia) λr6 O l0 l1 be14 ln14 g14=>?_
   have rep:∀(m:Nat),m<=2->N2 [some (.ref b),some (lD l),some (.int f),some (.tup (l.ns.map nD)),some (.tup (g.map sD++(List.replicate m [sD ⟨⟨#[c]⟩,C,lo,hi,1+E,1+r5⟩]).flatten)),some (.int (t:Nat)),some (.ref er),some (.int (1+st)),some (.ref rr),some (.int C),some (.int (1+E)),some (.int p),some (.int F),some (sD ⟨⟨#[c]⟩,C,lo,hi,1+E,1+r5⟩)] O:=λm hm=>by
    have e:(List.replicate m [sD ⟨⟨#[c]⟩,C,lo,hi,1+E,1+r5⟩]).flatten=(List.replicate m (⟨⟨#[c]⟩,C,lo,hi,1+E,1+r5⟩:Sw)).map sD:=by
     rw[List.map_replicate];clear hm
     induction m with
     | zero=>rfl
     | succ m ih=>rw[List.replicate_succ,List.flatten_cons,ih,List.replicate_succ];rfl
    rw[e,<-List.map_append];refine nx2 _ _ ⟨_,_,_,_,rfl,be14,by rw[g14 _ n,g13 _ n];exact hr',by rw[g14 _ v,g13 _ v];exact hs',by simp;lia,λx hx=>?_⟩;rcases aBn.mp hx with h | h
    ·exact Z x h
    ·rw[(List.mem_replicate.mp h).2];exact hab
   have fin:∀m:Nat,m<=2->B9 (D.tup [D.tup [D.str ⟨#[c]⟩,D.int C,D.int lo,D.int hi,D.int (1+E),D.int (1+r5)]]) (.int (m:Nat)) O λy mh2=>bN (D.tup (g.map sD)) y mh2 λd G=>N2 [some (.ref b),some (lD l),some (.int f),some (.tup (l.ns.map nD)),some d,some (.int (t:Nat)),some (.ref er),some (.int (1+st)),some (.ref rr),some (.int C),some (.int (1+E)),some (.int p),some (.int F),some (D.tup [D.str ⟨#[c]⟩,D.int C,D.int lo,D.int hi,D.int (1+E),D.int (1+r5)])] G:=λm hm=>by
    refine⟨_,rfl,by lia,by lia,by simp;lia,?_⟩;dsimp only;rw[PN];refine⟨?_,rep m hm⟩;have:(List.replicate (((m:Nat):Int).toNat) [D.tup [D.str ⟨#[c]⟩,D.int C,D.int lo,D.int hi,D.int (1+E),D.int (1+r5)]]).flatten.length=m:=by simp
    rw[this];simp;lia
   by_cases h:r6=0
   ·subst h;simp;exact .inr ⟨true,rfl,fin 2 (by lia)⟩
   ·have hb:(r6==0)=false:=by simp[h]
    simp;rw[hb];exact .inr ⟨false,rfl,fin 1 (by lia)⟩
  ·rintro P M ⟨g,r,s,u,rfl,Y,hr',hs',sl',Z⟩;simp[eI];exact nx _ _ ⟨_,g,_,_,_,_,_,_,_,_,_,rfl,Y,by lia,by lia,by lia,Z⟩
 ·rintro P M ⟨f,ss,a5,a6,a7,a8,a9,Q,r,s,u,rfl,be,h1,h2,h3,h4⟩;simp[gP];have hc:(dF 0 (1+cnt).toNat).length<=3:=by simp;lia
  refine⟨_,rfl,by simp;lia,uI _,λds' pm so=>?_⟩;obtain⟨g,ps,rfl⟩:=eD sD pm _ rfl;have ln:=ps.length_eq;simp[aT];refine⟨by lia,(be.push _).out ok (CJ _ ⟨f,l.ns,g⟩) λG t=>q ⟨f,l.ns,g⟩ G ⟨by simp;lia,by simp;lia,λx hx=>h4 x (ps.mem_iff.mp hx)⟩ t⟩
theorem wfl{a:Nat}{l:Li}(h:UL a l)(hs:a<=14):Wf l:=⟨by have:=h.1;lia,by have:=h.2.1;lia,h.2.2.1⟩
theorem XA(ds:List D)(mh:MH)(R:DK)(ok:j4 mh)(hs:rX ds mh R):BE xJ eO oK N9 oJ (JN 4) N8 (En mh R) (aK ["_law_script","_law_k","_law_bag_here","_law_more","_law_some","_law_due","_law_thinner","_law_again"] ds) mh:=by
 obtain⟨ns,rfl,P,q⟩:=hs;have sz:=aBk;simp[BE,aK];refine⟨by split <;> lia,by split <;> lia,?_⟩;refine bZ (λi o _=>∃a b c d e f g,o=[some (.fl (ns.map .int)),a,b,c,d,e,f,g]) _ (λ_ _ _ _=>trivial) ?_ ?_ ⟨_,_,_,_,_,_,_,rfl⟩
 ·rintro i d o j N hi ⟨a,b,c,Q,e,f,g,rfl⟩ nx;obtain⟨hi,rfl⟩:=eY hi
  have S:i<9:=by
   revert hi;split <;> intro hi <;> lia
  simp[wN];refine⟨ns,_,rfl,P,by lia,by lia,λT _ U=>?_⟩;simp[pY];refine⟨_,_,rfl,by lia,by lia,U,λr p r0 r1 V=>?_⟩
  have s:∀(L:Li) (M:MH),Wf L->lO xJ eO oK N9 oJ (JN 4) N8 {nx:=N,rt:=λd j=>Out mh.length d j R,bk:=pI xJ eO oK N9 oJ (JN 4) N8 (En mh R),ct:=N} [some (.fl (ns.map .int)),some (.int (i:Nat)),some (.ref j.length),some (.int r),some (lD L),e,f,g] M:=by
   intro L M w;simp[lO,pW]
   have go:∀(M:MH) (d:D),((∃N,d=lD N/\Step L N)\/(d= .bF/\gH L))->lN xJ eO oK N9 oJ (JN 4) N8 {nx:=N,rt:=λd j=>Out mh.length d j R,bk:=pI xJ eO oK N9 oJ (JN 4) N8 (En mh R),ct:=N} [some (.fl (ns.map .int)),some (.int (i:Nat)),some (.ref j.length),some (.int r),some (lD L),some (lD L),some d,g] M:=by
    intro M d hd;unfold lN;show lQ _ _ _ _ _;refine⟨λm o _=>∃n d,o=[some (.fl (ns.map .int)),some (.int (i:Nat)),some (.ref j.length),some (.int r),some (lD L),some (lD n),some d,g]/\Wf n /\(∀N,Fin n N->Fin L N)/\n.ss.length=m/\((∃N,d=lD N/\Step n N)\/(d= .bF/\gH n)),⟨_,L,d,rfl,w,λ_ h=>h,rfl,hd⟩,?_⟩;rintro m o M ⟨n,d,rfl,G,u,hm,hd⟩;refine⟨λo _=>∃H,H<m/\∃n d,o=[some (.fl (ns.map .int)),some (.int (i:Nat)),some (.ref j.length),some (.int r),some (lD L),some (lD n),some d,g]/\Wf n /\(∀N,Fin n N->Fin L N)/\n.ss.length=H /\((∃N,d=lD N/\Step n N)\/(d= .bF/\gH n)),λ_ _ h=>h,?_⟩
    rcases hd with ⟨v,rfl,st⟩ | ⟨rfl,x⟩
    ·obtain⟨y,l2⟩:=BU G st;simp[gW];rw[if_neg (by simp[oQ,lD])];simp[wM,pU];refine⟨v,rfl,y,λM2 I t z=>?_,λM2 t B=>?_⟩
     ·exact⟨_,by lia,v,_,⟨rfl,rfl⟩,y,λN h=>u N (.step st h),rfl,.inl ⟨I,rfl,z⟩⟩
     ·exact⟨_,by lia,v,_,⟨rfl,rfl⟩,y,λN h=>u N (.step st h),rfl,.inr ⟨rfl,B⟩⟩
    ·simp[gW,pV];have W:Fin L n :=u n (.stop x);refine⟨by lia,?_⟩;refine bZ (λk o _=>∃C,o=[some (.fl (ns.map .int)),some (.int (i:Nat)),some (.ref j.length),some (.int r),some (lD L),some (lD n),some .bF,C]) _ (λ_ _ _ _=>trivial) ?_ ?_ ⟨_,rfl⟩
     ·rintro k d o M I hk ⟨C,rfl⟩ E;simp[wL];refine⟨L,rfl,w,λM2 A t X=>?_⟩;have:A=n :=MW X W;subst this;refine⟨_,rfl,UT G,?_⟩;simp[jL];exact E _ _ ⟨_,rfl⟩
     ·rintro o M ⟨C,rfl⟩;exact nx _ _ ⟨_,_,_,_,_,_,_,rfl⟩
   exact⟨L,rfl,w,λM2 N t st=>go M2 _ (.inl ⟨N,rfl,st⟩),λM2 t x=>go M2 _ (.inr ⟨rfl,x⟩)⟩
  simp[pX];refine⟨by lia,?_⟩;have Y:=eF p (.lst [D.int 14,.int 6]);have J:BC (p++[MO.lst [D.int 14,.int 6]]) j.length:=((cR.refl V.1).push _).bag;rw[d9 Y];have Z:r=0\/r=1:=by lia
  rcases Z with rfl | rfl
  ·rw[show hX [D.int 14,D.int 6] 0=some (.int 14) from rfl];simp only[bK];refine⟨j.length,14,rfl,by lia,J,λl K F O=>?_⟩;simp[lP];exact s l K (wfl F (by lia))
  ·rw[show hX [D.int 14,D.int 6] 1=some (.int 6) from rfl];simp only[bK];refine⟨j.length,6,rfl,by lia,J,λl K F O=>?_⟩;simp[lP];exact⟨j.length,l,rfl,O.1,F,λl' M6 w6 t6=>s l' M6 w6⟩
 ·rintro o j ⟨a,b,c,Q,e,f,g,rfl⟩;simp[pI];exact aM (q _)
variable{P:List Value->Prop}
theorem aAb(us:List Value)(b:us.length=0)(h:P []):P us:=by
 cases us with
 | nil=>exact h
 | cons a us=>cases b
theorem WL(us:List Value)(b:us.length=1)(h:∀c,P [c]):P us:=by
 cases us with
 | nil=>cases b
 | cons a us=>exact aAb (P:=λus=>P (a::us)) us (aEc b) (h a)
theorem WK(us:List Value)(b:us.length=2)(h:∀c d,P [c,d]):P us:=by
 cases us with
 | nil=>cases b
 | cons a us=>exact WL (P:=λus=>P (a::us)) us (aEc b) (h a)
theorem WJ(us:List Value)(b:us.length=3)(h:∀c d e,P [c,d,e]):P us:=by
 cases us with
 | nil=>cases b
 | cons a us=>exact WK (P:=λus=>P (a::us)) us (aEc b) (h a)
theorem aAa(us:List Value)(b:us.length=4)(h:∀c d e f,P [c,d,e,f]):P us:=by
 cases us with
 | nil=>cases b
 | cons a us=>exact WJ (P:=λus=>P (a::us)) us (aEc b) (h a)
variable{x:Str}{st:Stmt}{ps:List Str}
theorem IY(h:∀kV doc pm an cdv ct g,bindArgs (PySem.W.fnOf x x (c8 st) (bQ st) (aC st) .none kV doc pm an cdv ct) ⟨[g],[]⟩=pure (ps.zip [g]))(i:ps.length=1:=by rfl):b8 x st ps:=λa b c d e f us j=>WL (P:=λus=>bindArgs _ ⟨us,[]⟩=pure (List.zip _ us)) us (j.trans i) (h a b c d e f)
theorem vU(h:∀kV doc pm an cdv ct g i,bindArgs (PySem.W.fnOf x x (c8 st) (bQ st) (aC st) .none kV doc pm an cdv ct) ⟨[g,i],[]⟩=pure (ps.zip [g,i]))(j:ps.length=2:=by rfl):b8 x st ps:=λa b c d e f us k=>WK (P:=λus=>bindArgs _ ⟨us,[]⟩=pure (List.zip _ us)) us (k.trans j) (h a b c d e f)
theorem aAp(h:∀kV doc pm an cdv ct g i j,bindArgs (PySem.W.fnOf x x (c8 st) (bQ st) (aC st) .none kV doc pm an cdv ct) ⟨[g,i,j],[]⟩=pure (ps.zip [g,i,j]))(k:ps.length=3:=by rfl):b8 x st ps:=λa b c d e f us l=>WJ (P:=λus=>bindArgs _ ⟨us,[]⟩=pure (List.zip _ us)) us (l.trans k) (h a b c d e f)
theorem aAo(h:∀kV doc pm an cdv ct g i j k,bindArgs (PySem.W.fnOf x x (c8 st) (bQ st) (aC st) .none kV doc pm an cdv ct) ⟨[g,i,j,k],[]⟩=pure (ps.zip [g,i,j,k]))(l:ps.length=4:=by rfl):b8 x st ps:=λa b c d e f us m=>aAa (P:=λus=>bindArgs _ ⟨us,[]⟩=pure (List.zip _ us)) us (m.trans l) (h a b c d e f)
theorem sJ:b8 "next_alike" cU ["switches"]:=IY λ_ _ _ _ _ _ _=>rfl
theorem sL:b8 "inner_nets" cV ["names","switches"]:=vU λ_ _ _ _ _ _ _ _=>rfl
theorem sM:b8 "are_in_row" cW ["one","other"]:=vU λ_ _ _ _ _ _ _ _=>rfl
theorem rN:b8 "next_in_row" cH ["names","switches"]:=vU λ_ _ _ _ _ _ _ _=>rfl
theorem vV:b8 "next_pair" dH ["names","switches"]:=vU λ_ _ _ _ _ _ _ _=>rfl
theorem yZ:b8 "made_one" d6 ["one","other"]:=vU λ_ _ _ _ _ _ _ _=>rfl
theorem A6:b8 "thinned" fE ["some"]:=IY λ_ _ _ _ _ _ _=>rfl
theorem y8:b8 "_law_bag" d8 ["_law_script","_law_at"]:=vU λ_ _ _ _ _ _ _ _=>rfl
theorem vW:b8 "_law_take" dI ["_law_bag_here","_law_many"]:=vU λ_ _ _ _ _ _ _ _=>rfl
theorem vY:b8 "_law_list" dM ["_law_bag_here","_law_nets_most","_law_names_most","_law_switches_most"]:=aAo λ_ _ _ _ _ _ _ _ _ _=>rfl
theorem oA:b8 "_law_is_whole" bY ["_law_thing"]:=IY λ_ _ _ _ _ _ _=>rfl
theorem lL:b8 "_law_alike" cX ["_law_found","_law_due"]:=vU λ_ _ _ _ _ _ _ _=>rfl
theorem pF:b8 "_law_chained" cB ["_law_bag_here","_law_some"]:=vU λ_ _ _ _ _ _ _ _=>rfl
theorem y6:b8 "_law_two" d7 ["_law_some","_law_i","_law_j"]:=aAp λ_ _ _ _ _ _ _ _ _=>rfl
theorem vX:b8 "_law_once" dJ ["_law_some"]:=IY λ_ _ _ _ _ _ _=>rfl
theorem T9:b8 "law" qD ["_law_script"]:=IY λ_ _ _ _ _ _ _=>rfl
structure Al(w:World)(K:aEd)(mg:aEg):Prop where
 vN:e9 K "next_alike" cU
 vO:e9 K "inner_nets" cV
 vP:e9 K "are_in_row" cW
 sE:e9 K "next_in_row" cH
 yQ:e9 K "next_pair" dH
 AW:e9 K "made_one" d6
 EE:e9 K "thinned" fE
 AY:e9 K "_law_bag" d8
 yR:e9 K "_law_take" dI
 yT:e9 K "_law_list" dM
 pD:e9 K "_law_is_whole" bY
 nP:e9 K "_law_alike" cX
 rF:e9 K "_law_chained" cB
 AX:e9 K "_law_two" d7
 yS:e9 K "_law_once" dJ
 XH:e9 K "law" qD
 nt:UN K
section
variable {P:Program}{w:World}{K:aEd}{mg:aEg}{base h:Heap}(KX:K.In h)(G:h.Ns mainGlobals mg)(B:Bl mg)(A:Al w K mg)
include KX G B A
theorem nJ :Fn P w K mg base 1 "next_alike" ["switches"] (JM):=
 fV (wB:=eT) (k:=0) A.vN KX G sJ lB (by with_reducible exact u6 B  A.nt) (λds mh R h=>by obtain⟨_,rfl,_⟩:=h;rfl) vG
theorem nK :Fn P w K mg base 1 "inner_nets" ["names","switches"] (X9):=
 fV (wB:=eU) (k:=0) A.vO KX G sL lC (by with_reducible exact u7 B) (λds mh R h=>by obtain⟨_,rfl,_⟩:=h;rfl) MS
theorem nL :Fn P w K mg base 1 "are_in_row" ["one","other"] (YA):=
 fV (wB:=eV) (k:=0) A.vP KX G sM lE (by with_reducible exact u9 B) (λds mh R h=>by obtain⟨_,_,rfl,_⟩:=h;rfl) W8
theorem lJ :Fn P w K mg base 2 "next_in_row" ["names","switches"] (JL):=
 fV (wB:=dY (X9) (YA)) (k:=1) A.sE KX G rN jN (by with_reducible exact r9 B ((nK KX G B A).mono (by lia)) ((nL KX G B A).mono (by lia))) (λds mh R h=>by obtain⟨_,rfl,_⟩:=h;rfl) S6
theorem oT :Fn P w K mg base 3 "next_pair" ["names","switches"] (VF):=
 fV (wB:=fK (JM) (JL)) (k:=2) A.yQ KX G vV mY (by with_reducible exact x9 B ((nJ KX G B A).mono (by lia)) ((lJ KX G B A).mono (by lia))) (λds mh R h=>by obtain⟨_,rfl,_⟩:=h;rfl) S4
theorem rA :Fn P w K mg base 1 "made_one" ["one","other"] (VG):=
 TJ (wB:=hZ) (k:=0) A.AW KX G yZ oG (by with_reducible exact AI B) (λds mh R h=>by obtain⟨_,_,rfl,_⟩:=h;rfl) S7
theorem tM :Fn P w K mg base 4 "thinned" ["some"] (N8):=
 fV (wB:=j5 (VF) (VG)) (k:=3) A.EE KX G A6 qG (by with_reducible exact D1 B ((oT KX G B A).mono (by lia)) ((rA KX G B A).mono (by lia))) (λds mh R h=>by obtain⟨_,rfl,_⟩:=h;rfl) SY
theorem rC :Fn P w K mg base 1 "_law_bag" ["_law_script","_law_at"] (xJ):=
 fV (wB:=iD) (k:=0) A.AY KX G y8 oI (by with_reducible exact AK B) (λds mh R h=>by obtain⟨_,_,rfl,_⟩:=h;rfl) XB
theorem dD :Fn P w K mg base 1 "_law_take" ["_law_bag_here","_law_many"] (eO):=
 fV (wB:=fO) (k:=0) A.yR KX G vW mZ (by with_reducible exact yA B) (λds mh R h=>by obtain⟨_,_,rfl,_⟩:=h;rfl) S0
theorem oV :Fn P w K mg base 2 "_law_list" ["_law_bag_here","_law_nets_most","_law_names_most","_law_switches_most"] (oK):=
 fV (wB:=fQ (eO)) (k:=1) A.yT KX G vY m4 (by with_reducible exact yC B ((dD KX G B A).mono (by lia))) (λds mh R h=>by obtain⟨_,_,rfl,_⟩:=h;rfl) S8
theorem iT :Fn P w K mg base 1 "_law_is_whole" ["_law_thing"] (KD):=
 fV (wB:=c6) (k:=0) A.pD KX G oA gV (by with_reducible exact pB B) (λds mh R h=>by obtain⟨_,rfl,_⟩:=h;rfl) W9
theorem e8 :∀n:Nat,Fn P w K mg base (n+1) "_law_alike" ["_law_found","_law_due"] (JN n)
 | 0=>(IE A.nP KX G lL).imp λds mh R h=>by obtain⟨_,rfl,h,_⟩:=h;cases h
 | n+1=>TK (wB:=cK (JN n) (KD)) (k:=n+1) (by lia) A.nP KX G lL lF (by with_reducible exact vA B (e8 n) ((iT KX G B A).mono (by lia))) (λds mh R h=>by obtain⟨_,rfl,_⟩:=h;rfl) (S9 n)
theorem jW :Fn P w K mg base 2 "_law_chained" ["_law_bag_here","_law_some"] (N9):=
 fV (wB:=dG (eO)) (k:=1) A.rF KX G pF iQ (by with_reducible exact qT B ((dD KX G B A).mono (by lia))) (λds mh R h=>by obtain⟨_,_,rfl,_⟩:=h;rfl) D7
theorem rB :Fn P w K mg base 1 "_law_two" ["_law_some","_law_i","_law_j"] (KC):=
 fV (wB:=iA) (k:=0) A.AX KX G y6 oH (by with_reducible exact AJ B) (λds mh R h=>by obtain⟨_,_,_,_,_,rfl,_⟩:=h;rfl) W7
theorem oU :Fn P w K mg base 2 "_law_once" ["_law_some"] (oJ):=
 fV (wB:=fP (KC)) (k:=1) A.yS KX G vX m3 (by with_reducible exact yB B ((rB KX G B A).mono (by lia))) (λds mh R h=>by obtain⟨_,rfl,_⟩:=h;rfl) S5
theorem MF{b:Addr}  (a:mg "law"=some (.ref b)):
  ∃fd:FuncData,(∀(s:Shared) (u:Value),BindsTo s fd ⟨[u],[]⟩ [("_law_script",u)])/\∀base:Heap,hU P w K mg base wG 6 b fd ["_law_script"] (JK K rX):=
 SD (wB:=BE (xJ) (eO) (oK) (N9) (oJ) (JN 4) (N8)) (k:=5) KX G a A.XH FK T9 (λbase=>by with_reducible exact W0 B ((rC KX G B A).mono (by lia)) ((dD KX G B A).mono (by lia)) ((oV KX G B A).mono (by lia)) ((jW KX G B A).mono (by lia)) ((oU KX G B A).mono (by lia)) ((e8 KX G B A 4).mono (by lia)) ((tM KX G B A).mono (by lia))) XA
theorem YF{l:PySem.W.OpenLaw}{b:Addr}  (a:mg "law"=some (.ref b)):
  ∃fd:FuncData,(∀(s:Shared) (u:Value),BindsTo s fd ⟨[u],[]⟩ [("_law_script",u)])/\∀base:Heap,K.In base->base.Ns mainGlobals mg->hU l.prog w K mg base wG 6 b fd ["_law_script"] (JK K rX):=
 let ⟨fd,h1,h2⟩:=MF KX G B A a
 ⟨fd,h1,λbase _ _=>h2 base⟩
end
end K37
open PySem PySem.W PyProof.Rows
set_option maxRecDepth 100000 in
set_option maxHeartbeats 0 in
theorem PySem.Challenge.cw_maskwright_k37_lists_thinned_holds : PySem.Challenge.rw_maskwright_k37_lists_thinned.Holds := by
  w_on; refine D3.YG (q := D3.kQ PySem.Challenge.pw_maskwright_k37_lists_thinned [1, 2, 3, 4, 5, 6, 7, 9, 10, 11, 12, 13, 14, 15, 16, 17]) (loose := []) (K := K37.kk) (as := [3, 20, 21, 25, 26, 32, 33, 39, 40, 46, 47, 53, 54, 60, 61, 67, 68, 74, 75, 79, 80, 86, 87, 91, 92, 98, 99, 103, 104, 108, 109, 115, 116]) (by kernel_rfl) (fun _ => rfl) K37.kl (by rfl) (by rfl) (by rfl) (by decide +kernel) ⟨rfl, rfl, rfl, rfl, rfl, by decide +kernel⟩ ?hw ?_; (case hw => w_witness2)
  k_fill
  refine D3.walkD (l := PySem.Challenge.rw_maskwright_k37_lists_thinned) (k := 6) (x := "_law_script") rfl rfl ⟨rfl, by decide, by decide⟩ (fun _ _ Y => Y) ?F
  case F =>
    intro w mg fa h KX G hmg
    refine' K37.YF KX G (D3.bl_mk KX G ?_ ?_ ?_ ?_ ?_ ?_ ?_ ?_ ?_ ?_ ?_ ?_ ?_ ?_ ?_ ?_ ?_ ?_ ?_) ⟨(D3.YK ?_ ?_ ?_ ?_), (D3.YK ?_ ?_ ?_ ?_), (D3.YK ?_ ?_ ?_ ?_), (D3.YK ?_ ?_ ?_ ?_), (D3.YK ?_ ?_ ?_ ?_), (D3.YK ?_ ?_ ?_ ?_), (D3.YK ?_ ?_ ?_ ?_), (D3.YK ?_ ?_ ?_ ?_), (D3.YK ?_ ?_ ?_ ?_), (D3.YK ?_ ?_ ?_ ?_), (D3.YK ?_ ?_ ?_ ?_), (D3.YK ?_ ?_ ?_ ?_), (D3.YK ?_ ?_ ?_ ?_), (D3.YK ?_ ?_ ?_ ?_), (D3.YK ?_ ?_ ?_ ?_), (D3.YK ?_ ?_ ?_ ?_), (D3.RB ?nt)⟩ hmg
    (case nt => rfl)
    all_goals try k_is
