import PyProof.Rows.All
import Wide.All
import OpenK.AllK
import Wide.FinOn
import Lean
import PyProof.EqAt
import PyProof.EqKinds
import PyProof.TupleCall
import PyProof.NeKinds
import PySem.Challenge.RW_maskwright_k05_areas_and_rims
set_option Elab.async false
set_option linter.all false
set_option maxRecDepth 100000
set_option maxHeartbeats 4000000
abbrev aHw:=PySem.W.Frag
set_option compiler.extract_closed false
abbrev aF3:= @PySem.wpAny_bind
abbrev aF4:= @PySem.Heap.get?_push_of_some
abbrev aF5:= @PySem.wpAny_pure
abbrev aF6:= @List.getElem?_eq_some_iff
abbrev aF7:= @List.mem_cons_of_mem
abbrev aF8:= @List.mem_cons_self
abbrev aF9:= @Nat.le_refl
abbrev aFa:= @PySem.Heap.get?_push_size
abbrev aFb:= @List.mem_append
abbrev aFc:= @PySem.Heap.lt_size
abbrev aFd:= @List.mem_cons
abbrev aFe:= @PyProof.Rows.wpS_bind
abbrev aFf:= @List.mem_of_getElem?
abbrev aFg:= @List.getElem?_eq_getElem
abbrev aFh:= @PyProof.Rows.wpS_pure
abbrev aFi:= @List.mem_map
abbrev aFj:= @Nat.ne_of_lt
abbrev aFk:= @List.pairwise_append
abbrev aFl:= @Option.some.inj
abbrev aFm:= @PySem.wpAny_call_entry
abbrev aFn:= @PySem.sizeLine_eq
abbrev aFo:= @Nat.lt_of_lt_of_le
abbrev aFp:= @PySem.wpAny_callSpecial?_slot
abbrev aFq:= @PySem.W.mg_none_of
abbrev aFr:= @List.pairwise_cons
abbrev aFs:= @List.mem_append_right
abbrev aFt:= @PySem.wpAny_newObj_type
abbrev aFu:= @Nat.le_trans
abbrev aFv:= @List.mem_iff_getElem?
abbrev aFw:= @Nat.lt_succ_of_lt
abbrev aFx:= @PySem.wpAny_holding
abbrev aFy:= @PySem.wpAny_setField_rec
abbrev aFz:= @PySem.Heap.get?_update_other
abbrev aG0:= @Option.map_eq_some_iff
abbrev aG1:= @List.eq_nil_or_concat
abbrev aG2:= @PySem.wpAny_seqItems
abbrev aG3:= @PyProof.Rows.slot_tuple_getitem
abbrev aG4:= @PySem.wpAny_field
abbrev aG5:= @PySem.Heap.get?_update_self
abbrev aG6:= @Ne.symm
abbrev aG7:= @Nat.lt_succ_self
abbrev aG8:= @congrArg
abbrev aG9:= @PySem.mem_of_lookup
abbrev aGa:= @PySem.Heap.SameBut.update
abbrev aGb:= @PyProof.Rows.callWith_type1
abbrev aGc:= @PySem.wpAny_rule
abbrev aGd:= @decide_eq_false
abbrev aGe:= @PySem.codeAny_builtin
abbrev aGf:= @bind_congr
abbrev aGg:= @PySem.wpAny_updateSeq
abbrev aGh:= @PySem.F.slot_zip_next
abbrev aGi:= @PySem.F.slot_dict_keyiterator_next
abbrev aGj:= @List.mem_append_left
abbrev aGk:= @Nat.zero_le
abbrev aGl:= @List.length_eq_zero_iff
abbrev aGm:= @Nat.lt_irrefl
abbrev aGn:= @PySem.wpAny_attempt
abbrev aGo:= @PyProof.Rows.wpS_forRange
abbrev aGp:= @List.mem_map_of_mem
abbrev aGq:= @List.nodup_cons
abbrev aGr:= @List.getElem?_eq_none_iff
abbrev aGs:= @PySem.wpAny_mono
abbrev aGt:= @PySem.tupleKind_room_in1
abbrev aGu:= @PySem.plainId_quiet
abbrev aGv:= @List.getElem?_of_mem
abbrev aGw:= @List.mem_of_mem_take
abbrev aGx:= @PySem.wpAny_typeNameOfWhole_keyiter
abbrev aGy:= @PySem.wpAny_typeOf
abbrev aGz:= @PySem.wpAny_Call_Name_kw
abbrev aH0:= @PySem.F.slot_tuple_iterator_next
abbrev aH1:= @PyProof.Rows.wpS_mono
abbrev aH2:= @List.pairwise_iff_getElem
abbrev aH3:= @PySem.Calls.call_function_entry
abbrev aH4:= @Classical.byContradiction
abbrev aH5:= @PySem.wpAny_passesOwn
abbrev aH6:= @Nat.le_of_lt
abbrev aH7:= @PySem.wpAny_setState_of
abbrev aH8:= @List.map_congr_left
abbrev aH9:= @PySem.wpAny_setEntries_of
abbrev aHa:= @List.mem_flatMap
abbrev aHb:= @List.Perm.append_right
abbrev aHc:= @PySem.F.called_set
abbrev aHd:= @Int.emod_lt_of_pos
abbrev aHe:= @List.Perm.append_left
abbrev aHf:= @List.perm_append_comm
abbrev aHg:= @List.take_append_drop
abbrev aHh:= @PySem.W.Looks.of_pure
abbrev aHi:= @PySem.wpAny_truthy_bool
abbrev aHj:= @PySem.wpAny_pyIter_slot
abbrev aHk:= @PySem.wpAny_of_eq
abbrev aHl:= @PySem.wpAny_newTuple
abbrev aHm:= @PySem.wpAny_fieldsOf
abbrev aHn:= @List.mem_iff_getElem
abbrev aHo:= @Nat.ne_of_gt
abbrev aHp:= @PySem.codeAny_mono
abbrev aHq:= @Nat.le_of_not_lt
abbrev aHr:= @PySem.wpAny_isInstance
abbrev aHs:= @Int.emod_nonneg
abbrev aHt:= @Bool.false_ne_true
abbrev aHu:= @ite_congr
abbrev aHv:= @Int.le_refl
abbrev aHx:=PySem.Value->PySem.Shared->Prop
abbrev aHy:=PyProof.Rows.Keyed->PyProof.Rows.Keyed->Bool
abbrev aHz:=PySem.Str->Option PySem.Value
abbrev aI0:=Array PyProof.Rows.Keyed
namespace L2
open PySem PySem.Spec PyProof.Rows
abbrev Key:=Sum Int Str
def wY:Key->Value->Bool
 | .inl k,v=>Value.isInt k v
 | .inr x,v=>Value.isStrOf x v
def aEi(w:World):Key->Int
 | .inl k=>hashInt k
 | .inr x=>hashStr w x
theorem bP:∀{k:Key} {v:Value},wY k v=true->(∃i t,k=Sum.inl i/\v=Value.int i t)\/(∃x t,k=Sum.inr x/\v=Value.str x t)
 | .inl i,v,h=>by
  obtain⟨t,e⟩:=Value.isInt_shape (k:=i) (v:=v) h;exact .inl ⟨i,t,rfl,e⟩
 | .inr x,v,h=>by
  obtain⟨t,e⟩:=Value.isStrOf_shape (x:=x) (v:=v) h;exact .inr ⟨x,t,rfl,e⟩
theorem IS(i:Int)(t:Tok):wY (.inl i) (.int i t)=true:=by simp[wY,Value.isInt]
theorem IQ(x:Str)(t:Tok):wY (.inr x) (.str x t)=true:=by simp[wY,Value.isStrOf]
theorem WV(a b:Int):decide ((Sum.inl a:Key)=Sum.inl b)=(a==b):=by
 by_cases e:a=b
 ·subst e;simp
 ·have h:¬(Sum.inl a:Key)=Sum.inl b:=λq=>e (Sum.inl.inj q);rw[decide_eq_false h];exact(beq_eq_false_iff_ne.mpr e).symm
theorem WQ(a b:Str):decide ((Sum.inr a:Key)=Sum.inr b)=decide (a=b):=by
 by_cases e:a=b
 ·subst e;simp
 ·have h:¬(Sum.inr a:Key)=Sum.inr b:=λq=>e (Sum.inr.inj q);rw[decide_eq_false h,decide_eq_false e]
theorem WU(a:Int)(b:Str):decide ((Sum.inl a:Key)=Sum.inr b)=false:=aGd (λq=>nomatch q)
theorem WR(a:Str)(b:Int):decide ((Sum.inr a:Key)=Sum.inl b)=false:=aGd (λq=>nomatch q)
def aS(prog:Program)(w:World):PySem.KeyKind prog w Key where
 is:=wY
 hash:=aEi w
 inj:=λv a b ha hb=>by
  rcases bP ha with ⟨i,t,rfl,rfl⟩ | ⟨x,t,rfl,rfl⟩
  ·rcases bP hb with ⟨j,u,rfl,e⟩ | ⟨y,u,rfl,e⟩
   ·injection e with e1 _;rw[e1]
   ·exact nomatch e
  ·rcases bP hb with ⟨j,u,rfl,e⟩ | ⟨y,u,rfl,e⟩
   ·exact nomatch e
   ·injection e with e1 _;rw[e1]
 byValue:=λk v h=>by
  rcases bP h with ⟨i,t,rfl,rfl⟩ | ⟨x,t,rfl,rfl⟩ <;> rfl
 pyHash:=λhv h=>by
  rcases bP hv with ⟨i,t,rfl,rfl⟩ | ⟨x,t,rfl,rfl⟩
  ·exact wpAny_pyHash_int h
  ·exact wpAny_pyHash_str h
 eqBool:=λhu hv h=>by
  rcases bP hu with ⟨i,t,rfl,rfl⟩ | ⟨x,t,rfl,rfl⟩
  ·rcases bP hv with ⟨j,u,rfl,rfl⟩ | ⟨y,u,rfl,rfl⟩
   ·rw[WV]at h;exact wpAny_eqBool_int h
   ·rw[WU]at h;exact SeqAt.EqAt.int_str i t y u _ _ _ _ h
  ·rcases bP hv with ⟨j,u,rfl,rfl⟩ | ⟨y,u,rfl,rfl⟩
   ·rw[WR]at h;exact SeqAt.EqAt.str_int x t j u _ _ _ _ h
   ·rw[WQ]at h;exact wpAny_eqBool_str h
 «strs»:=λk x t v h=>by
  rcases bP h with ⟨i,u,rfl,e⟩ | ⟨y,u,rfl,e⟩
  ·exact nomatch e
  ·injection e with e1 _;subst e1;cases v <;> rfl
theorem BL(prog:Program)(w:World)(i:Int)(t:Tok):(aS prog w).is (.inl i) (.int i t)=true:=IS i t
theorem BK(prog:Program)(w:World)(x:Str)(t:Tok):(aS prog w).is (.inr x) (.str x t)=true:=IQ x t
inductive V where
 | b7 | bl (b:Bool) | int (i:Int) | str (x:Str) | byt (b:Array UInt8) | flt (b:UInt64) | ref (a:Addr) | ty (n:String)
 deriving DecidableEq
def RelV:V->Value->Prop
 | .b7,u=>u=Value.none
 | .bl b,u=>u=Value.bool b
 | .int i,u=>∃t,u=Value.int i t
 | .str x,u=>∃t,u=Value.str x t
 | .byt b,u=>∃t,u=Value.bytes b t
 | .flt b,u=>∃t,u=Value.float b t
 | .ref a,u=>u=Value.ref a
 | .ty n,u=>u=Value.type n
abbrev Vals:List V->List Value->Prop:=Paired RelV
theorem Vals.length{xs:List V}{us:List Value}(r:Vals xs us):xs.length=us.length:=Paired.length r
theorem Vals.get:∀{xs:List V} {us:List Value} {i:Nat} {x:V},Vals xs us->xs[i]? =some x->∃u,us[i]? =some u/\RelV x u
 | _,_,_,_,.nil,e=>by simp at e
 | _,_,0,_,.cons r _,e=>by simp at e;subst e;exact⟨_,rfl,r⟩
 | _,_,i+1,x,.cons _ t,e=>by
  obtain⟨u,h1,h2⟩:=Vals.get (i:=i) (x:=x) t (by simpa using e);exact⟨u,by simpa using h1,h2⟩
theorem Vals.set{x:V}{u:Value}(r:RelV x u):∀{xs:List V} {us:List Value} (i:Nat),Vals xs us->Vals (xs.set i x) (us.set i u)
 | _,_,_,.nil=>.nil
 | _,_,0,.cons _ t=>.cons r t
 | _,_,i+1,.cons q t=>.cons q (Vals.set r i t)
theorem Vals.append:∀{xs ys:List V} {us ws:List Value},Vals xs us->Vals ys ws->Vals (xs++ys) (us++ws)
 | _,_,_,_,.nil,s=>s
 | _,_,_,_,.cons r t,s=>.cons r (Vals.append t s)
theorem Vals.take:∀{xs:List V} {us:List Value} (n:Nat),Vals xs us->Vals (xs.take n) (us.take n)
 | _,_,0,_=>.nil
 | _,_,_+1,.nil=>.nil
 | _,_,n+1,.cons r t=>.cons r (Vals.take n t)
theorem Vals.drop:∀{xs:List V} {us:List Value} (n:Nat),Vals xs us->Vals (xs.drop n) (us.drop n)
 | _,_,0,r=>r
 | _,_,_+1,.nil=>.nil
 | _,_,n+1,.cons _ t=>Vals.drop n t
theorem Vals.none_of:∀{xs:List V} {us:List Value} {i:Nat},Vals xs us->xs[i]? =none->us[i]? =none:=λ{xs us i} r e=>by
 have h1:=r.length;have h2:xs.length<=i:=aGr.mp e;exact aGr.mpr (by lia)
def sC:Option V->Option Value->Prop
 | some v,some u=>RelV v u
 | none,none=>True
 | _,_=>False
def KV{κ:Type}:List (κ×V)->List (κ×Value)->Prop:=Paired λ(p:κ×V) (q:κ×Value)=>p.1=q.1/\RelV p.2 q.2
def kV:Key->V
 | .inl i=>.int i
 | .inr x=>.str x
inductive HO where
 | lst (xs:List V)
 | tup (xs:List V)
 | dK (kvs:List (Key×V)) | dT (kvs:List (List Key×V))
 | set (S:Int->Bool) (n:Nat)
 | ins (C dx:Addr) (fs:List (Str×V))
 | own (x:Addr)
 | xd (fs:List (Str×V))
 | met (f x:Addr)
 | rng (lo hi:Int)
 | frz (o:Obj) (u:HO)
 | tbl (ps:Array Value)
 | ext (φ:Heap->Prop)
abbrev Hp:=Addr->Option HO
def upd(H:Hp)(a:Addr)(o:HO):Hp:=λb=>if b=a then some o else H b
theorem bK{H:Hp}{a:Addr}{o:HO}:upd H a o a=some o:=by unfold upd;rw[if_pos rfl]
theorem aM{H:Hp}{a b:Addr}{o:HO}(h:b≠a):upd H a o b=H b:=by unfold upd;rw[if_neg h]
theorem aAm{H:Hp}{a b:Addr}{o u:HO}(h:H a=some o)(h' :H b=some u)(d:o≠u):a≠b:=by
 intro e;subst e;rw[h]at h';exact d (aFl h')
theorem bM{H:Hp}{a b:Addr}{o:HO}(h:H a=some o)(h' :H b=none):a≠b:=by
 intro e;subst e;rw[h]at h';cases h'
theorem x8(h:Heap)(items:Array Value):∀o,(h.push {cls:= .type "tuple",data:= .seq items}).get? h.objs.size=some o->o.dict=none:=λo e=>by rw[Heap.get?_push_size _ rfl]at e;cases e;rfl
section
variable (P:Program)(w:World)
def bX(H:Hp)(h:Heap)(a:Addr):HO->Prop
 | .lst xs=>xs.length<=sizeLine/\∃(aG:List Value) (n:Nat),Vals xs aG/\h.get? a=some {cls:= .type "list",data:= .seq aG.toArray n}
 | .tup xs=>xs.length<=sizeLine/\∃aG:List Value,Vals xs aG/\IsTup h a aG.toArray/\∀o,h.get? a=some o->o.dict=none
 | .dK kvs=>kvs.length<=sizeLine/\(a==sysModules)=false/\∃vs,KV kvs vs/\h.DictOf (aS P w) a vs
 | .dT kvs=>kvs.length<=sizeLine/\(a==sysModules)=false/\∃xs:List (List Key×Addr×Value),
   Paired (λ(p:List Key×V) (q:List Key×Addr×Value)=>p.1=q.1/\H q.2.1=some (.tup (p.1.map kV))/\RelV p.2 q.2.2) kvs xs/\
   ∃o es ep,h.get? a=some o/\o.ExactDict/\o.data= .dict es ep/\es.toList=xs.map (entryOfKey (tupleKind (aS P w)))/\(xs.map (·.1)).Nodup
 | .set S n=>h.SetOf (intKind P w) a S n
 | .ins C dx fs=>H dx=some (.own a)/\fs.length<=1000/\dx≠a/\h.get? a=some (PySem.W.instObj C dx)/\
   ∃mA,h.Ns1 dx mA/\(∀f,sC (fs.lookup f) (mA f))/\PySem.Within mA (fs.map (·.1))
 | .own _=>∃o,h.get? a=some o
 | .xd fs=>∃mA,h.Ns1 a mA/\∀f,sC (fs.lookup f) (mA f)
 | .rng lo hi=>∃t u v,h.get? a=some {cls:= .type "range",data:= .fields #[.int lo t,.int hi u,.int 1 v]}
 | .frz o u=>h.get? a=some o/\bX H h a u
 | .tbl ps=>h.get? a=some {cls:= .none,data:= .fields ps}
 | .met f x=>h.get? a=some (PySem.W.methodObj (.ref f) (.ref x))
 | .ext φ=>φ h/\(∃o,h.get? a=some o)/\∀h1 h2:Heap,φ h1->(∀o,h1.get? a=some o->h2.get? a=some o)->φ h2
def pZ(H:Hp)(h:Heap):Prop:=∀a o,H a=some o->bX P w H h a o
end
section
variable {P:Program}{w:World}{H H' :Hp}{h h' :Heap}{a:Addr}{o:HO}
theorem bX.lt(x:bX P w H h a o):a<h.objs.size:=by
 cases o with
 | lst xs=>obtain⟨_,_,_,_,e⟩:=x;exact aFc e
 | tup xs=>obtain⟨_,_,_,p,_⟩:=x;exact p.lt
 | dK kvs=>obtain⟨_,_,_,_,o,_,_,e,_⟩:=x;exact aFc e
 | dT kvs=>obtain⟨_,_,_,_,o,_,_,e,_⟩:=x;exact aFc e
 | set S n=>obtain⟨o,_,_,_,e,_⟩:=x;exact aFc e
 | ins C dx fs=>obtain⟨_,_,_,e,_⟩:=x;exact aFc e
 | own y=>obtain⟨_,e⟩:=x;exact aFc e
 | xd fs=>obtain⟨_,⟨_,_,_,e,_⟩,_⟩:=x;exact aFc e
 | rng lo hi=>obtain⟨_,_,_,e⟩:=x;exact aFc e
 | frz ob u=>obtain⟨e,_⟩:=x;exact aFc e
 | tbl ps=>exact aFc (show h.get? a=some _ from x)
 | met f y=>exact aFc (show h.get? a=some _ from x)
 | ext φ=>obtain⟨_,⟨_,e⟩,_⟩:=x;exact aFc e
theorem Paired.VQ{α β:Type}{F G:α->β->Prop}:∀{l₁:List α} {l₂:List β},Paired F l₁ l₂->(∀a b,F a b->G a b)->Paired G l₁ l₂
 | _,_,.nil,_=>.nil
 | _,_,.cons r t,f=>.cons (f _ _ r) (Paired.VQ t f)
theorem bX.n9(x:bX P w H h a o)(k:∀b u,(b=a\/H b=some (.own a))->h.get? b=some u->h'.get? b=some u)
  (ho:∀b,H b=some (.own a)->H' b=some (.own a)) (ht:∀b xs,H b=some (.tup xs)->H' b=some (.tup xs)):bX P w H' h' a o:=by
 induction o with
 | lst xs=>obtain⟨z,aG,n,r,e⟩:=x;exact⟨z,aG,n,r,k _ _ (.inl rfl) e⟩
 | tup xs=>obtain⟨z,aG,r,⟨ob,e,c⟩,nd⟩:=x;exact⟨z,aG,r,⟨ob,k _ _ (.inl rfl) e,c⟩,λo' e' =>by rw[k _ _ (.inl rfl) e]at e';cases e';exact nd _ e⟩
 | dK kvs=>obtain⟨z,y,vs,r,ob,es,ep,e,c⟩:=x;exact⟨z,y,vs,r,ob,es,ep,k _ _ (.inl rfl) e,c⟩
 | dT kvs=>
  obtain⟨z,y,xs,r,ob,es,ep,e,c⟩:=x;exact⟨z,y,xs,Paired.VQ r λp q z=>⟨z.1,ht _ _ z.2.1,z.2.2⟩,ob,es,ep,k _ _ (.inl rfl) e,c⟩
 | set S n=>obtain⟨ob,es,ep,t,e,c⟩:=x;exact⟨ob,es,ep,t,k _ _ (.inl rfl) e,c⟩
 | ins C dx fs=>
  obtain⟨d,z,ne,e,mA,⟨od,es,ep,e2,c⟩,r⟩:=x;exact⟨ho _ d,z,ne,k _ _ (.inl rfl) e,mA,⟨od,es,ep,k _ _ (.inr d) e2,c⟩,r⟩
 | own y=>obtain⟨ob,e⟩:=x;exact⟨ob,k _ _ (.inl rfl) e⟩
 | xd fs=>obtain⟨mA,⟨od,es,ep,e,c⟩,r⟩:=x;exact⟨mA,⟨od,es,ep,k _ _ (.inl rfl) e,c⟩,r⟩
 | rng lo hi=>obtain⟨t,u,v,e⟩:=x;exact⟨t,u,v,k _ _ (.inl rfl) e⟩
 | frz ob u ih=>obtain⟨e,q⟩:=x;exact⟨k _ _ (.inl rfl) e,ih q⟩
 | tbl ps=>
  have e:h.get? a=some {cls:= .none,data:= .fields ps}:=x;show h'.get? a=some {cls:= .none,data:= .fields ps};exact k a _ (.inl rfl) e
 | met f y=>
  have e:h.get? a=some (PySem.W.methodObj (.ref f) (.ref y)):=x;show h'.get? a=some (PySem.W.methodObj (.ref f) (.ref y));exact k a _ (.inl rfl) e
 | ext φ=>obtain⟨p,⟨o,e⟩,st⟩:=x;exact⟨st _ _ p λo q=>k _ _ (.inl rfl) q,⟨o,k _ _ (.inl rfl) e⟩,st⟩
theorem pZ.lt(x:pZ P w H h)(e:H a=some o):a<h.objs.size:=(x a o e).lt
theorem pZ.fresh(x:pZ P w H h)(e:h.objs.size<=a):H a=none:=by
 cases q:H a with
 | none=>rfl
 | some u=>exact absurd (aFo (x.lt q) e) (aGm _)
theorem pZ.kept(x:pZ P w H h)(k:∀b u,h.get? b=some u->h'.get? b=some u):pZ P w H h' :=λa o e=>
 (x a o e).n9 (λb u _ q=>k b u q) (λ_ q=>q) λ_ _ q=>q
theorem pZ.laid(x:pZ P w H h)(k:∀b u,h.get? b=some u->h'.get? b=some u)(hp:h.objs.size<=a)(new:bX P w (upd H a o) h' a o):pZ P w (upd H a o) h' :=λb u e=>by
 have hn:=x.fresh hp;by_cases hb:b=a
 ·subst hb;rw[bK]at e;cases e;exact new
 ·rw[aM hb]at e;exact(x b u e).n9 (λc v _ q=>k c v q) (λc q=>by rw[aM (bM q hn)];exact q) λc xs q=>by rw[aM (bM q hn)];exact q
end
def Rd(H:Hp)(a:Addr)(u:HO):Prop:=H a=some u\/∃o,H a=some (.frz o u)
theorem Rd.ok{P:Program}{w:World}{H:Hp}{h:Heap}{a:Addr}{u:HO}(r:Rd H a u)(x:pZ P w H h):bX P w H h a u:=by
 rcases r with r | ⟨o,r⟩
 ·exact x a u r
 ·obtain⟨_,q⟩:=x a _ r;exact q
def JZ:Option HO->Prop
 | some (.lst _)=>True
 | some (.dK _)=>True
 | some (.dT _)=>True
 | some (.set _ _)=>True
 | some (.ins _ _ _)=>True
 | some (.ext _)=>True
 | _=>False
section
variable {P:Program}{w:World}{H:Hp}{h h' :Heap}{x e:Addr}{o' :HO}
theorem pZ.write(ok:pZ P w H h)(mu:JZ (H x))(he:e=x\/H e=some (.own x))(k:∀b u,b≠e->h.get? b=some u->h'.get? b=some u)(heo:∃u,h'.get? e=some u)
  (new:bX P w (upd H x o') h' x o'):pZ P w (upd H x o') h' :=λb u q=>by
 have nown:∀c y,H c=some (.own y)->c≠x:=λc y r z=>by subst z;rw[r]at mu;exact mu
 have ntup:∀c xs,H c=some (.tup xs)->c≠x:=λc xs r z=>by subst z;rw[r]at mu;exact mu
 by_cases hb:b=x
 ·subst hb;rw[bK]at q;cases q;exact new
 ·rw[aM hb]at q;by_cases hbe:b=e
  ·have q' :H b=some (.own x):=by
    rcases he with z | z
    ·exact absurd (hbe.trans z) hb
    ·rw[hbe];exact z
   rw[q]at q';cases q';obtain⟨v,hv⟩:=heo;exact⟨v,by rw[hbe];exact hv⟩
  ·refine(ok b u q).n9 (λc v hc r=>k c v ?_ r) (λc r=>by rw[aM (nown c b r)];exact r) λc xs r=>by rw[aM (ntup c xs r)];exact r
   rcases hc with rfl | hc
   ·exact hbe
   ·rintro rfl;rcases he with z | z
    ·exact nown c b hc z
    ·rw[hc]at z;cases z;exact hb rfl
end
structure Un(fs ex:List Addr)(H H' :Hp)(h h' :Heap):Prop where
 keep:∀b o,h.get? b=some o->H b=none->b∉fs->b∉ex->h'.get? b=some o
 slot:∀b o,h.get? b=some o->H b=none->b∈fs->b∉ex->∃sl,h'.get? b=some {o with slots:=sl}
 free:∀b o,h.get? b=some o->H b=none->b∉ex->H' b=none
 there:∀b o,h.get? b=some o->b∉ex->∃o',h'.get? b=some o'
 AW:∀b xs,H b=some (.tup xs)->H' b=some (.tup xs)
 zE:∀b o u,H b=some (.frz o u)->H' b=some (.frz o u)
 AY:∀b ps,H b=some (.tbl ps)->∃more,H' b=some (.tbl (ps++more))
section
variable {fs fs' ex ex' :List Addr}{H H1 H2:Hp}{h h1 h2 h' :Heap}{a x e:Addr}{o:HO}
theorem Un.any(u:Un fs ex H H1 h h1){b:Addr}{ob:Obj}(q:h.get? b=some ob)(n:H b=none)(hx:b∉ex):∃sl,h1.get? b=some {ob with slots:=sl}:=by
 by_cases hb:b∈fs
 ·exact u.slot b ob q n hb hx
 ·exact⟨ob.slots,u.keep b ob q n hb hx⟩
theorem Un.kept(k:∀b u,h.get? b=some u->h'.get? b=some u):Un fs ex H H h h' :=
 ⟨λb ob q _ _ _=>k b ob q,λb ob q _ _ _=>⟨ob.slots,k b ob q⟩,λ_ _ _ n _=>n,λb ob q _=>⟨ob,k b ob q⟩,λ_ _ q=>q,λ_ _ _ q=>q,λ_ ps q=>⟨#[],by rw[q];simp⟩⟩
theorem Un.refl:Un fs ex H H h h:=Un.kept λ_ _ q=>q
theorem Un.laid(k:∀b u,h.get? b=some u->h'.get? b=some u)(hp:h.objs.size<=a)(hn:H a=none):Un fs ex H (upd H a o) h h' where
 keep:=λb u q _ _ _=>k b u q
 slot:=λb u q _ _ _=>⟨u.slots,k b u q⟩
 free:=λb u q n _=>by rw[aM (Nat.ne_of_lt (Nat.lt_of_lt_of_le (Heap.lt_size q) hp))];exact n
 there:=λb u q _=>⟨u,k b u q⟩
 AW:=λb xs q=>by rw[aM (bM q hn)];exact q
 zE:=λb u xs q=>by rw[aM (bM q hn)];exact q
 AY:=λb ps q=>⟨#[],by rw[aM (bM q hn),q];simp⟩
theorem Un.write(mu:JZ (H x))(he:e=x\/H e=some (.own x))(k:∀b u,b≠e->h.get? b=some u->h'.get? b=some u)(heo:∃u,h'.get? e=some u):Un fs ex H (upd H x o) h h' :=by
 have hx:∀b,H b=none->b≠x:=λb n z=>by subst z;rw[n]at mu;exact mu
 have hb:∀b,H b=none->b≠e:=λb n z=>by
  subst z;rcases he with r | r
  ·exact hx b n r
  ·rw[n]at r;cases r
 have hm:∀b u,H b=some u->¬JZ (some u)->b≠x:=λb u q nm z=>by subst z;rw[q]at mu;exact nm mu
 refine⟨λb u q n _ _=>k b u (hb b n) q,λb u q n _ _=>⟨u.slots,k b u (hb b n) q⟩,λb u q n _=>by rw[aM (hx b n)];exact n,λb u q _=>?_,
  λb xs q=>by rw[aM (hm b _ q λz=>z)];exact q,λb u xs q=>by rw[aM (hm b _ q λz=>z)];exact q,λb ps q=>⟨#[],by rw[aM (hm b _ q λz=>z),q];simp⟩⟩
 by_cases hbe:b=e
 ·subst hbe;exact heo
 ·exact⟨u,k b u hbe q⟩
end
def trk(h:Heap)(H:Hp):List Addr:=(List.range h.objs.size).filter λa=>(H a).isSome
def zA(h:Heap)(H:Hp):Heap:=PySem.W.hideAll h (trk h H)
theorem IW(h:Heap)(H:Hp):(zA h H).objs.size=h.objs.size:=PySem.W.hideAll_size _ _
theorem M4{h:Heap}{H:Hp}{b:Addr}{o:Obj}(e:h.get? b=some o)(n:H b=none):(zA h H).get? b=some o:=
 PySem.W.hideAll_get _ e λhm=>by
  have q:(H b).isSome=true:=(List.mem_filter.mp hm).2;rw[n]at q;simp at q
theorem QF{h:Heap}{H:Hp}{b:Addr}{o:Obj}(e:(zA h H).get? b=some o):h.get? b=some o/\H b=none:=by
 have e' :h.get? b=some o:=PySem.W.of_hideAll (trk h H) e;refine⟨e',?_⟩
 cases q:H b with
 | none=>rfl
 | some x=>
  have hm:b∈trk h H:=List.mem_filter.mpr ⟨List.mem_range.mpr (aFc e'),by simp[q]⟩;have z:(zA h H).get? b=none:=PySem.W.hideAll_none (trk h H) hm;rw[z]at e;cases e
structure Mod(K:aHw)(mg:aHz)(base:Heap):Prop where
 kin:K.In base
 glob:base.Ns mainGlobals mg
 blt:∃mb,base.Ns builtinsNs mb/\∀x:Str,x≠ "__name__"->mb x=bootBuiltins x
 nolimit:base.NoLimit
structure Cx where
 prog:Program
 w:World
 K:aHw
 mg:aHz
 base:Heap
 A:Around
 N:List Str
 s₀:Shared
 H₀:Hp
 env:Env
 outer:List Env
 stack:List Env
 ex:List Addr
 fn:Str->Bool
 calm:Bool
 pn:List (Addr×Obj)
 xe:aHx
def NF(l:List Env):List Addr:=l.filterMap (·.frame)
abbrev Cx.fs(X:Cx):List Addr:=NF X.outer
def Vis(sc:Scope)(x:Str):Prop:=sc.names.lookup x=some .local\/sc.names.lookup x=some .cell\/sc.names.lookup x=some .free
def Loc(sc:Scope)(x:Str):Prop:=sc.names.lookup x=some .local\/sc.names.lookup x=some .cell
def Look(env:Env)(h:Heap)(m:aHz)(x:Str)(u:Value):Prop:=
 (env.kindOf x=some .local/\m x=some u)\/((env.kindOf x=some .cell\/env.kindOf x=some .free)/\∃c,env.cells.lookup x=some c/\h.IsCell c (some u))
structure Cx.Ok(X:Cx):Prop where
 mod:Mod X.K X.mg X.base
 kind:X.env.scope.kind= .function
 glob:X.env.globals=mainGlobals
 blt:X.env.builtins=builtinsNs
 above:X.s₀.heap.objs.size<=X.env.locals
 inj:∀x y c,X.env.cells.lookup x=some c->X.env.cells.lookup y=some c->x=y
 has:∀x,(X.env.kindOf x=some .cell\/X.env.kindOf x=some .free)->∃c,X.env.cells.lookup x=some c
 cab:∀x c,X.fn x=true->X.env.cells.lookup x=some c->X.s₀.heap.objs.size<=c
 hd:X.calm=true->X.A.handled=none
 frames:X.A.frames=some X.stack
 stk:X.stack=X.outer\/(X.stack=X.env::X.outer/\X.env.frame=some X.env.locals)
 exf:∀b∈X.ex,b≠X.env.locals/\∀x c,X.env.cells.lookup x=some c->c≠b
 bs:∀b o,X.base.get? b=some o->X.s₀.heap.get? b=some o/\X.H₀ b=none
 R0:X.base.objs.size<=X.s₀.heap.objs.size
 LV:∀b o,X.base.get? b=some o->b∉X.ex
 NJ:∀b∈X.ex,b∉X.fs
 uS:X.s₀.heap.FunFrames X.base X.outer
 YQ:∀b∈X.fs,X.H₀ b=none
structure Inv(X:Cx)(pins:List (Addr×Obj))(σ:List (Option V))(H:Hp)(s:Shared):Prop where
 ok:X.Ok
 os:s.os=X.s₀.os
 bare:AllBare s.gens
 base:Un X.fs X.ex X.H₀ H X.s₀.heap s.heap
 loc:∃m,s.heap.Ns X.env.locals m/\∀(i:Nat) (x:Str) (v:V),X.N[i]? =some x->σ[i]? =some (some v)->Vis X.env.scope x->∃u,RelV v u/\Look X.env s.heap m x u
 cell:∀x c,X.env.cells.lookup x=some c->∃v,s.heap.IsCell c v
 free:H X.env.locals=none
 lA:∀x c,X.env.cells.lookup x=some c->H c=none
 pin:∀p∈X.pn++pins,s.heap.get? p.1=some p.2/\H p.1=none/\p.1≠X.env.locals/\p.1∉X.fs/\∀v,p.2.data≠ .cell v
 bG:pZ X.prog X.w H s.heap
 len:σ.length=X.N.length
section
variable {X:Cx}{pins:List (Addr×Obj)}{σ:List (Option V)}{H H' :Hp}{s:Shared}{h' :Heap}
theorem Cx.Ok.aE7(ok:X.Ok){b:Addr}{o:Obj}(e:X.base.get? b=some o):b∉X.fs:=λhb=>by
 have:=(ok.uS.mem hb).1;rw[e]at this;cases this
theorem Inv.bs(I:Inv X pins σ H s):∀b o,X.base.get? b=some o->s.heap.get? b=some o/\H b=none:=λb o e=>
 ⟨I.base.keep b o (I.ok.bs b o e).1 (I.ok.bs b o e).2 (I.ok.aE7 e) (I.ok.LV b o e),I.base.free b o (I.ok.bs b o e).1 (I.ok.bs b o e).2 (I.ok.LV b o e)⟩
theorem Inv.bk(I:Inv X pins σ H s):∀b o,X.base.get? b=some o->s.heap.get? b=some o:=λb o e=>(I.bs b o e).1
theorem Inv.mod(I:Inv X pins σ H s):Mod X.K X.mg X.base:=I.ok.mod
theorem Inv.WW(I:Inv X pins σ H s):X.K.In s.heap:=I.ok.mod.kin.keeps I.bk
theorem Inv.fr(I:Inv X pins σ H s):∃m,Fr X.base X.env.locals s.heap m:=
 let ⟨m,hn,_⟩:=I.loc
 ⟨m,hn,I.bk,aFu I.ok.R0 I.ok.above⟩
theorem Inv.lt(I:Inv X pins σ H s):X.env.locals<s.heap.objs.size:=let ⟨_,hn,_⟩:=I.loc;hn.lt
theorem Inv.sz(I:Inv X pins σ H s):X.s₀.heap.objs.size<=s.heap.objs.size:=aFu I.ok.above (aH6 I.lt)
theorem Inv.aE6(I:Inv X pins σ H s){a:Addr}(h:s.heap.objs.size<=a):a∉X.fs:=λhb=>by
 obtain⟨_,o,ho,_⟩:=I.ok.uS.mem hb;exact absurd (aFo (aFc ho) (aFu I.sz h)) (aGm _)
theorem Inv.RP(I:Inv X pins σ H s):∀x c,X.env.cells.lookup x=some c->c≠X.env.locals:=λx c e z=>by
 obtain⟨v,o,ho,hd⟩:=I.cell x c e;obtain⟨m,⟨o',es,ep,ho',hd',_⟩,_⟩:=I.loc;rw[z,ho']at ho;cases ho;rw[hd']at hd;cases hd
theorem Inv.uS(I:Inv X pins σ H s):s.heap.FunFrames X.base X.outer:=by
 have all:∀(l:List Env),(∀b∈NF l,b∈X.fs)->X.s₀.heap.FunFrames X.base l->s.heap.FunFrames X.base l:=by
  intro l
  induction l with
  | nil=>intro _ _;trivial
  | cons env r ih=>
   intro hs hl;obtain⟨hk,⟨L,o,hf,hn,ho,hd⟩,hr⟩:=hl;have hL:L∈X.fs:=hs L (by unfold NF;rw[List.filterMap_cons,hf];exact aF8);obtain⟨sl,e⟩:=I.base.slot L o ho (I.ok.YQ L hL) hL λz=>I.ok.NJ L z hL;exact⟨hk,⟨L,_,hf,hn,e,hd⟩,ih (λb hb=>hs b (by unfold NF;rw[List.filterMap_cons,hf];exact aF7 _ hb)) hr⟩
 exact all X.outer (λ_ hb=>hb) I.ok.uS
theorem Inv.stack(I:Inv X pins σ H s):s.heap.FunFrames X.base X.stack:=by
 rcases I.ok.stk with e | ⟨e,hf⟩
 ·rw[e];exact I.uS
 ·rw[e];obtain⟨m,hn,_⟩:=I.loc;refine .cons (by rw[I.ok.kind];decide) hf hn ?_ I.uS;exact Heap.get?_none_of_le (aFu I.ok.R0 I.ok.above)
theorem Inv.DM(I:Inv X pins σ H s):∀b∈NF X.stack,b∈X.env.locals::X.fs:=λb hb=>by
 rcases I.ok.stk with e | ⟨e,hf⟩
 ·rw[e]at hb;exact aF7 _ hb
 ·rw[e]at hb;unfold NF at hb;rw[List.filterMap_cons,hf]at hb;exact hb
theorem Inv.F0(I:Inv X pins σ H s):∀b∈NF X.stack,H b=none:=λb hb=>by
 rcases aFd.mp (I.DM b hb) with e | hb
 ·rw[e];exact I.free
 ·obtain⟨_,o,ho,_⟩:=I.ok.uS.mem hb;exact I.base.free b o ho (I.ok.YQ b hb) λz=>I.ok.NJ b z hb
theorem Inv.step{g' :Array GenState}{t' :Nat}{d' :Drawn}{ch:List Addr}(I:Inv X pins σ H s)
  (hch:∀b∈ch,(b∈X.ex\/X.s₀.heap.objs.size<=b)/\b≠X.env.locals/\(∀x c,X.env.cells.lookup x=some c->c≠b)/\∀p∈X.pn++pins,p.1≠b)
  (keep:∀b o,b≠X.env.locals->b∉X.fs->b∉ch->s.heap.get? b=some o->H b=none->h'.get? b=some o)
  (slot:∀b o,b≠X.env.locals->b∈X.fs->b∉ch->s.heap.get? b=some o->H b=none->∃sl,h'.get? b=some {o with slots:=sl}) (free:∀b o,b∉ch->s.heap.get? b=some o->H b=none->H' b=none)
  (there:∀b o,b∉ch->s.heap.get? b=some o->∃o',h'.get? b=some o')
  (AW:∀b xs,H b=some (.tup xs)->H' b=some (.tup xs)) (zE:∀b o u,H b=some (.frz o u)->H' b=some (.frz o u)) (AY:∀b ps,H b=some (.tbl ps)->∃more,H' b=some (.tbl (ps++more)))
  (ns:∀m,s.heap.Ns X.env.locals m->h'.Ns X.env.locals m) (bG:pZ X.prog X.w H' h') (hg:AllBare g'):
  Inv X pins σ H' {s with heap:=h',gens:=g',drawn:=d',toks:=t'}:=by
 have neL:∀b o,X.s₀.heap.get? b=some o->b≠X.env.locals:=λb o e=>aFj (aFo (aFc e) I.ok.above)
 have neC:∀b o,X.s₀.heap.get? b=some o->b∉X.ex->b∉ch:=λb o e hx hb=>by
  rcases(hch b hb).1 with z | z
  ·exact hx z
  ·exact absurd (aFo (aFc e) z) (aGm _)
 have cellK:∀x c,X.env.cells.lookup x=some c->∀v,s.heap.IsCell c v->h'.IsCell c v:=λx c e v zz0=>by
  obtain⟨o,ho,hd⟩:=zz0;have nch:c∉ch:=λz=>(hch c z).2.2.1 x c e rfl;by_cases hc:c∈X.fs
  ·obtain⟨sl,q⟩:=slot c o (I.RP x c e) hc nch ho (I.lA x c e);exact⟨_,q,hd⟩
  ·exact⟨o,keep c o (I.RP x c e) hc nch ho (I.lA x c e),hd⟩
 refine⟨I.ok,I.os,hg,⟨λb o e n hb hx=>?_,λb o e n hb hx=>?_,λb o e n hx=>?_,λb o e hx=>?_,λb xs e=>AW b xs (I.base.AW b xs e),λb o xs e=>zE b o xs (I.base.zE b o xs e),λb ps e=>?_⟩,?_,λx c e=>?_,?_,λx c e=>?_,λp hp=>?_,bG,I.len⟩
 ·exact keep b o (neL b o e) hb (neC b o e hx) (I.base.keep b o e n hb hx) (I.base.free b o e n hx)
 ·obtain⟨sl,e1⟩:=I.base.slot b o e n hb hx;obtain⟨sl',e2⟩:=slot b _ (neL b o e) hb (neC b o e hx) e1 (I.base.free b o e n hx);exact⟨sl',e2⟩
 ·obtain⟨o',e1⟩:=I.base.there b o e hx;exact free b o' (neC b o e hx) e1 (I.base.free b o e n hx)
 ·obtain⟨o',e1⟩:=I.base.there b o e hx;exact there b o' (neC b o e hx) e1
 ·obtain⟨m1,e1⟩:=I.base.AY b ps e;obtain⟨m2,e2⟩:=AY b _ e1;exact⟨m1++m2,by rw[e2,Array.append_assoc]⟩
 ·obtain⟨m,hn,hl⟩:=I.loc;refine⟨m,ns m hn,λi x v e1 e2 e3=>?_⟩;obtain⟨u,r,l⟩:=hl i x v e1 e2 e3;refine⟨u,r,?_⟩;rcases l with l | ⟨k,c,e,z⟩
  ·exact .inl l
  ·exact .inr ⟨k,c,e,cellK x c e _ z⟩
 ·obtain⟨v,z⟩:=I.cell x c e;exact⟨v,cellK x c e v z⟩
 ·obtain⟨m,⟨o,_,_,ho,_⟩,_⟩:=I.loc;exact free _ o (λz=>(hch _ z).2.1 rfl) ho I.free
 ·obtain⟨v,o,ho,hd⟩:=I.cell x c e;exact free c o (λz=>(hch c z).2.2.1 x c e rfl) ho (I.lA x c e)
 ·obtain⟨e,n,ne,nf,d⟩:=I.pin p hp;have nch:p.1∉ch:=λz=>(hch p.1 z).2.2.2 p hp rfl;exact⟨keep p.1 p.2 ne nf nch e n,free p.1 p.2 nch e n,ne,nf,d⟩
theorem Inv.un{t' :Nat}(I:Inv X pins σ H s)(u:Un X.fs [] H H' s.heap h')(bG:pZ X.prog X.w H' h'):Inv X pins σ H' {s with heap:=h',toks:=t'}:=by
 obtain⟨m,⟨o,es,ep,ho,r⟩,_⟩:=id I.loc;obtain⟨sl,hL⟩:=u.any ho I.free (by simp)
 exact I.step (g' :=s.gens) (d' :=s.drawn) (ch:=[]) (λ_ z=>nomatch z) (λb o _ hb _ e n=>u.keep b o e n hb (by simp)) (λb o _ hb _ e n=>u.slot b o e n hb (by simp)) (λb o _ e n=>u.free b o e n (by simp)) (λb o _ e=>u.there b o e (by simp)) u.AW u.zE u.AY (λm' hm=>by
  obtain⟨o',es',ep',ho',r'⟩:=hm;rw[ho]at ho';cases ho'
  exact⟨_,es',ep',hL,r'⟩) bG I.bare
theorem Inv.call{g' :Array GenState}{t' :Nat}{d' :Drawn}{ch:List Addr}(I:Inv X pins σ H s)(u:Un (NF X.stack) ch H H' s.heap h')(bG:pZ X.prog X.w H' h')(hg:AllBare g')
  (hch:∀b∈ch,(b∈X.ex\/X.s₀.heap.objs.size<=b)/\b≠X.env.locals/\(∀x c,X.env.cells.lookup x=some c->c≠b)/\∀p∈X.pn++pins,p.1≠b):
  Inv X pins σ H' {s with heap:=h',gens:=g',drawn:=d',toks:=t'}:=by
 obtain⟨m,⟨o,es,ep,ho,r⟩,_⟩:=id I.loc;obtain⟨sl,hL⟩:=u.any ho I.free λz=>(hch _ z).2.1 rfl
 exact I.step (ch:=ch) hch (λb o hL hb hc e n=>u.keep b o e n (λz=>(aFd.mp (I.DM b z)).elim hL hb) hc) (λb o _ _ hc e n=>u.any e n hc) (λb o hc e n=>u.free b o e n hc) (λb o hc e=>u.there b o e hc) u.AW u.zE u.AY (λm' hm=>by
  obtain⟨o',es',ep',ho',r'⟩:=hm;rw[ho]at ho';cases ho'
  exact⟨_,es',ep',hL,r'⟩) bG hg
theorem Inv.turned{t' :Nat}{it:Addr}(I:Inv X pins σ H s)(k:∀b o,b≠it->s.heap.get? b=some o->h'.get? b=some o)(hn:H it=none)(hL:it≠X.env.locals)
  (h1:it∈X.ex\/X.s₀.heap.objs.size<=it) (h2:∀x c,X.env.cells.lookup x=some c->c≠it) (h3:∀p∈X.pn++pins,p.1≠it):Inv X pins σ H {s with heap:=h',toks:=t'}:=by
 have nit:∀b u,H b=some u->b≠it:=λb u e z=>by rw[z,hn]at e;cases e
 refine I.step (g' :=s.gens) (d' :=s.drawn) (ch:=[it]) (λb hb=>?_) (λb o _ _ hc e _=>k b o (λz=>hc (by simp[z])) e) (λb o _ _ hc e _=>⟨o.slots,k b o (λz=>hc (by simp[z])) e⟩) (λ_ _ _ _ n=>n)
  (λb o hc e=>⟨o,k b o (λz=>hc (by simp[z])) e⟩) (λ_ _ e=>e) (λ_ _ _ e=>e) (λb ps e=>⟨#[],by rw[e];simp⟩) (λm hm=>?_) (λb u e=>?_) I.bare
 ·have e:b=it:=by simpa using hb
  subst e;exact⟨h1,hL,h2,h3⟩
 ·obtain⟨o,es,ep,ho,r⟩:=hm;exact⟨o,es,ep,k _ o (aG6 hL) ho,r⟩
 ·refine(I.bG b u e).n9 (λc v hc q=>k c v ?_ q) (λ_ q=>q) λ_ _ q=>q;rcases hc with z | z
  ·rw[z];exact nit b u e
  ·exact nit c _ z
theorem Inv.tok(I:Inv X pins σ H s)(t:Nat):Inv X pins σ H {s with toks:=t}:=I.un (h' :=s.heap) (t' :=t) Un.refl I.bG
theorem Inv.kept{t' :Nat}(I:Inv X pins σ H s)(k:∀b u,s.heap.get? b=some u->h'.get? b=some u):Inv X pins σ H {s with heap:=h',toks:=t'}:=I.un (Un.kept k) (I.bG.kept k)
theorem Inv.laid{a:Addr}{o:HO}{t' :Nat}(I:Inv X pins σ H s)(k:∀b u,s.heap.get? b=some u->h'.get? b=some u)(hp:s.heap.objs.size<=a)(new:bX X.prog X.w (upd H a o) h' a o):
  Inv X pins σ (upd H a o) {s with heap:=h',toks:=t'}:=I.un (Un.laid k hp (I.bG.fresh hp)) (I.bG.laid k hp new)
theorem Inv.write{x e:Addr}{o:HO}{t' :Nat}(I:Inv X pins σ H s)(mu:JZ (H x))(he:e=x\/H e=some (.own x))(k:∀b u,b≠e->s.heap.get? b=some u->h'.get? b=some u)(heo:∃u,h'.get? e=some u)
  (new:bX X.prog X.w (upd H x o) h' x o):Inv X pins σ (upd H x o) {s with heap:=h',toks:=t'}:=I.un (Un.write mu he k heo) (I.bG.write mu he k heo new)
theorem Inv.weak{σ' :List (Option V)}(I:Inv X pins σ H s)(hl:σ'.length=σ.length)(w:∀(i:Nat) v,σ'[i]? =some (some v)->σ[i]? =some (some v)):Inv X pins σ' H s:=
 ⟨I.ok,I.os,I.bare,I.base,let ⟨m,hn,hl'⟩:=I.loc;⟨m,hn,λi x v e1 e2 e3=>hl' i x v e1 (w i v e2) e3⟩,I.cell,I.free,I.lA,I.pin,I.bG,hl.trans I.len⟩
theorem Inv.GC{pins' :List (Addr×Obj)}(I:Inv X pins σ H s)(h:∀p∈pins',s.heap.get? p.1=some p.2/\H p.1=none/\p.1≠X.env.locals/\p.1∉X.fs/\∀v,p.2.data≠ .cell v):Inv X pins' σ H s:=
 ⟨I.ok,I.os,I.bare,I.base,I.loc,I.cell,I.free,I.lA,λp hp=>(aFb.mp hp).elim (λz=>I.pin p (aGj _ z)) (h p),I.bG,I.len⟩
theorem BI{N:List Str}(hN:N.Nodup){i j:Nat}{x:Str}(a:N[i]? =some x)(b:N[j]? =some x):i=j:=by
 obtain⟨h1,e1⟩:=aF6.mp a;obtain⟨h2,e2⟩:=aF6.mp b;exact(List.getElem_inj hN).mp (e1.trans e2.symm)
theorem wF{M:Model}{A:Around}{E:aHx}{i:Nat}{x:Str}{v:V}{u:Value}{Q:Unit->Shared->Prop}(I:Inv X pins σ H s)(hN:X.N.Nodup)(hi:X.N[i]? =some x)(hx:Loc X.env.scope x)(r:RelV v u)
  (h:∀s',Inv X pins (σ.set i (some v)) H s' ->(∃a,Heap.SameBut a s.heap s'.heap/\(a=X.env.locals\/X.env.cells.lookup x=some a))->Q () s') (hf:X.fn x=true\/X.env.scope.names.lookup x=some .local:=by first | exact .inl rfl | exact .inr rfl | assumption):wpAny M A (storeName X.env x u) Q E s:=by
 obtain⟨m,hn,hl⟩:=id I.loc;have hcls:(X.env.scope.kind== .class || (X.env.scope.kind== .module && X.env.locals !=X.env.globals))=false:=by rw[I.ok.kind];rfl
 have hiσ:i<σ.length:=by rw[I.len];exact(aF6.mp hi).1
 have RP:=I.RP
 have tracked:∀{a:Addr} {h' :Heap},(∃o,s.heap.get? a=some o/\H a=none)->Heap.SameBut a s.heap h' ->pZ X.prog X.w H h' :=λ{a h'} ha hs b ob e=>by
  obtain⟨_,_,hfree⟩:=ha;refine(I.bG b ob e).n9 (λc w' hc q=>(hs.2 c ?_).trans q) (λ_ q=>q) λ_ _ q=>q;rintro rfl;rcases hc with rfl | hc
  ·rw[hfree]at e;cases e
  ·rw[hfree]at hc;cases hc
 rcases hx with hk | hk
 ·refine wpAny_storeName_local hk hn (λh' hn' hs=>?_) hcls;obtain⟨oL,_,_,hoL,_⟩:=id hn;refine h _ ⟨I.ok,I.os,I.bare,⟨λb o e n hb hx=>?_,λb o e n hb hx=>?_,I.base.free,λb o e hx=>?_,I.base.AW,I.base.zE,I.base.AY⟩,⟨_,hn',λj y v' e1 e2 e3=>?_⟩,λy c e=>?_,I.free,I.lA,λp hp=>?_,tracked ⟨oL,hoL,I.free⟩ hs,by simpa using I.len⟩ ⟨_,hs,.inl rfl⟩
  ·exact(hs.2 b (aFj (aFo (aFc e) I.ok.above))).trans (I.base.keep b o e n hb hx)
  ·obtain⟨sl,e1⟩:=I.base.slot b o e n hb hx;exact⟨sl,(hs.2 b (aFj (aFo (aFc e) I.ok.above))).trans e1⟩
  ·obtain⟨o',e1⟩:=I.base.there b o e hx;exact⟨o',(hs.2 b (aFj (aFo (aFc e) I.ok.above))).trans e1⟩
  ·by_cases hj:j=i
   ·subst hj;rw[hi]at e1;cases e1;rw[List.getElem?_set_self hiσ]at e2;cases e2;exact⟨u,r,.inl ⟨hk,by simp⟩⟩
   ·rw[List.getElem?_set_ne (Ne.symm hj)]at e2;obtain⟨u',r',q⟩:=hl j y v' e1 e2 e3;refine⟨u',r',?_⟩
    rcases q with ⟨k,e⟩ | ⟨k,c,e,z⟩
    ·refine .inl ⟨k,?_⟩;have:y≠x:=λe=>hj (BI hN e1 (e▸hi));simp[this,e]
    ·exact .inr ⟨k,c,e,z.sameBut hs (RP y c e)⟩
  ·obtain⟨w',z⟩:=I.cell y c e;exact⟨w',z.sameBut hs (RP y c e)⟩
  ·obtain⟨e,n,ne,nf,d⟩:=I.pin p hp;exact⟨(hs.2 p.1 ne).trans e,n,ne,nf,d⟩
 ·have hfn:X.fn x=true:=by
   rcases hf with z | z
   ·exact z
   ·rw[z]at hk;cases hk
  obtain⟨c,hc⟩:=I.ok.has x (.inl hk);obtain⟨w',z⟩:=I.cell x c hc;refine wpAny_storeName_cell I.ok.kind hk hc z (λh' hc' hs=>?_);obtain⟨oc,hoc,hocd⟩:=id z;refine h {s with heap:=h'} ⟨I.ok,I.os,I.bare,⟨λb o e n hb hx=>?_,λb o e n hb hx=>?_,I.base.free,λb o e hx=>?_,I.base.AW,I.base.zE,I.base.AY⟩,⟨m,hn.sameBut hs (aG6 (RP x c hc)),λj y v' e1 e2 e3=>?_⟩,λy c' e=>?_,I.free,I.lA,λp hp=>?_,tracked ⟨oc,hoc,I.lA x c hc⟩ hs,by simpa using I.len⟩ ⟨c,hs,.inr hc⟩
  ·exact(hs.2 b (aFj (aFo (aFc e) (I.ok.cab x c hfn hc)))).trans (I.base.keep b o e n hb hx)
  ·obtain⟨sl,e1⟩:=I.base.slot b o e n hb hx;exact⟨sl,(hs.2 b (aFj (aFo (aFc e) (I.ok.cab x c hfn hc)))).trans e1⟩
  ·obtain⟨o',e1⟩:=I.base.there b o e hx;exact⟨o',(hs.2 b (aFj (aFo (aFc e) (I.ok.cab x c hfn hc)))).trans e1⟩
  ·by_cases hj:j=i
   ·subst hj;rw[hi]at e1;cases e1;rw[List.getElem?_set_self hiσ]at e2;cases e2;exact⟨u,r,.inr ⟨.inl hk,c,hc,hc'⟩⟩
   ·rw[List.getElem?_set_ne (Ne.symm hj)]at e2;obtain⟨u',r',q⟩:=hl j y v' e1 e2 e3;refine⟨u',r',?_⟩;rcases q with q | ⟨k,c',e,z'⟩
    ·exact .inl q
    ·refine .inr ⟨k,c',e,z'.sameBut hs ?_⟩;rintro rfl;exact hj (BI hN e1 (I.ok.inj _ _ _ e hc▸hi))
  ·by_cases hcc:c' =c
   ·subst hcc;exact⟨_,hc'⟩
   ·obtain⟨w2,z2⟩:=I.cell y c' e;exact⟨w2,z2.sameBut hs hcc⟩
  ·obtain⟨e,n,ne,nf,d⟩:=I.pin p hp;refine⟨(hs.2 p.1 ?_).trans e,n,ne,nf,d⟩;intro q;rw[q,hoc]at e;have q' :oc=p.2:=aFl e;exact d w' (by rw[<-q'];exact hocd)
theorem tK{M:Model}{A:Around}{E:aHx}{i:Nat}{x:Str}{v:V}{u:Value}{Q:Unit->Shared->Prop}(I:Inv X pins σ H s)(hN:X.N.Nodup)(hi:X.N[i]? =some x)(hx:Loc X.env.scope x)(r:RelV v u)
  (h:∀s',Inv X pins (σ.set i (some v)) H s' ->Q () s') (hf:X.fn x=true\/X.env.scope.names.lookup x=some .local:=by first | exact .inl rfl | exact .inr rfl | assumption):wpAny M A (storeName X.env x u) Q E s:=
 wF I hN hi hx r (λs' I' _=>h s' I') hf
theorem Inv.aBo{s' :Shared}{ch:List Addr}(I:Inv X pins σ H s)(ho:s'.os=s.os)(u:Un (NF X.stack) ch H H' s.heap s'.heap)(bG:pZ X.prog X.w H' s'.heap)(hg:AllBare s'.gens)
  (hch:∀b∈ch,(b∈X.ex\/X.s₀.heap.objs.size<=b)/\b≠X.env.locals/\(∀x c,X.env.cells.lookup x=some c->c≠b)/\∀p∈X.pn++pins,p.1≠b):Inv X pins σ H' s' :=by
 obtain⟨h',g',d',t',o'⟩:=s';have e:o' =s.os:=ho;subst e;exact I.call (g' :=g') (t' :=t') (d' :=d') u bG hg hch
end
abbrev XK:=Value->Option Addr->Hp->Prop
abbrev St:=List (Option V)
abbrev VK:=V->Hp->Prop
abbrev TE:=St->Hp->VK->Prop
abbrev TT:=St->Hp->(Bool->Hp->Prop)->Prop
abbrev TA:=St->Hp->(List V->Hp->Prop)->Prop
structure Ends where
 nx:St->Hp->Prop
 rt:VK
 bk:St->Hp->Prop:=λ_ _=>False
 ct:St->Hp->Prop:=λ_ _=>False
abbrev TS:=Ends->St->Hp->Prop
def EP(X:Cx)(pins:List (Addr×Obj))(σ:St)(Q:VK)(u:Value)(s' :Shared):Prop:=∃v H',Inv X pins σ H' s' /\RelV v u/\Q v H'
def TP(X:Cx)(pins:List (Addr×Obj))(σ:St)(Q:Bool->Hp->Prop)(b:Bool)(s' :Shared):Prop:=∃H',Inv X pins σ H' s' /\Q b H'
def AP(X:Cx)(pins:List (Addr×Obj))(σ:St)(Q:List V->Hp->Prop)(us:List Value)(s' :Shared):Prop:=∃vs H',Inv X pins σ H' s' /\Vals vs us/\Q vs H'
def SP(X:Cx)(pins:List (Addr×Obj))(D:Ends)(f:Flow)(s' :Shared):Prop:=
 match f with
 | .next=>∃σ' H',Inv X pins σ' H' s' /\D.nx σ' H'
 | .brk=>∃σ' H',Inv X pins σ' H' s' /\D.bk σ' H'
 | .cont=>∃σ' H',Inv X pins σ' H' s' /\D.ct σ' H'
 | .ret u=>∃v σ' H',Inv X pins σ' H' s' /\RelV v u/\D.rt v H'
def PE(X:Cx)(e:Expr)(t:TE):Prop:=
 ∀(pins:List (Addr×Obj)) (s:Shared) (σ:St) (H:Hp) (Q:VK),Inv X pins σ H s->t σ H Q->wpAny (model X.prog X.w) X.A (eval e X.env) (EP X pins σ Q) X.xe s
def PT(X:Cx)(e:Expr)(t:TT):Prop:=
 ∀(pins:List (Addr×Obj)) (s:Shared) (σ:St) (H:Hp) (Q:Bool->Hp->Prop),Inv X pins σ H s->t σ H Q->wpAny (model X.prog X.w) X.A (isTrue e X.env (eval e X.env)) (TP X pins σ Q) X.xe s
def PW(X:Cx)(e:Expr)(t:TT):Prop:=
 ∀(whole:Sem Value) (pins:List (Addr×Obj)) (s:Shared) (σ:St) (H:Hp) (Q:Bool->Hp->Prop),Inv X pins σ H s->t σ H Q->wpAny (model X.prog X.w) X.A (isTrue e X.env whole) (TP X pins σ Q) X.xe s
theorem PW.pt{X:Cx}{e:Expr}{t:TT}(h:PW X e t):PT X e t:=h _
def PA(X:Cx)(es:List Expr)(t:TA):Prop:=
 ∀(pos:Pos) (pins:List (Addr×Obj)) (s:Shared) (σ:St) (H:Hp) (Q:List V->Hp->Prop),Inv X pins σ H s->t σ H Q->wpAny (model X.prog X.w) X.A (spliced (backTo pos (starEach es X.env))) (AP X pins σ Q) X.xe s
def PS(X:Cx)(st:Stmt)(t:TS):Prop:=
 ∀(pins:List (Addr×Obj)) (s:Shared) (σ:St) (H:Hp) (D:Ends),Inv X pins σ H s->t D σ H->wpAny (model X.prog X.w) X.A (exec st X.env) (SP X pins D) X.xe s
def zX(X:Cx)(st:List Stmt)(t:TS):Prop:=
 ∀(pins:List (Addr×Obj)) (s:Shared) (σ:St) (H:Hp) (D:Ends),Inv X pins σ H s->t D σ H->wpAny (model X.prog X.w) X.A (execs st X.env) (SP X pins D) X.xe s
theorem cM{α:Type}{t:Sem α}{Q Q' :α->Shared->Prop}{M:Model}{A:Around}{E:aHx}{s:Shared}(h:wpAny M A t Q E s)(hQ:∀a s,Q a s->Q' a s):wpAny M A t Q' E s:=aGs h hQ λ_ _ x=>x
section
variable {X:Cx}
def aCv(i:Nat):TE:=λσ H Q=>∃v,σ[i]? =some (some v)/\Q v H
def tC(v:V):TE:=λ_ H Q=>Q v H
theorem UY{i:Nat}{x:Str}{pos:Pos}(hN:X.N[i]? =some x)(hv:Vis X.env.scope x)(hd:(x==("__debug__":Str))=false:=by decide)(hcd:(x==("__classdict__":Str))=false:=by decide):PE X (.Name x pos) (aCv i):=by
 intro pins s σ H Q I h;obtain⟨v,e,h⟩:=h;obtain⟨m,hn,hl⟩:=I.loc;obtain⟨u,r,l⟩:=hl i x v hN e hv
 have fin:EP X pins σ Q u s:=⟨v,H,I,r,h⟩
 rcases l with ⟨hk,hm⟩ | ⟨hk,c,hc,hcell⟩
 ·exact wpAny_Name (wpAny_loadName_local I.ok.kind hk hn hm fin) hd
 ·rcases hk with hk | hk
  ·exact wpAny_Name (wpAny_loadName_cell I.ok.kind hk hc hcell fin) hd
  ·exact wpAny_Name (wpAny_loadName_free I.ok.kind hk hc hcell fin hcd) hd
theorem U3{i j pos}:PE X (.Constant (.int i) j pos) (tC (.int i)):=λ_ _ _ H _ I h=>wpAny_Constant_int ⟨.int i,H,I.tok _,⟨_,rfl⟩,h⟩
theorem aA6{b j pos}:PE X (.Constant (.bool b) j pos) (tC (.bl b)):=λ_ _ _ H _ I h=>Constant_bool ⟨.bl b,H,I,rfl,h⟩
def Gl(X:Cx)(x:Str):Prop:=X.env.kindOf x=some .globalImplicit
theorem GK{E:aHx}{pins:List (Addr×Obj)}{s:Shared}{σ:St}{H:Hp}{x:Str}{u:Value}{pos:Pos}{Q:aHx}(I:Inv X pins σ H s)(hg:Gl X x)(hm:X.mg x=some u)(h:Q u s)
  (hd:(x==("__debug__":Str))=false:=by decide):wpAny (model X.prog X.w) X.A (eval (.Name x pos) X.env) Q E s:=
 Calls.Name_function_global I.ok.kind hg (Calls.loadGlobal_global (by rw[I.ok.glob];exact I.mod.glob.keeps I.bk) hm h) hd
theorem kZ{E:aHx}{pins:List (Addr×Obj)}{s:Shared}{σ:St}{H:Hp}{x:Str}{u:Value}{pos:Pos}{Q:aHx}(I:Inv X pins σ H s)(hg:Gl X x)(hm:X.mg x=none)(hv:bootBuiltins x=some u)(h:Q u s)
  (hn:x≠ "__name__":=by decide) (hd:(x==("__debug__":Str))=false:=by decide):wpAny (model X.prog X.w) X.A (eval (.Name x pos) X.env) Q E s:=by
 obtain⟨mb,h1,h2⟩:=I.mod.blt;exact Calls.Name_function_global I.ok.kind hg (Calls.loadGlobal_builtin (by rw[I.ok.glob];exact I.mod.glob.keeps I.bk) hm (by rw[I.ok.blt];exact h1.keeps I.bk) ((h2 x hn).trans hv) h) hd
theorem PZ{x:Str}{v:V}{u:Value}{pos:Pos}(hg:Gl X x)(hm:X.mg x=some u)(r:RelV v u)(hd:(x==("__debug__":Str))=false:=by decide):PE X (.Name x pos) (tC v):=
 λ_ _ _ H _ I h=>GK I hg hm ⟨v,H,I,r,h⟩ hd
theorem P6{x:Str}{v:V}{u:Value}{pos:Pos}(hg:Gl X x)(hm:X.mg x=none)(hv:bootBuiltins x=some u)(r:RelV v u)(hn:x≠ "__name__":=by decide)(hd:(x==("__debug__":Str))=false:=by decide):PE X (.Name x pos) (tC v):=
 λ_ _ _ H _ I h=>kZ I hg hm hv ⟨v,H,I,r,h⟩ hn hd
variable {a b:Expr}{ta tb:TE}{pos:Pos}
theorem LY(b:Expr){op:CmpOp}(h:op≠ .In)(h2:op≠ .NotIn):behindInMarks op b=false:=by
 have e1:(op==CmpOp.In)=false:=by cases op <;> first | rfl | exact absurd rfl h
 have e2:(op==CmpOp.NotIn)=false:=by cases op <;> first | rfl | exact absurd rfl h2
 cases b <;> simp[behindInMarks,e1,e2]
variable {tA tB' :TT}{rest:List Expr}
def aD6(t u:TT):TT:=λσ H Q=>t σ H λc H1=>if c=true then u σ H1 Q else Q false H1
def tOr(t u:TT):TT:=λσ H Q=>t σ H λc H1=>if c=true then Q true H1 else u σ H1 Q
def aD0(t:TT):TT:=λσ H Q=>t σ H λc H1=>Q (!c) H1
theorem PF(ha:PT X a tA):PW X (.BoolOp .And [a] pos) tA:=by
 intro wh pins s σ H Q I h;refine isTrue_and (cM (ha pins s σ H Q I h) λc s1 e=>?_)
 cases c with
 | true=>exact isTrue_and_nil e
 | false=>exact e
theorem UM(ha:PT X a tA):PW X (.BoolOp .Or [a] pos) tA:=by
 intro wh pins s σ H Q I h;refine isTrue_or (cM (ha pins s σ H Q I h) λc s1 e=>?_)
 cases c with
 | false=>exact isTrue_or_nil e
 | true=>exact e
theorem UN(ha:PT X a tA)(hb:PW X (.BoolOp .And (b::rest) pos) tB'):PW X (.BoolOp .And (a::b::rest) pos) (aD6 tA tB'):=by
 intro wh pins s σ H Q I h;refine isTrue_and (cM (ha pins s σ H _ I h) λc s1 zz5=>?_);obtain⟨H1,I1,q1⟩:=zz5
 cases c with
 | true=>exact hb wh pins s1 σ H1 Q I1 q1
 | false=>exact⟨H1,I1,q1⟩
theorem Z8(ha:PT X a tA)(hb:PW X (.BoolOp .Or (b::rest) pos) tB'):PW X (.BoolOp .Or (a::b::rest) pos) (tOr tA tB'):=by
 intro wh pins s σ H Q I h;refine isTrue_or (cM (ha pins s σ H _ I h) λc s1 zz6=>?_);obtain⟨H1,I1,q1⟩:=zz6
 cases c with
 | true=>exact⟨H1,I1,q1⟩
 | false=>exact hb wh pins s1 σ H1 Q I1 q1
theorem UO(ha:PT X a tA):PT X (.UnaryOp .Not a pos) (aD0 tA):=by
 intro pins s σ H Q I h;exact isTrue_not (ha pins s σ H (λc H1=>Q (!c) H1) I h)
def ZN(ta tb:TE):TE:=λσ H Q=>ta σ H λx H1=>∃c,x= .bl c/\if c=true then tb σ H1 Q else Q (.bl false) H1
def ZH(ta:TE):TE:=λσ H Q=>ta σ H λx H1=>∃c,x= .bl c/\Q (.bl (!c)) H1
theorem UZ{op}{t:TE}(h:PE X a t):PE X (.BoolOp op [a] pos) t:=λpins s σ H Q I hw=>BoolOp_one (h pins s σ H Q I hw)
theorem U4(ha:PE X a ta)(hb:PE X (.BoolOp .And (b::rest) pos) tb):PE X (.BoolOp .And (a::b::rest) pos) (ZN ta tb):=by
 intro pins s σ H Q I h;refine BoolOp_and (cM (ha pins s σ H _ I h) λv s1 zz7=>?_);obtain⟨x,H1,I1,r1,q1⟩:=zz7;obtain⟨c,rfl,q1⟩:=q1;cases r1;refine aHi ?_
 cases c with
 | true=>exact hb pins s1 σ H1 Q I1 q1
 | false=>exact⟨.bl false,H1,I1,rfl,q1⟩
theorem U0(ha:PE X a ta):PE X (.UnaryOp .Not a pos) (ZH ta):=by
 intro pins s σ H Q I h;refine UnaryOp_ (cM (ha pins s σ H _ I h) λv s1 zz9=>?_);obtain⟨x,H1,I1,r1,q1⟩:=zz9;obtain⟨c,rfl,q1⟩:=q1;cases r1;exact not_of (aHi ⟨.bl (!c),H1,I1,rfl,q1⟩)
def tIf(t:TT)(ta tb:TE):TE:=λσ H Q=>t σ H λc H1=>if c=true then ta σ H1 Q else tb σ H1 Q
theorem LJ{c:Expr}(hc:PT X c tA)(ha:PE X a ta)(hb:PE X b tb):PE X (.IfExp c a b pos) (tIf tA ta tb):=by
 intro pins s σ H Q I h;refine wpAny_IfExp (cM (hc pins s σ H _ I h) λd s1 zz10=>?_);obtain⟨H1,I1,q1⟩:=zz10
 cases d with
 | true=>exact ha pins s1 σ H1 Q I1 q1
 | false=>exact hb pins s1 σ H1 Q I1 q1
end
def nS(K:aHw)(H:Hp)(a:Addr)(xs:List V):Prop:=
 Rd H a (.lst xs)\/
  ∃(o:Obj) (aG:Array Value) (n:Nat),K.lookup a=some o/\o.cls= .type "list"/\o.dict=none/\o.data= .seq aG n/\aG.size<=sizeLine/\Vals xs aG.toList
def nQ(K:aHw)(H:Hp)(a:Addr)(xs:List V):Prop:=
 Rd H a (.tup xs)\/
  ∃(o:Obj) (aG:Array Value) (n:Nat),K.lookup a=some o/\o.cls= .type "tuple"/\o.dict=none/\o.data= .seq aG n/\aG.size<=sizeLine/\Vals xs aG.toList
def aEw:Value->Option V
 | .none=>some .b7
 | .bool b=>some (.bl b)
 | .int i _=>some (.int i)
 | .str x _=>some (.str x)
 | .bytes b _=>some (.byt b)
 | .float b _=>some (.flt b)
 | .ref a=>some (.ref a)
 | .type n=>some (.ty n)
 | _=>none
theorem RelV.abs{x:V}{u:Value}(r:RelV x u):aEw u=some x:=by
 cases x with
 | b7=>cases r;rfl
 | bl _=>cases r;rfl
 | int _=>obtain⟨t,rfl⟩:=r;rfl
 | str _=>obtain⟨t,rfl⟩:=r;rfl
 | byt _=>obtain⟨t,rfl⟩:=r;rfl
 | flt _=>obtain⟨t,rfl⟩:=r;rfl
 | ref _=>cases r;rfl
 | ty _=>cases r;rfl
theorem RelV.inj{x y:V}{u:Value}(r:RelV x u)(q:RelV y u):x=y:=aFl (r.abs.symm.trans q.abs)
theorem Vals.inj:∀{xs ys:List V} {us:List Value},Vals xs us->Vals ys us->xs=ys
 | _,_,_,.nil,.nil=>rfl
 | _,_,_,.cons r t,.cons r' t' =>by rw[r.inj r',Vals.inj t t']
section
variable {X:Cx}{pins:List (Addr×Obj)}{σ:St}{H:Hp}{s:Shared}{a:Addr}{xs ys:List V}
theorem nS.of{K:aHw}(h:H a=some (.lst xs)):nS K H a xs:= .inl (.inl h)
theorem nQ.of{K:aHw}(h:H a=some (.tup xs)):nQ K H a xs:= .inl (.inl h)
theorem Inv.list(I:Inv X pins σ H s)(h:nS X.K H a xs):∃aG:List Value,Vals xs aG/\PlainL s.heap a aG.toArray/\xs.length<=sizeLine:=by
 rcases h with h | ⟨o,aG,n,hk,hc,hd,hs,hz,r⟩
 ·obtain⟨z,aG,n,r,e⟩:=h.ok I.bG;exact⟨aG,r,⟨_,n,e,rfl,rfl,rfl⟩,z⟩
 ·refine⟨aG.toList,r,⟨o,n,I.WW a o hk,hc,hd,by simpa using hs⟩,?_⟩;have e:=r.length;simp only[Array.length_toList]at e
  lia
theorem Inv.tuple(I:Inv X pins σ H s)(h:nQ X.K H a xs):∃aG:List Value,Vals xs aG/\IsTup s.heap a aG.toArray/\xs.length<=sizeLine:=by
 rcases h with h | ⟨o,aG,n,hk,hc,_,hs,hz,r⟩
 ·obtain⟨z,aG,r,p,_⟩:=h.ok I.bG;exact⟨aG,r,p,z⟩
 ·refine⟨aG.toList,r,⟨o,I.WW a o hk,hc,n,by simpa using hs⟩,?_⟩;have e:=r.length;simp only[Array.length_toList]at e
  lia
theorem Inv.TV(I:Inv X pins σ H s)(h:nQ X.K H a xs):∃ob,s.heap.get? a=some ob/\ob.cls= .type "tuple"/\ob.dict=none:=by
 rcases h with h | ⟨o,aG,n,hk,hc,hd,hs,hz,r⟩
 ·obtain⟨z,aG,r,⟨o,e,c,_⟩,nd⟩:=h.ok I.bG;exact⟨o,e,c,nd o e⟩
 ·exact⟨o,I.WW a o hk,hc,hd⟩
theorem Inv.BR(I:Inv X pins σ H s)(h:nS X.K H a xs)(h' :nS X.K H a ys):xs=ys:=by
 obtain⟨aG,r,⟨o,n,e,_,_,d⟩,_⟩:=I.list h;obtain⟨its',r',⟨o',n',e',_,_,d'⟩,_⟩:=I.list h';rw[e]at e';cases e';rw[d]at d';injection d' with d1 _;have:aG=its' :=by simpa using aG8 Array.toList d1
 subst this;exact r.inj r'
theorem Inv.wD(I:Inv X pins σ H s)(h:nQ X.K H a xs)(h' :nQ X.K H a ys):xs=ys:=by
 obtain⟨aG,r,⟨o,e,_,n,d⟩,_⟩:=I.tuple h;obtain⟨its',r',⟨o',e',_,n',d'⟩,_⟩:=I.tuple h';rw[e]at e';cases e';rw[d]at d';injection d' with d1 _;have:aG=its' :=by simpa using aG8 Array.toList d1
 subst this;exact r.inj r'
end
abbrev Cx.vK(X:Cx)(E:aHx):Cx:={X with xe:=E}
abbrev Cx.QG(X:Cx):Cx:=X.vK λ_ _=>False
theorem Cx.Ok.vK{X:Cx}(ok:X.Ok)(E:aHx):(X.vK E).Ok:=
 ⟨ok.mod,ok.kind,ok.glob,ok.blt,ok.above,ok.inj,ok.has,ok.cab,ok.hd,ok.frames,ok.stk,ok.exf,ok.bs,ok.R0,ok.LV,ok.NJ,ok.uS,ok.YQ⟩
theorem Cx.Ok.kI{X:Cx}{E:aHx}(ok:(X.vK E).Ok):X.Ok:=
 ⟨ok.mod,ok.kind,ok.glob,ok.blt,ok.above,ok.inj,ok.has,ok.cab,ok.hd,ok.frames,ok.stk,ok.exf,ok.bs,ok.R0,ok.LV,ok.NJ,ok.uS,ok.YQ⟩
section
variable {X:Cx}{pins:List (Addr×Obj)}{σ:St}{H:Hp}{s:Shared}{E:aHx}
theorem Inv.vK(I:Inv X pins σ H s)(E:aHx):Inv (X.vK E) pins σ H s:=⟨I.ok.vK E,I.os,I.bare,I.base,I.loc,I.cell,I.free,I.lA,I.pin,I.bG,I.len⟩
theorem Inv.kI(I:Inv (X.vK E) pins σ H s):Inv X pins σ H s:=⟨I.ok.kI,I.os,I.bare,I.base,I.loc,I.cell,I.free,I.lA,I.pin,I.bG,I.len⟩
theorem SP.kI{D:Ends}{f:Flow}{s' :Shared}(h:SP (X.vK E) pins D f s'):SP X pins D f s' :=by
 cases f with
 | next=>obtain⟨σ',H',I,q⟩:=h;exact⟨σ',H',I.kI,q⟩
 | brk=>obtain⟨σ',H',I,q⟩:=h;exact⟨σ',H',I.kI,q⟩
 | cont=>obtain⟨σ',H',I,q⟩:=h;exact⟨σ',H',I.kI,q⟩
 | ret u=>obtain⟨v,σ',H',I,r,q⟩:=h;exact⟨v,σ',H',I.kI,r,q⟩
theorem zX.QG{st:List Stmt}{t:TS}(h:zX X.QG st t):zX X st t:=λpins s σ H D I hw=>
 aGs (h pins s σ H D (I.vK _) hw) (λ_ _ q=>q.kI) λ_ _ z=>False.elim z
end
section
variable {X:Cx}{st:Stmt}{rest:List Stmt}{t u:TS}{e:Expr}{te:TE}{pos:Pos}
def ZJ:TS:=λD σ H=>D.nx σ H
def aCy(t u:TS):TS:=λD σ H=>t {D with nx:=u D} σ H
theorem PN:zX X [] ZJ:=λ_ _ σ H _ I h=>wpAny_execs_nil ⟨σ,H,I,h⟩
theorem K7(h1:PS X st t)(h2:zX X rest u):zX X (st::rest) (aCy t u):=by
 intro pins s σ H D I h;refine wpAny_execs_cons (cM (h1 pins s σ H {D with nx:=u D} I h) λf s1 q=>?_)
 cases f with
 | next=>
  obtain⟨σ',H',I',q⟩:=q;exact h2 pins s1 σ' H' D I' q
 | ret v=>exact q
 | brk=>exact q
 | cont=>exact q
theorem PM(h1:PS X st t):zX X [st] t:=by
 intro pins s σ H D I h;refine wpAny_execs_cons (cM (h1 pins s σ H D I h) λf s1 q=>?_)
 cases f with
 | next=>exact wpAny_execs_nil q
 | ret v=>exact q
 | brk=>exact q
 | cont=>exact q
theorem Inv.quiet{pins:List (Addr×Obj)}{σ:St}{H:Hp}{s:Shared}(I:Inv X pins σ H s):interactive X.env=false:=by simp[interactive,I.ok.kind]
def ZL(te:TE):TS:=λD σ H=>te σ H λ_ H1=>D.nx σ H1
theorem PQ(he:PE X e te)(hs:swapsWith e none pos.line X.env=pure false:=by rfl):PS X (.Expr e pos) (ZL te):=by
 intro pins s σ H D I h;exact wpAny_Expr_any (cM (he pins s σ H _ I h) λv s1 zz13=>by obtain⟨x,H1,I1,r1,q1⟩:=zz13;exact⟨σ,H1,I1,q1⟩) I.quiet hs
def aCz(te:TE):TS:=λD σ H=>te σ H D.rt
theorem UQ(he:PE X e te):PS X (.Return (some e) pos) (aCz te):=by
 intro pins s σ H D I h;exact wpAny_Return_some (cM (he pins s σ H _ I h) λv s1 zz14=>by obtain⟨x,H1,I1,r1,q1⟩:=zz14;exact⟨x,σ,H1,I1,r1,q1⟩)
def aD3(c:TT)(t u:TS):TS:=λD σ H=>c σ H λb H1=>if b=true then t D σ H1 else u D σ H1
theorem Z9{c:Expr}{a b:List Stmt}{tc:TT}(hc:PT X c tc)(ha:zX X a t)(hb:zX X b u):PS X (.If c a b pos) (aD3 tc t u):=by
 intro pins s σ H D I h;refine wpAny_If (cM (hc pins s σ H _ I h) λd s1 zz15=>?_);obtain⟨H1,I1,q1⟩:=zz15
 cases d with
 | true=>exact ha pins s1 σ H1 D I1 q1
 | false=>exact hb pins s1 σ H1 D I1 q1
end
abbrev TG:=V->St->Hp->(St->Hp->Prop)->Prop
abbrev HB:=List V->St->Hp->(St->Hp->Prop)->Prop
def PG(X:Cx)(target:Expr)(t:TG):Prop:=
 ∀(pins:List (Addr×Obj)) (s:Shared) (σ:St) (H:Hp) (v:V) (u:Value) (Q:St->Hp->Prop),Inv X pins σ H s->RelV v u->t v σ H Q->
  wpAny (model X.prog X.w) X.A (assign target X.env u) (λ_ s' =>∃σ' H',Inv X pins σ' H' s' /\Q σ' H') X.xe s
def YH(X:Cx)(ts:List Expr)(t:HB):Prop:=
 ∀(pins:List (Addr×Obj)) (s:Shared) (σ:St) (H:Hp) (vs:List V) (us:List Value) (Q:St->Hp->Prop),Inv X pins σ H s->Vals vs us->t vs σ H Q->
  wpAny (model X.prog X.w) X.A (assignInOrder ((assignEach ts X.env).map (·.2)) us) (λ_ s' =>∃σ' H',Inv X pins σ' H' s' /\Q σ' H') X.xe s
abbrev YG:=V->V->V->Hp->(Hp->Prop)->Prop
def aBu(X:Cx)(t:YG):Prop:=
 ∀(pins:List (Addr×Obj)) (s:Shared) (σ:St) (H:Hp) (o i v:V) (ov iv u:Value) (Q:Hp->Prop),Inv X pins σ H s->RelV o ov->RelV i iv->RelV v u->t o i v H Q->
  wpAny (model X.prog X.w) X.A (setItem ov iv u) (λ_ s' =>∃H',Inv X pins σ H' s' /\Q H') X.xe s
abbrev TIp:=V->V->Hp->VK->Prop
def PIp(X:Cx)(op:Operator)(t:TIp):Prop:=
 ∀(pins:List (Addr×Obj)) (s:Shared) (σ:St) (H:Hp) (x y:V) (v u:Value) (Q:VK),Inv X pins σ H s->RelV x v->RelV y u->t x y H Q->
  wpAny (model X.prog X.w) X.A (inplaceOp op v u) (EP X pins σ Q) X.xe s
section
variable {X:Cx}{pos:Pos}
def rH(i:Nat):TG:=λv σ H Q=>Q (σ.set i (some v)) H
theorem PX{i:Nat}{x:Str}(hN:X.N.Nodup)(hi:X.N[i]? =some x)(hx:Loc X.env.scope x)(hf:X.fn x=true\/X.env.scope.names.lookup x=some .local:=by first | exact .inl rfl | exact .inr rfl | assumption):PG X (.Name x pos) (rH i):=by
 intro pins s σ H v u Q I r h;exact wpAny_assign_Name (tK I hN hi hx r (λs' I' =>⟨_,H,I',h⟩) hf)
def ND:HB:=λvs σ H Q=>vs=[]/\Q σ H
def CH(t:TG)(u:HB):HB:=λvs σ H Q=>∃v r,vs=v::r/\t v σ H λσ' H' =>u r σ' H' Q
theorem PV:YH X [] ND:=by
 intro pins s σ H vs us Q I r h;obtain⟨e,h⟩:=h;subst e;cases r;exact assignInOrder_nil ⟨σ,H,I,h⟩
theorem LF{e:Expr}{es:List Expr}{t:TG}{u:HB}(h1:PG X e t)(h2:YH X es u)
  (hs:(assignEach (e::es) X.env).map (·.2)=assign e X.env::(assignEach es X.env).map (·.2):=by rfl):YH X (e::es) (CH t u):=by
 intro pins s σ H vs us Q I r h;obtain⟨v,vr,e1,h⟩:=h;subst e1
 cases r with
 | cons r rr=>
  rw[hs];refine assignInOrder_cons (cM (h1 pins s σ H _ _ _ I r h) λ_ s1 zz16=>?_);obtain⟨σ1,H1,I1,q1⟩:=zz16;exact h2 pins s1 σ1 H1 _ _ Q I1 rr q1
def XQ(K:aHw)(n:Nat)(t:HB):TG:=λv σ H Q=>∃a xs,v= .ref a/\nQ K H a xs/\xs.length=n/\t xs σ H Q
theorem UU{es:List Expr}{k:Nat}{t:HB}{n:Nat}(hc:X.calm=true)(h:YH X es t)
  (hn:(assignEach es X.env).length=n:=by rfl) (hst:(assignEach es X.env).findIdx? (·.1)=none:=by rfl):PG X (.Tuple es k pos) (XQ X.K n t):=by
 intro pins s σ H v u Q I r hw;obtain⟨a,xs,e1,hq,hl,hw⟩:=hw;subst e1;cases r;obtain⟨aG,rv,ht,hz⟩:=I.tuple hq;refine assign_Tuple_tuple (I.ok.hd hc) ht (by simp[hn,<-hl,rv.length]) hst λh' hx=>?_;have I1:Inv X pins σ H {s with heap:=h'}:=I.kept (t' :=s.toks) λb o e=>hx b o (aFj (aFc e)) e;exact h pins _ σ H xs _ Q I1 (by simpa using rv) hw
def aEm(to ti:TE)(t:YG):TG:=λv σ H Q=>to σ H λo H1=>ti σ H1 λi H2=>t o i v H2 λH3=>Q σ H3
theorem UW{o i:Expr}{to ti:TE}{t:YG}(ho:PE X o to)(hi:PE X i ti)(hs:aBu X t)
  (ha:∀v,assign (.Subscript o i pos) X.env v=(do
   let ov<-holding [v] (eval o X.env)
   let iv<-holding [v,ov] (eval i X.env)
   standAt pos
   holding [v,ov,iv] (setItem ov iv v)
   release [v,ov,iv] []):=by intro _;rfl):PG X (.Subscript o i pos) (aEm to ti t):=by
 intro pins s σ H v u Q I r h;rw[ha];refine aF3 (aFx (cM (ho pins s σ H _ I h) λov s1 zz17=>?_));obtain⟨x,H1,I1,r1,q1⟩:=zz17;refine aF3 (aFx (cM (hi pins s1 σ H1 _ I1 q1) λiv s2 zz18=>?_));obtain⟨y,H2,I2,r2,q2⟩:=zz18;refine aF3 (wpAny_standAt (aF3 (aFx (cM (hs pins s2 σ H2 x y v ov iv u _ I2 r1 r2 r q2) λ_ s3 zz19=>?_))));obtain⟨H3,I3,q3⟩:=zz19;exact wpAny_release ⟨σ,H3,I3,q3⟩
def OX(te:TE)(g:TG):TS:=λD σ H=>te σ H λx H1=>g x σ H1 D.nx
theorem LB{tg e:Expr}{te:TE}{g:TG}(he:PE X e te)(hg:PG X tg g)(hs:swapsWithSole [tg] e pos.line X.env=pure false:=by rfl)(hw:swappedStores [tg] e X.env=pure none:=by rfl)
  (h1:(assignEach [tg] X.env).map (·.2)=[assign tg X.env]:=by rfl):PS X (.Assign [tg] e pos) (OX te g):=by
 intro pins s σ H D I h;refine wpAny_Assign_stores (cM (he pins s σ H _ I h) λv s1 ⟨x,H1,I1,r1,q1⟩=>?_) hs hw;rw[h1];exact cM (hg pins s1 σ H1 x v _ I1 r1 q1) λ_ s2 q=>q
theorem UP{i:Nat}{x:Str}{e:Expr}{te:TE}{pos' :Pos}(hN:X.N.Nodup)(hi:X.N[i]? =some x)(hx:Loc X.env.scope x)(he:PE X e te)(hs:swapsWith e (some (.Name x pos')) pos.line X.env=pure false:=by rfl)(hf:X.fn x=true\/X.env.scope.names.lookup x=some .local:=by first | exact .inl rfl | exact .inr rfl | assumption):
  PS X (.Assign [.Name x pos'] e pos) (OX te (rH i)):=by
 intro pins s σ H D I h;refine wpAny_Assign_Name (cM (he pins s σ H _ I h) λv s1 ⟨y,H1,I1,r1,q1⟩=>?_) hs;exact tK I1 hN hi hx r1 (λs2 I2=>⟨_,H1,I2,q1⟩) hf
def aD5(i:Nat)(te:TE)(ti:TIp):TS:=λD σ H=>∃x,σ[i]? =some (some x)/\te σ H λy H1=>ti x y H1 λz H2=>D.nx (σ.set i (some z)) H2
theorem US{i:Nat}{x:Str}{e:Expr}{te:TE}{op:Operator}{ti:TIp}{pos' :Pos}(hN:X.N.Nodup)(hi:X.N[i]? =some x)(hx:Loc X.env.scope x)(he:PE X e te)(ho:PIp X op ti)(hf:X.fn x=true\/X.env.scope.names.lookup x=some .local:=by first | exact .inl rfl | exact .inr rfl | assumption):
  PS X (.AugAssign (.Name x pos') op e pos) (aD5 i te ti):=by
 intro pins s σ H D I h;obtain⟨v,e1,h⟩:=h;obtain⟨m,hn,hl⟩:=I.loc;have vis:Vis X.env.scope x:=by rcases hx with k | k;exact .inl k;exact .inr (.inl k)
 obtain⟨u,r,l⟩:=hl i x v hi e1 vis;refine wpAny_AugAssign_Name ?_
 have go:wpAny (model X.prog X.w) X.A (eval e X.env) (λw s₂=>wpAny (model X.prog X.w) X.A (inplaceOp op u w) (λr s₃=>wpAny (model X.prog X.w) X.A (storeName X.env x r) (λ_=>SP X pins D .next) X.xe s₃) X.xe s₂) X.xe s:=by
  refine cM (he pins s σ H _ I h) λw s1 zz21=>?_;obtain⟨y,H1,I1,r1,q1⟩:=zz21;refine cM (ho pins s1 σ H1 v y u w _ I1 r r1 q1) λz s2 zz22=>?_;obtain⟨zv,H2,I2,r2,q2⟩:=zz22;exact tK I2 hN hi hx r2 (λs3 I3=>⟨_,H2,I3,q2⟩) hf
 rcases l with ⟨hk,hm⟩ | ⟨hk,c,hc,hcell⟩
 ·exact wpAny_loadName_local I.ok.kind hk hn hm go
 ·rcases hk with hk | hk
  ·exact wpAny_loadName_cell I.ok.kind hk hc hcell go
  ·rcases hx with k | k
   ·have:X.env.scope.names.lookup x=some .free:=hk;rw[k]at this;cases this
   ·have:X.env.scope.names.lookup x=some .free:=hk;rw[k]at this;cases this
end
section
variable {X:Cx}{pos:Pos}
def T5(c:TT)(tb:TS):TS:=λD σ H=>∃W:Nat->St->Hp->Prop,(∃m,W m σ H)/\∀m σ H,W m σ H->
 c σ H λb H1=>if b=true then ∃N:St->Hp->Prop,(∀σ' H',N σ' H' ->∃m',m'<m/\W m' σ' H')/\tb {D with nx:=N,ct:=N,bk:=D.nx} σ H1 else D.nx σ H1
theorem K8{c:Expr}{body:List Stmt}{tc:TT}{tb:TS}(hp:PassesOwn (model X.prog X.w) X.A X.env X.xe)(hc:PT X c tc)(hb:zX X body tb):PS X (.While c body [] pos) (T5 tc tb):=by
 intro pins s σ H D I h;obtain⟨W,⟨m0,w0⟩,turn⟩:=h;refine wpAny_While (codeAny_whileLoop (λn s' =>∃σ' H',Inv X pins σ' H' s' /\W n σ' H') ?_ m0 ⟨σ,H,I,w0⟩);rintro n s1 ⟨σ1,H1,I1,w1⟩;refine aH5 hp (cM (hc pins s1 σ1 H1 _ I1 (turn n σ1 H1 w1)) λb s2 zz28=>?_);obtain⟨H2,I2,q2⟩:=zz28
 cases b with
 | true=>
  obtain⟨N,hN,q2⟩:=q2;rw[if_pos rfl];refine aH5 hp (cM (hb pins s2 σ1 H2 _ I2 q2) λf s3 q3=>?_)
  cases f with
  | next=>
   obtain⟨σ3,H3,I3,n3⟩:=q3;obtain⟨m',hm,w3⟩:=hN σ3 H3 n3;exact⟨m',hm,σ3,H3,I3,w3⟩
  | cont=>
   obtain⟨σ3,H3,I3,n3⟩:=q3;obtain⟨m',hm,w3⟩:=hN σ3 H3 n3;exact⟨m',hm,σ3,H3,I3,w3⟩
  | brk=>exact q3
  | ret v=>exact q3
 | false=>
  rw[if_neg Bool.false_ne_true];exact wpAny_execs_nil ⟨σ1,H2,I2,q2⟩
end
structure It where
 go:Nat->Hp->Prop
 YJ:Nat->Hp->V->Hp->Prop
 stop:Nat->Hp->Prop
def nR(X:Cx)(pins:List (Addr×Obj))(H:Hp)(b:Addr):Prop:=
 H b=none/\b≠X.env.locals/\b∉X.fs/\(b∈X.ex\/X.s₀.heap.objs.size<=b)/\(∀x c,X.env.cells.lookup x=some c->c≠b)/\∀p∈X.pn++pins,p.1≠b
theorem Inv.JC{X:Cx}{pins:List (Addr×Obj)}{σ:St}{H H' :Hp}{s:Shared}{b:Addr}(I:Inv X pins σ H s)(hb:s.heap.objs.size<=b)(hn:H' b=none):nR X pins H' b:=by
 refine⟨hn,aHo (aFo I.lt hb),I.aE6 hb,.inr (aFu I.sz hb),λx c e z=>?_,λp hp z=>?_⟩
 ·obtain⟨v,q⟩:=I.cell x c e;exact absurd (aFo q.lt (by rw[z];exact hb)) (aGm _)
 ·exact absurd (aFo (aFc (I.pin p hp).1) (by rw[z];exact hb)) (aGm _)
structure Turn(P:Program)(w:World)(K:aHw)(tg:Expr)(J:It)(fp:List Addr)(it:Addr)(tn:Nat->Heap->Prop):Prop where
 mem:it∈fp
 obj:∀i h,tn i h->∀b∈fp,∃o,h.get? b=some o/\∀v,o.data≠ .cell v
 keep:∀i h h',tn i h->(∀b∈fp,∀o,h.get? b=some o->h'.get? b=some o)->tn i h'
 item:∀(X:Cx),X.prog=P->X.w=w->X.K=K->X.calm=true->∀(i:Nat) (pins:List (Addr×Obj)) (s:Shared) (σ:St) (H:Hp) (E:aHx),Inv X pins σ H s->(∀b∈fp,nR X pins H b)->tn i s.heap->J.go i H->
  wpAny (model P w) X.A (pyNext (.ref it)) (λr s1=>∃u,r=some u/\
   wpAny (model P w) X.A (letOwnedTupleGo tg (.ref it) u) (λ_ s2=>∃x H',Inv X pins σ H' s2/\RelV x u/\J.YJ i H x H' /\tn (i+1) s2.heap/\∀b∈fp,H' b=none) E s1) E s
 done:∀(X:Cx),X.prog=P->X.w=w->X.K=K->X.calm=true->∀(i:Nat) (pins:List (Addr×Obj)) (s:Shared) (σ:St) (H:Hp) (E:aHx),Inv X pins σ H s->(∀b∈fp,nR X pins H b)->tn i s.heap->J.stop i H->
  wpAny (model P w) X.A (pyNext (.ref it)) (λr s1=>r=none/\Inv X pins σ H s1) E s
 self:∀(A:Around) (i:Nat) (s:Shared) (Q:aHx) (E:aHx),tn i s.heap->Q (.ref it) s->wpAny (model P w) A (pyIter (.ref it)) Q E s
abbrev TI:=St->Hp->(It->Hp->Prop)->Prop
def PIE(X:Cx)(pins:List (Addr×Obj))(σ:St)(tg:Expr)(R:It->Hp->Prop)(itv:Value)(s2:Shared):Prop:=
 ∃(it:Addr) (fp:List Addr) (tn:Nat->Heap->Prop) (J:It) (H' :Hp),itv= .ref it/\Inv X pins σ H' s2/\Turn X.prog X.w X.K tg J fp it tn/\tn 0 s2.heap/\(∀b∈fp,nR X pins H' b)/\R J H'
def PI(X:Cx)(tg iter:Expr)(wi:TI):Prop:=
 ∀(pins:List (Addr×Obj)) (s:Shared) (σ:St) (H:Hp) (R:It->Hp->Prop),Inv X pins σ H s->wi σ H R->
  wpAny (model X.prog X.w) X.A (eval iter X.env) (λv s1=>wpAny (model X.prog X.w) X.A (pyIter v) (PIE X pins σ tg R) X.xe s1) X.xe s
theorem GZ{M:Model}{A:Around}{E:aHx}{s:Shared}{tg:Expr}{it:Addr}{u:Value}{o:Obj}{n:String}{vs:Array Value}{Q:Unit->Shared->Prop}(ho:s.heap.get? it=some o)(hc:o.cls= .type n)(hd:o.data= .fields vs)
    (hn:["enumerate","zip","dict_itemiterator","dict_reverseitemiterator","odict_iterator","itertools.zip_longest","itertools.pairwise"].contains n=false) (hQ:Q () s):wpAny M A (letOwnedTupleGo tg (.ref it) u) Q E s:=by
  unfold letOwnedTupleGo
  cases tg <;> first
    | exact aF5 hQ
    | (cases u <;> first
        | exact aF5 hQ
        | (refine aF3 (wpAny_load ho ?_)
           rw[hc,hd];show wpAny M A (if (["enumerate","zip","dict_itemiterator","dict_reverseitemiterator","odict_iterator","itertools.zip_longest","itertools.pairwise"].contains n && vs[0]? ==some (rawInt _))=true then _ else _) Q E s;rw[if_neg (by intro h;rw[hn,Bool.false_and]at h;cases h)]
           exact aF5 hQ))
def Itl(K:aHw)(a:Addr):It:=
 ⟨λi H=>∃xs x,nS K H a xs/\xs[i]? =some x,λi H x H' =>H' =H/\∀xs,nS K H a xs->xs[i]? =some x,λi H=>∃xs,nS K H a xs/\xs.length<=i⟩
def Itt(K:aHw)(a:Addr):It:=
 ⟨λi H=>∃xs x,nQ K H a xs/\xs[i]? =some x,λi H x H' =>H' =H/\∀xs,nQ K H a xs->xs[i]? =some x,λi H=>∃xs,nQ K H a xs/\xs.length<=i⟩
def Itr(lo:Int)(n:Nat):It:=⟨λi _=>i<n,λi H x H' =>H' =H/\x= .int (lo+i),λi _=>n<=i⟩
theorem HI{P:Program}{w:World}{K:aHw}{tg:Expr}(a it:Addr):Turn P w K tg (Itl K a) [it] it (λi h=>h.IsListIter it a i) where
 mem:=by simp
 obj:=λi h st b hb=>by
  have e:b=it:=by simpa using hb
  subst e;obtain⟨o,e,c,d⟩:=st;exact⟨o,e,λv z=>by rw[d]at z;cases z⟩
 keep:=λi h h' st k=>st.at λo e=>k it (by simp) o e
 item:=by
  intro X hP hw hK hc i pins s σ H E I hf st hg;subst hP hw hK;obtain⟨xs,x,hq,hx⟩:=hg;obtain⟨aG,rv,p,hz⟩:=I.list hq;obtain⟨u,hu,ru⟩:=rv.get hx;obtain⟨f0,f1,f2,f3,f4,f5⟩:=hf it (by simp);refine wpAny_pyNext_list_item st p.isList (x:=u) (by simpa using hu) λh' st' sb=>?_;have I1:Inv X pins σ H {s with heap:=h'}:=I.turned (t' :=s.toks) (λb o hb e=>(sb.2 b hb).trans e) f0 f1 f3 f4 f5;obtain⟨o,e,c,d⟩:=id st';exact⟨u,rfl,GZ (s:={s with heap:=h'}) e c d (by decide) ⟨x,H,I1,ru,⟨rfl,λys hy=>by rw[I.BR hy hq];exact hx⟩,st',λb hb=>(hf b hb).1⟩⟩
 done:=by
  intro X hP hw hK hc i pins s σ H E I hf st hg;subst hP hw hK;obtain⟨xs,hq,hx⟩:=hg;obtain⟨aG,rv,p,hz⟩:=I.list hq;obtain⟨f0,f1,f2,f3,f4,f5⟩:=hf it (by simp);have hl:=rv.length
  exact wpAny_pyNext_list_end (I.ok.hd hc) st p.isList (by simp;lia) λh' eb=>⟨rfl,I.turned (t' :=s.toks) (λb o hb e=>eb b o hb e) f0 f1 f3 f4 f5⟩
 self:=λ_ _ _ _ _ st h=>wpAny_pyIter_listiter st h
theorem DJ{P:Program}{w:World}{K:aHw}{tg:Expr}(a it:Addr):Turn P w K tg (Itt K a) [it] it (λi h=>h.IsTupleIter it a i) where
 mem:=by simp
 obj:=λi h st b hb=>by
  have e:b=it:=by simpa using hb
  subst e;obtain⟨o,e,c,d⟩:=st;exact⟨o,e,λv z=>by rw[d]at z;cases z⟩
 keep:=λi h h' st k=>st.at λo e=>k it (by simp) o e
 item:=by
  intro X hP hw hK hc i pins s σ H E I hf st hg;subst hP hw hK;obtain⟨xs,x,hq,hx⟩:=hg;obtain⟨aG,rv,p,hz⟩:=I.tuple hq;obtain⟨u,hu,ru⟩:=rv.get hx;obtain⟨f0,f1,f2,f3,f4,f5⟩:=hf it (by simp);refine wpAny_pyNext_tuple_item st (show s.heap.IsTuple a aG.toArray from p) (x:=u) (by simpa using hu) λh' st' sb=>?_;have I1:Inv X pins σ H {s with heap:=h'}:=I.turned (t' :=s.toks) (λb o hb e=>(sb.2 b hb).trans e) f0 f1 f3 f4 f5;obtain⟨o,e,c,d⟩:=id st';exact⟨u,rfl,GZ (s:={s with heap:=h'}) e c d (by decide) ⟨x,H,I1,ru,⟨rfl,λys hy=>by rw[I.wD hy hq];exact hx⟩,st',λb hb=>(hf b hb).1⟩⟩
 done:=by
  intro X hP hw hK hc i pins s σ H E I hf st hg;subst hP hw hK;obtain⟨xs,hq,hx⟩:=hg;obtain⟨aG,rv,p,hz⟩:=I.tuple hq;obtain⟨f0,f1,f2,f3,f4,f5⟩:=hf it (by simp);have hl:=rv.length
  exact wpAny_pyNext_tuple_end (I.ok.hd hc) st (show s.heap.IsTuple a aG.toArray from p) (by simp;lia) λh' eb=>⟨rfl,I.turned (t' :=s.toks) (λb o hb e=>eb b o hb e) f0 f1 f3 f4 f5⟩
 self:=λ_ _ _ _ _ st h=>wpAny_pyIter_tupleiter st h
theorem DL{P:Program}{w:World}{K:aHw}{tg:Expr}(it:Addr)(lo:Int)(n:Nat):Turn P w K tg (Itr lo n) [it] it (λi h=>IsRangeIter h it (lo+(i:Nat)*1) ((n:Int)-(i:Nat)) 1) where
 mem:=by simp
 obj:=λi h st b hb=>by
  have e:b=it:=by simpa using hb
  subst e
  exact⟨_,st,λv z=>by
   have z' :Data.fields _=Data.cell v:=z
   cases z'⟩
 keep:=λi h h' st k=>k it (by simp) _ st
 item:=by
  intro X hP hw hK hc i pins s σ H E I hf st hg;subst hP hw hK;obtain⟨f0,f1,f2,f3,f4,f5⟩:=hf it (by simp);have W:=Walks.range (prog:=X.prog) (w:=X.w) (I.ok.hd hc) it lo 1 n;refine W.item i s _ _ hg st λv h' tk hv st' kk=>?_;obtain⟨t,rfl⟩:=hv;have I1:Inv X pins σ H {s with heap:=h',toks:=tk}:=I.turned (λb o hb e=>kk b o (by simpa using hb) e) f0 f1 f3 f4 f5;refine⟨_,rfl,GZ (s:={s with heap:=h',toks:=tk}) (n:= "range_iterator") st' rfl rfl (by decide) ⟨.int (lo+i),H,I1,⟨t,?_⟩,⟨rfl,rfl⟩,st',λb hb=>(hf b hb).1⟩⟩;rw[Int.mul_one]
 done:=by
  intro X hP hw hK hc i pins s σ H E I hf st hg;subst hP hw hK;obtain⟨f0,f1,f2,f3,f4,f5⟩:=hf it (by simp)
  exact wpAny_pyNext_range_end (I.ok.hd hc) st (by have:n<=i:=hg;lia) λh' eb=>⟨rfl,I.turned (t' :=s.toks) (λb o hb e=>eb b o hb e) f0 f1 f3 f4 f5⟩
 self:=λ_ _ _ _ _ st h=>wpAny_pyIter_rangeiter st h
section
variable {X:Cx}{tg:Expr}
theorem BC{pins:List (Addr×Obj)}{σ:St}{H:Hp}{s:Shared}{R:It->Hp->Prop}{E:aHx}{lo hi:Int}{t u v:Tok}{tk:Nat}(I:Inv X pins σ H s)(h1: -(2^62)<=lo)(h2:lo<2^62)(h3: -(2^62)<=hi)(h4:hi<2^62)
  (q:R (Itr lo (hi-lo).toNat) H):wpAny (model X.prog X.w) X.A (pyIter (.ref s.heap.objs.size)) (PIE X pins σ tg R) E {s with heap:=s.heap.push {cls:= .type "range",data:= .fields #[.int lo t,.int hi u,.int 1 v]},toks:=tk}:=by
 refine wpAny_pyIter_range (IsRange.new ..) (small_one h1 h2 h3 h4) ?_;have I1:Inv X pins σ H {s with heap:=s.heap.push {cls:= .type "range",data:= .fields #[.int lo t,.int hi u,.int 1 v]},toks:=tk}:=I.kept λb o e=>aF4 _ e
 refine⟨(s.heap.push {cls:= .type "range",data:= .fields #[.int lo t,.int hi u,.int 1 v]}).objs.size,[(s.heap.push {cls:= .type "range",data:= .fields #[.int lo t,.int hi u,.int 1 v]}).objs.size],_,_,H,rfl,
  I1.kept (t' :=tk) λb o e=>aF4 _ e,DL _ lo (hi-lo).toNat,?_,λb hb=>?_,q⟩
 ·have e1:lo+((0:Nat):Int)*1=lo:=by simp
  have e2:(((hi-lo).toNat:Nat):Int)-((0:Nat):Int)=Builtin.Range.rangeSize lo hi 1:=by rw[rangeSize_one];split <;> lia
  show IsRangeIter _ _ (lo+((0:Nat):Int)*1) ((((hi-lo).toNat:Nat):Int)-((0:Nat):Int)) 1;rw[e1,e2];exact aFa _ rfl
 ·have e:b=(s.heap.push {cls:= .type "range",data:= .fields #[.int lo t,.int hi u,.int 1 v]}).objs.size:=by simpa using hb
  subst e;exact I1.JC (aF9 _) (I1.bG.fresh (aF9 _))
def aB8(ta:TA):TI:=λσ H R=>ta σ H λvs H1=>∃j:Int,vs=[.int j]/\ -(2^62)<=j/\j<2^62/\R (Itr 0 j.toNat) H1
def aB7(ta:TA):TI:=λσ H R=>ta σ H λvs H1=>∃i j:Int,vs=[.int i,.int j]/\(-(2^62)<=i/\i<2^62/\ -(2^62)<=j/\j<2^62)/\R (Itr i (j-i).toNat) H1
theorem HY{a:Expr}{ta:TA}{p pos:Pos}(hg:Gl X "range")(hm:X.mg "range"=none)(ha:PA X [a] ta)(hs:starEach [a] X.env=[(false,eval a X.env)]:=by rfl):PI X tg (.Call (.Name "range" p) [a] [] pos) (aB8 ta):=by
 intro pins s σ H R I h;refine Call_ (kZ I hg hm boot_range (aGb (cM (ha pos pins s σ H _ I h) λus s1 ⟨vs,H1,I1,r1,q1⟩=>?_) hs rfl));obtain⟨j,e,q1,q2,q⟩:=q1;subst e
 cases r1 with
 | cons r rr=>
  cases rr;obtain⟨t,rfl⟩:=r;exact call_range_1 (BC I1 (by lia) (by lia) q1 q2 (by simpa using q))
theorem HX{a b:Expr}{ta:TA}{p pos:Pos}(hg:Gl X "range")(hm:X.mg "range"=none)(ha:PA X [a,b] ta)(hs:starEach [a,b] X.env=[(false,eval a X.env),(false,eval b X.env)]:=by rfl)(hs2:starEach [b] X.env=[(false,eval b X.env)]:=by rfl):
  PI X tg (.Call (.Name "range" p) [a,b] [] pos) (aB7 ta):=by
 intro pins s σ H R I h;refine Call_ (kZ I hg hm boot_range (aGb (cM (ha pos pins s σ H _ I h) λus s1 ⟨vs,H1,I1,r1,q1⟩=>?_) (by rw[hs,hs2]) (by rw[hs2];rfl)));obtain⟨i,j,e,⟨q1,q2,q3,q4⟩,q⟩:=q1;subst e
 cases r1 with
 | cons r rr=>
  cases rr with
  | cons r' rr=>
   cases rr;obtain⟨t,rfl⟩:=r;obtain⟨t',rfl⟩:=r';exact call_range_2 (BC I1 q1 q2 q3 q4 q)
def aD4(wi:TI)(g:TG)(tb:TS):TS:=λD σ H=>wi σ H λJ H1=>∃W:Nat->Nat->St->Hp->Prop,(∃m,W 0 m σ H1)/\∀i m σ H,W i m σ H->
 (J.stop i H/\D.nx σ H)\/(J.go i H/\∃N:St->Hp->Prop,(∀σ' H',N σ' H' ->∃m',m'<m/\W (i+1) m' σ' H')/\∀x H',J.YJ i H x H' ->g x σ H' λσ2 H2=>tb {D with nx:=N,ct:=N,bk:=D.nx} σ2 H2)
def uA(fp:List Addr)(h:Heap):List (Addr×Obj):=fp.filterMap λb=>(h.get? b).map λo=>(b,o)
theorem i5{fp:List Addr}{h:Heap}{b:Addr}{o:Obj}(hb:b∈fp)(e:h.get? b=some o):(b,o)∈uA fp h:=List.mem_filterMap.mpr ⟨b,hb,by rw[e];rfl⟩
theorem IE{fp:List Addr}{h:Heap}{p:Addr×Obj}(hp:p∈uA fp h):p.1∈fp/\h.get? p.1=some p.2:=by
 obtain⟨b,hb,e⟩:=List.mem_filterMap.mp hp
 cases q:h.get? b with
 | none=>rw[q]at e;cases e
 | some o=>
  rw[q]at e;have e' :(b,o)=p:=aFl e;subst e';exact⟨hb,q⟩
theorem Inv.pinned{pins:List (Addr×Obj)}{σ:St}{H:Hp}{s:Shared}{fp:List Addr}(I:Inv X pins σ H s)(hf:∀b∈fp,nR X pins H b)(ho:∀b∈fp,∃o,s.heap.get? b=some o/\∀v,o.data≠ .cell v):Inv X (pins++uA fp s.heap) σ H s:=
 I.GC λp hp=>(aFb.mp hp).elim (λz=>I.pin p (aFs _ z)) λz=>by
  obtain⟨hb,e⟩:=IE z;obtain⟨f0,f1,f2,_⟩:=hf p.1 hb;obtain⟨o,e',d⟩:=ho p.1 hb;rw[e]at e';cases e';exact⟨e,f0,f1,f2,d⟩
theorem Inv.n8{pins pl:List (Addr×Obj)}{σ:St}{H:Hp}{s:Shared}(I:Inv X (pins++pl) σ H s):Inv X pins σ H s:=I.GC λp hp=>I.pin p (aFs _ (aGj _ hp))
theorem UR{iter:Expr}{body:List Stmt}{wi:TI}{g:TG}{tb:TS}{pos:Pos}(hp:PassesOwn (model X.prog X.w) X.A X.env X.xe)(hc:X.calm=true)(hi:PI X tg iter wi)(hg:PG X tg g)(hb:zX X body tb)
  (hs:∀x,foldedSetIterable iter X.env x=pure x:=by intro _;rfl):PS X (.For tg iter body [] pos) (aD4 wi g tb):=by
 intro pins s σ H D I h;refine wpAny_For (cM (hi pins s σ H _ I h) λv s1 h1=>cM h1 λitv s2 h2=>?_) hs;obtain⟨it,fp,tn,J,H2,e,I2,T,st2,f2,W,⟨m0,w0⟩,turn⟩:=h2;subst e
 have stat:∀{H' :Hp},(∀b∈fp,H' b=none)->∀b∈fp,nR X pins H' b:=λhn b hb=>⟨hn b hb,(f2 b hb).2⟩
 refine codeAny_forLoop_any (λn s' =>∃i σ' H',Inv X pins σ' H' s' /\tn i s'.heap/\(∀b∈fp,H' b=none)/\W i n σ' H') ?_ m0 ⟨0,σ,H2,I2,st2,λb hb=>(f2 b hb).1,w0⟩;rintro n s3 ⟨i,σ3,H3,I3,st3,fr3,w3⟩
 rcases turn i n σ3 H3 w3 with ⟨stop,qn⟩ | ⟨go,N,hN,step⟩
 ·refine aH5 hp (cM (T.done X rfl rfl rfl hc i pins s3 σ3 H3 X.xe I3 (stat fr3) st3 stop) λr s4 zz31=>?_);obtain⟨hr,I4⟩:=zz31;subst hr;exact wpAny_execs_nil ⟨σ3,H3,I4,qn⟩
 ·refine aH5 hp (cM (T.item X rfl rfl rfl hc i pins s3 σ3 H3 X.xe I3 (stat fr3) st3 go) λr s4 zz32=>?_);obtain⟨u,hr,h4⟩:=zz32;subst hr;refine aH5 hp (cM h4 λ_ s5 zz33=>?_);obtain⟨x,H5,I5,r5,y5,st5,fr5⟩:=zz33;have I5' :=I5.pinned (stat fr5) (T.obj _ _ st5);refine aH5 hp (cM (hg _ s5 σ3 H5 x u _ I5' r5 (step x H5 y5)) λ_ s6 zz34=>?_);obtain⟨σ6,H6,I6,q6⟩:=zz34;refine aH5 hp (cM (hb _ s6 σ6 H6 _ I6 q6) λf s7 q7=>?_)
  have again:∀{σ7:St} {H7:Hp},Inv X (pins++uA fp s5.heap) σ7 H7 s7->N σ7 H7->∃m,m<n/\∃i σ' H',Inv X pins σ' H' s7/\tn i s7.heap/\(∀b∈fp,H' b=none)/\W i m σ' H' :=λ{σ7 H7} I7 n7=>by
   obtain⟨m',hm,w7⟩:=hN σ7 H7 n7;refine⟨m',hm,i+1,σ7,H7,I7.n8,T.keep _ _ _ st5 λb hb o e=>(I7.pin (b,o) (aFs _ (aFs _ (i5 hb e)))).1,λb hb=>?_,w7⟩;obtain⟨o,e,d⟩:=T.obj _ _ st5 b hb;exact(I7.pin (b,o) (aFs _ (aFs _ (i5 hb e)))).2.1
  cases f with
  | next=>obtain⟨σ7,H7,I7,n7⟩:=q7;exact again I7 n7
  | cont=>obtain⟨σ7,H7,I7,n7⟩:=q7;exact again I7 n7
  | brk=>obtain⟨σ7,H7,I7,q7⟩:=q7;exact⟨σ7,H7,I7.n8,q7⟩
  | ret v=>obtain⟨x7,σ7,H7,I7,r7,q7⟩:=q7;exact⟨x7,σ7,H7,I7.n8,r7,q7⟩
end
abbrev R2:=V->V->Hp->VK->Prop
def dP(X:Cx)(f:Value->Value->Sem Value)(r:R2):Prop:=
 ∀(pins:List (Addr×Obj)) (s:Shared) (σ:St) (H:Hp) (x y:V) (v u:Value) (Q:VK),Inv X pins σ H s->RelV x v->RelV y u->r x y H Q->
  wpAny (model X.prog X.w) X.A (f v u) (EP X pins σ Q) X.xe s
def YU(X:Cx)(f:Value->Sem Value)(r:V->Hp->VK->Prop):Prop:=
 ∀(pins:List (Addr×Obj)) (s:Shared) (σ:St) (H:Hp) (x:V) (v:Value) (Q:VK),Inv X pins σ H s->RelV x v->r x H Q->
  wpAny (model X.prog X.w) X.A (f v) (EP X pins σ Q) X.xe s
def bY(X:Cx)(f:Value)(r:List V->Hp->VK->Prop):Prop:=
 ∀(pins:List (Addr×Obj)) (s:Shared) (σ:St) (H:Hp) (xs:List V) (us:List Value) (Q:VK),Inv X pins σ H s->Vals xs us->r xs H Q->
  wpAny (model X.prog X.w) X.A (call f us) (EP X pins σ Q) X.xe s
def aEx(X:Cx)(r:V->Hp->(Bool->Hp->Prop)->Prop):Prop:=
 ∀(pins:List (Addr×Obj)) (s:Shared) (σ:St) (H:Hp) (x:V) (v:Value) (Q:Bool->Hp->Prop),Inv X pins σ H s->RelV x v->r x H Q->
  wpAny (model X.prog X.w) X.A (truthy v) (TP X pins σ Q) X.xe s
def ZG(r:R2)(ta tb:TE):TE:=λσ H Q=>ta σ H λx H1=>tb σ H1 λy H2=>r x y H2 Q
def tUn(r:V->Hp->VK->Prop)(ta:TE):TE:=λσ H Q=>ta σ H λx H1=>r x H1 Q
def rI(C:Int->Int->Prop)(g:Int->Int->V):R2:=λx y H Q=>∃i j,x= .int i/\y= .int j/\C i j/\Q (g i j) H
def N9(g:Int->Int->V):R2:=λx y H Q=>∃i j,x= .int i/\y= .int j/\Q (g i j) H
def rU(g:Int->V):V->Hp->VK->Prop:=λx H Q=>∃i,x= .int i/\Q (g i) H
section
variable {X:Cx}{a b c:Expr}{ta tb tc:TE}{pos:Pos}
theorem YB(ha:PE X a ta)(hb:PE X b tb){pins:List (Addr×Obj)}{s:Shared}{σ:St}{H:Hp}{R:V->V->Hp->Prop}(I:Inv X pins σ H s)
  (h:ta σ H λx H1=>tb σ H1 λy H2=>R x y H2) {Q:aHx} {f:Value->Value->Sem Value}
  (hf:∀v u s2 x y H2,Inv X pins σ H2 s2->RelV x v->RelV y u->R x y H2->wpAny (model X.prog X.w) X.A (f v u) Q X.xe s2):
  wpAny (model X.prog X.w) X.A (eval a X.env) (λv s₁=>wpAny (model X.prog X.w) X.A (eval b X.env) (λu s₂=>wpAny (model X.prog X.w) X.A (f v u) Q X.xe s₂) X.xe s₁) X.xe s:=by
 refine cM (ha pins s σ H _ I h) λv s1 zz36=>?_;obtain⟨x,H1,I1,r1,q1⟩:=zz36;refine cM (hb pins s1 σ H1 _ I1 q1) λu s2 zz37=>?_;obtain⟨y,H2,I2,r2,q2⟩:=zz37;exact hf v u s2 x y H2 I2 r1 r2 q2
theorem aA2{op:Operator}{r:R2}(ho:dP X (binaryOp op) r)(ha:PE X a ta)(hb:PE X b tb):PE X (.BinOp a op b pos) (ZG r ta tb):=by
 intro pins s σ H Q I h;exact wpAny_BinOp (YB ha hb I h λv u s2 x y H2 I2 rx ry q=>ho pins s2 σ H2 x y v u Q I2 rx ry q)
theorem aA1{op:UnaryOp}{r:V->Hp->VK->Prop}(ho:YU X (unaryOp op) r)(ha:PE X a ta):PE X (.UnaryOp op a pos) (tUn r ta):=by
 intro pins s σ H Q I h;exact UnaryOp_ (cM (ha pins s σ H _ I h) λv s1 zz38=>by obtain⟨x,H1,I1,r1,q1⟩:=zz38;exact ho pins s1 σ H1 x v Q I1 r1 q1)
theorem opI{f:Value->Value->Sem Value}{C:Int->Int->Prop}{g:Int->Int->Int}
  (rule:∀(i j:Int) (t u:Tok) (s:Shared) (Q:aHx) (E:aHx),C i j->Q (.int (g i j) s.toks) {s with toks:=s.toks+1}->wpAny (model X.prog X.w) X.A (f (.int i t) (.int j u)) Q E s):
  dP X f (rI C λi j=>.int (g i j)):=by
 intro pins s σ H x y v u Q I rx ry h;obtain⟨i,j,rfl,rfl,hc,q⟩:=h;obtain⟨t,rfl⟩:=rx;obtain⟨t',rfl⟩:=ry;exact rule i j t t' s _ _ hc ⟨.int (g i j),H,I.tok _,⟨_,rfl⟩,q⟩
theorem VD{f:Value->Value->Sem Value}{g:Int->Int->Int}
  (rule:∀(i j:Int) (t u:Tok) (s:Shared) (Q:aHx) (E:aHx),Q (.int (g i j) s.toks) {s with toks:=s.toks+1}->wpAny (model X.prog X.w) X.A (f (.int i t) (.int j u)) Q E s):
  dP X f (N9 λi j=>.int (g i j)):=by
 intro pins s σ H x y v u Q I rx ry h;obtain⟨i,j,rfl,rfl,q⟩:=h;obtain⟨t,rfl⟩:=rx;obtain⟨t',rfl⟩:=ry;exact rule i j t t' s _ _ ⟨.int (g i j),H,I.tok _,⟨_,rfl⟩,q⟩
theorem QC{f:Value->Value->Sem Value}{g:Int->Int->Bool}
  (rule:∀(i j:Int) (t u:Tok) (s:Shared) (Q:aHx) (E:aHx),Q (.bool (g i j)) s->wpAny (model X.prog X.w) X.A (f (.int i t) (.int j u)) Q E s):
  dP X f (N9 λi j=>.bl (g i j)):=by
 intro pins s σ H x y v u Q I rx ry h;obtain⟨i,j,rfl,rfl,q⟩:=h;obtain⟨t,rfl⟩:=rx;obtain⟨t',rfl⟩:=ry;exact rule i j t t' s _ _ ⟨.bl (g i j),H,I,rfl,q⟩
def aBx(i j:Int):Prop:=0<j/\j<1073741824
def YI(i j:Int):Prop:=0<=j/\j<=1000000/\i.natAbs<2^64
def JW(i j:Int):Prop:=(-(2^64)<i/\i<2^64)\/(-(2^64)<j/\j<2^64)
theorem JW.ok{i j:Int}(h:JW i j):IntMulOk i j:=by
 rcases h with ⟨h1,h2⟩ | ⟨h1,h2⟩
 ·exact .of_left (intBits_le_64 h1 h2)
 ·exact .of_right (intBits_le_64 h1 h2)
theorem VC:dP X (binaryOp .Add) (N9 λi j=>.int (i+j)):=VD λ_ _ _ _ _ _ _ q=>add_int q
theorem U7:dP X (binaryOp .Sub) (N9 λi j=>.int (i-j)):=VD λ_ _ _ _ _ _ _ q=>sub_int q
theorem U9:dP X (binaryOp .Mult) (rI JW λi j=>.int (i*j)):=opI λ_ _ _ _ _ _ _ hc q=>mul_int q hc.ok
theorem QA:dP X (binaryOp .FloorDiv) (rI aBx λi j=>.int (i / j)):=opI λi j _ _ _ _ _ hc q=>by
 have h1:(0:Int)<j:=hc.1;have h2:j<1073741824:=hc.2;exact floordiv_int (by lia) (by rw[Int.fdiv_eq_ediv_of_nonneg i (by lia)];exact q) (.inl (PyProof.noPylong_small (by lia)))
theorem VA:dP X (binaryOp .Mod) (rI (λ_ j=>0<j) λi j=>.int (i % j)):=opI λi j _ _ _ _ _ hc q=>by
 have h1:(0:Int)<j:=hc;exact mod_int' (by lia) (by rw[Int.fmod_eq_emod_of_nonneg i (by lia)];exact q)
theorem U8:dP X (binaryOp .Pow) (rI YI λi j=>.int (i^j.toNat)):=opI λ_ _ _ _ _ _ _ hc q=>pow_int_small hc.1 hc.2.1 hc.2.2 q
theorem Q8:dP X (inplaceOp .Add) (N9 λi j=>.int (i+j)):=VD λ_ _ _ _ _ _ _ q=>iadd_int q
theorem unI{f:Value->Sem Value}{g:Int->Int}
  (rule:∀(i:Int) (t:Tok) (s:Shared) (Q:aHx) (E:aHx),Q (.int (g i) s.toks) {s with toks:=s.toks+1}->wpAny (model X.prog X.w) X.A (f (.int i t)) Q E s):
  YU X f (rU λi=>.int (g i)):=by
 intro pins s σ H x v Q I rx h;obtain⟨i,rfl,q⟩:=h;obtain⟨t,rfl⟩:=rx;exact rule i t s _ _ ⟨.int (g i),H,I.tok _,⟨_,rfl⟩,q⟩
theorem TQ:YU X (unaryOp .USub) (rU λi=>.int (-i)):=unI λ_ _ _ _ _ q=>neg_int q
end
section
variable {X:Cx}{a b c:Expr}{ta tb tc:TE}{pos:Pos}
theorem NH{pins:List (Addr×Obj)}{σ:St}{H:Hp}{s:Shared}{Q:VK}{k k' :Bool}(I:Inv X pins σ H s)(q:Q (.bl k) H)(e:k=k'):EP X pins σ Q (.bool k') s:=by
 subst e;exact⟨.bl k,H,I,rfl,q⟩
theorem aA8:dP X (compareOp .Lt) (N9 λi j=>.bl (decide (i<j))):=QC λ_ _ _ _ _ _ _ q=>lt_int q
theorem aA9:dP X (compareOp .LtE) (N9 λi j=>.bl (decide (i<=j))):=QC λ_ _ _ _ _ _ _ q=>le_int q
theorem aAa:dP X (compareOp .Gt) (N9 λi j=>.bl (decide (j<i))):=QC λ_ _ _ _ _ _ _ q=>gt_int q
theorem aAb:dP X (compareOp .GtE) (N9 λi j=>.bl (decide (j<=i))):=QC λ_ _ _ _ _ _ _ q=>ge_int q
theorem IB:dP X (compareOp .Lt) (λx y H Q=>∃i j,x= .str i/\y= .str j/\Q (.bl (decide (i.cps.toList<j.cps.toList))) H):=by
 intro pins s σ H x y v u Q I rx ry h;obtain⟨i,j,rfl,rfl,q⟩:=h;obtain⟨t,rfl⟩:=rx;obtain⟨t',rfl⟩:=ry;exact lt_str (NH I q rfl)
theorem IC:dP X (compareOp .In) (λx y H Q=>∃i j,x= .str i/\y= .str j/\Q (.bl (!(Builtin.Str.occurrences j i 0 j.length 1).isEmpty)) H):=by
 intro pins s σ H x y v u Q I rx ry h;obtain⟨i,j,rfl,rfl,q⟩:=h;obtain⟨t,rfl⟩:=rx;obtain⟨t',rfl⟩:=ry;exact in_str (NH I q rfl)
theorem P0{op:CmpOp}{r:R2}(ho:dP X (compareOp op) r)(ha:PE X a ta)(hb:PE X b tb)(hm:behindInMarks op b=false):PE X (.Compare a [op] [b] pos) (ZG r ta tb):=by
 intro pins s σ H Q I h;exact wpAny_Compare1 (YB ha hb I h λv u s2 x y H2 I2 rx ry q=>ho pins s2 σ H2 x y v u Q I2 rx ry q) hm
def SS(t:TE):TT:=λσ H Q=>t σ H λx H' =>∃k,x= .bl k/\Q k H'
theorem PL{op:CmpOp}{r:R2}(ho:dP X (compareOp op) r)(ha:PE X a ta)(hb:PE X b tb)(hm:behindInMarks op b=false):PT X (.Compare a [op] [b] pos) (SS (ZG r ta tb)):=by
 intro pins s σ H Q I h
 refine wpAny_isTrue_Compare1 (cM (ha pins s σ H _ I h) λv s1 ⟨x,H1,I1,r1,q1⟩=>cM (hb pins s1 σ H1 _ I1 q1) λu s2 ⟨y,H2,I2,r2,q2⟩=>
  cM (ho pins s2 σ H2 x y v u _ I2 r1 r2 q2) λc s3 ⟨z,H3,I3,r3,k,e,q3⟩=>?_) hm
 subst e;cases r3;exact aHi ⟨H3,I3,q3⟩
def YF(K:aHw)(x:V)(H:Hp)(k:Bool):Prop:=
 match x with
 | .b7=>k=false
 | .bl b=>k=b
 | .int i=>k=(i !=0)
 | .str y=>y.length<=sizeLine/\k=((y.length:Int) !=0)
 | .byt y=>y.size<=sizeLine/\k=((y.size:Int) !=0)
 | .ref p=>(∃xs,nS K H p xs/\k= !xs.isEmpty)\/(∃xs,nQ K H p xs/\k= !xs.isEmpty)\/∃kvs,H p=some (.dK kvs)/\k= !kvs.isEmpty
 | _=>False
theorem EN{κ:Type}{kvs:List (κ×V)}{vs:List (κ×Value)}(r:KV kvs vs):(!vs.isEmpty)= !kvs.isEmpty:=by
 cases r <;> rfl
theorem uQ{xs:List V}{aG:List Value}(r:Vals xs aG):(!aG.toArray.isEmpty)= !xs.isEmpty:=by
 cases r <;> simp
theorem kY:(sizeLine:Nat)<2^63:=by rw[sizeLine_eq];decide
theorem TY:aEx X (λx H Q=>∃k,YF X.K x H k/\Q k H):=by
 intro pins s σ H x v Q I rx h;obtain⟨k,e,q⟩:=h;have hl:=kY;have hs:sizeLine=16777216:=aFn
 cases x with
 | b7=>
  cases rx;have e' :k=false:=e;subst e';exact truthy_none ⟨H,I,q⟩
 | bl b=>
  cases rx;have e' :k=b:=e;subst e';exact aHi ⟨H,I,q⟩
 | int i=>
  obtain⟨t,rfl⟩:=rx;have e' :k=(i !=0):=e;subst e';exact PySem.P.truthy_int ⟨H,I,q⟩
 | str y=>
  obtain⟨t,rfl⟩:=rx;obtain⟨hy,e'⟩:y.length<=sizeLine/\k=((y.length:Int) !=0):=e;subst e';exact PySem.P.truthy_str (by lia) ⟨H,I.tok _,q⟩
 | byt y=>
  obtain⟨t,rfl⟩:=rx;obtain⟨hy,e'⟩:y.size<=sizeLine/\k=((y.size:Int) !=0):=e;subst e';exact PySem.W.truthy_bytes (by lia) ⟨H,I.tok _,q⟩
 | ref p=>
  cases rx;have e' :(∃xs,nS X.K H p xs/\k= !xs.isEmpty)\/(∃xs,nQ X.K H p xs/\k= !xs.isEmpty)\/∃kvs,H p=some (.dK kvs)/\k= !kvs.isEmpty:=e
  rcases e' with ⟨xs,hx,e'⟩ | ⟨xs,hx,e'⟩ | ⟨kvs,hx,e'⟩
  ·subst e';obtain⟨aG,r,pl,hz⟩:=I.list hx;have hlen:=r.length;exact wpAny_truthy_list pl.isList (by simp only[List.size_toArray];lia) ⟨H,I.tok _,by rw[uQ r];exact q⟩
  ·subst e';obtain⟨aG,r,pl,hz⟩:=I.tuple hx;have hlen:=r.length;exact truthy_tuple pl (by simp only[List.size_toArray];lia) ⟨H,I.tok _,by rw[uQ r];exact q⟩
  ·subst e';obtain⟨hz,hS,vs,r,m⟩:kvs.length<=sizeLine/\(p==sysModules)=false/\∃vs,KV kvs vs/\s.heap.DictOf (aS X.prog X.w) p vs:=I.bG p _ hx;have hlen:kvs.length=vs.length:=Paired.length r;exact wpAny_truthy_dict hS m (by lia) ⟨H,I.tok _,by rw[EN r];exact q⟩
 | _=>exact(show False from e).elim
theorem K6(ha:PE X a ta)(he:∀whole,isTrue a X.env whole=(do let v<-whole;standAt a.pos;holding [v] (truthy v))):
  PT X a (λσ H Q=>ta σ H λx H' =>∃k,YF X.K x H' k/\Q k H'):=by
 intro pins s σ H Q I h;exact isTrue_plain (cM (ha pins s σ H _ I h) λv s1 zz41=>by obtain⟨x,H1,I1,r1,q1⟩:=zz41;exact TY pins s1 σ H1 x v Q I1 r1 q1) (he _)
theorem D2:dP X (binaryOp .Add) (λx y H Q=>∃i j,x= .str i/\y= .str j/\i.length+j.length<=sizeLine/\Q (.str (i++j)) H):=by
 intro pins s σ H x y v u Q I rx ry h;obtain⟨i,j,rfl,rfl,hz,q⟩:=h;obtain⟨t,rfl⟩:=rx;obtain⟨t',rfl⟩:=ry;exact add_str (λt' tk=>⟨.str (i++j),H,I.tok _,⟨_,rfl⟩,q⟩) hz
theorem CC:dP X (inplaceOp .Add) (λx y H Q=>∃i j,x= .str i/\y= .str j/\i.length+j.length<=sizeLine/\Q (.str (i++j)) H):=by
 intro pins s σ H x y v u Q I rx ry h;obtain⟨i,j,rfl,rfl,hz,q⟩:=h;obtain⟨t,rfl⟩:=rx;obtain⟨t',rfl⟩:=ry;exact iadd_str (λt' tk=>⟨.str (i++j),H,I.tok _,⟨_,rfl⟩,q⟩) hz
theorem vals1{x:V}{us:List Value}(r:Vals [x] us):∃u,us=[u]/\RelV x u:=by
 cases r with
 | cons r1 r2=>cases r2;exact⟨_,rfl,r1⟩
theorem vals2{x y:V}{us:List Value}(r:Vals [x,y] us):∃u w',us=[u,w']/\RelV x u/\RelV y w' :=by
 cases r with
 | cons r1 r2=>
  cases r2 with
  | cons r3 r4=>cases r4;exact⟨_,_,rfl,r1,r3⟩
theorem NX:bY X (.builtin "abs") (λxs H Q=>∃i,xs=[.int i]/\Q (.int (if i<0 then -i else i)) H):=by
 intro pins s σ H xs us Q I r h;obtain⟨i,rfl,q⟩:=h;obtain⟨u,rfl,t,rfl⟩:=vals1 r
 exact call_abs_int λu tk=>⟨.int (if i<0 then -i else i),H,I.tok _,⟨_,rfl⟩,q⟩
theorem JO(hc:X.calm=true):bY X (.builtin "max") (λxs H Q=>∃i j,xs=[.int i,.int j]/\Q (.int (if j > i then j else i)) H):=by
 intro pins s σ H xs us Q I r h;obtain⟨i,j,rfl,q⟩:=h;obtain⟨u,w',rfl,⟨t,rfl⟩,⟨t',rfl⟩⟩:=vals2 r
 refine max_two_ints (I.ok.hd hc) λh' tk k=>⟨_,H,I.kept k,?_,q⟩
 by_cases hj:j > i
 ·rw[if_pos hj,if_pos hj];exact⟨_,rfl⟩
 ·rw[if_neg hj,if_neg hj];exact⟨_,rfl⟩
theorem JN(hc:X.calm=true):bY X (.builtin "min") (λxs H Q=>∃i j,xs=[.int i,.int j]/\Q (.int (if j<i then j else i)) H):=by
 intro pins s σ H xs us Q I r h;obtain⟨i,j,rfl,q⟩:=h;obtain⟨u,w',rfl,⟨t,rfl⟩,⟨t',rfl⟩⟩:=vals2 r
 refine min_two_ints (I.ok.hd hc) λh' tk k=>⟨_,H,I.kept k,?_,q⟩
 by_cases hj:j<i
 ·rw[if_pos hj,if_pos hj];exact⟨_,rfl⟩
 ·rw[if_neg hj,if_neg hj];exact⟨_,rfl⟩
end
theorem sC.some_of{v:V}{o:Option Value}(r:sC (some v) o):∃u,o=some u/\RelV v u:=by
 cases o with
 | none=>exact(show False from r).elim
 | some u=>exact⟨u,rfl,r⟩
structure fN(k:Nat)(A:Around):Prop where
 hd:A.handled=none
 dp:A.depth+3*k+5<recursionLimit
 un:A.units+16*k+200<cLine
theorem fN.mono{j k:Nat}{A:Around}(r:fN k A)(h:j<=k):fN j A:=⟨r.hd,by have:=r.dp;lia,by have:=r.un;lia⟩
theorem fN.deeper{k:Nat}{A:Around}(r:fN (k+1) A)(env:Env):fN k (A.deeper env):=
 ⟨r.hd,by have:=r.dp;show A.depth+1+3*k+5<_;lia,by have:=r.un;show A.units+3+16*k+200<_;lia⟩
theorem fN.depth{k:Nat}{A:Around}(r:fN k A):A.depth<recursionLimit:=by have:=r.dp;lia
theorem fN.units{k:Nat}{A:Around}(r:fN k A):A.units+64<cLine:=by have:=r.un;lia
def ZI:TA:=λ_ H Q=>Q [] H
def SU(ta:TE)(tr:TA):TA:=λσ H Q=>ta σ H λx H1=>tr σ H1 λxs H2=>Q (x::xs) H2
section
variable {X:Cx}{e:Expr}{es:List Expr}{te:TE}{t:TA}{pos:Pos}
theorem D1:PA X [] ZI:=λ_ _ _ _ H Q I h=>Calls.spliced_nil ⟨[],H,I,.nil,h⟩
theorem yH(ha:PE X e te)(hr:PA X es t)(hs:starEach (e::es) X.env=(false,eval e X.env)::starEach es X.env:=by rfl):PA X (e::es) (SU te t):=by
 intro pos pins s σ H Q I h;rw[hs];show wpAny _ _ (spliced ((false,eval e X.env)::backTo pos (starEach es X.env))) _ _ s;refine Calls.spliced_cons (cM (ha pins s σ H _ I h) λu s1 zz46=>?_);obtain⟨x,H1,I1,r1,q1⟩:=zz46;exact cM (hr pos pins s1 σ H1 _ I1 q1) λus s2 zz47=>by obtain⟨xs,H2,I2,r2,q2⟩:=zz47;exact⟨x::xs,H2,I2,.cons r1 r2,q2⟩
def aCw(t:TA):TE:=λσ H Q=>t σ H λxs H1=>xs.length<=sizeLine/\∀p,H1 p=none->Q (.ref p) (upd H1 p (.tup xs))
def aD1(t:TA):TE:=λσ H Q=>t σ H λxs H1=>xs.length<=sizeLine/\∀p,H1 p=none->Q (.ref p) (upd H1 p (.lst xs))
theorem LG{x1}(h:PA X es t):PE X (.Tuple es x1 pos) (aCw t):=by
 intro pins s σ H Q I hq;refine wpAny_Tuple_spliced (cM (h pos pins s σ H _ I hq) λus s1 ⟨xs,H1,I1,r,z,q⟩=>⟨by rw[<-r.length];exact z,?_⟩);have hf:H1 s1.heap.objs.size=none:=I1.bG.fresh (aF9 _);refine⟨.ref s1.heap.objs.size,upd H1 s1.heap.objs.size (.tup xs),I1.laid (t' :=s1.toks) (λb u e=>aF4 _ e) (aF9 _) ?_,rfl,q _ hf⟩;exact⟨z,us,r,⟨_,aFa _ rfl,rfl,_,rfl⟩,x8 _ _⟩
theorem U1(h:PA X es t):PE X (.List es pos) (aD1 t):=by
 intro pins s σ H Q I hq;refine wpAny_List_spliced (cM (h pos pins s σ H _ I hq) λus s1 ⟨xs,H1,I1,r,z,q⟩=>⟨by rw[<-r.length];exact z,?_⟩);have hf:H1 s1.heap.objs.size=none:=I1.bG.fresh (aF9 _);refine⟨.ref s1.heap.objs.size,upd H1 s1.heap.objs.size (.lst xs),I1.laid (t' :=s1.toks) (λb u e=>aF4 _ e) (aF9 _) ?_,rfl,q _ hf⟩;exact⟨z,us,0,r,aFa _ rfl⟩
end
abbrev Sp:=List V->Hp->VK->XK->Prop
abbrev J0:=List Env->Hp->Shared->XK->aHx
structure SJ(P:Program)(w:World)(K:aHw)(mg:aHz)(base:Heap)(A:Around)(outer:List Env)(s:Shared)(H:Hp):Prop where
 frames:A.frames=some outer
 mod:Mod K mg base
 bs:∀b o,base.get? b=some o->s.heap.get? b=some o/\H b=none
 R0:base.objs.size<=s.heap.objs.size
 uS:s.heap.FunFrames base outer
 YQ:∀b∈NF outer,H b=none
 bG:pZ P w H s.heap
 bare:AllBare s.gens
def CE(outer:List Env)(P:Program)(w:World)(H:Hp)(s:Shared)(Q:VK)(u:Value)(s' :Shared):Prop:=
 ∃v H',s'.os=s.os/\AllBare s'.gens/\Un (NF outer) [] H H' s.heap s'.heap/\pZ P w H' s'.heap/\RelV v u/\Q v H'
def CR(CX:J0)(outer:List Env)(P:Program)(w:World)(H:Hp)(s:Shared)(Q:VK)(E:XK)(r:Result)(s' :Shared):Prop:=
 match r with
 | .ok (.ret u)=>CE outer P w H s Q u s'
 | .ok _=>False
 | .error e=>CX outer H s E e s'
structure iU(P:Program)(w:World)(K:aHw)(mg:aHz)(base:Heap)(CX:J0)(k:Nat)(f:Addr)(fd:FuncData)(ps:List Str)(sp:Sp):Prop where
 len:∀vs H Q E,sp vs H Q E->vs.length=ps.length
 run:∀(A:Around) (outer:List Env) (s:Shared) (H:Hp) (args:Args) (us:List Value) (vs:List V) (Q:VK) (E:XK),fN k A->SJ P w K mg base A outer s H->BindsTo s fd args (ps.zip us)->Vals vs us->sp vs H Q E->
  codeAny (model P w) A (.call (.ref f) args) (CR CX outer P w H s Q E) s
theorem iU.mono{P:Program}{w:World}{K:aHw}{mg:aHz}{base:Heap}{CX:J0}{j k:Nat}{f:Addr}{fd:FuncData}{ps:List Str}{sp:Sp}(F:iU P w K mg base CX j f fd ps sp)(h:j<=k):
  iU P w K mg base CX k f fd ps sp:=⟨F.len,λA outer s H args us vs Q E hr=>F.run A outer s H args us vs Q E (hr.mono h)⟩
theorem iU.imp{P:Program}{w:World}{K:aHw}{mg:aHz}{base:Heap}{CX:J0}{k:Nat}{f:Addr}{fd:FuncData}{ps:List Str}{sp sp' :Sp}(F:iU P w K mg base CX k f fd ps sp)
  (h:∀vs H Q E,sp' vs H Q E->sp vs H Q E):iU P w K mg base CX k f fd ps sp' :=
 ⟨λvs H Q E q=>F.len vs H Q E (h _ _ _ _ q),λA outer s H args us vs Q E hr he hb hv hs=>F.run A outer s H args us vs Q E hr he hb hv (h _ _ _ _ hs)⟩
section
variable {X:Cx}{pins:List (Addr×Obj)}{σ:St}{H:Hp}{s s' :Shared}
theorem Inv.aEq(I:Inv X pins σ H s):SJ X.prog X.w X.K X.mg X.base X.A X.stack s H:=
 ⟨I.ok.frames,I.ok.mod,I.bs,aFu I.ok.R0 I.sz,I.stack,I.F0,I.bG,I.bare⟩
theorem Inv.after{Q:VK}{u:Value}(I:Inv X pins σ H s)(h:CE X.stack X.prog X.w H s Q u s'):EP X pins σ Q u s' :=by
 obtain⟨v,H',os,bare,un,bG,r,q⟩:=h;obtain⟨hh,g,d,t,os'⟩:=s';obtain rfl:os' =s.os:=os;exact⟨v,H',I.call (h' :=hh) (g' :=g) (d' :=d) (t' :=t) (ch:=[]) un bG bare (λb z=>absurd z (by simp)),r,q⟩
end
def ZM(sp:Sp)(dvs:List V)(E:XK)(t:TA):TE:=λσ H Q=>t σ H λvs H1=>sp (vs++dvs) H1 Q E
def Binds(K:aHw)(fd:FuncData)(ps:List Str)(ds:List Value):Prop:=
 ∀(s:Shared) (us:List Value),K.In s.heap->(us++ds).length=ps.length->BindsTo s fd ⟨us,[]⟩ (ps.zip (us++ds))
theorem Binds.all{K:aHw}{fd:FuncData}{ps:List Str}(h:∀us:List Value,us.length=ps.length->bindArgs fd ⟨us,[]⟩=pure (ps.zip us)):Binds K fd ps []:=λs us _ hl=>by
 rw[List.append_nil]at hl⊢;exact .of_eq (h us hl)
def Passes(CX:J0)(X:Cx)(E:XK):Prop:=∀(pins:List (Addr×Obj)) (σ:St) (H:Hp) (s:Shared) (e:Value) (s' :Shared),Inv X pins σ H s->CX X.stack H s E e s' ->X.xe e s'
section
variable {X:Cx}{CX:J0}{k:Nat}{f C:Addr}{fd:FuncData}{ps:List Str}{sp:Sp}{dvs:List V}{ds:List Value}{E:XK}{x m:Str}{p pos apos:Pos}{e o:Expr}{es:List Expr}{ta:TE}{t:TA}
theorem UI{pins:List (Addr×Obj)}{σ:St}{H:Hp}{s:Shared}{Q:VK}{us:List Value}{vs:List V}(F:iU X.prog X.w X.K X.mg X.base CX k f fd ps sp)(hr:fN k X.A)(hb:Binds X.K fd ps ds)(hd:Vals dvs ds)(hx:Passes CX X E)
  (I:Inv X pins σ H s) (r:Vals vs us) (h:sp (vs++dvs) H Q E):wpAny (model X.prog X.w) X.A (call (.ref f) us) (EP X pins σ Q) X.xe s:=by
 have r2:Vals (vs++dvs) (us++ds):=r.append hd;have hl:(us++ds).length=ps.length:=by rw[<-r2.length];exact F.len _ _ _ _ h
 refine wpAny_call (aHp (F.run X.A X.stack s H ⟨us,[]⟩ (us++ds) (vs++dvs) Q E hr I.aEq (hb s us I.WW hl) r2 h) λr s' hq=>?_)
 cases r with
 | error e=>exact hx pins σ H s e s' I hq
 | ok fl=>
  cases fl with
  | ret u=>exact I.after hq
  | next=>exact False.elim hq
  | brk=>exact False.elim hq
  | cont=>exact False.elim hq
theorem P5(F:iU X.prog X.w X.K X.mg X.base CX k f fd ps sp)(hr:fN k X.A)(hg:Gl X x)(hm:X.mg x=some (.ref f))(hk:PySem.W.keepIn X.K (.ref f)=true)(hb:Binds X.K fd ps ds)(hd:Vals dvs ds)(hx:Passes CX X E)
  (ha:PA X (e::es) t) (hdb:(x==("__debug__":Str))=false:=by decide) (he:starEach (e::es) X.env=(false,eval e X.env)::starEach es X.env:=by rfl) (hpl:(backTo pos (starEach es X.env)).any (·.1)=false:=by rfl):
  PE X (.Call (.Name x p) (e::es) [] pos) (ZM sp dvs E t):=by
 intro pins s σ H Q I h;refine aGz (GK I hg hm ?_ hdb);refine PySem.W.callWith_K (h₀:=X.base) I.ok.mod.kin hk (cM (ha pos pins s σ H _ I h) λus s1 ⟨vs,H1,I1,r,q⟩=>⟨I1.WW,?_⟩) he hpl;exact UI F hr hb hd hx I1 r q
end
structure aT(N P:List Str)(sc:Scope):Prop where
 kind:sc.kind= .function
 co:sc.isCoroutine=false
 gen:sc.isGenerator=false
 nd:N.Nodup
 pre:N.take P.length=P
 par:∀x∈P,sc.names.lookup x=some .local\/sc.names.lookup x=some .cell
 VM:∀y∈sc.names,y.2≠ .free
theorem xM{kindOf:Str->Option NameKind}{x:Str}:∀{binds:List (Str×Value)} {m:aHz},(∀v,(x,v)∉binds)->bindL kindOf binds m x=m x
 | [],_,_=>rfl
 | (n,v)::r,m,h=>by
  unfold bindL;rw[xM λw hw=>h w (List.mem_cons_of_mem _ hw)];split
  ·have:x≠n:=by rintro rfl;exact h v aF8
   simp[this]
  ·rfl
theorem xO{kindOf:Str->Option NameKind}{x:Str}:∀{binds:List (Str×Value)} {m:aHz},(∀v,(x,v)∉binds)->bindC kindOf binds m x=m x
 | [],_,_=>rfl
 | (n,v)::r,m,h=>by
  unfold bindC;rw[xO λw hw=>h w (List.mem_cons_of_mem _ hw)];split
  ·rfl
  ·have:x≠n:=by rintro rfl;exact h v aF8
   simp[this]
theorem xN{kindOf:Str->Option NameKind}{x:Str}{v:Value}:∀{P:List Str} {vs:List Value} {i:Nat} {m:aHz},P.Nodup->P[i]? =some x->vs[i]? =some v->kindOf x=some .local->
  bindL kindOf (P.zip vs) m x=some v
 | [],_,_,_,_,h,_,_=>by simp at h
 | _::_,[],_,_,_,_,h,_=>by simp at h
 | p::P,w::vs,0,m,nd,h1,h2,hk=>by
  simp at h1 h2;subst h1;subst h2;show bindL kindOf ((p,w)::P.zip vs) m p=_;unfold bindL;rw[xM λv hv=>(List.nodup_cons.mp nd).1 (List.of_mem_zip hv).1,if_pos hk];simp
 | p::P,w::vs,i+1,m,nd,h1,h2,hk=>by
  show bindL kindOf ((p,w)::P.zip vs) m x=_;unfold bindL;exact xN (i:=i) (aGq.mp nd).2 (by simpa using h1) (by simpa using h2) hk
theorem xP{kindOf:Str->Option NameKind}{x:Str}{v:Value}:∀{P:List Str} {vs:List Value} {i:Nat} {m:aHz},P.Nodup->P[i]? =some x->vs[i]? =some v->kindOf x≠some .local->
  bindC kindOf (P.zip vs) m x=some v
 | [],_,_,_,_,h,_,_=>by simp at h
 | _::_,[],_,_,_,_,h,_=>by simp at h
 | p::P,w::vs,0,m,nd,h1,h2,hk=>by
  simp at h1 h2;subst h1;subst h2;show bindC kindOf ((p,w)::P.zip vs) m p=_;unfold bindC;rw[xO λv hv=>(List.nodup_cons.mp nd).1 (List.of_mem_zip hv).1,if_neg hk];simp
 | p::P,w::vs,i+1,m,nd,h1,h2,hk=>by
  show bindC kindOf ((p,w)::P.zip vs) m x=_;unfold bindC;exact xP (i:=i) (aGq.mp nd).2 (by simpa using h1) (by simpa using h2) hk
def start(N:List Str)(vs:List V):St:=vs.map some++List.replicate (N.length-vs.length) none
def u5(CX:J0)(P:Program)(w:World)(K:aHw)(mg:aHz)(base:Heap)(N:List Str)(qual:Str)(scope:Scope)(f:Addr)(cd:Value)(A:Around)(outer:List Env)(s:Shared)(H:Hp)(E:XK):Cx where
 prog:=P
 w:=w
 K:=K
 mg:=mg
 base:=base
 A:=A.deeper (envOfC qual scope s.heap.objs.size f cd)
 N:=N
 s₀:=s
 H₀:=H
 env:=envOfC qual scope s.heap.objs.size f cd
 outer:=outer
 stack:=envOfC qual scope s.heap.objs.size f cd::outer
 ex:=[]
 calm:=true
 fn:=λ_=>true
 pn:=[]
 xe:=λe s' =>wpAny (model P w) (A.deeper (envOfC qual scope s.heap.objs.size f cd)) (leaving (envOfC qual scope s.heap.objs.size f cd) e) (λ_ s'' =>CX outer H s E e s'') (λe' s'' =>CX outer H s E e' s'') s'
theorem CZ{sc:Scope}{n:Nat}{x:Str}(h:sc.names.lookup x=some .cell):∃c,(cellsFrom n sc.names []).lookup x=some c:=by
 have q:=PySem.W.cellsFrom_some sc.names n [] (.inl h);exact Option.isSome_iff_exists.mp q
theorem IV{CX:J0}{P:Program}{w:World}{K:aHw}{mg:aHz}{base:Heap}{N ps:List Str}{qual:Str}{scope:Scope}{f:Addr}{cd:Value}{A:Around}{outer:List Env}{s s1:Shared}{H:Hp}{E:XK}{us:List Value}{vs:List V}
  (S:aT N ps scope) (hd:A.handled=none) (e0:SJ P w K mg base A outer s H) (hl:vs.length=ps.length) (r:Vals vs us)
  (x:InCallC s s.heap.objs.size (bindL (envOfC qual scope s.heap.objs.size f cd).kindOf (ps.zip us) λ_=>none) (cellsFrom (s.heap.objs.size+1) scope.names []) (bindC (envOfC qual scope s.heap.objs.size f cd).kindOf (ps.zip us) λ_=>none) s1):
  Inv (u5 CX P w K mg base N qual scope f cd A outer s H E) [] (start N vs) H s1:=by
 have hpl:ps.length<=N.length:=by have:=aG8 List.length S.pre;rw[List.length_take]at this;lia
 obtain⟨h1,tk,rfl,hk⟩:=x.done;have noA:∀b:Addr,b∉(u5 CX P w K mg base N qual scope f cd A outer s H E).ex:=λb z=>absurd (show b∈([]:List Addr) from z) (by simp)
 refine⟨⟨e0.mod,S.kind,rfl,rfl,aF9 _,λy z c h1 h2=>?_,λy hy=>?_,λy c _ h=>?_,λ_=>hd,Around.frames_deeper e0.frames,.inr ⟨rfl,rfl⟩,λb z=>absurd z (noA b),e0.bs,e0.R0,λb _ _=>noA b,λb z=>absurd z (noA b),e0.uS,e0.YQ⟩,
  rfl,e0.bare,Un.kept hk,⟨_,x.toInCall.ns,λi y v h1 h2 h3=>?_⟩,λy c h=>⟨_,x.cell y c h⟩,e0.bG.fresh (aF9 _),λy c h=>?_,λp hp=>absurd (show p∈([]:List (Addr×Obj)) from hp) (by simp),e0.bG.kept hk,?_⟩
 ·exact name_of_addr x.apart (aG9 h1) (aG9 h2)
 ·have hy:scope.names.lookup y=some .cell\/scope.names.lookup y=some .free:=hy;rcases hy with hy | hy
  ·exact CZ hy
  ·exact absurd rfl (S.VM _ (aG9 hy))
 ·exact aH6 (x.above y c (aG9 h))
 ·have hi:i<vs.length:=by
   unfold start at h2;by_cases hi:i<vs.length
   ·exact hi
   ·rw[List.getElem?_append_right (by simpa using hi)]at h2;rw[List.getElem?_replicate]at h2;split at h2 <;> cases h2
  have ha:vs[i]? =some v:=by
   unfold start at h2;rw[List.getElem?_append_left (by simpa using hi),List.getElem?_map]at h2
   cases e:vs[i]? with
   | none=>rw[e]at h2;cases h2
   | some a=>rw[e]at h2;cases h2;rfl
  obtain⟨u,hu,rv⟩:=r.get ha
  have hp:ps[i]? =some y:=by
   rw[<-S.pre,List.getElem?_take_of_lt (by lia)];exact h1
  have ndP:ps.Nodup:=by rw[<-S.pre];exact S.nd.sublist (List.take_sublist _ _)
  refine⟨u,rv,?_⟩;rcases S.par y (aFf hp) with k | k
  ·exact .inl ⟨k,xN ndP hp hu k⟩
  ·obtain⟨c,e⟩:=CZ (n:=s.heap.objs.size+1) k;refine .inr ⟨.inl k,c,e,?_⟩;have q:=x.cell y c e;rw[xP ndP hp hu (by show scope.names.lookup y≠_;rw[k];decide)]at q;exact q
 ·exact e0.bG.fresh (aH6 (x.above y c (aG9 h)))
 ·unfold start;show _=N.length;rw[List.length_append,List.length_map,List.length_replicate]
  lia
theorem aBj{CX:J0}{P:Program}{w:World}{K:aHw}{mg:aHz}{base:Heap}{k:Nat}{f:Addr}{name qual:Str}{params:Arguments}{body:List Stmt}{scope:Scope}{dV kV doc pm cdv ct oc:Value}{an od:Option Addr}
  {osl:Array (Option Value)} {N ps:List Str} {sp:Sp} (lk:K.lookup f=some ⟨oc,od,.func (PySem.W.fnOf name qual params body scope dV kV doc pm an cdv ct),osl⟩) (hcd:PySem.W.codeIn K cdv qual=true) (S:aT N ps scope)
  (len:∀vs H Q E,sp vs H Q E->vs.length=ps.length)
  (hbody:∀(A:Around) (outer:List Env) (s:Shared) (H:Hp) (vs:List V) (Q:VK) (E:XK),fN k (A.deeper (envOfC qual scope s.heap.objs.size f cdv))->sp vs H Q E->
   ∃t,zX (u5 CX P w K mg base N qual scope f cdv A outer s H E) body t/\t {nx:=λ_ H' =>Q .b7 H',rt:=Q} (start N vs) H):
  iU P w K mg base CX (k+1) f (PySem.W.fnOf name qual params body scope dV kV doc pm an cdv ct) ps sp:=by
 refine⟨len,λA outer s H args us vs Q E hr e0 hb r hsp=>?_⟩;have hl:=len _ _ _ _ hsp;have KX:K.In s.heap:=e0.mod.kin.keeps λb o e=>(e0.bs b o e).1;have lim:s.heap.NoLimit:=e0.mod.nolimit.keeps λb o e=>(e0.bs b o e).1
 have hkind:∀y∈ps.zip us,scope.names.lookup y.1=some .local\/(scope.names.lookup y.1=some .cell/\((cellsFrom (s.heap.objs.size+1) scope.names []).lookup y.1).isSome=true):=λzz49 hy=>by
  obtain⟨n,v⟩:=zz49;rcases S.par n (List.of_mem_zip hy).1 with q | q
  ·exact .inl q
  ·exact .inr ⟨q,PySem.W.cellsFrom_some _ _ _ (.inl q)⟩
 refine codeAny_call_function hr.depth (KX _ _ lk) rfl S.co S.gen rfl (PySem.W.codeRec_of KX hcd) (hb _ _ _ _ ?_);refine wpAny_newFunctionEnv_cells S.kind hkind λenv he s1 x=>?_;subst he;refine⟨lim.keeps x.toInCall.keep,codeAny_func ?_⟩;obtain⟨t,ht,hq⟩:=hbody A outer s H vs Q E (hr.deeper _) hsp;have I:Inv (u5 CX P w K mg base N qual scope f cdv A outer s H E) [] (start N vs) H s1:=IV S hr.hd e0 hl r x;refine aGs (ht [] s1 (start N vs) H _ I hq) (λfl s' hs=>?_) λe s' hs=>hs
 have fin:∀{σ' :St} {H' :Hp} {v:V} {u:Value},Inv (u5 CX P w K mg base N qual scope f cdv A outer s H E) [] σ' H' s' ->RelV v u->Q v H' ->CE outer P w H s Q u s' :=
  λ{σ' H' v u} J rv q=>⟨v,H',J.os,J.bare,J.base,J.bG,rv,q⟩
 cases fl with
 | ret u=>
  obtain⟨v,σ',H',J,rv,q⟩:=hs;exact fin J rv q
 | next=>
  obtain⟨σ',H',J,q⟩:=hs;exact fin (v:=V.b7) (u:=Value.none) J rfl q
 | brk=>
  obtain⟨_,_,_,q⟩:=hs;exact False.elim q
 | cont=>
  obtain⟨_,_,_,q⟩:=hs;exact False.elim q
section
variable {X:Cx}{x:Str}{p pos:Pos}{e:Expr}{es:List Expr}{t:TA}{id T:String}{r:List V->Hp->VK->Prop}
def tCB(r:List V->Hp->VK->Prop)(t:TA):TE:=λσ H Q=>t σ H λvs H1=>r vs H1 Q
theorem BF(hc:bY X (.builtin id) r)(hg:Gl X x)(hm:X.mg x=none)(hv:bootBuiltins x=some (.builtin id))(ha:PA X (e::es) t)(hn:x≠ "__name__":=by decide)(hdb:(x==("__debug__":Str))=false:=by decide)
  (he:starEach (e::es) X.env=(false,eval e X.env)::starEach es X.env:=by rfl) (hpl:(backTo pos (starEach es X.env)).any (·.1)=false:=by rfl):PE X (.Call (.Name x p) (e::es) [] pos) (tCB r t):=by
 intro pins s σ H Q I h;refine aGz (kZ I hg hm hv ?_ hn hdb);exact PyProof.Rows.callWith_builtin1 (cM (ha pos pins s σ H _ I h) λus s1 zz50=>by obtain⟨vs,H1,I1,r1,q1⟩:=zz50;exact hc pins s1 σ H1 vs us Q I1 r1 q1) he hpl
theorem wU(hc:bY X (.type T) r)(hg:Gl X x)(hm:X.mg x=none)(hv:bootBuiltins x=some (.type T))(ha:PA X (e::es) t)(hn:x≠ "__name__":=by decide)(hdb:(x==("__debug__":Str))=false:=by decide)
  (he:starEach (e::es) X.env=(false,eval e X.env)::starEach es X.env:=by rfl) (hpl:(backTo pos (starEach es X.env)).any (·.1)=false:=by rfl):PE X (.Call (.Name x p) (e::es) [] pos) (tCB r t):=by
 intro pins s σ H Q I h;refine aGz (kZ I hg hm hv ?_ hn hdb);exact aGb (cM (ha pos pins s σ H _ I h) λus s1 zz51=>by obtain⟨vs,H1,I1,r1,q1⟩:=zz51;exact hc pins s1 σ H1 vs us Q I1 r1 q1) he hpl
end
end L2
namespace HT
open PySem PyProof.Rows
section
open PySem.SeqAt
open PySem.AutoSeq1 (wpAny_loadPart')
open PySem.MeetsSeq PySem.MeetsSeq2 PySem.MeetsSeq3
end
section
variable {prog:Program}{w:World}{A:Around}{E:aHx}{s:Shared}
theorem RW{t b:Addr}{vs ws:List Value}{Q:aHx}(ht:IsTup s.heap t vs.toArray)(hb:IsTup s.heap b ws.toArray)(hv:vs≠[])
  (h1:ws=[]->Q (.ref t) s) (h2:ws≠[]->Q (.ref s.heap.objs.size) {s with heap:=s.heap.push {cls:= .type "tuple",data:= .seq (vs++ws).toArray}})
  (hsz:vs.length+ws.length<=sizeLine):wpAny (model prog w) A (binaryOp .Add (.ref t) (.ref b)) Q E s:=by
 obtain⟨⟨cls,dd,data,sl⟩,ho,hc,n,hd⟩:=id ht;obtain⟨⟨cls2,dd2,data2,sl2⟩,ho2,hc2,n2,hd2⟩:=id hb;simp only at hc hd hc2 hd2;subst hc hd hc2 hd2;have e:vs.toArray++ws.toArray=(vs++ws).toArray:=by simp
 by_cases hw:ws=[]
 ·exact concat_meets ⟨_,ho,rfl⟩ ⟨_,ho2,rfl⟩ noFill_tuple_add seq_tuple_add PySem.F.slot_tuple_add PySem.F.entry_tuple_add (PySem.F.args_tuple_add_2 _ _)
   (tuple_addW1 t b vs.toArray ws.toArray n n2 dd dd2 sl sl2 (by simpa using hv) (by simp[hw])) ⟨ho,ho2,h1 hw⟩
 ·refine concat_meets ⟨_,ho,rfl⟩ ⟨_,ho2,rfl⟩ noFill_tuple_add seq_tuple_add PySem.F.slot_tuple_add PySem.F.entry_tuple_add (PySem.F.args_tuple_add_2 _ _)
   (tuple_addW2 t b vs.toArray ws.toArray n n2 dd dd2 sl sl2 (by simpa using hv) (by simpa using hw) (by rw[List.size_toArray,List.size_toArray];exact hsz)) ⟨ho,ho2,?_⟩
  rw[e];exact h2 hw
def cQ(n d:Nat):Option Int->Nat
 | none=>d
 | some v=>if v<0 then (v+(n:Int)).toNat else min v.toNat n
theorem UH(n d:Nat)(hd:d<=n)(o:Option Int):cQ n d o<=n:=by
 cases o with
 | none=>exact hd
 | some v=>
  show (if v<0 then (v+(n:Int)).toNat else min v.toNat n)<=n;by_cases hv:v<0
  ·rw[if_pos hv];lia
  ·rw[if_neg hv];exact Nat.min_le_right _ _
theorem G7(v:Int)(n d:Nat):(if v<0 then max (v+(n:Int)) 0 else min v (n:Int))=((cQ n d (some v):Nat):Int):=by
 show (if v<0 then max (v+(n:Int)) 0 else min v (n:Int))=(((if v<0 then (v+(n:Int)).toNat else min v.toNat n):Nat):Int);by_cases hv:v<0
 ·simp only[if_pos hv];lia
 ·simp only[if_neg hv];lia
theorem FD(lo hi:Option Int)(n:Nat):Builtin.Slice.sliceAdjust lo hi 1 (n:Int)=(((cQ n 0 lo:Nat):Int),((cQ n n hi:Nat):Int)):=by
 have h1:¬((1:Int)<0):=by lia
 unfold Builtin.Slice.sliceAdjust;simp only[h1,if_false];refine Prod.ext ?_ ?_
 ·cases lo with
  | none=>rfl
  | some v=>exact G7 v n 0
 ·cases hi with
  | none=>rfl
  | some v=>exact G7 v n n
theorem DY(i j:Nat):Builtin.Slice.slicePlaces (i:Int) (j:Int) 1=j-i:=by
 unfold Builtin.Slice.slicePlaces;have h1:(1:Int) > 0:=by lia
 simp only[h1,if_true,Int.ediv_one];split <;> lia
theorem tT{v:Value}{o:Option Int}{Q:Option Int->Shared->Prop}(p:IsPart v o)(h:Q o s):wpAny (model prog w) A (Builtin.Slice.slicePartIndex v) Q E s:=by
 cases p with
 | none=>exact slicePart_none h
 | int i t=>exact slicePart_int h
theorem iO{sl:Addr}{vl vu:Value}{lo hi:Option Int}{n:Nat}{Q:Int×Int×Nat->Shared->Prop}(hs:s.heap.IsSliceOf sl vl vu .none)(pl:IsPart vl lo)(pu:IsPart vu hi)
  (h:Q (((cQ n 0 lo:Nat):Int),1,cQ n n hi-cQ n 0 lo) s):wpAny (model prog w) A (Builtin.Slice.sliceApplied (.ref sl) (pure (n:Int))) Q E s:=by
 obtain⟨os,hos,hcs,hds⟩:=id hs;unfold Builtin.Slice.sliceApplied Builtin.Slice.sliceFields;refine aF3 (aF3 (aG4 hos hds (x:=vl) rfl (aF3 (aG4 hos hds (x:=vu) rfl (aF3 (aG4 hos hds (x:= .none) rfl (aF5 ?_)))))));refine aF3 (slicePart_none ?_);show wpAny _ _ (if ((1:Int)==0)=true then _ else _) _ _ s;rw[if_neg (by decide)];refine aF3 (tT pl (aF3 (tT pu (aF3 (aF5 ?_)))));show wpAny _ _ (match Builtin.Slice.sliceAdjust lo hi 1 (n:Int) with | (lo,hi)=>pure (lo,(1:Int),Builtin.Slice.slicePlaces lo hi 1)) _ _ s;rw[FD lo hi n];show wpAny _ _ (pure (((cQ n 0 lo:Nat):Int),(1:Int),Builtin.Slice.slicePlaces ((cQ n 0 lo:Nat):Int) ((cQ n n hi:Nat):Int) 1)) _ _ s;rw[DY];exact aF5 h
theorem LC(xs:Array Value)(i k:Nat):((List.range k).filterMap λ(m:Nat)=>xs[((i:Int)+(m:Int)*1).toNat]?).toArray=((xs.toList.drop i).take k).toArray:=by
 have e:(λ(m:Nat)=>xs[((i:Int)+(m:Int)*1).toNat]?)=λm=>xs[i+m]? :=by
  funext m;have:((i:Int)+(m:Int)*1).toNat=i+m:=by lia
  rw[this]
 rw[e];have:=pick_run xs i k;rw[List.filterMap_map]at this;have e2:((λx=>xs[x]?) ∘ λx=>i+x)=λm=>xs[i+m]? :=rfl;rw[e2]at this;rw[this]
theorem pH{t sl:Addr}{items:Array Value}{vl vu:Value}{lo hi:Option Int}{Q:aHx}(ht:IsTup s.heap t items)(hs:s.heap.IsSliceOf sl vl vu .none)(pl:IsPart vl lo)(pu:IsPart vu hi)
  (hw:¬(cQ items.size 0 lo=0/\cQ items.size items.size hi=items.size))
  (h:Q (.ref s.heap.objs.size) {s with heap:=s.heap.push {cls:= .type "tuple",data:= .seq ((items.toList.drop (cQ items.size 0 lo)).take (cQ items.size items.size hi-cQ items.size 0 lo)).toArray}})
  (hsz:items.size<=sizeLine):wpAny (model prog w) A (getItem (.ref t) (.ref sl)) Q E s:=by
 have htake:sizeOk (.seq ((items.toList.drop (cQ items.size 0 lo)).take (cQ items.size items.size hi-cQ items.size 0 lo)).toArray):=by
  show ((items.toList.drop (cQ items.size 0 lo)).take (cQ items.size items.size hi-cQ items.size 0 lo)).toArray.size<=sizeLine;rw[List.size_toArray,List.length_take,List.length_drop,Array.length_toList]
  lia
 have hj:cQ items.size items.size hi<=items.size:=UH _ _ (aF9 _) hi;obtain⟨os,hos,hcs,hds⟩:=id hs
 have hTs:s.TypeIs (.ref sl) "slice":=⟨os,hos,hcs⟩
 unfold getItem
 try with_reducible refine aFx ?_
 first | refine aF3 (aF5 ?_) | skip
 refine aF3 (wpAny_sequenceKey ht.typeIs (by decide) ?_)
 refine aF3 (aFp (name:=Str.ofString "__getitem__") ht.typeIs aG3
  (aFm aG3 ht.typeIs entry_tuple_getitem ?_ (args_tuple_getitem _ _)))
 show wpAny _ _ (Builtin.Tuple.tupleItemsOf (.ref t) >>=_) _ _ s;refine aF3 (tupleItemsOf_ ht ?_);refine aF3 (aGy hTs ?_);rw[if_pos (by decide)];refine aF3 (iO hs pl pu ?_)
 have hno:¬((((cQ items.size 0 lo:Nat):Int)==0 && (1:Int)==1 && (cQ items.size items.size hi-cQ items.size 0 lo)==items.size)=true):=by
  intro q;rw[Bool.and_eq_true,Bool.and_eq_true]at q;have q1:((cQ items.size 0 lo:Nat):Int)=0:=eq_of_beq q.1.1;have q2:cQ items.size items.size hi-cQ items.size 0 lo=items.size:=eq_of_beq q.2;exact hw ⟨by lia,by lia⟩
 show wpAny _ _ (if (((cQ items.size 0 lo:Nat):Int)==0 && (1:Int)==1 && (cQ items.size items.size hi-cQ items.size 0 lo)==items.size)=true then _ else _) _ _ s;rw[if_neg hno,LC]
 first
  | exact aF3 (m:=Builtin.Tuple.tupleExact _) (aFt (aF5 ⟨_,rfl,aF5 h⟩) htake)
  | exact aF3 (m:=Builtin.Tuple.tupleExact _) (aFt (aF3 (aF5 (aF5 ⟨_,rfl,aF5 h⟩))) htake)
  | exact aF3 (aF3 (m:=Builtin.Tuple.tupleExact _) (aFt (aF5 (aF5 ⟨_,rfl,aF5 h⟩)) htake))
  | exact aF3 (aF3 (m:=Builtin.Tuple.tupleExact _) (aFt (aF5 ⟨_,rfl,aF5 h⟩) htake))
end
end HT
namespace L2
open PySem PySem.Spec PyProof.Rows
abbrev TO:=St->Hp->(Option Int->Hp->Prop)->Prop
def PO(X:Cx)(e:Option Expr)(t:TO):Prop:=
 ∀(pins:List (Addr×Obj)) (s:Shared) (σ:St) (H:Hp) (Q:Option Int->Hp->Prop),Inv X pins σ H s->t σ H Q->
  wpAny (model X.prog X.w) X.A (evalPart e X.env) (λu s' =>∃o H',Inv X pins σ H' s' /\IsPart u o/\Q o H') X.xe s
def OW:TO:=λ_ H Q=>Q none H
def ZE(t:TE):TO:=λσ H Q=>t σ H λx H1=>∃i,x= .int i/\Q (some i) H1
section
variable {X:Cx}{e:Expr}{te:TE}{lo hi:Option Expr}{tl th:TO}{pos p2:Pos}
theorem PU:PO X none OW:=by
 intro pins s σ H Q I h;rw[evalPart_none];exact aF5 ⟨none,H,I,.none,h⟩
theorem PR(h:PE X e te):PO X (some e) (ZE te):=by
 intro pins s σ H Q I hw;rw[evalPart_some];refine cM (h pins s σ H _ I hw) λu s1 zz52=>?_;obtain⟨x,H1,I1,r1,q1⟩:=zz52;obtain⟨i,rfl,q⟩:=q1;obtain⟨t,rfl⟩:=r1;exact⟨some i,H1,I1,.int i t,q⟩
def YV(X:Cx)(r:V->Option Int->Option Int->Hp->VK->Prop):Prop:=
 ∀(pins:List (Addr×Obj)) (s:Shared) (σ:St) (H:Hp) (x:V) (v vl vu:Value) (lo hi:Option Int) (sl:Addr) (Q:VK),Inv X pins σ H s->RelV x v->s.heap.IsSliceOf sl vl vu .none->IsPart vl lo->IsPart vu hi->r x lo hi H Q->
  ∃T id,typeLookup (.type T) "__getitem__"=pure (some (.builtin id))/\s.TypeIs v T/\wpAny (model X.prog X.w) X.A (getItem v (.ref sl)) (EP X pins σ Q) X.xe s
def tSl(r:V->Option Int->Option Int->Hp->VK->Prop)(te:TE)(tl th:TO):TE:=λσ H Q=>te σ H λx H1=>tl σ H1 λl H2=>th σ H2 λu H3=>r x l u H3 Q
theorem LH{r:V->Option Int->Option Int->Hp->VK->Prop}(hr:YV X r)(he:PE X e te)(hl:PO X lo tl)(hu:PO X hi th):PE X (.Subscript e (.Slice lo hi none p2) pos) (tSl r te tl th):=by
 intro pins s σ H Q I h;refine Subscript_ (cM (he pins s σ H _ I h) λv s1 zz53=>?_);obtain⟨x,H1,I1,r1,q1⟩:=zz53;refine wpAny_Slice (cM (hl pins s1 σ H1 _ I1 q1) λvl s2 ⟨l,H2,I2,pl,q2⟩=>cM (hu pins s2 σ H2 _ I2 q2) λvu s3 zz54=>?_);obtain⟨u,H3,I3,pu,q3⟩:=zz54;rw[evalPart_none];refine aF5 ?_;have I4:Inv X pins σ H3 {s3 with heap:=s3.heap.push {cls:= .type "slice",data:= .fields #[vl,vu,.none]}}:=I3.kept (t' :=s3.toks) λb ob q=>aF4 _ q;obtain⟨T,id,hT,ht,hg⟩:=hr pins {s3 with heap:=s3.heap.push {cls:= .type "slice",data:= .fields #[vl,vu,.none]}} σ H3 x v vl vu l u s3.heap.objs.size Q I4 r1 (Heap.IsSliceOf.new ..) pl pu q3;show wpAny (model X.prog X.w) X.A (subscriptTail e (.Slice lo hi none p2) v (.ref s3.heap.objs.size)) (EP X pins σ Q) X.xe {s3 with heap:=s3.heap.push {cls:= .type "slice",data:= .fields #[vl,vu,.none]}};exact tail_any (ops:=[.ref s3.heap.objs.size,v]) ht hT hg (by with_unfolding_all rfl)
def zM(xs:List V)(lo hi:Option Int):List V:=(xs.drop (HT.cQ xs.length 0 lo)).take (HT.cQ xs.length xs.length hi-HT.cQ xs.length 0 lo)
theorem rO(xs:List V)(lo hi:Option Int):(zM xs lo hi).length<=xs.length:=by
 unfold zM;rw[List.length_take,List.length_drop]
 lia
def aDx(K:aHw):V->Option Int->Option Int->Hp->VK->Prop:=λx lo hi H Q=>∃a xs,x= .ref a/\nQ K H a xs/\
 ¬(HT.cQ xs.length 0 lo=0/\HT.cQ xs.length xs.length hi=xs.length)/\∀p,H p=none->Q (.ref p) (upd H p (.tup (zM xs lo hi)))
theorem UD:YV X (aDx X.K):=by
 intro pins s σ H x v vl vu lo hi sl Q I rx hs pl pu h;obtain⟨a,xs,rfl,hx,hw,q⟩:=h;cases rx;obtain⟨aG,r,ht,hz⟩:=I.tuple hx;have hlen:aG.toArray.size=xs.length:=by rw[List.size_toArray];exact r.length.symm
 refine⟨"tuple",_,aG3.lookup,ht.typeIs,?_⟩;refine HT.pH ht hs pl pu (by rw[hlen];exact hw) ?_ (by rw[hlen];exact hz);rw[hlen];refine⟨.ref s.heap.objs.size,_,I.laid (t' :=s.toks) (o:= .tup (zM xs lo hi)) (λb ob q=>aF4 _ q) (aF9 _) ?_,rfl,q _ (I.bG.fresh (aF9 _))⟩;exact⟨aFu (rO xs lo hi) hz,_,(r.drop (HT.cQ xs.length 0 lo)).take (HT.cQ xs.length xs.length hi-HT.cQ xs.length 0 lo),IsTup.new _ _,x8 _ _⟩
def Z7(K:aHw):R2:=λx y H Q=>∃a b xs ys,x= .ref a/\y= .ref b/\nQ K H a xs/\nQ K H b ys/\xs≠[]/\xs.length+ys.length<=sizeLine/\
 (ys=[]->Q (.ref a) H)/\(ys≠[]->∀p,H p=none->Q (.ref p) (upd H p (.tup (xs++ys))))
theorem Vals.yL{xs:List V}{us:List Value}(r:Vals xs us):us=[]↔xs=[]:=by
 cases r with
 | nil=>simp
 | cons _ _=>simp
theorem QB:dP X (binaryOp .Add) (Z7 X.K):=by
 intro pins s σ H x y v u Q I rx ry h;obtain⟨a,b,xs,ys,rfl,rfl,ha,hb,hx,hz,q1,q2⟩:=h;cases rx;cases ry;obtain⟨aG,r1,p1,_⟩:=I.tuple ha;obtain⟨its2,r2,p2,_⟩:=I.tuple hb;refine HT.RW p1 p2 (λz=>hx (r1.yL.mp z)) (λz=>⟨.ref a,H,I,rfl,q1 (r2.yL.mp z)⟩) (λz=>?_) (by rw[<-r1.length,<-r2.length];exact hz);refine⟨.ref s.heap.objs.size,_,I.laid (t' :=s.toks) (o:= .tup (xs++ys)) (λb ob q=>aF4 _ q) (aF9 _) ?_,rfl,q2 (λw=>z (r2.yL.mpr w)) _ (I.bG.fresh (aF9 _))⟩;exact⟨by rw[List.length_append];exact hz,_,r1.append r2,IsTup.new _ _,x8 _ _⟩
end
def EL(n:Nat)(i:Int):Option Nat:=if 0<=i then (if i<n then some i.toNat else none) else if -(n:Int)<=i then some (i+n).toNat else none
def nO{α:Type}(xs:List α)(i:Int):Option α:=(EL xs.length i).bind λj=>xs[j]?
theorem GR{n:Nat}{i:Int}{j:Nat}(h:EL n i=some j):seqIndex? i n=some j/\j<n/\ -(n:Int)<=i/\i<n:=by
 unfold EL at h;by_cases h0:0<=i
 ·rw[if_pos h0]at h;by_cases h1:i<n
  ·rw[if_pos h1]at h;have e:i.toNat=j:=aFl h;exact⟨by rw[seqIndex_of h0 h1,e],by lia,by lia,h1⟩
  ·rw[if_neg h1]at h;cases h
 ·rw[if_neg h0]at h;by_cases h1: -(n:Int)<=i
  ·rw[if_pos h1]at h;have e:(i+n).toNat=j:=aFl h;exact⟨by rw[seqIndex_neg (by lia) h1,e],by lia,h1,by lia⟩
  ·rw[if_neg h1]at h;cases h
theorem zU{α:Type}{xs:List α}{i:Int}{v:α}(h:nO xs i=some v):∃j,seqIndex? i xs.length=some j/\xs[j]? =some v/\j<xs.length/\ -(xs.length:Int)<=i/\i<xs.length:=by
 unfold nO at h
 cases e:EL xs.length i with
 | none=>rw[e]at h;cases h
 | some j=>
  rw[e]at h;obtain⟨h1,h2,h3,h4⟩:=GR e;exact⟨j,h1,h,h2,h3,h4⟩
theorem hV{α:Type}{xs:List α}{j:Nat}{v:α}(h:xs[j]? =some v):nO xs (j:Int)=some v:=by
 have hj:j<xs.length:=(aF6.mp h).1
 have e:EL xs.length (j:Int)=some j:=by
  unfold EL;rw[if_pos (by lia),if_pos (by lia)];simp
 unfold nO;rw[e];exact h
def HD(b:Expr):Prop:=∀o i,subscripted b false o i=operate [o,i] (getItem o i)
def TJ(X:Cx)(r:R2):Prop:=
 ∀(value slice:Expr) (pins:List (Addr×Obj)) (s:Shared) (σ:St) (H:Hp) (x y:V) (v u:Value) (Q:VK),Inv X pins σ H s->RelV x v->RelV y u->r x y H Q->
  subscripted slice false v u=operate [v,u] (getItem v u)->wpAny (model X.prog X.w) X.A (subscriptTail value slice v u) (EP X pins σ Q) X.xe s
def MtR(X:Cx)(id:String)(r:V->List V->Hp->VK->Prop):Prop:=
 ∀(pins:List (Addr×Obj)) (s:Shared) (σ:St) (H:Hp) (x:V) (xs:List V) (v:Value) (us:List Value) (Q:VK),Inv X pins σ H s->RelV x v->Vals xs us->r x xs H Q->
  wpAny (model X.prog X.w) X.A (call (.builtin id) (v::us)) (EP X pins σ Q) X.xe s
section
variable {X:Cx}{a b:Expr}{ta tb:TE}{pos:Pos}
theorem aA4{r:R2}(hr:TJ X r)(ha:PE X a ta)(hb:PE X b tb)(hs:HD b):PE X (.Subscript a b pos) (ZG r ta tb):=by
 intro pins s σ H Q I h;exact Subscript_ (YB ha hb I h λv u s2 x y H2 I2 rx ry q=>hr a b pins s2 σ H2 x y v u Q I2 rx ry q (hs _ _))
def aE2(K:aHw):R2:=λx y H Q=>∃p xs i v,x= .ref p/\y= .int i/\nS K H p xs/\nO xs i=some v/\Q v H
def aE0(K:aHw):R2:=λx y H Q=>∃p xs i v,x= .ref p/\y= .int i/\nQ K H p xs/\nO xs i=some v/\Q v H
def aE1:R2:=λx y H Q=>∃z i c,x= .str z/\y= .int i/\z.length<=sizeLine/\nO z.cps.toList i=some c/\Q (.str ⟨#[c]⟩) H
theorem Q6:TJ X (aE2 X.K):=by
 intro value slice pins s σ H x y v u Q I rx ry h hs;obtain⟨p,xs,i,z,rfl,rfl,hq,he,q⟩:=h;cases rx;obtain⟨t,rfl⟩:=ry;obtain⟨aG,r,pl,hz⟩:=I.list hq;obtain⟨j,h1,h2,h3,h4,h5⟩:=zU he;obtain⟨w,ew,rw'⟩:=r.get h2;have hl:=r.length;have hn:=kY
 have fin:EP X pins σ Q w s:=⟨z,H,I,rw',q⟩
 by_cases h0:0<=i
 ·have hj:i.toNat=j:=by
   rw[seqIndex_of h0 h5]at h1;exact aFl h1
  exact item_listR pl.isList h0 (by lia) (by rw[hj];simpa using ew) fin hs
 ·have hj:(i+(aG.toArray.size:Int)).toNat=j:=by
   rw[seqIndex_neg (by lia) h4]at h1;rw[List.size_toArray,<-hl];exact aFl h1
  exact subscriptTail_builtinR (x:=w) pl.isList.typeIs slot_list_getitem.lookup
   (wpAny_getItem_list_neg (Q:=λr s' =>r=w/\EP X pins σ Q r s') pl.isList (by lia) (by rw[List.size_toArray] <;> lia) (by lia) (by rw[hj];simpa using ew) ⟨rfl,fin⟩) hs
theorem WX:TJ X (aE0 X.K):=by
 intro value slice pins s σ H x y v u Q I rx ry h hs;obtain⟨p,xs,i,z,rfl,rfl,hq,he,q⟩:=h;cases rx;obtain⟨t,rfl⟩:=ry;obtain⟨aG,r,pl,hz⟩:=I.tuple hq;obtain⟨j,h1,h2,h3,h4,h5⟩:=zU he;obtain⟨w,ew,rw'⟩:=r.get h2;have hl:=r.length;have hn:=kY
 have fin:EP X pins σ Q w s:=⟨z,H,I,rw',q⟩
 exact subscriptTail_builtinR (x:=w) pl.typeIs slot_tuple_getitem.lookup
  (getItem_tuple (j:=j) (Q:=λr s' =>r=w/\EP X pins σ Q r s') pl (by lia) (by lia) (by rw[List.size_toArray,<-hl];exact h1) (by simpa using ew) ⟨rfl,fin⟩) hs
theorem WY:TJ X aE1:=by
 intro value slice pins s σ H x y v u Q I rx ry h hs;obtain⟨z,i,c,rfl,rfl,hz,he,q⟩:=h;obtain⟨t,rfl⟩:=rx;obtain⟨t',rfl⟩:=ry;obtain⟨j,h1,h2,h3,h4,h5⟩:=zU he;have hl:z.cps.toList.length=z.length:=by simp[Str.length]
 rw[hl]at h1 h4 h5;have hn:=kY
 exact tail_any (typeIs_str s z t) slot_str_getitem.lookup (getItem_str (c:=c) (by
  have e1:decide (i < -(2^63:Int))=false:=aGd (by lia);have e2:decide (i>=2^63)=false:=aGd (by lia)
  rw[e1,e2,Bool.or_false]) (by rw[h1];simpa using h2) ⟨.str ⟨#[c]⟩,H,I.tok _,⟨_,rfl⟩,q⟩) hs
theorem EA(aG:List Value)(n j:Nat)(u:Value):Obj.mapSeq (·.setIfInBounds j u) {cls:= .type "list",data:= .seq aG.toArray n}={cls:= .type "list",data:= .seq (aG.set j u).toArray n}:=by
 simp[Obj.mapSeq]
theorem Inv.lst{pins:List (Addr×Obj)}{σ:St}{H:Hp}{s:Shared}{p:Addr}{xs:List V}(I:Inv X pins σ H s)(h:H p=some (.lst xs)):
  ∃(aG:List Value) (n:Nat),Vals xs aG/\s.heap.get? p=some {cls:= .type "list",data:= .seq aG.toArray n}/\xs.length<=sizeLine:=by
 obtain⟨z,aG,n,r,e⟩:=I.bG p _ h;exact⟨aG,n,r,e,z⟩
theorem Inv.VU{pins:List (Addr×Obj)}{σ:St}{H:Hp}{s:Shared}{p:Addr}{xs ys:List V}{aG its' :List Value}{n n' :Nat}{f:Obj->Obj}(I:Inv X pins σ H s)(h:H p=some (.lst xs))
  (ho:s.heap.get? p=some {cls:= .type "list",data:= .seq aG.toArray n}) (hf:f {cls:= .type "list",data:= .seq aG.toArray n}={cls:= .type "list",data:= .seq its'.toArray n'}) (r:Vals ys its') (hz:ys.length<=sizeLine) (t:Nat):
  Inv X pins σ (upd H p (.lst ys)) {s with heap:=s.heap.update p f,toks:=t}:=by
 have e:(s.heap.update p f).get? p=some {cls:= .type "list",data:= .seq its'.toArray n'}:=by
  rw[Heap.get?_update_self f ho (by rw[hf] <;> rfl),hf]
 refine I.write (x:=p) (e:=p) (by rw[h];trivial) (.inl rfl) (λb u hb q=>(aFz _ _ (aG6 hb)).trans q) ⟨_,e⟩ ?_;exact⟨hz,its',n',r,e⟩
def Z5:V->V->V->Hp->(Hp->Prop)->Prop:=λo i v H Q=>∃p xs k j,o= .ref p/\i= .int k/\H p=some (.lst xs)/\EL xs.length k=some j/\Q (upd H p (.lst (xs.set j v)))
theorem set_list:aBu X Z5:=by
 intro pins s σ H o i v ov iv u Q I ro ri rv h;obtain⟨p,xs,k,j,rfl,rfl,hp,hj,q⟩:=h;cases ro;obtain⟨t,rfl⟩:=ri;obtain⟨aG,n,r,ho,hz⟩:=I.lst hp;obtain⟨h1,h2,h3,h4⟩:=GR hj;have hl:=r.length;have hn:=kY
 have I' :Inv X pins σ (upd H p (.lst (xs.set j v))) {s with heap:=s.heap.update p (Obj.mapSeq (·.setIfInBounds j u))}:=
  I.VU hp ho (EA aG n j u) (r.set rv j) (by rw[List.length_set];exact hz) s.toks
 by_cases h0:0<=k
 ·have hk:k.toNat=j:=by
   rw[seqIndex_of h0 h4]at h1;exact aFl h1
  exact PySem.W.ki_setAt ho h0 (by lia) (by rw[List.size_toArray,<-hl];exact h4) (by rw[hk];exact⟨_,I',q⟩)
 ·have hk:(k+(aG.toArray.size:Int)).toNat=j:=by
   rw[seqIndex_neg (by lia) h3]at h1;rw[List.size_toArray,<-hl];exact aFl h1
  exact PySem.W.ki_setBack ho (by lia) (by rw[List.size_toArray,<-hl];exact h3) (by lia) (by rw[hk];exact⟨_,I',q⟩)
theorem x9(lo hi:Option Int)(n:Nat):(sliceBounds lo hi none n).1=((HT.cQ n 0 lo:Nat):Int)/\(sliceBounds lo hi none n).2.1=((HT.cQ n n hi:Nat):Int)/\(sliceBounds lo hi none n).2.2=1:=by
 refine⟨?_,?_,rfl⟩
 ·cases lo with
  | none=>simp[sliceBounds,HT.cQ]
  | some i=>
   simp only[sliceBounds,HT.cQ,Option.getD_none,show (1:Int) > 0 by decide,if_true];by_cases h:i<0
   ·simp only[h,if_true] <;> lia
   ·simp only[h,if_false] <;> lia
 ·cases hi with
  | none=>simp[sliceBounds,HT.cQ]
  | some i=>
   simp only[sliceBounds,HT.cQ,Option.getD_none,show (1:Int) > 0 by decide,if_true];by_cases h:i<0
   ·simp only[h,if_true] <;> lia
   ·simp only[h,if_false] <;> lia
theorem vM(aG:List Value)(lo hi:Option Int):slicePick aG.toArray lo hi none=((aG.drop (HT.cQ aG.length 0 lo)).take (HT.cQ aG.length aG.length hi-HT.cQ aG.length 0 lo)).toArray:=by
 obtain⟨h1,h2,h3⟩:=x9 lo hi aG.toArray.size;unfold slicePick;rw[h1,h2,h3];simp only[sliceRange_one,pick_run,List.size_toArray] <;> rfl
def aDy(K:aHw):V->Option Int->Option Int->Hp->VK->Prop:=λx lo hi H Q=>∃a xs,x= .ref a/\nS K H a xs/\∀p,H p=none->Q (.ref p) (upd H p (.lst (zM xs lo hi)))
theorem O3:YV X (aDy X.K):=by
 intro pins s σ H x v vl vu lo hi sl Q I rx hs pl pu h;obtain⟨a,xs,rfl,hx,q⟩:=h;cases rx;obtain⟨aG,r,ht,hz⟩:=I.list hx;have hlen:=r.length;refine⟨"list",_,slot_list_getitem.lookup,ht.isList.typeIs,?_⟩;refine wpAny_getItem_list_slice ht.isList hs pl pu .none (by simp) ?_ (by rw[List.size_toArray] <;> lia);rw[vM,<-hlen];refine⟨.ref s.heap.objs.size,_,I.laid (t' :=s.toks) (o:= .lst (zM xs lo hi)) (λb ob q=>aF4 _ q) (aF9 _) ?_,rfl,q _ (I.bG.fresh (aF9 _))⟩;exact⟨aFu (rO xs lo hi) hz,_,0,(r.drop (HT.cQ xs.length 0 lo)).take (HT.cQ xs.length xs.length hi-HT.cQ xs.length 0 lo),aFa _ rfl⟩
theorem zO:bY X (.builtin "len") (λxs H Q=>∃p ys,xs=[.ref p]/\(nS X.K H p ys\/nQ X.K H p ys)/\Q (.int ys.length) H):=by
 intro pins s σ H xs us Q I r h;obtain⟨p,ys,rfl,hq,q⟩:=h;obtain⟨u,rfl,rx⟩:=vals1 r;cases rx;have hn:=kY;rcases hq with hq | hq
 ·obtain⟨aG,r',pl,hz⟩:=I.list hq;have hlen:=r'.length;exact Calls.call_len_list pl.isList (by simp only[List.size_toArray] <;> lia) ⟨.int ys.length,H,I.tok _,⟨s.toks+1,by rw[List.size_toArray,hlen]⟩,q⟩
 ·obtain⟨aG,r',pl,hz⟩:=I.tuple hq;have hlen:=r'.length;exact len_tuple pl (by simp only[List.size_toArray] <;> lia) ⟨.int ys.length,H,I.tok _,⟨s.toks+1,by rw[List.size_toArray,hlen]⟩,q⟩
theorem zN:bY X (.builtin "len") (λxs H Q=>∃z,xs=[.str z]/\z.length<=sizeLine/\Q (.int z.length) H):=by
 intro pins s σ H xs us Q I r h;obtain⟨z,rfl,hz,q⟩:=h;obtain⟨u,rfl,t,rfl⟩:=vals1 r;have hn:=kY;exact len_str (by lia) ⟨.int z.length,H,I.tok _,⟨_,rfl⟩,q⟩
theorem iD:bY X (.type "tuple") (λxs H Q=>∃p ys,xs=[.ref p]/\((nS X.K H p ys/\∀l,H l=none->Q (.ref l) (upd H l (.tup ys)))\/(nQ X.K H p ys/\Q (.ref p) H))):=by
 intro pins s σ H xs us Q I r h;obtain⟨p,ys,rfl,h⟩:=h;obtain⟨u,rfl,rx⟩:=vals1 r;cases rx
 rcases h with ⟨hq,q⟩ | ⟨hq,q⟩
 ·obtain⟨aG,r',pl,hz⟩:=I.list hq;have hlen:=r'.length;refine call_tuple_list pl.isList (λh' kp=>?_) (by simp only[List.size_toArray] <;> lia);have I1:Inv X pins σ H {s with heap:=h'}:=I.kept (t' :=s.toks) kp
  have I2:Inv X pins σ (upd H h'.objs.size (.tup ys)) {s with heap:=h'.push {cls:= .type "tuple",data:= .seq aG.toArray}}:=
   I1.laid (t' :=s.toks) (λb o e=>aF4 _ e) (aF9 _) (show bX X.prog X.w _ _ _ (.tup ys) from ⟨hz,aG,r',IsTup.new _ _,x8 _ _⟩)
  exact⟨.ref h'.objs.size,_,I2,rfl,q _ (I1.bG.fresh (aF9 _))⟩
 ·obtain⟨aG,r',pl,hz⟩:=I.tuple hq;exact call_tuple_same pl ⟨.ref p,H,I,rfl,q⟩
def tyV(K:aHw)(T:String)(x:V)(H:Hp):Prop:=match x with
 | .str _=>T= "str"
 | .int _=>T= "int"
 | .ref p=>(T= "list"/\∃xs,nS K H p xs)\/(T= "tuple"/\∃xs,nQ K H p xs)\/
   (T= "dict"/\((∃kvs,H p=some (.dK kvs))\/∃kvs,H p=some (.dT kvs)))\/(T= "set"/\∃S n,H p=some (.set S n))
 | _=>False
theorem TU{pins:List (Addr×Obj)}{σ:St}{H:Hp}{s:Shared}{T:String}{x:V}{v:Value}(I:Inv X pins σ H s)(r:RelV x v)(ty:tyV X.K T x H):
  s.TypeIs v T/\∀a,v= .ref a->∃ob,s.heap.get? a=some ob/\ob.dict=none:=by
 cases x with
 | str z=>
  obtain⟨t,rfl⟩:=r;cases (show T= "str" from ty);exact⟨typeIs_str s z t,λ_ e=>nomatch e⟩
 | int i=>
  obtain⟨t,rfl⟩:=r;cases (show T= "int" from ty);exact⟨typeIs_int s i t,λ_ e=>nomatch e⟩
 | ref p=>
  cases r
  rcases ty with ⟨rfl,xs,hq⟩ | ⟨rfl,xs,hq⟩ | ⟨rfl,hk⟩ | ⟨rfl,S,n,hk⟩
  ·obtain⟨aG,_,pl,_⟩:=I.list hq;refine⟨pl.isList.typeIs,λa e=>?_⟩;cases e;obtain⟨o,n,e,c,hd,_⟩:=pl;exact⟨o,e,hd⟩
  ·obtain⟨o,e1,e2,e3⟩:=I.TV hq;refine⟨⟨o,e1,e2⟩,λa e=>?_⟩;cases e;exact⟨o,e1,e3⟩
  ·have z:∃o,s.heap.get? p=some o/\o.ExactDict:=by
    rcases hk with ⟨kvs,hk⟩ | ⟨kvs,hk⟩
    ·obtain⟨_,_,_,_,o,_,_,e,ex,_⟩:=I.bG p _ hk;exact⟨o,e,ex⟩
    ·obtain⟨_,_,_,_,o,_,_,e,ex,_⟩:=I.bG p _ hk;exact⟨o,e,ex⟩
   obtain⟨o,e,ex⟩:=z;refine⟨⟨o,e,ex.1⟩,λa e2=>?_⟩;cases e2;exact⟨o,e,ex.2.1⟩
  ·obtain⟨o,_,_,_,e,ex,_⟩:=I.bG p _ hk;refine⟨⟨o,e,ex.1⟩,λa e2=>?_⟩;cases e2;exact⟨o,e,ex.2.1⟩
 | _=>exact False.elim ty
def tBM(K:aHw)(T:String)(r:V->List V->Hp->VK->Prop)(to:TE)(t:TA):TE:=λσ H Q=>to σ H λx H1=>tyV K T x H1/\t σ H1 λxs H2=>r x xs H2 Q
variable {o e:Expr}{es:List Expr}{to:TE}{t:TA}{name:Str}{apos eS:Pos}{T id:String}{r:V->List V->Hp->VK->Prop}
theorem aA5(pa:PlainAttrs T)(slot:Slot T name id)(hty:typeOf (.builtin id)=pure (.type "method_descriptor"))(hm:MtR X id r)(ho:PE X o to)(ha:PA X (e::es) t)
  (hbase:attributeBase o name X.env (eval o X.env)=eval o X.env:=by rfl)
  (hfew:((backTo eS (starEach (e::es) X.env)).all (λx=>!x.1) && (backToKw eS (keywordEach [] X.env)).all (λx=>x.1.isSome)
   && decide ((e::es).length+([]:List Keyword).length+(if ([]:List Keyword).isEmpty then 0 else 1)<30))=true:=by rfl)
  (hline:(apos.endLine==eS.line)=true:=by rfl) (hs:starEach (e::es) X.env=(false,eval e X.env)::starEach es X.env:=by rfl) (hplain:(backTo eS (starEach es X.env)).any (·.1)=false:=by rfl):
  PE X (.Call (.Attribute o name apos) (e::es) [] eS) (tBM X.K T r to t):=by
 intro pins s σ H Q I h;refine wpAny_Call_method_late hbase hfew hline rfl (cM (ho pins s σ H _ I h) λv s1 zz56=>?_);obtain⟨x,H1,I1,r1,ty,q1⟩:=zz56;obtain⟨h1,h2⟩:=TU I1 r1 ty;refine⟨T,id,pa,slot,hty,h1,h2,?_⟩;have hA:=ha eS pins s1 σ H1 _ I1 q1;rw[hs]at hA⊢;refine Calls.callWith_builtin (by show (false || (backTo eS (starEach es X.env)).any (·.1))=false;rw[hplain] <;> rfl) (Calls.evalArgs_plain ?_);exact cM hA λus s2 zz57=>by obtain⟨vs,H2,I2,r2,q2⟩:=zz57;exact hm pins s2 σ H2 x vs v us Q I2 r1 r2 q2
end
def MtM(X:Cx)(id:String)(r:V->List V->Hp->VK->Prop):Prop:=
 ∀(pins:List (Addr×Obj)) (s:Shared) (σ:St) (H:Hp) (x:V) (xs:List V) (v:Value) (us:List Value) (Q:VK),Inv X pins σ H s->RelV x v->Vals xs us->r x xs H Q->
  wpAny (model X.prog X.w) X.A (call (.builtin id) (v::us)) (EP X pins σ Q) X.xe s
theorem Vals.one:∀{x:V} {us:List Value},Vals [x] us->∃u,us=[u]/\RelV x u
 | _,_,.cons r .nil=>⟨_,rfl,r⟩
section
variable {X:Cx}{pins:List (Addr×Obj)}{σ:St}{H:Hp}{s:Shared}{l b:Addr}{xs ys zs:List V}
theorem Inv.MA{aG its' :List Value}{n:Nat}{f:Array Value->Array Value}{t' :Nat}(I:Inv X pins σ H s)(hH:H l=some (.lst xs))
  (e:s.heap.get? l=some {cls:= .type "list",data:= .seq aG.toArray n}) (hf:f aG.toArray=its'.toArray) (hv:Vals ys its') (hz:ys.length<=sizeLine):
  Inv X pins σ (upd H l (.lst ys)) {s with heap:=s.heap.update l (Obj.mapSeq f),toks:=t'}:=by
 have q:=PySem.IsL.update e f;rw[hf]at q;refine I.write (x:=l) (e:=l) (by rw[hH];exact trivial) (.inl rfl) (λb' u hb hu=>(aFz s.heap (Obj.mapSeq f) (aG6 hb)).trans hu) ⟨_,q⟩ ?_;exact⟨hz,its',_,hv,q⟩
theorem Inv.aEe{aG:List Value}{t' :Nat}(I:Inv X pins σ H s)(hv:Vals ys aG)(hz:ys.length<=sizeLine):
  Inv X pins σ (upd H s.heap.objs.size (.lst ys)) {s with heap:=s.heap.push {cls:= .type "list",data:= .seq aG.toArray},toks:=t'}:=
 I.laid (λ_ _ q=>aF4 _ q) (aF9 _) ⟨hz,aG,0,hv,aFa _ rfl⟩
theorem Inv.fresh(I:Inv X pins σ H s):H s.heap.objs.size=none:=I.bG.fresh (aF9 _)
theorem Inv.yP(I:Inv X pins σ H s)(hH:H l=some (.lst xs)):xs.length<=sizeLine/\∃(aG:List Value) (n:Nat),Vals xs aG/\xs.length=aG.length/\s.heap.get? l=some {cls:= .type "list",data:= .seq aG.toArray n}:=by
 obtain⟨z,aG,n,r,e⟩:=I.bG l _ hH;exact⟨z,aG,n,r,r.length,e⟩
theorem oV{n:Nat}(h:n<=sizeLine):Builtin.List.listTooLong n=false:=by
 unfold Builtin.List.listTooLong;exact aGd (by lia)
end
section
variable {X:Cx}
def PD:V->List V->Hp->VK->Prop:=λx vs H Q=>∃l xs y,x= .ref l/\vs=[y]/\H l=some (.lst xs)/\xs.length<sizeLine/\Q .b7 (upd H l (.lst (xs++[y])))
theorem wW:MtM X "list.append" PD:=by
 intro pins s σ H x vs v us Q I rx rv h;obtain⟨l,xs,y,rfl,rfl,hH,hz,q⟩:=h;cases rx;obtain⟨u,rfl,ru⟩:=rv.one;obtain⟨z,aG,n,r,hl,e⟩:=I.yP hH;refine call_meets F.slot_list_append ⟨_,e,rfl⟩ F.entry_list_append (F.args_list_append_2 _ _) (PySem.list_append l aG.toArray n u (by rw[List.size_toArray];lia)) ⟨e,?_⟩;refine⟨.b7,_,I.MA (its' :=aG++[u]) hH e (by simp) (r.append (.cons ru .nil)) ?_,rfl,q⟩;rw[List.length_append,List.length_singleton]
 lia
def PC:V->List V->Hp->VK->Prop:=λx vs H Q=>∃l b xs zs,x= .ref l/\vs=[.ref b]/\H l=some (.lst xs)/\H b=some (.lst zs)/\xs.length+zs.length<=sizeLine/\Q .b7 (upd H l (.lst (xs++zs)))
theorem YN:MtM X "list.extend" PC:=by
 intro pins s σ H x vs v us Q I rx rv h;obtain⟨l,b,xs,zs,rfl,rfl,hH,hB,hz,q⟩:=h;cases rx;obtain⟨u,rfl,ru⟩:=rv.one;cases ru;obtain⟨z,aG,n,r,hl,e⟩:=I.yP hH;obtain⟨z2,its2,n2,r2,hl2,e2⟩:=I.yP hB;have hsz:aG.toArray.size+its2.toArray.size<=sizeLine:=by rw[List.size_toArray,List.size_toArray];lia
 have hlong:¬(!aG.toArray.isEmpty && Builtin.List.listTooLong (aG.toArray.size+its2.toArray.size))=true:=by
  rw[oV hsz,Bool.and_false];exact aHt
 refine call_meets F.slot_list_extend ⟨_,e,rfl⟩ F.entry_list_extend (F.args_list_extend_2 _ _)
  (AutoSeq1.list_extend_list_list_0 l aG.toArray n b its2.toArray n2 hlong (by rw[List.size_toArray];lia) (by lia)) ⟨e,e2,?_⟩
 refine⟨.b7,_,I.MA (its' :=aG++its2) hH e (by simp) (r.append r2) ?_,rfl,q⟩;rw[List.length_append]
 lia
def aE3:R2:=λx y H Q=>∃l b xs zs,x= .ref l/\y= .ref b/\H l=some (.lst xs)/\H b=some (.lst zs)/\xs.length+zs.length<=sizeLine/\∀p,H p=none->Q (.ref p) (upd H p (.lst (xs++zs)))
theorem VB:dP X (binaryOp .Add) aE3:=by
 intro pins s σ H x y v u Q I rx ry h;obtain⟨l,b,xs,zs,rfl,rfl,hH,hB,hz,q⟩:=h;cases rx;cases ry;obtain⟨z,aG,n,r,hl,e⟩:=I.yP hH;obtain⟨z2,its2,n2,r2,hl2,e2⟩:=I.yP hB;refine PySem.P.add_list e e2 ?_ (by rw[List.size_toArray,List.size_toArray];lia);have ea:aG.toArray++its2.toArray=(aG++its2).toArray:=by simp
 rw[ea];exact⟨.ref _,_,I.aEe (t' :=s.toks) (r.append r2) (by rw[List.length_append];lia),rfl,q _ I.fresh⟩
end
end L2
namespace Att
open PySem PySem.W PySem.Calls PyProof.Rows
theorem r6{P:Params}{h:Heap}:∀(ns:List Int) (vs:List Value),WellAll P h vs (ns.map WData.int)->IntsAre vs ns:=by
 intro ns
 induction ns with
 | nil=>
  intro vs w;rw[List.map_nil]at w;cases w;exact .nil
 | cons n ns ih=>
  intro vs w;rw[List.map_cons]at w
  cases w with
  | cons a b=>
   cases a;exact .cons _ _ (ih _ b)
theorem HL{l:OpenLaw}{n:Nat}(hn:l.most=some n){P:Params}{h:Heap}{args:List WData}{vals:List Value}
  (hpre:l.row.toRowW.claim.pre args=true) (hwl:WellAll P h vals args):
  ∃a vs ns,vals=[Value.ref a]/\args=[WData.list (ns.map WData.int)]/\h.get? a=some {cls:= .type "list",data:= .seq vs.toArray}/\IntsAre vs ns/\ns.length<=n:=by
 have hsh:WShape.hasAll [] args [.list .int]=true:=(pre_splitW hpre).1;have hc:l.pre.holds [] {args:=args}=true:=(pre_splitW hpre).2;obtain⟨d,r,rfl,h1,h2⟩:=hasAllW_cons hsh;obtain rfl:=hasAllW_nil h2;obtain⟨xs,rfl,h3⟩:=hasW_list h1;obtain⟨ns,rfl⟩:=items_int h3
 have hlen:ns.length<=n:=by
  unfold OpenLaw.pre at hc
  have h4:(WTm.not (.lt (.lit (.int (n:Int))) (.len (.arg 0)))).holds [] {args:=[.list (ns.map .int)]}=true:=by
   have h4:=(holds_andW hc).1;rw[hn]at h4;exact h4
  have h5:=condW_of h4 (w_not (w_lt w_lit (w_len_list (w_arg rfl))));rw[List.length_map]at h5;refine aHq λq=>?_;have q' :(n:Int)<((ns.length:Nat):Int):=by lia
  first
   | (rw[decide_eq_true q']at h5;exact absurd h5 (by decide))
   | (simp at h5;lia)
 cases hwl with
 | cons w1 w2=>
  cases w2
  cases w1 with
  | list ho hall=>exact⟨_,_,ns,rfl,rfl,ho,r6 ns _ hall,hlen⟩
theorem HV(l:OpenLaw)(args:List WData):l.row.toRowW.claim.post args (.bool true) args=true:=
 postW_of (r:=l.row.toRowW) (X:=(true==true))
  (show WShape.has [] (.bool true) .bool=true by first | rfl | decide | simp[WShape.has,WShape.arms,WShape.armsAll])
  (show (WTm.eq .res (.lit (.bool true))).value [] {args:=args,res:=some (.bool true),after:=args}=some (.bool (true==true)) from w_eq_bool (w_res rfl) w_lit) rfl
theorem C5{l:OpenLaw}{n:Nat}{q:Program}{loose:List Str}{XP:(aHz)->Heap->Prop}{YP:World->Heap->Prop}{d:DefRec}
  (hn:l.most=some n) (hdf:d.params.defaults=[])
  (call:∀(w:World) (s₀ s₁:Shared) (mg mb:aHz) (fa:Addr) (o:Obj) (pm cd doc:Value) (a:Addr) (vs:List Value) (ns:List Int),
   Ground q loose [] XP w s₀ mg mb s₁.heap->YP w s₁.heap->
   s₁.heap.get? fa=some o->o.data= .func (docDef d.name d.params d.body d.scope pm cd doc)->s₁.heap.CodeRec cd d.name->mg d.name=some (.ref fa)->
   s₁.heap.get? a=some {cls:= .type "list",data:= .seq vs.toArray}->IntsAre vs ns->ns.length<=n->s₁.gens= #[]->
   codeAny (model l.prog w) callerA (.call (.ref fa) ⟨[.ref a],[]⟩) (λr s' =>r= .ok (.ret (.bool true))/\OldK s₁.heap s'.heap/\s'.os=s₁.os/\AllBare s'.gens) s₁):
  WalkO q loose XP YP l.row.toRowW d [] (λf vs=>PySem.call f vs):=by
 intro w s₀ s₁ mg mb G Y fa o pm cd doc dV kV ho hd hcd hD hmg hg args vals as hpre hlay hrd hwl hlo;obtain rfl:dV= .none:=Dflts.none hD hdf;obtain rfl:kV= .none:=Dflts.noKw hD;obtain⟨a,vs,ns,rfl,rfl,hobj,hints,hlen⟩:=HL hn hpre hwl;refine enter_call (aHp (call w s₀ s₁ mg mb fa o pm cd doc a vs ns G Y ho (fd_plain hd) hcd hmg hobj hints hlen hg) λr s' hq=>?_);obtain⟨rfl,h2,h3,h4⟩:=hq;exact⟨.inl ⟨.bool true,.bool true,[],rfl,λ_=>rfl,.bool true,HV l _,λ_=>⟨List.Pairwise.nil,λ_ hm=>(nomatch hm)⟩⟩,h2,h3,h4⟩
end Att
namespace L2
open PySem PySem.Spec PyProof.Rows
theorem v9:∀{vs:List Value} {ns:List Int},IntsAre vs ns->Vals (ns.map V.int) vs
 | _,_,.nil=>.nil
 | _,_,.cons n t h=>.cons ⟨t,rfl⟩ (v9 h)
def SG(H:Hp):Prop:=∀b,H b=none\/∃o xs,H b=some (.frz o (.lst xs))
theorem ML{P:Program}{w:World}{K:aHw}{mg mb:aHz}{CX:J0}{k:Nat}{fa a:Addr}{fd:FuncData}{x:Str}{sp:Sp}{s₁:Shared}{vs:List Value}{ns:List Int}
  (KX:K.In s₁.heap) (hns:s₁.heap.Ns mainGlobals mg) (hb:s₁.heap.Ns builtinsNs mb) (hbb:∀x:Str,x≠ "__name__"->mb x=bootBuiltins x) (hlim:s₁.heap.NoLimit) (hg:s₁.gens= #[])
  (ha:s₁.heap.get? a=some {cls:= .type "list",data:= .seq vs.toArray}) (hi:IntsAre vs ns) (hl:ns.length<=sizeLine) (hr:fN k callerA)
  (F:∀base:Heap,K.In base->base.Ns mainGlobals mg->iU P w K mg base CX k fa fd [x] sp) (hbind:∀(s:Shared) (u:Value),BindsTo s fd ⟨[u],[]⟩ [(x,u)])
  (hsp:∀H:Hp,SG H->nS K H a (ns.map V.int)->sp [.ref a] H (λv _=>v= .bl true) λ_ _ _=>False)
  (hCX:∀H e s',CX [] H s₁ (λ_ _ _=>False) e s' ->False):
  codeAny (model P w) callerA (.call (.ref fa) ⟨[.ref a],[]⟩) (λr s' =>r= .ok (.ret (.bool true))/\OldK s₁.heap s'.heap/\s'.os=s₁.os/\AllBare s'.gens) s₁:=by
 have rv:=v9 hi;have lenV:=hi.length
 have core:∀H:Hp,SG H->nS K H a (ns.map V.int)->pZ P w H s₁.heap->(∀b,H b≠none->b=a)->(H a≠none->K.lookup a=none)->
   codeAny (model P w) callerA (.call (.ref fa) ⟨[.ref a],[]⟩) (λr s' =>r= .ok (.ret (.bool true))/\OldK s₁.heap s'.heap/\s'.os=s₁.os/\AllBare s'.gens) s₁:=by
  intro H hO hS bG hA hK;have base_of:∀{b:Addr} {o:Obj},s₁.heap.get? b=some o->H b=none->(zA s₁.heap H).get? b=some o:=λe n=>M4 e n
  have noA:∀{b:Addr} {o:Obj} {es:Array DictEntry} {ep:Nat},s₁.heap.get? b=some o->o.data= .dict es ep->H b=none:=λ{b o es ep} e d=>by
   cases q:H b with
   | none=>rfl
   | some u=>
    have e' :b=a:=hA b (by rw[q];simp);subst e';rw[ha]at e;cases e;have d' :Data.seq vs.toArray _=Data.dict es ep:=d;cases d'
  have nsK:∀{b:Addr} {m:aHz},s₁.heap.Ns b m->(zA s₁.heap H).Ns b m:=λ{b m} ⟨o,es,ep,e,d,r⟩=>⟨o,es,ep,base_of e (noA e d),d,r⟩
  have hKb:K.In (zA s₁.heap H):=λb o e=>base_of (KX b o e) (by
   cases q:H b with
   | none=>rfl
   | some u=>
    have e' :b=a:=hA b (by rw[q];simp);subst e'
    rw[hK (by rw[q];simp)]at e;cases e)
  have hM:Mod K mg (zA s₁.heap H):=⟨hKb,nsK hns,⟨mb,nsK hb,hbb⟩,let ⟨mc,h1,h2⟩:=hlim;⟨mc,nsK h1,h2⟩⟩
  have e0:SJ P w K mg (zA s₁.heap H) callerA [] s₁ H:=⟨rfl,hM,λb o e=>QF e,Nat.le_of_eq (IW _ _),trivial,λb hb=>absurd (show b∈([]:List Addr) from hb) (by simp),bG,.of_eq hg⟩
  refine aHp ((F _ hKb (nsK hns)).run callerA [] s₁ H ⟨[.ref a],[]⟩ [.ref a] [.ref a] _ _ hr e0 (hbind s₁ (.ref a)) (.cons rfl .nil) (hsp H hO hS)) λr s' h=>?_
  cases r with
  | error e=>exact(hCX H e s' h).elim
  | ok fl=>
   cases fl with
   | next=>exact False.elim h
   | brk=>exact False.elim h
   | cont=>exact False.elim h
   | ret u=>
    obtain⟨v,H',os,bare,un,hok',r',q⟩:=h;have q' :v= .bl true:=q;subst q';obtain rfl:u=Value.bool true:=r';refine⟨rfl,OldK.of_keep λb o e=>?_,os,bare⟩
    cases q:H b with
    | none=>exact un.keep b o e q (by intro z;exact absurd (show b∈([]:List Addr) from z) (by simp)) (by simp)
    | some u=>
     rcases hO b with z | ⟨ob,xs,z⟩
     ·rw[q]at z;cases z
     ·have z2:=un.zE b ob _ z;obtain⟨e1,_⟩:=bG b _ z;obtain⟨e2,_⟩:=hok' b _ z2;rw[e]at e1;cases e1;exact e2
 cases hk:K.lookup a with
 | some o=>
  have e:=KX a o hk;rw[ha]at e;cases e;refine core (λ_=>none) (λ_=>.inl rfl) (.inr ⟨_,vs.toArray,_,hk,rfl,rfl,rfl,by rw[List.size_toArray,lenV];exact hl,by simpa using rv⟩) (λb u z=>by have z' :(none:Option HO)=some u:=z;cases z') (λb z=>absurd rfl z) λz=>absurd rfl z
 | none=>
  refine core (λb=>if b=a then some (.frz {cls:= .type "list",data:= .seq vs.toArray} (.lst (ns.map V.int))) else none) (λb=>?_) (.inl (.inr ⟨{cls:= .type "list",data:= .seq vs.toArray},if_pos rfl⟩)) (λb u z=>?_) (λb z=>?_) λ_=>hk
  ·by_cases hb:b=a
   ·exact .inr ⟨_,_,if_pos hb⟩
   ·exact .inl (if_neg hb)
  ·by_cases hb:b=a
   ·have z' :=(if_pos hb).symm.trans z;cases z';subst hb;exact⟨ha,by rw[List.length_map];exact hl,vs,_,rv,ha⟩
   ·have z' :=(if_neg hb).symm.trans z;cases z'
  ·by_cases hb:b=a
   ·exact hb
   ·exact absurd (if_neg hb) z
theorem OP{l:PySem.W.OpenLaw}{n k:Nat}{q:Program}{loose:List Str}{XP:(aHz)->Heap->Prop}{YP:World->Heap->Prop}{d:DefRec}{K:Params->aHw}{CX:World->J0}{sp:World->Sp}{x:Str}
  (hn:l.most=some n) (hn2:n<=sizeLine) (hdf:d.params.defaults=[]) (hr:fN k callerA)
  (hY:∀(w:World) (h:Heap),YP w h->(K w.params).In h)
  (F:∀(w:World) (mg:aHz) (fa:Addr) (h:Heap),(K w.params).In h->h.Ns mainGlobals mg->mg d.name=some (.ref fa)->
   ∃fd:FuncData,(∀(s:Shared) (u:Value),BindsTo s fd ⟨[u],[]⟩ [(x,u)])/\
    ∀base:Heap,(K w.params).In base->base.Ns mainGlobals mg->iU l.prog w (K w.params) mg base (CX w) k fa fd [x] (sp w))
  (hsp:∀(w:World) (H:Hp) (a:Addr) (ns:List Int),ns.length<=n->SG H->nS (K w.params) H a (ns.map V.int)->sp w [.ref a] H (λv _=>v= .bl true) λ_ _ _=>False)
  (hCX:∀(w:World) (H:Hp) (s:Shared) (e:Value) (s' :Shared),CX w [] H s (λ_ _ _=>False) e s' ->False):
  PySem.W.WalkO q loose XP YP l.row.toRowW d [] (λf vs=>PySem.call f vs):=by
 refine Att.C5 hn hdf λw s₀ s₁ mg mb fa o pm cd doc a vs ns G Y ho hd hcd hmg hobj hints hlen hg=>?_;have KX:=hY w _ Y;obtain⟨fd,hb,hF⟩:=F w mg fa _ KX G.T.g hmg;exact ML KX G.T.g G.T.b G.T.builtins G.T.nolimit hg hobj hints (aFu hlen hn2) hr hF hb (λH hO hS=>hsp w H a ns hlen hO hS) λH e s' =>hCX w H s₁ e s'
def eI(s:Stmt):Arguments:=match s with
 | .FunctionDef _ a _ _ _ _ _ _ _ _=>a
 | _=>{posonlyargs:=[],args:=[],vararg:=none,kwonlyargs:=[],kw_defaults:=[],kwarg:=none,defaults:=[]}
def b9(s:Stmt):List Stmt:=match s with
 | .FunctionDef _ _ b _ _ _ _ _ _ _=>b
 | _=>[]
def aC(s:Stmt):Scope:=match s with
 | .FunctionDef _ _ _ _ _ _ sc _ _ _=>sc
 | _=>{kind:= .function,names:=[],isGenerator:=false,isCoroutine:=false}
abbrev DB:J0:=λ_ _ _ _ _ _=>False
abbrev E0:XK:=λ_ _ _=>False
theorem aA7{X:Cx}:Passes DB X E0:=λ_ _ _ _ _ _ _ h=>h.elim
structure YX(K:aHw)(x qual:Str)(st:Stmt)(f:Addr)(fd:FuncData):Prop where
 ex:∃(oc:Value) (od:Option Addr) (kV doc pm:Value) (an:Option Addr) (cdv ct:Value) (osl:Array (Option Value)),
  fd=PySem.W.fnOf x qual (eI st) (b9 st) (aC st) .none kV doc pm an cdv ct/\K.lookup f=some ⟨oc,od,.func fd,osl⟩/\PySem.W.codeIn K cdv qual=true
 kp:PySem.W.keepIn K (.ref f)=true
section
variable {P:Program}{w:World}{K:aHw}{mg:aHz}{base:Heap}
theorem YX.ok{x qual:Str}{st:Stmt}{f:Addr}{fd:FuncData}{N ps:List Str}{k:Nat}{sp:Sp}(F:YX K x qual st f fd)(S:aT N ps (aC st))(len:∀vs H Q E,sp vs H Q E->vs.length=ps.length)
  (hbody:∀(cdv:Value) (A:Around) (outer:List Env) (s:Shared) (H:Hp) (vs:List V) (Q:VK) (E:XK),fN k (A.deeper (envOfC qual (aC st) s.heap.objs.size f cdv))->sp vs H Q E->
   ∃t,zX (u5 DB P w K mg base N qual (aC st) f cdv A outer s H E).QG (b9 st) t/\t {nx:=λ_ H' =>Q .b7 H',rt:=Q} (start N vs) H):iU P w K mg base DB (k+1) f fd ps sp:=by
 obtain⟨oc,od,kV,doc,pm,an,cdv,ct,osl,rfl,lk,hcd⟩:=F.ex;refine aBj lk hcd S len λA outer s H vs Q E hr hsp=>?_;obtain⟨t,h,q⟩:=hbody cdv A outer s H vs Q E hr hsp;exact⟨t,h.QG,q⟩
theorem YX.binds{x qual:Str}{st:Stmt}{f:Addr}{fd:FuncData}{ps:List Str}(F:YX K x qual st f fd)
  (h:∀(kV doc pm:Value) (an:Option Addr) (cdv ct:Value) (us:List Value),us.length=ps.length->bindArgs (PySem.W.fnOf x qual (eI st) (b9 st) (aC st) .none kV doc pm an cdv ct) ⟨us,[]⟩=pure (ps.zip us)):Binds K fd ps []:=by
 obtain⟨oc,od,kV,doc,pm,an,cdv,ct,osl,rfl,lk,hcd⟩:=F.ex;exact .all (h kV doc pm an cdv ct)
theorem EW{x qual:Str}{st:Stmt}{f:Addr}{oc:Value}{od an:Option Addr}{osl:Array (Option Value)}{kV doc pm cdv ct:Value}(l:K.lookup f=some ⟨oc,od,.func (PySem.W.fnOf x qual (eI st) (b9 st) (aC st) .none kV doc pm an cdv ct),osl⟩)
  (c:PySem.W.codeIn K cdv qual=true) (k:PySem.W.keepIn K (.ref f)=true):YX K x qual st f (PySem.W.fnOf x qual (eI st) (b9 st) (aC st) .none kV doc pm an cdv ct):=⟨⟨oc,od,kV,doc,pm,an,cdv,ct,osl,rfl,l,c⟩,k⟩
end
theorem wH{n:Nat}(h:n<=1000):n<sizeLine:=Nat.lt_of_le_of_lt h (by decide)
section
variable {κ:Type}[DecidableEq κ]
def m9(kvs:List (κ×V))(k:κ):Option V:=(kvs.find? λkv=>decide (kv.1=k)).map (·.2)
def putK(kvs:List (κ×V))(k:κ)(v:V):List (κ×V):=
 if (kvs.any λkv=>decide (kv.1=k))=true then kvs.map (λkv=>if kv.1=k then (kv.1,v) else kv) else kvs++[(k,v)]
theorem kG{p:κ×V}{r:List (κ×V)}{k:κ}(e:p.1=k):m9 (p::r) k=some p.2:=by simp[m9,List.find?_cons,e]
theorem kH{p:κ×V}{r:List (κ×V)}{k:κ}(e:¬p.1=k):m9 (p::r) k=m9 r k:=by simp[m9,List.find?_cons,e]
theorem AS(k:κ):∀kvs:List (κ×V),(kvs.any λkv=>decide (kv.1=k))=(m9 kvs k).isSome
 | []=>rfl
 | p::r=>by
  rw[List.any_cons];by_cases e:p.1=k
  ·simp only[kG e,decide_eq_true e,Bool.true_or,Option.isSome_some]
  ·rw[kH e,decide_eq_false e,Bool.false_or];exact AS k r
theorem rC(kvs:List (κ×V))(k:κ)(v:V):(putK kvs k v).length<=kvs.length+1:=by
 unfold putK;split
 ·rw[List.length_map];lia
 ·rw[List.length_append,List.length_cons,List.length_nil];lia
theorem sC.eQ{o:Option V}{u:Option Value}(r:sC o u):o.isSome=u.isSome:=by
 cases o with
 | none=>cases u with
  | none=>rfl
  | some _=>exact(show False from r).elim
 | some _=>cases u with
  | none=>exact(show False from r).elim
  | some _=>rfl
theorem sC.getD{o:Option V}{u:Option Value}{d:V}{d' :Value}(r:sC o u)(rd:RelV d d'):RelV (o.getD d) (u.getD d'):=by
 cases o with
 | none=>cases u with
  | none=>exact rd
  | some _=>exact(show False from r).elim
 | some _=>cases u with
  | none=>exact(show False from r).elim
  | some _=>exact r
theorem KV.val{kvs:List (κ×V)}{vs:List (κ×Value)}(r:KV kvs vs)(k:κ):sC (m9 kvs k) (valueAt vs k):=by
 unfold KV at r
 induction r with
 | nil=>exact True.intro
 | @cons p q ps qs h t ih=>
  obtain⟨h1,h2⟩:=h;by_cases e:p.1=k
  ·have e' :q.1=k:=h1.symm.trans e;have b:valueAt (q::qs) k=some q.2:=by simp[valueAt,List.find?_cons,e']
   rw[kG e,b];exact h2
  ·have e' :¬q.1=k:=λz=>e (h1.trans z);have b:valueAt (q::qs) k=valueAt qs k:=by simp[valueAt,List.find?_cons,e']
   rw[kH e,b];exact ih
theorem KV.any{kvs:List (κ×V)}{vs:List (κ×Value)}(r:KV kvs vs)(k:κ):(kvs.any λkv=>decide (kv.1=k))=vs.any λkv=>decide (kv.1=k):=by
 unfold KV at r
 induction r with
 | nil=>rfl
 | cons h t ih=>rw[List.any_cons,List.any_cons,ih,h.1]
theorem KV.UK{kvs:List (κ×V)}{vs:List (κ×Value)}(r:KV kvs vs)(k:κ){y:V}{u:Value}(ry:RelV y u):
  KV (kvs.map λkv=>if kv.1=k then (kv.1,y) else kv) (vs.map λkv=>if kv.1=k then (kv.1,u) else kv):=by
 unfold KV at r⊢
 induction r with
 | nil=>exact .nil
 | @cons p q ps qs h t ih=>
  rw[List.map_cons,List.map_cons];refine .cons ?_ ih;obtain⟨h1,h2⟩:=h;by_cases e:p.1=k
  ·rw[if_pos e,if_pos (h1.symm.trans e)];exact⟨h1,ry⟩
  ·rw[if_neg e,if_neg (λz=>e (h1.trans z))];exact⟨h1,h2⟩
theorem KV.put{kvs:List (κ×V)}{vs:List (κ×Value)}(r:KV kvs vs)(k:κ){y:V}{u:Value}(ry:RelV y u):KV (putK kvs k y) (stored vs k u):=by
 unfold putK stored;rw[r.any k];by_cases e:(vs.any λkv=>decide (kv.1=k))=true
 ·rw[if_pos e,if_pos e];exact r.UK k ry
 ·rw[if_neg e,if_neg e];exact Paired.snoc r ⟨rfl,ry⟩
theorem KV.length{kvs:List (κ×V)}{vs:List (κ×Value)}(r:KV kvs vs):kvs.length=vs.length:=Paired.length r
end
theorem uM{P:Program}{w:World}{k:Key}{u:Value}(r:RelV (kV k) u):(aS P w).is k u=true:=by
 cases k with
 | inl i=>obtain⟨t,e⟩:=(show ∃t,u=Value.int i t from r);subst e;exact BL P w i t
 | inr x=>obtain⟨t,e⟩:=(show ∃t,u=Value.str x t from r);subst e;exact BK P w x t
theorem qF{P:Program}{w:World}:∀{ks:List Key} {us:List Value},Vals (ks.map kV) us->ItemsAre (aS P w) ks us
 | [],_,r=>by rw[List.map_nil]at r;cases r;exact .nil
 | k::ks,_,r=>by
  rw[List.map_cons]at r
  cases r with
  | cons h t=>exact .cons (uM h) (qF t)
abbrev KT(H:Hp):List (List Key×V)->List (List Key×Addr×Value)->Prop:=Paired λp q=>p.1=q.1/\H q.2.1=some (.tup (p.1.map kV))/\RelV p.2 q.2.2
theorem KT.val{H:Hp}{kvs:List (List Key×V)}{xs:List (List Key×Addr×Value)}(r:KT H kvs xs)(k:List Key):sC (m9 kvs k) ((atKey xs k).map (·.2)):=by
 induction r with
 | nil=>exact True.intro
 | @cons p q ps qs h t ih=>
  obtain⟨h1,_,h2⟩:=h;by_cases e:p.1=k
  ·have e' :q.1=k:=h1.symm.trans e;have b:atKey (q::qs) k=some q.2:=by simp[atKey,List.find?_cons,e']
   rw[kG e,b];exact h2
  ·have e' :¬q.1=k:=λz=>e (h1.trans z);have b:atKey (q::qs) k=atKey qs k:=by simp[atKey,List.find?_cons,e']
   rw[kH e,b];exact ih
theorem KT.UK{H:Hp}{kvs:List (List Key×V)}{xs:List (List Key×Addr×Value)}(r:KT H kvs xs)(k:List Key){y:V}{u:Value}(ry:RelV y u):
  KT H (kvs.map λkv=>if kv.1=k then (kv.1,y) else kv) (xs.map (putAt k u)):=by
 induction r with
 | nil=>exact .nil
 | @cons p q ps qs h t ih=>
  rw[List.map_cons,List.map_cons];refine .cons ?_ ih;obtain⟨h1,h2,h3⟩:=h;unfold putAt;by_cases e:p.1=k
  ·rw[if_pos e,if_pos (h1.symm.trans e)];exact⟨h1,h2,ry⟩
  ·rw[if_neg e,if_neg (λz=>e (h1.trans z))];exact⟨h1,h2,h3⟩
theorem KT.put{H:Hp}{kvs:List (List Key×V)}{xs:List (List Key×Addr×Value)}(r:KT H kvs xs)(k:List Key){b:Addr}{y:V}{u:Value}(hb:H b=some (.tup (k.map kV)))(ry:RelV y u):
  KT H (putK kvs k y) (storedH xs k b u):=by
 have e:(kvs.any λkv=>decide (kv.1=k))=(atKey xs k).isSome:=by
  rw[AS,(r.val k).eQ,Option.isSome_map]
 unfold putK storedH;rw[e];by_cases q:(atKey xs k).isSome=true
 ·rw[if_pos q,if_pos q];exact r.UK k ry
 ·rw[if_neg q,if_neg q];exact Paired.snoc r ⟨rfl,hb,ry⟩
theorem KT.keeps{H H' :Hp}{kvs:List (List Key×V)}{xs:List (List Key×Addr×Value)}(r:KT H kvs xs)(ht:∀b ys,H b=some (.tup ys)->H' b=some (.tup ys)):KT H' kvs xs:=
 Paired.VQ r λ_ _ z=>⟨z.1,ht _ _ z.2.1,z.2.2⟩
section
variable {P:Program}{w:World}{H:Hp}{h:Heap}{a:Addr}
theorem SW{u:HO}(ok:pZ P w H h)(e:Rd H a u):bX P w H h a u:=e.ok ok
theorem uZ{kvs:List (Key×V)}(ok:pZ P w H h)(e:Rd H a (.dK kvs)):kvs.length<=sizeLine/\(a==sysModules)=false/\∃vs,KV kvs vs/\h.DictOf (aS P w) a vs:=
 show bX P w H h a (.dK kvs) from SW ok e
theorem S8{kvs:List (Key×V)}(ok:pZ P w H h)(e:H a=some (.dK kvs)):kvs.length<=sizeLine/\(a==sysModules)=false/\∃vs,KV kvs vs/\h.DictOf (aS P w) a vs:=uZ ok (.inl e)
theorem qD{ks:List Key}(ok:pZ P w H h)(e:H a=some (.tup (ks.map kV))):(tupleKind (aS P w)).is h ks a:=by
 obtain⟨_,aG,r,⟨o,h1,h2,n,h3⟩,_⟩:=(show bX P w H h a (.tup (ks.map kV)) from ok a _ e)
 exact⟨o,aG.toArray,n,h1,h2,h3,by simpa using qF r⟩
theorem pM{kvs:List (List Key×V)}(ok:pZ P w H h)(e:Rd H a (.dT kvs)):kvs.length<=sizeLine/\(a==sysModules)=false/\
  ∃xs,KT H kvs xs/\h.DictOfH (tupleKind (aS P w)) a xs:=by
 obtain⟨z,y,xs,r,o,es,ep,h1,h2,h3,h4,h5⟩:=(show bX P w H h a (.dT kvs) from SW ok e)
 refine⟨z,y,xs,r,o,es,ep,h1,h2,h3,h4,λx hx=>?_,h5⟩
 have all:∀{l:List (List Key×V)} {m:List (List Key×Addr×Value)},KT H l m->∀x∈m,(tupleKind (aS P w)).is h x.1 x.2.1:=by
  intro l m q
  induction q with
  | nil=>intro x hx;exact nomatch hx
  | @cons p q ps qs hq t ih=>
   intro x hx;rcases aFd.mp hx with e | hx
   ·subst e;exact qD ok (by rw[<-hq.1];exact hq.2.1)
   ·exact ih x hx
 exact all r x hx
theorem S7{kvs:List (List Key×V)}(ok:pZ P w H h)(e:H a=some (.dT kvs)):kvs.length<=sizeLine/\(a==sysModules)=false/\
  ∃xs,KT H kvs xs/\h.DictOfH (tupleKind (aS P w)) a xs:=pM ok (.inl e)
end
def zZ(H:Hp)(a:Addr)(y:V)(r:Option V):Prop:=
 (∃kvs k,Rd H a (.dK kvs)/\y=kV k/\r=m9 kvs k)\/∃kvs k b,Rd H a (.dT kvs)/\y= .ref b/\H b=some (.tup (k.map kV))/\r=m9 kvs k
def JV(H:Hp)(a:Addr)(y v:V)(H' :Hp):Prop:=
 (∃kvs k,H a=some (.dK kvs)/\y=kV k/\kvs.length<sizeLine/\H' =upd H a (.dK (putK kvs k v)))\/
 ∃kvs k b,H a=some (.dT kvs)/\y= .ref b/\H b=some (.tup (k.map kV))/\kvs.length<sizeLine/\H' =upd H a (.dT (putK kvs k v))
theorem zZ.k{H:Hp}{a:Addr}{kvs:List (Key×V)}{k:Key}(e:H a=some (.dK kvs)):zZ H a (kV k) (m9 kvs k):= .inl ⟨kvs,k,.inl e,rfl,rfl⟩
theorem JV.k{H:Hp}{a:Addr}{kvs:List (Key×V)}{k:Key}{v:V}(e:H a=some (.dK kvs))(hl:kvs.length<sizeLine):JV H a (kV k) v (upd H a (.dK (putK kvs k v))):= .inl ⟨kvs,k,e,rfl,hl,rfl⟩
theorem JV.t{H:Hp}{a b:Addr}{kvs:List (List Key×V)}{k:List Key}{v:V}(e:H a=some (.dT kvs))(eb:H b=some (.tup (k.map kV)))(hl:kvs.length<sizeLine):
  JV H a (.ref b) v (upd H a (.dT (putK kvs k v))):= .inr ⟨kvs,k,b,e,rfl,eb,hl,rfl⟩
section
variable {X:Cx}{pins:List (Addr×Obj)}{σ:St}{H:Hp}{s:Shared}{a:Addr}{y v:V}{u r:Value}{o:Option V}{A:Around}{E:aHx}
theorem Inv.big(I:Inv X pins σ H s):sysModules<s.heap.objs.size:=by
 have h:mainGlobals<s.heap.objs.size:=(I.mod.glob.keeps I.bk).lt;exact Nat.lt_trans (by decide) h
theorem JG{Q:aHx}(hu:A.units+1<cLine)(I:Inv X pins σ H s)(g:zZ H a y (some v))(ry:RelV y u)(h:∀w' s',Inv X pins σ H s' ->RelV v w' ->Q w' s'):
  wpAny (model X.prog X.w) A (getItem (.ref a) u) Q E s:=by
 rcases g with ⟨kvs,k,e,ey,l⟩ | ⟨kvs,k,b,e,ey,eb,l⟩
 ·subst ey;obtain⟨z,hd,vs,rel,dd⟩:=uZ I.bG e;obtain⟨w',hw,rw'⟩:=sC.some_of (v:=v) (o:=valueAt vs k) (by rw[l];exact rel.val k);exact wpAny_getItem_of (uM ry) dd.mapOf hw (h w' _ (I.tok _) rw')
 ·subst ey;cases (show u=Value.ref b from ry);obtain⟨z,hd,xs,rel,dd⟩:=pM I.bG e;obtain⟨w',hw,rw'⟩:=sC.some_of (v:=v) (o:=(atKey xs k).map (·.2)) (by rw[l];exact rel.val k);obtain⟨p,hp,hp2⟩:=aG0.mp hw;refine wpAny_getItem_heap (aGt hu) (qD I.bG eb) dd hp ?_;rw[hp2];exact h w' _ (I.tok _) rw'
theorem aEs{Q:aHx}(hu:A.units+1<cLine)(I:Inv X pins σ H s)(g:zZ H a y o)(ry:RelV y u)(h:∀s',Inv X pins σ H s' ->Q (.bool o.isSome) s'):
  wpAny (model X.prog X.w) A (compareOp .In u (.ref a)) Q E s:=by
 rcases g with ⟨kvs,k,e,ey,l⟩ | ⟨kvs,k,b,e,ey,eb,l⟩
 ·subst ey;obtain⟨z,hd,vs,rel,dd⟩:=uZ I.bG e;refine wpAny_in_of (uM ry) hd dd.mapOf ?_;rw[<-(rel.val k).eQ,<-l];exact h _ (I.tok _)
 ·subst ey;cases (show u=Value.ref b from ry);obtain⟨z,hd,xs,rel,dd⟩:=pM I.bG e;refine wpAny_in_heap (aGt hu) (qD I.bG eb) hd dd ?_;have q:=(rel.val k).eQ;rw[Option.isSome_map]at q;rw[<-q,<-l];exact h _ (I.tok _)
theorem RL{Q:aHx}(hu:A.units+1<cLine)(I:Inv X pins σ H s)(g:zZ H a y o)(ry:RelV y u)(h:∀s',Inv X pins σ H s' ->Q (.bool (!o.isSome)) s'):
  wpAny (model X.prog X.w) A (compareOp .NotIn u (.ref a)) Q E s:=by
 rcases g with ⟨kvs,k,e,ey,l⟩ | ⟨kvs,k,b,e,ey,eb,l⟩
 ·subst ey;obtain⟨z,hd,vs,rel,dd⟩:=uZ I.bG e;refine wpAny_notIn_of (uM ry) hd dd.mapOf ?_;rw[<-(rel.val k).eQ,<-l];exact h _ (I.tok _)
 ·subst ey;cases (show u=Value.ref b from ry);obtain⟨z,hd,xs,rel,dd⟩:=pM I.bG e;refine wpAny_notIn_heap (aGt hu) (qD I.bG eb) hd dd ?_;have q:=(rel.val k).eQ;rw[Option.isSome_map]at q;rw[<-q,<-l];exact h _ (I.tok _)
theorem G6{h' :Heap}{t' :Nat}{ob:HO}(I:Inv X pins σ H s)(mu:JZ (H a))(hs:Heap.SameBut a s.heap h')(he:∃q,h'.get? a=some q)(new:bX X.prog X.w (upd H a ob) h' a ob):
  Inv X pins σ (upd H a ob) {s with heap:=h',toks:=t'}:=
 I.write (x:=a) (e:=a) mu (.inl rfl) (λb q hb z=>(hs.2 b hb).trans z) he new
theorem XW{P:Program}{w:World}{H' :Hp}{h' :Heap}{kvs:List (Key×V)}{vs:List (Key×Value)}(z:kvs.length<=sizeLine)(hd:(a==sysModules)=false)(rel:KV kvs vs)(dd:h'.DictOf (aS P w) a vs):
  bX P w H' h' a (.dK kvs):=⟨z,hd,vs,rel,dd⟩
theorem JF{H' :Hp}{Q:Unit->Shared->Prop}(hu:A.units+1<cLine)(I:Inv X pins σ H s)(g:JV H a y v H')(ry:RelV y u)(rv:RelV v r)(h:∀s',Inv X pins σ H' s' ->Q () s'):
  wpAny (model X.prog X.w) A (setItem (.ref a) u r) Q E s:=by
 rcases g with ⟨kvs,k,e,ey,l,eH⟩ | ⟨kvs,k,b,e,ey,eb,l,eH⟩
 ·subst ey eH;obtain⟨z,hd,vs,rel,dd⟩:=S8 I.bG e;have hz:vs.length<=sizeLine:=by rw[<-rel.length];exact z
  have hl:(putK kvs k v).length<=sizeLine:=by have:=rC kvs k v;lia
  refine wpAny_setItem_pairs (hsz:=hz) (uM ry) dd λh' dd' hs=>h _ ?_;have he:∃q,h'.get? a=some q:=let ⟨q,_,_,hq,_⟩:=dd';⟨q,hq⟩;exact G6 I (by rw[e];exact True.intro) hs he (XW hl hd (rel.put k rv) dd')
 ·subst ey eH;cases (show u=Value.ref b from ry);obtain⟨z,hd,xs,rel,dd⟩:=S7 I.bG e;have hz:xs.length<=sizeLine:=by rw[<-Paired.length rel];exact z
  have hl:(putK kvs k v).length<=sizeLine:=by have:=rC kvs k v;lia
  refine wpAny_setItem_heap (hsz:=hz) (aGt hu) (qD I.bG eb) dd λh' dd' hs=>h _ ?_;obtain⟨q,es,ep,hq,h2,h3,h4,_,h5⟩:=dd';refine G6 I (by rw[e];exact True.intro) hs ⟨q,hq⟩ ⟨hl,hd,_,(rel.put k eb rv).keeps λc ys ec=>?_,q,es,ep,hq,h2,h3,h4,h5⟩;rw[aM (aAm ec e (λz=>nomatch z))];exact ec
end
theorem CO{X:Cx}{pins:List (Addr×Obj)}{σ:St}{H:Hp}{s:Shared}{a:Addr}{y:V}{o:Option V}(I:Inv X pins σ H s)(g:zZ H a y o):s.TypeIs (.ref a) "dict":=by
 rcases g with ⟨kvs,k,e,_,_⟩ | ⟨kvs,k,b,e,_,_,_⟩
 ·obtain⟨_,_,vs,_,dd⟩:=uZ I.bG e;exact dd.typeIs
 ·obtain⟨_,_,xs,_,dd⟩:=pM I.bG e;exact dd.typeIs
def ZZ(td ty tv:TE):TS:=λD σ H=>tv σ H λv H1=>td σ H1 λx H2=>ty σ H2 λy H3=>∃a H4,x= .ref a/\JV H3 a y v H4/\D.nx σ H4
section
variable {X:Cx}{o i e value:Expr}{pos pos' tpos:Pos}{td ty tv:TE}
theorem GB(hu:X.A.units+1<cLine)(ho:PE X o td)(hi:PE X i ty)(hv:PE X value tv)(hs:swapsWith value (some (.Subscript o i pos')) pos.line X.env=pure false):
  PS X (.Assign [.Subscript o i pos'] value pos) (ZZ td ty tv):=by
 intro pins s σ H D I h;refine wpAny_Assign_Subscript (cM (hv pins s σ H _ I h) λr s1 ⟨v,H1,I1,rv,q1⟩=>cM (ho pins s1 σ H1 _ I1 q1) λu s2 ⟨x,H2,I2,rx,q2⟩=>cM (hi pins s2 σ H2 _ I2 q2) λiv s3 ⟨y,H3,I3,ry,a,H4,ex,g,q3⟩=>?_) hs;subst ex;obtain rfl:u=Value.ref a:=rx
 exact JF hu I3 g ry rv λs4 I4=>⟨σ,H4,I4,q3⟩
end
theorem NP{P:Program}{w:World}{H:Hp}(h:Heap)(hb:sysModules<h.objs.size):bX P w H (h.push {cls:= .type "dict",data:= .dict #[]}) h.objs.size (.dK []):=
 ⟨aGk _,beq_eq_false_iff_ne.mpr (aG6 (aFj hb)),[],.nil,Heap.DictOf.new h⟩
theorem NO{P:Program}{w:World}{H:Hp}(h:Heap)(hb:sysModules<h.objs.size):bX P w H (h.push {cls:= .type "dict",data:= .dict #[]}) h.objs.size (.dT []):=
 ⟨aGk _,beq_eq_false_iff_ne.mpr (aG6 (aFj hb)),[],.nil,_,#[],0,aFa _ rfl,⟨rfl,rfl,rfl⟩,rfl,rfl,List.nodup_nil⟩
def T8:TE:=λ_ H Q=>∀p,H p=none->Q (.ref p) (upd H p (.dK []))
def T7:TE:=λ_ H Q=>∀p,H p=none->Q (.ref p) (upd H p (.dT []))
section
variable {X:Cx}{pos:Pos}
theorem LL:PE X (.Dict [] [] pos) T8:=λpins s σ H Q I h=>
 wpAny_Dict_empty ⟨.ref s.heap.objs.size,_,I.laid (a:=s.heap.objs.size) (o:= .dK []) (t' :=s.toks) (λ_ _ q=>aF4 _ q) (aF9 _) (NP s.heap I.big),rfl,h _ (I.bG.fresh (aF9 _))⟩
theorem LK:PE X (.Dict [] [] pos) T7:=λpins s σ H Q I h=>
 wpAny_Dict_empty ⟨.ref s.heap.objs.size,_,I.laid (a:=s.heap.objs.size) (o:= .dT []) (t' :=s.toks) (λ_ _ q=>aF4 _ q) (aF9 _) (NO s.heap I.big),rfl,h _ (I.bG.fresh (aF9 _))⟩
end
structure M2(X:Cx)(o:Expr)(m:Str)(apos:Pos)(e f:Expr)(eS:Pos):Prop where
 base:attributeBase o m X.env (eval o X.env)=eval o X.env
 YR:((backTo eS (starEach [e,f] X.env)).all (λx=>!x.1) && (backToKw eS (keywordEach [] X.env)).all (λx=>x.1.isSome)
  && decide (([e,f]:List Expr).length+([]:List Keyword).length+(if ([]:List Keyword).isEmpty then 0 else 1)<30))=true
 line:(apos.endLine==eS.line)=true
 trees:backTo eS (starEach [e,f] X.env)=[(false,eval e X.env),(false,eval f X.env)]
def IsD(H:Hp)(a:Addr):Prop:=(∃kvs,Rd H a (.dK kvs))\/∃kvs,Rd H a (.dT kvs)
theorem W8{X:Cx}{pins:List (Addr×Obj)}{σ:St}{H:Hp}{s:Shared}{a:Addr}(I:Inv X pins σ H s)(d:IsD H a):
  s.TypeIs (.ref a) "dict"/\(∀b,Value.ref a= .ref b->∃ob,s.heap.get? b=some ob/\ob.dict=none)/\(a==sysModules)=false:=by
 rcases d with ⟨kvs,e⟩ | ⟨kvs,e⟩
 ·obtain⟨_,hd,vs,_,dd⟩:=uZ I.bG e;refine⟨dd.typeIs,λb q=>?_,hd⟩;cases q;obtain⟨ob,_,_,h1,h2,_⟩:=dd;exact⟨ob,h1,h2.2.1⟩
 ·obtain⟨_,hd,xs,_,dd⟩:=pM I.bG e;refine⟨dd.typeIs,λb q=>?_,hd⟩;cases q;obtain⟨ob,_,_,h1,h2,_⟩:=dd;exact⟨ob,h1,h2.2.1⟩
section
variable {X:Cx}{pins:List (Addr×Obj)}{σ:St}{H:Hp}{s:Shared}{a:Addr}{y d:V}{u r:Value}{o:Option V}{A:Around}{E:aHx}
theorem XX{Q:aHx}(hu:A.units+1<cLine)(I:Inv X pins σ H s)(g:zZ H a y o)(ry:RelV y u)(rd:RelV d r)(h:∀w' s',Inv X pins σ H s' ->RelV (o.getD d) w' ->Q w' s'):
  wpAny (model X.prog X.w) A (call (.builtin "dict.get") [.ref a,u,r]) Q E s:=by
 rcases g with ⟨kvs,k,e,ey,l⟩ | ⟨kvs,k,b,e,ey,eb,l⟩
 ·subst ey;obtain⟨z,hd,vs,rel,dd⟩:=uZ I.bG e;refine call_meetsIn PySem.F.slot_dict_get dd.typeIs PySem.F.entry_dict_get (PySem.F.args_dict_get_3 _ _ _) (meets_dict_get_default (aS X.prog X.w) a (uM ry) hd r) ⟨_,dd.mapOf,h _ _ (I.tok _) ?_⟩;rw[l];exact(rel.val k).getD rd
 ·subst ey;cases (show u=Value.ref b from ry);obtain⟨z,hd,xs,rel,dd⟩:=pM I.bG e;refine call_meetsIn PySem.F.slot_dict_get dd.typeIs PySem.F.entry_dict_get (PySem.F.args_dict_get_3 _ _ _) (meetsH_dict_get_default (tupleKind (aS X.prog X.w)) a b hd r) ⟨aGt hu,k,xs,qD I.bG eb,dd,h _ _ (I.tok _) ?_⟩;rw[l];exact(rel.val k).getD rd
end
def T9(td ty tx:TE):TE:=λσ H Q=>td σ H λx H1=>∃a,x= .ref a/\IsD H1 a/\ty σ H1 λy H2=>tx σ H2 λz H3=>∃o,zZ H3 a y o/\Q (o.getD z) H3
section
variable {X:Cx}{o e f:Expr}{apos eS:Pos}{td ty tx:TE}
theorem LM(hu:X.A.units+1<cLine)(ho:PE X o td)(he:PE X e ty)(hf:PE X f tx)(m:M2 X o "get" apos e f eS):PE X (.Call (.Attribute o "get" apos) [e,f] [] eS) (T9 td ty tx):=by
 intro pins s σ H Q I h;refine wpAny_Call_method m.base m.YR m.line PySem.F.plainAttrs_dict PySem.F.slot_dict_get PySem.F.type_dict_get (cM (ho pins s σ H _ I h) λu s1 zz67=>?_);obtain⟨x,H1,I1,rx,a,ex,d,q1⟩:=zz67;subst ex;obtain rfl:u=Value.ref a:=rx;obtain⟨t1,t2,_⟩:=W8 I1 d;refine⟨t1,t2,?_⟩;rw[m.trees]
 refine Calls.callWith_builtin rfl (Calls.evalArgs_plain (Calls.spliced_cons (cM (he pins s1 σ H1 _ I1 q1) λiv s2 ⟨y,H2,I2,ry,q2⟩=>
  Calls.spliced_cons (cM (hf pins s2 σ H2 _ I2 q2) λfv s3 ⟨z,H3,I3,rz,ov,g,q3⟩=>Calls.spliced_nil ?_))))
 exact XX hu I3 g ry rz λw' s4 I4 rw' =>⟨_,H3,I4,rw',q3⟩
end
def lI:List (Str×NameKind)->List (Str×Addr)->List (Str×Addr)->List (Str×Addr)
 | [],_,acc=>acc
 | (n,k)::r,cells,acc=>lI r cells (if k== .free then (n,(cells.lookup n).getD 0)::acc else acc)
theorem xH{env:Env}:∀(names:List (Str×NameKind)) (acc:List (Str×Addr)),(∀x∈names,x.2= .free->∃c,env.cells.lookup x.1=some c)->
  (forIn names acc λ(x:Str×NameKind) (cs:List (Str×Addr))=>(if (x.2==NameKind.free)=true then do let a<-cellOf env x.1;pure (ForInStep.yield ((x.1,a)::cs)) else pure (ForInStep.yield cs):Sem _))=(pure (lI names env.cells acc):Sem _)
 | [],acc,_=>by simp[lI]
 | (n,k)::r,acc,h=>by
  have ih:=λacc' =>xH (env:=env) r acc' λx hx=>h x (aF7 _ hx);rw[List.forIn_cons];by_cases hk:k= .free
  ·subst hk;obtain⟨c,hc⟩:=h (n,.free) aF8 rfl;have hc' :env.cells.lookup n=some c:=hc;simp only[lI,beq_self_eq_true,if_true,cellOf,hc',pure_bind,Option.getD_some];exact ih _
  ·have hb:(k==NameKind.free)=false:=by simpa using hk
   simp only[lI,hb,Bool.false_eq_true,if_false,pure_bind];exact ih _
theorem vT{scope:Scope}{env:Env}(h:∀x∈scope.names,x.2= .free->∃c,env.cells.lookup x.1=some c):closureFor scope env=pure (lI scope.names env.cells []):=by
 have e:=xH (env:=env) scope.names [] h;unfold closureFor;simp only[bind_pure_comp]at e⊢
 first
  | (rw[<-e];rfl)
  | (simp at e⊢;rw[<-e];rfl)
  | (simp at e⊢;exact e)
theorem xI{cells:List (Str×Addr)}{P:Str->Addr->Prop}:∀(names:List (Str×NameKind)) (acc:List (Str×Addr)),(∀x∈acc,P x.1 x.2)->(∀n,(n,NameKind.free)∈names->P n ((cells.lookup n).getD 0))->∀x∈lI names cells acc,P x.1 x.2
 | [],acc,h,_,x,hx=>h x hx
 | (n,k)::r,acc,h,h2,x,hx=>by
  refine xI (cells:=cells) r _ (λy hy=>?_) (λm hm=>h2 m (aF7 _ hm)) x hx;by_cases hk:k= .free
  ·subst hk;simp only[beq_self_eq_true,if_true]at hy;rcases aFd.mp hy with rfl | hy
   ·exact h2 n aF8
   ·exact h y hy
  ·have hb:(k==NameKind.free)=false:=by simpa using hk
   simp only[hb,Bool.false_eq_true,if_false]at hy;exact h y hy
theorem fF{α:Type}:∀{l:List (Str×α)} {n:Str} {c:α},(n,c)∈l->∃c',l.lookup n=some c'
 | (k,v)::r,n,c,h=>by
  rw[List.lookup_cons]
  cases hb:n==k with
  | true=>exact⟨v,rfl⟩
  | false=>
   rcases aFd.mp h with e | h
   ·injection e with e1 _;rw[e1]at hb;simp at hb
   ·exact fF h
theorem rQ{cells:List (Str×Addr)}:∀(names:List (Str×NameKind)) (acc:List (Str×Addr)) (x:Str×Addr),x∈acc->x∈lI names cells acc
 | [],_,_,h=>h
 | (n,k)::r,acc,x,h=>by
  refine rQ r _ x ?_;by_cases hk:(k==NameKind.free)=true
  ·rw[if_pos hk];exact aF7 _ h
  ·rw[if_neg hk];exact h
theorem xJ{cells:List (Str×Addr)}:∀(names:List (Str×NameKind)) (acc:List (Str×Addr)) (n:Str),(n,NameKind.free)∈names->∃c,(n,c)∈lI names cells acc
 | (m,k)::r,acc,n,h=>by
  rcases aFd.mp h with e | h
  ·injection e with e1 e2;subst e1 e2;exact⟨(cells.lookup n).getD 0,rQ r _ _ (by simp)⟩
  ·exact xJ r _ n h
theorem oQ{scope:Scope}{env:Env}{x:Str}{k' :NameKind}:(relabel scope env).names.lookup x=some k' ->∃k,scope.names.lookup x=some k/\(k' =k\/(k= .free/\k' = .cell)):=by
 unfold relabel;dsimp only;generalize scope.names=l
 induction l with
 | nil=>intro h;simp at h
 | cons p r ih=>
  obtain⟨n,k⟩:=p;intro h;rw[List.map_cons]at h;by_cases hc:(k==NameKind.free && env.scope.kind== .function && env.kindOf n==some .cell)=true
  ·simp only[hc,if_true,List.lookup_cons]at h⊢
   cases hb:x==n with
   | true=>
    rw[hb]at h;simp only[Bool.and_eq_true,beq_iff_eq]at hc;exact⟨k,rfl,.inr ⟨hc.1.1,(aFl h).symm⟩⟩
   | false=>rw[hb]at h;exact ih h
  ·have hc' :(k==NameKind.free && env.scope.kind== .function && env.kindOf n==some .cell)=false:=by simpa using hc
   simp only[hc',Bool.false_eq_true,if_false,List.lookup_cons]at h⊢
   cases hb:x==n with
   | true=>rw[hb]at h;exact⟨k,rfl,.inl (aFl h).symm⟩
   | false=>rw[hb]at h;exact ih h
theorem yD{scope:Scope}{env:Env}{x:Str}:scope.names.lookup x=some .free->(relabel scope env).names.lookup x=some .cell\/(relabel scope env).names.lookup x=some .free:=by
 unfold relabel;dsimp only;generalize scope.names=l
 induction l with
 | nil=>intro h;simp at h
 | cons p r ih=>
  obtain⟨n,k⟩:=p;intro h;rw[List.map_cons];rw[List.lookup_cons]at h
  cases hb:x==n with
  | true=>
   rw[hb]at h;have hk:k= .free:=aFl h;subst hk;by_cases hc:(NameKind.free==NameKind.free && env.scope.kind== .function && env.kindOf n==some .cell)=true
   ·simp only[hc,if_true,List.lookup_cons,hb];first | exact .inl rfl | exact .inl trivial
   ·have hc' :(NameKind.free==NameKind.free && env.scope.kind== .function && env.kindOf n==some .cell)=false:=by simpa using hc
    simp only[hc',Bool.false_eq_true,if_false,List.lookup_cons,hb];first | exact .inr rfl | exact .inr trivial
  | false=>
   rw[hb]at h;by_cases hc:(k==NameKind.free && env.scope.kind== .function && env.kindOf n==some .cell)=true
   ·simp only[hc,if_true,List.lookup_cons,hb];exact ih h
   ·have hc' :(k==NameKind.free && env.scope.kind== .function && env.kindOf n==some .cell)=false:=by simpa using hc
    simp only[hc',Bool.false_eq_true,if_false,List.lookup_cons,hb];exact ih h
def aX(X:Cx)(own:List Str)(aI:List Nat)(scope:Scope)(cl:List (Str×Addr))(C:Addr)(fp:List Addr)(s₀:Shared)(H₀:Hp):Cx where
 prog:=X.prog
 w:=X.w
 K:=X.K
 mg:=X.mg
 base:=X.base
 A:=X.A
 N:=own++aI.map λi=>X.N.getD i ""
 s₀:=s₀
 H₀:=H₀
 env:=compEnvC scope cl C X.env
 outer:=X.stack
 stack:=X.stack
 ex:=fp
 fn:=λ_=>false
 calm:=X.calm
 pn:=[]
 xe:=λ_ _=>False
def qI(own:List Str)(aI:List Nat)(σ:St):St:=own.map (λ_=>none)++aI.map λi=>(σ[i]?).join
def fX(N:List Str)(sc scope:Scope)(aI:List Nat):Bool:=
 scope.kind== .function && scope.names.all (λy=>y.2 != .cell) && scope.names.all (λy=>y.2 != .local || scope.names.lookup y.1==some .local) &&
 scope.names.all (λy=>y.2 != .free || (sc.names.lookup y.1==some .cell || sc.names.lookup y.1==some .free)) &&
 aI.all (λi=>match N[i]? with | some x=>scope.names.lookup x==some .free | none=>false)
structure FH(X:Cx)(scope:Scope)(aI:List Nat):Prop where
 kind:scope.kind= .function
 LX:∀y∈scope.names,y.2≠ .cell
 loc:∀y∈scope.names,y.2= .local->scope.names.lookup y.1=some .local
 fr:∀y∈scope.names,y.2= .free->X.env.kindOf y.1=some .cell\/X.env.kindOf y.1=some .free
 cap:∀i∈aI,∃x,X.N[i]? =some x/\scope.names.lookup x=some .free
theorem FH.of{X:Cx}{scope sc:Scope}{N:List Str}{aI:List Nat}(hN:X.N=N)(hs:X.env.scope=sc)(h:fX N sc scope aI=true):FH X scope aI:=by
 subst hN hs;unfold fX at h;simp only[Bool.and_eq_true,List.all_eq_true]at h;obtain⟨⟨⟨⟨h1,h2⟩,h3⟩,h4⟩,h5⟩:=h;refine⟨beq_iff_eq.mp h1,λy hy z=>?_,λy hy z=>?_,λy hy z=>?_,λi hi=>?_⟩
 ·have:=h2 y hy;rw[z]at this;exact absurd this (by decide)
 ·have:=h3 y hy;rw[z]at this;simpa using this
 ·have:=h4 y hy;rw[z]at this;have this:(X.env.scope.names.lookup y.1==some NameKind.cell || X.env.scope.names.lookup y.1==some NameKind.free)=true:=by simpa using this
  rcases Bool.or_eq_true_iff.mp this with q | q
  ·exact .inl (beq_iff_eq.mp q)
  ·exact .inr (beq_iff_eq.mp q)
 ·have:=h5 i hi
  cases e:X.N[i]? with
  | none=>rw[e]at this;simp at this
  | some x=>rw[e]at this;exact⟨x,rfl,beq_iff_eq.mp this⟩
def YW(X:Cx)(ifs:List Expr)(t:TT):Prop:=
 ∀(pins:List (Addr×Obj)) (s:Shared) (σ:St) (H:Hp) (Q:Bool->Hp->Prop),Inv X pins σ H s->t σ H Q->
  wpAny (model X.prog X.w) X.A (forIn ifs true λc r=>if r=true then do let ok<-isTrue c X.env (eval c X.env);pure (ForInStep.yield ok) else pure (ForInStep.yield r)) (TP X pins σ Q) X.xe s
def aCu:TT:=λ_ H Q=>Q true H
theorem PK{X:Cx}:YW X [] aCu:=λ_ _ _ H _ I h=>wpAny_tests_nil ⟨H,I,h⟩
theorem PJ{X:Cx}{c:Expr}{t:TT}(h:PT X c t):YW X [c] t:=λpins s σ H Q I q=>wpAny_tests_one (h pins s σ H Q I q)
def vZ(n:Nat)(g:TG):Prop:=∀v σ H Q,g v σ H Q->g v σ H λσ' H' =>Q σ' H' /\σ'.length=σ.length/\∀j,n<=j->σ'[j]? =σ[j]?
def HF(n:Nat)(g:HB):Prop:=∀vs σ H Q,g vs σ H Q->g vs σ H λσ' H' =>Q σ' H' /\σ'.length=σ.length/\∀j,n<=j->σ'[j]? =σ[j]?
theorem IY{n i:Nat}(h:i<n):vZ n (rH i):=λv σ H Q q=>⟨q,by simp,λj hj=>by rw[List.getElem?_set_ne (by lia)]⟩
theorem NC{n:Nat}:HF n ND:=λvs σ H Q q=>⟨q.1,q.2,rfl,λ_ _=>rfl⟩
theorem IZ{n:Nat}{t:TG}{u:HB}(mt:∀v σ H Q Q',(∀σ' H',Q σ' H' ->Q' σ' H')->t v σ H Q->t v σ H Q')(mu:∀v σ H Q Q',(∀σ' H',Q σ' H' ->Q' σ' H')->u v σ H Q->u v σ H Q')(h1:vZ n t)(h2:HF n u):HF n (CH t u):=by
 intro vs σ H Q q;obtain⟨v,r,e,q⟩:=q;refine⟨v,r,e,mt _ _ _ _ _ (λσ' H' ⟨q',l,k⟩=>?_) (h1 _ _ _ _ q)⟩;refine mu _ _ _ _ _ (λσ2 H2 ⟨q2,l2,k2⟩=>?_) (h2 _ _ _ _ q');exact⟨q2,l2.trans l,λj hj=>(k2 j hj).trans (k j hj)⟩
theorem NB{n m:Nat}{K:aHw}{u:HB}(h:HF n u):vZ n (XQ K m u):=by
 intro v σ H Q q;obtain⟨a,xs,e,hs,hl,q⟩:=q;exact⟨a,xs,e,hs,hl,h _ _ _ _ q⟩
theorem ET{i:Nat}:∀v σ H Q Q',(∀σ' H',Q σ' H' ->Q' σ' H')->rH i v σ H Q->rH i v σ H Q' :=λ_ _ _ _ _ h q=>h _ _ q
theorem JA:∀v σ H Q Q',(∀σ' H',Q σ' H' ->Q' σ' H')->ND v σ H Q->ND v σ H Q' :=λ_ _ _ _ _ h q=>⟨q.1,h _ _ q.2⟩
theorem EU{t:TG}{u:HB}(mt:∀v σ H Q Q',(∀σ' H',Q σ' H' ->Q' σ' H')->t v σ H Q->t v σ H Q')(mu:∀v σ H Q Q',(∀σ' H',Q σ' H' ->Q' σ' H')->u v σ H Q->u v σ H Q'):
  ∀v σ H Q Q',(∀σ' H',Q σ' H' ->Q' σ' H')->CH t u v σ H Q->CH t u v σ H Q' :=by
 intro vs σ H Q Q' h ⟨v,r,e,q⟩;exact⟨v,r,e,mt _ _ _ _ _ (λσ' H' q' =>mu _ _ _ _ _ h q') q⟩
theorem CY{prog:Program}{w:World}{A:Around}{R:Result->Shared->Prop}{s:Shared}{elt target iter:Expr}{ifs:List Expr}{scope:Scope}{pos:Pos}{it acc:Value}{env:Env}(I:Nat->Shared->Prop)
  (turn:∀n s,I n s->wpAny (model prog w) A (pyNext it) (λr s₁=>match r with
   | none=>R (.ok .next) s₁
   | some v=>wpAny (model prog w) A (letOwnedTupleGo target it v) (λ_ s₁=>wpAny (model prog w) A (assign target env v) (λ_ s₂=>
     wpAny (model prog w) A (forIn ifs true λc r=>if r=true then do let ok<-isTrue c env (eval c env);pure (ForInStep.yield ok) else pure (ForInStep.yield r)) (λok s₃=>
      if ok=true then wpAny (model prog w) A (eval elt env) (λx s₄=>
       wpAny (model prog w) A (call (.builtin "list.append") [acc,x]) (λ_ s₅=>∃m,m<n/\I m s₅) (λ_ _=>False) s₄) (λ_ _=>False) s₃
      else ∃m,m<n/\I m s₃) (λ_ _=>False) s₂) (λ_ _=>False) s₁) (λ_ _=>False) s₁) (λ_ _=>False) s)
  (n:Nat) (h:I n s):codeAny (model prog w) A (.compLoop (.ListComp elt [⟨target,iter,ifs,0⟩] scope pos) 0 it acc env) R s:=by
 refine codeAny_loop rfl I (λn s hI=>?_) n h;show wpAny _ A ((compTurn (.ListComp elt [⟨target,iter,ifs,0⟩] scope pos) 0 it acc env).onRaise (λx=>do noteFrame x env;theTreesLotGoes x)) _ _ s;refine wpAny_noted ?_;rw[compTurn_list];refine aF3 (wpAny_standAt (aF3 (aGs (turn n s hI) (λr s₁ h₁=>?_) λ_ _ h' =>h'.elim)))
 cases r with
 | none=>exact aF5 h₁
 | some v=>
  refine aF3 (aGs h₁ (λ_ s₁ h₁=>?_) λ_ _ h' =>h'.elim);refine aF3 (aGs h₁ (λ_ s₂ h₂=>aF3 (aGs h₂ (λok s₃ h₃=>?_) λ_ _ h' =>h'.elim)) λ_ _ h' =>h'.elim)
  cases ok with
  | false=>exact aF5 ⟨rfl,h₃⟩
  | true=>
   exact aF3 (aF3 (aGs h₃ (λx s₄ h₄=>aF3 (aGs h₄ (λ_ s₅ h₅=>aF5 (aF5 ⟨rfl,h₅⟩)) λ_ _ h' =>h'.elim)) λ_ _ h' =>h'.elim))
abbrev TBd:=List V->St->Hp->(List V->Hp->Prop)->Prop
def ZK(own:List Str)(aI:List Nat)(wi:TI)(g:TG)(tt:TT)(tb:Addr->TBd):TE:=λσ H Q=>wi σ H λJ H1=>∀acc,H1 acc=none->
 ∃W:Nat->Nat->List V->Hp->Prop,(∃m,W 0 m [] (upd H1 acc (.lst [])))/\∀i m ys H,W i m ys H->H acc=some (.lst ys)/\
  ((J.stop i H/\Q (.ref acc) H)\/(J.go i H/\∃N:List V->Hp->Prop,(∀ys' H',N ys' H' ->∃m',m'<m/\W (i+1) m' ys' H')/\
   ∀x H',J.YJ i H x H' ->g x (qI own aI σ) H' λσ2 H2=>tt σ2 H2 λb H3=>if b=true then tb acc ys σ2 H3 N else N ys H3))
def tbE(te:TE)(acc:Addr):TBd:=λys σ H N=>ys.length<sizeLine/\te σ H λy H4=>H4 acc=some (.lst ys)/\N (ys++[y]) (upd H4 acc (.lst (ys++[y])))
def tLC(own:List Str)(aI:List Nat)(wi:TI)(g:TG)(tt:TT)(te:TE):TE:=ZK own aI wi g tt (tbE te)
theorem JK{X:Cx}{tg iter elt:Expr}{ifs:List Expr}{more:List Comprehension}{scope sc:Scope}{N:List Str}{pos:Pos}{wi:TI}{g:TG}{tt:TT}{tb:Addr->TBd}(own:List Str)(o1:Nat)(aI:List Nat)(B:Env->Addr->(Shared->Prop)->Shared->Prop)
  (hN:X.N=N) (hsc:X.env.scope=sc) (chk:fX N sc scope aI=true) (hcalm:X.calm=true) (hi:PI X tg iter wi) (ho1:o1<=own.length) (ho:vZ o1 g)
  (hg:∀cl C fp s₀ H₀,PG (aX X own aI scope cl C fp s₀ H₀) tg g) (ht:∀cl C fp s₀ H₀,YW (aX X own aI scope cl C fp s₀ H₀) ifs tt)
  (hbody:∀acc cl C fp s₀ H₀ pins s σ H ys NN K,Inv (aX X own aI scope cl C fp s₀ H₀) pins σ H s->(∀j,o1<=j->j<own.length->σ[j]? =some none)->tb acc ys σ H NN->
   (∀ysn H' s',Inv (aX X own aI scope cl C fp s₀ H₀) pins σ H' s' ->NN ysn H' ->K s')->B (compEnvC scope cl C X.env) acc K s)
  (hloop:∀(it acc:Addr) (env:Env) (R:Result->Shared->Prop) (I:Nat->Shared->Prop),(∀n s,I n s->wpAny (model X.prog X.w) X.A (pyNext (.ref it)) (λr s₁=>match r with
   | none=>R (.ok .next) s₁
   | some v=>wpAny (model X.prog X.w) X.A (letOwnedTupleGo tg (.ref it) v) (λ_ s₁=>wpAny (model X.prog X.w) X.A (assign tg env v) (λ_ s₂=>
     wpAny (model X.prog X.w) X.A (forIn ifs true λc r=>if r=true then do let ok<-isTrue c env (eval c env);pure (ForInStep.yield ok) else pure (ForInStep.yield r)) (λok s₃=>
      if ok=true then B env acc (λs=>∃m,m<n/\I m s) s₃ else ∃m,m<n/\I m s₃) (λ_ _=>False) s₂) (λ_ _=>False) s₁) (λ_ _=>False) s₁) (λ_ _=>False) s)->
   ∀n s,I n s->codeAny (model X.prog X.w) X.A (.compLoop (.ListComp elt (⟨tg,iter,ifs,0⟩::more) scope pos) 0 (.ref it) (.ref acc) env) R s)
  (hs:∀x,foldedSetIterable iter X.env x=pure x) {pins:List (Addr×Obj)} {s:Shared} {σ:St} {H:Hp} {Q:VK} {use:Option (Value->Sem Unit)} {Q' :aHx} (I:Inv X pins σ H s) (h:ZK own aI wi g tt tb σ H Q)
  (hend:∀(acc C:Addr) (m:aHz) (H5:Hp) (s6:Shared) (r:Flow),Inv X pins σ H5 s6->H5 C=none->C≠X.env.locals->X.s₀.heap.objs.size<=C->(∀x c,X.env.cells.lookup x=some c->c≠C)->(∀p∈X.pn++pins,p.1≠C)->s6.heap.Ns C m->Q (.ref acc) H5->
   compPost (model X.prog X.w) X.A X.xe use Q' (.ref acc) C (.ok r) s6):
  wpAny (model X.prog X.w) X.A (comprehension (.ListComp elt (⟨tg,iter,ifs,0⟩::more) scope pos) scope X.env (firstIterPos (⟨tg,iter,ifs,0⟩::more) pos) (newList []) (firstAsync (⟨tg,iter,ifs,0⟩::more)) (firstIter (⟨tg,iter,ifs,0⟩::more) X.env) use) Q' X.xe s:=by
 have ck:=FH.of hN hsc chk;have hcl:∀x∈scope.names,x.2= .free->∃c,X.env.cells.lookup x.1=some c:=λx hx hf=>I.ok.has x.1 (ck.fr x hx hf);refine wpAny_comprehension_free (use:=use) (cl:=lI scope.names X.env.cells []) rfl hs (vT hcl) ck.kind ck.loc (cM (hi pins s σ H _ I h) λv s1 h1=>cM h1 λitv s2 h2=>?_);obtain⟨it,fp,tn,J,H2,e,I2,T,st2,f2,hW⟩:=h2;subst e;refine aFt (wpAny_newFunctionEnv ck.LX (by intro y hy;simp at hy) (λh₁ hns₁ hsb₁=>?_) ck.kind);dsimp only at hns₁ hsb₁⊢;have hacc0:H2 s2.heap.objs.size=none:=I2.bG.fresh (aF9 _);obtain⟨W,⟨m0,w0⟩,turn⟩:=hW s2.heap.objs.size hacc0
 have I3:Inv X pins σ (upd H2 s2.heap.objs.size (.lst [])) {s2 with heap:=s2.heap.push {cls:= .type "list",dict:=none,data:= .seq ([]:List Value).toArray}}:=
  I2.laid (t' :=s2.toks) (λb u e=>aF4 _ e) (aF9 _) ⟨aGk _,[],0,.nil,aFa _ rfl⟩
 generalize hH3:upd H2 s2.heap.objs.size (.lst [])=H3 at I3 w0;generalize hG:s2.heap.push {cls:= .type "list",dict:=none,data:= .seq ([]:List Value).toArray}=G at I3 hns₁ hsb₁⊢;have hGs:G.objs.size=s2.heap.objs.size+1:=by rw[<-hG,Heap.size_push]
 generalize hcl' :lI scope.names X.env.cells []=cl at⊢
 have clOk:∀x c,cl.lookup x=some c->X.env.cells.lookup x=some c:=λx c e=>by
  have:=xI (cells:=X.env.cells) (P:=λx c=>X.env.cells.lookup x=some c) scope.names [] (by simp) (λn hn=>by
   obtain⟨c,hc⟩:=hcl (n,.free) hn rfl;have hc' :X.env.cells.lookup n=some c:=hc
   rw[hc'];rfl) (x,c) (by rw[hcl'];exact aG9 e)
  exact this
 have clHas:∀x,scope.names.lookup x=some .free->∃c,cl.lookup x=some c:=λx e=>by
  obtain⟨c,hc⟩:=xJ (cells:=X.env.cells) scope.names [] x (aG9 e);rw[hcl']at hc;exact fF hc
 have fpObj:=T.obj _ _ st2;have fpLt:∀b∈fp,b<s2.heap.objs.size:=λb hb=>by obtain⟨o,e,_⟩:=fpObj b hb;exact aFc e
 have bG:(aX X own aI scope cl G.objs.size fp {s2 with heap:=G} H3).Ok:=by
  refine⟨I3.ok.mod,ck.kind,I3.ok.glob,I3.ok.blt,aF9 _,λx y c e1 e2=>I3.ok.inj x y c (clOk x c e1) (clOk y c e2),λx hx=>?_,λx c hf _=>absurd hf (by simp[aX]),I3.ok.hd,I3.ok.frames,.inl rfl,λb hb=>⟨?_,λx c e=>?_⟩,I3.bs,aFu I3.ok.R0 I3.sz,λb o e hb=>?_,λb hb z=>?_,I3.stack,I3.F0⟩
  ·have hx:(relabel scope X.env).names.lookup x=some .cell\/(relabel scope X.env).names.lookup x=some .free:=hx;rcases hx with q | q
   ·obtain⟨k,hk,z | ⟨z,_⟩⟩:=oQ q
    ·exact absurd z.symm (ck.LX _ (aG9 hk))
    ·exact clHas x (by rw[hk,z])
   ·obtain⟨k,hk,z | ⟨_,z⟩⟩:=oQ q
    ·exact clHas x (by rw[hk,<-z])
    ·cases z
  ·exact aFj (Nat.lt_trans (fpLt b hb) (by show s2.heap.objs.size<G.objs.size;rw[hGs];exact aG7 _))
  ·exact(f2 b hb).2.2.2.2.1 x c (clOk x c e)
  ·rcases(f2 b hb).2.2.2.1 with z | z
   ·exact I3.ok.LV b o e z
   ·exact absurd (aFo (aFc e) (aFu I3.ok.R0 z)) (aGm _)
  ·rcases aFd.mp (I3.DM b z) with q | q
   ·exact(f2 b hb).2.1 q
   ·exact(f2 b hb).2.2.1 q
 have kept:∀b o,G.get? b=some o->h₁.get? b=some o:=λb o e=>hsb₁.extBut b o (aFj (aFc e)) (aF4 _ e);have hCn:H3 G.objs.size=none:=I3.bG.fresh (aF9 _)
 have I4:Inv (aX X own aI scope cl G.objs.size fp {s2 with heap:=G} H3) [] (qI own aI σ) H3 {s2 with heap:=h₁,toks:=s2.toks+([]:List (Str×Value)).length}:=by
  refine⟨bG,rfl,I3.bare,Un.kept kept,⟨_,hns₁,λi x v e1 e2 e3=>?_⟩,λx c e=>?_,hCn,λx c e=>I3.lA x c (clOk x c e),λp hp=>absurd hp (by simp[aX]),I3.bG.kept kept,by simp[qI,aX]⟩
  ·have hge:own.length<=i:=by
    refine aHq λhlt=>?_;unfold qI at e2;rw[List.getElem?_append_left (by simpa using hlt),List.getElem?_map]at e2
    cases q:own[i]? with
    | none=>rw[q]at e2;simp at e2
    | some z=>rw[q]at e2;simp at e2
   unfold qI at e2;have e1' :(own++aI.map λi=>X.N.getD i "")[i]? =some x:=e1;rw[List.getElem?_append_right hge,List.getElem?_map]at e1';rw[List.getElem?_append_right (by simpa using hge),List.getElem?_map]at e2;simp only[List.length_map]at e2
   cases q:aI[i-own.length]? with
   | none=>rw[q]at e1';simp at e1'
   | some k=>
    rw[q]at e1' e2;simp only[Option.map_some,Option.some.injEq]at e1' e2;obtain⟨x',hx',hfree⟩:=ck.cap k (aFf q);have ex:x' =x:=by rw[<-e1',List.getD_eq_getElem?_getD,hx'];rfl
    subst ex
    have e2' :σ[k]? =some (some v):=by
     cases w:σ[k]? with
     | none=>rw[w]at e2;simp at e2
     | some z=>rw[w]at e2;simp at e2;rw[e2]
    have kx:=ck.fr _ (aG9 hfree) rfl
    have visX:Vis X.env.scope x' :=by
     rcases kx with z | z
     ·exact .inr (.inl z)
     ·exact .inr (.inr z)
    obtain⟨m,hn,hl⟩:=I3.loc;obtain⟨u,ru,lk⟩:=hl k x' v hx' e2' visX;refine⟨u,ru,.inr ⟨yD hfree,?_⟩⟩
    rcases lk with ⟨z,_⟩ | ⟨_,c,hc,hcell⟩
    ·rcases kx with z' | z' <;> (have z'' :=z.symm.trans z';cases z'')
    ·obtain⟨c',hc'⟩:=clHas x' hfree;have:=clOk x' c' hc';rw[hc]at this;cases this;obtain⟨o,ho,hd⟩:=hcell;exact⟨c,hc',⟨o,kept _ _ ho,hd⟩⟩
  ·obtain⟨v,o,ho,hd⟩:=I3.cell x c (clOk x c e);exact⟨v,o,kept _ _ ho,hd⟩
 have st4:tn 0 h₁:=T.keep _ _ _ st2 λb hb o e=>kept b o (by rw[<-hG];exact aF4 _ e);have fp4:∀b∈fp,H3 b=none:=λb hb=>by rw[<-hH3,aM (Nat.ne_of_lt (fpLt b hb))];exact(f2 b hb).1
 have stat:∀{H' :Hp},(∀b∈fp,H' b=none)->∀b∈fp,nR (aX X own aI scope cl G.objs.size fp {s2 with heap:=G} H3) [] H' b:=λhn b hb=>
  ⟨hn b hb,(bG.exf b hb).1,bG.NJ b hb,.inl hb,(bG.exf b hb).2,λp hp=>absurd hp (by simp[aX])⟩
 have loop:codeAny (model X.prog X.w) X.A (.compLoop (.ListComp elt (⟨tg,iter,ifs,0⟩::more) scope pos) 0 (.ref it) (.ref s2.heap.objs.size) (compEnvC scope cl G.objs.size X.env))
   (compPost (model X.prog X.w) X.A X.xe use Q' (.ref s2.heap.objs.size) G.objs.size) {s2 with heap:=h₁,toks:=s2.toks+([]:List (Str×Value)).length}:=by
  refine hloop _ _ _ _ (λn s' =>∃i ys H',Inv (aX X own aI scope cl G.objs.size fp {s2 with heap:=G} H3) [] (qI own aI σ) H' s' /\tn i s'.heap/\(∀b∈fp,H' b=none)/\W i n ys H') ?_ m0 _ ⟨0,[],H3,I4,st4,fp4,w0⟩;rintro n s5 ⟨i,ys,H5,I5,st5,fr5,w5⟩;obtain⟨hacc,turn5⟩:=turn i n ys H5 w5
  rcases turn5 with ⟨stop,q⟩ | ⟨go,NN,hNN,step⟩
  ·refine cM (T.done (aX X own aI scope cl G.objs.size fp {s2 with heap:=G} H3) rfl rfl rfl hcalm i [] s5 _ H5 (λ_ _=>False) I5 (stat fr5) st5 stop) λr s6 zz0=>?_;obtain⟨hr,I6⟩:=zz0;subst hr;obtain⟨m,hm,_⟩:=id I6.loc
   have I7:Inv X pins σ H5 s6:=I3.aBo (ch:=fp) I6.os I6.base I6.bG I6.bare λb hb=>⟨(f2 b hb).2.2.2.1,(f2 b hb).2.1,λx c e=>(f2 b hb).2.2.2.2.1 x c e,λp hp=>(f2 b hb).2.2.2.2.2 p hp⟩
   exact hend _ _ m H5 s6 _ I7 I6.free (aHo (by have:=I3.lt;exact this)) I3.sz (λx c e=>by obtain⟨v,z⟩:=I3.cell x c e;exact aFj z.lt) (λp hp=>aFj (aFc (I3.pin p hp).1)) hm q
  ·refine cM (T.item (aX X own aI scope cl G.objs.size fp {s2 with heap:=G} H3) rfl rfl rfl hcalm i [] s5 _ H5 (λ_ _=>False) I5 (stat fr5) st5 go) λr s6 zz1=>?_;obtain⟨u,hr,h6⟩:=zz1;subst hr;refine cM h6 λ_ s7 zz2=>?_;obtain⟨x,H7,I7,r7,y7,st7,fr7⟩:=zz2;have I7' :=I7.pinned (stat fr7) (T.obj _ _ st7);refine cM (hg _ _ _ _ _ _ s7 _ H7 x u _ I7' r7 (ho _ _ _ _ (step x H7 y7))) λ_ s8 zz3=>?_;obtain⟨σ8,H8,I8,q8,l8,k8⟩:=zz3;refine cM (ht _ _ _ _ _ _ s8 σ8 H8 _ I8 q8) λok s9 zz4=>?_;obtain⟨H9,I9,q9⟩:=zz4
   have again:∀{ysn:List V} {H10:Hp} {s10:Shared},Inv (aX X own aI scope cl G.objs.size fp {s2 with heap:=G} H3) ([]++uA fp s7.heap) σ8 H10 s10->NN ysn H10->
     ∃m,m<n/\∃i ys H',Inv (aX X own aI scope cl G.objs.size fp {s2 with heap:=G} H3) [] (qI own aI σ) H' s10/\tn i s10.heap/\(∀b∈fp,H' b=none)/\W i m ys H' :=λ{ysn H10 s10} I10 n10=>by
    obtain⟨m',hm,w10⟩:=hNN ysn H10 n10
    have I10' :Inv (aX X own aI scope cl G.objs.size fp {s2 with heap:=G} H3) ([]:List (Addr×Obj)) (qI own aI σ) H10 s10:=I10.n8.weak l8.symm λj v e=>by
     have hge:own.length<=j:=by
      refine aHq λhlt=>?_;unfold qI at e;rw[List.getElem?_append_left (by simpa using hlt),List.getElem?_map]at e
      cases q:own[j]? with
      | none=>rw[q]at e;simp at e
      | some z=>rw[q]at e;simp at e
     rw[k8 j (Nat.le_trans ho1 hge)];exact e
    refine⟨m',hm,i+1,ysn,H10,I10',T.keep _ _ _ st7 λb hb o e=>(I10.pin (b,o) (aFs _ (aFs _ (i5 hb e)))).1,λb hb=>?_,w10⟩;obtain⟨o,e,d⟩:=T.obj _ _ st7 b hb;exact(I10.pin (b,o) (aFs _ (aFs _ (i5 hb e)))).2.1
   cases ok with
   | false=>exact again I9 q9
   | true=>
    rw[if_pos rfl];refine hbody _ _ _ _ _ _ _ s9 σ8 H9 ys NN _ I9 (λj hj1 hj2=>?_) q9 λysn H10 s10 I10 q10=>again I10 q10;rw[k8 j hj1];unfold qI;rw[List.getElem?_append_left (by simpa using hj2),List.getElem?_map];simp[hj2]
 exact codeAny_compStart_list loop (T.self _ 0 _ _ _ st4 loop)
theorem NT{X:Cx}{pins:List (Addr×Obj)}{σ:St}{Q:VK}(acc C:Addr)(m:aHz)(H5:Hp)(s6:Shared)(r:Flow)(I7:Inv X pins σ H5 s6)(c0:H5 C=none)(c1:C≠X.env.locals)(c2:X.s₀.heap.objs.size<=C)(c3:∀x c,X.env.cells.lookup x=some c->c≠C)(c4:∀p∈X.pn++pins,p.1≠C)(hm:s6.heap.Ns C m)(q:Q (.ref acc) H5):
  compPost (model X.prog X.w) X.A X.xe none (EP X pins σ Q) (.ref acc) C (.ok r) s6:=
 ⟨m,hm,λh' sb=>⟨.ref acc,H5,I7.turned (t' :=s6.toks) (it:=C) (λb o hb e=>sb.extBut b o hb e) c0 c1 (.inr c2) c3 c4,rfl,q⟩⟩
section
variable {X:Cx}{tg iter elt:Expr}{ifs:List Expr}{scope sc:Scope}{N:List Str}{pos:Pos}{wi:TI}{g:TG}{tt:TT}{te:TE}(own:List Str)(aI:List Nat)
  (hN:X.N=N) (hsc:X.env.scope=sc) (chk:fX N sc scope aI=true) (hcalm:X.calm=true) (hi:PI X tg iter wi) (ho:vZ own.length g)
  (hg:∀cl C fp s₀ H₀,PG (aX X own aI scope cl C fp s₀ H₀) tg g) (ht:∀cl C fp s₀ H₀,YW (aX X own aI scope cl C fp s₀ H₀) ifs tt)
  (he:∀cl C fp s₀ H₀,PE (aX X own aI scope cl C fp s₀ H₀) elt te)
include hN hsc chk hcalm hi ho hg ht he
theorem GN(hs:∀x,foldedSetIterable iter X.env x=pure x){pins:List (Addr×Obj)}{s:Shared}{σ:St}{H:Hp}{Q:VK}{use:Option (Value->Sem Unit)}{Q' :aHx}(I:Inv X pins σ H s)(h:tLC own aI wi g tt te σ H Q)
  (hend:∀(acc C:Addr) (m:aHz) (H5:Hp) (s6:Shared) (r:Flow),Inv X pins σ H5 s6->H5 C=none->C≠X.env.locals->X.s₀.heap.objs.size<=C->(∀x c,X.env.cells.lookup x=some c->c≠C)->(∀p∈X.pn++pins,p.1≠C)->s6.heap.Ns C m->Q (.ref acc) H5->
   compPost (model X.prog X.w) X.A X.xe use Q' (.ref acc) C (.ok r) s6):
  wpAny (model X.prog X.w) X.A (comprehension (.ListComp elt [⟨tg,iter,ifs,0⟩] scope pos) scope X.env (firstIterPos [⟨tg,iter,ifs,0⟩] pos) (newList []) (firstAsync [⟨tg,iter,ifs,0⟩]) (firstIter [⟨tg,iter,ifs,0⟩] X.env) use) Q' X.xe s:=by
 refine JK own own.length aI (λenv acc K s=>wpAny (model X.prog X.w) X.A (eval elt env) (λx s4=>wpAny (model X.prog X.w) X.A (call (.builtin "list.append") [.ref acc,x]) (λ_ s5=>K s5) (λ_ _=>False) s4) (λ_ _=>False) s)
  hN hsc chk hcalm hi (aF9 _) ho hg ht (λacc cl C fp s₀ H₀ pins s σ H ys NN K I9 _ q k=>?_) (λit acc env R I turn n s h=>CY I turn n h) hs I h hend
 refine cM (he _ _ _ _ _ _ s σ H _ I9 q.2) λyv s10 zz5=>?_;obtain⟨y,H10,I10,ry,hacc10,q10⟩:=zz5;refine cM (wW _ s10 σ H10 (.ref acc) [y] (.ref acc) [yv] (λv H' =>v= .b7/\NN (ys++[y]) H') I10 rfl (.cons ry .nil) ⟨_,_,_,rfl,rfl,hacc10,q.1,rfl,q10⟩) λ_ s11 zz6=>?_;obtain⟨_,H11,I11,_,_,q11⟩:=zz6;exact k _ _ _ I11 q11
theorem aA3(hs:∀x,foldedSetIterable iter X.env x=pure x:=by intro _;rfl):PE X (.ListComp elt [⟨tg,iter,ifs,0⟩] scope pos) (tLC own aI wi g tt te):=by
 intro pins s σ H Q I h;rw[eval_ListComp];exact GN own aI hN hsc chk hcalm hi ho hg ht he hs I h NT
end
theorem K9{X:Cx}{tg iter elt:Expr}{ifs:List Expr}{scope sc:Scope}{N:List Str}{pos pos' kK:Pos}{wi:TI}{g:TG}{tt:TT}{te:TE}{i:Nat}{x:Str}(own:List Str)(aI:List Nat)
  (hN:X.N=N) (hsc:X.env.scope=sc) (chk:fX N sc scope aI=true) (hcalm:X.calm=true) (hi:PI X tg iter wi) (ho:vZ own.length g)
  (hg:∀cl C fp s₀ H₀,PG (aX X own aI scope cl C fp s₀ H₀) tg g) (ht:∀cl C fp s₀ H₀,YW (aX X own aI scope cl C fp s₀ H₀) ifs tt)
  (he:∀cl C fp s₀ H₀,PE (aX X own aI scope cl C fp s₀ H₀) elt te)
  (nd:X.N.Nodup) (hx0:X.N[i]? =some x) (hx:Loc X.env.scope x) (hw:swapsWith (.ListComp elt [⟨tg,iter,ifs,0⟩] scope pos) (some (.Name x pos')) kK.line X.env=pure true)
  (hf:X.fn x=true\/X.env.scope.names.lookup x=some .local) (hs:∀x,foldedSetIterable iter X.env x=pure x:=by intro _;rfl):
  PS X (.Assign [.Name x pos'] (.ListComp elt [⟨tg,iter,ifs,0⟩] scope pos) kK) (OX (tLC own aI wi g tt te) (rH i)):=by
 intro pins s σ H D I h;rw[arm_exec_Assign];refine aF3 (wpAny_standAt (aF3 (aHk (show swapsWithSole [.Name x pos'] _ kK.line X.env=pure true from hw) ?_)));rw[if_pos rfl];refine aF3 (aF3 (GN (Q:=λv H1=>D.nx (σ.set i (some v)) H1) own aI hN hsc chk hcalm hi ho hg ht he hs I h λacc C m H5 s6 r I6 c0 c1 c2 c3 c4 hm q=>?_));show wpAny _ _ (assign (.Name x pos') X.env (.ref acc)) _ _ _;refine PyProof.Rows.assign_Name (wF I6 nd hx0 hx (v:= .ref acc) rfl (λs7 I7 hsb=>?_) hf);obtain⟨a,sb,ha⟩:=hsb
 have hCa:C≠a:=by
  rcases ha with rfl | ha
  ·exact c1
  ·exact λz=>c3 x a ha z.symm
 refine⟨m,?_,λh' sb2=>aF5 (aF5 ⟨_,H5,?_,q⟩)⟩
 ·obtain⟨o,es,ep,e,c⟩:=hm;exact⟨o,es,ep,(sb.2 C hCa).trans e,c⟩
 ·exact I7.turned (t' :=s7.toks) (it:=C) (λb o hb e=>sb2.extBut b o hb e) c0 c1 (.inr c2) c3 c4
structure Src where
 it:Addr
 l:Addr
 tup:Bool
def Src.At(q:Src)(h:Heap)(i:Nat):Prop:=match q.tup with | true=>h.IsTupleIter q.it q.l i | false=>h.IsListIter q.it q.l i
def Src.Sq(q:Src)(h:Heap)(items:Array Value):Prop:=match q.tup with | true=>h.IsTuple q.l items | false=>h.IsList q.l items
theorem Src.At.to{q:Src}{h h' :Heap}{i:Nat}(x:q.At h i)(e:∀o,h.get? q.it=some o->h'.get? q.it=some o):q.At h' i:=by
 obtain⟨it,l,t⟩:=q;cases t <;> (obtain⟨o,ho,r⟩:=x;exact⟨o,e o ho,r⟩)
theorem Src.At.obj{q:Src}{h:Heap}{i:Nat}(x:q.At h i):∃o,h.get? q.it=some o/\o.data= .fields #[.ref q.l,.int i 0]:=by
 obtain⟨it,l,t⟩:=q;cases t <;> (obtain⟨o,ho,_,r⟩:=x;exact⟨o,ho,r⟩)
theorem Src.Sq.to{q:Src}{h h' :Heap}{items:Array Value}(x:q.Sq h items)(e:∀o,h.get? q.l=some o->h'.get? q.l=some o):q.Sq h' items:=by
 obtain⟨it,l,t⟩:=q;cases t <;> (obtain⟨o,ho,r⟩:=x;exact⟨o,e o ho,r⟩)
theorem Src.Sq.obj{q:Src}{h:Heap}{items:Array Value}(x:q.Sq h items):∃o n,h.get? q.l=some o/\o.data= .seq items n:=by
 obtain⟨it,l,t⟩:=q;cases t <;> (obtain⟨o,ho,_,n,r⟩:=x;exact⟨o,n,ho,r⟩)
section
variable {prog:Program}{w:World}{A:Around}{E:aHx}{s:Shared}
theorem rX{it l:Addr}{i:Nat}{items:Array Value}{x:Value}{Q:aHx}(hit:s.heap.IsTupleIter it l i)(hl:s.heap.IsTuple l items)(hx:items[i]? =some x)
  (hQ:∀h',h'.IsTupleIter it l (i+1)->Heap.SameBut it s.heap h' ->Q x {s with heap:=h'}):wpAny (model prog w) A (Builtin.SmallTypes.nextOf (.ref it)) Q E s:=by
 obtain⟨oi,hoi,hci,hdi⟩:=id hit;obtain⟨os,hos,_,ns,hds⟩:=hl;unfold Builtin.SmallTypes.nextOf;refine aF3 (aFp (name:=Str.ofString "__next__") hit.typeIs aH0 (aFm aH0 hit.typeIs F.entry_tuple_iterator_next ?_ (F.args_tuple_iterator_next_1 _)));refine aF3 (m:=field (.ref it) 0) (aG4 hoi hdi (x:= .ref l) rfl ?_);show wpAny _ _ (if (Value.ref l==Value.none)=true then _ else field (.ref it) 1 >>=_) _ _ s;rw[if_neg (show ¬((Value.ref l==Value.none)=true) from Bool.false_ne_true)];refine aF3 (aG4 hoi hdi (x:= .int i 0) rfl ?_);refine aF3 (m:=seqItems? (.ref l)) (aG2 hos hds ?_);simp only[Int.toNat_natCast,hx];refine aF3 (wpAny_setField hoi hdi (by simp) (aF5 ⟨x,rfl,aF5 (hQ _ ⟨_,aG5 _ hoi (Obj.isFreed_of_fields (Obj.data_mapFields hdi _)),(Obj.cls_mapFields ..).trans hci,?_⟩ (aGa ..))⟩));rw[Obj.data_mapFields hdi];simp[rawInt]
theorem uE{it l:Addr}{i:Nat}{items:Array Value}{Q:aHx}(hh:A.handled=none)(hit:s.heap.IsTupleIter it l i)(hl:s.heap.IsTuple l items)(hx:items[i]? =none)
  (hE:∀h' e,Heap.ExtBut it s.heap h' ->(∃o,h'.get? e=some o/\o.cls= .type "StopIteration")->E (.ref e) {s with heap:=h'}):wpAny (model prog w) A (Builtin.SmallTypes.nextOf (.ref it)) Q E s:=by
 obtain⟨oi,hoi,hci,hdi⟩:=id hit;obtain⟨os,hos,_,ns,hds⟩:=hl;unfold Builtin.SmallTypes.nextOf;refine aF3 (aFp (name:=Str.ofString "__next__") hit.typeIs aH0 (aFm aH0 hit.typeIs F.entry_tuple_iterator_next ?_ (F.args_tuple_iterator_next_1 _)));refine aF3 (m:=field (.ref it) 0) (aG4 hoi hdi (x:= .ref l) rfl ?_);show wpAny _ _ (if (Value.ref l==Value.none)=true then _ else field (.ref it) 1 >>=_) _ _ s;rw[if_neg (show ¬((Value.ref l==Value.none)=true) from Bool.false_ne_true)];refine aF3 (aG4 hoi hdi (x:= .int i 0) rfl ?_);refine aF3 (m:=seqItems? (.ref l)) (aG2 hos hds ?_);simp only[Int.toNat_natCast,hx];refine aF3 (aGc (aF3 (wpAny_setField hoi hdi (by simp) ?_)));refine aF3 (m:=newExc (.type "StopIteration") []) ?_;simp only[newExc,newTuple];refine aF3 (aFt ?_ (by size_fits));refine aF3 (m:=firstArgMember _ _) (aHk (a:=Value.none) (by first | rfl | (simp only[firstArgMember];rfl)) ?_);refine aFt (?_:_) (by size_fits);simp only[raiseNew];refine aF3 (wpAny_handled (?_:_))
 first | rw[show A.in1.handled=none from hh] | rw[hh]
 refine aF3 (aF5 (wpAny_throw (?_:_)));exact hE _ _ (((aGa ..).extBut.push _).push _) ⟨_,aFa _ rfl,rfl⟩
theorem Src.item{q:Src}{i:Nat}{items:Array Value}{x:Value}{Q:aHx}(hit:q.At s.heap i)(hl:q.Sq s.heap items)(hx:items[i]? =some x)
  (hQ:∀h',q.At h' (i+1)->Heap.SameBut q.it s.heap h' ->Q x {s with heap:=h'}):wpAny (model prog w) A (Builtin.SmallTypes.nextOf (.ref q.it)) Q E s:=by
 obtain⟨it,l,t⟩:=q;cases t
 ·exact wpAny_nextOf_list_item hit hl hx hQ
 ·exact rX hit hl hx hQ
theorem Src.done{q:Src}{i:Nat}{items:Array Value}{Q:aHx}(hh:A.handled=none)(hit:q.At s.heap i)(hl:q.Sq s.heap items)(hx:items[i]? =none)
  (hE:∀h' e,Heap.ExtBut q.it s.heap h' ->(∃o,h'.get? e=some o/\o.cls= .type "StopIteration")->E (.ref e) {s with heap:=h'}):wpAny (model prog w) A (Builtin.SmallTypes.nextOf (.ref q.it)) Q E s:=by
 obtain⟨it,l,t⟩:=q;cases t
 ·exact wpAny_nextOf_list_end hh hit hl hx hE
 ·exact uE hh hit hl hx hE
theorem Src.start{q:Src}{items:Array Value}{Q:aHx}(hl:q.Sq s.heap items)
  (hQ:∀h',(⟨s.heap.objs.size,q.l,q.tup⟩:Src).At h' 0->h'.objs.size=s.heap.objs.size+1->(∀b o,s.heap.get? b=some o->h'.get? b=some o)->Q (.ref s.heap.objs.size) {s with heap:=h'}):wpAny (model prog w) A (pyIter (.ref q.l)) Q E s:=by
 obtain⟨it,l,t⟩:=q;cases t
 ·exact wpAny_pyIter_list hl (hQ _ ⟨_,aFa _ rfl,rfl,rfl⟩ (Heap.size_push ..) λb o e=>aF4 _ e)
 ·exact wpAny_pyIter_tuple hl (hQ _ ⟨_,aFa _ rfl,rfl,rfl⟩ (Heap.size_push ..) λb o e=>aF4 _ e)
structure fI(h:Heap)(z TI TO:Addr)(qs:List Src)(f0:Value)(i:Nat):Prop where
 obj:h.get? z=some {cls:= .type "zip",dict:=none,data:= .fields #[f0,.bool false,.bool false,.ref TI,.ref TO],slots:= #[]}
 aG:∃n,h.get? TI=some {cls:= .type "tuple",data:= .seq (qs.map λq=>Value.ref q.it).toArray n}
 own:∃(xs:List Value) (n:Nat),xs.length=qs.length/\h.get? TO=some {cls:= .type "tuple",data:= .seq xs.toArray n}
 at_:∀q∈qs,q.At h i
structure dA(z TI TO:Addr)(qs:List Src):Prop where
 ne1:TI≠z
 ne2:TO≠z
 ne3:TI≠TO
 EM:∀q∈qs,q.it≠z/\q.it≠TI/\q.it≠TO
 nd:(qs.map (·.it)).Nodup
 src:∀q∈qs,q.l≠z/\q.l≠TO/\∀r∈qs,q.l≠r.it
end
section
variable {prog:Program}{w:World}{A:Around}{E:aHx}{s:Shared}
structure HG(h0 h:Heap)(z TI TO:Addr)(qs:List Src)(vals:List Value)(i j:Nat):Prop where
 obj:h.get? z=some {cls:= .type "zip",dict:=none,data:= .fields #[.ellipsis,.bool false,.bool false,.ref TI,.ref TO],slots:= #[]}
 own:∃(xs:List Value) (n:Nat),xs.length=qs.length/\xs.take j=vals.take j/\h.get? TO=some {cls:= .type "tuple",data:= .seq xs.toArray n}
 done:∀q∈qs.take j,q.At h (i+1)
 todo:∀q∈qs.drop j,q.At h i
 size:h.objs.size=h0.objs.size
 keep:∀c o,c≠z->c≠TO->(∀q∈qs,c≠q.it)->h0.get? c=some o->h.get? c=some o
theorem J1{z TI TO:Addr}{qs:List Src}{i:Nat}{vals:List Value}{Q:aHx}(D:dA z TI TO qs)(Z:fI s.heap z TI TO qs .none i)(hne:qs≠[])
  (hv:vals.length=qs.length) (hq:∀(k:Nat) q x,qs[k]? =some q->vals[k]? =some x->∃items,q.Sq s.heap items/\items[i]? =some x) (hsz:qs.length<=sizeLine)
  (hQ:∀h',fI h' z TI TO qs (rawInt s.heap.objs.size) (i+1)->h'.get? s.heap.objs.size=some {cls:= .type "tuple",data:= .seq vals.toArray}->h'.objs.size=s.heap.objs.size+1->
   (∀c o,c≠z->c≠TO->(∀q∈qs,c≠q.it)->s.heap.get? c=some o->h'.get? c=some o)->Q (.ref s.heap.objs.size) {s with heap:=h'}):
  wpAny (model prog w) A (Builtin.«zip.__next__» ⟨[.ref z],[]⟩) (λfin s' =>∃v,fin= .done (.ret v)/\Q v s') E s:=by
 obtain⟨nI,hTI⟩:=Z.aG;obtain⟨xs0,n0,hx0,hTO⟩:=Z.own;refine aF3 (m:=field (.ref z) 2) (aG4 Z.obj rfl (x:= .bool false) rfl ?_);refine aF3 (m:=field (.ref z) 3) (aG4 Z.obj rfl (x:= .ref TI) rfl ?_);refine aF3 (m:=seqItems? (.ref TI)) (aG2 hTI rfl ?_)
 have hemp:(qs.map λq=>Value.ref q.it).toArray.isEmpty=false:=by cases qs with | nil=>exact absurd rfl hne | cons a r=>rfl
 simp only[hemp];refine aF3 (m:=Builtin.SmallTypes.ownedTupleIsFree (.ref z)) ?_;refine aF3 (m:=field (.ref z) 0) (aG4 Z.obj rfl (x:= .none) rfl (aF5 ?_));simp only[if_true];refine aF3 (aGc ?_);refine aF3 (aG4 Z.obj rfl (x:= .ref TO) rfl ?_);refine aF3 (aFy Z.obj (by simp) λh1 z1 sb1=>?_);refine aF3 ?_;refine wpAny_forIn_list _ (λrest b s' =>b.1=none/\∃j h',s' ={s with heap:=h'}/\rest=((qs.map λq=>Value.ref q.it).zipIdx).drop j/\j<=qs.length/\HG s.heap h' z TI TO qs vals i j) _ ?turn ?fin _ _ ?start
 case start=>
  refine⟨rfl,0,h1,rfl,by simp,aGk _,?_⟩;refine⟨z1,⟨xs0,n0,hx0,by simp,sb1.extBut _ _ D.ne2 hTO⟩,by simp,λq hq=>?_,sb1.1,λc o c1 _ _ e=>sb1.extBut _ _ c1 e⟩;have hq' :q∈qs:=by simpa using hq
  exact(Z.at_ q hq').to λo e=>sb1.extBut _ _ (D.EM q hq').1 e
 case turn=>
  rintro x rest b s5 ⟨hb,j,h',rfl,hd,hj,DR⟩
  have hjl:j<qs.length:=by
   refine Nat.lt_of_not_le λhle=>?_;rw[List.drop_eq_nil_of_le (by simpa using hle)]at hd;cases hd
  have hd' :=hd;rw[List.drop_eq_getElem_cons (by simpa using hjl)]at hd';injection hd' with ex er;have exx:x=(Value.ref qs[j].it,j):=by rw[ex];simp
  have hqj:qs[j]? =some qs[j]:=aFg hjl;have hvj:vals[j]? =some vals[j]:=aFg (by lia);generalize hqq:qs[j]=q at hqj exx;generalize hvv:vals[j]'(by lia)=v at hvj;subst exx;have hqm:q∈qs:=aFf hqj;obtain⟨items,hSq,hit⟩:=hq j q v hqj hvj;obtain⟨l1,l2,l3⟩:=D.src q hqm;have hSq' :q.Sq h' items:=hSq.to λo e=>DR.keep _ o l1 l2 l3 e;have hAt:q.At h' i:=DR.todo q (by rw[List.drop_eq_getElem_cons hjl,hqq];exact aF8);refine aF3 (wpAny_onRaise ?_);show wpAny _ _ (Builtin.SmallTypes.nextOf (.ref q.it) >>=_) _ _ _;refine aF3 (Src.item (s:={s with heap:=h'}) hAt hSq' hit λh2 at2 sb2=>aF5 ?_);obtain⟨xs,n,hxl,hxt,hO⟩:=DR.own;have hqz:=D.EM q hqm;have hO2:h2.get? TO=some {cls:= .type "tuple",data:= .seq xs.toArray n}:=sb2.extBut _ _ (aG6 hqz.2.2) hO;refine aF3 (m:=seqItems? (.ref TO)) (aG2 hO2 rfl ?_);refine aF3 (aGg hO2 rfl ?_);refine aF3 (wpAny_letGo (aF5 ?_))
  have apart:∀(k:Nat) p,qs[k]? =some p->k≠j->p.it≠q.it:=λk p hk hne e=>by
   have h1:(qs.map (·.it))[k]? =some q.it:=by rw[List.getElem?_map,hk];simp[e]
   have h2:(qs.map (·.it))[j]? =some q.it:=by rw[List.getElem?_map,hqj];rfl
   obtain⟨a1,b1⟩:=aF6.mp h1;obtain⟨a2,b2⟩:=aF6.mp h2;refine hne ?_;have pw:=aH2.mp D.nd;rcases Nat.lt_trichotomy k j with hlt | heq | hlt
   ·exact absurd (b1.trans b2.symm) (pw k j a1 a2 hlt)
   ·exact heq
   ·exact absurd (b2.trans b1.symm) (pw j k a2 a1 hlt)
  have up:∀c o,c≠TO->c≠q.it->h'.get? c=some o->(h2.update TO (Obj.mapSeq λx=>x.setIfInBounds j v)).get? c=some o:=λc o c1 c2 e=>(aGa ..).extBut _ _ c1 (sb2.extBut _ _ c2 e);refine⟨rfl,j+1,_,rfl,er,hjl,⟨up _ _ (aG6 D.ne2) (aG6 hqz.1) DR.obj,⟨xs.set j v,n,by simpa using hxl,?_,?_⟩,λp hp=>?_,λp hp=>?_,?_,λc o c1 c2 c3 e=>up c o c2 (c3 q hqm) (DR.keep c o c1 c2 c3 e)⟩⟩
  ·have hvj' :vals[j]? =some v:=hvj;have hjx:j<xs.length:=by lia
   rw[List.take_add_one,List.take_add_one,hvj',List.getElem?_set_self hjx,List.take_set_of_le (Nat.le_refl j),hxt]
  ·rw[Heap.get?_update_self _ hO2 (by rfl)];simp[Obj.mapSeq]
  ·rw[List.take_add_one,hqj]at hp;rcases aFb.mp hp with z | z
   ·obtain⟨k,hk⟩:=aGv z
    have hkj:k<j:=by
     have:=(aF6.mp hk).1;rw[List.length_take]at this;lia
    rw[List.getElem?_take_of_lt hkj]at hk;exact(DR.done p z).to λo e=>up _ o (D.EM p (aFf hk)).2.2 (apart k p hk (by lia)) e
   ·have:p=q:=by simpa using z
    subst this;exact at2.to λo e=>(aGa ..).extBut _ _ hqz.2.2 e
  ·obtain⟨k,hk⟩:=aGv hp;rw[List.getElem?_drop]at hk;have hp' :p∈qs.drop j:=by rw[List.drop_eq_getElem_cons hjl];exact aF7 _ hp
   exact(DR.todo p hp').to λo e=>up _ o (D.EM p (aFf hk)).2.2 (apart _ p hk (by lia)) e
  ·rw[Heap.size_update,sb2.1];exact DR.size
 case fin=>
  rintro⟨b1,b2⟩ s5 ⟨hb,j,h',rfl,hd,hj,DR⟩
  have hje:j=qs.length:=by
   have:=aG8 List.length hd;simp at this
   lia
  subst hje;have hb' :b1=none:=hb;subst hb';obtain⟨xs,n,hxl,hxt,hO⟩:=DR.own
  have hxv:xs=vals:=by
   rw[List.take_of_length_le (by lia),List.take_of_length_le (by lia)]at hxt;exact hxt
  subst hxv;refine aF3 (m:=seqItems? (.ref TO)) (aG2 hO rfl ?_);refine aF3 (aHl ?_ (by simpa using aFu (Nat.le_of_eq hxl) hsz));refine aF3 (m:=Builtin.SmallTypes.ownedTupleHandOut (.ref z) (.ref h'.objs.size)) ?_;have z5:(h'.push {cls:= .type "tuple",data:= .seq xs.toArray}).get? z=some {cls:= .type "zip",dict:=none,data:= .fields #[.ellipsis,.bool false,.bool false,.ref TI,.ref TO],slots:= #[]}:=aF4 _ DR.obj;refine aF3 (aFy z5 (by simp) λh7 z7 sb7=>?_);refine aFy z7 (by simp) λh8 z8 sb8=>aF5 ⟨_,rfl,?_⟩;have zlt:z<h'.objs.size:=aFc DR.obj;have up:∀c o,c≠z->(h'.push {cls:= .type "tuple",data:= .seq xs.toArray}).get? c=some o->h8.get? c=some o:=λc o c1 e=>sb8.extBut _ _ c1 (sb7.extBut _ _ c1 e);have upp:∀c o,c≠z->h'.get? c=some o->h8.get? c=some o:=λc o c1 e=>up c o c1 (aF4 _ e);show Q (.ref h'.objs.size) _;have hs:=DR.size;rw[hs];refine hQ h8 ⟨?_,⟨nI,?_⟩,⟨xs,n,hxl,upp _ _ D.ne2 hO⟩,λq hq=>?_⟩ ?_ ?_ λc o c1 c2 c3 e=>upp c o c1 (DR.keep c o c1 c2 c3 e)
  ·rw[z8,hs];rfl
  ·exact upp _ _ D.ne1 (DR.keep _ _ D.ne1 D.ne3 (λq hq=>aG6 (D.EM q hq).2.1) hTI)
  ·exact(DR.done q (by rw[List.take_length];exact hq)).to λo e=>upp _ o (D.EM q hq).1 e
  ·rw[<-hs];exact up _ _ (aHo zlt) (aFa _ rfl)
  ·rw[sb8.1,sb7.1,Heap.size_push,hs]
end
section
variable {prog:Program}{w:World}{A:Around}{E:aHx}{s:Shared}
theorem OG{z TI TO:Addr}{qs:List Src}{i k:Nat}{Q:PySem.Fin->Shared->Prop}(hh:A.handled=none)(D:dA z TI TO qs)(Z:fI s.heap z TI TO qs .none i)
  (hq:∀(j:Nat) q,qs[j]? =some q->j<k->∃items x,q.Sq s.heap items/\items[i]? =some x) (hk:∃q items,qs[k]? =some q/\q.Sq s.heap items/\items[i]? =none) (hsz:qs.length<=sizeLine)
  (hE:∀h' e,(∀c o,c≠z->c≠TO->(∀q∈qs,c≠q.it)->s.heap.get? c=some o->h'.get? c=some o)->(∃o,h'.get? e=some o/\o.cls= .type "StopIteration")->E (.ref e) {s with heap:=h'}):
  wpAny (model prog w) A (Builtin.«zip.__next__» ⟨[.ref z],[]⟩) Q E s:=by
 obtain⟨nI,hTI⟩:=Z.aG;obtain⟨xs0,n0,hx0,hTO⟩:=Z.own;obtain⟨qk,itemsk,hqk,hSk,hik⟩:=hk;have hkl:k<qs.length:=(aF6.mp hqk).1;refine aF3 (m:=field (.ref z) 2) (aG4 Z.obj rfl (x:= .bool false) rfl ?_);refine aF3 (m:=field (.ref z) 3) (aG4 Z.obj rfl (x:= .ref TI) rfl ?_);refine aF3 (m:=seqItems? (.ref TI)) (aG2 hTI rfl ?_)
 have hemp:(qs.map λq=>Value.ref q.it).toArray.isEmpty=false:=by cases qs with | nil=>simp at hkl | cons a r=>rfl
 simp only[hemp];refine aF3 (m:=Builtin.SmallTypes.ownedTupleIsFree (.ref z)) ?_;refine aF3 (m:=field (.ref z) 0) (aG4 Z.obj rfl (x:= .none) rfl (aF5 ?_));simp only[if_true];refine aF3 (aGc ?_);refine aF3 (aG4 Z.obj rfl (x:= .ref TO) rfl ?_);refine aF3 (aFy Z.obj (by simp) λh1 z1 sb1=>?_);refine aF3 ?_;refine wpAny_forIn_list _ (λrest b s' =>∃j h' vals,s' ={s with heap:=h'}/\rest=((qs.map λq=>Value.ref q.it).zipIdx).drop j/\j<=k/\HG s.heap h' z TI TO qs vals i j) _ ?turn ?fin _ _ ?start
 case start=>
  refine⟨0,h1,xs0,rfl,by simp,aGk _,?_⟩;refine⟨z1,⟨xs0,n0,hx0,by simp,sb1.extBut _ _ D.ne2 hTO⟩,by simp,λq hq=>?_,sb1.1,λc o c1 _ _ e=>sb1.extBut _ _ c1 e⟩;have hq' :q∈qs:=by simpa using hq
  exact(Z.at_ q hq').to λo e=>sb1.extBut _ _ (D.EM q hq').1 e
 case fin=>
  rintro b s5 ⟨j,h',vals,rfl,hd,hj,DR⟩;have:=aG8 List.length hd;simp at this
  lia
 case turn=>
  rintro x rest b s5 ⟨j,h',vals,rfl,hd,hj,DR⟩;have hjl:j<qs.length:=by lia
  have hd' :=hd;rw[List.drop_eq_getElem_cons (by simpa using hjl)]at hd';injection hd' with ex er;have exx:x=(Value.ref qs[j].it,j):=by rw[ex];simp
  have hqj:qs[j]? =some qs[j]:=aFg hjl;generalize hqq:qs[j]=q at hqj exx;subst exx;have hqm:q∈qs:=aFf hqj;have hqz:=D.EM q hqm;obtain⟨l1,l2,l3⟩:=D.src q hqm;have hAt:q.At h' i:=DR.todo q (by rw[List.drop_eq_getElem_cons hjl,hqq];exact aF8);refine aF3 (wpAny_onRaise ?_);show wpAny _ _ (Builtin.SmallTypes.nextOf (.ref q.it) >>=_) _ _ _;by_cases hjk:j=k
  ·subst hjk;obtain rfl:qk=q:=(aFl (hqj.symm.trans hqk)).symm;have hSq' :=hSk.to (h' :=h') λo e=>DR.keep _ o l1 l2 l3 e;refine aF3 (Src.done (s:={s with heap:=h'}) hh hAt hSq' hik λh2 e sb2 he=>?_);obtain⟨oe,hoe,hce⟩:=he;have z2:h2.get? z=some {cls:= .type "zip",dict:=none,data:= .fields #[.ellipsis,.bool false,.bool false,.ref TI,.ref TO],slots:= #[]}:=sb2 _ _ (aG6 hqz.1) DR.obj;have hez:e≠z:=λx=>by subst x;rw[z2]at hoe;cases hoe;simp at hce
   refine aFy z2 (by simp) λh3 _ sb3=>hE h3 e (λc o c1 c2 c3 q' =>sb3.extBut _ _ c1 (sb2 _ _ (c3 _ hqm) (DR.keep c o c1 c2 c3 q'))) ⟨oe,sb3.extBut _ _ hez hoe,hce⟩
  ·obtain⟨items,v,hSq,hit⟩:=hq j q hqj (by lia);have hSq' :q.Sq h' items:=hSq.to λo e=>DR.keep _ o l1 l2 l3 e;refine aF3 (Src.item (s:={s with heap:=h'}) hAt hSq' hit λh2 at2 sb2=>aF5 ?_);obtain⟨xs,n,hxl,hxt,hO⟩:=DR.own;have hO2:h2.get? TO=some {cls:= .type "tuple",data:= .seq xs.toArray n}:=sb2.extBut _ _ (aG6 hqz.2.2) hO;refine aF3 (m:=seqItems? (.ref TO)) (aG2 hO2 rfl ?_);refine aF3 (aGg hO2 rfl ?_);refine aF3 (wpAny_letGo (aF5 ?_))
   have apart:∀(k:Nat) p,qs[k]? =some p->k≠j->p.it≠q.it:=λk p hk hne e=>by
    have h1:(qs.map (·.it))[k]? =some q.it:=by rw[List.getElem?_map,hk];simp[e]
    have h2:(qs.map (·.it))[j]? =some q.it:=by rw[List.getElem?_map,hqj];rfl
    obtain⟨a1,b1⟩:=aF6.mp h1;obtain⟨a2,b2⟩:=aF6.mp h2;refine hne ?_;have pw:=aH2.mp D.nd;rcases Nat.lt_trichotomy k j with hlt | heq | hlt
    ·exact absurd (b1.trans b2.symm) (pw k j a1 a2 hlt)
    ·exact heq
    ·exact absurd (b2.trans b1.symm) (pw j k a2 a1 hlt)
   have up:∀c o,c≠TO->c≠q.it->h'.get? c=some o->(h2.update TO (Obj.mapSeq λx=>x.setIfInBounds j v)).get? c=some o:=λc o c1 c2 e=>(aGa ..).extBut _ _ c1 (sb2.extBut _ _ c2 e);refine⟨j+1,_,xs.set j v,rfl,er,by lia,⟨up _ _ (aG6 D.ne2) (aG6 hqz.1) DR.obj,⟨xs.set j v,n,by simpa using hxl,rfl,?_⟩,λp hp=>?_,λp hp=>?_,?_,λc o c1 c2 c3 e=>up c o c2 (c3 q hqm) (DR.keep c o c1 c2 c3 e)⟩⟩
   ·rw[Heap.get?_update_self _ hO2 (by rfl)];simp[Obj.mapSeq]
   ·rw[List.take_add_one,hqj]at hp;rcases aFb.mp hp with z | z
    ·obtain⟨k,hk⟩:=aGv z
     have hkj:k<j:=by
      have:=(aF6.mp hk).1;rw[List.length_take]at this;lia
     rw[List.getElem?_take_of_lt hkj]at hk;exact(DR.done p z).to λo e=>up _ o (D.EM p (aFf hk)).2.2 (apart k p hk (by lia)) e
    ·have:p=q:=by simpa using z
     subst this;exact at2.to λo e=>(aGa ..).extBut _ _ hqz.2.2 e
   ·obtain⟨k,hk⟩:=aGv hp;rw[List.getElem?_drop]at hk;have hp' :p∈qs.drop j:=by rw[List.drop_eq_getElem_cons hjl];exact aF7 _ hp
    exact(DR.todo p hp').to λo e=>up _ o (D.EM p (aFf hk)).2.2 (apart _ p hk (by lia)) e
   ·rw[Heap.size_update,sb2.1];exact DR.size
theorem mW{z TI TO:Addr}{qs:List Src}{i:Nat}{vals:List Value}{Q:Option Value->Shared->Prop}(D:dA z TI TO qs)(Z:fI s.heap z TI TO qs .none i)(hne:qs≠[])
  (hv:vals.length=qs.length) (hq:∀(k:Nat) q x,qs[k]? =some q->vals[k]? =some x->∃items,q.Sq s.heap items/\items[i]? =some x) (hsz:qs.length<=sizeLine)
  (hQ:∀h',fI h' z TI TO qs (rawInt s.heap.objs.size) (i+1)->h'.get? s.heap.objs.size=some {cls:= .type "tuple",data:= .seq vals.toArray}->h'.objs.size=s.heap.objs.size+1->
   (∀c o,c≠z->c≠TO->(∀q∈qs,c≠q.it)->s.heap.get? c=some o->h'.get? c=some o)->Q (some (.ref s.heap.objs.size)) {s with heap:=h'}):
  wpAny (model prog w) A (pyNext (.ref z)) Q E s:=by
 have hT:s.TypeIs (.ref z) "zip":=⟨_,Z.obj,rfl⟩
 unfold pyNext
 exact aF3 (aGn (aFp (name:=Str.ofString "__next__") hT aGh (aFm aGh hT F.entry_zip_next
  (J1 D Z hne hv hq hsz λh' a1 a2 a3 a4=>aF5 (hQ h' a1 a2 a3 a4)) (F.args_zip_next_1 _))))
theorem oX{z TI TO:Addr}{qs:List Src}{i k:Nat}{Q:Option Value->Shared->Prop}(hh:A.handled=none)(D:dA z TI TO qs)(Z:fI s.heap z TI TO qs .none i)
  (hq:∀(j:Nat) q,qs[j]? =some q->j<k->∃items x,q.Sq s.heap items/\items[i]? =some x) (hk:∃q items,qs[k]? =some q/\q.Sq s.heap items/\items[i]? =none) (hsz:qs.length<=sizeLine)
  (hQ:∀h',(∀c o,c≠z->c≠TO->(∀q∈qs,c≠q.it)->s.heap.get? c=some o->h'.get? c=some o)->Q none {s with heap:=h'}):wpAny (model prog w) A (pyNext (.ref z)) Q E s:=by
 have hT:s.TypeIs (.ref z) "zip":=⟨_,Z.obj,rfl⟩
 unfold pyNext
 refine aF3 (aGn (aFp (name:=Str.ofString "__next__") hT aGh (aFm aGh hT F.entry_zip_next
  (OG hh D Z hq hk hsz λh' e kp he=>?_) (F.args_zip_next_1 _))))
 obtain⟨o,ho,hc⟩:=he;refine aF3 (aHr (T:= "StopIteration") (b:=true) ⟨o,ho,hc⟩ isSubtype_stop ?_);exact aF5 (hQ _ kp)
theorem XO{elts:List Expr}{x1}{pos:Pos}{z TI TO T:Addr}{qs:List Src}{i:Nat}{Q:Unit->Shared->Prop}(D:dA z TI TO qs)(Z:fI s.heap z TI TO qs (rawInt T) i)
  (hQ:∀h',fI h' z TI TO qs .none i->Heap.SameBut z s.heap h' ->Q () {s with heap:=h'}):wpAny (model prog w) A (letOwnedTupleGo (.Tuple elts x1 pos) (.ref z) (.ref T)) Q E s:=by
 unfold letOwnedTupleGo;refine aF3 (wpAny_load Z.obj ?_);show wpAny _ _ (if (["enumerate","zip","dict_itemiterator","dict_reverseitemiterator","odict_iterator","itertools.zip_longest","itertools.pairwise"].contains "zip" && (#[rawInt T,.bool false,.bool false,.ref TI,.ref TO]:Array Value)[0]? ==some (rawInt T))=true then _ else _) Q E s;rw[if_pos (by simp)];refine aF3 (aGc ?_);show wpAny _ _ (setField (.ref z) 0 .none) Q E s;refine aFy Z.obj (by simp) λh' hz' sb=>hQ h' ⟨hz',?_,?_,λq hq=>(Z.at_ q hq).to λo e=>sb.extBut _ _ (D.EM q hq).1 e⟩ sb
 ·obtain⟨n,e⟩:=Z.aG;exact⟨n,sb.extBut _ _ D.ne1 e⟩
 ·obtain⟨xs,n,l,e⟩:=Z.own;exact⟨xs,n,l,sb.extBut _ _ D.ne2 e⟩
theorem B5{z TI TO:Addr}{qs:List Src}{f0:Value}{i:Nat}{Q:aHx}(Z:fI s.heap z TI TO qs f0 i)(h:Q (.ref z) s):wpAny (model prog w) A (pyIter (.ref z)) Q E s:=by
 have hT:s.TypeIs (.ref z) "zip":=⟨_,Z.obj,rfl⟩
 refine aHj hT F.slot_zip_iter (aFm F.slot_zip_iter hT F.entry_zip_iter ?_ (F.args_zip_iter_1 _));exact aF5 ⟨_,rfl,"zip",_,hT,aGh.lookup,h⟩
end
section
variable {prog:Program}{w:World}{A:Around}{E:aHx}{s:Shared}
def bN:Nat->List Src->List Src
 | _,[]=>[]
 | n,q::r=>⟨n,q.l,q.tup⟩::bN (n+1) r
theorem e7:∀(n:Nat) (qs:List Src),(bN n qs).length=qs.length
 | _,[]=>rfl
 | n,_::r=>by simp[bN,e7 (n+1) r]
theorem dN:∀{n:Nat} {qs:List Src} {p:Src},p∈bN n qs->n<=p.it/\p.it<n+qs.length/\∃q∈qs,p.l=q.l/\p.tup=q.tup
 | n,q::r,p,h=>by
  rcases aFd.mp h with rfl | h
  ·exact⟨aF9 _,by simp,q,aF8,rfl,rfl⟩
  ·obtain⟨h1,h2,q',h3,h4⟩:=dN h;exact⟨Nat.le_of_succ_le h1,Nat.lt_of_lt_of_eq h2 (by simp only[List.length_cons];lia),q',aF7 _ h3,h4⟩
theorem o9:∀(n:Nat) (qs:List Src),((bN n qs).map (·.it)).Nodup
 | _,[]=>by simp[bN]
 | n,q::r=>by
  simp only[bN,List.map_cons,List.nodup_cons];refine⟨λh=>?_,o9 (n+1) r⟩;obtain⟨p,hp,e⟩:=aFi.mp h;have h1:=(dN hp).1;have e' :p.it=n:=e;exact absurd h1 (by rw[e'];exact Nat.not_succ_le_self n)
theorem rF{Q:Array Value->Shared->Prop}:∀(qs:List Src) (acc:Array Value) (s:Shared),(∀q∈qs,∃items,q.Sq s.heap items)->
  (∀h',h'.objs.size=s.heap.objs.size+qs.length->(∀b o,s.heap.get? b=some o->h'.get? b=some o)->(∀p∈bN s.heap.objs.size qs,p.At h' 0)->Q (acc++((bN s.heap.objs.size qs).map λp=>Value.ref p.it).toArray) {s with heap:=h'})->
  wpAny (model prog w) A (forIn (qs.map λq=>Value.ref q.l) acc λx aG=>do let r<-holding aG.toList (pyIter x);pure (ForInStep.yield (aG.push r))) Q E s
 | [],acc,s,_,hQ=>by
  have:=hQ s.heap (by simp) (λ_ _ e=>e) (by simp[bN]);simp only[List.map_nil,List.forIn_nil];refine aF5 ?_;simpa[bN] using this
 | q::r,acc,s,hs,hQ=>by
  obtain⟨items,hq⟩:=hs q aF8;simp only[List.map_cons,List.forIn_cons];refine aF3 (aF3 (aFx (Src.start hq λh' at' sz kp=>aF5 ?_)));refine rF r (acc.push (.ref s.heap.objs.size)) {s with heap:=h'} (λq' hq' =>?_) λh2 sz2 kp2 at2=>?_
  ·obtain⟨it',h1⟩:=hs q' (aF7 _ hq');exact⟨it',h1.to λo e=>kp _ o e⟩
  ·have e1:h2.objs.size=s.heap.objs.size+(q::r).length:=by
    have:h2.objs.size=h'.objs.size+r.length:=sz2;rw[this,sz,List.length_cons];lia
   have sz' :h'.objs.size=s.heap.objs.size+1:=sz;have at2' :∀p∈bN (s.heap.objs.size+1) r,p.At h2 0:=by rw[<-sz'];exact at2
   have:=hQ h2 e1 (λb o e=>kp2 b o (kp b o e)) (λp hp=>by
    rcases aFd.mp hp with rfl | hp
    ·exact at'.to λo e=>kp2 _ o e
    ·exact at2' p hp)
   have ee:(acc.push (.ref s.heap.objs.size)++((bN h'.objs.size r).map λp=>Value.ref p.it).toArray)=(acc++((bN s.heap.objs.size (q::r)).map λp=>Value.ref p.it).toArray):=by
    rw[sz'];simp[bN]
   show Q (acc.push (.ref s.heap.objs.size)++((bN h'.objs.size r).map λp=>Value.ref p.it).toArray) _;rw[ee];exact this
theorem RG:(5:Nat)<=sizeLine+2:=Nat.add_le_add_right (by decide:3<=sizeLine) 2
theorem D9(qs:List Src)(hsz:qs.length<=sizeLine):Meets (Builtin.«zip.__new__» ⟨.type "zip"::(qs.map λq=>Value.ref q.l),[]⟩) (λ_ R s=>(∀q∈qs,∃items,q.Sq s.heap items)/\
   ∀h' z TI TO,s.heap.objs.size+qs.length<=TI->TI≠TO->TI≠z->TO≠z->s.heap.objs.size+qs.length<=TO->s.heap.objs.size+qs.length<=z->fI h' z TI TO (bN s.heap.objs.size qs) .none 0->(∀b o,s.heap.get? b=some o->h'.get? b=some o)->R (.ok (.ret (.ref z))) {s with heap:=h'}):=
 .of_wp λprog w A R s h=>by
  obtain⟨hs,hR⟩:=h;unfold Builtin.«zip.__new__»;have hsub:=sub_zip;refine aF3 (m:=Builtin.SmallTypes.newClass "zip" _) ?_;unfold Builtin.SmallTypes.newClass
  wp_walk
  refine rF qs #[] s hs λh' sz kp at' =>?_;have el:(bN s.heap.objs.size qs).length=qs.length:=e7 _ _;have ea:((#[]:Array Value)++((bN s.heap.objs.size qs).map λp=>Value.ref p.it).toArray).toList=(bN s.heap.objs.size qs).map λp=>Value.ref p.it:=by simp
  refine aF5 ?_;simp only[ea];refine aF3 (aHl ?_ (by simp[el];exact hsz));refine aF3 (aHl ?_ (by simp[el];exact hsz));unfold Builtin.SmallTypes.newRecord;dsimp only;refine aF3 (aFt ?_ RG);refine aF5 ⟨_,rfl,?_⟩;generalize hls:bN s.heap.objs.size qs=ls at el at' hR⊢;have z1:(h'.push {cls:= .type "tuple",data:= .seq ((ls.map λp=>Value.ref p.it).toArray)}).objs.size=h'.objs.size+1:=Heap.size_push ..;have g1:(h'.push {cls:= .type "tuple",data:= .seq ((ls.map λp=>Value.ref p.it).toArray)}).get? h'.objs.size=some _:=aFa _ rfl;have k1:∀b o,h'.get? b=some o->(h'.push {cls:= .type "tuple",data:= .seq ((ls.map λp=>Value.ref p.it).toArray)}).get? b=some o:=λb o e=>aF4 _ e;generalize hh1:h'.push {cls:= .type "tuple",data:= .seq ((ls.map λp=>Value.ref p.it).toArray)}=h1 at z1 g1 k1⊢;have z2:(h1.push {cls:= .type "tuple",data:= .seq ((List.map (λx=>Value.none) (ls.map λp=>Value.ref p.it)).toArray)}).objs.size=h1.objs.size+1:=Heap.size_push ..;have g2:(h1.push {cls:= .type "tuple",data:= .seq ((List.map (λx=>Value.none) (ls.map λp=>Value.ref p.it)).toArray)}).get? h1.objs.size=some _:=aFa _ rfl;have k2:∀b o,h1.get? b=some o->(h1.push {cls:= .type "tuple",data:= .seq ((List.map (λx=>Value.none) (ls.map λp=>Value.ref p.it)).toArray)}).get? b=some o:=λb o e=>aF4 _ e;generalize hh2:h1.push {cls:= .type "tuple",data:= .seq ((List.map (λx=>Value.none) (ls.map λp=>Value.ref p.it)).toArray)}=h2 at z2 g2 k2⊢;refine hR _ h2.objs.size h'.objs.size h1.objs.size (by lia) (by lia) (by lia) (by lia) (by lia) (by lia) ⟨?_,⟨0,?_⟩,⟨List.map (λx=>Value.none) (ls.map λp=>Value.ref p.it),0,by simp[hls],?_⟩,λq hq=>?_⟩ λb o e=>aF4 _ (k2 _ _ (k1 _ _ (kp b o e)))
  ·exact aFa _ rfl
  ·exact aF4 _ (k2 _ _ g1)
  ·exact aF4 _ g2
  ·exact(at' q hq).to λo e=>aF4 _ (k2 _ _ (k1 _ _ e))
theorem xK{qs:List Src}{Q:aHx}(hsz:qs.length<=sizeLine)(hT:checkTypeCall "zip" ⟨qs.map λq=>Value.ref q.l,[]⟩=pure ())(hN:checkBuiltinCall "zip.__new__" ⟨.type "zip"::qs.map λq=>Value.ref q.l,[]⟩=pure ())
  (hI:∀obj,argsOk "object.__init__" ⟨obj::qs.map λq=>Value.ref q.l,[]⟩) (hs:∀q∈qs,∃items,q.Sq s.heap items)
  (h:∀h' z TI TO,s.heap.objs.size<=TI->s.heap.objs.size<=TO->s.heap.objs.size<=z->dA z TI TO (bN s.heap.objs.size qs)->fI h' z TI TO (bN s.heap.objs.size qs) .none 0->(∀b o,s.heap.get? b=some o->h'.get? b=some o)->Q (.ref z) {s with heap:=h'}):
  wpAny (model prog w) A (call (.type "zip") (qs.map λq=>Value.ref q.l)) Q E s:=by
 refine callType_new F.called_zip (by decide) hT hN hI F.entry_zip_new (D9 qs hsz) ⟨hs,λh' z TI TO t1 t2 t3 t4 t5 t6 Z kp=>?_⟩;refine⟨⟨_,Z.obj,rfl⟩,h h' z TI TO (by lia) (by lia) (by lia) ⟨t3,t4,t2,λq hq=>?_,o9 _ _,λq hq=>?_⟩ Z kp⟩
 ·obtain⟨h1,h2,_⟩:=dN hq;exact⟨aFj (aFo h2 t6),aFj (aFo h2 t1),aFj (aFo h2 t5)⟩
 ·obtain⟨h1,h2,q',hq',e1,_⟩:=dN hq;obtain⟨items,hs'⟩:=hs q' hq';obtain⟨o,n,ho,_⟩:=hs'.obj;have hlt:q.l<s.heap.objs.size:=by rw[e1];exact aFc ho
  exact⟨aFj (aFo hlt (aFu (Nat.le_add_right _ _) t6)),aFj (aFo hlt (aFu (Nat.le_add_right _ _) t5)),λr hr=>aFj (aFo hlt (dN hr).1)⟩
end
def HC(K:aHw)(H:Hp)(t:Bool)(a:Addr)(xs:List V):Prop:=match t with | true=>nQ K H a xs | false=>nS K H a xs
def Itz(K:aHw)(src:List (Addr×Bool)):It where
 go:=λi H=>∃vs:List V,vs.length=src.length/\∀(k:Nat) a t v,src[k]? =some (a,t)->vs[k]? =some v->∃xs,HC K H t a xs/\xs[i]? =some v
 YJ:=λi H x H' =>∃p vs,H p=none/\x= .ref p/\H' =upd H p (.tup vs)/\vs.length=src.length/\∀(k:Nat) a t v,src[k]? =some (a,t)->vs[k]? =some v->∀xs,HC K H t a xs->xs[i]? =some v
 stop:=λi H=>∃(k:Nat) (a:Addr) (t:Bool) (xs:List V),src[k]? =some (a,t)/\HC K H t a xs/\xs.length<=i/\∀(j:Nat) b u,j<k->src[j]? =some (b,u)->∃ys,HC K H u b ys/\i<ys.length
section
variable {X:Cx}{pins:List (Addr×Obj)}{σ:St}{H:Hp}{s:Shared}
theorem Inv.YM{t:Bool}{a:Addr}{xs:List V}(I:Inv X pins σ H s)(h:HC X.K H t a xs):∃aG:List Value,Vals xs aG/\∀it,(⟨it,a,t⟩:Src).Sq s.heap aG.toArray:=by
 cases t with
 | true=>obtain⟨aG,r,p,_⟩:=I.tuple h;exact⟨aG,r,λ_=>p⟩
 | false=>obtain⟨aG,r,p,_⟩:=I.list h;exact⟨aG,r,λ_=>p.isList⟩
theorem Inv.OZ{t:Bool}{a:Addr}{xs ys:List V}(I:Inv X pins σ H s)(h:HC X.K H t a xs)(h' :HC X.K H t a ys):xs=ys:=by
 cases t with
 | true=>exact I.wD h h'
 | false=>exact I.BR h h'
theorem Inv.aBi{fp:List Addr}{h' :Heap}{t' :Nat}{p:Addr}{o:HO}(I:Inv X pins σ H s)(hf:∀b∈fp,nR X pins H b)(k:∀b o,b∉fp->s.heap.get? b=some o->h'.get? b=some o)
  (hp:s.heap.objs.size<=p) (new:bX X.prog X.w (upd H p o) h' p o):Inv X pins σ (upd H p o) {s with heap:=h',toks:=t'}:=by
 have hn:H p=none:=I.bG.fresh hp;have ntr:∀b u,H b=some u->b∉fp:=λb u e z=>by rw[(hf b z).1]at e;cases e
 refine I.step (g' :=s.gens) (d' :=s.drawn) (ch:=fp) (λb hb=>⟨(hf b hb).2.2.2.1,(hf b hb).2.1,(hf b hb).2.2.2.2.1,(hf b hb).2.2.2.2.2⟩) (λb o _ _ hc e _=>k b o hc e) (λb o _ _ hc e _=>⟨o.slots,k b o hc e⟩)
  (λb o _ e n=>by rw[aM (Nat.ne_of_lt (Nat.lt_of_lt_of_le (Heap.lt_size e) hp))];exact n) (λb o hc e=>⟨o,k b o hc e⟩) (λb xs e=>by rw[aM (bM e hn)];exact e) (λb o u e=>by rw[aM (bM e hn)];exact e)
  (λb ps e=>⟨#[],by rw[aM (bM e hn),e];simp⟩) (λm hm=>?_) (λb u e=>?_) I.bare
 ·obtain⟨o,es,ep,ho,r⟩:=hm;exact⟨o,es,ep,k _ o (λz=>(hf _ z).2.1 rfl) ho,r⟩
 ·by_cases hb:b=p
  ·subst hb;rw[bK]at e;cases e;exact new
  ·rw[aM hb]at e;refine(I.bG b u e).n9 (λc v hc q=>k c v ?_ q) (λc q=>by rw[aM (bM q hn)];exact q) λc xs q=>by rw[aM (bM q hn)];exact q
   rcases hc with rfl | hc
   ·exact ntr _ u e
   ·exact ntr _ _ hc
theorem Inv.XR{fp:List Addr}{h' :Heap}{t' :Nat}(I:Inv X pins σ H s)(hf:∀b∈fp,nR X pins H b)(k:∀b o,b∉fp->s.heap.get? b=some o->h'.get? b=some o):Inv X pins σ H {s with heap:=h',toks:=t'}:=by
 have ntr:∀b u,H b=some u->b∉fp:=λb u e z=>by rw[(hf b z).1]at e;cases e
 refine I.step (g' :=s.gens) (d' :=s.drawn) (ch:=fp) (λb hb=>⟨(hf b hb).2.2.2.1,(hf b hb).2.1,(hf b hb).2.2.2.2.1,(hf b hb).2.2.2.2.2⟩) (λb o _ _ hc e _=>k b o hc e) (λb o _ _ hc e _=>⟨o.slots,k b o hc e⟩)
  (λb o _ e n=>n) (λb o hc e=>⟨o,k b o hc e⟩) (λb xs e=>e) (λb o u e=>e) (λb ps e=>⟨#[],by rw[e];simp⟩) (λm hm=>?_) (λb u e=>?_) I.bare
 ·obtain⟨o,es,ep,ho,r⟩:=hm;exact⟨o,es,ep,k _ o (λz=>(hf _ z).2.1 rfl) ho,r⟩
 ·refine(I.bG b u e).n9 (λc v hc q=>k c v ?_ q) (λ_ q=>q) λ_ _ q=>q;rcases hc with rfl | hc
  ·exact ntr _ u e
  ·exact ntr _ _ hc
end
theorem LD{P:Nat->Value->Prop}:∀{vs:List V},(∀(k:Nat) v,vs[k]? =some v->∃u,RelV v u/\P k u)->∃us,Vals vs us/\∀(k:Nat) u,us[k]? =some u->P k u
 | [],_=>⟨[],.nil,λk u e=>by simp at e⟩
 | v::r,h=>by
  obtain⟨u,ru,pu⟩:=h 0 v rfl;obtain⟨us,rs,ps⟩:=LD (P:=λk u=>P (k+1) u) (vs:=r) λk v e=>h (k+1) v (by simpa using e);refine⟨u::us,.cons ru rs,λk w e=>?_⟩
  cases k with
  | zero=>simp at e;subst e;exact pu
  | succ k=>exact ps k w (by simpa using e)
theorem KI{P:Program}{w:World}{K:aHw}{elts:List Expr}{x1}{pos:Pos}{z TI TO:Addr}{qs:List Src}(D:dA z TI TO qs)(hne:qs≠[])(hsz:qs.length<=sizeLine):
  Turn P w K (.Tuple elts x1 pos) (Itz K (qs.map λq=>(q.l,q.tup))) (z::TI::TO::qs.map (·.it)) z (λi h=>fI h z TI TO qs .none i) where
 mem:=aF8
 obj:=λi h Z b hb=>by
  rcases aFd.mp hb with rfl | hb
  ·exact⟨_,Z.obj,λv e=>by cases e⟩
  rcases aFd.mp hb with rfl | hb
  ·obtain⟨n,e⟩:=Z.aG;exact⟨_,e,λv e=>by cases e⟩
  rcases aFd.mp hb with rfl | hb
  ·obtain⟨xs,n,_,e⟩:=Z.own;exact⟨_,e,λv e=>by cases e⟩
  obtain⟨q,hq,rfl⟩:=aFi.mp hb;obtain⟨o,ho,hd⟩:=(Z.at_ q hq).obj;exact⟨o,ho,λv e=>by rw[hd]at e;cases e⟩
 keep:=λi h h' Z k=>by
  refine⟨k z (by simp) _ Z.obj,?_,?_,λq hq=>(Z.at_ q hq).to λo e=>k q.it (by simp;exact .inr (.inr (.inr ⟨q,hq,rfl⟩))) o e⟩
  ·obtain⟨n,e⟩:=Z.aG;exact⟨n,k TI (by simp) _ e⟩
  ·obtain⟨xs,n,l,e⟩:=Z.own;exact⟨xs,n,l,k TO (by simp) _ e⟩
 item:=by
  intro X hP hw hK hc i pins s σ H E I hf Z hg;subst hP hw hK;obtain⟨vs,hl,hv⟩:=hg;have hlq:vs.length=qs.length:=by simpa using hl
  obtain⟨us,ru,pu⟩:=LD (P:=λk u=>∀q,qs[k]? =some q->∃items,q.Sq s.heap items/\items[i]? =some u) (vs:=vs) λk v e=>by
   have hk:k<qs.length:=by have:=(aF6.mp e).1;lia
   have hqk:qs[k]? =some qs[k]:=aFg hk;obtain⟨xs,hx,hi⟩:=hv k qs[k].l qs[k].tup v (by rw[List.getElem?_map,hqk];rfl) e;obtain⟨aG,rv,hs⟩:=I.YM hx;obtain⟨u,hu,r⟩:=rv.get hi;refine⟨u,r,λq hq=>?_⟩;rw[hqk]at hq;cases hq;exact⟨aG.toArray,hs qs[k].it,by simpa using hu⟩
  have hul:us.length=qs.length:=by rw[<-ru.length,hlq]
  refine mW D Z hne hul (λk q x hq hx=>pu k x hx q hq) hsz λh1 Z1 t1 z1 k1=>?_;refine⟨_,rfl,XO (s:={s with heap:=h1}) D Z1 λh2 Z2 sb2=>?_⟩;have hplt:s.heap.objs.size≠z:=aHo (aFc Z.obj)
  have kk:∀b o,b∉(z::TI::TO::qs.map (·.it))->s.heap.get? b=some o->h2.get? b=some o:=λb o hb e=>by
   have b1:b≠z:=λz=>hb (by simp[z]);have b2:b≠TO:=λz=>hb (by simp[z]);exact sb2.extBut _ _ b1 (k1 b o b1 b2 (λq hq z=>hb (by simp;exact .inr (.inr (.inr ⟨q,hq,z.symm⟩)))) e)
  refine⟨.ref s.heap.objs.size,upd H s.heap.objs.size (.tup vs),I.aBi (t' :=s.toks) hf kk (aF9 _) ⟨by lia,us,ru,⟨_,sb2.extBut _ _ hplt t1,rfl,0,rfl⟩,λo e=>by rw[sb2.extBut _ _ hplt t1]at e;cases e;rfl⟩,rfl,?_,Z2,λb hb=>?_⟩
  ·refine⟨s.heap.objs.size,vs,I.bG.fresh (aF9 _),rfl,rfl,hl,λk a t v hs hvk xs hx=>?_⟩;obtain⟨ys,hy,hi⟩:=hv k a t v hs hvk;rw[I.OZ hx hy];exact hi
  ·have hb0:=(hf b hb).1
   have:b≠s.heap.objs.size:=by
    rintro rfl
    have ho:∃o,s.heap.get? s.heap.objs.size=some o:=by
     rcases aFd.mp hb with e | hb
     ·rw[e];exact⟨_,Z.obj⟩
     rcases aFd.mp hb with e | hb
     ·rw[e];obtain⟨n,e⟩:=Z.aG;exact⟨_,e⟩
     rcases aFd.mp hb with e | hb
     ·rw[e];obtain⟨xs,n,_,e⟩:=Z.own;exact⟨_,e⟩
     obtain⟨q,hq,e⟩:=aFi.mp hb;have e' :q.it=s.heap.objs.size:=e;rw[<-e'];obtain⟨o,ho,_⟩:=(Z.at_ q hq).obj;exact⟨o,ho⟩
    obtain⟨o,ho⟩:=ho;exact absurd (aFc ho) (aGm _)
   rw[aM this];exact hb0
 done:=by
  intro X hP hw hK hc i pins s σ H E I hf Z hg;subst hP hw hK;obtain⟨k,a,t,xs,hk,hx,hle,hlt⟩:=hg;rw[List.getElem?_map]at hk
  cases hqk:qs[k]? with
  | none=>rw[hqk]at hk;cases hk
  | some q=>
   rw[hqk]at hk;have hk' :(q.l,q.tup)=(a,t):=aFl hk;injection hk' with e1 e2;subst e1 e2
   refine oX (k:=k) (I.ok.hd hc) D Z (λj q' hj hjk=>?_) ⟨q,?_⟩ hsz λh' kp=>⟨rfl,I.XR (t' :=s.toks) hf λb o hb e=>kp b o (λz=>hb (by simp[z])) (λz=>hb (by simp[z])) (λq hq z=>hb (by simp;exact .inr (.inr (.inr ⟨q,hq,z.symm⟩)))) e⟩
   ·obtain⟨ys,hy,hl⟩:=hlt j q'.l q'.tup hjk (by rw[List.getElem?_map,hj];rfl);obtain⟨aG,r,hs⟩:=I.YM hy;obtain⟨u,hu,_⟩:=r.get (aFg hl);exact⟨aG.toArray,u,hs q'.it,by simpa using hu⟩
   ·obtain⟨aG,r,hs⟩:=I.YM hx;refine⟨aG.toArray,hqk,hs q.it,?_⟩;have:=r.length;rw[List.getElem?_toArray];exact aGr.mpr (by lia)
 self:=λA i s Q E Z h=>B5 Z h
structure SE(m:Nat):Prop where
 t:∀us:List Value,us.length=m->checkTypeCall "zip" ⟨us,[]⟩=pure ()
 n:∀us:List Value,us.length=m->checkBuiltinCall "zip.__new__" ⟨.type "zip"::us,[]⟩=pure ()
 i:∀(us:List Value) (o:Value),us.length=m->argsOk "object.__init__" ⟨o::us,[]⟩
theorem SM:SE 2:=⟨λus h=>match us,h with | [a,b],_=>F.typeCall_zip_2 a b,λus h=>match us,h with | [a,b],_=>F.newCall_zip_2 a b,λus o h=>match us,h with | [a,b],_=>F.args_object_init_3 o a b⟩
def aEj(K:aHw)(n:Nat)(ta:TA):TI:=λσ H R=>ta σ H λvs H1=>∃src:List (Addr×Bool),vs=src.map (λp=>V.ref p.1)/\src.length=n/\(∀p∈src,∃xs,HC K H1 p.2 p.1 xs)/\R (Itz K src) H1
theorem fY:∀{src:List (Addr×Bool)} {us:List Value},Vals (src.map λp=>V.ref p.1) us->us=src.map λp=>Value.ref p.1
 | [],us,h=>by cases h;rfl
 | p::r,us,h=>by
  cases h with
  | cons a b=>rw[fY b];cases a;rfl
theorem nG:∀(src:List (Addr×Bool)) (m:Nat),((bN m (src.map λp=>(⟨0,p.1,p.2⟩:Src))).map λq=>(q.l,q.tup))=src
 | [],_=>rfl
 | p::r,m=>by simp only[List.map_cons,bN];rw[nG r (m+1)]
theorem UT{X:Cx}{n:Nat}{e:Expr}{es:List Expr}{ta:TA}{p pos:Pos}{elts:List Expr}{x1}{tpos:Pos}(z:SE n)(hn:0<n/\n<=1000)(hg:Gl X "zip")(hm:X.mg "zip"=none)(ha:PA X (e::es) ta)
  (hv:bootBuiltins "zip"=some (.type "zip"):=by decide+kernel)
  (he:starEach (e::es) X.env=(false,eval e X.env)::starEach es X.env:=by rfl) (hpl:(backTo pos (starEach es X.env)).any (·.1)=false:=by rfl):
  PI X (.Tuple elts x1 tpos) (.Call (.Name "zip" p) (e::es) [] pos) (aEj X.K n ta):=by
 intro pins s σ H R I h;refine aGz (kZ I hg hm hv ?_);refine aGb (cM (ha pos pins s σ H _ I h) λus s1 ⟨vs,H1,I1,r1,q1⟩=>?_) he hpl;obtain⟨src,rfl,hl,hs,hR⟩:=q1;have hu:=fY r1;subst hu;have em:(src.map λp=>Value.ref p.1)=(src.map λp=>(⟨0,p.1,p.2⟩:Src)).map λq=>Value.ref q.l:=by rw[List.map_map];rfl
 have hz:src.length<=sizeLine:=aH6 (wH (by lia));rw[em];refine xK (by simpa using hz) (z.t _ (by simpa using hl)) (z.n _ (by simpa using hl)) (λobj=>z.i _ obj (by simpa using hl)) (λq hq=>?_) λh' zz TI TO t1 t2 t3 D Z kp=>?_
 ·obtain⟨p,hp,rfl⟩:=aFi.mp hq;obtain⟨xs,hx⟩:=hs p hp;obtain⟨aG,_,hsq⟩:=I1.YM hx;exact⟨aG.toArray,hsq 0⟩
 ·generalize hqs:bN s1.heap.objs.size (src.map λp=>(⟨0,p.1,p.2⟩:Src))=qs at D Z;have hql:qs.length=src.length:=by rw[<-hqs,e7];simp
  have hqsrc:(qs.map λq=>(q.l,q.tup))=src:=by rw[<-hqs];exact nG _ _
  have I2:Inv X pins σ H1 {s1 with heap:=h'}:=I1.kept (t' :=s1.toks) kp;have T:=KI (P:=X.prog) (w:=X.w) (K:=X.K) (elts:=elts) (x1:=x1) (pos:=tpos) D (by intro e0;rw[e0]at hql;simp at hql;lia) (by lia);rw[hqsrc]at T;refine B5 Z ⟨zz,_,_,Itz X.K src,H1,rfl,I2,T,Z,λb hb=>?_,hR⟩
  have hb0:s1.heap.objs.size<=b:=by
   rcases aFd.mp hb with e | hb
   ·rw[e];exact t3
   rcases aFd.mp hb with e | hb
   ·rw[e];exact t1
   rcases aFd.mp hb with e | hb
   ·rw[e];exact t2
   obtain⟨q,hq,e⟩:=aFi.mp hb;rw[<-hqs]at hq;have e' :q.it=b:=e;rw[<-e'];exact(dN hq).1
  exact(I1.JC hb0 (I1.bG.fresh hb0):nR X pins H1 b)
end L2
namespace TS
open PySem PyProof.Rows
structure Wk(lt:aHy):Prop where
 qS:∀x y,lt x y=true->lt y x=false
 tr:∀x y z,lt y x=false->lt z y=false->lt z x=false
theorem Wk.IU{lt:aHy}(O:Wk lt)(x:Keyed):lt x x=false:=by
 cases h:lt x x with
 | false=>rfl
 | true=>exact(O.qS x x h).symm.trans h |>.symm▸rfl
def aN(xs:aI0)(i:Nat):Keyed:=(xs[i]?).getD (Value.none,Value.none)
theorem IT{xs ys:aI0}{i j:Nat}(h:xs[i]? =ys[j]?):aN xs i=aN ys j:=by unfold aN;rw[h]
theorem fU{xs:aI0}{i:Nat}(h:i<xs.size):xs[i]? =some (aN xs i):=by unfold aN;rw[getElem?_pos xs i h];rfl
def Seg(lt:aHy)(xs:aI0)(i j:Nat):Prop:=∀p q,i<=p->p<=q->q<j->lt (aN xs q) (aN xs p)=false
def SK(lt:aHy)(xs:aI0)(i j:Nat):Prop:=∀p q,i<=p->p<=q->q<j->lt (aN xs p) (aN xs q)=false
structure Base(κ:SortKind)(a₀:aI0)(st:SortSt):Prop where
 perm:(arrOf st).Perm a₀
 kind:kindOf st=κ
 JE:failedOf st=none
theorem Base.size{κ:SortKind}{a₀:aI0}{st:SortSt}(h:Base κ a₀ st):(arrOf st).size=a₀.size:=h.perm.size_eq
theorem Base.arr{κ:SortKind}{a₀:aI0}{st:SortSt}(h:Base κ a₀ st){xs:aI0}(p:xs.Perm (arrOf st)):Base κ a₀ (setArr st xs):=⟨p.trans h.perm,h.kind,h.JE⟩
theorem Base.mem{κ:SortKind}{a₀:aI0}{st:SortSt}(h:Base κ a₀ st){i:Nat}(hi:i<a₀.size):aN (arrOf st) i∈a₀.toList:=by
 have hz:i<(arrOf st).size:=by rw[h.size];exact hi
 have e:=fU hz;have:aN (arrOf st) i∈arrOf st:=Array.mem_of_getElem? e;exact(Array.perm_iff_toList_perm.mp h.perm).mem_iff.mp this.val
def l6(prog:Program)(w:World)(A:Around)(s:Shared)(κ:SortKind)(lt:aHy)(a₀:aI0):Prop:=
 ∀x y,x∈a₀.toList->y∈a₀.toList->∀Q:Bool->Shared->Prop,Q (lt x y) s->wpAny (model prog w) A (keyLt' κ x.1 y.1) Q (λ_ _=>False) s
section
variable {prog:Program}{w:World}{A:Around}{E:aHx}{s:Shared}{a₀:aI0}{κ:SortKind}{lt:aHy}
theorem YZ{st:SortSt}{x y:Keyed}{Q:Option Bool->SortSt->Prop}(C:l6 prog w A s κ lt a₀)(hk:kindOf st=κ)(hx:x∈a₀.toList)(hy:y∈a₀.toList)(h:Q (some (lt x y)) st):wpS (model prog w) A E s (lt' x y) Q st:=by
 rw[lt'_eq];refine aFe (wpS_get ?_);rw[hk];refine aFe (wpS_lift (aGn (aGs (C x y hx hy (λb s' =>b=lt x y/\s' =s) ⟨rfl,rfl⟩) (λb s' hb=>?_) λ_ _ e=>e.elim)));obtain⟨rfl,rfl⟩:=hb;exact⟨rfl,aFh h⟩
theorem cR{st:SortSt}{arr:aI0}{i:Nat}{Q:Keyed->SortSt->Prop}(hi:i<arr.size)(h:Q (aN arr i) st):wpS (model prog w) A E s (elem' arr i) Q st:=by
 rw[elem'_eq,fU hi];exact aFh h
theorem AI{st:SortSt}{i j:Nat}{Q:Option Bool->SortSt->Prop}(C:l6 prog w A s κ lt a₀)(hB:Base κ a₀ st)(hi:i<a₀.size)(hj:j<a₀.size)(h:Q (some (lt (aN (arrOf st) i) (aN (arrOf st) j))) st):
  wpS (model prog w) A E s (ltAt' i j) Q st:=by
 rw[ltAt'_eq];refine aFe (wpS_get ?_);have z:=hB.size;exact aFe (cR (by rw[z];exact hi) (aFe (cR (by rw[z];exact hj) (YZ C hB.kind (hB.mem hi) (hB.mem hj) h))))
theorem nH{xs:aI0}{src d:Nat}(hs:src<xs.size)(hd:d<=src)(k:Nat):aN (bubble xs src d) k=if k=src-d then aN xs src else if src-d<k/\k<=src then aN xs (k-1) else aN xs k:=by
 have e:=getElem?_bubble hs d hd k;unfold aN;rw[e]
 repeat' split
 all_goals rfl
theorem gE{xs:aI0}{i j:Nat}(hj:j<=xs.size)(k:Nat):aN (mirror xs i j ((j-i) / 2)) k=if i<=k/\k<j then aN xs (i+j-1-k) else aN xs k:=by
 have e:=getElem?_mirror_all (i:=i) hj k;unfold aN;rw[e];split <;> rfl
theorem OO(O:Wk lt)(C:l6 prog w A s κ lt a₀){st:SortSt}{lo n ok:Nat}{Q:Bool->SortSt->Prop}(hn:lo+n<=a₀.size)(bG:ok<=n)(hB:Base κ a₀ st)(hs:Seg lt (arrOf st) lo (lo+ok))
  (h:∀st',Base κ a₀ st' ->Seg lt (arrOf st') lo (lo+n)->(∀k,k<lo->aN (arrOf st') k=aN (arrOf st) k)->pendingOf st' =pendingOf st->Q true st'):wpS (model prog w) A E s (binarySort' lo n ok) Q st:=by
 rw[binarySort'_eq]
 refine aFe (aH1 (aGo (I:=λk c st' =>c=(none,())/\Base κ a₀ st' /\Seg lt (arrOf st') lo (lo+min k n)/\(∀k,k<lo->aN (arrOf st') k=aN (arrOf st) k)/\pendingOf st' =pendingOf st)
  (Q:=λc st' =>c=(none,())/\Base κ a₀ st' /\Seg lt (arrOf st') lo (lo+n)/\(∀k,k<lo->aN (arrOf st') k=aN (arrOf st) k)/\pendingOf st' =pendingOf st) ?step ?fin ?init) ?post)
 case post=>
  rintro c st' ⟨rfl,hB',hs',hk',hp'⟩;exact aFh (h st' hB' hs' hk' hp')
 case init=>
  refine⟨rfl,hB,λp q hp hpq hq=>?_,λ_ _=>rfl,rfl⟩;by_cases h1:p=q
  ·subst h1;exact O.IU _
  ·exact hs p q hp hpq (by lia)
 case fin=>
  rintro c st' ⟨hc,hB',hs',r⟩;refine⟨hc,hB',?_,r⟩
  rwa [show min (max (max ok 1) n) n=n by (clear r bG hn;lia)]at hs'
 case step=>
  rintro k c st' hak hkn ⟨rfl,hB',hs',hk',hp'⟩;rw[show min k n=k by lia]at hs';have hk:lo+k<a₀.size:=by lia
  refine aFe (aH1 (aGo (I:=λx c st'' =>st'' =st' /\∃l r,c=(none,l,r)/\l<=r/\r<=k/\r-l<=k-x/\
    (∀i,i<l->lt (aN (arrOf st') (lo+k)) (aN (arrOf st') (lo+i))=false)/\(∀i,r<=i->i<k->lt (aN (arrOf st') (lo+k)) (aN (arrOf st') (lo+i))=true))
   (Q:=λc st'' =>st'' =st' /\∃l r,c=(none,l,r)/\l<=k/\
    (∀i,i<l->lt (aN (arrOf st') (lo+k)) (aN (arrOf st') (lo+i))=false)/\(∀i,l<=i->i<k->lt (aN (arrOf st') (lo+k)) (aN (arrOf st') (lo+i))=true)) ?istep ?ifin ?iinit) ?ipost)
  case iinit=>exact⟨rfl,0,k,rfl,by lia,by lia,by lia,λi hi=>by lia,λi h1 h2=>by lia⟩
  case ifin=>
   rintro c st'' ⟨rfl,l,r,rfl,hlr,hrk,hm,hlo,hhi⟩;obtain rfl:l=r:=by lia
   exact⟨rfl,l,l,rfl,hrk,hlo,hhi⟩
  case istep=>
   rintro x c st'' _ hxk ⟨rfl,l,r,rfl,hlr,hrk,hm,hlo,hhi⟩;dsimp only;by_cases hge:l>=r
   ·rw[if_pos hge];obtain rfl:l=r:=by lia
    exact aFh ⟨rfl,l,l,rfl,hrk,hlo,hhi⟩
   ·rw[if_neg hge];refine aFe (AI C hB' hk (by lia) ?_)
    cases hless:lt (aN (arrOf st'') (lo+k)) (aN (arrOf st'') (lo+(l+r) / 2)) with
    | true=>
     simp only[if_true];refine aFh ⟨rfl,l,(l+r) / 2,rfl,by lia,by lia,by lia,hlo,λi h1 h2=>?_⟩
     cases hx:lt (aN (arrOf st'') (lo+k)) (aN (arrOf st'') (lo+i)) with
     | true=>rfl
     | false=>rw[O.tr _ _ _ (hs' (lo+(l+r) / 2) (lo+i) (by lia) (by lia) (by lia)) hx]at hless;cases hless
    | false=>
     simp only[Bool.false_eq_true,if_false];refine aFh ⟨rfl,(l+r) / 2+1,r,rfl,by lia,by lia,by lia,λi h1=>?_,hhi⟩;exact O.tr _ _ _ (hs' (lo+i) (lo+(l+r) / 2) (by lia) (by lia) (by lia)) hless
  case ipost=>
   rintro c st'' ⟨rfl,l,r,rfl,hlk,hlo,hhi⟩;show wpS _ _ _ _ (do moveDown' (lo+k) (lo+l);pure (ForInStep.yield (none,()))) _ _;rw[moveDown'_eq];have hks:lo+k<(arrOf st'').size:=by rw[hB'.size];exact hk
   have e1:lo+k-(lo+l)=k-l:=by lia
   refine aFe (wpS_modify (aFh ⟨rfl,hB'.arr (bubble_perm _ _ _),?_,λj hj=>?_,hp'⟩))
   ·rw[show min (k+1) n=k+1 by lia];intro p q hp hpq hq;show lt (aN (bubble (arrOf st'') (lo+k) (lo+k-(lo+l))) q) (aN (bubble (arrOf st'') (lo+k) (lo+k-(lo+l))) p)=false;rw[nH hks (by lia),nH hks (by lia),show lo+k-(lo+k-(lo+l))=lo+l by (clear hq hpq hp e1 hks hk hkn hak bG hn;lia)]
    repeat' split
    all_goals first
     | (exfalso;lia)
     | exact O.IU _
     | (have:=hlo (p-lo) (by lia);rwa [show lo+(p-lo)=p by lia]at this)
     | (have:=O.qS _ _ (hhi (q-1-lo) (by lia) (by lia));rwa [show lo+(q-1-lo)=q-1 by lia]at this)
     | exact hs' _ _ (by lia) (by lia) (by lia)
   ·show aN (bubble (arrOf st'') (lo+k) (lo+k-(lo+l))) j=_;rw[nH hks (by lia),if_neg (by lia),if_neg (by lia)];exact hk' j hj
end
def ZA(lo a bU:Nat):StateT SortSt Sem (Option (Option Nat)×Nat):=
 forIn [a:bU] ((none,a):Option (Option Nat)×Nat) λ_ c=>do
  let x<-ltAt' (lo+c.snd) (lo+c.snd-1)
  match x with
  | some smaller=>if smaller=true then pure (ForInStep.done (none,c.snd)) else pure (ForInStep.yield (none,c.snd+1))
  | _=>pure (ForInStep.done (some none,c.snd))
def BV(lo n bU:Nat):StateT SortSt Sem (Option Nat):=do
 reverseSlice' lo (lo+n)
 let c<-ZA lo n bU
 match c.fst with
 | some r=>pure r
 | none=>pure (some c.snd)
def G3(lo n bU:Nat):StateT SortSt Sem (Option (Option Nat)×Nat×Nat):=
 forIn [n:bU] ((none,n,0):Option (Option Nat)×Nat×Nat) λ_ c=>do
  let x<-ltAt' (lo+c.snd.fst) (lo+c.snd.fst-1)
  match x with
  | some smaller=>
   if smaller=true then
    if c.snd.snd > 0 then do
     reverseSlice' (lo+c.snd.fst-(c.snd.snd+1)) (lo+c.snd.fst)
     pure (ForInStep.yield (none,c.snd.fst+1,0))
    else pure (ForInStep.yield (none,c.snd.fst+1,0))
   else do
    let y<-ltAt' (lo+c.snd.fst-1) (lo+c.snd.fst)
    match y with
    | some larger=>if larger=true then pure (ForInStep.done (none,c.snd.fst,c.snd.snd)) else pure (ForInStep.yield (none,c.snd.fst+1,c.snd.snd+1))
    | _=>pure (ForInStep.done (some none,c.snd.fst,c.snd.snd))
  | _=>pure (ForInStep.done (some none,c.snd.fst,c.snd.snd))
def CI(lo n bU:Nat):StateT SortSt Sem (Option Nat):=do
 liftM (rule "list.sort.descending-run")
 let c<-G3 lo (n+1) bU
 match c.fst with
 | some r=>pure r
 | none=>
  if c.snd.snd > 0 then do
   reverseSlice' (lo+c.snd.fst-(c.snd.snd+1)) (lo+c.snd.fst)
   BV lo c.snd.fst bU
  else BV lo c.snd.fst bU
theorem JJ(lo bU:Nat):countRun' lo bU=(do
  let c<-ZA lo 1 bU
  match c.fst with
  | some r=>pure r
  | none=>
   if (c.snd==bU)=true then pure (some c.snd)
   else if c.snd > 1 then do
    let x<-ltAt' lo (lo+c.snd-1)
    match x with
    | some rose=>if rose=true then pure (some c.snd) else do
      reverseSlice' lo (lo+c.snd)
      CI lo c.snd bU
    | _=>pure none
   else CI lo c.snd bU):=by
 rw[countRun'_eq];dsimp only;unfold CI BV G3 ZA;congr 1;funext c;obtain⟨r,n⟩:=c
 cases r with
 | some r=>rfl
 | none=>
  dsimp only;have fin:∀(c3:Option (Option Nat)×Nat),(match c3.fst with | some r=>(pure r:StateT SortSt Sem (Option Nat)) | none=>pure (some c3.snd))=(match c3.fst with | some r=>pure r | none=>pure (some c3.snd)):=λ_=>rfl;split
  ·rfl
  ·split
   ·congr 1;funext x
    cases x with
    | none=>rfl
    | some rose=>
     dsimp only;split
     ·rfl
     ·congr 1;funext u;congr 1;funext u1;congr 1;congr 1;funext c2;obtain⟨r2,n2,q2⟩:=c2
      cases r2 with
      | some r2=>rfl
      | none=>
       dsimp only;split
       ·congr 1;funext v;congr 1;funext v1;congr 1;funext c3;obtain⟨r3,n3⟩:=c3;cases r3 <;> rfl
       ·congr 1;funext v1;congr 1;funext c3;obtain⟨r3,n3⟩:=c3;cases r3 <;> rfl
   ·congr 1;funext u1;congr 1;congr 1;funext c2;obtain⟨r2,n2,q2⟩:=c2
    cases r2 with
    | some r2=>rfl
    | none=>
     dsimp only;split
     ·congr 1;funext v;congr 1;funext v1;congr 1;funext c3;obtain⟨r3,n3⟩:=c3;cases r3 <;> rfl
     ·congr 1;funext v1;congr 1;funext c3;obtain⟨r3,n3⟩:=c3;cases r3 <;> rfl
section
variable {prog:Program}{w:World}{A:Around}{E:aHx}{s:Shared}{a₀:aI0}{κ:SortKind}{lt:aHy}
theorem OJ{st:SortSt}{i j:Nat}{Q:Unit->SortSt->Prop}(h:Q () (setArr st (mirror (arrOf st) i j ((j-i) / 2)))):wpS (model prog w) A E s (reverseSlice' i j) Q st:=by
 rw[reverseSlice'_eq];exact wpS_modify h
def iT(lo:Nat)(st st' :SortSt):Prop:=(∀k,k<lo->aN (arrOf st') k=aN (arrOf st) k)/\pendingOf st' =pendingOf st
theorem iT.refl{lo:Nat}{st:SortSt}:iT lo st st:=⟨λ_ _=>rfl,rfl⟩
theorem iT.trans{lo:Nat}{a b c:SortSt}(h:iT lo a b)(h' :iT lo b c):iT lo a c:=⟨λk hk=>(h'.1 k hk).trans (h.1 k hk),h'.2.trans h.2⟩
theorem iT.mirror{lo i j:Nat}{st:SortSt}(hi:lo<=i)(hj:j<=(arrOf st).size):iT lo st (setArr st (PyProof.Rows.mirror (arrOf st) i j ((j-i) / 2))):=
 ⟨λk hk=>by show aN (PyProof.Rows.mirror (arrOf st) i j ((j-i) / 2)) k=_;rw[gE hj,if_neg (by lia)],rfl⟩
theorem wup(O:Wk lt)(C:l6 prog w A s κ lt a₀){st:SortSt}{lo a bU:Nat}{Q:Option (Option Nat)×Nat->SortSt->Prop}(hn:lo+bU<=a₀.size)(ha:1<=a)(han:a<=bU)(hB:Base κ a₀ st)(hs:Seg lt (arrOf st) lo (lo+a))
  (h:∀n,a<=n->n<=bU->Seg lt (arrOf st) lo (lo+n)->(n=bU\/lt (aN (arrOf st) (lo+n)) (aN (arrOf st) (lo+n-1))=true)->Q (none,n) st):wpS (model prog w) A E s (ZA lo a bU) Q st:=by
 unfold ZA;refine aGo (I:=λx c st' =>st' =st/\c=(none,x)/\Seg lt (arrOf st) lo (lo+x)) ?step ?fin ⟨rfl,rfl,hs⟩
 case fin=>
  rintro c st' ⟨rfl,rfl,hs'⟩;rw[show max a bU=bU by lia]at hs' ⊢;exact h bU han (aF9 _) hs' (.inl rfl)
 case step=>
  rintro x c st' hax hxn ⟨rfl,rfl,hs'⟩;dsimp only;refine aFe (AI C hB (by lia) (by lia) ?_)
  cases hless:lt (aN (arrOf st') (lo+x)) (aN (arrOf st') (lo+x-1)) with
  | true=>
   simp only[if_true];exact aFh (h x hax (by lia) hs' (.inr hless))
  | false=>
   simp only[Bool.false_eq_true,if_false];refine aFh ⟨rfl,rfl,λp q hp hpq hq=>?_⟩;by_cases hqx:q<lo+x
   ·exact hs' p q hp hpq hqx
   ·obtain rfl:q=lo+x:=by lia
    by_cases hi' :p=lo+x
    ·subst hi';exact O.IU _
    ·exact O.tr _ _ _ (hs' p (lo+x-1) hp (by lia) (by lia)) hless
theorem SN(O:Wk lt)(C:l6 prog w A s κ lt a₀){st:SortSt}{lo n bU:Nat}{Q:Option Nat->SortSt->Prop}(hn:lo+bU<=a₀.size)(h1:1<=n)(hnn:n<=bU)(hB:Base κ a₀ st)(hs:SK lt (arrOf st) lo (lo+n))
  (h:∀m st',Base κ a₀ st' ->1<=m->m<=bU->Seg lt (arrOf st') lo (lo+m)->iT lo st st' ->Q (some m) st'):wpS (model prog w) A E s (BV lo n bU) Q st:=by
 unfold BV;have hsz:lo+n<=(arrOf st).size:=by rw[hB.size];lia
 refine aFe (OJ ?_);have hB' :Base κ a₀ (setArr st (mirror (arrOf st) lo (lo+n) ((lo+n-lo) / 2))):=hB.arr (mirror_perm _ _ _ _);refine aFe (wup O C hn h1 hnn hB' ?_ λm hm1 hm2 hsm _=>aFh (h m _ hB' (by lia) hm2 hsm (iT.mirror (aF9 _) hsz)));intro p q hp hpq hq;show lt (aN (mirror (arrOf st) lo (lo+n) ((lo+n-lo) / 2)) q) (aN (mirror (arrOf st) lo (lo+n) ((lo+n-lo) / 2)) p)=false;rw[gE hsz,gE hsz,if_pos (by lia),if_pos (by lia)];exact hs _ _ (by lia) (by lia) (by lia)
def Alike(lt:aHy)(xs:aI0)(i j:Nat):Prop:=∀p q,i<=p->p<j->i<=q->q<j->lt (aN xs p) (aN xs q)=false
theorem nK(O:Wk lt){xs:aI0}{lo i j n:Nat}(hj:j<=xs.size)(he:Alike lt xs i j)(hs:SK lt xs lo n)(hi:lo<=i)(hjn:j<=n):SK lt (mirror xs i j ((j-i) / 2)) lo n:=by
 intro p q hp hpq hq;rw[gE hj,gE hj];by_cases h1:i<=p/\p<j
 ·rw[if_pos h1];by_cases h2:i<=q/\q<j
  ·rw[if_pos h2];exact he _ _ (by lia) (by lia) (by lia) (by lia)
  ·rw[if_neg h2];exact hs _ _ (by lia) (by lia) hq
 ·rw[if_neg h1];by_cases h2:i<=q/\q<j
  ·rw[if_pos h2];exact hs _ _ hp (by lia) (by lia)
  ·rw[if_neg h2];exact hs _ _ hp hpq hq
theorem Y6(O:Wk lt)(C:l6 prog w A s κ lt a₀){st:SortSt}{lo n bU:Nat}{Q:Option (Option Nat)×Nat×Nat->SortSt->Prop}(hn:lo+bU<=a₀.size)(h1:1<=n)(hnn:n<=bU)(hB:Base κ a₀ st)(hs:SK lt (arrOf st) lo (lo+n))
  (h:∀m neq st',Base κ a₀ st' ->n<=m->m<=bU->SK lt (arrOf st') lo (lo+m)->neq+1<=m->Alike lt (arrOf st') (lo+m-(neq+1)) (lo+m)->iT lo st st' ->Q (none,m,neq) st'):wpS (model prog w) A E s (G3 lo n bU) Q st:=by
 unfold G3
 have one:∀(xs:aI0) (x:Nat),1<=x->Alike lt xs (lo+x-(0+1)) (lo+x):=λxs x hx p q h1 h2 h3 h4=>by
  obtain rfl:p=q:=by lia
  exact O.IU _
 refine aGo (I:=λx c st' =>∃neq,c=(none,x,neq)/\Base κ a₀ st' /\SK lt (arrOf st') lo (lo+x)/\neq+1<=x/\Alike lt (arrOf st') (lo+x-(neq+1)) (lo+x)/\iT lo st st') ?step ?fin ⟨0,rfl,hB,hs,by lia,one _ _ h1,iT.refl⟩
 case fin=>
  rintro c st' ⟨neq,rfl,hB',hs',hq,he,hh⟩;rw[show max n bU=bU by lia]at hs' hq he⊢;exact h bU neq st' hB' hnn (aF9 _) hs' hq he hh
 case step=>
  rintro x c st' hax hxn ⟨neq,rfl,hB',hs',hq,he,hh⟩;dsimp only;have hsz:lo+x<=(arrOf st').size:=by rw[hB'.size];lia
  refine aFe (AI C hB' (by lia) (by lia) ?_)
  cases hless:lt (aN (arrOf st') (lo+x)) (aN (arrOf st') (lo+x-1)) with
  | true=>
   simp only[if_true]
   have step1:SK lt (arrOf st') lo (lo+x+1):=by
    intro p q hp hpq hq;by_cases hqx:q<lo+x
    ·exact hs' p q hp hpq hqx
    ·obtain rfl:q=lo+x:=by lia
     by_cases hi' :p=lo+x
     ·subst hi';exact O.IU _
     ·exact O.tr _ _ _ (O.qS _ _ hless) (hs' p (lo+x-1) hp (by lia) (by lia))
   by_cases hneq:neq > 0
   ·rw[if_pos hneq];refine aFe (OJ (aFh ⟨0,rfl,hB'.arr (mirror_perm _ _ _ _),?_,by lia,one _ _ (by lia),hh.trans (iT.mirror (by lia) hsz)⟩));exact nK O hsz he step1 (by lia) (by lia)
   ·rw[if_neg hneq];exact aFh ⟨0,rfl,hB',step1,by lia,one _ _ (by lia),hh⟩
  | false=>
   simp only[Bool.false_eq_true,if_false];refine aFe (AI C hB' (by lia) (by lia) ?_)
   cases hlarger:lt (aN (arrOf st') (lo+x-1)) (aN (arrOf st') (lo+x)) with
   | true=>
    simp only[if_true];exact aFh (h x neq st' hB' hax (by lia) hs' hq he hh)
   | false=>
    simp only[Bool.false_eq_true,if_false];refine aFh ⟨neq+1,rfl,hB',λp q hp hpq hq=>?_,by lia,λp q h1 h2 h3 h4=>?_,hh⟩
    ·by_cases hqx:q<lo+x
     ·exact hs' p q hp hpq hqx
     ·obtain rfl:q=lo+x:=by lia
      by_cases hi' :p=lo+x
      ·subst hi';exact O.IU _
      ·exact O.tr _ _ _ hlarger (hs' p (lo+x-1) hp (by lia) (by lia))
    ·by_cases hpx:p=lo+x
     ·subst hpx;by_cases hqx:q=lo+x
      ·subst hqx;exact O.IU _
      ·exact O.tr _ _ _ (he (lo+x-1) q (by lia) (by lia) (by lia) (by lia)) hless
     ·by_cases hqx:q=lo+x
      ·subst hqx;exact O.tr _ _ _ hlarger (he p (lo+x-1) (by lia) (by lia) (by lia) (by lia))
      ·exact he p q (by lia) (by lia) (by lia) (by lia)
theorem SQ(O:Wk lt)(C:l6 prog w A s κ lt a₀){st:SortSt}{lo n bU:Nat}{Q:Option Nat->SortSt->Prop}(hn:lo+bU<=a₀.size)(hnn:n+1<=bU)(hB:Base κ a₀ st)(hs:SK lt (arrOf st) lo (lo+(n+1)))
  (h:∀m st',Base κ a₀ st' ->1<=m->m<=bU->Seg lt (arrOf st') lo (lo+m)->iT lo st st' ->Q (some m) st'):wpS (model prog w) A E s (CI lo n bU) Q st:=by
 unfold CI;refine aFe (wpS_lift (aGc ⟨rfl,?_⟩));refine aFe (Y6 O C hn (by lia) hnn hB hs λm neq st' hB' hm1 hm2 hs' hq he hh=>?_);dsimp only;have hsz:lo+m<=(arrOf st').size:=by rw[hB'.size];lia
 by_cases hneq:neq > 0
 ·rw[if_pos hneq];refine aFe (OJ (SN O C hn (by lia) hm2 (hB'.arr (mirror_perm _ _ _ _)) ?_ λm st2 b1 b2 b3 b4 b5=>h m st2 b1 b2 b3 b4 (hh.trans ((iT.mirror (by lia) hsz).trans b5))));exact nK O hsz he hs' (by lia) (aF9 _)
 ·rw[if_neg hneq];exact SN O C hn (by lia) hm2 hB' hs' λm st2 b1 b2 b3 b4 b5=>h m st2 b1 b2 b3 b4 (hh.trans b5)
theorem TM(O:Wk lt)(C:l6 prog w A s κ lt a₀){st:SortSt}{lo bU:Nat}{Q:Option Nat->SortSt->Prop}(hn:lo+bU<=a₀.size)(h1:1<=bU)(hB:Base κ a₀ st)
  (h:∀m st',Base κ a₀ st' ->1<=m->m<=bU->Seg lt (arrOf st') lo (lo+m)->iT lo st st' ->Q (some m) st'):wpS (model prog w) A E s (countRun' lo bU) Q st:=by
 rw[JJ]
 refine aFe (wup O C hn (aF9 1) h1 hB (λp q h1 h2 h3=>by
  obtain rfl:p=q:=by lia
  exact O.IU _) λn hn1 hn2 hsn hor=>?_)
 dsimp only;by_cases hnn:n=bU
 ·rw[if_pos (by simpa using hnn)];exact aFh (h n st hB hn1 hn2 hsn iT.refl)
 ·rw[if_neg (by simpa using hnn)];have hlt:lt (aN (arrOf st) (lo+n)) (aN (arrOf st) (lo+n-1))=true:=hor.resolve_left hnn;by_cases hgt:n > 1
  ·rw[if_pos hgt];refine aFe (AI C hB (by lia) (by lia) ?_)
   cases hrose:lt (aN (arrOf st) lo) (aN (arrOf st) (lo+n-1)) with
   | true=>
    simp only[if_true];exact aFh (h n st hB hn1 hn2 hsn iT.refl)
   | false=>
    simp only[Bool.false_eq_true,if_false];have hsz:lo+n<=(arrOf st).size:=by rw[hB.size];lia
    have hall:Alike lt (arrOf st) lo (lo+n):=λp q a1 a2 a3 a4=>by
     have e1:=hsn lo p (aF9 _) (by lia) (by lia);have e2:=hsn q (lo+n-1) a3 (by lia) (by lia);exact O.tr _ _ _ (O.tr _ _ _ e2 hrose) e1
    have hd:SK lt (arrOf st) lo (lo+(n+1)):=λp q hp hpq hq=>by
     by_cases hqn:q<lo+n
     ·exact hall p q hp (by lia) (by lia) hqn
     ·obtain rfl:q=lo+n:=by lia
      by_cases hi' :p=lo+n
      ·subst hi';exact O.IU _
      ·exact O.tr _ _ _ (O.qS _ _ hlt) (hall p (lo+n-1) hp (by lia) (by lia) (by lia))
    refine aFe (OJ (SQ O C hn (by lia) (hB.arr (mirror_perm _ _ _ _)) ?_ λm st2 b1 b2 b3 b4 b5=>h m st2 b1 b2 b3 b4 ((iT.mirror (aF9 _) hsz).trans b5)));exact nK O hsz hall hd (aF9 _) (by lia)
  ·rw[if_neg hgt];obtain rfl:n=1:=by lia
   refine SQ O C hn (by lia) hB (λp q hp hpq hq=>?_) h;by_cases hi' :p=q
   ·subst hi';exact O.IU _
   ·obtain rfl:p=lo:=by lia
    obtain rfl:q=p+1:=by lia
    exact O.qS _ _ hlt
end
def dI:Bool->Keyed->Array Keyed->Nat->Nat->Nat->StateT SortSt Sem (Option Nat):=sortPriv% PySem.Builtin.gallop
def jB(left:Bool)(key:Keyed)(arr:aI0)(base i:Nat):StateT SortSt Sem (Option Bool):=do
 let x<-elem' arr (base+i)
 if left then lt' x key else return (<-lt' key x).map (!·)
theorem EV(left:Bool)(key:Keyed)(arr:aI0)(base n hint:Nat):dI left key arr base n hint=(do
 let mut lastofs:=0;let mut ofs:=1;let mut lo:=0;let mut hi:=0
 let some right<-jB left key arr base hint | return none
 if right then
  let maxofs:=n-hint
  for _ in [0:n] do
   if ofs>=maxofs then break
   let some more<-jB left key arr base (hint+ofs) | return none
   if !more then break
   lastofs:=ofs;ofs:=2*ofs+1
  lo:=hint+lastofs+1;hi:=hint+min ofs maxofs
 else
  let maxofs:=hint+1
  for _ in [0:n] do
   if ofs>=maxofs then break
   let some found<-jB left key arr base (hint-ofs) | return none
   if found then break
   lastofs:=ofs;ofs:=2*ofs+1
  lo:=hint+1-min ofs maxofs;hi:=hint-lastofs
 for _ in [0:n] do
  if lo>=hi then break
  let m:=lo+(hi-lo) / 2
  let some more<-jB left key arr base m | return none
  if more then lo:=m+1 else hi:=m
 return some hi):=rfl
section
variable {prog:Program}{w:World}{A:Around}{E:aHx}{s:Shared}{a₀:aI0}{κ:SortKind}{lt:aHy}
def jC(lt:aHy)(left:Bool)(key:Keyed)(arr:aI0)(base i:Nat):Bool:=if left then lt (aN arr (base+i)) key else !(lt key (aN arr (base+i)))
theorem sF(C:l6 prog w A s κ lt a₀){st:SortSt}{left:Bool}{key:Keyed}{arr:aI0}{base i:Nat}{Q:Option Bool->SortSt->Prop}(hk:kindOf st=κ)(hi:base+i<arr.size)(hx:aN arr (base+i)∈a₀.toList)(hy:key∈a₀.toList)
  (h:Q (some (jC lt left key arr base i)) st):wpS (model prog w) A E s (jB left key arr base i) Q st:=by
 unfold jB;refine aFe (cR hi ?_)
 cases left with
 | true=>
  simp only[if_true];exact YZ C hk hx hy h
 | false=>
  simp only[Bool.false_eq_true,if_false];exact aFe (YZ C hk hy hx (aFh h))
theorem pS(O:Wk lt){left:Bool}{key:Keyed}{arr:aI0}{base n i j:Nat}(hs:Seg lt arr base (base+n))(hij:i<=j)(hj:j<n)(h:jC lt left key arr base j=true):jC lt left key arr base i=true:=by
 have e:=hs (base+i) (base+j) (by lia) (by lia) (by lia);unfold jC at h⊢
 cases left with
 | true=>
  simp only[if_true]at h⊢
  cases hx:lt (aN arr (base+i)) key with
  | true=>rfl
  | false=>rw[O.tr _ _ _ hx e]at h;cases h
 | false=>
  simp only[Bool.false_eq_true,if_false]at h⊢;have h' :lt key (aN arr (base+j))=false:=by simpa using h
  rw[O.tr _ _ _ e h'];rfl
theorem qP(O:Wk lt){left:Bool}{key:Keyed}{arr:aI0}{base n i j:Nat}(hs:Seg lt arr base (base+n))(hij:i<=j)(hj:j<n)(h:jC lt left key arr base i=false):jC lt left key arr base j=false:=by
 cases hx:jC lt left key arr base j with
 | false=>rfl
 | true=>rw[pS O hs hij hj hx]at h;cases h
def R5(left:Bool)(key:Keyed)(arr:aI0)(base n lo0 hi0:Nat):StateT SortSt Sem (Option Nat):=do
 let mut lo:=lo0;let mut hi:=hi0
 for _ in [0:n] do
  if lo>=hi then break
  let m:=lo+(hi-lo) / 2
  let some more<-jB left key arr base m | return none
  if more then lo:=m+1 else hi:=m
 return some hi
theorem Y7(O:Wk lt)(C:l6 prog w A s κ lt a₀){st:SortSt}{left:Bool}{key:Keyed}{arr:aI0}{base n lo hi:Nat}{Q:Option Nat->SortSt->Prop}(hk:kindOf st=κ)(hb:base+n<=arr.size)(hs:Seg lt arr base (base+n))
  (hm:∀i,i<n->aN arr (base+i)∈a₀.toList) (hy:key∈a₀.toList) (hlh:lo<=hi) (hhn:hi<=n) (hlo:∀i,i<lo->jC lt left key arr base i=true) (hhi:∀i,hi<=i->i<n->jC lt left key arr base i=false)
  (h:∀k,k<=n->(∀i,i<k->jC lt left key arr base i=true)->(∀i,k<=i->i<n->jC lt left key arr base i=false)->Q (some k) st):wpS (model prog w) A E s (R5 left key arr base n lo hi) Q st:=by
 unfold R5;dsimp only
 refine aFe (aH1 (aGo (I:=λx c st' =>st' =st/\∃l r,c=(none,l,r)/\l<=r/\r<=n/\r-l<=n-x/\(∀i,i<l->jC lt left key arr base i=true)/\(∀i,r<=i->i<n->jC lt left key arr base i=false))
  (Q:=λc st' =>st' =st/\∃r,c=(none,r,r)/\r<=n/\(∀i,i<r->jC lt left key arr base i=true)/\(∀i,r<=i->i<n->jC lt left key arr base i=false)) ?step ?fin ⟨rfl,lo,hi,rfl,hlh,hhn,by lia,hlo,hhi⟩) ?post)
 case post=>
  rintro c st' ⟨rfl,r,rfl,h1,h2,h3⟩;exact aFh (h r h1 h2 h3)
 case fin=>
  rintro c st' ⟨rfl,l,r,rfl,h1,h2,h3,h4,h5⟩;obtain rfl:l=r:=by lia
  exact⟨rfl,l,rfl,h2,h4,h5⟩
 case step=>
  rintro x c st' _ hx ⟨rfl,l,r,rfl,h1,h2,h3,h4,h5⟩;dsimp only;by_cases hge:l>=r
  ·rw[if_pos hge];obtain rfl:l=r:=by lia
   exact aFh ⟨rfl,l,rfl,h2,h4,h5⟩
  ·rw[if_neg hge];refine aFe (sF C hk (by (clear h3 h1 hx hhn hlh;lia)) (hm _ (by (clear h3 h1 hx hhn hlh hb;lia))) hy ?_)
   cases hb' :jC lt left key arr base (l+(r-l) / 2) with
   | true=>
    simp only[if_true];exact aFh ⟨rfl,_,r,rfl,by (clear h3 h2 h1 hx hhn hlh hb;lia),h2,by lia,λi hi=>pS O hs (by lia) (by lia) hb',h5⟩
   | false=>
    simp only[Bool.false_eq_true,if_false];exact aFh ⟨rfl,l,_,rfl,by lia,by lia,by lia,h4,λi h6 h7=>qP O hs h6 h7 hb'⟩
theorem lK(O:Wk lt)(C:l6 prog w A s κ lt a₀){st:SortSt}{left:Bool}{key:Keyed}{arr:aI0}{base n hint:Nat}{Q:Option Nat->SortSt->Prop}(hk:kindOf st=κ)(hb:base+n<=arr.size)(hh:hint<n)(hs:Seg lt arr base (base+n))
  (hm:∀i,i<n->aN arr (base+i)∈a₀.toList) (hy:key∈a₀.toList)
  (h:∀k,k<=n->(∀i,i<k->jC lt left key arr base i=true)->(∀i,k<=i->i<n->jC lt left key arr base i=false)->Q (some k) st):wpS (model prog w) A E s (dI left key arr base n hint) Q st:=by
 rw[EV];refine aFe (sF C hk (by lia) (hm hint hh) hy ?_);dsimp only
 cases hr:jC lt left key arr base hint with
 | true=>
  simp only[if_true]
  refine aFe (aH1 (aGo (I:=λx c st' =>st' =st/\∃lastofs ofs,c=(none,lastofs,ofs)/\lastofs<ofs/\x+1<=ofs/\hint+lastofs<n/\jC lt left key arr base (hint+lastofs)=true)
   (Q:=λc st' =>st' =st/\∃lastofs ofs,c=(none,lastofs,ofs)/\lastofs<ofs/\hint+lastofs<n/\jC lt left key arr base (hint+lastofs)=true/\(n-hint<=ofs\/(hint+ofs<n/\jC lt left key arr base (hint+ofs)=false))) ?step ?fin ⟨rfl,0,1,rfl,by lia,by lia,by lia,by simpa using hr⟩) ?post)
  case fin=>
   rintro c st' ⟨rfl,l,o,rfl,h1,h2,h3,h4⟩;exact⟨rfl,l,o,rfl,h1,h3,h4,.inl (by lia)⟩
  case step=>
   rintro x c st' _ hx ⟨rfl,l,o,rfl,h1,h2,h3,h4⟩;dsimp only;by_cases hge:o>=n-hint
   ·rw[if_pos hge];exact aFh ⟨rfl,l,o,rfl,h1,h3,h4,.inl hge⟩
   ·rw[if_neg hge];refine aFe (sF C hk (by lia) (hm _ (by lia)) hy ?_)
    cases hb' :jC lt left key arr base (hint+o) with
    | true=>
     simp only[Bool.not_true,Bool.false_eq_true,if_false];exact aFh ⟨rfl,o,_,rfl,by lia,by lia,by lia,hb'⟩
    | false=>
     simp only[Bool.not_false,if_true];exact aFh ⟨rfl,l,o,rfl,h1,h3,h4,.inr ⟨by lia,hb'⟩⟩
  case post=>
   rintro c st' ⟨rfl,l,o,rfl,h1,h3,h4,h5⟩;dsimp only;show wpS _ _ _ _ (R5 left key arr base n (hint+l+1) (hint+min o (n-hint))) _ _;refine Y7 (lo:=hint+l+1) (hi:=hint+min o (n-hint)) O C hk hb hs hm hy (by (clear h5 hh hb;lia)) (by (clear h5 h3 h1 hb;lia)) (λi hi=>pS O hs (by lia) h3 h4) (λi h6 h7=>?_) h;rcases h5 with h5 | ⟨h5,h8⟩
   ·lia
   ·exact qP O hs (by lia) h7 h8
 | false=>
  simp only[Bool.false_eq_true,if_false]
  refine aFe (aH1 (aGo (I:=λx c st' =>st' =st/\∃lastofs ofs,c=(none,lastofs,ofs)/\lastofs<ofs/\x+1<=ofs/\lastofs<=hint/\jC lt left key arr base (hint-lastofs)=false)
   (Q:=λc st' =>st' =st/\∃lastofs ofs,c=(none,lastofs,ofs)/\lastofs<ofs/\lastofs<=hint/\jC lt left key arr base (hint-lastofs)=false/\(hint+1<=ofs\/(ofs<=hint/\jC lt left key arr base (hint-ofs)=true))) ?step ?fin ⟨rfl,0,1,rfl,by lia,by lia,by lia,by simpa using hr⟩) ?post)
  case fin=>
   rintro c st' ⟨rfl,l,o,rfl,h1,h2,h3,h4⟩;exact⟨rfl,l,o,rfl,h1,h3,h4,.inl (by lia)⟩
  case step=>
   rintro x c st' _ hx ⟨rfl,l,o,rfl,h1,h2,h3,h4⟩;dsimp only;by_cases hge:o>=hint+1
   ·rw[if_pos hge];exact aFh ⟨rfl,l,o,rfl,h1,h3,h4,.inl hge⟩
   ·rw[if_neg hge];refine aFe (sF C hk (by lia) (hm _ (by lia)) hy ?_)
    cases hb' :jC lt left key arr base (hint-o) with
    | true=>
     simp only[if_true];exact aFh ⟨rfl,l,o,rfl,h1,h3,h4,.inr ⟨by lia,hb'⟩⟩
    | false=>
     simp only[Bool.false_eq_true,if_false];exact aFh ⟨rfl,o,_,rfl,by lia,by lia,by lia,hb'⟩
  case post=>
   rintro c st' ⟨rfl,l,o,rfl,h1,h3,h4,h5⟩;dsimp only;show wpS _ _ _ _ (R5 left key arr base n (hint+1-min o (hint+1)) (hint-l)) _ _;refine Y7 (lo:=hint+1-min o (hint+1)) (hi:=hint-l) O C hk hb hs hm hy (by (clear h5 h3 hh hb;lia)) (by lia) (λi hi=>?_) (λi h6 h7=>qP O hs h6 h7 h4) h;rcases h5 with h5 | ⟨h5,h8⟩
   ·lia
   ·exact pS O hs (by lia) (by lia) h8
end
structure Mg(lt:aHy)(all o p q:List Keyed):Prop where
 perm:(o++(p++q)).Perm all
 so:o.Pairwise λx y=>lt y x=false
 sp:p.Pairwise λx y=>lt y x=false
 sq:q.Pairwise λx y=>lt y x=false
 low:∀x∈o,∀y∈p++q,lt y x=false
theorem Mg.left{lt:aHy}{all o u p q:List Keyed}(M:Mg lt all o (u++p) q)(h:∀x∈u,∀y∈q,lt y x=false):Mg lt all (o++u) p q:=by
 have sp:=aFk.mp M.sp;refine⟨?_,aFk.mpr ⟨M.so,sp.1,λx hx y hy=>M.low x hx y (by simp[hy])⟩,sp.2.1,M.sq,λx hx y hy=>?_⟩
 ·have:=M.perm;simpa[List.append_assoc] using this
 ·rcases aFb.mp hx with hx | hx
  ·exact M.low x hx y (by rcases aFb.mp hy with z | z <;> simp[z])
  ·rcases aFb.mp hy with z | z
   ·exact sp.2.2 x hx y z
   ·exact h x hx y z
theorem Mg.right{lt:aHy}{all o u p q:List Keyed}(M:Mg lt all o p (u++q))(h:∀x∈u,∀y∈p,lt y x=false):Mg lt all (o++u) p q:=by
 have sq:=aFk.mp M.sq;refine⟨?_,aFk.mpr ⟨M.so,sq.1,λx hx y hy=>M.low x hx y (by simp[hy])⟩,M.sp,sq.2.1,λx hx y hy=>?_⟩
 ·refine List.Perm.trans ?_ M.perm;rw[List.append_assoc];refine aHe o ?_;rw[<-List.append_assoc,<-List.append_assoc];exact aHb q aHf
 ·rcases aFb.mp hx with hx | hx
  ·exact M.low x hx y (by rcases aFb.mp hy with z | z <;> simp[z])
  ·rcases aFb.mp hy with z | z
   ·exact h x hx y z
   ·exact sq.2.2 x hx y z
def Good(lt:aHy)(all r:List Keyed):Prop:=r.Perm all/\r.Pairwise λx y=>lt y x=false
theorem Mg.fin{lt:aHy}{all o p q:List Keyed}(M:Mg lt all o p q)(h:p=[]\/q=[]):Good lt all (o++(p++q)):=by
 refine⟨M.perm,aFk.mpr ⟨M.so,?_,M.low⟩⟩;rcases h with rfl | rfl
 ·simpa using M.sq
 ·simpa using M.sp
theorem Mg.aEo{lt:aHy}{all o q:List Keyed}{x:Keyed}(M:Mg lt all o [x] q)(h:∀y∈q,lt x y=false):Good lt all (o++(q++[x])):=by
 refine⟨(aHe o aHf).trans M.perm,aFk.mpr ⟨M.so,aFk.mpr ⟨M.sq,by simp,λa ha b hb=>?_⟩,λa ha b hb=>M.low a ha b ?_⟩⟩
 ·have:b=x:=by simpa using hb
  rw[this];exact h a ha
 ·rcases aFb.mp hb with z | z <;> simp[z] <;> simp_all
def oZ:Array Keyed->Array Keyed->StateT SortSt Sem (aI0):=sortPriv% PySem.Builtin.mergeLo
def eY(g:Nat):StateT SortSt Sem Unit:=modify λs=>SortSt.mk' (kindOf s) (arrOf s) (pendingOf s) g (failedOf s)
def dR(a b out:aI0)(ia ib:Nat):aI0:=out++a.extract ia a.size++b.extract ib b.size
def gI(a b out:aI0)(ia ib:Nat):aI0:=out++b.extract ib b.size++a.extract ia a.size
abbrev OD:=Option (aI0)×aI0×Nat×Nat×Nat×Nat×Nat
abbrev JS:=Option (aI0)×aI0×Nat×Nat×Nat×Nat
abbrev N4:=Option (aI0)×aI0×Nat×Nat×Nat
def lo4(a b:aI0)(mg ac bc:Nat)(out:aI0)(ia ib:Nat):StateT SortSt Sem (ForInStep OD):=do
 let y<-elem' a ia
 if (ia+1+1==a.size)=true then pure (.done (some (gI a b (out.push y) (ia+1) ib),out.push y,ia+1,ib,mg,ac,bc))
 else if (decide (ac<7) && decide (bc<7))=true then pure (.done (none,out.push y,ia+1,ib,mg,ac,bc)) else pure (.yield (none,out.push y,ia+1,ib,mg,ac,bc))
def lo3(a b:aI0)(mg ac bc:Nat)(out:aI0)(ia ib:Nat):StateT SortSt Sem (ForInStep OD):=do
 let x<-elem' a ia
 let r<-dI true x b ib (b.size-ib) 0
 match r with
 | some k=>if k > 0 then (if (ib+k==b.size)=true then pure (.done (some (dR a b (out++b.extract ib (ib+k)) ia (ib+k)),out++b.extract ib (ib+k),ia,ib+k,mg,ac,k)) else lo4 a b mg ac k (out++b.extract ib (ib+k)) ia (ib+k)) else lo4 a b mg ac k out ia ib
 | _=>pure (.done (some (dR a b out ia ib),out,ia,ib,mg,ac,bc))
def lo2(a b:aI0)(mg ac bc:Nat)(out:aI0)(ia ib:Nat):StateT SortSt Sem (ForInStep OD):=do
 let y<-elem' b ib
 if (ib+1==b.size)=true then pure (.done (some (dR a b (out.push y) ia (ib+1)),out.push y,ia,ib+1,mg,ac,bc)) else lo3 a b mg ac bc (out.push y) ia (ib+1)
def lo1(a b:aI0)(mg ac bc:Nat)(out:aI0)(ia ib:Nat):StateT SortSt Sem (ForInStep OD):=do
 eY mg
 let x<-elem' b ib
 let r<-dI false x a ia (a.size-ia) 0
 match r with
 | some k=>if k > 0 then (if (ia+k+1==a.size)=true then pure (.done (some (gI a b (out++a.extract ia (ia+k)) (ia+k) ib),out++a.extract ia (ia+k),ia+k,ib,mg,k,bc)) else
   if (ia+k==a.size)=true then pure (.done (some (dR a b (out++a.extract ia (ia+k)) (ia+k) ib),out++a.extract ia (ia+k),ia+k,ib,mg,k,bc)) else lo2 a b mg k bc (out++a.extract ia (ia+k)) (ia+k) ib) else lo2 a b mg k bc out ia ib
 | _=>pure (.done (some (dR a b out ia ib),out,ia,ib,mg,ac,bc))
def loB(a b:aI0)(mg:Nat)(c:JS):StateT SortSt Sem (ForInStep JS):=do
 let y<-elem' b c.snd.snd.snd.fst
 if (c.snd.snd.snd.fst+1==b.size)=true then pure (.done (some (dR a b (c.snd.fst.push y) c.snd.snd.fst (c.snd.snd.snd.fst+1)),c.snd.fst.push y,c.snd.snd.fst,c.snd.snd.snd.fst+1,0,c.snd.snd.snd.snd.snd+1))
 else if c.snd.snd.snd.snd.snd+1>=mg then pure (.done (none,c.snd.fst.push y,c.snd.snd.fst,c.snd.snd.snd.fst+1,0,c.snd.snd.snd.snd.snd+1))
 else pure (.yield (none,c.snd.fst.push y,c.snd.snd.fst,c.snd.snd.snd.fst+1,0,c.snd.snd.snd.snd.snd+1))
def loA(a b:aI0)(mg:Nat)(c:JS):StateT SortSt Sem (ForInStep JS):=do
 let x<-elem' a c.snd.snd.fst
 if (c.snd.snd.fst+1+1==a.size)=true then pure (.done (some (gI a b (c.snd.fst.push x) (c.snd.snd.fst+1) c.snd.snd.snd.fst),c.snd.fst.push x,c.snd.snd.fst+1,c.snd.snd.snd.fst,c.snd.snd.snd.snd.fst+1,0))
 else if c.snd.snd.snd.snd.fst+1>=mg then pure (.done (none,c.snd.fst.push x,c.snd.snd.fst+1,c.snd.snd.snd.fst,c.snd.snd.snd.snd.fst+1,0))
 else pure (.yield (none,c.snd.fst.push x,c.snd.snd.fst+1,c.snd.snd.snd.fst,c.snd.snd.snd.snd.fst+1,0))
def lo0(a b:aI0)(mg:Nat)(c:JS):StateT SortSt Sem (ForInStep JS):=do
 let y<-elem' b c.snd.snd.snd.fst
 let x<-elem' a c.snd.snd.fst
 let r<-lt' y x
 match r with
 | some bWins=>if bWins=true then loB a b mg c else loA a b mg c
 | _=>pure (.done (some (dR a b c.snd.fst c.snd.snd.fst c.snd.snd.snd.fst),c.snd.fst,c.snd.snd.fst,c.snd.snd.snd.fst,c.snd.snd.snd.snd.fst,c.snd.snd.snd.snd.snd))
def ED(a b:aI0)(c:N4):StateT SortSt Sem (ForInStep N4):=do
 let d<-forIn [:a.size+b.size] ((none,c.snd.fst,c.snd.snd.fst,c.snd.snd.snd.fst,0,0):JS) λ_ d=>lo0 a b c.snd.snd.snd.snd d
 match d.fst with
 | some r=>pure (.done (some r,d.snd.fst,d.snd.snd.fst,d.snd.snd.snd.fst,c.snd.snd.snd.snd))
 | none=>do
  liftM (rule "list.sort.gallop")
  let e<-forIn [:a.size+b.size] ((none,d.snd.fst,d.snd.snd.fst,d.snd.snd.snd.fst,c.snd.snd.snd.snd+1,d.snd.snd.snd.snd.fst,d.snd.snd.snd.snd.snd):OD) λ_ e=>
   if e.snd.snd.snd.snd.fst > 1 then lo1 a b (e.snd.snd.snd.snd.fst-1) e.snd.snd.snd.snd.snd.fst e.snd.snd.snd.snd.snd.snd e.snd.fst e.snd.snd.fst e.snd.snd.snd.fst else lo1 a b e.snd.snd.snd.snd.fst e.snd.snd.snd.snd.snd.fst e.snd.snd.snd.snd.snd.snd e.snd.fst e.snd.snd.fst e.snd.snd.snd.fst
  match e.fst with
  | some r=>pure (.done (some r,e.snd.fst,e.snd.snd.fst,e.snd.snd.snd.fst,e.snd.snd.snd.snd.fst))
  | none=>do
   eY (e.snd.snd.snd.snd.fst+1)
   pure (.yield (none,e.snd.fst,e.snd.snd.fst,e.snd.snd.snd.fst,e.snd.snd.snd.snd.fst+1))
theorem BN(a b:aI0):oZ a b=(do
 rule "list.sort.merge-lo"
 let total:=a.size+b.size;let mut out:aI0:= #[<-elem' b 0];let mut ia:=0;let mut ib:=1
 if ib==b.size then return dR a b out ia ib
 if ia+1==a.size then return gI a b out ia ib
 let mut minGallop:=gallopOf (<-get)
 for _ in [0:total] do
  let mut acount:=0;let mut bcount:=0
  for _ in [0:total] do
   let some bWins<-lt' (<-elem' b ib) (<-elem' a ia) | return dR a b out ia ib
   if bWins then
    out:=out.push (<-elem' b ib);ib:=ib+1;bcount:=bcount+1;acount:=0
    if ib==b.size then return dR a b out ia ib
    if bcount>=minGallop then break
   else
    out:=out.push (<-elem' a ia);ia:=ia+1;acount:=acount+1;bcount:=0
    if ia+1==a.size then return gI a b out ia ib
    if acount>=minGallop then break
  rule "list.sort.gallop"
  minGallop:=minGallop+1
  for _ in [0:total] do
   if minGallop > 1 then minGallop:=minGallop-1
   eY minGallop
   let some k<-dI false (<-elem' b ib) a ia (a.size-ia) 0 | return dR a b out ia ib
   acount:=k
   if k > 0 then
    out:=out++a.extract ia (ia+k);ia:=ia+k
    if ia+1==a.size then return gI a b out ia ib
    if ia==a.size then return dR a b out ia ib
   out:=out.push (<-elem' b ib);ib:=ib+1
   if ib==b.size then return dR a b out ia ib
   let some k<-dI true (<-elem' a ia) b ib (b.size-ib) 0 | return dR a b out ia ib
   bcount:=k
   if k > 0 then
    out:=out++b.extract ib (ib+k);ib:=ib+k
    if ib==b.size then return dR a b out ia ib
   out:=out.push (<-elem' a ia);ia:=ia+1
   if ia+1==a.size then return gI a b out ia ib
   if acount<7 && bcount<7 then break
  minGallop:=minGallop+1
  eY minGallop
 unsupported "internal:list.sort.merge-bound"):=rfl
theorem BM(a b:aI0):oZ a b=(do
 liftM (rule "list.sort.merge-lo")
 let y<-elem' b 0
 if (1==b.size)=true then pure (dR a b #[y] 0 1)
 else if (0+1==a.size)=true then pure (gI a b #[y] 0 1)
 else do
  let g<-get
  let c<-forIn [:a.size+b.size] ((none,#[y],0,1,gallopOf g):N4) λ_ c=>ED a b c
  match c.fst with
  | some r=>pure r
  | none=>unsupported "internal:list.sort.merge-bound"):=by
 rw[BN];refine aGf λu=>?_;refine aGf λy=>?_;refine aHu rfl (λ_=>rfl) (λ_=>?_);refine aHu rfl (λ_=>rfl) (λ_=>?_);refine aGf λg=>?_;have key:∀(f f' :Nat->N4->StateT SortSt Sem (ForInStep N4)) (k k' :N4->StateT SortSt Sem (aI0)) (i:N4),f=f' ->k=k' ->(forIn [:a.size+b.size] i f >>=k)=(forIn [:a.size+b.size] i f' >>=k'):=λf f' k k' i h1 h2=>by rw[h1,h2]
 refine key _ _ _ _ _ (funext λx=>funext λc=>?_) ?_
 ·have key2:∀(f f' :Nat->JS->StateT SortSt Sem (ForInStep JS)) (k k' :JS->StateT SortSt Sem (ForInStep N4)) (i:JS),f=f' ->k=k' ->(forIn [:a.size+b.size] i f >>=k)=(forIn [:a.size+b.size] i f' >>=k'):=λf f' k k' i h1 h2=>by rw[h1,h2]
  refine key2 _ _ _ _ _ (funext λx=>funext λd=>?_) (funext λd=>?_)
  ·rfl
  ·obtain⟨d0,d1⟩:=d
   cases d0 with
   | some r=>rfl
   | none=>
    refine aGf λv=>?_;have key3:∀(f f' :Nat->OD->StateT SortSt Sem (ForInStep OD)) (k k' :OD->StateT SortSt Sem (ForInStep N4)) (i:OD),f=f' ->k=k' ->(forIn [:a.size+b.size] i f >>=k)=(forIn [:a.size+b.size] i f' >>=k'):=λf f' k k' i h1 h2=>by rw[h1,h2]
    refine key3 _ _ _ _ _ (funext λx=>funext λe=>?_) (funext λe=>?_)
    ·refine aHu rfl (λ_=>?_) (λ_=>?_)
     ·rfl
     ·rfl
    ·obtain⟨e0,e1⟩:=e;cases e0 <;> rfl
 ·funext c;obtain⟨c0,c1⟩:=c;cases c0 <;> rfl
def bQ(s t:SortSt):Prop:=kindOf t=kindOf s/\arrOf t=arrOf s/\pendingOf t=pendingOf s/\failedOf t=failedOf s
theorem bQ.refl(s:SortSt):bQ s s:=⟨rfl,rfl,rfl,rfl⟩
theorem bQ.trans{a b c:SortSt}(h:bQ a b)(h' :bQ b c):bQ a c:=⟨h'.1.trans h.1,h'.2.1.trans h.2.1,h'.2.2.1.trans h.2.2.1,h'.2.2.2.trans h.2.2.2⟩
theorem pN{a:aI0}{i:Nat}(h:i<a.size):a.toList.drop i=aN a i::a.toList.drop (i+1):=by
 have hl:i<a.toList.length:=by simpa using h
 rw[List.drop_eq_getElem_cons hl]
 have e:aN a i=a.toList[i]:=by
  have:=fU h;rw[getElem?_pos a i h]at this;have:=aFl this;rw[<-this];simp
 rw[e]
theorem dH{a:aI0}{i:Nat}(h:i<a.size):aN a i∈a.toList:=by
 have:=pN h;exact List.mem_of_mem_drop (i:=i) (by rw[this];exact aF8)
theorem cZ{a:aI0}{i:Nat}{x:Keyed}(h:x∈a.toList.drop i):∃j,i<=j/\j<a.size/\x=aN a j:=by
 obtain⟨n,hn,e⟩:=List.getElem_of_mem h;simp only[List.length_drop,Array.length_toList]at hn;refine⟨i+n,by lia,by lia,?_⟩
 have e2:aN a (i+n)=a.toList[i+n]'(by simp;lia):=by
  have:=fU (xs:=a) (i:=i+n) (by lia);rw[getElem?_pos a (i+n) (by lia)]at this;have:=aFl this;rw[<-this];simp
 rw[e2,<-e];simp
theorem CK{a:aI0}{i k:Nat}:(a.extract i (i+k)).toList=(a.toList.drop i).take k:=by
 rw[Array.toList_extract,List.extract_eq_take_drop];congr 1;lia
theorem i4{a:aI0}{i k:Nat}{x:Keyed}(h:x∈(a.toList.drop i).take k):∃j,j<k/\i+j<a.size/\x=aN a (i+j):=by
 obtain⟨n,hn,e⟩:=List.getElem_of_mem h;simp only[List.length_take,List.length_drop,Array.length_toList]at hn;refine⟨n,by lia,by lia,?_⟩
 have e2:aN a (i+n)=a.toList[i+n]'(by simp;lia):=by
  have:=fU (xs:=a) (i:=i+n) (by lia);rw[getElem?_pos a (i+n) (by lia)]at this;have:=aFl this;rw[<-this];simp
 rw[e2,<-e];simp
theorem aY{lt:aHy}(O:Wk lt){a:aI0}(h:a.toList.Pairwise λx y=>lt y x=false):∀p q,p<=q->q<a.size->lt (aN a q) (aN a p)=false:=by
 intro p q hpq hq;by_cases e:p=q
 ·subst e;exact O.IU _
 ·rw[List.pairwise_iff_getElem]at h;have:=h p q (by simp;lia) (by simpa using hq) (by lia)
  have e2:∀i (hi:i<a.size),aN a i=a.toList[i]'(by simpa using hi):=λi hi=>by
   have:=fU (xs:=a) (i:=i) hi;rw[getElem?_pos a i hi]at this;have:=aFl this;rw[<-this];simp
  rw[e2 p (by lia),e2 q hq];exact this
theorem uX(a b out:aI0)(ia ib:Nat):(dR a b out ia ib).toList=out.toList++(a.toList.drop ia++b.toList.drop ib):=by
 unfold dR;simp only[Array.toList_append,Array.toList_extract,List.extract_eq_take_drop,List.append_assoc];rw[List.take_of_length_le (by simp),List.take_of_length_le (by simp)]
theorem CL(a b out:aI0)(ia ib:Nat):(gI a b out ia ib).toList=out.toList++(b.toList.drop ib++a.toList.drop ia):=by
 unfold gI;simp only[Array.toList_append,Array.toList_extract,List.extract_eq_take_drop,List.append_assoc];rw[List.take_of_length_le (by simp),List.take_of_length_le (by simp)]
section
variable {prog:Program}{w:World}{A:Around}{E:aHx}{s:Shared}{a₀ a b:aI0}{κ:SortKind}{lt:aHy}
structure DA(lt:aHy)(a₀ a b:aI0):Prop where
 ma:∀x∈a.toList,x∈a₀.toList
 mb:∀x∈b.toList,x∈a₀.toList
 sa:a.toList.Pairwise λx y=>lt y x=false
 sb:b.toList.Pairwise λx y=>lt y x=false
 pa:1<=a.size
 pb:1<=b.size
 first:∀x∈a.toList,lt x (aN b 0)=false
 last:∀y∈b.toList,lt (aN a (a.size-1)) y=false
abbrev pY(lt:aHy)(a b out:aI0)(ia ib:Nat):Prop:=Mg lt (a.toList++b.toList) out.toList (a.toList.drop ia) (b.toList.drop ib)
theorem pY.wN(O:Wk lt){a b out:aI0}{ia ib:Nat}(M:pY lt a b out ia ib)(hb:ib<b.size)(h:∀z∈a.toList.drop ia,lt z (aN b ib)=false):pY lt a b (out.push (aN b ib)) ia (ib+1):=by
 unfold pY at*;rw[pN hb]at M;have:=Mg.right (u:=[aN b ib]) M (by simpa using h);simpa using this
theorem pY.wO(O:Wk lt){a b out:aI0}{ia ib:Nat}(M:pY lt a b out ia ib)(ha:ia<a.size)(h:∀z∈b.toList.drop ib,lt z (aN a ia)=false):pY lt a b (out.push (aN a ia)) (ia+1) ib:=by
 unfold pY at*;rw[pN ha]at M;have:=Mg.left (u:=[aN a ia]) M (by simpa using h);simpa using this
theorem pY.L5{a b out:aI0}{ia ib k:Nat}(M:pY lt a b out ia ib)(h:∀x∈(a.toList.drop ia).take k,∀y∈b.toList.drop ib,lt y x=false):pY lt a b (out++a.extract ia (ia+k)) (ia+k) ib:=by
 unfold pY at*;rw[<-List.take_append_drop k (a.toList.drop ia),List.drop_drop]at M;have:=Mg.left M h;rw[Array.toList_append,CK];exact this
theorem pY.L4{a b out:aI0}{ia ib k:Nat}(M:pY lt a b out ia ib)(h:∀x∈(b.toList.drop ib).take k,∀y∈a.toList.drop ia,lt y x=false):pY lt a b (out++b.extract ib (ib+k)) ia (ib+k):=by
 unfold pY at*;rw[<-List.take_append_drop k (b.toList.drop ib),List.drop_drop]at M;have:=Mg.right M h;rw[Array.toList_append,CK];exact this
theorem pY.zG{a b out:aI0}{ia ib:Nat}(M:pY lt a b out ia ib)(h:ib=b.size):Good lt (a.toList++b.toList) (dR a b out ia ib).toList:=by
 rw[uX];exact Mg.fin M (.inr (by rw[h];simp))
theorem pY.E1{a b out:aI0}{ia ib:Nat}(M:pY lt a b out ia ib)(h:ia=a.size):Good lt (a.toList++b.toList) (dR a b out ia ib).toList:=by
 rw[uX];exact Mg.fin M (.inl (by rw[h];simp))
theorem pY.GO(T:DA lt a₀ a b){out:aI0}{ia ib:Nat}(M:pY lt a b out ia ib)(h:ia+1=a.size):Good lt (a.toList++b.toList) (gI a b out ia ib).toList:=by
 rw[CL];unfold pY at M
 have e:a.toList.drop ia=[aN a ia]:=by
  rw[pN (by lia),List.drop_of_length_le (by simp;lia)]
 rw[e]at M⊢;refine Mg.aEo M λy hy=>?_;have:=T.last y (List.mem_of_mem_drop hy)
 rwa [show a.size-1=ia by lia]at this
structure J(lt:aHy)(a b out:aI0)(ia ib:Nat):Prop where
 m:pY lt a b out ia ib
 ha:ia+1<a.size
 hb:ib<b.size
 n:out.size=ia+ib
def After(lt:aHy)(a b:aI0)(n:Nat){γ:Type}(c:Option (aI0)×aI0×Nat×Nat×γ):Prop:=
 (∃r,c.1=some r/\Good lt (a.toList++b.toList) r.toList)\/(c.1=none/\J lt a b c.2.1 c.2.2.1 c.2.2.2.1/\n<=c.2.1.size)
def m4(lt:aHy)(a b:aI0)(n:Nat){γ:Type}(st:SortSt)(r:ForInStep (Option (aI0)×aI0×Nat×Nat×γ))(st' :SortSt):Prop:=
 bQ st st' /\match r with | .done c=>After lt a b n c | .yield c=>c.1=none/\After lt a b n c
theorem Y0(O:Wk lt)(T:DA lt a₀ a b){st:SortSt}{mg ac bc:Nat}{out:aI0}{ia ib n:Nat}(M:pY lt a b out ia ib)(ha:ia+1<a.size)(hb:ib<b.size)(hn:out.size=ia+ib)(hn2:n<=out.size+1)(h:∀z∈b.toList.drop ib,lt z (aN a ia)=false):
  wpS (model prog w) A E s (lo4 a b mg ac bc out ia ib) (m4 lt a b n st) st:=by
 unfold lo4;refine aFe (cR (by lia) ?_);have M2:=M.wO O (by lia) h;by_cases c:ia+1+1=a.size
 ·rw[if_pos (by simp[c])];exact aFh ⟨bQ.refl _,.inl ⟨_,rfl,M2.GO T c⟩⟩
 ·rw[if_neg (by simp[c])]
  have j:J lt a b (out.push (aN a ia)) (ia+1) ib:=⟨M2,by lia,hb,by simp;lia⟩
  split
  ·exact aFh ⟨bQ.refl _,.inr ⟨rfl,j,by simpa using hn2⟩⟩
  ·exact aFh ⟨bQ.refl _,rfl,.inr ⟨rfl,j,by simpa using hn2⟩⟩
theorem aCo(O:Wk lt)(C:l6 prog w A s κ lt a₀)(T:DA lt a₀ a b){st:SortSt}{mg ac bc:Nat}{out:aI0}{ia ib n:Nat}(hk:kindOf st=κ)(M:pY lt a b out ia ib)(ha:ia+1<a.size)(hb:ib<b.size)(hn:out.size=ia+ib)(hn2:n<=out.size+1):
  wpS (model prog w) A E s (lo3 a b mg ac bc out ia ib) (m4 lt a b n st) st:=by
 unfold lo3;have sga:=aY O T.sa;have sgb:=aY O T.sb;refine aFe (cR (by lia) ?_);refine aFe (lK O C hk (by lia) (by lia) (λp q h1 h2 h3=>sgb p q h2 (by lia)) (λi hi=>T.mb _ (dH (by lia))) (T.ma _ (dH (by lia))) λk hk1 h1 h2=>?_)
 have key:∀z∈a.toList.drop ia,lt z (aN a ia)=false:=λz hz=>by
  obtain⟨j,hj1,hj2,rfl⟩:=cZ hz;exact sga _ _ hj1 hj2
 have b1:∀x∈(b.toList.drop ib).take k,∀y∈a.toList.drop ia,lt y x=false:=λx hx y hy=>by
  obtain⟨j,hj1,hj2,rfl⟩:=i4 hx;have e:=h1 j hj1;simp only[jC,if_true]at e;exact O.tr _ _ _ (O.qS _ _ e) (key y hy)
 have b2:∀z∈b.toList.drop (ib+k),lt z (aN a ia)=false:=λz hz=>by
  obtain⟨j,hj1,hj2,rfl⟩:=cZ hz;have e:=h2 (j-ib) (by lia) (by lia);simp only[jC,if_true]at e
  rwa [show ib+(j-ib)=j by lia]at e
 dsimp only;by_cases c:k > 0
 ·rw[if_pos c];have M2:=M.L4 b1;by_cases c2:ib+k=b.size
  ·rw[if_pos (by simp[c2])];exact aFh ⟨bQ.refl _,.inl ⟨_,rfl,M2.zG c2⟩⟩
  ·rw[if_neg (by simp[c2])];have sz:(b.extract ib (ib+k)).size=k:=by rw[Array.size_extract];lia
   exact Y0 O T M2 ha (by lia) (by rw[Array.size_append,sz];lia) (by rw[Array.size_append,sz];lia) b2
 ·obtain rfl:k=0:=by lia
  rw[if_neg (by lia)];exact Y0 O T M ha hb hn hn2 b2
theorem Y1(O:Wk lt)(C:l6 prog w A s κ lt a₀)(T:DA lt a₀ a b){st:SortSt}{mg ac bc:Nat}{out:aI0}{ia ib n:Nat}(hk:kindOf st=κ)(M:pY lt a b out ia ib)(ha:ia+1<a.size)(hb:ib<b.size)(hn:out.size=ia+ib)(hn2:n<=out.size+1)(h:∀z∈a.toList.drop ia,lt z (aN b ib)=false):
  wpS (model prog w) A E s (lo2 a b mg ac bc out ia ib) (m4 lt a b n st) st:=by
 unfold lo2;refine aFe (cR (by lia) ?_);have M2:=M.wN O hb h;by_cases c:ib+1=b.size
 ·rw[if_pos (by simp[c])];exact aFh ⟨bQ.refl _,.inl ⟨_,rfl,M2.zG c⟩⟩
 ·rw[if_neg (by simp[c])];exact aCo O C T hk M2 ha (by lia) (by simp;lia) (by simp;lia)
theorem sE{st:SortSt}{g:Nat}{Q:Unit->SortSt->Prop}(h:∀st',bQ st st' ->Q () st'):wpS (model prog w) A E s (eY g) Q st:=by
 unfold eY;exact wpS_modify (h _ ⟨rfl,rfl,rfl,rfl⟩)
theorem DN{n:Nat}{γ:Type}{st st1 st2:SortSt}{r:ForInStep (Option (aI0)×aI0×Nat×Nat×γ)}{a b:aI0}(h:bQ st st1)(q:m4 lt a b n st1 r st2):m4 lt a b n st r st2:=⟨h.trans q.1,q.2⟩
theorem Y2(O:Wk lt)(C:l6 prog w A s κ lt a₀)(T:DA lt a₀ a b){st:SortSt}{mg ac bc:Nat}{out:aI0}{ia ib n:Nat}(hk:kindOf st=κ)(j:J lt a b out ia ib)(hn2:n<=out.size+1):
  wpS (model prog w) A E s (lo1 a b mg ac bc out ia ib) (m4 lt a b n st) st:=by
 unfold lo1;obtain⟨M,ha,hb,hn⟩:=j;have sga:=aY O T.sa;have sgb:=aY O T.sb;refine aFe (sE λst1 same=>?_);refine aH1 ?_ λr st2 q=>DN same q;have hk1:kindOf st1=κ:=same.1.trans hk;refine aFe (cR (by lia) ?_);refine aFe (lK O C hk1 (by lia) (by lia) (λp q h1 h2 h3=>sga p q h2 (by lia)) (λi hi=>T.ma _ (dH (by lia))) (T.mb _ (dH (by lia))) λk hk2 h1 h2=>?_)
 have key:∀z∈b.toList.drop ib,lt z (aN b ib)=false:=λz hz=>by
  obtain⟨j,hj1,hj2,rfl⟩:=cZ hz;exact sgb _ _ hj1 hj2
 have b1:∀x∈(a.toList.drop ia).take k,∀y∈b.toList.drop ib,lt y x=false:=λx hx y hy=>by
  obtain⟨j,hj1,hj2,rfl⟩:=i4 hx;have e:=h1 j hj1;simp only[jC,Bool.false_eq_true,if_false,Bool.not_eq_true']at e;exact O.tr _ _ _ e (key y hy)
 have b2:∀z∈a.toList.drop (ia+k),lt z (aN b ib)=false:=λz hz=>by
  obtain⟨j,hj1,hj2,rfl⟩:=cZ hz;have e:=h2 (j-ia) (by lia) (by lia);simp only[jC,Bool.false_eq_true,if_false,Bool.not_eq_false']at e;rw[show ia+(j-ia)=j by lia]at e;exact O.qS _ _ e
 dsimp only;by_cases c:k > 0
 ·rw[if_pos c];have M2:=M.L5 b1;by_cases c1:ia+k+1=a.size
  ·rw[if_pos (by simp[c1])];exact aFh ⟨bQ.refl _,.inl ⟨_,rfl,M2.GO T c1⟩⟩
  ·rw[if_neg (by simp[c1])];by_cases c2:ia+k=a.size
   ·rw[if_pos (by simp[c2])];exact aFh ⟨bQ.refl _,.inl ⟨_,rfl,M2.E1 c2⟩⟩
   ·rw[if_neg (by simp[c2])];have sz:(a.extract ia (ia+k)).size=k:=by rw[Array.size_extract];lia
    exact Y1 O C T hk1 M2 (by lia) hb (by rw[Array.size_append,sz];lia) (by rw[Array.size_append,sz];lia) b2
 ·obtain rfl:k=0:=by lia
  rw[if_neg (by lia)];exact Y1 O C T hk1 M ha hb hn hn2 b2
theorem aCp(O:Wk lt)(C:l6 prog w A s κ lt a₀)(T:DA lt a₀ a b){st:SortSt}{mg:Nat}{c:JS}{n:Nat}(hk:kindOf st=κ)(j:J lt a b c.2.1 c.2.2.1 c.2.2.2.1)(hn2:n<=c.2.1.size+1):
  wpS (model prog w) A E s (lo0 a b mg c) (m4 lt a b n st) st:=by
 obtain⟨M,ha,hb,hn⟩:=j;have sga:=aY O T.sa;have sgb:=aY O T.sb;unfold lo0;refine aFe (cR hb ?_);refine aFe (cR (by lia) ?_);refine aFe (YZ C hk (T.mb _ (dH hb)) (T.ma _ (dH (by lia))) ?_);dsimp only
 cases hlt:lt (aN b c.2.2.2.1) (aN a c.2.2.1) with
 | true=>
  rw[if_pos rfl];unfold loB;refine aFe (cR hb ?_)
  have M2:=M.wN O hb λz hz=>by
   obtain⟨j,hj1,hj2,rfl⟩:=cZ hz;exact O.tr _ _ _ (O.qS _ _ hlt) (sga _ _ hj1 hj2)
  by_cases c1:c.2.2.2.1+1=b.size
  ·rw[if_pos (by simpa using c1)];exact aFh ⟨bQ.refl _,.inl ⟨_,rfl,M2.zG c1⟩⟩
  ·rw[if_neg (by simpa using c1)]
   have j2:J lt a b (c.2.1.push (aN b c.2.2.2.1)) c.2.2.1 (c.2.2.2.1+1):=⟨M2,ha,by lia,by simp;lia⟩
   split
   ·exact aFh ⟨bQ.refl _,.inr ⟨rfl,j2,by simpa using hn2⟩⟩
   ·exact aFh ⟨bQ.refl _,rfl,.inr ⟨rfl,j2,by simpa using hn2⟩⟩
 | false=>
  rw[if_neg Bool.false_ne_true];unfold loA;refine aFe (cR (by lia) ?_)
  have M2:=M.wO O (by lia) λz hz=>by
   obtain⟨j,hj1,hj2,rfl⟩:=cZ hz;exact O.tr _ _ _ hlt (sgb _ _ hj1 hj2)
  by_cases c1:c.2.2.1+1+1=a.size
  ·rw[if_pos (by simpa using c1)];exact aFh ⟨bQ.refl _,.inl ⟨_,rfl,M2.GO T c1⟩⟩
  ·rw[if_neg (by simpa using c1)]
   have j2:J lt a b (c.2.1.push (aN a c.2.2.1)) (c.2.2.1+1) c.2.2.2.1:=⟨M2,by lia,hb,by simp;lia⟩
   split
   ·exact aFh ⟨bQ.refl _,.inr ⟨rfl,j2,by simpa using hn2⟩⟩
   ·exact aFh ⟨bQ.refl _,rfl,.inr ⟨rfl,j2,by simpa using hn2⟩⟩
theorem DE{γ:Type}{a b:aI0}{f:Nat->(Option (aI0)×aI0×Nat×Nat×γ)->StateT SortSt Sem (ForInStep (Option (aI0)×aI0×Nat×Nat×γ))}{c:Option (aI0)×aI0×Nat×Nat×γ}{st:SortSt}{Q:(Option (aI0)×aI0×Nat×Nat×γ)->SortSt->Prop}(Dn:(Option (aI0)×aI0×Nat×Nat×γ)->Prop)(n:Nat)
  (hc:c.1=none) (j:J lt a b c.2.1 c.2.2.1 c.2.2.2.1) (hn:n=c.2.1.size)
  (step:∀i c' st',bQ st st' ->c'.1=none->J lt a b c'.2.1 c'.2.2.1 c'.2.2.2.1->n+i<=c'.2.1.size->wpS (model prog w) A E s (f i c') (λr st2=>m4 lt a b (c'.2.1.size+1) st' r st2/\∀c2,r= .done c2->Dn c2) st')
  (h:∀c' st',bQ st st' ->Dn c' ->After lt a b (n+1) c' ->Q c' st'):wpS (model prog w) A E s (forIn [:a.size+b.size] c f) Q st:=by
 refine aGo (I:=λi c' st' =>bQ st st' /\c'.1=none/\J lt a b c'.2.1 c'.2.2.1 c'.2.2.2.1/\n+i<=c'.2.1.size) ?_ ?_ ⟨bQ.refl _,hc,j,by lia⟩
 ·rintro i c' st' _ hi ⟨sm,h1,h2,h3⟩;refine aH1 (step i c' st' sm h1 h2 h3) λr st2 q=>?_;obtain⟨⟨q1,q2⟩,dn⟩:=q
  cases r with
  | done c2=>
   refine h c2 st2 (sm.trans q1) (dn c2 rfl) ?_;rcases q2 with q2 | ⟨z1,z2,z3⟩
   ·exact .inl q2
   ·exact .inr ⟨z1,z2,by lia⟩
  | yield c2=>
   obtain⟨z0,z | ⟨z1,z2,z3⟩⟩:=q2
   ·obtain⟨r,e,_⟩:=z;rw[z0]at e;cases e
   ·exact⟨sm.trans q1,z1,z2,by lia⟩
 ·rintro c' st' ⟨_,_,h2,h3⟩;exfalso;have:=h2.n;have:=h2.ha;have:=h2.hb;simp at h3
  lia
end
section
variable {prog:Program}{w:World}{A:Around}{E:aHx}{s:Shared}{a₀ a b:aI0}{κ:SortKind}{lt:aHy}
theorem OL(O:Wk lt)(C:l6 prog w A s κ lt a₀)(T:DA lt a₀ a b){st:SortSt}{c:N4}(hk:kindOf st=κ)(j:J lt a b c.2.1 c.2.2.1 c.2.2.2.1):
  wpS (model prog w) A E s (ED a b c) (λr st2=>m4 lt a b (c.2.1.size+1) st r st2/\∀c2,r= .done c2->∃x,c2.1=some x) st:=by
 unfold ED;refine aFe (DE (lt:=lt) (c:=((none,c.snd.fst,c.snd.snd.fst,c.snd.snd.snd.fst,0,0):JS)) (λ_=>True) c.2.1.size rfl j rfl (λi c' st' sm _ j' _=>aH1 (aCp O C T (sm.1.trans hk) j' (aF9 _)) λ_ _ q=>⟨q,λ_ _=>trivial⟩) λd st1 sm1 _ af=>?_);obtain⟨d0,d1⟩:=d
 rcases af with ⟨r,hr,g⟩ | ⟨hr,j1,n1⟩
 ·dsimp only at hr;subst hr;exact aFh ⟨⟨sm1,.inl ⟨r,rfl,g⟩⟩,λc2 e=>by cases e;exact⟨r,rfl⟩⟩
 ·dsimp only at hr j1 n1;subst hr;dsimp only;refine aFe (wpS_lift (aGc ⟨rfl,?_⟩));refine aFe (DE (lt:=lt) (c:=((none,d1.fst,d1.snd.fst,d1.snd.snd.fst,c.snd.snd.snd.snd+1,d1.snd.snd.snd.fst,d1.snd.snd.snd.snd):OD)) (λ_=>True) d1.1.size rfl j1 rfl (λi c' st' sm _ j' _=>aH1 (Q:=m4 lt a b (c'.2.1.size+1) st') ?_ λ_ _ q=>⟨q,λ_ _=>trivial⟩) λe st2 sm2 _ af2=>?_)
  ·split
   ·exact Y2 O C T (sm.1.trans (sm1.1.trans hk)) j' (aF9 _)
   ·exact Y2 O C T (sm.1.trans (sm1.1.trans hk)) j' (aF9 _)
  ·obtain⟨e0,e1⟩:=e
   rcases af2 with ⟨r,hr,g⟩ | ⟨hr,j2,n2⟩
   ·dsimp only at hr;subst hr;exact aFh ⟨⟨sm1.trans sm2,.inl ⟨r,rfl,g⟩⟩,λc2 e=>by cases e;exact⟨r,rfl⟩⟩
   ·dsimp only at hr j2 n2;subst hr;dsimp only;refine aFe (sE λst3 sm3=>?_);exact aFh ⟨⟨(sm1.trans sm2).trans sm3,rfl,.inr ⟨rfl,j2,by dsimp only;lia⟩⟩,λc2 e=>by cases e⟩
theorem J5(O:Wk lt)(C:l6 prog w A s κ lt a₀)(T:DA lt a₀ a b){st:SortSt}{Q:Array Keyed->SortSt->Prop}(hk:kindOf st=κ)
  (h:∀r st',bQ st st' ->Good lt (a.toList++b.toList) r.toList->Q r st'):wpS (model prog w) A E s (oZ a b) Q st:=by
 rw[BM];have pa:=T.pa;have pb:=T.pb;refine aFe (wpS_lift (aGc ⟨rfl,?_⟩));refine aFe (cR (by lia) ?_)
 have M0:pY lt a b #[] 0 0:=⟨by simp,by simp,by simpa using T.sa,by simpa using T.sb,by simp⟩
 have M1:pY lt a b #[aN b 0] 0 1:=by
  have:=M0.wN O (by lia) λz hz=>T.first z (by simpa using hz);simpa using this
 by_cases c1:1=b.size
 ·rw[if_pos (by simp[c1])];exact aFh (h _ _ (bQ.refl _) (M1.zG c1))
 ·rw[if_neg (by simpa using c1)];by_cases c2:0+1=a.size
  ·rw[if_pos (by simpa using c2)];exact aFh (h _ _ (bQ.refl _) (M1.GO T c2))
  ·rw[if_neg (by simpa using c2)];refine aFe (wpS_get ?_)
   have j:J lt a b #[aN b 0] 0 1:=⟨M1,by lia,by lia,by simp⟩
   refine aFe (DE (lt:=lt) (c:=((none,#[aN b 0],0,1,gallopOf st):N4)) (λc=>∃x,c.1=some x) 1 rfl j rfl (λi c' st' sm _ j' _=>OL O C T (sm.1.trans hk) j') λd st1 sm1 dn af=>?_);obtain⟨d0,d1⟩:=d;obtain⟨x,e⟩:=dn;dsimp only at e;subst e
   rcases af with ⟨r,hr,g⟩ | ⟨hr,_⟩
   ·dsimp only at hr;cases hr;exact aFh (h x st1 sm1 g)
   ·cases hr
end
def o7:Array Keyed->Array Keyed->StateT SortSt Sem (aI0):=sortPriv% PySem.Builtin.mergeHi
def eG(a b out:aI0)(na nb:Nat):aI0:=a.extract 0 na++b.extract 0 nb++out.reverse
def gJ(a b out:aI0)(na nb:Nat):aI0:=b.extract 0 nb++a.extract 0 na++out.reverse
abbrev OF:=Option (aI0)×Nat×Nat×aI0×Nat×Nat×Nat
abbrev JU:=Option (aI0)×Nat×Nat×aI0×Nat×Nat
abbrev N7:=Option (aI0)×Nat×Nat×aI0×Nat
def hi4(a b:aI0)(mg ac bc:Nat)(out:aI0)(na nb:Nat):StateT SortSt Sem (ForInStep OF):=do
 let y<-elem' a (na-1)
 if (na-1==0)=true then pure (.done (some (eG a b (out.push y) (na-1) nb),na-1,nb,out.push y,mg,ac,bc))
 else if (decide (ac<7) && decide (bc<7))=true then pure (.done (none,na-1,nb,out.push y,mg,ac,bc)) else pure (.yield (none,na-1,nb,out.push y,mg,ac,bc))
def hi3(a b:aI0)(mg ac bc:Nat)(out:aI0)(na nb:Nat):StateT SortSt Sem (ForInStep OF):=do
 let x<-elem' a (na-1)
 let r<-dI true x b 0 nb (nb-1)
 match r with
 | some k=>if nb-k > 0 then (if (k==1)=true then pure (.done (some (gJ a b (out++(b.extract k nb).reverse) na k),na,k,out++(b.extract k nb).reverse,mg,ac,nb-k)) else
   if (k==0)=true then pure (.done (some (eG a b (out++(b.extract k nb).reverse) na k),na,k,out++(b.extract k nb).reverse,mg,ac,nb-k)) else hi4 a b mg ac (nb-k) (out++(b.extract k nb).reverse) na k) else hi4 a b mg ac (nb-k) out na nb
 | _=>pure (.done (some (eG a b out na nb),na,nb,out,mg,ac,bc))
def Q9(a b:aI0)(mg ac bc:Nat)(out:aI0)(na nb:Nat):StateT SortSt Sem (ForInStep OF):=do
 let y<-elem' b (nb-1)
 if (nb-1==1)=true then pure (.done (some (gJ a b (out.push y) na (nb-1)),na,nb-1,out.push y,mg,ac,bc)) else hi3 a b mg ac bc (out.push y) na (nb-1)
def hi1(a b:aI0)(mg ac bc:Nat)(out:aI0)(na nb:Nat):StateT SortSt Sem (ForInStep OF):=do
 eY mg
 let x<-elem' b (nb-1)
 let r<-dI false x a 0 na (na-1)
 match r with
 | some k=>if na-k > 0 then (if (k==0)=true then pure (.done (some (eG a b (out++(a.extract k na).reverse) k nb),k,nb,out++(a.extract k na).reverse,mg,na-k,bc)) else Q9 a b mg (na-k) bc (out++(a.extract k na).reverse) k nb) else Q9 a b mg (na-k) bc out na nb
 | _=>pure (.done (some (eG a b out na nb),na,nb,out,mg,ac,bc))
def hiA(a b:aI0)(mg:Nat)(c:JU):StateT SortSt Sem (ForInStep JU):=do
 let y<-elem' a (c.snd.fst-1)
 if (c.snd.fst-1==0)=true then pure (.done (some (eG a b (c.snd.snd.snd.fst.push y) (c.snd.fst-1) c.snd.snd.fst),c.snd.fst-1,c.snd.snd.fst,c.snd.snd.snd.fst.push y,c.snd.snd.snd.snd.fst+1,0))
 else if c.snd.snd.snd.snd.fst+1>=mg then pure (.done (none,c.snd.fst-1,c.snd.snd.fst,c.snd.snd.snd.fst.push y,c.snd.snd.snd.snd.fst+1,0))
 else pure (.yield (none,c.snd.fst-1,c.snd.snd.fst,c.snd.snd.snd.fst.push y,c.snd.snd.snd.snd.fst+1,0))
def hiB(a b:aI0)(mg:Nat)(c:JU):StateT SortSt Sem (ForInStep JU):=do
 let x<-elem' b (c.snd.snd.fst-1)
 if (c.snd.snd.fst-1==1)=true then pure (.done (some (gJ a b (c.snd.snd.snd.fst.push x) c.snd.fst (c.snd.snd.fst-1)),c.snd.fst,c.snd.snd.fst-1,c.snd.snd.snd.fst.push x,0,c.snd.snd.snd.snd.snd+1))
 else if c.snd.snd.snd.snd.snd+1>=mg then pure (.done (none,c.snd.fst,c.snd.snd.fst-1,c.snd.snd.snd.fst.push x,0,c.snd.snd.snd.snd.snd+1))
 else pure (.yield (none,c.snd.fst,c.snd.snd.fst-1,c.snd.snd.snd.fst.push x,0,c.snd.snd.snd.snd.snd+1))
def hi0(a b:aI0)(mg:Nat)(c:JU):StateT SortSt Sem (ForInStep JU):=do
 let y<-elem' b (c.snd.snd.fst-1)
 let x<-elem' a (c.snd.fst-1)
 let r<-lt' y x
 match r with
 | some aWins=>if aWins=true then hiA a b mg c else hiB a b mg c
 | _=>pure (.done (some (eG a b c.snd.snd.snd.fst c.snd.fst c.snd.snd.fst),c.snd.fst,c.snd.snd.fst,c.snd.snd.snd.fst,c.snd.snd.snd.snd.fst,c.snd.snd.snd.snd.snd))
def ES(a b:aI0)(c:N7):StateT SortSt Sem (ForInStep N7):=do
 let d<-forIn [:a.size+b.size] ((none,c.snd.fst,c.snd.snd.fst,c.snd.snd.snd.fst,0,0):JU) λ_ d=>hi0 a b c.snd.snd.snd.snd d
 match d.fst with
 | some r=>pure (.done (some r,d.snd.fst,d.snd.snd.fst,d.snd.snd.snd.fst,c.snd.snd.snd.snd))
 | none=>do
  liftM (rule "list.sort.gallop")
  let e<-forIn [:a.size+b.size] ((none,d.snd.fst,d.snd.snd.fst,d.snd.snd.snd.fst,c.snd.snd.snd.snd+1,d.snd.snd.snd.snd.fst,d.snd.snd.snd.snd.snd):OF) λ_ e=>
   if e.snd.snd.snd.snd.fst > 1 then hi1 a b (e.snd.snd.snd.snd.fst-1) e.snd.snd.snd.snd.snd.fst e.snd.snd.snd.snd.snd.snd e.snd.snd.snd.fst e.snd.fst e.snd.snd.fst else hi1 a b e.snd.snd.snd.snd.fst e.snd.snd.snd.snd.snd.fst e.snd.snd.snd.snd.snd.snd e.snd.snd.snd.fst e.snd.fst e.snd.snd.fst
  match e.fst with
  | some r=>pure (.done (some r,e.snd.fst,e.snd.snd.fst,e.snd.snd.snd.fst,e.snd.snd.snd.snd.fst))
  | none=>do
   eY (e.snd.snd.snd.snd.fst+1)
   pure (.yield (none,e.snd.fst,e.snd.snd.fst,e.snd.snd.snd.fst,e.snd.snd.snd.snd.fst+1))
theorem BP(a b:aI0):o7 a b=(do
 rule "list.sort.merge-hi"
 let total:=a.size+b.size;let mut na:=a.size-1;let mut nb:=b.size;let mut out:aI0:= #[<-elem' a na]
 if na==0 then return eG a b out na nb
 if nb==1 then return gJ a b out na nb
 let mut minGallop:=gallopOf (<-get)
 for _ in [0:total] do
  let mut acount:=0;let mut bcount:=0
  for _ in [0:total] do
   let some aWins<-lt' (<-elem' b (nb-1)) (<-elem' a (na-1)) | return eG a b out na nb
   if aWins then
    na:=na-1;out:=out.push (<-elem' a na);acount:=acount+1;bcount:=0
    if na==0 then return eG a b out na nb
    if acount>=minGallop then break
   else
    nb:=nb-1;out:=out.push (<-elem' b nb);bcount:=bcount+1;acount:=0
    if nb==1 then return gJ a b out na nb
    if bcount>=minGallop then break
  rule "list.sort.gallop"
  minGallop:=minGallop+1
  for _ in [0:total] do
   if minGallop > 1 then minGallop:=minGallop-1
   eY minGallop
   let some at_<-dI false (<-elem' b (nb-1)) a 0 na (na-1) | return eG a b out na nb
   let k:=na-at_
   acount:=k
   if k > 0 then
    out:=out++(a.extract at_ na).reverse;na:=at_
    if na==0 then return eG a b out na nb
   nb:=nb-1;out:=out.push (<-elem' b nb)
   if nb==1 then return gJ a b out na nb
   let some at_<-dI true (<-elem' a (na-1)) b 0 nb (nb-1) | return eG a b out na nb
   let k:=nb-at_
   bcount:=k
   if k > 0 then
    out:=out++(b.extract at_ nb).reverse;nb:=at_
    if nb==1 then return gJ a b out na nb
    if nb==0 then return eG a b out na nb
   na:=na-1;out:=out.push (<-elem' a na)
   if na==0 then return eG a b out na nb
   if acount<7 && bcount<7 then break
  minGallop:=minGallop+1
  eY minGallop
 unsupported "internal:list.sort.merge-bound"):=rfl
theorem BO(a b:aI0):o7 a b=(do
 liftM (rule "list.sort.merge-hi")
 let y<-elem' a (a.size-1)
 if (a.size-1==0)=true then pure (eG a b #[y] (a.size-1) b.size)
 else if (b.size==1)=true then pure (gJ a b #[y] (a.size-1) b.size)
 else do
  let g<-get
  let c<-forIn [:a.size+b.size] ((none,a.size-1,b.size,#[y],gallopOf g):N7) λ_ c=>ES a b c
  match c.fst with
  | some r=>pure r
  | none=>unsupported "internal:list.sort.merge-bound"):=by
 rw[BP];refine aGf λu=>?_;refine aGf λy=>?_;refine aHu rfl (λ_=>rfl) (λ_=>?_);refine aHu rfl (λ_=>rfl) (λ_=>?_);refine aGf λg=>?_;have key:∀(f f' :Nat->N7->StateT SortSt Sem (ForInStep N7)) (k k' :N7->StateT SortSt Sem (aI0)) (i:N7),f=f' ->k=k' ->(forIn [:a.size+b.size] i f >>=k)=(forIn [:a.size+b.size] i f' >>=k'):=λf f' k k' i h1 h2=>by rw[h1,h2]
 refine key _ _ _ _ _ (funext λx=>funext λc=>?_) ?_
 ·have key2:∀(f f' :Nat->JU->StateT SortSt Sem (ForInStep JU)) (k k' :JU->StateT SortSt Sem (ForInStep N7)) (i:JU),f=f' ->k=k' ->(forIn [:a.size+b.size] i f >>=k)=(forIn [:a.size+b.size] i f' >>=k'):=λf f' k k' i h1 h2=>by rw[h1,h2]
  refine key2 _ _ _ _ _ (funext λx=>funext λd=>?_) (funext λd=>?_)
  ·rfl
  ·obtain⟨d0,d1⟩:=d
   cases d0 with
   | some r=>rfl
   | none=>
    refine aGf λv=>?_;have key3:∀(f f' :Nat->OF->StateT SortSt Sem (ForInStep OF)) (k k' :OF->StateT SortSt Sem (ForInStep N7)) (i:OF),f=f' ->k=k' ->(forIn [:a.size+b.size] i f >>=k)=(forIn [:a.size+b.size] i f' >>=k'):=λf f' k k' i h1 h2=>by rw[h1,h2]
    refine key3 _ _ _ _ _ (funext λx=>funext λe=>?_) (funext λe=>?_)
    ·refine aHu rfl (λ_=>?_) (λ_=>?_)
     ·rfl
     ·rfl
    ·obtain⟨e0,e1⟩:=e;cases e0 <;> rfl
 ·funext c;obtain⟨c0,c1⟩:=c;cases c0 <;> rfl
structure Mh(lt:aHy)(all p q o:List Keyed):Prop where
 perm:(p++(q++o)).Perm all
 so:o.Pairwise λx y=>lt y x=false
 sp:p.Pairwise λx y=>lt y x=false
 sq:q.Pairwise λx y=>lt y x=false
 high:∀x∈p++q,∀y∈o,lt y x=false
theorem Mh.left{lt:aHy}{all u p q o:List Keyed}(M:Mh lt all (p++u) q o)(h:∀x∈q,∀y∈u,lt y x=false):Mh lt all p q (u++o):=by
 have sp:=aFk.mp M.sp;refine⟨?_,aFk.mpr ⟨sp.2.1,M.so,λx hx y hy=>M.high x (by simp[hx]) y hy⟩,sp.1,M.sq,λx hx y hy=>?_⟩
 ·refine List.Perm.trans ?_ M.perm;rw[List.append_assoc];refine aHe p ?_;rw[<-List.append_assoc,<-List.append_assoc];exact aHb o aHf
 ·rcases aFb.mp hy with hy | hy
  ·rcases aFb.mp hx with z | z
   ·exact sp.2.2 x z y hy
   ·exact h x z y hy
  ·exact M.high x (by rcases aFb.mp hx with z | z <;> simp[z]) y hy
theorem Mh.right{lt:aHy}{all u p q o:List Keyed}(M:Mh lt all p (q++u) o)(h:∀x∈p,∀y∈u,lt y x=false):Mh lt all p q (u++o):=by
 have sq:=aFk.mp M.sq;refine⟨?_,aFk.mpr ⟨sq.2.1,M.so,λx hx y hy=>M.high x (by simp[hx]) y hy⟩,M.sp,sq.1,λx hx y hy=>?_⟩
 ·have:=M.perm;simpa[List.append_assoc] using this
 ·rcases aFb.mp hy with hy | hy
  ·rcases aFb.mp hx with z | z
   ·exact h x z y hy
   ·exact sq.2.2 x z y hy
  ·exact M.high x (by rcases aFb.mp hx with z | z <;> simp[z]) y hy
theorem Mh.fin{lt:aHy}{all p q o:List Keyed}(M:Mh lt all p q o)(h:p=[]\/q=[]):Good lt all (p++q++o):=by
 refine⟨by rw[List.append_assoc];exact M.perm,aFk.mpr ⟨?_,M.so,M.high⟩⟩;rcases h with rfl | rfl
 ·simpa using M.sq
 ·simpa using M.sp
theorem Mh.aEn{lt:aHy}{all p o:List Keyed}{x:Keyed}(M:Mh lt all p [x] o)(h:∀y∈p,lt y x=false):Good lt all ([x]++p++o):=by
 refine⟨?_,aFk.mpr ⟨?_,M.so,λa ha b hb=>M.high a ?_ b hb⟩⟩
 ·refine List.Perm.trans ?_ M.perm;rw[<-List.append_assoc];exact aHb o aHf
 ·exact aFk.mpr ⟨by simp,M.sp,λu hu v hv=>by rw[List.mem_singleton.mp hu];exact h v hv⟩
 ·rcases aFb.mp ha with z | z <;> simp[z] <;> simp_all
theorem tJ{a:aI0}{i:Nat}(h0:1<=i)(h:i<=a.size):a.toList.take i=a.toList.take (i-1)++[aN a (i-1)]:=by
 have hl:i-1<a.toList.length:=by simp;lia
 have e:aN a (i-1)=a.toList[i-1]:=by
  have:=fU (xs:=a) (i:=i-1) (by lia);rw[getElem?_pos a (i-1) (by lia)]at this;have:=aFl this;rw[<-this];simp
 rw[e];have:=List.take_append_getElem (l:=a.toList) (i:=i-1) hl;rw[this];congr 1;lia
theorem cL{a:aI0}{i:Nat}{x:Keyed}(h:x∈a.toList.take i):∃j,j<i/\j<a.size/\x=aN a j:=by
 have:=i4 (i:=0) (k:=i) (a:=a) (by simpa using h);obtain⟨j,h1,h2,h3⟩:=this;exact⟨j,h1,by lia,by rw[h3];congr 1;lia⟩
theorem zF{a:aI0}{i k:Nat}:(a.extract i k).toList=(a.toList.take k).drop i:=by
 rw[Array.toList_extract,List.extract_eq_take_drop,List.take_drop];by_cases h:i<=k
 ·congr 2;lia
 ·rw[List.drop_of_length_le (by simp;lia),List.drop_of_length_le (by simp;lia)]
theorem mem_mid{a:aI0}{i k:Nat}{x:Keyed}(h:x∈(a.toList.take k).drop i):∃j,i<=j/\j<k/\j<a.size/\x=aN a j:=by
 obtain⟨n,hn,e⟩:=List.getElem_of_mem h;simp only[List.length_take,List.length_drop,Array.length_toList]at hn;refine⟨i+n,by lia,by lia,by lia,?_⟩
 have e2:aN a (i+n)=a.toList[i+n]'(by simp;lia):=by
  have:=fU (xs:=a) (i:=i+n) (by lia);rw[getElem?_pos a (i+n) (by lia)]at this;have:=aFl this;rw[<-this];simp
 rw[e2,<-e];simp
theorem EZ(a b out:aI0)(na nb:Nat):(eG a b out na nb).toList=a.toList.take na++b.toList.take nb++out.toList.reverse:=by
 unfold eG;simp[Array.toList_append,Array.toList_extract,List.extract_eq_take_drop]
theorem CM(a b out:aI0)(na nb:Nat):(gJ a b out na nb).toList=b.toList.take nb++a.toList.take na++out.toList.reverse:=by
 unfold gJ;simp[Array.toList_append,Array.toList_extract,List.extract_eq_take_drop]
section
variable {prog:Program}{w:World}{A:Around}{E:aHx}{s:Shared}{a₀ a b:aI0}{κ:SortKind}{lt:aHy}
abbrev sN(lt:aHy)(a b out:aI0)(na nb:Nat):Prop:=Mh lt (a.toList++b.toList) (a.toList.take na) (b.toList.take nb) out.toList.reverse
theorem sN.wO{out:aI0}{na nb:Nat}(M:sN lt a b out na nb)(h0:1<=na)(h1:na<=a.size)(h:∀z∈b.toList.take nb,lt (aN a (na-1)) z=false):sN lt a b (out.push (aN a (na-1))) (na-1) nb:=by
 unfold sN at*;rw[tJ h0 h1]at M;have:=Mh.left (u:=[aN a (na-1)]) M (by simpa using h);simpa using this
theorem sN.wN{out:aI0}{na nb:Nat}(M:sN lt a b out na nb)(h0:1<=nb)(h1:nb<=b.size)(h:∀z∈a.toList.take na,lt (aN b (nb-1)) z=false):sN lt a b (out.push (aN b (nb-1))) na (nb-1):=by
 unfold sN at*;rw[tJ h0 h1]at M;have:=Mh.right (u:=[aN b (nb-1)]) M (by simpa using h);simpa using this
theorem sN.L5{out:aI0}{na nb k:Nat}(M:sN lt a b out na nb)(hk:k<=na)(h:∀x∈b.toList.take nb,∀y∈(a.toList.take na).drop k,lt y x=false):sN lt a b (out++(a.extract k na).reverse) k nb:=by
 unfold sN at*
 have e:a.toList.take na=a.toList.take k++(a.toList.take na).drop k:=by
  have:=(aHg k (a.toList.take na)).symm
  rwa [List.take_take,Nat.min_eq_left hk]at this
 rw[e]at M;have:=Mh.left M h;simp only[Array.toList_append,Array.toList_reverse,List.reverse_append,List.reverse_reverse,zF];exact this
theorem sN.L4{out:aI0}{na nb k:Nat}(M:sN lt a b out na nb)(hk:k<=nb)(h:∀x∈a.toList.take na,∀y∈(b.toList.take nb).drop k,lt y x=false):sN lt a b (out++(b.extract k nb).reverse) na k:=by
 unfold sN at*
 have e:b.toList.take nb=b.toList.take k++(b.toList.take nb).drop k:=by
  have:=(aHg k (b.toList.take nb)).symm
  rwa [List.take_take,Nat.min_eq_left hk]at this
 rw[e]at M;have:=Mh.right M h;simp only[Array.toList_append,Array.toList_reverse,List.reverse_append,List.reverse_reverse,zF];exact this
theorem sN.E1{out:aI0}{na nb:Nat}(M:sN lt a b out na nb)(h:na=0\/nb=0):Good lt (a.toList++b.toList) (eG a b out na nb).toList:=by
 rw[EZ];exact Mh.fin M (h.imp (λe=>by simp[e]) λe=>by simp[e])
theorem sN.zG(T:DA lt a₀ a b){out:aI0}{na nb:Nat}(M:sN lt a b out na nb)(h:nb=1):Good lt (a.toList++b.toList) (gJ a b out na nb).toList:=by
 rw[CM];have pb:=T.pb
 have e:b.toList.take nb=[aN b 0]:=by
  rw[h,tJ (by lia) (by lia)];simp
 unfold sN at M;rw[e]at M⊢;exact Mh.aEn M λy hy=>T.first y (aGw hy)
structure Jh(lt:aHy)(a b out:aI0)(na nb:Nat):Prop where
 m:sN lt a b out na nb
 ha:1<=na
 hb:2<=nb
 la:na<=a.size
 lb:nb<=b.size
 n:out.size+na+nb=a.size+b.size
def FI(lt:aHy)(a b:aI0)(n:Nat){γ:Type}(c:Option (aI0)×Nat×Nat×aI0×γ):Prop:=
 (∃r,c.1=some r/\Good lt (a.toList++b.toList) r.toList)\/(c.1=none/\Jh lt a b c.2.2.2.1 c.2.1 c.2.2.1/\n<=c.2.2.2.1.size)
def m5(lt:aHy)(a b:aI0)(n:Nat){γ:Type}(st:SortSt)(r:ForInStep (Option (aI0)×Nat×Nat×aI0×γ))(st' :SortSt):Prop:=
 bQ st st' /\match r with | .done c=>FI lt a b n c | .yield c=>c.1=none/\FI lt a b n c
theorem Y3(T:DA lt a₀ a b){st:SortSt}{mg ac bc:Nat}{out:aI0}{na nb n:Nat}(j:Jh lt a b out na nb)(hn2:n<=out.size+1)(h:∀z∈b.toList.take nb,lt (aN a (na-1)) z=false):
  wpS (model prog w) A E s (hi4 a b mg ac bc out na nb) (m5 lt a b n st) st:=by
 obtain⟨M,ha,hb,la,lb,hn⟩:=j;unfold hi4;refine aFe (cR (by lia) ?_);have M2:=M.wO ha la h;by_cases c:na-1=0
 ·rw[if_pos (by simp[c])];exact aFh ⟨bQ.refl _,.inl ⟨_,rfl,M2.E1 (.inl c)⟩⟩
 ·rw[if_neg (by simpa using c)]
  have j2:Jh lt a b (out.push (aN a (na-1))) (na-1) nb:=⟨M2,by lia,hb,by lia,lb,by simp;lia⟩
  split
  ·exact aFh ⟨bQ.refl _,.inr ⟨rfl,j2,by simpa using hn2⟩⟩
  ·exact aFh ⟨bQ.refl _,rfl,.inr ⟨rfl,j2,by simpa using hn2⟩⟩
theorem aCq(O:Wk lt)(C:l6 prog w A s κ lt a₀)(T:DA lt a₀ a b){st:SortSt}{mg ac bc:Nat}{out:aI0}{na nb n:Nat}(hk:kindOf st=κ)(j:Jh lt a b out na nb)(hn2:n<=out.size+1):
  wpS (model prog w) A E s (hi3 a b mg ac bc out na nb) (m5 lt a b n st) st:=by
 have j0:=j;obtain⟨M,ha,hb,la,lb,hn⟩:=j;unfold hi3;have sga:=aY O T.sa;have sgb:=aY O T.sb;refine aFe (cR (by lia) ?_);refine aFe (lK O C hk (by lia) (by lia) (λp q h1 h2 h3=>sgb p q h2 (by lia)) (λi hi=>T.mb _ (dH (by lia))) (T.ma _ (dH (by lia))) λk hk1 h1 h2=>?_)
 have key:∀z∈a.toList.take na,lt (aN a (na-1)) z=false:=λz hz=>by
  obtain⟨j,hj1,hj2,rfl⟩:=cL hz;exact sga _ _ (by lia) (by lia)
 have b1:∀x∈a.toList.take na,∀y∈(b.toList.take nb).drop k,lt y x=false:=λx hx y hy=>by
  obtain⟨j,hj0,hj1,hj2,rfl⟩:=mem_mid hy;have e:=h2 j hj0 hj1;simp only[jC,if_true,Nat.zero_add]at e;exact O.tr _ _ _ (key x hx) e
 have b2:∀z∈b.toList.take k,lt (aN a (na-1)) z=false:=λz hz=>by
  obtain⟨j,hj1,hj2,rfl⟩:=cL hz;have e:=h1 j hj1;simp only[jC,if_true,Nat.zero_add]at e;exact O.qS _ _ e
 dsimp only;by_cases c:nb-k > 0
 ·rw[if_pos c];have M2:=M.L4 (k:=k) (by lia) b1;have sz:(b.extract k nb).reverse.size=nb-k:=by rw[Array.size_reverse,Array.size_extract];lia
  by_cases c2:k=1
  ·rw[if_pos (by simpa using c2)];exact aFh ⟨bQ.refl _,.inl ⟨_,rfl,M2.zG T c2⟩⟩
  ·rw[if_neg (by simpa using c2)];by_cases c3:k=0
   ·rw[if_pos (by simpa using c3)];exact aFh ⟨bQ.refl _,.inl ⟨_,rfl,M2.E1 (.inr c3)⟩⟩
   ·rw[if_neg (by simpa using c3)];exact Y3 T ⟨M2,ha,by lia,la,by lia,by rw[Array.size_append,sz];lia⟩ (by rw[Array.size_append,sz];lia) b2
 ·obtain rfl:k=nb:=by lia
  rw[if_neg c];exact Y3 T j0 hn2 b2
theorem Y4(O:Wk lt)(C:l6 prog w A s κ lt a₀)(T:DA lt a₀ a b){st:SortSt}{mg ac bc:Nat}{out:aI0}{na nb n:Nat}(hk:kindOf st=κ)(j:Jh lt a b out na nb)(hn2:n<=out.size+1)(h:∀z∈a.toList.take na,lt (aN b (nb-1)) z=false):
  wpS (model prog w) A E s (Q9 a b mg ac bc out na nb) (m5 lt a b n st) st:=by
 obtain⟨M,ha,hb,la,lb,hn⟩:=j;unfold Q9;refine aFe (cR (by lia) ?_);have M2:=M.wN (by lia) lb h;by_cases c:nb-1=1
 ·rw[if_pos (by simpa using c)];exact aFh ⟨bQ.refl _,.inl ⟨_,rfl,M2.zG T c⟩⟩
 ·rw[if_neg (by simpa using c)];exact aCq O C T hk ⟨M2,ha,by lia,la,by lia,by simp;lia⟩ (by simp;lia)
theorem DO{n:Nat}{γ:Type}{st st1 st2:SortSt}{r:ForInStep (Option (aI0)×Nat×Nat×aI0×γ)}(h:bQ st st1)(q:m5 lt a b n st1 r st2):m5 lt a b n st r st2:=⟨h.trans q.1,q.2⟩
theorem Y5(O:Wk lt)(C:l6 prog w A s κ lt a₀)(T:DA lt a₀ a b){st:SortSt}{mg ac bc:Nat}{out:aI0}{na nb n:Nat}(hk:kindOf st=κ)(j:Jh lt a b out na nb)(hn2:n<=out.size+1):
  wpS (model prog w) A E s (hi1 a b mg ac bc out na nb) (m5 lt a b n st) st:=by
 have j0:=j;obtain⟨M,ha,hb,la,lb,hn⟩:=j;unfold hi1;have sga:=aY O T.sa;have sgb:=aY O T.sb;refine aFe (sE λst1 same=>?_);refine aH1 ?_ λr st2 q=>DO same q;have hk1:kindOf st1=κ:=same.1.trans hk;refine aFe (cR (by lia) ?_);refine aFe (lK O C hk1 (by lia) (by lia) (λp q h1 h2 h3=>sga p q h2 (by lia)) (λi hi=>T.ma _ (dH (by lia))) (T.mb _ (dH (by lia))) λk hk2 h1 h2=>?_)
 have key:∀z∈b.toList.take nb,lt (aN b (nb-1)) z=false:=λz hz=>by
  obtain⟨j,hj1,hj2,rfl⟩:=cL hz;exact sgb _ _ (by lia) (by lia)
 have b1:∀x∈b.toList.take nb,∀y∈(a.toList.take na).drop k,lt y x=false:=λx hx y hy=>by
  obtain⟨j,hj0,hj1,hj2,rfl⟩:=mem_mid hy;have e:=h2 j hj0 hj1;simp only[jC,Bool.false_eq_true,if_false,Bool.not_eq_false',Nat.zero_add]at e;exact O.tr _ _ _ (key x hx) (O.qS _ _ e)
 have b2:∀z∈a.toList.take k,lt (aN b (nb-1)) z=false:=λz hz=>by
  obtain⟨j,hj1,hj2,rfl⟩:=cL hz;have e:=h1 j hj1;simp only[jC,Bool.false_eq_true,if_false,Bool.not_eq_true',Nat.zero_add]at e;exact e
 dsimp only;by_cases c:na-k > 0
 ·rw[if_pos c];have M2:=M.L5 (k:=k) (by lia) b1;have sz:(a.extract k na).reverse.size=na-k:=by rw[Array.size_reverse,Array.size_extract];lia
  by_cases c1:k=0
  ·rw[if_pos (by simpa using c1)];exact aFh ⟨bQ.refl _,.inl ⟨_,rfl,M2.E1 (.inl c1)⟩⟩
  ·rw[if_neg (by simpa using c1)];exact Y4 O C T hk1 ⟨M2,by lia,hb,by lia,lb,by rw[Array.size_append,sz];lia⟩ (by rw[Array.size_append,sz];lia) b2
 ·obtain rfl:k=na:=by lia
  rw[if_neg c];exact Y4 O C T hk1 j0 hn2 b2
theorem aCr(O:Wk lt)(C:l6 prog w A s κ lt a₀)(T:DA lt a₀ a b){st:SortSt}{mg:Nat}{c:JU}{n:Nat}(hk:kindOf st=κ)(j:Jh lt a b c.2.2.2.1 c.2.1 c.2.2.1)(hn2:n<=c.2.2.2.1.size+1):
  wpS (model prog w) A E s (hi0 a b mg c) (m5 lt a b n st) st:=by
 obtain⟨M,ha,hb,la,lb,hn⟩:=j;have sga:=aY O T.sa;have sgb:=aY O T.sb;unfold hi0;refine aFe (cR (by lia) ?_);refine aFe (cR (by lia) ?_);refine aFe (YZ C hk (T.mb _ (dH (by lia))) (T.ma _ (dH (by lia))) ?_);dsimp only
 cases hlt:lt (aN b (c.2.2.1-1)) (aN a (c.2.1-1)) with
 | true=>
  rw[if_pos rfl];unfold hiA;refine aFe (cR (by lia) ?_)
  have M2:=M.wO ha la λz hz=>by
   obtain⟨j,hj1,hj2,rfl⟩:=cL hz;exact O.tr _ _ _ (sgb _ _ (by lia) (by lia)) (O.qS _ _ hlt)
  by_cases c1:c.2.1-1=0
  ·rw[if_pos (by simpa using c1)];exact aFh ⟨bQ.refl _,.inl ⟨_,rfl,M2.E1 (.inl c1)⟩⟩
  ·rw[if_neg (by simpa using c1)]
   have j2:Jh lt a b (c.2.2.2.1.push (aN a (c.2.1-1))) (c.2.1-1) c.2.2.1:=⟨M2,by lia,hb,by lia,lb,by simp;lia⟩
   split
   ·exact aFh ⟨bQ.refl _,.inr ⟨rfl,j2,by simpa using hn2⟩⟩
   ·exact aFh ⟨bQ.refl _,rfl,.inr ⟨rfl,j2,by simpa using hn2⟩⟩
 | false=>
  rw[if_neg Bool.false_ne_true];unfold hiB;refine aFe (cR (by lia) ?_)
  have M2:=M.wN (by lia) lb λz hz=>by
   obtain⟨j,hj1,hj2,rfl⟩:=cL hz;exact O.tr _ _ _ (sga _ _ (by lia) (by lia)) hlt
  by_cases c1:c.2.2.1-1=1
  ·rw[if_pos (by simpa using c1)];exact aFh ⟨bQ.refl _,.inl ⟨_,rfl,M2.zG T c1⟩⟩
  ·rw[if_neg (by simpa using c1)]
   have j2:Jh lt a b (c.2.2.2.1.push (aN b (c.2.2.1-1))) c.2.1 (c.2.2.1-1):=⟨M2,ha,by lia,la,by lia,by simp;lia⟩
   split
   ·exact aFh ⟨bQ.refl _,.inr ⟨rfl,j2,by simpa using hn2⟩⟩
   ·exact aFh ⟨bQ.refl _,rfl,.inr ⟨rfl,j2,by simpa using hn2⟩⟩
theorem xV{γ:Type}{f:Nat->(Option (aI0)×Nat×Nat×aI0×γ)->StateT SortSt Sem (ForInStep (Option (aI0)×Nat×Nat×aI0×γ))}{c:Option (aI0)×Nat×Nat×aI0×γ}{st:SortSt}{Q:(Option (aI0)×Nat×Nat×aI0×γ)->SortSt->Prop}(Dn:(Option (aI0)×Nat×Nat×aI0×γ)->Prop)(n:Nat)
  (hc:c.1=none) (j:Jh lt a b c.2.2.2.1 c.2.1 c.2.2.1) (hn:n=c.2.2.2.1.size)
  (step:∀i c' st',bQ st st' ->c'.1=none->Jh lt a b c'.2.2.2.1 c'.2.1 c'.2.2.1->n+i<=c'.2.2.2.1.size->wpS (model prog w) A E s (f i c') (λr st2=>m5 lt a b (c'.2.2.2.1.size+1) st' r st2/\∀c2,r= .done c2->Dn c2) st')
  (h:∀c' st',bQ st st' ->Dn c' ->FI lt a b (n+1) c' ->Q c' st'):wpS (model prog w) A E s (forIn [:a.size+b.size] c f) Q st:=by
 refine aGo (I:=λi c' st' =>bQ st st' /\c'.1=none/\Jh lt a b c'.2.2.2.1 c'.2.1 c'.2.2.1/\n+i<=c'.2.2.2.1.size) ?_ ?_ ⟨bQ.refl _,hc,j,by lia⟩
 ·rintro i c' st' _ hi ⟨sm,h1,h2,h3⟩;refine aH1 (step i c' st' sm h1 h2 h3) λr st2 q=>?_;obtain⟨⟨q1,q2⟩,dn⟩:=q
  cases r with
  | done c2=>
   refine h c2 st2 (sm.trans q1) (dn c2 rfl) ?_;rcases q2 with q2 | ⟨z1,z2,z3⟩
   ·exact .inl q2
   ·exact .inr ⟨z1,z2,by lia⟩
  | yield c2=>
   obtain⟨z0,z | ⟨z1,z2,z3⟩⟩:=q2
   ·obtain⟨r,e,_⟩:=z;rw[z0]at e;cases e
   ·exact⟨sm.trans q1,z1,z2,by lia⟩
 ·rintro c' st' ⟨_,_,h2,h3⟩;exfalso;have:=h2.n;have:=h2.ha;have:=h2.hb;simp at h3
  lia
theorem ON(O:Wk lt)(C:l6 prog w A s κ lt a₀)(T:DA lt a₀ a b){st:SortSt}{c:N7}(hk:kindOf st=κ)(j:Jh lt a b c.2.2.2.1 c.2.1 c.2.2.1):
  wpS (model prog w) A E s (ES a b c) (λr st2=>m5 lt a b (c.2.2.2.1.size+1) st r st2/\∀c2,r= .done c2->∃x,c2.1=some x) st:=by
 unfold ES;refine aFe (xV (lt:=lt) (c:=((none,c.snd.fst,c.snd.snd.fst,c.snd.snd.snd.fst,0,0):JU)) (λ_=>True) c.2.2.2.1.size rfl j rfl (λi c' st' sm _ j' _=>aH1 (aCr O C T (sm.1.trans hk) j' (aF9 _)) λ_ _ q=>⟨q,λ_ _=>trivial⟩) λd st1 sm1 _ af=>?_);obtain⟨d0,d1⟩:=d
 rcases af with ⟨r,hr,g⟩ | ⟨hr,j1,n1⟩
 ·dsimp only at hr;subst hr;exact aFh ⟨⟨sm1,.inl ⟨r,rfl,g⟩⟩,λc2 e=>by cases e;exact⟨r,rfl⟩⟩
 ·dsimp only at hr j1 n1;subst hr;dsimp only;refine aFe (wpS_lift (aGc ⟨rfl,?_⟩));refine aFe (xV (lt:=lt) (c:=((none,d1.fst,d1.snd.fst,d1.snd.snd.fst,c.snd.snd.snd.snd+1,d1.snd.snd.snd.fst,d1.snd.snd.snd.snd):OF)) (λ_=>True) d1.2.2.1.size rfl j1 rfl (λi c' st' sm _ j' _=>aH1 (Q:=m5 lt a b (c'.2.2.2.1.size+1) st') ?_ λ_ _ q=>⟨q,λ_ _=>trivial⟩) λe st2 sm2 _ af2=>?_)
  ·split
   ·exact Y5 O C T (sm.1.trans (sm1.1.trans hk)) j' (aF9 _)
   ·exact Y5 O C T (sm.1.trans (sm1.1.trans hk)) j' (aF9 _)
  ·obtain⟨e0,e1⟩:=e
   rcases af2 with ⟨r,hr,g⟩ | ⟨hr,j2,n2⟩
   ·dsimp only at hr;subst hr;exact aFh ⟨⟨sm1.trans sm2,.inl ⟨r,rfl,g⟩⟩,λc2 e=>by cases e;exact⟨r,rfl⟩⟩
   ·dsimp only at hr j2 n2;subst hr;dsimp only;refine aFe (sE λst3 sm3=>?_);exact aFh ⟨⟨(sm1.trans sm2).trans sm3,rfl,.inr ⟨rfl,j2,by dsimp only;lia⟩⟩,λc2 e=>by cases e⟩
theorem J6(O:Wk lt)(C:l6 prog w A s κ lt a₀)(T:DA lt a₀ a b){st:SortSt}{Q:Array Keyed->SortSt->Prop}(hk:kindOf st=κ)
  (h:∀r st',bQ st st' ->Good lt (a.toList++b.toList) r.toList->Q r st'):wpS (model prog w) A E s (o7 a b) Q st:=by
 rw[BO];have pa:=T.pa;have pb:=T.pb;refine aFe (wpS_lift (aGc ⟨rfl,?_⟩));refine aFe (cR (by lia) ?_)
 have M0:sN lt a b #[] a.size b.size:=by
  have ea:a.toList.take a.size=a.toList:=List.take_of_length_le (by simp);have eb:b.toList.take b.size=b.toList:=List.take_of_length_le (by simp);refine⟨by simp[ea,eb],by simp,by rw[ea];exact T.sa,by rw[eb];exact T.sb,by simp⟩
 have M1:sN lt a b #[aN a (a.size-1)] (a.size-1) b.size:=by
  have:=M0.wO pa (aF9 _) λz hz=>T.last z (aGw hz);simpa using this
 by_cases c1:a.size-1=0
 ·rw[if_pos (by simp[c1])];exact aFh (h _ _ (bQ.refl _) (M1.E1 (.inl c1)))
 ·rw[if_neg (by simpa using c1)];by_cases c2:b.size=1
  ·rw[if_pos (by simpa using c2)];exact aFh (h _ _ (bQ.refl _) (M1.zG T c2))
  ·rw[if_neg (by simpa using c2)];refine aFe (wpS_get ?_)
   have j:Jh lt a b #[aN a (a.size-1)] (a.size-1) b.size:=⟨M1,by lia,by lia,by lia,aF9 _,by simp;lia⟩
   refine aFe (xV (lt:=lt) (c:=((none,a.size-1,b.size,#[aN a (a.size-1)],gallopOf st):N7)) (λc=>∃x,c.1=some x) 1 rfl j rfl (λi c' st' sm _ j' _=>ON O C T (sm.1.trans hk) j') λd st1 sm1 dn af=>?_);obtain⟨d0,d1⟩:=d;obtain⟨x,e⟩:=dn;dsimp only at e;subst e
   rcases af with ⟨r,hr,g⟩ | ⟨hr,_⟩
   ·dsimp only at hr;cases hr;exact aFh (h x st1 sm1 g)
   ·cases hr
end
theorem k6{a:aI0}{i:Nat}(h:i<a.size):aN a i=a.toList[i]'(by simpa using h):=by
 have:=fU (xs:=a) (i:=i) h;rw[getElem?_pos a i h]at this;have:=aFl this;rw[<-this];simp
def part(a:aI0)(i j:Nat):List Keyed:=(a.toList.take j).drop i
theorem kU{a:aI0}{i j:Nat}{x:Keyed}(h:x∈part a i j):∃k,i<=k/\k<j/\k<a.size/\x=aN a k:=mem_mid h
theorem gB{a:aI0}{i j:Nat}(h:j<=a.size):(part a i j).length=j-i:=by simp[part];lia
theorem D0{a:aI0}{i m j:Nat}(h1:i<=m)(h2:m<=j):part a i j=part a i m++part a m j:=by
 unfold part;have e:(a.toList.take j).drop i=((a.toList.take j).drop i).take (m-i)++((a.toList.take j).drop i).drop (m-i):=(aHg _ _).symm;rw[e,List.drop_drop,show i+(m-i)=m by lia];congr 1;rw[<-List.drop_take,List.take_take];congr 2;lia
theorem tV{lt:aHy}(O:Wk lt){a:aI0}{i j:Nat}(hj:j<=a.size):Seg lt a i j↔(part a i j).Pairwise λx y=>lt y x=false:=by
 constructor
 ·intro h;rw[List.pairwise_iff_getElem];intro p q hp hq hpq;rw[gB hj]at hp hq
  have e:∀k (hk:k<j-i),(part a i j)[k]'(by rw[gB hj];exact hk)=aN a (i+k):=λk hk=>by
   rw[k6 (by lia)];simp[part]
  rw[e p hp,e q hq];exact h _ _ (by lia) (by lia) (by lia)
 ·intro h p q hp hpq hq;by_cases e0:p=q
  ·subst e0;exact O.IU _
  ·rw[List.pairwise_iff_getElem]at h;have:=h (p-i) (q-i) (by rw[gB hj];lia) (by rw[gB hj];lia) (by lia)
   have e:∀k (hk:k<j-i),(part a i j)[k]'(by rw[gB hj];exact hk)=aN a (i+k):=λk hk=>by
    rw[k6 (by lia)];simp[part]
   rw[e _ (by lia),e _ (by lia),show i+(p-i)=p by lia,show i+(q-i)=q by lia]at this;exact this
theorem AJ{a:aI0}{i j:Nat}(h1:i<=j)(h2:j<=a.size):a.toList=a.toList.take i++(part a i j++a.toList.drop j):=by
 unfold part;rw[<-List.append_assoc]
 have:a.toList.take i++(a.toList.take j).drop i=a.toList.take j:=by
  have:=aHg i (a.toList.take j)
  rwa [List.take_take,Nat.min_eq_left h1]at this
 rw[this,List.take_append_drop]
theorem BD(s:Nat):∀(r:List Keyed) (n:Nat) (a:aI0),s+n+r.length<=a.size->
  ((r.zipIdx n).foldl (λa (x:Keyed×Nat)=>a.setIfInBounds (s+x.2) x.1) a).toList=a.toList.take (s+n)++r++a.toList.drop (s+n+r.length)
 | [],n,a,h=>by simp
 | p::t,n,a,h=>by
  simp only[List.length_cons]at h;rw[List.zipIdx_cons,List.foldl_cons,BD s t (n+1) _ (by simp;lia)];have e1:(a.setIfInBounds (s+n) p).toList=a.toList.set (s+n) p:=by simp
  simp only[e1]
  have e2:(a.toList.set (s+n) p).take (s+(n+1))=a.toList.take (s+n)++[p]:=by
   rw[show s+(n+1)=s+n+1 by lia,List.take_add_one,List.take_set_of_le (Nat.le_refl _),List.getElem?_set_self (by simp;lia)];simp
  have e3:(a.toList.set (s+n) p).drop (s+(n+1)+t.length)=a.toList.drop (s+n+(p::t).length):=by
   rw[List.drop_set_of_lt (by lia)];congr 1;simp;lia
  rw[e2,e3];simp
theorem uL{a b:aI0}{i j:Nat}(h:a.toList[i]? =b.toList[j]?):aN a i=aN b j:=IT (by simpa using h)
theorem BQ(i:Nat):mergeAt' i=(do
 let s<-get
 match ((pendingOf s)[i]?,(pendingOf s)[i+1]?) with
 | (some (sa,na,power),some (sb,nb,_))=>do
  set (setPending s (((pendingOf s).setIfInBounds i (sa,na+nb,power)).eraseIdxIfInBounds (i+1)))
  let x<-elem' (arrOf s) sb
  let r<-dI false x (arrOf s) sa na 0
  match r with
  | some k=>
   if (na-k==0)=true then pure true else do
    let y<-elem' (arrOf s) (sa+k+(na-k)-1)
    let r<-dI true y (arrOf s) sb nb (nb-1)
    match r with
    | some m=>
     if (m==0)=true then pure true else do
      let merged<-if na-k<=m then oZ ((arrOf s).extract (sa+k) sb) ((arrOf s).extract sb (sb+m)) else o7 ((arrOf s).extract (sa+k) sb) ((arrOf s).extract sb (sb+m))
      modify λs=>setArr s (merged.toList.zipIdx.foldl (λa (x:Keyed×Nat)=>a.setIfInBounds (sa+k+x.2) x.1) (arrOf s))
      let s<-get
      pure (failedOf s).isNone
    | _=>pure false
  | _=>pure false
 | _=>unsupported "internal:list.sort.pending"):=by
 rfl
section
variable {prog:Program}{w:World}{A:Around}{E:aHx}{s:Shared}{a₀:aI0}{κ:SortKind}{lt:aHy}
theorem J4{σ:Type}{M:Model}{A:Around}{E:aHx}{s:Shared}{x:σ}{Q:PUnit->σ->Prop}{st:σ}(h:Q ⟨⟩ x):wpS M A E s (set x:StateT σ Sem PUnit) Q st:=wpS_modify (f:=λ_=>x) h
theorem dF{a:aI0}{i k:Nat}:(a.extract i k).toList=part a i k:=zF
theorem G0{a:aI0}{i k j:Nat}(h:k<=a.size)(hj:i+j<k):aN (a.extract i k) j=aN a (i+j):=by
 have hs:j<(a.extract i k).size:=by rw[Array.size_extract];lia
 rw[k6 hs,k6 (by lia)];simp
theorem PH{a:aI0}{r:List Keyed}{s:Nat}(h:s+r.length<=a.size):∀a2:aI0,a2.toList=a.toList.take s++r++a.toList.drop (s+r.length)->∀j,(j<s\/s+r.length<=j)->aN a2 j=aN a j:=by
 intro a2 e j hj;refine uL ?_;rw[e];have l1:(a.toList.take s).length=s:=by simp;lia
 rcases hj with hj | hj
 ·rw[List.append_assoc,List.getElem?_append_left (by lia),List.getElem?_take_of_lt hj]
 ·rw[List.getElem?_append_right (by simp;lia),List.getElem?_drop];congr 1;simp;lia
theorem J7(O:Wk lt)(C:l6 prog w A s κ lt a₀){st:SortSt}{i sa na pw nb pw2:Nat}{Q:Bool->SortSt->Prop}(hi:(pendingOf st)[i]? =some (sa,na,pw))(hj:(pendingOf st)[i+1]? =some (sa+na,nb,pw2))
  (h1:1<=na) (h2:1<=nb) (hz:sa+na+nb<=a₀.size) (hB:Base κ a₀ st) (g1:Seg lt (arrOf st) sa (sa+na)) (g2:Seg lt (arrOf st) (sa+na) (sa+na+nb))
  (h:∀st',Base κ a₀ st' ->Seg lt (arrOf st') sa (sa+na+nb)->(∀k,(k<sa\/sa+na+nb<=k)->aN (arrOf st') k=aN (arrOf st) k)->
   pendingOf st' =((pendingOf st).setIfInBounds i (sa,na+nb,pw)).eraseIdxIfInBounds (i+1)->Q true st'):wpS (model prog w) A E s (mergeAt' i) Q st:=by
 rw[BQ];refine aFe (wpS_get ?_);rw[hi,hj];dsimp only;refine aFe (J4 ?_);have zs:=hB.size;generalize hst:setPending st (((pendingOf st).setIfInBounds i (sa,na+nb,pw)).eraseIdxIfInBounds (i+1))=st1;have B1:Base κ a₀ st1:=by rw[<-hst];exact⟨hB.perm,hB.kind,hB.JE⟩
 have ar1:arrOf st1=arrOf st:=by rw[<-hst]
 have pd1:pendingOf st1=((pendingOf st).setIfInBounds i (sa,na+nb,pw)).eraseIdxIfInBounds (i+1):=by rw[<-hst]
 clear hst;have mem:∀k,k<a₀.size->aN (arrOf st) k∈a₀.toList:=λk hk=>hB.mem hk;refine aFe (cR (by lia) ?_);refine aFe (lK O C B1.kind (by lia) (by lia) g1 (λi hi=>mem _ (by lia)) (mem _ (by lia)) λk hk b1 b2=>?_);dsimp only
 have low:∀j,j<k->lt (aN (arrOf st) (sa+na)) (aN (arrOf st) (sa+j))=false:=λj hj=>by
  have e:=b1 j hj;simpa only[jC,Bool.false_eq_true,if_false,Bool.not_eq_true'] using e
 have upp:∀j,k<=j->j<na->lt (aN (arrOf st) (sa+na)) (aN (arrOf st) (sa+j))=true:=λj h3 h4=>by
  have e:=b2 j h3 h4;simpa only[jC,Bool.false_eq_true,if_false,Bool.not_eq_false'] using e
 by_cases c1:na-k=0
 ·rw[if_pos (by simpa using c1)];refine aFh (h st1 B1 ?_ (λj _=>by rw[ar1]) pd1);rw[ar1];intro p q hp hpq hq;by_cases cp:p<sa+na
  ·by_cases cq:q<sa+na
   ·exact g1 p q hp hpq cq
   ·have e:=low (p-sa) (by lia);rw[show sa+(p-sa)=p by lia]at e;exact O.tr _ _ _ e (g2 (sa+na) q (aF9 _) (by lia) (by lia))
  ·exact g2 p q (by lia) hpq (by lia)
 rw[if_neg (by simpa using c1)];refine aFe (cR (by lia) ?_);have elast:sa+k+(na-k)-1=sa+na-1:=by lia
 rw[elast];refine aFe (lK O C B1.kind (by lia) (by lia) g2 (λi hi=>mem _ (by lia)) (mem _ (by (clear elast c1 hk zs h2;lia))) λm hm d1 d2=>?_);dsimp only
 have dlow:∀j,j<m->lt (aN (arrOf st) (sa+na+j)) (aN (arrOf st) (sa+na-1))=true:=λj hj=>by
  have e:=d1 j hj;simpa only[jC,if_true] using e
 have dupp:∀j,m<=j->j<nb->lt (aN (arrOf st) (sa+na+j)) (aN (arrOf st) (sa+na-1))=false:=λj h3 h4=>by
  have e:=d2 j h3 h4;simpa only[jC,if_true] using e
 by_cases c2:m=0
 ·rw[if_pos (by simpa using c2)];refine aFh (h st1 B1 ?_ (λj _=>by rw[ar1]) pd1);rw[ar1];intro p q hp hpq hq;by_cases cp:p<sa+na
  ·by_cases cq:q<sa+na
   ·exact g1 p q hp hpq cq
   ·have e:=dupp (q-(sa+na)) (by lia) (by lia);rw[show sa+na+(q-(sa+na))=q by lia]at e;exact O.tr _ _ _ (g1 p (sa+na-1) hp (by (clear cq hq hpq hp c2 hm elast c1 hk zs hz h2 h1;lia)) (by (clear cq cp hq hpq hp c2 hm elast c1 hk zs hz h2;lia))) e
  ·exact g2 p q (by lia) hpq (by lia)
 rw[if_neg (by simpa using c2)]
 have T:DA lt a₀ ((arrOf st).extract (sa+k) (sa+na)) ((arrOf st).extract (sa+na) (sa+na+m)):=by
  refine⟨λx hx=>?_,λx hx=>?_,?_,?_,by rw[Array.size_extract];(clear c2 hm elast hk h2 h1;lia),by rw[Array.size_extract];lia,λx hx=>?_,λy hy=>?_⟩
  ·rw[dF]at hx;obtain⟨j,_,_,_,rfl⟩:=kU hx;exact mem _ (by lia)
  ·rw[dF]at hx;obtain⟨j,_,_,_,rfl⟩:=kU hx;exact mem _ (by lia)
  ·rw[dF,<-tV O (by lia)];exact λp q hp hpq hq=>g1 p q (by lia) hpq hq
  ·rw[dF,<-tV O (by lia)];exact λp q hp hpq hq=>g2 p q hp hpq (by lia)
  ·rw[dF]at hx;obtain⟨j,j1,j2,_,rfl⟩:=kU hx;rw[G0 (by lia) (by lia)];have e:=upp (j-sa) (by lia) (by lia);rw[show sa+(j-sa)=j by lia]at e;exact O.qS _ _ e
  ·rw[dF]at hy;obtain⟨j,j1,j2,_,rfl⟩:=kU hy;rw[Array.size_extract,G0 (by lia) (by (clear j2 j1 c2 hm elast hk zs hz h2 h1;lia)),show sa+k+(min (sa+na) (arrOf st).size-(sa+k)-1)=sa+na-1 by lia];have e:=dlow (j-(sa+na)) (by lia);rw[show sa+na+(j-(sa+na))=j by lia]at e;exact O.qS _ _ e
 have fin:∀(r:aI0) (st2:SortSt),bQ st1 st2->Good lt (((arrOf st).extract (sa+k) (sa+na)).toList++((arrOf st).extract (sa+na) (sa+na+m)).toList) r.toList->
   wpS (model prog w) A E s (do
    modify λs=>setArr s (r.toList.zipIdx.foldl (λa (x:Keyed×Nat)=>a.setIfInBounds (sa+k+x.2) x.1) (arrOf s))
    let s<-get
    pure (failedOf s).isNone) Q st2:=λr st2 sm gd=>by
  refine aFe (wpS_modify ?_);refine aFe (wpS_get ?_);have ar2:arrOf st2=arrOf st:=sm.2.1.trans ar1;have hf2:failedOf st2=none:=sm.2.2.2.trans B1.JE
  have rl:r.toList.length=na-k+m:=by
   have:=gd.1.length_eq;rw[List.length_append,dF,dF,gB (by lia),gB (by lia)]at this
   lia
  have pl:=BD (sa+k) r.toList 0 (arrOf st) (by (clear c2 elast c1 h2 h1;lia));simp only[Nat.add_zero]at pl;generalize ha2:(r.toList.zipIdx.foldl (λa (x:Keyed×Nat)=>a.setIfInBounds (sa+k+x.2) x.1) (arrOf st))=a2 at pl;have hset:setArr st2 (r.toList.zipIdx.foldl (λa (x:Keyed×Nat)=>a.setIfInBounds (sa+k+x.2) x.1) (arrOf st2))=setArr st2 a2:=by rw[ar2,ha2]
  rw[hset];have fn:(failedOf (setArr st2 a2)).isNone=true:=by show (failedOf st2).isNone=true;rw[hf2];rfl
  rw[fn]
  have rp:r.toList.Perm (part (arrOf st) (sa+k) (sa+na+m)):=by
   have:=gd.1;rw[dF,dF,<-D0 (by lia) (by lia)]at this;exact this
  have pall:a2.Perm (arrOf st):=by
   rw[Array.perm_iff_toList_perm,pl];have e:=AJ (a:=arrOf st) (i:=sa+k) (j:=sa+na+m) (by lia) (by lia);rw[show sa+k+r.toList.length=sa+na+m by (clear c2 hm elast c1 zs hz h2 h1;lia),List.append_assoc];rw[e]
   conv=>lhs;rw[<-e]
   exact aHe _ (aHb _ rp)
  have sz2:a2.size=(arrOf st).size:=pall.size_eq;have kt:=PH (a:=arrOf st) (r:=r.toList) (s:=sa+k) (by (clear sz2 c2 elast c1 h2 h1;lia)) a2 pl;rw[show sa+k+r.toList.length=sa+na+m by (clear sz2 c2 hm elast c1 zs hz h2 h1;lia)]at kt
  have mid:part a2 (sa+k) (sa+na+m)=r.toList:=by
   unfold part;rw[pl,show sa+k+r.toList.length=sa+na+m by (clear sz2 c2 hm elast c1 zs hz h2 h1;lia)];have l1:((arrOf st).toList.take (sa+k)).length=sa+k:=by simp;(clear sz2 rl c2 hm elast c1 h2 h1;lia)
   rw[List.append_assoc,List.take_append,l1,List.drop_append,List.length_take,l1,List.drop_of_length_le (by simp;(clear l1 sz2 rl c2 hm elast c1 hk zs hz h2 h1;lia))];rw[show sa+k-min (sa+na+m) (sa+k)=0 by (clear l1 sz2 rl c2 hm elast c1 zs hz h2 h1;lia),List.drop_zero,List.nil_append,List.take_append,rl,show sa+na+m-(sa+k)-(na-k+m)=0 by (clear l1 sz2 rl c2 hm elast c1 hk zs hz h2 h1;lia)];simp;rw[List.take_of_length_le (by simp at rl⊢;(clear l1 sz2 c2 hm elast c1 zs hz h2 h1;lia))]
  refine aFh (h (setArr st2 a2) ⟨pall.trans hB.perm,sm.1.trans B1.kind,hf2⟩ ?_ (λj hj=>kt j (by lia)) (sm.2.2.1.trans pd1));show Seg lt a2 sa (sa+na+nb)
  have inmid:∀j,sa+k<=j->j<sa+na+m->∃i,sa+k<=i/\i<sa+na+m/\aN a2 j=aN (arrOf st) i:=λj h3 h4=>by
   have:aN a2 j∈part a2 (sa+k) (sa+na+m):=by
    unfold part;rw[k6 (by lia)];have hl:j-(sa+k)<((a2.toList.take (sa+na+m)).drop (sa+k)).length:=by simp;lia
    have:=List.getElem_mem hl;simp only[List.getElem_drop,List.getElem_take]at this;simpa[show sa+k+(j-(sa+k))=j by lia] using this
   rw[mid]at this;obtain⟨i,i1,i2,_,e⟩:=kU (rp.mem_iff.mp this);exact⟨i,i1,i2,e⟩
  have smid:Seg lt a2 (sa+k) (sa+na+m):=by rw[tV O (by lia),mid];exact gd.2
  have z1:∀p i,sa<=p->p<sa+k->sa+k<=i->i<sa+na+nb->lt (aN (arrOf st) i) (aN (arrOf st) p)=false:=λp i p1 p2 i1 i2=>by
   by_cases ci:i<sa+na
   ·exact g1 p i p1 (by lia) ci
   ·have e:=low (p-sa) (by lia);rw[show sa+(p-sa)=p by lia]at e;exact O.tr _ _ _ e (g2 (sa+na) i (aF9 _) (by lia) (by lia))
  have z3:∀i q,sa+k<=i->i<sa+na+m->sa+na+m<=q->q<sa+na+nb->lt (aN (arrOf st) q) (aN (arrOf st) i)=false:=λi q i1 i2 q1 q2=>by
   by_cases ci:i<sa+na
   ·have e:=dupp (q-(sa+na)) (by lia) (by lia);rw[show sa+na+(q-(sa+na))=q by lia]at e;exact O.tr _ _ _ (g1 i (sa+na-1) (by lia) (by (clear q2 q1 i2 i1 sz2 rl c2 hm elast c1 hk zs hz h2 h1;lia)) (by (clear ci q2 q1 i2 i1 sz2 rl c2 hm elast c1 hk zs hz h2;lia))) e
   ·exact g2 i q (by lia) (by lia) (by lia)
  intro p q hp hpq hq;by_cases cp:p<sa+k
  ·rw[kt p (.inl cp)];by_cases cq:q<sa+k
   ·rw[kt q (.inl cq)];exact g1 p q hp hpq (by lia)
   ·by_cases cq2:q<sa+na+m
    ·obtain⟨i,i1,i2,e⟩:=inmid q (by lia) cq2;rw[e];exact z1 p i hp cp i1 (by lia)
    ·rw[kt q (.inr (by lia))];exact z1 p q hp cp (by lia) hq
  ·by_cases cp2:p<sa+na+m
   ·by_cases cq2:q<sa+na+m
    ·exact smid p q (by lia) hpq cq2
    ·rw[kt q (.inr (by lia))];obtain⟨i,i1,i2,e⟩:=inmid p (by lia) cp2;rw[e];exact z3 i q i1 i2 (by lia) hq
   ·rw[kt p (.inr (by lia)),kt q (.inr (by lia))];exact g2 p q (by lia) hpq (by lia)
 by_cases c3:na-k<=m
 ·rw[if_pos c3];exact aFe (J5 O C T B1.kind λr st2 sm gd=>fin r st2 sm gd)
 ·rw[if_neg c3];exact aFe (J6 O C T B1.kind λr st2 sm gd=>fin r st2 sm gd)
end
abbrev Run:=Nat×Nat×Nat
def dS(r:Run):Nat×Nat:=(r.1,r.2.1)
def Chain:Nat->List (Nat×Nat)->Nat->Prop
 | s,[],e=>s=e
 | s,r::l,e=>r.1=s/\1<=r.2/\Chain (s+r.2) l e
theorem lZ:∀{l m:List (Nat×Nat)} {s e:Nat},Chain s (l++m) e↔∃x,Chain s l x/\Chain x m e
 | [],m,s,e=>by simp[Chain]
 | r::l,m,s,e=>by
  simp only[List.cons_append,Chain,lZ (l:=l) (m:=m)];constructor
  ·rintro⟨h1,h2,x,h3,h4⟩;exact⟨x,⟨h1,h2,h3⟩,h4⟩
  ·rintro⟨x,⟨h1,h2,h3⟩,h4⟩;exact⟨h1,h2,x,h3,h4⟩
theorem lY:∀{l:List (Nat×Nat)} {s e:Nat},Chain s l e->s+l.length<=e
 | [],s,e,h=>by simp[Chain]at h;simp;lia
 | r::l,s,e,h=>by
  obtain⟨_,h2,h3⟩:=h;have:=lY h3;simp;lia
theorem lX:∀{l:List (Nat×Nat)} {s e:Nat},Chain s l e->∀r∈l,s<=r.1/\r.1+r.2<=e/\1<=r.2
 | [],s,e,h,r,hr=>by cases hr
 | q::l,s,e,h,r,hr=>by
  obtain⟨h1,h2,h3⟩:=h;rcases aFd.mp hr with z | z
  ·subst z;have:=lY h3;exact⟨by lia,by lia,h2⟩
  ·have:=lX h3 r z;exact⟨by lia,this.2⟩
structure Wait(κ:SortKind)(lt:aHy)(a₀:aI0)(st:SortSt)(lo:Nat):Prop where
 base:Base κ a₀ st
 ch:Chain 0 ((pendingOf st).toList.map dS) lo
 sg:∀r∈(pendingOf st).toList,Seg lt (arrOf st) r.1 (r.1+r.2.1)
 le:lo<=a₀.size
section
variable {prog:Program}{w:World}{A:Around}{E:aHx}{s:Shared}{a₀:aI0}{κ:SortKind}{lt:aHy}
theorem oE{a b:aI0}{i j:Nat}(h:∀k,i<=k->k<j->aN b k=aN a k)(g:Seg lt a i j):Seg lt b i j:=λp q hp hpq hq=>by
 rw[h p hp (by lia),h q (by lia) hq];exact g p q hp hpq hq
theorem UB{p:List Run}{i:Nat}(h:i+1<p.length):∃pre r1 r2 post,p=pre++r1::r2::post/\pre.length=i:=by
 refine⟨p.take i,p[i]'(by lia),p[i+1],p.drop (i+2),?_,by simp;lia⟩;have e1:=List.drop_eq_getElem_cons (l:=p) (i:=i) (by lia);have e2:=List.drop_eq_getElem_cons (l:=p) (i:=i+1) h;rw[<-e2,<-e1,List.take_append_drop]
theorem FL(O:Wk lt)(C:l6 prog w A s κ lt a₀){st:SortSt}{i lo:Nat}{Q:Bool->SortSt->Prop}(W:Wait κ lt a₀ st lo)(hi:i+1<(pendingOf st).size)
  (h:∀st',Wait κ lt a₀ st' lo->(pendingOf st').size+1=(pendingOf st).size->(∀k,lo<=k->aN (arrOf st') k=aN (arrOf st) k)->Q true st'):wpS (model prog w) A E s (mergeAt' i) Q st:=by
 obtain⟨pre,r1,r2,post,e,hl⟩:=UB (p:=(pendingOf st).toList) (i:=i) (by simpa using hi)
 have g1:(pendingOf st)[i]? =some r1:=by
  have:(pendingOf st).toList[i]? =some r1:=by rw[e,<-hl];simp
  simpa using this
 have g2:(pendingOf st)[i+1]? =some r2:=by
  have:(pendingOf st).toList[i+1]? =some r2:=by rw[e,<-hl];simp
  simpa using this
 have ch:=W.ch;rw[e,List.map_append]at ch;obtain⟨x,c1,c2⟩:=lZ.mp ch;simp only[List.map_cons,Chain,dS]at c2;obtain⟨k1,k2,k3,k4,k5⟩:=c2;have len:=lY k5;have s1:=W.sg r1 (by rw[e];simp);have s2:=W.sg r2 (by rw[e];simp);obtain⟨a1,n1,p1⟩:=r1;obtain⟨a2,n2,p2⟩:=r2;dsimp only at k1 k2 k3 k4 k5 s1 s2 len;subst k1 k3;have le:=W.le;refine J7 O C g1 g2 k2 k4 (by lia) W.base s1 s2 λst' B sg kt pd=>?_
 have el:(pendingOf st').toList=pre++(a1,n1+n2,p1)::post:=by
  rw[pd,Array.toList_eraseIdxIfInBounds,Array.toList_setIfInBounds,e,<-hl];simp;rw[List.eraseIdx_append_of_length_le (by lia)];simp[show pre.length+1-pre.length=1 by lia]
 refine h st' ⟨B,?_,λr hr=>?_,W.le⟩ ?_ λk hk=>kt k (.inr (by lia))
 ·rw[el,List.map_append];refine lZ.mpr ⟨a1,c1,?_⟩;simp only[List.map_cons,Chain,dS];exact⟨trivial,by lia,by rw[show a1+(n1+n2)=a1+n1+n2 by lia];exact k5⟩
 ·rw[el]at hr;rcases aFb.mp hr with z | z
  ·have hm:dS r∈pre.map dS:=aFi.mpr ⟨r,z,rfl⟩;have:=lX c1 _ hm;simp only[dS]at this;exact oE (λk h3 h4=>kt k (.inl (by lia))) (W.sg r (by rw[e];simp[z]))
  ·rcases aFd.mp z with z | z
   ·subst z;show Seg lt _ a1 (a1+(n1+n2));rw[show a1+(n1+n2)=a1+n1+n2 by lia];exact sg
   ·have hm:dS r∈post.map dS:=aFi.mpr ⟨r,z,rfl⟩;have:=lX k5 _ hm;simp only[dS]at this;exact oE (λk h3 h4=>kt k (.inr (by lia))) (W.sg r (by rw[e];simp[z]))
 ·have:=aG8 List.length el;have:=aG8 List.length e;simp at*
  lia
theorem BJ{p:Array Run}{i pw:Nat}:(p.modify i λ(x:Run)=>(x.1,x.2.1,pw)).toList.map dS=p.toList.map dS/\(p.modify i λ(x:Run)=>(x.1,x.2.1,pw)).size=p.size:=by
 refine⟨?_,by simp⟩;rw[Array.toList_modify];apply List.ext_getElem?;intro j;simp only[List.getElem?_map,List.getElem?_modify];by_cases h:i=j
 ·subst h;cases p.toList[i]? <;> simp[dS]
 ·simp[h]
end
section
variable {prog:Program}{w:World}{A:Around}{E:aHx}{s:Shared}{a₀:aI0}{κ:SortKind}{lt:aHy}
theorem Wait.power{st:SortSt}{lo pw i:Nat}(W:Wait κ lt a₀ st lo):Wait κ lt a₀ (setPending st ((pendingOf st).modify i λ(x:Run)=>(x.1,x.2.1,pw))) lo:=by
 obtain⟨b,c,g,l⟩:=W;have mb:=BJ (p:=pendingOf st) (i:=i) (pw:=pw);refine⟨⟨b.perm,b.kind,b.JE⟩,?_,λr hr=>?_,l⟩
 ·show Chain 0 (((pendingOf st).modify i λ(x:Run)=>(x.1,x.2.1,pw)).toList.map dS) lo;rw[mb.1];exact c
 ·have hr' :r∈((pendingOf st).modify i λ(x:Run)=>(x.1,x.2.1,pw)).toList:=hr;have:dS r∈(pendingOf st).toList.map dS:=by rw[<-mb.1];exact aFi.mpr ⟨r,hr',rfl⟩
  obtain⟨q,hq,e⟩:=aFi.mp this;simp only[dS,Prod.mk.injEq]at e;have:=g q hq;rw[e.1,e.2]at this;exact this
theorem Wait.push{st:SortSt}{lo n:Nat}(W:Wait κ lt a₀ st lo)(hn:1<=n)(hl:lo+n<=a₀.size)(g:Seg lt (arrOf st) lo (lo+n)):Wait κ lt a₀ (setPending st ((pendingOf st).push (lo,n,0))) (lo+n):=by
 obtain⟨b,c,gs,l⟩:=W;refine⟨⟨b.perm,b.kind,b.JE⟩,?_,λr hr=>?_,hl⟩
 ·show Chain 0 (((pendingOf st).push (lo,n,0)).toList.map dS) (lo+n);simp only[Array.toList_push,List.map_append];exact lZ.mpr ⟨lo,c,rfl,hn,rfl⟩
 ·have hr' :r∈((pendingOf st).push (lo,n,0)).toList:=hr;simp only[Array.toList_push]at hr';rcases aFb.mp hr' with z | z
  ·exact gs r z
  ·simp at z;subst z;exact g
theorem Wait.held{st st' :SortSt}{lo:Nat}(W:Wait κ lt a₀ st lo)(B:Base κ a₀ st')(k:∀j,j<lo->aN (arrOf st') j=aN (arrOf st) j)(p:pendingOf st' =pendingOf st):Wait κ lt a₀ st' lo:=by
 obtain⟨b,c,gs,l⟩:=W;refine⟨B,by rw[p];exact c,λr hr=>?_,l⟩;rw[p]at hr;have:=lX c (dS r) (aFi.mpr ⟨r,hr,rfl⟩);simp only[dS]at this;exact oE (λj h1 h2=>k j (by lia)) (gs r hr)
def GA(lo n size:Nat):StateT SortSt Sem (ForInStep (Option Unit×Nat)):=do
 modify λs=>setPending s ((pendingOf s).push (lo,n,0))
 pure (.yield (none,lo+n))
def xB(lo n size:Nat):StateT SortSt Sem (ForInStep (Option Unit×Nat)):=do
 let g<-get
 match (pendingOf g).back? with
 | some (s1,n1,_)=>do
  let c<-forIn [:size] ((none,()):Option Unit×Unit) λ_ _=>do
   let g<-get
   match (if (pendingOf g).size > 1 then (pendingOf g)[(pendingOf g).size-2]? else none) with
   | some (_,_,older)=>if older<=power' size (2*s1+n1) (2*s1+n1+n1+n) size then pure (.done (none,())) else do
     let b<-mergeAt' ((pendingOf g).size-2)
     if (!b)=true then pure (.done (some (),())) else pure (.yield (none,()))
   | _=>pure (.done (none,()))
  match c.fst with
  | some r=>pure (.done (some r,lo))
  | none=>do
   modify λs=>setPending s ((pendingOf s).modify ((pendingOf s).size-1) λ(x:Run)=>(x.1,x.2.1,power' size (2*s1+n1) (2*s1+n1+n1+n) size))
   GA lo n size
 | _=>GA lo n size
def FY(size mr lo:Nat):StateT SortSt Sem (ForInStep (Option Unit×Nat)):=
 if lo>=size then pure (.done (none,lo)) else countRun' lo (size-lo) >>=λr=>match r with
  | some n=>if n<mr then liftM (rule "list.sort.binary-insertion") >>=λ_=>binarySort' lo (min (size-lo) mr) n >>=λb=>if (!b)=true then pure (.done (some (),lo)) else xB lo (min (size-lo) mr) size
    else xB lo n size
  | none=>pure (.done (some (),lo))
def S4(size:Nat):StateT SortSt Sem (ForInStep (Option Unit×Unit)):=do
 let g<-get
 if (pendingOf g).size<=1 then pure (.done (none,())) else do
  let b<-mergeAt' (if (if (pendingOf g).size-2 > 0 then (pendingOf g)[(pendingOf g).size-2-1]?.map (·.2.1) else none).any (· < ((pendingOf g)[(pendingOf g).size-2+1]?.elim 0 (·.2.1))) then (pendingOf g).size-2-1 else (pendingOf g).size-2)
  if (!b)=true then pure (.done (some (),())) else pure (.yield (none,()))
theorem KQ:sortRuns' =(do
  let g<-get
  let c<-forIn [:(arrOf g).size] ((none,0):Option Unit×Nat) λ_ c=>FY (arrOf g).size (minRun' (arrOf g).size (arrOf g).size 0) c.snd
  match c.fst with
  | some r=>pure r
  | none=>do
   let d<-forIn [:(arrOf g).size] ((none,()):Option Unit×Unit) λ_ _=>S4 (arrOf g).size
   match d.fst with
   | some r=>pure r
   | none=>pure ()):=by
 rw[sortRuns'_eq];refine aGf λg=>?_;dsimp only;have key:∀(n:Nat) (f f' :Nat->Option Unit×Nat->StateT SortSt Sem (ForInStep (Option Unit×Nat))) (k k' :Option Unit×Nat->StateT SortSt Sem Unit) (i:Option Unit×Nat),f=f' ->k=k' ->(forIn [:n] i f >>=k)=(forIn [:n] i f' >>=k'):=λn f f' k k' i h1 h2=>by rw[h1,h2]
 refine key _ _ _ _ _ _ (funext λx=>funext λc=>?_) (funext λc=>?_)
 ·have key2:∀(n:Nat) (f f' :Nat->Option Unit×Unit->StateT SortSt Sem (ForInStep (Option Unit×Unit))) (k k' :Option Unit×Unit->StateT SortSt Sem (ForInStep (Option Unit×Nat))) (i:Option Unit×Unit),f=f' ->k=k' ->(forIn [:n] i f >>=k)=(forIn [:n] i f' >>=k'):=λn f f' k k' i h1 h2=>by rw[h1,h2]
  unfold FY;refine aHu rfl (λ_=>rfl) (λ_=>?_);refine aGf λr=>?_
  cases r with
  | none=>rfl
  | some n=>
   refine aHu rfl (λ_=>?_) (λ_=>?_)
   ·refine aGf λ_=>?_;refine aGf λb=>?_;refine aHu rfl (λ_=>rfl) (λ_=>?_);unfold xB;refine aGf λg2=>?_
    cases (pendingOf g2).back? with
    | none=>rfl
    | some r=>
     obtain⟨s1,n1,p1⟩:=r;refine key2 _ _ _ _ _ _ (funext λx=>funext λc=>aGf λg3=>?_) (funext λc=>?_)
     ·cases (if (pendingOf g3).size > 1 then (pendingOf g3)[(pendingOf g3).size-2]? else none) with
      | none=>rfl
      | some r=>rfl
     ·obtain⟨c0,c1⟩:=c;cases c0 <;> rfl
   ·unfold xB;refine aGf λg2=>?_
    cases (pendingOf g2).back? with
    | none=>rfl
    | some r=>
     obtain⟨s1,n1,p1⟩:=r;refine key2 _ _ _ _ _ _ (funext λx=>funext λc=>aGf λg3=>?_) (funext λc=>?_)
     ·cases (if (pendingOf g3).size > 1 then (pendingOf g3)[(pendingOf g3).size-2]? else none) with
      | none=>rfl
      | some r=>rfl
     ·obtain⟨c0,c1⟩:=c;cases c0 <;> rfl
 ·obtain⟨c0,c1⟩:=c
  cases c0 with
  | some r=>rfl
  | none=>
   refine aGf λd=>?_;obtain⟨d0,d1⟩:=d;cases d0 <;> rfl
theorem SO(O:Wk lt)(C:l6 prog w A s κ lt a₀){st:SortSt}{lo n size:Nat}{Q:ForInStep (Option Unit×Nat)->SortSt->Prop}(W:Wait κ lt a₀ st lo)(hn:1<=n)(hl:lo+n<=a₀.size)(g:Seg lt (arrOf st) lo (lo+n))
  (h:∀st',Wait κ lt a₀ st' (lo+n)->Q (.yield (none,lo+n)) st'):wpS (model prog w) A E s (xB lo n size) Q st:=by
 have push:∀st1,Wait κ lt a₀ st1 lo->Seg lt (arrOf st1) lo (lo+n)->wpS (model prog w) A E s (GA lo n size) Q st1:=λst1 W1 g1=>by
  unfold GA;exact aFe (wpS_modify (aFh (h _ (W1.push hn hl g1))))
 unfold xB;refine aFe (wpS_get ?_)
 cases hb:(pendingOf st).back? with
 | none=>exact push st W g
 | some r=>
  obtain⟨s1,n1,p1⟩:=r;dsimp only;refine aFe (aH1 (aGo (I:=λ_ c st1=>c=(none,())/\Wait κ lt a₀ st1 lo/\∀k,lo<=k->aN (arrOf st1) k=aN (arrOf st) k) (Q:=λc st1=>c=(none,())/\Wait κ lt a₀ st1 lo/\∀k,lo<=k->aN (arrOf st1) k=aN (arrOf st) k) ?_ (λ_ _ r=>r) ⟨rfl,W,λ_ _=>rfl⟩) ?_)
  ·rintro x c st1 _ _ ⟨rfl,W1,k1⟩;refine aFe (wpS_get ?_);by_cases c1:(pendingOf st1).size > 1
   ·rw[if_pos c1];have e:(pendingOf st1)[(pendingOf st1).size-2]? =some ((pendingOf st1)[(pendingOf st1).size-2]'(by lia)):=by simp
    rw[e];generalize (pendingOf st1)[(pendingOf st1).size-2]'(by lia)=r;obtain⟨q1,q2,q3⟩:=r;dsimp only;split
    ·exact aFh ⟨rfl,W1,k1⟩
    ·refine aFe (FL O C W1 (by lia) λst2 W2 _ k2=>?_);exact aFh ⟨rfl,W2,λk hk=>(k2 k hk).trans (k1 k hk)⟩
   ·rw[if_neg c1];exact aFh ⟨rfl,W1,k1⟩
  ·rintro c st1 ⟨rfl,W1,k1⟩;dsimp only;refine aFe (wpS_modify ?_);exact push _ W1.power (oE (λk h1 _=>k1 k h1) g)
theorem YY(O:Wk lt)(C:l6 prog w A s κ lt a₀){st:SortSt}{lo mr:Nat}{Q:ForInStep (Option Unit×Nat)->SortSt->Prop}(W:Wait κ lt a₀ st lo)
  (hd:lo=a₀.size->Q (.done (none,lo)) st) (h:∀n st',1<=n->Wait κ lt a₀ st' (lo+n)->Q (.yield (none,lo+n)) st'):wpS (model prog w) A E s (FY a₀.size mr lo) Q st:=by
 have le:=W.le;unfold FY;by_cases c:lo>=a₀.size
 ·rw[if_pos c];exact aFh (hd (by lia))
 ·rw[if_neg c];refine aFe (TM O C (by lia) (by lia) W.base λm st2 b2 m1 m2 sg2 held=>?_);have W2:Wait κ lt a₀ st2 lo:=W.held b2 held.1 held.2;dsimp only;by_cases less:m<mr
  ·rw[if_pos less];refine aFe (wpS_lift (aGc ⟨rfl,?_⟩));refine aFe (OO O C (by lia) (by lia) b2 sg2 λst3 b3 sg3 k3 p3=>?_);exact SO O C (W2.held b3 k3 p3) (by lia) (by lia) sg3 λst' W' =>h _ st' (by lia) W'
  ·rw[if_neg less];exact SO O C W2 m1 (by lia) sg2 λst' W' =>h _ st' m1 W'
theorem idx(b:Prop)[Decidable b](n:Nat)(h:2<=n):(if b then n-2-1 else n-2)+1<n:=by split <;> lia
theorem TL(O:Wk lt)(C:l6 prog w A s κ lt a₀){st:SortSt}{Q:Unit->SortSt->Prop}(hB:Base κ a₀ st)(hpd:pendingOf st= #[])
  (h:∀st',Base κ a₀ st' ->Seg lt (arrOf st') 0 a₀.size->Q () st'):wpS (model prog w) A E s sortRuns' Q st:=by
 have zs:=hB.size;rw[KQ];refine aFe (wpS_get ?_);simp only[zs]
 have W0:Wait κ lt a₀ st 0:=⟨hB,by rw[hpd];rfl,λr hr=>by rw[hpd]at hr;simp at hr,by lia⟩
 refine aFe (aH1 (aGo
  (I:=λx c st' =>∃lo,c=(none,lo)/\x<=lo/\Wait κ lt a₀ st' lo)
  (Q:=λc st' =>c=(none,a₀.size)/\Wait κ lt a₀ st' a₀.size) ?turn ?last ⟨0,rfl,aF9 _,W0⟩) ?rest)
 case last=>
  rintro c st' ⟨lo,rfl,hx,W⟩;have:=W.le;obtain rfl:lo=a₀.size:=by lia
  exact⟨rfl,W⟩
 case turn=>
  rintro x c st' _ hx ⟨lo,rfl,hx2,W⟩
  refine YY O C W (λe=>?_) λn st2 hn W2=>⟨lo+n,rfl,by lia,W2⟩
  subst e;exact⟨rfl,W⟩
 case rest=>
  rintro c st' ⟨rfl,W⟩;dsimp only
  have hsz:(pendingOf st').size<=a₀.size:=by
   have:=lY W.ch;simp at this;lia
  refine aFe (aH1 (aGo (I:=λx c st2=>c=(none,())/\Wait κ lt a₀ st2 a₀.size/\((pendingOf st2).size<=1\/(pendingOf st2).size+x<=a₀.size)) (Q:=λc st2=>c=(none,())/\Wait κ lt a₀ st2 a₀.size/\(pendingOf st2).size<=1) ?_ ?_ ⟨rfl,W,.inr (by lia)⟩) ?_)
  ·rintro x c st2 _ hx ⟨rfl,W2,hp⟩;unfold S4;refine aFe (wpS_get ?_);by_cases c1:(pendingOf st2).size<=1
   ·rw[if_pos c1];exact aFh ⟨rfl,W2,c1⟩
   ·rw[if_neg c1];refine aFe (FL O C W2 (idx _ _ (by lia)) λst3 W3 p3 _=>?_);exact aFh ⟨rfl,W3,.inr (by lia)⟩
  ·rintro c st2 ⟨rfl,W2,hp⟩;exact⟨rfl,W2,by simp at hp;lia⟩
  ·rintro c st2 ⟨rfl,W2,hp⟩;dsimp only;refine aFh (h st2 W2.base ?_);have ch:=W2.ch
   cases hl:(pendingOf st2).toList with
   | nil=>
    rw[hl]at ch;simp[Chain]at ch;intro p q _ _ hq;lia
   | cons r l=>
    have:l=[]:=by
     have:=aG8 List.length hl;simp at this;exact aGl.mp (by lia)
    subst this;rw[hl]at ch;simp only[List.map_cons,List.map_nil,Chain,dS]at ch;have:=W2.sg r (by rw[hl];simp);rw[ch.1,ch.2.2]at this;exact this
end
section
variable {prog:Program}{w:World}{A:Around}{E:aHx}{s:Shared}{a₀:aI0}{κ:SortKind}{lt:aHy}
theorem O6{vs:List Value}{xs:aI0}(hp:xs.Perm (pairsOf vs))(sg:Seg lt xs 0 vs.length):
  ((xs.map (·.2)).toList).Perm vs/\((xs.map (·.2)).toList).Pairwise (λx y=>lt (y,y) (x,x)=false):=by
 have hl:xs.toList.Perm (vs.zip vs):=by rw[<-pairsOf_toList];exact Array.perm_iff_toList_perm.mp hp
 have same:∀p∈xs.toList,p=(p.2,p.2):=λp hpm=>by
  have hm:=hl.mem_iff.mp hpm
  have:∀(l:List Value) (q:Keyed),q∈l.zip l->q=(q.2,q.2):=λl q hq=>by
   induction l with
   | nil=>simp at hq
   | cons v r ih=>
    rw[List.zip_cons_cons]at hq;rcases aFd.mp hq with e | e
    ·rw[e]
    ·exact ih e
  exact this vs p hm
 have hsz:xs.size=vs.length:=by have:=hp.size_eq;rw[pairsOf_size]at this;exact this
 refine⟨?_,?_⟩
 ·rw[Array.toList_map];have:=hl.map (·.2)
  rwa [show (vs.zip vs).map (·.2)=vs from List.map_snd_zip (aF9 _)]at this
 ·rw[Array.toList_map,List.pairwise_map];rw[List.pairwise_iff_getElem];intro i j hi hj hij;have hi' :i<xs.size:=by simpa using hi
  have hj' :j<xs.size:=by simpa using hj
  have q:=sg i j (aGk _) (aH6 hij) (by rw[<-hsz];exact hj');have ei:aN xs i=xs.toList[i]:=by unfold aN;rw[getElem?_pos xs i hi'];simp
  have ej:aN xs j=xs.toList[j]:=by unfold aN;rw[getElem?_pos xs j hj'];simp
  rw[ei,ej]at q;rw[same _ (List.getElem_mem hi),same _ (List.getElem_mem hj)]at q;exact q
theorem DP(O:Wk lt){a:Addr}{vs:List Value}{n:Nat}{P:PySem.Fin->Shared->Prop}(ho:s.heap.get? a=some (seqObj "list" vs.toArray n))(h64:vs.length<4000)
  (ck:2<=vs.length->∀h' :Heap,(∀b o,b≠a->s.heap.get? b=some o->h'.get? b=some o)->l6 prog w A {s with heap:=h'} κ lt (pairsOf vs)/\
   ∀Q',Q' κ {s with heap:=h'}->wpAny (model prog w) A (keyKind' vs.toArray) Q' E {s with heap:=h'})
  (h:∀out:List Value,out.Perm vs->out.Pairwise (λx y=>lt (y,y) (x,x)=false)->P (.done (.ret .none)) {s with heap:=sortedHeap s.heap a vs out.toArray}):
  wpAny (model prog w) A (Builtin.«list.sort» ⟨[.ref a],[]⟩) P E s:=by
 have la:a<s.heap.objs.size:=aFc ho;have zl:sizeLine=16777216:=aFn
 obtain⟨e1,o1⟩:∃e1,(s.heap.update a (Obj.mapSeq λ_=>#[])).get? a=some (seqObj "list" #[] e1):=⟨_,get?_update_seq ho λ_=>#[]⟩
 have o2:(((s.heap.update a (Obj.mapSeq λ_=>#[])).push (seqObj "tuple" vs.toArray 0)).push (seqObj "list" #[] 0)).get? a=some (seqObj "list" #[] e1):=aF4 _ (aF4 _ o1)
 have others:∀b o,b≠a->s.heap.get? b=some o->(((s.heap.update a (Obj.mapSeq λ_=>#[])).push (seqObj "tuple" vs.toArray 0)).push (seqObj "list" #[] 0)).get? b=some o:=λb o hb e=>
  aF4 _ (aF4 _ (by rw[Heap.get?_update_ne _ _ _ _ hb];exact e))
 have ending:∀st' :SortSt,(arrOf st').Perm (pairsOf vs)->Seg lt (arrOf st') 0 vs.length->failedOf st' =none->wpAny (model prog w) A (do
   let touched:=(<-seqEpoch a) !=e1
   Builtin.List.listUpdate (.ref a) λ_=>(arrOf st').map (·.2)
   if let some e:=failedOf st' then rule "list.sort.comparison-raised";throw e
   if touched then rule "list.sort.modified";raiseError "ValueError" "list modified during sort"
   ret .none) P E {s with heap:=((s.heap.update a (Obj.mapSeq λ_=>#[])).push (seqObj "tuple" vs.toArray 0)).push (seqObj "list" #[] 0)}:=λst' hp sg hf=>by
  obtain⟨p1,p2⟩:=O6 hp sg
  have oz:((arrOf st').map (·.2)).size<=sizeLine:=by
   rw[Array.size_map];have:=hp.size_eq;rw[pairsOf_size]at this
   lia
  refine aF3 (seqEpoch_at o2 rfl ?_);refine aF3 (listUpdate_at o2 rfl ?_ (hsz2:=by lia));rw[hf];simp only[bne_self_eq_false,Bool.false_eq_true,if_false];have fin:=h _ p1 p2;rw[Array.toArray_toList]at fin;exact aF5 fin
 rw[list_sort_plain];refine aF3 (listItems_at ho rfl ?_);refine aF3 (listUpdate_at ho rfl ?_ (by rw[List.size_toArray];lia) (aGk _));refine aF3 (seqEpoch_at o1 rfl ?_);refine aF3 (aHl ?_ (by show vs.length<=_;lia));refine aF3 (wpAny_newList ?_ (aGk _));refine aFx ?_;dsimp only;by_cases YR:vs.length<2
 ·have few' :vs.toArray.size<2:=by rw[List.size_toArray];exact YR
  rw[if_pos few',if_pos few'];refine aF3 (aF5 ?_);rw[StateT.run_pure];refine aF3 (aF5 ?_)
  exact ending (SortSt.mk' general' (vs.toArray.zip vs.toArray) #[] 7 none) (Array.Perm.refl _) (λp q _ hpq hq=>by
   obtain rfl:p=q:=by lia
   exact O.IU _) rfl
 ·have many:¬vs.toArray.size<2:=by rw[List.size_toArray];exact YR
  rw[if_neg many,if_neg many];obtain⟨cmp,kind⟩:=ck (by lia) _ others;refine aF3 (kind _ ?_)
  refine aF3 (aGs (TL (Q:=λ_ st' =>Base κ (pairsOf vs) st' /\Seg lt (arrOf st') 0 (pairsOf vs).size) O cmp (st:=SortSt.mk' κ (vs.toArray.zip vs.toArray) #[] 7 none) ⟨Array.Perm.refl _,rfl,rfl⟩ rfl
   λst' b sg=>⟨b,sg⟩) (λr s' hr=>?_) λ_ _ e=>e)
  obtain⟨⟨⟩,st'⟩:=r;obtain⟨rfl,b,sg⟩:=hr;rw[pairsOf_size]at sg;exact ending st' b.perm sg b.JE
theorem KO(O:Wk lt){l:Addr}{vs:List Value}{Q:aHx}(hl:s.heap.IsList l vs.toArray)(h64:vs.length<4000)
  (ck:2<=vs.length->∀h' :Heap,(∀b o,s.heap.get? b=some o->h'.get? b=some o)->l6 prog w A.in1.in1 {s with heap:=h'} κ lt (pairsOf vs)/\
   ∀Q' E',Q' κ {s with heap:=h'}->wpAny (model prog w) A.in1.in1 (keyKind' vs.toArray) Q' E' {s with heap:=h'})
  (h:∀out:List Value,out.Perm vs->out.Pairwise (λx y=>lt (y,y) (x,x)=false)->Q (.ref (s.heap.objs.size+1)) {s with heap:=sortedAll s.heap vs out.toArray}):
  wpAny (model prog w) A (call (.builtin "sorted") [.ref l]) Q E s:=by
 have zl:sizeLine=16777216:=aFn;have grown:((s.heap.push (seqObj "list" #[] 0)).update s.heap.objs.size (Obj.mapSeq (· ++vs.toArray))).objs.size=s.heap.objs.size+1:=by rw[Heap.size_update,size_push']
 have kept:∀b o,s.heap.get? b=some o->(((s.heap.push (seqObj "list" #[] 0)).update s.heap.objs.size (Obj.mapSeq (· ++vs.toArray))).push (seqObj "list" vs.toArray 0)).get? b=some o:=λb o e=>by
  have lb:=aFc e;refine aF4 _ ?_;rw[Heap.get?_update_ne _ _ _ _ (Nat.ne_of_lt lb)];exact aF4 _ e
 refine aH3 kind_sorted plain_sorted entry_sorted (args_sorted1 _) ?_;unfold Builtin.«sorted»;refine aF3 (m:=checkCount "sorted" 1 1 _) (aF5 ?_);refine aF3 (collect_list hl ?_ (by lia));refine aF3 (wpAny_newList ?_ (by lia))
 have ob:(((s.heap.push (seqObj "list" #[] 0)).update s.heap.objs.size (Obj.mapSeq (· ++vs.toArray))).push (seqObj "list" vs.toArray 0)).get? (s.heap.objs.size+1)=some (seqObj "list" vs.toArray 0):=by
  rw[<-grown];exact aFa _ rfl
 show wpAny _ _ _ _ _ {s with heap:=((s.heap.push (seqObj "list" #[] 0)).update s.heap.objs.size (Obj.mapSeq (· ++vs.toArray))).push (seqObj "list" vs.toArray 0)};rw[grown];refine aF3 (aFx (aFm slot_list_sort ⟨_,ob,rfl⟩ entry_list_sort (DP (κ:=κ) (s:={s with heap:=((s.heap.push (seqObj "list" #[] 0)).update s.heap.objs.size (Obj.mapSeq (· ++vs.toArray))).push (seqObj "list" vs.toArray 0)}) O ob h64 (λh2 h' k=>?_) λout p1 p2=>⟨_,rfl,aF5 ⟨_,rfl,h out p1 p2⟩⟩) (args_list_sort _)));obtain⟨c1,c2⟩:=ck h2 h' λb o e=>k b o (aFj (aFw (aFc e))) (kept b o e);exact⟨c1,λQ' q=>c2 Q' _ q⟩
end
end TS
namespace D3
open PySem PySem.Spec PyProof.Rows L2
inductive D where
 | b7 | bl (b:Bool) | int (i:Int) | str (x:Str) | ty (n:String)
 | tup (ds:List D) | fl (ds:List D) | ref (n:Nat)
inductive MO where
 | lst (ds:List D)
 | dic (t:Bool) (kvs:List (D×D))
 | fdc (t:Bool) (kvs:List (D×D)) (ob:Obj)
abbrev MH:=List MO
abbrev eK:=List (Option D)
def OE(K:aHw)(H:Hp)(a:Addr)(xs:List V):Prop:=
 (∃o,H a=some (.frz o (.lst xs)))\/
  ∃(o:Obj) (aG:Array Value) (n:Nat),K.lookup a=some o/\o.cls= .type "list"/\o.dict=none/\o.data= .seq aG n/\aG.size<=sizeLine/\Vals xs aG.toList
theorem OE.sq{K:aHw}{H:Hp}{a:Addr}{xs:List V}(h:OE K H a xs):nS K H a xs:=by
 rcases h with h | h
 ·exact .inl (.inr h)
 ·exact .inr h
mutual
def Is(K:aHw)(μ:List Addr)(H:Hp):D->V->Prop
 | .b7,v=>v= .b7
 | .bl b,v=>v= .bl b
 | .int i,v=>v= .int i
 | .str x,v=>v= .str x
 | .ty n,v=>v= .ty n
 | .tup ds,v=>∃a vs,v= .ref a/\nQ K H a vs/\IsL K μ H ds vs
 | .fl ds,v=>∃a vs,v= .ref a/\OE K H a vs/\IsL K μ H ds vs
 | .ref n,v=>∃a,μ[n]? =some a/\v= .ref a
def IsL(K:aHw)(μ:List Addr)(H:Hp):List D->List V->Prop
 | [],vs=>vs=[]
 | d::ds,vs=>∃v r,vs=v::r/\Is K μ H d v/\IsL K μ H ds r
end
def bE:Key->D
 | .inl i=>.int i
 | .inr x=>.str x
def rV(o:Option HO)(ks:List D)(vs:List V):Bool->Prop
 | false=>∃kk:List (Key×V),o=some (.dK kk)/\ks=kk.map (λp=>bE p.1)/\vs=kk.map (·.2)
 | true=>∃kk:List (List Key×V),o=some (.dT kk)/\ks=kk.map (λp=>.tup (p.1.map bE))/\vs=kk.map (·.2)
def lJ(K:aHw)(μ:List Addr)(H:Hp):MO->Addr->Prop
 | .lst ds,a=>∃vs,H a=some (.lst vs)/\IsL K μ H ds vs
 | .dic t kvs,a=>∃vs,rV (H a) (kvs.map (·.1)) vs t/\IsL K μ H (kvs.map (·.2)) vs
 | .fdc t kvs ob,a=>∃vs u,H a=some (.frz ob u)/\rV (some u) (kvs.map (·.1)) vs t/\IsL K μ H (kvs.map (·.2)) vs
def Own:Option HO->Prop
 | some (.frz _ (.dK _))=>True
 | some (.frz _ (.dT _))=>True
 | o=>JZ o
structure Rep(K:aHw)(μ:List Addr)(mh:MH)(H:Hp):Prop where
 len:μ.length=mh.length
 nd:μ.Nodup
 obj:∀(n:Nat) a o,μ[n]? =some a->mh[n]? =some o->lJ K μ H o a
structure aK(μ:List Addr)(H:Hp)(μ' :List Addr)(H' :Hp):Prop where
 pre:∃t,μ' =μ++t
 fr:∀b o,H b=some o->b∉μ->H' b=some o
 nw:∀a∈μ',a∈μ\/H a=none
def cH(K:aHw)(μ:List Addr)(H:Hp)(ρ:eK)(σ:L2.St):Prop:=
 ρ.length=σ.length/\∀(i:Nat) d,ρ[i]? =some (some d)->∃v,σ[i]? =some (some v)/\Is K μ H d v
section
variable {K:aHw}{μ μ1 μ2 μ' :List Addr}{mh mh' :MH}{H H1 H2 H' :Hp}
theorem lJ.mut{o:MO}{a:Addr}(h:lJ K μ H o a):Own (H a):=by
 cases o with
 | lst ds=>obtain⟨vs,e,_⟩:=h;rw[e];trivial
 | dic t kvs=>cases t <;> (obtain⟨vs,⟨kk,e,_⟩,_⟩:=h;rw[e];trivial)
 | fdc t kvs ob=>cases t <;> (obtain⟨vs,u,e,⟨kk,e2,_⟩,_⟩:=h;cases e2;rw[e];trivial)
theorem Rep.at(R:Rep K μ mh H){a:Addr}(h:a∈μ):∃(n:Nat) (o:MO),μ[n]? =some a/\mh[n]? =some o/\lJ K μ H o a:=by
 obtain⟨n,hn⟩:=aFv.mp h;have hl:n<mh.length:=by rw[<-R.len];exact(aF6.mp hn).1
 exact⟨n,mh[n],hn,by simp[hl],R.obj n a _ hn (by simp[hl])⟩
theorem Rep.mut(R:Rep K μ mh H){a:Addr}(h:a∈μ):Own (H a):=let ⟨_,_,_,_,q⟩:=R.at h;q.mut
theorem aK.refl:aK μ H μ H:=⟨⟨[],by simp⟩,λ_ _ h _=>h,λ_ h=>.inl h⟩
theorem aK.trans(p:aK μ H μ1 H1)(q:aK μ1 H1 μ2 H2):aK μ H μ2 H2:=by
 refine⟨?_,λb o e n=>?_,λa ha=>?_⟩
 ·obtain⟨t,rfl⟩:=p.pre;obtain⟨u,rfl⟩:=q.pre;exact⟨t++u,by simp⟩
 ·refine q.fr b o (p.fr b o e n) λhb=>?_;rcases p.nw b hb with z | z
  ·exact n z
  ·rw[e]at z;cases z
 ·rcases q.nw a ha with z | z
  ·exact p.nw a z
  ·by_cases hm:a∈μ
   ·exact .inl hm
   ·right
    cases e:H a with
    | none=>rfl
    | some o=>rw[p.fr a o e hm]at z;cases z
theorem aK.get(p:aK μ H μ' H'){n:Nat}{a:Addr}(h:μ[n]? =some a):μ'[n]? =some a:=by
 obtain⟨t,rfl⟩:=p.pre;rw[List.getElem?_append_left (List.getElem?_eq_some_iff.mp h).1];exact h
theorem Rep.ZO(R:Rep K μ mh H)(p:aK μ H μ' H'){a:Addr}{vs:List V}(h:nQ K H a vs):nQ K H' a vs:=by
 rcases h with (h | ⟨o,h⟩) | h
 ·refine .inl (.inl (p.fr _ _ h λhm=>?_));have:=R.mut hm;rw[h]at this;exact this
 ·refine .inl (.inr ⟨o,p.fr _ _ h λhm=>?_⟩);have:=R.mut hm;rw[h]at this;exact this
 ·exact .inr h
theorem Rep.ZP(R:Rep K μ mh H)(p:aK μ H μ' H'){a:Addr}{vs:List V}(h:OE K H a vs):OE K H' a vs:=by
 rcases h with ⟨o,h⟩ | h
 ·refine .inl ⟨o,p.fr _ _ h λhm=>?_⟩;have:=R.mut hm;rw[h]at this;exact this
 ·exact .inr h
mutual
theorem Is.mono(R:Rep K μ mh H)(p:aK μ H μ' H'):∀(d:D) (v:V),Is K μ H d v->Is K μ' H' d v
 | .b7,v,h=>by unfold Is at*;exact h
 | .bl _,v,h=>by unfold Is at*;exact h
 | .int _,v,h=>by unfold Is at*;exact h
 | .str _,v,h=>by unfold Is at*;exact h
 | .ty _,v,h=>by unfold Is at*;exact h
 | .tup ds,v,h=>by
  unfold Is at*;obtain⟨a,vs,e,s,l⟩:=h;exact⟨a,vs,e,R.ZO p s,IsL.mono R p ds vs l⟩
 | .fl ds,v,h=>by
  unfold Is at*;obtain⟨a,vs,e,s,l⟩:=h;exact⟨a,vs,e,R.ZP p s,IsL.mono R p ds vs l⟩
 | .ref n,v,h=>by
  unfold Is at*;obtain⟨a,e,q⟩:=h;exact⟨a,p.get e,q⟩
theorem IsL.mono(R:Rep K μ mh H)(p:aK μ H μ' H'):∀(ds:List D) (vs:List V),IsL K μ H ds vs->IsL K μ' H' ds vs
 | [],vs,h=>by unfold IsL at*;exact h
 | d::ds,vs,h=>by
  unfold IsL at*;obtain⟨v,r,e,q,l⟩:=h;exact⟨v,r,e,Is.mono R p d v q,IsL.mono R p ds r l⟩
end
theorem cH.mono{ρ:eK}{σ:L2.St}(R:Rep K μ mh H)(p:aK μ H μ' H')(E:cH K μ H ρ σ):cH K μ' H' ρ σ:=⟨E.1,λi d e=>by
 obtain⟨v,h1,h2⟩:=E.2 i d e
 exact⟨v,h1,Is.mono R p d v h2⟩⟩
theorem lJ.mono{o:MO}{a:Addr}(R:Rep K μ mh H)(p:aK μ H μ' H')(e:H' a=H a)(h:lJ K μ H o a):lJ K μ' H' o a:=by
 cases o with
 | lst ds=>obtain⟨vs,q,l⟩:=h;exact⟨vs,by rw[e];exact q,IsL.mono R p ds vs l⟩
 | dic t kvs=>obtain⟨vs,q,l⟩:=h;exact⟨vs,by rw[e];exact q,IsL.mono R p _ vs l⟩
 | fdc t kvs ob=>obtain⟨vs,u,q,q2,l⟩:=h;exact⟨vs,u,by rw[e];exact q,q2,IsL.mono R p _ vs l⟩
theorem aK.new{o:HO}{q:Addr}(R:Rep K μ mh H)(hq:H q=none):aK μ H μ (upd H q o):=
 ⟨⟨[],by simp⟩,λb u e _=>by rw[aM (bM e hq)];exact e,λ_ h=>.inl h⟩
theorem Rep.ne(R:Rep K μ mh H){q a:Addr}(hq:H q=none)(h:a∈μ):a≠q:=by
 rintro rfl;have:=R.mut h;rw[hq]at this;exact this
theorem Rep.new{o:HO}{q:Addr}(R:Rep K μ mh H)(hq:H q=none):Rep K μ mh (upd H q o):=
 ⟨R.len,R.nd,λn a ob h1 h2=>(R.obj n a ob h1 h2).mono R (aK.new R hq) (aM (R.ne hq (aFf h1)))⟩
theorem aK.IH{q:Addr}{o:HO}(R:Rep K μ mh H)(hq:H q=none):aK μ H (μ++[q]) (upd H q o):=
 ⟨⟨[q],rfl⟩,λb u e _=>by rw[aM (bM e hq)];exact e,λa h=>by
  rcases aFb.mp h with h | h
  ·exact .inl h
  ·simp at h;subst h;exact .inr hq⟩
theorem Rep.IH{q:Addr}{vs:List V}{ds:List D}(R:Rep K μ mh H)(hq:H q=none)(l:IsL K μ H ds vs):Rep K (μ++[q]) (mh++[.lst ds]) (upd H q (.lst vs)):=by
 have P:aK μ H (μ++[q]) (upd H q (.lst vs)):=aK.IH R hq;refine⟨by simp[R.len],?_,λn a ob h1 h2=>?_⟩
 ·rw[List.nodup_append];refine⟨R.nd,by simp,λa ha b hb=>?_⟩;simp at hb;subst hb;exact R.ne hq ha
 ·by_cases hn:n<μ.length
  ·rw[List.getElem?_append_left hn]at h1;rw[List.getElem?_append_left (by rw[<-R.len];exact hn)]at h2;exact(R.obj n a ob h1 h2).mono R P (aM (R.ne hq (aFf h1)))
  ·rw[List.getElem?_append_right (by lia)]at h1;rw[List.getElem?_append_right (by rw[<-R.len];lia)]at h2
   have hz:n-μ.length=0:=by
    have:=(aF6.mp h1).1;simp at this;lia
   rw[hz]at h1;rw[<-R.len,hz]at h2;simp at h1 h2;subst h1 h2;exact⟨vs,bK,l.mono R P⟩
theorem aK.set{n:Nat}{a:Addr}{o:HO}(R:Rep K μ mh H)(h:μ[n]? =some a):aK μ H μ (upd H a o):=
 ⟨⟨[],by simp⟩,λb u e hb=>by rw[aM (λz=>hb (by rw[z];exact List.mem_of_getElem? h))];exact e,λ_ h=>.inl h⟩
theorem GG{n m:Nat}{a:Addr}(nd:μ.Nodup)(h1:μ[n]? =some a)(h2:μ[m]? =some a):n=m:=by
 obtain⟨l1,e1⟩:=aF6.mp h1;obtain⟨l2,e2⟩:=aF6.mp h2;exact(List.getElem_inj nd).mp (e1.trans e2.symm)
theorem Rep.set{n:Nat}{a:Addr}{ds:List D}{vs:List V}(R:Rep K μ mh H)(h:μ[n]? =some a)(l:IsL K μ H ds vs):Rep K μ (mh.set n (.lst ds)) (upd H a (.lst vs)):=by
 have P:aK μ H μ (upd H a (.lst vs)):=aK.set R h;refine⟨by simp[R.len],R.nd,λm b ob h1 h2=>?_⟩;by_cases hm:m=n
 ·subst hm;rw[h]at h1;cases h1;have hl:m<mh.length:=by rw[<-R.len];exact(aF6.mp h).1
  rw[List.getElem?_set_self hl]at h2;cases h2;exact⟨vs,bK,l.mono R P⟩
 ·rw[List.getElem?_set_ne (Ne.symm hm)]at h2;exact(R.obj m b ob h1 h2).mono R P (aM λz=>hm (GG R.nd h1 (by rw[z];exact h)))
end
abbrev DK:=D->MH->Prop
abbrev WE:=eK->MH->DK->Prop
def Fin(K:aHw)(μ:List Addr)(H:Hp)(R:DK)(Q:VK):Prop:=
 ∀d mh',R d mh' ->∀μ' v H',aK μ H μ' H' ->Rep K μ' mh' H' ->Is K μ' H' d v->Q v H'
def tL(K:aHw)(w:WE):TE:=λσ H Q=>∃μ ρ mh R,Rep K μ mh H/\cH K μ H ρ σ/\w ρ mh R/\Fin K μ H R Q
def LE(X:Cx)(e:Expr)(w:WE):Prop:=PE X e (tL X.K w)
theorem PE.imp{X:Cx}{e:Expr}{t t' :TE}(h:PE X e t)(i:∀σ H Q,t' σ H Q->t σ H Q):PE X e t' :=λpins s σ H Q I q=>h pins s σ H Q I (i σ H Q q)
theorem Fin.at{K:aHw}{μ μ1:List Addr}{H H1:Hp}{R:DK}{Q:VK}(F:Fin K μ H R Q)(P:aK μ H μ1 H1):Fin K μ1 H1 R Q:=
 λd mh' r μ' v H' P' R' I=>F d mh' r μ' v H' (P.trans P') R' I
def aB(i:Nat):WE:=λρ mh Q=>∃d,ρ[i]? =some (some d)/\Q d mh
def wC(d:D):WE:=λ_ mh Q=>Q d mh
section
variable {X:Cx}{a b c:Expr}{wa wb wc:WE}{pos:Pos}
theorem V4(i:Nat){x:Str}(hN:X.N[i]? =some x:=by rfl)(hv:Vis X.env.scope x:=by first | exact Or.inl rfl | exact Or.inr (Or.inl rfl) | exact Or.inr (Or.inr rfl))(hd:(x==("__debug__":Str))=false:=by decide)
  (hcd:(x==("__classdict__":Str))=false:=by decide):LE X (.Name x pos) (aB i):=PE.imp (UY hN hv hd hcd) λσ H Q h=>by
 obtain⟨μ,ρ,mh,R,r,E,⟨d,hd,hR⟩,F⟩:=h;obtain⟨v,e,i⟩:=E.2 _ d hd;exact⟨v,e,F d mh hR μ v H aK.refl r i⟩
theorem Q3{e:Expr}{v:V}{d:D}(h:PE X e (tC v))(hI:∀μ H,Is X.K μ H d v):LE X e (wC d):=PE.imp h λσ H Q h=>by
 obtain⟨μ,ρ,mh,R,r,E,hR,F⟩:=h;exact F d mh hR μ v H aK.refl r (hI μ H)
theorem le_int{i:Int}{j}:LE X (.Constant (.int i) j pos) (wC (.int i)):=Q3 U3 λ_ _=>by unfold Is;rfl
theorem aB0{i:Bool}{j}:LE X (.Constant (.bool i) j pos) (wC (.bl i)):=Q3 aA6 λ_ _=>by unfold Is;rfl
theorem QY{x:Str}{d:D}{v:V}{u:Value}(hg:Gl X x)(hm:X.mg x=some u)(r:RelV v u)(hI:∀μ H,Is X.K μ H d v)(hd:(x==("__debug__":Str))=false:=by decide):LE X (.Name x pos) (wC d):=Q3 (PZ hg hm r hd) hI
theorem QX{x:Str}{T:String}(hg:Gl X x)(hm:X.mg x=none)(hv:bootBuiltins x=some (.type T))(hn:x≠ "__name__":=by decide)(hd:(x==("__debug__":Str))=false:=by decide):LE X (.Name x pos) (wC (.ty T)):=
 Q3 (P6 (v:= .ty T) hg hm hv rfl hn hd) λ_ _=>by unfold Is;rfl
abbrev O1:=D->MH->DK->Prop
abbrev O2:=D->D->MH->DK->Prop
def bI(K:aHw)(f:O2):R2:=λx y H Q=>∃μ mh dx dy R,Rep K μ mh H/\Is K μ H dx x/\Is K μ H dy y/\f dx dy mh R/\Fin K μ H R Q
def ME(K:aHw)(f:O1):V->Hp->VK->Prop:=λx H Q=>∃μ mh dx R,Rep K μ mh H/\Is K μ H dx x/\f dx mh R/\Fin K μ H R Q
def aV(f:O2)(wa wb:WE):WE:=λρ mh Q=>wa ρ mh λx mh1=>wb ρ mh1 λy mh2=>f x y mh2 Q
def HH(f:O1)(wa:WE):WE:=λρ mh Q=>wa ρ mh λx mh1=>f x mh1 Q
theorem GD{K:aHw}{f:O2}{σ:L2.St}{H:Hp}{Q:VK}(h:tL K (aV f wa wb) σ H Q):ZG (bI K f) (tL K wa) (tL K wb) σ H Q:=by
 obtain⟨μ,ρ,mh,R,RR,E,h,F⟩:=h;refine⟨μ,ρ,mh,_,RR,E,h,λdx mh1 h1 μ1 vx H1 P1 R1 I1=>⟨μ1,ρ,mh1,_,R1,E.mono RR P1,h1,λdy mh2 h2 μ2 vy H2 P2 R2 I2=>?_⟩⟩;exact⟨μ2,mh2,dx,dy,R,R2,Is.mono R1 P2 dx vx I1,I2,h2,F.at (P1.trans P2)⟩
theorem ZD{K:aHw}{f:O1}{σ:L2.St}{H:Hp}{Q:VK}(h:tL K (HH f wa) σ H Q):tUn (ME K f) (tL K wa) σ H Q:=by
 obtain⟨μ,ρ,mh,R,RR,E,h,F⟩:=h;exact⟨μ,ρ,mh,_,RR,E,h,λdx mh1 h1 μ1 vx H1 P1 R1 I1=>⟨μ1,mh1,dx,R,R1,I1,h1,F.at P1⟩⟩
theorem aAu{op:Operator}{f:O2}(ho:dP X (binaryOp op) (bI X.K f))(ha:LE X a wa)(hb:LE X b wb):LE X (.BinOp a op b pos) (aV f wa wb):=PE.imp (aA2 ho ha hb) λ_ _ _ h=>GD h
theorem aAs{op:UnaryOp}{f:O1}(ho:YU X (unaryOp op) (ME X.K f))(ha:LE X a wa):LE X (.UnaryOp op a pos) (HH f wa):=PE.imp (aA1 ho ha) λ_ _ _ h=>ZD h
theorem MI{op:CmpOp}{f:O2}(ho:dP X (compareOp op) (bI X.K f))(ha:LE X a wa)(hb:LE X b wb)(hm:behindInMarks op b=false):LE X (.Compare a [op] [b] pos) (aV f wa wb):=PE.imp (P0 ho ha hb hm) λ_ _ _ h=>GD h
theorem S2{f:O2}(ho:TJ X (bI X.K f))(ha:LE X a wa)(hb:LE X b wb)(hs:HD b):LE X (.Subscript a b pos) (aV f wa wb):=PE.imp (aA4 ho ha hb hs) λ_ _ _ h=>GD h
abbrev WT:=eK->MH->(Bool->MH->Prop)->Prop
def SI(K:aHw)(μ:List Addr)(H:Hp)(R:Bool->MH->Prop)(Q:Bool->Hp->Prop):Prop:=
 ∀b mh',R b mh' ->∀μ' H',aK μ H μ' H' ->Rep K μ' mh' H' ->Q b H'
def T6(K:aHw)(w:WT):TT:=λσ H Q=>∃μ ρ mh R,Rep K μ mh H/\cH K μ H ρ σ/\w ρ mh R/\SI K μ H R Q
def LT(X:Cx)(e:Expr)(w:WT):Prop:=PT X e (T6 X.K w)
def LW(X:Cx)(e:Expr)(w:WT):Prop:=PW X e (T6 X.K w)
theorem PT.imp{X:Cx}{e:Expr}{t t' :TT}(h:PT X e t)(i:∀σ H Q,t' σ H Q->t σ H Q):PT X e t' :=λpins s σ H Q I q=>h pins s σ H Q I (i σ H Q q)
theorem PW.imp{X:Cx}{e:Expr}{t t' :TT}(h:PW X e t)(i:∀σ H Q,t' σ H Q->t σ H Q):PW X e t' :=λwh pins s σ H Q I q=>h wh pins s σ H Q I (i σ H Q q)
theorem SI.at{K:aHw}{μ μ1:List Addr}{H H1:Hp}{R:Bool->MH->Prop}{Q:Bool->Hp->Prop}(F:SI K μ H R Q)(P:aK μ H μ1 H1):SI K μ1 H1 R Q:=
 λb mh' r μ' H' P' R' =>F b mh' r μ' H' (P.trans P') R'
def dW(w:WE):WT:=λρ mh Q=>w ρ mh λx mh1=>∃k,x= .bl k/\Q k mh1
theorem TX{K:aHw}{t:TE}{w:WE}{σ:L2.St}{H:Hp}{Q:Bool->Hp->Prop}(i:∀σ H Q,tL K w σ H Q->t σ H Q)(h:T6 K (dW w) σ H Q):SS t σ H Q:=by
 obtain⟨μ,ρ,mh,R,RR,E,h,F⟩:=h;refine i σ H _ ⟨μ,ρ,mh,_,RR,E,h,λdx mh1 h1 μ1 vx H1 P1 R1 I1=>?_⟩;obtain⟨k,rfl,h1⟩:=h1;unfold Is at I1;exact⟨k,I1,F k mh1 h1 μ1 H1 P1 R1⟩
theorem L9{op:CmpOp}{f:O2}(ho:dP X (compareOp op) (bI X.K f))(ha:LE X a wa)(hb:LE X b wb)(hm:behindInMarks op b=false):LT X (.Compare a [op] [b] pos) (dW (aV f wa wb)):=
 PT.imp (PL ho ha hb hm) λ_ _ _ h=>TX (λ_ _ _ z=>GD z) h
def jS(mh:MH):D->Option Bool
 | .b7=>some false
 | .bl b=>some b
 | .int i=>some (i !=0)
 | .str y=>if y.length<=sizeLine then some ((y.length:Int) !=0) else none
 | .tup ds=>some !ds.isEmpty
 | .fl ds=>some !ds.isEmpty
 | .ref n=>match mh[n]? with | some (.lst ds)=>some !ds.isEmpty | _=>none
 | .ty _=>none
theorem aJ{K:aHw}{μ:List Addr}{H:Hp}:∀{ds:List D} {vs:List V},IsL K μ H ds vs->vs.length=ds.length
 | [],vs,h=>by unfold IsL at h;subst h;rfl
 | d::ds,vs,h=>by unfold IsL at h;obtain⟨v,r,rfl,_,l⟩:=h;simp[aJ l]
theorem y4{K:aHw}{μ:List Addr}{H:Hp}{ds:List D}{vs:List V}(h:IsL K μ H ds vs):vs.isEmpty=ds.isEmpty:=by
 have:=aJ h;cases vs <;> cases ds <;> simp_all
theorem TZ{K:aHw}{μ:List Addr}{mh:MH}{H:Hp}{d:D}{v:V}{k:Bool}(R:Rep K μ mh H)(h:Is K μ H d v)(e:jS mh d=some k):YF K v H k:=by
 cases d with
 | b7=>unfold Is at h;subst h;simp[jS]at e;subst e;rfl
 | bl b=>unfold Is at h;subst h;simp[jS]at e;subst e;rfl
 | int i=>unfold Is at h;subst h;simp[jS]at e;subst e;rfl
 | str y=>
  unfold Is at h;subst h;simp only[jS]at e;split at e
  ·rename_i hl;exact⟨hl,(aFl e).symm⟩
  ·cases e
 | ty n=>simp[jS]at e
 | tup ds=>
  unfold Is at h;obtain⟨a,vs,rfl,s,l⟩:=h;obtain rfl:(!ds.isEmpty)=k:=aFl e;exact .inr (.inl ⟨vs,s,by rw[y4 l]⟩)
 | fl ds=>
  unfold Is at h;obtain⟨a,vs,rfl,s,l⟩:=h;obtain rfl:(!ds.isEmpty)=k:=aFl e;exact .inl ⟨vs,s.sq,by rw[y4 l]⟩
 | ref n=>
  unfold Is at h;obtain⟨a,q,rfl⟩:=h;simp only[jS]at e
  cases o:mh[n]? with
  | none=>rw[o]at e;cases e
  | some ob=>
   cases ob with
   | lst ds=>
    rw[o]at e;cases e;obtain⟨vs,hv,l⟩:=R.obj n a _ q o;exact .inl ⟨vs,.of hv,by rw[y4 l]⟩
   | dic t kvs=>rw[o]at e;cases e
   | fdc t kvs ob=>rw[o]at e;cases e
def xY(w:WE):WT:=λρ mh Q=>w ρ mh λx mh1=>∃k,jS mh1 x=some k/\Q k mh1
theorem L8(ha:LE X a wa)(he:∀whole,isTrue a X.env whole=(do let v<-whole;standAt a.pos;holding [v] (truthy v)):=by intro _;rfl):LT X a (xY wa):=PT.imp (K6 ha he) λσ H Q h=>by
 obtain⟨μ,ρ,mh,R,RR,E,h,F⟩:=h;refine⟨μ,ρ,mh,_,RR,E,h,λdx mh1 h1 μ1 vx H1 P1 R1 I1=>?_⟩;obtain⟨k,e,h1⟩:=h1;exact⟨k,TZ R1 I1 e,F k mh1 h1 μ1 H1 P1 R1⟩
def tB(t u:WT):WT:=λρ mh Q=>t ρ mh λc mh1=>if c=true then u ρ mh1 Q else Q false mh1
def OQ(t u:WT):WT:=λρ mh Q=>t ρ mh λc mh1=>if c=true then Q true mh1 else u ρ mh1 Q
def AQ(t:WT):WT:=λρ mh Q=>t ρ mh λc mh1=>Q (!c) mh1
variable {ta tb:WT}{rest:List Expr}
theorem QM(ha:LT X a ta):LW X (.BoolOp .And [a] pos) ta:=PF ha
theorem VS(ha:LT X a ta):LW X (.BoolOp .Or [a] pos) ta:=UM ha
theorem L7(ha:LT X a ta)(hb:LW X (.BoolOp .And (b::rest) pos) tb):LW X (.BoolOp .And (a::b::rest) pos) (tB ta tb):=PW.imp (UN ha hb) λσ H Q h=>by
 obtain⟨μ,ρ,mh,R,RR,E,h,F⟩:=h;refine⟨μ,ρ,mh,_,RR,E,h,λc mh1 h1 μ1 H1 P1 R1=>?_⟩
 cases c with
 | true=>rw[if_pos rfl]at h1⊢;exact⟨μ1,ρ,mh1,R,R1,E.mono RR P1,h1,F.at P1⟩
 | false=>rw[if_neg Bool.false_ne_true]at h1⊢;exact F false mh1 h1 μ1 H1 P1 R1
theorem aAn(ha:LT X a ta)(hb:LW X (.BoolOp .Or (b::rest) pos) tb):LW X (.BoolOp .Or (a::b::rest) pos) (OQ ta tb):=PW.imp (Z8 ha hb) λσ H Q h=>by
 obtain⟨μ,ρ,mh,R,RR,E,h,F⟩:=h;refine⟨μ,ρ,mh,_,RR,E,h,λc mh1 h1 μ1 H1 P1 R1=>?_⟩
 cases c with
 | true=>rw[if_pos rfl]at h1⊢;exact F true mh1 h1 μ1 H1 P1 R1
 | false=>rw[if_neg Bool.false_ne_true]at h1⊢;exact⟨μ1,ρ,mh1,R,R1,E.mono RR P1,h1,F.at P1⟩
theorem LW.lt(h:LW X a ta):LT X a ta:=PW.pt h
theorem VT(ha:LT X a ta):LT X (.UnaryOp .Not a pos) (AQ ta):=PT.imp (UO ha) λσ H Q h=>by
 obtain⟨μ,ρ,mh,R,RR,E,h,F⟩:=h;exact⟨μ,ρ,mh,_,RR,E,h,λc mh1 h1 μ1 H1 P1 R1=>F (!c) mh1 h1 μ1 H1 P1 R1⟩
def sZ(wa wb:WE):WE:=λρ mh Q=>wa ρ mh λx mh1=>∃c,x= .bl c/\if c=true then wb ρ mh1 Q else Q (.bl false) mh1
theorem V7{op}(ha:LE X a wa):LE X (.BoolOp op [a] pos) wa:=UZ ha
theorem WC(ha:LE X a wa)(hb:LE X (.BoolOp .And (b::rest) pos) wb):LE X (.BoolOp .And (a::b::rest) pos) (sZ wa wb):=PE.imp (U4 ha hb) λσ H Q h=>by
 obtain⟨μ,ρ,mh,R,RR,E,h,F⟩:=h;refine⟨μ,ρ,mh,_,RR,E,h,λdx mh1 h1 μ1 vx H1 P1 R1 I1=>?_⟩;obtain⟨c,rfl,h1⟩:=h1;unfold Is at I1;refine⟨c,I1,?_⟩
 cases c with
 | true=>rw[if_pos rfl]at h1⊢;exact⟨μ1,ρ,mh1,R,R1,E.mono RR P1,h1,F.at P1⟩
 | false=>rw[if_neg Bool.false_ne_true]at h1⊢;exact F _ mh1 h1 μ1 _ H1 P1 R1 (by unfold Is;rfl)
def FV(wa:WE):WE:=λρ mh Q=>wa ρ mh λx mh1=>∃c,x= .bl c/\Q (.bl !c) mh1
theorem V8(ha:LE X a wa):LE X (.UnaryOp .Not a pos) (FV wa):=PE.imp (U0 ha) λσ H Q h=>by
 obtain⟨μ,ρ,mh,R,RR,E,h,F⟩:=h;refine⟨μ,ρ,mh,_,RR,E,h,λdx mh1 h1 μ1 vx H1 P1 R1 I1=>?_⟩;obtain⟨c,rfl,h1⟩:=h1;unfold Is at I1;exact⟨c,I1,F _ mh1 h1 μ1 _ H1 P1 R1 (by unfold Is;rfl)⟩
def wIf(t:WT)(wa wb:WE):WE:=λρ mh Q=>t ρ mh λc mh1=>if c=true then wa ρ mh1 Q else wb ρ mh1 Q
theorem MG(hc:LT X c ta)(ha:LE X a wa)(hb:LE X b wb):LE X (.IfExp c a b pos) (wIf ta wa wb):=PE.imp (LJ hc ha hb) λσ H Q h=>by
 obtain⟨μ,ρ,mh,R,RR,E,h,F⟩:=h;refine⟨μ,ρ,mh,_,RR,E,h,λk mh1 h1 μ1 H1 P1 R1=>?_⟩
 cases k with
 | true=>rw[if_pos rfl]at h1⊢;exact⟨μ1,ρ,mh1,R,R1,E.mono RR P1,h1,F.at P1⟩
 | false=>rw[if_neg Bool.false_ne_true]at h1⊢;exact⟨μ1,ρ,mh1,R,R1,E.mono RR P1,h1,F.at P1⟩
end
abbrev WA:=eK->MH->(List D->MH->Prop)->Prop
def FinA(K:aHw)(μ:List Addr)(H:Hp)(R:List D->MH->Prop)(Q:List V->Hp->Prop):Prop:=
 ∀ds mh',R ds mh' ->∀μ' vs H',aK μ H μ' H' ->Rep K μ' mh' H' ->IsL K μ' H' ds vs->Q vs H'
def tLA(K:aHw)(w:WA):TA:=λσ H Q=>∃μ ρ mh R,Rep K μ mh H/\cH K μ H ρ σ/\w ρ mh R/\FinA K μ H R Q
def LA(X:Cx)(es:List Expr)(w:WA):Prop:=PA X es (tLA X.K w)
theorem PA.imp{X:Cx}{e:List Expr}{t t' :TA}(h:PA X e t)(i:∀σ H Q,t' σ H Q->t σ H Q):PA X e t' :=λpos pins s σ H Q I q=>h pos pins s σ H Q I (i σ H Q q)
def aF:WA:=λ_ mh Q=>Q [] mh
def aA(w:WE)(wr:WA):WA:=λρ mh Q=>w ρ mh λx mh1=>wr ρ mh1 λxs mh2=>Q (x::xs) mh2
def VN(ds:List D)(mh:MH)(Q:DK):Prop:=ds.length<=sizeLine/\Q (.tup ds) mh
def D6(ds:List D)(mh:MH)(Q:DK):Prop:=ds.length<=sizeLine/\Q (.ref mh.length) (mh++[.lst ds])
section
variable {K:aHw}{μ:List Addr}{mh:MH}{H:Hp}{R:DK}{Q:VK}{ds:List D}{vs:List V}
theorem lT(RR:Rep K μ mh H)(F:Fin K μ H R Q)(l:IsL K μ H ds vs)(h:R (.tup ds) mh):∀p,H p=none->Q (.ref p) (upd H p (.tup vs)):=λp hp=>
 F _ mh h μ _ _ (aK.new RR hp) (RR.new hp) (by unfold Is;exact⟨p,vs,rfl,.of bK,IsL.mono RR (aK.new RR hp) ds vs l⟩)
theorem hC(RR:Rep K μ mh H)(F:Fin K μ H R Q)(l:IsL K μ H ds vs)(h:R (.ref mh.length) (mh++[.lst ds])):∀p,H p=none->Q (.ref p) (upd H p (.lst vs)):=λp hp=>
 F _ _ h (μ++[p]) _ _ (aK.IH RR hp) (RR.IH hp l) (by unfold Is;exact⟨p,by rw[<-RR.len];simp,rfl⟩)
end
def d5(w:WA):WE:=λρ mh Q=>w ρ mh λds mh1=>VN ds mh1 Q
def sY(w:WA):WE:=λρ mh Q=>w ρ mh λds mh1=>D6 ds mh1 Q
section
variable {X:Cx}{e:Expr}{es:List Expr}{w:WE}{wr:WA}{pos:Pos}
theorem WK:LA X [] aF:=PA.imp D1 λσ H Q h=>by
 obtain⟨μ,ρ,mh,R,RR,E,h,F⟩:=h;exact F [] mh h μ [] H aK.refl RR (by unfold IsL;rfl)
theorem Q5(ha:LE X e w)(hr:LA X es wr)(hs:starEach (e::es) X.env=(false,eval e X.env)::starEach es X.env:=by rfl):LA X (e::es) (aA w wr):=PA.imp (yH ha hr hs) λσ H Q h=>by
 obtain⟨μ,ρ,mh,R,RR,E,h,F⟩:=h;refine⟨μ,ρ,mh,_,RR,E,h,λdx mh1 h1 μ1 vx H1 P1 R1 I1=>⟨μ1,ρ,mh1,_,R1,E.mono RR P1,h1,λds mh2 h2 μ2 vs H2 P2 R2 I2=>?_⟩⟩;exact F _ mh2 h2 μ2 _ H2 (P1.trans P2) R2 (by unfold IsL;exact⟨vx,vs,rfl,Is.mono R1 P2 dx vx I1,I2⟩)
theorem V5{x1}(h:LA X es wr):LE X (.Tuple es x1 pos) (d5 wr):=PE.imp (LG h) λσ H Q h=>by
 obtain⟨μ,ρ,mh,R,RR,E,h,F⟩:=h;refine⟨μ,ρ,mh,_,RR,E,h,λds mh1 h1 μ1 vs H1 P1 R1 I1=>⟨by rw[aJ I1];exact h1.1,lT R1 (F.at P1) I1 h1.2⟩⟩
theorem V9(h:LA X es wr):LE X (.List es pos) (sY wr):=PE.imp (U1 h) λσ H Q h=>by
 obtain⟨μ,ρ,mh,R,RR,E,h,F⟩:=h;refine⟨μ,ρ,mh,_,RR,E,h,λds mh1 h1 μ1 vs H1 P1 R1 I1=>⟨by rw[aJ I1];exact h1.1,hC R1 (F.at P1) I1 h1.2⟩⟩
abbrev OA:=List D->MH->DK->Prop
def c7(K:aHw)(f:OA):List V->Hp->VK->Prop:=λxs H Q=>∃μ mh ds R,Rep K μ mh H/\IsL K μ H ds xs/\f ds mh R/\Fin K μ H R Q
def aE(f:OA)(w:WA):WE:=λρ mh Q=>w ρ mh λds mh1=>f ds mh1 Q
theorem call_in{K:aHw}{f:OA}{σ:L2.St}{H:Hp}{Q:VK}(h:tL K (aE f wr) σ H Q):tCB (c7 K f) (tLA K wr) σ H Q:=by
 obtain⟨μ,ρ,mh,R,RR,E,h,F⟩:=h;exact⟨μ,ρ,mh,_,RR,E,h,λds mh1 h1 μ1 vs H1 P1 R1 I1=>⟨μ1,mh1,ds,R,R1,I1,h1,F.at P1⟩⟩
theorem MK{x:Str}{p:Pos}{id:String}{f:OA}(hc:bY X (.builtin id) (c7 X.K f))(hg:Gl X x)(hm:X.mg x=none)(hv:bootBuiltins x=some (.builtin id))(ha:LA X (e::es) wr)(hn:x≠ "__name__":=by decide)(hdb:(x==("__debug__":Str))=false:=by decide)
  (he:starEach (e::es) X.env=(false,eval e X.env)::starEach es X.env:=by rfl) (hpl:(backTo pos (starEach es X.env)).any (·.1)=false:=by rfl):LE X (.Call (.Name x p) (e::es) [] pos) (aE f wr):=
 PE.imp (BF hc hg hm hv ha hn hdb he hpl) λ_ _ _ h=>call_in h
theorem IP{x:Str}{p:Pos}{T:String}{f:OA}(hc:bY X (.type T) (c7 X.K f))(hg:Gl X x)(hm:X.mg x=none)(hv:bootBuiltins x=some (.type T))(ha:LA X (e::es) wr)(hn:x≠ "__name__":=by decide)(hdb:(x==("__debug__":Str))=false:=by decide)
  (he:starEach (e::es) X.env=(false,eval e X.env)::starEach es X.env:=by rfl) (hpl:(backTo pos (starEach es X.env)).any (·.1)=false:=by rfl):LE X (.Call (.Name x p) (e::es) [] pos) (aE f wr):=
 PE.imp (wU hc hg hm hv ha hn hdb he hpl) λ_ _ _ h=>call_in h
def N8(K:aHw)(f:OA):Sp:=λvs H Q _=>c7 K f vs H Q
theorem Q2{k:Nat}{f:Addr}{fd:FuncData}{ps:List Str}{x:Str}{p:Pos}{s:OA}(F:iU X.prog X.w X.K X.mg X.base DB k f fd ps (N8 X.K s))(hr:fN k X.A)(hg:Gl X x)(hm:X.mg x=some (.ref f))(hk:PySem.W.keepIn X.K (.ref f)=true)(hb:Binds X.K fd ps [])
  (ha:LA X (e::es) wr) (hdb:(x==("__debug__":Str))=false:=by decide) (he:starEach (e::es) X.env=(false,eval e X.env)::starEach es X.env:=by rfl) (hpl:(backTo pos (starEach es X.env)).any (·.1)=false:=by rfl):
  LE X (.Call (.Name x p) (e::es) [] pos) (aE s wr):=PE.imp (P5 F hr hg hm hk hb .nil aA7 ha hdb he hpl) λσ H Q h=>by
 obtain⟨μ,ρ,mh,R,RR,E,h,Fi⟩:=h;refine⟨μ,ρ,mh,_,RR,E,h,λds mh1 h1 μ1 vs H1 P1 R1 I1=>?_⟩;show c7 X.K s (vs++[]) H1 Q;rw[List.append_nil];exact⟨μ1,mh1,ds,R,R1,I1,h1,Fi.at P1⟩
end
section
variable {K:aHw}{μ:List Addr}{mh:MH}{H:Hp}
theorem Is.int{i:Int}:Is K μ H (.int i) (.int i):=by unfold Is;rfl
theorem Is.str{i:Str}:Is K μ H (.str i) (.str i):=by unfold Is;rfl
theorem Is.bl{i:Bool}:Is K μ H (.bl i) (.bl i):=by unfold Is;rfl
theorem Is.b7:Is K μ H .b7 .b7:=by unfold Is;rfl
theorem bF{i:Int}{v:V}(h:Is K μ H (.int i) v):v= .int i:=by unfold Is at h;exact h
theorem dO{i:Str}{v:V}(h:Is K μ H (.str i) v):v= .str i:=by unfold Is at h;exact h
theorem GS{i:Bool}{v:V}(h:Is K μ H (.bl i) v):v= .bl i:=by unfold Is at h;exact h
theorem MW{v:V}(h:Is K μ H .b7 v):v= .b7:=by unfold Is at h;exact h
theorem c8{ds:List D}{v:V}(h:Is K μ H (.tup ds) v):∃a vs,v= .ref a/\nQ K H a vs/\IsL K μ H ds vs:=by unfold Is at h;exact h
theorem pB{ds:List D}{v:V}(h:Is K μ H (.fl ds) v):∃a vs,v= .ref a/\OE K H a vs/\IsL K μ H ds vs:=by unfold Is at h;exact h
theorem i6{n:Nat}{v:V}(h:Is K μ H (.ref n) v):∃a,μ[n]? =some a/\v= .ref a:=by unfold Is at h;exact h
theorem eD:∀{ds:List D} {vs:List V} {i:Nat} {d:D},IsL K μ H ds vs->ds[i]? =some d->∃v,vs[i]? =some v/\Is K μ H d v
 | [],_,_,_,_,e=>by simp at e
 | x::ds,vs,i,d,h,e=>by
  unfold IsL at h;obtain⟨v,r,rfl,q,l⟩:=h
  cases i with
  | zero=>simp at e;subst e;exact⟨v,rfl,q⟩
  | succ i=>obtain⟨u,h1,h2⟩:=eD (i:=i) l (by simpa using e);exact⟨u,by simpa using h1,h2⟩
theorem fV:∀{ds es:List D} {vs us:List V},IsL K μ H ds vs->IsL K μ H es us->IsL K μ H (ds++es) (vs++us)
 | [],es,vs,us,h,q=>by unfold IsL at h;subst h;exact q
 | d::ds,es,vs,us,h,q=>by
  unfold IsL at h;obtain⟨v,r,rfl,i,l⟩:=h;show IsL K μ H (d::(ds++es)) (v::(r++us));unfold IsL;exact⟨v,_,rfl,i,fV l q⟩
theorem pC{d:D}{v:V}(h:Is K μ H d v):IsL K μ H [d] [v]:=by unfold IsL;exact⟨v,[],rfl,h,by unfold IsL;rfl⟩
theorem CA:∀(n:Nat) {ds:List D} {vs:List V},IsL K μ H ds vs->IsL K μ H (ds.drop n) (vs.drop n)
 | 0,_,_,h=>by simpa using h
 | n+1,[],vs,h=>by unfold IsL at h;subst h;simp[IsL]
 | n+1,d::ds,vs,h=>by unfold IsL at h;obtain⟨v,r,rfl,_,l⟩:=h;simpa using CA n l
theorem B8:∀(n:Nat) {ds:List D} {vs:List V},IsL K μ H ds vs->IsL K μ H (ds.take n) (vs.take n)
 | 0,_,_,h=>by simp[IsL]
 | n+1,[],vs,h=>by unfold IsL at h;subst h;simp[IsL]
 | n+1,d::ds,vs,h=>by
  unfold IsL at h;obtain⟨v,r,rfl,i,l⟩:=h;simp only[List.take_succ_cons];unfold IsL;exact⟨v,_,rfl,i,B8 n l⟩
theorem GV:∀(n:Nat) {ds:List D} {vs:List V} {d:D} {v:V},Is K μ H d v->IsL K μ H ds vs->IsL K μ H (ds.set n d) (vs.set n v)
 | n,[],vs,d,v,_,h=>by unfold IsL at h;subst h;simp[IsL]
 | 0,x::ds,vs,d,v,i,h=>by unfold IsL at h;obtain⟨u,r,rfl,_,l⟩:=h;simp only[List.set_cons_zero];unfold IsL;exact⟨v,r,rfl,i,l⟩
 | n+1,x::ds,vs,d,v,i,h=>by unfold IsL at h;obtain⟨u,r,rfl,q,l⟩:=h;simp only[List.set_cons_succ];unfold IsL;exact⟨u,_,rfl,q,GV n i l⟩
theorem W6{ds:List D}{vs:List V}{i:Int}{d:D}(l:IsL K μ H ds vs)(e:nO ds i=some d):∃v,nO vs i=some v/\Is K μ H d v:=by
 unfold nO at*;rw[aJ l]
 cases q:EL ds.length i with
 | none=>rw[q]at e;cases e
 | some j=>rw[q]at e;exact eD l e
def bA(mh:MH):D->Option (List D)
 | .tup ds=>some ds
 | .fl ds=>some ds
 | .ref n=>match mh[n]? with | some (.lst ds)=>some ds | _=>none
 | _=>none
theorem nB{d:D}{v:V}{ds:List D}(R:Rep K μ mh H)(h:Is K μ H d v)(e:bA mh d=some ds):∃a vs,v= .ref a/\(nS K H a vs\/nQ K H a vs)/\IsL K μ H ds vs:=by
 cases d with
 | tup es=>obtain⟨a,vs,rfl,s,l⟩:=c8 h;cases e;exact⟨a,vs,rfl,.inr s,l⟩
 | fl es=>obtain⟨a,vs,rfl,s,l⟩:=pB h;cases e;exact⟨a,vs,rfl,.inl s.sq,l⟩
 | ref n=>
  obtain⟨a,q,rfl⟩:=i6 h;simp only[bA]at e
  cases o:mh[n]? with
  | none=>rw[o]at e;cases e
  | some ob=>
   cases ob with
   | lst es=>
    rw[o]at e;cases e;obtain⟨vs,hv,l⟩:=R.obj n a _ q o;exact⟨a,vs,rfl,.inl (.of hv),l⟩
   | dic t kvs=>rw[o]at e;cases e
   | fdc t kvs ob=>rw[o]at e;cases e
 | _=>cases e
def jV(mh:MH):D->Option (List D)
 | .fl ds=>some ds
 | .ref n=>match mh[n]? with | some (.lst ds)=>some ds | _=>none
 | _=>none
theorem nF{d:D}{v:V}{ds:List D}(R:Rep K μ mh H)(h:Is K μ H d v)(e:jV mh d=some ds):∃a vs,v= .ref a/\nS K H a vs/\IsL K μ H ds vs:=by
 cases d with
 | fl es=>obtain⟨a,vs,rfl,s,l⟩:=pB h;cases e;exact⟨a,vs,rfl,s.sq,l⟩
 | ref n=>
  obtain⟨a,q,rfl⟩:=i6 h;simp only[jV]at e
  cases o:mh[n]? with
  | none=>rw[o]at e;cases e
  | some ob=>
   cases ob with
   | lst es=>
    rw[o]at e;cases e;obtain⟨vs,hv,l⟩:=R.obj n a _ q o;exact⟨a,vs,rfl,.of hv,l⟩
   | dic t kvs=>rw[o]at e;cases e
   | fdc t kvs ob=>rw[o]at e;cases e
 | _=>cases e
theorem fK{n:Nat}{v:V}{ds:List D}(R:Rep K μ mh H)(h:Is K μ H (.ref n) v)(e:mh[n]? =some (.lst ds)):∃a vs,v= .ref a/\μ[n]? =some a/\H a=some (.lst vs)/\IsL K μ H ds vs:=by
 obtain⟨a,q,rfl⟩:=i6 h;obtain⟨vs,hv,l⟩:=R.obj n a _ q e;exact⟨a,vs,rfl,q,hv,l⟩
theorem Fin.here{R:DK}{Q:VK}{d:D}{v:V}(F:Fin K μ H R Q)(RR:Rep K μ mh H)(h:R d mh)(i:Is K μ H d v):Q v H:=F d mh h μ v H aK.refl RR i
theorem Fin.put{R:DK}{Q:VK}{d:D}{v:V}{n:Nat}{a:Addr}{ds:List D}{vs:List V}(F:Fin K μ H R Q)(RR:Rep K μ mh H)(hn:μ[n]? =some a)(l:IsL K μ H ds vs)(h:R d (mh.set n (.lst ds)))(i:Is K μ H d v):Q v (upd H a (.lst vs)):=
 F d _ h μ v _ (aK.set RR hn) (RR.set hn l) (Is.mono RR (aK.set RR hn) d v i)
end
def BH(C:Int->Int->Prop)(g:Int->Int->D):O2:=λx y mh Q=>∃i j,x= .int i/\y= .int j/\C i j/\Q (g i j) mh
section
variable {X:Cx}
theorem uC{f:Value->Value->Sem Value}{C:Int->Int->Prop}{g:Int->Int->V}{g' :Int->Int->D}(h:dP X f (rI C g))(hg:∀μ H i j,Is X.K μ H (g' i j) (g i j)):dP X f (bI X.K (BH C g')):=by
 intro pins s σ H x y v u Q I rx ry q;obtain⟨μ,mh,dx,dy,R,RR,ix,iy,⟨i,j,rfl,rfl,c,q⟩,F⟩:=q;cases bF ix;cases bF iy;exact h pins s σ H _ _ v u Q I rx ry ⟨i,j,rfl,rfl,c,F.here RR q (hg _ _ _ _)⟩
theorem Z6{f:Value->Value->Sem Value}{g:Int->Int->V}(h:dP X f (N9 g)):dP X f (rI (λ_ _=>True) g):=λpins s σ H x y v u Q I rx ry zz0=>by obtain⟨i,j,e1,e2,_,q⟩:=zz0;exact h pins s σ H x y v u Q I rx ry ⟨i,j,e1,e2,q⟩
abbrev l9:O2:=BH (λ_ _=>True) λi j=>.int (i-j)
abbrev jT:O2:=BH JW λi j=>.int (i*j)
abbrev GF:O2:=BH aBx λi j=>.int (i / j)
abbrev oMod:O2:=BH (λ_ j=>0<j) λi j=>.int (i % j)
abbrev LQ:O2:=BH YI λi j=>.int (i^j.toNat)
theorem VE:dP X (binaryOp .Sub) (bI X.K l9):=uC (Z6 U7) λ_ _ _ _=>.int
theorem VG:dP X (binaryOp .Mult) (bI X.K jT):=uC U9 λ_ _ _ _=>.int
theorem QE:dP X (binaryOp .FloorDiv) (bI X.K GF):=uC QA λ_ _ _ _=>.int
theorem VH:dP X (binaryOp .Mod) (bI X.K oMod):=uC VA λ_ _ _ _=>.int
theorem VF:dP X (binaryOp .Pow) (bI X.K LQ):=uC U8 λ_ _ _ _=>.int
def qB:O1:=λx mh Q=>∃i,x= .int i/\Q (.int (-i)) mh
theorem TR:YU X (unaryOp .USub) (ME X.K qB):=by
 intro pins s σ H x v Q I rx q;obtain⟨μ,mh,dx,R,RR,ix,⟨i,rfl,q⟩,F⟩:=q;cases bF ix;exact TQ pins s σ H _ v Q I rx ⟨i,rfl,F.here RR q .int⟩
def gC:O2:=λx y mh Q=>match x with
 | .int i=>match y with | .int j=>Q (.int (i+j)) mh | _=>False
 | .str i=>match y with | .str j=>i.length+j.length<=sizeLine/\Q (.str (i++j)) mh | _=>False
 | .tup i=>match y with | .tup j=>i.length+j.length<=sizeLine/\Q (.tup (i++j)) mh | _=>False
 | .ref n=>match y with | .ref m=>∃i j,mh[n]? =some (.lst i)/\mh[m]? =some (.lst j)/\D6 (i++j) mh Q | _=>False
 | _=>False
theorem NV{prog:Program}{w:World}{A:Around}{E:aHx}{s:Shared}{t b:Addr}{ws:List Value}{Q:aHx}(ht:IsTup s.heap t ([]:List Value).toArray)(hb:IsTup s.heap b ws.toArray)
  (h:Q (.ref b) s):wpAny (model prog w) A (binaryOp .Add (.ref t) (.ref b)) Q E s:=by
 obtain⟨⟨cls,dd,data,sl⟩,ho,hc,n,hd⟩:=id ht;obtain⟨⟨cls2,dd2,data2,sl2⟩,ho2,hc2,n2,hd2⟩:=id hb;simp only at hc hd hc2 hd2;subst hc hd hc2 hd2
 exact concat_meets ⟨_,ho,rfl⟩ ⟨_,ho2,rfl⟩ noFill_tuple_add seq_tuple_add PySem.F.slot_tuple_add PySem.F.entry_tuple_add (PySem.F.args_tuple_add_2 _ _)
   (tuple_addW0 t b _ ws.toArray n n2 dd dd2 sl sl2 (by simp)) ⟨ho,ho2,h⟩
theorem VI:dP X (binaryOp .Add) (bI X.K gC):=by
 intro pins s σ H x y v u Q I rx ry q;obtain⟨μ,mh,dx,dy,R,RR,ix,iy,q,F⟩:=q
 cases dx with
 | int i=>cases dy with
  | int j=>cases bF ix;cases bF iy;exact VC pins s σ H _ _ v u Q I rx ry ⟨i,j,rfl,rfl,F.here RR q .int⟩
  | _=>exact False.elim q
 | str i=>cases dy with
  | str j=>cases dO ix;cases dO iy;exact D2 pins s σ H _ _ v u Q I rx ry ⟨i,j,rfl,rfl,q.1,F.here RR q.2 .str⟩
  | _=>exact False.elim q
 | tup i=>cases dy with
  | tup j=>
   obtain⟨a,xs,rfl,sa,la⟩:=c8 ix;obtain⟨b,ys,rfl,sb,lb⟩:=c8 iy;by_cases hx:xs=[]
   ·subst hx;cases rx;cases ry;obtain⟨aG,r1,p1,_⟩:=I.tuple sa;obtain⟨its2,r2,p2,_⟩:=I.tuple sb;cases r1;have hi:i=[]:=by have:=aJ la;cases i <;> simp_all
    subst hi;exact NV p1 p2 ⟨.ref b,H,I,rfl,F.here RR q.2 iy⟩
   ·refine QB pins s σ H _ _ v u Q I rx ry ⟨a,b,xs,ys,rfl,rfl,sa,sb,hx,by rw[aJ la,aJ lb];exact q.1,λe=>?_,λ_=>lT RR F (fV la lb) q.2⟩;subst e;have hj:j=[]:=by have:=aJ lb;cases j <;> simp_all
    subst hj;exact F.here RR q.2 (by simpa using ix)
  | _=>exact False.elim q
 | ref n=>cases dy with
  | ref m=>
   obtain⟨i,j,e1,e2,q⟩:=q;obtain⟨a,xs,rfl,_,sa,la⟩:=fK RR ix e1;obtain⟨b,ys,rfl,_,sb,lb⟩:=fK RR iy e2;exact VB pins s σ H _ _ v u Q I rx ry ⟨a,b,xs,ys,rfl,rfl,sa,sb,by rw[aJ la,aJ lb,<-List.length_append];exact q.1,hC RR F (fV la lb) q.2⟩
  | _=>exact False.elim q
 | _=>exact False.elim q
def fE:O2:=λx y mh Q=>∃i,y= .int i/\match x with
 | .str z=>z.length<=sizeLine/\∃c,nO z.cps.toList i=some c/\Q (.str ⟨#[c]⟩) mh
 | _=>∃ds d,bA mh x=some ds/\nO ds i=some d/\Q d mh
theorem ixl:TJ X (bI X.K fE):=by
 intro value slice pins s σ H x y v u Q I rx ry q hs;obtain⟨μ,mh,dx,dy,R,RR,ix,iy,⟨i,rfl,q⟩,F⟩:=q;cases bF iy
 have go:(∃ds d,bA mh dx=some ds/\nO ds i=some d/\R d mh)->wpAny (model X.prog X.w) X.A (subscriptTail value slice v u) (EP X pins σ Q) X.xe s:=λzz1=>by
  obtain⟨ds,d,e1,e2,q⟩:=zz1;obtain⟨a,vs,rfl,sq,l⟩:=nB RR ix e1;obtain⟨z,e3,iz⟩:=W6 l e2;rcases sq with sq | sq
  ·exact Q6 value slice pins s σ H _ _ v u Q I rx ry ⟨a,vs,i,z,rfl,rfl,sq,e3,F.here RR q iz⟩ hs
  ·exact WX value slice pins s σ H _ _ v u Q I rx ry ⟨a,vs,i,z,rfl,rfl,sq,e3,F.here RR q iz⟩ hs
 cases dx with
 | str z=>
  obtain⟨hz,c,e,q⟩:=q;cases dO ix;exact WY value slice pins s σ H _ _ v u Q I rx ry ⟨z,i,c,rfl,rfl,hz,e,F.here RR q .str⟩ hs
 | _=>exact go q
def aB6:D->Bool | .b7=>true | _=>false
def eT:OA:=λxs mh Q=>∃x,xs=[x]/\match x with
 | .str z=>z.length<=sizeLine/\Q (.int z.length) mh
 | _=>∃ds,bA mh x=some ds/\Q (.int ds.length) mh
theorem gG{K:aHw}{μ:List Addr}{H:Hp}{d:D}{vs:List V}(h:IsL K μ H [d] vs):∃v,vs=[v]/\Is K μ H d v:=by
 unfold IsL at h;obtain⟨v,r,rfl,i,l⟩:=h;unfold IsL at l;subst l;exact⟨v,rfl,i⟩
theorem CB{K:aHw}{μ:List Addr}{H:Hp}{d e:D}{vs:List V}(h:IsL K μ H [d,e] vs):∃v u,vs=[v,u]/\Is K μ H d v/\Is K μ H e u:=by
 unfold IsL at h;obtain⟨v,r,rfl,i,l⟩:=h;obtain⟨u,rfl,j⟩:=gG l;exact⟨v,u,rfl,i,j⟩
theorem X1:bY X (.builtin "len") (c7 X.K eT):=by
 intro pins s σ H xs us Q I r q;obtain⟨μ,mh,ds,R,RR,il,⟨x,rfl,q⟩,F⟩:=q;obtain⟨v,rfl,iv⟩:=gG il
 have go:(∃ds,bA mh x=some ds/\R (.int ds.length) mh)->wpAny (model X.prog X.w) X.A (call (.builtin "len") us) (EP X pins σ Q) X.xe s:=λzz2=>by
  obtain⟨es,e,q⟩:=zz2;obtain⟨a,vs,rfl,sq,l⟩:=nB RR iv e;exact zO pins s σ H _ us Q I r ⟨a,vs,rfl,sq,F.here RR q (by rw[aJ l];exact .int)⟩
 cases x with
 | str z=>cases dO iv;exact zN pins s σ H _ us Q I r ⟨z,rfl,q.1,F.here RR q.2 .int⟩
 | _=>exact go q
def SD:OA:=λxs mh Q=>∃i,xs=[.int i]/\Q (.int (if i<0 then -i else i)) mh
theorem X4:bY X (.builtin "abs") (c7 X.K SD):=by
 intro pins s σ H xs us Q I r q;obtain⟨μ,mh,ds,R,RR,il,⟨i,rfl,q⟩,F⟩:=q;obtain⟨v,rfl,iv⟩:=gG il;cases bF iv;exact NX pins s σ H _ us Q I r ⟨i,rfl,F.here RR q .int⟩
def C9:OA:=λxs mh Q=>∃i j,xs=[.int i,.int j]/\Q (.int (if j > i then j else i)) mh
def xR:OA:=λxs mh Q=>∃i j,xs=[.int i,.int j]/\Q (.int (if j<i then j else i)) mh
theorem RU(hc:X.calm=true):bY X (.builtin "max") (c7 X.K C9):=by
 intro pins s σ H xs us Q I r q;obtain⟨μ,mh,ds,R,RR,il,⟨i,j,rfl,q⟩,F⟩:=q;obtain⟨v,u,rfl,iv,iu⟩:=CB il;cases bF iv;cases bF iu;exact JO hc pins s σ H _ us Q I r ⟨i,j,rfl,F.here RR q .int⟩
theorem RS(hc:X.calm=true):bY X (.builtin "min") (c7 X.K xR):=by
 intro pins s σ H xs us Q I r q;obtain⟨μ,mh,ds,R,RR,il,⟨i,j,rfl,q⟩,F⟩:=q;obtain⟨v,u,rfl,iv,iu⟩:=CB il;cases bF iv;cases bF iu;exact JN hc pins s σ H _ us Q I r ⟨i,j,rfl,F.here RR q .int⟩
theorem UA{pins:List (Addr×Obj)}{σ:L2.St}{H:Hp}{s:Shared}{a:Addr}{vs:List V}(I:Inv X pins σ H s)(h:nS X.K H a vs\/nQ X.K H a vs):vs.length<=sizeLine:=by
 rcases h with h | h
 ·obtain⟨_,_,_,z⟩:=I.list h;exact z
 ·obtain⟨_,_,_,z⟩:=I.tuple h;exact z
def vG:OA:=λxs mh Q=>∃x ds,xs=[x]/\bA mh x=some ds/\Q (.tup ds) mh
theorem NU:bY X (.type "tuple") (c7 X.K vG):=by
 intro pins s σ H xs us Q I r q;obtain⟨μ,mh,ds,R,RR,il,⟨x,es,rfl,e,q⟩,F⟩:=q;obtain⟨v,rfl,iv⟩:=gG il
 cases x with
 | tup ts=>
  cases e;obtain⟨a,vs,rfl,sq,l⟩:=c8 iv;exact iD pins s σ H _ us Q I r ⟨a,vs,rfl,.inr ⟨sq,F.here RR q iv⟩⟩
 | fl ts=>
  cases e;obtain⟨a,vs,rfl,sq,l⟩:=pB iv;exact iD pins s σ H _ us Q I r ⟨a,vs,rfl,.inl ⟨sq.sq,lT RR F l q⟩⟩
 | ref n=>
  obtain⟨a,vs,rfl,sq,l⟩:=nF RR iv (show jV mh (.ref n)=some es from e);exact iD pins s σ H _ us Q I r ⟨a,vs,rfl,.inl ⟨sq,lT RR F l q⟩⟩
 | _=>cases e
end
def OU(mh:MH):D->Option String
 | .b7=>some "NoneType"
 | .bl _=>some "bool"
 | .int _=>some "int"
 | .str _=>some "str"
 | .tup _=>some "tuple"
 | .fl _=>some "list"
 | .ref n=>match mh[n]? with | some (.lst _)=>some "list" | _=>none
 | .ty _=>none
def rW(t c:String):Bool:=t==c || (t== "bool" && c== "int")
def bJ:List String:=["int","bool","str","tuple","list"]
theorem S5{K:aHw}:∀t∈ "NoneType"::bJ,∀c∈bJ,PySem.W.kitOne K (.type t) (.type c)=some (rW t c):=by
 intro t ht c hc;simp only[bJ,List.mem_cons,List.not_mem_nil,or_false]at ht hc;rcases ht with rfl | rfl | rfl | rfl | rfl | rfl <;> rcases hc with rfl | rfl | rfl | rfl | rfl <;> kernel_rfl
theorem GP{K:aHw}{t:String}(ht:t∈ "NoneType"::bJ):∀cs:List String,(∀c∈cs,c∈bJ)->PySem.W.kitAny K (.type t) (cs.map Value.type)=some (cs.any (rW t))
 | [],_=>rfl
 | c::cs,h=>by
  have e:=S5 (K:=K) t ht c (h c aF8);have ih:=GP (K:=K) ht cs λx hx=>h x (aF7 _ hx);simp only[List.map_cons,PySem.W.kitAny,e,List.any_cons]
  cases rW t c with
  | true=>rfl
  | false=>simpa using ih
def pV:OA:=λxs mh Q=>∃x c t,xs=[x,c]/\OU mh x=some t/\
 ((∃T,c= .ty T/\T∈bJ/\Q (.bl (rW t T)) mh)\/∃Ts:List String,c= .tup (Ts.map .ty)/\(∀T∈Ts,T∈bJ)/\Q (.bl (Ts.any (rW t))) mh)
section
variable {X:Cx}
theorem WN{pins:List (Addr×Obj)}{σ:L2.St}{H:Hp}{s:Shared}{μ:List Addr}{mh:MH}{d:D}{v:V}{u:Value}{t:String}(I:Inv X pins σ H s)(R:Rep X.K μ mh H)(h:Is X.K μ H d v)(r:RelV v u)(e:OU mh d=some t):
  t∈ "NoneType"::bJ/\u≠ .builtin "__main__.__loader__#opaque"/\∃P,PySem.W.KitX X.K u (.type t) P/\P s.heap:=by
 have hl:∀{a:Addr} {vs:List V},nS X.K H a vs->∃P,PySem.W.KitX X.K (.ref a) (.type "list") P/\P s.heap:=λ{a vs} sq=>by
  obtain⟨aG,_,⟨o,n,e1,e2,_⟩,_⟩:=I.list sq;exact⟨_,PySem.W.kitx_list,⟨o,e1,e2⟩⟩
 cases d with
 | b7=>cases MW h;cases r;cases e;exact⟨by simp[bJ],nofun,_,PySem.W.kitx_none,trivial⟩
 | bl b=>cases GS h;cases r;cases e;exact⟨by simp[bJ],nofun,_,PySem.W.kitx_bool,trivial⟩
 | int b=>cases bF h;obtain⟨tk,rfl⟩:=r;cases e;exact⟨by simp[bJ],nofun,_,PySem.W.kitx_int,trivial⟩
 | str b=>cases dO h;obtain⟨tk,rfl⟩:=r;cases e;exact⟨by simp[bJ],nofun,_,PySem.W.kitx_str,trivial⟩
 | ty b=>cases e
 | tup ds=>
  obtain⟨a,vs,rfl,sq,_⟩:=c8 h;cases r;cases e;obtain⟨aG,_,⟨o,e1,e2,_⟩,_⟩:=I.tuple sq;exact⟨by simp[bJ],nofun,_,PySem.W.kitx_tuple,⟨o,e1,e2⟩⟩
 | fl ds=>
  obtain⟨a,vs,rfl,sq,_⟩:=pB h;cases r;cases e;exact⟨by simp[bJ],nofun,hl sq.sq⟩
 | ref n=>
  obtain⟨a,q,rfl⟩:=i6 h;cases r;simp only[OU]at e
  cases o:mh[n]? with
  | none=>rw[o]at e;cases e
  | some ob=>
   cases ob with
   | lst es=>
    rw[o]at e;cases e;obtain⟨vs,hv,l⟩:=R.obj n a _ q o;exact⟨by simp[bJ],nofun,hl (.of hv)⟩
   | dic t kvs=>rw[o]at e;cases e
   | fdc t kvs ob=>rw[o]at e;cases e
theorem GU{K:aHw}{μ:List Addr}{H:Hp}:∀{Ts:List String} {vs:List V} {us:List Value},IsL K μ H (Ts.map .ty) vs->Vals vs us->us=Ts.map Value.type
 | [],vs,us,h,r=>by simp only[List.map_nil]at h;unfold IsL at h;subst h;cases r;rfl
 | T::Ts,vs,us,h,r=>by
  simp only[List.map_cons]at h;unfold IsL at h;obtain⟨v,rr,rfl,i,l⟩:=h
  cases r with
  | cons r1 r2=>
   unfold Is at i;subst i;have r1' :_=Value.type T:=r1;subst r1';rw[GU l r2];rfl
theorem X2:bY X (.builtin "isinstance") (c7 X.K pV):=by
 intro pins s σ H xs us Q I r q;obtain⟨μ,mh,ds,R,RR,il,⟨x,c,t,rfl,et,q⟩,F⟩:=q;obtain⟨v,w,rfl,iv,iw⟩:=CB il
 cases r with
 | cons r1 r2=>
  cases r2 with
  | cons r2 r3=>
   cases r3;obtain⟨hm,hx,P,kx,hp⟩:=WN I RR iv r1 et
   rcases q with ⟨T,rfl,hT,q⟩ | ⟨Ts,rfl,hT,q⟩
   ·unfold Is at iw;subst iw;have r2' :_=Value.type T:=r2;subst r2'
    exact PySem.W.kia_one kx I.WW hp (S5 t hm T hT) hx λtk=>⟨.bl _,H,I.tok tk,rfl,F.here RR q .bl⟩
   ·obtain⟨a,vs,rfl,sq,l⟩:=c8 iw;have r2' :_=Value.ref a:=r2;subst r2';obtain⟨aG,rv,⟨o,e1,e2,n,e3⟩,_⟩:=I.tuple sq;have ei:=GU l rv;obtain⟨oc,od,odt,osl⟩:=o;simp only at e2 e3;subst e2 e3
    exact PySem.W.kia_tup kx I.WW hp e1 (by rw[ei];exact GP hm Ts hT) hx λtk=>⟨.bl _,H,I.tok tk,rfl,F.here RR q .bl⟩
def aBs:OA:=λxs mh Q=>∃(x:D) (bs:List Bool),xs=[x]/\jV mh x=some (bs.map .bl)/\Q (.bl (bs.all id)) mh
theorem GX{K:aHw}{μ:List Addr}{H:Hp}:∀{bs:List Bool} {vs:List V} {us:List Value},IsL K μ H (bs.map .bl) vs->Vals vs us->us=bs.map Value.bool
 | [],vs,us,h,r=>by simp only[List.map_nil]at h;unfold IsL at h;subst h;cases r;rfl
 | T::Ts,vs,us,h,r=>by
  simp only[List.map_cons]at h;unfold IsL at h;obtain⟨v,rr,rfl,i,l⟩:=h
  cases r with
  | cons r1 r2=>
   cases GS i;have r1' :_=Value.bool T:=r1;subst r1';rw[GX l r2];rfl
theorem range_all:∀bs:List Bool,(List.range bs.length).all (λi=>bs.getD i true)=bs.all id
 | []=>rfl
 | b::bs=>by
  have:=range_all bs;simp only[List.length_cons,List.range_succ_eq_map,List.all_cons,List.all_map];simp only[Function.comp_def,List.getD_cons_zero,List.getD_cons_succ,this,id]
theorem qE{prog:Program}{w:World}{A:Around}{E:aHx}{s:Shared}{l:Addr}{items:Array Value}{Q:aHx}(hl:s.heap.IsList l items)
  (h:∀s₂:Shared,s₂={s with heap:=s.heap.push {cls:= .type "list_iterator",data:= .fields #[.ref l,.int 0 0]}}->
   (s₂.heap.IsListIter s.heap.objs.size l 0/\s₂.heap.IsList l items)->l≠s.heap.objs.size->Q (.ref s.heap.objs.size) s₂):
  wpAny (model prog w) A (pyIter (.ref l)) Q E s:=by
 have hlt:l<s.heap.objs.size:=by obtain⟨_,e,_⟩:=hl;exact aFc e
 exact wpAny_pyIter_list hl (h _ rfl ⟨⟨_,aFa _ rfl,rfl,rfl⟩,hl.push _⟩ (aFj hlt))
theorem X3(hc:X.calm=true):bY X (.builtin "all") (c7 X.K aBs):=by
 intro pins s σ H xs us Q I r q;obtain⟨μ,mh,ds,R,RR,il,⟨x,bs,rfl,e,q⟩,F⟩:=q;obtain⟨v,rfl,iv⟩:=gG il;obtain⟨a,vs,rfl,sq,l⟩:=nF RR iv e;obtain⟨u,rfl,ru⟩:=vals1 r;cases ru;obtain⟨aG,rv,pl,hz⟩:=I.list sq;have ei:=GX l rv;subst ei;refine call_all_walk (qE pl.isList λs₂ e2 st hne=>?_);subst e2;refine⟨_,_,_,_,_,_,λi=>bs.getD i true,rfl,Walks.list (A:=X.A.in1) (I.ok.hd hc) _ a hne (bs.map Value.bool).toArray,st,?_,λh' tk hk=>?_⟩
 ·intro i v s' Q' E' hP hQ;have hP' :(bs.map Value.bool).toArray[i]? =some v:=hP;rw[List.getElem?_toArray,List.getElem?_map]at hP';obtain⟨b,hb,rfl⟩:=aG0.mp hP';have:bs.getD i true=b:=by rw[List.getD_eq_getElem?_getD,hb];rfl
  refine aHi ?_;rw[<-this];exact hQ
 ·have I1:Inv X pins σ H {s with heap:=s.heap.push {cls:= .type "list_iterator",data:= .fields #[.ref a,.int 0 0]}}:=I.kept (t' :=s.toks) λb o e=>aF4 _ e;have I2:Inv X pins σ H {s with heap:=h',toks:=tk}:=I.kept (t' :=tk) λb o e=>hk b o (by simp;exact aFj (aFc e)) (aF4 _ e);refine⟨.bl (bs.all id),H,I2,?_,F.here RR q .bl⟩;have:=range_all bs;simp only[List.size_toArray,List.length_map,this];rfl
end
mutual
def Vl(h:Heap):D->Value->Prop
 | .b7,u=>u= .none
 | .bl b,u=>u= .bool b
 | .int i,u=>∃t,u= .int i t
 | .str x,u=>∃t,u= .str x t
 | .ty _,_=>False
 | .tup ds,u=>∃a us,u= .ref a/\IsTup h a us.toArray/\dU h ds us
 | .fl ds,u=>∃a us,u= .ref a/\h.IsList a us.toArray/\dU h ds us
 | .ref _,_=>False
def dU(h:Heap):List D->List Value->Prop
 | [],us=>us=[]
 | d::ds,us=>∃u r,us=u::r/\Vl h d u/\dU h ds r
end
mutual
def bare:D->Bool
 | .ty _=>false
 | .ref _=>false
 | .tup ds=>eM ds
 | .fl ds=>eM ds
 | _=>true
def eM:List D->Bool
 | []=>true
 | d::ds=>bare d && eM ds
end
mutual
def deep:D->Nat
 | .tup ds=>fH ds+1
 | .fl ds=>fH ds+1
 | _=>0
def fH:List D->Nat
 | []=>0
 | d::ds=>max (deep d) (fH ds)
end
mutual
def jO:D->D->Bool
 | .b7,y=>aB6 y
 | .bl a,y=>match y with | .bl b=>a==b | .int j=>(if a then 1 else 0)==j | _=>false
 | .int i,y=>match y with | .int j=>i==j | .bl b=>i==(if b then 1 else 0) | _=>false
 | .str a,y=>match y with | .str b=>a==b | _=>false
 | .tup as,y=>match y with | .tup bs=>fG as bs | _=>false
 | .fl as,y=>match y with | .fl bs=>fG as bs | _=>false
 | .ref _,_=>false
 | .ty _,_=>false
def fG:List D->List D->Bool
 | [],y=>y.isEmpty
 | a::as,y=>match y with | b::bs=>jO a b && fG as bs | []=>false
end
theorem b8:∀(as bs:List D),fG as bs=((List.range (min as.length bs.length)).all (λj=>jO (as.getD j .b7) (bs.getD j .b7)) && as.length==bs.length)
 | [],[]=>by simp[fG]
 | [],b::bs=>by simp[fG]
 | a::as,[]=>by simp[fG]
 | a::as,b::bs=>by
  have ih:=b8 as bs;simp only[fG,List.length_cons,Nat.succ_min_succ,List.range_succ_eq_map,List.all_cons,List.all_map,Function.comp_def,List.getD_cons_zero,List.getD_cons_succ,ih];cases jO a b <;> simp
theorem bH{h:Heap}:∀{ds:List D} {us:List Value},dU h ds us->us.length=ds.length
 | [],us,q=>by unfold dU at q;subst q;rfl
 | d::ds,us,q=>by unfold dU at q;obtain⟨u,r,rfl,_,l⟩:=q;simp[bH l]
theorem cY{h:Heap}:∀{ds:List D} {us:List Value} {j:Nat} {u:Value},dU h ds us->us[j]? =some u->Vl h (ds.getD j .b7) u
 | [],us,j,u,q,e=>by unfold dU at q;subst q;simp at e
 | d::ds,us,j,u,q,e=>by
  unfold dU at q;obtain⟨w,r,rfl,i,l⟩:=q
  cases j with
  | zero=>simp at e;subst e;exact i
  | succ j=>exact cY (j:=j) l (by simpa using e)
theorem eR:∀(ds:List D) (j:Nat),deep (ds.getD j .b7)<=fH ds
 | [],j=>by simp[deep]
 | d::ds,0=>by simp[fH];lia
 | d::ds,j+1=>by have:=eR ds j;simp[fH]at*;lia
theorem sI{h:Heap}{a:Addr}{x y:Array Value}(hl:h.IsList a x)(hb:IsTup h a y):False:=by
 obtain⟨o,ho,hc,_⟩:=hl;obtain⟨o2,ho2,hc2,_⟩:=hb;rw[ho]at ho2;cases ho2;rw[hc]at hc2;exact absurd hc2 (by simp)
mutual
theorem xZ{h:Heap}:∀{d e:D} {u:Value},Vl h d u->Vl h e u->jO d e=true
 | .b7,e,u,p,q=>by
  unfold Vl at p;subst p
  cases e <;> unfold Vl at q <;> first | rfl | (cases q;done) | (obtain⟨_,q⟩:=q;cases q;done) | (obtain⟨_,_,q,_⟩:=q;cases q;done)
 | .bl a,e,u,p,q=>by
  unfold Vl at p;subst p
  cases e <;> unfold Vl at q <;> first | (subst q;simp[jO];done) | (cases q;simp[jO];done) | (cases q;done) | (obtain⟨_,q⟩:=q;cases q;done) | (obtain⟨_,_,q,_⟩:=q;cases q;done)
 | .int a,e,u,p,q=>by
  unfold Vl at p;obtain⟨t,rfl⟩:=p
  cases e <;> unfold Vl at q <;> first | (cases q;done) | (obtain⟨_,q⟩:=q;cases q;simp[jO];done) | (obtain⟨_,q⟩:=q;cases q;done) | (obtain⟨_,_,q,_⟩:=q;cases q;done)
 | .str a,e,u,p,q=>by
  unfold Vl at p;obtain⟨t,rfl⟩:=p
  cases e <;> unfold Vl at q <;> first | (cases q;done) | (obtain⟨_,q⟩:=q;cases q;simp[jO];done) | (obtain⟨_,q⟩:=q;cases q;done) | (obtain⟨_,_,q,_⟩:=q;cases q;done)
 | .ty _,e,u,p,q=>by unfold Vl at p;exact p.elim
 | .ref _,e,u,p,q=>by unfold Vl at p;exact p.elim
 | .tup as,e,u,p,q=>by
  unfold Vl at p;obtain⟨a,us,rfl,ht,l⟩:=p
  cases e with
  | tup bs=>
   unfold Vl at q;obtain⟨b,ws,e,ht2,l2⟩:=q;cases e;obtain⟨o,h1,_,n,h2⟩:=ht;obtain⟨o2,h3,_,n2,h4⟩:=ht2;rw[h1]at h3;cases h3;rw[h2]at h4;injection h4 with h5;have h6:us=ws:=by simpa using aG8 Array.toList h5
   subst h6;show fG as bs=true;exact tE l l2
  | fl bs=>
   unfold Vl at q;obtain⟨b,ws,e,ht2,l2⟩:=q;cases e;exact(sI ht2 ht).elim
  | _=>unfold Vl at q;first | (cases q;done) | (obtain⟨_,q⟩:=q;cases q;done)
 | .fl as,e,u,p,q=>by
  unfold Vl at p;obtain⟨a,us,rfl,ht,l⟩:=p
  cases e with
  | fl bs=>
   unfold Vl at q;obtain⟨b,ws,e,ht2,l2⟩:=q;cases e;obtain⟨o,h1,_,n,h2⟩:=ht;obtain⟨o2,h3,_,n2,h4⟩:=ht2;rw[h1]at h3;cases h3;rw[h2]at h4;injection h4 with h5;have h6:us=ws:=by simpa using aG8 Array.toList h5
   subst h6;show fG as bs=true;exact tE l l2
  | tup bs=>
   unfold Vl at q;obtain⟨b,ws,e,ht2,l2⟩:=q;cases e;exact(sI ht ht2).elim
  | _=>unfold Vl at q;first | (cases q;done) | (obtain⟨_,q⟩:=q;cases q;done)
theorem tE{h:Heap}:∀{ds es:List D} {us:List Value},dU h ds us->dU h es us->fG ds es=true
 | [],es,us,p,q=>by unfold dU at p;subst p;cases es with | nil=>rfl | cons=>unfold dU at q;obtain⟨_,_,e,_⟩:=q;cases e
 | d::ds,es,us,p,q=>by
  unfold dU at p;obtain⟨u,r,rfl,i,l⟩:=p
  cases es with
  | nil=>unfold dU at q;cases q
  | cons e es=>
   unfold dU at q;obtain⟨u2,r2,e2,i2,l2⟩:=q;cases e2;simp only[fG,xZ i i2,tE l l2,Bool.and_self]
end
open SeqAt in
theorem lF{s:Shared}:∀(k:Nat) {A:Around} {d e:D} {u v:Value},deep d<=k->A.units+k+1<cLine->Vl s.heap d u->Vl s.heap e v->EqAt A s u v (jO d e)
 | k,A,.b7,e,u,v,hk,hu,p,q=>by
  unfold Vl at p;subst p;cases e <;> unfold Vl at q
  ·subst q;exact EqAt.same _
  ·subst q;exact EqAt.none_bool _
  ·obtain⟨t,rfl⟩:=q;exact EqAt.none_int _ t
  ·obtain⟨t,rfl⟩:=q;exact EqAt.none_str _ t
  ·exact q.elim
  ·obtain⟨a,us,rfl,ht,_⟩:=q;exact EqAt.none_tuple ht (by lia)
  ·obtain⟨a,us,rfl,ht,_⟩:=q;exact EqAt.none_list ht (by lia)
  ·exact q.elim
 | k,A,.bl x,e,u,v,hk,hu,p,q=>by
  unfold Vl at p;subst p;cases e <;> unfold Vl at q
  ·subst q;exact EqAt.bool_none _
  ·subst q;exact EqAt.bool_bool _ _
  ·obtain⟨t,rfl⟩:=q;exact EqAt.bool_int _ _ t
  ·obtain⟨t,rfl⟩:=q;exact EqAt.bool_str _ _ t
  ·exact q.elim
  ·obtain⟨a,us,rfl,ht,_⟩:=q;exact EqAt.bool_tuple _ ht (by lia)
  ·obtain⟨a,us,rfl,ht,_⟩:=q;exact EqAt.bool_list _ ht (by lia)
  ·exact q.elim
 | k,A,.int x,e,u,v,hk,hu,p,q=>by
  unfold Vl at p;obtain⟨tx,rfl⟩:=p;cases e <;> unfold Vl at q
  ·subst q;exact EqAt.int_none _ _
  ·subst q;exact EqAt.int_bool _ _ _
  ·obtain⟨t,rfl⟩:=q;exact EqAt.int_int _ _ _ t
  ·obtain⟨t,rfl⟩:=q;exact EqAt.int_str _ _ _ t
  ·exact q.elim
  ·obtain⟨a,us,rfl,ht,_⟩:=q;exact EqAt.int_tuple _ _ ht (by lia)
  ·obtain⟨a,us,rfl,ht,_⟩:=q;exact EqAt.int_list _ _ ht (by lia)
  ·exact q.elim
 | k,A,.str x,e,u,v,hk,hu,p,q=>by
  unfold Vl at p;obtain⟨tx,rfl⟩:=p;cases e <;> unfold Vl at q
  ·subst q;exact EqAt.str_none _ _
  ·subst q;exact EqAt.str_bool _ _ _
  ·obtain⟨t,rfl⟩:=q;exact EqAt.str_int _ _ _ t
  ·obtain⟨t,rfl⟩:=q;exact EqAt.str_str _ _ _ t
  ·exact q.elim
  ·obtain⟨a,us,rfl,ht,_⟩:=q;exact EqAt.str_tuple _ _ ht (by lia)
  ·obtain⟨a,us,rfl,ht,_⟩:=q;exact EqAt.str_list _ _ ht (by lia)
  ·exact q.elim
 | k,A,.ty x,e,u,v,hk,hu,p,q=>by unfold Vl at p;exact p.elim
 | k,A,.ref x,e,u,v,hk,hu,p,q=>by unfold Vl at p;exact p.elim
 | k,A,.tup as,e,u,v,hk,hu,p,q=>by
  have p0:=p;unfold Vl at p;obtain⟨a,us,rfl,ht,l⟩:=p
  cases e with
  | tup bs=>
   by_cases hab:Value.ref a=v
   ·subst hab;rw[xZ p0 q];exact EqAt.same _
   unfold Vl at q;obtain⟨b,ws,rfl,ht2,l2⟩:=q;have hne:a≠b:=λz=>hab (by rw[z])
   cases k with
   | zero=>simp[deep]at hk
   | succ k=>
    refine EqAt.of_refs hne ?_;have r:=RcAt.tuples (e:=λj=>jO (as.getD j .b7) (bs.getD j .b7)) ht ht2 (by lia) (λj h1 h2=>lF k (A:=A.in1) (aFu (eR as j) (by simp[deep]at hk;exact hk)) (by show A.units+1+k+1<_;lia) (cY l (by simp at h1;simp[h1])) (cY l2 (by simp at h2;simp[h2])));show RcAt A s _ _ (fG as bs);rw[b8,<-bH l,<-bH l2];simpa using r
  | b7=>unfold Vl at q;subst q;exact EqAt.tuple_none ht (by lia)
  | bl x=>unfold Vl at q;subst q;exact EqAt.tuple_bool _ ht (by lia)
  | int x=>unfold Vl at q;obtain⟨t,rfl⟩:=q;exact EqAt.tuple_int _ _ ht (by lia)
  | str x=>unfold Vl at q;obtain⟨t,rfl⟩:=q;exact EqAt.tuple_str _ _ ht (by lia)
  | fl bs=>unfold Vl at q;obtain⟨b,ws,rfl,ht2,l2⟩:=q;exact EqAt.tuple_list ht ht2 (by lia)
  | ty x=>unfold Vl at q;exact q.elim
  | ref x=>unfold Vl at q;exact q.elim
 | k,A,.fl as,e,u,v,hk,hu,p,q=>by
  have p0:=p;unfold Vl at p;obtain⟨a,us,rfl,ht,l⟩:=p
  cases e with
  | fl bs=>
   by_cases hab:Value.ref a=v
   ·subst hab;rw[xZ p0 q];exact EqAt.same _
   unfold Vl at q;obtain⟨b,ws,rfl,ht2,l2⟩:=q;have hne:a≠b:=λz=>hab (by rw[z])
   cases k with
   | zero=>simp[deep]at hk
   | succ k=>
    refine EqAt.of_refs hne ?_;show RcAt A s _ _ (fG as bs);by_cases hsz:us.length=ws.length
    ·have r:=RcAt.lists (e:=λj=>jO (as.getD j .b7) (bs.getD j .b7)) ht ht2 (by simpa using hsz) (by lia) (λj h1 h2=>lF k (A:=A.in1) (aFu (eR as j) (by simp[deep]at hk;exact hk)) (by show A.units+1+k+1<_;lia) (cY l (by simp at h1;simp[h1])) (cY l2 (by simp at h2;simp[h2])));rw[b8,<-bH l,<-bH l2,<-hsz,Nat.min_self,beq_self_eq_true,Bool.and_true];simpa using r
    ·have r:=RcAt.lists_lengths (A:=A) ht ht2 (by simpa using hsz) (by lia);rw[b8,<-bH l,<-bH l2,beq_eq_false_iff_ne.mpr hsz,Bool.and_false];exact r
  | b7=>unfold Vl at q;subst q;exact EqAt.list_none ht (by lia)
  | bl x=>unfold Vl at q;subst q;exact EqAt.list_bool _ ht (by lia)
  | int x=>unfold Vl at q;obtain⟨t,rfl⟩:=q;exact EqAt.list_int _ _ ht (by lia)
  | str x=>unfold Vl at q;obtain⟨t,rfl⟩:=q;exact EqAt.list_str _ _ ht (by lia)
  | tup bs=>unfold Vl at q;obtain⟨b,ws,rfl,ht2,l2⟩:=q;exact EqAt.list_tuple ht ht2 (by lia)
  | ty x=>unfold Vl at q;exact q.elim
  | ref x=>unfold Vl at q;exact q.elim
open SeqAt in
theorem UL{s:Shared}{A:Around}{d e:D}{u v:Value}(hk:deep d<=40)(hu:A.units+64<cLine)(p:Vl s.heap d u)(q:Vl s.heap e v):RcAt A s u v (jO d e):=by
 cases d with
 | b7=>
  unfold Vl at p;subst p;cases e <;> unfold Vl at q
  ·subst q;exact RcAt.none_none
  ·subst q;exact RcAt.none_bool _
  ·obtain⟨t,rfl⟩:=q;exact RcAt.none_int _ _
  ·obtain⟨t,rfl⟩:=q;exact RcAt.none_str _ _
  ·exact q.elim
  ·obtain⟨a,us,rfl,ht,_⟩:=q;exact RcAt.none_tuple ht (by lia)
  ·obtain⟨a,us,rfl,ht,_⟩:=q;exact RcAt.none_list ht (by lia)
  ·exact q.elim
 | bl x=>
  unfold Vl at p;subst p;cases e <;> unfold Vl at q
  ·subst q;exact RcAt.bool_none _
  ·subst q;exact RcAt.bool_bool _ _
  ·obtain⟨t,rfl⟩:=q;exact RcAt.bool_int _ _ _
  ·obtain⟨t,rfl⟩:=q;exact RcAt.bool_str _ _ _
  ·exact q.elim
  ·obtain⟨a,us,rfl,ht,_⟩:=q;exact RcAt.bool_tuple _ ht (by lia)
  ·obtain⟨a,us,rfl,ht,_⟩:=q;exact RcAt.bool_list _ ht (by lia)
  ·exact q.elim
 | int x=>
  unfold Vl at p;obtain⟨tx,rfl⟩:=p;cases e <;> unfold Vl at q
  ·subst q;exact RcAt.int_none _ _
  ·subst q;exact RcAt.int_bool _ _ _
  ·obtain⟨t,rfl⟩:=q;exact RcAt.int_int _ _ _ _
  ·obtain⟨t,rfl⟩:=q;exact RcAt.int_str _ _ _ _
  ·exact q.elim
  ·obtain⟨a,us,rfl,ht,_⟩:=q;exact RcAt.int_tuple _ _ ht (by lia)
  ·obtain⟨a,us,rfl,ht,_⟩:=q;exact RcAt.int_list _ _ ht (by lia)
  ·exact q.elim
 | str x=>
  unfold Vl at p;obtain⟨tx,rfl⟩:=p;cases e <;> unfold Vl at q
  ·subst q;exact RcAt.str_none _ _
  ·subst q;exact RcAt.str_bool _ _ _
  ·obtain⟨t,rfl⟩:=q;exact RcAt.str_int _ _ _ _
  ·obtain⟨t,rfl⟩:=q;exact RcAt.str_str _ _ _ _
  ·exact q.elim
  ·obtain⟨a,us,rfl,ht,_⟩:=q;exact RcAt.str_tuple _ _ ht (by lia)
  ·obtain⟨a,us,rfl,ht,_⟩:=q;exact RcAt.str_list _ _ ht (by lia)
  ·exact q.elim
 | ty x=>unfold Vl at p;exact p.elim
 | ref x=>unfold Vl at p;exact p.elim
 | tup as=>
  unfold Vl at p;obtain⟨a,us,rfl,ht,l⟩:=p
  cases e with
  | tup bs=>
   unfold Vl at q;obtain⟨b,ws,rfl,ht2,l2⟩:=q;have r:=RcAt.tuples (e:=λj=>jO (as.getD j .b7) (bs.getD j .b7)) ht ht2 (by lia) (λj h1 h2=>lF 40 (A:=A.in1) (aFu (eR as j) (by simp[deep]at hk;lia)) (by show A.units+1+40+1<_;lia) (cY l (by simp at h1;simp[h1])) (cY l2 (by simp at h2;simp[h2])));show RcAt A s _ _ (fG as bs);rw[b8,<-bH l,<-bH l2];simpa using r
  | fl bs=>unfold Vl at q;obtain⟨b,ws,rfl,ht2,l2⟩:=q;exact RcAt.tuple_list ht ht2 (by lia)
  | b7=>unfold Vl at q;subst q;exact RcAt.tuple_none ht (by lia)
  | bl x=>unfold Vl at q;subst q;exact RcAt.tuple_bool _ ht (by lia)
  | int x=>unfold Vl at q;obtain⟨t,rfl⟩:=q;exact RcAt.tuple_int _ _ ht (by lia)
  | str x=>unfold Vl at q;obtain⟨t,rfl⟩:=q;exact RcAt.tuple_str _ _ ht (by lia)
  | ty x=>unfold Vl at q;exact q.elim
  | ref x=>unfold Vl at q;exact q.elim
 | fl as=>
  unfold Vl at p;obtain⟨a,us,rfl,ht,l⟩:=p
  cases e with
  | fl bs=>
   unfold Vl at q;obtain⟨b,ws,rfl,ht2,l2⟩:=q;show RcAt A s _ _ (fG as bs);by_cases hsz:us.length=ws.length
   ·have r:=RcAt.lists (e:=λj=>jO (as.getD j .b7) (bs.getD j .b7)) ht ht2 (by simpa using hsz) (by lia) (λj h1 h2=>lF 40 (A:=A.in1) (aFu (eR as j) (by simp[deep]at hk;lia)) (by show A.units+1+40+1<_;lia) (cY l (by simp at h1;simp[h1])) (cY l2 (by simp at h2;simp[h2])));rw[b8,<-bH l,<-bH l2,<-hsz,Nat.min_self,beq_self_eq_true,Bool.and_true];simpa using r
   ·have r:=RcAt.lists_lengths (A:=A) ht ht2 (by simpa using hsz) (by lia);rw[b8,<-bH l,<-bH l2,beq_eq_false_iff_ne.mpr hsz,Bool.and_false];exact r
  | tup bs=>unfold Vl at q;obtain⟨b,ws,rfl,ht2,l2⟩:=q;exact RcAt.list_tuple ht ht2 (by lia)
  | b7=>unfold Vl at q;subst q;exact RcAt.list_none ht (by lia)
  | bl x=>unfold Vl at q;subst q;exact RcAt.list_bool _ ht (by lia)
  | int x=>unfold Vl at q;obtain⟨t,rfl⟩:=q;exact RcAt.list_int _ _ ht (by lia)
  | str x=>unfold Vl at q;obtain⟨t,rfl⟩:=q;exact RcAt.list_str _ _ ht (by lia)
  | ty x=>unfold Vl at q;exact q.elim
  | ref x=>unfold Vl at q;exact q.elim
open SeqAt in
theorem K4{s:Shared}{A:Around}{d e:D}{u v:Value}(hk:deep d<=40)(hu:A.units+64<cLine)(p:Vl s.heap d u)(q:Vl s.heap e v):RcNeAt A s u v (!jO d e):=by
 cases d with
 | b7=>
  unfold Vl at p;subst p;cases e <;> unfold Vl at q
  ·subst q;exact RcNeAt.none_none
  ·subst q;exact RcNeAt.none_bool _
  ·obtain⟨t,rfl⟩:=q;exact RcNeAt.none_int _ _
  ·obtain⟨t,rfl⟩:=q;exact RcNeAt.none_str _ _
  ·exact q.elim
  ·obtain⟨a,us,rfl,ht,_⟩:=q;exact RcNeAt.none_tuple ht (by lia)
  ·obtain⟨a,us,rfl,ht,_⟩:=q;exact RcNeAt.none_list ht (by lia)
  ·exact q.elim
 | bl x=>
  unfold Vl at p;subst p;cases e <;> unfold Vl at q
  ·subst q;exact RcNeAt.bool_none _
  ·subst q;exact RcNeAt.bool_bool _ _
  ·obtain⟨t,rfl⟩:=q;exact RcNeAt.bool_int _ _ _
  ·obtain⟨t,rfl⟩:=q;exact RcNeAt.bool_str _ _ _
  ·exact q.elim
  ·obtain⟨a,us,rfl,ht,_⟩:=q;exact RcNeAt.bool_tuple _ ht (by lia)
  ·obtain⟨a,us,rfl,ht,_⟩:=q;exact RcNeAt.bool_list _ ht (by lia)
  ·exact q.elim
 | int x=>
  unfold Vl at p;obtain⟨tx,rfl⟩:=p;cases e <;> unfold Vl at q
  ·subst q;exact RcNeAt.int_none _ _
  ·subst q;exact RcNeAt.int_bool _ _ _
  ·obtain⟨t,rfl⟩:=q;exact RcNeAt.int_int _ _ _ _
  ·obtain⟨t,rfl⟩:=q;exact RcNeAt.int_str _ _ _ _
  ·exact q.elim
  ·obtain⟨a,us,rfl,ht,_⟩:=q;exact RcNeAt.int_tuple _ _ ht (by lia)
  ·obtain⟨a,us,rfl,ht,_⟩:=q;exact RcNeAt.int_list _ _ ht (by lia)
  ·exact q.elim
 | str x=>
  unfold Vl at p;obtain⟨tx,rfl⟩:=p;cases e <;> unfold Vl at q
  ·subst q;exact RcNeAt.str_none _ _
  ·subst q;exact RcNeAt.str_bool _ _ _
  ·obtain⟨t,rfl⟩:=q;exact RcNeAt.str_int _ _ _ _
  ·obtain⟨t,rfl⟩:=q;exact RcNeAt.str_str _ _ _ _
  ·exact q.elim
  ·obtain⟨a,us,rfl,ht,_⟩:=q;exact RcNeAt.str_tuple _ _ ht (by lia)
  ·obtain⟨a,us,rfl,ht,_⟩:=q;exact RcNeAt.str_list _ _ ht (by lia)
  ·exact q.elim
 | ty x=>unfold Vl at p;exact p.elim
 | ref x=>unfold Vl at p;exact p.elim
 | tup as=>
  unfold Vl at p;obtain⟨a,us,rfl,ht,l⟩:=p
  cases e with
  | tup bs=>
   unfold Vl at q;obtain⟨b,ws,rfl,ht2,l2⟩:=q;have r:=RcNeAt.tuples (e:=λj=>jO (as.getD j .b7) (bs.getD j .b7)) ht ht2 (by lia) (λj h1 h2=>lF 40 (A:=A.in1) (aFu (eR as j) (by simp[deep]at hk;lia)) (by show A.units+1+40+1<_;lia) (cY l (by simp at h1;simp[h1])) (cY l2 (by simp at h2;simp[h2])));show RcNeAt A s _ _ (!fG as bs);rw[b8,<-bH l,<-bH l2];simpa using r
  | fl bs=>unfold Vl at q;obtain⟨b,ws,rfl,ht2,l2⟩:=q;exact RcNeAt.tuple_list ht ht2 (by lia)
  | b7=>unfold Vl at q;subst q;exact RcNeAt.tuple_none ht (by lia)
  | bl x=>unfold Vl at q;subst q;exact RcNeAt.tuple_bool _ ht (by lia)
  | int x=>unfold Vl at q;obtain⟨t,rfl⟩:=q;exact RcNeAt.tuple_int _ _ ht (by lia)
  | str x=>unfold Vl at q;obtain⟨t,rfl⟩:=q;exact RcNeAt.tuple_str _ _ ht (by lia)
  | ty x=>unfold Vl at q;exact q.elim
  | ref x=>unfold Vl at q;exact q.elim
 | fl as=>
  unfold Vl at p;obtain⟨a,us,rfl,ht,l⟩:=p
  cases e with
  | fl bs=>
   unfold Vl at q;obtain⟨b,ws,rfl,ht2,l2⟩:=q;show RcNeAt A s _ _ (!fG as bs);by_cases hsz:us.length=ws.length
   ·have r:=RcNeAt.lists (e:=λj=>jO (as.getD j .b7) (bs.getD j .b7)) ht ht2 (by simpa using hsz) (by lia) (λj h1 h2=>lF 40 (A:=A.in1) (aFu (eR as j) (by simp[deep]at hk;lia)) (by show A.units+1+40+1<_;lia) (cY l (by simp at h1;simp[h1])) (cY l2 (by simp at h2;simp[h2])));rw[b8,<-bH l,<-bH l2,<-hsz,Nat.min_self,beq_self_eq_true,Bool.and_true];simpa using r
   ·have r:=RcNeAt.lists_lengths (A:=A) ht ht2 (by simpa using hsz) (by lia);rw[b8,<-bH l,<-bH l2,beq_eq_false_iff_ne.mpr hsz,Bool.and_false];exact r
  | tup bs=>unfold Vl at q;obtain⟨b,ws,rfl,ht2,l2⟩:=q;exact RcNeAt.list_tuple ht ht2 (by lia)
  | b7=>unfold Vl at q;subst q;exact RcNeAt.list_none ht (by lia)
  | bl x=>unfold Vl at q;subst q;exact RcNeAt.list_bool _ ht (by lia)
  | int x=>unfold Vl at q;obtain⟨t,rfl⟩:=q;exact RcNeAt.list_int _ _ ht (by lia)
  | str x=>unfold Vl at q;obtain⟨t,rfl⟩:=q;exact RcNeAt.list_str _ _ ht (by lia)
  | ty x=>unfold Vl at q;exact q.elim
  | ref x=>unfold Vl at q;exact q.elim
def c9(mh:MH):D->D
 | .ref n=>match mh[n]? with | some (.lst ds)=>.fl ds | _=>.ref n
 | d=>d
section
variable {X:Cx}{pins:List (Addr×Obj)}{σ:L2.St}{H:Hp}{s:Shared}{μ:List Addr}{mh:MH}
mutual
theorem SR(I:Inv X pins σ H s):∀(d:D) {v:V} {u:Value},bare d=true->Is X.K μ H d v->RelV v u->Vl s.heap d u
 | .b7,v,u,_,i,r=>by cases MW i;unfold Vl;exact r
 | .bl _,v,u,_,i,r=>by cases GS i;unfold Vl;exact r
 | .int _,v,u,_,i,r=>by cases bF i;unfold Vl;exact r
 | .str _,v,u,_,i,r=>by cases dO i;unfold Vl;exact r
 | .ty _,v,u,b,i,r=>by simp[bare]at b
 | .ref _,v,u,b,i,r=>by simp[bare]at b
 | .tup ds,v,u,b,i,r=>by
  obtain⟨a,vs,rfl,sq,l⟩:=c8 i;have r' :u=Value.ref a:=r;subst r';obtain⟨aG,rv,p,_⟩:=I.tuple sq;unfold Vl;exact⟨a,aG,rfl,p,kA I ds (by simpa[bare] using b) l rv⟩
 | .fl ds,v,u,b,i,r=>by
  obtain⟨a,vs,rfl,sq,l⟩:=pB i;have r' :u=Value.ref a:=r;subst r';obtain⟨aG,rv,p,_⟩:=I.list sq.sq;unfold Vl;exact⟨a,aG,rfl,p.isList,kA I ds (by simpa[bare] using b) l rv⟩
theorem kA(I:Inv X pins σ H s):∀(ds:List D) {vs:List V} {us:List Value},eM ds=true->IsL X.K μ H ds vs->Vals vs us->dU s.heap ds us
 | [],vs,us,_,l,r=>by unfold IsL at l;subst l;cases r;unfold dU;rfl
 | d::ds,vs,us,b,l,r=>by
  unfold IsL at l;obtain⟨v,rr,rfl,i,l⟩:=l
  cases r with
  | cons r1 r2=>
   simp only[eM,Bool.and_eq_true]at b;unfold dU;exact⟨_,_,rfl,SR I d b.1 i r1,kA I ds b.2 l r2⟩
end
theorem tD(I:Inv X pins σ H s)(R:Rep X.K μ mh H){d:D}{v:V}{u:Value}(b:bare (c9 mh d)=true)(i:Is X.K μ H d v)(r:RelV v u):Vl s.heap (c9 mh d) u:=by
 cases d with
 | ref n=>
  simp only[c9]at b⊢
  cases o:mh[n]? with
  | none=>rw[o]at b;simp[bare]at b
  | some ob=>
   cases ob with
   | lst ds=>
    rw[o]at b;simp only;obtain⟨a,vs,rfl,_,hv,l⟩:=fK R i o;have r' :u=Value.ref a:=r;subst r';obtain⟨aG,rv,p,_⟩:=I.list (.of hv);unfold Vl;exact⟨a,aG,rfl,p.isList,kA I ds (by simpa[bare] using b) l rv⟩
   | dic t kvs=>rw[o]at b;simp[bare]at b
   | fdc t kvs ob=>rw[o]at b;simp[bare]at b
 | _=>exact SR I _ b i r
end
def oEq:O2:=λx y mh Q=>bare (c9 mh x)=true/\bare (c9 mh y)=true/\deep (c9 mh x)<=40/\Q (.bl (jO (c9 mh x) (c9 mh y))) mh
def JX:O2:=λx y mh Q=>bare (c9 mh x)=true/\bare (c9 mh y)=true/\deep (c9 mh x)<=40/\Q (.bl !jO (c9 mh x) (c9 mh y)) mh
section
variable {X:Cx}
theorem aAi(hu:X.A.units+64<cLine):dP X (compareOp .Eq) (bI X.K oEq):=by
 intro pins s σ H x y v u Q I rx ry q;obtain⟨μ,mh,dx,dy,R,RR,ix,iy,⟨b1,b2,hd,q⟩,F⟩:=q;exact UL hd hu (tD I RR b1 ix rx) (tD I RR b2 iy ry) X.prog X.w X.xe _ ⟨.bl _,H,I,rfl,F.here RR q .bl⟩
theorem aAc(hu:X.A.units+64<cLine):dP X (compareOp .NotEq) (bI X.K JX):=by
 intro pins s σ H x y v u Q I rx ry q;obtain⟨μ,mh,dx,dy,R,RR,ix,iy,⟨b1,b2,hd,q⟩,F⟩:=q;exact K4 hd hu (tD I RR b1 ix rx) (tD I RR b2 iy ry) X.prog X.w X.xe _ ⟨.bl _,H,I,rfl,F.here RR q .bl⟩
def lC:D->Bool
 | .b7=>true | .bl _=>true | .int _=>true | .str _=>true | _=>false
def RH(x:D)(u:Value):Bool:=match u with
 | .none=>jO .b7 x
 | .bool b=>jO (.bl b) x
 | .int i _=>jO (.int i) x
 | .str z _=>jO (.str z) x
 | _=>false
theorem NK{h:Heap}{x y:D}{u:Value}(f:lC y=true)(p:Vl h y u):RH x u=jO y x:=by
 cases y with
 | b7=>unfold Vl at p;subst p;rfl
 | bl b=>unfold Vl at p;subst p;rfl
 | int b=>unfold Vl at p;obtain⟨t,rfl⟩:=p;rfl
 | str b=>unfold Vl at p;obtain⟨t,rfl⟩:=p;rfl
 | _=>simp[lC]at f
theorem zW{h:Heap}{x:D}:∀{ds:List D} {us:List Value},ds.all lC=true->dU h ds us->us.any (RH x)=ds.any λy=>jO y x
 | [],us,_,l=>by unfold dU at l;subst l;rfl
 | d::ds,us,f,l=>by
  unfold dU at l;obtain⟨u,r,rfl,p,l⟩:=l;rw[List.all_cons,Bool.and_eq_true]at f;rw[List.any_cons,List.any_cons,NK f.1 p,zW f.2 l]
theorem yO{A:Around}{s:Shared}{x:D}{v:Value}(hu:A.units+64<cLine)(q:Vl s.heap x v):∀{ds:List D} {us:List Value},ds.all lC=true->dU s.heap ds us->∀u∈us,SeqAt.EqAt A.in1 s u v (RH x u)
 | [],us,_,l=>by unfold dU at l;subst l;intro u hu;cases hu
 | d::ds,us,f,l=>by
  unfold dU at l;obtain⟨u,r,rfl,p,l⟩:=l;rw[List.all_cons,Bool.and_eq_true]at f;intro u' hu';rcases aFd.mp hu' with rfl | hu'
  ·rw[NK f.1 p];refine lF 0 ?_ (by show A.units+1+0+1<_;lia) p q
   cases d <;> first | exact aF9 _ | (simp[lC]at f)
  ·exact yO hu q f.2 l u' hu'
def inD(x:D)(ds:List D):Bool:=ds.any λy=>jO y x
theorem nN:∀{ds:List D},ds.all lC=true->eM ds=true
 | [],_=>rfl
 | d::ds,f=>by
  rw[List.all_cons,Bool.and_eq_true]at f;simp only[eM,nN f.2,Bool.and_true]
  cases d <;> first | rfl | (simp[lC]at f)
def oIn:O2:=λx y mh Q=>match y with
 | .str j=>∃i,x= .str i/\Q (.bl (!(Builtin.Str.occurrences j i 0 j.length 1).isEmpty)) mh
 | _=>∃ds,bA mh y=some ds/\bare (c9 mh x)=true/\ds.all lC=true/\Q (.bl (inD (c9 mh x) ds)) mh
theorem aAf(hu:X.A.units+64<cLine):dP X (compareOp .In) (bI X.K oIn):=by
 intro pins s σ H x y v u Q I rx ry q;obtain⟨μ,mh,dx,dy,R,RR,ix,iy,q,F⟩:=q
 have go:(∃ds,bA mh dy=some ds/\bare (c9 mh dx)=true/\ds.all lC=true/\R (.bl (inD (c9 mh dx) ds)) mh)->wpAny (model X.prog X.w) X.A (compareOp .In v u) (EP X pins σ Q) X.xe s:=λzz0=>by
  obtain⟨ds,e,b,f,q⟩:=zz0;obtain⟨a,vs,rfl,sq,l⟩:=nB RR iy e;have ry' :u=Value.ref a:=ry;subst ry';have vx:=tD I RR b ix rx;rcases sq with sq | sq
  ·obtain⟨aG,rv,pl,hz⟩:=I.list sq;have vls:=kA I ds (nN f) l rv;refine SeqAt.in_listAt (RH (c9 mh dx)) pl.isList (λw hw=>yO hu vx f vls w (by simpa using hw)) ⟨.bl _,H,I,rfl,?_⟩;rw[show aG.toArray.any (RH (c9 mh dx))=aG.any (RH (c9 mh dx)) by simp,zW f vls];exact F.here RR q .bl
  ·obtain⟨aG,rv,pl,hz⟩:=I.tuple sq;have vls:=kA I ds (nN f) l rv;refine SeqAt.in_tupleAt (RH (c9 mh dx)) pl (λw hw=>yO hu vx f vls w (by simpa using hw)) ⟨.bl _,H,I,rfl,?_⟩;rw[show aG.toArray.any (RH (c9 mh dx))=aG.any (RH (c9 mh dx)) by simp,zW f vls];exact F.here RR q .bl
 cases dy with
 | str j=>
  obtain⟨i,rfl,q⟩:=q;cases dO ix;cases dO iy;exact IC pins s σ H _ _ v u Q I rx ry ⟨i,j,rfl,rfl,F.here RR q .bl⟩
 | _=>exact go q
end
section
variable {prog:Program}{w:World}{A:Around}{E:aHx}{s:Shared}
open HT in
theorem mB{t sl:Addr}{items:Array Value}{vl vu:Value}{lo hi:Option Int}{Q:aHx}(ht:IsTup s.heap t items)(hs:s.heap.IsSliceOf sl vl vu .none)(pl:IsPart vl lo)(pu:IsPart vu hi)
  (hw:cQ items.size 0 lo=0/\cQ items.size items.size hi=items.size)
  (h:Q (.ref t) s):wpAny (model prog w) A (getItem (.ref t) (.ref sl)) Q E s:=by
 obtain⟨os,hos,hcs,hds⟩:=id hs
 have hTs:s.TypeIs (.ref sl) "slice":=⟨os,hos,hcs⟩
 unfold getItem
 try with_reducible refine aFx ?_
 first | refine aF3 (aF5 ?_) | skip
 refine aF3 (wpAny_sequenceKey ht.typeIs (by decide) ?_)
 refine aF3 (aFp (name:=Str.ofString "__getitem__") ht.typeIs aG3
  (aFm aG3 ht.typeIs entry_tuple_getitem ?_ (args_tuple_getitem _ _)))
 show wpAny _ _ (Builtin.Tuple.tupleItemsOf (.ref t) >>=_) _ _ s;refine aF3 (tupleItemsOf_ ht ?_);refine aF3 (aGy hTs ?_);rw[if_pos (by decide)];refine aF3 (iO hs pl pu ?_)
 have hyes:((((cQ items.size 0 lo:Nat):Int)==0 && (1:Int)==1 && (cQ items.size items.size hi-cQ items.size 0 lo)==items.size)=true):=by
  rw[hw.1,hw.2];simp
 show wpAny _ _ (if (((cQ items.size 0 lo:Nat):Int)==0 && (1:Int)==1 && (cQ items.size items.size hi-cQ items.size 0 lo)==items.size)=true then _ else _) _ _ s;rw[if_pos hyes];have hT:=ht.typeIs;refine aF3 ?_
 first
  | (refine aF3 (aGy hT (aF5 ?_));simp only[beq_self_eq_true,if_true];refine aF3 (aGc ?_);first | exact aF5 (aF5 ⟨_,rfl,aF5 h⟩) | exact aF3 (aF5 (aF5 ⟨_,rfl,aF5 h⟩)) | exact aF3 (aF5 (aF5 (aF5 ⟨_,rfl,aF5 h⟩))))
  | trace_state
end
section
variable {X:Cx}
theorem O0:YV X (λx lo hi H Q=>∃a xs,x= .ref a/\nQ X.K H a xs/\
  ((HT.cQ xs.length 0 lo=0/\HT.cQ xs.length xs.length hi=xs.length)->Q (.ref a) H)/\(¬(HT.cQ xs.length 0 lo=0/\HT.cQ xs.length xs.length hi=xs.length)->∀p,H p=none->Q (.ref p) (upd H p (.tup (zM xs lo hi))))):=by
 intro pins s σ H x v vl vu lo hi sl Q I rx hs pl pu h;obtain⟨a,xs,rfl,hx,q1,q2⟩:=h;by_cases hw:HT.cQ xs.length 0 lo=0/\HT.cQ xs.length xs.length hi=xs.length
 ·cases rx;obtain⟨aG,r,ht,hz⟩:=I.tuple hx;have hlen:aG.toArray.size=xs.length:=by rw[List.size_toArray];exact r.length.symm
  exact⟨"tuple",_,aG3.lookup,ht.typeIs,mB ht hs pl pu (by rw[hlen];exact hw) ⟨.ref a,H,I,rfl,q1 hw⟩⟩
 ·exact UD pins s σ H _ v vl vu lo hi sl Q I rx hs pl pu ⟨a,xs,rfl,hx,hw,q2 hw⟩
def cutD(xs:List D)(lo hi:Option Int):List D:=(xs.drop (HT.cQ xs.length 0 lo)).take (HT.cQ xs.length xs.length hi-HT.cQ xs.length 0 lo)
abbrev OS:=D->Option Int->Option Int->MH->DK->Prop
def S1(K:aHw)(f:OS):V->Option Int->Option Int->Hp->VK->Prop:=λx lo hi H Q=>∃μ mh dx R,Rep K μ mh H/\Is K μ H dx x/\f dx lo hi mh R/\Fin K μ H R Q
def oSl:OS:=λx lo hi mh Q=>match x with
 | .tup ds=>Q (.tup (cutD ds lo hi)) mh
 | _=>∃ds,jV mh x=some ds/\Q (.ref mh.length) (mh++[.lst (cutD ds lo hi)])
theorem GW{K:aHw}{μ:List Addr}{H:Hp}{ds:List D}{vs:List V}(l:IsL K μ H ds vs)(lo hi:Option Int):IsL K μ H (cutD ds lo hi) (zM vs lo hi):=by
 unfold cutD zM;rw[aJ l];exact B8 _ (CA _ l)
theorem sll:YV X (S1 X.K oSl):=by
 intro pins s σ H x v vl vu lo hi sl Q I rx hs pl pu q;obtain⟨μ,mh,dx,R,RR,ix,q,F⟩:=q
 have go:(∃ds,jV mh dx=some ds/\R (.ref mh.length) (mh++[.lst (cutD ds lo hi)]))->∃T id,typeLookup (.type T) "__getitem__"=pure (some (.builtin id))/\s.TypeIs v T/\wpAny (model X.prog X.w) X.A (getItem v (.ref sl)) (EP X pins σ Q) X.xe s:=λzz14=>by
  obtain⟨ds,e,q⟩:=zz14;obtain⟨a,vs,rfl,sq,l⟩:=nF RR ix e;exact O3 pins s σ H _ v vl vu lo hi sl Q I rx hs pl pu ⟨a,vs,rfl,sq,hC RR F (GW l lo hi) q⟩
 cases dx with
 | tup ds=>
  obtain⟨a,vs,rfl,sq,l⟩:=c8 ix;refine O0 pins s σ H _ v vl vu lo hi sl Q I rx hs pl pu ⟨a,vs,rfl,sq,λhw=>?_,λ_=>lT RR F (GW l lo hi) q⟩
  have e:cutD ds lo hi=ds:=by
   unfold cutD;rw[<-aJ l,hw.1,hw.2,aJ l];simp
  have q' :R (.tup (cutD ds lo hi)) mh:=q;rw[e]at q';exact F.here RR q' ix
 | _=>exact go q
abbrev WO:=eK->MH->(Option Int->MH->Prop)->Prop
def tLO(K:aHw)(w:WO):TO:=λσ H Q=>∃μ ρ mh R,Rep K μ mh H/\cH K μ H ρ σ/\w ρ mh R/\∀o mh',R o mh' ->∀μ' H',aK μ H μ' H' ->Rep K μ' mh' H' ->Q o H'
def LO(X:Cx)(e:Option Expr)(w:WO):Prop:=PO X e (tLO X.K w)
def YK:WO:=λ_ mh Q=>Q none mh
def sX(w:WE):WO:=λρ mh Q=>w ρ mh λx mh1=>∃i,x= .int i/\Q (some i) mh1
variable {e:Expr}{w:WE}{lo hi:Option Expr}{wl wh:WO}{pos p2:Pos}
theorem QU:LO X none YK:=λpins s σ H Q I q=>PU pins s σ H Q I (by
 obtain⟨μ,ρ,mh,R,RR,E,h,F⟩:=q
 exact F none mh h μ H aK.refl RR)
theorem QT(h:LE X e w):LO X (some e) (sX w):=λpins s σ H Q I q=>PR h pins s σ H Q I (by
 obtain⟨μ,ρ,mh,R,RR,E,h,F⟩:=q;refine⟨μ,ρ,mh,_,RR,E,h,λdx mh1 h1 μ1 vx H1 P1 R1 I1=>?_⟩;obtain⟨i,rfl,h1⟩:=h1
 exact⟨i,bF I1,F (some i) mh1 h1 μ1 H1 P1 R1⟩)
def wSl(f:OS)(w:WE)(wl wh:WO):WE:=λρ mh Q=>w ρ mh λx mh1=>wl ρ mh1 λl mh2=>wh ρ mh2 λu mh3=>f x l u mh3 Q
theorem MF{f:OS}(hr:YV X (S1 X.K f))(he:LE X e w)(hl:LO X lo wl)(hh:LO X hi wh):LE X (.Subscript e (.Slice lo hi none p2) pos) (wSl f w wl wh):=PE.imp (LH hr he hl hh) λσ H Q q=>by
 obtain⟨μ,ρ,mh,R,RR,E,h,F⟩:=q;refine⟨μ,ρ,mh,_,RR,E,h,λdx mh1 h1 μ1 vx H1 P1 R1 I1=>⟨μ1,ρ,mh1,_,R1,E.mono RR P1,h1,λl mh2 h2 μ2 H2 P2 R2=>⟨μ2,ρ,mh2,_,R2,E.mono RR (P1.trans P2),h2,λu mh3 h3 μ3 H3 P3 R3=>?_⟩⟩⟩;exact⟨μ3,mh3,dx,R,R3,Is.mono R1 (P2.trans P3) dx vx I1,h3,F.at ((P1.trans P2).trans P3)⟩
abbrev OM:=D->List D->MH->DK->Prop
def liftM(K:aHw)(f:OM):V->List V->Hp->VK->Prop:=λx xs H Q=>∃μ mh dx ds R,Rep K μ mh H/\Is K μ H dx x/\IsL K μ H ds xs/\f dx ds mh R/\Fin K μ H R Q
def EJ(mh:MH)(T:String):D->Prop
 | .str _=>T= "str"
 | .int _=>T= "int"
 | .ref n=>T= "list"/\∃ds,mh[n]? =some (.lst ds)
 | .fl _=>T= "list"
 | .tup _=>T= "tuple"
 | _=>False
theorem WM{μ:List Addr}{mh:MH}{H:Hp}{T:String}{d:D}{v:V}{K:aHw}(RR:Rep K μ mh H)(i:Is K μ H d v)(k:EJ mh T d):tyV K T v H:=by
 cases d with
 | str z=>cases dO i;exact k
 | int z=>cases bF i;exact k
 | ref n=>obtain⟨e,ds,o⟩:=k;obtain⟨a,vs,rfl,_,hv,_⟩:=fK RR i o;exact .inl ⟨e,vs,.of hv⟩
 | fl ds=>obtain⟨a,vs,rfl,sq,_⟩:=pB i;exact .inl ⟨k,vs,sq.sq⟩
 | tup ds=>obtain⟨a,vs,rfl,sq,_⟩:=c8 i;exact .inr (.inl ⟨k,vs,sq⟩)
 | _=>exact False.elim k
variable {o:Expr}{es:List Expr}{wo:WE}{wa:WA}{name:Str}{apos eS:Pos}{T id:String}
def OR(T:String)(f:OM)(wo:WE)(wa:WA):WE:=λρ mh Q=>wo ρ mh λx mh1=>EJ mh1 T x/\wa ρ mh1 λds mh2=>f x ds mh2 Q
theorem S3{f:OM}(pa:PlainAttrs T)(slot:Slot T name id)(hty:typeOf (.builtin id)=pure (.type "method_descriptor"))(hm:MtR X id (liftM X.K f))(ho:LE X o wo)(ha:LA X (e::es) wa)
  (hbase:attributeBase o name X.env (eval o X.env)=eval o X.env:=by rfl)
  (hfew:((backTo eS (starEach (e::es) X.env)).all (λx=>!x.1) && (backToKw eS (keywordEach [] X.env)).all (λx=>x.1.isSome)
   && decide ((e::es).length+([]:List Keyword).length+(if ([]:List Keyword).isEmpty then 0 else 1)<30))=true:=by rfl)
  (hline:(apos.endLine==eS.line)=true:=by rfl) (hs:starEach (e::es) X.env=(false,eval e X.env)::starEach es X.env:=by rfl) (hplain:(backTo eS (starEach es X.env)).any (·.1)=false:=by rfl):
  LE X (.Call (.Attribute o name apos) (e::es) [] eS) (OR T f wo wa):=PE.imp (aA5 pa slot hty hm ho ha hbase hfew hline hs hplain) λσ H Q q=>by
 obtain⟨μ,ρ,mh,R,RR,E,h,F⟩:=q;refine⟨μ,ρ,mh,_,RR,E,h,λdx mh1 h1 μ1 vx H1 P1 R1 I1=>⟨WM R1 I1 h1.1,μ1,ρ,mh1,_,R1,E.mono RR P1,h1.2,λds mh2 h2 μ2 vs H2 P2 R2 I2=>?_⟩⟩;exact⟨μ2,mh2,dx,ds,R,R2,Is.mono R1 P2 dx vx I1,I2,h2,F.at (P1.trans P2)⟩
def g7:OM:=λx ds mh Q=>∃n es d,x= .ref n/\ds=[d]/\mh[n]? =some (.lst es)/\es.length<sizeLine/\Q .b7 (mh.set n (.lst (es++[d])))
theorem II:MtR X "list.append" (liftM X.K g7):=by
 intro pins s σ H x xs v us Q I rx rs q;obtain⟨μ,mh,dx,ds,R,RR,ix,il,⟨n,es,d,rfl,rfl,e,hz,q⟩,F⟩:=q;obtain⟨a,vs,rfl,hn,hv,l⟩:=fK RR ix e;obtain⟨z,rfl,iz⟩:=gG il;exact wW pins s σ H _ _ v us Q I rx rs ⟨a,vs,z,rfl,rfl,hv,by rw[aJ l];exact hz,F.put RR hn (fV l (pC iz)) q .b7⟩
end
structure eJ where
 nx:eK->MH->Prop
 rt:DK
 bk:eK->MH->Prop:=λ_ _=>False
 ct:eK->MH->Prop:=λ_ _=>False
abbrev WS:=eJ->eK->MH->Prop
def FG(K:aHw)(μ:List Addr)(H:Hp)(R:eK->MH->Prop)(Q:L2.St->Hp->Prop):Prop:=
 ∀ρ' mh',R ρ' mh' ->∀μ' σ' H',aK μ H μ' H' ->Rep K μ' mh' H' ->cH K μ' H' ρ' σ' ->Q σ' H'
structure zY(K:aHw)(μ:List Addr)(H:Hp)(E:eJ)(D:Ends):Prop where
 nx:FG K μ H E.nx D.nx
 rt:Fin K μ H E.rt D.rt
 bk:FG K μ H E.bk D.bk
 ct:FG K μ H E.ct D.ct
def tLS(K:aHw)(w:WS):TS:=λD σ H=>∃μ ρ mh E,Rep K μ mh H/\cH K μ H ρ σ/\w E ρ mh/\zY K μ H E D
def LS(X:Cx)(st:Stmt)(w:WS):Prop:=PS X st (tLS X.K w)
def jW(X:Cx)(st:List Stmt)(w:WS):Prop:=zX X st (tLS X.K w)
theorem PS.imp{X:Cx}{e:Stmt}{t t' :TS}(h:PS X e t)(i:∀D σ H,t' D σ H->t D σ H):PS X e t' :=λpins s σ H D I q=>h pins s σ H D I (i D σ H q)
theorem zX.imp{X:Cx}{e:List Stmt}{t t' :TS}(h:zX X e t)(i:∀D σ H,t' D σ H->t D σ H):zX X e t' :=λpins s σ H D I q=>h pins s σ H D I (i D σ H q)
section
variable {K:aHw}{μ μ1:List Addr}{H H1:Hp}
theorem FG.at{R:eK->MH->Prop}{Q:L2.St->Hp->Prop}(F:FG K μ H R Q)(P:aK μ H μ1 H1):FG K μ1 H1 R Q:=λρ' mh' r μ' σ' H' P' R' I=>F ρ' mh' r μ' σ' H' (P.trans P') R' I
theorem zY.at{E:eJ}{D:Ends}(F:zY K μ H E D)(P:aK μ H μ1 H1):zY K μ1 H1 E D:=⟨F.nx.at P,F.rt.at P,F.bk.at P,F.ct.at P⟩
theorem cH.set{ρ:eK}{σ:L2.St}{d:D}{v:V}(E:cH K μ H ρ σ)(i:Nat)(h:Is K μ H d v):cH K μ H (ρ.set i (some d)) (σ.set i (some v)):=by
 refine⟨by simp[E.1],λj e hj=>?_⟩;by_cases hji:j=i
 ·subst hji
  have hl:j<ρ.length:=by
   have:=(aF6.mp hj).1;simpa using this
  rw[List.getElem?_set_self hl]at hj;cases hj;exact⟨v,by rw[List.getElem?_set_self (by rw[<-E.1];exact hl)],h⟩
 ·rw[List.getElem?_set_ne (Ne.symm hji)]at hj;obtain⟨u,h1,h2⟩:=E.2 j e hj;exact⟨u,by rw[List.getElem?_set_ne (Ne.symm hji)];exact h1,h2⟩
end
def d6:WS:=λE ρ mh=>E.nx ρ mh
def bB(t u:WS):WS:=λE ρ mh=>t {E with nx:=u E} ρ mh
def qU(w:WE):WS:=λE ρ mh=>w ρ mh λ_ mh1=>E.nx ρ mh1
def cT(w:WE):WS:=λE ρ mh=>w ρ mh E.rt
def iB(t:WT)(a b:WS):WS:=λE ρ mh=>t ρ mh λc mh1=>if c=true then a E ρ mh1 else b E ρ mh1
section
variable {X:Cx}{st:Stmt}{rest a b:List Stmt}{t u:WS}{e:Expr}{w:WE}{wt:WT}{pos:Pos}
theorem VY:jW X [] d6:=zX.imp PN λD σ H zz0=>by obtain⟨μ,ρ,mh,E,R,En,h,F⟩:=zz0;exact F.nx ρ mh h μ σ H aK.refl R En
theorem yQ(h1:LS X st t)(h2:jW X rest u):jW X (st::rest) (bB t u):=zX.imp (K7 h1 h2) λD σ H zz1=>by
 obtain⟨μ,ρ,mh,E,R,En,h,F⟩:=zz1;exact⟨μ,ρ,mh,_,R,En,h,⟨λρ' mh' q μ' σ' H' P' R' En' =>⟨μ',ρ',mh',E,R',En',q,F.at P'⟩,F.rt,F.bk,F.ct⟩⟩
theorem VX(h1:LS X st t):jW X [st] t:=PM h1
theorem QS(he:LE X e w)(hs:swapsWith e none pos.line X.env=pure false:=by rfl):LS X (.Expr e pos) (qU w):=PS.imp (PQ he hs) λD σ H ⟨μ,ρ,mh,E,R,En,h,F⟩=>
 ⟨μ,ρ,mh,_,R,En,h,λd mh1 q μ1 v H1 P1 R1 I1=>F.nx ρ mh1 q μ1 σ H1 P1 R1 (En.mono R P1)⟩
theorem VW(he:LE X e w):LS X (.Return (some e) pos) (cT w):=PS.imp (UQ he) λD σ H zz6=>by obtain⟨μ,ρ,mh,E,R,En,h,F⟩:=zz6;exact⟨μ,ρ,mh,_,R,En,h,F.rt⟩
theorem aAo{c:Expr}(hc:LT X c wt)(ha:jW X a t)(hb:jW X b u):LS X (.If c a b pos) (iB wt t u):=PS.imp (Z9 hc ha hb) λD σ H zz8=>by
 obtain⟨μ,ρ,mh,E,R,En,h,F⟩:=zz8;refine⟨μ,ρ,mh,_,R,En,h,λk mh1 q μ1 H1 P1 R1=>?_⟩
 cases k with
 | true=>rw[if_pos rfl]at q⊢;exact⟨μ1,ρ,mh1,E,R1,En.mono R P1,q,F.at P1⟩
 | false=>rw[if_neg Bool.false_ne_true]at q⊢;exact⟨μ1,ρ,mh1,E,R1,En.mono R P1,q,F.at P1⟩
abbrev WG:=D->eK->(eK->Prop)->Prop
abbrev SF:=List D->eK->(eK->Prop)->Prop
def qT(K:aHw)(g:TG)(gd:WG):Prop:=∀v σ H Q μ ρ mh d R,Rep K μ mh H->cH K μ H ρ σ->Is K μ H d v->gd d ρ R->(∀ρ',R ρ' ->∀σ',cH K μ H ρ' σ' ->Q σ' H)->g v σ H Q
def xS(K:aHw)(g:HB)(gd:SF):Prop:=∀vs σ H Q μ ρ mh ds R,Rep K μ mh H->cH K μ H ρ σ->IsL K μ H ds vs->gd ds ρ R->(∀ρ',R ρ' ->∀σ',cH K μ H ρ' σ' ->Q σ' H)->g vs σ H Q
def gN(i:Nat):WG:=λd ρ Q=>Q (ρ.set i (some d))
def eL:SF:=λds ρ Q=>ds=[]/\Q ρ
def aQ(t:WG)(u:SF):SF:=λds ρ Q=>∃d r,ds=d::r/\t d ρ λρ' =>u r ρ' Q
def gT(n:Nat)(u:SF):WG:=λd ρ Q=>∃ds,d= .tup ds/\ds.length=n/\u ds ρ Q
theorem zB{K:aHw}(i:Nat):qT K (rH i) (gN i):=λv σ H Q μ ρ mh d R RR En I h F=>F _ h _ (En.set i I)
theorem RF{K:aHw}:xS K ND eL:=λvs σ H Q μ ρ mh ds R RR En I h F=>by
 obtain⟨rfl,h⟩:=h;unfold IsL at I;exact⟨I,F ρ h σ En⟩
theorem NA{K:aHw}{g:TG}{gs:HB}{gd:WG}{gds:SF}(h1:qT K g gd)(h2:xS K gs gds):xS K (CH g gs) (aQ gd gds):=λvs σ H Q μ ρ mh ds R RR En I h F=>by
 obtain⟨d,r,rfl,h⟩:=h;unfold IsL at I;obtain⟨v,vr,rfl,I1,I2⟩:=I;exact⟨v,vr,rfl,h1 v σ H _ μ ρ mh d _ RR En I1 h λρ' q σ' En' =>h2 vr σ' H Q μ ρ' mh r R RR En' I2 q F⟩
theorem XN{K:aHw}{n:Nat}{gs:HB}{gds:SF}(h:xS K gs gds):qT K (XQ K n gs) (gT n gds):=λv σ H Q μ ρ mh d R RR En I q F=>by
 obtain⟨ds,rfl,hl,q⟩:=q;obtain⟨a,vs,rfl,sq,l⟩:=c8 I;exact⟨a,vs,rfl,sq,by rw[aJ l];exact hl,h vs σ H Q μ ρ mh ds R RR En l q F⟩
def bT(w:WE)(g:WG):WS:=λE ρ mh=>w ρ mh λd mh1=>g d ρ λρ' =>E.nx ρ' mh1
theorem FA{K:aHw}{g:TG}{gd:WG}{D:Ends}{σ:L2.St}{H:Hp}(hr:qT K g gd)(h:tLS K (bT w gd) D σ H):OX (tL K w) g D σ H:=by
 obtain⟨μ,ρ,mh,E,R,En,h,F⟩:=h;refine⟨μ,ρ,mh,_,R,En,h,λd mh1 q μ1 v H1 P1 R1 I1=>?_⟩;exact hr v σ H1 _ μ1 ρ mh1 d _ R1 (En.mono R P1) I1 q λρ' q' σ' En' =>F.nx ρ' mh1 q' μ1 σ' H1 P1 R1 En'
theorem VV(i:Nat){x:Str}{pos' :Pos}(hN:X.N.Nodup)(he:LE X e w)(hi:X.N[i]? =some x:=by rfl)(hx:Loc X.env.scope x:=by first | exact Or.inl rfl | exact Or.inr rfl)(hs:swapsWith e (some (.Name x pos')) pos.line X.env=pure false:=by rfl)(hf:X.fn x=true\/X.env.scope.names.lookup x=some .local:=by first | exact .inl rfl | exact .inr rfl | assumption):
  LS X (.Assign [.Name x pos'] e pos) (bT w (gN i)):=PS.imp (UP hN hi hx he hs hf) λD σ H h=>FA (zB i) h
theorem V1{tg:Expr}{g:TG}{gd:WG}(he:LE X e w)(hg:PG X tg g)(hr:qT X.K g gd)(hs:swapsWithSole [tg] e pos.line X.env=pure false:=by rfl)(hw:swappedStores [tg] e X.env=pure none:=by rfl)
  (h1:(assignEach [tg] X.env).map (·.2)=[assign tg X.env]:=by rfl):LS X (.Assign [tg] e pos) (bT w gd):=PS.imp (LB he hg hs hw h1) λD σ H h=>FA hr h
def O5:D->D->D->MH->(MH->Prop)->Prop:=λo i d mh Q=>∃n ds k j,o= .ref n/\i= .int k/\mh[n]? =some (.lst ds)/\EL ds.length k=some j/\Q (mh.set n (.lst (ds.set j d)))
def v7(w wo wi:WE):WS:=λE ρ mh=>w ρ mh λd mh1=>wo ρ mh1 λo mh2=>wi ρ mh2 λi mh3=>O5 o i d mh3 λmh4=>E.nx ρ mh4
theorem QP{o i:Expr}{wo wi:WE}{kK:Pos}(he:LE X e w)(ho:LE X o wo)(hi:LE X i wi)
  (ha:∀v,assign (.Subscript o i kK) X.env v=(do
   let ov<-holding [v] (eval o X.env)
   let iv<-holding [v,ov] (eval i X.env)
   standAt kK
   holding [v,ov,iv] (setItem ov iv v)
   release [v,ov,iv] []):=by intro _;rfl)
  (hs:swapsWithSole [.Subscript o i kK] e pos.line X.env=pure false:=by rfl) (hw:swappedStores [.Subscript o i kK] e X.env=pure none:=by rfl)
  (h1:(assignEach [.Subscript o i kK] X.env).map (·.2)=[assign (.Subscript o i kK) X.env]:=by rfl):LS X (.Assign [.Subscript o i kK] e pos) (v7 w wo wi):=
 PS.imp (LB he (UW ho hi set_list ha) hs hw h1) λD σ H h=>by
  obtain⟨μ,ρ,mh,E,R,En,h,F⟩:=h;refine⟨μ,ρ,mh,_,R,En,h,λd mh1 q μ1 v H1 P1 R1 I1=>?_⟩;refine⟨μ1,ρ,mh1,_,R1,En.mono R P1,q,λdo' mh2 q2 μ2 vo H2 P2 R2 I2=>?_⟩;refine⟨μ2,ρ,mh2,_,R2,En.mono R (P1.trans P2),q2,λdi mh3 q3 μ3 vi H3 P3 R3 I3=>?_⟩;obtain⟨n,ds,k,j,rfl,rfl,e1,e2,q4⟩:=q3;obtain⟨a,vs,rfl,hn,hv,l⟩:=fK R3 (Is.mono R2 P3 _ _ I2) e1;cases bF I3;have Iv:=Is.mono R1 (P2.trans P3) d v I1;have P4:aK μ3 H3 μ3 (upd H3 a (.lst (vs.set j v))):=aK.set R3 hn;have R4:=R3.set hn (GV j Iv l);have P04:=((P1.trans P2).trans P3).trans P4;exact⟨a,vs,k,j,rfl,rfl,hv,by rw[aJ l];exact e2,F.nx ρ _ q4 μ3 σ _ P04 R4 (En.mono R P04)⟩
def DG(t:WT)(b:WS):WS:=λE ρ mh=>∃W:Nat->eK->MH->Prop,(∃m,W m ρ mh)/\∀m ρ mh,W m ρ mh->∃N:eK->MH->Prop,(∀ρ' mh',N ρ' mh' ->∃m',m'<m/\W m' ρ' mh')/\
 t ρ mh λc mh1=>if c=true then b {E with nx:=N,ct:=N,bk:=E.nx} ρ mh1 else E.nx ρ mh1
theorem MB{c:Expr}{body:List Stmt}(hp:PassesOwn (model X.prog X.w) X.A X.env X.xe)(hc:LT X c wt)(hb:jW X body t):LS X (.While c body [] pos) (DG wt t):=PS.imp (K8 hp hc hb) λD σ H h=>by
 obtain⟨μ,ρ,mh,E,R,En,⟨W,⟨m,w0⟩,turn⟩,F⟩:=h;refine⟨λm σ' H' =>∃μ' ρ' mh',aK μ H μ' H' /\Rep X.K μ' mh' H' /\cH X.K μ' H' ρ' σ' /\W m ρ' mh',⟨m,μ,ρ,mh,aK.refl,R,En,w0⟩,?_⟩;rintro m σ' H' ⟨μ',ρ',mh',P',R',En',w'⟩;obtain⟨N,hN,tt⟩:=turn m ρ' mh' w';refine⟨μ',ρ',mh',_,R',En',tt,λk mh1 q μ1 H1 P1 R1=>?_⟩
 cases k with
 | false=>rw[if_neg Bool.false_ne_true]at q⊢;exact F.nx ρ' mh1 q μ1 σ' H1 (P'.trans P1) R1 (En'.mono R' P1)
 | true=>
  rw[if_pos rfl]at q⊢;refine⟨λσ2 H2=>∃μ2 ρ2 mh2,aK μ H μ2 H2/\Rep X.K μ2 mh2 H2/\cH X.K μ2 H2 ρ2 σ2/\N ρ2 mh2,?_,?_⟩
  ·rintro σ2 H2 ⟨μ2,ρ2,mh2,P2,R2,En2,n2⟩;obtain⟨m',hm,w2⟩:=hN ρ2 mh2 n2;exact⟨m',hm,μ2,ρ2,mh2,P2,R2,En2,w2⟩
  ·have P01:=P'.trans P1;exact⟨μ1,ρ',mh1,_,R1,En'.mono R' P1,q,⟨λρ2 mh2 n2 μ2 σ2 H2 P2 R2 En2=>⟨μ2,ρ2,mh2,P01.trans P2,R2,En2,n2⟩,F.rt.at P01,F.nx.at P01,λρ2 mh2 n2 μ2 σ2 H2 P2 R2 En2=>⟨μ2,ρ2,mh2,P01.trans P2,R2,En2,n2⟩⟩⟩
def m6(t:WT)(b:WS)(E:eJ):Nat->eK->MH->Prop
 | 0,_,_=>False
 | n+1,ρ,mh=>t ρ mh λc mh1=>if c=true then b {E with nx:=m6 t b E n,ct:=m6 t b E n,bk:=E.nx} ρ mh1 else E.nx ρ mh1
theorem DF{t:WT}{b:WS}{E:eJ}{ρ:eK}{mh:MH}(n:Nat)(h:m6 t b E n ρ mh):DG t b E ρ mh:=by
 refine⟨λm ρ mh=>m6 t b E m ρ mh,⟨n,h⟩,λm ρ mh hw=>?_⟩
 cases m with
 | zero=>exact hw.elim
 | succ m=>exact⟨m6 t b E m,λρ' mh' q=>⟨m,aG7 _,q⟩,hw⟩
abbrev WI:=eK->MH->(List D->(MH->Prop)->MH->Prop)->Prop
structure jP(μ:List Addr)(H:Hp)(μ' :List Addr)(H' :Hp):Prop where
 pre:∃t,μ' =μ++t
 fr:∀b o,H b=some o->¬Own (some o)->H' b=some o
section
variable {K:aHw}{μ μ' :List Addr}{mh:MH}{H H' :Hp}
theorem aK.weak(R:Rep K μ mh H)(P:aK μ H μ' H'):jP μ H μ' H' :=⟨P.pre,λb o e n=>P.fr b o e λhm=>n (by have:=R.mut hm;rwa [e]at this)⟩
theorem jP.get(p:jP μ H μ' H'){n:Nat}{a:Addr}(h:μ[n]? =some a):μ'[n]? =some a:=by
 obtain⟨t,rfl⟩:=p.pre;rw[List.getElem?_append_left (List.getElem?_eq_some_iff.mp h).1];exact h
theorem jP.ZO(p:jP μ H μ' H'){a:Addr}{vs:List V}(h:nQ K H a vs):nQ K H' a vs:=by
 rcases h with (h | ⟨o,h⟩) | h
 ·exact .inl (.inl (p.fr _ _ h id))
 ·exact .inl (.inr ⟨o,p.fr _ _ h id⟩)
 ·exact .inr h
theorem jP.ZP(p:jP μ H μ' H'){a:Addr}{vs:List V}(h:OE K H a vs):OE K H' a vs:=by
 rcases h with ⟨o,h⟩ | h
 ·exact .inl ⟨o,p.fr _ _ h id⟩
 ·exact .inr h
mutual
theorem Is.oY(p:jP μ H μ' H'):∀(d:D) (v:V),Is K μ H d v->Is K μ' H' d v
 | .b7,v,h=>by unfold Is at*;exact h
 | .bl _,v,h=>by unfold Is at*;exact h
 | .int _,v,h=>by unfold Is at*;exact h
 | .str _,v,h=>by unfold Is at*;exact h
 | .ty _,v,h=>by unfold Is at*;exact h
 | .tup ds,v,h=>by
  unfold Is at*;obtain⟨a,vs,e,s,l⟩:=h;exact⟨a,vs,e,p.ZO s,IsL.oY p ds vs l⟩
 | .fl ds,v,h=>by
  unfold Is at*;obtain⟨a,vs,e,s,l⟩:=h;exact⟨a,vs,e,p.ZP s,IsL.oY p ds vs l⟩
 | .ref n,v,h=>by
  unfold Is at*;obtain⟨a,e,q⟩:=h;exact⟨a,p.get e,q⟩
theorem IsL.oY(p:jP μ H μ' H'):∀(ds:List D) (vs:List V),IsL K μ H ds vs->IsL K μ' H' ds vs
 | [],vs,h=>by unfold IsL at*;exact h
 | d::ds,vs,h=>by
  unfold IsL at*;obtain⟨v,r,e,q,l⟩:=h;exact⟨v,r,e,Is.oY p d v q,IsL.oY p ds r l⟩
end
end
structure FF(K:aHw)(μ:List Addr)(H:Hp)(ds:List D)(St:MH->Prop)(J:It):Prop where
 small:ds.length<=sizeLine
 go:∀μ' mh' H',jP μ H μ' H' ->Rep K μ' mh' H' ->St mh' ->∀(i:Nat) d,ds[i]? =some d->J.go i H' /\∀x H'',J.YJ i H' x H'' ->aK μ' H' μ' H'' /\Rep K μ' mh' H'' /\Is K μ' H'' d x
 stop:∀μ' mh' H',jP μ H μ' H' ->Rep K μ' mh' H' ->St mh' ->J.stop ds.length H'
def tLI(K:aHw)(w:WI):TI:=λσ H R=>∃μ ρ mh R',Rep K μ mh H/\cH K μ H ρ σ/\w ρ mh R' /\
 ∀ds St mh1,R' ds St mh1->∀μ1 J H1,aK μ H μ1 H1->Rep K μ1 mh1 H1->FF K μ1 H1 ds St J->R J H1
def LI(X:Cx)(tg iter:Expr)(w:WI):Prop:=PI X tg iter (tLI X.K w)
theorem PI.imp{X:Cx}{tg e:Expr}{t t' :TI}(h:PI X tg e t)(i:∀σ H Q,t' σ H Q->t σ H Q):PI X tg e t' :=λpins s σ H Q I q=>h pins s σ H Q I (i σ H Q q)
def kX(g:WG)(b:WS)(E:eJ)(St:MH->Prop):List D->eK->MH->Prop
 | [],ρ,mh=>St mh/\E.nx ρ mh
 | d::ds,ρ,mh=>St mh/\g d ρ λρ2=>b {E with nx:=kX g b E St ds,ct:=kX g b E St ds,bk:=E.nx} ρ2 mh
def l7(wi:WI)(g:WG)(b:WS):WS:=λE ρ mh=>wi ρ mh λds St mh1=>kX g b E St ds ρ mh1
theorem VZ{tg iter:Expr}{body:List Stmt}{wi:WI}{g:TG}{gd:WG}(hp:PassesOwn (model X.prog X.w) X.A X.env X.xe)(hc:X.calm=true)(hi:LI X tg iter wi)(hg:PG X tg g)(hr:qT X.K g gd)(hb:jW X body t)
  (hs:∀x,foldedSetIterable iter X.env x=pure x:=by intro _;rfl):LS X (.For tg iter body [] pos) (l7 wi gd t):=PS.imp (UR hp hc hi hg hb hs) λD σ H h=>by
 obtain⟨μ,ρ,mh,E,R,En,h,F⟩:=h;refine⟨μ,ρ,mh,_,R,En,h,λds St mh1 q μ1 J H1 P1 R1 It=>?_⟩;refine⟨λi m σ' H' =>∃μ' ρ' mh',aK μ1 H1 μ' H' /\Rep X.K μ' mh' H' /\cH X.K μ' H' ρ' σ' /\i<=ds.length/\m=ds.length-i/\kX gd t E St (ds.drop i) ρ' mh',⟨ds.length,μ1,ρ,mh1,aK.refl,R1,En.mono R P1,aGk _,by simp,by simpa using q⟩,?_⟩;rintro i m σ' H' ⟨μ',ρ',mh',P',R',En',hi',rfl,l⟩;by_cases hlt:i<ds.length
 ·rw[List.drop_eq_getElem_cons hlt]at l;obtain⟨hst,l⟩:=l;obtain⟨hgo,hy⟩:=It.go μ' mh' H' (P'.weak R1) R' hst i ds[i] (by simp[hlt]);refine .inr ⟨hgo,λσ2 H2=>∃μ2 ρ2 mh2,aK μ1 H1 μ2 H2/\Rep X.K μ2 mh2 H2/\cH X.K μ2 H2 ρ2 σ2/\kX gd t E St (ds.drop (i+1)) ρ2 mh2,?_,λx H'' y=>?_⟩
  ·rintro σ2 H2 ⟨μ2,ρ2,mh2,P2,R2,En2,l2⟩;exact⟨ds.length-(i+1),by lia,μ2,ρ2,mh2,P2,R2,En2,hlt,rfl,l2⟩
  ·obtain⟨Py,Ry,Iy⟩:=hy x H'' y;refine hr x σ' H'' _ μ' ρ' mh' _ _ Ry (En'.mono R' Py) Iy l λρ3 q3 σ3 En3=>?_;have P3:=P'.trans Py;have P03:=P1.trans P3
   have nxt:FG X.K μ' H'' (kX gd t E St (ds.drop (i+1))) (λσ2 H2=>∃μ2 ρ2 mh2,aK μ1 H1 μ2 H2/\Rep X.K μ2 mh2 H2/\cH X.K μ2 H2 ρ2 σ2/\kX gd t E St (ds.drop (i+1)) ρ2 mh2):=
    λρ2 mh2 n2 μ2 σ2 H2 P2 R2 En2=>⟨μ2,ρ2,mh2,P3.trans P2,R2,En2,n2⟩
   exact⟨μ',ρ3,mh',_,Ry,En3,q3,⟨nxt,F.rt.at P03,F.nx.at P03,nxt⟩⟩
 ·have e:i=ds.length:=by lia
  subst e;rw[List.drop_of_length_le (Nat.le_refl _)]at l;exact .inl ⟨It.stop μ' mh' H' (P'.weak R1) R' l.1,F.nx ρ' mh' l.2 μ' σ' H' (P1.trans P') R' En'⟩
end
def cO(w:WE):WI:=λρ mh Q=>w ρ mh λx mh1=>∃ds,bA mh1 x=some ds/\Q ds (λmh' =>bA mh' x=some ds) mh1
section
variable {K:aHw}{μ:List Addr}{mh:MH}{H:Hp}{ds:List D}{vs:List V}{a:Addr}
theorem WZ{St:MH->Prop}(R:Rep K μ mh H)(s:nQ K H a vs)(l:IsL K μ H ds vs)(hz:ds.length<=sizeLine):FF K μ H ds St (Itt K a):=by
 refine⟨hz,λμ' mh' H' P' R' _ i d e=>?_,λμ' mh' H' P' R' _=>⟨vs,P'.ZO s,by rw[aJ l];exact aF9 _⟩⟩;have s' :=P'.ZO s;obtain⟨v,ev,iv⟩:=eD (IsL.oY P' ds vs l) e;refine⟨⟨vs,v,s',ev⟩,λx H'' y=>?_⟩;obtain⟨rfl,y⟩:=y;have:=y vs s';rw[ev]at this;cases this;exact⟨aK.refl,R',iv⟩
theorem aB5{St:MH->Prop}(R:Rep K μ mh H)(s:OE K H a vs)(l:IsL K μ H ds vs)(hz:ds.length<=sizeLine):FF K μ H ds St (Itl K a):=by
 refine⟨hz,λμ' mh' H' P' R' _ i d e=>?_,λμ' mh' H' P' R' _=>⟨vs,(P'.ZP s).sq,by rw[aJ l];exact aF9 _⟩⟩;have s' :=(P'.ZP s).sq;obtain⟨v,ev,iv⟩:=eD (IsL.oY P' ds vs l) e;refine⟨⟨vs,v,s',ev⟩,λx H'' y=>?_⟩;obtain⟨rfl,y⟩:=y;have:=y vs s';rw[ev]at this;cases this;exact⟨aK.refl,R',iv⟩
theorem sH{mh:MH}{n:Nat}{ds:List D}(h:bA mh (.ref n)=some ds):mh[n]? =some (.lst ds):=by
 simp only[bA]at h
 cases o:mh[n]? with
 | none=>rw[o]at h;cases h
 | some ob=>cases ob with
  | lst es=>rw[o]at h;cases h;rfl
  | dic t kvs=>rw[o]at h;cases h
  | fdc t kvs ob=>rw[o]at h;cases h
theorem W4{n:Nat}(R:Rep K μ mh H)(hn:μ[n]? =some a)(hz:ds.length<=sizeLine):FF K μ H ds (λmh' =>bA mh' (.ref n)=some ds) (Itl K a):=by
 refine⟨hz,λμ' mh' H' P' R' hs i d e=>?_,λμ' mh' H' P' R' hs=>?_⟩
 ·obtain⟨vs,hv,l⟩:=R'.obj n a _ (P'.get hn) (sH hs);obtain⟨v,ev,iv⟩:=eD l e;refine⟨⟨vs,v,.of hv,ev⟩,λx H'' y=>?_⟩;obtain⟨rfl,y⟩:=y;have:=y vs (.of hv);rw[ev]at this;cases this;exact⟨aK.refl,R',iv⟩
 ·obtain⟨vs,hv,l⟩:=R'.obj n a _ (P'.get hn) (sH hs);exact⟨vs,.of hv,by rw[aJ l];exact aF9 _⟩
end
section
variable {X:Cx}{tg l:Expr}{w:WE}
theorem V2(hl:LE X l w):LI X tg l (cO w):=by
 intro pins s σ H R I h;obtain⟨μ,ρ,mh,R',RR,En,h,F⟩:=h;refine cM (hl pins s σ H (λv H1=>∃μ1 x mh1 ds,aK μ H μ1 H1/\Rep X.K μ1 mh1 H1/\Is X.K μ1 H1 x v/\bA mh1 x=some ds/\R' ds (λmh' =>bA mh' x=some ds) mh1) I ⟨μ,ρ,mh,_,RR,En,h,λd mh1 q μ1 v H1 P1 R1 I1=>?_⟩) λv s1 ⟨x,H1,I1,r1,q1⟩=>?_
 ·obtain⟨ds,e,q⟩:=q;exact⟨μ1,d,mh1,ds,P1,R1,I1,e,q⟩
 ·obtain⟨μ1,dx,mh1,ds,P1,R1,ix,e,q⟩:=q1;obtain⟨a,vs,rfl,sq,il⟩:=nB R1 ix e;have hz:ds.length<=sizeLine:=by rw[<-aJ il];exact UA I1 sq
  have listW:∀{vs:List V},nS X.K H1 a vs->FF X.K μ1 H1 ds (λmh' =>bA mh' dx=some ds) (Itl X.K a)->wpAny (model X.prog X.w) X.A (pyIter v) (PIE X pins σ tg R) X.xe s1:=λ{vs} sq It=>by
   obtain⟨aG,rv,p,_⟩:=I1.list sq;cases r1;refine wpAny_pyIter_list p.isList ?_;refine⟨s1.heap.objs.size,[s1.heap.objs.size],_,_,H1,rfl,I1.kept (t' :=s1.toks) λb o e=>aF4 _ e,HI a _,⟨_,aFa _ rfl,rfl,rfl⟩,λb hb=>?_,F ds _ mh1 q μ1 _ H1 P1 R1 It⟩;have e:b=s1.heap.objs.size:=by simpa using hb
   subst e;exact I1.JC (aF9 _) (I1.bG.fresh (aF9 _))
  cases dx with
  | tup es=>
   cases e;obtain⟨a',vs',ea,sq',il'⟩:=c8 ix;cases ea;obtain⟨aG,rv,p,_⟩:=I1.tuple sq';cases r1;refine wpAny_pyIter_tuple (show s1.heap.IsTuple a aG.toArray from p) ?_;refine⟨s1.heap.objs.size,[s1.heap.objs.size],_,_,H1,rfl,I1.kept (t' :=s1.toks) λb o e=>aF4 _ e,DJ a _,⟨_,aFa _ rfl,rfl,rfl⟩,λb hb=>?_,F ds _ mh1 q μ1 _ H1 P1 R1 (WZ R1 sq' il' hz)⟩;have e:b=s1.heap.objs.size:=by simpa using hb
   subst e;exact I1.JC (aF9 _) (I1.bG.fresh (aF9 _))
  | fl es=>
   cases e;obtain⟨a',vs',ea,sq',il'⟩:=pB ix;cases ea;exact listW sq'.sq (aB5 R1 sq' il' hz)
  | ref n=>
   obtain⟨a',vs',ea,hn,hv,il'⟩:=fK R1 ix (sH e);cases ea;exact listW (.of hv) (W4 R1 hn hz)
  | _=>cases e
def kS(lo:Int)(n:Nat):List D:=(List.range n).map λ(k:Nat)=>D.int (lo+(k:Int))
theorem MV{K:aHw}{μ:List Addr}{H:Hp}{St:MH->Prop}{lo:Int}{n:Nat}(hz:n<=sizeLine):FF K μ H (kS lo n) St (Itr lo n):=by
 refine⟨by simpa[kS] using hz,λμ' mh' H' P' R' _ i d e=>?_,λμ' mh' H' P' R' _=>by show n<=_;simp[kS]⟩;simp only[kS,List.getElem?_map]at e;obtain⟨k,hk,rfl⟩:=aG0.mp e;obtain⟨hi,rfl⟩:=aF6.mp hk;simp at hi;refine⟨hi,λx H'' y=>?_⟩;obtain⟨rfl,rfl⟩:=y;exact⟨aK.refl,R',by simp;exact .int⟩
variable {a b:Expr}{wa:WA}{p pos:Pos}
def n4(wa:WA):WI:=λρ mh Q=>wa ρ mh λds mh1=>∃j,ds=[.int j]/\ -(2^62)<=j/\j<=sizeLine/\Q (kS 0 j.toNat) (λ_=>True) mh1
def AO(wa:WA):WI:=λρ mh Q=>wa ρ mh λds mh1=>∃i j,ds=[.int i,.int j]/\ -(2^62)<=i/\i<2^62/\ -(2^62)<=j/\j<2^62/\j-i<=sizeLine/\Q (kS i (j-i).toNat) (λ_=>True) mh1
theorem IM(hg:Gl X "range")(hm:X.mg "range"=none)(ha:LA X [a] wa)(hs:starEach [a] X.env=[(false,eval a X.env)]:=by rfl):LI X tg (.Call (.Name "range" p) [a] [] pos) (n4 wa):=
 PI.imp (HY hg hm ha hs) λσ H R h=>by
  obtain⟨μ,ρ,mh,R',RR,En,h,F⟩:=h;refine⟨μ,ρ,mh,_,RR,En,h,λds mh1 q μ1 vs H1 P1 R1 I1=>?_⟩;obtain⟨j,rfl,h1,h2,q⟩:=q;obtain⟨v,rfl,iv⟩:=gG I1;cases bF iv;have hl:=kY;have hs:sizeLine=16777216:=aFn;exact⟨j,rfl,h1,by lia,F _ _ mh1 q μ1 _ H1 P1 R1 (MV (by lia))⟩
theorem IL(hg:Gl X "range")(hm:X.mg "range"=none)(ha:LA X [a,b] wa)(hs:starEach [a,b] X.env=[(false,eval a X.env),(false,eval b X.env)]:=by rfl)(hs2:starEach [b] X.env=[(false,eval b X.env)]:=by rfl):LI X tg (.Call (.Name "range" p) [a,b] [] pos) (AO wa):=
 PI.imp (HX hg hm ha hs hs2) λσ H R h=>by
  obtain⟨μ,ρ,mh,R',RR,En,h,F⟩:=h;refine⟨μ,ρ,mh,_,RR,En,h,λds mh1 q μ1 vs H1 P1 R1 I1=>?_⟩;obtain⟨i,j,rfl,h1,h2,h3,h4,h5,q⟩:=q;obtain⟨v,u,rfl,iv,iu⟩:=CB I1;cases bF iv;cases bF iu;exact⟨i,j,rfl,⟨h1,h2,h3,h4⟩,F _ _ mh1 q μ1 _ H1 P1 R1 (MV (by lia))⟩
def jR:List D->List D->List D
 | a::as,b::bs=>.tup [a,b]::jR as bs
 | _,_=>[]
theorem sO:∀(as bs:List D),(jR as bs).length=min as.length bs.length
 | [],bs=>by simp[jR]
 | a::as,[]=>by simp[jR]
 | a::as,b::bs=>by simp[jR,sO as bs]
theorem AE:∀{as bs:List D} {i:Nat} {d:D},(jR as bs)[i]? =some d->∃x y,as[i]? =some x/\bs[i]? =some y/\d= .tup [x,y]
 | [],bs,i,d,h=>by simp[jR]at h
 | a::as,[],i,d,h=>by simp[jR]at h
 | a::as,b::bs,0,d,h=>by simp[jR]at h;exact⟨a,b,rfl,rfl,h.symm⟩
 | a::as,b::bs,i+1,d,h=>by simpa using AE (as:=as) (bs:=bs) (i:=i) (by simpa[jR] using h)
def AN(wa:WA):WI:=λρ mh Q=>wa ρ mh λxs mh1=>∃x y ds es,xs=[x,y]/\bA mh1 x=some ds/\bA mh1 y=some es/\ds.length<=sizeLine/\Q (jR ds es) (λmh' =>bA mh' x=some ds/\bA mh' y=some es) mh1
def OC:D->Bool | .tup _=>true | _=>false
theorem tP{K:aHw}{μ:List Addr}{mh:MH}{H:Hp}{d:D}{v:V}{ds:List D}(R:Rep K μ mh H)(h:Is K μ H d v)(e:bA mh d=some ds):∃a vs,v= .ref a/\HC K H (OC d) a vs/\IsL K μ H ds vs:=by
 cases d with
 | tup es=>obtain⟨a,vs,rfl,s,l⟩:=c8 h;cases e;exact⟨a,vs,rfl,s,l⟩
 | fl es=>obtain⟨a,vs,rfl,s,l⟩:=pB h;cases e;exact⟨a,vs,rfl,s.sq,l⟩
 | ref n=>obtain⟨a,vs,rfl,_,hv,l⟩:=fK R h (sH e);exact⟨a,vs,rfl,nS.of hv,l⟩
 | _=>cases e
variable {e1 e2:Expr}{elts:List Expr}{x1:Nat}{tpos:Pos}
theorem QW{x1}(hg:Gl X "zip")(hm:X.mg "zip"=none)(ha:LA X [e1,e2] wa)
  (he:starEach [e1,e2] X.env=(false,eval e1 X.env)::starEach [e2] X.env:=by rfl) (hpl:(backTo pos (starEach [e2] X.env)).any (·.1)=false:=by rfl):
  LI X (.Tuple elts x1 tpos) (.Call (.Name "zip" p) [e1,e2] [] pos) (AN wa):=
 PI.imp (UT SM ⟨by decide,by decide⟩ hg hm ha (by decide+kernel) he hpl) λσ H R h=>by
  obtain⟨μ,ρ,mh,R',RR,En,h,F⟩:=h;refine⟨μ,ρ,mh,_,RR,En,h,λxs mh1 q μ1 vs H1 P1 R1 I1=>?_⟩;obtain⟨x,y,ds,es,rfl,h1,h2,hz,q⟩:=q;obtain⟨v,u,rfl,iv,iu⟩:=CB I1;obtain⟨a,xs,rfl,sa,la⟩:=tP R1 iv h1;obtain⟨b,ys,rfl,sb,lb⟩:=tP R1 iu h2;refine⟨[(a,OC x),(b,OC y)],rfl,rfl,?_,F _ _ mh1 q μ1 _ H1 P1 R1 ?_⟩
  ·intro pp hpp;simp at hpp;rcases hpp with rfl | rfl
   ·exact⟨xs,sa⟩
   ·exact⟨ys,sb⟩
  ·have later:∀μ' mh' H',jP μ1 H1 μ' H' ->Rep X.K μ' mh' H' ->(bA mh' x=some ds/\bA mh' y=some es)->∃xs ys,HC X.K H' (OC x) a xs/\IsL X.K μ' H' ds xs/\HC X.K H' (OC y) b ys/\IsL X.K μ' H' es ys:=λμ' mh' H' P' R' st=>by
    obtain⟨a',xs',e1,s1,l1⟩:=tP R' (Is.oY P' _ _ iv) st.1;obtain⟨b',ys',e2,s2,l2⟩:=tP R' (Is.oY P' _ _ iu) st.2;cases e1;cases e2;exact⟨xs',ys',s1,l1,s2,l2⟩
   refine⟨by rw[sO];lia,λμ' mh' H' P' R' st i d e=>?_,λμ' mh' H' P' R' st=>?_⟩
   ·obtain⟨xs',ys',s1,l1,s2,l2⟩:=later μ' mh' H' P' R' st;obtain⟨dx,dy,g1,g2,rfl⟩:=AE e;obtain⟨vx,k1,ix⟩:=eD l1 g1;obtain⟨vy,k2,iy⟩:=eD l2 g2;refine⟨⟨[vx,vy],rfl,λk a' t' v hk hv=>?_⟩,λz H'' yl=>?_⟩
    ·match k with
     | 0=>cases hk;cases hv;exact⟨xs',s1,k1⟩
     | 1=>cases hk;cases hv;exact⟨ys',s2,k2⟩
     | k+2=>simp at hk
    ·obtain⟨pp,vs,hp,rfl,rfl,hvl,hvs⟩:=yl
     match vs,hvl with
     | [v1,v2],_=>
      have e1:=hvs 0 a (OC x) v1 rfl rfl xs' s1;have e2:=hvs 1 b (OC y) v2 rfl rfl ys' s2;rw[k1]at e1;rw[k2]at e2;cases e1;cases e2;have Pn:aK μ' H' μ' (upd H' pp (.tup [vx,vy])):=aK.new R' hp;refine⟨Pn,R'.new hp,?_⟩;unfold Is;refine⟨pp,[vx,vy],rfl,.of bK,?_⟩;unfold IsL;exact⟨vx,[vy],rfl,Is.mono R' Pn _ _ ix,pC (Is.mono R' Pn _ _ iy)⟩
   ·obtain⟨xs',ys',s1,l1,s2,l2⟩:=later μ' mh' H' P' R' st;rw[sO];by_cases hle:ds.length<=es.length
    ·refine⟨0,a,OC x,xs',rfl,s1,by rw[aJ l1];lia,λj b u hj=>absurd hj (by lia)⟩
    ·refine⟨1,b,OC y,ys',rfl,s2,by rw[aJ l2];lia,λj b u hj hs=>?_⟩;have:j=0:=by lia
     subst this;cases hs;exact⟨xs',s1,by rw[aJ l1];lia⟩
end
section
variable {K:aHw}{μ μ' :List Addr}{mh:MH}{H H0:Hp}{q:Addr}{o:HO}
mutual
theorem Is.out(hm:JZ (H q)):∀(d:D) (v:V),Is K μ H d v->Is K μ (upd H q o) d v
 | .b7,v,h=>by unfold Is at*;exact h
 | .bl _,v,h=>by unfold Is at*;exact h
 | .int _,v,h=>by unfold Is at*;exact h
 | .str _,v,h=>by unfold Is at*;exact h
 | .ty _,v,h=>by unfold Is at*;exact h
 | .tup ds,v,h=>by
  unfold Is at*;obtain⟨a,vs,e,s,l⟩:=h;refine⟨a,vs,e,?_,IsL.out hm ds vs l⟩
  rcases s with (s | ⟨ob,s⟩) | s
  ·exact .inl (.inl (by rw[aM (λz=>by subst z;rw[s]at hm;exact hm)];exact s))
  ·exact .inl (.inr ⟨ob,by rw[aM (λz=>by subst z;rw[s]at hm;exact hm)];exact s⟩)
  ·exact .inr s
 | .fl ds,v,h=>by
  unfold Is at*;obtain⟨a,vs,e,s,l⟩:=h;refine⟨a,vs,e,?_,IsL.out hm ds vs l⟩
  rcases s with ⟨ob,s⟩ | s
  ·exact .inl ⟨ob,by rw[aM (λz=>by subst z;rw[s]at hm;exact hm)];exact s⟩
  ·exact .inr s
 | .ref n,v,h=>by unfold Is at*;exact h
theorem IsL.out(hm:JZ (H q)):∀(ds:List D) (vs:List V),IsL K μ H ds vs->IsL K μ (upd H q o) ds vs
 | [],vs,h=>by unfold IsL at*;exact h
 | d::ds,vs,h=>by
  unfold IsL at*;obtain⟨v,r,e,i,l⟩:=h;exact⟨v,r,e,Is.out hm d v i,IsL.out hm ds r l⟩
end
mutual
theorem Is.pre(hp:∀(n:Nat) a,μ[n]? =some a->μ'[n]? =some a):∀(d:D) (v:V),Is K μ H d v->Is K μ' H d v
 | .b7,v,h=>by unfold Is at*;exact h
 | .bl _,v,h=>by unfold Is at*;exact h
 | .int _,v,h=>by unfold Is at*;exact h
 | .str _,v,h=>by unfold Is at*;exact h
 | .ty _,v,h=>by unfold Is at*;exact h
 | .tup ds,v,h=>by unfold Is at*;obtain⟨a,vs,e,s,l⟩:=h;exact⟨a,vs,e,s,IsL.pre hp ds vs l⟩
 | .fl ds,v,h=>by unfold Is at*;obtain⟨a,vs,e,s,l⟩:=h;exact⟨a,vs,e,s,IsL.pre hp ds vs l⟩
 | .ref n,v,h=>by unfold Is at*;obtain⟨a,e,q⟩:=h;exact⟨a,hp n a e,q⟩
theorem IsL.pre(hp:∀(n:Nat) a,μ[n]? =some a->μ'[n]? =some a):∀(ds:List D) (vs:List V),IsL K μ H ds vs->IsL K μ' H ds vs
 | [],vs,h=>by unfold IsL at*;exact h
 | d::ds,vs,h=>by unfold IsL at*;obtain⟨v,r,e,i,l⟩:=h;exact⟨v,r,e,Is.pre hp d v i,IsL.pre hp ds r l⟩
end
theorem Rep.out(R:Rep K μ mh H)(hm:JZ (H q))(hq:q∉μ):Rep K μ mh (upd H q o):=⟨R.len,R.nd,λn a ob h1 h2=>by
 have h:=R.obj n a ob h1 h2;have hne:a≠q:=λz=>hq (z▸aFf h1)
 cases ob with
 | lst ds=>obtain⟨vs,e,l⟩:=h;exact⟨vs,by rw[aM hne];exact e,IsL.out hm ds vs l⟩
 | dic t kvs=>obtain⟨vs,e,l⟩:=h;exact⟨vs,by rw[aM hne];exact e,IsL.out hm _ vs l⟩
 | fdc t kvs ob=>obtain⟨vs,u,e,e2,l⟩:=h;exact⟨vs,u,by rw[aM hne];exact e,e2,IsL.out hm _ vs l⟩⟩
theorem aK.out(P:aK μ H0 μ' H)(h0:H0 q=none):aK μ H0 μ' (upd H q o):=⟨P.pre,λb u e n=>by rw[aM (bM e h0)];exact P.fr b u e n,P.nw⟩
theorem Rep.SA{ob0:MO}(R:Rep K μ mh H)(hq:q∉μ)(e:lJ K (μ++[q]) H ob0 q):Rep K (μ++[q]) (mh++[ob0]) H:=by
 have pr:∀{es us},IsL K μ H es us->IsL K (μ++[q]) H es us:=λ{es us} l=>IsL.pre (λn a h=>by rw[List.getElem?_append_left (List.getElem?_eq_some_iff.mp h).1];exact h) es us l;refine⟨by simp[R.len],?_,λn a ob h1 h2=>?_⟩
 ·rw[List.nodup_append];refine⟨R.nd,by simp,λa ha b hb=>?_⟩;simp at hb;subst hb;exact λz=>hq (z▸ha)
 ·by_cases hn:n<μ.length
  ·rw[List.getElem?_append_left hn]at h1;rw[List.getElem?_append_left (by rw[<-R.len];exact hn)]at h2;have h:=R.obj n a ob h1 h2
   cases ob with
   | lst es=>obtain⟨us,e1,l1⟩:=h;exact⟨us,e1,pr l1⟩
   | dic t kvs=>obtain⟨us,e1,l1⟩:=h;exact⟨us,e1,pr l1⟩
   | fdc t kvs ob=>obtain⟨us,u,e1,e2,l1⟩:=h;exact⟨us,u,e1,e2,pr l1⟩
  ·rw[List.getElem?_append_right (by lia)]at h1;rw[List.getElem?_append_right (by rw[<-R.len];lia)]at h2
   have hz:n-μ.length=0:=by
    have:=(aF6.mp h1).1;simp at this;lia
   rw[hz]at h1;rw[<-R.len,hz]at h2;simp at h1 h2;subst h1 h2;exact e
theorem Rep.aBr{ds:List D}{vs:List V}(R:Rep K μ mh H)(hq:q∉μ)(e:H q=some (.lst vs))(l:IsL K μ H ds vs):Rep K (μ++[q]) (mh++[.lst ds]) H:=
 R.SA hq ⟨vs,e,IsL.pre (λn a h=>by rw[List.getElem?_append_left (List.getElem?_eq_some_iff.mp h).1];exact h) ds vs l⟩
end
def fW(own:List Str)(aI:List Nat)(ρ:eK):eK:=own.map (λ_=>none)++aI.map λi=>(ρ[i]?).join
def iS(g:WG)(t:WT)(w:WE)(ρe:eK)(St:MH->Prop)(Q:DK):List D->List D->MH->Prop
 | [],ys,mh=>St mh/\Q (.ref mh.length) (mh++[.lst ys])
 | d::ds,ys,mh=>St mh/\g d ρe λρ2=>t ρ2 mh λb mh3=>if b=true then w ρ2 mh3 λy mh4=>iS g t w ρe St Q ds (ys++[y]) mh4 else iS g t w ρe St Q ds ys mh3
def vL(own:List Str)(aI:List Nat)(wi:WI)(g:WG)(t:WT)(w:WE):WE:=λρ mh Q=>wi ρ mh λds St mh1=>iS g t w (fW own aI ρ) St Q ds [] mh1
def iA:WT:=λ_ mh Q=>Q true mh
section
variable {K:aHw}{μ μ1:List Addr}{mh:MH}{H H1:Hp}
theorem aK.away{q:Addr}{o:HO}(P:aK μ H μ1 H1)(hn:q∉μ)(e:H q=some o):q∉μ1/\H1 q=some o:=by
 refine⟨λh=>?_,P.fr q o e hn⟩;rcases P.nw q h with z | z
 ·exact hn z
 ·rw[e]at z;cases z
theorem cH.emb{ρ:eK}{σ:L2.St}{own:List Str}{aI:List Nat}(E:cH K μ H ρ σ):cH K μ H (fW own aI ρ) (qI own aI σ):=by
 refine⟨by simp[fW,qI],λi d h=>?_⟩;unfold fW at h;unfold qI;by_cases hi:i<own.length
 ·rw[List.getElem?_append_left (by simpa using hi),List.getElem?_map]at h
  cases q:own[i]? with
  | none=>rw[q]at h;simp at h
  | some z=>rw[q]at h;simp at h
 ·rw[List.getElem?_append_right (by simpa using hi),List.getElem?_map]at h⊢;simp only[List.length_map]at h⊢
  cases q:aI[i-own.length]? with
  | none=>rw[q]at h;simp at h
  | some k=>
   rw[q]at h;simp only[Option.map_some,Option.some.injEq]at h⊢
   cases r:ρ[k]? with
   | none=>rw[r]at h;simp at h
   | some z=>
    rw[r]at h;simp at h;subst h;obtain⟨v,h1,h2⟩:=E.2 k d r;exact⟨v,by rw[h1];rfl,h2⟩
end
section
variable {X:Cx}
def SH(X:Cx)(es:List Expr)(w:WT):Prop:=YW X es (T6 X.K w)
theorem QO:SH X [] iA:=λpins s σ H Q I q=>PK pins s σ H Q I (by
 obtain⟨μ,ρ,mh,R,RR,En,h,F⟩:=q
 exact F true mh h μ H aK.refl RR)
theorem QN{c:Expr}{t:WT}(h:LT X c t):SH X [c] t:=PJ h
theorem GL{wi:WI}{g:TG}{gd:WG}{t:WT}{w:WE}{own:List Str}{aI:List Nat}(hr:qT X.K g gd){σ:L2.St}{H:Hp}{Q:VK}(h:tL X.K (vL own aI wi gd t w) σ H Q):tLC own aI (tLI X.K wi) g (T6 X.K t) (tL X.K w) σ H Q:=by
 obtain⟨μ,ρ,mh,R,RR,En,h,F⟩:=h;refine⟨μ,ρ,mh,_,RR,En,h,λds St mh1 q μ1 J H1 P1 R1 It acc hacc=>?_⟩;have hacc1:acc∉μ1:=λz=>R1.ne hacc z rfl
 refine⟨λi m ys H' =>∃μ' mh' dys,aK μ1 H1 μ' H' /\Rep X.K μ' mh' H' /\acc∉μ' /\H' acc=some (.lst ys)/\IsL X.K μ' H' dys ys/\dys.length<=i/\i<=ds.length/\m=ds.length-i/\iS gd t w (fW own aI ρ) St R (ds.drop i) dys mh',
  ⟨ds.length,μ1,mh1,[],aK.out aK.refl hacc,R1.new hacc,hacc1,bK,by unfold IsL;rfl,aF9 _,aGk _,by simp,by simpa using q⟩,?_⟩
 rintro i m ys H' ⟨μ',mh',dys,P',R',ha',e',l',hd',hi',rfl,c⟩;refine⟨e',?_⟩;by_cases hlt:i<ds.length
 ·rw[List.drop_eq_getElem_cons hlt]at c;obtain⟨hst,c⟩:=c;obtain⟨hgo,hy⟩:=It.go μ' mh' H' (P'.weak R1) R' hst i ds[i] (by simp[hlt]);refine .inr ⟨hgo,λys2 H2=>∃μ2 mh2 dys2,aK μ1 H1 μ2 H2/\Rep X.K μ2 mh2 H2/\acc∉μ2/\H2 acc=some (.lst ys2)/\IsL X.K μ2 H2 dys2 ys2/\dys2.length<=i+1/\iS gd t w (fW own aI ρ) St R (ds.drop (i+1)) dys2 mh2,?_,λx H'' y=>?_⟩
  ·rintro ys2 H2 ⟨μ2,mh2,dys2,P2,R2,ha2,e2,l2,hd2,c2⟩;exact⟨ds.length-(i+1),by lia,μ2,mh2,dys2,P2,R2,ha2,e2,l2,hd2,hlt,rfl,c2⟩
  ·obtain⟨Py,Ry,Iy⟩:=hy x H'' y;obtain⟨hay,ey⟩:=Py.away ha' e';have ly:=IsL.mono R' Py dys ys l';have P0y:=P1.trans (P'.trans Py);refine hr x _ H'' _ μ' (fW own aI ρ) mh' _ _ Ry (En.mono RR P0y).emb Iy c λρ2 q2 σ2 En2=>?_;refine⟨μ',ρ2,mh',_,Ry,En2,q2,λb mh3 q3 μ3 H3 P3 R3=>?_⟩;obtain⟨ha3,e3⟩:=P3.away hay ey;have l3:=IsL.mono Ry P3 dys ys ly;have P13:=(P'.trans Py).trans P3
   cases b with
   | false=>rw[if_neg Bool.false_ne_true]at q3⊢;exact⟨μ3,mh3,dys,P13,R3,ha3,e3,l3,by lia,q3⟩
   | true=>
    rw[if_pos rfl]at q3⊢;refine⟨by have:=It.small;rw[aJ l'];lia,μ3,ρ2,mh3,_,R3,En2.mono Ry P3,q3,λy mh4 q4 μ4 vy H4 P4 R4 I4=>?_⟩;obtain⟨ha4,e4⟩:=P4.away ha3 e3;have hm:JZ (H4 acc):=by rw[e4];trivial
    have l4:=IsL.mono R3 P4 dys ys l3;exact⟨e4,μ4,mh4,dys++[y],aK.out (P13.trans P4) hacc,R4.out hm ha4,ha4,bK,IsL.out hm _ _ (fV l4 (pC I4)),by simp;lia,q4⟩
 ·have e:i=ds.length:=by lia
  subst e;rw[List.drop_of_length_le (Nat.le_refl _)]at c;refine .inl ⟨It.stop μ' mh' H' (P'.weak R1) R' c.1,?_⟩
  have Pa:aK μ1 H1 (μ' ++[acc]) H' :=⟨by obtain⟨t,rfl⟩:=P'.pre;exact⟨t++[acc],by simp⟩,P'.fr,λa ha=>by
   rcases aFb.mp ha with ha | ha
   ·exact P'.nw a ha
   ·simp at ha;subst ha;exact .inr hacc⟩
  exact F _ _ c.2 (μ' ++[acc]) _ H' (P1.trans Pa) (R'.aBr ha' e' l') (by unfold Is;exact⟨acc,by rw[<-R'.len];simp,rfl⟩)
theorem aAv{tg iter elt:Expr}{ifs:List Expr}{scope sc:Scope}{N:List Str}{pos:Pos}{wi:WI}{g:TG}{gd:WG}{t:WT}{w:WE}(own:List Str)(aI:List Nat)
  (hN:X.N=N) (hsc:X.env.scope=sc) (chk:fX N sc scope aI=true) (hcalm:X.calm=true) (hi:LI X tg iter wi) (ho:vZ own.length g)
  (hr:qT X.K g gd)
  (hg:∀cl C fp s₀ H₀,PG (aX X own aI scope cl C fp s₀ H₀) tg g) (ht:∀cl C fp s₀ H₀,SH (aX X own aI scope cl C fp s₀ H₀) ifs t)
  (he:∀cl C fp s₀ H₀,LE (aX X own aI scope cl C fp s₀ H₀) elt w)
  (hs:∀x,foldedSetIterable iter X.env x=pure x:=by intro _;rfl):LE X (.ListComp elt [⟨tg,iter,ifs,0⟩] scope pos) (vL own aI wi gd t w):=
 PE.imp (aA3 (wi:=tLI X.K wi) (tt:=T6 X.K t) (te:=tL X.K w) own aI hN hsc chk hcalm hi ho hg (λcl C fp s₀ H₀=>ht cl C fp s₀ H₀) (λcl C fp s₀ H₀=>he cl C fp s₀ H₀) hs) λσ H Q h=>GL hr h
theorem MC(i:Nat){x:Str}{pos' kK:Pos}{tg iter elt:Expr}{ifs:List Expr}{scope sc:Scope}{N:List Str}{pos:Pos}{wi:WI}{g:TG}{gd:WG}{t:WT}{w:WE}(nd:X.N.Nodup)(own:List Str)(aI:List Nat)
  (hN:X.N=N) (hsc:X.env.scope=sc) (chk:fX N sc scope aI=true) (hcalm:X.calm=true) (hi:LI X tg iter wi) (ho:vZ own.length g)
  (hr:qT X.K g gd)
  (hg:∀cl C fp s₀ H₀,PG (aX X own aI scope cl C fp s₀ H₀) tg g) (ht:∀cl C fp s₀ H₀,SH (aX X own aI scope cl C fp s₀ H₀) ifs t)
  (he:∀cl C fp s₀ H₀,LE (aX X own aI scope cl C fp s₀ H₀) elt w)
  (hx0:X.N[i]? =some x:=by rfl) (hx:Loc X.env.scope x:=by first | exact Or.inl rfl | exact Or.inr rfl) (hw:swapsWith (.ListComp elt [⟨tg,iter,ifs,0⟩] scope pos) (some (.Name x pos')) kK.line X.env=pure true:=by rfl) (hf:X.fn x=true\/X.env.scope.names.lookup x=some .local:=by first | exact .inl rfl | exact .inr rfl | assumption)
  (hs:∀x,foldedSetIterable iter X.env x=pure x:=by intro _;rfl):LS X (.Assign [.Name x pos'] (.ListComp elt [⟨tg,iter,ifs,0⟩] scope pos) kK) (bT (vL own aI wi gd t w) (gN i)):=
 PS.imp (K9 (wi:=tLI X.K wi) (tt:=T6 X.K t) (te:=tL X.K w) own aI hN hsc chk hcalm hi ho hg (λcl C fp s₀ H₀=>ht cl C fp s₀ H₀) (λcl C fp s₀ H₀=>he cl C fp s₀ H₀) nd hx0 hx hw hf hs) λD σ H h=>GL hr (FA (zB i) h)
end
mutual
def cD(n:Nat):D->Bool
 | .ref k=>decide (k<n)
 | .tup ds=>cC n ds
 | .fl ds=>cC n ds
 | _=>true
def cC(n:Nat):List D->Bool
 | []=>true
 | d::ds=>cD n d && cC n ds
end
def yJ(n:Nat):MO->Bool
 | .lst ds=>cC n ds
 | .dic _ kvs=>cC n (kvs.map (·.2))
 | .fdc _ kvs _=>cC n (kvs.map (·.2))
def jQ(mh:MH):Prop:=∀o∈mh,yJ mh.length o=true
section
variable {K:aHw}{μ:List Addr}{mh:MH}{H:Hp}
mutual
theorem O8:∀(d:D) (v:V),Is K μ H d v->cD μ.length d=true
 | .b7,v,h=>rfl
 | .bl _,v,h=>rfl
 | .int _,v,h=>rfl
 | .str _,v,h=>rfl
 | .ty _,v,h=>rfl
 | .tup ds,v,h=>by obtain⟨a,vs,_,_,l⟩:=c8 h;simpa[cD] using f9 ds vs l
 | .fl ds,v,h=>by obtain⟨a,vs,_,_,l⟩:=pB h;simpa[cD] using f9 ds vs l
 | .ref n,v,h=>by obtain⟨a,e,_⟩:=i6 h;simpa[cD] using (aF6.mp e).1
theorem f9:∀(ds:List D) (vs:List V),IsL K μ H ds vs->cC μ.length ds=true
 | [],vs,h=>rfl
 | d::ds,vs,h=>by
  unfold IsL at h;obtain⟨v,r,_,i,l⟩:=h;simp only[cC,O8 d v i,f9 ds r l,Bool.and_self]
end
theorem Rep.mok(R:Rep K μ mh H):jQ mh:=λo ho=>by
 obtain⟨n,hn⟩:=aFv.mp ho;have hl:n<μ.length:=by rw[R.len];exact(aF6.mp hn).1
 have h:=R.obj n μ[n] o (by simp[hl]) hn;rw[<-R.len]
 cases o with
 | lst ds=>obtain⟨vs,_,l⟩:=h;exact f9 ds vs l
 | dic t kvs=>obtain⟨vs,_,l⟩:=h;exact f9 _ vs l
 | fdc t kvs ob=>obtain⟨vs,_,_,_,l⟩:=h;exact f9 _ vs l
mutual
theorem Is.cut{n:Nat}:∀(d:D) (v:V),cD n d=true->Is K μ H d v->Is K (μ.take n) H d v
 | .b7,v,_,h=>by unfold Is at*;exact h
 | .bl _,v,_,h=>by unfold Is at*;exact h
 | .int _,v,_,h=>by unfold Is at*;exact h
 | .str _,v,_,h=>by unfold Is at*;exact h
 | .ty _,v,_,h=>by unfold Is at*;exact h
 | .tup ds,v,b,h=>by unfold Is at*;obtain⟨a,vs,e,s,l⟩:=h;exact⟨a,vs,e,s,IsL.cut ds vs (by simpa[cD] using b) l⟩
 | .fl ds,v,b,h=>by unfold Is at*;obtain⟨a,vs,e,s,l⟩:=h;exact⟨a,vs,e,s,IsL.cut ds vs (by simpa[cD] using b) l⟩
 | .ref k,v,b,h=>by unfold Is at*;obtain⟨a,e,q⟩:=h;exact⟨a,by rw[List.getElem?_take_of_lt (by simpa[cD] using b)];exact e,q⟩
theorem IsL.cut{n:Nat}:∀(ds:List D) (vs:List V),cC n ds=true->IsL K μ H ds vs->IsL K (μ.take n) H ds vs
 | [],vs,_,h=>by unfold IsL at*;exact h
 | d::ds,vs,b,h=>by
  unfold IsL at*;simp only[cC,Bool.and_eq_true]at b;obtain⟨v,r,e,i,l⟩:=h;exact⟨v,r,e,Is.cut d v b.1 i,IsL.cut ds r b.2 l⟩
end
theorem Rep.cut{mhA junk:MH}(R:Rep K μ (mhA++junk) H)(ok:jQ mhA):Rep K (μ.take mhA.length) mhA H:=by
 have hl:mhA.length<=μ.length:=by rw[R.len];simp
 refine⟨by simp[hl],List.Nodup.sublist (List.take_sublist _ _) R.nd,λn a o h1 h2=>?_⟩;have hn:n<mhA.length:=(aF6.mp h2).1;rw[List.getElem?_take_of_lt hn]at h1;have h:=R.obj n a o h1 (by rw[List.getElem?_append_left hn];exact h2);have b:=ok o (aFf h2)
 cases o with
 | lst ds=>obtain⟨vs,e,l⟩:=h;exact⟨vs,e,IsL.cut ds vs b l⟩
 | dic t kvs=>obtain⟨vs,e,l⟩:=h;exact⟨vs,e,IsL.cut _ vs b l⟩
 | fdc t kvs ob=>obtain⟨vs,u,e,e2,l⟩:=h;exact⟨vs,u,e,e2,IsL.cut _ vs b l⟩
end
def Out(n:Nat)(d:D)(mh1:MH)(R:DK):Prop:=R d mh1\/(∃mhA junk,mh1=mhA++junk/\n<=mhA.length/\jQ mhA/\cD mhA.length d=true/\R d mhA)\/
 ∃mhA junk j o,mh1=mhA++junk/\n<=mhA.length/\jQ mhA/\d= .ref j/\mhA.length<=j/\mh1[j]? =some o/\yJ mhA.length o=true/\R (.ref mhA.length) (mhA++[o])
theorem P8{K:aHw}{μ:List Addr}{mh:MH}{H:Hp}{R:DK}{Q:VK}(RR:Rep K μ mh H)(F:Fin K μ H R Q):Fin K μ H (λd mh1=>Out mh.length d mh1 R) Q:=by
 intro d mh1 h μ1 v H1 P1 R1 I1
 have key:∀{mhA:MH},mh.length<=mhA.length->∃t,μ1.take mhA.length=μ++t:=λ{mhA} hle=>by
  obtain⟨t,rfl⟩:=P1.pre;rw[List.take_append,List.take_of_length_le (by rw[RR.len];exact hle)];exact⟨_,rfl⟩
 rcases h with h | ⟨mhA,junk,rfl,hle,ok,b,h⟩ | ⟨mhA,junk,j,o,rfl,hle,ok,rfl,hj,ho,b,h⟩
 ·exact F d mh1 h μ1 v H1 P1 R1 I1
 ·exact F d mhA h (μ1.take mhA.length) v H1 ⟨key hle,P1.fr,λa ha=>P1.nw a (aGw ha)⟩ (R1.cut ok) (Is.cut d v b I1)
 ·have Rc:=R1.cut ok;obtain⟨a,ha,rfl⟩:=i6 I1;have hob:=R1.obj j a o ha ho;have hlen:(μ1.take mhA.length).length=mhA.length:=Rc.len
  have hnot:a∉μ1.take mhA.length:=λz=>by
   obtain⟨k,hk⟩:=aFv.mp z;have hk2:k<mhA.length:=by have:=(aF6.mp hk).1;lia
   rw[List.getElem?_take_of_lt hk2]at hk;have:=GG R1.nd hk ha
   lia
  cases o with
  | lst ds=>
   obtain⟨vs,e,l⟩:=hob;refine F _ _ h (μ1.take mhA.length++[a]) _ H1 ⟨?_,P1.fr,λc hc=>?_⟩ (Rc.aBr hnot e (IsL.cut ds vs b l)) (by unfold Is;exact⟨a,by rw[<-hlen];simp,rfl⟩)
   ·obtain⟨t,ht⟩:=key hle;exact⟨t++[a],by rw[ht];simp⟩
   ·rcases aFb.mp hc with hc | hc
    ·exact P1.nw c (aGw hc)
    ·simp at hc;subst hc;exact P1.nw c (aFf ha)
  | dic t kvs=>
   obtain⟨vs,e,l⟩:=hob;refine F _ _ h (μ1.take mhA.length++[a]) _ H1 ⟨?_,P1.fr,λc hc=>?_⟩ (Rc.SA hnot ⟨vs,e,IsL.pre (λn a h=>by rw[List.getElem?_append_left (List.getElem?_eq_some_iff.mp h).1];exact h) _ vs (IsL.cut _ vs b l)⟩) (by unfold Is;exact⟨a,by rw[<-hlen];simp,rfl⟩)
   ·obtain⟨t,ht⟩:=key hle;exact⟨t++[a],by rw[ht];simp⟩
   ·rcases aFb.mp hc with hc | hc
    ·exact P1.nw c (aGw hc)
    ·simp at hc;subst hc;exact P1.nw c (aFf ha)
  | fdc t kvs ob=>
   obtain⟨vs,u,e,e2,l⟩:=hob;refine F _ _ h (μ1.take mhA.length++[a]) _ H1 ⟨?_,P1.fr,λc hc=>?_⟩ (Rc.SA hnot ⟨vs,u,e,e2,IsL.pre (λn a h=>by rw[List.getElem?_append_left (List.getElem?_eq_some_iff.mp h).1];exact h) _ vs (IsL.cut _ vs b l)⟩) (by unfold Is;exact⟨a,by rw[<-hlen];simp,rfl⟩)
   ·obtain⟨t,ht⟩:=key hle;exact⟨t++[a],by rw[ht];simp⟩
   ·rcases aFb.mp hc with hc | hc
    ·exact P1.nw c (aGw hc)
    ·simp at hc;subst hc;exact P1.nw c (aFf ha)
def aH(N:List Str)(ds:List D):eK:=ds.map some++List.replicate (N.length-ds.length) none
theorem KL{K:aHw}{μ:List Addr}{H:Hp}{N:List Str}{ds:List D}{vs:List V}(l:IsL K μ H ds vs):cH K μ H (aH N ds) (L2.start N vs):=by
 have hl:=aJ l;refine⟨by simp[aH,L2.start,hl],λi d h=>?_⟩;unfold aH at h;unfold L2.start;by_cases hi:i<ds.length
 ·rw[List.getElem?_append_left (by simpa using hi),List.getElem?_map]at h;obtain⟨d',h1,h2⟩:=aG0.mp h;cases h2;obtain⟨v,h3,h4⟩:=eD l h1;exact⟨v,by rw[List.getElem?_append_left (by simpa[hl] using hi),List.getElem?_map,h3];rfl,h4⟩
 ·rw[List.getElem?_append_right (by simpa using hi)]at h;obtain⟨_,h⟩:=aF6.mp h;simp at h
section
variable {P:Program}{w:World}{K:aHw}{mg:aHz}{base:Heap}
theorem aBk{x qual:Str}{st:Stmt}{f:Addr}{fd:FuncData}{N ps:List Str}{k:Nat}{s:OA}{wB:WS}(F:YX K x qual st f fd)(S:aT N ps (aC st))(len:∀ds mh R,s ds mh R->ds.length=ps.length)
  (hb:∀(cdv:Value) (A:Around) (outer:List Env) (s:Shared) (H:Hp) (E:XK),fN k (A.deeper (envOfC qual (aC st) s.heap.objs.size f cdv))->
   jW (u5 DB P w K mg base N qual (aC st) f cdv A outer s H E).QG (b9 st) wB)
  (hw:∀ds mh R,jQ mh->cC mh.length ds=true->s ds mh R->wB {nx:=λ_ mh1=>Out mh.length .b7 mh1 R,rt:=λd mh1=>Out mh.length d mh1 R} (aH N ds) mh):iU P w K mg base DB (k+1) f fd ps (N8 K s):=by
 refine F.ok S (λvs H Q E h=>?_) (λcdv A outer sh H vs Q E hr h=>?_)
 ·obtain⟨μ,mh,ds,R,RR,il,h,_⟩:=h;rw[aJ il];exact len ds mh R h
 ·obtain⟨μ,mh,ds,R,RR,il,h,Fi⟩:=h;refine⟨_,hb cdv A outer sh H E hr,μ,aH N ds,mh,_,RR,KL il,hw ds mh R RR.mok (by rw[<-RR.len];exact f9 ds vs il) h,?_⟩;have Fo:=P8 RR Fi;exact⟨λρ' mh' q μ' σ' H' P' R' En' =>Fo .b7 mh' q μ' .b7 H' P' R' .b7,Fo,λ_ _ q=>False.elim q,λ_ _ q=>False.elim q⟩
end
def Fn(P:Program)(w:World)(K:aHw)(mg:aHz)(base:Heap)(k:Nat)(x:Str)(ps:List Str)(s:OA):Prop:=
 ∃f fd,iU P w K mg base DB k f fd ps (N8 K s)/\mg x=some (.ref f)/\PySem.W.keepIn K (.ref f)=true/\Binds K fd ps []
theorem Fn.mono{P:Program}{w:World}{K:aHw}{mg:aHz}{base:Heap}{j k:Nat}{x:Str}{ps:List Str}{s:OA}(h:Fn P w K mg base j x ps s)(hk:j<=k):Fn P w K mg base k x ps s:=
 let ⟨f,fd,a,b,c,d⟩:=h;⟨f,fd,a.mono hk,b,c,d⟩
theorem Fn.imp{P:Program}{w:World}{K:aHw}{mg:aHz}{base:Heap}{k:Nat}{x:Str}{ps:List Str}{s s' :OA}(h:Fn P w K mg base k x ps s)(hi:∀ds mh R,s' ds mh R->s ds mh R):Fn P w K mg base k x ps s' :=
 let ⟨f,fd,a,b,c,d⟩:=h;⟨f,fd,a.imp λvs H Q E zz15=>by obtain⟨μ,mh,ds,R,r1,r2,r3,r4⟩:=zz15;exact⟨μ,mh,ds,R,r1,r2,hi ds mh R r3,r4⟩,b,c,d⟩
def rS(K:aHw)(mg:aHz)(x:Str)(d:D):Prop:=∃v u,mg x=some u/\RelV v u/\∀μ H,Is K μ H d v
section
variable {X:Cx}{e:Expr}{es:List Expr}{wr:WA}{pos p:Pos}{x:Str}
theorem MJ{k:Nat}{ps:List Str}{s:OA}(F:Fn X.prog X.w X.K X.mg X.base k x ps s)(hr:fN k X.A)(ha:LA X (e::es) wr)(hg:Gl X x:=by rfl)(hdb:(x==("__debug__":Str))=false:=by decide)
  (he:starEach (e::es) X.env=(false,eval e X.env)::starEach es X.env:=by rfl) (hpl:(backTo pos (starEach es X.env)).any (·.1)=false:=by rfl):LE X (.Call (.Name x p) (e::es) [] pos) (aE s wr):=by
 obtain⟨f,fd,a,b,c,d⟩:=F;exact Q2 a hr hg b c d ha hdb he hpl
theorem aAw{d:D}(h:rS X.K X.mg x d)(hg:Gl X x:=by rfl)(hd:(x==("__debug__":Str))=false:=by decide):LE X (.Name x pos) (wC d):=by
 obtain⟨v,u,a,b,c⟩:=h;exact QY hg a b c hd
theorem BU{T:String}(hm:X.mg x=none)(hv:bootBuiltins x=some (.type T))(hg:Gl X x:=by rfl)(hn:x≠ "__name__":=by decide)(hd:(x==("__debug__":Str))=false:=by decide):LE X (.Name x pos) (wC (.ty T)):=QX hg hm hv hn hd
theorem aAz{id:String}{f:OA}(hc:bY X (.builtin id) (c7 X.K f))(hm:X.mg x=none)(hv:bootBuiltins x=some (.builtin id))(ha:LA X (e::es) wr)(hg:Gl X x:=by rfl)(hn:x≠ "__name__":=by decide)(hdb:(x==("__debug__":Str))=false:=by decide)
  (he:starEach (e::es) X.env=(false,eval e X.env)::starEach es X.env:=by rfl) (hpl:(backTo pos (starEach es X.env)).any (·.1)=false:=by rfl):LE X (.Call (.Name x p) (e::es) [] pos) (aE f wr):=MK hc hg hm hv ha hn hdb he hpl
theorem aAx{T:String}{f:OA}(hc:bY X (.type T) (c7 X.K f))(hm:X.mg x=none)(hv:bootBuiltins x=some (.type T))(ha:LA X (e::es) wr)(hg:Gl X x:=by rfl)(hn:x≠ "__name__":=by decide)(hdb:(x==("__debug__":Str))=false:=by decide)
  (he:starEach (e::es) X.env=(false,eval e X.env)::starEach es X.env:=by rfl) (hpl:(backTo pos (starEach es X.env)).any (·.1)=false:=by rfl):LE X (.Call (.Name x p) (e::es) [] pos) (aE f wr):=IP hc hg hm hv ha hn hdb he hpl
theorem OV(i:Nat)(hN:X.N.Nodup)(hi:X.N[i]? =some x:=by rfl)(hx:Loc X.env.scope x:=by first | exact Or.inl rfl | exact Or.inr rfl)(hf:X.fn x=true\/X.env.scope.names.lookup x=some .local:=by first | exact .inl rfl | exact .inr rfl):PG X (.Name x pos) (rH i):=PX hN hi hx hf
theorem aAk{op:CmpOp}(b:Expr)(h:op≠ .In:=by decide)(h2:op≠ .NotIn:=by decide):behindInMarks op b=false:=LY b h h2
end
structure Bl(mg:aHz):Prop where
 len:mg "len"=none
 range:mg "range"=none
 zip:mg "zip"=none
 all:mg "all"=none
 any:mg "any"=none
 abs:mg "abs"=none
 min:mg "min"=none
 max:mg "max"=none
 isinstance:mg "isinstance"=none
 sorted:mg "sorted"=none
 int:mg "int"=none
 str:mg "str"=none
 bool:mg "bool"=none
 list:mg "list"=none
 tuple:mg "tuple"=none
 set:mg "set"=none
 dict:mg "dict"=none
 sum:mg "sum"=none
 enumerate:mg "enumerate"=none
theorem X8:bootBuiltins "int"=some (.type "int"):=by decide+kernel
theorem X6:bootBuiltins "str"=some (.type "str"):=by decide+kernel
theorem RZ:bootBuiltins "bool"=some (.type "bool"):=by decide+kernel
theorem RY:bootBuiltins "list"=some (.type "list"):=by decide+kernel
theorem vC:bootBuiltins "tuple"=some (.type "tuple"):=by decide+kernel
theorem X7:bootBuiltins "set"=some (.type "set"):=by decide+kernel
theorem N0:bootBuiltins "len"=some (.builtin "len"):=by decide+kernel
theorem X9:bootBuiltins "all"=some (.builtin "all"):=by decide+kernel
theorem YA:bootBuiltins "abs"=some (.builtin "abs"):=by decide+kernel
theorem NY:bootBuiltins "min"=some (.builtin "min"):=by decide+kernel
theorem NZ:bootBuiltins "max"=some (.builtin "max"):=by decide+kernel
theorem vV:bootBuiltins "isinstance"=some (.builtin "isinstance"):=by decide+kernel
theorem qO:bootBuiltins "sorted"=some (.builtin "sorted"):=by decide+kernel
theorem X5:bootBuiltins "sum"=some (.builtin "sum"):=by decide+kernel
def oLt:O2:=λx y mh Q=>match x with
 | .int i=>match y with | .int j=>Q (.bl (decide (i<j))) mh | _=>False
 | .str a=>match y with | .str b=>Q (.bl (decide (a.cps.toList<b.cps.toList))) mh | _=>False
 | _=>False
def oLe:O2:=λx y mh Q=>match x with
 | .int i=>match y with | .int j=>Q (.bl (decide (i<=j))) mh | _=>False
 | .str a=>match y with | .str b=>Q (.bl (!decide (b.cps.toList<a.cps.toList))) mh | _=>False
 | _=>False
def OB:O2:=λx y mh Q=>match x with
 | .int i=>match y with | .int j=>Q (.bl (decide (j<i))) mh | _=>False
 | _=>False
def oGe:O2:=λx y mh Q=>match x with
 | .int i=>match y with | .int j=>Q (.bl (decide (j<=i))) mh | _=>False
 | _=>False
section
variable {X:Cx}
theorem aAd(hu:X.A.units+64<cLine):dP X (compareOp .Lt) (bI X.K oLt):=by
 intro pins s σ H x y v u Q I rx ry q;obtain⟨μ,mh,dx,dy,R,RR,ix,iy,q,F⟩:=q
 cases dx with
 | int i=>cases dy with
  | int j=>cases bF ix;cases bF iy;exact aA8 pins s σ H _ _ v u Q I rx ry ⟨i,j,rfl,rfl,F.here RR q .bl⟩
  | _=>exact False.elim q
 | str i=>cases dy with
  | str j=>cases dO ix;cases dO iy;exact IB pins s σ H _ _ v u Q I rx ry ⟨i,j,rfl,rfl,F.here RR q .bl⟩
  | _=>exact False.elim q
 | _=>exact False.elim q
theorem aAe(hu:X.A.units+64<cLine):dP X (compareOp .LtE) (bI X.K oLe):=by
 intro pins s σ H x y v u Q I rx ry q;obtain⟨μ,mh,dx,dy,R,RR,ix,iy,q,F⟩:=q
 cases dx with
 | int i=>cases dy with
  | int j=>cases bF ix;cases bF iy;exact aA9 pins s σ H _ _ v u Q I rx ry ⟨i,j,rfl,rfl,F.here RR q .bl⟩
  | _=>exact False.elim q
 | str i=>cases dy with
  | str j=>
   cases dO ix;cases dO iy;obtain⟨t,rfl⟩:=rx;obtain⟨t',rfl⟩:=ry;exact PySem.P.le_str ⟨.bl (!decide (j.cps.toList<i.cps.toList)),H,I,by show _=_;first | rfl | (congr 1;simp),F.here RR q .bl⟩
  | _=>exact False.elim q
 | _=>exact False.elim q
theorem aAg(hu:X.A.units+64<cLine):dP X (compareOp .Gt) (bI X.K OB):=by
 intro pins s σ H x y v u Q I rx ry q;obtain⟨μ,mh,dx,dy,R,RR,ix,iy,q,F⟩:=q
 cases dx with
 | int i=>cases dy with
  | int j=>cases bF ix;cases bF iy;exact aAa pins s σ H _ _ v u Q I rx ry ⟨i,j,rfl,rfl,F.here RR q .bl⟩
  | _=>exact False.elim q
 | _=>exact False.elim q
theorem aAh(hu:X.A.units+64<cLine):dP X (compareOp .GtE) (bI X.K oGe):=by
 intro pins s σ H x y v u Q I rx ry q;obtain⟨μ,mh,dx,dy,R,RR,ix,iy,q,F⟩:=q
 cases dx with
 | int i=>cases dy with
  | int j=>cases bF ix;cases bF iy;exact aAb pins s σ H _ _ v u Q I rx ry ⟨i,j,rfl,rfl,F.here RR q .bl⟩
  | _=>exact False.elim q
 | _=>exact False.elim q
end
def got{α:Type}(o:Option α)(k:α->Prop):Prop:=match o with | some a=>k a | none=>False
@[simp] theorem bW {α:Type}(a:α)(k:α->Prop):got (some a) k=k a:=rfl
@[simp] theorem aBh {α:Type}(k:α->Prop):got none k=False:=rfl
theorem e8{α:Type}(o:Option α)(k:α->Prop):(∃a,o=some a/\k a)↔got o k:=by
 cases o <;> simp[got]
def YS:D->Option Bool | .bl b=>some b | _=>none
def asI:D->Option Int | .int i=>some i | _=>none
@[simp] theorem aEv (b:Bool):YS (.bl b)=some b:=rfl
@[simp] theorem aCl (i:Int):asI (.int i)=some i:=rfl
theorem exB(x:D)(P:Bool->Prop):(∃k,x= .bl k/\P k)=got (YS x) P:=by
 apply propext
 cases x with
 | bl b=>exact⟨λzz0=>by obtain⟨k,e,h⟩:=zz0;cases e;exact h,λh=>⟨b,rfl,h⟩⟩
 | _=>exact⟨λzz1=>by obtain⟨k,e,h⟩:=zz1;exact(by cases e),λh=>False.elim h⟩
theorem exI(x:D)(P:Int->Prop):(∃k,x= .int k/\P k)=got (asI x) P:=by
 apply propext
 cases x with
 | int b=>exact⟨λzz2=>by obtain⟨k,e,h⟩:=zz2;cases e;exact h,λh=>⟨b,rfl,h⟩⟩
 | _=>exact⟨λzz3=>by obtain⟨k,e,h⟩:=zz3;exact(by cases e),λh=>False.elim h⟩
section
variable {mh:MH}{Q:DK}{ρ:eK}
@[simp] theorem ZS (i:Nat):aB i ρ mh Q↔got ((ρ[i]?).join) λd=>Q d mh:=by
 unfold aB
 cases h:ρ[i]? with
 | none=>simp
 | some o=>cases o <;> simp
@[simp] theorem s_c (d:D):wC d ρ mh Q=(Q d mh):=rfl
@[simp] theorem aDf (f:O2)(a b:WE):aV f a b ρ mh Q=(a ρ mh λx mh1=>b ρ mh1 λy mh2=>f x y mh2 Q):=rfl
@[simp] theorem s_un (f:O1)(a:WE):HH f a ρ mh Q=(a ρ mh λx mh1=>f x mh1 Q):=rfl
@[simp] theorem s_nil (R:List D->MH->Prop):aF ρ mh R=(R [] mh):=rfl
@[simp] theorem aDs (a:WE)(r:WA)(R:List D->MH->Prop):aA a r ρ mh R=(a ρ mh λx mh1=>r ρ mh1 λxs mh2=>R (x::xs) mh2):=rfl
@[simp] theorem s_call (f:OA)(a:WA):aE f a ρ mh Q=(a ρ mh λds mh1=>f ds mh1 Q):=rfl
@[simp] theorem s_tup (a:WA):d5 a ρ mh Q=(a ρ mh λds mh1=>ds.length<=sizeLine/\Q (.tup ds) mh1):=rfl
@[simp] theorem s_lst (a:WA):sY a ρ mh Q=(a ρ mh λds mh1=>ds.length<=sizeLine/\Q (.ref mh1.length) (mh1++[.lst ds])):=rfl
@[simp] theorem aDt (a b:WE):sZ a b ρ mh Q↔a ρ mh λx mh1=>got (YS x) λc=>if c=true then b ρ mh1 Q else Q (.bl false) mh1:=by unfold sZ;simp only[exB]
@[simp] theorem aDg (a:WE):FV a ρ mh Q↔a ρ mh λx mh1=>got (YS x) λc=>Q (.bl !c) mh1:=by unfold FV;simp only[exB]
@[simp] theorem s_if (t:WT)(a b:WE):wIf t a b ρ mh Q=(t ρ mh λc mh1=>if c=true then a ρ mh1 Q else b ρ mh1 Q):=rfl
@[simp] theorem s_sl (f:OS)(a:WE)(l h:WO):wSl f a l h ρ mh Q=(a ρ mh λx mh1=>l ρ mh1 λlo mh2=>h ρ mh2 λhi mh3=>f x lo hi mh3 Q):=rfl
@[simp] theorem s_no (R:Option Int->MH->Prop):YK ρ mh R=(R none mh):=rfl
@[simp] theorem aDe (a:WE)(R:Option Int->MH->Prop):sX a ρ mh R↔a ρ mh λx mh1=>got (asI x) λi=>R (some i) mh1:=by unfold sX;simp only[exI]
@[simp] theorem s_mt (T:String)(f:OM)(a:WE)(r:WA):OR T f a r ρ mh Q=(a ρ mh λx mh1=>EJ mh1 T x/\r ρ mh1 λds mh2=>f x ds mh2 Q):=rfl
@[simp] theorem s_lc (own:List Str)(aI:List Nat)(i:WI)(g:WG)(t:WT)(a:WE):vL own aI i g t a ρ mh Q=(i ρ mh λds St mh1=>iS g t a (fW own aI ρ) St Q ds [] mh1):=rfl
variable {R:Bool->MH->Prop}
@[simp] theorem s_tst (a:WE):dW a ρ mh R↔a ρ mh λx mh1=>got (YS x) λk=>R k mh1:=by unfold dW;simp only[exB]
@[simp] theorem s_tru (a:WE):xY a ρ mh R↔a ρ mh λx mh1=>got (jS mh1 x) λk=>R k mh1:=by
 unfold xY
 have:(λx mh1=>∃k,jS mh1 x=some k/\R k mh1)=λx mh1=>got (jS mh1 x) λk=>R k mh1:=by
  funext x m;exact propext (e8 _ _)
 rw[this]
@[simp] theorem aDu (t u:WT):tB t u ρ mh R=(t ρ mh λc mh1=>if c=true then u ρ mh1 R else R false mh1):=rfl
@[simp] theorem s_orT (t u:WT):OQ t u ρ mh R=(t ρ mh λc mh1=>if c=true then R true mh1 else u ρ mh1 R):=rfl
@[simp] theorem aDh (t:WT):AQ t ρ mh R=(t ρ mh λc mh1=>R (!c) mh1):=rfl
@[simp] theorem KU:iA ρ mh R=(R true mh):=rfl
variable {E:eJ}
@[simp] theorem aDi:d6 E ρ mh=(E.nx ρ mh):=rfl
@[simp] theorem s_seq (t u:WS):bB t u E ρ mh=(t {E with nx:=u E} ρ mh):=rfl
@[simp] theorem aDq (a:WE):qU a E ρ mh=(a ρ mh λ_ mh1=>E.nx ρ mh1):=rfl
@[simp] theorem s_ret (a:WE):cT a E ρ mh=(a ρ mh E.rt):=rfl
@[simp] theorem s_ifS (t:WT)(a b:WS):iB t a b E ρ mh=(t ρ mh λc mh1=>if c=true then a E ρ mh1 else b E ρ mh1):=rfl
@[simp] theorem ZY (a:WE)(g:WG):bT a g E ρ mh=(a ρ mh λd mh1=>g d ρ λρ' =>E.nx ρ' mh1):=rfl
@[simp] theorem aD8 (a o i:WE):v7 a o i E ρ mh=(a ρ mh λd mh1=>o ρ mh1 λob mh2=>i ρ mh2 λix mh3=>O5 ob ix d mh3 λmh4=>E.nx ρ mh4):=rfl
@[simp] theorem s_for (i:WI)(g:WG)(b:WS):l7 i g b E ρ mh=(i ρ mh λds St mh1=>kX g b E St ds ρ mh1):=rfl
@[simp] theorem aDp (i:Nat)(d:D)(P:eK->Prop):gN i d ρ P=(P (ρ.set i (some d))):=rfl
@[simp] theorem aC6 (P:eK->Prop):eL [] ρ P↔P ρ:=by simp[eL]
@[simp] theorem ZX (t:WG)(u:SF)(d:D)(r:List D)(P:eK->Prop):aQ t u (d::r) ρ P↔t d ρ λρ' =>u r ρ' P:=⟨λzz4=>by obtain⟨a,b,e,h⟩:=zz4;cases e;exact h,λh=>⟨d,r,rfl,h⟩⟩
@[simp] theorem s_gT (n:Nat)(u:SF)(ds:List D)(P:eK->Prop):gT n u (.tup ds) ρ P↔ds.length=n/\u ds ρ P:=by
 unfold gT;exact⟨λzz5=>by obtain⟨es,e,h⟩:=zz5;cases e;exact h,λh=>⟨ds,rfl,h⟩⟩
@[simp] theorem aD9 (a:WE)(P:List D->(MH->Prop)->MH->Prop):cO a ρ mh P↔a ρ mh λx mh1=>got (bA mh1 x) λds=>P ds (λmh' =>bA mh' x=some ds) mh1:=by
 unfold cO
 have:(λx mh1=>∃ds,bA mh1 x=some ds/\P ds (λmh' =>bA mh' x=some ds) mh1)=λx mh1=>got (bA mh1 x) λds=>P ds (λmh' =>bA mh' x=some ds) mh1:=by
  funext x m;exact propext (e8 _ _)
 rw[this]
@[simp] theorem aDb (a:WA)(P:List D->(MH->Prop)->MH->Prop):n4 a ρ mh P=(a ρ mh λds mh1=>∃j,ds=[.int j]/\ -(2^62)<=j/\j<=sizeLine/\P (kS 0 j.toNat) (λ_=>True) mh1):=rfl
@[simp] theorem aDa (a:WA)(P:List D->(MH->Prop)->MH->Prop):AO a ρ mh P=(a ρ mh λds mh1=>∃i j,ds=[.int i,.int j]/\ -(2^62)<=i/\i<2^62/\ -(2^62)<=j/\j<2^62/\j-i<=sizeLine/\P (kS i (j-i).toNat) (λ_=>True) mh1):=rfl
@[simp] theorem aD7 (a:WA)(P:List D->(MH->Prop)->MH->Prop):AN a ρ mh P↔a ρ mh λxs mh1=>match xs with
  | [x,y]=>got (bA mh1 x) λds=>got (bA mh1 y) λes=>ds.length<=sizeLine/\P (jR ds es) (λmh' =>bA mh' x=some ds/\bA mh' y=some es) mh1
  | _=>False:=by
 unfold AN
 have:(λxs mh1=>∃x y ds es,xs=[x,y]/\bA mh1 x=some ds/\bA mh1 y=some es/\ds.length<=sizeLine/\P (jR ds es) (λmh' =>bA mh' x=some ds/\bA mh' y=some es) mh1)=λxs mh1=>match xs with
  | [x,y]=>got (bA mh1 x) λds=>got (bA mh1 y) λes=>ds.length<=sizeLine/\P (jR ds es) (λmh' =>bA mh' x=some ds/\bA mh' y=some es) mh1
  | _=>False:=by
  funext xs m;apply propext
  match xs with
  | []=>simp
  | [_]=>simp
  | [x,y]=>
   simp only[<-e8];constructor
   ·rintro⟨x',y',ds,es,e,h1,h2,h⟩;cases e;exact⟨ds,h1,es,h2,h⟩
   ·rintro⟨ds,h1,es,h2,h⟩;exact⟨x,y,ds,es,rfl,h1,h2,h⟩
  | _::_::_::_=>simp
 rw[this]
@[simp high] theorem aCj (b:Int)(P:Int->Prop):(∃c,[D.int b]=[D.int c]/\P c)↔P b:=⟨λzz6=>by obtain⟨c,e,h⟩:=zz6;cases e;exact h,λh=>⟨b,rfl,h⟩⟩
@[simp high] theorem aCi (a b:Int)(P:Int->Int->Prop):(∃c d,[D.int a,D.int b]=[D.int c,D.int d]/\P c d)↔P a b:=⟨λzz7=>by obtain⟨c,d,e,h⟩:=zz7;cases e;exact h,λh=>⟨a,b,rfl,h⟩⟩
@[simp] theorem KW (C:Int->Int->Prop)(g:Int->Int->D)(i j:Int):BH C g (.int i) (.int j) mh Q↔C i j/\Q (g i j) mh:=by
 unfold BH;exact⟨λzz8=>by obtain⟨a,b,e,f,h⟩:=zz8;cases e;cases f;exact h,λh=>⟨i,j,rfl,rfl,h⟩⟩
@[simp] theorem s_neg (i:Int):qB (.int i) mh Q↔Q (.int (-i)) mh:=by
 unfold qB;exact⟨λzz9=>by obtain⟨a,e,h⟩:=zz9;cases e;exact h,λh=>⟨i,rfl,h⟩⟩
@[simp] theorem K0 (i j:Int):gC (.int i) (.int j) mh Q=(Q (.int (i+j)) mh):=rfl
@[simp] theorem aDw (i j:Str):gC (.str i) (.str j) mh Q=(i.length+j.length<=sizeLine/\Q (.str (i++j)) mh):=rfl
@[simp] theorem aDv (i j:List D):gC (.tup i) (.tup j) mh Q=(i.length+j.length<=sizeLine/\Q (.tup (i++j)) mh):=rfl
theorem KZ{n m:Nat}{i j:List D}(h1:mh[n]? =some (.lst i))(h2:mh[m]? =some (.lst j)):gC (.ref n) (.ref m) mh Q↔(i++j).length<=sizeLine/\Q (.ref mh.length) (mh++[.lst (i++j)]):=by
 show (∃i j,mh[n]? =some (.lst i)/\mh[m]? =some (.lst j)/\D6 (i++j) mh Q)↔_;rw[h1,h2];exact⟨λzz10=>by obtain⟨a,b,e,f,h⟩:=zz10;cases e;cases f;exact h,λh=>⟨i,j,rfl,rfl,h⟩⟩
@[simp] theorem KY (ds:List D)(i:Int):fE (.tup ds) (.int i) mh Q↔got (nO ds i) λd=>Q d mh:=by
 unfold fE;rw[<-e8];exact⟨λzz11=>by obtain⟨a,e,es,d,h1,h2,h⟩:=zz11;cases e;cases h1;exact⟨d,h2,h⟩,λzz12=>by obtain⟨d,h1,h⟩:=zz12;exact⟨i,rfl,ds,d,rfl,h1,h⟩⟩
@[simp] theorem ZV (ds:List D)(i:Int):fE (.fl ds) (.int i) mh Q↔got (nO ds i) λd=>Q d mh:=by
 unfold fE;rw[<-e8];exact⟨λzz13=>by obtain⟨a,e,es,d,h1,h2,h⟩:=zz13;cases e;cases h1;exact⟨d,h2,h⟩,λzz14=>by obtain⟨d,h1,h⟩:=zz14;exact⟨i,rfl,ds,d,rfl,h1,h⟩⟩
theorem gY{n:Nat}{ds:List D}(h:mh[n]? =some (.lst ds))(i:Int):fE (.ref n) (.int i) mh Q↔got (nO ds i) λd=>Q d mh:=by
 unfold fE;rw[<-e8];have e:bA mh (.ref n)=some ds:=by simp[bA,h]
 exact⟨λzz15=>by obtain⟨a,ee,es,d,h1,h2,hq⟩:=zz15;cases ee;rw[e]at h1;cases h1;exact⟨d,h2,hq⟩,λzz16=>by obtain⟨d,h1,hq⟩:=zz16;exact⟨i,rfl,ds,d,e,h1,hq⟩⟩
@[simp] theorem s_ltI (i j:Int):oLt (.int i) (.int j) mh Q=(Q (.bl (decide (i<j))) mh):=rfl
@[simp] theorem s_leI (i j:Int):oLe (.int i) (.int j) mh Q=(Q (.bl (decide (i<=j))) mh):=rfl
@[simp] theorem ZW (i j:Int):OB (.int i) (.int j) mh Q=(Q (.bl (decide (j<i))) mh):=rfl
@[simp] theorem s_geI (i j:Int):oGe (.int i) (.int j) mh Q=(Q (.bl (decide (j<=i))) mh):=rfl
@[simp] theorem s_eqI (i j:Int):oEq (.int i) (.int j) mh Q↔Q (.bl (i==j)) mh:=by simp[oEq,c9,bare,deep,jO]
@[simp] theorem s_neI (i j:Int):JX (.int i) (.int j) mh Q↔Q (.bl (!(i==j))) mh:=by simp[JX,c9,bare,deep,jO]
@[simp] theorem s_eqB (i j:Bool):oEq (.bl i) (.bl j) mh Q↔Q (.bl (i==j)) mh:=by simp[oEq,c9,bare,deep,jO]
@[simp] theorem s_neB (i j:Bool):JX (.bl i) (.bl j) mh Q↔Q (.bl (!(i==j))) mh:=by simp[JX,c9,bare,deep,jO]
@[simp] theorem s_eqS (i j:Str):oEq (.str i) (.str j) mh Q↔Q (.bl (i==j)) mh:=by simp[oEq,c9,bare,deep,jO]
@[simp] theorem s_eqT (i j:List D):oEq (.tup i) (.tup j) mh Q↔eM i=true/\eM j=true/\fH i+1<=40/\Q (.bl (fG i j)) mh:=by simp[oEq,c9,bare,deep,jO]
@[simp] theorem aDo (x:D)(T:String):pV [x,.ty T] mh Q↔got (OU mh x) λt=>T∈bJ/\Q (.bl (rW t T)) mh:=by
 unfold pV;rw[<-e8];constructor
 ·rintro⟨x',c,t,e,h1,⟨T',e2,h2,h⟩ | ⟨Ts,e2,_⟩⟩
  ·cases e;cases e2;exact⟨t,h1,h2,h⟩
  ·cases e;cases e2
 ·rintro⟨t,h1,h2,h⟩;exact⟨x,_,t,rfl,h1,.inl ⟨T,rfl,h2,h⟩⟩
@[simp] theorem aDn (x:D)(T U:String):pV [x,.tup [.ty T,.ty U]] mh Q↔got (OU mh x) λt=>T∈bJ/\U∈bJ/\Q (.bl (rW t T || rW t U)) mh:=by
 unfold pV;rw[<-e8];constructor
 ·rintro⟨x',c,t,e,h1,⟨T',e2,h2,h⟩ | ⟨Ts,e2,h2,h⟩⟩
  ·cases e;cases e2
  ·cases e;injection e2 with e3
   match Ts,e3 with
   | [T',U'],e3=>
    simp at e3;obtain⟨rfl,rfl⟩:=e3;exact⟨t,h1,h2 _ (by simp),h2 _ (by simp),by simpa using h⟩
 ·rintro⟨t,h1,h2,h3,h⟩;exact⟨x,_,t,rfl,h1,.inr ⟨[T,U],rfl,by simp[h2,h3],by simpa using h⟩⟩
@[simp] theorem UG (ds:List D):eT [.tup ds] mh Q↔Q (.int ds.length) mh:=by
 unfold eT;exact⟨λzz17=>by obtain⟨a,e,h⟩:=zz17;cases e;obtain⟨es,h1,h⟩:=h;cases h1;exact h,λh=>⟨_,rfl,ds,rfl,h⟩⟩
@[simp] theorem aDm (ds:List D):eT [.fl ds] mh Q↔Q (.int ds.length) mh:=by
 unfold eT;exact⟨λzz18=>by obtain⟨a,e,h⟩:=zz18;cases e;obtain⟨es,h1,h⟩:=h;cases h1;exact h,λh=>⟨_,rfl,ds,rfl,h⟩⟩
theorem kO{n:Nat}{ds:List D}(h:mh[n]? =some (.lst ds)):eT [.ref n] mh Q↔Q (.int ds.length) mh:=by
 unfold eT;have e:bA mh (.ref n)=some ds:=by simp[bA,h]
 exact⟨λzz19=>by obtain⟨a,ee,hq⟩:=zz19;cases ee;obtain⟨es,h1,hq⟩:=hq;rw[e]at h1;cases h1;exact hq,λhq=>⟨_,rfl,ds,e,hq⟩⟩
@[simp] theorem aDl (z:Str):eT [.str z] mh Q↔z.length<=sizeLine/\Q (.int z.length) mh:=by
 unfold eT;exact⟨λzz20=>by obtain⟨a,e,h⟩:=zz20;cases e;exact h,λh=>⟨_,rfl,h⟩⟩
@[simp] theorem s_abs (i:Int):SD [.int i] mh Q↔Q (.int (if i<0 then -i else i)) mh:=by
 unfold SD;exact⟨λzz21=>by obtain⟨a,e,h⟩:=zz21;cases e;exact h,λh=>⟨i,rfl,h⟩⟩
@[simp] theorem aDk (i j:Int):C9 [.int i,.int j] mh Q↔Q (.int (if j > i then j else i)) mh:=by
 unfold C9;exact⟨λzz22=>by obtain⟨a,b,e,h⟩:=zz22;cases e;exact h,λh=>⟨i,j,rfl,h⟩⟩
@[simp] theorem aDj (i j:Int):xR [.int i,.int j] mh Q↔Q (.int (if j<i then j else i)) mh:=by
 unfold xR;exact⟨λzz23=>by obtain⟨a,b,e,h⟩:=zz23;cases e;exact h,λh=>⟨i,j,rfl,h⟩⟩
@[simp] theorem ZT (x:D):vG [x] mh Q↔got (bA mh x) λds=>Q (.tup ds) mh:=by
 unfold vG;rw[<-e8];exact⟨λzz26=>by obtain⟨a,ds,e,h1,h⟩:=zz26;cases e;exact⟨ds,h1,h⟩,λzz27=>by obtain⟨ds,h1,h⟩:=zz27;exact⟨x,ds,rfl,h1,h⟩⟩
@[simp] theorem s_slT (ds:List D)(lo hi:Option Int):oSl (.tup ds) lo hi mh Q=(Q (.tup (cutD ds lo hi)) mh):=rfl
theorem ZU{n:Nat}{ds:List D}(h:mh[n]? =some (.lst ds))(lo hi:Option Int):oSl (.ref n) lo hi mh Q↔Q (.ref mh.length) (mh++[.lst (cutD ds lo hi)]):=by
 show (∃ds,jV mh (.ref n)=some ds/\Q (.ref mh.length) (mh++[.lst (cutD ds lo hi)]))↔_;have e:jV mh (.ref n)=some ds:=by simp[jV,h]
 exact⟨λzz28=>by obtain⟨es,h1,hq⟩:=zz28;rw[e]at h1;cases h1;exact hq,λhq=>⟨ds,e,hq⟩⟩
theorem yA{n:Nat}{ds:List D}{P:MH->Prop}(h:mh[n]? =some (.lst ds))(i:Int)(d:D):O5 (.ref n) (.int i) d mh P↔got (EL ds.length i) λj=>P (mh.set n (.lst (ds.set j d))):=by
 unfold O5;rw[<-e8];exact⟨λzz29=>by obtain⟨m,es,k,j,e1,e2,h1,h2,hq⟩:=zz29;cases e1;cases e2;rw[h]at h1;cases h1;exact⟨j,h2,hq⟩,λzz30=>by obtain⟨j,h1,hq⟩:=zz30;exact⟨n,ds,i,j,rfl,rfl,h,h1,hq⟩⟩
theorem nC{n:Nat}{es:List D}(h:mh[n]? =some (.lst es))(d:D):g7 (.ref n) [d] mh Q↔es.length<sizeLine/\Q .b7 (mh.set n (.lst (es++[d]))):=by
 unfold g7;exact⟨λzz31=>by obtain⟨m,fs,d',e1,e2,h1,hq⟩:=zz31;cases e1;cases e2;rw[h]at h1;cases h1;exact hq,λhq=>⟨n,es,d,rfl,rfl,h,hq⟩⟩
@[simp] theorem aEt (d:D)(ds:List D):nO (d::ds) 0=some d:=by
 have:=hV (xs:=d::ds) (j:=0) (v:=d) rfl;simpa using this
theorem dM(mh:MH)(o:MO):(mh++[o])[mh.length]? =some o:=by simp
end
theorem cW{n:Nat}{d:D}{mh:MH}{R:DK}(h:R d mh):Out n d mh R:= .inl h
theorem fD{d:D}{mh junk:MH}{R:DK}(ok:jQ mh)(b:cD mh.length d=true)(h:R d mh):Out mh.length d (mh++junk) R:= .inr (.inl ⟨mh,junk,rfl,aF9 _,ok,b,h⟩)
def lx:List Int->List Int->Bool
 | [],[]=>false
 | [],_::_=>true
 | _::_,[]=>false
 | a::as,b::bs=>if a<b then true else if b<a then false else lx as bs
theorem GI:∀x y:List Int,lx x y=true->lx y x=false
 | [],[],h=>by simp[lx]at h
 | [],_::_,h=>by simp[lx]
 | _::_,[],h=>by simp[lx]at h
 | a::as,b::bs,h=>by
  simp only[lx]at h⊢;by_cases h1:a<b
  ·rw[if_neg (by lia),if_pos h1]
  ·rw[if_neg h1]at h;by_cases h2:b<a
   ·rw[if_pos h2]at h;cases h
   ·rw[if_neg h2]at h⊢;rw[if_neg h1];exact GI as bs h
theorem S0:∀x y z:List Int,lx y x=false->lx z y=false->lx z x=false
 | [],y,z,h1,h2=>by
  cases z with
  | nil=>rfl
  | cons _ _=>rfl
 | a::as,[],z,h1,h2=>by simp[lx]at h1
 | a::as,b::bs,[],h1,h2=>by simp[lx]at h2
 | a::as,b::bs,c::cs,h1,h2=>by
  simp only[lx]at h1 h2⊢;by_cases h3:b<a
  ·rw[if_pos h3]at h1;cases h1
  ·rw[if_neg h3]at h1;by_cases h4:c<b
   ·rw[if_pos h4]at h2;cases h2
   ·rw[if_neg h4]at h2;rw[if_neg (by lia)];by_cases h5:a<c
    ·rw[if_pos h5]
    ·rw[if_neg h5];rw[if_neg (by lia)]at h1 h2;exact S0 as bs cs h1 h2
def i8:D->List Int
 | .int i=>[i]
 | .str z=>z.cps.toList.map (λ(c:Nat)=>(c:Int))++[-1]
 | _=>[]
def enc:D->List Int
 | .tup ds=>ds.flatMap i8
 | d=>i8 d
theorem EB:∀a b:List Nat,lx (a.map (λ(c:Nat)=>(c:Int))++[-1]) (b.map (λ(c:Nat)=>(c:Int))++[-1])=decide (a<b)
 | [],[]=>by simp[lx]
 | [],b::bs=>by
  have:(-1:Int)<(b:Int):=by lia
  simp[lx,this]
 | a::as,[]=>by
  have h1:¬((a:Int) < -1):=by lia
  have h2:(-1:Int)<(a:Int):=by lia
  simp[lx,h1,h2]
 | a::as,b::bs=>by
  have ih:=EB as bs;simp only[List.map_cons,List.cons_append,lx,ih];by_cases h1:a<b
  ·rw[if_pos (by lia)];exact(decide_eq_true (List.cons_lt_cons_iff.mpr (.inl h1))).symm
  ·rw[if_neg (by lia)];by_cases h2:b<a
   ·rw[if_pos (by lia)];exact(aGd (λq=>by rcases List.cons_lt_cons_iff.mp q with q | q <;> lia)).symm
   ·rw[if_neg (by lia)];have e:a=b:=by lia
    subst e;rw[Bool.eq_iff_iff,decide_eq_true_iff,decide_eq_true_iff,List.cons_lt_cons_iff];simp
inductive Sc where | i | s
def fL:Sc->D->Bool
 | .i,.int _=>true
 | .s,.str _=>true
 | _,_=>false
def dQ:List Sc->List D->Bool
 | [],[]=>true
 | c::cs,d::ds=>fL c d && dQ cs ds
 | _,_=>false
theorem QJ(x:List Int):∀r r' :List Int,lx (x++r) (x++r')=lx r r' :=by
 induction x with
 | nil=>intro r r';rfl
 | cons a as ih=>intro r r';simp[lx,ih]
theorem OY{a b:Str}(h:a.cps.toList=b.cps.toList):a=b:=by
 cases a;cases b;simp at h;simp[h]
theorem rB:∀(a b:List Nat) (r r' :List Int),a≠b->lx ((a.map (λ(c:Nat)=>(c:Int))++[-1])++r) ((b.map (λ(c:Nat)=>(c:Int))++[-1])++r')=lx (a.map (λ(c:Nat)=>(c:Int))++[-1]) (b.map (λ(c:Nat)=>(c:Int))++[-1])
 | [],[],_,_,h=>absurd rfl h
 | [],b::bs,r,r',_=>by
  have:(-1:Int)<(b:Int):=by lia
  simp[lx,this]
 | a::as,[],r,r',_=>by
  have h1:¬((a:Int) < -1):=by lia
  have h2:(-1:Int)<(a:Int):=by lia
  simp[lx,h1,h2]
 | a::as,b::bs,r,r',h=>by
  simp only[List.map_cons,List.cons_append,lx];by_cases h1:(a:Int)<b
  ·simp[h1]
  ·by_cases h2:(b:Int)<a
   ·simp[h1,h2]
   ·have e:a=b:=by lia
    subst e;simp only[h1,h2,if_false];exact rB as bs r r' λq=>h (by rw[q])
theorem QL{c:Sc}{d e:D}(h1:fL c d=true)(h2:fL c e=true)(h:d≠e)(r r' :List Int):lx (i8 d++r) (i8 e++r')=lx (i8 d) (i8 e):=by
 cases c <;> cases d <;> simp[fL]at h1 <;> cases e <;> simp[fL]at h2
 ·rename_i i j;have:i≠j:=λq=>h (by rw[q]);simp only[i8,List.cons_append,List.nil_append,lx];by_cases h1:i<j
  ·simp[h1]
  ·have:j<i:=by lia
   simp[h1,this]
 ·rename_i a b;simp only[i8];exact rB _ _ r r' λq=>h (by rw[OY q])
theorem NL{c:Sc}{d e:D}(h1:fL c d=true)(h2:fL c e=true):jO d e=true↔d=e:=by
 cases c <;> cases d <;> simp[fL]at h1 <;> cases e <;> simp[fL]at h2
 ·simp[jO]
 ·simp[jO]
mutual
theorem KG{h:Heap}:∀{d e:D} {u:Value},Vl h d u->Vl h e u->d=e
 | .b7,e,u,p,q=>by
  unfold Vl at p;subst p
  cases e <;> unfold Vl at q <;> first | rfl | (cases q;done) | (obtain⟨_,q⟩:=q;cases q;done) | (obtain⟨_,_,q,_⟩:=q;cases q;done)
 | .bl a,e,u,p,q=>by
  unfold Vl at p;subst p
  cases e <;> unfold Vl at q <;> first | (cases q;rfl) | (cases q;done) | (obtain⟨_,q⟩:=q;cases q;done) | (obtain⟨_,_,q,_⟩:=q;cases q;done)
 | .int a,e,u,p,q=>by
  unfold Vl at p;obtain⟨t,rfl⟩:=p
  cases e <;> unfold Vl at q <;> first | (cases q;done) | (obtain⟨_,q⟩:=q;cases q;rfl) | (obtain⟨_,q⟩:=q;cases q;done) | (obtain⟨_,_,q,_⟩:=q;cases q;done)
 | .str a,e,u,p,q=>by
  unfold Vl at p;obtain⟨t,rfl⟩:=p
  cases e <;> unfold Vl at q <;> first | (cases q;done) | (obtain⟨_,q⟩:=q;cases q;rfl) | (obtain⟨_,q⟩:=q;cases q;done) | (obtain⟨_,_,q,_⟩:=q;cases q;done)
 | .ty _,e,u,p,q=>by unfold Vl at p;exact p.elim
 | .ref _,e,u,p,q=>by unfold Vl at p;exact p.elim
 | .tup as,e,u,p,q=>by
  unfold Vl at p;obtain⟨a,us,rfl,ht,l⟩:=p
  cases e with
  | tup bs=>
   unfold Vl at q;obtain⟨b,ws,e,ht2,l2⟩:=q;cases e;obtain⟨o,h1,_,n,h2⟩:=ht;obtain⟨o2,h3,_,n2,h4⟩:=ht2;rw[h1]at h3;cases h3;rw[h2]at h4;injection h4 with h5;have h6:us=ws:=by simpa using aG8 Array.toList h5
   subst h6;rw[x6 l l2]
  | fl bs=>
   unfold Vl at q;obtain⟨b,ws,e,ht2,l2⟩:=q;cases e;exact(sI ht2 ht).elim
  | _=>unfold Vl at q;first | (cases q;done) | (obtain⟨_,q⟩:=q;cases q;done)
 | .fl as,e,u,p,q=>by
  unfold Vl at p;obtain⟨a,us,rfl,ht,l⟩:=p
  cases e with
  | fl bs=>
   unfold Vl at q;obtain⟨b,ws,e,ht2,l2⟩:=q;cases e;obtain⟨o,h1,_,n,h2⟩:=ht;obtain⟨o2,h3,_,n2,h4⟩:=ht2;rw[h1]at h3;cases h3;rw[h2]at h4;injection h4 with h5;have h6:us=ws:=by simpa using aG8 Array.toList h5
   subst h6;rw[x6 l l2]
  | tup bs=>
   unfold Vl at q;obtain⟨b,ws,e,ht2,l2⟩:=q;cases e;exact(sI ht ht2).elim
  | _=>unfold Vl at q;first | (cases q;done) | (obtain⟨_,q⟩:=q;cases q;done)
theorem x6{h:Heap}:∀{ds es:List D} {us:List Value},dU h ds us->dU h es us->ds=es
 | [],es,us,p,q=>by unfold dU at p;subst p;cases es with | nil=>rfl | cons=>unfold dU at q;obtain⟨_,_,e,_⟩:=q;cases e
 | d::ds,es,us,p,q=>by
  unfold dU at p;obtain⟨u,r,rfl,i,l⟩:=p
  cases es with
  | nil=>unfold dU at q;cases q
  | cons e es=>
   unfold dU at q;obtain⟨u2,r2,e2,i2,l2⟩:=q;cases e2;rw[KG i i2,x6 l l2]
end
mutual
theorem Vl.keep{h h' :Heap}(k:∀b o,h.get? b=some o->h'.get? b=some o):∀(d:D) (u:Value),Vl h d u->Vl h' d u
 | .b7,u,q=>by unfold Vl at*;exact q
 | .bl _,u,q=>by unfold Vl at*;exact q
 | .int _,u,q=>by unfold Vl at*;exact q
 | .str _,u,q=>by unfold Vl at*;exact q
 | .ty _,u,q=>by unfold Vl at*;exact q
 | .ref _,u,q=>by unfold Vl at*;exact q
 | .tup ds,u,q=>by
  unfold Vl at*;obtain⟨a,us,e,⟨o,h1,h2⟩,l⟩:=q;exact⟨a,us,e,⟨o,k _ _ h1,h2⟩,dU.keep k ds us l⟩
 | .fl ds,u,q=>by
  unfold Vl at*;obtain⟨a,us,e,⟨o,h1,h2⟩,l⟩:=q;exact⟨a,us,e,⟨o,k _ _ h1,h2⟩,dU.keep k ds us l⟩
theorem dU.keep{h h' :Heap}(k:∀b o,h.get? b=some o->h'.get? b=some o):∀(ds:List D) (us:List Value),dU h ds us->dU h' ds us
 | [],us,q=>by unfold dU at*;exact q
 | d::ds,us,q=>by
  unfold dU at*;obtain⟨u,r,e,i,l⟩:=q;exact⟨u,r,e,Vl.keep k d u i,dU.keep k ds r l⟩
end
def JY(ds:List D):Prop:=(∃c,∀d∈ds,fL c d=true)\/∃c cs,∀d∈ds,∃es,d= .tup es/\dQ (c::cs) es=true
open Classical in
noncomputable def dv(h:Heap)(u:Value):D:=if q:∃d,Vl h d u then q.choose else .b7
theorem m3{h:Heap}{d:D}{u:Value}(p:Vl h d u):dv h u=d:=by
 unfold dv;rw[dif_pos ⟨d,p⟩];exact KG (Exists.choose_spec (⟨d,p⟩:∃d,Vl h d u)) p
noncomputable def ltV(h:Heap)(x y:Keyed):Bool:=lx (enc (dv h x.1)) (enc (dv h y.1))
theorem EC(h:Heap):TS.Wk (ltV h):=⟨λx y=>GI _ _,λx y z=>S0 _ _ _⟩
theorem lL{h:Heap}:∀{ds:List D} {us:List Value},dU h ds us->∀u∈us,∃d∈ds,Vl h d u
 | [],us,q,u,hu=>by unfold dU at q;subst q;cases hu
 | d::ds,us,q,u,hu=>by
  unfold dU at q;obtain⟨w,r,rfl,i,l⟩:=q;rcases aFd.mp hu with rfl | hu
  ·exact⟨d,aF8,i⟩
  ·obtain⟨e,he,p⟩:=lL l u hu;exact⟨e,aF7 _ he,p⟩
open PySem.W in
theorem w4{prog:Program}{w:World}{A:Around}{Q:Bool->Shared->Prop}{s:Shared}(hu:A.units+32<cLine):∀(cs:List Sc) (as bs:List D) (us vs:List Value) (i:Nat) (b:Bool),(b=true->i=0->True)->dQ cs as=true->dQ cs bs=true->dU s.heap as us->dU s.heap bs vs->
  Q (lx (as.flatMap i8) (bs.flatMap i8)) s->KatLex prog w A b false Q (us.zip vs) i s
 | [],[],[],us,vs,i,b,_,_,_,l1,l2,q=>by unfold dU at l1 l2;subst l1 l2;exact kat_nil q
 | [],[],_::_,_,_,_,_,_,_,h2,_,_,_=>by simp[dQ]at h2
 | [],_::_,_,_,_,_,_,_,h1,_,_,_,_=>by simp[dQ]at h1
 | _::_,[],_,_,_,_,_,_,h1,_,_,_,_=>by simp[dQ]at h1
 | _::_,_::_,[],_,_,_,_,_,_,h2,_,_,_=>by simp[dQ]at h2
 | c::cs,a::as,d::bs,us,vs,i,b,hb,h1,h2,l1,l2,q=>by
  unfold dU at l1 l2;obtain⟨u,ur,rfl,p1,l1⟩:=l1;obtain⟨v,vr,rfl,p2,l2⟩:=l2;simp only[dQ,Bool.and_eq_true]at h1 h2;rw[List.zip_cons_cons];have dz:deep a<=0:=by cases c <;> cases a <;> simp[fL]at h1 <;> simp[deep]
  refine kat_cons (lF (s:=s) 0 dz (by lia) p1 p2 prog w _ _ ?_);simp only[List.flatMap_cons]at q;refine kat_go (λe=>kat_yes ?_) (λe=>kat_no ?_)
  ·have ead:a=d:=(NL h1.1 h2.1).mp e;subst ead;rw[QJ]at q;exact w4 hu cs as bs ur vr (i+1) b (λ_ _=>trivial) h1.2 h2.2 l1 l2 q
  ·have nad:a≠d:=λz=>by rw[(NL h1.1 h2.1).mpr z]at e;cases e
   rw[QL h1.1 h2.1 nad]at q
   cases c with
   | i=>
    cases a <;> simp[fL]at h1;cases d <;> simp[fL]at h2;rename_i x y;unfold Vl at p1 p2;obtain⟨t1,rfl⟩:=p1;obtain⟨t2,rfl⟩:=p2
    have q' :Q (decide (x<y)) s:=by
     have:lx (i8 (.int x)) (i8 (.int y))=decide (x<y):=by
      simp only[i8,lx];by_cases hlt:x<y
      ·simp[hlt]
      ·simp[hlt]
     rw[<-this];exact q
    cases hbi:(b && i==0) with
    | true=>exact oneLt_int q'
    | false=>exact kat_one _ _ (lt_int q')
   | s=>
    cases a <;> simp[fL]at h1;cases d <;> simp[fL]at h2;rename_i x y;unfold Vl at p1 p2;obtain⟨t1,rfl⟩:=p1;obtain⟨t2,rfl⟩:=p2
    have q' :Q (decide (x.cps.toList<y.cps.toList)) s:=by
     have:lx (i8 (.str x)) (i8 (.str y))=decide (x.cps.toList<y.cps.toList):=EB _ _;rw[<-this];exact q
    cases hbi:(b && i==0) with
    | true=>exact oneLt_str q'
    | false=>exact kat_one _ _ (lt_str q')
def scT:Sc->String | .i=>"int" | .s=>"str"
section
variable {prog:Program}{w:World}{A:Around}
theorem qG:∀{cs:List Sc} {ds:List D},dQ cs ds=true->ds.length=cs.length
 | [],[],_=>rfl
 | [],_::_,h=>by simp[dQ]at h
 | _::_,[],h=>by simp[dQ]at h
 | c::cs,d::ds,h=>by simp only[dQ,Bool.and_eq_true]at h;simp[qG h.2]
theorem lR{vs:List Value}{x:Keyed}(h:x∈(pairsOf vs).toList):x=(x.1,x.1)/\x.1∈vs:=by
 rw[pairsOf_toList]at h
 induction vs with
 | nil=>simp at h
 | cons v r ih=>
  rw[List.zip_cons_cons]at h;rcases aFd.mp h with e | e
  ·rw[e];exact⟨rfl,aF8⟩
  ·obtain⟨a,b⟩:=ih e;exact⟨a,aF7 _ b⟩
theorem tQ{s:Shared}{ds:List D}{vs:List Value}(hu:A.units+40<cLine)(U:JY ds)(l:dU s.heap ds vs)(h2:2<=vs.length):
  ∃κ,∀h' :Heap,(∀b o,s.heap.get? b=some o->h'.get? b=some o)->TS.l6 prog w A {s with heap:=h'} κ (ltV s.heap) (pairsOf vs)/\
   ∀Q' E',Q' κ {s with heap:=h'}->wpAny (model prog w) A (keyKind' vs.toArray) Q' E' {s with heap:=h'}:=by
 rcases U with ⟨c,hc⟩ | ⟨c,cs,hc⟩
 ·refine⟨oneType',λh' k=>⟨λx y hx hy Q q=>?_,λQ' E' q=>?_⟩⟩
  ·obtain⟨_,mx⟩:=lR hx;obtain⟨_,my⟩:=lR hy;obtain⟨d,dm,dp⟩:=lL l _ mx;obtain⟨e,em,ep⟩:=lL l _ my
   have q' :Q (lx (enc d) (enc e)) {s with heap:=h'}:=by
    have:ltV s.heap x y=lx (enc d) (enc e):=by unfold ltV;rw[m3 dp,m3 ep]
    rw[<-this];exact q
   have hd:=hc d dm;have he:=hc e em;obtain⟨x1,x2⟩:=x;obtain⟨y1,y2⟩:=y
   cases c with
   | i=>
    cases d <;> simp[fL]at hd;cases e <;> simp[fL]at he;rename_i i j;unfold Vl at dp ep;obtain⟨t1,rfl⟩:=dp;obtain⟨t2,rfl⟩:=ep;refine PySem.W.kat_lt_int ?_
    have:lx (enc (.int i)) (enc (.int j))=decide (i<j):=by
     simp only[enc,i8,lx];by_cases hlt:i<j
     ·simp[hlt]
     ·simp[hlt]
    rw[<-this];exact q'
   | s=>
    cases d <;> simp[fL]at hd;cases e <;> simp[fL]at he;rename_i i j;unfold Vl at dp ep;obtain⟨t1,rfl⟩:=dp;obtain⟨t2,rfl⟩:=ep;refine PySem.W.kas_lt_str ?_;have:lx (enc (.str i)) (enc (.str j))=decide (i.cps.toList<j.cps.toList):=EB _ _;rw[<-this];exact q'
  ·have ty:∀v∈vs,PySem.W.Looks (model prog w) h' (typeOf v) (.type (scT c)):=λv hv=>by
    obtain⟨d,dm,dp⟩:=lL l _ hv;have hd:=hc d dm
    cases c with
    | i=>cases d <;> simp[fL]at hd;unfold Vl at dp;obtain⟨t1,rfl⟩:=dp;exact aHh rfl
    | s=>cases d <;> simp[fL]at hd;unfold Vl at dp;obtain⟨t1,rfl⟩:=dp;exact aHh rfl
   exact PySem.W.kas_kind (s:={s with heap:=h'}) h2 ty (by cases c <;> rfl) (by cases c <;> rfl) q
 ·refine⟨tuples' true,λh' k=>⟨λx y hx hy Q q=>?_,λQ' E' q=>?_⟩⟩
  ·obtain⟨_,mx⟩:=lR hx;obtain⟨_,my⟩:=lR hy;obtain⟨d,dm,dp⟩:=lL l _ mx;obtain⟨e,em,ep⟩:=lL l _ my
   have q' :Q (lx (enc d) (enc e)) {s with heap:=h'}:=by
    have:ltV s.heap x y=lx (enc d) (enc e):=by unfold ltV;rw[m3 dp,m3 ep]
    rw[<-this];exact q
   obtain⟨as,rfl,ha⟩:=hc d dm;obtain⟨bs,rfl,hb⟩:=hc e em;obtain⟨x1,x2⟩:=x;obtain⟨y1,y2⟩:=y;unfold Vl at dp ep;obtain⟨a,us,ea,⟨o,ho,hcl,n,hd⟩,lu⟩:=dp;obtain⟨b,ws,eb,⟨o2,ho2,hcl2,n2,hd2⟩,lw⟩:=ep;have ea' :x1=Value.ref a:=ea;have eb' :y1=Value.ref b:=eb;subst ea' eb';refine PySem.W.kat_lt (s:={s with heap:=h'}) (k _ _ ho) hd (k _ _ ho2) hd2 ?_;have z1:=bH lu;have z2:=bH lw;have z3:=qG ha;have z4:=qG hb;have zz:decide (us.toArray.size<ws.toArray.size)=false:=aGd (by simp only[List.size_toArray];lia);rw[zz];exact w4 (s:={s with heap:=h'}) (by lia) (c::cs) as bs us ws 0 true (λ_ _=>trivial) ha hb (dU.keep k as us lu) (dU.keep k bs ws lw) q'
  ·have fs:∃fs:List Value,PySem.W.KatTups h' vs fs/\fs.length=vs.length/\∀v∈fs,PySem.W.Looks (model prog w) h' (typeOf v) (.type (scT c)):=by
    clear q h2
    have go:∀(ds:List D) (vs:List Value),(∀d∈ds,∃es,d= .tup es/\dQ (c::cs) es=true)->dU s.heap ds vs->∃fs:List Value,PySem.W.KatTups h' vs fs/\fs.length=vs.length/\∀v∈fs,PySem.W.Looks (model prog w) h' (typeOf v) (.type (scT c)):=by
     intro ds
     induction ds with
     | nil=>intro vs _ l;unfold dU at l;subst l;exact⟨[],PySem.W.KatTups.nil,rfl,λv hv=>by cases hv⟩
     | cons d r ih=>
      intro vs hc l;unfold dU at l;obtain⟨u,ur,rfl,p,l⟩:=l;obtain⟨fs,f1,f2,f3⟩:=ih ur (λe he=>hc e (aF7 _ he)) l;obtain⟨es,rfl,he⟩:=hc d aF8;unfold Vl at p;obtain⟨a,us,rfl,⟨o,ho,hcl,n,hd⟩,lu⟩:=p
      cases es with
      | nil=>simp[dQ]at he
      | cons e0 er=>
       unfold dU at lu;obtain⟨u0,u1,rfl,p0,_⟩:=lu;simp only[dQ,Bool.and_eq_true]at he;refine⟨u0::fs,PySem.W.KatTups.cons (k _ _ ho) hcl hd (by simp) f1,by simp[f2],λv hv=>?_⟩;rcases aFd.mp hv with rfl | hv
       ·cases c with
        | i=>cases e0 <;> simp[fL]at he;unfold Vl at p0;obtain⟨t1,rfl⟩:=p0;exact aHh rfl
        | s=>cases e0 <;> simp[fL]at he;unfold Vl at p0;obtain⟨t1,rfl⟩:=p0;exact aHh rfl
       ·exact f3 v hv
    exact go ds vs hc l
   obtain⟨fs,f1,f2,f3⟩:=fs;refine PySem.W.kat_kind (s:={s with heap:=h'}) f1 (by lia) f3 (by cases c <;> rfl) ?_;have:(Value.type (scT c) !=Value.type "tuple")=true:=by cases c <;> rfl
   rw[this];exact q
end
theorem kT{α β:Type}(f:α->β):∀{l:List β} {m:List β},l.Perm m->∀t:List α,m=t.map f->∃t' :List α,t'.Perm t/\t'.map f=l:=by
 intro l m h
 induction h with
 | nil=>intro t e;cases t <;> simp at e;exact⟨[],.refl _,rfl⟩
 | cons x _ ih=>
  intro t e
  cases t with
  | nil=>simp at e
  | cons a r=>
   simp at e;obtain⟨t',p,q⟩:=ih r e.2;exact⟨a::t',p.cons a,by simp[q,e.1]⟩
 | swap x y l=>
  intro t e
  match t,e with
  | [],e=>simp at e
  | [_],e=>simp at e
  | a::b::r,e=>
   simp at e;exact⟨b::a::r,.swap _ _ _,by simp[e]⟩
 | trans _ _ ih1 ih2=>
  intro t e;obtain⟨t1,p1,q1⟩:=ih2 t e;obtain⟨t2,p2,q2⟩:=ih1 t1 q1.symm;exact⟨t2,p2.trans p1,q2⟩
def HA:OA:=λxs mh Q=>∃x ds,xs=[x]/\jV mh x=some ds/\ds.length<4000/\JY ds/\
 ∀ds',ds'.Perm ds->ds'.Pairwise (λd e=>lx (enc e) (enc d)=false)->Q (.ref mh.length) (mh++[.lst ds'])
theorem xQ{ds:List D}(U:JY ds):eM ds=true:=by
 have sc:∀{cs:List Sc} {es:List D},dQ cs es=true->eM es=true:=λ{cs}=>by
  induction cs with
  | nil=>intro es h;cases es with | nil=>rfl | cons=>simp[dQ]at h
  | cons c cs ih=>
   intro es h
   cases es with
   | nil=>simp[dQ]at h
   | cons e es=>
    simp only[dQ,Bool.and_eq_true]at h;simp only[eM,ih h.2,Bool.and_true];cases c <;> cases e <;> simp[fL]at h <;> rfl
 rcases U with ⟨c,hc⟩ | ⟨c,cs,hc⟩
 ·induction ds with
  | nil=>rfl
  | cons d r ih=>
   have hd:=hc d aF8;simp only[eM,ih λe he=>hc e (List.mem_cons_of_mem _ he),Bool.and_true];cases c <;> cases d <;> simp[fL]at hd <;> rfl
 ·induction ds with
  | nil=>rfl
  | cons d r ih=>
   obtain⟨es,rfl,he⟩:=hc d aF8;simp only[eM,ih λe he=>hc e (List.mem_cons_of_mem _ he),Bool.and_true];simpa[bare] using sc he
structure Tri where
 d:D
 v:V
 u:Value
theorem T3{K:aHw}{μ:List Addr}{H:Hp}{h:Heap}:∀{ds:List D} {vs:List V} {us:List Value},IsL K μ H ds vs->Vals vs us->dU h ds us->∃ts:List Tri,ts.map (·.d)=ds/\ts.map (·.v)=vs/\ts.map (·.u)=us/\∀t∈ts,Is K μ H t.d t.v/\RelV t.v t.u/\Vl h t.d t.u
 | [],vs,us,l,r,q=>by unfold IsL at l;subst l;cases r;exact⟨[],rfl,rfl,rfl,λt ht=>by cases ht⟩
 | d::ds,vs,us,l,r,q=>by
  unfold IsL at l;obtain⟨v,vr,rfl,i,l⟩:=l
  cases r with
  | @cons _ u0 _ ur0 r1 r2=>
   unfold dU at q;obtain⟨w,wr,e,p,q⟩:=q;injection e with e1 e2;subst e1 e2;obtain⟨ts,a,b,c,f⟩:=T3 l r2 q
   exact⟨⟨d,v,u0⟩::ts,by simp[a],by simp[b],by simp[c],λt ht=>by
    rcases aFd.mp ht with rfl | ht
    ·exact⟨i,r1,p⟩
    ·exact f t ht⟩
theorem y6{K:aHw}{μ:List Addr}{H:Hp}:∀{ts:List Tri},(∀t∈ts,Is K μ H t.d t.v)->IsL K μ H (ts.map (·.d)) (ts.map (·.v))
 | [],_=>by simp[IsL]
 | t::ts,h=>by
  simp only[List.map_cons];unfold IsL;exact⟨_,_,rfl,h t aF8,y6 λx hx=>h x (aF7 _ hx)⟩
theorem tF:∀{ts:List Tri},(∀t∈ts,RelV t.v t.u)->Vals (ts.map (·.v)) (ts.map (·.u))
 | [],_=>.nil
 | t::ts,h=>.cons (h t aF8) (tF λx hx=>h x (aF7 _ hx))
section
variable {X:Cx}
theorem JL(hu:X.A.units+64<cLine):bY X (.builtin "sorted") (c7 X.K HA):=by
 intro pins s σ H xs us Q I r q;obtain⟨μ,mh,ds,R,RR,il,⟨x,es,rfl,e,h64,U,q⟩,F⟩:=q;obtain⟨v,rfl,iv⟩:=gG il;obtain⟨a,vs,rfl,sq,l⟩:=nF RR iv e;obtain⟨u,rfl,ru⟩:=vals1 r;cases ru;obtain⟨aG,rv,pl,hz⟩:=I.list sq;have vl:=kA I es (xQ U) l rv;have hlen:aG.length=es.length:=bH vl;have u2:X.A.in1.in1.units+40<cLine:=by show X.A.units+1+1+40<_;lia
 have ask:∃κ,2<=aG.length->∀h' :Heap,(∀b o,s.heap.get? b=some o->h'.get? b=some o)->TS.l6 X.prog X.w X.A.in1.in1 {s with heap:=h'} κ (ltV s.heap) (pairsOf aG)/\
   ∀Q' E',Q' κ {s with heap:=h'}->wpAny (model X.prog X.w) X.A.in1.in1 (keyKind' aG.toArray) Q' E' {s with heap:=h'}:=by
  by_cases h2:2<=aG.length
  ·obtain⟨κ,hk⟩:=tQ (prog:=X.prog) (w:=X.w) (A:=X.A.in1.in1) u2 U vl h2;exact⟨κ,λ_=>hk⟩
  ·exact⟨general',λz=>absurd z h2⟩
 obtain⟨κ,ask⟩:=ask;refine TS.KO (κ:=κ) (EC s.heap) pl.isList (by lia) ask λout p1 p2=>?_;obtain⟨ts,t1,t2,t3,t4⟩:=T3 l rv vl;rw[<-t3]at p1;obtain⟨ts',p3,p4⟩:=kT (·.u) p1 ts rfl;have h4:∀t∈ts',Is X.K μ H t.d t.v/\RelV t.v t.u/\Vl s.heap t.d t.u:=λt ht=>t4 t (p3.mem_iff.mp ht);have pd:(ts'.map (·.d)).Perm es:=by rw[<-t1];exact p3.map _
 have pw:(ts'.map (·.d)).Pairwise (λd e=>lx (enc e) (enc d)=false):=by
  rw[<-p4]at p2;rw[List.pairwise_map]at p2⊢;refine p2.imp_of_mem λ{t t'} m m' hh=>?_;have e1:dv s.heap t.u=t.d:=m3 (h4 t m).2.2;have e2:dv s.heap t'.u=t'.d:=m3 (h4 t' m').2.2;unfold ltV at hh;rw[e1,e2]at hh;exact hh
 obtain⟨ep,he⟩:=sortedAll_at s.heap aG out.toArray
 have ln:(ts'.map (·.v)).length<=sizeLine:=by
  have:=p3.length_eq;have t2' :=aG8 List.length t2;simp at t2' ⊢
  lia
 have I1:Inv X pins σ (upd H (s.heap.objs.size+1) (.lst (ts'.map (·.v)))) {s with heap:=sortedAll s.heap aG out.toArray}:=
  I.laid (t' :=s.toks) (λb o hb=>sortedAll_old hb) (Nat.le_succ _) ⟨ln,out,ep,by rw[<-p4];exact tF λt ht=>(h4 t ht).2.1,he⟩
 exact⟨.ref (s.heap.objs.size+1),_,I1,rfl,hC RR F (y6 λt ht=>(h4 t ht).1) (q _ pd pw) _ (I.bG.fresh (Nat.le_succ _))⟩
end
theorem cE{g:WG}{b:WS}{E:eJ}{St:MH->Prop}(Pv:Nat->eK->MH->Prop)(ds:List D)(hst:∀i ρ mh,Pv i ρ mh->St mh)
  (hs:∀i d ρ mh (N:eK->MH->Prop),ds[i]? =some d->Pv i ρ mh->(∀ρ' mh',Pv (i+1) ρ' mh' ->N ρ' mh')->g d ρ λρ2=>b {E with nx:=N,ct:=N,bk:=E.nx} ρ2 mh)
  (hd:∀ρ mh,Pv ds.length ρ mh->E.nx ρ mh) {ρ:eK} {mh:MH} (h0:Pv 0 ρ mh):kX g b E St ds ρ mh:=by
 have go:∀(k i:Nat),i+k=ds.length->∀ρ mh,Pv i ρ mh->kX g b E St (ds.drop i) ρ mh:=by
  intro k
  induction k with
  | zero=>
   intro i hi ρ mh p;have:i=ds.length:=by lia
   subst this;rw[List.drop_of_length_le (Nat.le_refl _)];exact⟨hst _ _ _ p,hd ρ mh p⟩
  | succ k ih=>
   intro i hi ρ mh p;have hlt:i<ds.length:=by lia
   rw[List.drop_eq_getElem_cons hlt];exact⟨hst _ _ _ p,hs i ds[i] ρ mh _ (by simp[hlt]) p λρ' mh' p' =>ih (i+1) (by lia) ρ' mh' p'⟩
 have:=go ds.length 0 (by simp) ρ mh h0;simpa using this
theorem NS{g:WG}{t:WT}{w:WE}{ρe:eK}{St:MH->Prop}{Q:DK}(Pv:Nat->List D->MH->Prop)(ds:List D)(hst:∀i ys mh,Pv i ys mh->St mh)
  (hs:∀i d ys mh (N:List D->MH->Prop),ds[i]? =some d->Pv i ys mh->(∀ys' mh',Pv (i+1) ys' mh' ->N ys' mh')->g d ρe λρ2=>t ρ2 mh λb mh3=>if b=true then w ρ2 mh3 λy mh4=>N (ys++[y]) mh4 else N ys mh3)
  (hd:∀ys mh,Pv ds.length ys mh->Q (.ref mh.length) (mh++[.lst ys])) {mh:MH} (h0:Pv 0 [] mh):iS g t w ρe St Q ds [] mh:=by
 have go:∀(k i:Nat),i+k=ds.length->∀ys mh,Pv i ys mh->iS g t w ρe St Q (ds.drop i) ys mh:=by
  intro k
  induction k with
  | zero=>
   intro i hi ys mh p;have:i=ds.length:=by lia
   subst this;rw[List.drop_of_length_le (Nat.le_refl _)];exact⟨hst _ _ _ p,hd ys mh p⟩
  | succ k ih=>
   intro i hi ys mh p;have hlt:i<ds.length:=by lia
   rw[List.drop_eq_getElem_cons hlt];exact⟨hst _ _ _ p,hs i ds[i] ys mh (λys' mh' =>iS g t w ρe St Q (ds.drop (i+1)) ys' mh') (by simp[hlt]) p λys' mh' p' =>ih (i+1) (by lia) ys' mh' p'⟩
 have:=go ds.length 0 (by simp) [] mh h0;simpa using this
theorem oP{lo:Int}{n i:Nat}{d:D}(h:(kS lo n)[i]? =some d):i<n/\d= .int (lo+i):=by
 simp only[kS,List.getElem?_map]at h;obtain⟨k,hk,rfl⟩:=aG0.mp h;obtain⟨hi,rfl⟩:=aF6.mp hk;simp at hi;exact⟨hi,by simp⟩
@[simp] theorem aC7 (lo:Int)(n:Nat):(kS lo n).length=n:=by simp[kS]
def xT(mh:MH)(b:Nat):Prop:=∃c m:Int,mh[b]? =some (.lst [.int c,.int m])/\0<=c/\0<=m/\m<2147483629
theorem xT.lt{mh:MH}{b:Nat}(h:xT mh b):b<mh.length:=let ⟨_,_,e,_⟩:=h;(aF6.mp e).1
def cK(mh:MH)(b:Nat)(mh' :MH):Prop:=xT mh' b/\∃o,mh' =mh.set b o
theorem cK.len{mh mh' :MH}{b:Nat}(h:cK mh b mh'):mh'.length=mh.length:=by obtain⟨_,o,rfl⟩:=h;simp
theorem cK.trans{mh mh1 mh2:MH}{b:Nat}(h:cK mh b mh1)(h' :cK mh1 b mh2):cK mh b mh2:=by
 obtain⟨_,o,rfl⟩:=h;obtain⟨b2,o2,rfl⟩:=h';exact⟨b2,o2,by simp⟩
theorem cK.refl{mh:MH}{b:Nat}(h:xT mh b):cK mh b mh:=by
 refine⟨h,mh[b]'h.lt,?_⟩;simp
theorem cK.other{mh mh' :MH}{b n:Nat}(h:cK mh b mh')(hn:n≠b):mh'[n]? =mh[n]? :=by
 obtain⟨_,o,rfl⟩:=h;exact List.getElem?_set_ne (aG6 hn)
theorem xT.yJ{mh:MH}{b:Nat}(h:xT mh b)(k:Nat):∀o,mh[b]? =some o->yJ k o=true:=by
 obtain⟨c,m,e,_⟩:=h;intro o ho;rw[e]at ho;cases ho;rfl
theorem cK.mok{mh mh' :MH}{b:Nat}(h:cK mh b mh')(ok:jQ mh):jQ mh' :=by
 have hb:=h.1;obtain⟨_,o,e⟩:=h;intro x hx;have hl:mh'.length=mh.length:=by rw[e];simp
 obtain⟨n,hn⟩:=aFv.mp hx;by_cases hnb:n=b
 ·subst hnb;exact hb.yJ _ x hn
 ·rw[e,List.getElem?_set_ne (Ne.symm hnb)]at hn;rw[hl];exact ok x (aFf hn)
def qZ:OA:=λds mh Q=>∃b many,ds=[.ref b,.int many]/\1<=many/\many<=1073741789/\xT mh b/\∀r mh',0<=r->r<many->cK mh b mh' ->Q (.int r) mh'
def HN:OA:=λds mh Q=>∃(ns:List Int) (a:Int),ds=[.fl (ns.map .int),.int a]/\ns.length<=63/\0<=a/\a<=100/\∀mh',(∃o,mh' =mh++[o])->xT mh' mh.length->Q (.ref mh.length) mh'
def eV(K:aHw)(x:Str)(st:Stmt):Prop:=∃f oc od kV doc pm an cd ct sl,PySem.W.nsIn K mainGlobals x=some (some (.ref f))/\
 K.lookup f=some ⟨oc,od,.func (PySem.W.fnOf x x (eI st) (b9 st) (aC st) .none kV doc pm an cd ct),sl⟩/\PySem.W.codeIn K cd x=true/\PySem.W.keepIn K (.ref f)=true
theorem aCk{K:aHw}{x:Str}{st:Stmt}{f:Addr}{oc:Value}{od an:Option Addr}{sl:Array (Option Value)}{kV doc pm cd ct:Value}(a:PySem.W.nsIn K mainGlobals x=some (some (.ref f)))
  (l:K.lookup f=some ⟨oc,od,.func (PySem.W.fnOf x x (eI st) (b9 st) (aC st) .none kV doc pm an cd ct),sl⟩) (c:PySem.W.codeIn K cd x=true) (k:PySem.W.keepIn K (.ref f)=true):eV K x st:=⟨f,oc,od,kV,doc,pm,an,cd,ct,sl,a,l,c,k⟩
def bZ(x:Str)(st:Stmt)(ps:List Str):Prop:=∀(kV doc pm:Value) (an:Option Addr) (cdv ct:Value) (us:List Value),us.length=ps.length->bindArgs (PySem.W.fnOf x x (eI st) (b9 st) (aC st) .none kV doc pm an cdv ct) ⟨us,[]⟩=pure (ps.zip us)
section
variable {P:Program}{w:World}{K:aHw}{mg:aHz}{base:Heap}{h:Heap}
theorem XU{x:Str}{st:Stmt}{N ps:List Str}{k:Nat}{s:OA}{wB:WS}(Dx:eV K x st)(KX:K.In h)(G:h.Ns mainGlobals mg)(bd:bZ x st ps)(S:aT N ps (aC st))(len:∀ds mh R,s ds mh R->ds.length=ps.length)
  (hb:∀(f:Addr) (cdv:Value) (A:Around) (outer:List Env) (s:Shared) (H:Hp) (E:XK),fN k (A.deeper (envOfC x (aC st) s.heap.objs.size f cdv))->
   jW (u5 DB P w K mg base N x (aC st) f cdv A outer s H E).QG (b9 st) wB)
  (hw:∀ds mh R,jQ mh->cC mh.length ds=true->s ds mh R->wB {nx:=λ_ mh1=>Out mh.length .b7 mh1 R,rt:=λd mh1=>Out mh.length d mh1 R} (aH N ds) mh):Fn P w K mg base (k+1) x ps s:=by
 obtain⟨f,oc,od,kV,doc,pm,an,cd,ct,sl,a,l,c,kp⟩:=Dx;have F:=EW (st:=st) l c kp;exact⟨f,_,aBk F S len (λcdv A outer s H E hr=>hb f cdv A outer s H E hr) hw,PySem.W.mg_of KX G a,kp,F.binds bd⟩
theorem NG{x:Str}{st:Stmt}{ps:List Str}{k:Nat}(Dx:eV K x st)(KX:K.In h)(G:h.Ns mainGlobals mg)(bd:bZ x st ps):Fn P w K mg base k x ps (λ_ _ _=>False):=by
 obtain⟨f,oc,od,kV,doc,pm,an,cd,ct,sl,a,l,c,kp⟩:=Dx;have F:=EW (st:=st) l c kp;refine⟨f,_,⟨λvs H Q E q=>?_,λA outer s H args us vs Q E _ _ _ _ q=>?_⟩,PySem.W.mg_of KX G a,kp,F.binds bd⟩
 ·obtain⟨_,_,_,_,_,_,q,_⟩:=q;exact q.elim
 ·obtain⟨_,_,_,_,_,_,q,_⟩:=q;exact q.elim
end
def vN:OA:=λds mh Q=>∃ns:List Int,ds=[.fl (ns.map .int)]/\ns.length<=63/\∀mh',Q (.bl true) mh'
theorem B9{K:aHw}{μ:List Addr}{H:Hp}:∀ns:List Int,IsL K μ H (ns.map .int) (ns.map .int)
 | []=>by simp[IsL]
 | n::ns=>by simp only[List.map_cons];unfold IsL;exact⟨_,_,rfl,.int,B9 ns⟩
theorem WD{K:aHw}{H:Hp}{a:Addr}{ns:List Int}(hl:ns.length<=63)(hO:SG H)(hS:nS K H a (ns.map V.int)):N8 K vN [.ref a] H (λv _=>v= .bl true) λ_ _ _=>False:=by
 have sf:OE K H a (ns.map V.int):=by
  rcases hS with (hS | hS) | hS
  ·rcases hO a with z | ⟨o,xs,z⟩
   ·rw[hS]at z;cases z
   ·rw[hS]at z;cases z
  ·exact .inl hS
  ·exact .inr hS
 refine⟨[],[],[.fl (ns.map .int)],λd _=>d= .bl true,⟨rfl,List.nodup_nil,λn a o h1=>by simp at h1⟩,?_,⟨ns,rfl,hl,λ_=>rfl⟩,λd mh' q μ' v H' _ _ I=>?_⟩
 ·refine pC ?_;unfold Is;exact⟨a,_,rfl,sf,B9 ns⟩
 ·subst q;exact GS I
theorem walkD{l:PySem.W.OpenLaw}{k:Nat}{q:Program}{loose:List Str}{XP:(aHz)->Heap->Prop}{YP:World->Heap->Prop}{d:DefRec}{K:Params->aHw}{x:Str}(hn:l.most=some 63)(hdf:d.params.defaults=[])(hr:fN k callerA)
  (hY:∀(w:World) (h:Heap),YP w h->(K w.params).In h)
  (F:∀(w:World) (mg:aHz) (fa:Addr) (h:Heap),(K w.params).In h->h.Ns mainGlobals mg->mg d.name=some (.ref fa)->
   ∃fd:FuncData,(∀(s:Shared) (u:Value),BindsTo s fd ⟨[u],[]⟩ [(x,u)])/\∀base:Heap,(K w.params).In base->base.Ns mainGlobals mg->iU l.prog w (K w.params) mg base DB k fa fd [x] (N8 (K w.params) vN)):
  PySem.W.WalkO q loose XP YP l.row.toRowW d [] (λf vs=>PySem.call f vs):=
 L2.OP (n:=63) (k:=k) (x:=x) (CX:=λ_=>DB) (sp:=λw=>N8 (K w.params) vN) hn (by decide) hdf hr hY F (λ_ _ a ns hl hO hS=>WD hl hO hS) λ_ _ _ _ _ z=>z
theorem WJ{P:Program}{w:World}{K:aHw}{mg:aHz}{h:Heap}{st:Stmt}{x:Str}{N:List Str}{k:Nat}{fa:Addr}(KX:K.In h)(G:h.Ns mainGlobals mg)(hfa:mg "law"=some (.ref fa))(Dx:eV K "law" st)(S:aT N [x] (aC st))(bd:bZ "law" st [x])
  (hb:∀base:Heap,∃wB:WS,(∀(f:Addr) (cdv:Value) (A:Around) (outer:List Env) (s:Shared) (H:Hp) (E:XK),fN k (A.deeper (envOfC "law" (aC st) s.heap.objs.size f cdv))->
   jW (u5 DB P w K mg base N "law" (aC st) f cdv A outer s H E).QG (b9 st) wB)/\
   ∀ds mh R,jQ mh->cC mh.length ds=true->vN ds mh R->wB {nx:=λ_ mh1=>Out mh.length .b7 mh1 R,rt:=λd mh1=>Out mh.length d mh1 R} (aH N ds) mh):
  ∃fd:FuncData,(∀(s:Shared) (u:Value),BindsTo s fd ⟨[u],[]⟩ [(x,u)])/\∀base:Heap,iU P w K mg base DB (k+1) fa fd [x] (N8 K vN):=by
 obtain⟨f,oc,od,kV,doc,pm,an,cd,ct,sl,a,l,c,kp⟩:=Dx;have e:=hfa.symm.trans (PySem.W.mg_of KX G a);cases e;have F:=EW (st:=st) l c kp;refine⟨_,λs u=>.of_eq (bd kV doc pm an cd ct [u] rfl),λbase=>?_⟩;obtain⟨wB,h1,h2⟩:=hb base;exact aBk F S (λds mh R hs=>by obtain⟨ns,rfl,_⟩:=hs;rfl) (λcdv A outer s H E hr=>h1 fa cdv A outer s H E hr) h2
theorem bl_mk{K:aHw}{h:Heap}{mg:aHz}(KX:K.In h)(G:h.Ns mainGlobals mg)
  (z1:PySem.W.nsIn K mainGlobals "len"=some none) (z2:PySem.W.nsIn K mainGlobals "range"=some none) (z3:PySem.W.nsIn K mainGlobals "zip"=some none) (z4:PySem.W.nsIn K mainGlobals "all"=some none) (z5:PySem.W.nsIn K mainGlobals "any"=some none) (z6:PySem.W.nsIn K mainGlobals "abs"=some none) (z7:PySem.W.nsIn K mainGlobals "min"=some none) (z8:PySem.W.nsIn K mainGlobals "max"=some none) (z9:PySem.W.nsIn K mainGlobals "isinstance"=some none) (z10:PySem.W.nsIn K mainGlobals "sorted"=some none) (z11:PySem.W.nsIn K mainGlobals "int"=some none) (z12:PySem.W.nsIn K mainGlobals "str"=some none) (z13:PySem.W.nsIn K mainGlobals "bool"=some none) (z14:PySem.W.nsIn K mainGlobals "list"=some none) (z15:PySem.W.nsIn K mainGlobals "tuple"=some none) (z16:PySem.W.nsIn K mainGlobals "set"=some none) (z17:PySem.W.nsIn K mainGlobals "dict"=some none) (z18:PySem.W.nsIn K mainGlobals "sum"=some none) (z19:PySem.W.nsIn K mainGlobals "enumerate"=some none):Bl mg:=
 ⟨aFq KX G z1,aFq KX G z2,aFq KX G z3,aFq KX G z4,aFq KX G z5,aFq KX G z6,aFq KX G z7,aFq KX G z8,aFq KX G z9,aFq KX G z10,aFq KX G z11,aFq KX G z12,aFq KX G z13,aFq KX G z14,aFq KX G z15,aFq KX G z16,aFq KX G z17,aFq KX G z18,aFq KX G z19⟩
theorem EO{M:Model}{A:Around}{E:aHx}{s:Shared}{a b:Value}{Q:aHx}(ha:s.TypeIs a "list")(hb:s.TypeIs b "list")(hc:wpAny M A (call (.builtin "list.__iadd__") [a,b]) Q E s):wpAny M A (inplaceOp .Add a b) Q E s:=by
 refine aFx (aF3 (aGy ha (aF3 (aHk (show fillsInplaceSlot (.type "list") "add" true=pure false from rfl) ?_))));show wpAny M A (if false=true then _ else _) Q E s;rw[if_neg Bool.false_ne_true];exact aF3 (wpAny_binaryOp1_none ha hb rfl (aF3 (aHk (show seqSlot? (Value.type "list") (dunderI "add")=pure (some (Value.builtin "list.__iadd__")) from rfl) (aF3 (aGc hc)))))
section
variable {X:Cx}
theorem MZ:dP X (inplaceOp .Add) (λx y H Q=>∃l b xs zs,x= .ref l/\y= .ref b/\H l=some (.lst xs)/\H b=some (.lst zs)/\xs.length+zs.length<=sizeLine/\Q (.ref l) (upd H l (.lst (xs++zs)))):=by
 intro pins s σ H x y v u Q I rx ry h;obtain⟨l,b,xs,zs,rfl,rfl,hH,hB,hz,q⟩:=h;cases rx;cases ry;obtain⟨z,aG,n,r,hl,e⟩:=I.yP hH;obtain⟨z2,its2,n2,r2,hl2,e2⟩:=I.yP hB;have hsz:aG.toArray.size+its2.toArray.size<=sizeLine:=by rw[List.size_toArray,List.size_toArray];lia
 have hlong:¬(!aG.toArray.isEmpty && Builtin.List.listTooLong (aG.toArray.size+its2.toArray.size))=true:=by
  rw[oV hsz,Bool.and_false];exact aHt
 refine EO ⟨_,e,rfl⟩ ⟨_,e2,rfl⟩ (call_meets F.slot_list_iadd ⟨_,e,rfl⟩ F.entry_list_iadd (F.args_list_iadd_2 _ _)
  (AutoSeq1.list___iadd___list_list_0 l aG.toArray n b its2.toArray n2 hlong (by rw[List.size_toArray];lia) (by lia)) ⟨e,e2,?_⟩)
 refine⟨.ref l,_,I.MA (its' :=aG++its2) hH e (by simp) (r.append r2) ?_,rfl,q⟩;rw[List.length_append]
 lia
def mV:O2:=λx y mh Q=>match x with
 | .int i=>match y with | .int j=>Q (.int (i+j)) mh | _=>False
 | .str i=>match y with | .str j=>i.length+j.length<=sizeLine/\Q (.str (i++j)) mh | _=>False
 | .ref n=>match y with | .ref m=>∃es fs,mh[n]? =some (.lst es)/\mh[m]? =some (.lst fs)/\es.length+fs.length<=sizeLine/\Q (.ref n) (mh.set n (.lst (es++fs))) | _=>False
 | _=>False
theorem QD:dP X (inplaceOp .Add) (bI X.K mV):=by
 intro pins s σ H x y v u Q I rx ry q;obtain⟨μ,mh,dx,dy,R,RR,ix,iy,q,F⟩:=q
 cases dx with
 | int i=>
  cases dy with
  | int j=>cases bF ix;cases bF iy;exact Q8 pins s σ H _ _ v u Q I rx ry ⟨i,j,rfl,rfl,F.here RR q .int⟩
  | _=>exact False.elim q
 | str i=>
  cases dy with
  | str j=>cases dO ix;cases dO iy;exact CC pins s σ H _ _ v u Q I rx ry ⟨i,j,rfl,rfl,q.1,F.here RR q.2 .str⟩
  | _=>exact False.elim q
 | ref n=>
  cases dy with
  | ref m=>
   obtain⟨es,fs,e1,e2,hz,q⟩:=q;obtain⟨a,vs,rfl,hn,hv,l⟩:=fK RR ix e1;obtain⟨b,ws,rfl,hm,hw,l2⟩:=fK RR iy e2;exact MZ pins s σ H _ _ v u Q I rx ry ⟨a,b,vs,ws,rfl,rfl,hv,hw,by rw[aJ l,aJ l2];exact hz,F.put RR hn (fV l l2) q ix⟩
  | _=>exact False.elim q
 | _=>exact False.elim q
def KD(i:Nat)(w:WE)(f:O2):WS:=λE ρ mh=>∃x,ρ[i]? =some (some x)/\w ρ mh λy mh1=>f x y mh1 λz mh2=>E.nx (ρ.set i (some z)) mh2
theorem V0(i:Nat){x:Str}{e:Expr}{w:WE}{op:Operator}{f:O2}{pos pos' :Pos}(hN:X.N.Nodup)(ho:dP X (inplaceOp op) (bI X.K f))(he:LE X e w)(hi:X.N[i]? =some x:=by rfl)(hx:Loc X.env.scope x:=by first | exact Or.inl rfl | exact Or.inr rfl)(hf:X.fn x=true\/X.env.scope.names.lookup x=some .local:=by first | exact .inl rfl | exact .inr rfl | assumption):
  LS X (.AugAssign (.Name x pos') op e pos) (KD i w f):=PS.imp (US hN hi hx he ho hf) λD σ H h=>by
 obtain⟨μ,ρ,mh,E,R,En,⟨x,hx,h⟩,F⟩:=h;obtain⟨v,hv,iv⟩:=En.2 i x hx;refine⟨v,hv,μ,ρ,mh,_,R,En,h,λd mh1 q μ1 u H1 P1 R1 I1=>?_⟩;exact⟨μ1,mh1,x,d,_,R1,Is.mono R P1 x v iv,I1,q,λz mh2 q2 μ2 vz H2 P2 R2 I2=>F.nx _ mh2 q2 μ2 _ H2 (P1.trans P2) R2 ((En.mono R (P1.trans P2)).set i I2)⟩
end
theorem pA{a b:Key}(h:bE a=bE b):a=b:=by
 cases a <;> cases b <;> simp[bE]at h <;> rw[h]
theorem wZ:∀{a b:List Key},a.map bE=b.map bE->a=b
 | [],[],_=>rfl
 | [],_::_,h=>by simp at h
 | _::_,[],h=>by simp at h
 | x::xs,y::ys,h=>by
  simp only[List.map_cons,List.cons.injEq]at h;rw[pA h.1,wZ h.2]
theorem MR{a b:List Key}(h:D.tup (a.map bE)=D.tup (b.map bE)):a=b:=wZ (by injection h)
open Classical in
noncomputable def putD(kvs:List (D×D))(k v:D):List (D×D):=if ∃p∈kvs,p.1=k then kvs.map (λp=>if p.1=k then (p.1,v) else p) else kvs++[(k,v)]
theorem K5{kvs:List (D×D)}{k v:D}{p:D×D}(h:p∈putD kvs k v):p∈kvs\/(p.1=k/\p.2=v):=by
 unfold putD at h;split at h
 ·obtain⟨q,hq,e⟩:=aFi.mp h;split at e
  ·rename_i hk;subst e;exact .inr ⟨hk,rfl⟩
  ·subst e;exact .inl hq
 ·rcases aFb.mp h with h | h
  ·exact .inl h
  ·simp at h;subst h;exact .inr ⟨rfl,rfl⟩
open Classical in
theorem HU(kvs:List (D×D))(k v:D):(putD kvs k v).map (·.1)=if (∃p∈kvs,p.1=k) then kvs.map (·.1) else kvs.map (·.1)++[k]:=by
 unfold putD;split
 ·rw[List.map_map];apply aH8;intro p _;simp only[Function.comp];split <;> rfl
 ·simp
section
variable {K:aHw}{μ:List Addr}{H:Hp}{κ:Type}[DecidableEq κ]{f:κ->D}
theorem A6(hf:∀{a b},f a=f b->a=b)(k:κ){d:D}{v:V}(hd:Is K μ H d v):∀(kvs:List (D×D)) (kk:List (κ×V)),kvs.map (·.1)=kk.map (λp=>f p.1)->IsL K μ H (kvs.map (·.2)) (kk.map (·.2))->
  IsL K μ H ((open Classical in kvs.map λp=>if p.1=f k then (p.1,d) else p).map (·.2)) ((kk.map λp=>if p.1=k then (p.1,v) else p).map (·.2))
 | [],[],_,_=>by simp[IsL]
 | [],_::_,h,_=>by simp at h
 | _::_,[],h,_=>by simp at h
 | p::kvs,q::kk,h,l=>by
  simp only[List.map_cons,List.cons.injEq]at h;simp only[List.map_cons]at l⊢;unfold IsL at l⊢;obtain⟨w,r,e,i,l⟩:=l;simp only[List.cons.injEq]at e;obtain⟨rfl,rfl⟩:=e;have ih:=A6 hf k hd kvs kk h.2 l;by_cases hk:q.1=k
  ·have:p.1=f k:=by rw[h.1,hk]
   simp only[if_pos hk,if_pos this];exact⟨_,_,rfl,hd,ih⟩
  ·have:¬p.1=f k:=λz=>hk (hf (h.1.symm.trans z));simp only[if_neg hk,if_neg this];exact⟨_,_,rfl,i,ih⟩
theorem F9(hf:∀{a b},f a=f b->a=b)(k:κ){d:D}{v:V}(hd:Is K μ H d v){kvs:List (D×D)}{kk:List (κ×V)}(h:kvs.map (·.1)=kk.map (λp=>f p.1))(l:IsL K μ H (kvs.map (·.2)) (kk.map (·.2))):
  (putD kvs (f k) d).map (·.1)=(putK kk k v).map (λp=>f p.1)/\IsL K μ H ((putD kvs (f k) d).map (·.2)) ((putK kk k v).map (·.2)):=by
 have same:(∃p∈kvs,p.1=f k)↔(kk.any λkv=>decide (kv.1=k))=true:=by
  rw[List.any_eq_true];constructor
  ·rintro⟨p,hp,e⟩;have:f k∈kk.map (λp=>f p.1):=by rw[<-h,<-e];exact aFi.mpr ⟨p,hp,rfl⟩
   obtain⟨q,hq,e2⟩:=aFi.mp this;exact⟨q,hq,by simpa using hf e2⟩
  ·rintro⟨q,hq,e⟩;have:f q.1∈kvs.map (·.1):=by rw[h];exact aFi.mpr ⟨q,hq,rfl⟩
   obtain⟨p,hp,e2⟩:=aFi.mp this;exact⟨p,hp,by rw[e2];simp at e;rw[e]⟩
 unfold putD putK;by_cases c:∃p∈kvs,p.1=f k
 ·rw[if_pos c,if_pos (same.mp c)];refine⟨?_,A6 hf k hd kvs kk h l⟩
  have e1:(open Classical in kvs.map λp=>if p.1=f k then (p.1,d) else p).map (·.1)=kvs.map (·.1):=by
   rw[List.map_map];apply aH8;intro p _;simp only[Function.comp];split <;> rfl
  have e2:(kk.map λp=>if p.1=k then (p.1,v) else p).map (λp=>f p.1)=kk.map (λp=>f p.1):=by
   rw[List.map_map];apply aH8;intro p _;simp only[Function.comp];split <;> rfl
  rw[e1,e2,h]
 ·rw[if_neg c,if_neg (λz=>c (same.mpr z))];refine⟨by simp[h],?_⟩;simp only[List.map_append,List.map_cons,List.map_nil];exact fV l (pC hd)
end
theorem G4{K:aHw}{μ:List Addr}{mh:MH}{H:Hp}{n:Nat}{a:Addr}{o:MO}{ob:HO}(R:Rep K μ mh H)(h:μ[n]? =some a)(hm:JZ (some ob))(l:lJ K μ (upd H a ob) o a):Rep K μ (mh.set n o) (upd H a ob):=by
 have P:aK μ H μ (upd H a ob):=aK.set R h;refine⟨by simp[R.len],R.nd,λm b ob' h1 h2=>?_⟩;by_cases hmn:m=n
 ·subst hmn;rw[h]at h1;cases h1;have hl:m<mh.length:=by rw[<-R.len];exact(aF6.mp h).1
  rw[List.getElem?_set_self hl]at h2;cases h2;exact l
 ·rw[List.getElem?_set_ne (Ne.symm hmn)]at h2;exact(R.obj m b ob' h1 h2).mono R P (aM λz=>hmn (GG R.nd h1 (by rw[z];exact h)))
theorem Rep.aAl{K:aHw}{μ:List Addr}{mh:MH}{H:Hp}{q:Addr}{o:MO}{ob:HO}(R:Rep K μ mh H)(hq:H q=none)(l:lJ K (μ++[q]) (upd H q ob) o q):Rep K (μ++[q]) (mh++[o]) (upd H q ob):=by
 have R1:Rep K μ mh (upd H q ob):=R.new hq;exact R1.SA (λz=>R.ne hq z rfl) l
def DH(t:Bool):WE:=λ_ mh Q=>Q (.ref mh.length) (mh++[.dic t []])
section
variable {X:Cx}{pos:Pos}
theorem Q0:LE X (.Dict [] [] pos) (DH false):=PE.imp LL λσ H Q h=>by
 obtain⟨μ,ρ,mh,R,RR,E,h,F⟩:=h;intro p hp;exact F _ _ h (μ++[p]) _ _ (aK.IH RR hp) (RR.aAl hp ⟨[],⟨[],bK,rfl,rfl⟩,by simp[IsL]⟩) (by unfold Is;exact⟨p,by rw[<-RR.len];simp,rfl⟩)
theorem QZ:LE X (.Dict [] [] pos) (DH true):=PE.imp LK λσ H Q h=>by
 obtain⟨μ,ρ,mh,R,RR,E,h,F⟩:=h;intro p hp;exact F _ _ h (μ++[p]) _ _ (aK.IH RR hp) (RR.aAl hp ⟨[],⟨[],bK,rfl,rfl⟩,by simp[IsL]⟩) (by unfold Is;exact⟨p,by rw[<-RR.len];simp,rfl⟩)
end
theorem lS{K:aHw}{μ:List Addr}{H:Hp}{k:Key}{v:V}(h:Is K μ H (bE k) v):v=kV k:=by
 cases k <;> (simp only[bE]at h;unfold Is at h;exact h)
theorem iR{K:aHw}{μ:List Addr}{H:Hp}:∀{ks:List Key} {vs:List V},IsL K μ H (ks.map bE) vs->vs=ks.map kV
 | [],vs,h=>by simp only[List.map_nil]at h;unfold IsL at h;exact h
 | k::ks,vs,h=>by
  simp only[List.map_cons]at h;unfold IsL at h;obtain⟨v,r,rfl,i,l⟩:=h;rw[lS i,iR l];rfl
theorem qK{K:aHw}{μ:List Addr}{mh:MH}{H:Hp}{n:Nat}{v:V}{t:Bool}{kvs:List (D×D)}(R:Rep K μ mh H)(h:Is K μ H (.ref n) v)(e:mh[n]? =some (.dic t kvs)):∃a vs,v= .ref a/\μ[n]? =some a/\rV (H a) (kvs.map (·.1)) vs t/\IsL K μ H (kvs.map (·.2)) vs:=by
 obtain⟨a,q,rfl⟩:=i6 h;obtain⟨vs,hv,l⟩:=R.obj n a _ q e;exact⟨a,vs,rfl,q,hv,l⟩
def SY(o k d:D)(mh:MH)(Q:MH->Prop):Prop:=∃n kvs key,o= .ref n/\mh[n]? =some (.dic false kvs)/\k=bE key/\kvs.length<sizeLine/\Q (mh.set n (.dic false (putD kvs k d)))
def FU(w wo wi:WE):WS:=λE ρ mh=>w ρ mh λd mh1=>wo ρ mh1 λo mh2=>wi ρ mh2 λi mh3=>SY o i d mh3 λmh4=>E.nx ρ mh4
def SX(o:D)(ks:List D)(d:D)(mh:MH)(Q:MH->Prop):Prop:=∃(n:Nat) (kvs:List (D×D)) (keys:List Key),o= .ref n/\mh[n]? =some (.dic true kvs)/\ks=keys.map bE/\ks.length<=sizeLine/\kvs.length<sizeLine/\Q (mh.set n (.dic true (putD kvs (.tup ks) d)))
def KA(w wo:WE)(wi:WA):WS:=λE ρ mh=>w ρ mh λd mh1=>wo ρ mh1 λo mh2=>wi ρ mh2 λks mh3=>SX o ks d mh3 λmh4=>E.nx ρ mh4
section
variable {X:Cx}{pos pos' tpos:Pos}{o i e:Expr}{es:List Expr}{w wo wi:WE}{wa:WA}
theorem QR(hu:X.A.units+64<cLine)(he:LE X e w)(ho:LE X o wo)(hi:LE X i wi)(hs:swapsWith e (some (.Subscript o i pos')) pos.line X.env=pure false:=by rfl):LS X (.Assign [.Subscript o i pos'] e pos) (FU w wo wi):=
 PS.imp (GB (by lia) ho hi he hs) λD σ H h=>by
  obtain⟨μ,ρ,mh,E,R,En,h,F⟩:=h;refine⟨μ,ρ,mh,_,R,En,h,λd mh1 q μ1 v H1 P1 R1 I1=>?_⟩;refine⟨μ1,ρ,mh1,_,R1,En.mono R P1,q,λdo' mh2 q2 μ2 vo H2 P2 R2 I2=>?_⟩;refine⟨μ2,ρ,mh2,_,R2,En.mono R (P1.trans P2),q2,λdi mh3 q3 μ3 vi H3 P3 R3 I3=>?_⟩;obtain⟨n,kvs,key,rfl,e1,rfl,hz,q4⟩:=q3;obtain⟨a,vs,rfl,hn,⟨kk,hv,ek,rfl⟩,l⟩:=qK R3 (Is.mono R2 P3 _ _ I2) e1;cases lS I3;have Iv:=Is.mono R1 (P2.trans P3) d v I1;have P4:aK μ3 H3 μ3 (upd H3 a (.dK (putK kk key v))):=aK.set R3 hn;have ln:kk.length=kvs.length:=by have:=aG8 List.length ek;simp at this;lia
  obtain⟨p1,p2⟩:=F9 (f:=bE) pA key Iv ek l;have R4:Rep X.K μ3 (mh3.set n (.dic false (putD kvs (bE key) d))) (upd H3 a (.dK (putK kk key v))):=G4 R3 hn (by trivial) ⟨_,⟨_,bK,p1,rfl⟩,p2.mono R3 P4⟩;have P04:=((P1.trans P2).trans P3).trans P4;exact⟨a,_,rfl,.k hv (by lia),F.nx ρ _ q4 μ3 σ _ P04 R4 (En.mono R P04)⟩
theorem QQ{x1}(hu:X.A.units+64<cLine)(he:LE X e w)(ho:LE X o wo)(hi:LA X es wa)(hs:swapsWith e (some (.Subscript o (.Tuple es x1 tpos) pos')) pos.line X.env=pure false:=by rfl):LS X (.Assign [.Subscript o (.Tuple es x1 tpos) pos'] e pos) (KA w wo wa):=
 PS.imp (GB (by lia) ho (LG hi) he hs) λD σ H h=>by
  obtain⟨μ,ρ,mh,E,R,En,h,F⟩:=h;refine⟨μ,ρ,mh,_,R,En,h,λd mh1 q μ1 v H1 P1 R1 I1=>?_⟩;refine⟨μ1,ρ,mh1,_,R1,En.mono R P1,q,λdo' mh2 q2 μ2 vo H2 P2 R2 I2=>?_⟩;refine⟨μ2,ρ,mh2,_,R2,En.mono R (P1.trans P2),q2,λks mh3 q3 μ3 vks H3 P3 R3 I3=>?_⟩;obtain⟨n,kvs,keys,rfl,e1,rfl,hk,hz,q4⟩:=q3;have e5:=iR I3;subst e5;refine⟨by simpa using hk,λp hp=>?_⟩;have P3' :aK μ3 H3 μ3 (upd H3 p (.tup (keys.map kV))):=aK.new R3 hp;have R3' :Rep X.K μ3 mh3 (upd H3 p (.tup (keys.map kV))):=R3.new hp;obtain⟨a,vs,rfl,hn,⟨kk,hv,ek,rfl⟩,l⟩:=qK R3' (Is.mono R2 (P3.trans P3') _ _ I2) e1;have Iv:=Is.mono R1 (P2.trans (P3.trans P3')) d v I1;have P4:aK μ3 (upd H3 p (.tup (keys.map kV))) μ3 (upd (upd H3 p (.tup (keys.map kV))) a (.dT (putK kk keys v))):=aK.set R3' hn;have ln:kk.length=kvs.length:=by have:=aG8 List.length ek;simp at this;lia
  obtain⟨p1,p2⟩:=F9 (f:=λks:List Key=>D3.D.tup (ks.map bE)) MR keys Iv ek l;have R4:Rep X.K μ3 (mh3.set n (.dic true (putD kvs (.tup (keys.map bE)) d))) (upd (upd H3 p (.tup (keys.map kV))) a (.dT (putK kk keys v))):=G4 R3' hn (by trivial) ⟨_,⟨_,bK,p1,rfl⟩,p2.mono R3' P4⟩;have P04:=((P1.trans P2).trans (P3.trans P3')).trans P4;exact⟨a,_,rfl,.t hv bK (by lia),F.nx ρ _ q4 μ3 σ _ P04 R4 (En.mono R P04)⟩
end
def eU(h:Heap)(d:Addr)(es:Array DictEntry)(ep:Nat):Prop:=∃o,h.get? d=some o/\o.ExactDict/\o.data= .dict es ep
theorem eU.keep{h h' :Heap}{d:Addr}{es:Array DictEntry}{ep:Nat}(x:eU h d es ep)(k:∀o,h.get? d=some o->h'.get? d=some o):eU h' d es ep:=let ⟨o,a,b,c⟩:=x;⟨o,k o a,b,c⟩
section
variable {prog:Program}{w:World}{A:Around}{E:aHx}{s:Shared}{it d:Addr}{i ep:Nat}{es:Array DictEntry}
theorem BB{e:DictEntry}{Q:Option Value->Shared->Prop}(hit:Heap.IsKeyIter s.heap it d i es.size ep)(hm:eU s.heap d es ep)(hx:es[i]? =some e)
  (q:∀h',Heap.IsKeyIter h' it d (i+1) es.size ep->Heap.SameBut it s.heap h' ->Q (some e.key) {s with heap:=h'}):wpAny (model prog w) A (pyNext (.ref it)) Q E s:=by
 obtain⟨o,ho,hc,hd⟩:=id hit;obtain⟨od,hod,hcd,hdd⟩:=id hm;have ht:=hit.typeIs;refine aF3 (aGn (aFp ht aGi (aFm aGi ht F.entry_dict_keyiterator_next ?_ (F.args_dict_keyiterator_next_1 _))));refine aF3 (aF5 ?_);refine aF3 (aF3 (aF3 (aGx ht (aF5 ?_))));refine aF3 (aHm ho hd ?_);show wpAny _ _ (if (Value.ref d==Value.none)=true then _ else _) _ _ _;rw[if_neg (show ¬((Value.ref d==Value.none)=true) from Bool.false_ne_true)];refine aF3 (aF5 ?_);refine aF3 (wpAny_dictEntries hod hdd ?_);rw[if_neg (show ¬(((es.size:Int) !=(es.size:Int))=true) by simp)];refine aF3 (aF5 ?_);refine aF3 (wpAny_dictEpoch hod hdd ?_);rw[if_neg (show ¬(((ep:Int) !=(ep:Int))=true) by simp)];refine aF5 ?_
 have e1:(if (i:Int)<0 then none else es[(i:Int).toNat]?)=some e:=by
  rw[if_neg (by lia)];simpa using hx
 show wpAny _ _ (match (if (i:Int)<0 then none else es[(i:Int).toNat]?) with | some e=>_ | none=>_) _ _ _;rw[e1];refine aF3 (aF3 (aGx ht (aF5 ?_)));refine aF3 (wpAny_isOneOf_keyiter ht ?_);refine aF3 (wpAny_setField ho hd (by show 1<4;lia) ?_)
 have ho1:(s.heap.update it (Obj.mapFields λx=>x.setIfInBounds 1 (rawInt ((i:Int)+1)))).get? it=some (Obj.mapFields (λx=>x.setIfInBounds 1 (rawInt ((i:Int)+1))) o):=by
  refine aG5 _ ho ?_;obtain⟨c,di,da,sl⟩:=o;simp only at hd hc;subst hd;rfl
 have hit1:Heap.IsKeyIter (s.heap.update it (Obj.mapFields λx=>x.setIfInBounds 1 (rawInt ((i:Int)+1)))) it d (i+1) es.size ep:=by
  refine⟨_,ho1,?_,?_⟩
  ·obtain⟨c,di,da,sl⟩:=o;simp only at hd hc;subst hd;exact hc
  ·obtain⟨c,di,da,sl⟩:=o;simp only at hd hc;subst hd;rfl
 refine aF3 (aFx (aF3 (wpAny_isOneOf_keyiter (Heap.IsKeyIter.typeIs (s:={s with heap:=s.heap.update it (Obj.mapFields λx=>x.setIfInBounds 1 (rawInt ((i:Int)+1)))}) hit1) (aF5 (aF5 ⟨_,rfl,aF5 (q _ hit1 (aGa _ _ _))⟩)))))
theorem F8{Q:Option Value->Shared->Prop}(hh:A.handled=none)(hit:Heap.IsKeyIter s.heap it d i es.size ep)(hm:eU s.heap d es ep)(hx:es[i]? =none)
  (q:∀h',Heap.ExtBut it s.heap h' ->Q none {s with heap:=h'}):wpAny (model prog w) A (pyNext (.ref it)) Q E s:=by
 obtain⟨o,ho,hc,hd⟩:=id hit;obtain⟨od,hod,hcd,hdd⟩:=id hm;have ht:=hit.typeIs;refine aF3 (aGn (aFp ht aGi (aFm aGi ht F.entry_dict_keyiterator_next ?_ (F.args_dict_keyiterator_next_1 _))));refine aF3 (aF5 ?_);refine aF3 (aF3 (aF3 (aGx ht (aF5 ?_))));refine aF3 (aHm ho hd ?_);show wpAny _ _ (if (Value.ref d==Value.none)=true then _ else _) _ _ _;rw[if_neg (show ¬((Value.ref d==Value.none)=true) from Bool.false_ne_true)];refine aF3 (aF5 ?_);refine aF3 (wpAny_dictEntries hod hdd ?_);rw[if_neg (show ¬(((es.size:Int) !=(es.size:Int))=true) by simp)];refine aF3 (aF5 ?_);refine aF3 (wpAny_dictEpoch hod hdd ?_);rw[if_neg (show ¬(((ep:Int) !=(ep:Int))=true) by simp)];refine aF5 ?_
 have e1:(if (i:Int)<0 then none else es[(i:Int).toNat]?)=none:=by
  rw[if_neg (by lia)];simpa using hx
 show wpAny _ _ (match (if (i:Int)<0 then none else es[(i:Int).toNat]?) with | some e=>_ | none=>_) _ _ _;rw[e1];refine aF3 (aF3 (aGx ht (aF5 ?_)));refine aF3 (wpAny_setField ho hd (by show 0<4;lia) ?_);refine aF3 (aF3 (aFt (aF3 (aHk (show firstArgMember (Value.type "StopIteration") []=pure _ from rfl) (aFt ?_)))));refine aF3 (wpAny_handled ?_);rw[show A.in1.handled=none from hh];refine wpAny_throw (aF3 (aHr (T:= "StopIteration") (b:=true) ⟨_,aFa _ rfl,rfl⟩ rfl (aF5 (q _ ?_))));intro b u hb e;refine aF4 _ (aF4 _ ?_);rw[Heap.get?_update_ne _ _ _ _ hb];exact e
end
theorem eU.typeIs{s:Shared}{d:Addr}{es:Array DictEntry}{ep:Nat}(x:eU s.heap d es ep):s.TypeIs (.ref d) "dict":=let ⟨o,a,b,c⟩:=x;⟨o,a,b.1⟩
section
variable {prog:Program}{w:World}{A:Around}{E:aHx}{s:Shared}{d:Addr}{ep:Nat}{es:Array DictEntry}
theorem BA{Q:aHx}(hd:(d==sysModules)=false)(hm:eU s.heap d es ep)
  (q:Q (.ref s.heap.objs.size) {s with heap:=s.heap.push {cls:= .type "dict_keyiterator",data:= .fields #[.ref d,.int 0 0,.int es.size 0,.int ep 0]}}):wpAny (model prog w) A (pyIter (.ref d)) Q E s:=by
 obtain⟨o,ho,hc,hdd⟩:=id hm;refine aHj hm.typeIs F.slot_dict_iter (aFm F.slot_dict_iter hm.typeIs F.entry_dict_iter ?_ (F.args_dict_iter_1 _));refine aF3 (aF3 (wpAny_notOrdered_dict hm.typeIs (aF3 (aF5 (aF5 ?_)))));refine aF3 (aF5 ?_);refine aF3 (m:=Builtin.Dict.showsAll d) ?_;show wpAny _ _ (if (d==sysModules)=true then _ else _) _ _ _;rw[hd,if_neg Bool.false_ne_true];refine aF5 (aF3 (wpAny_dictEntries ho hdd (aF3 (wpAny_dictEpoch ho hdd (aF3 (aFt (aF5 ⟨_,rfl,"dict_keyiterator",_,⟨_,aFa _ rfl,rfl⟩,aGi.lookup,q⟩)))))))
theorem O9(hd:(d==sysModules)=false):W.KdlSrc prog w "dict" d d es.size (λi v=>∃e,es[i]? =some e/\v=e.key) λh=>eU h d es ep where
 type:=λs x=>x.typeIs
 there:=λh x=>let ⟨o,a,_⟩:=x;⟨aFc a,aFc a⟩
 keep:=λh h' x k=>x.keep λo=>k d (.inl rfl) o
 notList:=rfl
 notTuple:=rfl
 hint:=λA E s Q x q=>W.kdl_hint_dict x.typeIs q
 iter:=λA s hh x=>by
  refine⟨_,λi h=>Heap.IsKeyIter h s.heap.objs.size d i es.size ep/\eU h d es ep,λE Q q=>BA hd x q,?_,?_⟩
  ·have hne:d≠s.heap.objs.size:=by obtain⟨o,a,_⟩:=x;exact aFj (aFc a)
   refine⟨λb hb=>by simp at hb;simp[hb],λi h h' st k=>⟨st.1.at λo=>k _ (by simp) o,st.2.keep λo=>k _ (by simp) o⟩,λi s1 Q E hi st q=>?_,λs1 Q E st q=>?_,λi s1 Q E st q=>wpAny_pyIter_keyiter st.1 q⟩
   ·have hx:es[i]? =some es[i]:=by simp[hi]
    refine BB st.1 st.2 hx λh' a b=>q _ h' s1.toks ⟨_,hx,rfl⟩ ⟨a,st.2.keep λo e=>(b.2 d hne).trans e⟩ λc o hc e=>?_;simp at hc;exact(b.2 c hc).trans e
   ·refine F8 hh st.1 st.2 (by simp) λh' a=>q h' s1.toks λc o hc e=>?_;simp at hc;exact a c o hc e
  ·refine⟨⟨_,aFa _ rfl,rfl,rfl⟩,x.keep λo e=>aF4 _ e⟩
end
end D3
namespace TS
open PySem PySem.Spec PyProof.Rows L2
section
variable {prog:Program}{w:World}{A:Around}{E:aHx}{s:Shared}{lt:Value×Value->Value×Value->Bool}{r d:Addr}{n:Nat}{P:Nat->Value->Prop}{OK:Heap->Prop}{T:String}
theorem KP(O:Wk lt){Q:aHx}(src:W.KdlSrc prog w T r d n P OK)(hh:A.handled=none)(ok:OK s.heap)(h64:n<4000)
  (ck:∀vs:List Value,ItemsOf P vs.toArray n->∀(h1:Heap) (tk:Nat),(∀b o,s.heap.get? b=some o->h1.get? b=some o)->∃κ,2<=vs.length->∀h' :Heap,(∀b o,h1.get? b=some o->h'.get? b=some o)->
   l6 prog w A.in1.in1 {s with heap:=h',toks:=tk} κ lt (pairsOf vs)/\∀Q' E',Q' κ {s with heap:=h',toks:=tk}->wpAny (model prog w) A.in1.in1 (keyKind' vs.toArray) Q' E' {s with heap:=h',toks:=tk})
  (h:∀vs:List Value,ItemsOf P vs.toArray n->∀out:List Value,out.Perm vs->out.Pairwise (λx y=>lt (y,y) (x,x)=false)->∀(h1 h2:Heap) (tk:Nat) (ep:Nat),(∀b o,s.heap.get? b=some o->h1.get? b=some o)->(∀b o,h1.get? b=some o->h2.get? b=some o)->
   h2.get? h1.objs.size=some (seqObj "list" out.toArray ep)->Q (.ref h1.objs.size) {s with heap:=h2,toks:=tk}):
  wpAny (model prog w) A (call (.builtin "sorted") [.ref r]) Q E s:=by
 have zl:sizeLine=16777216:=aFn;refine aH3 kind_sorted plain_sorted entry_sorted (args_sorted1 _) ?_;unfold Builtin.«sorted»;refine aF3 (m:=checkCount "sorted" 1 1 _) (aF5 ?_);refine aF3 (W.kdu_collect src hh ok (by lia) λh1 tk acc kept items=>?_);have hsz:acc.toList.length=n:=by have:=items.1;simpa using this
 obtain⟨κ,ck⟩:=ck acc.toList (by simpa using items) h1 tk kept;refine aF3 (wpAny_newList ?_ (by lia));have ob:(h1.push (seqObj "list" acc.toList.toArray 0)).get? h1.objs.size=some (seqObj "list" acc.toList.toArray 0):=aFa _ rfl;refine aF3 (aFx (aFm slot_list_sort ⟨_,ob,rfl⟩ entry_list_sort (DP (κ:=κ) (s:={s with heap:=h1.push (seqObj "list" acc.toList.toArray 0),toks:=tk}) O ob (by lia) (λh2 h' k=>?_) λout p1 p2=>⟨_,rfl,aF5 ⟨_,rfl,?_⟩⟩) (args_list_sort _)))
 ·obtain⟨c1,c2⟩:=ck h2 h' λb o e=>k b o (aFj (aFc e)) (aF4 _ e);exact⟨c1,λQ' q=>c2 Q' _ q⟩
 ·obtain⟨ep,he⟩:=sortedHeap_at (out:=out.toArray) ob;refine h acc.toList (by simpa using items) out p1 p2 h1 _ tk ep kept (λb o e=>?_) he;have lb:=aFc e;have hb:b<(h1.push (seqObj "list" acc.toList.toArray 0)).objs.size:=by rw[size_push'];exact aFw lb
  rw[sortedHeap_old (Nat.ne_of_lt lb) hb];exact aF4 _ e
end
end TS
namespace D3
open PySem PySem.Spec PyProof.Rows L2
def C8:OA:=λxs mh Q=>∃n t kvs,xs=[.ref n]/\mh[n]? =some (.dic t kvs)/\kvs.length<4000/\JY (kvs.map (·.1))/\∀fs:List D,fs.Perm (kvs.map (·.1))->fs.Pairwise (λd e=>lx (enc e) (enc d)=false)->Q (.ref mh.length) (mh++[.lst fs])
theorem MX{K:aHw}{μ:List Addr}{H:Hp}(k:Key):Is K μ H (bE k) (kV k):=by
 cases k <;> (simp only[bE];unfold Is;rfl)
theorem sL{K:aHw}{μ:List Addr}{H:Hp}:∀ks:List Key,IsL K μ H (ks.map bE) (ks.map kV)
 | []=>by simp[IsL]
 | k::ks=>by simp only[List.map_cons];unfold IsL;exact⟨_,_,rfl,MX k,sL ks⟩
theorem A7{P:Program}{w:World}{k:Key}{u:Value}(h:(aS P w).is k u=true):RelV (kV k) u:=by
 rcases bP (k:=k) (v:=u) h with ⟨i,t,rfl,rfl⟩ | ⟨x,t,rfl,rfl⟩
 ·exact⟨t,rfl⟩
 ·exact⟨t,rfl⟩
theorem nE{P:Program}{w:World}:∀{es:List DictEntry} {vs:List (Key×Value)} {kk:List (Key×V)},Pairs (aS P w) es vs->KV kk vs->Vals (kk.map λp=>kV p.1) (es.map (·.key))
 | [],vs,kk,p,r=>by cases p;cases r;exact .nil
 | e::es,vs,kk,p,r=>by
  cases p with
  | cons h1 h2 h3=>
   cases r with
   | cons r1 r2=>
    simp only[List.map_cons];refine .cons ?_ (nE h3 r2);rw[r1.1];exact A7 h1
theorem xA{K:aHw}{μ:List Addr}{H:Hp}:∀kk:List (Key×V),IsL K μ H (kk.map λp=>bE p.1) (kk.map λp=>kV p.1)
 | []=>by simp[IsL]
 | p::kk=>by simp only[List.map_cons];unfold IsL;exact⟨_,_,rfl,MX _,xA kk⟩
theorem w9{K:aHw}{μ:List Addr}{H:Hp}:∀{kk:List (List Key×V)} {xs:List (List Key×Addr×Value)},KT H kk xs->IsL K μ H (kk.map λp=>.tup (p.1.map bE)) (xs.map λx=>.ref x.2.1)
 | [],xs,r=>by cases r;simp[IsL]
 | p::kk,xs,r=>by
  cases r with
  | cons r1 r2=>
   simp only[List.map_cons];unfold IsL;refine⟨_,_,rfl,?_,w9 r2⟩;unfold Is;exact⟨_,_,rfl,.inl (.inl r1.2.1),sL _⟩
theorem fY:∀(xs:List (List Key×Addr×Value)),Vals (xs.map λx=>V.ref x.2.1) (xs.map λx=>Value.ref x.2.1)
 | []=>.nil
 | x::xs=>.cons rfl (fY xs)
theorem RJ{X:Cx}{pins:List (Addr×Obj)}{σ:L2.St}{H:Hp}{s:Shared}{μ:List Addr}{a:Addr}{ks:List D}{vs:List V}{t:Bool}(I:Inv X pins σ H s)(hv:rV (H a) ks vs t):
  ∃(es:Array DictEntry) (ep:Nat) (ws:List V),(a==sysModules)=false/\eU s.heap a es ep/\IsL X.K μ H ks ws/\Vals ws (es.toList.map (·.key)):=by
 cases t with
 | false=>
  obtain⟨kk,e,rfl,rfl⟩:=hv;obtain⟨z,hd,vs,r,o,es,ep,h1,h2,h3,h4,h5,h6⟩:=S8 I.bG e;exact⟨es,ep,_,hd,⟨o,h1,h2,h3⟩,xA kk,nE h5 r⟩
 | true=>
  obtain⟨kk,e,rfl,rfl⟩:=hv;obtain⟨z,hd,xs,r,o,es,ep,h1,h2,h3,h4,h5⟩:=S7 I.bG e;refine⟨es,ep,_,hd,⟨o,h1,h2,h3⟩,w9 r,?_⟩;rw[h4,List.map_map];exact fY xs
section
variable {X:Cx}
theorem E6(hu:X.A.units+64<cLine)(hc:X.calm=true):bY X (.builtin "sorted") (c7 X.K C8):=by
 intro pins s σ H xs us Q I r q;obtain⟨μ,mh,ds,R,RR,il,⟨n,t,kvs,rfl,e,h64,U,q⟩,F⟩:=q;obtain⟨v,rfl,iv⟩:=gG il;obtain⟨a,vs,rfl,hn,hv,l0⟩:=qK RR iv e;obtain⟨u,rfl,ru⟩:=vals1 r;cases ru;obtain⟨es,ep,ws,hd,raw,l,rv⟩:=RJ (μ:=μ) I hv;have vl:=kA I (kvs.map (·.1)) (xQ U) l rv;have hlen:es.size=kvs.length:=by have:=bH vl;simpa using this
 have u2:X.A.in1.in1.units+40<cLine:=by show X.A.units+1+1+40<_;lia
 have itm:∀vs:List Value,ItemsOf (λi v=>∃e,es[i]? =some e/\v=e.key) vs.toArray es.size->vs=es.toList.map (·.key):=λvs h=>by
  apply List.ext_getElem?;intro i;have hs:vs.length=es.size:=by simpa using h.1
  by_cases hi:i<es.size
  ·have hi' :i<vs.length:=by lia
   obtain⟨e,h1,h2⟩:=h.2 i vs[i] (by simp[hi']);rw[List.getElem?_map,List.getElem?_eq_getElem hi'];simp only[Array.getElem?_toList,h1,Option.map_some,h2]
  ·rw[List.getElem?_eq_none (by lia),List.getElem?_eq_none (by simp;lia)]
 refine TS.KP (EC s.heap) (O9 (ep:=ep) hd) (I.ok.hd hc) raw (by lia) (λvs hi h1 tk kept=>?_) λvs hi out p1 p2 h1 h2 tk ep2 kept kept2 he=>?_
 ·cases itm vs hi;by_cases h2:2<=(es.toList.map (·.key)).length
  ·obtain⟨κ,hk⟩:=tQ (prog:=X.prog) (w:=X.w) (A:=X.A.in1.in1) (s:={s with toks:=tk}) u2 U vl h2;exact⟨κ,λ_ h' k=>hk h' λb o e=>k b o (kept b o e)⟩
  ·exact⟨general',λz=>absurd z h2⟩
 ·cases itm vs hi;obtain⟨ts,t1,t2,t3,t4⟩:=T3 l rv vl;rw[<-t3]at p1;obtain⟨ts',p3,p4⟩:=kT (·.u) p1 ts rfl;have h4:∀t∈ts',Is X.K μ H t.d t.v/\RelV t.v t.u/\Vl s.heap t.d t.u:=λt ht=>t4 t (p3.mem_iff.mp ht);have pd:(ts'.map (·.d)).Perm (kvs.map (·.1)):=by rw[<-t1];exact p3.map _
  have pw:(ts'.map (·.d)).Pairwise (λd e=>lx (enc e) (enc d)=false):=by
   rw[<-p4]at p2;rw[List.pairwise_map]at p2⊢;refine p2.imp_of_mem λ{t t'} m m' hh=>?_;have e1:dv s.heap t.u=t.d:=m3 (h4 t m).2.2;have e2:dv s.heap t'.u=t'.d:=m3 (h4 t' m').2.2;unfold ltV at hh;rw[e1,e2]at hh;exact hh
  have ln:(ts'.map (·.v)).length<=sizeLine:=by
   have a1:=p3.length_eq;have a2:=aG8 List.length t1;have a3:=aFn;simp at a2⊢
   lia
  have I0:Inv X pins σ H {s with heap:=h1,toks:=tk}:=I.kept (t' :=tk) kept
  have I1:Inv X pins σ (upd H h1.objs.size (.lst (ts'.map (·.v)))) {s with heap:=h2,toks:=tk}:=
   I0.laid (h' :=h2) (t' :=tk) kept2 (aF9 _) ⟨ln,out,ep2,by rw[<-p4];exact tF λt ht=>(h4 t ht).2.1,he⟩
  exact⟨.ref h1.objs.size,_,I1,rfl,hC RR F (y6 λt ht=>(h4 t ht).1) (q _ pd pw) _ (I0.bG.fresh (aF9 _))⟩
end
def fJ(mh:MH)(b:Nat)(mh' :MH):Prop:=∃mh1 T,mh' =mh1++T/\cK mh b mh1
theorem fJ.refl{mh:MH}{b:Nat}(h:xT mh b):fJ mh b mh:=⟨mh,[],by simp,.refl h⟩
theorem fJ.le{mh mh' :MH}{b:Nat}(h:fJ mh b mh'):mh.length<=mh'.length:=by
 obtain⟨mh1,T,rfl,t⟩:=h;rw[List.length_append,t.len];lia
theorem fJ.blt{mh mh' :MH}{b:Nat}(h:fJ mh b mh'):b<mh.length:=by
 obtain⟨mh1,T,rfl,t⟩:=h;rw[<-t.len];exact t.1.lt
theorem fJ.bag{mh mh' :MH}{b:Nat}(h:fJ mh b mh'):xT mh' b:=by
 obtain⟨mh1,T,rfl,⟨c,m,e,r⟩,_⟩:=h;exact⟨c,m,by rw[List.getElem?_append_left (List.getElem?_eq_some_iff.mp e).1];exact e,r⟩
theorem fJ.to{mh mh' mh2:MH}{b:Nat}(h:fJ mh b mh')(t:cK mh' b mh2):fJ mh b mh2:=by
 have hb:=h.blt;obtain⟨mh1,T,rfl,t1⟩:=h;have hb1:b<mh1.length:=by rw[t1.len];exact hb
 obtain⟨⟨c,m,e,r⟩,o,rfl⟩:=t;rw[List.set_append_left _ _ hb1]at e⊢;refine⟨mh1.set b o,T,rfl,t1.trans ⟨⟨c,m,?_,r⟩,o,rfl⟩⟩;rw[List.getElem?_append_left (by simpa using hb1)]at e;exact e
theorem fJ.push{mh mh' :MH}{b:Nat}(h:fJ mh b mh')(o:MO):fJ mh b (mh' ++[o]):=by
 obtain⟨mh1,T,rfl,t1⟩:=h;exact⟨mh1,T++[o],by simp,t1⟩
theorem fJ.set{mh mh' :MH}{b n:Nat}(h:fJ mh b mh')(hn:mh.length<=n)(o:MO):fJ mh b (mh'.set n o):=by
 obtain⟨mh1,T,rfl,t1⟩:=h;refine⟨mh1,T.set (n-mh1.length) o,?_,t1⟩;rw[List.set_append_right _ _ (by rw[t1.len];exact hn)]
theorem FZ{mh mh' :MH}{b:Nat}{many:Int}{Q:DK}(h:fJ mh b mh')(h1:1<=many)(h2:many<=1073741789)
  (q:∀r mh2,0<=r->r<many->fJ mh b mh2->mh2.length=mh'.length->(∀n,mh.length<=n->mh2[n]? =mh'[n]?)->Q (.int r) mh2):qZ [.ref b,.int many] mh' Q:=
 ⟨b,many,rfl,h1,h2,h.bag,λr mh2 r0 r1 t=>q r mh2 r0 r1 (h.to t) t.len λn hn=>t.other (by have:=h.blt;lia)⟩
open Classical in
noncomputable def b6:List (D×D)->D->Option D
 | [],_=>none
 | p::r,k=>if p.1=k then some p.2 else b6 r k
theorem n6{K:aHw}{μ:List Addr}{H:Hp}(key:Key):∀{kvs:List (D×D)} {kk:List (Key×V)},kvs.map (·.1)=kk.map (λp=>bE p.1)->IsL K μ H (kvs.map (·.2)) (kk.map (·.2))->
  (m9 kk key=none/\b6 kvs (bE key)=none)\/∃d v,m9 kk key=some v/\b6 kvs (bE key)=some d/\Is K μ H d v
 | [],[],_,_=>.inl ⟨rfl,rfl⟩
 | [],_::_,h,_=>by simp at h
 | _::_,[],h,_=>by simp at h
 | p::kvs,q::kk,h,l=>by
  simp only[List.map_cons,List.cons.injEq]at h;simp only[List.map_cons]at l;unfold IsL at l;obtain⟨w,r,e,i,l⟩:=l;simp only[List.cons.injEq]at e;obtain⟨rfl,rfl⟩:=e;by_cases hk:q.1=key
  ·right;have hp:p.1=bE key:=by rw[h.1,hk]
   exact⟨p.2,q.2,kG hk,by simp[b6,hp],i⟩
  ·have hp:¬p.1=bE key:=λz=>hk (pA (h.1.symm.trans z));rw[kH hk];simp only[b6,if_neg hp];exact n6 key h.2 l
section
variable {X:Cx}
theorem Q7(hu:X.A.units+64<cLine):TJ X (λx y H Q=>∃a v,x= .ref a/\zZ H a y (some v)/\Q v H):=by
 intro value slice pins s σ H x y v u Q I rx ry h hs;obtain⟨a,z,rfl,g,q⟩:=h;cases rx;have hT:=CO I g;unfold subscriptTail;refine aF3 ?_;rw[getitemInPython_of_ne hT.not_modules];refine aF3 (wpAny_specialOf hT PySem.F.slot_dict_getitem.lookup ?_)
 have fin:wpAny (model X.prog X.w) X.A (subscripted slice false (.ref a) u) (λr s₃=>wpAny (model X.prog X.w) X.A (letTemporaryGo value (.ref a) r >>=λ_=>pure r) (EP X pins σ Q) X.xe s₃) X.xe s:=by
  rw[hs];exact wpAny_operating (JG (by lia) I g ry λw' s3 I3 rw' =>aF3 (wpAny_letTemporaryGo (aF5 ⟨z,H,I3,rw',q⟩)))
 first
  | exact aF5 (aF3 fin)
  | exact aF3 (aF5 (aF3 fin))
  | exact aF3 fin
def VJ:O2:=λx y mh Q=>∃n kvs key d,x= .ref n/\mh[n]? =some (.dic false kvs)/\y=bE key/\b6 kvs y=some d/\Q d mh
theorem ixD(hu:X.A.units+64<cLine):TJ X (bI X.K VJ):=by
 intro value slice pins s σ H x y v u Q I rx ry q hs;obtain⟨μ,mh,dx,dy,R,RR,ix,iy,⟨n,kvs,key,d,rfl,e,rfl,hd,q⟩,F⟩:=q;obtain⟨a,vs,rfl,hn,⟨kk,hv,ek,rfl⟩,l⟩:=qK RR ix e;cases lS iy
 rcases n6 key ek l with ⟨_,z⟩ | ⟨d',w,h1,h2,iw⟩
 ·rw[hd]at z;cases z
 ·rw[hd]at h2;cases h2;exact Q7 hu value slice pins s σ H _ _ v u Q I rx ry ⟨a,w,rfl,by rw[<-h1];exact .k hv,F.here RR q iw⟩ hs
end
def bestOf(f:Int->Int->Bool)(m:Int)(ms:List Int):Int:=ms.foldl (λa b=>if f b a then b else a) m
theorem C1(f:Int->Int->Bool)(m:Int)(ms:List Int):∀k,k<=ms.length->(m::ms).getD (argBest (λi j=>f ((m::ms).getD i 0) ((m::ms).getD j 0)) k) 0=bestOf f m (ms.take k)
 | 0,_=>by simp[argBest,bestOf]
 | k+1,h=>by
  have ih:=C1 f m ms k (by lia);have hk:k<ms.length:=by lia
  have et:ms.take (k+1)=ms.take k++[ms[k]]:=by rw[List.take_succ,List.getElem?_eq_getElem hk];rfl
  have ev:(m::ms).getD (k+1) 0=ms[k]:=by simp[hk]
  have eb:bestOf f m (ms.take k++[ms[k]])=if f ms[k] (bestOf f m (ms.take k))=true then ms[k] else bestOf f m (ms.take k):=by unfold bestOf;rw[List.foldl_append];rfl
  rw[et,eb,<-ih,<-ev];simp only[argBest];split <;> rfl
theorem pF{K:aHw}{μ:List Addr}{H:Hp}:∀{ns:List Int} {vs:List V} {us:List Value},IsL K μ H (ns.map .int) vs->Vals vs us->IntsAre us ns
 | [],vs,us,l,r=>by unfold IsL at l;subst l;cases r;exact .nil
 | n::ns,vs,us,l,r=>by
  simp only[List.map_cons]at l;unfold IsL at l;obtain⟨v,vr,rfl,i,l⟩:=l;cases bF i
  cases r with
  | cons a b=>
   obtain⟨t,rfl⟩:=a;exact .cons n t (pF l b)
def TF(f:Int->Int->Bool):OA:=λxs mh Q=>∃x m ms,xs=[x]/\bA mh x=some ((m::ms).map .int)/\Q (.int (bestOf f m ms)) mh
abbrev TB:OA:=TF λa b=>decide (a > b)
abbrev S9:OA:=TF λa b=>decide (a<b)
section
variable {X:Cx}
theorem B6{prog:Program}{w:World}{A:Around}{E:aHx}{s:Shared}{l:Addr}{items:Array Value}{Q:aHx}(hl:s.heap.IsTuple l items)
  (h:∀s₂:Shared,s₂={s with heap:=s.heap.push {cls:= .type "tuple_iterator",data:= .fields #[.ref l,.int 0 0]}}->
   (s₂.heap.IsTupleIter s.heap.objs.size l 0/\s₂.heap.IsTuple l items)->l<s.heap.objs.size->Q (.ref s.heap.objs.size) s₂):
  wpAny (model prog w) A (pyIter (.ref l)) Q E s:=by
 have hlt:l<s.heap.objs.size:=by obtain⟨_,e,_⟩:=hl;exact aFc e
 exact wpAny_pyIter_tuple hl (h _ rfl ⟨⟨_,aFa _ rfl,rfl,rfl⟩,hl.push _⟩ hlt)
theorem pT{pins:List (Addr×Obj)}{σ:L2.St}{H:Hp}{s:Shared}{μ:List Addr}{mh:MH}{R:DK}{Q:VK}{f:Int->Int->Bool}{m:Int}{ms:List Int}{aG:List Value}{v:Value}{h' :Heap}{tk:Nat}
  (I:Inv X pins σ H s) (RR:Rep X.K μ mh H) (F:Fin X.K μ H R Q) (q:R (.int (bestOf f m ms)) mh) (ia:IntsAre aG (m::ms))
  (hv:aG[argBest (λi j=>f ((m::ms).getD i 0) ((m::ms).getD j 0)) ms.length]? =some v) (hk:∀b o',s.heap.get? b=some o' ->h'.get? b=some o'):
  EP X pins σ Q v {s with heap:=h',toks:=tk}:=by
 obtain⟨t,rfl⟩:=ia.int_at _ _ hv;refine⟨.int (bestOf f m ms),H,I.kept hk,⟨t,?_⟩,F.here RR q .int⟩;rw[C1 f m ms ms.length (Nat.le_refl _),List.take_length]
theorem pE{aG:List Value}{ns:List Int}(ia:IntsAre aG ns):∀(i:Nat) (v:Value),aG.toArray[i]? =some v->∃t,v= .int (ns.getD i 0) t:=λi v hv=>ia.int_at i v (by simpa using hv)
theorem RT(hc:X.calm=true):bY X (.builtin "max") (c7 X.K TB):=by
 intro pins s σ H xs us Q I r q;obtain⟨μ,mh,ds,R,RR,il,⟨x,m,ms,rfl,e,q⟩,F⟩:=q;obtain⟨v,rfl,iv⟩:=gG il;obtain⟨a,vs,rfl,sq,l⟩:=nB RR iv e;obtain⟨u,rfl,ru⟩:=vals1 r;cases ru;rcases sq with sq | sq
 ·obtain⟨aG,rv,pl,hz⟩:=I.list sq;have ia:=pF l rv;have hlen:aG.length=ms.length+1:=by have:=ia.length;simpa using this
  refine call_max_walk (qE pl.isList λs₂ e2 st hne=>?_);have hlt:a<s.heap.objs.size:=by obtain⟨_,e,_⟩:=pl.isList;exact aFc e
  subst e2;refine⟨_,_,_,_,_,_,λi j=>decide ((m::ms).getD i 0 > (m::ms).getD j 0),rfl,Walks.list (A:=X.A.in1) (I.ok.hd hc) _ a hne aG.toArray,st,?_,by simp[hlen],CmpOf.ints_gt (λi=>(m::ms).getD i 0) (pE ia),λv h' tk hP hk=>?_⟩
  ·intro b hb;simp only[List.mem_cons,List.not_mem_nil,or_false]at hb;simp only[Heap.size_push];rcases hb with rfl | rfl
   ·exact aG7 _
   ·exact aFw hlt
  ·refine pT (s:=s) I RR F q ia (by simpa[hlen] using hP) λb o' e' =>hk b o' (by simp;exact aFj (aFc e')) (aF4 _ e')
 ·obtain⟨aG,rv,pl,hz⟩:=I.tuple sq;have ia:=pF l rv;have hlen:aG.length=ms.length+1:=by have:=ia.length;simpa using this
  refine call_max_walk (B6 (show s.heap.IsTuple a aG.toArray from pl) λs₂ e2 st hlt=>?_);subst e2;refine⟨_,_,_,_,_,_,λi j=>decide ((m::ms).getD i 0 > (m::ms).getD j 0),rfl,Walks.tuple (A:=X.A.in1) (I.ok.hd hc) _ a (aFj hlt) aG.toArray,st,?_,by simp[hlen],CmpOf.ints_gt (λi=>(m::ms).getD i 0) (pE ia),λv h' tk hP hk=>?_⟩
  ·intro b hb;simp only[List.mem_cons,List.not_mem_nil,or_false]at hb;simp only[Heap.size_push];rcases hb with rfl | rfl
   ·exact aG7 _
   ·exact aFw hlt
  ·refine pT (s:=s) I RR F q ia (by simpa[hlen] using hP) λb o' e' =>hk b o' (by simp;exact aFj (aFc e')) (aF4 _ e')
theorem RQ(hc:X.calm=true):bY X (.builtin "min") (c7 X.K S9):=by
 intro pins s σ H xs us Q I r q;obtain⟨μ,mh,ds,R,RR,il,⟨x,m,ms,rfl,e,q⟩,F⟩:=q;obtain⟨v,rfl,iv⟩:=gG il;obtain⟨a,vs,rfl,sq,l⟩:=nB RR iv e;obtain⟨u,rfl,ru⟩:=vals1 r;cases ru;rcases sq with sq | sq
 ·obtain⟨aG,rv,pl,hz⟩:=I.list sq;have ia:=pF l rv;have hlen:aG.length=ms.length+1:=by have:=ia.length;simpa using this
  refine call_min_walk (qE pl.isList λs₂ e2 st hne=>?_);have hlt:a<s.heap.objs.size:=by obtain⟨_,e,_⟩:=pl.isList;exact aFc e
  subst e2;refine⟨_,_,_,_,_,_,λi j=>decide ((m::ms).getD i 0<(m::ms).getD j 0),rfl,Walks.list (A:=X.A.in1) (I.ok.hd hc) _ a hne aG.toArray,st,?_,by simp[hlen],CmpOf.ints_lt (λi=>(m::ms).getD i 0) (pE ia),λv h' tk hP hk=>?_⟩
  ·intro b hb;simp only[List.mem_cons,List.not_mem_nil,or_false]at hb;simp only[Heap.size_push];rcases hb with rfl | rfl
   ·exact aG7 _
   ·exact aFw hlt
  ·refine pT (s:=s) I RR F q ia (by simpa[hlen] using hP) λb o' e' =>hk b o' (by simp;exact aFj (aFc e')) (aF4 _ e')
 ·obtain⟨aG,rv,pl,hz⟩:=I.tuple sq;have ia:=pF l rv;have hlen:aG.length=ms.length+1:=by have:=ia.length;simpa using this
  refine call_min_walk (B6 (show s.heap.IsTuple a aG.toArray from pl) λs₂ e2 st hlt=>?_);subst e2;refine⟨_,_,_,_,_,_,λi j=>decide ((m::ms).getD i 0<(m::ms).getD j 0),rfl,Walks.tuple (A:=X.A.in1) (I.ok.hd hc) _ a (aFj hlt) aG.toArray,st,?_,by simp[hlen],CmpOf.ints_lt (λi=>(m::ms).getD i 0) (pE ia),λv h' tk hP hk=>?_⟩
  ·intro b hb;simp only[List.mem_cons,List.not_mem_nil,or_false]at hb;simp only[Heap.size_push];rcases hb with rfl | rfl
   ·exact aG7 _
   ·exact aFw hlt
  ·refine pT (s:=s) I RR F q ia (by simpa[hlen] using hP) λb o' e' =>hk b o' (by simp;exact aFj (aFc e')) (aF4 _ e')
end
end D3
namespace ST
open PySem PySem.SetTable
def FE(xs:Array Nat):Prop:=xs.toList.Pairwise (· < ·)
theorem DU{xs:Array Nat}(h:FE xs){i j:Nat}(hi:i<j)(hj:j<xs.size):xs[i]'(by lia)<xs[j]:=by
 have:=aH2.mp h i j (by simp;lia) (by simpa using hj) hi;simpa using this
theorem K1{xs:Array Nat}(h:FE xs){i j:Nat}(hi:i<=j)(hj:j<xs.size):xs[i]'(by lia)<=xs[j]:=by
 rcases Nat.lt_or_eq_of_le hi with z | z
 ·exact aH6 (DU h z hj)
 ·subst z;exact aF9 _
theorem zC(xs:Array Nat)(j:Nat)(h:FE xs):∀(fuel lo hi:Nat),hi-lo<=fuel->lo<=hi->hi<=xs.size->(∀k (hk:k<xs.size),k<lo->xs[k]<j)->(∀k (hk:k<xs.size),hi<=k->j<=xs[k])->
  (below.go xs j fuel lo hi<=xs.size)/\(∀k (hk:k<xs.size),k<below.go xs j fuel lo hi->xs[k]<j)/\(∀k (hk:k<xs.size),below.go xs j fuel lo hi<=k->j<=xs[k])
 | 0,lo,hi,h1,h2,h3,a,b=>by
  have:lo=hi:=by lia
  subst this;exact⟨h3,a,b⟩
 | fuel+1,lo,hi,h1,h2,h3,a,b=>by
  unfold below.go;by_cases hl:lo<hi
  ·rw[if_pos hl];have hm:(lo+hi) / 2<xs.size:=by lia
   have eg:xs.getD ((lo+hi) / 2) j=xs[(lo+hi) / 2]:=by simp[Array.getD,hm]
   simp only[eg];by_cases hx:xs[(lo+hi) / 2]<j
   ·rw[if_pos hx];exact zC xs j h fuel _ _ (by lia) (by lia) h3 (λk hk hk2=>Nat.lt_of_le_of_lt (K1 h (by lia) hm) hx) b
   ·rw[if_neg hx];exact zC xs j h fuel _ _ (by lia) (by lia) (by lia) a (λk hk hk2=>aFu (aHq hx) (K1 h hk2 hk))
  ·rw[if_neg hl];have:lo=hi:=by lia
   subst this;exact⟨h3,a,b⟩
theorem jD{xs:Array Nat}(j:Nat)(h:FE xs):(below xs j<=xs.size)/\(∀k (hk:k<xs.size),k<below xs j->xs[k]<j)/\(∀k (hk:k<xs.size),below xs j<=k->j<=xs[k]):=
 zC xs j h xs.size 0 xs.size (by lia) (by lia) (aF9 _) (λk hk z=>by lia) (λk hk z=>by lia)
theorem E7{xs:Array Nat}(h:FE xs):below xs 0=0:=by
 obtain⟨a,b,_⟩:=jD 0 h;apply aH4;intro z;have:=b 0 (by lia) (by lia)
 lia
theorem E9{xs:Array Nat}(h:FE xs){i:Nat}(hi:i<xs.size):below xs (xs[i]+1)=i+1:=by
 obtain⟨a,b,c⟩:=jD (xs[i]+1) h
 have h1:i<below xs (xs[i]+1):=by
  apply aH4;intro z;have:=c i hi (by lia)
  lia
 apply aH4;intro z;have h2:i+1<below xs (xs[i]+1):=by lia
 have h3:=b (i+1) (by lia) h2;have h4:=DU (i:=i) (j:=i+1) h (by lia) (by lia)
 lia
theorem QH{xs:Array Nat}(h:FE xs){j:Nat}(hn:xs[below xs j]? ≠some j):j∉xs.toList:=by
 intro hm;obtain⟨k,hk,e⟩:=aHn.mp hm;have hk' :k<xs.size:=by simpa using hk
 have e' :xs[k]=j:=by simpa using e
 obtain⟨a,b,c⟩:=jD j h
 have h1:below xs j<=k:=by
  apply aH4;intro z;have:=b k hk' (by lia)
  lia
 rcases Nat.lt_or_eq_of_le h1 with z | z
 ·have:=DU h z hk';have:=c _ (by lia) (aF9 _)
  lia
 ·apply hn;rw[z];simp[hk',e']
theorem CD{α:Type}(xs:Array α)(p:Nat)(x:α)(hp:p<=xs.size):(insertAt xs p x).toList=xs.toList.take p++x::xs.toList.drop p:=by
 unfold insertAt;simp[Array.toList_extract];rw[List.take_of_length_le (by simp)]
theorem DV{xs:Array Nat}(h:FE xs){j:Nat}(hn:j∉xs.toList):FE (insertAt xs (below xs j) j):=by
 obtain⟨a,b,c⟩:=jD j h;unfold FE;rw[CD _ _ _ a,List.pairwise_append];refine⟨h.sublist (List.take_sublist _ _),?_,?_⟩
 ·rw[List.pairwise_cons];refine⟨λy hy=>?_,h.sublist (List.drop_sublist _ _)⟩;obtain⟨k,hk,e⟩:=aHn.mp hy;have hk2:below xs j+k<xs.size:=by simp at hk;lia
  have e2:xs[below xs j+k]=y:=by simpa using e
  have:=c _ hk2 (by lia);rcases Nat.lt_or_eq_of_le this with z | z
  ·lia
  ·exfalso;apply hn;rw[z];simp
 ·intro x hx y hy;obtain⟨k,hk,e⟩:=aHn.mp hx;have hk2:k<below xs j/\k<xs.size:=by simp at hk;lia
  have e2:xs[k]=x:=by simpa using e
  have h1:=b k hk2.2 hk2.1;rcases aFd.mp hy with z | z
  ·lia
  ·obtain⟨m,hm,e3⟩:=aHn.mp z;have hm2:below xs j+m<xs.size:=by simp at hm;lia
   have e4:xs[below xs j+m]=y:=by simpa using e3
   have:=c _ hm2 (by lia)
   lia
theorem HP(n:Nat):FE (Array.range n):=by
 unfold FE;rw[Array.toList_range];exact List.pairwise_lt_range
structure rR(l:Bool)(t:SetTable):Prop where
 Z3:FE t.place
 dum:t.dummies= #[]
 led:t.led=l
theorem rR.plain{l:Bool}{t:SetTable}(h:rR l t)(b:Bool):rR l {t with plain:=b}:=⟨h.Z3,h.dum,h.led⟩
theorem rR.fresh(f m:Nat)(l:Bool):rR l (.fresh f m l):=⟨by unfold FE SetTable.fresh;simp,rfl,rfl⟩
theorem rR.F1{l:Bool}{t:SetTable}(h:rR l t)(n:Nat):rR l (t.standIn n):=⟨HP n,rfl,h.led⟩
theorem rR.P9{l:Bool}{t:SetTable}(h:rR l t)(n:Nat):rR l (t.orStandIn n):=by
 unfold SetTable.orStandIn;split
 ·exact h
 ·exact h.F1 n
theorem tR{t:SetTable}(h:t.dummies= #[])(j:Nat):t.slot j≠ .dummy:=by
 unfold SetTable.slot;simp only[h,SetTable.has];split
 ·exact λz=>by cases z
 ·simp
theorem BE{t:SetTable}(h:t.dummies= #[])(x:Int):∀(fuel:Nat) (p:Probe) (j:Nat) (d:Option Nat),p.dummy=none->probe.go t (λ_=>x+1) x fuel p=some (.empty j d)->t.slot j= .empty/\d=none
 | 0,p,j,d,_,e=>by simp[probe.go]at e
 | fuel+1,p,j,d,hp,e=>by
  unfold probe.go at e
  cases hs:t.slot p.j with
  | empty=>
   rw[hs]at e;simp at e;obtain⟨rfl,rfl⟩:=e;exact⟨hs,hp⟩
  | dummy=>exact absurd hs (tR h _)
  | live i=>
   rw[hs]at e;have:(x+1==x)=false:=by simp;lia
   simp only[this]at e;refine BE h x fuel _ j d ?_ e;unfold SetTable.advance;split <;> simp[hp]
theorem JB{t:SetTable}(h:t.dummies= #[]){x:Int}{j:Nat}{b:Bool}(e:t.freeSlot x=some (j,b)):t.slot j= .empty:=by
 unfold SetTable.freeSlot at e
 cases hp:t.probe (λ_=>x+1) x (t.probeStart x) with
 | none=>rw[hp]at e;cases e
 | some m=>
  rw[hp]at e
  cases m with
  | candidate a b c=>cases e
  | empty k d=>
   obtain⟨h1,h2⟩:=BE h x _ _ k d rfl hp;subst h2;simp at e;obtain⟨rfl,_⟩:=e;exact h1
theorem DQ{t:SetTable}(h:rR l t){j:Nat}(e:t.slot j= .empty):j∉t.place.toList:=by
 apply QH h.Z3;intro z;unfold SetTable.slot at e;simp[z]at e
theorem rR.put{l:Bool}{t:SetTable}(h:rR l t){j:Nat}(hj:j∉t.place.toList):rR l (t.put j).1:=by
 unfold SetTable.put;refine⟨DV h.Z3 hj,?_,h.led⟩;simp[h.dum,SetTable.has]
theorem rR.lay{l:Bool}{t:SetTable}(h:rR l t)(es:Array (Int×Value))(x:Int)(v:Value):rR l (layNew t es x v).2.1:=by
 unfold layNew
 cases hf:t.freeSlot x with
 | none=>exact h.F1 _
 | some p=>
  obtain⟨j,b⟩:=p;have:=h.put (DQ h (JB h.dum hf));exact this.P9 _
theorem rR.Z4{l:Bool}{t:SetTable}(h:rR l t)(es:Array (Int×Value))(n:Nat):rR l (relayAll t es n).2.1:=by
 unfold relayAll
 cases hr:t.relaid (es.map (·.1)) n with
 | none=>exact h.F1 _
 | some p=>
  obtain⟨t',order⟩:=p;simp only;split
  ·unfold SetTable.relaid SetTable.laid at hr
   cases ho:layClean (sizeAbove n-1) (es.map (·.1)) with
   | none=>rw[ho]at hr;cases hr
   | some ow=>
    rw[ho]at hr;simp at hr;obtain⟨rfl,_⟩:=hr;refine⟨?_,rfl,h.led⟩;unfold FE;simp only[List.map_filterMap];have:(List.range (sizeAbove n-1+1)).Pairwise (· < ·):=List.pairwise_lt_range;rw[List.pairwise_filterMap];refine this.imp_of_mem λ{a b} _ _ hab x hx y hy=>?_;simp at hx hy;obtain⟨c,hc,rfl⟩:=hx;obtain⟨d,hd,rfl⟩:=hy;exact hab
  ·exact h.F1 _
theorem rA{α β:Type}(f:α->β):∀{l:List β} {m:List β},l.Perm m->∀t:List α,m=t.map f->∃t' :List α,t'.Perm t/\t'.map f=l:=by
 intro l m p
 induction p with
 | nil=>
  intro t e
  cases t with
  | nil=>exact⟨[],.refl _,rfl⟩
  | cons a t=>cases e
 | cons x p ih=>
  intro t e
  cases t with
  | nil=>cases e
  | cons a t=>
   simp at e;obtain⟨t',p1,q1⟩:=ih t e.2;exact⟨a::t',p1.cons a,by simp[e.1,q1]⟩
 | swap x y l=>
  intro t e
  cases t with
  | nil=>cases e
  | cons a t=>
   cases t with
   | nil=>simp at e
   | cons b t=>
    simp at e;exact⟨b::a::t,.swap a b t,by simp[e]⟩
 | trans p1 p2 ih1 ih2=>
  intro t e;obtain⟨t1,p1,q1⟩:=ih2 t e;obtain⟨t2,p2,q2⟩:=ih1 t1 q1.symm;exact⟨t2,p2.trans p1,q2⟩
section
variable {prog:Program}{w:World}{K:Type}[DecidableEq K](knd:KeyKind prog w K)
def Es(es:Array (Int×Value))(ks:List K):Prop:=
 ∃ps:List (K×(Int×Value)),ps.map (·.2)=es.toList/\(ps.map (·.1)).Perm ks/\∀p∈ps,knd.is p.1 p.2.2=true/\p.2.1=knd.hash p.1/\p.2.2.scannable=true
def gL(l:Bool)(h:Heap)(a:Addr)(ks:List K):Prop:=
 ∃o es ep t,h.get? a=some o/\o.ExactSet/\o.data= .set es ep t/\Es knd es ks/\ks.Nodup/\es.size<scanBound/\t.fits es.size=true/\rR l t
variable {knd}
theorem Es.perm{es es' :Array (Int×Value)}{ks:List K}(h:Es knd es ks)(p:es'.toList.Perm es.toList):Es knd es' ks:=by
 obtain⟨ps,h1,h2,h3⟩:=h;obtain⟨ps',p1,p2⟩:=rA (·.2) p ps h1.symm;exact⟨ps',p2,(p1.map _).trans h2,λp hp=>h3 p (p1.mem_iff.mp hp)⟩
theorem Es.size{es:Array (Int×Value)}{ks:List K}(h:Es knd es ks):es.size=ks.length:=by
 obtain⟨ps,h1,h2,h3⟩:=h;have a:=aG8 List.length h1;have b:=h2.length_eq;simp at a b
 lia
theorem Es.elems{es:Array (Int×Value)}{ks:List K}(h:Es knd es ks):ElemsOf knd es.toList:=by
 obtain⟨ps,h1,h2,h3⟩:=h;intro e he;rw[<-h1]at he;obtain⟨p,hp,rfl⟩:=aFi.mp he;obtain⟨a,b,c⟩:=h3 p hp;exact⟨⟨p.1,a,b⟩,c⟩
theorem Es.mem{es:Array (Int×Value)}{ks:List K}(h:Es knd es ks)(k:K):k∈ks↔∃e∈es.toList,knd.is k e.2=true:=by
 obtain⟨ps,h1,h2,h3⟩:=h;rw[<-h2.mem_iff,<-h1];constructor
 ·intro hk;obtain⟨p,hp,rfl⟩:=aFi.mp hk;exact⟨p.2,aFi.mpr ⟨p,hp,rfl⟩,(h3 p hp).1⟩
 ·rintro⟨e,he,hk⟩;obtain⟨p,hp,rfl⟩:=aFi.mp he;exact aFi.mpr ⟨p,hp,knd.inj _ _ _ (h3 p hp).1 hk⟩
theorem Es.push{es:Array (Int×Value)}{ks:List K}(h:Es knd es ks){k:K}{x:Value}(hk:knd.is k x=true)(hx:x.scannable=true):Es knd (es.push (knd.hash k,x)) (ks++[k]):=by
 obtain⟨ps,h1,h2,h3⟩:=h;refine⟨ps++[(k,(knd.hash k,x))],by simp[h1],by simpa using h2.append_right [k],λp hp=>?_⟩;rcases aFb.mp hp with hp | hp
 ·exact h3 p hp
 ·simp at hp;subst hp;exact⟨hk,rfl,hx⟩
theorem gL.typeIs{s:Shared}{l:Bool}{a:Addr}{ks:List K}(h:gL knd l s.heap a ks):s.TypeIs (.ref a) "set":=let ⟨o,_,_,_,ho,hx,_⟩:=h;⟨o,ho,hx.1⟩
theorem gL.keep{h h' :Heap}{l:Bool}{a:Addr}{ks:List K}(x:gL knd l h a ks)(k:∀o,h.get? a=some o->h'.get? a=some o):gL knd l h' a ks:=let ⟨o,es,ep,t,ho,r⟩:=x;⟨o,es,ep,t,k o ho,r⟩
theorem store{l:Bool}{h:Heap}{a:Addr}{o:Obj}{es:Array (Int×Value)}{ep:Nat}{t:SetTable}(ho:h.get? a=some o)(hex:o.ExactSet)(hd:o.data= .set es ep t)
  {es' :Array (Int×Value)} {t' :SetTable} {ks:List K} (he:Es knd es' ks) (nd:ks.Nodup) (hb:es'.size<scanBound) (hf:t'.fits es'.size=true) (ht:rR l t'):
  (h.update a (Obj.putSet es' t')).get? a=some {o with data:= .set es' (ep+1) t'}/\gL knd l (h.update a (Obj.putSet es' t')) a ks:=by
 have hg:(h.update a (Obj.putSet es' t')).get? a=some {o with data:= .set es' (ep+1) t'}:=by
  have:=aG5 (Obj.putSet es' t') ho (by rw[putSet_of es' t' hd];rfl);rw[putSet_of es' t' hd]at this;exact this
 exact⟨hg,_,es',ep+1,t',hg,hex,rfl,he,nd,hb,hf,ht⟩
variable {A:Around}{E:aHx}{s:Shared}
theorem G9{l:Bool}{g:Bool->Sem Unit}(hg:∀(b:Bool) (s₁:Shared) (Q' :Unit->Shared->Prop),Q' () s₁->wpAny (model prog w) A (g b) Q' E s₁)
  {a:Addr} {o:Obj} {es:Array (Int×Value)} {ep:Nat} {t:SetTable} (ho:s.heap.get? a=some o) (hex:o.ExactSet) (hd:o.data= .set es ep t)
  {es1:Array (Int×Value)} {t2:SetTable} {ks:List K} (he:Es knd es1 ks) (nd:ks.Nodup)
  (hb1:es1.size<scanBound) (hf2:t2.fits es1.size=true) (ht:rR l t2) {wasDummy:Bool} {R:Option Bool->Shared->Prop}
  (h:∀h',Heap.SameBut a s.heap h' ->gL knd l h' a ks->R (some true) {s with heap:=h'}):
  wpAny (model prog w) A (do
    storeSet a es1 t2
    if (!wasDummy && t2.tooFull)=true then do
      g (relayAll t2 es1 (SetTable.grown es1.size)).2.2
      storeSet a (relayAll t2 es1 (SetTable.grown es1.size)).1 (relayAll t2 es1 (SetTable.grown es1.size)).2.1
      pure (some true)
     else pure (some true)) R E s:=by
 refine aF3 (wpAny_storeSet_of ho hd ?_ (fits_of_scanBound hb1));obtain⟨ho1,hS1⟩:=store (knd:=knd) ho hex hd he nd hb1 hf2 ht;have hsb1:=aGa s.heap a (Obj.putSet es1 t2);split
 ·have hp:=relayAll_perm t2 es1 (SetTable.grown es1.size);have hfr:=relayAll_fits t2 es1 (SetTable.grown es1.size);have htr:=ht.Z4 es1 (SetTable.grown es1.size);generalize hRl:relayAll t2 es1 (SetTable.grown es1.size)=Rl at hp hfr htr⊢;obtain⟨es2,t3,gave2⟩:=Rl;dsimp only at hp hfr htr⊢;have he2:=he.perm hp;have hsz:es2.size=es1.size:=by rw[<-Array.length_toList,hp.length_eq,Array.length_toList]
  have hb2:es2.size<scanBound:=by rw[hsz];exact hb1
  refine aF3 (hg _ _ _ ?_);refine aF3 (wpAny_storeSet_of ho1 rfl ?_ (fits_of_scanBound hb2));obtain⟨_,hS2⟩:=store (knd:=knd) ho1 hex rfl he2 nd hb2 hfr htr;exact aF5 (h _ (hsb1.trans (aGa _ a _)) hS2)
 ·exact aF5 (h _ hsb1 hS1)
def mD(ks:List K)(k:K):List K:=if k∈ks then ks else ks++[k]
theorem JR{l:Bool}{a:Addr}{ks:List K}{k:K}{x:Value}{Q:Bool->Shared->Prop}(hkey:knd.is k x=true)(hsc:x.scannable=true)(hS:gL knd l s.heap a ks)
  (hroom:ks.length+1<scanBound) (h:∀(b:Bool) h',Heap.SameBut a s.heap h' ->gL knd l h' a (mD ks k)->Q b {s with heap:=h'}):
  wpAny (model prog w) A (setAddHashed a x (knd.hash k)) Q E s:=by
 obtain⟨o,es,ep,t,ho,hex,hd,he,nd,hb,hf,ht⟩:=hS;have hn:=he.size;have hel:=he.elems;have hmem:=he.mem;have hb1:es.size+1<scanBound:=by rw[hn];exact hroom
 unfold setAddHashed setAddHashedIn;refine aFx (aF3 (aH7 ho hd hf ?_));dsimp only;rw[byScan_of hsc hb hel];simp only[↓reduceIte];unfold setAddByScan;refine aF3 ?_;refine aF3 (aGc ?_);refine aF3 (wpAny_setScan_of hkey ho hd hf hel ?_)
 cases hr:List.findIdx? (λe=>knd.is k e.2) es.toList with
 | some j=>
  dsimp only;obtain⟨hj,hpj,_⟩:=List.findIdx?_eq_some_iff_getElem.mp hr;have hSk:k∈ks:=(hmem k).mpr ⟨es.toList[j],List.getElem_mem hj,hpj⟩;refine aF5 (aF5 ?_);have e:s={s with heap:=s.heap}:=by cases s;rfl
  have:=h false s.heap (Heap.SameBut.refl a s.heap) ⟨o,es,ep,t,ho,hex,hd,by unfold mD;rw[if_pos hSk];exact he,by unfold mD;rw[if_pos hSk];exact nd,hb,hf,ht⟩;rw[e];exact this
 | none=>
  dsimp only
  have hSk:k∉ks:=λhk=>by
   obtain⟨e,he,hp⟩:=(hmem k).mp hk;have:=List.findIdx?_eq_none_iff.mp hr e he;rw[hp]at this;exact Bool.noConfusion this
  have hgw:∀(b:Bool) {s₁:Shared} {Q' :Unit->Shared->Prop},Q' () s₁->wpAny (model prog w) A (match b with | true=>rule "set.scan.the-table-gave-way" | false=>pure ()) Q' E s₁:=
   λb s₁ Q' hq=>by cases b <;> first | exact aF5 hq | exact aGc hq
  have hperm:=layNew_perm t es (knd.hash k) x;have hfits:=layNew_fits t es (knd.hash k) x;have htok:=ht.lay es (knd.hash k) x;generalize hL:layNew t es (knd.hash k) x=L at hperm hfits htok⊢;obtain⟨es1,t1,wasDummy,gave⟩:=L;dsimp only at hperm hfits htok⊢;have he1:Es knd es1 (mD ks k):=by unfold mD;rw[if_neg hSk];exact(he.push hkey hsc).perm hperm
  have nd1:(mD ks k).Nodup:=by
   unfold mD;rw[if_neg hSk,List.nodup_append];exact⟨nd,by simp,λa ha b hb=>by simp at hb;subst hb;exact λz=>hSk (z▸ha)⟩
  have hb1' :es1.size<scanBound:=by rw[<-Array.length_toList,hperm.length_eq,Array.length_toList,Array.size_push];exact hb1
  refine aF3 (hgw _ ?_);split
  ·refine aF3 ?_;rw[hashByValue_scannable 8 hsc];refine aF5 ?_;refine G9 (l:=l) ?_ ho hex hd he1 nd1 hb1' ?_ ?_ ?_
   ·intro b s₁ Q' hq;cases b <;> first | exact aF5 hq | exact aGc hq
   ·split
    ·exact hfits
    ·exact SetTable.fits_plain_off hfits
   ·split
    ·exact htok
    ·exact htok.plain false
   ·intro h' hsb hS';dsimp only;exact aF5 (h _ h' hsb hS')
  ·refine aF3 (aF5 ?_);simp only[↓reduceIte];refine G9 (l:=l) ?_ ho hex hd he1 nd1 hb1' hfits htok ?_
   ·intro b s₁ Q' hq;cases b <;> first | exact aF5 hq | exact aGc hq
   ·intro h' hsb hS';dsimp only;exact aF5 (h _ h' hsb hS')
end
open PySem.Spec
def g9(w:World):Bool:= !(w.params.followText "set-order")
section
variable {prog:Program}{w:World}{K:Type}[DecidableEq K]{knd:KeyKind prog w K}{A:Around}{E:aHx}{s:Shared}
theorem EX{h:Heap}{a:Addr}(ho:h.get? a=some {cls:= .type "set",dict:=none,data:= .set #[] 0 (.fresh 0 0 (g9 w))}):gL knd (g9 w) h a []:=
 ⟨_,#[],0,_,ho,⟨rfl,rfl,rfl⟩,rfl,⟨[],rfl,by simp,λp hp=>by cases hp⟩,by simp,by decide,by rfl,.fresh 0 0 _⟩
def cG(ks:List K)(xs:List K):List K:=xs.foldl mD ks
theorem N1(ks:List K)(k:K):(mD ks k).length<=ks.length+1:=by unfold mD;split <;> simp
theorem nP:∀(xs ks:List K),(cG ks xs).length<=ks.length+xs.length
 | [],ks=>by simp[cG]
 | x::xs,ks=>by
  have h1:=nP xs (mD ks x);have h2:=N1 ks x;simp only[cG,List.foldl_cons,List.length_cons]at*
  lia
theorem L3{ks:List K}{k j:K}:j∈mD ks k↔j∈ks\/j=k:=by
 unfold mD;split
 ·rename_i h;exact⟨.inl,λz=>z.elim id λe=>e▸h⟩
 ·simp
theorem uG{j:K}:∀{xs ks:List K},j∈cG ks xs↔j∈ks\/j∈xs
 | [],ks=>by simp[cG]
 | x::xs,ks=>by
  have:=uG (j:=j) (xs:=xs) (ks:=mD ks x);simp only[cG,List.foldl_cons]at*;rw[this,L3];simp[or_assoc]
theorem L1(a:Value){Q₁:aHx}
  (h:Q₁ (.ref s.heap.objs.size) {s with heap:=s.heap.push {cls:= .type "set",dict:=none,data:= .set #[] 0 (.fresh 0 0 (g9 w))}}):
  codeAny (model prog w) A (.call (.builtin "set.__new__") ⟨[.type "set",a],[]⟩) (wants Q₁ E) s:=by
 refine codeAny_of_tree ?_;show wpAny _ A.in1 (do checkBuiltinCall "set.__new__" ⟨[.type "set",a],[]⟩;again (.builtin "set.__new__" ⟨[.type "set",a],[]⟩)) _ _ s;refine aF3 (aHk (F.newCall_set_1 a) (aF5 ⟨aGu F.plain_set_new _,aGe F.entry_set_new ?_⟩));rw[Around.under_plainId F.plain_set_new _];unfold Builtin.«set.__new__» Builtin.Frozenset.newClass;have hsub:=sub_set_self;obtain⟨hp,g,d,tk,os⟩:=s;dsimp only
 wp_walk
 refine wpAny_askSetting (aF5 ?_);dsimp only;simp only[newObj];refine aF3 (wpAny_alloc (aF5 ?_));exact aF5 h
end
section
variable {prog:Program}{w:World}{K:Type}[DecidableEq K]{knd:KeyKind prog w K}{A:Around}{R:Result->Shared->Prop}{I:Addr}{fp wr:List Addr}{G:Array GenState->Array GenState->Prop}{n:Nat}{P:Nat->Value->Prop}{St:Nat->Shared->Prop}
theorem AU{l:Bool}(W:WalksS prog w A.in1 I fp wr G n P St)(S:Addr)(hSf:S∉fp)
  (xs:List K) (hx:xs.length=n) (hval:∀i v,P i v->∃k,xs[i]? =some k/\knd.is k v=true/\v.scannable=true) (hb:n+1<scanBound):
  ∀(k i:Nat) (s:Shared),n-i=k->i<=n->St i s->gL knd l s.heap S (cG [] (xs.take i))->
   (∀s',Moved (S::wr) G s s' ->gL knd l s'.heap S (cG [] xs)->R (.ok (.ret .none)) s')->
   codeAny (model prog w) A (.builtin "set.update.loop" ⟨[.ref S,.ref I],[]⟩) R s:=by
 have hSw:S∉wr:=λh=>hSf (W.sub _ h);have hsub:∀b∈wr,b∈S::wr:=λb hb=>aF7 _ hb;intro k
 induction k with
 | zero=>
  intro i s hk hi hst hS hR;have hin:i=n:=by lia
  subst hin;refine aGe PyProof.Rows.F.entry_set_update_loop ?_;rw[Around.under_plainId PyProof.Rows.F.plain_set_update_loop _];show wpAny _ A.in1 (pyNext (.ref I) >>=_) _ _ s;refine aF3 (W.done s _ _ hst λs' hm=>?_);show wpAny _ A.in1 (ret Value.none) _ _ s';refine aF5 (hR s' (hm.mono hsub) ?_);rw[List.take_of_length_le (by lia)]at hS;exact hS.keep λo e=>hm.heap S _ hSw e
 | succ k ih=>
  intro i s hk hi hst hS hR;have hlt:i<n:=by lia
  refine aGe PyProof.Rows.F.entry_set_update_loop ?_;rw[Around.under_plainId PyProof.Rows.F.plain_set_update_loop _];show wpAny _ A.in1 (pyNext (.ref I) >>=_) _ _ s;refine aF3 (W.item i s _ _ hlt hst λv s' hP hst' hm=>?_);obtain⟨key,hkx,hkey,hsc⟩:=hval i v hP;have hS' :gL knd l s'.heap S (cG [] (xs.take i)):=hS.keep λo e=>hm.heap S _ hSw e;show wpAny _ A.in1 (holding [v] (setAdd S v) >>=_) _ _ s';refine aF3 (aFx ?_);unfold setAdd;refine aFx ?_;refine aF3 (knd.pyHash (k:=key) hkey ?_);have hroom:(cG [] (xs.take i)).length+1<scanBound:=by have:=nP (xs.take i) [];simp at this;lia
  refine JR (s:={s' with toks:=s'.toks+1}) hkey hsc hS' hroom λb h' hsb hS2=>?_
  have hSi:gL knd l h' S (cG [] (xs.take (i+1))):=by
   rw[List.take_add_one,hkx];simpa[cG] using hS2
  refine aF5 ⟨aGu PyProof.Rows.F.plain_set_update_loop _,ih (i+1) _ (by lia) hlt (W.frame _ s' _ _ hst' (Nat.le_succ _) λb hb o e=>?_) hSi λs'' hm'' hS'' =>?_⟩
  ·rw[hsb.2 b (λh:b=S=>hSf (by rw[<-h];exact hb))];exact e
  ·refine hR s'' (Moved.trans W.gtrans ((hm.mono hsub).then_heap (Nat.le_succ _) λb o hb e=>?_) hm'') hS'';rw[hsb.2 b (λh:b=S=>hb (by rw[h];exact List.mem_cons_self))];exact e
end
section
variable {prog:Program}{w:World}{K:Type}[DecidableEq K]{knd:KeyKind prog w K}{A:Around}{E:aHx}{s:Shared}
theorem set_list{l:Addr}{items:Array Value}{xs:List K}{Q:aHx}
  (hh:A.handled=none) (hl:s.heap.IsList l items) (hx:xs.length=items.size) (hi:∀(i:Nat) (v:Value),items[i]? =some v->∃k,xs[i]? =some k/\knd.is k v=true/\v.scannable=true) (hb:items.size+1<scanBound)
  (h:∀(h' :Heap) (tk:Nat),gL knd (g9 w) h' s.heap.objs.size (cG [] xs)->
   (∀b o,b<s.heap.objs.size->s.heap.get? b=some o->h'.get? b=some o)->Q (.ref s.heap.objs.size) {s with heap:=h',toks:=tk}):
  wpAny (model prog w) A (call (.type "set") [.ref l]) Q E s:=by
 obtain⟨c,tl,hmro⟩:=aHc.mro;have hmade:=aHc.made;have hsub:=aHc.sub;refine wpAny_call (codeAny_of_tree ?_);show wpAny _ _ (callAny (.type "set") _) _ _ _;refine aF5 ⟨Code.quiet_builtin _ (by decide+kernel),aGe F.entry_type_call ?_⟩;rw[Around.under_plain (weight_type_call_type "set" [.ref l] []) rfl];have h1:=aHc.notType;have h2:=aHc.canCreate;have hct:=F.typeCall_set_1 (.ref l)
 repeat (any_goals (first | assumption | wp_step))
 refine aHp (L1 (.ref l) (E:=E) (Q₁:=λobj s₁=>obj= .ref s.heap.objs.size/\s₁={s with heap:=s.heap.push {cls:= .type "set",dict:=none,data:= .set #[] 0 (.fresh 0 0 (g9 w))}}) ⟨rfl,rfl⟩) λr s₁ hr=>?_
 cases r with
 | error e=>exact hr
 | ok fl=>
  cases fl with
  | ret obj=>
   obtain⟨rfl,rfl⟩:=hr;generalize hled:g9 w=led at*;have hS:(s.heap.push {cls:= .type "set",dict:=none,data:= .set #[] 0 (.fresh 0 0 led)}).get? s.heap.objs.size=some {cls:= .type "set",dict:=none,data:= .set #[] 0 (.fresh 0 0 led)}:=aFa _ rfl
   have hT:Shared.TypeIs {s with heap:=s.heap.push {cls:= .type "set",dict:=none,data:= .set #[] 0 (.fresh 0 0 led)}} (.ref s.heap.objs.size) "set":=⟨_,hS,rfl⟩
   have hli:=aHc.init.lookup;have hbi:=aHc.init.bind (.ref s.heap.objs.size)
   repeat (any_goals (first | assumption | wp_step))
   refine aHp (codeAny_call_builtin (R:=wants (λr s₂=>r= .none/\∃h' tk,s₂={s with heap:=h',toks:=tk}/\
     gL knd led h' s.heap.objs.size (cG [] xs)/\
     (∀b o,b<s.heap.objs.size->s.heap.get? b=some o->h'.get? b=some o)) E) aHc.init.plain F.entry_set_init (check_set_init_1 hT ?_)) λr₂ s₂ hr₂=>?_
   ·obtain⟨ol,hol,hcl,nl,hdl⟩:=hl;obtain⟨ocls,odict,odata,oslots⟩:=ol;simp only at hcl hdl;subst hcl;subst hdl;have hol' :(s.heap.push {cls:= .type "set",dict:=none,data:= .set #[] 0 (.fresh 0 0 led)}).get? l=some {cls:= .type "list",dict:=odict,data:= .seq items nl,slots:=oslots}:=aF4 _ hol;have hsls:=F.sub_list_set;have hslf:=F.sub_list_frozenset;have hne:(Value.type "list"==Value.type "dict")=false:=by decide
    have hl1:(s.heap.push {cls:= .type "set",dict:=none,data:= .set #[] 0 (.fresh 0 0 led)}).IsList l items:=⟨_,hol',rfl,nl,rfl⟩
    unfold Builtin.«set.__init__» noKeywords Builtin.Frozenset.updateFrom;generalize hPI:pyIter=PI
    wp_walk
    subst hPI;refine wpAny_pyIter_list hl1 ?_;refine aF3 (wpAny_runValue ?_);have hlS:l<s.heap.objs.size:=aFc hol;have hh3:A.in1.in1.in1.handled=none:=by simp[hh]
    have hneI:l≠(s.heap.push {cls:= .type "set",dict:=none,data:= .set #[] 0 (.fresh 0 0 led)}).objs.size:=by
     rw[Heap.size_push];exact aFj (aFw hlS)
    have hSf:s.heap.objs.size∉[(s.heap.push {cls:= .type "set",dict:=none,data:= .set #[] 0 (.fresh 0 0 led)}).objs.size,l]:=by
     rw[Heap.size_push];simp only[List.mem_cons,List.mem_singleton,List.not_mem_nil,or_false,not_or];exact⟨aFj (aG7 _),aHo hlS⟩
    refine AU (knd:=knd) (l:=led) ((Walks.list hh3 _ l hneI items).toS) s.heap.objs.size
     hSf xs hx hi hb (items.size-0) 0 _ (by lia) (aGk _)
     ⟨⟨_,aFa _ rfl,rfl,rfl⟩,(hl1.push _)⟩ ?hS0 ?hR
    case hS0=>
     have hget:((s.heap.push {cls:= .type "set",dict:=none,data:= .set #[] 0 (.fresh 0 0 led)}).push {cls:= .type "list_iterator",data:= .fields #[.ref l,.int 0 0]}).get? s.heap.objs.size
       =some {cls:= .type "set",dict:=none,data:= .set #[] 0 (.fresh 0 0 led)}:=aF4 _ hS
     subst hled;exact EX hget
    case hR=>
     intro s' hm hS';obtain⟨h',g',d',tk',os'⟩:=s';have eg:g' =s.gens:=hm.gens;have ed:d' =s.drawn:=hm.drawn;have eo:os' =s.os:=hm.os;subst eg;subst ed;subst eo;show wpAny _ _ _ _ _ _;refine aF5 ?_;show wpAny _ _ (ret Value.none) _ _ _;refine aF5 ⟨rfl,h',tk',rfl,hS',λb o hb e=>?_⟩;have hb1:b≠s.heap.objs.size:=aFj hb
     have hb2:b≠(s.heap.push {cls:= .type "set",dict:=none,data:= .set #[] 0 (.fresh 0 0 led)}).objs.size:=by
      rw[Heap.size_push];exact aFj (aFw hb)
     exact hm.heap b o (by simp only[List.mem_cons,List.mem_singleton,List.not_mem_nil,or_false,not_or];exact⟨hb1,hb2⟩) (aF4 _ (aF4 _ e))
   ·cases r₂ with
    | error e=>exact hr₂
    | ok fl₂=>
     cases fl₂ with
     | ret r=>
      obtain⟨rfl,h',tk,rfl,hS',hk'⟩:=hr₂
      repeat (any_goals (first | assumption | wp_step))
      exact h _ _ hS' hk'
     | _=>exact hr₂.elim
  | _=>exact hr.elim
end
theorem slot_next:Slot "set_iterator" "__next__" "set_iterator.__next__":=
 .of (owner:= "set_iterator") (n:= "__next__") (by rw[typeLookup_type,builtinLookup_eq_fast];kernel_rfl) (by decide+kernel) (by decide+kernel) (by decide+kernel)
  (by first | exact .inl (by decide+kernel) | exact .inr (by decide+kernel)) (by rw[isSubtype_type];kernel_rfl)
theorem wI:Slot "set_iterator" "__iter__" "set_iterator.__iter__":=
 .of (owner:= "set_iterator") (n:= "__iter__") (by rw[typeLookup_type,builtinLookup_eq_fast];kernel_rfl) (by decide+kernel) (by decide+kernel) (by decide+kernel)
  (by first | exact .inl (by decide+kernel) | exact .inr (by decide+kernel)) (by rw[isSubtype_type];kernel_rfl)
theorem entry_next:entryFor table "set_iterator.__next__"=some Builtin.«set_iterator.__next__»:=entryFor_of_tree (by kernel_rfl)
theorem BG:Manifest.owners.lookup (String.ofList "rotareti_tes".toList.reverse)=some Manifest.sig_set_iterator:=by kernel_rfl
theorem args_next(a:Value):argsOk "set_iterator.__next__" ⟨[a],[]⟩:=by
 unfold argsOk;rw[signature?_of (id:= "set_iterator.__next__") (n:= "__txen__".toList) (o:= "rotareti_tes".toList) (by kernel_rfl) BG];kernel_rfl
theorem uW:entryFor table "set.__iter__"=some Builtin.«frozenset.__iter__»:=
 entryFor_alias (id' := "frozenset.__iter__") (by kernel_rfl) rfl (by decide+kernel) (by kernel_rfl)
def k7(first:Value)(i:Nat)(a:Addr)(n ep:Nat):Obj:={cls:= .type "set_iterator",dict:=none,data:= .fields #[first,.int i 0,.ref a,.int n 0,.int ep 0],slots:= #[]}
section
variable {prog:Program}{w:World}{A:Around}{E:aHx}{s:Shared}{it a:Addr}{first:Value}{i ep n:Nat}{o:Obj}{es:Array (Int×Value)}{t:SetTable}
theorem L0{slot nx:Nat}{x:Value}{Q:Option Value->Shared->Prop}(hit:s.heap.get? it=some (k7 (.int slot 0) i a es.size ep))(ho:s.heap.get? a=some o)(hd:o.data= .set es ep t)(hf:t.fits es.size=true)
  (hN:∀(A:Around) (E:aHx) (Q:Option (Value×Nat)->Shared->Prop),Q (some (x,nx)) s->wpAny (model prog w) A (setNext a slot i ep) Q E s)
  (q:∀h',h'.get? it=some (k7 (.int nx 0) (i+1) a es.size ep)->Heap.SameBut it s.heap h' ->Q (some x) {s with heap:=h'}):wpAny (model prog w) A (pyNext (.ref it)) Q E s:=by
 have ht:s.TypeIs (.ref it) "set_iterator":=⟨_,hit,rfl⟩
 unfold pyNext;refine aF3 (aGn (aFp (name:=Str.ofString "__next__") ht slot_next (aFm slot_next ht entry_next ?_ (args_next _))));unfold Builtin.«set_iterator.__next__»;refine aF3 (m:=slotArgs "__next__" 0 _) (aF5 ?_);refine aF3 (aHm hit rfl ?_);dsimp only;refine aF3 (aH9 ho hd hf ?_);rw[if_neg (show ¬(((es.size:Int) !=(es.size:Int))=true) by simp)];simp only[Int.toNat_natCast];refine aF3 (hN _ _ _ ?_);dsimp only;refine aF3 (aFy hit (by simp) λh1 g1 k1=>?_);refine aF3 (aFy g1 (by simp) λh2 g2 k2=>?_);refine aF5 ⟨x,rfl,aF5 (q h2 ?_ (k1.trans k2))⟩;rw[g2];simp[k7,rawInt]
theorem wG{B:Around}(hh:B.handled=none){Q:Option Value->Shared->Prop}(h:∀h',(∀b u,s.heap.get? b=some u->h'.get? b=some u)->Q none {s with heap:=h'}):
  wpAny (model prog w) B (do let e<-newExc (.type "StopIteration") [];raiseNew e) (λ(fin:Fin) s' =>∃v,fin=Fin.done (Flow.ret v)/\wpAny (model prog w) A (pure (some v)) Q E s')
   (λe s' =>wpAny (model prog w) A (do let b<-isInstance e (Value.type "StopIteration");if b=true then pure none else throw e) Q E s') s:=by
 refine aF3 ?_;simp only[newExc,newTuple];refine aF3 (aFt ?_ (by size_fits));refine aF3 (m:=firstArgMember _ _) (aHk (a:=Value.none) (by first | rfl | (simp only[firstArgMember];rfl)) ?_);refine aFt ?_ (by size_fits);simp only[raiseNew];refine aF3 (wpAny_handled ?_);rw[hh];refine aF3 (aF5 (wpAny_throw ?_));refine aF3 (aHr (T:= "StopIteration") (b:=true) ⟨_,aFa _ rfl,rfl⟩ isSubtype_stop ?_);exact aF5 (h _ λb u e=>aF4 _ (aF4 _ e))
theorem yN{slot:Nat}{Q:Option Value->Shared->Prop}(hh:A.handled=none)(hit:s.heap.get? it=some (k7 (.int slot 0) i a es.size ep))(ho:s.heap.get? a=some o)(hd:o.data= .set es ep t)(hf:t.fits es.size=true)
  (hN:∀(A:Around) (E:aHx) (Q:Option (Value×Nat)->Shared->Prop),Q none s->wpAny (model prog w) A (setNext a slot i ep) Q E s)
  (q:∀h',Heap.ExtBut it s.heap h' ->Q none {s with heap:=h'}):wpAny (model prog w) A (pyNext (.ref it)) Q E s:=by
 have ht:s.TypeIs (.ref it) "set_iterator":=⟨_,hit,rfl⟩
 unfold pyNext;refine aF3 (aGn (aFp (name:=Str.ofString "__next__") ht slot_next (aFm slot_next ht entry_next ?_ (args_next _))));unfold Builtin.«set_iterator.__next__»;refine aF3 (m:=slotArgs "__next__" 0 _) (aF5 ?_);refine aF3 (aHm hit rfl ?_);dsimp only;refine aF3 (aH9 ho hd hf ?_);rw[if_neg (show ¬(((es.size:Int) !=(es.size:Int))=true) by simp)];simp only[Int.toNat_natCast];refine aF3 (hN _ _ _ ?_);dsimp only;refine aF3 (aFy hit (by simp) λh1 g1 k1=>?_);exact wG (B:=A.in1) (s:={s with heap:=h1}) (show A.in1.handled=none from hh) λh' k=>q h' λb u hb e=>k b u ((k1.2 b hb).trans e)
theorem LZ{tp:Addr}{pl:Nat}{ns:List Nat}{x:Value}{Q:Option Value->Shared->Prop}(hit:s.heap.get? it=some (k7 (.ref tp) i a es.size ep))(ho:s.heap.get? a=some o)(hd:o.data= .set es ep t)(hf:t.fits es.size=true)
  (htp:s.heap.IsTuple tp (ns.map λ(k:Nat)=>rawInt k).toArray) (hns:ns[i]? =some pl) (hx:(es[pl]?).map (·.2)=some x)
  (q:∀h',h'.get? it=some (k7 (.ref tp) (i+1) a es.size ep)->Heap.SameBut it s.heap h' ->Q (some x) {s with heap:=h'}):wpAny (model prog w) A (pyNext (.ref it)) Q E s:=by
 have ht:s.TypeIs (.ref it) "set_iterator":=⟨_,hit,rfl⟩
 obtain⟨ot,hot,_,nt,hdt⟩:=htp;obtain⟨⟨hx1,x'⟩,hx2,hx3⟩:=aG0.mp hx;simp only at hx3;subst hx3;unfold pyNext;refine aF3 (aGn (aFp (name:=Str.ofString "__next__") ht slot_next (aFm slot_next ht entry_next ?_ (args_next _))));unfold Builtin.«set_iterator.__next__»;refine aF3 (m:=slotArgs "__next__" 0 _) (aF5 ?_);refine aF3 (aHm hit rfl ?_);dsimp only;refine aF3 (aH9 ho hd hf ?_);rw[if_neg (show ¬(((es.size:Int) !=(es.size:Int))=true) by simp)];refine aF3 (aG2 hot hdt ?_);dsimp only;have e1:(ns.map λ(k:Nat)=>rawInt k).toArray[(i:Int).toNat]? =some (Value.int pl 0):=by simp[hns,rawInt]
 rw[e1];dsimp only;simp only[Int.toNat_natCast];refine aF3 (m:=setNextDrawn a pl ep) ?_;unfold setNextDrawn;refine aF3 (aH7 ho hd hf ?_);dsimp only;rw[if_neg (by simp)];rw[hx2];dsimp only;refine aF5 ?_;refine aF3 (aFy hit (by simp) λh2 g2 k2=>?_);refine aF5 ⟨x',rfl,aF5 (q h2 ?_ k2)⟩;rw[g2];simp[k7,rawInt]
theorem yM{tp:Addr}{ns:List Nat}{Q:Option Value->Shared->Prop}(hh:A.handled=none)(hit:s.heap.get? it=some (k7 (.ref tp) i a es.size ep))(ho:s.heap.get? a=some o)(hd:o.data= .set es ep t)(hf:t.fits es.size=true)
  (htp:s.heap.IsTuple tp (ns.map λ(k:Nat)=>rawInt k).toArray) (hns:ns[i]? =none)
  (q:∀h',Heap.ExtBut it s.heap h' ->Q none {s with heap:=h'}):wpAny (model prog w) A (pyNext (.ref it)) Q E s:=by
 have ht:s.TypeIs (.ref it) "set_iterator":=⟨_,hit,rfl⟩
 obtain⟨ot,hot,_,nt,hdt⟩:=htp;unfold pyNext;refine aF3 (aGn (aFp (name:=Str.ofString "__next__") ht slot_next (aFm slot_next ht entry_next ?_ (args_next _))));unfold Builtin.«set_iterator.__next__»;refine aF3 (m:=slotArgs "__next__" 0 _) (aF5 ?_);refine aF3 (aHm hit rfl ?_);dsimp only;refine aF3 (aH9 ho hd hf ?_);rw[if_neg (show ¬(((es.size:Int) !=(es.size:Int))=true) by simp)];refine aF3 (aG2 hot hdt ?_);dsimp only;have e1:(ns.map λ(k:Nat)=>rawInt k).toArray[(i:Int).toNat]? =none:=by simpa using hns
 rw[e1];dsimp only;refine aF3 (aFy hit (by simp) λh1 g1 k1=>?_);refine aF3 (aFy g1 (by simp) λh2 g2 k2=>?_);exact wG (B:=A.in1) (s:={s with heap:=h2}) (show A.in1.handled=none from hh) λh' k=>q h' λb u hb e=>k b u (((k1.trans k2).2 b hb).trans e)
end
theorem nJ{α:Type}:∀{xs:List α} {i:Nat} (h:i<xs.length),(xs[i]::xs.eraseIdx i).Perm xs
 | x::xs,0,h=>.refl _
 | x::xs,i+1,h=>by
  simp only[List.getElem_cons_succ,List.eraseIdx_cons_succ];exact(List.Perm.swap x _ _).trans ((nJ (by simpa using h)).cons x)
section
variable {M:Model}{A:Around}{E:aHx}
theorem xF{α:Type}:∀(n:Nat) (xs:List α) (s:Shared) (Q:List α->Shared->Prop),xs.length<=n->(∀ys d,ys.Perm xs->Q ys {s with drawn:=d})->wpAny M A (drawOrder n xs) Q E s
 | 0,[],s,Q,_,h=>by unfold drawOrder;exact aF5 (h [] s.drawn (.refl _))
 | 0,x::xs,s,Q,hl,h=>by simp at hl
 | n+1,[],s,Q,_,h=>by unfold drawOrder;exact aF5 (h [] s.drawn (.refl _))
 | n+1,x::xs,s,Q,hl,h=>by
  unfold drawOrder;refine aF3 ?_;have hpos:0<(x::xs).length:=by simp
  refine(λΓ p hΓ=>⟨by simp,?_⟩:wpAny M A (choose .order (x::xs).length) _ E s);have hi:M.w.draws .order (s.drawn.get .order) % (x::xs).length<(x::xs).length:=Nat.mod_lt _ hpos;generalize M.w.draws .order (s.drawn.get .order) % (x::xs).length=i at hi;revert Γ p hΓ;show wpAny M A _ _ E _;refine aF5 ?_;rw[List.getElem?_eq_getElem hi];dsimp only;refine aF3 (xF n ((x::xs).eraseIdx i) _ _ (by rw[List.length_eraseIdx_of_lt hi];simp at hl⊢;lia) λys d hy=>aF5 (h _ d ?_));exact(hy.cons _).trans (nJ hi)
end
theorem wQ{α:Type}(next:Nat->Nat):∀(fuel k:Nat) (left:List α) (out:Array α),left.length<=fuel->(pickOrder.go next fuel k left out).toList.Perm (out.toList++left)
 | 0,k,left,out,h=>by
  have:left=[]:=aGl.mp (by lia);subst this;simp[pickOrder.go]
 | fuel+1,k,[],out,h=>by simp[pickOrder.go]
 | fuel+1,k,x::xs,out,h=>by
  unfold pickOrder.go
  have hi:next k % (x::xs).length<(x::xs).length:=Nat.mod_lt _ (by simp)
  rw[List.getElem?_eq_getElem hi];dsimp only
  generalize next k % (x::xs).length=i at hi
  have:=wQ next fuel (k+1) ((x::xs).eraseIdx i) (out.push (x::xs)[i]) (by rw[List.length_eraseIdx_of_lt hi];simp at h⊢;lia)
  refine this.trans ?_;simp only[Array.toList_push,List.append_assoc,List.singleton_append];exact(nJ hi).append_left _
theorem uB{α:Type}(next:Nat->Nat)(xs:Array α):(pickOrder next xs).toList.Perm xs.toList:=by
 unfold pickOrder
 have:=wQ next xs.size 0 xs.toList #[] (by simp)
 simpa using this
section
variable {prog:Program}{w:World}{A:Around}{E:aHx}{s:Shared}{a:Addr}{ep:Nat}{o:Obj}{es:Array (Int×Value)}{t:SetTable}
theorem l5{Q:Bool->Shared->Prop}(h:Q (w.params.followText "set-order") s):wpAny (model prog w) A setsByText Q E s:=by
 unfold setsByText;exact aF3 (wpAny_askSetting (aF5 h))
def tS(t:SetTable):Nat->Nat
 | 0=>0
 | i+1=>t.place.getD i 0+1
theorem E8{l:Bool}(ht:rR l t){i:Nat}(hi:i<=t.place.size):below t.place (tS t i)=i:=by
 cases i with
 | zero=>exact E7 ht.Z3
 | succ i=>
  have:t.place.getD i 0=t.place[i]'(by lia):=by simp[Array.getD,show i<t.place.size by lia]
  show below t.place (t.place.getD i 0+1)=i+1;rw[this];exact E9 ht.Z3 (by lia)
theorem JD(hf:t.fits es.size=true):t.place.size=es.size:=by
 simp only[SetTable.fits,Bool.and_eq_true,beq_iff_eq]at hf;exact hf.1
theorem D5{l:Bool}{i:Nat}{Q:Option (Value×Nat)->Shared->Prop}(ho:s.heap.get? a=some o)(hd:o.data= .set es ep t)(hf:t.fits es.size=true)(ht:rR l t)(hb:w.params.followText "set-order"=false)(hl:l=true)
  (hp:(!t.plain && decide (es.size > 1))=false) (hi:i<=es.size) (q:Q ((es[i]?).map λe=>(e.2,tS t (i+1))) s):wpAny (model prog w) A (setNext a (tS t i) i ep) Q E s:=by
 have hs:=JD hf;unfold setNext;refine aF3 (aH7 ho hd hf ?_);dsimp only;refine aF3 (l5 ?_);rw[hb,if_neg Bool.false_ne_true];have e1:(if (!t.plain && decide (es.size > 1))=true then (unsupported "set_iterator.__next__:the-table-is-plain-no-more":Sem Unit) else pure ())=pure ():=by rw[hp];rfl
 show wpAny _ _ (if (!t.plain && decide (es.size > 1))=true then _ else _) Q E s;rw[hp,if_neg Bool.false_ne_true];have hled:t.led=true:=by rw[ht.led,hl]
 refine aF3 ?_;show wpAny _ _ (if (!t.led && !es.isEmpty)=true then _ else _) _ E s;rw[hled];simp only[Bool.not_true,Bool.false_and,Bool.false_eq_true,if_false];refine aF5 ?_;rw[E8 ht (by lia)];by_cases h:i<es.size
 ·have e2:es[i]? =some es[i]:=by simp[h]
  have e3:t.place[i]? =some (t.place[i]'(by lia)):=by simp[show i<t.place.size by lia]
  rw[e2]at q⊢;rw[e3];have e4:t.place.getD i 0=t.place[i]'(by lia):=by simp[Array.getD,show i<t.place.size by lia]
  simp only[tS,e4,Option.map_some]at q;exact aF5 q
 ·have e2:es[i]? =none:=by simp;lia
  rw[e2]at q⊢;exact aF5 q
theorem IG{i:Nat}{Q:Option (Value×Nat)->Shared->Prop}(ho:s.heap.get? a=some o)(hd:o.data= .set es ep t)(hf:t.fits es.size=true)(hb:w.params.followText "set-order"=true)
  (q:Q (((pickOrder (w.params.setOrder a ep) es)[i]?).map λe=>(e.2,0)) s):wpAny (model prog w) A (setNext a 0 i ep) Q E s:=by
 unfold setNext;refine aF3 (aH7 ho hd hf ?_);dsimp only;refine aF3 (l5 ?_);rw[hb,if_pos rfl];rw[if_neg (by simp)];refine aF3 ?_;unfold setWalk;refine aF3 (aH7 ho hd hf ?_);dsimp only;refine aF3 (l5 ?_);rw[hb,if_pos rfl];refine aF3 (wpAny_askSetting ?_);exact aF5 (aF5 q)
end
theorem vQ:entryFor table "set_iterator.__iter__"=some Builtin.«dict_keyiterator.__iter__»:=
 entryFor_alias (id' := "dict_keyiterator.__iter__") (by kernel_rfl) rfl (by decide+kernel) (by kernel_rfl)
theorem zV(a:Value):argsOk "set_iterator.__iter__" ⟨[a],[]⟩:=by
 unfold argsOk;rw[signature?_of (id:= "set_iterator.__iter__") (n:= "__reti__".toList) (o:= "rotareti_tes".toList) (by kernel_rfl) BG];kernel_rfl
theorem wM{α:Type}:∀l:List α,(List.range l.length).filterMap (λk=>l[k]?)=l
 | []=>rfl
 | x::l=>by
  have:=wM l;rw[List.length_cons,List.range_succ_eq_map,List.filterMap_cons];simp only[List.getElem?_cons_zero,List.filterMap_map,Function.comp_def,List.getElem?_cons_succ];rw[this]
section
variable {prog:Program}{w:World}{A:Around}{E:aHx}{s:Shared}
theorem w6{it a:Addr}{first:Value}{i n ep:Nat}{Q:aHx}(hit:s.heap.get? it=some (k7 first i a n ep))(h:Q (.ref it) s):wpAny (model prog w) A (pyIter (.ref it)) Q E s:=by
 have ht:s.TypeIs (.ref it) "set_iterator":=⟨_,hit,rfl⟩
 refine aHj ht wI (aFm wI ht vQ ?_ (zV _));show wpAny _ _ (ret (.ref it)) _ _ s;exact aF5 ⟨_,rfl,"set_iterator",_,ht,slot_next.lookup,h⟩
theorem AK(hh:A.handled=none){it a:Addr}(hne:a≠it){o:Obj}{es:Array (Int×Value)}{ep:Nat}{t:SetTable}(hd:o.data= .set es ep t)(hf:t.fits es.size=true)(sl:Nat->Nat)(vs:List Value)(hlen:vs.length=es.size)
  (hN:∀(i:Nat),i<=es.size->∀(s:Shared),s.heap.get? a=some o->∀(A:Around) (E:aHx) (Q:Option (Value×Nat)->Shared->Prop),Q ((vs[i]?).map λv=>(v,sl (i+1))) s->wpAny (model prog w) A (setNext a (sl i) i ep) Q E s):
  Walks prog w A it [it,a] [it] vs.length (λi v=>vs[i]? =some v) (λi h=>i<=es.size/\h.get? it=some (k7 (.int (sl i) 0) i a es.size ep)/\h.get? a=some o) where
 sub:=λb hb=>by simp at hb;simp[hb]
 frame:=λ_ _ _ st hk=>⟨st.1,hk it (by simp) _ st.2.1,hk a (by simp) _ st.2.2⟩
 item:=λi s Q E hi st hQ=>by
  have e:vs[i]? =some vs[i]:=by simp[hi]
  refine L0 (x:=vs[i]) (nx:=sl (i+1)) st.2.1 st.2.2 hd hf (λA E Q q=>hN i st.1 s st.2.2 A E Q (by rw[e];exact q)) λh' g k=>?_;refine hQ _ h' s.toks e ⟨by lia,g,(k.2 a hne).trans st.2.2⟩ λb u hb e=>(k.2 b (by simpa using hb)).trans e
 done:=λs Q E st hQ=>by
  rw[hlen]at st;refine yN hh st.2.1 st.2.2 hd hf (λA E Q q=>hN es.size (aF9 _) s st.2.2 A E Q (by rw[List.getElem?_eq_none (by lia)];exact q)) λh' k=>?_;exact hQ h' s.toks λb u hb e=>k b u (by simpa using hb) e
 self:=λ_ _ _ _ st hQ=>w6 st.2.1 hQ
theorem J8(hh:A.handled=none){it a tp:Addr}(hne:a≠it)(hnt:tp≠it){o:Obj}{es:Array (Int×Value)}{ep:Nat}{t:SetTable}(hd:o.data= .set es ep t)(hf:t.fits es.size=true)(ns:List Nat)(vs:List Value)(hlen:ns.length=vs.length)
  (hx:∀(i pl:Nat),ns[i]? =some pl->(es[pl]?).map (·.2)=vs[i]?):
  Walks prog w A it [it,a,tp] [it] vs.length (λi v=>vs[i]? =some v) (λi h=>h.get? it=some (k7 (.ref tp) i a es.size ep)/\h.get? a=some o/\h.IsTuple tp (ns.map λ(k:Nat)=>rawInt k).toArray) where
 sub:=λb hb=>by simp at hb;simp[hb]
 frame:=λ_ _ _ st hk=>⟨hk it (by simp) _ st.1,hk a (by simp) _ st.2.1,st.2.2.at λo e=>hk tp (by simp) o e⟩
 item:=λi s Q E hi st hQ=>by
  have e:vs[i]? =some vs[i]:=by simp[hi]
  have hin:i<ns.length:=by lia
  have en:ns[i]? =some ns[i]:=by simp[hin]
  refine LZ (x:=vs[i]) st.1 st.2.1 hd hf st.2.2 en (by rw[hx i _ en,e]) λh' g k=>?_;refine hQ _ h' s.toks e ⟨g,(k.2 a hne).trans st.2.1,st.2.2.extBut k.extBut hnt⟩ λb u hb e=>(k.2 b (by simpa using hb)).trans e
 done:=λs Q E st hQ=>by
  refine yM hh st.1 st.2.1 hd hf st.2.2 (by rw[List.getElem?_eq_none (by lia)]) λh' k=>?_;exact hQ h' s.toks λb u hb e=>k b u (by simpa using hb) e
 self:=λ_ _ _ _ st hQ=>w6 st.1 hQ
end
section
variable {prog:Program}{w:World}{K:Type}[DecidableEq K]{knd:KeyKind prog w K}{A:Around}{E:aHx}{s:Shared}
def YT(knd:KeyKind prog w K)(ks:List K)(vs:List Value):Prop:=∃ps:List (K×Value),ps.map (·.2)=vs/\(ps.map (·.1)).Perm ks/\∀p∈ps,knd.is p.1 p.2=true
theorem Es.YL{es:Array (Int×Value)}{ks:List K}(h:Es knd es ks){l:List (Int×Value)}(p:l.Perm es.toList):YT knd ks (l.map (·.2)):=by
 obtain⟨ps,h1,h2,h3⟩:=h;obtain⟨ps',p1,p2⟩:=rA (·.2) p ps h1.symm;refine⟨ps'.map λp=>(p.1,p.2.2),by rw[<-p2];simp,?_,λp hp=>?_⟩
 ·have:=(p1.map (·.1)).trans h2;simpa[Function.comp_def] using this
 ·obtain⟨q,hq,rfl⟩:=aFi.mp hp;exact(h3 q (p1.mem_iff.mp hq)).1
structure ItS(prog:Program)(w:World)(knd:KeyKind prog w K)(ks:List K)(a:Addr)(s s2:Shared)(I:Addr):Prop where
 kept:∀b u,s.heap.get? b=some u->s2.heap.get? b=some u
 new:s.heap.objs.size<=I
 same:s2.gens=s.gens/\s2.os=s.os/\s2.toks=s.toks
 walk:∃(fp:List Addr) (St:Nat->Heap->Prop) (vs:List Value),(∀A:Around,A.handled=none->Walks prog w A I fp [I] vs.length (λi v=>vs[i]? =some v) St)/\St 0 s2.heap/\(∀b∈fp,(b=a\/s.heap.objs.size<=b)/\b<s2.heap.objs.size)/\YT knd ks vs
theorem MT{a:Addr}{ks:List K}{Q:aHx}(hS:gL knd (g9 w) s.heap a ks)(h:∀I s2,ItS prog w knd ks a s s2 I->Q (.ref I) s2):wpAny (model prog w) A (pyIter (.ref a)) Q E s:=by
 have hT:=hS.typeIs;obtain⟨o,es,ep,t,ho,hex,hd,he,nd,hb,hf,ht⟩:=hS;have hlt:=aFc ho;refine aHj hT F.slot_set_iter (aFm F.slot_set_iter hT uW ?_ (F.args_set_iter_1 _));unfold Builtin.«frozenset.__iter__»;refine aF3 (m:=Builtin.Frozenset.slot0 "__iter__" _) (aF5 ?_);refine aF3 ?_;unfold Builtin.Frozenset.sizeOf;refine aF3 (aH9 ho hd hf (aF5 ?_));refine aF3 ?_;unfold setDrawn;refine aF3 (aH7 ho hd hf ?_);dsimp only;refine aF3 (l5 (aF5 ?_));show wpAny _ _ (if (!w.params.followText "set-order" && (!t.plain && decide (es.size > 1)))=true then _ else _) _ _ s;have hn:=he.size;by_cases hdr:(!w.params.followText "set-order" && (!t.plain && decide (es.size > 1)))=true
 ·rw[if_pos hdr];refine aF3 (xF es.size (List.range es.size) s _ (by simp) λns d hp=>?_)
  have hsz:(ns.map λ(i:Nat)=>rawInt i).length<=sizeLine:=by
   have:=hp.length_eq;have:=fits_of_scanBound hb;simp at*;lia
  refine aF3 (aHl ?_ hsz);dsimp only;refine aF3 (m:=setEpoch a) (wpAny_setEpoch_of (o:=o) (aF4 _ ho) hd hf ?_);refine aF3 (m:=newFields "set_iterator" _) (aFt ?_ (by size_fits));refine aF5 ⟨_,rfl,"set_iterator",_,⟨_,aFa _ rfl,rfl⟩,slot_next.lookup,?_⟩;refine h _ _ ⟨λb u e=>aF4 _ (aF4 _ e),by simp[Heap.size_push],⟨rfl,rfl,rfl⟩,?_⟩;have hvs:∀k∈ns,k<es.size:=λk hk=>by simpa using hp.mem_iff.mp hk
  have pe:(ns.filterMap λk=>es[k]?).Perm es.toList:=by
   have h1:=hp.filterMap λk=>es[k]?;have h2:(List.range es.size).filterMap (λk=>es[k]?)=es.toList:=by simpa using wM es.toList
   rw[h2]at h1;exact h1
  have elen:(ns.filterMap λk=>es[k]?).length=ns.length:=by
   have:=pe.length_eq;have:=hp.length_eq;simp at*;lia
  have eget:∀(ns:List Nat),(∀k∈ns,k<es.size)->∀(i pl:Nat),ns[i]? =some pl->es[pl]? =(ns.filterMap λk=>es[k]?)[i]? :=by
   intro ns
   induction ns with
   | nil=>intro _ i pl hi;simp at hi
   | cons k ns ih=>
    intro hv i pl hi;have hk:=hv k (by simp)
    cases i with
    | zero=>simp at hi;subst hi;simp[hk]
    | succ i=>
     simp at hi;rw[ih (λj hj=>hv j (by simp[hj])) i pl hi];simp[hk]
  refine⟨_,_,(ns.filterMap λk=>es[k]?).map (·.2),λA hh=>J8 (tp:=s.heap.objs.size) hh ?_ ?_ hd hf ns _ (by simp[elen]) λi pl hi=>by rw[eget ns hvs i pl hi,List.getElem?_map],⟨aFa _ rfl,aF4 _ (aF4 _ ho),?_⟩,?_,he.YL pe⟩
  ·rw[Heap.size_push];exact aFj (aFw hlt)
  ·rw[Heap.size_push];exact aFj (aG7 _)
  ·exact⟨_,aF4 _ (aFa _ rfl),rfl,_,rfl⟩
  ·intro b hb;simp only[List.mem_cons,List.not_mem_nil,or_false]at hb;simp only[Heap.size_push];rcases hb with rfl | rfl | rfl
   ·exact⟨.inr (by simp only[Heap.size_push];exact Nat.le_succ _),by simp only[Heap.size_push];exact aG7 _⟩
   ·exact⟨.inl rfl,aFw (aFw hlt)⟩
   ·exact⟨.inr (aF9 _),aFw (aG7 _)⟩
 ·rw[if_neg hdr];refine aF3 (aF5 ?_);refine aF3 (m:=setEpoch a) (wpAny_setEpoch_of ho hd hf ?_);refine aF3 (m:=newFields "set_iterator" _) (aFt ?_ (by size_fits));refine aF5 ⟨_,rfl,"set_iterator",_,⟨_,aFa _ rfl,rfl⟩,slot_next.lookup,?_⟩;refine h _ _ ⟨λb u e=>aF4 _ e,aF9 _,⟨rfl,rfl,rfl⟩,?_⟩;have hne:a≠s.heap.objs.size:=aFj hlt
  cases hbt:w.params.followText "set-order" with
  | true=>
   have pe:=uB (w.params.setOrder a ep) es;refine⟨_,_,(pickOrder (w.params.setOrder a ep) es).toList.map (·.2),λA hh=>AK hh hne hd hf (λ_=>0) _ (by have:=pe.length_eq;simp at*;lia) λi hi s' hs A E Q q=>IG hs hd hf hbt (by simpa[Function.comp_def] using q),⟨by lia,aFa _ rfl,aF4 _ ho⟩,?_,he.YL pe⟩;intro b hb;simp only[List.mem_cons,List.not_mem_nil,or_false]at hb;simp only[Heap.size_push];rcases hb with rfl | rfl
   ·exact⟨.inr (aF9 _),aG7 _⟩
   ·exact⟨.inl rfl,aFw hlt⟩
  | false=>
   have hp:(!t.plain && decide (es.size > 1))=false:=by
    rw[hbt]at hdr;simpa using hdr
   refine⟨_,_,es.toList.map (·.2),λA hh=>AK hh hne hd hf (tS t) _ (by simp) λi hi s' hs A E Q q=>D5 hs hd hf ht hbt (by simp[g9,hbt]) hp hi (by simpa[Function.comp_def] using q),⟨by lia,aFa _ rfl,aF4 _ ho⟩,?_,he.YL (.refl _)⟩;intro b hb;simp only[List.mem_cons,List.not_mem_nil,or_false]at hb;simp only[Heap.size_push];rcases hb with rfl | rfl
   ·exact⟨.inr (aF9 _),aG7 _⟩
   ·exact⟨.inl rfl,aFw hlt⟩
end
open PySem.Calls
section
variable {prog:Program}{w:World}{K:Type}[DecidableEq K]{knd:KeyKind prog w K}{A:Around}{E:aHx}{s:Shared}{a:Addr}{ks:List K}
theorem M3{Q:Bool->Shared->Prop}(hT:s.TypeIs (.ref a) "set")(h:Q false s):wpAny (model prog w) A (Builtin.List.listLengthHint (.ref a)) Q E s:=by
 unfold Builtin.List.listLengthHint;refine aF3 (wpAny_specialOf hT PySem.F.slot_set_len.lookup ?_);generalize hid:("set.__len__":String)=id0
 wp_delta
 rw[show splitId id0=some ("set","__len__") from by subst hid;decide+kernel];subst hid;refine aF3 (aHr (T:= "set") (b:=true) hT (by rw[isSubtype_type];kernel_rfl) ?_);refine wpAny_ite_split (λhab=>absurd hab (by decide)) (λ_=>?_);refine wpAny_ite_split (λ_=>?_) (λhab=>absurd (by decide+kernel) hab);refine aF3 (aGy hT ?_);exact aF5 h
theorem MU{vs:List Value}{acc:Array Value}(h:ItemsOf (λi v=>vs[i]? =some v) acc vs.length):acc=vs.toArray:=by
 apply Array.ext_getElem?;intro i;by_cases hi:i<vs.length
 ·have Q9:i<acc.size:=by rw[h.1];exact hi
  have:=h.2 i acc[i] (by simp[Q9]);simp[Q9,this]
 ·simp[hi,h.1]
theorem DT{R:Result->Shared->Prop}(hS:gL knd (g9 w) s.heap a ks)(hh:A.handled=none)(S:Addr)(hSa:S≠a)(res:Value)(c₀:Nat)(hSl:s.heap.get? S=some {cls:= .type "list",data:= .seq #[] c₀})
  (hR:∀(s' :Shared) (vs:List Value) (c' :Nat),YT knd ks vs->s'.gens=s.gens->s'.os=s.os->(∀b o,b≠S->s.heap.get? b=some o->s'.heap.get? b=some o)->s'.heap.get? S=some {cls:= .type "list",dict:=none,data:= .seq vs.toArray c',slots:= #[]}->R (.ok (.ret res)) s')
  (hn:ks.length<=sizeLine):
  wpAny (model prog w) A.in1 (Builtin.List.listExtendWith (.ref S) (.ref a) res)
   (λfin s' =>match fin with | .done f=>R (.ok f) s' | .again c' =>c'.quiet=true/\codeAny (model prog w) A c' R s') (λe s' =>R (.error e) s') s:=by
 have hSlt:=aFc hSl;unfold Builtin.List.listExtendWith;refine aF3 (aGy (T:= "set") hS.typeIs ?_);have h1:Builtin.List.listSameRef (.ref S) (.ref a)=false:=by simp[Builtin.List.listSameRef,hSa]
 have h2:(Value.type "set"==Value.type "list")=false:=by decide
 have h3:(Value.type "set"==Value.type "tuple")=false:=by decide
 simp only[h1,h2,h3,Bool.or_false,Bool.false_eq_true,if_false];refine aF3 (MT hS λI s2 it=>?_);obtain⟨fp,St,vs,W,st,hfp,YL⟩:=it.walk
 have hlen:vs.length=ks.length:=by
  obtain⟨ps,e1,e2,_⟩:=YL;have:=aG8 List.length e1;have:=e2.length_eq;simp at*;lia
 have hSf:S∉fp:=λhm=>by
  rcases(hfp S hm).1 with z | z
  ·exact hSa z
  ·exact absurd hSlt (Nat.not_lt.mpr z)
 have key:∀(h:Heap) (c₁ tk:Nat),St 0 h->(∀b o,b≠S->s.heap.get? b=some o->h.get? b=some o)->
   h.get? S=some {cls:= .type "list",data:= .seq #[] c₁}->codeAny (model prog w) A (.builtin "list.extend.loop" ⟨[.ref S,.ref I,res],[]⟩) R {s2 with heap:=h,toks:=tk}:=by
  intro h c₁ tk hst hk hS₁;refine codeAny_extend_loopS (W A.in1 hh).toS (by lia) S hSf res vs.length 0 _ #[] c₁ rfl (aGk _) hst hS₁ (ItemsOf.nil _) λs' acc' c' hm hS' hacc=>?_;rw[MU hacc]at hS';refine hR s' vs c' YL (hm.gens.trans it.same.1) (hm.os.trans it.same.2.1) (λb o hb e=>hm.heap b o (λhmem=>?_) (hk b o hb e)) hS';rcases aFd.mp hmem with e' | hmem
  ·exact hb e'
  ·rw[List.mem_singleton.mp hmem]at e;exact absurd (aFc e) (Nat.not_lt.mpr it.new)
 have hS₁:=it.kept _ _ hSl;have hSet2:gL knd (g9 w) s2.heap a ks:=hS.keep λo e=>it.kept _ _ e;refine aF3 (aFx (M3 hSet2.typeIs ?_));refine wpAny_ite_split (λ_=>?_) (λ_=>aF5 ⟨aGu PySem.F.plain_extend_loop _,key s2.heap c₀ s2.toks st (λb o _ e=>it.kept _ _ e) hS₁⟩);refine aF3 (aGc ?_);refine aF3 ?_;show wpAny _ _ (updateSeq S (·.push .none) >>=λ_=>updateSeq S (·.pop)) _ _ _;refine aF3 (aGg hS₁ rfl ?_);have hS₂:=aG5 (Obj.mapSeq (·.push Value.none)) hS₁ rfl;refine aGg (hz:=by seq_fits) hS₂ rfl ?_;have hS₃:=aG5 (Obj.mapSeq (·.pop)) hS₂ rfl;refine aF5 ⟨aGu PySem.F.plain_extend_loop _,key _ _ s2.toks ?_ (λb o hb e=>?_) hS₃⟩
 ·refine(W A.in1 hh).frame 0 _ _ st λb hb o e=>?_;have hbS:b≠S:=λh=>hSf (h▸hb);exact(aFz _ _ (aG6 hbS)).trans ((aFz _ _ (aG6 hbS)).trans e)
 ·exact(aFz _ _ (aG6 hb)).trans ((aFz _ _ (aG6 hb)).trans (it.kept _ _ e))
theorem A2{R:List Value->Shared->Prop}(hS:gL knd (g9 w) s.heap a ks)(hh:A.handled=none)(hn:ks.length<=sizeLine)
  (h:∀(s' :Shared) (vs:List Value),YT knd ks vs->s'.gens=s.gens->s'.os=s.os->(∀b o,s.heap.get? b=some o->s'.heap.get? b=some o)->R vs s'):
  wpAny (model prog w) A (collect (.ref a)) R E s:=by
 have hlt:a<s.heap.objs.size:=by obtain⟨o,_,_,_,ho,_⟩:=hS;exact aFc ho
 unfold collect;refine aF3 (wpAny_runValue (aGe PySem.F.entry_proto_collect ?_));rw[Around.under_plainId PySem.F.plain_proto_collect _];show wpAny _ A.in1 (newList [] >>=λl=>again (.builtin "list.__iadd__" ⟨[l,.ref a],[]⟩)) _ _ s;refine aF3 (aFt ?_);refine aF5 ⟨aGu PySem.F.plain_list_iadd _,aGe PySem.F.entry_list_iadd ?_⟩;rw[Around.under_plainId PySem.F.plain_list_iadd _];have hS₁:(s.heap.push {cls:= .type "list",data:= .seq ([]:List Value).toArray}).get? s.heap.objs.size=some {cls:= .type "list",data:= .seq #[]}:=aFa _ rfl;show wpAny _ A.in1 (Builtin.List.listExtendWith (.ref s.heap.objs.size) (.ref a) (.ref s.heap.objs.size)) _ _ _
 have key:=DT (A:=A) (s:={s with heap:=s.heap.push {cls:= .type "list",data:= .seq ([]:List Value).toArray}}) (knd:=knd) (ks:=ks)
  (R:=λ(q:Result) (s' :Shared)=>∃(vs:List Value) (c' :Nat),q= .ok (.ret (.ref s.heap.objs.size))/\YT knd ks vs/\s'.gens=s.gens/\s'.os=s.os/\
   (∀b o,s.heap.get? b=some o->s'.heap.get? b=some o)/\s'.heap.get? s.heap.objs.size=some {cls:= .type "list",dict:=none,data:= .seq vs.toArray c',slots:= #[]})
  (hS.keep λo e=>aF4 _ e) hh s.heap.objs.size (aHo hlt) (.ref s.heap.objs.size) 0 hS₁
  (λs' vs c' hv hg ho hk hS' =>⟨vs,c',rfl,hv,hg,ho,λb o e=>hk b o (aFj (aFc e)) (aF4 _ e),hS'⟩) hn
 refine aGs key (λfin s' x=>?_) λe s' x=>?_
 ·cases fin with
  | done f=>
   obtain⟨vs,c',e,hv,hg,ho,hk,hS'⟩:=x;cases e;show wpAny _ A (load s.heap.objs.size >>=_) _ _ _;refine aF3 (wpAny_load hS' ?_);exact aF5 (by simpa using h s' vs hv hg ho hk)
  | again c₁=>
   refine⟨x.1,aHp x.2 λq s₂ y=>?_⟩;obtain⟨vs,c',rfl,hv,hg,ho,hk,hS'⟩:=y;show wpAny _ A (load s.heap.objs.size >>=_) _ _ _;refine aF3 (wpAny_load hS' ?_);exact aF5 (by simpa using h s₂ vs hv hg ho hk)
 ·obtain⟨_,_,e',_⟩:=x;cases e'
end
end ST
namespace TS
open PySem PySem.Spec PyProof.Rows L2
section
variable {prog:Program}{w:World}{A:Around}{E:aHx}{s:Shared}{lt:Value×Value->Value×Value->Bool}
theorem KN(O:Wk lt){Q:aHx}{r:Addr}{Ok:List Value->Shared->Prop}
  (coll:∀(E:aHx) (R:List Value->Shared->Prop),(∀vs s',Ok vs s' ->R vs s')->wpAny (model prog w) A.in1 (collect (.ref r)) R E s)
  (h64:∀vs s',Ok vs s' ->vs.length<4000)
  (ck:∀vs s',Ok vs s' ->∃κ,2<=vs.length->∀h' :Heap,(∀b o,s'.heap.get? b=some o->h'.get? b=some o)->
   l6 prog w A.in1.in1 {s' with heap:=h'} κ lt (pairsOf vs)/\∀Q' E',Q' κ {s' with heap:=h'}->wpAny (model prog w) A.in1.in1 (keyKind' vs.toArray) Q' E' {s' with heap:=h'})
  (h:∀vs s',Ok vs s' ->∀out:List Value,out.Perm vs->out.Pairwise (λx y=>lt (y,y) (x,x)=false)->∀(h2:Heap) (ep:Nat),(∀b o,s'.heap.get? b=some o->h2.get? b=some o)->
   h2.get? s'.heap.objs.size=some (seqObj "list" out.toArray ep)->Q (.ref s'.heap.objs.size) {s' with heap:=h2}):
  wpAny (model prog w) A (call (.builtin "sorted") [.ref r]) Q E s:=by
 have zl:sizeLine=16777216:=aFn;refine aH3 kind_sorted plain_sorted entry_sorted (args_sorted1 _) ?_;unfold Builtin.«sorted»;refine aF3 (m:=checkCount "sorted" 1 1 _) (aF5 ?_);refine aF3 (coll _ _ λvs s' ok=>?_);have hsz:=h64 vs s' ok;obtain⟨κ,ck⟩:=ck vs s' ok;refine aF3 (wpAny_newList ?_ (by lia));have ob:(s'.heap.push (seqObj "list" vs.toArray 0)).get? s'.heap.objs.size=some (seqObj "list" vs.toArray 0):=aFa _ rfl;refine aF3 (aFx (aFm slot_list_sort ⟨_,ob,rfl⟩ entry_list_sort (DP (κ:=κ) (s:={s' with heap:=s'.heap.push (seqObj "list" vs.toArray 0)}) O ob (by lia) (λh2 h' k=>?_) λout p1 p2=>⟨_,rfl,aF5 ⟨_,rfl,?_⟩⟩) (args_list_sort _)))
 ·obtain⟨c1,c2⟩:=ck h2 h' λb o e=>k b o (aFj (aFc e)) (aF4 _ e);exact⟨c1,λQ' q=>c2 Q' _ q⟩
 ·obtain⟨ep,he⟩:=sortedHeap_at (out:=out.toArray) ob;refine h vs s' ok out p1 p2 _ ep (λb o e=>?_) he;have lb:=aFc e;have hb:b<(s'.heap.push (seqObj "list" vs.toArray 0)).objs.size:=by rw[size_push'];exact aFw lb
  rw[sortedHeap_old (Nat.ne_of_lt lb) hb];exact aF4 _ e
end
end TS
namespace D3
open PySem PySem.Spec PyProof.Rows L2
def JT(P:Program)(w:World)(p:Addr)(ks:List Key):HO:= .ext λh=>ST.gL (aS P w) (ST.g9 w) h p ks
theorem O4{P:Program}{w:World}{H:Hp}{h:Heap}{p:Addr}{ks:List Key}(x:ST.gL (aS P w) (ST.g9 w) h p ks):bX P w H h p (JT P w p ks):=
 ⟨x,by obtain⟨o,_,_,_,ho,_⟩:=x;exact⟨o,ho⟩,λh1 h2 q k=>q.keep λo e=>k o e⟩
section
variable {X:Cx}
theorem Inv.drawn{pins:List (Addr×Obj)}{σ:L2.St}{H:Hp}{s s' :Shared}(I:Inv X pins σ H s)(hg:s'.gens=s.gens)(ho:s'.os=s.os)(hk:∀b o,s.heap.get? b=some o->s'.heap.get? b=some o):Inv X pins σ H s' :=by
 have J:Inv X pins σ H {s with heap:=s'.heap,toks:=s'.toks}:=I.kept (t' :=s'.toks) hk;obtain⟨a1,a2,a3,a4,a5,a6,a7,a8,a9,a10,a11⟩:=J;exact⟨a1,by rw[ho];exact a2,by rw[hg];exact a3,a4,a5,a6,a7,a8,a9,a10,a11⟩
theorem v8{P:Program}{w:World}:∀{ks:List Key} {us:List Value},Vals (ks.map kV) us->ks.length=us.length/\∀(i:Nat) (v:Value),us[i]? =some v->∃k,ks[i]? =some k/\(aS P w).is k v=true/\v.scannable=true
 | [],us,r=>by cases r;exact⟨rfl,λi v h=>by simp at h⟩
 | k::ks,us,r=>by
  cases r with
  | cons a b=>
   obtain⟨e,f⟩:=v8 (P:=P) (w:=w) b;refine⟨by simp[e],λi v h=>?_⟩
   cases i with
   | zero=>
    simp at h;subst h;refine⟨k,rfl,uM a,?_⟩
    cases k with
    | inl i=>obtain⟨t,rfl⟩:=a;rfl
    | inr x=>obtain⟨t,rfl⟩:=a;rfl
   | succ i=>exact f i v (by simpa using h)
theorem JM(hc:X.calm=true):bY X (.type "set") (λxs H Q=>∃(a:Addr) (ks:List Key),xs=[.ref a]/\nS X.K H a (ks.map kV)/\ks.length+1<scanBound/\∀p,H p=none->Q (.ref p) (upd H p (JT X.prog X.w p (ST.cG [] ks)))):=by
 intro pins s σ H xs us Q I r q;obtain⟨a,ks,rfl,sq,hb,q⟩:=q;obtain⟨u,rfl,ru⟩:=vals1 r;cases ru;obtain⟨aG,rv,pl,hz⟩:=I.list sq;obtain⟨e1,e2⟩:=v8 (P:=X.prog) (w:=X.w) rv;refine ST.set_list (knd:=aS X.prog X.w) (I.ok.hd hc) pl.isList (xs:=ks) (by simpa using e1) (λi v h=>e2 i v (by simpa using h)) (by simp;lia) λh' tk hS hk=>?_;exact⟨.ref s.heap.objs.size,_,I.laid (a:=s.heap.objs.size) (o:=JT X.prog X.w s.heap.objs.size (ST.cG [] ks)) (t' :=tk) (λb o e=>hk b o (aFc e) e) (aF9 _) (O4 hS),rfl,q _ (I.bG.fresh (aF9 _))⟩
theorem UE{pins:List (Addr×Obj)}{σ:L2.St}{H:Hp}{s:Shared}{p:Addr}{ks:List Key}(I:Inv X pins σ H s)(e:H p=some (JT X.prog X.w p ks)):ST.gL (aS X.prog X.w) (ST.g9 X.w) s.heap p ks:=(I.bG p _ e).1
theorem n5{P:Program}{w:World}{h:Heap}:∀{ps:List (Key×Value)},(∀p∈ps,(aS P w).is p.1 p.2=true)->dU h (ps.map λp=>bE p.1) (ps.map (·.2))
 | [],_=>by simp[dU]
 | p::ps,hp=>by
  simp only[List.map_cons];unfold dU;refine⟨_,_,rfl,?_,n5 λq hq=>hp q (aF7 _ hq)⟩;have:=hp p aF8
  rcases bP (k:=p.1) (v:=p.2) this with ⟨i,t,e1,e2⟩ | ⟨x,t,e1,e2⟩
  ·rw[e1,e2];simp only[bE];unfold Vl;exact⟨t,rfl⟩
  ·rw[e1,e2];simp only[bE];unfold Vl;exact⟨t,rfl⟩
theorem KH{ds es:List D}(U:JY ds)(p:es.Perm ds):JY es:=by
 rcases U with ⟨c,h⟩ | ⟨c,cs,h⟩
 ·exact .inl ⟨c,λd hd=>h d (p.mem_iff.mp hd)⟩
 ·exact .inr ⟨c,cs,λd hd=>h d (p.mem_iff.mp hd)⟩
theorem vB(hu:X.A.units+64<cLine)(hc:X.calm=true):bY X (.builtin "sorted") (λxs H Q=>∃(p:Addr) (ks:List Key),xs=[.ref p]/\H p=some (JT X.prog X.w p ks)/\ks.length<4000/\JY (ks.map bE)/\
  ∀ks' :List Key,ks'.Perm ks->(ks'.map bE).Pairwise (λd e=>lx (enc e) (enc d)=false)->∀q,H q=none->Q (.ref q) (upd H q (.lst (ks'.map kV)))):=by
 intro pins s σ H xs us Q I r q;obtain⟨p,ks,rfl,e,h64,U,q⟩:=q;obtain⟨u,rfl,ru⟩:=vals1 r;cases ru;have hS:=UE I e;have sz:=aFn;have u2:X.A.in1.in1.units+40<cLine:=by show X.A.units+1+1+40<_;lia
 refine TS.KN (A:=X.A) (EC s.heap) (Ok:=λvs s' =>ST.YT (aS X.prog X.w) ks vs/\s'.gens=s.gens/\s'.os=s.os/\∀b o,s.heap.get? b=some o->s'.heap.get? b=some o)
  (λE R hR=>ST.A2 (A:=X.A.in1) hS (I.ok.hd hc) (by lia) λs' vs hv hg ho hk=>hR vs s' ⟨hv,hg,ho,hk⟩) ?_ ?_ ?_
 ·rintro vs s' ⟨⟨ps,e1,e2,e3⟩,_⟩;have a1:=aG8 List.length e1;have a2:=e2.length_eq;simp at a1 a2
  lia
 ·rintro vs s' ⟨⟨ps,rfl,e2,e3⟩,hg,ho,hk⟩;have vl:dU s.heap (ps.map λp=>bE p.1) (ps.map (·.2)):=n5 e3;have U2:JY (ps.map λp=>bE p.1):=KH U (by have:=e2.map bE;simpa[Function.comp_def] using this);by_cases h2:2<=(ps.map (·.2)).length
  ·obtain⟨κ,hk2⟩:=tQ (prog:=X.prog) (w:=X.w) (A:=X.A.in1.in1) (s:={s' with heap:=s.heap}) u2 U2 vl h2;exact⟨κ,λ_ h' k=>hk2 h' λb o e=>k b o (hk b o e)⟩
  ·exact⟨general',λz=>absurd z h2⟩
 ·rintro vs s' ⟨⟨ps,rfl,e2,e3⟩,hg,ho,hk⟩ out p1 p2 h2 ep kept he;obtain⟨ps',p3,p4⟩:=kT (·.2) p1 ps rfl;have h4:∀p∈ps',(aS X.prog X.w).is p.1 p.2=true:=λp hp=>e3 p (p3.mem_iff.mp hp);have I0:Inv X pins σ H s' :=Inv.drawn I hg ho hk;have pk:(ps'.map (·.1)).Perm ks:=(p3.map _).trans e2
  have pw:((ps'.map (·.1)).map bE).Pairwise (λd e=>lx (enc e) (enc d)=false):=by
   rw[<-p4]at p2;rw[List.pairwise_map]at p2;rw[List.pairwise_map,List.pairwise_map];refine p2.imp_of_mem λ{t t'} m m' hh=>?_
   have v1:Vl s.heap (bE t.1) t.2:=by
    have:=n5 (h:=s.heap) (ps:=[t]) (P:=X.prog) (w:=X.w) λq hq=>by simp at hq;subst hq;exact h4 _ m
    simp only[List.map_cons,List.map_nil]at this;unfold dU at this;obtain⟨u,r,e,v,_⟩:=this;cases e;exact v
   have v2:Vl s.heap (bE t'.1) t'.2:=by
    have:=n5 (h:=s.heap) (ps:=[t']) (P:=X.prog) (w:=X.w) λq hq=>by simp at hq;subst hq;exact h4 _ m'
    simp only[List.map_cons,List.map_nil]at this;unfold dU at this;obtain⟨u,r,e,v,_⟩:=this;cases e;exact v
   unfold ltV at hh;rw[m3 v1,m3 v2]at hh;exact hh
  have ln:((ps'.map (·.1)).map kV).length<=sizeLine:=by have:=pk.length_eq;simp at*;lia
  have vv:Vals ((ps'.map (·.1)).map kV) out:=by
   rw[<-p4];clear p3 p4 pk pw ln
   induction ps' with
   | nil=>exact .nil
   | cons p ps' ih=>exact .cons (A7 (h4 p aF8)) (ih λq hq=>h4 q (aF7 _ hq))
  have I1:Inv X pins σ (upd H s'.heap.objs.size (.lst ((ps'.map (·.1)).map kV))) {s' with heap:=h2}:=
   I0.laid (h' :=h2) (t' :=s'.toks) kept (aF9 _) ⟨ln,out,ep,vv,he⟩
  exact⟨.ref s'.heap.objs.size,_,I1,rfl,q _ pk pw _ (I0.bG.fresh (aF9 _))⟩
end
def i3(w:WE):WE:=λρ mh Q=>w ρ mh λx mh1=>∃ks:List Key,jV mh1 x=some (ks.map bE)/\ks.length<4000/\JY (ks.map bE)/\
 ∀ks' :List Key,(∀k,k∈ks' ↔k∈ks)->ks'.Nodup->ks'.length<=ks.length->(ks'.map bE).Pairwise (λd e=>lx (enc e) (enc d)=false)->Q (.ref mh1.length) (mh1++[.lst (ks'.map bE)])
@[simp] theorem SV (w:WE)(ρ:eK)(mh:MH)(Q:DK):i3 w ρ mh Q↔w ρ mh λx mh1=>∃ks:List Key,jV mh1 x=some (ks.map bE)/\ks.length<4000/\JY (ks.map bE)/\
 ∀ks' :List Key,(∀k,k∈ks' ↔k∈ks)->ks'.Nodup->ks'.length<=ks.length->(ks'.map bE).Pairwise (λd e=>lx (enc e) (enc d)=false)->Q (.ref mh1.length) (mh1++[.lst (ks'.map bE)]):=Iff.rfl
theorem D4{ks:List Key}(h:ks.Nodup)(k:Key):(ST.mD ks k).Nodup:=by
 unfold ST.mD;split
 ·exact h
 ·rename_i hk;rw[List.nodup_append];exact⟨h,by simp,λa ha b hb=>by simp at hb;subst hb;exact λz=>hk (z▸ha)⟩
theorem oW:∀{xs ks:List Key},ks.Nodup->(ST.cG ks xs).Nodup
 | [],ks,h=>h
 | x::xs,ks,h=>oW (xs:=xs) (D4 h x)
section
variable {X:Cx}{e:Expr}{w:WE}{p1 p2 p3 pos:Pos}
theorem PY{te:TE}(hc:X.calm=true)(hm:X.mg "set"=none)(he:PE X e te)(hg:Gl X "set":=by rfl)
  (hs:starEach [e] X.env=(false,eval e X.env)::starEach [] X.env:=by rfl):PE X (.Call (.Name "set" p2) [e] [] p3) (tCB (λxs H Q=>∃(a:Addr) (ks:List Key),xs=[.ref a]/\nS X.K H a (ks.map kV)/\ks.length+1<scanBound/\∀p,H p=none->Q (.ref p) (upd H p (JT X.prog X.w p (ST.cG [] ks)))) (SU te ZI)):=
 wU (JM hc) hg hm X7 (yH he D1 hs) (by decide) (by decide) hs rfl
theorem yV(hu:X.A.units+64<cLine)(hc:X.calm=true)(hm:X.mg "set"=none)(hms:X.mg "sorted"=none)(he:LE X e w)(hg:Gl X "set":=by rfl)(hgs:Gl X "sorted":=by rfl)
  (hs:starEach [e] X.env=(false,eval e X.env)::starEach [] X.env:=by rfl)
  (hs2:starEach [.Call (.Name "set" p2) [e] [] p3] X.env=(false,eval (.Call (.Name "set" p2) [e] [] p3) X.env)::starEach [] X.env:=by rfl):
  LE X (.Call (.Name "sorted" p1) [.Call (.Name "set" p2) [e] [] p3] [] pos) (i3 w):=
 PE.imp (BF (vB hu hc) hgs hms qO (yH (PY hc hm he hg hs) D1 hs2) (by decide) (by decide) hs2 rfl) λσ H Q h=>by
  obtain⟨μ,ρ,mh,R,RR,E,h,F⟩:=h;refine⟨μ,ρ,mh,_,RR,E,h,λdx mh1 h1 μ1 vx H1 P1 R1 I1=>?_⟩;obtain⟨ks,hl,h64,U,q⟩:=h1;obtain⟨a,vs,rfl,sq,l⟩:=nF R1 I1 hl;cases iR l;have hlen:=ST.nP ks ([]:List Key);simp at hlen;have hmem:∀k,k∈ST.cG [] ks↔k∈ks:=λk=>by rw[ST.uG];simp
  refine⟨a,ks,rfl,sq,by unfold scanBound;lia,λp hp=>?_⟩;show ∃p' ks',[V.ref p]=[.ref p']/\_;refine⟨p,ST.cG [] ks,rfl,bK,by lia,?_,λks' pk pw=>?_⟩
  ·rcases U with ⟨c,hc⟩ | ⟨c,cs,hc⟩
   ·exact .inl ⟨c,λd hd=>by obtain⟨k,hk,rfl⟩:=aFi.mp hd;exact hc _ (aFi.mpr ⟨k,(hmem k).mp hk,rfl⟩)⟩
   ·exact .inr ⟨c,cs,λd hd=>by obtain⟨k,hk,rfl⟩:=aFi.mp hd;exact hc _ (aFi.mpr ⟨k,(hmem k).mp hk,rfl⟩)⟩
  ·exact hC (R1.new hp) (F.at (P1.trans (aK.new R1 hp))) (sL ks') (q ks' (λk=>by rw[pk.mem_iff,hmem]) (pk.symm.nodup (oW (by simp))) (by have:=pk.length_eq;lia) pw)
end
def VL:Expr->Bool
 | .Starred .. =>false
 | _=>true
def IF:List Expr->Bool
 | []=>true
 | e::es=>VL e && IF es
theorem tM{e:Expr}{es:List Expr}{env:Env}(h:VL e=true):starEach (e::es) env=(false,eval e env)::starEach es env:=by
 cases e <;> first | rfl | (simp[VL]at h)
theorem oA{pos:Pos}{env:Env}:∀{es:List Expr},IF es=true->(backTo pos (starEach es env)).any (·.1)=false
 | [],_=>rfl
 | e::es,h=>by
  unfold IF at h;rw[Bool.and_eq_true]at h;rw[tM h.1];show (false || (backTo pos (starEach es env)).any (·.1))=false;rw[oA h.2];rfl
section
variable {X:Cx}{e:Expr}{es:List Expr}{w:WE}{wr wa:WA}{pos p:Pos}{x:Str}
theorem aEg(ha:LE X e w)(hr:LA X es wr)(h:VL e=true:=by rfl):LA X (e::es) (aA w wr):=Q5 ha hr (tM h)
theorem aAy{k:Nat}{ps:List Str}{s:OA}(F:Fn X.prog X.w X.K X.mg X.base k x ps s)(hr:fN k X.A)(ha:LA X (e::es) wr)(hg:Gl X x:=by rfl)(hdb:(x==("__debug__":Str))=false:=by decide)
  (h:VL e=true:=by rfl) (h2:IF es=true:=by rfl):LE X (.Call (.Name x p) (e::es) [] pos) (aE s wr):=MJ F hr ha hg hdb (tM h) (oA h2)
theorem rY{id:String}{f:OA}(hc:bY X (.builtin id) (c7 X.K f))(hm:X.mg x=none)(hv:bootBuiltins x=some (.builtin id))(ha:LA X (e::es) wr)(hg:Gl X x:=by rfl)(hn:x≠ "__name__":=by decide)(hdb:(x==("__debug__":Str))=false:=by decide)
  (h:VL e=true:=by rfl) (h2:IF es=true:=by rfl):LE X (.Call (.Name x p) (e::es) [] pos) (aE f wr):=aAz hc hm hv ha hg hn hdb (tM h) (oA h2)
theorem aEf{T:String}{f:OA}(hc:bY X (.type T) (c7 X.K f))(hm:X.mg x=none)(hv:bootBuiltins x=some (.type T))(ha:LA X (e::es) wr)(hg:Gl X x:=by rfl)(hn:x≠ "__name__":=by decide)(hdb:(x==("__debug__":Str))=false:=by decide)
  (h:VL e=true:=by rfl) (h2:IF es=true:=by rfl):LE X (.Call (.Name x p) (e::es) [] pos) (aE f wr):=aAx hc hm hv ha hg hn hdb (tM h) (oA h2)
end
def GH:Expr->Bool
 | .ListComp .. =>false
 | .SetComp .. =>false
 | .DictComp .. =>false
 | _=>true
theorem AZ{e:Expr}{t:Option Expr}{l:Nat}{env:Env}(h:GH e=true):swapsWith e t l env=pure false:=by
 cases e <;> first | rfl | (simp[GH]at h)
section
variable {X:Cx}{e:Expr}{w:WE}{pos:Pos}
theorem aE9(i:Nat){x:Str}{pos' :Pos}(hN:X.N.Nodup)(he:LE X e w)(hi:X.N[i]? =some x:=by rfl)(hx:Loc X.env.scope x:=by first | exact Or.inl rfl | exact Or.inr rfl)(hs:GH e=true:=by rfl)(hf:X.fn x=true\/X.env.scope.names.lookup x=some .local:=by first | exact .inl rfl | exact .inr rfl | assumption):
  LS X (.Assign [.Name x pos'] e pos) (bT w (gN i)):=VV i hN he hi hx (AZ hs) hf
theorem aEa(he:LE X e w)(hs:GH e=true:=by rfl):LS X (.Expr e pos) (qU w):=QS he (AZ hs)
end
section
variable {prog:Program}{w:World}{A:Around}{E:aHx}{s:Shared}
theorem uV{S it:Addr}{aG:Array Value}{c:Nat}{items:Array Value}{Q:aHx}(hS:s.heap.get? S=some {cls:= .type "list",data:= .seq aG c})(ht:s.heap.IsTuple it items)
  (hlong:¬(!aG.isEmpty && Builtin.List.listTooLong (aG.size+items.size))=true) (hz:aG.size+items.size<=sizeLine)
  (h:Q .none {s with heap:=s.heap.update S (Obj.mapSeq (· ++items))}):wpAny (model prog w) A (call (.builtin "list.extend") [.ref S,.ref it]) Q E s:=by
 obtain⟨o,ho,hc,n,hd⟩:=id ht;refine aFm PySem.F.slot_list_extend ⟨_,hS,rfl⟩ PySem.F.entry_list_extend ?_ (PySem.F.args_list_extend_2 _ _);unfold Builtin.«list.extend»;refine aF3 (m:=selfAndOne "list.extend" _) (aF5 ?_);dsimp only;unfold Builtin.List.listExtendWith;refine aF3 (aGy ht.typeIs ?_);have h1:(Builtin.List.listSameRef (.ref S) (.ref it) || Value.type "tuple"==Value.type "list" || Value.type "tuple"==Value.type "tuple")=true:=by simp
 simp only[h1,if_true];refine aF3 ?_;unfold Builtin.List.listItems;refine aF3 (aG2 ho hd (aF5 ?_));refine aF3 ?_;refine aF3 (aG2 hS rfl (aF5 ?_));rw[if_neg hlong];refine aF3 ?_;show wpAny _ _ (updateSeq S (· ++items)) _ _ _;refine aGg (hz:=by lia) (_hz' :=by simp only[Array.size_append];lia) hS rfl ?_;exact aF5 ⟨_,rfl,h⟩
theorem EY{S it:Addr}{aG:Array Value}{c n:Nat}{items:Array Value}{o:Obj}{Q:aHx}(hS:s.heap.get? S=some {cls:= .type "list",data:= .seq aG c})(ho:s.heap.get? it=some o)(hc:o.cls= .type "list")(hd:o.data= .seq items n)
  (hlong:¬(!aG.isEmpty && Builtin.List.listTooLong (aG.size+items.size))=true) (hz:aG.size+items.size<=sizeLine)
  (h:Q .none {s with heap:=s.heap.update S (Obj.mapSeq (· ++items))}):wpAny (model prog w) A (call (.builtin "list.extend") [.ref S,.ref it]) Q E s:=by
 refine aFm PySem.F.slot_list_extend ⟨_,hS,rfl⟩ PySem.F.entry_list_extend ?_ (PySem.F.args_list_extend_2 _ _);unfold Builtin.«list.extend»;refine aF3 (m:=selfAndOne "list.extend" _) (aF5 ?_);dsimp only;unfold Builtin.List.listExtendWith;refine aF3 (aGy (T:= "list") ⟨_,ho,hc⟩ ?_);have h1:(Builtin.List.listSameRef (.ref S) (.ref it) || Value.type "list"==Value.type "list" || Value.type "list"==Value.type "tuple")=true:=by simp
 simp only[h1,if_true];refine aF3 ?_;unfold Builtin.List.listItems;refine aF3 (aG2 ho hd (aF5 ?_));refine aF3 ?_;refine aF3 (aG2 hS rfl (aF5 ?_));rw[if_neg hlong];refine aF3 ?_;show wpAny _ _ (updateSeq S (· ++items)) _ _ _;refine aGg (hz:=by lia) (_hz' :=by simp only[Array.size_append];lia) hS rfl ?_;exact aF5 ⟨_,rfl,h⟩
end
section
variable {X:Cx}
def L6:OM:=λx ds mh Q=>∃n es fs,x= .ref n/\ds=[.tup fs]/\mh[n]? =some (.lst es)/\es.length+fs.length<=sizeLine/\Q .b7 (mh.set n (.lst (es++fs)))
theorem VO:MtR X "list.extend" (liftM X.K L6):=by
 intro pins s σ H x xs v us Q I rx rs q;obtain⟨μ,mh,dx,ds,R,RR,ix,il,⟨n,es,fs,rfl,rfl,e,hz,q⟩,F⟩:=q;obtain⟨a,vs,rfl,hn,hv,l⟩:=fK RR ix e;obtain⟨z,rfl,iz⟩:=gG il;obtain⟨b,ws,rfl,sq,l2⟩:=c8 iz;cases rx;obtain⟨u,rfl,ru⟩:=rs.one;cases ru;obtain⟨z1,aG,c,r,hl,ho⟩:=I.yP hv;obtain⟨its2,r2,pl,hz2⟩:=I.tuple sq;have k1:=aJ l;have k2:=aJ l2;have k3:=r2.length;have hsz:aG.toArray.size+its2.toArray.size<=sizeLine:=by rw[List.size_toArray,List.size_toArray];lia
 have hlong:¬(!aG.toArray.isEmpty && Builtin.List.listTooLong (aG.toArray.size+its2.toArray.size))=true:=by
  rw[oV hsz,Bool.and_false];exact aHt
 refine uV ho (show s.heap.IsTuple b its2.toArray from pl) hlong hsz ?_;refine⟨.b7,_,I.MA (its' :=aG++its2) hv ho (by simp) (r.append r2) ?_,rfl,F.put RR hn (fV l l2) q .b7⟩;rw[List.length_append]
 lia
def uH:OM:=λx ds mh Q=>∃n y es fs,x= .ref n/\ds=[y]/\mh[n]? =some (.lst es)/\bA mh y=some fs/\es.length+fs.length<=sizeLine/\Q .b7 (mh.set n (.lst (es++fs)))
theorem D8:MtR X "list.extend" (liftM X.K uH):=by
 intro pins s σ H x xs v us Q I rx rs q;obtain⟨μ,mh,dx,ds,R,RR,ix,il,⟨n,y,es,fs,rfl,rfl,e,e2,hz,q⟩,F⟩:=q;obtain⟨a,vs,rfl,hn,hv,l⟩:=fK RR ix e;obtain⟨z,rfl,iz⟩:=gG il;obtain⟨b,ws,rfl,sq,l2⟩:=nB RR iz e2;cases rx;obtain⟨u,rfl,ru⟩:=rs.one;cases ru;obtain⟨z1,aG,c,r,hl,ho⟩:=I.yP hv;have k1:=aJ l;have k2:=aJ l2
 have fin:∀its2:List Value,Vals ws its2->(∀{Q:aHx},aG.toArray.size+its2.toArray.size<=sizeLine->¬(!aG.toArray.isEmpty && Builtin.List.listTooLong (aG.toArray.size+its2.toArray.size))=true->Q .none {s with heap:=s.heap.update a (Obj.mapSeq (· ++its2.toArray))}->
   wpAny (model X.prog X.w) X.A (call (.builtin "list.extend") [.ref a,.ref b]) Q X.xe s)->wpAny (model X.prog X.w) X.A (call (.builtin "list.extend") [.ref a,.ref b]) (EP X pins σ Q) X.xe s:=λits2 r2 go=>by
  have k3:=r2.length;have hsz:aG.toArray.size+its2.toArray.size<=sizeLine:=by rw[List.size_toArray,List.size_toArray];lia
  refine go hsz (by rw[oV hsz,Bool.and_false];exact aHt) ?_;refine⟨.b7,_,I.MA (its' :=aG++its2) hv ho (by simp) (r.append r2) ?_,rfl,F.put RR hn (fV l l2) q .b7⟩;rw[List.length_append]
  lia
 rcases sq with sq | sq
 ·obtain⟨its2,r2,⟨o,n2,e3,c3,_,d3⟩,_⟩:=I.list sq;exact fin its2 r2 λa1 a2 a3=>EY ho e3 c3 d3 a2 a1 a3
 ·obtain⟨its2,r2,pl,hz2⟩:=I.tuple sq;exact fin its2 r2 λa1 a2 a3=>uV ho (show s.heap.IsTuple b its2.toArray from pl) a2 a1 a3
end
section
variable {ρ:eK}{mh:MH}{Q:DK}{E:eJ}
@[simp] theorem aDd (w wo wi:WE):FU w wo wi E ρ mh=(w ρ mh λd mh1=>wo ρ mh1 λo mh2=>wi ρ mh2 λi mh3=>SY o i d mh3 λmh4=>E.nx ρ mh4):=rfl
@[simp] theorem aDc (w wo:WE)(wi:WA):KA w wo wi E ρ mh=(w ρ mh λd mh1=>wo ρ mh1 λo mh2=>wi ρ mh2 λks mh3=>SX o ks d mh3 λmh4=>E.nx ρ mh4):=rfl
@[simp] theorem s_dic (t:Bool):DH t ρ mh Q=(Q (.ref mh.length) (mh++[.dic t []])):=rfl
end
theorem YO{K:aHw}{h:Heap}{mg:aHz}{x:Str}{i:Int}{t:Tok}(KX:K.In h)(G:h.Ns mainGlobals mg)(e:PySem.W.nsIn K mainGlobals x=some (some (.int i t))):rS K mg x (.int i):=
 ⟨.int i,_,PySem.W.mg_of KX G e,⟨t,rfl⟩,λ_ _=>.int⟩
theorem mC(d e:D)(ds:List D):nO (d::e::ds) 1=some e:=by
 have:=hV (xs:=d::e::ds) (j:=1) (v:=e) rfl;simpa using this
theorem C7(d e f:D)(ds:List D):nO (d::e::f::ds) 2=some f:=by
 have:=hV (xs:=d::e::f::ds) (j:=2) (v:=f) rfl;simpa using this
theorem R9{α:Type}{f:α->D}{ss:List α}{i:Int}(h0:0<=i)(h1:i<ss.length):∃v,v∈ss/\ss[i.toNat]? =some v/\nO (ss.map f) i=some (f v):=by
 have hi:i.toNat<ss.length:=by lia
 refine⟨ss[i.toNat],List.getElem_mem _,by simp[hi],?_⟩;have e:i=((i.toNat:Nat):Int):=by lia
 have:=hV (xs:=ss.map f) (j:=i.toNat) (v:=f (ss[i.toNat])) (by rw[List.getElem?_map,List.getElem?_eq_getElem hi];rfl);rw[<-e]at this;exact this
open Classical in
theorem FW(k v:D):∀kvs:List (D×D),(∃p∈kvs,p.1=k)->b6 (kvs.map λp=>if p.1=k then (p.1,v) else p) k=some v
 | [],h=>by obtain⟨p,hp,_⟩:=h;cases hp
 | p::kvs,h=>by
  rw[List.map_cons];by_cases e:p.1=k
  ·simp[b6,e]
  ·simp only[b6,if_neg e];refine FW k v kvs ?_;obtain⟨r,hr,er⟩:=h;rcases aFd.mp hr with z | z
   ·subst z;exact absurd er e
   ·exact⟨r,z,er⟩
theorem FX(k v:D):∀kvs:List (D×D),(¬∃p∈kvs,p.1=k)->b6 (kvs++[(k,v)]) k=some v
 | [],h=>by simp[b6]
 | p::kvs,h=>by
  have e:¬p.1=k:=λz=>h ⟨p,aF8,z⟩;rw[List.cons_append];simp only[b6,if_neg e];exact FX k v kvs λzz17=>by obtain⟨r,hr,er⟩:=zz17;exact h ⟨r,aF7 _ hr,er⟩
theorem OT(kvs:List (D×D))(k v:D):b6 (putD kvs k v) k=some v:=by
 classical
 unfold putD;by_cases h:∃p∈kvs,p.1=k
 ·rw[if_pos h];exact FW k v kvs h
 ·rw[if_neg h];exact FX k v kvs h
open Classical in
theorem m8(k v:D){k' :D}(hk:k' ≠k):∀kvs:List (D×D),b6 (kvs.map λp=>if p.1=k then (p.1,v) else p) k' =b6 kvs k'
 | []=>rfl
 | p::kvs=>by
  rw[List.map_cons];by_cases e:p.1=k
  ·have e2:¬p.1=k' :=λz=>hk (z.symm.trans e);simp only[if_pos e,b6,if_neg e2,m8 k v hk kvs]
  ·simp only[if_neg e,b6,m8 k v hk kvs]
theorem tI(k v:D){k' :D}(hk:k' ≠k):∀kvs:List (D×D),b6 (kvs++[(k,v)]) k' =b6 kvs k'
 | []=>by simp[b6,Ne.symm hk]
 | p::kvs=>by
  rw[List.cons_append];simp only[b6,tI k v hk kvs]
theorem DI(kvs:List (D×D)){k k' :D}(v:D)(hk:k' ≠k):b6 (putD kvs k v) k' =b6 kvs k' :=by
 classical
 unfold putD;split
 ·exact m8 k v hk kvs
 ·exact tI k v hk kvs
theorem sG{mh:MH}{b:Nat}{many:Int}{Q:DK}(h1:1<=many)(h2:many<=1073741789)(hb:xT mh b)(q:∀r mh',0<=r->r<many->cK mh b mh' ->Q (.int r) mh'):qZ [.ref b,.int many] mh Q:=⟨b,many,rfl,h1,h2,hb,q⟩
theorem R8{mh:MH}{ns:List Int}{a:Int}{Q:DK}(hl:ns.length<=63)(h1:0<=a)(h2:a<=100)(q:∀mh',(∃o,mh' =mh++[o])->xT mh' mh.length->Q (.ref mh.length) mh'):HN [.fl (ns.map .int),.int a] mh Q:=⟨ns,a,rfl,hl,h1,h2,q⟩
def cX(mh mh' :MH):Prop:=∃T,mh' =mh++T
theorem cX.refl{mh:MH}:cX mh mh:=⟨[],by simp⟩
theorem cX.app{mh mh' :MH}(h:cX mh mh')(T:MH):cX mh (mh' ++T):=by
 obtain⟨U,rfl⟩:=h;exact⟨U++T,by simp⟩
theorem cX.le{mh mh' :MH}(h:cX mh mh'):mh.length<=mh'.length:=by obtain⟨U,rfl⟩:=h;simp
theorem cX.old{mh mh' :MH}{n:Nat}{o:MO}(h:cX mh mh')(e:mh[n]? =some o):mh'[n]? =some o:=by
 obtain⟨T,rfl⟩:=h;rw[List.getElem?_append_left (List.getElem?_eq_some_iff.mp e).1];exact e
theorem cX.push{mh mh' :MH}(h:cX mh mh')(o:MO):cX mh (mh' ++[o]):=by
 obtain⟨T,rfl⟩:=h;exact⟨T++[o],by simp⟩
theorem cX.set{mh mh' :MH}{n:Nat}(h:cX mh mh')(hn:mh.length<=n)(o:MO):cX mh (mh'.set n o):=by
 obtain⟨T,rfl⟩:=h;exact⟨T.set (n-mh.length) o,by rw[List.set_append_right _ _ hn]⟩
theorem cX.out{mh mh' :MH}{d:D}{R:DK}(h:cX mh mh')(ok:jQ mh)(hd:cD mh.length d=true)(q:R d mh):Out mh.length d mh' R:=by
 obtain⟨T,rfl⟩:=h;exact fD ok hd q
theorem cX.U6{mh mh' :MH}{j:Nat}{o:MO}{R:DK}(h:cX mh mh')(ok:jQ mh)(hj:mh.length<=j)(e:mh'[j]? =some o)(hd:yJ mh.length o=true)(q:R (.ref mh.length) (mh++[o])):Out mh.length (.ref j) mh' R:=by
 obtain⟨T,rfl⟩:=h;exact .inr (.inr ⟨mh,T,j,o,rfl,aF9 _,ok,rfl,hj,e,hd,q⟩)
theorem fJ.U6{mh mh' :MH}{b j:Nat}{o:MO}{R:DK}(h:fJ mh b mh')(ok:jQ mh)(hj:mh.length<=j)(e:mh'[j]? =some o)(hd:yJ mh.length o=true)(q:∀mh1,cK mh b mh1->R (.ref mh1.length) (mh1++[o])):Out mh.length (.ref j) mh' R:=by
 obtain⟨mh1,T,rfl,t⟩:=h;exact .inr (.inr ⟨mh1,T,j,o,rfl,by rw[t.len];exact aF9 _,t.mok ok,rfl,by rw[t.len];exact hj,e,by rw[t.len];exact hd,q mh1 t⟩)
theorem fJ.app{mh mh' :MH}{b:Nat}(h:fJ mh b mh')(T:MH):fJ mh b (mh' ++T):=by
 obtain⟨mh1,U,rfl,t1⟩:=h;exact⟨mh1,U++T,by simp,t1⟩
theorem cJ{mh:MH}{n:Nat}{o x:MO}(e:mh[n]? =some o):(mh++[x])[n]? =some o:=by
 rw[List.getElem?_append_left (List.getElem?_eq_some_iff.mp e).1];exact e
theorem pG{mh T:MH}{n:Nat}{o:MO}(e:mh[n]? =some o):(mh++T)[n]? =some o:=by
 rw[List.getElem?_append_left (List.getElem?_eq_some_iff.mp e).1];exact e
theorem get_set{mh:MH}{n m:Nat}{o x:MO}(e:mh[n]? =some o)(h:m≠n):(mh.set m x)[n]? =some o:=by
 rw[List.getElem?_set_ne h];exact e
theorem eE{mh:MH}{n:Nat}{o:MO}(x:MO)(e:mh[n]? =some o):(mh.set n x)[n]? =some x:=by
 rw[List.getElem?_set_self (List.getElem?_eq_some_iff.mp e).1]
theorem zD{mh:MH}{n:Nat}{o:MO}(e:mh[n]? =some o):n<mh.length:=(aF6.mp e).1
theorem bR{mh:MH}{n:Nat}{ds:List D}(e:mh[n]? =some (.lst ds)):bA mh (.ref n)=some ds:=by simp[bA,e]
theorem kW{mh:MH}{n:Nat}{ds:List D}(e:mh[n]? =some (.lst ds)):jV mh (.ref n)=some ds:=by simp[jV,e]
theorem JQ(d e f g:D)(ds:List D):nO (d::e::f::g::ds) 3=some g:=by
 have:=hV (xs:=d::e::f::g::ds) (j:=3) (v:=g) rfl;simpa using this
theorem yZ{α:Type}(l:List α)(x:α):nO (l++[x]) (-1)=some x:=by
 unfold nO EL;rw[if_neg (by lia),if_pos (by simp;lia)];simp only[Option.bind_some];have:((-1:Int)+((l++[x]).length:Int)).toNat=l.length:=by simp;lia
 rw[this];simp
theorem B4(n:Nat):EL (n+1) (-1)=some n:=by
 unfold EL;rw[if_neg (by lia),if_pos (by lia)];congr 1;lia
theorem g6{α:Type}{f:α->D}{l:List α}{i:Nat}{d:D}(h:(l.map f)[i]? =some d):∃x,l[i]? =some x/\d=f x:=by
 rw[List.getElem?_map]at h;obtain⟨x,h1,h2⟩:=aG0.mp h;exact⟨x,h1,h2.symm⟩
theorem take_snoc{α:Type}{l:List α}{i:Nat}{x:α}(h:l[i]? =some x):l.take (i+1)=l.take i++[x]:=by
 rw[List.take_add_one,h];rfl
theorem JH(ds:List D):cutD ds (some 1) none=ds.tail:=by
 cases ds with
 | nil=>rfl
 | cons a ds=>
  unfold cutD;have e1:HT.cQ (a::ds).length 0 (some 1)=1:=by simp[HT.cQ]
  have e2:HT.cQ (a::ds).length (a::ds).length none=(a::ds).length:=by simp[HT.cQ]
  rw[e1,e2];simp
theorem nL{α β:Type}{g:WG}{t:WT}{w:WE}{ρe:eK}{St:MH->Prop}{Q:DK}(em:α->D)(p:α->Bool)(f:α->β)(fm:β->D):∀(ds:List α) (ys:List β) {mh:MH},St mh->
  (∀d∈ds,∀(N:DK) (M:MH->Prop),(p d=true->N (fm (f d)) mh)->(p d=false->M mh)->g (em d) ρe λρ2=>t ρ2 mh λb mh3=>if b=true then w ρ2 mh3 N else M mh3)->
  Q (.ref mh.length) (mh++[.lst ((ys++(ds.filter p).map f).map fm)])->iS g t w ρe St Q (ds.map em) (ys.map fm) mh
 | [],ys,mh,hst,_,q=>⟨hst,by simpa using q⟩
 | d::ds,ys,mh,hst,h,q=>by
  refine⟨hst,?_⟩;refine h d aF8 _ _ (λhp=>?_) λhp=>?_
  ·have:=nL (Q:=Q) (St:=St) (g:=g) (t:=t) (w:=w) (ρe:=ρe) em p f fm ds (ys++[f d]) hst (λe he=>h e (aF7 _ he)) (by rw[List.filter_cons_of_pos hp]at q;simpa using q);simpa using this
  ·exact nL em p f fm ds ys hst (λe he=>h e (aF7 _ he)) (by rw[List.filter_cons_of_neg (by simp[hp])]at q;exact q)
theorem xG{α β:Type}{g:WG}{w:WE}{ρe:eK}{St:MH->Prop}{Q:DK}(em:α->D)(f:α->β)(fm:β->D):∀(ds:List α) (ys:List β) {mh:MH},St mh->
  (∀d∈ds,∀(N:DK),N (fm (f d)) mh->g (em d) ρe λρ2=>w ρ2 mh N)->
  Q (.ref mh.length) (mh++[.lst ((ys++ds.map f).map fm)])->iS g iA w ρe St Q (ds.map em) (ys.map fm) mh
 | [],ys,mh,hst,_,q=>⟨hst,by simpa using q⟩
 | d::ds,ys,mh,hst,h,q=>by
  refine⟨hst,?_⟩;simp only[KU,if_true];refine h d aF8 _ ?_;have:=xG (Q:=Q) (St:=St) (g:=g) (w:=w) (ρe:=ρe) em f fm ds (ys++[f d]) hst (λe he=>h e (aF7 _ he)) (by simpa using q);simpa using this
theorem nM{α β:Type}{g:WG}{t:WT}{w:WE}{ρe:eK}{St:MH->Prop}{Q:DK}(em:α->D)(p:α->Bool)(f:α->β)(fm:β->D)(ds:List α){mh:MH}(hst:St mh)
  (h:∀d∈ds,∀(N:DK) (M:MH->Prop),(p d=true->N (fm (f d)) mh)->(p d=false->M mh)->g (em d) ρe λρ2=>t ρ2 mh λb mh3=>if b=true then w ρ2 mh3 N else M mh3)
  (q:Q (.ref mh.length) (mh++[.lst (((ds.filter p).map f).map fm)])):iS g t w ρe St Q (ds.map em) [] mh:=nL em p f fm ds [] hst h q
theorem c6{α β:Type}{g:WG}{w:WE}{ρe:eK}{St:MH->Prop}{Q:DK}(em:α->D)(f:α->β)(fm:β->D)(ds:List α){mh:MH}(hst:St mh)
  (h:∀d∈ds,∀(N:DK),N (fm (f d)) mh->g (em d) ρe λρ2=>w ρ2 mh N)
  (q:Q (.ref mh.length) (mh++[.lst ((ds.map f).map fm)])):iS g iA w ρe St Q (ds.map em) [] mh:=xG em f fm ds [] hst h q
theorem oC{M:MH}{n:Nat}{o:MO}(h:M[n]? =some o):M.set n o=M:=by
 apply List.ext_getElem?;intro i;by_cases hi:i=n
 ·subst hi;rw[List.getElem?_set_self (zD h),h]
 ·rw[List.getElem?_set_ne (Ne.symm hi)]
theorem zip_map{α:Type}(f:α->D):∀(l m:List α),jR (l.map f) (m.map f)=(l.zip m).map λp=>.tup [f p.1,f p.2]
 | [],_=>by simp[jR]
 | a::l,[]=>by simp[jR]
 | a::l,b::m=>by simp[jR,zip_map f l m]
def vH(P:Program)(w:World)(K:aHw)(mg:aHz)(base:Heap)(k:Nat)(x:Str)(N:List Str)(st:Stmt)(wB:WS):Prop:=
 ∀(f:Addr) (cdv:Value) (A:Around) (outer:List Env) (s:Shared) (H:Hp) (E:XK),fN k (A.deeper (envOfC x (aC st) s.heap.objs.size f cdv))->
  jW (u5 DB P w K mg base N x (aC st) f cdv A outer s H E).QG (b9 st) wB
section
variable {P:Program}{w:World}{K:aHw}{mg:aHz}{base:Heap}{h:Heap}
theorem eF{x:Str}{st:Stmt}{N ps:List Str}{k:Nat}{s:OA}{wB:WS}(Dx:eV K x st)(KX:K.In h)(G:h.Ns mainGlobals mg)(bd:bZ x st ps)(S:aT N ps (aC st))(hb:vH P w K mg base k x N st wB)(len:∀ds mh R,s ds mh R->ds.length=ps.length)
  (hw:∀ds mh R,jQ mh->s ds mh R->wB {nx:=λ_ mh1=>Out mh.length .b7 mh1 R,rt:=λd mh1=>Out mh.length d mh1 R} (aH N ds) mh):Fn P w K mg base (k+1) x ps s:=
 XU Dx KX G bd S len hb λds mh R ok _ hs=>hw ds mh R ok hs
theorem XT{x:Str}{st:Stmt}{N ps:List Str}{j k:Nat}{s:OA}{wB:WS}(e:k+1=j)(Dx:eV K x st)(KX:K.In h)(G:h.Ns mainGlobals mg)(bd:bZ x st ps)(S:aT N ps (aC st))(hb:vH P w K mg base k x N st wB)(len:∀ds mh R,s ds mh R->ds.length=ps.length)
  (hw:∀ds mh R,jQ mh->s ds mh R->wB {nx:=λ_ mh1=>Out mh.length .b7 mh1 R,rt:=λd mh1=>Out mh.length d mh1 R} (aH N ds) mh):Fn P w K mg base j x ps s:=
 e▸eF Dx KX G bd S hb len hw
theorem WH{x:Str}{st:Stmt}{N:List Str}{k:Nat}{fa:Addr}{wB:WS}(KX:K.In h)(G:h.Ns mainGlobals mg)(hfa:mg "law"=some (.ref fa))(Dx:eV K "law" st)(S:aT N [x] (aC st))(bd:bZ "law" st [x])
  (hb:∀base:Heap,vH P w K mg base k "law" N st wB)
  (hw:∀ds mh R,jQ mh->vN ds mh R->wB {nx:=λ_ mh1=>Out mh.length .b7 mh1 R,rt:=λd mh1=>Out mh.length d mh1 R} (aH N ds) mh):
  ∃fd:FuncData,(∀(s:Shared) (u:Value),BindsTo s fd ⟨[u],[]⟩ [(x,u)])/\∀base:Heap,iU P w K mg base DB (k+1) fa fd [x] (N8 K vN):=
 WJ KX G hfa Dx S bd λbase=>⟨wB,hb base,λds mh R ok _ hs=>hw ds mh R ok hs⟩
end
def y8(g:WG)(t:WT)(w:WE)(ρe:eK)(St:MH->Prop)(K:List D->MH->Prop):List D->List D->MH->Prop
 | [],ys,mh=>St mh/\K ys mh
 | d::ds,ys,mh=>St mh/\ys.length<sizeLine/\g d ρe λρ2=>t ρ2 mh λb mh3=>if b=true then w ρ2 mh3 λy mh4=>y8 g t w ρe St K ds (ys++[y]) mh4 else y8 g t w ρe St K ds ys mh3
def qL(g:WG)(t:WT)(wi2:WI)(g2:WG)(t2:WT)(w:WE)(ρe:eK)(St:MH->Prop)(Q:DK):List D->List D->MH->Prop
 | [],ys,mh=>St mh/\Q (.ref mh.length) (mh++[.lst ys])
 | d::ds,ys,mh=>St mh/\g d ρe λρ2=>t ρ2 mh λb mh3=>if b=true then wi2 ρ2 mh3 λes St2 mh4=>y8 g2 t2 w ρ2 St2 (qL g t wi2 g2 t2 w ρe St Q ds) es ys mh4 else qL g t wi2 g2 t2 w ρe St Q ds ys mh3
def Y9(own:List Str)(aI:List Nat)(wi:WI)(g:WG)(t:WT)(wi2:WI)(g2:WG)(t2:WT)(w:WE):WE:=λρ mh Q=>wi ρ mh λds St mh1=>qL g t wi2 g2 t2 w (fW own aI ρ) St Q ds [] mh1
@[simp] theorem s_lc2 {ρ:eK}{mh:MH}{Q:DK}(own:List Str)(aI:List Nat)(i:WI)(g:WG)(t:WT)(i2:WI)(g2:WG)(t2:WT)(a:WE):Y9 own aI i g t i2 g2 t2 a ρ mh Q=(i ρ mh λds St mh1=>qL g t i2 g2 t2 a (fW own aI ρ) St Q ds [] mh1):=rfl
theorem uR{β γ:Type}{g:WG}{w:WE}{ρe:eK}{St:MH->Prop}{K:List D->MH->Prop}(em:β->D)(f:β->γ)(fm:γ->D):∀(es:List β) (ys:List D) {mh:MH},St mh->ys.length+es.length<=16777216->
  (∀e∈es,∀N:DK,N (fm (f e)) mh->g (em e) ρe λρ2=>w ρ2 mh N)->K (ys++(es.map f).map fm) mh->y8 g iA w ρe St K (es.map em) ys mh
 | [],ys,mh,hst,_,_,q=>⟨hst,by simpa using q⟩
 | e::es,ys,mh,hst,hl,h,q=>by
  simp only[List.length_cons]at hl;refine⟨hst,by rw[sizeLine_eq];lia,?_⟩;simp only[KU,if_true];refine h e aF8 _ ?_;exact uR em f fm es (ys++[fm (f e)]) hst (by simp;lia) (λe he=>h e (aF7 _ he)) (by simpa using q)
theorem u6{α β γ:Type}{g g2:WG}{wi2:WI}{w:WE}{ρe:eK}{St:MH->Prop}{Q:DK}(em:α->D)(inn:α->List β)(em2:β->D)(f:α->β->γ)(fm:γ->D)(ρ2:α->eK):∀(ds:List α) (ys:List D) {mh:MH},St mh->ys.length+(ds.flatMap inn).length<=16777216->
  (∀d∈ds,∀N:eK->Prop,N (ρ2 d)->g (em d) ρe N)->(∀d∈ds,∀N:List D->(MH->Prop)->MH->Prop,(∀St2:MH->Prop,St2 mh->N ((inn d).map em2) St2 mh)->wi2 (ρ2 d) mh N)->
  (∀d∈ds,∀e∈inn d,∀N:DK,N (fm (f d e)) mh->g2 (em2 e) (ρ2 d) λρ3=>w ρ3 mh N)->
  Q (.ref mh.length) (mh++[.lst (ys++(ds.flatMap λd=>(inn d).map (f d)).map fm)])->qL g iA wi2 g2 iA w ρe St Q (ds.map em) ys mh
 | [],ys,mh,hst,_,_,_,_,q=>⟨hst,by simpa using q⟩
 | d::ds,ys,mh,hst,hl,h1,h2,h3,q=>by
  simp only[List.flatMap_cons,List.length_append]at hl;refine⟨hst,?_⟩;simp only[KU,if_true];refine h1 d aF8 _ ?_;refine h2 d aF8 _ λSt2 hs2=>?_;refine uR em2 (f d) fm (inn d) ys hs2 (by lia) (λe he=>h3 d aF8 e he) ?_;exact u6 em inn em2 f fm ρ2 ds _ hst (by rw[List.length_append,List.length_map,List.length_map];lia) (λe he=>h1 e (aF7 _ he)) (λe he=>h2 e (aF7 _ he)) (λe he=>h3 e (aF7 _ he)) (by simpa using q)
theorem RN{α β γ:Type}{g g2:WG}{wi2:WI}{w:WE}{ρe:eK}{St:MH->Prop}{Q:DK}(em:α->D)(inn:α->List β)(em2:β->D)(f:α->β->γ)(fm:γ->D)(ρ2:α->eK)(ds:List α){mh:MH}(hst:St mh)(hl:(ds.flatMap inn).length<=16777216)
  (h1:∀d∈ds,∀N:eK->Prop,N (ρ2 d)->g (em d) ρe N) (h2:∀d∈ds,∀N:List D->(MH->Prop)->MH->Prop,(∀St2:MH->Prop,St2 mh->N ((inn d).map em2) St2 mh)->wi2 (ρ2 d) mh N)
  (h3:∀d∈ds,∀e∈inn d,∀N:DK,N (fm (f d e)) mh->g2 (em2 e) (ρ2 d) λρ3=>w ρ3 mh N)
  (q:Q (.ref mh.length) (mh++[.lst ((ds.flatMap λd=>(inn d).map (f d)).map fm)])):qL g iA wi2 g2 iA w ρe St Q (ds.map em) [] mh:=
 u6 em inn em2 f fm ρ2 ds [] hst (by simpa using hl) h1 h2 h3 (by simpa using q)
end D3
namespace L2
open PySem PySem.Spec PyProof.Rows
open Builtin Builtin.Str
open AutoSeq1 (wpAny_loadPart')
end L2
namespace D3
open PySem PySem.Spec PyProof.Rows L2
end D3
namespace L2
open PySem PySem.Spec PyProof.Rows
end L2
namespace D3
open PySem PySem.Spec PyProof.Rows L2
end D3
namespace L2
open PySem PySem.Spec PyProof.Rows
section
variable {prog:Program}{w:World}{A:Around}{E:aHx}{s:Shared}
theorem AH{M:Model}{a:Addr}{Q:Option Obj->Shared->Prop}(h:Q (s.heap.get? a) s):wpAny M A (loadIfAlive a) Q E s:=λΓ p _=>by
 unfold loadIfAlive;rw[Sem.wp_loadIfAlive];exact(aF5 (M:=M) (A:=A) (E:=E) h) Γ p ‹_›
def vJ(T:Addr)(fl:Bool)(TI TO:Addr):Obj:={cls:= .type "zip",dict:=none,data:= .fields #[rawInt T,.bool fl,.bool false,.ref TI,.ref TO],slots:= #[]}
theorem v5{z TI TO T:Addr}{fl:Bool}{qs:List Src}{i k:Nat}{vals:List Value}{Q:aHx}(hh:A.handled=none)(D:dA z TI TO qs)(hobj:s.heap.get? z=some (vJ T fl TI TO))(hT:∃o,s.heap.get? T=some o)
  (hTI:∃n,s.heap.get? TI=some {cls:= .type "tuple",data:= .seq (qs.map λq=>Value.ref q.it).toArray n}) (hat:∀q∈qs,q.At s.heap i) (hne:qs≠[]) (hv:vals.length=k) (hkl:k<=qs.length)
  (hq:∀(j:Nat) q x,qs[j]? =some q->vals[j]? =some x->∃items,q.Sq s.heap items/\items[i]? =some x) (hsz:qs.length<=sizeLine)
  (hk:k<qs.length->∃q items,qs[k]? =some q/\q.Sq s.heap items/\items[i]? =none)
  (hQ:k=qs.length->∀h',h'.get? z=some (vJ T true TI TO)->(∀q∈qs,q.At h' (i+1))->h'.get? s.heap.objs.size=some {cls:= .type "tuple",data:= .seq vals.toArray}->h'.objs.size=s.heap.objs.size+1->
   (∀c o,c≠z->(∀q∈qs,c≠q.it)->s.heap.get? c=some o->h'.get? c=some o)->Q (.ref s.heap.objs.size) {s with heap:=h'})
  (hE:k<qs.length->∀h' e,(∀c o,c≠z->(∀q∈qs,c≠q.it)->s.heap.get? c=some o->h'.get? c=some o)->(∃o,h'.get? e=some o/\o.cls= .type "StopIteration")->E (.ref e) {s with heap:=h'}):
  wpAny (model prog w) A (Builtin.«zip.__next__» ⟨[.ref z],[]⟩) (λfin s' =>∃v,fin= .done (.ret v)/\Q v s') E s:=by
 obtain⟨nI,hTI⟩:=hTI;obtain⟨oT,hT⟩:=hT;refine aF3 (m:=field (.ref z) 2) (aG4 hobj rfl (x:= .bool false) rfl ?_);refine aF3 (m:=field (.ref z) 3) (aG4 hobj rfl (x:= .ref TI) rfl ?_);refine aF3 (m:=seqItems? (.ref TI)) (aG2 hTI rfl ?_)
 have hemp:(qs.map λq=>Value.ref q.it).toArray.isEmpty=false:=by cases qs with | nil=>exact absurd rfl hne | cons a r=>rfl
 simp only[hemp];refine aF3 (m:=Builtin.SmallTypes.ownedTupleIsFree (.ref z)) ?_;refine aGs (Q:=λb s' =>b=false/\∃h1,s' ={s with heap:=h1}/\h1.get? z=some (vJ T true TI TO)/\Heap.SameBut z s.heap h1) (E:=E) ?own (λb s1 hb=>?_) (λe s' x=>x)
 case own=>
  unfold Builtin.SmallTypes.ownedTupleIsFree;refine aF3 (m:=field (.ref z) 0) (aG4 hobj rfl (x:=rawInt T) rfl ?_);show wpAny _ _ (loadIfAlive (Int.toNat (T:Int)) >>=_) _ _ _;refine aF3 (AH ?_);rw[Int.toNat_natCast,hT];simp only[Option.isNone_some,Bool.false_eq_true,if_false];refine aF3 (m:=field (.ref z) 1) (aG4 hobj rfl (x:= .bool fl) rfl ?_)
  cases fl with
  | true=>exact aF5 ⟨rfl,s.heap,rfl,hobj,Heap.SameBut.refl _ _⟩
  | false=>
   refine aF3 (aFy (cls:= .type "zip") (vs:= #[rawInt T,.bool false,.bool false,.ref TI,.ref TO]) hobj (by simp) λh1 z1 sb1=>aF5 ⟨rfl,h1,rfl,z1,sb1⟩)
 obtain⟨rfl,h1,rfl,z1,sb1⟩:=hb;simp only[Bool.false_eq_true,if_false];refine aF3 ?_;refine wpAny_forIn_array' _ (λrest b s' =>b.1=none/\∃j h',s' ={s with heap:=h'}/\rest=(qs.map λq=>Value.ref q.it).drop j/\j<=k/\b.2.toList=vals.take j/\h'.get? z=some (vJ T true TI TO)/\h'.objs.size=s.heap.objs.size/\(∀q∈qs.take j,q.At h' (i+1))/\(∀q∈qs.drop j,q.At h' i)/\(∀c o,c≠z->(∀q∈qs,c≠q.it)->s.heap.get? c=some o->h'.get? c=some o)) _ ?turn ?fin _ _ ?start
 case start=>
  refine⟨rfl,0,h1,rfl,by simp,aGk _,by simp,z1,sb1.1,by simp,λq hq=>?_,λc o c1 _ e=>sb1.extBut _ _ c1 e⟩;have hq' :q∈qs:=by simpa using hq
  exact(hat q hq').to λo e=>sb1.extBut _ _ (D.EM q hq').1 e
 case turn=>
  rintro x rest ⟨b1,b2⟩ s5 ⟨hb,j,h',rfl,hd,hj,hb2,hz,hs,hdn,htd,hkp⟩
  have hjl:j<qs.length:=by
   refine Nat.lt_of_not_le λhle=>?_;rw[List.drop_eq_nil_of_le (by simpa using hle)]at hd;cases hd
  have hd' :=hd;rw[List.drop_eq_getElem_cons (by simpa using hjl)]at hd';injection hd' with ex er;have exx:x=Value.ref qs[j].it:=by rw[ex];simp
  have hqj:qs[j]? =some qs[j]:=aFg hjl;generalize hqq:qs[j]=q at hqj exx;subst exx;have hqm:q∈qs:=aFf hqj;have hqz:=D.EM q hqm;obtain⟨l1,l2,l3⟩:=D.src q hqm;have hAt:q.At h' i:=htd q (by rw[List.drop_eq_getElem_cons hjl,hqq];exact aF8);refine aF3 (aFx ?_);show wpAny _ _ (Builtin.SmallTypes.nextOf (.ref q.it) >>=_) _ _ _;by_cases hjk:j=k
  ·subst hjk;obtain⟨qk,itemsk,hqk,hSk,hik⟩:=hk hjl;obtain rfl:qk=q:=(aFl (hqj.symm.trans hqk)).symm;have hSq' :=hSk.to (h' :=h') λo e=>hkp _ o l1 l3 e;refine aF3 (Src.done (s:={s with heap:=h'}) hh hAt hSq' hik λh2 e sb2 he=>?_);exact hE hjl h2 e (λc o c1 c3 q' =>sb2 _ _ (c3 _ hqm) (hkp c o c1 c3 q')) he
  ·have hvj:vals[j]? =some vals[j]:=aFg (by lia);generalize hvv:vals[j]'(by lia)=v at hvj;obtain⟨items,hSq,hit⟩:=hq j q v hqj hvj;have hSq' :q.Sq h' items:=hSq.to λo e=>hkp _ o l1 l3 e;refine aF3 (Src.item (s:={s with heap:=h'}) hAt hSq' hit λh2 at2 sb2=>aF5 ?_);refine aF5 ?_
   have apart:∀(k:Nat) p,qs[k]? =some p->k≠j->p.it≠q.it:=λk p hk hne e=>by
    have h1:(qs.map (·.it))[k]? =some q.it:=by rw[List.getElem?_map,hk];simp[e]
    have h2:(qs.map (·.it))[j]? =some q.it:=by rw[List.getElem?_map,hqj];rfl
    obtain⟨a1,b1⟩:=aF6.mp h1;obtain⟨a2,b2⟩:=aF6.mp h2;refine hne ?_;have pw:=aH2.mp D.nd;rcases Nat.lt_trichotomy k j with hlt | heq | hlt
    ·exact absurd (b1.trans b2.symm) (pw k j a1 a2 hlt)
    ·exact heq
    ·exact absurd (b2.trans b1.symm) (pw j k a2 a1 hlt)
   refine⟨rfl,j+1,h2,rfl,er,by lia,?_,sb2.extBut _ _ (aG6 hqz.1) hz,by rw[sb2.1];exact hs,λp hp=>?_,λp hp=>?_,λc o c1 c3 e=>sb2.extBut _ _ (c3 q hqm) (hkp c o c1 c3 e)⟩
   ·have hb2:b2.toList=vals.take j:=hb2;show (b2.push v).toList=_;rw[Array.toList_push,hb2,List.take_add_one,hvj];rfl
   ·rw[List.take_add_one,hqj]at hp;rcases aFb.mp hp with z | z
    ·obtain⟨k,hk⟩:=aGv z
     have hkj:k<j:=by
      have:=(aF6.mp hk).1;rw[List.length_take]at this;lia
     rw[List.getElem?_take_of_lt hkj]at hk;exact(hdn p z).to λo e=>sb2.extBut _ _ (apart k p hk (by lia)) e
    ·have:p=q:=by simpa using z
     subst this;exact at2
   ·obtain⟨k,hk⟩:=aGv hp;rw[List.getElem?_drop]at hk;have hp' :p∈qs.drop j:=by rw[List.drop_eq_getElem_cons hjl];exact aF7 _ hp
    exact(htd p hp').to λo e=>sb2.extBut _ _ (apart _ p hk (by lia)) e
 case fin=>
  rintro⟨b1,b2⟩ s5 ⟨hb,j,h',rfl,hd,hj,hb2,hz,hs,hdn,htd,hkp⟩
  have hje:j=qs.length:=by
   have:=aG8 List.length hd;simp at this
   lia
  subst hje;have hkk:k=qs.length:=by lia
  have hb' :b1=none:=hb;subst hb';have hb2:b2.toList=vals.take qs.length:=hb2;rw[List.take_of_length_le (by lia)]at hb2;have z5:(h'.push {cls:= .type "tuple",data:= .seq vals.toArray}).get? z=some (vJ T true TI TO):=aF4 _ hz;show wpAny _ _ (newTuple b2.toList >>=_) _ _ _;rw[hb2];refine aF3 (aHl ?_ (by simpa using (show vals.length<=sizeLine by lia)));refine aF5 ⟨_,rfl,?_⟩;show Q (.ref h'.objs.size) _;rw[hs];refine hQ hkk _ z5 (λq hq=>(hdn q (by rw[List.take_of_length_le (Nat.le_refl _)];exact hq)).to λo e=>aF4 _ e) ?_ ?_ λc o c1 c3 e=>aF4 _ (hkp c o c1 c3 e)
  ·rw[<-hs];exact aFa _ rfl
  ·rw[size_push',hs]
end
section
variable {prog:Program}{w:World}{A:Around}{E:aHx}{s:Shared}
theorem DC:typeLookup (.type "zip") "__len__"=pure none:=by rw[typeLookup_type,builtinLookup_eq_fast];kernel_rfl
theorem AB:typeLookup (.type "zip") "__length_hint__"=pure none:=by rw[typeLookup_type,builtinLookup_eq_fast];kernel_rfl
structure ZC(h0 h:Heap)(z TI TO:Addr)(qs:List Src)(rows:List (List Value))(i:Nat)(vs:List Value):Prop where
 obj:h.get? z=some {cls:= .type "zip",dict:=none,data:= .fields #[.none,.bool false,.bool false,.ref TI,.ref TO],slots:= #[]}\/∃T fl o,h.get? z=some (vJ T fl TI TO)/\h.get? T=some o/\o.cls= .type "tuple"
 aG:∃n,h.get? TI=some {cls:= .type "tuple",data:= .seq (qs.map λq=>Value.ref q.it).toArray n}
 own:∃(xs:List Value) (n:Nat),xs.length=qs.length/\h.get? TO=some {cls:= .type "tuple",data:= .seq xs.toArray n}
 at_:∀q∈qs,q.At h i
 len:vs.length=i
 tup:∀(j:Nat) v r,vs[j]? =some v->rows[j]? =some r->∃a,v= .ref a/\h.get? a=some {cls:= .type "tuple",data:= .seq r.toArray}/\h0.objs.size<=a/\a≠z/\a≠TO/\∀q∈qs,a≠q.it
 nd:vs.Nodup
 keep:∀c o,c≠z->c≠TO->(∀q∈qs,c≠q.it)->h0.get? c=some o->h.get? c=some o
theorem ZC.type{h0:Heap}{z TI TO:Addr}{qs:List Src}{rows:List (List Value)}{i:Nat}{vs:List Value}(Z:ZC h0 s.heap z TI TO qs rows i vs):s.TypeIs (.ref z) "zip":=by
 rcases Z.obj with e | ⟨T,fl,o,e,_⟩ <;> exact⟨_,e,rfl⟩
theorem ZC.other{h0 h h' :Heap}{z TI TO S:Addr}{qs:List Src}{rows:List (List Value)}{i:Nat}{vs:List Value}(Z:ZC h0 h z TI TO qs rows i vs)(hS:S≠z/\S≠TI/\S≠TO/\(∀q∈qs,S≠q.it))(hT:∀o,h.get? S=some o->o.cls= .type "list")(hn:h0.get? S=none)
  (k:∀c o,c≠S->h.get? c=some o->h'.get? c=some o):ZC h0 h' z TI TO qs rows i vs where
 obj:=by
  rcases Z.obj with e | ⟨T,fl,o,e1,e2,e3⟩
  ·exact .inl (k _ _ (aG6 hS.1) e)
  ·refine .inr ⟨T,fl,o,k _ _ (aG6 hS.1) e1,k _ _ (λx=>?_) e2,e3⟩;subst x;have:=hT _ e2;rw[e3]at this;simp at this
 aG:=let ⟨n,e⟩:=Z.aG;⟨n,k _ _ (aG6 hS.2.1) e⟩
 own:=let ⟨xs,n,l,e⟩:=Z.own;⟨xs,n,l,k _ _ (aG6 hS.2.2.1) e⟩
 at_:=λq hq=>(Z.at_ q hq).to λo e=>k _ _ (aG6 (hS.2.2.2 q hq)) e
 len:=Z.len
 tup:=λj v r h1 h2=>by
  obtain⟨a,e1,e2,e3⟩:=Z.tup j v r h1 h2;refine⟨a,e1,k _ _ (λe=>?_) e2,e3⟩;subst e;have:=hT _ e2;simp at this
 nd:=Z.nd
 keep:=λc o c1 c2 c3 e=>k _ _ (λx=>by subst x;rw[hn]at e;cases e) (Z.keep c o c1 c2 c3 e)
structure ZR(h0:Heap)(qs:List Src)(rows:List (List Value)):Prop where
 row:∀(i:Nat) r,rows[i]? =some r->r.length=qs.length/\∀(j:Nat) q x,qs[j]? =some q->r[j]? =some x->∃items,q.Sq h0 items/\items[i]? =some x
 fin:∃(k:Nat) (vals:List Value),vals.length=k/\k<qs.length/\(∀(j:Nat) q x,qs[j]? =some q->vals[j]? =some x->∃items,q.Sq h0 items/\items[rows.length]? =some x)/\∃q items,qs[k]? =some q/\q.Sq h0 items/\items[rows.length]? =none
theorem OH{h0:Heap}{z TI TO:Addr}{qs:List Src}{rows:List (List Value)}{i:Nat}{vs:List Value}{Q:Option Value->Shared->Prop}(hh:A.handled=none)(D:dA z TI TO qs)(hsz:qs.length<=sizeLine)(hne:qs≠[])(RR:ZR h0 qs rows)(Z:ZC h0 s.heap z TI TO qs rows i vs)(hi:i<rows.length)
  (hlt:h0.objs.size<=s.heap.objs.size)
  (hQ:∀h' v,ZC h0 h' z TI TO qs rows (i+1) (vs++[v])->s.heap.objs.size<=h'.objs.size->(∀c o,c≠z->c≠TO->(∀q∈qs,c≠q.it)->s.heap.get? c=some o->h'.get? c=some o)->Q (some v) {s with heap:=h'}):
  wpAny (model prog w) A (pyNext (.ref z)) Q E s:=by
 have hri:rows[i]? =some rows[i]:=aFg hi;generalize rows[i]=r at hri;obtain⟨hl,hr⟩:=RR.row i r hri
 have hq:∀(j:Nat) q x,qs[j]? =some q->r[j]? =some x->∃items,q.Sq s.heap items/\items[i]? =some x:=λj q x h1 h2=>by
  obtain⟨items,e1,e2⟩:=hr j q x h1 h2;obtain⟨l1,l2,l3⟩:=D.src q (aFf h1);exact⟨items,e1.to λo e=>Z.keep _ o l1 l2 l3 e,e2⟩
 have lt:∀a o,s.heap.get? a=some o->a≠s.heap.objs.size:=λa o e=>aFj (aFc e)
 have zne:s.heap.objs.size≠z:=by
  rcases Z.obj with e | ⟨_,_,_,e,_⟩ <;> exact aG6 (lt _ _ e)
 have one:s.heap.objs.size≠TO:=by obtain⟨_,_,_,e⟩:=Z.own;exact aG6 (lt _ _ e)
 have ine:∀q∈qs,s.heap.objs.size≠q.it:=λq hq=>by obtain⟨o,e,_⟩:=(Z.at_ q hq).obj;exact aG6 (lt _ _ e)
 have fin:∀h',(h'.get? z=some (vJ s.heap.objs.size false TI TO)\/∃T fl o,h'.get? z=some (vJ T fl TI TO)/\h'.get? T=some o/\o.cls= .type "tuple")->(∃(xs:List Value) (n:Nat),xs.length=qs.length/\h'.get? TO=some {cls:= .type "tuple",data:= .seq xs.toArray n})->(∀q∈qs,q.At h' (i+1))->
   h'.get? s.heap.objs.size=some {cls:= .type "tuple",data:= .seq r.toArray}->h'.objs.size=s.heap.objs.size+1->(∀c o,c≠z->c≠TO->(∀q∈qs,c≠q.it)->s.heap.get? c=some o->h'.get? c=some o)->Q (some (.ref s.heap.objs.size)) {s with heap:=h'}:=λh' o1 o2 o3 o4 o5 o6=>by
  refine hQ h' _ ⟨?_,?_,o2,o3,by simp[Z.len],λj v r' h1 h2=>?_,?_,λc o c1 c2 c3 e=>o6 c o c1 c2 c3 (Z.keep c o c1 c2 c3 e)⟩ (by lia) o6
  ·exact o1.elim (λe=>.inr ⟨_,_,_,e,o4,rfl⟩) .inr
  ·obtain⟨n,e⟩:=Z.aG;exact⟨n,o6 _ _ D.ne1 D.ne3 (λq hq=>aG6 (D.EM q hq).2.1) e⟩
  ·by_cases hj:j<vs.length
   ·rw[List.getElem?_append_left hj]at h1;obtain⟨a,e1,e2,e3,e4,e5,e6⟩:=Z.tup j v r' h1 h2;exact⟨a,e1,o6 _ _ e4 e5 e6 e2,e3,e4,e5,e6⟩
   ·have hjl:=(aF6.mp h1).1;simp at hjl;have ej:j=vs.length:=by lia
    subst ej;simp at h1;rw[Z.len,hri]at h2;cases h2;exact⟨_,h1.symm,o4,hlt,zne,one,ine⟩
  ·rw[List.nodup_append];refine⟨Z.nd,by simp,λv hv w hw=>?_⟩;obtain⟨j,hj⟩:=aFv.mp hv;have hjl:j<rows.length:=by have:=(aF6.mp hj).1;rw[Z.len]at this;lia
   obtain⟨a,e1,e2,_⟩:=Z.tup j v _ hj (aFg hjl);rw[List.mem_singleton.mp hw,e1];intro x;injection x with x;exact lt _ _ e2 x
 rcases Z.obj with e | ⟨T,fl,o,e1,e2,e3⟩
 ·refine mW D ⟨e,Z.aG,Z.own,Z.at_⟩ hne hl hq hsz λh' Z' t1 z1 k1=>fin h' (.inl Z'.obj) Z'.own Z'.at_ t1 z1 k1
 ·have hT:s.TypeIs (.ref z) "zip":=Z.type;unfold pyNext
  refine aF3 (aGn (aFp (name:=Str.ofString "__next__") hT aGh (aFm aGh hT F.entry_zip_next
   (v5 (k:=qs.length) hh D e1 ⟨_,e2⟩ Z.aG Z.at_ hne hl (aF9 _) hq hsz (λh=>absurd h (aGm _)) (λ_ h' a1 a2 a3 a4 a5=>?_) λh=>absurd h (aGm _)) (F.args_zip_next_1 _))))
  have T1:T≠z:=λx=>by subst x;rw[e1]at e2;cases e2;simp[vJ]at e3
  have T2:∀q∈qs,T≠q.it:=λq hq x=>by
   subst x;have:=Z.at_ q hq;obtain⟨it,l,t⟩:=q;cases t <;> (obtain⟨o',h1,h2,_⟩:=this;rw[e2]at h1;cases h1;rw[e3]at h2;simp at h2)
  refine aF5 (fin h' (.inr ⟨T,true,o,a1,a5 _ _ T1 T2 e2,e3⟩) ?_ a2 a3 a4 λc o c1 c2 c3 e=>a5 c o c1 c3 e);obtain⟨xs,n,l,e⟩:=Z.own;exact⟨xs,n,l,a5 _ _ D.ne2 (λq hq=>aG6 (D.EM q hq).2.2) e⟩
theorem OI{h0:Heap}{z TI TO:Addr}{qs:List Src}{rows:List (List Value)}{vs:List Value}{Q:Option Value->Shared->Prop}(hh:A.handled=none)(D:dA z TI TO qs)(hsz:qs.length<=sizeLine)(hne:qs≠[])(RR:ZR h0 qs rows)(Z:ZC h0 s.heap z TI TO qs rows rows.length vs)
  (hQ:∀h',(∀c o,c≠z->c≠TO->(∀q∈qs,c≠q.it)->s.heap.get? c=some o->h'.get? c=some o)->Q none {s with heap:=h'}):
  wpAny (model prog w) A (pyNext (.ref z)) Q E s:=by
 obtain⟨k,vals,hv,hk,hq,q',items',hq',hs',hi'⟩:=RR.fin
 have to:∀q items,q∈qs->q.Sq h0 items->q.Sq s.heap items:=λq items hm e1=>by
  obtain⟨l1,l2,l3⟩:=D.src q hm;exact e1.to λo e=>Z.keep _ o l1 l2 l3 e
 have hq2:∀(j:Nat) q x,qs[j]? =some q->vals[j]? =some x->∃items,q.Sq s.heap items/\items[rows.length]? =some x:=λj q x h1 h2=>by
  obtain⟨items,e1,e2⟩:=hq j q x h1 h2;exact⟨items,to q items (aFf h1) e1,e2⟩
 rcases Z.obj with e | ⟨T,fl,o,e1,e2,e3⟩
 ·refine oX (k:=k) hh D ⟨e,Z.aG,Z.own,Z.at_⟩ (λj q h1 h2=>?_) ⟨q',items',hq',to _ _ (aFf hq') hs',hi'⟩ hsz hQ
  obtain⟨x,hx⟩:∃x,vals[j]? =some x:=⟨_,aFg (by lia)⟩
  obtain⟨items,e1,e2⟩:=hq2 j q x h1 hx;exact⟨items,x,e1,e2⟩
 ·have hT:s.TypeIs (.ref z) "zip":=Z.type;unfold pyNext
  refine aF3 (aGn (aFp (name:=Str.ofString "__next__") hT aGh (aFm aGh hT F.entry_zip_next
   (v5 (k:=k) hh D e1 ⟨_,e2⟩ Z.aG Z.at_ hne hv (aH6 hk) hq2 hsz (λ_=>⟨q',items',hq',to _ _ (aFf hq') hs',hi'⟩) (λh=>absurd hk (by lia)) λ_ h' e kp he=>?_) (F.args_zip_next_1 _))))
  obtain⟨o,ho,hc⟩:=he;refine aF3 (aHr (T:= "StopIteration") (b:=true) ⟨o,ho,hc⟩ isSubtype_stop ?_);exact aF5 (hQ _ λc o c1 _ c3 e=>kp c o c1 c3 e)
end
structure ZF(h0 h:Heap)(z TO:Addr)(qs:List Src)(rows:List (List Value))(vs:List Value):Prop where
 len:vs.length=rows.length
 nd:vs.Nodup
 tup:∀(j:Nat) v r,vs[j]? =some v->rows[j]? =some r->∃a,v= .ref a/\h.get? a=some {cls:= .type "tuple",data:= .seq r.toArray}/\h0.objs.size<=a
 keep:∀c o,c≠z->c≠TO->(∀q∈qs,c≠q.it)->h0.get? c=some o->h.get? c=some o
section
variable {prog:Program}{w:World}{A:Around}{R:Result->Shared->Prop}{h0:Heap}{z TI TO S:Addr}{qs:List Src}{rows:List (List Value)}
theorem DD(hh:A.handled=none)(D:dA z TI TO qs)(hsz:qs.length<=sizeLine)(hne:qs≠[])(RR:ZR h0 qs rows)(hn:rows.length<=sizeLine)(hS:S≠z/\S≠TI/\S≠TO/\(∀q∈qs,S≠q.it))(hS0:h0.get? S=none)(res:Value):
  ∀(k i:Nat) (s:Shared) (acc:Array Value) (c:Nat),rows.length-i=k->i<=rows.length->ZC h0 s.heap z TI TO qs rows i acc.toList->h0.objs.size<=s.heap.objs.size->s.heap.get? S=some {cls:= .type "list",dict:=none,data:= .seq acc c,slots:= #[]}->
  (∀h' acc' c',ZF h0 h' z TO qs rows acc'.toList->h'.get? S=some {cls:= .type "list",dict:=none,data:= .seq acc' c',slots:= #[]}->R (.ok (.ret res)) {s with heap:=h'})->
  codeAny (model prog w) A (.builtin "list.extend.loop" ⟨[.ref S,.ref z,res],[]⟩) R s:=by
 intro k
 induction k with
 | zero=>
  intro i s acc c hk hi Z hlt hS1 hR;have hin:i=rows.length:=by lia
  subst hin;refine aGe F.entry_extend_loop ?_;rw[Around.under_plainId F.plain_extend_loop _];show wpAny _ A.in1 (pyNext (.ref z) >>=_) _ _ s;refine aF3 (OI hh D hsz hne RR Z λh' kp=>?_);refine aF5 (hR h' acc c ⟨Z.len,Z.nd,λj v r h1 h2=>?_,λc o c1 c2 c3 e=>kp c o c1 c2 c3 (Z.keep c o c1 c2 c3 e)⟩ (kp _ _ hS.1 hS.2.2.1 hS.2.2.2 hS1));obtain⟨a,e1,e2,e3,e4,e5,e6⟩:=Z.tup j v r h1 h2;exact⟨a,e1,kp _ _ e4 e5 e6 e2,e3⟩
 | succ k ih=>
  intro i s acc c hk hi Z hlt hS1 hR;have hlt2:i<rows.length:=by lia
  refine aGe F.entry_extend_loop ?_;rw[Around.under_plainId F.plain_extend_loop _];show wpAny _ A.in1 (pyNext (.ref z) >>=_) _ _ s;refine aF3 (OH hh D hsz hne RR Z hlt2 hlt λh' v Z' hl' kp=>?_);have hS' :=kp _ _ hS.1 hS.2.2.1 hS.2.2.2 hS1;show wpAny _ A.in1 (updateSeq S (·.push v) >>=_) _ _ _;refine aF3 ?_;have hz:acc.size=i:=by rw[<-Z.len];simp
  refine aGg hS' rfl (aF5 ⟨aGu F.plain_extend_loop _,ih (i+1) _ (acc.push v) _ (by lia) hlt2 ?_ ?_ (aG5 _ hS' rfl) λh'' acc' c' Z'' hS'' =>hR h'' acc' c' Z'' hS''⟩)
   (by rw[hz];lia) (by show (acc.push v).size<=sizeLine+1;rw[Array.size_push,hz];lia)
  ·rw[Array.toList_push];exact Z'.other hS (λo e=>by rw[hS']at e;cases e;rfl) hS0 λc o c1 e=>(aFz _ _ (aG6 c1)).trans e
  ·show _<=(Heap.update _ _ _).objs.size;rw[Heap.size_update];exact aFu hlt hl'
end
section
variable {prog:Program}{w:World}{A:Around}{E:aHx}{s:Shared}{z TI TO:Addr}{qs:List Src}{rows:List (List Value)}
theorem J3{h0 h:Heap}{z TI TO:Addr}{qs:List Src}{rows:List (List Value)}{i:Nat}{vs:List Value}(Z:ZC h0 h z TI TO qs rows i vs):h.objs.size≠z/\h.objs.size≠TI/\h.objs.size≠TO/\(∀q∈qs,h.objs.size≠q.it):=by
 have lt:∀a o,h.get? a=some o->h.objs.size≠a:=λa o e=>aHo (aFc e);refine⟨?_,?_,?_,λq hq=>?_⟩
 ·rcases Z.obj with e | ⟨_,_,_,e,_⟩ <;> exact lt _ _ e
 ·obtain⟨_,e⟩:=Z.aG;exact lt _ _ e
 ·obtain⟨_,_,_,e⟩:=Z.own;exact lt _ _ e
 ·obtain⟨o,e,_⟩:=(Z.at_ q hq).obj;exact lt _ _ e
theorem ZC.start{h:Heap}(Z:fI h z TI TO qs .none 0):ZC h h z TI TO qs rows 0 []:=⟨.inl Z.obj,Z.aG,Z.own,Z.at_,rfl,λj v r h1=>by simp at h1,List.nodup_nil,λc o _ _ _ e=>e⟩
theorem AA{R:Result->Shared->Prop}(hh:A.handled=none)(D:dA z TI TO qs)(hsz:qs.length<=sizeLine)(hne:qs≠[]){h0:Heap}(RR:ZR h0 qs rows)(hn:rows.length<=sizeLine)(Z:ZC h0 s.heap z TI TO qs rows 0 [])(hlt:h0.objs.size<=s.heap.objs.size){S:Addr}(hS:S≠z/\S≠TI/\S≠TO/\(∀q∈qs,S≠q.it))(hS0:h0.get? S=none)(res:Value){c₀:Nat}
  (hS1:s.heap.get? S=some {cls:= .type "list",data:= .seq #[] c₀})
  (hR:∀h' acc' c',ZF h0 h' z TO qs rows acc'.toList->h'.get? S=some {cls:= .type "list",dict:=none,data:= .seq acc' c',slots:= #[]}->R (.ok (.ret res)) {s with heap:=h'}):
  wpAny (model prog w) A.in1 (Builtin.List.listExtendWith (.ref S) (.ref z) res)
   (λfin s' =>match fin with | .done f=>R (.ok f) s' | .again c' =>c'.quiet=true/\codeAny (model prog w) A c' R s') (λe s' =>R (.error e) s') s:=by
 unfold Builtin.List.listExtendWith;refine aF3 (aGy Z.type ?_);have h1:Builtin.List.listSameRef (.ref S) (.ref z)=false:=by simp[Builtin.List.listSameRef,hS.1]
 have h2:(Value.type "zip"==Value.type "list")=false:=by decide
 have h3:(Value.type "zip"==Value.type "tuple")=false:=by decide
 simp only[h1,h2,h3,Bool.or_false,Bool.false_eq_true,if_false]
 have hob:s.heap.get? z=some {cls:= .type "zip",dict:=none,data:= .fields #[.none,.bool false,.bool false,.ref TI,.ref TO],slots:= #[]}\/∃T fl,s.heap.get? z=some (vJ T fl TI TO):=by
  rcases Z.obj with e | ⟨T,fl,_,e,_⟩
  ·exact .inl e
  ·exact .inr ⟨T,fl,e⟩
 have hit:∀(Q:aHx) (E:aHx),Q (.ref z) s->wpAny (model prog w) A.in1 (pyIter (.ref z)) Q E s:=λQ E q=>by
  refine aHj Z.type F.slot_zip_iter (aFm F.slot_zip_iter Z.type F.entry_zip_iter ?_ (F.args_zip_iter_1 _));exact aF5 ⟨_,rfl,"zip",_,Z.type,aGh.lookup,q⟩
 refine aF3 (hit _ _ ?_);refine aF3 (aFx ?_);unfold Builtin.List.listLengthHint;refine aF3 (wpAny_specialOf Z.type DC ?_);show wpAny _ A.in1 (specialOf (Value.ref z) (Str.ofString "__length_hint__") >>=_) _ _ _;refine aF3 (wpAny_specialOf Z.type AB ?_);refine aF5 ?_
 have key:∀(h:Heap) (c₁:Nat),ZC h0 h z TI TO qs rows 0 []->h0.objs.size<=h.objs.size->h.get? S=some {cls:= .type "list",data:= .seq #[] c₁}->codeAny (model prog w) A (.builtin "list.extend.loop" ⟨[.ref S,.ref z,res],[]⟩) R {s with heap:=h}:=λh c₁ Z1 hl hS2=>
  DD hh D hsz hne RR hn hS hS0 res rows.length 0 {s with heap:=h} #[] c₁ rfl (aGk _) Z1 hl hS2 λh' acc' c' z1 z2=>hR h' acc' c' z1 z2
 refine wpAny_ite_split (λ_=>?_) (λ_=>aF5 ⟨aGu F.plain_extend_loop _,key _ c₀ Z hlt hS1⟩);refine aF3 (aGc ?_);refine aF3 ?_;show wpAny _ A.in1 (updateSeq S (·.push .none) >>=λ_=>updateSeq S (·.pop)) _ _ _;refine aF3 (aGg hS1 rfl ?_);have hS₂:=aG5 (Obj.mapSeq (·.push Value.none)) hS1 rfl;refine aGg (hz:=by seq_fits) hS₂ rfl ?_;have hS₃:=aG5 (Obj.mapSeq (·.pop)) hS₂ rfl;refine aF5 ⟨aGu F.plain_extend_loop _,key _ _ ?_ ?_ hS₃⟩
 ·refine Z.other hS (λo e=>by rw[hS1]at e;cases e;rfl) hS0 λc o c1 e=>?_;exact(aFz _ _ (aG6 c1)).trans ((aFz _ _ (aG6 c1)).trans e)
 ·rw[Heap.size_update,Heap.size_update];exact hlt
theorem ZC.push{h0 h:Heap}{i:Nat}{vs:List Value}(Z:ZC h0 h z TI TO qs rows i vs)(o:Obj):ZC h0 (h.push o) z TI TO qs rows i vs:=by
 have up:∀c o',h.get? c=some o' ->(h.push o).get? c=some o' :=λc o' e=>aF4 _ e;refine⟨?_,?_,?_,λq hq=>(Z.at_ q hq).to λo' e=>up _ _ e,Z.len,λj v r h1 h2=>?_,Z.nd,λc o' c1 c2 c3 e=>up _ _ (Z.keep c o' c1 c2 c3 e)⟩
 ·rcases Z.obj with e | ⟨T,fl,o',e1,e2,e3⟩
  ·exact .inl (up _ _ e)
  ·exact .inr ⟨T,fl,o',up _ _ e1,up _ _ e2,e3⟩
 ·obtain⟨n,e⟩:=Z.aG;exact⟨n,up _ _ e⟩
 ·obtain⟨xs,n,l,e⟩:=Z.own;exact⟨xs,n,l,up _ _ e⟩
 ·obtain⟨a,e1,e2,e3⟩:=Z.tup j v r h1 h2;exact⟨a,e1,up _ _ e2,e3⟩
theorem AD{Q:List Value->Shared->Prop}(hh:A.handled=none)(D:dA z TI TO qs)(hsz:qs.length<=sizeLine)(hne:qs≠[])(Z0:fI s.heap z TI TO qs .none 0)(RR:ZR s.heap qs rows)(hn:rows.length<=sizeLine)
  (hQ:∀h' vs,ZF s.heap h' z TO qs rows vs->s.heap.objs.size<h'.objs.size->Q vs {s with heap:=h'}):wpAny (model prog w) A (collect (.ref z)) Q E s:=by
 have Z:ZC s.heap s.heap z TI TO qs rows 0 []:=ZC.start Z0;unfold collect;refine aF3 (wpAny_runValue (aGe F.entry_proto_collect ?_));rw[Around.under_plainId F.plain_proto_collect _];show wpAny _ A.in1 (newList [] >>=λl=>again (.builtin "list.__iadd__" ⟨[l,.ref z],[]⟩)) _ _ s;refine aF3 (aFt ?_);refine aF5 ⟨aGu F.plain_list_iadd _,aGe F.entry_list_iadd ?_⟩;rw[Around.under_plainId F.plain_list_iadd _];have hS₁:(s.heap.push {cls:= .type "list",data:= .seq ([]:List Value).toArray}).get? s.heap.objs.size=some {cls:= .type "list",data:= .seq #[]}:=aFa _ rfl
 have hS0:s.heap.get? s.heap.objs.size=none:=by
  cases e:s.heap.get? s.heap.objs.size with
  | none=>rfl
  | some o=>exact absurd (aFc e) (aGm _)
 show wpAny _ A.in1 (Builtin.List.listExtendWith (.ref s.heap.objs.size) (.ref z) (.ref s.heap.objs.size)) _ _ _
 have key:=AA (prog:=prog) (w:=w) (A:=A) (s:={s with heap:=s.heap.push {cls:= .type "list",data:= .seq ([]:List Value).toArray}})
  (R:=λ(q:Result) (s' :Shared)=>∃(h' :Heap) (acc' :Array Value) (c' :Nat),q= .ok (.ret (.ref s.heap.objs.size))/\s' ={s with heap:=h'}/\ZF s.heap h' z TO qs rows acc'.toList/\h'.get? s.heap.objs.size=some {cls:= .type "list",dict:=none,data:= .seq acc' c',slots:= #[]})
  hh D hsz hne RR hn (Z.push _) (by rw[size_push'];lia) (J3 Z) hS0 (.ref s.heap.objs.size) hS₁ (λh' acc' c' z1 z2=>⟨h',acc',c',rfl,rfl,z1,z2⟩)
 refine aGs key (λfin s' x=>?_) λe s' x=>?_
 ·cases fin with
  | done f=>
   obtain⟨h',acc',c',e,rfl,z1,hS'⟩:=x;cases e;show wpAny _ A (load s.heap.objs.size >>=_) _ _ _;refine aF3 (wpAny_load hS' ?_);exact aF5 (hQ h' _ z1 (aFc hS'))
  | again c₁=>
   refine⟨x.1,aHp x.2 λq s₂ y=>?_⟩;obtain⟨h',acc',c',rfl,rfl,z1,hS'⟩:=y;show wpAny _ A (load s.heap.objs.size >>=_) _ _ _;refine aF3 (wpAny_load hS' ?_);exact aF5 (hQ h' _ z1 (aFc hS'))
 ·obtain⟨_,_,_,e',_⟩:=x;cases e'
theorem u7{Q₁:aHx}(hh:A.handled=none)(D:dA z TI TO qs)(hsz:qs.length<=sizeLine)(hne:qs≠[])(Z0:fI s.heap z TI TO qs .none 0)(RR:ZR s.heap qs rows)(hn:rows.length<=sizeLine)
  (h:∀h' vs,ZF s.heap h' z TO qs rows vs->s.heap.objs.size<h'.objs.size->Q₁ (.ref h'.objs.size) {s with heap:=h'.push {cls:= .type "tuple",data:= .seq vs.toArray}}):
  codeAny (model prog w) A (.call (.builtin "tuple.__new__") ⟨[.type "tuple",.ref z],[]⟩) (wants Q₁ E) s:=by
 refine codeAny_of_tree ?_;show wpAny _ A.in1 (do checkBuiltinCall "tuple.__new__" ⟨[.type "tuple",.ref z],[]⟩;again (.builtin "tuple.__new__" ⟨[.type "tuple",.ref z],[]⟩)) _ _ s;refine aF3 (aHk (F.newCall_tuple_1 _) (aF5 ⟨aGu F.plain_tuple_new _,aGe F.entry_tuple_new ?_⟩));rw[Around.under_plainId F.plain_tuple_new _];have hsub:=sub_tuple_self;have hinit:=init_tuple_lookup;have hmh:=madeHere_tuple
 have hTI:s.TypeIs (.ref z) "zip":=⟨_,Z0.obj,rfl⟩
 wp_walk using aGy hTI,AD (A:=A.in1) hh D hsz hne Z0 RR hn
 intro h' vs zf hsl;show wpAny _ _ (Builtin.Tuple.tupleExact vs.toArray >>=λv=>ret v) _ _ _;unfold Builtin.Tuple.tupleExact;refine aF3 (aFt ?_ (by show vs.toArray.size<=sizeLine;simp only[List.size_toArray];rw[zf.len];exact hn));refine aF5 ?_;exact h h' vs zf hsl
theorem vA{Q:aHx}(hh:A.handled=none)(D:dA z TI TO qs)(hsz:qs.length<=sizeLine)(hne:qs≠[])(Z0:fI s.heap z TI TO qs .none 0)(RR:ZR s.heap qs rows)(hn:rows.length<=sizeLine)
  (hQ:∀h' vs,ZF s.heap h' z TO qs rows vs->s.heap.objs.size<h'.objs.size->Q (.ref h'.objs.size) {s with heap:=h'.push {cls:= .type "tuple",data:= .seq vs.toArray}}):
  wpAny (model prog w) A (call (.type "tuple") [.ref z]) Q E s:=by
 refine callType_codes (Q₁:=λobj s₁=>s₁.TypeIs obj "tuple"/\Q obj s₁) F.called_tuple (F.typeCall_tuple_1 _) F.entry_object_init
  (u7 hh D hsz hne Z0 RR hn λh' vs zf hsl=>⟨⟨_,aFa _ rfl,rfl⟩,hQ h' vs zf hsl⟩) λobj s₁ h₁=>?_
 exact⟨h₁.1,F.args_object_init_2 obj _,object_init_meets F.called_tuple.init.lookup F.called_tuple.made (by decide) prog w A.in1 _ s₁ ⟨h₁.1,rfl,h₁.2⟩⟩
theorem vU{Q:aHx}(hh:A.handled=none)(D:dA z TI TO qs)(hsz:qs.length<=sizeLine)(hne:qs≠[])(Z0:fI s.heap z TI TO qs .none 0)(RR:ZR s.heap qs rows)(hn:rows.length<=sizeLine)
  (hQ:∀h' vs c,ZF s.heap h' z TO qs rows vs->h'.get? s.heap.objs.size=some {cls:= .type "list",dict:=none,data:= .seq vs.toArray c,slots:= #[]}->Q (.ref s.heap.objs.size) {s with heap:=h'}):
  wpAny (model prog w) A (call (.type "list") [.ref z]) Q E s:=by
 have Z:ZC s.heap s.heap z TI TO qs rows 0 []:=ZC.start Z0
 refine callType_codes (Q₁:=λobj s₁=>obj= .ref s.heap.objs.size/\s₁={s with heap:=s.heap.push {cls:= .type "list",data:= .seq #[]}}) PySem.F.called_list (PySem.F.typeCall_list_1 _) PySem.F.entry_list_init
  (code_list_new _ ⟨rfl,rfl⟩) λobj s₁ h₁=>?_
 obtain⟨rfl,rfl⟩:=h₁;have hS:(s.heap.push {cls:= .type "list",data:= .seq #[]}).get? s.heap.objs.size=some {cls:= .type "list",data:= .seq #[]}:=aFa _ rfl
 have hS0:s.heap.get? s.heap.objs.size=none:=by
  cases e:s.heap.get? s.heap.objs.size with
  | none=>rfl
  | some o=>exact absurd (aFc e) (aGm _)
 refine⟨⟨_,hS,rfl⟩,PySem.F.args_list_init_2 _ _,?_⟩;show wpAny _ _ (do let old<-Builtin.List.listItems (.ref s.heap.objs.size);Builtin.List.listUpdate (.ref s.heap.objs.size) (λ_=>#[]);letGo old.toList.reverse;Builtin.List.listExtendWith (.ref s.heap.objs.size) (.ref z) .none) _ _ _;refine aF3 ?_;unfold Builtin.List.listItems;refine aF3 (aG2 hS rfl (aF5 ?_));show wpAny _ _ (updateSeq s.heap.objs.size (λ_=>#[]) >>=λ_=>letGo (#[]:Array Value).toList.reverse >>=λ_=>Builtin.List.listExtendWith (.ref s.heap.objs.size) (.ref z) .none) _ _ _;refine aF3 (aGg hS rfl ?_);have hS₂:=aG5 (Obj.mapSeq (λ_=>(#[]:Array Value))) hS rfl;refine aF3 (wpAny_letGo ?_);refine AA (A:=A.in1) hh D hsz hne RR hn ((Z.push _).other (J3 Z) (λo e=>by rw[hS]at e;cases e;rfl) hS0 λc o c1 e=>(aFz _ _ (aG6 c1)).trans e) ?_ (J3 Z) hS0 .none hS₂ λh' acc' c' z1 z2=>?_
 ·rw[Heap.size_update,size_push'];lia
 ·exact⟨rfl,hQ h' acc'.toList c' z1 (by simpa using z2)⟩
end
section
variable {X:Cx}{pins:List (Addr×Obj)}{σ:St}{H H' :Hp}{s:Shared}
theorem Inv.XS{fp:List Addr}{h' :Heap}{t' :Nat}(I:Inv X pins σ H s)(hf:∀b∈fp,nR X pins H b)(k:∀b o,b∉fp->s.heap.get? b=some o->h'.get? b=some o)
  (hold:∀b,b<s.heap.objs.size->H' b=H b) (new:∀b o,s.heap.objs.size<=b->H' b=some o->bX X.prog X.w H' h' b o):Inv X pins σ H' {s with heap:=h',toks:=t'}:=by
 have ntr:∀b u,H b=some u->b∉fp:=λb u e z=>by rw[(hf b z).1]at e;cases e
 have up:∀b u,H b=some u->H' b=some u:=λb u e=>by rw[hold b (I.bG b u e).lt];exact e
 refine I.step (g' :=s.gens) (d' :=s.drawn) (ch:=fp) (λb hb=>⟨(hf b hb).2.2.2.1,(hf b hb).2.1,(hf b hb).2.2.2.2.1,(hf b hb).2.2.2.2.2⟩) (λb o _ _ hc e _=>k b o hc e) (λb o _ _ hc e _=>⟨o.slots,k b o hc e⟩)
  (λb o _ e n=>by rw[hold b (Heap.lt_size e)];exact n) (λb o hc e=>⟨o,k b o hc e⟩) (λb xs e=>up _ _ e) (λb o u e=>up _ _ e)
  (λb ps e=>⟨#[],by rw[up _ _ e];simp⟩) (λm hm=>?_) (λb u e=>?_) I.bare
 ·obtain⟨o,es,ep,ho,r⟩:=hm;exact⟨o,es,ep,k _ o (λz=>(hf _ z).2.1 rfl) ho,r⟩
 ·by_cases hb:b<s.heap.objs.size
  ·rw[hold b hb]at e;refine(I.bG b u e).n9 (λc v hc q=>k c v ?_ q) (λc q=>up _ _ q) λc xs q=>up _ _ q;rcases hc with rfl | hc
   ·exact ntr _ u e
   ·exact ntr _ _ hc
  ·exact new b u (aHq hb) e
end
structure N5{α:Type}(cols rows:List (List α)):Prop where
 row:∀(i:Nat) r,rows[i]? =some r->r.length=cols.length/\∀(j:Nat) xs x,cols[j]? =some xs->r[j]? =some x->xs[i]? =some x
 fin:∃(k:Nat) (vals:List α) (xs:List α),vals.length=k/\cols[k]? =some xs/\xs[rows.length]? =none/\∀(j:Nat) ys x,cols[j]? =some ys->vals[j]? =some x->ys[rows.length]? =some x
open Classical in
noncomputable def p5(H:Hp):List Addr->List (List V)->Hp
 | a::as,r::rs=>upd (p5 H as rs) a (.tup r)
 | _,_=>H
theorem iE{H:Hp}:∀{as:List Addr} {rs:List (List V)} {b:Addr},b∉as->p5 H as rs b=H b
 | [],rs,b,_=>by cases rs <;> rfl
 | a::as,[],b,_=>rfl
 | a::as,r::rs,b,h=>by
  simp only[List.mem_cons,not_or]at h;show upd (p5 H as rs) a (.tup r) b=H b;rw[aM h.1];exact iE h.2
theorem xU{H:Hp}:∀{as:List Addr} {rs:List (List V)} {j:Nat} {a:Addr} {r:List V},as.Nodup->as[j]? =some a->rs[j]? =some r->p5 H as rs a=some (.tup r)
 | [],rs,j,a,r,_,h,_=>by simp at h
 | a' ::as,[],j,a,r,_,_,h=>by simp at h
 | a' ::as,r' ::rs,0,a,r,_,h1,h2=>by
  simp at h1 h2;subst h1 h2;show upd _ _ _ _=_;rw[bK]
 | a' ::as,r' ::rs,j+1,a,r,nd,h1,h2=>by
  simp at h1 h2;have hne:a≠a' :=λz=>(aGq.mp nd).1 (z▸aFf h1);show upd _ _ _ _=_;rw[aM hne];exact xU (aGq.mp nd).2 h1 h2
theorem J2{H:Hp}:∀{as:List Addr} {rs:List (List V)} {b:Addr} {o:HO},as.Nodup->b∈as->(∀a∈as,H a=none)->p5 H as rs b=some o->∃(j:Nat) (r:List V),as[j]? =some b/\rs[j]? =some r/\o= .tup r
 | as,rs,b,o,nd,hb,hn,e=>by
  obtain⟨j,hj⟩:=aFv.mp hb
  cases hr:rs[j]? with
  | some r=>rw[xU nd hj hr]at e;cases e;exact⟨j,r,hj,hr,rfl⟩
  | none=>
   exfalso
   have go:∀{as:List Addr} {rs:List (List V)} {j:Nat},as.Nodup->as[j]? =some b->rs[j]? =none->p5 H as rs b=H b:=by
    intro as
    induction as with
    | nil=>intro rs j _ h _;simp at h
    | cons a as ih=>
     intro rs j nd h1 h2
     cases rs with
     | nil=>rfl
     | cons r rs=>
      cases j with
      | zero=>simp at h2
      | succ j=>
       simp at h1 h2;have hne:b≠a:=λz=>(aGq.mp nd).1 (z▸aFf h1);show upd _ _ _ _=_;rw[aM hne];exact ih (aGq.mp nd).2 h1 (by simpa using h2)
   rw[go nd hj hr,hn b hb]at e;cases e
def T4(K:aHw)(T:String)(n:Nat)(ta:TA):TE:=λσ H Q=>ta σ H λvs H1=>∃(src:List (Addr×Bool)) (cols rows:List (List V)),vs=src.map (λp=>V.ref p.1)/\src.length=n/\cols.length=n/\(∀(j:Nat) p xs,src[j]? =some p->cols[j]? =some xs->HC K H1 p.2 p.1 xs)/\
 N5 cols rows/\rows.length<=sizeLine/\∀(as:List Addr) (p:Addr),as.length=rows.length->as.Nodup->(∀a∈as,H1 a=none)->H1 p=none->p∉as->Q (.ref p) (upd (p5 H1 as rows) p (if T= "tuple" then .tup (as.map .ref) else .lst (as.map .ref)))
theorem kB:∀(as:List Addr),Vals (as.map V.ref) (as.map Value.ref)
 | []=>.nil
 | a::as=>.cons rfl (kB as)
theorem aA0{P:Nat->List Value->List V->Prop}:∀{rs:List (List V)},(∀(i:Nat) r,rs[i]? =some r->∃us,P i us r)->∃uss:List (List Value),uss.length=rs.length/\∀(i:Nat) us r,uss[i]? =some us->rs[i]? =some r->P i us r:=by
 intro rs
 induction rs generalizing P with
 | nil=>intro _;exact⟨[],rfl,λi us r h=>by simp at h⟩
 | cons r rs ih=>
  intro h;obtain⟨us,hu⟩:=h 0 r rfl;obtain⟨uss,hl,hp⟩:=ih (P:=λi=>P (i+1)) λi r hr=>h (i+1) r (by simpa using hr);refine⟨us::uss,by simp[hl],λi us' r' h1 h2=>?_⟩
  cases i with
  | zero=>simp at h1 h2;subst h1 h2;exact hu
  | succ i=>exact hp i us' r' (by simpa using h1) (by simpa using h2)
theorem FK{X:Cx}{pins:List (Addr×Obj)}{σ:St}{H1:Hp}{s1:Shared}{h' :Heap}{T:String}{rows:List (List V)}{uss:List (List Value)}{vs:List Value}{zz TO:Addr}{qs:List Src}{p:Addr}{c:Nat}(I1:Inv X pins σ H1 s1)(fpo:∀b,b=zz\/b=TO\/(∃q∈qs,b=q.it)->nR X pins H1 b)
  (hT:T= "tuple"\/T= "list") (hl:uss.length=rows.length) (hv:∀(i:Nat) us r,uss[i]? =some us->rows[i]? =some r->Vals r us) (hn:rows.length<=sizeLine) (hn2:∀r∈rows,r.length<=sizeLine)
  (zf:ZF s1.heap h' zz TO qs uss vs) (hp:s1.heap.objs.size<=p) (ho:h'.get? p=some {cls:= .type T,dict:=none,data:= .seq vs.toArray c,slots:= #[]}) (hpt:∀(j:Nat) a,vs[j]? =some (.ref a)->a≠p):
  ∃as:List Addr,as.length=rows.length/\as.Nodup/\(∀a∈as,H1 a=none)/\H1 p=none/\p∉as/\Inv X pins σ (upd (p5 H1 as rows) p (if T= "tuple" then .tup (as.map .ref) else .lst (as.map .ref))) {s1 with heap:=h'}:=by
 have hx:∀v∈vs,∃a,v= .ref a:=λv hv=>by
  obtain⟨j,hj⟩:=aFv.mp hv;have hjl:j<uss.length:=by have:=(aF6.mp hj).1;rw[zf.len]at this;exact this
  obtain⟨a,e,_⟩:=zf.tup j v _ hj (aFg hjl);exact⟨a,e⟩
 obtain⟨as,rfl⟩:∃as:List Addr,vs=as.map Value.ref:=by
  clear zf ho hpt
  induction vs with
  | nil=>exact⟨[],rfl⟩
  | cons v vs ih=>
   obtain⟨a,rfl⟩:=hx v (by simp);obtain⟨as,rfl⟩:=ih λv hv=>hx v (by simp[hv]);exact⟨a::as,rfl⟩
 have hal:as.length=rows.length:=by have:=zf.len;simp at this;lia
 have nd:as.Nodup:=by
  have:=zf.nd;rw[List.nodup_iff_pairwise_ne]at this⊢;rw[List.pairwise_map]at this;exact this.imp λh z=>h (by rw[z])
 have at_:∀(j:Nat) a r,as[j]? =some a->rows[j]? =some r->∃us,Vals r us/\h'.get? a=some {cls:= .type "tuple",data:= .seq us.toArray}/\s1.heap.objs.size<=a:=λj a r h1 h2=>by
  have hjl:j<uss.length:=by have:=(aF6.mp h2).1;lia
  have hu:=aFg hjl;obtain⟨a',e1,e2,e3⟩:=zf.tup j (.ref a) _ (by rw[List.getElem?_map,h1];rfl) hu;cases e1;exact⟨_,hv j _ r hu h2,e2,e3⟩
 have new:∀a∈as,s1.heap.objs.size<=a:=λa ha=>by
  obtain⟨j,hj⟩:=aFv.mp ha;have hjl:j<rows.length:=by have:=(aF6.mp hj).1;lia
  obtain⟨_,_,_,h⟩:=at_ j a _ hj (aFg hjl);exact h
 have hfr:∀a∈as,H1 a=none:=λa ha=>I1.bG.fresh (new a ha)
 have hpn:p∉as:=λha=>by
  obtain⟨j,hj⟩:=aFv.mp ha;exact hpt j p (by rw[List.getElem?_map,hj];rfl) rfl
 refine⟨as,hal,nd,hfr,I1.bG.fresh hp,hpn,?_⟩;refine I1.XS (fp:=zz::TO::qs.map (·.it)) (t' :=s1.toks) (λb hb=>fpo b ?_) (λb o hb e=>zf.keep b o (λz=>hb (by simp[z])) (λz=>hb (by simp[z])) (λq hq z=>hb (by simp;exact .inr (.inr ⟨q,hq,z.symm⟩))) e) (λb hb=>?_) (λb o hb e=>?_)
 ·simp at hb;rcases hb with rfl | rfl | ⟨q,hq,rfl⟩
  ·exact .inl rfl
  ·exact .inr (.inl rfl)
  ·exact .inr (.inr ⟨q,hq,rfl⟩)
 ·rw[aM (Nat.ne_of_lt (Nat.lt_of_lt_of_le hb hp)),iE λha=>Nat.lt_irrefl _ (Nat.lt_of_lt_of_le hb (new b ha))]
 ·by_cases hbp:b=p
  ·subst hbp;rw[bK]at e;cases e;rcases hT with rfl | rfl
   ·simp only[if_true];exact⟨by simp;lia,_,kB as,⟨_,ho,rfl,c,rfl⟩,λo' e' =>by rw[ho]at e';cases e';rfl⟩
   ·rw[if_neg (by decide)];exact⟨by simp;lia,_,c,kB as,ho⟩
  ·rw[aM hbp]at e;by_cases hba:b∈as
   ·obtain⟨j,r,h1,h2,rfl⟩:=J2 nd hba hfr e;obtain⟨us,v,g,_⟩:=at_ j b r h1 h2;exact⟨hn2 r (aFf h2),us,v,⟨_,g,rfl,0,rfl⟩,λo' e' =>by rw[g]at e';cases e';rfl⟩
   ·rw[iE hba,I1.bG.fresh hb]at e;cases e
theorem UX{X:Cx}{n:Nat}{T:String}{t:Str}{e:Expr}{es:List Expr}{ta:TA}{p0 p1 pos pos1:Pos}(z:SE n)(hn:0<n/\n<=1000)(hc:X.calm=true)(hT:(t= "tuple"/\T= "tuple")\/(t= "list"/\T= "list"))(hgT:Gl X t)(hmT:X.mg t=none)(hvT:bootBuiltins t=some (.type T))(hg:Gl X "zip")(hm:X.mg "zip"=none)(ha:PA X (e::es) ta)
  (hv:bootBuiltins "zip"=some (.type "zip"):=by decide+kernel)
  (he:starEach (e::es) X.env=(false,eval e X.env)::starEach es X.env:=by rfl) (hpl:(backTo pos (starEach es X.env)).any (·.1)=false:=by rfl)
  (he1:starEach [.Call (.Name "zip" p0) (e::es) [] pos] X.env=(false,eval (.Call (.Name "zip" p0) (e::es) [] pos) X.env)::starEach [] X.env:=by rfl) (hpl1:(backTo pos1 (starEach [] X.env)).any (·.1)=false:=by rfl):
  PE X (.Call (.Name t p1) [.Call (.Name "zip" p0) (e::es) [] pos] [] pos1) (T4 X.K T n ta):=by
 intro pins s σ H Q I h;have hTT:T= "tuple"\/T= "list":=hT.elim (λh=>.inl h.2) λh=>.inr h.2;refine aGz (kZ I hgT hmT hvT ?_ (by rcases hT with ⟨rfl,_⟩ | ⟨rfl,_⟩ <;> decide) (by rcases hT with ⟨rfl,_⟩ | ⟨rfl,_⟩ <;> decide));refine aGb ?_ he1 hpl1;rw[he1];show wpAny _ _ (spliced ((false,eval (.Call (.Name "zip" p0) (e::es) [] pos) X.env)::backTo pos1 (starEach [] X.env))) _ _ s;refine Calls.spliced_cons ?_;refine aGz (kZ I hg hm hv ?_);refine aGb (cM (ha pos pins s σ H _ I h) λus s1 ⟨vs,H1,I1,r1,q1⟩=>?_) he hpl;obtain⟨src,cols,rows,rfl,hl,hcl,hs,RO,hrl,hR⟩:=q1;have hu:=fY r1;subst hu;have em:(src.map λp=>Value.ref p.1)=(src.map λp=>(⟨0,p.1,p.2⟩:Src)).map λq=>Value.ref q.l:=by rw[List.map_map];rfl
 have hz:src.length<=sizeLine:=aH6 (wH (by lia))
 have col:∀(j:Nat) p,src[j]? =some p->∃xs,cols[j]? =some xs/\HC X.K H1 p.2 p.1 xs:=λj p hj=>by
  have hjl:j<cols.length:=by have:=(aF6.mp hj).1;lia
  exact⟨_,aFg hjl,hs j p _ hj (aFg hjl)⟩
 rw[em];refine xK (by simpa using hz) (z.t _ (by simpa using hl)) (z.n _ (by simpa using hl)) (λobj=>z.i _ obj (by simpa using hl)) (λq hq=>?_) λh' zz TI TO t1 t2 t3 D Z kp=>?_
 ·obtain⟨p,hp,rfl⟩:=aFi.mp hq;obtain⟨j,hj⟩:=aFv.mp hp;obtain⟨xs,_,hx⟩:=col j p hj;obtain⟨aG,_,hsq⟩:=I1.YM hx;exact⟨aG.toArray,hsq 0⟩
 ·generalize hqs:bN s1.heap.objs.size (src.map λp=>(⟨0,p.1,p.2⟩:Src))=qs at D Z;have hql:qs.length=src.length:=by rw[<-hqs,e7];simp
  have hqsrc:(qs.map λq=>(q.l,q.tup))=src:=by rw[<-hqs];exact nG _ _
  have I2:Inv X pins σ H1 {s1 with heap:=h'}:=I1.kept (t' :=s1.toks) kp
  have fpo:∀b,b=zz\/b=TO\/(∃q∈qs,b=q.it)->nR X pins H1 b:=λb hb=>by
   have hb0:s1.heap.objs.size<=b:=by
    rcases hb with rfl | rfl | ⟨q,hq,rfl⟩
    ·exact t3
    ·exact t2
    ·rw[<-hqs]at hq;exact(dN hq).1
   exact(I1.JC hb0 (I1.bG.fresh hb0):nR X pins H1 b)
  have hqj:∀(j:Nat) q,qs[j]? =some q->∃xs aG,cols[j]? =some xs/\Vals xs aG/\q.Sq h' aG.toArray:=λj q hj=>by
   have h1:src[j]? =some (q.l,q.tup):=by rw[<-hqsrc,List.getElem?_map,hj];rfl
   obtain⟨xs,e1,hx⟩:=col j _ h1;obtain⟨aG,r,hsq⟩:=I2.YM hx;exact⟨xs,aG,e1,r,hsq q.it⟩
  have hne:qs≠[]:=by intro e0;rw[e0]at hql;simp at hql;lia
  have colq:∀(j:Nat) xs,cols[j]? =some xs->∃q,qs[j]? =some q:=λj xs hj=>by
   have:j<qs.length:=by have:=(aF6.mp hj).1;lia
   exact⟨_,aFg this⟩
  have pickRow:∀(i:Nat) (vals:List V),(∀(j:Nat) xs x,cols[j]? =some xs->vals[j]? =some x->xs[i]? =some x)->vals.length<=cols.length->∃us:List Value,Vals vals us/\∀(j:Nat) q u,qs[j]? =some q->us[j]? =some u->∃items,q.Sq h' items/\items[i]? =some u:=λi vals hh hvl=>by
   obtain⟨us,ru,pu⟩:=LD (P:=λj u=>∀q,qs[j]? =some q->∃items,q.Sq h' items/\items[i]? =some u) (vs:=vals) λj v ev=>by
    have hjl:j<qs.length:=by have:=(aF6.mp ev).1;lia
    obtain⟨xs,aG,e1,r,hsq⟩:=hqj j _ (aFg hjl);obtain⟨u,hu,ru⟩:=r.get (hh j xs v e1 ev);refine⟨u,ru,λq hq=>?_⟩;rw[List.getElem?_eq_getElem hjl]at hq;cases hq;exact⟨aG.toArray,hsq,by simpa using hu⟩
   exact⟨us,ru,λj q u hq hu=>pu j u hu q hq⟩
  obtain⟨uss,hul,hup⟩:=aA0 (P:=λi us r=>Vals r us/\∀(j:Nat) q u,qs[j]? =some q->us[j]? =some u->∃items,q.Sq h' items/\items[i]? =some u) (rs:=rows) λi r hr=>by
   obtain⟨e1,e2⟩:=RO.row i r hr;exact pickRow i r e2 (by lia)
  have RR:ZR h' qs uss:=by
   refine⟨λi us hus=>?_,?_⟩
   ·have hil:i<rows.length:=by have:=(aF6.mp hus).1;lia
    obtain⟨v,w⟩:=hup i us _ hus (aFg hil);refine⟨?_,w⟩;have:=(RO.row i _ (aFg hil)).1;rw[<-v.length,this];lia
   ·obtain⟨k,vals,xs,e1,e2,e3,e4⟩:=RO.fin;have hkl:k<cols.length:=(aF6.mp e2).1;obtain⟨us,ru,pu⟩:=pickRow rows.length vals e4 (by lia);obtain⟨q,hq⟩:=colq k xs e2;obtain⟨xs',aG,g1,g2,g3⟩:=hqj k q hq;rw[e2]at g1;cases g1;refine⟨k,us,by rw[<-ru.length];exact e1,by lia,λj q u a b=>by rw[hul];exact pu j q u a b,q,aG.toArray,hq,g3,?_⟩;rw[hul,List.getElem?_toArray];exact g2.none_of e3
  have hh:X.A.handled=none:=I.ok.hd hc
  have hrr:∀r∈rows,r.length<=sizeLine:=λr hr=>by
   obtain⟨i,hi⟩:=aFv.mp hr;have:=(RO.row i r hi).1;lia
  refine Calls.spliced_nil ?_;have fpo2:∀b,b=zz\/b=TO\/(∃q∈qs,b=q.it)->nR X pins H1 b:=fpo;rcases hTT with rfl | rfl
  ·refine vA hh D (by lia) hne Z RR (by lia) λh2 vs zf hsl=>?_
   have zf2:ZF h' (h2.push {cls:= .type "tuple",data:= .seq vs.toArray}) zz TO qs uss vs:=⟨zf.len,zf.nd,λj v r a b=>by obtain⟨x,y1,y2,y3⟩:=zf.tup j v r a b;exact⟨x,y1,aF4 _ y2,y3⟩,λc o c1 c2 c3 e=>aF4 _ (zf.keep c o c1 c2 c3 e)⟩
   obtain⟨as,a1,a2,a3,a4,a5,a6⟩:=FK (s1:={s1 with heap:=h'}) (T:= "tuple") (p:=h2.objs.size) (c:=0) I2 fpo (.inl rfl) hul (λi us r h1 h2=>(hup i us r h1 h2).1) hrl hrr zf2 (aH6 hsl) (aFa _ rfl) (λj a ha=>by
    have hjl:j<uss.length:=by have:=(aF6.mp ha).1;rw[zf.len]at this;exact this
    obtain⟨x,y1,y2,_⟩:=zf.tup j _ _ ha (aFg hjl);cases y1
    exact aFj (aFc y2))
   exact⟨.ref h2.objs.size,_,a6,rfl,hR as _ a1 a2 a3 a4 a5⟩
  ·refine vU hh D (by lia) hne Z RR (by lia) λh2 vs c zf hob=>?_
   obtain⟨as,a1,a2,a3,a4,a5,a6⟩:=FK (s1:={s1 with heap:=h'}) (T:= "list") (p:=h'.objs.size) (c:=c) I2 fpo (.inr rfl) hul (λi us r h1 h2=>(hup i us r h1 h2).1) hrl hrr zf (aF9 _) hob (λj a ha z=>by
    have hjl:j<uss.length:=by have:=(aF6.mp ha).1;rw[zf.len]at this;exact this
    obtain⟨x,y1,y2,_⟩:=zf.tup j _ _ ha (aFg hjl);cases y1;rw[z,hob]at y2;injection y2 with y2;injection y2 with y2
    simp at y2)
   exact⟨.ref h'.objs.size,_,a6,rfl,hR as _ a1 a2 a3 a4 a5⟩
end L2
namespace D3
open PySem PySem.Spec PyProof.Rows L2
def aL{α:Type}:List (List α)->List (List α)
 | []=>[]
 | [c]=>c.map λx=>[x]
 | c::d::cs=>List.zipWith List.cons c (aL (d::cs))
theorem rowsOf{α:Type}:∀(cols:List (List α)),cols≠[]->N5 cols (aL cols)
 | [],h=>absurd rfl h
 | [c],_=>by
  refine⟨λi r h=>?_,0,[],c,rfl,rfl,by simp[aL],λj ys x _ h=>by simp at h⟩;simp only[aL,List.getElem?_map]at h;obtain⟨x,hx,rfl⟩:=aG0.mp h;refine⟨rfl,λj xs y h1 h2=>?_⟩
  cases j with
  | zero=>simp at h1 h2;subst h1 h2;exact hx
  | succ j=>simp at h2
 | c::d::cs,_=>by
  have ih:=rowsOf (d::cs) (by simp);simp only[aL];generalize aL (d::cs)=rs at ih;refine⟨λi r h=>?_,?_⟩
  ·rw[List.getElem?_zipWith]at h
   cases h1:c[i]? with
   | none=>simp[h1]at h
   | some x=>
    cases h2:rs[i]? with
    | none=>simp[h1,h2]at h
    | some r' =>
     simp[h1,h2]at h;subst h;obtain⟨e1,e2⟩:=ih.row i r' h2;refine⟨by simp[e1],λj xs y g1 g2=>?_⟩
     cases j with
     | zero=>simp at g1 g2;subst g1 g2;exact h1
     | succ j=>exact e2 j xs y (by simpa using g1) (by simpa using g2)
  ·by_cases hl:c.length<=rs.length
   ·refine⟨0,[],c,rfl,rfl,?_,λj ys x _ h=>by simp at h⟩;rw[List.length_zipWith,Nat.min_eq_left hl];simp
   ·obtain⟨k,vals,xs,g1,g2,g3,g4⟩:=ih.fin;have e:(List.zipWith List.cons c rs).length=rs.length:=by rw[List.length_zipWith];lia
    refine⟨k+1,c[rs.length]'(by lia)::vals,xs,by simp[g1],by simpa using g2,by rw[e];exact g3,λj ys x h1 h2=>?_⟩;rw[e]
    cases j with
    | zero=>simp at h1 h2;subst h1 h2;exact aFg _
    | succ j=>exact g4 j ys x (by simpa using h1) (by simpa using h2)
def kL(mh:MH):List D->Option (List (List D))
 | []=>some []
 | x::xs=>match bA mh x,kL mh xs with | some c,some cs=>some (c::cs) | _,_=>none
def Y8(n:Nat)(w:WA):WE:=λρ mh Q=>w ρ mh λxs mh1=>∃cols,kL mh1 xs=some cols/\xs.length=n/\(aL cols).length<=sizeLine/\Q (.tup ((aL cols).map .tup)) mh1
def wLZ(n:Nat)(w:WA):WE:=λρ mh Q=>w ρ mh λxs mh1=>∃cols,kL mh1 xs=some cols/\xs.length=n/\(aL cols).length<=sizeLine/\Q (.ref mh1.length) (mh1++[.lst ((aL cols).map .tup)])
section
variable {K:aHw}{μ:List Addr}{mh:MH}{H:Hp}
theorem F4(R:Rep K μ mh H):∀{xs:List D} {vs:List V} {cols:List (List D)},IsL K μ H xs vs->kL mh xs=some cols->∃(src:List (Addr×Bool)) (cv:List (List V)),vs=src.map (λp=>V.ref p.1)/\src.length=xs.length/\cv.length=xs.length/\cols.length=xs.length/\(∀(j:Nat) p c,src[j]? =some p->cv[j]? =some c->HC K H p.2 p.1 c)/\∀(j:Nat) c d,cv[j]? =some c->cols[j]? =some d->IsL K μ H d c
 | [],vs,cols,l,h=>by
  unfold IsL at l;subst l;simp[kL]at h;subst h;exact⟨[],[],rfl,rfl,rfl,rfl,λj p c h=>by simp at h,λj c d h=>by simp at h⟩
 | x::xs,vs,cols,l,h=>by
  unfold IsL at l;obtain⟨v,r,rfl,i,l⟩:=l;simp only[kL]at h
  cases h1:bA mh x with
  | none=>simp[h1]at h
  | some c=>
   cases h2:kL mh xs with
   | none=>simp[h1,h2]at h
   | some cs=>
    simp[h1,h2]at h;subst h;obtain⟨a,ys,rfl,sa,la⟩:=tP R i h1;obtain⟨src,cv,rfl,e1,e2,e3,e4,e5⟩:=F4 R l h2;refine⟨(a,OC x)::src,ys::cv,rfl,by simp[e1],by simp[e2],by simp[e3],λj p c g1 g2=>?_,λj c d g1 g2=>?_⟩
    ·cases j with
     | zero=>simp at g1 g2;subst g1 g2;exact sa
     | succ j=>exact e4 j p c (by simpa using g1) (by simpa using g2)
    ·cases j with
     | zero=>simp at g1 g2;subst g1 g2;exact la
     | succ j=>exact e5 j c d (by simpa using g1) (by simpa using g2)
theorem FJ:∀{cv:List (List V)} {cd:List (List D)},cv.length=cd.length->(∀(j:Nat) c d,cv[j]? =some c->cd[j]? =some d->IsL K μ H d c)->(aL cd).length=(aL cv).length/\∀(i:Nat) r d,(aL cv)[i]? =some r->(aL cd)[i]? =some d->IsL K μ H d r
 | [],cd,hl,h=>by
  have:cd=[]:=aGl.mp hl.symm;subst this;exact⟨rfl,λi r d g=>by simp[aL]at g⟩
 | [c],cd,hl,h=>by
  match cd,hl with
  | [d],_=>
   have l:=h 0 c d rfl rfl;refine⟨by simp[aL,aJ l],λi r e g1 g2=>?_⟩;simp only[aL,List.getElem?_map]at g1 g2;obtain⟨x,hx,rfl⟩:=aG0.mp g1;obtain⟨y,hy,rfl⟩:=aG0.mp g2;obtain⟨v,k1,k2⟩:=eD l hy;rw[hx]at k1;cases k1;unfold IsL;exact⟨_,_,rfl,k2,by unfold IsL;rfl⟩
 | c::c2::cv,cd,hl,h=>by
  match cd,hl with
  | d::d2::cd,hl=>
   have l:=h 0 c d rfl rfl;obtain⟨e1,e2⟩:=FJ (cv:=c2::cv) (cd:=d2::cd) (by simpa using hl) λj c d g1 g2=>h (j+1) c d (by simpa using g1) (by simpa using g2);simp only[aL];generalize aL (c2::cv)=rv at e1 e2;generalize aL (d2::cd)=rd at e1 e2;refine⟨by rw[List.length_zipWith,List.length_zipWith,e1,aJ l],λi r e g1 g2=>?_⟩;rw[List.getElem?_zipWith]at g1 g2
   cases h1:c[i]? with
   | none=>simp[h1]at g1
   | some x=>
    cases h2:rv[i]? with
    | none=>simp[h1,h2]at g1
    | some r' =>
     cases h3:d[i]? with
     | none=>simp[h3]at g2
     | some y=>
      cases h4:rd[i]? with
      | none=>simp[h3,h4]at g2
      | some r2=>
       simp[h1,h2]at g1;simp[h3,h4]at g2;subst g1 g2;obtain⟨v,k1,k2⟩:=eD l h3;rw[h1]at k1;cases k1;unfold IsL;exact⟨_,_,rfl,k2,e2 i r' r2 h2 h4⟩
theorem AX{H2:Hp}:∀{as:List Addr} {rv:List (List V)} {rd:List (List D)},as.length=rv.length->rd.length=rv.length->(∀(j:Nat) a r,as[j]? =some a->rv[j]? =some r->H2 a=some (.tup r))->(∀(i:Nat) r d,rv[i]? =some r->rd[i]? =some d->IsL K μ H2 d r)->IsL K μ H2 (rd.map .tup) (as.map V.ref)
 | [],rv,rd,h1,h2,_,_=>by
  have e1:rv=[]:=aGl.mp h1.symm;subst e1;have e2:rd=[]:=aGl.mp h2;subst e2;simp[IsL]
 | a::as,rv,rd,h1,h2,h3,h4=>by
  match rv,rd,h1,h2 with
  | r::rv,d::rd,h1,h2=>
   rw[List.map_cons,List.map_cons];unfold IsL;refine⟨_,_,rfl,?_,AX (by simpa using h1) (by simpa using h2) (λj a r g1 g2=>h3 (j+1) a r (by simpa using g1) (by simpa using g2)) λi r d g1 g2=>h4 (i+1) r d (by simpa using g1) (by simpa using g2)⟩;unfold Is;exact⟨a,r,rfl,.of (h3 0 a r rfl rfl),h4 0 r d rfl rfl⟩
end
section
variable {X:Cx}{n:Nat}{e:Expr}{es:List Expr}{wa:WA}{p0 p1 pos pos1:Pos}
theorem TK{σ:L2.St}{H:Hp}{Q:VK}{T:String}(hn:0<n)(w:WE)(hw:(T= "tuple"/\w=Y8 n wa)\/(T= "list"/\w=wLZ n wa))(h:tL X.K w σ H Q):T4 X.K T n (tLA X.K wa) σ H Q:=by
 obtain⟨μ,ρ,mh,R,RR,En,h,F⟩:=h
 have main:∀(post:List D->MH->Prop),(∀xs mh1,post xs mh1->∃cols,kL mh1 xs=some cols/\xs.length=n/\(aL cols).length<=sizeLine/\(if T= "tuple" then R (.tup ((aL cols).map .tup)) mh1 else R (.ref mh1.length) (mh1++[.lst ((aL cols).map .tup)])))->wa ρ mh post->T4 X.K T n (tLA X.K wa) σ H Q:=λpost hp h=>by
  refine⟨μ,ρ,mh,_,RR,En,h,λxs mh1 q μ1 vs H1 P1 R1 I1=>?_⟩;obtain⟨cols,hs,hl,hz,q⟩:=hp xs mh1 q;obtain⟨src,cv,rfl,e1,e2,e3,e4,e5⟩:=F4 R1 I1 hs;obtain⟨z1,z2⟩:=FJ (by lia) e5;have RP:cv≠[]:=λz=>by subst z;simp at e2;lia
  refine⟨src,cv,aL cv,rfl,by lia,by lia,e4,rowsOf cv RP,by lia,λas p a1 a2 a3 a4 a5=>?_⟩
  have old:∀b o,H1 b=some o->p5 H1 as (aL cv) b=some o:=λb o e=>by
   rw[iE λha=>by rw[a3 b ha]at e;cases e];exact e
  have P2:aK μ1 H1 μ1 (p5 H1 as (aL cv)):=⟨⟨[],by simp⟩,λb o e _=>old b o e,λ_ h=>.inl h⟩
  have R2:Rep X.K μ1 mh1 (p5 H1 as (aL cv)):=⟨R1.len,R1.nd,λn a ob h1 h2=>(R1.obj n a ob h1 h2).mono R1 P2 (iE λha=>R1.ne (a3 a ha) (aFf h1) rfl)⟩
  have hpf:p5 H1 as (aL cv) p=none:=by rw[iE a5];exact a4
  have L:IsL X.K μ1 (p5 H1 as (aL cv)) ((aL cols).map .tup) (as.map V.ref):=AX a1 z1 (λj a r g1 g2=>xU a2 g1 g2) λi r d g1 g2=>IsL.mono R1 P2 d r (z2 i r d g1 g2);by_cases hT:T= "tuple"
  ·simp only[if_pos hT]at q⊢;exact lT R2 (F.at (P1.trans P2)) L q p hpf
  ·simp only[if_neg hT]at q⊢;exact hC R2 (F.at (P1.trans P2)) L q p hpf
 rcases hw with ⟨rfl,rfl⟩ | ⟨rfl,rfl⟩
 ·exact main _ (λxs mh1 q=>by obtain⟨c,h1,h2,h3,h4⟩:=q;exact⟨c,h1,h2,h3,by simp only[if_true];exact h4⟩) h
 ·exact main _ (λxs mh1 q=>by obtain⟨c,h1,h2,h3,h4⟩:=q;exact⟨c,h1,h2,h3,by rw[if_neg (by decide)];exact h4⟩) h
theorem aAt(z:SE n)(hn:0<n/\n<=1000)(hc:X.calm=true)(hmT:X.mg "tuple"=none)(hm:X.mg "zip"=none)(ha:LA X (e::es) wa)(hgT:Gl X "tuple":=by rfl)(hg:Gl X "zip":=by rfl)
  (he:starEach (e::es) X.env=(false,eval e X.env)::starEach es X.env:=by rfl) (hpl:(backTo pos (starEach es X.env)).any (·.1)=false:=by rfl)
  (he1:starEach [.Call (.Name "zip" p0) (e::es) [] pos] X.env=(false,eval (.Call (.Name "zip" p0) (e::es) [] pos) X.env)::starEach [] X.env:=by rfl) (hpl1:(backTo pos1 (starEach [] X.env)).any (·.1)=false:=by rfl):
  LE X (.Call (.Name "tuple" p1) [.Call (.Name "zip" p0) (e::es) [] pos] [] pos1) (Y8 n wa):=
 PE.imp (UX z hn hc (.inl ⟨rfl,rfl⟩) hgT hmT vC hg hm ha (by decide+kernel) he hpl he1 hpl1) λσ H Q h=>TK hn.1 _ (.inl ⟨rfl,rfl⟩) h
@[simp] theorem s_tz {ρ:eK}{mh:MH}{Q:DK}{n:Nat}{w:WA}:Y8 n w ρ mh Q=(w ρ mh λxs mh1=>∃cols,kL mh1 xs=some cols/\xs.length=n/\(aL cols).length<=sizeLine/\Q (.tup ((aL cols).map .tup)) mh1):=rfl
@[simp] theorem s_lz {ρ:eK}{mh:MH}{Q:DK}{n:Nat}{w:WA}:wLZ n w ρ mh Q=(w ρ mh λxs mh1=>∃cols,kL mh1 xs=some cols/\xs.length=n/\(aL cols).length<=sizeLine/\Q (.ref mh1.length) (mh1++[.lst ((aL cols).map .tup)])):=rfl
end
def gA{α:Type}(xs:List α)(lo hi st:Option Int):List α:=(sliceRange (sliceBounds lo hi st xs.length).1 (sliceBounds lo hi st xs.length).2.1 (sliceBounds lo hi st xs.length).2.2).filterMap (xs[·]?)
theorem p6{xs:List V}{us:List Value}(r:Vals xs us):∀(is:List Nat),Vals (is.filterMap (xs[·]?)) (is.filterMap (us[·]?))
 | []=>.nil
 | i::is=>by
  cases h:xs[i]? with
  | none=>rw[List.filterMap_cons_none h,List.filterMap_cons_none (r.none_of h)];exact p6 r is
  | some x=>
   obtain⟨u,hu,ru⟩:=r.get h;rw[List.filterMap_cons_some h,List.filterMap_cons_some hu];exact .cons ru (p6 r is)
theorem uP{K:aHw}{μ:List Addr}{H:Hp}{ds:List D}{vs:List V}(l:IsL K μ H ds vs):∀(is:List Nat),IsL K μ H (is.filterMap (ds[·]?)) (is.filterMap (vs[·]?))
 | []=>by simp[IsL]
 | i::is=>by
  cases h:ds[i]? with
  | none=>
   have hv:vs[i]? =none:=by
    have:=aGr.mp h;exact aGr.mpr (by rw[aJ l];exact this)
   rw[List.filterMap_cons_none h,List.filterMap_cons_none hv];exact uP l is
  | some x=>
   obtain⟨u,hu,ru⟩:=eD l h;rw[List.filterMap_cons_some h,List.filterMap_cons_some hu];unfold IsL;exact⟨_,_,rfl,ru,uP l is⟩
def aDz(K:aHw):V->Option Int->Option Int->Option Int->Hp->VK->Prop:=λx lo hi st H Q=>∃a xs,x= .ref a/\nS K H a xs/\st≠some 0/\∀p,H p=none->Q (.ref p) (upd H p (.lst (gA xs lo hi st)))
def aCx(r:V->Option Int->Option Int->Option Int->Hp->VK->Prop)(te:TE)(tl th ts:TO):TE:=λσ H Q=>te σ H λx H1=>tl σ H1 λl H2=>th σ H2 λu H3=>ts σ H3 λst H4=>r x l u st H4 Q
section
variable {X:Cx}{e est:Expr}{te:TE}{lo hi:Option Expr}{tl th ts:TO}{pos p2:Pos}
theorem IA(he:PE X e te)(hl:PO X lo tl)(hu:PO X hi th)(hst:PO X (some est) ts):PE X (.Subscript e (.Slice lo hi (some est) p2) pos) (aCx (aDz X.K) te tl th ts):=by
 intro pins s σ H Q I h;refine Subscript_ (cM (he pins s σ H _ I h) λv s1 zz0=>?_);obtain⟨x,H1,I1,r1,q1⟩:=zz0;refine wpAny_Slice (cM (hl pins s1 σ H1 _ I1 q1) λvl s2 ⟨l,H2,I2,pl,q2⟩=>cM (hu pins s2 σ H2 _ I2 q2) λvu s3 ⟨u,H3,I3,pu,q3⟩=>cM (hst pins s3 σ H3 _ I3 q3) λvs s4 zz1=>?_);obtain⟨st,H4,I4,ps,q4⟩:=zz1;have I5:Inv X pins σ H4 {s4 with heap:=s4.heap.push {cls:= .type "slice",data:= .fields #[vl,vu,vs]}}:=I4.kept (t' :=s4.toks) λb ob q=>aF4 _ q;obtain⟨a,xs,rfl,hx,h0,q⟩:=q4;cases r1;obtain⟨aG,r,ht,hz⟩:=I5.list hx;have hlen:=r.length;show wpAny (model X.prog X.w) X.A (subscriptTail e (.Slice lo hi (some est) p2) (.ref a) (.ref s4.heap.objs.size)) (EP X pins σ Q) X.xe {s4 with heap:=s4.heap.push {cls:= .type "slice",data:= .fields #[vl,vu,vs]}};refine tail_any (ops:=[.ref a,.ref s4.heap.objs.size]) ht.isList.typeIs slot_list_getitem.lookup ?_ (by with_unfolding_all rfl);refine wpAny_getItem_list_slice ht.isList (Heap.IsSliceOf.new ..) pl pu ps h0 ?_ (by rw[List.size_toArray] <;> lia)
 have hp:Vals (gA xs l u st) (slicePick aG.toArray l u st).toList:=by
  unfold slicePick gA;rw[List.size_toArray,hlen,List.toList_toArray];have e:(λi:Nat=>aG.toArray[i]?)=λi=>aG[i]? :=by funext i;simp
  rw[e];exact p6 r _
 have hsz:=slicePick_size_le aG.toArray l u st;refine⟨.ref _,_,I5.laid (t' :=s4.toks) (o:= .lst (gA xs l u st)) (λb ob q=>aF4 _ q) (aF9 _) ?_,rfl,q _ (I5.bG.fresh (aF9 _))⟩;refine⟨?_,_,0,hp,?_⟩
 ·rw[hp.length,Array.length_toList];simp at hsz;lia
 ·rw[Array.toArray_toList];exact aFa _ rfl
end
section
variable {X:Cx}{e est:Expr}{w:WE}{lo hi:Option Expr}{wl wh ws:WO}{pos p2:Pos}
def J9(w:WE)(wl wh ws:WO):WE:=λρ mh Q=>w ρ mh λx mh1=>wl ρ mh1 λl mh2=>wh ρ mh2 λu mh3=>ws ρ mh3 λst mh4=>∃ds,jV mh4 x=some ds/\st≠some 0/\Q (.ref mh4.length) (mh4++[.lst (gA ds l u st)])
theorem V6(he:LE X e w)(hl:LO X lo wl)(hh:LO X hi wh)(hs:LO X (some est) ws):LE X (.Subscript e (.Slice lo hi (some est) p2) pos) (J9 w wl wh ws):=PE.imp (IA he hl hh hs) λσ H Q q=>by
 obtain⟨μ,ρ,mh,R,RR,E,h,F⟩:=q;refine⟨μ,ρ,mh,_,RR,E,h,λdx mh1 h1 μ1 vx H1 P1 R1 I1=>⟨μ1,ρ,mh1,_,R1,E.mono RR P1,h1,λl mh2 h2 μ2 H2 P2 R2=>⟨μ2,ρ,mh2,_,R2,E.mono RR (P1.trans P2),h2,λu mh3 h3 μ3 H3 P3 R3=>⟨μ3,ρ,mh3,_,R3,E.mono RR ((P1.trans P2).trans P3),h3,λst mh4 h4 μ4 H4 P4 R4=>?_⟩⟩⟩⟩;obtain⟨ds,hl,h0,q⟩:=h4;obtain⟨a,vs,rfl,sq,il⟩:=nF R4 (Is.mono R1 ((P2.trans P3).trans P4) dx vx I1) hl;refine⟨a,vs,rfl,sq,h0,hC R4 (F.at (((P1.trans P2).trans P3).trans P4)) (ds:=gA ds l u st) ?_ q⟩;unfold gA;rw[aJ il];exact uP il _
@[simp] theorem s_sl3 {ρ:eK}{mh:MH}{Q:DK}:J9 w wl wh ws ρ mh Q=(w ρ mh λx mh1=>wl ρ mh1 λl mh2=>wh ρ mh2 λu mh3=>ws ρ mh3 λst mh4=>∃ds,jV mh4 x=some ds/\st≠some 0/\Q (.ref mh4.length) (mh4++[.lst (gA ds l u st)])):=rfl
end
def lE{α:Type}:List α->List α
 | []=>[]
 | [a]=>[a]
 | a::_::r=>a::lE r
def uD{α:Type}:List α->List α
 | []=>[]
 | [_]=>[]
 | _::b::r=>b::uD r
theorem q5{α:Type}:∀(xs:List α),(List.range ((xs.length+1) / 2)).filterMap (λk=>xs[2*k]?)=lE xs
 | []=>by simp[lE]
 | [a]=>by simp[lE]
 | a::b::r=>by
  have e:((a::b::r).length+1) / 2=(r.length+1) / 2+1:=by simp only[List.length_cons];lia
  rw[e,List.range_succ_eq_map,List.filterMap_cons_some (b:=a) (by simp),List.filterMap_map,lE,<-q5 r];congr 1
theorem t8{α:Type}:∀(xs:List α),(List.range (xs.length / 2)).filterMap (λk=>xs[2*k+1]?)=uD xs
 | []=>by simp[uD]
 | [a]=>by simp[uD]
 | a::b::r=>by
  have e:(a::b::r).length / 2=r.length / 2+1:=by simp only[List.length_cons];lia
  rw[e,List.range_succ_eq_map,List.filterMap_cons_some (b:=b) (by simp),List.filterMap_map,uD,<-t8 r];congr 1
theorem DZ{α:Type}(xs:List α):gA xs none none (some 2)=lE xs:=by
 rw[<-q5];unfold gA sliceRange sliceBounds;simp only[Option.getD_some,show (2:Int) > 0 by lia,if_true];have e:(if (0:Int)<xs.length then ((xs.length:Int)-0+2-1) / 2 else 0).toNat=(xs.length+1) / 2:=by split <;> lia
 rw[e,List.filterMap_map];congr 1;funext k;have:((0:Int)+2*(k:Int)).toNat=2*k:=by lia
 simp only[Function.comp,this]
theorem HW{α:Type}(xs:List α):gA xs (some 1) none (some 2)=uD xs:=by
 rw[<-t8];unfold gA sliceRange sliceBounds;simp only[Option.getD_some,show (2:Int) > 0 by lia,if_true,show ¬((1:Int)<0) by lia,if_false];by_cases h0:xs.length=0
 ·have:xs=[]:=aGl.mp h0;subst this;simp
 ·have em:max 0 (min (1:Int) (xs.length:Int))=1:=by lia
  rw[em];have e:(if (1:Int)<xs.length then ((xs.length:Int)-1+2-1) / 2 else 0).toNat=xs.length / 2:=by split <;> lia
  rw[e,List.filterMap_map];congr 1;funext k;have:((1:Int)+2*(k:Int)).toNat=2*k+1:=by lia
  simp only[Function.comp,this]
def AR(wo wi wx:WE):WE:=λρ mh Q=>wo ρ mh λo mh1=>∃n,o= .ref n/\(∃kvs,mh1[n]? =some (.dic false kvs))/\wi ρ mh1 λi mh2=>wx ρ mh2 λx mh3=>∃kvs key,mh3[n]? =some (.dic false kvs)/\i=bE key/\Q ((b6 kvs i).getD x) mh3
section
variable {X:Cx}{o i x:Expr}{wo wi wx:WE}{apos eS pos tpos:Pos}
theorem W7{K:aHw}{μ:List Addr}{mh:MH}{H:Hp}{n:Nat}{v:V}{kvs:List (D×D)}(R:Rep K μ mh H)(h:Is K μ H (.ref n) v)(e:mh[n]? =some (.dic false kvs)):∃a,v= .ref a/\IsD H a:=by
 obtain⟨a,vs,rfl,hn,⟨kk,hv,_,_⟩,_⟩:=qK R h e;exact⟨a,rfl,.inl ⟨kk,.inl hv⟩⟩
theorem Q1(hu:X.A.units+64<cLine)(ho:LE X o wo)(hi:LE X i wi)(hx:LE X x wx)(base:attributeBase o "get" X.env (eval o X.env)=eval o X.env:=by rfl)
  (YR:((backTo eS (starEach [i,x] X.env)).all (λx=>!x.1) && (backToKw eS (keywordEach [] X.env)).all (λx=>x.1.isSome) && decide (([i,x]:List Expr).length+([]:List Keyword).length+(if ([]:List Keyword).isEmpty then 0 else 1)<30))=true:=by rfl)
  (line:(apos.endLine==eS.line)=true:=by rfl) (trees:backTo eS (starEach [i,x] X.env)=[(false,eval i X.env),(false,eval x X.env)]:=by rfl):
  LE X (.Call (.Attribute o "get" apos) [i,x] [] eS) (AR wo wi wx):=PE.imp (LM (by lia) ho hi hx ⟨base,YR,line,trees⟩) λσ H Q h=>by
 obtain⟨μ,ρ,mh,R,RR,En,h,F⟩:=h;refine⟨μ,ρ,mh,_,RR,En,h,λdo' mh1 q μ1 vo H1 P1 R1 I1=>?_⟩;obtain⟨n,rfl,⟨kvs0,e0⟩,q⟩:=q;obtain⟨a,rfl,hD⟩:=W7 R1 I1 e0;refine⟨a,rfl,hD,μ1,ρ,mh1,_,R1,En.mono RR P1,q,λdi mh2 q2 μ2 vi H2 P2 R2 I2=>?_⟩;refine⟨μ2,ρ,mh2,_,R2,En.mono RR (P1.trans P2),q2,λdx mh3 q3 μ3 vx H3 P3 R3 I3=>?_⟩;obtain⟨kvs,key,e,rfl,q⟩:=q3;obtain⟨a',vs,ea,hn,⟨kk,hv,ek,rfl⟩,l⟩:=qK R3 (Is.mono R1 (P2.trans P3) _ _ I1) e;cases ea;cases lS I2;have F3:=F.at ((P1.trans P2).trans P3)
 rcases n6 key ek l with ⟨h1,h2⟩ | ⟨d',w,h1,h2,iw⟩
 ·rw[h2]at q;exact⟨none,by rw[<-h1];exact .k hv,F3.here R3 q I3⟩
 ·rw[h2]at q;exact⟨some w,by rw[<-h1];exact .k hv,F3.here R3 q iw⟩
@[simp] theorem aDr {ρ:eK}{mh:MH}{Q:DK}:AR wo wi wx ρ mh Q=(wo ρ mh λo mh1=>∃n,o= .ref n/\(∃kvs,mh1[n]? =some (.dic false kvs))/\wi ρ mh1 λi mh2=>wx ρ mh2 λx mh3=>∃kvs key,mh3[n]? =some (.dic false kvs)/\i=bE key/\Q ((b6 kvs i).getD x) mh3):=rfl
end
end D3
namespace ST
open PySem PySem.SetTable PySem.Spec
end ST
namespace D3
open PySem PySem.Spec PyProof.Rows L2
abbrev cF(P:Program)(W:World)(K:aHw)(mg:aHz)(base:Heap)(N:List Str)(q:Str)(S:Stmt)(f:Addr)(cd:Value)(A:Around)(o:List Env)(s:Shared)(H:Hp)(E:XK):Cx:=(u5 DB P W K mg base N q (aC S) f cd A o s H E).QG
section
variable {P:Program}{W:World}{K:aHw}{mg:aHz}{base:Heap}{N:List Str}{q:Str}{S:Stmt}{f:Addr}{cd:Value}{A:Around}{o:List Env}{s:Shared}{H:Hp}{E:XK}
 {tg iter elt:Expr} {ifs:List Expr} {scope:Scope} {pos:Pos} {wi:WI} {g:TG} {gd:WG} {t:WT} {w:WE} (own:List Str) (aI:List Nat)
def cN(N own:List Str)(aI:List Nat):List Str:=own++aI.map λi=>N.getD i ""
theorem WB(chk:fX N (aC S) scope aI=true)(nd:(cN N own aI).Nodup)(hr:qT K g gd)(ho:vZ own.length g)
  (hi:LI (cF P W K mg base N q S f cd A o s H E) tg iter wi)
  (hg:(cN N own aI).Nodup->∀cl C fp s₀ H₀,PG (aX (cF P W K mg base N q S f cd A o s H E) own aI scope cl C fp s₀ H₀) tg g) (ht:∀cl C fp s₀ H₀,SH (aX (cF P W K mg base N q S f cd A o s H E) own aI scope cl C fp s₀ H₀) ifs t)
  (he:∀cl C fp s₀ H₀,LE (aX (cF P W K mg base N q S f cd A o s H E) own aI scope cl C fp s₀ H₀) elt w)
  (hs:∀x,foldedSetIterable iter (cF P W K mg base N q S f cd A o s H E).env x=pure x:=by intro _;rfl):LE (cF P W K mg base N q S f cd A o s H E) (.ListComp elt [⟨tg,iter,ifs,0⟩] scope pos) (vL own aI wi gd t w):=
 aAv (N:=N) (sc:=aC S) own aI rfl rfl chk rfl hi ho hr (hg nd) ht he hs
theorem IJ{i:Nat}{x:Str}{pos' kK:Pos}(chk:fX N (aC S) scope aI=true)(nd:(cN N own aI).Nodup)(hr:qT K g gd)(ho:vZ own.length g)
  (hN:N.Nodup) (hi:LI (cF P W K mg base N q S f cd A o s H E) tg iter wi)
  (hg:(cN N own aI).Nodup->∀cl C fp s₀ H₀,PG (aX (cF P W K mg base N q S f cd A o s H E) own aI scope cl C fp s₀ H₀) tg g) (ht:∀cl C fp s₀ H₀,SH (aX (cF P W K mg base N q S f cd A o s H E) own aI scope cl C fp s₀ H₀) ifs t)
  (he:∀cl C fp s₀ H₀,LE (aX (cF P W K mg base N q S f cd A o s H E) own aI scope cl C fp s₀ H₀) elt w)
  (hx0:N[i]? =some x:=by rfl) (hx:Loc (cF P W K mg base N q S f cd A o s H E).env.scope x:=by first | exact Or.inl rfl | exact Or.inr rfl) (hw:swapsWith (.ListComp elt [⟨tg,iter,ifs,0⟩] scope pos) (some (.Name x pos')) kK.line (cF P W K mg base N q S f cd A o s H E).env=pure true:=by rfl)
  (hf:(cF P W K mg base N q S f cd A o s H E).fn x=true\/(cF P W K mg base N q S f cd A o s H E).env.scope.names.lookup x=some .local:=by first | exact .inl rfl | exact .inr rfl | assumption)
  (hs:∀x,foldedSetIterable iter (cF P W K mg base N q S f cd A o s H E).env x=pure x:=by intro _;rfl):LS (cF P W K mg base N q S f cd A o s H E) (.Assign [.Name x pos'] (.ListComp elt [⟨tg,iter,ifs,0⟩] scope pos) kK) (bT (vL own aI wi gd t w) (gN i)):=
 MC i hN (N:=N) (sc:=aC S) own aI rfl rfl chk rfl hi ho hr (hg nd) ht he hx0 hx hw hf hs
end
def nU:HO->Nat
 | .dK kk=>kk.length
 | .dT kk=>kk.length
 | _=>0
def N6:HO->Nat->Hp->V->Prop
 | .dK kk,i,_,x=>∃p,kk[i]? =some p/\x=kV p.1
 | .dT kk,i,H,x=>∃p b,kk[i]? =some p/\x= .ref b/\H b=some (.tup (p.1.map kV))
 | _,_,_,_=>False
def MY:HO->Prop
 | .dK _=>True
 | .dT _=>True
 | _=>False
def Itd(a:Addr)(ob:Obj):It where
 go:=λi H=>∃u,H a=some (.frz ob u)/\MY u/\i<nU u
 YJ:=λi H x H' =>H' =H/\∃u,H a=some (.frz ob u)/\N6 u i H x
 stop:=λi H=>∃u,H a=some (.frz ob u)/\MY u/\nU u<=i
theorem MQ{H:Hp}:∀{kk:List (List Key×V)} {xs:List (List Key×Addr×Value)} {i:Nat},KT H kk xs->i<kk.length->∃p q,kk[i]? =some p/\xs[i]? =some q/\H q.2.1=some (.tup (p.1.map kV))
 | _,_,_,.nil,h=>by simp at h
 | _,_,0,.cons r _,h=>⟨_,_,rfl,rfl,r.2.1⟩
 | _,_,i+1,.cons _ t,h=>by
  obtain⟨p,q,a,b,c⟩:=MQ (i:=i) t (by simpa using h);exact⟨p,q,by simpa using a,by simpa using b,c⟩
theorem MP{H:Hp}:∀{kk:List (List Key×V)} {xs:List (List Key×Addr×Value)},KT H kk xs->kk.length=xs.length
 | _,_,.nil=>rfl
 | _,_,.cons _ t=>by simp[MP t]
theorem EK{P:Program}{w:World}{H:Hp}{h:Heap}{a:Addr}{ob:Obj}{es:Array DictEntry}{ep:Nat}{u:HO}(hu:MY u)(ok:bX P w H h a u)(ho:h.get? a=some ob)(hd:ob.data= .dict es ep):
  es.size=nU u/\∀i,i<nU u->∃e x,es[i]? =some e/\RelV x e.key/\N6 u i H x:=by
 cases u with
 | dK kk=>
  obtain⟨z,hm,vs,r,o,es',ep',h1,h2,h3,h4,h5,h6⟩:=ok;rw[ho]at h1;cases h1;rw[hd]at h3;cases h3;have V:=nE h5 r;have hl:=V.length;simp at hl;refine⟨hl.symm,λi hi=>?_⟩
  replace hi:i<kk.length:=hi
  obtain⟨y,hy,ry⟩:=V.get (i:=i) (x:=kV kk[i].1) (by simp[hi]);rw[List.getElem?_map,Option.map_eq_some_iff]at hy;obtain⟨e,he,rfl⟩:=hy;exact⟨e,_,by simpa using he,ry,kk[i],by simp[hi],rfl⟩
 | dT kk=>
  obtain⟨z,hm,xs,r,o,es',ep',h1,h2,h3,h4,h5⟩:=ok;rw[ho]at h1;cases h1;rw[hd]at h3;cases h3;have hl:=aG8 List.length h4;simp at hl;have hk:=MP r;refine⟨by rw[hl];exact hk.symm,λi hi=>?_⟩;obtain⟨p,q,e1,e2,e3⟩:=MQ r hi;have:es.toList[i]? =some (entryOfKey (tupleKind (aS P w)) q):=by rw[h4,List.getElem?_map,e2];rfl
  exact⟨entryOfKey (tupleKind (aS P w)) q,.ref q.2.1,by simpa using this,rfl,p,q.2.1,e1,rfl,e3⟩
 | _=>exact hu.elim
theorem KJ{P:Program}{w:World}{K:aHw}{tg:Expr}(it a:Addr){ob:Obj}{es:Array DictEntry}{ep:Nat}(hx:ob.ExactDict)(hd:ob.data= .dict es ep):Turn P w K tg (Itd a ob) [it] it (λi h=>Heap.IsKeyIter h it a i es.size ep) where
 mem:=by simp
 obj:=λi h st b hb=>by
  have e:b=it:=by simpa using hb
  subst e;obtain⟨o,e,c,d⟩:=st;exact⟨o,e,λv z=>by rw[d]at z;cases z⟩
 keep:=λi h h' st k=>st.at λo e=>k it (by simp) o e
 item:=by
  intro X hP hw hK hc i pins s σ H E I hf st hg;subst hP hw hK;obtain⟨u,hq,hdc,hi⟩:=hg
  obtain⟨g1,g2⟩:=(show s.heap.get? a=some ob/\bX X.prog X.w H s.heap a u from I.bG a _ hq)
  obtain⟨e,x,e1,r1,k1⟩:=(EK hdc g2 g1 hd).2 i hi;obtain⟨f0,f1,f2,f3,f4,f5⟩:=hf it (by simp);refine BB st ⟨ob,g1,hx,hd⟩ e1 λh' st' sb=>?_;have I1:Inv X pins σ H {s with heap:=h'}:=I.turned (t' :=s.toks) (λb o hb e=>(sb.2 b hb).trans e) f0 f1 f3 f4 f5;obtain⟨o,e,c,d⟩:=id st';exact⟨_,rfl,GZ (s:={s with heap:=h'}) e c d (by decide) ⟨x,H,I1,r1,⟨rfl,u,hq,k1⟩,st',λb hb=>(hf b hb).1⟩⟩
 done:=by
  intro X hP hw hK hc i pins s σ H E I hf st hg;subst hP hw hK;obtain⟨u,hq,hdc,hi⟩:=hg
  obtain⟨g1,g2⟩:=(show s.heap.get? a=some ob/\bX X.prog X.w H s.heap a u from I.bG a _ hq)
  have hz:=(EK hdc g2 g1 hd).1;obtain⟨f0,f1,f2,f3,f4,f5⟩:=hf it (by simp)
  exact F8 (I.ok.hd hc) st ⟨ob,g1,hx,hd⟩ (by simp;lia) λh' eb=>⟨rfl,I.turned (t' :=s.toks) (λb o hb e=>eb b o hb e) f0 f1 f3 f4 f5⟩
 self:=λ_ _ _ _ _ st h=>wpAny_pyIter_keyiter st h
theorem NQ{K:aHw}{μ:List Addr}{mh:MH}{H:Hp}{n:Nat}{a:Addr}{o:MO}{ob:HO}(R:Rep K μ mh H)(h:μ[n]? =some a)(l:lJ K μ (upd H a ob) o a):Rep K μ (mh.set n o) (upd H a ob):=by
 have P:aK μ H μ (upd H a ob):=aK.set R h;refine⟨by simp[R.len],R.nd,λm b ob' h1 h2=>?_⟩;by_cases hmn:m=n
 ·subst hmn;rw[h]at h1;cases h1;have hl:m<mh.length:=by rw[<-R.len];exact(aF6.mp h).1
  rw[List.getElem?_set_self hl]at h2;cases h2;exact l
 ·rw[List.getElem?_set_ne (Ne.symm hmn)]at h2;exact(R.obj m b ob' h1 h2).mono R P (aM λz=>hmn (GG R.nd h1 (by rw[z];exact h)))
def KC(w:WE):WI:=λρ mh Q=>w ρ mh λx mh1=>∃n t kvs,x= .ref n/\((mh1[n]? =some (.dic t kvs)/\∀ob,Q (kvs.map (·.1)) (λmh' =>mh'[n]? =some (.fdc t kvs ob)) (mh1.set n (.fdc t kvs ob)))\/
 ∃ob,mh1[n]? =some (.fdc t kvs ob)/\Q (kvs.map (·.1)) (λmh' =>mh'[n]? =some (.fdc t kvs ob)) mh1)
section
variable {K:aHw}{μ:List Addr}{mh:MH}{H:Hp}{n:Nat}{a:Addr}{t:Bool}{kvs:List (D×D)}{ob:Obj}
theorem lH{u:HO}{ks:List D}{vs:List V}(h:rV (some u) ks vs t):MY u/\nU u=ks.length:=by
 cases t with
 | false=>obtain⟨kk,e,rfl,_⟩:=h;cases e;exact⟨trivial,by simp[nU]⟩
 | true=>obtain⟨kk,e,rfl,_⟩:=h;cases e;exact⟨trivial,by simp[nU]⟩
theorem MS{u:HO}{ks:List D}{vs:List V}{i:Nat}{d:D}{x:V}(h:rV (some u) ks vs t)(hd:ks[i]? =some d)(k:N6 u i H x):Is K μ H d x:=by
 cases t with
 | false=>
  obtain⟨kk,e,rfl,_⟩:=h;cases e;obtain⟨p,e1,rfl⟩:=k;rw[List.getElem?_map,e1]at hd;cases hd;exact MX _
 | true=>
  obtain⟨kk,e,rfl,_⟩:=h;cases e;obtain⟨p,b,e1,rfl,e2⟩:=k;rw[List.getElem?_map,e1]at hd;cases hd;unfold Is;exact⟨b,_,rfl,.inl (.inl e2),sL _⟩
theorem W5(hn:μ[n]? =some a)(hz:kvs.length<=sizeLine):FF K μ H (kvs.map (·.1)) (λmh' =>mh'[n]? =some (.fdc t kvs ob)) (Itd a ob):=by
 refine⟨by simpa using hz,λμ' mh' H' P' R' hs i d e=>?_,λμ' mh' H' P' R' hs=>?_⟩
 ·obtain⟨vs,u,hv,hq,l⟩:=R'.obj n a _ (P'.get hn) hs;obtain⟨h1,h2⟩:=lH hq;refine⟨⟨u,hv,h1,by rw[h2];exact(aF6.mp e).1⟩,λx H'' y=>?_⟩;obtain⟨rfl,u',hv',k⟩:=y;rw[hv]at hv';cases hv';exact⟨aK.refl,R',MS hq e k⟩
 ·obtain⟨vs,u,hv,hq,l⟩:=R'.obj n a _ (P'.get hn) hs;obtain⟨h1,h2⟩:=lH hq;exact⟨u,hv,h1,by rw[h2];exact aF9 _⟩
theorem freeze{X:Cx}{pins:List (Addr×Obj)}{σ:L2.St}{s:Shared}{u:HO}(I:Inv X pins σ H s)(e:H a=some u)(hu:MY u):
  ∃ob es ep,s.heap.get? a=some ob/\ob.ExactDict/\ob.data= .dict es ep/\(a==sysModules)=false/\Inv X pins σ (upd H a (.frz ob u)) s:=by
 have ok:=I.bG a u e
 obtain⟨ob,es,ep,h1,h2,h3,hm⟩:∃ob es ep,s.heap.get? a=some ob/\ob.ExactDict/\ob.data= .dict es ep/\(a==sysModules)=false:=by
  cases u with
  | dK kk=>obtain⟨z,hm,vs,r,o,es',ep',h1,h2,h3,_⟩:=ok;exact⟨o,es',ep',h1,h2,h3,hm⟩
  | dT kk=>obtain⟨z,hm,xs,r,o,es',ep',h1,h2,h3,_⟩:=ok;exact⟨o,es',ep',h1,h2,h3,hm⟩
  | _=>exact hu.elim
 have mu:JZ (H a):=by rw[e];cases u <;> first | exact hu.elim | trivial
 refine⟨ob,es,ep,h1,h2,h3,hm,?_⟩;refine I.write (t' :=s.toks) (h' :=s.heap) mu (.inl rfl) (λb u _ q=>q) ⟨ob,h1⟩ ⟨h1,?_⟩;refine ok.n9 (λb u _ q=>q) (λb q=>?_) λb xs q=>?_
 ·rw[aM (λz=>by subst z;rw[e]at q;cases q;exact hu)];exact q
 ·rw[aM (λz=>by subst z;rw[e]at q;cases q;exact hu)];exact q
end
section
variable {X:Cx}{tg l:Expr}{w:WE}
theorem V3(hl:LE X l w):LI X tg l (KC w):=by
 intro pins s σ H R I h;obtain⟨μ,ρ,mh,R',RR,En,h,F⟩:=h
 refine cM (hl pins s σ H (λv H1=>∃μ1 x mh1,aK μ H μ1 H1/\Rep X.K μ1 mh1 H1/\Is X.K μ1 H1 x v/\∃n t kvs,x= .ref n/\((mh1[n]? =some (.dic t kvs)/\∀ob,R' (kvs.map (·.1)) (λmh' =>mh'[n]? =some (.fdc t kvs ob)) (mh1.set n (.fdc t kvs ob)))\/
  ∃ob,mh1[n]? =some (.fdc t kvs ob)/\R' (kvs.map (·.1)) (λmh' =>mh'[n]? =some (.fdc t kvs ob)) mh1)) I ⟨μ,ρ,mh,_,RR,En,h,λd mh1 q μ1 v H1 P1 R1 I1=>⟨μ1,d,mh1,P1,R1,I1,q⟩⟩) λv s1 zz=>?_
 obtain⟨x,H1,I1,r1,μ1,dx,mh1,P1,R1,ix,n,t,kvs,rfl,q⟩:=zz;obtain⟨a,hn,rfl⟩:=i6 ix;cases r1
 have fin:∀{H2:Hp} {mh2:MH} {ob:Obj} {es:Array DictEntry} {ep:Nat},Inv X pins σ H2 s1->aK μ H μ1 H2->Rep X.K μ1 mh2 H2->s1.heap.get? a=some ob->ob.ExactDict->ob.data= .dict es ep->(a==sysModules)=false->kvs.length<=sizeLine->
   R' (kvs.map (·.1)) (λmh' =>mh'[n]? =some (.fdc t kvs ob)) mh2->wpAny (model X.prog X.w) X.A (pyIter (.ref a)) (PIE X pins σ tg R) X.xe s1:=λ{H2 mh2 ob es ep} I2 P2 R2 h1 h2 h3 h4 hz q=>by
  refine BA h4 ⟨ob,h1,h2,h3⟩ ?_;refine⟨s1.heap.objs.size,[s1.heap.objs.size],_,_,H2,rfl,I2.kept (t' :=s1.toks) λb o e=>aF4 _ e,KJ _ a h2 h3,⟨_,aFa _ rfl,rfl,rfl⟩,λb hb=>?_,F _ _ _ q μ1 _ H2 P2 R2 (W5 hn hz)⟩;have e:b=s1.heap.objs.size:=by simpa using hb
  subst e;exact I2.JC (aF9 _) (I2.bG.fresh (aF9 _))
 rcases q with ⟨e,q⟩ | ⟨ob,e,q⟩
 ·obtain⟨vs,hv,il⟩:=R1.obj n a _ hn e
  obtain⟨u,eu,hq⟩:∃u,H1 a=some u/\rV (some u) (kvs.map (·.1)) vs t:=by
   cases t with
   | false=>obtain⟨kk,z,r⟩:=hv;exact⟨_,z,kk,rfl,r⟩
   | true=>obtain⟨kk,z,r⟩:=hv;exact⟨_,z,kk,rfl,r⟩
  obtain⟨hd1,hd2⟩:=lH hq;obtain⟨ob,es,ep,h1,h2,h3,h4,I2⟩:=freeze I1 eu hd1
  have hz:kvs.length<=sizeLine:=by
   have ok:=I1.bG a u eu
   cases u with
   | dK kk=>
    obtain⟨z,_⟩:=ok;have:kk.length=kvs.length:=by simpa[nU] using hd2
    lia
   | dT kk=>
    obtain⟨z,_⟩:=ok;have:kk.length=kvs.length:=by simpa[nU] using hd2
    lia
   | _=>exact hd1.elim
  have P2:aK μ1 H1 μ1 (upd H1 a (.frz ob u)):=aK.set R1 hn;exact fin I2 (P1.trans P2) (NQ (o:= .fdc t kvs ob) R1 hn ⟨vs,u,bK,hq,IsL.mono R1 P2 _ vs il⟩) h1 h2 h3 h4 hz (q ob)
 ·obtain⟨vs,u,hv,hq,il⟩:=R1.obj n a _ hn e;obtain⟨hd1,hd2⟩:=lH hq
  obtain⟨g1,ok⟩:=(show s1.heap.get? a=some ob/\bX X.prog X.w H1 s1.heap a u from I1.bG a _ hv)
  obtain⟨es,ep,h2,h3,hm,hz⟩:∃es ep,ob.ExactDict/\ob.data= .dict es ep/\(a==sysModules)=false/\nU u<=sizeLine:=by
   cases u with
   | dK kk=>obtain⟨z,hm,vs,r,o,es',ep',h1,h2,h3,_⟩:=ok;rw[g1]at h1;cases h1;exact⟨es',ep',h2,h3,hm,z⟩
   | dT kk=>obtain⟨z,hm,xs,r,o,es',ep',h1,h2,h3,_⟩:=ok;rw[g1]at h1;cases h1;exact⟨es',ep',h2,h3,hm,z⟩
   | _=>exact hd1.elim
  exact fin I1 P1 R1 g1 h2 h3 hm (by rw[hd2]at hz;simpa using hz) q
end
def kOk:Bool->D->Prop
 | false,y=>∃key,y=bE key
 | true,y=>∃ks:List Key,y= .tup (ks.map bE)
def RK(mh:MH)(n:Nat)(t:Bool)(kvs:List (D×D)):Prop:=mh[n]? =some (.dic t kvs)\/∃ob,mh[n]? =some (.fdc t kvs ob)
theorem tG{K:aHw}{μ:List Addr}{H:Hp}(key:List Key):∀{kvs:List (D×D)} {kk:List (List Key×V)},kvs.map (·.1)=kk.map (λp=>.tup (p.1.map bE))->IsL K μ H (kvs.map (·.2)) (kk.map (·.2))->
  (m9 kk key=none/\b6 kvs (.tup (key.map bE))=none)\/∃d v,m9 kk key=some v/\b6 kvs (.tup (key.map bE))=some d/\Is K μ H d v
 | [],[],_,_=>.inl ⟨rfl,rfl⟩
 | [],_::_,h,_=>by simp at h
 | _::_,[],h,_=>by simp at h
 | p::kvs,q::kk,h,l=>by
  simp only[List.map_cons,List.cons.injEq]at h;simp only[List.map_cons]at l;unfold IsL at l;obtain⟨w,r,e,i,l⟩:=l;simp only[List.cons.injEq]at e;obtain⟨rfl,rfl⟩:=e;by_cases hk:q.1=key
  ·right;have hp:p.1= .tup (key.map bE):=by rw[h.1,hk]
   exact⟨p.2,q.2,kG hk,by simp[b6,hp],i⟩
  ·have hp:¬p.1= .tup (key.map bE):=λz=>hk (by
    have:=h.1.symm.trans z;simp only[D.tup.injEq]at this
    exact(List.map_inj_right (f:=bE) λa b e=>pA e).mp this)
   rw[kH hk];simp only[b6,if_neg hp];exact tG key h.2 l
section
variable {X:Cx}{pins:List (Addr×Obj)}{σ:L2.St}{H:Hp}{s:Shared}{a:Addr}
theorem zI{μ:List Addr}{mh:MH}{n:Nat}{t:Bool}{kvs:List (D×D)}{v:V}(R:Rep X.K μ mh H)(h:Is X.K μ H (.ref n) v)(e:RK mh n t kvs):∃a vs u,v= .ref a/\Rd H a u/\rV (some u) (kvs.map (·.1)) vs t/\IsL X.K μ H (kvs.map (·.2)) vs:=by
 obtain⟨a,q,rfl⟩:=i6 h;rcases e with e | ⟨ob,e⟩
 ·obtain⟨vs,hv,l⟩:=R.obj n a _ q e
  cases t with
  | false=>obtain⟨kk,z,r⟩:=hv;exact⟨a,vs,_,rfl,.inl z,⟨kk,rfl,r⟩,l⟩
  | true=>obtain⟨kk,z,r⟩:=hv;exact⟨a,vs,_,rfl,.inl z,⟨kk,rfl,r⟩,l⟩
 ·obtain⟨vs,u,hv,hq,l⟩:=R.obj n a _ q e;exact⟨a,vs,u,rfl,.inr ⟨ob,hv⟩,hq,l⟩
theorem GQ{b:Addr}{ks:List Key}(I:Inv X pins σ H s)(e:nQ X.K H b (ks.map kV)):(tupleKind (aS X.prog X.w)).is s.heap ks b:=by
 obtain⟨aG,r,⟨o,h1,h2,n,h3⟩,_⟩:=I.tuple e;exact⟨o,aG.toArray,n,h1,h2,h3,by simpa using qF r⟩
def aE5:O2:=λy x mh Q=>∃n t kvs,x= .ref n/\RK mh n t kvs/\kOk t y/\Q (.bl (b6 kvs y).isSome) mh
def yK:O2:=λy x mh Q=>∃n t kvs,x= .ref n/\RK mh n t kvs/\kOk t y/\Q (.bl !(b6 kvs y).isSome) mh
theorem aE4(hu:X.A.units+64<cLine):dP X (compareOp .In) (bI X.K aE5):=by
 intro pins s σ H y x u v Q I ry rx q;obtain⟨μ,mh,dy,dx,R,RR,iy,ix,⟨n,t,kvs,rfl,e,hk,q⟩,F⟩:=q;obtain⟨a,vs,uu,rfl,rd,hq,l⟩:=zI RR ix e;cases rx
 cases t with
 | false=>
  obtain⟨kk,z,ek,rfl⟩:=hq;cases z;obtain⟨key,rfl⟩:=hk;cases lS iy;refine aEs (by lia) I (.inl ⟨kk,key,rd,rfl,rfl⟩) ry λs' I' =>?_
  rcases n6 key ek l with ⟨h1,h2⟩ | ⟨d',w,h1,h2,iw⟩
  ·rw[h1];rw[h2]at q;exact⟨.bl false,H,I',rfl,F.here RR q .bl⟩
  ·rw[h1];rw[h2]at q;exact⟨.bl true,H,I',rfl,F.here RR q .bl⟩
 | true=>
  obtain⟨kk,z,ek,rfl⟩:=hq;cases z;obtain⟨ks,rfl⟩:=hk;obtain⟨b,ws,rfl,sq,il⟩:=c8 iy;cases iR il;cases ry;obtain⟨z,hd,xs,rel,dd⟩:=pM I.bG rd;refine wpAny_in_heap (aGt (by lia)) (GQ I sq) hd dd ?_;have qq:=(rel.val ks).eQ;rw[Option.isSome_map]at qq;rw[<-qq]
  rcases tG ks ek l with ⟨h1,h2⟩ | ⟨d',w,h1,h2,iw⟩
  ·rw[h1];rw[h2]at q;exact⟨.bl false,H,I.tok _,rfl,F.here RR q .bl⟩
  ·rw[h1];rw[h2]at q;exact⟨.bl true,H,I.tok _,rfl,F.here RR q .bl⟩
theorem ID(hu:X.A.units+64<cLine):dP X (compareOp .NotIn) (bI X.K yK):=by
 intro pins s σ H y x u v Q I ry rx q;obtain⟨μ,mh,dy,dx,R,RR,iy,ix,⟨n,t,kvs,rfl,e,hk,q⟩,F⟩:=q;obtain⟨a,vs,uu,rfl,rd,hq,l⟩:=zI RR ix e;cases rx
 cases t with
 | false=>
  obtain⟨kk,z,ek,rfl⟩:=hq;cases z;obtain⟨key,rfl⟩:=hk;cases lS iy;refine RL (by lia) I (.inl ⟨kk,key,rd,rfl,rfl⟩) ry λs' I' =>?_
  rcases n6 key ek l with ⟨h1,h2⟩ | ⟨d',w,h1,h2,iw⟩
  ·rw[h1];rw[h2]at q;exact⟨.bl true,H,I',rfl,F.here RR q .bl⟩
  ·rw[h1];rw[h2]at q;exact⟨.bl false,H,I',rfl,F.here RR q .bl⟩
 | true=>
  obtain⟨kk,z,ek,rfl⟩:=hq;cases z;obtain⟨ks,rfl⟩:=hk;obtain⟨b,ws,rfl,sq,il⟩:=c8 iy;cases iR il;cases ry;obtain⟨z,hd,xs,rel,dd⟩:=pM I.bG rd;refine wpAny_notIn_heap (aGt (by lia)) (GQ I sq) hd dd ?_;have qq:=(rel.val ks).eQ;rw[Option.isSome_map]at qq;rw[<-qq]
  rcases tG ks ek l with ⟨h1,h2⟩ | ⟨d',w,h1,h2,iw⟩
  ·rw[h1];rw[h2]at q;exact⟨.bl true,H,I.tok _,rfl,F.here RR q .bl⟩
  ·rw[h1];rw[h2]at q;exact⟨.bl false,H,I.tok _,rfl,F.here RR q .bl⟩
theorem PB{prog:Program}{w:World}{A:Around}{E:aHx}{s:Shared}{d:Addr}{es:Array DictEntry}{ep:Nat}{Q:aHx}(hd:(d==sysModules)=false)(hm:eU s.heap d es ep)(hfit:(es.size:Int)<2^63)
  (h:∀t k,Q (.int es.size t) {s with toks:=k}):wpAny (model prog w) A (call (.builtin "len") [.ref d]) Q E s:=by
 refine aH3 kind_len plain_len entry_len (args_len1 _) ?_;unfold Builtin.«len»;refine aF3 (m:=oneArg "len" _) (aF5 ?_)
 have M:MeetsIn prog w (Builtin.«dict.__len__» ⟨[.ref d],[]⟩) (λ_ R s=>eU s.heap d es ep/\R (.ok (.ret (.int es.size s.toks))) {s with toks:=s.toks+1}):= .of_wp λA R s ⟨hm,h⟩=>by
  obtain⟨o,ho,hc,hdat⟩:=hm;show wpAny _ _ (dictSize d >>=_) _ _ s;unfold dictSize;refine aF3 (aF3 (wpAny_dictEntries ho hdat (aF5 ?_)));show wpAny _ _ (Builtin.Dict.pendingCount d >>=_) _ _ s;refine aF3 (wpAny_pendingCount_other hd ?_);refine wpAny_ret_mkInt ?_;rw[Nat.add_zero];exact h
 refine aF3 (m:=callSpecial? (.ref d) (Str.ofString "__len__")) (aFp (name:=Str.ofString "__len__") hm.typeIs F.slot_dict_len
  (call_meetsIn F.slot_dict_len hm.typeIs F.entry_dict_len (F.args_dict_len_1 _) M ⟨hm,?_⟩))
 show wpAny _ _ _ _ _ {s with toks:=s.toks+1};refine aF3 (aFx (aF5 ?_));refine aF3 (wpAny_letGo ?_);show wpAny _ _ (if ((es.size:Nat):Int)<0 then _ else _) _ _ _;rw[if_neg (by lia)];show wpAny _ _ (if ((es.size:Nat):Int)>=2^63 then _ else _) _ _ _;rw[if_neg (by lia)];exact aF3 (wpAny_mkInt (aF5 ⟨_,rfl,h _ _⟩))
def TC:OA:=λxs mh Q=>∃n t kvs,xs=[.ref n]/\RK mh n t kvs/\Q (.int kvs.length) mh
theorem RV:bY X (.builtin "len") (c7 X.K TC):=by
 intro pins s σ H xs us Q I r q;obtain⟨μ,mh,ds,R,RR,il,⟨n,t,kvs,rfl,e,q⟩,F⟩:=q;obtain⟨v,rfl,iv⟩:=gG il;obtain⟨a,vs,u,rfl,rd,hq,l⟩:=zI RR iv e;obtain⟨u',rfl,ru⟩:=vals1 r;cases ru;obtain⟨h1,h2⟩:=lH hq;have ok:bX X.prog X.w H s.heap a u:=rd.ok I.bG
 obtain⟨ob,es,ep,g1,g2,g3,hm,hz⟩:∃ob es ep,s.heap.get? a=some ob/\ob.ExactDict/\ob.data= .dict es ep/\(a==sysModules)=false/\nU u<=sizeLine:=by
  cases u with
  | dK kk=>obtain⟨z,hm,vs,r,o,es',ep',h1,h2,h3,_⟩:=ok;exact⟨o,es',ep',h1,h2,h3,hm,z⟩
  | dT kk=>obtain⟨z,hm,xs,r,o,es',ep',h1,h2,h3,_⟩:=ok;exact⟨o,es',ep',h1,h2,h3,hm,z⟩
  | _=>exact h1.elim
 have e1:=(EK h1 ok g1 g3).1;have e2:es.size=kvs.length:=by rw[e1,h2];simp
 have sz:=aFn;refine PB hm ⟨ob,g1,g2,g3⟩ (by lia) λt k=>?_;rw[e2];exact⟨.int kvs.length,H,I.tok _,⟨t,rfl⟩,F.here RR q .int⟩
end
def N3:OA:=λxs mh Q=>∃(x:D) (ns:List Int),xs=[x]/\jV mh x=some (ns.map .int)/\Q (.int ns.sum) mh
theorem intsAre_of{K:aHw}{μ:List Addr}{H:Hp}:∀{ns:List Int} {vs:List V} {us:List Value},IsL K μ H (ns.map .int) vs->Vals vs us->IntsAre us ns
 | [],vs,us,h,r=>by simp only[List.map_nil]at h;unfold IsL at h;subst h;cases r;exact .nil
 | n::ns,vs,us,h,r=>by
  simp only[List.map_cons]at h;unfold IsL at h;obtain⟨v,rr,rfl,i,l⟩:=h
  cases r with
  | cons r1 r2=>
   cases bF i;obtain⟨t,rfl⟩:=r1;exact .cons _ t (intsAre_of l r2)
section
variable {X:Cx}
theorem X0(hc:X.calm=true):bY X (.builtin "sum") (c7 X.K N3):=by
 intro pins s σ H xs us Q I r q;obtain⟨μ,mh,ds,R,RR,il,⟨x,ns,rfl,e,q⟩,F⟩:=q;obtain⟨v,rfl,iv⟩:=gG il;obtain⟨a,vs,rfl,sq,l⟩:=nF RR iv e;obtain⟨u,rfl,ru⟩:=vals1 r;cases ru;obtain⟨aG,rv,pl,hz⟩:=I.list sq;have hi:=intsAre_of l rv;obtain⟨xs,ex⟩:=hi.allInts.items;have hl:=pl.isList;rw[ex]at hl;refine sum_intListG (I.ok.hd hc) hl λh' tk t' hk=>?_;refine⟨.int ns.sum,H,I.kept (t' :=tk) hk,⟨t',?_⟩,F.here RR q .int⟩;have e2:=hi.numsOf;have e3:numsOf (intItems xs).toList=ns:=by rw[<-ex];exact e2
 rw[nums_intItems]at e3;rw[preSum_eq,List.take_of_length_le (by simp),e3]
end
open PySem.Calls
noncomputable def kE(P:Params)(x:Str)(t:Tok)(v:Value):DictEntry:=⟨PyData.keyHash P x,.str x t,v⟩
noncomputable def kF(x:Str)(st:Stmt)(m:Value)(c:Addr)(d:Value:= .none):Obj:=⟨.type "function",none,.func (PySem.W.fnOf x x (eI st) (b9 st) (aC st) d .none .none m none (.ref c) .none),#[]⟩
noncomputable def kC(x:Str)(t:Nat)(l n:Int)(T c:Nat)(u v:Value:= .none)(k:Nat:=3):Obj:=
 ⟨.type "code",none,.fields #[.str x t,.str x (t+1),.str "/claim/cut.py" (t+2),.int l 0,.int n 0,.int 0 0,.int 0 0,.int 3 0,.ref (c-k),.bool true,.int 181 0,.ref (c-k+1),.none,u,v,.ref (c-1),.int T 0,.int l 0,.str "/claim/cut.py" (T+1)],#[]⟩
noncomputable def kD(x:Str)(t:Nat)(l n:Int)(T c:Nat):Obj:=kC x t l n T c (.ref (c-3)) (.ref (c-2)) 5
noncomputable def kQ(p:Program)(ks:List Nat):Program:={p with main:={p.main with body:=ks.filterMap λi=>p.main.body[i]?}}
theorem aCe{l:PySem.W.OpenLaw}{q:Program}{loose:List Str}{K:Params->aHw}{as:List Addr}{d:DefRec}{kwd:List (Str×Expr)}{N:Nat}(ok:l.wellSaid=true)(e:∀P,as=(K P).map (·.1))
  (left:PySem.W.LeftO l.prog q loose (λ_=>true) (λs=>as.map s.heap.get?) (λw=>(K w.params).map λp=>some p.2) N)
  (hdef:PySem.W.defOf q l.name=some (d,kwd)) (hp:l.prog.theDef l.name=some (d.params,d.body,d.scope)) (hk:PySem.W.kwWritten? d.params.kwonlyargs d.params.kw_defaults=some kwd)
  (ok2:(PySem.W.chainsOk q && PySem.W.opensWell l.prog && (PySem.W.frees l.row.toRowW && l.row.within.isEmpty))=true) (hb:l.prog.bare) (hw:l.row.toRowW.promised)
  (call:PySem.W.WalkO q loose (λ_ _=>True) (PySem.W.InK K) l.row.toRowW d kwd λf vs=>PySem.call f vs):l.Holds:=
 PySem.W.holds_law ok λsaid=>PySem.W.holds_open (r:=l.row) (XP:=λ_ _=>True) left (PySem.W.InK.of e) PySem.W.InK.keeps (λ_ _=>trivial) (λ_ _ _ _ _=>trivial) hdef hp hk
  (λs _=>PySem.W.recFacts_of (R:=[]) rfl) (Bool.or_true _) said ok2 hb hw call
end D3
namespace LR
open PySem PyProof.Rows L2 D3
def jI(aD:OA):WS:=(cT (aV fE (aB 2) (aE aD (aA (aB 0) (aA (aE eT (aA (aB 2) aF)) aF)))))
def jJ(aD:OA):WS:=(bB (iB (dW (aV oEq (aB 1) (wC (.int 2)))) (cT (aV l9 (aE aD (aA (aB 0) (aA (aV gC (aV jT (wC (.int 2)) (wC (.int 1048576))) (wC (.int 1))) aF))) (wC (.int 1048576)))) d6) (jI aD))
def jK(aD:OA):WS:=(bB (iB (dW (aV oEq (aB 1) (wC (.int 1)))) (cT (aV l9 (aE aD (aA (aB 0) (aA (wC (.int 401)) aF))) (wC (.int 200)))) d6) (jJ aD))
def eX(aD:OA):WS:=(bB (iB (dW (aV oEq (aB 1) (wC (.int 0)))) (cT (aV l9 (aE aD (aA (aB 0) (aA (wC (.int 13)) aF))) (wC (.int 6)))) d6) (jK aD))
def mM(s__law_number:OA):WS:=(cT (d5 (aA (aE xR (aA (aB 3) (aA (aB 4) aF))) (aA (aE C9 (aA (aB 3) (aA (aB 4) aF))) aF))))
def mN(s__law_number:OA):WS:=(bB (iB (dW (aV oEq (aB 3) (aB 4))) (cT (wIf (dW (aV oEq (aB 3) (wC (.int 1048576)))) (d5 (aA (aV l9 (aB 3) (wC (.int 1))) (aA (aB 3) aF))) (d5 (aA (aB 3) (aA (aV gC (aB 3) (wC (.int 1))) aF))))) d6) (mM s__law_number))
def mO(s__law_number:OA):WS:=(bB (bT (aE s__law_number (aA (aB 0) (aA (aB 1) (aA (aB 2) aF)))) (gN 4)) (mN s__law_number))
def gR(s__law_number:OA):WS:=(bB (bT (aE s__law_number (aA (aB 0) (aA (aB 1) (aA (aB 2) aF)))) (gN 3)) (mO s__law_number))
def gS(aD aO:OA):WS:=(qU (OR "list" g7 (aB 5) (aA (d5 (aA (aB 7) (aA (aB 9) (aA (aB 8) (aA (aB 10) aF))))) aF)))
def gU(aD aO:OA):WS:=(bB (bT (aE aO (aA (aB 0) (aA (aB 2) (aA (aB 4) aF)))) (gT 2 (aQ (gN 9) (aQ (gN 10) eL)))) (gS aD aO))
def jH(aD aO:OA):WS:=(bB (bT (aE aO (aA (aB 0) (aA (aB 2) (aA (aB 4) aF)))) (gT 2 (aQ (gN 7) (aQ (gN 8) eL)))) (gU aD aO))
def jZ(aD aO:OA):WS:=(cT (aB 5))
def j3(aD aO:OA):WS:=(bB (l7 (n4 (aA (aB 3) aF)) (gN 6) (jH aD aO)) (jZ aD aO))
def j4(aD aO:OA):WS:=(bB (bT (sY aF) (gN 5)) (j3 aD aO))
def j5(aD aO:OA):WS:=(bB (bT (aV gC (vL ["_law_k"] [0] (n4 (aA (wC (.int 4)) aF)) (gN 0) iA (aV l9 (aE aD (aA (aB 1) (aA (wC (.int 2097153)) aF))) (wC (.int 1048576)))) (sY (aA (HH qB (wC (.int 1048576))) (aA (wC (.int 1048576)) (aA (wC (.int 0)) (aA (wC (.int 1)) aF)))))) (gN 4)) (j4 aD aO))
def j6(aD aO:OA):WS:=(bB (bT (aE aD (aA (aB 0) (aA (aV fE (sY (aA (aV gC (aB 1) (wC (.int 1))) (aA (wC (.int 13)) (aA (wC (.int 13)) (aA (wC (.int 7)) aF))))) (aE aD (aA (aB 0) (aA (wC (.int 4)) aF)))) aF))) (gN 3)) (j5 aD aO))
def fP(aD aO:OA):WS:=(bB (bT (aE aD (aA (aB 0) (aA (wC (.int 4)) aF))) (gN 2)) (j6 aD aO))
def j9:WS:=(iB (OQ (dW (aV oEq (aE eT (aA (aB 1) aF)) (wC (.int 0)))) (dW (aV OB (aB 2) (aV fE (aV fE (aB 1) (HH qB (wC (.int 1)))) (wC (.int 1)))))) (qU (OR "list" g7 (aB 1) (aA (d5 (aA (aB 2) (aA (aB 3) aF))) aF))) (iB (dW (aV OB (aB 3) (aV fE (aV fE (aB 1) (HH qB (wC (.int 1)))) (wC (.int 1))))) (v7 (d5 (aA (aV fE (aV fE (aB 1) (HH qB (wC (.int 1)))) (wC (.int 0))) (aA (aB 3) aF))) (aB 1) (HH qB (wC (.int 1)))) d6))
def mP:WS:=(cT (aE vG (aA (aB 1) aF)))
def mQ:WS:=(bB (l7 (cO (aE HA (aA (aB 0) aF))) (gT 2 (aQ (gN 2) (aQ (gN 3) eL))) (j9)) (mP))
def gV:WS:=(bB (bT (sY aF) (gN 1)) (mQ))
def dJ(s__law_line:OA):WS:=(iB (tB (dW (aV OB (aE eT (aA (aB 5) aF)) (wC (.int 0)))) (tB (dW (aV OB (aE eT (aA (aB 2) aF)) (wC (.int 0)))) (tB (dW (aV oEq (aV fE (aV fE (aB 2) (HH qB (wC (.int 1)))) (wC (.int 1))) (aB 3))) (dW (aV oEq (aV fE (aV fE (aB 2) (HH qB (wC (.int 1)))) (wC (.int 2))) (aB 5)))))) (v7 (d5 (aA (aV fE (aV fE (aB 2) (HH qB (wC (.int 1)))) (wC (.int 0))) (aA (aB 4) (aA (aB 5) aF)))) (aB 2) (HH qB (wC (.int 1)))) (iB (dW (aV OB (aE eT (aA (aB 5) aF)) (wC (.int 0)))) (qU (OR "list" g7 (aB 2) (aA (d5 (aA (aB 3) (aA (aB 4) (aA (aB 5) aF)))) aF))) d6))
def eO(s__law_line:OA):WS:=(bB (bT (aE s__law_line (aA (vL ["_law_rect"] [3,4] (cO (aB 0)) (gN 0) (tB (dW (aV oLe (aV fE (aB 0) (wC (.int 1))) (aB 1))) (dW (aV oGe (aV fE (aB 0) (wC (.int 3))) (aB 2)))) (d5 (aA (aV fE (aB 0) (wC (.int 0))) (aA (aV fE (aB 0) (wC (.int 2))) aF)))) aF)) (gN 5)) (dJ s__law_line))
def jE(s__law_line:OA):WS:=(cT (aE vG (aA (aB 2) aF)))
def jF(s__law_line:OA):WS:=(bB (l7 (AN (aA (aB 1) (aA (wSl oSl (aB 1) (sX (wC (.int 1))) YK) aF))) (gT 2 (aQ (gN 3) (aQ (gN 4) eL))) (eO s__law_line)) (jE s__law_line))
def jG(s__law_line:OA):WS:=(bB (bT (sY aF) (gN 2)) (jF s__law_line))
def eW(s__law_line:OA):WS:=(bB (bT (i3 (aV gC (vL ["_law_rect"] [] (cO (aB 0)) (gN 0) iA (aV fE (aB 0) (wC (.int 1)))) (vL ["_law_rect"] [] (cO (aB 0)) (gN 0) iA (aV fE (aB 0) (wC (.int 3)))))) (gN 1)) (jG s__law_line))
abbrev P2:=Int×Int
structure R4 where
 x0:Int
 y0:Int
 x1:Int
 y1:Int
structure Bd where
 lo:Int
 hi:Int
 ln:List P2
def sD(s:P2):D:= .tup [.int s.1,.int s.2]
def rD(r:R4):D:= .tup [.int r.x0,.int r.y0,.int r.x1,.int r.y1]
def g8(l:List P2):D:= .tup (l.map sD)
def bD(b:Bd):D:= .tup [.int b.lo,.int b.hi,g8 b.ln]
def gD(g:List Bd):D:= .tup (g.map bD)
def yI(a b:P2):Bool:=decide (a.1<b.1\/(a.1=b.1/\a.2<=b.2))
def gM(l:List P2):List P2:=l.mergeSort yI
def aW(f:List P2)(s:P2):List P2:=match f.getLast? with
 | none=>[s]
 | some t=>if t.2<s.1 then f++[s] else if t.2<s.2 then f.dropLast++[(t.1,s.2)] else f
def bS(l:List P2):List P2:=(gM l).foldl aW []
def qH(x:Int):List Int->List Int
 | []=>[x]
 | y::l=>if x<y then x::y::l else if x=y then y::l else y::qH x l
def kJ(l:List Int):List Int:=l.foldr qH []
def aU(rs:List R4)(lo hi:Int):List P2:=(rs.filter λr=>decide (r.y0<=lo) && decide (hi<=r.y1)).map λr=>(r.x0,r.x1)
def bC(rs:List R4)(f:List Bd)(p:P2):List Bd:=
 if bS (aU rs p.1 p.2)=[] then f else match f.getLast? with
  | none=>[⟨p.1,p.2,bS (aU rs p.1 p.2)⟩]
  | some b=>if b.hi=p.1/\b.ln=bS (aU rs p.1 p.2) then f.dropLast++[⟨b.lo,p.2,bS (aU rs p.1 p.2)⟩] else f++[⟨p.1,p.2,bS (aU rs p.1 p.2)⟩]
def nT(rs:List R4):List Int:=kJ (rs.map (·.y0)++rs.map (·.y1))
def cB(rs:List R4):List Bd:=((nT rs).zip (nT rs).tail).foldl (bC rs) []
theorem fT(s:P2):aW [] s=[s]:=rfl
theorem eZ(f:List P2)(t s:P2):aW (f++[t]) s=if t.2<s.1 then f++[t]++[s] else if t.2<s.2 then f++[(t.1,s.2)] else f++[t]:=by
 simp[aW]
theorem g5(rs:List R4)(p:P2):bC rs [] p=if bS (aU rs p.1 p.2)=[] then [] else [⟨p.1,p.2,bS (aU rs p.1 p.2)⟩]:=by
 simp[bC]
theorem fS(rs:List R4)(f:List Bd)(b:Bd)(p:P2):bC rs (f++[b]) p=if bS (aU rs p.1 p.2)=[] then f++[b] else if b.hi=p.1/\b.ln=bS (aU rs p.1 p.2) then f++[⟨b.lo,p.2,bS (aU rs p.1 p.2)⟩] else f++[b]++[⟨p.1,p.2,bS (aU rs p.1 p.2)⟩]:=by
 simp[bC]
theorem U5(a b c:P2)(h1:yI a b=true)(h2:yI b c=true):yI a c=true:=by
 simp only[yI,decide_eq_true_eq]at*;lia
theorem P7(a b:P2):(yI a b || yI b a)=true:=by
 simp only[yI,Bool.or_eq_true,decide_eq_true_eq];lia
theorem LN{a b:P2}(h1:yI a b=true)(h2:yI b a=true):a=b:=by
 simp only[yI,decide_eq_true_eq]at*;exact Prod.ext (by lia) (by lia)
theorem eP(l:List P2):(gM l).Perm l:=List.mergeSort_perm l yI
theorem qV(l:List P2):(gM l).Pairwise λa b=>yI a b=true:=List.pairwise_mergeSort U5 P7 l
theorem A0:∀{l1 l2:List P2},l1.Perm l2->l1.Pairwise (λa b=>yI a b=true)->l2.Pairwise (λa b=>yI a b=true)->l1=l2
 | [],l2,p,_,_=>(List.nil_perm.mp p).symm
 | a::t,[],p,_,_=>absurd p.length_eq (by simp)
 | a::t,b::u,p,s1,s2=>by
  have hab:a=b:=by
   rcases aFd.mp (p.mem_iff.mp aF8) with z | z
   ·exact z
   ·rcases aFd.mp (p.mem_iff.mpr aF8) with y | y
    ·exact y.symm
    ·exact LN ((aFr.mp s1).1 b y) ((aFr.mp s2).1 a z)
  subst hab;rw[A0 (List.Perm.cons_inv p) (List.pairwise_cons.mp s1).2 (List.pairwise_cons.mp s2).2]
theorem QK(a b:P2):lx (enc (sD b)) (enc (sD a))=false↔yI a b=true:=by
 simp only[sD,enc,i8,List.flatMap_cons,List.flatMap_nil,List.append_nil,List.cons_append,List.nil_append,lx,yI];by_cases h1:b.1<a.1
 ·simp[h1];lia
 ·rw[if_neg h1];by_cases h2:a.1<b.1
  ·simp[h2]
  ·rw[if_neg h2];by_cases h3:b.2<a.2
   ·simp[h3];lia
   ·rw[if_neg h3];by_cases h4:a.2<b.2
    ·simp[h4];lia
    ·simp[h4];lia
theorem TN(l:List P2):JY (l.map sD):= .inr ⟨.i,[.i],λd hd=>by obtain⟨s,_,rfl⟩:=aFi.mp hd;exact⟨_,rfl,rfl⟩⟩
theorem HK{l:List P2}{ds:List D}(p:ds.Perm (l.map sD))(s:ds.Pairwise λd e=>lx (enc e) (enc d)=false):ds=(gM l).map sD:=by
 obtain⟨l',p1,rfl⟩:=kT sD p l rfl;congr 1;refine A0 (p1.trans (eP l).symm) ?_ (qV l);rw[List.pairwise_map]at s;exact s.imp λh=>(QK _ _).mp h
theorem uF{x y:Int}:∀{l:List Int},y∈qH x l↔y=x\/y∈l
 | []=>by simp[qH]
 | z::l=>by
  unfold qH;split
  ·simp
  ·split
   ·rename_i h1 h2;subst h2;simp
   ·simp only[List.mem_cons,uF (l:=l)];constructor
    ·rintro(h | h | h) <;> simp[h]
    ·rintro(h | h | h) <;> simp[h]
theorem rG{x:Int}:∀{l:List Int},l.Pairwise (· < ·)->(qH x l).Pairwise (· < ·)
 | [],_=>by simp[qH]
 | z::l,h=>by
  have h1:=aFr.mp h;unfold qH;split
  ·rename_i hx;refine aFr.mpr ⟨λy hy=>?_,h⟩;rcases aFd.mp hy with z | z
   ·subst z;exact hx
   ·exact Int.lt_trans hx (h1.1 y z)
  ·split
   ·exact h
   ·rename_i h2 h3;refine aFr.mpr ⟨λy hy=>?_,rG h1.2⟩;rcases uF.mp hy with z | z
    ·subst z;lia
    ·exact h1.1 y z
theorem iQ{y:Int}:∀{l:List Int},y∈kJ l↔y∈l
 | []=>by simp[kJ]
 | x::l=>by
  show y∈qH x (kJ l)↔_;rw[uF,iQ (l:=l)];simp
theorem fR:∀l:List Int,(kJ l).Pairwise (· < ·)
 | []=>List.Pairwise.nil
 | x::l=>rG (fR l)
theorem GJ:∀{l1 l2:List Int},l1.Pairwise (· < ·)->l2.Pairwise (· < ·)->(∀x,x∈l1↔x∈l2)->l1=l2
 | [],[],_,_,_=>rfl
 | [],b::u,_,_,h=>absurd ((h b).mpr aF8) (by simp)
 | a::t,[],_,_,h=>absurd ((h a).mp aF8) (by simp)
 | a::t,b::u,s1,s2,h=>by
  have c1:=aFr.mp s1;have c2:=aFr.mp s2
  have hab:a=b:=by
   rcases aFd.mp ((h a).mp aF8) with z | z
   ·exact z
   ·rcases aFd.mp ((h b).mpr aF8) with y | y
    ·exact y.symm
    ·have:=c1.1 b y;have:=c2.1 a z;lia
  subst hab;rw[GJ c1.2 c2.2 λx=>?_];constructor
  ·intro hx;rcases aFd.mp ((h x).mp (aF7 _ hx)) with z | z
   ·have:=c1.1 x hx;lia
   ·exact z
  ·intro hx;rcases aFd.mp ((h x).mpr (aF7 _ hx)) with z | z
   ·have:=c2.1 x hx;lia
   ·exact z
theorem HJ{l:List Int}{ks:List Key}(hm:∀k,k∈ks↔k∈l.map Sum.inl)(nd:ks.Nodup)(s:(ks.map bE).Pairwise λd e=>lx (enc e) (enc d)=false):ks.map bE=(kJ l).map .int:=by
 have all:∀{ks:List Key},(∀k∈ks,∃i,k=Sum.inl i)->∃is:List Int,ks=is.map Sum.inl:=by
  intro ks
  induction ks with
  | nil=>intro _;exact⟨[],rfl⟩
  | cons k ks ih=>
   intro h;obtain⟨i,rfl⟩:=h k aF8;obtain⟨is,rfl⟩:=ih λk hk=>h k (aF7 _ hk);exact⟨i::is,rfl⟩
 obtain⟨is,rfl⟩:=all λk hk=>by obtain⟨i,_,e⟩:=aFi.mp ((hm k).mp hk);exact⟨i,e.symm⟩
 have e:is=kJ l:=by
  refine GJ ?_ (fR l) λx=>?_
  ·have nd2:is.Pairwise (· ≠ ·):=by
    have:=List.pairwise_map.mp nd;exact this.imp λh z=>h (by rw[z])
   rw[List.pairwise_map,List.pairwise_map]at s;refine(nd2.and s).imp λ{a b} h=>?_;have h2:=h.2;simp only[bE,enc,i8,lx]at h2;by_cases hb:b<a
   ·simp[hb]at h2
   ·have:=h.1;lia
  ·rw[iQ];have:=hm (Sum.inl x);simpa using this
 rw[e,List.map_map];rfl
theorem wX(l:List Int):(l.map D.int)=(l.map (Sum.inl:Int->Key)).map bE:=by rw[List.map_map];rfl
theorem AV(l:List Int):JY (l.map D.int):= .inl ⟨.i,λd hd=>by obtain⟨s,_,rfl⟩:=aFi.mp hd;rfl⟩
abbrev En(mh:MH)(R:DK):eJ:={nx:=λ_ mh1=>Out mh.length .b7 mh1 R,rt:=λd mh1=>Out mh.length d mh1 R}
theorem oS(n:Nat):∀l:List P2,cC n (l.map sD)=true
 | []=>rfl
 | s::l=>by simp[cC,cD,sD,oS n l]
theorem yE(n:Nat):∀l:List R4,cC n (l.map rD)=true
 | []=>rfl
 | s::l=>by simp[cC,cD,rD,yE n l]
theorem F7(n:Nat):∀l:List Bd,cC n (l.map bD)=true
 | []=>rfl
 | s::l=>by simp[cC,cD,bD,g8,oS,F7 n l]
theorem yT(f:List P2)(s:P2):(aW f s).length<=f.length+1:=by
 rcases aG1 f with rfl | ⟨g,t,rfl⟩
 ·simp[fT]
 ·rw[List.concat_eq_append,eZ];split
  ·simp
  ·split <;> simp
theorem gH:∀(l f:List P2),(l.foldl aW f).length<=f.length+l.length
 | [],f=>by simp
 | s::l,f=>by
  have:=gH l (aW f s);have:=yT f s;simp only[List.foldl_cons,List.length_cons];lia
theorem EE(l:List P2):(bS l).length<=l.length:=by
 have:=gH (gM l) [];have:=(eP l).length_eq;simp[bS]at*;lia
def tY:OA:=λds mh Q=>∃n l,ds=[.ref n]/\mh[n]? =some (.lst (l.map sD))/\l.length<4000/\Q (g8 (bS l)) mh
theorem XH(ds:List D)(mh:MH)(R:DK)(ok:jQ mh)(hs:tY ds mh R):gV (En mh R) (aH ["_law_shreds","_law_found","_law_start","_law_end"] ds) mh:=by
 obtain⟨n,l,rfl,hn,h64,q⟩:=hs;have sz:=aFn;have hnl:n<mh.length:=(aF6.mp hn).1;simp[gV,mQ,aH];refine⟨_,l.map sD,rfl,by simp[jV,List.getElem?_append_left hnl,hn],by simpa using h64,TN l,λds' p s=>?_⟩;obtain rfl:=HK p s;have hl:=(eP l).length_eq;simp[bA];refine cE (λi ρ mh' =>(∃a b,ρ=[some (.ref n),some (.ref mh.length),a,b])/\mh' =mh++[.lst ((((gM l).take i).foldl aW []).map sD),.lst ((gM l).map sD)]) _ ?_ ?_ ?_ ⟨⟨_,_,rfl⟩,by simp⟩
 ·rintro i ρ mh' ⟨_,rfl⟩;simp
 ·rintro i d ρ mh' N hi ⟨⟨a,b,rfl⟩,rfl⟩ nx;obtain⟨s,hs,rfl⟩:=g6 hi;have hil:i<(gM l).length:=(aF6.mp hs).1;have hfl:=gH ((gM l).take i) [];have e2:((gM l).take (i+1)).foldl aW []=aW (((gM l).take i).foldl aW []) s:=by rw[take_snoc hs];simp
  have nx2:∀a b,N [some (.ref n),some (.ref mh.length),a,b] (mh++[.lst ((aW (((gM l).take i).foldl aW []) s).map sD),.lst ((gM l).map sD)]):=λa b=>nx _ _ ⟨⟨_,_,rfl⟩,by rw[e2]⟩;generalize ((gM l).take i).foldl aW []=f at hfl nx2⊢;have g0:(mh++[MO.lst (f.map sD),.lst ((gM l).map sD)])[mh.length]? =some (.lst (f.map sD)):=by simp
  have gs:∀g:List D,(mh++[MO.lst (f.map sD),.lst ((gM l).map sD)]).set mh.length (.lst g)=mh++[.lst g,.lst ((gM l).map sD)]:=λg=>by simp
  have gk:f.map sD=[]\/True:= .inr trivial;generalize hM:mh++[MO.lst (f.map sD),.lst ((gM l).map sD)]=M at g0 gs⊢;simp at hfl;simp[sD,j9,kO g0,EJ,gY g0];rcases aG1 f with rfl | ⟨g,t,rfl⟩
  ·simp only[fT]at nx2;simp;rw[nC g0,gs];exact⟨⟨_,g0⟩,by lia,by simp;lia,by simpa[sD] using nx2 _ _⟩
  ·rw[List.concat_eq_append]at*;simp only[eZ]at nx2;have hix:nO ((g++[t]).map sD) (-1)=some (.tup [.int t.1,.int t.2]):=by rw[List.map_append];exact yZ _ _
   rw[hix];have c0:¬(g++[t]=[]):=by simp
   simp only[bW,KY,mC,ZW];simp;by_cases c1:t.2<s.1
   ·simp only[c1,if_true]at nx2⊢;rw[nC g0,gs];refine⟨⟨_,g0⟩,by lia,by simp at hfl⊢;lia,?_⟩;have:=nx2 (some (.int s.1)) (some (.int s.2));simpa[sD] using this
   ·simp only[c1,if_false]at nx2⊢;by_cases c2:t.2<s.2
    ·simp only[c2,if_true]at nx2⊢;rw[gY g0,hix];simp[mC,c2];rw[gY g0,hix];simp[mC];rw[yA g0];simp only[List.length_map,List.length_append,List.length_cons,List.length_nil,Nat.zero_add,B4,bW];rw[gs];have:=nx2 (some (.int s.1)) (some (.int s.2));refine⟨by lia,?_⟩;simpa[sD] using this
    ·simp only[c2,if_false]at nx2⊢;rw[gY g0,hix];simp[mC,c2];have:=nx2 (some (.int s.1)) (some (.int s.2));rw[hM]at this;exact this
 ·rintro ρ mh' ⟨⟨a,b,rfl⟩,rfl⟩;have e:(gM l).take ((gM l).map sD).length=gM l:=by simp
  rw[e];simp[mP,bA];exact fD ok (by simp[cD,oS]) q
theorem A8(rs:List R4)(f:List Bd)(p:P2):(bC rs f p).length<=f.length+1:=by
 rcases aG1 f with rfl | ⟨g,t,rfl⟩
 ·rw[g5];split <;> simp
 ·rw[List.concat_eq_append,fS];split
  ·simp
  ·split <;> simp
theorem iC(rs:List R4):∀(l:List P2) (f:List Bd),(l.foldl (bC rs) f).length<=f.length+l.length
 | [],f=>by simp
 | s::l,f=>by
  have:=iC rs l (bC rs f s);have:=A8 rs f s;simp only[List.foldl_cons,List.length_cons];lia
theorem CF(x:Int):∀l:List Int,(qH x l).length<=l.length+1
 | []=>by simp[qH]
 | y::l=>by
  unfold qH;have:=CF x l;split
  ·simp
  ·split <;> simp <;> lia
theorem wA:∀l:List Int,(kJ l).length<=l.length
 | []=>by simp[kJ]
 | x::l=>by
  have:=wA l;have:=CF x (kJ l);show (qH x (kJ l)).length<=_;simp;lia
theorem AF(rs:List R4):(nT rs).length<=2*rs.length:=by
 have:=wA (rs.map (·.y0)++rs.map (·.y1));simp[nT]at*;lia
theorem tU(rs:List R4)(lo hi:Int):(aU rs lo hi).length<=rs.length:=by
 simp[aU];exact List.length_filter_le _ _
theorem vF:∀l:List P2,eM (l.map sD)=true/\fH (l.map sD)<=2
 | []=>by simp[eM,fH]
 | s::l=>by
  have:=vF l;simp only[List.map_cons,eM,fH,this.1,Bool.and_true];simp only[sD,bare,eM,deep,fH];refine⟨rfl,by lia⟩
theorem G1:∀l m:List P2,fG (l.map sD) (m.map sD)=decide (l=m)
 | [],[]=>by simp[fG]
 | [],_::_=>by simp[fG]
 | _::_,[]=>by simp[fG]
 | a::l,b::m=>by
  simp only[List.map_cons,fG,G1 l m];simp only[sD,jO,fG];by_cases h1:a.1=b.1 <;> by_cases h2:a.2=b.2 <;> by_cases h3:l=m <;> simp[h1,h2,h3,Prod.ext_iff]
def gZ:OA:=λds mh Q=>∃n rs,ds=[.ref n]/\mh[n]? =some (.lst (rs.map rD))/\rs.length<=1000/\Q (gD (cB rs)) mh
theorem QV{mh:MH}{n:Nat}{l:List P2}{Q:DK}(h:mh[n]? =some (.lst (l.map sD)))(hl:l.length<4000)(q:Q (g8 (bS l)) mh):tY [.ref n] mh Q:=⟨n,l,rfl,h,hl,q⟩
theorem XD{mh mh' :MH}{E:eJ}{rs:List R4}{n fa:Nat}{lo hi:Int}{f:List Bd}{a5:Option D}{ya:D}(px:cX mh mh')(hn:mh'[n]? =some (.lst (rs.map rD)))(hr:(aU rs lo hi).length<4000)(hf:mh'[fa]? =some (.lst (f.map bD)))(hfa:mh.length<=fa)(hfl:f.length<=4000)
  (nx:∀a T,cX mh ((mh' ++T).set fa (.lst ((bC rs f (lo,hi)).map bD)))->E.nx [some (.ref n),some ya,some (.ref fa),some (.int lo),some (.int hi),a] ((mh' ++T).set fa (.lst ((bC rs f (lo,hi)).map bD)))):
  eO tY E [some (.ref n),some ya,some (.ref fa),some (.int lo),some (.int hi),a5] mh' :=by
 have sz:=aFn;simp[eO];rw[bR hn];simp;refine nM rD (λr=>decide (r.y0<=lo) && decide (hi<=r.y1)) (λr=>(r.x0,r.x1)) sD rs (bR hn) ?_ ?_
 ·intro r hr N M h1 h2;simp[fW,rD,mC,C7,JQ];by_cases c1:r.y0<=lo
  ·simp[c1]at h1 h2⊢;by_cases c2:hi<=r.y1
   ·simp[c2]at h1 h2⊢;exact⟨by lia,h1⟩
   ·simp[c2]at h1 h2⊢;exact h2 (by lia)
  ·simp[c1]at h1 h2⊢;exact h2
 ·refine QV (l:=aU rs lo hi) (by simp[aU]) hr ?_;have px1:cX mh (mh' ++[MO.lst ((aU rs lo hi).map sD)]):=px.push _;have g1:(mh' ++[MO.lst ((aU rs lo hi).map sD)])[fa]? =some (.lst (f.map bD)):=cJ hf;have nx1:=λa=>nx a [MO.lst ((aU rs lo hi).map sD)] (px1.set hfa _);change dJ tY _ _ (mh' ++[MO.lst ((aU rs lo hi).map sD)]);generalize mh' ++[MO.lst ((aU rs lo hi).map sD)]=M at px1 g1 nx1⊢;have keep:=oC g1;have hlb:=vF (bS (aU rs lo hi));generalize hln:bS (aU rs lo hi)=ln at*;have hrs:∀g,bC rs g (lo,hi)=bC rs g (lo,hi):=λ_=>rfl;simp[dJ,kO g1,g8,EJ,gY g1];rcases aG1 f with rfl | ⟨g,t,rfl⟩
  ·simp only[g5,hln]at nx1;by_cases c:ln=[]
   ·subst c;simp at nx1⊢;simp at keep;rw[keep]at nx1;exact nx1 _
   ·have c' :0<ln.length:=List.length_pos_iff.mpr c;simp[c,c']at nx1⊢;rw[nC g1];exact⟨⟨_,g1⟩,by lia,by simp;lia,by simpa[bD,g8] using nx1 _⟩
  ·rw[List.concat_eq_append]at*;have hix:nO ((g++[t]).map bD) (-1)=some (.tup [.int t.lo,.int t.hi,.tup (t.ln.map sD)]):=by rw[List.map_append];exact yZ _ _
   simp only[fS,hln]at nx1;by_cases c:ln=[]
   ·subst c;simp at nx1⊢;simp at keep;rw[keep]at nx1;exact nx1 _
   ·have c' :0<ln.length:=List.length_pos_iff.mpr c;have hb3:=vF t.ln;simp[c,c']at nx1⊢;rw[yZ];simp[bD,g8,mC,C7];by_cases c1:t.hi=lo
    ·simp[c1]at nx1⊢;rw[gY g1,hix];simp[mC,C7];refine⟨hb3.1,hlb.1,by lia,?_⟩;rw[G1];by_cases c2:t.ln=ln
     ·simp[c2]at nx1⊢;rw[gY g1,hix];simp[mC,C7];rw[yA g1];simp only[List.length_map,List.length_append,List.length_cons,List.length_nil,Nat.zero_add,B4,bW];have:=nx1 (some (.tup (ln.map sD)));refine⟨by lia,?_⟩;simpa[bD,g8] using this
     ·simp[c2]at nx1⊢;rw[nC g1];refine⟨⟨_,g1⟩,by lia,by simp at hfl⊢;lia,?_⟩;have:=nx1 (some (.tup (ln.map sD)));simpa[bD,g8] using this
    ·simp[c1]at nx1⊢;rw[nC g1];refine⟨⟨_,g1⟩,by lia,by simp at hfl⊢;lia,?_⟩;have:=nx1 (some (.tup (ln.map sD)));simpa[bD,g8] using this
theorem M5(ds:List D)(mh:MH)(R:DK)(ok:jQ mh)(hs:gZ ds mh R):eW tY (En mh R) (aH ["_law_rects_here","_law_ys","_law_found","_law_low","_law_high","_law_line_here"] ds) mh:=by
 obtain⟨n,rs,rfl,hn,hr,q⟩:=hs;have sz:=aFn;have hnl:n<mh.length:=zD hn;simp[eW,aH];rw[bR hn];simp;refine c6 rD (·.y0) .int rs (bR hn) (λr _ N hN=>by simpa[fW,rD,mC] using hN) ?_;rw[bR (cJ hn)];simp only[bW];refine c6 rD (·.y1) .int rs (bR (cJ hn)) (λr _ N hN=>by simpa[fW,rD,JQ] using hN) ?_;rw[KZ (i:=(rs.map (·.y0)).map .int) (j:=(rs.map (·.y1)).map .int) (by simp) (by simp)];refine⟨by simp;lia,(rs.map (·.y0)++rs.map (·.y1)).map Sum.inl,?_,by simp;lia,by rw[<-wX];exact AV _,λks hm nd _ srt=>?_⟩
 ·rw[kW (dM _ _),<-wX];simp
 have ey:ks.map bE=(nT rs).map .int:=HJ hm nd srt;rw[ey];have hyl:=AF rs;generalize hys:nT rs=ys at*;have px:cX mh (((mh++[MO.lst ((rs.map (·.y0)).map .int)])++[MO.lst ((rs.map (·.y1)).map .int)])++[MO.lst (((rs.map (·.y0)).map .int)++((rs.map (·.y1)).map .int))]):=((cX.refl.push _).push _).push _;generalize ((mh++[MO.lst ((rs.map (·.y0)).map .int)])++[MO.lst ((rs.map (·.y1)).map .int)])++[MO.lst (((rs.map (·.y0)).map .int)++((rs.map (·.y1)).map .int))]=M at px⊢;simp[jG,jF];rw[ZU (ds:=ys.map .int) (by simp),JH,<-List.map_tail];have hml:=px.le;have g1:(M++[MO.lst (ys.map .int),.lst []]++[.lst (ys.tail.map .int)])[M.length]? =some (.lst (ys.map .int)):=by simp
 have g2:(M++[MO.lst (ys.map .int),.lst []]++[.lst (ys.tail.map .int)])[M.length+1]? =some (.lst []):=by simp
 have g3:(M++[MO.lst (ys.map .int),.lst []]++[.lst (ys.tail.map .int)])[M.length+2]? =some (.lst (ys.tail.map .int)):=by simp
 have px2:cX mh (M++[MO.lst (ys.map .int),.lst []]++[.lst (ys.tail.map .int)]):=(px.app _).app _;have e3:(M++[MO.lst (ys.map .int),MO.lst []]).length=M.length+2:=by simp
 rw[e3];generalize M++[MO.lst (ys.map .int),.lst []]++[.lst (ys.tail.map .int)]=M2 at g1 g2 g3 px2⊢;rw[bR g1,bR g3];simp only[bW];refine⟨by simp;lia,?_⟩;rw[zip_map];refine cE (λi ρ mh' =>(∃a b c,ρ=[some (.ref n),some (.ref M.length),some (.ref (M.length+1)),a,b,c])/\cX mh mh' /\mh'[M.length]? =some (.lst (ys.map .int))/\mh'[M.length+2]? =some (.lst (ys.tail.map .int))/\mh'[M.length+1]? =some (.lst ((((ys.zip ys.tail).take i).foldl (bC rs) []).map bD))) _ ?_ ?_ ?_ ⟨⟨_,_,_,rfl⟩,px2,g1,g3,by simpa using g2⟩
 ·rintro i ρ mh' ⟨_,_,a1,a2,_⟩;exact⟨bR a1,bR a2⟩
 ·rintro i d ρ mh' N hi ⟨⟨a,b,c,rfl⟩,px3,a1,a2,a3⟩ nx;obtain⟨p,hp,rfl⟩:=g6 hi;have hil:i<(ys.zip ys.tail).length:=(aF6.mp hp).1;have hfl:=iC rs ((ys.zip ys.tail).take i) [];simp;refine XD px3 (px3.old hn) (by have:=tU rs p.1 p.2;lia) a3 (by lia) (by simp at hil hfl⊢;lia) λa T px4=>nx _ _ ⟨⟨_,_,_,rfl⟩,px4,get_set (pG a1) (by lia),get_set (pG a2) (by lia),?_⟩;rw[eE _ (pG a3),take_snoc hp];simp
 ·rintro ρ mh' ⟨⟨a,b,c,rfl⟩,px3,a1,a2,a3⟩;simp only[jE];simp[bA];rw[a3];simp;have e:(ys.zip ys.tail).take (ys.length-1)=ys.zip ys.tail:=List.take_of_length_le (by simp);refine px3.out ok (by simp[cD,F7]) ?_;rw[e];have:cB rs=(ys.zip ys.tail).foldl (bC rs) []:=by rw[<-hys];rfl
  rw[<-this];exact q
abbrev rT(i:Int):Prop:= -1048576<=i/\i<=1048576
def pW(mh:MH)(b sm:Nat):Prop:=sm≠b/\∃is:List Int,mh[sm]? =some (.lst (is.map .int))/\is.length=8/\∀i∈is,rT i
theorem pW.to{mh mh' :MH}{b sm:Nat}(h:pW mh b sm)(t:cK mh b mh'):pW mh' b sm:=by
 obtain⟨h1,is,h2,h3⟩:=h;exact⟨h1,is,by rw[t.other h1];exact h2,h3⟩
def oO:OA:=λds mh Q=>∃b sort sm,ds=[.ref b,.int sort,.ref sm]/\xT mh b/\pW mh b sm/\∀v mh',rT v->cK mh b mh' ->Q (.int v) mh'
theorem M7(ds:List D)(mh:MH)(R:DK)(ok:jQ mh)(hs:oO ds mh R):eX qZ (En mh R) (aH ["_law_bag_here","_law_sort","_law_some"] ds) mh:=by
 obtain⟨b,sort,sm,rfl,hb,h8,q⟩:=hs;have fin:∀v mh',rT v->cK mh b mh' ->Out mh.length (.int v) mh' R:=λv mh' h t=>cW (q v mh' h t);simp[eX,aH];by_cases c0:sort=0
 ·simp[c0];exact sG (by lia) (by lia) hb λr mh' r0 r1 t=>by simp;exact fin _ _ ⟨by lia,by lia⟩ t
 ·simp[c0,jK];by_cases c1:sort=1
  ·simp[c1];exact sG (by lia) (by lia) hb λr mh' r0 r1 t=>by simp;exact fin _ _ ⟨by lia,by lia⟩ t
  ·simp[c1,jJ];by_cases c2:sort=2
   ·simp[c2];refine⟨.inl ⟨by lia,by lia⟩,?_⟩;exact sG (by lia) (by lia) hb λr mh' r0 r1 t=>by simp;exact fin _ _ ⟨by lia,by lia⟩ t
   ·have h8' :=h8;obtain⟨n1,is,h2,h3,h4⟩:=h8;simp[c2,jI,kO h2,h3];refine sG (by lia) (by lia) hb λr mh' r0 r1 t=>?_;have h2' :mh'[sm]? =some (.lst (is.map .int)):=by rw[t.other n1];exact h2
    obtain⟨v,hv,_,e⟩:=R9 (f:=D.int) (ss:=is) r0 (by lia);rw[gY h2',e];simp;exact fin v mh' (h4 v hv) t
def A3:OA:=λds mh Q=>∃b sort sm,ds=[.ref b,.int sort,.ref sm]/\xT mh b/\pW mh b sm/\∀u v mh',rT u->rT v->u<v->cK mh b mh' ->Q (.tup [.int u,.int v]) mh'
theorem wV{mh:MH}{b sm:Nat}{sort:Int}{Q:DK}(hb:xT mh b)(h8:pW mh b sm)(q:∀v mh',rT v->cK mh b mh' ->Q (.int v) mh'):oO [.ref b,.int sort,.ref sm] mh Q:=⟨b,sort,sm,rfl,hb,h8,q⟩
theorem XA(ds:List D)(mh:MH)(R:DK)(ok:jQ mh)(hs:A3 ds mh R):gR oO (En mh R) (aH ["_law_bag_here","_law_sort","_law_some","_law_one","_law_other_here"] ds) mh:=by
 obtain⟨b,sort,sm,rfl,hb,h8,q⟩:=hs;have sz:=aFn;simp[gR,mO,aH];refine wV hb h8 λu mh1 u1 t1=>?_;refine wV t1.1 (h8.to t1) λv mh2 v1 t2=>?_;have t:=t1.trans t2;simp[mN];by_cases c:u=v
 ·subst c;simp;by_cases c1:u=1048576
  ·simp[c1];exact⟨by lia,cW (q _ _ mh2 ⟨by lia,by lia⟩ ⟨by lia,by lia⟩ (by lia) t)⟩
  ·simp[c1];exact⟨by lia,cW (q _ _ mh2 u1 ⟨by lia,by lia⟩ (by lia) t)⟩
 ·simp[c,mM];refine⟨by lia,cW ?_⟩;by_cases c1:v<u
  ·rw[if_pos c1,if_neg (by lia)];exact q _ _ mh2 v1 u1 c1 t
  ·rw[if_neg c1,if_pos (by lia)];exact q _ _ mh2 u1 v1 (by lia) t
theorem F2{mh:MH}{b sm:Nat}{sort:Int}{Q:DK}(hb:xT mh b)(h8:pW mh b sm)(q:∀u v mh',rT u->rT v->u<v->cK mh b mh' ->Q (.tup [.int u,.int v]) mh'):A3 [.ref b,.int sort,.ref sm] mh Q:=⟨b,sort,sm,rfl,hb,h8,q⟩
def R4.ok(r:R4):Prop:=rT r.x0/\rT r.y0/\rT r.x1/\rT r.y1/\r.x0<r.x1/\r.y0<r.y1
def p7:OA:=λds mh Q=>∃b most,ds=[.ref b,.int most]/\12<=most/\most<=1000/\xT mh b/\∀(rs:List R4) mh',rs.length<=most.toNat->(∀r∈rs,r.ok)->cK mh b mh' ->Q (.ref mh'.length) (mh' ++[.lst (rs.map rD)])
theorem ix4{x y z u r:Int}(h0:0<=r)(h1:r<4):∃v,nO [D.int x,.int y,.int z,.int u] r=some (.int v)/\(v=x\/v=y\/v=z\/v=u):=by
 have:r=0\/r=1\/r=2\/r=3:=by lia
 rcases this with rfl | rfl | rfl | rfl
 ·exact⟨x,aEt _ _,.inl rfl⟩
 ·exact⟨y,mC _ _ _,.inr (.inl rfl)⟩
 ·exact⟨z,C7 _ _ _ _,.inr (.inr (.inl rfl))⟩
 ·exact⟨u,JQ _ _ _ _ _,.inr (.inr (.inr rfl))⟩
theorem RC(ds:List D)(mh:MH)(R:DK)(ok:jQ mh)(hs:p7 ds mh R):fP qZ A3 (En mh R) (aH ["_law_bag_here","_law_most","_law_sort","_law_many","_law_some","_law_found","_law_k","_law_left","_law_right","_law_low","_law_high"] ds) mh:=by
 obtain⟨b,most,rfl,m0,m1,hb,q⟩:=hs;have sz:=aFn;have hbl:=hb.lt;simp[fP,j6,aH];refine FZ (.refl hb) (by lia) (by lia) λsort mh1 s0 s1 x1 _ _=>?_;refine⟨by lia,?_⟩;refine FZ (x1.push _) (by lia) (by lia) λr mh2 r0 r1 x2 l2 k2=>?_;have e2:mh2[mh1.length]? =some (.lst [.int (most+1),.int 13,.int 13,.int 7]):=by rw[k2 _ x1.le];simp
 rw[gY e2];obtain⟨v,hv,hv2⟩:=ix4 (x:=most+1) (y:=13) (z:=13) (u:=7) r0 r1;rw[hv];simp;refine FZ x2 (by lia) (by lia) λmany mh3 n0 n1 x3 _ _=>?_;have hmany:many<=most:=by lia
 simp[j5];refine⟨by lia,?_⟩;refine NS (λi ys mh' =>fJ mh b mh' /\∃is:List Int,ys=is.map .int/\is.length=i/\∀i∈is,rT i) _ (λ_ _ _ _=>trivial) ?_ ?_ ⟨x3,[],rfl,rfl,by simp⟩
 ·rintro i d ys mh4 N hi ⟨x4,is,rfl,il,fa⟩ nx;simp[fW];refine FZ x4 (by lia) (by lia) λc mh5 c0 c1 x5 _ _=>?_;simp;refine nx _ _ ⟨x5,is++[c-1048576],by simp,by simp[il],λi hi=>?_⟩;rcases aFb.mp hi with hi | hi
  ·exact fa i hi
  ·simp at hi;subst hi;exact⟨by lia,by lia⟩
 ·rintro ys mh4 ⟨x4,is,rfl,il,fa⟩;simp at il;simp;refine⟨by lia,?_⟩;rw[KZ (i:=is.map .int) (j:=[.int (-1048576),.int 1048576,.int 0,.int 1]) (by simp) (by simp)];refine⟨by simp;lia,?_⟩;simp[j4,j3]
  have xx:=(x4.app [MO.lst (is.map .int),.lst [D.int (-1048576),D.int 1048576,D.int 0,D.int 1],MO.lst ((is.map .int)++[D.int (-1048576),D.int 1048576,D.int 0,D.int 1]),.lst []])
  have h8:pW ((mh4++[MO.lst (is.map .int),.lst [D.int (-1048576),D.int 1048576,D.int 0,D.int 1]]++[MO.lst ((is.map .int)++[D.int (-1048576),D.int 1048576,D.int 0,D.int 1])])++[.lst []]) b (mh4.length+2):=by
   refine⟨by have:=x4.le;lia,is++[-1048576,1048576,0,1],by simp,by simp;lia,λi hi=>?_⟩;rcases aFb.mp hi with hi | hi
   ·exact fa i hi
   ·simp at hi;rcases hi with rfl | rfl | rfl | rfl <;> exact⟨by lia,by lia⟩
  have g0:((mh4++[MO.lst (is.map .int),.lst [D.int (-1048576),D.int 1048576,D.int 0,D.int 1]]++[MO.lst ((is.map .int)++[D.int (-1048576),D.int 1048576,D.int 0,D.int 1])])++[.lst []])[mh4.length+3]? =some (.lst []):=by simp
  simp only[List.append_assoc,List.cons_append,List.nil_append]at h8 g0;have hm4:=x4.le;generalize mh4++[MO.lst (is.map .int),.lst [D.int (-1048576),D.int 1048576,D.int 0,D.int 1],MO.lst ((is.map .int)++[D.int (-1048576),D.int 1048576,D.int 0,D.int 1]),.lst []]=M at h8 xx g0⊢;generalize mh4.length=c at*;refine⟨by lia,by lia,?_⟩;refine cE (λi ρ mh' =>(∃a1 a2 a3 a4 a5,ρ=[some (.ref b),some (.int most),some (.int sort),some (.int many),some (.ref (c+2)),some (.ref (c+3)),a1,a2,a3,a4,a5])/\fJ mh b mh' /\pW mh' b (c+2)/\∃rs:List R4,mh'[c+3]? =some (.lst (rs.map rD))/\rs.length=i/\∀r∈rs,r.ok) _ (λ_ _ _ _=>trivial) ?_ ?_ ⟨⟨_,_,_,_,_,rfl⟩,xx,h8,[],by simpa using g0,rfl,by simp⟩
  ·rintro i d ρ mh5 N hi ⟨⟨a1,a2,a3,a4,a5,rfl⟩,x5,h85,rs,gr,hl,bG⟩ nx;obtain⟨hil,rfl⟩:=oP hi;simp[jH,gU];refine F2 x5.bag h85 λu v mh6 u1 v1 uv t6=>?_;simp;refine F2 t6.1 (h85.to t6) λu2 v2 mh7 u3 v3 uv2 t7=>?_;have t:=t6.trans t7;have gr7:mh7[c+3]? =some (.lst (rs.map rD)):=by rw[t.other (by lia)];exact gr
   simp[gS,EJ];rw[nC gr7];refine⟨⟨_,gr7⟩,by lia,by simp;lia,nx _ _ ⟨⟨_,_,_,_,_,rfl⟩,(x5.to t).set (by lia) _,?_,rs++[⟨u,u2,v,v2⟩],?_,by simp[hl],λr hr=>?_⟩⟩
   ·obtain⟨n1,is2,h2,h3⟩:=h85.to t;exact⟨n1,is2,get_set h2 (by lia),h3⟩
   ·rw[eE _ gr7];simp[rD]
   ·rcases aFb.mp hr with hr | hr
    ·exact bG r hr
    ·simp at hr;subst hr;exact⟨u1,u3,v1,v3,uv,uv2⟩
  ·rintro ρ mh5 ⟨⟨a1,a2,a3,a4,a5,rfl⟩,x5,h85,rs,gr,hl,bG⟩;simp[jZ];refine x5.U6 ok (by lia) gr (by simp[yJ,yE]) λmh6 t=>q rs mh6 (by simp at hl;lia) bG t
theorem yU{P:Int->Prop}{f:List P2}{s:P2}(hf:∀t∈f,P t.1/\P t.2)(hs:P s.1/\P s.2):∀t∈aW f s,P t.1/\P t.2:=by
 rcases aG1 f with rfl | ⟨g,u,rfl⟩
 ·rw[fT];intro t ht;simp at ht;subst ht;exact hs
 ·rw[List.concat_eq_append]at*;rw[eZ];have hu:=hf u (by simp);split
  ·intro t ht;rcases aFb.mp ht with z | z
   ·exact hf t z
   ·simp at z;subst z;exact hs
  ·split
   ·intro t ht;rcases aFb.mp ht with z | z
    ·exact hf t (by simp[z])
    ·simp at z;subst z;exact⟨hu.1,hs.2⟩
   ·exact hf
theorem lB{P:Int->Prop}:∀(l f:List P2),(∀t∈l,P t.1/\P t.2)->(∀t∈f,P t.1/\P t.2)->∀t∈l.foldl aW f,P t.1/\P t.2
 | [],f,_,hf=>hf
 | s::l,f,hl,hf=>lB l (aW f s) (λt ht=>hl t (aF7 _ ht)) (yU hf (hl s aF8))
theorem EF{P:Int->Prop}{l:List P2}(h:∀t∈l,P t.1/\P t.2):∀t∈bS l,P t.1/\P t.2:=
 lB _ _ (λt ht=>h t ((eP l).mem_iff.mp ht)) (by simp)
theorem DS{P:Int->Prop}{rs:List R4}(h:∀r∈rs,P r.x0/\P r.x1)(lo hi:Int):∀t∈aU rs lo hi,P t.1/\P t.2:=by
 intro t ht;simp only[aU,List.mem_map,List.mem_filter]at ht;obtain⟨r,⟨hr,_⟩,rfl⟩:=ht;exact h r hr
def Bd.far(n:Nat)(b:Bd):Prop:=rT b.lo/\rT b.hi/\b.ln.length<=n/\∀t∈b.ln,rT t.1/\rT t.2
theorem A9{rs:List R4}{f:List Bd}{p:P2}(hr:∀r∈rs,r.ok)(hf:∀b∈f,b.far rs.length)(h1:rT p.1)(h2:rT p.2):∀b∈bC rs f p,b.far rs.length:=by
 have hl:∀t∈bS (aU rs p.1 p.2),rT t.1/\rT t.2:=EF (DS (λr hr2=>⟨(hr r hr2).1,(hr r hr2).2.2.1⟩) _ _);have hn:(bS (aU rs p.1 p.2)).length<=rs.length:=aFu (EE _) (tU _ _ _);rcases aG1 f with rfl | ⟨g,u,rfl⟩
 ·rw[g5];split
  ·simp
  ·intro b hb;simp at hb;subst hb;exact⟨h1,h2,hn,hl⟩
 ·rw[List.concat_eq_append]at*;rw[fS];have hu:=hf u (by simp);split
  ·exact hf
  ·split
   ·intro b hb;rcases aFb.mp hb with z | z
    ·exact hf b (by simp[z])
    ·simp at z;subst z;exact⟨hu.1,h2,hn,hl⟩
   ·intro b hb;rcases aFb.mp hb with z | z
    ·exact hf b z
    ·simp at z;subst z;exact⟨h1,h2,hn,hl⟩
theorem mX{rs:List R4}(hr:∀r∈rs,r.ok):∀(l:List P2) (f:List Bd),(∀p∈l,rT p.1/\rT p.2)->(∀b∈f,b.far rs.length)->∀b∈l.foldl (bC rs) f,b.far rs.length
 | [],f,_,hf=>hf
 | s::l,f,hl,hf=>mX hr l _ (λt ht=>hl t (aF7 _ ht)) (A9 hr hf (hl s aF8).1 (hl s aF8).2)
theorem AG{rs:List R4}(hr:∀r∈rs,r.ok):∀y∈nT rs,rT y:=by
 intro y hy;rw[nT,iQ]at hy;rcases aFb.mp hy with z | z
 ·obtain⟨r,h,rfl⟩:=aFi.mp z;exact(hr r h).2.1
 ·obtain⟨r,h,rfl⟩:=aFi.mp z;exact(hr r h).2.2.2.1
theorem HQ{rs:List R4}(hr:∀r∈rs,r.ok):∀b∈cB rs,b.far rs.length:=
 mX hr _ _ (λp hp=>⟨AG hr _ (List.of_mem_zip hp).1,AG hr _ (List.mem_of_mem_tail (List.of_mem_zip hp).2)⟩) (by simp)
theorem lQ(rs:List R4):(cB rs).length<=2*rs.length:=by
 have:=iC rs ((nT rs).zip (nT rs).tail) [];have:=AF rs;simp[cB]at*;lia
theorem qA{mh:MH}{n:Nat}{rs:List R4}{Q:DK}(h:mh[n]? =some (.lst (rs.map rD)))(hl:rs.length<=1000)(q:Q (gD (cB rs)) mh):gZ [.ref n] mh Q:=⟨n,rs,rfl,h,hl,q⟩
theorem K3{mh:MH}{b:Nat}{most:Int}{Q:DK}(h0:12<=most)(h1:most<=1000)(hb:xT mh b)(q:∀(rs:List R4) mh',rs.length<=most.toNat->(∀r∈rs,r.ok)->cK mh b mh' ->Q (.ref mh'.length) (mh' ++[.lst (rs.map rD)])):p7 [.ref b,.int most] mh Q:=⟨b,most,rfl,h0,h1,hb,q⟩
def iV(f:List P2)(x:Int):Prop:=∃t∈f,t.1<=x/\x<t.2
def Sep(f:List P2):Prop:=(∀t∈f,t.1<t.2)/\f.Pairwise λa b=>a.2<b.1
theorem lW{f g:List P2}{x:Int}:iV (f++g) x↔iV f x\/iV g x:=by
 unfold iV;constructor
 ·rintro⟨t,ht,h⟩;rcases aFb.mp ht with z | z
  ·exact .inl ⟨t,z,h⟩
  ·exact .inr ⟨t,z,h⟩
 ·rintro(⟨t,ht,h⟩ | ⟨t,ht,h⟩)
  ·exact⟨t,aGj _ ht,h⟩
  ·exact⟨t,aFs _ ht,h⟩
theorem lV{t:P2}{x:Int}:iV [t] x↔t.1<=x/\x<t.2:=by simp[iV]
theorem BS{f:List P2}{s:P2}(hf:Sep f)(hs:s.1<s.2)(hb:∀t∈f,t.1<=s.1):
  Sep (aW f s)/\(∀t∈aW f s,t.1<=s.1)/\∀x,iV (aW f s) x↔iV f x\/(s.1<=x/\x<s.2):=by
 rcases aG1 f with rfl | ⟨g,t,rfl⟩
 ·rw[fT];refine⟨⟨by simpa using hs,by simp⟩,by simp,λx=>by simp[iV]⟩
 ·rw[List.concat_eq_append]at*;rw[eZ];obtain⟨hv,hp⟩:=hf;have ht:=hv t (by simp);have htb:=hb t (by simp);have hp2:=aFk.mp hp;split
  ·rename_i c;refine⟨⟨λu hu=>?_,aFk.mpr ⟨hp,by simp,λa ha b hbb=>?_⟩⟩,λu hu=>?_,λx=>by rw[lW,lV]⟩
   ·rcases aFb.mp hu with z | z
    ·exact hv u z
    ·simp at z;subst z;exact hs
   ·simp at hbb;subst hbb;rcases aFb.mp ha with z | z
    ·have:=hp2.2.2 a z t (by simp);lia
    ·simp at z;subst z;exact c
   ·rcases aFb.mp hu with z | z
    ·exact hb u z
    ·simp at z;subst z;lia
  ·rename_i c;split
   ·rename_i c2;refine⟨⟨λu hu=>?_,aFk.mpr ⟨hp2.1,by simp,λa ha b hbb=>?_⟩⟩,λu hu=>?_,λx=>?_⟩
    ·rcases aFb.mp hu with z | z
     ·exact hv u (by simp[z])
     ·simp at z;subst z;simp;lia
    ·simp at hbb;subst hbb;exact hp2.2.2 a ha t (by simp)
    ·rcases aFb.mp hu with z | z
     ·exact hb u (by simp[z])
     ·simp at z;subst z;exact htb
    ·rw[lW,lW,lV,lV];simp only;constructor
     ·rintro(h | h)
      ·exact .inl (.inl h)
      ·by_cases hx:x<t.2
       ·exact .inl (.inr ⟨h.1,hx⟩)
       ·exact .inr ⟨by lia,h.2⟩
     ·rintro((h | h) | h)
      ·exact .inl h
      ·exact .inr ⟨h.1,by lia⟩
      ·exact .inr ⟨by lia,h.2⟩
   ·rename_i c2;refine⟨⟨hv,hp⟩,hb,λx=>⟨.inl,?_⟩⟩;rintro(h | h)
    ·exact h
    ·rw[lW,lV];exact .inr ⟨by lia,by lia⟩
theorem mY:∀(l f:List P2),l.Pairwise (λa b=>yI a b=true)->(∀s∈l,s.1<s.2)->Sep f->(∀t∈f,∀s∈l,t.1<=s.1)->
  Sep (l.foldl aW f)/\∀x,iV (l.foldl aW f) x↔iV f x\/iV l x
 | [],f,_,_,hf,_=>⟨hf,λx=>by simp[iV]⟩
 | s::l,f,hp,hv,hf,hb=>by
  have c:=aFr.mp hp;obtain⟨h1,h2,h3⟩:=BS hf (hv s aF8) λt ht=>hb t ht s aF8
  have ih:=mY l (aW f s) c.2 (λu hu=>hv u (aF7 _ hu)) h1 λt ht u hu=>by
   have:=h2 t ht;have:=c.1 u hu;simp only[yI,decide_eq_true_eq]at this
   lia
  refine⟨ih.1,λx=>?_⟩;rw[List.foldl_cons,ih.2 x,h3 x]
  have e:iV (s::l) x↔(s.1<=x/\x<s.2)\/iV l x:=by
   rw[show s::l=[s]++l from rfl,lW,lV]
  rw[e,or_assoc]
theorem IK{l:List P2}(hv:∀s∈l,s.1<s.2):Sep (bS l)/\∀x,iV (bS l) x↔iV l x:=by
 have h:=mY (gM l) [] (qV l) (λs hs=>hv s ((eP l).mem_iff.mp hs)) ⟨by simp,by simp⟩ (by simp);refine⟨h.1,λx=>?_⟩;have:=h.2 x;unfold bS;rw[this];unfold iV;simp only[List.not_mem_nil,false_and,exists_false,false_or];constructor
 ·rintro⟨t,ht,q⟩;exact⟨t,(eP l).mem_iff.mp ht,q⟩
 ·rintro⟨t,ht,q⟩;exact⟨t,(eP l).mem_iff.mpr ht,q⟩
def gO(g:List Bd)(x y:Int):Prop:=∃b∈g,b.lo<=y/\y<b.hi/\iV b.ln x
structure vI(g:List Bd):Prop where
 lt:∀b∈g,b.lo<b.hi
 ne:∀b∈g,b.ln≠[]
 sep:∀b∈g,Sep b.ln
 up:g.Pairwise λa b=>a.hi<=b.lo
 apart:∀u a b v,g=u++a::b::v->¬(a.hi=b.lo/\a.ln=b.ln)
theorem pP{f g:List Bd}{x y:Int}:gO (f++g) x y↔gO f x y\/gO g x y:=by
 unfold gO;constructor
 ·rintro⟨t,ht,h⟩;rcases aFb.mp ht with z | z
  ·exact .inl ⟨t,z,h⟩
  ·exact .inr ⟨t,z,h⟩
 ·rintro(⟨t,ht,h⟩ | ⟨t,ht,h⟩)
  ·exact⟨t,aGj _ ht,h⟩
  ·exact⟨t,aFs _ ht,h⟩
theorem pO{b:Bd}{x y:Int}:gO [b] x y↔b.lo<=y/\y<b.hi/\iV b.ln x:=by simp[gO]
theorem NW{f:List Bd}{b c:Bd}(h:vI (f++[b]))(h1:c.lo<c.hi)(h2:c.ln≠[])(h3:Sep c.ln)(h4:b.hi<=c.lo)(h5:¬(b.hi=c.lo/\b.ln=c.ln)):vI (f++[b]++[c]):=by
 obtain⟨a1,a2,a3,a4,a5⟩:=h;refine⟨λd hd=>?_,λd hd=>?_,λd hd=>?_,aFk.mpr ⟨a4,by simp,λd hd e he=>?_⟩,λu a d v e=>?_⟩
 ·rcases aFb.mp hd with z | z
  ·exact a1 d z
  ·simp at z;subst z;exact h1
 ·rcases aFb.mp hd with z | z
  ·exact a2 d z
  ·simp at z;subst z;exact h2
 ·rcases aFb.mp hd with z | z
  ·exact a3 d z
  ·simp at z;subst z;exact h3
 ·simp at he;subst he;have hp2:=aFk.mp a4;have hbb:=a1 b (by simp);rcases aFb.mp hd with z | z
  ·have:=hp2.2.2 d z b (by simp);lia
  ·simp at z;subst z;exact h4
 ·rcases aG1 v with rfl | ⟨v',w,rfl⟩
  ·have e2:f++[b]++[c]=(u++[a])++[d]:=by rw[e];simp
   have e3:=List.append_inj_right' e2 rfl;have e4:=List.append_inj_left' e2 rfl;have e5:=List.append_inj_right' e4 rfl;simp at e3 e5;subst e3 e5;exact h5
  ·rw[List.concat_eq_append]at e;have e2:f++[b]++[c]=(u++a::d::v')++[w]:=by rw[e];simp
   exact a5 u a d v' (List.append_inj_left' e2 rfl)
theorem RX{c:Bd}(h1:c.lo<c.hi)(h2:c.ln≠[])(h3:Sep c.ln):vI [c]:=by
 refine⟨by simpa using h1,by simpa using h2,by simpa using h3,by simp,λu a b v e=>?_⟩;have:=aG8 List.length e;simp at this
 lia
theorem C0{f:List Bd}{b:Bd}{hi:Int}(h:vI (f++[b]))(h1:b.hi<=hi):vI (f++[⟨b.lo,hi,b.ln⟩]):=by
 obtain⟨a1,a2,a3,a4,a5⟩:=h;have hp2:=aFk.mp a4;have hb:=a1 b (by simp);refine⟨λd hd=>?_,λd hd=>?_,λd hd=>?_,aFk.mpr ⟨hp2.1,by simp,λd hd e he=>?_⟩,λu a d v e=>?_⟩
 ·rcases aFb.mp hd with z | z
  ·exact a1 d (by simp[z])
  ·simp at z;subst z;show b.lo<hi;lia
 ·rcases aFb.mp hd with z | z
  ·exact a2 d (by simp[z])
  ·simp at z;subst z;exact a2 b (by simp)
 ·rcases aFb.mp hd with z | z
  ·exact a3 d (by simp[z])
  ·simp at z;subst z;exact a3 b (by simp)
 ·simp at he;subst he;exact hp2.2.2 d hd b (by simp)
 ·rcases aG1 v with rfl | ⟨v',w,rfl⟩
  ·have e2:f++[⟨b.lo,hi,b.ln⟩]=(u++[a])++[d]:=by rw[e];simp
   have e3:=List.append_inj_right' e2 rfl;have e4:=List.append_inj_left' e2 rfl;simp at e3;subst e3;exact a5 u a b [] (by rw[e4];simp)
  ·rw[List.concat_eq_append]at e;have e2:f++[⟨b.lo,hi,b.ln⟩]=(u++a::d::v')++[w]:=by rw[e];simp
   exact a5 u a d (v' ++[b]) (by rw[List.append_inj_left' e2 rfl];simp)
theorem DW{rs:List R4}{f:List Bd}{p:P2}(hr:∀r∈rs,r.x0<r.x1)(hf:vI f)(hp:p.1<p.2)(hb:∀b∈f,b.hi<=p.1):
  vI (bC rs f p)/\(∀b∈bC rs f p,b.hi<=p.2)/\∀x y,gO (bC rs f p) x y↔gO f x y\/(p.1<=y/\y<p.2/\iV (aU rs p.1 p.2) x):=by
 have hv:∀s∈aU rs p.1 p.2,s.1<s.2:=λs hs=>by
  simp only[aU,List.mem_map,List.mem_filter]at hs;obtain⟨r,⟨h,_⟩,rfl⟩:=hs;exact hr r h
 obtain⟨hsep,hcov⟩:=IK hv;have hcov2:∀x,iV (aU rs p.1 p.2) x↔iV (bS (aU rs p.1 p.2)) x:=λx=>(hcov x).symm
 have goal:vI (bC rs f p)/\(∀b∈bC rs f p,b.hi<=p.2)/\∀x y,gO (bC rs f p) x y↔gO f x y\/(p.1<=y/\y<p.2/\iV (bS (aU rs p.1 p.2)) x):=by
  rcases aG1 f with rfl | ⟨g,t,rfl⟩
  ·rw[g5];split
   ·rename_i c;rw[c];exact⟨hf,by simp,λx y=>by simp[gO,iV]⟩
   ·rename_i c;exact⟨RX hp c hsep,by simp,λx y=>by simp[gO]⟩
  ·rw[List.concat_eq_append]at*;rw[fS];have htb:=hb t (by simp);split
   ·rename_i c;rw[c];exact⟨hf,λb hbb=>by have:=hb b hbb;lia,λx y=>by simp[iV]⟩
   ·rename_i c;split
    ·rename_i c2;obtain⟨c2,c3⟩:=c2;rw[<-c3];refine⟨C0 hf (by lia),λb hbb=>?_,λx y=>?_⟩
     ·rcases aFb.mp hbb with z | z
      ·have:=hb b (by simp[z]);lia
      ·simp at z;subst z;simp
     ·rw[pP,pP,pO,pO];simp only;have hlt:=hf.lt t (by simp);constructor
      ·rintro(h | h)
       ·exact .inl (.inl h)
       ·by_cases hy:y<t.hi
        ·exact .inl (.inr ⟨h.1,hy,h.2.2⟩)
        ·exact .inr ⟨by lia,h.2.1,h.2.2⟩
      ·rintro((h | h) | h)
       ·exact .inl h
       ·exact .inr ⟨h.1,by lia,h.2.2⟩
       ·exact .inr ⟨by lia,h.2.1,h.2.2⟩
    ·rename_i c2;refine⟨NW hf hp c hsep htb c2,λb hbb=>?_,λx y=>by rw[pP,pO]⟩;rcases aFb.mp hbb with z | z
     ·have:=hb b z;lia
     ·simp at z;subst z;simp
 refine⟨goal.1,goal.2.1,λx y=>?_⟩;rw[goal.2.2 x y,hcov2]
theorem pI{rs:List R4}(hr:∀r∈rs,r.x0<r.x1):∀(ys:List Int) (f:List Bd),ys.Pairwise (· < ·)->vI f->(∀b∈f,∀y∈ys,b.hi<=y)->
  vI ((ys.zip ys.tail).foldl (bC rs) f)/\∀x y,gO ((ys.zip ys.tail).foldl (bC rs) f) x y↔gO f x y\/∃p∈ys.zip ys.tail,p.1<=y/\y<p.2/\iV (aU rs p.1 p.2) x
 | [],f,_,hf,_=>by simp;exact hf
 | [a],f,_,hf,_=>by simp;exact hf
 | a::b::ys,f,hs,hf,hb=>by
  have c:=aFr.mp hs;obtain⟨h1,h2,h3⟩:=DW (p:=(a,b)) hr hf (c.1 b (by simp)) λd hd=>hb d hd a (by simp)
  have ih:=pI hr (b::ys) (bC rs f (a,b)) c.2 h1 λd hd y hy=>by
   have h4:=h2 d hd;simp only at h4;rcases aFd.mp hy with z | z
   ·lia
   ·have:=(aFr.mp c.2).1 y z;lia
  have e:(a::b::ys).zip (a::b::ys).tail=(a,b)::(b::ys).zip (b::ys).tail:=rfl;rw[e];refine⟨ih.1,λx y=>?_⟩;rw[List.foldl_cons,ih.2 x y,h3 x y];constructor
  ·rintro((h | h) | ⟨p,hp,h⟩)
   ·exact .inl h
   ·exact .inr ⟨(a,b),aF8,h⟩
   ·exact .inr ⟨p,aF7 _ hp,h⟩
  ·rintro(h | ⟨p,hp,h⟩)
   ·exact .inl (.inl h)
   ·rcases aFd.mp hp with z | z
    ·subst z;exact .inl (.inr h)
    ·exact .inr ⟨p,z,h⟩
theorem between:∀{ys:List Int} {a b y:Int},ys.Pairwise (· < ·)->a∈ys->b∈ys->a<=y->y<b->∃p∈ys.zip ys.tail,p.1<=y/\y<p.2/\a<=p.1/\p.2<=b
 | [],a,b,y,_,h,_,_,_=>by cases h
 | [c],a,b,y,_,ha,hb,h1,h2=>by simp at ha hb;lia
 | c::d::ys,a,b,y,hs,ha,hb,h1,h2=>by
  have cc:=aFr.mp hs;have e:(c::d::ys).zip (c::d::ys).tail=(c,d)::(d::ys).zip (d::ys).tail:=rfl;rw[e];have hcd:=cc.1 d (by simp)
  have dmin:∀z∈d::ys,d<=z:=λz hz=>by
   rcases aFd.mp hz with q | q
   ·lia
   ·have:=(aFr.mp cc.2).1 z q;lia
  have hb2:b∈d::ys:=by
   rcases aFd.mp hb with z | z
   ·exfalso;rcases aFd.mp ha with q | q
    ·lia
    ·have:=cc.1 a q;lia
   ·exact z
  by_cases hy:y<d
  ·have:a=c:=by
    rcases aFd.mp ha with q | q
    ·exact q
    ·have:=dmin a q;lia
   subst this;exact⟨(a,d),aF8,h1,hy,aHv _,dmin b hb2⟩
  ·have:∃a' ∈d::ys,a' <=y/\a<=a' :=by
    rcases aFd.mp ha with q | q
    ·exact⟨d,by simp,by lia,by lia⟩
    ·exact⟨a,q,h1,aHv _⟩
   obtain⟨a',ha',h3,h4⟩:=this;obtain⟨p,hp,q1,q2,q3,q4⟩:=between cc.2 ha' hb2 h3 h2;exact⟨p,aF7 _ hp,q1,q2,by lia,q4⟩
def R4.has(r:R4)(x y:Int):Prop:=r.x0<=x/\x<r.x1/\r.y0<=y/\y<r.y1
theorem oR{rs:List R4}(hr:∀r∈rs,r.x0<r.x1/\r.y0<r.y1):vI (cB rs)/\∀x y,gO (cB rs) x y↔∃r∈rs,r.has x y:=by
 have h:=pI (rs:=rs) (λr h=>(hr r h).1) (nT rs) [] (fR _) ⟨by simp,by simp,by simp,by simp,λu a b v e=>by cases u <;> simp at e⟩ (by simp);refine⟨h.1,λx y=>?_⟩;unfold cB;rw[h.2 x y]
 have my:∀r∈rs,r.y0∈nT rs/\r.y1∈nT rs:=λr hr=>by
  unfold nT;rw[iQ,iQ];exact⟨aGj _ (aFi.mpr ⟨r,hr,rfl⟩),aFs _ (aFi.mpr ⟨r,hr,rfl⟩)⟩
 constructor
 ·rintro(⟨b,hb,_⟩ | ⟨p,hp,h1,h2,t,ht,h3⟩)
  ·cases hb
  ·simp only[aU,List.mem_map,List.mem_filter,Bool.and_eq_true,decide_eq_true_eq]at ht;obtain⟨r,⟨hrm,h4,h5⟩,rfl⟩:=ht;exact⟨r,hrm,h3.1,h3.2,by lia,by lia⟩
 ·rintro⟨r,hrm,h1,h2,h3,h4⟩;obtain⟨p,hp,q1,q2,q3,q4⟩:=between (fR _) (my r hrm).1 (my r hrm).2 h3 h4;refine .inr ⟨p,hp,q1,q2,(r.x0,r.x1),?_,h1,h2⟩;simp only[aU,List.mem_map,List.mem_filter,Bool.and_eq_true,decide_eq_true_eq];exact⟨r,⟨hrm,q3,q4⟩,rfl⟩
end LR
namespace LS
open PySem PyProof.Rows L2 D3
def sS:WS:=(cT (Y9 ["y0","y1","stretches","x0","x1"] [] (cO (aB 0)) (gT 3 (aQ (gN 0) (aQ (gN 1) (aQ (gN 2) eL)))) iA (cO (aB 2)) (gT 2 (aQ (gN 3) (aQ (gN 4) eL))) iA (d5 (aA (aB 3) (aA (aB 0) (aA (aB 4) (aA (aB 1) aF)))))))
def hZ(s0:OA):WS:=(cT (sZ (aE pV (aA (aB 0) (aA (wC (.ty "int")) aF))) (sZ (FV (aE pV (aA (aB 0) (aA (wC (.ty "bool")) aF)))) (aV oEq (aB 0) (aB 1)))))
def h9(s0:OA):WS:=(bB (iB (xY (aE pV (aA (aB 1) (aA (wC (.ty "str")) aF)))) (cT (sZ (aE pV (aA (aB 0) (aA (wC (.ty "str")) aF))) (aV oEq (aB 0) (aB 1)))) d6) (hZ s0))
def cS(s0:OA):WS:=(bB (iB (xY (aE pV (aA (aB 1) (aA (d5 (aA (wC (.ty "tuple")) (aA (wC (.ty "list")) aF))) aF)))) (bB (iB (OQ (dW (aV JX (aE pV (aA (aB 0) (aA (wC (.ty "tuple")) aF))) (aE pV (aA (aB 1) (aA (wC (.ty "tuple")) aF))))) (dW (aV JX (aE pV (aA (aB 0) (aA (wC (.ty "list")) aF))) (aE pV (aA (aB 1) (aA (wC (.ty "list")) aF)))))) (cT (wC (.bl false))) d6) (bB (iB (dW (aV JX (aE eT (aA (aB 0) aF)) (aE eT (aA (aB 1) aF)))) (cT (wC (.bl false))) d6) (cT (aV oEq (aE eT (aA (vL ["_law_k"] [0,1] (n4 (aA (aE eT (aA (aB 1) aF)) aF)) (gN 0) (AQ (xY (aE s0 (aA (aV fE (aB 1) (aB 0)) (aA (aV fE (aB 2) (aB 0)) aF))))) (aB 0)) aF)) (wC (.int 0)))))) d6) (h9 s0))
def jL:WS:=(qU (OR "list" uH (aB 1) (aA (vL ["_law_start","_law_end"] [2,3] (cO (aB 4)) (gT 2 (aQ (gN 0) (aQ (gN 1) eL))) iA (d5 (aA (aB 0) (aA (aB 2) (aA (aB 1) (aA (aB 3) aF)))))) aF)))
def j7:WS:=(cT (aB 1))
def j8:WS:=(bB (l7 (cO (aB 0)) (gT 3 (aQ (gN 2) (aQ (gN 3) (aQ (gN 4) eL)))) (jL)) (j7))
def fQ:WS:=(bB (bT (sY aF) (gN 1)) (j8))
open LR (En)
mutual
def plain:D->Bool
 | .int _=>true
 | .str z=>decide (z.length<=1000)
 | .tup ds=>nD ds && decide (ds.length<=1000000)
 | _=>false
def nD:List D->Bool
 | []=>true
 | d::ds=>plain d && nD ds
end
theorem t9:∀{l:List D},nD l=true↔∀d∈l,plain d=true
 | []=>by simp[nD]
 | a::l=>by simp[nD,t9 (l:=l)]
def oM(n:Nat):OA:=λds mh Q=>Q (.bl true) mh/\((∃d,ds=[d,d]/\plain d=true/\deep d<n)\/∃a b xs,ds=[.ref a,.ref b]/\mh[a]? =some (.lst xs)/\mh[b]? =some (.lst xs)/\nD xs=true/\fH xs+1<n/\xs.length<=1000000)
theorem F6{n:Nat}{d:D}{mh:MH}{Q:DK}(h1:plain d=true)(h2:deep d<n)(q:Q (.bl true) mh):oM n [d,d] mh Q:=⟨q,.inl ⟨d,rfl,h1,h2⟩⟩
theorem G5:∀{l:List D} {d:D},d∈l->deep d<=fH l
 | a::l,d,h=>by
  simp only[fH];rcases aFd.mp h with z | z
  ·subst z;lia
  ·have:=G5 z;lia
theorem wK{mh0 mh:MH}{R:DK}{n:Nat}{x y:D}{xs:List D}(ok:jQ mh)(hx:bA mh x=some xs)(hp:nD xs=true)(hd:fH xs<n)(hl:xs.length<=1000000)
  (hi:∀i:Int,∀M:MH,∀Q:DK,(∃T,M=mh++T)->(fE x (.int i) M Q↔got (nO xs i) λd=>Q d M)) (hj:∀i:Int,∀M:MH,∀Q:DK,(∃T,M=mh++T)->(fE y (.int i) M Q↔got (nO xs i) λd=>Q d M))
  (hly:∀Q:DK,eT [y] mh Q↔Q (.int xs.length) mh) (q:R (.bl true) mh):
  cT (aV oEq (aE eT (aA (vL ["_law_k"] [0,1] (n4 (aA (aE eT (aA (aB 1) aF)) aF)) (gN 0) (AQ (xY (aE (oM n) (aA (aV fE (aB 1) (aB 0)) (aA (aV fE (aB 2) (aB 0)) aF))))) (aB 0)) aF)) (wC (.int 0))) (En mh R) [some x,some y] mh:=by
 have sz:=aFn;simp[hly];refine⟨by lia,?_⟩;have er:kS 0 xs.length=(List.range xs.length).map λk:Nat=>D.int (0+k):=rfl;rw[er];refine nM (λk:Nat=>D.int (0+k)) (λ_=>false) id (λk:Nat=>D.int (0+k)) _ trivial ?_ ?_
 ·intro k hk N M h1 h2;simp at hk
  have hat:nO xs ((0:Int)+k)=some xs[k]:=by
   have:=hV (xs:=xs) (j:=k) (v:=xs[k]) (by simp[hk]);rw[<-this];congr 1;lia
  simp only[Int.zero_add]at hat;simp[fW];rw[hi _ _ _ ⟨[],by simp⟩,hat];simp;rw[hj _ _ _ ⟨[],by simp⟩,hat];simp;have hm:xs[k]∈xs:=List.getElem_mem _;refine F6 (t9.mp hp _ hm) (by have:=G5 hm;lia) ?_;simp[jS];exact h2 rfl
 ·rw[kO (dM _ _)];simp;have e0:(List.range xs.length).filter (λ_=>false)=[]:=by simp
  rw[e0];exact fD ok (by simp[cD]) q
theorem XB(n:Nat)(ds:List D)(mh:MH)(R:DK)(ok:jQ mh)(hs:oM (n+1) ds mh R):cS (oM n) (En mh R) (aH ["_law_found","_law_due"] ds) mh:=by
 have sz:=aFn;obtain⟨q,⟨d,rfl,hp,hd⟩ | ⟨a,b,xs,rfl,ha,hb,hp,hd,hl⟩⟩:=hs
 ·cases d with
  | int i=>
   simp[cS,aH,OU,bJ,jS,rW,h9,hZ];exact⟨by lia,cW q⟩
  | str z=>
   simp[cS,aH,OU,bJ,jS,rW,h9,hZ];exact⟨by lia,cW q⟩
  | tup xs=>
   simp only[plain,Bool.and_eq_true,decide_eq_true_eq]at hp;simp only[deep]at hd;simp[cS,aH,OU,bJ,jS,rW];have:=wK (mh0:=mh) (x:= .tup xs) (y:= .tup xs) (R:=R) (n:=n) ok rfl hp.1 (by lia) hp.2 (λi M Q _=>KY xs i) (λi M Q _=>KY xs i) (λQ=>UG xs) q;refine⟨by lia,?_⟩;simpa using this
  | _=>simp[plain]at hp
 ·simp[cS,aH,OU,bJ,jS,rW,ha,hb,kO ha,kO hb];have:=wK (mh0:=mh) (x:= .ref a) (y:= .ref b) (R:=R) (n:=n) ok (bR ha) hp (by lia) hl (λi M Q zz0=>by obtain⟨T,e⟩:=zz0;exact gY (by rw[e];exact pG ha) i) (λi M Q zz1=>by obtain⟨T,e⟩:=zz1;exact gY (by rw[e];exact pG hb) i) (λQ=>kO hb) q;refine⟨by lia,?_⟩;simpa[kO hb] using this
open LR
def bL(g:List Bd):List R4:=g.flatMap λb=>b.ln.map λs=>⟨s.1,b.lo,s.2,b.hi⟩
theorem DX{g:List Bd}{n:Nat}(h:∀b∈g,b.ln.length<=n):(bL g).length<=n*g.length:=by
 induction g with
 | nil=>simp[bL]
 | cons b g ih=>
  have:=ih λc hc=>h c (aF7 _ hc);have:=h b aF8;simp only[bL,List.flatMap_cons,List.length_append,List.length_map,List.length_cons]at*;rw[Nat.mul_add];lia
def sRo:OA:=λds mh Q=>∃g,ds=[gD g]/\(bL g).length<=1000000/\Q (.ref mh.length) (mh++[.lst ((bL g).map rD)])
theorem h_ro(ds:List D)(mh:MH)(R:DK)(ok:jQ mh)(hs:sRo ds mh R):sS (En mh R) (aH ["region"] ds) mh:=by
 obtain⟨g,rfl,hl,q⟩:=hs;have sz:=aFn;simp[sS,aH,gD,bA]
 have hl2:(g.flatMap λb=>b.ln).length<=16777216:=by
  have:(g.flatMap λb=>b.ln).length=(bL g).length:=by simp[bL,List.length_flatMap]
  lia
 refine RN bD (λb=>b.ln) sD (λb s=>(⟨s.1,b.lo,s.2,b.hi⟩:R4)) rD (λb=>[some (.int b.lo),some (.int b.hi),some (g8 b.ln),none,none]) g (by simp) hl2 (λb _ N hN=>?_) (λb _ N hN=>?_) (λb _ s _ N hN=>?_) ?_
 ·simp[bD,fW];exact hN
 ·simp[g8,bA];exact hN _ (by simp)
 ·simp[sD];exact⟨by lia,by simpa[rD] using hN⟩
 ·exact cW q
def yC:OA:=sRo
theorem RD(ds:List D)(mh:MH)(R:DK)(ok:jQ mh)(hs:yC ds mh R):fQ (En mh R) (aH ["_law_some","_law_found","_law_low","_law_high","_law_line_here"] ds) mh:=by
 obtain⟨g,rfl,hl,q⟩:=hs;have sz:=aFn;simp[fQ,j8,aH,gD,bA];refine cE (λi ρ mh' =>cX mh mh' /\mh'[mh.length]? =some (.lst ((bL (g.take i)).map rD))/\∃a b c,ρ=[some (.tup (g.map bD)),some (.ref mh.length),a,b,c]) _ (λ_ _ _ _=>by simp) ?_ ?_ ⟨cX.refl.push _,by simp[bL],_,_,_,rfl⟩
 ·rintro i d ρ mh' N hi ⟨px,gf,a,b,c,rfl⟩ nx;obtain⟨bd,hb,rfl⟩:=g6 hi;have hil:i<g.length:=(aF6.mp hb).1
  have e1:bL (g.take (i+1))=bL (g.take i)++bd.ln.map λs=>⟨s.1,bd.lo,s.2,bd.hi⟩:=by
   rw[take_snoc hb];simp[bL]
  have l1:(bL (g.take (i+1))).length<=(bL g).length:=by
   have:bL g=bL (g.take (i+1))++bL (g.drop (i+1)):=by
    unfold bL;rw[<-List.flatMap_append,List.take_append_drop]
   rw[this,List.length_append];lia
  simp[bD,g8,jL,EJ,bA];refine⟨⟨_,gf⟩,c6 sD (λs=>(⟨s.1,bd.lo,s.2,bd.hi⟩:R4)) rD bd.ln (by simp) (λs hs N hN=>?_) ?_⟩
  ·simp[fW,sD];exact⟨by lia,by simpa[rD] using hN⟩
  ·refine⟨mh.length,.ref mh'.length,_,_,rfl,rfl,cJ gf,bR (dM _ _),?_,?_⟩
   ·rw[e1]at l1;simp at l1⊢;lia
   ·refine nx _ _ ⟨(px.push _).set (aF9 _) _,?_,_,_,_,rfl⟩;rw[eE _ (cJ gf),e1,List.map_append]
 ·rintro ρ mh' ⟨px,gf,a,b,c,rfl⟩;simp[j7];simp at gf;exact px.U6 ok (aF9 _) gf (by simp[yJ,yE]) q
end LS
namespace LR
open PySem PyProof.Rows L2 D3
theorem oD{a:P2}{f:List P2}(h:Sep (a::f)):Sep f/\a.1<a.2/\∀t∈f,a.2<t.1:=
 ⟨⟨λt ht=>h.1 t (aF7 _ ht),(aFr.mp h.2).2⟩,h.1 a aF8,(aFr.mp h.2).1⟩
theorem CW{a:P2}{f:List P2}{x:Int}:iV (a::f) x↔(a.1<=x/\x<a.2)\/iV f x:=by
 rw[show a::f=[a]++f from rfl,lW,lV]
theorem RM{x:Int}:¬iV [] x:=λzz0=>by obtain⟨_,h,_⟩:=zz0;cases h
theorem pQ{a:Bd}{g:List Bd}(h:vI (a::g)):vI g/\a.lo<a.hi/\a.ln≠[]/\Sep a.ln/\(∀b∈g,a.hi<=b.lo/\b.lo<b.hi)/\∀b v,g=b::v->¬(a.hi=b.lo/\a.ln=b.ln):=by
 obtain⟨h1,h2,h3,h4,h5⟩:=h;have p:=aFr.mp h4;refine⟨⟨λb hb=>h1 b (aF7 _ hb),λb hb=>h2 b (aF7 _ hb),λb hb=>h3 b (aF7 _ hb),p.2,λu c d v e=>h5 (a::u) c d v (by rw[e];rfl)⟩,h1 a aF8,h2 a aF8,h3 a aF8,λb hb=>⟨p.1 b hb,h1 b (aF7 _ hb)⟩,λb v e=>h5 [] a b v (by rw[e];rfl)⟩
theorem JI{a:Bd}{g:List Bd}{x y:Int}:gO (a::g) x y↔(a.lo<=y/\y<a.hi/\iV a.ln x)\/gO g x y:=by
 rw[show a::g=[a]++g from rfl,pP,pO]
def oU:List Int->List P2
 | a::b::r=>(a,b)::oU r
 | _=>[]
def xE(v:Int->Int):List Int->Int->List Int
 | [],_=>[]
 | x::r,a=>if decide (a<1)=decide (a+v x<1) then xE v r (a+v x) else x::xE v r (a+v x)
theorem zH{v:Int->Int}{y:Int}:∀{ks:List Int} {a:Int},y∈xE v ks a->y∈ks
 | [],a,h=>by simp[xE]at h
 | x::r,a,h=>by
  unfold xE at h;split at h
  ·exact aF7 _ (zH h)
  ·rcases aFd.mp h with z | z
   ·exact z▸aF8
   ·exact aF7 _ (zH z)
theorem n9{c:Int->Int}{x:Int}{r:List Int}(hn:∀y,x<y->y∉r->c y=c (y-1)):∀(n:Nat) (y:Int),y=x+n->(∀k∈r,y<k)->c y=c x
 | 0,y,e,_=>by rw[e];simp
 | n+1,y,e,h=>by
  rw[hn y (by lia) λhy=>by have:=h y hy;lia];exact n9 hn n (y-1) (by lia) λk hk=>by have:=h k hk;lia
theorem NM{c v:Int->Int}:∀(ks:List Int) (lo:Int),ks.Pairwise (· < ·)->(∀k∈ks,lo<k)->(∀k∈ks,v k=c k-c (k-1))->(∀y,lo<y->y∉ks->c y=c (y-1))->(∃m,∀y,m<=y->c y<1)->
  (c lo<1->Sep (oU (xE v ks (c lo)))/\(∀t∈oU (xE v ks (c lo)),t.1∈ks)/\∀x,lo<=x->(iV (oU (xE v ks (c lo))) x↔1<=c x))/\
  (1<=c lo->∀s,(∀k∈ks,s<k)->s<=lo->Sep (oU (s::xE v ks (c lo)))/\(∀t∈oU (s::xE v ks (c lo)),s<=t.1)/\(∀x,s<=x->x<=lo->iV (oU (s::xE v ks (c lo))) x)/\∀x,lo<=x->(iV (oU (s::xE v ks (c lo))) x↔1<=c x))
 | [],lo,_,_,_,hn,⟨m,hm⟩=>by
  have all:∀x,lo<=x->c x=c lo:=λx hx=>n9 hn (x-lo).toNat x (by lia) (by simp);refine⟨λh=>⟨⟨by simp[xE,oU],by simp[xE,oU]⟩,by simp[xE,oU],λx hx=>?_⟩,λh=>?_⟩
  ·rw[all x hx];simp only[xE,oU];exact⟨λz=>absurd z RM,λz=>by lia⟩
  ·exfalso;have h1:=hm (max m lo) (by lia);rw[all _ (by lia)]at h1
   lia
 | x::r,lo,hs,hlo,hv,hn,hm=>by
  have p:=aFr.mp hs;have hx:=hlo x aF8
  have pre:∀y,lo<=y->y<x->c y=c lo:=λy h1 h2=>n9 hn (y-lo).toNat y (by lia) λk hk=>by
   rcases aFd.mp hk with z | z
   ·lia
   ·have:=p.1 k z;lia
  have hvx:c lo+v x=c x:=by
   rw[hv x List.mem_cons_self,pre (x-1) (by lia) (by lia)];lia
  obtain⟨ih1,ih2⟩:=NM r x p.2 p.1 (λk hk=>hv k (aF7 _ hk)) (λy h1 h2=>hn y (by lia) λhy=>by
   rcases aFd.mp hy with z | z
   ·lia
   ·exact h2 z) hm
  unfold xE;rw[hvx];refine⟨λh=>?_,λh s hsk hsl=>?_⟩
  ·by_cases hd:c x<1
   ·rw[if_pos (by simp[h,hd])];obtain⟨a1,a2,a3⟩:=ih1 hd;refine⟨a1,λt ht=>aF7 _ (a2 t ht),λy hy=>?_⟩;by_cases hxy:x<=y
    ·exact a3 y hxy
    ·rw[pre y hy (by lia)];refine⟨λ⟨t,ht,z⟩=>?_,λz=>by lia⟩;have:=p.1 t.1 (a2 t ht);lia
   ·rw[if_neg (by simp[h,hd])];obtain⟨a1,a2,_,a3⟩:=ih2 (by lia) x p.1 (aHv _);refine⟨a1,λt ht=>?_,λy hy=>?_⟩
    ·cases e:xE v r (c x) with
     | nil=>rw[e]at ht;simp[oU]at ht
     | cons z l=>
      rw[e]at ht
      have:∀(l:List Int) (t:P2),t∈oU l->t.1∈l:=by
       intro l
       induction l using oU.induct with
       | case1 a b r ih=>
        intro t ht;simp only[oU,List.mem_cons]at ht;rcases ht with rfl | ht
        ·simp
        ·have:=ih t ht;simp[this]
       | case2 l hl=>
        intro t ht
        cases l with
        | nil=>simp[oU]at ht
        | cons a l=>cases l with
         | nil=>simp[oU]at ht
         | cons b l=>exact absurd rfl (hl a b l)
      have q:=this _ t ht;rw[<-e]at q;rcases aFd.mp q with w | w
      ·rw[w];exact aF8
      ·exact aF7 _ (zH w)
    ·by_cases hxy:x<=y
     ·exact a3 y hxy
     ·rw[pre y hy (by lia)];refine⟨λ⟨t,ht,z⟩=>?_,λz=>by lia⟩;have:=a2 t ht;lia
  ·by_cases hd:c x<1
   ·rw[if_neg (by simp[hd];lia)];obtain⟨a1,a2,a3⟩:=ih1 hd;have hsx:=hsk x aF8;simp only[oU];refine⟨⟨λt ht=>?_,aFr.mpr ⟨λt ht=>p.1 t.1 (a2 t ht),a1.2⟩⟩,λt ht=>?_,?_,λy hy=>?_⟩
    ·rcases aFd.mp ht with z | z
     ·subst z;exact hsx
     ·exact a1.1 t z
    ·rcases aFd.mp ht with z | z
     ·subst z;exact aHv _
     ·have:=p.1 t.1 (a2 t z);lia
    ·intro y h1 h2;exact CW.mpr (.inl ⟨h1,by simp only;lia⟩)
    ·rw[CW];by_cases hxy:x<=y
     ·rw[a3 y hxy];exact⟨λz=>z.elim (λz=>by simp only at z;lia) id,.inr⟩
     ·rw[pre y hy (by lia)];exact⟨λ_=>h,λ_=>.inl ⟨by simp only;lia,by simp only;lia⟩⟩
   ·rw[if_pos (by simp[hd];lia)];obtain⟨a1,a2,a4,a3⟩:=ih2 (by lia) s (λk hk=>hsk k (aF7 _ hk)) (by lia);refine⟨a1,a2,λy h1 h2=>a4 y h1 (by lia),λy hy=>?_⟩;by_cases hxy:x<=y
    ·exact a3 y hxy
    ·rw[pre y hy (by lia)];exact⟨λ_=>h,λ_=>a4 y (by lia) (by lia)⟩
def nV:WS:=(cT (Y8 2 (aA (J9 (aB 0) YK YK (sX (wC (.int 2)))) (aA (J9 (aB 0) (sX (wC (.int 1))) YK (sX (wC (.int 2)))) aF))))
theorem yF:∀l:List Int,(aL [(lE l).map D.int,(uD l).map D.int]).map D.tup=(oU l).map sD
 | []=>rfl
 | [a]=>by simp[lE,uD,aL,oU]
 | a::b::r=>by
  have ih:=yF r;simp only[aL]at ih⊢;simp only[lE,uD,List.map_cons,List.zipWith_cons_cons,oU,ih];rfl
theorem yG:∀l:List Int,(oU l).length<=l.length
 | []=>by simp[oU]
 | [a]=>by simp[oU]
 | a::b::r=>by have:=yG r;simp only[oU,List.length_cons];lia
theorem wR{α β:Type}(f:α->β)(xs:List α)(lo hi st:Option Int):gA (xs.map f) lo hi st=(gA xs lo hi st).map f:=by
 unfold gA;rw[List.length_map,List.map_filterMap];congr 1;funext i;simp
def oN:OA:=λds mh Q=>∃(n:Nat) (l:List Int),ds=[.ref n]/\mh[n]? =some (.lst (l.map .int))/\l.length<=1000000/\Q (g8 (oU l)) mh
theorem M6(ds:List D)(mh:MH)(R:DK)(ok:jQ mh)(hs:oN ds mh R):nV (En mh R) (aH ["edges"] ds) mh:=by
 obtain⟨n,l,rfl,hn,hl,q⟩:=hs;have sz:=aFn;simp[nV,aH];refine⟨l.map .int,kW hn,?_⟩;rw[wR,DZ];refine⟨l.map .int,kW (cJ hn),?_⟩;rw[wR,HW];refine⟨[(lE l).map .int,(uD l).map .int],?_,?_,?_⟩
 ·simp[kL,bA]
 ·have:=aG8 List.length (yF l);have h2:=yG l;simp only[List.length_map]at this
  lia
 ·rw[yF]
  have:cX mh (mh++[MO.lst ((lE l).map .int),MO.lst ((uD l).map .int)]):=⟨_,rfl⟩
  exact this.out ok (by simp[cD,oS]) q
theorem tH{k:D}:∀{kvs:List (D×D)},b6 kvs k=none↔∀p∈kvs,p.1≠k
 | []=>by simp[b6]
 | p::kvs=>by
  simp only[b6];by_cases h:p.1=k
  ·simp[h]
  ·simp[h,tH (kvs:=kvs)]
theorem D7:∀(l m:List Int),l.Nodup->(∀x∈l,x∈m)->l.length<=m.length
 | [],m,_,_=>by simp
 | a::l,m,nd,h=>by
  have c:=aGq.mp nd;have hm:=h a aF8;have:=D7 l (m.erase a) c.2 λx hx=>(List.mem_erase_of_ne (λz:x=a=>c.1 (by rw[<-z];exact hx))).mpr (h x (aF7 _ hx));rw[List.length_erase_of_mem hm]at this;have:=List.length_pos_of_mem hm;simp only[List.length_cons];lia
theorem HS{kvs:List (D×D)}(h:(kvs.map (·.1)).Nodup)(k v:D):((putD kvs k v).map (·.1)).Nodup:=by
 rw[HU];split
 ·exact h
 ·rename_i hk;rw[List.nodup_append];refine⟨h,by simp,λa ha b hb=>?_⟩;simp at hb;subst hb;obtain⟨p,hp,rfl⟩:=aFi.mp ha;exact λz=>hk ⟨p,hp,z⟩
def o8(ln:List P2)(x:Int):Int:=(ln.map λt=>(if t.1<=x then 1 else 0)-(if t.2<=x then (1:Int) else 0)).sum
theorem uJ(t:P2)(ln:List P2)(x:Int):o8 (t::ln) x=(if t.1<=x then 1 else 0)-(if t.2<=x then (1:Int) else 0)+o8 ln x:=by simp[o8]
theorem VR(a b:Int):lx (enc (.int b)) (enc (.int a))=false↔a<=b:=by
 simp only[enc,i8,lx];by_cases hb:b<a
 ·simp[hb]
 ·by_cases ha:a<b
  ·simp[hb,ha];lia
  ·have:a=b:=by lia
   subst this;simp
theorem HZ{fs:List D}{is:List Int}(p:fs.Perm (is.map D.int))(s:fs.Pairwise (λd e=>lx (enc e) (enc d)=false))(nd:is.Nodup):∃js:List Int,fs=js.map D.int/\js.Perm is/\js.Pairwise (· < ·):=by
 obtain⟨js,p1,rfl⟩:=kT D.int p is rfl;refine⟨js,rfl,p1,?_⟩;rw[List.pairwise_map]at s;have nj:=p1.symm.nodup nd;rw[List.nodup_iff_pairwise_ne]at nj
 exact(s.and nj).imp λ{a b} h=>by
  have:=(VR a b).mp h.1;have:=h.2
  lia
theorem yS:∀ln:List P2,∃m,∀y,y<=m->o8 ln y=0
 | []=>⟨0,λy _=>rfl⟩
 | t::ln=>by
  obtain⟨m,hm⟩:=yS ln;refine⟨min m (min (t.1-1) (t.2-1)),λy hy=>?_⟩;rw[uJ,hm y (by lia),if_neg (by lia),if_neg (by lia)];rfl
theorem uI:∀ln:List P2,∃m,∀y,m<=y->o8 ln y=0
 | []=>⟨0,λy _=>rfl⟩
 | t::ln=>by
  obtain⟨m,hm⟩:=uI ln;refine⟨max m (max t.1 t.2),λy hy=>?_⟩;rw[uJ,hm y (by lia),if_pos (by lia),if_pos (by lia)];rfl
def aZ(A:Int):Nat->(Int->Int)->Int
 | 0,_=>0
 | n+1,f=>aZ A n f+f (A+n)
def b2i(b:Bool):Int:=if b then 1 else 0
theorem aR{A:Int}{f g:Int->Int}:∀{n:Nat},(∀x,A<=x->x<A+n->f x=g x)->aZ A n f=aZ A n g
 | 0,_=>rfl
 | n+1,h=>by
  simp only[aZ];rw[aR (n:=n) λx h1 h2=>h x h1 (by lia),h (A+n) (by lia) (by lia)]
theorem bV(A:Int)(f g:Int->Int):∀n:Nat,aZ A n (λx=>f x+g x)=aZ A n f+aZ A n g
 | 0=>rfl
 | n+1=>by simp only[aZ];rw[bV A f g n];lia
theorem c5(A:Int):∀n:Nat,aZ A n (λ_=>0)=0
 | 0=>rfl
 | n+1=>by simp only[aZ];rw[c5 A n];rfl
theorem gF(A:Int)(f:Int->Int)(n:Nat):∀m:Nat,aZ A (n+m) f=aZ A n f+aZ (A+n) m f
 | 0=>by simp[aZ]
 | m+1=>by
  rw[<-Nat.add_assoc];simp only[aZ];rw[gF A f n m];have:A+((n+m:Nat):Int)=A+n+m:=by lia
  rw[this];lia
theorem uO(A c:Int):∀n:Nat,aZ A n (λ_=>c)=n*c
 | 0=>by simp[aZ]
 | n+1=>by
  simp only[aZ];rw[uO A c n,show ((n+1:Nat):Int)=(n:Int)+1 by lia,Int.add_mul];simp
theorem k9{A a b c:Int}{n:Nat}(h1:A<=a)(h2:a<=b)(h3:b<=A+n):aZ A n (λx=>if a<=x/\x<b then c else 0)=(b-a)*c:=by
 obtain⟨p,rfl⟩:∃p:Nat,a=A+p:=⟨(a-A).toNat,by lia⟩
 obtain⟨q,rfl⟩:∃q:Nat,b=A+p+q:=⟨(b-(A+p)).toNat,by lia⟩
 obtain⟨r,rfl⟩:∃r:Nat,n=p+q+r:=⟨n-(p+q),by lia⟩
 rw[gF,gF];rw[aR (g:=λ_=>0) (A:=A) λx h1 h2=>if_neg (by lia),aR (g:=λ_=>c) (A:=A+p) λx h1 h2=>if_pos (by lia),aR (g:=λ_=>0) (A:=A+((p+q:Nat):Int)) λx h1 h2=>if_neg (by lia)];rw[c5,c5,uO];have:A+(p:Int)+q-(A+p)=q:=by lia
 rw[this];simp
theorem uN(A d:Int)(f:Int->Int):∀n:Nat,aZ A n (λx=>f (x+d))=aZ (A+d) n f
 | 0=>rfl
 | n+1=>by
  simp only[aZ];rw[uN A d f n,show A+(n:Int)+d=A+d+n by lia]
theorem w8(A B:Int)(f:Int->Int->Int)(m:Nat):∀n:Nat,aZ A n (λx=>aZ B m λy=>f x y)=aZ B m λy=>aZ A n λx=>f x y
 | 0=>by simp only[aZ];rw[c5]
 | n+1=>by
  simp only[aZ];rw[w8 A B f m n,<-bV]
def aP(l:List P2)(x:Int):Bool:=l.any λt=>decide (t.1<=x) && decide (x<t.2)
theorem gK{l:List P2}{x:Int}:aP l x=true↔iV l x:=by simp[aP,iV]
def cP(l:List P2):Int:=(l.map λt=>t.2-t.1).sum
theorem lU(t:P2)(l:List P2)(x:Int):aP (t::l) x=((decide (t.1<=x) && decide (x<t.2)) || aP l x):=by simp[aP]
theorem i9{t:P2}{l:List P2}(h:Sep (t::l)){x:Int}(hx:x<=t.2):aP l x=false:=by
 obtain⟨_,_,h3⟩:=oD h
 cases e:aP l x with
 | false=>rfl
 | true=>
  obtain⟨u,hu,h1,_⟩:=gK.mp e;have:=h3 u hu;lia
theorem lP{A:Int}{n:Nat}:∀{l:List P2},Sep l->(∀t∈l,A<=t.1/\t.2<=A+n)->cP l=aZ A n λx=>b2i (aP l x)
 | [],_,_=>by simp[cP,aP,b2i,c5]
 | t::l,h,hb=>by
  obtain⟨s1,s2,s3⟩:=oD h;have ih:=lP (l:=l) s1 λu hu=>hb u (aF7 _ hu);have ht:=hb t aF8
  have e:∀x,b2i (aP (t::l) x)=(if t.1<=x/\x<t.2 then 1 else 0)+b2i (aP l x):=λx=>by
   rw[lU];by_cases c:t.1<=x/\x<t.2
   ·rw[i9 h (x:=x) (by lia)];simp[c,b2i]
   ·have:(decide (t.1<=x) && decide (x<t.2))=false:=by simp;lia
    rw[this];simp[c]
  rw[show (λx=>b2i (aP (t::l) x))=λx=>(if t.1<=x/\x<t.2 then 1 else 0)+b2i (aP l x) from funext e,bV,k9 (by lia) (by lia) (by lia),<-ih];simp[cP]
theorem qJ{A:Int}{n:Nat}:∀{l:List P2},Sep l->(∀t∈l,A<=t.1/\t.2<A+n)->2*(l.length:Int)=aZ A n λx=>b2i (aP l x !=aP l (x-1))
 | [],_,_=>by simp[aP,b2i,c5]
 | t::l,h,hb=>by
  obtain⟨s1,s2,s3⟩:=oD h;have ih:=qJ (l:=l) s1 λu hu=>hb u (aF7 _ hu);have ht:=hb t aF8
  have e:∀x,b2i (aP (t::l) x !=aP (t::l) (x-1))=(if t.1<=x/\x<t.1+1 then 1 else 0)+(if t.2<=x/\x<t.2+1 then 1 else 0)+b2i (aP l x !=aP l (x-1)):=λx=>by
   rw[lU,lU];by_cases c:x<=t.2
   ·rw[i9 h c,i9 h (x:=x-1) (by lia)];by_cases c1:x=t.1
    ·subst c1;simp[b2i,s2];lia
    ·by_cases c2:x=t.2
     ·subst c2;simp[b2i];lia
     ·have e1:(decide (t.1<=x) && decide (x<t.2))=(decide (t.1<=x-1) && decide (x-1<t.2)):=by
       rw[<-Bool.decide_and,<-Bool.decide_and,decide_eq_decide];lia
      rw[e1,if_neg (by lia),if_neg (by lia)];simp[b2i]
   ·have e1:(decide (t.1<=x) && decide (x<t.2))=false:=by simp;lia
    have e2:(decide (t.1<=x-1) && decide (x-1<t.2))=false:=by simp;lia
    rw[e1,e2,if_neg (by lia),if_neg (by lia)];simp
  rw[show (λx=>b2i (aP (t::l) x !=aP (t::l) (x-1)))=λx=>((if t.1<=x/\x<t.1+1 then 1 else 0)+(if t.2<=x/\x<t.2+1 then 1 else 0))+b2i (aP l x !=aP l (x-1)) from funext e,bV,bV,k9 (by lia) (by lia) (by lia),k9 (by lia) (by lia) (by lia),<-ih];simp;lia
def rowAt:List Bd->Int->List P2
 | [],_=>[]
 | b::g,y=>if b.lo<=y/\y<b.hi then b.ln else rowAt g y
theorem lN{g:List Bd}{y:Int}:(∀b∈g,y<b.lo)->rowAt g y=[]:=by
 induction g with
 | nil=>intro _;rfl
 | cons b g ih=>
  intro h;have:=h b aF8;simp only[rowAt];rw[if_neg (by lia)];exact ih λc hc=>h c (aF7 _ hc)
theorem lO:∀{g:List Bd},vI g->∀x y,aP (rowAt g y) x=true↔gO g x y
 | [],_,x,y=>by simp[rowAt,aP,gO]
 | b::g,h,x,y=>by
  obtain⟨h1,h2,h3,h4,h5,_⟩:=pQ h;rw[JI];simp only[rowAt];by_cases c:b.lo<=y/\y<b.hi
  ·rw[if_pos c,gK];refine⟨λz=>.inl ⟨c.1,c.2,z⟩,λz=>?_⟩;rcases z with z | ⟨d,hd,z1,_⟩
   ·exact z.2.2
   ·have:=h5 d hd;lia
  ·rw[if_neg c,lO h1 x y];exact⟨.inr,λz=>z.elim (λz=>absurd ⟨z.1,z.2.1⟩ c) id⟩
theorem lM:∀{g:List Bd},vI g->∀y,Sep (rowAt g y)
 | [],_,y=>⟨by simp[rowAt],by simp[rowAt]⟩
 | b::g,h,y=>by
  obtain⟨h1,h2,h3,h4,h5,_⟩:=pQ h;simp only[rowAt];split
  ·exact h4
  ·exact lM h1 y
theorem p9:∀{g:List Bd} {y:Int} {t:P2},t∈rowAt g y->∃b∈g,t∈b.ln
 | [],y,t,h=>by simp[rowAt]at h
 | b::g,y,t,h=>by
  simp only[rowAt]at h;split at h
  ·exact⟨b,aF8,h⟩
  ·obtain⟨c,hc,z⟩:=p9 h;exact⟨c,aF7 _ hc,z⟩
def r9(F:List P2->Int)(g:List Bd):Int:=(g.map λb=>(b.hi-b.lo)*F b.ln).sum
theorem sM{F:List P2->Int}(h0:F []=0){C:Int}{m:Nat}:∀{g:List Bd},vI g->(∀b∈g,C<=b.lo/\b.hi<=C+m)->r9 F g=aZ C m λy=>F (rowAt g y)
 | [],_,_=>by simp[r9,rowAt,h0,c5]
 | b::g,h,hb=>by
  obtain⟨h1,h2,h3,h4,h5,_⟩:=pQ h;have ih:=sM h0 (g:=g) h1 λc hc=>hb c (aF7 _ hc);have hbb:=hb b aF8
  have e:∀y,F (rowAt (b::g) y)=(if b.lo<=y/\y<b.hi then F b.ln else 0)+F (rowAt g y):=λy=>by
   simp only[rowAt];by_cases c:b.lo<=y/\y<b.hi
   ·rw[if_pos c,if_pos c,lN (g:=g) (y:=y) λd hd=>by have:=h5 d hd;lia,h0];simp
   ·rw[if_neg c,if_neg c];simp
  rw[show (λy=>F (rowAt (b::g) y))=λy=>(if b.lo<=y/\y<b.hi then F b.ln else 0)+F (rowAt g y) from funext e,bV,k9 (by lia) (by lia) (by lia),<-ih];simp[r9]
def chg(p:Int->Bool)(A:Int)(n:Nat):Int:=aZ A n λy=>b2i (p y !=p (y-1))
theorem qM(p:Int->Bool)(A:Int)(n m:Nat):chg p A (n+m)=chg p A n+chg p (A+n) m:=gF A _ n m
theorem qN{p:Int->Bool}{A:Int}{v:Bool}:∀{n:Nat},(∀y,A<=y->y<A+n->p y=v)->chg p A n=if n=0 then 0 else b2i (v !=p (A-1))
 | 0,_=>rfl
 | n+1,h=>by
  rw[show n+1=1+n by lia,qM,if_neg (by lia)];have h1:chg p A 1=b2i (v !=p (A-1)):=by simp[chg,aZ,h A (by lia) (by lia)]
  have h2:chg p (A+(1:Nat)) n=0:=by
   unfold chg;rw[aR (g:=λ_=>0) λy a b=>by rw[h y (by lia) (by lia),h (y-1) (by lia) (by lia)];simp[b2i],c5]
  rw[h1,h2];simp
def CG(x:Int):Bool->Int->List Bd->Int
 | l,_,[]=>b2i l
 | l,e,b::g=>(if b.lo≠e then b2i l+b2i (aP b.ln x) else b2i (l !=aP b.ln x))+CG x (aP b.ln x) b.hi g
theorem ER{x:Int}{p:Int->Bool}:∀{g:List Bd} {l:Bool} {e:Int} {k:Nat},vI g->(∀b∈g,e<=b.lo)->p (e-1)=l->(∀y,e<=y->p y=aP (rowAt g y) x)->(∀b∈g,b.hi<e+k)->0<k->CG x l e g=chg p e k
 | [],l,e,k,_,_,hl,hp,_,hk=>by
  rw[qN (v:=false) λy h1 _=>by rw[hp y h1];rfl,if_neg (by lia),hl];simp[CG]
 | b::g,l,e,k,h,he,hl,hp,hb,hk=>by
  obtain⟨h1,h2,h3,h4,h5,_⟩:=pQ h;have hbe:=he b aF8;have hbk:=hb b aF8
  obtain⟨u,hu⟩:∃u:Nat,b.lo=e+u:=⟨(b.lo-e).toNat,by lia⟩
  obtain⟨v,hv⟩:∃v:Nat,b.hi=e+u+v:=⟨(b.hi-b.lo).toNat,by lia⟩
  obtain⟨w,rfl⟩:∃w:Nat,k=u+v+w:=⟨k-(u+v),by lia⟩
  have row:∀y,rowAt (b::g) y=if b.lo<=y/\y<b.hi then b.ln else rowAt g y:=λy=>rfl
  have p1:∀y,e<=y->y<b.lo->p y=false:=λy a1 a2=>by
   rw[hp y a1,row,if_neg (by lia),lN λd hd=>by have:=h5 d hd;lia];rfl
  have p2:∀y,b.lo<=y->y<b.hi->p y=aP b.ln x:=λy a1 a2=>by
   rw[hp y (by lia),row,if_pos ⟨a1,a2⟩]
  have ih:=ER (x:=x) (p:=p) (g:=g) (l:=aP b.ln x) (e:=b.hi) (k:=w) h1 (λd hd=>(h5 d hd).1) (p2 _ (by lia) (by lia)) (λy hy=>by rw[hp y (by lia),row,if_neg (by lia)]) (λd hd=>by have:=hb d (aF7 _ hd);lia) (by lia);rw[qM,qM];rw[qN (A:=e) (n:=u) (v:=false) λy a1 a2=>p1 y a1 (by lia),qN (A:=e+u) (n:=v) (v:=aP b.ln x) λy a1 a2=>p2 y (by lia) (by lia)];have e3:e+((u+v:Nat):Int)=b.hi:=by lia
  rw[e3,<-ih,if_neg (show ¬v=0 by lia)];simp only[CG];by_cases c:u=0
  ·subst c;rw[if_neg (by lia),if_pos rfl];have:p (e+((0:Nat):Int)-1)=l:=by rw[<-hl];congr 1;lia
   rw[this];cases l <;> cases aP b.ln x <;> simp[b2i]
  ·rw[if_pos (by lia),if_neg c,hl];have:p (e+(u:Int)-1)=false:=p1 _ (by lia) (by lia);rw[this];simp
def iG(s0:OA):WS:=(FU (aV l9 (AR (aB 3) (aB 7) (wC (.int 0))) (aB 5)) (aB 3) (aB 7))
def fZ(s0:OA):WS:=(bB (FU (aV gC (AR (aB 3) (aB 6) (wC (.int 0))) (aB 5)) (aB 3) (aB 6)) (iG s0))
def f6(s0:OA):WS:=(l7 (cO (aB 4)) (gT 2 (aQ (gN 6) (aQ (gN 7) eL))) (fZ s0))
def eN(s0:OA):WS:=(iB (dW (aV JX (aV oIn (aB 9) (aB 2)) (aB 11))) (qU (OR "list" g7 (aB 8) (aA (aB 10) aF))) d6)
def iF(s0:OA):WS:=(bB (KD 9 (aV VJ (aB 3) (aB 10)) mV) (eN s0))
def jX(s0:OA):WS:=(bB (bT (aV oIn (aB 9) (aB 2)) (gN 11)) (iF s0))
def mE(s0:OA):WS:=(cT (aE s0 (aA (aB 8) aF)))
def mF(s0:OA):WS:=(bB (l7 (cO (aE C8 (aA (aB 3) aF))) (gN 10) (jX s0)) (mE s0))
def mG(s0:OA):WS:=(bB (bT (wC (.int 0)) (gN 9)) (mF s0))
def mH(s0:OA):WS:=(bB (bT (sY aF) (gN 8)) (mG s0))
def mI(s0:OA):WS:=(bB (l7 (cO (d5 (aA (d5 (aA (aB 0) (aA (wC (.int 1)) aF))) (aA (d5 (aA (aB 1) (aA (wC (.int 2)) aF))) aF)))) (gT 2 (aQ (gN 4) (aQ (gN 5) eL))) (f6 s0)) (mH s0))
def gP(s0:OA):WS:=(bB (bT (DH false) (gN 3)) (mI s0))
def iW:WS:=(cT (aE N3 (aA (vL ["x0","x1"] [] (cO (aB 0)) (gT 2 (aQ (gN 0) (aQ (gN 1) eL))) iA (aV l9 (aB 1) (aB 0))) aF)))
def lG(p:Int->Bool)(v:Int->Int):List Int->Int->List Int
 | [],_=>[]
 | x::r,a=>if p a=p (a+v x) then lG p v r (a+v x) else x::lG p v r (a+v x)
theorem G2{p:Int->Bool}{c v:Int->Int}:∀(ks:List Int) (lo:Int),ks.Pairwise (· < ·)->(∀k∈ks,lo<k)->(∀k∈ks,v k=c k-c (k-1))->(∀y,lo<y->y∉ks->c y=c (y-1))->
  lG p v ks (c lo)=xE (λk=>(if p (c k) then 1 else 0)-(if p (c (k-1)) then 1 else 0)) ks (if p (c lo) then 1 else 0)
 | [],lo,_,_,_,_=>rfl
 | x::r,lo,hs,hlo,hv,hn=>by
  have q:=aFr.mp hs
  have pre:c (x-1)=c lo:=n9 hn (x-1-lo).toNat (x-1) (by have:=hlo x aF8;lia) λk hk=>by
   rcases aFd.mp hk with z | z
   ·lia
   ·have:=q.1 k z;lia
  have hvx:c lo+v x=c x:=by rw[hv x List.mem_cons_self,pre];lia
  have ih:=G2 (p:=p) r x q.2 q.1 (λk hk=>hv k (aF7 _ hk)) (λy h1 h2=>hn y (by have:=hlo x aF8;lia) λhy=>by
   rcases aFd.mp hy with z | z
   ·lia
   ·exact h2 z)
  unfold lG xE;rw[hvx,pre,ih];cases p (c lo) <;> cases p (c x) <;> simp
theorem xD(p:Int->Bool)(v:Int->Int):∀(l:List Int) (x a:Int),lG p v (l++[x]) a=lG p v l a++(if p (a+(l.map v).sum)=p (a+(l.map v).sum+v x) then [] else [x])
 | [],x,a=>by simp[lG]
 | y::l,x,a=>by
  have ih:=xD p v l x (a+v y);have e:a+((y::l).map v).sum=a+v y+(l.map v).sum:=by simp;lia
  rw[e];simp only[List.cons_append,lG];rw[ih];split <;> simp
theorem uY(p:Int->Bool)(v:Int->Int):∀(l:List Int) (a:Int),(lG p v l a).length<=l.length
 | [],_=>by simp[lG]
 | x::l,a=>by
  have:=uY p v l (a+v x);unfold lG;split <;> simp <;> lia
theorem RI{p:Int->Bool}{c v:Int->Int}{ks:List Int}(hs:ks.Pairwise (· < ·))(hv:∀k∈ks,v k=c k-c (k-1))(hn:∀y,y∉ks->c y=c (y-1))(h0:∃m,∀y,y<=m->c y=0)(h1:∃m,∀y,m<=y->c y=0)(hp:p 0=false):
  Sep (oU (lG p v ks 0))/\∀x,iV (oU (lG p v ks 0)) x↔p (c x)=true:=by
 obtain⟨m0,hm0⟩:=h0;obtain⟨m1,hm1⟩:=h1
 obtain⟨lo,l1,l2⟩:∃lo,lo<=m0/\∀k∈ks,lo<k:=by
  cases ks with
  | nil=>exact⟨m0,aHv _,by simp⟩
  | cons k r=>
   refine⟨min m0 (k-1),by lia,λj hj=>?_⟩;rcases aFd.mp hj with z | z
   ·lia
   ·have:=(aFr.mp hs).1 j z;lia
 have el:∀l2,l2<=lo->c l2=0:=λl h=>hm0 l (by lia);have eq:=G2 (p:=p) ks lo hs l2 hv λy _ h=>hn y h;rw[el lo (Int.le_refl _)]at eq;rw[eq,hp];have key:=λlo' (h:lo' <=lo)=>(NM (c:=λx=>if p (c x) then 1 else 0) (v:=λk=>(if p (c k) then 1 else 0)-(if p (c (k-1)) then 1 else 0)) ks lo' hs (λk hk=>by have:=l2 k hk;lia) (λk _=>rfl) (λy _ h=>by show (if p (c y)=true then (1:Int) else 0)=_;rw[hn y h]) ⟨m1,λy hy=>by simp[hm1 y hy,hp]⟩).1 (by simp[el lo' h,hp]);have e0:∀lo',lo' <=lo->(if p (c lo')=true then (1:Int) else 0)=0:=λlo' h=>by simp[el lo' h,hp]
 refine⟨?_,λx=>?_⟩
 ·have:=(key lo (aHv _)).1;simp only[e0 lo (Int.le_refl _)]at this;simpa using this
 ·have:=(key (min lo x) (by lia)).2.2 x (by lia);simp only[e0 (min lo x) (by lia)]at this;have e1:(1:Int)<=(if p (c x)=true then 1 else 0)↔p (c x)=true:=by split <;> simp[*]
  rw[e1]at this;simpa using this
structure pX(xs:List Int)(kvs:List (D×D))(δ:Int->Int):Prop where
 key:∀p∈kvs,∃x∈xs,p.1= .int x
 nd:(kvs.map (·.1)).Nodup
 val:∀x,(b6 kvs (.int x)).getD (.int 0)= .int (δ x)
theorem pX.step{xs:List Int}{kvs:List (D×D)}{δ:Int->Int}(h:pX xs kvs δ){x:Int}(hx:x∈xs)(m:Int):pX xs (putD kvs (.int x) (.int (δ x+m))) (λy=>δ y+if y=x then m else 0):=by
 refine⟨λp hp=>?_,HS h.nd _ _,λy=>?_⟩
 ·rcases K5 hp with z | z
  ·exact h.key p z
  ·exact⟨x,hx,z.1⟩
 ·by_cases e:y=x
  ·subst e;simp[OT]
  ·rw[DI _ _ (by simpa using e),h.val y];simp[e]
theorem B3{xs:List Int}:∀{kvs:List (D×D)},(∀p∈kvs,∃x∈xs,p.1= .int x)->∃is:List Int,kvs.map (·.1)=is.map D.int/\∀x∈is,x∈xs
 | [],_=>⟨[],rfl,by simp⟩
 | p::kvs,h=>by
  obtain⟨x,hx,e⟩:=h p aF8;obtain⟨is,e2,h2⟩:=B3 λq hq=>h q (aF7 _ hq)
  exact⟨x::is,by simp[e,e2],λy hy=>by
   rcases aFd.mp hy with z | z
   ·rw[z];exact hx
   ·exact h2 y z⟩
theorem pX.keys{xs:List Int}{kvs:List (D×D)}{δ:Int->Int}(h:pX xs kvs δ):∃is:List Int,kvs.map (·.1)=is.map D.int/\is.Nodup/\(∀x∈is,x∈xs)/\(∀x∈is,b6 kvs (.int x)=some (.int (δ x)))/\∀x,x∉is->δ x=0:=by
 obtain⟨is,e,hm⟩:=B3 h.key
 have nd:is.Nodup:=by
  have:=h.nd;rw[e,List.nodup_iff_pairwise_ne,List.pairwise_map]at this;rw[List.nodup_iff_pairwise_ne];exact this.imp λh z=>h (by rw[z])
 have iff:∀x,b6 kvs (.int x)=none↔x∉is:=λx=>by
  rw[tH];constructor
  ·intro hh hx;have:D.int x∈kvs.map (·.1):=by rw[e];exact aGp hx
   obtain⟨p,hp,hpe⟩:=aFi.mp this;exact hh p hp hpe
  ·intro hx p hp z;have:p.1∈kvs.map (·.1):=aGp hp;rw[e,z]at this;obtain⟨y,hy,hye⟩:=aFi.mp this;cases hye;exact hx hy
 refine⟨is,e,nd,hm,λx hx=>?_,λx hx=>?_⟩
 ·have hv:=h.val x
  cases o:b6 kvs (.int x) with
  | none=>exact absurd hx ((iff x).mp o)
  | some d=>rw[o]at hv;simp at hv;rw[hv]
 ·have hv:=h.val x;rw[(iff x).mpr hx]at hv;simp at hv;exact hv.symm
theorem pX.len{xs:List Int}{kvs:List (D×D)}{δ:Int->Int}(h:pX xs kvs δ):kvs.length<=xs.length:=by
 obtain⟨is,e,nd,hm,_⟩:=h.keys;have:=D7 is xs nd hm;have:=aG8 List.length e;simp at this;lia
theorem XE{s0:OA}{E:eJ}{mh:MH}{n:Nat}{kvs:List (D×D)}{xs:List Int}{δ:Int->Int}{x y m:Int}{a0 a1 a2 a4 a8 a9 a10 a11:Option D}(h1:mh[n]? =some (.dic false kvs))(h2:pX xs kvs δ)(h3:xs.length<4000)(hx:x∈xs)(hy:y∈xs)
  (q:∀kvs',pX xs kvs' (λz=>δ z+(if z=x then m else 0)+if z=y then -m else 0)->E.nx [a0,a1,a2,some (.ref n),a4,some (.int m),some (.int x),some (.int y),a8,a9,a10,a11] (mh.set n (.dic false kvs'))):
  fZ s0 E [a0,a1,a2,some (.ref n),a4,some (.int m),some (.int x),some (.int y),a8,a9,a10,a11] mh:=by
 have sz:=aFn;have hl:=h2.len;simp[fZ];refine⟨⟨_,h1⟩,kvs,h1,⟨.inl x,rfl⟩,?_⟩;rw[h2.val x];simp;refine⟨n,kvs,.inl x,rfl,h1,rfl,by lia,?_⟩;have st:=h2.step hx m;have hl2:=st.len;have g1:=eE (.dic false (putD kvs (.int x) (.int (δ x+m)))) h1;simp[iG];refine⟨⟨_,g1⟩,_,g1,⟨.inl y,rfl⟩,?_⟩;rw[st.val y];simp;refine⟨n,_,.inl y,rfl,g1,rfl,by lia,?_⟩;have st2:=st.step hy (-m);rw[show (δ y+(if y=x then m else 0))+ -m=(δ y+if y=x then m else 0)-m by lia]at st2;simpa using q _ st2
theorem MD(l:List P2)(t:P2)(δ:Int->Int)(m:Int):(λx=>δ x+m*(o8 (l++[t]) x-o8 (l++[t]) (x-1)))=λy=>δ y+m*(o8 l y-o8 l (y-1))+(if y=t.1 then m else 0)+if y=t.2 then -m else 0:=by
 funext y;have e2:∀y,o8 (l++[t]) y=o8 l y+((if t.1<=y then 1 else 0)-(if t.2<=y then (1:Int) else 0)):=λy=>by simp[o8]
 rw[e2,e2]
 have e3:∀z:Int,(if z<=y then 1 else 0)-(if z<=y-1 then (1:Int) else 0)=if y=z then 1 else 0:=λz=>by
  by_cases c1:z<=y-1
  ·simp[c1,show z<=y by lia,show ¬y=z by lia]
  ·by_cases c2:z<=y
   ·rw[if_pos c2,if_neg c1,if_pos (by lia)];rfl
   ·simp[c1,c2,show ¬y=z by lia]
 have a1:=e3 t.1;have a2:=e3 t.2;have:o8 l y+((if t.1<=y then 1 else 0)-(if t.2<=y then (1:Int) else 0))-(o8 l (y-1)+((if t.1<=y-1 then 1 else 0)-(if t.2<=y-1 then (1:Int) else 0)))=o8 l y-o8 l (y-1)+(if y=t.1 then 1 else 0)-(if y=t.2 then 1 else 0):=by lia
 rw[this,Int.mul_sub,Int.mul_add]
 have m1:m*(if y=t.1 then (1:Int) else 0)=if y=t.1 then m else 0:=by split <;> simp
 have m2:m*(if y=t.2 then (1:Int) else 0)=if y=t.2 then m else 0:=by split <;> simp
 rw[m1,m2];split <;> split <;> lia
theorem M8{s0:OA}{E:eJ}{mh:MH}{n:Nat}{kvs:List (D×D)}{xs:List Int}{δ:Int->Int}{ln:List P2}{m:Int}{a0 a1 a2 a6 a7 a8 a9 a10 a11:Option D}(h1:mh[n]? =some (.dic false kvs))(h2:pX xs kvs δ)(h3:xs.length<4000)(h4:ln.length<=1000000)(h5:∀t∈ln,t.1∈xs/\t.2∈xs)
  (q:∀a6 a7 kvs',pX xs kvs' (λx=>δ x+m*(o8 ln x-o8 ln (x-1)))->E.nx [a0,a1,a2,some (.ref n),some (g8 ln),some (.int m),a6,a7,a8,a9,a10,a11] (mh.set n (.dic false kvs'))):
  f6 s0 E [a0,a1,a2,some (.ref n),some (g8 ln),some (.int m),a6,a7,a8,a9,a10,a11] mh:=by
 have sz:=aFn;simp[f6,g8];refine cE (λi ρ mh' =>(∃a b,ρ=[a0,a1,a2,some (.ref n),some (.tup (ln.map sD)),some (.int m),a,b,a8,a9,a10,a11])/\∃kvs',mh' =mh.set n (.dic false kvs')/\pX xs kvs' (λx=>δ x+m*(o8 (ln.take i) x-o8 (ln.take i) (x-1)))) _ ?_ ?_ ?_ ⟨⟨_,_,rfl⟩,kvs,(oC h1).symm,by simpa[o8] using h2⟩
 ·intros;rfl
 ·rintro i d ρ mh' N hi ⟨⟨a,b,rfl⟩,kvs',rfl,st⟩ nx;obtain⟨t,ht,rfl⟩:=g6 hi;have htm:=h5 t (aFf ht);simp[sD];refine XE (eE _ h1) st h3 htm.1 htm.2 λkvs2 st2=>?_;rw[List.set_set];refine nx _ _ ⟨⟨_,_,rfl⟩,kvs2,rfl,?_⟩;rw[take_snoc ht,MD];exact st2
 ·rintro ρ mh' ⟨⟨a,b,rfl⟩,kvs',rfl,st⟩;simp only[List.length_map,List.take_length]at st;exact q _ _ _ st
def jU(a b:List P2)(x:Int):Int:=o8 a x+2*o8 b x
def yB:OA:=λds mh Q=>∃(a b:List P2) (ks:List Int),ds=[g8 a,g8 b,.tup (ks.map .int)]/\2*(a.length+b.length)<3900/\0∉ks/\∀l,Sep l->l.length<=2*(a.length+b.length)->(∀x,iV l x↔jU a b x∈ks)->Q (g8 l) mh
theorem y9(c:Int):∀ks:List Int,inD (.int c) (ks.map .int)=decide (c∈ks)
 | []=>rfl
 | k::ks=>by
  have:=y9 c ks;simp only[inD]at this⊢;simp only[List.map_cons,List.any_cons,this,jO];by_cases h:c=k
  ·subst h;simp
  ·simp[h,Ne.symm h]
theorem xC:∀ks:List Int,(ks.map D.int).all lC=true
 | []=>rfl
 | k::ks=>by simp[lC]
theorem aBb(ds:List D)(mh:MH)(R:DK)(ok:jQ mh)(hs:yB ds mh R):gP oN (En mh R) (aH ["one","other","kept","steps","row","worth","x0","x1","edges","count","x","ahead"] ds) mh:=by
 obtain⟨a,b,kp,rfl,hlen,h0,q⟩:=hs;have sz:=aFn
 let xs:List Int:=a.flatMap (λt=>[t.1,t.2])++b.flatMap (λt=>[t.1,t.2])
 have hxl:xs.length=2*(a.length+b.length):=by
  have:∀l:List P2,(l.flatMap (λt=>[t.1,t.2])).length=2*l.length:=λl=>by induction l with
   | nil=>rfl
   | cons t l ih=>simp[ih];lia
  simp only[xs,List.length_append,this];lia
 have ha:∀t∈a,t.1∈xs/\t.2∈xs:=λt ht=>⟨aGj _ (aHa.mpr ⟨t,ht,by simp⟩),aGj _ (aHa.mpr ⟨t,ht,by simp⟩)⟩
 have hb:∀t∈b,t.1∈xs/\t.2∈xs:=λt ht=>⟨aFs _ (aHa.mpr ⟨t,ht,by simp⟩),aFs _ (aHa.mpr ⟨t,ht,by simp⟩)⟩
 have r0:pX xs [] (λ_=>0):=⟨by simp,by simp,by simp[b6]⟩
 have g0:(mh++[MO.dic false []])[mh.length]? =some (.dic false []):=by simp
 simp[gP,mI,aH];refine⟨by lia,?_⟩;simp only[bA,bW,kX];refine⟨trivial,?_⟩;simp;refine M8 g0 r0 (by lia) (by lia) ha λa6 a7 kvs1 st1=>?_;simp;refine M8 (by simp) st1 (by lia) (by lia) hb λa6 a7 kvs2 st2=>?_;simp
 have st3:pX xs kvs2 (λx=>jU a b x-jU a b (x-1)):=by
  have e:(λx=>(0:Int)+1*(o8 a x-o8 a (x-1))+2*(o8 b x-o8 b (x-1)))=λx=>jU a b x-jU a b (x-1):=by funext x;simp only[jU];lia
  rw[<-e];exact st2
 clear st1 st2 g0 r0 kvs1;obtain⟨is,ek,nd,hsub,hval,hz⟩:=st3.keys;have hlen2:=D7 is xs nd hsub;have hkl:=st3.len;simp[mH,mG,mF];refine⟨mh.length,false,kvs2,rfl,by simp,by lia,by rw[ek];exact AV _,λfs p s=>?_⟩;rw[ek]at p;obtain⟨js,rfl,pj,srt⟩:=HZ p s nd;have hjl:=pj.length_eq;have e1:mh++[MO.dic false kvs2,MO.lst []]++[.lst (js.map .int)]=mh++[MO.dic false kvs2]++[MO.lst []]++[.lst (js.map .int)]:=by simp
 have g1:(mh++[MO.dic false kvs2,MO.lst []]++[.lst (js.map .int)])[mh.length]? =some (.dic false kvs2):=by simp
 have g2:(mh++[MO.dic false kvs2,MO.lst []]++[.lst (js.map .int)])[mh.length+1]? =some (.lst []):=by simp
 have g3:(mh++[MO.dic false kvs2,MO.lst []]++[.lst (js.map .int)])[mh.length+2]? =some (.lst (js.map .int)):=by simp
 have px:cX mh (mh++[MO.dic false kvs2,MO.lst []]++[.lst (js.map .int)]):=by rw[e1];exact((cX.refl.push _).push _).push _
 have e3:(mh++[MO.dic false kvs2,MO.lst []]).length=mh.length+2:=by simp
 rw[e3];generalize mh++[MO.dic false kvs2,MO.lst []]++[.lst (js.map .int)]=M at g1 g2 g3 px⊢;rw[bR g3];simp only[bW];generalize hv:(λx=>jU a b x-jU a b (x-1))=v at st3 hval hz;have hv' :∀x,v x=jU a b x-jU a b (x-1):=λx=>by rw[<-hv]
 have hval2:∀x∈is,b6 kvs2 (.int x)=some (.int (v x)):=λx hx=>by rw[hval x hx,hv' x]
 have hz2:∀x,x∉is->jU a b x-jU a b (x-1)=0:=hz
 let P:Int->Bool:=λc=>decide (c∈kp)
 refine cE (λi ρ M' =>(∃u w,ρ=[some (g8 a),some (g8 b),some (.tup (kp.map .int)),some (.ref mh.length),some (g8 b),some (.int 2),a6,a7,some (.ref (mh.length+1)),some (.int (((js.take i).map v).sum)),u,w])/\cX mh M' /\M'[mh.length]? =some (.dic false kvs2)/\M'[mh.length+2]? =some (.lst (js.map .int))/\M'[mh.length+1]? =some (.lst ((lG P v (js.take i) 0).map .int))) _ ?_ ?_ ?_ ⟨⟨_,_,rfl⟩,px,g1,g3,by simpa[lG] using g2⟩
 ·rintro i ρ M' ⟨_,_,_,a3,_⟩;exact bR a3
 ·rintro i d ρ M' N hi ⟨⟨u,w,rfl⟩,px2,a1,a2,a3⟩ nx;obtain⟨x,hx,rfl⟩:=g6 hi;have hil:i<js.length:=(aF6.mp hx).1;have hvx:=hval2 x (pj.mem_iff.mp (aFf hx));have el:=uY P v (js.take i) 0;have es:=xD P v (js.take i) x 0;rw[<-take_snoc hx]at es;have esum:((js.take (i+1)).map v).sum=((js.take i).map v).sum+v x:=by rw[take_snoc hx];simp
  simp only[Int.zero_add]at es;generalize ((js.take i).map v).sum=c0 at es esum⊢;simp[jX];refine⟨_,rfl,rfl,xC kp,?_⟩;rw[show c9 M' (.int c0)= .int c0 from rfl,y9];simp[iF];refine⟨.int c0,rfl,?_⟩;simp;refine⟨mh.length,kvs2,.inl x,_,rfl,a1,rfl,hvx,?_⟩;show eN oN _ [some (g8 a),some (g8 b),some (.tup (kp.map .int)),some (.ref mh.length),some (g8 b),some (.int 2),a6,a7,some (.ref (mh.length+1)),some (.int (c0+v x)),some (.int x),some (.bl (decide (c0∈kp)))] M';simp[eN];refine⟨_,rfl,rfl,xC kp,?_⟩;rw[show c9 M' (.int (c0+v x))= .int (c0+v x) from rfl,y9];simp;by_cases cc:P c0=P (c0+v x)
  ·rw[if_pos cc,List.append_nil]at es;rw[if_pos (by have:=decide_eq_decide.mp cc;exact this.symm)];exact nx _ _ ⟨⟨_,_,by rw[esum]⟩,px2,a1,a2,by rw[es];exact a3⟩
  ·rw[if_neg cc]at es;rw[if_neg (λh=>cc (decide_eq_decide.mpr h.symm))];rw[nC a3];have hlt:=zD a3;refine⟨⟨rfl,_,a3⟩,by simp at el⊢;lia,nx _ _ ⟨⟨_,_,by rw[esum]⟩,px2.set (by lia) _,get_set a1 (by lia),get_set a2 (by lia),?_⟩⟩;rw[eE _ a3,es];simp
 ·rintro ρ M' ⟨⟨u,w,rfl⟩,px2,a1,a2,a3⟩;simp at a3;simp[mE];have el:=uY P v js 0;refine⟨mh.length+1,lG P v js 0,rfl,a3,by lia,?_⟩;have bl:=yG (lG P v js 0);obtain⟨l1,hl1⟩:=yS a;obtain⟨l2,hl2⟩:=yS b;obtain⟨l3,hl3⟩:=uI a;obtain⟨l4,hl4⟩:=uI b
  obtain⟨b1,b2⟩:=RI (p:=P) (c:=jU a b) (v:=v) srt (λk _=>hv' k) (λy hy=>by have:=hz2 y λh=>hy (pj.mem_iff.mpr h);lia)
   ⟨min l1 l2,λy hy=>by simp only[jU];rw[hl1 y (by lia),hl2 y (by lia)];rfl⟩ ⟨max l3 l4,λy hy=>by simp only[jU];rw[hl3 y (by lia),hl4 y (by lia)];rfl⟩ (by simpa[P] using h0)
  refine px2.out ok (by simp[g8,cD,oS]) (q _ b1 (by lia) λx=>?_);rw[b2 x];simp[P]
theorem yR:∀{l:List P2},Sep l->∀x,o8 l x=b2i (aP l x)
 | [],_,x=>by simp[o8,aP,b2i]
 | t::l,h,x=>by
  obtain⟨s1,s2,s3⟩:=oD h;rw[uJ,yR s1 x,lU];by_cases c:t.1<=x/\x<t.2
  ·rw[i9 h (x:=x) (by lia),if_pos c.1,if_neg (by lia)];simp[c,b2i]
  ·have e:(decide (t.1<=x) && decide (x<t.2))=false:=by simp;lia
   rw[e];by_cases c1:t.1<=x
   ·rw[if_pos c1,if_pos (by lia)];simp
   ·rw[if_neg c1,if_neg (by lia)];simp
def HE(A:Int)(n:Nat)(l:List P2):Prop:=∀t∈l,A<=t.1/\t.2<A+n
theorem QI{A:Int}{n:Nat}{a b l:List P2}(ha:Sep a)(hb:Sep b)(ia:HE A n a)(ib:HE A n b)(hl:Sep l)(h:∀x,iV l x↔jU a b x∈([1,2]:List Int)):cP l=aZ A n λx=>b2i (aP a x !=aP b x):=by
 have key:∀x,aP l x=(aP a x !=aP b x):=λx=>by
  rw[Bool.eq_iff_iff,gK,h x];simp only[jU,yR ha,yR hb];cases aP a x <;> cases aP b x <;> simp[b2i]
 have inn:∀x,aP l x=true->A<=x/\x+1<=A+n:=λx hx=>by
  rw[key x]at hx;have:aP a x=true\/aP b x=true:=by revert hx;cases aP a x <;> cases aP b x <;> simp
  rcases this with z | z
  ·obtain⟨t,ht,z1,z2⟩:=gK.mp z;have:=ia t ht;lia
  ·obtain⟨t,ht,z1,z2⟩:=gK.mp z;have:=ib t ht;lia
 rw[lP hl λt ht=>?_,aR λx _ _=>by rw[key x]];have ht2:=hl.1 t ht;have h1:=inn t.1 (gK.mpr ⟨t,ht,aHv _,ht2⟩);have h2:=inn (t.2-1) (gK.mpr ⟨t,ht,by lia,by lia⟩)
 lia
def bO(g:List Bd):Int:=(g.map λb=>2*(b.hi-b.lo)*(b.ln.length:Int)).sum
theorem rE(g:List Bd):bO g=r9 (λl=>2*(l.length:Int)) g:=by
 unfold bO r9;congr 1;refine aH8 λb _=>?_;rw[Int.mul_comm 2 (b.hi-b.lo),Int.mul_assoc]
theorem GY(x e e' :Int)(g:List Bd):CG x false e g=CG x false e' g:=by
 cases g with
 | nil=>rfl
 | cons b g=>
  simp only[CG];cases aP b.ln x <;> simp[b2i]
def tZ(A:Int)(n:Nat)(g:List Bd):Int:=bO g+aZ A n λx=>CG x false 0 g
theorem O7{A C:Int}{n m:Nat}{g h:List Bd}(cg:vI g)(ch:vI h)(hc:∀x y,gO h y x↔gO g x y)(b1:∀b∈g,C<=b.lo/\b.hi<C+m)(b2:∀b∈h,A<=b.lo/\b.hi<A+n)(b3:∀b∈h,HE C m b.ln)(hm:0<m):
  tZ A n g=bO g+bO h:=by
 unfold tZ;congr 1;rw[rE,sM (C:=A) (m:=n) (by simp) ch λb hb=>by have:=b2 b hb;lia];refine aR λx _ _=>?_;rw[GY x 0 C,ER (p:=λy=>aP (rowAt g y) x) (k:=m) cg (λb hb=>(b1 b hb).1) (by rw[lN λb hb=>by have:=b1 b hb;lia];rfl) (λy _=>rfl) (λb hb=>(b1 b hb).2) hm];rw[qJ (A:=C) (n:=m) (lM ch x) λt ht=>by obtain⟨b,hb,z⟩:=p9 ht;exact b3 b hb t z];have e:∀y,aP (rowAt h x) y=aP (rowAt g y) x:=λy=>by rw[Bool.eq_iff_iff,lO ch,lO cg,hc]
 unfold chg;exact aR λy _ _=>by rw[e,e]
theorem FC(g:List Bd):((LS.bL g).map λr=>(r.x1-r.x0)*(r.y1-r.y0)).sum=r9 cP g:=by
 induction g with
 | nil=>rfl
 | cons b g ih=>
  have e:∀l:List P2,((l.map λs=>(⟨s.1,b.lo,s.2,b.hi⟩:R4)).map λr=>(r.x1-r.x0)*(r.y1-r.y0)).sum=(b.hi-b.lo)*cP l:=by
   intro l
   induction l with
   | nil=>simp[cP]
   | cons t l ih2=>
    simp only[List.map_cons,List.sum_cons]at ih2⊢;rw[ih2];simp only[cP,List.map_cons,List.sum_cons];rw[Int.mul_add,Int.mul_comm (b.hi-b.lo) (t.2-t.1)]
  have:LS.bL (b::g)=b.ln.map (λs=>(⟨s.1,b.lo,s.2,b.hi⟩:R4))++LS.bL g:=by simp[LS.bL]
  rw[this,List.map_append,List.sum_append,e,ih];simp[r9]
theorem B7{A a v:Int}{n:Nat}(h1:A<=a)(h2:a<A+n):aZ A n (λx=>if x=a then v else 0)=v:=by
 rw[aR (g:=λx=>if a<=x/\x<a+1 then v else 0) λx _ _=>by
  by_cases c:x=a
  ·rw[if_pos c,if_pos (by lia)]
  ·rw[if_neg c,if_neg (by lia)],k9 h1 (by lia) (by lia)]
 rw[show a+1-a=1 by lia];simp
theorem nA{A C:Int}{n m:Nat}(F:P2->Int):∀{P:List P2},P.Nodup->(∀p∈P,(A<=p.1/\p.1<A+n)/\C<=p.2/\p.2<C+m)->(P.map F).sum=aZ C m λy=>aZ A n λx=>if (x,y)∈P then F (x,y) else 0
 | [],_,_=>by simp[c5]
 | p::P,nd,hb=>by
  have c:=aGq.mp nd;have ih:=nA F (P:=P) c.2 λq hq=>hb q (aF7 _ hq);have hp:=hb p aF8
  have e:∀x y:Int,(if (x,y)∈p::P then F (x,y) else 0)=(if x=p.1 then (if y=p.2 then F p else 0) else 0)+if (x,y)∈P then F (x,y) else 0:=λx y=>by
   by_cases c1:(x,y)=p
   ·have e1:x=p.1:=by rw[<-c1]
    have e2:y=p.2:=by rw[<-c1]
    rw[if_pos (by rw[c1];exact List.mem_cons_self),if_pos e1,if_pos e2,if_neg (by rw[c1];exact c.1),c1];simp
   ·have:¬(x=p.1/\y=p.2):=λz=>c1 (by rw[z.1,z.2]);by_cases c2:(x,y)∈P
    ·rw[if_pos (List.mem_cons_of_mem _ c2),if_pos c2];split
     ·rw[if_neg (by lia)];simp
     ·simp
    ·rw[if_neg (by simp[c1,c2]),if_neg c2];split
     ·rw[if_neg (by lia)];simp
     ·simp
  have e2:(aZ C m λy=>aZ A n λx=>if (x,y)∈p::P then F (x,y) else 0)=(aZ C m λy=>if y=p.2 then F p else 0)+aZ C m λy=>aZ A n λx=>if (x,y)∈P then F (x,y) else 0:=by
   rw[<-bV];refine aR λy _ _=>?_;rw[show (λx=>if (x,y)∈p::P then F (x,y) else 0)=λx=>(if x=p.1 then (if y=p.2 then F p else 0) else 0)+if (x,y)∈P then F (x,y) else 0 from funext λx=>e x y,bV,B7 hp.1.1 hp.1.2]
  rw[e2,B7 hp.2.1 hp.2.2,<-ih];simp
theorem CN{A:Int}{n:Nat}{p:Int->Bool}(h0:p (A-1)=false)(h1:p (A+n-1)=false):aZ A n (λx=>b2i (p x !=p (x-1)))=aZ A n λx=>if p x=true then b2i (!p (x+1))+b2i (!p (x-1)) else 0:=by
 have e:∀x,b2i (p x !=p (x-1))=(if p x=true then b2i (!p (x-1)) else 0)+(if p (x+ -1)=true then b2i (!p (x+ -1+1)) else 0):=λx=>by
  rw[show x+ -1=x-1 by lia,show x-1+1=x by lia];cases p x <;> cases p (x-1) <;> simp[b2i]
 have e2:∀x,(if p x=true then b2i (!p (x+1))+b2i (!p (x-1)) else 0)=(if p x=true then b2i (!p (x-1)) else 0)+(if p x=true then b2i (!p (x+1)) else 0):=λx=>by split <;> lia
 rw[show (λx=>b2i (p x !=p (x-1)))=_ from funext e,show (λx=>if p x=true then b2i (!p (x+1))+b2i (!p (x-1)) else 0)=_ from funext e2,bV,bV];congr 1;rw[uN A (-1) (λx=>if p x=true then b2i (!p (x+1)) else 0) n];have s1:=gF (A+ -1) (λx=>if p x=true then b2i (!p (x+1)) else 0) 1 n
 have s2:aZ (A+ -1) (1+n) (λx=>if p x=true then b2i (!p (x+1)) else 0)=aZ (A+ -1) n (λx=>if p x=true then b2i (!p (x+1)) else 0)+0:=by
  rw[Nat.add_comm 1 n];simp only[aZ];rw[show A+ -1+(n:Int)=A+n-1 by lia,h1];simp
 have s3:aZ (A+ -1) 1 (λx=>if p x=true then b2i (!p (x+1)) else 0)=0:=by
  simp only[aZ];rw[show A+ -1+((0:Nat):Int)=A-1 by lia,h0];simp
 rw[s2,s3,show A+ -1+((1:Nat):Int)=A by lia]at s1
 lia
def qC(P:List P2)(p:P2):Int:=b2i (!decide ((p.1+1,p.2)∈P))+b2i (!decide ((p.1-1,p.2)∈P))+b2i (!decide ((p.1,p.2+1)∈P))+b2i (!decide ((p.1,p.2-1)∈P))
theorem E5{A C:Int}{n m:Nat}{g:List Bd}{P:List P2}(cg:vI g)(nd:P.Nodup)(hP:∀x y,(x,y)∈P↔gO g x y)(hb:∀p∈P,(A<p.1/\p.1+1<A+n)/\C<p.2/\p.2+1<C+m)
  (b1:∀b∈g,C<=b.lo/\b.hi<C+m) (b3:∀b∈g,HE A n b.ln) (hm:0<m):
  r9 cP g=(P.length:Int)/\tZ A n g=(P.map (qC P)).sum:=by
 have S:∀x y,aP (rowAt g y) x=decide ((x,y)∈P):=λx y=>by rw[Bool.eq_iff_iff,lO cg,decide_eq_true_iff,hP]
 have inr:∀y,HE A n (rowAt g y):=λy t ht=>by obtain⟨b,hbm,z⟩:=p9 ht;exact b3 b hbm t z
 have hb' :∀p∈P,(A<=p.1/\p.1<A+n)/\C<=p.2/\p.2<C+m:=λp hp=>by have:=hb p hp;lia
 constructor
 ·rw[sM (C:=C) (m:=m) (by simp[cP]) cg λb h=>by have:=b1 b h;lia];have:=nA (A:=A) (C:=C) (n:=n) (m:=m) (λ_=>1) nd hb'
  rw[show (P.map λ_=>(1:Int)).sum=(P.length:Int) by
   clear this nd hP hb S hb'
   induction P with
   | nil=>rfl
   | cons p P ih=>simp[ih];lia]at this
  rw[this];refine aR λy _ _=>?_;rw[lP (A:=A) (n:=n) (lM cg y) λt ht=>by have:=inr y t ht;lia];exact aR λx _ _=>by rw[S];simp[b2i]
 ·rw[nA (A:=A) (C:=C) (n:=n) (m:=m) (qC P) nd hb']
  have e:∀x y:Int,(if (x,y)∈P then qC P (x,y) else 0)=(if decide ((x,y)∈P)=true then b2i (!decide ((x+1,y)∈P))+b2i (!decide ((x-1,y)∈P)) else 0)+(if decide ((x,y)∈P)=true then b2i (!decide ((x,y+1)∈P))+b2i (!decide ((x,y-1)∈P)) else 0):=λx y=>by
   simp only[decide_eq_true_eq];split
   ·simp only[qC];lia
   ·simp
  have e2:(aZ C m λy=>aZ A n λx=>if (x,y)∈P then qC P (x,y) else 0)=(aZ C m λy=>aZ A n λx=>if decide ((x,y)∈P)=true then b2i (!decide ((x+1,y)∈P))+b2i (!decide ((x-1,y)∈P)) else 0)+aZ A n λx=>aZ C m λy=>if decide ((x,y)∈P)=true then b2i (!decide ((x,y+1)∈P))+b2i (!decide ((x,y-1)∈P)) else 0:=by
   rw[w8 A C _ m n,<-bV];refine aR λy _ _=>?_;rw[<-bV];exact aR λx _ _=>e x y
  rw[e2];unfold tZ;congr 1
  ·rw[rE,sM (C:=C) (m:=m) (by simp) cg λb h=>by have:=b1 b h;lia];refine aR λy _ _=>?_;rw[qJ (A:=A) (n:=n) (lM cg y) (inr y)];rw[show (λx=>b2i (aP (rowAt g y) x !=aP (rowAt g y) (x-1)))=λx=>b2i (decide ((x,y)∈P) !=decide ((x-1,y)∈P)) from funext λx=>by rw[S,S]];refine CN (p:=λx=>decide ((x,y)∈P)) ?_ ?_
   ·exact aGd λh=>by have:=hb _ h;simp only at this;lia
   ·exact aGd λh=>by have:=hb _ h;simp only at this;lia
  ·refine aR λx _ _=>?_;rw[GY x 0 C,ER (p:=λy=>aP (rowAt g y) x) (k:=m) cg (λb hb=>(b1 b hb).1) (by rw[lN λb hb=>by have:=b1 b hb;lia];rfl) (λy _=>rfl) (λb hb=>(b1 b hb).2) hm];unfold chg;rw[show (λy=>b2i (aP (rowAt g y) x !=aP (rowAt g (y-1)) x))=λy=>b2i (decide ((x,y)∈P) !=decide ((x,y-1)∈P)) from funext λy=>by rw[S,S]];refine CN (p:=λy=>decide ((x,y)∈P)) ?_ ?_
   ·exact aGd λh=>by have:=hb _ h;simp only at this;lia
   ·exact aGd λh=>by have:=hb _ h;simp only at this;lia
end LR
namespace K05
open PySem PyProof.Rows L2 D3
def top(i:Nat):Stmt:=PySem.Challenge.pw_maskwright_k05_areas_and_rims.main.body.getD i (.Pass ⟨0,0,0,0⟩)
set_option hygiene false
local macro_rules | `(tactic| walk_at "t")=>`(tactic| repeat' first | ((with_reducible show qT _ _ (gN _));exact zB _) | ((with_reducible show qT _ _ _);refine' XN ?_) | ((with_reducible show xS _ _ (aQ _ _));refine' NA ?_ ?_) | ((with_reducible show xS _ _ _);exact RF) | exact IY (by decide) | exact ET | refine' NB ?_ | refine' IZ ?_ ?_ ?_ ?_ | exact NC | refine' gmono_tup ?_ | refine' EU ?_ ?_ | exact JA)
local macro_rules | `(tactic| walk_at "g")=>`(tactic| first | ((with_reducible show LE _ _ _);first | ((with_reducible show LE _ _ (vL _ _ _ _ _ _));refine' WB _ _ ?a ?b ?r ?s ?_ ?g ?u ?v;(case a=>decide+kernel);(case b=>decide+kernel);(case r=>walk_at "t");(case s=>walk_at "t");(case g=>intro _ _ _ _ _ _;repeat' walk_at "g");(case u=>intro _ _ _ _ _;repeat' walk_at "g");(case v=>intro _ _ _ _ _;repeat' walk_at "g")) | ((with_reducible show LE _ (.Name _ _) (aB _));exact V4 _) | ((with_reducible show LE _ (.Constant (.int _) _ _) _);exact le_int) | ((with_reducible show LE _ (.BinOp _ _ _ _) _);refine' aAu ?_ ?_ ?_) | ((with_reducible show LE _ _ (aV fE _ _));refine' S2 ?a ?_ ?_ ?b;(case a=>exact ixl);(case b=>exact λ_ _=>rfl)) | ((with_reducible show LE _ (.Tuple _ _ _) _);refine' V5 ?_) | ((with_reducible show LE _ (.Call (.Name "len" _) _ _ _) _);refine' rY ?a ?b ?c ?_;(case a=>exact X1);(case b=>exact B.len);(case c=>exact N0)) | ((with_reducible show LE _ (.UnaryOp .USub _ _) _);refine' aAs ?_ ?_) | ((with_reducible show LE _ (.List _ _) _);refine' V9 ?_) | ((with_reducible show LE _ (.Call (.Name "isinstance" _) _ _ _) _);refine' rY ?a ?b ?c ?_;(case a=>exact X2);(case b=>exact B.isinstance);(case c=>exact vV)) | ((with_reducible show LE _ (.Constant (.bool _) _ _) _);exact aB0) | ((with_reducible show LE _ (.Compare _ [_] [_] _) _);refine' MI ?_ ?_ ?_ ?a;(case a=>exact aAk _)) | ((with_reducible show LE _ _ (OR _ g7 _ _));refine' S3 ?a ?b ?c ?d ?_ ?_;(case a=>exact PySem.F.plainAttrs_list);(case b=>exact PySem.F.slot_list_append);(case c=>exact PySem.F.type_list_append);(case d=>exact II)) | ((with_reducible show LE _ (.Call (.Name "sum" _) _ _ _) _);refine' rY ?a ?b ?c ?_;(case a=>exact X0 rfl);(case b=>exact B.sum);(case c=>exact X5)) | ((with_reducible show LE _ (.BoolOp .And (_::_::_) _) _);refine' WC ?_ ?_) | ((with_reducible show LE _ (.Call (.Name "min" _) _ _ _) _);refine' rY ?a ?b ?c ?_;(case a=>exact RS rfl);(case b=>exact B.min);(case c=>exact NY)) | ((with_reducible show LE _ (.Name "tuple" _) (wC _));refine' BU ?a ?b;(case a=>exact B.tuple);(case b=>exact vC)) | ((with_reducible show LE _ (.Name "list" _) (wC _));refine' BU ?a ?b;(case a=>exact B.list);(case b=>exact RY)) | ((with_reducible show LE _ (.BoolOp _ [_] _) _);refine' V7 ?_) | ((with_reducible show LE _ _ (J9 _ _ _ _));refine' V6 ?_ ?_ ?_ ?_) | ((with_reducible show LE _ _ (AR _ _ _));refine' Q1 ?a ?_ ?_ ?_;(case a=>exact hr.units)) | ((with_reducible show LE _ (.Compare _ [_] [_] _) _);refine' MI ?_ ?_ ?_ ?a;(case a=>rfl)) | ((with_reducible show LE _ (.Call (.Name "max" _) _ _ _) _);refine' rY ?a ?b ?c ?_;(case a=>exact RU rfl);(case b=>exact B.max);(case c=>exact NZ)) | ((with_reducible show LE _ (.Call (.Name "tuple" _) _ _ _) _);refine' aEf ?a ?b ?c ?_;(case a=>exact NU);(case b=>exact B.tuple);(case c=>exact vC)) | ((with_reducible show LE _ (.Name "str" _) (wC _));refine' BU ?a ?b;(case a=>exact B.str);(case b=>exact X6)) | ((with_reducible show LE _ _ (Y8 2 _));refine' aAt ?a ?b ?c ?d ?e ?_;(case a=>exact SM);(case b=>exact show 0<2/\2<=1000 by decide);(case c=>exact rfl);(case d=>exact B.tuple);(case e=>exact B.zip)) | ((with_reducible show LE _ _ (DH false));exact Q0) | ((with_reducible show LE _ (.Call (.Name "sorted" _) _ _ _) _);refine' rY ?a ?b ?c ?_;(case a=>exact E6 hr.units rfl);(case b=>exact B.sorted);(case c=>exact qO)) | ((with_reducible show LE _ _ (aV VJ _ _));refine' S2 ?a ?_ ?_ ?b;(case a=>exact ixD hr.units);(case b=>exact λ_ _=>rfl)) | ((with_reducible show LE _ (.Call (.Name "abs" _) _ _ _) _);refine' rY ?a ?b ?c ?_;(case a=>exact X4);(case b=>exact B.abs);(case c=>exact YA)) | ((with_reducible show LE _ (.IfExp _ _ _ _) _);refine' MG ?_ ?_ ?_) | ((with_reducible show LE _ (.Call (.Name "sorted" _) _ _ _) _);refine' rY ?a ?b ?c ?_;(case a=>exact JL hr.units);(case b=>exact B.sorted);(case c=>exact qO)) | ((with_reducible show LE _ _ (i3 _));refine' yV ?a ?b ?c ?d ?_;(case a=>exact hr.units);(case b=>exact rfl);(case c=>exact B.set);(case d=>exact B.sorted)) | ((with_reducible show LE _ _ (wSl oSl _ _ _));refine' MF ?a ?_ ?_ ?_;(case a=>exact sll)) | ((with_reducible show LE _ (.Name "int" _) (wC _));refine' BU ?a ?b;(case a=>exact B.int);(case b=>exact X8)) | ((with_reducible show LE _ (.Name "bool" _) (wC _));refine' BU ?a ?b;(case a=>exact B.bool);(case b=>exact RZ)) | ((with_reducible show LE _ (.UnaryOp .Not _ _) _);refine' V8 ?_) | ((with_reducible show LE _ _ (OR _ uH _ _));refine' S3 ?a ?b ?c ?d ?_ ?_;(case a=>exact PySem.F.plainAttrs_list);(case b=>exact PySem.F.slot_list_extend);(case c=>exact PySem.F.type_list_extend);(case d=>exact D8)) | ((with_reducible show LE _ _ (DH true));exact QZ) | ((with_reducible show LE _ (.Call (.Name "len" _) _ _ _) _);refine' rY ?a ?b ?c ?_;(case a=>exact RV);(case b=>exact B.len);(case c=>exact N0)) | ((with_reducible show LE _ (.Call (.Name "max" _) _ _ _) _);refine' rY ?a ?b ?c ?_;(case a=>exact RT rfl);(case b=>exact B.max);(case c=>exact NZ)) | ((with_reducible show LE _ (.Call (.Name "min" _) _ _ _) _);refine' rY ?a ?b ?c ?_;(case a=>exact RQ rfl);(case b=>exact B.min);(case c=>exact NY)) | ((with_reducible show LE _ (.Call (.Name "all" _) _ _ _) _);refine' rY ?a ?b ?c ?_;(case a=>exact X3 rfl);(case b=>exact B.all);(case c=>exact X9)) | ((with_reducible show LE _ (.Call (.Name _ _) _ _ _) (aE _ _));refine' aAy ?a ?b ?_;(case a=>assumption);(case b=>exact hr)) | ((with_reducible show LE _ (.Name _ _) (wC _));refine' aAw ?a;(case a=>assumption))) | ((with_reducible show LO _ _ _);first | ((with_reducible show LO _ none _);exact QU) | ((with_reducible show LO _ (some _) _);refine' QT ?_)) | ((with_reducible show LA _ _ _);first | ((with_reducible show LA _ (_::_) _);refine' aEg ?_ ?_) | ((with_reducible show LA _ [] _);exact WK)) | ((with_reducible show LS _ _ _);first | ((with_reducible show LS _ (.Assign [.Name _ _] (.ListComp _ _ _ _) _) _);refine' IJ _ _ ?a ?b ?r ?s ?n ?_ ?g ?u ?v;(case a=>decide+kernel);(case b=>decide+kernel);(case r=>walk_at "t");(case s=>walk_at "t");(case n=>assumption);(case g=>intro _ _ _ _ _ _;repeat' walk_at "g");(case u=>intro _ _ _ _ _;repeat' walk_at "g");(case v=>intro _ _ _ _ _;repeat' walk_at "g")) | ((with_reducible show LS _ (.Return (some _) _) _);refine' VW ?_) | ((with_reducible show LS _ (.If _ _ _ _) _);refine' aAo ?_ ?_ ?_) | ((with_reducible show LS _ (.For _ _ _ _ _) _);refine' VZ ?a ?b ?_ ?_ ?r ?_;(case a=>exact PassesOwn.never);(case b=>exact rfl);(case r=>walk_at "t")) | ((with_reducible show LS _ (.Expr _ _) _);refine' aEa ?_) | ((with_reducible show LS _ (.AugAssign _ _ _ _) _);refine' V0 _ ?a ?b ?_;(case a=>assumption);(case b=>exact QD)) | ((with_reducible show LS _ (.While _ _ _ _) _);refine' MB ?a ?_ ?_;(case a=>exact PassesOwn.never)) | ((with_reducible show LS _ (.Assign [.Subscript _ (.Tuple _ _ _) _] _ _) _);refine' QQ ?a ?_ ?_ ?_;(case a=>exact hr.units)) | ((with_reducible show LS _ (.Assign [.Name _ _] _ _) _);refine' aE9 _ ?_ ?_) | ((with_reducible show LS _ (.Assign [.Subscript _ _ _] _ _) _);refine' QP ?_ ?_ ?_) | ((with_reducible show LS _ (.Assign [.Subscript _ _ _] _ _) _);refine' QR ?a ?_ ?_ ?_;(case a=>exact hr.units)) | ((with_reducible show LS _ (.Assign [.Tuple _ _ _] _ _) _);refine' V1 ?_ ?_ ?r;(case r=>walk_at "t"))) | ((with_reducible show jW _ _ _);first | ((with_reducible show jW _ [_] _);refine' VX ?_) | ((with_reducible show jW _ [] _);exact VY) | ((with_reducible show jW _ (_::_) _);refine' yQ ?_ ?_)) | ((with_reducible show List.Nodup _);assumption) | ((with_reducible show LI _ _ _ _);first | ((with_reducible show LI _ _ _ (n4 _));refine' IM ?a ?b ?_;(case a=>exact rfl);(case b=>exact B.range)) | ((with_reducible show LI _ _ _ (AO _));refine' IL ?a ?b ?_;(case a=>exact rfl);(case b=>exact B.range)) | ((with_reducible show LI _ _ _ (AN _));refine' QW ?a ?b ?_;(case a=>exact rfl);(case b=>exact B.zip)) | ((with_reducible show LI _ _ _ (KC _));refine' V3 ?_) | ((with_reducible show LI _ _ _ (cO _));refine' V2 ?_)) | ((with_reducible show PG _ _ _);first | ((with_reducible show PG _ (.Name _ _) _);exact OV _ (by assumption)) | ((with_reducible show PG _ (.Tuple _ _ _) _);refine' UU rfl ?_)) | ((with_reducible show YH _ _ _);first | ((with_reducible show YH _ (_::_) _);refine' LF ?_ ?_) | ((with_reducible show YH _ [] _);exact PV)) | ((with_reducible show dP _ _ _);first | ((with_reducible show dP _ _ (bI _ gC));exact VI) | ((with_reducible show dP _ _ (bI _ jT));exact VG) | ((with_reducible show dP _ _ (bI _ l9));exact VE) | ((with_reducible show dP _ _ (bI _ oEq));exact aAi hr.units) | ((with_reducible show dP _ _ (bI _ OB));exact aAg hr.units) | ((with_reducible show dP _ _ (bI _ JX));exact aAc hr.units) | ((with_reducible show dP _ _ (bI _ oMod));exact VH) | ((with_reducible show dP _ _ (bI _ oLt));exact aAd hr.units) | ((with_reducible show dP _ _ (bI _ LQ));exact VF) | ((with_reducible show dP _ _ (bI _ oIn));exact aAf hr.units) | ((with_reducible show dP _ _ (bI _ GF));exact QE) | ((with_reducible show dP _ _ (bI _ oLe));exact aAe hr.units) | ((with_reducible show dP _ _ (bI _ oGe));exact aAh hr.units) | ((with_reducible show dP _ _ (bI _ yK));exact ID hr.units)) | ((with_reducible show LT _ _ _);first | ((with_reducible show LT _ (.Compare _ [_] [_] _) _);refine' L9 ?_ ?_ ?_ ?a;(case a=>exact aAk _)) | ((with_reducible show LT _ (.BoolOp .And _ _) _);refine' LW.lt (L7 ?_ ?_)) | ((with_reducible show LT _ (.BoolOp .Or _ _) _);refine' LW.lt (aAn ?_ ?_)) | ((with_reducible show LT _ (.UnaryOp .Not _ _) _);refine' VT ?_) | ((with_reducible show LT _ (.Compare _ [_] [_] _) _);refine' L9 ?_ ?_ ?_ ?a;(case a=>rfl)) | ((with_reducible show LT _ _ _);refine' L8 ?_)) | ((with_reducible show SH _ _ _);first | ((with_reducible show SH _ [] _);exact QO) | ((with_reducible show SH _ [_] _);refine' QN ?_)) | ((with_reducible show YU _ _ _);exact TR) | ((with_reducible show LW _ _ _);first | ((with_reducible show LW _ (.BoolOp .And [_] _) _);refine' QM ?_) | ((with_reducible show LW _ (.BoolOp .Or [_] _) _);refine' VS ?_) | ((with_reducible show LW _ (.BoolOp .And _ _) _);refine' L7 ?_ ?_)))
set_option hygiene true
section
variable {P:Program}{w:World}{K:aHw}{mg:aHz}{base:Heap}{k:Nat}
abbrev iN:Stmt:=top 1
theorem wJ:aT ["edges"] ["edges"] (aC iN):=⟨rfl,rfl,rfl,by decide+kernel,rfl,by decide+kernel,by decide+kernel⟩
theorem MN(B:Bl mg):vH P w K mg base k "paired" ["edges"] iN (LR.nV):=by
 intro f cdv A outer s H E hr;have nd:=wJ.nd;show jW _ (_::_) _
 repeat' walk_at "g"
abbrev d7:Stmt:=top 5
theorem oF:aT ["one","other","kept","steps","row","worth","x0","x1","edges","count","x","ahead"] ["one","other","kept"] (aC d7):=⟨rfl,rfl,rfl,by decide+kernel,rfl,by decide+kernel,by decide+kernel⟩
theorem BW(B:Bl mg){s0:OA}(CJ:Fn P w K mg base k "paired" ["edges"] s0)(jA:rS K mg "IN_OTHER" (.int 2))(pR:rS K mg "IN_ONE" (.int 1)):vH P w K mg base k "row_mixed" ["one","other","kept","steps","row","worth","x0","x1","edges","count","x","ahead"] d7 (LR.gP s0):=by
 intro f cdv A outer s H E hr;have nd:=oF.nd;show jW _ (_::_) _
 repeat' walk_at "g"
abbrev fA:Stmt:=top 6
theorem qW:aT ["row"] ["row"] (aC fA):=⟨rfl,rfl,rfl,by decide+kernel,rfl,by decide+kernel,by decide+kernel⟩
theorem EG(B:Bl mg):vH P w K mg base k "row_long" ["row"] fA (LR.iW):=by
 intro f cdv A outer s H E hr;have nd:=qW.nd;show jW _ (_::_) _
 repeat' walk_at "g"
abbrev oB:Stmt:=top 7
theorem F5:aT ["region"] ["region"] (aC oB):=⟨rfl,rfl,rfl,by decide+kernel,rfl,by decide+kernel,by decide+kernel⟩
def xX(s0:OA):WS:=(cT (aE N3 (aA (vL ["y0","y1","row"] [] (cO (aB 0)) (gT 3 (aQ (gN 0) (aQ (gN 1) (aQ (gN 2) eL)))) iA (aV jT (aV l9 (aB 1) (aB 0)) (aE s0 (aA (aB 2) aF)))) aF)))
theorem WL(B:Bl mg){s0:OA}(i7:Fn P w K mg base k "row_long" ["row"] s0):vH P w K mg base k "area" ["region"] oB (xX s0):=by
 intro f cdv A outer s H E hr;have nd:=F5.nd;show jW _ (_::_) _
 repeat' walk_at "g"
abbrev tN:Stmt:=top 8
theorem KR:aT ["region","sides","last_row","last_end","y0","y1","row"] ["region"] (aC tN):=⟨rfl,rfl,rfl,by decide+kernel,rfl,by decide+kernel,by decide+kernel⟩
def sP(s0 s1:OA):WS:=(bT (aB 5) (gN 3))
def sQ(s0 s1:OA):WS:=(bB (bT (aB 6) (gN 2)) (sP s0 s1))
def sR(s0 s1:OA):WS:=(bB (KD 1 (aV jT (aV jT (wC (.int 2)) (aE eT (aA (aB 6) aF))) (aV l9 (aB 5) (aB 4))) mV) (sQ s0 s1))
def f7(s0 s1:OA):WS:=(bB (KD 1 (aE s0 (aA (aE s1 (aA (aB 2) (aA (aB 6) (aA (d5 (aA (wC (.int 1)) (aA (wC (.int 2)) aF))) aF)))) aF)) mV) (sR s0 s1))
def AL(s0 s1:OA):WS:=(bB (iB (dW (aV JX (aB 4) (aB 3))) (bB (KD 1 (aE s0 (aA (aB 2) aF)) mV) (bT (d5 aF) (gN 2))) d6) (f7 s0 s1))
def xW(s0 s1:OA):WS:=(cT (aV gC (aB 1) (aE s0 (aA (aB 2) aF))))
def FN(s0 s1:OA):WS:=(bB (l7 (cO (aB 0)) (gT 3 (aQ (gN 4) (aQ (gN 5) (aQ (gN 6) eL)))) (AL s0 s1)) (xW s0 s1))
def FO(s0 s1:OA):WS:=(bB (bT (wC (.int 0)) (gN 3)) (FN s0 s1))
def FP(s0 s1:OA):WS:=(bB (bT (d5 aF) (gN 2)) (FO s0 s1))
def FQ(s0 s1:OA):WS:=(bB (bT (wC (.int 0)) (gN 1)) (FP s0 s1))
theorem aB1(B:Bl mg){s0:OA}(i7:Fn P w K mg base k "row_long" ["row"] s0){s1:OA}(rJ:Fn P w K mg base k "row_mixed" ["one","other","kept"] s1)(jA:rS K mg "IN_OTHER" (.int 2))(pR:rS K mg "IN_ONE" (.int 1)):vH P w K mg base k "rim" ["region","sides","last_row","last_end","y0","y1","row"] tN (FQ s0 s1):=by
 intro f cdv A outer s H E hr;have nd:=KR.nd;show jW _ (_::_) _
 repeat' walk_at "g"
abbrev fC:Stmt:=top 10
theorem qY:aT ["_law_script","_law_at","_law_cell","_law_mix","_law_k"] ["_law_script","_law_at"] (aC fC):=⟨rfl,rfl,rfl,by decide+kernel,rfl,by decide+kernel,by decide+kernel⟩
def mR:WS:=(bT (aV oMod (aV LQ (aV gC (aV gC (aV jT (aB 3) (wC (.int 48271))) (aV oMod (aV fE (aB 0) (aB 4)) (wC (.int 2147483647)))) (aV jT (aB 4) (aB 4))) (wC (.int 5))) (wC (.int 2147483629))) (gN 3))
def nX:WS:=(cT (sY (aA (aB 2) (aA (aB 3) aF))))
def iY:WS:=(bB (iB (dW (aV oLt (aB 2) (aV LQ (wC (.int 10)) (wC (.int 18))))) (bT (wC (.int 0)) (gN 2)) d6) (nX))
def nY:WS:=(bB (l7 (n4 (aA (aE xR (aA (aE eT (aA (aB 0) aF)) (aA (wC (.int 60)) aF))) aF)) (gN 4) (mR)) (iY))
def iZ:WS:=(bB (bT (aV gC (aV gC (aV jT (aV jT (wC (.int 7919)) (aB 1)) (aB 1)) (aV jT (wC (.int 104729)) (aB 1))) (wC (.int 17))) (gN 3)) (nY))
def nZ:WS:=(bB (iB (dW (aV oLt (aB 1) (aE eT (aA (aB 0) aF)))) (bT (aE SD (aA (aV fE (aB 0) (aB 1)) aF)) (gN 2)) d6) (iZ))
def i0:WS:=(bB (bT (wC (.int 0)) (gN 2)) (nZ))
theorem EI(B:Bl mg):vH P w K mg base k "_law_bag" ["_law_script","_law_at","_law_cell","_law_mix","_law_k"] fC (i0):=by
 intro f cdv A outer s H E hr;have nd:=qY.nd;show jW _ (_::_) _
 repeat' walk_at "g"
abbrev d8:Stmt:=top 11
theorem oG:aT ["_law_bag_here","_law_many","_law_digit","_law_number_here","_law_room"] ["_law_bag_here","_law_many"] (aC d8):=⟨rfl,rfl,rfl,by decide+kernel,rfl,by decide+kernel,by decide+kernel⟩
def iH:WS:=(bT (aV jT (aB 4) (wC (.int 1073741789))) (gN 4))
def iI:WS:=(bB (bT (aV gC (aV jT (aB 3) (wC (.int 1073741789))) (aV oMod (aV jT (aV GF (aV fE (aB 0) (wC (.int 1))) (wC (.int 8))) (wC (.int 69621))) (wC (.int 1073741789)))) (gN 3)) (iH))
def jY:WS:=(bB (v7 (aV oMod (aV LQ (aV gC (aV jT (aV fE (aB 0) (wC (.int 1))) (wC (.int 48271))) (wC (.int 7919))) (wC (.int 3))) (wC (.int 2147483629))) (aB 0) (wC (.int 1))) (iI))
def hX:WS:=(cT (aV oMod (aB 3) (aB 1)))
def mJ:WS:=(bB (DG (dW (aV oLt (aB 4) (aB 1))) (jY)) (hX))
def mK:WS:=(bB (bT (wC (.int 1)) (gN 4)) (mJ))
def mL:WS:=(bB (bT (wC (.int 0)) (gN 3)) (mK))
def gQ:WS:=(bB (iB (dW (aV OB (aV fE (aB 0) (wC (.int 0))) (wC (.int 0)))) (bB (bT (aV oMod (aV fE (aB 0) (wC (.int 0))) (aB 1)) (gN 2)) (bB (v7 (aV GF (aV fE (aB 0) (wC (.int 0))) (aB 1)) (aB 0) (wC (.int 0))) (cT (aB 2)))) d6) (mL))
theorem BX(B:Bl mg):vH P w K mg base k "_law_take" ["_law_bag_here","_law_many","_law_digit","_law_number_here","_law_room"] d8 (gQ):=by
 intro f cdv A outer s H E hr;have nd:=oG.nd;show jW _ (_::_) _
 repeat' walk_at "g"
abbrev cV:Stmt:=top 12
theorem kN:aT ["_law_bag_here","_law_sort","_law_some"] ["_law_bag_here","_law_sort","_law_some"] (aC cV):=⟨rfl,rfl,rfl,by decide+kernel,rfl,by decide+kernel,by decide+kernel⟩
theorem vP(B:Bl mg){s0:OA}(hJ:Fn P w K mg base k "_law_take" ["_law_bag_here","_law_many"] s0):vH P w K mg base k "_law_number" ["_law_bag_here","_law_sort","_law_some"] cV (LR.eX s0):=by
 intro f cdv A outer s H E hr;have nd:=kN.nd;show jW _ (_::_) _
 repeat' walk_at "g"
abbrev d9:Stmt:=top 13
theorem oH:aT ["_law_bag_here","_law_sort","_law_some","_law_one","_law_other"] ["_law_bag_here","_law_sort","_law_some"] (aC d9):=⟨rfl,rfl,rfl,by decide+kernel,rfl,by decide+kernel,by decide+kernel⟩
theorem BY(B:Bl mg){s0:OA}(mZ:Fn P w K mg base k "_law_number" ["_law_bag_here","_law_sort","_law_some"] s0):vH P w K mg base k "_law_side" ["_law_bag_here","_law_sort","_law_some","_law_one","_law_other"] d9 (LR.gR s0):=by
 intro f cdv A outer s H E hr;have nd:=oH.nd;show jW _ (_::_) _
 repeat' walk_at "g"
abbrev dC:Stmt:=top 14
theorem mT:aT ["_law_bag_here","_law_most","_law_sort","_law_many","_law_some","_law_found","_law_k","_law_left","_law_right","_law_low","_law_high"] ["_law_bag_here","_law_most"] (aC dC):=⟨rfl,rfl,rfl,by decide+kernel,rfl,by decide+kernel,by decide+kernel⟩
theorem yX(B:Bl mg){s0:OA}(hJ:Fn P w K mg base k "_law_take" ["_law_bag_here","_law_many"] s0){s1:OA}(rK:Fn P w K mg base k "_law_side" ["_law_bag_here","_law_sort","_law_some"] s1):vH P w K mg base k "_law_rects" ["_law_bag_here","_law_most","_law_sort","_law_many","_law_some","_law_found","_law_k","_law_left","_law_right","_law_low","_law_high"] dC (LR.fP s0 s1):=by
 intro f cdv A outer s H E hr;have nd:=mT.nd;show jW _ (_::_) _
 repeat' walk_at "g"
abbrev eB:Stmt:=top 15
theorem oJ:aT ["_law_shreds","_law_found","_law_start","_law_end"] ["_law_shreds"] (aC eB):=⟨rfl,rfl,rfl,by decide+kernel,rfl,by decide+kernel,by decide+kernel⟩
theorem B0(B:Bl mg):vH P w K mg base k "_law_line" ["_law_shreds","_law_found","_law_start","_law_end"] eB (LR.gV):=by
 intro f cdv A outer s H E hr;have nd:=oJ.nd;show jW _ (_::_) _
 repeat' walk_at "g"
abbrev cU:Stmt:=top 16
theorem kM:aT ["_law_rects_here","_law_ys","_law_found","_law_low","_law_high","_law_line_here"] ["_law_rects_here"] (aC cU):=⟨rfl,rfl,rfl,by decide+kernel,rfl,by decide+kernel,by decide+kernel⟩
theorem vO(B:Bl mg){s0:OA}(rL:Fn P w K mg base k "_law_line" ["_law_shreds"] s0):vH P w K mg base k "_law_region" ["_law_rects_here","_law_ys","_law_found","_law_low","_law_high","_law_line_here"] cU (LR.eW s0):=by
 intro f cdv A outer s H E hr;have nd:=kM.nd;show jW _ (_::_) _
 repeat' walk_at "g"
abbrev eA:Stmt:=top 17
theorem oI:aT ["_law_found","_law_due"] ["_law_found","_law_due"] (aC eA):=⟨rfl,rfl,rfl,by decide+kernel,rfl,by decide+kernel,by decide+kernel⟩
theorem BZ(B:Bl mg){s0:OA}(hU:Fn P w K mg base k "_law_same" ["_law_found","_law_due"] s0):vH P w K mg base k "_law_same" ["_law_found","_law_due"] eA (LS.cS s0):=by
 intro f cdv A outer s H E hr;have nd:=oI.nd;show jW _ (_::_) _
 repeat' walk_at "g"
abbrev dD:Stmt:=top 18
theorem mU:aT ["_law_some","_law_found","_law_low","_law_high","_law_line_here"] ["_law_some"] (aC dD):=⟨rfl,rfl,rfl,by decide+kernel,rfl,by decide+kernel,by decide+kernel⟩
theorem yY(B:Bl mg):vH P w K mg base k "_law_lined" ["_law_some","_law_found","_law_low","_law_high","_law_line_here"] dD (LS.fQ):=by
 intro f cdv A outer s H E hr;have nd:=mU.nd;show jW _ (_::_) _
 repeat' walk_at "g"
abbrev eC:Stmt:=top 19
theorem oK:aT ["_law_some"] ["_law_some"] (aC eC):=⟨rfl,rfl,rfl,by decide+kernel,rfl,by decide+kernel,by decide+kernel⟩
def gX(s0:OA):WS:=(cT (aE N3 (aA (vL ["_law_rect"] [] (cO (aE s0 (aA (aB 0) aF))) (gN 0) iA (aV jT (aV l9 (aV fE (aB 0) (wC (.int 2))) (aV fE (aB 0) (wC (.int 0)))) (aV l9 (aV fE (aB 0) (wC (.int 3))) (aV fE (aB 0) (wC (.int 1)))))) aF)))
theorem B2(B:Bl mg){s0:OA}(pL:Fn P w K mg base k "_law_lined" ["_law_some"] s0):vH P w K mg base k "_law_area" ["_law_some"] eC (gX s0):=by
 intro f cdv A outer s H E hr;have nd:=oK.nd;show jW _ (_::_) _
 repeat' walk_at "g"
abbrev dB:Stmt:=top 20
theorem mS:aT ["_law_some"] ["_law_some"] (aC dB):=⟨rfl,rfl,rfl,by decide+kernel,rfl,by decide+kernel,by decide+kernel⟩
def fO:WS:=(cT (aE N3 (aA (vL ["_law_low","_law_high","_law_line_here"] [] (cO (aB 0)) (gT 3 (aQ (gN 0) (aQ (gN 1) (aQ (gN 2) eL)))) iA (aV jT (aV jT (wC (.int 2)) (aV l9 (aB 1) (aB 0))) (aE eT (aA (aB 2) aF)))) aF)))
theorem yW(B:Bl mg):vH P w K mg base k "_law_sides" ["_law_some"] dB (fO):=by
 intro f cdv A outer s H E hr;have nd:=mS.nd;show jW _ (_::_) _
 repeat' walk_at "g"
abbrev fB:Stmt:=top 21
theorem qX:aT ["_law_rects_here","_law_crossed"] ["_law_rects_here"] (aC fB):=⟨rfl,rfl,rfl,by decide+kernel,rfl,by decide+kernel,by decide+kernel⟩
def nW(s0 s1:OA):WS:=(cT (aV gC (aE s0 (aA (aE s1 (aA (aB 0) aF)) aF)) (aE s0 (aA (aE s1 (aA (aB 1) aF)) aF))))
def iX(s0 s1:OA):WS:=(bB (bT (vL ["_law_rect"] [] (cO (aB 0)) (gN 0) iA (d5 (aA (aV fE (aB 0) (wC (.int 1))) (aA (aV fE (aB 0) (wC (.int 0))) (aA (aV fE (aB 0) (wC (.int 3))) (aA (aV fE (aB 0) (wC (.int 2))) aF)))))) (gN 1)) (nW s0 s1))
theorem EH(B:Bl mg){s0:OA}(pJ:Fn P w K mg base k "_law_sides" ["_law_some"] s0){s1:OA}(e9:Fn P w K mg base k "_law_region" ["_law_rects_here"] s1):vH P w K mg base k "_law_rim" ["_law_rects_here","_law_crossed"] fB (iX s0 s1):=by
 intro f cdv A outer s H E hr;have nd:=qX.nd;show jW _ (_::_) _
 repeat' walk_at "g"
abbrev cI:Stmt:=top 22
theorem jM:aT ["_law_rects_here","_law_places","_law_rect","_law_x","_law_y","_law_found"] ["_law_rects_here"] (aC cI):=⟨rfl,rfl,rfl,by decide+kernel,rfl,by decide+kernel,by decide+kernel⟩
def dX:WS:=(KA (wC (.bl true)) (aB 1) (aA (aB 3) (aA (aB 4) aF)))
def dY:WS:=(l7 (AO (aA (aV fE (aB 2) (wC (.int 1))) (aA (aV fE (aB 2) (wC (.int 3))) aF))) (gN 4) (dX))
def dZ:WS:=(l7 (AO (aA (aV fE (aB 2) (wC (.int 0))) (aA (aV fE (aB 2) (wC (.int 2))) aF))) (gN 3) (dY))
def gW:WS:=(bT (aV gC (aB 5) (aE eT (aA (vL ["_law_one"] [1] (cO (sY (aA (d5 (aA (aV gC (aB 3) (wC (.int 1))) (aA (aB 4) aF))) (aA (d5 (aA (aV l9 (aB 3) (wC (.int 1))) (aA (aB 4) aF))) (aA (d5 (aA (aB 3) (aA (aV gC (aB 4) (wC (.int 1))) aF))) (aA (d5 (aA (aB 3) (aA (aV l9 (aB 4) (wC (.int 1))) aF))) aF)))))) (gN 0) (dW (aV yK (aB 0) (aB 1))) (aB 0)) aF))) (gN 5))
def iJ:WS:=(cT (d5 (aA (aE TC (aA (aB 1) aF)) (aA (aB 5) aF))))
def iK:WS:=(bB (l7 (KC (aB 1)) (gT 2 (aQ (gN 3) (aQ (gN 4) eL))) (gW)) (iJ))
def iL:WS:=(bB (bT (wC (.int 0)) (gN 5)) (iK))
def iM:WS:=(bB (l7 (cO (aB 0)) (gN 2) (dZ)) (iL))
def d4:WS:=(bB (bT (DH true) (gN 1)) (iM))
theorem uK(B:Bl mg):vH P w K mg base k "_law_counted" ["_law_rects_here","_law_places","_law_rect","_law_x","_law_y","_law_found"] cI (d4):=by
 intro f cdv A outer s H E hr;have nd:=jM.nd;show jW _ (_::_) _
 repeat' walk_at "g"
abbrev cA:Stmt:=top 23
theorem iP:aT ["_law_rects_here"] ["_law_rects_here"] (aC cA):=⟨rfl,rfl,rfl,by decide+kernel,rfl,by decide+kernel,by decide+kernel⟩
def dG:WS:=(cT (aE aBs (aA (vL ["_law_rect"] [] (cO (aB 0)) (gN 0) iA (sZ (aV oLt (aE TB (aA (aB 0) aF)) (wC (.int 9))) (aV OB (aE S9 (aA (aB 0) aF)) (HH qB (wC (.int 9)))))) aF)))
theorem rZ(B:Bl mg):vH P w K mg base k "_law_is_small" ["_law_rects_here"] cA (dG):=by
 intro f cdv A outer s H E hr;have nd:=iP.nd;show jW _ (_::_) _
 repeat' walk_at "g"
abbrev tO:Stmt:=top 24
theorem KS:aT ["_law_script","_law_at","_law_bag_here","_law_rects_here","_law_some","_law_due"] ["_law_script"] (aC tO):=⟨rfl,rfl,rfl,by decide+kernel,rfl,by decide+kernel,by decide+kernel⟩
def sT(s0 s1 s2 s3 s4 s5 s6 s7 s8 s9:OA):WS:=(iB (tB (xY (aE s8 (aA (aB 3) aF))) (dW (aV JX (d5 (aA (aE s7 (aA (aB 4) aF)) (aA (aE s6 (aA (aB 4) aF)) aF))) (aE s9 (aA (aB 3) aF))))) (cT (wC (.bl false))) d6)
def sU(s0 s1 s2 s3 s4 s5 s6 s7 s8 s9:OA):WS:=(bB (iB (AQ (xY (aE s5 (aA (d5 (aA (aE s7 (aA (aB 4) aF)) (aA (aE s6 (aA (aB 4) aF)) aF))) (aA (aB 5) aF))))) (cT (wC (.bl false))) d6) (sT s0 s1 s2 s3 s4 s5 s6 s7 s8 s9))
def sV(s0 s1 s2 s3 s4 s5 s6 s7 s8 s9:OA):WS:=(bB (bT (d5 (aA (aE s4 (aA (aB 4) aF)) (aA (aE s3 (aA (aB 3) aF)) aF))) (gN 5)) (sU s0 s1 s2 s3 s4 s5 s6 s7 s8 s9))
def m7(s0 s1 s2 s3 s4 s5 s6 s7 s8 s9:OA):WS:=(bB (bT (aE s2 (aA (aB 3) aF)) (gN 4)) (sV s0 s1 s2 s3 s4 s5 s6 s7 s8 s9))
def sW(s0 s1 s2 s3 s4 s5 s6 s7 s8 s9:OA):WS:=(bB (bT (aE s1 (aA (aB 2) (aA (wC (.int 60)) aF))) (gN 3)) (m7 s0 s1 s2 s3 s4 s5 s6 s7 s8 s9))
def AM(s0 s1 s2 s3 s4 s5 s6 s7 s8 s9:OA):WS:=(bB (bT (aE s0 (aA (aB 0) (aA (aB 1) aF))) (gN 2)) (sW s0 s1 s2 s3 s4 s5 s6 s7 s8 s9))
def FR(s0 s1 s2 s3 s4 s5 s6 s7 s8 s9:OA):WS:=(cT (wC (.bl true)))
def FT(s0 s1 s2 s3 s4 s5 s6 s7 s8 s9:OA):WS:=(bB (l7 (n4 (aA (aE C9 (aA (wC (.int 1)) (aA (aE xR (aA (wC (.int 5)) (aA (aE eT (aA (aB 0) aF)) aF))) aF))) aF)) (gN 1) (AM s0 s1 s2 s3 s4 s5 s6 s7 s8 s9)) (FR s0 s1 s2 s3 s4 s5 s6 s7 s8 s9))
theorem aB2(B:Bl mg){s0:OA}(uU:Fn P w K mg base k "_law_bag" ["_law_script","_law_at"] s0){s1:OA}(pK:Fn P w K mg base k "_law_rects" ["_law_bag_here","_law_most"] s1){s2:OA}(e9:Fn P w K mg base k "_law_region" ["_law_rects_here"] s2){s3:OA}(uT:Fn P w K mg base k "_law_rim" ["_law_rects_here"] s3){s4:OA}(rM:Fn P w K mg base k "_law_area" ["_law_some"] s4){s5:OA}(hU:Fn P w K mg base k "_law_same" ["_law_found","_law_due"] s5){s6:OA}(S6:Fn P w K mg base k "rim" ["region"] s6){s7:OA}(NI:Fn P w K mg base k "area" ["region"] s7){s8:OA}(jN:Fn P w K mg base k "_law_is_small" ["_law_rects_here"] s8){s9:OA}(lD:Fn P w K mg base k "_law_counted" ["_law_rects_here"] s9):vH P w K mg base k "law" ["_law_script","_law_at","_law_bag_here","_law_rects_here","_law_some","_law_due"] tO (FT s0 s1 s2 s3 s4 s5 s6 s7 s8 s9):=by
 intro f cdv A outer s H E hr;have nd:=KS.nd;show jW _ (_::_) _
 repeat' walk_at "g"
end
theorem aB4:EL 2 0=some 0:=by decide
theorem aB3:EL 2 1=some 1:=by decide
theorem mC(d e:D)(ds:List D):nO (d::e::ds) 1=some e:=by
 have:=hV (xs:=d::e::ds) (j:=1) (v:=e) rfl;simpa using this
theorem rP{i j:Int}(h1: -18446744073709551616<j)(h2:j<18446744073709551616):JW i j:= .inr ⟨h1,h2⟩
theorem u9{i j:Int}(h1: -18446744073709551616<i)(h2:i<18446744073709551616):JW i j:= .inl ⟨h1,h2⟩
theorem XZ{i:Int}{j:Int}(h0:0<=j)(h1:j<=1000000)(h2: -18446744073709551616<i)(h3:i<18446744073709551616):YI i j:=⟨h0,h1,by lia⟩
abbrev En(mh:MH)(R:DK):eJ:={nx:=λ_ mh1=>Out mh.length .b7 mh1 R,rt:=λd mh1=>Out mh.length d mh1 R}
theorem W9(ds:List D)(mh:MH)(R:DK)(ok:jQ mh)(hs:qZ ds mh R):gQ (En mh R) (aH ["_law_bag_here","_law_many","_law_digit","_law_number_here","_law_room"] ds) mh:=by
 obtain⟨b,many,rfl,h1,h2,⟨c,m,hb,hc,hm0,hm1⟩,q⟩:=hs;have hbl:b<mh.length:=(aF6.mp hb).1
 have fin:∀(r c' m' :Int),0<=r->r<many->0<=c' ->0<=m' ->m'<2147483629->Out mh.length (.int r) (mh.set b (.lst [.int c',.int m'])) R:=λr c' m' a1 a2 a3 a4 a5=>
  cW (q r _ a1 a2 ⟨⟨c',m',by simp[hbl],a3,a4,a5⟩,_,rfl⟩)
 simp[gQ,mL,mK,mJ,aH,gY hb,yA hb,aB4];by_cases h0:0<c
 ·rw[if_pos h0];exact⟨by lia,⟨by lia,by lia⟩,fin _ _ _ (aHs _ (by lia)) (aHd _ (by lia)) (Int.ediv_nonneg (by lia) (by lia)) hm0 hm1⟩
 ·rw[if_neg h0];refine DF 2 ?_;by_cases hmany:1<many
  ·have b0:0<=(m*48271+7919)^3 % 2147483629:=aHs _ (by lia);have b1:(m*48271+7919)^3 % 2147483629<2147483629:=aHd _ (by lia);simp[m6,jY,iI,iH,hX,hmany,gY hb,yA hb,aB3,mC];refine⟨rP (by lia) (by lia),XZ (by lia) (by lia) (by lia) (by lia),?_⟩;have hb2:(mh.set b (.lst [.int c,.int ((m*48271+7919)^3 % 2147483629)]))[b]? =some (.lst [.int c,.int ((m*48271+7919)^3 % 2147483629)]):=by simp[hbl]
   simp only[gY hb2,mC,bW,KW,K0];refine⟨rP (by lia) (by lia),⟨by lia,by lia⟩,rP (by lia) (by lia),by lia,rP (by lia) (by lia),?_⟩;simp;rw[if_neg (by lia)];exact⟨by lia,fin _ _ _ (aHs _ (by lia)) (aHd _ (by lia)) hc b0 b1⟩
  ·simp[m6,hmany,hX];have e:many=1:=by lia
   subst e;refine⟨by lia,?_⟩
   have e2:mh.set b (.lst [.int c,.int m])=mh:=by
    apply List.ext_getElem?;intro i;by_cases hi:i=b
    ·subst hi;rw[List.getElem?_set_self hbl,hb]
    ·rw[List.getElem?_set_ne (Ne.symm hi)]
   have:=fin 0 c m (by lia) (by lia) hc hm0 hm1;rw[e2]at this;exact this
theorem C6{ns:List Int}{i:Int}(h0:0<=i)(h1:i<ns.length):∃v,nO (ns.map D.int) i=some (.int v):=by
 refine⟨ns[i.toNat]'(by lia),?_⟩;have e:i=((i.toNat:Nat):Int):=by lia
 have:=hV (xs:=ns.map D.int) (j:=i.toNat) (v:= .int (ns[i.toNat]'(by lia))) (by rw[List.getElem?_map,List.getElem?_eq_getElem (by lia)];rfl);rw[<-e]at this;exact this
theorem XJ{mh:MH}{R:DK}{ns:List Int}{a c m:Int}{k:Option D}(q:∀mh',(∃o,mh' =mh++[o])->xT mh' mh.length->R (.ref mh.length) mh')(h1:0<=c)(h2:0<=m)(h3:m<2147483629):
  iY (En mh R) [some (.fl (ns.map .int)),some (.int a),some (.int c),some (.int m),k] mh:=by
 have fin:∀c,0<=c->Out mh.length (.ref mh.length) (mh++[.lst [.int c,.int m]]) R:=λc hc=>cW (q _ ⟨_,rfl⟩ ⟨c,m,by simp,hc,h2,h3⟩);simp[iY,nX];refine⟨XZ (by lia) (by lia) (by lia) (by lia),?_⟩;split
 ·exact⟨by rw[sizeLine_eq];lia,fin 0 (by lia)⟩
 ·exact⟨by rw[sizeLine_eq];lia,fin c h1⟩
theorem M9{mh:MH}{R:DK}{ns:List Int}{a c:Int}(hl:ns.length<=63)(ha0:0<=a)(ha1:a<=100)(q:∀mh',(∃o,mh' =mh++[o])->xT mh' mh.length->R (.ref mh.length) mh')(h1:0<=c):
  iZ (En mh R) [some (.fl (ns.map .int)),some (.int a),some (.int c),none,none] mh:=by
 have sq1:7919*a*a<=79190000:=by
  have:a*a<=100*100:=Int.mul_le_mul ha1 ha1 ha0 (by lia);have e:7919*a*a=7919*(a*a):=Int.mul_assoc _ _ _
  lia
 have sq0:0<=7919*a*a:=Int.mul_nonneg (by lia) ha0;simp[iZ,nY];refine⟨u9 (by lia) (by lia),rP (by lia) (by lia),u9 (by lia) (by lia),?_,?_,?_⟩
 ·split <;> lia
 ·split <;> (rw[sizeLine_eq];lia)
 ·refine cE (λi ρ mh' =>mh' =mh/\∃m k,ρ=[some (.fl (ns.map .int)),some (.int a),some (.int c),some (.int m),k]/\0<=m/\m<2147483629) _ (λ_ _ _ _=>trivial) ?_ ?_ ⟨rfl,_,_,rfl,by lia,by lia⟩
  ·rintro i d ρ mh' N hi ⟨rfl,m,k,rfl,m0,m1⟩ nx;obtain⟨hi,rfl⟩:=oP hi
   have hil:i<ns.length:=by
    revert hi;split <;> intro hi <;> lia
   have hi60:i<60:=by
    revert hi;split <;> intro hi <;> lia
   obtain⟨v,hv⟩:=C6 (ns:=ns) (i:=0+(i:Int)) (by lia) (by lia);have v0:0<=v % 2147483647:=aHs _ (by lia);have v1:v % 2147483647<2147483647:=aHd _ (by lia);have k0:0<=(0+(i:Int))*(0+(i:Int)):=Int.mul_nonneg (by lia) (by lia);have k1:(0+(i:Int))*(0+(i:Int))<=60*60:=Int.mul_le_mul (by lia) (by lia) (by lia) (by lia);simp only[aDp,mR,ZY,aDf,s_c,ZS,List.set_cons_succ,List.set_cons_zero,List.getElem?_cons_succ,List.getElem?_cons_zero,Option.join_some,bW,KW,K0,ZV,hv];refine⟨rP (by lia) (by lia),by lia,rP (by lia) (by lia),XZ (by lia) (by lia) (by lia) (by lia),by lia,nx _ _ ⟨rfl,_,_,rfl,aHs _ (by lia),aHd _ (by lia)⟩⟩
  ·rintro ρ mh' ⟨rfl,m,k,rfl,m0,m1⟩;exact XJ q h1 m0 m1
theorem aBg(ds:List D)(mh:MH)(R:DK)(ok:jQ mh)(hs:HN ds mh R):i0 (En mh R) (aH ["_law_script","_law_at","_law_cell","_law_mix","_law_k"] ds) mh:=by
 obtain⟨ns,a,rfl,hl,ha0,ha1,q⟩:=hs;simp[i0,nZ,aH];split
 ·rename_i hlt;obtain⟨v,hv⟩:=C6 (ns:=ns) (i:=a) ha0 hlt;simp[hv];exact M9 hl ha0 ha1 q (by split <;> lia)
 ·exact M9 hl ha0 ha1 q (by lia)
open LR
open LS
def Bn(b:Bd):Prop:= -4000000<b.lo/\b.hi<4000000/\b.lo<b.hi
def kP:OA:=λds mh Q=>∃l:List P2,ds=[g8 l]/\l.length<=1000000/\Q (.int (cP l)) mh
theorem sJ{l:List P2}{mh:MH}{Q:DK}(hl:l.length<=1000000)(q:Q (.int (cP l)) mh):kP [g8 l] mh Q:=⟨l,rfl,hl,q⟩
theorem XG(ds:List D)(mh:MH)(R:DK)(ok:jQ mh)(hs:kP ds mh R):iW (En mh R) (aH ["row"] ds) mh:=by
 obtain⟨l,rfl,hl,q⟩:=hs;have sz:=aFn;simp[iW,aH,g8,bA];refine c6 sD (λt:P2=>t.2-t.1) D.int l (by simp) (λt _ N hN=>?_) ?_
 ·simp[fW,sD];exact hN
 ·refine⟨_,l.map λt=>t.2-t.1,rfl,kW (dM _ _),?_⟩;exact fD ok (by simp[cD]) q
def wL:OA:=λds mh Q=>∃g:List Bd,ds=[gD g]/\g.length<=1000000/\(∀b∈g,b.ln.length<=1000000/\Bn b)/\Q (.int (r9 cP g)) mh
theorem XM(ds:List D)(mh:MH)(R:DK)(ok:jQ mh)(hs:wL ds mh R):xX kP (En mh R) (aH ["region"] ds) mh:=by
 obtain⟨g,rfl,hl,hb,q⟩:=hs;have sz:=aFn;simp[xX,aH,gD,bA];refine c6 bD (λb:Bd=>(b.hi-b.lo)*cP b.ln) D.int g (by simp) (λb hbm N hN=>?_) ?_
 ·simp[fW,bD];have hbb:=(hb b hbm).2;unfold Bn at hbb;refine sJ (hb b hbm).1 ?_;simp;exact⟨u9 (by lia) (by lia),hN⟩
 ·refine⟨_,g.map λb=>(b.hi-b.lo)*cP b.ln,rfl,kW (dM _ _),?_⟩;exact fD ok (by simp[cD]) q
def tX:OA:=λds mh Q=>∃g:List Bd,ds=[gD g]/\g.length<=1000000/\(∀b∈g,Bn b)/\Q (.int (bO g)) mh
theorem RB(ds:List D)(mh:MH)(R:DK)(ok:jQ mh)(hs:tX ds mh R):fO (En mh R) (aH ["_law_some"] ds) mh:=by
 obtain⟨g,rfl,hl,hb,q⟩:=hs;have sz:=aFn;simp[fO,aH,gD,bA];refine c6 bD (λb:Bd=>2*(b.hi-b.lo)*(b.ln.length:Int)) D.int g (by simp) (λb hbm N hN=>?_) ?_
 ·simp[fW,bD,g8];have hbb:=hb b hbm;unfold Bn at hbb;exact⟨u9 (by lia) (by lia),u9 (by lia) (by lia),hN⟩
 ·refine⟨_,g.map λb=>2*(b.hi-b.lo)*(b.ln.length:Int),rfl,kW (dM _ _),?_⟩;exact fD ok (by simp[cD]) q
def p8:OA:=λds mh Q=>∃g:List Bd,ds=[gD g]/\(bL g).length<=1000000/\(∀b∈g,Bn b)/\Q (.int (r9 cP g)) mh
theorem RE(ds:List D)(mh:MH)(R:DK)(ok:jQ mh)(hs:p8 ds mh R):gX yC (En mh R) (aH ["_law_some"] ds) mh:=by
 obtain⟨g,rfl,hl,hb,q⟩:=hs;have sz:=aFn;simp[gX,aH];refine⟨g,rfl,hl,?_⟩;show got (bA (mh++[MO.lst ((bL g).map rD)]) (.ref mh.length)) _;rw[bR (dM _ _)];simp only[bW];refine c6 rD (λr:R4=>(r.x1-r.x0)*(r.y1-r.y0)) D.int (bL g) (bR (dM _ _)) (λr hr N hN=>?_) ?_
 ·simp[fW,rD,mC,C7,JQ];obtain⟨b,hbm,hr⟩:=aHa.mp hr;obtain⟨s,_,rfl⟩:=aFi.mp hr;have hbb:=hb b hbm;unfold Bn at hbb;exact⟨rP (by simp only;lia) (by simp only;lia),hN⟩
 ·refine⟨_,(bL g).map λr=>(r.x1-r.x0)*(r.y1-r.y0),rfl,kW (dM _ _),?_⟩;rw[FC];exact .inr (.inl ⟨mh,_,by rw[List.append_assoc],aF9 _,ok,by simp[cD],q⟩)
def HM:OA:=λds mh Q=>∃(g:List Bd) (A:Int) (n:Nat),ds=[gD g]/\vI g/\g.length<=1000000/\(∀b∈g,b.ln.length<=900/\HE A n b.ln/\Bn b)/\Q (.int (tZ A n g)) mh
theorem VP{a b:List P2}{mh:MH}{Q:DK}(h:2*(a.length+b.length)<3900)(q:∀l,Sep l->l.length<=2*(a.length+b.length)->(∀x,iV l x↔jU a b x∈([1,2]:List Int))->Q (g8 l) mh):yB [g8 a,g8 b,.tup [.int 1,.int 2]] mh Q:=⟨a,b,[1,2],rfl,h,by decide,q⟩
theorem A5{A:Int}{n:Nat}{l:List P2}(h:Sep l)(hi:HE A n l):cP l=aZ A n λx=>LR.b2i (aP l x):=lP h λt ht=>by have:=hi t ht;lia
theorem XC{E:eJ}{mh:MH}{R:DK}{A:Int}{n:Nat}{last:List P2}{s:Int}{b:Bd}{a0 a3:Option D}(h1:Sep last)(h2:HE A n last)(h3:last.length<=900)(h4:Sep b.ln)(h5:HE A n b.ln)(h6:b.ln.length<=900)(hb:Bn b)
  (q:E.nx [a0,some (.int (s+aZ A n (λx=>LR.b2i (aP last x !=aP b.ln x))+2*(b.ln.length:Int)*(b.hi-b.lo))),some (g8 b.ln),some (.int b.hi),some (.int b.lo),some (.int b.hi),some (g8 b.ln)] mh):
  f7 kP yB E [a0,some (.int s),some (g8 last),a3,some (.int b.lo),some (.int b.hi),some (g8 b.ln)] mh:=by
 have sz:=aFn;have hbb:=hb;unfold Bn at hbb;simp[f7];refine⟨.int s,rfl,?_⟩;simp;refine⟨by lia,VP (a:=last) (b:=b.ln) (by lia) λl hl hll hcov=>?_⟩;refine sJ (by lia) ?_;show mV (.int s) (.int (cP l)) mh _;rw[QI h1 h4 h2 h5 hl hcov];generalize aZ A n (λx=>LR.b2i (aP last x !=aP b.ln x))=z at q⊢;simp[mV,sR];refine⟨_,rfl,?_⟩;simp[g8,bA];refine⟨u9 (by lia) (by lia),u9 (by lia) (by lia),?_⟩;simp[mV,sQ,sP];exact q
theorem yQ(b:Bd)(g:List Bd):bO (b::g)=2*(b.ln.length:Int)*(b.hi-b.lo)+bO g:=by
 simp only[bO,List.map_cons,List.sum_cons];rw[Int.mul_assoc,Int.mul_comm (b.hi-b.lo),<-Int.mul_assoc]
theorem aBa(ds:List D)(mh:MH)(R:DK)(ok:jQ mh)(hs:HM ds mh R):FQ kP yB (En mh R) (aH ["region","sides","last_row","last_end","y0","y1","row"] ds) mh:=by
 obtain⟨g,A,n,rfl,can,hl,hb,q⟩:=hs;have sz:=aFn
 have hsep:∀b∈g,LR.Sep b.ln:=λb hbm=>by
  obtain⟨i,hi⟩:=aFv.mp hbm;exact can.sep b hbm
 simp[FQ,FP,FO,FN,aH,gD,bA];refine cE (λi ρ mh' =>mh' =mh/\∃(s:Int) (last:List P2) (e:Int) (a b c:Option D),ρ=[some (.tup (g.map bD)),some (.int s),some (g8 last),some (.int e),a,b,c]/\LR.Sep last/\HE A n last/\last.length<=900/\tZ A n g=s+(aZ A n λx=>CG x (aP last x) e (g.drop i))+bO (g.drop i)) _ (λ_ _ _ _=>by simp) ?_ ?_ ⟨rfl,0,[],0,_,_,_,rfl,⟨by simp,by simp⟩,by simp[HE],by simp,?_⟩
 ·rintro i d ρ mh' N hi ⟨rfl,s,last,e,a,b,c,rfl,h1,h2,h3,h4⟩ nx;obtain⟨bd,hbd,rfl⟩:=g6 hi;have hbm:=aFf hbd;obtain⟨b1,b2,b3⟩:=hb bd hbm;have hil:i<g.length:=(aF6.mp hbd).1
  have hdrop:g.drop i=bd::g.drop (i+1):=by
   rw[List.drop_eq_getElem_cons hil];congr 1;exact(aF6.mp hbd).2
  rw[hdrop,yQ]at h4;simp[bD,AL]
  have go:∀(s' :Int) (last' :List P2) (e' :Option D),LR.Sep last' ->HE A n last' ->last'.length<=900->tZ A n g=s' +aZ A n (λx=>LR.b2i (aP last' x !=aP bd.ln x))+(aZ A n λx=>CG x (aP bd.ln x) bd.hi (g.drop (i+1)))+(2*(bd.ln.length:Int)*(bd.hi-bd.lo)+bO (g.drop (i+1)))->
    f7 kP yB {nx:=N,rt:=λd mh1=>Out mh'.length d mh1 R,bk:=xW kP yB (En mh' R),ct:=N} [some (.tup (g.map bD)),some (.int s'),some (g8 last'),e',some (.int bd.lo),some (.int bd.hi),some (g8 bd.ln)] mh' :=λs' last' e' g1 g2 g3 g4=>by
   refine XC (R:=R) g1 g2 g3 (hsep bd hbm) b2 b1 b3 ?_;refine nx _ _ ⟨rfl,_,bd.ln,bd.hi,_,_,_,rfl,hsep bd hbm,b2,b1,?_⟩;rw[g4];lia
  by_cases ce:bd.lo=e
  ·rw[if_pos ce];refine go s last _ h1 h2 h3 ?_;rw[h4]
   have:(aZ A n λx=>CG x (aP last x) e (bd::g.drop (i+1)))=aZ A n (λx=>LR.b2i (aP last x !=aP bd.ln x))+aZ A n λx=>CG x (aP bd.ln x) bd.hi (g.drop (i+1)):=by
    rw[<-bV];exact aR λx _ _=>by simp only[CG];rw[if_neg (by lia)]
   rw[this];lia
  ·rw[if_neg ce];refine⟨.int s,rfl,?_⟩;simp;refine sJ (by lia) ?_;show mV (.int s) (.int (cP last)) mh' _;simp[mV];show f7 kP yB _ [some (.tup (g.map bD)),some (.int (s+cP last)),some (g8 []),some (.int e),some (.int bd.lo),some (.int bd.hi),some (g8 bd.ln)] mh';refine go _ [] _ ⟨by simp,by simp⟩ (by simp[HE]) (by simp) ?_;rw[h4,A5 h1 h2]
   have:(aZ A n λx=>CG x (aP last x) e (bd::g.drop (i+1)))=aZ A n (λx=>LR.b2i (aP last x))+aZ A n (λx=>LR.b2i (aP [] x !=aP bd.ln x))+aZ A n λx=>CG x (aP bd.ln x) bd.hi (g.drop (i+1)):=by
    rw[<-bV,<-bV];exact aR λx _ _=>by simp only[CG];rw[if_pos (by lia)];simp[aP]
   rw[this];lia
 ·rintro ρ mh' ⟨rfl,s,last,e,a,b,c,rfl,h1,h2,h3,h4⟩;simp[xW];refine sJ (by lia) ?_;simp at h4;simp;refine cW ?_;have:(aZ A n λx=>CG x (aP last x) e [])=cP last:=by rw[A5 h1 h2];rfl
  rw[this]at h4;rw[show s+cP last=tZ A n g by rw[h4];simp[bO]];exact q
 ·simp[tZ,aP];lia
def fM(r:R4):R4:=⟨r.y0,r.x0,r.y1,r.x1⟩
theorem CV{r:R4}(h:r.ok):(fM r).ok:=⟨h.2.1,h.1,h.2.2.2.1,h.2.2.1,h.2.2.2.2.2,h.2.2.2.2.1⟩
theorem dE{rs:List R4}(h:∀r∈rs,r.ok):vI (cB rs)/\∀b∈cB rs,Bn b/\b.ln.length<=rs.length/\HE (-4000000) 8000000 b.ln:=by
 have c:=(oR (rs:=rs) λr hr=>(h r hr).2.2.2.2).1;refine⟨c,λb hb=>?_⟩;obtain⟨f1,f2,f3,f4⟩:=HQ h b hb;have:=c.lt b hb;unfold rT at f1 f2;refine⟨by unfold Bn;lia,f3,λt ht=>?_⟩;have:=f4 t ht;unfold rT at this
 lia
def A4:OA:=λds mh Q=>∃n rs,ds=[.ref n]/\mh[n]? =some (.lst (rs.map rD))/\rs.length<=1000/\(∀r∈rs,r.ok)/\Q (.int (bO (cB rs)+bO (cB (rs.map fM)))) mh
theorem A1{rs:List R4}{mh:MH}{Q:DK}(hl:rs.length<=1000)(h:∀r∈rs,r.ok)(q:Q (.int (bO (cB rs))) mh):tX [gD (cB rs)] mh Q:=
 ⟨_,rfl,by have:=lQ rs;lia,λb hb=>((dE h).2 b hb).1,q⟩
theorem XF(ds:List D)(mh:MH)(R:DK)(ok:jQ mh)(hs:A4 ds mh R):iX tX gZ (En mh R) (aH ["_law_rects_here","_law_crossed"] ds) mh:=by
 obtain⟨n,rs,rfl,hn,hl,bG,q⟩:=hs;have sz:=aFn;have hok2:∀r∈rs.map fM,r.ok:=λr hr=>by obtain⟨r',h1,rfl⟩:=aFi.mp hr;exact CV (bG r' h1)
 simp[iX,aH];rw[bR hn];simp only[bW];refine c6 rD fM rD rs (bR hn) (λr _ N hN=>?_) ?_
 ·simp[fW,rD,mC,C7,JQ];exact⟨by lia,by simpa[rD,fM] using hN⟩
 ·simp[nW];refine qA (cJ hn) hl ?_;refine A1 hl bG ?_;refine qA (rs:=rs.map fM) (by rw[List.map_map];exact dM _ _) (by simpa using hl) ?_;refine A1 (by simpa using hl) hok2 ?_;simp;exact fD ok (by simp[cD]) q
def pD(p:P2):D:= .tup [.int p.1,.int p.2]
theorem LP{p q:P2}(h:pD p=pD q):p=q:=by simp[pD]at h;exact Prod.ext h.1 h.2
def TH(r:R4):Prop:= -9<r.x0/\r.x1<9/\ -9<r.y0/\r.y1<9
structure Pl(kvs:List (D×D))(P:List P2):Prop where
 key:kvs.map (·.1)=P.map pD
 nd:P.Nodup
 box:∀p∈P,(-9<p.1/\p.1<9)/\ -9<p.2/\p.2<9
theorem ndl{α:Type}[DecidableEq α]:∀(l m:List α),l.Nodup->(∀x∈l,x∈m)->l.length<=m.length
 | [],m,_,_=>by simp
 | a::l,m,nd,h=>by
  have c:=aGq.mp nd;have hm:=h a aF8;have:=ndl l (m.erase a) c.2 λx hx=>(List.mem_erase_of_ne (λz:x=a=>c.1 (by rw[<-z];exact hx))).mpr (h x (aF7 _ hx));rw[List.length_erase_of_mem hm]at this;have:=List.length_pos_of_mem hm;simp only[List.length_cons];lia
def aBq:List P2:=(List.range 18).flatMap λ(i:Nat)=>(List.range 18).map λ(j:Nat)=>((i:Int)-9,(j:Int)-9)
theorem Pl.len{kvs:List (D×D)}{P:List P2}(h:Pl kvs P):kvs.length<=324:=by
 have e:=aG8 List.length h.key
 have:=ndl P aBq h.nd λp hp=>by
  have:=h.box p hp;refine aHa.mpr ⟨(p.1+9).toNat,by simp;lia,aFi.mpr ⟨(p.2+9).toNat,by simp;lia,?_⟩⟩;apply Prod.ext <;> simp <;> lia
 have hb:aBq.length=324:=by decide
 simp at e;lia
theorem Pl.put{kvs:List (D×D)}{P:List P2}(h:Pl kvs P)(p:P2)(v:D)(hp:(-9<p.1/\p.1<9)/\ -9<p.2/\p.2<9):∃P',Pl (putD kvs (pD p) v) P' /\∀q,q∈P' ↔q∈P\/q=p:=by
 have mem:(∃x∈kvs,x.1=pD p)↔p∈P:=by
  constructor
  ·rintro⟨x,hx,e⟩;have:x.1∈kvs.map (·.1):=aGp hx;rw[h.key,e]at this;obtain⟨q,hq,e2⟩:=aFi.mp this;rw[<-LP e2];exact hq
  ·intro hm;have:pD p∈kvs.map (·.1):=by rw[h.key];exact aGp hm
   obtain⟨x,hx,e⟩:=aFi.mp this;exact⟨x,hx,e⟩
 by_cases c:p∈P
 ·refine⟨P,⟨?_,h.nd,h.box⟩,λq=>⟨.inl,λz=>z.elim id λz=>z▸c⟩⟩;unfold putD;rw[if_pos (mem.mpr c),<-h.key,List.map_map];refine aH8 λx _=>?_;simp only[Function.comp_def];split <;> rfl
 ·refine⟨P++[p],⟨?_,?_,λq hq=>?_⟩,λq=>by simp⟩
  ·unfold putD;rw[if_neg (λz=>c (mem.mp z))];simp[h.key]
  ·rw[List.nodup_append];exact⟨h.nd,by simp,λa ha b hb=>by simp at hb;subst hb;exact λz=>c (z▸ha)⟩
  ·rcases aFb.mp hq with z | z
   ·exact h.box q z
   ·simp at z;subst z;exact hp
theorem Pl.val{kvs:List (D×D)}{P:List P2}(h:Pl kvs P)(p:P2):(b6 kvs (pD p)).isSome=decide (p∈P):=by
 have key:b6 kvs (pD p)=none↔p∉P:=by
  rw[tH];constructor
  ·intro hh hx;have:pD p∈kvs.map (·.1):=by rw[h.key];exact aGp hx
   obtain⟨x,hx,e⟩:=aFi.mp this;exact hh x hx e
  ·intro hx x hxm z;have:x.1∈kvs.map (·.1):=aGp hxm;rw[h.key,z]at this;obtain⟨q,hq,e2⟩:=aFi.mp this;exact hx (LP e2▸hq)
 by_cases c:p∈P
 ·simp only[c,decide_true]
  cases o:b6 kvs (pD p) with
  | none=>exact absurd c (key.mp o)
  | some d=>rfl
 ·rw[key.mpr c];simp[c]
def mx(r:R4):Int:=bestOf (λa b=>decide (a > b)) r.x0 [r.y0,r.x1,r.y1]
def mn(r:R4):Int:=bestOf (λa b=>decide (a<b)) r.x0 [r.y0,r.x1,r.y1]
def ZQ(r:R4):Bool:=decide (mx r<9) && decide (mn r > -9)
theorem UC{r:R4}(h:ZQ r=true):TH r:=by
 simp only[ZQ,mx,mn,bestOf,Bool.and_eq_true,decide_eq_true_eq]at h;unfold TH;simp only[List.foldl]at h
 grind
def tW:OA:=λds mh Q=>∃(n:Nat) (rs:List R4),ds=[.ref n]/\mh[n]? =some (.lst (rs.map rD))/\rs.length<=1000/\∀b,(b=true->∀r∈rs,TH r)->Q (.bl b) mh
theorem RA(ds:List D)(mh:MH)(R:DK)(ok:jQ mh)(hs:tW ds mh R):dG (En mh R) (aH ["_law_rects_here"] ds) mh:=by
 obtain⟨n,rs,rfl,hn,hl,q⟩:=hs;have sz:=aFn;simp[dG,aH];rw[bR hn];simp only[bW];refine c6 rD ZQ D.bl rs (bR hn) (λr _ N hN=>?_) ?_
 ·simp[fW,rD];refine⟨_,r.x0,[r.y0,r.x1,r.y1],rfl,rfl,?_⟩;simp;have e:ZQ r=(decide (mx r<9) && decide (mn r > -9)):=rfl;change (if mx r<9 then _ else _);by_cases c:mx r<9
  ·rw[if_pos c];refine⟨_,r.x0,[r.y0,r.x1,r.y1],rfl,rfl,?_⟩;rw[e]at hN;simp only[c,decide_true,Bool.true_and]at hN;simpa[mn] using hN
  ·rw[if_neg c];rw[e]at hN;simpa[c] using hN
 ·refine⟨_,rs.map ZQ,rfl,kW (dM _ _),?_⟩;refine fD ok (by simp[cD]) (q _ λh r hr=>UC ?_);simp at h;exact h r hr
def kR:OA:=λds mh Q=>∃(n:Nat) (rs:List R4),ds=[.ref n]/\mh[n]? =some (.lst (rs.map rD))/\rs.length<=1000/\(∀r∈rs,TH r/\r.ok)/\
 ∀P:List P2,P.Nodup->(∀p∈P,(-9<p.1/\p.1<9)/\ -9<p.2/\p.2<9)->(∀x y,(x,y)∈P↔∃r∈rs,r.has x y)->Q (.tup [.int P.length,.int ((P.map (qC P)).sum)]) mh
theorem aBd{E:eJ}{mh:MH}{n:Nat}{kvs:List (D×D)}{P:List P2}{a0 a2 a5:Option D}{p:P2}(h1:mh[n]? =some (.dic true kvs))(h2:Pl kvs P)(hp:(-9<p.1/\p.1<9)/\ -9<p.2/\p.2<9)
  (q:∀kvs' P',Pl kvs' P' ->(∀q,q∈P' ↔q∈P\/q=p)->E.nx [a0,some (.ref n),a2,some (.int p.1),some (.int p.2),a5] (mh.set n (.dic true kvs'))):
  dX E [a0,some (.ref n),a2,some (.int p.1),some (.int p.2),a5] mh:=by
 have sz:=aFn;have hl:=h2.len;obtain⟨P',h3,h4⟩:=h2.put p (.bl true) hp;simp[dX];refine⟨n,kvs,[.inl p.1,.inl p.2],rfl,h1,rfl,by simp;lia,by lia,?_⟩;exact q _ P' h3 h4
theorem aBe{E:eJ}{mh:MH}{n:Nat}{kvs:List (D×D)}{P:List P2}{a0 a4 a5:Option D}{r:R4}{x:Int}(h1:mh[n]? =some (.dic true kvs))(h2:Pl kvs P)(hr:TH r)(bG:r.ok)(hx:r.x0<=x/\x<r.x1)
  (q:∀a4 kvs' P',Pl kvs' P' ->(∀q:P2,q∈P' ↔q∈P\/(q.1=x/\r.y0<=q.2/\q.2<r.y1))->E.nx [a0,some (.ref n),some (rD r),some (.int x),a4,a5] (mh.set n (.dic true kvs'))):
  dY E [a0,some (.ref n),some (rD r),some (.int x),a4,a5] mh:=by
 have sz:=aFn;have hyy:=bG.2.2.2.2.2;unfold TH at hr;simp[dY,rD,mC,JQ];refine⟨_,_,⟨rfl,rfl⟩,by lia,by lia,by lia,by lia,by lia,?_⟩;refine cE (λi ρ mh' =>(∃a4,ρ=[a0,some (.ref n),some (rD r),some (.int x),a4,a5])/\∃kvs' P',mh' =mh.set n (.dic true kvs')/\Pl kvs' P' /\∀q:P2,q∈P' ↔q∈P\/(q.1=x/\r.y0<=q.2/\q.2<r.y0+i)) _ (λ_ _ _ _=>trivial) ?_ ?_ ⟨⟨_,rfl⟩,kvs,P,(oC h1).symm,h2,λq=>⟨.inl,λz=>z.elim id λz=>by lia⟩⟩
 ·rintro i d ρ mh' N hi ⟨⟨a4,rfl⟩,kvs',P',rfl,st,hm⟩ nx;obtain⟨Q9,rfl⟩:=oP hi;simp;refine aBd (p:=(x,r.y0+i)) (eE _ h1) st ⟨by simp only;lia,by simp only;lia⟩ λkvs2 P2' st2 hm2=>?_;rw[List.set_set];refine nx _ _ ⟨⟨_,rfl⟩,kvs2,P2',rfl,st2,λq=>?_⟩;rw[hm2 q,hm q];constructor
  ·rintro(z | z)
   ·exact z.elim .inl λz=>.inr (by lia)
   ·subst z;exact .inr (by simp only;lia)
  ·rintro(z | z)
   ·exact .inl (.inl z)
   ·by_cases c:q.2<r.y0+i
    ·exact .inl (.inr (by lia))
    ·exact .inr (Prod.ext z.1 (by simp only;lia))
 ·rintro ρ mh' ⟨⟨a4,rfl⟩,kvs',P',rfl,st,hm⟩;refine q _ _ P' st λp=>?_;rw[hm p]
  have:((kS r.y0 (r.y1-r.y0).toNat).length:Int)=r.y1-r.y0:=by
   simp[kS];have:=bG.2.2.2.2.2;lia
  rw[this];constructor <;> (rintro(z | z);exact .inl z;exact .inr (by lia))
theorem aBf{E:eJ}{mh:MH}{n:Nat}{kvs:List (D×D)}{P:List P2}{a0 a3 a4 a5:Option D}{r:R4}(h1:mh[n]? =some (.dic true kvs))(h2:Pl kvs P)(hr:TH r)(bG:r.ok)
  (q:∀a3 a4 kvs' P',Pl kvs' P' ->(∀q:P2,q∈P' ↔q∈P\/r.has q.1 q.2)->E.nx [a0,some (.ref n),some (rD r),a3,a4,a5] (mh.set n (.dic true kvs'))):
  dZ E [a0,some (.ref n),some (rD r),a3,a4,a5] mh:=by
 have sz:=aFn;have hr2:=hr;unfold TH at hr;simp[dZ,rD,C7];have hxx:=bG.2.2.2.2.1;refine⟨_,_,⟨rfl,rfl⟩,by lia,by lia,by lia,by lia,by lia,?_⟩;refine cE (λi ρ mh' =>(∃a3 a4,ρ=[a0,some (.ref n),some (rD r),a3,a4,a5])/\∃kvs' P',mh' =mh.set n (.dic true kvs')/\Pl kvs' P' /\∀q:P2,q∈P' ↔q∈P\/((r.x0<=q.1/\q.1<r.x0+i)/\r.y0<=q.2/\q.2<r.y1)) _ (λ_ _ _ _=>trivial) ?_ ?_ ⟨⟨_,_,rfl⟩,kvs,P,(oC h1).symm,h2,λq=>⟨.inl,λz=>z.elim id λz=>by lia⟩⟩
 ·rintro i d ρ mh' N hi ⟨⟨a3,a4,rfl⟩,kvs',P',rfl,st,hm⟩ nx;obtain⟨Q9,rfl⟩:=oP hi;simp;refine aBe (x:=r.x0+i) (eE _ h1) st hr2 bG (by lia) λa4 kvs2 P2' st2 hm2=>?_;rw[List.set_set];refine nx _ _ ⟨⟨_,_,rfl⟩,kvs2,P2',rfl,st2,λq=>?_⟩;rw[hm2 q,hm q];constructor
  ·rintro(z | z)
   ·exact z.elim .inl λz=>.inr (by lia)
   ·exact .inr (by lia)
  ·rintro(z | z)
   ·exact .inl (.inl z)
   ·by_cases c:q.1<r.x0+i
    ·exact .inl (.inr (by lia))
    ·exact .inr (by lia)
 ·rintro ρ mh' ⟨⟨a3,a4,rfl⟩,kvs',P',rfl,st,hm⟩;refine q _ _ _ P' st λp=>?_;rw[hm p]
  have:((kS r.x0 (r.x1-r.x0).toNat).length:Int)=r.x1-r.x0:=by
   simp[kS];lia
  rw[this];simp only[R4.has];constructor <;> (rintro(z | z);exact .inl z;exact .inr (by lia))
theorem LU(P:List P2)(p:P2):((([(p.1+1,p.2),(p.1-1,p.2),(p.1,p.2+1),(p.1,p.2-1)]:List P2).filter λq=>!decide (q∈P)).length:Int)=qC P p:=by
 simp only[qC,List.filter_cons,List.filter_nil];cases decide ((p.1+1,p.2)∈P) <;> cases decide ((p.1-1,p.2)∈P) <;> cases decide ((p.1,p.2+1)∈P) <;> cases decide ((p.1,p.2-1)∈P) <;> simp[LR.b2i]
theorem IX(ds:List D)(mh:MH)(R:DK)(ok:jQ mh)(hs:kR ds mh R):d4 (En mh R) (aH ["_law_rects_here","_law_places","_law_rect","_law_x","_law_y","_law_found"] ds) mh:=by
 obtain⟨n,rs,rfl,hn,hl,hr,q⟩:=hs;have sz:=aFn;have hnl:=zD hn;simp[d4,iM,aH];rw[bR (cJ hn)];simp only[bW];refine cE (λi ρ mh' =>(∃a b c,ρ=[some (.ref n),some (.ref mh.length),a,b,c,none])/\∃kvs P,mh' =mh++[.dic true kvs]/\Pl kvs P/\∀x y,(x,y)∈P↔∃r∈rs.take i,r.has x y) _ (λi ρ mh' h=>by obtain⟨_,kvs,P,rfl,_⟩:=h;exact bR (cJ hn)) ?_ ?_ ⟨⟨_,_,_,rfl⟩,[],[],rfl,⟨rfl,by simp,by simp⟩,by simp⟩
 ·rintro i d ρ mh' N hi ⟨⟨a,b,c,rfl⟩,kvs,P,rfl,st,hm⟩ nx;obtain⟨r,hrr,rfl⟩:=g6 hi;have hrm:=hr r (aFf hrr);simp;refine aBf (by simp) st hrm.1 hrm.2 λa3 a4 kvs2 P2' st2 hm2=>?_;refine nx _ _ ⟨⟨_,_,_,rfl⟩,kvs2,P2',by simp,st2,λx y=>?_⟩;rw[hm2 (x,y),hm x y,take_snoc hrr];simp only[List.mem_append,List.mem_singleton];constructor
  ·rintro(⟨r',h1,h2⟩ | z)
   ·exact⟨r',.inl h1,h2⟩
   ·exact⟨r,.inr rfl,z⟩
  ·rintro⟨r',h1 | rfl,h2⟩
   ·exact .inl ⟨r',h1,h2⟩
   ·exact .inr h2
 ·rintro ρ mh' ⟨⟨a,b,c,rfl⟩,kvs,P,rfl,st,hm⟩;simp only[List.length_map,List.take_length]at hm;simp[iL,iK];refine⟨.ref mh.length,rfl,mh.length,true,kvs,rfl,.inl ⟨by simp,λob=>?_⟩⟩;have g1:((mh++[MO.dic true kvs]).set mh.length (.fdc true kvs ob))[mh.length]? =some (.fdc true kvs ob):=eE (o:= .dic true kvs) _ (by simp);have px:cX mh ((mh++[MO.dic true kvs]).set mh.length (.fdc true kvs ob)):=(cX.refl.push _).set (aF9 _) _;generalize (mh++[MO.dic true kvs]).set mh.length (.fdc true kvs ob)=M at g1 px⊢;rw[st.key];refine cE (λi ρ M' =>(∃u v w,ρ=[some (.ref n),some (.ref mh.length),u,v,w,some (.int (((P.take i).map (qC P)).sum))])/\cX mh M' /\M'[mh.length]? =some (.fdc true kvs ob)) _ (λi ρ M' h=>h.2.2) ?_ ?_ ⟨⟨_,_,_,rfl⟩,px,g1⟩
  ·rintro i d ρ M' N hi ⟨⟨u,v,w,rfl⟩,px2,g2⟩ nx;obtain⟨p,hp,rfl⟩:=g6 hi;have esum:((P.take (i+1)).map (qC P)).sum=((P.take i).map (qC P)).sum+qC P p:=by rw[take_snoc hp];simp
   simp only[List.map_take]at esum⊢;generalize ((P.map (qC P)).take i).sum=c0 at esum⊢;simp[pD,gW];refine⟨by lia,by lia,?_⟩;have nl:=LU P p;generalize hNs:([(p.1+1,p.2),(p.1-1,p.2),(p.1,p.2+1),(p.1,p.2-1)]:List P2)=Ns at nl;have e4:[D.tup [D.int (p.1+1),D.int p.2],D.tup [D.int (p.1-1),D.int p.2],D.tup [D.int p.1,D.int (p.2+1)],D.tup [D.int p.1,D.int (p.2-1)]]=Ns.map pD:=by rw[<-hNs];rfl
   rw[e4,bR (dM _ _)];simp only[bW];refine nM pD (λq=>!decide (q∈P)) (λq=>q) pD Ns (bR (dM _ _)) (λq _ N2 M2 hN hM=>?_) ?_
   ·simp[fW];refine⟨mh.length,true,kvs,rfl,.inr ⟨ob,cJ g2⟩,⟨[.inl q.1,.inl q.2],rfl⟩,?_⟩;rw[st.val q];by_cases c:q∈P
    ·simp[c];exact hM (by simp[c])
    ·simp[c];exact hN (by simp[c])
   ·refine⟨_,rfl,_,bR (dM _ _),?_⟩;have px3:=(px2.push (.lst (Ns.map pD))).push (.lst (((Ns.filter λq=>!decide (q∈P)).map λq=>q).map pD));have g3:=cJ (x:= .lst (((Ns.filter λq=>!decide (q∈P)).map λq=>q).map pD)) (cJ (x:= .lst (Ns.map pD)) g2);simp at px3 g3⊢;exact nx _ _ ⟨⟨u,some (.int p.1),some (.int p.2),by rw[List.map_take,esum,<-nl]⟩,px3,g3⟩
  ·rintro ρ M' ⟨⟨u,v,w,rfl⟩,px2,g2⟩;simp only[List.length_map,List.take_length];simp[iJ];refine⟨mh.length,true,kvs,rfl,.inr ⟨ob,g2⟩,by lia,?_⟩;have e:=aG8 List.length st.key;simp at e;rw[e];exact px2.out ok (by simp[cD,cC]) (q P st.nd st.box hm)
theorem HR{rs:List R4}(hl:rs.length<=60)(rok:∀r∈rs,r.ok):(bL (cB rs)).length<=1000000:=by
 have h1:=DX (g:=cB rs) (n:=60) λb hb=>by have:=((dE rok).2 b hb).2.1;lia
 have h2:=lQ rs;have:60*(cB rs).length<=60*120:=Nat.mul_le_mul_left _ (by lia)
 lia
theorem UJ{rs:List R4}(rok:∀r∈rs,r.ok):tZ (-4000000) 8000000 (cB rs)=bO (cB rs)+bO (cB (rs.map fM)):=by
 have rok2:∀r∈rs.map fM,r.ok:=λr hr=>by obtain⟨r',h1,rfl⟩:=aFi.mp hr;exact CV (rok r' h1)
 obtain⟨c1,b1⟩:=dE rok;obtain⟨c2,b2⟩:=dE rok2;have v1:=(oR (rs:=rs) λr hr=>(rok r hr).2.2.2.2).2;have v2:=(oR (rs:=rs.map fM) λr hr=>(rok2 r hr).2.2.2.2).2;refine O7 (C:= -4000000) (m:=8000000) c1 c2 (λx y=>?_) (λb hb=>?_) (λb hb=>?_) (λb hb=>(b2 b hb).2.2) (by decide)
 ·rw[v1,v2];constructor
  ·rintro⟨r,hr,h⟩;obtain⟨r',h1,rfl⟩:=aFi.mp hr;exact⟨r',h1,by simp only[R4.has,fM]at h⊢;lia⟩
  ·rintro⟨r,hr,h⟩;exact⟨fM r,aGp hr,by simp only[R4.has,fM]at h⊢;lia⟩
 ·have:=(b1 b hb).1;unfold Bn at this;lia
 ·have:=(b2 b hb).1;unfold Bn at this;lia
theorem MM{rs:List R4}{mh:MH}{Q:DK}(hl:rs.length<=60)(rok:∀r∈rs,r.ok)(q:Q (.int (r9 cP (cB rs))) mh):p8 [gD (cB rs)] mh Q:=⟨_,rfl,HR hl rok,λb hb=>((dE rok).2 b hb).1,q⟩
theorem G8{rs:List R4}{mh:MH}{Q:DK}(hl:rs.length<=60)(rok:∀r∈rs,r.ok)(q:Q (.int (r9 cP (cB rs))) mh):wL [gD (cB rs)] mh Q:=
 ⟨_,rfl,by have:=lQ rs;lia,λb hb=>⟨by have:=((dE rok).2 b hb).2.1;lia,((dE rok).2 b hb).1⟩,q⟩
theorem K2{rs:List R4}{mh:MH}{Q:DK}(hl:rs.length<=60)(rok:∀r∈rs,r.ok)(q:Q (.int (tZ (-4000000) 8000000 (cB rs))) mh):HM [gD (cB rs)] mh Q:=
 ⟨_,_,_,rfl,(dE rok).1,by have:=lQ rs;lia,λb hb=>by have:=(dE rok).2 b hb;exact⟨by lia,this.2.2,this.1⟩,q⟩
theorem XI{E:eJ}{ns:List Int}{a1 a2 a4 a5:Option D}{n:Nat}{rs:List R4}{mh:MH}(hrs:rs.length<=60)(rok:∀r∈rs,r.ok)(hn:mh[n]? =some (.lst (rs.map rD)))
  (nx:∀a4 a5 mh',E.nx [some (.fl (ns.map .int)),a1,a2,some (.ref n),a4,a5] mh'):
  m7 HN LR.p7 LR.gZ A4 p8 (oM 4) HM wL tW kR E [some (.fl (ns.map .int)),a1,a2,some (.ref n),a4,a5] mh:=by
 have sz:=aFn;simp[m7];refine qA hn (by lia) ?_;simp[sV];refine MM hrs rok ?_;refine⟨n,rs,rfl,hn,by lia,rok,?_⟩;refine⟨by lia,?_⟩;simp[sU];refine G8 hrs rok ?_;refine K2 hrs rok ?_;rw[UJ rok];refine⟨by lia,?_⟩;refine F6 rfl (by simp[deep,fH]) ?_;simp[jS,sT];refine⟨n,rs,rfl,hn,by lia,λb hb=>?_⟩;simp[jS]
 cases b with
 | false=>simp;exact nx _ _ _
 | true=>
  have sm:=hb rfl;simp;refine G8 hrs rok ?_;refine K2 hrs rok ?_;refine⟨by lia,?_⟩;refine⟨n,rs,rfl,hn,by lia,λr hr=>⟨sm r hr,rok r hr⟩,λP nd bx hm=>?_⟩;obtain⟨c1,b1⟩:=dE rok;have v1:=(oR (rs:=rs) λr hr=>(rok r hr).2.2.2.2).2
  obtain⟨e1,e2⟩:=E5 (A:= -4000000) (C:= -4000000) (n:=8000000) (m:=8000000) c1 nd (λx y=>by rw[hm,v1]) (λp hp=>by have:=bx p hp;lia)
   (λb hb=>by have:=(b1 b hb).1;unfold Bn at this;lia) (λb hb=>(b1 b hb).2.2) (by decide)
  rw[e1,e2];refine⟨rfl,rfl,by simp[c9,deep,fH],?_⟩;simp only[c9,jO,fG];simp[YS];exact nx _ _ _
theorem aBc(ds:List D)(mh:MH)(R:DK)(ok:jQ mh)(hs:vN ds mh R):FT HN LR.p7 LR.gZ A4 p8 (oM 4) HM wL tW kR (En mh R) (aH ["_law_script","_law_at","_law_bag_here","_law_rects_here","_law_some","_law_due"] ds) mh:=by
 obtain⟨ns,rfl,hl,q⟩:=hs;have sz:=aFn;simp[FT,aH];refine⟨by split <;> (try split) <;> lia,by split <;> (try split) <;> lia,?_⟩;refine cE (λi ρ _=>∃a b c d e,ρ=[some (.fl (ns.map .int)),a,b,c,d,e]) _ (λ_ _ _ _=>trivial) ?_ ?_ ⟨_,_,_,_,_,rfl⟩
 ·rintro i d ρ mh1 N hi ⟨a,b,c,d',e,rfl⟩ nx;obtain⟨hil,rfl⟩:=oP hi
  have hi6:i<8:=by
   revert hil;split <;> (try split) <;> intro hil <;> lia
  simp[AM];refine R8 hl (by lia) (by lia) λmh2 ho b2=>?_;obtain⟨o,rfl⟩:=ho;simp[sW];refine LR.K3 (by lia) (by lia) b2 λrs mh4 rl rok t4=>?_;exact XI (by simpa using rl) rok (dM _ _) λ_ _ _=>nx _ _ ⟨_,_,_,_,_,rfl⟩
 ·rintro ρ mh1 ⟨a,b,c,d,e,rfl⟩;simp[FR];exact cW (q _)
theorem aEc{P:List Value->Prop}(us:List Value)(hl:us.length=0)(h:P []):P us:=by
 cases us with
 | nil=>exact h
 | cons a us=>cases hl
theorem aAq{P:List Value->Prop}(us:List Value)(hl:us.length=1)(h:∀a0,P [a0]):P us:=by
 cases us with
 | nil=>cases hl
 | cons a us=>exact aEc (P:=λus=>P (a::us)) us (Nat.succ.inj hl) (h a)
theorem aAp{P:List Value->Prop}(us:List Value)(hl:us.length=2)(h:∀a0 a1,P [a0,a1]):P us:=by
 cases us with
 | nil=>cases hl
 | cons a us=>exact aAq (P:=λus=>P (a::us)) us (Nat.succ.inj hl) (h a)
theorem aEb{P:List Value->Prop}(us:List Value)(hl:us.length=3)(h:∀a0 a1 a2,P [a0,a1,a2]):P us:=by
 cases us with
 | nil=>cases hl
 | cons a us=>exact aAp (P:=λus=>P (a::us)) us (Nat.succ.inj hl) (h a)
theorem qQ{x:Str}{st:Stmt}{ps:List Str}(h:∀kV doc pm an cdv ct a0,bindArgs (PySem.W.fnOf x x (eI st) (b9 st) (aC st) .none kV doc pm an cdv ct) ⟨[a0],[]⟩=pure (ps.zip [a0]))(hp:ps.length=1:=by rfl):bZ x st ps:=λa b c d e f us hl=>aAq (P:=λus=>bindArgs _ ⟨us,[]⟩=pure (List.zip _ us)) us (hl.trans hp) (h a b c d e f)
theorem R6{x:Str}{st:Stmt}{ps:List Str}(h:∀kV doc pm an cdv ct a0 a1,bindArgs (PySem.W.fnOf x x (eI st) (b9 st) (aC st) .none kV doc pm an cdv ct) ⟨[a0,a1],[]⟩=pure (ps.zip [a0,a1]))(hp:ps.length=2:=by rfl):bZ x st ps:=λa b c d e f us hl=>aAp (P:=λus=>bindArgs _ ⟨us,[]⟩=pure (List.zip _ us)) us (hl.trans hp) (h a b c d e f)
theorem YC{x:Str}{st:Stmt}{ps:List Str}(h:∀kV doc pm an cdv ct a0 a1 a2,bindArgs (PySem.W.fnOf x x (eI st) (b9 st) (aC st) .none kV doc pm an cdv ct) ⟨[a0,a1,a2],[]⟩=pure (ps.zip [a0,a1,a2]))(hp:ps.length=3:=by rfl):bZ x st ps:=λa b c d e f us hl=>aEb (P:=λus=>bindArgs _ ⟨us,[]⟩=pure (List.zip _ us)) us (hl.trans hp) (h a b c d e f)
theorem JP:bZ "paired" iN ["edges"]:=qQ λ_ _ _ _ _ _ _=>rfl
theorem zP:bZ "row_mixed" d7 ["one","other","kept"]:=YC λ_ _ _ _ _ _ _ _ _=>rfl
theorem C2:bZ "row_long" fA ["row"]:=qQ λ_ _ _ _ _ _ _=>rfl
theorem R7:bZ "area" oB ["region"]:=qQ λ_ _ _ _ _ _ _=>rfl
theorem YD:bZ "rim" tN ["region"]:=qQ λ_ _ _ _ _ _ _=>rfl
theorem C4:bZ "_law_bag" fC ["_law_script","_law_at"]:=R6 λ_ _ _ _ _ _ _ _=>rfl
theorem zQ:bZ "_law_take" d8 ["_law_bag_here","_law_many"]:=R6 λ_ _ _ _ _ _ _ _=>rfl
theorem vE:bZ "_law_number" cV ["_law_bag_here","_law_sort","_law_some"]:=YC λ_ _ _ _ _ _ _ _ _=>rfl
theorem zR:bZ "_law_side" d9 ["_law_bag_here","_law_sort","_law_some"]:=YC λ_ _ _ _ _ _ _ _ _=>rfl
theorem vX:bZ "_law_rects" dC ["_law_bag_here","_law_most"]:=R6 λ_ _ _ _ _ _ _ _=>rfl
theorem zS:bZ "_law_line" eB ["_law_shreds"]:=qQ λ_ _ _ _ _ _ _=>rfl
theorem vD:bZ "_law_region" cU ["_law_rects_here"]:=qQ λ_ _ _ _ _ _ _=>rfl
theorem pU:bZ "_law_same" eA ["_law_found","_law_due"]:=R6 λ_ _ _ _ _ _ _ _=>rfl
theorem vY:bZ "_law_lined" dD ["_law_some"]:=qQ λ_ _ _ _ _ _ _=>rfl
theorem zT:bZ "_law_area" eC ["_law_some"]:=qQ λ_ _ _ _ _ _ _=>rfl
theorem vW:bZ "_law_sides" dB ["_law_some"]:=qQ λ_ _ _ _ _ _ _=>rfl
theorem C3:bZ "_law_rim" fB ["_law_rects_here"]:=qQ λ_ _ _ _ _ _ _=>rfl
theorem sA:bZ "_law_counted" cI ["_law_rects_here"]:=qQ λ_ _ _ _ _ _ _=>rfl
theorem qR:bZ "_law_is_small" cA ["_law_rects_here"]:=qQ λ_ _ _ _ _ _ _=>rfl
theorem YE:bZ "law" tO ["_law_script"]:=qQ λ_ _ _ _ _ _ _=>rfl
structure Al(w:World)(K:aHw)(mg:aHz):Prop where
 NR:eV K "paired" iN
 CP:eV K "row_mixed" d7
 E2:eV K "row_long" fA
 XY:eV K "area" oB
 aBm:eV K "rim" tN
 E4:eV K "_law_bag" fC
 CQ:eV K "_law_take" d8
 vS:eV K "_law_number" cV
 CS:eV K "_law_side" d9
 zK:eV K "_law_rects" dC
 CT:eV K "_law_line" eB
 vR:eV K "_law_region" cU
 rN:eV K "_law_same" eA
 zL:eV K "_law_lined" dD
 CU:eV K "_law_area" eC
 zJ:eV K "_law_sides" dB
 E3:eV K "_law_rim" fB
 u4:eV K "_law_counted" cI
 r8:eV K "_law_is_small" cA
 aBn:eV K "law" tO
 jA:rS K mg "IN_OTHER" (.int 2)
 pR:rS K mg "IN_ONE" (.int 1)
section
variable {P:Program}{w:World}{K:aHw}{mg:aHz}{base h:Heap}(KX:K.In h)(G:h.Ns mainGlobals mg)(B:Bl mg)(A:Al w K mg)
include KX G B A
theorem CJ :Fn P w K mg base 1 "paired" ["edges"] (LR.oN):=
 eF (wB:=LR.nV) (k:=0) A.NR KX G JP wJ (by with_reducible exact MN B) (λds mh R h=>by obtain⟨_,_,rfl,_⟩:=h;rfl) LR.M6
theorem rJ :Fn P w K mg base 2 "row_mixed" ["one","other","kept"] (LR.yB):=
 eF (wB:=LR.gP (LR.oN)) (k:=1) A.CP KX G zP oF (by with_reducible exact BW B ((CJ KX G B A).mono (by lia)) A.jA A.pR) (λds mh R h=>by obtain⟨_,_,_,rfl,_⟩:=h;rfl) LR.aBb
theorem i7 :Fn P w K mg base 1 "row_long" ["row"] (kP):=
 eF (wB:=LR.iW) (k:=0) A.E2 KX G C2 qW (by with_reducible exact EG B) (λds mh R h=>by obtain⟨_,rfl,_⟩:=h;rfl) XG
theorem NI :Fn P w K mg base 2 "area" ["region"] (wL):=
 eF (wB:=xX (kP)) (k:=1) A.XY KX G R7 F5 (by with_reducible exact WL B ((i7 KX G B A).mono (by lia))) (λds mh R h=>by obtain⟨_,rfl,_⟩:=h;rfl) XM
theorem S6 :Fn P w K mg base 3 "rim" ["region"] (HM):=
 eF (wB:=FQ (kP) (LR.yB)) (k:=2) A.aBm KX G YD KR (by with_reducible exact aB1 B ((i7 KX G B A).mono (by lia)) ((rJ KX G B A).mono (by lia)) A.jA A.pR) (λds mh R h=>by obtain⟨_,_,_,rfl,_⟩:=h;rfl) aBa
theorem uU :Fn P w K mg base 1 "_law_bag" ["_law_script","_law_at"] (HN):=
 eF (wB:=i0) (k:=0) A.E4 KX G C4 qY (by with_reducible exact EI B) (λds mh R h=>by obtain⟨_,_,rfl,_⟩:=h;rfl) aBg
theorem hJ :Fn P w K mg base 1 "_law_take" ["_law_bag_here","_law_many"] (qZ):=
 eF (wB:=gQ) (k:=0) A.CQ KX G zQ oG (by with_reducible exact BX B) (λds mh R h=>by obtain⟨_,_,rfl,_⟩:=h;rfl) W9
theorem mZ :Fn P w K mg base 2 "_law_number" ["_law_bag_here","_law_sort","_law_some"] (LR.oO):=
 eF (wB:=LR.eX (qZ)) (k:=1) A.vS KX G vE kN (by with_reducible exact vP B ((hJ KX G B A).mono (by lia))) (λds mh R h=>by obtain⟨_,_,_,rfl,_⟩:=h;rfl) LR.M7
theorem rK :Fn P w K mg base 3 "_law_side" ["_law_bag_here","_law_sort","_law_some"] (LR.A3):=
 eF (wB:=LR.gR (LR.oO)) (k:=2) A.CS KX G zR oH (by with_reducible exact BY B ((mZ KX G B A).mono (by lia))) (λds mh R h=>by obtain⟨_,_,_,rfl,_⟩:=h;rfl) LR.XA
theorem pK :Fn P w K mg base 4 "_law_rects" ["_law_bag_here","_law_most"] (LR.p7):=
 eF (wB:=LR.fP (qZ) (LR.A3)) (k:=3) A.zK KX G vX mT (by with_reducible exact yX B ((hJ KX G B A).mono (by lia)) ((rK KX G B A).mono (by lia))) (λds mh R h=>by obtain⟨_,_,rfl,_⟩:=h;rfl) LR.RC
theorem rL :Fn P w K mg base 1 "_law_line" ["_law_shreds"] (LR.tY):=
 eF (wB:=LR.gV) (k:=0) A.CT KX G zS oJ (by with_reducible exact B0 B) (λds mh R h=>by obtain⟨_,_,rfl,_⟩:=h;rfl) LR.XH
theorem e9 :Fn P w K mg base 2 "_law_region" ["_law_rects_here"] (LR.gZ):=
 eF (wB:=LR.eW (LR.tY)) (k:=1) A.vR KX G vD kM (by with_reducible exact vO B ((rL KX G B A).mono (by lia))) (λds mh R h=>by obtain⟨_,_,rfl,_⟩:=h;rfl) LR.M5
theorem hU :∀n:Nat,Fn P w K mg base (n+1) "_law_same" ["_law_found","_law_due"] (LS.oM n)
 | 0=>(NG A.rN KX G pU).imp λds mh R h=>by obtain⟨_,⟨_,_,_,h⟩ | ⟨_,_,_,_,_,_,_,h,_⟩⟩:=h <;> lia
 | n+1=>XT (wB:=LS.cS (LS.oM n)) (k:=n+1) (by lia) A.rN KX G pU oI (by with_reducible exact BZ B (hU n)) (λds mh R h=>by obtain⟨_,⟨_,rfl,_⟩ | ⟨_,_,_,rfl,_⟩⟩:=h <;> rfl) (LS.XB n)
theorem pL :Fn P w K mg base 1 "_law_lined" ["_law_some"] (LS.yC):=
 eF (wB:=LS.fQ) (k:=0) A.zL KX G vY mU (by with_reducible exact yY B) (λds mh R h=>by obtain⟨_,rfl,_⟩:=h;rfl) LS.RD
theorem rM :Fn P w K mg base 2 "_law_area" ["_law_some"] (p8):=
 eF (wB:=gX (LS.yC)) (k:=1) A.CU KX G zT oK (by with_reducible exact B2 B ((pL KX G B A).mono (by lia))) (λds mh R h=>by obtain⟨_,rfl,_⟩:=h;rfl) RE
theorem pJ :Fn P w K mg base 1 "_law_sides" ["_law_some"] (tX):=
 eF (wB:=fO) (k:=0) A.zJ KX G vW mS (by with_reducible exact yW B) (λds mh R h=>by obtain⟨_,rfl,_⟩:=h;rfl) RB
theorem uT :Fn P w K mg base 3 "_law_rim" ["_law_rects_here"] (A4):=
 eF (wB:=iX (tX) (LR.gZ)) (k:=2) A.E3 KX G C3 qX (by with_reducible exact EH B ((pJ KX G B A).mono (by lia)) ((e9 KX G B A).mono (by lia))) (λds mh R h=>by obtain⟨_,_,rfl,_⟩:=h;rfl) XF
theorem lD :Fn P w K mg base 1 "_law_counted" ["_law_rects_here"] (kR):=
 eF (wB:=d4) (k:=0) A.u4 KX G sA jM (by with_reducible exact uK B) (λds mh R h=>by obtain⟨_,_,rfl,_⟩:=h;rfl) IX
theorem jN :Fn P w K mg base 1 "_law_is_small" ["_law_rects_here"] (tW):=
 eF (wB:=dG) (k:=0) A.r8 KX G qR iP (by with_reducible exact rZ B) (λds mh R h=>by obtain⟨_,_,rfl,_⟩:=h;rfl) RA
theorem Q4{fa:Addr}  (hfa:mg "law"=some (.ref fa)):
  ∃fd:FuncData,(∀(s:Shared) (u:Value),BindsTo s fd ⟨[u],[]⟩ [("_law_script",u)])/\∀base:Heap,iU P w K mg base DB 6 fa fd ["_law_script"] (N8 K vN):=
 WH (wB:=FT (HN) (LR.p7) (LR.gZ) (A4) (p8) (LS.oM 4) (HM) (wL) (tW) (kR)) (k:=5) KX G hfa A.aBn KS YE (λbase=>by with_reducible exact aB2 B ((uU KX G B A).mono (by lia)) ((pK KX G B A).mono (by lia)) ((e9 KX G B A).mono (by lia)) ((uT KX G B A).mono (by lia)) ((rM KX G B A).mono (by lia)) ((hU KX G B A 4).mono (by lia)) ((S6 KX G B A).mono (by lia)) ((NI KX G B A).mono (by lia)) ((jN KX G B A).mono (by lia)) ((lD KX G B A).mono (by lia))) aBc
theorem aCd{l:PySem.W.OpenLaw}{fa:Addr}  (hfa:mg "law"=some (.ref fa)):
  ∃fd:FuncData,(∀(s:Shared) (u:Value),BindsTo s fd ⟨[u],[]⟩ [("_law_script",u)])/\∀base:Heap,K.In base->base.Ns mainGlobals mg->iU l.prog w K mg base DB 6 fa fd ["_law_script"] (N8 K vN):=
 let ⟨fd,h1,h2⟩:=Q4 KX G B A hfa
 ⟨fd,h1,λbase _ _=>h2 base⟩
end
noncomputable def m0:Value:= .str "maskwright.regions" 187
noncomputable def m1:Value:= .str "maskwright.mixing" 196
noncomputable def m2:Value:= .str "law_maskwright_k05_areas_and_rims" 245
noncomputable def kk:Params->W.Frag:=λP=>(nat_lit 3,⟨.type "dict",none,.dict #[kE P "__name__" 165 (.str "law_maskwright_k05_areas_and_rims" 245),kE P "__doc__" 166 .none,kE P "__package__" 167 .none,kE P "__loader__" 168 (.builtin "__main__.__loader__#opaque"),kE P "__spec__" 169 .none,kE P "__annotations__" 170 (.ref 6),kE P "__builtins__" 171 (.ref 4),kE P "__file__" 173 (.str "/claim/cut.py" 172),kE P "__cached__" 174 .none,kE P "paired" 195 (.ref 21),kE P "IN_ONE" 199 (.int 1 198),kE P "IN_OTHER" 201 (.int 2 200),kE P "row_mixed" 219 (.ref 28),kE P "row_long" 225 (.ref 33),kE P "area" 231 (.ref 38),kE P "rim" 244 (.ref 45),kE P "_law_bag" 257 (.ref 52),kE P "_law_take" 268 (.ref 59),kE P "_law_number" 277 (.ref 66),kE P "_law_side" 288 (.ref 73),kE P "_law_rects" 294 (.ref 78),kE P "_law_line" 304 (.ref 85),kE P "_law_region" 310 (.ref 90),kE P "_law_same" 316 (.ref 95),kE P "_law_lined" 322 (.ref 100),kE P "_law_area" 328 (.ref 105),kE P "_law_sides" 334 (.ref 110),kE P "_law_rim" 340 (.ref 115),kE P "_law_counted" 346 (.ref 120),kE P "_law_is_small" 352 (.ref 125),kE P "law" 364 (.ref 132)] 31,#[]⟩)::(nat_lit 20,kD "paired" 189 2 1 193 20)::(nat_lit 21,kF "paired" iN m0 20)::(nat_lit 27,kD "row_mixed" 202 7 3 217 27)::(nat_lit 28,kF "row_mixed" d7 m1 27)::(nat_lit 32,kC "row_long" 220 21 1 223 32)::(nat_lit 33,kF "row_long" fA m1 32)::(nat_lit 37,kC "area" 226 23 1 229 37)::(nat_lit 38,kF "area" oB m1 37)::(nat_lit 44,kD "rim" 232 25 1 242 44)::(nat_lit 45,kF "rim" tN m1 44)::(nat_lit 51,kD "_law_bag" 247 39 2 255 51)::(nat_lit 52,kF "_law_bag" fC m2 51)::(nat_lit 58,kD "_law_take" 258 49 2 266 58)::(nat_lit 59,kF "_law_take" d8 m2 58)::(nat_lit 65,kD "_law_number" 269 61 3 275 65)::(nat_lit 66,kF "_law_number" cV m2 65)::(nat_lit 72,kD "_law_side" 278 69 3 286 72)::(nat_lit 73,kF "_law_side" d9 m2 72)::(nat_lit 77,kC "_law_rects" 289 75 2 292 77)::(nat_lit 78,kF "_law_rects" dC m2 77)::(nat_lit 84,kD "_law_line" 295 85 1 302 84)::(nat_lit 85,kF "_law_line" eB m2 84)::(nat_lit 89,kC "_law_region" 305 93 1 308 89)::(nat_lit 90,kF "_law_region" cU m2 89)::(nat_lit 94,kC "_law_same" 311 103 2 314 94)::(nat_lit 95,kF "_law_same" eA m2 94)::(nat_lit 99,kC "_law_lined" 317 113 1 320 99)::(nat_lit 100,kF "_law_lined" dD m2 99)::(nat_lit 104,kC "_law_area" 323 118 1 326 104)::(nat_lit 105,kF "_law_area" eC m2 104)::(nat_lit 109,kC "_law_sides" 329 120 1 332 109)::(nat_lit 110,kF "_law_sides" dB m2 109)::(nat_lit 114,kC "_law_rim" 335 122 1 338 114)::(nat_lit 115,kF "_law_rim" fB m2 114)::(nat_lit 119,kC "_law_counted" 341 125 1 344 119)::(nat_lit 120,kF "_law_counted" cI m2 119)::(nat_lit 124,kC "_law_is_small" 347 135 1 350 124)::(nat_lit 125,kF "_law_is_small" cA m2 124)::(nat_lit 131,kD "law" 353 137 1 362 131)::(nat_lit 132,kF "law" tO m2 131)::[]
end K05
open PySem PySem.W PyProof.Rows
set_option maxRecDepth 100000 in
set_option maxHeartbeats 0 in
theorem PySem.Challenge.cw_maskwright_k05_areas_and_rims_holds : PySem.Challenge.rw_maskwright_k05_areas_and_rims.Holds := by
  w_on; refine D3.aCe (q := D3.kQ PySem.Challenge.pw_maskwright_k05_areas_and_rims [1, 3, 4, 5, 6, 7, 8, 10, 11, 12, 13, 14, 15, 16, 17, 18, 19, 20, 21, 22, 23, 24]) (loose := []) (K := K05.kk) (as := [3, 20, 21, 27, 28, 32, 33, 37, 38, 44, 45, 51, 52, 58, 59, 65, 66, 72, 73, 77, 78, 84, 85, 89, 90, 94, 95, 99, 100, 104, 105, 109, 110, 114, 115, 119, 120, 124, 125, 131, 132]) (N := 1388) (by kernel_rfl) (fun _ => rfl) (fun _ => by kernel_rfl) (by rfl) (by rfl) (by rfl) (by decide +kernel) ⟨rfl, rfl, rfl, rfl, rfl, by decide +kernel⟩ ?hw ?_; (case hw => w_witness2)
  k_fill
  refine D3.walkD (l := PySem.Challenge.rw_maskwright_k05_areas_and_rims) (k := 6) (x := "_law_script") rfl rfl ⟨rfl, by decide, by decide⟩ (fun _ _ Y => Y) ?F
  case F =>
    intro w mg fa h KX G hmg
    refine' K05.aCd KX G (D3.bl_mk KX G ?_ ?_ ?_ ?_ ?_ ?_ ?_ ?_ ?_ ?_ ?_ ?_ ?_ ?_ ?_ ?_ ?_ ?_ ?_) ⟨(D3.aCk ?_ ?_ ?_ ?_), (D3.aCk ?_ ?_ ?_ ?_), (D3.aCk ?_ ?_ ?_ ?_), (D3.aCk ?_ ?_ ?_ ?_), (D3.aCk ?_ ?_ ?_ ?_), (D3.aCk ?_ ?_ ?_ ?_), (D3.aCk ?_ ?_ ?_ ?_), (D3.aCk ?_ ?_ ?_ ?_), (D3.aCk ?_ ?_ ?_ ?_), (D3.aCk ?_ ?_ ?_ ?_), (D3.aCk ?_ ?_ ?_ ?_), (D3.aCk ?_ ?_ ?_ ?_), (D3.aCk ?_ ?_ ?_ ?_), (D3.aCk ?_ ?_ ?_ ?_), (D3.aCk ?_ ?_ ?_ ?_), (D3.aCk ?_ ?_ ?_ ?_), (D3.aCk ?_ ?_ ?_ ?_), (D3.aCk ?_ ?_ ?_ ?_), (D3.aCk ?_ ?_ ?_ ?_), (D3.aCk ?_ ?_ ?_ ?_), (D3.YO KX G ?q0), (D3.YO KX G ?q1)⟩ hmg
    (case q0 => k_is)
    (case q1 => k_is)
    all_goals try k_is
