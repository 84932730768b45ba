import PyProof.Rows.All
import Wide.All
import OpenK.AllK
import Wide.FinOn
import Lean
import PyProof.EqAt
import PyProof.EqKinds
import PyProof.TupleCall
import PyProof.NeKinds
import PySem.Challenge.RW_maskwright_k02_regions_of_rectangles
set_option Elab.async false
set_option linter.all false
set_option maxRecDepth 100000
set_option maxHeartbeats 4000000
abbrev aGp := PySem.W.Frag
abbrev aCm := @PySem.wpAny_bind
abbrev aCn := @List.getElem?_eq_some_iff
abbrev aCo := @PySem.wpAny_pure
abbrev aCp := @PySem.Heap.get?_push_of_some
abbrev aCq := @List.mem_cons_self
abbrev aCr := @List.mem_cons_of_mem
abbrev aCs := @Nat.le_refl
abbrev aCt := @List.mem_append
abbrev aCu := @PySem.Heap.get?_push_size
abbrev aCv := @List.mem_cons
abbrev aCw := @PyProof.Rows.wpS_bind
abbrev aCx := @PySem.Heap.lt_size
abbrev aCy := @List.getElem?_eq_getElem
abbrev aCz := @List.mem_of_getElem?
abbrev aD0 := @PyProof.Rows.wpS_pure
abbrev aD1 := @List.mem_map
abbrev aD2 := @List.pairwise_append
abbrev aD3 := @List.mem_iff_getElem?
abbrev aD4 := @Option.some.inj
abbrev aD5 := @PySem.wpAny_call_entry
abbrev aD6 := @Nat.ne_of_lt
abbrev aD7 := @Nat.lt_of_lt_of_le
abbrev aD8 := @List.mem_append_right
abbrev aD9 := @PySem.W.mg_none_of
abbrev aDa := @PySem.wpAny_callSpecial?_slot
abbrev aDb := @List.pairwise_cons
abbrev aDc := @PySem.wpAny_newObj_type
abbrev aDd := @List.eq_nil_or_concat
abbrev aDe := @PySem.sizeLine_eq
abbrev aDf := @Nat.le_trans
abbrev aDg := @PySem.F.plainAttrs_list
abbrev aDh := @Iff.rfl
abbrev aDi := @PySem.F.slot_list_append
abbrev aDj := @PySem.F.type_list_append
abbrev aDk := @PySem.wpAny_setField_rec
abbrev aDl := @PySem.Heap.get?_update_other
abbrev aDm := @PySem.wpAny_holding
abbrev aDn := @List.mem_map_of_mem
abbrev aDo := @List.pairwise_iff_getElem
abbrev aDp := @PySem.PassesOwn.never
abbrev aDq := @List.mem_append_left
abbrev aDr := @Option.map_eq_some_iff
abbrev aDs := @PySem.wpAny_seqItems
abbrev aDt := @PyProof.Rows.slot_tuple_getitem
abbrev aDu := @PySem.wpAny_field
abbrev aDv := @PySem.Heap.get?_update_self
abbrev aDw := @Ne.symm
abbrev aDx := @Nat.lt_succ_of_lt
abbrev aDy := @PySem.mem_of_lookup
abbrev aDz := @PySem.Heap.SameBut.update
abbrev aE0 := @congrArg
abbrev aE1 := @List.length_eq_zero_iff
abbrev aE2 := @PySem.wpAny_rule
abbrev aE3 := @PySem.codeAny_builtin
abbrev aE4 := @bind_congr
abbrev aE5 := @PySem.wpAny_updateSeq
abbrev aE6 := @PySem.F.slot_zip_next
abbrev aE7 := @PySem.F.slot_dict_keyiterator_next
abbrev aE8 := @Int.le_refl
abbrev aE9 := @PyProof.Rows.callWith_type1
abbrev aEa := @Nat.lt_irrefl
abbrev aEb := @PySem.wpAny_attempt
abbrev aEc := @PyProof.Rows.wpS_forRange
abbrev aEd := @Nat.zero_le
abbrev aEe := @List.getElem?_eq_none_iff
abbrev aEf := @PySem.wpAny_mono
abbrev aEg := @Nat.lt_succ_self
abbrev aEh := @PySem.plainId_quiet
abbrev aEi := @List.getElem?_of_mem
abbrev aEj := @PySem.wpAny_typeNameOfWhole_keyiter
abbrev aEk := @PySem.wpAny_typeOf
abbrev aEm := @PySem.Calls.spliced_cons
abbrev aEn := @PySem.wpAny_Call_Name_kw
abbrev aEo := @PySem.F.slot_tuple_iterator_next
abbrev aEp := @PyProof.Rows.wpS_mono
abbrev aEq := @Classical.byContradiction
abbrev aEr := @decide_eq_false
abbrev aEs := @PySem.wpAny_passesOwn
abbrev aEt := @List.nodup_cons
abbrev aEu := @Nat.le_of_lt
abbrev aEv := @List.mem_of_mem_take
abbrev aEw := @PySem.wpAny_setState_of
abbrev aEx := @PySem.wpAny_setEntries_of
abbrev aEy := @Nat.le_of_not_lt
abbrev aEz := @List.Perm.append_right
abbrev aF0 := @PySem.F.called_set
abbrev aF1 := @Int.emod_lt_of_pos
abbrev aF2 := @List.Perm.append_left
abbrev aF3 := @List.perm_append_comm
abbrev aF4 := @List.take_append_drop
abbrev aF5 := @PySem.W.Looks.of_pure
abbrev aF6 := @PySem.wpAny_pyIter_slot
abbrev aF7 := @List.ext_getElem?
abbrev aF8 := @PySem.wpAny_newTuple
abbrev aF9 := @PySem.wpAny_fieldsOf
abbrev aFa := @List.mem_iff_getElem
abbrev aFb := @Nat.ne_of_gt
abbrev aFc := @PySem.codeAny_mono
abbrev aFd := @PySem.wpAny_isInstance
abbrev aFe := @List.getElem_mem
abbrev aFf := @List.mem_flatMap
abbrev aFg := @PySem.Calls.call_function_entry
abbrev aFh := @List.getElem?_zip_eq_some
abbrev aFi := @PyProof.Rows.F.entry_set_update_loop
abbrev aFj := @PySem.F.args_tuple_add_2
abbrev aFk := @PySem.F.slot_list_extend
abbrev aFl := @List.mem_filter
abbrev aFm := @Int.emod_nonneg
abbrev aFn := @PySem.F.entry_tuple_add
abbrev aFo := @PySem.wpAny_of_eq
abbrev aFp := @ite_congr
abbrev aFq := @PySem.wpAny_truthy_bool
abbrev aFr := @PySem.Calls.spliced_nil
abbrev aFs := @PySem.F.slot_tuple_add
abbrev aFt := @PySem.Calls.callWith_builtin
abbrev aFu := @PySem.F.args_zip_next_1
abbrev aFv := @List.take_of_length_le
abbrev aFw := @List.append_inj_right'
abbrev aFx := @List.length_filter_le
abbrev aFy := @PySem.F.slot_dict_get
abbrev aFz := @List.append_inj_left'
abbrev aG0 := @PySem.F.entry_zip_next
abbrev aG1 := @PyProof.Rows.wpS_modify
abbrev aG2 := @PySem.Calls.evalArgs_plain
abbrev aG3 := @PySem.wpAny_execs_nil
abbrev aG4 := @List.of_mem_zip
abbrev aG5 := @PySem.F.slot_zip_iter
abbrev aG6 := @PySem.wpAny_specialOf
abbrev aG7 := @PySem.wpAny_ite_split
abbrev aG8 := @PySem.F.slot_dict_setdefault
abbrev aG9 := @List.getElem_of_mem
abbrev aGa := @List.map_congr_left
abbrev aGb := @PySem.F.plain_extend_loop
abbrev aGc := @PySem.wpAny_load
abbrev aGd := @Bool.false_ne_true
abbrev aGe := @PySem.tupleKind_room_in1
abbrev aGf := @PySem.wpAny_setField
abbrev aGg := @PySem.Heap.size_push
abbrev aGh := @Nat.lt_or_eq_of_le
abbrev aGi := @List.take_sublist
abbrev aGj := @Nat.lt_trichotomy
abbrev aGk := @Nat.le_succ
abbrev aGl := @PySem.wpAny_newList
abbrev aGm := @PySem.W.mg_of
abbrev aGn := @Nat.lt_of_not_le
abbrev aGo := @Nat.min_eq_left
namespace L2
open PySem PySem.Spec PyProof.Rows
abbrev Key := Sum Int Str
def xP:Key->Value->Bool
 | .inl k,v=> Value.isInt k v
 | .inr x,v=> Value.isStrOf x v
def aC2 (w:World):Key->Int
 | .inl k=> hashInt k
 | .inr x=> hashStr w x
theorem cA:∀{k:Key} {v:Value},xP k v=true->(∃i t,k=Sum.inl i/\v=Value.int i t)\/(∃x t,k=Sum.inr x/\v=Value.str x t)
 | .inl i,v,h=> by
  obtain ⟨t,e⟩:=Value.isInt_shape (k:=i) (v:=v) h;exact .inl ⟨i,t,rfl,e⟩
 | .inr x,v,h=> by
  obtain ⟨t,e⟩:=Value.isStrOf_shape (x:=x) (v:=v) h;exact .inr ⟨x,t,rfl,e⟩
theorem IV (i:Int) (t:Tok):xP (.inl i) (.int i t)=true:=by simp [xP,Value.isInt]
theorem IU (x:Str) (t:Tok):xP (.inr x) (.str x t)=true:=by simp [xP,Value.isStrOf]
theorem U7 (a b:Int):decide ((Sum.inl a:Key)=Sum.inl b)=(a==b):=by
 by_cases e:a=b
 ·subst e;simp
 ·have h:¬(Sum.inl a:Key)=Sum.inl b:=λq=> e (Sum.inl.inj q);rw [decide_eq_false h];exact (beq_eq_false_iff_ne.mpr e).symm
theorem U4 (a b:Str):decide ((Sum.inr a:Key)=Sum.inr b)=decide (a=b):=by
 by_cases e:a=b
 ·subst e;simp
 ·have h:¬(Sum.inr a:Key)=Sum.inr b:=λq=> e (Sum.inr.inj q);rw [decide_eq_false h,decide_eq_false e]
theorem U6 (a:Int) (b:Str):decide ((Sum.inl a:Key)=Sum.inr b)=false:=aEr (λq=> nomatch q)
theorem U5 (a:Str) (b:Int):decide ((Sum.inr a:Key)=Sum.inl b)=false:=aEr (λq=> nomatch q)
def bA (prog:Program) (w:World):PySem.KeyKind prog w Key where
 is:=xP
 hash:=aC2 w
 inj:=λv a b ha hb=> by
  rcases cA ha with ⟨i,t,rfl,rfl⟩ | ⟨x,t,rfl,rfl⟩
  ·rcases cA hb with ⟨j,u,rfl,e⟩ | ⟨y,u,rfl,e⟩
   ·injection e with e1 _;rw [e1]
   ·exact nomatch e
  ·rcases cA hb with ⟨j,u,rfl,e⟩ | ⟨y,u,rfl,e⟩
   ·exact nomatch e
   ·injection e with e1 _;rw [e1]
 byValue:=λk v h=> by
  rcases cA h with ⟨i,t,rfl,rfl⟩ | ⟨x,t,rfl,rfl⟩ <;> rfl
 pyHash:=λhv h=> by
  rcases cA hv with ⟨i,t,rfl,rfl⟩ | ⟨x,t,rfl,rfl⟩
  ·exact wpAny_pyHash_int h
  ·exact wpAny_pyHash_str h
 eqBool:=λhu hv h=> by
  rcases cA hu with ⟨i,t,rfl,rfl⟩ | ⟨x,t,rfl,rfl⟩
  ·rcases cA hv with ⟨j,u,rfl,rfl⟩ | ⟨y,u,rfl,rfl⟩
   ·rw [U7] at h;exact wpAny_eqBool_int h
   ·rw [U6] at h;exact SeqAt.EqAt.int_str i t y u _ _ _ _ h
  ·rcases cA hv with ⟨j,u,rfl,rfl⟩ | ⟨y,u,rfl,rfl⟩
   ·rw [U5] at h;exact SeqAt.EqAt.str_int x t j u _ _ _ _ h
   ·rw [U4] at h;exact wpAny_eqBool_str h
 «strs»:=λk x t v h=> by
  rcases cA h with ⟨i,u,rfl,e⟩ | ⟨y,u,rfl,e⟩
  ·exact nomatch e
  ·injection e with e1 _;subst e1;cases v <;> rfl
theorem B4 (prog:Program) (w:World) (i:Int) (t:Tok):(bA prog w).is (.inl i) (.int i t)=true:=IV i t
theorem B3 (prog:Program) (w:World) (x:Str) (t:Tok):(bA prog w).is (.inr x) (.str x t)=true:=IU x t
inductive V where
 | cN | bl (b:Bool) | int (i:Int) | str (x:Str) | byt (b:Array UInt8) | flt (b:UInt64) | ref (a:Addr) | ty (n:String)
 deriving DecidableEq
def RelV:V->Value->Prop
 | .cN,u=> u=Value.none
 | .bl b,u=> u=Value.bool b
 | .int i,u=> ∃t,u=Value.int i t
 | .str x,u=> ∃t,u=Value.str x t
 | .byt b,u=> ∃t,u=Value.bytes b t
 | .flt b,u=> ∃t,u=Value.float b t
 | .ref a,u=> u=Value.ref a
 | .ty n,u=> u=Value.type n
abbrev Vals : List V -> List Value -> Prop := Paired RelV
theorem Vals.length {xs:List V} {us:List Value} (r:Vals xs us):xs.length=us.length:=Paired.length r
theorem Vals.get:∀{xs:List V} {us:List Value} {i:Nat} {x:V},Vals xs us->xs[i]? =some x->∃u,us[i]? =some u/\RelV x u
 | _,_,_,_,.nil,e=> by simp at e
 | _,_,0,_,.cons r _,e=> by simp at e;subst e;exact ⟨_,rfl,r⟩
 | _,_,i+1,x,.cons _ t,e=> by
  obtain ⟨u,h1,h2⟩:=Vals.get (i:=i) (x:=x) t (by simpa using e);exact ⟨u,by simpa using h1,h2⟩
theorem Vals.set {x:V} {u:Value} (r:RelV x u):∀{xs:List V} {us:List Value} (i:Nat),Vals xs us->Vals (xs.set i x) (us.set i u)
 | _,_,_,.nil=> .nil
 | _,_,0,.cons _ t=> .cons r t
 | _,_,i+1,.cons q t=> .cons q (Vals.set r i t)
theorem Vals.append:∀{xs ys:List V} {us ws:List Value},Vals xs us->Vals ys ws->Vals (xs++ys) (us++ws)
 | _,_,_,_,.nil,s=> s
 | _,_,_,_,.cons r t,s=> .cons r (Vals.append t s)
theorem Vals.take:∀{xs:List V} {us:List Value} (n:Nat),Vals xs us->Vals (xs.take n) (us.take n)
 | _,_,0,_=> .nil
 | _,_,_+1,.nil=> .nil
 | _,_,n+1,.cons r t=> .cons r (Vals.take n t)
theorem Vals.drop:∀{xs:List V} {us:List Value} (n:Nat),Vals xs us->Vals (xs.drop n) (us.drop n)
 | _,_,0,r=> r
 | _,_,_+1,.nil=> .nil
 | _,_,n+1,.cons _ t=> Vals.drop n t
theorem Vals.none_of:∀{xs:List V} {us:List Value} {i:Nat},Vals xs us->xs[i]? =none->us[i]? =none:=λ{xs us i} r e=> by
 have h1:=r.length;have h2:xs.length<=i:=aEe.mp e;exact aEe.mpr (by omega)
def sU:Option V->Option Value->Prop
 | some v,some u=> RelV v u
 | none,none=> True
 | _,_=> False
def KV {κ:Type}:List (κ×V)->List (κ×Value)->Prop:=Paired λ(p:κ×V) (q:κ×Value)=> p.1=q.1/\RelV p.2 q.2
def kV:Key->V
 | .inl i=> .int i
 | .inr x=> .str x
inductive HO where
 | lst (xs:List V)
 | tup (xs:List V)
 | dK (kvs:List (Key×V)) | dT (kvs:List (List Key×V))
 | set (S:Int->Bool) (n:Nat)
 | ins (C dx:Addr) (fs:List (Str×V))
 | own (x:Addr)
 | xd (fs:List (Str×V))
 | met (f x:Addr)
 | rng (lo hi:Int)
 | frz (o:Obj) (u:HO)
 | tbl (ps:Array Value)
 | ext (φ:Heap->Prop)
abbrev Hp := Addr -> Option HO
def upd (H:Hp) (a:Addr) (o:HO):Hp:=λb=> if b=a then some o else H b
theorem cE {H:Hp} {a:Addr} {o:HO}:upd H a o a=some o:=by unfold upd;rw [if_pos rfl]
theorem aV {H:Hp} {a b:Addr} {o:HO} (h:b≠a):upd H a o b=H b:=by unfold upd;rw [if_neg h]
theorem YO {H:Hp} {a b:Addr} {o u:HO} (h:H a=some o) (h' :H b=some u) (d:o≠u):a≠b:=by
 intro e;subst e;rw [h] at h';exact d (aD4 h')
theorem bY {H:Hp} {a b:Addr} {o:HO} (h:H a=some o) (h' :H b=none):a≠b:=by
 intro e;subst e;rw [h] at h';cases h'
theorem yT (h:Heap) (items:Array Value):∀o,(h.push {cls:= .type "tuple",data:= .seq items}).get? h.objs.size=some o->o.dict=none:=λo e=> by rw [Heap.get?_push_size _ rfl] at e;cases e;rfl
section
variable (P:Program) (w:World)
def dM (H:Hp) (h:Heap) (a:Addr):HO->Prop
 | .lst xs=> xs.length<=sizeLine/\∃(aL:List Value) (n:Nat),Vals xs aL/\h.get? a=some {cls:= .type "list",data:= .seq aL.toArray n}
 | .tup xs=> xs.length<=sizeLine/\∃aL:List Value,Vals xs aL/\IsTup h a aL.toArray/\∀o,h.get? a=some o->o.dict=none
 | .dK kvs=> kvs.length<=sizeLine/\(a==sysModules)=false/\∃vs,KV kvs vs/\h.DictOf (bA P w) a vs
 | .dT kvs=> kvs.length<=sizeLine/\(a==sysModules)=false/\∃xs:List (List Key×Addr×Value),
   Paired (λ(p:List Key×V) (q:List Key×Addr×Value)=> p.1=q.1/\H q.2.1=some (.tup (p.1.map kV))/\RelV p.2 q.2.2) kvs xs/\
   ∃o es ep,h.get? a=some o/\o.ExactDict/\o.data= .dict es ep/\es.toList=xs.map (entryOfKey (tupleKind (bA P w)))/\(xs.map (·.1)).Nodup
 | .set S n=> h.SetOf (intKind P w) a S n
 | .ins C dx fs=> H dx=some (.own a)/\fs.length<=1000/\dx≠a/\h.get? a=some (PySem.W.instObj C dx)/\
   ∃mA,h.Ns1 dx mA/\(∀f,sU (fs.lookup f) (mA f))/\PySem.Within mA (fs.map (·.1))
 | .own _=> ∃o,h.get? a=some o
 | .xd fs=> ∃mA,h.Ns1 a mA/\∀f,sU (fs.lookup f) (mA f)
 | .rng lo hi=> ∃t u v,h.get? a=some {cls:= .type "range",data:= .fields #[.int lo t,.int hi u,.int 1 v]}
 | .frz o u=> h.get? a=some o/\dM H h a u
 | .tbl ps=> h.get? a=some {cls:= .none,data:= .fields ps}
 | .met f x=> h.get? a=some (PySem.W.methodObj (.ref f) (.ref x))
 | .ext φ=> φ h/\(∃o,h.get? a=some o)/\∀h1 h2:Heap,φ h1->(∀o,h1.get? a=some o->h2.get? a=some o)->φ h2
def qV (H:Hp) (h:Heap):Prop:=∀a o,H a=some o->dM P w H h a o
end
section
variable {P:Program} {w:World} {H H' :Hp} {h h' :Heap} {a:Addr} {o:HO}
theorem dM.lt (x:dM P w H h a o):a < h.objs.size:=by
 cases o with
 | lst xs=> obtain ⟨_,_,_,_,e⟩:=x;exact aCx e
 | tup xs=> obtain ⟨_,_,_,p,_⟩:=x;exact p.lt
 | dK kvs=> obtain ⟨_,_,_,_,o,_,_,e,_⟩:=x;exact aCx e
 | dT kvs=> obtain ⟨_,_,_,_,o,_,_,e,_⟩:=x;exact aCx e
 | set S n=> obtain ⟨o,_,_,_,e,_⟩:=x;exact aCx e
 | ins C dx fs=> obtain ⟨_,_,_,e,_⟩:=x;exact aCx e
 | own y=> obtain ⟨_,e⟩:=x;exact aCx e
 | xd fs=> obtain ⟨_,⟨_,_,_,e,_⟩,_⟩:=x;exact aCx e
 | rng lo hi=> obtain ⟨_,_,_,e⟩:=x;exact aCx e
 | frz ob u=> obtain ⟨e,_⟩:=x;exact aCx e
 | tbl ps=> exact aCx (show h.get? a=some _ from x)
 | met f y=> exact aCx (show h.get? a=some _ from x)
 | ext φ=> obtain ⟨_,⟨_,e⟩,_⟩:=x;exact aCx e
theorem Paired.UQ {α β:Type} {F G:α->β->Prop}:∀{l₁:List α} {l₂:List β},Paired F l₁ l₂->(∀a b,F a b->G a b)->Paired G l₁ l₂
 | _,_,.nil,_=> .nil
 | _,_,.cons r t,f=> .cons (f _ _ r) (Paired.UQ t f)
theorem dM.sP (x:dM P w H h a o) (k:∀b u,(b=a\/H b=some (.own a))->h.get? b=some u->h'.get? b=some u)
  (ho:∀b,H b=some (.own a)->H' b=some (.own a)) (ht:∀b xs,H b=some (.tup xs)->H' b=some (.tup xs)):dM P w H' h' a o:=by
 induction o with
 | lst xs=> obtain ⟨z,aL,n,r,e⟩:=x;exact ⟨z,aL,n,r,k _ _ (.inl rfl) e⟩
 | tup xs=> obtain ⟨z,aL,r,⟨ob,e,c⟩,nd⟩:=x;exact ⟨z,aL,r,⟨ob,k _ _ (.inl rfl) e,c⟩,λo' e' => by rw [k _ _ (.inl rfl) e] at e';cases e';exact nd _ e⟩
 | dK kvs=> obtain ⟨z,y,vs,r,ob,es,ep,e,c⟩:=x;exact ⟨z,y,vs,r,ob,es,ep,k _ _ (.inl rfl) e,c⟩
 | dT kvs=>
  obtain ⟨z,y,xs,r,ob,es,ep,e,c⟩:=x;exact ⟨z,y,xs,Paired.UQ r λp q z=> ⟨z.1,ht _ _ z.2.1,z.2.2⟩,ob,es,ep,k _ _ (.inl rfl) e,c⟩
 | set S n=> obtain ⟨ob,es,ep,t,e,c⟩:=x;exact ⟨ob,es,ep,t,k _ _ (.inl rfl) e,c⟩
 | ins C dx fs=>
  obtain ⟨d,z,ne,e,mA,⟨od,es,ep,e2,c⟩,r⟩:=x;exact ⟨ho _ d,z,ne,k _ _ (.inl rfl) e,mA,⟨od,es,ep,k _ _ (.inr d) e2,c⟩,r⟩
 | own y=> obtain ⟨ob,e⟩:=x;exact ⟨ob,k _ _ (.inl rfl) e⟩
 | xd fs=> obtain ⟨mA,⟨od,es,ep,e,c⟩,r⟩:=x;exact ⟨mA,⟨od,es,ep,k _ _ (.inl rfl) e,c⟩,r⟩
 | rng lo hi=> obtain ⟨t,u,v,e⟩:=x;exact ⟨t,u,v,k _ _ (.inl rfl) e⟩
 | frz ob u ih=> obtain ⟨e,q⟩:=x;exact ⟨k _ _ (.inl rfl) e,ih q⟩
 | tbl ps=>
  have e:h.get? a=some {cls:= .none,data:= .fields ps}:=x;show h'.get? a=some {cls:= .none,data:= .fields ps};exact k a _ (.inl rfl) e
 | met f y=>
  have e:h.get? a=some (PySem.W.methodObj (.ref f) (.ref y)):=x;show h'.get? a=some (PySem.W.methodObj (.ref f) (.ref y));exact k a _ (.inl rfl) e
 | ext φ=> obtain ⟨p,⟨o,e⟩,st⟩:=x;exact ⟨st _ _ p λo q=> k _ _ (.inl rfl) q,⟨o,k _ _ (.inl rfl) e⟩,st⟩
theorem qV.lt (x:qV P w H h) (e:H a=some o):a < h.objs.size:=(x a o e).lt
theorem qV.fresh (x:qV P w H h) (e:h.objs.size<=a):H a=none:=by
 cases q:H a with
 | none=> rfl
 | some u=> exact absurd (aD7 (x.lt q) e) (aEa _)
theorem qV.kept (x:qV P w H h) (k:∀b u,h.get? b=some u->h'.get? b=some u):qV P w H h' :=λa o e=>
 (x a o e).sP (λb u _ q=> k b u q) (λ_ q=> q) λ_ _ q=> q
theorem qV.laid (x:qV P w H h) (k:∀b u,h.get? b=some u->h'.get? b=some u) (hp:h.objs.size<=a) (new:dM P w (upd H a o) h' a o):qV P w (upd H a o) h' :=λb u e=> by
 have hn:=x.fresh hp;by_cases hb:b=a
 ·subst hb;rw [cE] at e;cases e;exact new
 ·rw [aV hb] at e;exact (x b u e).sP (λc v _ q=> k c v q) (λc q=> by rw [aV (bY q hn)];exact q) λc xs q=> by rw [aV (bY q hn)];exact q
end
def Rd (H:Hp) (a:Addr) (u:HO):Prop:=H a=some u\/∃o,H a=some (.frz o u)
theorem Rd.ok {P:Program} {w:World} {H:Hp} {h:Heap} {a:Addr} {u:HO} (r:Rd H a u) (x:qV P w H h):dM P w H h a u:=by
 rcases r with r | ⟨o,r⟩
 ·exact x a u r
 ·obtain ⟨_,q⟩:=x a _ r;exact q
def JV:Option HO->Prop
 | some (.lst _)=> True
 | some (.dK _)=> True
 | some (.dT _)=> True
 | some (.set _ _)=> True
 | some (.ins _ _ _)=> True
 | some (.ext _)=> True
 | _=> False
section
variable {P:Program} {w:World} {H:Hp} {h h' :Heap} {x e:Addr} {o' :HO}
theorem qV.write (ok:qV P w H h) (mu:JV (H x)) (he:e=x\/H e=some (.own x)) (k:∀b u,b≠e->h.get? b=some u->h'.get? b=some u) (heo:∃u,h'.get? e=some u)
  (new:dM P w (upd H x o') h' x o'):qV P w (upd H x o') h' :=λb u q=> by
 have nown:∀c y,H c=some (.own y)->c≠x:=λc y r z=> by subst z;rw [r] at mu;exact mu
 have ntup:∀c xs,H c=some (.tup xs)->c≠x:=λc xs r z=> by subst z;rw [r] at mu;exact mu
 by_cases hb:b=x
 ·subst hb;rw [cE] at q;cases q;exact new
 ·rw [aV hb] at q;by_cases hbe:b=e
  ·have q' :H b=some (.own x):=by
    rcases he with z | z
    ·exact absurd (hbe.trans z) hb
    ·rw [hbe];exact z
   rw [q] at q';cases q';obtain ⟨v,hv⟩:=heo;exact ⟨v,by rw [hbe];exact hv⟩
  ·refine (ok b u q).sP (λc v hc r=> k c v ?_ r) (λc r=> by rw [aV (nown c b r)];exact r) λc xs r=> by rw [aV (ntup c xs r)];exact r
   rcases hc with rfl | hc
   ·exact hbe
   ·rintro rfl;rcases he with z | z
    ·exact nown c b hc z
    ·rw [hc] at z;cases z;exact hb rfl
end
structure Un (fs ex:List Addr) (H H' :Hp) (h h' :Heap):Prop where
 keep:∀b o,h.get? b=some o->H b=none->b∉fs->b∉ex->h'.get? b=some o
 slot:∀b o,h.get? b=some o->H b=none->b∈fs->b∉ex->∃sl,h'.get? b=some {o with slots:=sl}
 free:∀b o,h.get? b=some o->H b=none->b∉ex->H' b=none
 there:∀b o,h.get? b=some o->b∉ex->∃o',h'.get? b=some o'
 A9:∀b xs,H b=some (.tup xs)->H' b=some (.tup xs)
 zU:∀b o u,H b=some (.frz o u)->H' b=some (.frz o u)
 BB:∀b ps,H b=some (.tbl ps)->∃more,H' b=some (.tbl (ps++more))
section
variable {fs fs' ex ex' :List Addr} {H H1 H2:Hp} {h h1 h2 h' :Heap} {a x e:Addr} {o:HO}
theorem Un.any (u:Un fs ex H H1 h h1) {b:Addr} {ob:Obj} (q:h.get? b=some ob) (n:H b=none) (hx:b∉ex):∃sl,h1.get? b=some {ob with slots:=sl}:=by
 by_cases hb:b∈fs
 ·exact u.slot b ob q n hb hx
 ·exact ⟨ob.slots,u.keep b ob q n hb hx⟩
theorem Un.kept (k:∀b u,h.get? b=some u->h'.get? b=some u):Un fs ex H H h h' :=
 ⟨λb ob q _ _ _=> k b ob q,λb ob q _ _ _=> ⟨ob.slots,k b ob q⟩,λ_ _ _ n _=> n,λb ob q _=> ⟨ob,k b ob q⟩,λ_ _ q=> q,λ_ _ _ q=> q,λ_ ps q=> ⟨#[],by rw [q];simp⟩⟩
theorem Un.refl:Un fs ex H H h h:=Un.kept λ_ _ q=> q
theorem Un.laid (k:∀b u,h.get? b=some u->h'.get? b=some u) (hp:h.objs.size<=a) (hn:H a=none):Un fs ex H (upd H a o) h h' where
 keep:=λb u q _ _ _=> k b u q
 slot:=λb u q _ _ _=> ⟨u.slots,k b u q⟩
 free:=λb u q n _=> by rw [aV (Nat.ne_of_lt (Nat.lt_of_lt_of_le (Heap.lt_size q) hp))];exact n
 there:=λb u q _=> ⟨u,k b u q⟩
 A9:=λb xs q=> by rw [aV (bY q hn)];exact q
 zU:=λb u xs q=> by rw [aV (bY q hn)];exact q
 BB:=λb ps q=> ⟨#[],by rw [aV (bY q hn),q];simp⟩
theorem Un.write (mu:JV (H x)) (he:e=x\/H e=some (.own x)) (k:∀b u,b≠e->h.get? b=some u->h'.get? b=some u) (heo:∃u,h'.get? e=some u):Un fs ex H (upd H x o) h h' :=by
 have hx:∀b,H b=none->b≠x:=λb n z=> by subst z;rw [n] at mu;exact mu
 have hb:∀b,H b=none->b≠e:=λb n z=> by
  subst z;rcases he with r | r
  ·exact hx b n r
  ·rw [n] at r;cases r
 have hm:∀b u,H b=some u->¬JV (some u)->b≠x:=λb u q nm z=> by subst z;rw [q] at mu;exact nm mu
 refine ⟨λb u q n _ _=> k b u (hb b n) q,λb u q n _ _=> ⟨u.slots,k b u (hb b n) q⟩,λb u q n _=> by rw [aV (hx b n)];exact n,λb u q _=> ?_,
  λb xs q=> by rw [aV (hm b _ q λz=> z)];exact q,λb u xs q=> by rw [aV (hm b _ q λz=> z)];exact q,λb ps q=> ⟨#[],by rw [aV (hm b _ q λz=> z),q];simp⟩⟩
 by_cases hbe:b=e
 ·subst hbe;exact heo
 ·exact ⟨u,k b u hbe q⟩
end
def ZU (h:Heap) (H:Hp):List Addr:=(List.range h.objs.size).filter λa=> (H a).isSome
def zS (h:Heap) (H:Hp):Heap:=PySem.W.hideAll h (ZU h H)
theorem JA (h:Heap) (H:Hp):(zS h H).objs.size=h.objs.size:=PySem.W.hideAll_size _ _
theorem MR {h:Heap} {H:Hp} {b:Addr} {o:Obj} (e:h.get? b=some o) (n:H b=none):(zS h H).get? b=some o:=
 PySem.W.hideAll_get _ e λhm=> by
  have q:(H b).isSome=true:=(aFl.mp hm).2;rw [n] at q;simp at q
theorem P7 {h:Heap} {H:Hp} {b:Addr} {o:Obj} (e:(zS h H).get? b=some o):h.get? b=some o/\H b=none:=by
 have e' :h.get? b=some o:=PySem.W.of_hideAll (ZU h H) e;refine ⟨e',?_⟩
 cases q:H b with
 | none=> rfl
 | some x=>
  have hm:b∈ZU h H:=aFl.mpr ⟨List.mem_range.mpr (aCx e'),by simp [q]⟩;have z:(zS h H).get? b=none:=PySem.W.hideAll_none (ZU h H) hm;rw [z] at e;cases e
structure Mod (K:aGp) (mg:Str->Option Value) (base:Heap):Prop where
 kin:K.In base
 glob:base.Ns mainGlobals mg
 blt:∃mb,base.Ns builtinsNs mb/\∀x:Str,x≠ "__name__"->mb x=bootBuiltins x
 nolimit:base.NoLimit
structure Cx where
 prog:Program
 w:World
 K:aGp
 mg:Str->Option Value
 base:Heap
 A:Around
 N:List Str
 s₀:Shared
 H₀:Hp
 env:Env
 outer:List Env
 stack:List Env
 ex:List Addr
 fn:Str->Bool
 calm:Bool
 pn:List (Addr×Obj)
 xe:Value->Shared->Prop
def M8 (l:List Env):List Addr:=l.filterMap (·.frame)
abbrev Cx.fs (X : Cx) : List Addr := M8 X.outer
def ZM (sc:Scope) (x:Str):Prop:=sc.names.lookup x=some .local\/sc.names.lookup x=some .cell\/sc.names.lookup x=some .free
def Loc (sc:Scope) (x:Str):Prop:=sc.names.lookup x=some .local\/sc.names.lookup x=some .cell
def Look (env:Env) (h:Heap) (m:Str->Option Value) (x:Str) (u:Value):Prop:=
 (env.kindOf x=some .local/\m x=some u)\/((env.kindOf x=some .cell\/env.kindOf x=some .free)/\∃c,env.cells.lookup x=some c/\h.IsCell c (some u))
structure Cx.Ok (X:Cx):Prop where
 mod:Mod X.K X.mg X.base
 kind:X.env.scope.kind= .function
 glob:X.env.globals=mainGlobals
 blt:X.env.builtins=builtinsNs
 above:X.s₀.heap.objs.size<=X.env.locals
 inj:∀x y c,X.env.cells.lookup x=some c->X.env.cells.lookup y=some c->x=y
 has:∀x,(X.env.kindOf x=some .cell\/X.env.kindOf x=some .free)->∃c,X.env.cells.lookup x=some c
 ZG:∀x c,X.fn x=true->X.env.cells.lookup x=some c->X.s₀.heap.objs.size<=c
 hd:X.calm=true->X.A.handled=none
 frames:X.A.frames=some X.stack
 ZX:X.stack=X.outer\/(X.stack=X.env::X.outer/\X.env.frame=some X.env.locals)
 exf:∀b∈X.ex,b≠X.env.locals/\∀x c,X.env.cells.lookup x=some c->c≠b
 bs:∀b o,X.base.get? b=some o->X.s₀.heap.get? b=some o/\X.H₀ b=none
 Q8:X.base.objs.size<=X.s₀.heap.objs.size
 LN:∀b o,X.base.get? b=some o->b∉X.ex
 NB:∀b∈X.ex,b∉X.fs
 vL:X.s₀.heap.FunFrames X.base X.outer
 WN:∀b∈X.fs,X.H₀ b=none
structure Inv (X:Cx) (pins:List (Addr×Obj)) (σ:List (Option V)) (H:Hp) (s:Shared):Prop where
 ok:X.Ok
 os:s.os=X.s₀.os
 bare:AllBare s.gens
 base:Un X.fs X.ex X.H₀ H X.s₀.heap s.heap
 loc:∃m,s.heap.Ns X.env.locals m/\∀(i:Nat) (x:Str) (v:V),X.N[i]? =some x->σ[i]? =some (some v)->ZM X.env.scope x->∃u,RelV v u/\Look X.env s.heap m x u
 cell:∀x c,X.env.cells.lookup x=some c->∃v,s.heap.IsCell c v
 free:H X.env.locals=none
 mM:∀x c,X.env.cells.lookup x=some c->H c=none
 pin:∀p∈X.pn++pins,s.heap.get? p.1=some p.2/\H p.1=none/\p.1≠X.env.locals/\p.1∉X.fs/\∀v,p.2.data≠ .cell v
 cG:qV X.prog X.w H s.heap
 len:σ.length=X.N.length
section
variable {X:Cx} {pins:List (Addr×Obj)} {σ:List (Option V)} {H H' :Hp} {s:Shared} {h' :Heap}
theorem Cx.Ok.aBx (ok:X.Ok) {b:Addr} {o:Obj} (e:X.base.get? b=some o):b∉X.fs:=λhb=> by
 have:=(ok.vL.mem hb).1;rw [e] at this;cases this
theorem Inv.bs (I:Inv X pins σ H s):∀b o,X.base.get? b=some o->s.heap.get? b=some o/\H b=none:=λb o e=>
 ⟨I.base.keep b o (I.ok.bs b o e).1 (I.ok.bs b o e).2 (I.ok.aBx e) (I.ok.LN b o e),I.base.free b o (I.ok.bs b o e).1 (I.ok.bs b o e).2 (I.ok.LN b o e)⟩
theorem Inv.bk (I:Inv X pins σ H s):∀b o,X.base.get? b=some o->s.heap.get? b=some o:=λb o e=> (I.bs b o e).1
theorem Inv.mod (I:Inv X pins σ H s):Mod X.K X.mg X.base:=I.ok.mod
theorem Inv.U8 (I:Inv X pins σ H s):X.K.In s.heap:=I.ok.mod.kin.keeps I.bk
theorem Inv.fr (I:Inv X pins σ H s):∃m,Fr X.base X.env.locals s.heap m:=
 let ⟨m,hn,_⟩:=I.loc
 ⟨m,hn,I.bk,aDf I.ok.Q8 I.ok.above⟩
theorem Inv.lt (I:Inv X pins σ H s):X.env.locals < s.heap.objs.size:=let ⟨_,hn,_⟩:=I.loc;hn.lt
theorem Inv.sz (I:Inv X pins σ H s):X.s₀.heap.objs.size<=s.heap.objs.size:=aDf I.ok.above (aEu I.lt)
theorem Inv.aBw (I:Inv X pins σ H s) {a:Addr} (h:s.heap.objs.size<=a):a∉X.fs:=λhb=> by
 obtain ⟨_,o,ho,_⟩:=I.ok.vL.mem hb;exact absurd (aD7 (aCx ho) (aDf I.sz h)) (aEa _)
theorem Inv.Q4 (I:Inv X pins σ H s):∀x c,X.env.cells.lookup x=some c->c≠X.env.locals:=λx c e z=> by
 obtain ⟨v,o,ho,hd⟩:=I.cell x c e;obtain ⟨m,⟨o',es,ep,ho',hd',_⟩,_⟩:=I.loc;rw [z,ho'] at ho;cases ho;rw [hd'] at hd;cases hd
theorem Inv.vL (I:Inv X pins σ H s):s.heap.FunFrames X.base X.outer:=by
 have all:∀(l:List Env),(∀b∈M8 l,b∈X.fs)->X.s₀.heap.FunFrames X.base l->s.heap.FunFrames X.base l:=by
  intro l
  induction l with
  | nil=> intro _ _;trivial
  | cons env r ih=>
   intro hs hl;obtain ⟨hk,⟨L,o,hf,hn,ho,hd⟩,hr⟩:=hl;have hL:L∈X.fs:=hs L (by unfold M8;rw [List.filterMap_cons,hf];exact aCq);obtain ⟨sl,e⟩:=I.base.slot L o ho (I.ok.WN L hL) hL λz=> I.ok.NB L z hL;exact ⟨hk,⟨L,_,hf,hn,e,hd⟩,ih (λb hb=> hs b (by unfold M8;rw [List.filterMap_cons,hf];exact aCr _ hb)) hr⟩
 exact all X.outer (λ_ hb=> hb) I.ok.vL
theorem Inv.stack (I:Inv X pins σ H s):s.heap.FunFrames X.base X.stack:=by
 rcases I.ok.ZX with e | ⟨e,hf⟩
 ·rw [e];exact I.vL
 ·rw [e];obtain ⟨m,hn,_⟩:=I.loc;refine .cons (by rw [I.ok.kind];decide) hf hn ?_ I.vL;exact Heap.get?_none_of_le (aDf I.ok.Q8 I.ok.above)
theorem Inv.D7 (I:Inv X pins σ H s):∀b∈M8 X.stack,b∈X.env.locals::X.fs:=λb hb=> by
 rcases I.ok.ZX with e | ⟨e,hf⟩
 ·rw [e] at hb;exact aCr _ hb
 ·rw [e] at hb;unfold M8 at hb;rw [List.filterMap_cons,hf] at hb;exact hb
theorem Inv.GD (I:Inv X pins σ H s):∀b∈M8 X.stack,H b=none:=λb hb=> by
 rcases aCv.mp (I.D7 b hb) with e | hb
 ·rw [e];exact I.free
 ·obtain ⟨_,o,ho,_⟩:=I.ok.vL.mem hb;exact I.base.free b o ho (I.ok.WN b hb) λz=> I.ok.NB b z hb
theorem Inv.step {g' :Array GenState} {t' :Nat} {d' :Drawn} {ch:List Addr} (I:Inv X pins σ H s)
  (hch:∀b∈ch,(b∈X.ex\/X.s₀.heap.objs.size<=b)/\b≠X.env.locals/\(∀x c,X.env.cells.lookup x=some c->c≠b)/\∀p∈X.pn++pins,p.1≠b)
  (keep:∀b o,b≠X.env.locals->b∉X.fs->b∉ch->s.heap.get? b=some o->H b=none->h'.get? b=some o)
  (slot:∀b o,b≠X.env.locals->b∈X.fs->b∉ch->s.heap.get? b=some o->H b=none->∃sl,h'.get? b=some {o with slots:=sl}) (free:∀b o,b∉ch->s.heap.get? b=some o->H b=none->H' b=none)
  (there:∀b o,b∉ch->s.heap.get? b=some o->∃o',h'.get? b=some o')
  (A9:∀b xs,H b=some (.tup xs)->H' b=some (.tup xs)) (zU:∀b o u,H b=some (.frz o u)->H' b=some (.frz o u)) (BB:∀b ps,H b=some (.tbl ps)->∃more,H' b=some (.tbl (ps++more)))
  (ns:∀m,s.heap.Ns X.env.locals m->h'.Ns X.env.locals m) (cG:qV X.prog X.w H' h') (hg:AllBare g'):
  Inv X pins σ H' {s with heap:=h',gens:=g',drawn:=d',toks:=t'}:=by
 have neL:∀b o,X.s₀.heap.get? b=some o->b≠X.env.locals:=λb o e=> aD6 (aD7 (aCx e) I.ok.above)
 have neC:∀b o,X.s₀.heap.get? b=some o->b∉X.ex->b∉ch:=λb o e hx hb=> by
  rcases (hch b hb).1 with z | z
  ·exact hx z
  ·exact absurd (aD7 (aCx e) z) (aEa _)
 have cellK:∀x c,X.env.cells.lookup x=some c->∀v,s.heap.IsCell c v->h'.IsCell c v:=λx c e v ⟨o,ho,hd⟩=> by
  have nch:c∉ch:=λz=> (hch c z).2.2.1 x c e rfl;by_cases hc:c∈X.fs
  ·obtain ⟨sl,q⟩:=slot c o (I.Q4 x c e) hc nch ho (I.mM x c e);exact ⟨_,q,hd⟩
  ·exact ⟨o,keep c o (I.Q4 x c e) hc nch ho (I.mM x c e),hd⟩
 refine ⟨I.ok,I.os,hg,⟨λb o e n hb hx=> ?_,λb o e n hb hx=> ?_,λb o e n hx=> ?_,λb o e hx=> ?_,λb xs e=> A9 b xs (I.base.A9 b xs e),λb o xs e=> zU b o xs (I.base.zU b o xs e),λb ps e=> ?_⟩,?_,λx c e=> ?_,?_,λx c e=> ?_,λp hp=> ?_,cG,I.len⟩
 ·exact keep b o (neL b o e) hb (neC b o e hx) (I.base.keep b o e n hb hx) (I.base.free b o e n hx)
 ·obtain ⟨sl,e1⟩:=I.base.slot b o e n hb hx;obtain ⟨sl',e2⟩:=slot b _ (neL b o e) hb (neC b o e hx) e1 (I.base.free b o e n hx);exact ⟨sl',e2⟩
 ·obtain ⟨o',e1⟩:=I.base.there b o e hx;exact free b o' (neC b o e hx) e1 (I.base.free b o e n hx)
 ·obtain ⟨o',e1⟩:=I.base.there b o e hx;exact there b o' (neC b o e hx) e1
 ·obtain ⟨m1,e1⟩:=I.base.BB b ps e;obtain ⟨m2,e2⟩:=BB b _ e1;exact ⟨m1++m2,by rw [e2,Array.append_assoc]⟩
 ·obtain ⟨m,hn,hl⟩:=I.loc;refine ⟨m,ns m hn,λi x v e1 e2 e3=> ?_⟩;obtain ⟨u,r,l⟩:=hl i x v e1 e2 e3;refine ⟨u,r,?_⟩;rcases l with l | ⟨k,c,e,z⟩
  ·exact .inl l
  ·exact .inr ⟨k,c,e,cellK x c e _ z⟩
 ·obtain ⟨v,z⟩:=I.cell x c e;exact ⟨v,cellK x c e v z⟩
 ·obtain ⟨m,⟨o,_,_,ho,_⟩,_⟩:=I.loc;exact free _ o (λz=> (hch _ z).2.1 rfl) ho I.free
 ·obtain ⟨v,o,ho,hd⟩:=I.cell x c e;exact free c o (λz=> (hch c z).2.2.1 x c e rfl) ho (I.mM x c e)
 ·obtain ⟨e,n,ne,nf,d⟩:=I.pin p hp;have nch:p.1∉ch:=λz=> (hch p.1 z).2.2.2 p hp rfl;exact ⟨keep p.1 p.2 ne nf nch e n,free p.1 p.2 nch e n,ne,nf,d⟩
theorem Inv.un {t' :Nat} (I:Inv X pins σ H s) (u:Un X.fs [] H H' s.heap h') (cG:qV X.prog X.w H' h'):Inv X pins σ H' {s with heap:=h',toks:=t'}:=by
 obtain ⟨m,⟨o,es,ep,ho,r⟩,_⟩:=id I.loc;obtain ⟨sl,hL⟩:=u.any ho I.free (by simp)
 exact I.step (g' :=s.gens) (d' :=s.drawn) (ch:=[]) (λ_ z=> nomatch z) (λb o _ hb _ e n=> u.keep b o e n hb (by simp)) (λb o _ hb _ e n=> u.slot b o e n hb (by simp)) (λb o _ e n=> u.free b o e n (by simp)) (λb o _ e=> u.there b o e (by simp)) u.A9 u.zU u.BB (λm' hm=> by
  obtain ⟨o',es',ep',ho',r'⟩:=hm;rw [ho] at ho';cases ho'
  exact ⟨_,es',ep',hL,r'⟩) cG I.bare
theorem Inv.call {g' :Array GenState} {t' :Nat} {d' :Drawn} {ch:List Addr} (I:Inv X pins σ H s) (u:Un (M8 X.stack) ch H H' s.heap h') (cG:qV X.prog X.w H' h') (hg:AllBare g')
  (hch:∀b∈ch,(b∈X.ex\/X.s₀.heap.objs.size<=b)/\b≠X.env.locals/\(∀x c,X.env.cells.lookup x=some c->c≠b)/\∀p∈X.pn++pins,p.1≠b):
  Inv X pins σ H' {s with heap:=h',gens:=g',drawn:=d',toks:=t'}:=by
 obtain ⟨m,⟨o,es,ep,ho,r⟩,_⟩:=id I.loc;obtain ⟨sl,hL⟩:=u.any ho I.free λz=> (hch _ z).2.1 rfl
 exact I.step (ch:=ch) hch (λb o hL hb hc e n=> u.keep b o e n (λz=> (aCv.mp (I.D7 b z)).elim hL hb) hc) (λb o _ _ hc e n=> u.any e n hc) (λb o hc e n=> u.free b o e n hc) (λb o hc e=> u.there b o e hc) u.A9 u.zU u.BB (λm' hm=> by
  obtain ⟨o',es',ep',ho',r'⟩:=hm;rw [ho] at ho';cases ho'
  exact ⟨_,es',ep',hL,r'⟩) cG hg
theorem Inv.turned {t' :Nat} {it:Addr} (I:Inv X pins σ H s) (k:∀b o,b≠it->s.heap.get? b=some o->h'.get? b=some o) (hn:H it=none) (hL:it≠X.env.locals)
  (h1:it∈X.ex\/X.s₀.heap.objs.size<=it) (h2:∀x c,X.env.cells.lookup x=some c->c≠it) (h3:∀p∈X.pn++pins,p.1≠it):Inv X pins σ H {s with heap:=h',toks:=t'}:=by
 have nit:∀b u,H b=some u->b≠it:=λb u e z=> by rw [z,hn] at e;cases e
 refine I.step (g' :=s.gens) (d' :=s.drawn) (ch:=[it]) (λb hb=> ?_) (λb o _ _ hc e _=> k b o (λz=> hc (by simp [z])) e) (λb o _ _ hc e _=> ⟨o.slots,k b o (λz=> hc (by simp [z])) e⟩) (λ_ _ _ _ n=> n)
  (λb o hc e=> ⟨o,k b o (λz=> hc (by simp [z])) e⟩) (λ_ _ e=> e) (λ_ _ _ e=> e) (λb ps e=> ⟨#[],by rw [e];simp⟩) (λm hm=> ?_) (λb u e=> ?_) I.bare
 ·have e:b=it:=by simpa using hb
  subst e;exact ⟨h1,hL,h2,h3⟩
 ·obtain ⟨o,es,ep,ho,r⟩:=hm;exact ⟨o,es,ep,k _ o (aDw hL) ho,r⟩
 ·refine (I.cG b u e).sP (λc v hc q=> k c v ?_ q) (λ_ q=> q) λ_ _ q=> q;rcases hc with z | z
  ·rw [z];exact nit b u e
  ·exact nit c _ z
theorem Inv.tok (I:Inv X pins σ H s) (t:Nat):Inv X pins σ H {s with toks:=t}:=I.un (h' :=s.heap) (t' :=t) Un.refl I.cG
theorem Inv.kept {t' :Nat} (I:Inv X pins σ H s) (k:∀b u,s.heap.get? b=some u->h'.get? b=some u):Inv X pins σ H {s with heap:=h',toks:=t'}:=I.un (Un.kept k) (I.cG.kept k)
theorem Inv.laid {a:Addr} {o:HO} {t' :Nat} (I:Inv X pins σ H s) (k:∀b u,s.heap.get? b=some u->h'.get? b=some u) (hp:s.heap.objs.size<=a) (new:dM X.prog X.w (upd H a o) h' a o):
  Inv X pins σ (upd H a o) {s with heap:=h',toks:=t'}:=I.un (Un.laid k hp (I.cG.fresh hp)) (I.cG.laid k hp new)
theorem Inv.write {x e:Addr} {o:HO} {t' :Nat} (I:Inv X pins σ H s) (mu:JV (H x)) (he:e=x\/H e=some (.own x)) (k:∀b u,b≠e->s.heap.get? b=some u->h'.get? b=some u) (heo:∃u,h'.get? e=some u)
  (new:dM X.prog X.w (upd H x o) h' x o):Inv X pins σ (upd H x o) {s with heap:=h',toks:=t'}:=I.un (Un.write mu he k heo) (I.cG.write mu he k heo new)
theorem Inv.weak {σ' :List (Option V)} (I:Inv X pins σ H s) (hl:σ'.length=σ.length) (w:∀(i:Nat) v,σ'[i]? =some (some v)->σ[i]? =some (some v)):Inv X pins σ' H s:=
 ⟨I.ok,I.os,I.bare,I.base,let ⟨m,hn,hl'⟩:=I.loc;⟨m,hn,λi x v e1 e2 e3=> hl' i x v e1 (w i v e2) e3⟩,I.cell,I.free,I.mM,I.pin,I.cG,hl.trans I.len⟩
theorem Inv.GK {pins' :List (Addr×Obj)} (I:Inv X pins σ H s) (h:∀p∈pins',s.heap.get? p.1=some p.2/\H p.1=none/\p.1≠X.env.locals/\p.1∉X.fs/\∀v,p.2.data≠ .cell v):Inv X pins' σ H s:=
 ⟨I.ok,I.os,I.bare,I.base,I.loc,I.cell,I.free,I.mM,λp hp=> (aCt.mp hp).elim (λz=> I.pin p (aDq _ z)) (h p),I.cG,I.len⟩
theorem B0 {N:List Str} (hN:N.Nodup) {i j:Nat} {x:Str} (a:N[i]? =some x) (b:N[j]? =some x):i=j:=by
 obtain ⟨h1,e1⟩:=aCn.mp a;obtain ⟨h2,e2⟩:=aCn.mp b;exact (List.getElem_inj hN).mp (e1.trans e2.symm)
theorem HV {M:Model} {A:Around} {E:Value->Shared->Prop} {i:Nat} {x:Str} {v:V} {u:Value} {Q:Unit->Shared->Prop} (I:Inv X pins σ H s) (hN:X.N.Nodup) (hi:X.N[i]? =some x) (hx:Loc X.env.scope x) (r:RelV v u)
  (h:∀s',Inv X pins (σ.set i (some v)) H s' ->(∃a,Heap.SameBut a s.heap s'.heap/\(a=X.env.locals\/X.env.cells.lookup x=some a))->Q () s') (hf:X.fn x=true\/X.env.scope.names.lookup x=some .local:=by first | exact .inl rfl | exact .inr rfl | assumption):wpAny M A (storeName X.env x u) Q E s:=by
 obtain ⟨m,hn,hl⟩:=id I.loc;have hcls:(X.env.scope.kind== .class || (X.env.scope.kind== .module && X.env.locals !=X.env.globals))=false:=by rw [I.ok.kind];rfl
 have hiσ:i < σ.length:=by rw [I.len];exact (aCn.mp hi).1
 have Q4:=I.Q4
 have tracked:∀{a:Addr} {h' :Heap},(∃o,s.heap.get? a=some o/\H a=none)->Heap.SameBut a s.heap h' ->qV X.prog X.w H h' :=λ{a h'} ha hs b ob e=> by
  obtain ⟨_,_,hfree⟩:=ha;refine (I.cG b ob e).sP (λc w' hc q=> (hs.2 c ?_).trans q) (λ_ q=> q) λ_ _ q=> q;rintro rfl;rcases hc with rfl | hc
  ·rw [hfree] at e;cases e
  ·rw [hfree] at hc;cases hc
 rcases hx with hk | hk
 ·refine wpAny_storeName_local hk hn (λh' hn' hs=> ?_) hcls;obtain ⟨oL,_,_,hoL,_⟩:=id hn;refine h _ ⟨I.ok,I.os,I.bare,⟨λb o e n hb hx=> ?_,λb o e n hb hx=> ?_,I.base.free,λb o e hx=> ?_,I.base.A9,I.base.zU,I.base.BB⟩,⟨_,hn',λj y v' e1 e2 e3=> ?_⟩,λy c e=> ?_,I.free,I.mM,λp hp=> ?_,tracked ⟨oL,hoL,I.free⟩ hs,by simpa using I.len⟩ ⟨_,hs,.inl rfl⟩
  ·exact (hs.2 b (aD6 (aD7 (aCx e) I.ok.above))).trans (I.base.keep b o e n hb hx)
  ·obtain ⟨sl,e1⟩:=I.base.slot b o e n hb hx;exact ⟨sl,(hs.2 b (aD6 (aD7 (aCx e) I.ok.above))).trans e1⟩
  ·obtain ⟨o',e1⟩:=I.base.there b o e hx;exact ⟨o',(hs.2 b (aD6 (aD7 (aCx e) I.ok.above))).trans e1⟩
  ·by_cases hj:j=i
   ·subst hj;rw [hi] at e1;cases e1;rw [List.getElem?_set_self hiσ] at e2;cases e2;exact ⟨u,r,.inl ⟨hk,by simp⟩⟩
   ·rw [List.getElem?_set_ne (Ne.symm hj)] at e2;obtain ⟨u',r',q⟩:=hl j y v' e1 e2 e3;refine ⟨u',r',?_⟩
    rcases q with ⟨k,e⟩ | ⟨k,c,e,z⟩
    ·refine .inl ⟨k,?_⟩;have:y≠x:=λe=> hj (B0 hN e1 (e▸hi));simp [this,e]
    ·exact .inr ⟨k,c,e,z.sameBut hs (Q4 y c e)⟩
  ·obtain ⟨w',z⟩:=I.cell y c e;exact ⟨w',z.sameBut hs (Q4 y c e)⟩
  ·obtain ⟨e,n,ne,nf,d⟩:=I.pin p hp;exact ⟨(hs.2 p.1 ne).trans e,n,ne,nf,d⟩
 ·have hfn:X.fn x=true:=by
   rcases hf with z | z
   ·exact z
   ·rw [z] at hk;cases hk
  obtain ⟨c,hc⟩:=I.ok.has x (.inl hk);obtain ⟨w',z⟩:=I.cell x c hc;refine wpAny_storeName_cell I.ok.kind hk hc z (λh' hc' hs=> ?_);obtain ⟨oc,hoc,hocd⟩:=id z;refine h {s with heap:=h'} ⟨I.ok,I.os,I.bare,⟨λb o e n hb hx=> ?_,λb o e n hb hx=> ?_,I.base.free,λb o e hx=> ?_,I.base.A9,I.base.zU,I.base.BB⟩,⟨m,hn.sameBut hs (aDw (Q4 x c hc)),λj y v' e1 e2 e3=> ?_⟩,λy c' e=> ?_,I.free,I.mM,λp hp=> ?_,tracked ⟨oc,hoc,I.mM x c hc⟩ hs,by simpa using I.len⟩ ⟨c,hs,.inr hc⟩
  ·exact (hs.2 b (aD6 (aD7 (aCx e) (I.ok.ZG x c hfn hc)))).trans (I.base.keep b o e n hb hx)
  ·obtain ⟨sl,e1⟩:=I.base.slot b o e n hb hx;exact ⟨sl,(hs.2 b (aD6 (aD7 (aCx e) (I.ok.ZG x c hfn hc)))).trans e1⟩
  ·obtain ⟨o',e1⟩:=I.base.there b o e hx;exact ⟨o',(hs.2 b (aD6 (aD7 (aCx e) (I.ok.ZG x c hfn hc)))).trans e1⟩
  ·by_cases hj:j=i
   ·subst hj;rw [hi] at e1;cases e1;rw [List.getElem?_set_self hiσ] at e2;cases e2;exact ⟨u,r,.inr ⟨.inl hk,c,hc,hc'⟩⟩
   ·rw [List.getElem?_set_ne (Ne.symm hj)] at e2;obtain ⟨u',r',q⟩:=hl j y v' e1 e2 e3;refine ⟨u',r',?_⟩;rcases q with q | ⟨k,c',e,z'⟩
    ·exact .inl q
    ·refine .inr ⟨k,c',e,z'.sameBut hs ?_⟩;rintro rfl;exact hj (B0 hN e1 (I.ok.inj _ _ _ e hc▸hi))
  ·by_cases hcc:c' =c
   ·subst hcc;exact ⟨_,hc'⟩
   ·obtain ⟨w2,z2⟩:=I.cell y c' e;exact ⟨w2,z2.sameBut hs hcc⟩
  ·obtain ⟨e,n,ne,nf,d⟩:=I.pin p hp;refine ⟨(hs.2 p.1 ?_).trans e,n,ne,nf,d⟩;intro q;rw [q,hoc] at e;have q' :oc=p.2:=aD4 e;exact d w' (by rw [<-q'];exact hocd)
theorem uA {M:Model} {A:Around} {E:Value->Shared->Prop} {i:Nat} {x:Str} {v:V} {u:Value} {Q:Unit->Shared->Prop} (I:Inv X pins σ H s) (hN:X.N.Nodup) (hi:X.N[i]? =some x) (hx:Loc X.env.scope x) (r:RelV v u)
  (h:∀s',Inv X pins (σ.set i (some v)) H s' ->Q () s') (hf:X.fn x=true\/X.env.scope.names.lookup x=some .local:=by first | exact .inl rfl | exact .inr rfl | assumption):wpAny M A (storeName X.env x u) Q E s:=
 HV I hN hi hx r (λs' I' _=> h s' I') hf
theorem Inv.ZE {s' :Shared} {ch:List Addr} (I:Inv X pins σ H s) (ho:s'.os=s.os) (u:Un (M8 X.stack) ch H H' s.heap s'.heap) (cG:qV X.prog X.w H' s'.heap) (hg:AllBare s'.gens)
  (hch:∀b∈ch,(b∈X.ex\/X.s₀.heap.objs.size<=b)/\b≠X.env.locals/\(∀x c,X.env.cells.lookup x=some c->c≠b)/\∀p∈X.pn++pins,p.1≠b):Inv X pins σ H' s' :=by
 obtain ⟨h',g',d',t',o'⟩:=s';have e:o' =s.os:=ho;subst e;exact I.call (g' :=g') (t' :=t') (d' :=d') u cG hg hch
end
abbrev XK := Value -> Option Addr -> Hp -> Prop
abbrev St := List (Option V)
abbrev VK := V -> Hp -> Prop
abbrev TE := St -> Hp -> VK -> Prop
abbrev TT := St -> Hp -> (Bool -> Hp -> Prop) -> Prop
abbrev TA := St -> Hp -> (List V -> Hp -> Prop) -> Prop
structure Ends where
 nx:St->Hp->Prop
 rt:VK
 bk:St->Hp->Prop:=λ_ _=> False
 ct:St->Hp->Prop:=λ_ _=> False
abbrev TS := Ends -> St -> Hp -> Prop
def EP (X:Cx) (pins:List (Addr×Obj)) (σ:St) (Q:VK) (u:Value) (s' :Shared):Prop:=∃v H',Inv X pins σ H' s' /\RelV v u/\Q v H'
def TP (X:Cx) (pins:List (Addr×Obj)) (σ:St) (Q:Bool->Hp->Prop) (b:Bool) (s' :Shared):Prop:=∃H',Inv X pins σ H' s' /\Q b H'
def AP (X:Cx) (pins:List (Addr×Obj)) (σ:St) (Q:List V->Hp->Prop) (us:List Value) (s' :Shared):Prop:=∃vs H',Inv X pins σ H' s' /\Vals vs us/\Q vs H'
def SP (X:Cx) (pins:List (Addr×Obj)) (D:Ends) (f:Flow) (s' :Shared):Prop:=
 match f with
 | .next=> ∃σ' H',Inv X pins σ' H' s' /\D.nx σ' H'
 | .brk=> ∃σ' H',Inv X pins σ' H' s' /\D.bk σ' H'
 | .cont=> ∃σ' H',Inv X pins σ' H' s' /\D.ct σ' H'
 | .ret u=> ∃v σ' H',Inv X pins σ' H' s' /\RelV v u/\D.rt v H'
def PE (X:Cx) (e:Expr) (t:TE):Prop:=
 ∀(pins:List (Addr×Obj)) (s:Shared) (σ:St) (H:Hp) (Q:VK),Inv X pins σ H s->t σ H Q->wpAny (model X.prog X.w) X.A (eval e X.env) (EP X pins σ Q) X.xe s
def PT (X:Cx) (e:Expr) (t:TT):Prop:=
 ∀(pins:List (Addr×Obj)) (s:Shared) (σ:St) (H:Hp) (Q:Bool->Hp->Prop),Inv X pins σ H s->t σ H Q->wpAny (model X.prog X.w) X.A (isTrue e X.env (eval e X.env)) (TP X pins σ Q) X.xe s
def PW (X:Cx) (e:Expr) (t:TT):Prop:=
 ∀(whole:Sem Value) (pins:List (Addr×Obj)) (s:Shared) (σ:St) (H:Hp) (Q:Bool->Hp->Prop),Inv X pins σ H s->t σ H Q->wpAny (model X.prog X.w) X.A (isTrue e X.env whole) (TP X pins σ Q) X.xe s
theorem PW.pt {X:Cx} {e:Expr} {t:TT} (h:PW X e t):PT X e t:=h _
def PA (X:Cx) (es:List Expr) (t:TA):Prop:=
 ∀(pos:Pos) (pins:List (Addr×Obj)) (s:Shared) (σ:St) (H:Hp) (Q:List V->Hp->Prop),Inv X pins σ H s->t σ H Q->wpAny (model X.prog X.w) X.A (spliced (backTo pos (starEach es X.env))) (AP X pins σ Q) X.xe s
def PS (X:Cx) (st:Stmt) (t:TS):Prop:=
 ∀(pins:List (Addr×Obj)) (s:Shared) (σ:St) (H:Hp) (D:Ends),Inv X pins σ H s->t D σ H->wpAny (model X.prog X.w) X.A (exec st X.env) (SP X pins D) X.xe s
def AU (X:Cx) (st:List Stmt) (t:TS):Prop:=
 ∀(pins:List (Addr×Obj)) (s:Shared) (σ:St) (H:Hp) (D:Ends),Inv X pins σ H s->t D σ H->wpAny (model X.prog X.w) X.A (execs st X.env) (SP X pins D) X.xe s
theorem cZ {α:Type} {t:Sem α} {Q Q' :α->Shared->Prop} {M:Model} {A:Around} {E:Value->Shared->Prop} {s:Shared} (h:wpAny M A t Q E s) (hQ:∀a s,Q a s->Q' a s):wpAny M A t Q' E s:=aEf h hQ λ_ _ x=> x
section
variable {X:Cx}
theorem bin {a b:Expr} {ta tb:TE} (ha:PE X a ta) (hb:PE X b tb) {pins:List (Addr×Obj)} {s:Shared} {σ:St} {H:Hp} {R:V->V->Hp->Prop} (I:Inv X pins σ H s) (h:ta σ H λx H1=> tb σ H1 λy H2=> R x y H2)
  {α:Type} {Q:α->Shared->Prop} {f:Value->Value->Sem α}
  (hf:∀v u s2 x y H2,Inv X pins σ H2 s2->RelV x v->RelV y u->R x y H2->wpAny (model X.prog X.w) X.A (f v u) Q X.xe s2):
  wpAny (model X.prog X.w) X.A (eval a X.env) (λv s₁=> wpAny (model X.prog X.w) X.A (eval b X.env) (λu s₂=> wpAny (model X.prog X.w) X.A (f v u) Q X.xe s₂) X.xe s₁) X.xe s:=by
 refine cZ (ha pins s σ H _ I h) λv s1 ⟨x,H1,I1,r1,q1⟩=> ?_;refine cZ (hb pins s1 σ H1 _ I1 q1) λu s2 ⟨y,H2,I2,r2,q2⟩=> ?_;exact hf v u s2 x y H2 I2 r1 r2 q2
def aAl (i:Nat):TE:=λσ H Q=> ∃v,σ[i]? =some (some v)/\Q v H
def tC (v:V):TE:=λ_ H Q=> Q v H
theorem T4 {i:Nat} {x:Str} {pos:Pos} (hN:X.N[i]? =some x) (hv:ZM X.env.scope x) (hd:(x==("__debug__":Str))=false:=by decide) (hcd:(x==("__classdict__":Str))=false:=by decide):PE X (.Name x pos) (aAl i):=by
 intro pins s σ H Q I h;obtain ⟨v,e,h⟩:=h;obtain ⟨m,hn,hl⟩:=I.loc;obtain ⟨u,r,l⟩:=hl i x v hN e hv
 have fin:EP X pins σ Q u s:=⟨v,H,I,r,h⟩
 rcases l with ⟨hk,hm⟩ | ⟨hk,c,hc,hcell⟩
 ·exact wpAny_Name (wpAny_loadName_local I.ok.kind hk hn hm fin) hd
 ·rcases hk with hk | hk
  ·exact wpAny_Name (wpAny_loadName_cell I.ok.kind hk hc hcell fin) hd
  ·exact wpAny_Name (wpAny_loadName_free I.ok.kind hk hc hcell fin hcd) hd
theorem T9 {i j pos}:PE X (.Constant (.int i) j pos) (tC (.int i)):=λ_ _ _ H _ I h=> wpAny_Constant_int ⟨.int i,H,I.tok _,⟨_,rfl⟩,h⟩
theorem YG {b j pos}:PE X (.Constant (.bool b) j pos) (tC (.bl b)):=λ_ _ _ H _ I h=> Constant_bool ⟨.bl b,H,I,rfl,h⟩
def Gl (X:Cx) (x:Str):Prop:=X.env.kindOf x=some .globalImplicit
theorem QP {E:Value->Shared->Prop} {pins:List (Addr×Obj)} {s:Shared} {σ:St} {H:Hp} {x:Str} {u:Value} {pos:Pos} {Q:Value->Shared->Prop} (I:Inv X pins σ H s) (hg:Gl X x) (hm:X.mg x=some u) (h:Q u s)
  (hd:(x==("__debug__":Str))=false:=by decide):wpAny (model X.prog X.w) X.A (eval (.Name x pos) X.env) Q E s:=
 Calls.Name_function_global I.ok.kind hg (Calls.loadGlobal_global (by rw [I.ok.glob];exact I.mod.glob.keeps I.bk) hm h) hd
theorem oR {E:Value->Shared->Prop} {pins:List (Addr×Obj)} {s:Shared} {σ:St} {H:Hp} {x:Str} {u:Value} {pos:Pos} {Q:Value->Shared->Prop} (I:Inv X pins σ H s) (hg:Gl X x) (hm:X.mg x=none) (hv:bootBuiltins x=some u) (h:Q u s)
  (hn:x≠ "__name__":=by decide) (hd:(x==("__debug__":Str))=false:=by decide):wpAny (model X.prog X.w) X.A (eval (.Name x pos) X.env) Q E s:=by
 obtain ⟨mb,h1,h2⟩:=I.mod.blt;exact Calls.Name_function_global I.ok.kind hg (Calls.loadGlobal_builtin (by rw [I.ok.glob];exact I.mod.glob.keeps I.bk) hm (by rw [I.ok.blt];exact h1.keeps I.bk) ((h2 x hn).trans hv) h) hd
theorem PV {x:Str} {v:V} {u:Value} {pos:Pos} (hg:Gl X x) (hm:X.mg x=none) (hv:bootBuiltins x=some u) (r:RelV v u) (hn:x≠ "__name__":=by decide) (hd:(x==("__debug__":Str))=false:=by decide):PE X (.Name x pos) (tC v):=
 λ_ _ _ H _ I h=> oR I hg hm hv ⟨v,H,I,r,h⟩ hn hd
variable {a b:Expr} {ta tb:TE} {pos:Pos}
theorem LQ (b:Expr) {op:CmpOp} (h:op≠ .In) (h2:op≠ .NotIn):behindInMarks op b=false:=by
 have e1:(op==CmpOp.In)=false:=by cases op <;> first | rfl | exact absurd rfl h
 have e2:(op==CmpOp.NotIn)=false:=by cases op <;> first | rfl | exact absurd rfl h2
 cases b <;> simp [behindInMarks,e1,e2]
variable {tA tB' :TT} {rest:List Expr}
def aAx (t u:TT):TT:=λσ H Q=> t σ H λc H1=> if c=true then u σ H1 Q else Q false H1
def tOr (t u:TT):TT:=λσ H Q=> t σ H λc H1=> if c=true then Q true H1 else u σ H1 Q
def aAq (t:TT):TT:=λσ H Q=> t σ H λc H1=> Q (!c) H1
theorem O6 (ha:PT X a tA):PW X (.BoolOp .And [a] pos) tA:=by
 intro wh pins s σ H Q I h;refine isTrue_and (cZ (ha pins s σ H Q I h) λc s1 e=> ?_)
 cases c with
 | true=> exact isTrue_and_nil e
 | false=> exact e
theorem TN (ha:PT X a tA):PW X (.BoolOp .Or [a] pos) tA:=by
 intro wh pins s σ H Q I h;refine isTrue_or (cZ (ha pins s σ H Q I h) λc s1 e=> ?_)
 cases c with
 | false=> exact isTrue_or_nil e
 | true=> exact e
theorem TQ (ha:PT X a tA) (hb:PW X (.BoolOp .And (b::rest) pos) tB'):PW X (.BoolOp .And (a::b::rest) pos) (aAx tA tB'):=by
 intro wh pins s σ H Q I h;refine isTrue_and (cZ (ha pins s σ H _ I h) λc s1 ⟨H1,I1,q1⟩=> ?_)
 cases c with
 | true=> exact hb wh pins s1 σ H1 Q I1 q1
 | false=> exact ⟨H1,I1,q1⟩
theorem X8 (ha:PT X a tA) (hb:PW X (.BoolOp .Or (b::rest) pos) tB'):PW X (.BoolOp .Or (a::b::rest) pos) (tOr tA tB'):=by
 intro wh pins s σ H Q I h;refine isTrue_or (cZ (ha pins s σ H _ I h) λc s1 ⟨H1,I1,q1⟩=> ?_)
 cases c with
 | true=> exact ⟨H1,I1,q1⟩
 | false=> exact hb wh pins s1 σ H1 Q I1 q1
theorem TR (ha:PT X a tA):PT X (.UnaryOp .Not a pos) (aAq tA):=by
 intro pins s σ H Q I h;exact isTrue_not (ha pins s σ H (λc H1=> Q (!c) H1) I h)
def XQ (ta tb:TE):TE:=λσ H Q=> ta σ H λx H1=> ∃c,x= .bl c/\if c=true then tb σ H1 Q else Q (.bl false) H1
def XH (ta:TE):TE:=λσ H Q=> ta σ H λx H1=> ∃c,x= .bl c/\Q (.bl (!c)) H1
theorem T6 {op} {t:TE} (h:PE X a t):PE X (.BoolOp op [a] pos) t:=λpins s σ H Q I hw=> BoolOp_one (h pins s σ H Q I hw)
theorem UA (ha:PE X a ta) (hb:PE X (.BoolOp .And (b::rest) pos) tb):PE X (.BoolOp .And (a::b::rest) pos) (XQ ta tb):=by
 intro pins s σ H Q I h;refine BoolOp_and (cZ (ha pins s σ H _ I h) λv s1 ⟨x,H1,I1,r1,q1⟩=> ?_);obtain ⟨c,rfl,q1⟩:=q1;cases r1;refine aFq ?_
 cases c with
 | true=> exact hb pins s1 σ H1 Q I1 q1
 | false=> exact ⟨.bl false,H1,I1,rfl,q1⟩
theorem T7 (ha:PE X a ta):PE X (.UnaryOp .Not a pos) (XH ta):=by
 intro pins s σ H Q I h;refine UnaryOp_ (cZ (ha pins s σ H _ I h) λv s1 ⟨x,H1,I1,r1,q1⟩=> ?_);obtain ⟨c,rfl,q1⟩:=q1;cases r1;exact not_of (aFq ⟨.bl (!c),H1,I1,rfl,q1⟩)
def tIf (t:TT) (ta tb:TE):TE:=λσ H Q=> t σ H λc H1=> if c=true then ta σ H1 Q else tb σ H1 Q
theorem LH {c:Expr} (hc:PT X c tA) (ha:PE X a ta) (hb:PE X b tb):PE X (.IfExp c a b pos) (tIf tA ta tb):=by
 intro pins s σ H Q I h;refine wpAny_IfExp (cZ (hc pins s σ H _ I h) λd s1 ⟨H1,I1,q1⟩=> ?_)
 cases d with
 | true=> exact ha pins s1 σ H1 Q I1 q1
 | false=> exact hb pins s1 σ H1 Q I1 q1
end
def pD (K:aGp) (H:Hp) (a:Addr) (xs:List V):Prop:=
 Rd H a (.lst xs)\/
  ∃(o:Obj) (aL:Array Value) (n:Nat),K.lookup a=some o/\o.cls= .type "list"/\o.dict=none/\o.data= .seq aL n/\aL.size<=sizeLine/\Vals xs aL.toList
def pC (K:aGp) (H:Hp) (a:Addr) (xs:List V):Prop:=
 Rd H a (.tup xs)\/
  ∃(o:Obj) (aL:Array Value) (n:Nat),K.lookup a=some o/\o.cls= .type "tuple"/\o.dict=none/\o.data= .seq aL n/\aL.size<=sizeLine/\Vals xs aL.toList
def aCf:Value->Option V
 | .none=> some .cN
 | .bool b=> some (.bl b)
 | .int i _=> some (.int i)
 | .str x _=> some (.str x)
 | .bytes b _=> some (.byt b)
 | .float b _=> some (.flt b)
 | .ref a=> some (.ref a)
 | .type n=> some (.ty n)
 | _=> none
theorem RelV.abs {x:V} {u:Value} (r:RelV x u):aCf u=some x:=by
 cases x with
 | cN=> cases r;rfl
 | bl _=> cases r;rfl
 | int _=> obtain ⟨t,rfl⟩:=r;rfl
 | str _=> obtain ⟨t,rfl⟩:=r;rfl
 | byt _=> obtain ⟨t,rfl⟩:=r;rfl
 | flt _=> obtain ⟨t,rfl⟩:=r;rfl
 | ref _=> cases r;rfl
 | ty _=> cases r;rfl
theorem RelV.inj {x y:V} {u:Value} (r:RelV x u) (q:RelV y u):x=y:=aD4 (r.abs.symm.trans q.abs)
theorem Vals.inj:∀{xs ys:List V} {us:List Value},Vals xs us->Vals ys us->xs=ys
 | _,_,_,.nil,.nil=> rfl
 | _,_,_,.cons r t,.cons r' t' => by rw [r.inj r',Vals.inj t t']
section
variable {X:Cx} {pins:List (Addr×Obj)} {σ:St} {H:Hp} {s:Shared} {a:Addr} {xs ys:List V}
theorem pD.of {K:aGp} (h:H a=some (.lst xs)):pD K H a xs:= .inl (.inl h)
theorem pC.of {K:aGp} (h:H a=some (.tup xs)):pC K H a xs:= .inl (.inl h)
theorem Inv.list (I:Inv X pins σ H s) (h:pD X.K H a xs):∃aL:List Value,Vals xs aL/\PlainL s.heap a aL.toArray/\xs.length<=sizeLine:=by
 rcases h with h | ⟨o,aL,n,hk,hc,hd,hs,hz,r⟩
 ·obtain ⟨z,aL,n,r,e⟩:=h.ok I.cG;exact ⟨aL,r,⟨_,n,e,rfl,rfl,rfl⟩,z⟩
 ·refine ⟨aL.toList,r,⟨o,n,I.U8 a o hk,hc,hd,by simpa using hs⟩,?_⟩;have e:=r.length;simp only [Array.length_toList] at e;omega
theorem Inv.tuple (I:Inv X pins σ H s) (h:pC X.K H a xs):∃aL:List Value,Vals xs aL/\IsTup s.heap a aL.toArray/\xs.length<=sizeLine:=by
 rcases h with h | ⟨o,aL,n,hk,hc,_,hs,hz,r⟩
 ·obtain ⟨z,aL,r,p,_⟩:=h.ok I.cG;exact ⟨aL,r,p,z⟩
 ·refine ⟨aL.toList,r,⟨o,I.U8 a o hk,hc,n,by simpa using hs⟩,?_⟩;have e:=r.length;simp only [Array.length_toList] at e;omega
theorem Inv.SW (I:Inv X pins σ H s) (h:pC X.K H a xs):∃ob,s.heap.get? a=some ob/\ob.cls= .type "tuple"/\ob.dict=none:=by
 rcases h with h | ⟨o,aL,n,hk,hc,hd,hs,hz,r⟩
 ·obtain ⟨z,aL,r,⟨o,e,c,_⟩,nd⟩:=h.ok I.cG;exact ⟨o,e,c,nd o e⟩
 ·exact ⟨o,I.U8 a o hk,hc,hd⟩
theorem Inv.CF (I:Inv X pins σ H s) (h:pD X.K H a xs) (h' :pD X.K H a ys):xs=ys:=by
 obtain ⟨aL,r,⟨o,n,e,_,_,d⟩,_⟩:=I.list h;obtain ⟨its',r',⟨o',n',e',_,_,d'⟩,_⟩:=I.list h';rw [e] at e';cases e';rw [d] at d';injection d' with d1 _;have:aL=its' :=by simpa using aE0 Array.toList d1
 subst this;exact r.inj r'
theorem Inv.wZ (I:Inv X pins σ H s) (h:pC X.K H a xs) (h' :pC X.K H a ys):xs=ys:=by
 obtain ⟨aL,r,⟨o,e,_,n,d⟩,_⟩:=I.tuple h;obtain ⟨its',r',⟨o',e',_,n',d'⟩,_⟩:=I.tuple h';rw [e] at e';cases e';rw [d] at d';injection d' with d1 _;have:aL=its' :=by simpa using aE0 Array.toList d1
 subst this;exact r.inj r'
end
abbrev Cx.v7 (X : Cx) (E : Value -> Shared -> Prop) : Cx := { X with xe := E }
abbrev Cx.QA (X : Cx) : Cx := X.v7 λ_ _ => False
theorem Cx.Ok.v7 {X:Cx} (ok:X.Ok) (E:Value->Shared->Prop):(X.v7 E).Ok:=
 ⟨ok.mod,ok.kind,ok.glob,ok.blt,ok.above,ok.inj,ok.has,ok.ZG,ok.hd,ok.frames,ok.ZX,ok.exf,ok.bs,ok.Q8,ok.LN,ok.NB,ok.vL,ok.WN⟩
theorem Cx.Ok.mC {X:Cx} {E:Value->Shared->Prop} (ok:(X.v7 E).Ok):X.Ok:=
 ⟨ok.mod,ok.kind,ok.glob,ok.blt,ok.above,ok.inj,ok.has,ok.ZG,ok.hd,ok.frames,ok.ZX,ok.exf,ok.bs,ok.Q8,ok.LN,ok.NB,ok.vL,ok.WN⟩
section
variable {X:Cx} {pins:List (Addr×Obj)} {σ:St} {H:Hp} {s:Shared} {E:Value->Shared->Prop}
theorem Inv.v7 (I:Inv X pins σ H s) (E:Value->Shared->Prop):Inv (X.v7 E) pins σ H s:=⟨I.ok.v7 E,I.os,I.bare,I.base,I.loc,I.cell,I.free,I.mM,I.pin,I.cG,I.len⟩
theorem Inv.mC (I:Inv (X.v7 E) pins σ H s):Inv X pins σ H s:=⟨I.ok.mC,I.os,I.bare,I.base,I.loc,I.cell,I.free,I.mM,I.pin,I.cG,I.len⟩
theorem SP.mC {D:Ends} {f:Flow} {s' :Shared} (h:SP (X.v7 E) pins D f s'):SP X pins D f s' :=by
 cases f with
 | next=> obtain ⟨σ',H',I,q⟩:=h;exact ⟨σ',H',I.mC,q⟩
 | brk=> obtain ⟨σ',H',I,q⟩:=h;exact ⟨σ',H',I.mC,q⟩
 | cont=> obtain ⟨σ',H',I,q⟩:=h;exact ⟨σ',H',I.mC,q⟩
 | ret u=> obtain ⟨v,σ',H',I,r,q⟩:=h;exact ⟨v,σ',H',I.mC,r,q⟩
theorem AU.QA {st:List Stmt} {t:TS} (h:AU X.QA st t):AU X st t:=λpins s σ H D I hw=>
 aEf (h pins s σ H D (I.v7 _) hw) (λ_ _ q=> q.mC) λ_ _ z=> False.elim z
end
section
variable {X:Cx} {st:Stmt} {rest:List Stmt} {t u:TS} {e:Expr} {te:TE} {pos:Pos}
def XJ:TS:=λD σ H=> D.nx σ H
def aAo (t u:TS):TS:=λD σ H=> t {D with nx:=u D} σ H
theorem PD:AU X [] XJ:=λ_ _ σ H _ I h=> aG3 ⟨σ,H,I,h⟩
theorem K8 (h1:PS X st t) (h2:AU X rest u):AU X (st::rest) (aAo t u):=by
 intro pins s σ H D I h;refine wpAny_execs_cons (cZ (h1 pins s σ H {D with nx:=u D} I h) λf s1 q=> ?_)
 cases f with
 | next=>
  obtain ⟨σ',H',I',q⟩:=q;exact h2 pins s1 σ' H' D I' q
 | ret v=> exact q
 | brk=> exact q
 | cont=> exact q
theorem PC (h1:PS X st t):AU X [st] t:=by
 intro pins s σ H D I h;refine wpAny_execs_cons (cZ (h1 pins s σ H D I h) λf s1 q=> ?_)
 cases f with
 | next=> exact aG3 q
 | ret v=> exact q
 | brk=> exact q
 | cont=> exact q
def XN:TS:=λD σ H=> D.ct σ H
theorem BP:PS X (.Continue pos) XN:=λ_ _ σ H _ I h=> wpAny_Continue ⟨σ,H,I,h⟩
theorem Inv.quiet {pins:List (Addr×Obj)} {σ:St} {H:Hp} {s:Shared} (I:Inv X pins σ H s):interactive X.env=false:=by simp [interactive,I.ok.kind]
def XM (te:TE):TS:=λD σ H=> te σ H λ_ H1=> D.nx σ H1
theorem PF (he:PE X e te) (hs:swapsWith e none pos.line X.env=pure false:=by rfl):PS X (.Expr e pos) (XM te):=by
 intro pins s σ H D I h;exact wpAny_Expr_any (cZ (he pins s σ H _ I h) λv s1 ⟨x,H1,I1,r1,q1⟩=> ⟨σ,H1,I1,q1⟩) I.quiet hs
def aAp (te:TE):TS:=λD σ H=> te σ H D.rt
theorem TV (he:PE X e te):PS X (.Return (some e) pos) (aAp te):=by
 intro pins s σ H D I h;exact wpAny_Return_some (cZ (he pins s σ H _ I h) λv s1 ⟨x,H1,I1,r1,q1⟩=> ⟨x,σ,H1,I1,r1,q1⟩)
def aAu (c:TT) (t u:TS):TS:=λD σ H=> c σ H λb H1=> if b=true then t D σ H1 else u D σ H1
theorem X9 {c:Expr} {a b:List Stmt} {tc:TT} (hc:PT X c tc) (ha:AU X a t) (hb:AU X b u):PS X (.If c a b pos) (aAu tc t u):=by
 intro pins s σ H D I h;refine wpAny_If (cZ (hc pins s σ H _ I h) λd s1 ⟨H1,I1,q1⟩=> ?_)
 cases d with
 | true=> exact ha pins s1 σ H1 D I1 q1
 | false=> exact hb pins s1 σ H1 D I1 q1
end
abbrev TG := V -> St -> Hp -> (St -> Hp -> Prop) -> Prop
abbrev FV := List V -> St -> Hp -> (St -> Hp -> Prop) -> Prop
def PG (X:Cx) (target:Expr) (t:TG):Prop:=
 ∀(pins:List (Addr×Obj)) (s:Shared) (σ:St) (H:Hp) (v:V) (u:Value) (Q:St->Hp->Prop),Inv X pins σ H s->RelV v u->t v σ H Q->
  wpAny (model X.prog X.w) X.A (assign target X.env u) (λ_ s' => ∃σ' H',Inv X pins σ' H' s' /\Q σ' H') X.xe s
def PGs (X:Cx) (ts:List Expr) (t:FV):Prop:=
 ∀(pins:List (Addr×Obj)) (s:Shared) (σ:St) (H:Hp) (vs:List V) (us:List Value) (Q:St->Hp->Prop),Inv X pins σ H s->Vals vs us->t vs σ H Q->
  wpAny (model X.prog X.w) X.A (assignInOrder ((assignEach ts X.env).map (·.2)) us) (λ_ s' => ∃σ' H',Inv X pins σ' H' s' /\Q σ' H') X.xe s
abbrev WB := V -> V -> V -> Hp -> (Hp -> Prop) -> Prop
def ZO (X:Cx) (t:WB):Prop:=
 ∀(pins:List (Addr×Obj)) (s:Shared) (σ:St) (H:Hp) (o i v:V) (ov iv u:Value) (Q:Hp->Prop),Inv X pins σ H s->RelV o ov->RelV i iv->RelV v u->t o i v H Q->
  wpAny (model X.prog X.w) X.A (setItem ov iv u) (λ_ s' => ∃H',Inv X pins σ H' s' /\Q H') X.xe s
abbrev TIp := V -> V -> Hp -> VK -> Prop
def PIp (X:Cx) (op:Operator) (t:TIp):Prop:=
 ∀(pins:List (Addr×Obj)) (s:Shared) (σ:St) (H:Hp) (x y:V) (v u:Value) (Q:VK),Inv X pins σ H s->RelV x v->RelV y u->t x y H Q->
  wpAny (model X.prog X.w) X.A (inplaceOp op v u) (EP X pins σ Q) X.xe s
section
variable {X:Cx} {pos:Pos}
def vK (i:Nat):TG:=λv σ H Q=> Q (σ.set i (some v)) H
theorem PN {i:Nat} {x:Str} (hN:X.N.Nodup) (hi:X.N[i]? =some x) (hx:Loc X.env.scope x) (hf:X.fn x=true\/X.env.scope.names.lookup x=some .local:=by first | exact .inl rfl | exact .inr rfl | assumption):PG X (.Name x pos) (vK i):=by
 intro pins s σ H v u Q I r h;exact wpAny_assign_Name (uA I hN hi hx r (λs' I' => ⟨_,H,I',h⟩) hf)
def M7:FV:=λvs σ H Q=> vs=[]/\Q σ H
def C0 (t:TG) (u:FV):FV:=λvs σ H Q=> ∃v r,vs=v::r/\t v σ H λσ' H' => u r σ' H' Q
theorem eJ:PGs X [] M7:=by
 intro pins s σ H vs us Q I r h;obtain ⟨e,h⟩:=h;subst e;cases r;exact assignInOrder_nil ⟨σ,H,I,h⟩
theorem aS {e:Expr} {es:List Expr} {t:TG} {u:FV} (h1:PG X e t) (h2:PGs X es u)
  (hs:(assignEach (e::es) X.env).map (·.2)=assign e X.env::(assignEach es X.env).map (·.2):=by rfl):PGs X (e::es) (C0 t u):=by
 intro pins s σ H vs us Q I r h;obtain ⟨v,vr,e1,h⟩:=h;subst e1
 cases r with
 | cons r rr=>
  rw [hs];refine assignInOrder_cons (cZ (h1 pins s σ H _ _ _ I r h) λ_ s1 ⟨σ1,H1,I1,q1⟩=> ?_);exact h2 pins s1 σ1 H1 _ _ Q I1 rr q1
def M6 (K:aGp) (n:Nat) (t:FV):TG:=λv σ H Q=> ∃a xs,v= .ref a/\pC K H a xs/\xs.length=n/\t xs σ H Q
theorem gM {es:List Expr} {k:Nat} {t:FV} {n:Nat} (hc:X.calm=true) (h:PGs X es t)
  (hn:(assignEach es X.env).length=n:=by rfl) (hst:(assignEach es X.env).findIdx? (·.1)=none:=by rfl):PG X (.Tuple es k pos) (M6 X.K n t):=by
 intro pins s σ H v u Q I r hw;obtain ⟨a,xs,e1,hq,hl,hw⟩:=hw;subst e1;cases r;obtain ⟨aL,rv,ht,hz⟩:=I.tuple hq;refine assign_Tuple_tuple (I.ok.hd hc) ht (by simp [hn,<-hl,rv.length]) hst λh' hx=> ?_;have I1:Inv X pins σ H {s with heap:=h'}:=I.kept (t' :=s.toks) λb o e=> hx b o (aD6 (aCx e)) e;exact h pins _ σ H xs _ Q I1 (by simpa using rv) hw
def aC6 (to ti:TE) (t:WB):TG:=λv σ H Q=> to σ H λo H1=> ti σ H1 λi H2=> t o i v H2 λH3=> Q σ H3
theorem T3 {o i:Expr} {to ti:TE} {t:WB} (ho:PE X o to) (hi:PE X i ti) (hs:ZO X t)
  (ha:∀v,assign (.Subscript o i pos) X.env v=(do
   let ov<-holding [v] (eval o X.env)
   let iv<-holding [v,ov] (eval i X.env)
   standAt pos
   holding [v,ov,iv] (setItem ov iv v)
   release [v,ov,iv] []):=by intro _;rfl):PG X (.Subscript o i pos) (aC6 to ti t):=by
 intro pins s σ H v u Q I r h;rw [ha];refine aCm (aDm (cZ (ho pins s σ H _ I h) λov s1 ⟨x,H1,I1,r1,q1⟩=> ?_));refine aCm (aDm (cZ (hi pins s1 σ H1 _ I1 q1) λiv s2 ⟨y,H2,I2,r2,q2⟩=> ?_));refine aCm (wpAny_standAt (aCm (aDm (cZ (hs pins s2 σ H2 x y v ov iv u _ I2 r1 r2 r q2) λ_ s3 ⟨H3,I3,q3⟩=> ?_))));exact wpAny_release ⟨σ,H3,I3,q3⟩
def S6 (te:TE) (g:TG):TS:=λD σ H=> te σ H λx H1=> g x σ H1 D.nx
theorem LB {tg e:Expr} {te:TE} {g:TG} (he:PE X e te) (hg:PG X tg g) (hs:swapsWithSole [tg] e pos.line X.env=pure false:=by rfl) (hw:swappedStores [tg] e X.env=pure none:=by rfl)
  (h1:(assignEach [tg] X.env).map (·.2)=[assign tg X.env]:=by rfl):PS X (.Assign [tg] e pos) (S6 te g):=by
 intro pins s σ H D I h;refine wpAny_Assign_stores (cZ (he pins s σ H _ I h) λv s1 ⟨x,H1,I1,r1,q1⟩=> ?_) hs hw;rw [h1];exact cZ (hg pins s1 σ H1 x v _ I1 r1 q1) λ_ s2 q=> q
theorem TU {i:Nat} {x:Str} {e:Expr} {te:TE} {pos' :Pos} (hN:X.N.Nodup) (hi:X.N[i]? =some x) (hx:Loc X.env.scope x) (he:PE X e te) (hs:swapsWith e (some (.Name x pos')) pos.line X.env=pure false:=by rfl) (hf:X.fn x=true\/X.env.scope.names.lookup x=some .local:=by first | exact .inl rfl | exact .inr rfl | assumption):
  PS X (.Assign [.Name x pos'] e pos) (S6 te (vK i)):=by
 intro pins s σ H D I h;refine wpAny_Assign_Name (cZ (he pins s σ H _ I h) λv s1 ⟨y,H1,I1,r1,q1⟩=> ?_) hs;exact uA I1 hN hi hx r1 (λs2 I2=> ⟨_,H1,I2,q1⟩) hf
def aAw (i:Nat) (te:TE) (ti:TIp):TS:=λD σ H=> ∃x,σ[i]? =some (some x)/\te σ H λy H1=> ti x y H1 λz H2=> D.nx (σ.set i (some z)) H2
theorem TY {i:Nat} {x:Str} {e:Expr} {te:TE} {op:Operator} {ti:TIp} {pos' :Pos} (hN:X.N.Nodup) (hi:X.N[i]? =some x) (hx:Loc X.env.scope x) (he:PE X e te) (ho:PIp X op ti) (hf:X.fn x=true\/X.env.scope.names.lookup x=some .local:=by first | exact .inl rfl | exact .inr rfl | assumption):
  PS X (.AugAssign (.Name x pos') op e pos) (aAw i te ti):=by
 intro pins s σ H D I h;obtain ⟨v,e1,h⟩:=h;obtain ⟨m,hn,hl⟩:=I.loc;have vis:ZM X.env.scope x:=by rcases hx with k | k;exact .inl k;exact .inr (.inl k)
 obtain ⟨u,r,l⟩:=hl i x v hi e1 vis;refine wpAny_AugAssign_Name ?_
 have go:wpAny (model X.prog X.w) X.A (eval e X.env) (λw s₂=> wpAny (model X.prog X.w) X.A (inplaceOp op u w) (λr s₃=> wpAny (model X.prog X.w) X.A (storeName X.env x r) (λ_=> SP X pins D .next) X.xe s₃) X.xe s₂) X.xe s:=by
  refine cZ (he pins s σ H _ I h) λw s1 ⟨y,H1,I1,r1,q1⟩=> ?_;refine cZ (ho pins s1 σ H1 v y u w _ I1 r r1 q1) λz s2 ⟨zv,H2,I2,r2,q2⟩=> ?_;exact uA I2 hN hi hx r2 (λs3 I3=> ⟨_,H2,I3,q2⟩) hf
 rcases l with ⟨hk,hm⟩ | ⟨hk,c,hc,hcell⟩
 ·exact wpAny_loadName_local I.ok.kind hk hn hm go
 ·rcases hk with hk | hk
  ·exact wpAny_loadName_cell I.ok.kind hk hc hcell go
  ·rcases hx with k | k
   ·have:X.env.scope.names.lookup x=some .free:=hk;rw [k] at this;cases this
   ·have:X.env.scope.names.lookup x=some .free:=hk;rw [k] at this;cases this
end
section
variable {X:Cx} {pos:Pos}
def S3 (c:TT) (tb:TS):TS:=λD σ H=> ∃W:Nat->St->Hp->Prop,(∃m,W m σ H)/\∀m σ H,W m σ H->
 c σ H λb H1=> if b=true then ∃N:St->Hp->Prop,(∀σ' H',N σ' H' ->∃m',m' < m/\W m' σ' H')/\tb {D with nx:=N,ct:=N,bk:=D.nx} σ H1 else D.nx σ H1
theorem K9 {c:Expr} {body:List Stmt} {tc:TT} {tb:TS} (hp:PassesOwn (model X.prog X.w) X.A X.env X.xe) (hc:PT X c tc) (hb:AU X body tb):PS X (.While c body [] pos) (S3 tc tb):=by
 intro pins s σ H D I h;obtain ⟨W,⟨m0,w0⟩,turn⟩:=h;refine wpAny_While (codeAny_whileLoop (λn s' => ∃σ' H',Inv X pins σ' H' s' /\W n σ' H') ?_ m0 ⟨σ,H,I,w0⟩);rintro n s1 ⟨σ1,H1,I1,w1⟩;refine aEs hp (cZ (hc pins s1 σ1 H1 _ I1 (turn n σ1 H1 w1)) λb s2 ⟨H2,I2,q2⟩=> ?_)
 cases b with
 | true=>
  obtain ⟨N,hN,q2⟩:=q2;rw [if_pos rfl];refine aEs hp (cZ (hb pins s2 σ1 H2 _ I2 q2) λf s3 q3=> ?_)
  cases f with
  | next=>
   obtain ⟨σ3,H3,I3,n3⟩:=q3;obtain ⟨m',hm,w3⟩:=hN σ3 H3 n3;exact ⟨m',hm,σ3,H3,I3,w3⟩
  | cont=>
   obtain ⟨σ3,H3,I3,n3⟩:=q3;obtain ⟨m',hm,w3⟩:=hN σ3 H3 n3;exact ⟨m',hm,σ3,H3,I3,w3⟩
  | brk=> exact q3
  | ret v=> exact q3
 | false=>
  rw [if_neg Bool.false_ne_true];exact aG3 ⟨σ1,H2,I2,q2⟩
end
structure It where
 go:Nat->Hp->Prop
 WX:Nat->Hp->V->Hp->Prop
 stop:Nat->Hp->Prop
def pE (X:Cx) (pins:List (Addr×Obj)) (H:Hp) (b:Addr):Prop:=
 H b=none/\b≠X.env.locals/\b∉X.fs/\(b∈X.ex\/X.s₀.heap.objs.size<=b)/\(∀x c,X.env.cells.lookup x=some c->c≠b)/\∀p∈X.pn++pins,p.1≠b
theorem Inv.M9 {X:Cx} {pins:List (Addr×Obj)} {σ:St} {H H' :Hp} {s:Shared} {b:Addr} (I:Inv X pins σ H s) (hb:s.heap.objs.size<=b) (hn:H' b=none):pE X pins H' b:=by
 refine ⟨hn,aFb (aD7 I.lt hb),I.aBw hb,.inr (aDf I.sz hb),λx c e z=> ?_,λp hp z=> ?_⟩
 ·obtain ⟨v,q⟩:=I.cell x c e;exact absurd (aD7 q.lt (by rw [z];exact hb)) (aEa _)
 ·exact absurd (aD7 (aCx (I.pin p hp).1) (by rw [z];exact hb)) (aEa _)
structure Turn (P:Program) (w:World) (K:aGp) (tg:Expr) (J:It) (fp:List Addr) (it:Addr) (tn:Nat->Heap->Prop):Prop where
 mem:it∈fp
 obj:∀i h,tn i h->∀b∈fp,∃o,h.get? b=some o/\∀v,o.data≠ .cell v
 keep:∀i h h',tn i h->(∀b∈fp,∀o,h.get? b=some o->h'.get? b=some o)->tn i h'
 item:∀(X:Cx),X.prog=P->X.w=w->X.K=K->X.calm=true->∀(i:Nat) (pins:List (Addr×Obj)) (s:Shared) (σ:St) (H:Hp) (E:Value->Shared->Prop),Inv X pins σ H s->(∀b∈fp,pE X pins H b)->tn i s.heap->J.go i H->
  wpAny (model P w) X.A (pyNext (.ref it)) (λr s1=> ∃u,r=some u/\
   wpAny (model P w) X.A (letOwnedTupleGo tg (.ref it) u) (λ_ s2=> ∃x H',Inv X pins σ H' s2/\RelV x u/\J.WX i H x H' /\tn (i+1) s2.heap/\∀b∈fp,H' b=none) E s1) E s
 done:∀(X:Cx),X.prog=P->X.w=w->X.K=K->X.calm=true->∀(i:Nat) (pins:List (Addr×Obj)) (s:Shared) (σ:St) (H:Hp) (E:Value->Shared->Prop),Inv X pins σ H s->(∀b∈fp,pE X pins H b)->tn i s.heap->J.stop i H->
  wpAny (model P w) X.A (pyNext (.ref it)) (λr s1=> r=none/\Inv X pins σ H s1) E s
 self:∀(A:Around) (i:Nat) (s:Shared) (Q:Value->Shared->Prop) (E:Value->Shared->Prop),tn i s.heap->Q (.ref it) s->wpAny (model P w) A (pyIter (.ref it)) Q E s
abbrev TI := St -> Hp -> (It -> Hp -> Prop) -> Prop
def PIE (X:Cx) (pins:List (Addr×Obj)) (σ:St) (tg:Expr) (R:It->Hp->Prop) (itv:Value) (s2:Shared):Prop:=
 ∃(it:Addr) (fp:List Addr) (tn:Nat->Heap->Prop) (J:It) (H' :Hp),itv= .ref it/\Inv X pins σ H' s2/\Turn X.prog X.w X.K tg J fp it tn/\tn 0 s2.heap/\(∀b∈fp,pE X pins H' b)/\R J H'
def PI (X:Cx) (tg iter:Expr) (wi:TI):Prop:=
 ∀(pins:List (Addr×Obj)) (s:Shared) (σ:St) (H:Hp) (R:It->Hp->Prop),Inv X pins σ H s->wi σ H R->
  wpAny (model X.prog X.w) X.A (eval iter X.env) (λv s1=> wpAny (model X.prog X.w) X.A (pyIter v) (PIE X pins σ tg R) X.xe s1) X.xe s
theorem MZ {M:Model} {A:Around} {E:Value->Shared->Prop} {s:Shared} {tg:Expr} {it:Addr} {u:Value} {o:Obj} {n:String} {vs:Array Value} {Q:Unit->Shared->Prop} (ho:s.heap.get? it=some o) (hc:o.cls= .type n) (hd:o.data= .fields vs)
    (hn:["enumerate","zip","dict_itemiterator","dict_reverseitemiterator","odict_iterator","itertools.zip_longest","itertools.pairwise"].contains n=false) (hQ:Q () s):wpAny M A (letOwnedTupleGo tg (.ref it) u) Q E s:=by
  unfold letOwnedTupleGo
  cases tg <;> first
    | exact aCo hQ
    | (cases u <;> first
        | exact aCo hQ
        | (refine aCm (aGc ho ?_)
           rw [hc,hd];show wpAny M A (if (["enumerate","zip","dict_itemiterator","dict_reverseitemiterator","odict_iterator","itertools.zip_longest","itertools.pairwise"].contains n && vs[0]? ==some (rawInt _))=true then _ else _) Q E s;rw [if_neg (by intro h;rw [hn,Bool.false_and] at h;cases h)]
           exact aCo hQ))
def Itl (K:aGp) (a:Addr):It:=
 ⟨λi H=> ∃xs x,pD K H a xs/\xs[i]? =some x,λi H x H' => H' =H/\∀xs,pD K H a xs->xs[i]? =some x,λi H=> ∃xs,pD K H a xs/\xs.length<=i⟩
def Itt (K:aGp) (a:Addr):It:=
 ⟨λi H=> ∃xs x,pC K H a xs/\xs[i]? =some x,λi H x H' => H' =H/\∀xs,pC K H a xs->xs[i]? =some x,λi H=> ∃xs,pC K H a xs/\xs.length<=i⟩
def Itr (lo:Int) (n:Nat):It:=⟨λi _=> i < n,λi H x H' => H' =H/\x= .int (lo+i),λi _=> n<=i⟩
theorem HU {P:Program} {w:World} {K:aGp} {tg:Expr} (a it:Addr):Turn P w K tg (Itl K a) [it] it (λi h=> h.IsListIter it a i) where
 mem:=by simp
 obj:=λi h st b hb=> by
  have e:b=it:=by simpa using hb
  subst e;obtain ⟨o,e,c,d⟩:=st;exact ⟨o,e,λv z=> by rw [d] at z;cases z⟩
 keep:=λi h h' st k=> st.at λo e=> k it (by simp) o e
 item:=by
  intro X hP hw hK hc i pins s σ H E I hf st hg;subst hP hw hK;obtain ⟨xs,x,hq,hx⟩:=hg;obtain ⟨aL,rv,p,hz⟩:=I.list hq;obtain ⟨u,hu,ru⟩:=rv.get hx;obtain ⟨f0,f1,f2,f3,f4,f5⟩:=hf it (by simp);refine wpAny_pyNext_list_item st p.isList (x:=u) (by simpa using hu) λh' st' sb=> ?_;have I1:Inv X pins σ H {s with heap:=h'}:=I.turned (t' :=s.toks) (λb o hb e=> (sb.2 b hb).trans e) f0 f1 f3 f4 f5;obtain ⟨o,e,c,d⟩:=id st';exact ⟨u,rfl,MZ (s:={s with heap:=h'}) e c d (by decide) ⟨x,H,I1,ru,⟨rfl,λys hy=> by rw [I.CF hy hq];exact hx⟩,st',λb hb=> (hf b hb).1⟩⟩
 done:=by
  intro X hP hw hK hc i pins s σ H E I hf st hg;subst hP hw hK;obtain ⟨xs,hq,hx⟩:=hg;obtain ⟨aL,rv,p,hz⟩:=I.list hq;obtain ⟨f0,f1,f2,f3,f4,f5⟩:=hf it (by simp);have hl:=rv.length
  exact wpAny_pyNext_list_end (I.ok.hd hc) st p.isList (by simp;omega) λh' eb=> ⟨rfl,I.turned (t' :=s.toks) (λb o hb e=> eb b o hb e) f0 f1 f3 f4 f5⟩
 self:=λ_ _ _ _ _ st h=> wpAny_pyIter_listiter st h
theorem D5 {P:Program} {w:World} {K:aGp} {tg:Expr} (a it:Addr):Turn P w K tg (Itt K a) [it] it (λi h=> h.IsTupleIter it a i) where
 mem:=by simp
 obj:=λi h st b hb=> by
  have e:b=it:=by simpa using hb
  subst e;obtain ⟨o,e,c,d⟩:=st;exact ⟨o,e,λv z=> by rw [d] at z;cases z⟩
 keep:=λi h h' st k=> st.at λo e=> k it (by simp) o e
 item:=by
  intro X hP hw hK hc i pins s σ H E I hf st hg;subst hP hw hK;obtain ⟨xs,x,hq,hx⟩:=hg;obtain ⟨aL,rv,p,hz⟩:=I.tuple hq;obtain ⟨u,hu,ru⟩:=rv.get hx;obtain ⟨f0,f1,f2,f3,f4,f5⟩:=hf it (by simp);refine wpAny_pyNext_tuple_item st (show s.heap.IsTuple a aL.toArray from p) (x:=u) (by simpa using hu) λh' st' sb=> ?_;have I1:Inv X pins σ H {s with heap:=h'}:=I.turned (t' :=s.toks) (λb o hb e=> (sb.2 b hb).trans e) f0 f1 f3 f4 f5;obtain ⟨o,e,c,d⟩:=id st';exact ⟨u,rfl,MZ (s:={s with heap:=h'}) e c d (by decide) ⟨x,H,I1,ru,⟨rfl,λys hy=> by rw [I.wZ hy hq];exact hx⟩,st',λb hb=> (hf b hb).1⟩⟩
 done:=by
  intro X hP hw hK hc i pins s σ H E I hf st hg;subst hP hw hK;obtain ⟨xs,hq,hx⟩:=hg;obtain ⟨aL,rv,p,hz⟩:=I.tuple hq;obtain ⟨f0,f1,f2,f3,f4,f5⟩:=hf it (by simp);have hl:=rv.length
  exact wpAny_pyNext_tuple_end (I.ok.hd hc) st (show s.heap.IsTuple a aL.toArray from p) (by simp;omega) λh' eb=> ⟨rfl,I.turned (t' :=s.toks) (λb o hb e=> eb b o hb e) f0 f1 f3 f4 f5⟩
 self:=λ_ _ _ _ _ st h=> wpAny_pyIter_tupleiter st h
theorem D6 {P:Program} {w:World} {K:aGp} {tg:Expr} (it:Addr) (lo:Int) (n:Nat):Turn P w K tg (Itr lo n) [it] it (λi h=> IsRangeIter h it (lo+(i:Nat)*1) ((n:Int) - (i:Nat)) 1) where
 mem:=by simp
 obj:=λi h st b hb=> by
  have e:b=it:=by simpa using hb
  subst e
  exact ⟨_,st,λv z=> by
   have z' :Data.fields _=Data.cell v:=z
   cases z'⟩
 keep:=λi h h' st k=> k it (by simp) _ st
 item:=by
  intro X hP hw hK hc i pins s σ H E I hf st hg;subst hP hw hK;obtain ⟨f0,f1,f2,f3,f4,f5⟩:=hf it (by simp);have W:=Walks.range (prog:=X.prog) (w:=X.w) (I.ok.hd hc) it lo 1 n;refine W.item i s _ _ hg st λv h' tk hv st' kk=> ?_;obtain ⟨t,rfl⟩:=hv;have I1:Inv X pins σ H {s with heap:=h',toks:=tk}:=I.turned (λb o hb e=> kk b o (by simpa using hb) e) f0 f1 f3 f4 f5;refine ⟨_,rfl,MZ (s:={s with heap:=h',toks:=tk}) (n:= "range_iterator") st' rfl rfl (by decide) ⟨.int (lo+i),H,I1,⟨t,?_⟩,⟨rfl,rfl⟩,st',λb hb=> (hf b hb).1⟩⟩;rw [Int.mul_one]
 done:=by
  intro X hP hw hK hc i pins s σ H E I hf st hg;subst hP hw hK;obtain ⟨f0,f1,f2,f3,f4,f5⟩:=hf it (by simp)
  exact wpAny_pyNext_range_end (I.ok.hd hc) st (by have:n<=i:=hg;omega) λh' eb=> ⟨rfl,I.turned (t' :=s.toks) (λb o hb e=> eb b o hb e) f0 f1 f3 f4 f5⟩
 self:=λ_ _ _ _ _ st h=> wpAny_pyIter_rangeiter st h
section
variable {X:Cx} {tg:Expr}
theorem K6 {pins:List (Addr×Obj)} {σ:St} {H:Hp} {s:Shared} {R:It->Hp->Prop} {E:Value->Shared->Prop} {lo hi:Int} {t u v:Tok} {tk:Nat} (I:Inv X pins σ H s) (h1: -(2^62)<=lo) (h2:lo < 2^62) (h3: -(2^62)<=hi) (h4:hi < 2^62)
  (q:R (Itr lo (hi - lo).toNat) H):wpAny (model X.prog X.w) X.A (pyIter (.ref s.heap.objs.size)) (PIE X pins σ tg R) E {s with heap:=s.heap.push {cls:= .type "range",data:= .fields #[.int lo t,.int hi u,.int 1 v]},toks:=tk}:=by
 refine wpAny_pyIter_range (IsRange.new ..) (small_one h1 h2 h3 h4) ?_;have I1:Inv X pins σ H {s with heap:=s.heap.push {cls:= .type "range",data:= .fields #[.int lo t,.int hi u,.int 1 v]},toks:=tk}:=I.kept λb o e=> aCp _ e
 refine ⟨(s.heap.push {cls:= .type "range",data:= .fields #[.int lo t,.int hi u,.int 1 v]}).objs.size,[(s.heap.push {cls:= .type "range",data:= .fields #[.int lo t,.int hi u,.int 1 v]}).objs.size],_,_,H,rfl,
  I1.kept (t' :=tk) λb o e=> aCp _ e,D6 _ lo (hi - lo).toNat,?_,λb hb=> ?_,q⟩
 ·have e1:lo+((0:Nat):Int)*1=lo:=by simp
  have e2:(((hi - lo).toNat:Nat):Int) - ((0:Nat):Int)=Builtin.Range.rangeSize lo hi 1:=by rw [rangeSize_one];split <;> omega
  show IsRangeIter _ _ (lo+((0:Nat):Int)*1) ((((hi - lo).toNat:Nat):Int) - ((0:Nat):Int)) 1;rw [e1,e2];exact aCu _ rfl
 ·have e:b=(s.heap.push {cls:= .type "range",data:= .fields #[.int lo t,.int hi u,.int 1 v]}).objs.size:=by simpa using hb
  subst e;exact I1.M9 (aCs _) (I1.cG.fresh (aCs _))
def Y0 (ta:TA):TI:=λσ H R=> ta σ H λvs H1=> ∃j:Int,vs=[.int j]/\ -(2^62)<=j/\j < 2^62/\R (Itr 0 j.toNat) H1
theorem IG {a:Expr} {ta:TA} {p pos:Pos} (hg:Gl X "range") (hm:X.mg "range"=none) (ha:PA X [a] ta) (hs:starEach [a] X.env=[(false,eval a X.env)]:=by rfl):PI X tg (.Call (.Name "range" p) [a] [] pos) (Y0 ta):=by
 intro pins s σ H R I h;refine Call_ (oR I hg hm boot_range (aE9 (cZ (ha pos pins s σ H _ I h) λus s1 ⟨vs,H1,I1,r1,q1⟩=> ?_) hs rfl));obtain ⟨j,e,q1,q2,q⟩:=q1;subst e
 cases r1 with
 | cons r rr=>
  cases rr;obtain ⟨t,rfl⟩:=r;exact call_range_1 (K6 I1 (by omega) (by omega) q1 q2 (by simpa using q))
def aAv (wi:TI) (g:TG) (tb:TS):TS:=λD σ H=> wi σ H λJ H1=> ∃W:Nat->Nat->St->Hp->Prop,(∃m,W 0 m σ H1)/\∀i m σ H,W i m σ H->
 (J.stop i H/\D.nx σ H)\/(J.go i H/\∃N:St->Hp->Prop,(∀σ' H',N σ' H' ->∃m',m' < m/\W (i+1) m' σ' H')/\∀x H',J.WX i H x H' ->g x σ H' λσ2 H2=> tb {D with nx:=N,ct:=N,bk:=D.nx} σ2 H2)
def uT (fp:List Addr) (h:Heap):List (Addr×Obj):=fp.filterMap λb=> (h.get? b).map λo=> (b,o)
theorem kJ {fp:List Addr} {h:Heap} {b:Addr} {o:Obj} (hb:b∈fp) (e:h.get? b=some o):(b,o)∈uT fp h:=List.mem_filterMap.mpr ⟨b,hb,by rw [e];rfl⟩
theorem IJ {fp:List Addr} {h:Heap} {p:Addr×Obj} (hp:p∈uT fp h):p.1∈fp/\h.get? p.1=some p.2:=by
 obtain ⟨b,hb,e⟩:=List.mem_filterMap.mp hp
 cases q:h.get? b with
 | none=> rw [q] at e;cases e
 | some o=>
  rw [q] at e;have e' :(b,o)=p:=aD4 e;subst e';exact ⟨hb,q⟩
theorem Inv.pinned {pins:List (Addr×Obj)} {σ:St} {H:Hp} {s:Shared} {fp:List Addr} (I:Inv X pins σ H s) (hf:∀b∈fp,pE X pins H b) (ho:∀b∈fp,∃o,s.heap.get? b=some o/\∀v,o.data≠ .cell v):Inv X (pins++uT fp s.heap) σ H s:=
 I.GK λp hp=> (aCt.mp hp).elim (λz=> I.pin p (aD8 _ z)) λz=> by
  obtain ⟨hb,e⟩:=IJ z;obtain ⟨f0,f1,f2,_⟩:=hf p.1 hb;obtain ⟨o,e',d⟩:=ho p.1 hb;rw [e] at e';cases e';exact ⟨e,f0,f1,f2,d⟩
theorem Inv.pT {pins pl:List (Addr×Obj)} {σ:St} {H:Hp} {s:Shared} (I:Inv X (pins++pl) σ H s):Inv X pins σ H s:=I.GK λp hp=> I.pin p (aD8 _ (aDq _ hp))
theorem TX {iter:Expr} {body:List Stmt} {wi:TI} {g:TG} {tb:TS} {pos:Pos} (hp:PassesOwn (model X.prog X.w) X.A X.env X.xe) (hc:X.calm=true) (hi:PI X tg iter wi) (hg:PG X tg g) (hb:AU X body tb)
  (hs:∀x,foldedSetIterable iter X.env x=pure x:=by intro _;rfl):PS X (.For tg iter body [] pos) (aAv wi g tb):=by
 intro pins s σ H D I h;refine wpAny_For (cZ (hi pins s σ H _ I h) λv s1 h1=> cZ h1 λitv s2 h2=> ?_) hs;obtain ⟨it,fp,tn,J,H2,e,I2,T,st2,f2,W,⟨m0,w0⟩,turn⟩:=h2;subst e
 have stat:∀{H' :Hp},(∀b∈fp,H' b=none)->∀b∈fp,pE X pins H' b:=λhn b hb=> ⟨hn b hb,(f2 b hb).2⟩
 refine codeAny_forLoop_any (λn s' => ∃i σ' H',Inv X pins σ' H' s' /\tn i s'.heap/\(∀b∈fp,H' b=none)/\W i n σ' H') ?_ m0 ⟨0,σ,H2,I2,st2,λb hb=> (f2 b hb).1,w0⟩;rintro n s3 ⟨i,σ3,H3,I3,st3,fr3,w3⟩
 rcases turn i n σ3 H3 w3 with ⟨stop,qn⟩ | ⟨go,N,hN,step⟩
 ·refine aEs hp (cZ (T.done X rfl rfl rfl hc i pins s3 σ3 H3 X.xe I3 (stat fr3) st3 stop) λr s4 ⟨hr,I4⟩=> ?_);subst hr;exact aG3 ⟨σ3,H3,I4,qn⟩
 ·refine aEs hp (cZ (T.item X rfl rfl rfl hc i pins s3 σ3 H3 X.xe I3 (stat fr3) st3 go) λr s4 ⟨u,hr,h4⟩=> ?_);subst hr;refine aEs hp (cZ h4 λ_ s5 ⟨x,H5,I5,r5,y5,st5,fr5⟩=> ?_);have I5' :=I5.pinned (stat fr5) (T.obj _ _ st5);refine aEs hp (cZ (hg _ s5 σ3 H5 x u _ I5' r5 (step x H5 y5)) λ_ s6 ⟨σ6,H6,I6,q6⟩=> ?_);refine aEs hp (cZ (hb _ s6 σ6 H6 _ I6 q6) λf s7 q7=> ?_)
  have again:∀{σ7:St} {H7:Hp},Inv X (pins++uT fp s5.heap) σ7 H7 s7->N σ7 H7->∃m,m < n/\∃i σ' H',Inv X pins σ' H' s7/\tn i s7.heap/\(∀b∈fp,H' b=none)/\W i m σ' H' :=λ{σ7 H7} I7 n7=> by
   obtain ⟨m',hm,w7⟩:=hN σ7 H7 n7;refine ⟨m',hm,i+1,σ7,H7,I7.pT,T.keep _ _ _ st5 λb hb o e=> (I7.pin (b,o) (aD8 _ (aD8 _ (kJ hb e)))).1,λb hb=> ?_,w7⟩;obtain ⟨o,e,d⟩:=T.obj _ _ st5 b hb;exact (I7.pin (b,o) (aD8 _ (aD8 _ (kJ hb e)))).2.1
  cases f with
  | next=> obtain ⟨σ7,H7,I7,n7⟩:=q7;exact again I7 n7
  | cont=> obtain ⟨σ7,H7,I7,n7⟩:=q7;exact again I7 n7
  | brk=> obtain ⟨σ7,H7,I7,q7⟩:=q7;exact ⟨σ7,H7,I7.pT,q7⟩
  | ret v=> obtain ⟨x7,σ7,H7,I7,r7,q7⟩:=q7;exact ⟨x7,σ7,H7,I7.pT,r7,q7⟩
end
abbrev R2 := V -> V -> Hp -> VK -> Prop
def jB (X:Cx) (f:Value->Value->Sem Value) (r:R2):Prop:=
 ∀(pins:List (Addr×Obj)) (s:Shared) (σ:St) (H:Hp) (x y:V) (v u:Value) (Q:VK),Inv X pins σ H s->RelV x v->RelV y u->r x y H Q->
  wpAny (model X.prog X.w) X.A (f v u) (EP X pins σ Q) X.xe s
def ZN (X:Cx) (f:Value->Sem Value) (r:V->Hp->VK->Prop):Prop:=
 ∀(pins:List (Addr×Obj)) (s:Shared) (σ:St) (H:Hp) (x:V) (v:Value) (Q:VK),Inv X pins σ H s->RelV x v->r x H Q->
  wpAny (model X.prog X.w) X.A (f v) (EP X pins σ Q) X.xe s
def cR (X:Cx) (f:Value) (r:List V->Hp->VK->Prop):Prop:=
 ∀(pins:List (Addr×Obj)) (s:Shared) (σ:St) (H:Hp) (xs:List V) (us:List Value) (Q:VK),Inv X pins σ H s->Vals xs us->r xs H Q->
  wpAny (model X.prog X.w) X.A (call f us) (EP X pins σ Q) X.xe s
def aCg (X:Cx) (r:V->Hp->(Bool->Hp->Prop)->Prop):Prop:=
 ∀(pins:List (Addr×Obj)) (s:Shared) (σ:St) (H:Hp) (x:V) (v:Value) (Q:Bool->Hp->Prop),Inv X pins σ H s->RelV x v->r x H Q->
  wpAny (model X.prog X.w) X.A (truthy v) (TP X pins σ Q) X.xe s
def XG (r:R2) (ta tb:TE):TE:=λσ H Q=> ta σ H λx H1=> tb σ H1 λy H2=> r x y H2 Q
def tUn (r:V->Hp->VK->Prop) (ta:TE):TE:=λσ H Q=> ta σ H λx H1=> r x H1 Q
def rI (C:Int->Int->Prop) (g:Int->Int->V):R2:=λx y H Q=> ∃i j,x= .int i/\y= .int j/\C i j/\Q (g i j) H
def N3 (g:Int->Int->V):R2:=λx y H Q=> ∃i j,x= .int i/\y= .int j/\Q (g i j) H
def rU (g:Int->V):V->Hp->VK->Prop:=λx H Q=> ∃i,x= .int i/\Q (g i) H
section
variable {X:Cx} {a b c:Expr} {ta tb tc:TE} {pos:Pos}
theorem V4 (ha:PE X a ta) (hb:PE X b tb) {pins:List (Addr×Obj)} {s:Shared} {σ:St} {H:Hp} {R:V->V->Hp->Prop} (I:Inv X pins σ H s)
  (h:ta σ H λx H1=> tb σ H1 λy H2=> R x y H2) {Q:Value->Shared->Prop} {f:Value->Value->Sem Value}
  (hf:∀v u s2 x y H2,Inv X pins σ H2 s2->RelV x v->RelV y u->R x y H2->wpAny (model X.prog X.w) X.A (f v u) Q X.xe s2):
  wpAny (model X.prog X.w) X.A (eval a X.env) (λv s₁=> wpAny (model X.prog X.w) X.A (eval b X.env) (λu s₂=> wpAny (model X.prog X.w) X.A (f v u) Q X.xe s₂) X.xe s₁) X.xe s:=by
 refine cZ (ha pins s σ H _ I h) λv s1 ⟨x,H1,I1,r1,q1⟩=> ?_;refine cZ (hb pins s1 σ H1 _ I1 q1) λu s2 ⟨y,H2,I2,r2,q2⟩=> ?_;exact hf v u s2 x y H2 I2 r1 r2 q2
theorem YC {op:Operator} {r:R2} (ho:jB X (binaryOp op) r) (ha:PE X a ta) (hb:PE X b tb):PE X (.BinOp a op b pos) (XG r ta tb):=by
 intro pins s σ H Q I h;exact wpAny_BinOp (V4 ha hb I h λv u s2 x y H2 I2 rx ry q=> ho pins s2 σ H2 x y v u Q I2 rx ry q)
theorem YB {op:UnaryOp} {r:V->Hp->VK->Prop} (ho:ZN X (unaryOp op) r) (ha:PE X a ta):PE X (.UnaryOp op a pos) (tUn r ta):=by
 intro pins s σ H Q I h;exact UnaryOp_ (cZ (ha pins s σ H _ I h) λv s1 ⟨x,H1,I1,r1,q1⟩=> ho pins s1 σ H1 x v Q I1 r1 q1)
theorem Z5 {f:Value->Value->Sem Value} {C:Int->Int->Prop} {g:Int->Int->Int}
  (rule:∀(i j:Int) (t u:Tok) (s:Shared) (Q:Value->Shared->Prop) (E:Value->Shared->Prop),C i j->Q (.int (g i j) s.toks) {s with toks:=s.toks+1}->wpAny (model X.prog X.w) X.A (f (.int i t) (.int j u)) Q E s):
  jB X f (rI C λi j=> .int (g i j)):=by
 intro pins s σ H x y v u Q I rx ry h;obtain ⟨i,j,rfl,rfl,hc,q⟩:=h;obtain ⟨t,rfl⟩:=rx;obtain ⟨t',rfl⟩:=ry;exact rule i j t t' s _ _ hc ⟨.int (g i j),H,I.tok _,⟨_,rfl⟩,q⟩
theorem UK {f:Value->Value->Sem Value} {g:Int->Int->Int}
  (rule:∀(i j:Int) (t u:Tok) (s:Shared) (Q:Value->Shared->Prop) (E:Value->Shared->Prop),Q (.int (g i j) s.toks) {s with toks:=s.toks+1}->wpAny (model X.prog X.w) X.A (f (.int i t) (.int j u)) Q E s):
  jB X f (N3 λi j=> .int (g i j)):=by
 intro pins s σ H x y v u Q I rx ry h;obtain ⟨i,j,rfl,rfl,q⟩:=h;obtain ⟨t,rfl⟩:=rx;obtain ⟨t',rfl⟩:=ry;exact rule i j t t' s _ _ ⟨.int (g i j),H,I.tok _,⟨_,rfl⟩,q⟩
theorem P5 {f:Value->Value->Sem Value} {g:Int->Int->Bool}
  (rule:∀(i j:Int) (t u:Tok) (s:Shared) (Q:Value->Shared->Prop) (E:Value->Shared->Prop),Q (.bool (g i j)) s->wpAny (model X.prog X.w) X.A (f (.int i t) (.int j u)) Q E s):
  jB X f (N3 λi j=> .bl (g i j)):=by
 intro pins s σ H x y v u Q I rx ry h;obtain ⟨i,j,rfl,rfl,q⟩:=h;obtain ⟨t,rfl⟩:=rx;obtain ⟨t',rfl⟩:=ry;exact rule i j t t' s _ _ ⟨.bl (g i j),H,I,rfl,q⟩
def ZP (i j:Int):Prop:=0 < j/\j < 1073741824
def WH (i j:Int):Prop:=0<=j/\j<=1000000/\i.natAbs < 2^64
def JY (i j:Int):Prop:=(-(2^64) < i/\i < 2^64)\/(-(2^64) < j/\j < 2^64)
theorem JY.ok {i j:Int} (h:JY i j):IntMulOk i j:=by
 rcases h with ⟨h1,h2⟩ | ⟨h1,h2⟩
 ·exact .of_left (intBits_le_64 h1 h2)
 ·exact .of_right (intBits_le_64 h1 h2)
theorem UJ:jB X (binaryOp .Add) (N3 λi j=> .int (i+j)):=UK λ_ _ _ _ _ _ _ q=> add_int q
theorem UD:jB X (binaryOp .Sub) (N3 λi j=> .int (i - j)):=UK λ_ _ _ _ _ _ _ q=> sub_int q
theorem UG:jB X (binaryOp .Mult) (rI JY λi j=> .int (i*j)):=Z5 λ_ _ _ _ _ _ _ hc q=> mul_int q hc.ok
theorem PZ:jB X (binaryOp .FloorDiv) (rI ZP λi j=> .int (i / j)):=Z5 λi j _ _ _ _ _ hc q=> by
 have h1:(0:Int) < j:=hc.1;have h2:j < 1073741824:=hc.2;exact floordiv_int (by omega) (by rw [Int.fdiv_eq_ediv_of_nonneg i (by omega)];exact q) (.inl (PyProof.noPylong_small (by omega)))
theorem UH:jB X (binaryOp .Mod) (rI (λ_ j=> 0 < j) λi j=> .int (i % j)):=Z5 λi j _ _ _ _ _ hc q=> by
 have h1:(0:Int) < j:=hc;exact mod_int' (by omega) (by rw [Int.fmod_eq_emod_of_nonneg i (by omega)];exact q)
theorem UE:jB X (binaryOp .Pow) (rI WH λi j=> .int (i^j.toNat)):=Z5 λ_ _ _ _ _ _ _ hc q=> pow_int_small hc.1 hc.2.1 hc.2.2 q
theorem QV:jB X (inplaceOp .Add) (N3 λi j=> .int (i+j)):=UK λ_ _ _ _ _ _ _ q=> iadd_int q
theorem unI {f:Value->Sem Value} {g:Int->Int}
  (rule:∀(i:Int) (t:Tok) (s:Shared) (Q:Value->Shared->Prop) (E:Value->Shared->Prop),Q (.int (g i) s.toks) {s with toks:=s.toks+1}->wpAny (model X.prog X.w) X.A (f (.int i t)) Q E s):
  ZN X f (rU λi=> .int (g i)):=by
 intro pins s σ H x v Q I rx h;obtain ⟨i,rfl,q⟩:=h;obtain ⟨t,rfl⟩:=rx;exact rule i t s _ _ ⟨.int (g i),H,I.tok _,⟨_,rfl⟩,q⟩
theorem SU:ZN X (unaryOp .USub) (rU λi=> .int (-i)):=unI λ_ _ _ _ _ q=> neg_int q
end
section
variable {X:Cx} {a b c:Expr} {ta tb tc:TE} {pos:Pos}
theorem VX {pins:List (Addr×Obj)} {σ:St} {H:Hp} {s:Shared} {Q:VK} {k k' :Bool} (I:Inv X pins σ H s) (q:Q (.bl k) H) (e:k=k'):EP X pins σ Q (.bool k') s:=by
 subst e;exact ⟨.bl k,H,I,rfl,q⟩
theorem YH:jB X (compareOp .Lt) (N3 λi j=> .bl (decide (i < j))):=P5 λ_ _ _ _ _ _ _ q=> lt_int q
theorem YI:jB X (compareOp .LtE) (N3 λi j=> .bl (decide (i<=j))):=P5 λ_ _ _ _ _ _ _ q=> le_int q
theorem YJ:jB X (compareOp .Gt) (N3 λi j=> .bl (decide (j < i))):=P5 λ_ _ _ _ _ _ _ q=> gt_int q
theorem YK:jB X (compareOp .GtE) (N3 λi j=> .bl (decide (j<=i))):=P5 λ_ _ _ _ _ _ _ q=> ge_int q
theorem II:jB X (compareOp .Lt) (λx y H Q=> ∃i j,x= .str i/\y= .str j/\Q (.bl (decide (i.cps.toList < j.cps.toList))) H):=by
 intro pins s σ H x y v u Q I rx ry h;obtain ⟨i,j,rfl,rfl,q⟩:=h;obtain ⟨t,rfl⟩:=rx;obtain ⟨t',rfl⟩:=ry;exact lt_str (VX I q rfl)
theorem PU {op:CmpOp} {r:R2} (ho:jB X (compareOp op) r) (ha:PE X a ta) (hb:PE X b tb) (hm:behindInMarks op b=false):PE X (.Compare a [op] [b] pos) (XG r ta tb):=by
 intro pins s σ H Q I h;exact wpAny_Compare1 (V4 ha hb I h λv u s2 x y H2 I2 rx ry q=> ho pins s2 σ H2 x y v u Q I2 rx ry q) hm
def RP (t:TE):TT:=λσ H Q=> t σ H λx H' => ∃k,x= .bl k/\Q k H'
theorem PB {op:CmpOp} {r:R2} (ho:jB X (compareOp op) r) (ha:PE X a ta) (hb:PE X b tb) (hm:behindInMarks op b=false):PT X (.Compare a [op] [b] pos) (RP (XG r ta tb)):=by
 intro pins s σ H Q I h
 refine wpAny_isTrue_Compare1 (cZ (ha pins s σ H _ I h) λv s1 ⟨x,H1,I1,r1,q1⟩=> cZ (hb pins s1 σ H1 _ I1 q1) λu s2 ⟨y,H2,I2,r2,q2⟩=>
  cZ (ho pins s2 σ H2 x y v u _ I2 r1 r2 q2) λc s3 ⟨z,H3,I3,r3,k,e,q3⟩=> ?_) hm
 subst e;cases r3;exact aFq ⟨H3,I3,q3⟩
def V9 (K:aGp) (x:V) (H:Hp) (k:Bool):Prop:=
 match x with
 | .cN=> k=false
 | .bl b=> k=b
 | .int i=> k=(i !=0)
 | .str y=> y.length<=sizeLine/\k=((y.length:Int) !=0)
 | .byt y=> y.size<=sizeLine/\k=((y.size:Int) !=0)
 | .ref p=> (∃xs,pD K H p xs/\k= !xs.isEmpty)\/(∃xs,pC K H p xs/\k= !xs.isEmpty)\/∃kvs,H p=some (.dK kvs)/\k= !kvs.isEmpty
 | _=> False
theorem E8 {κ:Type} {kvs:List (κ×V)} {vs:List (κ×Value)} (r:KV kvs vs):(!vs.isEmpty)= !kvs.isEmpty:=by
 cases r <;> rfl
theorem vJ {xs:List V} {aL:List Value} (r:Vals xs aL):(!aL.toArray.isEmpty)= !xs.isEmpty:=by
 cases r <;> simp
theorem mH:(sizeLine:Nat) < 2^63:=by rw [sizeLine_eq];decide
theorem SY:aCg X (λx H Q=> ∃k,V9 X.K x H k/\Q k H):=by
 intro pins s σ H x v Q I rx h;obtain ⟨k,e,q⟩:=h;have hl:=mH;have hs:sizeLine=16777216:=aDe
 cases x with
 | cN=>
  cases rx;have e' :k=false:=e;subst e';exact truthy_none ⟨H,I,q⟩
 | bl b=>
  cases rx;have e' :k=b:=e;subst e';exact aFq ⟨H,I,q⟩
 | int i=>
  obtain ⟨t,rfl⟩:=rx;have e' :k=(i !=0):=e;subst e';exact PySem.P.truthy_int ⟨H,I,q⟩
 | str y=>
  obtain ⟨t,rfl⟩:=rx;obtain ⟨hy,e'⟩:y.length<=sizeLine/\k=((y.length:Int) !=0):=e;subst e';exact PySem.P.truthy_str (by omega) ⟨H,I.tok _,q⟩
 | byt y=>
  obtain ⟨t,rfl⟩:=rx;obtain ⟨hy,e'⟩:y.size<=sizeLine/\k=((y.size:Int) !=0):=e;subst e';exact PySem.W.truthy_bytes (by omega) ⟨H,I.tok _,q⟩
 | ref p=>
  cases rx;have e' :(∃xs,pD X.K H p xs/\k= !xs.isEmpty)\/(∃xs,pC X.K H p xs/\k= !xs.isEmpty)\/∃kvs,H p=some (.dK kvs)/\k= !kvs.isEmpty:=e
  rcases e' with ⟨xs,hx,e'⟩ | ⟨xs,hx,e'⟩ | ⟨kvs,hx,e'⟩
  ·subst e';obtain ⟨aL,r,pl,hz⟩:=I.list hx;have hlen:=r.length;exact wpAny_truthy_list pl.isList (by simp only [List.size_toArray];omega) ⟨H,I.tok _,by rw [vJ r];exact q⟩
  ·subst e';obtain ⟨aL,r,pl,hz⟩:=I.tuple hx;have hlen:=r.length;exact truthy_tuple pl (by simp only [List.size_toArray];omega) ⟨H,I.tok _,by rw [vJ r];exact q⟩
  ·subst e';obtain ⟨hz,hS,vs,r,m⟩:kvs.length<=sizeLine/\(p==sysModules)=false/\∃vs,KV kvs vs/\s.heap.DictOf (bA X.prog X.w) p vs:=I.cG p _ hx;have hlen:kvs.length=vs.length:=Paired.length r;exact wpAny_truthy_dict hS m (by omega) ⟨H,I.tok _,by rw [E8 r];exact q⟩
 | _=> exact (show False from e).elim
theorem K7 (ha:PE X a ta) (he:∀whole,isTrue a X.env whole=(do let v<-whole;standAt a.pos;holding [v] (truthy v))):
  PT X a (λσ H Q=> ta σ H λx H' => ∃k,V9 X.K x H' k/\Q k H'):=by
 intro pins s σ H Q I h;exact isTrue_plain (cZ (ha pins s σ H _ I h) λv s1 ⟨x,H1,I1,r1,q1⟩=> SY pins s1 σ H1 x v Q I1 r1 q1) (he _)
theorem EO:jB X (binaryOp .Add) (λx y H Q=> ∃i j,x= .str i/\y= .str j/\i.length+j.length<=sizeLine/\Q (.str (i++j)) H):=by
 intro pins s σ H x y v u Q I rx ry h;obtain ⟨i,j,rfl,rfl,hz,q⟩:=h;obtain ⟨t,rfl⟩:=rx;obtain ⟨t',rfl⟩:=ry;exact add_str (λt' tk=> ⟨.str (i++j),H,I.tok _,⟨_,rfl⟩,q⟩) hz
theorem CU:jB X (inplaceOp .Add) (λx y H Q=> ∃i j,x= .str i/\y= .str j/\i.length+j.length<=sizeLine/\Q (.str (i++j)) H):=by
 intro pins s σ H x y v u Q I rx ry h;obtain ⟨i,j,rfl,rfl,hz,q⟩:=h;obtain ⟨t,rfl⟩:=rx;obtain ⟨t',rfl⟩:=ry;exact iadd_str (λt' tk=> ⟨.str (i++j),H,I.tok _,⟨_,rfl⟩,q⟩) hz
theorem vals1 {x:V} {us:List Value} (r:Vals [x] us):∃u,us=[u]/\RelV x u:=by
 cases r with
 | cons r1 r2=> cases r2;exact ⟨_,rfl,r1⟩
theorem vals2 {x y:V} {us:List Value} (r:Vals [x,y] us):∃u w',us=[u,w']/\RelV x u/\RelV y w' :=by
 cases r with
 | cons r1 r2=>
  cases r2 with
  | cons r3 r4=> cases r4;exact ⟨_,_,rfl,r1,r3⟩
theorem NR:cR X (.builtin "abs") (λxs H Q=> ∃i,xs=[.int i]/\Q (.int (if i < 0 then -i else i)) H):=by
 intro pins s σ H xs us Q I r h;obtain ⟨i,rfl,q⟩:=h;obtain ⟨u,rfl,t,rfl⟩:=vals1 r
 exact call_abs_int λu tk=> ⟨.int (if i < 0 then -i else i),H,I.tok _,⟨_,rfl⟩,q⟩
theorem JM (hc:X.calm=true):cR X (.builtin "max") (λxs H Q=> ∃i j,xs=[.int i,.int j]/\Q (.int (if j > i then j else i)) H):=by
 intro pins s σ H xs us Q I r h;obtain ⟨i,j,rfl,q⟩:=h;obtain ⟨u,w',rfl,⟨t,rfl⟩,⟨t',rfl⟩⟩:=vals2 r
 refine max_two_ints (I.ok.hd hc) λh' tk k=> ⟨_,H,I.kept k,?_,q⟩
 by_cases hj:j > i
 ·rw [if_pos hj,if_pos hj];exact ⟨_,rfl⟩
 ·rw [if_neg hj,if_neg hj];exact ⟨_,rfl⟩
theorem JL (hc:X.calm=true):cR X (.builtin "min") (λxs H Q=> ∃i j,xs=[.int i,.int j]/\Q (.int (if j < i then j else i)) H):=by
 intro pins s σ H xs us Q I r h;obtain ⟨i,j,rfl,q⟩:=h;obtain ⟨u,w',rfl,⟨t,rfl⟩,⟨t',rfl⟩⟩:=vals2 r
 refine min_two_ints (I.ok.hd hc) λh' tk k=> ⟨_,H,I.kept k,?_,q⟩
 by_cases hj:j < i
 ·rw [if_pos hj,if_pos hj];exact ⟨_,rfl⟩
 ·rw [if_neg hj,if_neg hj];exact ⟨_,rfl⟩
theorem yF:cR X (.type "int") (λxs H Q=> (∃i,xs=[.int i]/\Q (.int i) H)\/∃k,xs=[.bl k]/\Q (.int (if k then 1 else 0)) H):=by
 intro pins s σ H xs us Q I r h
 rcases h with ⟨i,rfl,q⟩ | ⟨k,rfl,q⟩
 ·obtain ⟨u,rfl,t,rfl⟩:=vals1 r;exact call_int_int ⟨.int i,H,I,⟨_,rfl⟩,q⟩
 ·obtain ⟨u,rfl,r1⟩:=vals1 r;cases r1;exact call_int_bool ⟨.int (if k then 1 else 0),H,I.tok _,⟨_,rfl⟩,q⟩
end
theorem sU.some_of {v:V} {o:Option Value} (r:sU (some v) o):∃u,o=some u/\RelV v u:=by
 cases o with
 | none=> exact (show False from r).elim
 | some u=> exact ⟨u,rfl,r⟩
structure gI (k:Nat) (A:Around):Prop where
 hd:A.handled=none
 dp:A.depth+3*k+5 < recursionLimit
 un:A.units+16*k+200 < cLine
theorem gI.mono {j k:Nat} {A:Around} (r:gI k A) (h:j<=k):gI j A:=⟨r.hd,by have:=r.dp;omega,by have:=r.un;omega⟩
theorem gI.deeper {k:Nat} {A:Around} (r:gI (k+1) A) (env:Env):gI k (A.deeper env):=
 ⟨r.hd,by have:=r.dp;show A.depth+1+3*k+5 < _;omega,by have:=r.un;show A.units+3+16*k+200 < _;omega⟩
theorem gI.depth {k:Nat} {A:Around} (r:gI k A):A.depth < recursionLimit:=by have:=r.dp;omega
theorem gI.units {k:Nat} {A:Around} (r:gI k A):A.units+64 < cLine:=by have:=r.un;omega
def XI:TA:=λ_ H Q=> Q [] H
def RQ (ta:TE) (tr:TA):TA:=λσ H Q=> ta σ H λx H1=> tr σ H1 λxs H2=> Q (x::xs) H2
section
variable {X:Cx} {e:Expr} {es:List Expr} {te:TE} {t:TA} {pos:Pos}
theorem EN:PA X [] XI:=λ_ _ _ _ H Q I h=> aFr ⟨[],H,I,.nil,h⟩
theorem y9 (ha:PE X e te) (hr:PA X es t) (hs:starEach (e::es) X.env=(false,eval e X.env)::starEach es X.env:=by rfl):PA X (e::es) (RQ te t):=by
 intro pos pins s σ H Q I h;rw [hs];show wpAny _ _ (spliced ((false,eval e X.env)::backTo pos (starEach es X.env))) _ _ s;refine aEm (cZ (ha pins s σ H _ I h) λu s1 ⟨x,H1,I1,r1,q1⟩=> ?_)
 exact cZ (hr pos pins s1 σ H1 _ I1 q1) λus s2 ⟨xs,H2,I2,r2,q2⟩=> ⟨x::xs,H2,I2,.cons r1 r2,q2⟩
def aAm (t:TA):TE:=λσ H Q=> t σ H λxs H1=> xs.length<=sizeLine/\∀p,H1 p=none->Q (.ref p) (upd H1 p (.tup xs))
def aAr (t:TA):TE:=λσ H Q=> t σ H λxs H1=> xs.length<=sizeLine/\∀p,H1 p=none->Q (.ref p) (upd H1 p (.lst xs))
theorem T5 {x1} (h:PA X es t):PE X (.Tuple es x1 pos) (aAm t):=by
 intro pins s σ H Q I hq;refine wpAny_Tuple_spliced (cZ (h pos pins s σ H _ I hq) λus s1 ⟨xs,H1,I1,r,z,q⟩=> ⟨by rw [<-r.length];exact z,?_⟩);have hf:H1 s1.heap.objs.size=none:=I1.cG.fresh (aCs _);refine ⟨.ref s1.heap.objs.size,upd H1 s1.heap.objs.size (.tup xs),I1.laid (t' :=s1.toks) (λb u e=> aCp _ e) (aCs _) ?_,rfl,q _ hf⟩;exact ⟨z,us,r,⟨_,aCu _ rfl,rfl,_,rfl⟩,yT _ _⟩
theorem T8 (h:PA X es t):PE X (.List es pos) (aAr t):=by
 intro pins s σ H Q I hq;refine wpAny_List_spliced (cZ (h pos pins s σ H _ I hq) λus s1 ⟨xs,H1,I1,r,z,q⟩=> ⟨by rw [<-r.length];exact z,?_⟩);have hf:H1 s1.heap.objs.size=none:=I1.cG.fresh (aCs _);refine ⟨.ref s1.heap.objs.size,upd H1 s1.heap.objs.size (.lst xs),I1.laid (t' :=s1.toks) (λb u e=> aCp _ e) (aCs _) ?_,rfl,q _ hf⟩;exact ⟨z,us,0,r,aCu _ rfl⟩
end
abbrev Sp := List V -> Hp -> VK -> XK -> Prop
abbrev J0 := List Env -> Hp -> Shared -> XK -> Value -> Shared -> Prop
structure RG (P:Program) (w:World) (K:aGp) (mg:Str->Option Value) (base:Heap) (A:Around) (outer:List Env) (s:Shared) (H:Hp):Prop where
 frames:A.frames=some outer
 mod:Mod K mg base
 bs:∀b o,base.get? b=some o->s.heap.get? b=some o/\H b=none
 Q8:base.objs.size<=s.heap.objs.size
 vL:s.heap.FunFrames base outer
 WN:∀b∈M8 outer,H b=none
 cG:qV P w H s.heap
 bare:AllBare s.gens
def CE (outer:List Env) (P:Program) (w:World) (H:Hp) (s:Shared) (Q:VK) (u:Value) (s' :Shared):Prop:=
 ∃v H',s'.os=s.os/\AllBare s'.gens/\Un (M8 outer) [] H H' s.heap s'.heap/\qV P w H' s'.heap/\RelV v u/\Q v H'
def CR (CX:J0) (outer:List Env) (P:Program) (w:World) (H:Hp) (s:Shared) (Q:VK) (E:XK) (r:Result) (s' :Shared):Prop:=
 match r with
 | .ok (.ret u)=> CE outer P w H s Q u s'
 | .ok _=> False
 | .error e=> CX outer H s E e s'
structure jL (P:Program) (w:World) (K:aGp) (mg:Str->Option Value) (base:Heap) (CX:J0) (k:Nat) (f:Addr) (fd:FuncData) (ps:List Str) (sp:Sp):Prop where
 len:∀vs H Q E,sp vs H Q E->vs.length=ps.length
 run:∀(A:Around) (outer:List Env) (s:Shared) (H:Hp) (args:Args) (us:List Value) (vs:List V) (Q:VK) (E:XK),gI k A->RG P w K mg base A outer s H->BindsTo s fd args (ps.zip us)->Vals vs us->sp vs H Q E->
  codeAny (model P w) A (.call (.ref f) args) (CR CX outer P w H s Q E) s
theorem jL.mono {P:Program} {w:World} {K:aGp} {mg:Str->Option Value} {base:Heap} {CX:J0} {j k:Nat} {f:Addr} {fd:FuncData} {ps:List Str} {sp:Sp} (F:jL P w K mg base CX j f fd ps sp) (h:j<=k):
  jL P w K mg base CX k f fd ps sp:=⟨F.len,λA outer s H args us vs Q E hr=> F.run A outer s H args us vs Q E (hr.mono h)⟩
theorem jL.imp {P:Program} {w:World} {K:aGp} {mg:Str->Option Value} {base:Heap} {CX:J0} {k:Nat} {f:Addr} {fd:FuncData} {ps:List Str} {sp sp' :Sp} (F:jL P w K mg base CX k f fd ps sp)
  (h:∀vs H Q E,sp' vs H Q E->sp vs H Q E):jL P w K mg base CX k f fd ps sp' :=
 ⟨λvs H Q E q=> F.len vs H Q E (h _ _ _ _ q),λA outer s H args us vs Q E hr he hb hv hs=> F.run A outer s H args us vs Q E hr he hb hv (h _ _ _ _ hs)⟩
section
variable {X:Cx} {pins:List (Addr×Obj)} {σ:St} {H:Hp} {s s' :Shared}
theorem Inv.aCa (I:Inv X pins σ H s):RG X.prog X.w X.K X.mg X.base X.A X.stack s H:=
 ⟨I.ok.frames,I.ok.mod,I.bs,aDf I.ok.Q8 I.sz,I.stack,I.GD,I.cG,I.bare⟩
theorem Inv.after {Q:VK} {u:Value} (I:Inv X pins σ H s) (h:CE X.stack X.prog X.w H s Q u s'):EP X pins σ Q u s' :=by
 obtain ⟨v,H',os,bare,un,cG,r,q⟩:=h;obtain ⟨hh,g,d,t,os'⟩:=s';obtain rfl:os' =s.os:=os;exact ⟨v,H',I.call (h' :=hh) (g' :=g) (d' :=d) (t' :=t) (ch:=[]) un cG bare (λb z=> absurd z (by simp)),r,q⟩
end
def XO (sp:Sp) (dvs:List V) (E:XK) (t:TA):TE:=λσ H Q=> t σ H λvs H1=> sp (vs++dvs) H1 Q E
def Binds (K:aGp) (fd:FuncData) (ps:List Str) (ds:List Value):Prop:=
 ∀(s:Shared) (us:List Value),K.In s.heap->(us++ds).length=ps.length->BindsTo s fd ⟨us,[]⟩ (ps.zip (us++ds))
theorem Binds.all {K:aGp} {fd:FuncData} {ps:List Str} (h:∀us:List Value,us.length=ps.length->bindArgs fd ⟨us,[]⟩=pure (ps.zip us)):Binds K fd ps []:=λs us _ hl=> by
 rw [List.append_nil] at hl⊢;exact .of_eq (h us hl)
def Passes (CX:J0) (X:Cx) (E:XK):Prop:=∀(pins:List (Addr×Obj)) (σ:St) (H:Hp) (s:Shared) (e:Value) (s' :Shared),Inv X pins σ H s->CX X.stack H s E e s' ->X.xe e s'
section
variable {X:Cx} {CX:J0} {k:Nat} {f C:Addr} {fd:FuncData} {ps:List Str} {sp:Sp} {dvs:List V} {ds:List Value} {E:XK} {x m:Str} {p pos apos:Pos} {e o:Expr} {es:List Expr} {ta:TE} {t:TA}
theorem TK {pins:List (Addr×Obj)} {σ:St} {H:Hp} {s:Shared} {Q:VK} {us:List Value} {vs:List V} (F:jL X.prog X.w X.K X.mg X.base CX k f fd ps sp) (hr:gI k X.A) (hb:Binds X.K fd ps ds) (hd:Vals dvs ds) (hx:Passes CX X E)
  (I:Inv X pins σ H s) (r:Vals vs us) (h:sp (vs++dvs) H Q E):wpAny (model X.prog X.w) X.A (call (.ref f) us) (EP X pins σ Q) X.xe s:=by
 have r2:Vals (vs++dvs) (us++ds):=r.append hd;have hl:(us++ds).length=ps.length:=by rw [<-r2.length];exact F.len _ _ _ _ h
 refine wpAny_call (aFc (F.run X.A X.stack s H ⟨us,[]⟩ (us++ds) (vs++dvs) Q E hr I.aCa (hb s us I.U8 hl) r2 h) λr s' hq=> ?_)
 cases r with
 | error e=> exact hx pins σ H s e s' I hq
 | ok fl=>
  cases fl with
  | ret u=> exact I.after hq
  | next=> exact False.elim hq
  | brk=> exact False.elim hq
  | cont=> exact False.elim hq
theorem GL (F:jL X.prog X.w X.K X.mg X.base CX k f fd ps sp) (hr:gI k X.A) (hg:Gl X x) (hm:X.mg x=some (.ref f)) (hk:PySem.W.keepIn X.K (.ref f)=true) (hb:Binds X.K fd ps ds) (hd:Vals dvs ds) (hx:Passes CX X E)
  (ha:PA X (e::es) t) (hdb:(x==("__debug__":Str))=false:=by decide) (he:starEach (e::es) X.env=(false,eval e X.env)::starEach es X.env:=by rfl) (hpl:(backTo pos (starEach es X.env)).any (·.1)=false:=by rfl):
  PE X (.Call (.Name x p) (e::es) [] pos) (XO sp dvs E t):=by
 intro pins s σ H Q I h;refine aEn (QP I hg hm ?_ hdb);refine PySem.W.callWith_K (h₀:=X.base) I.ok.mod.kin hk (cZ (ha pos pins s σ H _ I h) λus s1 ⟨vs,H1,I1,r,q⟩=> ⟨I1.U8,?_⟩) he hpl;exact TK F hr hb hd hx I1 r q
end
structure bH (N P:List Str) (sc:Scope):Prop where
 kind:sc.kind= .function
 co:sc.isCoroutine=false
 gen:sc.isGenerator=false
 nd:N.Nodup
 pre:N.take P.length=P
 par:∀x∈P,sc.names.lookup x=some .local\/sc.names.lookup x=some .cell
 UM:∀y∈sc.names,y.2≠ .free
theorem yG {kindOf:Str->Option NameKind} {x:Str}:∀{binds:List (Str×Value)} {m:Str->Option Value},(∀v,(x,v)∉binds)->bindL kindOf binds m x=m x
 | [],_,_=> rfl
 | (n,v)::r,m,h=> by
  unfold bindL;rw [yG λw hw=> h w (List.mem_cons_of_mem _ hw)];split
  ·have:x≠n:=by rintro rfl;exact h v aCq
   simp [this]
  ·rfl
theorem yI {kindOf:Str->Option NameKind} {x:Str}:∀{binds:List (Str×Value)} {m:Str->Option Value},(∀v,(x,v)∉binds)->bindC kindOf binds m x=m x
 | [],_,_=> rfl
 | (n,v)::r,m,h=> by
  unfold bindC;rw [yI λw hw=> h w (List.mem_cons_of_mem _ hw)];split
  ·rfl
  ·have:x≠n:=by rintro rfl;exact h v aCq
   simp [this]
theorem yH {kindOf:Str->Option NameKind} {x:Str} {v:Value}:∀{P:List Str} {vs:List Value} {i:Nat} {m:Str->Option Value},P.Nodup->P[i]? =some x->vs[i]? =some v->kindOf x=some .local->
  bindL kindOf (P.zip vs) m x=some v
 | [],_,_,_,_,h,_,_=> by simp at h
 | _::_,[],_,_,_,_,h,_=> by simp at h
 | p::P,w::vs,0,m,nd,h1,h2,hk=> by
  simp at h1 h2;subst h1;subst h2;show bindL kindOf ((p,w)::P.zip vs) m p=_;unfold bindL;rw [yG λv hv=> (List.nodup_cons.mp nd).1 (List.of_mem_zip hv).1,if_pos hk];simp
 | p::P,w::vs,i+1,m,nd,h1,h2,hk=> by
  show bindL kindOf ((p,w)::P.zip vs) m x=_;unfold bindL;exact yH (i:=i) (aEt.mp nd).2 (by simpa using h1) (by simpa using h2) hk
theorem yJ {kindOf:Str->Option NameKind} {x:Str} {v:Value}:∀{P:List Str} {vs:List Value} {i:Nat} {m:Str->Option Value},P.Nodup->P[i]? =some x->vs[i]? =some v->kindOf x≠some .local->
  bindC kindOf (P.zip vs) m x=some v
 | [],_,_,_,_,h,_,_=> by simp at h
 | _::_,[],_,_,_,_,h,_=> by simp at h
 | p::P,w::vs,0,m,nd,h1,h2,hk=> by
  simp at h1 h2;subst h1;subst h2;show bindC kindOf ((p,w)::P.zip vs) m p=_;unfold bindC;rw [yI λv hv=> (List.nodup_cons.mp nd).1 (List.of_mem_zip hv).1,if_neg hk];simp
 | p::P,w::vs,i+1,m,nd,h1,h2,hk=> by
  show bindC kindOf ((p,w)::P.zip vs) m x=_;unfold bindC;exact yJ (i:=i) (aEt.mp nd).2 (by simpa using h1) (by simpa using h2) hk
def start (N:List Str) (vs:List V):St:=vs.map some++List.replicate (N.length - vs.length) none
def wL (CX:J0) (P:Program) (w:World) (K:aGp) (mg:Str->Option Value) (base:Heap) (N:List Str) (qual:Str) (scope:Scope) (f:Addr) (cd:Value) (A:Around) (outer:List Env) (s:Shared) (H:Hp) (E:XK):Cx where
 prog:=P
 w:=w
 K:=K
 mg:=mg
 base:=base
 A:=A.deeper (envOfC qual scope s.heap.objs.size f cd)
 N:=N
 s₀:=s
 H₀:=H
 env:=envOfC qual scope s.heap.objs.size f cd
 outer:=outer
 stack:=envOfC qual scope s.heap.objs.size f cd::outer
 ex:=[]
 calm:=true
 fn:=λ_=> true
 pn:=[]
 xe:=λe s' => wpAny (model P w) (A.deeper (envOfC qual scope s.heap.objs.size f cd)) (leaving (envOfC qual scope s.heap.objs.size f cd) e) (λ_ s'' => CX outer H s E e s'') (λe' s'' => CX outer H s E e' s'') s'
theorem DM {sc:Scope} {n:Nat} {x:Str} (h:sc.names.lookup x=some .cell):∃c,(cellsFrom n sc.names []).lookup x=some c:=by
 have q:=PySem.W.cellsFrom_some sc.names n [] (.inl h);exact Option.isSome_iff_exists.mp q
theorem IZ {CX:J0} {P:Program} {w:World} {K:aGp} {mg:Str->Option Value} {base:Heap} {N ps:List Str} {qual:Str} {scope:Scope} {f:Addr} {cd:Value} {A:Around} {outer:List Env} {s s1:Shared} {H:Hp} {E:XK} {us:List Value} {vs:List V}
  (S:bH N ps scope) (hd:A.handled=none) (e0:RG P w K mg base A outer s H) (hl:vs.length=ps.length) (r:Vals vs us)
  (x:InCallC s s.heap.objs.size (bindL (envOfC qual scope s.heap.objs.size f cd).kindOf (ps.zip us) λ_=> none) (cellsFrom (s.heap.objs.size+1) scope.names []) (bindC (envOfC qual scope s.heap.objs.size f cd).kindOf (ps.zip us) λ_=> none) s1):
  Inv (wL CX P w K mg base N qual scope f cd A outer s H E) [] (start N vs) H s1:=by
 have hpl:ps.length<=N.length:=by have:=aE0 List.length S.pre;rw [List.length_take] at this;omega
 obtain ⟨h1,tk,rfl,hk⟩:=x.done;have noA:∀b:Addr,b∉(wL CX P w K mg base N qual scope f cd A outer s H E).ex:=λb z=> absurd (show b∈([]:List Addr) from z) (by simp)
 refine ⟨⟨e0.mod,S.kind,rfl,rfl,aCs _,λy z c h1 h2=> ?_,λy hy=> ?_,λy c _ h=> ?_,λ_=> hd,Around.frames_deeper e0.frames,.inr ⟨rfl,rfl⟩,λb z=> absurd z (noA b),e0.bs,e0.Q8,λb _ _=> noA b,λb z=> absurd z (noA b),e0.vL,e0.WN⟩,
  rfl,e0.bare,Un.kept hk,⟨_,x.toInCall.ns,λi y v h1 h2 h3=> ?_⟩,λy c h=> ⟨_,x.cell y c h⟩,e0.cG.fresh (aCs _),λy c h=> ?_,λp hp=> absurd (show p∈([]:List (Addr×Obj)) from hp) (by simp),e0.cG.kept hk,?_⟩
 ·exact name_of_addr x.apart (aDy h1) (aDy h2)
 ·have hy:scope.names.lookup y=some .cell\/scope.names.lookup y=some .free:=hy;rcases hy with hy | hy
  ·exact DM hy
  ·exact absurd rfl (S.UM _ (aDy hy))
 ·exact aEu (x.above y c (aDy h))
 ·have hi:i < vs.length:=by
   unfold start at h2;by_cases hi:i < vs.length
   ·exact hi
   ·rw [List.getElem?_append_right (by simpa using hi)] at h2;rw [List.getElem?_replicate] at h2;split at h2 <;> cases h2
  have ha:vs[i]? =some v:=by
   unfold start at h2;rw [List.getElem?_append_left (by simpa using hi),List.getElem?_map] at h2
   cases e:vs[i]? with
   | none=> rw [e] at h2;cases h2
   | some a=> rw [e] at h2;cases h2;rfl
  obtain ⟨u,hu,rv⟩:=r.get ha
  have hp:ps[i]? =some y:=by
   rw [<-S.pre,List.getElem?_take_of_lt (by omega)];exact h1
  have ndP:ps.Nodup:=by rw [<-S.pre];exact S.nd.sublist (aGi _ _)
  refine ⟨u,rv,?_⟩;rcases S.par y (aCz hp) with k | k
  ·exact .inl ⟨k,yH ndP hp hu k⟩
  ·obtain ⟨c,e⟩:=DM (n:=s.heap.objs.size+1) k;refine .inr ⟨.inl k,c,e,?_⟩;have q:=x.cell y c e;rw [yJ ndP hp hu (by show scope.names.lookup y≠_;rw [k];decide)] at q;exact q
 ·exact e0.cG.fresh (aEu (x.above y c (aDy h)))
 ·unfold start;show _=N.length;rw [List.length_append,List.length_map,List.length_replicate];omega
theorem SA {CX:J0} {P:Program} {w:World} {K:aGp} {mg:Str->Option Value} {base:Heap} {k:Nat} {f:Addr} {name qual:Str} {params:Arguments} {body:List Stmt} {scope:Scope} {dV kV doc pm cdv ct oc:Value} {an od:Option Addr}
  {osl:Array (Option Value)} {N ps:List Str} {sp:Sp} (lk:K.lookup f=some ⟨oc,od,.func (PySem.W.fnOf name qual params body scope dV kV doc pm an cdv ct),osl⟩) (hcd:PySem.W.codeIn K cdv qual=true) (S:bH N ps scope)
  (len:∀vs H Q E,sp vs H Q E->vs.length=ps.length)
  (hbody:∀(A:Around) (outer:List Env) (s:Shared) (H:Hp) (vs:List V) (Q:VK) (E:XK),gI k (A.deeper (envOfC qual scope s.heap.objs.size f cdv))->sp vs H Q E->
   ∃t,AU (wL CX P w K mg base N qual scope f cdv A outer s H E) body t/\t {nx:=λ_ H' => Q .cN H',rt:=Q} (start N vs) H):
  jL P w K mg base CX (k+1) f (PySem.W.fnOf name qual params body scope dV kV doc pm an cdv ct) ps sp:=by
 refine ⟨len,λA outer s H args us vs Q E hr e0 hb r hsp=> ?_⟩;have hl:=len _ _ _ _ hsp;have KX:K.In s.heap:=e0.mod.kin.keeps λb o e=> (e0.bs b o e).1;have lim:s.heap.NoLimit:=e0.mod.nolimit.keeps λb o e=> (e0.bs b o e).1
 have hkind:∀y∈ps.zip us,scope.names.lookup y.1=some .local\/(scope.names.lookup y.1=some .cell/\((cellsFrom (s.heap.objs.size+1) scope.names []).lookup y.1).isSome=true):=λ⟨n,v⟩ hy=> by
  rcases S.par n (aG4 hy).1 with q | q
  ·exact .inl q
  ·exact .inr ⟨q,PySem.W.cellsFrom_some _ _ _ (.inl q)⟩
 refine codeAny_call_function hr.depth (KX _ _ lk) rfl S.co S.gen rfl (PySem.W.codeRec_of KX hcd) (hb _ _ _ _ ?_);refine wpAny_newFunctionEnv_cells S.kind hkind λenv he s1 x=> ?_;subst he;refine ⟨lim.keeps x.toInCall.keep,codeAny_func ?_⟩;obtain ⟨t,ht,hq⟩:=hbody A outer s H vs Q E (hr.deeper _) hsp;have I:Inv (wL CX P w K mg base N qual scope f cdv A outer s H E) [] (start N vs) H s1:=IZ S hr.hd e0 hl r x;refine aEf (ht [] s1 (start N vs) H _ I hq) (λfl s' hs=> ?_) λe s' hs=> hs
 have fin:∀{σ' :St} {H' :Hp} {v:V} {u:Value},Inv (wL CX P w K mg base N qual scope f cdv A outer s H E) [] σ' H' s' ->RelV v u->Q v H' ->CE outer P w H s Q u s' :=
  λ{σ' H' v u} J rv q=> ⟨v,H',J.os,J.bare,J.base,J.cG,rv,q⟩
 cases fl with
 | ret u=>
  obtain ⟨v,σ',H',J,rv,q⟩:=hs;exact fin J rv q
 | next=>
  obtain ⟨σ',H',J,q⟩:=hs;exact fin (v:=V.cN) (u:=Value.none) J rfl q
 | brk=>
  obtain ⟨_,_,_,q⟩:=hs;exact False.elim q
 | cont=>
  obtain ⟨_,_,_,q⟩:=hs;exact False.elim q
section
variable {X:Cx} {x:Str} {p pos:Pos} {e:Expr} {es:List Expr} {t:TA} {id T:String} {r:List V->Hp->VK->Prop}
def ZW (r:List V->Hp->VK->Prop) (t:TA):TE:=λσ H Q=> t σ H λvs H1=> r vs H1 Q
theorem BV (hc:cR X (.builtin id) r) (hg:Gl X x) (hm:X.mg x=none) (hv:bootBuiltins x=some (.builtin id)) (ha:PA X (e::es) t) (hn:x≠ "__name__":=by decide) (hdb:(x==("__debug__":Str))=false:=by decide)
  (he:starEach (e::es) X.env=(false,eval e X.env)::starEach es X.env:=by rfl) (hpl:(backTo pos (starEach es X.env)).any (·.1)=false:=by rfl):PE X (.Call (.Name x p) (e::es) [] pos) (ZW r t):=by
 intro pins s σ H Q I h;refine aEn (oR I hg hm hv ?_ hn hdb);exact PyProof.Rows.callWith_builtin1 (cZ (ha pos pins s σ H _ I h) λus s1 ⟨vs,H1,I1,r1,q1⟩=> hc pins s1 σ H1 vs us Q I1 r1 q1) he hpl
theorem xJ (hc:cR X (.type T) r) (hg:Gl X x) (hm:X.mg x=none) (hv:bootBuiltins x=some (.type T)) (ha:PA X (e::es) t) (hn:x≠ "__name__":=by decide) (hdb:(x==("__debug__":Str))=false:=by decide)
  (he:starEach (e::es) X.env=(false,eval e X.env)::starEach es X.env:=by rfl) (hpl:(backTo pos (starEach es X.env)).any (·.1)=false:=by rfl):PE X (.Call (.Name x p) (e::es) [] pos) (ZW r t):=by
 intro pins s σ H Q I h;refine aEn (oR I hg hm hv ?_ hn hdb);exact aE9 (cZ (ha pos pins s σ H _ I h) λus s1 ⟨vs,H1,I1,r1,q1⟩=> hc pins s1 σ H1 vs us Q I1 r1 q1) he hpl
end
end L2
namespace HT
open PySem PyProof.Rows
section
open PySem.SeqAt
open PySem.AutoSeq1 (wpAny_loadPart')
open PySem.MeetsSeq PySem.MeetsSeq2 PySem.MeetsSeq3
end
section
variable {prog:Program} {w:World} {A:Around} {E:Value->Shared->Prop} {s:Shared}
theorem Q6 {t b:Addr} {vs ws:List Value} {Q:Value->Shared->Prop} (ht:IsTup s.heap t vs.toArray) (hb:IsTup s.heap b ws.toArray) (hv:vs≠[])
  (h1:ws=[]->Q (.ref t) s) (h2:ws≠[]->Q (.ref s.heap.objs.size) {s with heap:=s.heap.push {cls:= .type "tuple",data:= .seq (vs++ws).toArray}})
  (hsz:vs.length+ws.length<=sizeLine):wpAny (model prog w) A (binaryOp .Add (.ref t) (.ref b)) Q E s:=by
 obtain ⟨⟨cls,dd,data,sl⟩,ho,hc,n,hd⟩:=id ht;obtain ⟨⟨cls2,dd2,data2,sl2⟩,ho2,hc2,n2,hd2⟩:=id hb;simp only at hc hd hc2 hd2;subst hc hd hc2 hd2;have e:vs.toArray++ws.toArray=(vs++ws).toArray:=by simp
 by_cases hw:ws=[]
 ·exact concat_meets ⟨_,ho,rfl⟩ ⟨_,ho2,rfl⟩ noFill_tuple_add seq_tuple_add aFs aFn (aFj _ _)
   (tuple_addW1 t b vs.toArray ws.toArray n n2 dd dd2 sl sl2 (by simpa using hv) (by simp [hw])) ⟨ho,ho2,h1 hw⟩
 ·refine concat_meets ⟨_,ho,rfl⟩ ⟨_,ho2,rfl⟩ noFill_tuple_add seq_tuple_add aFs aFn (aFj _ _)
   (tuple_addW2 t b vs.toArray ws.toArray n n2 dd dd2 sl sl2 (by simpa using hv) (by simpa using hw) (by rw [List.size_toArray,List.size_toArray];exact hsz)) ⟨ho,ho2,?_⟩
  rw [e];exact h2 hw
def dN (n d:Nat):Option Int->Nat
 | none=> d
 | some v=> if v < 0 then (v+(n:Int)).toNat else min v.toNat n
theorem TJ (n d:Nat) (hd:d<=n) (o:Option Int):dN n d o<=n:=by
 cases o with
 | none=> exact hd
 | some v=>
  show (if v < 0 then (v+(n:Int)).toNat else min v.toNat n)<=n;by_cases hv:v < 0
  ·rw [if_pos hv];omega
  ·rw [if_neg hv];exact Nat.min_le_right _ _
theorem HF (v:Int) (n d:Nat):(if v < 0 then max (v+(n:Int)) 0 else min v (n:Int))=((dN n d (some v):Nat):Int):=by
 show (if v < 0 then max (v+(n:Int)) 0 else min v (n:Int))=(((if v < 0 then (v+(n:Int)).toNat else min v.toNat n):Nat):Int);by_cases hv:v < 0
 ·simp only [if_pos hv];omega
 ·simp only [if_neg hv];omega
theorem FU (lo hi:Option Int) (n:Nat):Builtin.Slice.sliceAdjust lo hi 1 (n:Int)=(((dN n 0 lo:Nat):Int),((dN n n hi:Nat):Int)):=by
 have h1:¬((1:Int) < 0):=by omega
 unfold Builtin.Slice.sliceAdjust;simp only [h1,if_false];refine Prod.ext ?_ ?_
 ·cases lo with
  | none=> rfl
  | some v=> exact HF v n 0
 ·cases hi with
  | none=> rfl
  | some v=> exact HF v n n
theorem EK (i j:Nat):Builtin.Slice.slicePlaces (i:Int) (j:Int) 1=j - i:=by
 unfold Builtin.Slice.slicePlaces;have h1:(1:Int) > 0:=by omega
 simp only [h1,if_true,Int.ediv_one];split <;> omega
theorem uG {v:Value} {o:Option Int} {Q:Option Int->Shared->Prop} (p:IsPart v o) (h:Q o s):wpAny (model prog w) A (Builtin.Slice.slicePartIndex v) Q E s:=by
 cases p with
 | none=> exact slicePart_none h
 | int i t=> exact slicePart_int h
theorem jS {sl:Addr} {vl vu:Value} {lo hi:Option Int} {n:Nat} {Q:Int×Int×Nat->Shared->Prop} (hs:s.heap.IsSliceOf sl vl vu .none) (pl:IsPart vl lo) (pu:IsPart vu hi)
  (h:Q (((dN n 0 lo:Nat):Int),1,dN n n hi - dN n 0 lo) s):wpAny (model prog w) A (Builtin.Slice.sliceApplied (.ref sl) (pure (n:Int))) Q E s:=by
 obtain ⟨os,hos,hcs,hds⟩:=id hs;unfold Builtin.Slice.sliceApplied Builtin.Slice.sliceFields;refine aCm (aCm (aDu hos hds (x:=vl) rfl (aCm (aDu hos hds (x:=vu) rfl (aCm (aDu hos hds (x:= .none) rfl (aCo ?_)))))));refine aCm (slicePart_none ?_);show wpAny _ _ (if ((1:Int)==0)=true then _ else _) _ _ s;rw [if_neg (by decide)];refine aCm (uG pl (aCm (uG pu (aCm (aCo ?_)))));show wpAny _ _ (match Builtin.Slice.sliceAdjust lo hi 1 (n:Int) with | (lo,hi)=> pure (lo,(1:Int),Builtin.Slice.slicePlaces lo hi 1)) _ _ s;rw [FU lo hi n];show wpAny _ _ (pure (((dN n 0 lo:Nat):Int),(1:Int),Builtin.Slice.slicePlaces ((dN n 0 lo:Nat):Int) ((dN n n hi:Nat):Int) 1)) _ _ s;rw [EK];exact aCo h
theorem LC (xs:Array Value) (i k:Nat):((List.range k).filterMap λ(m:Nat)=> xs[((i:Int)+(m:Int)*1).toNat]?).toArray=((xs.toList.drop i).take k).toArray:=by
 have e:(λ(m:Nat)=> xs[((i:Int)+(m:Int)*1).toNat]?)=λm=> xs[i+m]? :=by
  funext m;have:((i:Int)+(m:Int)*1).toNat=i+m:=by omega
  rw [this]
 rw [e];have:=pick_run xs i k;rw [List.filterMap_map] at this;have e2:((λx=> xs[x]?) ∘ λx=> i+x)=λm=> xs[i+m]? :=rfl;rw [e2] at this;rw [this]
theorem qK {t sl:Addr} {items:Array Value} {vl vu:Value} {lo hi:Option Int} {Q:Value->Shared->Prop} (ht:IsTup s.heap t items) (hs:s.heap.IsSliceOf sl vl vu .none) (pl:IsPart vl lo) (pu:IsPart vu hi)
  (hw:¬(dN items.size 0 lo=0/\dN items.size items.size hi=items.size))
  (h:Q (.ref s.heap.objs.size) {s with heap:=s.heap.push {cls:= .type "tuple",data:= .seq ((items.toList.drop (dN items.size 0 lo)).take (dN items.size items.size hi - dN items.size 0 lo)).toArray}})
  (hsz:items.size<=sizeLine):wpAny (model prog w) A (getItem (.ref t) (.ref sl)) Q E s:=by
 have htake:sizeOk (.seq ((items.toList.drop (dN items.size 0 lo)).take (dN items.size items.size hi - dN items.size 0 lo)).toArray):=by
  show ((items.toList.drop (dN items.size 0 lo)).take (dN items.size items.size hi - dN items.size 0 lo)).toArray.size<=sizeLine;rw [List.size_toArray,List.length_take,List.length_drop,Array.length_toList];omega
 have hj:dN items.size items.size hi<=items.size:=TJ _ _ (aCs _) hi;obtain ⟨os,hos,hcs,hds⟩:=id hs
 have hTs:s.TypeIs (.ref sl) "slice":=⟨os,hos,hcs⟩
 unfold getItem
 try with_reducible refine aDm ?_
 first | refine aCm (aCo ?_) | skip
 refine aCm (wpAny_sequenceKey ht.typeIs (by decide) ?_)
 refine aCm (aDa (name:=Str.ofString "__getitem__") ht.typeIs aDt
  (aD5 aDt ht.typeIs entry_tuple_getitem ?_ (args_tuple_getitem _ _)))
 show wpAny _ _ (Builtin.Tuple.tupleItemsOf (.ref t) >>=_) _ _ s;refine aCm (tupleItemsOf_ ht ?_);refine aCm (aEk hTs ?_);rw [if_pos (by decide)];refine aCm (jS hs pl pu ?_)
 have hno:¬((((dN items.size 0 lo:Nat):Int)==0 && (1:Int)==1 && (dN items.size items.size hi - dN items.size 0 lo)==items.size)=true):=by
  intro q;rw [Bool.and_eq_true,Bool.and_eq_true] at q;have q1:((dN items.size 0 lo:Nat):Int)=0:=eq_of_beq q.1.1;have q2:dN items.size items.size hi - dN items.size 0 lo=items.size:=eq_of_beq q.2;exact hw ⟨by omega,by omega⟩
 show wpAny _ _ (if (((dN items.size 0 lo:Nat):Int)==0 && (1:Int)==1 && (dN items.size items.size hi - dN items.size 0 lo)==items.size)=true then _ else _) _ _ s;rw [if_neg hno,LC]
 first
  | exact aCm (m:=Builtin.Tuple.tupleExact _) (aDc (aCo ⟨_,rfl,aCo h⟩) htake)
  | exact aCm (m:=Builtin.Tuple.tupleExact _) (aDc (aCm (aCo (aCo ⟨_,rfl,aCo h⟩))) htake)
  | exact aCm (aCm (m:=Builtin.Tuple.tupleExact _) (aDc (aCo (aCo ⟨_,rfl,aCo h⟩)) htake))
  | exact aCm (aCm (m:=Builtin.Tuple.tupleExact _) (aDc (aCo ⟨_,rfl,aCo h⟩) htake))
end
end HT
namespace L2
open PySem PySem.Spec PyProof.Rows
abbrev TO := St -> Hp -> (Option Int -> Hp -> Prop) -> Prop
def PO (X:Cx) (e:Option Expr) (t:TO):Prop:=
 ∀(pins:List (Addr×Obj)) (s:Shared) (σ:St) (H:Hp) (Q:Option Int->Hp->Prop),Inv X pins σ H s->t σ H Q->
  wpAny (model X.prog X.w) X.A (evalPart e X.env) (λu s' => ∃o H',Inv X pins σ H' s' /\IsPart u o/\Q o H') X.xe s
def OQ:TO:=λ_ H Q=> Q none H
def XF (t:TE):TO:=λσ H Q=> t σ H λx H1=> ∃i,x= .int i/\Q (some i) H1
section
variable {X:Cx} {e:Expr} {te:TE} {lo hi:Option Expr} {tl th:TO} {pos p2:Pos}
theorem PM:PO X none OQ:=by
 intro pins s σ H Q I h;rw [evalPart_none];exact aCo ⟨none,H,I,.none,h⟩
theorem PL (h:PE X e te):PO X (some e) (XF te):=by
 intro pins s σ H Q I hw;rw [evalPart_some];refine cZ (h pins s σ H _ I hw) λu s1 ⟨x,H1,I1,r1,q1⟩=> ?_;obtain ⟨i,rfl,q⟩:=q1;obtain ⟨t,rfl⟩:=r1;exact ⟨some i,H1,I1,.int i t,q⟩
def WU (X:Cx) (r:V->Option Int->Option Int->Hp->VK->Prop):Prop:=
 ∀(pins:List (Addr×Obj)) (s:Shared) (σ:St) (H:Hp) (x:V) (v vl vu:Value) (lo hi:Option Int) (sl:Addr) (Q:VK),Inv X pins σ H s->RelV x v->s.heap.IsSliceOf sl vl vu .none->IsPart vl lo->IsPart vu hi->r x lo hi H Q->
  ∃T id,typeLookup (.type T) "__getitem__"=pure (some (.builtin id))/\s.TypeIs v T/\wpAny (model X.prog X.w) X.A (getItem v (.ref sl)) (EP X pins σ Q) X.xe s
def tSl (r:V->Option Int->Option Int->Hp->VK->Prop) (te:TE) (tl th:TO):TE:=λσ H Q=> te σ H λx H1=> tl σ H1 λl H2=> th σ H2 λu H3=> r x l u H3 Q
theorem LG {r:V->Option Int->Option Int->Hp->VK->Prop} (hr:WU X r) (he:PE X e te) (hl:PO X lo tl) (hu:PO X hi th):PE X (.Subscript e (.Slice lo hi none p2) pos) (tSl r te tl th):=by
 intro pins s σ H Q I h;refine Subscript_ (cZ (he pins s σ H _ I h) λv s1 ⟨x,H1,I1,r1,q1⟩=> ?_);refine wpAny_Slice (cZ (hl pins s1 σ H1 _ I1 q1) λvl s2 ⟨l,H2,I2,pl,q2⟩=> cZ (hu pins s2 σ H2 _ I2 q2) λvu s3 ⟨u,H3,I3,pu,q3⟩=> ?_);rw [evalPart_none];refine aCo ?_;have I4:Inv X pins σ H3 {s3 with heap:=s3.heap.push {cls:= .type "slice",data:= .fields #[vl,vu,.none]}}:=I3.kept (t' :=s3.toks) λb ob q=> aCp _ q;obtain ⟨T,id,hT,ht,hg⟩:=hr pins {s3 with heap:=s3.heap.push {cls:= .type "slice",data:= .fields #[vl,vu,.none]}} σ H3 x v vl vu l u s3.heap.objs.size Q I4 r1 (Heap.IsSliceOf.new ..) pl pu q3;show wpAny (model X.prog X.w) X.A (subscriptTail e (.Slice lo hi none p2) v (.ref s3.heap.objs.size)) (EP X pins σ Q) X.xe {s3 with heap:=s3.heap.push {cls:= .type "slice",data:= .fields #[vl,vu,.none]}};exact tail_any (ops:=[.ref s3.heap.objs.size,v]) ht hT hg (by with_unfolding_all rfl)
def AD (xs:List V) (lo hi:Option Int):List V:=(xs.drop (HT.dN xs.length 0 lo)).take (HT.dN xs.length xs.length hi - HT.dN xs.length 0 lo)
theorem sJ (xs:List V) (lo hi:Option Int):(AD xs lo hi).length<=xs.length:=by
 unfold AD;rw [List.length_take,List.length_drop];omega
def aBo (K:aGp):V->Option Int->Option Int->Hp->VK->Prop:=λx lo hi H Q=> ∃a xs,x= .ref a/\pC K H a xs/\
 ¬(HT.dN xs.length 0 lo=0/\HT.dN xs.length xs.length hi=xs.length)/\∀p,H p=none->Q (.ref p) (upd H p (.tup (AD xs lo hi)))
theorem TC:WU X (aBo X.K):=by
 intro pins s σ H x v vl vu lo hi sl Q I rx hs pl pu h;obtain ⟨a,xs,rfl,hx,hw,q⟩:=h;cases rx;obtain ⟨aL,r,ht,hz⟩:=I.tuple hx;have hlen:aL.toArray.size=xs.length:=by rw [List.size_toArray];exact r.length.symm
 refine ⟨"tuple",_,aDt.lookup,ht.typeIs,?_⟩;refine HT.qK ht hs pl pu (by rw [hlen];exact hw) ?_ (by rw [hlen];exact hz);rw [hlen];refine ⟨.ref s.heap.objs.size,_,I.laid (t' :=s.toks) (o:= .tup (AD xs lo hi)) (λb ob q=> aCp _ q) (aCs _) ?_,rfl,q _ (I.cG.fresh (aCs _))⟩;exact ⟨aDf (sJ xs lo hi) hz,_,(r.drop (HT.dN xs.length 0 lo)).take (HT.dN xs.length xs.length hi - HT.dN xs.length 0 lo),IsTup.new _ _,yT _ _⟩
def X7 (K:aGp):R2:=λx y H Q=> ∃a b xs ys,x= .ref a/\y= .ref b/\pC K H a xs/\pC K H b ys/\xs≠[]/\xs.length+ys.length<=sizeLine/\
 (ys=[]->Q (.ref a) H)/\(ys≠[]->∀p,H p=none->Q (.ref p) (upd H p (.tup (xs++ys))))
theorem Vals.zC {xs:List V} {us:List Value} (r:Vals xs us):us=[]↔xs=[]:=by
 cases r with
 | nil=> simp
 | cons _ _=> simp
theorem P0:jB X (binaryOp .Add) (X7 X.K):=by
 intro pins s σ H x y v u Q I rx ry h;obtain ⟨a,b,xs,ys,rfl,rfl,ha,hb,hx,hz,q1,q2⟩:=h;cases rx;cases ry;obtain ⟨aL,r1,p1,_⟩:=I.tuple ha;obtain ⟨its2,r2,p2,_⟩:=I.tuple hb;refine HT.Q6 p1 p2 (λz=> hx (r1.zC.mp z)) (λz=> ⟨.ref a,H,I,rfl,q1 (r2.zC.mp z)⟩) (λz=> ?_) (by rw [<-r1.length,<-r2.length];exact hz);refine ⟨.ref s.heap.objs.size,_,I.laid (t' :=s.toks) (o:= .tup (xs++ys)) (λb ob q=> aCp _ q) (aCs _) ?_,rfl,q2 (λw=> z (r2.zC.mpr w)) _ (I.cG.fresh (aCs _))⟩;exact ⟨by rw [List.length_append];exact hz,_,r1.append r2,IsTup.new _ _,yT _ _⟩
end
def E6 (n:Nat) (i:Int):Option Nat:=if 0<=i then (if i < n then some i.toNat else none) else if -(n:Int)<=i then some (i+n).toNat else none
def mV {α:Type} (xs:List α) (i:Int):Option α:=(E6 xs.length i).bind λj=> xs[j]?
theorem G3 {n:Nat} {i:Int} {j:Nat} (h:E6 n i=some j):seqIndex? i n=some j/\j < n/\ -(n:Int)<=i/\i < n:=by
 unfold E6 at h;by_cases h0:0<=i
 ·rw [if_pos h0] at h;by_cases h1:i < n
  ·rw [if_pos h1] at h;have e:i.toNat=j:=aD4 h;exact ⟨by rw [seqIndex_of h0 h1,e],by omega,by omega,h1⟩
  ·rw [if_neg h1] at h;cases h
 ·rw [if_neg h0] at h;by_cases h1: -(n:Int)<=i
  ·rw [if_pos h1] at h;have e:(i+n).toNat=j:=aD4 h;exact ⟨by rw [seqIndex_neg (by omega) h1,e],by omega,h1,by omega⟩
  ·rw [if_neg h1] at h;cases h
theorem AQ {α:Type} {xs:List α} {i:Int} {v:α} (h:mV xs i=some v):∃j,seqIndex? i xs.length=some j/\xs[j]? =some v/\j < xs.length/\ -(xs.length:Int)<=i/\i < xs.length:=by
 unfold mV at h
 cases e:E6 xs.length i with
 | none=> rw [e] at h;cases h
 | some j=>
  rw [e] at h;obtain ⟨h1,h2,h3,h4⟩:=G3 e;exact ⟨j,h1,h,h2,h3,h4⟩
theorem iA {α:Type} {xs:List α} {j:Nat} {v:α} (h:xs[j]? =some v):mV xs (j:Int)=some v:=by
 have hj:j < xs.length:=(aCn.mp h).1
 have e:E6 xs.length (j:Int)=some j:=by
  unfold E6;rw [if_pos (by omega),if_pos (by omega)];simp
 unfold mV;rw [e];exact h
def HM (b:Expr):Prop:=∀o i,subscripted b false o i=operate [o,i] (getItem o i)
def SH (X:Cx) (r:R2):Prop:=
 ∀(value slice:Expr) (pins:List (Addr×Obj)) (s:Shared) (σ:St) (H:Hp) (x y:V) (v u:Value) (Q:VK),Inv X pins σ H s->RelV x v->RelV y u->r x y H Q->
  subscripted slice false v u=operate [v,u] (getItem v u)->wpAny (model X.prog X.w) X.A (subscriptTail value slice v u) (EP X pins σ Q) X.xe s
def MtR (X:Cx) (id:String) (r:V->List V->Hp->VK->Prop):Prop:=
 ∀(pins:List (Addr×Obj)) (s:Shared) (σ:St) (H:Hp) (x:V) (xs:List V) (v:Value) (us:List Value) (Q:VK),Inv X pins σ H s->RelV x v->Vals xs us->r x xs H Q->
  wpAny (model X.prog X.w) X.A (call (.builtin id) (v::us)) (EP X pins σ Q) X.xe s
section
variable {X:Cx} {a b:Expr} {ta tb:TE} {pos:Pos}
theorem YE {r:R2} (hr:SH X r) (ha:PE X a ta) (hb:PE X b tb) (hs:HM b):PE X (.Subscript a b pos) (XG r ta tb):=by
 intro pins s σ H Q I h;exact Subscript_ (V4 ha hb I h λv u s2 x y H2 I2 rx ry q=> hr a b pins s2 σ H2 x y v u Q I2 rx ry q (hs _ _))
def aBt (K:aGp):R2:=λx y H Q=> ∃p xs i v,x= .ref p/\y= .int i/\pD K H p xs/\mV xs i=some v/\Q v H
def aBr (K:aGp):R2:=λx y H Q=> ∃p xs i v,x= .ref p/\y= .int i/\pC K H p xs/\mV xs i=some v/\Q v H
def aBs:R2:=λx y H Q=> ∃z i c,x= .str z/\y= .int i/\z.length<=sizeLine/\mV z.cps.toList i=some c/\Q (.str ⟨#[c]⟩) H
theorem QT:SH X (aBt X.K):=by
 intro value slice pins s σ H x y v u Q I rx ry h hs;obtain ⟨p,xs,i,z,rfl,rfl,hq,he,q⟩:=h;cases rx;obtain ⟨t,rfl⟩:=ry;obtain ⟨aL,r,pl,hz⟩:=I.list hq;obtain ⟨j,h1,h2,h3,h4,h5⟩:=AQ he;obtain ⟨w,ew,rw'⟩:=r.get h2;have hl:=r.length;have hn:=mH
 have fin:EP X pins σ Q w s:=⟨z,H,I,rw',q⟩
 by_cases h0:0<=i
 ·have hj:i.toNat=j:=by
   rw [seqIndex_of h0 h5] at h1;exact aD4 h1
  exact item_listR pl.isList h0 (by omega) (by rw [hj];simpa using ew) fin hs
 ·have hj:(i+(aL.toArray.size:Int)).toNat=j:=by
   rw [seqIndex_neg (by omega) h4] at h1;rw [List.size_toArray,<-hl];exact aD4 h1
  exact subscriptTail_builtinR (x:=w) pl.isList.typeIs slot_list_getitem.lookup
   (wpAny_getItem_list_neg (Q:=λr s' => r=w/\EP X pins σ Q r s') pl.isList (by omega) (by rw [List.size_toArray] <;> omega) (by omega) (by rw [hj];simpa using ew) ⟨rfl,fin⟩) hs
theorem U9:SH X (aBr X.K):=by
 intro value slice pins s σ H x y v u Q I rx ry h hs;obtain ⟨p,xs,i,z,rfl,rfl,hq,he,q⟩:=h;cases rx;obtain ⟨t,rfl⟩:=ry;obtain ⟨aL,r,pl,hz⟩:=I.tuple hq;obtain ⟨j,h1,h2,h3,h4,h5⟩:=AQ he;obtain ⟨w,ew,rw'⟩:=r.get h2;have hl:=r.length;have hn:=mH
 have fin:EP X pins σ Q w s:=⟨z,H,I,rw',q⟩
 exact subscriptTail_builtinR (x:=w) pl.typeIs slot_tuple_getitem.lookup
  (getItem_tuple (j:=j) (Q:=λr s' => r=w/\EP X pins σ Q r s') pl (by omega) (by omega) (by rw [List.size_toArray,<-hl];exact h1) (by simpa using ew) ⟨rfl,fin⟩) hs
theorem VA:SH X aBs:=by
 intro value slice pins s σ H x y v u Q I rx ry h hs;obtain ⟨z,i,c,rfl,rfl,hz,he,q⟩:=h;obtain ⟨t,rfl⟩:=rx;obtain ⟨t',rfl⟩:=ry;obtain ⟨j,h1,h2,h3,h4,h5⟩:=AQ he;have hl:z.cps.toList.length=z.length:=by simp [Str.length]
 rw [hl] at h1 h4 h5;have hn:=mH
 exact tail_any (typeIs_str s z t) slot_str_getitem.lookup (getItem_str (c:=c) (by
  have e1:decide (i < -(2^63:Int))=false:=aEr (by omega);have e2:decide (i>=2^63)=false:=aEr (by omega)
  rw [e1,e2,Bool.or_false]) (by rw [h1];simpa using h2) ⟨.str ⟨#[c]⟩,H,I.tok _,⟨_,rfl⟩,q⟩) hs
theorem EX (aL:List Value) (n j:Nat) (u:Value):Obj.mapSeq (·.setIfInBounds j u) {cls:= .type "list",data:= .seq aL.toArray n}={cls:= .type "list",data:= .seq (aL.set j u).toArray n}:=by
 simp [Obj.mapSeq]
theorem Inv.lst {pins:List (Addr×Obj)} {σ:St} {H:Hp} {s:Shared} {p:Addr} {xs:List V} (I:Inv X pins σ H s) (h:H p=some (.lst xs)):
  ∃(aL:List Value) (n:Nat),Vals xs aL/\s.heap.get? p=some {cls:= .type "list",data:= .seq aL.toArray n}/\xs.length<=sizeLine:=by
 obtain ⟨z,aL,n,r,e⟩:=I.cG p _ h;exact ⟨aL,n,r,e,z⟩
theorem Inv.US {pins:List (Addr×Obj)} {σ:St} {H:Hp} {s:Shared} {p:Addr} {xs ys:List V} {aL its' :List Value} {n n' :Nat} {f:Obj->Obj} (I:Inv X pins σ H s) (h:H p=some (.lst xs))
  (ho:s.heap.get? p=some {cls:= .type "list",data:= .seq aL.toArray n}) (hf:f {cls:= .type "list",data:= .seq aL.toArray n}={cls:= .type "list",data:= .seq its'.toArray n'}) (r:Vals ys its') (hz:ys.length<=sizeLine) (t:Nat):
  Inv X pins σ (upd H p (.lst ys)) {s with heap:=s.heap.update p f,toks:=t}:=by
 have e:(s.heap.update p f).get? p=some {cls:= .type "list",data:= .seq its'.toArray n'}:=by
  rw [Heap.get?_update_self f ho (by rw [hf] <;> rfl),hf]
 refine I.write (x:=p) (e:=p) (by rw [h];trivial) (.inl rfl) (λb u hb q=> (aDl _ _ (aDw hb)).trans q) ⟨_,e⟩ ?_;exact ⟨hz,its',n',r,e⟩
def X5:V->V->V->Hp->(Hp->Prop)->Prop:=λo i v H Q=> ∃p xs k j,o= .ref p/\i= .int k/\H p=some (.lst xs)/\E6 xs.length k=some j/\Q (upd H p (.lst (xs.set j v)))
theorem set_list:ZO X X5:=by
 intro pins s σ H o i v ov iv u Q I ro ri rv h;obtain ⟨p,xs,k,j,rfl,rfl,hp,hj,q⟩:=h;cases ro;obtain ⟨t,rfl⟩:=ri;obtain ⟨aL,n,r,ho,hz⟩:=I.lst hp;obtain ⟨h1,h2,h3,h4⟩:=G3 hj;have hl:=r.length;have hn:=mH
 have I' :Inv X pins σ (upd H p (.lst (xs.set j v))) {s with heap:=s.heap.update p (Obj.mapSeq (·.setIfInBounds j u))}:=
  I.US hp ho (EX aL n j u) (r.set rv j) (by rw [List.length_set];exact hz) s.toks
 by_cases h0:0<=k
 ·have hk:k.toNat=j:=by
   rw [seqIndex_of h0 h4] at h1;exact aD4 h1
  exact PySem.W.ki_setAt ho h0 (by omega) (by rw [List.size_toArray,<-hl];exact h4) (by rw [hk];exact ⟨_,I',q⟩)
 ·have hk:(k+(aL.toArray.size:Int)).toNat=j:=by
   rw [seqIndex_neg (by omega) h3] at h1;rw [List.size_toArray,<-hl];exact aD4 h1
  exact PySem.W.ki_setBack ho (by omega) (by rw [List.size_toArray,<-hl];exact h3) (by omega) (by rw [hk];exact ⟨_,I',q⟩)
theorem yV (lo hi:Option Int) (n:Nat):(sliceBounds lo hi none n).1=((HT.dN n 0 lo:Nat):Int)/\(sliceBounds lo hi none n).2.1=((HT.dN n n hi:Nat):Int)/\(sliceBounds lo hi none n).2.2=1:=by
 refine ⟨?_,?_,rfl⟩
 ·cases lo with
  | none=> simp [sliceBounds,HT.dN]
  | some i=>
   simp only [sliceBounds,HT.dN,Option.getD_none,show (1:Int) > 0 by decide,if_true];by_cases h:i < 0
   ·simp only [h,if_true] <;> omega
   ·simp only [h,if_false] <;> omega
 ·cases hi with
  | none=> simp [sliceBounds,HT.dN]
  | some i=>
   simp only [sliceBounds,HT.dN,Option.getD_none,show (1:Int) > 0 by decide,if_true];by_cases h:i < 0
   ·simp only [h,if_true] <;> omega
   ·simp only [h,if_false] <;> omega
theorem wA (aL:List Value) (lo hi:Option Int):slicePick aL.toArray lo hi none=((aL.drop (HT.dN aL.length 0 lo)).take (HT.dN aL.length aL.length hi - HT.dN aL.length 0 lo)).toArray:=by
 obtain ⟨h1,h2,h3⟩:=yV lo hi aL.toArray.size;unfold slicePick;rw [h1,h2,h3];simp only [sliceRange_one,pick_run,List.size_toArray] <;> rfl
def aBp (K:aGp):V->Option Int->Option Int->Hp->VK->Prop:=λx lo hi H Q=> ∃a xs,x= .ref a/\pD K H a xs/\∀p,H p=none->Q (.ref p) (upd H p (.lst (AD xs lo hi)))
theorem OV:WU X (aBp X.K):=by
 intro pins s σ H x v vl vu lo hi sl Q I rx hs pl pu h;obtain ⟨a,xs,rfl,hx,q⟩:=h;cases rx;obtain ⟨aL,r,ht,hz⟩:=I.list hx;have hlen:=r.length;refine ⟨"list",_,slot_list_getitem.lookup,ht.isList.typeIs,?_⟩;refine wpAny_getItem_list_slice ht.isList hs pl pu .none (by simp) ?_ (by rw [List.size_toArray] <;> omega);rw [wA,<-hlen];refine ⟨.ref s.heap.objs.size,_,I.laid (t' :=s.toks) (o:= .lst (AD xs lo hi)) (λb ob q=> aCp _ q) (aCs _) ?_,rfl,q _ (I.cG.fresh (aCs _))⟩;exact ⟨aDf (sJ xs lo hi) hz,_,0,(r.drop (HT.dN xs.length 0 lo)).take (HT.dN xs.length xs.length hi - HT.dN xs.length 0 lo),aCu _ rfl⟩
theorem AJ:cR X (.builtin "len") (λxs H Q=> ∃p ys,xs=[.ref p]/\(pD X.K H p ys\/pC X.K H p ys)/\Q (.int ys.length) H):=by
 intro pins s σ H xs us Q I r h;obtain ⟨p,ys,rfl,hq,q⟩:=h;obtain ⟨u,rfl,rx⟩:=vals1 r;cases rx;have hn:=mH;rcases hq with hq | hq
 ·obtain ⟨aL,r',pl,hz⟩:=I.list hq;have hlen:=r'.length;exact Calls.call_len_list pl.isList (by simp only [List.size_toArray] <;> omega) ⟨.int ys.length,H,I.tok _,⟨s.toks+1,by rw [List.size_toArray,hlen]⟩,q⟩
 ·obtain ⟨aL,r',pl,hz⟩:=I.tuple hq;have hlen:=r'.length;exact len_tuple pl (by simp only [List.size_toArray] <;> omega) ⟨.int ys.length,H,I.tok _,⟨s.toks+1,by rw [List.size_toArray,hlen]⟩,q⟩
theorem AI:cR X (.builtin "len") (λxs H Q=> ∃z,xs=[.str z]/\z.length<=sizeLine/\Q (.int z.length) H):=by
 intro pins s σ H xs us Q I r h;obtain ⟨z,rfl,hz,q⟩:=h;obtain ⟨u,rfl,t,rfl⟩:=vals1 r;have hn:=mH;exact len_str (by omega) ⟨.int z.length,H,I.tok _,⟨_,rfl⟩,q⟩
theorem AH:cR X (.type "list") (λxs H Q=> ∃p ys,xs=[.ref p]/\(pD X.K H p ys\/pC X.K H p ys)/\∀l,H l=none->Q (.ref l) (upd H l (.lst ys))):=by
 intro pins s σ H xs us Q I r h;obtain ⟨p,ys,rfl,hq,q⟩:=h;obtain ⟨u,rfl,rx⟩:=vals1 r;cases rx
 have fin:∀(aL:List Value),Vals ys aL->ys.length<=sizeLine->∀(h' :Heap) (c' :Nat),(∀b o',s.heap.get? b=some o' ->h'.get? b=some o')->
   h'.get? s.heap.objs.size=some {cls:= .type "list",dict:=none,data:= .seq aL.toArray c',slots:= #[]}->EP X pins σ Q (.ref s.heap.objs.size) {s with heap:=h'}:=λaL r' hz h' c' kp e=>
  ⟨.ref s.heap.objs.size,_,I.laid (t' :=s.toks) kp (aCs _) (show dM X.prog X.w _ h' _ (.lst ys) from ⟨hz,aL,c',r',e⟩),rfl,q _ (I.cG.fresh (aCs _))⟩
 rcases hq with hq | hq
 ·obtain ⟨aL,r',pl,hz⟩:=I.list hq;have hlen:=r'.length;obtain ⟨o,ho,hc,n,hd⟩:=pl.isList;exact call_list_seq p (.inl rfl) ho hc hd (λh' c' kp e=> fin aL r' hz h' c' kp e) (by simp only [List.size_toArray] <;> omega)
 ·obtain ⟨aL,r',pl,hz⟩:=I.tuple hq;have hlen:=r'.length;obtain ⟨o,ho,hc,n,hd⟩:=pl;exact call_list_seq p (.inr rfl) ho hc hd (λh' c' kp e=> fin aL r' hz h' c' kp e) (by simp only [List.size_toArray] <;> omega)
theorem jK:cR X (.type "tuple") (λxs H Q=> ∃p ys,xs=[.ref p]/\((pD X.K H p ys/\∀l,H l=none->Q (.ref l) (upd H l (.tup ys)))\/(pC X.K H p ys/\Q (.ref p) H))):=by
 intro pins s σ H xs us Q I r h;obtain ⟨p,ys,rfl,h⟩:=h;obtain ⟨u,rfl,rx⟩:=vals1 r;cases rx
 rcases h with ⟨hq,q⟩ | ⟨hq,q⟩
 ·obtain ⟨aL,r',pl,hz⟩:=I.list hq;have hlen:=r'.length;refine call_tuple_list pl.isList (λh' kp=> ?_) (by simp only [List.size_toArray] <;> omega);have I1:Inv X pins σ H {s with heap:=h'}:=I.kept (t' :=s.toks) kp
  have I2:Inv X pins σ (upd H h'.objs.size (.tup ys)) {s with heap:=h'.push {cls:= .type "tuple",data:= .seq aL.toArray}}:=
   I1.laid (t' :=s.toks) (λb o e=> aCp _ e) (aCs _) (show dM X.prog X.w _ _ _ (.tup ys) from ⟨hz,aL,r',IsTup.new _ _,yT _ _⟩)
  exact ⟨.ref h'.objs.size,_,I2,rfl,q _ (I1.cG.fresh (aCs _))⟩
 ·obtain ⟨aL,r',pl,hz⟩:=I.tuple hq;exact call_tuple_same pl ⟨.ref p,H,I,rfl,q⟩
def tyV (K:aGp) (T:String) (x:V) (H:Hp):Prop:=match x with
 | .str _=> T= "str"
 | .int _=> T= "int"
 | .ref p=> (T= "list"/\∃xs,pD K H p xs)\/(T= "tuple"/\∃xs,pC K H p xs)\/
   (T= "dict"/\((∃kvs,H p=some (.dK kvs))\/∃kvs,H p=some (.dT kvs)))\/(T= "set"/\∃S n,H p=some (.set S n))
 | _=> False
theorem SV {pins:List (Addr×Obj)} {σ:St} {H:Hp} {s:Shared} {T:String} {x:V} {v:Value} (I:Inv X pins σ H s) (r:RelV x v) (ty:tyV X.K T x H):
  s.TypeIs v T/\∀a,v= .ref a->∃ob,s.heap.get? a=some ob/\ob.dict=none:=by
 cases x with
 | str z=>
  obtain ⟨t,rfl⟩:=r;cases (show T= "str" from ty);exact ⟨typeIs_str s z t,λ_ e=> nomatch e⟩
 | int i=>
  obtain ⟨t,rfl⟩:=r;cases (show T= "int" from ty);exact ⟨typeIs_int s i t,λ_ e=> nomatch e⟩
 | ref p=>
  cases r
  rcases ty with ⟨rfl,xs,hq⟩ | ⟨rfl,xs,hq⟩ | ⟨rfl,hk⟩ | ⟨rfl,S,n,hk⟩
  ·obtain ⟨aL,_,pl,_⟩:=I.list hq;refine ⟨pl.isList.typeIs,λa e=> ?_⟩;cases e;obtain ⟨o,n,e,c,hd,_⟩:=pl;exact ⟨o,e,hd⟩
  ·obtain ⟨o,e1,e2,e3⟩:=I.SW hq;refine ⟨⟨o,e1,e2⟩,λa e=> ?_⟩;cases e;exact ⟨o,e1,e3⟩
  ·have z:∃o,s.heap.get? p=some o/\o.ExactDict:=by
    rcases hk with ⟨kvs,hk⟩ | ⟨kvs,hk⟩
    ·obtain ⟨_,_,_,_,o,_,_,e,ex,_⟩:=I.cG p _ hk;exact ⟨o,e,ex⟩
    ·obtain ⟨_,_,_,_,o,_,_,e,ex,_⟩:=I.cG p _ hk;exact ⟨o,e,ex⟩
   obtain ⟨o,e,ex⟩:=z;refine ⟨⟨o,e,ex.1⟩,λa e2=> ?_⟩;cases e2;exact ⟨o,e,ex.2.1⟩
  ·obtain ⟨o,_,_,_,e,ex,_⟩:=I.cG p _ hk;refine ⟨⟨o,e,ex.1⟩,λa e2=> ?_⟩;cases e2;exact ⟨o,e,ex.2.1⟩
 | _=> exact False.elim ty
def tBM (K:aGp) (T:String) (r:V->List V->Hp->VK->Prop) (to:TE) (t:TA):TE:=λσ H Q=> to σ H λx H1=> tyV K T x H1/\t σ H1 λxs H2=> r x xs H2 Q
variable {o e:Expr} {es:List Expr} {to:TE} {t:TA} {name:Str} {apos d4:Pos} {T id:String} {r:V->List V->Hp->VK->Prop}
theorem YF (pa:PlainAttrs T) (slot:Slot T name id) (hty:typeOf (.builtin id)=pure (.type "method_descriptor")) (hm:MtR X id r) (ho:PE X o to) (ha:PA X (e::es) t)
  (hbase:attributeBase o name X.env (eval o X.env)=eval o X.env:=by rfl)
  (hfew:((backTo d4 (starEach (e::es) X.env)).all (λx=> !x.1) && (backToKw d4 (keywordEach [] X.env)).all (λx=> x.1.isSome)
   && decide ((e::es).length+([]:List Keyword).length+(if ([]:List Keyword).isEmpty then 0 else 1) < 30))=true:=by rfl)
  (hline:(apos.endLine==d4.line)=true:=by rfl) (hs:starEach (e::es) X.env=(false,eval e X.env)::starEach es X.env:=by rfl) (hplain:(backTo d4 (starEach es X.env)).any (·.1)=false:=by rfl):
  PE X (.Call (.Attribute o name apos) (e::es) [] d4) (tBM X.K T r to t):=by
 intro pins s σ H Q I h;refine wpAny_Call_method_late hbase hfew hline rfl (cZ (ho pins s σ H _ I h) λv s1 ⟨x,H1,I1,r1,ty,q1⟩=> ?_);obtain ⟨h1,h2⟩:=SV I1 r1 ty;refine ⟨T,id,pa,slot,hty,h1,h2,?_⟩;have hA:=ha d4 pins s1 σ H1 _ I1 q1;rw [hs] at hA⊢;refine aFt (by show (false || (backTo d4 (starEach es X.env)).any (·.1))=false;rw [hplain] <;> rfl) (aG2 ?_);exact cZ hA λus s2 ⟨vs,H2,I2,r2,q2⟩=> hm pins s2 σ H2 x vs v us Q I2 r1 r2 q2
end
def MtM (X:Cx) (id:String) (r:V->List V->Hp->VK->Prop):Prop:=
 ∀(pins:List (Addr×Obj)) (s:Shared) (σ:St) (H:Hp) (x:V) (xs:List V) (v:Value) (us:List Value) (Q:VK),Inv X pins σ H s->RelV x v->Vals xs us->r x xs H Q->
  wpAny (model X.prog X.w) X.A (call (.builtin id) (v::us)) (EP X pins σ Q) X.xe s
theorem Vals.one:∀{x:V} {us:List Value},Vals [x] us->∃u,us=[u]/\RelV x u
 | _,_,.cons r .nil=> ⟨_,rfl,r⟩
section
variable {X:Cx} {pins:List (Addr×Obj)} {σ:St} {H:Hp} {s:Shared} {l b:Addr} {xs ys zs:List V}
theorem Inv.QG {aL its' :List Value} {n:Nat} {f:Array Value->Array Value} {t' :Nat} (I:Inv X pins σ H s) (hH:H l=some (.lst xs))
  (e:s.heap.get? l=some {cls:= .type "list",data:= .seq aL.toArray n}) (hf:f aL.toArray=its'.toArray) (hv:Vals ys its') (hz:ys.length<=sizeLine):
  Inv X pins σ (upd H l (.lst ys)) {s with heap:=s.heap.update l (Obj.mapSeq f),toks:=t'}:=by
 have q:=PySem.IsL.update e f;rw [hf] at q;refine I.write (x:=l) (e:=l) (by rw [hH];exact trivial) (.inl rfl) (λb' u hb hu=> (aDl s.heap (Obj.mapSeq f) (aDw hb)).trans hu) ⟨_,q⟩ ?_;exact ⟨hz,its',_,hv,q⟩
theorem Inv.aC0 {aL:List Value} {t' :Nat} (I:Inv X pins σ H s) (hv:Vals ys aL) (hz:ys.length<=sizeLine):
  Inv X pins σ (upd H s.heap.objs.size (.lst ys)) {s with heap:=s.heap.push {cls:= .type "list",data:= .seq aL.toArray},toks:=t'}:=
 I.laid (λ_ _ q=> aCp _ q) (aCs _) ⟨hz,aL,0,hv,aCu _ rfl⟩
theorem Inv.fresh (I:Inv X pins σ H s):H s.heap.objs.size=none:=I.cG.fresh (aCs _)
theorem Inv.CB (I:Inv X pins σ H s) (hH:H l=some (.lst xs)):xs.length<=sizeLine/\∃(aL:List Value) (n:Nat),Vals xs aL/\xs.length=aL.length/\s.heap.get? l=some {cls:= .type "list",data:= .seq aL.toArray n}:=by
 obtain ⟨z,aL,n,r,e⟩:=I.cG l _ hH;exact ⟨z,aL,n,r,r.length,e⟩
theorem u4 {n:Nat} (h:n<=sizeLine):Builtin.List.listTooLong n=false:=by
 unfold Builtin.List.listTooLong;exact aEr (by omega)
end
section
variable {X:Cx}
def O5:V->List V->Hp->VK->Prop:=λx vs H Q=> ∃l xs y,x= .ref l/\vs=[y]/\H l=some (.lst xs)/\xs.length < sizeLine/\Q .cN (upd H l (.lst (xs++[y])))
theorem xM:MtM X "list.append" O5:=by
 intro pins s σ H x vs v us Q I rx rv h;obtain ⟨l,xs,y,rfl,rfl,hH,hz,q⟩:=h;cases rx;obtain ⟨u,rfl,ru⟩:=rv.one;obtain ⟨z,aL,n,r,hl,e⟩:=I.CB hH;refine call_meets F.slot_list_append ⟨_,e,rfl⟩ F.entry_list_append (F.args_list_append_2 _ _) (PySem.list_append l aL.toArray n u (by rw [List.size_toArray];omega)) ⟨e,?_⟩;refine ⟨.cN,_,I.QG (its' :=aL++[u]) hH e (by simp) (r.append (.cons ru .nil)) ?_,rfl,q⟩;rw [List.length_append,List.length_singleton];omega
def O4:V->List V->Hp->VK->Prop:=λx vs H Q=> ∃l b xs zs,x= .ref l/\vs=[.ref b]/\H l=some (.lst xs)/\H b=some (.lst zs)/\xs.length+zs.length<=sizeLine/\Q .cN (upd H l (.lst (xs++zs)))
theorem WM:MtM X "list.extend" O4:=by
 intro pins s σ H x vs v us Q I rx rv h;obtain ⟨l,b,xs,zs,rfl,rfl,hH,hB,hz,q⟩:=h;cases rx;obtain ⟨u,rfl,ru⟩:=rv.one;cases ru;obtain ⟨z,aL,n,r,hl,e⟩:=I.CB hH;obtain ⟨z2,its2,n2,r2,hl2,e2⟩:=I.CB hB;have hsz:aL.toArray.size+its2.toArray.size<=sizeLine:=by rw [List.size_toArray,List.size_toArray];omega
 have hlong:¬(!aL.toArray.isEmpty && Builtin.List.listTooLong (aL.toArray.size+its2.toArray.size))=true:=by
  rw [u4 hsz,Bool.and_false];exact aGd
 refine call_meets F.slot_list_extend ⟨_,e,rfl⟩ F.entry_list_extend (F.args_list_extend_2 _ _)
  (AutoSeq1.list_extend_list_list_0 l aL.toArray n b its2.toArray n2 hlong (by rw [List.size_toArray];omega) (by omega)) ⟨e,e2,?_⟩
 refine ⟨.cN,_,I.QG (its' :=aL++its2) hH e (by simp) (r.append r2) ?_,rfl,q⟩;rw [List.length_append];omega
def aBu:R2:=λx y H Q=> ∃l b xs zs,x= .ref l/\y= .ref b/\H l=some (.lst xs)/\H b=some (.lst zs)/\xs.length+zs.length<=sizeLine/\∀p,H p=none->Q (.ref p) (upd H p (.lst (xs++zs)))
theorem UI:jB X (binaryOp .Add) aBu:=by
 intro pins s σ H x y v u Q I rx ry h;obtain ⟨l,b,xs,zs,rfl,rfl,hH,hB,hz,q⟩:=h;cases rx;cases ry;obtain ⟨z,aL,n,r,hl,e⟩:=I.CB hH;obtain ⟨z2,its2,n2,r2,hl2,e2⟩:=I.CB hB;refine PySem.P.add_list e e2 ?_ (by rw [List.size_toArray,List.size_toArray];omega);have ea:aL.toArray++its2.toArray=(aL++its2).toArray:=by simp
 rw [ea];exact ⟨.ref _,_,I.aC0 (t' :=s.toks) (r.append r2) (by rw [List.length_append];omega),rfl,q _ I.fresh⟩
end
end L2
namespace Att
open PySem PySem.W PySem.Calls PyProof.Rows
theorem sS {P:Params} {h:Heap}:∀(ns:List Int) (vs:List Value),WellAll P h vs (ns.map WData.int)->IntsAre vs ns:=by
 intro ns
 induction ns with
 | nil=>
  intro vs w;rw [List.map_nil] at w;cases w;exact .nil
 | cons n ns ih=>
  intro vs w;rw [List.map_cons] at w
  cases w with
  | cons a b=>
   cases a;exact .cons _ _ (ih _ b)
theorem HY {l:OpenLaw} {n:Nat} (hn:l.most=some n) {P:Params} {h:Heap} {args:List WData} {vals:List Value}
  (hpre:l.row.toRowW.claim.pre args=true) (hwl:WellAll P h vals args):
  ∃a vs ns,vals=[Value.ref a]/\args=[WData.list (ns.map WData.int)]/\h.get? a=some {cls:= .type "list",data:= .seq vs.toArray}/\IntsAre vs ns/\ns.length<=n:=by
 have hsh:WShape.hasAll [] args [.list .int]=true:=(pre_splitW hpre).1;have hc:l.pre.holds [] {args:=args}=true:=(pre_splitW hpre).2;obtain ⟨d,r,rfl,h1,h2⟩:=hasAllW_cons hsh;obtain rfl:=hasAllW_nil h2;obtain ⟨xs,rfl,h3⟩:=hasW_list h1;obtain ⟨ns,rfl⟩:=items_int h3
 have hlen:ns.length<=n:=by
  unfold OpenLaw.pre at hc
  have h4:(WTm.not (.lt (.lit (.int (n:Int))) (.len (.arg 0)))).holds [] {args:=[.list (ns.map .int)]}=true:=by
   have h4:=(holds_andW hc).1;rw [hn] at h4;exact h4
  have h5:=condW_of h4 (w_not (w_lt w_lit (w_len_list (w_arg rfl))));rw [List.length_map] at h5;refine aEy λq=> ?_;have q' :(n:Int) < ((ns.length:Nat):Int):=by omega
  first
   | (rw [decide_eq_true q'] at h5;exact absurd h5 (by decide))
   | (simp at h5;omega)
 cases hwl with
 | cons w1 w2=>
  cases w2
  cases w1 with
  | list ho hall=> exact ⟨_,_,ns,rfl,rfl,ho,sS ns _ hall,hlen⟩
theorem ID (l:OpenLaw) (args:List WData):l.row.toRowW.claim.post args (.bool true) args=true:=
 postW_of (r:=l.row.toRowW) (X:=(true==true))
  (show WShape.has [] (.bool true) .bool=true by first | rfl | decide | simp [WShape.has,WShape.arms,WShape.armsAll])
  (show (WTm.eq .res (.lit (.bool true))).value [] {args:=args,res:=some (.bool true),after:=args}=some (.bool (true==true)) from w_eq_bool (w_res rfl) w_lit) rfl
theorem DQ {l:OpenLaw} {n:Nat} {q:Program} {loose:List Str} {XP:(Str->Option Value)->Heap->Prop} {YP:World->Heap->Prop} {d:DefRec}
  (hn:l.most=some n) (hdf:d.params.defaults=[])
  (call:∀(w:World) (s₀ s₁:Shared) (mg mb:Str->Option Value) (fa:Addr) (o:Obj) (pm cd doc:Value) (a:Addr) (vs:List Value) (ns:List Int),
   Ground q loose [] XP w s₀ mg mb s₁.heap->YP w s₁.heap->
   s₁.heap.get? fa=some o->o.data= .func (docDef d.name d.params d.body d.scope pm cd doc)->s₁.heap.CodeRec cd d.name->mg d.name=some (.ref fa)->
   s₁.heap.get? a=some {cls:= .type "list",data:= .seq vs.toArray}->IntsAre vs ns->ns.length<=n->s₁.gens= #[]->
   codeAny (model l.prog w) callerA (.call (.ref fa) ⟨[.ref a],[]⟩) (λr s' => r= .ok (.ret (.bool true))/\OldK s₁.heap s'.heap/\s'.os=s₁.os/\AllBare s'.gens) s₁):
  WalkO q loose XP YP l.row.toRowW d [] (λf vs=> PySem.call f vs):=by
 intro w s₀ s₁ mg mb G Y fa o pm cd doc dV kV ho hd hcd hD hmg hg args vals as hpre hlay hrd hwl hlo;obtain rfl:dV= .none:=Dflts.none hD hdf;obtain rfl:kV= .none:=Dflts.noKw hD;obtain ⟨a,vs,ns,rfl,rfl,hobj,hints,hlen⟩:=HY hn hpre hwl;refine enter_call (aFc (call w s₀ s₁ mg mb fa o pm cd doc a vs ns G Y ho (fd_plain hd) hcd hmg hobj hints hlen hg) λr s' hq=> ?_);obtain ⟨rfl,h2,h3,h4⟩:=hq;exact ⟨.inl ⟨.bool true,.bool true,[],rfl,λ_=> rfl,.bool true,ID l _,λ_=> ⟨List.Pairwise.nil,λ_ hm=> (nomatch hm)⟩⟩,h2,h3,h4⟩
end Att
namespace L2
open PySem PySem.Spec PyProof.Rows
theorem wX:∀{vs:List Value} {ns:List Int},IntsAre vs ns->Vals (ns.map V.int) vs
 | _,_,.nil=> .nil
 | _,_,.cons n t h=> .cons ⟨t,rfl⟩ (wX h)
def RE (H:Hp):Prop:=∀b,H b=none\/∃o xs,H b=some (.frz o (.lst xs))
theorem ME {P:Program} {w:World} {K:aGp} {mg mb:Str->Option Value} {CX:J0} {k:Nat} {fa a:Addr} {fd:FuncData} {x:Str} {sp:Sp} {s₁:Shared} {vs:List Value} {ns:List Int}
  (KX:K.In s₁.heap) (hns:s₁.heap.Ns mainGlobals mg) (hb:s₁.heap.Ns builtinsNs mb) (hbb:∀x:Str,x≠ "__name__"->mb x=bootBuiltins x) (hlim:s₁.heap.NoLimit) (hg:s₁.gens= #[])
  (ha:s₁.heap.get? a=some {cls:= .type "list",data:= .seq vs.toArray}) (hi:IntsAre vs ns) (hl:ns.length<=sizeLine) (hr:gI k callerA)
  (F:∀base:Heap,K.In base->base.Ns mainGlobals mg->jL P w K mg base CX k fa fd [x] sp) (hbind:∀(s:Shared) (u:Value),BindsTo s fd ⟨[u],[]⟩ [(x,u)])
  (hsp:∀H:Hp,RE H->pD K H a (ns.map V.int)->sp [.ref a] H (λv _=> v= .bl true) λ_ _ _=> False)
  (hCX:∀H e s',CX [] H s₁ (λ_ _ _=> False) e s' ->False):
  codeAny (model P w) callerA (.call (.ref fa) ⟨[.ref a],[]⟩) (λr s' => r= .ok (.ret (.bool true))/\OldK s₁.heap s'.heap/\s'.os=s₁.os/\AllBare s'.gens) s₁:=by
 have rv:=wX hi;have lenV:=hi.length
 have core:∀H:Hp,RE H->pD K H a (ns.map V.int)->qV P w H s₁.heap->(∀b,H b≠none->b=a)->(H a≠none->K.lookup a=none)->
   codeAny (model P w) callerA (.call (.ref fa) ⟨[.ref a],[]⟩) (λr s' => r= .ok (.ret (.bool true))/\OldK s₁.heap s'.heap/\s'.os=s₁.os/\AllBare s'.gens) s₁:=by
  intro H hO hS cG hA hK;have base_of:∀{b:Addr} {o:Obj},s₁.heap.get? b=some o->H b=none->(zS s₁.heap H).get? b=some o:=λe n=> MR e n
  have noA:∀{b:Addr} {o:Obj} {es:Array DictEntry} {ep:Nat},s₁.heap.get? b=some o->o.data= .dict es ep->H b=none:=λ{b o es ep} e d=> by
   cases q:H b with
   | none=> rfl
   | some u=>
    have e' :b=a:=hA b (by rw [q];simp);subst e';rw [ha] at e;cases e;have d' :Data.seq vs.toArray _=Data.dict es ep:=d;cases d'
  have nsK:∀{b:Addr} {m:Str->Option Value},s₁.heap.Ns b m->(zS s₁.heap H).Ns b m:=λ{b m} ⟨o,es,ep,e,d,r⟩=> ⟨o,es,ep,base_of e (noA e d),d,r⟩
  have hKb:K.In (zS s₁.heap H):=λb o e=> base_of (KX b o e) (by
   cases q:H b with
   | none=> rfl
   | some u=>
    have e' :b=a:=hA b (by rw [q];simp);subst e'
    rw [hK (by rw [q];simp)] at e;cases e)
  have hM:Mod K mg (zS s₁.heap H):=⟨hKb,nsK hns,⟨mb,nsK hb,hbb⟩,let ⟨mc,h1,h2⟩:=hlim;⟨mc,nsK h1,h2⟩⟩
  have e0:RG P w K mg (zS s₁.heap H) callerA [] s₁ H:=⟨rfl,hM,λb o e=> P7 e,Nat.le_of_eq (JA _ _),trivial,λb hb=> absurd (show b∈([]:List Addr) from hb) (by simp),cG,.of_eq hg⟩
  refine aFc ((F _ hKb (nsK hns)).run callerA [] s₁ H ⟨[.ref a],[]⟩ [.ref a] [.ref a] _ _ hr e0 (hbind s₁ (.ref a)) (.cons rfl .nil) (hsp H hO hS)) λr s' h=> ?_
  cases r with
  | error e=> exact (hCX H e s' h).elim
  | ok fl=>
   cases fl with
   | next=> exact False.elim h
   | brk=> exact False.elim h
   | cont=> exact False.elim h
   | ret u=>
    obtain ⟨v,H',os,bare,un,hok',r',q⟩:=h;have q' :v= .bl true:=q;subst q';obtain rfl:u=Value.bool true:=r';refine ⟨rfl,OldK.of_keep λb o e=> ?_,os,bare⟩
    cases q:H b with
    | none=> exact un.keep b o e q (by intro z;exact absurd (show b∈([]:List Addr) from z) (by simp)) (by simp)
    | some u=>
     rcases hO b with z | ⟨ob,xs,z⟩
     ·rw [q] at z;cases z
     ·have z2:=un.zU b ob _ z;obtain ⟨e1,_⟩:=cG b _ z;obtain ⟨e2,_⟩:=hok' b _ z2;rw [e] at e1;cases e1;exact e2
 cases hk:K.lookup a with
 | some o=>
  have e:=KX a o hk;rw [ha] at e;cases e;refine core (λ_=> none) (λ_=> .inl rfl) (.inr ⟨_,vs.toArray,_,hk,rfl,rfl,rfl,by rw [List.size_toArray,lenV];exact hl,by simpa using rv⟩) (λb u z=> by have z' :(none:Option HO)=some u:=z;cases z') (λb z=> absurd rfl z) λz=> absurd rfl z
 | none=>
  refine core (λb=> if b=a then some (.frz {cls:= .type "list",data:= .seq vs.toArray} (.lst (ns.map V.int))) else none) (λb=> ?_) (.inl (.inr ⟨{cls:= .type "list",data:= .seq vs.toArray},if_pos rfl⟩)) (λb u z=> ?_) (λb z=> ?_) λ_=> hk
  ·by_cases hb:b=a
   ·exact .inr ⟨_,_,if_pos hb⟩
   ·exact .inl (if_neg hb)
  ·by_cases hb:b=a
   ·have z' :=(if_pos hb).symm.trans z;cases z';subst hb;exact ⟨ha,by rw [List.length_map];exact hl,vs,_,rv,ha⟩
   ·have z' :=(if_neg hb).symm.trans z;cases z'
  ·by_cases hb:b=a
   ·exact hb
   ·exact absurd (if_neg hb) z
theorem OJ {l:PySem.W.OpenLaw} {n k:Nat} {q:Program} {loose:List Str} {XP:(Str->Option Value)->Heap->Prop} {YP:World->Heap->Prop} {d:DefRec} {K:Params->aGp} {CX:World->J0} {sp:World->Sp} {x:Str}
  (hn:l.most=some n) (hn2:n<=sizeLine) (hdf:d.params.defaults=[]) (hr:gI k callerA)
  (hY:∀(w:World) (h:Heap),YP w h->(K w.params).In h)
  (F:∀(w:World) (mg:Str->Option Value) (fa:Addr) (h:Heap),(K w.params).In h->h.Ns mainGlobals mg->mg d.name=some (.ref fa)->
   ∃fd:FuncData,(∀(s:Shared) (u:Value),BindsTo s fd ⟨[u],[]⟩ [(x,u)])/\
    ∀base:Heap,(K w.params).In base->base.Ns mainGlobals mg->jL l.prog w (K w.params) mg base (CX w) k fa fd [x] (sp w))
  (hsp:∀(w:World) (H:Hp) (a:Addr) (ns:List Int),ns.length<=n->RE H->pD (K w.params) H a (ns.map V.int)->sp w [.ref a] H (λv _=> v= .bl true) λ_ _ _=> False)
  (hCX:∀(w:World) (H:Hp) (s:Shared) (e:Value) (s' :Shared),CX w [] H s (λ_ _ _=> False) e s' ->False):
  PySem.W.WalkO q loose XP YP l.row.toRowW d [] (λf vs=> PySem.call f vs):=by
 refine Att.DQ hn hdf λw s₀ s₁ mg mb fa o pm cd doc a vs ns G Y ho hd hcd hmg hobj hints hlen hg=> ?_;have KX:=hY w _ Y;obtain ⟨fd,hb,hF⟩:=F w mg fa _ KX G.T.g hmg;exact ME KX G.T.g G.T.b G.T.builtins G.T.nolimit hg hobj hints (aDf hlen hn2) hr hF hb (λH hO hS=> hsp w H a ns hlen hO hS) λH e s' => hCX w H s₁ e s'
def gB (s:Stmt):Arguments:=match s with
 | .FunctionDef _ a _ _ _ _ _ _ _ _=> a
 | _=> {posonlyargs:=[],args:=[],vararg:=none,kwonlyargs:=[],kw_defaults:=[],kwarg:=none,defaults:=[]}
def dB (s:Stmt):List Stmt:=match s with
 | .FunctionDef _ _ b _ _ _ _ _ _ _=> b
 | _=> []
def aG (s:Stmt):Scope:=match s with
 | .FunctionDef _ _ _ _ _ _ sc _ _ _=> sc
 | _=> {kind:= .function,names:=[],isGenerator:=false,isCoroutine:=false}
abbrev DX : J0 := λ_ _ _ _ _ _ => False
abbrev E0 : XK := λ_ _ _ => False
theorem RX {X:Cx}:Passes DX X E0:=λ_ _ _ _ _ _ _ h=> h.elim
structure WV (K:aGp) (x qual:Str) (st:Stmt) (f:Addr) (fd:FuncData):Prop where
 ex:∃(oc:Value) (od:Option Addr) (kV doc pm:Value) (an:Option Addr) (cdv ct:Value) (osl:Array (Option Value)),
  fd=PySem.W.fnOf x qual (gB st) (dB st) (aG st) .none kV doc pm an cdv ct/\K.lookup f=some ⟨oc,od,.func fd,osl⟩/\PySem.W.codeIn K cdv qual=true
 kp:PySem.W.keepIn K (.ref f)=true
section
variable {P:Program} {w:World} {K:aGp} {mg:Str->Option Value} {base:Heap}
theorem WV.ok {x qual:Str} {st:Stmt} {f:Addr} {fd:FuncData} {N ps:List Str} {k:Nat} {sp:Sp} (F:WV K x qual st f fd) (S:bH N ps (aG st)) (len:∀vs H Q E,sp vs H Q E->vs.length=ps.length)
  (hbody:∀(cdv:Value) (A:Around) (outer:List Env) (s:Shared) (H:Hp) (vs:List V) (Q:VK) (E:XK),gI k (A.deeper (envOfC qual (aG st) s.heap.objs.size f cdv))->sp vs H Q E->
   ∃t,AU (wL DX P w K mg base N qual (aG st) f cdv A outer s H E).QA (dB st) t/\t {nx:=λ_ H' => Q .cN H',rt:=Q} (start N vs) H):jL P w K mg base DX (k+1) f fd ps sp:=by
 obtain ⟨oc,od,kV,doc,pm,an,cdv,ct,osl,rfl,lk,hcd⟩:=F.ex;refine SA lk hcd S len λA outer s H vs Q E hr hsp=> ?_;obtain ⟨t,h,q⟩:=hbody cdv A outer s H vs Q E hr hsp;exact ⟨t,h.QA,q⟩
theorem WV.binds {x qual:Str} {st:Stmt} {f:Addr} {fd:FuncData} {ps:List Str} (F:WV K x qual st f fd)
  (h:∀(kV doc pm:Value) (an:Option Addr) (cdv ct:Value) (us:List Value),us.length=ps.length->bindArgs (PySem.W.fnOf x qual (gB st) (dB st) (aG st) .none kV doc pm an cdv ct) ⟨us,[]⟩=pure (ps.zip us)):Binds K fd ps []:=by
 obtain ⟨oc,od,kV,doc,pm,an,cdv,ct,osl,rfl,lk,hcd⟩:=F.ex;exact .all (h kV doc pm an cdv ct)
theorem FD {x qual:Str} {st:Stmt} {f:Addr} {oc:Value} {od an:Option Addr} {osl:Array (Option Value)} {kV doc pm cdv ct:Value} (l:K.lookup f=some ⟨oc,od,.func (PySem.W.fnOf x qual (gB st) (dB st) (aG st) .none kV doc pm an cdv ct),osl⟩)
  (c:PySem.W.codeIn K cdv qual=true) (k:PySem.W.keepIn K (.ref f)=true):WV K x qual st f (PySem.W.fnOf x qual (gB st) (dB st) (aG st) .none kV doc pm an cdv ct):=⟨⟨oc,od,kV,doc,pm,an,cdv,ct,osl,rfl,l,c⟩,k⟩
end
theorem w6 {n:Nat} (h:n<=1000):n < sizeLine:=Nat.lt_of_le_of_lt h (by decide)
section
variable {κ:Type} [DecidableEq κ]
def kB (kvs:List (κ×V)) (k:κ):Option V:=(kvs.find? λkv=> decide (kv.1=k)).map (·.2)
def putK (kvs:List (κ×V)) (k:κ) (v:V):List (κ×V):=
 if (kvs.any λkv=> decide (kv.1=k))=true then kvs.map (λkv=> if kv.1=k then (kv.1,v) else kv) else kvs++[(k,v)]
def gS (kvs:List (κ×V)) (k:κ):List (κ×V):=kvs.filter λkv=> decide (kv.1≠k)
theorem pR {p:κ×V} {r:List (κ×V)} {k:κ} (e:p.1=k):kB (p::r) k=some p.2:=by simp [kB,List.find?_cons,e]
theorem pS {p:κ×V} {r:List (κ×V)} {k:κ} (e:¬p.1=k):kB (p::r) k=kB r k:=by simp [kB,List.find?_cons,e]
theorem A7 (k:κ):∀kvs:List (κ×V),(kvs.any λkv=> decide (kv.1=k))=(kB kvs k).isSome
 | []=> rfl
 | p::r=> by
  rw [List.any_cons];by_cases e:p.1=k
  ·simp only [pR e,decide_eq_true e,Bool.true_or,Option.isSome_some]
  ·rw [pS e,decide_eq_false e,Bool.false_or];exact A7 k r
theorem mI (kvs:List (κ×V)) (k:κ) (v:V):(putK kvs k v).length<=kvs.length+1:=by
 unfold putK;split
 ·rw [List.length_map];omega
 ·rw [List.length_append,List.length_cons,List.length_nil];omega
theorem sU.xT {o:Option V} {u:Option Value} (r:sU o u):o.isSome=u.isSome:=by
 cases o with
 | none=> cases u with
  | none=> rfl
  | some _=> exact (show False from r).elim
 | some _=> cases u with
  | none=> exact (show False from r).elim
  | some _=> rfl
theorem sU.getD {o:Option V} {u:Option Value} {d:V} {d' :Value} (r:sU o u) (rd:RelV d d'):RelV (o.getD d) (u.getD d'):=by
 cases o with
 | none=> cases u with
  | none=> exact rd
  | some _=> exact (show False from r).elim
 | some _=> cases u with
  | none=> exact (show False from r).elim
  | some _=> exact r
theorem KV.val {kvs:List (κ×V)} {vs:List (κ×Value)} (r:KV kvs vs) (k:κ):sU (kB kvs k) (valueAt vs k):=by
 unfold KV at r
 induction r with
 | nil=> exact True.intro
 | @cons p q ps qs h t ih=>
  obtain ⟨h1,h2⟩:=h;by_cases e:p.1=k
  ·have e' :q.1=k:=h1.symm.trans e;have b:valueAt (q::qs) k=some q.2:=by simp [valueAt,List.find?_cons,e']
   rw [pR e,b];exact h2
  ·have e' :¬q.1=k:=λz=> e (h1.trans z);have b:valueAt (q::qs) k=valueAt qs k:=by simp [valueAt,List.find?_cons,e']
   rw [pS e,b];exact ih
theorem KV.any {kvs:List (κ×V)} {vs:List (κ×Value)} (r:KV kvs vs) (k:κ):(kvs.any λkv=> decide (kv.1=k))=vs.any λkv=> decide (kv.1=k):=by
 unfold KV at r
 induction r with
 | nil=> rfl
 | cons h t ih=> rw [List.any_cons,List.any_cons,ih,h.1]
theorem KV.TL {kvs:List (κ×V)} {vs:List (κ×Value)} (r:KV kvs vs) (k:κ) {y:V} {u:Value} (ry:RelV y u):
  KV (kvs.map λkv=> if kv.1=k then (kv.1,y) else kv) (vs.map λkv=> if kv.1=k then (kv.1,u) else kv):=by
 unfold KV at r⊢
 induction r with
 | nil=> exact .nil
 | @cons p q ps qs h t ih=>
  rw [List.map_cons,List.map_cons];refine .cons ?_ ih;obtain ⟨h1,h2⟩:=h;by_cases e:p.1=k
  ·rw [if_pos e,if_pos (h1.symm.trans e)];exact ⟨h1,ry⟩
  ·rw [if_neg e,if_neg (λz=> e (h1.trans z))];exact ⟨h1,h2⟩
theorem KV.put {kvs:List (κ×V)} {vs:List (κ×Value)} (r:KV kvs vs) (k:κ) {y:V} {u:Value} (ry:RelV y u):KV (putK kvs k y) (stored vs k u):=by
 unfold putK stored;rw [r.any k];by_cases e:(vs.any λkv=> decide (kv.1=k))=true
 ·rw [if_pos e,if_pos e];exact r.TL k ry
 ·rw [if_neg e,if_neg e];exact Paired.snoc r ⟨rfl,ry⟩
theorem KV.drop {kvs:List (κ×V)} {vs:List (κ×Value)} (r:KV kvs vs) (k:κ):KV (gS kvs k) (without vs k):=by
 unfold KV at r⊢;unfold gS without
 induction r with
 | nil=> exact .nil
 | @cons p q ps qs h t ih=>
  obtain ⟨h1,h2⟩:=h;rw [List.filter_cons,List.filter_cons];by_cases e:p.1=k
  ·have a:¬decide (p.1≠k)=true:=by simp [e]
   have b:¬decide (q.1≠k)=true:=by simp [h1.symm.trans e]
   rw [if_neg a,if_neg b];exact ih
  ·have e' :¬q.1=k:=λz=> e (h1.trans z);have a:decide (p.1≠k)=true:=by simp [e]
   have b:decide (q.1≠k)=true:=by simp [e']
   rw [if_pos a,if_pos b];exact .cons ⟨h1,h2⟩ ih
theorem KV.length {kvs:List (κ×V)} {vs:List (κ×Value)} (r:KV kvs vs):kvs.length=vs.length:=Paired.length r
theorem NH (kvs:List (κ×V)) (k:κ):(gS kvs k).length<=kvs.length:=aFx _ _
end
theorem vG {P:Program} {w:World} {k:Key} {u:Value} (r:RelV (kV k) u):(bA P w).is k u=true:=by
 cases k with
 | inl i=> obtain ⟨t,e⟩:=(show ∃t,u=Value.int i t from r);subst e;exact B4 P w i t
 | inr x=> obtain ⟨t,e⟩:=(show ∃t,u=Value.str x t from r);subst e;exact B3 P w x t
theorem xS {P:Program} {w:World}:∀{ks:List Key} {us:List Value},Vals (ks.map kV) us->ItemsAre (bA P w) ks us
 | [],_,r=> by rw [List.map_nil] at r;cases r;exact .nil
 | k::ks,_,r=> by
  rw [List.map_cons] at r
  cases r with
  | cons h t=> exact .cons (vG h) (xS t)
abbrev KT (H : Hp) : List (List Key × V) -> List (List Key × Addr × Value) -> Prop := Paired λp q => p.1 = q.1 /\ H q.2.1 = some (.tup (p.1.map kV)) /\ RelV p.2 q.2.2
theorem KT.val {H:Hp} {kvs:List (List Key×V)} {xs:List (List Key×Addr×Value)} (r:KT H kvs xs) (k:List Key):sU (kB kvs k) ((atKey xs k).map (·.2)):=by
 induction r with
 | nil=> exact True.intro
 | @cons p q ps qs h t ih=>
  obtain ⟨h1,_,h2⟩:=h;by_cases e:p.1=k
  ·have e' :q.1=k:=h1.symm.trans e;have b:atKey (q::qs) k=some q.2:=by simp [atKey,List.find?_cons,e']
   rw [pR e,b];exact h2
  ·have e' :¬q.1=k:=λz=> e (h1.trans z);have b:atKey (q::qs) k=atKey qs k:=by simp [atKey,List.find?_cons,e']
   rw [pS e,b];exact ih
theorem KT.TL {H:Hp} {kvs:List (List Key×V)} {xs:List (List Key×Addr×Value)} (r:KT H kvs xs) (k:List Key) {y:V} {u:Value} (ry:RelV y u):
  KT H (kvs.map λkv=> if kv.1=k then (kv.1,y) else kv) (xs.map (putAt k u)):=by
 induction r with
 | nil=> exact .nil
 | @cons p q ps qs h t ih=>
  rw [List.map_cons,List.map_cons];refine .cons ?_ ih;obtain ⟨h1,h2,h3⟩:=h;unfold putAt;by_cases e:p.1=k
  ·rw [if_pos e,if_pos (h1.symm.trans e)];exact ⟨h1,h2,ry⟩
  ·rw [if_neg e,if_neg (λz=> e (h1.trans z))];exact ⟨h1,h2,h3⟩
theorem KT.put {H:Hp} {kvs:List (List Key×V)} {xs:List (List Key×Addr×Value)} (r:KT H kvs xs) (k:List Key) {b:Addr} {y:V} {u:Value} (hb:H b=some (.tup (k.map kV))) (ry:RelV y u):
  KT H (putK kvs k y) (storedH xs k b u):=by
 have e:(kvs.any λkv=> decide (kv.1=k))=(atKey xs k).isSome:=by
  rw [A7,(r.val k).xT,Option.isSome_map]
 unfold putK storedH;rw [e];by_cases q:(atKey xs k).isSome=true
 ·rw [if_pos q,if_pos q];exact r.TL k ry
 ·rw [if_neg q,if_neg q];exact Paired.snoc r ⟨rfl,hb,ry⟩
theorem KT.keeps {H H' :Hp} {kvs:List (List Key×V)} {xs:List (List Key×Addr×Value)} (r:KT H kvs xs) (ht:∀b ys,H b=some (.tup ys)->H' b=some (.tup ys)):KT H' kvs xs:=
 Paired.UQ r λ_ _ z=> ⟨z.1,ht _ _ z.2.1,z.2.2⟩
section
variable {P:Program} {w:World} {H:Hp} {h:Heap} {a:Addr}
theorem RV {u:HO} (ok:qV P w H h) (e:Rd H a u):dM P w H h a u:=e.ok ok
theorem DD {kvs:List (Key×V)} (ok:qV P w H h) (e:Rd H a (.dK kvs)):kvs.length<=sizeLine/\(a==sysModules)=false/\∃vs,KV kvs vs/\h.DictOf (bA P w) a vs:=
 show dM P w H h a (.dK kvs) from RV ok e
theorem HC {kvs:List (Key×V)} (ok:qV P w H h) (e:H a=some (.dK kvs)):kvs.length<=sizeLine/\(a==sysModules)=false/\∃vs,KV kvs vs/\h.DictOf (bA P w) a vs:=DD ok (.inl e)
theorem zN {ks:List Key} (ok:qV P w H h) (e:H a=some (.tup (ks.map kV))):(tupleKind (bA P w)).is h ks a:=by
 obtain ⟨_,aL,r,⟨o,h1,h2,n,h3⟩,_⟩:=(show dM P w H h a (.tup (ks.map kV)) from ok a _ e)
 exact ⟨o,aL.toArray,n,h1,h2,h3,by simpa using xS r⟩
theorem DB {kvs:List (List Key×V)} (ok:qV P w H h) (e:Rd H a (.dT kvs)):kvs.length<=sizeLine/\(a==sysModules)=false/\
  ∃xs,KT H kvs xs/\h.DictOfH (tupleKind (bA P w)) a xs:=by
 obtain ⟨z,y,xs,r,o,es,ep,h1,h2,h3,h4,h5⟩:=(show dM P w H h a (.dT kvs) from RV ok e)
 refine ⟨z,y,xs,r,o,es,ep,h1,h2,h3,h4,λx hx=> ?_,h5⟩
 have all:∀{l:List (List Key×V)} {m:List (List Key×Addr×Value)},KT H l m->∀x∈m,(tupleKind (bA P w)).is h x.1 x.2.1:=by
  intro l m q
  induction q with
  | nil=> intro x hx;exact nomatch hx
  | @cons p q ps qs hq t ih=>
   intro x hx;rcases aCv.mp hx with e | hx
   ·subst e;exact zN ok (by rw [<-hq.1];exact hq.2.1)
   ·exact ih x hx
 exact all r x hx
theorem SE {kvs:List (List Key×V)} (ok:qV P w H h) (e:H a=some (.dT kvs)):kvs.length<=sizeLine/\(a==sysModules)=false/\
  ∃xs,KT H kvs xs/\h.DictOfH (tupleKind (bA P w)) a xs:=DB ok (.inl e)
end
def FY (H:Hp) (a:Addr) (y:V) (r:Option V):Prop:=
 (∃kvs k,Rd H a (.dK kvs)/\y=kV k/\r=kB kvs k)\/∃kvs k b,Rd H a (.dT kvs)/\y= .ref b/\H b=some (.tup (k.map kV))/\r=kB kvs k
def RI (H:Hp) (a:Addr) (y v:V) (H' :Hp):Prop:=
 (∃kvs k,H a=some (.dK kvs)/\y=kV k/\kvs.length < sizeLine/\H' =upd H a (.dK (putK kvs k v)))\/
 ∃kvs k b,H a=some (.dT kvs)/\y= .ref b/\H b=some (.tup (k.map kV))/\kvs.length < sizeLine/\H' =upd H a (.dT (putK kvs k v))
theorem FY.k {H:Hp} {a:Addr} {kvs:List (Key×V)} {k:Key} (e:H a=some (.dK kvs)):FY H a (kV k) (kB kvs k):= .inl ⟨kvs,k,.inl e,rfl,rfl⟩
theorem RI.k {H:Hp} {a:Addr} {kvs:List (Key×V)} {k:Key} {v:V} (e:H a=some (.dK kvs)) (hl:kvs.length < sizeLine):RI H a (kV k) v (upd H a (.dK (putK kvs k v))):= .inl ⟨kvs,k,e,rfl,hl,rfl⟩
section
variable {X:Cx} {pins:List (Addr×Obj)} {σ:St} {H:Hp} {s:Shared} {a:Addr} {y v:V} {u r:Value} {o:Option V} {A:Around} {E:Value->Shared->Prop}
theorem Inv.big (I:Inv X pins σ H s):sysModules < s.heap.objs.size:=by
 have h:mainGlobals < s.heap.objs.size:=(I.mod.glob.keeps I.bk).lt;exact Nat.lt_trans (by decide) h
theorem JG {Q:Value->Shared->Prop} (hu:A.units+1 < cLine) (I:Inv X pins σ H s) (g:FY H a y (some v)) (ry:RelV y u) (h:∀w' s',Inv X pins σ H s' ->RelV v w' ->Q w' s'):
  wpAny (model X.prog X.w) A (getItem (.ref a) u) Q E s:=by
 rcases g with ⟨kvs,k,e,ey,l⟩ | ⟨kvs,k,b,e,ey,eb,l⟩
 ·subst ey;obtain ⟨z,hd,vs,rel,dd⟩:=DD I.cG e;obtain ⟨w',hw,rw'⟩:=sU.some_of (v:=v) (o:=valueAt vs k) (by rw [l];exact rel.val k);exact wpAny_getItem_of (vG ry) dd.mapOf hw (h w' _ (I.tok _) rw')
 ·subst ey;cases (show u=Value.ref b from ry);obtain ⟨z,hd,xs,rel,dd⟩:=DB I.cG e;obtain ⟨w',hw,rw'⟩:=sU.some_of (v:=v) (o:=(atKey xs k).map (·.2)) (by rw [l];exact rel.val k);obtain ⟨p,hp,hp2⟩:=aDr.mp hw;refine wpAny_getItem_heap (aGe hu) (zN I.cG eb) dd hp ?_;rw [hp2];exact h w' _ (I.tok _) rw'
theorem tF {h' :Heap} {t' :Nat} {ob:HO} (I:Inv X pins σ H s) (mu:JV (H a)) (hs:Heap.SameBut a s.heap h') (he:∃q,h'.get? a=some q) (new:dM X.prog X.w (upd H a ob) h' a ob):
  Inv X pins σ (upd H a ob) {s with heap:=h',toks:=t'}:=
 I.write (x:=a) (e:=a) mu (.inl rfl) (λb q hb z=> (hs.2 b hb).trans z) he new
theorem FK {P:Program} {w:World} {H' :Hp} {h' :Heap} {kvs:List (Key×V)} {vs:List (Key×Value)} (z:kvs.length<=sizeLine) (hd:(a==sysModules)=false) (rel:KV kvs vs) (dd:h'.DictOf (bA P w) a vs):
  dM P w H' h' a (.dK kvs):=⟨z,hd,vs,rel,dd⟩
theorem JF {H' :Hp} {Q:Unit->Shared->Prop} (hu:A.units+1 < cLine) (I:Inv X pins σ H s) (g:RI H a y v H') (ry:RelV y u) (rv:RelV v r) (h:∀s',Inv X pins σ H' s' ->Q () s'):
  wpAny (model X.prog X.w) A (setItem (.ref a) u r) Q E s:=by
 rcases g with ⟨kvs,k,e,ey,l,eH⟩ | ⟨kvs,k,b,e,ey,eb,l,eH⟩
 ·subst ey eH;obtain ⟨z,hd,vs,rel,dd⟩:=HC I.cG e;have hz:vs.length<=sizeLine:=by rw [<-rel.length];exact z
  have hl:(putK kvs k v).length<=sizeLine:=by have:=mI kvs k v;omega
  refine wpAny_setItem_pairs (hsz:=hz) (vG ry) dd λh' dd' hs=> h _ ?_;have he:∃q,h'.get? a=some q:=let ⟨q,_,_,hq,_⟩:=dd';⟨q,hq⟩;exact tF I (by rw [e];exact True.intro) hs he (FK hl hd (rel.put k rv) dd')
 ·subst ey eH;cases (show u=Value.ref b from ry);obtain ⟨z,hd,xs,rel,dd⟩:=SE I.cG e;have hz:xs.length<=sizeLine:=by rw [<-Paired.length rel];exact z
  have hl:(putK kvs k v).length<=sizeLine:=by have:=mI kvs k v;omega
  refine wpAny_setItem_heap (hsz:=hz) (aGe hu) (zN I.cG eb) dd λh' dd' hs=> h _ ?_;obtain ⟨q,es,ep,hq,h2,h3,h4,_,h5⟩:=dd';refine tF I (by rw [e];exact True.intro) hs ⟨q,hq⟩ ⟨hl,hd,_,(rel.put k eb rv).keeps λc ys ec=> ?_,q,es,ep,hq,h2,h3,h4,h5⟩;rw [aV (YO ec e (λz=> nomatch z))];exact ec
end
section
variable {X:Cx} {pins:List (Addr×Obj)} {σ:St} {H:Hp} {s:Shared} {a:Addr} {kvs:List (Key×V)} {k:Key} {u:Value} {A:Around} {E:Value->Shared->Prop}
theorem JH {Q:Unit->Shared->Prop} (I:Inv X pins σ H s) (e:H a=some (.dK kvs)) (ry:RelV (kV k) u) (l:(kB kvs k).isSome=true) (h:∀s',Inv X pins σ (upd H a (.dK (gS kvs k))) s' ->Q () s'):
  wpAny (model X.prog X.w) A (delItem (.ref a) u) Q E s:=by
 obtain ⟨z,hd,vs,rel,dd⟩:=HC I.cG e
 refine wpAny_delItem_slot dd.typeIs (by decide) PySem.F.slot_dict_delitem
  (call_meetsIn PySem.F.slot_dict_delitem dd.typeIs PySem.F.entry_dict_delitem (PySem.F.args_dict_delitem_2 _ _) (meets_dict_delitem_pairs (bA X.prog X.w) a (vG ry)) ⟨vs,dd,by rw [<-rel.length];exact z,by rw [<-(rel.val k).xT];exact l,λh' dd' hs=> h _ ?_⟩)
 have he:∃q,h'.get? a=some q:=let ⟨q,_,_,hq,_⟩:=dd';⟨q,hq⟩;exact tF I (by rw [e];exact True.intro) hs he (FK (aDf (NH kvs k) z) hd (rel.drop k) dd')
end
theorem DE {X:Cx} {pins:List (Addr×Obj)} {σ:St} {H:Hp} {s:Shared} {a:Addr} {y:V} {o:Option V} (I:Inv X pins σ H s) (g:FY H a y o):s.TypeIs (.ref a) "dict":=by
 rcases g with ⟨kvs,k,e,_,_⟩ | ⟨kvs,k,b,e,_,_,_⟩
 ·obtain ⟨_,_,vs,_,dd⟩:=DD I.cG e;exact dd.typeIs
 ·obtain ⟨_,_,xs,_,dd⟩:=DB I.cG e;exact dd.typeIs
def X1 (td ty tv:TE):TS:=λD σ H=> tv σ H λv H1=> td σ H1 λx H2=> ty σ H2 λy H3=> ∃a H4,x= .ref a/\RI H3 a y v H4/\D.nx σ H4
def X2 (td ty:TE):TS:=λD σ H=> td σ H λx H1=> ty σ H1 λy H2=> ∃a kvs k,x= .ref a/\H2 a=some (.dK kvs)/\y=kV k/\(kB kvs k).isSome=true/\D.nx σ (upd H2 a (.dK (gS kvs k)))
section
variable {X:Cx} {o i e value:Expr} {pos pos' tpos:Pos} {td ty tv:TE}
theorem PH (hu:X.A.units+1 < cLine) (ho:PE X o td) (hi:PE X i ty) (hv:PE X value tv) (hs:swapsWith value (some (.Subscript o i pos')) pos.line X.env=pure false):
  PS X (.Assign [.Subscript o i pos'] value pos) (X1 td ty tv):=by
 intro pins s σ H D I h;refine wpAny_Assign_Subscript (cZ (hv pins s σ H _ I h) λr s1 ⟨v,H1,I1,rv,q1⟩=> cZ (ho pins s1 σ H1 _ I1 q1) λu s2 ⟨x,H2,I2,rx,q2⟩=> cZ (hi pins s2 σ H2 _ I2 q2) λiv s3 ⟨y,H3,I3,ry,a,H4,ex,g,q3⟩=> ?_) hs;subst ex;obtain rfl:u=Value.ref a:=rx
 exact JF hu I3 g ry rv λs4 I4=> ⟨σ,H4,I4,q3⟩
theorem PJ (ho:PE X o td) (hi:PE X i ty):PS X (.Delete [.Subscript o i tpos] pos) (X2 td ty):=by
 intro pins s σ H D I h;refine wpAny_Delete (wpAny_deleteEach_cons (wpAny_delete_Subscript (cZ (ho pins s σ H _ I h) λu s1 ⟨x,H1,I1,rx,q1⟩=> cZ (hi pins s1 σ H1 _ I1 q1) λiv s2 ⟨y,H2,I2,ry,a,kvs,k,ex,e,ey,l,q2⟩=> ?_)));subst ex ey;obtain rfl:u=Value.ref a:=rx;exact JH I2 e ry l λs3 I3=> wpAny_deleteEach_nil ⟨σ,_,I3,q2⟩
end
theorem NI {P:Program} {w:World} {H:Hp} (h:Heap) (hb:sysModules < h.objs.size):dM P w H (h.push {cls:= .type "dict",data:= .dict #[]}) h.objs.size (.dK []):=
 ⟨aEd _,beq_eq_false_iff_ne.mpr (aDw (aD6 hb)),[],.nil,Heap.DictOf.new h⟩
def S4:TE:=λ_ H Q=> ∀p,H p=none->Q (.ref p) (upd H p (.dK []))
section
variable {X:Cx} {pos:Pos}
theorem LJ:PE X (.Dict [] [] pos) S4:=λpins s σ H Q I h=>
 wpAny_Dict_empty ⟨.ref s.heap.objs.size,_,I.laid (a:=s.heap.objs.size) (o:= .dK []) (t' :=s.toks) (λ_ _ q=> aCp _ q) (aCs _) (NI s.heap I.big),rfl,h _ (I.cG.fresh (aCs _))⟩
end
structure M2 (X:Cx) (o:Expr) (m:Str) (apos:Pos) (e f:Expr) (d4:Pos):Prop where
 base:attributeBase o m X.env (eval o X.env)=eval o X.env
 Q1:((backTo d4 (starEach [e,f] X.env)).all (λx=> !x.1) && (backToKw d4 (keywordEach [] X.env)).all (λx=> x.1.isSome)
  && decide (([e,f]:List Expr).length+([]:List Keyword).length+(if ([]:List Keyword).isEmpty then 0 else 1) < 30))=true
 line:(apos.endLine==d4.line)=true
 trees:backTo d4 (starEach [e,f] X.env)=[(false,eval e X.env),(false,eval f X.env)]
def IsD (H:Hp) (a:Addr):Prop:=(∃kvs,Rd H a (.dK kvs))\/∃kvs,Rd H a (.dT kvs)
theorem MN {X:Cx} {pins:List (Addr×Obj)} {σ:St} {H:Hp} {s:Shared} {a:Addr} (I:Inv X pins σ H s) (d:IsD H a):
  s.TypeIs (.ref a) "dict"/\(∀b,Value.ref a= .ref b->∃ob,s.heap.get? b=some ob/\ob.dict=none)/\(a==sysModules)=false:=by
 rcases d with ⟨kvs,e⟩ | ⟨kvs,e⟩
 ·obtain ⟨_,hd,vs,_,dd⟩:=DD I.cG e;refine ⟨dd.typeIs,λb q=> ?_,hd⟩;cases q;obtain ⟨ob,_,_,h1,h2,_⟩:=dd;exact ⟨ob,h1,h2.2.1⟩
 ·obtain ⟨_,hd,xs,_,dd⟩:=DB I.cG e;refine ⟨dd.typeIs,λb q=> ?_,hd⟩;cases q;obtain ⟨ob,_,_,h1,h2,_⟩:=dd;exact ⟨ob,h1,h2.2.1⟩
section
variable {X:Cx} {pins:List (Addr×Obj)} {σ:St} {H:Hp} {s:Shared} {a:Addr} {y d:V} {u r:Value} {o:Option V} {A:Around} {E:Value->Shared->Prop}
theorem VY {Q:Value->Shared->Prop} (hu:A.units+1 < cLine) (I:Inv X pins σ H s) (g:FY H a y o) (ry:RelV y u) (rd:RelV d r) (h:∀w' s',Inv X pins σ H s' ->RelV (o.getD d) w' ->Q w' s'):
  wpAny (model X.prog X.w) A (call (.builtin "dict.get") [.ref a,u,r]) Q E s:=by
 rcases g with ⟨kvs,k,e,ey,l⟩ | ⟨kvs,k,b,e,ey,eb,l⟩
 ·subst ey;obtain ⟨z,hd,vs,rel,dd⟩:=DD I.cG e;refine call_meetsIn aFy dd.typeIs PySem.F.entry_dict_get (PySem.F.args_dict_get_3 _ _ _) (meets_dict_get_default (bA X.prog X.w) a (vG ry) hd r) ⟨_,dd.mapOf,h _ _ (I.tok _) ?_⟩;rw [l];exact (rel.val k).getD rd
 ·subst ey;cases (show u=Value.ref b from ry);obtain ⟨z,hd,xs,rel,dd⟩:=DB I.cG e;refine call_meetsIn aFy dd.typeIs PySem.F.entry_dict_get (PySem.F.args_dict_get_3 _ _ _) (meetsH_dict_get_default (tupleKind (bA X.prog X.w)) a b hd r) ⟨aGe hu,k,xs,zN I.cG eb,dd,h _ _ (I.tok _) ?_⟩;rw [l];exact (rel.val k).getD rd
end
def S5 (td ty tx:TE):TE:=λσ H Q=> td σ H λx H1=> ∃a,x= .ref a/\IsD H1 a/\ty σ H1 λy H2=> tx σ H2 λz H3=> ∃o,FY H3 a y o/\Q (o.getD z) H3
section
variable {X:Cx} {o e f:Expr} {apos d4:Pos} {td ty tx:TE}
theorem LK (hu:X.A.units+1 < cLine) (ho:PE X o td) (he:PE X e ty) (hf:PE X f tx) (m:M2 X o "get" apos e f d4):PE X (.Call (.Attribute o "get" apos) [e,f] [] d4) (S5 td ty tx):=by
 intro pins s σ H Q I h;refine wpAny_Call_method m.base m.Q1 m.line PySem.F.plainAttrs_dict aFy PySem.F.type_dict_get (cZ (ho pins s σ H _ I h) λu s1 ⟨x,H1,I1,rx,a,ex,d,q1⟩=> ?_);subst ex;obtain rfl:u=Value.ref a:=rx;obtain ⟨t1,t2,_⟩:=MN I1 d;refine ⟨t1,t2,?_⟩;rw [m.trees]
 refine aFt rfl (aG2 (aEm (cZ (he pins s1 σ H1 _ I1 q1) λiv s2 ⟨y,H2,I2,ry,q2⟩=>
  aEm (cZ (hf pins s2 σ H2 _ I2 q2) λfv s3 ⟨z,H3,I3,rz,ov,g,q3⟩=> aFr ?_))))
 exact VY hu I3 g ry rz λw' s4 I4 rw' => ⟨_,H3,I4,rw',q3⟩
end
def mS:List (Str×NameKind)->List (Str×Addr)->List (Str×Addr)->List (Str×Addr)
 | [],_,acc=> acc
 | (n,k)::r,cells,acc=> mS r cells (if k== .free then (n,(cells.lookup n).getD 0)::acc else acc)
theorem yA {env:Env}:∀(names:List (Str×NameKind)) (acc:List (Str×Addr)),(∀x∈names,x.2= .free->∃c,env.cells.lookup x.1=some c)->
  (forIn names acc λ(x:Str×NameKind) (cs:List (Str×Addr))=> (if (x.2==NameKind.free)=true then do let a<-cellOf env x.1;pure (ForInStep.yield ((x.1,a)::cs)) else pure (ForInStep.yield cs):Sem _))=(pure (mS names env.cells acc):Sem _)
 | [],acc,_=> by simp [mS]
 | (n,k)::r,acc,h=> by
  have ih:=λacc' => yA (env:=env) r acc' λx hx=> h x (aCr _ hx);rw [List.forIn_cons];by_cases hk:k= .free
  ·subst hk;obtain ⟨c,hc⟩:=h (n,.free) aCq rfl;have hc' :env.cells.lookup n=some c:=hc;simp only [mS,beq_self_eq_true,if_true,cellOf,hc',pure_bind,Option.getD_some];exact ih _
  ·have hb:(k==NameKind.free)=false:=by simpa using hk
   simp only [mS,hb,Bool.false_eq_true,if_false,pure_bind];exact ih _
theorem wM {scope:Scope} {env:Env} (h:∀x∈scope.names,x.2= .free->∃c,env.cells.lookup x.1=some c):closureFor scope env=pure (mS scope.names env.cells []):=by
 have e:=yA (env:=env) scope.names [] h;unfold closureFor;simp only [bind_pure_comp] at e⊢
 first
  | (rw [<-e];rfl)
  | (simp at e⊢;rw [<-e];rfl)
  | (simp at e⊢;exact e)
theorem yB {cells:List (Str×Addr)} {P:Str->Addr->Prop}:∀(names:List (Str×NameKind)) (acc:List (Str×Addr)),(∀x∈acc,P x.1 x.2)->(∀n,(n,NameKind.free)∈names->P n ((cells.lookup n).getD 0))->∀x∈mS names cells acc,P x.1 x.2
 | [],acc,h,_,x,hx=> h x hx
 | (n,k)::r,acc,h,h2,x,hx=> by
  refine yB (cells:=cells) r _ (λy hy=> ?_) (λm hm=> h2 m (aCr _ hm)) x hx;by_cases hk:k= .free
  ·subst hk;simp only [beq_self_eq_true,if_true] at hy;rcases aCv.mp hy with rfl | hy
   ·exact h2 n aCq
   ·exact h y hy
  ·have hb:(k==NameKind.free)=false:=by simpa using hk
   simp only [hb,Bool.false_eq_true,if_false] at hy;exact h y hy
theorem gF {α:Type}:∀{l:List (Str×α)} {n:Str} {c:α},(n,c)∈l->∃c',l.lookup n=some c'
 | (k,v)::r,n,c,h=> by
  rw [List.lookup_cons]
  cases hb:n==k with
  | true=> exact ⟨v,rfl⟩
  | false=>
   rcases aCv.mp h with e | h
   ·injection e with e1 _;rw [e1] at hb;simp at hb
   ·exact gF h
theorem sL {cells:List (Str×Addr)}:∀(names:List (Str×NameKind)) (acc:List (Str×Addr)) (x:Str×Addr),x∈acc->x∈mS names cells acc
 | [],_,_,h=> h
 | (n,k)::r,acc,x,h=> by
  refine sL r _ x ?_;by_cases hk:(k==NameKind.free)=true
  ·rw [if_pos hk];exact aCr _ h
  ·rw [if_neg hk];exact h
theorem yC {cells:List (Str×Addr)}:∀(names:List (Str×NameKind)) (acc:List (Str×Addr)) (n:Str),(n,NameKind.free)∈names->∃c,(n,c)∈mS names cells acc
 | (m,k)::r,acc,n,h=> by
  rcases aCv.mp h with e | h
  ·injection e with e1 e2;subst e1 e2;exact ⟨(cells.lookup n).getD 0,sL r _ _ (by simp)⟩
  ·exact yC r _ n h
theorem p5 {scope:Scope} {env:Env} {x:Str} {k' :NameKind}:(relabel scope env).names.lookup x=some k' ->∃k,scope.names.lookup x=some k/\(k' =k\/(k= .free/\k' = .cell)):=by
 unfold relabel;dsimp only;generalize scope.names=l
 induction l with
 | nil=> intro h;simp at h
 | cons p r ih=>
  obtain ⟨n,k⟩:=p;intro h;rw [List.map_cons] at h;by_cases hc:(k==NameKind.free && env.scope.kind== .function && env.kindOf n==some .cell)=true
  ·simp only [hc,if_true,List.lookup_cons] at h⊢
   cases hb:x==n with
   | true=>
    rw [hb] at h;simp only [Bool.and_eq_true,beq_iff_eq] at hc;exact ⟨k,rfl,.inr ⟨hc.1.1,(aD4 h).symm⟩⟩
   | false=> rw [hb] at h;exact ih h
  ·have hc' :(k==NameKind.free && env.scope.kind== .function && env.kindOf n==some .cell)=false:=by simpa using hc
   simp only [hc',Bool.false_eq_true,if_false,List.lookup_cons] at h⊢
   cases hb:x==n with
   | true=> rw [hb] at h;exact ⟨k,rfl,.inl (aD4 h).symm⟩
   | false=> rw [hb] at h;exact ih h
theorem yZ {scope:Scope} {env:Env} {x:Str}:scope.names.lookup x=some .free->(relabel scope env).names.lookup x=some .cell\/(relabel scope env).names.lookup x=some .free:=by
 unfold relabel;dsimp only;generalize scope.names=l
 induction l with
 | nil=> intro h;simp at h
 | cons p r ih=>
  obtain ⟨n,k⟩:=p;intro h;rw [List.map_cons];rw [List.lookup_cons] at h
  cases hb:x==n with
  | true=>
   rw [hb] at h;have hk:k= .free:=aD4 h;subst hk;by_cases hc:(NameKind.free==NameKind.free && env.scope.kind== .function && env.kindOf n==some .cell)=true
   ·simp only [hc,if_true,List.lookup_cons,hb];first | exact .inl rfl | exact .inl trivial
   ·have hc' :(NameKind.free==NameKind.free && env.scope.kind== .function && env.kindOf n==some .cell)=false:=by simpa using hc
    simp only [hc',Bool.false_eq_true,if_false,List.lookup_cons,hb];first | exact .inr rfl | exact .inr trivial
  | false=>
   rw [hb] at h;by_cases hc:(k==NameKind.free && env.scope.kind== .function && env.kindOf n==some .cell)=true
   ·simp only [hc,if_true,List.lookup_cons,hb];exact ih h
   ·have hc' :(k==NameKind.free && env.scope.kind== .function && env.kindOf n==some .cell)=false:=by simpa using hc
    simp only [hc',Bool.false_eq_true,if_false,List.lookup_cons,hb];exact ih h
def dC (X:Cx) (own:List Str) (bV:List Nat) (scope:Scope) (cl:List (Str×Addr)) (C:Addr) (fp:List Addr) (s₀:Shared) (H₀:Hp):Cx where
 prog:=X.prog
 w:=X.w
 K:=X.K
 mg:=X.mg
 base:=X.base
 A:=X.A
 N:=own++bV.map λi=> X.N.getD i ""
 s₀:=s₀
 H₀:=H₀
 env:=compEnvC scope cl C X.env
 outer:=X.stack
 stack:=X.stack
 ex:=fp
 fn:=λ_=> false
 calm:=X.calm
 pn:=[]
 xe:=λ_ _=> False
def sT (own:List Str) (bV:List Nat) (σ:St):St:=own.map (λ_=> none)++bV.map λi=> (σ[i]?).join
def tG (N:List Str) (sc scope:Scope) (bV:List Nat):Bool:=
 scope.kind== .function && scope.names.all (λy=> y.2 != .cell) && scope.names.all (λy=> y.2 != .local || scope.names.lookup y.1==some .local) &&
 scope.names.all (λy=> y.2 != .free || (sc.names.lookup y.1==some .cell || sc.names.lookup y.1==some .free)) &&
 bV.all (λi=> match N[i]? with | some x=> scope.names.lookup x==some .free | none=> false)
structure FZ (X:Cx) (scope:Scope) (bV:List Nat):Prop where
 kind:scope.kind= .function
 LP:∀y∈scope.names,y.2≠ .cell
 loc:∀y∈scope.names,y.2= .local->scope.names.lookup y.1=some .local
 fr:∀y∈scope.names,y.2= .free->X.env.kindOf y.1=some .cell\/X.env.kindOf y.1=some .free
 cap:∀i∈bV,∃x,X.N[i]? =some x/\scope.names.lookup x=some .free
theorem FZ.of {X:Cx} {scope sc:Scope} {N:List Str} {bV:List Nat} (hN:X.N=N) (hs:X.env.scope=sc) (h:tG N sc scope bV=true):FZ X scope bV:=by
 subst hN hs;unfold tG at h;simp only [Bool.and_eq_true,List.all_eq_true] at h;obtain ⟨⟨⟨⟨h1,h2⟩,h3⟩,h4⟩,h5⟩:=h;refine ⟨beq_iff_eq.mp h1,λy hy z=> ?_,λy hy z=> ?_,λy hy z=> ?_,λi hi=> ?_⟩
 ·have:=h2 y hy;rw [z] at this;exact absurd this (by decide)
 ·have:=h3 y hy;rw [z] at this;simpa using this
 ·have:=h4 y hy;rw [z] at this;have this:(X.env.scope.names.lookup y.1==some NameKind.cell || X.env.scope.names.lookup y.1==some NameKind.free)=true:=by simpa using this
  rcases Bool.or_eq_true_iff.mp this with q | q
  ·exact .inl (beq_iff_eq.mp q)
  ·exact .inr (beq_iff_eq.mp q)
 ·have:=h5 i hi
  cases e:X.N[i]? with
  | none=> rw [e] at this;simp at this
  | some x=> rw [e] at this;exact ⟨x,rfl,beq_iff_eq.mp this⟩
def PTs (X:Cx) (ifs:List Expr) (t:TT):Prop:=
 ∀(pins:List (Addr×Obj)) (s:Shared) (σ:St) (H:Hp) (Q:Bool->Hp->Prop),Inv X pins σ H s->t σ H Q->
  wpAny (model X.prog X.w) X.A (forIn ifs true λc r=> if r=true then do let ok<-isTrue c X.env (eval c X.env);pure (ForInStep.yield ok) else pure (ForInStep.yield r)) (TP X pins σ Q) X.xe s
def aAk:TT:=λ_ H Q=> Q true H
theorem O9 {X:Cx}:PTs X [] aAk:=λ_ _ _ H _ I h=> wpAny_tests_nil ⟨H,I,h⟩
theorem O8 {X:Cx} {c:Expr} {t:TT} (h:PT X c t):PTs X [c] t:=λpins s σ H Q I q=> wpAny_tests_one (h pins s σ H Q I q)
def N0 (n:Nat) (g:TG):Prop:=∀v σ H Q,g v σ H Q->g v σ H λσ' H' => Q σ' H' /\σ'.length=σ.length/\∀j,n<=j->σ'[j]? =σ[j]?
def HP (n:Nat) (g:FV):Prop:=∀vs σ H Q,g vs σ H Q->g vs σ H λσ' H' => Q σ' H' /\σ'.length=σ.length/\∀j,n<=j->σ'[j]? =σ[j]?
theorem cV {n i:Nat} (h:i < n):N0 n (vK i):=λv σ H Q q=> ⟨q,by simp,λj hj=> by rw [List.getElem?_set_ne (by omega)]⟩
theorem CZ {n:Nat}:HP n M7:=λvs σ H Q q=> ⟨q.1,q.2,rfl,λ_ _=> rfl⟩
theorem iD {n:Nat} {t:TG} {u:FV} (mt:∀v σ H Q Q',(∀σ' H',Q σ' H' ->Q' σ' H')->t v σ H Q->t v σ H Q') (mu:∀v σ H Q Q',(∀σ' H',Q σ' H' ->Q' σ' H')->u v σ H Q->u v σ H Q') (h1:N0 n t) (h2:HP n u):HP n (C0 t u):=by
 intro vs σ H Q q;obtain ⟨v,r,e,q⟩:=q;refine ⟨v,r,e,mt _ _ _ _ _ (λσ' H' ⟨q',l,k⟩=> ?_) (h1 _ _ _ _ q)⟩;refine mu _ _ _ _ _ (λσ2 H2 ⟨q2,l2,k2⟩=> ?_) (h2 _ _ _ _ q');exact ⟨q2,l2.trans l,λj hj=> (k2 j hj).trans (k j hj)⟩
theorem CY {n m:Nat} {K:aGp} {u:FV} (h:HP n u):N0 n (M6 K m u):=by
 intro v σ H Q q;obtain ⟨a,xs,e,hs,hl,q⟩:=q;exact ⟨a,xs,e,hs,hl,h _ _ _ _ q⟩
theorem aP {i:Nat}:∀v σ H Q Q',(∀σ' H',Q σ' H' ->Q' σ' H')->vK i v σ H Q->vK i v σ H Q' :=λ_ _ _ _ _ h q=> h _ _ q
theorem eS:∀v σ H Q Q',(∀σ' H',Q σ' H' ->Q' σ' H')->M7 v σ H Q->M7 v σ H Q' :=λ_ _ _ _ _ h q=> ⟨q.1,h _ _ q.2⟩
theorem b7 {t:TG} {u:FV} (mt:∀v σ H Q Q',(∀σ' H',Q σ' H' ->Q' σ' H')->t v σ H Q->t v σ H Q') (mu:∀v σ H Q Q',(∀σ' H',Q σ' H' ->Q' σ' H')->u v σ H Q->u v σ H Q'):
  ∀v σ H Q Q',(∀σ' H',Q σ' H' ->Q' σ' H')->C0 t u v σ H Q->C0 t u v σ H Q' :=by
 intro vs σ H Q Q' h ⟨v,r,e,q⟩;exact ⟨v,r,e,mt _ _ _ _ _ (λσ' H' q' => mu _ _ _ _ _ h q') q⟩
theorem DL {prog:Program} {w:World} {A:Around} {R:Result->Shared->Prop} {s:Shared} {elt target iter:Expr} {ifs:List Expr} {scope:Scope} {pos:Pos} {it acc:Value} {env:Env} (I:Nat->Shared->Prop)
  (turn:∀n s,I n s->wpAny (model prog w) A (pyNext it) (λr s₁=> match r with
   | none=> R (.ok .next) s₁
   | some v=> wpAny (model prog w) A (letOwnedTupleGo target it v) (λ_ s₁=> wpAny (model prog w) A (assign target env v) (λ_ s₂=>
     wpAny (model prog w) A (forIn ifs true λc r=> if r=true then do let ok<-isTrue c env (eval c env);pure (ForInStep.yield ok) else pure (ForInStep.yield r)) (λok s₃=>
      if ok=true then wpAny (model prog w) A (eval elt env) (λx s₄=>
       wpAny (model prog w) A (call (.builtin "list.append") [acc,x]) (λ_ s₅=> ∃m,m < n/\I m s₅) (λ_ _=> False) s₄) (λ_ _=> False) s₃
      else ∃m,m < n/\I m s₃) (λ_ _=> False) s₂) (λ_ _=> False) s₁) (λ_ _=> False) s₁) (λ_ _=> False) s)
  (n:Nat) (h:I n s):codeAny (model prog w) A (.compLoop (.ListComp elt [⟨target,iter,ifs,0⟩] scope pos) 0 it acc env) R s:=by
 refine codeAny_loop rfl I (λn s hI=> ?_) n h;show wpAny _ A ((compTurn (.ListComp elt [⟨target,iter,ifs,0⟩] scope pos) 0 it acc env).onRaise (λx=> do noteFrame x env;theTreesLotGoes x)) _ _ s;refine wpAny_noted ?_;rw [compTurn_list];refine aCm (wpAny_standAt (aCm (aEf (turn n s hI) (λr s₁ h₁=> ?_) λ_ _ h' => h'.elim)))
 cases r with
 | none=> exact aCo h₁
 | some v=>
  refine aCm (aEf h₁ (λ_ s₁ h₁=> ?_) λ_ _ h' => h'.elim);refine aCm (aEf h₁ (λ_ s₂ h₂=> aCm (aEf h₂ (λok s₃ h₃=> ?_) λ_ _ h' => h'.elim)) λ_ _ h' => h'.elim)
  cases ok with
  | false=> exact aCo ⟨rfl,h₃⟩
  | true=>
   exact aCm (aCm (aEf h₃ (λx s₄ h₄=> aCm (aEf h₄ (λ_ s₅ h₅=> aCo (aCo ⟨rfl,h₅⟩)) λ_ _ h' => h'.elim)) λ_ _ h' => h'.elim))
def tLC (own:List Str) (bV:List Nat) (wi:TI) (g:TG) (tt:TT) (te:TE):TE:=λσ H Q=> wi σ H λJ H1=> ∀acc,H1 acc=none->
 ∃W:Nat->Nat->List V->Hp->Prop,(∃m,W 0 m [] (upd H1 acc (.lst [])))/\∀i m ys H,W i m ys H->H acc=some (.lst ys)/\
  ((J.stop i H/\Q (.ref acc) H)\/(J.go i H/\ys.length < sizeLine/\∃N:List V->Hp->Prop,(∀ys' H',N ys' H' ->∃m',m' < m/\W (i+1) m' ys' H')/\
   ∀x H',J.WX i H x H' ->g x (sT own bV σ) H' λσ2 H2=> tt σ2 H2 λb H3=> if b=true then te σ2 H3 λy H4=> H4 acc=some (.lst ys)/\N (ys++[y]) (upd H4 acc (.lst (ys++[y]))) else N ys H3))
theorem YD {X:Cx} {tg iter elt:Expr} {ifs:List Expr} {scope sc:Scope} {N:List Str} {pos:Pos} {wi:TI} {g:TG} {tt:TT} {te:TE} (own:List Str) (bV:List Nat)
  (hN:X.N=N) (hsc:X.env.scope=sc) (chk:tG N sc scope bV=true) (hcalm:X.calm=true) (hi:PI X tg iter wi) (ho:N0 own.length g)
  (gm:∀v σ H Q Q',(∀σ' H',Q σ' H' ->Q' σ' H')->g v σ H Q->g v σ H Q')
  (hg:∀cl C fp s₀ H₀,PG (dC X own bV scope cl C fp s₀ H₀) tg g) (ht:∀cl C fp s₀ H₀,PTs (dC X own bV scope cl C fp s₀ H₀) ifs tt)
  (he:∀cl C fp s₀ H₀,PE (dC X own bV scope cl C fp s₀ H₀) elt te)
  (hs:∀x,foldedSetIterable iter X.env x=pure x:=by intro _;rfl):PE X (.ListComp elt [⟨tg,iter,ifs,0⟩] scope pos) (tLC own bV wi g tt te):=by
 have ck:=FZ.of hN hsc chk;intro pins s σ H Q I h;have hcl:∀x∈scope.names,x.2= .free->∃c,X.env.cells.lookup x.1=some c:=λx hx hf=> I.ok.has x.1 (ck.fr x hx hf);rw [eval_ListComp];refine wpAny_comprehension_free (use:=none) (cl:=mS scope.names X.env.cells []) rfl hs (wM hcl) ck.kind ck.loc (cZ (hi pins s σ H _ I h) λv s1 h1=> cZ h1 λitv s2 h2=> ?_);obtain ⟨it,fp,tn,J,H2,e,I2,T,st2,f2,hW⟩:=h2;subst e;refine aDc (wpAny_newFunctionEnv ck.LP (by intro y hy;simp at hy) (λh₁ hns₁ hsb₁=> ?_) ck.kind);dsimp only at hns₁ hsb₁⊢;have hacc0:H2 s2.heap.objs.size=none:=I2.cG.fresh (aCs _);obtain ⟨W,⟨m0,w0⟩,turn⟩:=hW s2.heap.objs.size hacc0
 have I3:Inv X pins σ (upd H2 s2.heap.objs.size (.lst [])) {s2 with heap:=s2.heap.push {cls:= .type "list",dict:=none,data:= .seq ([]:List Value).toArray}}:=
  I2.laid (t' :=s2.toks) (λb u e=> aCp _ e) (aCs _) ⟨aEd _,[],0,.nil,aCu _ rfl⟩
 generalize hH3:upd H2 s2.heap.objs.size (.lst [])=H3 at I3 w0;generalize hG:s2.heap.push {cls:= .type "list",dict:=none,data:= .seq ([]:List Value).toArray}=G at I3 hns₁ hsb₁⊢;have hGs:G.objs.size=s2.heap.objs.size+1:=by rw [<-hG,Heap.size_push]
 generalize hcl' :mS scope.names X.env.cells []=cl at⊢
 have clOk:∀x c,cl.lookup x=some c->X.env.cells.lookup x=some c:=λx c e=> by
  have:=yB (cells:=X.env.cells) (P:=λx c=> X.env.cells.lookup x=some c) scope.names [] (by simp) (λn hn=> by
   obtain ⟨c,hc⟩:=hcl (n,.free) hn rfl;have hc' :X.env.cells.lookup n=some c:=hc
   rw [hc'];rfl) (x,c) (by rw [hcl'];exact aDy e)
  exact this
 have clHas:∀x,scope.names.lookup x=some .free->∃c,cl.lookup x=some c:=λx e=> by
  obtain ⟨c,hc⟩:=yC (cells:=X.env.cells) scope.names [] x (aDy e);rw [hcl'] at hc;exact gF hc
 have fpObj:=T.obj _ _ st2;have fpLt:∀b∈fp,b < s2.heap.objs.size:=λb hb=> by obtain ⟨o,e,_⟩:=fpObj b hb;exact aCx e
 have cG:(dC X own bV scope cl G.objs.size fp {s2 with heap:=G} H3).Ok:=by
  refine ⟨I3.ok.mod,ck.kind,I3.ok.glob,I3.ok.blt,aCs _,λx y c e1 e2=> I3.ok.inj x y c (clOk x c e1) (clOk y c e2),λx hx=> ?_,λx c hf _=> absurd hf (by simp [dC]),I3.ok.hd,I3.ok.frames,.inl rfl,λb hb=> ⟨?_,λx c e=> ?_⟩,I3.bs,aDf I3.ok.Q8 I3.sz,λb o e hb=> ?_,λb hb z=> ?_,I3.stack,I3.GD⟩
  ·have hx:(relabel scope X.env).names.lookup x=some .cell\/(relabel scope X.env).names.lookup x=some .free:=hx;rcases hx with q | q
   ·obtain ⟨k,hk,z | ⟨z,_⟩⟩:=p5 q
    ·exact absurd z.symm (ck.LP _ (aDy hk))
    ·exact clHas x (by rw [hk,z])
   ·obtain ⟨k,hk,z | ⟨_,z⟩⟩:=p5 q
    ·exact clHas x (by rw [hk,<-z])
    ·cases z
  ·exact aD6 (Nat.lt_trans (fpLt b hb) (by show s2.heap.objs.size < G.objs.size;rw [hGs];exact aEg _))
  ·exact (f2 b hb).2.2.2.2.1 x c (clOk x c e)
  ·rcases (f2 b hb).2.2.2.1 with z | z
   ·exact I3.ok.LN b o e z
   ·exact absurd (aD7 (aCx e) (aDf I3.ok.Q8 z)) (aEa _)
  ·rcases aCv.mp (I3.D7 b z) with q | q
   ·exact (f2 b hb).2.1 q
   ·exact (f2 b hb).2.2.1 q
 have kept:∀b o,G.get? b=some o->h₁.get? b=some o:=λb o e=> hsb₁.extBut b o (aD6 (aCx e)) (aCp _ e);have hCn:H3 G.objs.size=none:=I3.cG.fresh (aCs _)
 have I4:Inv (dC X own bV scope cl G.objs.size fp {s2 with heap:=G} H3) [] (sT own bV σ) H3 {s2 with heap:=h₁,toks:=s2.toks+([]:List (Str×Value)).length}:=by
  refine ⟨cG,rfl,I3.bare,Un.kept kept,⟨_,hns₁,λi x v e1 e2 e3=> ?_⟩,λx c e=> ?_,hCn,λx c e=> I3.mM x c (clOk x c e),λp hp=> absurd hp (by simp [dC]),I3.cG.kept kept,by simp [sT,dC]⟩
  ·have hge:own.length<=i:=by
    refine aEy λhlt=> ?_;unfold sT at e2;rw [List.getElem?_append_left (by simpa using hlt),List.getElem?_map] at e2
    cases q:own[i]? with
    | none=> rw [q] at e2;simp at e2
    | some z=> rw [q] at e2;simp at e2
   unfold sT at e2;have e1' :(own++bV.map λi=> X.N.getD i "")[i]? =some x:=e1;rw [List.getElem?_append_right hge,List.getElem?_map] at e1';rw [List.getElem?_append_right (by simpa using hge),List.getElem?_map] at e2;simp only [List.length_map] at e2
   cases q:bV[i - own.length]? with
   | none=> rw [q] at e1';simp at e1'
   | some k=>
    rw [q] at e1' e2;simp only [Option.map_some,Option.some.injEq] at e1' e2;obtain ⟨x',hx',hfree⟩:=ck.cap k (aCz q);have ex:x' =x:=by rw [<-e1',List.getD_eq_getElem?_getD,hx'];rfl
    subst ex
    have e2' :σ[k]? =some (some v):=by
     cases w:σ[k]? with
     | none=> rw [w] at e2;simp at e2
     | some z=> rw [w] at e2;simp at e2;rw [e2]
    have kx:=ck.fr _ (aDy hfree) rfl
    have visX:ZM X.env.scope x' :=by
     rcases kx with z | z
     ·exact .inr (.inl z)
     ·exact .inr (.inr z)
    obtain ⟨m,hn,hl⟩:=I3.loc;obtain ⟨u,ru,lk⟩:=hl k x' v hx' e2' visX;refine ⟨u,ru,.inr ⟨yZ hfree,?_⟩⟩
    rcases lk with ⟨z,_⟩ | ⟨_,c,hc,hcell⟩
    ·rcases kx with z' | z' <;> (have z'' :=z.symm.trans z';cases z'')
    ·obtain ⟨c',hc'⟩:=clHas x' hfree;have:=clOk x' c' hc';rw [hc] at this;cases this;obtain ⟨o,ho,hd⟩:=hcell;exact ⟨c,hc',⟨o,kept _ _ ho,hd⟩⟩
  ·obtain ⟨v,o,ho,hd⟩:=I3.cell x c (clOk x c e);exact ⟨v,o,kept _ _ ho,hd⟩
 have st4:tn 0 h₁:=T.keep _ _ _ st2 λb hb o e=> kept b o (by rw [<-hG];exact aCp _ e);have fp4:∀b∈fp,H3 b=none:=λb hb=> by rw [<-hH3,aV (Nat.ne_of_lt (fpLt b hb))];exact (f2 b hb).1
 have stat:∀{H' :Hp},(∀b∈fp,H' b=none)->∀b∈fp,pE (dC X own bV scope cl G.objs.size fp {s2 with heap:=G} H3) [] H' b:=λhn b hb=>
  ⟨hn b hb,(cG.exf b hb).1,cG.NB b hb,.inl hb,(cG.exf b hb).2,λp hp=> absurd hp (by simp [dC])⟩
 have loop:codeAny (model X.prog X.w) X.A (.compLoop (.ListComp elt [⟨tg,iter,ifs,0⟩] scope pos) 0 (.ref it) (.ref s2.heap.objs.size) (compEnvC scope cl G.objs.size X.env))
   (compPost (model X.prog X.w) X.A X.xe none (EP X pins σ Q) (.ref s2.heap.objs.size) G.objs.size) {s2 with heap:=h₁,toks:=s2.toks+([]:List (Str×Value)).length}:=by
  refine DL (λn s' => ∃i ys H',Inv (dC X own bV scope cl G.objs.size fp {s2 with heap:=G} H3) [] (sT own bV σ) H' s' /\tn i s'.heap/\(∀b∈fp,H' b=none)/\W i n ys H') ?_ m0 ⟨0,[],H3,I4,st4,fp4,w0⟩;rintro n s5 ⟨i,ys,H5,I5,st5,fr5,w5⟩;obtain ⟨hacc,turn5⟩:=turn i n ys H5 w5
  rcases turn5 with ⟨stop,q⟩ | ⟨go,hsz,NN,hNN,step⟩
  ·refine cZ (T.done (dC X own bV scope cl G.objs.size fp {s2 with heap:=G} H3) rfl rfl rfl hcalm i [] s5 _ H5 (λ_ _=> False) I5 (stat fr5) st5 stop) λr s6 ⟨hr,I6⟩=> ?_;subst hr;obtain ⟨m,hm,_⟩:=id I6.loc;refine ⟨m,hm,λh' sb=> ?_⟩
   have I7:Inv X pins σ H5 s6:=I3.ZE (ch:=fp) I6.os I6.base I6.cG I6.bare λb hb=> ⟨(f2 b hb).2.2.2.1,(f2 b hb).2.1,λx c e=> (f2 b hb).2.2.2.2.1 x c e,λp hp=> (f2 b hb).2.2.2.2.2 p hp⟩
   have hsz6:X.s₀.heap.objs.size<=G.objs.size:=I3.sz
   have I8:Inv X pins σ H5 {s6 with heap:=h'}:=I7.turned (t' :=s6.toks) (it:=G.objs.size) (λb o hb e=> sb.extBut b o hb e) I6.free (aFb (by have:=I3.lt;exact this)) (.inr hsz6)
    (λx c e=> by obtain ⟨v,z⟩:=I3.cell x c e;exact aD6 z.lt) (λp hp=> aD6 (aCx (I3.pin p hp).1))
   exact ⟨.ref s2.heap.objs.size,H5,I8,rfl,q⟩
  ·refine cZ (T.item (dC X own bV scope cl G.objs.size fp {s2 with heap:=G} H3) rfl rfl rfl hcalm i [] s5 _ H5 (λ_ _=> False) I5 (stat fr5) st5 go) λr s6 ⟨u,hr,h6⟩=> ?_;subst hr;refine cZ h6 λ_ s7 ⟨x,H7,I7,r7,y7,st7,fr7⟩=> ?_;have I7' :=I7.pinned (stat fr7) (T.obj _ _ st7);refine cZ (hg _ _ _ _ _ _ s7 _ H7 x u _ I7' r7 (ho _ _ _ _ (step x H7 y7))) λ_ s8 ⟨σ8,H8,I8,q8,l8,k8⟩=> ?_;refine cZ (ht _ _ _ _ _ _ s8 σ8 H8 _ I8 q8) λok s9 ⟨H9,I9,q9⟩=> ?_
   have again:∀{ysn:List V} {H10:Hp} {s10:Shared},Inv (dC X own bV scope cl G.objs.size fp {s2 with heap:=G} H3) ([]++uT fp s7.heap) σ8 H10 s10->NN ysn H10->
     ∃m,m < n/\∃i ys H',Inv (dC X own bV scope cl G.objs.size fp {s2 with heap:=G} H3) [] (sT own bV σ) H' s10/\tn i s10.heap/\(∀b∈fp,H' b=none)/\W i m ys H' :=λ{ysn H10 s10} I10 n10=> by
    obtain ⟨m',hm,w10⟩:=hNN ysn H10 n10
    have I10' :Inv (dC X own bV scope cl G.objs.size fp {s2 with heap:=G} H3) ([]:List (Addr×Obj)) (sT own bV σ) H10 s10:=I10.pT.weak l8.symm λj v e=> by
     have hge:own.length<=j:=by
      refine aEy λhlt=> ?_;unfold sT at e;rw [List.getElem?_append_left (by simpa using hlt),List.getElem?_map] at e
      cases q:own[j]? with
      | none=> rw [q] at e;simp at e
      | some z=> rw [q] at e;simp at e
     rw [k8 j hge];exact e
    refine ⟨m',hm,i+1,ysn,H10,I10',T.keep _ _ _ st7 λb hb o e=> (I10.pin (b,o) (aD8 _ (aD8 _ (kJ hb e)))).1,λb hb=> ?_,w10⟩;obtain ⟨o,e,d⟩:=T.obj _ _ st7 b hb;exact (I10.pin (b,o) (aD8 _ (aD8 _ (kJ hb e)))).2.1
   cases ok with
   | false=> exact again I9 q9
   | true=>
    rw [if_pos rfl];refine cZ (he _ _ _ _ _ _ s9 σ8 H9 _ I9 q9) λyv s10 ⟨y,H10,I10,ry,hacc10,q10⟩=> ?_;refine cZ (xM _ s10 σ8 H10 (.ref s2.heap.objs.size) [y] (.ref s2.heap.objs.size) [yv] (λv H' => v= .cN/\NN (ys++[y]) H') I10 rfl (.cons ry .nil) ⟨_,_,_,rfl,rfl,hacc10,hsz,rfl,q10⟩) λ_ s11 ⟨_,H11,I11,_,_,q11⟩=> ?_;exact again I11 q11
 exact codeAny_compStart_list loop (T.self _ 0 _ _ _ st4 loop)
structure Src where
 it:Addr
 l:Addr
 tup:Bool
def Src.At (q:Src) (h:Heap) (i:Nat):Prop:=match q.tup with | true=> h.IsTupleIter q.it q.l i | false=> h.IsListIter q.it q.l i
def Src.Sq (q:Src) (h:Heap) (items:Array Value):Prop:=match q.tup with | true=> h.IsTuple q.l items | false=> h.IsList q.l items
theorem Src.At.to {q:Src} {h h' :Heap} {i:Nat} (x:q.At h i) (e:∀o,h.get? q.it=some o->h'.get? q.it=some o):q.At h' i:=by
 obtain ⟨it,l,t⟩:=q;cases t <;> (obtain ⟨o,ho,r⟩:=x;exact ⟨o,e o ho,r⟩)
theorem Src.At.obj {q:Src} {h:Heap} {i:Nat} (x:q.At h i):∃o,h.get? q.it=some o/\o.data= .fields #[.ref q.l,.int i 0]:=by
 obtain ⟨it,l,t⟩:=q;cases t <;> (obtain ⟨o,ho,_,r⟩:=x;exact ⟨o,ho,r⟩)
theorem Src.Sq.to {q:Src} {h h' :Heap} {items:Array Value} (x:q.Sq h items) (e:∀o,h.get? q.l=some o->h'.get? q.l=some o):q.Sq h' items:=by
 obtain ⟨it,l,t⟩:=q;cases t <;> (obtain ⟨o,ho,r⟩:=x;exact ⟨o,e o ho,r⟩)
theorem Src.Sq.obj {q:Src} {h:Heap} {items:Array Value} (x:q.Sq h items):∃o n,h.get? q.l=some o/\o.data= .seq items n:=by
 obtain ⟨it,l,t⟩:=q;cases t <;> (obtain ⟨o,ho,_,n,r⟩:=x;exact ⟨o,n,ho,r⟩)
section
variable {prog:Program} {w:World} {A:Around} {E:Value->Shared->Prop} {s:Shared}
theorem sQ {it l:Addr} {i:Nat} {items:Array Value} {x:Value} {Q:Value->Shared->Prop} (hit:s.heap.IsTupleIter it l i) (hl:s.heap.IsTuple l items) (hx:items[i]? =some x)
  (hQ:∀h',h'.IsTupleIter it l (i+1)->Heap.SameBut it s.heap h' ->Q x {s with heap:=h'}):wpAny (model prog w) A (Builtin.SmallTypes.nextOf (.ref it)) Q E s:=by
 obtain ⟨oi,hoi,hci,hdi⟩:=id hit;obtain ⟨os,hos,_,ns,hds⟩:=hl;unfold Builtin.SmallTypes.nextOf;refine aCm (aDa (name:=Str.ofString "__next__") hit.typeIs aEo (aD5 aEo hit.typeIs F.entry_tuple_iterator_next ?_ (F.args_tuple_iterator_next_1 _)));refine aCm (m:=field (.ref it) 0) (aDu hoi hdi (x:= .ref l) rfl ?_);show wpAny _ _ (if (Value.ref l==Value.none)=true then _ else field (.ref it) 1 >>=_) _ _ s;rw [if_neg (show ¬((Value.ref l==Value.none)=true) from Bool.false_ne_true)];refine aCm (aDu hoi hdi (x:= .int i 0) rfl ?_);refine aCm (m:=seqItems? (.ref l)) (aDs hos hds ?_);simp only [Int.toNat_natCast,hx];refine aCm (aGf hoi hdi (by simp) (aCo ⟨x,rfl,aCo (hQ _ ⟨_,aDv _ hoi (Obj.isFreed_of_fields (Obj.data_mapFields hdi _)),(Obj.cls_mapFields ..).trans hci,?_⟩ (aDz ..))⟩));rw [Obj.data_mapFields hdi];simp [rawInt]
theorem u5 {it l:Addr} {i:Nat} {items:Array Value} {Q:Value->Shared->Prop} (hh:A.handled=none) (hit:s.heap.IsTupleIter it l i) (hl:s.heap.IsTuple l items) (hx:items[i]? =none)
  (hE:∀h' e,Heap.ExtBut it s.heap h' ->(∃o,h'.get? e=some o/\o.cls= .type "StopIteration")->E (.ref e) {s with heap:=h'}):wpAny (model prog w) A (Builtin.SmallTypes.nextOf (.ref it)) Q E s:=by
 obtain ⟨oi,hoi,hci,hdi⟩:=id hit;obtain ⟨os,hos,_,ns,hds⟩:=hl;unfold Builtin.SmallTypes.nextOf;refine aCm (aDa (name:=Str.ofString "__next__") hit.typeIs aEo (aD5 aEo hit.typeIs F.entry_tuple_iterator_next ?_ (F.args_tuple_iterator_next_1 _)));refine aCm (m:=field (.ref it) 0) (aDu hoi hdi (x:= .ref l) rfl ?_);show wpAny _ _ (if (Value.ref l==Value.none)=true then _ else field (.ref it) 1 >>=_) _ _ s;rw [if_neg (show ¬((Value.ref l==Value.none)=true) from Bool.false_ne_true)];refine aCm (aDu hoi hdi (x:= .int i 0) rfl ?_);refine aCm (m:=seqItems? (.ref l)) (aDs hos hds ?_);simp only [Int.toNat_natCast,hx];refine aCm (aE2 (aCm (aGf hoi hdi (by simp) ?_)));refine aCm (m:=newExc (.type "StopIteration") []) ?_;simp only [newExc,newTuple];refine aCm (aDc ?_ (by size_fits));refine aCm (m:=firstArgMember _ _) (aFo (a:=Value.none) (by first | rfl | (simp only [firstArgMember];rfl)) ?_);refine aDc (?_:_) (by size_fits);simp only [raiseNew];refine aCm (wpAny_handled (?_:_))
 first | rw [show A.in1.handled=none from hh] | rw [hh]
 refine aCm (aCo (wpAny_throw (?_:_)));exact hE _ _ (((aDz ..).extBut.push _).push _) ⟨_,aCu _ rfl,rfl⟩
theorem Src.item {q:Src} {i:Nat} {items:Array Value} {x:Value} {Q:Value->Shared->Prop} (hit:q.At s.heap i) (hl:q.Sq s.heap items) (hx:items[i]? =some x)
  (hQ:∀h',q.At h' (i+1)->Heap.SameBut q.it s.heap h' ->Q x {s with heap:=h'}):wpAny (model prog w) A (Builtin.SmallTypes.nextOf (.ref q.it)) Q E s:=by
 obtain ⟨it,l,t⟩:=q;cases t
 ·exact wpAny_nextOf_list_item hit hl hx hQ
 ·exact sQ hit hl hx hQ
theorem Src.done {q:Src} {i:Nat} {items:Array Value} {Q:Value->Shared->Prop} (hh:A.handled=none) (hit:q.At s.heap i) (hl:q.Sq s.heap items) (hx:items[i]? =none)
  (hE:∀h' e,Heap.ExtBut q.it s.heap h' ->(∃o,h'.get? e=some o/\o.cls= .type "StopIteration")->E (.ref e) {s with heap:=h'}):wpAny (model prog w) A (Builtin.SmallTypes.nextOf (.ref q.it)) Q E s:=by
 obtain ⟨it,l,t⟩:=q;cases t
 ·exact wpAny_nextOf_list_end hh hit hl hx hE
 ·exact u5 hh hit hl hx hE
theorem Src.start {q:Src} {items:Array Value} {Q:Value->Shared->Prop} (hl:q.Sq s.heap items)
  (hQ:∀h',(⟨s.heap.objs.size,q.l,q.tup⟩:Src).At h' 0->h'.objs.size=s.heap.objs.size+1->(∀b o,s.heap.get? b=some o->h'.get? b=some o)->Q (.ref s.heap.objs.size) {s with heap:=h'}):wpAny (model prog w) A (pyIter (.ref q.l)) Q E s:=by
 obtain ⟨it,l,t⟩:=q;cases t
 ·exact wpAny_pyIter_list hl (hQ _ ⟨_,aCu _ rfl,rfl,rfl⟩ (aGg ..) λb o e=> aCp _ e)
 ·exact wpAny_pyIter_tuple hl (hQ _ ⟨_,aCu _ rfl,rfl,rfl⟩ (aGg ..) λb o e=> aCp _ e)
structure gH (h:Heap) (z TI TO:Addr) (qs:List Src) (f0:Value) (i:Nat):Prop where
 obj:h.get? z=some {cls:= .type "zip",dict:=none,data:= .fields #[f0,.bool false,.bool false,.ref TI,.ref TO],slots:= #[]}
 aL:∃n,h.get? TI=some {cls:= .type "tuple",data:= .seq (qs.map λq=> Value.ref q.it).toArray n}
 own:∃(xs:List Value) (n:Nat),xs.length=qs.length/\h.get? TO=some {cls:= .type "tuple",data:= .seq xs.toArray n}
 at_:∀q∈qs,q.At h i
structure d8 (z TI TO:Addr) (qs:List Src):Prop where
 ne1:TI≠z
 ne2:TO≠z
 ne3:TI≠TO
 E7:∀q∈qs,q.it≠z/\q.it≠TI/\q.it≠TO
 nd:(qs.map (·.it)).Nodup
 src:∀q∈qs,q.l≠z/\q.l≠TO/\∀r∈qs,q.l≠r.it
end
section
variable {prog:Program} {w:World} {A:Around} {E:Value->Shared->Prop} {s:Shared}
structure HQ (h0 h:Heap) (z TI TO:Addr) (qs:List Src) (vals:List Value) (i j:Nat):Prop where
 obj:h.get? z=some {cls:= .type "zip",dict:=none,data:= .fields #[.ellipsis,.bool false,.bool false,.ref TI,.ref TO],slots:= #[]}
 own:∃(xs:List Value) (n:Nat),xs.length=qs.length/\xs.take j=vals.take j/\h.get? TO=some {cls:= .type "tuple",data:= .seq xs.toArray n}
 done:∀q∈qs.take j,q.At h (i+1)
 todo:∀q∈qs.drop j,q.At h i
 size:h.objs.size=h0.objs.size
 keep:∀c o,c≠z->c≠TO->(∀q∈qs,c≠q.it)->h0.get? c=some o->h.get? c=some o
theorem J1 {z TI TO:Addr} {qs:List Src} {i:Nat} {vals:List Value} {Q:Value->Shared->Prop} (D:d8 z TI TO qs) (Z:gH s.heap z TI TO qs .none i) (hne:qs≠[])
  (hv:vals.length=qs.length) (hq:∀(k:Nat) q x,qs[k]? =some q->vals[k]? =some x->∃items,q.Sq s.heap items/\items[i]? =some x) (hsz:qs.length<=sizeLine)
  (hQ:∀h',gH h' z TI TO qs (rawInt s.heap.objs.size) (i+1)->h'.get? s.heap.objs.size=some {cls:= .type "tuple",data:= .seq vals.toArray}->h'.objs.size=s.heap.objs.size+1->
   (∀c o,c≠z->c≠TO->(∀q∈qs,c≠q.it)->s.heap.get? c=some o->h'.get? c=some o)->Q (.ref s.heap.objs.size) {s with heap:=h'}):
  wpAny (model prog w) A (Builtin.«zip.__next__» ⟨[.ref z],[]⟩) (λfin s' => ∃v,fin= .done (.ret v)/\Q v s') E s:=by
 obtain ⟨nI,hTI⟩:=Z.aL;obtain ⟨xs0,n0,hx0,hTO⟩:=Z.own;refine aCm (m:=field (.ref z) 2) (aDu Z.obj rfl (x:= .bool false) rfl ?_);refine aCm (m:=field (.ref z) 3) (aDu Z.obj rfl (x:= .ref TI) rfl ?_);refine aCm (m:=seqItems? (.ref TI)) (aDs hTI rfl ?_)
 have hemp:(qs.map λq=> Value.ref q.it).toArray.isEmpty=false:=by cases qs with | nil=> exact absurd rfl hne | cons a r=> rfl
 simp only [hemp];refine aCm (m:=Builtin.SmallTypes.ownedTupleIsFree (.ref z)) ?_;refine aCm (m:=field (.ref z) 0) (aDu Z.obj rfl (x:= .none) rfl (aCo ?_));simp only [if_true];refine aCm (aE2 ?_);refine aCm (aDu Z.obj rfl (x:= .ref TO) rfl ?_);refine aCm (aDk Z.obj (by simp) λh1 z1 sb1=> ?_);refine aCm ?_;refine wpAny_forIn_list _ (λrest b s' => b.1=none/\∃j h',s' ={s with heap:=h'}/\rest=((qs.map λq=> Value.ref q.it).zipIdx).drop j/\j<=qs.length/\HQ s.heap h' z TI TO qs vals i j) _ ?turn ?fin _ _ ?start
 case start=>
  refine ⟨rfl,0,h1,rfl,by simp,aEd _,?_⟩;refine ⟨z1,⟨xs0,n0,hx0,by simp,sb1.extBut _ _ D.ne2 hTO⟩,by simp,λq hq=> ?_,sb1.1,λc o c1 _ _ e=> sb1.extBut _ _ c1 e⟩;have hq' :q∈qs:=by simpa using hq
  exact (Z.at_ q hq').to λo e=> sb1.extBut _ _ (D.E7 q hq').1 e
 case turn=>
  rintro x rest b s5 ⟨hb,j,h',rfl,hd,hj,DR⟩
  have hjl:j < qs.length:=by
   refine aGn λhle=> ?_;rw [List.drop_eq_nil_of_le (by simpa using hle)] at hd;cases hd
  have hd' :=hd;rw [List.drop_eq_getElem_cons (by simpa using hjl)] at hd';injection hd' with ex er;have exx:x=(Value.ref qs[j].it,j):=by rw [ex];simp
  have hqj:qs[j]? =some qs[j]:=aCy hjl;have hvj:vals[j]? =some vals[j]:=aCy (by omega);generalize hqq:qs[j]=q at hqj exx;generalize hvv:vals[j]'(by omega)=v at hvj;subst exx;have hqm:q∈qs:=aCz hqj;obtain ⟨items,hSq,hit⟩:=hq j q v hqj hvj;obtain ⟨l1,l2,l3⟩:=D.src q hqm;have hSq' :q.Sq h' items:=hSq.to λo e=> DR.keep _ o l1 l2 l3 e;have hAt:q.At h' i:=DR.todo q (by rw [List.drop_eq_getElem_cons hjl,hqq];exact aCq);refine aCm (wpAny_onRaise ?_);show wpAny _ _ (Builtin.SmallTypes.nextOf (.ref q.it) >>=_) _ _ _;refine aCm (Src.item (s:={s with heap:=h'}) hAt hSq' hit λh2 at2 sb2=> aCo ?_);obtain ⟨xs,n,hxl,hxt,hO⟩:=DR.own;have hqz:=D.E7 q hqm;have hO2:h2.get? TO=some {cls:= .type "tuple",data:= .seq xs.toArray n}:=sb2.extBut _ _ (aDw hqz.2.2) hO;refine aCm (m:=seqItems? (.ref TO)) (aDs hO2 rfl ?_);refine aCm (aE5 hO2 rfl ?_);refine aCm (wpAny_letGo (aCo ?_))
  have apart:∀(k:Nat) p,qs[k]? =some p->k≠j->p.it≠q.it:=λk p hk hne e=> by
   have h1:(qs.map (·.it))[k]? =some q.it:=by rw [List.getElem?_map,hk];simp [e]
   have h2:(qs.map (·.it))[j]? =some q.it:=by rw [List.getElem?_map,hqj];rfl
   obtain ⟨a1,b1⟩:=aCn.mp h1;obtain ⟨a2,b2⟩:=aCn.mp h2;refine hne ?_;have pw:=aDo.mp D.nd;rcases aGj k j with hlt | heq | hlt
   ·exact absurd (b1.trans b2.symm) (pw k j a1 a2 hlt)
   ·exact heq
   ·exact absurd (b2.trans b1.symm) (pw j k a2 a1 hlt)
  have up:∀c o,c≠TO->c≠q.it->h'.get? c=some o->(h2.update TO (Obj.mapSeq λx=> x.setIfInBounds j v)).get? c=some o:=λc o c1 c2 e=> (aDz ..).extBut _ _ c1 (sb2.extBut _ _ c2 e);refine ⟨rfl,j+1,_,rfl,er,hjl,⟨up _ _ (aDw D.ne2) (aDw hqz.1) DR.obj,⟨xs.set j v,n,by simpa using hxl,?_,?_⟩,λp hp=> ?_,λp hp=> ?_,?_,λc o c1 c2 c3 e=> up c o c2 (c3 q hqm) (DR.keep c o c1 c2 c3 e)⟩⟩
  ·have hvj' :vals[j]? =some v:=hvj;have hjx:j < xs.length:=by omega
   rw [List.take_add_one,List.take_add_one,hvj',List.getElem?_set_self hjx,List.take_set_of_le (Nat.le_refl j),hxt]
  ·rw [Heap.get?_update_self _ hO2 (by rfl)];simp [Obj.mapSeq]
  ·rw [List.take_add_one,hqj] at hp;rcases aCt.mp hp with z | z
   ·obtain ⟨k,hk⟩:=aEi z
    have hkj:k < j:=by
     have:=(aCn.mp hk).1;rw [List.length_take] at this;omega
    rw [List.getElem?_take_of_lt hkj] at hk;exact (DR.done p z).to λo e=> up _ o (D.E7 p (aCz hk)).2.2 (apart k p hk (by omega)) e
   ·have:p=q:=by simpa using z
    subst this;exact at2.to λo e=> (aDz ..).extBut _ _ hqz.2.2 e
  ·obtain ⟨k,hk⟩:=aEi hp;rw [List.getElem?_drop] at hk;have hp' :p∈qs.drop j:=by rw [List.drop_eq_getElem_cons hjl];exact aCr _ hp
   exact (DR.todo p hp').to λo e=> up _ o (D.E7 p (aCz hk)).2.2 (apart _ p hk (by omega)) e
  ·rw [Heap.size_update,sb2.1];exact DR.size
 case fin=>
  rintro ⟨b1,b2⟩ s5 ⟨hb,j,h',rfl,hd,hj,DR⟩
  have hje:j=qs.length:=by
   have:=aE0 List.length hd;simp at this;omega
  subst hje;have hb' :b1=none:=hb;subst hb';obtain ⟨xs,n,hxl,hxt,hO⟩:=DR.own
  have hxv:xs=vals:=by
   rw [List.take_of_length_le (by omega),List.take_of_length_le (by omega)] at hxt;exact hxt
  subst hxv;refine aCm (m:=seqItems? (.ref TO)) (aDs hO rfl ?_);refine aCm (aF8 ?_ (by simpa using aDf (Nat.le_of_eq hxl) hsz));refine aCm (m:=Builtin.SmallTypes.ownedTupleHandOut (.ref z) (.ref h'.objs.size)) ?_;have z5:(h'.push {cls:= .type "tuple",data:= .seq xs.toArray}).get? z=some {cls:= .type "zip",dict:=none,data:= .fields #[.ellipsis,.bool false,.bool false,.ref TI,.ref TO],slots:= #[]}:=aCp _ DR.obj;refine aCm (aDk z5 (by simp) λh7 z7 sb7=> ?_);refine aDk z7 (by simp) λh8 z8 sb8=> aCo ⟨_,rfl,?_⟩;have zlt:z < h'.objs.size:=aCx DR.obj;have up:∀c o,c≠z->(h'.push {cls:= .type "tuple",data:= .seq xs.toArray}).get? c=some o->h8.get? c=some o:=λc o c1 e=> sb8.extBut _ _ c1 (sb7.extBut _ _ c1 e);have upp:∀c o,c≠z->h'.get? c=some o->h8.get? c=some o:=λc o c1 e=> up c o c1 (aCp _ e);show Q (.ref h'.objs.size) _;have hs:=DR.size;rw [hs];refine hQ h8 ⟨?_,⟨nI,?_⟩,⟨xs,n,hxl,upp _ _ D.ne2 hO⟩,λq hq=> ?_⟩ ?_ ?_ λc o c1 c2 c3 e=> upp c o c1 (DR.keep c o c1 c2 c3 e)
  ·rw [z8,hs];rfl
  ·exact upp _ _ D.ne1 (DR.keep _ _ D.ne1 D.ne3 (λq hq=> aDw (D.E7 q hq).2.1) hTI)
  ·exact (DR.done q (by rw [List.take_length];exact hq)).to λo e=> upp _ o (D.E7 q hq).1 e
  ·rw [<-hs];exact up _ _ (aFb zlt) (aCu _ rfl)
  ·rw [sb8.1,sb7.1,Heap.size_push,hs]
end
section
variable {prog:Program} {w:World} {A:Around} {E:Value->Shared->Prop} {s:Shared}
theorem OC {z TI TO:Addr} {qs:List Src} {i k:Nat} {Q:PySem.Fin->Shared->Prop} (hh:A.handled=none) (D:d8 z TI TO qs) (Z:gH s.heap z TI TO qs .none i)
  (hq:∀(j:Nat) q,qs[j]? =some q->j < k->∃items x,q.Sq s.heap items/\items[i]? =some x) (hk:∃q items,qs[k]? =some q/\q.Sq s.heap items/\items[i]? =none) (hsz:qs.length<=sizeLine)
  (hE:∀h' e,(∀c o,c≠z->c≠TO->(∀q∈qs,c≠q.it)->s.heap.get? c=some o->h'.get? c=some o)->(∃o,h'.get? e=some o/\o.cls= .type "StopIteration")->E (.ref e) {s with heap:=h'}):
  wpAny (model prog w) A (Builtin.«zip.__next__» ⟨[.ref z],[]⟩) Q E s:=by
 obtain ⟨nI,hTI⟩:=Z.aL;obtain ⟨xs0,n0,hx0,hTO⟩:=Z.own;obtain ⟨qk,itemsk,hqk,hSk,hik⟩:=hk;have hkl:k < qs.length:=(aCn.mp hqk).1;refine aCm (m:=field (.ref z) 2) (aDu Z.obj rfl (x:= .bool false) rfl ?_);refine aCm (m:=field (.ref z) 3) (aDu Z.obj rfl (x:= .ref TI) rfl ?_);refine aCm (m:=seqItems? (.ref TI)) (aDs hTI rfl ?_)
 have hemp:(qs.map λq=> Value.ref q.it).toArray.isEmpty=false:=by cases qs with | nil=> simp at hkl | cons a r=> rfl
 simp only [hemp];refine aCm (m:=Builtin.SmallTypes.ownedTupleIsFree (.ref z)) ?_;refine aCm (m:=field (.ref z) 0) (aDu Z.obj rfl (x:= .none) rfl (aCo ?_));simp only [if_true];refine aCm (aE2 ?_);refine aCm (aDu Z.obj rfl (x:= .ref TO) rfl ?_);refine aCm (aDk Z.obj (by simp) λh1 z1 sb1=> ?_);refine aCm ?_;refine wpAny_forIn_list _ (λrest b s' => ∃j h' vals,s' ={s with heap:=h'}/\rest=((qs.map λq=> Value.ref q.it).zipIdx).drop j/\j<=k/\HQ s.heap h' z TI TO qs vals i j) _ ?turn ?fin _ _ ?start
 case start=>
  refine ⟨0,h1,xs0,rfl,by simp,aEd _,?_⟩;refine ⟨z1,⟨xs0,n0,hx0,by simp,sb1.extBut _ _ D.ne2 hTO⟩,by simp,λq hq=> ?_,sb1.1,λc o c1 _ _ e=> sb1.extBut _ _ c1 e⟩;have hq' :q∈qs:=by simpa using hq
  exact (Z.at_ q hq').to λo e=> sb1.extBut _ _ (D.E7 q hq').1 e
 case fin=>
  rintro b s5 ⟨j,h',vals,rfl,hd,hj,DR⟩;have:=aE0 List.length hd;simp at this;omega
 case turn=>
  rintro x rest b s5 ⟨j,h',vals,rfl,hd,hj,DR⟩;have hjl:j < qs.length:=by omega
  have hd' :=hd;rw [List.drop_eq_getElem_cons (by simpa using hjl)] at hd';injection hd' with ex er;have exx:x=(Value.ref qs[j].it,j):=by rw [ex];simp
  have hqj:qs[j]? =some qs[j]:=aCy hjl;generalize hqq:qs[j]=q at hqj exx;subst exx;have hqm:q∈qs:=aCz hqj;have hqz:=D.E7 q hqm;obtain ⟨l1,l2,l3⟩:=D.src q hqm;have hAt:q.At h' i:=DR.todo q (by rw [List.drop_eq_getElem_cons hjl,hqq];exact aCq);refine aCm (wpAny_onRaise ?_);show wpAny _ _ (Builtin.SmallTypes.nextOf (.ref q.it) >>=_) _ _ _;by_cases hjk:j=k
  ·subst hjk;obtain rfl:qk=q:=(aD4 (hqj.symm.trans hqk)).symm;have hSq' :=hSk.to (h' :=h') λo e=> DR.keep _ o l1 l2 l3 e;refine aCm (Src.done (s:={s with heap:=h'}) hh hAt hSq' hik λh2 e sb2 he=> ?_);obtain ⟨oe,hoe,hce⟩:=he;have z2:h2.get? z=some {cls:= .type "zip",dict:=none,data:= .fields #[.ellipsis,.bool false,.bool false,.ref TI,.ref TO],slots:= #[]}:=sb2 _ _ (aDw hqz.1) DR.obj;have hez:e≠z:=λx=> by subst x;rw [z2] at hoe;cases hoe;simp at hce
   refine aDk z2 (by simp) λh3 _ sb3=> hE h3 e (λc o c1 c2 c3 q' => sb3.extBut _ _ c1 (sb2 _ _ (c3 _ hqm) (DR.keep c o c1 c2 c3 q'))) ⟨oe,sb3.extBut _ _ hez hoe,hce⟩
  ·obtain ⟨items,v,hSq,hit⟩:=hq j q hqj (by omega);have hSq' :q.Sq h' items:=hSq.to λo e=> DR.keep _ o l1 l2 l3 e;refine aCm (Src.item (s:={s with heap:=h'}) hAt hSq' hit λh2 at2 sb2=> aCo ?_);obtain ⟨xs,n,hxl,hxt,hO⟩:=DR.own;have hO2:h2.get? TO=some {cls:= .type "tuple",data:= .seq xs.toArray n}:=sb2.extBut _ _ (aDw hqz.2.2) hO;refine aCm (m:=seqItems? (.ref TO)) (aDs hO2 rfl ?_);refine aCm (aE5 hO2 rfl ?_);refine aCm (wpAny_letGo (aCo ?_))
   have apart:∀(k:Nat) p,qs[k]? =some p->k≠j->p.it≠q.it:=λk p hk hne e=> by
    have h1:(qs.map (·.it))[k]? =some q.it:=by rw [List.getElem?_map,hk];simp [e]
    have h2:(qs.map (·.it))[j]? =some q.it:=by rw [List.getElem?_map,hqj];rfl
    obtain ⟨a1,b1⟩:=aCn.mp h1;obtain ⟨a2,b2⟩:=aCn.mp h2;refine hne ?_;have pw:=aDo.mp D.nd;rcases aGj k j with hlt | heq | hlt
    ·exact absurd (b1.trans b2.symm) (pw k j a1 a2 hlt)
    ·exact heq
    ·exact absurd (b2.trans b1.symm) (pw j k a2 a1 hlt)
   have up:∀c o,c≠TO->c≠q.it->h'.get? c=some o->(h2.update TO (Obj.mapSeq λx=> x.setIfInBounds j v)).get? c=some o:=λc o c1 c2 e=> (aDz ..).extBut _ _ c1 (sb2.extBut _ _ c2 e);refine ⟨j+1,_,xs.set j v,rfl,er,by omega,⟨up _ _ (aDw D.ne2) (aDw hqz.1) DR.obj,⟨xs.set j v,n,by simpa using hxl,rfl,?_⟩,λp hp=> ?_,λp hp=> ?_,?_,λc o c1 c2 c3 e=> up c o c2 (c3 q hqm) (DR.keep c o c1 c2 c3 e)⟩⟩
   ·rw [Heap.get?_update_self _ hO2 (by rfl)];simp [Obj.mapSeq]
   ·rw [List.take_add_one,hqj] at hp;rcases aCt.mp hp with z | z
    ·obtain ⟨k,hk⟩:=aEi z
     have hkj:k < j:=by
      have:=(aCn.mp hk).1;rw [List.length_take] at this;omega
     rw [List.getElem?_take_of_lt hkj] at hk;exact (DR.done p z).to λo e=> up _ o (D.E7 p (aCz hk)).2.2 (apart k p hk (by omega)) e
    ·have:p=q:=by simpa using z
     subst this;exact at2.to λo e=> (aDz ..).extBut _ _ hqz.2.2 e
   ·obtain ⟨k,hk⟩:=aEi hp;rw [List.getElem?_drop] at hk;have hp' :p∈qs.drop j:=by rw [List.drop_eq_getElem_cons hjl];exact aCr _ hp
    exact (DR.todo p hp').to λo e=> up _ o (D.E7 p (aCz hk)).2.2 (apart _ p hk (by omega)) e
   ·rw [Heap.size_update,sb2.1];exact DR.size
theorem n8 {z TI TO:Addr} {qs:List Src} {i:Nat} {vals:List Value} {Q:Option Value->Shared->Prop} (D:d8 z TI TO qs) (Z:gH s.heap z TI TO qs .none i) (hne:qs≠[])
  (hv:vals.length=qs.length) (hq:∀(k:Nat) q x,qs[k]? =some q->vals[k]? =some x->∃items,q.Sq s.heap items/\items[i]? =some x) (hsz:qs.length<=sizeLine)
  (hQ:∀h',gH h' z TI TO qs (rawInt s.heap.objs.size) (i+1)->h'.get? s.heap.objs.size=some {cls:= .type "tuple",data:= .seq vals.toArray}->h'.objs.size=s.heap.objs.size+1->
   (∀c o,c≠z->c≠TO->(∀q∈qs,c≠q.it)->s.heap.get? c=some o->h'.get? c=some o)->Q (some (.ref s.heap.objs.size)) {s with heap:=h'}):
  wpAny (model prog w) A (pyNext (.ref z)) Q E s:=by
 have hT:s.TypeIs (.ref z) "zip":=⟨_,Z.obj,rfl⟩
 unfold pyNext
 exact aCm (aEb (aDa (name:=Str.ofString "__next__") hT aE6 (aD5 aE6 hT aG0
  (J1 D Z hne hv hq hsz λh' a1 a2 a3 a4=> aCo (hQ h' a1 a2 a3 a4)) (aFu _))))
theorem qA {z TI TO:Addr} {qs:List Src} {i k:Nat} {Q:Option Value->Shared->Prop} (hh:A.handled=none) (D:d8 z TI TO qs) (Z:gH s.heap z TI TO qs .none i)
  (hq:∀(j:Nat) q,qs[j]? =some q->j < k->∃items x,q.Sq s.heap items/\items[i]? =some x) (hk:∃q items,qs[k]? =some q/\q.Sq s.heap items/\items[i]? =none) (hsz:qs.length<=sizeLine)
  (hQ:∀h',(∀c o,c≠z->c≠TO->(∀q∈qs,c≠q.it)->s.heap.get? c=some o->h'.get? c=some o)->Q none {s with heap:=h'}):wpAny (model prog w) A (pyNext (.ref z)) Q E s:=by
 have hT:s.TypeIs (.ref z) "zip":=⟨_,Z.obj,rfl⟩
 unfold pyNext
 refine aCm (aEb (aDa (name:=Str.ofString "__next__") hT aE6 (aD5 aE6 hT aG0
  (OC hh D Z hq hk hsz λh' e kp he=> ?_) (aFu _))))
 obtain ⟨o,ho,hc⟩:=he;refine aCm (aFd (T:= "StopIteration") (b:=true) ⟨o,ho,hc⟩ isSubtype_stop ?_);exact aCo (hQ _ kp)
theorem VR {elts:List Expr} {x1} {pos:Pos} {z TI TO T:Addr} {qs:List Src} {i:Nat} {Q:Unit->Shared->Prop} (D:d8 z TI TO qs) (Z:gH s.heap z TI TO qs (rawInt T) i)
  (hQ:∀h',gH h' z TI TO qs .none i->Heap.SameBut z s.heap h' ->Q () {s with heap:=h'}):wpAny (model prog w) A (letOwnedTupleGo (.Tuple elts x1 pos) (.ref z) (.ref T)) Q E s:=by
 unfold letOwnedTupleGo;refine aCm (aGc Z.obj ?_);show wpAny _ _ (if (["enumerate","zip","dict_itemiterator","dict_reverseitemiterator","odict_iterator","itertools.zip_longest","itertools.pairwise"].contains "zip" && (#[rawInt T,.bool false,.bool false,.ref TI,.ref TO]:Array Value)[0]? ==some (rawInt T))=true then _ else _) Q E s;rw [if_pos (by simp)];refine aCm (aE2 ?_);show wpAny _ _ (setField (.ref z) 0 .none) Q E s;refine aDk Z.obj (by simp) λh' hz' sb=> hQ h' ⟨hz',?_,?_,λq hq=> (Z.at_ q hq).to λo e=> sb.extBut _ _ (D.E7 q hq).1 e⟩ sb
 ·obtain ⟨n,e⟩:=Z.aL;exact ⟨n,sb.extBut _ _ D.ne1 e⟩
 ·obtain ⟨xs,n,l,e⟩:=Z.own;exact ⟨xs,n,l,sb.extBut _ _ D.ne2 e⟩
theorem CP {z TI TO:Addr} {qs:List Src} {f0:Value} {i:Nat} {Q:Value->Shared->Prop} (Z:gH s.heap z TI TO qs f0 i) (h:Q (.ref z) s):wpAny (model prog w) A (pyIter (.ref z)) Q E s:=by
 have hT:s.TypeIs (.ref z) "zip":=⟨_,Z.obj,rfl⟩
 refine aF6 hT aG5 (aD5 aG5 hT F.entry_zip_iter ?_ (F.args_zip_iter_1 _));exact aCo ⟨_,rfl,"zip",_,hT,aE6.lookup,h⟩
end
section
variable {prog:Program} {w:World} {A:Around} {E:Value->Shared->Prop} {s:Shared}
def b6:Nat->List Src->List Src
 | _,[]=> []
 | n,q::r=> ⟨n,q.l,q.tup⟩::b6 (n+1) r
theorem f7:∀(n:Nat) (qs:List Src),(b6 n qs).length=qs.length
 | _,[]=> rfl
 | n,_::r=> by simp [b6,f7 (n+1) r]
theorem eQ:∀{n:Nat} {qs:List Src} {p:Src},p∈b6 n qs->n<=p.it/\p.it < n+qs.length/\∃q∈qs,p.l=q.l/\p.tup=q.tup
 | n,q::r,p,h=> by
  rcases aCv.mp h with rfl | h
  ·exact ⟨aCs _,by simp,q,aCq,rfl,rfl⟩
  ·obtain ⟨h1,h2,q',h3,h4⟩:=eQ h;exact ⟨Nat.le_of_succ_le h1,Nat.lt_of_lt_of_eq h2 (by simp only [List.length_cons];omega),q',aCr _ h3,h4⟩
theorem qG:∀(n:Nat) (qs:List Src),((b6 n qs).map (·.it)).Nodup
 | _,[]=> by simp [b6]
 | n,q::r=> by
  simp only [b6,List.map_cons,List.nodup_cons];refine ⟨λh=> ?_,qG (n+1) r⟩;obtain ⟨p,hp,e⟩:=aD1.mp h;have h1:=(eQ hp).1;have e' :p.it=n:=e;exact absurd h1 (by rw [e'];exact Nat.not_succ_le_self n)
theorem sG {Q:Array Value->Shared->Prop}:∀(qs:List Src) (acc:Array Value) (s:Shared),(∀q∈qs,∃items,q.Sq s.heap items)->
  (∀h',h'.objs.size=s.heap.objs.size+qs.length->(∀b o,s.heap.get? b=some o->h'.get? b=some o)->(∀p∈b6 s.heap.objs.size qs,p.At h' 0)->Q (acc++((b6 s.heap.objs.size qs).map λp=> Value.ref p.it).toArray) {s with heap:=h'})->
  wpAny (model prog w) A (forIn (qs.map λq=> Value.ref q.l) acc λx aL=> do let r<-holding aL.toList (pyIter x);pure (ForInStep.yield (aL.push r))) Q E s
 | [],acc,s,_,hQ=> by
  have:=hQ s.heap (by simp) (λ_ _ e=> e) (by simp [b6]);simp only [List.map_nil,List.forIn_nil];refine aCo ?_;simpa [b6] using this
 | q::r,acc,s,hs,hQ=> by
  obtain ⟨items,hq⟩:=hs q aCq;simp only [List.map_cons,List.forIn_cons];refine aCm (aCm (aDm (Src.start hq λh' at' sz kp=> aCo ?_)));refine sG r (acc.push (.ref s.heap.objs.size)) {s with heap:=h'} (λq' hq' => ?_) λh2 sz2 kp2 at2=> ?_
  ·obtain ⟨it',h1⟩:=hs q' (aCr _ hq');exact ⟨it',h1.to λo e=> kp _ o e⟩
  ·have e1:h2.objs.size=s.heap.objs.size+(q::r).length:=by
    have:h2.objs.size=h'.objs.size+r.length:=sz2;rw [this,sz,List.length_cons];omega
   have sz' :h'.objs.size=s.heap.objs.size+1:=sz;have at2' :∀p∈b6 (s.heap.objs.size+1) r,p.At h2 0:=by rw [<-sz'];exact at2
   have:=hQ h2 e1 (λb o e=> kp2 b o (kp b o e)) (λp hp=> by
    rcases aCv.mp hp with rfl | hp
    ·exact at'.to λo e=> kp2 _ o e
    ·exact at2' p hp)
   have ee:(acc.push (.ref s.heap.objs.size)++((b6 h'.objs.size r).map λp=> Value.ref p.it).toArray)=(acc++((b6 s.heap.objs.size (q::r)).map λp=> Value.ref p.it).toArray):=by
    rw [sz'];simp [b6]
   show Q (acc.push (.ref s.heap.objs.size)++((b6 h'.objs.size r).map λp=> Value.ref p.it).toArray) _;rw [ee];exact this
theorem Q0:(5:Nat)<=sizeLine+2:=Nat.add_le_add_right (by decide:3<=sizeLine) 2
theorem EW (qs:List Src) (hsz:qs.length<=sizeLine):Meets (Builtin.«zip.__new__» ⟨.type "zip"::(qs.map λq=> Value.ref q.l),[]⟩) (λ_ R s=> (∀q∈qs,∃items,q.Sq s.heap items)/\
   ∀h' z TI TO,s.heap.objs.size+qs.length<=TI->TI≠TO->TI≠z->TO≠z->s.heap.objs.size+qs.length<=TO->s.heap.objs.size+qs.length<=z->gH h' z TI TO (b6 s.heap.objs.size qs) .none 0->(∀b o,s.heap.get? b=some o->h'.get? b=some o)->R (.ok (.ret (.ref z))) {s with heap:=h'}):=
 .of_wp λprog w A R s h=> by
  obtain ⟨hs,hR⟩:=h;unfold Builtin.«zip.__new__»;have hsub:=sub_zip;refine aCm (m:=Builtin.SmallTypes.newClass "zip" _) ?_;unfold Builtin.SmallTypes.newClass
  wp_walk
  refine sG qs #[] s hs λh' sz kp at' => ?_;have el:(b6 s.heap.objs.size qs).length=qs.length:=f7 _ _;have ea:((#[]:Array Value)++((b6 s.heap.objs.size qs).map λp=> Value.ref p.it).toArray).toList=(b6 s.heap.objs.size qs).map λp=> Value.ref p.it:=by simp
  refine aCo ?_;simp only [ea];refine aCm (aF8 ?_ (by simp [el];exact hsz));refine aCm (aF8 ?_ (by simp [el];exact hsz));unfold Builtin.SmallTypes.newRecord;dsimp only;refine aCm (aDc ?_ Q0);refine aCo ⟨_,rfl,?_⟩;generalize hls:b6 s.heap.objs.size qs=ls at el at' hR⊢;have z1:(h'.push {cls:= .type "tuple",data:= .seq ((ls.map λp=> Value.ref p.it).toArray)}).objs.size=h'.objs.size+1:=aGg ..;have g1:(h'.push {cls:= .type "tuple",data:= .seq ((ls.map λp=> Value.ref p.it).toArray)}).get? h'.objs.size=some _:=aCu _ rfl;have k1:∀b o,h'.get? b=some o->(h'.push {cls:= .type "tuple",data:= .seq ((ls.map λp=> Value.ref p.it).toArray)}).get? b=some o:=λb o e=> aCp _ e;generalize hh1:h'.push {cls:= .type "tuple",data:= .seq ((ls.map λp=> Value.ref p.it).toArray)}=h1 at z1 g1 k1⊢;have z2:(h1.push {cls:= .type "tuple",data:= .seq ((List.map (λx=> Value.none) (ls.map λp=> Value.ref p.it)).toArray)}).objs.size=h1.objs.size+1:=aGg ..;have g2:(h1.push {cls:= .type "tuple",data:= .seq ((List.map (λx=> Value.none) (ls.map λp=> Value.ref p.it)).toArray)}).get? h1.objs.size=some _:=aCu _ rfl;have k2:∀b o,h1.get? b=some o->(h1.push {cls:= .type "tuple",data:= .seq ((List.map (λx=> Value.none) (ls.map λp=> Value.ref p.it)).toArray)}).get? b=some o:=λb o e=> aCp _ e;generalize hh2:h1.push {cls:= .type "tuple",data:= .seq ((List.map (λx=> Value.none) (ls.map λp=> Value.ref p.it)).toArray)}=h2 at z2 g2 k2⊢;refine hR _ h2.objs.size h'.objs.size h1.objs.size (by omega) (by omega) (by omega) (by omega) (by omega) (by omega) ⟨?_,⟨0,?_⟩,⟨List.map (λx=> Value.none) (ls.map λp=> Value.ref p.it),0,by simp [hls],?_⟩,λq hq=> ?_⟩ λb o e=> aCp _ (k2 _ _ (k1 _ _ (kp b o e)))
  ·exact aCu _ rfl
  ·exact aCp _ (k2 _ _ g1)
  ·exact aCp _ g2
  ·exact (at' q hq).to λo e=> aCp _ (k2 _ _ (k1 _ _ e))
theorem yE {qs:List Src} {Q:Value->Shared->Prop} (hsz:qs.length<=sizeLine) (hT:checkTypeCall "zip" ⟨qs.map λq=> Value.ref q.l,[]⟩=pure ()) (hN:checkBuiltinCall "zip.__new__" ⟨.type "zip"::qs.map λq=> Value.ref q.l,[]⟩=pure ())
  (hI:∀obj,argsOk "object.__init__" ⟨obj::qs.map λq=> Value.ref q.l,[]⟩) (hs:∀q∈qs,∃items,q.Sq s.heap items)
  (h:∀h' z TI TO,s.heap.objs.size<=TI->s.heap.objs.size<=TO->s.heap.objs.size<=z->d8 z TI TO (b6 s.heap.objs.size qs)->gH h' z TI TO (b6 s.heap.objs.size qs) .none 0->(∀b o,s.heap.get? b=some o->h'.get? b=some o)->Q (.ref z) {s with heap:=h'}):
  wpAny (model prog w) A (call (.type "zip") (qs.map λq=> Value.ref q.l)) Q E s:=by
 refine callType_new F.called_zip (by decide) hT hN hI F.entry_zip_new (EW qs hsz) ⟨hs,λh' z TI TO t1 t2 t3 t4 t5 t6 Z kp=> ?_⟩;refine ⟨⟨_,Z.obj,rfl⟩,h h' z TI TO (by omega) (by omega) (by omega) ⟨t3,t4,t2,λq hq=> ?_,qG _ _,λq hq=> ?_⟩ Z kp⟩
 ·obtain ⟨h1,h2,_⟩:=eQ hq;exact ⟨aD6 (aD7 h2 t6),aD6 (aD7 h2 t1),aD6 (aD7 h2 t5)⟩
 ·obtain ⟨h1,h2,q',hq',e1,_⟩:=eQ hq;obtain ⟨items,hs'⟩:=hs q' hq';obtain ⟨o,n,ho,_⟩:=hs'.obj;have hlt:q.l < s.heap.objs.size:=by rw [e1];exact aCx ho
  exact ⟨aD6 (aD7 hlt (aDf (Nat.le_add_right _ _) t6)),aD6 (aD7 hlt (aDf (Nat.le_add_right _ _) t5)),λr hr=> aD6 (aD7 hlt (eQ hr).1)⟩
end
def HL (K:aGp) (H:Hp) (t:Bool) (a:Addr) (xs:List V):Prop:=match t with | true=> pC K H a xs | false=> pD K H a xs
def Itz (K:aGp) (src:List (Addr×Bool)):It where
 go:=λi H=> ∃vs:List V,vs.length=src.length/\∀(k:Nat) a t v,src[k]? =some (a,t)->vs[k]? =some v->∃xs,HL K H t a xs/\xs[i]? =some v
 WX:=λi H x H' => ∃p vs,H p=none/\x= .ref p/\H' =upd H p (.tup vs)/\vs.length=src.length/\∀(k:Nat) a t v,src[k]? =some (a,t)->vs[k]? =some v->∀xs,HL K H t a xs->xs[i]? =some v
 stop:=λi H=> ∃(k:Nat) (a:Addr) (t:Bool) (xs:List V),src[k]? =some (a,t)/\HL K H t a xs/\xs.length<=i/\∀(j:Nat) b u,j < k->src[j]? =some (b,u)->∃ys,HL K H u b ys/\i < ys.length
section
variable {X:Cx} {pins:List (Addr×Obj)} {σ:St} {H:Hp} {s:Shared}
theorem Inv.WL {t:Bool} {a:Addr} {xs:List V} (I:Inv X pins σ H s) (h:HL X.K H t a xs):∃aL:List Value,Vals xs aL/\∀it,(⟨it,a,t⟩:Src).Sq s.heap aL.toArray:=by
 cases t with
 | true=> obtain ⟨aL,r,p,_⟩:=I.tuple h;exact ⟨aL,r,λ_=> p⟩
 | false=> obtain ⟨aL,r,p,_⟩:=I.list h;exact ⟨aL,r,λ_=> p.isList⟩
theorem Inv.OT {t:Bool} {a:Addr} {xs ys:List V} (I:Inv X pins σ H s) (h:HL X.K H t a xs) (h' :HL X.K H t a ys):xs=ys:=by
 cases t with
 | true=> exact I.wZ h h'
 | false=> exact I.CF h h'
theorem Inv.Y8 {fp:List Addr} {h' :Heap} {t' :Nat} {p:Addr} {o:HO} (I:Inv X pins σ H s) (hf:∀b∈fp,pE X pins H b) (k:∀b o,b∉fp->s.heap.get? b=some o->h'.get? b=some o)
  (hp:s.heap.objs.size<=p) (new:dM X.prog X.w (upd H p o) h' p o):Inv X pins σ (upd H p o) {s with heap:=h',toks:=t'}:=by
 have hn:H p=none:=I.cG.fresh hp;have ntr:∀b u,H b=some u->b∉fp:=λb u e z=> by rw [(hf b z).1] at e;cases e
 refine I.step (g' :=s.gens) (d' :=s.drawn) (ch:=fp) (λb hb=> ⟨(hf b hb).2.2.2.1,(hf b hb).2.1,(hf b hb).2.2.2.2.1,(hf b hb).2.2.2.2.2⟩) (λb o _ _ hc e _=> k b o hc e) (λb o _ _ hc e _=> ⟨o.slots,k b o hc e⟩)
  (λb o _ e n=> by rw [aV (Nat.ne_of_lt (Nat.lt_of_lt_of_le (Heap.lt_size e) hp))];exact n) (λb o hc e=> ⟨o,k b o hc e⟩) (λb xs e=> by rw [aV (bY e hn)];exact e) (λb o u e=> by rw [aV (bY e hn)];exact e)
  (λb ps e=> ⟨#[],by rw [aV (bY e hn),e];simp⟩) (λm hm=> ?_) (λb u e=> ?_) I.bare
 ·obtain ⟨o,es,ep,ho,r⟩:=hm;exact ⟨o,es,ep,k _ o (λz=> (hf _ z).2.1 rfl) ho,r⟩
 ·by_cases hb:b=p
  ·subst hb;rw [cE] at e;cases e;exact new
  ·rw [aV hb] at e;refine (I.cG b u e).sP (λc v hc q=> k c v ?_ q) (λc q=> by rw [aV (bY q hn)];exact q) λc xs q=> by rw [aV (bY q hn)];exact q
   rcases hc with rfl | hc
   ·exact ntr _ u e
   ·exact ntr _ _ hc
theorem Inv.VS {fp:List Addr} {h' :Heap} {t' :Nat} (I:Inv X pins σ H s) (hf:∀b∈fp,pE X pins H b) (k:∀b o,b∉fp->s.heap.get? b=some o->h'.get? b=some o):Inv X pins σ H {s with heap:=h',toks:=t'}:=by
 have ntr:∀b u,H b=some u->b∉fp:=λb u e z=> by rw [(hf b z).1] at e;cases e
 refine I.step (g' :=s.gens) (d' :=s.drawn) (ch:=fp) (λb hb=> ⟨(hf b hb).2.2.2.1,(hf b hb).2.1,(hf b hb).2.2.2.2.1,(hf b hb).2.2.2.2.2⟩) (λb o _ _ hc e _=> k b o hc e) (λb o _ _ hc e _=> ⟨o.slots,k b o hc e⟩)
  (λb o _ e n=> n) (λb o hc e=> ⟨o,k b o hc e⟩) (λb xs e=> e) (λb o u e=> e) (λb ps e=> ⟨#[],by rw [e];simp⟩) (λm hm=> ?_) (λb u e=> ?_) I.bare
 ·obtain ⟨o,es,ep,ho,r⟩:=hm;exact ⟨o,es,ep,k _ o (λz=> (hf _ z).2.1 rfl) ho,r⟩
 ·refine (I.cG b u e).sP (λc v hc q=> k c v ?_ q) (λ_ q=> q) λ_ _ q=> q;rcases hc with rfl | hc
  ·exact ntr _ u e
  ·exact ntr _ _ hc
end
theorem LD {P:Nat->Value->Prop}:∀{vs:List V},(∀(k:Nat) v,vs[k]? =some v->∃u,RelV v u/\P k u)->∃us,Vals vs us/\∀(k:Nat) u,us[k]? =some u->P k u
 | [],_=> ⟨[],.nil,λk u e=> by simp at e⟩
 | v::r,h=> by
  obtain ⟨u,ru,pu⟩:=h 0 v rfl;obtain ⟨us,rs,ps⟩:=LD (P:=λk u=> P (k+1) u) (vs:=r) λk v e=> h (k+1) v (by simpa using e);refine ⟨u::us,.cons ru rs,λk w e=> ?_⟩
  cases k with
  | zero=> simp at e;subst e;exact pu
  | succ k=> exact ps k w (by simpa using e)
theorem KL {P:Program} {w:World} {K:aGp} {elts:List Expr} {x1} {pos:Pos} {z TI TO:Addr} {qs:List Src} (D:d8 z TI TO qs) (hne:qs≠[]) (hsz:qs.length<=sizeLine):
  Turn P w K (.Tuple elts x1 pos) (Itz K (qs.map λq=> (q.l,q.tup))) (z::TI::TO::qs.map (·.it)) z (λi h=> gH h z TI TO qs .none i) where
 mem:=aCq
 obj:=λi h Z b hb=> by
  rcases aCv.mp hb with rfl | hb
  ·exact ⟨_,Z.obj,λv e=> by cases e⟩
  rcases aCv.mp hb with rfl | hb
  ·obtain ⟨n,e⟩:=Z.aL;exact ⟨_,e,λv e=> by cases e⟩
  rcases aCv.mp hb with rfl | hb
  ·obtain ⟨xs,n,_,e⟩:=Z.own;exact ⟨_,e,λv e=> by cases e⟩
  obtain ⟨q,hq,rfl⟩:=aD1.mp hb;obtain ⟨o,ho,hd⟩:=(Z.at_ q hq).obj;exact ⟨o,ho,λv e=> by rw [hd] at e;cases e⟩
 keep:=λi h h' Z k=> by
  refine ⟨k z (by simp) _ Z.obj,?_,?_,λq hq=> (Z.at_ q hq).to λo e=> k q.it (by simp;exact .inr (.inr (.inr ⟨q,hq,rfl⟩))) o e⟩
  ·obtain ⟨n,e⟩:=Z.aL;exact ⟨n,k TI (by simp) _ e⟩
  ·obtain ⟨xs,n,l,e⟩:=Z.own;exact ⟨xs,n,l,k TO (by simp) _ e⟩
 item:=by
  intro X hP hw hK hc i pins s σ H E I hf Z hg;subst hP hw hK;obtain ⟨vs,hl,hv⟩:=hg;have hlq:vs.length=qs.length:=by simpa using hl
  obtain ⟨us,ru,pu⟩:=LD (P:=λk u=> ∀q,qs[k]? =some q->∃items,q.Sq s.heap items/\items[i]? =some u) (vs:=vs) λk v e=> by
   have hk:k < qs.length:=by have:=(aCn.mp e).1;omega
   have hqk:qs[k]? =some qs[k]:=aCy hk;obtain ⟨xs,hx,hi⟩:=hv k qs[k].l qs[k].tup v (by rw [List.getElem?_map,hqk];rfl) e;obtain ⟨aL,rv,hs⟩:=I.WL hx;obtain ⟨u,hu,r⟩:=rv.get hi;refine ⟨u,r,λq hq=> ?_⟩;rw [hqk] at hq;cases hq;exact ⟨aL.toArray,hs qs[k].it,by simpa using hu⟩
  have hul:us.length=qs.length:=by rw [<-ru.length,hlq]
  refine n8 D Z hne hul (λk q x hq hx=> pu k x hx q hq) hsz λh1 Z1 t1 z1 k1=> ?_;refine ⟨_,rfl,VR (s:={s with heap:=h1}) D Z1 λh2 Z2 sb2=> ?_⟩;have hplt:s.heap.objs.size≠z:=aFb (aCx Z.obj)
  have kk:∀b o,b∉(z::TI::TO::qs.map (·.it))->s.heap.get? b=some o->h2.get? b=some o:=λb o hb e=> by
   have b1:b≠z:=λz=> hb (by simp [z]);have b2:b≠TO:=λz=> hb (by simp [z]);exact sb2.extBut _ _ b1 (k1 b o b1 b2 (λq hq z=> hb (by simp;exact .inr (.inr (.inr ⟨q,hq,z.symm⟩)))) e)
  refine ⟨.ref s.heap.objs.size,upd H s.heap.objs.size (.tup vs),I.Y8 (t' :=s.toks) hf kk (aCs _) ⟨by omega,us,ru,⟨_,sb2.extBut _ _ hplt t1,rfl,0,rfl⟩,λo e=> by rw [sb2.extBut _ _ hplt t1] at e;cases e;rfl⟩,rfl,?_,Z2,λb hb=> ?_⟩
  ·refine ⟨s.heap.objs.size,vs,I.cG.fresh (aCs _),rfl,rfl,hl,λk a t v hs hvk xs hx=> ?_⟩;obtain ⟨ys,hy,hi⟩:=hv k a t v hs hvk;rw [I.OT hx hy];exact hi
  ·have hb0:=(hf b hb).1
   have:b≠s.heap.objs.size:=by
    rintro rfl
    have ho:∃o,s.heap.get? s.heap.objs.size=some o:=by
     rcases aCv.mp hb with e | hb
     ·rw [e];exact ⟨_,Z.obj⟩
     rcases aCv.mp hb with e | hb
     ·rw [e];obtain ⟨n,e⟩:=Z.aL;exact ⟨_,e⟩
     rcases aCv.mp hb with e | hb
     ·rw [e];obtain ⟨xs,n,_,e⟩:=Z.own;exact ⟨_,e⟩
     obtain ⟨q,hq,e⟩:=aD1.mp hb;have e' :q.it=s.heap.objs.size:=e;rw [<-e'];obtain ⟨o,ho,_⟩:=(Z.at_ q hq).obj;exact ⟨o,ho⟩
    obtain ⟨o,ho⟩:=ho;exact absurd (aCx ho) (aEa _)
   rw [aV this];exact hb0
 done:=by
  intro X hP hw hK hc i pins s σ H E I hf Z hg;subst hP hw hK;obtain ⟨k,a,t,xs,hk,hx,hle,hlt⟩:=hg;rw [List.getElem?_map] at hk
  cases hqk:qs[k]? with
  | none=> rw [hqk] at hk;cases hk
  | some q=>
   rw [hqk] at hk;have hk' :(q.l,q.tup)=(a,t):=aD4 hk;injection hk' with e1 e2;subst e1 e2
   refine qA (k:=k) (I.ok.hd hc) D Z (λj q' hj hjk=> ?_) ⟨q,?_⟩ hsz λh' kp=> ⟨rfl,I.VS (t' :=s.toks) hf λb o hb e=> kp b o (λz=> hb (by simp [z])) (λz=> hb (by simp [z])) (λq hq z=> hb (by simp;exact .inr (.inr (.inr ⟨q,hq,z.symm⟩)))) e⟩
   ·obtain ⟨ys,hy,hl⟩:=hlt j q'.l q'.tup hjk (by rw [List.getElem?_map,hj];rfl);obtain ⟨aL,r,hs⟩:=I.WL hy;obtain ⟨u,hu,_⟩:=r.get (aCy hl);exact ⟨aL.toArray,u,hs q'.it,by simpa using hu⟩
   ·obtain ⟨aL,r,hs⟩:=I.WL hx;refine ⟨aL.toArray,hqk,hs q.it,?_⟩;have:=r.length;rw [List.getElem?_toArray];exact aEe.mpr (by omega)
 self:=λA i s Q E Z h=> CP Z h
structure JR (m:Nat):Prop where
 t:∀us:List Value,us.length=m->checkTypeCall "zip" ⟨us,[]⟩=pure ()
 n:∀us:List Value,us.length=m->checkBuiltinCall "zip.__new__" ⟨.type "zip"::us,[]⟩=pure ()
 i:∀(us:List Value) (o:Value),us.length=m->argsOk "object.__init__" ⟨o::us,[]⟩
theorem RJ:JR 2:=⟨λus h=> match us,h with | [a,b],_=> F.typeCall_zip_2 a b,λus h=> match us,h with | [a,b],_=> F.newCall_zip_2 a b,λus o h=> match us,h with | [a,b],_=> F.args_object_init_3 o a b⟩
theorem SJ (a b c:Value):checkTypeCall "zip" ⟨[a,b,c],[]⟩=pure ():=by kernel_rfl
theorem SK (a b c:Value):checkBuiltinCall "zip.__new__" ⟨[.type "zip",a,b,c],[]⟩=pure ():=by kernel_rfl
theorem SM (o a b c:Value):argsOk "object.__init__" ⟨[o,a,b,c],[]⟩:=by
 unfold argsOk;rw [signature?_of (id:= "object.__init__") (n:=['_','_','t','i','n','i','_','_']) (o:=['t','c','e','j','b','o']) (by kernel_rfl) F.owner_object];kernel_rfl
theorem WW:JR 3:=⟨λus h=> match us,h with | [a,b,c],_=> SJ a b c,λus h=> match us,h with | [a,b,c],_=> SK a b c,λus o h=> match us,h with | [a,b,c],_=> SM o a b c⟩
def aC4 (K:aGp) (n:Nat) (ta:TA):TI:=λσ H R=> ta σ H λvs H1=> ∃src:List (Addr×Bool),vs=src.map (λp=> V.ref p.1)/\src.length=n/\(∀p∈src,∃xs,HL K H1 p.2 p.1 xs)/\R (Itz K src) H1
theorem iB:∀{src:List (Addr×Bool)} {us:List Value},Vals (src.map λp=> V.ref p.1) us->us=src.map λp=> Value.ref p.1
 | [],us,h=> by cases h;rfl
 | p::r,us,h=> by
  cases h with
  | cons a b=> rw [iB b];cases a;rfl
theorem oS:∀(src:List (Addr×Bool)) (m:Nat),((b6 m (src.map λp=> (⟨0,p.1,p.2⟩:Src))).map λq=> (q.l,q.tup))=src
 | [],_=> rfl
 | p::r,m=> by simp only [List.map_cons,b6];rw [oS r (m+1)]
theorem TZ {X:Cx} {n:Nat} {e:Expr} {es:List Expr} {ta:TA} {p pos:Pos} {elts:List Expr} {x1} {tpos:Pos} (z:JR n) (hn:0 < n/\n<=1000) (hg:Gl X "zip") (hm:X.mg "zip"=none) (ha:PA X (e::es) ta)
  (hv:bootBuiltins "zip"=some (.type "zip"):=by decide+kernel)
  (he:starEach (e::es) X.env=(false,eval e X.env)::starEach es X.env:=by rfl) (hpl:(backTo pos (starEach es X.env)).any (·.1)=false:=by rfl):
  PI X (.Tuple elts x1 tpos) (.Call (.Name "zip" p) (e::es) [] pos) (aC4 X.K n ta):=by
 intro pins s σ H R I h;refine aEn (oR I hg hm hv ?_);refine aE9 (cZ (ha pos pins s σ H _ I h) λus s1 ⟨vs,H1,I1,r1,q1⟩=> ?_) he hpl;obtain ⟨src,rfl,hl,hs,hR⟩:=q1;have hu:=iB r1;subst hu;have em:(src.map λp=> Value.ref p.1)=(src.map λp=> (⟨0,p.1,p.2⟩:Src)).map λq=> Value.ref q.l:=by rw [List.map_map];rfl
 have hz:src.length<=sizeLine:=aEu (w6 (by omega));rw [em];refine yE (by simpa using hz) (z.t _ (by simpa using hl)) (z.n _ (by simpa using hl)) (λobj=> z.i _ obj (by simpa using hl)) (λq hq=> ?_) λh' zz TI TO t1 t2 t3 D Z kp=> ?_
 ·obtain ⟨p,hp,rfl⟩:=aD1.mp hq;obtain ⟨xs,hx⟩:=hs p hp;obtain ⟨aL,_,hsq⟩:=I1.WL hx;exact ⟨aL.toArray,hsq 0⟩
 ·generalize hqs:b6 s1.heap.objs.size (src.map λp=> (⟨0,p.1,p.2⟩:Src))=qs at D Z;have hql:qs.length=src.length:=by rw [<-hqs,f7];simp
  have hqsrc:(qs.map λq=> (q.l,q.tup))=src:=by rw [<-hqs];exact oS _ _
  have I2:Inv X pins σ H1 {s1 with heap:=h'}:=I1.kept (t' :=s1.toks) kp;have T:=KL (P:=X.prog) (w:=X.w) (K:=X.K) (elts:=elts) (x1:=x1) (pos:=tpos) D (by intro e0;rw [e0] at hql;simp at hql;omega) (by omega);rw [hqsrc] at T;refine CP Z ⟨zz,_,_,Itz X.K src,H1,rfl,I2,T,Z,λb hb=> ?_,hR⟩
  have hb0:s1.heap.objs.size<=b:=by
   rcases aCv.mp hb with e | hb
   ·rw [e];exact t3
   rcases aCv.mp hb with e | hb
   ·rw [e];exact t1
   rcases aCv.mp hb with e | hb
   ·rw [e];exact t2
   obtain ⟨q,hq,e⟩:=aD1.mp hb;rw [<-hqs] at hq;have e' :q.it=b:=e;rw [<-e'];exact (eQ hq).1
  exact (I1.M9 hb0 (I1.cG.fresh hb0):pE X pins H1 b)
end L2
namespace TS
open PySem PyProof.Rows
structure Wk (lt:Keyed->Keyed->Bool):Prop where
 rM:∀x y,lt x y=true->lt y x=false
 tr:∀x y z,lt y x=false->lt z y=false->lt z x=false
theorem Wk.IY {lt:Keyed->Keyed->Bool} (O:Wk lt) (x:Keyed):lt x x=false:=by
 cases h:lt x x with
 | false=> rfl
 | true=> exact (O.rM x x h).symm.trans h |>.symm▸rfl
def aW (xs:Array Keyed) (i:Nat):Keyed:=(xs[i]?).getD (Value.none,Value.none)
theorem IW {xs ys:Array Keyed} {i j:Nat} (h:xs[i]? =ys[j]?):aW xs i=aW ys j:=by unfold aW;rw [h]
theorem hV {xs:Array Keyed} {i:Nat} (h:i < xs.size):xs[i]? =some (aW xs i):=by unfold aW;rw [getElem?_pos xs i h];rfl
def Seg (lt:Keyed->Keyed->Bool) (xs:Array Keyed) (i j:Nat):Prop:=∀p q,i<=p->p<=q->q < j->lt (aW xs q) (aW xs p)=false
def RH (lt:Keyed->Keyed->Bool) (xs:Array Keyed) (i j:Nat):Prop:=∀p q,i<=p->p<=q->q < j->lt (aW xs p) (aW xs q)=false
structure Base (κ:SortKind) (a₀:Array Keyed) (st:SortSt):Prop where
 perm:(arrOf st).Perm a₀
 kind:kindOf st=κ
 JD:failedOf st=none
theorem Base.size {κ:SortKind} {a₀:Array Keyed} {st:SortSt} (h:Base κ a₀ st):(arrOf st).size=a₀.size:=h.perm.size_eq
theorem Base.arr {κ:SortKind} {a₀:Array Keyed} {st:SortSt} (h:Base κ a₀ st) {xs:Array Keyed} (p:xs.Perm (arrOf st)):Base κ a₀ (setArr st xs):=⟨p.trans h.perm,h.kind,h.JD⟩
theorem Base.mem {κ:SortKind} {a₀:Array Keyed} {st:SortSt} (h:Base κ a₀ st) {i:Nat} (hi:i < a₀.size):aW (arrOf st) i∈a₀.toList:=by
 have hz:i < (arrOf st).size:=by rw [h.size];exact hi
 have e:=hV hz;have:aW (arrOf st) i∈arrOf st:=Array.mem_of_getElem? e;exact (Array.perm_iff_toList_perm.mp h.perm).mem_iff.mp this.val
def nL (prog:Program) (w:World) (A:Around) (s:Shared) (κ:SortKind) (lt:Keyed->Keyed->Bool) (a₀:Array Keyed):Prop:=
 ∀x y,x∈a₀.toList->y∈a₀.toList->∀Q:Bool->Shared->Prop,Q (lt x y) s->wpAny (model prog w) A (keyLt' κ x.1 y.1) Q (λ_ _=> False) s
section
variable {prog:Program} {w:World} {A:Around} {E:Value->Shared->Prop} {s:Shared} {a₀:Array Keyed} {κ:SortKind} {lt:Keyed->Keyed->Bool}
theorem WZ {st:SortSt} {x y:Keyed} {Q:Option Bool->SortSt->Prop} (C:nL prog w A s κ lt a₀) (hk:kindOf st=κ) (hx:x∈a₀.toList) (hy:y∈a₀.toList) (h:Q (some (lt x y)) st):wpS (model prog w) A E s (lt' x y) Q st:=by
 rw [lt'_eq];refine aCw (wpS_get ?_);rw [hk];refine aCw (wpS_lift (aEb (aEf (C x y hx hy (λb s' => b=lt x y/\s' =s) ⟨rfl,rfl⟩) (λb s' hb=> ?_) λ_ _ e=> e.elim)));obtain ⟨rfl,rfl⟩:=hb;exact ⟨rfl,aD0 h⟩
theorem dO {st:SortSt} {arr:Array Keyed} {i:Nat} {Q:Keyed->SortSt->Prop} (hi:i < arr.size) (h:Q (aW arr i) st):wpS (model prog w) A E s (elem' arr i) Q st:=by
 rw [elem'_eq,hV hi];exact aD0 h
theorem A2 {st:SortSt} {i j:Nat} {Q:Option Bool->SortSt->Prop} (C:nL prog w A s κ lt a₀) (hB:Base κ a₀ st) (hi:i < a₀.size) (hj:j < a₀.size) (h:Q (some (lt (aW (arrOf st) i) (aW (arrOf st) j))) st):
  wpS (model prog w) A E s (ltAt' i j) Q st:=by
 rw [ltAt'_eq];refine aCw (wpS_get ?_);have z:=hB.size;exact aCw (dO (by rw [z];exact hi) (aCw (dO (by rw [z];exact hj) (WZ C hB.kind (hB.mem hi) (hB.mem hj) h))))
theorem oU {xs:Array Keyed} {src d:Nat} (hs:src < xs.size) (hd:d<=src) (k:Nat):aW (bubble xs src d) k=if k=src - d then aW xs src else if src - d < k/\k<=src then aW xs (k - 1) else aW xs k:=by
 have e:=getElem?_bubble hs d hd k;unfold aW;rw [e]
 repeat' split
 all_goals rfl
theorem iJ {xs:Array Keyed} {i j:Nat} (hj:j<=xs.size) (k:Nat):aW (mirror xs i j ((j - i) / 2)) k=if i<=k/\k < j then aW xs (i+j - 1 - k) else aW xs k:=by
 have e:=getElem?_mirror_all (i:=i) hj k;unfold aW;rw [e];split <;> rfl
theorem OI (O:Wk lt) (C:nL prog w A s κ lt a₀) {st:SortSt} {lo n ok:Nat} {Q:Bool->SortSt->Prop} (hn:lo+n<=a₀.size) (cG:ok<=n) (hB:Base κ a₀ st) (hs:Seg lt (arrOf st) lo (lo+ok))
  (h:∀st',Base κ a₀ st' ->Seg lt (arrOf st') lo (lo+n)->(∀k,k < lo->aW (arrOf st') k=aW (arrOf st) k)->pendingOf st' =pendingOf st->Q true st'):wpS (model prog w) A E s (binarySort' lo n ok) Q st:=by
 rw [binarySort'_eq]
 refine aCw (aEp (aEc (I:=λk c st' => c=(none,())/\Base κ a₀ st' /\Seg lt (arrOf st') lo (lo+min k n)/\(∀k,k < lo->aW (arrOf st') k=aW (arrOf st) k)/\pendingOf st' =pendingOf st)
  (Q:=λc st' => c=(none,())/\Base κ a₀ st' /\Seg lt (arrOf st') lo (lo+n)/\(∀k,k < lo->aW (arrOf st') k=aW (arrOf st) k)/\pendingOf st' =pendingOf st) ?step ?fin ?init) ?post)
 case post=>
  rintro c st' ⟨rfl,hB',hs',hk',hp'⟩;exact aD0 (h st' hB' hs' hk' hp')
 case init=>
  refine ⟨rfl,hB,λp q hp hpq hq=> ?_,λ_ _=> rfl,rfl⟩;by_cases h1:p=q
  ·subst h1;exact O.IY _
  ·exact hs p q hp hpq (by omega)
 case fin=>
  rintro c st' ⟨hc,hB',hs',r⟩;refine ⟨hc,hB',?_,r⟩
  rwa [show min (max (max ok 1) n) n=n by omega] at hs'
 case step=>
  rintro k c st' hak hkn ⟨rfl,hB',hs',hk',hp'⟩;rw [show min k n=k by omega] at hs';have hk:lo+k < a₀.size:=by omega
  refine aCw (aEp (aEc (I:=λx c st'' => st'' =st' /\∃l r,c=(none,l,r)/\l<=r/\r<=k/\r - l<=k - x/\
    (∀i,i < l->lt (aW (arrOf st') (lo+k)) (aW (arrOf st') (lo+i))=false)/\(∀i,r<=i->i < k->lt (aW (arrOf st') (lo+k)) (aW (arrOf st') (lo+i))=true))
   (Q:=λc st'' => st'' =st' /\∃l r,c=(none,l,r)/\l<=k/\
    (∀i,i < l->lt (aW (arrOf st') (lo+k)) (aW (arrOf st') (lo+i))=false)/\(∀i,l<=i->i < k->lt (aW (arrOf st') (lo+k)) (aW (arrOf st') (lo+i))=true)) ?istep ?ifin ?iinit) ?ipost)
  case iinit=> exact ⟨rfl,0,k,rfl,by omega,by omega,by omega,λi hi=> by omega,λi h1 h2=> by omega⟩
  case ifin=>
   rintro c st'' ⟨rfl,l,r,rfl,hlr,hrk,hm,hlo,hhi⟩;obtain rfl:l=r:=by omega
   exact ⟨rfl,l,l,rfl,hrk,hlo,hhi⟩
  case istep=>
   rintro x c st'' _ hxk ⟨rfl,l,r,rfl,hlr,hrk,hm,hlo,hhi⟩;dsimp only;by_cases hge:l>=r
   ·rw [if_pos hge];obtain rfl:l=r:=by omega
    exact aD0 ⟨rfl,l,l,rfl,hrk,hlo,hhi⟩
   ·rw [if_neg hge];refine aCw (A2 C hB' hk (by omega) ?_)
    cases hless:lt (aW (arrOf st'') (lo+k)) (aW (arrOf st'') (lo+(l+r) / 2)) with
    | true=>
     simp only [if_true];refine aD0 ⟨rfl,l,(l+r) / 2,rfl,by omega,by omega,by omega,hlo,λi h1 h2=> ?_⟩
     cases hx:lt (aW (arrOf st'') (lo+k)) (aW (arrOf st'') (lo+i)) with
     | true=> rfl
     | false=> rw [O.tr _ _ _ (hs' (lo+(l+r) / 2) (lo+i) (by omega) (by omega) (by omega)) hx] at hless;cases hless
    | false=>
     simp only [Bool.false_eq_true,if_false];refine aD0 ⟨rfl,(l+r) / 2+1,r,rfl,by omega,by omega,by omega,λi h1=> ?_,hhi⟩;exact O.tr _ _ _ (hs' (lo+i) (lo+(l+r) / 2) (by omega) (by omega) (by omega)) hless
  case ipost=>
   rintro c st'' ⟨rfl,l,r,rfl,hlk,hlo,hhi⟩;show wpS _ _ _ _ (do moveDown' (lo+k) (lo+l);pure (ForInStep.yield (none,()))) _ _;rw [moveDown'_eq];have hks:lo+k < (arrOf st'').size:=by rw [hB'.size];exact hk
   have e1:lo+k - (lo+l)=k - l:=by omega
   refine aCw (aG1 (aD0 ⟨rfl,hB'.arr (bubble_perm _ _ _),?_,λj hj=> ?_,hp'⟩))
   ·rw [show min (k+1) n=k+1 by omega];intro p q hp hpq hq;show lt (aW (bubble (arrOf st'') (lo+k) (lo+k - (lo+l))) q) (aW (bubble (arrOf st'') (lo+k) (lo+k - (lo+l))) p)=false;rw [oU hks (by omega),oU hks (by omega),show lo+k - (lo+k - (lo+l))=lo+l by omega]
    repeat' split
    all_goals first
     | (exfalso;omega)
     | exact O.IY _
     | (have:=hlo (p - lo) (by omega);rwa [show lo+(p - lo)=p by omega] at this)
     | (have:=O.rM _ _ (hhi (q - 1 - lo) (by omega) (by omega));rwa [show lo+(q - 1 - lo)=q - 1 by omega] at this)
     | exact hs' _ _ (by omega) (by omega) (by omega)
   ·show aW (bubble (arrOf st'') (lo+k) (lo+k - (lo+l))) j=_;rw [oU hks (by omega),if_neg (by omega),if_neg (by omega)];exact hk' j hj
end
def XD (lo a cI:Nat):StateT SortSt Sem (Option (Option Nat)×Nat):=
 forIn [a:cI] ((none,a):Option (Option Nat)×Nat) λ_ c=> do
  let x<-ltAt' (lo+c.snd) (lo+c.snd - 1)
  match x with
  | some smaller=> if smaller=true then pure (ForInStep.done (none,c.snd)) else pure (ForInStep.yield (none,c.snd+1))
  | _=> pure (ForInStep.done (some none,c.snd))
def CI (lo n cI:Nat):StateT SortSt Sem (Option Nat):=do
 reverseSlice' lo (lo+n)
 let c<-XD lo n cI
 match c.fst with
 | some r=> pure r
 | none=> pure (some c.snd)
def HB (lo n cI:Nat):StateT SortSt Sem (Option (Option Nat)×Nat×Nat):=
 forIn [n:cI] ((none,n,0):Option (Option Nat)×Nat×Nat) λ_ c=> do
  let x<-ltAt' (lo+c.snd.fst) (lo+c.snd.fst - 1)
  match x with
  | some smaller=>
   if smaller=true then
    if c.snd.snd > 0 then do
     reverseSlice' (lo+c.snd.fst - (c.snd.snd+1)) (lo+c.snd.fst)
     pure (ForInStep.yield (none,c.snd.fst+1,0))
    else pure (ForInStep.yield (none,c.snd.fst+1,0))
   else do
    let y<-ltAt' (lo+c.snd.fst - 1) (lo+c.snd.fst)
    match y with
    | some larger=> if larger=true then pure (ForInStep.done (none,c.snd.fst,c.snd.snd)) else pure (ForInStep.yield (none,c.snd.fst+1,c.snd.snd+1))
    | _=> pure (ForInStep.done (some none,c.snd.fst,c.snd.snd))
  | _=> pure (ForInStep.done (some none,c.snd.fst,c.snd.snd))
def C4 (lo n cI:Nat):StateT SortSt Sem (Option Nat):=do
 liftM (rule "list.sort.descending-run")
 let c<-HB lo (n+1) cI
 match c.fst with
 | some r=> pure r
 | none=>
  if c.snd.snd > 0 then do
   reverseSlice' (lo+c.snd.fst - (c.snd.snd+1)) (lo+c.snd.fst)
   CI lo c.snd.fst cI
  else CI lo c.snd.fst cI
theorem JJ (lo cI:Nat):countRun' lo cI=(do
  let c<-XD lo 1 cI
  match c.fst with
  | some r=> pure r
  | none=>
   if (c.snd==cI)=true then pure (some c.snd)
   else if c.snd > 1 then do
    let x<-ltAt' lo (lo+c.snd - 1)
    match x with
    | some rose=> if rose=true then pure (some c.snd) else do
      reverseSlice' lo (lo+c.snd)
      C4 lo c.snd cI
    | _=> pure none
   else C4 lo c.snd cI):=by
 rw [countRun'_eq];dsimp only;unfold C4 CI HB XD;congr 1;funext c;obtain ⟨r,n⟩:=c
 cases r with
 | some r=> rfl
 | none=>
  dsimp only;have fin:∀(c3:Option (Option Nat)×Nat),(match c3.fst with | some r=> (pure r:StateT SortSt Sem (Option Nat)) | none=> pure (some c3.snd))=(match c3.fst with | some r=> pure r | none=> pure (some c3.snd)):=λ_=> rfl;split
  ·rfl
  ·split
   ·congr 1;funext x
    cases x with
    | none=> rfl
    | some rose=>
     dsimp only;split
     ·rfl
     ·congr 1;funext u;congr 1;funext u1;congr 1;congr 1;funext c2;obtain ⟨r2,n2,q2⟩:=c2
      cases r2 with
      | some r2=> rfl
      | none=>
       dsimp only;split
       ·congr 1;funext v;congr 1;funext v1;congr 1;funext c3;obtain ⟨r3,n3⟩:=c3;cases r3 <;> rfl
       ·congr 1;funext v1;congr 1;funext c3;obtain ⟨r3,n3⟩:=c3;cases r3 <;> rfl
   ·congr 1;funext u1;congr 1;congr 1;funext c2;obtain ⟨r2,n2,q2⟩:=c2
    cases r2 with
    | some r2=> rfl
    | none=>
     dsimp only;split
     ·congr 1;funext v;congr 1;funext v1;congr 1;funext c3;obtain ⟨r3,n3⟩:=c3;cases r3 <;> rfl
     ·congr 1;funext v1;congr 1;funext c3;obtain ⟨r3,n3⟩:=c3;cases r3 <;> rfl
section
variable {prog:Program} {w:World} {A:Around} {E:Value->Shared->Prop} {s:Shared} {a₀:Array Keyed} {κ:SortKind} {lt:Keyed->Keyed->Bool}
theorem OF {st:SortSt} {i j:Nat} {Q:Unit->SortSt->Prop} (h:Q () (setArr st (mirror (arrOf st) i j ((j - i) / 2)))):wpS (model prog w) A E s (reverseSlice' i j) Q st:=by
 rw [reverseSlice'_eq];exact aG1 h
def j5 (lo:Nat) (st st' :SortSt):Prop:=(∀k,k < lo->aW (arrOf st') k=aW (arrOf st) k)/\pendingOf st' =pendingOf st
theorem j5.refl {lo:Nat} {st:SortSt}:j5 lo st st:=⟨λ_ _=> rfl,rfl⟩
theorem j5.trans {lo:Nat} {a b c:SortSt} (h:j5 lo a b) (h' :j5 lo b c):j5 lo a c:=⟨λk hk=> (h'.1 k hk).trans (h.1 k hk),h'.2.trans h.2⟩
theorem j5.mirror {lo i j:Nat} {st:SortSt} (hi:lo<=i) (hj:j<=(arrOf st).size):j5 lo st (setArr st (PyProof.Rows.mirror (arrOf st) i j ((j - i) / 2))):=
 ⟨λk hk=> by show aW (PyProof.Rows.mirror (arrOf st) i j ((j - i) / 2)) k=_;rw [iJ hj,if_neg (by omega)],rfl⟩
theorem wup (O:Wk lt) (C:nL prog w A s κ lt a₀) {st:SortSt} {lo a cI:Nat} {Q:Option (Option Nat)×Nat->SortSt->Prop} (hn:lo+cI<=a₀.size) (ha:1<=a) (han:a<=cI) (hB:Base κ a₀ st) (hs:Seg lt (arrOf st) lo (lo+a))
  (h:∀n,a<=n->n<=cI->Seg lt (arrOf st) lo (lo+n)->(n=cI\/lt (aW (arrOf st) (lo+n)) (aW (arrOf st) (lo+n - 1))=true)->Q (none,n) st):wpS (model prog w) A E s (XD lo a cI) Q st:=by
 unfold XD;refine aEc (I:=λx c st' => st' =st/\c=(none,x)/\Seg lt (arrOf st) lo (lo+x)) ?step ?fin ⟨rfl,rfl,hs⟩
 case fin=>
  rintro c st' ⟨rfl,rfl,hs'⟩;rw [show max a cI=cI by omega] at hs' ⊢;exact h cI han (aCs _) hs' (.inl rfl)
 case step=>
  rintro x c st' hax hxn ⟨rfl,rfl,hs'⟩;dsimp only;refine aCw (A2 C hB (by omega) (by omega) ?_)
  cases hless:lt (aW (arrOf st') (lo+x)) (aW (arrOf st') (lo+x - 1)) with
  | true=>
   simp only [if_true];exact aD0 (h x hax (by omega) hs' (.inr hless))
  | false=>
   simp only [Bool.false_eq_true,if_false];refine aD0 ⟨rfl,rfl,λp q hp hpq hq=> ?_⟩;by_cases hqx:q < lo+x
   ·exact hs' p q hp hpq hqx
   ·obtain rfl:q=lo+x:=by omega
    by_cases hi' :p=lo+x
    ·subst hi';exact O.IY _
    ·exact O.tr _ _ _ (hs' p (lo+x - 1) hp (by omega) (by omega)) hless
theorem RK (O:Wk lt) (C:nL prog w A s κ lt a₀) {st:SortSt} {lo n cI:Nat} {Q:Option Nat->SortSt->Prop} (hn:lo+cI<=a₀.size) (h1:1<=n) (hnn:n<=cI) (hB:Base κ a₀ st) (hs:RH lt (arrOf st) lo (lo+n))
  (h:∀m st',Base κ a₀ st' ->1<=m->m<=cI->Seg lt (arrOf st') lo (lo+m)->j5 lo st st' ->Q (some m) st'):wpS (model prog w) A E s (CI lo n cI) Q st:=by
 unfold CI;have hsz:lo+n<=(arrOf st).size:=by rw [hB.size];omega
 refine aCw (OF ?_);have hB' :Base κ a₀ (setArr st (mirror (arrOf st) lo (lo+n) ((lo+n - lo) / 2))):=hB.arr (mirror_perm _ _ _ _);refine aCw (wup O C hn h1 hnn hB' ?_ λm hm1 hm2 hsm _=> aD0 (h m _ hB' (by omega) hm2 hsm (j5.mirror (aCs _) hsz)));intro p q hp hpq hq;show lt (aW (mirror (arrOf st) lo (lo+n) ((lo+n - lo) / 2)) q) (aW (mirror (arrOf st) lo (lo+n) ((lo+n - lo) / 2)) p)=false;rw [iJ hsz,iJ hsz,if_pos (by omega),if_pos (by omega)];exact hs _ _ (by omega) (by omega) (by omega)
def Alike (lt:Keyed->Keyed->Bool) (xs:Array Keyed) (i j:Nat):Prop:=∀p q,i<=p->p < j->i<=q->q < j->lt (aW xs p) (aW xs q)=false
theorem o8 (O:Wk lt) {xs:Array Keyed} {lo i j n:Nat} (hj:j<=xs.size) (he:Alike lt xs i j) (hs:RH lt xs lo n) (hi:lo<=i) (hjn:j<=n):RH lt (mirror xs i j ((j - i) / 2)) lo n:=by
 intro p q hp hpq hq;rw [iJ hj,iJ hj];by_cases h1:i<=p/\p < j
 ·rw [if_pos h1];by_cases h2:i<=q/\q < j
  ·rw [if_pos h2];exact he _ _ (by omega) (by omega) (by omega) (by omega)
  ·rw [if_neg h2];exact hs _ _ (by omega) (by omega) hq
 ·rw [if_neg h1];by_cases h2:i<=q/\q < j
  ·rw [if_pos h2];exact hs _ _ hp (by omega) (by omega)
  ·rw [if_neg h2];exact hs _ _ hp hpq hq
theorem XA (O:Wk lt) (C:nL prog w A s κ lt a₀) {st:SortSt} {lo n cI:Nat} {Q:Option (Option Nat)×Nat×Nat->SortSt->Prop} (hn:lo+cI<=a₀.size) (h1:1<=n) (hnn:n<=cI) (hB:Base κ a₀ st) (hs:RH lt (arrOf st) lo (lo+n))
  (h:∀m neq st',Base κ a₀ st' ->n<=m->m<=cI->RH lt (arrOf st') lo (lo+m)->neq+1<=m->Alike lt (arrOf st') (lo+m - (neq+1)) (lo+m)->j5 lo st st' ->Q (none,m,neq) st'):wpS (model prog w) A E s (HB lo n cI) Q st:=by
 unfold HB
 have one:∀(xs:Array Keyed) (x:Nat),1<=x->Alike lt xs (lo+x - (0+1)) (lo+x):=λxs x hx p q h1 h2 h3 h4=> by
  obtain rfl:p=q:=by omega
  exact O.IY _
 refine aEc (I:=λx c st' => ∃neq,c=(none,x,neq)/\Base κ a₀ st' /\RH lt (arrOf st') lo (lo+x)/\neq+1<=x/\Alike lt (arrOf st') (lo+x - (neq+1)) (lo+x)/\j5 lo st st') ?step ?fin ⟨0,rfl,hB,hs,by omega,one _ _ h1,j5.refl⟩
 case fin=>
  rintro c st' ⟨neq,rfl,hB',hs',hq,he,hh⟩;rw [show max n cI=cI by omega] at hs' hq he⊢;exact h cI neq st' hB' hnn (aCs _) hs' hq he hh
 case step=>
  rintro x c st' hax hxn ⟨neq,rfl,hB',hs',hq,he,hh⟩;dsimp only;have hsz:lo+x<=(arrOf st').size:=by rw [hB'.size];omega
  refine aCw (A2 C hB' (by omega) (by omega) ?_)
  cases hless:lt (aW (arrOf st') (lo+x)) (aW (arrOf st') (lo+x - 1)) with
  | true=>
   simp only [if_true]
   have step1:RH lt (arrOf st') lo (lo+x+1):=by
    intro p q hp hpq hq;by_cases hqx:q < lo+x
    ·exact hs' p q hp hpq hqx
    ·obtain rfl:q=lo+x:=by omega
     by_cases hi' :p=lo+x
     ·subst hi';exact O.IY _
     ·exact O.tr _ _ _ (O.rM _ _ hless) (hs' p (lo+x - 1) hp (by omega) (by omega))
   by_cases hneq:neq > 0
   ·rw [if_pos hneq];refine aCw (OF (aD0 ⟨0,rfl,hB'.arr (mirror_perm _ _ _ _),?_,by omega,one _ _ (by omega),hh.trans (j5.mirror (by omega) hsz)⟩));exact o8 O hsz he step1 (by omega) (by omega)
   ·rw [if_neg hneq];exact aD0 ⟨0,rfl,hB',step1,by omega,one _ _ (by omega),hh⟩
  | false=>
   simp only [Bool.false_eq_true,if_false];refine aCw (A2 C hB' (by omega) (by omega) ?_)
   cases hlarger:lt (aW (arrOf st') (lo+x - 1)) (aW (arrOf st') (lo+x)) with
   | true=>
    simp only [if_true];exact aD0 (h x neq st' hB' hax (by omega) hs' hq he hh)
   | false=>
    simp only [Bool.false_eq_true,if_false];refine aD0 ⟨neq+1,rfl,hB',λp q hp hpq hq=> ?_,by omega,λp q h1 h2 h3 h4=> ?_,hh⟩
    ·by_cases hqx:q < lo+x
     ·exact hs' p q hp hpq hqx
     ·obtain rfl:q=lo+x:=by omega
      by_cases hi' :p=lo+x
      ·subst hi';exact O.IY _
      ·exact O.tr _ _ _ hlarger (hs' p (lo+x - 1) hp (by omega) (by omega))
    ·by_cases hpx:p=lo+x
     ·subst hpx;by_cases hqx:q=lo+x
      ·subst hqx;exact O.IY _
      ·exact O.tr _ _ _ (he (lo+x - 1) q (by omega) (by omega) (by omega) (by omega)) hless
     ·by_cases hqx:q=lo+x
      ·subst hqx;exact O.tr _ _ _ hlarger (he p (lo+x - 1) (by omega) (by omega) (by omega) (by omega))
      ·exact he p q (by omega) (by omega) (by omega) (by omega)
theorem RM (O:Wk lt) (C:nL prog w A s κ lt a₀) {st:SortSt} {lo n cI:Nat} {Q:Option Nat->SortSt->Prop} (hn:lo+cI<=a₀.size) (hnn:n+1<=cI) (hB:Base κ a₀ st) (hs:RH lt (arrOf st) lo (lo+(n+1)))
  (h:∀m st',Base κ a₀ st' ->1<=m->m<=cI->Seg lt (arrOf st') lo (lo+m)->j5 lo st st' ->Q (some m) st'):wpS (model prog w) A E s (C4 lo n cI) Q st:=by
 unfold C4;refine aCw (wpS_lift (aE2 ⟨rfl,?_⟩));refine aCw (XA O C hn (by omega) hnn hB hs λm neq st' hB' hm1 hm2 hs' hq he hh=> ?_);dsimp only;have hsz:lo+m<=(arrOf st').size:=by rw [hB'.size];omega
 by_cases hneq:neq > 0
 ·rw [if_pos hneq];refine aCw (OF (RK O C hn (by omega) hm2 (hB'.arr (mirror_perm _ _ _ _)) ?_ λm st2 b1 b2 b3 b4 b5=> h m st2 b1 b2 b3 b4 (hh.trans ((j5.mirror (by omega) hsz).trans b5))));exact o8 O hsz he hs' (by omega) (aCs _)
 ·rw [if_neg hneq];exact RK O C hn (by omega) hm2 hB' hs' λm st2 b1 b2 b3 b4 b5=> h m st2 b1 b2 b3 b4 (hh.trans b5)
theorem SO (O:Wk lt) (C:nL prog w A s κ lt a₀) {st:SortSt} {lo cI:Nat} {Q:Option Nat->SortSt->Prop} (hn:lo+cI<=a₀.size) (h1:1<=cI) (hB:Base κ a₀ st)
  (h:∀m st',Base κ a₀ st' ->1<=m->m<=cI->Seg lt (arrOf st') lo (lo+m)->j5 lo st st' ->Q (some m) st'):wpS (model prog w) A E s (countRun' lo cI) Q st:=by
 rw [JJ]
 refine aCw (wup O C hn (aCs 1) h1 hB (λp q h1 h2 h3=> by
  obtain rfl:p=q:=by omega
  exact O.IY _) λn hn1 hn2 hsn hor=> ?_)
 dsimp only;by_cases hnn:n=cI
 ·rw [if_pos (by simpa using hnn)];exact aD0 (h n st hB hn1 hn2 hsn j5.refl)
 ·rw [if_neg (by simpa using hnn)];have hlt:lt (aW (arrOf st) (lo+n)) (aW (arrOf st) (lo+n - 1))=true:=hor.resolve_left hnn;by_cases hgt:n > 1
  ·rw [if_pos hgt];refine aCw (A2 C hB (by omega) (by omega) ?_)
   cases hrose:lt (aW (arrOf st) lo) (aW (arrOf st) (lo+n - 1)) with
   | true=>
    simp only [if_true];exact aD0 (h n st hB hn1 hn2 hsn j5.refl)
   | false=>
    simp only [Bool.false_eq_true,if_false];have hsz:lo+n<=(arrOf st).size:=by rw [hB.size];omega
    have hall:Alike lt (arrOf st) lo (lo+n):=λp q a1 a2 a3 a4=> by
     have e1:=hsn lo p (aCs _) (by omega) (by omega);have e2:=hsn q (lo+n - 1) a3 (by omega) (by omega);exact O.tr _ _ _ (O.tr _ _ _ e2 hrose) e1
    have hd:RH lt (arrOf st) lo (lo+(n+1)):=λp q hp hpq hq=> by
     by_cases hqn:q < lo+n
     ·exact hall p q hp (by omega) (by omega) hqn
     ·obtain rfl:q=lo+n:=by omega
      by_cases hi' :p=lo+n
      ·subst hi';exact O.IY _
      ·exact O.tr _ _ _ (O.rM _ _ hlt) (hall p (lo+n - 1) hp (by omega) (by omega) (by omega))
    refine aCw (OF (RM O C hn (by omega) (hB.arr (mirror_perm _ _ _ _)) ?_ λm st2 b1 b2 b3 b4 b5=> h m st2 b1 b2 b3 b4 ((j5.mirror (aCs _) hsz).trans b5)));exact o8 O hsz hall hd (aCs _) (by omega)
  ·rw [if_neg hgt];obtain rfl:n=1:=by omega
   refine RM O C hn (by omega) hB (λp q hp hpq hq=> ?_) h;by_cases hi' :p=q
   ·subst hi';exact O.IY _
   ·obtain rfl:p=lo:=by omega
    obtain rfl:q=p+1:=by omega
    exact O.rM _ _ hlt
end
def eM:Bool->Keyed->Array Keyed->Nat->Nat->Nat->StateT SortSt Sem (Option Nat):=sortPriv% PySem.Builtin.gallop
def kR (left:Bool) (key:Keyed) (arr:Array Keyed) (base i:Nat):StateT SortSt Sem (Option Bool):=do
 let x<-elem' arr (base+i)
 if left then lt' x key else return (<-lt' key x).map (!·)
theorem FC (left:Bool) (key:Keyed) (arr:Array Keyed) (base n hint:Nat):eM left key arr base n hint=(do
 let mut lastofs:=0;let mut ofs:=1;let mut lo:=0;let mut hi:=0
 let some right<-kR left key arr base hint | return none
 if right then
  let maxofs:=n - hint
  for _ in [0:n] do
   if ofs>=maxofs then break
   let some more<-kR left key arr base (hint+ofs) | return none
   if !more then break
   lastofs:=ofs;ofs:=2*ofs+1
  lo:=hint+lastofs+1;hi:=hint+min ofs maxofs
 else
  let maxofs:=hint+1
  for _ in [0:n] do
   if ofs>=maxofs then break
   let some found<-kR left key arr base (hint - ofs) | return none
   if found then break
   lastofs:=ofs;ofs:=2*ofs+1
  lo:=hint+1 - min ofs maxofs;hi:=hint - lastofs
 for _ in [0:n] do
  if lo>=hi then break
  let m:=lo+(hi - lo) / 2
  let some more<-kR left key arr base m | return none
  if more then lo:=m+1 else hi:=m
 return some hi):=rfl
section
variable {prog:Program} {w:World} {A:Around} {E:Value->Shared->Prop} {s:Shared} {a₀:Array Keyed} {κ:SortKind} {lt:Keyed->Keyed->Bool}
def kS (lt:Keyed->Keyed->Bool) (left:Bool) (key:Keyed) (arr:Array Keyed) (base i:Nat):Bool:=if left then lt (aW arr (base+i)) key else !(lt key (aW arr (base+i)))
theorem sX (C:nL prog w A s κ lt a₀) {st:SortSt} {left:Bool} {key:Keyed} {arr:Array Keyed} {base i:Nat} {Q:Option Bool->SortSt->Prop} (hk:kindOf st=κ) (hi:base+i < arr.size) (hx:aW arr (base+i)∈a₀.toList) (hy:key∈a₀.toList)
  (h:Q (some (kS lt left key arr base i)) st):wpS (model prog w) A E s (kR left key arr base i) Q st:=by
 unfold kR;refine aCw (dO hi ?_)
 cases left with
 | true=>
  simp only [if_true];exact WZ C hk hx hy h
 | false=>
  simp only [Bool.false_eq_true,if_false];exact aCw (WZ C hk hy hx (aD0 h))
theorem qQ (O:Wk lt) {left:Bool} {key:Keyed} {arr:Array Keyed} {base n i j:Nat} (hs:Seg lt arr base (base+n)) (hij:i<=j) (hj:j < n) (h:kS lt left key arr base j=true):kS lt left key arr base i=true:=by
 have e:=hs (base+i) (base+j) (by omega) (by omega) (by omega);unfold kS at h⊢
 cases left with
 | true=>
  simp only [if_true] at h⊢
  cases hx:lt (aW arr (base+i)) key with
  | true=> rfl
  | false=> rw [O.tr _ _ _ hx e] at h;cases h
 | false=>
  simp only [Bool.false_eq_true,if_false] at h⊢;have h' :lt key (aW arr (base+j))=false:=by simpa using h
  rw [O.tr _ _ _ e h'];rfl
theorem rL (O:Wk lt) {left:Bool} {key:Keyed} {arr:Array Keyed} {base n i j:Nat} (hs:Seg lt arr base (base+n)) (hij:i<=j) (hj:j < n) (h:kS lt left key arr base i=false):kS lt left key arr base j=false:=by
 cases hx:kS lt left key arr base j with
 | false=> rfl
 | true=> rw [qQ O hs hij hj hx] at h;cases h
def Q9 (left:Bool) (key:Keyed) (arr:Array Keyed) (base n YQ Y1:Nat):StateT SortSt Sem (Option Nat):=do
 let mut lo:=YQ;let mut hi:=Y1
 for _ in [0:n] do
  if lo>=hi then break
  let m:=lo+(hi - lo) / 2
  let some more<-kR left key arr base m | return none
  if more then lo:=m+1 else hi:=m
 return some hi
theorem XB (O:Wk lt) (C:nL prog w A s κ lt a₀) {st:SortSt} {left:Bool} {key:Keyed} {arr:Array Keyed} {base n lo hi:Nat} {Q:Option Nat->SortSt->Prop} (hk:kindOf st=κ) (hb:base+n<=arr.size) (hs:Seg lt arr base (base+n))
  (hm:∀i,i < n->aW arr (base+i)∈a₀.toList) (hy:key∈a₀.toList) (hlh:lo<=hi) (hhn:hi<=n) (hlo:∀i,i < lo->kS lt left key arr base i=true) (hhi:∀i,hi<=i->i < n->kS lt left key arr base i=false)
  (h:∀k,k<=n->(∀i,i < k->kS lt left key arr base i=true)->(∀i,k<=i->i < n->kS lt left key arr base i=false)->Q (some k) st):wpS (model prog w) A E s (Q9 left key arr base n lo hi) Q st:=by
 unfold Q9;dsimp only
 refine aCw (aEp (aEc (I:=λx c st' => st' =st/\∃l r,c=(none,l,r)/\l<=r/\r<=n/\r - l<=n - x/\(∀i,i < l->kS lt left key arr base i=true)/\(∀i,r<=i->i < n->kS lt left key arr base i=false))
  (Q:=λc st' => st' =st/\∃r,c=(none,r,r)/\r<=n/\(∀i,i < r->kS lt left key arr base i=true)/\(∀i,r<=i->i < n->kS lt left key arr base i=false)) ?step ?fin ⟨rfl,lo,hi,rfl,hlh,hhn,by omega,hlo,hhi⟩) ?post)
 case post=>
  rintro c st' ⟨rfl,r,rfl,h1,h2,h3⟩;exact aD0 (h r h1 h2 h3)
 case fin=>
  rintro c st' ⟨rfl,l,r,rfl,h1,h2,h3,h4,h5⟩;obtain rfl:l=r:=by omega
  exact ⟨rfl,l,rfl,h2,h4,h5⟩
 case step=>
  rintro x c st' _ hx ⟨rfl,l,r,rfl,h1,h2,h3,h4,h5⟩;dsimp only;by_cases hge:l>=r
  ·rw [if_pos hge];obtain rfl:l=r:=by omega
   exact aD0 ⟨rfl,l,rfl,h2,h4,h5⟩
  ·rw [if_neg hge];refine aCw (sX C hk (by omega) (hm _ (by omega)) hy ?_)
   cases hb' :kS lt left key arr base (l+(r - l) / 2) with
   | true=>
    simp only [if_true];exact aD0 ⟨rfl,_,r,rfl,by omega,h2,by omega,λi hi=> qQ O hs (by omega) (by omega) hb',h5⟩
   | false=>
    simp only [Bool.false_eq_true,if_false];exact aD0 ⟨rfl,l,_,rfl,by omega,by omega,by omega,h4,λi h6 h7=> rL O hs h6 h7 hb'⟩
theorem mW (O:Wk lt) (C:nL prog w A s κ lt a₀) {st:SortSt} {left:Bool} {key:Keyed} {arr:Array Keyed} {base n hint:Nat} {Q:Option Nat->SortSt->Prop} (hk:kindOf st=κ) (hb:base+n<=arr.size) (hh:hint < n) (hs:Seg lt arr base (base+n))
  (hm:∀i,i < n->aW arr (base+i)∈a₀.toList) (hy:key∈a₀.toList)
  (h:∀k,k<=n->(∀i,i < k->kS lt left key arr base i=true)->(∀i,k<=i->i < n->kS lt left key arr base i=false)->Q (some k) st):wpS (model prog w) A E s (eM left key arr base n hint) Q st:=by
 rw [FC];refine aCw (sX C hk (by omega) (hm hint hh) hy ?_);dsimp only
 cases hr:kS lt left key arr base hint with
 | true=>
  simp only [if_true]
  refine aCw (aEp (aEc (I:=λx c st' => st' =st/\∃lastofs ofs,c=(none,lastofs,ofs)/\lastofs < ofs/\x+1<=ofs/\hint+lastofs < n/\kS lt left key arr base (hint+lastofs)=true)
   (Q:=λc st' => st' =st/\∃lastofs ofs,c=(none,lastofs,ofs)/\lastofs < ofs/\hint+lastofs < n/\kS lt left key arr base (hint+lastofs)=true/\(n - hint<=ofs\/(hint+ofs < n/\kS lt left key arr base (hint+ofs)=false))) ?step ?fin ⟨rfl,0,1,rfl,by omega,by omega,by omega,by simpa using hr⟩) ?post)
  case fin=>
   rintro c st' ⟨rfl,l,o,rfl,h1,h2,h3,h4⟩;exact ⟨rfl,l,o,rfl,h1,h3,h4,.inl (by omega)⟩
  case step=>
   rintro x c st' _ hx ⟨rfl,l,o,rfl,h1,h2,h3,h4⟩;dsimp only;by_cases hge:o>=n - hint
   ·rw [if_pos hge];exact aD0 ⟨rfl,l,o,rfl,h1,h3,h4,.inl hge⟩
   ·rw [if_neg hge];refine aCw (sX C hk (by omega) (hm _ (by omega)) hy ?_)
    cases hb' :kS lt left key arr base (hint+o) with
    | true=>
     simp only [Bool.not_true,Bool.false_eq_true,if_false];exact aD0 ⟨rfl,o,_,rfl,by omega,by omega,by omega,hb'⟩
    | false=>
     simp only [Bool.not_false,if_true];exact aD0 ⟨rfl,l,o,rfl,h1,h3,h4,.inr ⟨by omega,hb'⟩⟩
  case post=>
   rintro c st' ⟨rfl,l,o,rfl,h1,h3,h4,h5⟩;dsimp only;show wpS _ _ _ _ (Q9 left key arr base n (hint+l+1) (hint+min o (n - hint))) _ _;refine XB (lo:=hint+l+1) (hi:=hint+min o (n - hint)) O C hk hb hs hm hy (by omega) (by omega) (λi hi=> qQ O hs (by omega) h3 h4) (λi h6 h7=> ?_) h;rcases h5 with h5 | ⟨h5,h8⟩
   ·omega
   ·exact rL O hs (by omega) h7 h8
 | false=>
  simp only [Bool.false_eq_true,if_false]
  refine aCw (aEp (aEc (I:=λx c st' => st' =st/\∃lastofs ofs,c=(none,lastofs,ofs)/\lastofs < ofs/\x+1<=ofs/\lastofs<=hint/\kS lt left key arr base (hint - lastofs)=false)
   (Q:=λc st' => st' =st/\∃lastofs ofs,c=(none,lastofs,ofs)/\lastofs < ofs/\lastofs<=hint/\kS lt left key arr base (hint - lastofs)=false/\(hint+1<=ofs\/(ofs<=hint/\kS lt left key arr base (hint - ofs)=true))) ?step ?fin ⟨rfl,0,1,rfl,by omega,by omega,by omega,by simpa using hr⟩) ?post)
  case fin=>
   rintro c st' ⟨rfl,l,o,rfl,h1,h2,h3,h4⟩;exact ⟨rfl,l,o,rfl,h1,h3,h4,.inl (by omega)⟩
  case step=>
   rintro x c st' _ hx ⟨rfl,l,o,rfl,h1,h2,h3,h4⟩;dsimp only;by_cases hge:o>=hint+1
   ·rw [if_pos hge];exact aD0 ⟨rfl,l,o,rfl,h1,h3,h4,.inl hge⟩
   ·rw [if_neg hge];refine aCw (sX C hk (by omega) (hm _ (by omega)) hy ?_)
    cases hb' :kS lt left key arr base (hint - o) with
    | true=>
     simp only [if_true];exact aD0 ⟨rfl,l,o,rfl,h1,h3,h4,.inr ⟨by omega,hb'⟩⟩
    | false=>
     simp only [Bool.false_eq_true,if_false];exact aD0 ⟨rfl,o,_,rfl,by omega,by omega,by omega,hb'⟩
  case post=>
   rintro c st' ⟨rfl,l,o,rfl,h1,h3,h4,h5⟩;dsimp only;show wpS _ _ _ _ (Q9 left key arr base n (hint+1 - min o (hint+1)) (hint - l)) _ _;refine XB (lo:=hint+1 - min o (hint+1)) (hi:=hint - l) O C hk hb hs hm hy (by omega) (by omega) (λi hi=> ?_) (λi h6 h7=> rL O hs h6 h7 h4) h;rcases h5 with h5 | ⟨h5,h8⟩
   ·omega
   ·exact qQ O hs (by omega) (by omega) h8
end
structure Mg (lt:Keyed->Keyed->Bool) (all o p q:List Keyed):Prop where
 perm:(o++(p++q)).Perm all
 so:o.Pairwise λx y=> lt y x=false
 sp:p.Pairwise λx y=> lt y x=false
 sq:q.Pairwise λx y=> lt y x=false
 low:∀x∈o,∀y∈p++q,lt y x=false
theorem Mg.left {lt:Keyed->Keyed->Bool} {all o u p q:List Keyed} (M:Mg lt all o (u++p) q) (h:∀x∈u,∀y∈q,lt y x=false):Mg lt all (o++u) p q:=by
 have sp:=aD2.mp M.sp;refine ⟨?_,aD2.mpr ⟨M.so,sp.1,λx hx y hy=> M.low x hx y (by simp [hy])⟩,sp.2.1,M.sq,λx hx y hy=> ?_⟩
 ·have:=M.perm;simpa [List.append_assoc] using this
 ·rcases aCt.mp hx with hx | hx
  ·exact M.low x hx y (by rcases aCt.mp hy with z | z <;> simp [z])
  ·rcases aCt.mp hy with z | z
   ·exact sp.2.2 x hx y z
   ·exact h x hx y z
theorem Mg.right {lt:Keyed->Keyed->Bool} {all o u p q:List Keyed} (M:Mg lt all o p (u++q)) (h:∀x∈u,∀y∈p,lt y x=false):Mg lt all (o++u) p q:=by
 have sq:=aD2.mp M.sq;refine ⟨?_,aD2.mpr ⟨M.so,sq.1,λx hx y hy=> M.low x hx y (by simp [hy])⟩,M.sp,sq.2.1,λx hx y hy=> ?_⟩
 ·refine List.Perm.trans ?_ M.perm;rw [List.append_assoc];refine aF2 o ?_;rw [<-List.append_assoc,<-List.append_assoc];exact aEz q aF3
 ·rcases aCt.mp hx with hx | hx
  ·exact M.low x hx y (by rcases aCt.mp hy with z | z <;> simp [z])
  ·rcases aCt.mp hy with z | z
   ·exact h x hx y z
   ·exact sq.2.2 x hx y z
def Good (lt:Keyed->Keyed->Bool) (all r:List Keyed):Prop:=r.Perm all/\r.Pairwise λx y=> lt y x=false
theorem Mg.fin {lt:Keyed->Keyed->Bool} {all o p q:List Keyed} (M:Mg lt all o p q) (h:p=[]\/q=[]):Good lt all (o++(p++q)):=by
 refine ⟨M.perm,aD2.mpr ⟨M.so,?_,M.low⟩⟩;rcases h with rfl | rfl
 ·simpa using M.sq
 ·simpa using M.sp
theorem Mg.aC8 {lt:Keyed->Keyed->Bool} {all o q:List Keyed} {x:Keyed} (M:Mg lt all o [x] q) (h:∀y∈q,lt x y=false):Good lt all (o++(q++[x])):=by
 refine ⟨(aF2 o aF3).trans M.perm,aD2.mpr ⟨M.so,aD2.mpr ⟨M.sq,by simp,λa ha b hb=> ?_⟩,λa ha b hb=> M.low a ha b ?_⟩⟩
 ·have:b=x:=by simpa using hb
  rw [this];exact h a ha
 ·rcases aCt.mp hb with z | z <;> simp [z] <;> simp_all
def qC:Array Keyed->Array Keyed->StateT SortSt Sem (Array Keyed):=sortPriv% PySem.Builtin.mergeLo
def fZ (g:Nat):StateT SortSt Sem Unit:=modify λs=> SortSt.mk' (kindOf s) (arrOf s) (pendingOf s) g (failedOf s)
def eT (a b out:Array Keyed) (ia ib:Nat):Array Keyed:=out++a.extract ia a.size++b.extract ib b.size
def iM (a b out:Array Keyed) (ia ib:Nat):Array Keyed:=out++b.extract ib b.size++a.extract ia a.size
abbrev N8 := Option (Array Keyed) × Array Keyed × Nat × Nat × Nat × Nat × Nat
abbrev JT := Option (Array Keyed) × Array Keyed × Nat × Nat × Nat × Nat
abbrev NX := Option (Array Keyed) × Array Keyed × Nat × Nat × Nat
def Z7 (a b:Array Keyed) (mg ac bc:Nat) (out:Array Keyed) (ia ib:Nat):StateT SortSt Sem (ForInStep N8):=do
 let y<-elem' a ia
 if (ia+1+1==a.size)=true then pure (.done (some (iM a b (out.push y) (ia+1) ib),out.push y,ia+1,ib,mg,ac,bc))
 else if (decide (ac < 7) && decide (bc < 7))=true then pure (.done (none,out.push y,ia+1,ib,mg,ac,bc)) else pure (.yield (none,out.push y,ia+1,ib,mg,ac,bc))
def lo3 (a b:Array Keyed) (mg ac bc:Nat) (out:Array Keyed) (ia ib:Nat):StateT SortSt Sem (ForInStep N8):=do
 let x<-elem' a ia
 let r<-eM true x b ib (b.size - ib) 0
 match r with
 | some k=> if k > 0 then (if (ib+k==b.size)=true then pure (.done (some (eT a b (out++b.extract ib (ib+k)) ia (ib+k)),out++b.extract ib (ib+k),ia,ib+k,mg,ac,k)) else Z7 a b mg ac k (out++b.extract ib (ib+k)) ia (ib+k)) else Z7 a b mg ac k out ia ib
 | _=> pure (.done (some (eT a b out ia ib),out,ia,ib,mg,ac,bc))
def Z8 (a b:Array Keyed) (mg ac bc:Nat) (out:Array Keyed) (ia ib:Nat):StateT SortSt Sem (ForInStep N8):=do
 let y<-elem' b ib
 if (ib+1==b.size)=true then pure (.done (some (eT a b (out.push y) ia (ib+1)),out.push y,ia,ib+1,mg,ac,bc)) else lo3 a b mg ac bc (out.push y) ia (ib+1)
def lo1 (a b:Array Keyed) (mg ac bc:Nat) (out:Array Keyed) (ia ib:Nat):StateT SortSt Sem (ForInStep N8):=do
 fZ mg
 let x<-elem' b ib
 let r<-eM false x a ia (a.size - ia) 0
 match r with
 | some k=> if k > 0 then (if (ia+k+1==a.size)=true then pure (.done (some (iM a b (out++a.extract ia (ia+k)) (ia+k) ib),out++a.extract ia (ia+k),ia+k,ib,mg,k,bc)) else
   if (ia+k==a.size)=true then pure (.done (some (eT a b (out++a.extract ia (ia+k)) (ia+k) ib),out++a.extract ia (ia+k),ia+k,ib,mg,k,bc)) else Z8 a b mg k bc (out++a.extract ia (ia+k)) (ia+k) ib) else Z8 a b mg k bc out ia ib
 | _=> pure (.done (some (eT a b out ia ib),out,ia,ib,mg,ac,bc))
def loB (a b:Array Keyed) (mg:Nat) (c:JT):StateT SortSt Sem (ForInStep JT):=do
 let y<-elem' b c.snd.snd.snd.fst
 if (c.snd.snd.snd.fst+1==b.size)=true then pure (.done (some (eT a b (c.snd.fst.push y) c.snd.snd.fst (c.snd.snd.snd.fst+1)),c.snd.fst.push y,c.snd.snd.fst,c.snd.snd.snd.fst+1,0,c.snd.snd.snd.snd.snd+1))
 else if c.snd.snd.snd.snd.snd+1>=mg then pure (.done (none,c.snd.fst.push y,c.snd.snd.fst,c.snd.snd.snd.fst+1,0,c.snd.snd.snd.snd.snd+1))
 else pure (.yield (none,c.snd.fst.push y,c.snd.snd.fst,c.snd.snd.snd.fst+1,0,c.snd.snd.snd.snd.snd+1))
def loA (a b:Array Keyed) (mg:Nat) (c:JT):StateT SortSt Sem (ForInStep JT):=do
 let x<-elem' a c.snd.snd.fst
 if (c.snd.snd.fst+1+1==a.size)=true then pure (.done (some (iM a b (c.snd.fst.push x) (c.snd.snd.fst+1) c.snd.snd.snd.fst),c.snd.fst.push x,c.snd.snd.fst+1,c.snd.snd.snd.fst,c.snd.snd.snd.snd.fst+1,0))
 else if c.snd.snd.snd.snd.fst+1>=mg then pure (.done (none,c.snd.fst.push x,c.snd.snd.fst+1,c.snd.snd.snd.fst,c.snd.snd.snd.snd.fst+1,0))
 else pure (.yield (none,c.snd.fst.push x,c.snd.snd.fst+1,c.snd.snd.snd.fst,c.snd.snd.snd.snd.fst+1,0))
def YQ (a b:Array Keyed) (mg:Nat) (c:JT):StateT SortSt Sem (ForInStep JT):=do
 let y<-elem' b c.snd.snd.snd.fst
 let x<-elem' a c.snd.snd.fst
 let r<-lt' y x
 match r with
 | some bWins=> if bWins=true then loB a b mg c else loA a b mg c
 | _=> pure (.done (some (eT a b c.snd.fst c.snd.snd.fst c.snd.snd.snd.fst),c.snd.fst,c.snd.snd.fst,c.snd.snd.snd.fst,c.snd.snd.snd.snd.fst,c.snd.snd.snd.snd.snd))
def E1 (a b:Array Keyed) (c:NX):StateT SortSt Sem (ForInStep NX):=do
 let d<-forIn [:a.size+b.size] ((none,c.snd.fst,c.snd.snd.fst,c.snd.snd.snd.fst,0,0):JT) λ_ d=> YQ a b c.snd.snd.snd.snd d
 match d.fst with
 | some r=> pure (.done (some r,d.snd.fst,d.snd.snd.fst,d.snd.snd.snd.fst,c.snd.snd.snd.snd))
 | none=> do
  liftM (rule "list.sort.gallop")
  let e<-forIn [:a.size+b.size] ((none,d.snd.fst,d.snd.snd.fst,d.snd.snd.snd.fst,c.snd.snd.snd.snd+1,d.snd.snd.snd.snd.fst,d.snd.snd.snd.snd.snd):N8) λ_ e=>
   if e.snd.snd.snd.snd.fst > 1 then lo1 a b (e.snd.snd.snd.snd.fst - 1) e.snd.snd.snd.snd.snd.fst e.snd.snd.snd.snd.snd.snd e.snd.fst e.snd.snd.fst e.snd.snd.snd.fst else lo1 a b e.snd.snd.snd.snd.fst e.snd.snd.snd.snd.snd.fst e.snd.snd.snd.snd.snd.snd e.snd.fst e.snd.snd.fst e.snd.snd.snd.fst
  match e.fst with
  | some r=> pure (.done (some r,e.snd.fst,e.snd.snd.fst,e.snd.snd.snd.fst,e.snd.snd.snd.snd.fst))
  | none=> do
   fZ (e.snd.snd.snd.snd.fst+1)
   pure (.yield (none,e.snd.fst,e.snd.snd.fst,e.snd.snd.snd.fst,e.snd.snd.snd.snd.fst+1))
theorem B6 (a b:Array Keyed):qC a b=(do
 rule "list.sort.merge-lo"
 let total:=a.size+b.size;let mut out:Array Keyed:= #[<-elem' b 0];let mut ia:=0;let mut ib:=1
 if ib==b.size then return eT a b out ia ib
 if ia+1==a.size then return iM a b out ia ib
 let mut minGallop:=gallopOf (<-get)
 for _ in [0:total] do
  let mut acount:=0;let mut bcount:=0
  for _ in [0:total] do
   let some bWins<-lt' (<-elem' b ib) (<-elem' a ia) | return eT a b out ia ib
   if bWins then
    out:=out.push (<-elem' b ib);ib:=ib+1;bcount:=bcount+1;acount:=0
    if ib==b.size then return eT a b out ia ib
    if bcount>=minGallop then break
   else
    out:=out.push (<-elem' a ia);ia:=ia+1;acount:=acount+1;bcount:=0
    if ia+1==a.size then return iM a b out ia ib
    if acount>=minGallop then break
  rule "list.sort.gallop"
  minGallop:=minGallop+1
  for _ in [0:total] do
   if minGallop > 1 then minGallop:=minGallop - 1
   fZ minGallop
   let some k<-eM false (<-elem' b ib) a ia (a.size - ia) 0 | return eT a b out ia ib
   acount:=k
   if k > 0 then
    out:=out++a.extract ia (ia+k);ia:=ia+k
    if ia+1==a.size then return iM a b out ia ib
    if ia==a.size then return eT a b out ia ib
   out:=out.push (<-elem' b ib);ib:=ib+1
   if ib==b.size then return eT a b out ia ib
   let some k<-eM true (<-elem' a ia) b ib (b.size - ib) 0 | return eT a b out ia ib
   bcount:=k
   if k > 0 then
    out:=out++b.extract ib (ib+k);ib:=ib+k
    if ib==b.size then return eT a b out ia ib
   out:=out.push (<-elem' a ia);ia:=ia+1
   if ia+1==a.size then return iM a b out ia ib
   if acount < 7 && bcount < 7 then break
  minGallop:=minGallop+1
  fZ minGallop
 unsupported "internal:list.sort.merge-bound"):=rfl
theorem B5 (a b:Array Keyed):qC a b=(do
 liftM (rule "list.sort.merge-lo")
 let y<-elem' b 0
 if (1==b.size)=true then pure (eT a b #[y] 0 1)
 else if (0+1==a.size)=true then pure (iM a b #[y] 0 1)
 else do
  let g<-get
  let c<-forIn [:a.size+b.size] ((none,#[y],0,1,gallopOf g):NX) λ_ c=> E1 a b c
  match c.fst with
  | some r=> pure r
  | none=> unsupported "internal:list.sort.merge-bound"):=by
 rw [B6];refine aE4 λu=> ?_;refine aE4 λy=> ?_;refine aFp rfl (λ_=> rfl) (λ_=> ?_);refine aFp rfl (λ_=> rfl) (λ_=> ?_);refine aE4 λg=> ?_;have key:∀(f f' :Nat->NX->StateT SortSt Sem (ForInStep NX)) (k k' :NX->StateT SortSt Sem (Array Keyed)) (i:NX),f=f' ->k=k' ->(forIn [:a.size+b.size] i f >>=k)=(forIn [:a.size+b.size] i f' >>=k'):=λf f' k k' i h1 h2=> by rw [h1,h2]
 refine key _ _ _ _ _ (funext λx=> funext λc=> ?_) ?_
 ·have key2:∀(f f' :Nat->JT->StateT SortSt Sem (ForInStep JT)) (k k' :JT->StateT SortSt Sem (ForInStep NX)) (i:JT),f=f' ->k=k' ->(forIn [:a.size+b.size] i f >>=k)=(forIn [:a.size+b.size] i f' >>=k'):=λf f' k k' i h1 h2=> by rw [h1,h2]
  refine key2 _ _ _ _ _ (funext λx=> funext λd=> ?_) (funext λd=> ?_)
  ·rfl
  ·obtain ⟨d0,d1⟩:=d
   cases d0 with
   | some r=> rfl
   | none=>
    refine aE4 λv=> ?_;have key3:∀(f f' :Nat->N8->StateT SortSt Sem (ForInStep N8)) (k k' :N8->StateT SortSt Sem (ForInStep NX)) (i:N8),f=f' ->k=k' ->(forIn [:a.size+b.size] i f >>=k)=(forIn [:a.size+b.size] i f' >>=k'):=λf f' k k' i h1 h2=> by rw [h1,h2]
    refine key3 _ _ _ _ _ (funext λx=> funext λe=> ?_) (funext λe=> ?_)
    ·refine aFp rfl (λ_=> ?_) (λ_=> ?_)
     ·rfl
     ·rfl
    ·obtain ⟨e0,e1⟩:=e;cases e0 <;> rfl
 ·funext c;obtain ⟨c0,c1⟩:=c;cases c0 <;> rfl
def cC (s t:SortSt):Prop:=kindOf t=kindOf s/\arrOf t=arrOf s/\pendingOf t=pendingOf s/\failedOf t=failedOf s
theorem cC.refl (s:SortSt):cC s s:=⟨rfl,rfl,rfl,rfl⟩
theorem cC.trans {a b c:SortSt} (h:cC a b) (h' :cC b c):cC a c:=⟨h'.1.trans h.1,h'.2.1.trans h.2.1,h'.2.2.1.trans h.2.2.1,h'.2.2.2.trans h.2.2.2⟩
theorem qO {a:Array Keyed} {i:Nat} (h:i < a.size):a.toList.drop i=aW a i::a.toList.drop (i+1):=by
 have hl:i < a.toList.length:=by simpa using h
 rw [List.drop_eq_getElem_cons hl]
 have e:aW a i=a.toList[i]:=by
  have:=hV h;rw [getElem?_pos a i h] at this;have:=aD4 this;rw [<-this];simp
 rw [e]
theorem eK {a:Array Keyed} {i:Nat} (h:i < a.size):aW a i∈a.toList:=by
 have:=qO h;exact List.mem_of_mem_drop (i:=i) (by rw [this];exact aCq)
theorem dY {a:Array Keyed} {i:Nat} {x:Keyed} (h:x∈a.toList.drop i):∃j,i<=j/\j < a.size/\x=aW a j:=by
 obtain ⟨n,hn,e⟩:=aG9 h;simp only [List.length_drop,Array.length_toList] at hn;refine ⟨i+n,by omega,by omega,?_⟩
 have e2:aW a (i+n)=a.toList[i+n]'(by simp;omega):=by
  have:=hV (xs:=a) (i:=i+n) (by omega);rw [getElem?_pos a (i+n) (by omega)] at this;have:=aD4 this;rw [<-this];simp
 rw [e2,<-e];simp
theorem C5 {a:Array Keyed} {i k:Nat}:(a.extract i (i+k)).toList=(a.toList.drop i).take k:=by
 rw [Array.toList_extract,List.extract_eq_take_drop];congr 1;omega
theorem kI {a:Array Keyed} {i k:Nat} {x:Keyed} (h:x∈(a.toList.drop i).take k):∃j,j < k/\i+j < a.size/\x=aW a (i+j):=by
 obtain ⟨n,hn,e⟩:=aG9 h;simp only [List.length_take,List.length_drop,Array.length_toList] at hn;refine ⟨n,by omega,by omega,?_⟩
 have e2:aW a (i+n)=a.toList[i+n]'(by simp;omega):=by
  have:=hV (xs:=a) (i:=i+n) (by omega);rw [getElem?_pos a (i+n) (by omega)] at this;have:=aD4 this;rw [<-this];simp
 rw [e2,<-e];simp
theorem bE {lt:Keyed->Keyed->Bool} (O:Wk lt) {a:Array Keyed} (h:a.toList.Pairwise λx y=> lt y x=false):∀p q,p<=q->q < a.size->lt (aW a q) (aW a p)=false:=by
 intro p q hpq hq;by_cases e:p=q
 ·subst e;exact O.IY _
 ·rw [List.pairwise_iff_getElem] at h;have:=h p q (by simp;omega) (by simpa using hq) (by omega)
  have e2:∀i (hi:i < a.size),aW a i=a.toList[i]'(by simpa using hi):=λi hi=> by
   have:=hV (xs:=a) (i:=i) hi;rw [getElem?_pos a i hi] at this;have:=aD4 this;rw [<-this];simp
  rw [e2 p (by omega),e2 q hq];exact this
theorem vP (a b out:Array Keyed) (ia ib:Nat):(eT a b out ia ib).toList=out.toList++(a.toList.drop ia++b.toList.drop ib):=by
 unfold eT;simp only [Array.toList_append,Array.toList_extract,List.extract_eq_take_drop,List.append_assoc];rw [List.take_of_length_le (by simp),List.take_of_length_le (by simp)]
theorem C8 (a b out:Array Keyed) (ia ib:Nat):(iM a b out ia ib).toList=out.toList++(b.toList.drop ib++a.toList.drop ia):=by
 unfold iM;simp only [Array.toList_append,Array.toList_extract,List.extract_eq_take_drop,List.append_assoc];rw [List.take_of_length_le (by simp),List.take_of_length_le (by simp)]
section
variable {prog:Program} {w:World} {A:Around} {E:Value->Shared->Prop} {s:Shared} {a₀ a b:Array Keyed} {κ:SortKind} {lt:Keyed->Keyed->Bool}
structure DV (lt:Keyed->Keyed->Bool) (a₀ a b:Array Keyed):Prop where
 ma:∀x∈a.toList,x∈a₀.toList
 mb:∀x∈b.toList,x∈a₀.toList
 sa:a.toList.Pairwise λx y=> lt y x=false
 sb:b.toList.Pairwise λx y=> lt y x=false
 pa:1<=a.size
 pb:1<=b.size
 first:∀x∈a.toList,lt x (aW b 0)=false
 last:∀y∈b.toList,lt (aW a (a.size - 1)) y=false
abbrev qU (lt : Keyed -> Keyed -> Bool) (a b out : Array Keyed) (ia ib : Nat) : Prop := Mg lt (a.toList ++ b.toList) out.toList (a.toList.drop ia) (b.toList.drop ib)
theorem qU.xF (O:Wk lt) {a b out:Array Keyed} {ia ib:Nat} (M:qU lt a b out ia ib) (hb:ib < b.size) (h:∀z∈a.toList.drop ia,lt z (aW b ib)=false):qU lt a b (out.push (aW b ib)) ia (ib+1):=by
 unfold qU at*;rw [qO hb] at M;have:=Mg.right (u:=[aW b ib]) M (by simpa using h);simpa using this
theorem qU.xG (O:Wk lt) {a b out:Array Keyed} {ia ib:Nat} (M:qU lt a b out ia ib) (ha:ia < a.size) (h:∀z∈b.toList.drop ib,lt z (aW a ia)=false):qU lt a b (out.push (aW a ia)) (ia+1) ib:=by
 unfold qU at*;rw [qO ha] at M;have:=Mg.left (u:=[aW a ia]) M (by simpa using h);simpa using this
theorem qU.L3 {a b out:Array Keyed} {ia ib k:Nat} (M:qU lt a b out ia ib) (h:∀x∈(a.toList.drop ia).take k,∀y∈b.toList.drop ib,lt y x=false):qU lt a b (out++a.extract ia (ia+k)) (ia+k) ib:=by
 unfold qU at*;rw [<-List.take_append_drop k (a.toList.drop ia),List.drop_drop] at M;have:=Mg.left M h;rw [Array.toList_append,C5];exact this
theorem qU.L1 {a b out:Array Keyed} {ia ib k:Nat} (M:qU lt a b out ia ib) (h:∀x∈(b.toList.drop ib).take k,∀y∈a.toList.drop ia,lt y x=false):qU lt a b (out++b.extract ib (ib+k)) ia (ib+k):=by
 unfold qU at*;rw [<-List.take_append_drop k (b.toList.drop ib),List.drop_drop] at M;have:=Mg.right M h;rw [Array.toList_append,C5];exact this
theorem qU.zX {a b out:Array Keyed} {ia ib:Nat} (M:qU lt a b out ia ib) (h:ib=b.size):Good lt (a.toList++b.toList) (eT a b out ia ib).toList:=by
 rw [vP];exact Mg.fin M (.inr (by rw [h];simp))
theorem qU.FI {a b out:Array Keyed} {ia ib:Nat} (M:qU lt a b out ia ib) (h:ia=a.size):Good lt (a.toList++b.toList) (eT a b out ia ib).toList:=by
 rw [vP];exact Mg.fin M (.inl (by rw [h];simp))
theorem qU.G1 (T:DV lt a₀ a b) {out:Array Keyed} {ia ib:Nat} (M:qU lt a b out ia ib) (h:ia+1=a.size):Good lt (a.toList++b.toList) (iM a b out ia ib).toList:=by
 rw [C8];unfold qU at M
 have e:a.toList.drop ia=[aW a ia]:=by
  rw [qO (by omega),List.drop_of_length_le (by simp;omega)]
 rw [e] at M⊢;refine Mg.aC8 M λy hy=> ?_;have:=T.last y (List.mem_of_mem_drop hy)
 rwa [show a.size - 1=ia by omega] at this
structure J (lt:Keyed->Keyed->Bool) (a b out:Array Keyed) (ia ib:Nat):Prop where
 m:qU lt a b out ia ib
 ha:ia+1 < a.size
 hb:ib < b.size
 n:out.size=ia+ib
def After (lt:Keyed->Keyed->Bool) (a b:Array Keyed) (n:Nat) {γ:Type} (c:Option (Array Keyed)×Array Keyed×Nat×Nat×γ):Prop:=
 (∃r,c.1=some r/\Good lt (a.toList++b.toList) r.toList)\/(c.1=none/\J lt a b c.2.1 c.2.2.1 c.2.2.2.1/\n<=c.2.1.size)
def oF (lt:Keyed->Keyed->Bool) (a b:Array Keyed) (n:Nat) {γ:Type} (st:SortSt) (r:ForInStep (Option (Array Keyed)×Array Keyed×Nat×Nat×γ)) (st' :SortSt):Prop:=
 cC st st' /\match r with | .done c=> After lt a b n c | .yield c=> c.1=none/\After lt a b n c
theorem W4 (O:Wk lt) (T:DV lt a₀ a b) {st:SortSt} {mg ac bc:Nat} {out:Array Keyed} {ia ib n:Nat} (M:qU lt a b out ia ib) (ha:ia+1 < a.size) (hb:ib < b.size) (hn:out.size=ia+ib) (hn2:n<=out.size+1) (h:∀z∈b.toList.drop ib,lt z (aW a ia)=false):
  wpS (model prog w) A E s (Z7 a b mg ac bc out ia ib) (oF lt a b n st) st:=by
 unfold Z7;refine aCw (dO (by omega) ?_);have M2:=M.xG O (by omega) h;by_cases c:ia+1+1=a.size
 ·rw [if_pos (by simp [c])];exact aD0 ⟨cC.refl _,.inl ⟨_,rfl,M2.G1 T c⟩⟩
 ·rw [if_neg (by simp [c])]
  have j:J lt a b (out.push (aW a ia)) (ia+1) ib:=⟨M2,by omega,hb,by simp;omega⟩
  split
  ·exact aD0 ⟨cC.refl _,.inr ⟨rfl,j,by simpa using hn2⟩⟩
  ·exact aD0 ⟨cC.refl _,rfl,.inr ⟨rfl,j,by simpa using hn2⟩⟩
theorem aAe (O:Wk lt) (C:nL prog w A s κ lt a₀) (T:DV lt a₀ a b) {st:SortSt} {mg ac bc:Nat} {out:Array Keyed} {ia ib n:Nat} (hk:kindOf st=κ) (M:qU lt a b out ia ib) (ha:ia+1 < a.size) (hb:ib < b.size) (hn:out.size=ia+ib) (hn2:n<=out.size+1):
  wpS (model prog w) A E s (lo3 a b mg ac bc out ia ib) (oF lt a b n st) st:=by
 unfold lo3;have sga:=bE O T.sa;have sgb:=bE O T.sb;refine aCw (dO (by omega) ?_);refine aCw (mW O C hk (by omega) (by omega) (λp q h1 h2 h3=> sgb p q h2 (by omega)) (λi hi=> T.mb _ (eK (by omega))) (T.ma _ (eK (by omega))) λk hk1 h1 h2=> ?_)
 have key:∀z∈a.toList.drop ia,lt z (aW a ia)=false:=λz hz=> by
  obtain ⟨j,hj1,hj2,rfl⟩:=dY hz;exact sga _ _ hj1 hj2
 have b1:∀x∈(b.toList.drop ib).take k,∀y∈a.toList.drop ia,lt y x=false:=λx hx y hy=> by
  obtain ⟨j,hj1,hj2,rfl⟩:=kI hx;have e:=h1 j hj1;simp only [kS,if_true] at e;exact O.tr _ _ _ (O.rM _ _ e) (key y hy)
 have b2:∀z∈b.toList.drop (ib+k),lt z (aW a ia)=false:=λz hz=> by
  obtain ⟨j,hj1,hj2,rfl⟩:=dY hz;have e:=h2 (j - ib) (by omega) (by omega);simp only [kS,if_true] at e
  rwa [show ib+(j - ib)=j by omega] at e
 dsimp only;by_cases c:k > 0
 ·rw [if_pos c];have M2:=M.L1 b1;by_cases c2:ib+k=b.size
  ·rw [if_pos (by simp [c2])];exact aD0 ⟨cC.refl _,.inl ⟨_,rfl,M2.zX c2⟩⟩
  ·rw [if_neg (by simp [c2])];have sz:(b.extract ib (ib+k)).size=k:=by rw [Array.size_extract];omega
   exact W4 O T M2 ha (by omega) (by rw [Array.size_append,sz];omega) (by rw [Array.size_append,sz];omega) b2
 ·obtain rfl:k=0:=by omega
  rw [if_neg (by omega)];exact W4 O T M ha hb hn hn2 b2
theorem W5 (O:Wk lt) (C:nL prog w A s κ lt a₀) (T:DV lt a₀ a b) {st:SortSt} {mg ac bc:Nat} {out:Array Keyed} {ia ib n:Nat} (hk:kindOf st=κ) (M:qU lt a b out ia ib) (ha:ia+1 < a.size) (hb:ib < b.size) (hn:out.size=ia+ib) (hn2:n<=out.size+1) (h:∀z∈a.toList.drop ia,lt z (aW b ib)=false):
  wpS (model prog w) A E s (Z8 a b mg ac bc out ia ib) (oF lt a b n st) st:=by
 unfold Z8;refine aCw (dO (by omega) ?_);have M2:=M.xF O hb h;by_cases c:ib+1=b.size
 ·rw [if_pos (by simp [c])];exact aD0 ⟨cC.refl _,.inl ⟨_,rfl,M2.zX c⟩⟩
 ·rw [if_neg (by simp [c])];exact aAe O C T hk M2 ha (by omega) (by simp;omega) (by simp;omega)
theorem sW {st:SortSt} {g:Nat} {Q:Unit->SortSt->Prop} (h:∀st',cC st st' ->Q () st'):wpS (model prog w) A E s (fZ g) Q st:=by
 unfold fZ;exact aG1 (h _ ⟨rfl,rfl,rfl,rfl⟩)
theorem D8 {n:Nat} {γ:Type} {st st1 st2:SortSt} {r:ForInStep (Option (Array Keyed)×Array Keyed×Nat×Nat×γ)} {a b:Array Keyed} (h:cC st st1) (q:oF lt a b n st1 r st2):oF lt a b n st r st2:=⟨h.trans q.1,q.2⟩
theorem W6 (O:Wk lt) (C:nL prog w A s κ lt a₀) (T:DV lt a₀ a b) {st:SortSt} {mg ac bc:Nat} {out:Array Keyed} {ia ib n:Nat} (hk:kindOf st=κ) (j:J lt a b out ia ib) (hn2:n<=out.size+1):
  wpS (model prog w) A E s (lo1 a b mg ac bc out ia ib) (oF lt a b n st) st:=by
 unfold lo1;obtain ⟨M,ha,hb,hn⟩:=j;have sga:=bE O T.sa;have sgb:=bE O T.sb;refine aCw (sW λst1 same=> ?_);refine aEp ?_ λr st2 q=> D8 same q;have hk1:kindOf st1=κ:=same.1.trans hk;refine aCw (dO (by omega) ?_);refine aCw (mW O C hk1 (by omega) (by omega) (λp q h1 h2 h3=> sga p q h2 (by omega)) (λi hi=> T.ma _ (eK (by omega))) (T.mb _ (eK (by omega))) λk hk2 h1 h2=> ?_)
 have key:∀z∈b.toList.drop ib,lt z (aW b ib)=false:=λz hz=> by
  obtain ⟨j,hj1,hj2,rfl⟩:=dY hz;exact sgb _ _ hj1 hj2
 have b1:∀x∈(a.toList.drop ia).take k,∀y∈b.toList.drop ib,lt y x=false:=λx hx y hy=> by
  obtain ⟨j,hj1,hj2,rfl⟩:=kI hx;have e:=h1 j hj1;simp only [kS,Bool.false_eq_true,if_false,Bool.not_eq_true'] at e;exact O.tr _ _ _ e (key y hy)
 have b2:∀z∈a.toList.drop (ia+k),lt z (aW b ib)=false:=λz hz=> by
  obtain ⟨j,hj1,hj2,rfl⟩:=dY hz;have e:=h2 (j - ia) (by omega) (by omega);simp only [kS,Bool.false_eq_true,if_false,Bool.not_eq_false'] at e;rw [show ia+(j - ia)=j by omega] at e;exact O.rM _ _ e
 dsimp only;by_cases c:k > 0
 ·rw [if_pos c];have M2:=M.L3 b1;by_cases c1:ia+k+1=a.size
  ·rw [if_pos (by simp [c1])];exact aD0 ⟨cC.refl _,.inl ⟨_,rfl,M2.G1 T c1⟩⟩
  ·rw [if_neg (by simp [c1])];by_cases c2:ia+k=a.size
   ·rw [if_pos (by simp [c2])];exact aD0 ⟨cC.refl _,.inl ⟨_,rfl,M2.FI c2⟩⟩
   ·rw [if_neg (by simp [c2])];have sz:(a.extract ia (ia+k)).size=k:=by rw [Array.size_extract];omega
    exact W5 O C T hk1 M2 (by omega) hb (by rw [Array.size_append,sz];omega) (by rw [Array.size_append,sz];omega) b2
 ·obtain rfl:k=0:=by omega
  rw [if_neg (by omega)];exact W5 O C T hk1 M ha hb hn hn2 b2
theorem aAf (O:Wk lt) (C:nL prog w A s κ lt a₀) (T:DV lt a₀ a b) {st:SortSt} {mg:Nat} {c:JT} {n:Nat} (hk:kindOf st=κ) (j:J lt a b c.2.1 c.2.2.1 c.2.2.2.1) (hn2:n<=c.2.1.size+1):
  wpS (model prog w) A E s (YQ a b mg c) (oF lt a b n st) st:=by
 obtain ⟨M,ha,hb,hn⟩:=j;have sga:=bE O T.sa;have sgb:=bE O T.sb;unfold YQ;refine aCw (dO hb ?_);refine aCw (dO (by omega) ?_);refine aCw (WZ C hk (T.mb _ (eK hb)) (T.ma _ (eK (by omega))) ?_);dsimp only
 cases hlt:lt (aW b c.2.2.2.1) (aW a c.2.2.1) with
 | true=>
  rw [if_pos rfl];unfold loB;refine aCw (dO hb ?_)
  have M2:=M.xF O hb λz hz=> by
   obtain ⟨j,hj1,hj2,rfl⟩:=dY hz;exact O.tr _ _ _ (O.rM _ _ hlt) (sga _ _ hj1 hj2)
  by_cases c1:c.2.2.2.1+1=b.size
  ·rw [if_pos (by simpa using c1)];exact aD0 ⟨cC.refl _,.inl ⟨_,rfl,M2.zX c1⟩⟩
  ·rw [if_neg (by simpa using c1)]
   have j2:J lt a b (c.2.1.push (aW b c.2.2.2.1)) c.2.2.1 (c.2.2.2.1+1):=⟨M2,ha,by omega,by simp;omega⟩
   split
   ·exact aD0 ⟨cC.refl _,.inr ⟨rfl,j2,by simpa using hn2⟩⟩
   ·exact aD0 ⟨cC.refl _,rfl,.inr ⟨rfl,j2,by simpa using hn2⟩⟩
 | false=>
  rw [if_neg Bool.false_ne_true];unfold loA;refine aCw (dO (by omega) ?_)
  have M2:=M.xG O (by omega) λz hz=> by
   obtain ⟨j,hj1,hj2,rfl⟩:=dY hz;exact O.tr _ _ _ hlt (sgb _ _ hj1 hj2)
  by_cases c1:c.2.2.1+1+1=a.size
  ·rw [if_pos (by simpa using c1)];exact aD0 ⟨cC.refl _,.inl ⟨_,rfl,M2.G1 T c1⟩⟩
  ·rw [if_neg (by simpa using c1)]
   have j2:J lt a b (c.2.1.push (aW a c.2.2.1)) (c.2.2.1+1) c.2.2.2.1:=⟨M2,by omega,hb,by simp;omega⟩
   split
   ·exact aD0 ⟨cC.refl _,.inr ⟨rfl,j2,by simpa using hn2⟩⟩
   ·exact aD0 ⟨cC.refl _,rfl,.inr ⟨rfl,j2,by simpa using hn2⟩⟩
theorem D1 {γ:Type} {a b:Array Keyed} {f:Nat->(Option (Array Keyed)×Array Keyed×Nat×Nat×γ)->StateT SortSt Sem (ForInStep (Option (Array Keyed)×Array Keyed×Nat×Nat×γ))} {c:Option (Array Keyed)×Array Keyed×Nat×Nat×γ} {st:SortSt} {Q:(Option (Array Keyed)×Array Keyed×Nat×Nat×γ)->SortSt->Prop} (Dn:(Option (Array Keyed)×Array Keyed×Nat×Nat×γ)->Prop) (n:Nat)
  (hc:c.1=none) (j:J lt a b c.2.1 c.2.2.1 c.2.2.2.1) (hn:n=c.2.1.size)
  (step:∀i c' st',cC st st' ->c'.1=none->J lt a b c'.2.1 c'.2.2.1 c'.2.2.2.1->n+i<=c'.2.1.size->wpS (model prog w) A E s (f i c') (λr st2=> oF lt a b (c'.2.1.size+1) st' r st2/\∀c2,r= .done c2->Dn c2) st')
  (h:∀c' st',cC st st' ->Dn c' ->After lt a b (n+1) c' ->Q c' st'):wpS (model prog w) A E s (forIn [:a.size+b.size] c f) Q st:=by
 refine aEc (I:=λi c' st' => cC st st' /\c'.1=none/\J lt a b c'.2.1 c'.2.2.1 c'.2.2.2.1/\n+i<=c'.2.1.size) ?_ ?_ ⟨cC.refl _,hc,j,by omega⟩
 ·rintro i c' st' _ hi ⟨sm,h1,h2,h3⟩;refine aEp (step i c' st' sm h1 h2 h3) λr st2 q=> ?_;obtain ⟨⟨q1,q2⟩,dn⟩:=q
  cases r with
  | done c2=>
   refine h c2 st2 (sm.trans q1) (dn c2 rfl) ?_;rcases q2 with q2 | ⟨z1,z2,z3⟩
   ·exact .inl q2
   ·exact .inr ⟨z1,z2,by omega⟩
  | yield c2=>
   obtain ⟨z0,z | ⟨z1,z2,z3⟩⟩:=q2
   ·obtain ⟨r,e,_⟩:=z;rw [z0] at e;cases e
   ·exact ⟨sm.trans q1,z1,z2,by omega⟩
 ·rintro c' st' ⟨_,_,h2,h3⟩;exfalso;have:=h2.n;have:=h2.ha;have:=h2.hb;simp at h3;omega
end
section
variable {prog:Program} {w:World} {A:Around} {E:Value->Shared->Prop} {s:Shared} {a₀ a b:Array Keyed} {κ:SortKind} {lt:Keyed->Keyed->Bool}
theorem OG (O:Wk lt) (C:nL prog w A s κ lt a₀) (T:DV lt a₀ a b) {st:SortSt} {c:NX} (hk:kindOf st=κ) (j:J lt a b c.2.1 c.2.2.1 c.2.2.2.1):
  wpS (model prog w) A E s (E1 a b c) (λr st2=> oF lt a b (c.2.1.size+1) st r st2/\∀c2,r= .done c2->∃x,c2.1=some x) st:=by
 unfold E1;refine aCw (D1 (lt:=lt) (c:=((none,c.snd.fst,c.snd.snd.fst,c.snd.snd.snd.fst,0,0):JT)) (λ_=> True) c.2.1.size rfl j rfl (λi c' st' sm _ j' _=> aEp (aAf O C T (sm.1.trans hk) j' (aCs _)) λ_ _ q=> ⟨q,λ_ _=> trivial⟩) λd st1 sm1 _ af=> ?_);obtain ⟨d0,d1⟩:=d
 rcases af with ⟨r,hr,g⟩ | ⟨hr,j1,n1⟩
 ·dsimp only at hr;subst hr;exact aD0 ⟨⟨sm1,.inl ⟨r,rfl,g⟩⟩,λc2 e=> by cases e;exact ⟨r,rfl⟩⟩
 ·dsimp only at hr j1 n1;subst hr;dsimp only;refine aCw (wpS_lift (aE2 ⟨rfl,?_⟩));refine aCw (D1 (lt:=lt) (c:=((none,d1.fst,d1.snd.fst,d1.snd.snd.fst,c.snd.snd.snd.snd+1,d1.snd.snd.snd.fst,d1.snd.snd.snd.snd):N8)) (λ_=> True) d1.1.size rfl j1 rfl (λi c' st' sm _ j' _=> aEp (Q:=oF lt a b (c'.2.1.size+1) st') ?_ λ_ _ q=> ⟨q,λ_ _=> trivial⟩) λe st2 sm2 _ af2=> ?_)
  ·split
   ·exact W6 O C T (sm.1.trans (sm1.1.trans hk)) j' (aCs _)
   ·exact W6 O C T (sm.1.trans (sm1.1.trans hk)) j' (aCs _)
  ·obtain ⟨e0,e1⟩:=e
   rcases af2 with ⟨r,hr,g⟩ | ⟨hr,j2,n2⟩
   ·dsimp only at hr;subst hr;exact aD0 ⟨⟨sm1.trans sm2,.inl ⟨r,rfl,g⟩⟩,λc2 e=> by cases e;exact ⟨r,rfl⟩⟩
   ·dsimp only at hr j2 n2;subst hr;dsimp only;refine aCw (sW λst3 sm3=> ?_);exact aD0 ⟨⟨(sm1.trans sm2).trans sm3,rfl,.inr ⟨rfl,j2,by dsimp only;omega⟩⟩,λc2 e=> by cases e⟩
theorem J6 (O:Wk lt) (C:nL prog w A s κ lt a₀) (T:DV lt a₀ a b) {st:SortSt} {Q:Array Keyed->SortSt->Prop} (hk:kindOf st=κ)
  (h:∀r st',cC st st' ->Good lt (a.toList++b.toList) r.toList->Q r st'):wpS (model prog w) A E s (qC a b) Q st:=by
 rw [B5];have pa:=T.pa;have pb:=T.pb;refine aCw (wpS_lift (aE2 ⟨rfl,?_⟩));refine aCw (dO (by omega) ?_)
 have M0:qU lt a b #[] 0 0:=⟨by simp,by simp,by simpa using T.sa,by simpa using T.sb,by simp⟩
 have M1:qU lt a b #[aW b 0] 0 1:=by
  have:=M0.xF O (by omega) λz hz=> T.first z (by simpa using hz);simpa using this
 by_cases c1:1=b.size
 ·rw [if_pos (by simp [c1])];exact aD0 (h _ _ (cC.refl _) (M1.zX c1))
 ·rw [if_neg (by simpa using c1)];by_cases c2:0+1=a.size
  ·rw [if_pos (by simpa using c2)];exact aD0 (h _ _ (cC.refl _) (M1.G1 T c2))
  ·rw [if_neg (by simpa using c2)];refine aCw (wpS_get ?_)
   have j:J lt a b #[aW b 0] 0 1:=⟨M1,by omega,by omega,by simp⟩
   refine aCw (D1 (lt:=lt) (c:=((none,#[aW b 0],0,1,gallopOf st):NX)) (λc=> ∃x,c.1=some x) 1 rfl j rfl (λi c' st' sm _ j' _=> OG O C T (sm.1.trans hk) j') λd st1 sm1 dn af=> ?_);obtain ⟨d0,d1⟩:=d;obtain ⟨x,e⟩:=dn;dsimp only at e;subst e
   rcases af with ⟨r,hr,g⟩ | ⟨hr,_⟩
   ·dsimp only at hr;cases hr;exact aD0 (h x st1 sm1 g)
   ·cases hr
end
def qD:Array Keyed->Array Keyed->StateT SortSt Sem (Array Keyed):=sortPriv% PySem.Builtin.mergeHi
def fE (a b out:Array Keyed) (na nb:Nat):Array Keyed:=a.extract 0 na++b.extract 0 nb++out.reverse
def iN (a b out:Array Keyed) (na nb:Nat):Array Keyed:=b.extract 0 nb++a.extract 0 na++out.reverse
abbrev OB := Option (Array Keyed) × Nat × Nat × Array Keyed × Nat × Nat × Nat
abbrev JX := Option (Array Keyed) × Nat × Nat × Array Keyed × Nat × Nat
abbrev NZ := Option (Array Keyed) × Nat × Nat × Array Keyed × Nat
def hi4 (a b:Array Keyed) (mg ac bc:Nat) (out:Array Keyed) (na nb:Nat):StateT SortSt Sem (ForInStep OB):=do
 let y<-elem' a (na - 1)
 if (na - 1==0)=true then pure (.done (some (fE a b (out.push y) (na - 1) nb),na - 1,nb,out.push y,mg,ac,bc))
 else if (decide (ac < 7) && decide (bc < 7))=true then pure (.done (none,na - 1,nb,out.push y,mg,ac,bc)) else pure (.yield (none,na - 1,nb,out.push y,mg,ac,bc))
def hi3 (a b:Array Keyed) (mg ac bc:Nat) (out:Array Keyed) (na nb:Nat):StateT SortSt Sem (ForInStep OB):=do
 let x<-elem' a (na - 1)
 let r<-eM true x b 0 nb (nb - 1)
 match r with
 | some k=> if nb - k > 0 then (if (k==1)=true then pure (.done (some (iN a b (out++(b.extract k nb).reverse) na k),na,k,out++(b.extract k nb).reverse,mg,ac,nb - k)) else
   if (k==0)=true then pure (.done (some (fE a b (out++(b.extract k nb).reverse) na k),na,k,out++(b.extract k nb).reverse,mg,ac,nb - k)) else hi4 a b mg ac (nb - k) (out++(b.extract k nb).reverse) na k) else hi4 a b mg ac (nb - k) out na nb
 | _=> pure (.done (some (fE a b out na nb),na,nb,out,mg,ac,bc))
def VG (a b:Array Keyed) (mg ac bc:Nat) (out:Array Keyed) (na nb:Nat):StateT SortSt Sem (ForInStep OB):=do
 let y<-elem' b (nb - 1)
 if (nb - 1==1)=true then pure (.done (some (iN a b (out.push y) na (nb - 1)),na,nb - 1,out.push y,mg,ac,bc)) else hi3 a b mg ac bc (out.push y) na (nb - 1)
def hi1 (a b:Array Keyed) (mg ac bc:Nat) (out:Array Keyed) (na nb:Nat):StateT SortSt Sem (ForInStep OB):=do
 fZ mg
 let x<-elem' b (nb - 1)
 let r<-eM false x a 0 na (na - 1)
 match r with
 | some k=> if na - k > 0 then (if (k==0)=true then pure (.done (some (fE a b (out++(a.extract k na).reverse) k nb),k,nb,out++(a.extract k na).reverse,mg,na - k,bc)) else VG a b mg (na - k) bc (out++(a.extract k na).reverse) k nb) else VG a b mg (na - k) bc out na nb
 | _=> pure (.done (some (fE a b out na nb),na,nb,out,mg,ac,bc))
def hiA (a b:Array Keyed) (mg:Nat) (c:JX):StateT SortSt Sem (ForInStep JX):=do
 let y<-elem' a (c.snd.fst - 1)
 if (c.snd.fst - 1==0)=true then pure (.done (some (fE a b (c.snd.snd.snd.fst.push y) (c.snd.fst - 1) c.snd.snd.fst),c.snd.fst - 1,c.snd.snd.fst,c.snd.snd.snd.fst.push y,c.snd.snd.snd.snd.fst+1,0))
 else if c.snd.snd.snd.snd.fst+1>=mg then pure (.done (none,c.snd.fst - 1,c.snd.snd.fst,c.snd.snd.snd.fst.push y,c.snd.snd.snd.snd.fst+1,0))
 else pure (.yield (none,c.snd.fst - 1,c.snd.snd.fst,c.snd.snd.snd.fst.push y,c.snd.snd.snd.snd.fst+1,0))
def hiB (a b:Array Keyed) (mg:Nat) (c:JX):StateT SortSt Sem (ForInStep JX):=do
 let x<-elem' b (c.snd.snd.fst - 1)
 if (c.snd.snd.fst - 1==1)=true then pure (.done (some (iN a b (c.snd.snd.snd.fst.push x) c.snd.fst (c.snd.snd.fst - 1)),c.snd.fst,c.snd.snd.fst - 1,c.snd.snd.snd.fst.push x,0,c.snd.snd.snd.snd.snd+1))
 else if c.snd.snd.snd.snd.snd+1>=mg then pure (.done (none,c.snd.fst,c.snd.snd.fst - 1,c.snd.snd.snd.fst.push x,0,c.snd.snd.snd.snd.snd+1))
 else pure (.yield (none,c.snd.fst,c.snd.snd.fst - 1,c.snd.snd.snd.fst.push x,0,c.snd.snd.snd.snd.snd+1))
def Y1 (a b:Array Keyed) (mg:Nat) (c:JX):StateT SortSt Sem (ForInStep JX):=do
 let y<-elem' b (c.snd.snd.fst - 1)
 let x<-elem' a (c.snd.fst - 1)
 let r<-lt' y x
 match r with
 | some aWins=> if aWins=true then hiA a b mg c else hiB a b mg c
 | _=> pure (.done (some (fE a b c.snd.snd.snd.fst c.snd.fst c.snd.snd.fst),c.snd.fst,c.snd.snd.fst,c.snd.snd.snd.fst,c.snd.snd.snd.snd.fst,c.snd.snd.snd.snd.snd))
def FA (a b:Array Keyed) (c:NZ):StateT SortSt Sem (ForInStep NZ):=do
 let d<-forIn [:a.size+b.size] ((none,c.snd.fst,c.snd.snd.fst,c.snd.snd.snd.fst,0,0):JX) λ_ d=> Y1 a b c.snd.snd.snd.snd d
 match d.fst with
 | some r=> pure (.done (some r,d.snd.fst,d.snd.snd.fst,d.snd.snd.snd.fst,c.snd.snd.snd.snd))
 | none=> do
  liftM (rule "list.sort.gallop")
  let e<-forIn [:a.size+b.size] ((none,d.snd.fst,d.snd.snd.fst,d.snd.snd.snd.fst,c.snd.snd.snd.snd+1,d.snd.snd.snd.snd.fst,d.snd.snd.snd.snd.snd):OB) λ_ e=>
   if e.snd.snd.snd.snd.fst > 1 then hi1 a b (e.snd.snd.snd.snd.fst - 1) e.snd.snd.snd.snd.snd.fst e.snd.snd.snd.snd.snd.snd e.snd.snd.snd.fst e.snd.fst e.snd.snd.fst else hi1 a b e.snd.snd.snd.snd.fst e.snd.snd.snd.snd.snd.fst e.snd.snd.snd.snd.snd.snd e.snd.snd.snd.fst e.snd.fst e.snd.snd.fst
  match e.fst with
  | some r=> pure (.done (some r,e.snd.fst,e.snd.snd.fst,e.snd.snd.snd.fst,e.snd.snd.snd.snd.fst))
  | none=> do
   fZ (e.snd.snd.snd.snd.fst+1)
   pure (.yield (none,e.snd.fst,e.snd.snd.fst,e.snd.snd.snd.fst,e.snd.snd.snd.snd.fst+1))
theorem B8 (a b:Array Keyed):qD a b=(do
 rule "list.sort.merge-hi"
 let total:=a.size+b.size;let mut na:=a.size - 1;let mut nb:=b.size;let mut out:Array Keyed:= #[<-elem' a na]
 if na==0 then return fE a b out na nb
 if nb==1 then return iN a b out na nb
 let mut minGallop:=gallopOf (<-get)
 for _ in [0:total] do
  let mut acount:=0;let mut bcount:=0
  for _ in [0:total] do
   let some aWins<-lt' (<-elem' b (nb - 1)) (<-elem' a (na - 1)) | return fE a b out na nb
   if aWins then
    na:=na - 1;out:=out.push (<-elem' a na);acount:=acount+1;bcount:=0
    if na==0 then return fE a b out na nb
    if acount>=minGallop then break
   else
    nb:=nb - 1;out:=out.push (<-elem' b nb);bcount:=bcount+1;acount:=0
    if nb==1 then return iN a b out na nb
    if bcount>=minGallop then break
  rule "list.sort.gallop"
  minGallop:=minGallop+1
  for _ in [0:total] do
   if minGallop > 1 then minGallop:=minGallop - 1
   fZ minGallop
   let some at_<-eM false (<-elem' b (nb - 1)) a 0 na (na - 1) | return fE a b out na nb
   let k:=na - at_
   acount:=k
   if k > 0 then
    out:=out++(a.extract at_ na).reverse;na:=at_
    if na==0 then return fE a b out na nb
   nb:=nb - 1;out:=out.push (<-elem' b nb)
   if nb==1 then return iN a b out na nb
   let some at_<-eM true (<-elem' a (na - 1)) b 0 nb (nb - 1) | return fE a b out na nb
   let k:=nb - at_
   bcount:=k
   if k > 0 then
    out:=out++(b.extract at_ nb).reverse;nb:=at_
    if nb==1 then return iN a b out na nb
    if nb==0 then return fE a b out na nb
   na:=na - 1;out:=out.push (<-elem' a na)
   if na==0 then return fE a b out na nb
   if acount < 7 && bcount < 7 then break
  minGallop:=minGallop+1
  fZ minGallop
 unsupported "internal:list.sort.merge-bound"):=rfl
theorem B7 (a b:Array Keyed):qD a b=(do
 liftM (rule "list.sort.merge-hi")
 let y<-elem' a (a.size - 1)
 if (a.size - 1==0)=true then pure (fE a b #[y] (a.size - 1) b.size)
 else if (b.size==1)=true then pure (iN a b #[y] (a.size - 1) b.size)
 else do
  let g<-get
  let c<-forIn [:a.size+b.size] ((none,a.size - 1,b.size,#[y],gallopOf g):NZ) λ_ c=> FA a b c
  match c.fst with
  | some r=> pure r
  | none=> unsupported "internal:list.sort.merge-bound"):=by
 rw [B8];refine aE4 λu=> ?_;refine aE4 λy=> ?_;refine aFp rfl (λ_=> rfl) (λ_=> ?_);refine aFp rfl (λ_=> rfl) (λ_=> ?_);refine aE4 λg=> ?_;have key:∀(f f' :Nat->NZ->StateT SortSt Sem (ForInStep NZ)) (k k' :NZ->StateT SortSt Sem (Array Keyed)) (i:NZ),f=f' ->k=k' ->(forIn [:a.size+b.size] i f >>=k)=(forIn [:a.size+b.size] i f' >>=k'):=λf f' k k' i h1 h2=> by rw [h1,h2]
 refine key _ _ _ _ _ (funext λx=> funext λc=> ?_) ?_
 ·have key2:∀(f f' :Nat->JX->StateT SortSt Sem (ForInStep JX)) (k k' :JX->StateT SortSt Sem (ForInStep NZ)) (i:JX),f=f' ->k=k' ->(forIn [:a.size+b.size] i f >>=k)=(forIn [:a.size+b.size] i f' >>=k'):=λf f' k k' i h1 h2=> by rw [h1,h2]
  refine key2 _ _ _ _ _ (funext λx=> funext λd=> ?_) (funext λd=> ?_)
  ·rfl
  ·obtain ⟨d0,d1⟩:=d
   cases d0 with
   | some r=> rfl
   | none=>
    refine aE4 λv=> ?_;have key3:∀(f f' :Nat->OB->StateT SortSt Sem (ForInStep OB)) (k k' :OB->StateT SortSt Sem (ForInStep NZ)) (i:OB),f=f' ->k=k' ->(forIn [:a.size+b.size] i f >>=k)=(forIn [:a.size+b.size] i f' >>=k'):=λf f' k k' i h1 h2=> by rw [h1,h2]
    refine key3 _ _ _ _ _ (funext λx=> funext λe=> ?_) (funext λe=> ?_)
    ·refine aFp rfl (λ_=> ?_) (λ_=> ?_)
     ·rfl
     ·rfl
    ·obtain ⟨e0,e1⟩:=e;cases e0 <;> rfl
 ·funext c;obtain ⟨c0,c1⟩:=c;cases c0 <;> rfl
structure Mh (lt:Keyed->Keyed->Bool) (all p q o:List Keyed):Prop where
 perm:(p++(q++o)).Perm all
 so:o.Pairwise λx y=> lt y x=false
 sp:p.Pairwise λx y=> lt y x=false
 sq:q.Pairwise λx y=> lt y x=false
 high:∀x∈p++q,∀y∈o,lt y x=false
theorem Mh.left {lt:Keyed->Keyed->Bool} {all u p q o:List Keyed} (M:Mh lt all (p++u) q o) (h:∀x∈q,∀y∈u,lt y x=false):Mh lt all p q (u++o):=by
 have sp:=aD2.mp M.sp;refine ⟨?_,aD2.mpr ⟨sp.2.1,M.so,λx hx y hy=> M.high x (by simp [hx]) y hy⟩,sp.1,M.sq,λx hx y hy=> ?_⟩
 ·refine List.Perm.trans ?_ M.perm;rw [List.append_assoc];refine aF2 p ?_;rw [<-List.append_assoc,<-List.append_assoc];exact aEz o aF3
 ·rcases aCt.mp hy with hy | hy
  ·rcases aCt.mp hx with z | z
   ·exact sp.2.2 x z y hy
   ·exact h x z y hy
  ·exact M.high x (by rcases aCt.mp hx with z | z <;> simp [z]) y hy
theorem Mh.right {lt:Keyed->Keyed->Bool} {all u p q o:List Keyed} (M:Mh lt all p (q++u) o) (h:∀x∈p,∀y∈u,lt y x=false):Mh lt all p q (u++o):=by
 have sq:=aD2.mp M.sq;refine ⟨?_,aD2.mpr ⟨sq.2.1,M.so,λx hx y hy=> M.high x (by simp [hx]) y hy⟩,M.sp,sq.1,λx hx y hy=> ?_⟩
 ·have:=M.perm;simpa [List.append_assoc] using this
 ·rcases aCt.mp hy with hy | hy
  ·rcases aCt.mp hx with z | z
   ·exact h x z y hy
   ·exact sq.2.2 x z y hy
  ·exact M.high x (by rcases aCt.mp hx with z | z <;> simp [z]) y hy
theorem Mh.fin {lt:Keyed->Keyed->Bool} {all p q o:List Keyed} (M:Mh lt all p q o) (h:p=[]\/q=[]):Good lt all (p++q++o):=by
 refine ⟨by rw [List.append_assoc];exact M.perm,aD2.mpr ⟨?_,M.so,M.high⟩⟩;rcases h with rfl | rfl
 ·simpa using M.sq
 ·simpa using M.sp
theorem Mh.aC7 {lt:Keyed->Keyed->Bool} {all p o:List Keyed} {x:Keyed} (M:Mh lt all p [x] o) (h:∀y∈p,lt y x=false):Good lt all ([x]++p++o):=by
 refine ⟨?_,aD2.mpr ⟨?_,M.so,λa ha b hb=> M.high a ?_ b hb⟩⟩
 ·refine List.Perm.trans ?_ M.perm;rw [<-List.append_assoc];exact aEz o aF3
 ·exact aD2.mpr ⟨by simp,M.sp,λu hu v hv=> by rw [List.mem_singleton.mp hu];exact h v hv⟩
 ·rcases aCt.mp ha with z | z <;> simp [z] <;> simp_all
theorem t9 {a:Array Keyed} {i:Nat} (h0:1<=i) (h:i<=a.size):a.toList.take i=a.toList.take (i - 1)++[aW a (i - 1)]:=by
 have hl:i - 1 < a.toList.length:=by simp;omega
 have e:aW a (i - 1)=a.toList[i - 1]:=by
  have:=hV (xs:=a) (i:=i - 1) (by omega);rw [getElem?_pos a (i - 1) (by omega)] at this;have:=aD4 this;rw [<-this];simp
 rw [e];have:=List.take_append_getElem (l:=a.toList) (i:=i - 1) hl;rw [this];congr 1;omega
theorem dG {a:Array Keyed} {i:Nat} {x:Keyed} (h:x∈a.toList.take i):∃j,j < i/\j < a.size/\x=aW a j:=by
 have:=kI (i:=0) (k:=i) (a:=a) (by simpa using h);obtain ⟨j,h1,h2,h3⟩:=this;exact ⟨j,h1,by omega,by rw [h3];congr 1;omega⟩
theorem zV {a:Array Keyed} {i k:Nat}:(a.extract i k).toList=(a.toList.take k).drop i:=by
 rw [Array.toList_extract,List.extract_eq_take_drop,List.take_drop];by_cases h:i<=k
 ·congr 2;omega
 ·rw [List.drop_of_length_le (by simp;omega),List.drop_of_length_le (by simp;omega)]
theorem mem_mid {a:Array Keyed} {i k:Nat} {x:Keyed} (h:x∈(a.toList.take k).drop i):∃j,i<=j/\j < k/\j < a.size/\x=aW a j:=by
 obtain ⟨n,hn,e⟩:=aG9 h;simp only [List.length_take,List.length_drop,Array.length_toList] at hn;refine ⟨i+n,by omega,by omega,by omega,?_⟩
 have e2:aW a (i+n)=a.toList[i+n]'(by simp;omega):=by
  have:=hV (xs:=a) (i:=i+n) (by omega);rw [getElem?_pos a (i+n) (by omega)] at this;have:=aD4 this;rw [<-this];simp
 rw [e2,<-e];simp
theorem FH (a b out:Array Keyed) (na nb:Nat):(fE a b out na nb).toList=a.toList.take na++b.toList.take nb++out.toList.reverse:=by
 unfold fE;simp [Array.toList_append,Array.toList_extract,List.extract_eq_take_drop]
theorem C9 (a b out:Array Keyed) (na nb:Nat):(iN a b out na nb).toList=b.toList.take nb++a.toList.take na++out.toList.reverse:=by
 unfold iN;simp [Array.toList_append,Array.toList_extract,List.extract_eq_take_drop]
section
variable {prog:Program} {w:World} {A:Around} {E:Value->Shared->Prop} {s:Shared} {a₀ a b:Array Keyed} {κ:SortKind} {lt:Keyed->Keyed->Bool}
abbrev tH (lt : Keyed -> Keyed -> Bool) (a b out : Array Keyed) (na nb : Nat) : Prop := Mh lt (a.toList ++ b.toList) (a.toList.take na) (b.toList.take nb) out.toList.reverse
theorem tH.xG {out:Array Keyed} {na nb:Nat} (M:tH lt a b out na nb) (h0:1<=na) (h1:na<=a.size) (h:∀z∈b.toList.take nb,lt (aW a (na - 1)) z=false):tH lt a b (out.push (aW a (na - 1))) (na - 1) nb:=by
 unfold tH at*;rw [t9 h0 h1] at M;have:=Mh.left (u:=[aW a (na - 1)]) M (by simpa using h);simpa using this
theorem tH.xF {out:Array Keyed} {na nb:Nat} (M:tH lt a b out na nb) (h0:1<=nb) (h1:nb<=b.size) (h:∀z∈a.toList.take na,lt (aW b (nb - 1)) z=false):tH lt a b (out.push (aW b (nb - 1))) na (nb - 1):=by
 unfold tH at*;rw [t9 h0 h1] at M;have:=Mh.right (u:=[aW b (nb - 1)]) M (by simpa using h);simpa using this
theorem tH.L3 {out:Array Keyed} {na nb k:Nat} (M:tH lt a b out na nb) (hk:k<=na) (h:∀x∈b.toList.take nb,∀y∈(a.toList.take na).drop k,lt y x=false):tH lt a b (out++(a.extract k na).reverse) k nb:=by
 unfold tH at*
 have e:a.toList.take na=a.toList.take k++(a.toList.take na).drop k:=by
  have:=(aF4 k (a.toList.take na)).symm
  rwa [List.take_take,aGo hk] at this
 rw [e] at M;have:=Mh.left M h;simp only [Array.toList_append,Array.toList_reverse,List.reverse_append,List.reverse_reverse,zV];exact this
theorem tH.L1 {out:Array Keyed} {na nb k:Nat} (M:tH lt a b out na nb) (hk:k<=nb) (h:∀x∈a.toList.take na,∀y∈(b.toList.take nb).drop k,lt y x=false):tH lt a b (out++(b.extract k nb).reverse) na k:=by
 unfold tH at*
 have e:b.toList.take nb=b.toList.take k++(b.toList.take nb).drop k:=by
  have:=(aF4 k (b.toList.take nb)).symm
  rwa [List.take_take,aGo hk] at this
 rw [e] at M;have:=Mh.right M h;simp only [Array.toList_append,Array.toList_reverse,List.reverse_append,List.reverse_reverse,zV];exact this
theorem tH.FI {out:Array Keyed} {na nb:Nat} (M:tH lt a b out na nb) (h:na=0\/nb=0):Good lt (a.toList++b.toList) (fE a b out na nb).toList:=by
 rw [FH];exact Mh.fin M (h.imp (λe=> by simp [e]) λe=> by simp [e])
theorem tH.zX (T:DV lt a₀ a b) {out:Array Keyed} {na nb:Nat} (M:tH lt a b out na nb) (h:nb=1):Good lt (a.toList++b.toList) (iN a b out na nb).toList:=by
 rw [C9];have pb:=T.pb
 have e:b.toList.take nb=[aW b 0]:=by
  rw [h,t9 (by omega) (by omega)];simp
 unfold tH at M;rw [e] at M⊢;exact Mh.aC7 M λy hy=> T.first y (aEv hy)
structure Jh (lt:Keyed->Keyed->Bool) (a b out:Array Keyed) (na nb:Nat):Prop where
 m:tH lt a b out na nb
 ha:1<=na
 hb:2<=nb
 la:na<=a.size
 lb:nb<=b.size
 n:out.size+na+nb=a.size+b.size
def F0 (lt:Keyed->Keyed->Bool) (a b:Array Keyed) (n:Nat) {γ:Type} (c:Option (Array Keyed)×Nat×Nat×Array Keyed×γ):Prop:=
 (∃r,c.1=some r/\Good lt (a.toList++b.toList) r.toList)\/(c.1=none/\Jh lt a b c.2.2.2.1 c.2.1 c.2.2.1/\n<=c.2.2.2.1.size)
def oG (lt:Keyed->Keyed->Bool) (a b:Array Keyed) (n:Nat) {γ:Type} (st:SortSt) (r:ForInStep (Option (Array Keyed)×Nat×Nat×Array Keyed×γ)) (st' :SortSt):Prop:=
 cC st st' /\match r with | .done c=> F0 lt a b n c | .yield c=> c.1=none/\F0 lt a b n c
theorem W7 (T:DV lt a₀ a b) {st:SortSt} {mg ac bc:Nat} {out:Array Keyed} {na nb n:Nat} (j:Jh lt a b out na nb) (hn2:n<=out.size+1) (h:∀z∈b.toList.take nb,lt (aW a (na - 1)) z=false):
  wpS (model prog w) A E s (hi4 a b mg ac bc out na nb) (oG lt a b n st) st:=by
 obtain ⟨M,ha,hb,la,lb,hn⟩:=j;unfold hi4;refine aCw (dO (by omega) ?_);have M2:=M.xG ha la h;by_cases c:na - 1=0
 ·rw [if_pos (by simp [c])];exact aD0 ⟨cC.refl _,.inl ⟨_,rfl,M2.FI (.inl c)⟩⟩
 ·rw [if_neg (by simpa using c)]
  have j2:Jh lt a b (out.push (aW a (na - 1))) (na - 1) nb:=⟨M2,by omega,hb,by omega,lb,by simp;omega⟩
  split
  ·exact aD0 ⟨cC.refl _,.inr ⟨rfl,j2,by simpa using hn2⟩⟩
  ·exact aD0 ⟨cC.refl _,rfl,.inr ⟨rfl,j2,by simpa using hn2⟩⟩
theorem aAg (O:Wk lt) (C:nL prog w A s κ lt a₀) (T:DV lt a₀ a b) {st:SortSt} {mg ac bc:Nat} {out:Array Keyed} {na nb n:Nat} (hk:kindOf st=κ) (j:Jh lt a b out na nb) (hn2:n<=out.size+1):
  wpS (model prog w) A E s (hi3 a b mg ac bc out na nb) (oG lt a b n st) st:=by
 have j0:=j;obtain ⟨M,ha,hb,la,lb,hn⟩:=j;unfold hi3;have sga:=bE O T.sa;have sgb:=bE O T.sb;refine aCw (dO (by omega) ?_);refine aCw (mW O C hk (by omega) (by omega) (λp q h1 h2 h3=> sgb p q h2 (by omega)) (λi hi=> T.mb _ (eK (by omega))) (T.ma _ (eK (by omega))) λk hk1 h1 h2=> ?_)
 have key:∀z∈a.toList.take na,lt (aW a (na - 1)) z=false:=λz hz=> by
  obtain ⟨j,hj1,hj2,rfl⟩:=dG hz;exact sga _ _ (by omega) (by omega)
 have b1:∀x∈a.toList.take na,∀y∈(b.toList.take nb).drop k,lt y x=false:=λx hx y hy=> by
  obtain ⟨j,hj0,hj1,hj2,rfl⟩:=mem_mid hy;have e:=h2 j hj0 hj1;simp only [kS,if_true,Nat.zero_add] at e;exact O.tr _ _ _ (key x hx) e
 have b2:∀z∈b.toList.take k,lt (aW a (na - 1)) z=false:=λz hz=> by
  obtain ⟨j,hj1,hj2,rfl⟩:=dG hz;have e:=h1 j hj1;simp only [kS,if_true,Nat.zero_add] at e;exact O.rM _ _ e
 dsimp only;by_cases c:nb - k > 0
 ·rw [if_pos c];have M2:=M.L1 (k:=k) (by omega) b1;have sz:(b.extract k nb).reverse.size=nb - k:=by rw [Array.size_reverse,Array.size_extract];omega
  by_cases c2:k=1
  ·rw [if_pos (by simpa using c2)];exact aD0 ⟨cC.refl _,.inl ⟨_,rfl,M2.zX T c2⟩⟩
  ·rw [if_neg (by simpa using c2)];by_cases c3:k=0
   ·rw [if_pos (by simpa using c3)];exact aD0 ⟨cC.refl _,.inl ⟨_,rfl,M2.FI (.inr c3)⟩⟩
   ·rw [if_neg (by simpa using c3)];exact W7 T ⟨M2,ha,by omega,la,by omega,by rw [Array.size_append,sz];omega⟩ (by rw [Array.size_append,sz];omega) b2
 ·obtain rfl:k=nb:=by omega
  rw [if_neg c];exact W7 T j0 hn2 b2
theorem W8 (O:Wk lt) (C:nL prog w A s κ lt a₀) (T:DV lt a₀ a b) {st:SortSt} {mg ac bc:Nat} {out:Array Keyed} {na nb n:Nat} (hk:kindOf st=κ) (j:Jh lt a b out na nb) (hn2:n<=out.size+1) (h:∀z∈a.toList.take na,lt (aW b (nb - 1)) z=false):
  wpS (model prog w) A E s (VG a b mg ac bc out na nb) (oG lt a b n st) st:=by
 obtain ⟨M,ha,hb,la,lb,hn⟩:=j;unfold VG;refine aCw (dO (by omega) ?_);have M2:=M.xF (by omega) lb h;by_cases c:nb - 1=1
 ·rw [if_pos (by simpa using c)];exact aD0 ⟨cC.refl _,.inl ⟨_,rfl,M2.zX T c⟩⟩
 ·rw [if_neg (by simpa using c)];exact aAg O C T hk ⟨M2,ha,by omega,la,by omega,by simp;omega⟩ (by simp;omega)
theorem D9 {n:Nat} {γ:Type} {st st1 st2:SortSt} {r:ForInStep (Option (Array Keyed)×Nat×Nat×Array Keyed×γ)} (h:cC st st1) (q:oG lt a b n st1 r st2):oG lt a b n st r st2:=⟨h.trans q.1,q.2⟩
theorem W9 (O:Wk lt) (C:nL prog w A s κ lt a₀) (T:DV lt a₀ a b) {st:SortSt} {mg ac bc:Nat} {out:Array Keyed} {na nb n:Nat} (hk:kindOf st=κ) (j:Jh lt a b out na nb) (hn2:n<=out.size+1):
  wpS (model prog w) A E s (hi1 a b mg ac bc out na nb) (oG lt a b n st) st:=by
 have j0:=j;obtain ⟨M,ha,hb,la,lb,hn⟩:=j;unfold hi1;have sga:=bE O T.sa;have sgb:=bE O T.sb;refine aCw (sW λst1 same=> ?_);refine aEp ?_ λr st2 q=> D9 same q;have hk1:kindOf st1=κ:=same.1.trans hk;refine aCw (dO (by omega) ?_);refine aCw (mW O C hk1 (by omega) (by omega) (λp q h1 h2 h3=> sga p q h2 (by omega)) (λi hi=> T.ma _ (eK (by omega))) (T.mb _ (eK (by omega))) λk hk2 h1 h2=> ?_)
 have key:∀z∈b.toList.take nb,lt (aW b (nb - 1)) z=false:=λz hz=> by
  obtain ⟨j,hj1,hj2,rfl⟩:=dG hz;exact sgb _ _ (by omega) (by omega)
 have b1:∀x∈b.toList.take nb,∀y∈(a.toList.take na).drop k,lt y x=false:=λx hx y hy=> by
  obtain ⟨j,hj0,hj1,hj2,rfl⟩:=mem_mid hy;have e:=h2 j hj0 hj1;simp only [kS,Bool.false_eq_true,if_false,Bool.not_eq_false',Nat.zero_add] at e;exact O.tr _ _ _ (key x hx) (O.rM _ _ e)
 have b2:∀z∈a.toList.take k,lt (aW b (nb - 1)) z=false:=λz hz=> by
  obtain ⟨j,hj1,hj2,rfl⟩:=dG hz;have e:=h1 j hj1;simp only [kS,Bool.false_eq_true,if_false,Bool.not_eq_true',Nat.zero_add] at e;exact e
 dsimp only;by_cases c:na - k > 0
 ·rw [if_pos c];have M2:=M.L3 (k:=k) (by omega) b1;have sz:(a.extract k na).reverse.size=na - k:=by rw [Array.size_reverse,Array.size_extract];omega
  by_cases c1:k=0
  ·rw [if_pos (by simpa using c1)];exact aD0 ⟨cC.refl _,.inl ⟨_,rfl,M2.FI (.inl c1)⟩⟩
  ·rw [if_neg (by simpa using c1)];exact W8 O C T hk1 ⟨M2,by omega,hb,by omega,lb,by rw [Array.size_append,sz];omega⟩ (by rw [Array.size_append,sz];omega) b2
 ·obtain rfl:k=na:=by omega
  rw [if_neg c];exact W8 O C T hk1 j0 hn2 b2
theorem aAh (O:Wk lt) (C:nL prog w A s κ lt a₀) (T:DV lt a₀ a b) {st:SortSt} {mg:Nat} {c:JX} {n:Nat} (hk:kindOf st=κ) (j:Jh lt a b c.2.2.2.1 c.2.1 c.2.2.1) (hn2:n<=c.2.2.2.1.size+1):
  wpS (model prog w) A E s (Y1 a b mg c) (oG lt a b n st) st:=by
 obtain ⟨M,ha,hb,la,lb,hn⟩:=j;have sga:=bE O T.sa;have sgb:=bE O T.sb;unfold Y1;refine aCw (dO (by omega) ?_);refine aCw (dO (by omega) ?_);refine aCw (WZ C hk (T.mb _ (eK (by omega))) (T.ma _ (eK (by omega))) ?_);dsimp only
 cases hlt:lt (aW b (c.2.2.1 - 1)) (aW a (c.2.1 - 1)) with
 | true=>
  rw [if_pos rfl];unfold hiA;refine aCw (dO (by omega) ?_)
  have M2:=M.xG ha la λz hz=> by
   obtain ⟨j,hj1,hj2,rfl⟩:=dG hz;exact O.tr _ _ _ (sgb _ _ (by omega) (by omega)) (O.rM _ _ hlt)
  by_cases c1:c.2.1 - 1=0
  ·rw [if_pos (by simpa using c1)];exact aD0 ⟨cC.refl _,.inl ⟨_,rfl,M2.FI (.inl c1)⟩⟩
  ·rw [if_neg (by simpa using c1)]
   have j2:Jh lt a b (c.2.2.2.1.push (aW a (c.2.1 - 1))) (c.2.1 - 1) c.2.2.1:=⟨M2,by omega,hb,by omega,lb,by simp;omega⟩
   split
   ·exact aD0 ⟨cC.refl _,.inr ⟨rfl,j2,by simpa using hn2⟩⟩
   ·exact aD0 ⟨cC.refl _,rfl,.inr ⟨rfl,j2,by simpa using hn2⟩⟩
 | false=>
  rw [if_neg Bool.false_ne_true];unfold hiB;refine aCw (dO (by omega) ?_)
  have M2:=M.xF (by omega) lb λz hz=> by
   obtain ⟨j,hj1,hj2,rfl⟩:=dG hz;exact O.tr _ _ _ (sga _ _ (by omega) (by omega)) hlt
  by_cases c1:c.2.2.1 - 1=1
  ·rw [if_pos (by simpa using c1)];exact aD0 ⟨cC.refl _,.inl ⟨_,rfl,M2.zX T c1⟩⟩
  ·rw [if_neg (by simpa using c1)]
   have j2:Jh lt a b (c.2.2.2.1.push (aW b (c.2.2.1 - 1))) c.2.1 (c.2.2.1 - 1):=⟨M2,ha,by omega,la,by omega,by simp;omega⟩
   split
   ·exact aD0 ⟨cC.refl _,.inr ⟨rfl,j2,by simpa using hn2⟩⟩
   ·exact aD0 ⟨cC.refl _,rfl,.inr ⟨rfl,j2,by simpa using hn2⟩⟩
theorem yO {γ:Type} {f:Nat->(Option (Array Keyed)×Nat×Nat×Array Keyed×γ)->StateT SortSt Sem (ForInStep (Option (Array Keyed)×Nat×Nat×Array Keyed×γ))} {c:Option (Array Keyed)×Nat×Nat×Array Keyed×γ} {st:SortSt} {Q:(Option (Array Keyed)×Nat×Nat×Array Keyed×γ)->SortSt->Prop} (Dn:(Option (Array Keyed)×Nat×Nat×Array Keyed×γ)->Prop) (n:Nat)
  (hc:c.1=none) (j:Jh lt a b c.2.2.2.1 c.2.1 c.2.2.1) (hn:n=c.2.2.2.1.size)
  (step:∀i c' st',cC st st' ->c'.1=none->Jh lt a b c'.2.2.2.1 c'.2.1 c'.2.2.1->n+i<=c'.2.2.2.1.size->wpS (model prog w) A E s (f i c') (λr st2=> oG lt a b (c'.2.2.2.1.size+1) st' r st2/\∀c2,r= .done c2->Dn c2) st')
  (h:∀c' st',cC st st' ->Dn c' ->F0 lt a b (n+1) c' ->Q c' st'):wpS (model prog w) A E s (forIn [:a.size+b.size] c f) Q st:=by
 refine aEc (I:=λi c' st' => cC st st' /\c'.1=none/\Jh lt a b c'.2.2.2.1 c'.2.1 c'.2.2.1/\n+i<=c'.2.2.2.1.size) ?_ ?_ ⟨cC.refl _,hc,j,by omega⟩
 ·rintro i c' st' _ hi ⟨sm,h1,h2,h3⟩;refine aEp (step i c' st' sm h1 h2 h3) λr st2 q=> ?_;obtain ⟨⟨q1,q2⟩,dn⟩:=q
  cases r with
  | done c2=>
   refine h c2 st2 (sm.trans q1) (dn c2 rfl) ?_;rcases q2 with q2 | ⟨z1,z2,z3⟩
   ·exact .inl q2
   ·exact .inr ⟨z1,z2,by omega⟩
  | yield c2=>
   obtain ⟨z0,z | ⟨z1,z2,z3⟩⟩:=q2
   ·obtain ⟨r,e,_⟩:=z;rw [z0] at e;cases e
   ·exact ⟨sm.trans q1,z1,z2,by omega⟩
 ·rintro c' st' ⟨_,_,h2,h3⟩;exfalso;have:=h2.n;have:=h2.ha;have:=h2.hb;simp at h3;omega
theorem OH (O:Wk lt) (C:nL prog w A s κ lt a₀) (T:DV lt a₀ a b) {st:SortSt} {c:NZ} (hk:kindOf st=κ) (j:Jh lt a b c.2.2.2.1 c.2.1 c.2.2.1):
  wpS (model prog w) A E s (FA a b c) (λr st2=> oG lt a b (c.2.2.2.1.size+1) st r st2/\∀c2,r= .done c2->∃x,c2.1=some x) st:=by
 unfold FA;refine aCw (yO (lt:=lt) (c:=((none,c.snd.fst,c.snd.snd.fst,c.snd.snd.snd.fst,0,0):JX)) (λ_=> True) c.2.2.2.1.size rfl j rfl (λi c' st' sm _ j' _=> aEp (aAh O C T (sm.1.trans hk) j' (aCs _)) λ_ _ q=> ⟨q,λ_ _=> trivial⟩) λd st1 sm1 _ af=> ?_);obtain ⟨d0,d1⟩:=d
 rcases af with ⟨r,hr,g⟩ | ⟨hr,j1,n1⟩
 ·dsimp only at hr;subst hr;exact aD0 ⟨⟨sm1,.inl ⟨r,rfl,g⟩⟩,λc2 e=> by cases e;exact ⟨r,rfl⟩⟩
 ·dsimp only at hr j1 n1;subst hr;dsimp only;refine aCw (wpS_lift (aE2 ⟨rfl,?_⟩));refine aCw (yO (lt:=lt) (c:=((none,d1.fst,d1.snd.fst,d1.snd.snd.fst,c.snd.snd.snd.snd+1,d1.snd.snd.snd.fst,d1.snd.snd.snd.snd):OB)) (λ_=> True) d1.2.2.1.size rfl j1 rfl (λi c' st' sm _ j' _=> aEp (Q:=oG lt a b (c'.2.2.2.1.size+1) st') ?_ λ_ _ q=> ⟨q,λ_ _=> trivial⟩) λe st2 sm2 _ af2=> ?_)
  ·split
   ·exact W9 O C T (sm.1.trans (sm1.1.trans hk)) j' (aCs _)
   ·exact W9 O C T (sm.1.trans (sm1.1.trans hk)) j' (aCs _)
  ·obtain ⟨e0,e1⟩:=e
   rcases af2 with ⟨r,hr,g⟩ | ⟨hr,j2,n2⟩
   ·dsimp only at hr;subst hr;exact aD0 ⟨⟨sm1.trans sm2,.inl ⟨r,rfl,g⟩⟩,λc2 e=> by cases e;exact ⟨r,rfl⟩⟩
   ·dsimp only at hr j2 n2;subst hr;dsimp only;refine aCw (sW λst3 sm3=> ?_);exact aD0 ⟨⟨(sm1.trans sm2).trans sm3,rfl,.inr ⟨rfl,j2,by dsimp only;omega⟩⟩,λc2 e=> by cases e⟩
theorem J7 (O:Wk lt) (C:nL prog w A s κ lt a₀) (T:DV lt a₀ a b) {st:SortSt} {Q:Array Keyed->SortSt->Prop} (hk:kindOf st=κ)
  (h:∀r st',cC st st' ->Good lt (a.toList++b.toList) r.toList->Q r st'):wpS (model prog w) A E s (qD a b) Q st:=by
 rw [B7];have pa:=T.pa;have pb:=T.pb;refine aCw (wpS_lift (aE2 ⟨rfl,?_⟩));refine aCw (dO (by omega) ?_)
 have M0:tH lt a b #[] a.size b.size:=by
  have ea:a.toList.take a.size=a.toList:=aFv (by simp);have eb:b.toList.take b.size=b.toList:=aFv (by simp);refine ⟨by simp [ea,eb],by simp,by rw [ea];exact T.sa,by rw [eb];exact T.sb,by simp⟩
 have M1:tH lt a b #[aW a (a.size - 1)] (a.size - 1) b.size:=by
  have:=M0.xG pa (aCs _) λz hz=> T.last z (aEv hz);simpa using this
 by_cases c1:a.size - 1=0
 ·rw [if_pos (by simp [c1])];exact aD0 (h _ _ (cC.refl _) (M1.FI (.inl c1)))
 ·rw [if_neg (by simpa using c1)];by_cases c2:b.size=1
  ·rw [if_pos (by simpa using c2)];exact aD0 (h _ _ (cC.refl _) (M1.zX T c2))
  ·rw [if_neg (by simpa using c2)];refine aCw (wpS_get ?_)
   have j:Jh lt a b #[aW a (a.size - 1)] (a.size - 1) b.size:=⟨M1,by omega,by omega,by omega,aCs _,by simp;omega⟩
   refine aCw (yO (lt:=lt) (c:=((none,a.size - 1,b.size,#[aW a (a.size - 1)],gallopOf st):NZ)) (λc=> ∃x,c.1=some x) 1 rfl j rfl (λi c' st' sm _ j' _=> OH O C T (sm.1.trans hk) j') λd st1 sm1 dn af=> ?_);obtain ⟨d0,d1⟩:=d;obtain ⟨x,e⟩:=dn;dsimp only at e;subst e
   rcases af with ⟨r,hr,g⟩ | ⟨hr,_⟩
   ·dsimp only at hr;cases hr;exact aD0 (h x st1 sm1 g)
   ·cases hr
end
theorem mK {a:Array Keyed} {i:Nat} (h:i < a.size):aW a i=a.toList[i]'(by simpa using h):=by
 have:=hV (xs:=a) (i:=i) h;rw [getElem?_pos a i h] at this;have:=aD4 this;rw [<-this];simp
def part (a:Array Keyed) (i j:Nat):List Keyed:=(a.toList.take j).drop i
theorem mF {a:Array Keyed} {i j:Nat} {x:Keyed} (h:x∈part a i j):∃k,i<=k/\k < j/\k < a.size/\x=aW a k:=mem_mid h
theorem iH {a:Array Keyed} {i j:Nat} (h:j<=a.size):(part a i j).length=j - i:=by simp [part];omega
theorem EM {a:Array Keyed} {i m j:Nat} (h1:i<=m) (h2:m<=j):part a i j=part a i m++part a m j:=by
 unfold part;have e:(a.toList.take j).drop i=((a.toList.take j).drop i).take (m - i)++((a.toList.take j).drop i).drop (m - i):=(aF4 _ _).symm;rw [e,List.drop_drop,show i+(m - i)=m by omega];congr 1;rw [<-List.drop_take,List.take_take];congr 2;omega
theorem uL {lt:Keyed->Keyed->Bool} (O:Wk lt) {a:Array Keyed} {i j:Nat} (hj:j<=a.size):Seg lt a i j↔(part a i j).Pairwise λx y=> lt y x=false:=by
 constructor
 ·intro h;rw [List.pairwise_iff_getElem];intro p q hp hq hpq;rw [iH hj] at hp hq
  have e:∀k (hk:k < j - i),(part a i j)[k]'(by rw [iH hj];exact hk)=aW a (i+k):=λk hk=> by
   rw [mK (by omega)];simp [part]
  rw [e p hp,e q hq];exact h _ _ (by omega) (by omega) (by omega)
 ·intro h p q hp hpq hq;by_cases e0:p=q
  ·subst e0;exact O.IY _
  ·rw [List.pairwise_iff_getElem] at h;have:=h (p - i) (q - i) (by rw [iH hj];omega) (by rw [iH hj];omega) (by omega)
   have e:∀k (hk:k < j - i),(part a i j)[k]'(by rw [iH hj];exact hk)=aW a (i+k):=λk hk=> by
    rw [mK (by omega)];simp [part]
   rw [e _ (by omega),e _ (by omega),show i+(p - i)=p by omega,show i+(q - i)=q by omega] at this;exact this
theorem A3 {a:Array Keyed} {i j:Nat} (h1:i<=j) (h2:j<=a.size):a.toList=a.toList.take i++(part a i j++a.toList.drop j):=by
 unfold part;rw [<-List.append_assoc]
 have:a.toList.take i++(a.toList.take j).drop i=a.toList.take j:=by
  have:=aF4 i (a.toList.take j)
  rwa [List.take_take,aGo h1] at this
 rw [this,List.take_append_drop]
theorem BN (s:Nat):∀(r:List Keyed) (n:Nat) (a:Array Keyed),s+n+r.length<=a.size->
  ((r.zipIdx n).foldl (λa (x:Keyed×Nat)=> a.setIfInBounds (s+x.2) x.1) a).toList=a.toList.take (s+n)++r++a.toList.drop (s+n+r.length)
 | [],n,a,h=> by simp
 | p::t,n,a,h=> by
  simp only [List.length_cons] at h;rw [List.zipIdx_cons,List.foldl_cons,BN s t (n+1) _ (by simp;omega)];have e1:(a.setIfInBounds (s+n) p).toList=a.toList.set (s+n) p:=by simp
  simp only [e1]
  have e2:(a.toList.set (s+n) p).take (s+(n+1))=a.toList.take (s+n)++[p]:=by
   rw [show s+(n+1)=s+n+1 by omega,List.take_add_one,List.take_set_of_le (Nat.le_refl _),List.getElem?_set_self (by simp;omega)];simp
  have e3:(a.toList.set (s+n) p).drop (s+(n+1)+t.length)=a.toList.drop (s+n+(p::t).length):=by
   rw [List.drop_set_of_lt (by omega)];congr 1;simp;omega
  rw [e2,e3];simp
theorem vF {a b:Array Keyed} {i j:Nat} (h:a.toList[i]? =b.toList[j]?):aW a i=aW b j:=IW (by simpa using h)
theorem B9 (i:Nat):mergeAt' i=(do
 let s<-get
 match ((pendingOf s)[i]?,(pendingOf s)[i+1]?) with
 | (some (sa,na,power),some (sb,nb,_))=> do
  set (setPending s (((pendingOf s).setIfInBounds i (sa,na+nb,power)).eraseIdxIfInBounds (i+1)))
  let x<-elem' (arrOf s) sb
  let r<-eM false x (arrOf s) sa na 0
  match r with
  | some k=>
   if (na - k==0)=true then pure true else do
    let y<-elem' (arrOf s) (sa+k+(na - k) - 1)
    let r<-eM true y (arrOf s) sb nb (nb - 1)
    match r with
    | some m=>
     if (m==0)=true then pure true else do
      let merged<-if na - k<=m then qC ((arrOf s).extract (sa+k) sb) ((arrOf s).extract sb (sb+m)) else qD ((arrOf s).extract (sa+k) sb) ((arrOf s).extract sb (sb+m))
      modify λs=> setArr s (merged.toList.zipIdx.foldl (λa (x:Keyed×Nat)=> a.setIfInBounds (sa+k+x.2) x.1) (arrOf s))
      let s<-get
      pure (failedOf s).isNone
    | _=> pure false
  | _=> pure false
 | _=> unsupported "internal:list.sort.pending"):=by
 rfl
section
variable {prog:Program} {w:World} {A:Around} {E:Value->Shared->Prop} {s:Shared} {a₀:Array Keyed} {κ:SortKind} {lt:Keyed->Keyed->Bool}
theorem J5 {σ:Type} {M:Model} {A:Around} {E:Value->Shared->Prop} {s:Shared} {x:σ} {Q:PUnit->σ->Prop} {st:σ} (h:Q ⟨⟩ x):wpS M A E s (set x:StateT σ Sem PUnit) Q st:=aG1 (f:=λ_=> x) h
theorem eG {a:Array Keyed} {i k:Nat}:(a.extract i k).toList=part a i k:=zV
theorem G9 {a:Array Keyed} {i k j:Nat} (h:k<=a.size) (hj:i+j < k):aW (a.extract i k) j=aW a (i+j):=by
 have hs:j < (a.extract i k).size:=by rw [Array.size_extract];omega
 rw [mK hs,mK (by omega)];simp
theorem O7 {a:Array Keyed} {r:List Keyed} {s:Nat} (h:s+r.length<=a.size):∀a2:Array Keyed,a2.toList=a.toList.take s++r++a.toList.drop (s+r.length)->∀j,(j < s\/s+r.length<=j)->aW a2 j=aW a j:=by
 intro a2 e j hj;refine vF ?_;rw [e];have l1:(a.toList.take s).length=s:=by simp;omega
 rcases hj with hj | hj
 ·rw [List.append_assoc,List.getElem?_append_left (by omega),List.getElem?_take_of_lt hj]
 ·rw [List.getElem?_append_right (by simp;omega),List.getElem?_drop];congr 1;simp;omega
theorem J8 (O:Wk lt) (C:nL prog w A s κ lt a₀) {st:SortSt} {i sa na pw nb pw2:Nat} {Q:Bool->SortSt->Prop} (hi:(pendingOf st)[i]? =some (sa,na,pw)) (hj:(pendingOf st)[i+1]? =some (sa+na,nb,pw2))
  (h1:1<=na) (h2:1<=nb) (hz:sa+na+nb<=a₀.size) (hB:Base κ a₀ st) (g1:Seg lt (arrOf st) sa (sa+na)) (g2:Seg lt (arrOf st) (sa+na) (sa+na+nb))
  (h:∀st',Base κ a₀ st' ->Seg lt (arrOf st') sa (sa+na+nb)->(∀k,(k < sa\/sa+na+nb<=k)->aW (arrOf st') k=aW (arrOf st) k)->
   pendingOf st' =((pendingOf st).setIfInBounds i (sa,na+nb,pw)).eraseIdxIfInBounds (i+1)->Q true st'):wpS (model prog w) A E s (mergeAt' i) Q st:=by
 rw [B9];refine aCw (wpS_get ?_);rw [hi,hj];dsimp only;refine aCw (J5 ?_);have zs:=hB.size;generalize hst:setPending st (((pendingOf st).setIfInBounds i (sa,na+nb,pw)).eraseIdxIfInBounds (i+1))=st1;have B1:Base κ a₀ st1:=by rw [<-hst];exact ⟨hB.perm,hB.kind,hB.JD⟩
 have ar1:arrOf st1=arrOf st:=by rw [<-hst]
 have pd1:pendingOf st1=((pendingOf st).setIfInBounds i (sa,na+nb,pw)).eraseIdxIfInBounds (i+1):=by rw [<-hst]
 clear hst;have mem:∀k,k < a₀.size->aW (arrOf st) k∈a₀.toList:=λk hk=> hB.mem hk;refine aCw (dO (by omega) ?_);refine aCw (mW O C B1.kind (by omega) (by omega) g1 (λi hi=> mem _ (by omega)) (mem _ (by omega)) λk hk b1 b2=> ?_);dsimp only
 have low:∀j,j < k->lt (aW (arrOf st) (sa+na)) (aW (arrOf st) (sa+j))=false:=λj hj=> by
  have e:=b1 j hj;simpa only [kS,Bool.false_eq_true,if_false,Bool.not_eq_true'] using e
 have upp:∀j,k<=j->j < na->lt (aW (arrOf st) (sa+na)) (aW (arrOf st) (sa+j))=true:=λj h3 h4=> by
  have e:=b2 j h3 h4;simpa only [kS,Bool.false_eq_true,if_false,Bool.not_eq_false'] using e
 by_cases c1:na - k=0
 ·rw [if_pos (by simpa using c1)];refine aD0 (h st1 B1 ?_ (λj _=> by rw [ar1]) pd1);rw [ar1];intro p q hp hpq hq;by_cases cp:p < sa+na
  ·by_cases cq:q < sa+na
   ·exact g1 p q hp hpq cq
   ·have e:=low (p - sa) (by omega);rw [show sa+(p - sa)=p by omega] at e;exact O.tr _ _ _ e (g2 (sa+na) q (aCs _) (by omega) (by omega))
  ·exact g2 p q (by omega) hpq (by omega)
 rw [if_neg (by simpa using c1)];refine aCw (dO (by omega) ?_);have elast:sa+k+(na - k) - 1=sa+na - 1:=by omega
 rw [elast];refine aCw (mW O C B1.kind (by omega) (by omega) g2 (λi hi=> mem _ (by omega)) (mem _ (by omega)) λm hm d1 d2=> ?_);dsimp only
 have dlow:∀j,j < m->lt (aW (arrOf st) (sa+na+j)) (aW (arrOf st) (sa+na - 1))=true:=λj hj=> by
  have e:=d1 j hj;simpa only [kS,if_true] using e
 have dupp:∀j,m<=j->j < nb->lt (aW (arrOf st) (sa+na+j)) (aW (arrOf st) (sa+na - 1))=false:=λj h3 h4=> by
  have e:=d2 j h3 h4;simpa only [kS,if_true] using e
 by_cases c2:m=0
 ·rw [if_pos (by simpa using c2)];refine aD0 (h st1 B1 ?_ (λj _=> by rw [ar1]) pd1);rw [ar1];intro p q hp hpq hq;by_cases cp:p < sa+na
  ·by_cases cq:q < sa+na
   ·exact g1 p q hp hpq cq
   ·have e:=dupp (q - (sa+na)) (by omega) (by omega);rw [show sa+na+(q - (sa+na))=q by omega] at e;exact O.tr _ _ _ (g1 p (sa+na - 1) hp (by omega) (by omega)) e
  ·exact g2 p q (by omega) hpq (by omega)
 rw [if_neg (by simpa using c2)]
 have T:DV lt a₀ ((arrOf st).extract (sa+k) (sa+na)) ((arrOf st).extract (sa+na) (sa+na+m)):=by
  refine ⟨λx hx=> ?_,λx hx=> ?_,?_,?_,by rw [Array.size_extract];omega,by rw [Array.size_extract];omega,λx hx=> ?_,λy hy=> ?_⟩
  ·rw [eG] at hx;obtain ⟨j,_,_,_,rfl⟩:=mF hx;exact mem _ (by omega)
  ·rw [eG] at hx;obtain ⟨j,_,_,_,rfl⟩:=mF hx;exact mem _ (by omega)
  ·rw [eG,<-uL O (by omega)];exact λp q hp hpq hq=> g1 p q (by omega) hpq hq
  ·rw [eG,<-uL O (by omega)];exact λp q hp hpq hq=> g2 p q hp hpq (by omega)
  ·rw [eG] at hx;obtain ⟨j,j1,j2,_,rfl⟩:=mF hx;rw [G9 (by omega) (by omega)];have e:=upp (j - sa) (by omega) (by omega);rw [show sa+(j - sa)=j by omega] at e;exact O.rM _ _ e
  ·rw [eG] at hy;obtain ⟨j,j1,j2,_,rfl⟩:=mF hy;rw [Array.size_extract,G9 (by omega) (by omega),show sa+k+(min (sa+na) (arrOf st).size - (sa+k) - 1)=sa+na - 1 by omega];have e:=dlow (j - (sa+na)) (by omega);rw [show sa+na+(j - (sa+na))=j by omega] at e;exact O.rM _ _ e
 have fin:∀(r:Array Keyed) (st2:SortSt),cC st1 st2->Good lt (((arrOf st).extract (sa+k) (sa+na)).toList++((arrOf st).extract (sa+na) (sa+na+m)).toList) r.toList->
   wpS (model prog w) A E s (do
    modify λs=> setArr s (r.toList.zipIdx.foldl (λa (x:Keyed×Nat)=> a.setIfInBounds (sa+k+x.2) x.1) (arrOf s))
    let s<-get
    pure (failedOf s).isNone) Q st2:=λr st2 sm gd=> by
  refine aCw (aG1 ?_);refine aCw (wpS_get ?_);have ar2:arrOf st2=arrOf st:=sm.2.1.trans ar1;have hf2:failedOf st2=none:=sm.2.2.2.trans B1.JD
  have rl:r.toList.length=na - k+m:=by
   have:=gd.1.length_eq;rw [List.length_append,eG,eG,iH (by omega),iH (by omega)] at this;omega
  have pl:=BN (sa+k) r.toList 0 (arrOf st) (by omega);simp only [Nat.add_zero] at pl;generalize ha2:(r.toList.zipIdx.foldl (λa (x:Keyed×Nat)=> a.setIfInBounds (sa+k+x.2) x.1) (arrOf st))=a2 at pl;have hset:setArr st2 (r.toList.zipIdx.foldl (λa (x:Keyed×Nat)=> a.setIfInBounds (sa+k+x.2) x.1) (arrOf st2))=setArr st2 a2:=by rw [ar2,ha2]
  rw [hset];have fn:(failedOf (setArr st2 a2)).isNone=true:=by show (failedOf st2).isNone=true;rw [hf2];rfl
  rw [fn]
  have rp:r.toList.Perm (part (arrOf st) (sa+k) (sa+na+m)):=by
   have:=gd.1;rw [eG,eG,<-EM (by omega) (by omega)] at this;exact this
  have pall:a2.Perm (arrOf st):=by
   rw [Array.perm_iff_toList_perm,pl];have e:=A3 (a:=arrOf st) (i:=sa+k) (j:=sa+na+m) (by omega) (by omega);rw [show sa+k+r.toList.length=sa+na+m by omega,List.append_assoc];rw [e]
   conv=> lhs;rw [<-e]
   exact aF2 _ (aEz _ rp)
  have sz2:a2.size=(arrOf st).size:=pall.size_eq;have kt:=O7 (a:=arrOf st) (r:=r.toList) (s:=sa+k) (by omega) a2 pl;rw [show sa+k+r.toList.length=sa+na+m by omega] at kt
  have mid:part a2 (sa+k) (sa+na+m)=r.toList:=by
   unfold part;rw [pl,show sa+k+r.toList.length=sa+na+m by omega];have l1:((arrOf st).toList.take (sa+k)).length=sa+k:=by simp;omega
   rw [List.append_assoc,List.take_append,l1,List.drop_append,List.length_take,l1,List.drop_of_length_le (by simp;omega)];rw [show sa+k - min (sa+na+m) (sa+k)=0 by omega,List.drop_zero,List.nil_append,List.take_append,rl,show sa+na+m - (sa+k) - (na - k+m)=0 by omega];simp;rw [List.take_of_length_le (by simp at rl⊢;omega)]
  refine aD0 (h (setArr st2 a2) ⟨pall.trans hB.perm,sm.1.trans B1.kind,hf2⟩ ?_ (λj hj=> kt j (by omega)) (sm.2.2.1.trans pd1));show Seg lt a2 sa (sa+na+nb)
  have inmid:∀j,sa+k<=j->j < sa+na+m->∃i,sa+k<=i/\i < sa+na+m/\aW a2 j=aW (arrOf st) i:=λj h3 h4=> by
   have:aW a2 j∈part a2 (sa+k) (sa+na+m):=by
    unfold part;rw [mK (by omega)];have hl:j - (sa+k) < ((a2.toList.take (sa+na+m)).drop (sa+k)).length:=by simp;omega
    have:=aFe hl;simp only [List.getElem_drop,List.getElem_take] at this;simpa [show sa+k+(j - (sa+k))=j by omega] using this
   rw [mid] at this;obtain ⟨i,i1,i2,_,e⟩:=mF (rp.mem_iff.mp this);exact ⟨i,i1,i2,e⟩
  have smid:Seg lt a2 (sa+k) (sa+na+m):=by rw [uL O (by omega),mid];exact gd.2
  have z1:∀p i,sa<=p->p < sa+k->sa+k<=i->i < sa+na+nb->lt (aW (arrOf st) i) (aW (arrOf st) p)=false:=λp i p1 p2 i1 i2=> by
   by_cases ci:i < sa+na
   ·exact g1 p i p1 (by omega) ci
   ·have e:=low (p - sa) (by omega);rw [show sa+(p - sa)=p by omega] at e;exact O.tr _ _ _ e (g2 (sa+na) i (aCs _) (by omega) (by omega))
  have z3:∀i q,sa+k<=i->i < sa+na+m->sa+na+m<=q->q < sa+na+nb->lt (aW (arrOf st) q) (aW (arrOf st) i)=false:=λi q i1 i2 q1 q2=> by
   by_cases ci:i < sa+na
   ·have e:=dupp (q - (sa+na)) (by omega) (by omega);rw [show sa+na+(q - (sa+na))=q by omega] at e;exact O.tr _ _ _ (g1 i (sa+na - 1) (by omega) (by omega) (by omega)) e
   ·exact g2 i q (by omega) (by omega) (by omega)
  intro p q hp hpq hq;by_cases cp:p < sa+k
  ·rw [kt p (.inl cp)];by_cases cq:q < sa+k
   ·rw [kt q (.inl cq)];exact g1 p q hp hpq (by omega)
   ·by_cases cq2:q < sa+na+m
    ·obtain ⟨i,i1,i2,e⟩:=inmid q (by omega) cq2;rw [e];exact z1 p i hp cp i1 (by omega)
    ·rw [kt q (.inr (by omega))];exact z1 p q hp cp (by omega) hq
  ·by_cases cp2:p < sa+na+m
   ·by_cases cq2:q < sa+na+m
    ·exact smid p q (by omega) hpq cq2
    ·rw [kt q (.inr (by omega))];obtain ⟨i,i1,i2,e⟩:=inmid p (by omega) cp2;rw [e];exact z3 i q i1 i2 (by omega) hq
   ·rw [kt p (.inr (by omega)),kt q (.inr (by omega))];exact g2 p q (by omega) hpq (by omega)
 by_cases c3:na - k<=m
 ·rw [if_pos c3];exact aCw (J6 O C T B1.kind λr st2 sm gd=> fin r st2 sm gd)
 ·rw [if_neg c3];exact aCw (J7 O C T B1.kind λr st2 sm gd=> fin r st2 sm gd)
end
abbrev Run := Nat × Nat × Nat
def eV (r:Run):Nat×Nat:=(r.1,r.2.1)
def Chain:Nat->List (Nat×Nat)->Nat->Prop
 | s,[],e=> s=e
 | s,r::l,e=> r.1=s/\1<=r.2/\Chain (s+r.2) l e
theorem nH:∀{l m:List (Nat×Nat)} {s e:Nat},Chain s (l++m) e↔∃x,Chain s l x/\Chain x m e
 | [],m,s,e=> by simp [Chain]
 | r::l,m,s,e=> by
  simp only [List.cons_append,Chain,nH (l:=l) (m:=m)];constructor
  ·rintro ⟨h1,h2,x,h3,h4⟩;exact ⟨x,⟨h1,h2,h3⟩,h4⟩
  ·rintro ⟨x,⟨h1,h2,h3⟩,h4⟩;exact ⟨h1,h2,x,h3,h4⟩
theorem nG:∀{l:List (Nat×Nat)} {s e:Nat},Chain s l e->s+l.length<=e
 | [],s,e,h=> by simp [Chain] at h;simp;omega
 | r::l,s,e,h=> by
  obtain ⟨_,h2,h3⟩:=h;have:=nG h3;simp;omega
theorem nF:∀{l:List (Nat×Nat)} {s e:Nat},Chain s l e->∀r∈l,s<=r.1/\r.1+r.2<=e/\1<=r.2
 | [],s,e,h,r,hr=> by cases hr
 | q::l,s,e,h,r,hr=> by
  obtain ⟨h1,h2,h3⟩:=h;rcases aCv.mp hr with z | z
  ·subst z;have:=nG h3;exact ⟨by omega,by omega,h2⟩
  ·have:=nF h3 r z;exact ⟨by omega,this.2⟩
structure Wait (κ:SortKind) (lt:Keyed->Keyed->Bool) (a₀:Array Keyed) (st:SortSt) (lo:Nat):Prop where
 base:Base κ a₀ st
 ch:Chain 0 ((pendingOf st).toList.map eV) lo
 sg:∀r∈(pendingOf st).toList,Seg lt (arrOf st) r.1 (r.1+r.2.1)
 le:lo<=a₀.size
section
variable {prog:Program} {w:World} {A:Around} {E:Value->Shared->Prop} {s:Shared} {a₀:Array Keyed} {κ:SortKind} {lt:Keyed->Keyed->Bool}
theorem pW {a b:Array Keyed} {i j:Nat} (h:∀k,i<=k->k < j->aW b k=aW a k) (g:Seg lt a i j):Seg lt b i j:=λp q hp hpq hq=> by
 rw [h p hp (by omega),h q (by omega) hq];exact g p q hp hpq hq
theorem S9 {p:List Run} {i:Nat} (h:i+1 < p.length):∃pre r1 r2 post,p=pre++r1::r2::post/\pre.length=i:=by
 refine ⟨p.take i,p[i]'(by omega),p[i+1],p.drop (i+2),?_,by simp;omega⟩;have e1:=List.drop_eq_getElem_cons (l:=p) (i:=i) (by omega);have e2:=List.drop_eq_getElem_cons (l:=p) (i:=i+1) h;rw [<-e2,<-e1,List.take_append_drop]
theorem F4 (O:Wk lt) (C:nL prog w A s κ lt a₀) {st:SortSt} {i lo:Nat} {Q:Bool->SortSt->Prop} (W:Wait κ lt a₀ st lo) (hi:i+1 < (pendingOf st).size)
  (h:∀st',Wait κ lt a₀ st' lo->(pendingOf st').size+1=(pendingOf st).size->(∀k,lo<=k->aW (arrOf st') k=aW (arrOf st) k)->Q true st'):wpS (model prog w) A E s (mergeAt' i) Q st:=by
 obtain ⟨pre,r1,r2,post,e,hl⟩:=S9 (p:=(pendingOf st).toList) (i:=i) (by simpa using hi)
 have g1:(pendingOf st)[i]? =some r1:=by
  have:(pendingOf st).toList[i]? =some r1:=by rw [e,<-hl];simp
  simpa using this
 have g2:(pendingOf st)[i+1]? =some r2:=by
  have:(pendingOf st).toList[i+1]? =some r2:=by rw [e,<-hl];simp
  simpa using this
 have ch:=W.ch;rw [e,List.map_append] at ch;obtain ⟨x,c1,c2⟩:=nH.mp ch;simp only [List.map_cons,Chain,eV] at c2;obtain ⟨k1,k2,k3,k4,k5⟩:=c2;have len:=nG k5;have s1:=W.sg r1 (by rw [e];simp);have s2:=W.sg r2 (by rw [e];simp);obtain ⟨a1,n1,p1⟩:=r1;obtain ⟨a2,n2,p2⟩:=r2;dsimp only at k1 k2 k3 k4 k5 s1 s2 len;subst k1 k3;have le:=W.le;refine J8 O C g1 g2 k2 k4 (by omega) W.base s1 s2 λst' B sg kt pd=> ?_
 have el:(pendingOf st').toList=pre++(a1,n1+n2,p1)::post:=by
  rw [pd,Array.toList_eraseIdxIfInBounds,Array.toList_setIfInBounds,e,<-hl];simp;rw [List.eraseIdx_append_of_length_le (by omega)];simp [show pre.length+1 - pre.length=1 by omega]
 refine h st' ⟨B,?_,λr hr=> ?_,W.le⟩ ?_ λk hk=> kt k (.inr (by omega))
 ·rw [el,List.map_append];refine nH.mpr ⟨a1,c1,?_⟩;simp only [List.map_cons,Chain,eV];exact ⟨trivial,by omega,by rw [show a1+(n1+n2)=a1+n1+n2 by omega];exact k5⟩
 ·rw [el] at hr;rcases aCt.mp hr with z | z
  ·have hm:eV r∈pre.map eV:=aD1.mpr ⟨r,z,rfl⟩;have:=nF c1 _ hm;simp only [eV] at this;exact pW (λk h3 h4=> kt k (.inl (by omega))) (W.sg r (by rw [e];simp [z]))
  ·rcases aCv.mp z with z | z
   ·subst z;show Seg lt _ a1 (a1+(n1+n2));rw [show a1+(n1+n2)=a1+n1+n2 by omega];exact sg
   ·have hm:eV r∈post.map eV:=aD1.mpr ⟨r,z,rfl⟩;have:=nF k5 _ hm;simp only [eV] at this;exact pW (λk h3 h4=> kt k (.inr (by omega))) (W.sg r (by rw [e];simp [z]))
 ·have:=aE0 List.length el;have:=aE0 List.length e;simp at*;omega
theorem B2 {p:Array Run} {i pw:Nat}:(p.modify i λ(x:Run)=> (x.1,x.2.1,pw)).toList.map eV=p.toList.map eV/\(p.modify i λ(x:Run)=> (x.1,x.2.1,pw)).size=p.size:=by
 refine ⟨?_,by simp⟩;rw [Array.toList_modify];apply aF7;intro j;simp only [List.getElem?_map,List.getElem?_modify];by_cases h:i=j
 ·subst h;cases p.toList[i]? <;> simp [eV]
 ·simp [h]
end
section
variable {prog:Program} {w:World} {A:Around} {E:Value->Shared->Prop} {s:Shared} {a₀:Array Keyed} {κ:SortKind} {lt:Keyed->Keyed->Bool}
theorem Wait.power {st:SortSt} {lo pw i:Nat} (W:Wait κ lt a₀ st lo):Wait κ lt a₀ (setPending st ((pendingOf st).modify i λ(x:Run)=> (x.1,x.2.1,pw))) lo:=by
 obtain ⟨b,c,g,l⟩:=W;have mb:=B2 (p:=pendingOf st) (i:=i) (pw:=pw);refine ⟨⟨b.perm,b.kind,b.JD⟩,?_,λr hr=> ?_,l⟩
 ·show Chain 0 (((pendingOf st).modify i λ(x:Run)=> (x.1,x.2.1,pw)).toList.map eV) lo;rw [mb.1];exact c
 ·have hr' :r∈((pendingOf st).modify i λ(x:Run)=> (x.1,x.2.1,pw)).toList:=hr;have:eV r∈(pendingOf st).toList.map eV:=by rw [<-mb.1];exact aD1.mpr ⟨r,hr',rfl⟩
  obtain ⟨q,hq,e⟩:=aD1.mp this;simp only [eV,Prod.mk.injEq] at e;have:=g q hq;rw [e.1,e.2] at this;exact this
theorem Wait.push {st:SortSt} {lo n:Nat} (W:Wait κ lt a₀ st lo) (hn:1<=n) (hl:lo+n<=a₀.size) (g:Seg lt (arrOf st) lo (lo+n)):Wait κ lt a₀ (setPending st ((pendingOf st).push (lo,n,0))) (lo+n):=by
 obtain ⟨b,c,gs,l⟩:=W;refine ⟨⟨b.perm,b.kind,b.JD⟩,?_,λr hr=> ?_,hl⟩
 ·show Chain 0 (((pendingOf st).push (lo,n,0)).toList.map eV) (lo+n);simp only [Array.toList_push,List.map_append];exact nH.mpr ⟨lo,c,rfl,hn,rfl⟩
 ·have hr' :r∈((pendingOf st).push (lo,n,0)).toList:=hr;simp only [Array.toList_push] at hr';rcases aCt.mp hr' with z | z
  ·exact gs r z
  ·simp at z;subst z;exact g
theorem Wait.held {st st' :SortSt} {lo:Nat} (W:Wait κ lt a₀ st lo) (B:Base κ a₀ st') (k:∀j,j < lo->aW (arrOf st') j=aW (arrOf st) j) (p:pendingOf st' =pendingOf st):Wait κ lt a₀ st' lo:=by
 obtain ⟨b,c,gs,l⟩:=W;refine ⟨B,by rw [p];exact c,λr hr=> ?_,l⟩;rw [p] at hr;have:=nF c (eV r) (aD1.mpr ⟨r,hr,rfl⟩);simp only [eV] at this;exact pW (λj h1 h2=> k j (by omega)) (gs r hr)
def GJ (lo n size:Nat):StateT SortSt Sem (ForInStep (Option Unit×Nat)):=do
 modify λs=> setPending s ((pendingOf s).push (lo,n,0))
 pure (.yield (none,lo+n))
def xY (lo n size:Nat):StateT SortSt Sem (ForInStep (Option Unit×Nat)):=do
 let g<-get
 match (pendingOf g).back? with
 | some (s1,n1,_)=> do
  let c<-forIn [:size] ((none,()):Option Unit×Unit) λ_ _=> do
   let g<-get
   match (if (pendingOf g).size > 1 then (pendingOf g)[(pendingOf g).size - 2]? else none) with
   | some (_,_,older)=> if older<=power' size (2*s1+n1) (2*s1+n1+n1+n) size then pure (.done (none,())) else do
     let b<-mergeAt' ((pendingOf g).size - 2)
     if (!b)=true then pure (.done (some (),())) else pure (.yield (none,()))
   | _=> pure (.done (none,()))
  match c.fst with
  | some r=> pure (.done (some r,lo))
  | none=> do
   modify λs=> setPending s ((pendingOf s).modify ((pendingOf s).size - 1) λ(x:Run)=> (x.1,x.2.1,power' size (2*s1+n1) (2*s1+n1+n1+n) size))
   GJ lo n size
 | _=> GJ lo n size
def GC (size mr lo:Nat):StateT SortSt Sem (ForInStep (Option Unit×Nat)):=
 if lo>=size then pure (.done (none,lo)) else countRun' lo (size - lo) >>=λr=> match r with
  | some n=> if n < mr then liftM (rule "list.sort.binary-insertion") >>=λ_=> binarySort' lo (min (size - lo) mr) n >>=λb=> if (!b)=true then pure (.done (some (),lo)) else xY lo (min (size - lo) mr) size
    else xY lo n size
  | none=> pure (.done (some (),lo))
def R5 (size:Nat):StateT SortSt Sem (ForInStep (Option Unit×Unit)):=do
 let g<-get
 if (pendingOf g).size<=1 then pure (.done (none,())) else do
  let b<-mergeAt' (if (if (pendingOf g).size - 2 > 0 then (pendingOf g)[(pendingOf g).size - 2 - 1]?.map (·.2.1) else none).any (· < ((pendingOf g)[(pendingOf g).size - 2+1]?.elim 0 (·.2.1))) then (pendingOf g).size - 2 - 1 else (pendingOf g).size - 2)
  if (!b)=true then pure (.done (some (),())) else pure (.yield (none,()))
theorem KR:sortRuns' =(do
  let g<-get
  let c<-forIn [:(arrOf g).size] ((none,0):Option Unit×Nat) λ_ c=> GC (arrOf g).size (minRun' (arrOf g).size (arrOf g).size 0) c.snd
  match c.fst with
  | some r=> pure r
  | none=> do
   let d<-forIn [:(arrOf g).size] ((none,()):Option Unit×Unit) λ_ _=> R5 (arrOf g).size
   match d.fst with
   | some r=> pure r
   | none=> pure ()):=by
 rw [sortRuns'_eq];refine aE4 λg=> ?_;dsimp only;have key:∀(n:Nat) (f f' :Nat->Option Unit×Nat->StateT SortSt Sem (ForInStep (Option Unit×Nat))) (k k' :Option Unit×Nat->StateT SortSt Sem Unit) (i:Option Unit×Nat),f=f' ->k=k' ->(forIn [:n] i f >>=k)=(forIn [:n] i f' >>=k'):=λn f f' k k' i h1 h2=> by rw [h1,h2]
 refine key _ _ _ _ _ _ (funext λx=> funext λc=> ?_) (funext λc=> ?_)
 ·have key2:∀(n:Nat) (f f' :Nat->Option Unit×Unit->StateT SortSt Sem (ForInStep (Option Unit×Unit))) (k k' :Option Unit×Unit->StateT SortSt Sem (ForInStep (Option Unit×Nat))) (i:Option Unit×Unit),f=f' ->k=k' ->(forIn [:n] i f >>=k)=(forIn [:n] i f' >>=k'):=λn f f' k k' i h1 h2=> by rw [h1,h2]
  unfold GC;refine aFp rfl (λ_=> rfl) (λ_=> ?_);refine aE4 λr=> ?_
  cases r with
  | none=> rfl
  | some n=>
   refine aFp rfl (λ_=> ?_) (λ_=> ?_)
   ·refine aE4 λ_=> ?_;refine aE4 λb=> ?_;refine aFp rfl (λ_=> rfl) (λ_=> ?_);unfold xY;refine aE4 λg2=> ?_
    cases (pendingOf g2).back? with
    | none=> rfl
    | some r=>
     obtain ⟨s1,n1,p1⟩:=r;refine key2 _ _ _ _ _ _ (funext λx=> funext λc=> aE4 λg3=> ?_) (funext λc=> ?_)
     ·cases (if (pendingOf g3).size > 1 then (pendingOf g3)[(pendingOf g3).size - 2]? else none) with
      | none=> rfl
      | some r=> rfl
     ·obtain ⟨c0,c1⟩:=c;cases c0 <;> rfl
   ·unfold xY;refine aE4 λg2=> ?_
    cases (pendingOf g2).back? with
    | none=> rfl
    | some r=>
     obtain ⟨s1,n1,p1⟩:=r;refine key2 _ _ _ _ _ _ (funext λx=> funext λc=> aE4 λg3=> ?_) (funext λc=> ?_)
     ·cases (if (pendingOf g3).size > 1 then (pendingOf g3)[(pendingOf g3).size - 2]? else none) with
      | none=> rfl
      | some r=> rfl
     ·obtain ⟨c0,c1⟩:=c;cases c0 <;> rfl
 ·obtain ⟨c0,c1⟩:=c
  cases c0 with
  | some r=> rfl
  | none=>
   refine aE4 λd=> ?_;obtain ⟨d0,d1⟩:=d;cases d0 <;> rfl
theorem RL (O:Wk lt) (C:nL prog w A s κ lt a₀) {st:SortSt} {lo n size:Nat} {Q:ForInStep (Option Unit×Nat)->SortSt->Prop} (W:Wait κ lt a₀ st lo) (hn:1<=n) (hl:lo+n<=a₀.size) (g:Seg lt (arrOf st) lo (lo+n))
  (h:∀st',Wait κ lt a₀ st' (lo+n)->Q (.yield (none,lo+n)) st'):wpS (model prog w) A E s (xY lo n size) Q st:=by
 have push:∀st1,Wait κ lt a₀ st1 lo->Seg lt (arrOf st1) lo (lo+n)->wpS (model prog w) A E s (GJ lo n size) Q st1:=λst1 W1 g1=> by
  unfold GJ;exact aCw (aG1 (aD0 (h _ (W1.push hn hl g1))))
 unfold xY;refine aCw (wpS_get ?_)
 cases hb:(pendingOf st).back? with
 | none=> exact push st W g
 | some r=>
  obtain ⟨s1,n1,p1⟩:=r;dsimp only;refine aCw (aEp (aEc (I:=λ_ c st1=> c=(none,())/\Wait κ lt a₀ st1 lo/\∀k,lo<=k->aW (arrOf st1) k=aW (arrOf st) k) (Q:=λc st1=> c=(none,())/\Wait κ lt a₀ st1 lo/\∀k,lo<=k->aW (arrOf st1) k=aW (arrOf st) k) ?_ (λ_ _ r=> r) ⟨rfl,W,λ_ _=> rfl⟩) ?_)
  ·rintro x c st1 _ _ ⟨rfl,W1,k1⟩;refine aCw (wpS_get ?_);by_cases c1:(pendingOf st1).size > 1
   ·rw [if_pos c1];have e:(pendingOf st1)[(pendingOf st1).size - 2]? =some ((pendingOf st1)[(pendingOf st1).size - 2]'(by omega)):=by simp
    rw [e];generalize (pendingOf st1)[(pendingOf st1).size - 2]'(by omega)=r;obtain ⟨q1,q2,q3⟩:=r;dsimp only;split
    ·exact aD0 ⟨rfl,W1,k1⟩
    ·refine aCw (F4 O C W1 (by omega) λst2 W2 _ k2=> ?_);exact aD0 ⟨rfl,W2,λk hk=> (k2 k hk).trans (k1 k hk)⟩
   ·rw [if_neg c1];exact aD0 ⟨rfl,W1,k1⟩
  ·rintro c st1 ⟨rfl,W1,k1⟩;dsimp only;refine aCw (aG1 ?_);exact push _ W1.power (pW (λk h1 _=> k1 k h1) g)
theorem WY (O:Wk lt) (C:nL prog w A s κ lt a₀) {st:SortSt} {lo mr:Nat} {Q:ForInStep (Option Unit×Nat)->SortSt->Prop} (W:Wait κ lt a₀ st lo)
  (hd:lo=a₀.size->Q (.done (none,lo)) st) (h:∀n st',1<=n->Wait κ lt a₀ st' (lo+n)->Q (.yield (none,lo+n)) st'):wpS (model prog w) A E s (GC a₀.size mr lo) Q st:=by
 have le:=W.le;unfold GC;by_cases c:lo>=a₀.size
 ·rw [if_pos c];exact aD0 (hd (by omega))
 ·rw [if_neg c];refine aCw (SO O C (by omega) (by omega) W.base λm st2 b2 m1 m2 sg2 held=> ?_);have W2:Wait κ lt a₀ st2 lo:=W.held b2 held.1 held.2;dsimp only;by_cases less:m < mr
  ·rw [if_pos less];refine aCw (wpS_lift (aE2 ⟨rfl,?_⟩));refine aCw (OI O C (by omega) (by omega) b2 sg2 λst3 b3 sg3 k3 p3=> ?_);exact RL O C (W2.held b3 k3 p3) (by omega) (by omega) sg3 λst' W' => h _ st' (by omega) W'
  ·rw [if_neg less];exact RL O C W2 m1 (by omega) sg2 λst' W' => h _ st' m1 W'
theorem idx (b:Prop) [Decidable b] (n:Nat) (h:2<=n):(if b then n - 2 - 1 else n - 2)+1 < n:=by split <;> omega
theorem SN (O:Wk lt) (C:nL prog w A s κ lt a₀) {st:SortSt} {Q:Unit->SortSt->Prop} (hB:Base κ a₀ st) (hpd:pendingOf st= #[])
  (h:∀st',Base κ a₀ st' ->Seg lt (arrOf st') 0 a₀.size->Q () st'):wpS (model prog w) A E s sortRuns' Q st:=by
 have zs:=hB.size;rw [KR];refine aCw (wpS_get ?_);simp only [zs]
 have W0:Wait κ lt a₀ st 0:=⟨hB,by rw [hpd];rfl,λr hr=> by rw [hpd] at hr;simp at hr,by omega⟩
 refine aCw (aEp (aEc
  (I:=λx c st' => ∃lo,c=(none,lo)/\x<=lo/\Wait κ lt a₀ st' lo)
  (Q:=λc st' => c=(none,a₀.size)/\Wait κ lt a₀ st' a₀.size) ?turn ?last ⟨0,rfl,aCs _,W0⟩) ?rest)
 case last=>
  rintro c st' ⟨lo,rfl,hx,W⟩;have:=W.le;obtain rfl:lo=a₀.size:=by omega
  exact ⟨rfl,W⟩
 case turn=>
  rintro x c st' _ hx ⟨lo,rfl,hx2,W⟩
  refine WY O C W (λe=> ?_) λn st2 hn W2=> ⟨lo+n,rfl,by omega,W2⟩
  subst e;exact ⟨rfl,W⟩
 case rest=>
  rintro c st' ⟨rfl,W⟩;dsimp only
  have hsz:(pendingOf st').size<=a₀.size:=by
   have:=nG W.ch;simp at this;omega
  refine aCw (aEp (aEc (I:=λx c st2=> c=(none,())/\Wait κ lt a₀ st2 a₀.size/\((pendingOf st2).size<=1\/(pendingOf st2).size+x<=a₀.size)) (Q:=λc st2=> c=(none,())/\Wait κ lt a₀ st2 a₀.size/\(pendingOf st2).size<=1) ?_ ?_ ⟨rfl,W,.inr (by omega)⟩) ?_)
  ·rintro x c st2 _ hx ⟨rfl,W2,hp⟩;unfold R5;refine aCw (wpS_get ?_);by_cases c1:(pendingOf st2).size<=1
   ·rw [if_pos c1];exact aD0 ⟨rfl,W2,c1⟩
   ·rw [if_neg c1];refine aCw (F4 O C W2 (idx _ _ (by omega)) λst3 W3 p3 _=> ?_);exact aD0 ⟨rfl,W3,.inr (by omega)⟩
  ·rintro c st2 ⟨rfl,W2,hp⟩;exact ⟨rfl,W2,by simp at hp;omega⟩
  ·rintro c st2 ⟨rfl,W2,hp⟩;dsimp only;refine aD0 (h st2 W2.base ?_);have ch:=W2.ch
   cases hl:(pendingOf st2).toList with
   | nil=>
    rw [hl] at ch;simp [Chain] at ch;intro p q _ _ hq;omega
   | cons r l=>
    have:l=[]:=by
     have:=aE0 List.length hl;simp at this;exact aE1.mp (by omega)
    subst this;rw [hl] at ch;simp only [List.map_cons,List.map_nil,Chain,eV] at ch;have:=W2.sg r (by rw [hl];simp);rw [ch.1,ch.2.2] at this;exact this
end
section
variable {prog:Program} {w:World} {A:Around} {E:Value->Shared->Prop} {s:Shared} {a₀:Array Keyed} {κ:SortKind} {lt:Keyed->Keyed->Bool}
theorem OY {vs:List Value} {xs:Array Keyed} (hp:xs.Perm (pairsOf vs)) (sg:Seg lt xs 0 vs.length):
  ((xs.map (·.2)).toList).Perm vs/\((xs.map (·.2)).toList).Pairwise (λx y=> lt (y,y) (x,x)=false):=by
 have hl:xs.toList.Perm (vs.zip vs):=by rw [<-pairsOf_toList];exact Array.perm_iff_toList_perm.mp hp
 have same:∀p∈xs.toList,p=(p.2,p.2):=λp hpm=> by
  have hm:=hl.mem_iff.mp hpm
  have:∀(l:List Value) (q:Keyed),q∈l.zip l->q=(q.2,q.2):=λl q hq=> by
   induction l with
   | nil=> simp at hq
   | cons v r ih=>
    rw [List.zip_cons_cons] at hq;rcases aCv.mp hq with e | e
    ·rw [e]
    ·exact ih e
  exact this vs p hm
 have hsz:xs.size=vs.length:=by have:=hp.size_eq;rw [pairsOf_size] at this;exact this
 refine ⟨?_,?_⟩
 ·rw [Array.toList_map];have:=hl.map (·.2)
  rwa [show (vs.zip vs).map (·.2)=vs from List.map_snd_zip (aCs _)] at this
 ·rw [Array.toList_map,List.pairwise_map];rw [List.pairwise_iff_getElem];intro i j hi hj hij;have hi' :i < xs.size:=by simpa using hi
  have hj' :j < xs.size:=by simpa using hj
  have q:=sg i j (aEd _) (aEu hij) (by rw [<-hsz];exact hj');have ei:aW xs i=xs.toList[i]:=by unfold aW;rw [getElem?_pos xs i hi'];simp
  have ej:aW xs j=xs.toList[j]:=by unfold aW;rw [getElem?_pos xs j hj'];simp
  rw [ei,ej] at q;rw [same _ (List.getElem_mem hi),same _ (List.getElem_mem hj)] at q;exact q
theorem EA (O:Wk lt) {a:Addr} {vs:List Value} {n:Nat} {P:PySem.Fin->Shared->Prop} (ho:s.heap.get? a=some (seqObj "list" vs.toArray n)) (h64:vs.length < 4000)
  (ck:2<=vs.length->∀h' :Heap,(∀b o,b≠a->s.heap.get? b=some o->h'.get? b=some o)->nL prog w A {s with heap:=h'} κ lt (pairsOf vs)/\
   ∀Q',Q' κ {s with heap:=h'}->wpAny (model prog w) A (keyKind' vs.toArray) Q' E {s with heap:=h'})
  (h:∀out:List Value,out.Perm vs->out.Pairwise (λx y=> lt (y,y) (x,x)=false)->P (.done (.ret .none)) {s with heap:=sortedHeap s.heap a vs out.toArray}):
  wpAny (model prog w) A (Builtin.«list.sort» ⟨[.ref a],[]⟩) P E s:=by
 have la:a < s.heap.objs.size:=aCx ho;have zl:sizeLine=16777216:=aDe
 obtain ⟨e1,o1⟩:∃e1,(s.heap.update a (Obj.mapSeq λ_=> #[])).get? a=some (seqObj "list" #[] e1):=⟨_,get?_update_seq ho λ_=> #[]⟩
 have o2:(((s.heap.update a (Obj.mapSeq λ_=> #[])).push (seqObj "tuple" vs.toArray 0)).push (seqObj "list" #[] 0)).get? a=some (seqObj "list" #[] e1):=aCp _ (aCp _ o1)
 have others:∀b o,b≠a->s.heap.get? b=some o->(((s.heap.update a (Obj.mapSeq λ_=> #[])).push (seqObj "tuple" vs.toArray 0)).push (seqObj "list" #[] 0)).get? b=some o:=λb o hb e=>
  aCp _ (aCp _ (by rw [Heap.get?_update_ne _ _ _ _ hb];exact e))
 have ending:∀st' :SortSt,(arrOf st').Perm (pairsOf vs)->Seg lt (arrOf st') 0 vs.length->failedOf st' =none->wpAny (model prog w) A (do
   let touched:=(<-seqEpoch a) !=e1
   Builtin.List.listUpdate (.ref a) λ_=> (arrOf st').map (·.2)
   if let some e:=failedOf st' then rule "list.sort.comparison-raised";throw e
   if touched then rule "list.sort.modified";raiseError "ValueError" "list modified during sort"
   ret .none) P E {s with heap:=((s.heap.update a (Obj.mapSeq λ_=> #[])).push (seqObj "tuple" vs.toArray 0)).push (seqObj "list" #[] 0)}:=λst' hp sg hf=> by
  obtain ⟨p1,p2⟩:=OY hp sg
  have oz:((arrOf st').map (·.2)).size<=sizeLine:=by
   rw [Array.size_map];have:=hp.size_eq;rw [pairsOf_size] at this;omega
  refine aCm (seqEpoch_at o2 rfl ?_);refine aCm (listUpdate_at o2 rfl ?_ (hsz2:=by omega));rw [hf];simp only [bne_self_eq_false,Bool.false_eq_true,if_false];have fin:=h _ p1 p2;rw [Array.toArray_toList] at fin;exact aCo fin
 rw [list_sort_plain];refine aCm (listItems_at ho rfl ?_);refine aCm (listUpdate_at ho rfl ?_ (by rw [List.size_toArray];omega) (aEd _));refine aCm (seqEpoch_at o1 rfl ?_);refine aCm (aF8 ?_ (by show vs.length<=_;omega));refine aCm (aGl ?_ (aEd _));refine aDm ?_;dsimp only;by_cases Q1:vs.length < 2
 ·have few' :vs.toArray.size < 2:=by rw [List.size_toArray];exact Q1
  rw [if_pos few',if_pos few'];refine aCm (aCo ?_);rw [StateT.run_pure];refine aCm (aCo ?_)
  exact ending (SortSt.mk' general' (vs.toArray.zip vs.toArray) #[] 7 none) (Array.Perm.refl _) (λp q _ hpq hq=> by
   obtain rfl:p=q:=by omega
   exact O.IY _) rfl
 ·have many:¬vs.toArray.size < 2:=by rw [List.size_toArray];exact Q1
  rw [if_neg many,if_neg many];obtain ⟨cmp,kind⟩:=ck (by omega) _ others;refine aCm (kind _ ?_)
  refine aCm (aEf (SN (Q:=λ_ st' => Base κ (pairsOf vs) st' /\Seg lt (arrOf st') 0 (pairsOf vs).size) O cmp (st:=SortSt.mk' κ (vs.toArray.zip vs.toArray) #[] 7 none) ⟨Array.Perm.refl _,rfl,rfl⟩ rfl
   λst' b sg=> ⟨b,sg⟩) (λr s' hr=> ?_) λ_ _ e=> e)
  obtain ⟨⟨⟩,st'⟩:=r;obtain ⟨rfl,b,sg⟩:=hr;rw [pairsOf_size] at sg;exact ending st' b.perm sg b.JD
theorem KP (O:Wk lt) {l:Addr} {vs:List Value} {Q:Value->Shared->Prop} (hl:s.heap.IsList l vs.toArray) (h64:vs.length < 4000)
  (ck:2<=vs.length->∀h' :Heap,(∀b o,s.heap.get? b=some o->h'.get? b=some o)->nL prog w A.in1.in1 {s with heap:=h'} κ lt (pairsOf vs)/\
   ∀Q' E',Q' κ {s with heap:=h'}->wpAny (model prog w) A.in1.in1 (keyKind' vs.toArray) Q' E' {s with heap:=h'})
  (h:∀out:List Value,out.Perm vs->out.Pairwise (λx y=> lt (y,y) (x,x)=false)->Q (.ref (s.heap.objs.size+1)) {s with heap:=sortedAll s.heap vs out.toArray}):
  wpAny (model prog w) A (call (.builtin "sorted") [.ref l]) Q E s:=by
 have zl:sizeLine=16777216:=aDe;have grown:((s.heap.push (seqObj "list" #[] 0)).update s.heap.objs.size (Obj.mapSeq (· ++vs.toArray))).objs.size=s.heap.objs.size+1:=by rw [Heap.size_update,size_push']
 have kept:∀b o,s.heap.get? b=some o->(((s.heap.push (seqObj "list" #[] 0)).update s.heap.objs.size (Obj.mapSeq (· ++vs.toArray))).push (seqObj "list" vs.toArray 0)).get? b=some o:=λb o e=> by
  have lb:=aCx e;refine aCp _ ?_;rw [Heap.get?_update_ne _ _ _ _ (Nat.ne_of_lt lb)];exact aCp _ e
 refine aFg kind_sorted plain_sorted entry_sorted (args_sorted1 _) ?_;unfold Builtin.«sorted»;refine aCm (m:=checkCount "sorted" 1 1 _) (aCo ?_);refine aCm (collect_list hl ?_ (by omega));refine aCm (aGl ?_ (by omega))
 have ob:(((s.heap.push (seqObj "list" #[] 0)).update s.heap.objs.size (Obj.mapSeq (· ++vs.toArray))).push (seqObj "list" vs.toArray 0)).get? (s.heap.objs.size+1)=some (seqObj "list" vs.toArray 0):=by
  rw [<-grown];exact aCu _ rfl
 show wpAny _ _ _ _ _ {s with heap:=((s.heap.push (seqObj "list" #[] 0)).update s.heap.objs.size (Obj.mapSeq (· ++vs.toArray))).push (seqObj "list" vs.toArray 0)};rw [grown];refine aCm (aDm (aD5 slot_list_sort ⟨_,ob,rfl⟩ entry_list_sort (EA (κ:=κ) (s:={s with heap:=((s.heap.push (seqObj "list" #[] 0)).update s.heap.objs.size (Obj.mapSeq (· ++vs.toArray))).push (seqObj "list" vs.toArray 0)}) O ob h64 (λh2 h' k=> ?_) λout p1 p2=> ⟨_,rfl,aCo ⟨_,rfl,h out p1 p2⟩⟩) (args_list_sort _)));obtain ⟨c1,c2⟩:=ck h2 h' λb o e=> k b o (aD6 (aDx (aCx e))) (kept b o e);exact ⟨c1,λQ' q=> c2 Q' _ q⟩
end
end TS
namespace D3
open PySem PySem.Spec PyProof.Rows L2
inductive D where
 | cN | bl (b:Bool) | int (i:Int) | str (x:Str) | ty (n:String)
 | tup (ds:List D) | fl (ds:List D) | ref (n:Nat)
inductive MO where
 | lst (ds:List D)
 | dic (t:Bool) (kvs:List (D×D))
abbrev MH := List MO
abbrev gV := List (Option D)
def N9 (K:aGp) (H:Hp) (a:Addr) (xs:List V):Prop:=
 (∃o,H a=some (.frz o (.lst xs)))\/
  ∃(o:Obj) (aL:Array Value) (n:Nat),K.lookup a=some o/\o.cls= .type "list"/\o.dict=none/\o.data= .seq aL n/\aL.size<=sizeLine/\Vals xs aL.toList
theorem N9.sq {K:aGp} {H:Hp} {a:Addr} {xs:List V} (h:N9 K H a xs):pD K H a xs:=by
 rcases h with h | h
 ·exact .inl (.inr h)
 ·exact .inr h
mutual
def Is (K:aGp) (μ:List Addr) (H:Hp):D->V->Prop
 | .cN,v=> v= .cN
 | .bl b,v=> v= .bl b
 | .int i,v=> v= .int i
 | .str x,v=> v= .str x
 | .ty n,v=> v= .ty n
 | .tup ds,v=> ∃a vs,v= .ref a/\pC K H a vs/\IsL K μ H ds vs
 | .fl ds,v=> ∃a vs,v= .ref a/\N9 K H a vs/\IsL K μ H ds vs
 | .ref n,v=> ∃a,μ[n]? =some a/\v= .ref a
def IsL (K:aGp) (μ:List Addr) (H:Hp):List D->List V->Prop
 | [],vs=> vs=[]
 | d::ds,vs=> ∃v r,vs=v::r/\Is K μ H d v/\IsL K μ H ds r
end
def bI:Key->D
 | .inl i=> .int i
 | .inr x=> .str x
def N1 (o:Option HO) (ks:List D) (vs:List V):Bool->Prop
 | false=> ∃kk:List (Key×V),o=some (.dK kk)/\ks=kk.map (λp=> bI p.1)/\vs=kk.map (·.2)
 | true=> ∃kk:List (List Key×V),o=some (.dT kk)/\ks=kk.map (λp=> .tup (p.1.map bI))/\vs=kk.map (·.2)
def oH (K:aGp) (μ:List Addr) (H:Hp):MO->Addr->Prop
 | .lst ds,a=> ∃vs,H a=some (.lst vs)/\IsL K μ H ds vs
 | .dic t kvs,a=> ∃vs,N1 (H a) (kvs.map (·.1)) vs t/\IsL K μ H (kvs.map (·.2)) vs
structure Rep (K:aGp) (μ:List Addr) (mh:MH) (H:Hp):Prop where
 len:μ.length=mh.length
 nd:μ.Nodup
 obj:∀(n:Nat) a o,μ[n]? =some a->mh[n]? =some o->oH K μ H o a
structure aU (μ:List Addr) (H:Hp) (μ' :List Addr) (H' :Hp):Prop where
 pre:∃t,μ' =μ++t
 fr:∀b o,H b=some o->b∉μ->H' b=some o
 nw:∀a∈μ',a∈μ\/H a=none
def dA (K:aGp) (μ:List Addr) (H:Hp) (ρ:gV) (σ:L2.St):Prop:=
 ρ.length=σ.length/\∀(i:Nat) d,ρ[i]? =some (some d)->∃v,σ[i]? =some (some v)/\Is K μ H d v
section
variable {K:aGp} {μ μ1 μ2 μ' :List Addr} {mh mh' :MH} {H H1 H2 H' :Hp}
theorem oH.mut {o:MO} {a:Addr} (h:oH K μ H o a):JV (H a):=by
 cases o with
 | lst ds=> obtain ⟨vs,e,_⟩:=h;rw [e];trivial
 | dic t kvs=> cases t <;> (obtain ⟨vs,⟨kk,e,_⟩,_⟩:=h;rw [e];trivial)
theorem Rep.at (R:Rep K μ mh H) {a:Addr} (h:a∈μ):∃(n:Nat) (o:MO),μ[n]? =some a/\mh[n]? =some o/\oH K μ H o a:=by
 obtain ⟨n,hn⟩:=aD3.mp h;have hl:n < mh.length:=by rw [<-R.len];exact (aCn.mp hn).1
 exact ⟨n,mh[n],hn,by simp [hl],R.obj n a _ hn (by simp [hl])⟩
theorem Rep.mut (R:Rep K μ mh H) {a:Addr} (h:a∈μ):JV (H a):=let ⟨_,_,_,_,q⟩:=R.at h;q.mut
theorem aU.refl:aU μ H μ H:=⟨⟨[],by simp⟩,λ_ _ h _=> h,λ_ h=> .inl h⟩
theorem aU.trans (p:aU μ H μ1 H1) (q:aU μ1 H1 μ2 H2):aU μ H μ2 H2:=by
 refine ⟨?_,λb o e n=> ?_,λa ha=> ?_⟩
 ·obtain ⟨t,rfl⟩:=p.pre;obtain ⟨u,rfl⟩:=q.pre;exact ⟨t++u,by simp⟩
 ·refine q.fr b o (p.fr b o e n) λhb=> ?_;rcases p.nw b hb with z | z
  ·exact n z
  ·rw [e] at z;cases z
 ·rcases q.nw a ha with z | z
  ·exact p.nw a z
  ·by_cases hm:a∈μ
   ·exact .inl hm
   ·right
    cases e:H a with
    | none=> rfl
    | some o=> rw [p.fr a o e hm] at z;cases z
theorem aU.get (p:aU μ H μ' H') {n:Nat} {a:Addr} (h:μ[n]? =some a):μ'[n]? =some a:=by
 obtain ⟨t,rfl⟩:=p.pre;rw [List.getElem?_append_left (List.getElem?_eq_some_iff.mp h).1];exact h
theorem Rep.XR (R:Rep K μ mh H) (p:aU μ H μ' H') {a:Addr} {vs:List V} (h:pC K H a vs):pC K H' a vs:=by
 rcases h with (h | ⟨o,h⟩) | h
 ·refine .inl (.inl (p.fr _ _ h λhm=> ?_));have:=R.mut hm;rw [h] at this;exact this
 ·refine .inl (.inr ⟨o,p.fr _ _ h λhm=> ?_⟩);have:=R.mut hm;rw [h] at this;exact this
 ·exact .inr h
theorem Rep.XS (R:Rep K μ mh H) (p:aU μ H μ' H') {a:Addr} {vs:List V} (h:N9 K H a vs):N9 K H' a vs:=by
 rcases h with ⟨o,h⟩ | h
 ·refine .inl ⟨o,p.fr _ _ h λhm=> ?_⟩;have:=R.mut hm;rw [h] at this;exact this
 ·exact .inr h
mutual
theorem Is.mono (R:Rep K μ mh H) (p:aU μ H μ' H'):∀(d:D) (v:V),Is K μ H d v->Is K μ' H' d v
 | .cN,v,h=> by unfold Is at*;exact h
 | .bl _,v,h=> by unfold Is at*;exact h
 | .int _,v,h=> by unfold Is at*;exact h
 | .str _,v,h=> by unfold Is at*;exact h
 | .ty _,v,h=> by unfold Is at*;exact h
 | .tup ds,v,h=> by
  unfold Is at*;obtain ⟨a,vs,e,s,l⟩:=h;exact ⟨a,vs,e,R.XR p s,IsL.mono R p ds vs l⟩
 | .fl ds,v,h=> by
  unfold Is at*;obtain ⟨a,vs,e,s,l⟩:=h;exact ⟨a,vs,e,R.XS p s,IsL.mono R p ds vs l⟩
 | .ref n,v,h=> by
  unfold Is at*;obtain ⟨a,e,q⟩:=h;exact ⟨a,p.get e,q⟩
theorem IsL.mono (R:Rep K μ mh H) (p:aU μ H μ' H'):∀(ds:List D) (vs:List V),IsL K μ H ds vs->IsL K μ' H' ds vs
 | [],vs,h=> by unfold IsL at*;exact h
 | d::ds,vs,h=> by
  unfold IsL at*;obtain ⟨v,r,e,q,l⟩:=h;exact ⟨v,r,e,Is.mono R p d v q,IsL.mono R p ds r l⟩
end
theorem dA.mono {ρ:gV} {σ:L2.St} (R:Rep K μ mh H) (p:aU μ H μ' H') (E:dA K μ H ρ σ):dA K μ' H' ρ σ:=⟨E.1,λi d e=> by
 obtain ⟨v,h1,h2⟩:=E.2 i d e
 exact ⟨v,h1,Is.mono R p d v h2⟩⟩
theorem oH.mono {o:MO} {a:Addr} (R:Rep K μ mh H) (p:aU μ H μ' H') (e:H' a=H a) (h:oH K μ H o a):oH K μ' H' o a:=by
 cases o with
 | lst ds=> obtain ⟨vs,q,l⟩:=h;exact ⟨vs,by rw [e];exact q,IsL.mono R p ds vs l⟩
 | dic t kvs=> obtain ⟨vs,q,l⟩:=h;exact ⟨vs,by rw [e];exact q,IsL.mono R p _ vs l⟩
theorem aU.new {o:HO} {q:Addr} (R:Rep K μ mh H) (hq:H q=none):aU μ H μ (upd H q o):=
 ⟨⟨[],by simp⟩,λb u e _=> by rw [aV (bY e hq)];exact e,λ_ h=> .inl h⟩
theorem Rep.ne (R:Rep K μ mh H) {q a:Addr} (hq:H q=none) (h:a∈μ):a≠q:=by
 rintro rfl;have:=R.mut h;rw [hq] at this;exact this
theorem Rep.new {o:HO} {q:Addr} (R:Rep K μ mh H) (hq:H q=none):Rep K μ mh (upd H q o):=
 ⟨R.len,R.nd,λn a ob h1 h2=> (R.obj n a ob h1 h2).mono R (aU.new R hq) (aV (R.ne hq (aCz h1)))⟩
theorem aU.LY {q:Addr} {o:HO} (R:Rep K μ mh H) (hq:H q=none):aU μ H (μ++[q]) (upd H q o):=
 ⟨⟨[q],rfl⟩,λb u e _=> by rw [aV (bY e hq)];exact e,λa h=> by
  rcases aCt.mp h with h | h
  ·exact .inl h
  ·simp at h;subst h;exact .inr hq⟩
theorem Rep.LY {q:Addr} {vs:List V} {ds:List D} (R:Rep K μ mh H) (hq:H q=none) (l:IsL K μ H ds vs):Rep K (μ++[q]) (mh++[.lst ds]) (upd H q (.lst vs)):=by
 have P:aU μ H (μ++[q]) (upd H q (.lst vs)):=aU.LY R hq;refine ⟨by simp [R.len],?_,λn a ob h1 h2=> ?_⟩
 ·rw [List.nodup_append];refine ⟨R.nd,by simp,λa ha b hb=> ?_⟩;simp at hb;subst hb;exact R.ne hq ha
 ·by_cases hn:n < μ.length
  ·rw [List.getElem?_append_left hn] at h1;rw [List.getElem?_append_left (by rw [<-R.len];exact hn)] at h2;exact (R.obj n a ob h1 h2).mono R P (aV (R.ne hq (aCz h1)))
  ·rw [List.getElem?_append_right (by omega)] at h1;rw [List.getElem?_append_right (by rw [<-R.len];omega)] at h2
   have hz:n - μ.length=0:=by
    have:=(aCn.mp h1).1;simp at this;omega
   rw [hz] at h1;rw [<-R.len,hz] at h2;simp at h1 h2;subst h1 h2;exact ⟨vs,cE,l.mono R P⟩
theorem aU.set {n:Nat} {a:Addr} {o:HO} (R:Rep K μ mh H) (h:μ[n]? =some a):aU μ H μ (upd H a o):=
 ⟨⟨[],by simp⟩,λb u e hb=> by rw [aV (λz=> hb (by rw [z];exact List.mem_of_getElem? h))];exact e,λ_ h=> .inl h⟩
theorem LZ {n m:Nat} {a:Addr} (nd:μ.Nodup) (h1:μ[n]? =some a) (h2:μ[m]? =some a):n=m:=by
 obtain ⟨l1,e1⟩:=aCn.mp h1;obtain ⟨l2,e2⟩:=aCn.mp h2;exact (List.getElem_inj nd).mp (e1.trans e2.symm)
theorem Rep.set {n:Nat} {a:Addr} {ds:List D} {vs:List V} (R:Rep K μ mh H) (h:μ[n]? =some a) (l:IsL K μ H ds vs):Rep K μ (mh.set n (.lst ds)) (upd H a (.lst vs)):=by
 have P:aU μ H μ (upd H a (.lst vs)):=aU.set R h;refine ⟨by simp [R.len],R.nd,λm b ob h1 h2=> ?_⟩;by_cases hm:m=n
 ·subst hm;rw [h] at h1;cases h1;have hl:m < mh.length:=by rw [<-R.len];exact (aCn.mp h).1
  rw [List.getElem?_set_self hl] at h2;cases h2;exact ⟨vs,cE,l.mono R P⟩
 ·rw [List.getElem?_set_ne (Ne.symm hm)] at h2;exact (R.obj m b ob h1 h2).mono R P (aV λz=> hm (LZ R.nd h1 (by rw [z];exact h)))
end
abbrev DK := D -> MH -> Prop
abbrev WE := gV -> MH -> DK -> Prop
def Fin (K:aGp) (μ:List Addr) (H:Hp) (R:DK) (Q:VK):Prop:=
 ∀d mh',R d mh' ->∀μ' v H',aU μ H μ' H' ->Rep K μ' mh' H' ->Is K μ' H' d v->Q v H'
def tL (K:aGp) (w:WE):TE:=λσ H Q=> ∃μ ρ mh R,Rep K μ mh H/\dA K μ H ρ σ/\w ρ mh R/\Fin K μ H R Q
def LE (X:Cx) (e:Expr) (w:WE):Prop:=PE X e (tL X.K w)
theorem PE.imp {X:Cx} {e:Expr} {t t' :TE} (h:PE X e t) (i:∀σ H Q,t' σ H Q->t σ H Q):PE X e t' :=λpins s σ H Q I q=> h pins s σ H Q I (i σ H Q q)
theorem Fin.at {K:aGp} {μ μ1:List Addr} {H H1:Hp} {R:DK} {Q:VK} (F:Fin K μ H R Q) (P:aU μ H μ1 H1):Fin K μ1 H1 R Q:=
 λd mh' r μ' v H' P' R' I=> F d mh' r μ' v H' (P.trans P') R' I
def aC (i:Nat):WE:=λρ mh Q=> ∃d,ρ[i]? =some (some d)/\Q d mh
def wC (d:D):WE:=λ_ mh Q=> Q d mh
section
variable {X:Cx} {a b c:Expr} {wa wb wc:WE} {pos:Pos}
theorem aA (i:Nat) {x:Str} (hN:X.N[i]? =some x:=by rfl) (hv:ZM X.env.scope x:=by first | exact Or.inl rfl | exact Or.inr (Or.inl rfl) | exact Or.inr (Or.inr rfl)) (hd:(x==("__debug__":Str))=false:=by decide)
  (hcd:(x==("__classdict__":Str))=false:=by decide):LE X (.Name x pos) (aC i):=PE.imp (T4 hN hv hd hcd) λσ H Q h=> by
 obtain ⟨μ,ρ,mh,R,r,E,⟨d,hd,hR⟩,F⟩:=h;obtain ⟨v,e,i⟩:=E.2 _ d hd;exact ⟨v,e,F d mh hR μ v H aU.refl r i⟩
theorem UX {e:Expr} {v:V} {d:D} (h:PE X e (tC v)) (hI:∀μ H,Is X.K μ H d v):LE X e (wC d):=PE.imp h λσ H Q h=> by
 obtain ⟨μ,ρ,mh,R,r,E,hR,F⟩:=h;exact F d mh hR μ v H aU.refl r (hI μ H)
theorem le_int {i:Int} {j}:LE X (.Constant (.int i) j pos) (wC (.int i)):=UX T9 λ_ _=> by unfold Is;rfl
theorem xN {i:Bool} {j}:LE X (.Constant (.bool i) j pos) (wC (.bl i)):=UX YG λ_ _=> by unfold Is;rfl
theorem QM {x:Str} {T:String} (hg:Gl X x) (hm:X.mg x=none) (hv:bootBuiltins x=some (.type T)) (hn:x≠ "__name__":=by decide) (hd:(x==("__debug__":Str))=false:=by decide):LE X (.Name x pos) (wC (.ty T)):=
 UX (PV (v:= .ty T) hg hm hv rfl hn hd) λ_ _=> by unfold Is;rfl
abbrev O1 := D -> MH -> DK -> Prop
abbrev O2 := D -> D -> MH -> DK -> Prop
def d6 (K:aGp) (f:O2):R2:=λx y H Q=> ∃μ mh dx dy R,Rep K μ mh H/\Is K μ H dx x/\Is K μ H dy y/\f dx dy mh R/\Fin K μ H R Q
def L7 (K:aGp) (f:O1):V->Hp->VK->Prop:=λx H Q=> ∃μ mh dx R,Rep K μ mh H/\Is K μ H dx x/\f dx mh R/\Fin K μ H R Q
def bL (f:O2) (wa wb:WE):WE:=λρ mh Q=> wa ρ mh λx mh1=> wb ρ mh1 λy mh2=> f x y mh2 Q
def v8 (f:O1) (wa:WE):WE:=λρ mh Q=> wa ρ mh λx mh1=> f x mh1 Q
theorem GO {K:aGp} {f:O2} {σ:L2.St} {H:Hp} {Q:VK} (h:tL K (bL f wa wb) σ H Q):XG (d6 K f) (tL K wa) (tL K wb) σ H Q:=by
 obtain ⟨μ,ρ,mh,R,RR,E,h,F⟩:=h;refine ⟨μ,ρ,mh,_,RR,E,h,λdx mh1 h1 μ1 vx H1 P1 R1 I1=> ⟨μ1,ρ,mh1,_,R1,E.mono RR P1,h1,λdy mh2 h2 μ2 vy H2 P2 R2 I2=> ?_⟩⟩;exact ⟨μ2,mh2,dx,dy,R,R2,Is.mono R1 P2 dx vx I1,I2,h2,F.at (P1.trans P2)⟩
theorem XE {K:aGp} {f:O1} {σ:L2.St} {H:Hp} {Q:VK} (h:tL K (v8 f wa) σ H Q):tUn (L7 K f) (tL K wa) σ H Q:=by
 obtain ⟨μ,ρ,mh,R,RR,E,h,F⟩:=h;exact ⟨μ,ρ,mh,_,RR,E,h,λdx mh1 h1 μ1 vx H1 P1 R1 I1=> ⟨μ1,mh1,dx,R,R1,I1,h1,F.at P1⟩⟩
theorem bS {op:Operator} {f:O2} (ho:jB X (binaryOp op) (d6 X.K f)) (ha:LE X a wa) (hb:LE X b wb):LE X (.BinOp a op b pos) (bL f wa wb):=PE.imp (YC ho ha hb) λ_ _ _ h=> GO h
theorem fL {op:UnaryOp} {f:O1} (ho:ZN X (unaryOp op) (L7 X.K f)) (ha:LE X a wa):LE X (.UnaryOp op a pos) (v8 f wa):=PE.imp (YB ho ha) λ_ _ _ h=> XE h
theorem rE {op:CmpOp} {f:O2} (ho:jB X (compareOp op) (d6 X.K f)) (ha:LE X a wa) (hb:LE X b wb) (hm:behindInMarks op b=false):LE X (.Compare a [op] [b] pos) (bL f wa wb):=PE.imp (PU ho ha hb hm) λ_ _ _ h=> GO h
theorem bK {f:O2} (ho:SH X (d6 X.K f)) (ha:LE X a wa) (hb:LE X b wb) (hs:HM b):LE X (.Subscript a b pos) (bL f wa wb):=PE.imp (YE ho ha hb hs) λ_ _ _ h=> GO h
abbrev WT := gV -> MH -> (Bool -> MH -> Prop) -> Prop
def RF (K:aGp) (μ:List Addr) (H:Hp) (R:Bool->MH->Prop) (Q:Bool->Hp->Prop):Prop:=
 ∀b mh',R b mh' ->∀μ' H',aU μ H μ' H' ->Rep K μ' mh' H' ->Q b H'
def WK (K:aGp) (w:WT):TT:=λσ H Q=> ∃μ ρ mh R,Rep K μ mh H/\dA K μ H ρ σ/\w ρ mh R/\RF K μ H R Q
def LT (X:Cx) (e:Expr) (w:WT):Prop:=PT X e (WK X.K w)
def LW (X:Cx) (e:Expr) (w:WT):Prop:=PW X e (WK X.K w)
theorem PT.imp {X:Cx} {e:Expr} {t t' :TT} (h:PT X e t) (i:∀σ H Q,t' σ H Q->t σ H Q):PT X e t' :=λpins s σ H Q I q=> h pins s σ H Q I (i σ H Q q)
theorem PW.imp {X:Cx} {e:Expr} {t t' :TT} (h:PW X e t) (i:∀σ H Q,t' σ H Q->t σ H Q):PW X e t' :=λwh pins s σ H Q I q=> h wh pins s σ H Q I (i σ H Q q)
theorem RF.at {K:aGp} {μ μ1:List Addr} {H H1:Hp} {R:Bool->MH->Prop} {Q:Bool->Hp->Prop} (F:RF K μ H R Q) (P:aU μ H μ1 H1):RF K μ1 H1 R Q:=
 λb mh' r μ' H' P' R' => F b mh' r μ' H' (P.trans P') R'
def eA (w:WE):WT:=λρ mh Q=> w ρ mh λx mh1=> ∃k,x= .bl k/\Q k mh1
theorem SX {K:aGp} {t:TE} {w:WE} {σ:L2.St} {H:Hp} {Q:Bool->Hp->Prop} (i:∀σ H Q,tL K w σ H Q->t σ H Q) (h:WK K (eA w) σ H Q):RP t σ H Q:=by
 obtain ⟨μ,ρ,mh,R,RR,E,h,F⟩:=h;refine i σ H _ ⟨μ,ρ,mh,_,RR,E,h,λdx mh1 h1 μ1 vx H1 P1 R1 I1=> ?_⟩;obtain ⟨k,rfl,h1⟩:=h1;unfold Is at I1;exact ⟨k,I1,F k mh1 h1 μ1 H1 P1 R1⟩
theorem bT {op:CmpOp} {f:O2} (ho:jB X (compareOp op) (d6 X.K f)) (ha:LE X a wa) (hb:LE X b wb) (hm:behindInMarks op b=false):LT X (.Compare a [op] [b] pos) (eA (bL f wa wb)):=
 PT.imp (PB ho ha hb hm) λ_ _ _ h=> SX (λ_ _ _ z=> GO z) h
def jF (mh:MH):D->Option Bool
 | .cN=> some false
 | .bl b=> some b
 | .int i=> some (i !=0)
 | .str y=> if y.length<=sizeLine then some ((y.length:Int) !=0) else none
 | .tup ds=> some !ds.isEmpty
 | .fl ds=> some !ds.isEmpty
 | .ref n=> match mh[n]? with | some (.lst ds)=> some !ds.isEmpty | _=> none
 | .ty _=> none
theorem aR {K:aGp} {μ:List Addr} {H:Hp}:∀{ds:List D} {vs:List V},IsL K μ H ds vs->vs.length=ds.length
 | [],vs,h=> by unfold IsL at h;subst h;rfl
 | d::ds,vs,h=> by unfold IsL at h;obtain ⟨v,r,rfl,_,l⟩:=h;simp [aR l]
theorem zP {K:aGp} {μ:List Addr} {H:Hp} {ds:List D} {vs:List V} (h:IsL K μ H ds vs):vs.isEmpty=ds.isEmpty:=by
 have:=aR h;cases vs <;> cases ds <;> simp_all
theorem S0 {K:aGp} {μ:List Addr} {mh:MH} {H:Hp} {d:D} {v:V} {k:Bool} (R:Rep K μ mh H) (h:Is K μ H d v) (e:jF mh d=some k):V9 K v H k:=by
 cases d with
 | cN=> unfold Is at h;subst h;simp [jF] at e;subst e;rfl
 | bl b=> unfold Is at h;subst h;simp [jF] at e;subst e;rfl
 | int i=> unfold Is at h;subst h;simp [jF] at e;subst e;rfl
 | str y=>
  unfold Is at h;subst h;simp only [jF] at e;split at e
  ·rename_i hl;exact ⟨hl,(aD4 e).symm⟩
  ·cases e
 | ty n=> simp [jF] at e
 | tup ds=>
  unfold Is at h;obtain ⟨a,vs,rfl,s,l⟩:=h;obtain rfl:(!ds.isEmpty)=k:=aD4 e;exact .inr (.inl ⟨vs,s,by rw [zP l]⟩)
 | fl ds=>
  unfold Is at h;obtain ⟨a,vs,rfl,s,l⟩:=h;obtain rfl:(!ds.isEmpty)=k:=aD4 e;exact .inl ⟨vs,s.sq,by rw [zP l]⟩
 | ref n=>
  unfold Is at h;obtain ⟨a,q,rfl⟩:=h;simp only [jF] at e
  cases o:mh[n]? with
  | none=> rw [o] at e;cases e
  | some ob=>
   cases ob with
   | lst ds=>
    rw [o] at e;cases e;obtain ⟨vs,hv,l⟩:=R.obj n a _ q o;exact .inl ⟨vs,.of hv,by rw [zP l]⟩
   | dic t kvs=> rw [o] at e;cases e
def qX (w:WE):WT:=λρ mh Q=> w ρ mh λx mh1=> ∃k,jF mh1 x=some k/\Q k mh1
theorem e9 (ha:LE X a wa) (he:∀whole,isTrue a X.env whole=(do let v<-whole;standAt a.pos;holding [v] (truthy v)):=by intro _;rfl):LT X a (qX wa):=PT.imp (K7 ha he) λσ H Q h=> by
 obtain ⟨μ,ρ,mh,R,RR,E,h,F⟩:=h;refine ⟨μ,ρ,mh,_,RR,E,h,λdx mh1 h1 μ1 vx H1 P1 R1 I1=> ?_⟩;obtain ⟨k,e,h1⟩:=h1;exact ⟨k,S0 R1 I1 e,F k mh1 h1 μ1 H1 P1 R1⟩
def r6 (t u:WT):WT:=λρ mh Q=> t ρ mh λc mh1=> if c=true then u ρ mh1 Q else Q false mh1
def HS (t u:WT):WT:=λρ mh Q=> t ρ mh λc mh1=> if c=true then Q true mh1 else u ρ mh1 Q
def pP (t:WT):WT:=λρ mh Q=> t ρ mh λc mh1=> Q (!c) mh1
variable {ta tb:WT} {rest:List Expr}
theorem zH (ha:LT X a ta):LW X (.BoolOp .And [a] pos) ta:=O6 ha
theorem zG (ha:LT X a ta):LW X (.BoolOp .Or [a] pos) ta:=TN ha
theorem rB (ha:LT X a ta) (hb:LW X (.BoolOp .And (b::rest) pos) tb):LW X (.BoolOp .And (a::b::rest) pos) (r6 ta tb):=PW.imp (TQ ha hb) λσ H Q h=> by
 obtain ⟨μ,ρ,mh,R,RR,E,h,F⟩:=h;refine ⟨μ,ρ,mh,_,RR,E,h,λc mh1 h1 μ1 H1 P1 R1=> ?_⟩
 cases c with
 | true=> rw [if_pos rfl] at h1⊢;exact ⟨μ1,ρ,mh1,R,R1,E.mono RR P1,h1,F.at P1⟩
 | false=> rw [if_neg Bool.false_ne_true] at h1⊢;exact F false mh1 h1 μ1 H1 P1 R1
theorem GU (ha:LT X a ta) (hb:LW X (.BoolOp .Or (b::rest) pos) tb):LW X (.BoolOp .Or (a::b::rest) pos) (HS ta tb):=PW.imp (X8 ha hb) λσ H Q h=> by
 obtain ⟨μ,ρ,mh,R,RR,E,h,F⟩:=h;refine ⟨μ,ρ,mh,_,RR,E,h,λc mh1 h1 μ1 H1 P1 R1=> ?_⟩
 cases c with
 | true=> rw [if_pos rfl] at h1⊢;exact F true mh1 h1 μ1 H1 P1 R1
 | false=> rw [if_neg Bool.false_ne_true] at h1⊢;exact ⟨μ1,ρ,mh1,R,R1,E.mono RR P1,h1,F.at P1⟩
theorem LW.lt (h:LW X a ta):LT X a ta:=PW.pt h
theorem rC (ha:LT X a ta):LT X (.UnaryOp .Not a pos) (pP ta):=PT.imp (TR ha) λσ H Q h=> by
 obtain ⟨μ,ρ,mh,R,RR,E,h,F⟩:=h;exact ⟨μ,ρ,mh,_,RR,E,h,λc mh1 h1 μ1 H1 P1 R1=> F (!c) mh1 h1 μ1 H1 P1 R1⟩
def wV (wa wb:WE):WE:=λρ mh Q=> wa ρ mh λx mh1=> ∃c,x= .bl c/\if c=true then wb ρ mh1 Q else Q (.bl false) mh1
theorem L9 {op} (ha:LE X a wa):LE X (.BoolOp op [a] pos) wa:=T6 ha
theorem E4 (ha:LE X a wa) (hb:LE X (.BoolOp .And (b::rest) pos) wb):LE X (.BoolOp .And (a::b::rest) pos) (wV wa wb):=PE.imp (UA ha hb) λσ H Q h=> by
 obtain ⟨μ,ρ,mh,R,RR,E,h,F⟩:=h;refine ⟨μ,ρ,mh,_,RR,E,h,λdx mh1 h1 μ1 vx H1 P1 R1 I1=> ?_⟩;obtain ⟨c,rfl,h1⟩:=h1;unfold Is at I1;refine ⟨c,I1,?_⟩
 cases c with
 | true=> rw [if_pos rfl] at h1⊢;exact ⟨μ1,ρ,mh1,R,R1,E.mono RR P1,h1,F.at P1⟩
 | false=> rw [if_neg Bool.false_ne_true] at h1⊢;exact F _ mh1 h1 μ1 _ H1 P1 R1 (by unfold Is;rfl)
def F8 (wa:WE):WE:=λρ mh Q=> wa ρ mh λx mh1=> ∃c,x= .bl c/\Q (.bl !c) mh1
theorem UW (ha:LE X a wa):LE X (.UnaryOp .Not a pos) (F8 wa):=PE.imp (T7 ha) λσ H Q h=> by
 obtain ⟨μ,ρ,mh,R,RR,E,h,F⟩:=h;refine ⟨μ,ρ,mh,_,RR,E,h,λdx mh1 h1 μ1 vx H1 P1 R1 I1=> ?_⟩;obtain ⟨c,rfl,h1⟩:=h1;unfold Is at I1;exact ⟨c,I1,F _ mh1 h1 μ1 _ H1 P1 R1 (by unfold Is;rfl)⟩
def wIf (t:WT) (wa wb:WE):WE:=λρ mh Q=> t ρ mh λc mh1=> if c=true then wa ρ mh1 Q else wb ρ mh1 Q
theorem MA (hc:LT X c ta) (ha:LE X a wa) (hb:LE X b wb):LE X (.IfExp c a b pos) (wIf ta wa wb):=PE.imp (LH hc ha hb) λσ H Q h=> by
 obtain ⟨μ,ρ,mh,R,RR,E,h,F⟩:=h;refine ⟨μ,ρ,mh,_,RR,E,h,λk mh1 h1 μ1 H1 P1 R1=> ?_⟩
 cases k with
 | true=> rw [if_pos rfl] at h1⊢;exact ⟨μ1,ρ,mh1,R,R1,E.mono RR P1,h1,F.at P1⟩
 | false=> rw [if_neg Bool.false_ne_true] at h1⊢;exact ⟨μ1,ρ,mh1,R,R1,E.mono RR P1,h1,F.at P1⟩
end
abbrev WA := gV -> MH -> (List D -> MH -> Prop) -> Prop
def FinA (K:aGp) (μ:List Addr) (H:Hp) (R:List D->MH->Prop) (Q:List V->Hp->Prop):Prop:=
 ∀ds mh',R ds mh' ->∀μ' vs H',aU μ H μ' H' ->Rep K μ' mh' H' ->IsL K μ' H' ds vs->Q vs H'
def ZV (K:aGp) (w:WA):TA:=λσ H Q=> ∃μ ρ mh R,Rep K μ mh H/\dA K μ H ρ σ/\w ρ mh R/\FinA K μ H R Q
def LA (X:Cx) (es:List Expr) (w:WA):Prop:=PA X es (ZV X.K w)
theorem PA.imp {X:Cx} {e:List Expr} {t t' :TA} (h:PA X e t) (i:∀σ H Q,t' σ H Q->t σ H Q):PA X e t' :=λpos pins s σ H Q I q=> h pos pins s σ H Q I (i σ H Q q)
def aI:WA:=λ_ mh Q=> Q [] mh
def aB (w:WE) (wr:WA):WA:=λρ mh Q=> w ρ mh λx mh1=> wr ρ mh1 λxs mh2=> Q (x::xs) mh2
def UN (ds:List D) (mh:MH) (Q:DK):Prop:=ds.length<=sizeLine/\Q (.tup ds) mh
def EU (ds:List D) (mh:MH) (Q:DK):Prop:=ds.length<=sizeLine/\Q (.ref mh.length) (mh++[.lst ds])
section
variable {K:aGp} {μ:List Addr} {mh:MH} {H:Hp} {R:DK} {Q:VK} {ds:List D} {vs:List V}
theorem nC (RR:Rep K μ mh H) (F:Fin K μ H R Q) (l:IsL K μ H ds vs) (h:R (.tup ds) mh):∀p,H p=none->Q (.ref p) (upd H p (.tup vs)):=λp hp=>
 F _ mh h μ _ _ (aU.new RR hp) (RR.new hp) (by unfold Is;exact ⟨p,vs,rfl,.of cE,IsL.mono RR (aU.new RR hp) ds vs l⟩)
theorem hZ (RR:Rep K μ mh H) (F:Fin K μ H R Q) (l:IsL K μ H ds vs) (h:R (.ref mh.length) (mh++[.lst ds])):∀p,H p=none->Q (.ref p) (upd H p (.lst vs)):=λp hp=>
 F _ _ h (μ++[p]) _ _ (aU.LY RR hp) (RR.LY hp l) (by unfold Is;exact ⟨p,by rw [<-RR.len];simp,rfl⟩)
end
def gJ (w:WA):WE:=λρ mh Q=> w ρ mh λds mh1=> UN ds mh1 Q
def nM (w:WA):WE:=λρ mh Q=> w ρ mh λds mh1=> EU ds mh1 Q
section
variable {X:Cx} {e:Expr} {es:List Expr} {w:WE} {wr:WA} {pos:Pos}
theorem aD:LA X [] aI:=PA.imp EN λσ H Q h=> by
 obtain ⟨μ,ρ,mh,R,RR,E,h,F⟩:=h;exact F [] mh h μ [] H aU.refl RR (by unfold IsL;rfl)
theorem QS (ha:LE X e w) (hr:LA X es wr) (hs:starEach (e::es) X.env=(false,eval e X.env)::starEach es X.env:=by rfl):LA X (e::es) (aB w wr):=PA.imp (y9 ha hr hs) λσ H Q h=> by
 obtain ⟨μ,ρ,mh,R,RR,E,h,F⟩:=h;refine ⟨μ,ρ,mh,_,RR,E,h,λdx mh1 h1 μ1 vx H1 P1 R1 I1=> ⟨μ1,ρ,mh1,_,R1,E.mono RR P1,h1,λds mh2 h2 μ2 vs H2 P2 R2 I2=> ?_⟩⟩;exact F _ mh2 h2 μ2 _ H2 (P1.trans P2) R2 (by unfold IsL;exact ⟨vx,vs,rfl,Is.mono R1 P2 dx vx I1,I2⟩)
theorem cO {x1} (h:LA X es wr):LE X (.Tuple es x1 pos) (gJ wr):=PE.imp (T5 h) λσ H Q h=> by
 obtain ⟨μ,ρ,mh,R,RR,E,h,F⟩:=h;refine ⟨μ,ρ,mh,_,RR,E,h,λds mh1 h1 μ1 vs H1 P1 R1 I1=> ⟨by rw [aR I1];exact h1.1,nC R1 (F.at P1) I1 h1.2⟩⟩
theorem fS (h:LA X es wr):LE X (.List es pos) (nM wr):=PE.imp (T8 h) λσ H Q h=> by
 obtain ⟨μ,ρ,mh,R,RR,E,h,F⟩:=h;refine ⟨μ,ρ,mh,_,RR,E,h,λds mh1 h1 μ1 vs H1 P1 R1 I1=> ⟨by rw [aR I1];exact h1.1,hZ R1 (F.at P1) I1 h1.2⟩⟩
abbrev OA := List D -> MH -> DK -> Prop
def fA (K:aGp) (f:OA):List V->Hp->VK->Prop:=λxs H Q=> ∃μ mh ds R,Rep K μ mh H/\IsL K μ H ds xs/\f ds mh R/\Fin K μ H R Q
def aJ (f:OA) (w:WA):WE:=λρ mh Q=> w ρ mh λds mh1=> f ds mh1 Q
theorem call_in {K:aGp} {f:OA} {σ:L2.St} {H:Hp} {Q:VK} (h:tL K (aJ f wr) σ H Q):ZW (fA K f) (ZV K wr) σ H Q:=by
 obtain ⟨μ,ρ,mh,R,RR,E,h,F⟩:=h;exact ⟨μ,ρ,mh,_,RR,E,h,λds mh1 h1 μ1 vs H1 P1 R1 I1=> ⟨μ1,mh1,ds,R,R1,I1,h1,F.at P1⟩⟩
theorem MD {x:Str} {p:Pos} {id:String} {f:OA} (hc:cR X (.builtin id) (fA X.K f)) (hg:Gl X x) (hm:X.mg x=none) (hv:bootBuiltins x=some (.builtin id)) (ha:LA X (e::es) wr) (hn:x≠ "__name__":=by decide) (hdb:(x==("__debug__":Str))=false:=by decide)
  (he:starEach (e::es) X.env=(false,eval e X.env)::starEach es X.env:=by rfl) (hpl:(backTo pos (starEach es X.env)).any (·.1)=false:=by rfl):LE X (.Call (.Name x p) (e::es) [] pos) (aJ f wr):=
 PE.imp (BV hc hg hm hv ha hn hdb he hpl) λ_ _ _ h=> call_in h
theorem IQ {x:Str} {p:Pos} {T:String} {f:OA} (hc:cR X (.type T) (fA X.K f)) (hg:Gl X x) (hm:X.mg x=none) (hv:bootBuiltins x=some (.type T)) (ha:LA X (e::es) wr) (hn:x≠ "__name__":=by decide) (hdb:(x==("__debug__":Str))=false:=by decide)
  (he:starEach (e::es) X.env=(false,eval e X.env)::starEach es X.env:=by rfl) (hpl:(backTo pos (starEach es X.env)).any (·.1)=false:=by rfl):LE X (.Call (.Name x p) (e::es) [] pos) (aJ f wr):=
 PE.imp (xJ hc hg hm hv ha hn hdb he hpl) λ_ _ _ h=> call_in h
def KN (K:aGp) (f:OA):Sp:=λvs H Q _=> fA K f vs H Q
theorem QO {k:Nat} {f:Addr} {fd:FuncData} {ps:List Str} {x:Str} {p:Pos} {s:OA} (F:jL X.prog X.w X.K X.mg X.base DX k f fd ps (KN X.K s)) (hr:gI k X.A) (hg:Gl X x) (hm:X.mg x=some (.ref f)) (hk:PySem.W.keepIn X.K (.ref f)=true) (hb:Binds X.K fd ps [])
  (ha:LA X (e::es) wr) (hdb:(x==("__debug__":Str))=false:=by decide) (he:starEach (e::es) X.env=(false,eval e X.env)::starEach es X.env:=by rfl) (hpl:(backTo pos (starEach es X.env)).any (·.1)=false:=by rfl):
  LE X (.Call (.Name x p) (e::es) [] pos) (aJ s wr):=PE.imp (GL F hr hg hm hk hb .nil RX ha hdb he hpl) λσ H Q h=> by
 obtain ⟨μ,ρ,mh,R,RR,E,h,Fi⟩:=h;refine ⟨μ,ρ,mh,_,RR,E,h,λds mh1 h1 μ1 vs H1 P1 R1 I1=> ?_⟩;show fA X.K s (vs++[]) H1 Q;rw [List.append_nil];exact ⟨μ1,mh1,ds,R,R1,I1,h1,Fi.at P1⟩
end
section
variable {K:aGp} {μ:List Addr} {mh:MH} {H:Hp}
theorem Is.int {i:Int}:Is K μ H (.int i) (.int i):=by unfold Is;rfl
theorem Is.str {i:Str}:Is K μ H (.str i) (.str i):=by unfold Is;rfl
theorem Is.bl {i:Bool}:Is K μ H (.bl i) (.bl i):=by unfold Is;rfl
theorem Is.cN:Is K μ H .cN .cN:=by unfold Is;rfl
theorem bU {i:Int} {v:V} (h:Is K μ H (.int i) v):v= .int i:=by unfold Is at h;exact h
theorem fU {i:Str} {v:V} (h:Is K μ H (.str i) v):v= .str i:=by unfold Is at h;exact h
theorem G4 {i:Bool} {v:V} (h:Is K μ H (.bl i) v):v= .bl i:=by unfold Is at h;exact h
theorem ML {v:V} (h:Is K μ H .cN v):v= .cN:=by unfold Is at h;exact h
theorem fT {ds:List D} {v:V} (h:Is K μ H (.tup ds) v):∃a vs,v= .ref a/\pC K H a vs/\IsL K μ H ds vs:=by unfold Is at h;exact h
theorem qI {ds:List D} {v:V} (h:Is K μ H (.fl ds) v):∃a vs,v= .ref a/\N9 K H a vs/\IsL K μ H ds vs:=by unfold Is at h;exact h
theorem oV {n:Nat} {v:V} (h:Is K μ H (.ref n) v):∃a,μ[n]? =some a/\v= .ref a:=by unfold Is at h;exact h
theorem fC:∀{ds:List D} {vs:List V} {i:Nat} {d:D},IsL K μ H ds vs->ds[i]? =some d->∃v,vs[i]? =some v/\Is K μ H d v
 | [],_,_,_,_,e=> by simp at e
 | x::ds,vs,i,d,h,e=> by
  unfold IsL at h;obtain ⟨v,r,rfl,q,l⟩:=h
  cases i with
  | zero=> simp at e;subst e;exact ⟨v,rfl,q⟩
  | succ i=> obtain ⟨u,h1,h2⟩:=fC (i:=i) l (by simpa using e);exact ⟨u,by simpa using h1,h2⟩
theorem hX:∀{ds es:List D} {vs us:List V},IsL K μ H ds vs->IsL K μ H es us->IsL K μ H (ds++es) (vs++us)
 | [],es,vs,us,h,q=> by unfold IsL at h;subst h;exact q
 | d::ds,es,vs,us,h,q=> by
  unfold IsL at h;obtain ⟨v,r,rfl,i,l⟩:=h;show IsL K μ H (d::(ds++es)) (v::(r++us));unfold IsL;exact ⟨v,_,rfl,i,hX l q⟩
theorem nB {d:D} {v:V} (h:Is K μ H d v):IsL K μ H [d] [v]:=by unfold IsL;exact ⟨v,[],rfl,h,by unfold IsL;rfl⟩
theorem CT:∀(n:Nat) {ds:List D} {vs:List V},IsL K μ H ds vs->IsL K μ H (ds.drop n) (vs.drop n)
 | 0,_,_,h=> by simpa using h
 | n+1,[],vs,h=> by unfold IsL at h;subst h;simp [IsL]
 | n+1,d::ds,vs,h=> by unfold IsL at h;obtain ⟨v,r,rfl,_,l⟩:=h;simpa using CT n l
theorem CQ:∀(n:Nat) {ds:List D} {vs:List V},IsL K μ H ds vs->IsL K μ H (ds.take n) (vs.take n)
 | 0,_,_,h=> by simp [IsL]
 | n+1,[],vs,h=> by unfold IsL at h;subst h;simp [IsL]
 | n+1,d::ds,vs,h=> by
  unfold IsL at h;obtain ⟨v,r,rfl,i,l⟩:=h;simp only [List.take_succ_cons];unfold IsL;exact ⟨v,_,rfl,i,CQ n l⟩
theorem G6:∀(n:Nat) {ds:List D} {vs:List V} {d:D} {v:V},Is K μ H d v->IsL K μ H ds vs->IsL K μ H (ds.set n d) (vs.set n v)
 | n,[],vs,d,v,_,h=> by unfold IsL at h;subst h;simp [IsL]
 | 0,x::ds,vs,d,v,i,h=> by unfold IsL at h;obtain ⟨u,r,rfl,_,l⟩:=h;simp only [List.set_cons_zero];unfold IsL;exact ⟨v,r,rfl,i,l⟩
 | n+1,x::ds,vs,d,v,i,h=> by unfold IsL at h;obtain ⟨u,r,rfl,q,l⟩:=h;simp only [List.set_cons_succ];unfold IsL;exact ⟨u,_,rfl,q,G6 n i l⟩
theorem VF {ds:List D} {vs:List V} {i:Int} {d:D} (l:IsL K μ H ds vs) (e:mV ds i=some d):∃v,mV vs i=some v/\Is K μ H d v:=by
 unfold mV at*;rw [aR l]
 cases q:E6 ds.length i with
 | none=> rw [q] at e;cases e
 | some j=> rw [q] at e;exact fC l e
def bP (mh:MH):D->Option (List D)
 | .tup ds=> some ds
 | .fl ds=> some ds
 | .ref n=> match mh[n]? with | some (.lst ds)=> some ds | _=> none
 | _=> none
theorem uJ {d:D} {v:V} {ds:List D} (R:Rep K μ mh H) (h:Is K μ H d v) (e:bP mh d=some ds):∃a vs,v= .ref a/\(pD K H a vs\/pC K H a vs)/\IsL K μ H ds vs:=by
 cases d with
 | tup es=> obtain ⟨a,vs,rfl,s,l⟩:=fT h;cases e;exact ⟨a,vs,rfl,.inr s,l⟩
 | fl es=> obtain ⟨a,vs,rfl,s,l⟩:=qI h;cases e;exact ⟨a,vs,rfl,.inl s.sq,l⟩
 | ref n=>
  obtain ⟨a,q,rfl⟩:=oV h;simp only [bP] at e
  cases o:mh[n]? with
  | none=> rw [o] at e;cases e
  | some ob=>
   cases ob with
   | lst es=>
    rw [o] at e;cases e;obtain ⟨vs,hv,l⟩:=R.obj n a _ q o;exact ⟨a,vs,rfl,.inl (.of hv),l⟩
   | dic t kvs=> rw [o] at e;cases e
 | _=> cases e
def nO (mh:MH):D->Option (List D)
 | .fl ds=> some ds
 | .ref n=> match mh[n]? with | some (.lst ds)=> some ds | _=> none
 | _=> none
theorem vA {d:D} {v:V} {ds:List D} (R:Rep K μ mh H) (h:Is K μ H d v) (e:nO mh d=some ds):∃a vs,v= .ref a/\pD K H a vs/\IsL K μ H ds vs:=by
 cases d with
 | fl es=> obtain ⟨a,vs,rfl,s,l⟩:=qI h;cases e;exact ⟨a,vs,rfl,s.sq,l⟩
 | ref n=>
  obtain ⟨a,q,rfl⟩:=oV h;simp only [nO] at e
  cases o:mh[n]? with
  | none=> rw [o] at e;cases e
  | some ob=>
   cases ob with
   | lst es=>
    rw [o] at e;cases e;obtain ⟨vs,hv,l⟩:=R.obj n a _ q o;exact ⟨a,vs,rfl,.of hv,l⟩
   | dic t kvs=> rw [o] at e;cases e
 | _=> cases e
theorem iI {n:Nat} {v:V} {ds:List D} (R:Rep K μ mh H) (h:Is K μ H (.ref n) v) (e:mh[n]? =some (.lst ds)):∃a vs,v= .ref a/\μ[n]? =some a/\H a=some (.lst vs)/\IsL K μ H ds vs:=by
 obtain ⟨a,q,rfl⟩:=oV h;obtain ⟨vs,hv,l⟩:=R.obj n a _ q e;exact ⟨a,vs,rfl,q,hv,l⟩
theorem Fin.here {R:DK} {Q:VK} {d:D} {v:V} (F:Fin K μ H R Q) (RR:Rep K μ mh H) (h:R d mh) (i:Is K μ H d v):Q v H:=F d mh h μ v H aU.refl RR i
theorem Fin.put {R:DK} {Q:VK} {d:D} {v:V} {n:Nat} {a:Addr} {ds:List D} {vs:List V} (F:Fin K μ H R Q) (RR:Rep K μ mh H) (hn:μ[n]? =some a) (l:IsL K μ H ds vs) (h:R d (mh.set n (.lst ds))) (i:Is K μ H d v):Q v (upd H a (.lst vs)):=
 F d _ h μ v _ (aU.set RR hn) (RR.set hn l) (Is.mono RR (aU.set RR hn) d v i)
end
def BZ (C:Int->Int->Prop) (g:Int->Int->D):O2:=λx y mh Q=> ∃i j,x= .int i/\y= .int j/\C i j/\Q (g i j) mh
section
variable {X:Cx}
theorem uX {f:Value->Value->Sem Value} {C:Int->Int->Prop} {g:Int->Int->V} {g' :Int->Int->D} (h:jB X f (rI C g)) (hg:∀μ H i j,Is X.K μ H (g' i j) (g i j)):jB X f (d6 X.K (BZ C g')):=by
 intro pins s σ H x y v u Q I rx ry q;obtain ⟨μ,mh,dx,dy,R,RR,ix,iy,⟨i,j,rfl,rfl,c,q⟩,F⟩:=q;cases bU ix;cases bU iy;exact h pins s σ H _ _ v u Q I rx ry ⟨i,j,rfl,rfl,c,F.here RR q (hg _ _ _ _)⟩
theorem X6 {f:Value->Value->Sem Value} {g:Int->Int->V} (h:jB X f (N3 g)):jB X f (rI (λ_ _=> True) g):=λpins s σ H x y v u Q I rx ry ⟨i,j,e1,e2,_,q⟩=> h pins s σ H x y v u Q I rx ry ⟨i,j,e1,e2,q⟩
abbrev IK : O2 := BZ (λ_ _ => True) λi j => .int (i - j)
abbrev uZ : O2 := BZ JY λi j => .int (i * j)
abbrev LM : O2 := BZ ZP λi j => .int (i / j)
abbrev oMod : O2 := BZ (λ_ j => 0 < j) λi j => .int (i % j)
abbrev P8 : O2 := BZ WH λi j => .int (i ^ j.toNat)
theorem uW:jB X (binaryOp .Sub) (d6 X.K IK):=uX (X6 UD) λ_ _ _ _=> .int
theorem jG:jB X (binaryOp .Mult) (d6 X.K uZ):=uX UG λ_ _ _ _=> .int
theorem GP:jB X (binaryOp .FloorDiv) (d6 X.K LM):=uX PZ λ_ _ _ _=> .int
theorem rA:jB X (binaryOp .Mod) (d6 X.K oMod):=uX UH λ_ _ _ _=> .int
theorem ER:jB X (binaryOp .Pow) (d6 X.K P8):=uX UE λ_ _ _ _=> .int
def jH:O1:=λx mh Q=> ∃i,x= .int i/\Q (.int (-i)) mh
theorem dH:ZN X (unaryOp .USub) (L7 X.K jH):=by
 intro pins s σ H x v Q I rx q;obtain ⟨μ,mh,dx,R,RR,ix,⟨i,rfl,q⟩,F⟩:=q;cases bU ix;exact SU pins s σ H _ v Q I rx ⟨i,rfl,F.here RR q .int⟩
def mG:O2:=λx y mh Q=> match x with
 | .int i=> match y with | .int j=> Q (.int (i+j)) mh | _=> False
 | .str i=> match y with | .str j=> i.length+j.length<=sizeLine/\Q (.str (i++j)) mh | _=> False
 | .tup i=> match y with | .tup j=> i.length+j.length<=sizeLine/\Q (.tup (i++j)) mh | _=> False
 | .ref n=> match y with | .ref m=> ∃i j,mh[n]? =some (.lst i)/\mh[m]? =some (.lst j)/\EU (i++j) mh Q | _=> False
 | _=> False
theorem NQ {prog:Program} {w:World} {A:Around} {E:Value->Shared->Prop} {s:Shared} {t b:Addr} {ws:List Value} {Q:Value->Shared->Prop} (ht:IsTup s.heap t ([]:List Value).toArray) (hb:IsTup s.heap b ws.toArray)
  (h:Q (.ref b) s):wpAny (model prog w) A (binaryOp .Add (.ref t) (.ref b)) Q E s:=by
 obtain ⟨⟨cls,dd,data,sl⟩,ho,hc,n,hd⟩:=id ht;obtain ⟨⟨cls2,dd2,data2,sl2⟩,ho2,hc2,n2,hd2⟩:=id hb;simp only at hc hd hc2 hd2;subst hc hd hc2 hd2
 exact concat_meets ⟨_,ho,rfl⟩ ⟨_,ho2,rfl⟩ noFill_tuple_add seq_tuple_add aFs aFn (aFj _ _)
   (tuple_addW0 t b _ ws.toArray n n2 dd dd2 sl sl2 (by simp)) ⟨ho,ho2,h⟩
theorem gO:jB X (binaryOp .Add) (d6 X.K mG):=by
 intro pins s σ H x y v u Q I rx ry q;obtain ⟨μ,mh,dx,dy,R,RR,ix,iy,q,F⟩:=q
 cases dx with
 | int i=> cases dy with
  | int j=> cases bU ix;cases bU iy;exact UJ pins s σ H _ _ v u Q I rx ry ⟨i,j,rfl,rfl,F.here RR q .int⟩
  | _=> exact False.elim q
 | str i=> cases dy with
  | str j=> cases fU ix;cases fU iy;exact EO pins s σ H _ _ v u Q I rx ry ⟨i,j,rfl,rfl,q.1,F.here RR q.2 .str⟩
  | _=> exact False.elim q
 | tup i=> cases dy with
  | tup j=>
   obtain ⟨a,xs,rfl,sa,la⟩:=fT ix;obtain ⟨b,ys,rfl,sb,lb⟩:=fT iy;by_cases hx:xs=[]
   ·subst hx;cases rx;cases ry;obtain ⟨aL,r1,p1,_⟩:=I.tuple sa;obtain ⟨its2,r2,p2,_⟩:=I.tuple sb;cases r1;have hi:i=[]:=by have:=aR la;cases i <;> simp_all
    subst hi;exact NQ p1 p2 ⟨.ref b,H,I,rfl,F.here RR q.2 iy⟩
   ·refine P0 pins s σ H _ _ v u Q I rx ry ⟨a,b,xs,ys,rfl,rfl,sa,sb,hx,by rw [aR la,aR lb];exact q.1,λe=> ?_,λ_=> nC RR F (hX la lb) q.2⟩;subst e;have hj:j=[]:=by have:=aR lb;cases j <;> simp_all
    subst hj;exact F.here RR q.2 (by simpa using ix)
  | _=> exact False.elim q
 | ref n=> cases dy with
  | ref m=>
   obtain ⟨i,j,e1,e2,q⟩:=q;obtain ⟨a,xs,rfl,_,sa,la⟩:=iI RR ix e1;obtain ⟨b,ys,rfl,_,sb,lb⟩:=iI RR iy e2;exact UI pins s σ H _ _ v u Q I rx ry ⟨a,b,xs,ys,rfl,rfl,sa,sb,by rw [aR la,aR lb,<-List.length_append];exact q.1,hZ RR F (hX la lb) q.2⟩
  | _=> exact False.elim q
 | _=> exact False.elim q
def iC:O2:=λx y mh Q=> ∃i,y= .int i/\match x with
 | .str z=> z.length<=sizeLine/\∃c,mV z.cps.toList i=some c/\Q (.str ⟨#[c]⟩) mh
 | _=> ∃ds d,bP mh x=some ds/\mV ds i=some d/\Q d mh
theorem lK:SH X (d6 X.K iC):=by
 intro value slice pins s σ H x y v u Q I rx ry q hs;obtain ⟨μ,mh,dx,dy,R,RR,ix,iy,⟨i,rfl,q⟩,F⟩:=q;cases bU iy
 have go:(∃ds d,bP mh dx=some ds/\mV ds i=some d/\R d mh)->wpAny (model X.prog X.w) X.A (subscriptTail value slice v u) (EP X pins σ Q) X.xe s:=λ⟨ds,d,e1,e2,q⟩=> by
  obtain ⟨a,vs,rfl,sq,l⟩:=uJ RR ix e1;obtain ⟨z,e3,iz⟩:=VF l e2;rcases sq with sq | sq
  ·exact QT value slice pins s σ H _ _ v u Q I rx ry ⟨a,vs,i,z,rfl,rfl,sq,e3,F.here RR q iz⟩ hs
  ·exact U9 value slice pins s σ H _ _ v u Q I rx ry ⟨a,vs,i,z,rfl,rfl,sq,e3,F.here RR q iz⟩ hs
 cases dx with
 | str z=>
  obtain ⟨hz,c,e,q⟩:=q;cases fU ix;exact VA value slice pins s σ H _ _ v u Q I rx ry ⟨z,i,c,rfl,rfl,hz,e,F.here RR q .str⟩ hs
 | _=> exact go q
def YZ:D->Bool | .cN=> true | _=> false
def gG:OA:=λxs mh Q=> ∃x,xs=[x]/\match x with
 | .str z=> z.length<=sizeLine/\Q (.int z.length) mh
 | _=> ∃ds,bP mh x=some ds/\Q (.int ds.length) mh
theorem lH {K:aGp} {μ:List Addr} {H:Hp} {d:D} {vs:List V} (h:IsL K μ H [d] vs):∃v,vs=[v]/\Is K μ H d v:=by
 unfold IsL at h;obtain ⟨v,r,rfl,i,l⟩:=h;unfold IsL at l;subst l;exact ⟨v,rfl,i⟩
theorem G8 {K:aGp} {μ:List Addr} {H:Hp} {d e:D} {vs:List V} (h:IsL K μ H [d,e] vs):∃v u,vs=[v,u]/\Is K μ H d v/\Is K μ H e u:=by
 unfold IsL at h;obtain ⟨v,r,rfl,i,l⟩:=h;obtain ⟨u,rfl,j⟩:=lH l;exact ⟨v,u,rfl,i,j⟩
theorem fF:cR X (.builtin "len") (fA X.K gG):=by
 intro pins s σ H xs us Q I r q;obtain ⟨μ,mh,ds,R,RR,il,⟨x,rfl,q⟩,F⟩:=q;obtain ⟨v,rfl,iv⟩:=lH il
 have go:(∃ds,bP mh x=some ds/\R (.int ds.length) mh)->wpAny (model X.prog X.w) X.A (call (.builtin "len") us) (EP X pins σ Q) X.xe s:=λ⟨es,e,q⟩=> by
  obtain ⟨a,vs,rfl,sq,l⟩:=uJ RR iv e;exact AJ pins s σ H _ us Q I r ⟨a,vs,rfl,sq,F.here RR q (by rw [aR l];exact .int)⟩
 cases x with
 | str z=> cases fU iv;exact AI pins s σ H _ us Q I r ⟨z,rfl,q.1,F.here RR q.2 .int⟩
 | _=> exact go q
def RC:OA:=λxs mh Q=> ∃i,xs=[.int i]/\Q (.int (if i < 0 then -i else i)) mh
theorem V1:cR X (.builtin "abs") (fA X.K RC):=by
 intro pins s σ H xs us Q I r q;obtain ⟨μ,mh,ds,R,RR,il,⟨i,rfl,q⟩,F⟩:=q;obtain ⟨v,rfl,iv⟩:=lH il;cases bU iv;exact NR pins s σ H _ us Q I r ⟨i,rfl,F.here RR q .int⟩
def DU:OA:=λxs mh Q=> ∃i j,xs=[.int i,.int j]/\Q (.int (if j > i then j else i)) mh
def yL:OA:=λxs mh Q=> ∃i j,xs=[.int i,.int j]/\Q (.int (if j < i then j else i)) mh
theorem HG (hc:X.calm=true):cR X (.builtin "max") (fA X.K DU):=by
 intro pins s σ H xs us Q I r q;obtain ⟨μ,mh,ds,R,RR,il,⟨i,j,rfl,q⟩,F⟩:=q;obtain ⟨v,u,rfl,iv,iu⟩:=G8 il;cases bU iv;cases bU iu;exact JM hc pins s σ H _ us Q I r ⟨i,j,rfl,F.here RR q .int⟩
theorem AG (hc:X.calm=true):cR X (.builtin "min") (fA X.K yL):=by
 intro pins s σ H xs us Q I r q;obtain ⟨μ,mh,ds,R,RR,il,⟨i,j,rfl,q⟩,F⟩:=q;obtain ⟨v,u,rfl,iv,iu⟩:=G8 il;cases bU iv;cases bU iu;exact JL hc pins s σ H _ us Q I r ⟨i,j,rfl,F.here RR q .int⟩
def ZL:OA:=λxs mh Q=> (∃i,xs=[.int i]/\Q (.int i) mh)\/∃k,xs=[.bl k]/\Q (.int (if k then 1 else 0)) mh
theorem V0:cR X (.type "int") (fA X.K ZL):=by
 intro pins s σ H xs us Q I r q;obtain ⟨μ,mh,ds,R,RR,il,q,F⟩:=q
 rcases q with ⟨i,rfl,q⟩ | ⟨k,rfl,q⟩
 ·obtain ⟨v,rfl,iv⟩:=lH il;cases bU iv;exact yF pins s σ H _ us Q I r (.inl ⟨i,rfl,F.here RR q .int⟩)
 ·obtain ⟨v,rfl,iv⟩:=lH il;cases G4 iv;exact yF pins s σ H _ us Q I r (.inr ⟨k,rfl,F.here RR q .int⟩)
theorem S8 {pins:List (Addr×Obj)} {σ:L2.St} {H:Hp} {s:Shared} {a:Addr} {vs:List V} (I:Inv X pins σ H s) (h:pD X.K H a vs\/pC X.K H a vs):vs.length<=sizeLine:=by
 rcases h with h | h
 ·obtain ⟨_,_,_,z⟩:=I.list h;exact z
 ·obtain ⟨_,_,_,z⟩:=I.tuple h;exact z
def HK:OA:=λxs mh Q=> ∃x ds,xs=[x]/\bP mh x=some ds/\Q (.ref mh.length) (mh++[.lst ds])
def rN:OA:=λxs mh Q=> ∃x ds,xs=[x]/\bP mh x=some ds/\Q (.tup ds) mh
theorem Q5:cR X (.type "list") (fA X.K HK):=by
 intro pins s σ H xs us Q I r q;obtain ⟨μ,mh,ds,R,RR,il,⟨x,es,rfl,e,q⟩,F⟩:=q;obtain ⟨v,rfl,iv⟩:=lH il;obtain ⟨a,vs,rfl,sq,l⟩:=uJ RR iv e;exact AH pins s σ H _ us Q I r ⟨a,vs,rfl,sq,hZ RR F l q⟩
theorem vT:cR X (.type "tuple") (fA X.K rN):=by
 intro pins s σ H xs us Q I r q;obtain ⟨μ,mh,ds,R,RR,il,⟨x,es,rfl,e,q⟩,F⟩:=q;obtain ⟨v,rfl,iv⟩:=lH il
 cases x with
 | tup ts=>
  cases e;obtain ⟨a,vs,rfl,sq,l⟩:=fT iv;exact jK pins s σ H _ us Q I r ⟨a,vs,rfl,.inr ⟨sq,F.here RR q iv⟩⟩
 | fl ts=>
  cases e;obtain ⟨a,vs,rfl,sq,l⟩:=qI iv;exact jK pins s σ H _ us Q I r ⟨a,vs,rfl,.inl ⟨sq.sq,nC RR F l q⟩⟩
 | ref n=>
  obtain ⟨a,vs,rfl,sq,l⟩:=vA RR iv (show nO mh (.ref n)=some es from e);exact jK pins s σ H _ us Q I r ⟨a,vs,rfl,.inl ⟨sq,nC RR F l q⟩⟩
 | _=> cases e
end
def OO (mh:MH):D->Option String
 | .cN=> some "NoneType"
 | .bl _=> some "bool"
 | .int _=> some "int"
 | .str _=> some "str"
 | .tup _=> some "tuple"
 | .fl _=> some "list"
 | .ref n=> match mh[n]? with | some (.lst _)=> some "list" | _=> none
 | .ty _=> none
def sO (t c:String):Bool:=t==c || (t== "bool" && c== "int")
def bW:List String:=["int","bool","str","tuple","list"]
theorem R6 {K:aGp}:∀t∈ "NoneType"::bW,∀c∈bW,PySem.W.kitOne K (.type t) (.type c)=some (sO t c):=by
 intro t ht c hc;simp only [bW,List.mem_cons,List.not_mem_nil,or_false] at ht hc;rcases ht with rfl | rfl | rfl | rfl | rfl | rfl <;> rcases hc with rfl | rfl | rfl | rfl | rfl <;> kernel_rfl
theorem G2 {K:aGp} {t:String} (ht:t∈ "NoneType"::bW):∀cs:List String,(∀c∈cs,c∈bW)->PySem.W.kitAny K (.type t) (cs.map Value.type)=some (cs.any (sO t))
 | [],_=> rfl
 | c::cs,h=> by
  have e:=R6 (K:=K) t ht c (h c aCq);have ih:=G2 (K:=K) ht cs λx hx=> h x (aCr _ hx);simp only [List.map_cons,PySem.W.kitAny,e,List.any_cons]
  cases sO t c with
  | true=> rfl
  | false=> simpa using ih
def qS:OA:=λxs mh Q=> ∃x c t,xs=[x,c]/\OO mh x=some t/\
 ((∃T,c= .ty T/\T∈bW/\Q (.bl (sO t T)) mh)\/∃Ts:List String,c= .tup (Ts.map .ty)/\(∀T∈Ts,T∈bW)/\Q (.bl (Ts.any (sO t))) mh)
section
variable {X:Cx}
theorem U3 {pins:List (Addr×Obj)} {σ:L2.St} {H:Hp} {s:Shared} {μ:List Addr} {mh:MH} {d:D} {v:V} {u:Value} {t:String} (I:Inv X pins σ H s) (R:Rep X.K μ mh H) (h:Is X.K μ H d v) (r:RelV v u) (e:OO mh d=some t):
  t∈ "NoneType"::bW/\u≠ .builtin "__main__.__loader__#opaque"/\∃P,PySem.W.KitX X.K u (.type t) P/\P s.heap:=by
 have hl:∀{a:Addr} {vs:List V},pD X.K H a vs->∃P,PySem.W.KitX X.K (.ref a) (.type "list") P/\P s.heap:=λ{a vs} sq=> by
  obtain ⟨aL,_,⟨o,n,e1,e2,_⟩,_⟩:=I.list sq;exact ⟨_,PySem.W.kitx_list,⟨o,e1,e2⟩⟩
 cases d with
 | cN=> cases ML h;cases r;cases e;exact ⟨by simp [bW],nofun,_,PySem.W.kitx_none,trivial⟩
 | bl b=> cases G4 h;cases r;cases e;exact ⟨by simp [bW],nofun,_,PySem.W.kitx_bool,trivial⟩
 | int b=> cases bU h;obtain ⟨tk,rfl⟩:=r;cases e;exact ⟨by simp [bW],nofun,_,PySem.W.kitx_int,trivial⟩
 | str b=> cases fU h;obtain ⟨tk,rfl⟩:=r;cases e;exact ⟨by simp [bW],nofun,_,PySem.W.kitx_str,trivial⟩
 | ty b=> cases e
 | tup ds=>
  obtain ⟨a,vs,rfl,sq,_⟩:=fT h;cases r;cases e;obtain ⟨aL,_,⟨o,e1,e2,_⟩,_⟩:=I.tuple sq;exact ⟨by simp [bW],nofun,_,PySem.W.kitx_tuple,⟨o,e1,e2⟩⟩
 | fl ds=>
  obtain ⟨a,vs,rfl,sq,_⟩:=qI h;cases r;cases e;exact ⟨by simp [bW],nofun,hl sq.sq⟩
 | ref n=>
  obtain ⟨a,q,rfl⟩:=oV h;cases r;simp only [OO] at e
  cases o:mh[n]? with
  | none=> rw [o] at e;cases e
  | some ob=>
   cases ob with
   | lst es=>
    rw [o] at e;cases e;obtain ⟨vs,hv,l⟩:=R.obj n a _ q o;exact ⟨by simp [bW],nofun,hl (.of hv)⟩
   | dic t kvs=> rw [o] at e;cases e
theorem G5 {K:aGp} {μ:List Addr} {H:Hp}:∀{Ts:List String} {vs:List V} {us:List Value},IsL K μ H (Ts.map .ty) vs->Vals vs us->us=Ts.map Value.type
 | [],vs,us,h,r=> by simp only [List.map_nil] at h;unfold IsL at h;subst h;cases r;rfl
 | T::Ts,vs,us,h,r=> by
  simp only [List.map_cons] at h;unfold IsL at h;obtain ⟨v,rr,rfl,i,l⟩:=h
  cases r with
  | cons r1 r2=>
   unfold Is at i;subst i;have r1' :_=Value.type T:=r1;subst r1';rw [G5 l r2];rfl
theorem kQ:cR X (.builtin "isinstance") (fA X.K qS):=by
 intro pins s σ H xs us Q I r q;obtain ⟨μ,mh,ds,R,RR,il,⟨x,c,t,rfl,et,q⟩,F⟩:=q;obtain ⟨v,w,rfl,iv,iw⟩:=G8 il
 cases r with
 | cons r1 r2=>
  cases r2 with
  | cons r2 r3=>
   cases r3;obtain ⟨hm,hx,P,kx,hp⟩:=U3 I RR iv r1 et
   rcases q with ⟨T,rfl,hT,q⟩ | ⟨Ts,rfl,hT,q⟩
   ·unfold Is at iw;subst iw;have r2' :_=Value.type T:=r2;subst r2'
    exact PySem.W.kia_one kx I.U8 hp (R6 t hm T hT) hx λtk=> ⟨.bl _,H,I.tok tk,rfl,F.here RR q .bl⟩
   ·obtain ⟨a,vs,rfl,sq,l⟩:=fT iw;have r2' :_=Value.ref a:=r2;subst r2';obtain ⟨aL,rv,⟨o,e1,e2,n,e3⟩,_⟩:=I.tuple sq;have ei:=G5 l rv;obtain ⟨oc,od,odt,osl⟩:=o;simp only at e2 e3;subst e2 e3
    exact PySem.W.kia_tup kx I.U8 hp e1 (by rw [ei];exact G2 hm Ts hT) hx λtk=> ⟨.bl _,H,I.tok tk,rfl,F.here RR q .bl⟩
end
mutual
def Vl (h:Heap):D->Value->Prop
 | .cN,u=> u= .none
 | .bl b,u=> u= .bool b
 | .int i,u=> ∃t,u= .int i t
 | .str x,u=> ∃t,u= .str x t
 | .ty _,_=> False
 | .tup ds,u=> ∃a us,u= .ref a/\IsTup h a us.toArray/\fM h ds us
 | .fl ds,u=> ∃a us,u= .ref a/\h.IsList a us.toArray/\fM h ds us
 | .ref _,_=> False
def fM (h:Heap):List D->List Value->Prop
 | [],us=> us=[]
 | d::ds,us=> ∃u r,us=u::r/\Vl h d u/\fM h ds r
end
mutual
def bare:D->Bool
 | .ty _=> false
 | .ref _=> false
 | .tup ds=> eU ds
 | .fl ds=> eU ds
 | _=> true
def eU:List D->Bool
 | []=> true
 | d::ds=> bare d && eU ds
end
mutual
def deep:D->Nat
 | .tup ds=> cW ds+1
 | .fl ds=> cW ds+1
 | _=> 0
def cW:List D->Nat
 | []=> 0
 | d::ds=> max (deep d) (cW ds)
end
mutual
def oY:D->D->Bool
 | .cN,y=> YZ y
 | .bl a,y=> match y with | .bl b=> a==b | .int j=> (if a then 1 else 0)==j | _=> false
 | .int i,y=> match y with | .int j=> i==j | .bl b=> i==(if b then 1 else 0) | _=> false
 | .str a,y=> match y with | .str b=> a==b | _=> false
 | .tup as,y=> match y with | .tup bs=> fI as bs | _=> false
 | .fl as,y=> match y with | .fl bs=> fI as bs | _=> false
 | .ref _,_=> false
 | .ty _,_=> false
def fI:List D->List D->Bool
 | [],y=> y.isEmpty
 | a::as,y=> match y with | b::bs=> oY a b && fI as bs | []=> false
end
theorem cQ:∀(as bs:List D),fI as bs=((List.range (min as.length bs.length)).all (λj=> oY (as.getD j .cN) (bs.getD j .cN)) && as.length==bs.length)
 | [],[]=> by simp [fI]
 | [],b::bs=> by simp [fI]
 | a::as,[]=> by simp [fI]
 | a::as,b::bs=> by
  have ih:=cQ as bs;simp only [fI,List.length_cons,Nat.succ_min_succ,List.range_succ_eq_map,List.all_cons,List.all_map,Function.comp_def,List.getD_cons_zero,List.getD_cons_succ,ih];cases oY a b <;> simp
theorem bN {h:Heap}:∀{ds:List D} {us:List Value},fM h ds us->us.length=ds.length
 | [],us,q=> by unfold fM at q;subst q;rfl
 | d::ds,us,q=> by unfold fM at q;obtain ⟨u,r,rfl,_,l⟩:=q;simp [bN l]
theorem dU {h:Heap}:∀{ds:List D} {us:List Value} {j:Nat} {u:Value},fM h ds us->us[j]? =some u->Vl h (ds.getD j .cN) u
 | [],us,j,u,q,e=> by unfold fM at q;subst q;simp at e
 | d::ds,us,j,u,q,e=> by
  unfold fM at q;obtain ⟨w,r,rfl,i,l⟩:=q
  cases j with
  | zero=> simp at e;subst e;exact i
  | succ j=> exact dU (j:=j) l (by simpa using e)
theorem fW:∀(ds:List D) (j:Nat),deep (ds.getD j .cN)<=cW ds
 | [],j=> by simp [deep]
 | d::ds,0=> by simp [cW];omega
 | d::ds,j+1=> by have:=fW ds j;simp [cW] at*;omega
theorem tB {h:Heap} {a:Addr} {x y:Array Value} (hl:h.IsList a x) (hb:IsTup h a y):False:=by
 obtain ⟨o,ho,hc,_⟩:=hl;obtain ⟨o2,ho2,hc2,_⟩:=hb;rw [ho] at ho2;cases ho2;rw [hc] at hc2;exact absurd hc2 (by simp)
mutual
theorem yQ {h:Heap}:∀{d e:D} {u:Value},Vl h d u->Vl h e u->oY d e=true
 | .cN,e,u,p,q=> by
  unfold Vl at p;subst p
  cases e <;> unfold Vl at q <;> first | rfl | (cases q;done) | (obtain ⟨_,q⟩:=q;cases q;done) | (obtain ⟨_,_,q,_⟩:=q;cases q;done)
 | .bl a,e,u,p,q=> by
  unfold Vl at p;subst p
  cases e <;> unfold Vl at q <;> first | (subst q;simp [oY];done) | (cases q;simp [oY];done) | (cases q;done) | (obtain ⟨_,q⟩:=q;cases q;done) | (obtain ⟨_,_,q,_⟩:=q;cases q;done)
 | .int a,e,u,p,q=> by
  unfold Vl at p;obtain ⟨t,rfl⟩:=p
  cases e <;> unfold Vl at q <;> first | (cases q;done) | (obtain ⟨_,q⟩:=q;cases q;simp [oY];done) | (obtain ⟨_,q⟩:=q;cases q;done) | (obtain ⟨_,_,q,_⟩:=q;cases q;done)
 | .str a,e,u,p,q=> by
  unfold Vl at p;obtain ⟨t,rfl⟩:=p
  cases e <;> unfold Vl at q <;> first | (cases q;done) | (obtain ⟨_,q⟩:=q;cases q;simp [oY];done) | (obtain ⟨_,q⟩:=q;cases q;done) | (obtain ⟨_,_,q,_⟩:=q;cases q;done)
 | .ty _,e,u,p,q=> by unfold Vl at p;exact p.elim
 | .ref _,e,u,p,q=> by unfold Vl at p;exact p.elim
 | .tup as,e,u,p,q=> by
  unfold Vl at p;obtain ⟨a,us,rfl,ht,l⟩:=p
  cases e with
  | tup bs=>
   unfold Vl at q;obtain ⟨b,ws,e,ht2,l2⟩:=q;cases e;obtain ⟨o,h1,_,n,h2⟩:=ht;obtain ⟨o2,h3,_,n2,h4⟩:=ht2;rw [h1] at h3;cases h3;rw [h2] at h4;injection h4 with h5;have h6:us=ws:=by simpa using aE0 Array.toList h5
   subst h6;show fI as bs=true;exact tW l l2
  | fl bs=>
   unfold Vl at q;obtain ⟨b,ws,e,ht2,l2⟩:=q;cases e;exact (tB ht2 ht).elim
  | _=> unfold Vl at q;first | (cases q;done) | (obtain ⟨_,q⟩:=q;cases q;done)
 | .fl as,e,u,p,q=> by
  unfold Vl at p;obtain ⟨a,us,rfl,ht,l⟩:=p
  cases e with
  | fl bs=>
   unfold Vl at q;obtain ⟨b,ws,e,ht2,l2⟩:=q;cases e;obtain ⟨o,h1,_,n,h2⟩:=ht;obtain ⟨o2,h3,_,n2,h4⟩:=ht2;rw [h1] at h3;cases h3;rw [h2] at h4;injection h4 with h5;have h6:us=ws:=by simpa using aE0 Array.toList h5
   subst h6;show fI as bs=true;exact tW l l2
  | tup bs=>
   unfold Vl at q;obtain ⟨b,ws,e,ht2,l2⟩:=q;cases e;exact (tB ht ht2).elim
  | _=> unfold Vl at q;first | (cases q;done) | (obtain ⟨_,q⟩:=q;cases q;done)
theorem tW {h:Heap}:∀{ds es:List D} {us:List Value},fM h ds us->fM h es us->fI ds es=true
 | [],es,us,p,q=> by unfold fM at p;subst p;cases es with | nil=> rfl | cons=> unfold fM at q;obtain ⟨_,_,e,_⟩:=q;cases e
 | d::ds,es,us,p,q=> by
  unfold fM at p;obtain ⟨u,r,rfl,i,l⟩:=p
  cases es with
  | nil=> unfold fM at q;cases q
  | cons e es=>
   unfold fM at q;obtain ⟨u2,r2,e2,i2,l2⟩:=q;cases e2;simp only [fI,yQ i i2,tW l l2,Bool.and_self]
end
open SeqAt in
theorem oZ {s:Shared}:∀(k:Nat) {A:Around} {d e:D} {u v:Value},deep d<=k->A.units+k+1 < cLine->Vl s.heap d u->Vl s.heap e v->EqAt A s u v (oY d e)
 | k,A,.cN,e,u,v,hk,hu,p,q=> by
  unfold Vl at p;subst p;cases e <;> unfold Vl at q
  ·subst q;exact EqAt.same _
  ·subst q;exact EqAt.none_bool _
  ·obtain ⟨t,rfl⟩:=q;exact EqAt.none_int _ t
  ·obtain ⟨t,rfl⟩:=q;exact EqAt.none_str _ t
  ·exact q.elim
  ·obtain ⟨a,us,rfl,ht,_⟩:=q;exact EqAt.none_tuple ht (by omega)
  ·obtain ⟨a,us,rfl,ht,_⟩:=q;exact EqAt.none_list ht (by omega)
  ·exact q.elim
 | k,A,.bl x,e,u,v,hk,hu,p,q=> by
  unfold Vl at p;subst p;cases e <;> unfold Vl at q
  ·subst q;exact EqAt.bool_none _
  ·subst q;exact EqAt.bool_bool _ _
  ·obtain ⟨t,rfl⟩:=q;exact EqAt.bool_int _ _ t
  ·obtain ⟨t,rfl⟩:=q;exact EqAt.bool_str _ _ t
  ·exact q.elim
  ·obtain ⟨a,us,rfl,ht,_⟩:=q;exact EqAt.bool_tuple _ ht (by omega)
  ·obtain ⟨a,us,rfl,ht,_⟩:=q;exact EqAt.bool_list _ ht (by omega)
  ·exact q.elim
 | k,A,.int x,e,u,v,hk,hu,p,q=> by
  unfold Vl at p;obtain ⟨tx,rfl⟩:=p;cases e <;> unfold Vl at q
  ·subst q;exact EqAt.int_none _ _
  ·subst q;exact EqAt.int_bool _ _ _
  ·obtain ⟨t,rfl⟩:=q;exact EqAt.int_int _ _ _ t
  ·obtain ⟨t,rfl⟩:=q;exact EqAt.int_str _ _ _ t
  ·exact q.elim
  ·obtain ⟨a,us,rfl,ht,_⟩:=q;exact EqAt.int_tuple _ _ ht (by omega)
  ·obtain ⟨a,us,rfl,ht,_⟩:=q;exact EqAt.int_list _ _ ht (by omega)
  ·exact q.elim
 | k,A,.str x,e,u,v,hk,hu,p,q=> by
  unfold Vl at p;obtain ⟨tx,rfl⟩:=p;cases e <;> unfold Vl at q
  ·subst q;exact EqAt.str_none _ _
  ·subst q;exact EqAt.str_bool _ _ _
  ·obtain ⟨t,rfl⟩:=q;exact EqAt.str_int _ _ _ t
  ·obtain ⟨t,rfl⟩:=q;exact EqAt.str_str _ _ _ t
  ·exact q.elim
  ·obtain ⟨a,us,rfl,ht,_⟩:=q;exact EqAt.str_tuple _ _ ht (by omega)
  ·obtain ⟨a,us,rfl,ht,_⟩:=q;exact EqAt.str_list _ _ ht (by omega)
  ·exact q.elim
 | k,A,.ty x,e,u,v,hk,hu,p,q=> by unfold Vl at p;exact p.elim
 | k,A,.ref x,e,u,v,hk,hu,p,q=> by unfold Vl at p;exact p.elim
 | k,A,.tup as,e,u,v,hk,hu,p,q=> by
  have p0:=p;unfold Vl at p;obtain ⟨a,us,rfl,ht,l⟩:=p
  cases e with
  | tup bs=>
   by_cases hab:Value.ref a=v
   ·subst hab;rw [yQ p0 q];exact EqAt.same _
   unfold Vl at q;obtain ⟨b,ws,rfl,ht2,l2⟩:=q;have hne:a≠b:=λz=> hab (by rw [z])
   cases k with
   | zero=> simp [deep] at hk
   | succ k=>
    refine EqAt.of_refs hne ?_;have r:=RcAt.tuples (e:=λj=> oY (as.getD j .cN) (bs.getD j .cN)) ht ht2 (by omega) (λj h1 h2=> oZ k (A:=A.in1) (aDf (fW as j) (by simp [deep] at hk;exact hk)) (by show A.units+1+k+1 < _;omega) (dU l (by simp at h1;simp [h1])) (dU l2 (by simp at h2;simp [h2])));show RcAt A s _ _ (fI as bs);rw [cQ,<-bN l,<-bN l2];simpa using r
  | cN=> unfold Vl at q;subst q;exact EqAt.tuple_none ht (by omega)
  | bl x=> unfold Vl at q;subst q;exact EqAt.tuple_bool _ ht (by omega)
  | int x=> unfold Vl at q;obtain ⟨t,rfl⟩:=q;exact EqAt.tuple_int _ _ ht (by omega)
  | str x=> unfold Vl at q;obtain ⟨t,rfl⟩:=q;exact EqAt.tuple_str _ _ ht (by omega)
  | fl bs=> unfold Vl at q;obtain ⟨b,ws,rfl,ht2,l2⟩:=q;exact EqAt.tuple_list ht ht2 (by omega)
  | ty x=> unfold Vl at q;exact q.elim
  | ref x=> unfold Vl at q;exact q.elim
 | k,A,.fl as,e,u,v,hk,hu,p,q=> by
  have p0:=p;unfold Vl at p;obtain ⟨a,us,rfl,ht,l⟩:=p
  cases e with
  | fl bs=>
   by_cases hab:Value.ref a=v
   ·subst hab;rw [yQ p0 q];exact EqAt.same _
   unfold Vl at q;obtain ⟨b,ws,rfl,ht2,l2⟩:=q;have hne:a≠b:=λz=> hab (by rw [z])
   cases k with
   | zero=> simp [deep] at hk
   | succ k=>
    refine EqAt.of_refs hne ?_;show RcAt A s _ _ (fI as bs);by_cases hsz:us.length=ws.length
    ·have r:=RcAt.lists (e:=λj=> oY (as.getD j .cN) (bs.getD j .cN)) ht ht2 (by simpa using hsz) (by omega) (λj h1 h2=> oZ k (A:=A.in1) (aDf (fW as j) (by simp [deep] at hk;exact hk)) (by show A.units+1+k+1 < _;omega) (dU l (by simp at h1;simp [h1])) (dU l2 (by simp at h2;simp [h2])));rw [cQ,<-bN l,<-bN l2,<-hsz,Nat.min_self,beq_self_eq_true,Bool.and_true];simpa using r
    ·have r:=RcAt.lists_lengths (A:=A) ht ht2 (by simpa using hsz) (by omega);rw [cQ,<-bN l,<-bN l2,beq_eq_false_iff_ne.mpr hsz,Bool.and_false];exact r
  | cN=> unfold Vl at q;subst q;exact EqAt.list_none ht (by omega)
  | bl x=> unfold Vl at q;subst q;exact EqAt.list_bool _ ht (by omega)
  | int x=> unfold Vl at q;obtain ⟨t,rfl⟩:=q;exact EqAt.list_int _ _ ht (by omega)
  | str x=> unfold Vl at q;obtain ⟨t,rfl⟩:=q;exact EqAt.list_str _ _ ht (by omega)
  | tup bs=> unfold Vl at q;obtain ⟨b,ws,rfl,ht2,l2⟩:=q;exact EqAt.list_tuple ht ht2 (by omega)
  | ty x=> unfold Vl at q;exact q.elim
  | ref x=> unfold Vl at q;exact q.elim
open SeqAt in
theorem TM {s:Shared} {A:Around} {d e:D} {u v:Value} (hk:deep d<=40) (hu:A.units+64 < cLine) (p:Vl s.heap d u) (q:Vl s.heap e v):RcAt A s u v (oY d e):=by
 cases d with
 | cN=>
  unfold Vl at p;subst p;cases e <;> unfold Vl at q
  ·subst q;exact RcAt.none_none
  ·subst q;exact RcAt.none_bool _
  ·obtain ⟨t,rfl⟩:=q;exact RcAt.none_int _ _
  ·obtain ⟨t,rfl⟩:=q;exact RcAt.none_str _ _
  ·exact q.elim
  ·obtain ⟨a,us,rfl,ht,_⟩:=q;exact RcAt.none_tuple ht (by omega)
  ·obtain ⟨a,us,rfl,ht,_⟩:=q;exact RcAt.none_list ht (by omega)
  ·exact q.elim
 | bl x=>
  unfold Vl at p;subst p;cases e <;> unfold Vl at q
  ·subst q;exact RcAt.bool_none _
  ·subst q;exact RcAt.bool_bool _ _
  ·obtain ⟨t,rfl⟩:=q;exact RcAt.bool_int _ _ _
  ·obtain ⟨t,rfl⟩:=q;exact RcAt.bool_str _ _ _
  ·exact q.elim
  ·obtain ⟨a,us,rfl,ht,_⟩:=q;exact RcAt.bool_tuple _ ht (by omega)
  ·obtain ⟨a,us,rfl,ht,_⟩:=q;exact RcAt.bool_list _ ht (by omega)
  ·exact q.elim
 | int x=>
  unfold Vl at p;obtain ⟨tx,rfl⟩:=p;cases e <;> unfold Vl at q
  ·subst q;exact RcAt.int_none _ _
  ·subst q;exact RcAt.int_bool _ _ _
  ·obtain ⟨t,rfl⟩:=q;exact RcAt.int_int _ _ _ _
  ·obtain ⟨t,rfl⟩:=q;exact RcAt.int_str _ _ _ _
  ·exact q.elim
  ·obtain ⟨a,us,rfl,ht,_⟩:=q;exact RcAt.int_tuple _ _ ht (by omega)
  ·obtain ⟨a,us,rfl,ht,_⟩:=q;exact RcAt.int_list _ _ ht (by omega)
  ·exact q.elim
 | str x=>
  unfold Vl at p;obtain ⟨tx,rfl⟩:=p;cases e <;> unfold Vl at q
  ·subst q;exact RcAt.str_none _ _
  ·subst q;exact RcAt.str_bool _ _ _
  ·obtain ⟨t,rfl⟩:=q;exact RcAt.str_int _ _ _ _
  ·obtain ⟨t,rfl⟩:=q;exact RcAt.str_str _ _ _ _
  ·exact q.elim
  ·obtain ⟨a,us,rfl,ht,_⟩:=q;exact RcAt.str_tuple _ _ ht (by omega)
  ·obtain ⟨a,us,rfl,ht,_⟩:=q;exact RcAt.str_list _ _ ht (by omega)
  ·exact q.elim
 | ty x=> unfold Vl at p;exact p.elim
 | ref x=> unfold Vl at p;exact p.elim
 | tup as=>
  unfold Vl at p;obtain ⟨a,us,rfl,ht,l⟩:=p
  cases e with
  | tup bs=>
   unfold Vl at q;obtain ⟨b,ws,rfl,ht2,l2⟩:=q;have r:=RcAt.tuples (e:=λj=> oY (as.getD j .cN) (bs.getD j .cN)) ht ht2 (by omega) (λj h1 h2=> oZ 40 (A:=A.in1) (aDf (fW as j) (by simp [deep] at hk;omega)) (by show A.units+1+40+1 < _;omega) (dU l (by simp at h1;simp [h1])) (dU l2 (by simp at h2;simp [h2])));show RcAt A s _ _ (fI as bs);rw [cQ,<-bN l,<-bN l2];simpa using r
  | fl bs=> unfold Vl at q;obtain ⟨b,ws,rfl,ht2,l2⟩:=q;exact RcAt.tuple_list ht ht2 (by omega)
  | cN=> unfold Vl at q;subst q;exact RcAt.tuple_none ht (by omega)
  | bl x=> unfold Vl at q;subst q;exact RcAt.tuple_bool _ ht (by omega)
  | int x=> unfold Vl at q;obtain ⟨t,rfl⟩:=q;exact RcAt.tuple_int _ _ ht (by omega)
  | str x=> unfold Vl at q;obtain ⟨t,rfl⟩:=q;exact RcAt.tuple_str _ _ ht (by omega)
  | ty x=> unfold Vl at q;exact q.elim
  | ref x=> unfold Vl at q;exact q.elim
 | fl as=>
  unfold Vl at p;obtain ⟨a,us,rfl,ht,l⟩:=p
  cases e with
  | fl bs=>
   unfold Vl at q;obtain ⟨b,ws,rfl,ht2,l2⟩:=q;show RcAt A s _ _ (fI as bs);by_cases hsz:us.length=ws.length
   ·have r:=RcAt.lists (e:=λj=> oY (as.getD j .cN) (bs.getD j .cN)) ht ht2 (by simpa using hsz) (by omega) (λj h1 h2=> oZ 40 (A:=A.in1) (aDf (fW as j) (by simp [deep] at hk;omega)) (by show A.units+1+40+1 < _;omega) (dU l (by simp at h1;simp [h1])) (dU l2 (by simp at h2;simp [h2])));rw [cQ,<-bN l,<-bN l2,<-hsz,Nat.min_self,beq_self_eq_true,Bool.and_true];simpa using r
   ·have r:=RcAt.lists_lengths (A:=A) ht ht2 (by simpa using hsz) (by omega);rw [cQ,<-bN l,<-bN l2,beq_eq_false_iff_ne.mpr hsz,Bool.and_false];exact r
  | tup bs=> unfold Vl at q;obtain ⟨b,ws,rfl,ht2,l2⟩:=q;exact RcAt.list_tuple ht ht2 (by omega)
  | cN=> unfold Vl at q;subst q;exact RcAt.list_none ht (by omega)
  | bl x=> unfold Vl at q;subst q;exact RcAt.list_bool _ ht (by omega)
  | int x=> unfold Vl at q;obtain ⟨t,rfl⟩:=q;exact RcAt.list_int _ _ ht (by omega)
  | str x=> unfold Vl at q;obtain ⟨t,rfl⟩:=q;exact RcAt.list_str _ _ ht (by omega)
  | ty x=> unfold Vl at q;exact q.elim
  | ref x=> unfold Vl at q;exact q.elim
open SeqAt in
theorem K3 {s:Shared} {A:Around} {d e:D} {u v:Value} (hk:deep d<=40) (hu:A.units+64 < cLine) (p:Vl s.heap d u) (q:Vl s.heap e v):RcNeAt A s u v (!oY d e):=by
 cases d with
 | cN=>
  unfold Vl at p;subst p;cases e <;> unfold Vl at q
  ·subst q;exact RcNeAt.none_none
  ·subst q;exact RcNeAt.none_bool _
  ·obtain ⟨t,rfl⟩:=q;exact RcNeAt.none_int _ _
  ·obtain ⟨t,rfl⟩:=q;exact RcNeAt.none_str _ _
  ·exact q.elim
  ·obtain ⟨a,us,rfl,ht,_⟩:=q;exact RcNeAt.none_tuple ht (by omega)
  ·obtain ⟨a,us,rfl,ht,_⟩:=q;exact RcNeAt.none_list ht (by omega)
  ·exact q.elim
 | bl x=>
  unfold Vl at p;subst p;cases e <;> unfold Vl at q
  ·subst q;exact RcNeAt.bool_none _
  ·subst q;exact RcNeAt.bool_bool _ _
  ·obtain ⟨t,rfl⟩:=q;exact RcNeAt.bool_int _ _ _
  ·obtain ⟨t,rfl⟩:=q;exact RcNeAt.bool_str _ _ _
  ·exact q.elim
  ·obtain ⟨a,us,rfl,ht,_⟩:=q;exact RcNeAt.bool_tuple _ ht (by omega)
  ·obtain ⟨a,us,rfl,ht,_⟩:=q;exact RcNeAt.bool_list _ ht (by omega)
  ·exact q.elim
 | int x=>
  unfold Vl at p;obtain ⟨tx,rfl⟩:=p;cases e <;> unfold Vl at q
  ·subst q;exact RcNeAt.int_none _ _
  ·subst q;exact RcNeAt.int_bool _ _ _
  ·obtain ⟨t,rfl⟩:=q;exact RcNeAt.int_int _ _ _ _
  ·obtain ⟨t,rfl⟩:=q;exact RcNeAt.int_str _ _ _ _
  ·exact q.elim
  ·obtain ⟨a,us,rfl,ht,_⟩:=q;exact RcNeAt.int_tuple _ _ ht (by omega)
  ·obtain ⟨a,us,rfl,ht,_⟩:=q;exact RcNeAt.int_list _ _ ht (by omega)
  ·exact q.elim
 | str x=>
  unfold Vl at p;obtain ⟨tx,rfl⟩:=p;cases e <;> unfold Vl at q
  ·subst q;exact RcNeAt.str_none _ _
  ·subst q;exact RcNeAt.str_bool _ _ _
  ·obtain ⟨t,rfl⟩:=q;exact RcNeAt.str_int _ _ _ _
  ·obtain ⟨t,rfl⟩:=q;exact RcNeAt.str_str _ _ _ _
  ·exact q.elim
  ·obtain ⟨a,us,rfl,ht,_⟩:=q;exact RcNeAt.str_tuple _ _ ht (by omega)
  ·obtain ⟨a,us,rfl,ht,_⟩:=q;exact RcNeAt.str_list _ _ ht (by omega)
  ·exact q.elim
 | ty x=> unfold Vl at p;exact p.elim
 | ref x=> unfold Vl at p;exact p.elim
 | tup as=>
  unfold Vl at p;obtain ⟨a,us,rfl,ht,l⟩:=p
  cases e with
  | tup bs=>
   unfold Vl at q;obtain ⟨b,ws,rfl,ht2,l2⟩:=q;have r:=RcNeAt.tuples (e:=λj=> oY (as.getD j .cN) (bs.getD j .cN)) ht ht2 (by omega) (λj h1 h2=> oZ 40 (A:=A.in1) (aDf (fW as j) (by simp [deep] at hk;omega)) (by show A.units+1+40+1 < _;omega) (dU l (by simp at h1;simp [h1])) (dU l2 (by simp at h2;simp [h2])));show RcNeAt A s _ _ (!fI as bs);rw [cQ,<-bN l,<-bN l2];simpa using r
  | fl bs=> unfold Vl at q;obtain ⟨b,ws,rfl,ht2,l2⟩:=q;exact RcNeAt.tuple_list ht ht2 (by omega)
  | cN=> unfold Vl at q;subst q;exact RcNeAt.tuple_none ht (by omega)
  | bl x=> unfold Vl at q;subst q;exact RcNeAt.tuple_bool _ ht (by omega)
  | int x=> unfold Vl at q;obtain ⟨t,rfl⟩:=q;exact RcNeAt.tuple_int _ _ ht (by omega)
  | str x=> unfold Vl at q;obtain ⟨t,rfl⟩:=q;exact RcNeAt.tuple_str _ _ ht (by omega)
  | ty x=> unfold Vl at q;exact q.elim
  | ref x=> unfold Vl at q;exact q.elim
 | fl as=>
  unfold Vl at p;obtain ⟨a,us,rfl,ht,l⟩:=p
  cases e with
  | fl bs=>
   unfold Vl at q;obtain ⟨b,ws,rfl,ht2,l2⟩:=q;show RcNeAt A s _ _ (!fI as bs);by_cases hsz:us.length=ws.length
   ·have r:=RcNeAt.lists (e:=λj=> oY (as.getD j .cN) (bs.getD j .cN)) ht ht2 (by simpa using hsz) (by omega) (λj h1 h2=> oZ 40 (A:=A.in1) (aDf (fW as j) (by simp [deep] at hk;omega)) (by show A.units+1+40+1 < _;omega) (dU l (by simp at h1;simp [h1])) (dU l2 (by simp at h2;simp [h2])));rw [cQ,<-bN l,<-bN l2,<-hsz,Nat.min_self,beq_self_eq_true,Bool.and_true];simpa using r
   ·have r:=RcNeAt.lists_lengths (A:=A) ht ht2 (by simpa using hsz) (by omega);rw [cQ,<-bN l,<-bN l2,beq_eq_false_iff_ne.mpr hsz,Bool.and_false];exact r
  | tup bs=> unfold Vl at q;obtain ⟨b,ws,rfl,ht2,l2⟩:=q;exact RcNeAt.list_tuple ht ht2 (by omega)
  | cN=> unfold Vl at q;subst q;exact RcNeAt.list_none ht (by omega)
  | bl x=> unfold Vl at q;subst q;exact RcNeAt.list_bool _ ht (by omega)
  | int x=> unfold Vl at q;obtain ⟨t,rfl⟩:=q;exact RcNeAt.list_int _ _ ht (by omega)
  | str x=> unfold Vl at q;obtain ⟨t,rfl⟩:=q;exact RcNeAt.list_str _ _ ht (by omega)
  | ty x=> unfold Vl at q;exact q.elim
  | ref x=> unfold Vl at q;exact q.elim
def iO (mh:MH):D->D
 | .ref n=> match mh[n]? with | some (.lst ds)=> .fl ds | _=> .ref n
 | d=> d
section
variable {X:Cx} {pins:List (Addr×Obj)} {σ:L2.St} {H:Hp} {s:Shared} {μ:List Addr} {mh:MH}
mutual
theorem RN (I:Inv X pins σ H s):∀(d:D) {v:V} {u:Value},bare d=true->Is X.K μ H d v->RelV v u->Vl s.heap d u
 | .cN,v,u,_,i,r=> by cases ML i;unfold Vl;exact r
 | .bl _,v,u,_,i,r=> by cases G4 i;unfold Vl;exact r
 | .int _,v,u,_,i,r=> by cases bU i;unfold Vl;exact r
 | .str _,v,u,_,i,r=> by cases fU i;unfold Vl;exact r
 | .ty _,v,u,b,i,r=> by simp [bare] at b
 | .ref _,v,u,b,i,r=> by simp [bare] at b
 | .tup ds,v,u,b,i,r=> by
  obtain ⟨a,vs,rfl,sq,l⟩:=fT i;have r' :u=Value.ref a:=r;subst r';obtain ⟨aL,rv,p,_⟩:=I.tuple sq;unfold Vl;exact ⟨a,aL,rfl,p,qY I ds (by simpa [bare] using b) l rv⟩
 | .fl ds,v,u,b,i,r=> by
  obtain ⟨a,vs,rfl,sq,l⟩:=qI i;have r' :u=Value.ref a:=r;subst r';obtain ⟨aL,rv,p,_⟩:=I.list sq.sq;unfold Vl;exact ⟨a,aL,rfl,p.isList,qY I ds (by simpa [bare] using b) l rv⟩
theorem qY (I:Inv X pins σ H s):∀(ds:List D) {vs:List V} {us:List Value},eU ds=true->IsL X.K μ H ds vs->Vals vs us->fM s.heap ds us
 | [],vs,us,_,l,r=> by unfold IsL at l;subst l;cases r;unfold fM;rfl
 | d::ds,vs,us,b,l,r=> by
  unfold IsL at l;obtain ⟨v,rr,rfl,i,l⟩:=l
  cases r with
  | cons r1 r2=>
   simp only [eU,Bool.and_eq_true] at b;unfold fM;exact ⟨_,_,rfl,RN I d b.1 i r1,qY I ds b.2 l r2⟩
end
theorem yR (I:Inv X pins σ H s) (R:Rep X.K μ mh H) {d:D} {v:V} {u:Value} (b:bare (iO mh d)=true) (i:Is X.K μ H d v) (r:RelV v u):Vl s.heap (iO mh d) u:=by
 cases d with
 | ref n=>
  simp only [iO] at b⊢
  cases o:mh[n]? with
  | none=> rw [o] at b;simp [bare] at b
  | some ob=>
   cases ob with
   | lst ds=>
    rw [o] at b;simp only;obtain ⟨a,vs,rfl,_,hv,l⟩:=iI R i o;have r' :u=Value.ref a:=r;subst r';obtain ⟨aL,rv,p,_⟩:=I.list (.of hv);unfold Vl;exact ⟨a,aL,rfl,p.isList,qY I ds (by simpa [bare] using b) l rv⟩
   | dic t kvs=> rw [o] at b;simp [bare] at b
 | _=> exact RN I _ b i r
end
def oEq:O2:=λx y mh Q=> bare (iO mh x)=true/\bare (iO mh y)=true/\deep (iO mh x)<=40/\Q (.bl (oY (iO mh x) (iO mh y))) mh
def N4:O2:=λx y mh Q=> bare (iO mh x)=true/\bare (iO mh y)=true/\deep (iO mh x)<=40/\Q (.bl !oY (iO mh x) (iO mh y)) mh
section
variable {X:Cx}
theorem i6 (hu:X.A.units+64 < cLine):jB X (compareOp .Eq) (d6 X.K oEq):=by
 intro pins s σ H x y v u Q I rx ry q;obtain ⟨μ,mh,dx,dy,R,RR,ix,iy,⟨b1,b2,hd,q⟩,F⟩:=q;exact TM hd hu (yR I RR b1 ix rx) (yR I RR b2 iy ry) X.prog X.w X.xe _ ⟨.bl _,H,I,rfl,F.here RR q .bl⟩
theorem BX (hu:X.A.units+64 < cLine):jB X (compareOp .NotEq) (d6 X.K N4):=by
 intro pins s σ H x y v u Q I rx ry q;obtain ⟨μ,mh,dx,dy,R,RR,ix,iy,⟨b1,b2,hd,q⟩,F⟩:=q;exact K3 hd hu (yR I RR b1 ix rx) (yR I RR b2 iy ry) X.prog X.w X.xe _ ⟨.bl _,H,I,rfl,F.here RR q .bl⟩
end
section
variable {prog:Program} {w:World} {A:Around} {E:Value->Shared->Prop} {s:Shared}
open HT in
theorem nP {t sl:Addr} {items:Array Value} {vl vu:Value} {lo hi:Option Int} {Q:Value->Shared->Prop} (ht:IsTup s.heap t items) (hs:s.heap.IsSliceOf sl vl vu .none) (pl:IsPart vl lo) (pu:IsPart vu hi)
  (hw:dN items.size 0 lo=0/\dN items.size items.size hi=items.size)
  (h:Q (.ref t) s):wpAny (model prog w) A (getItem (.ref t) (.ref sl)) Q E s:=by
 obtain ⟨os,hos,hcs,hds⟩:=id hs
 have hTs:s.TypeIs (.ref sl) "slice":=⟨os,hos,hcs⟩
 unfold getItem
 try with_reducible refine aDm ?_
 first | refine aCm (aCo ?_) | skip
 refine aCm (wpAny_sequenceKey ht.typeIs (by decide) ?_)
 refine aCm (aDa (name:=Str.ofString "__getitem__") ht.typeIs aDt
  (aD5 aDt ht.typeIs entry_tuple_getitem ?_ (args_tuple_getitem _ _)))
 show wpAny _ _ (Builtin.Tuple.tupleItemsOf (.ref t) >>=_) _ _ s;refine aCm (tupleItemsOf_ ht ?_);refine aCm (aEk hTs ?_);rw [if_pos (by decide)];refine aCm (jS hs pl pu ?_)
 have hyes:((((dN items.size 0 lo:Nat):Int)==0 && (1:Int)==1 && (dN items.size items.size hi - dN items.size 0 lo)==items.size)=true):=by
  rw [hw.1,hw.2];simp
 show wpAny _ _ (if (((dN items.size 0 lo:Nat):Int)==0 && (1:Int)==1 && (dN items.size items.size hi - dN items.size 0 lo)==items.size)=true then _ else _) _ _ s;rw [if_pos hyes];have hT:=ht.typeIs;refine aCm ?_
 first
  | (refine aCm (aEk hT (aCo ?_));simp only [beq_self_eq_true,if_true];refine aCm (aE2 ?_);first | exact aCo (aCo ⟨_,rfl,aCo h⟩) | exact aCm (aCo (aCo ⟨_,rfl,aCo h⟩)) | exact aCm (aCo (aCo (aCo ⟨_,rfl,aCo h⟩))))
  | trace_state
end
section
variable {X:Cx}
theorem OU:WU X (λx lo hi H Q=> ∃a xs,x= .ref a/\pC X.K H a xs/\
  ((HT.dN xs.length 0 lo=0/\HT.dN xs.length xs.length hi=xs.length)->Q (.ref a) H)/\(¬(HT.dN xs.length 0 lo=0/\HT.dN xs.length xs.length hi=xs.length)->∀p,H p=none->Q (.ref p) (upd H p (.tup (AD xs lo hi))))):=by
 intro pins s σ H x v vl vu lo hi sl Q I rx hs pl pu h;obtain ⟨a,xs,rfl,hx,q1,q2⟩:=h;by_cases hw:HT.dN xs.length 0 lo=0/\HT.dN xs.length xs.length hi=xs.length
 ·cases rx;obtain ⟨aL,r,ht,hz⟩:=I.tuple hx;have hlen:aL.toArray.size=xs.length:=by rw [List.size_toArray];exact r.length.symm
  exact ⟨"tuple",_,aDt.lookup,ht.typeIs,nP ht hs pl pu (by rw [hlen];exact hw) ⟨.ref a,H,I,rfl,q1 hw⟩⟩
 ·exact TC pins s σ H _ v vl vu lo hi sl Q I rx hs pl pu ⟨a,xs,rfl,hx,hw,q2 hw⟩
def cutD (xs:List D) (lo hi:Option Int):List D:=(xs.drop (HT.dN xs.length 0 lo)).take (HT.dN xs.length xs.length hi - HT.dN xs.length 0 lo)
abbrev OS := D -> Option Int -> Option Int -> MH -> DK -> Prop
def R0 (K:aGp) (f:OS):V->Option Int->Option Int->Hp->VK->Prop:=λx lo hi H Q=> ∃μ mh dx R,Rep K μ mh H/\Is K μ H dx x/\f dx lo hi mh R/\Fin K μ H R Q
def YN:OS:=λx lo hi mh Q=> match x with
 | .tup ds=> Q (.tup (cutD ds lo hi)) mh
 | _=> ∃ds,nO mh x=some ds/\Q (.ref mh.length) (mh++[.lst (cutD ds lo hi)])
theorem G7 {K:aGp} {μ:List Addr} {H:Hp} {ds:List D} {vs:List V} (l:IsL K μ H ds vs) (lo hi:Option Int):IsL K μ H (cutD ds lo hi) (AD vs lo hi):=by
 unfold cutD AD;rw [aR l];exact CQ _ (CT _ l)
theorem sll:WU X (R0 X.K YN):=by
 intro pins s σ H x v vl vu lo hi sl Q I rx hs pl pu q;obtain ⟨μ,mh,dx,R,RR,ix,q,F⟩:=q
 have go:(∃ds,nO mh dx=some ds/\R (.ref mh.length) (mh++[.lst (cutD ds lo hi)]))->∃T id,typeLookup (.type T) "__getitem__"=pure (some (.builtin id))/\s.TypeIs v T/\wpAny (model X.prog X.w) X.A (getItem v (.ref sl)) (EP X pins σ Q) X.xe s:=λ⟨ds,e,q⟩=> by
  obtain ⟨a,vs,rfl,sq,l⟩:=vA RR ix e;exact OV pins s σ H _ v vl vu lo hi sl Q I rx hs pl pu ⟨a,vs,rfl,sq,hZ RR F (G7 l lo hi) q⟩
 cases dx with
 | tup ds=>
  obtain ⟨a,vs,rfl,sq,l⟩:=fT ix;refine OU pins s σ H _ v vl vu lo hi sl Q I rx hs pl pu ⟨a,vs,rfl,sq,λhw=> ?_,λ_=> nC RR F (G7 l lo hi) q⟩
  have e:cutD ds lo hi=ds:=by
   unfold cutD;rw [<-aR l,hw.1,hw.2,aR l];simp
  have q' :R (.tup (cutD ds lo hi)) mh:=q;rw [e] at q';exact F.here RR q' ix
 | _=> exact go q
abbrev WO := gV -> MH -> (Option Int -> MH -> Prop) -> Prop
def tLO (K:aGp) (w:WO):TO:=λσ H Q=> ∃μ ρ mh R,Rep K μ mh H/\dA K μ H ρ σ/\w ρ mh R/\∀o mh',R o mh' ->∀μ' H',aU μ H μ' H' ->Rep K μ' mh' H' ->Q o H'
def LO (X:Cx) (e:Option Expr) (w:WO):Prop:=PO X e (tLO X.K w)
def OL:WO:=λ_ mh Q=> Q none mh
def pO (w:WE):WO:=λρ mh Q=> w ρ mh λx mh1=> ∃i,x= .int i/\Q (some i) mh1
variable {e:Expr} {w:WE} {lo hi:Option Expr} {wl wh:WO} {pos p2:Pos}
theorem kK:LO X none OL:=λpins s σ H Q I q=> PM pins s σ H Q I (by
 obtain ⟨μ,ρ,mh,R,RR,E,h,F⟩:=q
 exact F none mh h μ H aU.refl RR)
theorem m9 (h:LE X e w):LO X (some e) (pO w):=λpins s σ H Q I q=> PL h pins s σ H Q I (by
 obtain ⟨μ,ρ,mh,R,RR,E,h,F⟩:=q;refine ⟨μ,ρ,mh,_,RR,E,h,λdx mh1 h1 μ1 vx H1 P1 R1 I1=> ?_⟩;obtain ⟨i,rfl,h1⟩:=h1
 exact ⟨i,bU I1,F (some i) mh1 h1 μ1 H1 P1 R1⟩)
def ZS (f:OS) (w:WE) (wl wh:WO):WE:=λρ mh Q=> w ρ mh λx mh1=> wl ρ mh1 λl mh2=> wh ρ mh2 λu mh3=> f x l u mh3 Q
theorem CH {f:OS} (hr:WU X (R0 X.K f)) (he:LE X e w) (hl:LO X lo wl) (hh:LO X hi wh):LE X (.Subscript e (.Slice lo hi none p2) pos) (ZS f w wl wh):=PE.imp (LG hr he hl hh) λσ H Q q=> by
 obtain ⟨μ,ρ,mh,R,RR,E,h,F⟩:=q;refine ⟨μ,ρ,mh,_,RR,E,h,λdx mh1 h1 μ1 vx H1 P1 R1 I1=> ⟨μ1,ρ,mh1,_,R1,E.mono RR P1,h1,λl mh2 h2 μ2 H2 P2 R2=> ⟨μ2,ρ,mh2,_,R2,E.mono RR (P1.trans P2),h2,λu mh3 h3 μ3 H3 P3 R3=> ?_⟩⟩⟩;exact ⟨μ3,mh3,dx,R,R3,Is.mono R1 (P2.trans P3) dx vx I1,h3,F.at ((P1.trans P2).trans P3)⟩
abbrev OM := D -> List D -> MH -> DK -> Prop
def liftM (K:aGp) (f:OM):V->List V->Hp->VK->Prop:=λx xs H Q=> ∃μ mh dx ds R,Rep K μ mh H/\Is K μ H dx x/\IsL K μ H ds xs/\f dx ds mh R/\Fin K μ H R Q
def wH (mh:MH) (T:String):D->Prop
 | .str _=> T= "str"
 | .int _=> T= "int"
 | .ref n=> T= "list"/\∃ds,mh[n]? =some (.lst ds)
 | .fl _=> T= "list"
 | .tup _=> T= "tuple"
 | _=> False
theorem U1 {μ:List Addr} {mh:MH} {H:Hp} {T:String} {d:D} {v:V} {K:aGp} (RR:Rep K μ mh H) (i:Is K μ H d v) (k:wH mh T d):tyV K T v H:=by
 cases d with
 | str z=> cases fU i;exact k
 | int z=> cases bU i;exact k
 | ref n=> obtain ⟨e,ds,o⟩:=k;obtain ⟨a,vs,rfl,_,hv,_⟩:=iI RR i o;exact .inl ⟨e,vs,.of hv⟩
 | fl ds=> obtain ⟨a,vs,rfl,sq,_⟩:=qI i;exact .inl ⟨k,vs,sq.sq⟩
 | tup ds=> obtain ⟨a,vs,rfl,sq,_⟩:=fT i;exact .inr (.inl ⟨k,vs,sq⟩)
 | _=> exact False.elim k
variable {o:Expr} {es:List Expr} {wo:WE} {wa:WA} {name:Str} {apos d4:Pos} {T id:String}
def F9 (T:String) (f:OM) (wo:WE) (wa:WA):WE:=λρ mh Q=> wo ρ mh λx mh1=> wH mh1 T x/\wa ρ mh1 λds mh2=> f x ds mh2 Q
theorem mJ {f:OM} (pa:PlainAttrs T) (slot:Slot T name id) (hty:typeOf (.builtin id)=pure (.type "method_descriptor")) (hm:MtR X id (liftM X.K f)) (ho:LE X o wo) (ha:LA X (e::es) wa)
  (hbase:attributeBase o name X.env (eval o X.env)=eval o X.env:=by rfl)
  (hfew:((backTo d4 (starEach (e::es) X.env)).all (λx=> !x.1) && (backToKw d4 (keywordEach [] X.env)).all (λx=> x.1.isSome)
   && decide ((e::es).length+([]:List Keyword).length+(if ([]:List Keyword).isEmpty then 0 else 1) < 30))=true:=by rfl)
  (hline:(apos.endLine==d4.line)=true:=by rfl) (hs:starEach (e::es) X.env=(false,eval e X.env)::starEach es X.env:=by rfl) (hplain:(backTo d4 (starEach es X.env)).any (·.1)=false:=by rfl):
  LE X (.Call (.Attribute o name apos) (e::es) [] d4) (F9 T f wo wa):=PE.imp (YF pa slot hty hm ho ha hbase hfew hline hs hplain) λσ H Q q=> by
 obtain ⟨μ,ρ,mh,R,RR,E,h,F⟩:=q;refine ⟨μ,ρ,mh,_,RR,E,h,λdx mh1 h1 μ1 vx H1 P1 R1 I1=> ⟨U1 R1 I1 h1.1,μ1,ρ,mh1,_,R1,E.mono RR P1,h1.2,λds mh2 h2 μ2 vs H2 P2 R2 I2=> ?_⟩⟩;exact ⟨μ2,mh2,dx,ds,R,R2,Is.mono R1 P2 dx vx I1,I2,h2,F.at (P1.trans P2)⟩
def dJ:OM:=λx ds mh Q=> ∃n es d,x= .ref n/\ds=[d]/\mh[n]? =some (.lst es)/\es.length < sizeLine/\Q .cN (mh.set n (.lst (es++[d])))
theorem dF:MtR X "list.append" (liftM X.K dJ):=by
 intro pins s σ H x xs v us Q I rx rs q;obtain ⟨μ,mh,dx,ds,R,RR,ix,il,⟨n,es,d,rfl,rfl,e,hz,q⟩,F⟩:=q;obtain ⟨a,vs,rfl,hn,hv,l⟩:=iI RR ix e;obtain ⟨z,rfl,iz⟩:=lH il;exact xM pins s σ H _ _ v us Q I rx rs ⟨a,vs,z,rfl,rfl,hv,by rw [aR l];exact hz,F.put RR hn (hX l (nB iz)) q .cN⟩
end
structure fN where
 nx:gV->MH->Prop
 rt:DK
 bk:gV->MH->Prop:=λ_ _=> False
 ct:gV->MH->Prop:=λ_ _=> False
abbrev WS := fN -> gV -> MH -> Prop
def FX (K:aGp) (μ:List Addr) (H:Hp) (R:gV->MH->Prop) (Q:L2.St->Hp->Prop):Prop:=
 ∀ρ' mh',R ρ' mh' ->∀μ' σ' H',aU μ H μ' H' ->Rep K μ' mh' H' ->dA K μ' H' ρ' σ' ->Q σ' H'
structure AV (K:aGp) (μ:List Addr) (H:Hp) (E:fN) (D:Ends):Prop where
 nx:FX K μ H E.nx D.nx
 rt:Fin K μ H E.rt D.rt
 bk:FX K μ H E.bk D.bk
 ct:FX K μ H E.ct D.ct
def tLS (K:aGp) (w:WS):TS:=λD σ H=> ∃μ ρ mh E,Rep K μ mh H/\dA K μ H ρ σ/\w E ρ mh/\AV K μ H E D
def LS (X:Cx) (st:Stmt) (w:WS):Prop:=PS X st (tLS X.K w)
def JZ (X:Cx) (st:List Stmt) (w:WS):Prop:=AU X st (tLS X.K w)
theorem PS.imp {X:Cx} {e:Stmt} {t t' :TS} (h:PS X e t) (i:∀D σ H,t' D σ H->t D σ H):PS X e t' :=λpins s σ H D I q=> h pins s σ H D I (i D σ H q)
theorem AU.imp {X:Cx} {e:List Stmt} {t t' :TS} (h:AU X e t) (i:∀D σ H,t' D σ H->t D σ H):AU X e t' :=λpins s σ H D I q=> h pins s σ H D I (i D σ H q)
section
variable {K:aGp} {μ μ1:List Addr} {H H1:Hp}
theorem FX.at {R:gV->MH->Prop} {Q:L2.St->Hp->Prop} (F:FX K μ H R Q) (P:aU μ H μ1 H1):FX K μ1 H1 R Q:=λρ' mh' r μ' σ' H' P' R' I=> F ρ' mh' r μ' σ' H' (P.trans P') R' I
theorem AV.at {E:fN} {D:Ends} (F:AV K μ H E D) (P:aU μ H μ1 H1):AV K μ1 H1 E D:=⟨F.nx.at P,F.rt.at P,F.bk.at P,F.ct.at P⟩
theorem dA.set {ρ:gV} {σ:L2.St} {d:D} {v:V} (E:dA K μ H ρ σ) (i:Nat) (h:Is K μ H d v):dA K μ H (ρ.set i (some d)) (σ.set i (some v)):=by
 refine ⟨by simp [E.1],λj e hj=> ?_⟩;by_cases hji:j=i
 ·subst hji
  have hl:j < ρ.length:=by
   have:=(aCn.mp hj).1;simpa using this
  rw [List.getElem?_set_self hl] at hj;cases hj;exact ⟨v,by rw [List.getElem?_set_self (by rw [<-E.1];exact hl)],h⟩
 ·rw [List.getElem?_set_ne (Ne.symm hji)] at hj;obtain ⟨u,h1,h2⟩:=E.2 j e hj;exact ⟨u,by rw [List.getElem?_set_ne (Ne.symm hji)];exact h1,h2⟩
end
def d5:WS:=λE ρ mh=> E.nx ρ mh
def bG (t u:WS):WS:=λE ρ mh=> t {E with nx:=u E} ρ mh
def SQ:WS:=λE ρ mh=> E.ct ρ mh
def gR (w:WE):WS:=λE ρ mh=> w ρ mh λ_ mh1=> E.nx ρ mh1
def eW (w:WE):WS:=λE ρ mh=> w ρ mh E.rt
def gK (t:WT) (a b:WS):WS:=λE ρ mh=> t ρ mh λc mh1=> if c=true then a E ρ mh1 else b E ρ mh1
section
variable {X:Cx} {st:Stmt} {rest a b:List Stmt} {t u:WS} {e:Expr} {w:WE} {wt:WT} {pos:Pos}
theorem cU:JZ X [] d5:=AU.imp PD λD σ H ⟨μ,ρ,mh,E,R,En,h,F⟩=> F.nx ρ mh h μ σ H aU.refl R En
theorem aF (h1:LS X st t) (h2:JZ X rest u):JZ X (st::rest) (bG t u):=AU.imp (K8 h1 h2) λD σ H ⟨μ,ρ,mh,E,R,En,h,F⟩=> by
 exact ⟨μ,ρ,mh,_,R,En,h,⟨λρ' mh' q μ' σ' H' P' R' En' => ⟨μ',ρ',mh',E,R',En',q,F.at P'⟩,F.rt,F.bk,F.ct⟩⟩
theorem aK (h1:LS X st t):JZ X [st] t:=PC h1
theorem CC:LS X (.Continue pos) SQ:=PS.imp BP λD σ H ⟨μ,ρ,mh,E,R,En,h,F⟩=> F.ct ρ mh h μ σ H aU.refl R En
theorem QI (he:LE X e w) (hs:swapsWith e none pos.line X.env=pure false:=by rfl):LS X (.Expr e pos) (gR w):=PS.imp (PF he hs) λD σ H ⟨μ,ρ,mh,E,R,En,h,F⟩=>
 ⟨μ,ρ,mh,_,R,En,h,λd mh1 q μ1 v H1 P1 R1 I1=> F.nx ρ mh1 q μ1 σ H1 P1 R1 (En.mono R P1)⟩
theorem bZ (he:LE X e w):LS X (.Return (some e) pos) (eW w):=PS.imp (TV he) λD σ H ⟨μ,ρ,mh,E,R,En,h,F⟩=> ⟨μ,ρ,mh,_,R,En,h,F.rt⟩
theorem dR {c:Expr} (hc:LT X c wt) (ha:JZ X a t) (hb:JZ X b u):LS X (.If c a b pos) (gK wt t u):=PS.imp (X9 hc ha hb) λD σ H ⟨μ,ρ,mh,E,R,En,h,F⟩=> by
 refine ⟨μ,ρ,mh,_,R,En,h,λk mh1 q μ1 H1 P1 R1=> ?_⟩
 cases k with
 | true=> rw [if_pos rfl] at q⊢;exact ⟨μ1,ρ,mh1,E,R1,En.mono R P1,q,F.at P1⟩
 | false=> rw [if_neg Bool.false_ne_true] at q⊢;exact ⟨μ1,ρ,mh1,E,R1,En.mono R P1,q,F.at P1⟩
abbrev WG := D -> gV -> (gV -> Prop) -> Prop
abbrev RD := List D -> gV -> (gV -> Prop) -> Prop
def DW (K:aGp) (g:TG) (gd:WG):Prop:=∀v σ H Q μ ρ mh d R,Rep K μ mh H->dA K μ H ρ σ->Is K μ H d v->gd d ρ R->(∀ρ',R ρ' ->∀σ',dA K μ H ρ' σ' ->Q σ' H)->g v σ H Q
def HN (K:aGp) (g:FV) (gd:RD):Prop:=∀vs σ H Q μ ρ mh ds R,Rep K μ mh H->dA K μ H ρ σ->IsL K μ H ds vs->gd ds ρ R->(∀ρ',R ρ' ->∀σ',dA K μ H ρ' σ' ->Q σ' H)->g vs σ H Q
def gN (i:Nat):WG:=λd ρ Q=> Q (ρ.set i (some d))
def iK:RD:=λds ρ Q=> ds=[]/\Q ρ
def bJ (t:WG) (u:RD):RD:=λds ρ Q=> ∃d r,ds=d::r/\t d ρ λρ' => u r ρ' Q
def gT (n:Nat) (u:RD):WG:=λd ρ Q=> ∃ds,d= .tup ds/\ds.length=n/\u ds ρ Q
theorem aM {K:aGp} (i:Nat):DW K (vK i) (gN i):=λv σ H Q μ ρ mh d R RR En I h F=> F _ h _ (En.set i I)
theorem eL {K:aGp}:HN K M7 iK:=λvs σ H Q μ ρ mh ds R RR En I h F=> by
 obtain ⟨rfl,h⟩:=h;unfold IsL at I;exact ⟨I,F ρ h σ En⟩
theorem aT {K:aGp} {g:TG} {gs:FV} {gd:WG} {gds:RD} (h1:DW K g gd) (h2:HN K gs gds):HN K (C0 g gs) (bJ gd gds):=λvs σ H Q μ ρ mh ds R RR En I h F=> by
 obtain ⟨d,r,rfl,h⟩:=h;unfold IsL at I;obtain ⟨v,vr,rfl,I1,I2⟩:=I;exact ⟨v,vr,rfl,h1 v σ H _ μ ρ mh d _ RR En I1 h λρ' q σ' En' => h2 vr σ' H Q μ ρ' mh r R RR En' I2 q F⟩
theorem gQ {K:aGp} {n:Nat} {gs:FV} {gds:RD} (h:HN K gs gds):DW K (M6 K n gs) (gT n gds):=λv σ H Q μ ρ mh d R RR En I q F=> by
 obtain ⟨ds,rfl,hl,q⟩:=q;obtain ⟨a,vs,rfl,sq,l⟩:=fT I;exact ⟨a,vs,rfl,sq,by rw [aR l];exact hl,h vs σ H Q μ ρ mh ds R RR En l q F⟩
def cS (w:WE) (g:WG):WS:=λE ρ mh=> w ρ mh λd mh1=> g d ρ λρ' => E.nx ρ' mh1
theorem NV {K:aGp} {g:TG} {gd:WG} {D:Ends} {σ:L2.St} {H:Hp} (hr:DW K g gd) (h:tLS K (cS w gd) D σ H):S6 (tL K w) g D σ H:=by
 obtain ⟨μ,ρ,mh,E,R,En,h,F⟩:=h;refine ⟨μ,ρ,mh,_,R,En,h,λd mh1 q μ1 v H1 P1 R1 I1=> ?_⟩;exact hr v σ H1 _ μ1 ρ mh1 d _ R1 (En.mono R P1) I1 q λρ' q' σ' En' => F.nx ρ' mh1 q' μ1 σ' H1 P1 R1 En'
theorem UT (i:Nat) {x:Str} {pos' :Pos} (hN:X.N.Nodup) (he:LE X e w) (hi:X.N[i]? =some x:=by rfl) (hx:Loc X.env.scope x:=by first | exact Or.inl rfl | exact Or.inr rfl) (hs:swapsWith e (some (.Name x pos')) pos.line X.env=pure false:=by rfl) (hf:X.fn x=true\/X.env.scope.names.lookup x=some .local:=by first | exact .inl rfl | exact .inr rfl | assumption):
  LS X (.Assign [.Name x pos'] e pos) (cS w (gN i)):=PS.imp (TU hN hi hx he hs hf) λD σ H h=> NV (aM i) h
theorem L5 {tg:Expr} {g:TG} {gd:WG} (he:LE X e w) (hg:PG X tg g) (hr:DW X.K g gd) (hs:swapsWithSole [tg] e pos.line X.env=pure false:=by rfl) (hw:swappedStores [tg] e X.env=pure none:=by rfl)
  (h1:(assignEach [tg] X.env).map (·.2)=[assign tg X.env]:=by rfl):LS X (.Assign [tg] e pos) (cS w gd):=PS.imp (LB he hg hs hw h1) λD σ H h=> NV hr h
def OX:D->D->D->MH->(MH->Prop)->Prop:=λo i d mh Q=> ∃n ds k j,o= .ref n/\i= .int k/\mh[n]? =some (.lst ds)/\E6 ds.length k=some j/\Q (mh.set n (.lst (ds.set j d)))
def tV (w wo wi:WE):WS:=λE ρ mh=> w ρ mh λd mh1=> wo ρ mh1 λo mh2=> wi ρ mh2 λi mh3=> OX o i d mh3 λmh4=> E.nx ρ mh4
theorem qF {o i:Expr} {wo wi:WE} {spos:Pos} (he:LE X e w) (ho:LE X o wo) (hi:LE X i wi)
  (ha:∀v,assign (.Subscript o i spos) X.env v=(do
   let ov<-holding [v] (eval o X.env)
   let iv<-holding [v,ov] (eval i X.env)
   standAt spos
   holding [v,ov,iv] (setItem ov iv v)
   release [v,ov,iv] []):=by intro _;rfl)
  (hs:swapsWithSole [.Subscript o i spos] e pos.line X.env=pure false:=by rfl) (hw:swappedStores [.Subscript o i spos] e X.env=pure none:=by rfl)
  (h1:(assignEach [.Subscript o i spos] X.env).map (·.2)=[assign (.Subscript o i spos) X.env]:=by rfl):LS X (.Assign [.Subscript o i spos] e pos) (tV w wo wi):=
 PS.imp (LB he (T3 ho hi set_list ha) hs hw h1) λD σ H h=> by
  obtain ⟨μ,ρ,mh,E,R,En,h,F⟩:=h;refine ⟨μ,ρ,mh,_,R,En,h,λd mh1 q μ1 v H1 P1 R1 I1=> ?_⟩;refine ⟨μ1,ρ,mh1,_,R1,En.mono R P1,q,λdo' mh2 q2 μ2 vo H2 P2 R2 I2=> ?_⟩;refine ⟨μ2,ρ,mh2,_,R2,En.mono R (P1.trans P2),q2,λdi mh3 q3 μ3 vi H3 P3 R3 I3=> ?_⟩;obtain ⟨n,ds,k,j,rfl,rfl,e1,e2,q4⟩:=q3;obtain ⟨a,vs,rfl,hn,hv,l⟩:=iI R3 (Is.mono R2 P3 _ _ I2) e1;cases bU I3;have Iv:=Is.mono R1 (P2.trans P3) d v I1;have P4:aU μ3 H3 μ3 (upd H3 a (.lst (vs.set j v))):=aU.set R3 hn;have R4:=R3.set hn (G6 j Iv l);have P04:=((P1.trans P2).trans P3).trans P4;exact ⟨a,vs,k,j,rfl,rfl,hv,by rw [aR l];exact e2,F.nx ρ _ q4 μ3 σ _ P04 R4 (En.mono R P04)⟩
def D4 (t:WT) (b:WS):WS:=λE ρ mh=> ∃W:Nat->gV->MH->Prop,(∃m,W m ρ mh)/\∀m ρ mh,W m ρ mh->∃N:gV->MH->Prop,(∀ρ' mh',N ρ' mh' ->∃m',m' < m/\W m' ρ' mh')/\
 t ρ mh λc mh1=> if c=true then b {E with nx:=N,ct:=N,bk:=E.nx} ρ mh1 else E.nx ρ mh1
theorem L4 {c:Expr} {body:List Stmt} (hp:PassesOwn (model X.prog X.w) X.A X.env X.xe) (hc:LT X c wt) (hb:JZ X body t):LS X (.While c body [] pos) (D4 wt t):=PS.imp (K9 hp hc hb) λD σ H h=> by
 obtain ⟨μ,ρ,mh,E,R,En,⟨W,⟨m,w0⟩,turn⟩,F⟩:=h;refine ⟨λm σ' H' => ∃μ' ρ' mh',aU μ H μ' H' /\Rep X.K μ' mh' H' /\dA X.K μ' H' ρ' σ' /\W m ρ' mh',⟨m,μ,ρ,mh,aU.refl,R,En,w0⟩,?_⟩;rintro m σ' H' ⟨μ',ρ',mh',P',R',En',w'⟩;obtain ⟨N,hN,tt⟩:=turn m ρ' mh' w';refine ⟨μ',ρ',mh',_,R',En',tt,λk mh1 q μ1 H1 P1 R1=> ?_⟩
 cases k with
 | false=> rw [if_neg Bool.false_ne_true] at q⊢;exact F.nx ρ' mh1 q μ1 σ' H1 (P'.trans P1) R1 (En'.mono R' P1)
 | true=>
  rw [if_pos rfl] at q⊢;refine ⟨λσ2 H2=> ∃μ2 ρ2 mh2,aU μ H μ2 H2/\Rep X.K μ2 mh2 H2/\dA X.K μ2 H2 ρ2 σ2/\N ρ2 mh2,?_,?_⟩
  ·rintro σ2 H2 ⟨μ2,ρ2,mh2,P2,R2,En2,n2⟩;obtain ⟨m',hm,w2⟩:=hN ρ2 mh2 n2;exact ⟨m',hm,μ2,ρ2,mh2,P2,R2,En2,w2⟩
  ·have P01:=P'.trans P1;exact ⟨μ1,ρ',mh1,_,R1,En'.mono R' P1,q,⟨λρ2 mh2 n2 μ2 σ2 H2 P2 R2 En2=> ⟨μ2,ρ2,mh2,P01.trans P2,R2,En2,n2⟩,F.rt.at P01,F.nx.at P01,λρ2 mh2 n2 μ2 σ2 H2 P2 R2 En2=> ⟨μ2,ρ2,mh2,P01.trans P2,R2,En2,n2⟩⟩⟩
def oI (t:WT) (b:WS) (E:fN):Nat->gV->MH->Prop
 | 0,_,_=> False
 | n+1,ρ,mh=> t ρ mh λc mh1=> if c=true then b {E with nx:=oI t b E n,ct:=oI t b E n,bk:=E.nx} ρ mh1 else E.nx ρ mh1
theorem D2 {t:WT} {b:WS} {E:fN} {ρ:gV} {mh:MH} (n:Nat) (h:oI t b E n ρ mh):D4 t b E ρ mh:=by
 refine ⟨λm ρ mh=> oI t b E m ρ mh,⟨n,h⟩,λm ρ mh hw=> ?_⟩
 cases m with
 | zero=> exact hw.elim
 | succ m=> exact ⟨oI t b E m,λρ' mh' q=> ⟨m,aEg _,q⟩,hw⟩
abbrev WI := gV -> MH -> (List D -> (MH -> Prop) -> MH -> Prop) -> Prop
structure lI (μ:List Addr) (H:Hp) (μ' :List Addr) (H' :Hp):Prop where
 pre:∃t,μ' =μ++t
 fr:∀b o,H b=some o->¬JV (some o)->H' b=some o
section
variable {K:aGp} {μ μ' :List Addr} {mh:MH} {H H' :Hp}
theorem aU.weak (R:Rep K μ mh H) (P:aU μ H μ' H'):lI μ H μ' H' :=⟨P.pre,λb o e n=> P.fr b o e λhm=> n (by have:=R.mut hm;rwa [e] at this)⟩
theorem lI.get (p:lI μ H μ' H') {n:Nat} {a:Addr} (h:μ[n]? =some a):μ'[n]? =some a:=by
 obtain ⟨t,rfl⟩:=p.pre;rw [List.getElem?_append_left (List.getElem?_eq_some_iff.mp h).1];exact h
theorem lI.XR (p:lI μ H μ' H') {a:Addr} {vs:List V} (h:pC K H a vs):pC K H' a vs:=by
 rcases h with (h | ⟨o,h⟩) | h
 ·exact .inl (.inl (p.fr _ _ h id))
 ·exact .inl (.inr ⟨o,p.fr _ _ h id⟩)
 ·exact .inr h
theorem lI.XS (p:lI μ H μ' H') {a:Addr} {vs:List V} (h:N9 K H a vs):N9 K H' a vs:=by
 rcases h with ⟨o,h⟩ | h
 ·exact .inl ⟨o,p.fr _ _ h id⟩
 ·exact .inr h
mutual
theorem Is.qB (p:lI μ H μ' H'):∀(d:D) (v:V),Is K μ H d v->Is K μ' H' d v
 | .cN,v,h=> by unfold Is at*;exact h
 | .bl _,v,h=> by unfold Is at*;exact h
 | .int _,v,h=> by unfold Is at*;exact h
 | .str _,v,h=> by unfold Is at*;exact h
 | .ty _,v,h=> by unfold Is at*;exact h
 | .tup ds,v,h=> by
  unfold Is at*;obtain ⟨a,vs,e,s,l⟩:=h;exact ⟨a,vs,e,p.XR s,IsL.qB p ds vs l⟩
 | .fl ds,v,h=> by
  unfold Is at*;obtain ⟨a,vs,e,s,l⟩:=h;exact ⟨a,vs,e,p.XS s,IsL.qB p ds vs l⟩
 | .ref n,v,h=> by
  unfold Is at*;obtain ⟨a,e,q⟩:=h;exact ⟨a,p.get e,q⟩
theorem IsL.qB (p:lI μ H μ' H'):∀(ds:List D) (vs:List V),IsL K μ H ds vs->IsL K μ' H' ds vs
 | [],vs,h=> by unfold IsL at*;exact h
 | d::ds,vs,h=> by
  unfold IsL at*;obtain ⟨v,r,e,q,l⟩:=h;exact ⟨v,r,e,Is.qB p d v q,IsL.qB p ds r l⟩
end
end
structure JW (K:aGp) (μ:List Addr) (H:Hp) (ds:List D) (St:MH->Prop) (J:It):Prop where
 small:ds.length<=sizeLine
 go:∀μ' mh' H',lI μ H μ' H' ->Rep K μ' mh' H' ->St mh' ->∀(i:Nat) d,ds[i]? =some d->J.go i H' /\∀x H'',J.WX i H' x H'' ->aU μ' H' μ' H'' /\Rep K μ' mh' H'' /\Is K μ' H'' d x
 stop:∀μ' mh' H',lI μ H μ' H' ->Rep K μ' mh' H' ->St mh' ->J.stop ds.length H'
def tLI (K:aGp) (w:WI):TI:=λσ H R=> ∃μ ρ mh R',Rep K μ mh H/\dA K μ H ρ σ/\w ρ mh R' /\
 ∀ds St mh1,R' ds St mh1->∀μ1 J H1,aU μ H μ1 H1->Rep K μ1 mh1 H1->JW K μ1 H1 ds St J->R J H1
def LI (X:Cx) (tg iter:Expr) (w:WI):Prop:=PI X tg iter (tLI X.K w)
theorem PI.imp {X:Cx} {tg e:Expr} {t t' :TI} (h:PI X tg e t) (i:∀σ H Q,t' σ H Q->t σ H Q):PI X tg e t' :=λpins s σ H Q I q=> h pins s σ H Q I (i σ H Q q)
def lF (g:WG) (b:WS) (E:fN) (St:MH->Prop):List D->gV->MH->Prop
 | [],ρ,mh=> St mh/\E.nx ρ mh
 | d::ds,ρ,mh=> St mh/\g d ρ λρ2=> b {E with nx:=lF g b E St ds,ct:=lF g b E St ds,bk:=E.nx} ρ2 mh
def nN (wi:WI) (g:WG) (b:WS):WS:=λE ρ mh=> wi ρ mh λds St mh1=> lF g b E St ds ρ mh1
theorem fR {tg iter:Expr} {body:List Stmt} {wi:WI} {g:TG} {gd:WG} (hp:PassesOwn (model X.prog X.w) X.A X.env X.xe) (hc:X.calm=true) (hi:LI X tg iter wi) (hg:PG X tg g) (hr:DW X.K g gd) (hb:JZ X body t)
  (hs:∀x,foldedSetIterable iter X.env x=pure x:=by intro _;rfl):LS X (.For tg iter body [] pos) (nN wi gd t):=PS.imp (TX hp hc hi hg hb hs) λD σ H h=> by
 obtain ⟨μ,ρ,mh,E,R,En,h,F⟩:=h;refine ⟨μ,ρ,mh,_,R,En,h,λds St mh1 q μ1 J H1 P1 R1 It=> ?_⟩;refine ⟨λi m σ' H' => ∃μ' ρ' mh',aU μ1 H1 μ' H' /\Rep X.K μ' mh' H' /\dA X.K μ' H' ρ' σ' /\i<=ds.length/\m=ds.length - i/\lF gd t E St (ds.drop i) ρ' mh',⟨ds.length,μ1,ρ,mh1,aU.refl,R1,En.mono R P1,aEd _,by simp,by simpa using q⟩,?_⟩;rintro i m σ' H' ⟨μ',ρ',mh',P',R',En',hi',rfl,l⟩;by_cases hlt:i < ds.length
 ·rw [List.drop_eq_getElem_cons hlt] at l;obtain ⟨hst,l⟩:=l;obtain ⟨hgo,hy⟩:=It.go μ' mh' H' (P'.weak R1) R' hst i ds[i] (by simp [hlt]);refine .inr ⟨hgo,λσ2 H2=> ∃μ2 ρ2 mh2,aU μ1 H1 μ2 H2/\Rep X.K μ2 mh2 H2/\dA X.K μ2 H2 ρ2 σ2/\lF gd t E St (ds.drop (i+1)) ρ2 mh2,?_,λx H'' y=> ?_⟩
  ·rintro σ2 H2 ⟨μ2,ρ2,mh2,P2,R2,En2,l2⟩;exact ⟨ds.length - (i+1),by omega,μ2,ρ2,mh2,P2,R2,En2,hlt,rfl,l2⟩
  ·obtain ⟨Py,Ry,Iy⟩:=hy x H'' y;refine hr x σ' H'' _ μ' ρ' mh' _ _ Ry (En'.mono R' Py) Iy l λρ3 q3 σ3 En3=> ?_;have P3:=P'.trans Py;have P03:=P1.trans P3
   have nxt:FX X.K μ' H'' (lF gd t E St (ds.drop (i+1))) (λσ2 H2=> ∃μ2 ρ2 mh2,aU μ1 H1 μ2 H2/\Rep X.K μ2 mh2 H2/\dA X.K μ2 H2 ρ2 σ2/\lF gd t E St (ds.drop (i+1)) ρ2 mh2):=
    λρ2 mh2 n2 μ2 σ2 H2 P2 R2 En2=> ⟨μ2,ρ2,mh2,P3.trans P2,R2,En2,n2⟩
   exact ⟨μ',ρ3,mh',_,Ry,En3,q3,⟨nxt,F.rt.at P03,F.nx.at P03,nxt⟩⟩
 ·have e:i=ds.length:=by omega
  subst e;rw [List.drop_of_length_le (Nat.le_refl _)] at l;exact .inl ⟨It.stop μ' mh' H' (P'.weak R1) R' l.1,F.nx ρ' mh' l.2 μ' σ' H' (P1.trans P') R' En'⟩
end
def fJ (w:WE):WI:=λρ mh Q=> w ρ mh λx mh1=> ∃ds,bP mh1 x=some ds/\Q ds (λmh' => bP mh' x=some ds) mh1
section
variable {K:aGp} {μ:List Addr} {mh:MH} {H:Hp} {ds:List D} {vs:List V} {a:Addr}
theorem VC {St:MH->Prop} (R:Rep K μ mh H) (s:pC K H a vs) (l:IsL K μ H ds vs) (hz:ds.length<=sizeLine):JW K μ H ds St (Itt K a):=by
 refine ⟨hz,λμ' mh' H' P' R' _ i d e=> ?_,λμ' mh' H' P' R' _=> ⟨vs,P'.XR s,by rw [aR l];exact aCs _⟩⟩;have s' :=P'.XR s;obtain ⟨v,ev,iv⟩:=fC (IsL.qB P' ds vs l) e;refine ⟨⟨vs,v,s',ev⟩,λx H'' y=> ?_⟩;obtain ⟨rfl,y⟩:=y;have:=y vs s';rw [ev] at this;cases this;exact ⟨aU.refl,R',iv⟩
theorem YY {St:MH->Prop} (R:Rep K μ mh H) (s:N9 K H a vs) (l:IsL K μ H ds vs) (hz:ds.length<=sizeLine):JW K μ H ds St (Itl K a):=by
 refine ⟨hz,λμ' mh' H' P' R' _ i d e=> ?_,λμ' mh' H' P' R' _=> ⟨vs,(P'.XS s).sq,by rw [aR l];exact aCs _⟩⟩;have s' :=(P'.XS s).sq;obtain ⟨v,ev,iv⟩:=fC (IsL.qB P' ds vs l) e;refine ⟨⟨vs,v,s',ev⟩,λx H'' y=> ?_⟩;obtain ⟨rfl,y⟩:=y;have:=y vs s';rw [ev] at this;cases this;exact ⟨aU.refl,R',iv⟩
theorem sZ {mh:MH} {n:Nat} {ds:List D} (h:bP mh (.ref n)=some ds):mh[n]? =some (.lst ds):=by
 simp only [bP] at h
 cases o:mh[n]? with
 | none=> rw [o] at h;cases h
 | some ob=> cases ob with
  | lst es=> rw [o] at h;cases h;rfl
  | dic t kvs=> rw [o] at h;cases h
theorem VE {n:Nat} (R:Rep K μ mh H) (hn:μ[n]? =some a) (hz:ds.length<=sizeLine):JW K μ H ds (λmh' => bP mh' (.ref n)=some ds) (Itl K a):=by
 refine ⟨hz,λμ' mh' H' P' R' hs i d e=> ?_,λμ' mh' H' P' R' hs=> ?_⟩
 ·obtain ⟨vs,hv,l⟩:=R'.obj n a _ (P'.get hn) (sZ hs);obtain ⟨v,ev,iv⟩:=fC l e;refine ⟨⟨vs,v,.of hv,ev⟩,λx H'' y=> ?_⟩;obtain ⟨rfl,y⟩:=y;have:=y vs (.of hv);rw [ev] at this;cases this;exact ⟨aU.refl,R',iv⟩
 ·obtain ⟨vs,hv,l⟩:=R'.obj n a _ (P'.get hn) (sZ hs);exact ⟨vs,.of hv,by rw [aR l];exact aCs _⟩
end
section
variable {X:Cx} {tg l:Expr} {w:WE}
theorem fB (hl:LE X l w):LI X tg l (fJ w):=by
 intro pins s σ H R I h;obtain ⟨μ,ρ,mh,R',RR,En,h,F⟩:=h;refine cZ (hl pins s σ H (λv H1=> ∃μ1 x mh1 ds,aU μ H μ1 H1/\Rep X.K μ1 mh1 H1/\Is X.K μ1 H1 x v/\bP mh1 x=some ds/\R' ds (λmh' => bP mh' x=some ds) mh1) I ⟨μ,ρ,mh,_,RR,En,h,λd mh1 q μ1 v H1 P1 R1 I1=> ?_⟩) λv s1 ⟨x,H1,I1,r1,q1⟩=> ?_
 ·obtain ⟨ds,e,q⟩:=q;exact ⟨μ1,d,mh1,ds,P1,R1,I1,e,q⟩
 ·obtain ⟨μ1,dx,mh1,ds,P1,R1,ix,e,q⟩:=q1;obtain ⟨a,vs,rfl,sq,il⟩:=uJ R1 ix e;have hz:ds.length<=sizeLine:=by rw [<-aR il];exact S8 I1 sq
  have listW:∀{vs:List V},pD X.K H1 a vs->JW X.K μ1 H1 ds (λmh' => bP mh' dx=some ds) (Itl X.K a)->wpAny (model X.prog X.w) X.A (pyIter v) (PIE X pins σ tg R) X.xe s1:=λ{vs} sq It=> by
   obtain ⟨aL,rv,p,_⟩:=I1.list sq;cases r1;refine wpAny_pyIter_list p.isList ?_;refine ⟨s1.heap.objs.size,[s1.heap.objs.size],_,_,H1,rfl,I1.kept (t' :=s1.toks) λb o e=> aCp _ e,HU a _,⟨_,aCu _ rfl,rfl,rfl⟩,λb hb=> ?_,F ds _ mh1 q μ1 _ H1 P1 R1 It⟩;have e:b=s1.heap.objs.size:=by simpa using hb
   subst e;exact I1.M9 (aCs _) (I1.cG.fresh (aCs _))
  cases dx with
  | tup es=>
   cases e;obtain ⟨a',vs',ea,sq',il'⟩:=fT ix;cases ea;obtain ⟨aL,rv,p,_⟩:=I1.tuple sq';cases r1;refine wpAny_pyIter_tuple (show s1.heap.IsTuple a aL.toArray from p) ?_;refine ⟨s1.heap.objs.size,[s1.heap.objs.size],_,_,H1,rfl,I1.kept (t' :=s1.toks) λb o e=> aCp _ e,D5 a _,⟨_,aCu _ rfl,rfl,rfl⟩,λb hb=> ?_,F ds _ mh1 q μ1 _ H1 P1 R1 (VC R1 sq' il' hz)⟩;have e:b=s1.heap.objs.size:=by simpa using hb
   subst e;exact I1.M9 (aCs _) (I1.cG.fresh (aCs _))
  | fl es=>
   cases e;obtain ⟨a',vs',ea,sq',il'⟩:=qI ix;cases ea;exact listW sq'.sq (YY R1 sq' il' hz)
  | ref n=>
   obtain ⟨a',vs',ea,hn,hv,il'⟩:=iI R1 ix (sZ e);cases ea;exact listW (.of hv) (VE R1 hn hz)
  | _=> cases e
def uQ (lo:Int) (n:Nat):List D:=(List.range n).map λ(k:Nat)=> D.int (lo+(k:Int))
theorem VD {K:aGp} {μ:List Addr} {H:Hp} {St:MH->Prop} {lo:Int} {n:Nat} (hz:n<=sizeLine):JW K μ H (uQ lo n) St (Itr lo n):=by
 refine ⟨by simpa [uQ] using hz,λμ' mh' H' P' R' _ i d e=> ?_,λμ' mh' H' P' R' _=> by show n<=_;simp [uQ]⟩;simp only [uQ,List.getElem?_map] at e;obtain ⟨k,hk,rfl⟩:=aDr.mp e;obtain ⟨hi,rfl⟩:=aCn.mp hk;simp at hi;refine ⟨hi,λx H'' y=> ?_⟩;obtain ⟨rfl,rfl⟩:=y;exact ⟨aU.refl,R',by simp;exact .int⟩
variable {a b:Expr} {wa:WA} {p pos:Pos}
def rZ (wa:WA):WI:=λρ mh Q=> wa ρ mh λds mh1=> ∃j,ds=[.int j]/\ -(2^62)<=j/\j<=sizeLine/\Q (uQ 0 j.toNat) (λ_=> True) mh1
theorem jX (hg:Gl X "range") (hm:X.mg "range"=none) (ha:LA X [a] wa) (hs:starEach [a] X.env=[(false,eval a X.env)]:=by rfl):LI X tg (.Call (.Name "range" p) [a] [] pos) (rZ wa):=
 PI.imp (IG hg hm ha hs) λσ H R h=> by
  obtain ⟨μ,ρ,mh,R',RR,En,h,F⟩:=h;refine ⟨μ,ρ,mh,_,RR,En,h,λds mh1 q μ1 vs H1 P1 R1 I1=> ?_⟩;obtain ⟨j,rfl,h1,h2,q⟩:=q;obtain ⟨v,rfl,iv⟩:=lH I1;cases bU iv;have hl:=mH;have hs:sizeLine=16777216:=aDe;exact ⟨j,rfl,h1,by omega,F _ _ mh1 q μ1 _ H1 P1 R1 (VD (by omega))⟩
def lJ:List D->List D->List D
 | a::as,b::bs=> .tup [a,b]::lJ as bs
 | _,_=> []
theorem tJ:∀(as bs:List D),(lJ as bs).length=min as.length bs.length
 | [],bs=> by simp [lJ]
 | a::as,[]=> by simp [lJ]
 | a::as,b::bs=> by simp [lJ,tJ as bs]
theorem AZ:∀{as bs:List D} {i:Nat} {d:D},(lJ as bs)[i]? =some d->∃x y,as[i]? =some x/\bs[i]? =some y/\d= .tup [x,y]
 | [],bs,i,d,h=> by simp [lJ] at h
 | a::as,[],i,d,h=> by simp [lJ] at h
 | a::as,b::bs,0,d,h=> by simp [lJ] at h;exact ⟨a,b,rfl,rfl,h.symm⟩
 | a::as,b::bs,i+1,d,h=> by simpa using AZ (as:=as) (bs:=bs) (i:=i) (by simpa [lJ] using h)
def F7 (wa:WA):WI:=λρ mh Q=> wa ρ mh λxs mh1=> ∃x y ds es,xs=[x,y]/\bP mh1 x=some ds/\bP mh1 y=some es/\ds.length<=sizeLine/\Q (lJ ds es) (λmh' => bP mh' x=some ds/\bP mh' y=some es) mh1
def N7:D->Bool | .tup _=> true | _=> false
theorem uC {K:aGp} {μ:List Addr} {mh:MH} {H:Hp} {d:D} {v:V} {ds:List D} (R:Rep K μ mh H) (h:Is K μ H d v) (e:bP mh d=some ds):∃a vs,v= .ref a/\HL K H (N7 d) a vs/\IsL K μ H ds vs:=by
 cases d with
 | tup es=> obtain ⟨a,vs,rfl,s,l⟩:=fT h;cases e;exact ⟨a,vs,rfl,s,l⟩
 | fl es=> obtain ⟨a,vs,rfl,s,l⟩:=qI h;cases e;exact ⟨a,vs,rfl,s.sq,l⟩
 | ref n=> obtain ⟨a,vs,rfl,_,hv,l⟩:=iI R h (sZ e);exact ⟨a,vs,rfl,pD.of hv,l⟩
 | _=> cases e
variable {e1 e2:Expr} {elts:List Expr} {x1:Nat} {tpos:Pos}
theorem QL {x1} (hg:Gl X "zip") (hm:X.mg "zip"=none) (ha:LA X [e1,e2] wa)
  (he:starEach [e1,e2] X.env=(false,eval e1 X.env)::starEach [e2] X.env:=by rfl) (hpl:(backTo pos (starEach [e2] X.env)).any (·.1)=false:=by rfl):
  LI X (.Tuple elts x1 tpos) (.Call (.Name "zip" p) [e1,e2] [] pos) (F7 wa):=
 PI.imp (TZ RJ ⟨by decide,by decide⟩ hg hm ha (by decide+kernel) he hpl) λσ H R h=> by
  obtain ⟨μ,ρ,mh,R',RR,En,h,F⟩:=h;refine ⟨μ,ρ,mh,_,RR,En,h,λxs mh1 q μ1 vs H1 P1 R1 I1=> ?_⟩;obtain ⟨x,y,ds,es,rfl,h1,h2,hz,q⟩:=q;obtain ⟨v,u,rfl,iv,iu⟩:=G8 I1;obtain ⟨a,xs,rfl,sa,la⟩:=uC R1 iv h1;obtain ⟨b,ys,rfl,sb,lb⟩:=uC R1 iu h2;refine ⟨[(a,N7 x),(b,N7 y)],rfl,rfl,?_,F _ _ mh1 q μ1 _ H1 P1 R1 ?_⟩
  ·intro pp hpp;simp at hpp;rcases hpp with rfl | rfl
   ·exact ⟨xs,sa⟩
   ·exact ⟨ys,sb⟩
  ·have later:∀μ' mh' H',lI μ1 H1 μ' H' ->Rep X.K μ' mh' H' ->(bP mh' x=some ds/\bP mh' y=some es)->∃xs ys,HL X.K H' (N7 x) a xs/\IsL X.K μ' H' ds xs/\HL X.K H' (N7 y) b ys/\IsL X.K μ' H' es ys:=λμ' mh' H' P' R' st=> by
    obtain ⟨a',xs',e1,s1,l1⟩:=uC R' (Is.qB P' _ _ iv) st.1;obtain ⟨b',ys',e2,s2,l2⟩:=uC R' (Is.qB P' _ _ iu) st.2;cases e1;cases e2;exact ⟨xs',ys',s1,l1,s2,l2⟩
   refine ⟨by rw [tJ];omega,λμ' mh' H' P' R' st i d e=> ?_,λμ' mh' H' P' R' st=> ?_⟩
   ·obtain ⟨xs',ys',s1,l1,s2,l2⟩:=later μ' mh' H' P' R' st;obtain ⟨dx,dy,g1,g2,rfl⟩:=AZ e;obtain ⟨vx,k1,ix⟩:=fC l1 g1;obtain ⟨vy,k2,iy⟩:=fC l2 g2;refine ⟨⟨[vx,vy],rfl,λk a' t' v hk hv=> ?_⟩,λz H'' yl=> ?_⟩
    ·match k with
     | 0=> cases hk;cases hv;exact ⟨xs',s1,k1⟩
     | 1=> cases hk;cases hv;exact ⟨ys',s2,k2⟩
     | k+2=> simp at hk
    ·obtain ⟨pp,vs,hp,rfl,rfl,hvl,hvs⟩:=yl
     match vs,hvl with
     | [v1,v2],_=>
      have e1:=hvs 0 a (N7 x) v1 rfl rfl xs' s1;have e2:=hvs 1 b (N7 y) v2 rfl rfl ys' s2;rw [k1] at e1;rw [k2] at e2;cases e1;cases e2;have Pn:aU μ' H' μ' (upd H' pp (.tup [vx,vy])):=aU.new R' hp;refine ⟨Pn,R'.new hp,?_⟩;unfold Is;refine ⟨pp,[vx,vy],rfl,.of cE,?_⟩;unfold IsL;exact ⟨vx,[vy],rfl,Is.mono R' Pn _ _ ix,nB (Is.mono R' Pn _ _ iy)⟩
   ·obtain ⟨xs',ys',s1,l1,s2,l2⟩:=later μ' mh' H' P' R' st;rw [tJ];by_cases hle:ds.length<=es.length
    ·refine ⟨0,a,N7 x,xs',rfl,s1,by rw [aR l1];omega,λj b u hj=> absurd hj (by omega)⟩
    ·refine ⟨1,b,N7 y,ys',rfl,s2,by rw [aR l2];omega,λj b u hj hs=> ?_⟩;have:j=0:=by omega
     subst this;cases hs;exact ⟨xs',s1,by rw [aR l1];omega⟩
end
section
variable {K:aGp} {μ μ' :List Addr} {mh:MH} {H H0:Hp} {q:Addr} {o:HO}
mutual
theorem Is.out (hm:JV (H q)):∀(d:D) (v:V),Is K μ H d v->Is K μ (upd H q o) d v
 | .cN,v,h=> by unfold Is at*;exact h
 | .bl _,v,h=> by unfold Is at*;exact h
 | .int _,v,h=> by unfold Is at*;exact h
 | .str _,v,h=> by unfold Is at*;exact h
 | .ty _,v,h=> by unfold Is at*;exact h
 | .tup ds,v,h=> by
  unfold Is at*;obtain ⟨a,vs,e,s,l⟩:=h;refine ⟨a,vs,e,?_,IsL.out hm ds vs l⟩
  rcases s with (s | ⟨ob,s⟩) | s
  ·exact .inl (.inl (by rw [aV (λz=> by subst z;rw [s] at hm;exact hm)];exact s))
  ·exact .inl (.inr ⟨ob,by rw [aV (λz=> by subst z;rw [s] at hm;exact hm)];exact s⟩)
  ·exact .inr s
 | .fl ds,v,h=> by
  unfold Is at*;obtain ⟨a,vs,e,s,l⟩:=h;refine ⟨a,vs,e,?_,IsL.out hm ds vs l⟩
  rcases s with ⟨ob,s⟩ | s
  ·exact .inl ⟨ob,by rw [aV (λz=> by subst z;rw [s] at hm;exact hm)];exact s⟩
  ·exact .inr s
 | .ref n,v,h=> by unfold Is at*;exact h
theorem IsL.out (hm:JV (H q)):∀(ds:List D) (vs:List V),IsL K μ H ds vs->IsL K μ (upd H q o) ds vs
 | [],vs,h=> by unfold IsL at*;exact h
 | d::ds,vs,h=> by
  unfold IsL at*;obtain ⟨v,r,e,i,l⟩:=h;exact ⟨v,r,e,Is.out hm d v i,IsL.out hm ds r l⟩
end
mutual
theorem Is.pre (hp:∀(n:Nat) a,μ[n]? =some a->μ'[n]? =some a):∀(d:D) (v:V),Is K μ H d v->Is K μ' H d v
 | .cN,v,h=> by unfold Is at*;exact h
 | .bl _,v,h=> by unfold Is at*;exact h
 | .int _,v,h=> by unfold Is at*;exact h
 | .str _,v,h=> by unfold Is at*;exact h
 | .ty _,v,h=> by unfold Is at*;exact h
 | .tup ds,v,h=> by unfold Is at*;obtain ⟨a,vs,e,s,l⟩:=h;exact ⟨a,vs,e,s,IsL.pre hp ds vs l⟩
 | .fl ds,v,h=> by unfold Is at*;obtain ⟨a,vs,e,s,l⟩:=h;exact ⟨a,vs,e,s,IsL.pre hp ds vs l⟩
 | .ref n,v,h=> by unfold Is at*;obtain ⟨a,e,q⟩:=h;exact ⟨a,hp n a e,q⟩
theorem IsL.pre (hp:∀(n:Nat) a,μ[n]? =some a->μ'[n]? =some a):∀(ds:List D) (vs:List V),IsL K μ H ds vs->IsL K μ' H ds vs
 | [],vs,h=> by unfold IsL at*;exact h
 | d::ds,vs,h=> by unfold IsL at*;obtain ⟨v,r,e,i,l⟩:=h;exact ⟨v,r,e,Is.pre hp d v i,IsL.pre hp ds r l⟩
end
theorem Rep.out (R:Rep K μ mh H) (hm:JV (H q)) (hq:q∉μ):Rep K μ mh (upd H q o):=⟨R.len,R.nd,λn a ob h1 h2=> by
 have h:=R.obj n a ob h1 h2;have hne:a≠q:=λz=> hq (z▸aCz h1)
 cases ob with
 | lst ds=> obtain ⟨vs,e,l⟩:=h;exact ⟨vs,by rw [aV hne];exact e,IsL.out hm ds vs l⟩
 | dic t kvs=> obtain ⟨vs,e,l⟩:=h;exact ⟨vs,by rw [aV hne];exact e,IsL.out hm _ vs l⟩⟩
theorem aU.out (P:aU μ H0 μ' H) (h0:H0 q=none):aU μ H0 μ' (upd H q o):=⟨P.pre,λb u e n=> by rw [aV (bY e h0)];exact P.fr b u e n,P.nw⟩
theorem Rep.V8 {ob0:MO} (R:Rep K μ mh H) (hq:q∉μ) (e:oH K (μ++[q]) H ob0 q):Rep K (μ++[q]) (mh++[ob0]) H:=by
 have pr:∀{es us},IsL K μ H es us->IsL K (μ++[q]) H es us:=λ{es us} l=> IsL.pre (λn a h=> by rw [List.getElem?_append_left (List.getElem?_eq_some_iff.mp h).1];exact h) es us l;refine ⟨by simp [R.len],?_,λn a ob h1 h2=> ?_⟩
 ·rw [List.nodup_append];refine ⟨R.nd,by simp,λa ha b hb=> ?_⟩;simp at hb;subst hb;exact λz=> hq (z▸ha)
 ·by_cases hn:n < μ.length
  ·rw [List.getElem?_append_left hn] at h1;rw [List.getElem?_append_left (by rw [<-R.len];exact hn)] at h2;have h:=R.obj n a ob h1 h2
   cases ob with
   | lst es=> obtain ⟨us,e1,l1⟩:=h;exact ⟨us,e1,pr l1⟩
   | dic t kvs=> obtain ⟨us,e1,l1⟩:=h;exact ⟨us,e1,pr l1⟩
  ·rw [List.getElem?_append_right (by omega)] at h1;rw [List.getElem?_append_right (by rw [<-R.len];omega)] at h2
   have hz:n - μ.length=0:=by
    have:=(aCn.mp h1).1;simp at this;omega
   rw [hz] at h1;rw [<-R.len,hz] at h2;simp at h1 h2;subst h1 h2;exact e
theorem Rep.ZK {ds:List D} {vs:List V} (R:Rep K μ mh H) (hq:q∉μ) (e:H q=some (.lst vs)) (l:IsL K μ H ds vs):Rep K (μ++[q]) (mh++[.lst ds]) H:=
 R.V8 hq ⟨vs,e,IsL.pre (λn a h=> by rw [List.getElem?_append_left (List.getElem?_eq_some_iff.mp h).1];exact h) ds vs l⟩
end
def o7 (own:List Str) (bV:List Nat) (ρ:gV):gV:=own.map (λ_=> none)++bV.map λi=> (ρ[i]?).join
def jZ (g:WG) (t:WT) (w:WE) (ρe:gV) (St:MH->Prop) (Q:DK):List D->List D->MH->Prop
 | [],ys,mh=> St mh/\Q (.ref mh.length) (mh++[.lst ys])
 | d::ds,ys,mh=> St mh/\g d ρe λρ2=> t ρ2 mh λb mh3=> if b=true then w ρ2 mh3 λy mh4=> jZ g t w ρe St Q ds (ys++[y]) mh4 else jZ g t w ρe St Q ds ys mh3
def KD (own:List Str) (bV:List Nat) (wi:WI) (g:WG) (t:WT) (w:WE):WE:=λρ mh Q=> wi ρ mh λds St mh1=> jZ g t w (o7 own bV ρ) St Q ds [] mh1
def yP:WT:=λ_ mh Q=> Q true mh
section
variable {K:aGp} {μ μ1:List Addr} {mh:MH} {H H1:Hp}
theorem aU.away {q:Addr} {o:HO} (P:aU μ H μ1 H1) (hn:q∉μ) (e:H q=some o):q∉μ1/\H1 q=some o:=by
 refine ⟨λh=> ?_,P.fr q o e hn⟩;rcases P.nw q h with z | z
 ·exact hn z
 ·rw [e] at z;cases z
theorem dA.emb {ρ:gV} {σ:L2.St} {own:List Str} {bV:List Nat} (E:dA K μ H ρ σ):dA K μ H (o7 own bV ρ) (sT own bV σ):=by
 refine ⟨by simp [o7,sT],λi d h=> ?_⟩;unfold o7 at h;unfold sT;by_cases hi:i < own.length
 ·rw [List.getElem?_append_left (by simpa using hi),List.getElem?_map] at h
  cases q:own[i]? with
  | none=> rw [q] at h;simp at h
  | some z=> rw [q] at h;simp at h
 ·rw [List.getElem?_append_right (by simpa using hi),List.getElem?_map] at h⊢;simp only [List.length_map] at h⊢
  cases q:bV[i - own.length]? with
  | none=> rw [q] at h;simp at h
  | some k=>
   rw [q] at h;simp only [Option.map_some,Option.some.injEq] at h⊢
   cases r:ρ[k]? with
   | none=> rw [r] at h;simp at h
   | some z=>
    rw [r] at h;simp at h;subst h;obtain ⟨v,h1,h2⟩:=E.2 k d r;exact ⟨v,by rw [h1];rfl,h2⟩
end
section
variable {X:Cx}
def LTs (X:Cx) (es:List Expr) (w:WT):Prop:=PTs X es (WK X.K w)
theorem qE:LTs X [] yP:=λpins s σ H Q I q=> O9 pins s σ H Q I (by
 obtain ⟨μ,ρ,mh,R,RR,En,h,F⟩:=q
 exact F true mh h μ H aU.refl RR)
theorem GV {c:Expr} {t:WT} (h:LT X c t):LTs X [c] t:=O8 h
theorem QQ {wi:WI} {g:TG} {gd:WG} {t:WT} {w:WE} {own:List Str} {bV:List Nat} (hr:DW X.K g gd) {σ:L2.St} {H:Hp} {Q:VK} (h:tL X.K (KD own bV wi gd t w) σ H Q):tLC own bV (tLI X.K wi) g (WK X.K t) (tL X.K w) σ H Q:=by
 obtain ⟨μ,ρ,mh,R,RR,En,h,F⟩:=h;refine ⟨μ,ρ,mh,_,RR,En,h,λds St mh1 q μ1 J H1 P1 R1 It acc hacc=> ?_⟩;have hacc1:acc∉μ1:=λz=> R1.ne hacc z rfl
 refine ⟨λi m ys H' => ∃μ' mh' dys,aU μ1 H1 μ' H' /\Rep X.K μ' mh' H' /\acc∉μ' /\H' acc=some (.lst ys)/\IsL X.K μ' H' dys ys/\dys.length<=i/\i<=ds.length/\m=ds.length - i/\jZ gd t w (o7 own bV ρ) St R (ds.drop i) dys mh',
  ⟨ds.length,μ1,mh1,[],aU.out aU.refl hacc,R1.new hacc,hacc1,cE,by unfold IsL;rfl,aCs _,aEd _,by simp,by simpa using q⟩,?_⟩
 rintro i m ys H' ⟨μ',mh',dys,P',R',ha',e',l',hd',hi',rfl,c⟩;refine ⟨e',?_⟩;by_cases hlt:i < ds.length
 ·rw [List.drop_eq_getElem_cons hlt] at c;obtain ⟨hst,c⟩:=c;obtain ⟨hgo,hy⟩:=It.go μ' mh' H' (P'.weak R1) R' hst i ds[i] (by simp [hlt]);refine .inr ⟨hgo,by have:=It.small;rw [aR l'];omega,λys2 H2=> ∃μ2 mh2 dys2,aU μ1 H1 μ2 H2/\Rep X.K μ2 mh2 H2/\acc∉μ2/\H2 acc=some (.lst ys2)/\IsL X.K μ2 H2 dys2 ys2/\dys2.length<=i+1/\jZ gd t w (o7 own bV ρ) St R (ds.drop (i+1)) dys2 mh2,?_,λx H'' y=> ?_⟩
  ·rintro ys2 H2 ⟨μ2,mh2,dys2,P2,R2,ha2,e2,l2,hd2,c2⟩;exact ⟨ds.length - (i+1),by omega,μ2,mh2,dys2,P2,R2,ha2,e2,l2,hd2,hlt,rfl,c2⟩
  ·obtain ⟨Py,Ry,Iy⟩:=hy x H'' y;obtain ⟨hay,ey⟩:=Py.away ha' e';have ly:=IsL.mono R' Py dys ys l';have P0y:=P1.trans (P'.trans Py);refine hr x _ H'' _ μ' (o7 own bV ρ) mh' _ _ Ry (En.mono RR P0y).emb Iy c λρ2 q2 σ2 En2=> ?_;refine ⟨μ',ρ2,mh',_,Ry,En2,q2,λb mh3 q3 μ3 H3 P3 R3=> ?_⟩;obtain ⟨ha3,e3⟩:=P3.away hay ey;have l3:=IsL.mono Ry P3 dys ys ly;have P13:=(P'.trans Py).trans P3
   cases b with
   | false=> rw [if_neg Bool.false_ne_true] at q3⊢;exact ⟨μ3,mh3,dys,P13,R3,ha3,e3,l3,by omega,q3⟩
   | true=>
    rw [if_pos rfl] at q3⊢;refine ⟨μ3,ρ2,mh3,_,R3,En2.mono Ry P3,q3,λy mh4 q4 μ4 vy H4 P4 R4 I4=> ?_⟩;obtain ⟨ha4,e4⟩:=P4.away ha3 e3;have hm:JV (H4 acc):=by rw [e4];trivial
    have l4:=IsL.mono R3 P4 dys ys l3;exact ⟨e4,μ4,mh4,dys++[y],aU.out (P13.trans P4) hacc,R4.out hm ha4,ha4,cE,IsL.out hm _ _ (hX l4 (nB I4)),by simp;omega,q4⟩
 ·have e:i=ds.length:=by omega
  subst e;rw [List.drop_of_length_le (Nat.le_refl _)] at c;refine .inl ⟨It.stop μ' mh' H' (P'.weak R1) R' c.1,?_⟩
  have Pa:aU μ1 H1 (μ' ++[acc]) H' :=⟨by obtain ⟨t,rfl⟩:=P'.pre;exact ⟨t++[acc],by simp⟩,P'.fr,λa ha=> by
   rcases aCt.mp ha with ha | ha
   ·exact P'.nw a ha
   ·simp at ha;subst ha;exact .inr hacc⟩
  exact F _ _ c.2 (μ' ++[acc]) _ H' (P1.trans Pa) (R'.ZK ha' e' l') (by unfold Is;exact ⟨acc,by rw [<-R'.len];simp,rfl⟩)
theorem vE {tg iter elt:Expr} {ifs:List Expr} {scope sc:Scope} {N:List Str} {pos:Pos} {wi:WI} {g:TG} {gd:WG} {t:WT} {w:WE} (own:List Str) (bV:List Nat)
  (hN:X.N=N) (hsc:X.env.scope=sc) (chk:tG N sc scope bV=true) (hcalm:X.calm=true) (hi:LI X tg iter wi) (ho:N0 own.length g)
  (gm:∀v σ H Q Q',(∀σ' H',Q σ' H' ->Q' σ' H')->g v σ H Q->g v σ H Q')
  (hr:DW X.K g gd)
  (hg:∀cl C fp s₀ H₀,PG (dC X own bV scope cl C fp s₀ H₀) tg g) (ht:∀cl C fp s₀ H₀,LTs (dC X own bV scope cl C fp s₀ H₀) ifs t)
  (he:∀cl C fp s₀ H₀,LE (dC X own bV scope cl C fp s₀ H₀) elt w)
  (hs:∀x,foldedSetIterable iter X.env x=pure x:=by intro _;rfl):LE X (.ListComp elt [⟨tg,iter,ifs,0⟩] scope pos) (KD own bV wi gd t w):=
 PE.imp (YD (wi:=tLI X.K wi) (tt:=WK X.K t) (te:=tL X.K w) own bV hN hsc chk hcalm hi ho gm hg (λcl C fp s₀ H₀=> ht cl C fp s₀ H₀) (λcl C fp s₀ H₀=> he cl C fp s₀ H₀) hs) λσ H Q h=> QQ hr h
end
mutual
def eE (n:Nat):D->Bool
 | .ref k=> decide (k < n)
 | .tup ds=> dI n ds
 | .fl ds=> dI n ds
 | _=> true
def dI (n:Nat):List D->Bool
 | []=> true
 | d::ds=> eE n d && dI n ds
end
def zB (n:Nat):MO->Bool
 | .lst ds=> dI n ds
 | .dic _ kvs=> dI n (kvs.map (·.2))
def nK (mh:MH):Prop:=∀o∈mh,zB mh.length o=true
section
variable {K:aGp} {μ:List Addr} {mh:MH} {H:Hp}
mutual
theorem OZ:∀(d:D) (v:V),Is K μ H d v->eE μ.length d=true
 | .cN,v,h=> rfl
 | .bl _,v,h=> rfl
 | .int _,v,h=> rfl
 | .str _,v,h=> rfl
 | .ty _,v,h=> rfl
 | .tup ds,v,h=> by obtain ⟨a,vs,_,_,l⟩:=fT h;simpa [eE] using jU ds vs l
 | .fl ds,v,h=> by obtain ⟨a,vs,_,_,l⟩:=qI h;simpa [eE] using jU ds vs l
 | .ref n,v,h=> by obtain ⟨a,e,_⟩:=oV h;simpa [eE] using (aCn.mp e).1
theorem jU:∀(ds:List D) (vs:List V),IsL K μ H ds vs->dI μ.length ds=true
 | [],vs,h=> rfl
 | d::ds,vs,h=> by
  unfold IsL at h;obtain ⟨v,r,_,i,l⟩:=h;simp only [dI,OZ d v i,jU ds r l,Bool.and_self]
end
theorem Rep.Z6 (R:Rep K μ mh H):nK mh:=λo ho=> by
 obtain ⟨n,hn⟩:=aD3.mp ho;have hl:n < μ.length:=by rw [R.len];exact (aCn.mp hn).1
 have h:=R.obj n μ[n] o (by simp [hl]) hn;rw [<-R.len]
 cases o with
 | lst ds=> obtain ⟨vs,_,l⟩:=h;exact jU ds vs l
 | dic t kvs=> obtain ⟨vs,_,l⟩:=h;exact jU _ vs l
mutual
theorem Is.cut {n:Nat}:∀(d:D) (v:V),eE n d=true->Is K μ H d v->Is K (μ.take n) H d v
 | .cN,v,_,h=> by unfold Is at*;exact h
 | .bl _,v,_,h=> by unfold Is at*;exact h
 | .int _,v,_,h=> by unfold Is at*;exact h
 | .str _,v,_,h=> by unfold Is at*;exact h
 | .ty _,v,_,h=> by unfold Is at*;exact h
 | .tup ds,v,b,h=> by unfold Is at*;obtain ⟨a,vs,e,s,l⟩:=h;exact ⟨a,vs,e,s,IsL.cut ds vs (by simpa [eE] using b) l⟩
 | .fl ds,v,b,h=> by unfold Is at*;obtain ⟨a,vs,e,s,l⟩:=h;exact ⟨a,vs,e,s,IsL.cut ds vs (by simpa [eE] using b) l⟩
 | .ref k,v,b,h=> by unfold Is at*;obtain ⟨a,e,q⟩:=h;exact ⟨a,by rw [List.getElem?_take_of_lt (by simpa [eE] using b)];exact e,q⟩
theorem IsL.cut {n:Nat}:∀(ds:List D) (vs:List V),dI n ds=true->IsL K μ H ds vs->IsL K (μ.take n) H ds vs
 | [],vs,_,h=> by unfold IsL at*;exact h
 | d::ds,vs,b,h=> by
  unfold IsL at*;simp only [dI,Bool.and_eq_true] at b;obtain ⟨v,r,e,i,l⟩:=h;exact ⟨v,r,e,Is.cut d v b.1 i,IsL.cut ds r b.2 l⟩
end
theorem Rep.cut {mhA junk:MH} (R:Rep K μ (mhA++junk) H) (ok:nK mhA):Rep K (μ.take mhA.length) mhA H:=by
 have hl:mhA.length<=μ.length:=by rw [R.len];simp
 refine ⟨by simp [hl],List.Nodup.sublist (aGi _ _) R.nd,λn a o h1 h2=> ?_⟩;have hn:n < mhA.length:=(aCn.mp h2).1;rw [List.getElem?_take_of_lt hn] at h1;have h:=R.obj n a o h1 (by rw [List.getElem?_append_left hn];exact h2);have b:=ok o (aCz h2)
 cases o with
 | lst ds=> obtain ⟨vs,e,l⟩:=h;exact ⟨vs,e,IsL.cut ds vs b l⟩
 | dic t kvs=> obtain ⟨vs,e,l⟩:=h;exact ⟨vs,e,IsL.cut _ vs b l⟩
end
def Out (n:Nat) (d:D) (mh1:MH) (R:DK):Prop:=R d mh1\/(∃mhA junk,mh1=mhA++junk/\n<=mhA.length/\nK mhA/\eE mhA.length d=true/\R d mhA)\/
 ∃mhA junk j o,mh1=mhA++junk/\n<=mhA.length/\nK mhA/\d= .ref j/\mhA.length<=j/\mh1[j]? =some o/\zB mhA.length o=true/\R (.ref mhA.length) (mhA++[o])
theorem GN {K:aGp} {μ:List Addr} {mh:MH} {H:Hp} {R:DK} {Q:VK} (RR:Rep K μ mh H) (F:Fin K μ H R Q):Fin K μ H (λd mh1=> Out mh.length d mh1 R) Q:=by
 intro d mh1 h μ1 v H1 P1 R1 I1
 have key:∀{mhA:MH},mh.length<=mhA.length->∃t,μ1.take mhA.length=μ++t:=λ{mhA} hle=> by
  obtain ⟨t,rfl⟩:=P1.pre;rw [List.take_append,List.take_of_length_le (by rw [RR.len];exact hle)];exact ⟨_,rfl⟩
 rcases h with h | ⟨mhA,junk,rfl,hle,ok,b,h⟩ | ⟨mhA,junk,j,o,rfl,hle,ok,rfl,hj,ho,b,h⟩
 ·exact F d mh1 h μ1 v H1 P1 R1 I1
 ·exact F d mhA h (μ1.take mhA.length) v H1 ⟨key hle,P1.fr,λa ha=> P1.nw a (aEv ha)⟩ (R1.cut ok) (Is.cut d v b I1)
 ·have Rc:=R1.cut ok;obtain ⟨a,ha,rfl⟩:=oV I1;have hob:=R1.obj j a o ha ho;have hlen:(μ1.take mhA.length).length=mhA.length:=Rc.len
  have hnot:a∉μ1.take mhA.length:=λz=> by
   obtain ⟨k,hk⟩:=aD3.mp z;have hk2:k < mhA.length:=by have:=(aCn.mp hk).1;omega
   rw [List.getElem?_take_of_lt hk2] at hk;have:=LZ R1.nd hk ha;omega
  cases o with
  | lst ds=>
   obtain ⟨vs,e,l⟩:=hob;refine F _ _ h (μ1.take mhA.length++[a]) _ H1 ⟨?_,P1.fr,λc hc=> ?_⟩ (Rc.ZK hnot e (IsL.cut ds vs b l)) (by unfold Is;exact ⟨a,by rw [<-hlen];simp,rfl⟩)
   ·obtain ⟨t,ht⟩:=key hle;exact ⟨t++[a],by rw [ht];simp⟩
   ·rcases aCt.mp hc with hc | hc
    ·exact P1.nw c (aEv hc)
    ·simp at hc;subst hc;exact P1.nw c (aCz ha)
  | dic t kvs=>
   obtain ⟨vs,e,l⟩:=hob;refine F _ _ h (μ1.take mhA.length++[a]) _ H1 ⟨?_,P1.fr,λc hc=> ?_⟩ (Rc.V8 hnot ⟨vs,e,IsL.pre (λn a h=> by rw [List.getElem?_append_left (List.getElem?_eq_some_iff.mp h).1];exact h) _ vs (IsL.cut _ vs b l)⟩) (by unfold Is;exact ⟨a,by rw [<-hlen];simp,rfl⟩)
   ·obtain ⟨t,ht⟩:=key hle;exact ⟨t++[a],by rw [ht];simp⟩
   ·rcases aCt.mp hc with hc | hc
    ·exact P1.nw c (aEv hc)
    ·simp at hc;subst hc;exact P1.nw c (aCz ha)
def aQ (N:List Str) (ds:List D):gV:=ds.map some++List.replicate (N.length - ds.length) none
theorem BE {K:aGp} {μ:List Addr} {H:Hp} {N:List Str} {ds:List D} {vs:List V} (l:IsL K μ H ds vs):dA K μ H (aQ N ds) (L2.start N vs):=by
 have hl:=aR l;refine ⟨by simp [aQ,L2.start,hl],λi d h=> ?_⟩;unfold aQ at h;unfold L2.start;by_cases hi:i < ds.length
 ·rw [List.getElem?_append_left (by simpa using hi),List.getElem?_map] at h;obtain ⟨d',h1,h2⟩:=aDr.mp h;cases h2;obtain ⟨v,h3,h4⟩:=fC l h1;exact ⟨v,by rw [List.getElem?_append_left (by simpa [hl] using hi),List.getElem?_map,h3];rfl,h4⟩
 ·rw [List.getElem?_append_right (by simpa using hi)] at h;obtain ⟨_,h⟩:=aCn.mp h;simp at h
section
variable {P:Program} {w:World} {K:aGp} {mg:Str->Option Value} {base:Heap}
theorem Y9 {x qual:Str} {st:Stmt} {f:Addr} {fd:FuncData} {N ps:List Str} {k:Nat} {s:OA} {wB:WS} (F:WV K x qual st f fd) (S:bH N ps (aG st)) (len:∀ds mh R,s ds mh R->ds.length=ps.length)
  (hb:∀(cdv:Value) (A:Around) (outer:List Env) (s:Shared) (H:Hp) (E:XK),gI k (A.deeper (envOfC qual (aG st) s.heap.objs.size f cdv))->
   JZ (wL DX P w K mg base N qual (aG st) f cdv A outer s H E).QA (dB st) wB)
  (hw:∀ds mh R,nK mh->dI mh.length ds=true->s ds mh R->wB {nx:=λ_ mh1=> Out mh.length .cN mh1 R,rt:=λd mh1=> Out mh.length d mh1 R} (aQ N ds) mh):jL P w K mg base DX (k+1) f fd ps (KN K s):=by
 refine F.ok S (λvs H Q E h=> ?_) (λcdv A outer sh H vs Q E hr h=> ?_)
 ·obtain ⟨μ,mh,ds,R,RR,il,h,_⟩:=h;rw [aR il];exact len ds mh R h
 ·obtain ⟨μ,mh,ds,R,RR,il,h,Fi⟩:=h;refine ⟨_,hb cdv A outer sh H E hr,μ,aQ N ds,mh,_,RR,BE il,hw ds mh R RR.Z6 (by rw [<-RR.len];exact jU ds vs il) h,?_⟩;have Fo:=GN RR Fi;exact ⟨λρ' mh' q μ' σ' H' P' R' En' => Fo .cN mh' q μ' .cN H' P' R' .cN,Fo,λ_ _ q=> False.elim q,λ_ _ q=> False.elim q⟩
end
def Fn (P:Program) (w:World) (K:aGp) (mg:Str->Option Value) (base:Heap) (k:Nat) (x:Str) (ps:List Str) (s:OA):Prop:=
 ∃f fd,jL P w K mg base DX k f fd ps (KN K s)/\mg x=some (.ref f)/\PySem.W.keepIn K (.ref f)=true/\Binds K fd ps []
theorem Fn.mono {P:Program} {w:World} {K:aGp} {mg:Str->Option Value} {base:Heap} {j k:Nat} {x:Str} {ps:List Str} {s:OA} (h:Fn P w K mg base j x ps s) (hk:j<=k):Fn P w K mg base k x ps s:=
 let ⟨f,fd,a,b,c,d⟩:=h;⟨f,fd,a.mono hk,b,c,d⟩
theorem Fn.imp {P:Program} {w:World} {K:aGp} {mg:Str->Option Value} {base:Heap} {k:Nat} {x:Str} {ps:List Str} {s s' :OA} (h:Fn P w K mg base k x ps s) (hi:∀ds mh R,s' ds mh R->s ds mh R):Fn P w K mg base k x ps s' :=
 let ⟨f,fd,a,b,c,d⟩:=h;⟨f,fd,a.imp λvs H Q E ⟨μ,mh,ds,R,r1,r2,r3,r4⟩=> ⟨μ,mh,ds,R,r1,r2,hi ds mh R r3,r4⟩,b,c,d⟩
section
variable {X:Cx} {e:Expr} {es:List Expr} {wr:WA} {pos p:Pos} {x:Str}
theorem MB {k:Nat} {ps:List Str} {s:OA} (F:Fn X.prog X.w X.K X.mg X.base k x ps s) (hr:gI k X.A) (ha:LA X (e::es) wr) (hg:Gl X x:=by rfl) (hdb:(x==("__debug__":Str))=false:=by decide)
  (he:starEach (e::es) X.env=(false,eval e X.env)::starEach es X.env:=by rfl) (hpl:(backTo pos (starEach es X.env)).any (·.1)=false:=by rfl):LE X (.Call (.Name x p) (e::es) [] pos) (aJ s wr):=by
 obtain ⟨f,fd,a,b,c,d⟩:=F;exact QO a hr hg b c d ha hdb he hpl
theorem oA {T:String} (hm:X.mg x=none) (hv:bootBuiltins x=some (.type T)) (hg:Gl X x:=by rfl) (hn:x≠ "__name__":=by decide) (hd:(x==("__debug__":Str))=false:=by decide):LE X (.Name x pos) (wC (.ty T)):=QM hg hm hv hn hd
theorem YU {id:String} {f:OA} (hc:cR X (.builtin id) (fA X.K f)) (hm:X.mg x=none) (hv:bootBuiltins x=some (.builtin id)) (ha:LA X (e::es) wr) (hg:Gl X x:=by rfl) (hn:x≠ "__name__":=by decide) (hdb:(x==("__debug__":Str))=false:=by decide)
  (he:starEach (e::es) X.env=(false,eval e X.env)::starEach es X.env:=by rfl) (hpl:(backTo pos (starEach es X.env)).any (·.1)=false:=by rfl):LE X (.Call (.Name x p) (e::es) [] pos) (aJ f wr):=MD hc hg hm hv ha hn hdb he hpl
theorem YT {T:String} {f:OA} (hc:cR X (.type T) (fA X.K f)) (hm:X.mg x=none) (hv:bootBuiltins x=some (.type T)) (ha:LA X (e::es) wr) (hg:Gl X x:=by rfl) (hn:x≠ "__name__":=by decide) (hdb:(x==("__debug__":Str))=false:=by decide)
  (he:starEach (e::es) X.env=(false,eval e X.env)::starEach es X.env:=by rfl) (hpl:(backTo pos (starEach es X.env)).any (·.1)=false:=by rfl):LE X (.Call (.Name x p) (e::es) [] pos) (aJ f wr):=IQ hc hg hm hv ha hn hdb he hpl
theorem aO (i:Nat) (hN:X.N.Nodup) (hi:X.N[i]? =some x:=by rfl) (hx:Loc X.env.scope x:=by first | exact Or.inl rfl | exact Or.inr rfl) (hf:X.fn x=true\/X.env.scope.names.lookup x=some .local:=by first | exact .inl rfl | exact .inr rfl):PG X (.Name x pos) (vK i):=PN hN hi hx hf
theorem dX {op:CmpOp} (b:Expr) (h:op≠ .In:=by decide) (h2:op≠ .NotIn:=by decide):behindInMarks op b=false:=LQ b h h2
end
structure Bl (mg:Str->Option Value):Prop where
 len:mg "len"=none
 range:mg "range"=none
 zip:mg "zip"=none
 all:mg "all"=none
 any:mg "any"=none
 abs:mg "abs"=none
 min:mg "min"=none
 max:mg "max"=none
 isinstance:mg "isinstance"=none
 sorted:mg "sorted"=none
 int:mg "int"=none
 str:mg "str"=none
 bool:mg "bool"=none
 list:mg "list"=none
 tuple:mg "tuple"=none
 set:mg "set"=none
 dict:mg "dict"=none
 sum:mg "sum"=none
 enumerate:mg "enumerate"=none
theorem NU:bootBuiltins "int"=some (.type "int"):=by decide+kernel
theorem NS:bootBuiltins "str"=some (.type "str"):=by decide+kernel
theorem Q7:bootBuiltins "bool"=some (.type "bool"):=by decide+kernel
theorem qP:bootBuiltins "list"=some (.type "list"):=by decide+kernel
theorem iS:bootBuiltins "tuple"=some (.type "tuple"):=by decide+kernel
theorem V2:bootBuiltins "set"=some (.type "set"):=by decide+kernel
theorem fG:bootBuiltins "len"=some (.builtin "len"):=by decide+kernel
theorem V3:bootBuiltins "abs"=some (.builtin "abs"):=by decide+kernel
theorem FN:bootBuiltins "min"=some (.builtin "min"):=by decide+kernel
theorem NT:bootBuiltins "max"=some (.builtin "max"):=by decide+kernel
theorem b8:bootBuiltins "isinstance"=some (.builtin "isinstance"):=by decide+kernel
theorem j4:bootBuiltins "sorted"=some (.builtin "sorted"):=by decide+kernel
def oLt:O2:=λx y mh Q=> match x with
 | .int i=> match y with | .int j=> Q (.bl (decide (i < j))) mh | _=> False
 | .str a=> match y with | .str b=> Q (.bl (decide (a.cps.toList < b.cps.toList))) mh | _=> False
 | _=> False
def oLe:O2:=λx y mh Q=> match x with
 | .int i=> match y with | .int j=> Q (.bl (decide (i<=j))) mh | _=> False
 | .str a=> match y with | .str b=> Q (.bl (!decide (b.cps.toList < a.cps.toList))) mh | _=> False
 | _=> False
def N5:O2:=λx y mh Q=> match x with
 | .int i=> match y with | .int j=> Q (.bl (decide (j < i))) mh | _=> False
 | _=> False
def oGe:O2:=λx y mh Q=> match x with
 | .int i=> match y with | .int j=> Q (.bl (decide (j<=i))) mh | _=> False
 | _=> False
section
variable {X:Cx}
theorem BY (hu:X.A.units+64 < cLine):jB X (compareOp .Lt) (d6 X.K oLt):=by
 intro pins s σ H x y v u Q I rx ry q;obtain ⟨μ,mh,dx,dy,R,RR,ix,iy,q,F⟩:=q
 cases dx with
 | int i=> cases dy with
  | int j=> cases bU ix;cases bU iy;exact YH pins s σ H _ _ v u Q I rx ry ⟨i,j,rfl,rfl,F.here RR q .bl⟩
  | _=> exact False.elim q
 | str i=> cases dy with
  | str j=> cases fU ix;cases fU iy;exact II pins s σ H _ _ v u Q I rx ry ⟨i,j,rfl,rfl,F.here RR q .bl⟩
  | _=> exact False.elim q
 | _=> exact False.elim q
theorem YL (hu:X.A.units+64 < cLine):jB X (compareOp .LtE) (d6 X.K oLe):=by
 intro pins s σ H x y v u Q I rx ry q;obtain ⟨μ,mh,dx,dy,R,RR,ix,iy,q,F⟩:=q
 cases dx with
 | int i=> cases dy with
  | int j=> cases bU ix;cases bU iy;exact YI pins s σ H _ _ v u Q I rx ry ⟨i,j,rfl,rfl,F.here RR q .bl⟩
  | _=> exact False.elim q
 | str i=> cases dy with
  | str j=>
   cases fU ix;cases fU iy;obtain ⟨t,rfl⟩:=rx;obtain ⟨t',rfl⟩:=ry;exact PySem.P.le_str ⟨.bl (!decide (j.cps.toList < i.cps.toList)),H,I,by show _=_;first | rfl | (congr 1;simp),F.here RR q .bl⟩
  | _=> exact False.elim q
 | _=> exact False.elim q
theorem sE (hu:X.A.units+64 < cLine):jB X (compareOp .Gt) (d6 X.K N5):=by
 intro pins s σ H x y v u Q I rx ry q;obtain ⟨μ,mh,dx,dy,R,RR,ix,iy,q,F⟩:=q
 cases dx with
 | int i=> cases dy with
  | int j=> cases bU ix;cases bU iy;exact YJ pins s σ H _ _ v u Q I rx ry ⟨i,j,rfl,rfl,F.here RR q .bl⟩
  | _=> exact False.elim q
 | _=> exact False.elim q
theorem YM (hu:X.A.units+64 < cLine):jB X (compareOp .GtE) (d6 X.K oGe):=by
 intro pins s σ H x y v u Q I rx ry q;obtain ⟨μ,mh,dx,dy,R,RR,ix,iy,q,F⟩:=q
 cases dx with
 | int i=> cases dy with
  | int j=> cases bU ix;cases bU iy;exact YK pins s σ H _ _ v u Q I rx ry ⟨i,j,rfl,rfl,F.here RR q .bl⟩
  | _=> exact False.elim q
 | _=> exact False.elim q
theorem xX {K:aGp} {m:Nat} {u:FV} (mu:∀v σ H Q Q',(∀σ' H',Q σ' H' ->Q' σ' H')->u v σ H Q->u v σ H Q'):∀v σ H Q Q',(∀σ' H',Q σ' H' ->Q' σ' H')->M6 K m u v σ H Q->M6 K m u v σ H Q' :=
 λv σ H Q Q' h ⟨a,xs,e,s,l,q⟩=> ⟨a,xs,e,s,l,mu _ _ _ _ _ h q⟩
end
def got {α:Type} (o:Option α) (k:α->Prop):Prop:=match o with | some a=> k a | none=> False
@[simp] theorem cF {α:Type} (a:α) (k:α->Prop):got (some a) k=k a:=rfl
@[simp] theorem Y7 {α:Type} (k:α->Prop):got none k=False:=rfl
theorem fD {α:Type} (o:Option α) (k:α->Prop):(∃a,o=some a/\k a)↔got o k:=by
 cases o <;> simp [got]
def ZJ:D->Option Bool | .bl b=> some b | _=> none
def asI:D->Option Int | .int i=> some i | _=> none
@[simp] theorem aCe (b:Bool):ZJ (.bl b)=some b:=rfl
@[simp] theorem aA7 (i:Int):asI (.int i)=some i:=rfl
theorem exB (x:D) (P:Bool->Prop):(∃k,x= .bl k/\P k)=got (ZJ x) P:=by
 apply propext
 cases x with
 | bl b=> exact ⟨λ⟨k,e,h⟩=> by cases e;exact h,λh=> ⟨b,rfl,h⟩⟩
 | _=> exact ⟨λ⟨k,e,h⟩=> (by cases e),λh=> False.elim h⟩
theorem exI (x:D) (P:Int->Prop):(∃k,x= .int k/\P k)=got (asI x) P:=by
 apply propext
 cases x with
 | int b=> exact ⟨λ⟨k,e,h⟩=> by cases e;exact h,λh=> ⟨b,rfl,h⟩⟩
 | _=> exact ⟨λ⟨k,e,h⟩=> (by cases e),λh=> False.elim h⟩
section
variable {mh:MH} {Q:DK} {ρ:gV}
@[simp] theorem XU (i:Nat):aC i ρ mh Q↔got ((ρ[i]?).join) λd=> Q d mh:=by
 unfold aC
 cases h:ρ[i]? with
 | none=> simp
 | some o=> cases o <;> simp
@[simp] theorem s_c (d:D):wC d ρ mh Q↔Q d mh:=aDh
@[simp] theorem aB4 (f:O2) (a b:WE):bL f a b ρ mh Q↔a ρ mh λx mh1=> b ρ mh1 λy mh2=> f x y mh2 Q:=aDh
@[simp] theorem s_un (f:O1) (a:WE):v8 f a ρ mh Q↔a ρ mh λx mh1=> f x mh1 Q:=aDh
@[simp] theorem s_nil (R:List D->MH->Prop):aI ρ mh R↔R [] mh:=aDh
@[simp] theorem aBj (a:WE) (r:WA) (R:List D->MH->Prop):aB a r ρ mh R↔a ρ mh λx mh1=> r ρ mh1 λxs mh2=> R (x::xs) mh2:=aDh
@[simp] theorem s_call (f:OA) (a:WA):aJ f a ρ mh Q↔a ρ mh λds mh1=> f ds mh1 Q:=aDh
@[simp] theorem s_tup (a:WA):gJ a ρ mh Q↔a ρ mh λds mh1=> ds.length<=sizeLine/\Q (.tup ds) mh1:=aDh
@[simp] theorem s_lst (a:WA):nM a ρ mh Q↔a ρ mh λds mh1=> ds.length<=sizeLine/\Q (.ref mh1.length) (mh1++[.lst ds]):=aDh
@[simp] theorem aBk (a b:WE):wV a b ρ mh Q↔a ρ mh λx mh1=> got (ZJ x) λc=> if c=true then b ρ mh1 Q else Q (.bl false) mh1:=by unfold wV;simp only [exB]
@[simp] theorem aB5 (a:WE):F8 a ρ mh Q↔a ρ mh λx mh1=> got (ZJ x) λc=> Q (.bl !c) mh1:=by unfold F8;simp only [exB]
@[simp] theorem s_if (t:WT) (a b:WE):wIf t a b ρ mh Q↔t ρ mh λc mh1=> if c=true then a ρ mh1 Q else b ρ mh1 Q:=aDh
@[simp] theorem s_sl (f:OS) (a:WE) (l h:WO):ZS f a l h ρ mh Q↔a ρ mh λx mh1=> l ρ mh1 λlo mh2=> h ρ mh2 λhi mh3=> f x lo hi mh3 Q:=aDh
@[simp] theorem s_no (R:Option Int->MH->Prop):OL ρ mh R↔R none mh:=aDh
@[simp] theorem aB3 (a:WE) (R:Option Int->MH->Prop):pO a ρ mh R↔a ρ mh λx mh1=> got (asI x) λi=> R (some i) mh1:=by unfold pO;simp only [exI]
@[simp] theorem s_mt (T:String) (f:OM) (a:WE) (r:WA):F9 T f a r ρ mh Q↔a ρ mh λx mh1=> wH mh1 T x/\r ρ mh1 λds mh2=> f x ds mh2 Q:=aDh
@[simp] theorem s_lc (own:List Str) (bV:List Nat) (i:WI) (g:WG) (t:WT) (a:WE):KD own bV i g t a ρ mh Q↔i ρ mh λds St mh1=> jZ g t a (o7 own bV ρ) St Q ds [] mh1:=aDh
variable {R:Bool->MH->Prop}
@[simp] theorem s_tst (a:WE):eA a ρ mh R↔a ρ mh λx mh1=> got (ZJ x) λk=> R k mh1:=by unfold eA;simp only [exB]
@[simp] theorem s_tru (a:WE):qX a ρ mh R↔a ρ mh λx mh1=> got (jF mh1 x) λk=> R k mh1:=by
 unfold qX
 have:(λx mh1=> ∃k,jF mh1 x=some k/\R k mh1)=λx mh1=> got (jF mh1 x) λk=> R k mh1:=by
  funext x m;exact propext (fD _ _)
 rw [this]
@[simp] theorem aBl (t u:WT):r6 t u ρ mh R↔t ρ mh λc mh1=> if c=true then u ρ mh1 R else R false mh1:=aDh
@[simp] theorem s_orT (t u:WT):HS t u ρ mh R↔t ρ mh λc mh1=> if c=true then R true mh1 else u ρ mh1 R:=aDh
@[simp] theorem aB6 (t:WT):pP t ρ mh R↔t ρ mh λc mh1=> R (!c) mh1:=aDh
@[simp] theorem XT:yP ρ mh R↔R true mh:=aDh
variable {E:fN}
@[simp] theorem aB7:d5 E ρ mh↔E.nx ρ mh:=aDh
@[simp] theorem RU (t u:WS):bG t u E ρ mh↔t {E with nx:=u E} ρ mh:=aDh
@[simp] theorem s_cnt:SQ E ρ mh↔E.ct ρ mh:=aDh
@[simp] theorem aBg (a:WE):gR a E ρ mh↔a ρ mh λ_ mh1=> E.nx ρ mh1:=aDh
@[simp] theorem s_ret (a:WE):eW a E ρ mh↔a ρ mh E.rt:=aDh
@[simp] theorem s_ifS (t:WT) (a b:WS):gK t a b E ρ mh↔t ρ mh λc mh1=> if c=true then a E ρ mh1 else b E ρ mh1:=aDh
@[simp] theorem X0 (a:WE) (g:WG):cS a g E ρ mh↔a ρ mh λd mh1=> g d ρ λρ' => E.nx ρ' mh1:=aDh
@[simp] theorem aAz (a o i:WE):tV a o i E ρ mh↔a ρ mh λd mh1=> o ρ mh1 λob mh2=> i ρ mh2 λix mh3=> OX ob ix d mh3 λmh4=> E.nx ρ mh4:=aDh
@[simp] theorem s_for (i:WI) (g:WG) (b:WS):nN i g b E ρ mh↔i ρ mh λds St mh1=> lF g b E St ds ρ mh1:=aDh
@[simp] theorem aBe (i:Nat) (d:D) (P:gV->Prop):gN i d ρ P↔P (ρ.set i (some d)):=aDh
@[simp] theorem Z3 (P:gV->Prop):iK [] ρ P↔P ρ:=by simp [iK]
@[simp] theorem XZ (t:WG) (u:RD) (d:D) (r:List D) (P:gV->Prop):bJ t u (d::r) ρ P↔t d ρ λρ' => u r ρ' P:=⟨λ⟨a,b,e,h⟩=> by cases e;exact h,λh=> ⟨d,r,rfl,h⟩⟩
@[simp] theorem s_gT (n:Nat) (u:RD) (ds:List D) (P:gV->Prop):gT n u (.tup ds) ρ P↔ds.length=n/\u ds ρ P:=by
 unfold gT;exact ⟨λ⟨es,e,h⟩=> by cases e;exact h,λh=> ⟨ds,rfl,h⟩⟩
@[simp] theorem aB0 (a:WE) (P:List D->(MH->Prop)->MH->Prop):fJ a ρ mh P↔a ρ mh λx mh1=> got (bP mh1 x) λds=> P ds (λmh' => bP mh' x=some ds) mh1:=by
 unfold fJ
 have:(λx mh1=> ∃ds,bP mh1 x=some ds/\P ds (λmh' => bP mh' x=some ds) mh1)=λx mh1=> got (bP mh1 x) λds=> P ds (λmh' => bP mh' x=some ds) mh1:=by
  funext x m;exact propext (fD _ _)
 rw [this]
@[simp] theorem aB1 (a:WA) (P:List D->(MH->Prop)->MH->Prop):rZ a ρ mh P↔a ρ mh λds mh1=> ∃j,ds=[.int j]/\ -(2^62)<=j/\j<=sizeLine/\P (uQ 0 j.toNat) (λ_=> True) mh1:=aDh
@[simp] theorem aAy (a:WA) (P:List D->(MH->Prop)->MH->Prop):F7 a ρ mh P↔a ρ mh λxs mh1=> match xs with
  | [x,y]=> got (bP mh1 x) λds=> got (bP mh1 y) λes=> ds.length<=sizeLine/\P (lJ ds es) (λmh' => bP mh' x=some ds/\bP mh' y=some es) mh1
  | _=> False:=by
 unfold F7
 have:(λxs mh1=> ∃x y ds es,xs=[x,y]/\bP mh1 x=some ds/\bP mh1 y=some es/\ds.length<=sizeLine/\P (lJ ds es) (λmh' => bP mh' x=some ds/\bP mh' y=some es) mh1)=λxs mh1=> match xs with
  | [x,y]=> got (bP mh1 x) λds=> got (bP mh1 y) λes=> ds.length<=sizeLine/\P (lJ ds es) (λmh' => bP mh' x=some ds/\bP mh' y=some es) mh1
  | _=> False:=by
  funext xs m;apply propext
  match xs with
  | []=> simp
  | [_]=> simp
  | [x,y]=>
   simp only [<-fD];constructor
   ·rintro ⟨x',y',ds,es,e,h1,h2,h⟩;cases e;exact ⟨ds,h1,es,h2,h⟩
   ·rintro ⟨ds,h1,es,h2,h⟩;exact ⟨x,y,ds,es,rfl,h1,h2,h⟩
  | _::_::_::_=> simp
 rw [this]
@[simp high] theorem aA4 (b:Int) (P:Int->Prop):(∃c,[D.int b]=[D.int c]/\P c)↔P b:=⟨λ⟨c,e,h⟩=> by cases e;exact h,λh=> ⟨b,rfl,h⟩⟩
@[simp high] theorem aA3 (a b:Int) (P:Int->Int->Prop):(∃c d,[D.int a,D.int b]=[D.int c,D.int d]/\P c d)↔P a b:=⟨λ⟨c,d,e,h⟩=> by cases e;exact h,λh=> ⟨a,b,rfl,h⟩⟩
@[simp] theorem KS (C:Int->Int->Prop) (g:Int->Int->D) (i j:Int):BZ C g (.int i) (.int j) mh Q↔C i j/\Q (g i j) mh:=by
 unfold BZ;exact ⟨λ⟨a,b,e,f,h⟩=> by cases e;cases f;exact h,λh=> ⟨i,j,rfl,rfl,h⟩⟩
@[simp] theorem s_neg (i:Int):jH (.int i) mh Q↔Q (.int (-i)) mh:=by
 unfold jH;exact ⟨λ⟨a,e,h⟩=> by cases e;exact h,λh=> ⟨i,rfl,h⟩⟩
@[simp] theorem KY (i j:Int):mG (.int i) (.int j) mh Q↔Q (.int (i+j)) mh:=aDh
@[simp] theorem aBn (i j:Str):mG (.str i) (.str j) mh Q↔i.length+j.length<=sizeLine/\Q (.str (i++j)) mh:=aDh
@[simp] theorem aBm (i j:List D):mG (.tup i) (.tup j) mh Q↔i.length+j.length<=sizeLine/\Q (.tup (i++j)) mh:=aDh
theorem KW {n m:Nat} {i j:List D} (h1:mh[n]? =some (.lst i)) (h2:mh[m]? =some (.lst j)):mG (.ref n) (.ref m) mh Q↔(i++j).length<=sizeLine/\Q (.ref mh.length) (mh++[.lst (i++j)]):=by
 show (∃i j,mh[n]? =some (.lst i)/\mh[m]? =some (.lst j)/\EU (i++j) mh Q)↔_;rw [h1,h2];exact ⟨λ⟨a,b,e,f,h⟩=> by cases e;cases f;exact h,λh=> ⟨i,j,rfl,rfl,h⟩⟩
@[simp] theorem KU (ds:List D) (i:Int):iC (.tup ds) (.int i) mh Q↔got (mV ds i) λd=> Q d mh:=by
 unfold iC;rw [<-fD];exact ⟨λ⟨a,e,es,d,h1,h2,h⟩=> by cases e;cases h1;exact ⟨d,h2,h⟩,λ⟨d,h1,h⟩=> ⟨i,rfl,ds,d,rfl,h1,h⟩⟩
@[simp] theorem XX (ds:List D) (i:Int):iC (.fl ds) (.int i) mh Q↔got (mV ds i) λd=> Q d mh:=by
 unfold iC;rw [<-fD];exact ⟨λ⟨a,e,es,d,h1,h2,h⟩=> by cases e;cases h1;exact ⟨d,h2,h⟩,λ⟨d,h1,h⟩=> ⟨i,rfl,ds,d,rfl,h1,h⟩⟩
theorem e7 {n:Nat} {ds:List D} (h:mh[n]? =some (.lst ds)) (i:Int):iC (.ref n) (.int i) mh Q↔got (mV ds i) λd=> Q d mh:=by
 unfold iC;rw [<-fD];have e:bP mh (.ref n)=some ds:=by simp [bP,h]
 exact ⟨λ⟨a,ee,es,d,h1,h2,hq⟩=> by cases ee;rw [e] at h1;cases h1;exact ⟨d,h2,hq⟩,λ⟨d,h1,hq⟩=> ⟨i,rfl,ds,d,e,h1,hq⟩⟩
@[simp] theorem s_ltI (i j:Int):oLt (.int i) (.int j) mh Q↔Q (.bl (decide (i < j))) mh:=aDh
@[simp] theorem s_leI (i j:Int):oLe (.int i) (.int j) mh Q↔Q (.bl (decide (i<=j))) mh:=aDh
@[simp] theorem XY (i j:Int):N5 (.int i) (.int j) mh Q↔Q (.bl (decide (j < i))) mh:=aDh
@[simp] theorem s_geI (i j:Int):oGe (.int i) (.int j) mh Q↔Q (.bl (decide (j<=i))) mh:=aDh
@[simp] theorem s_eqI (i j:Int):oEq (.int i) (.int j) mh Q↔Q (.bl (i==j)) mh:=by simp [oEq,iO,bare,deep,oY]
@[simp] theorem s_neI (i j:Int):N4 (.int i) (.int j) mh Q↔Q (.bl (!(i==j))) mh:=by simp [N4,iO,bare,deep,oY]
@[simp] theorem s_eqB (i j:Bool):oEq (.bl i) (.bl j) mh Q↔Q (.bl (i==j)) mh:=by simp [oEq,iO,bare,deep,oY]
@[simp] theorem s_neB (i j:Bool):N4 (.bl i) (.bl j) mh Q↔Q (.bl (!(i==j))) mh:=by simp [N4,iO,bare,deep,oY]
@[simp] theorem s_eqS (i j:Str):oEq (.str i) (.str j) mh Q↔Q (.bl (i==j)) mh:=by simp [oEq,iO,bare,deep,oY]
@[simp] theorem s_eqT (i j:List D):oEq (.tup i) (.tup j) mh Q↔eU i=true/\eU j=true/\cW i+1<=40/\Q (.bl (fI i j)) mh:=by simp [oEq,iO,bare,deep,oY]
@[simp] theorem aBd (x:D) (T:String):qS [x,.ty T] mh Q↔got (OO mh x) λt=> T∈bW/\Q (.bl (sO t T)) mh:=by
 unfold qS;rw [<-fD];constructor
 ·rintro ⟨x',c,t,e,h1,⟨T',e2,h2,h⟩ | ⟨Ts,e2,_⟩⟩
  ·cases e;cases e2;exact ⟨t,h1,h2,h⟩
  ·cases e;cases e2
 ·rintro ⟨t,h1,h2,h⟩;exact ⟨x,_,t,rfl,h1,.inl ⟨T,rfl,h2,h⟩⟩
@[simp] theorem aBc (x:D) (T U:String):qS [x,.tup [.ty T,.ty U]] mh Q↔got (OO mh x) λt=> T∈bW/\U∈bW/\Q (.bl (sO t T || sO t U)) mh:=by
 unfold qS;rw [<-fD];constructor
 ·rintro ⟨x',c,t,e,h1,⟨T',e2,h2,h⟩ | ⟨Ts,e2,h2,h⟩⟩
  ·cases e;cases e2
  ·cases e;injection e2 with e3
   match Ts,e3 with
   | [T',U'],e3=>
    simp at e3;obtain ⟨rfl,rfl⟩:=e3;exact ⟨t,h1,h2 _ (by simp),h2 _ (by simp),by simpa using h⟩
 ·rintro ⟨t,h1,h2,h3,h⟩;exact ⟨x,_,t,rfl,h1,.inr ⟨[T,U],rfl,by simp [h2,h3],by simpa using h⟩⟩
@[simp] theorem TH (ds:List D):gG [.tup ds] mh Q↔Q (.int ds.length) mh:=by
 unfold gG;exact ⟨λ⟨a,e,h⟩=> by cases e;obtain ⟨es,h1,h⟩:=h;cases h1;exact h,λh=> ⟨_,rfl,ds,rfl,h⟩⟩
@[simp] theorem aBb (ds:List D):gG [.fl ds] mh Q↔Q (.int ds.length) mh:=by
 unfold gG;exact ⟨λ⟨a,e,h⟩=> by cases e;obtain ⟨es,h1,h⟩:=h;cases h1;exact h,λh=> ⟨_,rfl,ds,rfl,h⟩⟩
theorem kF {n:Nat} {ds:List D} (h:mh[n]? =some (.lst ds)):gG [.ref n] mh Q↔Q (.int ds.length) mh:=by
 unfold gG;have e:bP mh (.ref n)=some ds:=by simp [bP,h]
 exact ⟨λ⟨a,ee,hq⟩=> by cases ee;obtain ⟨es,h1,hq⟩:=hq;rw [e] at h1;cases h1;exact hq,λhq=> ⟨_,rfl,ds,e,hq⟩⟩
@[simp] theorem aBa (z:Str):gG [.str z] mh Q↔z.length<=sizeLine/\Q (.int z.length) mh:=by
 unfold gG;exact ⟨λ⟨a,e,h⟩=> by cases e;exact h,λh=> ⟨_,rfl,h⟩⟩
@[simp] theorem s_abs (i:Int):RC [.int i] mh Q↔Q (.int (if i < 0 then -i else i)) mh:=by
 unfold RC;exact ⟨λ⟨a,e,h⟩=> by cases e;exact h,λh=> ⟨i,rfl,h⟩⟩
@[simp] theorem aB9 (i j:Int):DU [.int i,.int j] mh Q↔Q (.int (if j > i then j else i)) mh:=by
 unfold DU;exact ⟨λ⟨a,b,e,h⟩=> by cases e;exact h,λh=> ⟨i,j,rfl,h⟩⟩
@[simp] theorem aB8 (i j:Int):yL [.int i,.int j] mh Q↔Q (.int (if j < i then j else i)) mh:=by
 unfold yL;exact ⟨λ⟨a,b,e,h⟩=> by cases e;exact h,λh=> ⟨i,j,rfl,h⟩⟩
@[simp] theorem ZZ (x:D):HK [x] mh Q↔got (bP mh x) λds=> Q (.ref mh.length) (mh++[.lst ds]):=by
 unfold HK;rw [<-fD];exact ⟨λ⟨a,ds,e,h1,h⟩=> by cases e;exact ⟨ds,h1,h⟩,λ⟨ds,h1,h⟩=> ⟨x,ds,rfl,h1,h⟩⟩
@[simp] theorem XW (x:D):rN [x] mh Q↔got (bP mh x) λds=> Q (.tup ds) mh:=by
 unfold rN;rw [<-fD];exact ⟨λ⟨a,ds,e,h1,h⟩=> by cases e;exact ⟨ds,h1,h⟩,λ⟨ds,h1,h⟩=> ⟨x,ds,rfl,h1,h⟩⟩
@[simp] theorem s_slT (ds:List D) (lo hi:Option Int):YN (.tup ds) lo hi mh Q↔Q (.tup (cutD ds lo hi)) mh:=aDh
theorem RT {n:Nat} {ds:List D} (h:mh[n]? =some (.lst ds)) (lo hi:Option Int):YN (.ref n) lo hi mh Q↔Q (.ref mh.length) (mh++[.lst (cutD ds lo hi)]):=by
 show (∃ds,nO mh (.ref n)=some ds/\Q (.ref mh.length) (mh++[.lst (cutD ds lo hi)]))↔_;have e:nO mh (.ref n)=some ds:=by simp [nO,h]
 exact ⟨λ⟨es,h1,hq⟩=> by rw [e] at h1;cases h1;exact hq,λhq=> ⟨ds,e,hq⟩⟩
theorem uN {n:Nat} {ds:List D} {P:MH->Prop} (h:mh[n]? =some (.lst ds)) (i:Int) (d:D):OX (.ref n) (.int i) d mh P↔got (E6 ds.length i) λj=> P (mh.set n (.lst (ds.set j d))):=by
 unfold OX;rw [<-fD];exact ⟨λ⟨m,es,k,j,e1,e2,h1,h2,hq⟩=> by cases e1;cases e2;rw [h] at h1;cases h1;exact ⟨j,h2,hq⟩,λ⟨j,h1,hq⟩=> ⟨n,ds,i,j,rfl,rfl,h,h1,hq⟩⟩
theorem eO {n:Nat} {es:List D} (h:mh[n]? =some (.lst es)) (d:D):dJ (.ref n) [d] mh Q↔es.length < sizeLine/\Q .cN (mh.set n (.lst (es++[d]))):=by
 unfold dJ;exact ⟨λ⟨m,fs,d',e1,e2,h1,hq⟩=> by cases e1;cases e2;rw [h] at h1;cases h1;exact hq,λhq=> ⟨n,es,d,rfl,rfl,h,hq⟩⟩
@[simp] theorem ZI (d:D) (ds:List D):mV (d::ds) 0=some d:=by
 have:=iA (xs:=d::ds) (j:=0) (v:=d) rfl;simpa using this
theorem gL (mh:MH) (o:MO):(mh++[o])[mh.length]? =some o:=by simp
end
theorem eF {n:Nat} {d:D} {mh:MH} {R:DK} (h:R d mh):Out n d mh R:= .inl h
theorem p8 {d:D} {mh junk:MH} {R:DK} (ok:nK mh) (b:eE mh.length d=true) (h:R d mh):Out mh.length d (mh++junk) R:= .inr (.inl ⟨mh,junk,rfl,aCs _,ok,b,h⟩)
def lx:List Int->List Int->Bool
 | [],[]=> false
 | [],_::_=> true
 | _::_,[]=> false
 | a::as,b::bs=> if a < b then true else if b < a then false else lx as bs
theorem GS:∀x y:List Int,lx x y=true->lx y x=false
 | [],[],h=> by simp [lx] at h
 | [],_::_,h=> by simp [lx]
 | _::_,[],h=> by simp [lx] at h
 | a::as,b::bs,h=> by
  simp only [lx] at h⊢;by_cases h1:a < b
  ·rw [if_neg (by omega),if_pos h1]
  ·rw [if_neg h1] at h;by_cases h2:b < a
   ·rw [if_pos h2] at h;cases h
   ·rw [if_neg h2] at h⊢;rw [if_neg h1];exact GS as bs h
theorem RZ:∀x y z:List Int,lx y x=false->lx z y=false->lx z x=false
 | [],y,z,h1,h2=> by
  cases z with
  | nil=> rfl
  | cons _ _=> rfl
 | a::as,[],z,h1,h2=> by simp [lx] at h1
 | a::as,b::bs,[],h1,h2=> by simp [lx] at h2
 | a::as,b::bs,c::cs,h1,h2=> by
  simp only [lx] at h1 h2⊢;by_cases h3:b < a
  ·rw [if_pos h3] at h1;cases h1
  ·rw [if_neg h3] at h1;by_cases h4:c < b
   ·rw [if_pos h4] at h2;cases h2
   ·rw [if_neg h4] at h2;rw [if_neg (by omega)];by_cases h5:a < c
    ·rw [if_pos h5]
    ·rw [if_neg h5];rw [if_neg (by omega)] at h1 h2;exact RZ as bs cs h1 h2
def kO:D->List Int
 | .int i=> [i]
 | .str z=> z.cps.toList.map (λ(c:Nat)=> (c:Int))++[-1]
 | _=> []
def enc:D->List Int
 | .tup ds=> ds.flatMap kO
 | d=> kO d
theorem EY:∀a b:List Nat,lx (a.map (λ(c:Nat)=> (c:Int))++[-1]) (b.map (λ(c:Nat)=> (c:Int))++[-1])=decide (a < b)
 | [],[]=> by simp [lx]
 | [],b::bs=> by
  have:(-1:Int) < (b:Int):=by omega
  simp [lx,this]
 | a::as,[]=> by
  have h1:¬((a:Int) < -1):=by omega
  have h2:(-1:Int) < (a:Int):=by omega
  simp [lx,h1,h2]
 | a::as,b::bs=> by
  have ih:=EY as bs;simp only [List.map_cons,List.cons_append,lx,ih];by_cases h1:a < b
  ·rw [if_pos (by omega)];exact (decide_eq_true (List.cons_lt_cons_iff.mpr (.inl h1))).symm
  ·rw [if_neg (by omega)];by_cases h2:b < a
   ·rw [if_pos (by omega)];exact (aEr (λq=> by rcases List.cons_lt_cons_iff.mp q with q | q <;> omega)).symm
   ·rw [if_neg (by omega)];have e:a=b:=by omega
    subst e;rw [Bool.eq_iff_iff,decide_eq_true_iff,decide_eq_true_iff,List.cons_lt_cons_iff];simp
inductive Sc where | i | s
def gP:Sc->D->Bool
 | .i,.int _=> true
 | .s,.str _=> true
 | _,_=> false
def eR:List Sc->List D->Bool
 | [],[]=> true
 | c::cs,d::ds=> gP c d && eR cs ds
 | _,_=> false
theorem QD (x:List Int):∀r r' :List Int,lx (x++r) (x++r')=lx r r' :=by
 induction x with
 | nil=> intro r r';rfl
 | cons a as ih=> intro r r';simp [lx,ih]
theorem OR {a b:Str} (h:a.cps.toList=b.cps.toList):a=b:=by
 cases a;cases b;simp at h;simp [h]
theorem sF:∀(a b:List Nat) (r r' :List Int),a≠b->lx ((a.map (λ(c:Nat)=> (c:Int))++[-1])++r) ((b.map (λ(c:Nat)=> (c:Int))++[-1])++r')=lx (a.map (λ(c:Nat)=> (c:Int))++[-1]) (b.map (λ(c:Nat)=> (c:Int))++[-1])
 | [],[],_,_,h=> absurd rfl h
 | [],b::bs,r,r',_=> by
  have:(-1:Int) < (b:Int):=by omega
  simp [lx,this]
 | a::as,[],r,r',_=> by
  have h1:¬((a:Int) < -1):=by omega
  have h2:(-1:Int) < (a:Int):=by omega
  simp [lx,h1,h2]
 | a::as,b::bs,r,r',h=> by
  simp only [List.map_cons,List.cons_append,lx];by_cases h1:(a:Int) < b
  ·simp [h1]
  ·by_cases h2:(b:Int) < a
   ·simp [h1,h2]
   ·have e:a=b:=by omega
    subst e;simp only [h1,h2,if_false];exact sF as bs r r' λq=> h (by rw [q])
theorem QF {c:Sc} {d e:D} (h1:gP c d=true) (h2:gP c e=true) (h:d≠e) (r r' :List Int):lx (kO d++r) (kO e++r')=lx (kO d) (kO e):=by
 cases c <;> cases d <;> simp [gP] at h1 <;> cases e <;> simp [gP] at h2
 ·rename_i i j;have:i≠j:=λq=> h (by rw [q]);simp only [kO,List.cons_append,List.nil_append,lx];by_cases h1:i < j
  ·simp [h1]
  ·have:j < i:=by omega
   simp [h1,this]
 ·rename_i a b;simp only [kO];exact sF _ _ r r' λq=> h (by rw [OR q])
theorem ND {c:Sc} {d e:D} (h1:gP c d=true) (h2:gP c e=true):oY d e=true↔d=e:=by
 cases c <;> cases d <;> simp [gP] at h1 <;> cases e <;> simp [gP] at h2
 ·simp [oY]
 ·simp [oY]
mutual
theorem KI {h:Heap}:∀{d e:D} {u:Value},Vl h d u->Vl h e u->d=e
 | .cN,e,u,p,q=> by
  unfold Vl at p;subst p
  cases e <;> unfold Vl at q <;> first | rfl | (cases q;done) | (obtain ⟨_,q⟩:=q;cases q;done) | (obtain ⟨_,_,q,_⟩:=q;cases q;done)
 | .bl a,e,u,p,q=> by
  unfold Vl at p;subst p
  cases e <;> unfold Vl at q <;> first | (cases q;rfl) | (cases q;done) | (obtain ⟨_,q⟩:=q;cases q;done) | (obtain ⟨_,_,q,_⟩:=q;cases q;done)
 | .int a,e,u,p,q=> by
  unfold Vl at p;obtain ⟨t,rfl⟩:=p
  cases e <;> unfold Vl at q <;> first | (cases q;done) | (obtain ⟨_,q⟩:=q;cases q;rfl) | (obtain ⟨_,q⟩:=q;cases q;done) | (obtain ⟨_,_,q,_⟩:=q;cases q;done)
 | .str a,e,u,p,q=> by
  unfold Vl at p;obtain ⟨t,rfl⟩:=p
  cases e <;> unfold Vl at q <;> first | (cases q;done) | (obtain ⟨_,q⟩:=q;cases q;rfl) | (obtain ⟨_,q⟩:=q;cases q;done) | (obtain ⟨_,_,q,_⟩:=q;cases q;done)
 | .ty _,e,u,p,q=> by unfold Vl at p;exact p.elim
 | .ref _,e,u,p,q=> by unfold Vl at p;exact p.elim
 | .tup as,e,u,p,q=> by
  unfold Vl at p;obtain ⟨a,us,rfl,ht,l⟩:=p
  cases e with
  | tup bs=>
   unfold Vl at q;obtain ⟨b,ws,e,ht2,l2⟩:=q;cases e;obtain ⟨o,h1,_,n,h2⟩:=ht;obtain ⟨o2,h3,_,n2,h4⟩:=ht2;rw [h1] at h3;cases h3;rw [h2] at h4;injection h4 with h5;have h6:us=ws:=by simpa using aE0 Array.toList h5
   subst h6;rw [yS l l2]
  | fl bs=>
   unfold Vl at q;obtain ⟨b,ws,e,ht2,l2⟩:=q;cases e;exact (tB ht2 ht).elim
  | _=> unfold Vl at q;first | (cases q;done) | (obtain ⟨_,q⟩:=q;cases q;done)
 | .fl as,e,u,p,q=> by
  unfold Vl at p;obtain ⟨a,us,rfl,ht,l⟩:=p
  cases e with
  | fl bs=>
   unfold Vl at q;obtain ⟨b,ws,e,ht2,l2⟩:=q;cases e;obtain ⟨o,h1,_,n,h2⟩:=ht;obtain ⟨o2,h3,_,n2,h4⟩:=ht2;rw [h1] at h3;cases h3;rw [h2] at h4;injection h4 with h5;have h6:us=ws:=by simpa using aE0 Array.toList h5
   subst h6;rw [yS l l2]
  | tup bs=>
   unfold Vl at q;obtain ⟨b,ws,e,ht2,l2⟩:=q;cases e;exact (tB ht ht2).elim
  | _=> unfold Vl at q;first | (cases q;done) | (obtain ⟨_,q⟩:=q;cases q;done)
theorem yS {h:Heap}:∀{ds es:List D} {us:List Value},fM h ds us->fM h es us->ds=es
 | [],es,us,p,q=> by unfold fM at p;subst p;cases es with | nil=> rfl | cons=> unfold fM at q;obtain ⟨_,_,e,_⟩:=q;cases e
 | d::ds,es,us,p,q=> by
  unfold fM at p;obtain ⟨u,r,rfl,i,l⟩:=p
  cases es with
  | nil=> unfold fM at q;cases q
  | cons e es=>
   unfold fM at q;obtain ⟨u2,r2,e2,i2,l2⟩:=q;cases e2;rw [KI i i2,yS l l2]
end
mutual
theorem Vl.keep {h h' :Heap} (k:∀b o,h.get? b=some o->h'.get? b=some o):∀(d:D) (u:Value),Vl h d u->Vl h' d u
 | .cN,u,q=> by unfold Vl at*;exact q
 | .bl _,u,q=> by unfold Vl at*;exact q
 | .int _,u,q=> by unfold Vl at*;exact q
 | .str _,u,q=> by unfold Vl at*;exact q
 | .ty _,u,q=> by unfold Vl at*;exact q
 | .ref _,u,q=> by unfold Vl at*;exact q
 | .tup ds,u,q=> by
  unfold Vl at*;obtain ⟨a,us,e,⟨o,h1,h2⟩,l⟩:=q;exact ⟨a,us,e,⟨o,k _ _ h1,h2⟩,fM.keep k ds us l⟩
 | .fl ds,u,q=> by
  unfold Vl at*;obtain ⟨a,us,e,⟨o,h1,h2⟩,l⟩:=q;exact ⟨a,us,e,⟨o,k _ _ h1,h2⟩,fM.keep k ds us l⟩
theorem fM.keep {h h' :Heap} (k:∀b o,h.get? b=some o->h'.get? b=some o):∀(ds:List D) (us:List Value),fM h ds us->fM h' ds us
 | [],us,q=> by unfold fM at*;exact q
 | d::ds,us,q=> by
  unfold fM at*;obtain ⟨u,r,e,i,l⟩:=q;exact ⟨u,r,e,Vl.keep k d u i,fM.keep k ds r l⟩
end
def JS (ds:List D):Prop:=(∃c,∀d∈ds,gP c d=true)\/∃c cs,∀d∈ds,∃es,d= .tup es/\eR (c::cs) es=true
open Classical in
noncomputable def dv (h:Heap) (u:Value):D:=if q:∃d,Vl h d u then q.choose else .cN
theorem oE {h:Heap} {d:D} {u:Value} (p:Vl h d u):dv h u=d:=by
 unfold dv;rw [dif_pos ⟨d,p⟩];exact KI (Exists.choose_spec (⟨d,p⟩:∃d,Vl h d u)) p
noncomputable def ltV (h:Heap) (x y:Keyed):Bool:=lx (enc (dv h x.1)) (enc (dv h y.1))
theorem EZ (h:Heap):TS.Wk (ltV h):=⟨λx y=> GS _ _,λx y z=> RZ _ _ _⟩
theorem mZ {h:Heap}:∀{ds:List D} {us:List Value},fM h ds us->∀u∈us,∃d∈ds,Vl h d u
 | [],us,q,u,hu=> by unfold fM at q;subst q;cases hu
 | d::ds,us,q,u,hu=> by
  unfold fM at q;obtain ⟨w,r,rfl,i,l⟩:=q;rcases aCv.mp hu with rfl | hu
  ·exact ⟨d,aCq,i⟩
  ·obtain ⟨e,he,p⟩:=mZ l u hu;exact ⟨e,aCr _ he,p⟩
open PySem.W in
theorem xQ {prog:Program} {w:World} {A:Around} {Q:Bool->Shared->Prop} {s:Shared} (hu:A.units+32 < cLine):∀(cs:List Sc) (as bs:List D) (us vs:List Value) (i:Nat) (b:Bool),(b=true->i=0->True)->eR cs as=true->eR cs bs=true->fM s.heap as us->fM s.heap bs vs->
  Q (lx (as.flatMap kO) (bs.flatMap kO)) s->KatLex prog w A b false Q (us.zip vs) i s
 | [],[],[],us,vs,i,b,_,_,_,l1,l2,q=> by unfold fM at l1 l2;subst l1 l2;exact kat_nil q
 | [],[],_::_,_,_,_,_,_,_,h2,_,_,_=> by simp [eR] at h2
 | [],_::_,_,_,_,_,_,_,h1,_,_,_,_=> by simp [eR] at h1
 | _::_,[],_,_,_,_,_,_,h1,_,_,_,_=> by simp [eR] at h1
 | _::_,_::_,[],_,_,_,_,_,_,h2,_,_,_=> by simp [eR] at h2
 | c::cs,a::as,d::bs,us,vs,i,b,hb,h1,h2,l1,l2,q=> by
  unfold fM at l1 l2;obtain ⟨u,ur,rfl,p1,l1⟩:=l1;obtain ⟨v,vr,rfl,p2,l2⟩:=l2;simp only [eR,Bool.and_eq_true] at h1 h2;rw [List.zip_cons_cons];have dz:deep a<=0:=by cases c <;> cases a <;> simp [gP] at h1 <;> simp [deep]
  refine kat_cons (oZ (s:=s) 0 dz (by omega) p1 p2 prog w _ _ ?_);simp only [List.flatMap_cons] at q;refine kat_go (λe=> kat_yes ?_) (λe=> kat_no ?_)
  ·have ead:a=d:=(ND h1.1 h2.1).mp e;subst ead;rw [QD] at q;exact xQ hu cs as bs ur vr (i+1) b (λ_ _=> trivial) h1.2 h2.2 l1 l2 q
  ·have nad:a≠d:=λz=> by rw [(ND h1.1 h2.1).mpr z] at e;cases e
   rw [QF h1.1 h2.1 nad] at q
   cases c with
   | i=>
    cases a <;> simp [gP] at h1;cases d <;> simp [gP] at h2;rename_i x y;unfold Vl at p1 p2;obtain ⟨t1,rfl⟩:=p1;obtain ⟨t2,rfl⟩:=p2
    have q' :Q (decide (x < y)) s:=by
     have:lx (kO (.int x)) (kO (.int y))=decide (x < y):=by
      simp only [kO,lx];by_cases hlt:x < y
      ·simp [hlt]
      ·simp [hlt]
     rw [<-this];exact q
    cases hbi:(b && i==0) with
    | true=> exact oneLt_int q'
    | false=> exact kat_one _ _ (lt_int q')
   | s=>
    cases a <;> simp [gP] at h1;cases d <;> simp [gP] at h2;rename_i x y;unfold Vl at p1 p2;obtain ⟨t1,rfl⟩:=p1;obtain ⟨t2,rfl⟩:=p2
    have q' :Q (decide (x.cps.toList < y.cps.toList)) s:=by
     have:lx (kO (.str x)) (kO (.str y))=decide (x.cps.toList < y.cps.toList):=EY _ _;rw [<-this];exact q
    cases hbi:(b && i==0) with
    | true=> exact oneLt_str q'
    | false=> exact kat_one _ _ (lt_str q')
def ZY:Sc->String | .i=> "int" | .s=> "str"
section
variable {prog:Program} {w:World} {A:Around}
theorem rF:∀{cs:List Sc} {ds:List D},eR cs ds=true->ds.length=cs.length
 | [],[],_=> rfl
 | [],_::_,h=> by simp [eR] at h
 | _::_,[],h=> by simp [eR] at h
 | c::cs,d::ds,h=> by simp only [eR,Bool.and_eq_true] at h;simp [rF h.2]
theorem m8 {vs:List Value} {x:Keyed} (h:x∈(pairsOf vs).toList):x=(x.1,x.1)/\x.1∈vs:=by
 rw [pairsOf_toList] at h
 induction vs with
 | nil=> simp at h
 | cons v r ih=>
  rw [List.zip_cons_cons] at h;rcases aCv.mp h with e | e
  ·rw [e];exact ⟨rfl,aCq⟩
  ·obtain ⟨a,b⟩:=ih e;exact ⟨a,aCr _ b⟩
theorem uD {s:Shared} {ds:List D} {vs:List Value} (hu:A.units+40 < cLine) (U:JS ds) (l:fM s.heap ds vs) (h2:2<=vs.length):
  ∃κ,∀h' :Heap,(∀b o,s.heap.get? b=some o->h'.get? b=some o)->TS.nL prog w A {s with heap:=h'} κ (ltV s.heap) (pairsOf vs)/\
   ∀Q' E',Q' κ {s with heap:=h'}->wpAny (model prog w) A (keyKind' vs.toArray) Q' E' {s with heap:=h'}:=by
 rcases U with ⟨c,hc⟩ | ⟨c,cs,hc⟩
 ·refine ⟨oneType',λh' k=> ⟨λx y hx hy Q q=> ?_,λQ' E' q=> ?_⟩⟩
  ·obtain ⟨_,mx⟩:=m8 hx;obtain ⟨_,my⟩:=m8 hy;obtain ⟨d,dm,dp⟩:=mZ l _ mx;obtain ⟨e,em,ep⟩:=mZ l _ my
   have q' :Q (lx (enc d) (enc e)) {s with heap:=h'}:=by
    have:ltV s.heap x y=lx (enc d) (enc e):=by unfold ltV;rw [oE dp,oE ep]
    rw [<-this];exact q
   have hd:=hc d dm;have he:=hc e em;obtain ⟨x1,x2⟩:=x;obtain ⟨y1,y2⟩:=y
   cases c with
   | i=>
    cases d <;> simp [gP] at hd;cases e <;> simp [gP] at he;rename_i i j;unfold Vl at dp ep;obtain ⟨t1,rfl⟩:=dp;obtain ⟨t2,rfl⟩:=ep;refine PySem.W.kat_lt_int ?_
    have:lx (enc (.int i)) (enc (.int j))=decide (i < j):=by
     simp only [enc,kO,lx];by_cases hlt:i < j
     ·simp [hlt]
     ·simp [hlt]
    rw [<-this];exact q'
   | s=>
    cases d <;> simp [gP] at hd;cases e <;> simp [gP] at he;rename_i i j;unfold Vl at dp ep;obtain ⟨t1,rfl⟩:=dp;obtain ⟨t2,rfl⟩:=ep;refine PySem.W.kas_lt_str ?_;have:lx (enc (.str i)) (enc (.str j))=decide (i.cps.toList < j.cps.toList):=EY _ _;rw [<-this];exact q'
  ·have ty:∀v∈vs,PySem.W.Looks (model prog w) h' (typeOf v) (.type (ZY c)):=λv hv=> by
    obtain ⟨d,dm,dp⟩:=mZ l _ hv;have hd:=hc d dm
    cases c with
    | i=> cases d <;> simp [gP] at hd;unfold Vl at dp;obtain ⟨t1,rfl⟩:=dp;exact aF5 rfl
    | s=> cases d <;> simp [gP] at hd;unfold Vl at dp;obtain ⟨t1,rfl⟩:=dp;exact aF5 rfl
   exact PySem.W.kas_kind (s:={s with heap:=h'}) h2 ty (by cases c <;> rfl) (by cases c <;> rfl) q
 ·refine ⟨tuples' true,λh' k=> ⟨λx y hx hy Q q=> ?_,λQ' E' q=> ?_⟩⟩
  ·obtain ⟨_,mx⟩:=m8 hx;obtain ⟨_,my⟩:=m8 hy;obtain ⟨d,dm,dp⟩:=mZ l _ mx;obtain ⟨e,em,ep⟩:=mZ l _ my
   have q' :Q (lx (enc d) (enc e)) {s with heap:=h'}:=by
    have:ltV s.heap x y=lx (enc d) (enc e):=by unfold ltV;rw [oE dp,oE ep]
    rw [<-this];exact q
   obtain ⟨as,rfl,ha⟩:=hc d dm;obtain ⟨bs,rfl,hb⟩:=hc e em;obtain ⟨x1,x2⟩:=x;obtain ⟨y1,y2⟩:=y;unfold Vl at dp ep;obtain ⟨a,us,ea,⟨o,ho,hcl,n,hd⟩,lu⟩:=dp;obtain ⟨b,ws,eb,⟨o2,ho2,hcl2,n2,hd2⟩,lw⟩:=ep;have ea' :x1=Value.ref a:=ea;have eb' :y1=Value.ref b:=eb;subst ea' eb';refine PySem.W.kat_lt (s:={s with heap:=h'}) (k _ _ ho) hd (k _ _ ho2) hd2 ?_;have z1:=bN lu;have z2:=bN lw;have z3:=rF ha;have z4:=rF hb;have zz:decide (us.toArray.size < ws.toArray.size)=false:=aEr (by simp only [List.size_toArray];omega);rw [zz];exact xQ (s:={s with heap:=h'}) (by omega) (c::cs) as bs us ws 0 true (λ_ _=> trivial) ha hb (fM.keep k as us lu) (fM.keep k bs ws lw) q'
  ·have fs:∃fs:List Value,PySem.W.KatTups h' vs fs/\fs.length=vs.length/\∀v∈fs,PySem.W.Looks (model prog w) h' (typeOf v) (.type (ZY c)):=by
    clear q h2
    have go:∀(ds:List D) (vs:List Value),(∀d∈ds,∃es,d= .tup es/\eR (c::cs) es=true)->fM s.heap ds vs->∃fs:List Value,PySem.W.KatTups h' vs fs/\fs.length=vs.length/\∀v∈fs,PySem.W.Looks (model prog w) h' (typeOf v) (.type (ZY c)):=by
     intro ds
     induction ds with
     | nil=> intro vs _ l;unfold fM at l;subst l;exact ⟨[],PySem.W.KatTups.nil,rfl,λv hv=> by cases hv⟩
     | cons d r ih=>
      intro vs hc l;unfold fM at l;obtain ⟨u,ur,rfl,p,l⟩:=l;obtain ⟨fs,f1,f2,f3⟩:=ih ur (λe he=> hc e (aCr _ he)) l;obtain ⟨es,rfl,he⟩:=hc d aCq;unfold Vl at p;obtain ⟨a,us,rfl,⟨o,ho,hcl,n,hd⟩,lu⟩:=p
      cases es with
      | nil=> simp [eR] at he
      | cons e0 er=>
       unfold fM at lu;obtain ⟨u0,u1,rfl,p0,_⟩:=lu;simp only [eR,Bool.and_eq_true] at he;refine ⟨u0::fs,PySem.W.KatTups.cons (k _ _ ho) hcl hd (by simp) f1,by simp [f2],λv hv=> ?_⟩;rcases aCv.mp hv with rfl | hv
       ·cases c with
        | i=> cases e0 <;> simp [gP] at he;unfold Vl at p0;obtain ⟨t1,rfl⟩:=p0;exact aF5 rfl
        | s=> cases e0 <;> simp [gP] at he;unfold Vl at p0;obtain ⟨t1,rfl⟩:=p0;exact aF5 rfl
       ·exact f3 v hv
    exact go ds vs hc l
   obtain ⟨fs,f1,f2,f3⟩:=fs;refine PySem.W.kat_kind (s:={s with heap:=h'}) f1 (by omega) f3 (by cases c <;> rfl) ?_;have:(Value.type (ZY c) !=Value.type "tuple")=true:=by cases c <;> rfl
   rw [this];exact q
end
theorem jV {α β:Type} (f:α->β):∀{l:List β} {m:List β},l.Perm m->∀t:List α,m=t.map f->∃t' :List α,t'.Perm t/\t'.map f=l:=by
 intro l m h
 induction h with
 | nil=> intro t e;cases t <;> simp at e;exact ⟨[],.refl _,rfl⟩
 | cons x _ ih=>
  intro t e
  cases t with
  | nil=> simp at e
  | cons a r=>
   simp at e;obtain ⟨t',p,q⟩:=ih r e.2;exact ⟨a::t',p.cons a,by simp [q,e.1]⟩
 | swap x y l=>
  intro t e
  match t,e with
  | [],e=> simp at e
  | [_],e=> simp at e
  | a::b::r,e=>
   simp at e;exact ⟨b::a::r,.swap _ _ _,by simp [e]⟩
 | trans _ _ ih1 ih2=>
  intro t e;obtain ⟨t1,p1,q1⟩:=ih2 t e;obtain ⟨t2,p2,q2⟩:=ih1 t1 q1.symm;exact ⟨t2,p2.trans p1,q2⟩
def AS:OA:=λxs mh Q=> ∃x ds,xs=[x]/\nO mh x=some ds/\ds.length < 4000/\JS ds/\
 ∀ds',ds'.Perm ds->ds'.Pairwise (λd e=> lx (enc e) (enc d)=false)->Q (.ref mh.length) (mh++[.lst ds'])
theorem yK {ds:List D} (U:JS ds):eU ds=true:=by
 have sc:∀{cs:List Sc} {es:List D},eR cs es=true->eU es=true:=λ{cs}=> by
  induction cs with
  | nil=> intro es h;cases es with | nil=> rfl | cons=> simp [eR] at h
  | cons c cs ih=>
   intro es h
   cases es with
   | nil=> simp [eR] at h
   | cons e es=>
    simp only [eR,Bool.and_eq_true] at h;simp only [eU,ih h.2,Bool.and_true];cases c <;> cases e <;> simp [gP] at h <;> rfl
 rcases U with ⟨c,hc⟩ | ⟨c,cs,hc⟩
 ·induction ds with
  | nil=> rfl
  | cons d r ih=>
   have hd:=hc d aCq;simp only [eU,ih λe he=> hc e (List.mem_cons_of_mem _ he),Bool.and_true];cases c <;> cases d <;> simp [gP] at hd <;> rfl
 ·induction ds with
  | nil=> rfl
  | cons d r ih=>
   obtain ⟨es,rfl,he⟩:=hc d aCq;simp only [eU,ih λe he=> hc e (List.mem_cons_of_mem _ he),Bool.and_true];simpa [bare] using sc he
structure Tri where
 d:D
 v:V
 u:Value
theorem S1 {K:aGp} {μ:List Addr} {H:Hp} {h:Heap}:∀{ds:List D} {vs:List V} {us:List Value},IsL K μ H ds vs->Vals vs us->fM h ds us->∃ts:List Tri,ts.map (·.d)=ds/\ts.map (·.v)=vs/\ts.map (·.u)=us/\∀t∈ts,Is K μ H t.d t.v/\RelV t.v t.u/\Vl h t.d t.u
 | [],vs,us,l,r,q=> by unfold IsL at l;subst l;cases r;exact ⟨[],rfl,rfl,rfl,λt ht=> by cases ht⟩
 | d::ds,vs,us,l,r,q=> by
  unfold IsL at l;obtain ⟨v,vr,rfl,i,l⟩:=l
  cases r with
  | @cons _ u0 _ ur0 r1 r2=>
   unfold fM at q;obtain ⟨w,wr,e,p,q⟩:=q;injection e with e1 e2;subst e1 e2;obtain ⟨ts,a,b,c,f⟩:=S1 l r2 q
   exact ⟨⟨d,v,u0⟩::ts,by simp [a],by simp [b],by simp [c],λt ht=> by
    rcases aCv.mp ht with rfl | ht
    ·exact ⟨i,r1,p⟩
    ·exact f t ht⟩
theorem zQ {K:aGp} {μ:List Addr} {H:Hp}:∀{ts:List Tri},(∀t∈ts,Is K μ H t.d t.v)->IsL K μ H (ts.map (·.d)) (ts.map (·.v))
 | [],_=> by simp [IsL]
 | t::ts,h=> by
  simp only [List.map_cons];unfold IsL;exact ⟨_,_,rfl,h t aCq,zQ λx hx=> h x (aCr _ hx)⟩
theorem tX:∀{ts:List Tri},(∀t∈ts,RelV t.v t.u)->Vals (ts.map (·.v)) (ts.map (·.u))
 | [],_=> .nil
 | t::ts,h=> .cons (h t aCq) (tX λx hx=> h x (aCr _ hx))
section
variable {X:Cx}
theorem yD (hu:X.A.units+64 < cLine):cR X (.builtin "sorted") (fA X.K AS):=by
 intro pins s σ H xs us Q I r q;obtain ⟨μ,mh,ds,R,RR,il,⟨x,es,rfl,e,h64,U,q⟩,F⟩:=q;obtain ⟨v,rfl,iv⟩:=lH il;obtain ⟨a,vs,rfl,sq,l⟩:=vA RR iv e;obtain ⟨u,rfl,ru⟩:=vals1 r;cases ru;obtain ⟨aL,rv,pl,hz⟩:=I.list sq;have vl:=qY I es (yK U) l rv;have hlen:aL.length=es.length:=bN vl;have u2:X.A.in1.in1.units+40 < cLine:=by show X.A.units+1+1+40 < _;omega
 have ask:∃κ,2<=aL.length->∀h' :Heap,(∀b o,s.heap.get? b=some o->h'.get? b=some o)->TS.nL X.prog X.w X.A.in1.in1 {s with heap:=h'} κ (ltV s.heap) (pairsOf aL)/\
   ∀Q' E',Q' κ {s with heap:=h'}->wpAny (model X.prog X.w) X.A.in1.in1 (keyKind' aL.toArray) Q' E' {s with heap:=h'}:=by
  by_cases h2:2<=aL.length
  ·obtain ⟨κ,hk⟩:=uD (prog:=X.prog) (w:=X.w) (A:=X.A.in1.in1) u2 U vl h2;exact ⟨κ,λ_=> hk⟩
  ·exact ⟨general',λz=> absurd z h2⟩
 obtain ⟨κ,ask⟩:=ask;refine TS.KP (κ:=κ) (EZ s.heap) pl.isList (by omega) ask λout p1 p2=> ?_;obtain ⟨ts,t1,t2,t3,t4⟩:=S1 l rv vl;rw [<-t3] at p1;obtain ⟨ts',p3,p4⟩:=jV (·.u) p1 ts rfl;have h4:∀t∈ts',Is X.K μ H t.d t.v/\RelV t.v t.u/\Vl s.heap t.d t.u:=λt ht=> t4 t (p3.mem_iff.mp ht);have pd:(ts'.map (·.d)).Perm es:=by rw [<-t1];exact p3.map _
 have pw:(ts'.map (·.d)).Pairwise (λd e=> lx (enc e) (enc d)=false):=by
  rw [<-p4] at p2;rw [List.pairwise_map] at p2⊢;refine p2.imp_of_mem λ{t t'} m m' hh=> ?_;have e1:dv s.heap t.u=t.d:=oE (h4 t m).2.2;have e2:dv s.heap t'.u=t'.d:=oE (h4 t' m').2.2;unfold ltV at hh;rw [e1,e2] at hh;exact hh
 obtain ⟨ep,he⟩:=sortedAll_at s.heap aL out.toArray
 have ln:(ts'.map (·.v)).length<=sizeLine:=by
  have:=p3.length_eq;have t2' :=aE0 List.length t2;simp at t2' ⊢;omega
 have I1:Inv X pins σ (upd H (s.heap.objs.size+1) (.lst (ts'.map (·.v)))) {s with heap:=sortedAll s.heap aL out.toArray}:=
  I.laid (t' :=s.toks) (λb o hb=> sortedAll_old hb) (aGk _) ⟨ln,out,ep,by rw [<-p4];exact tX λt ht=> (h4 t ht).2.1,he⟩
 exact ⟨.ref (s.heap.objs.size+1),_,I1,rfl,hZ RR F (zQ λt ht=> (h4 t ht).1) (q _ pd pw) _ (I.cG.fresh (aGk _))⟩
end
theorem dD {g:WG} {b:WS} {E:fN} {St:MH->Prop} (Pv:Nat->gV->MH->Prop) (ds:List D) (hst:∀i ρ mh,Pv i ρ mh->St mh)
  (hs:∀i d ρ mh (N:gV->MH->Prop),ds[i]? =some d->Pv i ρ mh->(∀ρ' mh',Pv (i+1) ρ' mh' ->N ρ' mh')->g d ρ λρ2=> b {E with nx:=N,ct:=N,bk:=E.nx} ρ2 mh)
  (hd:∀ρ mh,Pv ds.length ρ mh->E.nx ρ mh) {ρ:gV} {mh:MH} (h0:Pv 0 ρ mh):lF g b E St ds ρ mh:=by
 have go:∀(k i:Nat),i+k=ds.length->∀ρ mh,Pv i ρ mh->lF g b E St (ds.drop i) ρ mh:=by
  intro k
  induction k with
  | zero=>
   intro i hi ρ mh p;have:i=ds.length:=by omega
   subst this;rw [List.drop_of_length_le (Nat.le_refl _)];exact ⟨hst _ _ _ p,hd ρ mh p⟩
  | succ k ih=>
   intro i hi ρ mh p;have hlt:i < ds.length:=by omega
   rw [List.drop_eq_getElem_cons hlt];exact ⟨hst _ _ _ p,hs i ds[i] ρ mh _ (by simp [hlt]) p λρ' mh' p' => ih (i+1) (by omega) ρ' mh' p'⟩
 have:=go ds.length 0 (by simp) ρ mh h0;simpa using this
theorem NO {g:WG} {t:WT} {w:WE} {ρe:gV} {St:MH->Prop} {Q:DK} (Pv:Nat->List D->MH->Prop) (ds:List D) (hst:∀i ys mh,Pv i ys mh->St mh)
  (hs:∀i d ys mh (N:List D->MH->Prop),ds[i]? =some d->Pv i ys mh->(∀ys' mh',Pv (i+1) ys' mh' ->N ys' mh')->g d ρe λρ2=> t ρ2 mh λb mh3=> if b=true then w ρ2 mh3 λy mh4=> N (ys++[y]) mh4 else N ys mh3)
  (hd:∀ys mh,Pv ds.length ys mh->Q (.ref mh.length) (mh++[.lst ys])) {mh:MH} (h0:Pv 0 [] mh):jZ g t w ρe St Q ds [] mh:=by
 have go:∀(k i:Nat),i+k=ds.length->∀ys mh,Pv i ys mh->jZ g t w ρe St Q (ds.drop i) ys mh:=by
  intro k
  induction k with
  | zero=>
   intro i hi ys mh p;have:i=ds.length:=by omega
   subst this;rw [List.drop_of_length_le (Nat.le_refl _)];exact ⟨hst _ _ _ p,hd ys mh p⟩
  | succ k ih=>
   intro i hi ys mh p;have hlt:i < ds.length:=by omega
   rw [List.drop_eq_getElem_cons hlt];exact ⟨hst _ _ _ p,hs i ds[i] ys mh (λys' mh' => jZ g t w ρe St Q (ds.drop (i+1)) ys' mh') (by simp [hlt]) p λys' mh' p' => ih (i+1) (by omega) ys' mh' p'⟩
 have:=go ds.length 0 (by simp) [] mh h0;simpa using this
theorem yY {lo:Int} {n i:Nat} {d:D} (h:(uQ lo n)[i]? =some d):i < n/\d= .int (lo+i):=by
 simp only [uQ,List.getElem?_map] at h;obtain ⟨k,hk,rfl⟩:=aDr.mp h;obtain ⟨hi,rfl⟩:=aCn.mp hk;simp at hi;exact ⟨hi,by simp⟩
@[simp] theorem Z4 (lo:Int) (n:Nat):(uQ lo n).length=n:=by simp [uQ]
def sV (mh:MH) (b:Nat):Prop:=∃c m:Int,mh[b]? =some (.lst [.int c,.int m])/\0<=c/\0<=m/\m < 2147483629
theorem sV.lt {mh:MH} {b:Nat} (h:sV mh b):b < mh.length:=let ⟨_,_,e,_⟩:=h;(aCn.mp e).1
def dE (mh:MH) (b:Nat) (mh' :MH):Prop:=sV mh' b/\∃o,mh' =mh.set b o
theorem dE.len {mh mh' :MH} {b:Nat} (h:dE mh b mh'):mh'.length=mh.length:=by obtain ⟨_,o,rfl⟩:=h;simp
theorem dE.trans {mh mh1 mh2:MH} {b:Nat} (h:dE mh b mh1) (h' :dE mh1 b mh2):dE mh b mh2:=by
 obtain ⟨_,o,rfl⟩:=h;obtain ⟨b2,o2,rfl⟩:=h';exact ⟨b2,o2,by simp⟩
theorem dE.refl {mh:MH} {b:Nat} (h:sV mh b):dE mh b mh:=by
 refine ⟨h,mh[b]'h.lt,?_⟩;simp
theorem dE.other {mh mh' :MH} {b n:Nat} (h:dE mh b mh') (hn:n≠b):mh'[n]? =mh[n]? :=by
 obtain ⟨_,o,rfl⟩:=h;exact List.getElem?_set_ne (aDw hn)
theorem sV.zB {mh:MH} {b:Nat} (h:sV mh b) (k:Nat):∀o,mh[b]? =some o->zB k o=true:=by
 obtain ⟨c,m,e,_⟩:=h;intro o ho;rw [e] at ho;cases ho;rfl
theorem dE.Z6 {mh mh' :MH} {b:Nat} (h:dE mh b mh') (ok:nK mh):nK mh' :=by
 have hb:=h.1;obtain ⟨_,o,e⟩:=h;intro x hx;have hl:mh'.length=mh.length:=by rw [e];simp
 obtain ⟨n,hn⟩:=aD3.mp hx;by_cases hnb:n=b
 ·subst hnb;exact hb.zB _ x hn
 ·rw [e,List.getElem?_set_ne (Ne.symm hnb)] at hn;rw [hl];exact ok x (aCz hn)
def lE:OA:=λds mh Q=> ∃b many,ds=[.ref b,.int many]/\1<=many/\many<=1073741789/\sV mh b/\∀r mh',0<=r->r < many->dE mh b mh' ->Q (.int r) mh'
def ED:OA:=λds mh Q=> ∃(ns:List Int) (a:Int),ds=[.fl (ns.map .int),.int a]/\ns.length<=63/\0<=a/\a<=100/\∀mh',(∃o,mh' =mh++[o])->sV mh' mh.length->Q (.ref mh.length) mh'
def iW (K:aGp) (x:Str) (st:Stmt):Prop:=∃f oc od kV doc pm an cd ct sl,PySem.W.nsIn K mainGlobals x=some (some (.ref f))/\
 K.lookup f=some ⟨oc,od,.func (PySem.W.fnOf x x (gB st) (dB st) (aG st) .none kV doc pm an cd ct),sl⟩/\PySem.W.codeIn K cd x=true/\PySem.W.keepIn K (.ref f)=true
theorem aA5 {K:aGp} {x:Str} {st:Stmt} {f:Addr} {oc:Value} {od an:Option Addr} {sl:Array (Option Value)} {kV doc pm cd ct:Value} (a:PySem.W.nsIn K mainGlobals x=some (some (.ref f)))
  (l:K.lookup f=some ⟨oc,od,.func (PySem.W.fnOf x x (gB st) (dB st) (aG st) .none kV doc pm an cd ct),sl⟩) (c:PySem.W.codeIn K cd x=true) (k:PySem.W.keepIn K (.ref f)=true):iW K x st:=⟨f,oc,od,kV,doc,pm,an,cd,ct,sl,a,l,c,k⟩
def eI (x:Str) (st:Stmt) (ps:List Str):Prop:=∀(kV doc pm:Value) (an:Option Addr) (cdv ct:Value) (us:List Value),us.length=ps.length->bindArgs (PySem.W.fnOf x x (gB st) (dB st) (aG st) .none kV doc pm an cdv ct) ⟨us,[]⟩=pure (ps.zip us)
section
variable {P:Program} {w:World} {K:aGp} {mg:Str->Option Value} {base:Heap} {h:Heap}
theorem VW {x:Str} {st:Stmt} {N ps:List Str} {k:Nat} {s:OA} {wB:WS} (Dx:iW K x st) (KX:K.In h) (G:h.Ns mainGlobals mg) (bd:eI x st ps) (S:bH N ps (aG st)) (len:∀ds mh R,s ds mh R->ds.length=ps.length)
  (hb:∀(f:Addr) (cdv:Value) (A:Around) (outer:List Env) (s:Shared) (H:Hp) (E:XK),gI k (A.deeper (envOfC x (aG st) s.heap.objs.size f cdv))->
   JZ (wL DX P w K mg base N x (aG st) f cdv A outer s H E).QA (dB st) wB)
  (hw:∀ds mh R,nK mh->dI mh.length ds=true->s ds mh R->wB {nx:=λ_ mh1=> Out mh.length .cN mh1 R,rt:=λd mh1=> Out mh.length d mh1 R} (aQ N ds) mh):Fn P w K mg base (k+1) x ps s:=by
 obtain ⟨f,oc,od,kV,doc,pm,an,cd,ct,sl,a,l,c,kp⟩:=Dx;have F:=FD (st:=st) l c kp;exact ⟨f,_,Y9 F S len (λcdv A outer s H E hr=> hb f cdv A outer s H E hr) hw,aGm KX G a,kp,F.binds bd⟩
theorem NA {x:Str} {st:Stmt} {ps:List Str} {k:Nat} (Dx:iW K x st) (KX:K.In h) (G:h.Ns mainGlobals mg) (bd:eI x st ps):Fn P w K mg base k x ps (λ_ _ _=> False):=by
 obtain ⟨f,oc,od,kV,doc,pm,an,cd,ct,sl,a,l,c,kp⟩:=Dx;have F:=FD (st:=st) l c kp;refine ⟨f,_,⟨λvs H Q E q=> ?_,λA outer s H args us vs Q E _ _ _ _ q=> ?_⟩,aGm KX G a,kp,F.binds bd⟩
 ·obtain ⟨_,_,_,_,_,_,q,_⟩:=q;exact q.elim
 ·obtain ⟨_,_,_,_,_,_,q,_⟩:=q;exact q.elim
end
def wD:OA:=λds mh Q=> ∃ns:List Int,ds=[.fl (ns.map .int)]/\ns.length<=63/\∀mh',Q (.bl true) mh'
theorem CS {K:aGp} {μ:List Addr} {H:Hp}:∀ns:List Int,IsL K μ H (ns.map .int) (ns.map .int)
 | []=> by simp [IsL]
 | n::ns=> by simp only [List.map_cons];unfold IsL;exact ⟨_,_,rfl,.int,CS ns⟩
theorem UY {K:aGp} {H:Hp} {a:Addr} {ns:List Int} (hl:ns.length<=63) (hO:RE H) (hS:pD K H a (ns.map V.int)):KN K wD [.ref a] H (λv _=> v= .bl true) λ_ _ _=> False:=by
 have sf:N9 K H a (ns.map V.int):=by
  rcases hS with (hS | hS) | hS
  ·rcases hO a with z | ⟨o,xs,z⟩
   ·rw [hS] at z;cases z
   ·rw [hS] at z;cases z
  ·exact .inl hS
  ·exact .inr hS
 refine ⟨[],[],[.fl (ns.map .int)],λd _=> d= .bl true,⟨rfl,List.nodup_nil,λn a o h1=> by simp at h1⟩,?_,⟨ns,rfl,hl,λ_=> rfl⟩,λd mh' q μ' v H' _ _ I=> ?_⟩
 ·refine nB ?_;unfold Is;exact ⟨a,_,rfl,sf,CS ns⟩
 ·subst q;exact G4 I
theorem walkD {l:PySem.W.OpenLaw} {k:Nat} {q:Program} {loose:List Str} {XP:(Str->Option Value)->Heap->Prop} {YP:World->Heap->Prop} {d:DefRec} {K:Params->aGp} {x:Str} (hn:l.most=some 63) (hdf:d.params.defaults=[]) (hr:gI k callerA)
  (hY:∀(w:World) (h:Heap),YP w h->(K w.params).In h)
  (F:∀(w:World) (mg:Str->Option Value) (fa:Addr) (h:Heap),(K w.params).In h->h.Ns mainGlobals mg->mg d.name=some (.ref fa)->
   ∃fd:FuncData,(∀(s:Shared) (u:Value),BindsTo s fd ⟨[u],[]⟩ [(x,u)])/\∀base:Heap,(K w.params).In base->base.Ns mainGlobals mg->jL l.prog w (K w.params) mg base DX k fa fd [x] (KN (K w.params) wD)):
  PySem.W.WalkO q loose XP YP l.row.toRowW d [] (λf vs=> PySem.call f vs):=
 L2.OJ (n:=63) (k:=k) (x:=x) (CX:=λ_=> DX) (sp:=λw=> KN (K w.params) wD) hn (by decide) hdf hr hY F (λ_ _ a ns hl hO hS=> UY hl hO hS) λ_ _ _ _ _ z=> z
theorem U0 {P:Program} {w:World} {K:aGp} {mg:Str->Option Value} {h:Heap} {st:Stmt} {x:Str} {N:List Str} {k:Nat} {fa:Addr} (KX:K.In h) (G:h.Ns mainGlobals mg) (hfa:mg "law"=some (.ref fa)) (Dx:iW K "law" st) (S:bH N [x] (aG st)) (bd:eI "law" st [x])
  (hb:∀base:Heap,∃wB:WS,(∀(f:Addr) (cdv:Value) (A:Around) (outer:List Env) (s:Shared) (H:Hp) (E:XK),gI k (A.deeper (envOfC "law" (aG st) s.heap.objs.size f cdv))->
   JZ (wL DX P w K mg base N "law" (aG st) f cdv A outer s H E).QA (dB st) wB)/\
   ∀ds mh R,nK mh->dI mh.length ds=true->wD ds mh R->wB {nx:=λ_ mh1=> Out mh.length .cN mh1 R,rt:=λd mh1=> Out mh.length d mh1 R} (aQ N ds) mh):
  ∃fd:FuncData,(∀(s:Shared) (u:Value),BindsTo s fd ⟨[u],[]⟩ [(x,u)])/\∀base:Heap,jL P w K mg base DX (k+1) fa fd [x] (KN K wD):=by
 obtain ⟨f,oc,od,kV,doc,pm,an,cd,ct,sl,a,l,c,kp⟩:=Dx;have e:=hfa.symm.trans (aGm KX G a);cases e;have F:=FD (st:=st) l c kp;refine ⟨_,λs u=> .of_eq (bd kV doc pm an cd ct [u] rfl),λbase=> ?_⟩;obtain ⟨wB,h1,h2⟩:=hb base;exact Y9 F S (λds mh R hs=> by obtain ⟨ns,rfl,_⟩:=hs;rfl) (λcdv A outer s H E hr=> h1 fa cdv A outer s H E hr) h2
theorem bl_mk {K:aGp} {h:Heap} {mg:Str->Option Value} (KX:K.In h) (G:h.Ns mainGlobals mg)
  (z1:PySem.W.nsIn K mainGlobals "len"=some none) (z2:PySem.W.nsIn K mainGlobals "range"=some none) (z3:PySem.W.nsIn K mainGlobals "zip"=some none) (z4:PySem.W.nsIn K mainGlobals "all"=some none) (z5:PySem.W.nsIn K mainGlobals "any"=some none) (z6:PySem.W.nsIn K mainGlobals "abs"=some none) (z7:PySem.W.nsIn K mainGlobals "min"=some none) (z8:PySem.W.nsIn K mainGlobals "max"=some none) (z9:PySem.W.nsIn K mainGlobals "isinstance"=some none) (z10:PySem.W.nsIn K mainGlobals "sorted"=some none) (z11:PySem.W.nsIn K mainGlobals "int"=some none) (z12:PySem.W.nsIn K mainGlobals "str"=some none) (z13:PySem.W.nsIn K mainGlobals "bool"=some none) (z14:PySem.W.nsIn K mainGlobals "list"=some none) (z15:PySem.W.nsIn K mainGlobals "tuple"=some none) (z16:PySem.W.nsIn K mainGlobals "set"=some none) (z17:PySem.W.nsIn K mainGlobals "dict"=some none) (z18:PySem.W.nsIn K mainGlobals "sum"=some none) (z19:PySem.W.nsIn K mainGlobals "enumerate"=some none):Bl mg:=
 ⟨aD9 KX G z1,aD9 KX G z2,aD9 KX G z3,aD9 KX G z4,aD9 KX G z5,aD9 KX G z6,aD9 KX G z7,aD9 KX G z8,aD9 KX G z9,aD9 KX G z10,aD9 KX G z11,aD9 KX G z12,aD9 KX G z13,aD9 KX G z14,aD9 KX G z15,aD9 KX G z16,aD9 KX G z17,aD9 KX G z18,aD9 KX G z19⟩
theorem E9 {M:Model} {A:Around} {E:Value->Shared->Prop} {s:Shared} {a b:Value} {Q:Value->Shared->Prop} (ha:s.TypeIs a "list") (hb:s.TypeIs b "list") (hc:wpAny M A (call (.builtin "list.__iadd__") [a,b]) Q E s):wpAny M A (inplaceOp .Add a b) Q E s:=by
 refine aDm (aCm (aEk ha (aCm (aFo (show fillsInplaceSlot (.type "list") "add" true=pure false from rfl) ?_))));show wpAny M A (if false=true then _ else _) Q E s;rw [if_neg Bool.false_ne_true];exact aCm (wpAny_binaryOp1_none ha hb rfl (aCm (aFo (show seqSlot? (Value.type "list") (dunderI "add")=pure (some (Value.builtin "list.__iadd__")) from rfl) (aCm (aE2 hc)))))
section
variable {X:Cx}
theorem MP:jB X (inplaceOp .Add) (λx y H Q=> ∃l b xs zs,x= .ref l/\y= .ref b/\H l=some (.lst xs)/\H b=some (.lst zs)/\xs.length+zs.length<=sizeLine/\Q (.ref l) (upd H l (.lst (xs++zs)))):=by
 intro pins s σ H x y v u Q I rx ry h;obtain ⟨l,b,xs,zs,rfl,rfl,hH,hB,hz,q⟩:=h;cases rx;cases ry;obtain ⟨z,aL,n,r,hl,e⟩:=I.CB hH;obtain ⟨z2,its2,n2,r2,hl2,e2⟩:=I.CB hB;have hsz:aL.toArray.size+its2.toArray.size<=sizeLine:=by rw [List.size_toArray,List.size_toArray];omega
 have hlong:¬(!aL.toArray.isEmpty && Builtin.List.listTooLong (aL.toArray.size+its2.toArray.size))=true:=by
  rw [u4 hsz,Bool.and_false];exact aGd
 refine E9 ⟨_,e,rfl⟩ ⟨_,e2,rfl⟩ (call_meets F.slot_list_iadd ⟨_,e,rfl⟩ F.entry_list_iadd (F.args_list_iadd_2 _ _)
  (AutoSeq1.list___iadd___list_list_0 l aL.toArray n b its2.toArray n2 hlong (by rw [List.size_toArray];omega) (by omega)) ⟨e,e2,?_⟩)
 refine ⟨.ref l,_,I.QG (its' :=aL++its2) hH e (by simp) (r.append r2) ?_,rfl,q⟩;rw [List.length_append];omega
def RY:O2:=λx y mh Q=> match x with
 | .int i=> match y with | .int j=> Q (.int (i+j)) mh | _=> False
 | .str i=> match y with | .str j=> i.length+j.length<=sizeLine/\Q (.str (i++j)) mh | _=> False
 | .ref n=> match y with | .ref m=> ∃es fs,mh[n]? =some (.lst es)/\mh[m]? =some (.lst fs)/\es.length+fs.length<=sizeLine/\Q (.ref n) (mh.set n (.lst (es++fs))) | _=> False
 | _=> False
theorem P6:jB X (inplaceOp .Add) (d6 X.K RY):=by
 intro pins s σ H x y v u Q I rx ry q;obtain ⟨μ,mh,dx,dy,R,RR,ix,iy,q,F⟩:=q
 cases dx with
 | int i=>
  cases dy with
  | int j=> cases bU ix;cases bU iy;exact QV pins s σ H _ _ v u Q I rx ry ⟨i,j,rfl,rfl,F.here RR q .int⟩
  | _=> exact False.elim q
 | str i=>
  cases dy with
  | str j=> cases fU ix;cases fU iy;exact CU pins s σ H _ _ v u Q I rx ry ⟨i,j,rfl,rfl,q.1,F.here RR q.2 .str⟩
  | _=> exact False.elim q
 | ref n=>
  cases dy with
  | ref m=>
   obtain ⟨es,fs,e1,e2,hz,q⟩:=q;obtain ⟨a,vs,rfl,hn,hv,l⟩:=iI RR ix e1;obtain ⟨b,ws,rfl,hm,hw,l2⟩:=iI RR iy e2;exact MP pins s σ H _ _ v u Q I rx ry ⟨a,b,vs,ws,rfl,rfl,hv,hw,by rw [aR l,aR l2];exact hz,F.put RR hn (hX l l2) q ix⟩
  | _=> exact False.elim q
 | _=> exact False.elim q
def XC (i:Nat) (w:WE) (f:O2):WS:=λE ρ mh=> ∃x,ρ[i]? =some (some x)/\w ρ mh λy mh1=> f x y mh1 λz mh2=> E.nx (ρ.set i (some z)) mh2
theorem UU (i:Nat) {x:Str} {e:Expr} {w:WE} {op:Operator} {f:O2} {pos pos' :Pos} (hN:X.N.Nodup) (ho:jB X (inplaceOp op) (d6 X.K f)) (he:LE X e w) (hi:X.N[i]? =some x:=by rfl) (hx:Loc X.env.scope x:=by first | exact Or.inl rfl | exact Or.inr rfl) (hf:X.fn x=true\/X.env.scope.names.lookup x=some .local:=by first | exact .inl rfl | exact .inr rfl | assumption):
  LS X (.AugAssign (.Name x pos') op e pos) (XC i w f):=PS.imp (TY hN hi hx he ho hf) λD σ H h=> by
 obtain ⟨μ,ρ,mh,E,R,En,⟨x,hx,h⟩,F⟩:=h;obtain ⟨v,hv,iv⟩:=En.2 i x hx;refine ⟨v,hv,μ,ρ,mh,_,R,En,h,λd mh1 q μ1 u H1 P1 R1 I1=> ?_⟩;exact ⟨μ1,mh1,x,d,_,R1,Is.mono R P1 x v iv,I1,q,λz mh2 q2 μ2 vz H2 P2 R2 I2=> F.nx _ mh2 q2 μ2 _ H2 (P1.trans P2) R2 ((En.mono R (P1.trans P2)).set i I2)⟩
end
theorem qH {a b:Key} (h:bI a=bI b):a=b:=by
 cases a <;> cases b <;> simp [bI] at h <;> rw [h]
open Classical in
noncomputable def putD (kvs:List (D×D)) (k v:D):List (D×D):=if ∃p∈kvs,p.1=k then kvs.map (λp=> if p.1=k then (p.1,v) else p) else kvs++[(k,v)]
theorem BO {kvs:List (D×D)} {k v:D} {p:D×D} (h:p∈putD kvs k v):p∈kvs\/(p.1=k/\p.2=v):=by
 unfold putD at h;split at h
 ·obtain ⟨q,hq,e⟩:=aD1.mp h;split at e
  ·rename_i hk;subst e;exact .inr ⟨hk,rfl⟩
  ·subst e;exact .inl hq
 ·rcases aCt.mp h with h | h
  ·exact .inl h
  ·simp at h;subst h;exact .inr ⟨rfl,rfl⟩
open Classical in
theorem IC (kvs:List (D×D)) (k v:D):(putD kvs k v).map (·.1)=if (∃p∈kvs,p.1=k) then kvs.map (·.1) else kvs.map (·.1)++[k]:=by
 unfold putD;split
 ·rw [List.map_map];apply aGa;intro p _;simp only [Function.comp];split <;> rfl
 ·simp
section
variable {K:aGp} {μ:List Addr} {H:Hp} {κ:Type} [DecidableEq κ] {f:κ->D}
theorem BI (hf:∀{a b},f a=f b->a=b) (k:κ) {d:D} {v:V} (hd:Is K μ H d v):∀(kvs:List (D×D)) (kk:List (κ×V)),kvs.map (·.1)=kk.map (λp=> f p.1)->IsL K μ H (kvs.map (·.2)) (kk.map (·.2))->
  IsL K μ H ((open Classical in kvs.map λp=> if p.1=f k then (p.1,d) else p).map (·.2)) ((kk.map λp=> if p.1=k then (p.1,v) else p).map (·.2))
 | [],[],_,_=> by simp [IsL]
 | [],_::_,h,_=> by simp at h
 | _::_,[],h,_=> by simp at h
 | p::kvs,q::kk,h,l=> by
  simp only [List.map_cons,List.cons.injEq] at h;simp only [List.map_cons] at l⊢;unfold IsL at l⊢;obtain ⟨w,r,e,i,l⟩:=l;simp only [List.cons.injEq] at e;obtain ⟨rfl,rfl⟩:=e;have ih:=BI hf k hd kvs kk h.2 l;by_cases hk:q.1=k
  ·have:p.1=f k:=by rw [h.1,hk]
   simp only [if_pos hk,if_pos this];exact ⟨_,_,rfl,hd,ih⟩
  ·have:¬p.1=f k:=λz=> hk (hf (h.1.symm.trans z));simp only [if_neg hk,if_neg this];exact ⟨_,_,rfl,i,ih⟩
theorem GI (hf:∀{a b},f a=f b->a=b) (k:κ) {d:D} {v:V} (hd:Is K μ H d v) {kvs:List (D×D)} {kk:List (κ×V)} (h:kvs.map (·.1)=kk.map (λp=> f p.1)) (l:IsL K μ H (kvs.map (·.2)) (kk.map (·.2))):
  (putD kvs (f k) d).map (·.1)=(putK kk k v).map (λp=> f p.1)/\IsL K μ H ((putD kvs (f k) d).map (·.2)) ((putK kk k v).map (·.2)):=by
 have same:(∃p∈kvs,p.1=f k)↔(kk.any λkv=> decide (kv.1=k))=true:=by
  rw [List.any_eq_true];constructor
  ·rintro ⟨p,hp,e⟩;have:f k∈kk.map (λp=> f p.1):=by rw [<-h,<-e];exact aD1.mpr ⟨p,hp,rfl⟩
   obtain ⟨q,hq,e2⟩:=aD1.mp this;exact ⟨q,hq,by simpa using hf e2⟩
  ·rintro ⟨q,hq,e⟩;have:f q.1∈kvs.map (·.1):=by rw [h];exact aD1.mpr ⟨q,hq,rfl⟩
   obtain ⟨p,hp,e2⟩:=aD1.mp this;exact ⟨p,hp,by rw [e2];simp at e;rw [e]⟩
 unfold putD putK;by_cases c:∃p∈kvs,p.1=f k
 ·rw [if_pos c,if_pos (same.mp c)];refine ⟨?_,BI hf k hd kvs kk h l⟩
  have e1:(open Classical in kvs.map λp=> if p.1=f k then (p.1,d) else p).map (·.1)=kvs.map (·.1):=by
   rw [List.map_map];apply aGa;intro p _;simp only [Function.comp];split <;> rfl
  have e2:(kk.map λp=> if p.1=k then (p.1,v) else p).map (λp=> f p.1)=kk.map (λp=> f p.1):=by
   rw [List.map_map];apply aGa;intro p _;simp only [Function.comp];split <;> rfl
  rw [e1,e2,h]
 ·rw [if_neg c,if_neg (λz=> c (same.mpr z))];refine ⟨by simp [h],?_⟩;simp only [List.map_append,List.map_cons,List.map_nil];exact hX l (nB hd)
end
theorem zZ {K:aGp} {μ:List Addr} {mh:MH} {H:Hp} {n:Nat} {a:Addr} {o:MO} {ob:HO} (R:Rep K μ mh H) (h:μ[n]? =some a) (hm:JV (some ob)) (l:oH K μ (upd H a ob) o a):Rep K μ (mh.set n o) (upd H a ob):=by
 have P:aU μ H μ (upd H a ob):=aU.set R h;refine ⟨by simp [R.len],R.nd,λm b ob' h1 h2=> ?_⟩;by_cases hmn:m=n
 ·subst hmn;rw [h] at h1;cases h1;have hl:m < mh.length:=by rw [<-R.len];exact (aCn.mp h).1
  rw [List.getElem?_set_self hl] at h2;cases h2;exact l
 ·rw [List.getElem?_set_ne (Ne.symm hmn)] at h2;exact (R.obj m b ob' h1 h2).mono R P (aV λz=> hmn (LZ R.nd h1 (by rw [z];exact h)))
theorem Rep.aBy {K:aGp} {μ:List Addr} {mh:MH} {H:Hp} {q:Addr} {o:MO} {ob:HO} (R:Rep K μ mh H) (hq:H q=none) (l:oH K (μ++[q]) (upd H q ob) o q):Rep K (μ++[q]) (mh++[o]) (upd H q ob):=by
 have R1:Rep K μ mh (upd H q ob):=R.new hq;exact R1.V8 (λz=> R.ne hq z rfl) l
def ON (t:Bool):WE:=λ_ mh Q=> Q (.ref mh.length) (mh++[.dic t []])
section
variable {X:Cx} {pos:Pos}
theorem G0:LE X (.Dict [] [] pos) (ON false):=PE.imp LJ λσ H Q h=> by
 obtain ⟨μ,ρ,mh,R,RR,E,h,F⟩:=h;intro p hp;exact F _ _ h (μ++[p]) _ _ (aU.LY RR hp) (RR.aBy hp ⟨[],⟨[],cE,rfl,rfl⟩,by simp [IsL]⟩) (by unfold Is;exact ⟨p,by rw [<-RR.len];simp,rfl⟩)
end
theorem nA {K:aGp} {μ:List Addr} {H:Hp} {k:Key} {v:V} (h:Is K μ H (bI k) v):v=kV k:=by
 cases k <;> (simp only [bI] at h;unfold Is at h;exact h)
theorem xW {K:aGp} {μ:List Addr} {H:Hp}:∀{ks:List Key} {vs:List V},IsL K μ H (ks.map bI) vs->vs=ks.map kV
 | [],vs,h=> by simp only [List.map_nil] at h;unfold IsL at h;exact h
 | k::ks,vs,h=> by
  simp only [List.map_cons] at h;unfold IsL at h;obtain ⟨v,r,rfl,i,l⟩:=h;rw [nA i,xW l];rfl
theorem o9 {K:aGp} {μ:List Addr} {mh:MH} {H:Hp} {n:Nat} {v:V} {t:Bool} {kvs:List (D×D)} (R:Rep K μ mh H) (h:Is K μ H (.ref n) v) (e:mh[n]? =some (.dic t kvs)):∃a vs,v= .ref a/\μ[n]? =some a/\N1 (H a) (kvs.map (·.1)) vs t/\IsL K μ H (kvs.map (·.2)) vs:=by
 obtain ⟨a,q,rfl⟩:=oV h;obtain ⟨vs,hv,l⟩:=R.obj n a _ q e;exact ⟨a,vs,rfl,q,hv,l⟩
def RW (o k d:D) (mh:MH) (Q:MH->Prop):Prop:=∃n kvs key,o= .ref n/\mh[n]? =some (.dic false kvs)/\k=bI key/\kvs.length < sizeLine/\Q (mh.set n (.dic false (putD kvs k d)))
def KC (w wo wi:WE):WS:=λE ρ mh=> w ρ mh λd mh1=> wo ρ mh1 λo mh2=> wi ρ mh2 λi mh3=> RW o i d mh3 λmh4=> E.nx ρ mh4
section
variable {X:Cx} {pos pos' tpos:Pos} {o i e:Expr} {es:List Expr} {w wo wi:WE} {wa:WA}
theorem QH (hu:X.A.units+64 < cLine) (he:LE X e w) (ho:LE X o wo) (hi:LE X i wi) (hs:swapsWith e (some (.Subscript o i pos')) pos.line X.env=pure false:=by rfl):LS X (.Assign [.Subscript o i pos'] e pos) (KC w wo wi):=
 PS.imp (PH (by omega) ho hi he hs) λD σ H h=> by
  obtain ⟨μ,ρ,mh,E,R,En,h,F⟩:=h;refine ⟨μ,ρ,mh,_,R,En,h,λd mh1 q μ1 v H1 P1 R1 I1=> ?_⟩;refine ⟨μ1,ρ,mh1,_,R1,En.mono R P1,q,λdo' mh2 q2 μ2 vo H2 P2 R2 I2=> ?_⟩;refine ⟨μ2,ρ,mh2,_,R2,En.mono R (P1.trans P2),q2,λdi mh3 q3 μ3 vi H3 P3 R3 I3=> ?_⟩;obtain ⟨n,kvs,key,rfl,e1,rfl,hz,q4⟩:=q3;obtain ⟨a,vs,rfl,hn,⟨kk,hv,ek,rfl⟩,l⟩:=o9 R3 (Is.mono R2 P3 _ _ I2) e1;cases nA I3;have Iv:=Is.mono R1 (P2.trans P3) d v I1;have P4:aU μ3 H3 μ3 (upd H3 a (.dK (putK kk key v))):=aU.set R3 hn;have ln:kk.length=kvs.length:=by have:=aE0 List.length ek;simp at this;omega
  obtain ⟨p1,p2⟩:=GI (f:=bI) qH key Iv ek l;have R4:Rep X.K μ3 (mh3.set n (.dic false (putD kvs (bI key) d))) (upd H3 a (.dK (putK kk key v))):=zZ R3 hn (by trivial) ⟨_,⟨_,cE,p1,rfl⟩,p2.mono R3 P4⟩;have P04:=((P1.trans P2).trans P3).trans P4;exact ⟨a,_,rfl,.k hv (by omega),F.nx ρ _ q4 μ3 σ _ P04 R4 (En.mono R P04)⟩
end
def iU (h:Heap) (d:Addr) (es:Array DictEntry) (ep:Nat):Prop:=∃o,h.get? d=some o/\o.ExactDict/\o.data= .dict es ep
theorem iU.keep {h h' :Heap} {d:Addr} {es:Array DictEntry} {ep:Nat} (x:iU h d es ep) (k:∀o,h.get? d=some o->h'.get? d=some o):iU h' d es ep:=let ⟨o,a,b,c⟩:=x;⟨o,k o a,b,c⟩
section
variable {prog:Program} {w:World} {A:Around} {E:Value->Shared->Prop} {s:Shared} {it d:Addr} {i ep:Nat} {es:Array DictEntry}
theorem K5 {e:DictEntry} {Q:Option Value->Shared->Prop} (hit:Heap.IsKeyIter s.heap it d i es.size ep) (hm:iU s.heap d es ep) (hx:es[i]? =some e)
  (q:∀h',Heap.IsKeyIter h' it d (i+1) es.size ep->Heap.SameBut it s.heap h' ->Q (some e.key) {s with heap:=h'}):wpAny (model prog w) A (pyNext (.ref it)) Q E s:=by
 obtain ⟨o,ho,hc,hd⟩:=id hit;obtain ⟨od,hod,hcd,hdd⟩:=id hm;have ht:=hit.typeIs;refine aCm (aEb (aDa ht aE7 (aD5 aE7 ht F.entry_dict_keyiterator_next ?_ (F.args_dict_keyiterator_next_1 _))));refine aCm (aCo ?_);refine aCm (aCm (aCm (aEj ht (aCo ?_))));refine aCm (aF9 ho hd ?_);show wpAny _ _ (if (Value.ref d==Value.none)=true then _ else _) _ _ _;rw [if_neg (show ¬((Value.ref d==Value.none)=true) from Bool.false_ne_true)];refine aCm (aCo ?_);refine aCm (wpAny_dictEntries hod hdd ?_);rw [if_neg (show ¬(((es.size:Int) !=(es.size:Int))=true) by simp)];refine aCm (aCo ?_);refine aCm (wpAny_dictEpoch hod hdd ?_);rw [if_neg (show ¬(((ep:Int) !=(ep:Int))=true) by simp)];refine aCo ?_
 have e1:(if (i:Int) < 0 then none else es[(i:Int).toNat]?)=some e:=by
  rw [if_neg (by omega)];simpa using hx
 show wpAny _ _ (match (if (i:Int) < 0 then none else es[(i:Int).toNat]?) with | some e=> _ | none=> _) _ _ _;rw [e1];refine aCm (aCm (aEj ht (aCo ?_)));refine aCm (wpAny_isOneOf_keyiter ht ?_);refine aCm (aGf ho hd (by show 1 < 4;omega) ?_)
 have ho1:(s.heap.update it (Obj.mapFields λx=> x.setIfInBounds 1 (rawInt ((i:Int)+1)))).get? it=some (Obj.mapFields (λx=> x.setIfInBounds 1 (rawInt ((i:Int)+1))) o):=by
  refine aDv _ ho ?_;obtain ⟨c,di,da,sl⟩:=o;simp only at hd hc;subst hd;rfl
 have hit1:Heap.IsKeyIter (s.heap.update it (Obj.mapFields λx=> x.setIfInBounds 1 (rawInt ((i:Int)+1)))) it d (i+1) es.size ep:=by
  refine ⟨_,ho1,?_,?_⟩
  ·obtain ⟨c,di,da,sl⟩:=o;simp only at hd hc;subst hd;exact hc
  ·obtain ⟨c,di,da,sl⟩:=o;simp only at hd hc;subst hd;rfl
 refine aCm (aDm (aCm (wpAny_isOneOf_keyiter (Heap.IsKeyIter.typeIs (s:={s with heap:=s.heap.update it (Obj.mapFields λx=> x.setIfInBounds 1 (rawInt ((i:Int)+1)))}) hit1) (aCo (aCo ⟨_,rfl,aCo (q _ hit1 (aDz _ _ _))⟩)))))
theorem O3 {Q:Option Value->Shared->Prop} (hh:A.handled=none) (hit:Heap.IsKeyIter s.heap it d i es.size ep) (hm:iU s.heap d es ep) (hx:es[i]? =none)
  (q:∀h',Heap.ExtBut it s.heap h' ->Q none {s with heap:=h'}):wpAny (model prog w) A (pyNext (.ref it)) Q E s:=by
 obtain ⟨o,ho,hc,hd⟩:=id hit;obtain ⟨od,hod,hcd,hdd⟩:=id hm;have ht:=hit.typeIs;refine aCm (aEb (aDa ht aE7 (aD5 aE7 ht F.entry_dict_keyiterator_next ?_ (F.args_dict_keyiterator_next_1 _))));refine aCm (aCo ?_);refine aCm (aCm (aCm (aEj ht (aCo ?_))));refine aCm (aF9 ho hd ?_);show wpAny _ _ (if (Value.ref d==Value.none)=true then _ else _) _ _ _;rw [if_neg (show ¬((Value.ref d==Value.none)=true) from Bool.false_ne_true)];refine aCm (aCo ?_);refine aCm (wpAny_dictEntries hod hdd ?_);rw [if_neg (show ¬(((es.size:Int) !=(es.size:Int))=true) by simp)];refine aCm (aCo ?_);refine aCm (wpAny_dictEpoch hod hdd ?_);rw [if_neg (show ¬(((ep:Int) !=(ep:Int))=true) by simp)];refine aCo ?_
 have e1:(if (i:Int) < 0 then none else es[(i:Int).toNat]?)=none:=by
  rw [if_neg (by omega)];simpa using hx
 show wpAny _ _ (match (if (i:Int) < 0 then none else es[(i:Int).toNat]?) with | some e=> _ | none=> _) _ _ _;rw [e1];refine aCm (aCm (aEj ht (aCo ?_)));refine aCm (aGf ho hd (by show 0 < 4;omega) ?_);refine aCm (aCm (aDc (aCm (aFo (show firstArgMember (Value.type "StopIteration") []=pure _ from rfl) (aDc ?_)))));refine aCm (wpAny_handled ?_);rw [show A.in1.handled=none from hh];refine wpAny_throw (aCm (aFd (T:= "StopIteration") (b:=true) ⟨_,aCu _ rfl,rfl⟩ rfl (aCo (q _ ?_))));intro b u hb e;refine aCp _ (aCp _ ?_);rw [Heap.get?_update_ne _ _ _ _ hb];exact e
end
theorem iU.typeIs {s:Shared} {d:Addr} {es:Array DictEntry} {ep:Nat} (x:iU s.heap d es ep):s.TypeIs (.ref d) "dict":=let ⟨o,a,b,c⟩:=x;⟨o,a,b.1⟩
section
variable {prog:Program} {w:World} {A:Around} {E:Value->Shared->Prop} {s:Shared} {d:Addr} {ep:Nat} {es:Array DictEntry}
theorem K4 {Q:Value->Shared->Prop} (hd:(d==sysModules)=false) (hm:iU s.heap d es ep)
  (q:Q (.ref s.heap.objs.size) {s with heap:=s.heap.push {cls:= .type "dict_keyiterator",data:= .fields #[.ref d,.int 0 0,.int es.size 0,.int ep 0]}}):wpAny (model prog w) A (pyIter (.ref d)) Q E s:=by
 obtain ⟨o,ho,hc,hdd⟩:=id hm;refine aF6 hm.typeIs F.slot_dict_iter (aD5 F.slot_dict_iter hm.typeIs F.entry_dict_iter ?_ (F.args_dict_iter_1 _));refine aCm (aCm (wpAny_notOrdered_dict hm.typeIs (aCm (aCo (aCo ?_)))));refine aCm (aCo ?_);refine aCm (m:=Builtin.Dict.showsAll d) ?_;show wpAny _ _ (if (d==sysModules)=true then _ else _) _ _ _;rw [hd,if_neg Bool.false_ne_true];refine aCo (aCm (wpAny_dictEntries ho hdd (aCm (wpAny_dictEpoch ho hdd (aCm (aDc (aCo ⟨_,rfl,"dict_keyiterator",_,⟨_,aCu _ rfl,rfl⟩,aE7.lookup,q⟩)))))))
theorem O0 (hd:(d==sysModules)=false):W.KdlSrc prog w "dict" d d es.size (λi v=> ∃e,es[i]? =some e/\v=e.key) λh=> iU h d es ep where
 type:=λs x=> x.typeIs
 there:=λh x=> let ⟨o,a,_⟩:=x;⟨aCx a,aCx a⟩
 keep:=λh h' x k=> x.keep λo=> k d (.inl rfl) o
 notList:=rfl
 notTuple:=rfl
 hint:=λA E s Q x q=> W.kdl_hint_dict x.typeIs q
 iter:=λA s hh x=> by
  refine ⟨_,λi h=> Heap.IsKeyIter h s.heap.objs.size d i es.size ep/\iU h d es ep,λE Q q=> K4 hd x q,?_,?_⟩
  ·have hne:d≠s.heap.objs.size:=by obtain ⟨o,a,_⟩:=x;exact aD6 (aCx a)
   refine ⟨λb hb=> by simp at hb;simp [hb],λi h h' st k=> ⟨st.1.at λo=> k _ (by simp) o,st.2.keep λo=> k _ (by simp) o⟩,λi s1 Q E hi st q=> ?_,λs1 Q E st q=> ?_,λi s1 Q E st q=> wpAny_pyIter_keyiter st.1 q⟩
   ·have hx:es[i]? =some es[i]:=by simp [hi]
    refine K5 st.1 st.2 hx λh' a b=> q _ h' s1.toks ⟨_,hx,rfl⟩ ⟨a,st.2.keep λo e=> (b.2 d hne).trans e⟩ λc o hc e=> ?_;simp at hc;exact (b.2 c hc).trans e
   ·refine O3 hh st.1 st.2 (by simp) λh' a=> q h' s1.toks λc o hc e=> ?_;simp at hc;exact a c o hc e
  ·refine ⟨⟨_,aCu _ rfl,rfl,rfl⟩,x.keep λo e=> aCp _ e⟩
end
end D3
namespace TS
open PySem PySem.Spec PyProof.Rows L2
section
variable {prog:Program} {w:World} {A:Around} {E:Value->Shared->Prop} {s:Shared} {lt:Value×Value->Value×Value->Bool} {r d:Addr} {n:Nat} {P:Nat->Value->Prop} {OK:Heap->Prop} {T:String}
theorem KQ (O:Wk lt) {Q:Value->Shared->Prop} (src:W.KdlSrc prog w T r d n P OK) (hh:A.handled=none) (ok:OK s.heap) (h64:n < 4000)
  (ck:∀vs:List Value,ItemsOf P vs.toArray n->∀(h1:Heap) (tk:Nat),(∀b o,s.heap.get? b=some o->h1.get? b=some o)->∃κ,2<=vs.length->∀h' :Heap,(∀b o,h1.get? b=some o->h'.get? b=some o)->
   nL prog w A.in1.in1 {s with heap:=h',toks:=tk} κ lt (pairsOf vs)/\∀Q' E',Q' κ {s with heap:=h',toks:=tk}->wpAny (model prog w) A.in1.in1 (keyKind' vs.toArray) Q' E' {s with heap:=h',toks:=tk})
  (h:∀vs:List Value,ItemsOf P vs.toArray n->∀out:List Value,out.Perm vs->out.Pairwise (λx y=> lt (y,y) (x,x)=false)->∀(h1 h2:Heap) (tk:Nat) (ep:Nat),(∀b o,s.heap.get? b=some o->h1.get? b=some o)->(∀b o,h1.get? b=some o->h2.get? b=some o)->
   h2.get? h1.objs.size=some (seqObj "list" out.toArray ep)->Q (.ref h1.objs.size) {s with heap:=h2,toks:=tk}):
  wpAny (model prog w) A (call (.builtin "sorted") [.ref r]) Q E s:=by
 have zl:sizeLine=16777216:=aDe;refine aFg kind_sorted plain_sorted entry_sorted (args_sorted1 _) ?_;unfold Builtin.«sorted»;refine aCm (m:=checkCount "sorted" 1 1 _) (aCo ?_);refine aCm (W.kdu_collect src hh ok (by omega) λh1 tk acc kept items=> ?_);have hsz:acc.toList.length=n:=by have:=items.1;simpa using this
 obtain ⟨κ,ck⟩:=ck acc.toList (by simpa using items) h1 tk kept;refine aCm (aGl ?_ (by omega));have ob:(h1.push (seqObj "list" acc.toList.toArray 0)).get? h1.objs.size=some (seqObj "list" acc.toList.toArray 0):=aCu _ rfl;refine aCm (aDm (aD5 slot_list_sort ⟨_,ob,rfl⟩ entry_list_sort (EA (κ:=κ) (s:={s with heap:=h1.push (seqObj "list" acc.toList.toArray 0),toks:=tk}) O ob (by omega) (λh2 h' k=> ?_) λout p1 p2=> ⟨_,rfl,aCo ⟨_,rfl,?_⟩⟩) (args_list_sort _)))
 ·obtain ⟨c1,c2⟩:=ck h2 h' λb o e=> k b o (aD6 (aCx e)) (aCp _ e);exact ⟨c1,λQ' q=> c2 Q' _ q⟩
 ·obtain ⟨ep,he⟩:=sortedHeap_at (out:=out.toArray) ob;refine h acc.toList (by simpa using items) out p1 p2 h1 _ tk ep kept (λb o e=> ?_) he;have lb:=aCx e;have hb:b < (h1.push (seqObj "list" acc.toList.toArray 0)).objs.size:=by rw [size_push'];exact aDx lb
  rw [sortedHeap_old (Nat.ne_of_lt lb) hb];exact aCp _ e
end
end TS
namespace D3
open PySem PySem.Spec PyProof.Rows L2
def vZ:OA:=λxs mh Q=> ∃n t kvs,xs=[.ref n]/\mh[n]? =some (.dic t kvs)/\kvs.length < 4000/\JS (kvs.map (·.1))/\∀fs:List D,fs.Perm (kvs.map (·.1))->fs.Pairwise (λd e=> lx (enc e) (enc d)=false)->Q (.ref mh.length) (mh++[.lst fs])
theorem R7 {K:aGp} {μ:List Addr} {H:Hp} (k:Key):Is K μ H (bI k) (kV k):=by
 cases k <;> (simp only [bI];unfold Is;rfl)
theorem zR {K:aGp} {μ:List Addr} {H:Hp}:∀ks:List Key,IsL K μ H (ks.map bI) (ks.map kV)
 | []=> by simp [IsL]
 | k::ks=> by simp only [List.map_cons];unfold IsL;exact ⟨_,_,rfl,R7 k,zR ks⟩
theorem BJ {P:Program} {w:World} {k:Key} {u:Value} (h:(bA P w).is k u=true):RelV (kV k) u:=by
 rcases cA (k:=k) (v:=u) h with ⟨i,t,rfl,rfl⟩ | ⟨x,t,rfl,rfl⟩
 ·exact ⟨t,rfl⟩
 ·exact ⟨t,rfl⟩
theorem uV {P:Program} {w:World}:∀{es:List DictEntry} {vs:List (Key×Value)} {kk:List (Key×V)},Pairs (bA P w) es vs->KV kk vs->Vals (kk.map λp=> kV p.1) (es.map (·.key))
 | [],vs,kk,p,r=> by cases p;cases r;exact .nil
 | e::es,vs,kk,p,r=> by
  cases p with
  | cons h1 h2 h3=>
   cases r with
   | cons r1 r2=>
    simp only [List.map_cons];refine .cons ?_ (uV h3 r2);rw [r1.1];exact BJ h1
theorem xV {K:aGp} {μ:List Addr} {H:Hp}:∀kk:List (Key×V),IsL K μ H (kk.map λp=> bI p.1) (kk.map λp=> kV p.1)
 | []=> by simp [IsL]
 | p::kk=> by simp only [List.map_cons];unfold IsL;exact ⟨_,_,rfl,R7 _,xV kk⟩
theorem xU {K:aGp} {μ:List Addr} {H:Hp}:∀{kk:List (List Key×V)} {xs:List (List Key×Addr×Value)},KT H kk xs->IsL K μ H (kk.map λp=> .tup (p.1.map bI)) (xs.map λx=> .ref x.2.1)
 | [],xs,r=> by cases r;simp [IsL]
 | p::kk,xs,r=> by
  cases r with
  | cons r1 r2=>
   simp only [List.map_cons];unfold IsL;refine ⟨_,_,rfl,?_,xU r2⟩;unfold Is;exact ⟨_,_,rfl,.inl (.inl r1.2.1),zR _⟩
theorem iB:∀(xs:List (List Key×Addr×Value)),Vals (xs.map λx=> V.ref x.2.1) (xs.map λx=> Value.ref x.2.1)
 | []=> .nil
 | x::xs=> .cons rfl (iB xs)
theorem Q2 {X:Cx} {pins:List (Addr×Obj)} {σ:L2.St} {H:Hp} {s:Shared} {μ:List Addr} {a:Addr} {ks:List D} {vs:List V} {t:Bool} (I:Inv X pins σ H s) (hv:N1 (H a) ks vs t):
  ∃(es:Array DictEntry) (ep:Nat) (ws:List V),(a==sysModules)=false/\iU s.heap a es ep/\IsL X.K μ H ks ws/\Vals ws (es.toList.map (·.key)):=by
 cases t with
 | false=>
  obtain ⟨kk,e,rfl,rfl⟩:=hv;obtain ⟨z,hd,vs,r,o,es,ep,h1,h2,h3,h4,h5,h6⟩:=HC I.cG e;exact ⟨es,ep,_,hd,⟨o,h1,h2,h3⟩,xV kk,uV h5 r⟩
 | true=>
  obtain ⟨kk,e,rfl,rfl⟩:=hv;obtain ⟨z,hd,xs,r,o,es,ep,h1,h2,h3,h4,h5⟩:=SE I.cG e;refine ⟨es,ep,_,hd,⟨o,h1,h2,h3⟩,xU r,?_⟩;rw [h4,List.map_map];exact iB xs
section
variable {X:Cx}
theorem vU (hu:X.A.units+64 < cLine) (hc:X.calm=true):cR X (.builtin "sorted") (fA X.K vZ):=by
 intro pins s σ H xs us Q I r q;obtain ⟨μ,mh,ds,R,RR,il,⟨n,t,kvs,rfl,e,h64,U,q⟩,F⟩:=q;obtain ⟨v,rfl,iv⟩:=lH il;obtain ⟨a,vs,rfl,hn,hv,l0⟩:=o9 RR iv e;obtain ⟨u,rfl,ru⟩:=vals1 r;cases ru;obtain ⟨es,ep,ws,hd,raw,l,rv⟩:=Q2 (μ:=μ) I hv;have vl:=qY I (kvs.map (·.1)) (yK U) l rv;have hlen:es.size=kvs.length:=by have:=bN vl;simpa using this
 have u2:X.A.in1.in1.units+40 < cLine:=by show X.A.units+1+1+40 < _;omega
 have itm:∀vs:List Value,ItemsOf (λi v=> ∃e,es[i]? =some e/\v=e.key) vs.toArray es.size->vs=es.toList.map (·.key):=λvs h=> by
  apply aF7;intro i;have hs:vs.length=es.size:=by simpa using h.1
  by_cases hi:i < es.size
  ·have hi' :i < vs.length:=by omega
   obtain ⟨e,h1,h2⟩:=h.2 i vs[i] (by simp [hi']);rw [List.getElem?_map,List.getElem?_eq_getElem hi'];simp only [Array.getElem?_toList,h1,Option.map_some,h2]
  ·rw [List.getElem?_eq_none (by omega),List.getElem?_eq_none (by simp;omega)]
 refine TS.KQ (EZ s.heap) (O0 (ep:=ep) hd) (I.ok.hd hc) raw (by omega) (λvs hi h1 tk kept=> ?_) λvs hi out p1 p2 h1 h2 tk ep2 kept kept2 he=> ?_
 ·cases itm vs hi;by_cases h2:2<=(es.toList.map (·.key)).length
  ·obtain ⟨κ,hk⟩:=uD (prog:=X.prog) (w:=X.w) (A:=X.A.in1.in1) (s:={s with toks:=tk}) u2 U vl h2;exact ⟨κ,λ_ h' k=> hk h' λb o e=> k b o (kept b o e)⟩
  ·exact ⟨general',λz=> absurd z h2⟩
 ·cases itm vs hi;obtain ⟨ts,t1,t2,t3,t4⟩:=S1 l rv vl;rw [<-t3] at p1;obtain ⟨ts',p3,p4⟩:=jV (·.u) p1 ts rfl;have h4:∀t∈ts',Is X.K μ H t.d t.v/\RelV t.v t.u/\Vl s.heap t.d t.u:=λt ht=> t4 t (p3.mem_iff.mp ht);have pd:(ts'.map (·.d)).Perm (kvs.map (·.1)):=by rw [<-t1];exact p3.map _
  have pw:(ts'.map (·.d)).Pairwise (λd e=> lx (enc e) (enc d)=false):=by
   rw [<-p4] at p2;rw [List.pairwise_map] at p2⊢;refine p2.imp_of_mem λ{t t'} m m' hh=> ?_;have e1:dv s.heap t.u=t.d:=oE (h4 t m).2.2;have e2:dv s.heap t'.u=t'.d:=oE (h4 t' m').2.2;unfold ltV at hh;rw [e1,e2] at hh;exact hh
  have ln:(ts'.map (·.v)).length<=sizeLine:=by
   have a1:=p3.length_eq;have a2:=aE0 List.length t1;have a3:=aDe;simp at a2⊢;omega
  have I0:Inv X pins σ H {s with heap:=h1,toks:=tk}:=I.kept (t' :=tk) kept
  have I1:Inv X pins σ (upd H h1.objs.size (.lst (ts'.map (·.v)))) {s with heap:=h2,toks:=tk}:=
   I0.laid (h' :=h2) (t' :=tk) kept2 (aCs _) ⟨ln,out,ep2,by rw [<-p4];exact tX λt ht=> (h4 t ht).2.1,he⟩
  exact ⟨.ref h1.objs.size,_,I1,rfl,hZ RR F (zQ λt ht=> (h4 t ht).1) (q _ pd pw) _ (I0.cG.fresh (aCs _))⟩
end
def fH (mh:MH) (b:Nat) (mh' :MH):Prop:=∃mh1 T,mh' =mh1++T/\dE mh b mh1
theorem fH.refl {mh:MH} {b:Nat} (h:sV mh b):fH mh b mh:=⟨mh,[],by simp,.refl h⟩
theorem fH.le {mh mh' :MH} {b:Nat} (h:fH mh b mh'):mh.length<=mh'.length:=by
 obtain ⟨mh1,T,rfl,t⟩:=h;rw [List.length_append,t.len];omega
theorem fH.blt {mh mh' :MH} {b:Nat} (h:fH mh b mh'):b < mh.length:=by
 obtain ⟨mh1,T,rfl,t⟩:=h;rw [<-t.len];exact t.1.lt
theorem fH.bag {mh mh' :MH} {b:Nat} (h:fH mh b mh'):sV mh' b:=by
 obtain ⟨mh1,T,rfl,⟨c,m,e,r⟩,_⟩:=h;exact ⟨c,m,by rw [List.getElem?_append_left (List.getElem?_eq_some_iff.mp e).1];exact e,r⟩
theorem fH.to {mh mh' mh2:MH} {b:Nat} (h:fH mh b mh') (t:dE mh' b mh2):fH mh b mh2:=by
 have hb:=h.blt;obtain ⟨mh1,T,rfl,t1⟩:=h;have hb1:b < mh1.length:=by rw [t1.len];exact hb
 obtain ⟨⟨c,m,e,r⟩,o,rfl⟩:=t;rw [List.set_append_left _ _ hb1] at e⊢;refine ⟨mh1.set b o,T,rfl,t1.trans ⟨⟨c,m,?_,r⟩,o,rfl⟩⟩;rw [List.getElem?_append_left (by simpa using hb1)] at e;exact e
theorem fH.push {mh mh' :MH} {b:Nat} (h:fH mh b mh') (o:MO):fH mh b (mh' ++[o]):=by
 obtain ⟨mh1,T,rfl,t1⟩:=h;exact ⟨mh1,T++[o],by simp,t1⟩
theorem fH.set {mh mh' :MH} {b n:Nat} (h:fH mh b mh') (hn:mh.length<=n) (o:MO):fH mh b (mh'.set n o):=by
 obtain ⟨mh1,T,rfl,t1⟩:=h;refine ⟨mh1,T.set (n - mh1.length) o,?_,t1⟩;rw [List.set_append_right _ _ (by rw [t1.len];exact hn)]
theorem BC {mh mh' :MH} {b:Nat} {many:Int} {Q:DK} (h:fH mh b mh') (h1:1<=many) (h2:many<=1073741789)
  (q:∀r mh2,0<=r->r < many->fH mh b mh2->mh2.length=mh'.length->(∀n,mh.length<=n->mh2[n]? =mh'[n]?)->Q (.int r) mh2):lE [.ref b,.int many] mh' Q:=
 ⟨b,many,rfl,h1,h2,h.bag,λr mh2 r0 r1 t=> q r mh2 r0 r1 (h.to t) t.len λn hn=> t.other (by have:=h.blt;omega)⟩
open Classical in
noncomputable def bR:List (D×D)->D->Option D
 | [],_=> none
 | p::r,k=> if p.1=k then some p.2 else bR r k
theorem m5 {K:aGp} {μ:List Addr} {H:Hp} (key:Key):∀{kvs:List (D×D)} {kk:List (Key×V)},kvs.map (·.1)=kk.map (λp=> bI p.1)->IsL K μ H (kvs.map (·.2)) (kk.map (·.2))->
  (kB kk key=none/\bR kvs (bI key)=none)\/∃d v,kB kk key=some v/\bR kvs (bI key)=some d/\Is K μ H d v
 | [],[],_,_=> .inl ⟨rfl,rfl⟩
 | [],_::_,h,_=> by simp at h
 | _::_,[],h,_=> by simp at h
 | p::kvs,q::kk,h,l=> by
  simp only [List.map_cons,List.cons.injEq] at h;simp only [List.map_cons] at l;unfold IsL at l;obtain ⟨w,r,e,i,l⟩:=l;simp only [List.cons.injEq] at e;obtain ⟨rfl,rfl⟩:=e;by_cases hk:q.1=key
  ·right;have hp:p.1=bI key:=by rw [h.1,hk]
   exact ⟨p.2,q.2,pR hk,by simp [bR,hp],i⟩
  ·have hp:¬p.1=bI key:=λz=> hk (qH (h.1.symm.trans z));rw [pS hk];simp only [bR,if_neg hp];exact m5 key h.2 l
section
variable {X:Cx}
theorem QU (hu:X.A.units+64 < cLine):SH X (λx y H Q=> ∃a v,x= .ref a/\FY H a y (some v)/\Q v H):=by
 intro value slice pins s σ H x y v u Q I rx ry h hs;obtain ⟨a,z,rfl,g,q⟩:=h;cases rx;have hT:=DE I g;unfold subscriptTail;refine aCm ?_;rw [getitemInPython_of_ne hT.not_modules];refine aCm (aG6 hT PySem.F.slot_dict_getitem.lookup ?_)
 have fin:wpAny (model X.prog X.w) X.A (subscripted slice false (.ref a) u) (λr s₃=> wpAny (model X.prog X.w) X.A (letTemporaryGo value (.ref a) r >>=λ_=> pure r) (EP X pins σ Q) X.xe s₃) X.xe s:=by
  rw [hs];exact wpAny_operating (JG (by omega) I g ry λw' s3 I3 rw' => aCm (wpAny_letTemporaryGo (aCo ⟨z,H,I3,rw',q⟩)))
 first
  | exact aCo (aCm fin)
  | exact aCm (aCo (aCm fin))
  | exact aCm fin
def P9:O2:=λx y mh Q=> ∃n kvs key d,x= .ref n/\mh[n]? =some (.dic false kvs)/\y=bI key/\bR kvs y=some d/\Q d mh
theorem ixD (hu:X.A.units+64 < cLine):SH X (d6 X.K P9):=by
 intro value slice pins s σ H x y v u Q I rx ry q hs;obtain ⟨μ,mh,dx,dy,R,RR,ix,iy,⟨n,kvs,key,d,rfl,e,rfl,hd,q⟩,F⟩:=q;obtain ⟨a,vs,rfl,hn,⟨kk,hv,ek,rfl⟩,l⟩:=o9 RR ix e;cases nA iy
 rcases m5 key ek l with ⟨_,z⟩ | ⟨d',w,h1,h2,iw⟩
 ·rw [hd] at z;cases z
 ·rw [hd] at h2;cases h2;exact QU hu value slice pins s σ H _ _ v u Q I rx ry ⟨a,w,rfl,by rw [<-h1];exact .k hv,F.here RR q iw⟩ hs
end
end D3
namespace ST
open PySem PySem.SetTable
def FW (xs:Array Nat):Prop:=xs.toList.Pairwise (· < ·)
theorem EF {xs:Array Nat} (h:FW xs) {i j:Nat} (hi:i < j) (hj:j < xs.size):xs[i]'(by omega) < xs[j]:=by
 have:=aDo.mp h i j (by simp;omega) (by simpa using hj) hi;simpa using this
theorem K0 {xs:Array Nat} (h:FW xs) {i j:Nat} (hi:i<=j) (hj:j < xs.size):xs[i]'(by omega)<=xs[j]:=by
 rcases aGh hi with z | z
 ·exact aEu (EF h z hj)
 ·subst z;exact aCs _
theorem zT (xs:Array Nat) (j:Nat) (h:FW xs):∀(fuel lo hi:Nat),hi - lo<=fuel->lo<=hi->hi<=xs.size->(∀k (hk:k < xs.size),k < lo->xs[k] < j)->(∀k (hk:k < xs.size),hi<=k->j<=xs[k])->
  (below.go xs j fuel lo hi<=xs.size)/\(∀k (hk:k < xs.size),k < below.go xs j fuel lo hi->xs[k] < j)/\(∀k (hk:k < xs.size),below.go xs j fuel lo hi<=k->j<=xs[k])
 | 0,lo,hi,h1,h2,h3,a,b=> by
  have:lo=hi:=by omega
  subst this;exact ⟨h3,a,b⟩
 | fuel+1,lo,hi,h1,h2,h3,a,b=> by
  unfold below.go;by_cases hl:lo < hi
  ·rw [if_pos hl];have hm:(lo+hi) / 2 < xs.size:=by omega
   have eg:xs.getD ((lo+hi) / 2) j=xs[(lo+hi) / 2]:=by simp [Array.getD,hm]
   simp only [eg];by_cases hx:xs[(lo+hi) / 2] < j
   ·rw [if_pos hx];exact zT xs j h fuel _ _ (by omega) (by omega) h3 (λk hk hk2=> Nat.lt_of_le_of_lt (K0 h (by omega) hm) hx) b
   ·rw [if_neg hx];exact zT xs j h fuel _ _ (by omega) (by omega) (by omega) a (λk hk hk2=> aDf (aEy hx) (K0 h hk2 hk))
  ·rw [if_neg hl];have:lo=hi:=by omega
   subst this;exact ⟨h3,a,b⟩
theorem kT {xs:Array Nat} (j:Nat) (h:FW xs):(below xs j<=xs.size)/\(∀k (hk:k < xs.size),k < below xs j->xs[k] < j)/\(∀k (hk:k < xs.size),below xs j<=k->j<=xs[k]):=
 zT xs j h xs.size 0 xs.size (by omega) (by omega) (aCs _) (λk hk z=> by omega) (λk hk z=> by omega)
theorem FO {xs:Array Nat} (h:FW xs):below xs 0=0:=by
 obtain ⟨a,b,_⟩:=kT 0 h;apply aEq;intro z;have:=b 0 (by omega) (by omega);omega
theorem FQ {xs:Array Nat} (h:FW xs) {i:Nat} (hi:i < xs.size):below xs (xs[i]+1)=i+1:=by
 obtain ⟨a,b,c⟩:=kT (xs[i]+1) h
 have h1:i < below xs (xs[i]+1):=by
  apply aEq;intro z;have:=c i hi (by omega);omega
 apply aEq;intro z;have h2:i+1 < below xs (xs[i]+1):=by omega
 have h3:=b (i+1) (by omega) h2;have h4:=EF (i:=i) (j:=i+1) h (by omega) (by omega);omega
theorem QB {xs:Array Nat} (h:FW xs) {j:Nat} (hn:xs[below xs j]? ≠some j):j∉xs.toList:=by
 intro hm;obtain ⟨k,hk,e⟩:=aFa.mp hm;have hk' :k < xs.size:=by simpa using hk
 have e' :xs[k]=j:=by simpa using e
 obtain ⟨a,b,c⟩:=kT j h
 have h1:below xs j<=k:=by
  apply aEq;intro z;have:=b k hk' (by omega);omega
 rcases aGh h1 with z | z
 ·have:=EF h z hk';have:=c _ (by omega) (aCs _);omega
 ·apply hn;rw [z];simp [hk',e']
theorem CV {α:Type} (xs:Array α) (p:Nat) (x:α) (hp:p<=xs.size):(insertAt xs p x).toList=xs.toList.take p++x::xs.toList.drop p:=by
 unfold insertAt;simp [Array.toList_extract];rw [List.take_of_length_le (by simp)]
theorem EG {xs:Array Nat} (h:FW xs) {j:Nat} (hn:j∉xs.toList):FW (insertAt xs (below xs j) j):=by
 obtain ⟨a,b,c⟩:=kT j h;unfold FW;rw [CV _ _ _ a,List.pairwise_append];refine ⟨h.sublist (aGi _ _),?_,?_⟩
 ·rw [List.pairwise_cons];refine ⟨λy hy=> ?_,h.sublist (List.drop_sublist _ _)⟩;obtain ⟨k,hk,e⟩:=aFa.mp hy;have hk2:below xs j+k < xs.size:=by simp at hk;omega
  have e2:xs[below xs j+k]=y:=by simpa using e
  have:=c _ hk2 (by omega);rcases aGh this with z | z
  ·omega
  ·exfalso;apply hn;rw [z];simp
 ·intro x hx y hy;obtain ⟨k,hk,e⟩:=aFa.mp hx;have hk2:k < below xs j/\k < xs.size:=by simp at hk;omega
  have e2:xs[k]=x:=by simpa using e
  have h1:=b k hk2.2 hk2.1;rcases aCv.mp hy with z | z
  ·omega
  ·obtain ⟨m,hm,e3⟩:=aFa.mp z;have hm2:below xs j+m < xs.size:=by simp at hm;omega
   have e4:xs[below xs j+m]=y:=by simpa using e3
   have:=c _ hm2 (by omega);omega
theorem IB (n:Nat):FW (Array.range n):=by
 unfold FW;rw [Array.toList_range];exact List.pairwise_lt_range
structure sN (l:Bool) (t:SetTable):Prop where
 X3:FW t.place
 dum:t.dummies= #[]
 led:t.led=l
theorem sN.plain {l:Bool} {t:SetTable} (h:sN l t) (b:Bool):sN l {t with plain:=b}:=⟨h.X3,h.dum,h.led⟩
theorem sN.fresh (f m:Nat) (l:Bool):sN l (.fresh f m l):=⟨by unfold FW SetTable.fresh;simp,rfl,rfl⟩
theorem sN.GF {l:Bool} {t:SetTable} (h:sN l t) (n:Nat):sN l (t.standIn n):=⟨IB n,rfl,h.led⟩
theorem sN.PY {l:Bool} {t:SetTable} (h:sN l t) (n:Nat):sN l (t.orStandIn n):=by
 unfold SetTable.orStandIn;split
 ·exact h
 ·exact h.GF n
theorem uE {t:SetTable} (h:t.dummies= #[]) (j:Nat):t.slot j≠ .dummy:=by
 unfold SetTable.slot;simp only [h,SetTable.has];split
 ·exact λz=> by cases z
 ·simp
theorem BQ {t:SetTable} (h:t.dummies= #[]) (x:Int):∀(fuel:Nat) (p:Probe) (j:Nat) (d:Option Nat),p.dummy=none->probe.go t (λ_=> x+1) x fuel p=some (.empty j d)->t.slot j= .empty/\d=none
 | 0,p,j,d,_,e=> by simp [probe.go] at e
 | fuel+1,p,j,d,hp,e=> by
  unfold probe.go at e
  cases hs:t.slot p.j with
  | empty=>
   rw [hs] at e;simp at e;obtain ⟨rfl,rfl⟩:=e;exact ⟨hs,hp⟩
  | dummy=> exact absurd hs (uE h _)
  | live i=>
   rw [hs] at e;have:(x+1==x)=false:=by simp;omega
   simp only [this] at e;refine BQ h x fuel _ j d ?_ e;unfold SetTable.advance;split <;> simp [hp]
theorem JB {t:SetTable} (h:t.dummies= #[]) {x:Int} {j:Nat} {b:Bool} (e:t.freeSlot x=some (j,b)):t.slot j= .empty:=by
 unfold SetTable.freeSlot at e
 cases hp:t.probe (λ_=> x+1) x (t.probeStart x) with
 | none=> rw [hp] at e;cases e
 | some m=>
  rw [hp] at e
  cases m with
  | candidate a b c=> cases e
  | empty k d=>
   obtain ⟨h1,h2⟩:=BQ h x _ _ k d rfl hp;subst h2;simp at e;obtain ⟨rfl,_⟩:=e;exact h1
theorem EB {t:SetTable} (h:sN l t) {j:Nat} (e:t.slot j= .empty):j∉t.place.toList:=by
 apply QB h.X3;intro z;unfold SetTable.slot at e;simp [z] at e
theorem sN.put {l:Bool} {t:SetTable} (h:sN l t) {j:Nat} (hj:j∉t.place.toList):sN l (t.put j).1:=by
 unfold SetTable.put;refine ⟨EG h.X3 hj,?_,h.led⟩;simp [h.dum,SetTable.has]
theorem sN.lay {l:Bool} {t:SetTable} (h:sN l t) (es:Array (Int×Value)) (x:Int) (v:Value):sN l (layNew t es x v).2.1:=by
 unfold layNew
 cases hf:t.freeSlot x with
 | none=> exact h.GF _
 | some p=>
  obtain ⟨j,b⟩:=p;have:=h.put (EB h (JB h.dum hf));exact this.PY _
theorem sN.X4 {l:Bool} {t:SetTable} (h:sN l t) (es:Array (Int×Value)) (n:Nat):sN l (relayAll t es n).2.1:=by
 unfold relayAll
 cases hr:t.relaid (es.map (·.1)) n with
 | none=> exact h.GF _
 | some p=>
  obtain ⟨t',order⟩:=p;simp only;split
  ·unfold SetTable.relaid SetTable.laid at hr
   cases ho:layClean (sizeAbove n - 1) (es.map (·.1)) with
   | none=> rw [ho] at hr;cases hr
   | some ow=>
    rw [ho] at hr;simp at hr;obtain ⟨rfl,_⟩:=hr;refine ⟨?_,rfl,h.led⟩;unfold FW;simp only [List.map_filterMap];have:(List.range (sizeAbove n - 1+1)).Pairwise (· < ·):=List.pairwise_lt_range;rw [List.pairwise_filterMap];refine this.imp_of_mem λ{a b} _ _ hab x hx y hy=> ?_;simp at hx hy;obtain ⟨c,hc,rfl⟩:=hx;obtain ⟨d,hd,rfl⟩:=hy;exact hab
  ·exact h.GF _
theorem sC {α β:Type} (f:α->β):∀{l:List β} {m:List β},l.Perm m->∀t:List α,m=t.map f->∃t' :List α,t'.Perm t/\t'.map f=l:=by
 intro l m p
 induction p with
 | nil=>
  intro t e
  cases t with
  | nil=> exact ⟨[],.refl _,rfl⟩
  | cons a t=> cases e
 | cons x p ih=>
  intro t e
  cases t with
  | nil=> cases e
  | cons a t=>
   simp at e;obtain ⟨t',p1,q1⟩:=ih t e.2;exact ⟨a::t',p1.cons a,by simp [e.1,q1]⟩
 | swap x y l=>
  intro t e
  cases t with
  | nil=> cases e
  | cons a t=>
   cases t with
   | nil=> simp at e
   | cons b t=>
    simp at e;exact ⟨b::a::t,.swap a b t,by simp [e]⟩
 | trans p1 p2 ih1 ih2=>
  intro t e;obtain ⟨t1,p1,q1⟩:=ih2 t e;obtain ⟨t2,p2,q2⟩:=ih1 t1 q1.symm;exact ⟨t2,p2.trans p1,q2⟩
section
variable {prog:Program} {w:World} {K:Type} [DecidableEq K] (knd:KeyKind prog w K)
def Es (es:Array (Int×Value)) (ks:List K):Prop:=
 ∃ps:List (K×(Int×Value)),ps.map (·.2)=es.toList/\(ps.map (·.1)).Perm ks/\∀p∈ps,knd.is p.1 p.2.2=true/\p.2.1=knd.hash p.1/\p.2.2.scannable=true
def iT (l:Bool) (h:Heap) (a:Addr) (ks:List K):Prop:=
 ∃o es ep t,h.get? a=some o/\o.ExactSet/\o.data= .set es ep t/\Es knd es ks/\ks.Nodup/\es.size < scanBound/\t.fits es.size=true/\sN l t
variable {knd}
theorem Es.perm {es es' :Array (Int×Value)} {ks:List K} (h:Es knd es ks) (p:es'.toList.Perm es.toList):Es knd es' ks:=by
 obtain ⟨ps,h1,h2,h3⟩:=h;obtain ⟨ps',p1,p2⟩:=sC (·.2) p ps h1.symm;exact ⟨ps',p2,(p1.map _).trans h2,λp hp=> h3 p (p1.mem_iff.mp hp)⟩
theorem Es.size {es:Array (Int×Value)} {ks:List K} (h:Es knd es ks):es.size=ks.length:=by
 obtain ⟨ps,h1,h2,h3⟩:=h;have a:=aE0 List.length h1;have b:=h2.length_eq;simp at a b;omega
theorem Es.elems {es:Array (Int×Value)} {ks:List K} (h:Es knd es ks):ElemsOf knd es.toList:=by
 obtain ⟨ps,h1,h2,h3⟩:=h;intro e he;rw [<-h1] at he;obtain ⟨p,hp,rfl⟩:=aD1.mp he;obtain ⟨a,b,c⟩:=h3 p hp;exact ⟨⟨p.1,a,b⟩,c⟩
theorem Es.mem {es:Array (Int×Value)} {ks:List K} (h:Es knd es ks) (k:K):k∈ks↔∃e∈es.toList,knd.is k e.2=true:=by
 obtain ⟨ps,h1,h2,h3⟩:=h;rw [<-h2.mem_iff,<-h1];constructor
 ·intro hk;obtain ⟨p,hp,rfl⟩:=aD1.mp hk;exact ⟨p.2,aD1.mpr ⟨p,hp,rfl⟩,(h3 p hp).1⟩
 ·rintro ⟨e,he,hk⟩;obtain ⟨p,hp,rfl⟩:=aD1.mp he;exact aD1.mpr ⟨p,hp,knd.inj _ _ _ (h3 p hp).1 hk⟩
theorem Es.push {es:Array (Int×Value)} {ks:List K} (h:Es knd es ks) {k:K} {x:Value} (hk:knd.is k x=true) (hx:x.scannable=true):Es knd (es.push (knd.hash k,x)) (ks++[k]):=by
 obtain ⟨ps,h1,h2,h3⟩:=h;refine ⟨ps++[(k,(knd.hash k,x))],by simp [h1],by simpa using h2.append_right [k],λp hp=> ?_⟩;rcases aCt.mp hp with hp | hp
 ·exact h3 p hp
 ·simp at hp;subst hp;exact ⟨hk,rfl,hx⟩
theorem iT.typeIs {s:Shared} {l:Bool} {a:Addr} {ks:List K} (h:iT knd l s.heap a ks):s.TypeIs (.ref a) "set":=let ⟨o,_,_,_,ho,hx,_⟩:=h;⟨o,ho,hx.1⟩
theorem iT.keep {h h' :Heap} {l:Bool} {a:Addr} {ks:List K} (x:iT knd l h a ks) (k:∀o,h.get? a=some o->h'.get? a=some o):iT knd l h' a ks:=let ⟨o,es,ep,t,ho,r⟩:=x;⟨o,es,ep,t,k o ho,r⟩
theorem store {l:Bool} {h:Heap} {a:Addr} {o:Obj} {es:Array (Int×Value)} {ep:Nat} {t:SetTable} (ho:h.get? a=some o) (hex:o.ExactSet) (hd:o.data= .set es ep t)
  {es' :Array (Int×Value)} {t' :SetTable} {ks:List K} (he:Es knd es' ks) (nd:ks.Nodup) (hb:es'.size < scanBound) (hf:t'.fits es'.size=true) (ht:sN l t'):
  (h.update a (Obj.putSet es' t')).get? a=some {o with data:= .set es' (ep+1) t'}/\iT knd l (h.update a (Obj.putSet es' t')) a ks:=by
 have hg:(h.update a (Obj.putSet es' t')).get? a=some {o with data:= .set es' (ep+1) t'}:=by
  have:=aDv (Obj.putSet es' t') ho (by rw [putSet_of es' t' hd];rfl);rw [putSet_of es' t' hd] at this;exact this
 exact ⟨hg,_,es',ep+1,t',hg,hex,rfl,he,nd,hb,hf,ht⟩
variable {A:Around} {E:Value->Shared->Prop} {s:Shared}
theorem HJ {l:Bool} {g:Bool->Sem Unit} (hg:∀(b:Bool) (s₁:Shared) (Q' :Unit->Shared->Prop),Q' () s₁->wpAny (model prog w) A (g b) Q' E s₁)
  {a:Addr} {o:Obj} {es:Array (Int×Value)} {ep:Nat} {t:SetTable} (ho:s.heap.get? a=some o) (hex:o.ExactSet) (hd:o.data= .set es ep t)
  {es1:Array (Int×Value)} {t2:SetTable} {ks:List K} (he:Es knd es1 ks) (nd:ks.Nodup)
  (hb1:es1.size < scanBound) (hf2:t2.fits es1.size=true) (ht:sN l t2) {wasDummy:Bool} {R:Option Bool->Shared->Prop}
  (h:∀h',Heap.SameBut a s.heap h' ->iT knd l h' a ks->R (some true) {s with heap:=h'}):
  wpAny (model prog w) A (do
    storeSet a es1 t2
    if (!wasDummy && t2.tooFull)=true then do
      g (relayAll t2 es1 (SetTable.grown es1.size)).2.2
      storeSet a (relayAll t2 es1 (SetTable.grown es1.size)).1 (relayAll t2 es1 (SetTable.grown es1.size)).2.1
      pure (some true)
     else pure (some true)) R E s:=by
 refine aCm (wpAny_storeSet_of ho hd ?_ (fits_of_scanBound hb1));obtain ⟨ho1,hS1⟩:=store (knd:=knd) ho hex hd he nd hb1 hf2 ht;have hsb1:=aDz s.heap a (Obj.putSet es1 t2);split
 ·have hp:=relayAll_perm t2 es1 (SetTable.grown es1.size);have hfr:=relayAll_fits t2 es1 (SetTable.grown es1.size);have htr:=ht.X4 es1 (SetTable.grown es1.size);generalize hRl:relayAll t2 es1 (SetTable.grown es1.size)=Rl at hp hfr htr⊢;obtain ⟨es2,t3,gave2⟩:=Rl;dsimp only at hp hfr htr⊢;have he2:=he.perm hp;have hsz:es2.size=es1.size:=by rw [<-Array.length_toList,hp.length_eq,Array.length_toList]
  have hb2:es2.size < scanBound:=by rw [hsz];exact hb1
  refine aCm (hg _ _ _ ?_);refine aCm (wpAny_storeSet_of ho1 rfl ?_ (fits_of_scanBound hb2));obtain ⟨_,hS2⟩:=store (knd:=knd) ho1 hex rfl he2 nd hb2 hfr htr;exact aCo (h _ (hsb1.trans (aDz _ a _)) hS2)
 ·exact aCo (h _ hsb1 hS1)
def nQ (ks:List K) (k:K):List K:=if k∈ks then ks else ks++[k]
theorem JQ {l:Bool} {a:Addr} {ks:List K} {k:K} {x:Value} {Q:Bool->Shared->Prop} (hkey:knd.is k x=true) (hsc:x.scannable=true) (hS:iT knd l s.heap a ks)
  (hroom:ks.length+1 < scanBound) (h:∀(b:Bool) h',Heap.SameBut a s.heap h' ->iT knd l h' a (nQ ks k)->Q b {s with heap:=h'}):
  wpAny (model prog w) A (setAddHashed a x (knd.hash k)) Q E s:=by
 obtain ⟨o,es,ep,t,ho,hex,hd,he,nd,hb,hf,ht⟩:=hS;have hn:=he.size;have hel:=he.elems;have hmem:=he.mem;have hb1:es.size+1 < scanBound:=by rw [hn];exact hroom
 unfold setAddHashed setAddHashedIn;refine aDm (aCm (aEw ho hd hf ?_));dsimp only;rw [byScan_of hsc hb hel];simp only [↓reduceIte];unfold setAddByScan;refine aCm ?_;refine aCm (aE2 ?_);refine aCm (wpAny_setScan_of hkey ho hd hf hel ?_)
 cases hr:List.findIdx? (λe=> knd.is k e.2) es.toList with
 | some j=>
  dsimp only;obtain ⟨hj,hpj,_⟩:=List.findIdx?_eq_some_iff_getElem.mp hr;have hSk:k∈ks:=(hmem k).mpr ⟨es.toList[j],aFe hj,hpj⟩;refine aCo (aCo ?_);have e:s={s with heap:=s.heap}:=by cases s;rfl
  have:=h false s.heap (Heap.SameBut.refl a s.heap) ⟨o,es,ep,t,ho,hex,hd,by unfold nQ;rw [if_pos hSk];exact he,by unfold nQ;rw [if_pos hSk];exact nd,hb,hf,ht⟩;rw [e];exact this
 | none=>
  dsimp only
  have hSk:k∉ks:=λhk=> by
   obtain ⟨e,he,hp⟩:=(hmem k).mp hk;have:=List.findIdx?_eq_none_iff.mp hr e he;rw [hp] at this;exact Bool.noConfusion this
  have hgw:∀(b:Bool) {s₁:Shared} {Q' :Unit->Shared->Prop},Q' () s₁->wpAny (model prog w) A (match b with | true=> rule "set.scan.the-table-gave-way" | false=> pure ()) Q' E s₁:=
   λb s₁ Q' hq=> by cases b <;> first | exact aCo hq | exact aE2 hq
  have hperm:=layNew_perm t es (knd.hash k) x;have hfits:=layNew_fits t es (knd.hash k) x;have htok:=ht.lay es (knd.hash k) x;generalize hL:layNew t es (knd.hash k) x=L at hperm hfits htok⊢;obtain ⟨es1,t1,wasDummy,gave⟩:=L;dsimp only at hperm hfits htok⊢;have he1:Es knd es1 (nQ ks k):=by unfold nQ;rw [if_neg hSk];exact (he.push hkey hsc).perm hperm
  have nd1:(nQ ks k).Nodup:=by
   unfold nQ;rw [if_neg hSk,List.nodup_append];exact ⟨nd,by simp,λa ha b hb=> by simp at hb;subst hb;exact λz=> hSk (z▸ha)⟩
  have hb1' :es1.size < scanBound:=by rw [<-Array.length_toList,hperm.length_eq,Array.length_toList,Array.size_push];exact hb1
  refine aCm (hgw _ ?_);split
  ·refine aCm ?_;rw [hashByValue_scannable 8 hsc];refine aCo ?_;refine HJ (l:=l) ?_ ho hex hd he1 nd1 hb1' ?_ ?_ ?_
   ·intro b s₁ Q' hq;cases b <;> first | exact aCo hq | exact aE2 hq
   ·split
    ·exact hfits
    ·exact SetTable.fits_plain_off hfits
   ·split
    ·exact htok
    ·exact htok.plain false
   ·intro h' hsb hS';dsimp only;exact aCo (h _ h' hsb hS')
  ·refine aCm (aCo ?_);simp only [↓reduceIte];refine HJ (l:=l) ?_ ho hex hd he1 nd1 hb1' hfits htok ?_
   ·intro b s₁ Q' hq;cases b <;> first | exact aCo hq | exact aE2 hq
   ·intro h' hsb hS';dsimp only;exact aCo (h _ h' hsb hS')
end
open PySem.Spec
def i7 (w:World):Bool:= !(w.params.followText "set-order")
section
variable {prog:Program} {w:World} {K:Type} [DecidableEq K] {knd:KeyKind prog w K} {A:Around} {E:Value->Shared->Prop} {s:Shared}
theorem FE {h:Heap} {a:Addr} (ho:h.get? a=some {cls:= .type "set",dict:=none,data:= .set #[] 0 (.fresh 0 0 (i7 w))}):iT knd (i7 w) h a []:=
 ⟨_,#[],0,_,ho,⟨rfl,rfl,rfl⟩,rfl,⟨[],rfl,by simp,λp hp=> by cases hp⟩,by simp,by decide,by rfl,.fresh 0 0 _⟩
def cX (ks:List K) (xs:List K):List K:=xs.foldl nQ ks
theorem NW (ks:List K) (k:K):(nQ ks k).length<=ks.length+1:=by unfold nQ;split <;> simp
theorem pB:∀(xs ks:List K),(cX ks xs).length<=ks.length+xs.length
 | [],ks=> by simp [cX]
 | x::xs,ks=> by
  have h1:=pB xs (nQ ks x);have h2:=NW ks x;simp only [cX,List.foldl_cons,List.length_cons] at*;omega
theorem L0 {ks:List K} {k j:K}:j∈nQ ks k↔j∈ks\/j=k:=by
 unfold nQ;split
 ·rename_i h;exact ⟨.inl,λz=> z.elim id λe=> e▸h⟩
 ·simp
theorem u9 {j:K}:∀{xs ks:List K},j∈cX ks xs↔j∈ks\/j∈xs
 | [],ks=> by simp [cX]
 | x::xs,ks=> by
  have:=u9 (j:=j) (xs:=xs) (ks:=nQ ks x);simp only [cX,List.foldl_cons] at*;rw [this,L0];simp [or_assoc]
theorem LX (a:Value) {Q₁:Value->Shared->Prop}
  (h:Q₁ (.ref s.heap.objs.size) {s with heap:=s.heap.push {cls:= .type "set",dict:=none,data:= .set #[] 0 (.fresh 0 0 (i7 w))}}):
  codeAny (model prog w) A (.call (.builtin "set.__new__") ⟨[.type "set",a],[]⟩) (wants Q₁ E) s:=by
 refine codeAny_of_tree ?_;show wpAny _ A.in1 (do checkBuiltinCall "set.__new__" ⟨[.type "set",a],[]⟩;again (.builtin "set.__new__" ⟨[.type "set",a],[]⟩)) _ _ s;refine aCm (aFo (F.newCall_set_1 a) (aCo ⟨aEh F.plain_set_new _,aE3 F.entry_set_new ?_⟩));rw [Around.under_plainId F.plain_set_new _];unfold Builtin.«set.__new__» Builtin.Frozenset.newClass;have hsub:=sub_set_self;obtain ⟨hp,g,d,tk,os⟩:=s;dsimp only
 wp_walk
 refine wpAny_askSetting (aCo ?_);dsimp only;simp only [newObj];refine aCm (wpAny_alloc (aCo ?_));exact aCo h
end
section
variable {prog:Program} {w:World} {K:Type} [DecidableEq K] {knd:KeyKind prog w K} {A:Around} {R:Result->Shared->Prop} {I:Addr} {fp wr:List Addr} {G:Array GenState->Array GenState->Prop} {n:Nat} {P:Nat->Value->Prop} {St:Nat->Shared->Prop}
theorem A8 {l:Bool} (W:WalksS prog w A.in1 I fp wr G n P St) (S:Addr) (hSf:S∉fp)
  (xs:List K) (hx:xs.length=n) (hval:∀i v,P i v->∃k,xs[i]? =some k/\knd.is k v=true/\v.scannable=true) (hb:n+1 < scanBound):
  ∀(k i:Nat) (s:Shared),n - i=k->i<=n->St i s->iT knd l s.heap S (cX [] (xs.take i))->
   (∀s',Moved (S::wr) G s s' ->iT knd l s'.heap S (cX [] xs)->R (.ok (.ret .none)) s')->
   codeAny (model prog w) A (.builtin "set.update.loop" ⟨[.ref S,.ref I],[]⟩) R s:=by
 have hSw:S∉wr:=λh=> hSf (W.sub _ h);have hsub:∀b∈wr,b∈S::wr:=λb hb=> aCr _ hb;intro k
 induction k with
 | zero=>
  intro i s hk hi hst hS hR;have hin:i=n:=by omega
  subst hin;refine aE3 aFi ?_;rw [Around.under_plainId PyProof.Rows.F.plain_set_update_loop _];show wpAny _ A.in1 (pyNext (.ref I) >>=_) _ _ s;refine aCm (W.done s _ _ hst λs' hm=> ?_);show wpAny _ A.in1 (ret Value.none) _ _ s';refine aCo (hR s' (hm.mono hsub) ?_);rw [List.take_of_length_le (by omega)] at hS;exact hS.keep λo e=> hm.heap S _ hSw e
 | succ k ih=>
  intro i s hk hi hst hS hR;have hlt:i < n:=by omega
  refine aE3 aFi ?_;rw [Around.under_plainId PyProof.Rows.F.plain_set_update_loop _];show wpAny _ A.in1 (pyNext (.ref I) >>=_) _ _ s;refine aCm (W.item i s _ _ hlt hst λv s' hP hst' hm=> ?_);obtain ⟨key,hkx,hkey,hsc⟩:=hval i v hP;have hS' :iT knd l s'.heap S (cX [] (xs.take i)):=hS.keep λo e=> hm.heap S _ hSw e;show wpAny _ A.in1 (holding [v] (setAdd S v) >>=_) _ _ s';refine aCm (aDm ?_);unfold setAdd;refine aDm ?_;refine aCm (knd.pyHash (k:=key) hkey ?_);have hroom:(cX [] (xs.take i)).length+1 < scanBound:=by have:=pB (xs.take i) [];simp at this;omega
  refine JQ (s:={s' with toks:=s'.toks+1}) hkey hsc hS' hroom λb h' hsb hS2=> ?_
  have hSi:iT knd l h' S (cX [] (xs.take (i+1))):=by
   rw [List.take_add_one,hkx];simpa [cX] using hS2
  refine aCo ⟨aEh PyProof.Rows.F.plain_set_update_loop _,ih (i+1) _ (by omega) hlt (W.frame _ s' _ _ hst' (aGk _) λb hb o e=> ?_) hSi λs'' hm'' hS'' => ?_⟩
  ·rw [hsb.2 b (λh:b=S=> hSf (by rw [<-h];exact hb))];exact e
  ·refine hR s'' (Moved.trans W.gtrans ((hm.mono hsub).then_heap (aGk _) λb o hb e=> ?_) hm'') hS'';rw [hsb.2 b (λh:b=S=> hb (by rw [h];exact List.mem_cons_self))];exact e
end
section
variable {prog:Program} {w:World} {K:Type} [DecidableEq K] {knd:KeyKind prog w K} {A:Around} {E:Value->Shared->Prop} {s:Shared}
theorem set_list {l:Addr} {items:Array Value} {xs:List K} {Q:Value->Shared->Prop}
  (hh:A.handled=none) (hl:s.heap.IsList l items) (hx:xs.length=items.size) (hi:∀(i:Nat) (v:Value),items[i]? =some v->∃k,xs[i]? =some k/\knd.is k v=true/\v.scannable=true) (hb:items.size+1 < scanBound)
  (h:∀(h' :Heap) (tk:Nat),iT knd (i7 w) h' s.heap.objs.size (cX [] xs)->
   (∀b o,b < s.heap.objs.size->s.heap.get? b=some o->h'.get? b=some o)->Q (.ref s.heap.objs.size) {s with heap:=h',toks:=tk}):
  wpAny (model prog w) A (call (.type "set") [.ref l]) Q E s:=by
 obtain ⟨c,tl,hmro⟩:=aF0.mro;have hmade:=aF0.made;have hsub:=aF0.sub;refine wpAny_call (codeAny_of_tree ?_);show wpAny _ _ (callAny (.type "set") _) _ _ _;refine aCo ⟨Code.quiet_builtin _ (by decide+kernel),aE3 F.entry_type_call ?_⟩;rw [Around.under_plain (weight_type_call_type "set" [.ref l] []) rfl];have h1:=aF0.notType;have h2:=aF0.canCreate;have hct:=F.typeCall_set_1 (.ref l)
 repeat (any_goals (first | assumption | wp_step))
 refine aFc (LX (.ref l) (E:=E) (Q₁:=λobj s₁=> obj= .ref s.heap.objs.size/\s₁={s with heap:=s.heap.push {cls:= .type "set",dict:=none,data:= .set #[] 0 (.fresh 0 0 (i7 w))}}) ⟨rfl,rfl⟩) λr s₁ hr=> ?_
 cases r with
 | error e=> exact hr
 | ok fl=>
  cases fl with
  | ret obj=>
   obtain ⟨rfl,rfl⟩:=hr;generalize hled:i7 w=led at*;have hS:(s.heap.push {cls:= .type "set",dict:=none,data:= .set #[] 0 (.fresh 0 0 led)}).get? s.heap.objs.size=some {cls:= .type "set",dict:=none,data:= .set #[] 0 (.fresh 0 0 led)}:=aCu _ rfl
   have hT:Shared.TypeIs {s with heap:=s.heap.push {cls:= .type "set",dict:=none,data:= .set #[] 0 (.fresh 0 0 led)}} (.ref s.heap.objs.size) "set":=⟨_,hS,rfl⟩
   have hli:=aF0.init.lookup;have hbi:=aF0.init.bind (.ref s.heap.objs.size)
   repeat (any_goals (first | assumption | wp_step))
   refine aFc (codeAny_call_builtin (R:=wants (λr s₂=> r= .none/\∃h' tk,s₂={s with heap:=h',toks:=tk}/\
     iT knd led h' s.heap.objs.size (cX [] xs)/\
     (∀b o,b < s.heap.objs.size->s.heap.get? b=some o->h'.get? b=some o)) E) aF0.init.plain F.entry_set_init (check_set_init_1 hT ?_)) λr₂ s₂ hr₂=> ?_
   ·obtain ⟨ol,hol,hcl,nl,hdl⟩:=hl;obtain ⟨ocls,odict,odata,oslots⟩:=ol;simp only at hcl hdl;subst hcl;subst hdl;have hol' :(s.heap.push {cls:= .type "set",dict:=none,data:= .set #[] 0 (.fresh 0 0 led)}).get? l=some {cls:= .type "list",dict:=odict,data:= .seq items nl,slots:=oslots}:=aCp _ hol;have hsls:=F.sub_list_set;have hslf:=F.sub_list_frozenset;have hne:(Value.type "list"==Value.type "dict")=false:=by decide
    have hl1:(s.heap.push {cls:= .type "set",dict:=none,data:= .set #[] 0 (.fresh 0 0 led)}).IsList l items:=⟨_,hol',rfl,nl,rfl⟩
    unfold Builtin.«set.__init__» noKeywords Builtin.Frozenset.updateFrom;generalize hPI:pyIter=PI
    wp_walk
    subst hPI;refine wpAny_pyIter_list hl1 ?_;refine aCm (wpAny_runValue ?_);have hlS:l < s.heap.objs.size:=aCx hol;have hh3:A.in1.in1.in1.handled=none:=by simp [hh]
    have hneI:l≠(s.heap.push {cls:= .type "set",dict:=none,data:= .set #[] 0 (.fresh 0 0 led)}).objs.size:=by
     rw [Heap.size_push];exact aD6 (aDx hlS)
    have hSf:s.heap.objs.size∉[(s.heap.push {cls:= .type "set",dict:=none,data:= .set #[] 0 (.fresh 0 0 led)}).objs.size,l]:=by
     rw [Heap.size_push];simp only [List.mem_cons,List.mem_singleton,List.not_mem_nil,or_false,not_or];exact ⟨aD6 (aEg _),aFb hlS⟩
    refine A8 (knd:=knd) (l:=led) ((Walks.list hh3 _ l hneI items).toS) s.heap.objs.size
     hSf xs hx hi hb (items.size - 0) 0 _ (by omega) (aEd _)
     ⟨⟨_,aCu _ rfl,rfl,rfl⟩,(hl1.push _)⟩ ?hS0 ?hR
    case hS0=>
     have hget:((s.heap.push {cls:= .type "set",dict:=none,data:= .set #[] 0 (.fresh 0 0 led)}).push {cls:= .type "list_iterator",data:= .fields #[.ref l,.int 0 0]}).get? s.heap.objs.size
       =some {cls:= .type "set",dict:=none,data:= .set #[] 0 (.fresh 0 0 led)}:=aCp _ hS
     subst hled;exact FE hget
    case hR=>
     intro s' hm hS';obtain ⟨h',g',d',tk',os'⟩:=s';have eg:g' =s.gens:=hm.gens;have ed:d' =s.drawn:=hm.drawn;have eo:os' =s.os:=hm.os;subst eg;subst ed;subst eo;show wpAny _ _ _ _ _ _;refine aCo ?_;show wpAny _ _ (ret Value.none) _ _ _;refine aCo ⟨rfl,h',tk',rfl,hS',λb o hb e=> ?_⟩;have hb1:b≠s.heap.objs.size:=aD6 hb
     have hb2:b≠(s.heap.push {cls:= .type "set",dict:=none,data:= .set #[] 0 (.fresh 0 0 led)}).objs.size:=by
      rw [Heap.size_push];exact aD6 (aDx hb)
     exact hm.heap b o (by simp only [List.mem_cons,List.mem_singleton,List.not_mem_nil,or_false,not_or];exact ⟨hb1,hb2⟩) (aCp _ (aCp _ e))
   ·cases r₂ with
    | error e=> exact hr₂
    | ok fl₂=>
     cases fl₂ with
     | ret r=>
      obtain ⟨rfl,h',tk,rfl,hS',hk'⟩:=hr₂
      repeat (any_goals (first | assumption | wp_step))
      exact h _ _ hS' hk'
     | _=> exact hr₂.elim
  | _=> exact hr.elim
end
theorem slot_next:Slot "set_iterator" "__next__" "set_iterator.__next__":=
 .of (owner:= "set_iterator") (n:= "__next__") (by rw [typeLookup_type,builtinLookup_eq_fast];kernel_rfl) (by decide+kernel) (by decide+kernel) (by decide+kernel)
  (by first | exact .inl (by decide+kernel) | exact .inr (by decide+kernel)) (by rw [isSubtype_type];kernel_rfl)
theorem w8:Slot "set_iterator" "__iter__" "set_iterator.__iter__":=
 .of (owner:= "set_iterator") (n:= "__iter__") (by rw [typeLookup_type,builtinLookup_eq_fast];kernel_rfl) (by decide+kernel) (by decide+kernel) (by decide+kernel)
  (by first | exact .inl (by decide+kernel) | exact .inr (by decide+kernel)) (by rw [isSubtype_type];kernel_rfl)
theorem entry_next:entryFor table "set_iterator.__next__"=some Builtin.«set_iterator.__next__»:=entryFor_of_tree (by kernel_rfl)
theorem BW:Manifest.owners.lookup (String.ofList "rotareti_tes".toList.reverse)=some Manifest.sig_set_iterator:=by kernel_rfl
theorem args_next (a:Value):argsOk "set_iterator.__next__" ⟨[a],[]⟩:=by
 unfold argsOk;rw [signature?_of (id:= "set_iterator.__next__") (n:= "__txen__".toList) (o:= "rotareti_tes".toList) (by kernel_rfl) BW];kernel_rfl
theorem vO:entryFor table "set.__iter__"=some Builtin.«frozenset.__iter__»:=
 entryFor_alias (id' := "frozenset.__iter__") (by kernel_rfl) rfl (by decide+kernel) (by kernel_rfl)
def mL (first:Value) (i:Nat) (a:Addr) (n ep:Nat):Obj:={cls:= .type "set_iterator",dict:=none,data:= .fields #[first,.int i 0,.ref a,.int n 0,.int ep 0],slots:= #[]}
section
variable {prog:Program} {w:World} {A:Around} {E:Value->Shared->Prop} {s:Shared} {it a:Addr} {first:Value} {i ep n:Nat} {o:Obj} {es:Array (Int×Value)} {t:SetTable}
theorem LV {slot nx:Nat} {x:Value} {Q:Option Value->Shared->Prop} (hit:s.heap.get? it=some (mL (.int slot 0) i a es.size ep)) (ho:s.heap.get? a=some o) (hd:o.data= .set es ep t) (hf:t.fits es.size=true)
  (hN:∀(A:Around) (E:Value->Shared->Prop) (Q:Option (Value×Nat)->Shared->Prop),Q (some (x,nx)) s->wpAny (model prog w) A (setNext a slot i ep) Q E s)
  (q:∀h',h'.get? it=some (mL (.int nx 0) (i+1) a es.size ep)->Heap.SameBut it s.heap h' ->Q (some x) {s with heap:=h'}):wpAny (model prog w) A (pyNext (.ref it)) Q E s:=by
 have ht:s.TypeIs (.ref it) "set_iterator":=⟨_,hit,rfl⟩
 unfold pyNext;refine aCm (aEb (aDa (name:=Str.ofString "__next__") ht slot_next (aD5 slot_next ht entry_next ?_ (args_next _))));unfold Builtin.«set_iterator.__next__»;refine aCm (m:=slotArgs "__next__" 0 _) (aCo ?_);refine aCm (aF9 hit rfl ?_);dsimp only;refine aCm (aEx ho hd hf ?_);rw [if_neg (show ¬(((es.size:Int) !=(es.size:Int))=true) by simp)];simp only [Int.toNat_natCast];refine aCm (hN _ _ _ ?_);dsimp only;refine aCm (aDk hit (by simp) λh1 g1 k1=> ?_);refine aCm (aDk g1 (by simp) λh2 g2 k2=> ?_);refine aCo ⟨x,rfl,aCo (q h2 ?_ (k1.trans k2))⟩;rw [g2];simp [mL,rawInt]
theorem w4 {B:Around} (hh:B.handled=none) {Q:Option Value->Shared->Prop} (h:∀h',(∀b u,s.heap.get? b=some u->h'.get? b=some u)->Q none {s with heap:=h'}):
  wpAny (model prog w) B (do let e<-newExc (.type "StopIteration") [];raiseNew e) (λ(fin:Fin) s' => ∃v,fin=Fin.done (Flow.ret v)/\wpAny (model prog w) A (pure (some v)) Q E s')
   (λe s' => wpAny (model prog w) A (do let b<-isInstance e (Value.type "StopIteration");if b=true then pure none else throw e) Q E s') s:=by
 refine aCm ?_;simp only [newExc,newTuple];refine aCm (aDc ?_ (by size_fits));refine aCm (m:=firstArgMember _ _) (aFo (a:=Value.none) (by first | rfl | (simp only [firstArgMember];rfl)) ?_);refine aDc ?_ (by size_fits);simp only [raiseNew];refine aCm (wpAny_handled ?_);rw [hh];refine aCm (aCo (wpAny_throw ?_));refine aCm (aFd (T:= "StopIteration") (b:=true) ⟨_,aCu _ rfl,rfl⟩ isSubtype_stop ?_);exact aCo (h _ λb u e=> aCp _ (aCp _ e))
theorem zE {slot:Nat} {Q:Option Value->Shared->Prop} (hh:A.handled=none) (hit:s.heap.get? it=some (mL (.int slot 0) i a es.size ep)) (ho:s.heap.get? a=some o) (hd:o.data= .set es ep t) (hf:t.fits es.size=true)
  (hN:∀(A:Around) (E:Value->Shared->Prop) (Q:Option (Value×Nat)->Shared->Prop),Q none s->wpAny (model prog w) A (setNext a slot i ep) Q E s)
  (q:∀h',Heap.ExtBut it s.heap h' ->Q none {s with heap:=h'}):wpAny (model prog w) A (pyNext (.ref it)) Q E s:=by
 have ht:s.TypeIs (.ref it) "set_iterator":=⟨_,hit,rfl⟩
 unfold pyNext;refine aCm (aEb (aDa (name:=Str.ofString "__next__") ht slot_next (aD5 slot_next ht entry_next ?_ (args_next _))));unfold Builtin.«set_iterator.__next__»;refine aCm (m:=slotArgs "__next__" 0 _) (aCo ?_);refine aCm (aF9 hit rfl ?_);dsimp only;refine aCm (aEx ho hd hf ?_);rw [if_neg (show ¬(((es.size:Int) !=(es.size:Int))=true) by simp)];simp only [Int.toNat_natCast];refine aCm (hN _ _ _ ?_);dsimp only;refine aCm (aDk hit (by simp) λh1 g1 k1=> ?_);exact w4 (B:=A.in1) (s:={s with heap:=h1}) (show A.in1.handled=none from hh) λh' k=> q h' λb u hb e=> k b u ((k1.2 b hb).trans e)
theorem LU {tp:Addr} {pl:Nat} {ns:List Nat} {x:Value} {Q:Option Value->Shared->Prop} (hit:s.heap.get? it=some (mL (.ref tp) i a es.size ep)) (ho:s.heap.get? a=some o) (hd:o.data= .set es ep t) (hf:t.fits es.size=true)
  (htp:s.heap.IsTuple tp (ns.map λ(k:Nat)=> rawInt k).toArray) (hns:ns[i]? =some pl) (hx:(es[pl]?).map (·.2)=some x)
  (q:∀h',h'.get? it=some (mL (.ref tp) (i+1) a es.size ep)->Heap.SameBut it s.heap h' ->Q (some x) {s with heap:=h'}):wpAny (model prog w) A (pyNext (.ref it)) Q E s:=by
 have ht:s.TypeIs (.ref it) "set_iterator":=⟨_,hit,rfl⟩
 obtain ⟨ot,hot,_,nt,hdt⟩:=htp;obtain ⟨⟨hx1,x'⟩,hx2,hx3⟩:=aDr.mp hx;simp only at hx3;subst hx3;unfold pyNext;refine aCm (aEb (aDa (name:=Str.ofString "__next__") ht slot_next (aD5 slot_next ht entry_next ?_ (args_next _))));unfold Builtin.«set_iterator.__next__»;refine aCm (m:=slotArgs "__next__" 0 _) (aCo ?_);refine aCm (aF9 hit rfl ?_);dsimp only;refine aCm (aEx ho hd hf ?_);rw [if_neg (show ¬(((es.size:Int) !=(es.size:Int))=true) by simp)];refine aCm (aDs hot hdt ?_);dsimp only;have e1:(ns.map λ(k:Nat)=> rawInt k).toArray[(i:Int).toNat]? =some (Value.int pl 0):=by simp [hns,rawInt]
 rw [e1];dsimp only;simp only [Int.toNat_natCast];refine aCm (m:=setNextDrawn a pl ep) ?_;unfold setNextDrawn;refine aCm (aEw ho hd hf ?_);dsimp only;rw [if_neg (by simp)];rw [hx2];dsimp only;refine aCo ?_;refine aCm (aDk hit (by simp) λh2 g2 k2=> ?_);refine aCo ⟨x',rfl,aCo (q h2 ?_ k2)⟩;rw [g2];simp [mL,rawInt]
theorem zD {tp:Addr} {ns:List Nat} {Q:Option Value->Shared->Prop} (hh:A.handled=none) (hit:s.heap.get? it=some (mL (.ref tp) i a es.size ep)) (ho:s.heap.get? a=some o) (hd:o.data= .set es ep t) (hf:t.fits es.size=true)
  (htp:s.heap.IsTuple tp (ns.map λ(k:Nat)=> rawInt k).toArray) (hns:ns[i]? =none)
  (q:∀h',Heap.ExtBut it s.heap h' ->Q none {s with heap:=h'}):wpAny (model prog w) A (pyNext (.ref it)) Q E s:=by
 have ht:s.TypeIs (.ref it) "set_iterator":=⟨_,hit,rfl⟩
 obtain ⟨ot,hot,_,nt,hdt⟩:=htp;unfold pyNext;refine aCm (aEb (aDa (name:=Str.ofString "__next__") ht slot_next (aD5 slot_next ht entry_next ?_ (args_next _))));unfold Builtin.«set_iterator.__next__»;refine aCm (m:=slotArgs "__next__" 0 _) (aCo ?_);refine aCm (aF9 hit rfl ?_);dsimp only;refine aCm (aEx ho hd hf ?_);rw [if_neg (show ¬(((es.size:Int) !=(es.size:Int))=true) by simp)];refine aCm (aDs hot hdt ?_);dsimp only;have e1:(ns.map λ(k:Nat)=> rawInt k).toArray[(i:Int).toNat]? =none:=by simpa using hns
 rw [e1];dsimp only;refine aCm (aDk hit (by simp) λh1 g1 k1=> ?_);refine aCm (aDk g1 (by simp) λh2 g2 k2=> ?_);exact w4 (B:=A.in1) (s:={s with heap:=h2}) (show A.in1.handled=none from hh) λh' k=> q h' λb u hb e=> k b u (((k1.trans k2).2 b hb).trans e)
end
theorem oX {α:Type}:∀{xs:List α} {i:Nat} (h:i < xs.length),(xs[i]::xs.eraseIdx i).Perm xs
 | x::xs,0,h=> .refl _
 | x::xs,i+1,h=> by
  simp only [List.getElem_cons_succ,List.eraseIdx_cons_succ];exact (List.Perm.swap x _ _).trans ((oX (by simpa using h)).cons x)
section
variable {M:Model} {A:Around} {E:Value->Shared->Prop}
theorem xZ {α:Type}:∀(n:Nat) (xs:List α) (s:Shared) (Q:List α->Shared->Prop),xs.length<=n->(∀ys d,ys.Perm xs->Q ys {s with drawn:=d})->wpAny M A (drawOrder n xs) Q E s
 | 0,[],s,Q,_,h=> by unfold drawOrder;exact aCo (h [] s.drawn (.refl _))
 | 0,x::xs,s,Q,hl,h=> by simp at hl
 | n+1,[],s,Q,_,h=> by unfold drawOrder;exact aCo (h [] s.drawn (.refl _))
 | n+1,x::xs,s,Q,hl,h=> by
  unfold drawOrder;refine aCm ?_;have hpos:0 < (x::xs).length:=by simp
  refine (λΓ p hΓ=> ⟨by simp,?_⟩:wpAny M A (choose .order (x::xs).length) _ E s);have hi:M.w.draws .order (s.drawn.get .order) % (x::xs).length < (x::xs).length:=Nat.mod_lt _ hpos;generalize M.w.draws .order (s.drawn.get .order) % (x::xs).length=i at hi;revert Γ p hΓ;show wpAny M A _ _ E _;refine aCo ?_;rw [List.getElem?_eq_getElem hi];dsimp only;refine aCm (xZ n ((x::xs).eraseIdx i) _ _ (by rw [List.length_eraseIdx_of_lt hi];simp at hl⊢;omega) λys d hy=> aCo (h _ d ?_));exact (hy.cons _).trans (oX hi)
end
theorem xH {α:Type} (next:Nat->Nat):∀(fuel k:Nat) (left:List α) (out:Array α),left.length<=fuel->(pickOrder.go next fuel k left out).toList.Perm (out.toList++left)
 | 0,k,left,out,h=> by
  have:left=[]:=aE1.mp (by omega);subst this;simp [pickOrder.go]
 | fuel+1,k,[],out,h=> by simp [pickOrder.go]
 | fuel+1,k,x::xs,out,h=> by
  unfold pickOrder.go
  have hi:next k % (x::xs).length < (x::xs).length:=Nat.mod_lt _ (by simp)
  rw [List.getElem?_eq_getElem hi];dsimp only
  generalize next k % (x::xs).length=i at hi
  have:=xH next fuel (k+1) ((x::xs).eraseIdx i) (out.push (x::xs)[i]) (by rw [List.length_eraseIdx_of_lt hi];simp at h⊢;omega)
  refine this.trans ?_;simp only [Array.toList_push,List.append_assoc,List.singleton_append];exact (oX hi).append_left _
theorem uU {α:Type} (next:Nat->Nat) (xs:Array α):(pickOrder next xs).toList.Perm xs.toList:=by
 unfold pickOrder
 have:=xH next xs.size 0 xs.toList #[] (by simp)
 simpa using this
section
variable {prog:Program} {w:World} {A:Around} {E:Value->Shared->Prop} {s:Shared} {a:Addr} {ep:Nat} {o:Obj} {es:Array (Int×Value)} {t:SetTable}
theorem nJ {Q:Bool->Shared->Prop} (h:Q (w.params.followText "set-order") s):wpAny (model prog w) A setsByText Q E s:=by
 unfold setsByText;exact aCm (wpAny_askSetting (aCo h))
def uF (t:SetTable):Nat->Nat
 | 0=> 0
 | i+1=> t.place.getD i 0+1
theorem FP {l:Bool} (ht:sN l t) {i:Nat} (hi:i<=t.place.size):below t.place (uF t i)=i:=by
 cases i with
 | zero=> exact FO ht.X3
 | succ i=>
  have:t.place.getD i 0=t.place[i]'(by omega):=by simp [Array.getD,show i < t.place.size by omega]
  show below t.place (t.place.getD i 0+1)=i+1;rw [this];exact FQ ht.X3 (by omega)
theorem JC (hf:t.fits es.size=true):t.place.size=es.size:=by
 simp only [SetTable.fits,Bool.and_eq_true,beq_iff_eq] at hf;exact hf.1
theorem ET {l:Bool} {i:Nat} {Q:Option (Value×Nat)->Shared->Prop} (ho:s.heap.get? a=some o) (hd:o.data= .set es ep t) (hf:t.fits es.size=true) (ht:sN l t) (hb:w.params.followText "set-order"=false) (hl:l=true)
  (hp:(!t.plain && decide (es.size > 1))=false) (hi:i<=es.size) (q:Q ((es[i]?).map λe=> (e.2,uF t (i+1))) s):wpAny (model prog w) A (setNext a (uF t i) i ep) Q E s:=by
 have hs:=JC hf;unfold setNext;refine aCm (aEw ho hd hf ?_);dsimp only;refine aCm (nJ ?_);rw [hb,if_neg Bool.false_ne_true];have e1:(if (!t.plain && decide (es.size > 1))=true then (unsupported "set_iterator.__next__:the-table-is-plain-no-more":Sem Unit) else pure ())=pure ():=by rw [hp];rfl
 show wpAny _ _ (if (!t.plain && decide (es.size > 1))=true then _ else _) Q E s;rw [hp,if_neg Bool.false_ne_true];have hled:t.led=true:=by rw [ht.led,hl]
 refine aCm ?_;show wpAny _ _ (if (!t.led && !es.isEmpty)=true then _ else _) _ E s;rw [hled];simp only [Bool.not_true,Bool.false_and,Bool.false_eq_true,if_false];refine aCo ?_;rw [FP ht (by omega)];by_cases h:i < es.size
 ·have e2:es[i]? =some es[i]:=by simp [h]
  have e3:t.place[i]? =some (t.place[i]'(by omega)):=by simp [show i < t.place.size by omega]
  rw [e2] at q⊢;rw [e3];have e4:t.place.getD i 0=t.place[i]'(by omega):=by simp [Array.getD,show i < t.place.size by omega]
  simp only [uF,e4,Option.map_some] at q;exact aCo q
 ·have e2:es[i]? =none:=by simp;omega
  rw [e2] at q⊢;exact aCo q
theorem IM {i:Nat} {Q:Option (Value×Nat)->Shared->Prop} (ho:s.heap.get? a=some o) (hd:o.data= .set es ep t) (hf:t.fits es.size=true) (hb:w.params.followText "set-order"=true)
  (q:Q (((pickOrder (w.params.setOrder a ep) es)[i]?).map λe=> (e.2,0)) s):wpAny (model prog w) A (setNext a 0 i ep) Q E s:=by
 unfold setNext;refine aCm (aEw ho hd hf ?_);dsimp only;refine aCm (nJ ?_);rw [hb,if_pos rfl];rw [if_neg (by simp)];refine aCm ?_;unfold setWalk;refine aCm (aEw ho hd hf ?_);dsimp only;refine aCm (nJ ?_);rw [hb,if_pos rfl];refine aCm (wpAny_askSetting ?_);exact aCo (aCo q)
end
theorem wI:entryFor table "set_iterator.__iter__"=some Builtin.«dict_keyiterator.__iter__»:=
 entryFor_alias (id' := "dict_keyiterator.__iter__") (by kernel_rfl) rfl (by decide+kernel) (by kernel_rfl)
theorem AR (a:Value):argsOk "set_iterator.__iter__" ⟨[a],[]⟩:=by
 unfold argsOk;rw [signature?_of (id:= "set_iterator.__iter__") (n:= "__reti__".toList) (o:= "rotareti_tes".toList) (by kernel_rfl) BW];kernel_rfl
theorem xD {α:Type}:∀l:List α,(List.range l.length).filterMap (λk=> l[k]?)=l
 | []=> rfl
 | x::l=> by
  have:=xD l;rw [List.length_cons,List.range_succ_eq_map,List.filterMap_cons];simp only [List.getElem?_cons_zero,List.filterMap_map,Function.comp_def,List.getElem?_cons_succ];rw [this]
section
variable {prog:Program} {w:World} {A:Around} {E:Value->Shared->Prop} {s:Shared}
theorem xR {it a:Addr} {first:Value} {i n ep:Nat} {Q:Value->Shared->Prop} (hit:s.heap.get? it=some (mL first i a n ep)) (h:Q (.ref it) s):wpAny (model prog w) A (pyIter (.ref it)) Q E s:=by
 have ht:s.TypeIs (.ref it) "set_iterator":=⟨_,hit,rfl⟩
 refine aF6 ht w8 (aD5 w8 ht wI ?_ (AR _));show wpAny _ _ (ret (.ref it)) _ _ s;exact aCo ⟨_,rfl,"set_iterator",_,ht,slot_next.lookup,h⟩
theorem A4 (hh:A.handled=none) {it a:Addr} (hne:a≠it) {o:Obj} {es:Array (Int×Value)} {ep:Nat} {t:SetTable} (hd:o.data= .set es ep t) (hf:t.fits es.size=true) (sl:Nat->Nat) (vs:List Value) (hlen:vs.length=es.size)
  (hN:∀(i:Nat),i<=es.size->∀(s:Shared),s.heap.get? a=some o->∀(A:Around) (E:Value->Shared->Prop) (Q:Option (Value×Nat)->Shared->Prop),Q ((vs[i]?).map λv=> (v,sl (i+1))) s->wpAny (model prog w) A (setNext a (sl i) i ep) Q E s):
  Walks prog w A it [it,a] [it] vs.length (λi v=> vs[i]? =some v) (λi h=> i<=es.size/\h.get? it=some (mL (.int (sl i) 0) i a es.size ep)/\h.get? a=some o) where
 sub:=λb hb=> by simp at hb;simp [hb]
 frame:=λ_ _ _ st hk=> ⟨st.1,hk it (by simp) _ st.2.1,hk a (by simp) _ st.2.2⟩
 item:=λi s Q E hi st hQ=> by
  have e:vs[i]? =some vs[i]:=by simp [hi]
  refine LV (x:=vs[i]) (nx:=sl (i+1)) st.2.1 st.2.2 hd hf (λA E Q q=> hN i st.1 s st.2.2 A E Q (by rw [e];exact q)) λh' g k=> ?_;refine hQ _ h' s.toks e ⟨by omega,g,(k.2 a hne).trans st.2.2⟩ λb u hb e=> (k.2 b (by simpa using hb)).trans e
 done:=λs Q E st hQ=> by
  rw [hlen] at st;refine zE hh st.2.1 st.2.2 hd hf (λA E Q q=> hN es.size (aCs _) s st.2.2 A E Q (by rw [List.getElem?_eq_none (by omega)];exact q)) λh' k=> ?_;exact hQ h' s.toks λb u hb e=> k b u (by simpa using hb) e
 self:=λ_ _ _ _ st hQ=> xR st.2.1 hQ
theorem J9 (hh:A.handled=none) {it a tp:Addr} (hne:a≠it) (hnt:tp≠it) {o:Obj} {es:Array (Int×Value)} {ep:Nat} {t:SetTable} (hd:o.data= .set es ep t) (hf:t.fits es.size=true) (ns:List Nat) (vs:List Value) (hlen:ns.length=vs.length)
  (hx:∀(i pl:Nat),ns[i]? =some pl->(es[pl]?).map (·.2)=vs[i]?):
  Walks prog w A it [it,a,tp] [it] vs.length (λi v=> vs[i]? =some v) (λi h=> h.get? it=some (mL (.ref tp) i a es.size ep)/\h.get? a=some o/\h.IsTuple tp (ns.map λ(k:Nat)=> rawInt k).toArray) where
 sub:=λb hb=> by simp at hb;simp [hb]
 frame:=λ_ _ _ st hk=> ⟨hk it (by simp) _ st.1,hk a (by simp) _ st.2.1,st.2.2.at λo e=> hk tp (by simp) o e⟩
 item:=λi s Q E hi st hQ=> by
  have e:vs[i]? =some vs[i]:=by simp [hi]
  have hin:i < ns.length:=by omega
  have en:ns[i]? =some ns[i]:=by simp [hin]
  refine LU (x:=vs[i]) st.1 st.2.1 hd hf st.2.2 en (by rw [hx i _ en,e]) λh' g k=> ?_;refine hQ _ h' s.toks e ⟨g,(k.2 a hne).trans st.2.1,st.2.2.extBut k.extBut hnt⟩ λb u hb e=> (k.2 b (by simpa using hb)).trans e
 done:=λs Q E st hQ=> by
  refine zD hh st.1 st.2.1 hd hf st.2.2 (by rw [List.getElem?_eq_none (by omega)]) λh' k=> ?_;exact hQ h' s.toks λb u hb e=> k b u (by simpa using hb) e
 self:=λ_ _ _ _ st hQ=> xR st.1 hQ
end
section
variable {prog:Program} {w:World} {K:Type} [DecidableEq K] {knd:KeyKind prog w K} {A:Around} {E:Value->Shared->Prop} {s:Shared}
def WR (knd:KeyKind prog w K) (ks:List K) (vs:List Value):Prop:=∃ps:List (K×Value),ps.map (·.2)=vs/\(ps.map (·.1)).Perm ks/\∀p∈ps,knd.is p.1 p.2=true
theorem Es.WJ {es:Array (Int×Value)} {ks:List K} (h:Es knd es ks) {l:List (Int×Value)} (p:l.Perm es.toList):WR knd ks (l.map (·.2)):=by
 obtain ⟨ps,h1,h2,h3⟩:=h;obtain ⟨ps',p1,p2⟩:=sC (·.2) p ps h1.symm;refine ⟨ps'.map λp=> (p.1,p.2.2),by rw [<-p2];simp,?_,λp hp=> ?_⟩
 ·have:=(p1.map (·.1)).trans h2;simpa [Function.comp_def] using this
 ·obtain ⟨q,hq,rfl⟩:=aD1.mp hp;exact (h3 q (p1.mem_iff.mp hq)).1
structure ItS (prog:Program) (w:World) (knd:KeyKind prog w K) (ks:List K) (a:Addr) (s s2:Shared) (I:Addr):Prop where
 kept:∀b u,s.heap.get? b=some u->s2.heap.get? b=some u
 new:s.heap.objs.size<=I
 same:s2.gens=s.gens/\s2.os=s.os/\s2.toks=s.toks
 walk:∃(fp:List Addr) (St:Nat->Heap->Prop) (vs:List Value),(∀A:Around,A.handled=none->Walks prog w A I fp [I] vs.length (λi v=> vs[i]? =some v) St)/\St 0 s2.heap/\(∀b∈fp,(b=a\/s.heap.objs.size<=b)/\b < s2.heap.objs.size)/\WR knd ks vs
theorem MJ {a:Addr} {ks:List K} {Q:Value->Shared->Prop} (hS:iT knd (i7 w) s.heap a ks) (h:∀I s2,ItS prog w knd ks a s s2 I->Q (.ref I) s2):wpAny (model prog w) A (pyIter (.ref a)) Q E s:=by
 have hT:=hS.typeIs;obtain ⟨o,es,ep,t,ho,hex,hd,he,nd,hb,hf,ht⟩:=hS;have hlt:=aCx ho;refine aF6 hT F.slot_set_iter (aD5 F.slot_set_iter hT vO ?_ (F.args_set_iter_1 _));unfold Builtin.«frozenset.__iter__»;refine aCm (m:=Builtin.Frozenset.slot0 "__iter__" _) (aCo ?_);refine aCm ?_;unfold Builtin.Frozenset.sizeOf;refine aCm (aEx ho hd hf (aCo ?_));refine aCm ?_;unfold setDrawn;refine aCm (aEw ho hd hf ?_);dsimp only;refine aCm (nJ (aCo ?_));show wpAny _ _ (if (!w.params.followText "set-order" && (!t.plain && decide (es.size > 1)))=true then _ else _) _ _ s;have hn:=he.size;by_cases hdr:(!w.params.followText "set-order" && (!t.plain && decide (es.size > 1)))=true
 ·rw [if_pos hdr];refine aCm (xZ es.size (List.range es.size) s _ (by simp) λns d hp=> ?_)
  have hsz:(ns.map λ(i:Nat)=> rawInt i).length<=sizeLine:=by
   have:=hp.length_eq;have:=fits_of_scanBound hb;simp at*;omega
  refine aCm (aF8 ?_ hsz);dsimp only;refine aCm (m:=setEpoch a) (wpAny_setEpoch_of (o:=o) (aCp _ ho) hd hf ?_);refine aCm (m:=newFields "set_iterator" _) (aDc ?_ (by size_fits));refine aCo ⟨_,rfl,"set_iterator",_,⟨_,aCu _ rfl,rfl⟩,slot_next.lookup,?_⟩;refine h _ _ ⟨λb u e=> aCp _ (aCp _ e),by simp [Heap.size_push],⟨rfl,rfl,rfl⟩,?_⟩;have hvs:∀k∈ns,k < es.size:=λk hk=> by simpa using hp.mem_iff.mp hk
  have pe:(ns.filterMap λk=> es[k]?).Perm es.toList:=by
   have h1:=hp.filterMap λk=> es[k]?;have h2:(List.range es.size).filterMap (λk=> es[k]?)=es.toList:=by simpa using xD es.toList
   rw [h2] at h1;exact h1
  have elen:(ns.filterMap λk=> es[k]?).length=ns.length:=by
   have:=pe.length_eq;have:=hp.length_eq;simp at*;omega
  have eget:∀(ns:List Nat),(∀k∈ns,k < es.size)->∀(i pl:Nat),ns[i]? =some pl->es[pl]? =(ns.filterMap λk=> es[k]?)[i]? :=by
   intro ns
   induction ns with
   | nil=> intro _ i pl hi;simp at hi
   | cons k ns ih=>
    intro hv i pl hi;have hk:=hv k (by simp)
    cases i with
    | zero=> simp at hi;subst hi;simp [hk]
    | succ i=>
     simp at hi;rw [ih (λj hj=> hv j (by simp [hj])) i pl hi];simp [hk]
  refine ⟨_,_,(ns.filterMap λk=> es[k]?).map (·.2),λA hh=> J9 (tp:=s.heap.objs.size) hh ?_ ?_ hd hf ns _ (by simp [elen]) λi pl hi=> by rw [eget ns hvs i pl hi,List.getElem?_map],⟨aCu _ rfl,aCp _ (aCp _ ho),?_⟩,?_,he.WJ pe⟩
  ·rw [Heap.size_push];exact aD6 (aDx hlt)
  ·rw [Heap.size_push];exact aD6 (aEg _)
  ·exact ⟨_,aCp _ (aCu _ rfl),rfl,_,rfl⟩
  ·intro b hb;simp only [List.mem_cons,List.not_mem_nil,or_false] at hb;simp only [Heap.size_push];rcases hb with rfl | rfl | rfl
   ·exact ⟨.inr (by simp only [Heap.size_push];exact aGk _),by simp only [Heap.size_push];exact aEg _⟩
   ·exact ⟨.inl rfl,aDx (aDx hlt)⟩
   ·exact ⟨.inr (aCs _),aDx (aEg _)⟩
 ·rw [if_neg hdr];refine aCm (aCo ?_);refine aCm (m:=setEpoch a) (wpAny_setEpoch_of ho hd hf ?_);refine aCm (m:=newFields "set_iterator" _) (aDc ?_ (by size_fits));refine aCo ⟨_,rfl,"set_iterator",_,⟨_,aCu _ rfl,rfl⟩,slot_next.lookup,?_⟩;refine h _ _ ⟨λb u e=> aCp _ e,aCs _,⟨rfl,rfl,rfl⟩,?_⟩;have hne:a≠s.heap.objs.size:=aD6 hlt
  cases hbt:w.params.followText "set-order" with
  | true=>
   have pe:=uU (w.params.setOrder a ep) es;refine ⟨_,_,(pickOrder (w.params.setOrder a ep) es).toList.map (·.2),λA hh=> A4 hh hne hd hf (λ_=> 0) _ (by have:=pe.length_eq;simp at*;omega) λi hi s' hs A E Q q=> IM hs hd hf hbt (by simpa [Function.comp_def] using q),⟨by omega,aCu _ rfl,aCp _ ho⟩,?_,he.WJ pe⟩;intro b hb;simp only [List.mem_cons,List.not_mem_nil,or_false] at hb;simp only [Heap.size_push];rcases hb with rfl | rfl
   ·exact ⟨.inr (aCs _),aEg _⟩
   ·exact ⟨.inl rfl,aDx hlt⟩
  | false=>
   have hp:(!t.plain && decide (es.size > 1))=false:=by
    rw [hbt] at hdr;simpa using hdr
   refine ⟨_,_,es.toList.map (·.2),λA hh=> A4 hh hne hd hf (uF t) _ (by simp) λi hi s' hs A E Q q=> ET hs hd hf ht hbt (by simp [i7,hbt]) hp hi (by simpa [Function.comp_def] using q),⟨by omega,aCu _ rfl,aCp _ ho⟩,?_,he.WJ (.refl _)⟩;intro b hb;simp only [List.mem_cons,List.not_mem_nil,or_false] at hb;simp only [Heap.size_push];rcases hb with rfl | rfl
   ·exact ⟨.inr (aCs _),aEg _⟩
   ·exact ⟨.inl rfl,aDx hlt⟩
end
open PySem.Calls
section
variable {prog:Program} {w:World} {K:Type} [DecidableEq K] {knd:KeyKind prog w K} {A:Around} {E:Value->Shared->Prop} {s:Shared} {a:Addr} {ks:List K}
theorem MQ {Q:Bool->Shared->Prop} (hT:s.TypeIs (.ref a) "set") (h:Q false s):wpAny (model prog w) A (Builtin.List.listLengthHint (.ref a)) Q E s:=by
 unfold Builtin.List.listLengthHint;refine aCm (aG6 hT PySem.F.slot_set_len.lookup ?_);generalize hid:("set.__len__":String)=id0
 wp_delta
 rw [show splitId id0=some ("set","__len__") from by subst hid;decide+kernel];subst hid;refine aCm (aFd (T:= "set") (b:=true) hT (by rw [isSubtype_type];kernel_rfl) ?_);refine aG7 (λhab=> absurd hab (by decide)) (λ_=> ?_);refine aG7 (λ_=> ?_) (λhab=> absurd (by decide+kernel) hab);refine aCm (aEk hT ?_);exact aCo h
theorem MK {vs:List Value} {acc:Array Value} (h:ItemsOf (λi v=> vs[i]? =some v) acc vs.length):acc=vs.toArray:=by
 apply Array.ext_getElem?;intro i;by_cases hi:i < vs.length
 ·have VG:i < acc.size:=by rw [h.1];exact hi
  have:=h.2 i acc[i] (by simp [VG]);simp [VG,this]
 ·simp [hi,h.1]
theorem EC {R:Result->Shared->Prop} (hS:iT knd (i7 w) s.heap a ks) (hh:A.handled=none) (S:Addr) (hSa:S≠a) (res:Value) (c₀:Nat) (hSl:s.heap.get? S=some {cls:= .type "list",data:= .seq #[] c₀})
  (hR:∀(s' :Shared) (vs:List Value) (c' :Nat),WR knd ks vs->s'.gens=s.gens->s'.os=s.os->(∀b o,b≠S->s.heap.get? b=some o->s'.heap.get? b=some o)->s'.heap.get? S=some {cls:= .type "list",dict:=none,data:= .seq vs.toArray c',slots:= #[]}->R (.ok (.ret res)) s')
  (hn:ks.length<=sizeLine):
  wpAny (model prog w) A.in1 (Builtin.List.listExtendWith (.ref S) (.ref a) res)
   (λfin s' => match fin with | .done f=> R (.ok f) s' | .again c' => c'.quiet=true/\codeAny (model prog w) A c' R s') (λe s' => R (.error e) s') s:=by
 have hSlt:=aCx hSl;unfold Builtin.List.listExtendWith;refine aCm (aEk (T:= "set") hS.typeIs ?_);have h1:Builtin.List.listSameRef (.ref S) (.ref a)=false:=by simp [Builtin.List.listSameRef,hSa]
 have h2:(Value.type "set"==Value.type "list")=false:=by decide
 have h3:(Value.type "set"==Value.type "tuple")=false:=by decide
 simp only [h1,h2,h3,Bool.or_false,Bool.false_eq_true,if_false];refine aCm (MJ hS λI s2 it=> ?_);obtain ⟨fp,St,vs,W,st,hfp,WJ⟩:=it.walk
 have hlen:vs.length=ks.length:=by
  obtain ⟨ps,e1,e2,_⟩:=WJ;have:=aE0 List.length e1;have:=e2.length_eq;simp at*;omega
 have hSf:S∉fp:=λhm=> by
  rcases (hfp S hm).1 with z | z
  ·exact hSa z
  ·exact absurd hSlt (Nat.not_lt.mpr z)
 have key:∀(h:Heap) (c₁ tk:Nat),St 0 h->(∀b o,b≠S->s.heap.get? b=some o->h.get? b=some o)->
   h.get? S=some {cls:= .type "list",data:= .seq #[] c₁}->codeAny (model prog w) A (.builtin "list.extend.loop" ⟨[.ref S,.ref I,res],[]⟩) R {s2 with heap:=h,toks:=tk}:=by
  intro h c₁ tk hst hk hS₁;refine codeAny_extend_loopS (W A.in1 hh).toS (by omega) S hSf res vs.length 0 _ #[] c₁ rfl (aEd _) hst hS₁ (ItemsOf.nil _) λs' acc' c' hm hS' hacc=> ?_;rw [MK hacc] at hS';refine hR s' vs c' WJ (hm.gens.trans it.same.1) (hm.os.trans it.same.2.1) (λb o hb e=> hm.heap b o (λhmem=> ?_) (hk b o hb e)) hS';rcases aCv.mp hmem with e' | hmem
  ·exact hb e'
  ·rw [List.mem_singleton.mp hmem] at e;exact absurd (aCx e) (Nat.not_lt.mpr it.new)
 have hS₁:=it.kept _ _ hSl;have hSet2:iT knd (i7 w) s2.heap a ks:=hS.keep λo e=> it.kept _ _ e;refine aCm (aDm (MQ hSet2.typeIs ?_));refine aG7 (λ_=> ?_) (λ_=> aCo ⟨aEh PySem.F.plain_extend_loop _,key s2.heap c₀ s2.toks st (λb o _ e=> it.kept _ _ e) hS₁⟩);refine aCm (aE2 ?_);refine aCm ?_;show wpAny _ _ (updateSeq S (·.push .none) >>=λ_=> updateSeq S (·.pop)) _ _ _;refine aCm (aE5 hS₁ rfl ?_);have hS₂:=aDv (Obj.mapSeq (·.push Value.none)) hS₁ rfl;refine aE5 (hz:=by seq_fits) hS₂ rfl ?_;have hS₃:=aDv (Obj.mapSeq (·.pop)) hS₂ rfl;refine aCo ⟨aEh PySem.F.plain_extend_loop _,key _ _ s2.toks ?_ (λb o hb e=> ?_) hS₃⟩
 ·refine (W A.in1 hh).frame 0 _ _ st λb hb o e=> ?_;have hbS:b≠S:=λh=> hSf (h▸hb);exact (aDl _ _ (aDw hbS)).trans ((aDl _ _ (aDw hbS)).trans e)
 ·exact (aDl _ _ (aDw hb)).trans ((aDl _ _ (aDw hb)).trans (it.kept _ _ e))
theorem BG {R:List Value->Shared->Prop} (hS:iT knd (i7 w) s.heap a ks) (hh:A.handled=none) (hn:ks.length<=sizeLine)
  (h:∀(s' :Shared) (vs:List Value),WR knd ks vs->s'.gens=s.gens->s'.os=s.os->(∀b o,s.heap.get? b=some o->s'.heap.get? b=some o)->R vs s'):
  wpAny (model prog w) A (collect (.ref a)) R E s:=by
 have hlt:a < s.heap.objs.size:=by obtain ⟨o,_,_,_,ho,_⟩:=hS;exact aCx ho
 unfold collect;refine aCm (wpAny_runValue (aE3 PySem.F.entry_proto_collect ?_));rw [Around.under_plainId PySem.F.plain_proto_collect _];show wpAny _ A.in1 (newList [] >>=λl=> again (.builtin "list.__iadd__" ⟨[l,.ref a],[]⟩)) _ _ s;refine aCm (aDc ?_);refine aCo ⟨aEh PySem.F.plain_list_iadd _,aE3 PySem.F.entry_list_iadd ?_⟩;rw [Around.under_plainId PySem.F.plain_list_iadd _];have hS₁:(s.heap.push {cls:= .type "list",data:= .seq ([]:List Value).toArray}).get? s.heap.objs.size=some {cls:= .type "list",data:= .seq #[]}:=aCu _ rfl;show wpAny _ A.in1 (Builtin.List.listExtendWith (.ref s.heap.objs.size) (.ref a) (.ref s.heap.objs.size)) _ _ _
 have key:=EC (A:=A) (s:={s with heap:=s.heap.push {cls:= .type "list",data:= .seq ([]:List Value).toArray}}) (knd:=knd) (ks:=ks)
  (R:=λ(q:Result) (s' :Shared)=> ∃(vs:List Value) (c' :Nat),q= .ok (.ret (.ref s.heap.objs.size))/\WR knd ks vs/\s'.gens=s.gens/\s'.os=s.os/\
   (∀b o,s.heap.get? b=some o->s'.heap.get? b=some o)/\s'.heap.get? s.heap.objs.size=some {cls:= .type "list",dict:=none,data:= .seq vs.toArray c',slots:= #[]})
  (hS.keep λo e=> aCp _ e) hh s.heap.objs.size (aFb hlt) (.ref s.heap.objs.size) 0 hS₁
  (λs' vs c' hv hg ho hk hS' => ⟨vs,c',rfl,hv,hg,ho,λb o e=> hk b o (aD6 (aCx e)) (aCp _ e),hS'⟩) hn
 refine aEf key (λfin s' x=> ?_) λe s' x=> ?_
 ·cases fin with
  | done f=>
   obtain ⟨vs,c',e,hv,hg,ho,hk,hS'⟩:=x;cases e;show wpAny _ A (load s.heap.objs.size >>=_) _ _ _;refine aCm (aGc hS' ?_);exact aCo (by simpa using h s' vs hv hg ho hk)
  | again c₁=>
   refine ⟨x.1,aFc x.2 λq s₂ y=> ?_⟩;obtain ⟨vs,c',rfl,hv,hg,ho,hk,hS'⟩:=y;show wpAny _ A (load s.heap.objs.size >>=_) _ _ _;refine aCm (aGc hS' ?_);exact aCo (by simpa using h s₂ vs hv hg ho hk)
 ·obtain ⟨_,_,e',_⟩:=x;cases e'
end
end ST
namespace TS
open PySem PySem.Spec PyProof.Rows L2
section
variable {prog:Program} {w:World} {A:Around} {E:Value->Shared->Prop} {s:Shared} {lt:Value×Value->Value×Value->Bool}
theorem KO (O:Wk lt) {Q:Value->Shared->Prop} {r:Addr} {Ok:List Value->Shared->Prop}
  (coll:∀(E:Value->Shared->Prop) (R:List Value->Shared->Prop),(∀vs s',Ok vs s' ->R vs s')->wpAny (model prog w) A.in1 (collect (.ref r)) R E s)
  (h64:∀vs s',Ok vs s' ->vs.length < 4000)
  (ck:∀vs s',Ok vs s' ->∃κ,2<=vs.length->∀h' :Heap,(∀b o,s'.heap.get? b=some o->h'.get? b=some o)->
   nL prog w A.in1.in1 {s' with heap:=h'} κ lt (pairsOf vs)/\∀Q' E',Q' κ {s' with heap:=h'}->wpAny (model prog w) A.in1.in1 (keyKind' vs.toArray) Q' E' {s' with heap:=h'})
  (h:∀vs s',Ok vs s' ->∀out:List Value,out.Perm vs->out.Pairwise (λx y=> lt (y,y) (x,x)=false)->∀(h2:Heap) (ep:Nat),(∀b o,s'.heap.get? b=some o->h2.get? b=some o)->
   h2.get? s'.heap.objs.size=some (seqObj "list" out.toArray ep)->Q (.ref s'.heap.objs.size) {s' with heap:=h2}):
  wpAny (model prog w) A (call (.builtin "sorted") [.ref r]) Q E s:=by
 have zl:sizeLine=16777216:=aDe;refine aFg kind_sorted plain_sorted entry_sorted (args_sorted1 _) ?_;unfold Builtin.«sorted»;refine aCm (m:=checkCount "sorted" 1 1 _) (aCo ?_);refine aCm (coll _ _ λvs s' ok=> ?_);have hsz:=h64 vs s' ok;obtain ⟨κ,ck⟩:=ck vs s' ok;refine aCm (aGl ?_ (by omega));have ob:(s'.heap.push (seqObj "list" vs.toArray 0)).get? s'.heap.objs.size=some (seqObj "list" vs.toArray 0):=aCu _ rfl;refine aCm (aDm (aD5 slot_list_sort ⟨_,ob,rfl⟩ entry_list_sort (EA (κ:=κ) (s:={s' with heap:=s'.heap.push (seqObj "list" vs.toArray 0)}) O ob (by omega) (λh2 h' k=> ?_) λout p1 p2=> ⟨_,rfl,aCo ⟨_,rfl,?_⟩⟩) (args_list_sort _)))
 ·obtain ⟨c1,c2⟩:=ck h2 h' λb o e=> k b o (aD6 (aCx e)) (aCp _ e);exact ⟨c1,λQ' q=> c2 Q' _ q⟩
 ·obtain ⟨ep,he⟩:=sortedHeap_at (out:=out.toArray) ob;refine h vs s' ok out p1 p2 _ ep (λb o e=> ?_) he;have lb:=aCx e;have hb:b < (s'.heap.push (seqObj "list" vs.toArray 0)).objs.size:=by rw [size_push'];exact aDx lb
  rw [sortedHeap_old (Nat.ne_of_lt lb) hb];exact aCp _ e
end
end TS
namespace D3
open PySem PySem.Spec PyProof.Rows L2
def JU (P:Program) (w:World) (p:Addr) (ks:List Key):HO:= .ext λh=> ST.iT (bA P w) (ST.i7 w) h p ks
theorem OW {P:Program} {w:World} {H:Hp} {h:Heap} {p:Addr} {ks:List Key} (x:ST.iT (bA P w) (ST.i7 w) h p ks):dM P w H h p (JU P w p ks):=
 ⟨x,by obtain ⟨o,_,_,_,ho,_⟩:=x;exact ⟨o,ho⟩,λh1 h2 q k=> q.keep λo e=> k o e⟩
section
variable {X:Cx}
theorem Inv.drawn {pins:List (Addr×Obj)} {σ:L2.St} {H:Hp} {s s' :Shared} (I:Inv X pins σ H s) (hg:s'.gens=s.gens) (ho:s'.os=s.os) (hk:∀b o,s.heap.get? b=some o->s'.heap.get? b=some o):Inv X pins σ H s' :=by
 have J:Inv X pins σ H {s with heap:=s'.heap,toks:=s'.toks}:=I.kept (t' :=s'.toks) hk;obtain ⟨a1,a2,a3,a4,a5,a6,a7,a8,a9,a10,a11⟩:=J;exact ⟨a1,by rw [ho];exact a2,by rw [hg];exact a3,a4,a5,a6,a7,a8,a9,a10,a11⟩
theorem wW {P:Program} {w:World}:∀{ks:List Key} {us:List Value},Vals (ks.map kV) us->ks.length=us.length/\∀(i:Nat) (v:Value),us[i]? =some v->∃k,ks[i]? =some k/\(bA P w).is k v=true/\v.scannable=true
 | [],us,r=> by cases r;exact ⟨rfl,λi v h=> by simp at h⟩
 | k::ks,us,r=> by
  cases r with
  | cons a b=>
   obtain ⟨e,f⟩:=wW (P:=P) (w:=w) b;refine ⟨by simp [e],λi v h=> ?_⟩
   cases i with
   | zero=>
    simp at h;subst h;refine ⟨k,rfl,vG a,?_⟩
    cases k with
    | inl i=> obtain ⟨t,rfl⟩:=a;rfl
    | inr x=> obtain ⟨t,rfl⟩:=a;rfl
   | succ i=> exact f i v (by simpa using h)
theorem JK (hc:X.calm=true):cR X (.type "set") (λxs H Q=> ∃(a:Addr) (ks:List Key),xs=[.ref a]/\pD X.K H a (ks.map kV)/\ks.length+1 < scanBound/\∀p,H p=none->Q (.ref p) (upd H p (JU X.prog X.w p (ST.cX [] ks)))):=by
 intro pins s σ H xs us Q I r q;obtain ⟨a,ks,rfl,sq,hb,q⟩:=q;obtain ⟨u,rfl,ru⟩:=vals1 r;cases ru;obtain ⟨aL,rv,pl,hz⟩:=I.list sq;obtain ⟨e1,e2⟩:=wW (P:=X.prog) (w:=X.w) rv;refine ST.set_list (knd:=bA X.prog X.w) (I.ok.hd hc) pl.isList (xs:=ks) (by simpa using e1) (λi v h=> e2 i v (by simpa using h)) (by simp;omega) λh' tk hS hk=> ?_;exact ⟨.ref s.heap.objs.size,_,I.laid (a:=s.heap.objs.size) (o:=JU X.prog X.w s.heap.objs.size (ST.cX [] ks)) (t' :=tk) (λb o e=> hk b o (aCx e) e) (aCs _) (OW hS),rfl,q _ (I.cG.fresh (aCs _))⟩
theorem TF {pins:List (Addr×Obj)} {σ:L2.St} {H:Hp} {s:Shared} {p:Addr} {ks:List Key} (I:Inv X pins σ H s) (e:H p=some (JU X.prog X.w p ks)):ST.iT (bA X.prog X.w) (ST.i7 X.w) s.heap p ks:=(I.cG p _ e).1
theorem pQ {P:Program} {w:World} {h:Heap}:∀{ps:List (Key×Value)},(∀p∈ps,(bA P w).is p.1 p.2=true)->fM h (ps.map λp=> bI p.1) (ps.map (·.2))
 | [],_=> by simp [fM]
 | p::ps,hp=> by
  simp only [List.map_cons];unfold fM;refine ⟨_,_,rfl,?_,pQ λq hq=> hp q (aCr _ hq)⟩;have:=hp p aCq
  rcases cA (k:=p.1) (v:=p.2) this with ⟨i,t,e1,e2⟩ | ⟨x,t,e1,e2⟩
  ·rw [e1,e2];simp only [bI];unfold Vl;exact ⟨t,rfl⟩
  ·rw [e1,e2];simp only [bI];unfold Vl;exact ⟨t,rfl⟩
theorem KJ {ds es:List D} (U:JS ds) (p:es.Perm ds):JS es:=by
 rcases U with ⟨c,h⟩ | ⟨c,cs,h⟩
 ·exact .inl ⟨c,λd hd=> h d (p.mem_iff.mp hd)⟩
 ·exact .inr ⟨c,cs,λd hd=> h d (p.mem_iff.mp hd)⟩
theorem vW (hu:X.A.units+64 < cLine) (hc:X.calm=true):cR X (.builtin "sorted") (λxs H Q=> ∃(p:Addr) (ks:List Key),xs=[.ref p]/\H p=some (JU X.prog X.w p ks)/\ks.length < 4000/\JS (ks.map bI)/\
  ∀ks' :List Key,ks'.Perm ks->(ks'.map bI).Pairwise (λd e=> lx (enc e) (enc d)=false)->∀q,H q=none->Q (.ref q) (upd H q (.lst (ks'.map kV)))):=by
 intro pins s σ H xs us Q I r q;obtain ⟨p,ks,rfl,e,h64,U,q⟩:=q;obtain ⟨u,rfl,ru⟩:=vals1 r;cases ru;have hS:=TF I e;have sz:=aDe;have u2:X.A.in1.in1.units+40 < cLine:=by show X.A.units+1+1+40 < _;omega
 refine TS.KO (A:=X.A) (EZ s.heap) (Ok:=λvs s' => ST.WR (bA X.prog X.w) ks vs/\s'.gens=s.gens/\s'.os=s.os/\∀b o,s.heap.get? b=some o->s'.heap.get? b=some o)
  (λE R hR=> ST.BG (A:=X.A.in1) hS (I.ok.hd hc) (by omega) λs' vs hv hg ho hk=> hR vs s' ⟨hv,hg,ho,hk⟩) ?_ ?_ ?_
 ·rintro vs s' ⟨⟨ps,e1,e2,e3⟩,_⟩;have a1:=aE0 List.length e1;have a2:=e2.length_eq;simp at a1 a2;omega
 ·rintro vs s' ⟨⟨ps,rfl,e2,e3⟩,hg,ho,hk⟩;have vl:fM s.heap (ps.map λp=> bI p.1) (ps.map (·.2)):=pQ e3;have U2:JS (ps.map λp=> bI p.1):=KJ U (by have:=e2.map bI;simpa [Function.comp_def] using this);by_cases h2:2<=(ps.map (·.2)).length
  ·obtain ⟨κ,hk2⟩:=uD (prog:=X.prog) (w:=X.w) (A:=X.A.in1.in1) (s:={s' with heap:=s.heap}) u2 U2 vl h2;exact ⟨κ,λ_ h' k=> hk2 h' λb o e=> k b o (hk b o e)⟩
  ·exact ⟨general',λz=> absurd z h2⟩
 ·rintro vs s' ⟨⟨ps,rfl,e2,e3⟩,hg,ho,hk⟩ out p1 p2 h2 ep kept he;obtain ⟨ps',p3,p4⟩:=jV (·.2) p1 ps rfl;have h4:∀p∈ps',(bA X.prog X.w).is p.1 p.2=true:=λp hp=> e3 p (p3.mem_iff.mp hp);have I0:Inv X pins σ H s' :=Inv.drawn I hg ho hk;have pk:(ps'.map (·.1)).Perm ks:=(p3.map _).trans e2
  have pw:((ps'.map (·.1)).map bI).Pairwise (λd e=> lx (enc e) (enc d)=false):=by
   rw [<-p4] at p2;rw [List.pairwise_map] at p2;rw [List.pairwise_map,List.pairwise_map];refine p2.imp_of_mem λ{t t'} m m' hh=> ?_
   have v1:Vl s.heap (bI t.1) t.2:=by
    have:=pQ (h:=s.heap) (ps:=[t]) (P:=X.prog) (w:=X.w) λq hq=> by simp at hq;subst hq;exact h4 _ m
    simp only [List.map_cons,List.map_nil] at this;unfold fM at this;obtain ⟨u,r,e,v,_⟩:=this;cases e;exact v
   have v2:Vl s.heap (bI t'.1) t'.2:=by
    have:=pQ (h:=s.heap) (ps:=[t']) (P:=X.prog) (w:=X.w) λq hq=> by simp at hq;subst hq;exact h4 _ m'
    simp only [List.map_cons,List.map_nil] at this;unfold fM at this;obtain ⟨u,r,e,v,_⟩:=this;cases e;exact v
   unfold ltV at hh;rw [oE v1,oE v2] at hh;exact hh
  have ln:((ps'.map (·.1)).map kV).length<=sizeLine:=by have:=pk.length_eq;simp at*;omega
  have vv:Vals ((ps'.map (·.1)).map kV) out:=by
   rw [<-p4];clear p3 p4 pk pw ln
   induction ps' with
   | nil=> exact .nil
   | cons p ps' ih=> exact .cons (BJ (h4 p aCq)) (ih λq hq=> h4 q (aCr _ hq))
  have I1:Inv X pins σ (upd H s'.heap.objs.size (.lst ((ps'.map (·.1)).map kV))) {s' with heap:=h2}:=
   I0.laid (h' :=h2) (t' :=s'.toks) kept (aCs _) ⟨ln,out,ep,vv,he⟩
  exact ⟨.ref s'.heap.objs.size,_,I1,rfl,q _ pk pw _ (I0.cG.fresh (aCs _))⟩
end
def oM (w:WE):WE:=λρ mh Q=> w ρ mh λx mh1=> ∃ks:List Key,nO mh1 x=some (ks.map bI)/\ks.length < 4000/\JS (ks.map bI)/\
 ∀ks' :List Key,(∀k,k∈ks' ↔k∈ks)->ks'.Nodup->ks'.length<=ks.length->(ks'.map bI).Pairwise (λd e=> lx (enc e) (enc d)=false)->Q (.ref mh1.length) (mh1++[.lst (ks'.map bI)])
@[simp] theorem RS (w:WE) (ρ:gV) (mh:MH) (Q:DK):oM w ρ mh Q↔w ρ mh λx mh1=> ∃ks:List Key,nO mh1 x=some (ks.map bI)/\ks.length < 4000/\JS (ks.map bI)/\
 ∀ks' :List Key,(∀k,k∈ks' ↔k∈ks)->ks'.Nodup->ks'.length<=ks.length->(ks'.map bI).Pairwise (λd e=> lx (enc e) (enc d)=false)->Q (.ref mh1.length) (mh1++[.lst (ks'.map bI)]):=aDh
theorem ES {ks:List Key} (h:ks.Nodup) (k:Key):(ST.nQ ks k).Nodup:=by
 unfold ST.nQ;split
 ·exact h
 ·rename_i hk;rw [List.nodup_append];exact ⟨h,by simp,λa ha b hb=> by simp at hb;subst hb;exact λz=> hk (z▸ha)⟩
theorem p9:∀{xs ks:List Key},ks.Nodup->(ST.cX ks xs).Nodup
 | [],ks,h=> h
 | x::xs,ks,h=> p9 (xs:=xs) (ES h x)
section
variable {X:Cx} {e:Expr} {w:WE} {p1 p2 p3 pos:Pos}
theorem PQ {te:TE} (hc:X.calm=true) (hm:X.mg "set"=none) (he:PE X e te) (hg:Gl X "set":=by rfl)
  (hs:starEach [e] X.env=(false,eval e X.env)::starEach [] X.env:=by rfl):PE X (.Call (.Name "set" p2) [e] [] p3) (ZW (λxs H Q=> ∃(a:Addr) (ks:List Key),xs=[.ref a]/\pD X.K H a (ks.map kV)/\ks.length+1 < scanBound/\∀p,H p=none->Q (.ref p) (upd H p (JU X.prog X.w p (ST.cX [] ks)))) (RQ te XI)):=
 xJ (JK hc) hg hm V2 (y9 he EN hs) (by decide) (by decide) hs rfl
theorem zK (hu:X.A.units+64 < cLine) (hc:X.calm=true) (hm:X.mg "set"=none) (hms:X.mg "sorted"=none) (he:LE X e w) (hg:Gl X "set":=by rfl) (hgs:Gl X "sorted":=by rfl)
  (hs:starEach [e] X.env=(false,eval e X.env)::starEach [] X.env:=by rfl)
  (hs2:starEach [.Call (.Name "set" p2) [e] [] p3] X.env=(false,eval (.Call (.Name "set" p2) [e] [] p3) X.env)::starEach [] X.env:=by rfl):
  LE X (.Call (.Name "sorted" p1) [.Call (.Name "set" p2) [e] [] p3] [] pos) (oM w):=
 PE.imp (BV (vW hu hc) hgs hms j4 (y9 (PQ hc hm he hg hs) EN hs2) (by decide) (by decide) hs2 rfl) λσ H Q h=> by
  obtain ⟨μ,ρ,mh,R,RR,E,h,F⟩:=h;refine ⟨μ,ρ,mh,_,RR,E,h,λdx mh1 h1 μ1 vx H1 P1 R1 I1=> ?_⟩;obtain ⟨ks,hl,h64,U,q⟩:=h1;obtain ⟨a,vs,rfl,sq,l⟩:=vA R1 I1 hl;cases xW l;have hlen:=ST.pB ks ([]:List Key);simp at hlen;have hmem:∀k,k∈ST.cX [] ks↔k∈ks:=λk=> by rw [ST.u9];simp
  refine ⟨a,ks,rfl,sq,by unfold scanBound;omega,λp hp=> ?_⟩;show ∃p' ks',[V.ref p]=[.ref p']/\_;refine ⟨p,ST.cX [] ks,rfl,cE,by omega,?_,λks' pk pw=> ?_⟩
  ·rcases U with ⟨c,hc⟩ | ⟨c,cs,hc⟩
   ·exact .inl ⟨c,λd hd=> by obtain ⟨k,hk,rfl⟩:=aD1.mp hd;exact hc _ (aD1.mpr ⟨k,(hmem k).mp hk,rfl⟩)⟩
   ·exact .inr ⟨c,cs,λd hd=> by obtain ⟨k,hk,rfl⟩:=aD1.mp hd;exact hc _ (aD1.mpr ⟨k,(hmem k).mp hk,rfl⟩)⟩
  ·exact hZ (R1.new hp) (F.at (P1.trans (aU.new R1 hp))) (zR ks') (q ks' (λk=> by rw [pk.mem_iff,hmem]) (pk.symm.nodup (p9 (by simp))) (by have:=pk.length_eq;omega) pw)
end
def UL:Expr->Bool
 | .Starred .. => false
 | _=> true
def IL:List Expr->Bool
 | []=> true
 | e::es=> UL e && IL es
theorem uB {e:Expr} {es:List Expr} {env:Env} (h:UL e=true):starEach (e::es) env=(false,eval e env)::starEach es env:=by
 cases e <;> first | rfl | (simp [UL] at h)
theorem pU {pos:Pos} {env:Env}:∀{es:List Expr},IL es=true->(backTo pos (starEach es env)).any (·.1)=false
 | [],_=> rfl
 | e::es,h=> by
  unfold IL at h;rw [Bool.and_eq_true] at h;rw [uB h.1];show (false || (backTo pos (starEach es env)).any (·.1))=false;rw [pU h.2];rfl
section
variable {X:Cx} {e:Expr} {es:List Expr} {w:WE} {wr wa:WA} {pos p:Pos} {x:Str}
theorem aE (ha:LE X e w) (hr:LA X es wr) (h:UL e=true:=by rfl):LA X (e::es) (aB w wr):=QS ha hr (uB h)
theorem cH {k:Nat} {ps:List Str} {s:OA} (F:Fn X.prog X.w X.K X.mg X.base k x ps s) (hr:gI k X.A) (ha:LA X (e::es) wr) (hg:Gl X x:=by rfl) (hdb:(x==("__debug__":Str))=false:=by decide)
  (h:UL e=true:=by rfl) (h2:IL es=true:=by rfl):LE X (.Call (.Name x p) (e::es) [] pos) (aJ s wr):=MB F hr ha hg hdb (uB h) (pU h2)
theorem d7 {id:String} {f:OA} (hc:cR X (.builtin id) (fA X.K f)) (hm:X.mg x=none) (hv:bootBuiltins x=some (.builtin id)) (ha:LA X (e::es) wr) (hg:Gl X x:=by rfl) (hn:x≠ "__name__":=by decide) (hdb:(x==("__debug__":Str))=false:=by decide)
  (h:UL e=true:=by rfl) (h2:IL es=true:=by rfl):LE X (.Call (.Name x p) (e::es) [] pos) (aJ f wr):=YU hc hm hv ha hg hn hdb (uB h) (pU h2)
theorem L8 {T:String} {f:OA} (hc:cR X (.type T) (fA X.K f)) (hm:X.mg x=none) (hv:bootBuiltins x=some (.type T)) (ha:LA X (e::es) wr) (hg:Gl X x:=by rfl) (hn:x≠ "__name__":=by decide) (hdb:(x==("__debug__":Str))=false:=by decide)
  (h:UL e=true:=by rfl) (h2:IL es=true:=by rfl):LE X (.Call (.Name x p) (e::es) [] pos) (aJ f wr):=YT hc hm hv ha hg hn hdb (uB h) (pU h2)
end
def GQ:Expr->Bool
 | .ListComp .. => false
 | .SetComp .. => false
 | .DictComp .. => false
 | _=> true
theorem BD {e:Expr} {t:Option Expr} {l:Nat} {env:Env} (h:GQ e=true):swapsWith e t l env=pure false:=by
 cases e <;> first | rfl | (simp [GQ] at h)
section
variable {X:Cx} {e:Expr} {w:WE} {pos:Pos}
theorem dZ (i:Nat) {x:Str} {pos' :Pos} (hN:X.N.Nodup) (he:LE X e w) (hi:X.N[i]? =some x:=by rfl) (hx:Loc X.env.scope x:=by first | exact Or.inl rfl | exact Or.inr rfl) (hs:GQ e=true:=by rfl) (hf:X.fn x=true\/X.env.scope.names.lookup x=some .local:=by first | exact .inl rfl | exact .inr rfl | assumption):
  LS X (.Assign [.Name x pos'] e pos) (cS w (gN i)):=UT i hN he hi hx (BD hs) hf
theorem sR (he:LE X e w) (hs:GQ e=true:=by rfl):LS X (.Expr e pos) (gR w):=QI he (BD hs)
end
section
variable {prog:Program} {w:World} {A:Around} {E:Value->Shared->Prop} {s:Shared}
theorem FF {S it:Addr} {aL:Array Value} {c:Nat} {items:Array Value} {Q:Value->Shared->Prop} (hS:s.heap.get? S=some {cls:= .type "list",data:= .seq aL c}) (ht:s.heap.IsTuple it items)
  (hlong:¬(!aL.isEmpty && Builtin.List.listTooLong (aL.size+items.size))=true) (hz:aL.size+items.size<=sizeLine)
  (h:Q .none {s with heap:=s.heap.update S (Obj.mapSeq (· ++items))}):wpAny (model prog w) A (call (.builtin "list.extend") [.ref S,.ref it]) Q E s:=by
 obtain ⟨o,ho,hc,n,hd⟩:=id ht;refine aD5 aFk ⟨_,hS,rfl⟩ PySem.F.entry_list_extend ?_ (PySem.F.args_list_extend_2 _ _);unfold Builtin.«list.extend»;refine aCm (m:=selfAndOne "list.extend" _) (aCo ?_);dsimp only;unfold Builtin.List.listExtendWith;refine aCm (aEk ht.typeIs ?_);have h1:(Builtin.List.listSameRef (.ref S) (.ref it) || Value.type "tuple"==Value.type "list" || Value.type "tuple"==Value.type "tuple")=true:=by simp
 simp only [h1,if_true];refine aCm ?_;unfold Builtin.List.listItems;refine aCm (aDs ho hd (aCo ?_));refine aCm ?_;refine aCm (aDs hS rfl (aCo ?_));rw [if_neg hlong];refine aCm ?_;show wpAny _ _ (updateSeq S (· ++items)) _ _ _;refine aE5 (hz:=by omega) (_hz' :=by simp only [Array.size_append];omega) hS rfl ?_;exact aCo ⟨_,rfl,h⟩
theorem FG {S it:Addr} {aL:Array Value} {c n:Nat} {items:Array Value} {o:Obj} {Q:Value->Shared->Prop} (hS:s.heap.get? S=some {cls:= .type "list",data:= .seq aL c}) (ho:s.heap.get? it=some o) (hc:o.cls= .type "list") (hd:o.data= .seq items n)
  (hlong:¬(!aL.isEmpty && Builtin.List.listTooLong (aL.size+items.size))=true) (hz:aL.size+items.size<=sizeLine)
  (h:Q .none {s with heap:=s.heap.update S (Obj.mapSeq (· ++items))}):wpAny (model prog w) A (call (.builtin "list.extend") [.ref S,.ref it]) Q E s:=by
 refine aD5 aFk ⟨_,hS,rfl⟩ PySem.F.entry_list_extend ?_ (PySem.F.args_list_extend_2 _ _);unfold Builtin.«list.extend»;refine aCm (m:=selfAndOne "list.extend" _) (aCo ?_);dsimp only;unfold Builtin.List.listExtendWith;refine aCm (aEk (T:= "list") ⟨_,ho,hc⟩ ?_);have h1:(Builtin.List.listSameRef (.ref S) (.ref it) || Value.type "list"==Value.type "list" || Value.type "list"==Value.type "tuple")=true:=by simp
 simp only [h1,if_true];refine aCm ?_;unfold Builtin.List.listItems;refine aCm (aDs ho hd (aCo ?_));refine aCm ?_;refine aCm (aDs hS rfl (aCo ?_));rw [if_neg hlong];refine aCm ?_;show wpAny _ _ (updateSeq S (· ++items)) _ _ _;refine aE5 (hz:=by omega) (_hz' :=by simp only [Array.size_append];omega) hS rfl ?_;exact aCo ⟨_,rfl,h⟩
end
section
variable {X:Cx}
def CA:OM:=λx ds mh Q=> ∃n y es fs,x= .ref n/\ds=[y]/\mh[n]? =some (.lst es)/\bP mh y=some fs/\es.length+fs.length<=sizeLine/\Q .cN (mh.set n (.lst (es++fs)))
theorem EV:MtR X "list.extend" (liftM X.K CA):=by
 intro pins s σ H x xs v us Q I rx rs q;obtain ⟨μ,mh,dx,ds,R,RR,ix,il,⟨n,y,es,fs,rfl,rfl,e,e2,hz,q⟩,F⟩:=q;obtain ⟨a,vs,rfl,hn,hv,l⟩:=iI RR ix e;obtain ⟨z,rfl,iz⟩:=lH il;obtain ⟨b,ws,rfl,sq,l2⟩:=uJ RR iz e2;cases rx;obtain ⟨u,rfl,ru⟩:=rs.one;cases ru;obtain ⟨z1,aL,c,r,hl,ho⟩:=I.CB hv;have k1:=aR l;have k2:=aR l2
 have fin:∀its2:List Value,Vals ws its2->(∀{Q:Value->Shared->Prop},aL.toArray.size+its2.toArray.size<=sizeLine->¬(!aL.toArray.isEmpty && Builtin.List.listTooLong (aL.toArray.size+its2.toArray.size))=true->Q .none {s with heap:=s.heap.update a (Obj.mapSeq (· ++its2.toArray))}->
   wpAny (model X.prog X.w) X.A (call (.builtin "list.extend") [.ref a,.ref b]) Q X.xe s)->wpAny (model X.prog X.w) X.A (call (.builtin "list.extend") [.ref a,.ref b]) (EP X pins σ Q) X.xe s:=λits2 r2 go=> by
  have k3:=r2.length;have hsz:aL.toArray.size+its2.toArray.size<=sizeLine:=by rw [List.size_toArray,List.size_toArray];omega
  refine go hsz (by rw [u4 hsz,Bool.and_false];exact aGd) ?_;refine ⟨.cN,_,I.QG (its' :=aL++its2) hv ho (by simp) (r.append r2) ?_,rfl,F.put RR hn (hX l l2) q .cN⟩;rw [List.length_append];omega
 rcases sq with sq | sq
 ·obtain ⟨its2,r2,⟨o,n2,e3,c3,_,d3⟩,_⟩:=I.list sq;exact fin its2 r2 λa1 a2 a3=> FG ho e3 c3 d3 a2 a1 a3
 ·obtain ⟨its2,r2,pl,hz2⟩:=I.tuple sq;exact fin its2 r2 λa1 a2 a3=> FF ho (show s.heap.IsTuple b its2.toArray from pl) a2 a1 a3
end
section
variable {ρ:gV} {mh:MH} {Q:DK} {E:fN}
@[simp] theorem aB2 (w wo wi:WE):KC w wo wi E ρ mh↔w ρ mh λd mh1=> wo ρ mh1 λo mh2=> wi ρ mh2 λi mh3=> RW o i d mh3 λmh4=> E.nx ρ mh4:=aDh
@[simp] theorem s_dic (t:Bool):ON t ρ mh Q↔Q (.ref mh.length) (mh++[.dic t []]):=aDh
end
theorem mU (d e:D) (ds:List D):mV (d::e::ds) 1=some e:=by
 have:=iA (xs:=d::e::ds) (j:=1) (v:=e) rfl;simpa using this
theorem DT (d e f:D) (ds:List D):mV (d::e::f::ds) 2=some f:=by
 have:=iA (xs:=d::e::f::ds) (j:=2) (v:=f) rfl;simpa using this
theorem RB {α:Type} {f:α->D} {ss:List α} {i:Int} (h0:0<=i) (h1:i < ss.length):∃v,v∈ss/\ss[i.toNat]? =some v/\mV (ss.map f) i=some (f v):=by
 have hi:i.toNat < ss.length:=by omega
 refine ⟨ss[i.toNat],aFe _,by simp [hi],?_⟩;have e:i=((i.toNat:Nat):Int):=by omega
 have:=iA (xs:=ss.map f) (j:=i.toNat) (v:=f (ss[i.toNat])) (by rw [List.getElem?_map,List.getElem?_eq_getElem hi];rfl);rw [<-e] at this;exact this
open Classical in
theorem GA (k v:D):∀kvs:List (D×D),(∃p∈kvs,p.1=k)->bR (kvs.map λp=> if p.1=k then (p.1,v) else p) k=some v
 | [],h=> by obtain ⟨p,hp,_⟩:=h;cases hp
 | p::kvs,h=> by
  rw [List.map_cons];by_cases e:p.1=k
  ·simp [bR,e]
  ·simp only [bR,if_neg e];refine GA k v kvs ?_;obtain ⟨r,hr,er⟩:=h;rcases aCv.mp hr with z | z
   ·subst z;exact absurd er e
   ·exact ⟨r,z,er⟩
theorem GB (k v:D):∀kvs:List (D×D),(¬∃p∈kvs,p.1=k)->bR (kvs++[(k,v)]) k=some v
 | [],h=> by simp [bR]
 | p::kvs,h=> by
  have e:¬p.1=k:=λz=> h ⟨p,aCq,z⟩;rw [List.cons_append];simp only [bR,if_neg e];exact GB k v kvs λ⟨r,hr,er⟩=> h ⟨r,aCr _ hr,er⟩
theorem kA (kvs:List (D×D)) (k v:D):bR (putD kvs k v) k=some v:=by
 classical
 unfold putD;by_cases h:∃p∈kvs,p.1=k
 ·rw [if_pos h];exact GA k v kvs h
 ·rw [if_neg h];exact GB k v kvs h
open Classical in
theorem oN (k v:D) {k' :D} (hk:k' ≠k):∀kvs:List (D×D),bR (kvs.map λp=> if p.1=k then (p.1,v) else p) k' =bR kvs k'
 | []=> rfl
 | p::kvs=> by
  rw [List.map_cons];by_cases e:p.1=k
  ·have e2:¬p.1=k' :=λz=> hk (z.symm.trans e);simp only [if_pos e,bR,if_neg e2,oN k v hk kvs]
  ·simp only [if_neg e,bR,oN k v hk kvs]
theorem tZ (k v:D) {k' :D} (hk:k' ≠k):∀kvs:List (D×D),bR (kvs++[(k,v)]) k' =bR kvs k'
 | []=> by simp [bR,Ne.symm hk]
 | p::kvs=> by
  rw [List.cons_append];simp only [bR,tZ k v hk kvs]
theorem tY (kvs:List (D×D)) {k k' :D} (v:D) (hk:k' ≠k):bR (putD kvs k v) k' =bR kvs k' :=by
 classical
 unfold putD;split
 ·exact oN k v hk kvs
 ·exact tZ k v hk kvs
theorem fH.get {mh mh' :MH} {b n:Nat} {o:MO} (h:fH mh b mh') (hn:mh[n]? =some o) (hb:n≠b):mh'[n]? =some o:=by
 have hl:n < mh.length:=(aCn.mp hn).1;obtain ⟨mh1,T,rfl,t⟩:=h;rw [List.getElem?_append_left (by rw [t.len];exact hl),t.other hb,hn]
theorem AO {mh junk:MH} {b:Nat} (h:sV mh b):sV (mh++junk) b:=by
 obtain ⟨c,m,e,r⟩:=h;exact ⟨c,m,by rw [List.getElem?_append_left (List.getElem?_eq_some_iff.mp e).1];exact e,r⟩
theorem sY {mh:MH} {b:Nat} {many:Int} {Q:DK} (h1:1<=many) (h2:many<=1073741789) (hb:sV mh b) (q:∀r mh',0<=r->r < many->dE mh b mh' ->Q (.int r) mh'):lE [.ref b,.int many] mh Q:=⟨b,many,rfl,h1,h2,hb,q⟩
theorem RA {mh:MH} {ns:List Int} {a:Int} {Q:DK} (hl:ns.length<=63) (h1:0<=a) (h2:a<=100) (q:∀mh',(∃o,mh' =mh++[o])->sV mh' mh.length->Q (.ref mh.length) mh'):ED [.fl (ns.map .int),.int a] mh Q:=⟨ns,a,rfl,hl,h1,h2,q⟩
def cY (mh mh' :MH):Prop:=∃T,mh' =mh++T
theorem cY.refl {mh:MH}:cY mh mh:=⟨[],by simp⟩
theorem cY.app {mh mh' :MH} (h:cY mh mh') (T:MH):cY mh (mh' ++T):=by
 obtain ⟨U,rfl⟩:=h;exact ⟨U++T,by simp⟩
theorem cY.le {mh mh' :MH} (h:cY mh mh'):mh.length<=mh'.length:=by obtain ⟨U,rfl⟩:=h;simp
theorem cY.old {mh mh' :MH} {n:Nat} {o:MO} (h:cY mh mh') (e:mh[n]? =some o):mh'[n]? =some o:=by
 obtain ⟨T,rfl⟩:=h;rw [List.getElem?_append_left (List.getElem?_eq_some_iff.mp e).1];exact e
theorem cY.push {mh mh' :MH} (h:cY mh mh') (o:MO):cY mh (mh' ++[o]):=by
 obtain ⟨T,rfl⟩:=h;exact ⟨T++[o],by simp⟩
theorem cY.set {mh mh' :MH} {n:Nat} (h:cY mh mh') (hn:mh.length<=n) (o:MO):cY mh (mh'.set n o):=by
 obtain ⟨T,rfl⟩:=h;exact ⟨T.set (n - mh.length) o,by rw [List.set_append_right _ _ hn]⟩
theorem cY.out {mh mh' :MH} {d:D} {R:DK} (h:cY mh mh') (ok:nK mh) (hd:eE mh.length d=true) (q:R d mh):Out mh.length d mh' R:=by
 obtain ⟨T,rfl⟩:=h;exact p8 ok hd q
theorem cY.UC {mh mh' :MH} {j:Nat} {o:MO} {R:DK} (h:cY mh mh') (ok:nK mh) (hj:mh.length<=j) (e:mh'[j]? =some o) (hd:zB mh.length o=true) (q:R (.ref mh.length) (mh++[o])):Out mh.length (.ref j) mh' R:=by
 obtain ⟨T,rfl⟩:=h;exact .inr (.inr ⟨mh,T,j,o,rfl,aCs _,ok,rfl,hj,e,hd,q⟩)
theorem fH.UC {mh mh' :MH} {b j:Nat} {o:MO} {R:DK} (h:fH mh b mh') (ok:nK mh) (hj:mh.length<=j) (e:mh'[j]? =some o) (hd:zB mh.length o=true) (q:∀mh1,dE mh b mh1->R (.ref mh1.length) (mh1++[o])):Out mh.length (.ref j) mh' R:=by
 obtain ⟨mh1,T,rfl,t⟩:=h;exact .inr (.inr ⟨mh1,T,j,o,rfl,by rw [t.len];exact aCs _,t.Z6 ok,rfl,by rw [t.len];exact hj,e,by rw [t.len];exact hd,q mh1 t⟩)
theorem fH.app {mh mh' :MH} {b:Nat} (h:fH mh b mh') (T:MH):fH mh b (mh' ++T):=by
 obtain ⟨mh1,U,rfl,t1⟩:=h;exact ⟨mh1,U++T,by simp,t1⟩
theorem aY {mh:MH} {n:Nat} {o x:MO} (e:mh[n]? =some o):(mh++[x])[n]? =some o:=by
 rw [List.getElem?_append_left (List.getElem?_eq_some_iff.mp e).1];exact e
theorem qJ {mh T:MH} {n:Nat} {o:MO} (e:mh[n]? =some o):(mh++T)[n]? =some o:=by
 rw [List.getElem?_append_left (List.getElem?_eq_some_iff.mp e).1];exact e
theorem get_set {mh:MH} {n m:Nat} {o x:MO} (e:mh[n]? =some o) (h:m≠n):(mh.set m x)[n]? =some o:=by
 rw [List.getElem?_set_ne h];exact e
theorem cB {mh:MH} {n:Nat} {o:MO} (x:MO) (e:mh[n]? =some o):(mh.set n x)[n]? =some x:=by
 rw [List.getElem?_set_self (List.getElem?_eq_some_iff.mp e).1]
theorem fV {mh:MH} {n:Nat} {o:MO} (e:mh[n]? =some o):n < mh.length:=(aCn.mp e).1
theorem bO {mh:MH} {n:Nat} {ds:List D} (e:mh[n]? =some (.lst ds)):bP mh (.ref n)=some ds:=by simp [bP,e]
theorem vB {mh:MH} {n:Nat} {ds:List D} (e:mh[n]? =some (.lst ds)):nO mh (.ref n)=some ds:=by simp [nO,e]
theorem V6 (d e f g:D) (ds:List D):mV (d::e::f::g::ds) 3=some g:=by
 have:=iA (xs:=d::e::f::g::ds) (j:=3) (v:=g) rfl;simpa using this
theorem tE {α:Type} (l:List α) (x:α):mV (l++[x]) (-1)=some x:=by
 unfold mV E6;rw [if_neg (by omega),if_pos (by simp;omega)];simp only [Option.bind_some];have:((-1:Int)+((l++[x]).length:Int)).toNat=l.length:=by simp;omega
 rw [this];simp
theorem vH (n:Nat):E6 (n+1) (-1)=some n:=by
 unfold E6;rw [if_neg (by omega),if_pos (by omega)];congr 1;omega
theorem VB {α:Type} {l:List α} {i:Int} (h0:0<=i) (h1:i < l.length):∃v,l[i.toNat]? =some v/\v∈l/\mV l i=some v:=by
 have hi:i.toNat < l.length:=by omega
 have e:i=((i.toNat:Nat):Int):=by omega
 refine ⟨l[i.toNat],by simp [hi],aFe _,?_⟩;have:=iA (xs:=l) (j:=i.toNat) (v:=l[i.toNat]) (by simp [hi]);rw [<-e] at this;exact this
theorem VQ {α:Type} {l:List α} {r:Int} {P:α->Prop} (h0:0<=r) (h1:r < l.length) (h:∀v∈l,P v):got (mV l r) P:=by
 obtain ⟨v,_,hm,e⟩:=VB h0 h1;rw [e];exact h v hm
theorem hJ {α:Type} {f:α->D} {l:List α} {i:Nat} {d:D} (h:(l.map f)[i]? =some d):∃x,l[i]? =some x/\d=f x:=by
 rw [List.getElem?_map] at h;obtain ⟨x,h1,h2⟩:=aDr.mp h;exact ⟨x,h1,h2.symm⟩
theorem take_snoc {α:Type} {l:List α} {i:Nat} {x:α} (h:l[i]? =some x):l.take (i+1)=l.take i++[x]:=by
 rw [List.take_add_one,h];rfl
theorem x6 (ds:List D):cutD ds (some 1) none=ds.tail:=by
 cases ds with
 | nil=> rfl
 | cons a ds=>
  unfold cutD;have e1:HT.dN (a::ds).length 0 (some 1)=1:=by simp [HT.dN]
  have e2:HT.dN (a::ds).length (a::ds).length none=(a::ds).length:=by simp [HT.dN]
  rw [e1,e2];simp
theorem pA {α β:Type} {g:WG} {t:WT} {w:WE} {ρe:gV} {St:MH->Prop} {Q:DK} (em:α->D) (p:α->Bool) (f:α->β) (fm:β->D):∀(ds:List α) (ys:List β) {mh:MH},St mh->
  (∀d∈ds,∀(N:DK) (M:MH->Prop),(p d=true->N (fm (f d)) mh)->(p d=false->M mh)->g (em d) ρe λρ2=> t ρ2 mh λb mh3=> if b=true then w ρ2 mh3 N else M mh3)->
  Q (.ref mh.length) (mh++[.lst ((ys++(ds.filter p).map f).map fm)])->jZ g t w ρe St Q (ds.map em) (ys.map fm) mh
 | [],ys,mh,hst,_,q=> ⟨hst,by simpa using q⟩
 | d::ds,ys,mh,hst,h,q=> by
  refine ⟨hst,?_⟩;refine h d aCq _ _ (λhp=> ?_) λhp=> ?_
  ·have:=pA (Q:=Q) (St:=St) (g:=g) (t:=t) (w:=w) (ρe:=ρe) em p f fm ds (ys++[f d]) hst (λe he=> h e (aCr _ he)) (by rw [List.filter_cons_of_pos hp] at q;simpa using q);simpa using this
  ·exact pA em p f fm ds ys hst (λe he=> h e (aCr _ he)) (by rw [List.filter_cons_of_neg (by simp [hp])] at q;exact q)
theorem x8 {α β:Type} {g:WG} {w:WE} {ρe:gV} {St:MH->Prop} {Q:DK} (em:α->D) (f:α->β) (fm:β->D):∀(ds:List α) (ys:List β) {mh:MH},St mh->
  (∀d∈ds,∀(N:DK),N (fm (f d)) mh->g (em d) ρe λρ2=> w ρ2 mh N)->
  Q (.ref mh.length) (mh++[.lst ((ys++ds.map f).map fm)])->jZ g yP w ρe St Q (ds.map em) (ys.map fm) mh
 | [],ys,mh,hst,_,q=> ⟨hst,by simpa using q⟩
 | d::ds,ys,mh,hst,h,q=> by
  refine ⟨hst,?_⟩;simp only [XT,if_true];refine h d aCq _ ?_;have:=x8 (Q:=Q) (St:=St) (g:=g) (w:=w) (ρe:=ρe) em f fm ds (ys++[f d]) hst (λe he=> h e (aCr _ he)) (by simpa using q);simpa using this
theorem vQ {α β:Type} {g:WG} {t:WT} {w:WE} {ρe:gV} {St:MH->Prop} {Q:DK} (em:α->D) (p:α->Bool) (f:α->β) (fm:β->D) (ds:List α) {mh:MH} (hst:St mh)
  (h:∀d∈ds,∀(N:DK) (M:MH->Prop),(p d=true->N (fm (f d)) mh)->(p d=false->M mh)->g (em d) ρe λρ2=> t ρ2 mh λb mh3=> if b=true then w ρ2 mh3 N else M mh3)
  (q:Q (.ref mh.length) (mh++[.lst (((ds.filter p).map f).map fm)])):jZ g t w ρe St Q (ds.map em) [] mh:=pA em p f fm ds [] hst h q
theorem nE {α β:Type} {g:WG} {w:WE} {ρe:gV} {St:MH->Prop} {Q:DK} (em:α->D) (f:α->β) (fm:β->D) (ds:List α) {mh:MH} (hst:St mh)
  (h:∀d∈ds,∀(N:DK),N (fm (f d)) mh->g (em d) ρe λρ2=> w ρ2 mh N)
  (q:Q (.ref mh.length) (mh++[.lst ((ds.map f).map fm)])):jZ g yP w ρe St Q (ds.map em) [] mh:=x8 em f fm ds [] hst h q
theorem pV {M:MH} {n:Nat} {o:MO} (h:M[n]? =some o):M.set n o=M:=by
 apply aF7;intro i;by_cases hi:i=n
 ·subst hi;rw [List.getElem?_set_self (fV h),h]
 ·rw [List.getElem?_set_ne (Ne.symm hi)]
theorem zip_map {α:Type} (f:α->D):∀(l m:List α),lJ (l.map f) (m.map f)=(l.zip m).map λp=> .tup [f p.1,f p.2]
 | [],_=> by simp [lJ]
 | a::l,[]=> by simp [lJ]
 | a::l,b::m=> by simp [lJ,zip_map f l m]
def yM (P:Program) (w:World) (K:aGp) (mg:Str->Option Value) (base:Heap) (k:Nat) (x:Str) (N:List Str) (st:Stmt) (wB:WS):Prop:=
 ∀(f:Addr) (cdv:Value) (A:Around) (outer:List Env) (s:Shared) (H:Hp) (E:XK),gI k (A.deeper (envOfC x (aG st) s.heap.objs.size f cdv))->
  JZ (wL DX P w K mg base N x (aG st) f cdv A outer s H E).QA (dB st) wB
section
variable {P:Program} {w:World} {K:aGp} {mg:Str->Option Value} {base:Heap} {h:Heap}
theorem i8 {x:Str} {st:Stmt} {N ps:List Str} {k:Nat} {s:OA} {wB:WS} (Dx:iW K x st) (KX:K.In h) (G:h.Ns mainGlobals mg) (bd:eI x st ps) (S:bH N ps (aG st)) (hb:yM P w K mg base k x N st wB) (len:∀ds mh R,s ds mh R->ds.length=ps.length)
  (hw:∀ds mh R,nK mh->s ds mh R->wB {nx:=λ_ mh1=> Out mh.length .cN mh1 R,rt:=λd mh1=> Out mh.length d mh1 R} (aQ N ds) mh):Fn P w K mg base (k+1) x ps s:=
 VW Dx KX G bd S len hb λds mh R ok _ hs=> hw ds mh R ok hs
theorem VV {x:Str} {st:Stmt} {N ps:List Str} {j k:Nat} {s:OA} {wB:WS} (e:k+1=j) (Dx:iW K x st) (KX:K.In h) (G:h.Ns mainGlobals mg) (bd:eI x st ps) (S:bH N ps (aG st)) (hb:yM P w K mg base k x N st wB) (len:∀ds mh R,s ds mh R->ds.length=ps.length)
  (hw:∀ds mh R,nK mh->s ds mh R->wB {nx:=λ_ mh1=> Out mh.length .cN mh1 R,rt:=λd mh1=> Out mh.length d mh1 R} (aQ N ds) mh):Fn P w K mg base j x ps s:=
 e▸i8 Dx KX G bd S hb len hw
theorem UZ {x:Str} {st:Stmt} {N:List Str} {k:Nat} {fa:Addr} {wB:WS} (KX:K.In h) (G:h.Ns mainGlobals mg) (hfa:mg "law"=some (.ref fa)) (Dx:iW K "law" st) (S:bH N [x] (aG st)) (bd:eI "law" st [x])
  (hb:∀base:Heap,yM P w K mg base k "law" N st wB)
  (hw:∀ds mh R,nK mh->wD ds mh R->wB {nx:=λ_ mh1=> Out mh.length .cN mh1 R,rt:=λd mh1=> Out mh.length d mh1 R} (aQ N ds) mh):
  ∃fd:FuncData,(∀(s:Shared) (u:Value),BindsTo s fd ⟨[u],[]⟩ [(x,u)])/\∀base:Heap,jL P w K mg base DX (k+1) fa fd [x] (KN K wD):=
 U0 KX G hfa Dx S bd λbase=> ⟨wB,hb base,λds mh R ok _ hs=> hw ds mh R ok hs⟩
end
end D3
namespace L2
open PySem PySem.Spec PyProof.Rows
open Builtin Builtin.Str
open AutoSeq1 (wpAny_loadPart')
end L2
namespace D3
open PySem PySem.Spec PyProof.Rows L2
end D3
namespace L2
open PySem PySem.Spec PyProof.Rows
end L2
namespace D3
open PySem PySem.Spec PyProof.Rows L2
end D3
namespace L2
open PySem PySem.Spec PyProof.Rows
section
variable {prog:Program} {w:World} {A:Around} {E:Value->Shared->Prop} {s:Shared}
theorem A1 {M:Model} {a:Addr} {Q:Option Obj->Shared->Prop} (h:Q (s.heap.get? a) s):wpAny M A (loadIfAlive a) Q E s:=λΓ p _=> by
 unfold loadIfAlive;rw [Sem.wp_loadIfAlive];exact (aCo (M:=M) (A:=A) (E:=E) h) Γ p ‹_›
def v5 (T:Addr) (fl:Bool) (TI TO:Addr):Obj:={cls:= .type "zip",dict:=none,data:= .fields #[rawInt T,.bool fl,.bool false,.ref TI,.ref TO],slots:= #[]}
theorem wU {z TI TO T:Addr} {fl:Bool} {qs:List Src} {i k:Nat} {vals:List Value} {Q:Value->Shared->Prop} (hh:A.handled=none) (D:d8 z TI TO qs) (hobj:s.heap.get? z=some (v5 T fl TI TO)) (hT:∃o,s.heap.get? T=some o)
  (hTI:∃n,s.heap.get? TI=some {cls:= .type "tuple",data:= .seq (qs.map λq=> Value.ref q.it).toArray n}) (hat:∀q∈qs,q.At s.heap i) (hne:qs≠[]) (hv:vals.length=k) (hkl:k<=qs.length)
  (hq:∀(j:Nat) q x,qs[j]? =some q->vals[j]? =some x->∃items,q.Sq s.heap items/\items[i]? =some x) (hsz:qs.length<=sizeLine)
  (hk:k < qs.length->∃q items,qs[k]? =some q/\q.Sq s.heap items/\items[i]? =none)
  (hQ:k=qs.length->∀h',h'.get? z=some (v5 T true TI TO)->(∀q∈qs,q.At h' (i+1))->h'.get? s.heap.objs.size=some {cls:= .type "tuple",data:= .seq vals.toArray}->h'.objs.size=s.heap.objs.size+1->
   (∀c o,c≠z->(∀q∈qs,c≠q.it)->s.heap.get? c=some o->h'.get? c=some o)->Q (.ref s.heap.objs.size) {s with heap:=h'})
  (hE:k < qs.length->∀h' e,(∀c o,c≠z->(∀q∈qs,c≠q.it)->s.heap.get? c=some o->h'.get? c=some o)->(∃o,h'.get? e=some o/\o.cls= .type "StopIteration")->E (.ref e) {s with heap:=h'}):
  wpAny (model prog w) A (Builtin.«zip.__next__» ⟨[.ref z],[]⟩) (λfin s' => ∃v,fin= .done (.ret v)/\Q v s') E s:=by
 obtain ⟨nI,hTI⟩:=hTI;obtain ⟨oT,hT⟩:=hT;refine aCm (m:=field (.ref z) 2) (aDu hobj rfl (x:= .bool false) rfl ?_);refine aCm (m:=field (.ref z) 3) (aDu hobj rfl (x:= .ref TI) rfl ?_);refine aCm (m:=seqItems? (.ref TI)) (aDs hTI rfl ?_)
 have hemp:(qs.map λq=> Value.ref q.it).toArray.isEmpty=false:=by cases qs with | nil=> exact absurd rfl hne | cons a r=> rfl
 simp only [hemp];refine aCm (m:=Builtin.SmallTypes.ownedTupleIsFree (.ref z)) ?_;refine aEf (Q:=λb s' => b=false/\∃h1,s' ={s with heap:=h1}/\h1.get? z=some (v5 T true TI TO)/\Heap.SameBut z s.heap h1) (E:=E) ?own (λb s1 hb=> ?_) (λe s' x=> x)
 case own=>
  unfold Builtin.SmallTypes.ownedTupleIsFree;refine aCm (m:=field (.ref z) 0) (aDu hobj rfl (x:=rawInt T) rfl ?_);show wpAny _ _ (loadIfAlive (Int.toNat (T:Int)) >>=_) _ _ _;refine aCm (A1 ?_);rw [Int.toNat_natCast,hT];simp only [Option.isNone_some,Bool.false_eq_true,if_false];refine aCm (m:=field (.ref z) 1) (aDu hobj rfl (x:= .bool fl) rfl ?_)
  cases fl with
  | true=> exact aCo ⟨rfl,s.heap,rfl,hobj,Heap.SameBut.refl _ _⟩
  | false=>
   refine aCm (aDk (cls:= .type "zip") (vs:= #[rawInt T,.bool false,.bool false,.ref TI,.ref TO]) hobj (by simp) λh1 z1 sb1=> aCo ⟨rfl,h1,rfl,z1,sb1⟩)
 obtain ⟨rfl,h1,rfl,z1,sb1⟩:=hb;simp only [Bool.false_eq_true,if_false];refine aCm ?_;refine wpAny_forIn_array' _ (λrest b s' => b.1=none/\∃j h',s' ={s with heap:=h'}/\rest=(qs.map λq=> Value.ref q.it).drop j/\j<=k/\b.2.toList=vals.take j/\h'.get? z=some (v5 T true TI TO)/\h'.objs.size=s.heap.objs.size/\(∀q∈qs.take j,q.At h' (i+1))/\(∀q∈qs.drop j,q.At h' i)/\(∀c o,c≠z->(∀q∈qs,c≠q.it)->s.heap.get? c=some o->h'.get? c=some o)) _ ?turn ?fin _ _ ?start
 case start=>
  refine ⟨rfl,0,h1,rfl,by simp,aEd _,by simp,z1,sb1.1,by simp,λq hq=> ?_,λc o c1 _ e=> sb1.extBut _ _ c1 e⟩;have hq' :q∈qs:=by simpa using hq
  exact (hat q hq').to λo e=> sb1.extBut _ _ (D.E7 q hq').1 e
 case turn=>
  rintro x rest ⟨b1,b2⟩ s5 ⟨hb,j,h',rfl,hd,hj,hb2,hz,hs,hdn,htd,hkp⟩
  have hjl:j < qs.length:=by
   refine aGn λhle=> ?_;rw [List.drop_eq_nil_of_le (by simpa using hle)] at hd;cases hd
  have hd' :=hd;rw [List.drop_eq_getElem_cons (by simpa using hjl)] at hd';injection hd' with ex er;have exx:x=Value.ref qs[j].it:=by rw [ex];simp
  have hqj:qs[j]? =some qs[j]:=aCy hjl;generalize hqq:qs[j]=q at hqj exx;subst exx;have hqm:q∈qs:=aCz hqj;have hqz:=D.E7 q hqm;obtain ⟨l1,l2,l3⟩:=D.src q hqm;have hAt:q.At h' i:=htd q (by rw [List.drop_eq_getElem_cons hjl,hqq];exact aCq);refine aCm (aDm ?_);show wpAny _ _ (Builtin.SmallTypes.nextOf (.ref q.it) >>=_) _ _ _;by_cases hjk:j=k
  ·subst hjk;obtain ⟨qk,itemsk,hqk,hSk,hik⟩:=hk hjl;obtain rfl:qk=q:=(aD4 (hqj.symm.trans hqk)).symm;have hSq' :=hSk.to (h' :=h') λo e=> hkp _ o l1 l3 e;refine aCm (Src.done (s:={s with heap:=h'}) hh hAt hSq' hik λh2 e sb2 he=> ?_);exact hE hjl h2 e (λc o c1 c3 q' => sb2 _ _ (c3 _ hqm) (hkp c o c1 c3 q')) he
  ·have hvj:vals[j]? =some vals[j]:=aCy (by omega);generalize hvv:vals[j]'(by omega)=v at hvj;obtain ⟨items,hSq,hit⟩:=hq j q v hqj hvj;have hSq' :q.Sq h' items:=hSq.to λo e=> hkp _ o l1 l3 e;refine aCm (Src.item (s:={s with heap:=h'}) hAt hSq' hit λh2 at2 sb2=> aCo ?_);refine aCo ?_
   have apart:∀(k:Nat) p,qs[k]? =some p->k≠j->p.it≠q.it:=λk p hk hne e=> by
    have h1:(qs.map (·.it))[k]? =some q.it:=by rw [List.getElem?_map,hk];simp [e]
    have h2:(qs.map (·.it))[j]? =some q.it:=by rw [List.getElem?_map,hqj];rfl
    obtain ⟨a1,b1⟩:=aCn.mp h1;obtain ⟨a2,b2⟩:=aCn.mp h2;refine hne ?_;have pw:=aDo.mp D.nd;rcases aGj k j with hlt | heq | hlt
    ·exact absurd (b1.trans b2.symm) (pw k j a1 a2 hlt)
    ·exact heq
    ·exact absurd (b2.trans b1.symm) (pw j k a2 a1 hlt)
   refine ⟨rfl,j+1,h2,rfl,er,by omega,?_,sb2.extBut _ _ (aDw hqz.1) hz,by rw [sb2.1];exact hs,λp hp=> ?_,λp hp=> ?_,λc o c1 c3 e=> sb2.extBut _ _ (c3 q hqm) (hkp c o c1 c3 e)⟩
   ·have hb2:b2.toList=vals.take j:=hb2;show (b2.push v).toList=_;rw [Array.toList_push,hb2,List.take_add_one,hvj];rfl
   ·rw [List.take_add_one,hqj] at hp;rcases aCt.mp hp with z | z
    ·obtain ⟨k,hk⟩:=aEi z
     have hkj:k < j:=by
      have:=(aCn.mp hk).1;rw [List.length_take] at this;omega
     rw [List.getElem?_take_of_lt hkj] at hk;exact (hdn p z).to λo e=> sb2.extBut _ _ (apart k p hk (by omega)) e
    ·have:p=q:=by simpa using z
     subst this;exact at2
   ·obtain ⟨k,hk⟩:=aEi hp;rw [List.getElem?_drop] at hk;have hp' :p∈qs.drop j:=by rw [List.drop_eq_getElem_cons hjl];exact aCr _ hp
    exact (htd p hp').to λo e=> sb2.extBut _ _ (apart _ p hk (by omega)) e
 case fin=>
  rintro ⟨b1,b2⟩ s5 ⟨hb,j,h',rfl,hd,hj,hb2,hz,hs,hdn,htd,hkp⟩
  have hje:j=qs.length:=by
   have:=aE0 List.length hd;simp at this;omega
  subst hje;have hkk:k=qs.length:=by omega
  have hb' :b1=none:=hb;subst hb';have hb2:b2.toList=vals.take qs.length:=hb2;rw [List.take_of_length_le (by omega)] at hb2;have z5:(h'.push {cls:= .type "tuple",data:= .seq vals.toArray}).get? z=some (v5 T true TI TO):=aCp _ hz;show wpAny _ _ (newTuple b2.toList >>=_) _ _ _;rw [hb2];refine aCm (aF8 ?_ (by simpa using (show vals.length<=sizeLine by omega)));refine aCo ⟨_,rfl,?_⟩;show Q (.ref h'.objs.size) _;rw [hs];refine hQ hkk _ z5 (λq hq=> (hdn q (by rw [List.take_of_length_le (Nat.le_refl _)];exact hq)).to λo e=> aCp _ e) ?_ ?_ λc o c1 c3 e=> aCp _ (hkp c o c1 c3 e)
  ·rw [<-hs];exact aCu _ rfl
  ·rw [size_push',hs]
end
section
variable {prog:Program} {w:World} {A:Around} {E:Value->Shared->Prop} {s:Shared}
theorem DY:typeLookup (.type "zip") "__len__"=pure none:=by rw [typeLookup_type,builtinLookup_eq_fast];kernel_rfl
theorem AX:typeLookup (.type "zip") "__length_hint__"=pure none:=by rw [typeLookup_type,builtinLookup_eq_fast];kernel_rfl
structure ZC (h0 h:Heap) (z TI TO:Addr) (qs:List Src) (rows:List (List Value)) (i:Nat) (vs:List Value):Prop where
 obj:h.get? z=some {cls:= .type "zip",dict:=none,data:= .fields #[.none,.bool false,.bool false,.ref TI,.ref TO],slots:= #[]}\/∃T fl o,h.get? z=some (v5 T fl TI TO)/\h.get? T=some o/\o.cls= .type "tuple"
 aL:∃n,h.get? TI=some {cls:= .type "tuple",data:= .seq (qs.map λq=> Value.ref q.it).toArray n}
 own:∃(xs:List Value) (n:Nat),xs.length=qs.length/\h.get? TO=some {cls:= .type "tuple",data:= .seq xs.toArray n}
 at_:∀q∈qs,q.At h i
 len:vs.length=i
 tup:∀(j:Nat) v r,vs[j]? =some v->rows[j]? =some r->∃a,v= .ref a/\h.get? a=some {cls:= .type "tuple",data:= .seq r.toArray}/\h0.objs.size<=a/\a≠z/\a≠TO/\∀q∈qs,a≠q.it
 nd:vs.Nodup
 keep:∀c o,c≠z->c≠TO->(∀q∈qs,c≠q.it)->h0.get? c=some o->h.get? c=some o
theorem ZC.type {h0:Heap} {z TI TO:Addr} {qs:List Src} {rows:List (List Value)} {i:Nat} {vs:List Value} (Z:ZC h0 s.heap z TI TO qs rows i vs):s.TypeIs (.ref z) "zip":=by
 rcases Z.obj with e | ⟨T,fl,o,e,_⟩ <;> exact ⟨_,e,rfl⟩
theorem ZC.other {h0 h h' :Heap} {z TI TO S:Addr} {qs:List Src} {rows:List (List Value)} {i:Nat} {vs:List Value} (Z:ZC h0 h z TI TO qs rows i vs) (hS:S≠z/\S≠TI/\S≠TO/\(∀q∈qs,S≠q.it)) (hT:∀o,h.get? S=some o->o.cls= .type "list") (hn:h0.get? S=none)
  (k:∀c o,c≠S->h.get? c=some o->h'.get? c=some o):ZC h0 h' z TI TO qs rows i vs where
 obj:=by
  rcases Z.obj with e | ⟨T,fl,o,e1,e2,e3⟩
  ·exact .inl (k _ _ (aDw hS.1) e)
  ·refine .inr ⟨T,fl,o,k _ _ (aDw hS.1) e1,k _ _ (λx=> ?_) e2,e3⟩;subst x;have:=hT _ e2;rw [e3] at this;simp at this
 aL:=let ⟨n,e⟩:=Z.aL;⟨n,k _ _ (aDw hS.2.1) e⟩
 own:=let ⟨xs,n,l,e⟩:=Z.own;⟨xs,n,l,k _ _ (aDw hS.2.2.1) e⟩
 at_:=λq hq=> (Z.at_ q hq).to λo e=> k _ _ (aDw (hS.2.2.2 q hq)) e
 len:=Z.len
 tup:=λj v r h1 h2=> by
  obtain ⟨a,e1,e2,e3⟩:=Z.tup j v r h1 h2;refine ⟨a,e1,k _ _ (λe=> ?_) e2,e3⟩;subst e;have:=hT _ e2;simp at this
 nd:=Z.nd
 keep:=λc o c1 c2 c3 e=> k _ _ (λx=> by subst x;rw [hn] at e;cases e) (Z.keep c o c1 c2 c3 e)
structure ZR (h0:Heap) (qs:List Src) (rows:List (List Value)):Prop where
 row:∀(i:Nat) r,rows[i]? =some r->r.length=qs.length/\∀(j:Nat) q x,qs[j]? =some q->r[j]? =some x->∃items,q.Sq h0 items/\items[i]? =some x
 fin:∃(k:Nat) (vals:List Value),vals.length=k/\k < qs.length/\(∀(j:Nat) q x,qs[j]? =some q->vals[j]? =some x->∃items,q.Sq h0 items/\items[rows.length]? =some x)/\∃q items,qs[k]? =some q/\q.Sq h0 items/\items[rows.length]? =none
theorem OD {h0:Heap} {z TI TO:Addr} {qs:List Src} {rows:List (List Value)} {i:Nat} {vs:List Value} {Q:Option Value->Shared->Prop} (hh:A.handled=none) (D:d8 z TI TO qs) (hsz:qs.length<=sizeLine) (hne:qs≠[]) (RR:ZR h0 qs rows) (Z:ZC h0 s.heap z TI TO qs rows i vs) (hi:i < rows.length)
  (hlt:h0.objs.size<=s.heap.objs.size)
  (hQ:∀h' v,ZC h0 h' z TI TO qs rows (i+1) (vs++[v])->s.heap.objs.size<=h'.objs.size->(∀c o,c≠z->c≠TO->(∀q∈qs,c≠q.it)->s.heap.get? c=some o->h'.get? c=some o)->Q (some v) {s with heap:=h'}):
  wpAny (model prog w) A (pyNext (.ref z)) Q E s:=by
 have hri:rows[i]? =some rows[i]:=aCy hi;generalize rows[i]=r at hri;obtain ⟨hl,hr⟩:=RR.row i r hri
 have hq:∀(j:Nat) q x,qs[j]? =some q->r[j]? =some x->∃items,q.Sq s.heap items/\items[i]? =some x:=λj q x h1 h2=> by
  obtain ⟨items,e1,e2⟩:=hr j q x h1 h2;obtain ⟨l1,l2,l3⟩:=D.src q (aCz h1);exact ⟨items,e1.to λo e=> Z.keep _ o l1 l2 l3 e,e2⟩
 have lt:∀a o,s.heap.get? a=some o->a≠s.heap.objs.size:=λa o e=> aD6 (aCx e)
 have zne:s.heap.objs.size≠z:=by
  rcases Z.obj with e | ⟨_,_,_,e,_⟩ <;> exact aDw (lt _ _ e)
 have one:s.heap.objs.size≠TO:=by obtain ⟨_,_,_,e⟩:=Z.own;exact aDw (lt _ _ e)
 have ine:∀q∈qs,s.heap.objs.size≠q.it:=λq hq=> by obtain ⟨o,e,_⟩:=(Z.at_ q hq).obj;exact aDw (lt _ _ e)
 have fin:∀h',(h'.get? z=some (v5 s.heap.objs.size false TI TO)\/∃T fl o,h'.get? z=some (v5 T fl TI TO)/\h'.get? T=some o/\o.cls= .type "tuple")->(∃(xs:List Value) (n:Nat),xs.length=qs.length/\h'.get? TO=some {cls:= .type "tuple",data:= .seq xs.toArray n})->(∀q∈qs,q.At h' (i+1))->
   h'.get? s.heap.objs.size=some {cls:= .type "tuple",data:= .seq r.toArray}->h'.objs.size=s.heap.objs.size+1->(∀c o,c≠z->c≠TO->(∀q∈qs,c≠q.it)->s.heap.get? c=some o->h'.get? c=some o)->Q (some (.ref s.heap.objs.size)) {s with heap:=h'}:=λh' o1 o2 o3 o4 o5 o6=> by
  refine hQ h' _ ⟨?_,?_,o2,o3,by simp [Z.len],λj v r' h1 h2=> ?_,?_,λc o c1 c2 c3 e=> o6 c o c1 c2 c3 (Z.keep c o c1 c2 c3 e)⟩ (by omega) o6
  ·exact o1.elim (λe=> .inr ⟨_,_,_,e,o4,rfl⟩) .inr
  ·obtain ⟨n,e⟩:=Z.aL;exact ⟨n,o6 _ _ D.ne1 D.ne3 (λq hq=> aDw (D.E7 q hq).2.1) e⟩
  ·by_cases hj:j < vs.length
   ·rw [List.getElem?_append_left hj] at h1;obtain ⟨a,e1,e2,e3,e4,e5,e6⟩:=Z.tup j v r' h1 h2;exact ⟨a,e1,o6 _ _ e4 e5 e6 e2,e3,e4,e5,e6⟩
   ·have hjl:=(aCn.mp h1).1;simp at hjl;have ej:j=vs.length:=by omega
    subst ej;simp at h1;rw [Z.len,hri] at h2;cases h2;exact ⟨_,h1.symm,o4,hlt,zne,one,ine⟩
  ·rw [List.nodup_append];refine ⟨Z.nd,by simp,λv hv w hw=> ?_⟩;obtain ⟨j,hj⟩:=aD3.mp hv;have hjl:j < rows.length:=by have:=(aCn.mp hj).1;rw [Z.len] at this;omega
   obtain ⟨a,e1,e2,_⟩:=Z.tup j v _ hj (aCy hjl);rw [List.mem_singleton.mp hw,e1];intro x;injection x with x;exact lt _ _ e2 x
 rcases Z.obj with e | ⟨T,fl,o,e1,e2,e3⟩
 ·refine n8 D ⟨e,Z.aL,Z.own,Z.at_⟩ hne hl hq hsz λh' Z' t1 z1 k1=> fin h' (.inl Z'.obj) Z'.own Z'.at_ t1 z1 k1
 ·have hT:s.TypeIs (.ref z) "zip":=Z.type;unfold pyNext
  refine aCm (aEb (aDa (name:=Str.ofString "__next__") hT aE6 (aD5 aE6 hT aG0
   (wU (k:=qs.length) hh D e1 ⟨_,e2⟩ Z.aL Z.at_ hne hl (aCs _) hq hsz (λh=> absurd h (aEa _)) (λ_ h' a1 a2 a3 a4 a5=> ?_) λh=> absurd h (aEa _)) (aFu _))))
  have T1:T≠z:=λx=> by subst x;rw [e1] at e2;cases e2;simp [v5] at e3
  have T2:∀q∈qs,T≠q.it:=λq hq x=> by
   subst x;have:=Z.at_ q hq;obtain ⟨it,l,t⟩:=q;cases t <;> (obtain ⟨o',h1,h2,_⟩:=this;rw [e2] at h1;cases h1;rw [e3] at h2;simp at h2)
  refine aCo (fin h' (.inr ⟨T,true,o,a1,a5 _ _ T1 T2 e2,e3⟩) ?_ a2 a3 a4 λc o c1 c2 c3 e=> a5 c o c1 c3 e);obtain ⟨xs,n,l,e⟩:=Z.own;exact ⟨xs,n,l,a5 _ _ D.ne2 (λq hq=> aDw (D.E7 q hq).2.2) e⟩
theorem OE {h0:Heap} {z TI TO:Addr} {qs:List Src} {rows:List (List Value)} {vs:List Value} {Q:Option Value->Shared->Prop} (hh:A.handled=none) (D:d8 z TI TO qs) (hsz:qs.length<=sizeLine) (hne:qs≠[]) (RR:ZR h0 qs rows) (Z:ZC h0 s.heap z TI TO qs rows rows.length vs)
  (hQ:∀h',(∀c o,c≠z->c≠TO->(∀q∈qs,c≠q.it)->s.heap.get? c=some o->h'.get? c=some o)->Q none {s with heap:=h'}):
  wpAny (model prog w) A (pyNext (.ref z)) Q E s:=by
 obtain ⟨k,vals,hv,hk,hq,q',items',hq',hs',hi'⟩:=RR.fin
 have to:∀q items,q∈qs->q.Sq h0 items->q.Sq s.heap items:=λq items hm e1=> by
  obtain ⟨l1,l2,l3⟩:=D.src q hm;exact e1.to λo e=> Z.keep _ o l1 l2 l3 e
 have hq2:∀(j:Nat) q x,qs[j]? =some q->vals[j]? =some x->∃items,q.Sq s.heap items/\items[rows.length]? =some x:=λj q x h1 h2=> by
  obtain ⟨items,e1,e2⟩:=hq j q x h1 h2;exact ⟨items,to q items (aCz h1) e1,e2⟩
 rcases Z.obj with e | ⟨T,fl,o,e1,e2,e3⟩
 ·refine qA (k:=k) hh D ⟨e,Z.aL,Z.own,Z.at_⟩ (λj q h1 h2=> ?_) ⟨q',items',hq',to _ _ (aCz hq') hs',hi'⟩ hsz hQ
  obtain ⟨x,hx⟩:∃x,vals[j]? =some x:=⟨_,aCy (by omega)⟩
  obtain ⟨items,e1,e2⟩:=hq2 j q x h1 hx;exact ⟨items,x,e1,e2⟩
 ·have hT:s.TypeIs (.ref z) "zip":=Z.type;unfold pyNext
  refine aCm (aEb (aDa (name:=Str.ofString "__next__") hT aE6 (aD5 aE6 hT aG0
   (wU (k:=k) hh D e1 ⟨_,e2⟩ Z.aL Z.at_ hne hv (aEu hk) hq2 hsz (λ_=> ⟨q',items',hq',to _ _ (aCz hq') hs',hi'⟩) (λh=> absurd hk (by omega)) λ_ h' e kp he=> ?_) (aFu _))))
  obtain ⟨o,ho,hc⟩:=he;refine aCm (aFd (T:= "StopIteration") (b:=true) ⟨o,ho,hc⟩ isSubtype_stop ?_);exact aCo (hQ _ λc o c1 _ c3 e=> kp c o c1 c3 e)
end
structure ZF (h0 h:Heap) (z TO:Addr) (qs:List Src) (rows:List (List Value)) (vs:List Value):Prop where
 len:vs.length=rows.length
 nd:vs.Nodup
 tup:∀(j:Nat) v r,vs[j]? =some v->rows[j]? =some r->∃a,v= .ref a/\h.get? a=some {cls:= .type "tuple",data:= .seq r.toArray}/\h0.objs.size<=a
 keep:∀c o,c≠z->c≠TO->(∀q∈qs,c≠q.it)->h0.get? c=some o->h.get? c=some o
section
variable {prog:Program} {w:World} {A:Around} {R:Result->Shared->Prop} {h0:Heap} {z TI TO S:Addr} {qs:List Src} {rows:List (List Value)}
theorem DZ (hh:A.handled=none) (D:d8 z TI TO qs) (hsz:qs.length<=sizeLine) (hne:qs≠[]) (RR:ZR h0 qs rows) (hn:rows.length<=sizeLine) (hS:S≠z/\S≠TI/\S≠TO/\(∀q∈qs,S≠q.it)) (hS0:h0.get? S=none) (res:Value):
  ∀(k i:Nat) (s:Shared) (acc:Array Value) (c:Nat),rows.length - i=k->i<=rows.length->ZC h0 s.heap z TI TO qs rows i acc.toList->h0.objs.size<=s.heap.objs.size->s.heap.get? S=some {cls:= .type "list",dict:=none,data:= .seq acc c,slots:= #[]}->
  (∀h' acc' c',ZF h0 h' z TO qs rows acc'.toList->h'.get? S=some {cls:= .type "list",dict:=none,data:= .seq acc' c',slots:= #[]}->R (.ok (.ret res)) {s with heap:=h'})->
  codeAny (model prog w) A (.builtin "list.extend.loop" ⟨[.ref S,.ref z,res],[]⟩) R s:=by
 intro k
 induction k with
 | zero=>
  intro i s acc c hk hi Z hlt hS1 hR;have hin:i=rows.length:=by omega
  subst hin;refine aE3 F.entry_extend_loop ?_;rw [Around.under_plainId F.plain_extend_loop _];show wpAny _ A.in1 (pyNext (.ref z) >>=_) _ _ s;refine aCm (OE hh D hsz hne RR Z λh' kp=> ?_);refine aCo (hR h' acc c ⟨Z.len,Z.nd,λj v r h1 h2=> ?_,λc o c1 c2 c3 e=> kp c o c1 c2 c3 (Z.keep c o c1 c2 c3 e)⟩ (kp _ _ hS.1 hS.2.2.1 hS.2.2.2 hS1));obtain ⟨a,e1,e2,e3,e4,e5,e6⟩:=Z.tup j v r h1 h2;exact ⟨a,e1,kp _ _ e4 e5 e6 e2,e3⟩
 | succ k ih=>
  intro i s acc c hk hi Z hlt hS1 hR;have hlt2:i < rows.length:=by omega
  refine aE3 F.entry_extend_loop ?_;rw [Around.under_plainId F.plain_extend_loop _];show wpAny _ A.in1 (pyNext (.ref z) >>=_) _ _ s;refine aCm (OD hh D hsz hne RR Z hlt2 hlt λh' v Z' hl' kp=> ?_);have hS' :=kp _ _ hS.1 hS.2.2.1 hS.2.2.2 hS1;show wpAny _ A.in1 (updateSeq S (·.push v) >>=_) _ _ _;refine aCm ?_;have hz:acc.size=i:=by rw [<-Z.len];simp
  refine aE5 hS' rfl (aCo ⟨aEh aGb _,ih (i+1) _ (acc.push v) _ (by omega) hlt2 ?_ ?_ (aDv _ hS' rfl) λh'' acc' c' Z'' hS'' => hR h'' acc' c' Z'' hS''⟩)
   (by rw [hz];omega) (by show (acc.push v).size<=sizeLine+1;rw [Array.size_push,hz];omega)
  ·rw [Array.toList_push];exact Z'.other hS (λo e=> by rw [hS'] at e;cases e;rfl) hS0 λc o c1 e=> (aDl _ _ (aDw c1)).trans e
  ·show _<=(Heap.update _ _ _).objs.size;rw [Heap.size_update];exact aDf hlt hl'
end
section
variable {prog:Program} {w:World} {A:Around} {E:Value->Shared->Prop} {s:Shared} {z TI TO:Addr} {qs:List Src} {rows:List (List Value)}
theorem J4 {h0 h:Heap} {z TI TO:Addr} {qs:List Src} {rows:List (List Value)} {i:Nat} {vs:List Value} (Z:ZC h0 h z TI TO qs rows i vs):h.objs.size≠z/\h.objs.size≠TI/\h.objs.size≠TO/\(∀q∈qs,h.objs.size≠q.it):=by
 have lt:∀a o,h.get? a=some o->h.objs.size≠a:=λa o e=> aFb (aCx e);refine ⟨?_,?_,?_,λq hq=> ?_⟩
 ·rcases Z.obj with e | ⟨_,_,_,e,_⟩ <;> exact lt _ _ e
 ·obtain ⟨_,e⟩:=Z.aL;exact lt _ _ e
 ·obtain ⟨_,_,_,e⟩:=Z.own;exact lt _ _ e
 ·obtain ⟨o,e,_⟩:=(Z.at_ q hq).obj;exact lt _ _ e
theorem ZC.start {h:Heap} (Z:gH h z TI TO qs .none 0):ZC h h z TI TO qs rows 0 []:=⟨.inl Z.obj,Z.aL,Z.own,Z.at_,rfl,λj v r h1=> by simp at h1,List.nodup_nil,λc o _ _ _ e=> e⟩
theorem AW {R:Result->Shared->Prop} (hh:A.handled=none) (D:d8 z TI TO qs) (hsz:qs.length<=sizeLine) (hne:qs≠[]) {h0:Heap} (RR:ZR h0 qs rows) (hn:rows.length<=sizeLine) (Z:ZC h0 s.heap z TI TO qs rows 0 []) (hlt:h0.objs.size<=s.heap.objs.size) {S:Addr} (hS:S≠z/\S≠TI/\S≠TO/\(∀q∈qs,S≠q.it)) (hS0:h0.get? S=none) (res:Value) {c₀:Nat}
  (hS1:s.heap.get? S=some {cls:= .type "list",data:= .seq #[] c₀})
  (hR:∀h' acc' c',ZF h0 h' z TO qs rows acc'.toList->h'.get? S=some {cls:= .type "list",dict:=none,data:= .seq acc' c',slots:= #[]}->R (.ok (.ret res)) {s with heap:=h'}):
  wpAny (model prog w) A.in1 (Builtin.List.listExtendWith (.ref S) (.ref z) res)
   (λfin s' => match fin with | .done f=> R (.ok f) s' | .again c' => c'.quiet=true/\codeAny (model prog w) A c' R s') (λe s' => R (.error e) s') s:=by
 unfold Builtin.List.listExtendWith;refine aCm (aEk Z.type ?_);have h1:Builtin.List.listSameRef (.ref S) (.ref z)=false:=by simp [Builtin.List.listSameRef,hS.1]
 have h2:(Value.type "zip"==Value.type "list")=false:=by decide
 have h3:(Value.type "zip"==Value.type "tuple")=false:=by decide
 simp only [h1,h2,h3,Bool.or_false,Bool.false_eq_true,if_false]
 have hob:s.heap.get? z=some {cls:= .type "zip",dict:=none,data:= .fields #[.none,.bool false,.bool false,.ref TI,.ref TO],slots:= #[]}\/∃T fl,s.heap.get? z=some (v5 T fl TI TO):=by
  rcases Z.obj with e | ⟨T,fl,_,e,_⟩
  ·exact .inl e
  ·exact .inr ⟨T,fl,e⟩
 have hit:∀(Q:Value->Shared->Prop) (E:Value->Shared->Prop),Q (.ref z) s->wpAny (model prog w) A.in1 (pyIter (.ref z)) Q E s:=λQ E q=> by
  refine aF6 Z.type aG5 (aD5 aG5 Z.type F.entry_zip_iter ?_ (F.args_zip_iter_1 _));exact aCo ⟨_,rfl,"zip",_,Z.type,aE6.lookup,q⟩
 refine aCm (hit _ _ ?_);refine aCm (aDm ?_);unfold Builtin.List.listLengthHint;refine aCm (aG6 Z.type DY ?_);show wpAny _ A.in1 (specialOf (Value.ref z) (Str.ofString "__length_hint__") >>=_) _ _ _;refine aCm (aG6 Z.type AX ?_);refine aCo ?_
 have key:∀(h:Heap) (c₁:Nat),ZC h0 h z TI TO qs rows 0 []->h0.objs.size<=h.objs.size->h.get? S=some {cls:= .type "list",data:= .seq #[] c₁}->codeAny (model prog w) A (.builtin "list.extend.loop" ⟨[.ref S,.ref z,res],[]⟩) R {s with heap:=h}:=λh c₁ Z1 hl hS2=>
  DZ hh D hsz hne RR hn hS hS0 res rows.length 0 {s with heap:=h} #[] c₁ rfl (aEd _) Z1 hl hS2 λh' acc' c' z1 z2=> hR h' acc' c' z1 z2
 refine aG7 (λ_=> ?_) (λ_=> aCo ⟨aEh aGb _,key _ c₀ Z hlt hS1⟩);refine aCm (aE2 ?_);refine aCm ?_;show wpAny _ A.in1 (updateSeq S (·.push .none) >>=λ_=> updateSeq S (·.pop)) _ _ _;refine aCm (aE5 hS1 rfl ?_);have hS₂:=aDv (Obj.mapSeq (·.push Value.none)) hS1 rfl;refine aE5 (hz:=by seq_fits) hS₂ rfl ?_;have hS₃:=aDv (Obj.mapSeq (·.pop)) hS₂ rfl;refine aCo ⟨aEh aGb _,key _ _ ?_ ?_ hS₃⟩
 ·refine Z.other hS (λo e=> by rw [hS1] at e;cases e;rfl) hS0 λc o c1 e=> ?_;exact (aDl _ _ (aDw c1)).trans ((aDl _ _ (aDw c1)).trans e)
 ·rw [Heap.size_update,Heap.size_update];exact hlt
theorem ZC.push {h0 h:Heap} {i:Nat} {vs:List Value} (Z:ZC h0 h z TI TO qs rows i vs) (o:Obj):ZC h0 (h.push o) z TI TO qs rows i vs:=by
 have up:∀c o',h.get? c=some o' ->(h.push o).get? c=some o' :=λc o' e=> aCp _ e;refine ⟨?_,?_,?_,λq hq=> (Z.at_ q hq).to λo' e=> up _ _ e,Z.len,λj v r h1 h2=> ?_,Z.nd,λc o' c1 c2 c3 e=> up _ _ (Z.keep c o' c1 c2 c3 e)⟩
 ·rcases Z.obj with e | ⟨T,fl,o',e1,e2,e3⟩
  ·exact .inl (up _ _ e)
  ·exact .inr ⟨T,fl,o',up _ _ e1,up _ _ e2,e3⟩
 ·obtain ⟨n,e⟩:=Z.aL;exact ⟨n,up _ _ e⟩
 ·obtain ⟨xs,n,l,e⟩:=Z.own;exact ⟨xs,n,l,up _ _ e⟩
 ·obtain ⟨a,e1,e2,e3⟩:=Z.tup j v r h1 h2;exact ⟨a,e1,up _ _ e2,e3⟩
theorem AY {Q:List Value->Shared->Prop} (hh:A.handled=none) (D:d8 z TI TO qs) (hsz:qs.length<=sizeLine) (hne:qs≠[]) (Z0:gH s.heap z TI TO qs .none 0) (RR:ZR s.heap qs rows) (hn:rows.length<=sizeLine)
  (hQ:∀h' vs,ZF s.heap h' z TO qs rows vs->s.heap.objs.size < h'.objs.size->Q vs {s with heap:=h'}):wpAny (model prog w) A (collect (.ref z)) Q E s:=by
 have Z:ZC s.heap s.heap z TI TO qs rows 0 []:=ZC.start Z0;unfold collect;refine aCm (wpAny_runValue (aE3 F.entry_proto_collect ?_));rw [Around.under_plainId F.plain_proto_collect _];show wpAny _ A.in1 (newList [] >>=λl=> again (.builtin "list.__iadd__" ⟨[l,.ref z],[]⟩)) _ _ s;refine aCm (aDc ?_);refine aCo ⟨aEh F.plain_list_iadd _,aE3 F.entry_list_iadd ?_⟩;rw [Around.under_plainId F.plain_list_iadd _];have hS₁:(s.heap.push {cls:= .type "list",data:= .seq ([]:List Value).toArray}).get? s.heap.objs.size=some {cls:= .type "list",data:= .seq #[]}:=aCu _ rfl
 have hS0:s.heap.get? s.heap.objs.size=none:=by
  cases e:s.heap.get? s.heap.objs.size with
  | none=> rfl
  | some o=> exact absurd (aCx e) (aEa _)
 show wpAny _ A.in1 (Builtin.List.listExtendWith (.ref s.heap.objs.size) (.ref z) (.ref s.heap.objs.size)) _ _ _
 have key:=AW (prog:=prog) (w:=w) (A:=A) (s:={s with heap:=s.heap.push {cls:= .type "list",data:= .seq ([]:List Value).toArray}})
  (R:=λ(q:Result) (s' :Shared)=> ∃(h' :Heap) (acc' :Array Value) (c' :Nat),q= .ok (.ret (.ref s.heap.objs.size))/\s' ={s with heap:=h'}/\ZF s.heap h' z TO qs rows acc'.toList/\h'.get? s.heap.objs.size=some {cls:= .type "list",dict:=none,data:= .seq acc' c',slots:= #[]})
  hh D hsz hne RR hn (Z.push _) (by rw [size_push'];omega) (J4 Z) hS0 (.ref s.heap.objs.size) hS₁ (λh' acc' c' z1 z2=> ⟨h',acc',c',rfl,rfl,z1,z2⟩)
 refine aEf key (λfin s' x=> ?_) λe s' x=> ?_
 ·cases fin with
  | done f=>
   obtain ⟨h',acc',c',e,rfl,z1,hS'⟩:=x;cases e;show wpAny _ A (load s.heap.objs.size >>=_) _ _ _;refine aCm (aGc hS' ?_);exact aCo (hQ h' _ z1 (aCx hS'))
  | again c₁=>
   refine ⟨x.1,aFc x.2 λq s₂ y=> ?_⟩;obtain ⟨h',acc',c',rfl,rfl,z1,hS'⟩:=y;show wpAny _ A (load s.heap.objs.size >>=_) _ _ _;refine aCm (aGc hS' ?_);exact aCo (hQ h' _ z1 (aCx hS'))
 ·obtain ⟨_,_,_,e',_⟩:=x;cases e'
theorem vR {Q₁:Value->Shared->Prop} (hh:A.handled=none) (D:d8 z TI TO qs) (hsz:qs.length<=sizeLine) (hne:qs≠[]) (Z0:gH s.heap z TI TO qs .none 0) (RR:ZR s.heap qs rows) (hn:rows.length<=sizeLine)
  (h:∀h' vs,ZF s.heap h' z TO qs rows vs->s.heap.objs.size < h'.objs.size->Q₁ (.ref h'.objs.size) {s with heap:=h'.push {cls:= .type "tuple",data:= .seq vs.toArray}}):
  codeAny (model prog w) A (.call (.builtin "tuple.__new__") ⟨[.type "tuple",.ref z],[]⟩) (wants Q₁ E) s:=by
 refine codeAny_of_tree ?_;show wpAny _ A.in1 (do checkBuiltinCall "tuple.__new__" ⟨[.type "tuple",.ref z],[]⟩;again (.builtin "tuple.__new__" ⟨[.type "tuple",.ref z],[]⟩)) _ _ s;refine aCm (aFo (F.newCall_tuple_1 _) (aCo ⟨aEh F.plain_tuple_new _,aE3 F.entry_tuple_new ?_⟩));rw [Around.under_plainId F.plain_tuple_new _];have hsub:=sub_tuple_self;have hinit:=init_tuple_lookup;have hmh:=madeHere_tuple
 have hTI:s.TypeIs (.ref z) "zip":=⟨_,Z0.obj,rfl⟩
 wp_walk using aEk hTI,AY (A:=A.in1) hh D hsz hne Z0 RR hn
 intro h' vs zf hsl;show wpAny _ _ (Builtin.Tuple.tupleExact vs.toArray >>=λv=> ret v) _ _ _;unfold Builtin.Tuple.tupleExact;refine aCm (aDc ?_ (by show vs.toArray.size<=sizeLine;simp only [List.size_toArray];rw [zf.len];exact hn));refine aCo ?_;exact h h' vs zf hsl
theorem vV {Q:Value->Shared->Prop} (hh:A.handled=none) (D:d8 z TI TO qs) (hsz:qs.length<=sizeLine) (hne:qs≠[]) (Z0:gH s.heap z TI TO qs .none 0) (RR:ZR s.heap qs rows) (hn:rows.length<=sizeLine)
  (hQ:∀h' vs,ZF s.heap h' z TO qs rows vs->s.heap.objs.size < h'.objs.size->Q (.ref h'.objs.size) {s with heap:=h'.push {cls:= .type "tuple",data:= .seq vs.toArray}}):
  wpAny (model prog w) A (call (.type "tuple") [.ref z]) Q E s:=by
 refine callType_codes (Q₁:=λobj s₁=> s₁.TypeIs obj "tuple"/\Q obj s₁) F.called_tuple (F.typeCall_tuple_1 _) F.entry_object_init
  (vR hh D hsz hne Z0 RR hn λh' vs zf hsl=> ⟨⟨_,aCu _ rfl,rfl⟩,hQ h' vs zf hsl⟩) λobj s₁ h₁=> ?_
 exact ⟨h₁.1,F.args_object_init_2 obj _,object_init_meets F.called_tuple.init.lookup F.called_tuple.made (by decide) prog w A.in1 _ s₁ ⟨h₁.1,rfl,h₁.2⟩⟩
theorem wN {Q:Value->Shared->Prop} (hh:A.handled=none) (D:d8 z TI TO qs) (hsz:qs.length<=sizeLine) (hne:qs≠[]) (Z0:gH s.heap z TI TO qs .none 0) (RR:ZR s.heap qs rows) (hn:rows.length<=sizeLine)
  (hQ:∀h' vs c,ZF s.heap h' z TO qs rows vs->h'.get? s.heap.objs.size=some {cls:= .type "list",dict:=none,data:= .seq vs.toArray c,slots:= #[]}->Q (.ref s.heap.objs.size) {s with heap:=h'}):
  wpAny (model prog w) A (call (.type "list") [.ref z]) Q E s:=by
 have Z:ZC s.heap s.heap z TI TO qs rows 0 []:=ZC.start Z0
 refine callType_codes (Q₁:=λobj s₁=> obj= .ref s.heap.objs.size/\s₁={s with heap:=s.heap.push {cls:= .type "list",data:= .seq #[]}}) PySem.F.called_list (PySem.F.typeCall_list_1 _) PySem.F.entry_list_init
  (code_list_new _ ⟨rfl,rfl⟩) λobj s₁ h₁=> ?_
 obtain ⟨rfl,rfl⟩:=h₁;have hS:(s.heap.push {cls:= .type "list",data:= .seq #[]}).get? s.heap.objs.size=some {cls:= .type "list",data:= .seq #[]}:=aCu _ rfl
 have hS0:s.heap.get? s.heap.objs.size=none:=by
  cases e:s.heap.get? s.heap.objs.size with
  | none=> rfl
  | some o=> exact absurd (aCx e) (aEa _)
 refine ⟨⟨_,hS,rfl⟩,PySem.F.args_list_init_2 _ _,?_⟩;show wpAny _ _ (do let old<-Builtin.List.listItems (.ref s.heap.objs.size);Builtin.List.listUpdate (.ref s.heap.objs.size) (λ_=> #[]);letGo old.toList.reverse;Builtin.List.listExtendWith (.ref s.heap.objs.size) (.ref z) .none) _ _ _;refine aCm ?_;unfold Builtin.List.listItems;refine aCm (aDs hS rfl (aCo ?_));show wpAny _ _ (updateSeq s.heap.objs.size (λ_=> #[]) >>=λ_=> letGo (#[]:Array Value).toList.reverse >>=λ_=> Builtin.List.listExtendWith (.ref s.heap.objs.size) (.ref z) .none) _ _ _;refine aCm (aE5 hS rfl ?_);have hS₂:=aDv (Obj.mapSeq (λ_=> (#[]:Array Value))) hS rfl;refine aCm (wpAny_letGo ?_);refine AW (A:=A.in1) hh D hsz hne RR hn ((Z.push _).other (J4 Z) (λo e=> by rw [hS] at e;cases e;rfl) hS0 λc o c1 e=> (aDl _ _ (aDw c1)).trans e) ?_ (J4 Z) hS0 .none hS₂ λh' acc' c' z1 z2=> ?_
 ·rw [Heap.size_update,size_push'];omega
 ·exact ⟨rfl,hQ h' acc'.toList c' z1 (by simpa using z2)⟩
end
section
variable {X:Cx} {pins:List (Addr×Obj)} {σ:St} {H H' :Hp} {s:Shared}
theorem Inv.VT {fp:List Addr} {h' :Heap} {t' :Nat} (I:Inv X pins σ H s) (hf:∀b∈fp,pE X pins H b) (k:∀b o,b∉fp->s.heap.get? b=some o->h'.get? b=some o)
  (hold:∀b,b < s.heap.objs.size->H' b=H b) (new:∀b o,s.heap.objs.size<=b->H' b=some o->dM X.prog X.w H' h' b o):Inv X pins σ H' {s with heap:=h',toks:=t'}:=by
 have ntr:∀b u,H b=some u->b∉fp:=λb u e z=> by rw [(hf b z).1] at e;cases e
 have up:∀b u,H b=some u->H' b=some u:=λb u e=> by rw [hold b (I.cG b u e).lt];exact e
 refine I.step (g' :=s.gens) (d' :=s.drawn) (ch:=fp) (λb hb=> ⟨(hf b hb).2.2.2.1,(hf b hb).2.1,(hf b hb).2.2.2.2.1,(hf b hb).2.2.2.2.2⟩) (λb o _ _ hc e _=> k b o hc e) (λb o _ _ hc e _=> ⟨o.slots,k b o hc e⟩)
  (λb o _ e n=> by rw [hold b (Heap.lt_size e)];exact n) (λb o hc e=> ⟨o,k b o hc e⟩) (λb xs e=> up _ _ e) (λb o u e=> up _ _ e)
  (λb ps e=> ⟨#[],by rw [up _ _ e];simp⟩) (λm hm=> ?_) (λb u e=> ?_) I.bare
 ·obtain ⟨o,es,ep,ho,r⟩:=hm;exact ⟨o,es,ep,k _ o (λz=> (hf _ z).2.1 rfl) ho,r⟩
 ·by_cases hb:b < s.heap.objs.size
  ·rw [hold b hb] at e;refine (I.cG b u e).sP (λc v hc q=> k c v ?_ q) (λc q=> up _ _ q) λc xs q=> up _ _ q;rcases hc with rfl | hc
   ·exact ntr _ u e
   ·exact ntr _ _ hc
  ·exact new b u (aEy hb) e
end
structure NY {α:Type} (cols rows:List (List α)):Prop where
 row:∀(i:Nat) r,rows[i]? =some r->r.length=cols.length/\∀(j:Nat) xs x,cols[j]? =some xs->r[j]? =some x->xs[i]? =some x
 fin:∃(k:Nat) (vals:List α) (xs:List α),vals.length=k/\cols[k]? =some xs/\xs[rows.length]? =none/\∀(j:Nat) ys x,cols[j]? =some ys->vals[j]? =some x->ys[rows.length]? =some x
open Classical in
noncomputable def qW (H:Hp):List Addr->List (List V)->Hp
 | a::as,r::rs=> upd (qW H as rs) a (.tup r)
 | _,_=> H
theorem jM {H:Hp}:∀{as:List Addr} {rs:List (List V)} {b:Addr},b∉as->qW H as rs b=H b
 | [],rs,b,_=> by cases rs <;> rfl
 | a::as,[],b,_=> rfl
 | a::as,r::rs,b,h=> by
  simp only [List.mem_cons,not_or] at h;show upd (qW H as rs) a (.tup r) b=H b;rw [aV h.1];exact jM h.2
theorem yN {H:Hp}:∀{as:List Addr} {rs:List (List V)} {j:Nat} {a:Addr} {r:List V},as.Nodup->as[j]? =some a->rs[j]? =some r->qW H as rs a=some (.tup r)
 | [],rs,j,a,r,_,h,_=> by simp at h
 | a' ::as,[],j,a,r,_,_,h=> by simp at h
 | a' ::as,r' ::rs,0,a,r,_,h1,h2=> by
  simp at h1 h2;subst h1 h2;show upd _ _ _ _=_;rw [cE]
 | a' ::as,r' ::rs,j+1,a,r,nd,h1,h2=> by
  simp at h1 h2;have hne:a≠a' :=λz=> (aEt.mp nd).1 (z▸aCz h1);show upd _ _ _ _=_;rw [aV hne];exact yN (aEt.mp nd).2 h1 h2
theorem J3 {H:Hp}:∀{as:List Addr} {rs:List (List V)} {b:Addr} {o:HO},as.Nodup->b∈as->(∀a∈as,H a=none)->qW H as rs b=some o->∃(j:Nat) (r:List V),as[j]? =some b/\rs[j]? =some r/\o= .tup r
 | as,rs,b,o,nd,hb,hn,e=> by
  obtain ⟨j,hj⟩:=aD3.mp hb
  cases hr:rs[j]? with
  | some r=> rw [yN nd hj hr] at e;cases e;exact ⟨j,r,hj,hr,rfl⟩
  | none=>
   exfalso
   have go:∀{as:List Addr} {rs:List (List V)} {j:Nat},as.Nodup->as[j]? =some b->rs[j]? =none->qW H as rs b=H b:=by
    intro as
    induction as with
    | nil=> intro rs j _ h _;simp at h
    | cons a as ih=>
     intro rs j nd h1 h2
     cases rs with
     | nil=> rfl
     | cons r rs=>
      cases j with
      | zero=> simp at h2
      | succ j=>
       simp at h1 h2;have hne:b≠a:=λz=> (aEt.mp nd).1 (z▸aCz h1);show upd _ _ _ _=_;rw [aV hne];exact ih (aEt.mp nd).2 h1 (by simpa using h2)
   rw [go nd hj hr,hn b hb] at e;cases e
def S2 (K:aGp) (T:String) (n:Nat) (ta:TA):TE:=λσ H Q=> ta σ H λvs H1=> ∃(src:List (Addr×Bool)) (cols rows:List (List V)),vs=src.map (λp=> V.ref p.1)/\src.length=n/\cols.length=n/\(∀(j:Nat) p xs,src[j]? =some p->cols[j]? =some xs->HL K H1 p.2 p.1 xs)/\
 NY cols rows/\rows.length<=sizeLine/\∀(as:List Addr) (p:Addr),as.length=rows.length->as.Nodup->(∀a∈as,H1 a=none)->H1 p=none->p∉as->Q (.ref p) (upd (qW H1 as rows) p (if T= "tuple" then .tup (as.map .ref) else .lst (as.map .ref)))
theorem lZ:∀(as:List Addr),Vals (as.map V.ref) (as.map Value.ref)
 | []=> .nil
 | a::as=> .cons rfl (lZ as)
theorem YA {P:Nat->List Value->List V->Prop}:∀{rs:List (List V)},(∀(i:Nat) r,rs[i]? =some r->∃us,P i us r)->∃uss:List (List Value),uss.length=rs.length/\∀(i:Nat) us r,uss[i]? =some us->rs[i]? =some r->P i us r:=by
 intro rs
 induction rs generalizing P with
 | nil=> intro _;exact ⟨[],rfl,λi us r h=> by simp at h⟩
 | cons r rs ih=>
  intro h;obtain ⟨us,hu⟩:=h 0 r rfl;obtain ⟨uss,hl,hp⟩:=ih (P:=λi=> P (i+1)) λi r hr=> h (i+1) r (by simpa using hr);refine ⟨us::uss,by simp [hl],λi us' r' h1 h2=> ?_⟩
  cases i with
  | zero=> simp at h1 h2;subst h1 h2;exact hu
  | succ i=> exact hp i us' r' (by simpa using h1) (by simpa using h2)
theorem F2 {X:Cx} {pins:List (Addr×Obj)} {σ:St} {H1:Hp} {s1:Shared} {h' :Heap} {T:String} {rows:List (List V)} {uss:List (List Value)} {vs:List Value} {zz TO:Addr} {qs:List Src} {p:Addr} {c:Nat} (I1:Inv X pins σ H1 s1) (fpo:∀b,b=zz\/b=TO\/(∃q∈qs,b=q.it)->pE X pins H1 b)
  (hT:T= "tuple"\/T= "list") (hl:uss.length=rows.length) (hv:∀(i:Nat) us r,uss[i]? =some us->rows[i]? =some r->Vals r us) (hn:rows.length<=sizeLine) (hn2:∀r∈rows,r.length<=sizeLine)
  (zf:ZF s1.heap h' zz TO qs uss vs) (hp:s1.heap.objs.size<=p) (ho:h'.get? p=some {cls:= .type T,dict:=none,data:= .seq vs.toArray c,slots:= #[]}) (hpt:∀(j:Nat) a,vs[j]? =some (.ref a)->a≠p):
  ∃as:List Addr,as.length=rows.length/\as.Nodup/\(∀a∈as,H1 a=none)/\H1 p=none/\p∉as/\Inv X pins σ (upd (qW H1 as rows) p (if T= "tuple" then .tup (as.map .ref) else .lst (as.map .ref))) {s1 with heap:=h'}:=by
 have hx:∀v∈vs,∃a,v= .ref a:=λv hv=> by
  obtain ⟨j,hj⟩:=aD3.mp hv;have hjl:j < uss.length:=by have:=(aCn.mp hj).1;rw [zf.len] at this;exact this
  obtain ⟨a,e,_⟩:=zf.tup j v _ hj (aCy hjl);exact ⟨a,e⟩
 obtain ⟨as,rfl⟩:∃as:List Addr,vs=as.map Value.ref:=by
  clear zf ho hpt
  induction vs with
  | nil=> exact ⟨[],rfl⟩
  | cons v vs ih=>
   obtain ⟨a,rfl⟩:=hx v (by simp);obtain ⟨as,rfl⟩:=ih λv hv=> hx v (by simp [hv]);exact ⟨a::as,rfl⟩
 have hal:as.length=rows.length:=by have:=zf.len;simp at this;omega
 have nd:as.Nodup:=by
  have:=zf.nd;rw [List.nodup_iff_pairwise_ne] at this⊢;rw [List.pairwise_map] at this;exact this.imp λh z=> h (by rw [z])
 have at_:∀(j:Nat) a r,as[j]? =some a->rows[j]? =some r->∃us,Vals r us/\h'.get? a=some {cls:= .type "tuple",data:= .seq us.toArray}/\s1.heap.objs.size<=a:=λj a r h1 h2=> by
  have hjl:j < uss.length:=by have:=(aCn.mp h2).1;omega
  have hu:=aCy hjl;obtain ⟨a',e1,e2,e3⟩:=zf.tup j (.ref a) _ (by rw [List.getElem?_map,h1];rfl) hu;cases e1;exact ⟨_,hv j _ r hu h2,e2,e3⟩
 have new:∀a∈as,s1.heap.objs.size<=a:=λa ha=> by
  obtain ⟨j,hj⟩:=aD3.mp ha;have hjl:j < rows.length:=by have:=(aCn.mp hj).1;omega
  obtain ⟨_,_,_,h⟩:=at_ j a _ hj (aCy hjl);exact h
 have hfr:∀a∈as,H1 a=none:=λa ha=> I1.cG.fresh (new a ha)
 have hpn:p∉as:=λha=> by
  obtain ⟨j,hj⟩:=aD3.mp ha;exact hpt j p (by rw [List.getElem?_map,hj];rfl) rfl
 refine ⟨as,hal,nd,hfr,I1.cG.fresh hp,hpn,?_⟩;refine I1.VT (fp:=zz::TO::qs.map (·.it)) (t' :=s1.toks) (λb hb=> fpo b ?_) (λb o hb e=> zf.keep b o (λz=> hb (by simp [z])) (λz=> hb (by simp [z])) (λq hq z=> hb (by simp;exact .inr (.inr ⟨q,hq,z.symm⟩))) e) (λb hb=> ?_) (λb o hb e=> ?_)
 ·simp at hb;rcases hb with rfl | rfl | ⟨q,hq,rfl⟩
  ·exact .inl rfl
  ·exact .inr (.inl rfl)
  ·exact .inr (.inr ⟨q,hq,rfl⟩)
 ·rw [aV (Nat.ne_of_lt (Nat.lt_of_lt_of_le hb hp)),jM λha=> Nat.lt_irrefl _ (Nat.lt_of_lt_of_le hb (new b ha))]
 ·by_cases hbp:b=p
  ·subst hbp;rw [cE] at e;cases e;rcases hT with rfl | rfl
   ·simp only [if_true];exact ⟨by simp;omega,_,lZ as,⟨_,ho,rfl,c,rfl⟩,λo' e' => by rw [ho] at e';cases e';rfl⟩
   ·rw [if_neg (by decide)];exact ⟨by simp;omega,_,c,lZ as,ho⟩
  ·rw [aV hbp] at e;by_cases hba:b∈as
   ·obtain ⟨j,r,h1,h2,rfl⟩:=J3 nd hba hfr e;obtain ⟨us,v,g,_⟩:=at_ j b r h1 h2;exact ⟨hn2 r (aCz h2),us,v,⟨_,g,rfl,0,rfl⟩,λo' e' => by rw [g] at e';cases e';rfl⟩
   ·rw [jM hba,I1.cG.fresh hb] at e;cases e
theorem LF {X:Cx} {n:Nat} {T:String} {t:Str} {e:Expr} {es:List Expr} {ta:TA} {p0 p1 pos pos1:Pos} (z:JR n) (hn:0 < n/\n<=1000) (hc:X.calm=true) (hT:(t= "tuple"/\T= "tuple")\/(t= "list"/\T= "list")) (hgT:Gl X t) (hmT:X.mg t=none) (hvT:bootBuiltins t=some (.type T)) (hg:Gl X "zip") (hm:X.mg "zip"=none) (ha:PA X (e::es) ta)
  (hv:bootBuiltins "zip"=some (.type "zip"):=by decide+kernel)
  (he:starEach (e::es) X.env=(false,eval e X.env)::starEach es X.env:=by rfl) (hpl:(backTo pos (starEach es X.env)).any (·.1)=false:=by rfl)
  (he1:starEach [.Call (.Name "zip" p0) (e::es) [] pos] X.env=(false,eval (.Call (.Name "zip" p0) (e::es) [] pos) X.env)::starEach [] X.env:=by rfl) (hpl1:(backTo pos1 (starEach [] X.env)).any (·.1)=false:=by rfl):
  PE X (.Call (.Name t p1) [.Call (.Name "zip" p0) (e::es) [] pos] [] pos1) (S2 X.K T n ta):=by
 intro pins s σ H Q I h;have hTT:T= "tuple"\/T= "list":=hT.elim (λh=> .inl h.2) λh=> .inr h.2;refine aEn (oR I hgT hmT hvT ?_ (by rcases hT with ⟨rfl,_⟩ | ⟨rfl,_⟩ <;> decide) (by rcases hT with ⟨rfl,_⟩ | ⟨rfl,_⟩ <;> decide));refine aE9 ?_ he1 hpl1;rw [he1];show wpAny _ _ (spliced ((false,eval (.Call (.Name "zip" p0) (e::es) [] pos) X.env)::backTo pos1 (starEach [] X.env))) _ _ s;refine aEm ?_;refine aEn (oR I hg hm hv ?_);refine aE9 (cZ (ha pos pins s σ H _ I h) λus s1 ⟨vs,H1,I1,r1,q1⟩=> ?_) he hpl;obtain ⟨src,cols,rows,rfl,hl,hcl,hs,RO,hrl,hR⟩:=q1;have hu:=iB r1;subst hu;have em:(src.map λp=> Value.ref p.1)=(src.map λp=> (⟨0,p.1,p.2⟩:Src)).map λq=> Value.ref q.l:=by rw [List.map_map];rfl
 have hz:src.length<=sizeLine:=aEu (w6 (by omega))
 have col:∀(j:Nat) p,src[j]? =some p->∃xs,cols[j]? =some xs/\HL X.K H1 p.2 p.1 xs:=λj p hj=> by
  have hjl:j < cols.length:=by have:=(aCn.mp hj).1;omega
  exact ⟨_,aCy hjl,hs j p _ hj (aCy hjl)⟩
 rw [em];refine yE (by simpa using hz) (z.t _ (by simpa using hl)) (z.n _ (by simpa using hl)) (λobj=> z.i _ obj (by simpa using hl)) (λq hq=> ?_) λh' zz TI TO t1 t2 t3 D Z kp=> ?_
 ·obtain ⟨p,hp,rfl⟩:=aD1.mp hq;obtain ⟨j,hj⟩:=aD3.mp hp;obtain ⟨xs,_,hx⟩:=col j p hj;obtain ⟨aL,_,hsq⟩:=I1.WL hx;exact ⟨aL.toArray,hsq 0⟩
 ·generalize hqs:b6 s1.heap.objs.size (src.map λp=> (⟨0,p.1,p.2⟩:Src))=qs at D Z;have hql:qs.length=src.length:=by rw [<-hqs,f7];simp
  have hqsrc:(qs.map λq=> (q.l,q.tup))=src:=by rw [<-hqs];exact oS _ _
  have I2:Inv X pins σ H1 {s1 with heap:=h'}:=I1.kept (t' :=s1.toks) kp
  have fpo:∀b,b=zz\/b=TO\/(∃q∈qs,b=q.it)->pE X pins H1 b:=λb hb=> by
   have hb0:s1.heap.objs.size<=b:=by
    rcases hb with rfl | rfl | ⟨q,hq,rfl⟩
    ·exact t3
    ·exact t2
    ·rw [<-hqs] at hq;exact (eQ hq).1
   exact (I1.M9 hb0 (I1.cG.fresh hb0):pE X pins H1 b)
  have hqj:∀(j:Nat) q,qs[j]? =some q->∃xs aL,cols[j]? =some xs/\Vals xs aL/\q.Sq h' aL.toArray:=λj q hj=> by
   have h1:src[j]? =some (q.l,q.tup):=by rw [<-hqsrc,List.getElem?_map,hj];rfl
   obtain ⟨xs,e1,hx⟩:=col j _ h1;obtain ⟨aL,r,hsq⟩:=I2.WL hx;exact ⟨xs,aL,e1,r,hsq q.it⟩
  have hne:qs≠[]:=by intro e0;rw [e0] at hql;simp at hql;omega
  have colq:∀(j:Nat) xs,cols[j]? =some xs->∃q,qs[j]? =some q:=λj xs hj=> by
   have:j < qs.length:=by have:=(aCn.mp hj).1;omega
   exact ⟨_,aCy this⟩
  have pickRow:∀(i:Nat) (vals:List V),(∀(j:Nat) xs x,cols[j]? =some xs->vals[j]? =some x->xs[i]? =some x)->vals.length<=cols.length->∃us:List Value,Vals vals us/\∀(j:Nat) q u,qs[j]? =some q->us[j]? =some u->∃items,q.Sq h' items/\items[i]? =some u:=λi vals hh hvl=> by
   obtain ⟨us,ru,pu⟩:=LD (P:=λj u=> ∀q,qs[j]? =some q->∃items,q.Sq h' items/\items[i]? =some u) (vs:=vals) λj v ev=> by
    have hjl:j < qs.length:=by have:=(aCn.mp ev).1;omega
    obtain ⟨xs,aL,e1,r,hsq⟩:=hqj j _ (aCy hjl);obtain ⟨u,hu,ru⟩:=r.get (hh j xs v e1 ev);refine ⟨u,ru,λq hq=> ?_⟩;rw [List.getElem?_eq_getElem hjl] at hq;cases hq;exact ⟨aL.toArray,hsq,by simpa using hu⟩
   exact ⟨us,ru,λj q u hq hu=> pu j u hu q hq⟩
  obtain ⟨uss,hul,hup⟩:=YA (P:=λi us r=> Vals r us/\∀(j:Nat) q u,qs[j]? =some q->us[j]? =some u->∃items,q.Sq h' items/\items[i]? =some u) (rs:=rows) λi r hr=> by
   obtain ⟨e1,e2⟩:=RO.row i r hr;exact pickRow i r e2 (by omega)
  have RR:ZR h' qs uss:=by
   refine ⟨λi us hus=> ?_,?_⟩
   ·have hil:i < rows.length:=by have:=(aCn.mp hus).1;omega
    obtain ⟨v,w⟩:=hup i us _ hus (aCy hil);refine ⟨?_,w⟩;have:=(RO.row i _ (aCy hil)).1;rw [<-v.length,this];omega
   ·obtain ⟨k,vals,xs,e1,e2,e3,e4⟩:=RO.fin;have hkl:k < cols.length:=(aCn.mp e2).1;obtain ⟨us,ru,pu⟩:=pickRow rows.length vals e4 (by omega);obtain ⟨q,hq⟩:=colq k xs e2;obtain ⟨xs',aL,g1,g2,g3⟩:=hqj k q hq;rw [e2] at g1;cases g1;refine ⟨k,us,by rw [<-ru.length];exact e1,by omega,λj q u a b=> by rw [hul];exact pu j q u a b,q,aL.toArray,hq,g3,?_⟩;rw [hul,List.getElem?_toArray];exact g2.none_of e3
  have hh:X.A.handled=none:=I.ok.hd hc
  have hrr:∀r∈rows,r.length<=sizeLine:=λr hr=> by
   obtain ⟨i,hi⟩:=aD3.mp hr;have:=(RO.row i r hi).1;omega
  refine aFr ?_;have fpo2:∀b,b=zz\/b=TO\/(∃q∈qs,b=q.it)->pE X pins H1 b:=fpo;rcases hTT with rfl | rfl
  ·refine vV hh D (by omega) hne Z RR (by omega) λh2 vs zf hsl=> ?_
   have zf2:ZF h' (h2.push {cls:= .type "tuple",data:= .seq vs.toArray}) zz TO qs uss vs:=⟨zf.len,zf.nd,λj v r a b=> by obtain ⟨x,y1,y2,y3⟩:=zf.tup j v r a b;exact ⟨x,y1,aCp _ y2,y3⟩,λc o c1 c2 c3 e=> aCp _ (zf.keep c o c1 c2 c3 e)⟩
   obtain ⟨as,a1,a2,a3,a4,a5,a6⟩:=F2 (s1:={s1 with heap:=h'}) (T:= "tuple") (p:=h2.objs.size) (c:=0) I2 fpo (.inl rfl) hul (λi us r h1 h2=> (hup i us r h1 h2).1) hrl hrr zf2 (aEu hsl) (aCu _ rfl) (λj a ha=> by
    have hjl:j < uss.length:=by have:=(aCn.mp ha).1;rw [zf.len] at this;exact this
    obtain ⟨x,y1,y2,_⟩:=zf.tup j _ _ ha (aCy hjl);cases y1
    exact aD6 (aCx y2))
   exact ⟨.ref h2.objs.size,_,a6,rfl,hR as _ a1 a2 a3 a4 a5⟩
  ·refine wN hh D (by omega) hne Z RR (by omega) λh2 vs c zf hob=> ?_
   obtain ⟨as,a1,a2,a3,a4,a5,a6⟩:=F2 (s1:={s1 with heap:=h'}) (T:= "list") (p:=h'.objs.size) (c:=c) I2 fpo (.inr rfl) hul (λi us r h1 h2=> (hup i us r h1 h2).1) hrl hrr zf (aCs _) hob (λj a ha z=> by
    have hjl:j < uss.length:=by have:=(aCn.mp ha).1;rw [zf.len] at this;exact this
    obtain ⟨x,y1,y2,_⟩:=zf.tup j _ _ ha (aCy hjl);cases y1;rw [z,hob] at y2;injection y2 with y2;injection y2 with y2
    simp at y2)
   exact ⟨.ref h'.objs.size,_,a6,rfl,hR as _ a1 a2 a3 a4 a5⟩
end L2
namespace D3
open PySem PySem.Spec PyProof.Rows L2
def aN {α:Type}:List (List α)->List (List α)
 | []=> []
 | [c]=> c.map λx=> [x]
 | c::d::cs=> List.zipWith List.cons c (aN (d::cs))
theorem rowsOf {α:Type}:∀(cols:List (List α)),cols≠[]->NY cols (aN cols)
 | [],h=> absurd rfl h
 | [c],_=> by
  refine ⟨λi r h=> ?_,0,[],c,rfl,rfl,by simp [aN],λj ys x _ h=> by simp at h⟩;simp only [aN,List.getElem?_map] at h;obtain ⟨x,hx,rfl⟩:=aDr.mp h;refine ⟨rfl,λj xs y h1 h2=> ?_⟩
  cases j with
  | zero=> simp at h1 h2;subst h1 h2;exact hx
  | succ j=> simp at h2
 | c::d::cs,_=> by
  have ih:=rowsOf (d::cs) (by simp);simp only [aN];generalize aN (d::cs)=rs at ih;refine ⟨λi r h=> ?_,?_⟩
  ·rw [List.getElem?_zipWith] at h
   cases h1:c[i]? with
   | none=> simp [h1] at h
   | some x=>
    cases h2:rs[i]? with
    | none=> simp [h1,h2] at h
    | some r' =>
     simp [h1,h2] at h;subst h;obtain ⟨e1,e2⟩:=ih.row i r' h2;refine ⟨by simp [e1],λj xs y g1 g2=> ?_⟩
     cases j with
     | zero=> simp at g1 g2;subst g1 g2;exact h1
     | succ j=> exact e2 j xs y (by simpa using g1) (by simpa using g2)
  ·by_cases hl:c.length<=rs.length
   ·refine ⟨0,[],c,rfl,rfl,?_,λj ys x _ h=> by simp at h⟩;rw [List.length_zipWith,Nat.min_eq_left hl];simp
   ·obtain ⟨k,vals,xs,g1,g2,g3,g4⟩:=ih.fin;have e:(List.zipWith List.cons c rs).length=rs.length:=by rw [List.length_zipWith];omega
    refine ⟨k+1,c[rs.length]'(by omega)::vals,xs,by simp [g1],by simpa using g2,by rw [e];exact g3,λj ys x h1 h2=> ?_⟩;rw [e]
    cases j with
    | zero=> simp at h1 h2;subst h1 h2;exact aCy _
    | succ j=> exact g4 j ys x (by simpa using h1) (by simpa using h2)
def lD (mh:MH):List D->Option (List (List D))
 | []=> some []
 | x::xs=> match bP mh x,lD mh xs with | some c,some cs=> some (c::cs) | _,_=> none
def ZQ (n:Nat) (w:WA):WE:=λρ mh Q=> w ρ mh λxs mh1=> ∃cols,lD mh1 xs=some cols/\xs.length=n/\(aN cols).length<=sizeLine/\Q (.tup ((aN cols).map .tup)) mh1
def ZT (n:Nat) (w:WA):WE:=λρ mh Q=> w ρ mh λxs mh1=> ∃cols,lD mh1 xs=some cols/\xs.length=n/\(aN cols).length<=sizeLine/\Q (.ref mh1.length) (mh1++[.lst ((aN cols).map .tup)])
section
variable {K:aGp} {μ:List Addr} {mh:MH} {H:Hp}
theorem GH (R:Rep K μ mh H):∀{xs:List D} {vs:List V} {cols:List (List D)},IsL K μ H xs vs->lD mh xs=some cols->∃(src:List (Addr×Bool)) (cv:List (List V)),vs=src.map (λp=> V.ref p.1)/\src.length=xs.length/\cv.length=xs.length/\cols.length=xs.length/\(∀(j:Nat) p c,src[j]? =some p->cv[j]? =some c->HL K H p.2 p.1 c)/\∀(j:Nat) c d,cv[j]? =some c->cols[j]? =some d->IsL K μ H d c
 | [],vs,cols,l,h=> by
  unfold IsL at l;subst l;simp [lD] at h;subst h;exact ⟨[],[],rfl,rfl,rfl,rfl,λj p c h=> by simp at h,λj c d h=> by simp at h⟩
 | x::xs,vs,cols,l,h=> by
  unfold IsL at l;obtain ⟨v,r,rfl,i,l⟩:=l;simp only [lD] at h
  cases h1:bP mh x with
  | none=> simp [h1] at h
  | some c=>
   cases h2:lD mh xs with
   | none=> simp [h1,h2] at h
   | some cs=>
    simp [h1,h2] at h;subst h;obtain ⟨a,ys,rfl,sa,la⟩:=uC R i h1;obtain ⟨src,cv,rfl,e1,e2,e3,e4,e5⟩:=GH R l h2;refine ⟨(a,N7 x)::src,ys::cv,rfl,by simp [e1],by simp [e2],by simp [e3],λj p c g1 g2=> ?_,λj c d g1 g2=> ?_⟩
    ·cases j with
     | zero=> simp at g1 g2;subst g1 g2;exact sa
     | succ j=> exact e4 j p c (by simpa using g1) (by simpa using g2)
    ·cases j with
     | zero=> simp at g1 g2;subst g1 g2;exact la
     | succ j=> exact e5 j c d (by simpa using g1) (by simpa using g2)
theorem F1:∀{cv:List (List V)} {cd:List (List D)},cv.length=cd.length->(∀(j:Nat) c d,cv[j]? =some c->cd[j]? =some d->IsL K μ H d c)->(aN cd).length=(aN cv).length/\∀(i:Nat) r d,(aN cv)[i]? =some r->(aN cd)[i]? =some d->IsL K μ H d r
 | [],cd,hl,h=> by
  have:cd=[]:=aE1.mp hl.symm;subst this;exact ⟨rfl,λi r d g=> by simp [aN] at g⟩
 | [c],cd,hl,h=> by
  match cd,hl with
  | [d],_=>
   have l:=h 0 c d rfl rfl;refine ⟨by simp [aN,aR l],λi r e g1 g2=> ?_⟩;simp only [aN,List.getElem?_map] at g1 g2;obtain ⟨x,hx,rfl⟩:=aDr.mp g1;obtain ⟨y,hy,rfl⟩:=aDr.mp g2;obtain ⟨v,k1,k2⟩:=fC l hy;rw [hx] at k1;cases k1;unfold IsL;exact ⟨_,_,rfl,k2,by unfold IsL;rfl⟩
 | c::c2::cv,cd,hl,h=> by
  match cd,hl with
  | d::d2::cd,hl=>
   have l:=h 0 c d rfl rfl;obtain ⟨e1,e2⟩:=F1 (cv:=c2::cv) (cd:=d2::cd) (by simpa using hl) λj c d g1 g2=> h (j+1) c d (by simpa using g1) (by simpa using g2);simp only [aN];generalize aN (c2::cv)=rv at e1 e2;generalize aN (d2::cd)=rd at e1 e2;refine ⟨by rw [List.length_zipWith,List.length_zipWith,e1,aR l],λi r e g1 g2=> ?_⟩;rw [List.getElem?_zipWith] at g1 g2
   cases h1:c[i]? with
   | none=> simp [h1] at g1
   | some x=>
    cases h2:rv[i]? with
    | none=> simp [h1,h2] at g1
    | some r' =>
     cases h3:d[i]? with
     | none=> simp [h3] at g2
     | some y=>
      cases h4:rd[i]? with
      | none=> simp [h3,h4] at g2
      | some r2=>
       simp [h1,h2] at g1;simp [h3,h4] at g2;subst g1 g2;obtain ⟨v,k1,k2⟩:=fC l h3;rw [h1] at k1;cases k1;unfold IsL;exact ⟨_,_,rfl,k2,e2 i r' r2 h2 h4⟩
theorem BA {H2:Hp}:∀{as:List Addr} {rv:List (List V)} {rd:List (List D)},as.length=rv.length->rd.length=rv.length->(∀(j:Nat) a r,as[j]? =some a->rv[j]? =some r->H2 a=some (.tup r))->(∀(i:Nat) r d,rv[i]? =some r->rd[i]? =some d->IsL K μ H2 d r)->IsL K μ H2 (rd.map .tup) (as.map V.ref)
 | [],rv,rd,h1,h2,_,_=> by
  have e1:rv=[]:=aE1.mp h1.symm;subst e1;have e2:rd=[]:=aE1.mp h2;subst e2;simp [IsL]
 | a::as,rv,rd,h1,h2,h3,h4=> by
  match rv,rd,h1,h2 with
  | r::rv,d::rd,h1,h2=>
   rw [List.map_cons,List.map_cons];unfold IsL;refine ⟨_,_,rfl,?_,BA (by simpa using h1) (by simpa using h2) (λj a r g1 g2=> h3 (j+1) a r (by simpa using g1) (by simpa using g2)) λi r d g1 g2=> h4 (i+1) r d (by simpa using g1) (by simpa using g2)⟩;unfold Is;exact ⟨a,r,rfl,.of (h3 0 a r rfl rfl),h4 0 r d rfl rfl⟩
end
section
variable {X:Cx} {n:Nat} {e:Expr} {es:List Expr} {wa:WA} {p0 p1 pos pos1:Pos}
theorem J2 {σ:L2.St} {H:Hp} {Q:VK} {T:String} (hn:0 < n) (w:WE) (hw:(T= "tuple"/\w=ZQ n wa)\/(T= "list"/\w=ZT n wa)) (h:tL X.K w σ H Q):S2 X.K T n (ZV X.K wa) σ H Q:=by
 obtain ⟨μ,ρ,mh,R,RR,En,h,F⟩:=h
 have main:∀(post:List D->MH->Prop),(∀xs mh1,post xs mh1->∃cols,lD mh1 xs=some cols/\xs.length=n/\(aN cols).length<=sizeLine/\(if T= "tuple" then R (.tup ((aN cols).map .tup)) mh1 else R (.ref mh1.length) (mh1++[.lst ((aN cols).map .tup)])))->wa ρ mh post->S2 X.K T n (ZV X.K wa) σ H Q:=λpost hp h=> by
  refine ⟨μ,ρ,mh,_,RR,En,h,λxs mh1 q μ1 vs H1 P1 R1 I1=> ?_⟩;obtain ⟨cols,hs,hl,hz,q⟩:=hp xs mh1 q;obtain ⟨src,cv,rfl,e1,e2,e3,e4,e5⟩:=GH R1 I1 hs;obtain ⟨z1,z2⟩:=F1 (by omega) e5;have Q4:cv≠[]:=λz=> by subst z;simp at e2;omega
  refine ⟨src,cv,aN cv,rfl,by omega,by omega,e4,rowsOf cv Q4,by omega,λas p a1 a2 a3 a4 a5=> ?_⟩
  have old:∀b o,H1 b=some o->qW H1 as (aN cv) b=some o:=λb o e=> by
   rw [jM λha=> by rw [a3 b ha] at e;cases e];exact e
  have P2:aU μ1 H1 μ1 (qW H1 as (aN cv)):=⟨⟨[],by simp⟩,λb o e _=> old b o e,λ_ h=> .inl h⟩
  have R2:Rep X.K μ1 mh1 (qW H1 as (aN cv)):=⟨R1.len,R1.nd,λn a ob h1 h2=> (R1.obj n a ob h1 h2).mono R1 P2 (jM λha=> R1.ne (a3 a ha) (aCz h1) rfl)⟩
  have hpf:qW H1 as (aN cv) p=none:=by rw [jM a5];exact a4
  have L:IsL X.K μ1 (qW H1 as (aN cv)) ((aN cols).map .tup) (as.map V.ref):=BA a1 z1 (λj a r g1 g2=> yN a2 g1 g2) λi r d g1 g2=> IsL.mono R1 P2 d r (z2 i r d g1 g2);by_cases hT:T= "tuple"
  ·simp only [if_pos hT] at q⊢;exact nC R2 (F.at (P1.trans P2)) L q p hpf
  ·simp only [if_neg hT] at q⊢;exact hZ R2 (F.at (P1.trans P2)) L q p hpf
 rcases hw with ⟨rfl,rfl⟩ | ⟨rfl,rfl⟩
 ·exact main _ (λxs mh1 q=> by obtain ⟨c,h1,h2,h3,h4⟩:=q;exact ⟨c,h1,h2,h3,by simp only [if_true];exact h4⟩) h
 ·exact main _ (λxs mh1 q=> by obtain ⟨c,h1,h2,h3,h4⟩:=q;exact ⟨c,h1,h2,h3,by rw [if_neg (by decide)];exact h4⟩) h
theorem YR (z:JR n) (hn:0 < n/\n<=1000) (hc:X.calm=true) (hmT:X.mg "tuple"=none) (hm:X.mg "zip"=none) (ha:LA X (e::es) wa) (hgT:Gl X "tuple":=by rfl) (hg:Gl X "zip":=by rfl)
  (he:starEach (e::es) X.env=(false,eval e X.env)::starEach es X.env:=by rfl) (hpl:(backTo pos (starEach es X.env)).any (·.1)=false:=by rfl)
  (he1:starEach [.Call (.Name "zip" p0) (e::es) [] pos] X.env=(false,eval (.Call (.Name "zip" p0) (e::es) [] pos) X.env)::starEach [] X.env:=by rfl) (hpl1:(backTo pos1 (starEach [] X.env)).any (·.1)=false:=by rfl):
  LE X (.Call (.Name "tuple" p1) [.Call (.Name "zip" p0) (e::es) [] pos] [] pos1) (ZQ n wa):=
 PE.imp (LF z hn hc (.inl ⟨rfl,rfl⟩) hgT hmT iS hg hm ha (by decide+kernel) he hpl he1 hpl1) λσ H Q h=> J2 hn.1 _ (.inl ⟨rfl,rfl⟩) h
theorem YS (z:JR n) (hn:0 < n/\n<=1000) (hc:X.calm=true) (hmT:X.mg "list"=none) (hm:X.mg "zip"=none) (ha:LA X (e::es) wa) (hgT:Gl X "list":=by rfl) (hg:Gl X "zip":=by rfl)
  (he:starEach (e::es) X.env=(false,eval e X.env)::starEach es X.env:=by rfl) (hpl:(backTo pos (starEach es X.env)).any (·.1)=false:=by rfl)
  (he1:starEach [.Call (.Name "zip" p0) (e::es) [] pos] X.env=(false,eval (.Call (.Name "zip" p0) (e::es) [] pos) X.env)::starEach [] X.env:=by rfl) (hpl1:(backTo pos1 (starEach [] X.env)).any (·.1)=false:=by rfl):
  LE X (.Call (.Name "list" p1) [.Call (.Name "zip" p0) (e::es) [] pos] [] pos1) (ZT n wa):=
 PE.imp (LF z hn hc (.inr ⟨rfl,rfl⟩) hgT hmT qP hg hm ha (by decide+kernel) he hpl he1 hpl1) λσ H Q h=> J2 hn.1 _ (.inr ⟨rfl,rfl⟩) h
@[simp] theorem s_tz {ρ:gV} {mh:MH} {Q:DK} {n:Nat} {w:WA}:ZQ n w ρ mh Q↔w ρ mh λxs mh1=> ∃cols,lD mh1 xs=some cols/\xs.length=n/\(aN cols).length<=sizeLine/\Q (.tup ((aN cols).map .tup)) mh1:=aDh
@[simp] theorem s_lz {ρ:gV} {mh:MH} {Q:DK} {n:Nat} {w:WA}:ZT n w ρ mh Q↔w ρ mh λxs mh1=> ∃cols,lD mh1 xs=some cols/\xs.length=n/\(aN cols).length<=sizeLine/\Q (.ref mh1.length) (mh1++[.lst ((aN cols).map .tup)]):=aDh
end
def gE {α:Type} (xs:List α) (lo hi st:Option Int):List α:=(sliceRange (sliceBounds lo hi st xs.length).1 (sliceBounds lo hi st xs.length).2.1 (sliceBounds lo hi st xs.length).2.2).filterMap (xs[·]?)
theorem qZ {xs:List V} {us:List Value} (r:Vals xs us):∀(is:List Nat),Vals (is.filterMap (xs[·]?)) (is.filterMap (us[·]?))
 | []=> .nil
 | i::is=> by
  cases h:xs[i]? with
  | none=> rw [List.filterMap_cons_none h,List.filterMap_cons_none (r.none_of h)];exact qZ r is
  | some x=>
   obtain ⟨u,hu,ru⟩:=r.get h;rw [List.filterMap_cons_some h,List.filterMap_cons_some hu];exact .cons ru (qZ r is)
theorem vI {K:aGp} {μ:List Addr} {H:Hp} {ds:List D} {vs:List V} (l:IsL K μ H ds vs):∀(is:List Nat),IsL K μ H (is.filterMap (ds[·]?)) (is.filterMap (vs[·]?))
 | []=> by simp [IsL]
 | i::is=> by
  cases h:ds[i]? with
  | none=>
   have hv:vs[i]? =none:=by
    have:=aEe.mp h;exact aEe.mpr (by rw [aR l];exact this)
   rw [List.filterMap_cons_none h,List.filterMap_cons_none hv];exact vI l is
  | some x=>
   obtain ⟨u,hu,ru⟩:=fC l h;rw [List.filterMap_cons_some h,List.filterMap_cons_some hu];unfold IsL;exact ⟨_,_,rfl,ru,vI l is⟩
def aBq (K:aGp):V->Option Int->Option Int->Option Int->Hp->VK->Prop:=λx lo hi st H Q=> ∃a xs,x= .ref a/\pD K H a xs/\st≠some 0/\∀p,H p=none->Q (.ref p) (upd H p (.lst (gE xs lo hi st)))
def aAn (r:V->Option Int->Option Int->Option Int->Hp->VK->Prop) (te:TE) (tl th ts:TO):TE:=λσ H Q=> te σ H λx H1=> tl σ H1 λl H2=> th σ H2 λu H3=> ts σ H3 λst H4=> r x l u st H4 Q
section
variable {X:Cx} {e est:Expr} {te:TE} {lo hi:Option Expr} {tl th ts:TO} {pos p2:Pos}
theorem IH (he:PE X e te) (hl:PO X lo tl) (hu:PO X hi th) (hst:PO X (some est) ts):PE X (.Subscript e (.Slice lo hi (some est) p2) pos) (aAn (aBq X.K) te tl th ts):=by
 intro pins s σ H Q I h;refine Subscript_ (cZ (he pins s σ H _ I h) λv s1 ⟨x,H1,I1,r1,q1⟩=> ?_);refine wpAny_Slice (cZ (hl pins s1 σ H1 _ I1 q1) λvl s2 ⟨l,H2,I2,pl,q2⟩=> cZ (hu pins s2 σ H2 _ I2 q2) λvu s3 ⟨u,H3,I3,pu,q3⟩=> cZ (hst pins s3 σ H3 _ I3 q3) λvs s4 ⟨st,H4,I4,ps,q4⟩=> ?_);have I5:Inv X pins σ H4 {s4 with heap:=s4.heap.push {cls:= .type "slice",data:= .fields #[vl,vu,vs]}}:=I4.kept (t' :=s4.toks) λb ob q=> aCp _ q;obtain ⟨a,xs,rfl,hx,h0,q⟩:=q4;cases r1;obtain ⟨aL,r,ht,hz⟩:=I5.list hx;have hlen:=r.length;show wpAny (model X.prog X.w) X.A (subscriptTail e (.Slice lo hi (some est) p2) (.ref a) (.ref s4.heap.objs.size)) (EP X pins σ Q) X.xe {s4 with heap:=s4.heap.push {cls:= .type "slice",data:= .fields #[vl,vu,vs]}};refine tail_any (ops:=[.ref a,.ref s4.heap.objs.size]) ht.isList.typeIs slot_list_getitem.lookup ?_ (by with_unfolding_all rfl);refine wpAny_getItem_list_slice ht.isList (Heap.IsSliceOf.new ..) pl pu ps h0 ?_ (by rw [List.size_toArray] <;> omega)
 have hp:Vals (gE xs l u st) (slicePick aL.toArray l u st).toList:=by
  unfold slicePick gE;rw [List.size_toArray,hlen,List.toList_toArray];have e:(λi:Nat=> aL.toArray[i]?)=λi=> aL[i]? :=by funext i;simp
  rw [e];exact qZ r _
 have hsz:=slicePick_size_le aL.toArray l u st;refine ⟨.ref _,_,I5.laid (t' :=s4.toks) (o:= .lst (gE xs l u st)) (λb ob q=> aCp _ q) (aCs _) ?_,rfl,q _ (I5.cG.fresh (aCs _))⟩;refine ⟨?_,_,0,hp,?_⟩
 ·rw [hp.length,Array.length_toList];simp at hsz;omega
 ·rw [Array.toArray_toList];exact aCu _ rfl
end
section
variable {X:Cx} {e est:Expr} {w:WE} {lo hi:Option Expr} {wl wh ws:WO} {pos p2:Pos}
def KA (w:WE) (wl wh ws:WO):WE:=λρ mh Q=> w ρ mh λx mh1=> wl ρ mh1 λl mh2=> wh ρ mh2 λu mh3=> ws ρ mh3 λst mh4=> ∃ds,nO mh4 x=some ds/\st≠some 0/\Q (.ref mh4.length) (mh4++[.lst (gE ds l u st)])
theorem E3 (he:LE X e w) (hl:LO X lo wl) (hh:LO X hi wh) (hs:LO X (some est) ws):LE X (.Subscript e (.Slice lo hi (some est) p2) pos) (KA w wl wh ws):=PE.imp (IH he hl hh hs) λσ H Q q=> by
 obtain ⟨μ,ρ,mh,R,RR,E,h,F⟩:=q;refine ⟨μ,ρ,mh,_,RR,E,h,λdx mh1 h1 μ1 vx H1 P1 R1 I1=> ⟨μ1,ρ,mh1,_,R1,E.mono RR P1,h1,λl mh2 h2 μ2 H2 P2 R2=> ⟨μ2,ρ,mh2,_,R2,E.mono RR (P1.trans P2),h2,λu mh3 h3 μ3 H3 P3 R3=> ⟨μ3,ρ,mh3,_,R3,E.mono RR ((P1.trans P2).trans P3),h3,λst mh4 h4 μ4 H4 P4 R4=> ?_⟩⟩⟩⟩;obtain ⟨ds,hl,h0,q⟩:=h4;obtain ⟨a,vs,rfl,sq,il⟩:=vA R4 (Is.mono R1 ((P2.trans P3).trans P4) dx vx I1) hl;refine ⟨a,vs,rfl,sq,h0,hZ R4 (F.at (((P1.trans P2).trans P3).trans P4)) (ds:=gE ds l u st) ?_ q⟩;unfold gE;rw [aR il];exact vI il _
@[simp] theorem s_sl3 {ρ:gV} {mh:MH} {Q:DK}:KA w wl wh ws ρ mh Q↔w ρ mh λx mh1=> wl ρ mh1 λl mh2=> wh ρ mh2 λu mh3=> ws ρ mh3 λst mh4=> ∃ds,nO mh4 x=some ds/\st≠some 0/\Q (.ref mh4.length) (mh4++[.lst (gE ds l u st)]):=aDh
end
def mR {α:Type}:List α->List α
 | []=> []
 | [a]=> [a]
 | a::_::r=> a::mR r
def uY {α:Type}:List α->List α
 | []=> []
 | [_]=> []
 | _::b::r=> b::uY r
theorem sA {α:Type}:∀(xs:List α),(List.range ((xs.length+1) / 2)).filterMap (λk=> xs[2*k]?)=mR xs
 | []=> by simp [mR]
 | [a]=> by simp [mR]
 | a::b::r=> by
  have e:((a::b::r).length+1) / 2=(r.length+1) / 2+1:=by simp only [List.length_cons];omega
  rw [e,List.range_succ_eq_map,List.filterMap_cons_some (b:=a) (by simp),List.filterMap_map,mR,<-sA r];congr 1
theorem uR {α:Type}:∀(xs:List α),(List.range (xs.length / 2)).filterMap (λk=> xs[2*k+1]?)=uY xs
 | []=> by simp [uY]
 | [a]=> by simp [uY]
 | a::b::r=> by
  have e:(a::b::r).length / 2=r.length / 2+1:=by simp only [List.length_cons];omega
  rw [e,List.range_succ_eq_map,List.filterMap_cons_some (b:=b) (by simp),List.filterMap_map,uY,<-uR r];congr 1
theorem EL {α:Type} (xs:List α):gE xs none none (some 2)=mR xs:=by
 rw [<-sA];unfold gE sliceRange sliceBounds;simp only [Option.getD_some,show (2:Int) > 0 by omega,if_true];have e:(if (0:Int) < xs.length then ((xs.length:Int) - 0+2 - 1) / 2 else 0).toNat=(xs.length+1) / 2:=by split <;> omega
 rw [e,List.filterMap_map];congr 1;funext k;have:((0:Int)+2*(k:Int)).toNat=2*k:=by omega
 simp only [Function.comp,this]
theorem IE {α:Type} (xs:List α):gE xs (some 1) none (some 2)=uY xs:=by
 rw [<-uR];unfold gE sliceRange sliceBounds;simp only [Option.getD_some,show (2:Int) > 0 by omega,if_true,show ¬((1:Int) < 0) by omega,if_false];by_cases h0:xs.length=0
 ·have:xs=[]:=aE1.mp h0;subst this;simp
 ·have em:max 0 (min (1:Int) (xs.length:Int))=1:=by omega
  rw [em];have e:(if (1:Int) < xs.length then ((xs.length:Int) - 1+2 - 1) / 2 else 0).toNat=xs.length / 2:=by split <;> omega
  rw [e,List.filterMap_map];congr 1;funext k;have:((1:Int)+2*(k:Int)).toNat=2*k+1:=by omega
  simp only [Function.comp,this]
theorem IF {α:Type} (xs:List α):gE xs none none (some (-1))=xs.reverse:=by
 unfold gE sliceRange sliceBounds;simp only [Option.getD_some,show ¬((-1:Int) > 0) by omega,if_false]
 have e:(if (xs.length:Int) - 1 > -1 then ((xs.length:Int) - 1 - -1 - -1 - 1) / (- -1) else 0).toNat=xs.length:=by
  simp only [Int.neg_neg,Int.ediv_one];split <;> omega
 rw [e,List.filterMap_map];apply aF7;intro i
 have e2:(List.range xs.length).filterMap ((λk=> xs[k]?) ∘ λ(k:Nat)=> ((xs.length:Int) - 1+ -1*(k:Int)).toNat)=(List.range xs.length).pmap (λk (h:k < xs.length)=> xs[xs.length - 1 - k]) (λk hk=> by simpa using hk):=by
  have go:∀(l:List Nat) (hl:∀k∈l,k < xs.length),l.filterMap ((λk=> xs[k]?) ∘ λ(k:Nat)=> ((xs.length:Int) - 1+ -1*(k:Int)).toNat)=l.pmap (λk (h:k < xs.length)=> xs[xs.length - 1 - k]) hl:=by
   intro l
   induction l with
   | nil=> intro _;rfl
   | cons k l ih=>
    intro hl;have hk:=hl k (by simp)
    rw [List.filterMap_cons_some (b:=xs[xs.length - 1 - k]) (by
     simp only [Function.comp];have:((xs.length:Int) - 1+ -1*(k:Int)).toNat=xs.length - 1 - k:=by omega
     rw [this];exact List.getElem?_eq_getElem _),ih λk hk=> hl k (by simp [hk])]
    rfl
  exact go _ _
 rw [e2];by_cases hi:i < xs.length
 ·simp [List.getElem?_pmap,List.getElem?_reverse hi,List.getElem?_range hi]
 ·rw [List.getElem?_eq_none (by simp;omega),List.getElem?_eq_none (by simp;omega)]
def KG (wo wi wx:WE):WE:=λρ mh Q=> wo ρ mh λo mh1=> ∃n,o= .ref n/\(∃kvs,mh1[n]? =some (.dic false kvs))/\wi ρ mh1 λi mh2=> wx ρ mh2 λx mh3=> ∃kvs key,mh3[n]? =some (.dic false kvs)/\i=bI key/\Q ((bR kvs i).getD x) mh3
def A6 (wo wi wx:WE):WE:=λρ mh Q=> wo ρ mh λo mh1=> ∃n,o= .ref n/\(∃kvs,mh1[n]? =some (.dic false kvs))/\wi ρ mh1 λi mh2=> wx ρ mh2 λx mh3=> ∃kvs key,mh3[n]? =some (.dic false kvs)/\i=bI key/\kvs.length < sizeLine/\
 (∀v,bR kvs i=some v->Q v mh3)/\(bR kvs i=none->Q x (mh3.set n (.dic false (putD kvs i x))))
open Classical in
noncomputable def dS (kvs:List (D×D)) (k:D):List (D×D):=kvs.filter λp=> decide (p.1≠k)
def KH (wo wi:WE):WS:=λE ρ mh=> wo ρ mh λo mh1=> wi ρ mh1 λi mh2=> ∃n kvs key,o= .ref n/\mh2[n]? =some (.dic false kvs)/\i=bI key/\(bR kvs i).isSome=true/\E.nx ρ (mh2.set n (.dic false (dS kvs i)))
theorem DC {K:aGp} {μ:List Addr} {H:Hp} (key:Key):∀{kvs:List (D×D)} {kk:List (Key×V)},kvs.map (·.1)=kk.map (λp=> bI p.1)->IsL K μ H (kvs.map (·.2)) (kk.map (·.2))->
  (dS kvs (bI key)).map (·.1)=(gS kk key).map (λp=> bI p.1)/\IsL K μ H ((dS kvs (bI key)).map (·.2)) ((gS kk key).map (·.2))
 | [],[],_,_=> ⟨rfl,by simp [dS,gS,IsL]⟩
 | [],_::_,h,_=> by simp at h
 | _::_,[],h,_=> by simp at h
 | p::kvs,q::kk,h,l=> by
  simp only [List.map_cons,List.cons.injEq] at h;simp only [List.map_cons] at l;unfold IsL at l;obtain ⟨w,r,e,i,l⟩:=l;simp only [List.cons.injEq] at e;obtain ⟨rfl,rfl⟩:=e;obtain ⟨h1,h2⟩:=DC key h.2 l;by_cases hk:q.1=key
  ·have hp:p.1=bI key:=by rw [h.1,hk]
   have e1:dS (p::kvs) (bI key)=dS kvs (bI key):=by unfold dS;rw [List.filter_cons_of_neg (by simp [hp])]
   have e2:gS (q::kk) key=gS kk key:=by unfold gS;rw [List.filter_cons_of_neg (by simp [hk])]
   rw [e1,e2];exact ⟨h1,h2⟩
  ·have hp:¬p.1=bI key:=λz=> hk (qH (h.1.symm.trans z));have e1:dS (p::kvs) (bI key)=p::dS kvs (bI key):=by unfold dS;rw [List.filter_cons_of_pos (by simp [hp])]
   have e2:gS (q::kk) key=q::gS kk key:=by unfold gS;rw [List.filter_cons_of_pos (by simp [hk])]
   rw [e1,e2];refine ⟨by simp [h.1,h1],?_⟩;simp only [List.map_cons];unfold IsL;exact ⟨_,_,rfl,i,h2⟩
section
variable {X:Cx} {o i x:Expr} {wo wi wx:WE} {apos d4 pos tpos:Pos}
theorem MM {K:aGp} {μ:List Addr} {mh:MH} {H:Hp} {n:Nat} {v:V} {kvs:List (D×D)} (R:Rep K μ mh H) (h:Is K μ H (.ref n) v) (e:mh[n]? =some (.dic false kvs)):∃a,v= .ref a/\IsD H a:=by
 obtain ⟨a,vs,rfl,hn,⟨kk,hv,_,_⟩,_⟩:=o9 R h e;exact ⟨a,rfl,.inl ⟨kk,.inl hv⟩⟩
theorem QN (hu:X.A.units+64 < cLine) (ho:LE X o wo) (hi:LE X i wi) (hx:LE X x wx) (base:attributeBase o "get" X.env (eval o X.env)=eval o X.env:=by rfl)
  (Q1:((backTo d4 (starEach [i,x] X.env)).all (λx=> !x.1) && (backToKw d4 (keywordEach [] X.env)).all (λx=> x.1.isSome) && decide (([i,x]:List Expr).length+([]:List Keyword).length+(if ([]:List Keyword).isEmpty then 0 else 1) < 30))=true:=by rfl)
  (line:(apos.endLine==d4.line)=true:=by rfl) (trees:backTo d4 (starEach [i,x] X.env)=[(false,eval i X.env),(false,eval x X.env)]:=by rfl):
  LE X (.Call (.Attribute o "get" apos) [i,x] [] d4) (KG wo wi wx):=PE.imp (LK (by omega) ho hi hx ⟨base,Q1,line,trees⟩) λσ H Q h=> by
 obtain ⟨μ,ρ,mh,R,RR,En,h,F⟩:=h;refine ⟨μ,ρ,mh,_,RR,En,h,λdo' mh1 q μ1 vo H1 P1 R1 I1=> ?_⟩;obtain ⟨n,rfl,⟨kvs0,e0⟩,q⟩:=q;obtain ⟨a,rfl,hD⟩:=MM R1 I1 e0;refine ⟨a,rfl,hD,μ1,ρ,mh1,_,R1,En.mono RR P1,q,λdi mh2 q2 μ2 vi H2 P2 R2 I2=> ?_⟩;refine ⟨μ2,ρ,mh2,_,R2,En.mono RR (P1.trans P2),q2,λdx mh3 q3 μ3 vx H3 P3 R3 I3=> ?_⟩;obtain ⟨kvs,key,e,rfl,q⟩:=q3;obtain ⟨a',vs,ea,hn,⟨kk,hv,ek,rfl⟩,l⟩:=o9 R3 (Is.mono R1 (P2.trans P3) _ _ I1) e;cases ea;cases nA I2;have F3:=F.at ((P1.trans P2).trans P3)
 rcases m5 key ek l with ⟨h1,h2⟩ | ⟨d',w,h1,h2,iw⟩
 ·rw [h2] at q;exact ⟨none,by rw [<-h1];exact .k hv,F3.here R3 q I3⟩
 ·rw [h2] at q;exact ⟨some w,by rw [<-h1];exact .k hv,F3.here R3 q iw⟩
theorem PR {td ty tx:TE} (ho:PE X o td) (he:PE X i ty) (hf:PE X x tx) (m:M2 X o "setdefault" apos i x d4):PE X (.Call (.Attribute o "setdefault" apos) [i,x] [] d4)
  (λσ H Q=> td σ H λx H1=> ∃a,x= .ref a/\IsD H1 a/\ty σ H1 λy H2=> tx σ H2 λz H3=> ∃kvs k,H3 a=some (.dK kvs)/\y=kV k/\kvs.length < sizeLine/\(∀v,kB kvs k=some v->Q v H3)/\(kB kvs k=none->Q z (upd H3 a (.dK (putK kvs k z))))):=by
 intro pins s σ H Q I h;refine wpAny_Call_method m.base m.Q1 m.line PySem.F.plainAttrs_dict aG8 PySem.F.type_dict_setdefault (cZ (ho pins s σ H _ I h) λu s1 ⟨x,H1,I1,rx,a,ex,d,q1⟩=> ?_);subst ex;obtain rfl:u=Value.ref a:=rx;obtain ⟨t1,t2,_⟩:=MN I1 d;refine ⟨t1,t2,?_⟩;rw [m.trees]
 refine aFt rfl (aG2 (aEm (cZ (he pins s1 σ H1 _ I1 q1) λiv s2 ⟨y,H2,I2,ry,q2⟩=>
  aEm (cZ (hf pins s2 σ H2 _ I2 q2) λfv s3 ⟨z,H3,I3,rz,kvs,k,e,ey,hlt,qa,qb⟩=> aFr ?_))))
 subst ey;obtain ⟨zz,hd,vs,rel,dd⟩:=HC I3.cG e;have hz:vs.length<=sizeLine:=by rw [<-rel.length];exact zz
 refine call_meetsIn aG8 dd.typeIs PySem.F.entry_dict_setdefault (PySem.F.args_dict_setdefault_3 _ _ _) (kt_meets_setdefault (bA X.prog X.w) a (vG ry) hd fv) ⟨vs,dd,hz,λv hv=> ?_,λhn h' dd' hs=> ?_⟩
 ·have rv:=rel.val k;rw [hv] at rv
  cases hvv:kB kvs k with
  | none=> rw [hvv] at rv;exact rv.elim
  | some v' => rw [hvv] at rv;exact ⟨v',H3,I3.tok _,rv,qa v' hvv⟩
 ·have rv:=rel.val k;rw [hn] at rv
  cases hvv:kB kvs k with
  | some v' => rw [hvv] at rv;exact rv.elim
  | none=>
   have hl:(putK kvs k z).length<=sizeLine:=by have:=mI kvs k z;omega
   have he:∃q,h'.get? a=some q:=let ⟨q,_,_,hq,_⟩:=dd';⟨q,hq⟩;exact ⟨z,_,tF I3 (by rw [e];exact True.intro) hs he (FK hl hd (rel.put k rz) dd'),rz,qb hvv⟩
theorem GZ (ho:LE X o wo) (hi:LE X i wi) (hx:LE X x wx) (base:attributeBase o "setdefault" X.env (eval o X.env)=eval o X.env:=by rfl)
  (Q1:((backTo d4 (starEach [i,x] X.env)).all (λx=> !x.1) && (backToKw d4 (keywordEach [] X.env)).all (λx=> x.1.isSome) && decide (([i,x]:List Expr).length+([]:List Keyword).length+(if ([]:List Keyword).isEmpty then 0 else 1) < 30))=true:=by rfl)
  (line:(apos.endLine==d4.line)=true:=by rfl) (trees:backTo d4 (starEach [i,x] X.env)=[(false,eval i X.env),(false,eval x X.env)]:=by rfl):
  LE X (.Call (.Attribute o "setdefault" apos) [i,x] [] d4) (A6 wo wi wx):=PE.imp (PR ho hi hx ⟨base,Q1,line,trees⟩) λσ H Q h=> by
 obtain ⟨μ,ρ,mh,R,RR,En,h,F⟩:=h;refine ⟨μ,ρ,mh,_,RR,En,h,λdo' mh1 q μ1 vo H1 P1 R1 I1=> ?_⟩;obtain ⟨n,rfl,⟨kvs0,e0⟩,q⟩:=q;obtain ⟨a,rfl,hD⟩:=MM R1 I1 e0;refine ⟨a,rfl,hD,μ1,ρ,mh1,_,R1,En.mono RR P1,q,λdi mh2 q2 μ2 vi H2 P2 R2 I2=> ?_⟩;refine ⟨μ2,ρ,mh2,_,R2,En.mono RR (P1.trans P2),q2,λdx mh3 q3 μ3 vx H3 P3 R3 I3=> ?_⟩;obtain ⟨kvs,key,e,rfl,hz,qa,qb⟩:=q3;obtain ⟨a',vs,ea,hn,⟨kk,hv,ek,rfl⟩,l⟩:=o9 R3 (Is.mono R1 (P2.trans P3) _ _ I1) e;cases ea;cases nA I2;have F3:=F.at ((P1.trans P2).trans P3);have ln:kk.length=kvs.length:=by have:=aE0 List.length ek;simp at this;omega
 refine ⟨kk,key,hv,rfl,by omega,λv hvv=> ?_,λhvv=> ?_⟩
 ·rcases m5 key ek l with ⟨h1,h2⟩ | ⟨d',w,h1,h2,iw⟩
  ·rw [hvv] at h1;cases h1
  ·rw [hvv] at h1;cases h1;exact F3.here R3 (qa d' h2) iw
 ·rcases m5 key ek l with ⟨h1,h2⟩ | ⟨d',w,h1,h2,iw⟩
  ·have P4:aU μ3 H3 μ3 (upd H3 a (.dK (putK kk key vx))):=aU.set R3 hn;obtain ⟨p1,p2⟩:=GI (f:=bI) qH key I3 ek l;have R4:Rep X.K μ3 (mh3.set n (.dic false (putD kvs (bI key) dx))) (upd H3 a (.dK (putK kk key vx))):=zZ R3 hn (by trivial) ⟨_,⟨_,cE,p1,rfl⟩,p2.mono R3 P4⟩;exact F3 _ _ (qb h2) μ3 _ _ P4 R4 (Is.mono R3 P4 _ _ I3)
  ·rw [hvv] at h1;cases h1
theorem QJ (ho:LE X o wo) (hi:LE X i wi):LS X (.Delete [.Subscript o i tpos] pos) (KH wo wi):=PS.imp (PJ ho hi) λD σ H h=> by
 obtain ⟨μ,ρ,mh,E,R,En,h,F⟩:=h;refine ⟨μ,ρ,mh,_,R,En,h,λdo' mh1 q μ1 vo H1 P1 R1 I1=> ?_⟩;refine ⟨μ1,ρ,mh1,_,R1,En.mono R P1,q,λdi mh2 q2 μ2 vi H2 P2 R2 I2=> ?_⟩;obtain ⟨n,kvs,key,rfl,e,rfl,hs,q⟩:=q2;obtain ⟨a,vs,rfl,hn,⟨kk,hv,ek,rfl⟩,l⟩:=o9 R2 (Is.mono R1 P2 _ _ I1) e;cases nA I2;have P3:aU μ2 H2 μ2 (upd H2 a (.dK (gS kk key))):=aU.set R2 hn;obtain ⟨p1,p2⟩:=DC key ek l;have R3:Rep X.K μ2 (mh2.set n (.dic false (dS kvs (bI key)))) (upd H2 a (.dK (gS kk key))):=zZ R2 hn (by trivial) ⟨_,⟨_,cE,p1,rfl⟩,p2.mono R2 P3⟩;have P03:=(P1.trans P2).trans P3;refine ⟨a,kk,key,rfl,hv,rfl,?_,F.nx ρ _ q μ2 σ _ P03 R3 (En.mono R P03)⟩
 rcases m5 key ek l with ⟨h1,h2⟩ | ⟨d',w,h1,h2,iw⟩
 ·rw [h2] at hs;cases hs
 ·rw [h1];rfl
@[simp] theorem aBh {ρ:gV} {mh:MH} {Q:DK}:KG wo wi wx ρ mh Q↔wo ρ mh λo mh1=> ∃n,o= .ref n/\(∃kvs,mh1[n]? =some (.dic false kvs))/\wi ρ mh1 λi mh2=> wx ρ mh2 λx mh3=> ∃kvs key,mh3[n]? =some (.dic false kvs)/\i=bI key/\Q ((bR kvs i).getD x) mh3:=aDh
@[simp] theorem aBf {ρ:gV} {mh:MH} {Q:DK}:A6 wo wi wx ρ mh Q↔wo ρ mh λo mh1=> ∃n,o= .ref n/\(∃kvs,mh1[n]? =some (.dic false kvs))/\wi ρ mh1 λi mh2=> wx ρ mh2 λx mh3=> ∃kvs key,mh3[n]? =some (.dic false kvs)/\i=bI key/\kvs.length < sizeLine/\
 (∀v,bR kvs i=some v->Q v mh3)/\(bR kvs i=none->Q x (mh3.set n (.dic false (putD kvs i x)))):=aDh
@[simp] theorem aBi {ρ:gV} {mh:MH} {E:fN}:KH wo wi E ρ mh↔wo ρ mh λo mh1=> wi ρ mh1 λi mh2=> ∃n kvs key,o= .ref n/\mh2[n]? =some (.dic false kvs)/\i=bI key/\(bR kvs i).isSome=true/\E.nx ρ (mh2.set n (.dic false (dS kvs i))):=aDh
end
def WD (K:aGp) (x:Str) (st:Stmt) (i:Int):Prop:=∃f oc od dt dc dd n t ds kV doc pm an cd ct sl,PySem.W.nsIn K mainGlobals x=some (some (.ref f))/\
 K.lookup f=some ⟨oc,od,.func (PySem.W.fnOf x x (gB st) (dB st) (aG st) (.ref dt) kV doc pm an cd ct),sl⟩/\K.lookup dt=some ⟨dc,dd,.seq #[.int i t] n,ds⟩/\PySem.W.codeIn K cd x=true/\PySem.W.keepIn K (.ref f)=true
theorem aA6 {K:aGp} {x:Str} {st:Stmt} {i:Int} {f dt:Addr} {oc dc:Value} {od an dd:Option Addr} {sl ds:Array (Option Value)} {n:Nat} {t:Tok} {kV doc pm cd ct:Value} (a:PySem.W.nsIn K mainGlobals x=some (some (.ref f)))
  (l:K.lookup f=some ⟨oc,od,.func (PySem.W.fnOf x x (gB st) (dB st) (aG st) (.ref dt) kV doc pm an cd ct),sl⟩) (l2:K.lookup dt=some ⟨dc,dd,.seq #[.int i t] n,ds⟩) (c:PySem.W.codeIn K cd x=true) (k:PySem.W.keepIn K (.ref f)=true):WD K x st i:=⟨f,oc,od,dt,dc,dd,n,t,ds,kV,doc,pm,an,cd,ct,sl,a,l,l2,c,k⟩
def SI (x:Str) (st:Stmt) (ps:List Str):Prop:=∀(kV doc pm:Value) (an:Option Addr) (cdv ct:Value) (us:List Value) (d:Value) (s:Shared) (dt:Addr) (o:Obj) (n:Nat),us.length+1=ps.length->s.heap.get? dt=some o->o.data= .seq #[d] n->
 BindsTo s (PySem.W.fnOf x x (gB st) (dB st) (aG st) (.ref dt) kV doc pm an cdv ct) ⟨us,[]⟩ (ps.zip (us++[d]))
def WC (P:Program) (w:World) (K:aGp) (mg:Str->Option Value) (base:Heap) (k:Nat) (x:Str) (ps:List Str) (i:Int) (s:OA):Prop:=
 ∃f fd t,jL P w K mg base DX k f fd ps (KN K s)/\mg x=some (.ref f)/\PySem.W.keepIn K (.ref f)=true/\Binds K fd ps [.int i t]
theorem WC.mono {P:Program} {w:World} {K:aGp} {mg:Str->Option Value} {base:Heap} {j k:Nat} {x:Str} {ps:List Str} {i:Int} {s:OA} (h:WC P w K mg base j x ps i s) (hk:j<=k):WC P w K mg base k x ps i s:=
 let ⟨f,fd,t,a,b,c,d⟩:=h;⟨f,fd,t,a.mono hk,b,c,d⟩
def dfl (i:Int) (s:OA):OA:=λds mh Q=> s (ds++[.int i]) mh Q
section
variable {X:Cx} {e:Expr} {es:List Expr} {x:Str} {p pos:Pos} {wr:WA}
theorem MC {k:Nat} {ps:List Str} {i:Int} {s:OA} (F:WC X.prog X.w X.K X.mg X.base k x ps i s) (hr:gI k X.A) (ha:LA X (e::es) wr) (hg:Gl X x:=by rfl) (hdb:(x==("__debug__":Str))=false:=by decide)
  (he:starEach (e::es) X.env=(false,eval e X.env)::starEach es X.env:=by rfl) (hpl:(backTo pos (starEach es X.env)).any (·.1)=false:=by rfl):LE X (.Call (.Name x p) (e::es) [] pos) (aJ (dfl i s) wr):=by
 obtain ⟨f,fd,t,a,b,c,d⟩:=F;refine PE.imp (GL a hr hg b c d (.cons (show RelV (.int i) (.int i t) from ⟨t,rfl⟩) .nil) RX ha hdb he hpl) λσ H Q h=> ?_;obtain ⟨μ,ρ,mh,R,RR,E,h,Fi⟩:=h;refine ⟨μ,ρ,mh,_,RR,E,h,λds mh1 h1 μ1 vs H1 P1 R1 I1=> ?_⟩;exact ⟨μ1,mh1,ds++[.int i],R,R1,hX I1 (nB (show Is X.K μ1 H1 (.int i) (.int i) from .int)),(show s (ds++[.int i]) mh1 R from h1),Fi.at P1⟩
end
section
variable {P:Program} {w:World} {K:aGp} {mg:Str->Option Value} {base:Heap} {h:Heap}
theorem VU {x:Str} {st:Stmt} {N ps:List Str} {k:Nat} {i:Int} {s:OA} {wB:WS} (Dx:WD K x st i) (KX:K.In h) (G:h.Ns mainGlobals mg) (bd:SI x st ps) (S:bH N ps (aG st)) (hb:yM P w K mg base k x N st wB) (len:∀ds mh R,s ds mh R->ds.length=ps.length)
  (hw:∀ds mh R,nK mh->s ds mh R->wB {nx:=λ_ mh1=> Out mh.length .cN mh1 R,rt:=λd mh1=> Out mh.length d mh1 R} (aQ N ds) mh):WC P w K mg base (k+1) x ps i s:=by
 obtain ⟨f,oc,od,dt,dc,dd,n,t,dsl,kV,doc,pm,an,cd,ct,sl,a,l,l2,c,kp⟩:=Dx;refine ⟨f,_,t,SA l c S (λvs H Q E h=> ?_) (λA outer sh H vs Q E hr h=> ?_),aGm KX G a,kp,λs us kx hl=> bd _ _ _ _ _ _ _ _ _ _ _ _ (by simpa using hl) (kx dt _ l2) rfl⟩
 ·obtain ⟨μ,mh,ds,R,RR,il,h,_⟩:=h;rw [aR il];exact len ds mh R h
 ·obtain ⟨μ,mh,ds,R,RR,il,h,Fi⟩:=h;refine ⟨_,(hb f cd A outer sh H E hr).QA,μ,aQ N ds,mh,_,RR,BE il,hw ds mh R RR.Z6 h,?_⟩;have Fo:=GN RR Fi;exact ⟨λρ' mh' q μ' σ' H' P' R' En' => Fo .cN mh' q μ' .cN H' P' R' .cN,Fo,λ_ _ q=> False.elim q,λ_ _ q=> False.elim q⟩
end
end D3
namespace LR
open PySem PyProof.Rows L2 D3
def kZ (aH:OA):WS:=(eW (bL iC (aC 2) (aJ aH (aB (aC 0) (aB (aJ gG (aB (aC 2) aI)) aI)))))
def lA (aH:OA):WS:=(bG (gK (eA (bL oEq (aC 1) (wC (.int 2)))) (eW (bL IK (aJ aH (aB (aC 0) (aB (bL mG (bL uZ (wC (.int 2)) (wC (.int 1048576))) (wC (.int 1))) aI))) (wC (.int 1048576)))) d5) (kZ aH))
def lB (aH:OA):WS:=(bG (gK (eA (bL oEq (aC 1) (wC (.int 1)))) (eW (bL IK (aJ aH (aB (aC 0) (aB (wC (.int 401)) aI))) (wC (.int 200)))) d5) (lA aH))
def fY (aH:OA):WS:=(bG (gK (eA (bL oEq (aC 1) (wC (.int 0)))) (eW (bL IK (aJ aH (aB (aC 0) (aB (wC (.int 13)) aI))) (wC (.int 6)))) d5) (lB aH))
def nV (s__law_number:OA):WS:=(eW (gJ (aB (aJ yL (aB (aC 3) (aB (aC 4) aI))) (aB (aJ DU (aB (aC 3) (aB (aC 4) aI))) aI))))
def nW (s__law_number:OA):WS:=(bG (gK (eA (bL oEq (aC 3) (aC 4))) (eW (wIf (eA (bL oEq (aC 3) (wC (.int 1048576)))) (gJ (aB (bL IK (aC 3) (wC (.int 1))) (aB (aC 3) aI))) (gJ (aB (aC 3) (aB (bL mG (aC 3) (wC (.int 1))) aI))))) d5) (nV s__law_number))
def nX (s__law_number:OA):WS:=(bG (cS (aJ s__law_number (aB (aC 0) (aB (aC 1) (aB (aC 2) aI)))) (gN 4)) (nW s__law_number))
def iZ (s__law_number:OA):WS:=(bG (cS (aJ s__law_number (aB (aC 0) (aB (aC 1) (aB (aC 2) aI)))) (gN 3)) (nX s__law_number))
def i0 (aH aX:OA):WS:=(gR (F9 "list" dJ (aC 5) (aB (gJ (aB (aC 7) (aB (aC 9) (aB (aC 8) (aB (aC 10) aI))))) aI)))
def i3 (aH aX:OA):WS:=(bG (cS (aJ aX (aB (aC 0) (aB (aC 2) (aB (aC 4) aI)))) (gT 2 (bJ (gN 9) (bJ (gN 10) iK)))) (i0 aH aX))
def kY (aH aX:OA):WS:=(bG (cS (aJ aX (aB (aC 0) (aB (aC 2) (aB (aC 4) aI)))) (gT 2 (bJ (gN 7) (bJ (gN 8) iK)))) (i3 aH aX))
def lR (aH aX:OA):WS:=(eW (aC 5))
def lS (aH aX:OA):WS:=(bG (nN (rZ (aB (aC 3) aI)) (gN 6) (kY aH aX)) (lR aH aX))
def lT (aH aX:OA):WS:=(bG (cS (nM aI) (gN 5)) (lS aH aX))
def lU (aH aX:OA):WS:=(bG (cS (bL mG (KD ["_law_k"] [0] (rZ (aB (wC (.int 4)) aI)) (gN 0) yP (bL IK (aJ aH (aB (aC 1) (aB (wC (.int 2097153)) aI))) (wC (.int 1048576)))) (nM (aB (v8 jH (wC (.int 1048576))) (aB (wC (.int 1048576)) (aB (wC (.int 0)) (aB (wC (.int 1)) aI)))))) (gN 4)) (lT aH aX))
def lV (aH aX:OA):WS:=(bG (cS (aJ aH (aB (aC 0) (aB (bL iC (nM (aB (bL mG (aC 1) (wC (.int 1))) (aB (wC (.int 13)) (aB (wC (.int 13)) (aB (wC (.int 7)) aI))))) (aJ aH (aB (aC 0) (aB (wC (.int 4)) aI)))) aI))) (gN 3)) (lU aH aX))
def gW (aH aX:OA):WS:=(bG (cS (aJ aH (aB (aC 0) (aB (wC (.int 4)) aI))) (gN 2)) (lV aH aX))
def lY:WS:=(gK (HS (eA (bL oEq (aJ gG (aB (aC 1) aI)) (wC (.int 0)))) (eA (bL N5 (aC 2) (bL iC (bL iC (aC 1) (v8 jH (wC (.int 1)))) (wC (.int 1)))))) (gR (F9 "list" dJ (aC 1) (aB (gJ (aB (aC 2) (aB (aC 3) aI))) aI))) (gK (eA (bL N5 (aC 3) (bL iC (bL iC (aC 1) (v8 jH (wC (.int 1)))) (wC (.int 1))))) (tV (gJ (aB (bL iC (bL iC (aC 1) (v8 jH (wC (.int 1)))) (wC (.int 0))) (aB (aC 3) aI))) (aC 1) (v8 jH (wC (.int 1)))) d5))
def nY:WS:=(eW (aJ rN (aB (aC 1) aI)))
def nZ:WS:=(bG (nN (fJ (aJ AS (aB (aC 0) aI))) (gT 2 (bJ (gN 2) (bJ (gN 3) iK))) (lY)) (nY))
def i4:WS:=(bG (cS (nM aI) (gN 1)) (nZ))
def eN (s__law_line:OA):WS:=(gK (r6 (eA (bL N5 (aJ gG (aB (aC 5) aI)) (wC (.int 0)))) (r6 (eA (bL N5 (aJ gG (aB (aC 2) aI)) (wC (.int 0)))) (r6 (eA (bL oEq (bL iC (bL iC (aC 2) (v8 jH (wC (.int 1)))) (wC (.int 1))) (aC 3))) (eA (bL oEq (bL iC (bL iC (aC 2) (v8 jH (wC (.int 1)))) (wC (.int 2))) (aC 5)))))) (tV (gJ (aB (bL iC (bL iC (aC 2) (v8 jH (wC (.int 1)))) (wC (.int 0))) (aB (aC 4) (aB (aC 5) aI)))) (aC 2) (v8 jH (wC (.int 1)))) (gK (eA (bL N5 (aJ gG (aB (aC 5) aI)) (wC (.int 0)))) (gR (F9 "list" dJ (aC 2) (aB (gJ (aB (aC 3) (aB (aC 4) (aB (aC 5) aI)))) aI))) d5))
def fO (s__law_line:OA):WS:=(bG (cS (aJ s__law_line (aB (KD ["_law_rect"] [3,4] (fJ (aC 0)) (gN 0) (r6 (eA (bL oLe (bL iC (aC 0) (wC (.int 1))) (aC 1))) (eA (bL oGe (bL iC (aC 0) (wC (.int 3))) (aC 2)))) (gJ (aB (bL iC (aC 0) (wC (.int 0))) (aB (bL iC (aC 0) (wC (.int 2))) aI)))) aI)) (gN 5)) (eN s__law_line))
def kU (s__law_line:OA):WS:=(eW (aJ rN (aB (aC 2) aI)))
def kW (s__law_line:OA):WS:=(bG (nN (F7 (aB (aC 1) (aB (ZS YN (aC 1) (pO (wC (.int 1))) OL) aI))) (gT 2 (bJ (gN 3) (bJ (gN 4) iK))) (fO s__law_line)) (kU s__law_line))
def kX (s__law_line:OA):WS:=(bG (cS (nM aI) (gN 2)) (kW s__law_line))
def fX (s__law_line:OA):WS:=(bG (cS (oM (bL mG (KD ["_law_rect"] [] (fJ (aC 0)) (gN 0) yP (bL iC (aC 0) (wC (.int 1)))) (KD ["_law_rect"] [] (fJ (aC 0)) (gN 0) yP (bL iC (aC 0) (wC (.int 3)))))) (gN 1)) (kX s__law_line))
abbrev P2 := Int × Int
structure R4 where
 x0:Int
 y0:Int
 x1:Int
 y1:Int
structure Bd where
 lo:Int
 hi:Int
 ln:List P2
def sD (s:P2):D:= .tup [.int s.1,.int s.2]
def rD (r:R4):D:= .tup [.int r.x0,.int r.y0,.int r.x1,.int r.y1]
def lG (l:List P2):D:= .tup (l.map sD)
def bD (b:Bd):D:= .tup [.int b.lo,.int b.hi,lG b.ln]
def gD (g:List Bd):D:= .tup (g.map bD)
def zA (a b:P2):Bool:=decide (a.1 < b.1\/(a.1=b.1/\a.2<=b.2))
def iV (l:List P2):List P2:=l.mergeSort zA
def bB (f:List P2) (s:P2):List P2:=match f.getLast? with
 | none=> [s]
 | some t=> if t.2 < s.1 then f++[s] else if t.2 < s.2 then f.dropLast++[(t.1,s.2)] else f
def b9 (l:List P2):List P2:=(iV l).foldl bB []
def rG (x:Int):List Int->List Int
 | []=> [x]
 | y::l=> if x < y then x::y::l else if x=y then y::l else y::rG x l
def mD (l:List Int):List Int:=l.foldr rG []
def aZ (rs:List R4) (lo hi:Int):List P2:=(rs.filter λr=> decide (r.y0<=lo) && decide (hi<=r.y1)).map λr=> (r.x0,r.x1)
def bF (rs:List R4) (f:List Bd) (p:P2):List Bd:=
 if b9 (aZ rs p.1 p.2)=[] then f else match f.getLast? with
  | none=> [⟨p.1,p.2,b9 (aZ rs p.1 p.2)⟩]
  | some b=> if b.hi=p.1/\b.ln=b9 (aZ rs p.1 p.2) then f.dropLast++[⟨b.lo,p.2,b9 (aZ rs p.1 p.2)⟩] else f++[⟨p.1,p.2,b9 (aZ rs p.1 p.2)⟩]
def d9 (rs:List R4):List Int:=mD (rs.map (·.y0)++rs.map (·.y1))
def fK (rs:List R4):List Bd:=((d9 rs).zip (d9 rs).tail).foldl (bF rs) []
theorem hU (s:P2):bB [] s=[s]:=rfl
theorem f6 (f:List P2) (t s:P2):bB (f++[t]) s=if t.2 < s.1 then f++[t]++[s] else if t.2 < s.2 then f++[(t.1,s.2)] else f++[t]:=by
 simp [bB]
theorem gC (rs:List R4) (p:P2):bF rs [] p=if b9 (aZ rs p.1 p.2)=[] then [] else [⟨p.1,p.2,b9 (aZ rs p.1 p.2)⟩]:=by
 simp [bF]
theorem e8 (rs:List R4) (f:List Bd) (b:Bd) (p:P2):bF rs (f++[b]) p=if b9 (aZ rs p.1 p.2)=[] then f++[b] else if b.hi=p.1/\b.ln=b9 (aZ rs p.1 p.2) then f++[⟨b.lo,p.2,b9 (aZ rs p.1 p.2)⟩] else f++[b]++[⟨p.1,p.2,b9 (aZ rs p.1 p.2)⟩]:=by
 simp [bF]
theorem UB (a b c:P2) (h1:zA a b=true) (h2:zA b c=true):zA a c=true:=by
 simp only [zA,decide_eq_true_eq] at*;omega
theorem PX (a b:P2):(zA a b || zA b a)=true:=by
 simp only [zA,Bool.or_eq_true,decide_eq_true_eq];omega
theorem LL {a b:P2} (h1:zA a b=true) (h2:zA b a=true):a=b:=by
 simp only [zA,decide_eq_true_eq] at*;exact Prod.ext (by omega) (by omega)
theorem fP (l:List P2):(iV l).Perm l:=List.mergeSort_perm l zA
theorem r9 (l:List P2):(iV l).Pairwise λa b=> zA a b=true:=List.pairwise_mergeSort UB PX l
theorem BF:∀{l1 l2:List P2},l1.Perm l2->l1.Pairwise (λa b=> zA a b=true)->l2.Pairwise (λa b=> zA a b=true)->l1=l2
 | [],l2,p,_,_=> (List.nil_perm.mp p).symm
 | a::t,[],p,_,_=> absurd p.length_eq (by simp)
 | a::t,b::u,p,s1,s2=> by
  have hab:a=b:=by
   rcases aCv.mp (p.mem_iff.mp aCq) with z | z
   ·exact z
   ·rcases aCv.mp (p.mem_iff.mpr aCq) with y | y
    ·exact y.symm
    ·exact LL ((aDb.mp s1).1 b y) ((aDb.mp s2).1 a z)
  subst hab;rw [BF (List.Perm.cons_inv p) (List.pairwise_cons.mp s1).2 (List.pairwise_cons.mp s2).2]
theorem QE (a b:P2):lx (enc (sD b)) (enc (sD a))=false↔zA a b=true:=by
 simp only [sD,enc,kO,List.flatMap_cons,List.flatMap_nil,List.append_nil,List.cons_append,List.nil_append,lx,zA];by_cases h1:b.1 < a.1
 ·simp [h1];omega
 ·rw [if_neg h1];by_cases h2:a.1 < b.1
  ·simp [h2]
  ·rw [if_neg h2];by_cases h3:b.2 < a.2
   ·simp [h3];omega
   ·rw [if_neg h3];by_cases h4:a.2 < b.2
    ·simp [h4];omega
    ·simp [h4];omega
theorem SR (l:List P2):JS (l.map sD):= .inr ⟨.i,[.i],λd hd=> by obtain ⟨s,_,rfl⟩:=aD1.mp hd;exact ⟨_,rfl,rfl⟩⟩
theorem HX {l:List P2} {ds:List D} (p:ds.Perm (l.map sD)) (s:ds.Pairwise λd e=> lx (enc e) (enc d)=false):ds=(iV l).map sD:=by
 obtain ⟨l',p1,rfl⟩:=jV sD p l rfl;congr 1;refine BF (p1.trans (fP l).symm) ?_ (r9 l);rw [List.pairwise_map] at s;exact s.imp λh=> (QE _ _).mp h
theorem u7 {x y:Int}:∀{l:List Int},y∈rG x l↔y=x\/y∈l
 | []=> by simp [rG]
 | z::l=> by
  unfold rG;split
  ·simp
  ·split
   ·rename_i h1 h2;subst h2;simp
   ·simp only [List.mem_cons,u7 (l:=l)];constructor
    ·rintro (h | h | h) <;> simp [h]
    ·rintro (h | h | h) <;> simp [h]
theorem sH {x:Int}:∀{l:List Int},l.Pairwise (· < ·)->(rG x l).Pairwise (· < ·)
 | [],_=> by simp [rG]
 | z::l,h=> by
  have h1:=aDb.mp h;unfold rG;split
  ·rename_i hx;refine aDb.mpr ⟨λy hy=> ?_,h⟩;rcases aCv.mp hy with z | z
   ·subst z;exact hx
   ·exact Int.lt_trans hx (h1.1 y z)
  ·split
   ·exact h
   ·rename_i h2 h3;refine aDb.mpr ⟨λy hy=> ?_,sH h1.2⟩;rcases u7.mp hy with z | z
    ·subst z;omega
    ·exact h1.1 y z
theorem jW {y:Int}:∀{l:List Int},y∈mD l↔y∈l
 | []=> by simp [mD]
 | x::l=> by
  show y∈rG x (mD l)↔_;rw [u7,jW (l:=l)];simp
theorem gY:∀l:List Int,(mD l).Pairwise (· < ·)
 | []=> List.Pairwise.nil
 | x::l=> sH (gY l)
theorem GW:∀{l1 l2:List Int},l1.Pairwise (· < ·)->l2.Pairwise (· < ·)->(∀x,x∈l1↔x∈l2)->l1=l2
 | [],[],_,_,_=> rfl
 | [],b::u,_,_,h=> absurd ((h b).mpr aCq) (by simp)
 | a::t,[],_,_,h=> absurd ((h a).mp aCq) (by simp)
 | a::t,b::u,s1,s2,h=> by
  have c1:=aDb.mp s1;have c2:=aDb.mp s2
  have hab:a=b:=by
   rcases aCv.mp ((h a).mp aCq) with z | z
   ·exact z
   ·rcases aCv.mp ((h b).mpr aCq) with y | y
    ·exact y.symm
    ·have:=c1.1 b y;have:=c2.1 a z;omega
  subst hab;rw [GW c1.2 c2.2 λx=> ?_];constructor
  ·intro hx;rcases aCv.mp ((h x).mp (aCr _ hx)) with z | z
   ·have:=c1.1 x hx;omega
   ·exact z
  ·intro hx;rcases aCv.mp ((h x).mpr (aCr _ hx)) with z | z
   ·have:=c2.1 x hx;omega
   ·exact z
theorem HW {l:List Int} {ks:List Key} (hm:∀k,k∈ks↔k∈l.map Sum.inl) (nd:ks.Nodup) (s:(ks.map bI).Pairwise λd e=> lx (enc e) (enc d)=false):ks.map bI=(mD l).map .int:=by
 have all:∀{ks:List Key},(∀k∈ks,∃i,k=Sum.inl i)->∃is:List Int,ks=is.map Sum.inl:=by
  intro ks
  induction ks with
  | nil=> intro _;exact ⟨[],rfl⟩
  | cons k ks ih=>
   intro h;obtain ⟨i,rfl⟩:=h k aCq;obtain ⟨is,rfl⟩:=ih λk hk=> h k (aCr _ hk);exact ⟨i::is,rfl⟩
 obtain ⟨is,rfl⟩:=all λk hk=> by obtain ⟨i,_,e⟩:=aD1.mp ((hm k).mp hk);exact ⟨i,e.symm⟩
 have e:is=mD l:=by
  refine GW ?_ (gY l) λx=> ?_
  ·have nd2:is.Pairwise (· ≠ ·):=by
    have:=List.pairwise_map.mp nd;exact this.imp λh z=> h (by rw [z])
   rw [List.pairwise_map,List.pairwise_map] at s;refine (nd2.and s).imp λ{a b} h=> ?_;have h2:=h.2;simp only [bI,enc,kO,lx] at h2;by_cases hb:b < a
   ·simp [hb] at h2
   ·have:=h.1;omega
  ·rw [jW];have:=hm (Sum.inl x);simpa using this
 rw [e,List.map_map];rfl
theorem xO (l:List Int):(l.map D.int)=(l.map (Sum.inl:Int->Key)).map bI:=by rw [List.map_map];rfl
theorem t8 (l:List Int):JS (l.map D.int):= .inl ⟨.i,λd hd=> by obtain ⟨s,_,rfl⟩:=aD1.mp hd;rfl⟩
abbrev En (mh : MH) (R : DK) : fN := { nx := λ_ mh1 => Out mh.length .cN mh1 R, rt := λd mh1 => Out mh.length d mh1 R }
theorem p6 (n:Nat):∀l:List P2,dI n (l.map sD)=true
 | []=> rfl
 | s::l=> by simp [dI,eE,sD,p6 n l]
theorem y4 (n:Nat):∀l:List R4,dI n (l.map rD)=true
 | []=> rfl
 | s::l=> by simp [dI,eE,rD,y4 n l]
theorem p7 (n:Nat):∀l:List Bd,dI n (l.map bD)=true
 | []=> rfl
 | s::l=> by simp [dI,eE,bD,lG,p6,p7 n l]
theorem zI (f:List P2) (s:P2):(bB f s).length<=f.length+1:=by
 rcases aDd f with rfl | ⟨g,t,rfl⟩
 ·simp [hU]
 ·rw [List.concat_eq_append,f6];split
  ·simp
  ·split <;> simp
theorem iL:∀(l f:List P2),(l.foldl bB f).length<=f.length+l.length
 | [],f=> by simp
 | s::l,f=> by
  have:=iL l (bB f s);have:=zI f s;simp only [List.foldl_cons,List.length_cons];omega
theorem E2 (l:List P2):(b9 l).length<=l.length:=by
 have:=iL (iV l) [];have:=(fP l).length_eq;simp [b9] at*;omega
def uO:OA:=λds mh Q=> ∃n l,ds=[.ref n]/\mh[n]? =some (.lst (l.map sD))/\l.length < 4000/\Q (lG (b9 l)) mh
theorem VM (ds:List D) (mh:MH) (R:DK) (ok:nK mh) (hs:uO ds mh R):i4 (En mh R) (aQ ["_law_shreds","_law_found","_law_start","_law_end"] ds) mh:=by
 obtain ⟨n,l,rfl,hn,h64,q⟩:=hs;have sz:=aDe;have hnl:n < mh.length:=(aCn.mp hn).1;simp [i4,nZ,aQ];refine ⟨_,l.map sD,rfl,by simp [nO,List.getElem?_append_left hnl,hn],by simpa using h64,SR l,λds' p s=> ?_⟩;obtain rfl:=HX p s;have hl:=(fP l).length_eq;simp [bP];refine dD (λi ρ mh' => (∃a b,ρ=[some (.ref n),some (.ref mh.length),a,b])/\mh' =mh++[.lst ((((iV l).take i).foldl bB []).map sD),.lst ((iV l).map sD)]) _ ?_ ?_ ?_ ⟨⟨_,_,rfl⟩,by simp⟩
 ·rintro i ρ mh' ⟨_,rfl⟩;simp
 ·rintro i d ρ mh' N hi ⟨⟨a,b,rfl⟩,rfl⟩ nx;obtain ⟨s,hs,rfl⟩:=hJ hi;have hil:i < (iV l).length:=(aCn.mp hs).1;have hfl:=iL ((iV l).take i) [];have e2:((iV l).take (i+1)).foldl bB []=bB (((iV l).take i).foldl bB []) s:=by rw [take_snoc hs];simp
  have nx2:∀a b,N [some (.ref n),some (.ref mh.length),a,b] (mh++[.lst ((bB (((iV l).take i).foldl bB []) s).map sD),.lst ((iV l).map sD)]):=λa b=> nx _ _ ⟨⟨_,_,rfl⟩,by rw [e2]⟩;generalize ((iV l).take i).foldl bB []=f at hfl nx2⊢;have g0:(mh++[MO.lst (f.map sD),.lst ((iV l).map sD)])[mh.length]? =some (.lst (f.map sD)):=by simp
  have gs:∀g:List D,(mh++[MO.lst (f.map sD),.lst ((iV l).map sD)]).set mh.length (.lst g)=mh++[.lst g,.lst ((iV l).map sD)]:=λg=> by simp
  have gk:f.map sD=[]\/True:= .inr trivial;generalize hM:mh++[MO.lst (f.map sD),.lst ((iV l).map sD)]=M at g0 gs⊢;simp at hfl;simp [sD,lY,kF g0,wH,e7 g0];rcases aDd f with rfl | ⟨g,t,rfl⟩
  ·simp only [hU] at nx2;simp;rw [eO g0,gs];exact ⟨⟨_,g0⟩,by omega,by simp;omega,by simpa [sD] using nx2 _ _⟩
  ·rw [List.concat_eq_append] at*;simp only [f6] at nx2;have hix:mV ((g++[t]).map sD) (-1)=some (.tup [.int t.1,.int t.2]):=by rw [List.map_append];exact tE _ _
   rw [hix];have c0:¬(g++[t]=[]):=by simp
   simp only [cF,KU,mU,XY];simp;by_cases c1:t.2 < s.1
   ·simp only [c1,if_true] at nx2⊢;rw [eO g0,gs];refine ⟨⟨_,g0⟩,by omega,by simp at hfl⊢;omega,?_⟩;have:=nx2 (some (.int s.1)) (some (.int s.2));simpa [sD] using this
   ·simp only [c1,if_false] at nx2⊢;by_cases c2:t.2 < s.2
    ·simp only [c2,if_true] at nx2⊢;rw [e7 g0,hix];simp [mU,c2];rw [e7 g0,hix];simp [mU];rw [uN g0];simp only [List.length_map,List.length_append,List.length_cons,List.length_nil,Nat.zero_add,vH,cF];rw [gs];have:=nx2 (some (.int s.1)) (some (.int s.2));refine ⟨by omega,?_⟩;simpa [sD] using this
    ·simp only [c2,if_false] at nx2⊢;rw [e7 g0,hix];simp [mU,c2];have:=nx2 (some (.int s.1)) (some (.int s.2));rw [hM] at this;exact this
 ·rintro ρ mh' ⟨⟨a,b,rfl⟩,rfl⟩;have e:(iV l).take ((iV l).map sD).length=iV l:=by simp
  rw [e];simp [nY,bP];exact p8 ok (by simp [eE,p6]) q
theorem BK (rs:List R4) (f:List Bd) (p:P2):(bF rs f p).length<=f.length+1:=by
 rcases aDd f with rfl | ⟨g,t,rfl⟩
 ·rw [gC];split <;> simp
 ·rw [List.concat_eq_append,e8];split
  ·simp
  ·split <;> simp
theorem jJ (rs:List R4):∀(l:List P2) (f:List Bd),(l.foldl (bF rs) f).length<=f.length+l.length
 | [],f=> by simp
 | s::l,f=> by
  have:=jJ rs l (bF rs f s);have:=BK rs f s;simp only [List.foldl_cons,List.length_cons];omega
theorem CW (x:Int):∀l:List Int,(rG x l).length<=l.length+1
 | []=> by simp [rG]
 | y::l=> by
  unfold rG;have:=CW x l;split
  ·simp
  ·split <;> simp <;> omega
theorem wY:∀l:List Int,(mD l).length<=l.length
 | []=> by simp [mD]
 | x::l=> by
  have:=wY l;have:=CW x (mD l);show (rG x (mD l)).length<=_;simp;omega
theorem tK (rs:List R4):(d9 rs).length<=2*rs.length:=by
 have:=wY (rs.map (·.y0)++rs.map (·.y1));simp [d9] at*;omega
theorem uH (rs:List R4) (lo hi:Int):(aZ rs lo hi).length<=rs.length:=by
 simp [aZ];exact aFx _ _
theorem mT:∀l:List P2,eU (l.map sD)=true/\cW (l.map sD)<=2
 | []=> by simp [eU,cW]
 | s::l=> by
  have:=mT l;simp only [List.map_cons,eU,cW,this.1,Bool.and_true];simp only [sD,bare,eU,deep,cW];refine ⟨rfl,by omega⟩
theorem zW:∀l m:List P2,fI (l.map sD) (m.map sD)=decide (l=m)
 | [],[]=> by simp [fI]
 | [],_::_=> by simp [fI]
 | _::_,[]=> by simp [fI]
 | a::l,b::m=> by
  simp only [List.map_cons,fI,zW l m];simp only [sD,oY,fI];by_cases h1:a.1=b.1 <;> by_cases h2:a.2=b.2 <;> by_cases h3:l=m <;> simp [h1,h2,h3,Prod.ext_iff]
def kG:OA:=λds mh Q=> ∃n rs,ds=[.ref n]/\mh[n]? =some (.lst (rs.map rD))/\rs.length<=1000/\Q (gD (fK rs)) mh
theorem QK {mh:MH} {n:Nat} {l:List P2} {Q:DK} (h:mh[n]? =some (.lst (l.map sD))) (hl:l.length < 4000) (q:Q (lG (b9 l)) mh):uO [.ref n] mh Q:=⟨n,l,rfl,h,hl,q⟩
theorem VL {mh mh' :MH} {E:fN} {rs:List R4} {n fa:Nat} {lo hi:Int} {f:List Bd} {a5:Option D} {ya:D} (px:cY mh mh') (hn:mh'[n]? =some (.lst (rs.map rD))) (hr:rs.length<=1000) (hf:mh'[fa]? =some (.lst (f.map bD))) (hfa:mh.length<=fa) (hfl:f.length<=4000)
  (nx:∀a T,cY mh ((mh' ++T).set fa (.lst ((bF rs f (lo,hi)).map bD)))->E.nx [some (.ref n),some ya,some (.ref fa),some (.int lo),some (.int hi),a] ((mh' ++T).set fa (.lst ((bF rs f (lo,hi)).map bD)))):
  fO uO E [some (.ref n),some ya,some (.ref fa),some (.int lo),some (.int hi),a5] mh' :=by
 have sz:=aDe;simp [fO];rw [bO hn];simp;refine vQ rD (λr=> decide (r.y0<=lo) && decide (hi<=r.y1)) (λr=> (r.x0,r.x1)) sD rs (bO hn) ?_ ?_
 ·intro r hr N M h1 h2;simp [o7,rD,mU,DT,V6];by_cases c1:r.y0<=lo
  ·simp [c1] at h1 h2⊢;by_cases c2:hi<=r.y1
   ·simp [c2] at h1 h2⊢;exact ⟨by omega,h1⟩
   ·simp [c2] at h1 h2⊢;exact h2 (by omega)
  ·simp [c1] at h1 h2⊢;exact h2
 ·have hsh:=uH rs lo hi;refine QK (l:=aZ rs lo hi) (by simp [aZ]) (by omega) ?_;have px1:cY mh (mh' ++[MO.lst ((aZ rs lo hi).map sD)]):=px.push _;have g1:(mh' ++[MO.lst ((aZ rs lo hi).map sD)])[fa]? =some (.lst (f.map bD)):=aY hf;have nx1:=λa=> nx a [MO.lst ((aZ rs lo hi).map sD)] (px1.set hfa _);change eN uO _ _ (mh' ++[MO.lst ((aZ rs lo hi).map sD)]);generalize mh' ++[MO.lst ((aZ rs lo hi).map sD)]=M at px1 g1 nx1⊢;have keep:=pV g1;have hlb:=mT (b9 (aZ rs lo hi));generalize hln:b9 (aZ rs lo hi)=ln at*;have hrs:∀g,bF rs g (lo,hi)=bF rs g (lo,hi):=λ_=> rfl;simp [eN,kF g1,lG,wH,e7 g1];rcases aDd f with rfl | ⟨g,t,rfl⟩
  ·simp only [gC,hln] at nx1;by_cases c:ln=[]
   ·subst c;simp at nx1⊢;simp at keep;rw [keep] at nx1;exact nx1 _
   ·have c' :0 < ln.length:=List.length_pos_iff.mpr c;simp [c,c'] at nx1⊢;rw [eO g1];exact ⟨⟨_,g1⟩,by omega,by simp;omega,by simpa [bD,lG] using nx1 _⟩
  ·rw [List.concat_eq_append] at*;have hix:mV ((g++[t]).map bD) (-1)=some (.tup [.int t.lo,.int t.hi,.tup (t.ln.map sD)]):=by rw [List.map_append];exact tE _ _
   simp only [e8,hln] at nx1;by_cases c:ln=[]
   ·subst c;simp at nx1⊢;simp at keep;rw [keep] at nx1;exact nx1 _
   ·have c' :0 < ln.length:=List.length_pos_iff.mpr c;have hb3:=mT t.ln;simp [c,c'] at nx1⊢;rw [tE];simp [bD,lG,mU,DT];by_cases c1:t.hi=lo
    ·simp [c1] at nx1⊢;rw [e7 g1,hix];simp [mU,DT];refine ⟨hb3.1,hlb.1,by omega,?_⟩;rw [zW];by_cases c2:t.ln=ln
     ·simp [c2] at nx1⊢;rw [e7 g1,hix];simp [mU,DT];rw [uN g1];simp only [List.length_map,List.length_append,List.length_cons,List.length_nil,Nat.zero_add,vH,cF];have:=nx1 (some (.tup (ln.map sD)));refine ⟨by omega,?_⟩;simpa [bD,lG] using this
     ·simp [c2] at nx1⊢;rw [eO g1];refine ⟨⟨_,g1⟩,by omega,by simp at hfl⊢;omega,?_⟩;have:=nx1 (some (.tup (ln.map sD)));simpa [bD,lG] using this
    ·simp [c1] at nx1⊢;rw [eO g1];refine ⟨⟨_,g1⟩,by omega,by simp at hfl⊢;omega,?_⟩;have:=nx1 (some (.tup (ln.map sD)));simpa [bD,lG] using this
theorem MS (ds:List D) (mh:MH) (R:DK) (ok:nK mh) (hs:kG ds mh R):fX uO (En mh R) (aQ ["_law_rects_here","_law_ys","_law_found","_law_low","_law_high","_law_line_here"] ds) mh:=by
 obtain ⟨n,rs,rfl,hn,hr,q⟩:=hs;have sz:=aDe;have hnl:n < mh.length:=fV hn;simp [fX,aQ];rw [bO hn];simp;refine nE rD (·.y0) .int rs (bO hn) (λr _ N hN=> by simpa [o7,rD,mU] using hN) ?_;rw [bO (aY hn)];simp only [cF];refine nE rD (·.y1) .int rs (bO (aY hn)) (λr _ N hN=> by simpa [o7,rD,V6] using hN) ?_;rw [KW (i:=(rs.map (·.y0)).map .int) (j:=(rs.map (·.y1)).map .int) (by simp) (by simp)];refine ⟨by simp;omega,(rs.map (·.y0)++rs.map (·.y1)).map Sum.inl,?_,by simp;omega,by rw [<-xO];exact t8 _,λks hm nd _ srt=> ?_⟩
 ·rw [vB (gL _ _),<-xO];simp
 have ey:ks.map bI=(d9 rs).map .int:=HW hm nd srt;rw [ey];have hyl:=tK rs;generalize hys:d9 rs=ys at*;have px:cY mh (((mh++[MO.lst ((rs.map (·.y0)).map .int)])++[MO.lst ((rs.map (·.y1)).map .int)])++[MO.lst (((rs.map (·.y0)).map .int)++((rs.map (·.y1)).map .int))]):=((cY.refl.push _).push _).push _;generalize ((mh++[MO.lst ((rs.map (·.y0)).map .int)])++[MO.lst ((rs.map (·.y1)).map .int)])++[MO.lst (((rs.map (·.y0)).map .int)++((rs.map (·.y1)).map .int))]=M at px⊢;simp [kX,kW];rw [RT (ds:=ys.map .int) (by simp),x6,<-List.map_tail];have hml:=px.le;have g1:(M++[MO.lst (ys.map .int),.lst []]++[.lst (ys.tail.map .int)])[M.length]? =some (.lst (ys.map .int)):=by simp
 have g2:(M++[MO.lst (ys.map .int),.lst []]++[.lst (ys.tail.map .int)])[M.length+1]? =some (.lst []):=by simp
 have g3:(M++[MO.lst (ys.map .int),.lst []]++[.lst (ys.tail.map .int)])[M.length+2]? =some (.lst (ys.tail.map .int)):=by simp
 have px2:cY mh (M++[MO.lst (ys.map .int),.lst []]++[.lst (ys.tail.map .int)]):=(px.app _).app _;have e3:(M++[MO.lst (ys.map .int),MO.lst []]).length=M.length+2:=by simp
 rw [e3];generalize M++[MO.lst (ys.map .int),.lst []]++[.lst (ys.tail.map .int)]=M2 at g1 g2 g3 px2⊢;rw [bO g1,bO g3];simp only [cF];refine ⟨by simp;omega,?_⟩;rw [zip_map];refine dD (λi ρ mh' => (∃a b c,ρ=[some (.ref n),some (.ref M.length),some (.ref (M.length+1)),a,b,c])/\cY mh mh' /\mh'[M.length]? =some (.lst (ys.map .int))/\mh'[M.length+2]? =some (.lst (ys.tail.map .int))/\mh'[M.length+1]? =some (.lst ((((ys.zip ys.tail).take i).foldl (bF rs) []).map bD))) _ ?_ ?_ ?_ ⟨⟨_,_,_,rfl⟩,px2,g1,g3,by simpa using g2⟩
 ·rintro i ρ mh' ⟨_,_,a1,a2,_⟩;exact ⟨bO a1,bO a2⟩
 ·rintro i d ρ mh' N hi ⟨⟨a,b,c,rfl⟩,px3,a1,a2,a3⟩ nx;obtain ⟨p,hp,rfl⟩:=hJ hi;have hil:i < (ys.zip ys.tail).length:=(aCn.mp hp).1;have hfl:=jJ rs ((ys.zip ys.tail).take i) [];simp;refine VL px3 (px3.old hn) hr a3 (by omega) (by simp at hil hfl⊢;omega) λa T px4=> nx _ _ ⟨⟨_,_,_,rfl⟩,px4,get_set (qJ a1) (by omega),get_set (qJ a2) (by omega),?_⟩;rw [cB _ (qJ a3),take_snoc hp];simp
 ·rintro ρ mh' ⟨⟨a,b,c,rfl⟩,px3,a1,a2,a3⟩;simp only [kU];simp [bP];rw [a3];simp;have e:(ys.zip ys.tail).take (ys.length - 1)=ys.zip ys.tail:=aFv (by simp);refine px3.out ok (by simp [eE,p7]) ?_;rw [e];have:fK rs=(ys.zip ys.tail).foldl (bF rs) []:=by rw [<-hys];rfl
  rw [<-this];exact q
abbrev tI (i : Int) : Prop := -1048576 <= i /\ i <= 1048576
def qT (mh:MH) (b sm:Nat):Prop:=sm≠b/\∃is:List Int,mh[sm]? =some (.lst (is.map .int))/\is.length=8/\∀i∈is,tI i
theorem qT.to {mh mh' :MH} {b sm:Nat} (h:qT mh b sm) (t:dE mh b mh'):qT mh' b sm:=by
 obtain ⟨h1,is,h2,h3⟩:=h;exact ⟨h1,is,by rw [t.other h1];exact h2,h3⟩
def pZ:OA:=λds mh Q=> ∃b sort sm,ds=[.ref b,.int sort,.ref sm]/\sV mh b/\qT mh b sm/\∀v mh',tI v->dE mh b mh' ->Q (.int v) mh'
theorem MV (ds:List D) (mh:MH) (R:DK) (ok:nK mh) (hs:pZ ds mh R):fY lE (En mh R) (aQ ["_law_bag_here","_law_sort","_law_some"] ds) mh:=by
 obtain ⟨b,sort,sm,rfl,hb,h8,q⟩:=hs;have fin:∀v mh',tI v->dE mh b mh' ->Out mh.length (.int v) mh' R:=λv mh' h t=> eF (q v mh' h t);simp [fY,aQ];by_cases c0:sort=0
 ·simp [c0];exact sY (by omega) (by omega) hb λr mh' r0 r1 t=> by simp;exact fin _ _ ⟨by omega,by omega⟩ t
 ·simp [c0,lB];by_cases c1:sort=1
  ·simp [c1];exact sY (by omega) (by omega) hb λr mh' r0 r1 t=> by simp;exact fin _ _ ⟨by omega,by omega⟩ t
  ·simp [c1,lA];by_cases c2:sort=2
   ·simp [c2];refine ⟨.inl ⟨by omega,by omega⟩,?_⟩;exact sY (by omega) (by omega) hb λr mh' r0 r1 t=> by simp;exact fin _ _ ⟨by omega,by omega⟩ t
   ·have h8' :=h8;obtain ⟨n1,is,h2,h3,h4⟩:=h8;simp [c2,kZ,kF h2,h3];refine sY (by omega) (by omega) hb λr mh' r0 r1 t=> ?_;have h2' :mh'[sm]? =some (.lst (is.map .int)):=by rw [t.other n1];exact h2
    obtain ⟨v,hv,_,e⟩:=RB (f:=D.int) (ss:=is) r0 (by omega);rw [e7 h2',e];simp;exact fin v mh' (h4 v hv) t
def BH:OA:=λds mh Q=> ∃b sort sm,ds=[.ref b,.int sort,.ref sm]/\sV mh b/\qT mh b sm/\∀u v mh',tI u->tI v->u < v->dE mh b mh' ->Q (.tup [.int u,.int v]) mh'
theorem xK {mh:MH} {b sm:Nat} {sort:Int} {Q:DK} (hb:sV mh b) (h8:qT mh b sm) (q:∀v mh',tI v->dE mh b mh' ->Q (.int v) mh'):pZ [.ref b,.int sort,.ref sm] mh Q:=⟨b,sort,sm,rfl,hb,h8,q⟩
theorem VI (ds:List D) (mh:MH) (R:DK) (ok:nK mh) (hs:BH ds mh R):iZ pZ (En mh R) (aQ ["_law_bag_here","_law_sort","_law_some","_law_one","_law_other_here"] ds) mh:=by
 obtain ⟨b,sort,sm,rfl,hb,h8,q⟩:=hs;have sz:=aDe;simp [iZ,nX,aQ];refine xK hb h8 λu mh1 u1 t1=> ?_;refine xK t1.1 (h8.to t1) λv mh2 v1 t2=> ?_;have t:=t1.trans t2;simp [nW];by_cases c:u=v
 ·subst c;simp;by_cases c1:u=1048576
  ·simp [c1];exact ⟨by omega,eF (q _ _ mh2 ⟨by omega,by omega⟩ ⟨by omega,by omega⟩ (by omega) t)⟩
  ·simp [c1];exact ⟨by omega,eF (q _ _ mh2 u1 ⟨by omega,by omega⟩ (by omega) t)⟩
 ·simp [c,nV];refine ⟨by omega,eF ?_⟩;by_cases c1:v < u
  ·rw [if_pos c1,if_neg (by omega)];exact q _ _ mh2 v1 u1 c1 t
  ·rw [if_neg c1,if_pos (by omega)];exact q _ _ mh2 u1 v1 (by omega) t
theorem GG {mh:MH} {b sm:Nat} {sort:Int} {Q:DK} (hb:sV mh b) (h8:qT mh b sm) (q:∀u v mh',tI u->tI v->u < v->dE mh b mh' ->Q (.tup [.int u,.int v]) mh'):BH [.ref b,.int sort,.ref sm] mh Q:=⟨b,sort,sm,rfl,hb,h8,q⟩
def R4.ok (r:R4):Prop:=tI r.x0/\tI r.y0/\tI r.x1/\tI r.y1/\r.x0 < r.x1/\r.y0 < r.y1
def oP:OA:=λds mh Q=> ∃b most,ds=[.ref b,.int most]/\12<=most/\most<=1000/\sV mh b/\∀(rs:List R4) mh',rs.length<=most.toNat->(∀r∈rs,r.ok)->dE mh b mh' ->Q (.ref mh'.length) (mh' ++[.lst (rs.map rD)])
theorem ix4 {x y z u r:Int} (h0:0<=r) (h1:r < 4):∃v,mV [D.int x,.int y,.int z,.int u] r=some (.int v)/\(v=x\/v=y\/v=z\/v=u):=by
 have:r=0\/r=1\/r=2\/r=3:=by omega
 rcases this with rfl | rfl | rfl | rfl
 ·exact ⟨x,ZI _ _,.inl rfl⟩
 ·exact ⟨y,mU _ _ _,.inr (.inl rfl)⟩
 ·exact ⟨z,DT _ _ _ _,.inr (.inr (.inl rfl))⟩
 ·exact ⟨u,V6 _ _ _ _ _,.inr (.inr (.inr rfl))⟩
theorem QX (ds:List D) (mh:MH) (R:DK) (ok:nK mh) (hs:oP ds mh R):gW lE BH (En mh R) (aQ ["_law_bag_here","_law_most","_law_sort","_law_many","_law_some","_law_found","_law_k","_law_left","_law_right","_law_low","_law_high"] ds) mh:=by
 obtain ⟨b,most,rfl,m0,m1,hb,q⟩:=hs;have sz:=aDe;have hbl:=hb.lt;simp [gW,lV,aQ];refine BC (.refl hb) (by omega) (by omega) λsort mh1 s0 s1 x1 _ _=> ?_;refine ⟨by omega,?_⟩;refine BC (x1.push _) (by omega) (by omega) λr mh2 r0 r1 x2 l2 k2=> ?_;have e2:mh2[mh1.length]? =some (.lst [.int (most+1),.int 13,.int 13,.int 7]):=by rw [k2 _ x1.le];simp
 rw [e7 e2];obtain ⟨v,hv,hv2⟩:=ix4 (x:=most+1) (y:=13) (z:=13) (u:=7) r0 r1;rw [hv];simp;refine BC x2 (by omega) (by omega) λmany mh3 n0 n1 x3 _ _=> ?_;have hmany:many<=most:=by omega
 simp [lU];refine ⟨by omega,?_⟩;refine NO (λi ys mh' => fH mh b mh' /\∃is:List Int,ys=is.map .int/\is.length=i/\∀i∈is,tI i) _ (λ_ _ _ _=> trivial) ?_ ?_ ⟨x3,[],rfl,rfl,by simp⟩
 ·rintro i d ys mh4 N hi ⟨x4,is,rfl,il,fa⟩ nx;simp [o7];refine BC x4 (by omega) (by omega) λc mh5 c0 c1 x5 _ _=> ?_;simp;refine nx _ _ ⟨x5,is++[c - 1048576],by simp,by simp [il],λi hi=> ?_⟩;rcases aCt.mp hi with hi | hi
  ·exact fa i hi
  ·simp at hi;subst hi;exact ⟨by omega,by omega⟩
 ·rintro ys mh4 ⟨x4,is,rfl,il,fa⟩;simp at il;simp;refine ⟨by omega,?_⟩;rw [KW (i:=is.map .int) (j:=[.int (-1048576),.int 1048576,.int 0,.int 1]) (by simp) (by simp)];refine ⟨by simp;omega,?_⟩;simp [lT,lS]
  have xx:=(x4.app [MO.lst (is.map .int),.lst [D.int (-1048576),D.int 1048576,D.int 0,D.int 1],MO.lst ((is.map .int)++[D.int (-1048576),D.int 1048576,D.int 0,D.int 1]),.lst []])
  have h8:qT ((mh4++[MO.lst (is.map .int),.lst [D.int (-1048576),D.int 1048576,D.int 0,D.int 1]]++[MO.lst ((is.map .int)++[D.int (-1048576),D.int 1048576,D.int 0,D.int 1])])++[.lst []]) b (mh4.length+2):=by
   refine ⟨by have:=x4.le;omega,is++[-1048576,1048576,0,1],by simp,by simp;omega,λi hi=> ?_⟩;rcases aCt.mp hi with hi | hi
   ·exact fa i hi
   ·simp at hi;rcases hi with rfl | rfl | rfl | rfl <;> exact ⟨by omega,by omega⟩
  have g0:((mh4++[MO.lst (is.map .int),.lst [D.int (-1048576),D.int 1048576,D.int 0,D.int 1]]++[MO.lst ((is.map .int)++[D.int (-1048576),D.int 1048576,D.int 0,D.int 1])])++[.lst []])[mh4.length+3]? =some (.lst []):=by simp
  simp only [List.append_assoc,List.cons_append,List.nil_append] at h8 g0;have hm4:=x4.le;generalize mh4++[MO.lst (is.map .int),.lst [D.int (-1048576),D.int 1048576,D.int 0,D.int 1],MO.lst ((is.map .int)++[D.int (-1048576),D.int 1048576,D.int 0,D.int 1]),.lst []]=M at h8 xx g0⊢;generalize mh4.length=c at*;refine ⟨by omega,by omega,?_⟩;refine dD (λi ρ mh' => (∃a1 a2 a3 a4 a5,ρ=[some (.ref b),some (.int most),some (.int sort),some (.int many),some (.ref (c+2)),some (.ref (c+3)),a1,a2,a3,a4,a5])/\fH mh b mh' /\qT mh' b (c+2)/\∃rs:List R4,mh'[c+3]? =some (.lst (rs.map rD))/\rs.length=i/\∀r∈rs,r.ok) _ (λ_ _ _ _=> trivial) ?_ ?_ ⟨⟨_,_,_,_,_,rfl⟩,xx,h8,[],by simpa using g0,rfl,by simp⟩
  ·rintro i d ρ mh5 N hi ⟨⟨a1,a2,a3,a4,a5,rfl⟩,x5,h85,rs,gr,hl,cG⟩ nx;obtain ⟨hil,rfl⟩:=yY hi;simp [kY,i3];refine GG x5.bag h85 λu v mh6 u1 v1 uv t6=> ?_;simp;refine GG t6.1 (h85.to t6) λu2 v2 mh7 u3 v3 uv2 t7=> ?_;have t:=t6.trans t7;have gr7:mh7[c+3]? =some (.lst (rs.map rD)):=by rw [t.other (by omega)];exact gr
   simp [i0,wH];rw [eO gr7];refine ⟨⟨_,gr7⟩,by omega,by simp;omega,nx _ _ ⟨⟨_,_,_,_,_,rfl⟩,(x5.to t).set (by omega) _,?_,rs++[⟨u,u2,v,v2⟩],?_,by simp [hl],λr hr=> ?_⟩⟩
   ·obtain ⟨n1,is2,h2,h3⟩:=h85.to t;exact ⟨n1,is2,get_set h2 (by omega),h3⟩
   ·rw [cB _ gr7];simp [rD]
   ·rcases aCt.mp hr with hr | hr
    ·exact cG r hr
    ·simp at hr;subst hr;exact ⟨u1,u3,v1,v3,uv,uv2⟩
  ·rintro ρ mh5 ⟨⟨a1,a2,a3,a4,a5,rfl⟩,x5,h85,rs,gr,hl,cG⟩;simp [lR];refine x5.UC ok (by omega) gr (by simp [zB,y4]) λmh6 t=> q rs mh6 (by simp at hl;omega) cG t
theorem zJ {P:Int->Prop} {f:List P2} {s:P2} (hf:∀t∈f,P t.1/\P t.2) (hs:P s.1/\P s.2):∀t∈bB f s,P t.1/\P t.2:=by
 rcases aDd f with rfl | ⟨g,u,rfl⟩
 ·rw [hU];intro t ht;simp at ht;subst ht;exact hs
 ·rw [List.concat_eq_append] at*;rw [f6];have hu:=hf u (by simp);split
  ·intro t ht;rcases aCt.mp ht with z | z
   ·exact hf t z
   ·simp at z;subst z;exact hs
  ·split
   ·intro t ht;rcases aCt.mp ht with z | z
    ·exact hf t (by simp [z])
    ·simp at z;subst z;exact ⟨hu.1,hs.2⟩
   ·exact hf
theorem mN {P:Int->Prop}:∀(l f:List P2),(∀t∈l,P t.1/\P t.2)->(∀t∈f,P t.1/\P t.2)->∀t∈l.foldl bB f,P t.1/\P t.2
 | [],f,_,hf=> hf
 | s::l,f,hl,hf=> mN l (bB f s) (λt ht=> hl t (aCr _ ht)) (zJ hf (hl s aCq))
theorem vD {P:Int->Prop} {l:List P2} (h:∀t∈l,P t.1/\P t.2):∀t∈b9 l,P t.1/\P t.2:=
 mN _ _ (λt ht=> h t ((fP l).mem_iff.mp ht)) (by simp)
theorem uI {P:Int->Prop} {rs:List R4} (h:∀r∈rs,P r.x0/\P r.x1) (lo hi:Int):∀t∈aZ rs lo hi,P t.1/\P t.2:=by
 intro t ht;simp only [aZ,List.mem_map,List.mem_filter] at ht;obtain ⟨r,⟨hr,_⟩,rfl⟩:=ht;exact h r hr
def Bd.ZA (n:Nat) (b:Bd):Prop:=tI b.lo/\tI b.hi/\b.ln.length<=n/\∀t∈b.ln,tI t.1/\tI t.2
theorem BL {rs:List R4} {f:List Bd} {p:P2} (hr:∀r∈rs,r.ok) (hf:∀b∈f,b.ZA rs.length) (h1:tI p.1) (h2:tI p.2):∀b∈bF rs f p,b.ZA rs.length:=by
 have hl:∀t∈b9 (aZ rs p.1 p.2),tI t.1/\tI t.2:=vD (uI (λr hr2=> ⟨(hr r hr2).1,(hr r hr2).2.2.1⟩) _ _);have hn:(b9 (aZ rs p.1 p.2)).length<=rs.length:=aDf (E2 _) (uH _ _ _);rcases aDd f with rfl | ⟨g,u,rfl⟩
 ·rw [gC];split
  ·simp
  ·intro b hb;simp at hb;subst hb;exact ⟨h1,h2,hn,hl⟩
 ·rw [List.concat_eq_append] at*;rw [e8];have hu:=hf u (by simp);split
  ·exact hf
  ·split
   ·intro b hb;rcases aCt.mp hb with z | z
    ·exact hf b (by simp [z])
    ·simp at z;subst z;exact ⟨hu.1,h2,hn,hl⟩
   ·intro b hb;rcases aCt.mp hb with z | z
    ·exact hf b z
    ·simp at z;subst z;exact ⟨h1,h2,hn,hl⟩
theorem oB {rs:List R4} (hr:∀r∈rs,r.ok):∀(l:List P2) (f:List Bd),(∀p∈l,tI p.1/\tI p.2)->(∀b∈f,b.ZA rs.length)->∀b∈l.foldl (bF rs) f,b.ZA rs.length
 | [],f,_,hf=> hf
 | s::l,f,hl,hf=> oB hr l _ (λt ht=> hl t (aCr _ ht)) (BL hr hf (hl s aCq).1 (hl s aCq).2)
theorem A0 {rs:List R4} (hr:∀r∈rs,r.ok):∀y∈d9 rs,tI y:=by
 intro y hy;rw [d9,jW] at hy;rcases aCt.mp hy with z | z
 ·obtain ⟨r,h,rfl⟩:=aD1.mp z;exact (hr r h).2.1
 ·obtain ⟨r,h,rfl⟩:=aD1.mp z;exact (hr r h).2.2.2.1
theorem xC {rs:List R4} (hr:∀r∈rs,r.ok):∀b∈fK rs,b.ZA rs.length:=
 oB hr _ _ (λp hp=> ⟨A0 hr _ (aG4 hp).1,A0 hr _ (List.mem_of_mem_tail (aG4 hp).2)⟩) (by simp)
theorem xB (rs:List R4):(fK rs).length<=2*rs.length:=by
 have:=jJ rs ((d9 rs).zip (d9 rs).tail) [];have:=tK rs;simp [fK] at*;omega
theorem xA {mh:MH} {n:Nat} {rs:List R4} {Q:DK} (h:mh[n]? =some (.lst (rs.map rD))) (hl:rs.length<=1000) (q:Q (gD (fK rs)) mh):kG [.ref n] mh Q:=⟨n,rs,rfl,h,hl,q⟩
theorem K2 {mh:MH} {b:Nat} {most:Int} {Q:DK} (h0:12<=most) (h1:most<=1000) (hb:sV mh b) (q:∀(rs:List R4) mh',rs.length<=most.toNat->(∀r∈rs,r.ok)->dE mh b mh' ->Q (.ref mh'.length) (mh' ++[.lst (rs.map rD)])):oP [.ref b,.int most] mh Q:=⟨b,most,rfl,h0,h1,hb,q⟩
def gU (f:List P2) (x:Int):Prop:=∃t∈f,t.1<=x/\x < t.2
def Sep (f:List P2):Prop:=(∀t∈f,t.1 < t.2)/\f.Pairwise λa b=> a.2 < b.1
theorem nD {f g:List P2} {x:Int}:gU (f++g) x↔gU f x\/gU g x:=by
 unfold gU;constructor
 ·rintro ⟨t,ht,h⟩;rcases aCt.mp ht with z | z
  ·exact .inl ⟨t,z,h⟩
  ·exact .inr ⟨t,z,h⟩
 ·rintro (⟨t,ht,h⟩ | ⟨t,ht,h⟩)
  ·exact ⟨t,aDq _ ht,h⟩
  ·exact ⟨t,aD8 _ ht,h⟩
theorem jA {t:P2} {x:Int}:gU [t] x↔t.1<=x/\x < t.2:=by simp [gU]
theorem CG {f:List P2} {s:P2} (hf:Sep f) (hs:s.1 < s.2) (hb:∀t∈f,t.1<=s.1):
  Sep (bB f s)/\(∀t∈bB f s,t.1<=s.1)/\∀x,gU (bB f s) x↔gU f x\/(s.1<=x/\x < s.2):=by
 rcases aDd f with rfl | ⟨g,t,rfl⟩
 ·rw [hU];refine ⟨⟨by simpa using hs,by simp⟩,by simp,λx=> by simp [gU]⟩
 ·rw [List.concat_eq_append] at*;rw [f6];obtain ⟨hv,hp⟩:=hf;have ht:=hv t (by simp);have htb:=hb t (by simp);have hp2:=aD2.mp hp;split
  ·rename_i c;refine ⟨⟨λu hu=> ?_,aD2.mpr ⟨hp,by simp,λa ha b hbb=> ?_⟩⟩,λu hu=> ?_,λx=> by rw [nD,jA]⟩
   ·rcases aCt.mp hu with z | z
    ·exact hv u z
    ·simp at z;subst z;exact hs
   ·simp at hbb;subst hbb;rcases aCt.mp ha with z | z
    ·have:=hp2.2.2 a z t (by simp);omega
    ·simp at z;subst z;exact c
   ·rcases aCt.mp hu with z | z
    ·exact hb u z
    ·simp at z;subst z;omega
  ·rename_i c;split
   ·rename_i c2;refine ⟨⟨λu hu=> ?_,aD2.mpr ⟨hp2.1,by simp,λa ha b hbb=> ?_⟩⟩,λu hu=> ?_,λx=> ?_⟩
    ·rcases aCt.mp hu with z | z
     ·exact hv u (by simp [z])
     ·simp at z;subst z;simp;omega
    ·simp at hbb;subst hbb;exact hp2.2.2 a ha t (by simp)
    ·rcases aCt.mp hu with z | z
     ·exact hb u (by simp [z])
     ·simp at z;subst z;exact htb
    ·rw [nD,nD,jA,jA];simp only;constructor
     ·rintro (h | h)
      ·exact .inl (.inl h)
      ·by_cases hx:x < t.2
       ·exact .inl (.inr ⟨h.1,hx⟩)
       ·exact .inr ⟨by omega,h.2⟩
     ·rintro ((h | h) | h)
      ·exact .inl h
      ·exact .inr ⟨h.1,by omega⟩
      ·exact .inr ⟨by omega,h.2⟩
   ·rename_i c2;refine ⟨⟨hv,hp⟩,hb,λx=> ⟨.inl,?_⟩⟩;rintro (h | h)
    ·exact h
    ·rw [nD,jA];exact .inr ⟨by omega,by omega⟩
theorem oC:∀(l f:List P2),l.Pairwise (λa b=> zA a b=true)->(∀s∈l,s.1 < s.2)->Sep f->(∀t∈f,∀s∈l,t.1<=s.1)->
  Sep (l.foldl bB f)/\∀x,gU (l.foldl bB f) x↔gU f x\/gU l x
 | [],f,_,_,hf,_=> ⟨hf,λx=> by simp [gU]⟩
 | s::l,f,hp,hv,hf,hb=> by
  have c:=aDb.mp hp;obtain ⟨h1,h2,h3⟩:=CG hf (hv s aCq) λt ht=> hb t ht s aCq
  have ih:=oC l (bB f s) c.2 (λu hu=> hv u (aCr _ hu)) h1 λt ht u hu=> by
   have:=h2 t ht;have:=c.1 u hu;simp only [zA,decide_eq_true_eq] at this;omega
  refine ⟨ih.1,λx=> ?_⟩;rw [List.foldl_cons,ih.2 x,h3 x]
  have e:gU (s::l) x↔(s.1<=x/\x < s.2)\/gU l x:=by
   rw [show s::l=[s]++l from rfl,nD,jA]
  rw [e,or_assoc]
theorem IP {l:List P2} (hv:∀s∈l,s.1 < s.2):Sep (b9 l)/\∀x,gU (b9 l) x↔gU l x:=by
 have h:=oC (iV l) [] (r9 l) (λs hs=> hv s ((fP l).mem_iff.mp hs)) ⟨by simp,by simp⟩ (by simp);refine ⟨h.1,λx=> ?_⟩;have:=h.2 x;unfold b9;rw [this];unfold gU;simp only [List.not_mem_nil,false_and,exists_false,false_or];constructor
 ·rintro ⟨t,ht,q⟩;exact ⟨t,(fP l).mem_iff.mp ht,q⟩
 ·rintro ⟨t,ht,q⟩;exact ⟨t,(fP l).mem_iff.mpr ht,q⟩
def cM (g:List Bd) (x y:Int):Prop:=∃b∈g,b.lo<=y/\y < b.hi/\gU b.ln x
structure rO (g:List Bd):Prop where
 lt:∀b∈g,b.lo < b.hi
 ne:∀b∈g,b.ln≠[]
 sep:∀b∈g,Sep b.ln
 up:g.Pairwise λa b=> a.hi<=b.lo
 apart:∀u a b v,g=u++a::b::v->¬(a.hi=b.lo/\a.ln=b.ln)
theorem iQ {f g:List Bd} {x y:Int}:cM (f++g) x y↔cM f x y\/cM g x y:=by
 unfold cM;constructor
 ·rintro ⟨t,ht,h⟩;rcases aCt.mp ht with z | z
  ·exact .inl ⟨t,z,h⟩
  ·exact .inr ⟨t,z,h⟩
 ·rintro (⟨t,ht,h⟩ | ⟨t,ht,h⟩)
  ·exact ⟨t,aDq _ ht,h⟩
  ·exact ⟨t,aD8 _ ht,h⟩
theorem iP {b:Bd} {x y:Int}:cM [b] x y↔b.lo<=y/\y < b.hi/\gU b.ln x:=by simp [cM]
theorem DO {f:List Bd} {b c:Bd} (h:rO (f++[b])) (h1:c.lo < c.hi) (h2:c.ln≠[]) (h3:Sep c.ln) (h4:b.hi<=c.lo) (h5:¬(b.hi=c.lo/\b.ln=c.ln)):rO (f++[b]++[c]):=by
 obtain ⟨a1,a2,a3,a4,a5⟩:=h;refine ⟨λd hd=> ?_,λd hd=> ?_,λd hd=> ?_,aD2.mpr ⟨a4,by simp,λd hd e he=> ?_⟩,λu a d v e=> ?_⟩
 ·rcases aCt.mp hd with z | z
  ·exact a1 d z
  ·simp at z;subst z;exact h1
 ·rcases aCt.mp hd with z | z
  ·exact a2 d z
  ·simp at z;subst z;exact h2
 ·rcases aCt.mp hd with z | z
  ·exact a3 d z
  ·simp at z;subst z;exact h3
 ·simp at he;subst he;have hp2:=aD2.mp a4;have hbb:=a1 b (by simp);rcases aCt.mp hd with z | z
  ·have:=hp2.2.2 d z b (by simp);omega
  ·simp at z;subst z;exact h4
 ·rcases aDd v with rfl | ⟨v',w,rfl⟩
  ·have e2:f++[b]++[c]=(u++[a])++[d]:=by rw [e];simp
   have e3:=aFw e2 rfl;have e4:=aFz e2 rfl;have e5:=aFw e4 rfl;simp at e3 e5;subst e3 e5;exact h5
  ·rw [List.concat_eq_append] at e;have e2:f++[b]++[c]=(u++a::d::v')++[w]:=by rw [e];simp
   exact a5 u a d v' (aFz e2 rfl)
theorem HH {c:Bd} (h1:c.lo < c.hi) (h2:c.ln≠[]) (h3:Sep c.ln):rO [c]:=by
 refine ⟨by simpa using h1,by simpa using h2,by simpa using h3,by simp,λu a b v e=> ?_⟩;have:=aE0 List.length e;simp at this;omega
theorem sM {f:List Bd} {b:Bd} {hi:Int} (h:rO (f++[b])) (h1:b.hi<=hi):rO (f++[⟨b.lo,hi,b.ln⟩]):=by
 obtain ⟨a1,a2,a3,a4,a5⟩:=h;have hp2:=aD2.mp a4;have hb:=a1 b (by simp);refine ⟨λd hd=> ?_,λd hd=> ?_,λd hd=> ?_,aD2.mpr ⟨hp2.1,by simp,λd hd e he=> ?_⟩,λu a d v e=> ?_⟩
 ·rcases aCt.mp hd with z | z
  ·exact a1 d (by simp [z])
  ·simp at z;subst z;show b.lo < hi;omega
 ·rcases aCt.mp hd with z | z
  ·exact a2 d (by simp [z])
  ·simp at z;subst z;exact a2 b (by simp)
 ·rcases aCt.mp hd with z | z
  ·exact a3 d (by simp [z])
  ·simp at z;subst z;exact a3 b (by simp)
 ·simp at he;subst he;exact hp2.2.2 d hd b (by simp)
 ·rcases aDd v with rfl | ⟨v',w,rfl⟩
  ·have e2:f++[⟨b.lo,hi,b.ln⟩]=(u++[a])++[d]:=by rw [e];simp
   have e3:=aFw e2 rfl;have e4:=aFz e2 rfl;simp at e3;subst e3;exact a5 u a b [] (by rw [e4];simp)
  ·rw [List.concat_eq_append] at e;have e2:f++[⟨b.lo,hi,b.ln⟩]=(u++a::d::v')++[w]:=by rw [e];simp
   exact a5 u a d (v' ++[b]) (by rw [List.append_inj_left' e2 rfl];simp)
theorem EH {rs:List R4} {f:List Bd} {p:P2} (hr:∀r∈rs,r.x0 < r.x1) (hf:rO f) (hp:p.1 < p.2) (hb:∀b∈f,b.hi<=p.1):
  rO (bF rs f p)/\(∀b∈bF rs f p,b.hi<=p.2)/\∀x y,cM (bF rs f p) x y↔cM f x y\/(p.1<=y/\y < p.2/\gU (aZ rs p.1 p.2) x):=by
 have hv:∀s∈aZ rs p.1 p.2,s.1 < s.2:=λs hs=> by
  simp only [aZ,List.mem_map,List.mem_filter] at hs;obtain ⟨r,⟨h,_⟩,rfl⟩:=hs;exact hr r h
 obtain ⟨hsep,hcov⟩:=IP hv;have hcov2:∀x,gU (aZ rs p.1 p.2) x↔gU (b9 (aZ rs p.1 p.2)) x:=λx=> (hcov x).symm
 have goal:rO (bF rs f p)/\(∀b∈bF rs f p,b.hi<=p.2)/\∀x y,cM (bF rs f p) x y↔cM f x y\/(p.1<=y/\y < p.2/\gU (b9 (aZ rs p.1 p.2)) x):=by
  rcases aDd f with rfl | ⟨g,t,rfl⟩
  ·rw [gC];split
   ·rename_i c;rw [c];exact ⟨hf,by simp,λx y=> by simp [cM,gU]⟩
   ·rename_i c;exact ⟨HH hp c hsep,by simp,λx y=> by simp [cM]⟩
  ·rw [List.concat_eq_append] at*;rw [e8];have htb:=hb t (by simp);split
   ·rename_i c;rw [c];exact ⟨hf,λb hbb=> by have:=hb b hbb;omega,λx y=> by simp [gU]⟩
   ·rename_i c;split
    ·rename_i c2;obtain ⟨c2,c3⟩:=c2;rw [<-c3];refine ⟨sM hf (by omega),λb hbb=> ?_,λx y=> ?_⟩
     ·rcases aCt.mp hbb with z | z
      ·have:=hb b (by simp [z]);omega
      ·simp at z;subst z;simp
     ·rw [iQ,iQ,iP,iP];simp only;have hlt:=hf.lt t (by simp);constructor
      ·rintro (h | h)
       ·exact .inl (.inl h)
       ·by_cases hy:y < t.hi
        ·exact .inl (.inr ⟨h.1,hy,h.2.2⟩)
        ·exact .inr ⟨by omega,h.2.1,h.2.2⟩
      ·rintro ((h | h) | h)
       ·exact .inl h
       ·exact .inr ⟨h.1,by omega,h.2.2⟩
       ·exact .inr ⟨by omega,h.2.1,h.2.2⟩
    ·rename_i c2;refine ⟨DO hf hp c hsep htb c2,λb hbb=> ?_,λx y=> by rw [iQ,iP]⟩;rcases aCt.mp hbb with z | z
     ·have:=hb b z;omega
     ·simp at z;subst z;simp
 refine ⟨goal.1,goal.2.1,λx y=> ?_⟩;rw [goal.2.2 x y,hcov2]
theorem qL {rs:List R4} (hr:∀r∈rs,r.x0 < r.x1):∀(ys:List Int) (f:List Bd),ys.Pairwise (· < ·)->rO f->(∀b∈f,∀y∈ys,b.hi<=y)->
  rO ((ys.zip ys.tail).foldl (bF rs) f)/\∀x y,cM ((ys.zip ys.tail).foldl (bF rs) f) x y↔cM f x y\/∃p∈ys.zip ys.tail,p.1<=y/\y < p.2/\gU (aZ rs p.1 p.2) x
 | [],f,_,hf,_=> by simp;exact hf
 | [a],f,_,hf,_=> by simp;exact hf
 | a::b::ys,f,hs,hf,hb=> by
  have c:=aDb.mp hs;obtain ⟨h1,h2,h3⟩:=EH (p:=(a,b)) hr hf (c.1 b (by simp)) λd hd=> hb d hd a (by simp)
  have ih:=qL hr (b::ys) (bF rs f (a,b)) c.2 h1 λd hd y hy=> by
   have h4:=h2 d hd;simp only at h4;rcases aCv.mp hy with z | z
   ·omega
   ·have:=(aDb.mp c.2).1 y z;omega
  have e:(a::b::ys).zip (a::b::ys).tail=(a,b)::(b::ys).zip (b::ys).tail:=rfl;rw [e];refine ⟨ih.1,λx y=> ?_⟩;rw [List.foldl_cons,ih.2 x y,h3 x y];constructor
  ·rintro ((h | h) | ⟨p,hp,h⟩)
   ·exact .inl h
   ·exact .inr ⟨(a,b),aCq,h⟩
   ·exact .inr ⟨p,aCr _ hp,h⟩
  ·rintro (h | ⟨p,hp,h⟩)
   ·exact .inl (.inl h)
   ·rcases aCv.mp hp with z | z
    ·subst z;exact .inl (.inr h)
    ·exact .inr ⟨p,z,h⟩
theorem between:∀{ys:List Int} {a b y:Int},ys.Pairwise (· < ·)->a∈ys->b∈ys->a<=y->y < b->∃p∈ys.zip ys.tail,p.1<=y/\y < p.2/\a<=p.1/\p.2<=b
 | [],a,b,y,_,h,_,_,_=> by cases h
 | [c],a,b,y,_,ha,hb,h1,h2=> by simp at ha hb;omega
 | c::d::ys,a,b,y,hs,ha,hb,h1,h2=> by
  have cc:=aDb.mp hs;have e:(c::d::ys).zip (c::d::ys).tail=(c,d)::(d::ys).zip (d::ys).tail:=rfl;rw [e];have hcd:=cc.1 d (by simp)
  have dmin:∀z∈d::ys,d<=z:=λz hz=> by
   rcases aCv.mp hz with q | q
   ·omega
   ·have:=(aDb.mp cc.2).1 z q;omega
  have hb2:b∈d::ys:=by
   rcases aCv.mp hb with z | z
   ·exfalso;rcases aCv.mp ha with q | q
    ·omega
    ·have:=cc.1 a q;omega
   ·exact z
  by_cases hy:y < d
  ·have:a=c:=by
    rcases aCv.mp ha with q | q
    ·exact q
    ·have:=dmin a q;omega
   subst this;exact ⟨(a,d),aCq,h1,hy,aE8 _,dmin b hb2⟩
  ·have:∃a' ∈d::ys,a' <=y/\a<=a' :=by
    rcases aCv.mp ha with q | q
    ·exact ⟨d,by simp,by omega,by omega⟩
    ·exact ⟨a,q,h1,aE8 _⟩
   obtain ⟨a',ha',h3,h4⟩:=this;obtain ⟨p,hp,q1,q2,q3,q4⟩:=between cc.2 ha' hb2 h3 h2;exact ⟨p,aCr _ hp,q1,q2,by omega,q4⟩
def R4.has (r:R4) (x y:Int):Prop:=r.x0<=x/\x < r.x1/\r.y0<=y/\y < r.y1
theorem BM {rs:List R4} (hr:∀r∈rs,r.x0 < r.x1/\r.y0 < r.y1):rO (fK rs)/\∀x y,cM (fK rs) x y↔∃r∈rs,r.has x y:=by
 have h:=qL (rs:=rs) (λr h=> (hr r h).1) (d9 rs) [] (gY _) ⟨by simp,by simp,by simp,by simp,λu a b v e=> by cases u <;> simp at e⟩ (by simp);refine ⟨h.1,λx y=> ?_⟩;unfold fK;rw [h.2 x y]
 have my:∀r∈rs,r.y0∈d9 rs/\r.y1∈d9 rs:=λr hr=> by
  unfold d9;rw [jW,jW];exact ⟨aDq _ (aD1.mpr ⟨r,hr,rfl⟩),aD8 _ (aD1.mpr ⟨r,hr,rfl⟩)⟩
 constructor
 ·rintro (⟨b,hb,_⟩ | ⟨p,hp,h1,h2,t,ht,h3⟩)
  ·cases hb
  ·simp only [aZ,List.mem_map,List.mem_filter,Bool.and_eq_true,decide_eq_true_eq] at ht;obtain ⟨r,⟨hrm,h4,h5⟩,rfl⟩:=ht;exact ⟨r,hrm,h3.1,h3.2,by omega,by omega⟩
 ·rintro ⟨r,hrm,h1,h2,h3,h4⟩;obtain ⟨p,hp,q1,q2,q3,q4⟩:=between (gY _) (my r hrm).1 (my r hrm).2 h3 h4;refine .inr ⟨p,hp,q1,q2,(r.x0,r.x1),?_,h1,h2⟩;simp only [aZ,List.mem_map,List.mem_filter,Bool.and_eq_true,decide_eq_true_eq];exact ⟨r,⟨hrm,q3,q4⟩,rfl⟩
end LR
namespace LS
open PySem PyProof.Rows L2 D3
def jD (s0:OA):WS:=(eW (wV (aJ qS (aB (aC 0) (aB (wC (.ty "int")) aI))) (wV (F8 (aJ qS (aB (aC 0) (aB (wC (.ty "bool")) aI)))) (bL oEq (aC 0) (aC 1)))))
def jE (s0:OA):WS:=(bG (gK (qX (aJ qS (aB (aC 1) (aB (wC (.ty "str")) aI)))) (eW (wV (aJ qS (aB (aC 0) (aB (wC (.ty "str")) aI))) (bL oEq (aC 0) (aC 1)))) d5) (jD s0))
def dP (s0:OA):WS:=(bG (gK (qX (aJ qS (aB (aC 1) (aB (gJ (aB (wC (.ty "tuple")) (aB (wC (.ty "list")) aI))) aI)))) (bG (gK (HS (eA (bL N4 (aJ qS (aB (aC 0) (aB (wC (.ty "tuple")) aI))) (aJ qS (aB (aC 1) (aB (wC (.ty "tuple")) aI))))) (eA (bL N4 (aJ qS (aB (aC 0) (aB (wC (.ty "list")) aI))) (aJ qS (aB (aC 1) (aB (wC (.ty "list")) aI)))))) (eW (wC (.bl false))) d5) (bG (gK (eA (bL N4 (aJ gG (aB (aC 0) aI)) (aJ gG (aB (aC 1) aI)))) (eW (wC (.bl false))) d5) (eW (bL oEq (aJ gG (aB (KD ["_law_k"] [0,1] (rZ (aB (aJ gG (aB (aC 1) aI)) aI)) (gN 0) (pP (qX (aJ s0 (aB (bL iC (aC 1) (aC 0)) (aB (bL iC (aC 2) (aC 0)) aI))))) (aC 0)) aI)) (wC (.int 0)))))) d5) (jE s0))
def lC:WS:=(gR (F9 "list" CA (aC 1) (aB (KD ["_law_start","_law_end"] [2,3] (fJ (aC 4)) (gT 2 (bJ (gN 0) (bJ (gN 1) iK))) yP (gJ (aB (aC 0) (aB (aC 2) (aB (aC 1) (aB (aC 3) aI)))))) aI)))
def lW:WS:=(eW (aC 1))
def lX:WS:=(bG (nN (fJ (aC 0)) (gT 3 (bJ (gN 2) (bJ (gN 3) (bJ (gN 4) iK)))) (lC)) (lW))
def gX:WS:=(bG (cS (nM aI) (gN 1)) (lX))
open LR (En)
mutual
def plain:D->Bool
 | .int _=> true
 | .str z=> decide (z.length<=1000)
 | .tup ds=> eP ds && decide (ds.length<=1000000)
 | _=> false
def eP:List D->Bool
 | []=> true
 | d::ds=> plain d && eP ds
end
theorem uS:∀{l:List D},eP l=true↔∀d∈l,plain d=true
 | []=> by simp [eP]
 | a::l=> by simp [eP,uS (l:=l)]
def n5 (n:Nat):OA:=λds mh Q=> Q (.bl true) mh/\((∃d,ds=[d,d]/\plain d=true/\deep d < n)\/∃a b xs,ds=[.ref a,.ref b]/\mh[a]? =some (.lst xs)/\mh[b]? =some (.lst xs)/\eP xs=true/\cW xs+1 < n/\xs.length<=1000000)
theorem pX {n:Nat} {d:D} {mh:MH} {Q:DK} (h1:plain d=true) (h2:deep d < n) (q:Q (.bl true) mh):n5 n [d,d] mh Q:=⟨q,.inl ⟨d,rfl,h1,h2⟩⟩
theorem HD:∀{l:List D} {d:D},d∈l->deep d<=cW l
 | a::l,d,h=> by
  simp only [cW];rcases aCv.mp h with z | z
  ·subst z;omega
  ·have:=HD z;omega
theorem w9 {mh0 mh:MH} {R:DK} {n:Nat} {x y:D} {xs:List D} (ok:nK mh) (hx:bP mh x=some xs) (hp:eP xs=true) (hd:cW xs < n) (hl:xs.length<=1000000)
  (hi:∀i:Int,∀M:MH,∀Q:DK,(∃T,M=mh++T)->(iC x (.int i) M Q↔got (mV xs i) λd=> Q d M)) (hj:∀i:Int,∀M:MH,∀Q:DK,(∃T,M=mh++T)->(iC y (.int i) M Q↔got (mV xs i) λd=> Q d M))
  (hly:∀Q:DK,gG [y] mh Q↔Q (.int xs.length) mh) (q:R (.bl true) mh):
  eW (bL oEq (aJ gG (aB (KD ["_law_k"] [0,1] (rZ (aB (aJ gG (aB (aC 1) aI)) aI)) (gN 0) (pP (qX (aJ (n5 n) (aB (bL iC (aC 1) (aC 0)) (aB (bL iC (aC 2) (aC 0)) aI))))) (aC 0)) aI)) (wC (.int 0))) (En mh R) [some x,some y] mh:=by
 have sz:=aDe;simp [hly];refine ⟨by omega,?_⟩;have er:uQ 0 xs.length=(List.range xs.length).map λk:Nat=> D.int (0+k):=rfl;rw [er];refine vQ (λk:Nat=> D.int (0+k)) (λ_=> false) id (λk:Nat=> D.int (0+k)) _ trivial ?_ ?_
 ·intro k hk N M h1 h2;simp at hk
  have hat:mV xs ((0:Int)+k)=some xs[k]:=by
   have:=iA (xs:=xs) (j:=k) (v:=xs[k]) (by simp [hk]);rw [<-this];congr 1;omega
  simp only [Int.zero_add] at hat;simp [o7];rw [hi _ _ _ ⟨[],by simp⟩,hat];simp;rw [hj _ _ _ ⟨[],by simp⟩,hat];simp;have hm:xs[k]∈xs:=aFe _;refine pX (uS.mp hp _ hm) (by have:=HD hm;omega) ?_;simp [jF];exact h2 rfl
 ·rw [kF (gL _ _)];simp;have e0:(List.range xs.length).filter (λ_=> false)=[]:=by simp
  rw [e0];exact p8 ok (by simp [eE]) q
theorem VJ (n:Nat) (ds:List D) (mh:MH) (R:DK) (ok:nK mh) (hs:n5 (n+1) ds mh R):dP (n5 n) (En mh R) (aQ ["_law_found","_law_due"] ds) mh:=by
 have sz:=aDe;obtain ⟨q,⟨d,rfl,hp,hd⟩ | ⟨a,b,xs,rfl,ha,hb,hp,hd,hl⟩⟩:=hs
 ·cases d with
  | int i=>
   simp [dP,aQ,OO,bW,jF,sO,jE,jD];exact ⟨by omega,eF q⟩
  | str z=>
   simp [dP,aQ,OO,bW,jF,sO,jE,jD];exact ⟨by omega,eF q⟩
  | tup xs=>
   simp only [plain,Bool.and_eq_true,decide_eq_true_eq] at hp;simp only [deep] at hd;simp [dP,aQ,OO,bW,jF,sO];have:=w9 (mh0:=mh) (x:= .tup xs) (y:= .tup xs) (R:=R) (n:=n) ok rfl hp.1 (by omega) hp.2 (λi M Q _=> KU xs i) (λi M Q _=> KU xs i) (λQ=> TH xs) q;refine ⟨by omega,?_⟩;simpa using this
  | _=> simp [plain] at hp
 ·simp [dP,aQ,OO,bW,jF,sO,ha,hb,kF ha,kF hb];have:=w9 (mh0:=mh) (x:= .ref a) (y:= .ref b) (R:=R) (n:=n) ok (bO ha) hp (by omega) hl (λi M Q ⟨T,e⟩=> e7 (by rw [e];exact qJ ha) i) (λi M Q ⟨T,e⟩=> e7 (by rw [e];exact qJ hb) i) (λQ=> kF hb) q;refine ⟨by omega,?_⟩;simpa [kF hb] using this
open LR
def cL (g:List Bd):List R4:=g.flatMap λb=> b.ln.map λs=> ⟨s.1,b.lo,s.2,b.hi⟩
theorem EI {g:List Bd} {n:Nat} (h:∀b∈g,b.ln.length<=n):(cL g).length<=n*g.length:=by
 induction g with
 | nil=> simp [cL]
 | cons b g ih=>
  have:=ih λc hc=> h c (aCr _ hc);have:=h b aCq;simp only [cL,List.flatMap_cons,List.length_append,List.length_map,List.length_cons] at*;rw [Nat.mul_add];omega
def sRo:OA:=λds mh Q=> ∃g,ds=[gD g]/\(cL g).length<=1000000/\Q (.ref mh.length) (mh++[.lst ((cL g).map rD)])
def oQ:OA:=sRo
theorem QY (ds:List D) (mh:MH) (R:DK) (ok:nK mh) (hs:oQ ds mh R):gX (En mh R) (aQ ["_law_some","_law_found","_law_low","_law_high","_law_line_here"] ds) mh:=by
 obtain ⟨g,rfl,hl,q⟩:=hs;have sz:=aDe;simp [gX,lX,aQ,gD,bP];refine dD (λi ρ mh' => cY mh mh' /\mh'[mh.length]? =some (.lst ((cL (g.take i)).map rD))/\∃a b c,ρ=[some (.tup (g.map bD)),some (.ref mh.length),a,b,c]) _ (λ_ _ _ _=> by simp) ?_ ?_ ⟨cY.refl.push _,by simp [cL],_,_,_,rfl⟩
 ·rintro i d ρ mh' N hi ⟨px,gf,a,b,c,rfl⟩ nx;obtain ⟨bd,hb,rfl⟩:=hJ hi;have hil:i < g.length:=(aCn.mp hb).1
  have e1:cL (g.take (i+1))=cL (g.take i)++bd.ln.map λs=> ⟨s.1,bd.lo,s.2,bd.hi⟩:=by
   rw [take_snoc hb];simp [cL]
  have l1:(cL (g.take (i+1))).length<=(cL g).length:=by
   have:cL g=cL (g.take (i+1))++cL (g.drop (i+1)):=by
    unfold cL;rw [<-List.flatMap_append,List.take_append_drop]
   rw [this,List.length_append];omega
  simp [bD,lG,lC,wH,bP];refine ⟨⟨_,gf⟩,nE sD (λs=> (⟨s.1,bd.lo,s.2,bd.hi⟩:R4)) rD bd.ln (by simp) (λs hs N hN=> ?_) ?_⟩
  ·simp [o7,sD];exact ⟨by omega,by simpa [rD] using hN⟩
  ·refine ⟨mh.length,.ref mh'.length,_,_,rfl,rfl,aY gf,bO (gL _ _),?_,?_⟩
   ·rw [e1] at l1;simp at l1⊢;omega
   ·refine nx _ _ ⟨(px.push _).set (aCs _) _,?_,_,_,_,rfl⟩;rw [cB _ (aY gf),e1,List.map_append]
 ·rintro ρ mh' ⟨px,gf,a,b,c,rfl⟩;simp [lW];simp at gf;exact px.UC ok (aCs _) gf (by simp [zB,y4]) q
end LS
namespace LR
open PySem PyProof.Rows L2 D3
theorem mE {a:P2} {f:List P2} (h:Sep (a::f)):Sep f/\a.1 < a.2/\∀t∈f,a.2 < t.1:=
 ⟨⟨λt ht=> h.1 t (aCr _ ht),(aDb.mp h.2).2⟩,h.1 a aCq,(aDb.mp h.2).1⟩
theorem bX {a:P2} {f:List P2} {x:Int}:gU (a::f) x↔(a.1<=x/\x < a.2)\/gU f x:=by
 rw [show a::f=[a]++f from rfl,nD,jA]
theorem AE {x:Int}:¬gU [] x:=λ⟨_,h,_⟩=> by cases h
theorem uK:∀{f g:List P2},Sep f->Sep g->(∀x,gU f x↔gU g x)->f=g
 | [],[],_,_,_=> rfl
 | [],b::g,_,hg,h=> by
  have:=mE hg;exact absurd ((h b.1).mpr (bX.mpr (.inl ⟨aE8 _,this.2.1⟩))) AE
 | a::f,[],hf,_,h=> by
  have:=mE hf;exact absurd ((h a.1).mp (bX.mpr (.inl ⟨aE8 _,this.2.1⟩))) AE
 | a::f,b::g,hf,hg,h=> by
  obtain ⟨f1,f2,f3⟩:=mE hf;obtain ⟨g1,g2,g3⟩:=mE hg
  have e1:b.1<=a.1:=by
   rcases bX.mp ((h a.1).mp (bX.mpr (.inl ⟨aE8 _,f2⟩))) with z | ⟨t,ht,z⟩
   ·exact z.1
   ·have:=g3 t ht;omega
  have e2:a.1<=b.1:=by
   rcases bX.mp ((h b.1).mpr (bX.mpr (.inl ⟨aE8 _,g2⟩))) with z | ⟨t,ht,z⟩
   ·exact z.1
   ·have:=f3 t ht;omega
  have e3:b.2<=a.2:=by
   refine Int.not_lt.mp λhlt=> ?_;rcases bX.mp ((h a.2).mpr (bX.mpr (.inl ⟨by omega,hlt⟩))) with z | ⟨t,ht,z⟩
   ·omega
   ·have:=f3 t ht;omega
  have e4:a.2<=b.2:=by
   refine Int.not_lt.mp λhlt=> ?_;rcases bX.mp ((h b.2).mp (bX.mpr (.inl ⟨by omega,hlt⟩))) with z | ⟨t,ht,z⟩
   ·omega
   ·have:=g3 t ht;omega
  have e:a=b:=Prod.ext (by omega) (by omega);subst e;rw [uK f1 g1 λx=> ⟨λhx=> ?_,λhx=> ?_⟩]
  ·rcases bX.mp ((h x).mp (bX.mpr (.inr hx))) with z | z
   ·obtain ⟨t,ht,q⟩:=hx;have:=f3 t ht;omega
   ·exact z
  ·rcases bX.mp ((h x).mpr (bX.mpr (.inr hx))) with z | z
   ·obtain ⟨t,ht,q⟩:=hx;have:=g3 t ht;omega
   ·exact z
theorem iR {a:Bd} {g:List Bd} (h:rO (a::g)):rO g/\a.lo < a.hi/\a.ln≠[]/\Sep a.ln/\(∀b∈g,a.hi<=b.lo/\b.lo < b.hi)/\∀b v,g=b::v->¬(a.hi=b.lo/\a.ln=b.ln):=by
 obtain ⟨h1,h2,h3,h4,h5⟩:=h;have p:=aDb.mp h4;refine ⟨⟨λb hb=> h1 b (aCr _ hb),λb hb=> h2 b (aCr _ hb),λb hb=> h3 b (aCr _ hb),p.2,λu c d v e=> h5 (a::u) c d v (by rw [e];rfl)⟩,h1 a aCq,h2 a aCq,h3 a aCq,λb hb=> ⟨p.1 b hb,h1 b (aCr _ hb)⟩,λb v e=> h5 [] a b v (by rw [e];rfl)⟩
theorem cD {a:Bd} {g:List Bd} {x y:Int}:cM (a::g) x y↔(a.lo<=y/\y < a.hi/\gU a.ln x)\/cM g x y:=by
 rw [show a::g=[a]++g from rfl,iQ,iP]
theorem DJ {x y:Int}:¬cM [] x y:=λ⟨_,h,_⟩=> by cases h
theorem u6 {f:List P2} (h:f≠[]) (s:Sep f):∃x,gU f x:=by
 cases f with
 | nil=> exact absurd rfl h
 | cons a f=> exact ⟨a.1,bX.mpr (.inl ⟨aE8 _,(mE s).2.1⟩)⟩
theorem kP {a:Bd} {g:List Bd} (h:rO (a::g)) {y:Int} (h1:a.lo<=y) (h2:y < a.hi) (x:Int):cM (a::g) x y↔gU a.ln x:=by
 rw [cD];constructor
 ·rintro (z | ⟨b,hb,z⟩)
  ·exact z.2.2
  ·have:=(iR h).2.2.2.2.1 b hb;omega
 ·exact λz=> .inl ⟨h1,h2,z⟩
theorem R9 {a b:Bd} {g h:List Bd} (hg:rO (a::g)) (hh:rO (b::h)) (e1:a.lo=b.lo) (e2:a.ln=b.ln) (hc:∀x y,cM (a::g) x y↔cM (b::h) x y):b.hi<=a.hi:=by
 refine Int.not_lt.mp λhlt=> ?_;obtain ⟨g1,g2,g3,g4,g5,g6⟩:=iR hg
 have at_:∀x,cM g x a.hi↔gU a.ln x:=λx=> by
  rw [e2,<-kP hh (y:=a.hi) (by omega) hlt x,<-hc,cD];exact ⟨.inr,λz=> z.elim (λz=> by omega) id⟩
 obtain ⟨x,hx⟩:=u6 g3 g4;obtain ⟨c,hcm,c1,c2,c3⟩:=(at_ x).mpr hx
 cases g with
 | nil=> cases hcm
 | cons d g=>
  obtain ⟨k1,k2,k3,k4,k5,k6⟩:=iR g1;have hd:=g5 d aCq
  have hcd:c=d:=by
   rcases aCv.mp hcm with z | z
   ·exact z
   ·have:=k5 c z;omega
  subst hcd;have elo:a.hi=c.lo:=by omega
  refine g6 c g rfl ⟨elo,uK g4 k4 λx=> ?_⟩;rw [<-at_ x];exact kP g1 (by omega) c2 x
theorem DN:∀{g h:List Bd},rO g->rO h->(∀x y,cM g x y↔cM h x y)->g=h
 | [],[],_,_,_=> rfl
 | [],b::h,_,hh,hc=> by
  obtain ⟨_,h2,h3,h4,_⟩:=iR hh;obtain ⟨x,hx⟩:=u6 h3 h4;exact absurd ((hc x b.lo).mpr (cD.mpr (.inl ⟨aE8 _,h2,hx⟩))) DJ
 | a::g,[],hg,_,hc=> by
  obtain ⟨_,h2,h3,h4,_⟩:=iR hg;obtain ⟨x,hx⟩:=u6 h3 h4;exact absurd ((hc x a.lo).mp (cD.mpr (.inl ⟨aE8 _,h2,hx⟩))) DJ
 | a::g,b::h,hg,hh,hc=> by
  obtain ⟨g1,g2,g3,g4,g5,g6⟩:=iR hg;obtain ⟨h1,h2,h3,h4,h5,h6⟩:=iR hh
  have l1:b.lo<=a.lo:=by
   obtain ⟨x,hx⟩:=u6 g3 g4;rcases cD.mp ((hc x a.lo).mp (cD.mpr (.inl ⟨aE8 _,g2,hx⟩))) with z | ⟨c,hcm,z⟩
   ·exact z.1
   ·have:=h5 c hcm;omega
  have l2:a.lo<=b.lo:=by
   obtain ⟨x,hx⟩:=u6 h3 h4;rcases cD.mp ((hc x b.lo).mpr (cD.mpr (.inl ⟨aE8 _,h2,hx⟩))) with z | ⟨c,hcm,z⟩
   ·exact z.1
   ·have:=g5 c hcm;omega
  have elo:a.lo=b.lo:=by omega
  have eln:a.ln=b.ln:=uK g4 h4 λx=> by
   rw [<-kP hg (Int.le_refl _) g2 x,hc,elo,kP hh (Int.le_refl _) h2 x]
  have u1:=R9 hg hh elo eln hc;have u2:=R9 hh hg elo.symm eln.symm λx y=> (hc x y).symm
  have e:a=b:=by
   cases a;cases b;simp only at elo eln u1 u2;simp only [Bd.mk.injEq];exact ⟨elo,by omega,eln⟩
  subst e;rw [DN g1 h1 λx y=> ⟨λhx=> ?_,λhx=> ?_⟩]
  ·rcases cD.mp ((hc x y).mp (cD.mpr (.inr hx))) with z | z
   ·obtain ⟨c,hcm,q⟩:=hx;have:=g5 c hcm;omega
   ·exact z
  ·rcases cD.mp ((hc x y).mpr (cD.mpr (.inr hx))) with z | z
   ·obtain ⟨c,hcm,q⟩:=hx;have:=h5 c hcm;omega
   ·exact z
def bQ (f:List Bd) (b:Bd):List Bd:=
 if b.ln=[] then f else match f.getLast? with
  | some t=> if t.hi=b.lo/\t.ln=b.ln then f.dropLast++[⟨t.lo,b.hi,b.ln⟩] else f++[b]
  | none=> [b]
theorem kL (b:Bd):bQ [] b=if b.ln=[] then [] else [b]:=rfl
theorem jI (f:List Bd) (t b:Bd):bQ (f++[t]) b=if b.ln=[] then f++[t] else if t.hi=b.lo/\t.ln=b.ln then f++[⟨t.lo,b.hi,b.ln⟩] else f++[t]++[b]:=by
 simp [bQ]
theorem CO {f:List Bd} {p:Bd} (hf:rO f) (hp:p.lo < p.hi) (hsep:Sep p.ln) (hb:∀b∈f,b.hi<=p.lo):
  rO (bQ f p)/\(∀b∈bQ f p,b.hi<=p.hi)/\∀x y,cM (bQ f p) x y↔cM f x y\/(p.lo<=y/\y < p.hi/\gU p.ln x):=by
 rcases aDd f with rfl | ⟨g,t,rfl⟩
 ·rw [kL];split
  ·rename_i c;rw [c];exact ⟨hf,by simp,λx y=> by simp [cM,gU]⟩
  ·rename_i c;exact ⟨HH hp c hsep,by simp,λx y=> by simp [cM]⟩
 ·rw [List.concat_eq_append] at*;rw [jI];have htb:=hb t (by simp);split
  ·rename_i c;rw [c];exact ⟨hf,λb hbb=> by have:=hb b hbb;omega,λx y=> by simp [gU]⟩
  ·rename_i c;split
   ·rename_i c2;obtain ⟨c2,c3⟩:=c2;rw [<-c3];refine ⟨sM hf (by omega),λb hbb=> ?_,λx y=> ?_⟩
    ·rcases aCt.mp hbb with z | z
     ·have:=hb b (by simp [z]);omega
     ·simp at z;subst z;simp
    ·rw [iQ,iQ,iP,iP];simp only;have hlt:=hf.lt t (by simp);constructor
     ·rintro (h | h)
      ·exact .inl (.inl h)
      ·by_cases hy:y < t.hi
       ·exact .inl (.inr ⟨h.1,hy,h.2.2⟩)
       ·exact .inr ⟨by omega,h.2.1,h.2.2⟩
     ·rintro ((h | h) | h)
      ·exact .inl h
      ·exact .inr ⟨h.1,by omega,h.2.2⟩
      ·exact .inr ⟨by omega,h.2.1,h.2.2⟩
   ·rename_i c2;refine ⟨DO hf hp c hsep htb c2,λb hbb=> ?_,λx y=> by rw [iQ,iP]⟩;rcases aCt.mp hbb with z | z
    ·have:=hb b z;omega
    ·simp at z;subst z;simp
theorem oD:∀(l f:List Bd),(∀b∈l,b.lo < b.hi/\Sep b.ln)->l.Pairwise (λa b=> a.hi<=b.lo)->rO f->(∀b∈f,∀c∈l,b.hi<=c.lo)->
  rO (l.foldl bQ f)/\∀x y,cM (l.foldl bQ f) x y↔cM f x y\/cM l x y
 | [],f,_,_,hf,_=> ⟨hf,λx y=> by simp [cM]⟩
 | p::l,f,h1,h2,hf,h3=> by
  have c:=aDb.mp h2;obtain ⟨j1,j2,j3⟩:=CO hf (h1 p aCq).1 (h1 p aCq).2 λb hb=> h3 b hb p aCq
  obtain ⟨i1,i2⟩:=oD l (bQ f p) (λb hb=> h1 b (aCr _ hb)) c.2 j1 λb hb d hd=> by
   have:=j2 b hb;have:=c.1 d hd;omega
  refine ⟨i1,λx y=> ?_⟩;rw [List.foldl_cons,i2,j3,cD,or_assoc]
theorem zO (f:List Bd) (b:Bd):(bQ f b).length<=f.length+1:=by
 rcases aDd f with rfl | ⟨g,t,rfl⟩
 ·rw [kL];split <;> simp
 ·rw [List.concat_eq_append,jI];split
  ·simp
  ·split <;> simp
theorem mO:∀(l f:List Bd),(l.foldl bQ f).length<=f.length+l.length
 | [],f=> by simp
 | p::l,f=> by
  have h1:=mO l (bQ f p);have h2:=zO f p;simp only [List.foldl_cons,List.length_cons];omega
def n6:List Int->List P2
 | a::b::r=> (a,b)::n6 r
 | _=> []
def qN (v:Int->Int):List Int->Int->List Int
 | [],_=> []
 | x::r,a=> if decide (a < 1)=decide (a+v x < 1) then qN v r (a+v x) else x::qN v r (a+v x)
theorem qM {v:Int->Int} {y:Int}:∀{ks:List Int} {a:Int},y∈qN v ks a->y∈ks
 | [],a,h=> by simp [qN] at h
 | x::r,a,h=> by
  unfold qN at h;split at h
  ·exact aCr _ (qM h)
  ·rcases aCv.mp h with z | z
   ·exact z▸aCq
   ·exact aCr _ (qM z)
theorem sP {c:Int->Int} {x:Int} {r:List Int} (hn:∀y,x < y->y∉r->c y=c (y - 1)):∀(n:Nat) (y:Int),y=x+n->(∀k∈r,y < k)->c y=c x
 | 0,y,e,_=> by rw [e];simp
 | n+1,y,e,h=> by
  rw [hn y (by omega) λhy=> by have:=h y hy;omega];exact sP hn n (y - 1) (by omega) λk hk=> by have:=h k hk;omega
theorem NF {c v:Int->Int}:∀(ks:List Int) (lo:Int),ks.Pairwise (· < ·)->(∀k∈ks,lo < k)->(∀k∈ks,v k=c k - c (k - 1))->(∀y,lo < y->y∉ks->c y=c (y - 1))->(∃m,∀y,m<=y->c y < 1)->
  (c lo < 1->Sep (n6 (qN v ks (c lo)))/\(∀t∈n6 (qN v ks (c lo)),t.1∈ks)/\∀x,lo<=x->(gU (n6 (qN v ks (c lo))) x↔1<=c x))/\
  (1<=c lo->∀s,(∀k∈ks,s < k)->s<=lo->Sep (n6 (s::qN v ks (c lo)))/\(∀t∈n6 (s::qN v ks (c lo)),s<=t.1)/\(∀x,s<=x->x<=lo->gU (n6 (s::qN v ks (c lo))) x)/\∀x,lo<=x->(gU (n6 (s::qN v ks (c lo))) x↔1<=c x))
 | [],lo,_,_,_,hn,⟨m,hm⟩=> by
  have all:∀x,lo<=x->c x=c lo:=λx hx=> sP hn (x - lo).toNat x (by omega) (by simp);refine ⟨λh=> ⟨⟨by simp [qN,n6],by simp [qN,n6]⟩,by simp [qN,n6],λx hx=> ?_⟩,λh=> ?_⟩
  ·rw [all x hx];simp only [qN,n6];exact ⟨λz=> absurd z AE,λz=> by omega⟩
  ·exfalso;have h1:=hm (max m lo) (by omega);rw [all _ (by omega)] at h1;omega
 | x::r,lo,hs,hlo,hv,hn,hm=> by
  have p:=aDb.mp hs;have hx:=hlo x aCq
  have pre:∀y,lo<=y->y < x->c y=c lo:=λy h1 h2=> sP hn (y - lo).toNat y (by omega) λk hk=> by
   rcases aCv.mp hk with z | z
   ·omega
   ·have:=p.1 k z;omega
  have hvx:c lo+v x=c x:=by
   rw [hv x List.mem_cons_self,pre (x - 1) (by omega) (by omega)];omega
  obtain ⟨ih1,ih2⟩:=NF r x p.2 p.1 (λk hk=> hv k (aCr _ hk)) (λy h1 h2=> hn y (by omega) λhy=> by
   rcases aCv.mp hy with z | z
   ·omega
   ·exact h2 z) hm
  unfold qN;rw [hvx];refine ⟨λh=> ?_,λh s hsk hsl=> ?_⟩
  ·by_cases hd:c x < 1
   ·rw [if_pos (by simp [h,hd])];obtain ⟨a1,a2,a3⟩:=ih1 hd;refine ⟨a1,λt ht=> aCr _ (a2 t ht),λy hy=> ?_⟩;by_cases hxy:x<=y
    ·exact a3 y hxy
    ·rw [pre y hy (by omega)];refine ⟨λ⟨t,ht,z⟩=> ?_,λz=> by omega⟩;have:=p.1 t.1 (a2 t ht);omega
   ·rw [if_neg (by simp [h,hd])];obtain ⟨a1,a2,_,a3⟩:=ih2 (by omega) x p.1 (aE8 _);refine ⟨a1,λt ht=> ?_,λy hy=> ?_⟩
    ·cases e:qN v r (c x) with
     | nil=> rw [e] at ht;simp [n6] at ht
     | cons z l=>
      rw [e] at ht
      have:∀(l:List Int) (t:P2),t∈n6 l->t.1∈l:=by
       intro l
       induction l using n6.induct with
       | case1 a b r ih=>
        intro t ht;simp only [n6,List.mem_cons] at ht;rcases ht with rfl | ht
        ·simp
        ·have:=ih t ht;simp [this]
       | case2 l hl=>
        intro t ht
        cases l with
        | nil=> simp [n6] at ht
        | cons a l=> cases l with
         | nil=> simp [n6] at ht
         | cons b l=> exact absurd rfl (hl a b l)
      have q:=this _ t ht;rw [<-e] at q;rcases aCv.mp q with w | w
      ·rw [w];exact aCq
      ·exact aCr _ (qM w)
    ·by_cases hxy:x<=y
     ·exact a3 y hxy
     ·rw [pre y hy (by omega)];refine ⟨λ⟨t,ht,z⟩=> ?_,λz=> by omega⟩;have:=a2 t ht;omega
  ·by_cases hd:c x < 1
   ·rw [if_neg (by simp [hd];omega)];obtain ⟨a1,a2,a3⟩:=ih1 hd;have hsx:=hsk x aCq;simp only [n6];refine ⟨⟨λt ht=> ?_,aDb.mpr ⟨λt ht=> p.1 t.1 (a2 t ht),a1.2⟩⟩,λt ht=> ?_,?_,λy hy=> ?_⟩
    ·rcases aCv.mp ht with z | z
     ·subst z;exact hsx
     ·exact a1.1 t z
    ·rcases aCv.mp ht with z | z
     ·subst z;exact aE8 _
     ·have:=p.1 t.1 (a2 t z);omega
    ·intro y h1 h2;exact bX.mpr (.inl ⟨h1,by simp only;omega⟩)
    ·rw [bX];by_cases hxy:x<=y
     ·rw [a3 y hxy];exact ⟨λz=> z.elim (λz=> by simp only at z;omega) id,.inr⟩
     ·rw [pre y hy (by omega)];exact ⟨λ_=> h,λ_=> .inl ⟨by simp only;omega,by simp only;omega⟩⟩
   ·rw [if_pos (by simp [hd];omega)];obtain ⟨a1,a2,a4,a3⟩:=ih2 (by omega) s (λk hk=> hsk k (aCr _ hk)) (by omega);refine ⟨a1,a2,λy h1 h2=> a4 y h1 (by omega),λy hy=> ?_⟩;by_cases hxy:x<=y
    ·exact a3 y hxy
    ·rw [pre y hy (by omega)];exact ⟨λ_=> h,λ_=> a4 y (by omega) (by omega)⟩
def nR:WS:=(gK (r6 (qX (aC 1)) (r6 (eA (bL oEq (bL iC (bL iC (aC 1) (v8 jH (wC (.int 1)))) (wC (.int 1))) (aC 2))) (eA (bL oEq (bL iC (bL iC (aC 1) (v8 jH (wC (.int 1)))) (wC (.int 2))) (aC 4))))) (tV (gJ (aB (bL iC (bL iC (aC 1) (v8 jH (wC (.int 1)))) (wC (.int 0))) (aB (aC 3) (aB (aC 4) aI)))) (aC 1) (v8 jH (wC (.int 1)))) (gR (F9 "list" dJ (aC 1) (aB (gJ (aB (aC 2) (aB (aC 3) (aB (aC 4) aI)))) aI))))
def lN:WS:=(bG (gK (pP (qX (aC 4))) SQ d5) (nR))
def tT:WS:=(eW (aJ rN (aB (aC 1) aI)))
def tU:WS:=(bG (nN (fJ (aC 0)) (gT 3 (bJ (gN 2) (bJ (gN 3) (bJ (gN 4) iK)))) (lN)) (tT))
def pJ:WS:=(bG (cS (nM aI) (gN 1)) (tU))
def pI:WS:=(eW (ZQ 2 (aB (KA (aC 0) OL OL (pO (wC (.int 2)))) (aB (KA (aC 0) (pO (wC (.int 1))) OL (pO (wC (.int 2)))) aI))))
def jN:WS:=(gK (eA (bL oEq (bL P9 (aC 0) (aC 5)) (wC (.int 0)))) (KH (aC 0) (aC 5)) d5)
def iG:WS:=(bG (KC (bL mG (KG (aC 0) (aC 5) (wC (.int 0))) (aC 6)) (aC 0) (aC 5)) (jN))
def lP:WS:=(nN (fJ (gJ (aB (gJ (aB (aC 3) (aB (aC 2) aI))) (aB (gJ (aB (aC 4) (aB (v8 jH (aC 2)) aI))) aI)))) (gT 2 (bJ (gN 5) (bJ (gN 6) iK))) (iG))
def iX:WS:=(nN (fJ (aC 1)) (gT 2 (bJ (gN 3) (bJ (gN 4) iK))) (lP))
def iF (s0:OA):WS:=(gK (eA (bL N4 (bL oLt (aC 5) (aC 1)) (bL oLt (aC 3) (aC 1)))) (gR (F9 "list" dJ (aC 2) (aB (aC 4) aI))) d5)
def lO (s0:OA):WS:=(bG (XC 3 (bL P9 (aC 0) (aC 4)) RY) (iF s0))
def pK (s0:OA):WS:=(bG (cS (aC 3) (gN 5)) (lO s0))
def rW (s0:OA):WS:=(eW (aJ s0 (aB (aC 2) aI)))
def rX (s0:OA):WS:=(bG (nN (fJ (aJ vZ (aB (aC 0) aI))) (gN 4) (pK s0)) (rW s0))
def rY (s0:OA):WS:=(bG (cS (wC (.int 0)) (gN 3)) (rX s0))
def mY (s0:OA):WS:=(bG (cS (nM aI) (gN 2)) (rY s0))
def iE (s0 s1 s2:OA):WS:=(gR (F9 "list" dJ (A6 (aC 2) (aC 4) (nM aI)) (aB (gJ (aB (aC 5) (aB (v8 jH (wC (.int 1))) aI))) aI)))
def pG (s0 s1 s2:OA):WS:=(bG (gR (F9 "list" dJ (A6 (aC 2) (aC 3) (nM aI)) (aB (gJ (aB (aC 5) (aB (wC (.int 1)) aI))) aI))) (iE s0 s1 s2))
def pF (s0 s1 s2:OA):WS:=(gR (aJ s0 (aB (aC 7) (aB (aC 5) (aB (aC 10) aI)))))
def lM (s0 s1 s2:OA):WS:=(gR (F9 "list" dJ (aC 8) (aB (aJ s1 (aB (aC 7) (aB (aC 1) aI))) aI)))
def j6 (s0 s1 s2:OA):WS:=(bG (nN (fJ (bL P9 (aC 2) (aC 9))) (gT 2 (bJ (gN 5) (bJ (gN 10) iK))) (pF s0 s1 s2)) (lM s0 s1 s2))
def rP (s0 s1 s2:OA):WS:=(eW (aJ s2 (aB (ZT 3 (aB (aC 6) (aB (ZS YN (aC 6) (pO (wC (.int 1))) OL) (aB (aC 8) aI)))) aI)))
def rQ (s0 s1 s2:OA):WS:=(bG (nN (fJ (aC 6)) (gN 9) (j6 s0 s1 s2)) (rP s0 s1 s2))
def rR (s0 s1 s2:OA):WS:=(bG (cS (nM aI) (gN 8)) (rQ s0 s1 s2))
def rS (s0 s1 s2:OA):WS:=(bG (cS (ON false) (gN 7)) (rR s0 s1 s2))
def rT (s0 s1 s2:OA):WS:=(bG (cS (aJ vZ (aB (aC 2) aI)) (gN 6)) (rS s0 s1 s2))
def rV (s0 s1 s2:OA):WS:=(bG (nN (fJ (aC 0)) (gT 3 (bJ (gN 3) (bJ (gN 4) (bJ (gN 5) iK)))) (pG s0 s1 s2)) (rT s0 s1 s2))
def mX (s0 s1 s2:OA):WS:=(bG (cS (ON false) (gN 2)) (rV s0 s1 s2))
def pH (s0:OA):WS:=(eW (aJ (dfl 1 s0) (aB (KD ["x0","y0","x1","y1"] [] (fJ (aC 0)) (gT 4 (bJ (gN 0) (bJ (gN 1) (bJ (gN 2) (bJ (gN 3) iK))))) yP (gJ (aB (aC 1) (aB (aC 3) (aB (gJ (aB (gJ (aB (aC 0) (aB (aC 2) aI))) aI)) aI))))) aI)))
def kH:OA:=λds mh Q=> ∃(n:Nat) (L:List Bd),ds=[.ref n]/\mh[n]? =some (.lst (L.map bD))/\L.length<=4000/\Q (gD (L.foldl bQ [])) mh
theorem IX {mh:MH} {n:Nat} {L:List Bd} {Q:DK} (h:mh[n]? =some (.lst (L.map bD))) (hl:L.length<=4000) (q:Q (gD (L.foldl bQ [])) mh):kH [.ref n] mh Q:=⟨n,L,rfl,h,hl,q⟩
theorem QZ {mh mh' :MH} {E:fN} {n fa:Nat} {b:Bd} {f:List Bd} (px:cY mh mh') (hf:mh'[fa]? =some (.lst (f.map bD))) (hfa:mh.length<=fa) (hfl:f.length<=4000)
  (nx:∀a2 a3 a4 M,cY mh M->M[fa]? =some (.lst ((bQ f b).map bD))->(∀k,k≠fa->M[k]? =mh'[k]?)->E.nx [some (.ref n),some (.ref fa),a2,a3,a4] M/\E.ct [some (.ref n),some (.ref fa),a2,a3,a4] M):
  lN E [some (.ref n),some (.ref fa),some (.int b.lo),some (.int b.hi),some (lG b.ln)] mh' :=by
 have sz:=aDe;have keep:=pV hf;have hlb:=mT b.ln;have nx1:=λa2 a3 a4=> nx a2 a3 a4 (mh'.set fa (.lst ((bQ f b).map bD))) (px.set hfa _) (cB _ hf) (λk hk=> by rw [List.getElem?_set_ne (Ne.symm hk)]);obtain ⟨lo,hi,ln⟩:=b;simp only at hlb⊢;simp [lN,nR,lG,jF];rcases aDd f with rfl | ⟨g,t,rfl⟩
 ·simp only [kL] at nx1;by_cases c:ln=[]
  ·subst c;simp at nx1⊢;simp at keep;rw [keep] at nx1;exact (nx1 _ _ _).2
  ·simp [c,hf] at nx1⊢;rw [eO hf];exact ⟨by simp [wH,hf],by omega,by simp;omega,by simpa [bD,lG] using (nx1 _ _ _).1⟩
 ·rw [List.concat_eq_append] at*;have hix:mV ((g++[t]).map bD) (-1)=some (.tup [.int t.lo,.int t.hi,.tup (t.ln.map sD)]):=by rw [List.map_append];exact tE _ _
  simp only [jI] at nx1;by_cases c:ln=[]
  ·subst c;simp at nx1⊢;simp at keep;rw [keep] at nx1;exact (nx1 _ _ _).2
  ·have hb3:=mT t.ln;simp [c,hf] at nx1⊢;rw [e7 hf,hix];simp [mU,DT];by_cases c1:t.hi=lo
   ·simp [c1] at nx1⊢;rw [e7 hf,hix];simp [mU,DT];refine ⟨hb3.1,hlb.1,by omega,?_⟩;rw [zW];by_cases c2:t.ln=ln
    ·simp [c2] at nx1⊢;rw [e7 hf,hix];simp [mU,DT];rw [uN hf];simp only [List.length_map,List.length_append,List.length_cons,List.length_nil,Nat.zero_add,vH,cF];have:=(nx1 (some (.int lo)) (some (.int hi)) (some (.tup (ln.map sD)))).1;refine ⟨by omega,?_⟩;simpa [bD,lG] using this
    ·simp [c2] at nx1⊢;rw [eO hf];refine ⟨by simp [wH,hf],by omega,by simp at hfl⊢;omega,?_⟩;have:=(nx1 (some (.int lo)) (some (.int hi)) (some (.tup (ln.map sD)))).1;simpa [bD,lG] using this
   ·simp [c1] at nx1⊢;rw [eO hf];refine ⟨by simp [wH,hf],by omega,by simp at hfl⊢;omega,?_⟩;have:=(nx1 (some (.int lo)) (some (.int hi)) (some (.tup (ln.map sD)))).1;simpa [bD,lG] using this
theorem MW (ds:List D) (mh:MH) (R:DK) (ok:nK mh) (hs:kH ds mh R):pJ (En mh R) (aQ ["bands","kept","y0","y1","stretches"] ds) mh:=by
 obtain ⟨n,L,rfl,hn,hl,q⟩:=hs;have sz:=aDe;have hnl:n < mh.length:=fV hn;simp [pJ,tU,aQ];rw [bO (aY hn)];simp only [cF];refine dD (λi ρ mh' => (∃a b c,ρ=[some (.ref n),some (.ref mh.length),a,b,c])/\cY mh mh' /\mh'[n]? =some (.lst (L.map bD))/\mh'[mh.length]? =some (.lst (((L.take i).foldl bQ []).map bD))) _ ?_ ?_ ?_ ⟨⟨_,_,_,rfl⟩,⟨_,rfl⟩,aY hn,by simp⟩
 ·rintro i ρ mh' ⟨_,_,a1,_⟩;exact bO a1
 ·rintro i d ρ mh' N hi ⟨⟨a,b,c,rfl⟩,px3,a1,a3⟩ nx;obtain ⟨p,hp,rfl⟩:=hJ hi;have hil:i < L.length:=(aCn.mp hp).1;have hfl:=mO (L.take i) [];simp [bD];refine QZ px3 a3 (aCs _) (by simp at hfl⊢;omega) λa2 a3' a4 M px4 g1 g2=> ?_;have:N [some (.ref n),some (.ref mh.length),a2,a3',a4] M:=nx _ _ ⟨⟨_,_,_,rfl⟩,px4,by rw [g2 n (by omega)];exact a1,by rw [g1,take_snoc hp];simp⟩;exact ⟨this,this⟩
 ·rintro ρ mh' ⟨⟨a,b,c,rfl⟩,px3,a1,a3⟩;simp at a3;simp [tT];rw [bO a3];exact px3.out ok (p7 _ _) q
theorem y6:∀l:List Int,(aN [(mR l).map D.int,(uY l).map D.int]).map D.tup=(n6 l).map sD
 | []=> rfl
 | [a]=> by simp [mR,uY,aN,n6]
 | a::b::r=> by
  have ih:=y6 r;simp only [aN] at ih⊢;simp only [mR,uY,List.map_cons,List.zipWith_cons_cons,n6,ih];rfl
theorem y8:∀l:List Int,(n6 l).length<=l.length
 | []=> by simp [n6]
 | [a]=> by simp [n6]
 | a::b::r=> by have:=y8 r;simp only [n6,List.length_cons];omega
theorem q5 {α β:Type} (f:α->β) (xs:List α) (lo hi st:Option Int):gE (xs.map f) lo hi st=(gE xs lo hi st).map f:=by
 unfold gE;rw [List.length_map,List.map_filterMap];congr 1;funext i;simp
def pY:OA:=λds mh Q=> ∃(n:Nat) (l:List Int),ds=[.ref n]/\mh[n]? =some (.lst (l.map .int))/\l.length<=1000000/\Q (lG (n6 l)) mh
theorem MU (ds:List D) (mh:MH) (R:DK) (ok:nK mh) (hs:pY ds mh R):pI (En mh R) (aQ ["edges"] ds) mh:=by
 obtain ⟨n,l,rfl,hn,hl,q⟩:=hs;have sz:=aDe;simp [pI,aQ];refine ⟨l.map .int,vB hn,?_⟩;rw [q5,EL];refine ⟨l.map .int,vB (aY hn),?_⟩;rw [q5,IE];refine ⟨[(mR l).map .int,(uY l).map .int],?_,?_,?_⟩
 ·simp [lD,bP]
 ·have:=aE0 List.length (y6 l);have h2:=y8 l;simp only [List.length_map] at this;omega
 ·rw [y6]
  have:cY mh (mh++[MO.lst ((mR l).map .int),MO.lst ((uY l).map .int)]):=⟨_,rfl⟩
  exact this.out ok (by simp [eE,p6]) q
structure lL (xs:List Int) (kvs:List (D×D)) (δ:Int->Int):Prop where
 key:∀p∈kvs,∃x∈xs,p.1= .int x
 nd:(kvs.map (·.1)).Nodup
 val:∀x,bR kvs (.int x)=if δ x=0 then none else some (.int (δ x))
theorem jQ {k:D}:∀{kvs:List (D×D)},bR kvs k=none↔∀p∈kvs,p.1≠k
 | []=> by simp [bR]
 | p::kvs=> by
  simp only [bR];by_cases h:p.1=k
  ·simp [h]
  ·simp [h,jQ (kvs:=kvs)]
theorem v9 (k:D) (kvs:List (D×D)):bR (dS kvs k) k=none:=jQ.mpr λp hp=> by
 have:=(aFl.mp hp).2;simpa using this
theorem r8 {k j:D} (hj:j≠k):∀(kvs:List (D×D)),bR (dS kvs k) j=bR kvs j
 | []=> rfl
 | p::kvs=> by
  have ih:=r8 hj kvs;by_cases h:p.1=k
  ·have e:dS (p::kvs) k=dS kvs k:=by unfold dS;rw [List.filter_cons_of_neg (by simp [h])]
   have:¬p.1=j:=λz=> hj (by rw [<-z,h]);rw [e,ih];simp [bR,this]
  ·have e:dS (p::kvs) k=p::dS kvs k:=by unfold dS;rw [List.filter_cons_of_pos (by simp [h])]
   rw [e];simp only [bR,ih]
theorem zF:∀(l m:List Int),l.Nodup->(∀x∈l,x∈m)->l.length<=m.length
 | [],m,_,_=> by simp
 | a::l,m,nd,h=> by
  have c:=aEt.mp nd;have hm:=h a aCq;have:=zF l (m.erase a) c.2 λx hx=> (List.mem_erase_of_ne (λz:x=a=> c.1 (by rw [<-z];exact hx))).mpr (h x (aCr _ hx));rw [List.length_erase_of_mem hm] at this;have:=List.length_pos_of_mem hm;simp only [List.length_cons];omega
theorem lL.keys {xs:List Int} {kvs:List (D×D)} {δ:Int->Int} (h:lL xs kvs δ):∃is:List Int,kvs.map (·.1)=is.map D.int/\is.Nodup/\(∀x∈is,x∈xs)/\∀x,x∈is↔δ x≠0:=by
 obtain ⟨is,e,hm⟩:∃is:List Int,kvs.map (·.1)=is.map D.int/\∀x∈is,x∈xs:=by
  have:=h.key;clear h
  induction kvs with
  | nil=> exact ⟨[],rfl,by simp⟩
  | cons p kvs ih=>
   obtain ⟨x,hx,e⟩:=this p aCq;obtain ⟨is,e2,h2⟩:=ih λq hq=> this q (aCr _ hq)
   exact ⟨x::is,by simp [e,e2],λy hy=> by
    rcases aCv.mp hy with z | z
    ·rw [z];exact hx
    ·exact h2 y z⟩
 have nd:is.Nodup:=by
  have:=h.nd;rw [e] at this;rw [List.nodup_iff_pairwise_ne] at this⊢;rw [List.pairwise_map] at this;exact this.imp λh z=> h (by rw [z])
 refine ⟨is,e,nd,hm,λx=> ?_⟩;have hv:=h.val x;constructor
 ·intro hx h0;rw [if_pos h0] at hv;have hx' :D.int x∈kvs.map (·.1):=by rw [e];exact aDn hx
  obtain ⟨p,hp,ep⟩:=aD1.mp hx';exact jQ.mp hv p hp ep
 ·intro h0;by_cases hx:x∈is
  ·exact hx
  ·exfalso;rw [if_neg h0] at hv
   have:bR kvs (.int x)=none:=jQ.mpr λp hp z=> by
    have:D.int x∈is.map D.int:=by rw [<-e,<-z];exact aDn hp
    obtain ⟨y,hy,ey⟩:=aD1.mp this;cases ey;exact hx hy
   rw [this] at hv;cases hv
theorem lL.len {xs:List Int} {kvs:List (D×D)} {δ:Int->Int} (h:lL xs kvs δ):kvs.length<=xs.length:=by
 obtain ⟨is,e,nd,hm,_⟩:=h.keys;have:=zF is xs nd hm;have:=aE0 List.length e;simp at this;omega
theorem xE {kvs:List (D×D)} (h:(kvs.map (·.1)).Nodup) (k v:D):((putD kvs k v).map (·.1)).Nodup:=by
 rw [IC];split
 ·exact h
 ·rename_i hk;rw [List.nodup_append];refine ⟨h,by simp,λa ha b hb=> ?_⟩;simp at hb;subst hb;obtain ⟨p,hp,rfl⟩:=aD1.mp ha;exact λz=> hk ⟨p,hp,z⟩
theorem NG {kvs:List (D×D)} {k:D} {p:D×D} (h:p∈dS kvs k):p∈kvs:=(aFl.mp h).1
theorem FJ {kvs:List (D×D)} (h:(kvs.map (·.1)).Nodup) (k:D):((dS kvs k).map (·.1)).Nodup:=(List.filter_sublist.map _).nodup h
noncomputable def stepK (kvs:List (D×D)) (x v:Int):List (D×D):=if v=0 then dS (putD kvs (.int x) (.int v)) (.int x) else putD kvs (.int x) (.int v)
theorem lL.step {xs:List Int} {kvs:List (D×D)} {δ:Int->Int} (h:lL xs kvs δ) {x:Int} (hx:x∈xs) (m:Int):lL xs (stepK kvs x (δ x+m)) (λy=> δ y+if y=x then m else 0):=by
 have kp:∀p∈putD kvs (.int x) (.int (δ x+m)),∃y∈xs,p.1= .int y:=λp hp=> by
  rcases BO hp with z | z
  ·exact h.key p z
  ·exact ⟨x,hx,z.1⟩
 have np:=xE h.nd (.int x) (.int (δ x+m))
 have vp:∀y,bR (putD kvs (.int x) (.int (δ x+m))) (.int y)=if y=x then some (.int (δ x+m)) else if δ y=0 then none else some (.int (δ y)):=λy=> by
  by_cases e:y=x
  ·subst e;simp [kA]
  ·rw [tY _ _ (by simpa using e),h.val y];simp [e]
 unfold stepK;split
 ·rename_i h0;refine ⟨λp hp=> kp p (NG hp),FJ np _,λy=> ?_⟩;by_cases e:y=x
  ·subst e;rw [v9];simp [h0]
  ·rw [r8 (by simpa using e),vp];simp [e]
 ·rename_i h0;refine ⟨kp,np,λy=> ?_⟩;rw [vp];by_cases e:y=x
  ·subst e;simp [h0]
  ·simp [e]
def n9 (ln:List P2) (x:Int):Int:=(ln.map λt=> (if t.1<=x then 1 else 0) - (if t.2<=x then (1:Int) else 0)).sum
theorem vC (t:P2) (ln:List P2) (x:Int):n9 (t::ln) x=(if t.1<=x then 1 else 0) - (if t.2<=x then (1:Int) else 0)+n9 ln x:=by simp [n9]
def EE:OA:=λds mh Q=> ∃(n:Nat) (kvs:List (D×D)) (ln:List P2) (m:Int) (xs:List Int) (δ:Int->Int),ds=[.ref n,lG ln,.int m]/\mh[n]? =some (.dic false kvs)/\lL xs kvs δ/\xs.length < 4000/\ln.length<=1000000/\(∀t∈ln,t.1∈xs/\t.2∈xs)/\
 ∀kvs',lL xs kvs' (λx=> δ x+m*(n9 ln x - n9 ln (x - 1)))->Q .cN (mh.set n (.dic false kvs'))
theorem V7 {mh:MH} {n:Nat} {kvs:List (D×D)} {ln:List P2} {m:Int} {xs:List Int} {δ:Int->Int} {Q:DK} (h1:mh[n]? =some (.dic false kvs)) (h2:lL xs kvs δ) (h3:xs.length < 4000) (h4:ln.length<=1000000) (h5:∀t∈ln,t.1∈xs/\t.2∈xs)
  (q:∀kvs',lL xs kvs' (λx=> δ x+m*(n9 ln x - n9 ln (x - 1)))->Q .cN (mh.set n (.dic false kvs'))):EE [.ref n,lG ln,.int m] mh Q:=⟨n,kvs,ln,m,xs,δ,rfl,h1,h2,h3,h4,h5,q⟩
theorem MY {E:fN} {mh:MH} {n:Nat} {kvs:List (D×D)} {xs:List Int} {δ:Int->Int} {x m:Int} {a1 a2 a3 a4:Option D} (h1:mh[n]? =some (.dic false kvs)) (h2:lL xs kvs δ) (h3:xs.length < 4000) (hx:x∈xs)
  (q:∀kvs',lL xs kvs' (λy=> δ y+if y=x then m else 0)->E.nx [some (.ref n),a1,a2,a3,a4,some (.int x),some (.int m)] (mh.set n (.dic false kvs'))):
  iG E [some (.ref n),a1,a2,a3,a4,some (.int x),some (.int m)] mh:=by
 have sz:=aDe;have hl:=h2.len;simp [iG];refine ⟨⟨_,h1⟩,kvs,h1,⟨.inl x,rfl⟩,?_⟩
 have ev:(bR kvs (.int x)).getD (.int 0)= .int (δ x):=by
  rw [h2.val x];by_cases h0:δ x=0
  ·simp [h0]
  ·simp [h0]
 rw [ev];simp;refine ⟨n,kvs,.inl x,rfl,h1,rfl,by omega,?_⟩;have g1:=cB (.dic false (putD kvs (.int x) (.int (δ x+m)))) h1;simp [jN];refine ⟨n,_,.inl x,_,rfl,g1,rfl,kA _ _ _,?_⟩;simp;have st:=h2.step hx m;by_cases h0:δ x+m=0
 ·simp [h0];rw [h0] at g1;refine ⟨_,g1,⟨.inl x,rfl⟩,by rw [kA];rfl,?_⟩;unfold stepK at st;rw [if_pos h0,h0] at st;exact q _ st
 ·simp [h0];unfold stepK at st;rw [if_neg h0] at st;exact q _ st
theorem Y6 (ds:List D) (mh:MH) (R:DK) (ok:nK mh) (hs:EE ds mh R):iX (En mh R) (aQ ["steps","stretches","more","x0","x1","x","change"] ds) mh:=by
 obtain ⟨n,kvs,ln,m,xs,δ,rfl,h1,h2,h3,h4,h5,q⟩:=hs;have sz:=aDe;simp [iX,aQ,lG];refine dD (λi ρ mh' => (∃a b c d,ρ=[some (.ref n),some (.tup (ln.map sD)),some (.int m),a,b,c,d])/\∃kvs',mh' =mh.set n (.dic false kvs')/\lL xs kvs' (λx=> δ x+m*(n9 (ln.take i) x - n9 (ln.take i) (x - 1)))) _ ?_ ?_ ?_ ⟨⟨_,_,_,_,rfl⟩,kvs,(pV h1).symm,by simpa [n9] using h2⟩
 ·intros;rfl
 ·rintro i d ρ mh' N hi ⟨⟨a,b,c,d',rfl⟩,kvs',rfl,st⟩ nx;obtain ⟨t,ht,rfl⟩:=hJ hi;have htm:=h5 t (aCz ht);simp [sD,lP];refine ⟨by omega,?_⟩;show lF _ _ _ _ _ _ _;have g1:(mh.set n (.dic false kvs'))[n]? =some (.dic false kvs'):=cB _ h1;simp only [lF];refine ⟨rfl,?_⟩;simp;refine MY g1 st h3 htm.1 λkvs2 st2=> ?_;refine ⟨rfl,?_⟩;simp;refine MY (cB _ h1) st2 h3 htm.2 λkvs3 st3=> ?_;refine ⟨rfl,?_⟩;simp;refine nx _ _ ⟨⟨_,_,_,_,rfl⟩,kvs3,rfl,?_⟩;rw [take_snoc ht]
  have e:(λx=> δ x+m*(n9 (ln.take i++[t]) x - n9 (ln.take i++[t]) (x - 1)))=λy=> δ y+m*(n9 (ln.take i) y - n9 (ln.take i) (y - 1))+(if y=t.1 then m else 0)+if y=t.2 then -m else 0:=by
   funext y;have e2:∀y,n9 (ln.take i++[t]) y=n9 (ln.take i) y+((if t.1<=y then 1 else 0) - (if t.2<=y then (1:Int) else 0)):=λy=> by simp [n9]
   rw [e2,e2]
   have e3:∀z:Int,(if z<=y then 1 else 0) - (if z<=y - 1 then (1:Int) else 0)=if y=z then 1 else 0:=λz=> by
    by_cases c1:z<=y - 1
    ·simp [c1,show z<=y by omega,show ¬y=z by omega]
    ·by_cases c2:z<=y
     ·rw [if_pos c2,if_neg c1,if_pos (by omega)];rfl
     ·simp [c1,c2,show ¬y=z by omega]
   have a1:=e3 t.1;have a2:=e3 t.2;have:n9 (ln.take i) y+((if t.1<=y then 1 else 0) - (if t.2<=y then (1:Int) else 0)) - (n9 (ln.take i) (y - 1)+((if t.1<=y - 1 then 1 else 0) - (if t.2<=y - 1 then (1:Int) else 0)))=n9 (ln.take i) y - n9 (ln.take i) (y - 1)+(if y=t.1 then 1 else 0) - (if y=t.2 then 1 else 0):=by omega
   rw [this,Int.mul_sub,Int.mul_add]
   have m1:m*(if y=t.1 then (1:Int) else 0)=if y=t.1 then m else 0:=by split <;> simp
   have m2:m*(if y=t.2 then (1:Int) else 0)=if y=t.2 then m else 0:=by split <;> simp
   rw [m1,m2];split <;> split <;> omega
  rw [e];exact st3
 ·rintro ρ mh' ⟨⟨a,b,c,d',rfl⟩,kvs',rfl,st⟩;simp only [List.length_map,List.take_length] at st;exact eF (q kvs' st)
def uP:OA:=λds mh Q=> ∃(n:Nat) (kvs:List (D×D)) (xs:List Int) (c:Int->Int),ds=[.ref n,.int 1]/\mh[n]? =some (.dic false kvs)/\lL xs kvs (λx=> c x - c (x - 1))/\xs.length < 4000/\(∃m,∀y,y<=m->c y=0)/\(∃m,∀y,m<=y->c y < 1)/\
 ∀f:List P2,Sep f->(∀x,gU f x↔1<=c x)->(∀t∈f,t.1∈xs/\t.2∈xs)->f.length<=xs.length->Q (lG f) mh
theorem Q3 {mh:MH} {n:Nat} {kvs:List (D×D)} {xs:List Int} {c:Int->Int} {Q:DK} (h1:mh[n]? =some (.dic false kvs)) (h2:lL xs kvs (λx=> c x - c (x - 1))) (h3:xs.length < 4000) (h4:∃m,∀y,y<=m->c y=0) (h5:∃m,∀y,m<=y->c y < 1)
  (q:∀f:List P2,Sep f->(∀x,gU f x↔1<=c x)->(∀t∈f,t.1∈xs/\t.2∈xs)->f.length<=xs.length->Q (lG f) mh):uP [.ref n,.int 1] mh Q:=⟨n,kvs,xs,c,rfl,h1,h2,h3,h4,h5,q⟩
theorem DA (v:Int->Int):∀(l:List Int) (x a:Int),qN v (l++[x]) a=qN v l a++(if decide (a+(l.map v).sum < 1)=decide (a+(l.map v).sum+v x < 1) then [] else [x])
 | [],x,a=> by simp [qN]
 | y::l,x,a=> by
  have ih:=DA v l x (a+v y);have e:a+v y+(l.map v).sum=a+((y::l).map v).sum:=by simp;omega
  rw [e] at ih;simp only [List.cons_append,qN];split
  ·exact ih
  ·rw [ih];rfl
theorem zY (v:Int->Int):∀(l:List Int) (a:Int),(qN v l a).length<=l.length
 | [],a=> by simp [qN]
 | x::l,a=> by
  have:=zY v l (a+v x);simp only [qN];split <;> simp <;> omega
theorem PK:∀(l:List Int) (t:P2),t∈n6 l->t.1∈l/\t.2∈l:=by
 intro l
 induction l using n6.induct with
 | case1 a b r ih=>
  intro t ht;simp only [n6,List.mem_cons] at ht;rcases ht with rfl | ht
  ·simp
  ·have:=ih t ht;simp [this.1,this.2]
 | case2 l hl=>
  intro t ht
  cases l with
  | nil=> simp [n6] at ht
  | cons a l=> cases l with
   | nil=> simp [n6] at ht
   | cons b l=> exact absurd rfl (hl a b l)
theorem UR (a b:Int):lx (enc (.int b)) (enc (.int a))=false↔a<=b:=by
 simp only [enc,kO,lx];by_cases hb:b < a
 ·simp [hb]
 ·by_cases ha:a < b
  ·simp [hb,ha];omega
  ·have:a=b:=by omega
   subst this;simp
theorem xI {fs:List D} {is:List Int} (p:fs.Perm (is.map D.int)) (s:fs.Pairwise (λd e=> lx (enc e) (enc d)=false)) (nd:is.Nodup):∃js:List Int,fs=js.map D.int/\js.Perm is/\js.Pairwise (· < ·):=by
 obtain ⟨js,p1,rfl⟩:=jV D.int p is rfl;refine ⟨js,rfl,p1,?_⟩;rw [List.pairwise_map] at s;have nj:=p1.symm.nodup nd;rw [List.nodup_iff_pairwise_ne] at nj
 exact (s.and nj).imp λ{a b} h=> by
  have:=(UR a b).mp h.1;have:=h.2;omega
theorem VN (ds:List D) (mh:MH) (R:DK) (ok:nK mh) (hs:uP ds mh R):mY pY (En mh R) (aQ ["steps","least","edges","deep","x","ahead"] ds) mh:=by
 obtain ⟨n,kvs,xs,c,rfl,h1,h2,h3,⟨m0,hm0⟩,hm1,q⟩:=hs;have sz:=aDe;have hnl:=fV h1;obtain ⟨is,ek,nd,hsub,hmem⟩:=h2.keys;have hlen:=zF is xs nd hsub;simp [mY,rY,rX,aQ];refine ⟨n,false,kvs,rfl,aY h1,?_,?_,λfs p s=> ?_⟩
 ·have:=h2.len;omega
 ·rw [ek];exact t8 _
 rw [ek] at p;obtain ⟨js,rfl,pj,srt⟩:=xI p s nd;have hjl:=pj.length_eq;have g1:(mh++[MO.lst []]++[.lst (js.map .int)])[n]? =some (.dic false kvs):=aY (aY h1);have g2:(mh++[MO.lst []]++[.lst (js.map .int)])[mh.length]? =some (.lst []):=aY (gL _ _);have g3:(mh++[MO.lst []]++[.lst (js.map .int)])[mh.length+1]? =some (.lst (js.map .int)):=by simp
 have px:cY mh (mh++[MO.lst []]++[.lst (js.map .int)]):=(cY.refl.push _).push _;have e3:(mh++[MO.lst ([]:List D)]).length=mh.length+1:=by simp
 rw [e3];generalize mh++[MO.lst []]++[.lst (js.map .int)]=M at g1 g2 g3 px⊢;rw [bO g3];simp only [cF];generalize hv:(λx=> c x - c (x - 1))=v at h2 hmem;have hv' :∀x,v x=c x - c (x - 1):=λx=> by rw [<-hv]
 refine dD (λi ρ M' => (∃a b,ρ=[some (.ref n),some (.int 1),some (.ref mh.length),some (.int (((js.take i).map v).sum)),a,b])/\cY mh M' /\M'[n]? =some (.dic false kvs)/\M'[mh.length+1]? =some (.lst (js.map .int))/\M'[mh.length]? =some (.lst ((qN v (js.take i) 0).map .int))) _ ?_ ?_ ?_ ⟨⟨_,_,rfl⟩,px,g1,g3,by simpa [qN] using g2⟩
 ·rintro i ρ M' ⟨_,_,_,a3,_⟩;exact bO a3
 ·rintro i d ρ M' N hi ⟨⟨a,b,rfl⟩,px2,a1,a2,a3⟩ nx;obtain ⟨x,hx,rfl⟩:=hJ hi;have hil:i < js.length:=(aCn.mp hx).1;have hxm:v x≠0:=by rw [hv'];exact (hmem x).mp (pj.mem_iff.mp (aCz hx))
  have hval:bR kvs (.int x)=some (.int (v x)):=by rw [h2.val x,if_neg hxm]
  have el:=zY v (js.take i) 0;have es:=DA v (js.take i) x 0;rw [<-take_snoc hx] at es;have esum:((js.take (i+1)).map v).sum=((js.take i).map v).sum+v x:=by rw [take_snoc hx];simp
  simp only [Int.zero_add] at es;generalize ((js.take i).map v).sum=a0 at es esum⊢;simp [pK,lO];refine ⟨.int a0,rfl,?_⟩;simp;refine ⟨n,kvs,.inl x,_,rfl,a1,rfl,hval,?_⟩;show iF pY _ [some (.ref n),some (.int 1),some (.ref mh.length),some (.int (a0+v x)),some (.int x),some (.int a0)] M';simp [iF];by_cases cc:decide (a0 < 1)=decide (a0+v x < 1)
  ·rw [if_pos cc,List.append_nil] at es;have:∀a b,N [some (.ref n),some (.int 1),some (.ref mh.length),some (.int (a0+v x)),a,b] M' :=λa b=> nx _ _ ⟨⟨_,_,by rw [esum]⟩,px2,a1,a2,by rw [es];exact a3⟩;rw [if_pos (decide_eq_decide.mp cc)];exact this _ _
  ·rw [if_neg cc] at es;rw [if_neg (λh=> cc (decide_eq_decide.mpr h))];rw [eO a3];have hlt:=fV a3;refine ⟨⟨rfl,_,a3⟩,by simp at el⊢;omega,nx _ _ ⟨⟨_,_,by rw [esum]⟩,px2.set (aCs _) _,get_set a1 (by omega),get_set a2 (by omega),?_⟩⟩;rw [cB _ a3,es];simp
 ·rintro ρ M' ⟨⟨a,b,rfl⟩,px2,a1,a2,a3⟩;simp at a3;simp [rW];have el:=zY v js 0;refine ⟨mh.length,qN v js 0,rfl,a3,by omega,?_⟩;have hsub2:∀x∈js,x∈xs:=λx hx=> hsub x (pj.mem_iff.mp hx)
  obtain ⟨lo,l1,l2⟩:∃lo,lo<=m0/\∀k∈js,lo < k:=by
   have:∀(js:List Int),∃lo,lo<=m0/\∀k∈js,lo < k:=by
    intro js
    induction js with
    | nil=> exact ⟨m0,aE8 _,by simp⟩
    | cons j js ih=>
     obtain ⟨lo,a1,a2⟩:=ih
     exact ⟨min lo (j - 1),by omega,λk hk=> by
      rcases aCv.mp hk with z | z
      ·omega
      ·have:=a2 k z;omega⟩
   exact this js
  have e0:c lo=0:=hm0 lo l1
  have ok1:=(NF (c:=c) (v:=v) js lo srt l2 (λk _=> hv' k) (λy _ hy=> by
   have:¬v y≠0:=λh=> hy (pj.mem_iff.mpr ((hmem y).mpr (by rw [<-hv'];exact h)));rw [hv'] at this
   omega) hm1).1 (by omega)
  rw [e0] at ok1;obtain ⟨b1,b2,b3⟩:=ok1;have bl:=y8 (qN v js 0);refine px2.out ok (by simp [lG,eE,p6]) (q _ b1 (λx=> ?_) (λt ht=> ?_) (by omega))
  ·by_cases hx:lo<=x
   ·exact b3 x hx
   ·rw [hm0 x (by omega)];refine ⟨λ⟨t,ht,z⟩=> ?_,λz=> by omega⟩;have:=l2 t.1 (b2 t ht);omega
  ·have:=PK _ t ht;exact ⟨hsub2 _ (qM this.1),hsub2 _ (qM this.2)⟩
structure Ev where
 y:Int
 ln:List P2
 m:Int
def C7 (B:List Bd):List Ev:=B.flatMap λb=> [⟨b.lo,b.ln,1⟩,⟨b.hi,b.ln,-1⟩]
def cnt (E:List Ev) (x:Int):Int:=(E.map λe=> e.m*n9 e.ln x).sum
theorem AF (E F:List Ev) (x:Int):cnt (E++F) x=cnt E x+cnt F x:=by simp [cnt]
theorem cnt_cons (e:Ev) (E:List Ev) (x:Int):cnt (e::E) x=e.m*n9 e.ln x+cnt E x:=by simp [cnt]
theorem C6 (b:Bd) (B:List Bd):C7 (b::B)=⟨b.lo,b.ln,1⟩::⟨b.hi,b.ln,-1⟩::C7 B:=rfl
theorem GX:∀ln:List P2,∃m,∀y,y<=m->n9 ln y=0
 | []=> ⟨0,λy _=> rfl⟩
 | t::ln=> by
  obtain ⟨m,hm⟩:=GX ln;refine ⟨min m (min (t.1 - 1) (t.2 - 1)),λy hy=> ?_⟩;rw [vC,hm y (by omega),if_neg (by omega),if_neg (by omega)];rfl
theorem CD:∀ln:List P2,∃m,∀y,m<=y->n9 ln y=0
 | []=> ⟨0,λy _=> rfl⟩
 | t::ln=> by
  obtain ⟨m,hm⟩:=CD ln;refine ⟨max m (max t.1 t.2),λy hy=> ?_⟩;rw [vC,hm y (by omega),if_pos (by omega),if_pos (by omega)];rfl
theorem HE:∀E:List Ev,∃m,∀y,y<=m->cnt E y=0
 | []=> ⟨0,λy _=> rfl⟩
 | e::E=> by
  obtain ⟨m,hm⟩:=HE E;obtain ⟨k,hk⟩:=GX e.ln;exact ⟨min m k,λy hy=> by rw [cnt_cons,hm y (by omega),hk y (by omega)];simp⟩
theorem NP:∀E:List Ev,∃m,∀y,m<=y->cnt E y < 1
 | E=> by
  have:∀E:List Ev,∃m,∀y,m<=y->cnt E y=0:=by
   intro E
   induction E with
   | nil=> exact ⟨0,λy _=> rfl⟩
   | cons e E ih=>
    obtain ⟨m,hm⟩:=ih;obtain ⟨k,hk⟩:=CD e.ln;exact ⟨max m k,λy hy=> by rw [cnt_cons,hm y (by omega),hk y (by omega)];simp⟩
  obtain ⟨m,hm⟩:=this E;exact ⟨m,λy hy=> by rw [hm y hy];omega⟩
theorem GY:∀{ln:List P2},(∀t∈ln,t.1 < t.2)->∀x,0<=n9 ln x/\(1<=n9 ln x↔gU ln x)
 | [],_,x=> ⟨by simp [n9],by simp [n9,gU]⟩
 | t::ln,h,x=> by
  obtain ⟨i1,i2⟩:=GY (ln:=ln) (λu hu=> h u (aCr _ hu)) x;have ht:=h t aCq;rw [vC,bX,<-i2];by_cases c1:t.1<=x
  ·by_cases c2:t.2<=x
   ·rw [if_pos c1,if_pos c2];exact ⟨by omega,⟨λz=> .inr (by omega),λz=> z.elim (λz=> by omega) λz=> by omega⟩⟩
   ·rw [if_pos c1,if_neg c2];exact ⟨by omega,⟨λz=> .inl ⟨c1,by omega⟩,λz=> by omega⟩⟩
  ·rw [if_neg c1,if_neg (by omega)];exact ⟨by omega,⟨λz=> .inr (by omega),λz=> z.elim (λz=> absurd z.1 c1) λz=> by omega⟩⟩
theorem SF (c x:Int):∀{B:List Bd},(∀b∈B,b.lo < b.hi/\∀t∈b.ln,t.1 < t.2)->0<=cnt ((C7 B).filter λe=> decide (e.y<=c)) x/\(1<=cnt ((C7 B).filter λe=> decide (e.y<=c)) x↔cM B x c)
 | [],_=> ⟨by simp [C7,cnt],by simp [C7,cnt,cM]⟩
 | b::B,h=> by
  obtain ⟨i1,i2⟩:=SF c x (B:=B) λd hd=> h d (aCr _ hd);obtain ⟨hb,ht⟩:=h b aCq;obtain ⟨l1,l2⟩:=GY ht x;rw [C6,cD,<-i2,<-l2];by_cases c1:b.lo<=c
  ·rw [List.filter_cons_of_pos (by simpa using c1)];by_cases c2:b.hi<=c
   ·rw [List.filter_cons_of_pos (by simpa using c2),cnt_cons,cnt_cons];simp only;exact ⟨by omega,⟨λz=> .inr (by omega),λz=> z.elim (λz=> by omega) λz=> by omega⟩⟩
   ·rw [List.filter_cons_of_neg (by simpa using c2),cnt_cons];simp only;refine ⟨by omega,⟨λz=> ?_,λz=> ?_⟩⟩
    ·by_cases q:1<=n9 b.ln x
     ·exact .inl ⟨c1,by omega,q⟩
     ·exact .inr (by omega)
    ·rcases z with z | z <;> omega
  ·rw [List.filter_cons_of_neg (by simpa using c1),List.filter_cons_of_neg (by simp;omega)];exact ⟨i1,⟨.inr,λz=> z.elim (λz=> absurd z.1 c1) id⟩⟩
theorem x9 {E:List Ev} {l:List Int} {c:Int} (hc:c∉l) (x:Int):cnt (E.filter λe=> decide (e.y∈l++[c])) x=cnt (E.filter λe=> decide (e.y∈l)) x+cnt (E.filter λe=> decide (e.y=c)) x:=by
 induction E with
 | nil=> simp [cnt]
 | cons e E ih=>
  by_cases h1:e.y=c
  ·have h2:e.y∉l:=by rw [h1];exact hc
   rw [List.filter_cons_of_pos (by simp [h1]),List.filter_cons_of_neg (by simpa using h2),List.filter_cons_of_pos (by simpa using h1),cnt_cons,cnt_cons,ih];omega
  ·by_cases h2:e.y∈l
   ·rw [List.filter_cons_of_pos (by simp [h2]),List.filter_cons_of_pos (by simpa using h2),List.filter_cons_of_neg (by simpa using h1),cnt_cons,cnt_cons,ih];omega
   ·rw [List.filter_cons_of_neg (by simp [h1,h2]),List.filter_cons_of_neg (by simpa using h2),List.filter_cons_of_neg (by simpa using h1),ih]
theorem OP {js:List Int} (hs:js.Pairwise (· < ·)) {j:Nat} {c y:Int} (hj:js[j]? =some c) (hy:y∈js):y∈js.take (j+1)↔y<=c:=by
 obtain ⟨k,hk⟩:=aD3.mp hy;obtain ⟨hkl,ek⟩:=aCn.mp hk;obtain ⟨hjl,ej⟩:=aCn.mp hj;have pw:=aDo.mp hs;constructor
 ·intro h;obtain ⟨i,hi⟩:=aD3.mp h;have hil:i < j+1:=by have:=(aCn.mp hi).1;rw [List.length_take] at this;omega
  rw [List.getElem?_take_of_lt hil] at hi;obtain ⟨hil2,ei⟩:=aCn.mp hi;by_cases e:i=j
  ·subst e;omega
  ·have:=pw i j hil2 hjl (by omega);omega
 ·intro h
  have hkj:k<=j:=by
   refine aEy λhlt=> ?_;have:=pw j k hjl hkl hlt;omega
  exact aD3.mpr ⟨k,by rw [List.getElem?_take_of_lt (by omega)];exact hk⟩
def N6 (js:List Int) (rows:List (List P2)):List Bd:=List.zipWith (λp f=> ⟨p.1,p.2,f⟩) (js.zip js.tail) rows
theorem tD {js:List Int} {rows:List (List P2)} {j:Nat} {b:Bd} (h:(N6 js rows)[j]? =some b):js[j]? =some b.lo/\js[j+1]? =some b.hi/\rows[j]? =some b.ln:=by
 unfold N6 at h;rw [List.getElem?_zipWith] at h
 cases h1:(js.zip js.tail)[j]? with
 | none=> simp [h1] at h
 | some p=>
  cases h2:rows[j]? with
  | none=> simp [h1,h2] at h
  | some f=>
   simp [h1,h2] at h;subst h;obtain ⟨a1,a2⟩:=aFh.mp h1;rw [List.getElem?_tail] at a2;exact ⟨a1,a2,rfl⟩
theorem UP {js:List Int} {rows:List (List P2)} {j:Nat} {a b:Int} {f:List P2} (h1:js[j]? =some a) (h2:js[j+1]? =some b) (h3:rows[j]? =some f):(N6 js rows)[j]? =some ⟨a,b,f⟩:=by
 unfold N6;rw [List.getElem?_zipWith];have:(js.zip js.tail)[j]? =some (a,b):=aFh.mpr ⟨h1,by rw [List.getElem?_tail];exact h2⟩;simp [this,h3]
theorem UO {B:List Bd} {js:List Int} {rows:List (List P2)} (hB:∀b∈B,b.lo < b.hi/\∀t∈b.ln,t.1 < t.2) (hs:js.Pairwise (· < ·)) (hm:∀y,y∈js↔∃e∈C7 B,e.y=y) (hl:rows.length=js.length)
  (hr:∀(j:Nat) f,rows[j]? =some f->Sep f/\∀x,gU f x↔1<=cnt ((C7 B).filter λe=> decide (e.y∈js.take (j+1))) x):
  rO ((N6 js rows).foldl bQ [])/\∀x y,cM ((N6 js rows).foldl bQ []) x y↔cM B x y:=by
 have pw:=aDo.mp hs
 have mB:∀b∈B,b.lo∈js/\b.hi∈js:=λb hb=> by
  refine ⟨(hm _).mpr ⟨⟨b.lo,b.ln,1⟩,?_,rfl⟩,(hm _).mpr ⟨⟨b.hi,b.ln,-1⟩,?_,rfl⟩⟩ <;> exact aFf.mpr ⟨b,hb,by simp⟩
 have rowc:∀(j:Nat) c f x,js[j]? =some c->rows[j]? =some f->(gU f x↔cM B x c):=λj c f x h1 h2=> by
  rw [(hr j f h2).2 x,<-(SF c x hB).2]
  have:((C7 B).filter λe=> decide (e.y∈js.take (j+1)))=(C7 B).filter λe=> decide (e.y<=c):=by
   refine List.filter_congr λe he=> ?_;rw [decide_eq_decide];exact OP hs h1 ((hm _).mpr ⟨e,he,rfl⟩)
  rw [this]
 have o:=oD (N6 js rows) [] (λb hb=> ?_) ?_ ⟨by simp,by simp,by simp,by simp,λu a b v e=> by simp at e⟩ (by simp);refine ⟨o.1,λx y=> ?_⟩;rw [o.2 x y];constructor
 ·rintro (⟨b,hb,_⟩ | ⟨d,hd,h1,h2,h3⟩)
  ·cases hb
  ·obtain ⟨j,hj⟩:=aD3.mp hd;obtain ⟨a1,a2,a3⟩:=tD hj;obtain ⟨b,hb,b1,b2,b3⟩:=(rowc j d.lo d.ln x a1 a3).mp h3;refine ⟨b,hb,by omega,?_,b3⟩;obtain ⟨k,hk⟩:=aD3.mp (mB b hb).2;obtain ⟨hkl,ek⟩:=aCn.mp hk;obtain ⟨hjl,ej⟩:=aCn.mp a1;obtain ⟨hjl2,ej2⟩:=aCn.mp a2
   have hjk:j < k:=by
    refine aGn λhle=> ?_;by_cases e:k=j
    ·subst e;omega
    ·have:=pw k j hkl hjl (by omega);omega
   by_cases e:k=j+1
   ·subst e;omega
   ·have:=pw (j+1) k hjl2 hkl (by omega);omega
 ·rintro ⟨b,hb,h1,h2,h3⟩;right;obtain ⟨p,hp,q1,q2,q3,q4⟩:=between hs (mB b hb).1 (mB b hb).2 h1 h2;obtain ⟨j,hj⟩:=aD3.mp hp;obtain ⟨a1,a2⟩:=aFh.mp hj;rw [List.getElem?_tail] at a2;have hjl:=(aCn.mp a1).1;have hrj:rows[j]? =some (rows[j]'(by omega)):=aCy _;generalize rows[j]'(by omega)=f at hrj;refine ⟨⟨p.1,p.2,f⟩,aCz (UP a1 a2 hrj),q1,q2,?_⟩;exact (rowc j p.1 f x a1 hrj).mpr ⟨b,hb,q3,by omega,h3⟩
 ·obtain ⟨j,hj⟩:=aD3.mp hb;obtain ⟨a1,a2,a3⟩:=tD hj;obtain ⟨hjl,ej⟩:=aCn.mp a1;obtain ⟨hjl2,ej2⟩:=aCn.mp a2;have:=pw j (j+1) hjl hjl2 (by omega);exact ⟨by omega,(hr j b.ln a3).1⟩
 ·refine aDo.mpr λi j hi hj hij=> ?_;obtain ⟨a1,a2,a3⟩:=tD (aCy hi);obtain ⟨b1,b2,b3⟩:=tD (aCy hj);obtain ⟨x1,e1⟩:=aCn.mp a2;obtain ⟨x2,e2⟩:=aCn.mp b1;by_cases e:i+1=j
  ·subst e;omega
  ·have:=pw (i+1) j x1 x2 (by omega);omega
theorem QC (js:List Int) (rows:List (List P2)):(N6 js rows).length<=js.length:=by
 unfold N6;rw [List.length_zipWith,List.length_zip];omega
theorem GR:∀(js:List Int) (rows:List (List P2)),(aN [js.map D.int,js.tail.map D.int,rows.map lG]).map D.tup=(N6 js rows).map bD:=by
 intro js rows;have e:aN [js.map D.int,js.tail.map D.int,rows.map lG]=List.zipWith List.cons (js.map D.int) (List.zipWith List.cons (js.tail.map D.int) ((rows.map lG).map λx=> [x])):=rfl;rw [e]
 have go:∀(a b:List Int) (rows:List (List P2)),(List.zipWith List.cons (a.map D.int) (List.zipWith List.cons (b.map D.int) ((rows.map lG).map λx=> [x]))).map D.tup=(List.zipWith (λ(p:Int×Int) f=> (⟨p.1,p.2,f⟩:Bd)) (a.zip b) rows).map bD:=by
  intro a
  induction a with
  | nil=> intro b rows;simp
  | cons x a ih=>
   intro b rows
   cases b with
   | nil=> simp
   | cons y b=>
    cases rows with
    | nil=> simp
    | cons f rows=>
     simp only [List.map_cons,List.zipWith_cons_cons,List.zip_cons_cons];rw [ih b rows];rfl
 exact go js js.tail rows
def WQ (e:Ev):D:= .tup [lG e.ln,.int e.m]
structure wR (dn top:Nat) (ys:List Int) (E:List Ev) (kvs:List (D×D)) (M:MH):Prop where
 at_:M[dn]? =some (.dic false kvs)
 key:∀p∈kvs,∃y∈ys,p.1= .int y
 nd:(kvs.map (·.1)).Nodup
 cN:∀y,bR kvs (.int y)=none->∀e∈E,e.y≠y
 TB:∀y d,bR kvs (.int y)=some d->∃m,d= .ref m/\dn < m/\m < top/\M[m]? =some (.lst ((E.filter λe=> decide (e.y=y)).map WQ))/\∃e∈E,e.y=y
 inj:∀y y' m,bR kvs (.int y)=some (.ref m)->bR kvs (.int y')=some (.ref m)->y=y'
theorem wR.len {dn top:Nat} {ys:List Int} {E:List Ev} {kvs:List (D×D)} {M:MH} (h:wR dn top ys E kvs M):∃is:List Int,kvs.map (·.1)=is.map D.int/\is.Nodup/\is.length<=ys.length/\kvs.length<=ys.length/\∀y,y∈is↔∃e∈E,e.y=y:=by
 obtain ⟨is,e,hm⟩:∃is:List Int,kvs.map (·.1)=is.map D.int/\∀x∈is,x∈ys:=by
  have:=h.key;clear h
  induction kvs with
  | nil=> exact ⟨[],rfl,by simp⟩
  | cons p kvs ih=>
   obtain ⟨x,hx,e⟩:=this p aCq;obtain ⟨is,e2,h2⟩:=ih λq hq=> this q (aCr _ hq)
   exact ⟨x::is,by simp [e,e2],λy hy=> by
    rcases aCv.mp hy with z | z
    ·rw [z];exact hx
    ·exact h2 y z⟩
 have nd:is.Nodup:=by
  have:=h.nd;rw [e] at this;rw [List.nodup_iff_pairwise_ne] at this⊢;rw [List.pairwise_map] at this;exact this.imp λh z=> h (by rw [z])
 have hl:=zF is ys nd hm;have hk:kvs.length=is.length:=by have:=aE0 List.length e;simpa using this
 refine ⟨is,e,nd,hl,by omega,λy=> ⟨λhy=> ?_,λ⟨ev,he,hy⟩=> ?_⟩⟩
 ·cases hv:bR kvs (.int y) with
  | none=>
   have hx' :D.int y∈kvs.map (·.1):=by rw [e];exact aDn hy
   obtain ⟨p,hp,ep⟩:=aD1.mp hx';exact absurd ep (jQ.mp hv p hp)
  | some d=> obtain ⟨m,_,_,_,_,h⟩:=h.TB y d hv;exact h
 ·by_cases hx:y∈is
  ·exact hx
  ·exfalso
   have:bR kvs (.int y)=none:=jQ.mpr λp hp z=> by
    have:D.int y∈is.map D.int:=by rw [<-e,<-z];exact aDn hp
    obtain ⟨w,hw,ew⟩:=aD1.mp this;cases ew;exact hx hw
   exact h.cN y this ev he hy
theorem rH (E:List Ev) (e:Ev) (y:Int):(E++[e]).filter (λe=> decide (e.y=y))=E.filter (λe=> decide (e.y=y))++if e.y=y then [e] else []:=by
 rw [List.filter_append];congr 1;by_cases h:e.y=y <;> simp [h]
theorem MT {mh M:MH} {E' :fN} {ys:List Int} {E:List Ev} {kvs:List (D×D)} {y m:Int} {ln:List P2} {i:Nat} {ρ:gV} {wm:WE} (px:cY mh M) (C:wR mh.length M.length ys E kvs M) (hy:y∈ys) (hyl:ys.length < 4000) (hE:E.length<=1000000)
  (r2:ρ[2]? =some (some (.ref mh.length))) (ri:ρ[i]? =some (some (.int y))) (r5:ρ[5]? =some (some (lG ln))) (hwm:∀(mh:MH) (Q:DK),Q (.int m) mh->wm ρ mh Q)
  (nx:∀M' kvs',cY mh M' ->wR mh.length M'.length ys (E++[⟨y,ln,m⟩]) kvs' M' ->E'.nx ρ M'):
  gR (F9 "list" dJ (A6 (aC 2) (aC i) (nM aI)) (aB (gJ (aB (aC 5) (aB wm aI))) aI)) E' ρ M:=by
 have sz:=aDe;obtain ⟨is,ek,nd,_,hkl,_⟩:=C.len;have hdl:mh.length < M.length:=fV C.at_;have hfl:∀y,(E.filter λe=> decide (e.y=y)).length<=E.length:=λy=> aFx _ _;simp [r2,ri,r5];refine ⟨⟨_,C.at_⟩,kvs,aY C.at_,⟨.inl y,rfl⟩,by omega,λv hv=> ?_,λhv=> ?_⟩
 ·obtain ⟨k,rfl,h1,h2,h3,h4⟩:=C.TB y v hv;have g3:(M++[MO.lst []])[k]? =some (.lst ((E.filter λe=> decide (e.y=y)).map WQ)):=aY h3;refine ⟨⟨rfl,_,g3⟩,hwm _ _ ⟨by omega,(eO g3 _).mpr ⟨by have:=hfl y;simp;omega,?_⟩⟩⟩;refine nx _ kvs ((px.push _).set (by omega) _) ⟨get_set (aY C.at_) (by omega),C.key,C.nd,λy' hv' e he=> ?_,λy' d hv' => ?_,C.inj⟩
  ·rcases aCt.mp he with z | z
   ·exact C.cN y' hv' e z
   ·rw [List.mem_singleton.mp z];intro q;have q:y=y' :=q;subst q;rw [hv] at hv';cases hv'
  ·obtain ⟨k',rfl,a1,a2,a3,a4⟩:=C.TB y' d hv';refine ⟨k',rfl,a1,by simp;omega,?_,?_⟩
   ·rw [rH];by_cases e:y=y'
    ·subst e;rw [hv] at hv';cases hv';rw [cB _ g3];simp [WQ]
    ·have hk:k≠k' :=λz=> e (C.inj y y' k hv (by rw [z];exact hv'));rw [if_neg e,List.append_nil];exact get_set (aY a3) hk
   ·obtain ⟨e,he,hy'⟩:=a4;exact ⟨e,aDq _ he,hy'⟩
 ·have g1:(M++[MO.lst []])[mh.length]? =some (.dic false kvs):=aY C.at_;have g3:((M++[MO.lst []]).set mh.length (.dic false (putD kvs (.int y) (.ref M.length))))[M.length]? =some (.lst []):=get_set (gL _ _) (by omega);refine ⟨⟨rfl,_,g3⟩,hwm _ _ ⟨by omega,(eO g3 _).mpr ⟨by simp;omega,?_⟩⟩⟩;have hno:(E.filter λe=> decide (e.y=y))=[]:=List.filter_eq_nil_iff.mpr λe he=> by simpa using C.cN y hv e he
  have vp:∀y',y' ≠y->bR (putD kvs (.int y) (.ref M.length)) (.int y')=bR kvs (.int y'):=λy' h=> tY _ _ (by simpa using h)
  have old:∀y' k,bR kvs (.int y')=some (.ref k)->k < M.length:=λy' k h=> by
   obtain ⟨k',e,_,_,a3,_⟩:=C.TB y' _ h;cases e;exact fV a3
  refine nx _ (putD kvs (.int y) (.ref M.length)) ((((px.push _).set (aCs _) _)).set (by omega) _) ⟨get_set (cB _ g1) (by omega),λp hp=> ?_,xE C.nd _ _,λy' hv' e he=> ?_,λy' d hv' => ?_,λy1 y2 k h1 h2=> ?_⟩
  ·rcases BO hp with z | z
   ·exact C.key p z
   ·exact ⟨y,hy,z.1⟩
  ·by_cases e1:y' =y
   ·subst e1;rw [kA] at hv';cases hv'
   ·rw [vp y' e1] at hv';rcases aCt.mp he with z | z
    ·exact C.cN y' hv' e z
    ·rw [List.mem_singleton.mp z];exact λq=> e1 q.symm
  ·by_cases e1:y' =y
   ·subst e1;rw [kA] at hv';cases hv';refine ⟨M.length,rfl,hdl,by simp,?_,⟨y',ln,m⟩,by simp,rfl⟩;rw [cB _ g3,rH,hno];simp [WQ]
   ·rw [vp y' e1] at hv';obtain ⟨k',rfl,a1,a2,a3,e,he,hy'⟩:=C.TB y' d hv';refine ⟨k',rfl,a1,by simp;omega,?_,e,aDq _ he,hy'⟩;rw [rH,if_neg (λq=> e1 q.symm),List.append_nil];exact get_set (get_set (aY a3) (by omega)) (by omega)
  ·by_cases e1:y1=y
   ·by_cases e2:y2=y
    ·rw [e1,e2]
    ·rw [vp y2 e2] at h2;rw [e1,kA] at h1;have:=old y2 k h2;injection h1 with h1;injection h1 with h1;omega
   ·rw [vp y1 e1] at h1;by_cases e2:y2=y
    ·rw [e2,kA] at h2;have:=old y1 k h1;injection h2 with h2;injection h2 with h2;omega
    ·rw [vp y2 e2] at h2;exact C.inj y1 y2 k h1 h2
def KZ:OA:=λds mh Q=> ∃(n:Nat) (B:List Bd) (xs ys:List Int),ds=[.ref n,.int 1]/\mh[n]? =some (.lst (B.map bD))/\B.length<=400000/\xs.length < 4000/\ys.length < 4000/\(∀b∈B,b.lo < b.hi/\b.lo∈ys/\b.hi∈ys/\b.ln.length<=1000000/\∀t∈b.ln,t.1 < t.2/\t.1∈xs/\t.2∈xs)/\
 ∀g:List Bd,rO g->(∀x y,cM g x y↔cM B x y)->Q (gD g) mh
theorem NC (B:List Bd) (b:Bd):C7 (B++[b])=C7 B++[⟨b.lo,b.ln,1⟩]++[⟨b.hi,b.ln,-1⟩]:=by simp [C7]
theorem HA (B:List Bd):(C7 B).length=2*B.length:=by
 induction B with
 | nil=> rfl
 | cons b B ih=> rw [C6];simp [ih];omega
theorem wR.keep {dn top:Nat} {ys:List Int} {E:List Ev} {kvs:List (D×D)} {M M' :MH} (h:wR dn top ys E kvs M) (hd:dn < top) (k:∀j,j < top->M'[j]? =M[j]?):wR dn top ys E kvs M' :=
 ⟨by rw [k dn hd];exact h.at_,h.key,h.nd,h.cN,λy d hv=> by
  obtain ⟨m,a1,a2,a3,a4,a5⟩:=h.TB y d hv
  exact ⟨m,a1,a2,a3,by rw [k m a3];exact a4,a5⟩,h.inj⟩
theorem QW {mh M:MH} {E' :fN} {n cn sn rn top:Nat} {ys xs js:List Int} {E:List Ev} {kvs:List (D×D)} {a3 a4 a5 a9 a10:Option D} (px:cY mh M) (C:wR mh.length top ys E kvs M) (hxs:xs.length < 4000) (hEl:E.length<=1000000) (hE:∀e∈E,e.ln.length<=1000000/\∀t∈e.ln,t.1∈xs/\t.2∈xs)
  (hmt:mh.length < top) (ht:top<=cn) (hcs:cn < sn) (hsr:sn < rn) (hjs:js.Pairwise (· < ·)) (hjm:∀y,y∈js↔∃e∈E,e.y=y) (hjl:js.length < 4000) (gc:M[cn]? =some (.lst (js.map .int))) (gs:M[sn]? =some (.dic false [])) (gr:M[rn]? =some (.lst []))
  (nx:∀a5 a9 a10 M' (rows:List (List P2)),cY mh M' ->M'[cn]? =some (.lst (js.map .int))->M'[rn]? =some (.lst (rows.map lG))->rows.length=js.length->(∀(j:Nat) f,rows[j]? =some f->Sep f/\∀x,gU f x↔1<=cnt (E.filter λe=> decide (e.y∈js.take (j+1))) x)->
   E'.nx [some (.ref n),some (.int 1),some (.ref mh.length),a3,a4,a5,some (.ref cn),some (.ref sn),some (.ref rn),a9,a10] M'):
  nN (fJ (aC 6)) (gN 9) (j6 EE uP kH) E' [some (.ref n),some (.int 1),some (.ref mh.length),a3,a4,a5,some (.ref cn),some (.ref sn),some (.ref rn),a9,a10] M:=by
 have sz:=aDe;have e0:(E.filter λe=> decide (e.y∈js.take 0))=[]:=List.filter_eq_nil_iff.mpr λe _=> by simp
 simp;rw [bO gc];simp only [cF]
 refine dD (λi ρ M' => (∃a5 a9 a10,ρ=[some (.ref n),some (.int 1),some (.ref mh.length),a3,a4,a5,some (.ref cn),some (.ref sn),some (.ref rn),a9,a10])/\cY mh M' /\wR mh.length top ys E kvs M' /\M'[cn]? =some (.lst (js.map .int))/\
  (∃skvs,M'[sn]? =some (.dic false skvs)/\lL xs skvs (λx=> cnt (E.filter λe=> decide (e.y∈js.take i)) x - cnt (E.filter λe=> decide (e.y∈js.take i)) (x - 1)))/\
  ∃rows:List (List P2),M'[rn]? =some (.lst (rows.map lG))/\rows.length=i/\∀(j:Nat) f,rows[j]? =some f->Sep f/\∀x,gU f x↔1<=cnt (E.filter λe=> decide (e.y∈js.take (j+1))) x) _ ?_ ?_ ?_
  ⟨⟨_,_,_,rfl⟩,px,C,gc,⟨[],gs,⟨by simp,by simp,λx=> by rw [e0];simp [bR,cnt]⟩⟩,[],by simpa using gr,rfl,by simp⟩
 ·rintro i ρ M' ⟨_,_,_,g,_⟩;exact bO g
 ·rintro i d ρ M' N hi ⟨⟨a5,a9,a10,rfl⟩,px1,C1,c1,⟨skvs,s1,st⟩,rows,r1,rl,hr⟩ nx2;obtain ⟨y,hy,rfl⟩:=hJ hi;have hil:i < js.length:=(aCn.mp hy).1;have hye:=(hjm y).mp (aCz hy)
  obtain ⟨m,hv,m1,m2,m3⟩:∃m,bR kvs (.int y)=some (.ref m)/\mh.length < m/\m < top/\M'[m]? =some (.lst ((E.filter λe=> decide (e.y=y)).map WQ)):=by
   cases hv:bR kvs (.int y) with
   | none=> obtain ⟨e,he,q⟩:=hye;exact absurd q (C1.cN y hv e he)
   | some d=>
    obtain ⟨m,rfl,b1,b2,b3,_⟩:=C1.TB y d hv;exact ⟨m,rfl,b1,b2,b3⟩
  have hni:y∉js.take i:=λh=> by
   obtain ⟨k,hk⟩:=aD3.mp h;have hkl:k < i:=by have:=(aCn.mp hk).1;rw [List.length_take] at this;omega
   rw [List.getElem?_take_of_lt hkl] at hk;have pw:=aDo.mp hjs;obtain ⟨x1,e1⟩:=aCn.mp hk;obtain ⟨x2,e2⟩:=aCn.mp hy;have:=pw k i x1 x2 hkl;omega
  generalize hEy:(E.filter λe=> decide (e.y=y))=Ey at m3;have hEyE:∀e∈Ey,e.ln.length<=1000000/\∀t∈e.ln,t.1∈xs/\t.2∈xs:=λe he=> hE e (by rw [<-hEy] at he;exact (aFl.mp he).1);simp [j6];refine ⟨mh.length,kvs,.inl y,_,rfl,C1.at_,rfl,hv,?_⟩;simp only [bO m3,cF]
  refine dD (λj ρ M2=> (∃a5 a10,ρ=[some (.ref n),some (.int 1),some (.ref mh.length),a3,a4,a5,some (.ref cn),some (.ref sn),some (.ref rn),some (.int y),a10])/\∃skvs2,M2=M'.set sn (.dic false skvs2)/\
   lL xs skvs2 (λx=> cnt ((E.filter λe=> decide (e.y∈js.take i))++Ey.take j) x - cnt ((E.filter λe=> decide (e.y∈js.take i))++Ey.take j) (x - 1))) _ ?_ ?_ ?_ ⟨⟨_,_,rfl⟩,skvs,(pV s1).symm,by simpa using st⟩
  ·rintro j ρ M2 ⟨_,skvs2,rfl,_⟩;exact bO (get_set m3 (by omega))
  ·rintro j d ρ M2 N2 hj ⟨⟨a5,a10,rfl⟩,skvs2,rfl,st2⟩ nx3;obtain ⟨e,he,rfl⟩:=hJ hj;simp [pF,WQ];have hee:=hEyE e (aCz he);refine V7 (cB _ s1) st2 hxs hee.1 hee.2 λskvs3 st3=> ?_;refine nx3 _ _ ⟨⟨_,_,rfl⟩,skvs3,by simp,?_⟩
   have e1:(λx=> cnt ((E.filter λe=> decide (e.y∈js.take i))++Ey.take (j+1)) x - cnt ((E.filter λe=> decide (e.y∈js.take i))++Ey.take (j+1)) (x - 1))=λx=> cnt ((E.filter λe=> decide (e.y∈js.take i))++Ey.take j) x - cnt ((E.filter λe=> decide (e.y∈js.take i))++Ey.take j) (x - 1)+e.m*(n9 e.ln x - n9 e.ln (x - 1)):=by
    funext x;rw [take_snoc he];simp only [AF,cnt_cons];have:∀x,cnt ([]:List Ev) x=0:=λ_=> rfl;rw [this,this,Int.mul_sub];omega
   rw [e1];exact st3
  ·rintro ρ M2 ⟨⟨a5,a10,rfl⟩,skvs2,rfl,st2⟩;simp only [List.length_map,List.take_length] at st2
   have e1:(λx=> cnt ((E.filter λe=> decide (e.y∈js.take i))++Ey) x - cnt ((E.filter λe=> decide (e.y∈js.take i))++Ey) (x - 1))=λx=> cnt (E.filter λe=> decide (e.y∈js.take (i+1))) x - cnt (E.filter λe=> decide (e.y∈js.take (i+1))) (x - 1):=by
    funext x;rw [take_snoc hy,x9 hni,x9 hni,AF,AF,hEy]
   rw [e1] at st2;have r2:(M'.set sn (.dic false skvs2))[rn]? =some (.lst (rows.map lG)):=get_set r1 (by omega);simp [lM];refine ⟨⟨rfl,_,r2⟩,Q3 (cB _ s1) st2 hxs (HE _) (NP _) λf f1 f2 _ _=> ?_⟩;rw [eO r2];have hsl:=fV s1;have hml:=px1.le;refine ⟨by simp;omega,nx2 _ _ ⟨⟨_,_,_,rfl⟩,(px1.set (by omega) _).set (by omega) _,C1.keep hmt λj hj=> by rw [List.getElem?_set_ne (by omega),List.getElem?_set_ne (by omega)],get_set (get_set c1 (by omega)) (by omega),⟨skvs2,get_set (cB _ s1) (by omega),st2⟩,rows++[f],by rw [cB _ r2];simp,by simp [rl],λj g hg=> ?_⟩⟩;by_cases hj:j < rows.length
   ·rw [List.getElem?_append_left hj] at hg;exact hr j g hg
   ·have hjl2:=(aCn.mp hg).1;simp at hjl2;have ej:j=rows.length:=by omega
    subst ej;simp at hg;subst hg;rw [rl];exact ⟨f1,f2⟩
 ·rintro ρ M' ⟨⟨a5,a9,a10,rfl⟩,px1,C1,c1,_,rows,r1,rl,hr⟩;exact nx _ _ _ M' rows px1 c1 r1 (by simpa using rl) hr
theorem Y2 (ds:List D) (mh:MH) (R:DK) (ok:nK mh) (hs:KZ ds mh R):mX EE uP kH (En mh R) (aQ ["bands","least","changes","y0","y1","stretches","cuts","steps","rows","y","more"] ds) mh:=by
 obtain ⟨n,B,xs,ys,rfl,hn,hBl,hxs,hys,hB,q⟩:=hs;have sz:=aDe;have hnl:n < mh.length:=fV hn
 have hB' :∀b∈B,b.lo < b.hi/\∀t∈b.ln,t.1 < t.2:=λb hb=> ⟨(hB b hb).1,λt ht=> ((hB b hb).2.2.2.2 t ht).1⟩
 simp [mX,rV,aQ];rw [bO (aY hn)];simp only [cF];refine dD (λi ρ M' => (∃a3 a4 a5,ρ=[some (.ref n),some (.int 1),some (.ref mh.length),a3,a4,a5,none,none,none,none,none])/\cY mh M' /\∃kvs,wR mh.length M'.length ys (C7 (B.take i)) kvs M') _ ?_ ?_ ?_ ⟨⟨_,_,_,rfl⟩,⟨_,rfl⟩,[],⟨by simp,by simp,by simp,by simp [C7],by simp [bR],by simp [bR]⟩⟩
 ·rintro i ρ M' ⟨_,px,_⟩;exact bO (px.old hn)
 ·rintro i d ρ M' N hi ⟨⟨a3,a4,a5,rfl⟩,px,kvs,C⟩ nx;obtain ⟨b,hb,rfl⟩:=hJ hi;have hbm:=aCz hb;obtain ⟨_,b2,b3,b4,b5⟩:=hB b hbm;have hil:i < B.length:=(aCn.mp hb).1;have el:=HA (B.take i);have tl:(B.take i).length<=i:=by simp;omega
  simp [bD];unfold pG;rw [RU];refine MT px C b2 hys (by omega) rfl rfl rfl (λmh Q h=> by simpa using h) λM2 kvs2 px2 C2=> ?_;show iE EE uP kH _ _ _;unfold iE;refine MT px2 C2 b3 hys (by simp;omega) rfl rfl rfl (λmh Q h=> by simpa using h) λM3 kvs3 px3 C3=> ?_;refine nx _ _ ⟨⟨_,_,_,rfl⟩,px3,kvs3,?_⟩;rw [take_snoc hb,NC];exact C3
 ·rintro ρ M ⟨⟨a3,a4,a5,rfl⟩,px,kvs,C⟩;simp only [List.length_map,List.take_length] at C;obtain ⟨is,ek,nd,il,kl,hmem⟩:=C.len;simp [rT];refine ⟨mh.length,false,kvs,rfl,C.at_,by omega,by rw [ek];exact t8 _,λfs p s=> ?_⟩;rw [ek] at p;obtain ⟨js,rfl,pj,srt⟩:=xI p s nd;have hjl:=pj.length_eq;simp [rS,rR];have el:=HA B;have hml:mh.length < M.length:=fV C.at_;unfold rQ;rw [RU];refine QW (top:=M.length) (E:=C7 B) (xs:=xs) (ys:=ys) (js:=js) (px.app _) (C.keep hml λj hj=> by rw [List.getElem?_append_left hj]) hxs (by omega) (λe he=> ?_) hml (aCs _) (by omega) (by omega) srt (λy=> by rw [pj.mem_iff];exact hmem y) (by omega) (by simp) (by simp) (by simp) λa5 a9 a10 M' rows px' gc gr rl hr=> ?_
  ·obtain ⟨b,hb,hbe⟩:=aFf.mp he;have:=hB b hb;simp at hbe;rcases hbe with rfl | rfl <;> exact ⟨this.2.2.2.1,λt ht=> (this.2.2.2.2 t ht).2⟩
  ·obtain ⟨can,cb⟩:=UO hB' srt (λy=> by rw [pj.mem_iff];exact hmem y) rl hr;have ml:=QC js rows;simp [rP];rw [RT gc,x6,<-List.map_tail];have hr2:(M' ++[MO.lst (js.tail.map D.int)])[M.length+2]? =some (.lst (rows.map lG)):=aY gr;have hc2:(M' ++[MO.lst (js.tail.map D.int)])[M.length]? =some (.lst (js.map .int)):=aY gc;refine ⟨[js.map .int,js.tail.map .int,rows.map lG],?_,?_,?_⟩
   ·simp only [lD,bO hc2,bO hr2,bO (gL M' _)]
   ·have:=aE0 List.length (GR js rows);simp only [List.length_map] at this;omega
   ·rw [GR];refine IX (gL _ _) (by omega) ?_;exact ((px'.push _).push _).out ok (p7 _ _) (q _ can cb)
def yX:OA:=λds mh Q=> ∃(n:Nat) (rs:List R4) (xs ys:List Int),ds=[.ref n]/\mh[n]? =some (.lst (rs.map rD))/\rs.length<=400000/\xs.length < 4000/\ys.length < 4000/\(∀r∈rs,r.x0 < r.x1/\r.y0 < r.y1/\r.x0∈xs/\r.x1∈xs/\r.y0∈ys/\r.y1∈ys)/\
 ∀g:List Bd,rO g->(∀x y,cM g x y↔∃r∈rs,r.has x y)->Q (gD g) mh
def ZH (r:R4):Bd:=⟨r.y0,r.y1,[(r.x0,r.x1)]⟩
theorem NM {rs:List R4} {x y:Int}:cM (rs.map ZH) x y↔∃r∈rs,r.has x y:=by
 unfold cM;constructor
 ·rintro ⟨b,hb,h1,h2,h3⟩;obtain ⟨r,hr,rfl⟩:=aD1.mp hb;have h3:=jA.mp h3;exact ⟨r,hr,h3.1,h3.2,h1,h2⟩
 ·rintro ⟨r,hr,h1,h2,h3,h4⟩;exact ⟨ZH r,aDn hr,h3,h4,jA.mpr ⟨h1,h2⟩⟩
theorem S7 {mh:MH} {n:Nat} {B:List Bd} {Q:DK} (xs ys:List Int) (h1:mh[n]? =some (.lst (B.map bD))) (h2:B.length<=400000) (h3:xs.length < 4000) (h4:ys.length < 4000) (h5:∀b∈B,b.lo < b.hi/\b.lo∈ys/\b.hi∈ys/\b.ln.length<=1000000/\∀t∈b.ln,t.1 < t.2/\t.1∈xs/\t.2∈xs)
  (q:∀g:List Bd,rO g->(∀x y,cM g x y↔cM B x y)->Q (gD g) mh):dfl 1 KZ [.ref n] mh Q:=⟨n,B,xs,ys,rfl,h1,h2,h3,h4,h5,q⟩
theorem Y3 (ds:List D) (mh:MH) (R:DK) (ok:nK mh) (hs:yX ds mh R):pH KZ (En mh R) (aQ ["rects"] ds) mh:=by
 obtain ⟨n,rs,xs,ys,rfl,hn,hl,hx,hy,hr,q⟩:=hs;have sz:=aDe;simp [pH,aQ];rw [bO hn];simp only [cF];refine nE rD ZH bD rs (bO hn) (λr _ N hN=> ?_) ?_
 ·simp [o7,rD];refine ⟨by omega,by omega,by omega,?_⟩;exact hN
 ·refine S7 xs ys (gL _ _) (by simpa using hl) hx hy (λb hb=> ?_) λg can hc=> ?_
  ·obtain ⟨r,hrm,rfl⟩:=aD1.mp hb;obtain ⟨a1,a2,a3,a4,a5,a6⟩:=hr r hrm;refine ⟨a2,a5,a6,by simp [ZH],λt ht=> ?_⟩;simp [ZH] at ht;subst ht;exact ⟨a1,a3,a4⟩
  ·refine p8 ok (by simp [gD,eE,p7]) (q g can λx y=> ?_);rw [hc,NM]
theorem q0 {mh:MH} {n:Nat} {rs:List R4} {Q:DK} (xs ys:List Int) (h1:mh[n]? =some (.lst (rs.map rD))) (h2:rs.length<=400000) (h3:xs.length < 4000) (h4:ys.length < 4000) (h5:∀r∈rs,r.x0 < r.x1/\r.y0 < r.y1/\r.x0∈xs/\r.x1∈xs/\r.y0∈ys/\r.y1∈ys)
  {g:List Bd} (hg:rO g) (hc:∀x y,cM g x y↔∃r∈rs,r.has x y) (q:Q (gD g) mh):yX [.ref n] mh Q:=⟨n,rs,xs,ys,rfl,h1,h2,h3,h4,h5,λg' can hc' => by
  have:g' =g:=DN can hg λx y=> (hc' x y).trans (hc x y).symm
  rw [this];exact q⟩
theorem K1 {rs:List R4}:∀b∈fK rs,b.lo∈d9 rs/\b.hi∈d9 rs/\∀t∈b.ln,t.1∈rs.map (·.x0)++rs.map (·.x1)/\t.2∈rs.map (·.x0)++rs.map (·.x1):=by
 have shr:∀lo hi,∀t∈b9 (aZ rs lo hi),t.1∈rs.map (·.x0)++rs.map (·.x1)/\t.2∈rs.map (·.x0)++rs.map (·.x1):=λlo hi=>
  vD (P:=λx=> x∈rs.map (·.x0)++rs.map (·.x1)) (uI (λr hr=> ⟨aDq _ (aDn hr),aD8 _ (aDn hr)⟩) lo hi)
 have step:∀(f:List Bd) (p:P2),p.1∈d9 rs->p.2∈d9 rs->(∀b∈f,b.lo∈d9 rs/\b.hi∈d9 rs/\∀t∈b.ln,t.1∈rs.map (·.x0)++rs.map (·.x1)/\t.2∈rs.map (·.x0)++rs.map (·.x1))->
   ∀b∈bF rs f p,b.lo∈d9 rs/\b.hi∈d9 rs/\∀t∈b.ln,t.1∈rs.map (·.x0)++rs.map (·.x1)/\t.2∈rs.map (·.x0)++rs.map (·.x1):=λf p h1 h2 hf b hb=> by
  rcases aDd f with rfl | ⟨g,t,rfl⟩
  ·rw [gC] at hb;split at hb
   ·cases hb
   ·rw [List.mem_singleton.mp hb];exact ⟨h1,h2,shr _ _⟩
  ·rw [List.concat_eq_append] at*;rw [e8] at hb;split at hb
   ·exact hf b hb
   ·split at hb
    ·rcases aCt.mp hb with z | z
     ·exact hf b (by simp [z])
     ·rw [List.mem_singleton.mp z];exact ⟨(hf t (by simp)).1,h2,shr _ _⟩
    ·rcases aCt.mp hb with z | z
     ·exact hf b z
     ·rw [List.mem_singleton.mp z];exact ⟨h1,h2,shr _ _⟩
 have go:∀(l:List P2) (f:List Bd),(∀p∈l,p.1∈d9 rs/\p.2∈d9 rs)->(∀b∈f,b.lo∈d9 rs/\b.hi∈d9 rs/\∀t∈b.ln,t.1∈rs.map (·.x0)++rs.map (·.x1)/\t.2∈rs.map (·.x0)++rs.map (·.x1))->
   ∀b∈l.foldl (bF rs) f,b.lo∈d9 rs/\b.hi∈d9 rs/\∀t∈b.ln,t.1∈rs.map (·.x0)++rs.map (·.x1)/\t.2∈rs.map (·.x0)++rs.map (·.x1):=by
  intro l
  induction l with
  | nil=> intro f _ hf;exact hf
  | cons p l ih=>
   intro f hl hf;exact ih _ (λq hq=> hl q (aCr _ hq)) (step f p (hl p aCq).1 (hl p aCq).2 hf)
 refine go _ [] (λp hp=> ?_) (by simp);obtain ⟨h1,h2⟩:=aG4 (show (p.1,p.2)∈_ from hp);exact ⟨h1,List.mem_of_mem_tail h2⟩
end LR
namespace K02
open PySem PyProof.Rows L2 D3
def top (i:Nat):Stmt:=PySem.Challenge.pw_maskwright_k02_regions_of_rectangles.main.body.getD i (.Pass ⟨0,0,0,0⟩)
section
variable {P:Program} {w:World} {K:aGp} {mg:Str->Option Value} {base:Heap} {k:Nat}
abbrev m7 : Stmt := top 1
theorem jT:bH ["bands","kept","y0","y1","stretches"] ["bands"] (aG m7):=⟨rfl,rfl,rfl,by decide+kernel,rfl,by decide+kernel,by decide+kernel⟩
theorem MI (B:Bl mg):yM P w K mg base k "joined" ["bands","kept","y0","y1","stretches"] m7 (LR.pJ):=by
 intro f cdv A outer s H E hr;refine' aF ?_ ?_;refine' dZ 1 ?_ ?_;exact jT.nd;refine' fS ?_;exact aD;refine' aF ?_ ?_;refine' fR ?h8 ?h9 ?_ ?h11 ?h12 ?_
 case h8=> exact aDp
 case h9=> exact rfl
 case h11=> exact gM rfl (aS (aO 2 jT.nd) (aS (aO 3 jT.nd) (aS (aO 4 jT.nd) eJ)))
 case h12=> exact gQ (aT (aM 2) (aT (aM 3) (aT (aM 4) eL)))
 refine' fB ?_;exact aA 0;refine' aF ?_ ?_;refine' dR ?_ ?_ ?_;refine' rC ?_;refine' e9 ?_;exact aA 4;refine' aK ?_;exact CC;exact cU;refine' aK ?_;refine' dR ?_ ?_ ?_;refine' LW.lt ?_;refine' rB ?_ ?_;refine' e9 ?_;exact aA 1;refine' rB ?_ ?_;refine' bT ?_ ?_ ?_ ?_;exact i6 hr.units;refine' bK ?h37 ?_ ?_ ?_
 case h37=> exact lK
 refine' bK ?h41 ?_ ?_ ?_
 case h41=> exact lK
 exact aA 1;refine' fL ?_ ?_;exact dH;exact le_int;exact λ_ _=> rfl;exact le_int;exact λ_ _=> rfl;exact aA 2;exact dX _;refine' zH ?_;refine' bT ?_ ?_ ?_ ?_;exact i6 hr.units;refine' bK ?h52 ?_ ?_ ?_
 case h52=> exact lK
 refine' bK ?h56 ?_ ?_ ?_
 case h56=> exact lK
 exact aA 1;refine' fL ?_ ?_;exact dH;exact le_int;exact λ_ _=> rfl;exact le_int;exact λ_ _=> rfl;exact aA 4;exact dX _;refine' aK ?_;refine' qF ?_ ?_ ?_;refine' cO ?_;refine' aE ?_ ?_;refine' bK ?h69 ?_ ?_ ?_
 case h69=> exact lK
 refine' bK ?h73 ?_ ?_ ?_
 case h73=> exact lK
 exact aA 1;refine' fL ?_ ?_;exact dH;exact le_int;exact λ_ _=> rfl;exact le_int;exact λ_ _=> rfl;refine' aE ?_ ?_;exact aA 3;refine' aE ?_ ?_;exact aA 4;exact aD;exact aA 1;refine' fL ?_ ?_;exact dH;exact le_int;refine' aK ?_;refine' sR ?_;refine' mJ ?h87 ?h88 ?h89 ?h90 ?_ ?_
 case h87=> exact aDg
 case h88=> exact aDi
 case h89=> exact aDj
 case h90=> exact dF
 exact aA 1;refine' aE ?_ ?_;refine' cO ?_;refine' aE ?_ ?_;exact aA 2;refine' aE ?_ ?_;exact aA 3;refine' aE ?_ ?_;exact aA 4;exact aD;exact aD;refine' aK ?_;refine' bZ ?_;refine' L8 ?h104 ?h105 ?h106 ?_
 case h104=> exact vT
 case h105=> exact B.tuple
 case h106=> exact iS
 refine' aE ?_ ?_;exact aA 1;exact aD
abbrev m6 : Stmt := top 2
theorem IA:bH ["edges"] ["edges"] (aG m6):=⟨rfl,rfl,rfl,by decide+kernel,rfl,by decide+kernel,by decide+kernel⟩
theorem MG (B:Bl mg):yM P w K mg base k "paired" ["edges"] m6 (LR.pI):=by
 intro f cdv A outer s H E hr;refine' aK ?_;refine' bZ ?_;refine' YR ?h3 ?h4 ?h5 ?h6 ?h7 ?_
 case h3=> exact RJ
 case h4=> exact show 0 < 2/\2<=1000 by decide
 case h5=> exact rfl
 case h6=> exact B.tuple
 case h7=> exact B.zip
 refine' aE ?_ ?_;refine' E3 ?_ ?_ ?_ ?_;exact aA 0;exact kK;exact kK;refine' m9 ?_;exact le_int;refine' aE ?_ ?_;refine' E3 ?_ ?_ ?_ ?_;exact aA 0;refine' m9 ?_;exact le_int;exact kK;refine' m9 ?_;exact le_int;exact aD
abbrev gZ : Stmt := top 3
theorem eZ:bH ["steps","stretches","more","x0","x1","x","change"] ["steps","stretches","more"] (aG gZ):=⟨rfl,rfl,rfl,by decide+kernel,rfl,by decide+kernel,by decide+kernel⟩
theorem CJ (B:Bl mg):yM P w K mg base k "add_steps" ["steps","stretches","more","x0","x1","x","change"] gZ (LR.iX):=by
 intro f cdv A outer s H E hr;refine' aK ?_;refine' fR ?h2 ?h3 ?_ ?h5 ?h6 ?_
 case h2=> exact aDp
 case h3=> exact rfl
 case h5=> exact gM rfl (aS (aO 3 eZ.nd) (aS (aO 4 eZ.nd) eJ))
 case h6=> exact gQ (aT (aM 3) (aT (aM 4) eL))
 refine' fB ?_;exact aA 1;refine' aK ?_;refine' fR ?h10 ?h11 ?_ ?h13 ?h14 ?_
 case h10=> exact aDp
 case h11=> exact rfl
 case h13=> exact gM rfl (aS (aO 5 eZ.nd) (aS (aO 6 eZ.nd) eJ))
 case h14=> exact gQ (aT (aM 5) (aT (aM 6) eL))
 refine' fB ?_;refine' cO ?_;refine' aE ?_ ?_;refine' cO ?_;refine' aE ?_ ?_;exact aA 3;refine' aE ?_ ?_;exact aA 2;exact aD;refine' aE ?_ ?_;refine' cO ?_;refine' aE ?_ ?_;exact aA 4;refine' aE ?_ ?_;refine' fL ?_ ?_;exact dH;exact aA 2;exact aD;exact aD;refine' aF ?_ ?_;refine' QH ?h36 ?_ ?_ ?_
 case h36=> exact hr.units
 refine' bS ?_ ?_ ?_;exact gO;refine' QN ?h43 ?_ ?_ ?_
 case h43=> exact hr.units
 exact aA 0;exact aA 5;exact le_int;exact aA 6;exact aA 0;exact aA 5;refine' aK ?_;refine' dR ?_ ?_ ?_;refine' bT ?_ ?_ ?_ ?_;exact i6 hr.units;refine' bK ?h55 ?_ ?_ ?_
 case h55=> exact ixD hr.units
 exact aA 0;exact aA 5;exact λ_ _=> rfl;exact le_int;exact dX _;refine' aK ?_;refine' QJ ?_ ?_;exact aA 0;exact aA 5;exact cU
abbrev kD : Stmt := top 4
theorem fQ:bH ["steps","least","edges","deep","x","ahead"] ["steps","least"] (aG kD):=⟨rfl,rfl,rfl,by decide+kernel,rfl,by decide+kernel,by decide+kernel⟩
theorem IT (B:Bl mg) {s0:OA} (vM:Fn P w K mg base k "paired" ["edges"] s0):yM P w K mg base k "covered" ["steps","least","edges","deep","x","ahead"] kD (LR.mY s0):=by
 intro f cdv A outer s H E hr;refine' aF ?_ ?_;refine' dZ 2 ?_ ?_;exact fQ.nd;refine' fS ?_;exact aD;refine' aF ?_ ?_;refine' dZ 3 ?_ ?_;exact fQ.nd;exact le_int;refine' aF ?_ ?_;refine' fR ?h12 ?h13 ?_ ?h15 ?h16 ?_
 case h12=> exact aDp
 case h13=> exact rfl
 case h15=> exact aO 4 fQ.nd
 case h16=> exact aM 4
 refine' fB ?_;refine' d7 ?h19 ?h20 ?h21 ?_
 case h19=> exact vU hr.units rfl
 case h20=> exact B.sorted
 case h21=> exact j4
 refine' aE ?_ ?_;exact aA 0;exact aD;refine' aF ?_ ?_;refine' dZ 5 ?_ ?_;exact fQ.nd;exact aA 3;refine' aF ?_ ?_;refine' UU 3 ?h31 ?h32 ?_
 case h31=> exact fQ.nd
 case h32=> exact P6
 refine' bK ?h34 ?_ ?_ ?_
 case h34=> exact ixD hr.units
 exact aA 0;exact aA 4;exact λ_ _=> rfl;refine' aK ?_;refine' dR ?_ ?_ ?_;refine' bT ?_ ?_ ?_ ?_;exact BX hr.units;refine' rE ?_ ?_ ?_ ?_;exact BY hr.units;exact aA 5;exact aA 1;exact dX _;refine' rE ?_ ?_ ?_ ?_;exact BY hr.units;exact aA 3;exact aA 1;exact dX _;exact dX _;refine' aK ?_;refine' sR ?_;refine' mJ ?h56 ?h57 ?h58 ?h59 ?_ ?_
 case h56=> exact aDg
 case h57=> exact aDi
 case h58=> exact aDj
 case h59=> exact dF
 exact aA 2;refine' aE ?_ ?_;exact aA 4;exact aD;exact cU;refine' aK ?_;refine' bZ ?_;refine' cH ?h66 ?h67 ?_
 case h66=> exact vM
 case h67=> exact hr
 refine' aE ?_ ?_;exact aA 2;exact aD
abbrev kC : Stmt := top 5
theorem cK:bH ["bands","least","changes","y0","y1","stretches","cuts","steps","rows","y","more"] ["bands","least"] (aG kC):=⟨rfl,rfl,rfl,by decide+kernel,rfl,by decide+kernel,by decide+kernel⟩
theorem IS (B:Bl mg) {s0:OA} (mP:Fn P w K mg base k "add_steps" ["steps","stretches","more"] s0) {s1:OA} (rK:Fn P w K mg base k "covered" ["steps","least"] s1) {s2:OA} (vN:Fn P w K mg base k "joined" ["bands"] s2):yM P w K mg base k "stacked" ["bands","least","changes","y0","y1","stretches","cuts","steps","rows","y","more"] kC (LR.mX s0 s1 s2):=by
 intro f cdv A outer s H E hr;refine' aF ?_ ?_;refine' dZ 2 ?_ ?_;exact cK.nd;exact G0;refine' aF ?_ ?_;refine' fR ?h7 ?h8 ?_ ?h10 ?h11 ?_
 case h7=> exact aDp
 case h8=> exact rfl
 case h10=> exact gM rfl (aS (aO 3 cK.nd) (aS (aO 4 cK.nd) (aS (aO 5 cK.nd) eJ)))
 case h11=> exact gQ (aT (aM 3) (aT (aM 4) (aT (aM 5) eL)))
 refine' fB ?_;exact aA 0;refine' aF ?_ ?_;refine' sR ?_;refine' mJ ?h17 ?h18 ?h19 ?h20 ?_ ?_
 case h17=> exact aDg
 case h18=> exact aDi
 case h19=> exact aDj
 case h20=> exact dF
 refine' GZ ?_ ?_ ?_;exact aA 2;exact aA 3;refine' fS ?_;exact aD;refine' aE ?_ ?_;refine' cO ?_;refine' aE ?_ ?_;exact aA 5;refine' aE ?_ ?_;exact le_int;exact aD;exact aD;refine' aK ?_;refine' sR ?_;refine' mJ ?h36 ?h37 ?h38 ?h39 ?_ ?_
 case h36=> exact aDg
 case h37=> exact aDi
 case h38=> exact aDj
 case h39=> exact dF
 refine' GZ ?_ ?_ ?_;exact aA 2;exact aA 4;refine' fS ?_;exact aD;refine' aE ?_ ?_;refine' cO ?_;refine' aE ?_ ?_;exact aA 5;refine' aE ?_ ?_;refine' fL ?_ ?_;exact dH;exact le_int;exact aD;exact aD;refine' aF ?_ ?_;refine' dZ 6 ?_ ?_;exact cK.nd;refine' d7 ?h59 ?h60 ?h61 ?_
 case h59=> exact vU hr.units rfl
 case h60=> exact B.sorted
 case h61=> exact j4
 refine' aE ?_ ?_;exact aA 2;exact aD;refine' aF ?_ ?_;refine' dZ 7 ?_ ?_;exact cK.nd;exact G0;refine' aF ?_ ?_;refine' dZ 8 ?_ ?_;exact cK.nd;refine' fS ?_;exact aD;refine' aF ?_ ?_;refine' fR ?h76 ?h77 ?_ ?h79 ?h80 ?_
 case h76=> exact aDp
 case h77=> exact rfl
 case h79=> exact aO 9 cK.nd
 case h80=> exact aM 9
 refine' fB ?_;exact aA 6;refine' aF ?_ ?_;refine' fR ?h85 ?h86 ?_ ?h88 ?h89 ?_
 case h85=> exact aDp
 case h86=> exact rfl
 case h88=> exact gM rfl (aS (aO 5 cK.nd) (aS (aO 10 cK.nd) eJ))
 case h89=> exact gQ (aT (aM 5) (aT (aM 10) eL))
 refine' fB ?_;refine' bK ?h92 ?_ ?_ ?_
 case h92=> exact ixD hr.units
 exact aA 2;exact aA 9;exact λ_ _=> rfl;refine' aK ?_;refine' sR ?_;refine' cH ?h98 ?h99 ?_
 case h98=> exact mP
 case h99=> exact hr
 refine' aE ?_ ?_;exact aA 7;refine' aE ?_ ?_;exact aA 5;refine' aE ?_ ?_;exact aA 10;exact aD;refine' aK ?_;refine' sR ?_;refine' mJ ?h109 ?h110 ?h111 ?h112 ?_ ?_
 case h109=> exact aDg
 case h110=> exact aDi
 case h111=> exact aDj
 case h112=> exact dF
 exact aA 8;refine' aE ?_ ?_;refine' cH ?h117 ?h118 ?_
 case h117=> exact rK
 case h118=> exact hr
 refine' aE ?_ ?_;exact aA 7;refine' aE ?_ ?_;exact aA 1;exact aD;exact aD;refine' aK ?_;refine' bZ ?_;refine' cH ?h126 ?h127 ?_
 case h126=> exact vN
 case h127=> exact hr
 refine' aE ?_ ?_;refine' YS ?h131 ?h132 ?h133 ?h134 ?h135 ?_
 case h131=> exact WW
 case h132=> exact show 0 < 3/\3<=1000 by decide
 case h133=> exact rfl
 case h134=> exact B.list
 case h135=> exact B.zip
 refine' aE ?_ ?_;exact aA 6;refine' aE ?_ ?_;refine' CH ?h141 ?_ ?_ ?_
 case h141=> exact sll
 exact aA 6;refine' m9 ?_;exact le_int;exact kK;refine' aE ?_ ?_;exact aA 8;exact aD;exact aD
abbrev jR : Stmt := top 6
theorem HZ:bH ["rects"] ["rects"] (aG jR):=⟨rfl,rfl,rfl,by decide+kernel,rfl,by decide+kernel,by decide+kernel⟩
theorem MF (B:Bl mg) {s0:OA} (rJ:WC P w K mg base k "stacked" ["bands","least"] 1 s0):yM P w K mg base k "region" ["rects"] jR (LR.pH s0):=by
 intro f cdv A outer s H E hr;refine' aK ?_;refine' bZ ?_;refine' MC ?h3 ?h4 ?_
 case h3=> exact rJ
 case h4=> exact hr
 refine' aE ?_ ?_;refine' vE (N:=["rects"]) (sc:=aG jR) ["x0","y0","x1","y1"] [] ?h8 ?h9 ?h10 ?h11 ?h12 ?h13 ?h14 ?h15 ?h16 ?h17 ?h18
 case h8=> exact rfl
 case h9=> exact rfl
 case h10=> decide+kernel
 case h11=> exact rfl
 case h12=>
  refine' fB ?_;exact aA 0
 case h15=> exact gQ (aT (aM 0) (aT (aM 1) (aT (aM 2) (aT (aM 3) eL))))
 case h13=> exact CY (iD aP (b7 aP (b7 aP (b7 aP eS))) (cV (i:=0) (by decide)) (iD aP (b7 aP (b7 aP eS)) (cV (i:=1) (by decide)) (iD aP (b7 aP eS) (cV (i:=2) (by decide)) (iD aP eS (cV (i:=3) (by decide)) CZ))))
 case h14=> exact xX (b7 aP (b7 aP (b7 aP (b7 aP eS))))
 case h16=> exact λ_ _ _ _ _=> (gM rfl (aS (aO 0 (show (_:List Str).Nodup from (by decide+kernel:(["x0","y0","x1","y1"]:List Str).Nodup))) (aS (aO 1 (show (_:List Str).Nodup from (by decide+kernel:(["x0","y0","x1","y1"]:List Str).Nodup))) (aS (aO 2 (show (_:List Str).Nodup from (by decide+kernel:(["x0","y0","x1","y1"]:List Str).Nodup))) (aS (aO 3 (show (_:List Str).Nodup from (by decide+kernel:(["x0","y0","x1","y1"]:List Str).Nodup))) eJ)))))
 case h17=>
  intro _ _ _ _ _;exact qE
 case h18=>
  intro _ _ _ _ _;refine' cO ?_;refine' aE ?_ ?_;exact aA 1;refine' aE ?_ ?_;exact aA 3;refine' aE ?_ ?_;refine' cO ?_;refine' aE ?_ ?_;refine' cO ?_;refine' aE ?_ ?_;exact aA 0;refine' aE ?_ ?_;exact aA 2;exact aD;exact aD;exact aD
 exact aD
abbrev i5 : Stmt := top 8
theorem dQ:bH ["_law_script","_law_at","_law_cell","_law_mix","_law_k"] ["_law_script","_law_at"] (aG i5):=⟨rfl,rfl,rfl,by decide+kernel,rfl,by decide+kernel,by decide+kernel⟩
def n4:WS:=(cS (bL oMod (bL P8 (bL mG (bL mG (bL uZ (aC 3) (wC (.int 48271))) (bL oMod (bL iC (aC 0) (aC 4)) (wC (.int 2147483647)))) (bL uZ (aC 4) (aC 4))) (wC (.int 5))) (wC (.int 2147483629))) (gN 3))
def pL:WS:=(eW (nM (aB (aC 2) (aB (aC 3) aI))))
def j7:WS:=(bG (gK (eA (bL oLt (aC 2) (bL P8 (wC (.int 10)) (wC (.int 18))))) (cS (wC (.int 0)) (gN 2)) d5) (pL))
def pM:WS:=(bG (nN (rZ (aB (aJ yL (aB (aJ gG (aB (aC 0) aI)) (aB (wC (.int 60)) aI))) aI)) (gN 4) (n4)) (j7))
def j8:WS:=(bG (cS (bL mG (bL mG (bL uZ (bL uZ (wC (.int 7919)) (aC 1)) (aC 1)) (bL uZ (wC (.int 104729)) (aC 1))) (wC (.int 17))) (gN 3)) (pM))
def pN:WS:=(bG (gK (eA (bL oLt (aC 1) (aJ gG (aB (aC 0) aI)))) (cS (aJ RC (aB (bL iC (aC 0) (aC 1)) aI)) (gN 2)) d5) (j8))
def j9:WS:=(bG (cS (wC (.int 0)) (gN 2)) (pN))
theorem E5 (B:Bl mg):yM P w K mg base k "_law_bag" ["_law_script","_law_at","_law_cell","_law_mix","_law_k"] i5 (j9):=by
 intro f cdv A outer s H E hr;refine' aF ?_ ?_;refine' dZ 2 ?_ ?_;exact dQ.nd;exact le_int;refine' aF ?_ ?_;refine' dR ?_ ?_ ?_;refine' bT ?_ ?_ ?_ ?_;exact BY hr.units;exact aA 1;refine' d7 ?h14 ?h15 ?h16 ?_
 case h14=> exact fF
 case h15=> exact B.len
 case h16=> exact fG
 refine' aE ?_ ?_;exact aA 0;exact aD;exact dX _;refine' aK ?_;refine' dZ 2 ?_ ?_;exact dQ.nd;refine' d7 ?h23 ?h24 ?h25 ?_
 case h23=> exact V1
 case h24=> exact B.abs
 case h25=> exact V3
 refine' aE ?_ ?_;refine' bK ?h29 ?_ ?_ ?_
 case h29=> exact lK
 exact aA 0;exact aA 1;exact λ_ _=> rfl;exact aD;exact cU;refine' aF ?_ ?_;refine' dZ 3 ?_ ?_;exact dQ.nd;refine' bS ?_ ?_ ?_;exact gO;refine' bS ?_ ?_ ?_;exact gO;refine' bS ?_ ?_ ?_;exact jG;refine' bS ?_ ?_ ?_;exact jG;exact le_int;exact aA 1;exact aA 1;refine' bS ?_ ?_ ?_;exact jG;exact le_int;exact aA 1;exact le_int;refine' aF ?_ ?_;refine' fR ?h54 ?h55 ?_ ?h57 ?h58 ?_
 case h54=> exact aDp
 case h55=> exact rfl
 case h57=> exact aO 4 dQ.nd
 case h58=> exact aM 4
 refine' jX ?h60 ?h61 ?_
 case h60=> exact rfl
 case h61=> exact B.range
 refine' aE ?_ ?_;refine' d7 ?h65 ?h66 ?h67 ?_
 case h65=> exact AG rfl
 case h66=> exact B.min
 case h67=> exact FN
 refine' aE ?_ ?_;refine' d7 ?h71 ?h72 ?h73 ?_
 case h71=> exact fF
 case h72=> exact B.len
 case h73=> exact fG
 refine' aE ?_ ?_;exact aA 0;exact aD;refine' aE ?_ ?_;exact le_int;exact aD;exact aD;refine' aK ?_;refine' dZ 3 ?_ ?_;exact dQ.nd;refine' bS ?_ ?_ ?_;exact rA;refine' bS ?_ ?_ ?_;exact ER;refine' bS ?_ ?_ ?_;exact gO;refine' bS ?_ ?_ ?_;exact gO;refine' bS ?_ ?_ ?_;exact jG;exact aA 3;exact le_int;refine' bS ?_ ?_ ?_;exact rA;refine' bK ?h100 ?_ ?_ ?_
 case h100=> exact lK
 exact aA 0;exact aA 4;exact λ_ _=> rfl;exact le_int;refine' bS ?_ ?_ ?_;exact jG;exact aA 4;exact aA 4;exact le_int;exact le_int;refine' aF ?_ ?_;refine' dR ?_ ?_ ?_;refine' bT ?_ ?_ ?_ ?_;exact BY hr.units;exact aA 2;refine' bS ?_ ?_ ?_;exact ER;exact le_int;exact le_int;exact dX _;refine' aK ?_;refine' dZ 2 ?_ ?_;exact dQ.nd;exact le_int;exact cU;refine' aK ?_;refine' bZ ?_;refine' fS ?_;refine' aE ?_ ?_;exact aA 2;refine' aE ?_ ?_;exact aA 3;exact aD
abbrev g7 : Stmt := top 9
theorem dW:bH ["_law_bag_here","_law_many","_law_digit","_law_number_here","_law_room"] ["_law_bag_here","_law_many"] (aG g7):=⟨rfl,rfl,rfl,by decide+kernel,rfl,by decide+kernel,by decide+kernel⟩
def jO:WS:=(cS (bL uZ (aC 4) (wC (.int 1073741789))) (gN 4))
def jP:WS:=(bG (cS (bL mG (bL uZ (aC 3) (wC (.int 1073741789))) (bL oMod (bL uZ (bL LM (bL iC (aC 0) (wC (.int 1))) (wC (.int 8))) (wC (.int 69621))) (wC (.int 1073741789)))) (gN 3)) (jO))
def lQ:WS:=(bG (tV (bL oMod (bL P8 (bL mG (bL uZ (bL iC (aC 0) (wC (.int 1))) (wC (.int 48271))) (wC (.int 7919))) (wC (.int 3))) (wC (.int 2147483629))) (aC 0) (wC (.int 1))) (jP))
def jC:WS:=(eW (bL oMod (aC 3) (aC 1)))
def nS:WS:=(bG (D4 (eA (bL oLt (aC 4) (aC 1))) (lQ)) (jC))
def nT:WS:=(bG (cS (wC (.int 1)) (gN 4)) (nS))
def nU:WS:=(bG (cS (wC (.int 0)) (gN 3)) (nT))
def iY:WS:=(bG (gK (eA (bL N5 (bL iC (aC 0) (wC (.int 0))) (wC (.int 0)))) (bG (cS (bL oMod (bL iC (aC 0) (wC (.int 0))) (aC 1)) (gN 2)) (bG (tV (bL LM (bL iC (aC 0) (wC (.int 0))) (aC 1)) (aC 0) (wC (.int 0))) (eW (aC 2)))) d5) (nU))
theorem CK (B:Bl mg):yM P w K mg base k "_law_take" ["_law_bag_here","_law_many","_law_digit","_law_number_here","_law_room"] g7 (iY):=by
 intro f cdv A outer s H E hr;refine' aF ?_ ?_;refine' dR ?_ ?_ ?_;refine' bT ?_ ?_ ?_ ?_;exact sE hr.units;refine' bK ?h10 ?_ ?_ ?_
 case h10=> exact lK
 exact aA 0;exact le_int;exact λ_ _=> rfl;exact le_int;exact dX _;refine' aF ?_ ?_;refine' dZ 2 ?_ ?_;exact dW.nd;refine' bS ?_ ?_ ?_;exact rA;refine' bK ?h21 ?_ ?_ ?_
 case h21=> exact lK
 exact aA 0;exact le_int;exact λ_ _=> rfl;exact aA 1;refine' aF ?_ ?_;refine' qF ?_ ?_ ?_;refine' bS ?_ ?_ ?_;exact GP;refine' bK ?h33 ?_ ?_ ?_
 case h33=> exact lK
 exact aA 0;exact le_int;exact λ_ _=> rfl;exact aA 1;exact aA 0;exact le_int;refine' aK ?_;refine' bZ ?_;exact aA 2;exact cU;refine' aF ?_ ?_;refine' dZ 3 ?_ ?_;exact dW.nd;exact le_int;refine' aF ?_ ?_;refine' dZ 4 ?_ ?_;exact dW.nd;exact le_int;refine' aF ?_ ?_;refine' L4 ?h49 ?_ ?_
 case h49=> exact aDp
 refine' bT ?_ ?_ ?_ ?_;exact BY hr.units;exact aA 4;exact aA 1;exact dX _;refine' aF ?_ ?_;refine' qF ?_ ?_ ?_;refine' bS ?_ ?_ ?_;exact rA;refine' bS ?_ ?_ ?_;exact ER;refine' bS ?_ ?_ ?_;exact gO;refine' bS ?_ ?_ ?_;exact jG;refine' bK ?h73 ?_ ?_ ?_
 case h73=> exact lK
 exact aA 0;exact le_int;exact λ_ _=> rfl;exact le_int;exact le_int;exact le_int;exact le_int;exact aA 0;exact le_int;refine' aF ?_ ?_;refine' dZ 3 ?_ ?_;exact dW.nd;refine' bS ?_ ?_ ?_;exact gO;refine' bS ?_ ?_ ?_;exact jG;exact aA 3;exact le_int;refine' bS ?_ ?_ ?_;exact rA;refine' bS ?_ ?_ ?_;exact jG;refine' bS ?_ ?_ ?_;exact GP;refine' bK ?h96 ?_ ?_ ?_
 case h96=> exact lK
 exact aA 0;exact le_int;exact λ_ _=> rfl;exact le_int;exact le_int;exact le_int;refine' aK ?_;refine' dZ 4 ?_ ?_;exact dW.nd;refine' bS ?_ ?_ ?_;exact jG;exact aA 4;exact le_int;refine' aK ?_;refine' bZ ?_;refine' bS ?_ ?_ ?_;exact rA;exact aA 3;exact aA 1
abbrev eY : Stmt := top 10
theorem uM:bH ["_law_bag_here","_law_sort","_law_some"] ["_law_bag_here","_law_sort","_law_some"] (aG eY):=⟨rfl,rfl,rfl,by decide+kernel,rfl,by decide+kernel,by decide+kernel⟩
theorem wG (B:Bl mg) {s0:OA} (bC:Fn P w K mg base k "_law_take" ["_law_bag_here","_law_many"] s0):yM P w K mg base k "_law_number" ["_law_bag_here","_law_sort","_law_some"] eY (LR.fY s0):=by
 intro f cdv A outer s H E hr;refine' aF ?_ ?_;refine' dR ?_ ?_ ?_;refine' bT ?_ ?_ ?_ ?_;exact i6 hr.units;exact aA 1;exact le_int;exact dX _;refine' aK ?_;refine' bZ ?_;refine' bS ?_ ?_ ?_;exact uW;refine' cH ?h15 ?h16 ?_
 case h15=> exact bC
 case h16=> exact hr
 refine' aE ?_ ?_;exact aA 0;refine' aE ?_ ?_;exact le_int;exact aD;exact le_int;exact cU;refine' aF ?_ ?_;refine' dR ?_ ?_ ?_;refine' bT ?_ ?_ ?_ ?_;exact i6 hr.units;exact aA 1;exact le_int;exact dX _;refine' aK ?_;refine' bZ ?_;refine' bS ?_ ?_ ?_;exact uW;refine' cH ?h36 ?h37 ?_
 case h36=> exact bC
 case h37=> exact hr
 refine' aE ?_ ?_;exact aA 0;refine' aE ?_ ?_;exact le_int;exact aD;exact le_int;exact cU;refine' aF ?_ ?_;refine' dR ?_ ?_ ?_;refine' bT ?_ ?_ ?_ ?_;exact i6 hr.units;exact aA 1;exact le_int;exact dX _;refine' aK ?_;refine' bZ ?_;refine' bS ?_ ?_ ?_;exact uW;refine' cH ?h57 ?h58 ?_
 case h57=> exact bC
 case h58=> exact hr
 refine' aE ?_ ?_;exact aA 0;refine' aE ?_ ?_;refine' bS ?_ ?_ ?_;exact gO;refine' bS ?_ ?_ ?_;exact jG;exact le_int;exact le_int;exact le_int;exact aD;exact le_int;exact cU;refine' aK ?_;refine' bZ ?_;refine' bK ?h72 ?_ ?_ ?_
 case h72=> exact lK
 exact aA 2;refine' cH ?h76 ?h77 ?_
 case h76=> exact bC
 case h77=> exact hr
 refine' aE ?_ ?_;exact aA 0;refine' aE ?_ ?_;refine' d7 ?h83 ?h84 ?h85 ?_
 case h83=> exact fF
 case h84=> exact B.len
 case h85=> exact fG
 refine' aE ?_ ?_;exact aA 2;exact aD;exact aD;exact λ_ _=> rfl
abbrev g8 : Stmt := top 11
theorem kE:bH ["_law_bag_here","_law_sort","_law_some","_law_one","_law_other"] ["_law_bag_here","_law_sort","_law_some"] (aG g8):=⟨rfl,rfl,rfl,by decide+kernel,rfl,by decide+kernel,by decide+kernel⟩
theorem CL (B:Bl mg) {s0:OA} (gA:Fn P w K mg base k "_law_number" ["_law_bag_here","_law_sort","_law_some"] s0):yM P w K mg base k "_law_side" ["_law_bag_here","_law_sort","_law_some","_law_one","_law_other"] g8 (LR.iZ s0):=by
 intro f cdv A outer s H E hr;refine' aF ?_ ?_;refine' dZ 3 ?_ ?_;exact kE.nd;refine' cH ?h5 ?h6 ?_
 case h5=> exact gA
 case h6=> exact hr
 refine' aE ?_ ?_;exact aA 0;refine' aE ?_ ?_;exact aA 1;refine' aE ?_ ?_;exact aA 2;exact aD;refine' aF ?_ ?_;refine' dZ 4 ?_ ?_;exact kE.nd;refine' cH ?h18 ?h19 ?_
 case h18=> exact gA
 case h19=> exact hr
 refine' aE ?_ ?_;exact aA 0;refine' aE ?_ ?_;exact aA 1;refine' aE ?_ ?_;exact aA 2;exact aD;refine' aF ?_ ?_;refine' dR ?_ ?_ ?_;refine' bT ?_ ?_ ?_ ?_;exact i6 hr.units;exact aA 3;exact aA 4;exact dX _;refine' aK ?_;refine' bZ ?_;refine' MA ?_ ?_ ?_;refine' bT ?_ ?_ ?_ ?_;exact i6 hr.units;exact aA 3;exact le_int;exact dX _;refine' cO ?_;refine' aE ?_ ?_;refine' bS ?_ ?_ ?_;exact uW;exact aA 3;exact le_int;refine' aE ?_ ?_;exact aA 3;exact aD;refine' cO ?_;refine' aE ?_ ?_;exact aA 3;refine' aE ?_ ?_;refine' bS ?_ ?_ ?_;exact gO;exact aA 3;exact le_int;exact aD;exact cU;refine' aK ?_;refine' bZ ?_;refine' cO ?_;refine' aE ?_ ?_;refine' d7 ?h66 ?h67 ?h68 ?_
 case h66=> exact AG rfl
 case h67=> exact B.min
 case h68=> exact FN
 refine' aE ?_ ?_;exact aA 3;refine' aE ?_ ?_;exact aA 4;exact aD;refine' aE ?_ ?_;refine' d7 ?h76 ?h77 ?h78 ?_
 case h76=> exact HG rfl
 case h77=> exact B.max
 case h78=> exact NT
 refine' aE ?_ ?_;exact aA 3;refine' aE ?_ ?_;exact aA 4;exact aD;exact aD
abbrev eB : Stmt := top 12
theorem bM:bH ["_law_bag_here","_law_most","_law_sort","_law_many","_law_some","_law_found","_law_k","_law_left","_law_right","_law_low","_law_high"] ["_law_bag_here","_law_most"] (aG eB):=⟨rfl,rfl,rfl,by decide+kernel,rfl,by decide+kernel,by decide+kernel⟩
theorem zL (B:Bl mg) {s0:OA} (bC:Fn P w K mg base k "_law_take" ["_law_bag_here","_law_many"] s0) {s1:OA} (i9:Fn P w K mg base k "_law_side" ["_law_bag_here","_law_sort","_law_some"] s1):yM P w K mg base k "_law_rects" ["_law_bag_here","_law_most","_law_sort","_law_many","_law_some","_law_found","_law_k","_law_left","_law_right","_law_low","_law_high"] eB (LR.gW s0 s1):=by
 intro f cdv A outer s H E hr;refine' aF ?_ ?_;refine' dZ 2 ?_ ?_;exact bM.nd;refine' cH ?h5 ?h6 ?_
 case h5=> exact bC
 case h6=> exact hr
 refine' aE ?_ ?_;exact aA 0;refine' aE ?_ ?_;exact le_int;exact aD;refine' aF ?_ ?_;refine' dZ 3 ?_ ?_;exact bM.nd;refine' cH ?h16 ?h17 ?_
 case h16=> exact bC
 case h17=> exact hr
 refine' aE ?_ ?_;exact aA 0;refine' aE ?_ ?_;refine' bK ?h23 ?_ ?_ ?_
 case h23=> exact lK
 refine' fS ?_;refine' aE ?_ ?_;refine' bS ?_ ?_ ?_;exact gO;exact aA 1;exact le_int;refine' aE ?_ ?_;exact le_int;refine' aE ?_ ?_;exact le_int;refine' aE ?_ ?_;exact le_int;exact aD;refine' cH ?h39 ?h40 ?_
 case h39=> exact bC
 case h40=> exact hr
 refine' aE ?_ ?_;exact aA 0;refine' aE ?_ ?_;exact le_int;exact aD;exact λ_ _=> rfl;exact aD;refine' aF ?_ ?_;refine' dZ 4 ?_ ?_;exact bM.nd;refine' bS ?_ ?_ ?_;exact gO;refine' vE (N:=["_law_bag_here","_law_most","_law_sort","_law_many","_law_some","_law_found","_law_k","_law_left","_law_right","_law_low","_law_high"]) (sc:=aG eB) ["_law_k"] [0] ?h53 ?h54 ?h55 ?h56 ?h57 ?h58 ?h59 ?h60 ?h61 ?h62 ?h63
 case h53=> exact rfl
 case h54=> exact rfl
 case h55=> decide+kernel
 case h56=> exact rfl
 case h57=>
  refine' jX ?h64 ?h65 ?_
  case h64=> exact rfl
  case h65=> exact B.range
  refine' aE ?_ ?_;exact le_int;exact aD
 case h60=> exact aM 0
 case h58=> exact cV (i:=0) (by decide)
 case h59=> exact aP
 case h61=> exact λ_ _ _ _ _=> (aO 0 (show (_:List Str).Nodup from (by decide+kernel:(["_law_k","_law_bag_here"]:List Str).Nodup)))
 case h62=>
  intro _ _ _ _ _;exact qE
 case h63=>
  intro _ _ _ _ _;refine' bS ?_ ?_ ?_;exact uW;refine' cH ?h72 ?h73 ?_
  case h72=> exact bC
  case h73=> exact hr
  refine' aE ?_ ?_;exact aA 1;refine' aE ?_ ?_;exact le_int;exact aD;exact le_int
 refine' fS ?_;refine' aE ?_ ?_;refine' fL ?_ ?_;exact dH;exact le_int;refine' aE ?_ ?_;exact le_int;refine' aE ?_ ?_;exact le_int;refine' aE ?_ ?_;exact le_int;exact aD;refine' aF ?_ ?_;refine' dZ 5 ?_ ?_;exact bM.nd;refine' fS ?_;exact aD;refine' aF ?_ ?_;refine' fR ?h97 ?h98 ?_ ?h100 ?h101 ?_
 case h97=> exact aDp
 case h98=> exact rfl
 case h100=> exact aO 6 bM.nd
 case h101=> exact aM 6
 refine' jX ?h103 ?h104 ?_
 case h103=> exact rfl
 case h104=> exact B.range
 refine' aE ?_ ?_;exact aA 3;exact aD;refine' aF ?_ ?_;refine' L5 ?_ ?h111 ?h112
 case h111=> exact gM rfl (aS (aO 7 bM.nd) (aS (aO 8 bM.nd) eJ))
 case h112=> exact gQ (aT (aM 7) (aT (aM 8) eL))
 refine' cH ?h113 ?h114 ?_
 case h113=> exact i9
 case h114=> exact hr
 refine' aE ?_ ?_;exact aA 0;refine' aE ?_ ?_;exact aA 2;refine' aE ?_ ?_;exact aA 4;exact aD;refine' aF ?_ ?_;refine' L5 ?_ ?h125 ?h126
 case h125=> exact gM rfl (aS (aO 9 bM.nd) (aS (aO 10 bM.nd) eJ))
 case h126=> exact gQ (aT (aM 9) (aT (aM 10) eL))
 refine' cH ?h127 ?h128 ?_
 case h127=> exact i9
 case h128=> exact hr
 refine' aE ?_ ?_;exact aA 0;refine' aE ?_ ?_;exact aA 2;refine' aE ?_ ?_;exact aA 4;exact aD;refine' aK ?_;refine' sR ?_;refine' mJ ?h138 ?h139 ?h140 ?h141 ?_ ?_
 case h138=> exact aDg
 case h139=> exact aDi
 case h140=> exact aDj
 case h141=> exact dF
 exact aA 5;refine' aE ?_ ?_;refine' cO ?_;refine' aE ?_ ?_;exact aA 7;refine' aE ?_ ?_;exact aA 9;refine' aE ?_ ?_;exact aA 8;refine' aE ?_ ?_;exact aA 10;exact aD;exact aD;refine' aK ?_;refine' bZ ?_;exact aA 5
abbrev g9 : Stmt := top 13
theorem hC:bH ["_law_shreds","_law_found","_law_start","_law_end"] ["_law_shreds"] (aG g9):=⟨rfl,rfl,rfl,by decide+kernel,rfl,by decide+kernel,by decide+kernel⟩
theorem CN (B:Bl mg):yM P w K mg base k "_law_line" ["_law_shreds","_law_found","_law_start","_law_end"] g9 (LR.i4):=by
 intro f cdv A outer s H E hr;refine' aF ?_ ?_;refine' dZ 1 ?_ ?_;exact hC.nd;refine' fS ?_;exact aD;refine' aF ?_ ?_;refine' fR ?h8 ?h9 ?_ ?h11 ?h12 ?_
 case h8=> exact aDp
 case h9=> exact rfl
 case h11=> exact gM rfl (aS (aO 2 hC.nd) (aS (aO 3 hC.nd) eJ))
 case h12=> exact gQ (aT (aM 2) (aT (aM 3) eL))
 refine' fB ?_;refine' d7 ?h15 ?h16 ?h17 ?_
 case h15=> exact yD hr.units
 case h16=> exact B.sorted
 case h17=> exact j4
 refine' aE ?_ ?_;exact aA 0;exact aD;refine' aK ?_;refine' dR ?_ ?_ ?_;refine' LW.lt ?_;refine' GU ?_ ?_;refine' bT ?_ ?_ ?_ ?_;exact i6 hr.units;refine' d7 ?h32 ?h33 ?h34 ?_
 case h32=> exact fF
 case h33=> exact B.len
 case h34=> exact fG
 refine' aE ?_ ?_;exact aA 1;exact aD;exact le_int;exact dX _;refine' zG ?_;refine' bT ?_ ?_ ?_ ?_;exact sE hr.units;exact aA 2;refine' bK ?h43 ?_ ?_ ?_
 case h43=> exact lK
 refine' bK ?h47 ?_ ?_ ?_
 case h47=> exact lK
 exact aA 1;refine' fL ?_ ?_;exact dH;exact le_int;exact λ_ _=> rfl;exact le_int;exact λ_ _=> rfl;exact dX _;refine' aK ?_;refine' sR ?_;refine' mJ ?h55 ?h56 ?h57 ?h58 ?_ ?_
 case h55=> exact aDg
 case h56=> exact aDi
 case h57=> exact aDj
 case h58=> exact dF
 exact aA 1;refine' aE ?_ ?_;refine' cO ?_;refine' aE ?_ ?_;exact aA 2;refine' aE ?_ ?_;exact aA 3;exact aD;exact aD;refine' aK ?_;refine' dR ?_ ?_ ?_;refine' bT ?_ ?_ ?_ ?_;exact sE hr.units;exact aA 3;refine' bK ?h76 ?_ ?_ ?_
 case h76=> exact lK
 refine' bK ?h80 ?_ ?_ ?_
 case h80=> exact lK
 exact aA 1;refine' fL ?_ ?_;exact dH;exact le_int;exact λ_ _=> rfl;exact le_int;exact λ_ _=> rfl;exact dX _;refine' aK ?_;refine' qF ?_ ?_ ?_;refine' cO ?_;refine' aE ?_ ?_;refine' bK ?h93 ?_ ?_ ?_
 case h93=> exact lK
 refine' bK ?h97 ?_ ?_ ?_
 case h97=> exact lK
 exact aA 1;refine' fL ?_ ?_;exact dH;exact le_int;exact λ_ _=> rfl;exact le_int;exact λ_ _=> rfl;refine' aE ?_ ?_;exact aA 3;exact aD;exact aA 1;refine' fL ?_ ?_;exact dH;exact le_int;exact cU;refine' aK ?_;refine' bZ ?_;refine' L8 ?h109 ?h110 ?h111 ?_
 case h109=> exact vT
 case h110=> exact B.tuple
 case h111=> exact iS
 refine' aE ?_ ?_;exact aA 1;exact aD
abbrev cJ : Stmt := top 14
theorem cT:bH ["_law_rects_here","_law_ys","_law_found","_law_low","_law_high","_law_line_here"] ["_law_rects_here"] (aG cJ):=⟨rfl,rfl,rfl,by decide+kernel,rfl,by decide+kernel,by decide+kernel⟩
theorem wF (B:Bl mg) {s0:OA} (mQ:Fn P w K mg base k "_law_line" ["_law_shreds"] s0):yM P w K mg base k "_law_region" ["_law_rects_here","_law_ys","_law_found","_law_low","_law_high","_law_line_here"] cJ (LR.fX s0):=by
 intro f cdv A outer s H E hr;refine' aF ?_ ?_;refine' dZ 1 ?_ ?_;exact cT.nd;refine' zK ?h5 ?h6 ?h7 ?h8 ?_
 case h5=> exact hr.units
 case h6=> exact rfl
 case h7=> exact B.set
 case h8=> exact B.sorted
 refine' bS ?_ ?_ ?_;exact gO;refine' vE (N:=["_law_rects_here","_law_ys","_law_found","_law_low","_law_high","_law_line_here"]) (sc:=aG cJ) ["_law_rect"] [] ?h13 ?h14 ?h15 ?h16 ?h17 ?h18 ?h19 ?h20 ?h21 ?h22 ?h23
 case h13=> exact rfl
 case h14=> exact rfl
 case h15=> decide+kernel
 case h16=> exact rfl
 case h17=>
  refine' fB ?_;exact aA 0
 case h20=> exact aM 0
 case h18=> exact cV (i:=0) (by decide)
 case h19=> exact aP
 case h21=> exact λ_ _ _ _ _=> (aO 0 (show (_:List Str).Nodup from (by decide+kernel:(["_law_rect"]:List Str).Nodup)))
 case h22=>
  intro _ _ _ _ _;exact qE
 case h23=>
  intro _ _ _ _ _;refine' bK ?h25 ?_ ?_ ?_
  case h25=> exact lK
  exact aA 0;exact le_int;exact λ_ _=> rfl
 refine' vE (N:=["_law_rects_here","_law_ys","_law_found","_law_low","_law_high","_law_line_here"]) (sc:=aG cJ) ["_law_rect"] [] ?h29 ?h30 ?h31 ?h32 ?h33 ?h34 ?h35 ?h36 ?h37 ?h38 ?h39
 case h29=> exact rfl
 case h30=> exact rfl
 case h31=> decide+kernel
 case h32=> exact rfl
 case h33=>
  refine' fB ?_;exact aA 0
 case h36=> exact aM 0
 case h34=> exact cV (i:=0) (by decide)
 case h35=> exact aP
 case h37=> exact λ_ _ _ _ _=> (aO 0 (show (_:List Str).Nodup from (by decide+kernel:(["_law_rect"]:List Str).Nodup)))
 case h38=>
  intro _ _ _ _ _;exact qE
 case h39=>
  intro _ _ _ _ _;refine' bK ?h41 ?_ ?_ ?_
  case h41=> exact lK
  exact aA 0;exact le_int;exact λ_ _=> rfl
 refine' aF ?_ ?_;refine' dZ 2 ?_ ?_;exact cT.nd;refine' fS ?_;exact aD;refine' aF ?_ ?_;refine' fR ?h52 ?h53 ?_ ?h55 ?h56 ?_
 case h52=> exact aDp
 case h53=> exact rfl
 case h55=> exact gM rfl (aS (aO 3 cT.nd) (aS (aO 4 cT.nd) eJ))
 case h56=> exact gQ (aT (aM 3) (aT (aM 4) eL))
 refine' QL ?h58 ?h59 ?_
 case h58=> exact rfl
 case h59=> exact B.zip
 refine' aE ?_ ?_;exact aA 1;refine' aE ?_ ?_;refine' CH ?h65 ?_ ?_ ?_
 case h65=> exact sll
 exact aA 1;refine' m9 ?_;exact le_int;exact kK;exact aD;refine' aF ?_ ?_;refine' dZ 5 ?_ ?_;exact cT.nd;refine' cH ?h74 ?h75 ?_
 case h74=> exact mQ
 case h75=> exact hr
 refine' aE ?_ ?_;refine' vE (N:=["_law_rects_here","_law_ys","_law_found","_law_low","_law_high","_law_line_here"]) (sc:=aG cJ) ["_law_rect"] [3,4] ?h79 ?h80 ?h81 ?h82 ?h83 ?h84 ?h85 ?h86 ?h87 ?h88 ?h89
 case h79=> exact rfl
 case h80=> exact rfl
 case h81=> decide+kernel
 case h82=> exact rfl
 case h83=>
  refine' fB ?_;exact aA 0
 case h86=> exact aM 0
 case h84=> exact cV (i:=0) (by decide)
 case h85=> exact aP
 case h87=> exact λ_ _ _ _ _=> (aO 0 (show (_:List Str).Nodup from (by decide+kernel:(["_law_rect","_law_low","_law_high"]:List Str).Nodup)))
 case h88=>
  intro _ _ _ _ _;refine' GV ?_;refine' LW.lt ?_;refine' rB ?_ ?_;refine' bT ?_ ?_ ?_ ?_;exact YL hr.units;refine' bK ?h99 ?_ ?_ ?_
  case h99=> exact lK
  exact aA 0;exact le_int;exact λ_ _=> rfl;exact aA 1;exact dX _;refine' zH ?_;refine' bT ?_ ?_ ?_ ?_;exact YM hr.units;refine' bK ?h108 ?_ ?_ ?_
  case h108=> exact lK
  exact aA 0;exact le_int;exact λ_ _=> rfl;exact aA 2;exact dX _
 case h89=>
  intro _ _ _ _ _;refine' cO ?_;refine' aE ?_ ?_;refine' bK ?h115 ?_ ?_ ?_
  case h115=> exact lK
  exact aA 0;exact le_int;exact λ_ _=> rfl;refine' aE ?_ ?_;refine' bK ?h121 ?_ ?_ ?_
  case h121=> exact lK
  exact aA 0;exact le_int;exact λ_ _=> rfl;exact aD
 exact aD;refine' aK ?_;refine' dR ?_ ?_ ?_;refine' LW.lt ?_;refine' rB ?_ ?_;refine' bT ?_ ?_ ?_ ?_;exact sE hr.units;refine' d7 ?h136 ?h137 ?h138 ?_
 case h136=> exact fF
 case h137=> exact B.len
 case h138=> exact fG
 refine' aE ?_ ?_;exact aA 5;exact aD;exact le_int;exact dX _;refine' rB ?_ ?_;refine' bT ?_ ?_ ?_ ?_;exact sE hr.units;refine' d7 ?h148 ?h149 ?h150 ?_
 case h148=> exact fF
 case h149=> exact B.len
 case h150=> exact fG
 refine' aE ?_ ?_;exact aA 2;exact aD;exact le_int;exact dX _;refine' rB ?_ ?_;refine' bT ?_ ?_ ?_ ?_;exact i6 hr.units;refine' bK ?h160 ?_ ?_ ?_
 case h160=> exact lK
 refine' bK ?h164 ?_ ?_ ?_
 case h164=> exact lK
 exact aA 2;refine' fL ?_ ?_;exact dH;exact le_int;exact λ_ _=> rfl;exact le_int;exact λ_ _=> rfl;exact aA 3;exact dX _;refine' zH ?_;refine' bT ?_ ?_ ?_ ?_;exact i6 hr.units;refine' bK ?h175 ?_ ?_ ?_
 case h175=> exact lK
 refine' bK ?h179 ?_ ?_ ?_
 case h179=> exact lK
 exact aA 2;refine' fL ?_ ?_;exact dH;exact le_int;exact λ_ _=> rfl;exact le_int;exact λ_ _=> rfl;exact aA 5;exact dX _;refine' aK ?_;refine' qF ?_ ?_ ?_;refine' cO ?_;refine' aE ?_ ?_;refine' bK ?h192 ?_ ?_ ?_
 case h192=> exact lK
 refine' bK ?h196 ?_ ?_ ?_
 case h196=> exact lK
 exact aA 2;refine' fL ?_ ?_;exact dH;exact le_int;exact λ_ _=> rfl;exact le_int;exact λ_ _=> rfl;refine' aE ?_ ?_;exact aA 4;refine' aE ?_ ?_;exact aA 5;exact aD;exact aA 2;refine' fL ?_ ?_;exact dH;exact le_int;refine' aK ?_;refine' dR ?_ ?_ ?_;refine' bT ?_ ?_ ?_ ?_;exact sE hr.units;refine' d7 ?h216 ?h217 ?h218 ?_
 case h216=> exact fF
 case h217=> exact B.len
 case h218=> exact fG
 refine' aE ?_ ?_;exact aA 5;exact aD;exact le_int;exact dX _;refine' aK ?_;refine' sR ?_;refine' mJ ?h224 ?h225 ?h226 ?h227 ?_ ?_
 case h224=> exact aDg
 case h225=> exact aDi
 case h226=> exact aDj
 case h227=> exact dF
 exact aA 2;refine' aE ?_ ?_;refine' cO ?_;refine' aE ?_ ?_;exact aA 3;refine' aE ?_ ?_;exact aA 4;refine' aE ?_ ?_;exact aA 5;exact aD;exact aD;exact cU;refine' aK ?_;refine' bZ ?_;refine' L8 ?h241 ?h242 ?h243 ?_
 case h241=> exact vT
 case h242=> exact B.tuple
 case h243=> exact iS
 refine' aE ?_ ?_;exact aA 2;exact aD
abbrev eX : Stmt := top 15
theorem yW:bH ["_law_found","_law_due"] ["_law_found","_law_due"] (aG eX):=⟨rfl,rfl,rfl,by decide+kernel,rfl,by decide+kernel,by decide+kernel⟩
theorem CM (B:Bl mg) {s0:OA} (cP:Fn P w K mg base k "_law_same" ["_law_found","_law_due"] s0):yM P w K mg base k "_law_same" ["_law_found","_law_due"] eX (LS.dP s0):=by
 intro f cdv A outer s H E hr;refine' aF ?_ ?_;refine' dR ?_ ?_ ?_;refine' e9 ?_;refine' d7 ?h7 ?h8 ?h9 ?_
 case h7=> exact kQ
 case h8=> exact B.isinstance
 case h9=> exact b8
 refine' aE ?_ ?_;exact aA 1;refine' aE ?_ ?_;refine' cO ?_;refine' aE ?_ ?_;refine' oA ?h18 ?h19
 case h18=> exact B.tuple
 case h19=> exact iS
 refine' aE ?_ ?_;refine' oA ?h22 ?h23
 case h22=> exact B.list
 case h23=> exact qP
 exact aD;exact aD;refine' aF ?_ ?_;refine' dR ?_ ?_ ?_;refine' LW.lt ?_;refine' GU ?_ ?_;refine' bT ?_ ?_ ?_ ?_;exact BX hr.units;refine' d7 ?h36 ?h37 ?h38 ?_
 case h36=> exact kQ
 case h37=> exact B.isinstance
 case h38=> exact b8
 refine' aE ?_ ?_;exact aA 0;refine' aE ?_ ?_;refine' oA ?h44 ?h45
 case h44=> exact B.tuple
 case h45=> exact iS
 exact aD;refine' d7 ?h46 ?h47 ?h48 ?_
 case h46=> exact kQ
 case h47=> exact B.isinstance
 case h48=> exact b8
 refine' aE ?_ ?_;exact aA 1;refine' aE ?_ ?_;refine' oA ?h54 ?h55
 case h54=> exact B.tuple
 case h55=> exact iS
 exact aD;exact dX _;refine' zG ?_;refine' bT ?_ ?_ ?_ ?_;exact BX hr.units;refine' d7 ?h61 ?h62 ?h63 ?_
 case h61=> exact kQ
 case h62=> exact B.isinstance
 case h63=> exact b8
 refine' aE ?_ ?_;exact aA 0;refine' aE ?_ ?_;refine' oA ?h69 ?h70
 case h69=> exact B.list
 case h70=> exact qP
 exact aD;refine' d7 ?h71 ?h72 ?h73 ?_
 case h71=> exact kQ
 case h72=> exact B.isinstance
 case h73=> exact b8
 refine' aE ?_ ?_;exact aA 1;refine' aE ?_ ?_;refine' oA ?h79 ?h80
 case h79=> exact B.list
 case h80=> exact qP
 exact aD;exact dX _;refine' aK ?_;refine' bZ ?_;exact xN;exact cU;refine' aF ?_ ?_;refine' dR ?_ ?_ ?_;refine' bT ?_ ?_ ?_ ?_;exact BX hr.units;refine' d7 ?h92 ?h93 ?h94 ?_
 case h92=> exact fF
 case h93=> exact B.len
 case h94=> exact fG
 refine' aE ?_ ?_;exact aA 0;exact aD;refine' d7 ?h98 ?h99 ?h100 ?_
 case h98=> exact fF
 case h99=> exact B.len
 case h100=> exact fG
 refine' aE ?_ ?_;exact aA 1;exact aD;exact dX _;refine' aK ?_;refine' bZ ?_;exact xN;exact cU;refine' aK ?_;refine' bZ ?_;refine' rE ?_ ?_ ?_ ?_;exact i6 hr.units;refine' d7 ?h112 ?h113 ?h114 ?_
 case h112=> exact fF
 case h113=> exact B.len
 case h114=> exact fG
 refine' aE ?_ ?_;refine' vE (N:=["_law_found","_law_due"]) (sc:=aG eX) ["_law_k"] [0,1] ?h118 ?h119 ?h120 ?h121 ?h122 ?h123 ?h124 ?h125 ?h126 ?h127 ?h128
 case h118=> exact rfl
 case h119=> exact rfl
 case h120=> decide+kernel
 case h121=> exact rfl
 case h122=>
  refine' jX ?h129 ?h130 ?_
  case h129=> exact rfl
  case h130=> exact B.range
  refine' aE ?_ ?_;refine' d7 ?h134 ?h135 ?h136 ?_
  case h134=> exact fF
  case h135=> exact B.len
  case h136=> exact fG
  refine' aE ?_ ?_;exact aA 1;exact aD;exact aD
 case h125=> exact aM 0
 case h123=> exact cV (i:=0) (by decide)
 case h124=> exact aP
 case h126=> exact λ_ _ _ _ _=> (aO 0 (show (_:List Str).Nodup from (by decide+kernel:(["_law_k","_law_found","_law_due"]:List Str).Nodup)))
 case h127=>
  intro _ _ _ _ _;refine' GV ?_;refine' rC ?_;refine' e9 ?_;refine' cH ?h143 ?h144 ?_
  case h143=> exact cP
  case h144=> exact hr
  refine' aE ?_ ?_;refine' bK ?h148 ?_ ?_ ?_
  case h148=> exact lK
  exact aA 1;exact aA 0;exact λ_ _=> rfl;refine' aE ?_ ?_;refine' bK ?h154 ?_ ?_ ?_
  case h154=> exact lK
  exact aA 2;exact aA 0;exact λ_ _=> rfl;exact aD
 case h128=>
  intro _ _ _ _ _;exact aA 0
 exact aD;exact le_int;exact dX _;exact cU;refine' aF ?_ ?_;refine' dR ?_ ?_ ?_;refine' e9 ?_;refine' d7 ?h164 ?h165 ?h166 ?_
 case h164=> exact kQ
 case h165=> exact B.isinstance
 case h166=> exact b8
 refine' aE ?_ ?_;exact aA 1;refine' aE ?_ ?_;refine' oA ?h172 ?h173
 case h172=> exact B.str
 case h173=> exact NS
 exact aD;refine' aK ?_;refine' bZ ?_;refine' E4 ?_ ?_;refine' d7 ?h178 ?h179 ?h180 ?_
 case h178=> exact kQ
 case h179=> exact B.isinstance
 case h180=> exact b8
 refine' aE ?_ ?_;exact aA 0;refine' aE ?_ ?_;refine' oA ?h186 ?h187
 case h186=> exact B.str
 case h187=> exact NS
 exact aD;refine' L9 ?_;refine' rE ?_ ?_ ?_ ?_;exact i6 hr.units;exact aA 0;exact aA 1;exact dX _;exact cU;refine' aK ?_;refine' bZ ?_;refine' E4 ?_ ?_;refine' d7 ?h197 ?h198 ?h199 ?_
 case h197=> exact kQ
 case h198=> exact B.isinstance
 case h199=> exact b8
 refine' aE ?_ ?_;exact aA 0;refine' aE ?_ ?_;refine' oA ?h205 ?h206
 case h205=> exact B.int
 case h206=> exact NU
 exact aD;refine' E4 ?_ ?_;refine' UW ?_;refine' d7 ?h210 ?h211 ?h212 ?_
 case h210=> exact kQ
 case h211=> exact B.isinstance
 case h212=> exact b8
 refine' aE ?_ ?_;exact aA 0;refine' aE ?_ ?_;refine' oA ?h218 ?h219
 case h218=> exact B.bool
 case h219=> exact Q7
 exact aD;refine' L9 ?_;refine' rE ?_ ?_ ?_ ?_;exact i6 hr.units;exact aA 0;exact aA 1;exact dX _
abbrev eC : Stmt := top 16
theorem eD:bH ["_law_some","_law_found","_law_low","_law_high","_law_line_here"] ["_law_some"] (aG eC):=⟨rfl,rfl,rfl,by decide+kernel,rfl,by decide+kernel,by decide+kernel⟩
theorem zM (B:Bl mg):yM P w K mg base k "_law_lined" ["_law_some","_law_found","_law_low","_law_high","_law_line_here"] eC (LS.gX):=by
 intro f cdv A outer s H E hr;refine' aF ?_ ?_;refine' dZ 1 ?_ ?_;exact eD.nd;refine' fS ?_;exact aD;refine' aF ?_ ?_;refine' fR ?h8 ?h9 ?_ ?h11 ?h12 ?_
 case h8=> exact aDp
 case h9=> exact rfl
 case h11=> exact gM rfl (aS (aO 2 eD.nd) (aS (aO 3 eD.nd) (aS (aO 4 eD.nd) eJ)))
 case h12=> exact gQ (aT (aM 2) (aT (aM 3) (aT (aM 4) eL)))
 refine' fB ?_;exact aA 0;refine' aK ?_;refine' sR ?_;refine' mJ ?h17 ?h18 ?h19 ?h20 ?_ ?_
 case h17=> exact aDg
 case h18=> exact aFk
 case h19=> exact PySem.F.type_list_extend
 case h20=> exact EV
 exact aA 1;refine' aE ?_ ?_;refine' vE (N:=["_law_some","_law_found","_law_low","_law_high","_law_line_here"]) (sc:=aG eC) ["_law_start","_law_end"] [2,3] ?h25 ?h26 ?h27 ?h28 ?h29 ?h30 ?h31 ?h32 ?h33 ?h34 ?h35
 case h25=> exact rfl
 case h26=> exact rfl
 case h27=> decide+kernel
 case h28=> exact rfl
 case h29=>
  refine' fB ?_;exact aA 4
 case h32=> exact gQ (aT (aM 0) (aT (aM 1) eL))
 case h30=> exact CY (iD aP (b7 aP eS) (cV (i:=0) (by decide)) (iD aP eS (cV (i:=1) (by decide)) CZ))
 case h31=> exact xX (b7 aP (b7 aP eS))
 case h33=> exact λ_ _ _ _ _=> (gM rfl (aS (aO 0 (show (_:List Str).Nodup from (by decide+kernel:(["_law_start","_law_end","_law_low","_law_high"]:List Str).Nodup))) (aS (aO 1 (show (_:List Str).Nodup from (by decide+kernel:(["_law_start","_law_end","_law_low","_law_high"]:List Str).Nodup))) eJ)))
 case h34=>
  intro _ _ _ _ _;exact qE
 case h35=>
  intro _ _ _ _ _;refine' cO ?_;refine' aE ?_ ?_;exact aA 0;refine' aE ?_ ?_;exact aA 2;refine' aE ?_ ?_;exact aA 1;refine' aE ?_ ?_;exact aA 3;exact aD
 exact aD;refine' aK ?_;refine' bZ ?_;exact aA 1
abbrev yU : Stmt := top 17
theorem oO:bH ["_law_script","_law_at","_law_bag_here","_law_rects_here","_law_due","_law_handed","_law_other"] ["_law_script"] (aG yU):=⟨rfl,rfl,rfl,by decide+kernel,rfl,by decide+kernel,by decide+kernel⟩
def tM (s0 s1 s2 s3 s4 s5 s6:OA):WS:=(gK (pP (qX (aJ s3 (aB (aJ s4 (aB (aC 5) aI)) (aB (aJ s2 (aB (aC 5) aI)) aI))))) (eW (wC (.bl false))) d5)
def tN (s0 s1 s2 s3 s4 s5 s6:OA):WS:=(bG (gR (F9 "list" dJ (aC 5) (aB (gJ (aB (v8 jH (wC (.int 3))) (aB (v8 jH (wC (.int 2))) (aB (wC (.int 5)) (aB (wC (.int 1)) aI))))) aI))) (tM s0 s1 s2 s3 s4 s5 s6))
def oJ (s0 s1 s2 s3 s4 s5 s6:OA):WS:=(bG (gK (HS (pP (qX (aJ s3 (aB (aJ s4 (aB (aC 6) aI)) (aB (aC 4) aI))))) (pP (qX (aJ s3 (aB (aJ s4 (aB (aJ s6 (aB (aC 4) aI)) aI)) (aB (aC 4) aI)))))) (eW (wC (.bl false))) d5) (tN s0 s1 s2 s3 s4 s5 s6))
def tO (s0 s1 s2 s3 s4 s5 s6:OA):WS:=(bG (gK (eA (bL N5 (aJ gG (aB (aC 6) aI)) (wC (.int 0)))) (gR (F9 "list" dJ (aC 6) (aB (bL iC (aC 6) (aJ s5 (aB (aC 2) (aB (aJ gG (aB (aC 6) aI)) aI)))) aI))) d5) (oJ s0 s1 s2 s3 s4 s5 s6))
def tP (s0 s1 s2 s3 s4 s5 s6:OA):WS:=(bG (cS (KA (aJ AS (aB (aC 3) aI)) OL OL (pO (v8 jH (wC (.int 1))))) (gN 6)) (tO s0 s1 s2 s3 s4 s5 s6))
def tQ (s0 s1 s2 s3 s4 s5 s6:OA):WS:=(bG (gK (HS (pP (qX (aJ s3 (aB (aJ s4 (aB (aC 5) aI)) (aB (aC 4) aI))))) (eA (bL N4 (aC 5) (aC 3)))) (eW (wC (.bl false))) d5) (tP s0 s1 s2 s3 s4 s5 s6))
def tR (s0 s1 s2 s3 s4 s5 s6:OA):WS:=(bG (cS (aJ HK (aB (aC 3) aI)) (gN 5)) (tQ s0 s1 s2 s3 s4 s5 s6))
def oK (s0 s1 s2 s3 s4 s5 s6:OA):WS:=(bG (cS (aJ s2 (aB (aC 3) aI)) (gN 4)) (tR s0 s1 s2 s3 s4 s5 s6))
def tS (s0 s1 s2 s3 s4 s5 s6:OA):WS:=(bG (cS (aJ s1 (aB (aC 2) (aB (bL iC (nM (aB (wC (.int 199)) (aB (wC (.int 40)) aI))) (aJ ZL (aB (bL N5 (aC 1) (wC (.int 0))) aI))) aI))) (gN 3)) (oK s0 s1 s2 s3 s4 s5 s6))
def A5 (s0 s1 s2 s3 s4 s5 s6:OA):WS:=(bG (cS (aJ s0 (aB (aC 0) (aB (aC 1) aI))) (gN 2)) (tS s0 s1 s2 s3 s4 s5 s6))
def F5 (s0 s1 s2 s3 s4 s5 s6:OA):WS:=(eW (wC (.bl true)))
def F6 (s0 s1 s2 s3 s4 s5 s6:OA):WS:=(bG (nN (rZ (aB (aJ DU (aB (wC (.int 1)) (aB (aJ yL (aB (wC (.int 5)) (aB (aJ gG (aB (aC 0) aI)) aI))) aI))) aI)) (gN 1) (A5 s0 s1 s2 s3 s4 s5 s6)) (F5 s0 s1 s2 s3 s4 s5 s6))
theorem YV (B:Bl mg) {s0:OA} (oW:Fn P w K mg base k "_law_bag" ["_law_script","_law_at"] s0) {s1:OA} (kM:Fn P w K mg base k "_law_rects" ["_law_bag_here","_law_most"] s1) {s2:OA} (f9:Fn P w K mg base k "_law_region" ["_law_rects_here"] s2) {s3:OA} (cP:Fn P w K mg base k "_law_same" ["_law_found","_law_due"] s3) {s4:OA} (jY:Fn P w K mg base k "region" ["rects"] s4) {s5:OA} (bC:Fn P w K mg base k "_law_take" ["_law_bag_here","_law_many"] s5) {s6:OA} (kN:Fn P w K mg base k "_law_lined" ["_law_some"] s6):yM P w K mg base k "law" ["_law_script","_law_at","_law_bag_here","_law_rects_here","_law_due","_law_handed","_law_other"] yU (F6 s0 s1 s2 s3 s4 s5 s6):=by
 intro f cdv A outer s H E hr;refine' aF ?_ ?_;refine' fR ?h3 ?h4 ?_ ?h6 ?h7 ?_
 case h3=> exact aDp
 case h4=> exact rfl
 case h6=> exact aO 1 oO.nd
 case h7=> exact aM 1
 refine' jX ?h9 ?h10 ?_
 case h9=> exact rfl
 case h10=> exact B.range
 refine' aE ?_ ?_;refine' d7 ?h14 ?h15 ?h16 ?_
 case h14=> exact HG rfl
 case h15=> exact B.max
 case h16=> exact NT
 refine' aE ?_ ?_;exact le_int;refine' aE ?_ ?_;refine' d7 ?h22 ?h23 ?h24 ?_
 case h22=> exact AG rfl
 case h23=> exact B.min
 case h24=> exact FN
 refine' aE ?_ ?_;exact le_int;refine' aE ?_ ?_;refine' d7 ?h30 ?h31 ?h32 ?_
 case h30=> exact fF
 case h31=> exact B.len
 case h32=> exact fG
 refine' aE ?_ ?_;exact aA 0;exact aD;exact aD;exact aD;exact aD;refine' aF ?_ ?_;refine' dZ 2 ?_ ?_;exact oO.nd;refine' cH ?h40 ?h41 ?_
 case h40=> exact oW
 case h41=> exact hr
 refine' aE ?_ ?_;exact aA 0;refine' aE ?_ ?_;exact aA 1;exact aD;refine' aF ?_ ?_;refine' dZ 3 ?_ ?_;exact oO.nd;refine' cH ?h51 ?h52 ?_
 case h51=> exact kM
 case h52=> exact hr
 refine' aE ?_ ?_;exact aA 2;refine' aE ?_ ?_;refine' bK ?h58 ?_ ?_ ?_
 case h58=> exact lK
 refine' fS ?_;refine' aE ?_ ?_;exact le_int;refine' aE ?_ ?_;exact le_int;exact aD;refine' L8 ?h67 ?h68 ?h69 ?_
 case h67=> exact V0
 case h68=> exact B.int
 case h69=> exact NU
 refine' aE ?_ ?_;refine' rE ?_ ?_ ?_ ?_;exact sE hr.units;exact aA 1;exact le_int;exact dX _;exact aD;exact λ_ _=> rfl;exact aD;refine' aF ?_ ?_;refine' dZ 4 ?_ ?_;exact oO.nd;refine' cH ?h81 ?h82 ?_
 case h81=> exact f9
 case h82=> exact hr
 refine' aE ?_ ?_;exact aA 3;exact aD;refine' aF ?_ ?_;refine' dZ 5 ?_ ?_;exact oO.nd;refine' L8 ?h90 ?h91 ?h92 ?_
 case h90=> exact Q5
 case h91=> exact B.list
 case h92=> exact qP
 refine' aE ?_ ?_;exact aA 3;exact aD;refine' aF ?_ ?_;refine' dR ?_ ?_ ?_;refine' LW.lt ?_;refine' GU ?_ ?_;refine' rC ?_;refine' e9 ?_;refine' cH ?h106 ?h107 ?_
 case h106=> exact cP
 case h107=> exact hr
 refine' aE ?_ ?_;refine' cH ?h111 ?h112 ?_
 case h111=> exact jY
 case h112=> exact hr
 refine' aE ?_ ?_;exact aA 5;exact aD;refine' aE ?_ ?_;exact aA 4;exact aD;refine' zG ?_;refine' bT ?_ ?_ ?_ ?_;exact BX hr.units;exact aA 5;exact aA 3;exact dX _;refine' aK ?_;refine' bZ ?_;exact xN;exact cU;refine' aF ?_ ?_;refine' dZ 6 ?_ ?_;exact oO.nd;refine' E3 ?_ ?_ ?_ ?_;refine' d7 ?h133 ?h134 ?h135 ?_
 case h133=> exact yD hr.units
 case h134=> exact B.sorted
 case h135=> exact j4
 refine' aE ?_ ?_;exact aA 3;exact aD;exact kK;exact kK;refine' m9 ?_;refine' fL ?_ ?_;exact dH;exact le_int;refine' aF ?_ ?_;refine' dR ?_ ?_ ?_;refine' bT ?_ ?_ ?_ ?_;exact sE hr.units;refine' d7 ?h151 ?h152 ?h153 ?_
 case h151=> exact fF
 case h152=> exact B.len
 case h153=> exact fG
 refine' aE ?_ ?_;exact aA 6;exact aD;exact le_int;exact dX _;refine' aK ?_;refine' sR ?_;refine' mJ ?h159 ?h160 ?h161 ?h162 ?_ ?_
 case h159=> exact aDg
 case h160=> exact aDi
 case h161=> exact aDj
 case h162=> exact dF
 exact aA 6;refine' aE ?_ ?_;refine' bK ?h167 ?_ ?_ ?_
 case h167=> exact lK
 exact aA 6;refine' cH ?h171 ?h172 ?_
 case h171=> exact bC
 case h172=> exact hr
 refine' aE ?_ ?_;exact aA 2;refine' aE ?_ ?_;refine' d7 ?h178 ?h179 ?h180 ?_
 case h178=> exact fF
 case h179=> exact B.len
 case h180=> exact fG
 refine' aE ?_ ?_;exact aA 6;exact aD;exact aD;exact λ_ _=> rfl;exact aD;exact cU;refine' aF ?_ ?_;refine' dR ?_ ?_ ?_;refine' LW.lt ?_;refine' GU ?_ ?_;refine' rC ?_;refine' e9 ?_;refine' cH ?h194 ?h195 ?_
 case h194=> exact cP
 case h195=> exact hr
 refine' aE ?_ ?_;refine' cH ?h199 ?h200 ?_
 case h199=> exact jY
 case h200=> exact hr
 refine' aE ?_ ?_;exact aA 6;exact aD;refine' aE ?_ ?_;exact aA 4;exact aD;refine' zG ?_;refine' rC ?_;refine' e9 ?_;refine' cH ?h209 ?h210 ?_
 case h209=> exact cP
 case h210=> exact hr
 refine' aE ?_ ?_;refine' cH ?h214 ?h215 ?_
 case h214=> exact jY
 case h215=> exact hr
 refine' aE ?_ ?_;refine' cH ?h219 ?h220 ?_
 case h219=> exact kN
 case h220=> exact hr
 refine' aE ?_ ?_;exact aA 4;exact aD;exact aD;refine' aE ?_ ?_;exact aA 4;exact aD;refine' aK ?_;refine' bZ ?_;exact xN;exact cU;refine' aF ?_ ?_;refine' sR ?_;refine' mJ ?h231 ?h232 ?h233 ?h234 ?_ ?_
 case h231=> exact aDg
 case h232=> exact aDi
 case h233=> exact aDj
 case h234=> exact dF
 exact aA 5;refine' aE ?_ ?_;refine' cO ?_;refine' aE ?_ ?_;refine' fL ?_ ?_;exact dH;exact le_int;refine' aE ?_ ?_;refine' fL ?_ ?_;exact dH;exact le_int;refine' aE ?_ ?_;exact le_int;refine' aE ?_ ?_;exact le_int;exact aD;exact aD;refine' aK ?_;refine' dR ?_ ?_ ?_;refine' rC ?_;refine' e9 ?_;refine' cH ?h258 ?h259 ?_
 case h258=> exact cP
 case h259=> exact hr
 refine' aE ?_ ?_;refine' cH ?h263 ?h264 ?_
 case h263=> exact jY
 case h264=> exact hr
 refine' aE ?_ ?_;exact aA 5;exact aD;refine' aE ?_ ?_;refine' cH ?h270 ?h271 ?_
 case h270=> exact f9
 case h271=> exact hr
 refine' aE ?_ ?_;exact aA 5;exact aD;exact aD;refine' aK ?_;refine' bZ ?_;exact xN;exact cU;refine' aK ?_;refine' bZ ?_;exact xN
end
theorem YX:E6 2 0=some 0:=by decide
theorem YW:E6 2 1=some 1:=by decide
theorem mU (d e:D) (ds:List D):mV (d::e::ds) 1=some e:=by
 have:=iA (xs:=d::e::ds) (j:=1) (v:=e) rfl;simpa using this
theorem vS {i j:Int} (h1: -18446744073709551616 < j) (h2:j < 18446744073709551616):JY i j:= .inr ⟨h1,h2⟩
theorem SG {i j:Int} (h1: -18446744073709551616 < i) (h2:i < 18446744073709551616):JY i j:= .inl ⟨h1,h2⟩
theorem VZ {i:Int} {j:Int} (h0:0<=j) (h1:j<=1000000) (h2: -18446744073709551616 < i) (h3:i < 18446744073709551616):WH i j:=⟨h0,h1,by omega⟩
abbrev En (mh : MH) (R : DK) : fN := { nx := λ_ mh1 => Out mh.length .cN mh1 R, rt := λd mh1 => Out mh.length d mh1 R }
theorem VH (ds:List D) (mh:MH) (R:DK) (ok:nK mh) (hs:lE ds mh R):iY (En mh R) (aQ ["_law_bag_here","_law_many","_law_digit","_law_number_here","_law_room"] ds) mh:=by
 obtain ⟨b,many,rfl,h1,h2,⟨c,m,hb,hc,hm0,hm1⟩,q⟩:=hs;have hbl:b < mh.length:=(aCn.mp hb).1
 have fin:∀(r c' m' :Int),0<=r->r < many->0<=c' ->0<=m' ->m' < 2147483629->Out mh.length (.int r) (mh.set b (.lst [.int c',.int m'])) R:=λr c' m' a1 a2 a3 a4 a5=>
  eF (q r _ a1 a2 ⟨⟨c',m',by simp [hbl],a3,a4,a5⟩,_,rfl⟩)
 simp [iY,nU,nT,nS,aQ,e7 hb,uN hb,YX];by_cases h0:0 < c
 ·rw [if_pos h0];exact ⟨by omega,⟨by omega,by omega⟩,fin _ _ _ (aFm _ (by omega)) (aF1 _ (by omega)) (Int.ediv_nonneg (by omega) (by omega)) hm0 hm1⟩
 ·rw [if_neg h0];refine D2 2 ?_;by_cases hmany:1 < many
  ·have b0:0<=(m*48271+7919)^3 % 2147483629:=aFm _ (by omega);have b1:(m*48271+7919)^3 % 2147483629 < 2147483629:=aF1 _ (by omega);simp [oI,lQ,jP,jO,jC,hmany,e7 hb,uN hb,YW,mU];refine ⟨vS (by omega) (by omega),VZ (by omega) (by omega) (by omega) (by omega),?_⟩;have hb2:(mh.set b (.lst [.int c,.int ((m*48271+7919)^3 % 2147483629)]))[b]? =some (.lst [.int c,.int ((m*48271+7919)^3 % 2147483629)]):=by simp [hbl]
   simp only [e7 hb2,mU,cF,KS,KY];refine ⟨vS (by omega) (by omega),⟨by omega,by omega⟩,vS (by omega) (by omega),by omega,vS (by omega) (by omega),?_⟩;simp;rw [if_neg (by omega)];exact ⟨by omega,fin _ _ _ (aFm _ (by omega)) (aF1 _ (by omega)) hc b0 b1⟩
  ·simp [oI,hmany,jC];have e:many=1:=by omega
   subst e;refine ⟨by omega,?_⟩
   have e2:mh.set b (.lst [.int c,.int m])=mh:=by
    apply aF7;intro i;by_cases hi:i=b
    ·subst hi;rw [List.getElem?_set_self hbl,hb]
    ·rw [List.getElem?_set_ne (Ne.symm hi)]
   have:=fin 0 c m (by omega) (by omega) hc hm0 hm1;rw [e2] at this;exact this
theorem DS {ns:List Int} {i:Int} (h0:0<=i) (h1:i < ns.length):∃v,mV (ns.map D.int) i=some (.int v):=by
 refine ⟨ns[i.toNat]'(by omega),?_⟩;have e:i=((i.toNat:Nat):Int):=by omega
 have:=iA (xs:=ns.map D.int) (j:=i.toNat) (v:= .int (ns[i.toNat]'(by omega))) (by rw [List.getElem?_map,List.getElem?_eq_getElem (by omega)];rfl);rw [<-e] at this;exact this
theorem VP {mh:MH} {R:DK} {ns:List Int} {a c m:Int} {k:Option D} (q:∀mh',(∃o,mh' =mh++[o])->sV mh' mh.length->R (.ref mh.length) mh') (h1:0<=c) (h2:0<=m) (h3:m < 2147483629):
  j7 (En mh R) [some (.fl (ns.map .int)),some (.int a),some (.int c),some (.int m),k] mh:=by
 have fin:∀c,0<=c->Out mh.length (.ref mh.length) (mh++[.lst [.int c,.int m]]) R:=λc hc=> eF (q _ ⟨_,rfl⟩ ⟨c,m,by simp,hc,h2,h3⟩);simp [j7,pL];refine ⟨VZ (by omega) (by omega) (by omega) (by omega),?_⟩;split
 ·exact ⟨by rw [sizeLine_eq];omega,fin 0 (by omega)⟩
 ·exact ⟨by rw [sizeLine_eq];omega,fin c h1⟩
theorem MX {mh:MH} {R:DK} {ns:List Int} {a c:Int} (hl:ns.length<=63) (ha0:0<=a) (ha1:a<=100) (q:∀mh',(∃o,mh' =mh++[o])->sV mh' mh.length->R (.ref mh.length) mh') (h1:0<=c):
  j8 (En mh R) [some (.fl (ns.map .int)),some (.int a),some (.int c),none,none] mh:=by
 have sq1:7919*a*a<=79190000:=by
  have:a*a<=100*100:=Int.mul_le_mul ha1 ha1 ha0 (by omega);have e:7919*a*a=7919*(a*a):=Int.mul_assoc _ _ _;omega
 have sq0:0<=7919*a*a:=Int.mul_nonneg (by omega) ha0;simp [j8,pM];refine ⟨SG (by omega) (by omega),vS (by omega) (by omega),SG (by omega) (by omega),?_,?_,?_⟩
 ·split <;> omega
 ·split <;> (rw [sizeLine_eq];omega)
 ·refine dD (λi ρ mh' => mh' =mh/\∃m k,ρ=[some (.fl (ns.map .int)),some (.int a),some (.int c),some (.int m),k]/\0<=m/\m < 2147483629) _ (λ_ _ _ _=> trivial) ?_ ?_ ⟨rfl,_,_,rfl,by omega,by omega⟩
  ·rintro i d ρ mh' N hi ⟨rfl,m,k,rfl,m0,m1⟩ nx;obtain ⟨hi,rfl⟩:=yY hi
   have hil:i < ns.length:=by
    revert hi;split <;> intro hi <;> omega
   have hi60:i < 60:=by
    revert hi;split <;> intro hi <;> omega
   obtain ⟨v,hv⟩:=DS (ns:=ns) (i:=0+(i:Int)) (by omega) (by omega);have v0:0<=v % 2147483647:=aFm _ (by omega);have v1:v % 2147483647 < 2147483647:=aF1 _ (by omega);have k0:0<=(0+(i:Int))*(0+(i:Int)):=Int.mul_nonneg (by omega) (by omega);have k1:(0+(i:Int))*(0+(i:Int))<=60*60:=Int.mul_le_mul (by omega) (by omega) (by omega) (by omega);simp only [aBe,n4,X0,aB4,s_c,XU,List.set_cons_succ,List.set_cons_zero,List.getElem?_cons_succ,List.getElem?_cons_zero,Option.join_some,cF,KS,KY,XX,hv];refine ⟨vS (by omega) (by omega),by omega,vS (by omega) (by omega),VZ (by omega) (by omega) (by omega) (by omega),by omega,nx _ _ ⟨rfl,_,_,rfl,aFm _ (by omega),aF1 _ (by omega)⟩⟩
  ·rintro ρ mh' ⟨rfl,m,k,rfl,m0,m1⟩;exact VP q h1 m0 m1
theorem Y5 (ds:List D) (mh:MH) (R:DK) (ok:nK mh) (hs:ED ds mh R):j9 (En mh R) (aQ ["_law_script","_law_at","_law_cell","_law_mix","_law_k"] ds) mh:=by
 obtain ⟨ns,a,rfl,hl,ha0,ha1,q⟩:=hs;simp [j9,pN,aQ];split
 ·rename_i hlt;obtain ⟨v,hv⟩:=DS (ns:=ns) (i:=a) ha0 hlt;simp [hv];exact MX hl ha0 ha1 q (by split <;> omega)
 ·exact MX hl ha0 ha1 q (by omega)
open LR (P2 R4 Bd sD rD bD lG gD fK d9 yX q0)
open LS
theorem BR:∀l:List P2,eP (l.map sD)=true/\cW (l.map sD)<=1
 | []=> by simp [eP,cW]
 | r::l=> by
  have:=BR l;simp only [List.map_cons,eP,cW,this.1,Bool.and_true];simp only [sD,LS.plain,eP,deep,cW];refine ⟨rfl,by omega⟩
theorem BU:∀l:List Bd,(∀b∈l,b.ln.length<=1000000)->eP (l.map bD)=true/\cW (l.map bD)<=3
 | [],_=> by simp [eP,cW]
 | b::l,h=> by
  have:=BU l λc hc=> h c (aCr _ hc);have s:=BR b.ln;have hb:=h b aCq;simp only [List.map_cons,eP,cW,this.1,Bool.and_true];simp only [bD,lG,LS.plain,eP,deep,cW,s.1,Bool.true_and,Bool.and_true];refine ⟨by simpa using hb,by omega⟩
theorem BS {g:List Bd} (hl:g.length<=1000000) (h:∀b∈g,b.ln.length<=1000000):LS.plain (gD g)=true/\deep (gD g)<=4:=by
 have:=BU g h;simp only [gD,LS.plain,deep,this.1,Bool.true_and];exact ⟨by simpa using hl,by omega⟩
theorem SD:∀l:List R4,fI (l.map rD) (l.map rD)=true
 | []=> rfl
 | r::l=> by
  simp only [List.map_cons,fI,SD l,Bool.and_true];simp [rD,oY,fI]
theorem HI:∀l:List R4,eU (l.map rD)=true/\cW (l.map rD)<=1
 | []=> by simp [eU,cW]
 | r::l=> by
  have:=HI l;simp only [List.map_cons,eU,cW,this.1,Bool.and_true];simp only [rD,bare,eU,deep,cW];exact ⟨rfl,by omega⟩
theorem SS (l:List R4):JS (l.map rD):= .inr ⟨.i,[.i,.i,.i],λd hd=> by obtain ⟨s,_,rfl⟩:=aD1.mp hd;exact ⟨_,rfl,rfl⟩⟩
theorem L6 {g:List Bd} {mh:MH} {Q:DK} (hl:(cL g).length<=1000000) (q:Q (.ref mh.length) (mh++[.lst ((cL g).map rD)])):oQ [gD g] mh Q:=⟨g,rfl,hl,q⟩
theorem EJ {g:List Bd} {x y:Int}:LR.cM g x y↔∃r∈cL g,r.has x y:=by
 unfold LR.cM cL;constructor
 ·rintro ⟨b,hb,h1,h2,t,ht,h3,h4⟩;exact ⟨⟨t.1,b.lo,t.2,b.hi⟩,aFf.mpr ⟨b,hb,aD1.mpr ⟨t,ht,rfl⟩⟩,h3,h4,h1,h2⟩
 ·rintro ⟨r,hr,h1,h2,h3,h4⟩;obtain ⟨b,hb,hr⟩:=aFf.mp hr;obtain ⟨t,ht,rfl⟩:=aD1.mp hr;exact ⟨b,hb,h3,h4,t,ht,h1,h2⟩
abbrev D0 (rs : List R4) : List Int := rs.map (·.x0) ++ rs.map (·.x1)
abbrev HR (rs : List R4) : List Int := rs.map (·.y0) ++ rs.map (·.y1)
theorem R8 {rs:List R4} (hr:∀r∈rs,r.ok):∀r∈rs,r.x0 < r.x1/\r.y0 < r.y1/\r.x0∈D0 rs/\r.x1∈D0 rs/\r.y0∈HR rs/\r.y1∈HR rs:=λr h=>
 ⟨(hr r h).2.2.2.2.1,(hr r h).2.2.2.2.2,aDq _ (aDn h),aD8 _ (aDn h),aDq _ (aDn h),aD8 _ (aDn h)⟩
theorem VO {E:fN} {ns:List Int} {a1 a4 a5 a6:Option D} {b n:Nat} {rs:List R4} {mh:MH} (hrs:rs.length<=199) (rok:∀r∈rs,r.ok) (hb:sV mh b) (hnb:n≠b) (hn:mh[n]? =some (.lst (rs.map rD)))
  (nx:∀a4 a5 a6 mh',E.nx [some (.fl (ns.map .int)),a1,some (.ref b),some (.ref n),a4,a5,a6] mh'):
  oK ED LR.oP LR.kG (n5 6) yX lE oQ E [some (.fl (ns.map .int)),a1,some (.ref b),some (.ref n),a4,a5,a6] mh:=by
 have sz:=aDe
 obtain ⟨can,hcov⟩:=LR.BM (rs:=rs) λr h=> ⟨(rok r h).2.2.2.2.1,(rok r h).2.2.2.2.2⟩
 have hfar:=LR.xC rok;have hgl:=LR.xB rs;have hin:=R8 rok;have xl:(D0 rs).length < 4000:=by simp;omega
 have yl:(HR rs).length < 4000:=by simp;omega
 obtain ⟨pg,dg⟩:=BS (g:=fK rs) (by omega) λb hb=> by have:=(hfar b hb).2.2.1;omega
 have br:=HI rs;simp [oK];refine LR.xA hn (by omega) ?_;simp [tR];rw [bO hn];simp only [cF];have b1:sV (mh++[.lst (rs.map rD)]) b:=AO hb;have g1:(mh++[MO.lst (rs.map rD)])[n]? =some (.lst (rs.map rD)):=aY hn;have g2:(mh++[MO.lst (rs.map rD)])[mh.length]? =some (.lst (rs.map rD)):=gL _ _;have hnl:=fV hn;have hbl:=hb.lt;generalize mh++[MO.lst (rs.map rD)]=M at b1 g1 g2⊢;generalize mh.length=hd at g2 hnl hbl⊢;simp [tQ];refine q0 (D0 rs) (HR rs) g2 (by omega) xl yl hin can hcov ?_;refine pX pg (by omega) ?_;simp [jF];refine ⟨by simp [iO,g2,bare,br.1],by simp [iO,g1,bare,br.1],by simp [iO,g2,deep];omega,?_⟩;simp only [iO,g1,g2,oY,SD];simp [tP];refine ⟨_,rs.map rD,rfl,vB g1,by simp;omega,SS rs,λds' p _=> ?_⟩;obtain ⟨rs1,p1,rfl⟩:=jV rD p rs rfl;refine ⟨rs1.map rD,vB (gL _ _),?_⟩;rw [LR.q5,IF];have hm2:∀r,r∈rs1.reverse↔r∈rs:=λr=> by rw [List.mem_reverse,p1.mem_iff]
 have hl2:rs1.reverse.length=rs.length:=by rw [List.length_reverse,p1.length_eq]
 have x0:=((fH.refl b1).push (.lst (rs1.map rD))).push (.lst (rs1.reverse.map rD));have go:(M++[MO.lst (rs1.map rD)]++[MO.lst (rs1.reverse.map rD)])[M.length+1]? =some (.lst (rs1.reverse.map rD)):=by simp
 have gh:(M++[MO.lst (rs1.map rD)]++[MO.lst (rs1.reverse.map rD)])[hd]? =some (.lst (rs.map rD)):=aY (aY g2);have el:(M++[MO.lst (rs1.map rD)]).length=M.length+1:=by simp
 rw [el];have hMl:=fV g2;generalize M++[MO.lst (rs1.map rD)]++[MO.lst (rs1.reverse.map rD)]=M2 at x0 go gh⊢;generalize hot:M.length+1=ot at go⊢;generalize rs1.reverse=rs2 at hm2 hl2 go
 have last:∀(rs3:List R4) (M3:MH),(∀r,r∈rs3↔r∈rs)->rs3.length<=300->M3[ot]? =some (.lst (rs3.map rD))->M3[hd]? =some (.lst (rs.map rD))->
   oJ ED LR.oP LR.kG (n5 6) yX lE oQ E [some (.fl (ns.map .int)),a1,some (.ref b),some (.ref n),some (gD (fK rs)),some (.ref hd),some (.ref ot)] M3:=λrs3 M3 m3 l3 g3 gh3=> by
  simp [oJ];refine q0 (D0 rs) (HR rs) g3 (by omega) xl yl (λr hr=> hin r ((m3 r).mp hr)) can (λx y=> (hcov x y).trans ⟨λ⟨r,hr,q⟩=> ⟨r,(m3 r).mpr hr,q⟩,λ⟨r,hr,q⟩=> ⟨r,(m3 r).mp hr,q⟩⟩) ?_;refine pX pg (by omega) ?_;simp [jF];have rl:(cL (fK rs)).length<=199*(2*199):=aDf (EI (n:=199) λb hb=> by have:=(hfar b hb).2.2.1;omega) (Nat.mul_le_mul_left _ (by omega));refine L6 (by omega) ?_;have yl2:(d9 rs).length < 4000:=by have:=LR.tK rs;omega
  refine q0 (D0 rs) (d9 rs) (gL _ _) (by omega) xl yl2 (λr hr=> ?_) can (λx y=> EJ) ?_
  ·obtain ⟨c,hc,hr⟩:=aFf.mp hr;obtain ⟨t,ht,rfl⟩:=aD1.mp hr;obtain ⟨k1,k2,k3⟩:=LR.K1 c hc;exact ⟨(can.sep c hc).1 t ht,can.lt c hc,(k3 t ht).1,(k3 t ht).2,k1,k2⟩
  refine pX pg (by omega) ?_;have gh4:=aY (x:= .lst ((cL (fK rs)).map rD)) gh3;generalize M3++[MO.lst ((cL (fK rs)).map rD)]=M4 at gh4⊢;simp [jF,tN];rw [eO gh4];have hdl:=fV gh4;have g5:(M4.set hd (.lst (rs.map rD++[.tup [.int (-3),.int (-2),.int 5,.int 1]])))[hd]? =some (.lst ((rs++[(⟨-3,-2,5,1⟩:R4)]).map rD)):=by rw [cB _ gh4];simp [rD]
  refine ⟨⟨rfl,_,gh4⟩,by omega,by simp;omega,?_⟩;generalize M4.set hd (.lst (rs.map rD++[.tup [.int (-3),.int (-2),.int 5,.int 1]]))=M5 at g5⊢
  have rok2:∀r∈rs++[(⟨-3,-2,5,1⟩:R4)],r.ok:=λr hr=> by
   rcases aCt.mp hr with z | z
   ·exact rok r z
   ·rw [List.mem_singleton.mp z];exact ⟨⟨by decide,by decide⟩,⟨by decide,by decide⟩,⟨by decide,by decide⟩,⟨by decide,by decide⟩,by decide,by decide⟩
  obtain ⟨can2,hcov2⟩:=LR.BM (rs:=rs++[(⟨-3,-2,5,1⟩:R4)]) λr h=> ⟨(rok2 r h).2.2.2.2.1,(rok2 r h).2.2.2.2.2⟩
  have hgl2:=LR.xB (rs++[(⟨-3,-2,5,1⟩:R4)]);have hfar2:=LR.xC rok2;have ll:(rs++[(⟨-3,-2,5,1⟩:R4)]).length=rs.length+1:=by simp
  obtain ⟨pg2,dg2⟩:=BS (g:=fK (rs++[(⟨-3,-2,5,1⟩:R4)])) (by omega) λb hb=> by have:=(hfar2 b hb).2.2.1;omega
  generalize rs++[(⟨-3,-2,5,1⟩:R4)]=rs4 at*;simp [tM];refine q0 (D0 rs4) (HR rs4) g5 (by omega) (by simp;omega) (by simp;omega) (R8 rok2) can2 hcov2 ?_;refine LR.xA g5 (by omega) ?_;refine pX pg2 (by omega) ?_;simp [jF];exact nx _ _ _ _
 simp [tO,kF go];by_cases h0:0 < rs2.length
 ·simp [h0];refine ⟨⟨rfl,_,go⟩,?_⟩;refine BC x0 (by omega) (by omega) λr M3 r0 r1 x3 l3 k3=> ?_;have g3:M3[ot]? =some (.lst (rs2.map rD)):=by rw [k3 ot (by omega)];exact go
  have gh3:M3[hd]? =some (.lst (rs.map rD)):=x3.get g2 (by omega);rw [e7 g3];refine VQ r0 (by simpa using r1) λv hv=> ?_;obtain ⟨rr,hrr,rfl⟩:=aD1.mp hv;rw [eO g3];refine ⟨by simp;omega,last (rs2++[rr]) _ (λr=> ?_) (by simp;omega) (by rw [cB _ g3];simp) (get_set gh3 (by omega))⟩;rw [List.mem_append,List.mem_singleton];exact ⟨λh=> h.elim (hm2 r).mp λe=> by rw [e];exact (hm2 rr).mp hrr,λh=> .inl ((hm2 r).mpr h)⟩
 ·simp [h0];have:rs2=[]:=aE1.mp (by omega);exact last rs2 M2 hm2 (by omega) go gh
open LR (P2 R4 Bd sD rD bD lG gD fK d9 yX q0)
theorem Y4 (ds:List D) (mh:MH) (R:DK) (ok:nK mh) (hs:wD ds mh R):F6 ED LR.oP LR.kG (n5 6) yX lE oQ (En mh R) (aQ ["_law_script","_law_at","_law_bag_here","_law_rects_here","_law_due","_law_handed","_law_other"] ds) mh:=by
 obtain ⟨ns,rfl,hl,q⟩:=hs;have sz:=aDe;simp [F6,aQ];refine ⟨by split <;> (try split) <;> omega,by split <;> (try split) <;> omega,?_⟩;refine dD (λi ρ _=> ∃a b c d e f,ρ=[some (.fl (ns.map .int)),a,b,c,d,e,f]) _ (λ_ _ _ _=> trivial) ?_ ?_ ⟨_,_,_,_,_,_,rfl⟩
 ·rintro i d ρ mh1 N hi ⟨a,b,c,d',e,f,rfl⟩ nx;obtain ⟨hil,rfl⟩:=yY hi
  have hi6:i < 8:=by
   revert hil;split <;> (try split) <;> intro hil <;> omega
  simp [A5];refine RA hl (by omega) (by omega) λmh2 ho b2=> ?_;obtain ⟨o,rfl⟩:=ho;simp [tS];refine ⟨by omega,.inr ⟨_,rfl,?_⟩⟩;have b3:sV (mh1++[o]++[.lst [.int 199,.int 40]]) mh1.length:=AO b2;have g3:(mh1++[o]++[MO.lst [.int 199,.int 40]])[mh1.length+1]? =some (.lst [.int 199,.int 40]):=by simp
  have el:(mh1++[o]).length=mh1.length+1:=by simp
  rw [show mh1++[o,MO.lst [.int 199,.int 40]]=mh1++[o]++[MO.lst [.int 199,.int 40]] by simp];generalize mh1++[o]++[MO.lst [.int 199,.int 40]]=M at b3 g3⊢;refine (e7 g3 _).mpr ?_
  obtain ⟨most,hm,h1,h2⟩:∃most:Int,mV [D.int 199,.int 40] (if decide (0 < i)=true then 1 else 0)=some (.int most)/\12<=most/\most<=199:=by
   by_cases h0:0 < i
   ·exact ⟨40,by rw [if_pos (by simpa using h0)];exact mU _ _ _,by omega,by omega⟩
   ·exact ⟨199,by rw [if_neg (by simpa using h0)];exact ZI _ _,by omega,by omega⟩
  rw [hm];simp only [cF];have hml:mh1.length < M.length:=b3.lt;refine LR.K2 h1 (by omega) b3 λrs mh4 rl rok t4=> ?_;have l4:=t4.len;exact VO (by omega) rok (AO t4.1) (by omega) (gL _ _) λ_ _ _ _=> nx _ _ ⟨_,_,_,_,_,_,rfl⟩
 ·rintro ρ mh1 ⟨a,b,c,d,e,f,rfl⟩;simp [F5];exact eF (q _)
theorem JP:eI "joined" m7 ["bands"]:=λ_ _ _ _ _ _ us hl=> match us,hl with | [_],_=> rfl
theorem JO:eI "paired" m6 ["edges"]:=λ_ _ _ _ _ _ us hl=> match us,hl with | [_],_=> rfl
theorem AK:eI "add_steps" gZ ["steps","stretches","more"]:=λ_ _ _ _ _ _ us hl=> match us,hl with | [_,_,_],_=> rfl
theorem FT:eI "covered" kD ["steps","least"]:=λ_ _ _ _ _ _ us hl=> match us,hl with | [_,_],_=> rfl
theorem FR:SI "stacked" kC ["bands","least"]:=λ_ _ _ _ _ _ us _ _ _ _ _ hl ho hs=> match us,hl with | [_],_=> .of_defaults rfl ho hs rfl rfl
theorem JN:eI "region" jR ["rects"]:=λ_ _ _ _ _ _ us hl=> match us,hl with | [_],_=> rfl
theorem DP:eI "_law_bag" i5 ["_law_script","_law_at"]:=λ_ _ _ _ _ _ us hl=> match us,hl with | [_,_],_=> rfl
theorem AL:eI "_law_take" g7 ["_law_bag_here","_law_many"]:=λ_ _ _ _ _ _ us hl=> match us,hl with | [_,_],_=> rfl
theorem vY:eI "_law_number" eY ["_law_bag_here","_law_sort","_law_some"]:=λ_ _ _ _ _ _ us hl=> match us,hl with | [_,_,_],_=> rfl
theorem AM:eI "_law_side" g8 ["_law_bag_here","_law_sort","_law_some"]:=λ_ _ _ _ _ _ us hl=> match us,hl with | [_,_,_],_=> rfl
theorem wO:eI "_law_rects" eB ["_law_bag_here","_law_most"]:=λ_ _ _ _ _ _ us hl=> match us,hl with | [_,_],_=> rfl
theorem AN:eI "_law_line" g9 ["_law_shreds"]:=λ_ _ _ _ _ _ us hl=> match us,hl with | [_],_=> rfl
theorem vX:eI "_law_region" cJ ["_law_rects_here"]:=λ_ _ _ _ _ _ us hl=> match us,hl with | [_],_=> rfl
theorem qR:eI "_law_same" eX ["_law_found","_law_due"]:=λ_ _ _ _ _ _ us hl=> match us,hl with | [_,_],_=> rfl
theorem wQ:eI "_law_lined" eC ["_law_some"]:=λ_ _ _ _ _ _ us hl=> match us,hl with | [_],_=> rfl
theorem V5:eI "law" yU ["_law_script"]:=λ_ _ _ _ _ _ us hl=> match us,hl with | [_],_=> rfl
structure Al (w:World) (K:aGp) (mg:Str->Option Value):Prop where
 NL:iW K "joined" m7
 NK:iW K "paired" m6
 DF:iW K "add_steps" gZ
 JI:iW K "covered" kD
 JE:WD K "stacked" kC 1
 NJ:iW K "region" jR
 FL:iW K "_law_bag" i5
 DG:iW K "_law_take" g7
 wK:iW K "_law_number" eY
 DH:iW K "_law_side" g8
 AA:iW K "_law_rects" eB
 DI:iW K "_law_line" g9
 wJ:iW K "_law_region" cJ
 sI:iW K "_law_same" eX
 AB:iW K "_law_lined" eC
 ZD:iW K "law" yU
section
variable {P:Program} {w:World} {K:aGp} {mg:Str->Option Value} {base h:Heap} (KX:K.In h) (G:h.Ns mainGlobals mg) (B:Bl mg) (A:Al w K mg)
include KX G B A
theorem vN :Fn P w K mg base 1 "joined" ["bands"] (LR.kH):=
 i8 (wB:=LR.pJ) (k:=0) A.NL KX G JP jT (by with_reducible exact MI B) (λds mh R h=> by obtain ⟨_,_,rfl,_⟩:=h;rfl) LR.MW
theorem vM :Fn P w K mg base 1 "paired" ["edges"] (LR.pY):=
 i8 (wB:=LR.pI) (k:=0) A.NK KX G JO IA (by with_reducible exact MG B) (λds mh R h=> by obtain ⟨_,_,rfl,_⟩:=h;rfl) LR.MU
theorem mP :Fn P w K mg base 1 "add_steps" ["steps","stretches","more"] (LR.EE):=
 i8 (wB:=LR.iX) (k:=0) A.DF KX G AK eZ (by with_reducible exact CJ B) (λds mh R h=> by obtain ⟨_,_,_,_,_,_,rfl,_⟩:=h;rfl) LR.Y6
theorem rK :Fn P w K mg base 2 "covered" ["steps","least"] (LR.uP):=
 i8 (wB:=LR.mY (LR.pY)) (k:=1) A.JI KX G FT fQ (by with_reducible exact IT B ((vM KX G B A).mono (by omega))) (λds mh R h=> by obtain ⟨_,_,_,_,rfl,_⟩:=h;rfl) LR.VN
theorem rJ :WC P w K mg base 3 "stacked" ["bands","least"] 1 (LR.KZ):=
 VU (wB:=LR.mX (LR.EE) (LR.uP) (LR.kH)) (k:=2) A.JE KX G FR cK (by with_reducible exact IS B ((mP KX G B A).mono (by omega)) ((rK KX G B A).mono (by omega)) ((vN KX G B A).mono (by omega))) (λds mh R h=> by obtain ⟨_,_,_,_,rfl,_⟩:=h;rfl) LR.Y2
theorem jY :Fn P w K mg base 4 "region" ["rects"] (LR.yX):=
 i8 (wB:=LR.pH (LR.KZ)) (k:=3) A.NJ KX G JN HZ (by with_reducible exact MF B ((rJ KX G B A).mono (by omega))) (λds mh R h=> by obtain ⟨_,_,_,_,rfl,_⟩:=h;rfl) LR.Y3
theorem oW :Fn P w K mg base 1 "_law_bag" ["_law_script","_law_at"] (ED):=
 i8 (wB:=j9) (k:=0) A.FL KX G DP dQ (by with_reducible exact E5 B) (λds mh R h=> by obtain ⟨_,_,rfl,_⟩:=h;rfl) Y5
theorem bC :Fn P w K mg base 1 "_law_take" ["_law_bag_here","_law_many"] (lE):=
 i8 (wB:=iY) (k:=0) A.DG KX G AL dW (by with_reducible exact CK B) (λds mh R h=> by obtain ⟨_,_,rfl,_⟩:=h;rfl) VH
theorem gA :Fn P w K mg base 2 "_law_number" ["_law_bag_here","_law_sort","_law_some"] (LR.pZ):=
 i8 (wB:=LR.fY (lE)) (k:=1) A.wK KX G vY uM (by with_reducible exact wG B ((bC KX G B A).mono (by omega))) (λds mh R h=> by obtain ⟨_,_,_,rfl,_⟩:=h;rfl) LR.MV
theorem i9 :Fn P w K mg base 3 "_law_side" ["_law_bag_here","_law_sort","_law_some"] (LR.BH):=
 i8 (wB:=LR.iZ (LR.pZ)) (k:=2) A.DH KX G AM kE (by with_reducible exact CL B ((gA KX G B A).mono (by omega))) (λds mh R h=> by obtain ⟨_,_,_,rfl,_⟩:=h;rfl) LR.VI
theorem kM :Fn P w K mg base 4 "_law_rects" ["_law_bag_here","_law_most"] (LR.oP):=
 i8 (wB:=LR.gW (lE) (LR.BH)) (k:=3) A.AA KX G wO bM (by with_reducible exact zL B ((bC KX G B A).mono (by omega)) ((i9 KX G B A).mono (by omega))) (λds mh R h=> by obtain ⟨_,_,rfl,_⟩:=h;rfl) LR.QX
theorem mQ :Fn P w K mg base 1 "_law_line" ["_law_shreds"] (LR.uO):=
 i8 (wB:=LR.i4) (k:=0) A.DI KX G AN hC (by with_reducible exact CN B) (λds mh R h=> by obtain ⟨_,_,rfl,_⟩:=h;rfl) LR.VM
theorem f9 :Fn P w K mg base 2 "_law_region" ["_law_rects_here"] (LR.kG):=
 i8 (wB:=LR.fX (LR.uO)) (k:=1) A.wJ KX G vX cT (by with_reducible exact wF B ((mQ KX G B A).mono (by omega))) (λds mh R h=> by obtain ⟨_,_,rfl,_⟩:=h;rfl) LR.MS
theorem cP :∀n:Nat,Fn P w K mg base (n+1) "_law_same" ["_law_found","_law_due"] (LS.n5 n)
 | 0=> (NA A.sI KX G qR).imp λds mh R h=> by obtain ⟨_,⟨_,_,_,h⟩ | ⟨_,_,_,_,_,_,_,h,_⟩⟩:=h <;> omega
 | n+1=> VV (wB:=LS.dP (LS.n5 n)) (k:=n+1) (by omega) A.sI KX G qR yW (by with_reducible exact CM B (cP n)) (λds mh R h=> by obtain ⟨_,⟨_,rfl,_⟩ | ⟨_,_,_,rfl,_⟩⟩:=h <;> rfl) (LS.VJ n)
theorem kN :Fn P w K mg base 1 "_law_lined" ["_law_some"] (LS.oQ):=
 i8 (wB:=LS.gX) (k:=0) A.AB KX G wQ eD (by with_reducible exact zM B) (λds mh R h=> by obtain ⟨_,rfl,_⟩:=h;rfl) LS.QY
theorem QR {fa:Addr}  (hfa:mg "law"=some (.ref fa)):
  ∃fd:FuncData,(∀(s:Shared) (u:Value),BindsTo s fd ⟨[u],[]⟩ [("_law_script",u)])/\∀base:Heap,jL P w K mg base DX 8 fa fd ["_law_script"] (KN K wD):=
 UZ (wB:=F6 (ED) (LR.oP) (LR.kG) (LS.n5 6) (LR.yX) (lE) (LS.oQ)) (k:=7) KX G hfa A.ZD oO V5 (λbase=> by with_reducible exact YV B ((oW KX G B A).mono (by omega)) ((kM KX G B A).mono (by omega)) ((f9 KX G B A).mono (by omega)) ((cP KX G B A 6).mono (by omega)) ((jY KX G B A).mono (by omega)) ((bC KX G B A).mono (by omega)) ((kN KX G B A).mono (by omega))) Y4
theorem Z9 {l:PySem.W.OpenLaw} {fa:Addr}  (hfa:mg "law"=some (.ref fa)):
  ∃fd:FuncData,(∀(s:Shared) (u:Value),BindsTo s fd ⟨[u],[]⟩ [("_law_script",u)])/\∀base:Heap,K.In base->base.Ns mainGlobals mg->jL l.prog w K mg base DX 8 fa fd ["_law_script"] (KN K wD):=
 let ⟨fd,h1,h2⟩:=QR KX G B A hfa
 ⟨fd,h1,λbase _ _=> h2 base⟩
end
end K02
open PySem PySem.W PyProof.Rows
set_option maxRecDepth 100000 in
set_option maxHeartbeats 0 in
theorem PySem.Challenge.cw_maskwright_k02_regions_of_rectangles_holds : PySem.Challenge.rw_maskwright_k02_regions_of_rectangles.Holds := by
  w_on; o_law; k_head; (case hw => w_witness2)
  k_fill
  refine D3.walkD (l := PySem.Challenge.rw_maskwright_k02_regions_of_rectangles) (k := 8) (x := "_law_script") rfl rfl ⟨rfl, by decide, by decide⟩ (fun w h Y => PySem.W.kIn_of Y) ?F
  case F =>
    intro w mg fa h KX G hmg
    refine' K02.Z9 KX G (D3.bl_mk KX G ?z1 ?z2 ?z3 ?z4 ?z5 ?z6 ?z7 ?z8 ?z9 ?z10 ?z11 ?z12 ?z13 ?z14 ?z15 ?z16 ?z17 ?z18 ?z19) ⟨(D3.aA5 ?a0 ?l0 ?c0 ?k0), (D3.aA5 ?a1 ?l1 ?c1 ?k1), (D3.aA5 ?a2 ?l2 ?c2 ?k2), (D3.aA5 ?a3 ?l3 ?c3 ?k3), (D3.aA6 ?a4 ?l4 ?m4 ?c4 ?k4), (D3.aA5 ?a5 ?l5 ?c5 ?k5), (D3.aA5 ?a6 ?l6 ?c6 ?k6), (D3.aA5 ?a7 ?l7 ?c7 ?k7), (D3.aA5 ?a8 ?l8 ?c8 ?k8), (D3.aA5 ?a9 ?l9 ?c9 ?k9), (D3.aA5 ?a10 ?l10 ?c10 ?k10), (D3.aA5 ?a11 ?l11 ?c11 ?k11), (D3.aA5 ?a12 ?l12 ?c12 ?k12), (D3.aA5 ?a13 ?l13 ?c13 ?k13), (D3.aA5 ?a14 ?l14 ?c14 ?k14), (D3.aA5 ?a15 ?l15 ?c15 ?k15)⟩ hmg
    (case a0 => k_is); (case l0 => k_is); (case c0 => k_is); (case k0 => k_is)
    (case a1 => k_is); (case l1 => k_is); (case c1 => k_is); (case k1 => k_is)
    (case a2 => k_is); (case l2 => k_is); (case c2 => k_is); (case k2 => k_is)
    (case a3 => k_is); (case l3 => k_is); (case c3 => k_is); (case k3 => k_is)
    (case a4 => k_is); (case l4 => k_is); (case m4 => k_is); (case c4 => k_is); (case k4 => k_is)
    (case a5 => k_is); (case l5 => k_is); (case c5 => k_is); (case k5 => k_is)
    (case a6 => k_is); (case l6 => k_is); (case c6 => k_is); (case k6 => k_is)
    (case a7 => k_is); (case l7 => k_is); (case c7 => k_is); (case k7 => k_is)
    (case a8 => k_is); (case l8 => k_is); (case c8 => k_is); (case k8 => k_is)
    (case a9 => k_is); (case l9 => k_is); (case c9 => k_is); (case k9 => k_is)
    (case a10 => k_is); (case l10 => k_is); (case c10 => k_is); (case k10 => k_is)
    (case a11 => k_is); (case l11 => k_is); (case c11 => k_is); (case k11 => k_is)
    (case a12 => k_is); (case l12 => k_is); (case c12 => k_is); (case k12 => k_is)
    (case a13 => k_is); (case l13 => k_is); (case c13 => k_is); (case k13 => k_is)
    (case a14 => k_is); (case l14 => k_is); (case c14 => k_is); (case k14 => k_is)
    (case a15 => k_is); (case l15 => k_is); (case c15 => k_is); (case k15 => k_is)
    all_goals k_is
