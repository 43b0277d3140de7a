import PyProof.Rows.All
import Wide.All
import OpenK.AllK
import Wide.FinOn
import Lean
import PyProof.EqAt
import PyProof.EqKinds
import PyProof.TupleCall
import PyProof.FactsAll.set
import PySem.Challenge.RW_ratehall_k24_whole_round_unfolded
set_option maxHeartbeats 4000000
set_option compiler.extract_closed false
set_option bootstrap.genMatcherCode false
local macro_rules| `(tactic|omega)=>`(tactic|with_reducible first|exact qaW _|lia|fail)
set_option Elab.async false
set_option linter.all false
set_option maxRecDepth 100000
open PySem.W (instObj methodObj hideAll hideAll_get of_hideAll lookIn plainGet hasDictIn findIn handedIn plainGet_of isFn plainOver takerIn Looks makesIn typeIn emptyDict keepIn methodCall_KW mroIn kitOne kia_one kitx_list kitx_dict callWith_K callWith_K0 cellsFrom_some fnOf codeIn exmOne nsIn excIn mg_of kdl_call kIn_of mg_none_of binds_K)
abbrev GE:=@List.length_map
abbrev GM:=@List.getElem_mem
abbrev GT:=@List.getElem?_eq_getElem
abbrev FM:=@Int.toNat_natCast
abbrev qaa:=@List.getElem?_eq_some_iff
abbrev qab:=@Nat.le_refl
abbrev qac:=@List.mem_singleton
abbrev qad:=@List.take_succ_eq_append_getElem
abbrev qae:=@List.mem_map
abbrev qaf:=@List.size_toArray
abbrev qag:=@Nat.lt_of_lt_of_le
abbrev qah:=@List.mem_cons
abbrev qai:=@PySem.F.plainAttrs_list
abbrev qaj:=@Nat.le_trans
abbrev qak:=@List.getElem?_map
abbrev qal:=@Bool.false_ne_true
abbrev qam:=@Option.some.inj
abbrev qan:=@List.getElem_of_mem
abbrev qao:=@PySem.boot_len
abbrev qap:=@Nat.ne_of_lt
abbrev qaq:=@PySem.F.slot_list_append
abbrev qar:=@PySem.F.type_list_append
abbrev qas:=@Int.toNat_of_nonneg
abbrev qat:=@Nat.zero_le
abbrev qau:=@List.ext_getElem
abbrev qav:=@List.mem_of_getElem?
abbrev qaw:=@List.mem_range
abbrev qax:=@List.mem_cons_of_mem
abbrev qay:=@List.mem_append_right
abbrev qaz:=@List.filter_eq_self
abbrev qaA:=@List.length_append
abbrev qaB:=@List.mem_filter
abbrev qaC:=@List.length_take
abbrev qaD:=@List.take_length
abbrev qaE:=@PySem.F.excBase_ValueError
abbrev qaF:=@PyProof.Rows.boot_list
abbrev qaG:=@List.map_append
abbrev qaH:=@Nat.pow_le_pow_right
abbrev qaI:=@List.mem_append
abbrev qaJ:=@Nat.mul_left_comm
abbrev qaK:=@List.getElem?_append_left
abbrev qaL:=@Int.eq_ofNat_of_zero_le
abbrev qaM:=@PyProof.Rows.callWith_type1
abbrev qaN:=@Nat.mul_assoc
abbrev qaO:=@Nat.lt_of_le_of_lt
abbrev qaP:=@List.map_map
abbrev qaQ:=@Array.length_toList
abbrev qaR:=@List.length_filter_le
abbrev qaS:=@List.getElem?_append_right
abbrev qaT:=@List.nodup_iff_pairwise_ne
abbrev qaU:=@Bool.and_eq_true
abbrev qaV:=@Int.zero_add
abbrev qaW:=@Int.natCast_nonneg
abbrev qaX:=@Array.getElem?_eq_getElem
abbrev qaY:=@List.getElem_map
abbrev qaZ:=@List.length_singleton
abbrev qa0:=@List.getElem?_eq_none
abbrev qa1:=@Int.mul_le_mul_of_nonneg_left
abbrev qa2:=@List.not_mem_nil
abbrev qa3:=@Nat.not_lt_zero
abbrev qa4:=@PyProof.Rows.boot_isinstance
abbrev qa5:=@List.getD_eq_getElem?_getD
abbrev qa6:=@Nat.gcd_dvd_right
abbrev qa7:=@List.take_of_length_le
abbrev qa8:=@Nat.lt_or_ge
abbrev qa9:=@Int.emod_lt_of_pos
abbrev qba:=@Nat.div_le_self
abbrev qbb:=@Int.emod_nonneg
abbrev qbc:=@List.lookup_cons
abbrev qbd:=@Nat.lt_succ_iff_lt_or_eq
abbrev qbe:=@Nat.le_of_ble_eq_true
abbrev qbf:=@Array.getElem?_toList
abbrev qbg:=@Nat.lt_succ_of_lt
abbrev qbh:=@PySem.F.plainAttrs_dict
abbrev qbi:=@Nat.eq_zero_or_pos
abbrev qbj:=@List.getElem?_of_mem
abbrev qbk:=@Nat.lt_succ_self
abbrev qbl:=@Nat.mul_comm
abbrev qbm:=@List.all_eq_true
abbrev qbn:=@List.pairwise_iff_getElem
abbrev qbo:=@List.length_range
abbrev qbp:=@List.length_replicate
abbrev qbq:=@PyProof.Rows.boot_min
abbrev qbr:=@Nat.lt_irrefl
abbrev qbs:=@PySem.F.slot_dict_values
abbrev qbt:=@Nat.le_of_lt
abbrev qbu:=@List.mem_cons_self
abbrev qbv:=@List.mem_append_left
abbrev qbw:=@List.length_drop
abbrev qbx:=@List.mem_iff_getElem
abbrev qby:=@Nat.gcd_dvd_left
abbrev qbz:=@List.getElem?_set_self
abbrev qbA:=@List.nodup_append
abbrev qbB:=@List.map_set
abbrev qbC:=@Nat.eq_of_mul_eq_mul_left
abbrev qbD:=@PyProof.Rows.callWith_builtin1
abbrev qbE:=@Nat.le_of_dvd
abbrev qbF:=@Int.mul_assoc
abbrev qbG:=@List.getElem?_set_ne
abbrev qbH:=@Nat.gcd_pos_of_pos_left
abbrev qbI:=@Bool.eq_iff_iff
abbrev qbJ:=@List.find?_cons
abbrev qbK:=@PySem.mem_of_lookup
abbrev qbL:=@Sum.inl.inj
abbrev qbM:=@List.getElem_inj
abbrev qbN:=@Nat.div_mul_cancel
abbrev qbO:=@Ne.symm
abbrev qbP:=@List.range_succ
abbrev qbQ:=@Nat.dvd_trans
abbrev qbR:=@PyProof.Rows.slot_tuple_getitem
abbrev qbS:=@List.replicate_succ
abbrev qbT:=@List.length_pos_iff
abbrev qbU:=@Int.mul_le_mul_of_nonneg_right
abbrev qbV:=@PySem.F.slot_list_index
abbrev qbW:=@PySem.F.type_list_index
abbrev qbX:=@Int.mul_add
abbrev qbY:=@Nat.ne_of_gt
abbrev qbZ:=@List.length_set
abbrev qb0:=@List.pairwise_map
abbrev qb1:=@List.foldl_append
abbrev qb2:=@Int.fmod_eq_emod_of_nonneg
abbrev qb3:=@Nat.le_succ
abbrev qb4:=@PySem.F.args_dict_values_1
abbrev qb5:=@List.any_eq_true
abbrev qb6:=@List.getElem_set
abbrev qb7:=@PySem.F.entry_dict_values
abbrev qb8:=@PySem.F.plain_extend_loop
abbrev qb9:=@PySem.evalArgs_none
abbrev qca:=@Nat.mul_le_mul_left
abbrev qcb:=@PySem.F.type_dict_values
abbrev qcc:=@Nat.gcd_pos_of_pos_right
abbrev qcd:=@List.append_nil
abbrev qce:=@List.nodup_cons
abbrev qcf:=@Option.map_some
abbrev qcg:=@Int.natCast_mul
abbrev qch:=@List.filter_append
abbrev qci:=@Int.natAbs_natCast
abbrev qcj:=@Nat.mul_right_comm
abbrev qck:=@Int.mul_one
abbrev qcl:=@Nat.log2_lt
abbrev qcm:=@List.flatten_cons
abbrev qcn:=@List.append_assoc
abbrev qco:=@List.getElem_take
abbrev qcp:=@List.flatMap_cons
abbrev qcq:=@Nat.mul_le_mul
abbrev qcr:=@List.all_cons
abbrev qcs:=@List.any_cons
abbrev qct:=@Bool.true_and
abbrev qcu:=@List.sum_cons
abbrev qcv:=@Nat.mul_pos
abbrev qcw:=@Nat.div_pos
open PySem.W (Frag)
namespace L2
open PySem PySem.Spec PyProof.Rows
noncomputable abbrev Key:=Sum Int Str
noncomputable def oj:Key->Value->Bool
 | .inl k,v=>Value.isInt k v
 | .inr x,v=>Value.isStrOf x v
noncomputable def Zpd (w:World):Key->Int
 | .inl k=>hashInt k
 | .inr x=>hashStr w x
theorem la:∀{k:Key}{v:Value},oj k v=true->(∃i t,k=Sum.inl i/\v=Value.int i t)\/(∃x t,k=Sum.inr x/\v=Value.str x t)
 | .inl i,v,h=>by
  obtain⟨t,e⟩:=Value.isInt_shape (k:=i) (v:=v) h;exact .inl ⟨i,t,rfl,e⟩
 | .inr x,v,h=>by
  obtain⟨t,e⟩:=Value.isStrOf_shape (x:=x) (v:=v) h;exact .inr ⟨x,t,rfl,e⟩
theorem Zkc(i:Int)(t:Tok):oj (.inl i) (.int i t)=true:=by simp[oj,Value.isInt]
theorem Zke(x:Str)(t:Tok):oj (.inr x) (.str x t)=true:=by simp[oj,Value.isStrOf]
theorem Zod(a b:Int):decide ((Sum.inl a:Key)=Sum.inl b)=(a==b):=by
 by_cases e:a=b
 .subst e;simp
 .have h:¬(Sum.inl a:Key)=Sum.inl b:=λq=>e (qbL q);rw[decide_eq_false h];exact(beq_eq_false_iff_ne.mpr e).symm
theorem Zog(a b:Str):decide ((Sum.inr a:Key)=Sum.inr b)=decide (a=b):=by
 by_cases e:a=b
 .subst e;simp
 .have h:¬(Sum.inr a:Key)=Sum.inr b:=λq=>e (Sum.inr.inj q);rw[decide_eq_false h,decide_eq_false e]
theorem Zn8(a:Int)(b:Str):decide ((Sum.inl a:Key)=Sum.inr b)=false:=decide_eq_false (λq=>nomatch q)
theorem Zn6(a:Str)(b:Int):decide ((Sum.inr a:Key)=Sum.inl b)=false:=decide_eq_false (λq=>nomatch q)
noncomputable def ec (prog:Program) (w:World):PySem.KeyKind prog w Key where
 is:=oj
 hash:=Zpd w
 inj:=λv a b bD ai=>by
  rcases la bD with⟨i,t,rfl,rfl⟩|⟨x,t,rfl,rfl⟩
  .rcases la ai with⟨j,u,rfl,e⟩|⟨y,u,rfl,e⟩
   .injection e with bE _;rw[bE]
   .exact nomatch e
  .rcases la ai with⟨j,u,rfl,e⟩|⟨y,u,rfl,e⟩
   .exact nomatch e
   .injection e with bE _;rw[bE]
 byValue:=λk v h=>by
  rcases la h with⟨i,t,rfl,rfl⟩|⟨x,t,rfl,rfl⟩<;>rfl
 pyHash:=λbS h=>by
  rcases la bS with⟨i,t,rfl,rfl⟩|⟨x,t,rfl,rfl⟩
  .exact wpAny_pyHash_int h
  .exact wpAny_pyHash_str h
 eqBool:=λhu bS h=>by
  rcases la hu with⟨i,t,rfl,rfl⟩|⟨x,t,rfl,rfl⟩
  .rcases la bS with⟨j,u,rfl,rfl⟩|⟨y,u,rfl,rfl⟩
   .rw[Zod] at h;exact wpAny_eqBool_int h
   .rw[Zn8] at h;exact SeqAt.EqAt.int_str i t y u _ _ _ _ h
  .rcases la bS with⟨j,u,rfl,rfl⟩|⟨y,u,rfl,rfl⟩
   .rw[Zn6] at h;exact SeqAt.EqAt.str_int x t j u _ _ _ _ h
   .rw[Zog] at h;exact wpAny_eqBool_str h
 «strs»:=λk x t v h=>by
  rcases la h with⟨i,u,rfl,e⟩|⟨y,u,rfl,e⟩
  .exact nomatch e
  .injection e with bE _
   subst bE;cases v<;>rfl
theorem ZhT(prog:Program)(w:World)(i:Int)(t:Tok):(ec prog w).is (.inl i) (.int i t)=true:=Zkc i t
theorem Zid(prog:Program)(w:World)(x:Str)(t:Tok):(ec prog w).is (.inr x) (.str x t)=true:=Zke x t
inductive V where
 |non|bl (b:Bool)|int (i:Int)|str (x:Str)|byt (b:Array UInt8)|flt (b:UInt64)|ref (a:Addr)|ty (n:String)
 deriving DecidableEq
def cL:V->Value->Prop
 | .non,u=>u=Value.none
 | .bl b,u=>u=Value.bool b
 | .int i,u=>∃t,u=Value.int i t
 | .str x,u=>∃t,u=Value.str x t
 | .byt b,u=>∃t,u=Value.bytes b t
 | .flt b,u=>∃t,u=Value.float b t
 | .ref a,u=>u=Value.ref a
 | .ty n,u=>u=Value.type n
abbrev cR:List V->List Value->Prop:=Paired cL
theorem cR.length{xs:List V}{us:List Value}(r:cR xs us):xs.length=us.length:=Paired.length r
theorem cR.get:∀{xs:List V}{us:List Value}{i:Nat}{x:V},cR xs us->xs[i]? =some x->∃u,us[i]? =some u/\cL x u
 |_,_,_,_,.nil,e=>by simp at e
 |_,_,0,_,.cons r _,e=>by simp at e;subst e;exact⟨_,rfl,r⟩
 |_,_,i+1,x,.cons _ t,e=>by
  obtain⟨u,ak,a'⟩:=cR.get (i:=i) (x:=x) t (by simpa using e);exact⟨u,by simpa using ak,a'⟩
theorem cR.set{x:V}{u:Value}(r:cL x u):∀{xs:List V}{us:List Value}(i:Nat),cR xs us->cR (xs.set i x) (us.set i u)
 |_,_,_,.nil=> .nil
 |_,_,0,.cons _ t=> .cons r t
 |_,_,i+1,.cons q t=> .cons q (cR.set r i t)
theorem cR.append:∀{xs ys:List V}{us bF:List Value},cR xs us->cR ys bF->cR (xs++ys) (us++bF)
 |_,_,_,_,.nil,s=>s
 |_,_,_,_,.cons r t,s=> .cons r (cR.append t s)
theorem cR.take:∀{xs:List V}{us:List Value}(n:Nat),cR xs us->cR (xs.take n) (us.take n)
 |_,_,0,_=> .nil
 |_,_,_+1,.nil=> .nil
 |_,_,n+1,.cons r t=> .cons r (cR.take n t)
theorem cR.drop:∀{xs:List V}{us:List Value}(n:Nat),cR xs us->cR (xs.drop n) (us.drop n)
 |_,_,0,r=>r
 |_,_,_+1,.nil=> .nil
 |_,_,n+1,.cons _ t=>cR.drop n t
def gU:Option V->Option Value->Prop
 |some v,some u=>cL v u
 |none,none=>True
 |_,_=>False
def KV {dC:Type}:List (dC×V)->List (dC×Value)->Prop:=Paired λ(p:dC×V) (q:dC×Value)=>p.1=q.1/\cL p.2 q.2
noncomputable def kV:Key->V
 | .inl i=> .int i
 | .inr x=> .str x
inductive HO where
 |lst (xs:List V)
 |tup (xs:List V)
 |dK (kvs:List (Key×V))|dT (kvs:List (List Key×V))
 |set (S:Int->Bool) (n:Nat)
 |ins (C bx:Addr) (fs:List (Str×V))
 |own (x:Addr)
 |xd (fs:List (Str×V))
 |met (f x:Addr)
 |rng (lo hi:Int)
 |frz (o:Obj) (u:HO)
 |tbl (b_:Array Value)
 |ext (mU:Heap->Prop)
noncomputable abbrev Hp:=Addr->Option HO
noncomputable def upd (H:Hp) (a:Addr) (o:HO):Hp:=λb=>if b=a then some o else H b
theorem Ze{H:Hp}{a:Addr}{o:HO}:upd H a o a=some o:=by unfold upd;rw[if_pos rfl]
theorem b6{H:Hp}{a b:Addr}{o:HO}(h:b≠a):upd H a o b=H b:=by unfold upd;rw[if_neg h]
theorem gk{H:Hp}{a b:Addr}{o u:HO}(h:H a=some o)(h':H b=some u)(d:o≠u):a≠b:=by
 intro e;subst e;rw[h] at h';exact d (qam h')
theorem c3{H:Hp}{a b:Addr}{o:HO}(h:H a=some o)(h':H b=none):a≠b:=by
 intro e;subst e;rw[h] at h';cases h'
section
variable (P:Program)(w:World)
def Z5 (H:Hp) (h:Heap) (a:Addr):HO->Prop
 | .lst xs=>xs.length<=sizeLine/\∃(its:List Value)(n:Nat),cR xs its/\h.get? a=some {cls:= .type "list",data:= .seq its.toArray n}
 | .tup xs=>xs.length<=sizeLine/\∃its:List Value,cR xs its/\IsTup h a its.toArray
 | .dK kvs=>kvs.length<=sizeLine/\(a==sysModules)=false/\∃vs,KV kvs vs/\h.DictOf (ec P w) a vs
 | .dT kvs=>kvs.length<=sizeLine/\(a==sysModules)=false/\∃xs:List (List Key×Addr×Value),
   Paired (λ(p:List Key×V) (q:List Key×Addr×Value)=>p.1=q.1/\H q.2.1=some (.tup (p.1.map kV))/\cL p.2 q.2.2) kvs xs/\
   ∃o bC ep,h.get? a=some o/\o.ExactDict/\o.data= .dict bC ep/\bC.toList=xs.map (entryOfKey (tupleKind (ec P w)))/\(xs.map (·.1)).Nodup
 | .set S n=>h.SetOf (intKind P w) a S n
 | .ins C bx fs=>H bx=some (.own a)/\fs.length<=1000/\bx≠a/\h.get? a=some (instObj C bx)/\
   ∃ed,h.Ns1 bx ed/\(∀f,gU (fs.lookup f) (ed f))/\PySem.Within ed (fs.map (·.1))
 | .own _=>∃o,h.get? a=some o
 | .xd fs=>∃ed,h.Ns1 a ed/\∀f,gU (fs.lookup f) (ed f)
 | .rng lo hi=>∃t u v,h.get? a=some {cls:= .type "range",data:= .fields #[.int lo t,.int hi u,.int 1 v]}
 | .frz o u=>h.get? a=some o/\Z5 H h a u
 | .tbl b_=>h.get? a=some {cls:= .none,data:= .fields b_}
 | .met f x=>h.get? a=some (methodObj (.ref f) (.ref x))
 | .ext mU=>mU h/\(∃o,h.get? a=some o)/\∀ak a':Heap,mU ak->(∀o,ak.get? a=some o->a'.get? a=some o)->mU a'
def HOk(H:Hp)(h:Heap):Prop:=∀a o,H a=some o->Z5 P w H h a o
end
section
variable {P:Program}{w:World}{H ae:Hp}{h h':Heap}{a:Addr}{o:HO}
theorem Z5.lt(x:Z5 P w H h a o):a<h.objs.size:=by
 cases o with
 |lst xs=>obtain⟨_,_,_,_,e⟩:=x;exact Heap.lt_size e
 |tup xs=>obtain⟨_,_,_,p⟩:=x;exact p.lt
 |dK kvs=>obtain⟨_,_,_,_,o,_,_,e,_⟩:=x;exact Heap.lt_size e
 |dT kvs=>obtain⟨_,_,_,_,o,_,_,e,_⟩:=x;exact Heap.lt_size e
 |set S n=>obtain⟨o,_,_,_,e,_⟩:=x;exact Heap.lt_size e
 |ins C bx fs=>obtain⟨_,_,_,e,_⟩:=x;exact Heap.lt_size e
 |own y=>obtain⟨_,e⟩:=x;exact Heap.lt_size e
 |xd fs=>obtain⟨_,⟨_,_,_,e,_⟩,_⟩:=x;exact Heap.lt_size e
 |rng lo hi=>obtain⟨_,_,_,e⟩:=x;exact Heap.lt_size e
 |frz cZ u=>obtain⟨e,_⟩:=x;exact Heap.lt_size e
 |tbl b_=>exact Heap.lt_size (show h.get? a=some _ from x)
 |met f y=>exact Heap.lt_size (show h.get? a=some _ from x)
 |ext mU=>obtain⟨_,⟨_,e⟩,_⟩:=x;exact Heap.lt_size e
theorem Paired.mapP{cT gF:Type}{F G:cT->gF->Prop}:∀{l₁:List cT}{l₂:List gF},Paired F l₁ l₂->(∀a b,F a b->G a b)->Paired G l₁ l₂
 |_,_,.nil,_=> .nil
 |_,_,.cons r t,f=> .cons (f _ _ r) (Paired.mapP t f)
theorem Z5.stay(x:Z5 P w H h a o)(k:∀b u,(b=a\/H b=some (.own a))->h.get? b=some u->h'.get? b=some u)
  (bJ:∀b,H b=some (.own a)->ae b=some (.own a)) (bX:∀b xs,H b=some (.tup xs)->ae b=some (.tup xs)):Z5 P w ae h' a o:=by
 induction o with
 |lst xs=>obtain⟨z,its,n,r,e⟩:=x;exact⟨z,its,n,r,k _ _ (.inl rfl) e⟩
 |tup xs=>obtain⟨z,its,r,cZ,e,c⟩:=x;exact⟨z,its,r,cZ,k _ _ (.inl rfl) e,c⟩
 |dK kvs=>obtain⟨z,y,vs,r,cZ,bC,ep,e,c⟩:=x;exact⟨z,y,vs,r,cZ,bC,ep,k _ _ (.inl rfl) e,c⟩
 |dT kvs=>
  obtain⟨z,y,xs,r,cZ,bC,ep,e,c⟩:=x;exact⟨z,y,xs,Paired.mapP r λp q z=>⟨z.1,bX _ _ z.2.1,z.2.2⟩,cZ,bC,ep,k _ _ (.inl rfl) e,c⟩
 |set S n=>obtain⟨cZ,bC,ep,t,e,c⟩:=x;exact⟨cZ,bC,ep,t,k _ _ (.inl rfl) e,c⟩
 |ins C bx fs=>
  obtain⟨d,z,ne,e,ed,⟨ef,bC,ep,bP,c⟩,r⟩:=x;exact⟨bJ _ d,z,ne,k _ _ (.inl rfl) e,ed,⟨ef,bC,ep,k _ _ (.inr d) bP,c⟩,r⟩
 |own y=>obtain⟨cZ,e⟩:=x;exact⟨cZ,k _ _ (.inl rfl) e⟩
 |xd fs=>obtain⟨ed,⟨ef,bC,ep,e,c⟩,r⟩:=x;exact⟨ed,⟨ef,bC,ep,k _ _ (.inl rfl) e,c⟩,r⟩
 |rng lo hi=>obtain⟨t,u,v,e⟩:=x;exact⟨t,u,v,k _ _ (.inl rfl) e⟩
 |frz cZ u bQ=>obtain⟨e,q⟩:=x;exact⟨k _ _ (.inl rfl) e,bQ q⟩
 |tbl b_=>
  have e:h.get? a=some {cls:= .none,data:= .fields b_}:=x;show h'.get? a=some {cls:= .none,data:= .fields b_};exact k a _ (.inl rfl) e
 |met f y=>
  have e:h.get? a=some (methodObj (.ref f) (.ref y)):=x;show h'.get? a=some (methodObj (.ref f) (.ref y));exact k a _ (.inl rfl) e
 |ext mU=>obtain⟨p,⟨o,e⟩,st⟩:=x;exact⟨st _ _ p λo q=>k _ _ (.inl rfl) q,⟨o,k _ _ (.inl rfl) e⟩,st⟩
theorem HOk.lt(x:HOk P w H h)(e:H a=some o):a<h.objs.size:=(x a o e).lt
theorem HOk.fresh(x:HOk P w H h)(e:h.objs.size<=a):H a=none:=by
 cases q:H a with
 |none=>rfl
 |some u=>exact absurd (qag (x.lt q) e) (qbr _)
theorem HOk.kept(x:HOk P w H h)(k:∀b u,h.get? b=some u->h'.get? b=some u):HOk P w H h':=λa o e=>
 (x a o e).stay (λb u _ q=>k b u q) (λ_ q=>q) λ_ _ q=>q
theorem HOk.laid(x:HOk P w H h)(k:∀b u,h.get? b=some u->h'.get? b=some u)(bB:h.objs.size<=a)(new:Z5 P w (upd H a o) h' a o):HOk P w (upd H a o) h':=λb u e=>by
 have bH:=x.fresh bB
 by_cases ai:b=a
 .subst ai;rw[Ze] at e;cases e;exact new
 .rw[b6 ai] at e;exact(x b u e).stay (λc v _ q=>k c v q) (λc q=>by rw[b6 (c3 q bH)];exact q) λc xs q=>by rw[b6 (c3 q bH)];exact q
end
def Rd(H:Hp)(a:Addr)(u:HO):Prop:=H a=some u\/∃o,H a=some (.frz o u)
theorem Rd.ok{P:Program}{w:World}{H:Hp}{h:Heap}{a:Addr}{u:HO}(r:Rd H a u)(x:HOk P w H h):Z5 P w H h a u:=by
 rcases r with r|⟨o,r⟩
 .exact x a u r
 .obtain⟨_,q⟩:=x a _ r;exact q
def Mut:Option HO->Prop
 |some (.lst _)=>True
 |some (.dK _)=>True
 |some (.dT _)=>True
 |some (.set _ _)=>True
 |some (.ins _ _ _)=>True
 |some (.ext _)=>True
 |_=>False
section
variable {P:Program}{w:World}{H:Hp}{h h':Heap}{x e:Addr}{cx:HO}
theorem HOk.write(ok:HOk P w H h)(iD:Mut (H x))(bK:e=x\/H e=some (.own x))(k:∀b u,b≠e->h.get? b=some u->h'.get? b=some u)(ol:∃u,h'.get? e=some u)
  (new:Z5 P w (upd H x cx) h' x cx):HOk P w (upd H x cx) h':=λb u q=>by
 have yP:∀c y,H c=some (.own y)->c≠x:=λc y r z=>by subst z;rw[r] at iD;exact iD
 have F9:∀c xs,H c=some (.tup xs)->c≠x:=λc xs r z=>by subst z;rw[r] at iD;exact iD
 by_cases ai:b=x
 .subst ai;rw[Ze] at q;cases q;exact new
 .rw[b6 ai] at q
  by_cases lc:b=e
  .have iE:H b=some (.own x):=by
    rcases bK with z|z
    .exact absurd (lc.trans z) ai
    .rw[lc];exact z
   rw[q] at iE;cases iE;obtain⟨v,bS⟩:=ol;exact⟨v,by rw[lc];exact bS⟩
  .refine(ok b u q).stay (λc v bv r=>k c v ?_ r) (λc r=>by rw[b6 (yP c b r)];exact r) λc xs r=>by rw[b6 (F9 c xs r)];exact r
   rcases bv with rfl|bv
   .exact lc
   .rintro rfl;rcases bK with z|z
    .exact yP c b bv z
    .rw[bv] at z;cases z;exact ai rfl
end
structure Un(fs ex:List Addr)(H ae:Hp)(h h':Heap):Prop where
 keep:∀b o,h.get? b=some o->H b=none->b∉fs->b∉ex->h'.get? b=some o
 slot:∀b o,h.get? b=some o->H b=none->b∈fs->b∉ex->∃sl,h'.get? b=some {o with slots:=sl}
 free:∀b o,h.get? b=some o->H b=none->b∉ex->ae b=none
 there:∀b o,h.get? b=some o->b∉ex->∃cx,h'.get? b=some cx
 tups:∀b xs,H b=some (.tup xs)->ae b=some (.tup xs)
 frzs:∀b o u,H b=some (.frz o u)->ae b=some (.frz o u)
 tbls:∀b b_,H b=some (.tbl b_)->∃more,ae b=some (.tbl (b_++more))
section
variable {fs r1 ex RT:List Addr}{H a_ bt:Hp}{h ak a' h':Heap}{a x e:Addr}{o:HO}
theorem Un.any(u:Un fs ex H a_ h ak){b:Addr}{cZ:Obj}(q:h.get? b=some cZ)(n:H b=none)(bp:b∉ex):∃sl,ak.get? b=some {cZ with slots:=sl}:=by
 by_cases ai:b∈fs
 .exact u.slot b cZ q n ai bp
 .exact⟨cZ.slots,u.keep b cZ q n ai bp⟩
theorem Un.kept(k:∀b u,h.get? b=some u->h'.get? b=some u):Un fs ex H H h h':=
 ⟨λb cZ q _ _ _=>k b cZ q,λb cZ q _ _ _=>⟨cZ.slots,k b cZ q⟩,λ_ _ _ n _=>n,λb cZ q _=>⟨cZ,k b cZ q⟩,λ_ _ q=>q,λ_ _ _ q=>q,λ_ b_ q=>⟨#[],by rw[q];simp⟩⟩
theorem Un.refl:Un fs ex H H h h:=Un.kept λ_ _ q=>q
theorem Un.laid(k:∀b u,h.get? b=some u->h'.get? b=some u)(bB:h.objs.size<=a)(bH:H a=none):Un fs ex H (upd H a o) h h' where
 keep:=λb u q _ _ _=>k b u q
 slot:=λb u q _ _ _=>⟨u.slots,k b u q⟩
 free:=λb u q n _=>by rw[b6 (qap (qag (Heap.lt_size q) bB))];exact n
 there:=λb u q _=>⟨u,k b u q⟩
 tups:=λb xs q=>by rw[b6 (c3 q bH)];exact q
 frzs:=λb u xs q=>by rw[b6 (c3 q bH)];exact q
 tbls:=λb b_ q=>⟨#[],by rw[b6 (c3 q bH),q];simp⟩
theorem Un.write(iD:Mut (H x))(bK:e=x\/H e=some (.own x))(k:∀b u,b≠e->h.get? b=some u->h'.get? b=some u)(ol:∃u,h'.get? e=some u):Un fs ex H (upd H x o) h h':=by
 have bp:∀b,H b=none->b≠x:=λb n z=>by subst z;rw[n] at iD;exact iD
 have ai:∀b,H b=none->b≠e:=λb n z=>by
  subst z;rcases bK with r|r
  .exact bp b n r
  .rw[n] at r;cases r
 have bz:∀b u,H b=some u->¬Mut (some u)->b≠x:=λb u q nm z=>by subst z;rw[q] at iD;exact nm iD
 refine⟨λb u q n _ _=>k b u (ai b n) q,λb u q n _ _=>⟨u.slots,k b u (ai b n) q⟩,λb u q n _=>by rw[b6 (bp b n)];exact n,λb u q _=>?_,
  λb xs q=>by rw[b6 (bz b _ q λz=>z)];exact q,λb u xs q=>by rw[b6 (bz b _ q λz=>z)];exact q,λb b_ q=>⟨#[],by rw[b6 (bz b _ q λz=>z),q];simp⟩⟩
 by_cases lc:b=e
 .subst lc;exact ol
 .exact⟨u,k b u lc q⟩
end
noncomputable def trk (h:Heap) (H:Hp):List Addr:=(List.range h.objs.size).filter λa=>(H a).isSome
noncomputable def lf (h:Heap) (H:Hp):Heap:=hideAll h (trk h H)
theorem F_(h:Heap)(H:Hp):(lf h H).objs.size=h.objs.size:=PySem.W.hideAll_size _ _
theorem Zlk{h:Heap}{H:Hp}{b:Addr}{o:Obj}(e:h.get? b=some o)(n:H b=none):(lf h H).get? b=some o:=
 hideAll_get _ e λbz=>by
  have q:(H b).isSome=true:=(qaB.mp bz).2;rw[n] at q;simp at q
theorem ZmC{h:Heap}{H:Hp}{b:Addr}{o:Obj}(e:(lf h H).get? b=some o):h.get? b=some o/\H b=none:=by
 have b':h.get? b=some o:=of_hideAll (trk h H) e;refine⟨b',?_⟩;cases q:H b with
 |none=>rfl
 |some x=>
  have bz:b∈trk h H:=qaB.mpr ⟨qaw.mpr (Heap.lt_size b'),by simp[q]⟩;have z:(lf h H).get? b=none:=PySem.W.hideAll_none (trk h H) bz;rw[z] at e;cases e
structure Mod(K:Frag)(mg:Str->Option Value)(base:Heap):Prop where
 kin:K.In base
 glob:base.Ns mainGlobals mg
 blt:∃jy,base.Ns builtinsNs jy/\∀x:Str,x≠"__name__" ->jy x=bootBuiltins x
 nolimit:base.NoLimit
structure Cx where
 prog:Program
 w:World
 K:Frag
 mg:Str->Option Value
 base:Heap
 A:Around
 N:List Str
 s₀:Shared
 H₀:Hp
 env:Env
 outer:List Env
 stack:List Env
 ex:List Addr
 fn:Str->Bool
 calm:Bool
 pn:List (Addr×Obj)
 xe:Value->Shared->Prop
noncomputable def frs (l:List Env):List Addr:=l.filterMap (·.frame)
noncomputable abbrev Cx.fs (X:Cx):List Addr:=frs X.outer
def Vis(ca:Scope)(x:Str):Prop:=ca.names.lookup x=some .local\/ca.names.lookup x=some .cell\/ca.names.lookup x=some .free
def Loc(ca:Scope)(x:Str):Prop:=ca.names.lookup x=some .local\/ca.names.lookup x=some .cell
def Zpg(env:Env)(h:Heap)(m:Str->Option Value)(x:Str)(u:Value):Prop:=
 (env.kindOf x=some .local/\m x=some u)\/((env.kindOf x=some .cell\/env.kindOf x=some .free)/\∃c,env.cells.lookup x=some c/\h.IsCell c (some u))
structure Cx.Ok(X:Cx):Prop where
 mod:Mod X.K X.mg X.base
 kind:X.env.scope.kind= .function
 glob:X.env.globals=mainGlobals
 blt:X.env.builtins=builtinsNs
 above:X.s₀.heap.objs.size<=X.env.locals
 inj:∀x y c,X.env.cells.lookup x=some c->X.env.cells.lookup y=some c->x=y
 has:∀x,(X.env.kindOf x=some .cell\/X.env.kindOf x=some .free)->∃c,X.env.cells.lookup x=some c
 cab:∀x c,X.fn x=true->X.env.cells.lookup x=some c->X.s₀.heap.objs.size<=c
 hd:X.calm=true->X.A.handled=none
 frames:X.A.frames=some X.stack
 stk:X.stack=X.outer\/(X.stack=X.env::X.outer/\X.env.frame=some X.env.locals)
 exf:∀b∈X.ex,b≠X.env.locals/\∀x c,X.env.cells.lookup x=some c->c≠b
 bs:∀b o,X.base.get? b=some o->X.s₀.heap.get? b=some o/\X.H₀ b=none
 bsz:X.base.objs.size<=X.s₀.heap.objs.size
 noex:∀b o,X.base.get? b=some o->b∉X.ex
 exfs:∀b∈X.ex,b∉X.fs
 funs:X.s₀.heap.FunFrames X.base X.outer
 frf:∀b∈X.fs,X.H₀ b=none
structure Inv(X:Cx)(aj:List (Addr×Obj))(af:List (Option V))(H:Hp)(s:Shared):Prop where
 ok:X.Ok
 os:s.os=X.s₀.os
 bare:AllBare s.gens
 base:Un X.fs X.ex X.H₀ H X.s₀.heap s.heap
 loc:∃m,s.heap.Ns X.env.locals m/\∀(i:Nat)(x:Str)(v:V),X.N[i]? =some x->af[i]? =some (some v)->Vis X.env.scope x->∃u,cL v u/\Zpg X.env s.heap m x u
 cell:∀x c,X.env.cells.lookup x=some c->∃v,s.heap.IsCell c v
 free:H X.env.locals=none
 freeC:∀x c,X.env.cells.lookup x=some c->H c=none
 pin:∀p∈X.pn++aj,s.heap.get? p.1=some p.2/\H p.1=none/\p.1≠X.env.locals/\p.1∉X.fs/\∀v,p.2.data≠ .cell v
 hok:HOk X.prog X.w H s.heap
 len:af.length=X.N.length
section
variable {X:Cx}{aj:List (Addr×Obj)}{af:List (Option V)}{H ae:Hp}{s:Shared}{h':Heap}
theorem Cx.Ok.nofr(ok:X.Ok){b:Addr}{o:Obj}(e:X.base.get? b=some o):b∉X.fs:=λai=>by
 have:=(ok.funs.mem ai).1;rw[e] at this;cases this
theorem Inv.bs(I:Inv X aj af H s):∀b o,X.base.get? b=some o->s.heap.get? b=some o/\H b=none:=λb o e=>
 ⟨I.base.keep b o (I.ok.bs b o e).1 (I.ok.bs b o e).2 (I.ok.nofr e) (I.ok.noex b o e),I.base.free b o (I.ok.bs b o e).1 (I.ok.bs b o e).2 (I.ok.noex b o e)⟩
theorem Inv.bk(I:Inv X aj af H s):∀b o,X.base.get? b=some o->s.heap.get? b=some o:=λb o e=>(I.bs b o e).1
theorem Inv.mod(I:Inv X aj af H s):Mod X.K X.mg X.base:=I.ok.mod
theorem Inv.kIn(I:Inv X aj af H s):X.K.In s.heap:=I.ok.mod.kin.keeps I.bk
theorem Inv.lt(I:Inv X aj af H s):X.env.locals<s.heap.objs.size:=let⟨_,bH,_⟩:=I.loc;bH.lt
theorem Inv.sz(I:Inv X aj af H s):X.s₀.heap.objs.size<=s.heap.objs.size:=qaj I.ok.above (qbt I.lt)
theorem Inv.nofs(I:Inv X aj af H s){a:Addr}(h:s.heap.objs.size<=a):a∉X.fs:=λai=>by
 obtain⟨_,o,bJ,_⟩:=I.ok.funs.mem ai;exact absurd (qag (Heap.lt_size bJ) (qaj I.sz h)) (qbr _)
theorem Inv.cne(I:Inv X aj af H s):∀x c,X.env.cells.lookup x=some c->c≠X.env.locals:=λx c e z=>by
 obtain⟨v,o,bJ,hd⟩:=I.cell x c e;obtain⟨m,⟨cx,bC,ep,jR,hK,_⟩,_⟩:=I.loc;rw[z,jR] at bJ;cases bJ;rw[hK] at hd;cases hd
theorem Inv.funs(I:Inv X aj af H s):s.heap.FunFrames X.base X.outer:=by
 have all:∀(l:List Env),(∀b∈frs l,b∈X.fs)->X.s₀.heap.FunFrames X.base l->s.heap.FunFrames X.base l:=by
  intro l
  induction l with
  |nil=>intro _ _;trivial
  |cons env r bQ=>
   intro hs ag;obtain⟨br,⟨L,o,bN,bH,bJ,hd⟩,ap⟩:=ag;have h6:L∈X.fs:=hs L (by unfold frs;rw[List.filterMap_cons,bN];exact qbu);obtain⟨sl,e⟩:=I.base.slot L o bJ (I.ok.frf L h6) h6 λz=>I.ok.exfs L z h6;exact⟨br,⟨L,_,bN,bH,e,hd⟩,bQ (λb ai=>hs b (by unfold frs;rw[List.filterMap_cons,bN];exact qax _ ai)) ap⟩
 exact all X.outer (λ_ ai=>ai) I.ok.funs
theorem Inv.stack(I:Inv X aj af H s):s.heap.FunFrames X.base X.stack:=by
 rcases I.ok.stk with e|⟨e,bN⟩
 .rw[e];exact I.funs
 .rw[e];obtain⟨m,bH,_⟩:=I.loc;refine .cons (by rw[I.ok.kind];decide) bN bH ?_ I.funs;exact Heap.get?_none_of_le (qaj I.ok.bsz I.ok.above)
theorem Inv.stkSub(I:Inv X aj af H s):∀b∈frs X.stack,b∈X.env.locals::X.fs:=λb ai=>by
 rcases I.ok.stk with e|⟨e,bN⟩
 .rw[e] at ai;exact qax _ ai
 .rw[e] at ai;unfold frs at ai;rw[List.filterMap_cons,bN] at ai;exact ai
theorem Inv.stkFree(I:Inv X aj af H s):∀b∈frs X.stack,H b=none:=λb ai=>by
 rcases qah.mp (I.stkSub b ai) with e|ai
 .rw[e];exact I.free
 .obtain⟨_,o,bJ,_⟩:=I.ok.funs.mem ai;exact I.base.free b o bJ (I.ok.frf b ai) λz=>I.ok.exfs b z ai
theorem Inv.step{g':Array GenState}{t':Nat}{d':Drawn}{ch:List Addr}(I:Inv X aj af H s)
  (jS:∀b∈ch,(b∈X.ex\/X.s₀.heap.objs.size<=b)/\b≠X.env.locals/\(∀x c,X.env.cells.lookup x=some c->c≠b)/\∀p∈X.pn++aj,p.1≠b)
  (keep:∀b o,b≠X.env.locals->b∉X.fs->b∉ch->s.heap.get? b=some o->H b=none->h'.get? b=some o)
  (slot:∀b o,b≠X.env.locals->b∈X.fs->b∉ch->s.heap.get? b=some o->H b=none->∃sl,h'.get? b=some {o with slots:=sl}) (free:∀b o,b∉ch->s.heap.get? b=some o->H b=none->ae b=none)
  (there:∀b o,b∉ch->s.heap.get? b=some o->∃cx,h'.get? b=some cx)
  (tups:∀b xs,H b=some (.tup xs)->ae b=some (.tup xs)) (frzs:∀b o u,H b=some (.frz o u)->ae b=some (.frz o u)) (tbls:∀b b_,H b=some (.tbl b_)->∃more,ae b=some (.tbl (b_++more)))
  (ns:∀m,s.heap.Ns X.env.locals m->h'.Ns X.env.locals m) (hok:HOk X.prog X.w ae h') (bG:AllBare g'):
  Inv X aj af ae {s with heap:=h',gens:=g',drawn:=d',toks:=t'}:=by
 have yQ:∀b o,X.s₀.heap.get? b=some o->b≠X.env.locals:=λb o e=>qap (qag (Heap.lt_size e) I.ok.above);have r2:∀b o,X.s₀.heap.get? b=some o->b∉X.ex->b∉ch:=λb o e bp ai=>by
  rcases(jS b ai).1 with z|z
  .exact bp z
  .exact absurd (qag (Heap.lt_size e) z) (qbr _)
 have yR:∀x c,X.env.cells.lookup x=some c->∀v,s.heap.IsCell c v->h'.IsCell c v:=λx c e v ⟨o,bJ,hd⟩=>by
  have pI:c∉ch:=λz=>(jS c z).2.2.1 x c e rfl
  by_cases bv:c∈X.fs
  .obtain⟨sl,q⟩:=slot c o (I.cne x c e) bv pI bJ (I.freeC x c e);exact⟨_,q,hd⟩
  .exact⟨o,keep c o (I.cne x c e) bv pI bJ (I.freeC x c e),hd⟩
 refine⟨I.ok,I.os,bG,⟨λb o e n ai bp=>?_,λb o e n ai bp=>?_,λb o e n bp=>?_,λb o e bp=>?_,λb xs e=>tups b xs (I.base.tups b xs e),λb o xs e=>frzs b o xs (I.base.frzs b o xs e),λb b_ e=>?_⟩,?_,λx c e=>?_,?_,λx c e=>?_,λp bB=>?_,hok,I.len⟩
 .exact keep b o (yQ b o e) ai (r2 b o e bp) (I.base.keep b o e n ai bp) (I.base.free b o e n bp)
 .obtain⟨sl,bE⟩:=I.base.slot b o e n ai bp;obtain⟨ur,bP⟩:=slot b _ (yQ b o e) ai (r2 b o e bp) bE (I.base.free b o e n bp);exact⟨ur,bP⟩
 .obtain⟨cx,bE⟩:=I.base.there b o e bp;exact free b cx (r2 b o e bp) bE (I.base.free b o e n bp)
 .obtain⟨cx,bE⟩:=I.base.there b o e bp;exact there b cx (r2 b o e bp) bE
 .obtain⟨fJ,bE⟩:=I.base.tbls b b_ e;obtain⟨gl,bP⟩:=tbls b _ bE;exact⟨fJ++gl,by rw[bP,Array.append_assoc]⟩
 .obtain⟨m,bH,ag⟩:=I.loc;refine⟨m,ns m bH,λi x v bE bP dj=>?_⟩;obtain⟨u,r,l⟩:=ag i x v bE bP dj;refine⟨u,r,?_⟩;rcases l with l|⟨k,c,e,z⟩
  .exact .inl l
  .exact .inr ⟨k,c,e,yR x c e _ z⟩
 .obtain⟨v,z⟩:=I.cell x c e;exact⟨v,yR x c e v z⟩
 .obtain⟨m,⟨o,_,_,bJ,_⟩,_⟩:=I.loc;exact free _ o (λz=>(jS _ z).2.1 rfl) bJ I.free
 .obtain⟨v,o,bJ,hd⟩:=I.cell x c e;exact free c o (λz=>(jS c z).2.2.1 x c e rfl) bJ (I.freeC x c e)
 .obtain⟨e,n,ne,l4,d⟩:=I.pin p bB;have pI:p.1∉ch:=λz=>(jS p.1 z).2.2.2 p bB rfl;exact⟨keep p.1 p.2 ne l4 pI e n,free p.1 p.2 pI e n,ne,l4,d⟩
theorem Inv.un{t':Nat}(I:Inv X aj af H s)(u:Un X.fs [] H ae s.heap h')(hok:HOk X.prog X.w ae h'):Inv X aj af ae {s with heap:=h',toks:=t'}:=by
 obtain⟨m,⟨o,bC,ep,bJ,r⟩,_⟩:=id I.loc;obtain⟨sl,h6⟩:=u.any bJ I.free (by simp);exact I.step (g':=s.gens) (d':=s.drawn) (ch:=[]) (λ_ z=>nomatch z) (λb o _ ai _ e n=>u.keep b o e n ai (by simp)) (λb o _ ai _ e n=>u.slot b o e n ai (by simp)) (λb o _ e n=>u.free b o e n (by simp)) (λb o _ e=>u.there b o e (by simp)) u.tups u.frzs u.tbls (λcA bz=>by
  obtain⟨cx,ut,uu,jR,c7⟩:=bz;rw[bJ] at jR;cases jR;exact⟨_,ut,uu,h6,c7⟩) hok I.bare
theorem Inv.call{g':Array GenState}{t':Nat}{d':Drawn}{ch:List Addr}(I:Inv X aj af H s)(u:Un (frs X.stack) ch H ae s.heap h')(hok:HOk X.prog X.w ae h')(bG:AllBare g')
  (jS:∀b∈ch,(b∈X.ex\/X.s₀.heap.objs.size<=b)/\b≠X.env.locals/\(∀x c,X.env.cells.lookup x=some c->c≠b)/\∀p∈X.pn++aj,p.1≠b):
  Inv X aj af ae {s with heap:=h',gens:=g',drawn:=d',toks:=t'}:=by
 obtain⟨m,⟨o,bC,ep,bJ,r⟩,_⟩:=id I.loc;obtain⟨sl,h6⟩:=u.any bJ I.free λz=>(jS _ z).2.1 rfl;exact I.step (ch:=ch) jS (λb o h6 ai bv e n=>u.keep b o e n (λz=>(qah.mp (I.stkSub b z)).elim h6 ai) bv) (λb o _ _ bv e n=>u.any e n bv) (λb o bv e n=>u.free b o e n bv) (λb o bv e=>u.there b o e bv) u.tups u.frzs u.tbls (λcA bz=>by
  obtain⟨cx,ut,uu,jR,c7⟩:=bz;rw[bJ] at jR;cases jR;exact⟨_,ut,uu,h6,c7⟩) hok bG
theorem Inv.turned{t':Nat}{it:Addr}(I:Inv X aj af H s)(k:∀b o,b≠it->s.heap.get? b=some o->h'.get? b=some o)(bH:H it=none)(h6:it≠X.env.locals)
  (ak:it∈X.ex\/X.s₀.heap.objs.size<=it) (a':∀x c,X.env.cells.lookup x=some c->c≠it) (bL:∀p∈X.pn++aj,p.1≠it):Inv X aj af H {s with heap:=h',toks:=t'}:=by
 have pJ:∀b u,H b=some u->b≠it:=λb u e z=>by rw[z,bH] at e;cases e
 refine I.step (g':=s.gens) (d':=s.drawn) (ch:=[it]) (λb ai=>?_) (λb o _ _ bv e _=>k b o (λz=>bv (by simp[z])) e) (λb o _ _ bv e _=>⟨o.slots,k b o (λz=>bv (by simp[z])) e⟩) (λ_ _ _ _ n=>n)
  (λb o bv e=>⟨o,k b o (λz=>bv (by simp[z])) e⟩) (λ_ _ e=>e) (λ_ _ _ e=>e) (λb b_ e=>⟨#[],by rw[e];simp⟩) (λm bz=>?_) (λb u e=>?_) I.bare
 .have e:b=it:=by simpa using ai
  subst e;exact⟨ak,h6,a',bL⟩
 .obtain⟨o,bC,ep,bJ,r⟩:=bz;exact⟨o,bC,ep,k _ o (qbO h6) bJ,r⟩
 .refine(I.hok b u e).stay (λc v bv q=>k c v ?_ q) (λ_ q=>q) λ_ _ q=>q;rcases bv with z|z
  .rw[z];exact pJ b u e
  .exact pJ c _ z
theorem Inv.tok(I:Inv X aj af H s)(t:Nat):Inv X aj af H {s with toks:=t}:=I.un (h':=s.heap) (t':=t) Un.refl I.hok
theorem Inv.kept{t':Nat}(I:Inv X aj af H s)(k:∀b u,s.heap.get? b=some u->h'.get? b=some u):Inv X aj af H {s with heap:=h',toks:=t'}:=I.un (Un.kept k) (I.hok.kept k)
theorem Inv.laid{a:Addr}{o:HO}{t':Nat}(I:Inv X aj af H s)(k:∀b u,s.heap.get? b=some u->h'.get? b=some u)(bB:s.heap.objs.size<=a)(new:Z5 X.prog X.w (upd H a o) h' a o):
  Inv X aj af (upd H a o) {s with heap:=h',toks:=t'}:=I.un (Un.laid k bB (I.hok.fresh bB)) (I.hok.laid k bB new)
theorem Inv.write{x e:Addr}{o:HO}{t':Nat}(I:Inv X aj af H s)(iD:Mut (H x))(bK:e=x\/H e=some (.own x))(k:∀b u,b≠e->s.heap.get? b=some u->h'.get? b=some u)(ol:∃u,h'.get? e=some u)
  (new:Z5 X.prog X.w (upd H x o) h' x o):Inv X aj af (upd H x o) {s with heap:=h',toks:=t'}:=I.un (Un.write iD bK k ol) (I.hok.write iD bK k ol new)
theorem Inv.pins_of{om:List (Addr×Obj)}(I:Inv X aj af H s)(h:∀p∈om,s.heap.get? p.1=some p.2/\H p.1=none/\p.1≠X.env.locals/\p.1∉X.fs/\∀v,p.2.data≠ .cell v):Inv X om af H s:=
 ⟨I.ok,I.os,I.bare,I.base,I.loc,I.cell,I.free,I.freeC,λp bB=>(qaI.mp bB).elim (λz=>I.pin p (qbv _ z)) (h p),I.hok,I.len⟩
theorem yS{N:List Str}(en:N.Nodup){i j:Nat}{x:Str}(a:N[i]? =some x)(b:N[j]? =some x):i=j:=by
 obtain⟨ak,bE⟩:=qaa.mp a;obtain⟨a',bP⟩:=qaa.mp b;exact(qbM en).mp (bE.trans bP.symm)
theorem uv{M:Model}{A:Around}{E:Value->Shared->Prop}{i:Nat}{x:Str}{v:V}{u:Value}{Q:Unit->Shared->Prop}(I:Inv X aj af H s)(en:X.N.Nodup)(hi:X.N[i]? =some x)(bp:Loc X.env.scope x)(r:cL v u)
  (h:∀s',Inv X aj (af.set i (some v)) H s'->(∃a,Heap.SameBut a s.heap s'.heap/\(a=X.env.locals\/X.env.cells.lookup x=some a))->Q () s') (bN:X.fn x=true\/X.env.scope.names.lookup x=some .local:=by first|exact .inl rfl|exact .inr rfl|assumption):wpAny M A (storeName X.env x u) Q E s:=by
 obtain⟨m,bH,ag⟩:=id I.loc;have F':(X.env.scope.kind== .class||(X.env.scope.kind== .module&&X.env.locals != X.env.globals))=false:=by rw[I.ok.kind];rfl
 have yT:i<af.length:=by rw[I.len];exact(qaa.mp hi).1
 have cne:=I.cne;have yU:∀{a:Addr}{h':Heap},(∃o,s.heap.get? a=some o/\H a=none)->Heap.SameBut a s.heap h'->HOk X.prog X.w H h':=λ{a h'} bD hs b cZ e=>by
  obtain⟨_,_,yV⟩:=bD;refine(I.hok b cZ e).stay (λc d3 bv q=>(hs.2 c ?_).trans q) (λ_ q=>q) λ_ _ q=>q;rintro rfl;rcases bv with rfl|bv
  .rw[yV] at e;cases e
  .rw[yV] at bv;cases bv
 rcases bp with br|br
 .refine wpAny_storeName_local br bH (λh' uw hs=>?_) F';obtain⟨Ga,_,_,lg,_⟩:=id bH;refine h _ ⟨I.ok,I.os,I.bare,⟨λb o e n ai bp=>?_,λb o e n ai bp=>?_,I.base.free,λb o e bp=>?_,I.base.tups,I.base.frzs,I.base.tbls⟩,⟨_,uw,λj y l5 bE bP dj=>?_⟩,λy c e=>?_,I.free,I.freeC,λp bB=>?_,yU ⟨Ga,lg,I.free⟩ hs,by simpa using I.len⟩ ⟨_,hs,.inl rfl⟩
  .exact(hs.2 b (qap (qag (Heap.lt_size e) I.ok.above))).trans (I.base.keep b o e n ai bp)
  .obtain⟨sl,bE⟩:=I.base.slot b o e n ai bp;exact⟨sl,(hs.2 b (qap (qag (Heap.lt_size e) I.ok.above))).trans bE⟩
  .obtain⟨cx,bE⟩:=I.base.there b o e bp;exact⟨cx,(hs.2 b (qap (qag (Heap.lt_size e) I.ok.above))).trans bE⟩
  .by_cases bw:j=i
   .subst bw;rw[hi] at bE;cases bE;rw[qbz yT] at bP;cases bP;exact⟨u,r,.inl ⟨br,by simp⟩⟩
   .rw[qbG (qbO bw)] at bP;obtain⟨ko,c7,q⟩:=ag j y l5 bE bP dj;refine⟨ko,c7,?_⟩;rcases q with⟨k,e⟩|⟨k,c,e,z⟩
    .refine .inl ⟨k,?_⟩;have:y≠x:=λe=>bw (yS en bE (e▸hi));simp[this,e]
    .exact .inr ⟨k,c,e,z.sameBut hs (cne y c e)⟩
  .obtain⟨d3,z⟩:=I.cell y c e;exact⟨d3,z.sameBut hs (cne y c e)⟩
  .obtain⟨e,n,ne,l4,d⟩:=I.pin p bB;exact⟨(hs.2 p.1 ne).trans e,n,ne,l4,d⟩
 .have mV:X.fn x=true:=by
   rcases bN with z|z
   .exact z
   .rw[z] at br;cases br
  obtain⟨c,bv⟩:=I.ok.has x (.inl br);obtain⟨d3,z⟩:=I.cell x c bv;refine wpAny_storeName_cell I.ok.kind br bv z (λh' kq hs=>?_);obtain⟨ft,yW,Gb⟩:=id z;refine h {s with heap:=h'} ⟨I.ok,I.os,I.bare,⟨λb o e n ai bp=>?_,λb o e n ai bp=>?_,I.base.free,λb o e bp=>?_,I.base.tups,I.base.frzs,I.base.tbls⟩,⟨m,bH.sameBut hs (qbO (cne x c bv)),λj y l5 bE bP dj=>?_⟩,λy cU e=>?_,I.free,I.freeC,λp bB=>?_,yU ⟨ft,yW,I.freeC x c bv⟩ hs,by simpa using I.len⟩ ⟨c,hs,.inr bv⟩
  .exact(hs.2 b (qap (qag (Heap.lt_size e) (I.ok.cab x c mV bv)))).trans (I.base.keep b o e n ai bp)
  .obtain⟨sl,bE⟩:=I.base.slot b o e n ai bp;exact⟨sl,(hs.2 b (qap (qag (Heap.lt_size e) (I.ok.cab x c mV bv)))).trans bE⟩
  .obtain⟨cx,bE⟩:=I.base.there b o e bp;exact⟨cx,(hs.2 b (qap (qag (Heap.lt_size e) (I.ok.cab x c mV bv)))).trans bE⟩
  .by_cases bw:j=i
   .subst bw;rw[hi] at bE;cases bE;rw[qbz yT] at bP;cases bP;exact⟨u,r,.inr ⟨.inl br,c,bv,kq⟩⟩
   .rw[qbG (qbO bw)] at bP;obtain⟨ko,c7,q⟩:=ag j y l5 bE bP dj;refine⟨ko,c7,?_⟩;rcases q with q|⟨k,cU,e,f6⟩
    .exact .inl q
    .refine .inr ⟨k,cU,e,f6.sameBut hs ?_⟩;rintro rfl;exact bw (yS en bE (I.ok.inj _ _ _ e bv▸hi))
  .by_cases l6:cU=c
   .subst l6;exact⟨_,kq⟩
   .obtain⟨kr,cJ⟩:=I.cell y cU e;exact⟨kr,cJ.sameBut hs l6⟩
  .obtain⟨e,n,ne,l4,d⟩:=I.pin p bB;refine⟨(hs.2 p.1 ?_).trans e,n,ne,l4,d⟩;intro q;rw[q,yW] at e;have iE:ft=p.2:=qam e;exact d d3 (by rw[<-iE];exact Gb)
theorem ux{M:Model}{A:Around}{E:Value->Shared->Prop}{i:Nat}{x:Str}{v:V}{u:Value}{Q:Unit->Shared->Prop}(I:Inv X aj af H s)(en:X.N.Nodup)(hi:X.N[i]? =some x)(bp:Loc X.env.scope x)(r:cL v u)
  (h:∀s',Inv X aj (af.set i (some v)) H s'->Q () s') (bN:X.fn x=true\/X.env.scope.names.lookup x=some .local:=by first|exact .inl rfl|exact .inr rfl|assumption):wpAny M A (storeName X.env x u) Q E s:=
 uv I en hi bp r (λs' eS _=>h s' eS) bN
theorem Inv.call'{s':Shared}{ch:List Addr}(I:Inv X aj af H s)(bJ:s'.os=s.os)(u:Un (frs X.stack) ch H ae s.heap s'.heap)(hok:HOk X.prog X.w ae s'.heap)(bG:AllBare s'.gens)
  (jS:∀b∈ch,(b∈X.ex\/X.s₀.heap.objs.size<=b)/\b≠X.env.locals/\(∀x c,X.env.cells.lookup x=some c->c≠b)/\∀p∈X.pn++aj,p.1≠b):Inv X aj af ae s':=by
 obtain⟨h',g',d',t',cx⟩:=s';have e:cx=s.os:=bJ;subst e;exact I.call (g':=g') (t':=t') (d':=d') u hok bG jS
end
noncomputable abbrev XK:=Value->Option Addr->Hp->Prop
noncomputable abbrev St:=List (Option V)
noncomputable abbrev VK:=V->Hp->Prop
noncomputable abbrev TE:=St->Hp->VK->Prop
noncomputable abbrev TT:=St->Hp->(Bool->Hp->Prop)->Prop
noncomputable abbrev TA:=St->Hp->(List V->Hp->Prop)->Prop
structure VR where
 nx:St->Hp->Prop
 rt:VK
 bk:St->Hp->Prop:=λ_ _=>False
 ct:St->Hp->Prop:=λ_ _=>False
noncomputable abbrev TS:=VR->St->Hp->Prop
def EP(X:Cx)(aj:List (Addr×Obj))(af:St)(Q:VK)(u:Value)(s':Shared):Prop:=∃v ae,Inv X aj af ae s'/\cL v u/\Q v ae
def TP(X:Cx)(aj:List (Addr×Obj))(af:St)(Q:Bool->Hp->Prop)(b:Bool)(s':Shared):Prop:=∃ae,Inv X aj af ae s'/\Q b ae
def AP(X:Cx)(aj:List (Addr×Obj))(af:St)(Q:List V->Hp->Prop)(us:List Value)(s':Shared):Prop:=∃vs ae,Inv X aj af ae s'/\cR vs us/\Q vs ae
def SP(X:Cx)(aj:List (Addr×Obj))(D:VR)(f:Flow)(s':Shared):Prop:=
 match f with
 | .next=>∃bY ae,Inv X aj bY ae s'/\D.nx bY ae
 | .brk=>∃bY ae,Inv X aj bY ae s'/\D.bk bY ae
 | .cont=>∃bY ae,Inv X aj bY ae s'/\D.ct bY ae
 | .ret u=>∃v bY ae,Inv X aj bY ae s'/\cL v u/\D.rt v ae
def PE(X:Cx)(e:Expr)(t:TE):Prop:=
 ∀(aj:List (Addr×Obj))(s:Shared)(af:St)(H:Hp)(Q:VK),Inv X aj af H s->t af H Q->wpAny (model X.prog X.w) X.A (eval e X.env) (EP X aj af Q) X.xe s
def PT(X:Cx)(e:Expr)(t:TT):Prop:=
 ∀(aj:List (Addr×Obj))(s:Shared)(af:St)(H:Hp)(Q:Bool->Hp->Prop),Inv X aj af H s->t af H Q->wpAny (model X.prog X.w) X.A (isTrue e X.env (eval e X.env)) (TP X aj af Q) X.xe s
def PW(X:Cx)(e:Expr)(t:TT):Prop:=
 ∀(mW:Sem Value)(aj:List (Addr×Obj))(s:Shared)(af:St)(H:Hp)(Q:Bool->Hp->Prop),Inv X aj af H s->t af H Q->wpAny (model X.prog X.w) X.A (isTrue e X.env mW) (TP X aj af Q) X.xe s
theorem PW.pt{X:Cx}{e:Expr}{t:TT}(h:PW X e t):PT X e t:=h _
def PA(X:Cx)(bC:List Expr)(t:TA):Prop:=
 ∀(pos:Pos)(aj:List (Addr×Obj))(s:Shared)(af:St)(H:Hp)(Q:List V->Hp->Prop),Inv X aj af H s->t af H Q->wpAny (model X.prog X.w) X.A (spliced (backTo pos (starEach bC X.env))) (AP X aj af Q) X.xe s
def PS(X:Cx)(st:Stmt)(t:TS):Prop:=
 ∀(aj:List (Addr×Obj))(s:Shared)(af:St)(H:Hp)(D:VR),Inv X aj af H s->t D af H->wpAny (model X.prog X.w) X.A (exec st X.env) (SP X aj D) X.xe s
def PSs(X:Cx)(st:List Stmt)(t:TS):Prop:=
 ∀(aj:List (Addr×Obj))(s:Shared)(af:St)(H:Hp)(D:VR),Inv X aj af H s->t D af H->wpAny (model X.prog X.w) X.A (execs st X.env) (SP X aj D) X.xe s
theorem thn{cT:Type}{t:Sem cT}{Q on:cT->Shared->Prop}{M:Model}{A:Around}{E:Value->Shared->Prop}{s:Shared}(h:wpAny M A t Q E s)(h7:∀a s,Q a s->on a s):wpAny M A t on E s:=wpAny_mono h h7 λ_ _ x=>x
section
variable {X:Cx}
theorem bin{a b:Expr}{b9 cH:TE}(bD:PE X a b9)(ai:PE X b cH){aj:List (Addr×Obj)}{s:Shared}{af:St}{H:Hp}{R:V->V->Hp->Prop}(I:Inv X aj af H s)(h:b9 af H λx a_=>cH af a_ λy bt=>R x y bt)
  {cT:Type} {Q:cT->Shared->Prop} {f:Value->Value->Sem cT}
  (bN:∀v u bM x y bt,Inv X aj af bt bM->cL x v->cL y u->R x y bt->wpAny (model X.prog X.w) X.A (f v u) Q X.xe bM):
  wpAny (model X.prog X.w) X.A (eval a X.env) (λv du=>wpAny (model X.prog X.w) X.A (eval b X.env) (λu ks=>wpAny (model X.prog X.w) X.A (f v u) Q X.xe ks) X.xe du) X.xe s:=by
 refine thn (bD aj s af H _ I h) λv bu ⟨x,a_,bT,cq,ce⟩=>?_;refine thn (ai aj bu af a_ _ bT ce) λu bM ⟨y,bt,cC,cN,cG⟩=>?_;exact bN v u bM x y bt cC cq cN cG
def ZgS (i:Nat):TE:=λaf H Q=>∃v,af[i]? =some (some v)/\Q v H
def tC (v:V):TE:=λ_ H Q=>Q v H
theorem Zm9{i:Nat}{x:Str}{pos:Pos}(en:X.N[i]? =some x)(bS:Vis X.env.scope x)(hd:(x==("__debug__" :Str))=false:=by decide)(i9:(x==("__classdict__" :Str))=false:=by decide):PE X (.Name x pos) (ZgS i):=by
 intro aj s af H Q I h;obtain⟨v,e,h⟩:=h;obtain⟨m,bH,ag⟩:=I.loc;obtain⟨u,r,l⟩:=ag i x v en e bS;have eg:EP X aj af Q u s:=⟨v,H,I,r,h⟩;rcases l with⟨br,bz⟩|⟨br,c,bv,l7⟩
 .exact wpAny_Name (wpAny_loadName_local I.ok.kind br bH bz eg) hd
 .rcases br with br|br
  .exact wpAny_Name (wpAny_loadName_cell I.ok.kind br bv l7 eg) hd
  .exact wpAny_Name (wpAny_loadName_free I.ok.kind br bv l7 eg i9) hd
theorem b8{i j pos}:PE X (.Constant (.int i) j pos) (tC (.int i)):=λ_ _ _ H _ I h=>wpAny_Constant_int ⟨.int i,H,I.tok _,⟨_,rfl⟩,h⟩
theorem Wn{b j pos}:PE X (.Constant (.bool b) j pos) (tC (.bl b)):=λ_ _ _ H _ I h=>Constant_bool ⟨.bl b,H,I,rfl,h⟩
theorem WJ{j pos}:PE X (.Constant .none j pos) (tC .non):=λ_ _ _ H _ I h=>Constant_none ⟨.non,H,I,rfl,h⟩
theorem Wh{x j pos}:PE X (.Constant (.str x) j pos) (tC (.str x)):=λ_ _ _ H _ I h=>Calls.Constant_str ⟨.str x,H,I.tok _,⟨_,rfl⟩,h⟩
def Gl(X:Cx)(x:Str):Prop:=X.env.kindOf x=some .globalImplicit
theorem mX{E:Value->Shared->Prop}{aj:List (Addr×Obj)}{s:Shared}{af:St}{H:Hp}{x:Str}{u:Value}{pos:Pos}{Q:Value->Shared->Prop}(I:Inv X aj af H s)(bG:Gl X x)(bz:X.mg x=some u)(h:Q u s)
  (hd:(x==("__debug__" :Str))=false:=by decide):wpAny (model X.prog X.w) X.A (eval (.Name x pos) X.env) Q E s:=
 Calls.Name_function_global I.ok.kind bG (Calls.loadGlobal_global (by rw[I.ok.glob];exact I.mod.glob.keeps I.bk) bz h) hd
theorem h8{E:Value->Shared->Prop}{aj:List (Addr×Obj)}{s:Shared}{af:St}{H:Hp}{x:Str}{u:Value}{pos:Pos}{Q:Value->Shared->Prop}(I:Inv X aj af H s)(bG:Gl X x)(bz:X.mg x=none)(bS:bootBuiltins x=some u)(h:Q u s)
  (bH:x≠"__name__" :=by decide) (hd:(x==("__debug__" :Str))=false:=by decide):wpAny (model X.prog X.w) X.A (eval (.Name x pos) X.env) Q E s:=by
 obtain⟨jy,ak,a'⟩:=I.mod.blt;exact Calls.Name_function_global I.ok.kind bG (Calls.loadGlobal_builtin (by rw[I.ok.glob];exact I.mod.glob.keeps I.bk) bz (by rw[I.ok.blt];exact ak.keeps I.bk) ((a' x bH).trans bS) h) hd
theorem r3{x:Str}{v:V}{u:Value}{pos:Pos}(bG:Gl X x)(bz:X.mg x=some u)(r:cL v u)(hd:(x==("__debug__" :Str))=false:=by decide):PE X (.Name x pos) (tC v):=
 λ_ _ _ H _ I h=>mX I bG bz ⟨v,H,I,r,h⟩ hd
theorem mY{x:Str}{v:V}{u:Value}{pos:Pos}(bG:Gl X x)(bz:X.mg x=none)(bS:bootBuiltins x=some u)(r:cL v u)(bH:x≠"__name__" :=by decide)(hd:(x==("__debug__" :Str))=false:=by decide):PE X (.Name x pos) (tC v):=
 λ_ _ _ H _ I h=>h8 I bG bz bS ⟨v,H,I,r,h⟩ bH hd
variable {a b:Expr}{b9 cH:TE}{pos:Pos}
variable {gm r4:TT}{rest:List Expr}
def yX (t u:TT):TT:=λaf H Q=>t af H λc a_=>if c=true then u af a_ Q else Q false a_
def tOr (t u:TT):TT:=λaf H Q=>t af H λc a_=>if c=true then Q true a_ else u af a_ Q
def yY (t:TT):TT:=λaf H Q=>t af H λc a_=>Q (!c) a_
theorem pK(bD:PT X a gm):PW X (.BoolOp .And [a] pos) gm:=by
 intro pL aj s af H Q I h;refine isTrue_and (thn (bD aj s af H Q I h) λc bu e=>?_);cases c with
 |true=>exact isTrue_and_nil e
 |false=>exact e
theorem jz(bD:PT X a gm):PW X (.BoolOp .Or [a] pos) gm:=by
 intro pL aj s af H Q I h;refine isTrue_or (thn (bD aj s af H Q I h) λc bu e=>?_);cases c with
 |false=>exact isTrue_or_nil e
 |true=>exact e
theorem pM(bD:PT X a gm)(ai:PW X (.BoolOp .And (b::rest) pos) r4):PW X (.BoolOp .And (a::b::rest) pos) (yX gm r4):=by
 intro pL aj s af H Q I h;refine isTrue_and (thn (bD aj s af H _ I h) λc bu ⟨a_,bT,ce⟩=>?_);cases c with
 |true=>exact ai pL aj bu af a_ Q bT ce
 |false=>exact⟨a_,bT,ce⟩
theorem i_(bD:PT X a gm)(ai:PW X (.BoolOp .Or (b::rest) pos) r4):PW X (.BoolOp .Or (a::b::rest) pos) (tOr gm r4):=by
 intro pL aj s af H Q I h;refine isTrue_or (thn (bD aj s af H _ I h) λc bu ⟨a_,bT,ce⟩=>?_);cases c with
 |true=>exact⟨a_,bT,ce⟩
 |false=>exact ai pL aj bu af a_ Q bT ce
theorem hn(bD:PT X a gm):PT X (.UnaryOp .Not a pos) (yY gm):=by
 intro aj s af H Q I h;exact isTrue_not (bD aj s af H (λc a_=>Q (!c) a_) I h)
def yZ (b9 cH:TE):TE:=λaf H Q=>b9 af H λx a_=>∃c,x= .bl c/\if c=true then cH af a_ Q else Q (.bl false) a_
def y0 (b9:TE):TE:=λaf H Q=>b9 af H λx a_=>∃c,x= .bl c/\Q (.bl (!c)) a_
theorem pN{op}{t:TE}(h:PE X a t):PE X (.BoolOp op [a] pos) t:=λaj s af H Q I hw=>BoolOp_one (h aj s af H Q I hw)
theorem pO(bD:PE X a b9)(ai:PE X (.BoolOp .And (b::rest) pos) cH):PE X (.BoolOp .And (a::b::rest) pos) (yZ b9 cH):=by
 intro aj s af H Q I h;refine BoolOp_and (thn (bD aj s af H _ I h) λv bu ⟨x,a_,bT,cq,ce⟩=>?_);obtain⟨c,rfl,ce⟩:=ce;cases cq;refine wpAny_truthy_bool ?_;cases c with
 |true=>exact ai aj bu af a_ Q bT ce
 |false=>exact⟨.bl false,a_,bT,rfl,ce⟩
theorem Gc(bD:PE X a b9):PE X (.UnaryOp .Not a pos) (y0 b9):=by
 intro aj s af H Q I h;refine UnaryOp_ (thn (bD aj s af H _ I h) λv bu ⟨x,a_,bT,cq,ce⟩=>?_);obtain⟨c,rfl,ce⟩:=ce;cases cq;exact not_of (wpAny_truthy_bool ⟨.bl (!c),a_,bT,rfl,ce⟩)
def tIf (t:TT) (b9 cH:TE):TE:=λaf H Q=>t af H λc a_=>if c=true then b9 af a_ Q else cH af a_ Q
theorem Gd{c:Expr}(bv:PT X c gm)(bD:PE X a b9)(ai:PE X b cH):PE X (.IfExp c a b pos) (tIf gm b9 cH):=by
 intro aj s af H Q I h;refine wpAny_IfExp (thn (bv aj s af H _ I h) λd bu ⟨a_,bT,ce⟩=>?_);cases d with
 |true=>exact bD aj bu af a_ Q bT ce
 |false=>exact ai aj bu af a_ Q bT ce
end
def SqL(K:Frag)(H:Hp)(a:Addr)(xs:List V):Prop:=
 Rd H a (.lst xs)\/
  ∃(o:Obj)(its:Array Value)(n:Nat),K.lookup a=some o/\o.cls= .type "list" /\o.dict=none/\o.data= .seq its n/\its.size<=sizeLine/\cR xs its.toList
def SqT(K:Frag)(H:Hp)(a:Addr)(xs:List V):Prop:=
 Rd H a (.tup xs)\/
  ∃(o:Obj)(its:Array Value)(n:Nat),K.lookup a=some o/\o.cls= .type "tuple" /\o.data= .seq its n/\its.size<=sizeLine/\cR xs its.toList
noncomputable def Ge:Value->Option V
 | .none=>some .non
 | .bool b=>some (.bl b)
 | .int i _=>some (.int i)
 | .str x _=>some (.str x)
 | .bytes b _=>some (.byt b)
 | .float b _=>some (.flt b)
 | .ref a=>some (.ref a)
 | .type n=>some (.ty n)
 |_=>none
theorem cL.abs{x:V}{u:Value}(r:cL x u):Ge u=some x:=by
 cases x with
 |non=>cases r;rfl
 |bl _=>cases r;rfl
 |int _=>obtain⟨t,rfl⟩:=r;rfl
 |str _=>obtain⟨t,rfl⟩:=r;rfl
 |byt _=>obtain⟨t,rfl⟩:=r;rfl
 |flt _=>obtain⟨t,rfl⟩:=r;rfl
 |ref _=>cases r;rfl
 |ty _=>cases r;rfl
theorem cL.inj{x y:V}{u:Value}(r:cL x u)(q:cL y u):x=y:=qam (r.abs.symm.trans q.abs)
theorem cR.inj:∀{xs ys:List V}{us:List Value},cR xs us->cR ys us->xs=ys
 |_,_,_,.nil,.nil=>rfl
 |_,_,_,.cons r t,.cons c7 t'=>by rw[r.inj c7,cR.inj t t']
section
variable {X:Cx}{aj:List (Addr×Obj)}{af:St}{H:Hp}{s:Shared}{a:Addr}{xs ys:List V}
theorem SqL.of{K:Frag}(h:H a=some (.lst xs)):SqL K H a xs:= .inl (.inl h)
theorem SqT.of{K:Frag}(h:H a=some (.tup xs)):SqT K H a xs:= .inl (.inl h)
theorem Inv.list(I:Inv X aj af H s)(h:SqL X.K H a xs):∃its:List Value,cR xs its/\PlainL s.heap a its.toArray/\xs.length<=sizeLine:=by
 rcases h with h|⟨o,its,n,br,bv,hd,hs,hz,r⟩
 .obtain⟨z,its,n,r,e⟩:=h.ok I.hok;exact⟨its,r,⟨_,n,e,rfl,rfl,rfl⟩,z⟩
 .refine⟨its.toList,r,⟨o,n,I.kIn a o br,bv,hd,by simpa using hs⟩,?_⟩;have e:=r.length;simp only[qaQ] at e;omega
theorem Inv.tuple(I:Inv X aj af H s)(h:SqT X.K H a xs):∃its:List Value,cR xs its/\IsTup s.heap a its.toArray/\xs.length<=sizeLine:=by
 rcases h with h|⟨o,its,n,br,bv,hs,hz,r⟩
 .obtain⟨z,its,r,p⟩:=h.ok I.hok;exact⟨its,r,p,z⟩
 .refine⟨its.toList,r,⟨o,I.kIn a o br,bv,n,by simpa using hs⟩,?_⟩;have e:=r.length;simp only[qaQ] at e;omega
theorem Inv.list_inj(I:Inv X aj af H s)(h:SqL X.K H a xs)(h':SqL X.K H a ys):xs=ys:=by
 obtain⟨its,r,⟨o,n,e,_,_,d⟩,_⟩:=I.list h;obtain⟨its',c7,⟨cx,fQ,b',_,_,d'⟩,_⟩:=I.list h';rw[e] at b';cases b';rw[d] at d'
 injection d' with ku _
 have:its=its':=by simpa using congrArg Array.toList ku
 subst this;exact r.inj c7
end
section
variable {X:Cx}{st:Stmt}{rest:List Stmt}{t u:TS}{e:Expr}{cB:TE}{pos:Pos}
def tNext:TS:=λD af H=>D.nx af H
def y1 (t u:TS):TS:=λD af H=>t {D with nx:=u D} af H
theorem dX:PSs X [] tNext:=λ_ _ af H _ I h=>wpAny_execs_nil ⟨af,H,I,h⟩
theorem bI(ak:PS X st t)(a':PSs X rest u):PSs X (st::rest) (y1 t u):=by
 intro aj s af H D I h;refine wpAny_execs_cons (thn (ak aj s af H {D with nx:=u D} I h) λf bu q=>?_);cases f with
 |next=>
  obtain⟨bY,ae,eS,q⟩:=q;exact a' aj bu bY ae D eS q
 |ret v=>exact q
 |brk=>exact q
 |cont=>exact q
theorem bZ(ak:PS X st t):PSs X [st] t:=by
 intro aj s af H D I h;refine wpAny_execs_cons (thn (ak aj s af H D I h) λf bu q=>?_);cases f with
 |next=>exact wpAny_execs_nil q
 |ret v=>exact q
 |brk=>exact q
 |cont=>exact q
theorem Inv.quiet{aj:List (Addr×Obj)}{af:St}{H:Hp}{s:Shared}(I:Inv X aj af H s):interactive X.env=false:=by simp[interactive,I.ok.kind]
def y2 (cB:TE):TS:=λD af H=>cB af H λ_ a_=>D.nx af a_
theorem eF(bK:PE X e cB)(hs:swapsWith e none pos.line X.env=pure false:=by rfl):PS X (.Expr e pos) (y2 cB):=by
 intro aj s af H D I h;exact wpAny_Expr_any (thn (bK aj s af H _ I h) λv bu ⟨x,a_,bT,cq,ce⟩=>⟨af,a_,bT,ce⟩) I.quiet hs
def y3 (cB:TE):TS:=λD af H=>cB af H D.rt
theorem cW(bK:PE X e cB):PS X (.Return (some e) pos) (y3 cB):=by
 intro aj s af H D I h;exact wpAny_Return_some (thn (bK aj s af H _ I h) λv bu ⟨x,a_,bT,cq,ce⟩=>⟨x,af,a_,bT,cq,ce⟩)
def y4 (c:TT) (t u:TS):TS:=λD af H=>c af H λb a_=>if b=true then t D af a_ else u D af a_
theorem dQ{c:Expr}{a b:List Stmt}{dv:TT}(bv:PT X c dv)(bD:PSs X a t)(ai:PSs X b u):PS X (.If c a b pos) (y4 dv t u):=by
 intro aj s af H D I h;refine wpAny_If (thn (bv aj s af H _ I h) λd bu ⟨a_,bT,ce⟩=>?_);cases d with
 |true=>exact bD aj bu af a_ D bT ce
 |false=>exact ai aj bu af a_ D bT ce
def tNever:TS:=λ_ _ _=>False
theorem y5:PS X st tNever:=λ_ _ _ _ _ _ h=>h.elim
end
noncomputable abbrev TG:=V->St->Hp->(St->Hp->Prop)->Prop
noncomputable abbrev TGs:=List V->St->Hp->(St->Hp->Prop)->Prop
def PG(X:Cx)(target:Expr)(t:TG):Prop:=
 ∀(aj:List (Addr×Obj))(s:Shared)(af:St)(H:Hp)(v:V)(u:Value)(Q:St->Hp->Prop),Inv X aj af H s->cL v u->t v af H Q->
  wpAny (model X.prog X.w) X.A (assign target X.env u) (λ_ s'=>∃bY ae,Inv X aj bY ae s'/\Q bY ae) X.xe s
def PGs(X:Cx)(f7:List Expr)(t:TGs):Prop:=
 ∀(aj:List (Addr×Obj))(s:Shared)(af:St)(H:Hp)(vs:List V)(us:List Value)(Q:St->Hp->Prop),Inv X aj af H s->cR vs us->t vs af H Q->
  wpAny (model X.prog X.w) X.A (assignInOrder ((assignEach f7 X.env).map (·.2)) us) (λ_ s'=>∃bY ae,Inv X aj bY ae s'/\Q bY ae) X.xe s
noncomputable abbrev Zd7:=V->V->V->Hp->(Hp->Prop)->Prop
def Zi4(X:Cx)(t:Zd7):Prop:=
 ∀(aj:List (Addr×Obj))(s:Shared)(af:St)(H:Hp)(o i v:V)(dz fR u:Value)(Q:Hp->Prop),Inv X aj af H s->cL o dz->cL i fR->cL v u->t o i v H Q->
  wpAny (model X.prog X.w) X.A (setItem dz fR u) (λ_ s'=>∃ae,Inv X aj af ae s'/\Q ae) X.xe s
noncomputable abbrev TIp:=V->V->Hp->VK->Prop
def PIp(X:Cx)(op:Operator)(t:TIp):Prop:=
 ∀(aj:List (Addr×Obj))(s:Shared)(af:St)(H:Hp)(x y:V)(v u:Value)(Q:VK),Inv X aj af H s->cL x v->cL y u->t x y H Q->
  wpAny (model X.prog X.w) X.A (inplaceOp op v u) (EP X aj af Q) X.xe s
section
variable {X:Cx}{pos:Pos}
def UL (i:Nat):TG:=λv af H Q=>Q (af.set i (some v)) H
theorem cI{i:Nat}{x:Str}(en:X.N.Nodup)(hi:X.N[i]? =some x)(bp:Loc X.env.scope x)(bN:X.fn x=true\/X.env.scope.names.lookup x=some .local:=by first|exact .inl rfl|exact .inr rfl|assumption):PG X (.Name x pos) (UL i):=by
 intro aj s af H v u Q I r h;exact wpAny_assign_Name (ux I en hi bp r (λs' eS=>⟨_,H,eS,h⟩) bN)
def gNil:TGs:=λvs af H Q=>vs=[]/\Q af H
def y6 (t:TG) (u:TGs):TGs:=λvs af H Q=>∃v r,vs=v::r/\t v af H λbY ae=>u r bY ae Q
theorem h9:PGs X [] gNil:=by
 intro aj s af H vs us Q I r h;obtain⟨e,h⟩:=h;subst e;cases r;exact assignInOrder_nil ⟨af,H,I,h⟩
theorem eG{e:Expr}{bC:List Expr}{t:TG}{u:TGs}(ak:PG X e t)(a':PGs X bC u)
  (hs:(assignEach (e::bC) X.env).map (·.2)=assign e X.env::(assignEach bC X.env).map (·.2):=by rfl):PGs X (e::bC) (y6 t u):=by
 intro aj s af H vs us Q I r h;obtain⟨v,RU,bE,h⟩:=h;subst bE;cases r with
 |cons r lh=>
  rw[hs];refine assignInOrder_cons (thn (ak aj s af H _ _ _ I r h) λ_ bu ⟨oo,a_,bT,ce⟩=>?_);exact a' aj bu oo a_ _ _ Q bT lh ce
def uy (K:Frag) (n:Nat) (t:TGs):TG:=λv af H Q=>∃a xs,v= .ref a/\SqT K H a xs/\xs.length=n/\t xs af H Q
theorem Znn{bC:List Expr}{k:Nat}{t:TGs}{n:Nat}(bv:X.calm=true)(h:PGs X bC t)
  (bH:(assignEach bC X.env).length=n:=by rfl) (eN:(assignEach bC X.env).findIdx? (·.1)=none:=by rfl):PG X (.Tuple bC k pos) (uy X.K n t):=by
 intro aj s af H v u Q I r hw;obtain⟨a,xs,bE,cr,ag,hw⟩:=hw;subst bE;cases r;obtain⟨its,c',bX,hz⟩:=I.tuple cr;refine assign_Tuple_tuple (I.ok.hd bv) bX (by simp[bH,<-ag,c'.length]) eN λh' bp=>?_;have bT:Inv X aj af H {s with heap:=h'}:=I.kept (t':=s.toks) λb o e=>bp b o (qap (Heap.lt_size e)) e;exact h aj _ af H xs _ Q bT (by simpa using c') hw
def y7 (to fS:TE) (t:Zd7):TG:=λv af H Q=>to af H λo a_=>fS af a_ λi bt=>t o i v bt λb7=>Q af b7
theorem hL{o i:Expr}{to fS:TE}{t:Zd7}(bJ:PE X o to)(hi:PE X i fS)(hs:Zi4 X t)
  (bD:∀v,assign (.Subscript o i pos) X.env v=(do
   let dz<-holding [v] (eval o X.env)
   let fR<-holding [v,dz] (eval i X.env)
   standAt pos
   holding [v,dz,fR] (setItem dz fR v)
   release [v,dz,fR] []):=by intro _;rfl):PG X (.Subscript o i pos) (y7 to fS t):=by
 intro aj s af H v u Q I r h;rw[bD];refine wpAny_bind (wpAny_holding (thn (bJ aj s af H _ I h) λdz bu ⟨x,a_,bT,cq,ce⟩=>?_));refine wpAny_bind (wpAny_holding (thn (hi aj bu af a_ _ bT ce) λfR bM ⟨y,bt,cC,cN,cG⟩=>?_));refine wpAny_bind (wpAny_standAt (wpAny_bind (wpAny_holding (thn (hs aj bM af bt x y v dz fR u _ cC cq cN r cG) λ_ bR ⟨b7,dw,e7⟩=>?_))));exact wpAny_release ⟨af,b7,dw,e7⟩
def pP (cB:TE) (g:TG):TS:=λD af H=>cB af H λx a_=>g x af a_ D.nx
theorem hM{cV e:Expr}{cB:TE}{g:TG}(bK:PE X e cB)(bG:PG X cV g)(hs:swapsWithSole [cV] e pos.line X.env=pure false:=by rfl)(hw:swappedStores [cV] e X.env=pure none:=by rfl)
  (ak:(assignEach [cV] X.env).map (·.2)=[assign cV X.env]:=by rfl):PS X (.Assign [cV] e pos) (pP cB g):=by
 intro aj s af H D I h;refine wpAny_Assign_stores (thn (bK aj s af H _ I h) λv bu ⟨x,a_,bT,cq,ce⟩=>?_) hs hw;rw[ak];exact thn (bG aj bu af a_ x v _ bT cq ce) λ_ bM q=>q
theorem cy{i:Nat}{x:Str}{e:Expr}{cB:TE}{jT:Pos}(en:X.N.Nodup)(hi:X.N[i]? =some x)(bp:Loc X.env.scope x)(bK:PE X e cB)(hs:swapsWith e (some (.Name x jT)) pos.line X.env=pure false:=by rfl)(bN:X.fn x=true\/X.env.scope.names.lookup x=some .local:=by first|exact .inl rfl|exact .inr rfl|assumption):
  PS X (.Assign [.Name x jT] e pos) (pP cB (UL i)):=by
 intro aj s af H D I h;refine wpAny_Assign_Name (thn (bK aj s af H _ I h) λv bu ⟨y,a_,bT,cq,ce⟩=>?_) hs;exact ux bT en hi bp cq (λbM cC=>⟨_,a_,cC,ce⟩) bN
def Gf (i:Nat) (cB:TE) (fS:TIp):TS:=λD af H=>∃x,af[i]? =some (some x)/\cB af H λy a_=>fS x y a_ λz bt=>D.nx (af.set i (some z)) bt
theorem Gg{i:Nat}{x:Str}{e:Expr}{cB:TE}{op:Operator}{fS:TIp}{jT:Pos}(en:X.N.Nodup)(hi:X.N[i]? =some x)(bp:Loc X.env.scope x)(bK:PE X e cB)(bJ:PIp X op fS)(bN:X.fn x=true\/X.env.scope.names.lookup x=some .local:=by first|exact .inl rfl|exact .inr rfl|assumption):
  PS X (.AugAssign (.Name x jT) op e pos) (Gf i cB fS):=by
 intro aj s af H D I h;obtain⟨v,bE,h⟩:=h;obtain⟨m,bH,ag⟩:=I.loc;have Gh:Vis X.env.scope x:=by rcases bp with k|k;exact .inl k;exact .inr (.inl k)
 obtain⟨u,r,l⟩:=ag i x v hi bE Gh;refine wpAny_AugAssign_Name ?_;have go:wpAny (model X.prog X.w) X.A (eval e X.env) (λw ks=>wpAny (model X.prog X.w) X.A (inplaceOp op u w) (λr jU=>wpAny (model X.prog X.w) X.A (storeName X.env x r) (λ_=>SP X aj D .next) X.xe jU) X.xe ks) X.xe s:=by
  refine thn (bK aj s af H _ I h) λw bu ⟨y,a_,bT,cq,ce⟩=>?_;refine thn (bJ aj bu af a_ v y u w _ bT r cq ce) λz bM ⟨RV,bt,cC,cN,cG⟩=>?_;exact ux cC en hi bp cN (λbR dw=>⟨_,bt,dw,cG⟩) bN
 rcases l with⟨br,bz⟩|⟨br,c,bv,l7⟩
 .exact wpAny_loadName_local I.ok.kind br bH bz go
 .rcases br with br|br
  .exact wpAny_loadName_cell I.ok.kind br bv l7 go
  .rcases bp with k|k
   .have:X.env.scope.names.lookup x=some .free:=br;rw[k] at this;cases this
   .have:X.env.scope.names.lookup x=some .free:=br;rw[k] at this;cases this
def y8 (to fS cB:TE) (mZ:V->V->Hp->VK->Prop) (m0:TIp) (m1:Zd7):TS:=λD af H=>to af H λo a_=>fS af a_ λi bt=>mZ o i bt λx b7=>cB af b7 λy bW=>m0 x y bW λz b0=>m1 o i z b0 λc9=>D.nx af c9
def Zln(X:Cx)(t:V->V->Hp->VK->Prop):Prop:=
 ∀(aj:List (Addr×Obj))(s:Shared)(af:St)(H:Hp)(o i:V)(dz fR:Value)(Q:VK),Inv X aj af H s->cL o dz->cL i fR->t o i H Q->
  wpAny (model X.prog X.w) X.A (getItem dz fR) (EP X aj af Q) X.xe s
theorem uz{o i e:Expr}{to fS cB:TE}{mZ:V->V->Hp->VK->Prop}{m0:TIp}{m1:Zd7}{op:Operator}{m2:Pos}(bJ:PE X o to)(hi:PE X i fS)(bG:Zln X mZ)(bK:PE X e cB)(bB:PIp X op m0)(hs:Zi4 X m1)
  (bD:∀dz fR new,augStore i dz fR new=(do holding [new,dz,fR] (setItem dz fR new);release [new,dz,fR] [];pure .next):=by intros;rfl):PS X (.AugAssign (.Subscript o i m2) op e pos) (y8 to fS cB mZ m0 m1):=by
 intro aj s af H D I h;refine wpAny_AugAssign_SubscriptAny (thn (bJ aj s af H _ I h) λdz bu ⟨x1,a_,bT,cq,ce⟩=>?_) bD;refine thn (hi aj bu af a_ _ bT ce) λfR bM ⟨x2,bt,cC,cN,cG⟩=>?_;refine thn (bG aj bM af bt x1 x2 dz fR _ cC cq cN cG) λkx bR ⟨x3,b7,dw,gG,e7⟩=>?_;refine thn (bK aj bR af b7 _ dw e7) λv b2 ⟨x4,bW,jV,hN,li⟩=>?_;refine thn (bB aj b2 af bW x3 x4 kx v _ jV gG hN li) λnew cs ⟨x5,b0,iF,m3,m4⟩=>?_;exact thn (hs aj cs af b0 x1 x2 x5 dz fR new _ iF cq cN m3 m4) λ_ dY ⟨c9,gV,uA⟩=>⟨af,c9,gV,uA⟩
def ipI (f:Int->Int->Int):TIp:=λx y H Q=>∃i j,x= .int i/\y= .int j/\Q (.int (f i j)) H
theorem y9:PIp X .Add (ipI λi j=>i+j):=by
 intro aj s af H x y v u Q I cq cN h;obtain⟨i,j,bE,bP,q⟩:=h;subst bE;subst bP;obtain⟨t,rfl⟩:=cq;obtain⟨t',rfl⟩:=cN;exact iadd_int ⟨.int _,H,I.tok _,⟨_,rfl⟩,q⟩
theorem y_:PIp X .Sub (ipI λi j=>i-j):=by
 intro aj s af H x y v u Q I cq cN h;obtain⟨i,j,bE,bP,q⟩:=h;subst bE;subst bP;obtain⟨t,rfl⟩:=cq;obtain⟨t',rfl⟩:=cN;exact isub_int ⟨.int _,H,I.tok _,⟨_,rfl⟩,q⟩
end
section
variable {X:Cx}{pos:Pos}
def y' (c:TT) (cH:TS):TS:=λD af H=>∃W:Nat->St->Hp->Prop,(∃m,W m af H)/\∀m af H,W m af H->
 c af H λb a_=>if b=true then ∃N:St->Hp->Prop,(∀bY ae,N bY ae->∃cA,cA<m/\W cA bY ae)/\cH {D with nx:=N,ct:=N,bk:=D.nx} af a_ else D.nx af a_
theorem pQ{c:Expr}{body:List Stmt}{dv:TT}{cH:TS}(bB:PassesOwn (model X.prog X.w) X.A X.env X.xe)(bv:PT X c dv)(ai:PSs X body cH):PS X (.While c body [] pos) (y' dv cH):=by
 intro aj s af H D I h;obtain⟨W,⟨hP,e8⟩,turn⟩:=h;refine wpAny_While (codeAny_whileLoop (λn s'=>∃bY ae,Inv X aj bY ae s'/\W n bY ae) ?_ hP ⟨af,H,I,e8⟩);rintro n bu ⟨oo,a_,bT,f8⟩;refine wpAny_passesOwn bB (thn (bv aj bu oo a_ _ bT (turn n oo a_ f8)) λb bM ⟨bt,cC,cG⟩=>?_);cases b with
 |true=>
  obtain⟨N,en,cG⟩:=cG;rw[if_pos rfl];refine wpAny_passesOwn bB (thn (ai aj bM oo bt _ cC cG) λf bR e7=>?_);cases f with
  |next=>
   obtain⟨jW,b7,dw,pR⟩:=e7;obtain⟨cA,bz,pS⟩:=en jW b7 pR;exact⟨cA,bz,jW,b7,dw,pS⟩
  |cont=>
   obtain⟨jW,b7,dw,pR⟩:=e7;obtain⟨cA,bz,pS⟩:=en jW b7 pR;exact⟨cA,bz,jW,b7,dw,pS⟩
  |brk=>exact e7
  |ret v=>exact e7
 |false=>
  rw[if_neg qal];exact wpAny_execs_nil ⟨oo,bt,cC,cG⟩
end
structure It where
 go:Nat->Hp->Prop
 yld:Nat->Hp->V->Hp->Prop
 stop:Nat->Hp->Prop
def gW(X:Cx)(aj:List (Addr×Obj))(H:Hp)(b:Addr):Prop:=
 H b=none/\b≠X.env.locals/\b∉X.fs/\(b∈X.ex\/X.s₀.heap.objs.size<=b)/\(∀x c,X.env.cells.lookup x=some c->c≠b)/\∀p∈X.pn++aj,p.1≠b
theorem Inv.fpOk{X:Cx}{aj:List (Addr×Obj)}{af:St}{H ae:Hp}{s:Shared}{b:Addr}(I:Inv X aj af H s)(ai:s.heap.objs.size<=b)(bH:ae b=none):gW X aj ae b:=by
 refine⟨bH,qbY (qag I.lt ai),I.nofs ai,.inr (qaj I.sz ai),λx c e z=>?_,λp bB z=>?_⟩
 .obtain⟨v,q⟩:=I.cell x c e;exact absurd (qag q.lt (by rw[z];exact ai)) (qbr _)
 .exact absurd (qag (Heap.lt_size (I.pin p bB).1) (by rw[z];exact ai)) (qbr _)
structure Zas(P:Program)(w:World)(K:Frag)(cV:Expr)(J:It)(fp:List Addr)(it:Addr)(d4:Nat->Heap->Prop):Prop where
 mem:it∈fp
 obj:∀i h,d4 i h->∀b∈fp,∃o,h.get? b=some o/\∀v,o.data≠ .cell v
 keep:∀i h h',d4 i h->(∀b∈fp,∀o,h.get? b=some o->h'.get? b=some o)->d4 i h'
 item:∀(X:Cx),X.prog=P->X.w=w->X.K=K->X.calm=true->∀(i:Nat)(aj:List (Addr×Obj))(s:Shared)(af:St)(H:Hp)(E:Value->Shared->Prop),Inv X aj af H s->(∀b∈fp,gW X aj H b)->d4 i s.heap->J.go i H->
  wpAny (model P w) X.A (pyNext (.ref it)) (λr bu=>∃u,r=some u/\
   wpAny (model P w) X.A (letOwnedTupleGo cV (.ref it) u) (λ_ bM=>∃x ae,Inv X aj af ae bM/\cL x u/\J.yld i H x ae/\d4 (i+1) bM.heap/\∀b∈fp,ae b=none) E bu) E s
 done:∀(X:Cx),X.prog=P->X.w=w->X.K=K->X.calm=true->∀(i:Nat)(aj:List (Addr×Obj))(s:Shared)(af:St)(H:Hp)(E:Value->Shared->Prop),Inv X aj af H s->(∀b∈fp,gW X aj H b)->d4 i s.heap->J.stop i H->
  wpAny (model P w) X.A (pyNext (.ref it)) (λr bu=>r=none/\Inv X aj af H bu) E s
 self:∀(A:Around)(i:Nat)(s:Shared)(Q:Value->Shared->Prop)(E:Value->Shared->Prop),d4 i s.heap->Q (.ref it) s->wpAny (model P w) A (pyIter (.ref it)) Q E s
noncomputable abbrev TI:=St->Hp->(It->Hp->Prop)->Prop
def PIE(X:Cx)(aj:List (Addr×Obj))(af:St)(cV:Expr)(R:It->Hp->Prop)(oq:Value)(bM:Shared):Prop:=
 ∃(it:Addr)(fp:List Addr)(d4:Nat->Heap->Prop)(J:It)(ae:Hp),oq= .ref it/\Inv X aj af ae bM/\Zas X.prog X.w X.K cV J fp it d4/\d4 0 bM.heap/\(∀b∈fp,gW X aj ae b)/\R J ae
def PI(X:Cx)(cV eA:Expr)(dG:TI):Prop:=
 ∀(aj:List (Addr×Obj))(s:Shared)(af:St)(H:Hp)(R:It->Hp->Prop),Inv X aj af H s->dG af H R->
  wpAny (model X.prog X.w) X.A (eval eA X.env) (λv bu=>wpAny (model X.prog X.w) X.A (pyIter v) (PIE X aj af cV R) X.xe bu) X.xe s
theorem pT{M:Model}{A:Around}{E:Value->Shared->Prop}{s:Shared}{cV:Expr}{it:Addr}{u:Value}{o:Obj}{n:String}{vs:Array Value}{Q:Unit->Shared->Prop}(bJ:s.heap.get? it=some o)(bv:o.cls= .type n)(hd:o.data= .fields vs)
  (bH:["enumerate","zip","dict_itemiterator","dict_reverseitemiterator","odict_iterator","itertools.zip_longest","itertools.pairwise"].contains n=false) (h7:Q () s):wpAny M A (letOwnedTupleGo cV (.ref it) u) Q E s:=by
 unfold letOwnedTupleGo;cases cV<;>first
  |exact wpAny_pure h7
  |(cases u<;>first
    |exact wpAny_pure h7
    |(refine wpAny_bind (wpAny_load bJ ?_)
      rw[bv,hd];show wpAny M A (if(["enumerate","zip","dict_itemiterator","dict_reverseitemiterator","odict_iterator","itertools.zip_longest","itertools.pairwise"].contains n&&vs[0]? ==some (rawInt _))=true then _ else _) Q E s;rw[if_neg (by intro h;rw[bH,Bool.false_and] at h;cases h)];exact wpAny_pure h7))
noncomputable def Itl (K:Frag) (a:Addr):It:=
 ⟨λi H=>∃xs x,SqL K H a xs/\xs[i]? =some x,λi H x ae=>ae=H/\∀xs,SqL K H a xs->xs[i]? =some x,λi H=>∃xs,SqL K H a xs/\xs.length<=i⟩
noncomputable def Itr (lo:Int) (n:Nat):It:=⟨λi _=>i<n,λi H x ae=>ae=H/\x= .int (lo+i),λi _=>n<=i⟩
theorem Gi{P:Program}{w:World}{K:Frag}{cV:Expr}(a it:Addr):Zas P w K cV (Itl K a) [it] it (λi h=>h.IsListIter it a i) where
 mem:=by simp
 obj:=λi h st b ai=>by
  have e:b=it:=by simpa using ai
  subst e;obtain⟨o,e,c,d⟩:=st;exact⟨o,e,λv z=>by rw[d] at z;cases z⟩
 keep:=λi h h' st k=>st.at λo e=>k it (by simp) o e
 item:=by
  intro X d5 hw eD bv i aj s af H E I bN st bG;subst d5 hw eD;obtain⟨xs,x,cr,bp⟩:=bG;obtain⟨its,c',p,hz⟩:=I.list cr;obtain⟨u,hu,d8⟩:=c'.get bp;obtain⟨dR,f1,f2,dh,d0,d6⟩:=bN it (by simp);refine wpAny_pyNext_list_item st p.isList (x:=u) (by simpa using hu) λh' iG h_=>?_;have bT:Inv X aj af H {s with heap:=h'}:=I.turned (t':=s.toks) (λb o ai e=>(h_.2 b ai).trans e) dR f1 dh d0 d6;obtain⟨o,e,c,d⟩:=id iG;exact⟨u,rfl,pT (s:={s with heap:=h'}) e c d (by decide) ⟨x,H,bT,d8,⟨rfl,λys bO=>by rw[I.list_inj bO cr];exact bp⟩,iG,λb ai=>(bN b ai).1⟩⟩
 done:=by
  intro X d5 hw eD bv i aj s af H E I bN st bG;subst d5 hw eD;obtain⟨xs,cr,bp⟩:=bG;obtain⟨its,c',p,hz⟩:=I.list cr;obtain⟨dR,f1,f2,dh,d0,d6⟩:=bN it (by simp);have ag:=c'.length;exact wpAny_pyNext_list_end (I.ok.hd bv) st p.isList (by simp;omega) λh' c0=>⟨rfl,I.turned (t':=s.toks) (λb o ai e=>c0 b o ai e) dR f1 dh d0 d6⟩
 self:=λ_ _ _ _ _ st h=>wpAny_pyIter_listiter st h
theorem Gj{P:Program}{w:World}{K:Frag}{cV:Expr}(it:Addr)(lo:Int)(n:Nat):Zas P w K cV (Itr lo n) [it] it (λi h=>IsRangeIter h it (lo+(i:Nat)*1) ((n:Int)-(i:Nat)) 1) where
 mem:=by simp
 obj:=λi h st b ai=>by
  have e:b=it:=by simpa using ai
  subst e;exact⟨_,st,λv z=>by
   have f6:Data.fields _=Data.cell v:=z;cases f6⟩
 keep:=λi h h' st k=>k it (by simp) _ st
 item:=by
  intro X d5 hw eD bv i aj s af H E I bN st bG;subst d5 hw eD;obtain⟨dR,f1,f2,dh,d0,d6⟩:=bN it (by simp);have W:=Walks.range (prog:=X.prog) (w:=X.w) (I.ok.hd bv) it lo 1 n;refine W.item i s _ _ bG st λv h' b1 bS iG ll=>?_;obtain⟨t,rfl⟩:=bS;have bT:Inv X aj af H {s with heap:=h',toks:=b1}:=I.turned (λb o ai e=>ll b o (by simpa using ai) e) dR f1 dh d0 d6;refine⟨_,rfl,pT (s:={s with heap:=h',toks:=b1}) (n:="range_iterator") iG rfl rfl (by decide) ⟨.int (lo+i),H,bT,⟨t,?_⟩,⟨rfl,rfl⟩,iG,λb ai=>(bN b ai).1⟩⟩;rw[qck]
 done:=by
  intro X d5 hw eD bv i aj s af H E I bN st bG;subst d5 hw eD;obtain⟨dR,f1,f2,dh,d0,d6⟩:=bN it (by simp);exact wpAny_pyNext_range_end (I.ok.hd bv) st (by have:n<=i:=bG;omega) λh' c0=>⟨rfl,I.turned (t':=s.toks) (λb o ai e=>c0 b o ai e) dR f1 dh d0 d6⟩
 self:=λ_ _ _ _ _ st h=>wpAny_pyIter_rangeiter st h
section
variable {X:Cx}{cV:Expr}
def uB (K:Frag) (dH:TE):TI:=λaf H R=>dH af H λx a_=>∃a,x= .ref a/\(∃xs,SqL K a_ a xs)/\R (Itl K a) a_
theorem ZmX{l:Expr}{dH:TE}(ag:PE X l dH):PI X cV l (uB X.K dH):=by
 intro aj s af H R I h;refine thn (ag aj s af H _ I h) λv bu ⟨x,a_,bT,cq,ce⟩=>?_;obtain⟨a,e,⟨xs,cr⟩,q⟩:=ce;subst e;cases cq;obtain⟨its,c',p,hz⟩:=bT.list cr;refine wpAny_pyIter_list p.isList ?_;refine⟨bu.heap.objs.size,[bu.heap.objs.size],_,_,a_,rfl,bT.kept (t':=bu.toks) λb o e=>Heap.get?_push_of_some _ e,Gi a _,⟨_,Heap.get?_push_size _ rfl,rfl,rfl⟩,λb ai=>?_,q⟩;have e:b=bu.heap.objs.size:=by simpa using ai
 subst e;exact bT.fpOk (qab _) (bT.hok.fresh (qab _))
theorem Gk{aj:List (Addr×Obj)}{af:St}{H:Hp}{s:Shared}{R:It->Hp->Prop}{E:Value->Shared->Prop}{lo hi:Int}{t u v:Tok}{b1:Nat}(I:Inv X aj af H s)(ak: -(2 ^ 62)<=lo)(a':lo<2 ^ 62)(bL: -(2 ^ 62)<=hi)(cu:hi<2 ^ 62)
  (q:R (Itr lo (hi-lo).toNat) H):wpAny (model X.prog X.w) X.A (pyIter (.ref s.heap.objs.size)) (PIE X aj af cV R) E {s with heap:=s.heap.push {cls:= .type "range",data:= .fields #[.int lo t,.int hi u,.int 1 v]},toks:=b1}:=by
 refine wpAny_pyIter_range (IsRange.new ..) (small_one ak a' bL cu) ?_;have bT:Inv X aj af H {s with heap:=s.heap.push {cls:= .type "range",data:= .fields #[.int lo t,.int hi u,.int 1 v]},toks:=b1}:=I.kept λb o e=>Heap.get?_push_of_some _ e;refine⟨(s.heap.push {cls:= .type "range",data:= .fields #[.int lo t,.int hi u,.int 1 v]}).objs.size,[(s.heap.push {cls:= .type "range",data:= .fields #[.int lo t,.int hi u,.int 1 v]}).objs.size],_,_,H,rfl,
  bT.kept (t':=b1) λb o e=>Heap.get?_push_of_some _ e,Gj _ lo (hi-lo).toNat,?_,λb ai=>?_,q⟩
 .have bE:lo+((0:Nat):Int)*1=lo:=by simp
  have bP:(((hi-lo).toNat:Nat):Int)-((0:Nat):Int)=Builtin.Range.rangeSize lo hi 1:=by rw[rangeSize_one];split<;>omega
  show IsRangeIter _ _ (lo+((0:Nat):Int)*1) ((((hi-lo).toNat:Nat):Int)-((0:Nat):Int)) 1;rw[bE,bP];exact Heap.get?_push_size _ rfl
 .have e:b=(s.heap.push {cls:= .type "range",data:= .fields #[.int lo t,.int hi u,.int 1 v]}).objs.size:=by simpa using ai
  subst e;exact bT.fpOk (qab _) (bT.hok.fresh (qab _))
def za (b9:TA):TI:=λaf H R=>b9 af H λvs a_=>∃j:Int,vs=[.int j]/\ -(2 ^ 62)<=j/\j<2 ^ 62/\R (Itr 0 j.toNat) a_
theorem hc{a:Expr}{b9:TA}{p pos:Pos}(bG:Gl X "range")(bz:X.mg "range" =none)(bD:PA X [a] b9)(hs:starEach [a] X.env=[(false,eval a X.env)]:=by rfl):PI X cV (.Call (.Name "range" p) [a] [] pos) (za b9):=by
 intro aj s af H R I h;refine Call_ (h8 I bG bz boot_range (qaM (thn (bD pos aj s af H _ I h) λus bu ⟨vs,a_,bT,cq,ce⟩=>?_) hs rfl));obtain⟨j,e,ce,cG,q⟩:=ce;subst e;cases cq with
 |cons r lh=>
  cases lh;obtain⟨t,rfl⟩:=r;exact call_range_1 (Gk bT (by omega) (by omega) ce cG (by simpa using q))
def zb (dG:TI) (g:TG) (cH:TS):TS:=λD af H=>dG af H λJ a_=>∃W:Nat->Nat->St->Hp->Prop,(∃m,W 0 m af a_)/\∀i m af H,W i m af H->
 (J.stop i H/\D.nx af H)\/(J.go i H/\∃N:St->Hp->Prop,(∀bY ae,N bY ae->∃cA,cA<m/\W (i+1) cA bY ae)/\∀x ae,J.yld i H x ae->g x af ae λcS bt=>cH {D with nx:=N,ct:=N,bk:=D.nx} cS bt)
noncomputable def Zbh (fp:List Addr) (h:Heap):List (Addr×Obj):=fp.filterMap λb=>(h.get? b).map λo=>(b,o)
theorem ot{fp:List Addr}{h:Heap}{b:Addr}{o:Obj}(ai:b∈fp)(e:h.get? b=some o):(b,o)∈Zbh fp h:=List.mem_filterMap.mpr ⟨b,ai,by rw[e];rfl⟩
theorem Zj1{fp:List Addr}{h:Heap}{p:Addr×Obj}(bB:p∈Zbh fp h):p.1∈fp/\h.get? p.1=some p.2:=by
 obtain⟨b,ai,e⟩:=List.mem_filterMap.mp bB;cases q:h.get? b with
 |none=>rw[q] at e;cases e
 |some o=>
  rw[q] at e;have b':(b,o)=p:=qam e;subst b';exact⟨ai,q⟩
theorem Inv.pinned{aj:List (Addr×Obj)}{af:St}{H:Hp}{s:Shared}{fp:List Addr}(I:Inv X aj af H s)(bN:∀b∈fp,gW X aj H b)(bJ:∀b∈fp,∃o,s.heap.get? b=some o/\∀v,o.data≠ .cell v):Inv X (aj++Zbh fp s.heap) af H s:=
 I.pins_of λp bB=>(qaI.mp bB).elim (λz=>I.pin p (qay _ z)) λz=>by
  obtain⟨ai,e⟩:=Zj1 z;obtain⟨dR,f1,f2,_⟩:=bN p.1 ai;obtain⟨o,b',d⟩:=bJ p.1 ai;rw[e] at b';cases b';exact⟨e,dR,f1,f2,d⟩
theorem Inv.unpinned{aj pl:List (Addr×Obj)}{af:St}{H:Hp}{s:Shared}(I:Inv X (aj++pl) af H s):Inv X aj af H s:=I.pins_of λp bB=>I.pin p (qay _ (qbv _ bB))
theorem eo{eA:Expr}{body:List Stmt}{dG:TI}{g:TG}{cH:TS}{pos:Pos}(bB:PassesOwn (model X.prog X.w) X.A X.env X.xe)(bv:X.calm=true)(hi:PI X cV eA dG)(bG:PG X cV g)(ai:PSs X body cH)
  (hs:∀x,foldedSetIterable eA X.env x=pure x:=by intro _;rfl):PS X (.For cV eA body [] pos) (zb dG g cH):=by
 intro aj s af H D I h;refine wpAny_For (thn (hi aj s af H _ I h) λv bu ak=>thn ak λoq bM a'=>?_) hs;obtain⟨it,fp,d4,J,bt,e,cC,T,lm,f2,W,⟨hP,e8⟩,turn⟩:=a';subst e;have uC:∀{ae:Hp},(∀b∈fp,ae b=none)->∀b∈fp,gW X aj ae b:=λbH b ai=>⟨bH b ai,(f2 b ai).2⟩;refine codeAny_forLoop_any (λn s'=>∃i bY ae,Inv X aj bY ae s'/\d4 i s'.heap/\(∀b∈fp,ae b=none)/\W i n bY ae) ?_ hP ⟨0,af,bt,cC,lm,λb ai=>(f2 b ai).1,e8⟩;rintro n bR ⟨i,jW,b7,dw,ky,kz,pS⟩;rcases turn i n jW b7 pS with⟨stop,m5⟩|⟨go,N,en,step⟩
 .refine wpAny_passesOwn bB (thn (T.done X rfl rfl rfl bv i aj bR jW b7 X.xe dw (uC kz) ky stop) λr b2 ⟨ap,jV⟩=>?_);subst ap;exact wpAny_execs_nil ⟨jW,b7,jV,m5⟩
 .refine wpAny_passesOwn bB (thn (T.item X rfl rfl rfl bv i aj bR jW b7 X.xe dw (uC kz) ky go) λr b2 ⟨u,ap,cu⟩=>?_);subst ap;refine wpAny_passesOwn bB (thn cu λ_ cs ⟨x,b0,iF,m3,Gm,ln,ho⟩=>?_);have Gn:=iF.pinned (uC ho) (T.obj _ _ ln);refine wpAny_passesOwn bB (thn (bG _ cs jW b0 x u _ Gn m3 (step x b0 Gm)) λ_ dY ⟨Go,c9,gV,uA⟩=>?_);refine wpAny_passesOwn bB (thn (ai _ dY Go c9 _ gV uA) λf fb l8=>?_);have again:∀{jX:St}{di:Hp},Inv X (aj++Zbh fp cs.heap) jX di fb->N jX di->∃m,m<n/\∃i bY ae,Inv X aj bY ae fb/\d4 i fb.heap/\(∀b∈fp,ae b=none)/\W i m bY ae:=λ{jX di} ia pU=>by
   obtain⟨cA,bz,Gp⟩:=en jX di pU;refine⟨cA,bz,i+1,jX,di,ia.unpinned,T.keep _ _ _ ln λb ai o e=>(ia.pin (b,o) (qay _ (qay _ (ot ai e)))).1,λb ai=>?_,Gp⟩;obtain⟨o,e,d⟩:=T.obj _ _ ln b ai;exact(ia.pin (b,o) (qay _ (qay _ (ot ai e)))).2.1
  cases f with
  |next=>obtain⟨jX,di,ia,pU⟩:=l8;exact again ia pU
  |cont=>obtain⟨jX,di,ia,pU⟩:=l8;exact again ia pU
  |brk=>obtain⟨jX,di,ia,l8⟩:=l8;exact⟨jX,di,ia.unpinned,l8⟩
  |ret v=>obtain⟨x7,jX,di,ia,pV,l8⟩:=l8;exact⟨x7,jX,di,ia.unpinned,pV,l8⟩
end
theorem Vw{lo:Int}{n:Nat}{g:TG}{cH:TS}{D:VR}{af:St}{H:Hp}(Pv:Nat->St->Hp->Prop)(cd:Pv 0 af H)
  (hs:∀i af H,i<n->Pv i af H->g (.int (lo+i)) af H λcS bt=>cH {D with nx:=Pv (i+1),ct:=Pv (i+1),bk:=D.nx} cS bt) (hd:∀af H,Pv n af H->D.nx af H):
  ∃W:Nat->Nat->St->Hp->Prop,(∃m,W 0 m af H)/\∀i m af H,W i m af H->
   ((Itr lo n).stop i H/\D.nx af H)\/((Itr lo n).go i H/\∃N:St->Hp->Prop,(∀bY ae,N bY ae->∃cA,cA<m/\W (i+1) cA bY ae)/\∀x ae,(Itr lo n).yld i H x ae->g x af ae λcS bt=>cH {D with nx:=N,ct:=N,bk:=D.nx} cS bt):=by
 refine⟨λi m af H=>m=n-i/\i<=n/\Pv i af H,⟨n,by simp,qat _,cd⟩,?_⟩;rintro i m af H ⟨rfl,hi,p⟩
 by_cases cD:i<n
 .refine .inr ⟨cD,Pv (i+1),λbY ae he=>⟨n-(i+1),by omega,rfl,cD,he⟩,λx ae y=>?_⟩;obtain⟨e,y⟩:=y;subst e y;exact hs i af _ cD p
 .have e:i=n:=by omega
  subst e;exact .inl ⟨qab _,hd af H p⟩
noncomputable abbrev R2:=V->V->Hp->VK->Prop
def OpR(X:Cx)(f:Value->Value->Sem Value)(r:R2):Prop:=
 ∀(aj:List (Addr×Obj))(s:Shared)(af:St)(H:Hp)(x y:V)(v u:Value)(Q:VK),Inv X aj af H s->cL x v->cL y u->r x y H Q->
  wpAny (model X.prog X.w) X.A (f v u) (EP X aj af Q) X.xe s
def YW(X:Cx)(f:Value)(r:List V->Hp->VK->Prop):Prop:=
 ∀(aj:List (Addr×Obj))(s:Shared)(af:St)(H:Hp)(xs:List V)(us:List Value)(Q:VK),Inv X aj af H s->cR xs us->r xs H Q->
  wpAny (model X.prog X.w) X.A (call f us) (EP X aj af Q) X.xe s
def ZpC(X:Cx)(r:V->Hp->(Bool->Hp->Prop)->Prop):Prop:=
 ∀(aj:List (Addr×Obj))(s:Shared)(af:St)(H:Hp)(x:V)(v:Value)(Q:Bool->Hp->Prop),Inv X aj af H s->cL x v->r x H Q->
  wpAny (model X.prog X.w) X.A (truthy v) (TP X aj af Q) X.xe s
def tOp (r:R2) (b9 cH:TE):TE:=λaf H Q=>b9 af H λx a_=>cH af a_ λy bt=>r x y bt Q
def rI (C:Int->Int->Prop) (g:Int->Int->V):R2:=λx y H Q=>∃i j,x= .int i/\y= .int j/\C i j/\Q (g i j) H
def rI0 (g:Int->Int->V):R2:=λx y H Q=>∃i j,x= .int i/\y= .int j/\Q (g i j) H
section
variable {X:Cx}{a b c:Expr}{b9 cH dv:TE}{pos:Pos}
theorem uD(bD:PE X a b9)(ai:PE X b cH){aj:List (Addr×Obj)}{s:Shared}{af:St}{H:Hp}{R:V->V->Hp->Prop}(I:Inv X aj af H s)
  (h:b9 af H λx a_=>cH af a_ λy bt=>R x y bt) {Q:Value->Shared->Prop} {f:Value->Value->Sem Value}
  (bN:∀v u bM x y bt,Inv X aj af bt bM->cL x v->cL y u->R x y bt->wpAny (model X.prog X.w) X.A (f v u) Q X.xe bM):
  wpAny (model X.prog X.w) X.A (eval a X.env) (λv du=>wpAny (model X.prog X.w) X.A (eval b X.env) (λu ks=>wpAny (model X.prog X.w) X.A (f v u) Q X.xe ks) X.xe du) X.xe s:=by
 refine thn (bD aj s af H _ I h) λv bu ⟨x,a_,bT,cq,ce⟩=>?_;refine thn (ai aj bu af a_ _ bT ce) λu bM ⟨y,bt,cC,cN,cG⟩=>?_;exact bN v u bM x y bt cC cq cN cG
theorem cK{op:Operator}{r:R2}(bJ:OpR X (binaryOp op) r)(bD:PE X a b9)(ai:PE X b cH):PE X (.BinOp a op b pos) (tOp r b9 cH):=by
 intro aj s af H Q I h;exact wpAny_BinOp (uD bD ai I h λv u bM x y bt cC b3 cj q=>bJ aj bM af bt x y v u Q cC b3 cj q)
theorem opI{f:Value->Value->Sem Value}{C:Int->Int->Prop}{g:Int->Int->Int}
  (rule:∀(i j:Int)(t u:Tok)(s:Shared)(Q:Value->Shared->Prop)(E:Value->Shared->Prop),C i j->Q (.int (g i j) s.toks) {s with toks:=s.toks+1}->wpAny (model X.prog X.w) X.A (f (.int i t) (.int j u)) Q E s):
  OpR X f (rI C λi j=> .int (g i j)):=by
 intro aj s af H x y v u Q I b3 cj h;obtain⟨i,j,rfl,rfl,bv,q⟩:=h;obtain⟨t,rfl⟩:=b3;obtain⟨t',rfl⟩:=cj;exact rule i j t t' s _ _ bv ⟨.int (g i j),H,I.tok _,⟨_,rfl⟩,q⟩
theorem Zno{f:Value->Value->Sem Value}{g:Int->Int->Int}
  (rule:∀(i j:Int)(t u:Tok)(s:Shared)(Q:Value->Shared->Prop)(E:Value->Shared->Prop),Q (.int (g i j) s.toks) {s with toks:=s.toks+1}->wpAny (model X.prog X.w) X.A (f (.int i t) (.int j u)) Q E s):
  OpR X f (rI0 λi j=> .int (g i j)):=by
 intro aj s af H x y v u Q I b3 cj h;obtain⟨i,j,rfl,rfl,q⟩:=h;obtain⟨t,rfl⟩:=b3;obtain⟨t',rfl⟩:=cj;exact rule i j t t' s _ _ ⟨.int (g i j),H,I.tok _,⟨_,rfl⟩,q⟩
theorem ZjD{f:Value->Value->Sem Value}{g:Int->Int->Bool}
  (rule:∀(i j:Int)(t u:Tok)(s:Shared)(Q:Value->Shared->Prop)(E:Value->Shared->Prop),Q (.bool (g i j)) s->wpAny (model X.prog X.w) X.A (f (.int i t) (.int j u)) Q E s):
  OpR X f (rI0 λi j=> .bl (g i j)):=by
 intro aj s af H x y v u Q I b3 cj h;obtain⟨i,j,rfl,rfl,q⟩:=h;obtain⟨t,rfl⟩:=b3;obtain⟨t',rfl⟩:=cj;exact rule i j t t' s _ _ ⟨.bl (g i j),H,I,rfl,q⟩
def ZjE(i j:Int):Prop:=(-(2 ^ 64)<i/\i<2 ^ 64)\/(-(2 ^ 64)<j/\j<2 ^ 64)
theorem ZjE.ok{i j:Int}(h:ZjE i j):IntMulOk i j:=by
 rcases h with⟨ak,a'⟩|⟨ak,a'⟩
 .exact .of_left (intBits_le_64 ak a')
 .exact .of_right (intBits_le_64 ak a')
theorem Gq:OpR X (binaryOp .Add) (rI0 λi j=> .int (i+j)):=Zno λ_ _ _ _ _ _ _ q=>add_int q
theorem pW:OpR X (binaryOp .Sub) (rI0 λi j=> .int (i-j)):=Zno λ_ _ _ _ _ _ _ q=>sub_int q
theorem fT:OpR X (binaryOp .Mod) (rI (λ_ j=>0<j) λi j=> .int (i % j)):=opI λi j _ _ _ _ _ bv q=>by
 have ak:(0:Int)<j:=bv;exact mod_int' (by omega) (by rw[qb2 i (by omega)];exact q)
end
noncomputable def zc:V->V->Bool
 | .non,.non=>true| .non,.int _=>true| .int _,.non=>true| .non,.bl _=>true| .bl _,.non=>true| .non,.str _=>true| .str _,.non=>true
 | .int _,.int _=>true| .bl _,.bl _=>true| .str _,.str _=>true| .byt _,.byt _=>true
 | .int _,.str _=>true| .str _,.int _=>true| .bl _,.str _=>true| .str _,.bl _=>true
 |_,_=>false
def rEq:R2:=λx y H Q=>zc x y=true/\Q (.bl (decide (x=y))) H
def rNe:R2:=λx y H Q=>zc x y=true/\Q (.bl (!decide (x=y))) H
theorem Zix{i j:Int}:decide (V.int i=V.int j)=(i==j):=by
 rw[qbI];simp
theorem ZgN{i j:Bool}:decide (V.bl i=V.bl j)=(i==j):=by
 rw[qbI];simp
theorem Zip{i j:Str}:decide (V.str i=V.str j)=(i==j):=by
 rw[qbI];simp
theorem Zij{i j:Array UInt8}:decide (V.byt i=V.byt j)=(i.toList==j.toList):=by
 rw[qbI];cases i;cases j;simp
section
variable {X:Cx}{a b c:Expr}{b9 cH dv:TE}{pos:Pos}
theorem eY{aj:List (Addr×Obj)}{af:St}{H:Hp}{s:Shared}{Q:VK}{k k':Bool}(I:Inv X aj af H s)(q:Q (.bl k) H)(e:k=k'):EP X aj af Q (.bool k') s:=by
 subst e;exact⟨.bl k,H,I,rfl,q⟩
theorem Gs:OpR X (compareOp .Eq) rEq:=by
 intro aj s af H x y v u Q I b3 cj h;obtain⟨hs,q⟩:=h;cases x with
 |non=>
  cases b3;cases y with
  |non=>cases cj;exact PySem.EqNone.eq_none_none (eY I q (by simp))
  |bl j=>cases cj;exact PySem.EqNone.eq_none_bool (eY I q (by simp))
  |int j=>obtain⟨t',rfl⟩:=cj;exact PySem.EqNone.eq_none_int (eY I q (by simp))
  |str j=>obtain⟨t',rfl⟩:=cj;exact PySem.EqNone.eq_none_str (eY I q (by simp))
  |_=>exact absurd (show false=true from hs) qal
 |bl i=>
  cases b3;cases y with
  |non=>cases cj;exact PySem.EqNone.eq_bool_none (eY I q (by simp))
  |bl j=>cases cj;exact eq_bool (eY I q ZgN)
  |str j=>obtain⟨t',rfl⟩:=cj;exact PySem.EqMixed.eq_bool_str (eY I q (by simp))
  |_=>exact absurd (show false=true from hs) qal
 |int i=>
  obtain⟨t,rfl⟩:=b3;cases y with
  |non=>cases cj;exact PySem.EqNone.eq_int_none (eY I q (by simp))
  |int j=>obtain⟨t',rfl⟩:=cj;exact eq_int (eY I q Zix)
  |str j=>obtain⟨t',rfl⟩:=cj;exact PySem.EqMixed.eq_int_str (eY I q (by simp))
  |_=>exact absurd (show false=true from hs) qal
 |str i=>
  obtain⟨t,rfl⟩:=b3;cases y with
  |non=>cases cj;exact PySem.EqNone.eq_str_none (eY I q (by simp))
  |bl j=>cases cj;exact PySem.EqMixed.eq_str_bool (eY I q (by simp))
  |int j=>obtain⟨t',rfl⟩:=cj;exact PySem.EqMixed.eq_str_int (eY I q (by simp))
  |str j=>obtain⟨t',rfl⟩:=cj;exact eq_str (eY I q Zip)
  |_=>exact absurd (show false=true from hs) qal
 |byt i=>
  obtain⟨t,rfl⟩:=b3;cases y with
  |byt j=>obtain⟨t',rfl⟩:=cj;exact PySem.W.eq_bytes (eY I q Zij)
  |_=>exact absurd (show false=true from hs) qal
 |_=>cases y<;>exact absurd (show false=true from hs) qal
theorem Gu:OpR X (compareOp .NotEq) rNe:=by
 intro aj s af H x y v u Q I b3 cj h;obtain⟨hs,q⟩:=h;cases x with
 |non=>
  cases b3;cases y with
  |non=>cases cj;exact PySem.EqNone.ne_none_none (eY I q (by simp))
  |bl j=>cases cj;exact PySem.EqNone.ne_none_bool (eY I q (by simp))
  |int j=>obtain⟨t',rfl⟩:=cj;exact PySem.EqNone.ne_none_int (eY I q (by simp))
  |str j=>obtain⟨t',rfl⟩:=cj;exact PySem.EqNone.ne_none_str (eY I q (by simp))
  |_=>exact absurd (show false=true from hs) qal
 |bl i=>
  cases b3;cases y with
  |non=>cases cj;exact PySem.EqNone.ne_bool_none (eY I q (by simp))
  |bl j=>cases cj;exact ne_bool (eY I q (congrArg not ZgN))
  |str j=>obtain⟨t',rfl⟩:=cj;exact PySem.EqMixed.ne_bool_str (eY I q (by simp))
  |_=>exact absurd (show false=true from hs) qal
 |int i=>
  obtain⟨t,rfl⟩:=b3;cases y with
  |non=>cases cj;exact PySem.EqNone.ne_int_none (eY I q (by simp))
  |int j=>obtain⟨t',rfl⟩:=cj;exact ne_int (eY I q (congrArg not Zix))
  |str j=>obtain⟨t',rfl⟩:=cj;exact PySem.EqMixed.ne_int_str (eY I q (by simp))
  |_=>exact absurd (show false=true from hs) qal
 |str i=>
  obtain⟨t,rfl⟩:=b3;cases y with
  |non=>cases cj;exact PySem.EqNone.ne_str_none (eY I q (by simp))
  |bl j=>cases cj;exact PySem.EqMixed.ne_str_bool (eY I q (by simp))
  |int j=>obtain⟨t',rfl⟩:=cj;exact PySem.EqMixed.ne_str_int (eY I q (by simp))
  |str j=>obtain⟨t',rfl⟩:=cj;exact ne_str (eY I q (congrArg not Zip))
  |_=>exact absurd (show false=true from hs) qal
 |byt i=>
  obtain⟨t,rfl⟩:=b3;cases y with
  |byt j=>obtain⟨t',rfl⟩:=cj;exact PySem.W.ne_bytes (eY I q (congrArg not Zij))
  |_=>exact absurd (show false=true from hs) qal
 |_=>cases y<;>exact absurd (show false=true from hs) qal
theorem l9:OpR X (compareOp .Lt) (rI0 λi j=> .bl (decide (i<j))):=ZjD λ_ _ _ _ _ _ _ q=>lt_int q
theorem Gv:OpR X (compareOp .LtE) (rI0 λi j=> .bl (decide (i<=j))):=ZjD λ_ _ _ _ _ _ _ q=>le_int q
theorem ou:OpR X (compareOp .Gt) (rI0 λi j=> .bl (decide (j<i))):=ZjD λ_ _ _ _ _ _ _ q=>gt_int q
theorem pX:OpR X (compareOp .GtE) (rI0 λi j=> .bl (decide (j<=i))):=ZjD λ_ _ _ _ _ _ _ q=>ge_int q
theorem ov:OpR X (compareOp .Is) (λx y H Q=>y= .non/\Q (.bl (decide (x= .non))) H):=by
 intro aj s af H x y v u Q I b3 cj h;obtain⟨rfl,q⟩:=h;cases cj;refine is_none_gen (eY I q ?_);cases x<;>first
  |(cases b3;rfl)
  |(obtain⟨t,rfl⟩:=b3;rfl)
theorem OpR.or{f:Value->Value->Sem Value}{r c7:R2}(h:OpR X f r)(h':OpR X f c7):OpR X f (λx y H Q=>r x y H Q\/c7 x y H Q):=by
 intro aj s af H x y v u Q I b3 cj q;rcases q with q|q
 .exact h aj s af H x y v u Q I b3 cj q
 .exact h' aj s af H x y v u Q I b3 cj q
theorem ds(b:Expr){op:CmpOp}(h:op≠ .In:=by decide)(a':op≠ .NotIn:=by decide):behindInMarks op b=false:=by
 have bE:(op==CmpOp.In)=false:=by cases op<;>first|rfl|exact absurd rfl h
 have bP:(op==CmpOp.NotIn)=false:=by cases op<;>first|rfl|exact absurd rfl a'
 cases b<;>simp[behindInMarks,bE,bP]
theorem kA{op:CmpOp}{r:R2}(bJ:OpR X (compareOp op) r)(bD:PE X a b9)(ai:PE X b cH)(bz:behindInMarks op b=false):PE X (.Compare a [op] [b] pos) (tOp r b9 cH):=by
 intro aj s af H Q I h;exact wpAny_Compare1 (uD bD ai I h λv u bM x y bt cC b3 cj q=>bJ aj bM af bt x y v u Q cC b3 cj q) bz
def uE (t:TE):TT:=λaf H Q=>t af H λx ae=>∃k,x= .bl k/\Q k ae
theorem dk{op:CmpOp}{r:R2}(bJ:OpR X (compareOp op) r)(bD:PE X a b9)(ai:PE X b cH)(bz:behindInMarks op b=false):PT X (.Compare a [op] [b] pos) (uE (tOp r b9 cH)):=by
 intro aj s af H Q I h;refine wpAny_isTrue_Compare1 (thn (bD aj s af H _ I h) λv bu ⟨x,a_,bT,cq,ce⟩=>thn (ai aj bu af a_ _ bT ce) λu bM ⟨y,bt,cC,cN,cG⟩=>
  thn (bJ aj bM af bt x y v u _ cC cq cN cG) λc bR ⟨z,b7,dw,gG,k,e,e7⟩=>?_) bz
 subst e;cases gG;exact wpAny_truthy_bool ⟨b7,dw,e7⟩
def uF (r c7:R2) (b9 cH dv:TE):TE:=λaf H Q=>b9 af H λx a_=>cH af a_ λy bt=>r x y bt λz b7=>∃k,z= .bl k/\
 (if k=true then dv af b7 λd3 bW=>c7 y d3 bW Q else Q (.bl false) b7)
theorem Gw{op m6:CmpOp}{r c7:R2}(bJ:OpR X (compareOp op) r)(jR:OpR X (compareOp m6) c7)(bD:PE X a b9)(ai:PE X b cH)(bv:PE X c dv)
  (bz:lastMarks [op,m6] [b,c]=false:=by with_unfolding_all rfl):PE X (.Compare a [op,m6] [b,c] pos) (uF r c7 b9 cH dv):=by
 intro aj s af H Q I h;refine Compare_chain (thn (bD aj s af H _ I h) λv bu ⟨x,a_,bT,cq,ce⟩=>chain_link (thn (ai aj bu af a_ _ bT ce) λu bM ⟨y,bt,cC,cN,cG⟩=>
  thn (bJ aj bM af bt x y v u _ cC cq cN cG) λd bR ⟨z,b7,dw,gG,k,e,e7⟩=>?_)) bz
 subst e;cases gG;refine wpAny_truthy_bool ?_;cases k with
 |false=>exact ite_ff ⟨.bl false,b7,dw,rfl,e7⟩
 |true=>exact ite_tt (chain_last (thn (bv aj bR af b7 _ dw e7) λd3 b2 ⟨f6,bW,jV,hN,li⟩=>jR aj b2 af bW y f6 u d3 Q jV cN hN li))
theorem Gx{op m6:CmpOp}{r c7:R2}(bJ:OpR X (compareOp op) r)(jR:OpR X (compareOp m6) c7)(bD:PE X a b9)(ai:PE X b cH)(bv:PE X c dv)
  (bz:lastMarks [op,m6] [b,c]=false:=by with_unfolding_all rfl):PT X (.Compare a [op,m6] [b,c] pos) (uE (uF r c7 b9 cH dv)):=by
 intro aj s af H Q I h;refine isTrue_chain (thn (bD aj s af H _ I h) λv bu ⟨x,a_,bT,cq,ce⟩=>test_link (thn (ai aj bu af a_ _ bT ce) λu bM ⟨y,bt,cC,cN,cG⟩=>
  thn (bJ aj bM af bt x y v u _ cC cq cN cG) λd bR ⟨z,b7,dw,gG,k,e,e7⟩=>?_)) bz
 subst e;cases gG;refine wpAny_truthy_bool ?_;cases k with
 |false=>
  obtain⟨k',b',iE⟩:=e7;cases b';exact ite_ff ⟨b7,dw,iE⟩
 |true=>
  refine ite_tt (test_last (thn (bv aj bR af b7 _ dw e7) λd3 b2 ⟨f6,bW,jV,hN,li⟩=>thn (jR aj b2 af bW y f6 u d3 _ jV cN hN li) λd' cs ⟨cJ,b0,iF,m3,k2,bP,m4⟩=>?_));subst bP;cases m3;exact wpAny_truthy_bool ⟨b0,iF,m4⟩
def pY(K:Frag)(x:V)(H:Hp)(k:Bool):Prop:=
 match x with
 | .non=>k=false
 | .bl b=>k=b
 | .int i=>k=(i != 0)
 | .str y=>y.length<=sizeLine/\k=((y.length:Int) != 0)
 | .byt y=>y.size<=sizeLine/\k=((y.size:Int) != 0)
 | .ref p=>(∃xs,SqL K H p xs/\k= !xs.isEmpty)\/(∃xs,SqT K H p xs/\k= !xs.isEmpty)\/∃kvs,H p=some (.dK kvs)/\k= !kvs.isEmpty
 |_=>False
theorem Zjt{dC:Type}{kvs:List (dC×V)}{vs:List (dC×Value)}(r:KV kvs vs):(!vs.isEmpty)= !kvs.isEmpty:=by
 cases r<;>rfl
theorem ZeT{xs:List V}{its:List Value}(r:cR xs its):(!its.toArray.isEmpty)= !xs.isEmpty:=by
 cases r<;>simp
theorem lp:(sizeLine:Nat)<2 ^ 63:=by rw[sizeLine_eq];decide
theorem Gy:ZpC X (λx H Q=>∃k,pY X.K x H k/\Q k H):=by
 intro aj s af H x v Q I b3 h;obtain⟨k,e,q⟩:=h;have ag:=lp;have hs:sizeLine=16777216:=sizeLine_eq;cases x with
 |non=>
  cases b3;have b':k=false:=e;subst b';exact truthy_none ⟨H,I,q⟩
 |bl b=>
  cases b3;have b':k=b:=e;subst b';exact wpAny_truthy_bool ⟨H,I,q⟩
 |int i=>
  obtain⟨t,rfl⟩:=b3;have b':k=(i != 0):=e;subst b';exact PySem.P.truthy_int ⟨H,I,q⟩
 |str y=>
  obtain⟨t,rfl⟩:=b3;obtain⟨bO,b'⟩:y.length<=sizeLine/\k=((y.length:Int) != 0):=e;subst b';exact PySem.P.truthy_str (by omega) ⟨H,I.tok _,q⟩
 |byt y=>
  obtain⟨t,rfl⟩:=b3;obtain⟨bO,b'⟩:y.size<=sizeLine/\k=((y.size:Int) != 0):=e;subst b';exact PySem.W.truthy_bytes (by omega) ⟨H,I.tok _,q⟩
 |ref p=>
  cases b3;have b':(∃xs,SqL X.K H p xs/\k= !xs.isEmpty)\/(∃xs,SqT X.K H p xs/\k= !xs.isEmpty)\/∃kvs,H p=some (.dK kvs)/\k= !kvs.isEmpty:=e;rcases b' with⟨xs,bp,b'⟩|⟨xs,bp,b'⟩|⟨kvs,bp,b'⟩
  .subst b';obtain⟨its,r,pl,hz⟩:=I.list bp;have d9:=r.length;exact wpAny_truthy_list pl.isList (by simp only[qaf];omega) ⟨H,I.tok _,by rw[ZeT r];exact q⟩
  .subst b';obtain⟨its,r,pl,hz⟩:=I.tuple bp;have d9:=r.length;exact truthy_tuple pl (by simp only[qaf];omega) ⟨H,I.tok _,by rw[ZeT r];exact q⟩
  .subst b';obtain⟨hz,dx,vs,r,m⟩:kvs.length<=sizeLine/\(p==sysModules)=false/\∃vs,KV kvs vs/\s.heap.DictOf (ec X.prog X.w) p vs:=I.hok p _ bp;have d9:kvs.length=vs.length:=Paired.length r;exact wpAny_truthy_dict dx m (by omega) ⟨H,I.tok _,by rw[Zjt r];exact q⟩
 |_=>exact(show False from e).elim
theorem Zl2(bD:PE X a b9)(bK:∀mW,isTrue a X.env mW=(do let v<-mW;standAt a.pos;holding [v] (truthy v))):
  PT X a (λaf H Q=>b9 af H λx ae=>∃k,pY X.K x ae k/\Q k ae):=by
 intro aj s af H Q I h;exact isTrue_plain (thn (bD aj s af H _ I h) λv bu ⟨x,a_,bT,cq,ce⟩=>Gy aj bu af a_ x v Q bT cq ce) (bK _)
theorem Gz:OpR X (binaryOp .Add) (λx y H Q=>∃i j,x= .str i/\y= .str j/\i.length+j.length<=sizeLine/\Q (.str (i++j)) H):=by
 intro aj s af H x y v u Q I b3 cj h;obtain⟨i,j,rfl,rfl,hz,q⟩:=h;obtain⟨t,rfl⟩:=b3;obtain⟨t',rfl⟩:=cj;exact add_str (λt' b1=>⟨.str (i++j),H,I.tok _,⟨_,rfl⟩,q⟩) hz
theorem WB{x:V}{us:List Value}(r:cR [x] us):∃u,us=[u]/\cL x u:=by
 cases r with
 |cons cq cN=>cases cN;exact⟨_,rfl,cq⟩
theorem ZoX{x y:V}{us:List Value}(r:cR [x,y] us):∃u d3,us=[u,d3]/\cL x u/\cL y d3:=by
 cases r with
 |cons cq cN=>
  cases cN with
  |cons gG hN=>cases hN;exact⟨_,_,rfl,cq,gG⟩
theorem GA(bv:X.calm=true):YW X (.builtin "min") (λxs H Q=>∃i j,xs=[.int i,.int j]/\Q (.int (if j<i then j else i)) H):=by
 intro aj s af H xs us Q I r h;obtain⟨i,j,rfl,q⟩:=h;obtain⟨u,d3,rfl,⟨t,rfl⟩,⟨t',rfl⟩⟩:=ZoX r;refine min_two_ints (I.ok.hd bv) λh' b1 k=>⟨_,H,I.kept k,?_,q⟩
 by_cases bw:j<i
 .rw[if_pos bw,if_pos bw];exact⟨_,rfl⟩
 .rw[if_neg bw,if_neg bw];exact⟨_,rfl⟩
def ZbQ(K:Frag)(x:V)(H:Hp)(n:Nat):Prop:=
 match x with
 | .str y=>y.length<=sizeLine/\n=y.length
 | .byt y=>y.size<=sizeLine/\n=y.size
 | .ref p=>(∃xs,SqL K H p xs/\n=xs.length)\/∃xs,SqT K H p xs/\n=xs.length
 |_=>False
theorem GB:YW X (.builtin "len") (λxs H Q=>∃x n,xs=[x]/\ZbQ X.K x H n/\Q (.int n) H):=by
 intro aj s af H xs us Q I r h;obtain⟨x,n,rfl,e,q⟩:=h;obtain⟨u,rfl,b3⟩:=WB r;have ag:=lp;have hs:sizeLine=16777216:=sizeLine_eq;cases x with
 |str y=>
  obtain⟨t,rfl⟩:=b3;obtain⟨bO,b'⟩:y.length<=sizeLine/\n=y.length:=e;subst b';exact len_str (by omega) ⟨.int _,H,I.tok _,⟨_,rfl⟩,q⟩
 |byt y=>
  obtain⟨t,rfl⟩:=b3;obtain⟨bO,b'⟩:y.size<=sizeLine/\n=y.size:=e;subst b';exact PySem.W.len_bytes (by omega) ⟨.int _,H,I.tok _,⟨_,rfl⟩,q⟩
 |ref p=>
  cases b3;have b':(∃xs,SqL X.K H p xs/\n=xs.length)\/∃xs,SqT X.K H p xs/\n=xs.length:=e;rcases b' with⟨xs,bp,b'⟩|⟨xs,bp,b'⟩
  .subst b';obtain⟨its,c7,pl,hz⟩:=I.list bp;have d9:=c7.length;exact Calls.call_len_list pl.isList (by simp only[qaf];omega) ⟨.int xs.length,H,I.tok _,⟨_,by simp only[qaf];rw[d9]⟩,q⟩
  .subst b';obtain⟨its,c7,pl,hz⟩:=I.tuple bp;have d9:=c7.length;exact len_tuple pl (by simp only[qaf];omega) ⟨.int xs.length,H,I.tok _,⟨_,by simp only[qaf];rw[d9]⟩,q⟩
 |_=>exact(show False from e).elim
end
structure m7(h:Heap)(x bx C:Addr)(ed:Str->Option Value):Prop where
 obj:h.get? x=some (instObj C bx)
 ns:h.Ns1 bx ed
 ne:bx≠x
theorem ZkA{h:Heap}{bx:Addr}{ed:Str->Option Value}(n:h.Ns1 bx ed):∃ef,h.get? bx=some ef/\∀name,lookIn name ef=some (ed name):=by
 obtain⟨o,bC,ep,bJ,hd,br,_,bz⟩:=n;refine⟨o,bJ,λname=>?_⟩;have e:=bz name;unfold nsFind findBy at e;rw[<-Array.find?_toList] at e;unfold lookIn;rw[hd];dsimp only
 split
 .rename_i y q;rw[q] at e;exact congrArg some e
 .rename_i q;rw[q] at e;have a:bC.toList.any (·.refKey)=false:=by
   rw[List.any_eq_false];intro y bO;obtain⟨z,t,pZ⟩:=br y (Array.mem_toList_iff.mp bO);simp[DictEntry.refKey,pZ]
  have dI:¬bC.toList.any (·.refKey)=true:=by rw[a];exact qal
  rw[if_neg dI];exact congrArg some e
theorem m7.look{h:Heap}{x bx C:Addr}{ed:Str->Option Value}(I:m7 h x bx C ed):∃ef,PySem.W.InstAt h x (instObj C bx) C (some ef)/\∀name,lookIn name ef=some (ed name):=
 let⟨ef,bJ,ag⟩:=ZkA I.ns
 ⟨ef,⟨I.obj,rfl,rfl,bJ⟩,ag⟩
section
variable {prog:Program}{w:World}{A:Around}{E:Value->Shared->Prop}{s:Shared}{K:Frag}{x bx C f:Addr}{ed:Str->Option Value}{name:Str}{v:Value}
theorem ZmU{GC:Bool}{Q:Value->Shared->Prop}(X:K.In s.heap)(I:m7 s.heap x bx C ed)(bG:plainGet K C name=true)(b4:hasDictIn K C=true)
  (bD:findIn K (.ref C) name=some none) (bS:ed name=some v) (gH:handedIn v=true) (h:Q v {s with toks:=s.toks+1}):
  wpAny (model prog w) A (getAttr (.ref x) name GC) Q E s:=by
 obtain⟨ef,J,ag⟩:=I.look;exact PySem.W.get_value X J (plainGet_of bG).1 (PySem.W.findObj_own b4 bD rfl (by rw[ag,bS])) gH h
theorem ZkX{pl:Sem Bool}{Q:Value×List Value->Shared->Prop}(X:K.In s.heap)(I:m7 s.heap x bx C ed)(bG:plainGet K C name=true)
  (bN:findIn K (.ref C) name=some (some (.ref f))) (bX:isFn K (.ref f)=true) (bS:ed name=none) (h:Q (.ref f,[.ref x]) s):
  wpAny (model prog w) A (getMethod (.ref x) name pl) Q E s:=by
 obtain⟨ef,J,ag⟩:=I.look;exact PySem.W.method_fn X J (plainGet_of bG).1 (plainGet_of bG).2 bN (beq_iff_eq.mp bX) (by show(lookIn name ef).map (·.isSome)=some false;rw[ag,bS];rfl) h
theorem Zm5{ns:List Str}{Q:Unit->Shared->Prop}(X:K.In s.heap)(I:m7 s.heap x bx C ed)
  (hs:findIn K (.ref C) "__setattr__" =some (some (.builtin "object.__setattr__"))) (bB:plainOver K C=true) (bX:takerIn K C name=some none) (b4:hasDictIn K C=true)
  (hw:PySem.Within ed ns) (hsz:ns.length<=sizeLine)
  (h:∀h',m7 h' x bx C (λy=>if y=name then some v else ed y)->Heap.SameBut bx s.heap h'->Q () {s with heap:=h',toks:=s.toks+2}):
  wpAny (model prog w) A (setAttr (.ref x) name v) Q E s:=by
 obtain⟨ef,J,ag⟩:=I.look;refine PySem.W.set_plain X J hs (PySem.W.osa_open (s:={s with toks:=s.toks+1}) (r:=none) X J bB bX λb=>?_);obtain⟨de,bv,hK⟩:=PySem.W.any_some b4;have bp:s.heap.get? x=some ⟨.ref C,some bx,.plain,#[]⟩:=I.obj;refine wpAny_bind (wpAny_pure (wpAny_bind (wpAny_bind (wpAny_loadPart bp (wpAny_bind (Looks.here (s:={s with toks:=s.toks+1}) (PySem.W.looks_clsIn X bv) ?_))))));rw[hK];refine wpAny_pure (a:=some bx) (wpAny_bind (wpAny_pure (wpAny_bind ?_)));refine wpAny_nsSet1 (s:={s with toks:=s.toks+1}) I.ns λh' jY jZ=>?_;obtain⟨oD,RW,RX,GD,GF,GG⟩:=jY.count (PySem.Within.cons name v hw);refine wpAny_bind (wpAny_lookBehind GD (by rw[GF];exact pastItsLine_dict (qaj GG (by rw[List.length_cons];omega))) ?_);exact wpAny_pure (h _ ⟨(jZ.2 _ (qbO I.ne)).trans I.obj,jY,I.ne⟩ jZ)
theorem zd{R:Result->Shared->Prop}{vs:List Value}{kw:List (Str×Value)}(X:K.In s.heap)(bz:makesIn K C=true)
  (hi:findIn K (.ref C) "__init__" =some (some (.ref f))) (bN:typeIn K (.ref f)=some (.type "function"))
  (h:codeAny (model prog w) (A.under (.builtin "type.__call__" ⟨.ref C::vs,kw⟩)) (.call (.ref f) ⟨.ref (s.heap.objs.size+1)::vs,kw⟩) (PySem.W.InitBack (s.heap.objs.size+1) R)
   {s with heap:=(s.heap.push emptyDict).push (instObj C s.heap.objs.size)}):
  codeAny (model prog w) A (.call (.ref C) ⟨vs,kw⟩) R s:=by
 obtain⟨b4,g,d,t,os⟩:=s;exact PySem.W.make_core (PySem.W.makes_of X bz) (PySem.W.looks_findIn X hi) (λself=>PySem.W.bind_fn X self bN) (.inl rfl) h
end
noncomputable def fU (f:Str) (v:V):List (Str×V)->List (Str×V)
 | []=>[(f,v)]
 |(g,x)::r=>if g=f then(g,v)::r else(g,x)::fU f v r
theorem ZdA(f g:Str)(v:V):∀fs:List (Str×V),(fU f v fs).lookup g=if g=f then some v else fs.lookup g
 | []=>by
  show List.lookup g [(f,v)]=_
  by_cases h:g=f
  .have ai:(g==f)=true:=beq_iff_eq.mpr h;simp only[List.lookup,ai,if_pos h]
  .have ai:(g==f)=false:=beq_eq_false_iff_ne.mpr h;simp only[List.lookup,ai,if_neg h]
 |(k,x)::r=>by
  have bQ:=ZdA f g v r;rw[show fU f v ((k,x)::r)=(if k=f then(k,v)::r else(k,x)::fU f v r) from rfl]
  by_cases br:k=f
  .rw[if_pos br]
   by_cases h:g=k
   .have ai:(g==k)=true:=beq_iff_eq.mpr h;simp only[List.lookup,ai,if_pos (h.trans br)]
   .have ai:(g==k)=false:=beq_eq_false_iff_ne.mpr h;simp only[List.lookup,ai,if_neg (λe:g=f=>h (e.trans br.symm))]
  .rw[if_neg br]
   by_cases h:g=k
   .have ai:(g==k)=true:=beq_iff_eq.mpr h;simp only[List.lookup,ai,if_neg (λe:g=f=>br (h.symm.trans e))]
   .have ai:(g==k)=false:=beq_eq_false_iff_ne.mpr h;simp only[List.lookup,ai];exact bQ
theorem uG(f:Str)(v:V):∀fs:List (Str×V),f∈(fU f v fs).map (·.1)/\∀g,g∈fs.map (·.1)->g∈(fU f v fs).map (·.1)
 | []=>⟨by simp[fU],λg h=>by simp at h⟩
 |(k,x)::r=>by
  obtain⟨hp,p0⟩:=uG f v r;rw[show fU f v ((k,x)::r)=(if k=f then(k,v)::r else(k,x)::fU f v r) from rfl]
  by_cases br:k=f
  .rw[if_pos br];subst br;exact⟨by simp,λg h=>by simpa using h⟩
  .rw[if_neg br];refine⟨?_,λg h=>?_⟩
   .rw[List.map_cons];exact qax _ hp
   .rw[List.map_cons] at h|-;rcases qah.mp h with e|e
    .exact qah.mpr (.inl e)
    .exact qax _ (p0 g e)
theorem Zdy(f:Str)(v:V):∀fs:List (Str×V),(fU f v fs).length<=fs.length+1
 | []=>by simp[fU]
 |(k,x)::r=>by
  have bQ:=Zdy f v r;rw[show fU f v ((k,x)::r)=(if k=f then(k,v)::r else(k,x)::fU f v r) from rfl]
  by_cases br:k=f
  .rw[if_pos br,List.length_cons,List.length_cons];omega
  .rw[if_neg br,List.length_cons,List.length_cons];omega
theorem gU.some_of{v:V}{o:Option Value}(r:gU (some v) o):∃u,o=some u/\cL v u:=by
 cases o with
 |none=>exact(show False from r).elim
 |some u=>exact⟨u,rfl,r⟩
theorem gU.none_of{o:Option Value}(r:gU none o):o=none:=by
 cases o with
 |none=>rfl
 |some u=>exact(show False from r).elim
theorem GH{v:V}{u:Value}(r:cL v u):handedIn u=true:=by
 cases v with
 |non=>cases (show u=Value.none from r);rfl
 |bl b=>cases (show u=Value.bool b from r);rfl
 |int i=>obtain⟨t,e⟩:=(show ∃t,u=Value.int i t from r);cases e;rfl
 |str x=>obtain⟨t,e⟩:=(show ∃t,u=Value.str x t from r);cases e;rfl
 |byt b=>obtain⟨t,e⟩:=(show ∃t,u=Value.bytes b t from r);cases e;rfl
 |flt b=>obtain⟨t,e⟩:=(show ∃t,u=Value.float b t from r);cases e;rfl
 |ref a=>cases (show u=Value.ref a from r);rfl
 |ty n=>cases (show u=Value.type n from r);rfl
section
variable {P:Program}{w:World}{H ae:Hp}{h h':Heap}{a C bx:Addr}{fs r1:List (Str×V)}
theorem Zc4(hok:HOk P w H h)(e:H a=some (.ins C bx fs)):∃ed,m7 h a bx C ed/\(∀f,gU (fs.lookup f) (ed f))/\PySem.Within ed (fs.map (·.1))/\fs.length<=1000/\H bx=some (.own a):=by
 obtain⟨d,z,ne,cZ,ed,n,r,q⟩:=(show Z5 P w H h a (.ins C bx fs) from hok a _ e);exact⟨ed,⟨cZ,n,ne⟩,r,q,z,d⟩
end
structure Cls(K:Frag)(C:Addr):Prop where
 pg:plainGet K C Str.empty=true
 hd:hasDictIn K C=true
 po:plainOver K C=true
 sa:findIn K (.ref C) "__setattr__" =some (some (.builtin "object.__setattr__"))
theorem Cls.get{K:Frag}{C:Addr}(c:Cls K C)(f:Str):plainGet K C f=true:=c.pg
def iH(K:Frag)(C:Addr)(f:Str):Prop:=findIn K (.ref C) f=some none
theorem iH.taker{K:Frag}{C:Addr}{f:Str}(n:iH K C f):takerIn K C f=some none:=by
 unfold takerIn;rw[show findIn K (.ref C) f=some none from n]
 rfl
structure Ze1(K:Frag)(C:Addr)(m:Str)(f:Addr):Prop where
 at_:findIn K (.ref C) m=some (some (.ref f))
 fn:isFn K (.ref f)=true
 kp:keepIn K (.ref f)=true
section
variable {X:Cx}{aj:List (Addr×Obj)}{af:St}{H:Hp}{s:Shared}{a C bx:Addr}{fs:List (Str×V)}{f:Str}{v:V}{A:Around}{E:Value->Shared->Prop}
theorem Zjz{b:Bool}{Q:Value->Shared->Prop}(I:Inv X aj af H s)(e:H a=some (.ins C bx fs))(c:Cls X.K C)(n:iH X.K C f)(l:fs.lookup f=some v)
  (h:∀u s',Inv X aj af H s'->cL v u->Q u s'):wpAny (model X.prog X.w) A (getAttr (.ref a) f b) Q E s:=by
 obtain⟨ed,O,r,_,_,_⟩:=Zc4 I.hok e;obtain⟨u,hu,d8⟩:=gU.some_of (v:=v) (o:=ed f) (by rw[<-l];exact r f);exact ZmU I.kIn O (c.get f) c.hd n hu (GH d8) (h u _ (I.tok _) d8)
theorem ZbE{m:Str}{g:Addr}{pl:Sem Bool}{Q:Value×List Value->Shared->Prop}(I:Inv X aj af H s)(e:H a=some (.ins C bx fs))(c:Cls X.K C)(k:Ze1 X.K C m g)(l:fs.lookup m=none)
  (h:Q (.ref g,[.ref a]) s):wpAny (model X.prog X.w) A (getMethod (.ref a) m pl) Q E s:=by
 obtain⟨ed,O,r,_,_,_⟩:=Zc4 I.hok e;have bH:ed m=none:=gU.none_of (by rw[<-l];exact r m);exact ZkX I.kIn O (c.get m) k.at_ k.fn bH h
theorem Zjs{y:V}{u:Value}{Q:Unit->Shared->Prop}(I:Inv X aj af H s)(e:H a=some (.ins C bx fs))(c:Cls X.K C)(n:iH X.K C f)(ag:fs.length<1000)(cj:cL y u)
  (h:∀s',Inv X aj af (upd H a (.ins C bx (fU f y fs))) s'->Q () s'):wpAny (model X.prog X.w) A (setAttr (.ref a) f u) Q E s:=by
 obtain⟨ed,O,r,dG,_,bJ⟩:=Zc4 I.hok e;have hz:(fs.map (·.1)).length<=sizeLine:=by rw[GE,sizeLine_eq];omega
 refine Zm5 I.kIn O c.sa c.po n.taker c.hd dG hz λh' O' h_=>h _ ?_;have hd:∃o,h'.get? bx=some o:=let⟨o,_,_,b',_⟩:=O'.ns;⟨o,b'⟩
 refine I.write (x:=a) (e:=bx) (by rw[e];exact True.intro) (.inr bJ) (λb q ai z=>(h_.2 b ai).trans z) hd ?_;refine⟨by rw[b6 O.ne];exact bJ,?_,O.ne,O'.obj,_,O'.ns,λg=>?_,λg bG=>?_⟩
 .have:=Zdy f y fs;omega
 .show gU ((fU f y fs).lookup g) (if g=f then some u else ed g);rw[ZdA]
  by_cases q:g=f
  .rw[if_pos q,if_pos q];exact cj
  .rw[if_neg q,if_neg q];exact r g
 .by_cases q:g=f
  .rw[q];exact(uG f y fs).1
  .refine(uG f y fs).2 g (dG g λz=>bG ?_);show(if g=f then some u else ed g)=none;rw[if_neg q];exact z
theorem Inv.made(I:Inv X aj af H s):Inv X aj af (upd (upd H s.heap.objs.size (.own (s.heap.objs.size+1))) (s.heap.objs.size+1) (.ins C s.heap.objs.size []))
  {s with heap:=(s.heap.push emptyDict).push (instObj C s.heap.objs.size)}:=by
 have bE:(s.heap.push emptyDict).get? s.heap.objs.size=some emptyDict:=Heap.get?_push_size s.heap rfl;have bP:((s.heap.push emptyDict).push (instObj C s.heap.objs.size)).get? (s.heap.objs.size+1)=some (instObj C s.heap.objs.size):=by
  have:=Heap.get?_push_size (s.heap.push emptyDict) (o:=instObj C s.heap.objs.size) rfl
  rwa [Heap.size_push] at this
 have dj:(s.heap.push emptyDict).Ns s.heap.objs.size (λ_=>none):=⟨emptyDict,#[],_,bE,rfl,(λe bK=>absurd bK (by simp)),λ_=>rfl⟩;have bT:=I.laid (a:=s.heap.objs.size) (o:= .own (s.heap.objs.size+1)) (h':=s.heap.push emptyDict) (t':=s.toks) (λb u q=>Heap.get?_push_of_some _ q) (qab _) ⟨_,bE⟩;refine bT.laid (a:=s.heap.objs.size+1) (o:= .ins C s.heap.objs.size []) (t':=s.toks) (λb u q=>Heap.get?_push_of_some _ q) (Nat.le_of_eq (Heap.size_push _ _)) ?_;have ne:s.heap.objs.size≠s.heap.objs.size+1:=qap (qbk _);refine⟨by rw[b6 ne,Ze],qat _,ne,bP,λ_=>none,(Heap.Ns1.of_empty dj).at λo q=>Heap.get?_push_of_some _ q,λ_=>True.intro,λy bO=>absurd rfl bO⟩
theorem ZmF{prog:Program}{w:World}{env:Env}{e:Expr}{f:Str}{pos:Pos}{s:Shared}{Q:Value->Shared->Prop}(ai:attributeBase e f env (eval e env)=eval e env)
  (h:wpAny (model prog w) A (eval e env) (λo du=>wpAny (model prog w) A (getAttr o f true) Q E du) E s):wpAny (model prog w) A (eval (.Attribute e f pos) env) Q E s:=
 Attribute_any_ h (by rw[arm_eval_Attribute,ai])
end
def uH (K:Frag) (b9:TE) (f:Str):TE:=λaf H Q=>b9 af H λx a_=>∃a C bx fs v,x= .ref a/\a_ a=some (.ins C bx fs)/\Cls K C/\iH K C f/\fs.lookup f=some v/\Q v a_
def uI (K:Frag) (b9 hQ:TE) (f:Str):TS:=λD af H=>hQ af H λy a_=>b9 af a_ λx bt=>∃a C bx fs,x= .ref a/\bt a=some (.ins C bx fs)/\Cls K C/\iH K C f/\fs.length<1000/\
 D.nx af (upd bt a (.ins C bx (fU f y fs)))
section
variable {X:Cx}{o e value:Expr}{f:Str}{pos jT m2:Pos}{b9 hQ:TE}
theorem ZnV(bK:PE X e b9)(ai:attributeBase e f X.env (eval e X.env)=eval e X.env):PE X (.Attribute e f pos) (uH X.K b9 f):=by
 intro aj s af H Q I h;refine ZmF ai (thn (bK aj s af H _ I h) λu bu ⟨x,a_,bT,b3,a,C,bx,fs,v,ex,dn,c,n,l,q⟩=>?_);subst ex;obtain rfl:u=Value.ref a:=b3;exact Zjz bT dn c n l λko bM cC d8=>⟨v,a_,cC,d8,q⟩
theorem Znt(bD:PE X o b9)(bS:PE X value hQ)(hs:swapsWith value (some (.Attribute o f jT)) pos.line X.env=pure false):PS X (.Assign [.Attribute o f jT] value pos) (uI X.K b9 hQ f):=by
 intro aj s af H D I h;refine plainObj_wpAny_Assign_Attribute (thn (bS aj s af H _ I h) λu bu ⟨y,a_,bT,cj,q⟩=>thn (bD aj bu af a_ _ bT q) λdz bM ⟨x,bt,cC,b3,a,C,bx,fs,ex,dn,c,n,l,cG⟩=>?_) hs;subst ex;obtain rfl:dz=Value.ref a:=b3;exact Zjs cC dn c n l cj λbR dw=>⟨af,_,dw,cG⟩
theorem Zox{pl:Sem Bool}{m:Str}{dA:Pos}{args:List Expr}{aj:List (Addr×Obj)}{s:Shared}{af:St}{H:Hp}{Q:Value->Shared->Prop}{cB:TE}(bK:PE X e cB)(I:Inv X aj af H s)
  (h:cB af H λx a_=>∃a C bx fs g,x= .ref a/\a_ a=some (.ins C bx fs)/\Cls X.K C/\Ze1 X.K C m g/\fs.lookup m=none/\
   ∀bu,Inv X aj af a_ bu->wpAny (model X.prog X.w) X.A (callWith pos (.ref g) [.ref a] (backTo pos (starEach args X.env)) (backToKw pos (keywordEach [] X.env))) Q X.xe bu)
  (bX:eval (.Call (.Attribute e m dA) args [] pos) X.env=(do
   let dz<-eval e X.env
   standAt dA.atName
   let(f,first)<-holding [dz] (getMethod dz m pl)
   callWith pos f first (backTo pos (starEach args X.env)) (backToKw pos (keywordEach [] X.env)))):
  wpAny (model X.prog X.w) X.A (eval (.Call (.Attribute e m dA) args [] pos) X.env) Q X.xe s:=by
 refine methodCall_KW (pl:=pl) (thn (bK aj s af H _ I h) λu bu ⟨x,a_,bT,b3,a,C,bx,fs,g,ex,dn,c,k,l,q⟩=>?_) bX;subst ex;obtain rfl:u=Value.ref a:=b3;exact ZbE bT dn c k l (q bu bT)
end
section
variable {X:Cx}{aj:List (Addr×Obj)}{af:St}{H:Hp}{s:Shared}{A:Around}{E:Value->Shared->Prop}{Q:Value->Shared->Prop}{c:Value}{b:Bool}
inductive WN(K:Frag)(H:Hp):V->Value->Prop where
 |non:WN K H .non (.type "NoneType")
 |bl (x:Bool):WN K H (.bl x) (.type "bool")
 |int (i:Int):WN K H (.int i) (.type "int")
 |str (x:Str):WN K H (.str x) (.type "str")
 |flt (x:UInt64):WN K H (.flt x) (.type "float")
 |lst {a:Addr} {xs:List V} (e:H a=some (.lst xs)):WN K H (.ref a) (.type "list")
 |frz {a:Addr} {o:Obj} {xs:List V} (e:H a=some (.frz o (.lst xs))):WN K H (.ref a) (.type "list")
 |tup {a:Addr} {xs:List V} (e:H a=some (.tup xs)):WN K H (.ref a) (.type "tuple")
 |dK {a:Addr} {kvs:List (Key×V)} (e:H a=some (.dK kvs)):WN K H (.ref a) (.type "dict")
 |dT {a:Addr} {kvs:List (List Key×V)} (e:H a=some (.dT kvs)):WN K H (.ref a) (.type "dict")
 |ins {a C bx:Addr} {fs:List (Str×V)} (e:H a=some (.ins C bx fs)) (cg:Cls K C) (bD:findIn K (.ref C) "__class__" =some (some (.builtin "object.__class__")))
   (bH:PySem.W.specialIn K (.builtin "object.__class__") "__get__" =some (some (.builtin "getset_descriptor.__get__"))) (eZ:PySem.W.takesIn K (.builtin "object.__class__")=some true)
   (bz:mroIn K C (.type "object")=some true):WN K H (.ref a) (.ref C)
theorem Zka{x:V}{u t:Value}(I:Inv X aj af H s)(b3:cL x u)(ty:WN X.K H x t)(e:kitOne X.K t c=some b)(h:∀b1,Q (.bool b) {s with toks:=b1}):
  wpAny (model X.prog X.w) A (call (.builtin "isinstance") [u,c]) Q E s:=by
 cases ty with
 |non=>cases (show u=Value.none from b3);exact kia_one PySem.W.kitx_none I.kIn True.intro e (λz=>nomatch z) h
 |bl y=>cases (show u=Value.bool y from b3);exact kia_one PySem.W.kitx_bool I.kIn True.intro e (λz=>nomatch z) h
 |int i=>obtain⟨t,q⟩:=(show ∃t,u=Value.int i t from b3);cases q;exact kia_one PySem.W.kitx_int I.kIn True.intro e (λz=>nomatch z) h
 |str y=>obtain⟨t,q⟩:=(show ∃t,u=Value.str y t from b3);cases q;exact kia_one PySem.W.kitx_str I.kIn True.intro e (λz=>nomatch z) h
 |flt y=>obtain⟨t,q⟩:=(show ∃t,u=Value.float y t from b3);cases q;exact kia_one PySem.W.kitx_float I.kIn True.intro e (λz=>nomatch z) h
 | @lst a xs dn=>
  cases (show u=Value.ref a from b3);obtain⟨_,_,n,_,ak⟩:=(show Z5 X.prog X.w H s.heap a (.lst xs) from I.hok a _ dn);exact kia_one kitx_list I.kIn ⟨_,ak,rfl⟩ e (λz=>nomatch z) h
 | @frz a cZ xs dn=>
  cases (show u=Value.ref a from b3);obtain⟨_,_,_,n,_,ak⟩:=(show Z5 X.prog X.w H s.heap a (.frz cZ (.lst xs)) from I.hok a _ dn);exact kia_one kitx_list I.kIn ⟨_,ak,rfl⟩ e (λz=>nomatch z) h
 | @tup a xs dn=>
  cases (show u=Value.ref a from b3);obtain⟨_,_,_,p⟩:=(show Z5 X.prog X.w H s.heap a (.tup xs) from I.hok a _ dn);obtain⟨o,ak,a',_⟩:=p;exact kia_one PySem.W.kitx_tuple I.kIn ⟨o,ak,a'⟩ e (λz=>nomatch z) h
 | @dK a kvs dn=>
  cases (show u=Value.ref a from b3);obtain⟨_,_,vs,_,p⟩:=(show Z5 X.prog X.w H s.heap a (.dK kvs) from I.hok a _ dn);obtain⟨o,bC,ep,ak,a',_⟩:=p;exact kia_one kitx_dict I.kIn ⟨o,ak,a'.1⟩ e (λz=>nomatch z) h
 | @dT a kvs dn=>
  cases (show u=Value.ref a from b3);obtain⟨_,_,xs,_,o,bC,ep,ak,a',_⟩:=(show Z5 X.prog X.w H s.heap a (.dT kvs) from I.hok a _ dn);exact kia_one kitx_dict I.kIn ⟨o,ak,a'.1⟩ e (λz=>nomatch z) h
 | @ins a C bx fs dn cg bD bH eZ bz=>
  cases (show u=Value.ref a from b3);obtain⟨ed,O,_⟩:=Zc4 I.hok dn;obtain⟨ef,J,_⟩:=O.look;exact kia_one (PySem.W.kitx_own (cg.get _) cg.hd bD bH eZ bz) I.kIn J e (λz=>nomatch z) h
end
structure eH(k:Nat)(A:Around):Prop where
 hd:A.handled=none
 dp:A.depth+3*k+5<recursionLimit
 un:A.units+16*k+200<cLine
theorem eH.mono{j k:Nat}{A:Around}(r:eH k A)(h:j<=k):eH j A:=⟨r.hd,by have:=r.dp;omega,by have:=r.un;omega⟩
theorem eH.deeper{k:Nat}{A:Around}(r:eH (k+1) A)(env:Env):eH k (A.deeper env):=
 ⟨r.hd,by have:=r.dp;show A.depth+1+3*k+5<_;omega,by have:=r.un;show A.units+3+16*k+200<_;omega⟩
theorem Zjk{A:Around}{C:Addr}{us:List Value}{kw:List (Str×Value)}:(A.under (.builtin "type.__call__" ⟨.ref C::us,kw⟩)).depth=A.depth+1:=by
 first|rfl|simp[Around.under,Code.weight,Code.isCreation,Code.isGuard,Code.isCaller,Code.frames,Code.isFrame,guardIds]
theorem Zi3{A:Around}{C:Addr}{us:List Value}{kw:List (Str×Value)}:(A.under (.builtin "type.__call__" ⟨.ref C::us,kw⟩)).units=A.units+1:=by
 first|rfl|simp[Around.under,Code.cUnits,Code.frames,Code.isFrame]
theorem eH.make{k:Nat}{A:Around}(r:eH (k+1) A)(C:Addr)(us:List Value)(kw:List (Str×Value)):eH k (A.under (.builtin "type.__call__" ⟨.ref C::us,kw⟩)):=
 ⟨r.hd,by have:=r.dp;rw[Zjk];omega,by have:=r.un;rw[Zi3];omega⟩
theorem eH.depth{k:Nat}{A:Around}(r:eH k A):A.depth<recursionLimit:=by have:=r.dp;omega
theorem eH.units{k:Nat}{A:Around}(r:eH k A):A.units+64<cLine:=by have:=r.un;omega
def tNil:TA:=λ_ H Q=>Q [] H
def ze (b9:TE) (bV:TA):TA:=λaf H Q=>b9 af H λx a_=>bV af a_ λxs bt=>Q (x::xs) bt
section
variable {X:Cx}{e:Expr}{bC:List Expr}{cB:TE}{t:TA}{pos:Pos}
theorem bA:PA X [] tNil:=λ_ _ _ _ H Q I h=>Calls.spliced_nil ⟨[],H,I,.nil,h⟩
theorem bq(bD:PE X e cB)(ap:PA X bC t)(hs:starEach (e::bC) X.env=(false,eval e X.env)::starEach bC X.env:=by rfl):PA X (e::bC) (ze cB t):=by
 intro pos aj s af H Q I h;rw[hs];show wpAny _ _ (spliced ((false,eval e X.env)::backTo pos (starEach bC X.env))) _ _ s;refine Calls.spliced_cons (thn (bD aj s af H _ I h) λu bu ⟨x,a_,bT,cq,ce⟩=>?_);exact thn (ap pos aj bu af a_ _ bT ce) λus bM ⟨xs,bt,cC,cN,cG⟩=>⟨x::xs,bt,cC,.cons cq cN,cG⟩
def zf (t:TA):TE:=λaf H Q=>t af H λxs a_=>xs.length<=sizeLine/\∀p,a_ p=none->Q (.ref p) (upd a_ p (.tup xs))
def uJ (t:TA):TE:=λaf H Q=>t af H λxs a_=>xs.length<=sizeLine/\∀p,a_ p=none->Q (.ref p) (upd a_ p (.lst xs))
theorem hR{x1}(h:PA X bC t):PE X (.Tuple bC x1 pos) (zf t):=by
 intro aj s af H Q I cr;refine wpAny_Tuple_spliced (thn (h pos aj s af H _ I cr) λus bu ⟨xs,a_,bT,r,z,q⟩=>⟨by rw[<-r.length];exact z,?_⟩);have bN:a_ bu.heap.objs.size=none:=bT.hok.fresh (qab _);refine⟨.ref bu.heap.objs.size,upd a_ bu.heap.objs.size (.tup xs),bT.laid (t':=bu.toks) (λb u e=>Heap.get?_push_of_some _ e) (qab _) ?_,rfl,q _ bN⟩;exact⟨z,us,r,⟨_,Heap.get?_push_size _ rfl,rfl,_,rfl⟩⟩
theorem gX(h:PA X bC t):PE X (.List bC pos) (uJ t):=by
 intro aj s af H Q I cr;refine wpAny_List_spliced (thn (h pos aj s af H _ I cr) λus bu ⟨xs,a_,bT,r,z,q⟩=>⟨by rw[<-r.length];exact z,?_⟩);have bN:a_ bu.heap.objs.size=none:=bT.hok.fresh (qab _);refine⟨.ref bu.heap.objs.size,upd a_ bu.heap.objs.size (.lst xs),bT.laid (t':=bu.toks) (λb u e=>Heap.get?_push_of_some _ e) (qab _) ?_,rfl,q _ bN⟩;exact⟨z,us,0,r,Heap.get?_push_size _ rfl⟩
end
noncomputable abbrev Sp:=List V->Hp->VK->XK->Prop
noncomputable abbrev CXT:=List Env->Hp->Shared->XK->Value->Shared->Prop
structure ZdV(P:Program)(w:World)(K:Frag)(mg:Str->Option Value)(base:Heap)(A:Around)(outer:List Env)(s:Shared)(H:Hp):Prop where
 frames:A.frames=some outer
 mod:Mod K mg base
 bs:∀b o,base.get? b=some o->s.heap.get? b=some o/\H b=none
 bsz:base.objs.size<=s.heap.objs.size
 funs:s.heap.FunFrames base outer
 frf:∀b∈frs outer,H b=none
 hok:HOk P w H s.heap
 bare:AllBare s.gens
def CE(outer:List Env)(P:Program)(w:World)(H:Hp)(s:Shared)(Q:VK)(u:Value)(s':Shared):Prop:=
 ∃v ae,s'.os=s.os/\AllBare s'.gens/\Un (frs outer) [] H ae s.heap s'.heap/\HOk P w ae s'.heap/\cL v u/\Q v ae
def CR(CX:CXT)(outer:List Env)(P:Program)(w:World)(H:Hp)(s:Shared)(Q:VK)(E:XK)(r:Result)(s':Shared):Prop:=
 match r with
 | .ok (.ret u)=>CE outer P w H s Q u s'
 | .ok _=>False
 | .error e=>CX outer H s E e s'
structure Wc(P:Program)(w:World)(K:Frag)(mg:Str->Option Value)(base:Heap)(CX:CXT)(k:Nat)(f:Addr)(fd:FuncData)(b_:List Str)(sp:Sp):Prop where
 len:∀vs H Q E,sp vs H Q E->vs.length=b_.length
 run:∀(A:Around)(outer:List Env)(s:Shared)(H:Hp)(args:Args)(us:List Value)(vs:List V)(Q:VK)(E:XK),eH k A->ZdV P w K mg base A outer s H->BindsTo s fd args (b_.zip us)->cR vs us->sp vs H Q E->
  codeAny (model P w) A (.call (.ref f) args) (CR CX outer P w H s Q E) s
theorem Wc.mono{P:Program}{w:World}{K:Frag}{mg:Str->Option Value}{base:Heap}{CX:CXT}{j k:Nat}{f:Addr}{fd:FuncData}{b_:List Str}{sp:Sp}(F:Wc P w K mg base CX j f fd b_ sp)(h:j<=k):
  Wc P w K mg base CX k f fd b_ sp:=⟨F.len,λA outer s H args us vs Q E ap=>F.run A outer s H args us vs Q E (ap.mono h)⟩
theorem ZdV.make{P:Program}{w:World}{K:Frag}{mg:Str->Option Value}{base:Heap}{A:Around}{outer:List Env}{s:Shared}{H:Hp}(e:ZdV P w K mg base A outer s H)(C:Addr)(us:List Value)(kw:List (Str×Value)):
  ZdV P w K mg base (A.under (.builtin "type.__call__" ⟨.ref C::us,kw⟩)) outer s H:=⟨by first|exact e.frames|(simpa[Around.under,Code.envs,Code.isFrame,pushEnvs] using e.frames),e.mod,e.bs,e.bsz,e.funs,e.frf,e.hok,e.bare⟩
section
variable {X:Cx}{aj:List (Addr×Obj)}{af:St}{H:Hp}{s s':Shared}
theorem Inv.env0(I:Inv X aj af H s):ZdV X.prog X.w X.K X.mg X.base X.A X.stack s H:=
 ⟨I.ok.frames,I.ok.mod,I.bs,qaj I.ok.bsz I.sz,I.stack,I.stkFree,I.hok,I.bare⟩
theorem Inv.after{Q:VK}{u:Value}(I:Inv X aj af H s)(h:CE X.stack X.prog X.w H s Q u s'):EP X aj af Q u s':=by
 obtain⟨v,ae,os,bare,un,hok,r,q⟩:=h;obtain⟨b4,g,d,t,uK⟩:=s';obtain rfl:uK=s.os:=os;exact⟨v,ae,I.call (h':=b4) (g':=g) (d':=d) (t':=t) (ch:=[]) un hok bare (λb z=>absurd z (by simp)),r,q⟩
end
def uL (sp:Sp) (er:List V) (E:XK) (t:TA):TE:=λaf H Q=>t af H λvs a_=>sp (vs++er) a_ Q E
def p1 (C:Addr) (m:Str) (sp:Sp) (er:List V) (E:XK) (b9:TE) (t:TA):TE:=λaf H Q=>b9 af H λx a_=>∃a bx fs,x= .ref a/\a_ a=some (.ins C bx fs)/\fs.lookup m=none/\
 t af a_ λvs bt=>sp (x::(vs++er)) bt Q E
def p2 (C:Addr) (sp:Sp) (er:List V) (E:XK) (t:TA):TE:=λaf H Q=>t af H λvs a_=>∀x bx,a_ x=none->a_ bx=none->bx≠x->
 sp (.ref x::(vs++er)) (upd (upd a_ bx (.own x)) x (.ins C bx [])) (λv bt=>v= .non/\Q (.ref x) bt) E
def W6(K:Frag)(fd:FuncData)(b_:List Str)(ck:List Value):Prop:=
 ∀(s:Shared)(us:List Value),K.In s.heap->(us++ck).length=b_.length->BindsTo s fd ⟨us,[]⟩ (b_.zip (us++ck))
theorem W6.all{K:Frag}{fd:FuncData}{b_:List Str}(h:∀us:List Value,us.length=b_.length->bindArgs fd ⟨us,[]⟩=pure (b_.zip us)):W6 K fd b_ []:=λs us _ ag=>by
 rw[qcd] at ag|-;exact .of_eq (h us ag)
def WI(CX:CXT)(X:Cx)(E:XK):Prop:=∀(aj:List (Addr×Obj))(af:St)(H:Hp)(s:Shared)(e:Value)(s':Shared),Inv X aj af H s->CX X.stack H s E e s'->X.xe e s'
section
variable {X:Cx}{CX:CXT}{k:Nat}{f C:Addr}{fd:FuncData}{b_:List Str}{sp:Sp}{er:List V}{ck:List Value}{E:XK}{x m:Str}{p pos dA:Pos}{e o:Expr}{bC:List Expr}{b9:TE}{t:TA}
theorem uM{aj:List (Addr×Obj)}{af:St}{H:Hp}{s:Shared}{Q:VK}{us:List Value}{vs:List V}(F:Wc X.prog X.w X.K X.mg X.base CX k f fd b_ sp)(ap:eH k X.A)(ai:W6 X.K fd b_ ck)(hd:cR er ck)(bp:WI CX X E)
  (I:Inv X aj af H s) (r:cR vs us) (h:sp (vs++er) H Q E):wpAny (model X.prog X.w) X.A (call (.ref f) us) (EP X aj af Q) X.xe s:=by
 have cN:cR (vs++er) (us++ck):=r.append hd;have ag:(us++ck).length=b_.length:=by rw[<-cN.length];exact F.len _ _ _ _ h
 refine wpAny_call (codeAny_mono (F.run X.A X.stack s H ⟨us,[]⟩ (us++ck) (vs++er) Q E ap I.env0 (ai s us I.kIn ag) cN h) λr s' cr=>?_);cases r with
 |error e=>exact bp aj af H s e s' I cr
 |ok fK=>
  cases fK with
  |ret u=>exact I.after cr
  |next=>exact False.elim cr
  |brk=>exact False.elim cr
  |cont=>exact False.elim cr
theorem ZmS(F:Wc X.prog X.w X.K X.mg X.base CX k f fd b_ sp)(ap:eH k X.A)(bG:Gl X x)(bz:X.mg x=some (.ref f))(br:keepIn X.K (.ref f)=true)(ai:W6 X.K fd b_ ck)(hd:cR er ck)(bp:WI CX X E)
  (bD:PA X (e::bC) t) (fV:(x==("__debug__" :Str))=false:=by decide) (bK:starEach (e::bC) X.env=(false,eval e X.env)::starEach bC X.env:=by rfl) (eT:(backTo pos (starEach bC X.env)).any (·.1)=false:=by rfl):
  PE X (.Call (.Name x p) (e::bC) [] pos) (uL sp er E t):=by
 intro aj s af H Q I h;refine wpAny_Call_Name_kw (mX I bG bz ?_ fV);refine callWith_K (h₀:=X.base) I.ok.mod.kin br (thn (bD pos aj s af H _ I h) λus bu ⟨vs,a_,bT,r,q⟩=>⟨bT.kIn,?_⟩) bK eT;exact uM F ap ai hd bp bT r q
theorem zg{pl:Sem Bool}(bK:PE X o b9)(c:Cls X.K C)(bz:Ze1 X.K C m f)(F:Wc X.prog X.w X.K X.mg X.base CX k f fd b_ sp)(ap:eH k X.A)(ai:W6 X.K fd b_ ck)(hd:cR er ck)(bp:WI CX X E)(bD:PA X (e::bC) t)
  (eN:starEach (e::bC) X.env=(false,eval e X.env)::starEach bC X.env:=by rfl) (eT:(backTo pos (starEach bC X.env)).any (·.1)=false:=by rfl)
  (bX:eval (.Call (.Attribute o m dA) (e::bC) [] pos) X.env=(do
   let dz<-eval o X.env
   standAt dA.atName
   let(f,first)<-holding [dz] (getMethod dz m pl)
   callWith pos f first (backTo pos (starEach (e::bC) X.env)) (backToKw pos (keywordEach [] X.env))):=by rfl):
  PE X (.Call (.Attribute o m dA) (e::bC) [] pos) (p1 C m sp er E b9 t):=by
 intro aj s af H Q I h;refine methodCall_KW (pl:=pl) (thn (bK aj s af H _ I h) λu bu ⟨x,a_,bT,b3,a,bx,fs,ex,dn,l,q⟩=>?_) bX;subst ex;obtain rfl:u=Value.ref a:=b3;refine ZbE bT dn c bz l ?_;refine callWith_K (first:=[.ref a]) (h₀:=X.base) I.ok.mod.kin bz.kp (thn (bD pos aj bu af a_ _ bT q) λus bM ⟨vs,bt,cC,r,cG⟩=>⟨cC.kIn,?_⟩) eN eT;exact uM (us:= .ref a::us) (vs:= .ref a::vs) F ap ai hd bp cC (.cons rfl r) cG
theorem ZkU{pl:Sem Bool}(bK:PE X o b9)(c:Cls X.K C)(bz:Ze1 X.K C m f)(F:Wc X.prog X.w X.K X.mg X.base CX k f fd b_ sp)(ap:eH k X.A)(ai:W6 X.K fd b_ ck)(hd:cR er ck)(bp:WI CX X E)
  (bX:eval (.Call (.Attribute o m dA) [] [] pos) X.env=(do
   let dz<-eval o X.env
   standAt dA.atName
   let(f,first)<-holding [dz] (getMethod dz m pl)
   callWith pos f first (backTo pos (starEach [] X.env)) (backToKw pos (keywordEach [] X.env))):=by rfl):
  PE X (.Call (.Attribute o m dA) [] [] pos) (p1 C m sp er E b9 tNil):=by
 intro aj s af H Q I h;refine methodCall_KW (pl:=pl) (thn (bK aj s af H _ I h) λu bu ⟨x,a_,bT,b3,a,bx,fs,ex,dn,l,q⟩=>?_) bX;subst ex;obtain rfl:u=Value.ref a:=b3;refine ZbE bT dn c bz l ?_;exact callWith_K0 (first:=[.ref a]) bT.kIn bz.kp (uM (us:=[.ref a]) (vs:=[.ref a]) F ap ai hd bp bT (.cons rfl .nil) q)
structure Mk(K:Frag)(C f:Addr):Prop where
 makes:makesIn K C=true
 init:findIn K (.ref C) "__init__" =some (some (.ref f))
 fn:isFn K (.ref f)=true
 kp:keepIn K (.ref C)=true
theorem zh{aj:List (Addr×Obj)}{af:St}{H:Hp}{s:Shared}{Q:VK}{us:List Value}{vs:List V}(M:Mk X.K C f)(F:Wc X.prog X.w X.K X.mg X.base CX k f fd b_ sp)(ap:eH (k+1) X.A)(ai:W6 X.K fd b_ ck)(hd:cR er ck)
  (bp:WI CX X E) (I:Inv X aj af H s) (r:cR vs us)
  (h:∀x bx,H x=none->H bx=none->bx≠x->sp (.ref x::(vs++er)) (upd (upd H bx (.own x)) x (.ins C bx [])) (λv bt=>v= .non/\Q (.ref x) bt) E):
  wpAny (model X.prog X.w) X.A (call (.ref C) us) (EP X aj af Q) X.xe s:=by
 have cr:=h (s.heap.objs.size+1) s.heap.objs.size (I.hok.fresh (qb3 _)) (I.hok.fresh (qab _)) (qap (qbk _));have cC:=Inv.made (C:=C) I;have cN:cR (V.ref (s.heap.objs.size+1)::(vs++er)) (Value.ref (s.heap.objs.size+1)::(us++ck)):= .cons rfl (r.append hd);have ag:(Value.ref (s.heap.objs.size+1)::us++ck).length=b_.length:=by
  have e:=cN.length;rw[F.len _ _ _ _ cr] at e;exact e.symm
 refine wpAny_call (zd (f:=f) I.kIn M.makes M.init (beq_iff_eq.mp M.fn) (codeAny_mono (F.run _ X.stack _ _ ⟨Value.ref (s.heap.objs.size+1)::us,[]⟩ (Value.ref (s.heap.objs.size+1)::(us++ck)) _ _ E (ap.make C us [])
  (cC.env0.make C us []) (ai _ (Value.ref (s.heap.objs.size+1)::us) cC.kIn ag) cN cr) λr s' jA=>?_))
 cases r with
 |error e=>exact bp aj af _ _ e s' cC jA
 |ok fK=>
  cases fK with
  |ret u=>
   obtain⟨v,ae,dw,c',c4,e7⟩:=cC.after jA;subst c4;exact⟨c',⟨V.ref (s.heap.objs.size+1),ae,dw,rfl,e7⟩⟩
  |next=>exact False.elim jA
  |brk=>exact False.elim jA
  |cont=>exact False.elim jA
theorem Zmy(M:Mk X.K C f)(F:Wc X.prog X.w X.K X.mg X.base CX k f fd b_ sp)(ap:eH (k+1) X.A)(bG:Gl X x)(bz:X.mg x=some (.ref C))(ai:W6 X.K fd b_ ck)(hd:cR er ck)(bp:WI CX X E)
  (bD:PA X (e::bC) t) (fV:(x==("__debug__" :Str))=false:=by decide) (bK:starEach (e::bC) X.env=(false,eval e X.env)::starEach bC X.env:=by rfl) (eT:(backTo pos (starEach bC X.env)).any (·.1)=false:=by rfl):
  PE X (.Call (.Name x p) (e::bC) [] pos) (p2 C sp er E t):=by
 intro aj s af H Q I h;refine wpAny_Call_Name_kw (mX I bG bz ?_ fV);refine callWith_K (h₀:=X.base) I.ok.mod.kin M.kp (thn (bD pos aj s af H _ I h) λus bu ⟨vs,a_,bT,r,q⟩=>⟨bT.kIn,?_⟩) bK eT;exact zh M F ap ai hd bp bT r q
theorem ZlU(M:Mk X.K C f)(F:Wc X.prog X.w X.K X.mg X.base CX k f fd b_ sp)(ap:eH (k+1) X.A)(bG:Gl X x)(bz:X.mg x=some (.ref C))(ai:W6 X.K fd b_ ck)(hd:cR er ck)(bp:WI CX X E)
  (fV:(x==("__debug__" :Str))=false:=by decide):PE X (.Call (.Name x p) [] [] pos) (p2 C sp er E tNil):=by
 intro aj s af H Q I h;refine wpAny_Call_Name_kw (mX I bG bz ?_ fV);exact callWith_K0 I.kIn M.kp (zh (us:=[]) M F ap ai hd bp I .nil h)
end
structure Zt(N P:List Str)(ca:Scope):Prop where
 kind:ca.kind= .function
 co:ca.isCoroutine=false
 gen:ca.isGenerator=false
 nd:N.Nodup
 pre:N.take P.length=P
 par:∀x∈P,ca.names.lookup x=some .local\/ca.names.lookup x=some .cell
 nofree:∀y∈ca.names,y.2≠ .free
theorem Zf1{kindOf:Str->Option NameKind}{x:Str}:∀{binds:List (Str×Value)}{m:Str->Option Value},(∀v,(x,v)∉binds)->bindL kindOf binds m x=m x
 | [],_,_=>rfl
 |(n,v)::r,m,h=>by
  unfold bindL;rw[Zf1 λw hw=>h w (qax _ hw)]
  split
  .have:x≠n:=by rintro rfl;exact h v qbu
   simp[this]
  .rfl
theorem ZfD{kindOf:Str->Option NameKind}{x:Str}:∀{binds:List (Str×Value)}{m:Str->Option Value},(∀v,(x,v)∉binds)->bindC kindOf binds m x=m x
 | [],_,_=>rfl
 |(n,v)::r,m,h=>by
  unfold bindC;rw[ZfD λw hw=>h w (qax _ hw)]
  split
  .rfl
  .have:x≠n:=by rintro rfl;exact h v qbu
   simp[this]
theorem zi{kindOf:Str->Option NameKind}{x:Str}{v:Value}:∀{P:List Str}{vs:List Value}{i:Nat}{m:Str->Option Value},P.Nodup->P[i]? =some x->vs[i]? =some v->kindOf x=some .local->
  bindL kindOf (P.zip vs) m x=some v
 | [],_,_,_,_,h,_,_=>by simp at h
 |_::_,[],_,_,_,_,h,_=>by simp at h
 |p::P,w::vs,0,m,nd,ak,a',br=>by
  simp at ak a';subst ak;subst a';show bindL kindOf ((p,w)::P.zip vs) m p=_;unfold bindL;rw[Zf1 λv bS=>(qce.mp nd).1 (List.of_mem_zip bS).1,if_pos br];simp
 |p::P,w::vs,i+1,m,nd,ak,a',br=>by
  show bindL kindOf ((p,w)::P.zip vs) m x=_;unfold bindL;exact zi (i:=i) (qce.mp nd).2 (by simpa using ak) (by simpa using a') br
theorem ZfY{kindOf:Str->Option NameKind}{x:Str}{v:Value}:∀{P:List Str}{vs:List Value}{i:Nat}{m:Str->Option Value},P.Nodup->P[i]? =some x->vs[i]? =some v->kindOf x≠some .local->
  bindC kindOf (P.zip vs) m x=some v
 | [],_,_,_,_,h,_,_=>by simp at h
 |_::_,[],_,_,_,_,h,_=>by simp at h
 |p::P,w::vs,0,m,nd,ak,a',br=>by
  simp at ak a';subst ak;subst a';show bindC kindOf ((p,w)::P.zip vs) m p=_;unfold bindC;rw[ZfD λv bS=>(qce.mp nd).1 (List.of_mem_zip bS).1,if_neg br];simp
 |p::P,w::vs,i+1,m,nd,ak,a',br=>by
  show bindC kindOf ((p,w)::P.zip vs) m x=_;unfold bindC;exact ZfY (i:=i) (qce.mp nd).2 (by simpa using ak) (by simpa using a') br
noncomputable def start (N:List Str) (vs:List V):St:=vs.map some++List.replicate (N.length-vs.length) none
noncomputable def ZL (CX:CXT) (P:Program) (w:World) (K:Frag) (mg:Str->Option Value) (base:Heap) (N:List Str) (qual:Str) (scope:Scope) (f:Addr) (de:Value) (A:Around) (outer:List Env) (s:Shared) (H:Hp) (E:XK):Cx where
 prog:=P
 w:=w
 K:=K
 mg:=mg
 base:=base
 A:=A.deeper (envOfC qual scope s.heap.objs.size f de)
 N:=N
 s₀:=s
 H₀:=H
 env:=envOfC qual scope s.heap.objs.size f de
 outer:=outer
 stack:=envOfC qual scope s.heap.objs.size f de::outer
 ex:=[]
 calm:=true
 fn:=λ_=>true
 pn:=[]
 xe:=λe s'=>wpAny (model P w) (A.deeper (envOfC qual scope s.heap.objs.size f de)) (leaving (envOfC qual scope s.heap.objs.size f de) e) (λ_ m8=>CX outer H s E e m8) (λb' m8=>CX outer H s E b' m8) s'
theorem Zgt{ca:Scope}{n:Nat}{x:Str}(h:ca.names.lookup x=some .cell):∃c,(cellsFrom n ca.names []).lookup x=some c:=by
 have q:=cellsFrom_some ca.names n [] (.inl h);exact Option.isSome_iff_exists.mp q
theorem Zkt{CX:CXT}{P:Program}{w:World}{K:Frag}{mg:Str->Option Value}{base:Heap}{N b_:List Str}{qual:Str}{scope:Scope}{f:Addr}{de:Value}{A:Around}{outer:List Env}{s bu:Shared}{H:Hp}{E:XK}{us:List Value}{vs:List V}
  (S:Zt N b_ scope) (hd:A.handled=none) (ev:ZdV P w K mg base A outer s H) (ag:vs.length=b_.length) (r:cR vs us)
  (x:InCallC s s.heap.objs.size (bindL (envOfC qual scope s.heap.objs.size f de).kindOf (b_.zip us) λ_=>none) (cellsFrom (s.heap.objs.size+1) scope.names []) (bindC (envOfC qual scope s.heap.objs.size f de).kindOf (b_.zip us) λ_=>none) bu):
  Inv (ZL CX P w K mg base N qual scope f de A outer s H E) [] (start N vs) H bu:=by
 have eT:b_.length<=N.length:=by have:=congrArg List.length S.pre;rw[qaC] at this;omega
 obtain⟨ak,b1,rfl,br⟩:=x.done;have p3:∀b:Addr,b∉(ZL CX P w K mg base N qual scope f de A outer s H E).ex:=λb z=>absurd (show b∈([]:List Addr) from z) (by simp);refine⟨⟨ev.mod,S.kind,rfl,rfl,qab _,λy z c ak a'=>?_,λy bO=>?_,λy c _ h=>?_,λ_=>hd,Around.frames_deeper ev.frames,.inr ⟨rfl,rfl⟩,λb z=>absurd z (p3 b),ev.bs,ev.bsz,λb _ _=>p3 b,λb z=>absurd z (p3 b),ev.funs,ev.frf⟩,
  rfl,ev.bare,Un.kept br,⟨_,x.toInCall.ns,λi y v ak a' bL=>?_⟩,λy c h=>⟨_,x.cell y c h⟩,ev.hok.fresh (qab _),λy c h=>?_,λp bB=>absurd (show p∈([]:List (Addr×Obj)) from bB) (by simp),ev.hok.kept br,?_⟩
 .exact name_of_addr x.apart (qbK ak) (qbK a')
 .have bO:scope.names.lookup y=some .cell\/scope.names.lookup y=some .free:=bO;rcases bO with bO|bO
  .exact Zgt bO
  .exact absurd rfl (S.nofree _ (qbK bO))
 .exact qbt (x.above y c (qbK h))
 .have hi:i<vs.length:=by
   unfold start at a'
   by_cases hi:i<vs.length
   .exact hi
   .rw[qaS (by simpa using hi)] at a';rw[List.getElem?_replicate] at a'
    split at a'<;>cases a'
  have bD:vs[i]? =some v:=by
   unfold start at a';rw[qaK (by simpa using hi),qak] at a';cases e:vs[i]? with
   |none=>rw[e] at a';cases a'
   |some a=>rw[e] at a';cases a';rfl
  obtain⟨u,hu,c'⟩:=r.get bD;have bB:b_[i]? =some y:=by
   rw[<-S.pre,List.getElem?_take_of_lt (by omega)];exact ak
  have zj:b_.Nodup:=by rw[<-S.pre];exact S.nd.sublist (List.take_sublist _ _)
  refine⟨u,c',?_⟩;rcases S.par y (qav bB) with k|k
  .exact .inl ⟨k,zi zj bB hu k⟩
  .obtain⟨c,e⟩:=Zgt (n:=s.heap.objs.size+1) k;refine .inr ⟨.inl k,c,e,?_⟩;have q:=x.cell y c e;rw[ZfY zj bB hu (by show scope.names.lookup y≠_;rw[k];decide)] at q;exact q
 .exact ev.hok.fresh (qbt (x.above y c (qbK h)))
 .unfold start;show _=N.length;rw[qaA,GE,qbp];omega
theorem Zmc{CX:CXT}{P:Program}{w:World}{K:Frag}{mg:Str->Option Value}{base:Heap}{k:Nat}{f:Addr}{name qual:Str}{params:Arguments}{body:List Stmt}{scope:Scope}{r5 kV fh es cz ct ft:Value}{an ef:Option Addr}
  {gY:Array (Option Value)} {N b_:List Str} {sp:Sp} (lk:K.lookup f=some ⟨ft,ef,.func (fnOf name qual params body scope r5 kV fh es an cz ct),gY⟩) (i9:codeIn K cz qual=true) (S:Zt N b_ scope)
  (len:∀vs H Q E,sp vs H Q E->vs.length=b_.length)
  (p4:∀(A:Around)(outer:List Env)(s:Shared)(H:Hp)(vs:List V)(Q:VK)(E:XK),eH k (A.deeper (envOfC qual scope s.heap.objs.size f cz))->sp vs H Q E->
   ∃t,PSs (ZL CX P w K mg base N qual scope f cz A outer s H E) body t/\t {nx:=λ_ ae=>Q .non ae,rt:=Q} (start N vs) H):
  Wc P w K mg base CX (k+1) f (fnOf name qual params body scope r5 kV fh es an cz ct) b_ sp:=by
 refine⟨len,λA outer s H args us vs Q E ap ev ai r kB=>?_⟩;have ag:=len _ _ _ _ kB;have eO:K.In s.heap:=ev.mod.kin.keeps λb o e=>(ev.bs b o e).1;have GJ:s.heap.NoLimit:=ev.mod.nolimit.keeps λb o e=>(ev.bs b o e).1;have m9:∀y∈b_.zip us,scope.names.lookup y.1=some .local\/(scope.names.lookup y.1=some .cell/\((cellsFrom (s.heap.objs.size+1) scope.names []).lookup y.1).isSome=true):=λ⟨n,v⟩ bO=>by
  rcases S.par n (List.of_mem_zip bO).1 with q|q
  .exact .inl q
  .exact .inr ⟨q,cellsFrom_some _ _ _ (.inl q)⟩
 refine codeAny_call_function ap.depth (eO _ _ lk) rfl S.co S.gen rfl (PySem.W.codeRec_of eO i9) (ai _ _ _ _ ?_);refine wpAny_newFunctionEnv_cells S.kind m9 λenv bK bu x=>?_;subst bK;refine⟨GJ.keeps x.toInCall.keep,codeAny_func ?_⟩;obtain⟨t,bX,cr⟩:=p4 A outer s H vs Q E (ap.deeper _) kB;have I:Inv (ZL CX P w K mg base N qual scope f cz A outer s H E) [] (start N vs) H bu:=Zkt S ap.hd ev ag r x;refine wpAny_mono (bX [] bu (start N vs) H _ I cr) (λfK s' hs=>?_) λe s' hs=>hs;have eg:∀{bY:St}{ae:Hp}{v:V}{u:Value},Inv (ZL CX P w K mg base N qual scope f cz A outer s H E) [] bY ae s'->cL v u->Q v ae->CE outer P w H s Q u s':=
  λ{bY ae v u} J c' q=>⟨v,ae,J.os,J.bare,J.base,J.hok,c',q⟩
 cases fK with
 |ret u=>
  obtain⟨v,bY,ae,J,c',q⟩:=hs;exact eg J c' q
 |next=>
  obtain⟨bY,ae,J,q⟩:=hs;exact eg (v:=V.non) (u:=Value.none) J rfl q
 |brk=>
  obtain⟨_,_,_,q⟩:=hs;exact False.elim q
 |cont=>
  obtain⟨_,_,_,q⟩:=hs;exact False.elim q
section
variable {X:Cx}{x:Str}{p pos:Pos}{e:Expr}{bC:List Expr}{t:TA}{id T:String}{r:List V->Hp->VK->Prop}
def tCB (r:List V->Hp->VK->Prop) (t:TA):TE:=λaf H Q=>t af H λvs a_=>r vs a_ Q
theorem dt(bv:YW X (.builtin id) r)(bG:Gl X x)(bz:X.mg x=none)(bS:bootBuiltins x=some (.builtin id))(bD:PA X (e::bC) t)(bH:x≠"__name__" :=by decide)(fV:(x==("__debug__" :Str))=false:=by decide)
  (bK:starEach (e::bC) X.env=(false,eval e X.env)::starEach bC X.env:=by rfl) (eT:(backTo pos (starEach bC X.env)).any (·.1)=false:=by rfl):PE X (.Call (.Name x p) (e::bC) [] pos) (tCB r t):=by
 intro aj s af H Q I h;refine wpAny_Call_Name_kw (h8 I bG bz bS ?_ bH fV);exact qbD (thn (bD pos aj s af H _ I h) λus bu ⟨vs,a_,bT,cq,ce⟩=>bv aj bu af a_ vs us Q bT cq ce) bK eT
theorem i'(bv:YW X (.type T) r)(bG:Gl X x)(bz:X.mg x=none)(bS:bootBuiltins x=some (.type T))(bD:PA X (e::bC) t)(bH:x≠"__name__" :=by decide)(fV:(x==("__debug__" :Str))=false:=by decide)
  (bK:starEach (e::bC) X.env=(false,eval e X.env)::starEach bC X.env:=by rfl) (eT:(backTo pos (starEach bC X.env)).any (·.1)=false:=by rfl):PE X (.Call (.Name x p) (e::bC) [] pos) (tCB r t):=by
 intro aj s af H Q I h;refine wpAny_Call_Name_kw (h8 I bG bz bS ?_ bH fV);exact qaM (thn (bD pos aj s af H _ I h) λus bu ⟨vs,a_,bT,cq,ce⟩=>bv aj bu af a_ vs us Q bT cq ce) bK eT
end
end L2
namespace HT
open PySem PyProof.Rows
section
variable {prog:Program}{w:World}{A:Around}{E:Value->Shared->Prop}{s:Shared}
theorem ZmW{t b:Addr}{vs bF:List Value}{Q:Value->Shared->Prop}(bX:IsTup s.heap t vs.toArray)(ai:IsTup s.heap b bF.toArray)(bS:vs≠[])
  (ak:bF=[]->Q (.ref t) s) (a':bF≠[]->Q (.ref s.heap.objs.size) {s with heap:=s.heap.push {cls:= .type "tuple",data:= .seq (vs++bF).toArray}})
  (hsz:vs.length+bF.length<=sizeLine):wpAny (model prog w) A (binaryOp .Add (.ref t) (.ref b)) Q E s:=by
 obtain⟨⟨cls,dd,data,sl⟩,bJ,bv,n,hd⟩:=id bX;obtain⟨⟨R0,r6,data2,zk⟩,r7,j0,f9,gI⟩:=id ai;simp only at bv hd j0 gI;subst bv hd j0 gI;have e:vs.toArray++bF.toArray=(vs++bF).toArray:=by simp
 by_cases hw:bF=[]
 .exact concat_meets ⟨_,bJ,rfl⟩ ⟨_,r7,rfl⟩ noFill_tuple_add seq_tuple_add PySem.F.slot_tuple_add PySem.F.entry_tuple_add (PySem.F.args_tuple_add_2 _ _)
   (tuple_addW1 t b vs.toArray bF.toArray n f9 dd r6 sl zk (by simpa using bS) (by simp[hw])) ⟨bJ,r7,ak hw⟩
 .refine concat_meets ⟨_,bJ,rfl⟩ ⟨_,r7,rfl⟩ noFill_tuple_add seq_tuple_add PySem.F.slot_tuple_add PySem.F.entry_tuple_add (PySem.F.args_tuple_add_2 _ _)
   (tuple_addW2 t b vs.toArray bF.toArray n f9 dd r6 sl zk (by simpa using bS) (by simpa using hw) (by rw[qaf,qaf];exact hsz)) ⟨bJ,r7,?_⟩
  rw[e];exact a' hw
noncomputable def sIx (n d:Nat):Option Int->Nat
 |none=>d
 |some v=>if v<0 then(v+(n:Int)).toNat else min v.toNat n
theorem ZnD(n d:Nat)(hd:d<=n)(o:Option Int):sIx n d o<=n:=by
 cases o with
 |none=>exact hd
 |some v=>
  show(if v<0 then(v+(n:Int)).toNat else min v.toNat n)<=n
  by_cases bS:v<0
  .rw[if_pos bS];omega
  .rw[if_neg bS];exact Nat.min_le_right _ _
theorem Zis(v:Int)(n d:Nat):(if v<0 then max (v+(n:Int)) 0 else min v (n:Int))=((sIx n d (some v):Nat):Int):=by
 show(if v<0 then max (v+(n:Int)) 0 else min v (n:Int))=(((if v<0 then(v+(n:Int)).toNat else min v.toNat n):Nat):Int)
 by_cases bS:v<0
 .simp only[if_pos bS];omega
 .simp only[if_neg bS];omega
theorem ZjB(lo hi:Option Int)(n:Nat):Builtin.Slice.sliceAdjust lo hi 1 (n:Int)=(((sIx n 0 lo:Nat):Int),((sIx n n hi:Nat):Int)):=by
 have ak:¬((1:Int)<0):=by omega
 unfold Builtin.Slice.sliceAdjust;simp only[ak,if_false];refine Prod.ext ?_ ?_
 .cases lo with
  |none=>rfl
  |some v=>exact Zis v n 0
 .cases hi with
  |none=>rfl
  |some v=>exact Zis v n n
theorem ZiP(i j:Nat):Builtin.Slice.slicePlaces (i:Int) (j:Int) 1=j-i:=by
 unfold Builtin.Slice.slicePlaces;have ak:(1:Int) > 0:=by omega
 simp only[ak,if_true,Int.ediv_one]
 split<;>omega
theorem zl{v:Value}{o:Option Int}{Q:Option Int->Shared->Prop}(p:IsPart v o)(h:Q o s):wpAny (model prog w) A (Builtin.Slice.slicePartIndex v) Q E s:=by
 cases p with
 |none=>exact slicePart_none h
 |int i t=>exact slicePart_int h
theorem GK{sl:Addr}{fA gn:Value}{lo hi:Option Int}{n:Nat}{Q:Int×Int×Nat->Shared->Prop}(hs:s.heap.IsSliceOf sl fA gn .none)(pl:IsPart fA lo)(ib:IsPart gn hi)
  (h:Q (((sIx n 0 lo:Nat):Int),1,sIx n n hi-sIx n 0 lo) s):wpAny (model prog w) A (Builtin.Slice.sliceApplied (.ref sl) (pure (n:Int))) Q E s:=by
 obtain⟨os,p5,lq,jB⟩:=id hs;unfold Builtin.Slice.sliceApplied Builtin.Slice.sliceFields;refine wpAny_bind (wpAny_bind (wpAny_field p5 jB (x:=fA) rfl (wpAny_bind (wpAny_field p5 jB (x:=gn) rfl (wpAny_bind (wpAny_field p5 jB (x:= .none) rfl (wpAny_pure ?_)))))));refine wpAny_bind (slicePart_none ?_);show wpAny _ _ (if((1:Int)==0)=true then _ else _) _ _ s;rw[if_neg (by decide)];refine wpAny_bind (zl pl (wpAny_bind (zl ib (wpAny_bind (wpAny_pure ?_)))));show wpAny _ _ (match Builtin.Slice.sliceAdjust lo hi 1 (n:Int) with|(lo,hi)=>pure (lo,(1:Int),Builtin.Slice.slicePlaces lo hi 1)) _ _ s;rw[ZjB lo hi n];show wpAny _ _ (pure (((sIx n 0 lo:Nat):Int),(1:Int),Builtin.Slice.slicePlaces ((sIx n 0 lo:Nat):Int) ((sIx n n hi:Nat):Int) 1)) _ _ s;rw[ZiP];exact wpAny_pure h
theorem GL(xs:Array Value)(i k:Nat):((List.range k).filterMap λ(m:Nat)=>xs[((i:Int)+(m:Int)*1).toNat]?).toArray=((xs.toList.drop i).take k).toArray:=by
 have e:(λ(m:Nat)=>xs[((i:Int)+(m:Int)*1).toNat]?)=λm=>xs[i+m]? :=by
  funext m
  have:((i:Int)+(m:Int)*1).toNat=i+m:=by omega
  rw[this]
 rw[e];have:=pick_run xs i k;rw[List.filterMap_map] at this;have bP:((λx=>xs[x]?)∘λx=>i+x)=λm=>xs[i+m]? :=rfl;rw[bP] at this;rw[this]
theorem Zdf{t sl:Addr}{items:Array Value}{fA gn:Value}{lo hi:Option Int}{Q:Value->Shared->Prop}(bX:IsTup s.heap t items)(hs:s.heap.IsSliceOf sl fA gn .none)(pl:IsPart fA lo)(ib:IsPart gn hi)
  (hw:¬(sIx items.size 0 lo=0/\sIx items.size items.size hi=items.size))
  (h:Q (.ref s.heap.objs.size) {s with heap:=s.heap.push {cls:= .type "tuple",data:= .seq ((items.toList.drop (sIx items.size 0 lo)).take (sIx items.size items.size hi-sIx items.size 0 lo)).toArray}})
  (hsz:items.size<=sizeLine):wpAny (model prog w) A (getItem (.ref t) (.ref sl)) Q E s:=by
 have r8:sizeOk (.seq ((items.toList.drop (sIx items.size 0 lo)).take (sIx items.size items.size hi-sIx items.size 0 lo)).toArray):=by
  show((items.toList.drop (sIx items.size 0 lo)).take (sIx items.size items.size hi-sIx items.size 0 lo)).toArray.size<=sizeLine;rw[qaf,qaC,qbw,qaQ];omega
 have bw:sIx items.size items.size hi<=items.size:=ZnD _ _ (qab _) hi;obtain⟨os,p5,lq,jB⟩:=id hs;have GN:s.TypeIs (.ref sl) "slice" :=⟨os,p5,lq⟩;unfold getItem
 try with_reducible refine wpAny_holding ?_
 first|refine wpAny_bind (wpAny_pure ?_)|skip
 refine wpAny_bind (wpAny_sequenceKey bX.typeIs (by decide) ?_);refine wpAny_bind (wpAny_callSpecial?_slot (name:=Str.ofString "__getitem__") bX.typeIs qbR
  (wpAny_call_entry qbR bX.typeIs entry_tuple_getitem ?_ (args_tuple_getitem _ _)))
 show wpAny _ _ (Builtin.Tuple.tupleItemsOf (.ref t) >>= _) _ _ s;refine wpAny_bind (tupleItemsOf_ bX ?_);refine wpAny_bind (wpAny_typeOf GN ?_);rw[if_pos (by decide)];refine wpAny_bind (GK hs pl ib ?_);have ic:¬((((sIx items.size 0 lo:Nat):Int)==0&&(1:Int)==1&&(sIx items.size items.size hi-sIx items.size 0 lo)==items.size)=true):=by
  intro q;rw[qaU,qaU] at q;have ce:((sIx items.size 0 lo:Nat):Int)=0:=eq_of_beq q.1.1;have cG:sIx items.size items.size hi-sIx items.size 0 lo=items.size:=eq_of_beq q.2;exact hw ⟨by omega,by omega⟩
 show wpAny _ _ (if(((sIx items.size 0 lo:Nat):Int)==0&&(1:Int)==1&&(sIx items.size items.size hi-sIx items.size 0 lo)==items.size)=true then _ else _) _ _ s;rw[if_neg ic,GL]
 first
  |exact wpAny_bind (m:=Builtin.Tuple.tupleExact _) (wpAny_newObj_type (wpAny_pure ⟨_,rfl,wpAny_pure h⟩) r8)
  |exact wpAny_bind (m:=Builtin.Tuple.tupleExact _) (wpAny_newObj_type (wpAny_bind (wpAny_pure (wpAny_pure ⟨_,rfl,wpAny_pure h⟩))) r8)
  |exact wpAny_bind (wpAny_bind (m:=Builtin.Tuple.tupleExact _) (wpAny_newObj_type (wpAny_pure (wpAny_pure ⟨_,rfl,wpAny_pure h⟩)) r8))
  |exact wpAny_bind (wpAny_bind (m:=Builtin.Tuple.tupleExact _) (wpAny_newObj_type (wpAny_pure ⟨_,rfl,wpAny_pure h⟩) r8))
end
end HT
namespace L2
open PySem PySem.Spec PyProof.Rows
noncomputable abbrev TO:=St->Hp->(Option Int->Hp->Prop)->Prop
def PO(X:Cx)(e:Option Expr)(t:TO):Prop:=
 ∀(aj:List (Addr×Obj))(s:Shared)(af:St)(H:Hp)(Q:Option Int->Hp->Prop),Inv X aj af H s->t af H Q->
  wpAny (model X.prog X.w) X.A (evalPart e X.env) (λu s'=>∃o ae,Inv X aj af ae s'/\IsPart u o/\Q o ae) X.xe s
def tNoPart:TO:=λ_ H Q=>Q none H
def zm (t:TE):TO:=λaf H Q=>t af H λx a_=>∃i,x= .int i/\Q (some i) a_
theorem ow{ns:List Int}:∀{us:List Value},cR (ns.map V.int) us->IntsAre us ns:=by
 induction ns with
 |nil=>intro us r;rw[List.map_nil] at r;cases r;exact .nil
 |cons n ns bQ=>
  intro us r;rw[List.map_cons] at r;cases r with
  |cons cq cN=>
   obtain⟨t,e⟩:=cq;subst e;exact .cons n t (bQ cN)
section
variable {X:Cx}{e:Expr}{cB:TE}{lo hi:Option Expr}{dH hq:TO}{pos ie:Pos}
theorem uN:PO X none tNoPart:=by
 intro aj s af H Q I h;rw[evalPart_none];exact wpAny_pure ⟨none,H,I,.none,h⟩
theorem p6(h:PE X e cB):PO X (some e) (zm cB):=by
 intro aj s af H Q I hw;rw[evalPart_some];refine thn (h aj s af H _ I hw) λu bu ⟨x,a_,bT,cq,ce⟩=>?_;obtain⟨i,rfl,q⟩:=ce;obtain⟨t,rfl⟩:=cq;exact⟨some i,a_,bT,.int i t,q⟩
def SlR(X:Cx)(r:V->Option Int->Option Int->Hp->VK->Prop):Prop:=
 ∀(aj:List (Addr×Obj))(s:Shared)(af:St)(H:Hp)(x:V)(v fA gn:Value)(lo hi:Option Int)(sl:Addr)(Q:VK),Inv X aj af H s->cL x v->s.heap.IsSliceOf sl fA gn .none->IsPart fA lo->IsPart gn hi->r x lo hi H Q->
  ∃T id,typeLookup (.type T) "__getitem__" =pure (some (.builtin id))/\s.TypeIs v T/\wpAny (model X.prog X.w) X.A (getItem v (.ref sl)) (EP X aj af Q) X.xe s
theorem SlR.or{r c7:V->Option Int->Option Int->Hp->VK->Prop}(h:SlR X r)(h':SlR X c7):SlR X (λx lo hi H Q=>r x lo hi H Q\/c7 x lo hi H Q):=by
 intro aj s af H x v fA gn lo hi sl Q I b3 hs pl ib q;rcases q with q|q
 .exact h aj s af H x v fA gn lo hi sl Q I b3 hs pl ib q
 .exact h' aj s af H x v fA gn lo hi sl Q I b3 hs pl ib q
def tSl (r:V->Option Int->Option Int->Hp->VK->Prop) (cB:TE) (dH hq:TO):TE:=λaf H Q=>cB af H λx a_=>dH af a_ λl bt=>hq af bt λu b7=>r x l u b7 Q
theorem r9{r:V->Option Int->Option Int->Hp->VK->Prop}(ap:SlR X r)(bK:PE X e cB)(ag:PO X lo dH)(hu:PO X hi hq):PE X (.Subscript e (.Slice lo hi none ie) pos) (tSl r cB dH hq):=by
 intro aj s af H Q I h;refine Subscript_ (thn (bK aj s af H _ I h) λv bu ⟨x,a_,bT,cq,ce⟩=>?_);refine wpAny_Slice (thn (ag aj bu af a_ _ bT ce) λfA bM ⟨l,bt,cC,pl,cG⟩=>thn (hu aj bM af bt _ cC cG) λgn bR ⟨u,b7,dw,ib,e7⟩=>?_);rw[evalPart_none];refine wpAny_pure ?_;have jV:Inv X aj af b7 {bR with heap:=bR.heap.push {cls:= .type "slice",data:= .fields #[fA,gn,.none]}}:=dw.kept (t':=bR.toks) λb cZ q=>Heap.get?_push_of_some _ q;obtain⟨T,id,c1,bX,bG⟩:=ap aj {bR with heap:=bR.heap.push {cls:= .type "slice",data:= .fields #[fA,gn,.none]}} af b7 x v fA gn l u bR.heap.objs.size Q jV cq (Heap.IsSliceOf.new ..) pl ib e7;show wpAny (model X.prog X.w) X.A (subscriptTail e (.Slice lo hi none ie) v (.ref bR.heap.objs.size)) (EP X aj af Q) X.xe {bR with heap:=bR.heap.push {cls:= .type "slice",data:= .fields #[fA,gn,.none]}};exact tail_any (ops:=[.ref bR.heap.objs.size,v]) bX c1 bG (by with_unfolding_all rfl)
noncomputable def hr (xs:List V) (lo hi:Option Int):List V:=(xs.drop (HT.sIx xs.length 0 lo)).take (HT.sIx xs.length xs.length hi-HT.sIx xs.length 0 lo)
theorem zn(xs:List V)(lo hi:Option Int):(hr xs lo hi).length<=xs.length:=by
 unfold hr;rw[qaC,qbw];omega
def zo (K:Frag):V->Option Int->Option Int->Hp->VK->Prop:=λx lo hi H Q=>∃a xs,x= .ref a/\SqT K H a xs/\
 ¬(HT.sIx xs.length 0 lo=0/\HT.sIx xs.length xs.length hi=xs.length)/\∀p,H p=none->Q (.ref p) (upd H p (.tup (hr xs lo hi)))
theorem GO:SlR X (zo X.K):=by
 intro aj s af H x v fA gn lo hi sl Q I b3 hs pl ib h;obtain⟨a,xs,rfl,bp,hw,q⟩:=h;cases b3;obtain⟨its,r,bX,hz⟩:=I.tuple bp;have d9:its.toArray.size=xs.length:=by rw[qaf];exact r.length.symm
 refine⟨"tuple",_,qbR.lookup,bX.typeIs,?_⟩;refine HT.Zdf bX hs pl ib (by rw[d9];exact hw) ?_ (by rw[d9];exact hz);rw[d9];refine⟨.ref s.heap.objs.size,_,I.laid (t':=s.toks) (o:= .tup (hr xs lo hi)) (λb cZ q=>Heap.get?_push_of_some _ q) (qab _) ?_,rfl,q _ (I.hok.fresh (qab _))⟩;exact⟨qaj (zn xs lo hi) hz,_,(r.drop (HT.sIx xs.length 0 lo)).take (HT.sIx xs.length xs.length hi-HT.sIx xs.length 0 lo),IsTup.new _ _⟩
def p7 (K:Frag):R2:=λx y H Q=>∃a b xs ys,x= .ref a/\y= .ref b/\SqT K H a xs/\SqT K H b ys/\xs≠[]/\xs.length+ys.length<=sizeLine/\
 (ys=[]->Q (.ref a) H)/\(ys≠[]->∀p,H p=none->Q (.ref p) (upd H p (.tup (xs++ys))))
theorem cR.nil_iff{xs:List V}{us:List Value}(r:cR xs us):us=[]↔xs=[]:=by
 cases r with
 |nil=>simp
 |cons _ _=>simp
theorem GP:OpR X (binaryOp .Add) (p7 X.K):=by
 intro aj s af H x y v u Q I b3 cj h;obtain⟨a,b,xs,ys,rfl,rfl,bD,ai,bp,hz,ce,cG⟩:=h;cases b3;cases cj;obtain⟨its,cq,fc,_⟩:=I.tuple bD;obtain⟨l_,cN,ie,_⟩:=I.tuple ai;refine HT.ZmW fc ie (λz=>bp (cq.nil_iff.mp z)) (λz=>⟨.ref a,H,I,rfl,ce (cN.nil_iff.mp z)⟩) (λz=>?_) (by rw[<-cq.length,<-cN.length];exact hz);refine⟨.ref s.heap.objs.size,_,I.laid (t':=s.toks) (o:= .tup (xs++ys)) (λb cZ q=>Heap.get?_push_of_some _ q) (qab _) ?_,rfl,cG (λw=>z (cN.nil_iff.mpr w)) _ (I.hok.fresh (qab _))⟩;exact⟨by rw[qaA];exact hz,_,cq.append cN,IsTup.new _ _⟩
end
noncomputable def ixN (n:Nat) (i:Int):Option Nat:=if 0<=i then(if i<n then some i.toNat else none) else if -(n:Int)<=i then some (i+n).toNat else none
noncomputable def atI {cT:Type} (xs:List cT) (i:Int):Option cT:=(ixN xs.length i).bind λj=>xs[j]?
theorem Ziq{n:Nat}{i:Int}{j:Nat}(h:ixN n i=some j):seqIndex? i n=some j/\j<n/\ -(n:Int)<=i/\i<n:=by
 unfold ixN at h
 by_cases cd:0<=i
 .rw[if_pos cd] at h
  by_cases ak:i<n
  .rw[if_pos ak] at h;have e:i.toNat=j:=qam h;exact⟨by rw[seqIndex_of cd ak,e],by omega,by omega,ak⟩
  .rw[if_neg ak] at h;cases h
 .rw[if_neg cd] at h
  by_cases ak: -(n:Int)<=i
  .rw[if_pos ak] at h;have e:(i+n).toNat=j:=qam h;exact⟨by rw[seqIndex_neg (by omega) ak,e],by omega,ak,by omega⟩
  .rw[if_neg ak] at h;cases h
theorem Zc2{cT:Type}{xs:List cT}{i:Int}{v:cT}(h:atI xs i=some v):∃j,seqIndex? i xs.length=some j/\xs[j]? =some v/\j<xs.length/\ -(xs.length:Int)<=i/\i<xs.length:=by
 unfold atI at h;cases e:ixN xs.length i with
 |none=>rw[e] at h;cases h
 |some j=>
  rw[e] at h;obtain⟨ak,a',bL,cu⟩:=Ziq e;exact⟨j,ak,h,a',bL,cu⟩
theorem gJ{cT:Type}{xs:List cT}{j:Nat}{v:cT}(h:xs[j]? =some v):atI xs (j:Int)=some v:=by
 have bw:j<xs.length:=(qaa.mp h).1;have e:ixN xs.length (j:Int)=some j:=by
  unfold ixN;rw[if_pos (by omega),if_pos (by omega)];simp
 unfold atI;rw[e];exact h
def Zmt(b:Expr):Prop:=∀o i,subscripted b false o i=operate [o,i] (getItem o i)
def IxR(X:Cx)(r:R2):Prop:=
 ∀(value slice:Expr)(aj:List (Addr×Obj))(s:Shared)(af:St)(H:Hp)(x y:V)(v u:Value)(Q:VK),Inv X aj af H s->cL x v->cL y u->r x y H Q->
  subscripted slice false v u=operate [v,u] (getItem v u)->wpAny (model X.prog X.w) X.A (subscriptTail value slice v u) (EP X aj af Q) X.xe s
def MtR(X:Cx)(id:String)(r:V->List V->Hp->VK->Prop):Prop:=
 ∀(aj:List (Addr×Obj))(s:Shared)(af:St)(H:Hp)(x:V)(xs:List V)(v:Value)(us:List Value)(Q:VK),Inv X aj af H s->cL x v->cR xs us->r x xs H Q->
  wpAny (model X.prog X.w) X.A (call (.builtin id) (v::us)) (EP X aj af Q) X.xe s
section
variable {X:Cx}{a b:Expr}{b9 cH:TE}{pos:Pos}
theorem IxR.or{r c7:R2}(h:IxR X r)(h':IxR X c7):IxR X (λx y H Q=>r x y H Q\/c7 x y H Q):=by
 intro value slice aj s af H x y v u Q I b3 cj q hs;rcases q with q|q
 .exact h value slice aj s af H x y v u Q I b3 cj q hs
 .exact h' value slice aj s af H x y v u Q I b3 cj q hs
theorem ci{r:R2}(ap:IxR X r)(bD:PE X a b9)(ai:PE X b cH)(hs:Zmt b):PE X (.Subscript a b pos) (tOp r b9 cH):=by
 intro aj s af H Q I h;exact Subscript_ (uD bD ai I h λv u bM x y bt cC b3 cj q=>ap a b aj bM af bt x y v u Q cC b3 cj q (hs _ _))
def Zfi (K:Frag):R2:=λx y H Q=>∃p xs i v,x= .ref p/\y= .int i/\SqL K H p xs/\atI xs i=some v/\Q v H
def uO (K:Frag):R2:=λx y H Q=>∃p xs i v,x= .ref p/\y= .int i/\SqT K H p xs/\atI xs i=some v/\Q v H
def rIxS:R2:=λx y H Q=>∃z i c,x= .str z/\y= .int i/\z.length<=sizeLine/\atI z.cps.toList i=some c/\Q (.str ⟨#[c]⟩) H
theorem GQ:IxR X (Zfi X.K):=by
 intro value slice aj s af H x y v u Q I b3 cj h hs;obtain⟨p,xs,i,z,rfl,rfl,cr,bK,q⟩:=h;cases b3;obtain⟨t,rfl⟩:=cj;obtain⟨its,r,pl,hz⟩:=I.list cr;obtain⟨j,ak,a',bL,cu,dJ⟩:=Zc2 bK;obtain⟨w,gp,ja⟩:=r.get a';have ag:=r.length;have bH:=lp;have eg:EP X aj af Q w s:=⟨z,H,I,ja,q⟩
 by_cases cd:0<=i
 .have bw:i.toNat=j:=by
   rw[seqIndex_of cd dJ] at ak;exact qam ak
  exact item_listR pl.isList cd (by omega) (by rw[bw];simpa using gp) eg hs
 .have bw:(i+(its.toArray.size:Int)).toNat=j:=by
   rw[seqIndex_neg (by omega) cu] at ak;rw[qaf,<-ag];exact qam ak
  exact subscriptTail_builtinR (x:=w) pl.isList.typeIs slot_list_getitem.lookup
   (wpAny_getItem_list_neg (Q:=λr s'=>r=w/\EP X aj af Q r s') pl.isList (by omega) (by rw[qaf]<;>omega) (by omega) (by rw[bw];simpa using gp) ⟨rfl,eg⟩) hs
theorem GR:IxR X (uO X.K):=by
 intro value slice aj s af H x y v u Q I b3 cj h hs;obtain⟨p,xs,i,z,rfl,rfl,cr,bK,q⟩:=h;cases b3;obtain⟨t,rfl⟩:=cj;obtain⟨its,r,pl,hz⟩:=I.tuple cr;obtain⟨j,ak,a',bL,cu,dJ⟩:=Zc2 bK;obtain⟨w,gp,ja⟩:=r.get a';have ag:=r.length;have bH:=lp;have eg:EP X aj af Q w s:=⟨z,H,I,ja,q⟩;exact subscriptTail_builtinR (x:=w) pl.typeIs slot_tuple_getitem.lookup
  (getItem_tuple (j:=j) (Q:=λr s'=>r=w/\EP X aj af Q r s') pl (by omega) (by omega) (by rw[qaf,<-ag];exact ak) (by simpa using gp) ⟨rfl,eg⟩) hs
theorem GS:IxR X rIxS:=by
 intro value slice aj s af H x y v u Q I b3 cj h hs;obtain⟨z,i,c,rfl,rfl,hz,bK,q⟩:=h;obtain⟨t,rfl⟩:=b3;obtain⟨t',rfl⟩:=cj;obtain⟨j,ak,a',bL,cu,dJ⟩:=Zc2 bK;have ag:z.cps.toList.length=z.length:=by simp[Str.length]
 rw[ag] at ak cu dJ;have bH:=lp;exact tail_any (typeIs_str s z t) slot_str_getitem.lookup (getItem_str (c:=c) (by
  have bE:decide (i< -(2 ^ 63:Int))=false:=decide_eq_false (by omega);have bP:decide (i≥2 ^ 63)=false:=decide_eq_false (by omega);rw[bE,bP,Bool.or_false]) (by rw[ak];simpa using a') ⟨.str ⟨#[c]⟩,H,I.tok _,⟨_,rfl⟩,q⟩) hs
def rIx (K:Frag):R2:=λx y H Q=>Zfi K x y H Q\/uO K x y H Q\/rIxS x y H Q
theorem GU:IxR X (rIx X.K):=GQ.or (GR.or GS)
theorem GV(its:List Value)(n j:Nat)(u:Value):Obj.mapSeq (·.setIfInBounds j u) {cls:= .type "list",data:= .seq its.toArray n}={cls:= .type "list",data:= .seq (its.set j u).toArray n}:=by
 simp[Obj.mapSeq]
theorem Inv.lst{aj:List (Addr×Obj)}{af:St}{H:Hp}{s:Shared}{p:Addr}{xs:List V}(I:Inv X aj af H s)(h:H p=some (.lst xs)):
  ∃(its:List Value)(n:Nat),cR xs its/\s.heap.get? p=some {cls:= .type "list",data:= .seq its.toArray n}/\xs.length<=sizeLine:=by
 obtain⟨z,its,n,r,e⟩:=I.hok p _ h;exact⟨its,n,r,e,z⟩
theorem Inv.lstUpd{aj:List (Addr×Obj)}{af:St}{H:Hp}{s:Shared}{p:Addr}{xs ys:List V}{its its':List Value}{n fQ:Nat}{f:Obj->Obj}(I:Inv X aj af H s)(h:H p=some (.lst xs))
  (bJ:s.heap.get? p=some {cls:= .type "list",data:= .seq its.toArray n}) (bN:f {cls:= .type "list",data:= .seq its.toArray n}={cls:= .type "list",data:= .seq its'.toArray fQ}) (r:cR ys its') (hz:ys.length<=sizeLine) (t:Nat):
  Inv X aj af (upd H p (.lst ys)) {s with heap:=s.heap.update p f,toks:=t}:=by
 have e:(s.heap.update p f).get? p=some {cls:= .type "list",data:= .seq its'.toArray fQ}:=by
  rw[Heap.get?_update_self f bJ (by rw[bN]<;>rfl),bN]
 refine I.write (x:=p) (e:=p) (by rw[h];trivial) (.inl rfl) (λb u ai q=>(Heap.get?_update_other _ _ (qbO ai)).trans q) ⟨_,e⟩ ?_;exact⟨hz,its',fQ,r,e⟩
def rSetL:V->V->V->Hp->(Hp->Prop)->Prop:=λo i v H Q=>∃p xs k j,o= .ref p/\i= .int k/\H p=some (.lst xs)/\ixN xs.length k=some j/\Q (upd H p (.lst (xs.set j v)))
theorem j1:Zi4 X rSetL:=by
 intro aj s af H o i v dz fR u Q I ro ri c' h;obtain⟨p,xs,k,j,rfl,rfl,bB,bw,q⟩:=h;cases ro;obtain⟨t,rfl⟩:=ri;obtain⟨its,n,r,bJ,hz⟩:=I.lst bB;obtain⟨ak,a',bL,cu⟩:=Ziq bw;have ag:=r.length;have bH:=lp;have eS:Inv X aj af (upd H p (.lst (xs.set j v))) {s with heap:=s.heap.update p (Obj.mapSeq (·.setIfInBounds j u))}:=
  I.lstUpd bB bJ (GV its n j u) (r.set c' j) (by rw[qbZ];exact hz) s.toks
 by_cases cd:0<=k
 .have br:k.toNat=j:=by
   rw[seqIndex_of cd cu] at ak;exact qam ak
  exact PySem.W.ki_setAt bJ cd (by omega) (by rw[qaf,<-ag];exact cu) (by rw[br];exact⟨_,eS,q⟩)
 .have br:(k+(its.toArray.size:Int)).toNat=j:=by
   rw[seqIndex_neg (by omega) bL] at ak;rw[qaf,<-ag];exact qam ak
  exact PySem.W.ki_setBack bJ (by omega) (by rw[qaf,<-ag];exact bL) (by omega) (by rw[br];exact⟨_,eS,q⟩)
theorem Zgs(lo hi:Option Int)(n:Nat):(sliceBounds lo hi none n).1=((HT.sIx n 0 lo:Nat):Int)/\(sliceBounds lo hi none n).2.1=((HT.sIx n n hi:Nat):Int)/\(sliceBounds lo hi none n).2.2=1:=by
 refine⟨?_,?_,rfl⟩
 .cases lo with
  |none=>simp[sliceBounds,HT.sIx]
  |some i=>
   simp only[sliceBounds,HT.sIx,Option.getD_none,show(1:Int) > 0 by decide,if_true]
   by_cases h:i<0
   .simp only[h,if_true]<;>omega
   .simp only[h,if_false]<;>omega
 .cases hi with
  |none=>simp[sliceBounds,HT.sIx]
  |some i=>
   simp only[sliceBounds,HT.sIx,Option.getD_none,show(1:Int) > 0 by decide,if_true]
   by_cases h:i<0
   .simp only[h,if_true]<;>omega
   .simp only[h,if_false]<;>omega
theorem Zf6(its:List Value)(lo hi:Option Int):slicePick its.toArray lo hi none=((its.drop (HT.sIx its.length 0 lo)).take (HT.sIx its.length its.length hi-HT.sIx its.length 0 lo)).toArray:=by
 obtain⟨ak,a',bL⟩:=Zgs lo hi its.toArray.size;unfold slicePick;rw[ak,a',bL];simp only[sliceRange_one,pick_run,qaf]<;>rfl
def zp (K:Frag):V->Option Int->Option Int->Hp->VK->Prop:=λx lo hi H Q=>∃a xs,x= .ref a/\SqL K H a xs/\∀p,H p=none->Q (.ref p) (upd H p (.lst (hr xs lo hi)))
theorem GW:SlR X (zp X.K):=by
 intro aj s af H x v fA gn lo hi sl Q I b3 hs pl ib h;obtain⟨a,xs,rfl,bp,q⟩:=h;cases b3;obtain⟨its,r,bX,hz⟩:=I.list bp;have d9:=r.length;refine⟨"list",_,slot_list_getitem.lookup,bX.isList.typeIs,?_⟩;refine wpAny_getItem_list_slice bX.isList hs pl ib .none (by simp) ?_ (by rw[qaf]<;>omega);rw[Zf6,<-d9];refine⟨.ref s.heap.objs.size,_,I.laid (t':=s.toks) (o:= .lst (hr xs lo hi)) (λb cZ q=>Heap.get?_push_of_some _ q) (qab _) ?_,rfl,q _ (I.hok.fresh (qab _))⟩;exact⟨qaj (zn xs lo hi) hz,_,0,(r.drop (HT.sIx xs.length 0 lo)).take (HT.sIx xs.length xs.length hi-HT.sIx xs.length 0 lo),Heap.get?_push_size _ rfl⟩
noncomputable def kC:V->Bool
 | .non=>true
 | .bl _=>true
 | .int _=>true
 | .str _=>true
 |_=>false
noncomputable def eqV:V->V->Bool
 | .non,.non=>true
 | .bl a,.bl b=>a==b
 | .bl a,.int b=>(if a then 1 else 0)==b
 | .int a,.bl b=>a==(if b then 1 else 0)
 | .int a,.int b=>a==b
 | .str a,.str b=>a==b
 |_,_=>false
theorem Zn4{A:Around}{s:Shared}{y x:V}{u v:Value}(cj:cL y u)(b3:cL x v)(zq:kC y=true)(iI:kC x=true):SeqAt.EqAt A s u v (eqV y x):=by
 cases y with
 |non=>
  cases cj;cases x with
  |non=>cases b3;exact SeqAt.EqAt.same _
  |bl b=>cases b3;exact SeqAt.EqAt.none_bool b
  |int b=>obtain⟨t,rfl⟩:=b3;exact SeqAt.EqAt.none_int b t
  |str b=>obtain⟨t,rfl⟩:=b3;exact SeqAt.EqAt.none_str b t
  |_=>exact absurd (show false=true from iI) qal
 |bl a=>
  cases cj;cases x with
  |non=>cases b3;exact SeqAt.EqAt.bool_none a
  |bl b=>cases b3;exact SeqAt.EqAt.bool_bool a b
  |int b=>obtain⟨t,rfl⟩:=b3;exact SeqAt.EqAt.bool_int a b t
  |str b=>obtain⟨t,rfl⟩:=b3;exact SeqAt.EqAt.bool_str a b t
  |_=>exact absurd (show false=true from iI) qal
 |int a=>
  obtain⟨t',rfl⟩:=cj;cases x with
  |non=>cases b3;exact SeqAt.EqAt.int_none a t'
  |bl b=>cases b3;exact SeqAt.EqAt.int_bool a t' b
  |int b=>obtain⟨t,rfl⟩:=b3;exact SeqAt.EqAt.int_int a t' b t
  |str b=>obtain⟨t,rfl⟩:=b3;exact SeqAt.EqAt.int_str a t' b t
  |_=>exact absurd (show false=true from iI) qal
 |str a=>
  obtain⟨t',rfl⟩:=cj;cases x with
  |non=>cases b3;exact SeqAt.EqAt.str_none a t'
  |bl b=>cases b3;exact SeqAt.EqAt.str_bool a t' b
  |int b=>obtain⟨t,rfl⟩:=b3;exact SeqAt.EqAt.str_int a t' b t
  |str b=>obtain⟨t,rfl⟩:=b3;exact SeqAt.EqAt.str_str a t' b t
  |_=>exact absurd (show false=true from iI) qal
 |_=>exact absurd (show false=true from zq) qal
noncomputable def eqU (x:V) (u:Value):Bool:=match u with
 | .none=>eqV .non x
 | .bool b=>eqV (.bl b) x
 | .int i _=>eqV (.int i) x
 | .str z _=>eqV (.str z) x
 |_=>false
theorem zr{x y:V}{u:Value}(r:cL y u)(f:kC y=true):eqU x u=eqV y x:=by
 cases y with
 |non=>cases r;rfl
 |bl b=>cases r;rfl
 |int i=>obtain⟨t,rfl⟩:=r;rfl
 |str z=>obtain⟨t,rfl⟩:=r;rfl
 |_=>exact absurd (show false=true from f) qal
theorem p8{x:V}:∀{xs:List V}{us:List Value},cR xs us->xs.all kC=true->us.any (eqU x)=xs.any λy=>eqV y x
 |_,_,.nil,_=>rfl
 |y::xs,u::us,.cons r t,f=>by
  rw[qcr,qaU] at f;rw[qcs,qcs,zr r f.1,p8 t f.2]
theorem ZaD{A:Around}{s:Shared}{x:V}{v:Value}(b3:cL x v)(iI:kC x=true):∀{xs:List V}{us:List Value},cR xs us->xs.all kC=true->∀u∈us,SeqAt.EqAt A s u v (eqU x u)
 |_,_,.nil,_=>λu hu=>by cases hu
 |y::xs,u::us,.cons r t,f=>λko hu=>by
  rw[qcr,qaU] at f;rcases qah.mp hu with rfl|hu
  .rw[zr r f.1];exact Zn4 r b3 f.1 iI
  .exact ZaD b3 iI t f.2 ko hu
noncomputable def inV (x:V) (xs:List V):Bool:=xs.any λy=>eqV y x
def rIn (K:Frag) (neg:Bool):R2:=λx y H Q=>∃p xs,y= .ref p/\(SqL K H p xs\/SqT K H p xs)/\kC x=true/\xs.all kC=true/\Q (.bl (if neg then !inV x xs else inV x xs)) H
theorem GX:OpR X (compareOp .In) (rIn X.K false):=by
 intro aj s af H x y v u Q I b3 cj h;obtain⟨p,xs,rfl,cr,iI,fs,q⟩:=h;cases cj;rcases cr with cr|cr
 .obtain⟨its,r,pl,hz⟩:=I.list cr;refine SeqAt.in_listAt (eqU x) pl.isList (λw hw=>ZaD b3 iI r fs w (by simpa using hw)) ⟨.bl _,H,I,rfl,?_⟩;rw[show its.toArray.any (eqU x)=its.any (eqU x) by simp,p8 r fs];exact q
 .obtain⟨its,r,pl,hz⟩:=I.tuple cr;refine SeqAt.in_tupleAt (eqU x) pl (λw hw=>ZaD b3 iI r fs w (by simpa using hw)) ⟨.bl _,H,I,rfl,?_⟩;rw[show its.toArray.any (eqU x)=its.any (eqU x) by simp,p8 r fs];exact q
theorem GY:OpR X (compareOp .NotIn) (rIn X.K true):=by
 intro aj s af H x y v u Q I b3 cj h;obtain⟨p,xs,rfl,cr,iI,fs,q⟩:=h;cases cj;rcases cr with cr|cr
 .obtain⟨its,r,pl,hz⟩:=I.list cr;refine SeqAt.notIn_listAt (eqU x) pl.isList (λw hw=>ZaD b3 iI r fs w (by simpa using hw)) ⟨.bl _,H,I,rfl,?_⟩;rw[show its.toArray.any (eqU x)=its.any (eqU x) by simp,p8 r fs];exact q
 .obtain⟨its,r,pl,hz⟩:=I.tuple cr;refine SeqAt.notIn_tupleAt (eqU x) pl (λw hw=>ZaD b3 iI r fs w (by simpa using hw)) ⟨.bl _,H,I,rfl,?_⟩;rw[show its.toArray.any (eqU x)=its.any (eqU x) by simp,p8 r fs];exact q
theorem GZ:YW X (.type "list") (λxs H Q=>∃p ys,xs=[.ref p]/\(SqL X.K H p ys\/SqT X.K H p ys)/\∀l,H l=none->Q (.ref l) (upd H l (.lst ys))):=by
 intro aj s af H xs us Q I r h;obtain⟨p,ys,rfl,cr,q⟩:=h;obtain⟨u,rfl,b3⟩:=WB r;cases b3;have eg:∀(its:List Value),cR ys its->ys.length<=sizeLine->∀(h':Heap)(cU:Nat),(∀b cx,s.heap.get? b=some cx->h'.get? b=some cx)->
   h'.get? s.heap.objs.size=some {cls:= .type "list",dict:=none,data:= .seq its.toArray cU,slots:=#[]}->EP X aj af Q (.ref s.heap.objs.size) {s with heap:=h'}:=λits c7 hz h' cU kp e=>
  ⟨.ref s.heap.objs.size,_,I.laid (t':=s.toks) kp (qab _) (show Z5 X.prog X.w _ h' _ (.lst ys) from⟨hz,its,cU,c7,e⟩),rfl,q _ (I.hok.fresh (qab _))⟩
 rcases cr with cr|cr
 .obtain⟨its,c7,pl,hz⟩:=I.list cr;have d9:=c7.length;obtain⟨o,bJ,bv,n,hd⟩:=pl.isList;exact call_list_seq p (.inl rfl) bJ bv hd (λh' cU kp e=>eg its c7 hz h' cU kp e) (by simp only[qaf]<;>omega)
 .obtain⟨its,c7,pl,hz⟩:=I.tuple cr;have d9:=c7.length;obtain⟨o,bJ,bv,n,hd⟩:=pl;exact call_list_seq p (.inr rfl) bJ bv hd (λh' cU kp e=>eg its c7 hz h' cU kp e) (by simp only[qaf]<;>omega)
def tyV(K:Frag)(T:String)(x:V)(H:Hp):Prop:=match x with
 | .str _=>T="str"
 | .int _=>T="int"
 | .ref p=>(T="list" /\∃xs,SqL K H p xs)\/(T="tuple" /\∃o,K.lookup p=some o/\o.cls= .type "tuple" /\o.dict=none)\/
   (T="dict" /\((∃kvs,H p=some (.dK kvs))\/∃kvs,H p=some (.dT kvs)))\/(T="set" /\∃S n,H p=some (.set S n))
 |_=>False
theorem ZnU{aj:List (Addr×Obj)}{af:St}{H:Hp}{s:Shared}{T:String}{x:V}{v:Value}(I:Inv X aj af H s)(r:cL x v)(ty:tyV X.K T x H):
  s.TypeIs v T/\∀a,v= .ref a->∃cZ,s.heap.get? a=some cZ/\cZ.dict=none:=by
 cases x with
 |str z=>
  obtain⟨t,rfl⟩:=r;cases (show T="str" from ty);exact⟨typeIs_str s z t,λ_ e=>nomatch e⟩
 |int i=>
  obtain⟨t,rfl⟩:=r;cases (show T="int" from ty);exact⟨typeIs_int s i t,λ_ e=>nomatch e⟩
 |ref p=>
  cases r;rcases ty with⟨rfl,xs,cr⟩|⟨rfl,o,br,bv,hd⟩|⟨rfl,br⟩|⟨rfl,S,n,br⟩
  .obtain⟨its,_,pl,_⟩:=I.list cr;refine⟨pl.isList.typeIs,λa e=>?_⟩;cases e;obtain⟨o,n,e,c,hd,_⟩:=pl;exact⟨o,e,hd⟩
  .refine⟨⟨o,I.kIn p o br,bv⟩,λa e=>?_⟩;cases e;exact⟨o,I.kIn _ o br,hd⟩
  .have z:∃o,s.heap.get? p=some o/\o.ExactDict:=by
    rcases br with⟨kvs,br⟩|⟨kvs,br⟩
    .obtain⟨_,_,_,_,o,_,_,e,ex,_⟩:=I.hok p _ br;exact⟨o,e,ex⟩
    .obtain⟨_,_,_,_,o,_,_,e,ex,_⟩:=I.hok p _ br;exact⟨o,e,ex⟩
   obtain⟨o,e,ex⟩:=z;refine⟨⟨o,e,ex.1⟩,λa bP=>?_⟩;cases bP;exact⟨o,e,ex.2.1⟩
  .obtain⟨o,_,_,_,e,ex,_⟩:=I.hok p _ br;refine⟨⟨o,e,ex.1⟩,λa bP=>?_⟩;cases bP;exact⟨o,e,ex.2.1⟩
 |_=>exact False.elim ty
def tBM (K:Frag) (T:String) (r:V->List V->Hp->VK->Prop) (to:TE) (t:TA):TE:=λaf H Q=>to af H λx a_=>tyV K T x a_/\t af a_ λxs bt=>r x xs bt Q
variable {o e:Expr}{bC:List Expr}{to:TE}{t:TA}{name:Str}{dA dD:Pos}{T id:String}{r:V->List V->Hp->VK->Prop}
theorem Zo7(l':PlainAttrs T)(slot:Slot T name id)(iJ:typeOf (.builtin id)=pure (.type "method_descriptor"))(bz:MtR X id r)(bJ:PE X o to)(bD:PA X (e::bC) t)
  (j2:attributeBase o name X.env (eval o X.env)=eval o X.env:=by rfl)
  (uP:((backTo dD (starEach (e::bC) X.env)).all (λx=>!x.1)&&(backToKw dD (keywordEach [] X.env)).all (λx=>x.1.isSome)
   &&decide ((e::bC).length+([]:List Keyword).length+(if([]:List Keyword).isEmpty then 0 else 1)<30))=true:=by rfl)
  (j3:(dA.endLine==dD.line)=true:=by rfl) (hs:starEach (e::bC) X.env=(false,eval e X.env)::starEach bC X.env:=by rfl) (m_:(backTo dD (starEach bC X.env)).any (·.1)=false:=by rfl):
  PE X (.Call (.Attribute o name dA) (e::bC) [] dD) (tBM X.K T r to t):=by
 intro aj s af H Q I h;refine wpAny_Call_method_late j2 uP j3 rfl (thn (bJ aj s af H _ I h) λv bu ⟨x,a_,bT,cq,ty,ce⟩=>?_);obtain⟨ak,a'⟩:=ZnU bT cq ty;refine⟨T,id,l',slot,iJ,ak,a',?_⟩;have m':=bD dD aj bu af a_ _ bT ce;rw[hs] at m'|-;refine Calls.callWith_builtin (by show(false||(backTo dD (starEach bC X.env)).any (·.1))=false;rw[m_]<;>rfl) (Calls.evalArgs_plain ?_);exact thn m' λus bM ⟨vs,bt,cC,cN,cG⟩=>bz aj bM af bt x vs v us Q cC cq cN cG
end
def MtM(X:Cx)(id:String)(r:V->List V->Hp->VK->Prop):Prop:=
 ∀(aj:List (Addr×Obj))(s:Shared)(af:St)(H:Hp)(x:V)(xs:List V)(v:Value)(us:List Value)(Q:VK),Inv X aj af H s->cL x v->cR xs us->r x xs H Q->
  wpAny (model X.prog X.w) X.A (call (.builtin id) (v::us)) (EP X aj af Q) X.xe s
theorem cR.one:∀{x:V}{us:List Value},cR [x] us->∃u,us=[u]/\cL x u
 |_,_,.cons r .nil=>⟨_,rfl,r⟩
theorem cR.two:∀{x y:V}{us:List Value},cR [x,y] us->∃u v,us=[u,v]/\cL x u/\cL y v
 |_,_,_,.cons r (.cons q .nil)=>⟨_,_,rfl,r,q⟩
theorem cR.rep{xs:List V}{us:List Value}(h:cR xs us):∀k:Nat,cR (List.replicate k xs).flatten (List.replicate k us).flatten
 |0=> .nil
 |k+1=>by
  rw[qbS,qbS,qcm,qcm];exact cR.append h (cR.rep h k)
theorem ZfS(its:List Value):∀(k:Nat)(c_:List Value),
  List.foldl (λx1 x2=>x1++x2) c_.toArray (List.replicate k its.toArray)=(c_++(List.replicate k its).flatten).toArray
 |0,c_=>by simp
 |k+1,c_=>by
  have e:c_.toArray++its.toArray=(c_++its).toArray:=by simp
  have bP:(c_++its)++(List.replicate k its).flatten=c_++(List.replicate (k+1) its).flatten:=by
   rw[qbS,qcm,qcn]
  rw[<-bP,<-ZfS its k (c_++its),<-e,qbS,List.foldl_cons]
section
variable {X:Cx}{aj:List (Addr×Obj)}{af:St}{H:Hp}{s:Shared}{l b:Addr}{xs ys zs:List V}
theorem Inv.lset{its its':List Value}{n:Nat}{f:Array Value->Array Value}{t':Nat}(I:Inv X aj af H s)(gZ:H l=some (.lst xs))
  (e:s.heap.get? l=some {cls:= .type "list",data:= .seq its.toArray n}) (bN:f its.toArray=its'.toArray) (bS:cR ys its') (hz:ys.length<=sizeLine):
  Inv X aj af (upd H l (.lst ys)) {s with heap:=s.heap.update l (Obj.mapSeq f),toks:=t'}:=by
 have q:=PySem.IsL.update e f;rw[bN] at q;refine I.write (x:=l) (e:=l) (by rw[gZ];exact trivial) (.inl rfl) (λlr u ai hu=>(Heap.get?_update_other s.heap (Obj.mapSeq f) (qbO ai)).trans hu) ⟨_,q⟩ ?_;exact⟨hz,its',_,bS,q⟩
theorem Inv.lnew{its:List Value}{t':Nat}(I:Inv X aj af H s)(bS:cR ys its)(hz:ys.length<=sizeLine):
  Inv X aj af (upd H s.heap.objs.size (.lst ys)) {s with heap:=s.heap.push {cls:= .type "list",data:= .seq its.toArray},toks:=t'}:=
 I.laid (λ_ _ q=>Heap.get?_push_of_some _ q) (qab _) ⟨hz,its,0,bS,Heap.get?_push_size _ rfl⟩
theorem Inv.fresh(I:Inv X aj af H s):H s.heap.objs.size=none:=I.hok.fresh (qab _)
theorem Inv.lstM(I:Inv X aj af H s)(gZ:H l=some (.lst xs)):xs.length<=sizeLine/\∃(its:List Value)(n:Nat),cR xs its/\xs.length=its.length/\s.heap.get? l=some {cls:= .type "list",data:= .seq its.toArray n}:=by
 obtain⟨z,its,n,r,e⟩:=I.hok l _ gZ;exact⟨z,its,n,r,r.length,e⟩
theorem Zg5{n:Nat}(h:n<=sizeLine):Builtin.List.listTooLong n=false:=by
 unfold Builtin.List.listTooLong;exact decide_eq_false (by omega)
end
section
variable {X:Cx}
def rAppend:V->List V->Hp->VK->Prop:=λx vs H Q=>∃l xs y,x= .ref l/\vs=[y]/\H l=some (.lst xs)/\xs.length<sizeLine/\Q .non (upd H l (.lst (xs++ [y])))
theorem g0:MtM X "list.append" rAppend:=by
 intro aj s af H x vs v us Q I b3 c' h;obtain⟨l,xs,y,rfl,rfl,gZ,hz,q⟩:=h;cases b3;obtain⟨u,rfl,d8⟩:=c'.one;obtain⟨z,its,n,r,ag,e⟩:=I.lstM gZ;refine call_meets F.slot_list_append ⟨_,e,rfl⟩ F.entry_list_append (F.args_list_append_2 _ _) (PySem.list_append l its.toArray n u (by rw[qaf];omega)) ⟨e,?_⟩;refine⟨.non,_,I.lset (its':=its++ [u]) gZ e (by simp) (r.append (.cons d8 .nil)) ?_,rfl,q⟩;rw[qaA,qaZ];omega
def rExtend:V->List V->Hp->VK->Prop:=λx vs H Q=>∃l b xs zs,x= .ref l/\vs=[.ref b]/\H l=some (.lst xs)/\H b=some (.lst zs)/\xs.length+zs.length<=sizeLine/\Q .non (upd H l (.lst (xs++zs)))
theorem G0:MtM X "list.extend" rExtend:=by
 intro aj s af H x vs v us Q I b3 c' h;obtain⟨l,b,xs,zs,rfl,rfl,gZ,f_,hz,q⟩:=h;cases b3;obtain⟨u,rfl,d8⟩:=c'.one;cases d8;obtain⟨z,its,n,r,ag,e⟩:=I.lstM gZ;obtain⟨cJ,l_,f9,cN,fe,bP⟩:=I.lstM f_;have hsz:its.toArray.size+l_.toArray.size<=sizeLine:=by rw[qaf,qaf];omega
 have uQ:¬(!its.toArray.isEmpty&&Builtin.List.listTooLong (its.toArray.size+l_.toArray.size))=true:=by
  rw[Zg5 hsz,Bool.and_false];exact qal
 refine call_meets F.slot_list_extend ⟨_,e,rfl⟩ F.entry_list_extend (F.args_list_extend_2 _ _)
  (AutoSeq1.list_extend_list_list_0 l its.toArray n b l_.toArray f9 uQ (by rw[qaf];omega) (by omega)) ⟨e,bP,?_⟩
 refine⟨.non,_,I.lset (its':=its++l_) gZ e (by simp) (r.append cN) ?_,rfl,q⟩;rw[qaA];omega
def rCat:R2:=λx y H Q=>∃l b xs zs,x= .ref l/\y= .ref b/\H l=some (.lst xs)/\H b=some (.lst zs)/\xs.length+zs.length<=sizeLine/\∀p,H p=none->Q (.ref p) (upd H p (.lst (xs++zs)))
theorem G1:OpR X (binaryOp .Add) rCat:=by
 intro aj s af H x y v u Q I b3 cj h;obtain⟨l,b,xs,zs,rfl,rfl,gZ,f_,hz,q⟩:=h;cases b3;cases cj;obtain⟨z,its,n,r,ag,e⟩:=I.lstM gZ;obtain⟨cJ,l_,f9,cN,fe,bP⟩:=I.lstM f_;refine PySem.P.add_list e bP ?_ (by rw[qaf,qaf];omega);have dn:its.toArray++l_.toArray=(its++l_).toArray:=by simp
 rw[dn];exact⟨.ref _,_,I.lnew (t':=s.toks) (r.append cN) (by rw[qaA];omega),rfl,q _ I.fresh⟩
def rRep:R2:=λx y H Q=>∃l k xs,x= .ref l/\y= .int k/\H l=some (.lst xs)/\ -(2 ^ 63)<=k/\k<2 ^ 63/\xs.length*k.toNat<=sizeLine/\
 ∀p,H p=none->Q (.ref p) (upd H p (.lst (List.replicate k.toNat xs).flatten))
theorem Zmu{cT:Type}(xs:List cT)(k:Nat):(List.replicate k xs).flatten.length=k*xs.length:=by
 induction k with
 |zero=>simp
 |succ k bQ=>rw[qbS,qcm,qaA,bQ,Nat.succ_mul,Nat.add_comm]
theorem G3:OpR X (binaryOp .Mult) rRep:=by
 intro aj s af H x y v u Q I b3 cj h;obtain⟨l,k,xs,rfl,rfl,gZ,ak,a',hz,q⟩:=h;cases b3;obtain⟨t,rfl⟩:=cj;obtain⟨z,its,n,r,ag,e⟩:=I.lstM gZ;have d9:its.toArray.size*k.toNat<=sizeLine:=by rw[qaf,<-ag];exact hz
 have G4:¬its.toArray.size*k.toNat > (2 ^ 63-1) / 8:=by
  have:(sizeLine:Nat)<=(2 ^ 63-1) / 8:=by decide
  omega
 have G5:¬(!Builtin.List.listFitsIndex k)=true:=by
  rw[fitsIndex_both ak a'];exact qal
 have uQ:¬Builtin.List.listTooLong (its.toArray.size*k.toNat)=true:=by
  rw[Zg5 d9];exact qal
 have lu:List.foldl (λx1 x2=>x1++x2) #[] (List.replicate (if its.toArray.isEmpty=true then 0 else k.toNat) its.toArray)=(List.replicate k.toNat its).flatten.toArray:=by
  have dR:∀m:Nat,List.foldl (λx1 x2=>x1++x2) #[] (List.replicate m its.toArray)=(List.replicate m its).flatten.toArray:=λm=>by
   have:=ZfS its m [];rw[List.nil_append] at this;exact this
  rw[dR];cases its with
  |nil=>simp
  |cons a c7=>rw[if_neg (by simp)]
 refine wpAny_binaryOp_repeat_ref (T:="list") (U:="int") (by decide) ⟨_,e,rfl⟩ (λs'=>typeIs_int s' k t) noFill_list_mul F.fills_int_mul F.slot_int_rmul repeat_list F.slot_int_index.lookup
  (call_meets F.slot_int_rmul (typeIs_int s k t) F.entry_int_rmul (F.args_int_rmul_2 _ _) (int___rmul___int_list k t l its.toArray n)
   ⟨e,rfl,⟨_,e,rfl⟩,call_meets F.slot_list_mul ⟨_,e,rfl⟩ F.entry_list_mul (F.args_list_mul_2 _ _) (AutoListH.list___mul___list_int_3 l its.toArray n k t G5 G4 uQ) ⟨e,?_⟩⟩)
 rw[lu];exact⟨.ref _,_,I.lnew (t':=s.toks) (r.rep k.toNat) (by rw[Zmu,qbl];exact hz),rfl,q _ I.fresh⟩
end
end L2
namespace Att
open PySem PySem.W PySem.Calls PyProof.Rows
theorem G6{P:Params}{h:Heap}:∀(ns:List Int)(vs:List Value),WellAll P h vs (ns.map WData.int)->IntsAre vs ns:=by
 intro ns
 induction ns with
 |nil=>
  intro vs w;rw[List.map_nil] at w;cases w;exact .nil
 |cons n ns bQ=>
  intro vs w;rw[List.map_cons] at w;cases w with
  |cons a b=>
   cases a;exact .cons _ _ (bQ _ b)
theorem ZjP{l:OpenLaw}{n:Nat}(bH:l.most=some n){P:Params}{h:Heap}{args:List WData}{uR:List Value}
  (r_:l.row.toRowW.claim.pre args=true) (ht:WellAll P h uR args):
  ∃a vs ns,uR=[Value.ref a]/\args=[WData.list (ns.map WData.int)]/\h.get? a=some {cls:= .type "list",data:= .seq vs.toArray}/\IntsAre vs ns/\ns.length<=n:=by
 have ma:WShape.hasAll [] args [.list .int]=true:=(pre_splitW r_).1;have bv:l.pre.holds [] {args:=args}=true:=(pre_splitW r_).2;obtain⟨d,r,rfl,ak,a'⟩:=hasAllW_cons ma;obtain rfl:=hasAllW_nil a';obtain⟨xs,rfl,bL⟩:=hasW_list ak;obtain⟨ns,rfl⟩:=items_int bL;have d9:ns.length<=n:=by
  unfold OpenLaw.pre at bv;have cu:(WTm.not (.lt (.lit (.int (n:Int))) (.len (.arg 0)))).holds [] {args:=[.list (ns.map .int)]}=true:=by
   have cu:=(holds_andW bv).1;rw[bH] at cu;exact cu
  have dJ:=condW_of cu (w_not (w_lt w_lit (w_len_list (w_arg rfl))));rw[GE] at dJ;refine Nat.le_of_not_lt λq=>?_;have iE:(n:Int)<((ns.length:Nat):Int):=by omega
  first
   |(rw[decide_eq_true iE] at dJ;exact absurd dJ (by decide))
   |(simp at dJ;omega)
 cases ht with
 |cons f8 kr=>
  cases kr;cases f8 with
  |list bJ jC=>exact⟨_,_,ns,rfl,rfl,bJ,G6 ns _ jC,d9⟩
theorem G7(l:OpenLaw)(args:List WData):l.row.toRowW.claim.post args (.bool true) args=true:=
 postW_of (r:=l.row.toRowW) (X:=(true==true))
  (show WShape.has [] (.bool true) .bool=true by first|rfl|decide|simp[WShape.has,WShape.arms,WShape.armsAll])
  (show(WTm.eq .res (.lit (.bool true))).value [] {args:=args,res:=some (.bool true),after:=args}=some (.bool (true==true)) from w_eq_bool (w_res rfl) w_lit) rfl
theorem ZhO{l:OpenLaw}{n:Nat}{q:Program}{ox:List Str}{oy:(Str->Option Value)->Heap->Prop}{mb:World->Heap->Prop}{d:DefRec}
  (bH:l.most=some n) (jb:d.params.defaults=[])
  (call:∀(w:World)(s₀ du:Shared)(mg jy:Str->Option Value)(ih:Addr)(o:Obj)(es de fh:Value)(a:Addr)(vs:List Value)(ns:List Int),
   Ground q ox [] oy w s₀ mg jy du.heap->mb w du.heap->
   du.heap.get? ih=some o->o.data= .func (docDef d.name d.params d.body d.scope es de fh)->du.heap.CodeRec de d.name->mg d.name=some (.ref ih)->
   du.heap.get? a=some {cls:= .type "list",data:= .seq vs.toArray}->IntsAre vs ns->ns.length<=n->du.gens=#[]->
   codeAny (model l.prog w) callerA (.call (.ref ih) ⟨[.ref a],[]⟩) (λr s'=>r= .ok (.ret (.bool true))/\OldK du.heap s'.heap/\s'.os=du.os/\AllBare s'.gens) du):
  WalkO q ox oy mb l.row.toRowW d [] (λf vs=>PySem.call f vs):=by
 intro w s₀ du mg jy G Y ih o es de fh r5 kV bJ hd i9 kD oz bG args uR as r_ hlay mc ht lv;obtain rfl:r5= .none:=Dflts.none kD jb;obtain rfl:kV= .none:=Dflts.noKw kD;obtain⟨a,vs,ns,rfl,rfl,uS,uT,d9⟩:=ZjP bH r_ ht;refine enter_call (codeAny_mono (call w s₀ du mg jy ih o es de fh a vs ns G Y bJ (fd_plain hd) i9 oz uS uT d9 bG) λr s' cr=>?_);obtain⟨rfl,a',bL,cu⟩:=cr;exact⟨.inl ⟨.bool true,.bool true,[],rfl,λ_=>rfl,.bool true,G7 l _,λ_=>⟨List.Pairwise.nil,λ_ bz=>(nomatch bz)⟩⟩,a',bL,cu⟩
end Att
namespace L2
open PySem PySem.Spec PyProof.Rows
theorem r':∀{vs:List Value}{ns:List Int},IntsAre vs ns->cR (ns.map V.int) vs
 |_,_,.nil=> .nil
 |_,_,.cons n t h=> .cons ⟨t,rfl⟩ (r' h)
def uU(H:Hp):Prop:=∀b,H b=none\/∃o xs,H b=some (.frz o (.lst xs))
theorem ZlJ{P:Program}{w:World}{K:Frag}{mg jy:Str->Option Value}{CX:CXT}{k:Nat}{ih a:Addr}{fd:FuncData}{x:Str}{sp:Sp}{du:Shared}{vs:List Value}{ns:List Int}
  (eO:K.In du.heap) (jc:du.heap.Ns mainGlobals mg) (ai:du.heap.Ns builtinsNs jy) (uV:∀x:Str,x≠"__name__" ->jy x=bootBuiltins x) (G8:du.heap.NoLimit) (bG:du.gens=#[])
  (bD:du.heap.get? a=some {cls:= .type "list",data:= .seq vs.toArray}) (hi:IntsAre vs ns) (ag:ns.length<=sizeLine) (ap:eH k callerA)
  (F:∀base:Heap,K.In base->base.Ns mainGlobals mg->Wc P w K mg base CX k ih fd [x] sp) (G9:∀(s:Shared)(u:Value),BindsTo s fd ⟨[u],[]⟩ [(x,u)])
  (kB:∀H:Hp,uU H->SqL K H a (ns.map V.int)->sp [.ref a] H (λv _=>v= .bl true) λ_ _ _=>False)
  (uW:∀H e s',CX [] H du (λ_ _ _=>False) e s'->False):
  codeAny (model P w) callerA (.call (.ref ih) ⟨[.ref a],[]⟩) (λr s'=>r= .ok (.ret (.bool true))/\OldK du.heap s'.heap/\s'.os=du.os/\AllBare s'.gens) du:=by
 have c':=r' hi;have G_:=hi.length;have zt:∀H:Hp,uU H->SqL K H a (ns.map V.int)->HOk P w H du.heap->(∀b,H b≠none->b=a)->(H a≠none->K.lookup a=none)->
   codeAny (model P w) callerA (.call (.ref ih) ⟨[.ref a],[]⟩) (λr s'=>r= .ok (.ret (.bool true))/\OldK du.heap s'.heap/\s'.os=du.os/\AllBare s'.gens) du:=by
  intro H hO dx hok m' eD;have zu:∀{b:Addr}{o:Obj},du.heap.get? b=some o->H b=none->(lf du.heap H).get? b=some o:=λe n=>Zlk e n;have p3:∀{b:Addr}{o:Obj}{bC:Array DictEntry}{ep:Nat},du.heap.get? b=some o->o.data= .dict bC ep->H b=none:=λ{b o bC ep} e d=>by
   cases q:H b with
   |none=>rfl
   |some u=>
    have b':b=a:=m' b (by rw[q];simp);subst b';rw[bD] at e;cases e;have d':Data.seq vs.toArray _=Data.dict bC ep:=d;cases d'
  have sb:∀{b:Addr}{m:Str->Option Value},du.heap.Ns b m->(lf du.heap H).Ns b m:=λ{b m} ⟨o,bC,ep,e,d,r⟩=>⟨o,bC,ep,zu e (p3 e d),d,r⟩;have zv:K.In (lf du.heap H):=λb o e=>zu (eO b o e) (by
   cases q:H b with
   |none=>rfl
   |some u=>
    have b':b=a:=m' b (by rw[q];simp);subst b';rw[eD (by rw[q];simp)] at e;cases e)
  have lw:Mod K mg (lf du.heap H):=⟨zv,sb jc,⟨jy,sb ai,uV⟩,let⟨G',ak,a'⟩:=G8;⟨G',sb ak,a'⟩⟩;have ev:ZdV P w K mg (lf du.heap H) callerA [] du H:=⟨rfl,lw,λb o e=>ZmC e,Nat.le_of_eq (F_ _ _),trivial,λb ai=>absurd (show b∈([]:List Addr) from ai) (by simp),hok,.of_eq bG⟩;refine codeAny_mono ((F _ zv (sb jc)).run callerA [] du H ⟨[.ref a],[]⟩ [.ref a] [.ref a] _ _ ap ev (G9 du (.ref a)) (.cons rfl .nil) (kB H hO dx)) λr s' h=>?_;cases r with
  |error e=>exact(uW H e s' h).elim
  |ok fK=>
   cases fK with
   |next=>exact False.elim h
   |brk=>exact False.elim h
   |cont=>exact False.elim h
   |ret u=>
    obtain⟨v,ae,os,bare,un,Ha,c7,q⟩:=h;have iE:v= .bl true:=q;subst iE;obtain rfl:u=Value.bool true:=c7;refine⟨rfl,OldK.of_keep λb o e=>?_,os,bare⟩;cases q:H b with
    |none=>exact un.keep b o e q (by intro z;exact absurd (show b∈([]:List Addr) from z) (by simp)) (by simp)
    |some u=>
     rcases hO b with z|⟨cZ,xs,z⟩
     .rw[q] at z;cases z
     .have cJ:=un.frzs b cZ _ z;obtain⟨bE,_⟩:=hok b _ z;obtain⟨bP,_⟩:=Ha b _ cJ;rw[e] at bE;cases bE;exact bP
 cases br:K.lookup a with
 |some o=>
  have e:=eO a o br;rw[bD] at e;cases e;refine zt (λ_=>none) (λ_=> .inl rfl) (.inr ⟨_,vs.toArray,_,br,rfl,rfl,rfl,by rw[qaf,G_];exact ag,by simpa using c'⟩) (λb u z=>by have f6:(none:Option HO)=some u:=z;cases f6) (λb z=>absurd rfl z) λz=>absurd rfl z
 |none=>
  refine zt (λb=>if b=a then some (.frz {cls:= .type "list",data:= .seq vs.toArray} (.lst (ns.map V.int))) else none) (λb=>?_) (.inl (.inr ⟨{cls:= .type "list",data:= .seq vs.toArray},if_pos rfl⟩)) (λb u z=>?_) (λb z=>?_) λ_=>br
  .by_cases ai:b=a
   .exact .inr ⟨_,_,if_pos ai⟩
   .exact .inl (if_neg ai)
  .by_cases ai:b=a
   .have f6:=(if_pos ai).symm.trans z;cases f6;subst ai;exact⟨bD,by rw[GE];exact ag,vs,_,c',bD⟩
   .have f6:=(if_neg ai).symm.trans z;cases f6
  .by_cases ai:b=a
   .exact ai
   .exact absurd (if_neg ai) z
theorem Zm7{l:PySem.W.OpenLaw}{n k:Nat}{q:Program}{ox:List Str}{oy:(Str->Option Value)->Heap->Prop}{mb:World->Heap->Prop}{d:DefRec}{K:Params->Frag}{CX:World->CXT}{sp:World->Sp}{x:Str}
  (bH:l.most=some n) (jY:n<=sizeLine) (jb:d.params.defaults=[]) (ap:eH k callerA)
  (p9:∀(w:World)(h:Heap),mb w h->(K w.params).In h)
  (F:∀(w:World)(mg:Str->Option Value)(ih:Addr)(h:Heap),(K w.params).In h->h.Ns mainGlobals mg->mg d.name=some (.ref ih)->
   ∃fd:FuncData,(∀(s:Shared)(u:Value),BindsTo s fd ⟨[u],[]⟩ [(x,u)])/\
    ∀base:Heap,(K w.params).In base->base.Ns mainGlobals mg->Wc l.prog w (K w.params) mg base (CX w) k ih fd [x] (sp w))
  (kB:∀(w:World)(H:Hp)(a:Addr)(ns:List Int),ns.length<=n->uU H->SqL (K w.params) H a (ns.map V.int)->sp w [.ref a] H (λv _=>v= .bl true) λ_ _ _=>False)
  (uW:∀(w:World)(H:Hp)(s:Shared)(e:Value)(s':Shared),CX w [] H s (λ_ _ _=>False) e s'->False):
  PySem.W.WalkO q ox oy mb l.row.toRowW d [] (λf vs=>PySem.call f vs):=by
 refine Att.ZhO bH jb λw s₀ du mg jy ih o es de fh a vs ns G Y bJ hd i9 oz uS uT d9 bG=>?_;have eO:=p9 w _ Y;obtain⟨fd,ai,md⟩:=F w mg ih _ eO G.T.g oz;exact ZlJ eO G.T.g G.T.b G.T.builtins G.T.nolimit bG uS uT (qaj d9 jY) ap md ai (λH hO dx=>kB w H a ns d9 hO dx) λH e s'=>uW w H du e s'
noncomputable def Yk (s:Stmt) (j:Nat):Stmt:=match s with
 | .ClassDef _ _ _ body _ _ _ _ _ _ _=>body.getD j (.Pass ⟨0,0,0,0⟩)
 |_=> .Pass ⟨0,0,0,0⟩
noncomputable def j4 (s:Stmt):Arguments:=match s with
 | .FunctionDef _ a _ _ _ _ _ _ _ _=>a
 |_=>{posonlyargs:=[],args:=[],vararg:=none,kwonlyargs:=[],kw_defaults:=[],kwarg:=none,defaults:=[]}
noncomputable def jd (s:Stmt):List Stmt:=match s with
 | .FunctionDef _ _ b _ _ _ _ _ _ _=>b
 |_=>[]
noncomputable def cn (s:Stmt):Scope:=match s with
 | .FunctionDef _ _ _ _ _ _ ca _ _ _=>ca
 |_=>{kind:= .function,names:=[],isGenerator:=false,isCoroutine:=false}
abbrev E0:XK:=λ_ _ _=>False
structure Fun(K:Frag)(x qual:Str)(st:Stmt)(f:Addr)(fd:FuncData):Prop where
 ex:∃(ft:Value)(ef:Option Addr)(kV fh es:Value)(an:Option Addr)(cz ct:Value)(gY:Array (Option Value)),
  fd=fnOf x qual (j4 st) (jd st) (cn st) .none kV fh es an cz ct/\K.lookup f=some ⟨ft,ef,.func fd,gY⟩/\codeIn K cz qual=true
 kp:keepIn K (.ref f)=true
section
variable {P:Program}{w:World}{K:Frag}{mg:Str->Option Value}{base:Heap}
theorem Fun.binds{x qual:Str}{st:Stmt}{f:Addr}{fd:FuncData}{b_:List Str}(F:Fun K x qual st f fd)
  (h:∀(kV fh es:Value)(an:Option Addr)(cz ct:Value)(us:List Value),us.length=b_.length->bindArgs (fnOf x qual (j4 st) (jd st) (cn st) .none kV fh es an cz ct) ⟨us,[]⟩=pure (b_.zip us)):W6 K fd b_ []:=by
 obtain⟨ft,ef,kV,fh,es,an,cz,ct,gY,rfl,lk,i9⟩:=F.ex;exact .all (h kV fh es an cz ct)
theorem oG{x qual:Str}{st:Stmt}{f:Addr}{ft:Value}{ef an:Option Addr}{gY:Array (Option Value)}{kV fh es cz ct:Value}(l:K.lookup f=some ⟨ft,ef,.func (fnOf x qual (j4 st) (jd st) (cn st) .none kV fh es an cz ct),gY⟩)
  (c:codeIn K cz qual=true) (k:keepIn K (.ref f)=true):Fun K x qual st f (fnOf x qual (j4 st) (jd st) (cn st) .none kV fh es an cz ct):=⟨⟨ft,ef,kV,fh,es,an,cz,ct,gY,rfl,l,c⟩,k⟩
end
theorem dm{n:Nat}(h:n<=1000):n<sizeLine:=qaO h (by decide)
section
variable {X:Cx}
theorem pv(i:Nat){x:Str}{pos:Pos}(en:X.N[i]? =some x:=by rfl)(bS:Vis X.env.scope x:=by first|exact Or.inl rfl|exact Or.inr (Or.inl rfl)|exact Or.inr (Or.inr rfl))(hd:(x==("__debug__" :Str))=false:=by decide)
  (i9:(x==("__classdict__" :Str))=false:=by decide):PE X (.Name x pos) (ZgS i):=Zm9 en bS hd i9
end
theorem Zhq{A B:Prop}(h:B):if false=true then A else B:=by
 rw[if_neg qal];exact h
theorem Zjo{A B:Prop}(h:A):if true=true then A else B:=by
 rw[if_pos rfl];exact h
theorem V4{c A B:Prop}[Decidable c](ak:c->A)(a':¬c->B):if c then A else B:=by
 by_cases h:c
 .rw[if_pos h];exact ak h
 .rw[if_neg h];exact a' h
def Zd(H ae:Hp):Prop:=∀b o,H b=some o->ae b=some o
theorem Zd.refl(H:Hp):Zd H H:=λ_ _ h=>h
theorem Zd.trans{H a_ bt:Hp}(a:Zd H a_)(b:Zd a_ bt):Zd H bt:=λc o h=>b c o (a c o h)
theorem Zd.seq{K:Frag}{H ae:Hp}{a:Addr}{xs:List V}(e:Zd H ae)(h:SqL K H a xs):SqL K ae a xs:=by
 rcases h with(h|⟨o,h⟩)|h
 .exact .inl (.inl (e _ _ h))
 .exact .inl (.inr ⟨o,e _ _ h⟩)
 .exact .inr h
section
variable {dC:Type}[DecidableEq dC]
noncomputable def valV (kvs:List (dC×V)) (k:dC):Option V:=(kvs.find? λkv=>decide (kv.1=k)).map (·.2)
noncomputable def d_ (kvs:List (dC×V)) (k:dC) (v:V):List (dC×V):=
 if(kvs.any λkv=>decide (kv.1=k))=true then kvs.map (λkv=>if kv.1=k then(kv.1,v) else kv) else kvs++ [(k,v)]
theorem ZdQ{k:dC}:valV ([]:List (dC×V)) k=none:=rfl
theorem je{p:dC×V}{r:List (dC×V)}{k:dC}(e:p.1=k):valV (p::r) k=some p.2:=by simp[valV,qbJ,e]
theorem jf{p:dC×V}{r:List (dC×V)}{k:dC}(e:¬p.1=k):valV (p::r) k=valV r k:=by simp[valV,qbJ,e]
theorem VB(k:dC):∀kvs:List (dC×V),(kvs.any λkv=>decide (kv.1=k))=(valV kvs k).isSome
 | []=>rfl
 |p::r=>by
  rw[qcs]
  by_cases e:p.1=k
  .simp only[je e,decide_eq_true e,Bool.true_or,Option.isSome_some]
  .rw[jf e,decide_eq_false e,Bool.false_or];exact VB k r
theorem zw(k j:dC)(y:V):∀kvs:List (dC×V),valV (kvs.map λkv=>if kv.1=k then(kv.1,y) else kv) j=(valV kvs j).map λx=>if j=k then y else x
 | []=>rfl
 |p::r=>by
  have bQ:=zw k j y r;rw[List.map_cons]
  by_cases h:p.1=k
  .rw[if_pos h]
   by_cases e:p.1=j
   .rw[je (p:=(p.1,y)) e,je e,qcf,if_pos (e.symm.trans h)]
   .rw[jf (p:=(p.1,y)) e,jf e,bQ]
  .rw[if_neg h]
   by_cases e:p.1=j
   .rw[je (p:=p) e,je e,qcf,if_neg (λz=>h (e.trans z))]
   .rw[jf (p:=p) e,jf e,bQ]
theorem Zfy(k j:dC)(y:V):∀kvs:List (dC×V),valV kvs k=none->valV (kvs++ [(k,y)]) j=if j=k then some y else valV kvs j
 | [],_=>by
  by_cases e:k=j
  .rw[if_pos e.symm];exact je (p:=(k,y)) e
  .rw[if_neg (λz=>e z.symm)];exact jf (p:=(k,y)) e
 |p::r,bH=>by
  rw[List.cons_append];have br:¬p.1=k:=λz=>by rw[je z] at bH;cases bH
  rw[jf br] at bH;have bQ:=Zfy k j y r bH
  by_cases e:p.1=j
  .rw[je e,je e,if_neg (λz=>br (e.trans z))]
  .rw[jf e,jf e,bQ]
theorem kE(kvs:List (dC×V))(k j:dC)(y:V):valV (d_ kvs k y) j=if j=k then some y else valV kvs j:=by
 unfold d_
 by_cases a:(kvs.any λkv=>decide (kv.1=k))=true
 .rw[if_pos a,zw];rw[VB] at a
  by_cases e:j=k
  .obtain⟨x,bp⟩:=Option.isSome_iff_exists.mp a;rw[if_pos e,e,bp,qcf,if_pos rfl]
  .rw[if_neg e];cases valV kvs j with
   |none=>rfl
   |some x=>rw[qcf,if_neg e]
 .rw[if_neg a];refine Zfy k j y kvs ?_;rw[VB] at a;cases q:valV kvs k with
  |none=>rfl
  |some x=>rw[q] at a;exact(a rfl).elim
theorem Vh(kvs:List (dC×V))(k:dC)(v:V):(d_ kvs k v).length<=kvs.length+1:=by
 unfold d_
 split
 .rw[GE];omega
 .rw[qaA,List.length_cons,List.length_nil];omega
theorem V7{kvs:List (dC×V)}{k:dC}(v:V)(h:valV kvs k=none):d_ kvs k v=kvs++ [(k,v)]:=by
 unfold d_;rw[VB,h];exact if_neg (by decide)
theorem gU.isSome_eq{o:Option V}{u:Option Value}(r:gU o u):o.isSome=u.isSome:=by
 cases o with
 |none=>cases u with
  |none=>rfl
  |some _=>exact(show False from r).elim
 |some _=>cases u with
  |none=>exact(show False from r).elim
  |some _=>rfl
theorem gU.getD{o:Option V}{u:Option Value}{d:V}{d':Value}(r:gU o u)(sc:cL d d'):cL (o.getD d) (u.getD d'):=by
 cases o with
 |none=>cases u with
  |none=>exact sc
  |some _=>exact(show False from r).elim
 |some _=>cases u with
  |none=>exact(show False from r).elim
  |some _=>exact r
theorem KV.val{kvs:List (dC×V)}{vs:List (dC×Value)}(r:KV kvs vs)(k:dC):gU (valV kvs k) (valueAt vs k):=by
 unfold KV at r
 induction r with
 |nil=>exact True.intro
 | @cons p q b_ qs h t bQ=>
  obtain⟨ak,a'⟩:=h
  by_cases e:p.1=k
  .have b':q.1=k:=ak.symm.trans e;have b:valueAt (q::qs) k=some q.2:=by simp[valueAt,qbJ,b']
   rw[je e,b];exact a'
  .have b':¬q.1=k:=λz=>e (ak.trans z);have b:valueAt (q::qs) k=valueAt qs k:=by simp[valueAt,qbJ,b']
   rw[jf e,b];exact bQ
theorem KV.any{kvs:List (dC×V)}{vs:List (dC×Value)}(r:KV kvs vs)(k:dC):(kvs.any λkv=>decide (kv.1=k))=vs.any λkv=>decide (kv.1=k):=by
 unfold KV at r
 induction r with
 |nil=>rfl
 |cons h t bQ=>rw[qcs,qcs,bQ,h.1]
theorem KV.repl{kvs:List (dC×V)}{vs:List (dC×Value)}(r:KV kvs vs)(k:dC){y:V}{u:Value}(cj:cL y u):
  KV (kvs.map λkv=>if kv.1=k then(kv.1,y) else kv) (vs.map λkv=>if kv.1=k then(kv.1,u) else kv):=by
 unfold KV at r|-
 induction r with
 |nil=>exact .nil
 | @cons p q b_ qs h t bQ=>
  rw[List.map_cons,List.map_cons];refine .cons ?_ bQ;obtain⟨ak,a'⟩:=h
  by_cases e:p.1=k
  .rw[if_pos e,if_pos (ak.symm.trans e)];exact⟨ak,cj⟩
  .rw[if_neg e,if_neg (λz=>e (ak.trans z))];exact⟨ak,a'⟩
theorem KV.put{kvs:List (dC×V)}{vs:List (dC×Value)}(r:KV kvs vs)(k:dC){y:V}{u:Value}(cj:cL y u):KV (d_ kvs k y) (stored vs k u):=by
 unfold d_ stored;rw[r.any k]
 by_cases e:(vs.any λkv=>decide (kv.1=k))=true
 .rw[if_pos e,if_pos e];exact r.repl k cj
 .rw[if_neg e,if_neg e];exact Paired.snoc r ⟨rfl,cj⟩
theorem KV.length{kvs:List (dC×V)}{vs:List (dC×Value)}(r:KV kvs vs):kvs.length=vs.length:=Paired.length r
end
theorem me{P:Program}{w:World}{k:Key}{u:Value}(r:cL (kV k) u):(ec P w).is k u=true:=by
 cases k with
 |inl i=>obtain⟨t,e⟩:=(show ∃t,u=Value.int i t from r);subst e;exact ZhT P w i t
 |inr x=>obtain⟨t,e⟩:=(show ∃t,u=Value.str x t from r);subst e;exact Zid P w x t
theorem Hb{a b:Key}(e:kV a=kV b):a=b:=by
 cases a with
 |inl i=>cases b with
  |inl j=>have b':V.int i=V.int j:=e;injection b' with b';rw[b']
  |inr y=>exact nomatch (show V.int i=V.str y from e)
 |inr x=>cases b with
  |inl j=>exact nomatch (show V.str x=V.int j from e)
  |inr y=>have b':V.str x=V.str y:=e;injection b' with b';rw[b']
theorem zx{P:Program}{w:World}:∀{b5:List Key}{us:List Value},cR (b5.map kV) us->ItemsAre (ec P w) b5 us
 | [],_,r=>by rw[List.map_nil] at r;cases r;exact .nil
 |k::b5,_,r=>by
  rw[List.map_cons] at r;cases r with
  |cons h t=>exact .cons (me h) (zx t)
abbrev KT (H:Hp):List (List Key×V)->List (List Key×Addr×Value)->Prop:=Paired λp q=>p.1=q.1/\H q.2.1=some (.tup (p.1.map kV))/\cL p.2 q.2.2
theorem KT.val{H:Hp}{kvs:List (List Key×V)}{xs:List (List Key×Addr×Value)}(r:KT H kvs xs)(k:List Key):gU (valV kvs k) ((atKey xs k).map (·.2)):=by
 induction r with
 |nil=>exact True.intro
 | @cons p q b_ qs h t bQ=>
  obtain⟨ak,_,a'⟩:=h
  by_cases e:p.1=k
  .have b':q.1=k:=ak.symm.trans e;have b:atKey (q::qs) k=some q.2:=by simp[atKey,qbJ,b']
   rw[je e,b];exact a'
  .have b':¬q.1=k:=λz=>e (ak.trans z);have b:atKey (q::qs) k=atKey qs k:=by simp[atKey,qbJ,b']
   rw[jf e,b];exact bQ
theorem KT.repl{H:Hp}{kvs:List (List Key×V)}{xs:List (List Key×Addr×Value)}(r:KT H kvs xs)(k:List Key){y:V}{u:Value}(cj:cL y u):
  KT H (kvs.map λkv=>if kv.1=k then(kv.1,y) else kv) (xs.map (putAt k u)):=by
 induction r with
 |nil=>exact .nil
 | @cons p q b_ qs h t bQ=>
  rw[List.map_cons,List.map_cons];refine .cons ?_ bQ;obtain⟨ak,a',bL⟩:=h;unfold putAt
  by_cases e:p.1=k
  .rw[if_pos e,if_pos (ak.symm.trans e)];exact⟨ak,a',cj⟩
  .rw[if_neg e,if_neg (λz=>e (ak.trans z))];exact⟨ak,a',bL⟩
theorem KT.put{H:Hp}{kvs:List (List Key×V)}{xs:List (List Key×Addr×Value)}(r:KT H kvs xs)(k:List Key){b:Addr}{y:V}{u:Value}(ai:H b=some (.tup (k.map kV)))(cj:cL y u):
  KT H (d_ kvs k y) (storedH xs k b u):=by
 have e:(kvs.any λkv=>decide (kv.1=k))=(atKey xs k).isSome:=by
  rw[VB,(r.val k).isSome_eq,Option.isSome_map]
 unfold d_ storedH;rw[e]
 by_cases q:(atKey xs k).isSome=true
 .rw[if_pos q,if_pos q];exact r.repl k cj
 .rw[if_neg q,if_neg q];exact Paired.snoc r ⟨rfl,ai,cj⟩
theorem KT.keeps{H ae:Hp}{kvs:List (List Key×V)}{xs:List (List Key×Addr×Value)}(r:KT H kvs xs)(bX:∀b ys,H b=some (.tup ys)->ae b=some (.tup ys)):KT ae kvs xs:=
 Paired.mapP r λ_ _ z=>⟨z.1,bX _ _ z.2.1,z.2.2⟩
section
variable {P:Program}{w:World}{H:Hp}{h:Heap}{a:Addr}
theorem Zmj{u:HO}(ok:HOk P w H h)(e:Rd H a u):Z5 P w H h a u:=e.ok ok
theorem Vt{kvs:List (Key×V)}(ok:HOk P w H h)(e:Rd H a (.dK kvs)):kvs.length<=sizeLine/\(a==sysModules)=false/\∃vs,KV kvs vs/\h.DictOf (ec P w) a vs:=
 show Z5 P w H h a (.dK kvs) from Zmj ok e
theorem ZbS{kvs:List (Key×V)}(ok:HOk P w H h)(e:H a=some (.dK kvs)):kvs.length<=sizeLine/\(a==sysModules)=false/\∃vs,KV kvs vs/\h.DictOf (ec P w) a vs:=Vt ok (.inl e)
theorem oH{b5:List Key}(ok:HOk P w H h)(e:H a=some (.tup (b5.map kV))):(tupleKind (ec P w)).is h b5 a:=by
 obtain⟨_,its,r,o,ak,a',n,bL⟩:=(show Z5 P w H h a (.tup (b5.map kV)) from ok a _ e);exact⟨o,its.toArray,n,ak,a',bL,by simpa using zx r⟩
theorem ZbA{kvs:List (List Key×V)}(ok:HOk P w H h)(e:Rd H a (.dT kvs)):kvs.length<=sizeLine/\(a==sysModules)=false/\
  ∃xs,KT H kvs xs/\h.DictOfH (tupleKind (ec P w)) a xs:=by
 obtain⟨z,y,xs,r,o,bC,ep,ak,a',bL,cu,dJ⟩:=(show Z5 P w H h a (.dT kvs) from Zmj ok e);refine⟨z,y,xs,r,o,bC,ep,ak,a',bL,cu,λx bp=>?_,dJ⟩;have all:∀{l:List (List Key×V)}{m:List (List Key×Addr×Value)},KT H l m->∀x∈m,(tupleKind (ec P w)).is h x.1 x.2.1:=by
  intro l m q
  induction q with
  |nil=>intro x bp;exact nomatch bp
  | @cons p q b_ qs cr t bQ=>
   intro x bp;rcases qah.mp bp with e|bp
   .subst e;exact oH ok (by rw[<-cr.1];exact cr.2.1)
   .exact bQ x bp
 exact all r x bp
theorem ZoL{kvs:List (List Key×V)}(ok:HOk P w H h)(e:H a=some (.dT kvs)):kvs.length<=sizeLine/\(a==sysModules)=false/\
  ∃xs,KT H kvs xs/\h.DictOfH (tupleKind (ec P w)) a xs:=ZbA ok (.inl e)
end
def iK(H:Hp)(a:Addr)(y:V)(r:Option V):Prop:=
 (∃kvs k,Rd H a (.dK kvs)/\y=kV k/\r=valV kvs k)\/∃kvs k b,Rd H a (.dT kvs)/\y= .ref b/\H b=some (.tup (k.map kV))/\r=valV kvs k
def Zfl(H:Hp)(a:Addr)(y v:V)(ae:Hp):Prop:=
 (∃kvs k,H a=some (.dK kvs)/\y=kV k/\kvs.length<sizeLine/\ae=upd H a (.dK (d_ kvs k v)))\/
 ∃kvs k b,H a=some (.dT kvs)/\y= .ref b/\H b=some (.tup (k.map kV))/\kvs.length<sizeLine/\ae=upd H a (.dT (d_ kvs k v))
theorem iK.k{H:Hp}{a:Addr}{kvs:List (Key×V)}{k:Key}(e:H a=some (.dK kvs)):iK H a (kV k) (valV kvs k):= .inl ⟨kvs,k,.inl e,rfl,rfl⟩
theorem Zfl.k{H:Hp}{a:Addr}{kvs:List (Key×V)}{k:Key}{v:V}(e:H a=some (.dK kvs))(ag:kvs.length<sizeLine):Zfl H a (kV k) v (upd H a (.dK (d_ kvs k v))):= .inl ⟨kvs,k,e,rfl,ag,rfl⟩
section
variable {X:Cx}{aj:List (Addr×Obj)}{af:St}{H:Hp}{s:Shared}{a:Addr}{y v:V}{u r:Value}{o:Option V}{A:Around}{E:Value->Shared->Prop}
theorem Inv.big(I:Inv X aj af H s):sysModules<s.heap.objs.size:=by
 have h:mainGlobals<s.heap.objs.size:=(I.mod.glob.keeps I.bk).lt;exact Nat.lt_trans (by decide) h
theorem Hc{Q:Value->Shared->Prop}(hu:A.units+1<cLine)(I:Inv X aj af H s)(g:iK H a y (some v))(cj:cL y u)(h:∀d3 s',Inv X aj af H s'->cL v d3->Q d3 s'):
  wpAny (model X.prog X.w) A (getItem (.ref a) u) Q E s:=by
 rcases g with⟨kvs,k,e,e3,l⟩|⟨kvs,k,b,e,e3,c0,l⟩
 .subst e3;obtain⟨z,hd,vs,rel,dd⟩:=Vt I.hok e;obtain⟨d3,hw,ja⟩:=gU.some_of (v:=v) (o:=valueAt vs k) (by rw[l];exact rel.val k);exact wpAny_getItem_of (me cj) dd.mapOf hw (h d3 _ (I.tok _) ja)
 .subst e3;cases (show u=Value.ref b from cj);obtain⟨z,hd,xs,rel,dd⟩:=ZbA I.hok e;obtain⟨d3,hw,ja⟩:=gU.some_of (v:=v) (o:=(atKey xs k).map (·.2)) (by rw[l];exact rel.val k);obtain⟨p,bB,p_⟩:=Option.map_eq_some_iff.mp hw;refine wpAny_getItem_heap (tupleKind_room_in1 hu) (oH I.hok c0) dd bB ?_;rw[p_];exact h d3 _ (I.tok _) ja
theorem Zpt{Q:Value->Shared->Prop}(hu:A.units+1<cLine)(I:Inv X aj af H s)(g:iK H a y o)(cj:cL y u)(h:∀s',Inv X aj af H s'->Q (.bool o.isSome) s'):
  wpAny (model X.prog X.w) A (compareOp .In u (.ref a)) Q E s:=by
 rcases g with⟨kvs,k,e,e3,l⟩|⟨kvs,k,b,e,e3,c0,l⟩
 .subst e3;obtain⟨z,hd,vs,rel,dd⟩:=Vt I.hok e;refine wpAny_in_of (me cj) hd dd.mapOf ?_;rw[<-(rel.val k).isSome_eq,<-l];exact h _ (I.tok _)
 .subst e3;cases (show u=Value.ref b from cj);obtain⟨z,hd,xs,rel,dd⟩:=ZbA I.hok e;refine wpAny_in_heap (tupleKind_room_in1 hu) (oH I.hok c0) hd dd ?_;have q:=(rel.val k).isSome_eq;rw[Option.isSome_map] at q;rw[<-q,<-l];exact h _ (I.tok _)
theorem Zm1{Q:Value->Shared->Prop}(hu:A.units+1<cLine)(I:Inv X aj af H s)(g:iK H a y o)(cj:cL y u)(h:∀s',Inv X aj af H s'->Q (.bool (!o.isSome)) s'):
  wpAny (model X.prog X.w) A (compareOp .NotIn u (.ref a)) Q E s:=by
 rcases g with⟨kvs,k,e,e3,l⟩|⟨kvs,k,b,e,e3,c0,l⟩
 .subst e3;obtain⟨z,hd,vs,rel,dd⟩:=Vt I.hok e;refine wpAny_notIn_of (me cj) hd dd.mapOf ?_;rw[<-(rel.val k).isSome_eq,<-l];exact h _ (I.tok _)
 .subst e3;cases (show u=Value.ref b from cj);obtain⟨z,hd,xs,rel,dd⟩:=ZbA I.hok e;refine wpAny_notIn_heap (tupleKind_room_in1 hu) (oH I.hok c0) hd dd ?_;have q:=(rel.val k).isSome_eq;rw[Option.isSome_map] at q;rw[<-q,<-l];exact h _ (I.tok _)
theorem p'{h':Heap}{t':Nat}{cZ:HO}(I:Inv X aj af H s)(iD:Mut (H a))(hs:Heap.SameBut a s.heap h')(bK:∃q,h'.get? a=some q)(new:Z5 X.prog X.w (upd H a cZ) h' a cZ):
  Inv X aj af (upd H a cZ) {s with heap:=h',toks:=t'}:=
 I.write (x:=a) (e:=a) iD (.inl rfl) (λb q ai z=>(hs.2 b ai).trans z) bK new
theorem sd{P:Program}{w:World}{ae:Hp}{h':Heap}{kvs:List (Key×V)}{vs:List (Key×Value)}(z:kvs.length<=sizeLine)(hd:(a==sysModules)=false)(rel:KV kvs vs)(dd:h'.DictOf (ec P w) a vs):
  Z5 P w ae h' a (.dK kvs):=⟨z,hd,vs,rel,dd⟩
theorem Zkq{ae:Hp}{Q:Unit->Shared->Prop}(hu:A.units+1<cLine)(I:Inv X aj af H s)(g:Zfl H a y v ae)(cj:cL y u)(c':cL v r)(h:∀s',Inv X aj af ae s'->Q () s'):
  wpAny (model X.prog X.w) A (setItem (.ref a) u r) Q E s:=by
 rcases g with⟨kvs,k,e,e3,l,uX⟩|⟨kvs,k,b,e,e3,c0,l,uX⟩
 .subst e3 uX;obtain⟨z,hd,vs,rel,dd⟩:=ZbS I.hok e;have hz:vs.length<=sizeLine:=by rw[<-rel.length];exact z
  have ag:(d_ kvs k v).length<=sizeLine:=by have:=Vh kvs k v;omega
  refine wpAny_setItem_pairs (hsz:=hz) (me cj) dd λh' dd' hs=>h _ ?_;have bK:∃q,h'.get? a=some q:=let⟨q,_,_,cr,_⟩:=dd';⟨q,cr⟩
  exact p' I (by rw[e];exact True.intro) hs bK (sd ag hd (rel.put k c') dd')
 .subst e3 uX;cases (show u=Value.ref b from cj);obtain⟨z,hd,xs,rel,dd⟩:=ZoL I.hok e;have hz:xs.length<=sizeLine:=by rw[<-Paired.length rel];exact z
  have ag:(d_ kvs k v).length<=sizeLine:=by have:=Vh kvs k v;omega
  refine wpAny_setItem_heap (hsz:=hz) (tupleKind_room_in1 hu) (oH I.hok c0) dd λh' dd' hs=>h _ ?_;obtain⟨q,bC,ep,cr,a',bL,cu,_,dJ⟩:=dd';refine p' I (by rw[e];exact True.intro) hs ⟨q,cr⟩ ⟨ag,hd,_,(rel.put k c0 c').keeps λc ys j5=>?_,q,bC,ep,cr,a',bL,cu,dJ⟩;rw[b6 (gk j5 e (λz=>nomatch z))];exact j5
end
section
variable {X:Cx}{aj:List (Addr×Obj)}{af:St}{H:Hp}{s:Shared}{a:Addr}{kvs:List (Key×V)}{k:Key}{u:Value}{A:Around}{E:Value->Shared->Prop}
theorem Zo2{Q:Value->Shared->Prop}(I:Inv X aj af H s)(e:Rd H a (.dK kvs))(h:∀t s',Inv X aj af H s'->Q (.int kvs.length t) s'):wpAny (model X.prog X.w) A (call (.builtin "len") [.ref a]) Q E s:=by
 obtain⟨z,hd,vs,rel,dd⟩:=Vt I.hok e;refine call_len_dict hd dd (by rw[<-rel.length];rw[sizeLine_eq] at z;omega) ?_;rw[<-rel.length];exact h _ _ (I.tok _)
end
theorem Hd{X:Cx}{aj:List (Addr×Obj)}{af:St}{H:Hp}{s:Shared}{a:Addr}{y:V}{o:Option V}(I:Inv X aj af H s)(g:iK H a y o):s.TypeIs (.ref a) "dict" :=by
 rcases g with⟨kvs,k,e,_,_⟩|⟨kvs,k,b,e,_,_,_⟩
 .obtain⟨_,_,vs,_,dd⟩:=Vt I.hok e;exact dd.typeIs
 .obtain⟨_,_,xs,_,dd⟩:=ZbA I.hok e;exact dd.typeIs
theorem zy{P:Program}{w:World}{H:Hp}(h:Heap)(ai:sysModules<h.objs.size):Z5 P w H (h.push {cls:= .type "dict",data:= .dict #[]}) h.objs.size (.dK []):=
 ⟨qat _,beq_eq_false_iff_ne.mpr (qbO (qap ai)),[],.nil,Heap.DictOf.new h⟩
def tDNewK:TE:=λ_ H Q=>∀p,H p=none->Q (.ref p) (upd H p (.dK []))
section
variable {X:Cx}{pos:Pos}
theorem na:PE X (.Dict [] [] pos) tDNewK:=λaj s af H Q I h=>
 wpAny_Dict_empty ⟨.ref s.heap.objs.size,_,I.laid (a:=s.heap.objs.size) (o:= .dK []) (t':=s.toks) (λ_ _ q=>Heap.get?_push_of_some _ q) (qab _) (zy s.heap I.big),rfl,h _ (I.hok.fresh (qab _))⟩
end
def se:List (TE×TE)->St->Hp->(List (V×V)->Hp->Prop)->Prop
 | [],_,H,Q=>Q [] H
 |(b1,hQ)::r,af,H,Q=>b1 af H λx a_=>hQ af a_ λy bt=>se r af bt λb_ b7=>Q ((x,y)::b_) b7
abbrev VV:List (V×V)->List (Value×Value)->Prop:=Paired λp q=>cL p.1 q.1/\cL p.2 q.2
def PPs(X:Cx)(pos:Pos)(keys:List (Option Expr))(qa:List Expr)(lx:List (TE×TE)):Prop:=
 ∀(aj:List (Addr×Obj))(s:Shared)(af:St)(H:Hp)(Q:List (V×V)->Hp->Prop),Inv X aj af H s->se lx af H Q->
  wpAny (model X.prog X.w) X.A (evalPairs (pairTrees keys qa X.env pos)) (λvs s'=>∃b_ ae,Inv X aj af ae s'/\VV b_ vs/\Q b_ ae) X.xe s
theorem ZmR{X:Cx}{pos:Pos}:PPs X pos [] [] []:=λaj s af H Q I h=>pairTrees_nil_walk ⟨[],H,I,.nil,h⟩
theorem He{X:Cx}{pos:Pos}{k v:Expr}{b5:List (Option Expr)}{vs:List Expr}{b1 hQ:TE}{lx:List (TE×TE)}(br:PE X k b1)(bS:PE X v hQ)(ap:PPs X pos b5 vs lx):
  PPs X pos (some k::b5) (v::vs) ((b1,hQ)::lx):=λaj s af H Q I h=>
 pairTrees_cons_walk (thn (br aj s af H _ I h) λu bu ⟨x,a_,bT,b3,ce⟩=>thn (bS aj bu af a_ _ bT ce) λkr bM ⟨y,bt,cC,cj,cG⟩=>
  thn (ap aj bM af bt _ cC cG) λbF bR ⟨b_,b7,dw,rel,e7⟩=>⟨(x,y)::b_,b7,dw,.cons ⟨b3,cj⟩ rel,e7⟩)
noncomputable def gq (kvs more:List (Key×V)):List (Key×V):=more.foldl (λc_ kv=>d_ c_ kv.1 kv.2) kvs
theorem KV.merge:∀{more:List (Key×V)}{rs:List (Key×Value)}{kvs:List (Key×V)}{vs:List (Key×Value)},KV more rs->KV kvs vs->KV (gq kvs more) (merged vs rs):=by
 intro more rs kvs vs r;unfold KV at r
 induction r generalizing kvs vs with
 |nil=>intro q;exact q
 | @cons p q b_ qs h t bQ=>
  intro qb;have e:KV (d_ kvs p.1 p.2) (stored vs q.1 q.2):=by
   have:=qb.put p.1 h.2;rw[<-h.1];exact this
  exact bQ e
theorem sf:∀(more kvs:List (Key×V)),(gq kvs more).length<=kvs.length+more.length
 | [],kvs=>by show kvs.length<=kvs.length+0;omega
 |p::r,kvs=>by
  have ak:=sf r (d_ kvs p.1 p.2);have a':=Vh kvs p.1 p.2;show(gq (d_ kvs p.1 p.2) r).length<=_;rw[List.length_cons];omega
theorem ZeF{P:Program}{w:World}:∀{kvs:List (Key×V)}{bF:List (Value×Value)},VV (kvs.map λkv=>(kV kv.1,kv.2)) bF->∃rs,Carries (ec P w) bF rs/\KV kvs rs
 | [],_,r=>by rw[List.map_nil] at r;cases r;exact⟨[],True.intro,.nil⟩
 |p::kvs,_,r=>by
  rw[List.map_cons] at r;cases r with
  | @cons a b as bs h t=>
   obtain⟨rs,c,q⟩:=ZeF (P:=P) (w:=w) t;obtain⟨eE,fC⟩:=b;exact⟨(p.1,fC)::rs,⟨me h.1,rfl,c⟩,.cons ⟨rfl,h.2⟩ q⟩
def Hf (lx:List (TE×TE)):TE:=λaf H Q=>∀p,H p=none->se lx af (upd H p (.dK [])) λb_ bt=>bt p=some (.dK [])/\∃kvs:List (Key×V),b_=kvs.map (λkv=>(kV kv.1,kv.2))/\kvs.length<=15/\Q (.ref p) (upd bt p (.dK (gq [] kvs)))
theorem Hg{X:Cx}{pos:Pos}{keys:List (Option Expr)}{qa:List Expr}{lx:List (TE×TE)}(h:PPs X pos keys qa lx)(jC:keys.all (·.isSome)=true)(ag:keys.length=qa.length)(cd:keys≠[])
  (Hh:keys.length<=15):PE X (.Dict keys qa pos) (Hf lx):=by
 intro aj s af H Q I q;have bH:=I.hok.fresh (qab s.heap.objs.size);have bT:=I.laid (a:=s.heap.objs.size) (o:= .dK []) (h':=s.heap.push {cls:= .type "dict",data:= .dict #[]}) (t':=s.toks) (λ_ _ q=>Heap.get?_push_of_some _ q) (qab _) (zy s.heap I.big);refine wpAny_Dict_walk (knd:=ec X.prog X.w) jC ag cd Hh (thn (h aj _ af _ _ bT (q _ bH)) λbF bM ⟨b_,bt,cC,rel,e,kvs,ep,lk,cG⟩=>?_);subst ep;obtain⟨rs,c,Hi⟩:=ZeF (P:=X.prog) (w:=X.w) rel;obtain⟨z,hd,R1,qb,dd⟩:=ZbS cC.hok e;cases qb;refine⟨rs,c,dd,λh' dd' hs=>⟨.ref s.heap.objs.size,_,?_,rfl,cG⟩⟩;have hz:(gq [] kvs).length<=sizeLine:=by
  have ak:=sf kvs [];rw[List.length_nil] at ak;rw[sizeLine_eq];omega
 have bK:∃q,h'.get? s.heap.objs.size=some q:=let⟨q,_,_,cr,_⟩:=dd';⟨q,cr⟩
 exact p' cC (by rw[e];exact True.intro) hs bK (sd hz hd (Hi.merge .nil) dd')
structure M2(X:Cx)(o:Expr)(m:Str)(dA:Pos)(e f:Expr)(dD:Pos):Prop where
 base:attributeBase o m X.env (eval o X.env)=eval o X.env
 few:((backTo dD (starEach [e,f] X.env)).all (λx=>!x.1)&&(backToKw dD (keywordEach [] X.env)).all (λx=>x.1.isSome)
  &&decide (([e,f]:List Expr).length+([]:List Keyword).length+(if([]:List Keyword).isEmpty then 0 else 1)<30))=true
 line:(dA.endLine==dD.line)=true
 trees:backTo dD (starEach [e,f] X.env)=[(false,eval e X.env),(false,eval f X.env)]
def IsD(H:Hp)(a:Addr):Prop:=(∃kvs,Rd H a (.dK kvs))\/∃kvs,Rd H a (.dT kvs)
theorem ZnQ{X:Cx}{aj:List (Addr×Obj)}{af:St}{H:Hp}{s:Shared}{a:Addr}(I:Inv X aj af H s)(d:IsD H a):
  s.TypeIs (.ref a) "dict" /\(∀b,Value.ref a= .ref b->∃cZ,s.heap.get? b=some cZ/\cZ.dict=none)/\(a==sysModules)=false:=by
 rcases d with⟨kvs,e⟩|⟨kvs,e⟩
 .obtain⟨_,hd,vs,_,dd⟩:=Vt I.hok e;refine⟨dd.typeIs,λb q=>?_,hd⟩;cases q;obtain⟨cZ,_,_,ak,a',_⟩:=dd;exact⟨cZ,ak,a'.2.1⟩
 .obtain⟨_,hd,xs,_,dd⟩:=ZbA I.hok e;refine⟨dd.typeIs,λb q=>?_,hd⟩;cases q;obtain⟨cZ,_,_,ak,a',_⟩:=dd;exact⟨cZ,ak,a'.2.1⟩
section
variable {X:Cx}{aj:List (Addr×Obj)}{af:St}{H:Hp}{s:Shared}{a:Addr}{y d:V}{u r:Value}{o:Option V}{A:Around}{E:Value->Shared->Prop}
theorem Znv{Q:Value->Shared->Prop}(hu:A.units+1<cLine)(I:Inv X aj af H s)(g:iK H a y o)(cj:cL y u)(sc:cL d r)(h:∀d3 s',Inv X aj af H s'->cL (o.getD d) d3->Q d3 s'):
  wpAny (model X.prog X.w) A (call (.builtin "dict.get") [.ref a,u,r]) Q E s:=by
 rcases g with⟨kvs,k,e,e3,l⟩|⟨kvs,k,b,e,e3,c0,l⟩
 .subst e3;obtain⟨z,hd,vs,rel,dd⟩:=Vt I.hok e;refine call_meetsIn PySem.F.slot_dict_get dd.typeIs PySem.F.entry_dict_get (PySem.F.args_dict_get_3 _ _ _) (meets_dict_get_default (ec X.prog X.w) a (me cj) hd r) ⟨_,dd.mapOf,h _ _ (I.tok _) ?_⟩;rw[l];exact(rel.val k).getD sc
 .subst e3;cases (show u=Value.ref b from cj);obtain⟨z,hd,xs,rel,dd⟩:=ZbA I.hok e;refine call_meetsIn PySem.F.slot_dict_get dd.typeIs PySem.F.entry_dict_get (PySem.F.args_dict_get_3 _ _ _) (meetsH_dict_get_default (tupleKind (ec X.prog X.w)) a b hd r) ⟨tupleKind_room_in1 hu,k,xs,oH I.hok c0,dd,h _ _ (I.tok _) ?_⟩;rw[l];exact(rel.val k).getD sc
end
def zz (el ty nb:TE):TE:=λaf H Q=>el af H λx a_=>∃a,x= .ref a/\IsD a_ a/\ty af a_ λy bt=>nb af bt λz b7=>∃o,iK b7 a y o/\Q (o.getD z) b7
section
variable {X:Cx}{o e f:Expr}{dA dD:Pos}{el ty nb:TE}
theorem Zlu(hu:X.A.units+1<cLine)(bJ:PE X o el)(bK:PE X e ty)(bN:PE X f nb)(m:M2 X o "get" dA e f dD):PE X (.Call (.Attribute o "get" dA) [e,f] [] dD) (zz el ty nb):=by
 intro aj s af H Q I h;refine wpAny_Call_method m.base m.few m.line qbh PySem.F.slot_dict_get PySem.F.type_dict_get (thn (bJ aj s af H _ I h) λu bu ⟨x,a_,bT,b3,a,ex,d,ce⟩=>?_);subst ex;obtain rfl:u=Value.ref a:=b3;obtain⟨jg,dE,_⟩:=ZnQ bT d;refine⟨jg,dE,?_⟩;rw[m.trees];refine Calls.callWith_builtin rfl (Calls.evalArgs_plain (Calls.spliced_cons (thn (bK aj bu af a_ _ bT ce) λfR bM ⟨y,bt,cC,cj,cG⟩=>
  Calls.spliced_cons (thn (bN aj bM af bt _ cC cG) λR3 bR ⟨z,b7,dw,Hj,dz,g,e7⟩=>Calls.spliced_nil ?_))))
 exact Znv hu dw g cj Hj λd3 b2 jV ja=>⟨_,b7,jV,ja,e7⟩
end
section
variable {X:Cx}
theorem Hk:YW X (.builtin "len") (λxs H Q=>∃a kvs,xs=[V.ref a]/\H a=some (.dK kvs)/\Q (.int kvs.length) H):=by
 intro aj s af H xs us Q I r h;obtain⟨a,kvs,rfl,bD,q⟩:=h;obtain⟨u,rfl,d8⟩:=WB r;cases d8;exact Zo2 I (.inl bD) λt s' eS=>⟨.int kvs.length,H,eS,⟨t,rfl⟩,q⟩
end
namespace Rd
section
variable {af:St}{H:Hp}{Q:VK}{D:VR}{t u:TS}{b9 cH cB:TE}{r:R2}
theorem var{i:Nat}{v:V}(h:af[i]? =some (some v))(q:Q v H):ZgS i af H Q:=⟨v,h,q⟩
theorem con{v:V}(q:Q v H):tC v af H Q:=q
theorem op(h:b9 af H λx a_=>cH af a_ λy bt=>r x y bt Q):tOp r b9 cH af H Q:=h
theorem i0{g:Int->Int->V}{i j:Int}(q:Q (g i j) H):rI0 g (.int i) (.int j) H Q:=⟨i,j,rfl,rfl,q⟩
theorem iC{C:Int->Int->Prop}{g:Int->Int->V}{i j:Int}(c:C i j)(q:Q (g i j) H):rI C g (.int i) (.int j) H Q:=⟨i,j,rfl,rfl,c,q⟩
theorem eqI{i j:Int}(q:Q (.bl (decide (i=j))) H):rEq (.int i) (.int j) H Q:=⟨rfl,by
 have e:decide (V.int i=V.int j)=decide (i=j):=by
  by_cases h:i=j
  .rw[h];simp
  .rw[decide_eq_false h,decide_eq_false (λz=>h (V.int.inj z))]
 rw[e];exact q⟩
theorem neI{i j:Int}(q:Q (.bl (!decide (i=j))) H):rNe (.int i) (.int j) H Q:=⟨rfl,by
 have e:decide (V.int i=V.int j)=decide (i=j):=by
  by_cases h:i=j
  .rw[h];simp
  .rw[decide_eq_false h,decide_eq_false (λz=>h (V.int.inj z))]
 rw[e];exact q⟩
theorem ZpF{Q:Bool->Hp->Prop}(h:cB af H λx ae=>∃k,x= .bl k/\Q k ae):uE cB af H Q:=h
theorem bl{k:Bool}{Q:Bool->Prop}(q:Q k):∃k',V.bl k= .bl k'/\Q k':=⟨k,rfl,q⟩
theorem seq(h:t {D with nx:=u D} af H):y1 t u D af H:=h
theorem asg{g:TG}(h:cB af H λx a_=>g x af a_ D.nx):pP cB g D af H:=h
theorem ifs{c:TT}(h:c af H λb a_=>if b=true then t D af a_ else u D af a_):y4 c t u D af H:=h
theorem ret(h:cB af H D.rt):y3 cB D af H:=h
theorem next(h:D.nx af H):tNext D af H:=h
theorem drop(h:cB af H λ_ a_=>D.nx af a_):y2 cB D af H:=h
theorem nil{Q:List V->Hp->Prop}(h:Q [] H):tNil af H Q:=h
theorem cons{bV:TA}{Q:List V->Hp->Prop}(h:b9 af H λx a_=>bV af a_ λxs bt=>Q (x::xs) bt):ze b9 bV af H Q:=h
theorem call{sp:Sp}{er:List V}{E:XK}{f7:TA}(h:f7 af H λvs a_=>sp (vs++er) a_ Q E):uL sp er E f7 af H Q:=h
theorem cb{r:List V->Hp->VK->Prop}{f7:TA}(h:f7 af H λvs a_=>r vs a_ Q):tCB r f7 af H Q:=h
theorem tup{f7:TA}(h:f7 af H λxs a_=>xs.length<=sizeLine/\∀p,a_ p=none->Q (.ref p) (upd a_ p (.tup xs))):zf f7 af H Q:=h
theorem lst{f7:TA}(h:f7 af H λxs a_=>xs.length<=sizeLine/\∀p,a_ p=none->Q (.ref p) (upd a_ p (.lst xs))):uJ f7 af H Q:=h
theorem Zpz{t u:TT}{Q:Bool->Hp->Prop}(h:t af H λc a_=>if c=true then u af a_ Q else Q false a_):yX t u af H Q:=h
theorem or_{t u:TT}{Q:Bool->Hp->Prop}(h:t af H λc a_=>if c=true then Q true a_ else u af a_ Q):tOr t u af H Q:=h
theorem ZpK{t:TT}{Q:Bool->Hp->Prop}(h:t af H λc a_=>Q (!c) a_):yY t af H Q:=h
theorem ZpH(h:b9 af H λx a_=>∃c,x= .bl c/\if c=true then cH af a_ Q else Q (.bl false) a_):yZ b9 cH af H Q:=h
theorem Zps(h:b9 af H λx a_=>∃c,x= .bl c/\Q (.bl (!c)) a_):y0 b9 af H Q:=h
end
end Rd
section
variable {X:Cx}
theorem Hl:OpR X (binaryOp .Mult) (rI (λi j=>IntMulOk i j) λi j=> .int (i*j)):=opI λ_ _ _ _ _ _ _ bv q=>mul_int q bv
theorem gK:OpR X (binaryOp .FloorDiv) (rI (λ_ j=>0<j/\j.natAbs.log2<9000) λi j=> .int (i / j)):=opI λi j _ _ _ _ _ bv q=>by
 rw[<-Int.fdiv_eq_ediv_of_nonneg i (Int.le_of_lt bv.1)] at q;exact floordiv_int (by have:=bv.1;omega) q (.inl (PyProof.noPylong_of_log2 bv.2))
theorem Hm:YW X (.builtin "isinstance") (λxs H Q=>∃x n t b,xs=[x,.ty n]/\WN X.K H x t/\kitOne X.K t (.type n)=some b/\Q (.bl b) H):=by
 intro aj s af H xs us Q I r h;obtain⟨x,n,t,b,rfl,ty,e,q⟩:=h;obtain⟨u,v,rfl,d8,c'⟩:=r.two;obtain rfl:v=Value.type n:=c';exact Zka I d8 ty e λb1=>⟨.bl b,H,I.tok b1,rfl,q⟩
theorem Zc0{c:TT}{cH:TS}{D:VR}{af:St}{H:Hp}(W:Nat->St->Hp->Prop)(m:Nat)(cd:W m af H)
  (hs:∀m af H,W m af H->c af H λb a_=>if b=true then ∃N:St->Hp->Prop,(∀bY ae,N bY ae->∃cA,cA<m/\W cA bY ae)/\cH {D with nx:=N,ct:=N,bk:=D.nx} af a_ else D.nx af a_):y' c cH D af H:=
 ⟨W,⟨m,cd⟩,hs⟩
theorem Zet{W:Nat->St->Hp->Prop}{m:Nat}{cH:TS}{D:VR}{af:St}{a_:Hp}
  (h:cH {D with nx:=λbY ae=>∃cA,cA<m/\W cA bY ae,ct:=λbY ae=>∃cA,cA<m/\W cA bY ae,bk:=D.nx} af a_):
  ∃N:St->Hp->Prop,(∀bY ae,N bY ae->∃cA,cA<m/\W cA bY ae)/\cH {D with nx:=N,ct:=N,bk:=D.nx} af a_:=⟨_,λ_ _ z=>z,h⟩
def zA (t:TS):TS:=λD af H=>∃J:St->Hp->Prop,(∀bY ae,J bY ae->D.nx bY ae)/\t {D with nx:=J} af H
theorem qc{st:Stmt}{t:TS}(h:PS X st t):PS X st (zA t):=by
 intro aj s af H D I cr;obtain⟨J,j6,q⟩:=cr;refine thn (h aj s af H _ I q) λf bu ce=>?_;cases f with
 |next=>obtain⟨bY,ae,eS,j⟩:=ce;exact⟨bY,ae,eS,j6 _ _ j⟩
 |brk=>exact ce
 |cont=>exact ce
 |ret v=>exact ce
end
namespace Rd
theorem Zl5{A B:Prop}(h:B):if(!true)=true then A else B:=Zhq h
theorem Zmo{A B:Prop}(h:A):if(!false)=true then A else B:=Zjo h
section
variable {af:St}{H:Hp}{Q:VK}{D:VR}{t u:TS}{b9 cH cB:TE}
theorem cut(J:St->Hp->Prop)(j6:∀bY ae,J bY ae->D.nx bY ae)(h:t {D with nx:=J} af H):zA t D af H:=⟨J,j6,h⟩
theorem ZpO{dG:TI}{g:TG}{cH:TS}(h:dG af H λJ a_=>∃W:Nat->Nat->St->Hp->Prop,(∃m,W 0 m af a_)/\∀i m af H,W i m af H->
  (J.stop i H/\D.nx af H)\/(J.go i H/\∃N:St->Hp->Prop,(∀bY ae,N bY ae->∃cA,cA<m/\W (i+1) cA bY ae)/\∀x ae,J.yld i H x ae->g x af ae λcS bt=>cH {D with nx:=N,ct:=N,bk:=D.nx} cS bt)):zb dG g cH D af H:=h
theorem Zpy{f7:TA}{R:It->Hp->Prop}(h:f7 af H λvs a_=>∃j:Int,vs=[.int j]/\ -(2 ^ 62)<=j/\j<2 ^ 62/\R (Itr 0 j.toNat) a_):za f7 af H R:=h
theorem V3{K:Frag}{n:Nat}{f7:TGs}{a:Addr}{xs:List V}{Q:St->Hp->Prop}(hs:SqT K H a xs)(bH:xs.length=n)(h:f7 xs af H Q):uy K n f7 (.ref a) af H Q:=⟨a,xs,rfl,hs,bH,h⟩
theorem Zpn{Q:St->Hp->Prop}(h:Q af H):gNil [] af H Q:=⟨rfl,h⟩
theorem ZoR{g:TG}{cc:TGs}{v:V}{r:List V}{Q:St->Hp->Prop}(h:g v af H λbY ae=>cc r bY ae Q):y6 g cc (v::r) af H Q:=⟨v,r,rfl,h⟩
end
end Rd
theorem cO{H:Hp}{p:Addr}{o:HO}(bB:H p=none):Zd H (upd H p o):=λc u e=>by rw[b6 (c3 e bB)];exact e
theorem Zd.new{H ae:Hp}{q:Addr}{o:HO}(bU:Zd H ae)(cr:H q=none):Zd H (upd ae q o):=λc u e=>by rw[b6 (c3 e cr)];exact bU c u e
theorem Zd.seqT{K:Frag}{H ae:Hp}{a:Addr}{xs:List V}(e:Zd H ae)(h:SqT K H a xs):SqT K ae a xs:=by
 rcases h with(h|⟨o,h⟩)|h
 .exact .inl (.inl (e _ _ h))
 .exact .inl (.inr ⟨o,e _ _ h⟩)
 .exact .inr h
namespace Rd
section
variable {af:St}{H:Hp}{Q:VK}{D:VR}{K:Frag}
theorem ixt{p:Addr}{xs:List V}{i:Int}{v:V}(h:SqT K H p xs)(e:atI xs i=some v)(q:Q v H):uO K (.ref p) (.int i) H Q:=⟨p,xs,i,v,rfl,rfl,h,e,q⟩
theorem ixl{p:Addr}{xs:List V}{i:Int}{v:V}(h:SqL K H p xs)(e:atI xs i=some v)(q:Q v H):Zfi K (.ref p) (.int i) H Q:=⟨p,xs,i,v,rfl,rfl,h,e,q⟩
theorem bm{T:String}{r:V->List V->Hp->VK->Prop}{to:TE}{t:TA}(h:to af H λx a_=>tyV K T x a_/\t af a_ λxs bt=>r x xs bt Q):tBM K T r to t af H Q:=h
theorem tyl{p:Addr}{xs:List V}{B:Prop}(h:H p=some (.lst xs))(q:B):tyV K "list" (.ref p) H/\B:=⟨.inl ⟨rfl,xs,.of h⟩,q⟩
theorem app{p:Addr}{xs:List V}{y:V}(h:H p=some (.lst xs))(ag:xs.length<sizeLine)(q:Q .non (upd H p (.lst (xs++ [y])))):rAppend (.ref p) [y] H Q:=⟨p,xs,y,rfl,rfl,h,ag,q⟩
end
end Rd
noncomputable def emb (ix:List Nat) (af:St):St:=none::ix.map λj=>(af[j]?).join
noncomputable def Zn (X:Cx) (ca:Scope) (cg:List (Str×Addr)) (C:Addr) (N:List Str) (s:Shared) (H:Hp) (fp:List Addr):Cx where
 prog:=X.prog
 w:=X.w
 K:=X.K
 mg:=X.mg
 base:=X.base
 A:=X.A
 N:=N
 s₀:=s
 H₀:=H
 env:=compEnvC ca cg C X.env
 outer:=X.stack
 stack:=X.stack
 ex:=fp
 fn:=λ_=>false
 calm:=X.calm
 pn:=[]
 xe:=λ_ _=>False
structure Wq(X:Cx)(ca:Scope)(x:Str)(zs:List Str)(ix:List Nat):Prop where
 kind:ca.kind= .function
 nocell:∀y∈ca.names,y.2≠ .cell
 names:∀y∈ca.names,y.2= .local->ca.names.lookup y.1=some .local
 free:∀y∈ca.names,y.2= .free->X.env.kindOf y.1=some .cell\/X.env.kindOf y.1=some .free
 zfree:∀z∈zs,ca.names.lookup z=some .free
 at_:ix.map (λj=>X.N[j]?)=zs.map some
theorem W1{env:Env}{x:Str}:∀{names:List (Str×NameKind)}{k:NameKind},
  (names.map λ(n,k)=>if(k==NameKind.free&&env.scope.kind== .function&&env.kindOf n==some .cell) then(n,NameKind.cell) else(n,k)).lookup x=some k->
  ∃k',names.lookup x=some k'/\(k=k'\/(k'= .free/\k= .cell))
 | [],_,h=>by simp at h
 |(n,j)::r,k,h=>by
  have h':List.lookup x ((if(j==NameKind.free&&env.scope.kind== .function&&env.kindOf n==some .cell)=true then(n,NameKind.cell) else(n,j))::(r.map λ(n,k)=>if(k==NameKind.free&&env.scope.kind== .function&&env.kindOf n==some .cell) then(n,NameKind.cell) else(n,k)))=some k:=h;cases bp:x==n with
  |true=>
   refine⟨j,by simp[qbc,bp],?_⟩
   by_cases bv:(j==NameKind.free&&env.scope.kind== .function&&env.kindOf n==some .cell)=true
   .rw[if_pos bv] at h';simp only[qbc,bp] at h';cases h';simp only[qaU,beq_iff_eq] at bv;exact .inr ⟨bv.1.1,rfl⟩
   .rw[if_neg bv] at h';simp only[qbc,bp] at h';cases h';exact .inl rfl
  |false=>
   have a':List.lookup x (r.map λ(n,k)=>if(k==NameKind.free&&env.scope.kind== .function&&env.kindOf n==some .cell) then(n,NameKind.cell) else(n,k))=some k:=by
    by_cases bv:(j==NameKind.free&&env.scope.kind== .function&&env.kindOf n==some .cell)=true
    .rw[if_pos bv] at h';simpa only[qbc,bp] using h'
    .rw[if_neg bv] at h';simpa only[qbc,bp] using h'
   obtain⟨k',e,q⟩:=W1 a';exact⟨k',by simp only[qbc,bp];exact e,q⟩
theorem mf{x:Str}{k:NameKind}:∀{names:List (Str×NameKind)},names.lookup x=some k->(x,k)∈names:=λh=>qbK h
theorem ZbM(env:Env):∀(names:List (Str×NameKind))(c_:List (Str×Addr)),
  (∀y∈names,y.2= .free->∃c,env.cells.lookup y.1=some c)->(∀y c,c_.lookup y=some c->env.cells.lookup y=some c)->
  ∃cg:List (Str×Addr),(forIn names c_ (λx (r:List (Str×Addr))=>if x.2==NameKind.free then(do let a<-cellOf env x.1;pure (ForInStep.yield ((x.1,a)::r))) else pure (ForInStep.yield r)):Sem (List (Str×Addr)))=pure cg/\
   (∀y c,cg.lookup y=some c->env.cells.lookup y=some c)/\(∀y,(∃c,c_.lookup y=some c)\/(y,NameKind.free)∈names->∃c,cg.lookup y=some c)
 | [],c_,_,bD=>⟨c_,rfl,bD,λy h=>h.elim id λz=>absurd z (by simp)⟩
 |(n,k)::r,c_,bN,bD=>by
  have ap:∀y∈r,y.2= .free->∃c,env.cells.lookup y.1=some c:=λy bO=>bN y (qax _ bO)
  by_cases br:k= .free
  .subst br;obtain⟨c,bv⟩:=bN (n,.free) qbu rfl;have gs:∀y cU,((n,c)::c_).lookup y=some cU->env.cells.lookup y=some cU:=λy cU h=>by
    cases bO:y==n with
    |true=>
     simp only[qbc,bO] at h;cases h;rw[beq_iff_eq.mp bO];exact bv
    |false=>
     simp only[qbc,bO] at h;exact bD y cU h
   obtain⟨cg,e,ak,a'⟩:=ZbM env r ((n,c)::c_) ap gs;refine⟨cg,?_,ak,λy h=>a' y ?_⟩
   .rw[List.forIn_cons];have:cellOf env n=pure c:=by unfold cellOf;rw[bv]
    simp only[beq_self_eq_true,if_true,this];exact e
   .rcases h with⟨cU,h⟩|h
    .cases bO:y==n with
     |true=>exact .inl ⟨c,by simp only[qbc,bO]⟩
     |false=>exact .inl ⟨cU,by simp only[qbc,bO];exact h⟩
    .rcases qah.mp h with h|h
     .cases h;exact .inl ⟨c,by simp⟩
     .exact .inr h
  .obtain⟨cg,e,ak,a'⟩:=ZbM env r c_ ap bD;refine⟨cg,?_,ak,λy h=>a' y ?_⟩
   .rw[List.forIn_cons];have ai:(k==NameKind.free)=false:=by simpa using br
    simp only[ai,Bool.false_eq_true,if_false];exact e
   .rcases h with h|h
    .exact .inl h
    .rcases qah.mp h with h|h
     .cases h;exact absurd rfl br
     .exact .inr h
def PIf(X:Cx)(ifs:List Expr)(t:TT):Prop:=
 ∀(aj:List (Addr×Obj))(s:Shared)(af:St)(H:Hp)(Q:Bool->Hp->Prop),Inv X aj af H s->t af H Q->
  wpAny (model X.prog X.w) X.A (forIn ifs true λc r=>if r=true then do let ok<-isTrue c X.env (eval c X.env);pure (ForInStep.yield ok) else pure (ForInStep.yield r)) (TP X aj af Q) X.xe s
def tAll:TT:=λ_ H Q=>Q true H
section
variable {X:Cx}
theorem fW:PIf X [] tAll:=λ_ _ _ H _ I h=>wpAny_pure ⟨H,I,h⟩
theorem nc{c:Expr}{t:TT}(bv:PT X c t):PIf X [c] t:=by
 intro aj s af H Q I h;rw[List.forIn_cons];simp only[if_true];refine wpAny_bind (wpAny_bind (thn (bv aj s af H _ I h) λb bu q=>wpAny_pure ?_));exact wpAny_pure q
end
section
variable {prog:Program}{w:World}{A:Around}{R:Result->Shared->Prop}{s:Shared}
theorem ZcP{fi target eA:Expr}{ifs:List Expr}{scope:Scope}{pos:Pos}{it c_:Value}{env:Env}(I:Nat->Shared->Prop)
  (turn:∀n s,I n s->wpAny (model prog w) A (pyNext it) (λr du=>match r with
   |none=>R (.ok .next) du
   |some v=>wpAny (model prog w) A (letOwnedTupleGo target it v) (λ_ s₀=>wpAny (model prog w) A (assign target env v) (λ_ ks=>
     wpAny (model prog w) A (forIn ifs true λc r=>if r=true then do let ok<-isTrue c env (eval c env);pure (ForInStep.yield ok) else pure (ForInStep.yield r)) (λok jU=>
      if ok=true then wpAny (model prog w) A (eval fi env) (λx oI=>
       wpAny (model prog w) A (call (.builtin "list.append") [c_,x]) (λ_ zB=>∃m,m<n/\I m zB) (λ_ _=>False) oI) (λ_ _=>False) jU
      else ∃m,m<n/\I m jU) (λ_ _=>False) ks) (λ_ _=>False) s₀) (λ_ _=>False) du) (λ_ _=>False) s)
  (n:Nat) (h:I n s):
  codeAny (model prog w) A (.compLoop (.ListComp fi [⟨target,eA,ifs,0⟩] scope pos) 0 it c_ env) R s:=by
 refine codeAny_loop rfl I (λn s qd=>?_) n h;show wpAny _ A ((compTurn (.ListComp fi [⟨target,eA,ifs,0⟩] scope pos) 0 it c_ env).onRaise (λx=>do noteFrame x env;theTreesLotGoes x)) _ _ s;refine wpAny_noted ?_;rw[compTurn_list];refine wpAny_bind (wpAny_standAt (wpAny_bind (wpAny_mono (turn n s qd) (λr du h₁=>?_) λ_ _ z=>z.elim)));cases r with
 |none=>exact wpAny_pure h₁
 |some v=>
  refine wpAny_bind (wpAny_mono h₁ (λ_ s₀ h₀=>?_) λ_ _ z=>z.elim);refine wpAny_bind (wpAny_mono h₀ (λ_ ks Hn=>wpAny_bind (wpAny_mono Hn (λok jU zC=>?_) λ_ _ z=>z.elim)) λ_ _ z=>z.elim);cases ok with
  |false=>exact wpAny_pure ⟨rfl,zC⟩
  |true=>
   exact wpAny_bind (wpAny_bind (wpAny_mono zC (λx oI zD=>wpAny_bind (wpAny_mono zD (λ_ zB uY=>wpAny_pure (wpAny_pure ⟨rfl,uY⟩)) λ_ _ z=>z.elim)) λ_ _ z=>z.elim))
end
def uZ (ix:List Nat) (dG:TI) (g:TG) (dv:TT) (cB:TE):TE:=λaf H Q=>dG af H λJ a_=>∀p,a_ p=none->
 ∃W:Nat->Nat->List V->St->Hp->Prop,(∃m,W 0 m [] (emb ix af) (upd a_ p (.lst [])))/\∀i m ys bY ae,W i m ys bY ae->
  (J.stop i ae/\Q (.ref p) ae)\/(J.go i ae/\∀x bt,J.yld i ae x bt->g x bY bt λcS b7=>dv cS b7 λb bW=>
   if b=true then cB cS bW λv b0=>b0 p=some (.lst ys)/\ys.length<sizeLine/\∃cA,cA<m/\W (i+1) cA (ys++ [v]) cS (upd b0 p (.lst (ys++ [v])))
   else ∃cA,cA<m/\W (i+1) cA ys cS bW)
section
variable {X:Cx}
theorem Zi5{aj:List (Addr×Obj)}{af:St}{H:Hp}{s:Shared}{ca:Scope}{x:Str}{zs:List Str}{ix:List Nat}{cg:List (Str×Addr)}{fp:List Addr}{h₁:Heap}{b1:Nat}
  (S:Wq X ca x zs ix) (I:Inv X aj af H s) (ew:∀y c,cg.lookup y=some c->X.env.cells.lookup y=some c) (hv:∀y,(y,NameKind.free)∈ca.names->∃c,cg.lookup y=some c)
  (hS:∀b∈fp,gW X aj H b/\b<s.heap.objs.size) (jc:h₁.Ns s.heap.objs.size λ_=>none) (br:∀b o,s.heap.get? b=some o->h₁.get? b=some o):
  Inv (Zn X ca cg s.heap.objs.size (x::zs) s H fp) [] (emb ix af) H {s with heap:=h₁,toks:=b1}:=by
 have sub:∀b∈frs X.stack,b∈X.env.locals::X.fs:=I.stkSub;have u0:∀b∈fp,b∉frs X.stack:=λb ai z=>by
  obtain⟨⟨_,f1,f2,_⟩,_⟩:=hS b ai;rcases qah.mp (sub b z) with e|e
  .exact f1 e
  .exact f2 e
 have cut:∀y,(Zn X ca cg s.heap.objs.size (x::zs) s H fp).env.kindOf y=some .cell\/(Zn X ca cg s.heap.objs.size (x::zs) s H fp).env.kindOf y=some .free->∃c,cg.lookup y=some c:=λy bO=>by
  have q:∃k,(relabel ca X.env).names.lookup y=some k/\(k= .cell\/k= .free):=by
   rcases bO with bO|bO
   .exact⟨_,bO,.inl rfl⟩
   .exact⟨_,bO,.inr rfl⟩
  obtain⟨k,e,br⟩:=q;obtain⟨k',b',q⟩:=W1 e;have:k'= .free:=by
   rcases q with q|⟨q,_⟩
   .rcases br with z|z
    .exact absurd (q.symm.trans z) (S.nocell _ (mf b'))
    .exact q.symm.trans z
   .exact q
  subst this;exact hv y (mf b')
 refine⟨⟨I.ok.mod,S.kind,I.ok.glob,I.ok.blt,qab _,λy z c ak a'=>I.ok.inj y z c (ew _ _ ak) (ew _ _ a'),cut,λy c bN _=>?_,I.ok.hd,I.ok.frames,.inl rfl,λb ai=>?_,I.bs,qaj I.ok.bsz I.sz,λb o e ai=>?_,u0,I.stack,I.stkFree⟩,
  rfl,I.bare,Un.kept br,⟨_,jc,λi y v ak a' bL=>?_⟩,λy c h=>?_,I.hok.fresh (qab _),λy c h=>I.freeC y c (ew y c h),λp bB=>absurd (show p∈([]:List (Addr×Obj)) from bB) (by simp),I.hok.kept br,?_⟩
 .exact absurd (show false=true from bN) (by decide)
 .obtain⟨⟨dR,f1,f2,dh,d0,d6⟩,ag⟩:=hS b ai;exact⟨qap ag,λy c h=>d0 y c (ew y c h)⟩
 .obtain⟨⟨dR,f1,f2,dh,d0,d6⟩,ag⟩:=hS b ai;rcases dh with z|z
  .exact I.ok.noex b o e z
  .exact absurd (qag (Heap.lt_size e) (qaj I.ok.bsz z)) (qbr _)
 ·
  cases i with
  |zero=>
   have:(none:Option (Option V))=some (some v)\/(some none:Option (Option V))=some (some v):= .inr a';rcases this with z|z<;>cases z
  |succ i=>
   have mh:zs[i]? =some y:=ak;have hx:(ix.map λj=>(af[j]?).join)[i]? =some (some v):=a';have bD:(ix.map λj=>X.N[j]?)[i]? =some (some y):=by rw[S.at_,qak,mh];rfl
   rw[qak] at hx bD;cases e:ix[i]? with
   |none=>rw[e] at hx;cases hx
   |some j=>
    rw[e] at hx bD;have gs:X.N[j]? =some y:=qam bD;have bw:(af[j]?).join=some v:=qam hx;have u1:af[j]? =some (some v):=by
     cases q:af[j]? with
     |none=>rw[q] at bw;cases bw
     |some o=>rw[q] at bw;exact congrArg some bw
    obtain⟨m,bH,ag⟩:=I.loc;have gu:=S.zfree y (qav mh);have m9:=S.free _ (mf gu) rfl;have bS:Vis X.env.scope y:=by
     rcases m9 with z|z
     .exact .inr (.inl z)
     .exact .inr (.inr z)
    obtain⟨u,r,q⟩:=ag j y v gs u1 bS;refine⟨u,r,?_⟩;rcases q with⟨u2,_⟩|⟨_,c,bv,l7⟩
    .have qe:X.env.kindOf y=some .local:=u2;rcases m9 with z|z<;>(rw[z] at qe;cases qe)
    .obtain⟨cU,kq⟩:=hv y (mf gu);have j5:cU=c:=by have:=ew y cU kq;rw[bv] at this;exact(qam this).symm
     subst j5;refine .inr ⟨?_,cU,kq,?_⟩
     .have u3:Vis (relabel ca X.env) y:=bL;rcases u3 with z|z|z
      .obtain⟨k',b',q⟩:=W1 z;rw[gu] at b';cases b';rcases q with q|⟨_,q⟩<;>cases q
      .exact .inl z
      .exact .inr z
     .obtain⟨o,bJ,hd⟩:=l7;exact⟨o,br _ _ bJ,hd⟩
 .obtain⟨v,o,bJ,hd⟩:=I.cell y c (ew y c h);exact⟨v,o,br _ _ bJ,hd⟩
 .show(none::ix.map λj=>(af[j]?).join).length=(x::zs).length;have:=congrArg List.length S.at_;simp only[GE] at this;simp only[List.length_cons,GE,this]
structure Zma(ok:Cx->Prop)(P:Program)(w:World)(K:Frag)(cV:Expr)(J:It)(fp:List Addr)(it:Addr)(d4:Nat->Heap->Prop):Prop where
 obj:∀i h,d4 i h->∀b∈fp,∃o,h.get? b=some o/\∀v,o.data≠ .cell v
 keep:∀i h h',d4 i h->(∀b∈fp,∀o,h.get? b=some o->h'.get? b=some o)->d4 i h'
 item:∀(X:Cx),X.prog=P->X.w=w->X.K=K->ok X->∀(i:Nat)(aj:List (Addr×Obj))(s:Shared)(af:St)(H:Hp)(E:Value->Shared->Prop),Inv X aj af H s->(∀b∈fp,gW X aj H b)->d4 i s.heap->J.go i H->
  wpAny (model P w) X.A (pyNext (.ref it)) (λr bu=>∃u,r=some u/\
   wpAny (model P w) X.A (letOwnedTupleGo cV (.ref it) u) (λ_ bM=>∃x ae,Inv X aj af ae bM/\cL x u/\J.yld i H x ae/\d4 (i+1) bM.heap/\∀b∈fp,ae b=none) E bu) E s
 done:∀(X:Cx),X.prog=P->X.w=w->X.K=K->ok X->∀(i:Nat)(aj:List (Addr×Obj))(s:Shared)(af:St)(H:Hp)(E:Value->Shared->Prop),Inv X aj af H s->(∀b∈fp,gW X aj H b)->d4 i s.heap->J.stop i H->
  wpAny (model P w) X.A (pyNext (.ref it)) (λr bu=>r=none/\Inv X aj af H bu) E s
 self:∀(A:Around)(i:Nat)(s:Shared)(Q:Value->Shared->Prop)(E:Value->Shared->Prop),d4 i s.heap->Q (.ref it) s->wpAny (model P w) A (pyIter (.ref it)) Q E s
theorem Zas.c{P:Program}{w:World}{K:Frag}{cV:Expr}{J:It}{fp:List Addr}{it:Addr}{d4:Nat->Heap->Prop}(T:Zas P w K cV J fp it d4):Zma (λX=>X.calm=true) P w K cV J fp it d4:=
 ⟨T.obj,T.keep,T.item,T.done,T.self⟩
def zE(X:Cx)(aj:List (Addr×Obj))(af:St)(Q:VK)(c_:Value)(C:Addr)(s':Shared):Prop:=
 ∃p ae m,c_=Value.ref p/\s'.heap.Ns C m/\Inv X aj af ae s'/\gW X aj ae C/\Q (.ref p) ae
theorem Zen{aj:List (Addr×Obj)}{af:St}{H:Hp}{s:Shared}{ca:Scope}{x:Str}{zs:List Str}{ix:List Nat}{cg:List (Str×Addr)}{fp:List Addr}{it:Addr}{d4:Nat->Heap->Prop}{J:It}
  {fi cV eA:Expr} {ifs:List Expr} {pos:Pos} {g:TG} {dv:TT} {cB:TE} {Q:VK} {E:Value->Shared->Prop} {RR:Value->Addr->Result->Shared->Prop} {zF:Cx->Prop}
  (bv:∀C N s H,zF (Zn X ca cg C N s H fp)) (S:Wq X ca x zs ix) (I:Inv X aj af H s) (ew:∀y c,cg.lookup y=some c->X.env.cells.lookup y=some c) (hv:∀y,(y,NameKind.free)∈ca.names->∃c,cg.lookup y=some c)
  (T:Zma zF X.prog X.w X.K cV J fp it d4) (st:d4 0 s.heap) (hS:∀b∈fp,gW X aj H b)
  (ea:∀C s H,PG (Zn X ca cg C (x::zs) s H fp) cV g/\PIf (Zn X ca cg C (x::zs) s H fp) ifs dv/\PE (Zn X ca cg C (x::zs) s H fp) fi cB)
  (cr:∀p,H p=none->∃W:Nat->Nat->List V->St->Hp->Prop,(∃m,W 0 m [] (emb ix af) (upd H p (.lst [])))/\∀i m ys bY ae,W i m ys bY ae->
   (J.stop i ae/\Q (.ref p) ae)\/(J.go i ae/\∀x bt,J.yld i ae x bt->g x bY bt λcS b7=>dv cS b7 λb bW=>
    if b=true then cB cS bW λv b0=>b0 p=some (.lst ys)/\ys.length<sizeLine/\∃cA,cA<m/\W (i+1) cA (ys++ [v]) cS (upd b0 p (.lst (ys++ [v])))
    else ∃cA,cA<m/\W (i+1) cA ys cS bW))
  (c8:∀c_ C f s',zE X aj af Q c_ C s'->RR c_ C (.ok f) s'):
  wpAny (model X.prog X.w) X.A (newList []) (λc_ jU=>wpAny (model X.prog X.w) X.A (newFunctionEnv ca X.env.globals cg [] X.env.qual none .none (some X.env)) (λqf oI=>
   codeAny (model X.prog X.w) X.A (.compStart (.ListComp fi [⟨cV,eA,ifs,0⟩] ca pos) 0 (.ref it) c_ {qf with scope:=relabel ca X.env}) (RR c_ qf.locals) oI) E jU) E s:=by
 refine wpAny_newObj_type (wpAny_newFunctionEnv S.nocell (by intro y bO;simp at bO) (λh₁ hns₁ qg=>?_) S.kind);have dw:Inv X aj af (upd H s.heap.objs.size (.lst [])) {s with heap:=s.heap.push {cls:= .type "list",dict:=none,data:= .seq ([]:List Value).toArray}}:=I.lnew (its:=[]) (ys:=[]) (t':=s.toks) .nil (qat _);dsimp only at hns₁ qg|-;obtain⟨W,⟨hP,e8⟩,turn⟩:=cr s.heap.objs.size (I.hok.fresh (qab _));have lt:∀b∈fp,b<s.heap.objs.size:=λb ai=>by
  obtain⟨o,e,_⟩:=T.obj 0 s.heap st b ai;exact Heap.lt_size e
 have oJ:∀b∈fp,∀o,(upd H s.heap.objs.size o) b=H b:=λb ai o=>b6 (qap (lt b ai));have kp:∀b o,(s.heap.push {cls:= .type "list",dict:=none,data:= .seq ([]:List Value).toArray}).get? b=some o->h₁.get? b=some o:=λb o e=>
  qg.extBut b o (qap (Heap.lt_size e)) (Heap.get?_push_of_some _ e)
 have dh:∀b∈fp,gW X aj (upd H s.heap.objs.size (.lst [])) b/\b<(s.heap.push {cls:= .type "list",dict:=none,data:= .seq ([]:List Value).toArray}).objs.size:=λb ai=>by
  obtain⟨u4,q⟩:=hS b ai;refine⟨⟨(oJ b ai _).trans u4,q⟩,?_⟩;rw[Heap.size_push];exact qbg (lt b ai)
 generalize kF:({s with heap:=s.heap.push {cls:= .type "list",dict:=none,data:= .seq ([]:List Value).toArray}}:Shared)=bR at dw;have qh:s.heap.push {cls:= .type "list",dict:=none,data:= .seq ([]:List Value).toArray}=bR.heap:=by rw[<-kF]
 rw[qh] at kp dh hns₁|-;have ky:d4 0 h₁:=T.keep 0 _ _ st λb _ o e=>kp b o (by rw[<-qh];exact Heap.get?_push_of_some _ e);have ly:Inv (Zn X ca cg bR.heap.objs.size (x::zs) bR (upd H s.heap.objs.size (.lst [])) fp) [] (emb ix af) (upd H s.heap.objs.size (.lst [])) {bR with heap:=h₁,toks:=bR.toks}:=
  Zi5 S dw ew hv dh hns₁ kp
 obtain⟨bG,u5,bK⟩:=ea bR.heap.objs.size bR (upd H s.heap.objs.size (.lst []));have nf:∀{ae:Hp},(∀b∈fp,ae b=none)->∀b∈fp,gW (Zn X ca cg bR.heap.objs.size (x::zs) bR (upd H s.heap.objs.size (.lst [])) fp) [] ae b:=λ{ae} bH b ai=>
  ⟨bH b ai,(ly.ok.exf b ai).1,ly.ok.exfs b ai,.inl ai,(ly.ok.exf b ai).2,λp bB=>absurd (show p∈([]:List (Addr×Obj)) from bB) (by simp)⟩
 have qi:∀b2:Shared,b2={bR with heap:=h₁,toks:=bR.toks}->
   codeAny (model X.prog X.w) X.A (.compLoop (.ListComp fi [⟨cV,eA,ifs,0⟩] ca pos) 0 (.ref it) (.ref s.heap.objs.size) (compEnvC ca cg bR.heap.objs.size X.env)) (RR (.ref s.heap.objs.size) bR.heap.objs.size) b2:=by
  rintro b2 rfl;refine ZcP (λn s'=>∃i ys bY ae,Inv (Zn X ca cg bR.heap.objs.size (x::zs) bR (upd H s.heap.objs.size (.lst [])) fp) [] bY ae s'/\d4 i s'.heap/\(∀b∈fp,ae b=none)/\W i n ys bY ae) ?_ hP
   ⟨0,[],emb ix af,_,ly,ky,λb ai=>(dh b ai).1.1,e8⟩
  rintro n cs ⟨i,ys,lz,b0,iF,ln,ho,u6⟩;rcases turn i n ys lz b0 u6 with⟨stop,m5⟩|⟨go,step⟩
  .refine thn (T.done (Zn X ca cg bR.heap.objs.size (x::zs) bR (upd H s.heap.objs.size (.lst [])) fp) rfl rfl rfl (bv _ _ _ _) i [] cs lz b0 _ iF (nf ho) ln stop) λr dY ⟨ap,gV⟩=>?_;subst ap;obtain⟨u7,qj,_⟩:=gV.loc;refine c8 _ _ _ _ ⟨s.heap.objs.size,b0,u7,rfl,qj,?_,dw.fpOk (qab _) gV.free,m5⟩;exact dw.call' gV.os gV.base gV.hok gV.bare λb ai=>by
    obtain⟨⟨dR,f1,f2,dh,d0,d6⟩,_⟩:=dh b ai;exact⟨dh,f1,d0,d6⟩
  .refine thn (T.item (Zn X ca cg bR.heap.objs.size (x::zs) bR (upd H s.heap.objs.size (.lst [])) fp) rfl rfl rfl (bv _ _ _ _) i [] cs lz b0 _ iF (nf ho) ln go) λr dY ⟨u,ap,da⟩=>?_;subst ap;refine thn da λ_ fb ⟨x7,di,ia,pV,u8,ng,lA⟩=>?_;have u9:=ia.pinned (nf lA) (T.obj _ _ ng);refine thn (bG _ fb lz di x7 u _ u9 pV (step x7 di u8)) λ_ e4 ⟨nh,eU,u_,u'⟩=>?_;refine thn (u5 _ e4 nh eU _ u_ u') λb hy ⟨f',qk,lB⟩=>?_;have again:∀{ni:List V}{bY:St}{ae:Hp}{cA:Nat}{s':Shared},Inv (Zn X ca cg bR.heap.objs.size (x::zs) bR (upd H s.heap.objs.size (.lst [])) fp) ([]++Zbh fp fb.heap) bY ae s'->W (i+1) cA ni bY ae->cA<n->
     ∃m,m<n/\∃i ys bY ae,Inv (Zn X ca cg bR.heap.objs.size (x::zs) bR (upd H s.heap.objs.size (.lst [])) fp) [] bY ae s'/\d4 i s'.heap/\(∀b∈fp,ae b=none)/\W i m ys bY ae:=λ{ni bY ae cA s'} Iz j7 bz=>by
    refine⟨cA,bz,i+1,ni,bY,ae,Iz.unpinned,T.keep _ _ _ ng λb ai o e=>(Iz.pin (b,o) (qay _ (qay _ (ot ai e)))).1,λb ai=>?_,j7⟩;obtain⟨o,e,d⟩:=T.obj _ _ ng b ai;exact(Iz.pin (b,o) (qay _ (qay _ (ot ai e)))).2.1
   cases b with
   |false=>
    rw[if_neg qal] at lB|-;obtain⟨cA,bz,j7⟩:=lB;exact again qk j7 bz
   |true=>
    rw[if_pos rfl] at lB|-;refine thn (bK _ hy nh f' _ qk lB) λv gv ⟨y,fj,va,vb,ag,hz,cA,bz,j7⟩=>?_;refine thn (g0 _ gv nh fj (.ref s.heap.objs.size) [y] (.ref s.heap.objs.size) [v] (λz ae=>z= .non/\ae=upd fj s.heap.objs.size (.lst (ys++ [y]))) va rfl (.cons vb .nil) ⟨_,ys,y,rfl,rfl,ag,hz,rfl,rfl⟩) λ_ jh ⟨z,iL,vd,_,_,ve⟩=>?_;subst ve;exact again vd j7 bz
 exact codeAny_compStart_list (qi _ (by subst kF;rfl)) (T.self _ 0 _ _ _ ky (qi _ (by subst kF;rfl)))
theorem Um{ca:Scope}{x:Str}{zs:List Str}{ix:List Nat}(ok:X.Ok)(S:Wq X ca x zs ix):
  ∃cg,closureFor ca X.env=pure cg/\(∀y c,cg.lookup y=some c->X.env.cells.lookup y=some c)/\∀y,(y,NameKind.free)∈ca.names->∃c,cg.lookup y=some c:=by
 obtain⟨cg,e,ak,a'⟩:=ZbM X.env ca.names [] (λy bO bN=>ok.has y.1 (S.free y bO bN)) (λy c h=>by simp at h);refine⟨cg,?_,ak,λy bO=>a' y (.inr bO)⟩;unfold closureFor;simp only;rw[e]
 rfl
theorem jD{fi cV eA:Expr}{ifs:List Expr}{ca:Scope}{pos:Pos}{x:Str}{zs:List Str}{ix:List Nat}{dG:TI}{g:TG}{dv:TT}{cB:TE}
  (bv:X.calm=true) (S:Wq X ca x zs ix) (hi:PI X cV eA dG)
  (ea:∀cg C s H fp,PG (Zn X ca cg C (x::zs) s H fp) cV g/\PIf (Zn X ca cg C (x::zs) s H fp) ifs dv/\PE (Zn X ca cg C (x::zs) s H fp) fi cB)
  (hs:∀x,foldedSetIterable eA X.env x=pure x:=by intro _;rfl):
  PE X (.ListComp fi [⟨cV,eA,ifs,0⟩] ca pos) (uZ ix dG g dv cB):=by
 intro aj s af H Q I h;obtain⟨cg,nj,ew,hv⟩:=Um I.ok S;rw[eval_ListComp];refine wpAny_comprehension_free (use:=none) rfl hs nj S.kind S.names (thn (hi aj s af H _ I h) λv bu ak=>thn ak λoq bM a'=>?_);obtain⟨it,fp,d4,J,bt,e,cC,T,lm,f2,cr⟩:=a';subst e;refine Zen (RR:=λc_ C=>compPost (model X.prog X.w) X.A X.xe none (EP X aj af Q) c_ C) (λ_ _ _ _=>bv) S cC ew hv T.c lm f2 (λC s H=>ea cg C s H fp) cr λc_ C f s' h=>?_;obtain⟨p,ae,m,rfl,bz,eS,⟨dS,g1,g2,g3,ii,lC⟩,q⟩:=h;exact⟨m,bz,λh' ai=>⟨.ref p,ae,eS.turned (t':=s'.toks) (λb o e0 e=>(ai.2 b e0).trans e) dS g1 g3 ii lC,rfl,q⟩⟩
theorem nk{fi cV eA:Expr}{ifs:List Expr}{ca:Scope}{pos py ql:Pos}{x y:Str}{zs:List Str}{ix:List Nat}{dG:TI}{g:TG}{dv:TT}{cB:TE}{j:Nat}
  (bv:X.calm=true) (S:Wq X ca x zs ix) (hi:PI X cV eA dG)
  (ea:∀cg C s H fp,PG (Zn X ca cg C (x::zs) s H fp) cV g/\PIf (Zn X ca cg C (x::zs) s H fp) ifs dv/\PE (Zn X ca cg C (x::zs) s H fp) fi cB)
  (en:X.N.Nodup) (bw:X.N[j]? =some y) (bO:Loc X.env.scope y)
  (vf:swapsWith (.ListComp fi [⟨cV,eA,ifs,0⟩] ca pos) (some (.Name y py)) ql.line X.env=pure true:=by rfl)
  (bN:X.fn y=true\/X.env.scope.names.lookup y=some .local:=by first|exact .inl rfl|exact .inr rfl|assumption)
  (hs:∀x,foldedSetIterable eA X.env x=pure x:=by intro _;rfl):
  PS X (.Assign [.Name y py] (.ListComp fi [⟨cV,eA,ifs,0⟩] ca pos) ql) (pP (uZ ix dG g dv cB) (UL j)):=by
 intro aj s af H D I h;obtain⟨cg,nj,ew,hv⟩:=Um I.ok S;rw[exec_Assign_Name_used _ _ _ _ vf];refine wpAny_bind (wpAny_standAt (wpAny_bind ?_));show wpAny _ X.A (do let _<-comprehension (.ListComp fi [⟨cV,eA,ifs,0⟩] ca pos) ca X.env _ (newList []) false (eval eA X.env) (some (assign (.Name y py) X.env))) _ _ s;refine wpAny_bind (wpAny_mono (wpAny_comprehension_free (use:=some (assign (.Name y py) X.env)) (Q:=λ_ s'=>SP X aj D .next s') rfl hs nj S.kind S.names
  (thn (hi aj s af H _ I h) λv bu ak=>thn ak λoq bM a'=>?_)) (λ_ s' cr=>wpAny_pure (wpAny_pure cr)) λ_ _ e=>e)
 obtain⟨it,fp,d4,J,bt,e,cC,T,lm,f2,cr⟩:=a';subst e;refine Zen (Q:=λx a_=>UL j x af a_ D.nx) (RR:=λc_ C=>compPost (model X.prog X.w) X.A X.xe (some (assign (.Name y py) X.env)) (λ_ s'=>SP X aj D .next s') c_ C) (λ_ _ _ _=>bv) S cC ew hv T.c lm f2 (λC s H=>ea cg C s H fp) cr λc_ C f s' h=>?_;obtain⟨p,ae,m,rfl,bz,eS,⟨dS,g1,g2,g3,ii,lC⟩,q⟩:=h;show wpAny _ X.A (assign (.Name y py) X.env (.ref p)) _ _ _;refine wpAny_assign_Name (uv eS en bw bO (show cL (.ref p) (.ref p) from rfl) (λm8 I'' ⟨c,vg,l6⟩=>?_) bN);have e0:C≠c:=by
  rcases l6 with z|z
  .rw[z];exact g1
  .exact qbO (ii _ _ z)
 exact⟨m,bz.sameBut vg e0,λh' ai=>⟨_,ae,I''.turned (t':=m8.toks) (λb o e0 e=>(ai.2 b e0).trans e) dS g1 g3 ii lC,q⟩⟩
end
def Yg(h:Heap)(e:Addr):Prop:=∃o vs,h.get? e=some o/\o.data= .fields vs/\vs[2]? =some Value.none
def Kp (P:Heap->Prop) {cT:Type}:Sem cT->Prop
 | .pure _=>True
 | .raise _=>True
 | .unsupported _=>True
 | .finish _=>True
 | .rule _ k=>Kp P (k ())
 | .at _ k=>Kp P (k ())
 | .load _ _ k=>∀o,Kp P (k o)
 | .update a _ f k=>(∀h,P h->P (h.update a f))/\Kp P (k ())
 | .alloc o k=>(∀h,P h->P (h.push o))/\∀a,Kp P (k a)
 | .loadIfAlive _ k=>∀o,Kp P (k o)
 | .point _ k=>Kp P (k ())
 | .ask k=>∀x,Kp P (k x)
 | .stack k=>∀x,Kp P (k x)
 |_=>False
section
variable {cT gF:Type}{P:Heap->Prop}{M:Model}{A:Around}{E:Value->Shared->Prop}{s:Shared}
theorem Kp.wp{sg:PySem.Ctx}{Q:cT->Pos->Shared->Prop}{E:Value->Pos->Shared->Prop}(t:Sem cT):∀(p:Pos)(s:Shared),Kp P t->P s.heap->Sem.wp M sg t Q E p s->
  Sem.wp M sg t (λa p s'=>Q a p s'/\P s'.heap) (λe p s'=>E e p s'/\P s'.heap) p s:=by
 induction t with
 |pure a=>exact λp s _ bB h=>⟨h,bB⟩
 |raise a=>exact λp s _ bB h=>⟨h,bB⟩
 |unsupported w=>exact λp s _ bB h=>h
 |finish w=>exact λp s _ bB h=>h
 |rule _ k bQ=>exact λp s br bB h=>bQ () p s br bB h
 | «at» he k bQ=>exact λp s br bB h=>bQ () he s br bB h
 |load _ _ k bQ=>exact λp s br bB ⟨o,e,h⟩=>⟨o,e,bQ o p s (br o) bB h⟩
 |update _ _ _ k bQ=>exact λp s br bB ⟨e,h⟩=>⟨e,bQ () p _ br.2 (br.1 _ bB) h⟩
 |alloc _ k bQ=>exact λp s br bB h=>bQ _ p _ (br.2 _) (br.1 _ bB) h
 |loadIfAlive _ k bQ=>exact λp s br bB h=>bQ _ p s (br _) bB h
 |point _ k bQ=>exact λp s br bB h=>bQ () p s br bB h
 |ask k bQ=>exact λp s br bB h=>bQ _ p s (br _) bB h
 |stack k bQ=>exact λp s br bB h=>bQ _ p s (br _) bB h
 |register=>exact λp s br _ _=>False.elim br
 |fresh=>exact λp s br _ _=>False.elim br
 |choose=>exact λp s br _ _=>False.elim br
 |os=>exact λp s br _ _=>False.elim br
 |call=>exact λp s br _ _=>False.elim br
 |handled=>exact λp s br _ _=>False.elim br
 |newGen=>exact λp s br _ _=>False.elim br
 |genState=>exact λp s br _ _=>False.elim br
 |resume=>exact λp s br _ _=>False.elim br
 |yield=>exact λp s br _ _=>False.elim br
 |fork=>exact λp s br _ _=>False.elim br
 |thread=>exact λp s br _ _=>False.elim br
 |await=>exact λp s br _ _=>False.elim br
theorem Kp.any{t:Sem cT}{Q:cT->Shared->Prop}(k:Kp P t)(bB:P s.heap)(h:wpAny M A t Q E s):wpAny M A t (λa s'=>Q a s'/\P s'.heap) (λe s'=>E e s'/\P s'.heap) s:=λsg p Ho=>Kp.wp t p s k bB (h sg p Ho)
theorem Kp.bind{f:cT->Sem gF}(m:Sem cT):Kp P m->(∀a,Kp P (f a))->Kp P (m.bind f):=by
 induction m with
 |pure a=>exact λ_ bN=>bN a
 |raise a=>exact λ_ _=>trivial
 |unsupported w=>exact λ_ _=>trivial
 |finish w=>exact λ_ _=>trivial
 |rule _ k bQ=>exact λbr bN=>bQ () br bN
 | «at» _ k bQ=>exact λbr bN=>bQ () br bN
 |load _ _ k bQ=>exact λbr bN o=>bQ o (br o) bN
 |update _ _ _ k bQ=>exact λbr bN=>⟨br.1,bQ () br.2 bN⟩
 |alloc _ k bQ=>exact λbr bN=>⟨br.1,λa=>bQ a (br.2 a) bN⟩
 |loadIfAlive _ k bQ=>exact λbr bN o=>bQ o (br o) bN
 |point _ k bQ=>exact λbr bN=>bQ () br bN
 |ask k bQ=>exact λbr bN o=>bQ o (br o) bN
 |stack k bQ=>exact λbr bN o=>bQ o (br o) bN
 |register=>exact λbr _=>False.elim br
 |fresh=>exact λbr _=>False.elim br
 |choose=>exact λbr _=>False.elim br
 |os=>exact λbr _=>False.elim br
 |call=>exact λbr _=>False.elim br
 |handled=>exact λbr _=>False.elim br
 |newGen=>exact λbr _=>False.elim br
 |genState=>exact λbr _=>False.elim br
 |resume=>exact λbr _=>False.elim br
 |yield=>exact λbr _=>False.elim br
 |fork=>exact λbr _=>False.elim br
 |thread=>exact λbr _=>False.elim br
 |await=>exact λbr _=>False.elim br
theorem Kp.bd{m:Sem cT}{f:cT->Sem gF}(bz:Kp P m)(bN:∀a,Kp P (f a)):Kp P (m >>= f):=Kp.bind m bz bN
theorem Kp.pure(a:cT):Kp P (Pure.pure a:Sem cT):=trivial
theorem Kp.uns(w:String):Kp P (PySem.unsupported w:Sem cT):=trivial
theorem Kp.ite{c:Prop}[Decidable c]{a b:Sem cT}(bD:Kp P a)(ai:Kp P b):Kp P (if c then a else b):=by split<;>assumption
end
section
variable {e:Addr}
theorem Yg.slots{h:Heap}{a:Addr}{g:Obj->Array (Option Value)}(x:Yg h e):Yg (h.update a λo=>{o with slots:=g o}) e:=by
 obtain⟨o,vs,bJ,hd,a'⟩:=x
 by_cases bD:a=e
 .subst bD;exact⟨_,vs,Heap.get?_update_self _ bJ (Obj.isFreed_of_fields (vs:=vs) hd),hd,a'⟩
 .exact⟨o,vs,(Heap.get?_update_other _ _ bD).trans bJ,hd,a'⟩
theorem Yg.field{h:Heap}{a:Addr}{i:Nat}{v:Value}(hi:i≠2)(x:Yg h e):Yg (h.update a (Obj.mapFields (·.setIfInBounds i v))) e:=by
 obtain⟨o,vs,bJ,hd,a'⟩:=x
 by_cases bD:a=e
 .subst bD;exact⟨_,_,Heap.get?_update_self _ bJ (Obj.isFreed_of_fields (Obj.data_mapFields hd _)),Obj.data_mapFields hd _,by rw[Array.getElem?_setIfInBounds_ne hi];exact a'⟩
 .exact⟨o,vs,(Heap.get?_update_other _ _ bD).trans bJ,hd,a'⟩
theorem Yg.push{h:Heap}{cZ:Obj}(x:Yg h e):Yg (h.push cZ) e:=
 let⟨o,vs,bJ,r⟩:=x;⟨o,vs,Heap.get?_push_of_some _ bJ,r⟩
theorem Ze5{a:Addr}:Kp (λh=>Yg h e) (load a):=λ_=>trivial
theorem Zh9{v:Value}:Kp (λh=>Yg h e) (fieldsOf v):=by
 unfold fieldsOf;cases v<;>first|exact Kp.uns _|skip
 refine Kp.bd Ze5 λo=>?_
 split<;>trivial
theorem ZbD{v:Value}{i:Nat}:Kp (λh=>Yg h e) (field v i):=by
 unfold field;refine Kp.bd Zh9 λo=>?_
 split<;>trivial
theorem Zff{a:Addr}{i:Nat}{x:Value}(hi:i≠2):Kp (λh=>Yg h e) (updateField a i x):=by
 unfold updateField;refine Kp.bd Ze5 λo=>?_
 split
 .split
  .exact⟨λ_ h=>h.field hi,trivial⟩
  .trivial
 .trivial
theorem vh{v:Value}{i:Nat}{x:Value}(hi:i≠2):Kp (λh=>Yg h e) (setField v i x):=by
 unfold setField;cases v<;>first|exact Kp.uns _|exact Zff hi
theorem Zkm{env:Env}{outer:List Env}:Kp (λh=>Yg h e) (behindIsImport env outer):=by
 unfold behindIsImport;refine Kp.ite (Kp.pure _) (Kp.ite (Kp.pure _) (Kp.bd ZbD λ_=>Kp.pure _))
theorem Hq:Kp (λh=>Yg h e) underTheClaimsCaller:=by
 unfold underTheClaimsCaller;exact Kp.bd (λ_=>trivial) λ_=>Kp.pure _
theorem Zm2{env:Env}{zG:Bool}{outer:List Env}:Kp (λh=>Yg h e) (keptBack env zG outer):=by
 cases outer with
 |nil=>exact Kp.ite (Kp.pure _) (Kp.bd Hq λ_=>Kp.pure _)
 |cons c r=>exact Kp.pure _
theorem zH:∀l:List Env,Kp (λh=>Yg h e) (readyFrames l)
 | []=>Kp.pure _
 |env::outer=>by
  unfold readyFrames;cases env.frame with
  |none=>exact Kp.uns _
  |some f=>
   refine Kp.bd Ze5 λo=>?_;refine Kp.ite (Kp.pure _) (Kp.bd Zkm λzG=>Kp.bd Zm2 λoK=>Kp.bd ⟨λ_ h=>h.slots,trivial⟩ λ_=>zH outer)
theorem ZiL{env:Env}:Kp (λh=>Yg h e) (PySem.frameOf env):=by
 unfold PySem.frameOf;refine Kp.bd (Kp.bd (λ_=>trivial) λ_=>Kp.pure _) λl=>Kp.bd ?_ λo=>?_
 .generalize (l.dropWhile λx=>x.frame != env.frame)=k;cases k with
  |nil=>exact Kp.pure _
  |cons a r=>exact Kp.bd (zH _) λ_=>Kp.pure _
 .cases o with
  |none=>exact Kp.uns _
  |some x=>exact Kp.pure _
theorem Zgz{v:Value}{f:Option Addr}:Kp (λh=>Yg h e) (setFlight v f):=by
 unfold setFlight;refine Kp.bd ZbD λt=>?_;exact Kp.ite (vh (by decide)) (Kp.pure _)
theorem ZlG{f:Addr}{b:Bool}:Kp (λh=>Yg h e) (entryPlaceOf f b):=by
 unfold entryPlaceOf;refine Kp.bd (λ_=>trivial) λR4=>?_
 split<;>exact Kp.pure _
theorem ZkB{ty:String}{vs:List Value}:Kp (λh=>Yg h e) (newFields ty vs):=by
 unfold newFields newObj;have sh:Kp (λh=>Yg h e) (newObjAsIs (.type ty) (.fields vs.toArray)):=⟨λ_ h=>h.push,λ_=>trivial⟩;dsimp only
 split
 .exact Kp.uns _
 .exact sh
theorem ZmI{v:Value}{env:Env}:Kp (λh=>Yg h e) (noteFrame v env):=by
 unfold noteFrame;cases env.frame with
 |none=>exact Kp.uns _
 |some f=>
  have sh:∀hd:Value,Kp (λh=>Yg h e) (do let x<-PySem.frameOf env;let pl<-entryPlaceOf f (hd != Value.none);let b<-EntryCells.newEntry hd x .none (rawInt f) .none pl;setField v 1 b):=λhd=>
   Kp.bd ZiL λx=>Kp.bd ZlG λpl=>Kp.bd ZkB λb=>vh (by decide)
  refine Kp.bd ZbD λhd=>?_;refine Kp.ite ?_ (sh hd);refine Kp.bd ZbD λt=>Kp.ite (Kp.pure _) (Kp.bd (vh (by decide)) λ_=>sh hd)
theorem Zeg{v:Value}{env:Env}:Kp (λh=>Yg h e) (leaving env v):=Kp.bd ZmI λ_=>Zgz
section
variable {M:Model}{A:Around}{E:Value->Shared->Prop}{s:Shared}{base:Heap}{l outer:List Env}{env:Env}{L:Addr}{cls a0:Value}{Q:Unit->Shared->Prop}
theorem Kp.to{P R:Heap->Prop}{t:Sem Unit}(k:Kp P t)(bB:P s.heap)(h:wpAny M A t (λ_ s'=>∃h',s'={s with heap:=h'}/\R h') (λ_ _=>False) s)(h7:∀h',R h'->P h'->Q () {s with heap:=h'}):wpAny M A t Q E s:=
 wpAny_mono (k.any bB h) (λ_ _ ⟨⟨h',e,r⟩,p⟩=>by subst e;exact h7 h' r p) λ_ _ z=>z.1.elim
theorem Zjr(nl:Yg s.heap e)(gu:A.frames=some (env::outer))(bN:env.frame=some L)(kG:Heap.FlyingW base (env::outer) e cls a0 s.heap)
  (h7:∀h',Heap.FlyingW base outer e cls a0 h'->s.heap.UpToSlots h'->Yg h' e->Q () {s with heap:=h'}):wpAny M A (leaving env (.ref e)) Q E s:=
 Zeg.to (R:=λh'=>Heap.FlyingW base outer e cls a0 h'/\s.heap.UpToSlots h') nl (wpAny_leaves_onW gu bN kG λh' a b=>⟨h',rfl,a,b⟩) λh' r p=>h7 h' r.1 r.2 p
theorem Zhz{h:Heap}{args:List Value}(gu:A.frames=some (env::outer))(bN:env.frame=some L)(Hr:base.StaysIn h)(ag:h.FunFrames base (env::outer))(bp:Heap.MadeExcOf h s.heap e cls args)
  (h7:∀h' t,Heap.FlyingW base outer e cls (.ref t) h'->h'.TupAt t args->base.get? t=none->s.heap.UpToSlots h'->Yg h' e->Q () {s with heap:=h'}):wpAny M A (leaving env (.ref e)) Q E s:=by
 have nl:Yg s.heap e:=by
  obtain⟨t,bK,_⟩:=bp.there;exact⟨_,_,bK,rfl,rfl⟩
 exact Zeg.to (R:=λh'=>∃t,Heap.FlyingW base outer e cls (.ref t) h'/\h'.TupAt t args/\base.get? t=none/\s.heap.UpToSlots h') nl (wpAny_leaves_madeW gu bN Hr ag bp λh' t a b c d=>⟨h',rfl,t,a,b,c,d⟩) λh' ⟨t,a,b,c,d⟩ p=>h7 h' t a b c d p
end
end
def CXX (P:Program) (w:World):CXT:=λouter H s E e s'=>
 ∃(dn:Addr)(cls a0:Value)(ae:Hp)(B:Heap),e= .ref dn/\s'.os=s.os/\AllBare s'.gens/\Un (frs outer) [] H ae s.heap s'.heap/\HOk P w ae s'.heap/\
  Heap.FlyingW B outer dn cls a0 s'.heap/\(∀b o,s'.heap.get? b=some o->(ae b≠none\/((∃cx,s.heap.get? b=some cx)/\b∉frs outer))->B.get? b=some o)/\Yg s'.heap dn/\E cls none ae
theorem HOk.stays{P:Program}{w:World}{H:Hp}{h h' B:Heap}(ok:HOk P w H h)(f_:∀b o,h.get? b=some o->H b≠none->B.get? b=some o)(st:B.StaysIn h'):HOk P w H h':=λa o e=>
 (ok a o e).stay (λb u ai q=>st b u (f_ b u q (by
  rcases ai with rfl|ai
  .rw[e];exact λz=>nomatch z
  .rw[ai];exact λz=>nomatch z))) (λ_ q=>q) λ_ _ q=>q
theorem Z5.got{P:Program}{w:World}{H:Hp}{h:Heap}{a:Addr}{o:HO}(x:Z5 P w H h a o):∃cZ,h.get? a=some cZ:=by
 cases o with
 |lst xs=>obtain⟨_,_,_,_,e⟩:=x;exact⟨_,e⟩
 |tup xs=>obtain⟨_,_,_,p⟩:=x;obtain⟨cZ,e,_⟩:=p;exact⟨cZ,e⟩
 |dK kvs=>obtain⟨_,_,_,_,o,_,_,e,_⟩:=x;exact⟨o,e⟩
 |dT kvs=>obtain⟨_,_,_,_,o,_,_,e,_⟩:=x;exact⟨o,e⟩
 |set S n=>obtain⟨o,_,_,_,e,_⟩:=x;exact⟨o,e⟩
 |ins C bx fs=>obtain⟨_,_,_,e,_⟩:=x;exact⟨_,e⟩
 |own y=>exact x
 |xd fs=>obtain⟨_,⟨o,_,_,e,_⟩,_⟩:=x;exact⟨o,e⟩
 |rng lo hi=>obtain⟨_,_,_,e⟩:=x;exact⟨_,e⟩
 |frz cZ u=>obtain⟨e,_⟩:=x;exact⟨cZ,e⟩
 |tbl b_=>exact⟨_,(show h.get? a=some _ from x)⟩
 |met f y=>exact⟨_,(show h.get? a=some _ from x)⟩
 |ext mU=>obtain⟨_,e,_⟩:=x;exact e
theorem Un.fly{fs:List Addr}{H ae:Hp}{h ak a' B:Heap}(u:Un fs [] H ae h ak)(f_:∀b o,ak.get? b=some o->(ae b≠none\/((∃cx,h.get? b=some cx)/\b∉fs))->B.get? b=some o)
  (st:B.StaysIn a') (sl:ak.UpToSlots a') (bN:∀b∈fs,∀o,h.get? b=some o->∀vs,o.data≠ .fields vs) (mV:∀b∈fs,H b=none):Un fs [] H ae h a' where
 keep:=λb o e n ai bp=>st b o (f_ b o (u.keep b o e n ai bp) (.inr ⟨⟨_,e⟩,ai⟩))
 slot:=λb o e n ai bp=>by
  obtain⟨bu,bE⟩:=u.slot b o e n ai bp;obtain⟨bM,bP⟩:=sl b _ bE (bN b ai o e);exact⟨bM,bP⟩
 free:=u.free
 there:=λb o e bp=>by
  by_cases ai:b∈fs
  .obtain⟨bu,bE⟩:=u.slot b o e (mV b ai) ai bp;obtain⟨bM,bP⟩:=sl b _ bE (bN b ai o e);exact⟨_,bP⟩
  .obtain⟨cx,bE⟩:=u.there b o e bp;exact⟨cx,st b cx (f_ b cx bE (.inr ⟨⟨_,e⟩,ai⟩))⟩
 tups:=u.tups
 frzs:=u.frzs
 tbls:=u.tbls
section
variable {P:Program}{w:World}{K:Frag}{mg:Str->Option Value}{base:Heap}{N:List Str}{qual:Str}{scope:Scope}{f:Addr}{de:Value}{A:Around}{outer:List Env}{s₀:Shared}{H₀:Hp}{E:XK}
noncomputable abbrev cxX (P:Program) (w:World) (K:Frag) (mg:Str->Option Value) (base:Heap) (N:List Str) (qual:Str) (scope:Scope) (f:Addr) (de:Value) (A:Around) (outer:List Env) (s₀:Shared) (H₀:Hp) (E:XK):Cx:=
 ZL (CXX P w) P w K mg base N qual scope f de A outer s₀ H₀ E
theorem ZlZ{aj:List (Addr×Obj)}{af:St}{H ae:Hp}{s s':Shared}{dn:Addr}{cls a0:Value}{B:Heap}(I:Inv (cxX P w K mg base N qual scope f de A outer s₀ H₀ E) aj af H s)
  (os:s'.os=s.os) (bare:AllBare s'.gens) (u:Un (frs (cxX P w K mg base N qual scope f de A outer s₀ H₀ E).stack) [] H ae s.heap s'.heap) (ok:HOk P w ae s'.heap)
  (fK:Heap.FlyingW B (cxX P w K mg base N qual scope f de A outer s₀ H₀ E).stack dn cls a0 s'.heap)
  (f_:∀b o,s'.heap.get? b=some o->(ae b≠none\/((∃cx,s.heap.get? b=some cx)/\b∉frs (cxX P w K mg base N qual scope f de A outer s₀ H₀ E).stack))->B.get? b=some o) (nl:Yg s'.heap dn) (q:E cls none ae):
  (cxX P w K mg base N qual scope f de A outer s₀ H₀ E).xe (.ref dn) s':=by
 have gu:(A.deeper (envOfC qual scope s₀.heap.objs.size f de)).frames=some (envOfC qual scope s₀.heap.objs.size f de::outer):=I.ok.frames;refine Zjr nl (L:=s₀.heap.objs.size) gu rfl fK λa' si sl Hs=>?_;have below:∀b o,s₀.heap.get? b=some o->b∉frs outer->(∃cx,s.heap.get? b=some cx)/\b∉frs (cxX P w K mg base N qual scope f de A outer s₀ H₀ E).stack:=λb o e bH=>
  ⟨I.base.there b o e (by intro z;exact absurd (show b∈([]:List Addr) from z) (by simp)),λz=>by
   rcases qah.mp (I.stkSub b z) with q|q
   .have ai:=Heap.lt_size e;have iE:b=s₀.heap.objs.size:=q;rw[iE] at ai;exact qbr _ ai
   .exact bH q⟩
 have qm:Un (frs outer) [] H₀ ae s₀.heap s'.heap:=by
  have c2:Un (frs outer) [] H₀ H s₀.heap s.heap:=I.base;refine⟨λb o e n ai bp=>?_,λb o e n ai bp=>?_,λb o e n bp=>?_,λb o e bp=>?_,λb xs e=>u.tups b xs (c2.tups b xs e),λb o v e=>u.frzs b o v (c2.frzs b o v e),λb b_ e=>?_⟩
  .exact u.keep b o (c2.keep b o e n ai bp) (c2.free b o e n bp) (below b o e ai).2 bp
  .obtain⟨bu,bE⟩:=c2.slot b o e n ai bp;obtain⟨bM,bP⟩:=u.any bE (c2.free b o e n bp) bp;exact⟨bM,bP⟩
  .obtain⟨cx,bE⟩:=c2.there b o e bp;exact u.free b cx bE (c2.free b o e n bp) bp
  .obtain⟨cx,bE⟩:=c2.there b o e bp;exact u.there b cx bE bp
  .obtain⟨fJ,bE⟩:=c2.tbls b b_ e;obtain⟨gl,bP⟩:=u.tbls b _ bE;exact⟨fJ++gl,by rw[bP,Array.append_assoc]⟩
 have qn:∀b o,s'.heap.get? b=some o->(ae b≠none\/((∃cx,s₀.heap.get? b=some cx)/\b∉frs outer))->B.get? b=some o:=λb o e h=>f_ b o e (h.imp id λ⟨⟨cx,z⟩,bH⟩=>below b cx z bH);have Ht:HOk P w ae a':=ok.stays (λb o e n=>f_ b o e (.inl n)) si.1;refine⟨dn,cls,a0,ae,B,rfl,os.trans I.os,bare,qm.fly qn si.1 sl (λb ai o e=>?_) (I.ok.frf),Ht,si,λb o e h=>?_,Hs,q⟩
 .obtain⟨_,cx,b',d⟩:=I.ok.funs.mem ai;have qo:s₀.heap.get? b=some cx:=b';rw[e] at qo;cases qo;exact d
 .have ex:∃cx,s'.heap.get? b=some cx:=by
   rcases h with h|⟨h,bH⟩
   .cases cG:ae b with
    |none=>exact absurd cG h
    |some v=>exact(ok b v cG).got
   .obtain⟨vi,m4⟩:=h;exact qm.there b vi m4 (by simp)
  obtain⟨cx,b'⟩:=ex;have bP:=qn b cx b' h;have dj:=si.1 b cx bP;have hA:a'.get? b=some o:=e;rw[dj] at hA;cases hA;exact bP
theorem cw:WI (CXX P w) (cxX P w K mg base N qual scope f de A outer s₀ H₀ E) E:=by
 intro aj af H s e s' I h;obtain⟨dn,cls,a0,ae,B,rfl,os,bare,u,ok,fK,f_,nl,q⟩:=h;exact ZlZ I os bare u ok fK f_ nl q
def vj (cls:Value) (E:XK) (t:TA):TS:=λ_ af H=>t af H λvs a_=>vs.length<=sizeLine/\E cls none a_
theorem Zkh{aj:List (Addr×Obj)}{af:St}{H:Hp}{s:Shared}{h':Heap}{dn:Addr}{cls:Value}{us:List Value}(I:Inv (cxX P w K mg base N qual scope f de A outer s₀ H₀ E) aj af H s)
  (bp:Heap.MadeExcOf s.heap h' dn cls us) (q:E cls none H):(cxX P w K mg base N qual scope f de A outer s₀ H₀ E).xe (.ref dn) {s with heap:=h'}:=by
 have gu:(A.deeper (envOfC qual scope s₀.heap.objs.size f de)).frames=some (envOfC qual scope s₀.heap.objs.size f de::outer):=I.ok.frames;have ea:∀env∈(cxX P w K mg base N qual scope f de A outer s₀ H₀ E).stack,∀b,env.frame=some b->b∈frs (cxX P w K mg base N qual scope f de A outer s₀ H₀ E).stack:=λenv bK b ai=>List.mem_filterMap.mpr ⟨env,bK,ai⟩;have inB:∀b o,s.heap.get? b=some o->(H b≠none\/((∃cx,s₀.heap.get? b=some cx)/\b∉frs outer))->(hideAll s.heap (frs (cxX P w K mg base N qual scope f de A outer s₀ H₀ E).stack)).get? b=some o:=λb o e h=>
  hideAll_get _ e λz=>by
   rcases h with h|⟨⟨cx,b'⟩,bH⟩
   .exact h (I.stkFree b z)
   .rcases qah.mp (I.stkSub b z) with q|q
    .have ai:=Heap.lt_size b';have iE:b=s₀.heap.objs.size:=q;rw[iE] at ai;exact qbr _ ai
    .exact bH q
 refine Zhz (base:=hideAll s.heap (frs (cxX P w K mg base N qual scope f de A outer s₀ H₀ E).stack)) (h:=s.heap) (L:=s₀.heap.objs.size) gu rfl (λb o e=>of_hideAll _ e) (PySem.W.funFrames_hide I.stack ea) bp λbL t fK _ _ sl Hu=>?_;have ur:s.heap.UpToSlots bL:=(Heap.UpToSlots.of_keeps bp.keeps).trans sl;have c2:Un (frs outer) [] H₀ H s₀.heap s.heap:=I.base;have Hv:HOk P w H bL:=I.hok.stays (λb o e n=>inB b o e (.inl n)) fK.1;refine⟨dn,cls,_,H,_,rfl,I.os,I.bare,c2.fly inB fK.1 ur (λb ai o e=>?_) I.ok.frf,Hv,fK,λb o e h=>?_,Hu,q⟩
 .obtain⟨_,cx,b',d⟩:=I.ok.funs.mem ai;have qo:s₀.heap.get? b=some cx:=b';rw[e] at qo;cases qo;exact d
 .have ex:∃cx,s.heap.get? b=some cx:=by
   rcases h with h|⟨⟨vi,m4⟩,_⟩
   .cases cG:H b with
    |none=>exact absurd cG h
    |some v=>exact(I.hok b v cG).got
   .exact c2.there b vi m4 (by simp)
  obtain⟨cx,b'⟩:=ex;have bP:=inB b cx b' h;have dj:=fK.1 b cx bP;have hA:bL.get? b=some o:=e;rw[dj] at hA;cases hA;exact bP
theorem ZlL{x:Str}{hf dD pos:Pos}{lD:Expr}{rest:List Expr}{t:TA}{C:Addr}{B mi vk:String}{bm:List Value}(O:OwnCls x C bm mi mg base)(FB:ExcBaseFacts B mi vk bm)
  (bG:Gl (cxX P w K mg base N qual scope f de A outer s₀ H₀ E) x) (bD:PA (cxX P w K mg base N qual scope f de A outer s₀ H₀ E) (lD::rest) t)
  (bK:starEach (lD::rest) (cxX P w K mg base N qual scope f de A outer s₀ H₀ E).env=(false,eval lD (cxX P w K mg base N qual scope f de A outer s₀ H₀ E).env)::starEach rest (cxX P w K mg base N qual scope f de A outer s₀ H₀ E).env:=by rfl)
  (m_:(backTo dD (starEach rest (cxX P w K mg base N qual scope f de A outer s₀ H₀ E).env)).any (·.1)=false:=by rfl) (fV:(x==("__debug__" :Str))=false:=by decide):
  PS (cxX P w K mg base N qual scope f de A outer s₀ H₀ E) (.Raise (some (.Call (.Name x hf) (lD::rest) [] dD)) none pos) (vj (.ref C) E t):=by
 intro aj s af H D I h;obtain⟨dH,Hw,nm,q,bs,hdct,sn,sub,ab,col,dd,k0,k1,k2,k3,k5,mN,hT,en,sj,T⟩:=O.obj;refine wpAny_Raise_call_subT (C:=C) (nm:=nm) (q:=q) (N:=Hw) (bs:=bs) (bm:=dH) (hdct:=hdct) (sn:=sn) (sub:=sub) (ab:=ab) (col:=col) (dd:=dd) (k0:=k0) (k1:=k1) (k2:=k2) (k3:=k3) (k5:=k5)
  FB (mN:=mN) (T.hasType FB.hasBase) (I.ok.hd rfl) (by rw[bK];show(false||(backTo dD (starEach rest (cxX P w K mg base N qual scope f de A outer s₀ H₀ E).env)).any (·.1))=false;rw[m_];rfl) sj (mX I bG O.bound ⟨rfl,?_⟩ fV)
 have h':=bD dD aj s af H _ I h;rw[bK] at h'|-;refine Calls.evalArgs_plain (thn h' λus bM ⟨vs,bt,cC,r,hz,cG⟩=>⟨rfl,by rw[<-r.length];exact hz,cC.bk _ _ hT,en.keeps cC.bk,T.keeps cC.bk,λbL e bz=>Zkh cC bz cG⟩)
end
mutual
inductive eV(K:Frag)(H:Hp):V->PyData->Prop
 |non:eV K H .non .none
 |bl (b:Bool):eV K H (.bl b) (.bool b)
 |int (i:Int):eV K H (.int i) (.int i)
 |str (x:Str):eV K H (.str x) (.str x)
 |lst {a:Addr} {xs:List V} {ck:List PyData} (h:SqL K H a xs) (r:DRels K H xs ck):eV K H (.ref a) (.list ck)
 |tup {a:Addr} {xs:List V} {ck:List PyData} (h:SqT K H a xs) (r:DRels K H xs ck):eV K H (.ref a) (.tuple ck)
inductive DRels(K:Frag)(H:Hp):List V->List PyData->Prop
 |nil:DRels K H [] []
 |cons {x:V} {d:PyData} {xs:List V} {ck:List PyData} (h:eV K H x d) (r:DRels K H xs ck):DRels K H (x::xs) (d::ck)
end
theorem DRels.ints{K:Frag}{H:Hp}:∀ns:List Int,DRels K H (ns.map V.int) (ns.map PyData.int)
 | []=> .nil
 |n::ns=> .cons (.int n) (DRels.ints ns)
section
variable {X:Cx}{aj:List (Addr×Obj)}{af:St}{H:Hp}{s:Shared}
mutual
theorem eV.reads(I:Inv X aj af H s):∀{x:V}{d:PyData}{v:Value},eV X.K H x d->cL x v->∃as,Reads s.heap v d as
 |_,_,_,.non,r=>by cases (show _=Value.none from r);exact⟨_,.none⟩
 |_,_,_,.bl b,r=>by cases (show _=Value.bool b from r);exact⟨_,.bool b⟩
 |_,_,_,.int i,r=>by obtain⟨t,e⟩:=r;cases e;exact⟨_,.int i t⟩
 |_,_,_,.str x,r=>by obtain⟨t,e⟩:=r;cases e;exact⟨_,.str x t⟩
 |_,_,_,.lst (a:=a) h rs,r=>by
  cases (show _=Value.ref a from r);obtain⟨its,c',p,hz⟩:=I.list h;obtain⟨o,bJ,bv,n,hd⟩:=p.isList;obtain⟨as,q⟩:=DRels.reads I rs c';exact⟨_,.list bJ bv hd (by simpa using q)⟩
 |_,_,_,.tup (a:=a) h rs,r=>by
  cases (show _=Value.ref a from r);obtain⟨its,c',p,hz⟩:=I.tuple h;obtain⟨o,bJ,bv,n,hd⟩:=(show s.heap.IsTuple a its.toArray from p);obtain⟨as,q⟩:=DRels.reads I rs c';exact⟨_,.tuple bJ bv hd (by simpa using q)⟩
theorem DRels.reads(I:Inv X aj af H s):∀{xs:List V}{ck:List PyData}{vs:List Value},DRels X.K H xs ck->cR xs vs->∃as,ReadsAll s.heap vs ck as
 |_,_,_,.nil,.nil=>⟨_,.nil⟩
 |_,_,_,.cons h r,.cons q t=>by
  obtain⟨as,e⟩:=eV.reads I h q;obtain⟨bs,b'⟩:=DRels.reads I r t;exact⟨_,.cons e b'⟩
end
end
def mj (K:Frag) (neg:Bool):R2:=λx y H Q=>∃bx hg,eV K H x bx/\eV K H y hg/\bx.canLay0=true/\hg.canLay0=true/\bx.depth<=60/\Q (.bl (if neg then !PyData.eqv bx hg else PyData.eqv bx hg)) H
section
variable {X:Cx}
theorem Hx(hu:X.A.units+64<cLine):OpR X (compareOp .Eq) (mj X.K false):=by
 intro aj s af H x y v u Q I b3 cj h;obtain⟨bx,hg,ak,a',e9,eb,dp,q⟩:=h;obtain⟨as,cq⟩:=ak.reads I b3;obtain⟨bs,cN⟩:=a'.reads I cj;exact SeqAt.compareEq_reads cq cN e9 eb (by have:min bx.depth hg.depth<=bx.depth:=Nat.min_le_left _ _;omega) ⟨.bl _,H,I,rfl,q⟩
theorem Hy(hu:X.A.units+64<cLine):OpR X (compareOp .NotEq) (mj X.K true):=by
 intro aj s af H x y v u Q I b3 cj h;obtain⟨bx,hg,ak,a',e9,eb,dp,q⟩:=h;obtain⟨as,cq⟩:=ak.reads I b3;obtain⟨bs,cN⟩:=a'.reads I cj;exact SeqAt.compareNe_reads cq cN e9 eb (by have:min bx.depth hg.depth<=bx.depth:=Nat.min_le_left _ _;omega) ⟨.bl _,H,I,rfl,q⟩
end
section
variable {P:Program}{w:World}{K:Frag}{mg:Str->Option Value}{base:Heap}
theorem Fun.okX{x qual:Str}{st:Stmt}{f:Addr}{fd:FuncData}{N b_:List Str}{k:Nat}{sp:Sp}(F:Fun K x qual st f fd)(S:Zt N b_ (cn st))(len:∀vs H Q E,sp vs H Q E->vs.length=b_.length)
  (p4:∀(cz:Value)(A:Around)(outer:List Env)(s:Shared)(H:Hp)(vs:List V)(Q:VK)(E:XK),eH k (A.deeper (envOfC qual (cn st) s.heap.objs.size f cz))->sp vs H Q E->
   ∃t,PSs (cxX P w K mg base N qual (cn st) f cz A outer s H E) (jd st) t/\t {nx:=λ_ ae=>Q .non ae,rt:=Q} (start N vs) H):Wc P w K mg base (CXX P w) (k+1) f fd b_ sp:=by
 obtain⟨ft,ef,kV,fh,es,an,cz,ct,gY,rfl,lk,i9⟩:=F.ex;exact Zmc lk i9 S len λA outer s H vs Q E ap kB=>p4 cz A outer s H vs Q E ap kB
theorem Uo{X:Cx}:WI (CXX X.prog X.w) X E0:=by
 intro aj af H s e s' I h;obtain⟨dn,cls,a0,ae,B,_,_,_,_,_,_,_,_,z⟩:=h;exact z.elim
end
section
variable {X:Cx}
def rOr (r c7:R2):R2:=λx y H Q=>r x y H Q\/c7 x y H Q
def Zes:R2:=λx y H Q=>∃i j,x= .str i/\y= .str j/\i.length+j.length<=sizeLine/\Q (.str (i++j)) H
def sk:R2:=rI0 λi j=> .int (i+j)
def ZjK:R2:=rI (λi j=>IntMulOk i j) λi j=> .int (i*j)
theorem Hz:OpR X (binaryOp .Add) (rOr sk (rOr Zes (rOr rCat (p7 X.K)))):=Gq.or (Gz.or (G1.or GP))
theorem gL:OpR X (binaryOp .Mult) (rOr ZjK rRep):=Hl.or G3
theorem ZnR(hu:X.A.units+64<cLine):OpR X (compareOp .Eq) (rOr rEq (mj X.K false)):=Gs.or (Hx hu)
theorem ZnL(hu:X.A.units+64<cLine):OpR X (compareOp .NotEq) (rOr rNe (mj X.K true)):=Gu.or (Hy hu)
end
namespace Rd
section
variable {af:St}{H:Hp}{Q:VK}{D:VR}{K:Frag}{c7:R2}
theorem Zpr{i j:Int}(q:Q (.int (i+j)) H):rOr sk c7 (.int i) (.int j) H Q:= .inl ⟨i,j,rfl,rfl,q⟩
theorem ZnZ{cq:R2}{i j:Str}(ag:i.length+j.length<=sizeLine)(q:Q (.str (i++j)) H):rOr cq (rOr Zes c7) (.str i) (.str j) H Q:= .inr (.inl ⟨i,j,rfl,rfl,ag,q⟩)
theorem ZnA{cq cN:R2}{a b:Addr}{xs ys:List V}(bD:H a=some (.lst xs))(ai:H b=some (.lst ys))(ag:xs.length+ys.length<=sizeLine)(q:∀p,H p=none->Q (.ref p) (upd H p (.lst (xs++ys)))):
  rOr cq (rOr cN (rOr rCat c7)) (.ref a) (.ref b) H Q:= .inr (.inr (.inl ⟨a,b,xs,ys,rfl,rfl,bD,ai,ag,q⟩))
theorem mulI{i j:Int}(c:IntMulOk i j)(q:Q (.int (i*j)) H):rOr ZjK c7 (.int i) (.int j) H Q:= .inl ⟨i,j,rfl,rfl,c,q⟩
theorem Zpa{i j:Int}(q:Q (.bl (decide (i=j))) H):rOr rEq c7 (.int i) (.int j) H Q:= .inl (eqI q)
theorem ZpA{i j:Int}(q:Q (.bl (!decide (i=j))) H):rOr rNe c7 (.int i) (.int j) H Q:= .inl (neI q)
theorem Zpb{i j:Bool}(q:Q (.bl (!(i==j))) H):rOr rNe c7 (.bl i) (.bl j) H Q:= .inl ⟨rfl,by rw[ZgN];exact q⟩
theorem ZgB{x y:V}{bx hg:PyData}(bp:eV K H x bx)(bO:eV K H y hg)(qp:bx.canLay0=true)(vl:hg.canLay0=true)(dp:bx.depth<=60)(q:Q (.bl (PyData.eqv bx hg)) H):rOr rEq (mj K false) x y H Q:=
 .inr ⟨bx,hg,bp,bO,qp,vl,dp,q⟩
theorem Znc{x y:V}{bx hg:PyData}(bp:eV K H x bx)(bO:eV K H y hg)(qp:bx.canLay0=true)(vl:hg.canLay0=true)(dp:bx.depth<=60)(q:Q (.bl (!PyData.eqv bx hg)) H):rOr rNe (mj K true) x y H Q:=
 .inr ⟨bx,hg,bp,bO,qp,vl,dp,q⟩
theorem Zn0{p:Addr}{xs:List V}{i:Int}{v:V}(h:SqL K H p xs)(e:atI xs i=some v)(q:Q v H):rIx K (.ref p) (.int i) H Q:= .inl (ixl h e q)
theorem Zo8{p:Addr}{xs:List V}{i:Int}{v:V}(h:SqT K H p xs)(e:atI xs i=some v)(q:Q v H):rIx K (.ref p) (.int i) H Q:= .inr (.inl (ixt h e q))
theorem Zph{C:Nat->Prop}{p:Addr}{xs:List V}(h:SqL K H p xs)(q:C xs.length):∃x n,[V.ref p]=[x]/\ZbQ K x H n/\C n:=⟨_,_,rfl,.inl ⟨xs,h,rfl⟩,q⟩
theorem ZoK{C:Nat->Prop}{p:Addr}{xs:List V}(h:SqT K H p xs)(q:C xs.length):∃x n,[V.ref p]=[x]/\ZbQ K x H n/\C n:=⟨_,_,rfl,.inr ⟨xs,h,rfl⟩,q⟩
theorem lenS{C:Nat->Prop}{y:Str}(h:y.length<=sizeLine)(q:C y.length):∃x n,[V.str y]=[x]/\ZbQ K x H n/\C n:=⟨_,_,rfl,⟨h,rfl⟩,q⟩
theorem ZoP{i:Nat}{v:V}{bY:St}{Q:St->Hp->Prop}(e:af.set i (some v)=bY)(h:Q bY H):UL i v af H Q:=by
 subst e;exact h
theorem ifP{c A B:Prop}[Decidable c](h:c)(a:A):if decide c=true then A else B:=by rw[decide_eq_true h];exact Zjo a
theorem ifN{c A B:Prop}[Decidable c](h:¬c)(b:B):if decide c=true then A else B:=by rw[decide_eq_false h];exact Zhq b
theorem ZpI{c A B:Prop}[Decidable c](h:c)(b:B):if(!decide c)=true then A else B:=by rw[decide_eq_true h];exact Zhq b
theorem Zpv{b:Bool}{C:Bool->Prop}(q:C b):∃k,pY K (.bl b) H k/\C k:=⟨b,rfl,q⟩
end
end Rd
namespace Rd
section
variable {H:Hp}{C:Bool->Prop}{K:Frag}
theorem Zjl{i:Int}(q:C true):∃x fQ t b,[V.int i,.ty "int"]=[x,.ty fQ]/\WN K H x t/\kitOne K t (.type fQ)=some b/\C b:=⟨_,_,_,true,rfl,.int i,rfl,q⟩
theorem ZhY{i:Int}(q:C false):∃x fQ t b,[V.int i,.ty "bool"]=[x,.ty fQ]/\WN K H x t/\kitOne K t (.type fQ)=some b/\C b:=⟨_,_,_,false,rfl,.int i,rfl,q⟩
theorem Zjq{i:Str}(q:C true):∃x fQ t b,[V.str i,.ty "str"]=[x,.ty fQ]/\WN K H x t/\kitOne K t (.type fQ)=some b/\C b:=⟨_,_,_,true,rfl,.str i,rfl,q⟩
theorem ZhS{p:Addr}{xs:List V}(h:H p=some (.lst xs))(q:C true):∃x fQ t b,[V.ref p,.ty "list"]=[x,.ty fQ]/\WN K H x t/\kitOne K t (.type fQ)=some b/\C b:=⟨_,_,_,true,rfl,.lst h,rfl,q⟩
theorem Zg0{p:Addr}{xs:List V}(h:H p=some (.tup xs))(q:C true):∃x fQ t b,[V.ref p,.ty "tuple"]=[x,.ty fQ]/\WN K H x t/\kitOne K t (.type fQ)=some b/\C b:=⟨_,_,_,true,rfl,.tup h,rfl,q⟩
end
end Rd
noncomputable def Ziv (qq ca:Scope) (N zs:List Str) (ix:List Nat):Bool:=
 decide (ca.kind= .function)&&(ca.names.all λy=>decide (y.2≠ .cell))&&(ca.names.all λy=>decide (y.2= .local->ca.names.lookup y.1=some .local))&&
 (ca.names.all λy=>decide (y.2= .free->qq.names.lookup y.1=some .cell\/qq.names.lookup y.1=some .free))&&(zs.all λz=>decide (ca.names.lookup z=some .free))&&decide (ix.map (λj=>N[j]?)=zs.map some)
theorem e5{X:Cx}{ca:Scope}{x:Str}{zs:List Str}{ix:List Nat}(qq:Scope)(N:List Str)(bE:X.env.scope=qq)(bP:X.N=N)(h:Ziv qq ca N zs ix=true):Wq X ca x zs ix:=by
 unfold Ziv at h;simp only[qaU,qbm,decide_eq_true_eq] at h;obtain⟨⟨⟨⟨⟨ak,a'⟩,bL⟩,cu⟩,dJ⟩,da⟩:=h;subst bE bP;exact⟨ak,a',bL,cu,dJ,da⟩
def Ze7(CX:CXT)(X:Cx)(J:St->Prop)(E:XK):Prop:=∀(aj:List (Addr×Obj))(af:St)(H:Hp)(s:Shared)(e:Value)(s':Shared),J af->Inv X aj af H s->CX X.stack H s E e s'->X.xe e s'
def ZhA (J:St->Prop) (C:Addr) (sp:Sp) (er:List V) (E:XK) (t:TA):TE:=λaf H Q=>J af/\t af H λvs a_=>∀x bx,a_ x=none->a_ bx=none->bx≠x->
 sp (.ref x::(vs++er)) (upd (upd a_ bx (.own x)) x (.ins C bx [])) (λv bt=>v= .non/\Q (.ref x) bt) E
section
variable {X:Cx}{CX:CXT}{k:Nat}{f C:Addr}{fd:FuncData}{b_:List Str}{sp:Sp}{er:List V}{ck:List Value}{E:XK}{J:St->Prop}{x m:Str}{p pos dA:Pos}{e o:Expr}{bC:List Expr}{b9:TE}{t:TA}
def ZpS(X:Cx)(body:List Stmt)(cH:(St->Prop)->XK->TS):Prop:=∀(J:St->Prop)(ji:XK)(pn:List (Addr×Obj))(lE:Value->Shared->Prop),PassesOwn (model X.prog X.w) X.A X.env lE->
 Ze7 (CXX X.prog X.w) {X with pn:=pn,xe:=lE} J ji->PSs {X with pn:=pn,xe:=lE} body (cH J ji)
def ZnP(X:Cx)(qr:List Stmt)(hq:TS):Prop:=∀(fX:Around),PSs {X with A:=fX,calm:=false,xe:=λ_ _=>False} qr hq
def zI (K:Frag) (c:Value) (cH:(St->Prop)->XK->TS) (hq:TS):TS:=λD af H=>∃(J:St->Prop)(ji:XK),cH J ji D af H/\∀bY cls ae,J bY->ji cls none ae->exmOne K cls c=some true/\hq D bY ae
theorem HA{body:List Stmt}{vm:Stmt}{qr:List Stmt}{x:Str}{hf fu pos:Pos}{cH:(St->Prop)->XK->TS}{hq:TS}{C:Addr}
  (eN:X.stack=X.env::X.outer) (gu:X.env.frame=some X.env.locals) (bG:Gl X x) (bz:X.mg x=some (.ref C)) (ai:ZpS X body cH) (hs:ZnP X (vm::qr) hq) (fV:(x==("__debug__" :Str))=false:=by decide):
  PS X (.Try body [.ExceptHandler (some (.Name x hf)) none (vm::qr) fu] [] [] pos) (zI X.K (.ref C) cH hq):=by
 intro aj s af H D I h;obtain⟨J,ji,gM,b4⟩:=h;have HB:X.A.frames=some (X.env::X.outer):=by rw[I.ok.frames,eN]
 refine wpAny_Try_except ?_
 let lE:Value->Shared->Prop:=λe du=>wpAny (model X.prog X.w) X.A (noteFrame e X.env) (λ_ ks=>wpAny (model X.prog X.w) X.A (setFlight e none) (λ_ jU=>wpAny (model X.prog X.w) X.A (handleBy e X.env [.ExceptHandler (some (.Name x hf)) none (vm::qr) fu]) (SP X aj D) X.xe jU) X.xe ks) X.xe du
 have own:PassesOwn (model X.prog X.w) X.A X.env lE:=PassesOwn.looking;have oK:∀{xe:Value->Shared->Prop}{om:List (Addr×Obj)}{bY:St}{ae:Hp}{s':Shared},Inv {X with pn:=X.pn++aj,xe:=xe} om bY ae s'->Inv X aj bY ae s':=λ{xe om bY ae s'} J=>by
  have o:=J.ok;exact⟨⟨o.mod,o.kind,o.glob,o.blt,o.above,o.inj,o.has,o.cab,o.hd,o.frames,o.stk,o.exf,o.bs,o.bsz,o.noex,o.exfs,o.funs,o.frf⟩,J.os,J.bare,J.base,J.loc,J.cell,J.free,J.freeC,λp bB=>J.pin p (qbv _ bB),J.hok,J.len⟩
 have HC:Inv {X with pn:=X.pn++aj,xe:=lE} [] af H s:=by
  have o:=I.ok;exact⟨⟨o.mod,o.kind,o.glob,o.blt,o.above,o.inj,o.has,o.cab,o.hd,o.frames,o.stk,o.exf,o.bs,o.bsz,o.noex,o.exfs,o.funs,o.frf⟩,I.os,I.bare,I.base,I.loc,I.cell,I.free,I.freeC,λp bB=>I.pin p (by simpa using bB),I.hok,I.len⟩
 have HD:Ze7 (CXX X.prog X.w) {X with pn:=X.pn++aj,xe:=lE} J ji:=by
  intro om bY a_ bu e s' j6 bT hcx;obtain⟨dn,cls,a0,ae,B,rfl,os,bare,un,ok,fK,f_,_,q⟩:=hcx;have eS:=oK bT;obtain⟨HE,HF⟩:=b4 bY cls ae j6 q;have HG:Heap.FlyingW B (X.env::X.outer) dn cls a0 s'.heap:=by rw[<-eN];exact fK
  show wpAny _ _ _ _ _ _;refine wpAny_looks_onW HB gu HG λzD held₄ zJ=>?_;refine wpAny_landsW held₄ λuY fl₅ zK=>?_;have there:∀{da:Heap},Heap.FlyingW B (X.env::X.outer) dn cls a0 da->s'.heap.UpToSlots da->Inv X aj bY ae {s' with heap:=da}:=λ{da} sm sl=>by
   have HH:Un (frs X.stack) [] a_ ae bu.heap da:=un.fly f_ sm.1 sl (λb ai o e=>by
    obtain⟨_,cx,b',d⟩:=eS.stack.mem ai;rw[e] at b';cases b';exact d) eS.stkFree
   exact eS.call' (s':={s' with heap:=da}) os HH (ok.stays (λb o e n=>f_ b o e (.inl n)) sm.1) bare (λb z=>absurd z (by simp))
  have zL:∀{dY:Shared},Inv X aj bY ae dY->Inv {X with A:=X.A.mark (some (.ref dn)),calm:=false,xe:=λ_ _=>False} aj bY ae dY:=λ{dY} J=>by
   have o:=J.ok;exact⟨⟨o.mod,o.kind,o.glob,o.blt,o.above,o.inj,o.has,o.cab,λz=>absurd (show false=true from z) qal,o.frames,o.stk,o.exf,o.bs,o.bsz,o.noex,o.exfs,o.funs,o.frf⟩,J.os,J.bare,J.base,J.loc,J.cell,J.free,J.freeC,J.pin,J.hok,J.len⟩
  have iF:=zL (there fl₅ (zJ.trans zK));refine wpAny_handleBy_cons (codeAny_handlers_test ?_) (by intro q;cases q);refine mX iF bG bz ?_ fV;obtain⟨cZ,HI,HJ⟩:=fl₅.there;have LT:Looks (model X.prog X.w) uY (typeOf (.ref dn)) cls:=by
   subst HJ;exact(Looks.ld HI).andThen .now
  refine(PySem.W.exm_one iF.kIn LT HE).here ?_;refine codeAny_handlers_suite ?_;refine lands_againW fl₅ λHK fl₆ HL=>?_;have gV:=zL (there fl₆ ((zJ.trans zK).trans HL));refine wpAny_mono (hs (X.A.mark (some (.ref dn))) aj {s' with heap:=HK} bY ae D gV HF) (λf bM a'=>?_) λ_ _ z=>False.elim z;show SP X aj D f bM;have so:∀{cS:St}{bt:Hp},Inv {X with A:=X.A.mark (some (.ref dn)),calm:=false,xe:=λ_ _=>False} aj cS bt bM->Inv X aj cS bt bM:=λ{cS bt} J=>by
   have o:=J.ok;exact⟨⟨o.mod,o.kind,o.glob,o.blt,o.above,o.inj,o.has,o.cab,I.ok.hd,I.ok.frames,o.stk,o.exf,o.bs,o.bsz,o.noex,o.exfs,o.funs,o.frf⟩,J.os,J.bare,J.base,J.loc,J.cell,J.free,J.freeC,J.pin,J.hok,J.len⟩
  cases f with
  |next=>obtain⟨cS,bt,ij,cG⟩:=a';exact⟨cS,bt,so ij,cG⟩
  |brk=>obtain⟨cS,bt,ij,cG⟩:=a';exact⟨cS,bt,so ij,cG⟩
  |cont=>obtain⟨cS,bt,ij,cG⟩:=a';exact⟨cS,bt,so ij,cG⟩
  |ret u=>obtain⟨v,cS,bt,ij,cN,cG⟩:=a';exact⟨v,cS,bt,so ij,cN,cG⟩
 refine wpAny_mono (ai J ji (X.pn++aj) lE own HD [] s af H D HC gM) (λf bu ak=>?_) λe bu ak=>ak;cases f with
 |next=>
  obtain⟨cS,bt,ij,cG⟩:=ak;show wpAny _ _ (execs [] X.env) _ _ _;exact wpAny_pure ⟨cS,bt,oK ij,cG⟩
 |brk=>obtain⟨cS,bt,ij,cG⟩:=ak;exact⟨cS,bt,oK ij,cG⟩
 |cont=>obtain⟨cS,bt,ij,cG⟩:=ak;exact⟨cS,bt,oK ij,cG⟩
 |ret u=>obtain⟨v,cS,bt,ij,cN,cG⟩:=ak;exact⟨v,cS,bt,oK ij,cN,cG⟩
end
section
variable {K:Frag}{H:Hp}
theorem eV.ints{p:Addr}{ns:List Int}(h:SqL K H p (ns.map V.int)):eV K H (.ref p) (.list (ns.map PyData.int)):= .lst h (DRels.ints ns)
namespace Rd
variable {Q:VK}
end Rd
end
structure Walks(J:It)(n:Nat)(f:Nat->V)(H:Hp):Prop where
 go:∀ae i,Zd H ae->i<n->J.go i ae
 yld:∀ae i x bt,Zd H ae->i<n->J.yld i ae x bt->bt=ae/\x=f i
 stop:∀ae,Zd H ae->J.stop n ae
theorem Wa{lo:Int}{n:Nat}{H:Hp}:Walks (Itr lo n) n (λi=> .int (lo+i)) H:=⟨λ_ _ _ h=>h,λ_ _ _ _ _ _ h=>h,λ_ _=>qab _⟩
theorem ey{K:Frag}{a:Addr}{xs:List V}{H:Hp}(h:SqL K H a xs):Walks (Itl K a) xs.length (λi=>xs.getD i .non) H:=
 ⟨λae i e hi=>⟨xs,xs[i],e.seq h,by simp[hi]⟩,λae i x bt e hi y=>⟨y.1,by
  have:=y.2 xs (e.seq h);simp[List.getD,this]⟩,λae e=>⟨xs,e.seq h,qab _⟩⟩
theorem Ya{J:It}{n:Nat}{f:Nat->V}{H0:Hp}(w:Walks J n f H0){g:TG}{cH:TS}{D:VR}{af:St}{H:Hp}(Pv:Nat->St->Hp->Prop)(cd:Pv 0 af H)(br:∀i af H,Pv i af H->Zd H0 H)
  (hs:∀i af H,i<n->Pv i af H->g (f i) af H λcS bt=>cH {D with nx:=Pv (i+1),ct:=Pv (i+1),bk:=D.nx} cS bt) (hd:∀af H,Pv n af H->D.nx af H):
  ∃W:Nat->Nat->St->Hp->Prop,(∃m,W 0 m af H)/\∀i m af H,W i m af H->
   (J.stop i H/\D.nx af H)\/(J.go i H/\∃N:St->Hp->Prop,(∀bY ae,N bY ae->∃cA,cA<m/\W (i+1) cA bY ae)/\∀x ae,J.yld i H x ae->g x af ae λcS bt=>cH {D with nx:=N,ct:=N,bk:=D.nx} cS bt):=by
 refine⟨λi m af H=>m=n-i/\i<=n/\Pv i af H,⟨n,by simp,qat _,cd⟩,?_⟩;rintro i m af H ⟨rfl,hi,p⟩;have bU:=br i af H p
 by_cases cD:i<n
 .refine .inr ⟨w.go H i bU cD,Pv (i+1),λbY ae he=>⟨n-(i+1),by omega,rfl,cD,he⟩,λx ae y=>?_⟩;obtain⟨rfl,rfl⟩:=w.yld H i x ae bU cD y;exact hs i af _ cD p
 .have e:i=n:=by omega
  subst e;exact .inl ⟨w.stop H bU,hd af H p⟩
theorem Z9{ix:List Nat}{dv:TT}{cB:TE}{Q:Addr->Hp->Prop}{af:St}{H:Hp}{J:It}{n:Nat}{f:Nat->V}(w:Walks J n f H)(bH:n<sizeLine)(c:Nat->Bool)(r:Nat->V)
  (bv:∀i ae (cY:Bool->Hp->Prop),i<n->Zd H ae->(∀bW,Zd ae bW->cY (c i) bW)->dv (some (f i)::ix.map λj=>(af[j]?).join) ae cY)
  (bK:∀i ae (cY:VK),i<n->c i=true->Zd H ae->(∀b0,Zd ae b0->cY (r i) b0)->cB (some (f i)::ix.map λj=>(af[j]?).join) ae cY)
  (q:∀p ae,H p=none->Zd H ae->ae p=some (.lst (((List.range n).filter c).map r))->Q p ae):
  ∀p,H p=none->∃W:Nat->Nat->List V->St->Hp->Prop,(∃m,W 0 m [] (emb ix af) (upd H p (.lst [])))/\∀i m ys bY ae,W i m ys bY ae->
   (J.stop i ae/\Q p ae)\/(J.go i ae/\∀x bt,J.yld i ae x bt->UL 0 x bY bt λcS b7=>dv cS b7 λb bW=>
    if b=true then cB cS bW λv b0=>b0 p=some (.lst ys)/\ys.length<sizeLine/\∃cA,cA<m/\W (i+1) cA (ys++ [v]) cS (upd b0 p (.lst (ys++ [v])))
    else ∃cA,cA<m/\W (i+1) cA ys cS bW):=by
 intro p bB;refine⟨λi m ys bY ae=>m=n-i/\i<=n/\(∃a,bY=a::ix.map λj=>(af[j]?).join)/\Zd H ae/\ae p=some (.lst ys)/\ys=((List.range i).filter c).map r,
  ⟨n,by simp,qat _,⟨none,rfl⟩,cO bB,Ze,rfl⟩,?_⟩
 rintro i m ys bY ae ⟨rfl,hi,⟨a,rfl⟩,bU,bO,ag⟩
 by_cases cD:i<n
 .refine .inr ⟨w.go ae i bU cD,λx bt y=>?_⟩;obtain⟨rfl,rfl⟩:=w.yld ae i x bt bU cD y;show dv ((a::ix.map λj=>(af[j]?).join).set 0 (some (f i))) bt _;have d9:ys.length<=i:=by
   rw[ag,GE];exact qaj (qaR _ _) (by simp)
  refine bv i bt _ cD bU λbW b2=>?_;have nn:=bU.trans b2;have lF:=b2 _ _ bO;have step:(List.range (i+1)).filter c=(List.range i).filter c++(if c i=true then[i] else[]):=by
   rw[qbP,qch]
   congr 1
   by_cases h:c i=true<;>simp[h]
  by_cases jE:c i=true
  .rw[jE,if_pos rfl];refine bK i bW _ cD jE nn λb0 cs=>⟨cs _ _ lF,by omega,n-(i+1),by omega,rfl,cD,⟨_,rfl⟩,(nn.trans cs).new bB,Ze,?_⟩;rw[step,if_pos jE,qaG,ag]
   rfl
  .have qt:c i=false:=by simpa using jE
   rw[qt,if_neg qal];refine⟨n-(i+1),by omega,rfl,cD,⟨_,rfl⟩,nn,lF,?_⟩;rw[step,if_neg jE,qcd,ag]
 .have e:i=n:=by omega
  subst e;exact .inl ⟨w.stop ae bU,q p ae bB bU (by rw[<-ag];exact bO)⟩
structure db(A:List Addr)(H ae:Hp):Prop where
 keep:∀b o,H b=some o->b∉A->ae b=some o
 tups:∀b xs,H b=some (.tup xs)->ae b=some (.tup xs)
theorem Zd.frame{A:List Addr}{H ae:Hp}(e:Zd H ae):db A H ae:=⟨λb o h _=>e b o h,λb xs h=>e b _ h⟩
theorem db.refl{A:List Addr}{H:Hp}:db A H H:=(Zd.refl H).frame
theorem db.trans{A:List Addr}{H a_ bt:Hp}(a:db A H a_)(b:db A a_ bt):db A H bt:=⟨λc o h n=>b.keep c o (a.keep c o h n) n,λc xs h=>b.tups c xs (a.tups c xs h)⟩
theorem db.mono{A B:List Addr}{H ae:Hp}(a:db A H ae)(h:∀x∈A,x∈B):db B H ae:=⟨λc o e n=>a.keep c o e λz=>n (h c z),a.tups⟩
theorem gN{A:List Addr}{H:Hp}{p:Addr}{o cx:HO}(bB:p∈A)(h:H p=some o)(bX:∀xs,o≠ .tup xs):db A H (upd H p cx):=by
 refine⟨λb u e n=>?_,λb xs e=>?_⟩
 .have z:b≠p:=λz=>n (by rw[z];exact bB);rw[b6 z];exact e
 .have z:b≠p:=λz=>bX xs (by rw[z,h] at e;exact qam e);rw[b6 z];exact e
def UM(A fX:List Addr)(H:Hp):Prop:=∀a∈fX,a∈A\/H a=none
theorem UM.refl{A:List Addr}{H:Hp}:UM A A H:=λ_ h=> .inl h
section
variable {K:Frag}{H ae:Hp}{A fX:List Addr}
namespace Rd
variable {Q:VK}
end Rd
end
noncomputable def Its (x:Str):It:=⟨λi _=>i<x.cps.size,λi H v ae=>ae=H/\∃c,x.cps[i]? =some c/\v= .str ⟨#[c]⟩,λi _=>x.cps.size<=i⟩
theorem HN{P:Program}{w:World}{K:Frag}{cV:Expr}(it:Addr)(x:Str)(t:Tok)(ty:String)(iJ:ty="str_ascii_iterator" \/ty="str_iterator"):Zas P w K cV (Its x) [it] it (λi h=>h.IsStrIter it ty x t i) where
 mem:=by simp
 obj:=λi h st b ai=>by
  have e:b=it:=by simpa using ai
  subst e;obtain⟨o,e,c,d⟩:=st;exact⟨o,e,λv z=>by rw[d] at z;cases z⟩
 keep:=λi h h' st k=>let⟨o,bJ,r⟩:=st;⟨o,k it (by simp) o bJ,r⟩
 item:=by
  intro X d5 hw eD bv i aj s af H E I bN st bG;subst d5 hw eD;obtain⟨dR,f1,f2,dh,d0,d6⟩:=bN it (by simp);have hi:i<x.cps.size:=bG;have eg:∀h':Heap,h'.IsStrIter it ty x t (i+1)->Heap.SameBut it s.heap h'->∃u,some (Value.str ⟨#[x.cps[i]]⟩ s.toks)=some u/\
    wpAny (model X.prog X.w) X.A (letOwnedTupleGo cV (.ref it) u) (λ_ bM=>∃y ae,Inv X aj af ae bM/\cL y u/\(Its x).yld i H y ae/\bM.heap.IsStrIter it ty x t (i+1)/\∀b∈[it],ae b=none) E {s with heap:=h',toks:=s.toks+1}:=λh' iG h_=>by
   have bT:Inv X aj af H {s with heap:=h',toks:=s.toks+1}:=I.turned (t':=s.toks+1) (λb o ai e=>(h_.2 b ai).trans e) dR f1 dh d0 d6;obtain⟨o,e,c,d⟩:=id iG;refine⟨_,rfl,pT (s:={s with heap:=h',toks:=s.toks+1}) e c d (by rcases iJ with rfl|rfl<;>decide) ⟨.str ⟨#[x.cps[i]]⟩,H,bT,⟨_,rfl⟩,⟨rfl,x.cps[i],by simp[hi],rfl⟩,iG,λb ai=>(bN b ai).1⟩⟩
  rcases iJ with rfl|rfl
  .exact wpAny_pyNext_ascii_item st (c:=x.cps[i]) (by simp[hi]) eg
  .exact wpAny_pyNext_wide_item st (c:=x.cps[i]) (by simp[hi]) eg
 done:=by
  intro X d5 hw eD bv i aj s af H E I bN st bG;subst d5 hw eD;obtain⟨dR,f1,f2,dh,d0,d6⟩:=bN it (by simp);have hi:x.cps.size<=i:=bG;rcases iJ with rfl|rfl
  .exact wpAny_pyNext_ascii_end (I.ok.hd bv) st (by simp[hi]) λh' c0=>⟨rfl,I.turned (t':=s.toks) (λb o ai e=>c0 b o ai e) dR f1 dh d0 d6⟩
  .exact wpAny_pyNext_wide_end (I.ok.hd bv) st (by simp[hi]) λh' c0=>⟨rfl,I.turned (t':=s.toks) (λb o ai e=>c0 b o ai e) dR f1 dh d0 d6⟩
 self:=λ_ _ _ _ _ st h=>by
  rcases iJ with rfl|rfl
  .exact wpAny_pyIter_striter_ascii st h
  .exact wpAny_pyIter_striter_wide st h
section
variable {X:Cx}{cV:Expr}
def zM (dH:TE):TI:=λaf H R=>dH af H λx a_=>∃y,x= .str y/\R (Its y) a_
theorem HP{l:Expr}{dH:TE}(ag:PE X l dH):PI X cV l (zM dH):=by
 intro aj s af H R I h;refine thn (ag aj s af H _ I h) λv bu ⟨x,a_,bT,cq,ce⟩=>?_;obtain⟨y,e,q⟩:=ce;subst e;obtain⟨t,rfl⟩:=cq;have eg:∀ty:String,(ty="str_ascii_iterator" \/ty="str_iterator")->PIE X aj af cV R (.ref bu.heap.objs.size) {bu with heap:=bu.heap.push {cls:= .type ty,data:= .fields #[.str y t,.int 0 0]}}:=λty iJ=>by
  refine⟨bu.heap.objs.size,[bu.heap.objs.size],_,_,a_,rfl,bT.kept (t':=bu.toks) λb o e=>Heap.get?_push_of_some _ e,HN _ y t ty iJ,⟨_,Heap.get?_push_size _ rfl,rfl,rfl⟩,λb ai=>?_,q⟩;have e:b=bu.heap.objs.size:=by simpa using ai
  subst e;exact bT.fpOk (qab _) (bT.hok.fresh (qab _))
 cases bD:y.cps.all (· <128)
 .exact wpAny_pyIter_wide bD (eg _ (.inr rfl))
 .exact wpAny_pyIter_ascii bD (eg _ (.inl rfl))
theorem ZjV{x:Str}{H:Hp}:Walks (Its x) x.cps.size (λi=> .str ⟨#[x.cps.getD i 0]⟩) H:=
 ⟨λ_ _ _ h=>h,λae i v bt _ hi ⟨e,c,bv,bS⟩=>⟨e,by rw[bS];simp[Array.getD,hi] at bv|-;exact bv.symm⟩,λ_ _=>qab _⟩
def rLeS:R2:=λx y H Q=>∃i j,x= .str i/\y= .str j/\Q (.bl (!decide (j.cps.toList<i.cps.toList))) H
theorem zN:OpR X (compareOp .LtE) rLeS:=by
 intro aj s af H x y v u Q I b3 cj h;obtain⟨i,j,rfl,rfl,q⟩:=h;obtain⟨t,rfl⟩:=b3;obtain⟨t',rfl⟩:=cj;exact PySem.P.le_str ⟨.bl _,H,I,rfl,q⟩
theorem vn{s:Shared}:∀{bs:List Bool}{us:List Value},cR (bs.map V.bl) us->us=bs.map Value.bool
 | [],_,r=>by cases r;rfl
 |b::bs,_,r=>by
  cases r with
  |cons cq cN=>
   have e:_=Value.bool b:=cq;rw[e,vn (s:=s) cN]
   rfl
theorem vo{s:Shared}{h':Heap}{o:Obj}(br:∀b x,b∉[s.heap.objs.size]->(s.heap.push o).get? b=some x->h'.get? b=some x):∀b x,s.heap.get? b=some x->h'.get? b=some x:=
 λb x e=>br b x (λbz=>by rw[qac.mp bz] at e;exact qbr _ (Heap.lt_size e)) (Heap.get?_push_of_some _ e)
theorem Zjd(bs:List Bool):((List.range bs.length).all λi=>(bs[i]?).getD true)=bs.all id:=by
 rw[qbI,qbm,qbm]
 constructor
 .intro h b ai;obtain⟨i,hi,rfl⟩:=qan ai;have:=h i (qaw.mpr hi);simpa[GT hi] using this
 .intro h i hi;have dy:=qaw.mp hi;simp only[GT dy,Option.getD_some];exact h _ (GM dy)
theorem ZjX(bv:X.calm=true):YW X (.builtin "all") (λxs H Q=>∃(p:Addr)(bs:List Bool),xs=[.ref p]/\SqL X.K H p (bs.map V.bl)/\Q (.bl (bs.all id)) H):=by
 intro aj s af H xs us Q I r h;obtain⟨p,bs,rfl,cr,q⟩:=h;obtain⟨u,rfl,b3⟩:=WB r;cases b3;obtain⟨its,c',pl,hz⟩:=I.list cr;have c4:=vn (s:=s) c';subst c4;have ag:=pl.isList;have cD:p<s.heap.objs.size:=by obtain⟨_,e,_⟩:=ag;exact Heap.lt_size e
 refine call_all_walk (wpAny_pyIter_list ag ?_);refine⟨s.heap.objs.size,[s.heap.objs.size,p],[s.heap.objs.size],(bs.map Value.bool).toArray.size,_,_,λi=>(bs[i]?).getD true,rfl,PySem.Walks.list (A:=X.A.in1) (I.ok.hd bv) _ p (qap cD) (bs.map Value.bool).toArray,
  ⟨⟨_,Heap.get?_push_size _ rfl,rfl,rfl⟩,ag.push _⟩,λi v s' on cP d5 h7=>?_,λh' b1 br=>?_⟩
 .have qu:(bs.map Value.bool)[i]? =some v:=by simpa using d5
  rw[qak] at qu;cases e:bs[i]? with
  |none=>rw[e] at qu;cases qu
  |some b=>
   rw[e] at qu;cases qu;have zO:on ((bs[i]?).getD true) s':=h7;rw[e] at zO;exact wpAny_truthy_bool zO
 .have e:((List.range (bs.map Value.bool).toArray.size).all λi=>(bs[i]?).getD true)=bs.all id:=by
   rw[qaf,GE];exact Zjd bs
  rw[e];exact⟨.bl (bs.all id),H,I.kept (vo br),rfl,q⟩
theorem Zkv(bv:X.calm=true):YW X (.builtin "sum") (λxs H Q=>∃(p:Addr)(ns:List Int),xs=[.ref p]/\SqL X.K H p (ns.map V.int)/\Q (.int ns.sum) H):=by
 intro aj s af H xs us Q I r h;obtain⟨p,ns,rfl,cr,q⟩:=h;obtain⟨u,rfl,b3⟩:=WB r;cases b3;obtain⟨its,c',pl,hz⟩:=I.list cr;have hi:=ow c';obtain⟨xs,bp⟩:=hi.allInts.items;have fD:s.heap.IsList p (intItems xs):=bp▸pl.isList;refine sum_intListG (I.ok.hd bv) fD λh' b1 t' br=>?_;have bE:ns=xs.toList.map (·.1):=by
  rw[<-nums_intItems,<-bp];exact(show numsOf its.toArray.toList=ns from hi.numsOf).symm
 have bP:preSum (numAt xs) xs.size=ns.sum:=by
  rw[preSum_eq,qa7 (by simp),bE]
 rw[bP];exact⟨.int ns.sum,H,I.kept br,⟨_,rfl⟩,q⟩
end
structure ZiW(K:Frag)(x qual:Str)(st:Stmt)(dT:Addr)(f:Addr)(fd:FuncData):Prop where
 ex:∃(ft:Value)(ef:Option Addr)(kV fh es:Value)(an:Option Addr)(cz ct:Value)(gY:Array (Option Value)),
  fd=fnOf x qual (j4 st) (jd st) (cn st) (.ref dT) kV fh es an cz ct/\K.lookup f=some ⟨ft,ef,.func fd,gY⟩/\codeIn K cz qual=true
 kp:keepIn K (.ref f)=true
section
variable {P:Program}{w:World}{K:Frag}{mg:Str->Option Value}{base:Heap}
theorem ZiW.okX{x qual:Str}{st:Stmt}{dT f:Addr}{fd:FuncData}{N b_:List Str}{k:Nat}{sp:Sp}(F:ZiW K x qual st dT f fd)(S:Zt N b_ (cn st))(len:∀vs H Q E,sp vs H Q E->vs.length=b_.length)
  (p4:∀(cz:Value)(A:Around)(outer:List Env)(s:Shared)(H:Hp)(vs:List V)(Q:VK)(E:XK),eH k (A.deeper (envOfC qual (cn st) s.heap.objs.size f cz))->sp vs H Q E->
   ∃t,PSs (cxX P w K mg base N qual (cn st) f cz A outer s H E) (jd st) t/\t {nx:=λ_ ae=>Q .non ae,rt:=Q} (start N vs) H):Wc P w K mg base (CXX P w) (k+1) f fd b_ sp:=by
 obtain⟨ft,ef,kV,fh,es,an,cz,ct,gY,rfl,lk,i9⟩:=F.ex;exact Zmc lk i9 S len λA outer s H vs Q E ap kB=>p4 cz A outer s H vs Q E ap kB
theorem ZmT{x qual:Str}{st:Stmt}{dT f:Addr}{ft:Value}{ef an:Option Addr}{gY:Array (Option Value)}{kV fh es cz ct:Value}(l:K.lookup f=some ⟨ft,ef,.func (fnOf x qual (j4 st) (jd st) (cn st) (.ref dT) kV fh es an cz ct),gY⟩)
  (c:codeIn K cz qual=true) (k:keepIn K (.ref f)=true):ZiW K x qual st dT f (fnOf x qual (j4 st) (jd st) (cn st) (.ref dT) kV fh es an cz ct):=⟨⟨ft,ef,kV,fh,es,an,cz,ct,gY,rfl,l,c⟩,k⟩
theorem HQ{h₀:Heap}{x:Str}{C:Addr}{zP:List Value}{mi:String}(X:K.In h₀)(g:h₀.Ns mainGlobals mg)(e:nsIn K mainGlobals x=some (some (.ref C)))(q:excIn K C zP mi=true):OwnCls x C zP mi mg h₀:=by
 refine⟨mg_of X g e,?_⟩;unfold excIn at q
 split at q
 .rename_i dd de sl bJ
  split at q
  .rename_i R5 bm k0 k1 k2 k3 n k5 bz hs;simp only[qaU,beq_iff_eq,Bool.not_eq_true'] at q;obtain⟨⟨⟨⟨⟨rfl,rfl⟩,zQ⟩,bX⟩,hok⟩,sj⟩:=q;obtain⟨nm,bs,mro,ns,m5,hd,sn,sub,ab,col,R6⟩:=de;dsimp only at bz zQ hok sj;subst bz zQ;have df:sl=#[k0,k1,k2,k3,some (.builtin n),k5]:=by
    obtain⟨l⟩:=sl;simp only at hs;rw[hs]
   subst df;exact⟨bm,ns,nm,m5,bs,hd,sn,sub,ab,col,dd,k0,k1,k2,k3,k5,_,X _ _ bJ,.of_isNs (PySem.W.isNs_of_in X hok),PySem.W.nsMap_none_of_in X hok sj,PySem.W.tail_of_in X bX⟩
  .cases q
 .cases q
section
variable {N:List Str}{qual:Str}{scope:Scope}{f:Addr}{de:Value}{A:Around}{outer:List Env}{s₀:Shared}{H₀:Hp}{E:XK}
theorem jF{x:Str}{hf dD pos:Pos}{lD:Expr}{rest:List Expr}{t:TA}{C:Addr}{B mi vk:String}{bm:List Value}(e:nsIn K mainGlobals x=some (some (.ref C)))(q:excIn K C bm mi=true)(FB:ExcBaseFacts B mi vk bm)
  (bG:Gl (cxX P w K mg base N qual scope f de A outer s₀ H₀ E) x) (bD:PA (cxX P w K mg base N qual scope f de A outer s₀ H₀ E) (lD::rest) t)
  (bK:starEach (lD::rest) (cxX P w K mg base N qual scope f de A outer s₀ H₀ E).env=(false,eval lD (cxX P w K mg base N qual scope f de A outer s₀ H₀ E).env)::starEach rest (cxX P w K mg base N qual scope f de A outer s₀ H₀ E).env:=by rfl)
  (m_:(backTo dD (starEach rest (cxX P w K mg base N qual scope f de A outer s₀ H₀ E).env)).any (·.1)=false:=by rfl) (fV:(x==("__debug__" :Str))=false:=by decide):
  PS (cxX P w K mg base N qual scope f de A outer s₀ H₀ E) (.Raise (some (.Call (.Name x hf) (lD::rest) [] dD)) none pos) (vj (.ref C) E t):=by
 intro aj s af H D I h;exact ZlL (HQ I.ok.mod.kin I.ok.mod.glob e q) FB bG bD bK m_ fV aj s af H D I h
end
end
section
variable {X:Cx}
def rSlS:V->Option Int->Option Int->Hp->VK->Prop:=λx lo hi H Q=>∃z,x= .str z/\z.length<=sizeLine/\Q (.str (Txt.slice z lo hi)) H
theorem HR:SlR X rSlS:=by
 intro aj s af H x v fA gn lo hi sl Q I b3 hs pl ib h;obtain⟨z,rfl,hz,q⟩:=h;obtain⟨t,rfl⟩:=b3;refine⟨"str",_,F.slot_str_getitem.lookup,typeIs_str _ _ _,?_⟩;have eg:∀l u:Option (Int×Tok),l.map (·.1)=lo->u.map (·.1)=hi->partValue l=fA->partValue u=gn->wpAny (model X.prog X.w) X.A (getItem (.str z t) (.ref sl)) (EP X aj af Q) X.xe s:=λl u bE bP dj hA=>by
  obtain⟨o,bJ,bv,hd⟩:=hs;subst bE bP dj hA;exact wpAny_getItem_str_slice (l:=l) (u:=u) (st:=none) ⟨o,bJ,bv,hd⟩ rfl (post_val_or_str ⟨qaj (Txt.slice_le z _ _) hz,λt' k=>⟨.str _,H,I.tok k,⟨_,rfl⟩,q⟩⟩)
 cases pl with
 |none=>
  cases ib with
  |none=>exact eg none none rfl rfl rfl rfl
  |int j t'=>exact eg none (some (j,t')) rfl rfl rfl rfl
 |int i fS=>
  cases ib with
  |none=>exact eg (some (i,fS)) none rfl rfl rfl rfl
  |int j t'=>exact eg (some (i,fS)) (some (j,t')) rfl rfl rfl rfl
def sr (K:Frag):V->Option Int->Option Int->Hp->VK->Prop:=λx lo hi H Q=>zp K x lo hi H Q\/(zo K x lo hi H Q\/rSlS x lo hi H Q)
theorem HS:SlR X (sr X.K):=GW.or (GO.or HR)
end
structure VJ(K:Frag)(C:Addr)(fs:List Str):Prop where
 out:∀f∈fs,iH K C f
theorem VJ.get{K:Frag}{C:Addr}{fs:List Str}{f:Str}(h:VJ K C fs)(m:fs.contains f=true):iH K C f:=h.out f (by simpa using m)
namespace Rd
section
variable {af:St}{H:Hp}{Q:VK}{D:VR}{K:Frag}
theorem slL{a:Addr}{xs:List V}{lo hi:Option Int}(h:SqL K H a xs)(q:∀p,H p=none->Q (.ref p) (upd H p (.lst (hr xs lo hi)))):sr K (.ref a) lo hi H Q:= .inl ⟨a,xs,rfl,h,q⟩
theorem sl{r:V->Option Int->Option Int->Hp->VK->Prop}{cB:TE}{dH hq:TO}(h:cB af H λx a_=>dH af a_ λl bt=>hq af bt λu b7=>r x l u b7 Q):tSl r cB dH hq af H Q:=h
theorem Znx{Q:Option Int->Hp->Prop}(h:Q none H):tNoPart af H Q:=h
theorem ZpQ{cB:TE}{Q:Option Int->Hp->Prop}(h:cB af H λx a_=>∃i,x= .int i/\Q (some i) a_):zm cB af H Q:=h
theorem ZoW{i:Int}{C:Int->Prop}(h:C i):∃j,V.int i= .int j/\C j:=⟨i,rfl,h⟩
theorem ZpR{b9:TE}{f:Str}(h:b9 af H λx a_=>∃a C bx fs v,x= .ref a/\a_ a=some (.ins C bx fs)/\Cls K C/\iH K C f/\fs.lookup f=some v/\Q v a_):uH K b9 f af H Q:=h
theorem fld{a C bx:Addr}{fs:List (Str×V)}{f:Str}{v:V}{G:V->Prop}(h:H a=some (.ins C bx fs))(c:Cls K C)(n:iH K C f)(l:fs.lookup f=some v)(q:G v):
  ∃dI C bx fs v,V.ref a= .ref dI/\H dI=some (.ins C bx fs)/\Cls K C/\iH K C f/\fs.lookup f=some v/\G v:=⟨a,C,bx,fs,v,rfl,h,c,n,l,q⟩
theorem Zo3{C:Addr}{m:Str}{sp:Sp}{er:List V}{E:XK}{b9:TE}{t:TA}(h:b9 af H λx a_=>∃a bx fs,x= .ref a/\a_ a=some (.ins C bx fs)/\fs.lookup m=none/\t af a_ λvs bt=>sp (x::(vs++er)) bt Q E):p1 C m sp er E b9 t af H Q:=h
theorem Zoz{C:Addr}{sp:Sp}{er:List V}{E:XK}{t:TA}(h:t af H λvs a_=>∀x bx,a_ x=none->a_ bx=none->bx≠x->
  sp (.ref x::(vs++er)) (upd (upd a_ bx (.own x)) x (.ins C bx [])) (λv bt=>v= .non/\Q (.ref x) bt) E):p2 C sp er E t af H Q:=h
theorem ZpE{b9 hQ:TE}{f:Str}(h:hQ af H λy a_=>b9 af a_ λx bt=>∃a C bx fs,x= .ref a/\bt a=some (.ins C bx fs)/\Cls K C/\iH K C f/\fs.length<1000/\D.nx af (upd bt a (.ins C bx (fU f y fs)))):uI K b9 hQ f D af H:=h
theorem ZoF{a C bx:Addr}{fs r1:List (Str×V)}{f:Str}{y:V}(h:H a=some (.ins C bx fs))(c:Cls K C)(n:iH K C f)(l:fs.length<1000)(e:fU f y fs=r1)(q:D.nx af (upd H a (.ins C bx r1))):
  ∃dI C bx fs,V.ref a= .ref dI/\H dI=some (.ins C bx fs)/\Cls K C/\iH K C f/\fs.length<1000/\D.nx af (upd H dI (.ins C bx (fU f y fs))):=⟨a,C,bx,fs,rfl,h,c,n,l,by rw[e];exact q⟩
theorem raise{cls:Value}{E:XK}{t:TA}(h:t af H λvs a_=>vs.length<=sizeLine/\E cls none a_):vj cls E t D af H:=h
theorem Zot{v:V}{G:Prop}(q:G):[v].length<=sizeLine/\G:=⟨by show 1<=sizeLine;decide,q⟩
theorem ZoQ{cB:TE}{R:It->Hp->Prop}(h:cB af H λx a_=>∃a,x= .ref a/\(∃xs,SqL K a_ a xs)/\R (Itl K a) a_):uB K cB af H R:=h
theorem Zpj{cB:TE}{R:It->Hp->Prop}(h:cB af H λx a_=>∃y,x= .str y/\R (Its y) a_):zM cB af H R:=h
theorem ZoB{y:Str}{G:Str->Prop}(h:G y):∃z,V.str y= .str z/\G z:=⟨y,rfl,h⟩
theorem Zo5{ix:List Nat}{dG:TI}{g:TG}{dv:TT}{cB:TE}(h:dG af H λJ a_=>∀p,a_ p=none->
 ∃W:Nat->Nat->List V->St->Hp->Prop,(∃m,W 0 m [] (emb ix af) (upd a_ p (.lst [])))/\∀i m ys bY ae,W i m ys bY ae->
  (J.stop i ae/\Q (.ref p) ae)\/(J.go i ae/\∀x bt,J.yld i ae x bt->g x bY bt λcS b7=>dv cS b7 λb bW=>
   if b=true then cB cS bW λv b0=>b0 p=some (.lst ys)/\ys.length<sizeLine/\∃cA,cA<m/\W (i+1) cA (ys++ [v]) cS (upd b0 p (.lst (ys++ [v])))
   else ∃cA,cA<m/\W (i+1) cA ys cS bW)):uZ ix dG g dv cB af H Q:=h
theorem ZpM{Q:Bool->Hp->Prop}(h:Q true H):tAll af H Q:=h
theorem lk0{f:Str}{v:V}{r:List (Str×V)}:((f,v)::r).lookup f=some v:=by simp
theorem lk1{f g:Str}{v:V}{o:Option V}{r:List (Str×V)}(n:(f==g)=false)(h:r.lookup f=o):((g,v)::r).lookup f=o:=by rw[qbc,n];exact h
theorem lkN{f:Str}:([]:List (Str×V)).lookup f=none:=rfl
theorem pf1{f g:Str}{v x:V}{r c7:List (Str×V)}(n:(g==f)=false)(h:fU f v r=c7):fU f v ((g,x)::r)=(g,x)::c7:=by
 have:¬g=f:=by simpa using n
 simp[fU,this,h]
theorem pfN{f:Str}{v:V}:fU f v []=[(f,v)]:=rfl
end
end Rd
theorem ZiC(x:Int)(ys:List Int):inV (.int x) (ys.map V.int)=decide (x∈ys):=by
 induction ys with
 |nil=>rfl
 |cons y ys bQ=>
  have e:inV (.int x) ((y::ys).map V.int)=(eqV (.int y) (.int x)||inV (.int x) (ys.map V.int)):=rfl;rw[e,bQ];show((y==x)||decide (x∈ys))=decide (x∈y::ys)
  by_cases h:x=y
  .subst h;simp
  .have:(y==x)=false:=by simpa using λz=>h z.symm
   rw[this];simp[h]
theorem zR(ys:List Int):(ys.map V.int).all kC=true:=by
 rw[List.all_map,qbm];intro _ _
 rfl
namespace Rd
section
variable {H:Hp}{Q:VK}{K:Frag}
theorem inI{p:Addr}{x:Int}{ys:List Int}(h:SqL K H p (ys.map V.int))(q:Q (.bl (decide (x∈ys))) H):rIn K false (.int x) (.ref p) H Q:=⟨p,_,rfl,.inl h,rfl,zR ys,by rw[ZiC];exact q⟩
theorem ZpP{p:Addr}{x:Int}{ys:List Int}(h:SqL K H p (ys.map V.int))(q:Q (.bl (!decide (x∈ys))) H):rIn K true (.int x) (.ref p) H Q:=⟨p,_,rfl,.inl h,rfl,zR ys,by rw[ZiC];exact q⟩
theorem ifD{c A B:Prop}[Decidable c](a:c->A)(b:¬c->B):if decide c=true then A else B:=by
 by_cases h:c
 .exact ifP h (a h)
 .exact ifN h (b h)
theorem ZpV{p:Addr}{bs:List Bool}{G:List Bool->Prop}(h:SqL K H p (bs.map V.bl))(q:G bs):∃(he:Addr)(oL:List Bool),[V.ref p]=[.ref he]/\SqL K H he (oL.map V.bl)/\G oL:=⟨p,bs,rfl,h,q⟩
theorem leS{x y:Str}(q:Q (.bl (!decide (y.cps.toList<x.cps.toList))) H):rLeS (.str x) (.str y) H Q:=⟨x,y,rfl,rfl,q⟩
theorem ZoT{af:St}{r c7:R2}{b9 cH dv:TE}(h:b9 af H λx a_=>cH af a_ λy bt=>r x y bt λz b7=>∃k,z= .bl k/\(if k=true then dv af b7 λd3 bW=>c7 y d3 bW Q else Q (.bl false) b7)):uF r c7 b9 cH dv af H Q:=h
end
end Rd
namespace Rd
section
variable {H:Hp}{Q:VK}{K:Frag}
theorem Zpo{z:Str}{i:Int}{c:Nat}(h:z.length<=sizeLine)(e:atI z.cps.toList i=some c)(q:Q (.str ⟨#[c]⟩) H):rIx K (.str z) (.int i) H Q:= .inr (.inr ⟨z,i,c,rfl,rfl,h,e,q⟩)
theorem Znu{a:Addr}{xs:List V}{G:Addr->Prop}(h:SqL K H a xs)(q:G a):∃dI,V.ref a= .ref dI/\(∃xs,SqL K H dI xs)/\G dI:=⟨a,rfl,⟨xs,h⟩,q⟩
theorem ZoH{j:Int}{G:Int->Prop}(ak: -(2 ^ 62)<=j)(a':j<2 ^ 62)(q:G j):∃k,[V.int j]=[.int k]/\ -(2 ^ 62)<=k/\k<2 ^ 62/\G k:=⟨j,rfl,ak,a',q⟩
theorem ZpB{i j:Int}{G:Int->Int->Prop}(q:G i j):∃ss su,[V.int i,.int j]=[.int ss,.int su]/\G ss su:=⟨i,j,rfl,q⟩
end
end Rd
noncomputable def hid (H:Hp) (r:Addr):Hp:=λb=>if b=r then none else H b
theorem oM{H:Hp}{r:Addr}:hid H r r=none:=by unfold hid;rw[if_pos rfl]
theorem YN{H:Hp}{r b:Addr}(h:b≠r):hid H r b=H b:=by unfold hid;rw[if_neg h]
theorem kH{H:Hp}{r:Addr}:Zd (hid H r) H:=λb o e=>by
 by_cases h:b=r
 .rw[h,oM] at e;cases e
 .rw[YN h] at e;exact e
theorem zS{H:Hp}{r:Addr}{xs:List V}(h:H r=some (.lst xs)):∀b ys,H b=some (.tup ys)->L2.hid H r b=some (.tup ys):=λb ys e=>by rw[YN (gk e h (by intro z;cases z))];exact e
theorem zT:∀ns:List Int,PyData.canLayAll0 (ns.map PyData.int)=true
 | []=>by simp[PyData.canLayAll0]
 |n::ns=>by
  have:=zT ns;simp[PyData.canLayAll0,PyData.canLay0] at this|-;exact this
theorem iM(ns:List Int):(PyData.list (ns.map PyData.int)).canLay0=true:=by
 have:=zT ns;simp[PyData.canLay0];simpa using this
theorem zU:∀ns:List Int,PyData.depthAll (ns.map PyData.int)<=1
 | []=>by simp[PyData.depthAll]
 |n::ns=>by
  have:=zU ns;simp[PyData.depthAll,PyData.depth] at this|-;exact this
theorem np(ns:List Int):(PyData.list (ns.map PyData.int)).depth<=60:=by
 have:=zU ns;simp only[PyData.depth];omega
namespace Rd
end Rd
namespace Rd
section
variable {af:St}{H:Hp}{Q:VK}{K:Frag}{J:St->Prop}{E:XK}{sp:Sp}{er:List V}{t:TA}{b9:TE}
theorem ZoD{C:Addr}(bw:J af)(h:t af H λvs a_=>∀x bx,a_ x=none->a_ bx=none->bx≠x->
  sp (.ref x::(vs++er)) (upd (upd a_ bx (.own x)) x (.ins C bx [])) (λv bt=>v= .non/\Q (.ref x) bt) E):ZhA J C sp er E t af H Q:=⟨bw,h⟩
theorem Zpi{c:Value}{cH:(St->Prop)->XK->TS}{hq:TS}{D:VR}(ji:XK)(ai:cH (λs=>s=af) ji D af H)(b4:∀cls ae,ji cls none ae->exmOne K cls c=some true/\hq D af ae):zI K c cH hq D af H:=
 ⟨λs=>s=af,ji,ai,λ_ cls ae e h=>e▸b4 cls ae h⟩
end
end Rd
namespace Rd
section
variable {af:St}{H:Hp}
theorem Zpx{to fS:TE}{t:Zd7}{v:V}{Q:St->Hp->Prop}(h:to af H λo a_=>fS af a_ λi bt=>t o i v bt λb7=>Q af b7):y7 to fS t v af H Q:=h
theorem ZnK{p:Addr}{xs:List V}{k:Int}{v:V}{Q:Hp->Prop}(bB:H p=some (.lst xs))(cd:0<=k)(ak:k<xs.length)(q:Q (upd H p (.lst (xs.set k.toNat v)))):rSetL (.ref p) (.int k) v H Q:=
 ⟨p,xs,k,k.toNat,rfl,rfl,bB,by unfold ixN;rw[if_pos cd,if_pos ak],q⟩
end
end Rd
noncomputable def only(q:Addr) (o:HO):Hp:=λa=>if a=q then some o else none
theorem qv{q:Addr}{o:HO}:only q o q=some o:=by unfold only;rw[if_pos rfl]
theorem US{q:Addr}{o:HO}{H:Hp}(h:H q=some o):Zd (only q o) H:=λb x e=>by
 unfold only at e
 by_cases c:b=q
 .rw[if_pos c] at e;rw[c];cases e;exact h
 .rw[if_neg c] at e;cases e
section
variable {X:Cx}{K:Frag}
theorem ZmL(e:X.K=K):OpR X (binaryOp .Add) (rOr sk (rOr Zes (rOr rCat (p7 K)))):=e▸Hz
theorem fL(e:X.K=K)(hu:X.A.units+64<cLine):OpR X (compareOp .Eq) (rOr rEq (mj K false)):=e▸ZnR hu
theorem nq(e:X.K=K)(hu:X.A.units+64<cLine):OpR X (compareOp .NotEq) (rOr rNe (mj K true)):=e▸ZnL hu
theorem Zpl(e:X.K=K):IxR X (rIx K):=e▸GU
theorem sv(e:X.K=K):SlR X (sr K):=e▸HS
def vp (K:Frag):List V->Hp->VK->Prop:=λxs H Q=>∃x n,xs=[x]/\ZbQ K x H n/\Q (.int n) H
theorem ZoV(e:X.K=K):YW X (.builtin "len") (vp K):=e▸GB
theorem vq(e:X.K=K):OpR X (compareOp .In) (rIn K false):=e▸GX
theorem zV(e:X.K=K):OpR X (compareOp .NotIn) (rIn K true):=e▸GY
theorem eB{e:Expr}{b9:TE}{f:Str}{pos:Pos}(e1:X.K=K)(bK:PE X e b9)(ai:attributeBase e f X.env (eval e X.env)=eval e X.env):PE X (.Attribute e f pos) (uH K b9 f):=e1▸ZnV bK ai
theorem jG{o value:Expr}{b9 hQ:TE}{f:Str}{pos jT:Pos}(e1:X.K=K)(bD:PE X o b9)(bS:PE X value hQ)(hs:swapsWith value (some (.Attribute o f jT)) pos.line X.env=pure false):
  PS X (.Assign [.Attribute o f jT] value pos) (uI K b9 hQ f):=e1▸Znt bD bS hs
theorem ez{cV l:Expr}{dH:TE}(e1:X.K=K)(ag:PE X l dH):PI X cV l (uB K dH):=e1▸ZmX ag
def zW (K:Frag) (b9:TE):TT:=λaf H Q=>b9 af H λx ae=>∃k,pY K x ae k/\Q k ae
theorem gO{a:Expr}{b9:TE}(e1:X.K=K)(bD:PE X a b9)(bK:∀mW,isTrue a X.env mW=(do let v<-mW;standAt a.pos;holding [v] (truthy v))):PT X a (zW K b9):=e1▸Zl2 bD bK
def zX (K:Frag):List V->Hp->VK->Prop:=λxs H Q=>∃x n t b,xs=[x,.ty n]/\WN K H x t/\kitOne K t (.type n)=some b/\Q (.bl b) H
theorem nr(e:X.K=K):YW X (.builtin "isinstance") (zX K):=e▸Hm
def zY (K:Frag):List V->Hp->VK->Prop:=λxs H Q=>∃p ys,xs=[.ref p]/\(SqL K H p ys\/SqT K H p ys)/\∀l,H l=none->Q (.ref l) (upd H l (.lst ys))
theorem j8(e:X.K=K):YW X (.type "list") (zY K):=e▸GZ
def zZ (K:Frag):List V->Hp->VK->Prop:=λxs H Q=>∃(p:Addr)(bs:List Bool),xs=[.ref p]/\SqL K H p (bs.map V.bl)/\Q (.bl (bs.all id)) H
theorem z0(e:X.K=K)(bv:X.calm=true):YW X (.builtin "all") (zZ K):=e▸ZjX bv
def z1 (K:Frag):List V->Hp->VK->Prop:=λxs H Q=>∃(p:Addr)(ns:List Int),xs=[.ref p]/\SqL K H p (ns.map V.int)/\Q (.int ns.sum) H
theorem vr(e:X.K=K)(bv:X.calm=true):YW X (.builtin "sum") (z1 K):=e▸Zkv bv
theorem fv{o e:Expr}{bC:List Expr}{to:TE}{t:TA}{name:Str}{dA dD:Pos}{T id:String}{r:V->List V->Hp->VK->Prop}(e1:X.K=K)(l':PlainAttrs T)(slot:Slot T name id)(iJ:typeOf (.builtin id)=pure (.type "method_descriptor"))(bz:MtR X id r)(bJ:PE X o to)(bD:PA X (e::bC) t)
  (j2:attributeBase o name X.env (eval o X.env)=eval o X.env:=by rfl)
  (uP:((backTo dD (starEach (e::bC) X.env)).all (λx=>!x.1)&&(backToKw dD (keywordEach [] X.env)).all (λx=>x.1.isSome)
   &&decide ((e::bC).length+([]:List Keyword).length+(if([]:List Keyword).isEmpty then 0 else 1)<30))=true:=by rfl)
  (j3:(dA.endLine==dD.line)=true:=by rfl) (hs:starEach (e::bC) X.env=(false,eval e X.env)::starEach bC X.env:=by rfl) (m_:(backTo dD (starEach bC X.env)).any (·.1)=false:=by rfl):
  PE X (.Call (.Attribute o name dA) (e::bC) [] dD) (tBM K T r to t):=e1▸Zo7 l' slot iJ bz bJ bD j2 uP j3 hs m_
theorem ik{bC:List Expr}{k:Nat}{t:TGs}{n:Nat}{pos:Pos}(e1:X.K=K)(bv:X.calm=true)(h:PGs X bC t)(bH:(assignEach bC X.env).length=n:=by rfl)(eN:(assignEach bC X.env).findIdx? (·.1)=none:=by rfl):
  PG X (.Tuple bC k pos) (uy K n t):=e1▸Znn bv h bH eN
end
namespace Rd
section
variable {af:St}{H:Hp}{Q:VK}{K:Frag}
theorem tru{b9:TE}{Q:Bool->Hp->Prop}(h:b9 af H λx ae=>∃k,pY K x ae k/\Q k ae):zW K b9 af H Q:=h
theorem ZpL{xs:List V}(h:∃x n,xs=[x]/\ZbQ K x H n/\Q (.int n) H):vp K xs H Q:=h
theorem Zpe{xs:List V}(h:∃x n t b,xs=[x,.ty n]/\WN K H x t/\kitOne K t (.type n)=some b/\Q (.bl b) H):zX K xs H Q:=h
theorem ZpJ{xs:List V}(h:∃(p:Addr)(bs:List Bool),xs=[.ref p]/\SqL K H p (bs.map V.bl)/\Q (.bl (bs.all id)) H):zZ K xs H Q:=h
theorem W3{p:Addr}{xs:List V}(h:SqL K H p xs)(q:∀l,H l=none->Q (.ref l) (upd H l (.lst xs))):zY K [.ref p] H Q:=⟨p,xs,rfl,.inl h,q⟩
theorem ZlD{p:Addr}{ns:List Int}(h:SqL K H p (ns.map V.int))(q:Q (.int ns.sum) H):z1 K [.ref p] H Q:=⟨p,ns,rfl,h,q⟩
end
end Rd
def HU(A:Around):Prop:=A.units+64<cLine
theorem eH.hu{k:Nat}{A:Around}(h:eH k A):HU A:=h.units
theorem oA{i n a:Nat}(h:a=n)(k:i<n):i<a:=h▸k
theorem oB{n a m c:Nat}(h:a=n)(k:n<=m)(e:Nat.ble m c=true):a<=c:=h▸qaj k (qbe e)
theorem oD{a m c:Nat}(k:a<=m)(e:Nat.ble m c=true):a<=c:=qaj k (qbe e)
theorem oE{i n a:Nat}(h:a=n)(k:i<n):(i:Int)<(a:Int):=Int.ofNat_lt.mpr (h▸k)
theorem oF{i a:Nat}(k:i<a):(i:Int)<(a:Int):=Int.ofNat_lt.mpr k
theorem ixk{X:Cx}(K:Frag)(e:X.K=K:=by rfl):IxR X (rIx K):=Zpl e
theorem hh{X:Cx}(K:Frag)(e:X.K=K:=by rfl):OpR X (binaryOp .Add) (rOr sk (rOr Zes (rOr rCat (p7 K)))):=ZmL e
theorem eW{X:Cx}(K:Frag)(e:X.K=K:=by rfl):YW X (.builtin "len") (vp K):=ZoV e
structure Ex(K:Frag)(mg:Str->Option Value)(nm:Str)(X:Addr):Prop where
 g:nsIn K mainGlobals nm=some (some (.ref X))
 m:mg nm=some (.ref X)
 e:excIn K X [.type "ValueError",.type "Exception",.type "BaseException",.type "object"] "ValueError.__new__" =true
theorem scI{N P:List Str}{ca:Scope}(a:ca.kind= .function:=by rfl)(b:ca.isCoroutine=false:=by rfl)(c:ca.isGenerator=false:=by rfl)(d:N.Nodup:=by decide+kernel)(e:N.take P.length=P:=by rfl)(f:∀x∈P,ca.names.lookup x=some .local\/ca.names.lookup x=some .cell:=by decide+kernel)(g:∀y∈ca.names,y.2≠ .free:=by decide+kernel):Zt N P ca:=⟨a,b,c,d,e,f,g⟩
structure Dn(K:Frag)(mg:Str->Option Value)(nm q:Str)(s:Stmt)(b_:List Str) where
 f:Addr
 d:FuncData
 F:Fun K nm q s f d
 b:W6 K d b_ []
 m:mg nm=some (.ref f)
structure Dm(K:Frag)(C:Addr)(nm q:Str)(s:Stmt)(b_:List Str) where
 f:Addr
 d:FuncData
 F:Fun K nm q s f d
 b:W6 K d b_ []
 M:Ze1 K C nm f
structure Di(K:Frag)(C:Addr)(q:Str)(s:Stmt)(b_:List Str) where
 f:Addr
 d:FuncData
 F:Fun K "__init__" q s f d
 b:W6 K d b_ []
 M:Mk K C f
abbrev BOk(nm q:Str)(s:Stmt)(b_:List Str):Prop:=∀us:List Value,us.length=b_.length->∀(kV fh es:Value)(an:Option Addr)(cz ct:Value),bindArgs (fnOf nm q (j4 s) (jd s) (cn s) .none kV fh es an cz ct) ⟨us,[]⟩=pure (b_.zip us)
section
variable {P:Program}{w:World}{K:Frag}{mg:Str->Option Value}{base h:Heap}{nm q:Str}{st:Stmt}{b_:List Str}{C f:Addr}{ft:Value}{ef an:Option Addr}{gY:Array (Option Value)}{kV dc es de ct:Value}
noncomputable def Dn.of (X:K.In h) (G:h.Ns mainGlobals mg) (a:nsIn K mainGlobals nm=some (some (.ref f))) (l:K.lookup f=some ⟨ft,ef,.func (fnOf nm q (j4 st) (jd st) (cn st) .none kV dc es an de ct),gY⟩) (c:codeIn K de q=true) (k:keepIn K (.ref f)=true)
  (ai:BOk nm q st b_):Dn K mg nm q st b_:=⟨f,_,oG l c k,(oG l c k).binds λa1 a2 a3 a4 a5 a6 us e=>ai us e a1 a2 a3 a4 a5 a6,mg_of X G a⟩
noncomputable def Dm.of (a:findIn K (.ref C) nm=some (some (.ref f))) (i:isFn K (.ref f)=true) (l:K.lookup f=some ⟨ft,ef,.func (fnOf nm q (j4 st) (jd st) (cn st) .none kV dc es an de ct),gY⟩) (c:codeIn K de q=true) (k:keepIn K (.ref f)=true)
  (ai:BOk nm q st b_):Dm K C nm q st b_:=⟨f,_,oG l c k,(oG l c k).binds λa1 a2 a3 a4 a5 a6 us e=>ai us e a1 a2 a3 a4 a5 a6,⟨a,i,k⟩⟩
noncomputable def Di.of (z:makesIn K C=true) (y:keepIn K (.ref C)=true) (a:findIn K (.ref C) "__init__" =some (some (.ref f))) (i:isFn K (.ref f)=true) (l:K.lookup f=some ⟨ft,ef,.func (fnOf "__init__" q (j4 st) (jd st) (cn st) .none kV dc es an de ct),gY⟩) (c:codeIn K de q=true) (k:keepIn K (.ref f)=true)
  (ai:BOk "__init__" q st b_):Di K C q st b_:=⟨f,_,oG l c k,(oG l c k).binds λa1 a2 a3 a4 a5 a6 us e=>ai us e a1 a2 a3 a4 a5 a6,⟨z,a,i,y⟩⟩
theorem Zk1{cT:Type _}{P:List cT->Prop}(h:P [])(us:List cT)(e:us.length=0):P us:=match us,e with| [],_=>h
theorem lenS{cT:Type _}{n:Nat}{P:List cT->Prop}(h:∀a (us:List cT),us.length=n->P (a::us))(us:List cT)(e:us.length=n+1):P us:=match us,e with|a::us,e=>h a us (Nat.succ.inj e)
theorem ZnE:VJ K C []:=⟨λ_ h=>nomatch h⟩
theorem ZmH{x:Str}{xs:List Str}(h:findIn K (.ref C) x=some none)(t:VJ K C xs):VJ K C (x::xs):=⟨λf bN=>by
 rcases qah.mp bN with e|e
 .rw[e];exact h
 .exact t.out f e⟩
theorem ZnJ{dT:Addr}{a:Array Value}{n:Nat}(h:K.lookup dT=some ⟨ft,ef,.seq a n,gY⟩):∃ft ef n sl,K.lookup dT=some ⟨ft,ef,.seq a n,sl⟩:=⟨_,_,_,_,h⟩
abbrev OkN(P:Program)(w:World)(base:Heap)(k:Nat)(D:Dn K mg nm q st b_)(sp:Sp):Prop:=Wc P w K mg base (CXX P w) k D.f D.d b_ sp
abbrev OkM(P:Program)(w:World)(mg:Str->Option Value)(base:Heap)(k:Nat)(D:Dm K C nm q st b_)(sp:Sp):Prop:=Wc P w K mg base (CXX P w) k D.f D.d b_ sp
abbrev OkI(P:Program)(w:World)(mg:Str->Option Value)(base:Heap)(k:Nat)(D:Di K C q st b_)(sp:Sp):Prop:=Wc P w K mg base (CXX P w) k D.f D.d b_ sp
end
section
variable {X:Cx}{CX:CXT}{j k:Nat}{C:Addr}{b_:List Str}{sp:Sp}{E:XK}{x m q:Str}{st:Stmt}{p pos dA:Pos}{e o:Expr}{bC:List Expr}{b9:TE}{t:TA}{J:St->Prop}
theorem c6(D:Dn X.K X.mg x q st b_)(F:Wc X.prog X.w X.K X.mg X.base CX j D.f D.d b_ sp)(ap:eH k X.A)(bp:WI CX X E)(bD:PA X (e::bC) t)(bw:Nat.ble j k=true:=by rfl)(bG:Gl X x:=by rfl)
  (fV:(x==("__debug__" :Str))=false:=by decide) (bK:starEach (e::bC) X.env=(false,eval e X.env)::starEach bC X.env:=by rfl) (eT:(backTo pos (starEach bC X.env)).any (·.1)=false:=by rfl):
  PE X (.Call (.Name x p) (e::bC) [] pos) (uL sp [] E t):=ZmS (F.mono (qbe bw)) ap bG D.m D.F.kp D.b .nil bp bD fV bK eT
theorem fk{pl:Sem Bool}(bK:PE X o b9)(c:Cls X.K C)(D:Dm X.K C m q st b_)(F:Wc X.prog X.w X.K X.mg X.base CX j D.f D.d b_ sp)(ap:eH k X.A)(bp:WI CX X E)(bD:PA X (e::bC) t)(bw:Nat.ble j k=true:=by rfl)
  (eN:starEach (e::bC) X.env=(false,eval e X.env)::starEach bC X.env:=by rfl) (eT:(backTo pos (starEach bC X.env)).any (·.1)=false:=by rfl)
  (bX:eval (.Call (.Attribute o m dA) (e::bC) [] pos) X.env=(do
   let dz<-eval o X.env
   standAt dA.atName
   let(f,first)<-holding [dz] (getMethod dz m pl)
   callWith pos f first (backTo pos (starEach (e::bC) X.env)) (backToKw pos (keywordEach [] X.env))):=by rfl):
  PE X (.Call (.Attribute o m dA) (e::bC) [] pos) (p1 C m sp [] E b9 t):=zg bK c D.M (F.mono (qbe bw)) ap D.b .nil bp bD eN eT bX
theorem il{pl:Sem Bool}(bK:PE X o b9)(c:Cls X.K C)(D:Dm X.K C m q st b_)(F:Wc X.prog X.w X.K X.mg X.base CX j D.f D.d b_ sp)(ap:eH k X.A)(bp:WI CX X E)(bw:Nat.ble j k=true:=by rfl)
  (bX:eval (.Call (.Attribute o m dA) [] [] pos) X.env=(do
   let dz<-eval o X.env
   standAt dA.atName
   let(f,first)<-holding [dz] (getMethod dz m pl)
   callWith pos f first (backTo pos (starEach [] X.env)) (backToKw pos (keywordEach [] X.env))):=by rfl):
  PE X (.Call (.Attribute o m dA) [] [] pos) (p1 C m sp [] E b9 tNil):=ZkU bK c D.M (F.mono (qbe bw)) ap D.b .nil bp bX
theorem z2(D:Di X.K C q st b_)(F:Wc X.prog X.w X.K X.mg X.base CX j D.f D.d b_ sp)(ap:eH (k+1) X.A)(bz:X.mg x=some (.ref C))(bp:WI CX X E)(bD:PA X (e::bC) t)(bw:Nat.ble j k=true:=by rfl)(bG:Gl X x:=by rfl)
  (fV:(x==("__debug__" :Str))=false:=by decide) (bK:starEach (e::bC) X.env=(false,eval e X.env)::starEach bC X.env:=by rfl) (eT:(backTo pos (starEach bC X.env)).any (·.1)=false:=by rfl):
  PE X (.Call (.Name x p) (e::bC) [] pos) (p2 C sp [] E t):=Zmy D.M (F.mono (qbe bw)) ap bG bz D.b .nil bp bD fV bK eT
theorem z3(D:Di X.K C q st b_)(F:Wc X.prog X.w X.K X.mg X.base CX j D.f D.d b_ sp)(ap:eH (k+1) X.A)(bz:X.mg x=some (.ref C))(bp:WI CX X E)(bw:Nat.ble j k=true:=by rfl)(bG:Gl X x:=by rfl)
  (fV:(x==("__debug__" :Str))=false:=by decide):PE X (.Call (.Name x p) [] [] pos) (p2 C sp [] E tNil):=ZlU D.M (F.mono (qbe bw)) ap bG bz D.b .nil bp fV
end
section
variable {X:Cx}
def rDIn:R2:=λy x H Q=>∃a o,x= .ref a/\iK H a y o/\Q (.bl o.isSome) H
def rDNotIn:R2:=λy x H Q=>∃a o,x= .ref a/\iK H a y o/\Q (.bl (!o.isSome)) H
theorem HV(hu:X.A.units+64<cLine):OpR X (compareOp .In) rDIn:=by
 intro aj s af H x y v u Q I b3 cj h;obtain⟨a,o,rfl,g,q⟩:=h;cases cj;exact Zpt (by omega) I g b3 λs' eS=>⟨.bl o.isSome,H,eS,rfl,q⟩
theorem oN(hu:X.A.units+64<cLine):OpR X (compareOp .NotIn) rDNotIn:=by
 intro aj s af H x y v u Q I b3 cj h;obtain⟨a,o,rfl,g,q⟩:=h;cases cj;exact Zm1 (by omega) I g b3 λs' eS=>⟨.bl (!o.isSome),H,eS,rfl,q⟩
def rIxD:R2:=λx y H Q=>∃a v,x= .ref a/\iK H a y (some v)/\Q v H
theorem nt(hu:X.A.units+64<cLine):IxR X rIxD:=by
 intro value slice aj s af H x y v u Q I b3 cj h hs;obtain⟨a,z,rfl,g,q⟩:=h;cases b3;exact tail_any (Hd I g) PySem.F.slot_dict_getitem.lookup (Hc (by omega) I g cj λd3 s' eS ja=>⟨z,H,eS,ja,q⟩) hs
def rSetD:V->V->V->Hp->(Hp->Prop)->Prop:=λo i v H Q=>∃a bW,o= .ref a/\Zfl H a i v bW/\Q bW
theorem ml(hu:X.A.units+64<cLine):Zi4 X rSetD:=by
 intro aj s af H o i v dz fR u Q I ro ri c' h;obtain⟨a,bW,rfl,g,q⟩:=h;cases ro;exact Zkq (by omega) I g ri c' λs' eS=>⟨bW,eS,q⟩
theorem vt{P:Program}{w:World}{k:Key}{u:Value}(h:(ec P w).is k u=true):cL (kV k) u:=by
 cases k with
 |inl i=>exact Value.isInt_shape h
 |inr x=>exact Value.isStrOf_shape h
theorem qw:∀{xs:List V}{us:List Value},us.length=xs.length->(∀(j:Nat)(v:V)(u:Value),xs[j]? =some v->us[j]? =some u->cL v u)->cR xs us
 | [],[],_,_=> .nil
 |x::xs,u::us,ag,h=> .cons (h 0 x u rfl rfl) (qw (by simpa using ag) λj v w bE bP=>h (j+1) v w (by simpa using bE) (by simpa using bP))
 | [],_::_,ag,_=>by simp at ag
 |_::_,[],ag,_=>by simp at ag
theorem KV.at{kvs:List (Key×V)}{vs:List (Key×Value)}(r:KV kvs vs):∀{j:Nat}{k:Key}{x:Value},vs[j]? =some (k,x)->∃v,kvs[j]? =some (k,v):=by
 unfold KV at r
 induction r with
 |nil=>intro j k x e;simp at e
 | @cons p q b_ qs h t bQ=>
  intro j k x e;cases j with
  |zero=>
   simp at e;subst e;have ak:p.1=k:=h.1;exact⟨p.2,by simp[<-ak]⟩
  |succ j=>
   obtain⟨v,z⟩:=bQ (j:=j) (k:=k) (x:=x) (by simpa using e);exact⟨v,by simpa using z⟩
def rListD:List V->Hp->VK->Prop:=λxs H Q=>∃a kvs,xs=[V.ref a]/\H a=some (.dK kvs)/\∀l,H l=none->Q (.ref l) (upd H l (.lst (kvs.map λkv=>kV kv.1)))
theorem z4(bv:X.calm=true):YW X (.type "list") rListD:=by
 intro aj s af H xs us Q I r h;obtain⟨a,kvs,rfl,bD,q⟩:=h;obtain⟨u,rfl,d8⟩:=WB r;cases d8;obtain⟨z,hd,vs,rel,dd⟩:=ZbS I.hok bD;obtain⟨ep,et⟩:=dd.dictAt;refine kdl_call (PySem.W.kdl_dict (knd:=ec X.prog X.w) (kvs:=vs) (ep:=ep) hd) (I.ok.hd bv) et (by rw[<-rel.length];exact z) λh' b1 c_ c br kD hB=>?_;refine⟨.ref s.heap.objs.size,_,I.laid (a:=s.heap.objs.size) (o:= .lst (kvs.map λkv=>kV kv.1)) (t':=b1) br (qab _) ⟨by rw[GE];exact z,c_.toList,c,?_,by simpa using kD⟩,rfl,q _ (I.hok.fresh (qab _))⟩;refine qw (by rw[qaQ,hB.1,GE,rel.length]) λj v u bE bP=>?_;obtain⟨k,x,bp,kI⟩:=hB.2 j u (by rw[<-qbf];exact bP);obtain⟨l5,gH⟩:=rel.at bp;rw[qak,gH] at bE;cases bE;exact vt kI
end
section
variable {X:Cx}{aj:List (Addr×Obj)}{af:List (Option V)}{H ae:Hp}{s:Shared}{h':Heap}
theorem Inv.turnedL{t':Nat}{fp:List Addr}(I:Inv X aj af H s)(k:∀b o,b∉fp->s.heap.get? b=some o->h'.get? b=some o)(bN:∀b∈fp,gW X aj H b):Inv X aj af H {s with heap:=h',toks:=t'}:=by
 have pJ:∀b u,H b=some u->b∉fp:=λb u e z=>by rw[(bN b z).1] at e;cases e
 refine I.step (g':=s.gens) (d':=s.drawn) (ch:=fp) (λb ai=>?_) (λb o _ _ bv e _=>k b o bv e) (λb o _ _ bv e _=>⟨o.slots,k b o bv e⟩) (λ_ _ _ _ n=>n)
  (λb o bv e=>⟨o,k b o bv e⟩) (λ_ _ e=>e) (λ_ _ _ e=>e) (λb b_ e=>⟨#[],by rw[e];simp⟩) (λm bz=>?_) (λb u e=>?_) I.bare
 .obtain⟨dR,f1,f2,dh,d0,d6⟩:=bN b ai;exact⟨dh,f1,d0,d6⟩
 .obtain⟨o,bC,ep,bJ,r⟩:=bz;exact⟨o,bC,ep,k _ o (λz=>(bN _ z).2.1 rfl) bJ,r⟩
 .refine(I.hok b u e).stay (λc v bv q=>k c v ?_ q) (λ_ q=>q) λ_ _ q=>q;rcases bv with z|z
  .rw[z];exact pJ b u e
  .exact pJ c _ z
theorem Inv.turnedNew{t':Nat}{fp:List Addr}{T:Addr}{o:HO}(I:Inv X aj af H s)(k:∀b o,b∉fp->s.heap.get? b=some o->h'.get? b=some o)(bN:∀b∈fp,gW X aj H b)(bB:s.heap.objs.size<=T)(new:Z5 X.prog X.w (upd H T o) h' T o):
  Inv X aj af (upd H T o) {s with heap:=h',toks:=t'}:=by
 have J:Inv X aj af H {s with heap:=h',toks:=t'}:=I.turnedL k bN;have bH:=I.hok.fresh bB;obtain⟨dR,f1,f2,dh,d0,d6⟩:=I.fpOk bB bH;refine Inv.step (s:={s with heap:=h',toks:=t'}) (h':=h') (g':=s.gens) (d':=s.drawn) (t':=t') (ch:=[T]) J (λb ai=>?_) (λb o _ _ bv e _=>e) (λb o _ _ bv e _=>⟨o.slots,e⟩) (λb o bv e n=>?_)
  (λb o bv e=>⟨o,e⟩) (λb xs e=>?_) (λb o u e=>?_) (λb b_ e=>⟨#[],?_⟩) (λm bz=>bz) (λb u e=>?_) I.bare
 .have e:b=T:=by simpa using ai
  subst e;exact⟨dh,f1,d0,d6⟩
 .rw[b6 (λz=>bv (by simp[z]))];exact n
 .rw[b6 (c3 e bH)];exact e
 .rw[b6 (c3 e bH)];exact e
 .rw[b6 (c3 e bH)];simpa using e
 .by_cases ai:b=T
  .subst ai;rw[Ze] at e;cases e;exact new
  .rw[b6 ai] at e;exact(J.hok b u e).stay (λc v _ q=>q) (λc q=>by rw[b6 (c3 q bH)];exact q) λc xs q=>by rw[b6 (c3 q bH)];exact q
end
noncomputable def Ite (K:Frag) (a:Addr):It:=
 ⟨λi H=>∃xs x,SqL K H a xs/\xs[i]? =some x,λi H v ae=>∃t x,H t=none/\v= .ref t/\ae=upd H t (.tup [.int i,x])/\∀xs,SqL K H a xs->xs[i]? =some x,λi H=>∃xs,SqL K H a xs/\xs.length<=i⟩
theorem HW{P:Program}{w:World}{K:Frag}{nu:List Expr}{k1:Nat}{pos:Pos}(a e it:Addr)(z5:e≠it):Zas P w K (.Tuple nu k1 pos) (Ite K a) [e,it] e (λi h=>(∃kx,IsEnum h e it i kx)/\h.IsListIter it a i) where
 mem:=by simp
 obj:=λi h st b ai=>by
  obtain⟨⟨kx,bK⟩,o,ak,a',bL⟩:=st;rcases qah.mp ai with rfl|ai
  .exact⟨_,bK,λv z=>by
    have f6:Data.fields _=Data.cell v:=z;cases f6⟩
  .rw[qac.mp ai];exact⟨o,ak,λv z=>by rw[bL] at z;cases z⟩
 keep:=λi h h' st k=>⟨let⟨kx,bK⟩:=st.1;⟨kx,k e (by simp) _ bK⟩,st.2.at λo q=>k it (by simp) o q⟩
 item:=by
  intro X d5 hw eD bv i aj s af H E I bN st bG;subst d5 hw eD;obtain⟨xs,x,cr,bp⟩:=bG;obtain⟨its,c',p,hz⟩:=I.list cr;obtain⟨u,hu,d8⟩:=c'.get bp;obtain⟨⟨kx,bK⟩,dV⟩:=st;refine wpAny_pyNext_enum_item bK dV p.isList (x:=u) (by simpa using hu) z5 λh' bJ hit' c1 hsz br=>?_;have gu:=I.hok.fresh (qab s.heap.objs.size);have z6:e<s.heap.objs.size:=Heap.lt_size bK;have sw:it<s.heap.objs.size:=by obtain⟨_,y,_⟩:=dV;exact Heap.lt_size y
  refine⟨_,rfl,wpAny_letOwnedTupleGo_enum bJ λa' lG jZ=>?_⟩;have sx:a'.get? s.heap.objs.size=some {cls:= .type "tuple",data:= .seq #[.int i s.toks,u]}:=jZ.extBut _ _ (qbY z6) c1;have bT:Inv X aj af (upd H s.heap.objs.size (.tup [.int i,x])) {s with heap:=a',toks:=s.toks+1}:=
   I.turnedNew (fp:=[e,it]) (λb o ai q=>by
    have ga:b≠e:=λz=>ai (by simp[z]);have f9:b≠it:=λz=>ai (by simp[z]);exact jZ.extBut b o ga (br b o ga f9 q)) bN (qab _) ⟨by show 2<=sizeLine;decide,[.int i s.toks,u],.cons ⟨_,rfl⟩ (.cons d8 .nil),_,sx,rfl,_,rfl⟩
  refine⟨.ref s.heap.objs.size,_,bT,rfl,⟨_,x,gu,rfl,rfl,λys bO=>by rw[I.list_inj bO cr];exact bp⟩,⟨⟨_,lG⟩,hit'.at λo q=>jZ.extBut _ _ z5.symm q⟩,λb ai=>?_⟩;have qx:b≠s.heap.objs.size:=by
   rcases qah.mp ai with rfl|ai
   .exact qap z6
   .rw[qac.mp ai];exact qap sw
  rw[b6 qx];exact(bN b ai).1
 done:=by
  intro X d5 hw eD bv i aj s af H E I bN st bG;subst d5 hw eD;obtain⟨xs,cr,bp⟩:=bG;obtain⟨its,c',p,hz⟩:=I.list cr;obtain⟨⟨kx,bK⟩,dV⟩:=st;have ag:=c'.length;exact wpAny_pyNext_enum_end (I.ok.hd bv) bK dV p.isList (by simp;omega) λh' c0=>⟨rfl,I.turnedL (t':=s.toks) (fp:=[e,it]) (λb o ai q=>c0 b o (λz=>ai (by simp[z])) q) bN⟩
 self:=λ_ _ _ _ _ st h=>wpAny_pyIter_enum st.1.choose_spec h
section
variable {X:Cx}
def z7 (K:Frag) (b9:TA):TI:=λaf H R=>b9 af H λvs a_=>∃a,vs=[.ref a]/\(∃xs,SqL K a_ a xs)/\R (Ite K a) a_
theorem mm{K:Frag}{a:Expr}{b9:TA}{p pos m2:Pos}{nu:List Expr}{k1:Nat}(e1:X.K=K)(bG:Gl X "enumerate")(bz:X.mg "enumerate" =none)(bD:PA X [a] b9)(hs:starEach [a] X.env=[(false,eval a X.env)]:=by rfl):
  PI X (.Tuple nu k1 m2) (.Call (.Name "enumerate" p) [a] [] pos) (z7 K b9):=by
 subst e1;intro aj s af H R I h;refine Call_ (h8 I bG bz boot_enumerate (qaM (thn (bD pos aj s af H _ I h) λus bu ⟨vs,a_,bT,cq,ce⟩=>?_) hs rfl));obtain⟨b,rfl,⟨xs,cr⟩,q⟩:=ce;obtain⟨u,rfl,d8⟩:=WB cq;cases d8;obtain⟨its,c',pl,hz⟩:=bT.list cr;refine call_enumerate_list pl.isList λh' bK dV hsz br=>?_;refine wpAny_pyIter_enum bK ?_;have cC:Inv X aj af a_ {bu with heap:=h'}:=bT.kept (t':=bu.toks) br;refine⟨bu.heap.objs.size+1,[bu.heap.objs.size+1,bu.heap.objs.size],_,_,a_,rfl,cC,HW b _ _ (Nat.succ_ne_self _),⟨⟨_,bK⟩,dV⟩,λc bv=>?_,q⟩;rcases qah.mp bv with rfl|bv
 .exact bT.fpOk (qb3 _) (bT.hok.fresh (qb3 _))
 .rw[qac.mp bv];exact bT.fpOk (qab _) (bT.hok.fresh (qab _))
end
def rLenD:List V->Hp->VK->Prop:=λxs H Q=>∃a kvs,xs=[V.ref a]/\H a=some (.dK kvs)/\Q (.int kvs.length) H
theorem Zjm{X:Cx}:YW X (.builtin "len") rLenD:=Hk
noncomputable def mo (n:Nat) (ix:List Nat) (af:St):St:=List.replicate n none++ix.map λj=>(af[j]?).join
def vu (n:Nat) (ix:List Nat) (dG:TI) (g:TG) (dv:TT) (cB:TE):TE:=λaf H Q=>dG af H λJ a_=>∀p,a_ p=none->
 ∃W:Nat->Nat->List V->St->Hp->Prop,(∃m,W 0 m [] (mo n ix af) (upd a_ p (.lst [])))/\∀i m ys bY ae,W i m ys bY ae->
  (J.stop i ae/\Q (.ref p) ae)\/(J.go i ae/\∀x bt,J.yld i ae x bt->g x bY bt λcS b7=>dv cS b7 λb bW=>
   if b=true then cB cS bW λv b0=>b0 p=some (.lst ys)/\ys.length<sizeLine/\∃cA,cA<m/\W (i+1) cA (ys++ [v]) cS (upd b0 p (.lst (ys++ [v])))
   else ∃cA,cA<m/\W (i+1) cA ys cS bW)
section
variable {X:Cx}
theorem Zib{aj:List (Addr×Obj)}{af:St}{H:Hp}{s:Shared}{ca:Scope}{x:Str}{xs:List Str}{zs:List Str}{ix:List Nat}{cg:List (Str×Addr)}{fp:List Addr}{h₁:Heap}{b1:Nat}
  (S:Wq X ca x zs ix) (I:Inv X aj af H s) (ew:∀y c,cg.lookup y=some c->X.env.cells.lookup y=some c) (hv:∀y,(y,NameKind.free)∈ca.names->∃c,cg.lookup y=some c)
  (hS:∀b∈fp,gW X aj H b/\b<s.heap.objs.size) (jc:h₁.Ns s.heap.objs.size λ_=>none) (br:∀b o,s.heap.get? b=some o->h₁.get? b=some o):
  Inv (Zn X ca cg s.heap.objs.size (xs++zs) s H fp) [] (mo xs.length ix af) H {s with heap:=h₁,toks:=b1}:=by
 have sub:∀b∈frs X.stack,b∈X.env.locals::X.fs:=I.stkSub;have u0:∀b∈fp,b∉frs X.stack:=λb ai z=>by
  obtain⟨⟨_,f1,f2,_⟩,_⟩:=hS b ai;rcases qah.mp (sub b z) with e|e
  .exact f1 e
  .exact f2 e
 have cut:∀y,(Zn X ca cg s.heap.objs.size (xs++zs) s H fp).env.kindOf y=some .cell\/(Zn X ca cg s.heap.objs.size (xs++zs) s H fp).env.kindOf y=some .free->∃c,cg.lookup y=some c:=λy bO=>by
  have q:∃k,(relabel ca X.env).names.lookup y=some k/\(k= .cell\/k= .free):=by
   rcases bO with bO|bO
   .exact⟨_,bO,.inl rfl⟩
   .exact⟨_,bO,.inr rfl⟩
  obtain⟨k,e,br⟩:=q;obtain⟨k',b',q⟩:=W1 e;have:k'= .free:=by
   rcases q with q|⟨q,_⟩
   .rcases br with z|z
    .exact absurd (q.symm.trans z) (S.nocell _ (mf b'))
    .exact q.symm.trans z
   .exact q
  subst this;exact hv y (mf b')
 refine⟨⟨I.ok.mod,S.kind,I.ok.glob,I.ok.blt,qab _,λy z c ak a'=>I.ok.inj y z c (ew _ _ ak) (ew _ _ a'),cut,λy c bN _=>?_,I.ok.hd,I.ok.frames,.inl rfl,λb ai=>?_,I.bs,qaj I.ok.bsz I.sz,λb o e ai=>?_,u0,I.stack,I.stkFree⟩,
  rfl,I.bare,Un.kept br,⟨_,jc,λi y v ak a' bL=>?_⟩,λy c h=>?_,I.hok.fresh (qab _),λy c h=>I.freeC y c (ew y c h),λp bB=>absurd (show p∈([]:List (Addr×Obj)) from bB) (by simp),I.hok.kept br,?_⟩
 .exact absurd (show false=true from bN) (by decide)
 .obtain⟨⟨dR,f1,f2,dh,d0,d6⟩,ag⟩:=hS b ai;exact⟨qap ag,λy c h=>d0 y c (ew y c h)⟩
 .obtain⟨⟨dR,f1,f2,dh,d0,d6⟩,ag⟩:=hS b ai;rcases dh with z|z
  .exact I.ok.noex b o e z
  .exact absurd (qag (Heap.lt_size e) (qaj I.ok.bsz z)) (qbr _)
 ·
  have d9:xs.length<=i:=by
   rcases qa8 i xs.length with z|z
   .have hx:(List.replicate xs.length none++ix.map λj=>(af[j]?).join)[i]? =some (some v):=a';rw[qaK (by rw[qbp];exact z),List.getElem?_replicate,if_pos z] at hx;cases hx
   .exact z
  .obtain⟨i,rfl⟩:∃ss,i=xs.length+ss:=⟨i-xs.length,by omega⟩;have mh:zs[i]? =some y:=by
    have mh:(xs++zs)[xs.length+i]? =some y:=ak;rw[qaS (Nat.le_add_right _ _),Nat.add_sub_cancel_left] at mh;exact mh
   have hx:(ix.map λj=>(af[j]?).join)[i]? =some (some v):=by
    have hx:(List.replicate xs.length none++ix.map λj=>(af[j]?).join)[xs.length+i]? =some (some v):=a';rw[qaS (by rw[qbp];exact Nat.le_add_right _ _),qbp,Nat.add_sub_cancel_left] at hx;exact hx
   have bD:(ix.map λj=>X.N[j]?)[i]? =some (some y):=by rw[S.at_,qak,mh];rfl
   rw[qak] at hx bD;cases e:ix[i]? with
   |none=>rw[e] at hx;cases hx
   |some j=>
    rw[e] at hx bD;have gs:X.N[j]? =some y:=qam bD;have bw:(af[j]?).join=some v:=qam hx;have u1:af[j]? =some (some v):=by
     cases q:af[j]? with
     |none=>rw[q] at bw;cases bw
     |some o=>rw[q] at bw;exact congrArg some bw
    obtain⟨m,bH,ag⟩:=I.loc;have gu:=S.zfree y (qav mh);have m9:=S.free _ (mf gu) rfl;have bS:Vis X.env.scope y:=by
     rcases m9 with z|z
     .exact .inr (.inl z)
     .exact .inr (.inr z)
    obtain⟨u,r,q⟩:=ag j y v gs u1 bS;refine⟨u,r,?_⟩;rcases q with⟨u2,_⟩|⟨_,c,bv,l7⟩
    .have qe:X.env.kindOf y=some .local:=u2;rcases m9 with z|z<;>(rw[z] at qe;cases qe)
    .obtain⟨cU,kq⟩:=hv y (mf gu);have j5:cU=c:=by have:=ew y cU kq;rw[bv] at this;exact(qam this).symm
     subst j5;refine .inr ⟨?_,cU,kq,?_⟩
     .have u3:Vis (relabel ca X.env) y:=bL;rcases u3 with z|z|z
      .obtain⟨k',b',q⟩:=W1 z;rw[gu] at b';cases b';rcases q with q|⟨_,q⟩<;>cases q
      .exact .inl z
      .exact .inr z
     .obtain⟨o,bJ,hd⟩:=l7;exact⟨o,br _ _ bJ,hd⟩
 .obtain⟨v,o,bJ,hd⟩:=I.cell y c (ew y c h);exact⟨v,o,br _ _ bJ,hd⟩
 .show(List.replicate xs.length none++ix.map λj=>(af[j]?).join).length=(xs++zs).length;have:=congrArg List.length S.at_;simp only[GE] at this;simp only[qaA,qbp,GE,this]
theorem Zdw{aj:List (Addr×Obj)}{af:St}{H:Hp}{s:Shared}{ca:Scope}{x:Str}{xs:List Str}{zs:List Str}{ix:List Nat}{cg:List (Str×Addr)}{fp:List Addr}{it:Addr}{d4:Nat->Heap->Prop}{J:It}
  {fi cV eA:Expr} {ifs:List Expr} {pos:Pos} {g:TG} {dv:TT} {cB:TE} {Q:VK} {E:Value->Shared->Prop} {RR:Value->Addr->Result->Shared->Prop}
  (bv:X.calm=true) (S:Wq X ca x zs ix) (I:Inv X aj af H s) (ew:∀y c,cg.lookup y=some c->X.env.cells.lookup y=some c) (hv:∀y,(y,NameKind.free)∈ca.names->∃c,cg.lookup y=some c)
  (T:Zas X.prog X.w X.K cV J fp it d4) (st:d4 0 s.heap) (hS:∀b∈fp,gW X aj H b)
  (ea:∀C s H,PG (Zn X ca cg C (xs++zs) s H fp) cV g/\PIf (Zn X ca cg C (xs++zs) s H fp) ifs dv/\PE (Zn X ca cg C (xs++zs) s H fp) fi cB)
  (cr:∀p,H p=none->∃W:Nat->Nat->List V->St->Hp->Prop,(∃m,W 0 m [] (mo xs.length ix af) (upd H p (.lst [])))/\∀i m ys bY ae,W i m ys bY ae->
   (J.stop i ae/\Q (.ref p) ae)\/(J.go i ae/\∀x bt,J.yld i ae x bt->g x bY bt λcS b7=>dv cS b7 λb bW=>
    if b=true then cB cS bW λv b0=>b0 p=some (.lst ys)/\ys.length<sizeLine/\∃cA,cA<m/\W (i+1) cA (ys++ [v]) cS (upd b0 p (.lst (ys++ [v])))
    else ∃cA,cA<m/\W (i+1) cA ys cS bW))
  (c8:∀c_ C f s',zE X aj af Q c_ C s'->RR c_ C (.ok f) s'):
  wpAny (model X.prog X.w) X.A (newList []) (λc_ jU=>wpAny (model X.prog X.w) X.A (newFunctionEnv ca X.env.globals cg [] X.env.qual none .none (some X.env)) (λqf oI=>
   codeAny (model X.prog X.w) X.A (.compStart (.ListComp fi [⟨cV,eA,ifs,0⟩] ca pos) 0 (.ref it) c_ {qf with scope:=relabel ca X.env}) (RR c_ qf.locals) oI) E jU) E s:=by
 refine wpAny_newObj_type (wpAny_newFunctionEnv S.nocell (by intro y bO;simp at bO) (λh₁ hns₁ qg=>?_) S.kind);have dw:Inv X aj af (upd H s.heap.objs.size (.lst [])) {s with heap:=s.heap.push {cls:= .type "list",dict:=none,data:= .seq ([]:List Value).toArray}}:=I.lnew (its:=[]) (ys:=[]) (t':=s.toks) .nil (qat _);dsimp only at hns₁ qg|-;obtain⟨W,⟨hP,e8⟩,turn⟩:=cr s.heap.objs.size (I.hok.fresh (qab _));have lt:∀b∈fp,b<s.heap.objs.size:=λb ai=>by
  obtain⟨o,e,_⟩:=T.obj 0 s.heap st b ai;exact Heap.lt_size e
 have oJ:∀b∈fp,∀o,(upd H s.heap.objs.size o) b=H b:=λb ai o=>b6 (qap (lt b ai));have kp:∀b o,(s.heap.push {cls:= .type "list",dict:=none,data:= .seq ([]:List Value).toArray}).get? b=some o->h₁.get? b=some o:=λb o e=>
  qg.extBut b o (qap (Heap.lt_size e)) (Heap.get?_push_of_some _ e)
 have dh:∀b∈fp,gW X aj (upd H s.heap.objs.size (.lst [])) b/\b<(s.heap.push {cls:= .type "list",dict:=none,data:= .seq ([]:List Value).toArray}).objs.size:=λb ai=>by
  obtain⟨u4,q⟩:=hS b ai;refine⟨⟨(oJ b ai _).trans u4,q⟩,?_⟩;rw[Heap.size_push];exact qbg (lt b ai)
 generalize kF:({s with heap:=s.heap.push {cls:= .type "list",dict:=none,data:= .seq ([]:List Value).toArray}}:Shared)=bR at dw;have qh:s.heap.push {cls:= .type "list",dict:=none,data:= .seq ([]:List Value).toArray}=bR.heap:=by rw[<-kF]
 rw[qh] at kp dh hns₁|-;have ky:d4 0 h₁:=T.keep 0 _ _ st λb _ o e=>kp b o (by rw[<-qh];exact Heap.get?_push_of_some _ e);have ly:Inv (Zn X ca cg bR.heap.objs.size (xs++zs) bR (upd H s.heap.objs.size (.lst [])) fp) [] (mo xs.length ix af) (upd H s.heap.objs.size (.lst [])) {bR with heap:=h₁,toks:=bR.toks}:=
  Zib S dw ew hv dh hns₁ kp
 obtain⟨bG,u5,bK⟩:=ea bR.heap.objs.size bR (upd H s.heap.objs.size (.lst []));have nf:∀{ae:Hp},(∀b∈fp,ae b=none)->∀b∈fp,gW (Zn X ca cg bR.heap.objs.size (xs++zs) bR (upd H s.heap.objs.size (.lst [])) fp) [] ae b:=λ{ae} bH b ai=>
  ⟨bH b ai,(ly.ok.exf b ai).1,ly.ok.exfs b ai,.inl ai,(ly.ok.exf b ai).2,λp bB=>absurd (show p∈([]:List (Addr×Obj)) from bB) (by simp)⟩
 have qi:∀b2:Shared,b2={bR with heap:=h₁,toks:=bR.toks}->
   codeAny (model X.prog X.w) X.A (.compLoop (.ListComp fi [⟨cV,eA,ifs,0⟩] ca pos) 0 (.ref it) (.ref s.heap.objs.size) (compEnvC ca cg bR.heap.objs.size X.env)) (RR (.ref s.heap.objs.size) bR.heap.objs.size) b2:=by
  rintro b2 rfl;refine ZcP (λn s'=>∃i ys bY ae,Inv (Zn X ca cg bR.heap.objs.size (xs++zs) bR (upd H s.heap.objs.size (.lst [])) fp) [] bY ae s'/\d4 i s'.heap/\(∀b∈fp,ae b=none)/\W i n ys bY ae) ?_ hP
   ⟨0,[],mo xs.length ix af,_,ly,ky,λb ai=>(dh b ai).1.1,e8⟩
  rintro n cs ⟨i,ys,lz,b0,iF,ln,ho,u6⟩;rcases turn i n ys lz b0 u6 with⟨stop,m5⟩|⟨go,step⟩
  .refine thn (T.done (Zn X ca cg bR.heap.objs.size (xs++zs) bR (upd H s.heap.objs.size (.lst [])) fp) rfl rfl rfl bv i [] cs lz b0 _ iF (nf ho) ln stop) λr dY ⟨ap,gV⟩=>?_;subst ap;obtain⟨u7,qj,_⟩:=gV.loc;refine c8 _ _ _ _ ⟨s.heap.objs.size,b0,u7,rfl,qj,?_,dw.fpOk (qab _) gV.free,m5⟩;exact dw.call' gV.os gV.base gV.hok gV.bare λb ai=>by
    obtain⟨⟨dR,f1,f2,dh,d0,d6⟩,_⟩:=dh b ai;exact⟨dh,f1,d0,d6⟩
  .refine thn (T.item (Zn X ca cg bR.heap.objs.size (xs++zs) bR (upd H s.heap.objs.size (.lst [])) fp) rfl rfl rfl bv i [] cs lz b0 _ iF (nf ho) ln go) λr dY ⟨u,ap,da⟩=>?_;subst ap;refine thn da λ_ fb ⟨x7,di,ia,pV,u8,ng,lA⟩=>?_;have u9:=ia.pinned (nf lA) (T.obj _ _ ng);refine thn (bG _ fb lz di x7 u _ u9 pV (step x7 di u8)) λ_ e4 ⟨nh,eU,u_,u'⟩=>?_;refine thn (u5 _ e4 nh eU _ u_ u') λb hy ⟨f',qk,lB⟩=>?_;have again:∀{ni:List V}{bY:St}{ae:Hp}{cA:Nat}{s':Shared},Inv (Zn X ca cg bR.heap.objs.size (xs++zs) bR (upd H s.heap.objs.size (.lst [])) fp) ([]++Zbh fp fb.heap) bY ae s'->W (i+1) cA ni bY ae->cA<n->
     ∃m,m<n/\∃i ys bY ae,Inv (Zn X ca cg bR.heap.objs.size (xs++zs) bR (upd H s.heap.objs.size (.lst [])) fp) [] bY ae s'/\d4 i s'.heap/\(∀b∈fp,ae b=none)/\W i m ys bY ae:=λ{ni bY ae cA s'} Iz j7 bz=>by
    refine⟨cA,bz,i+1,ni,bY,ae,Iz.unpinned,T.keep _ _ _ ng λb ai o e=>(Iz.pin (b,o) (qay _ (qay _ (ot ai e)))).1,λb ai=>?_,j7⟩;obtain⟨o,e,d⟩:=T.obj _ _ ng b ai;exact(Iz.pin (b,o) (qay _ (qay _ (ot ai e)))).2.1
   cases b with
   |false=>
    rw[if_neg qal] at lB|-;obtain⟨cA,bz,j7⟩:=lB;exact again qk j7 bz
   |true=>
    rw[if_pos rfl] at lB|-;refine thn (bK _ hy nh f' _ qk lB) λv gv ⟨y,fj,va,vb,ag,hz,cA,bz,j7⟩=>?_;refine thn (g0 _ gv nh fj (.ref s.heap.objs.size) [y] (.ref s.heap.objs.size) [v] (λz ae=>z= .non/\ae=upd fj s.heap.objs.size (.lst (ys++ [y]))) va rfl (.cons vb .nil) ⟨_,ys,y,rfl,rfl,ag,hz,rfl,rfl⟩) λ_ jh ⟨z,iL,vd,_,_,ve⟩=>?_;subst ve;exact again vd j7 bz
 exact codeAny_compStart_list (qi _ (by subst kF;rfl)) (T.self _ 0 _ _ _ ky (qi _ (by subst kF;rfl)))
theorem lH{fi cV eA:Expr}{ifs:List Expr}{ca:Scope}{pos:Pos}{x:Str}{xs:List Str}{zs:List Str}{ix:List Nat}{dG:TI}{g:TG}{dv:TT}{cB:TE}
  (bv:X.calm=true) (S:Wq X ca x zs ix) (hi:PI X cV eA dG)
  (ea:∀cg C s H fp,PG (Zn X ca cg C (xs++zs) s H fp) cV g/\PIf (Zn X ca cg C (xs++zs) s H fp) ifs dv/\PE (Zn X ca cg C (xs++zs) s H fp) fi cB)
  (hs:∀x,foldedSetIterable eA X.env x=pure x:=by intro _;rfl):
  PE X (.ListComp fi [⟨cV,eA,ifs,0⟩] ca pos) (vu xs.length ix dG g dv cB):=by
 intro aj s af H Q I h;obtain⟨cg,nj,ew,hv⟩:=Um I.ok S;rw[eval_ListComp];refine wpAny_comprehension_free (use:=none) rfl hs nj S.kind S.names (thn (hi aj s af H _ I h) λv bu ak=>thn ak λoq bM a'=>?_);obtain⟨it,fp,d4,J,bt,e,cC,T,lm,f2,cr⟩:=a';subst e;refine Zdw (RR:=λc_ C=>compPost (model X.prog X.w) X.A X.xe none (EP X aj af Q) c_ C) bv S cC ew hv T lm f2 (λC s H=>ea cg C s H fp) cr λc_ C f s' h=>?_;obtain⟨p,ae,m,rfl,bz,eS,⟨dS,g1,g2,g3,ii,lC⟩,q⟩:=h;exact⟨m,bz,λh' ai=>⟨.ref p,ae,eS.turned (t':=s'.toks) (λb o e0 e=>(ai.2 b e0).trans e) dS g1 g3 ii lC,rfl,q⟩⟩
theorem z8{fi cV eA:Expr}{ifs:List Expr}{ca:Scope}{pos py ql:Pos}{x y:Str}{xs:List Str}{zs:List Str}{ix:List Nat}{dG:TI}{g:TG}{dv:TT}{cB:TE}{j:Nat}
  (bv:X.calm=true) (S:Wq X ca x zs ix) (hi:PI X cV eA dG)
  (ea:∀cg C s H fp,PG (Zn X ca cg C (xs++zs) s H fp) cV g/\PIf (Zn X ca cg C (xs++zs) s H fp) ifs dv/\PE (Zn X ca cg C (xs++zs) s H fp) fi cB)
  (en:X.N.Nodup) (bw:X.N[j]? =some y) (bO:Loc X.env.scope y)
  (vf:swapsWith (.ListComp fi [⟨cV,eA,ifs,0⟩] ca pos) (some (.Name y py)) ql.line X.env=pure true:=by rfl)
  (bN:X.fn y=true\/X.env.scope.names.lookup y=some .local:=by first|exact .inl rfl|exact .inr rfl|assumption)
  (hs:∀x,foldedSetIterable eA X.env x=pure x:=by intro _;rfl):
  PS X (.Assign [.Name y py] (.ListComp fi [⟨cV,eA,ifs,0⟩] ca pos) ql) (pP (vu xs.length ix dG g dv cB) (UL j)):=by
 intro aj s af H D I h;obtain⟨cg,nj,ew,hv⟩:=Um I.ok S;rw[exec_Assign_Name_used _ _ _ _ vf];refine wpAny_bind (wpAny_standAt (wpAny_bind ?_));show wpAny _ X.A (do let _<-comprehension (.ListComp fi [⟨cV,eA,ifs,0⟩] ca pos) ca X.env _ (newList []) false (eval eA X.env) (some (assign (.Name y py) X.env))) _ _ s;refine wpAny_bind (wpAny_mono (wpAny_comprehension_free (use:=some (assign (.Name y py) X.env)) (Q:=λ_ s'=>SP X aj D .next s') rfl hs nj S.kind S.names
  (thn (hi aj s af H _ I h) λv bu ak=>thn ak λoq bM a'=>?_)) (λ_ s' cr=>wpAny_pure (wpAny_pure cr)) λ_ _ e=>e)
 obtain⟨it,fp,d4,J,bt,e,cC,T,lm,f2,cr⟩:=a';subst e;refine Zdw (Q:=λx a_=>UL j x af a_ D.nx) (RR:=λc_ C=>compPost (model X.prog X.w) X.A X.xe (some (assign (.Name y py) X.env)) (λ_ s'=>SP X aj D .next s') c_ C) bv S cC ew hv T lm f2 (λC s H=>ea cg C s H fp) cr λc_ C f s' h=>?_;obtain⟨p,ae,m,rfl,bz,eS,⟨dS,g1,g2,g3,ii,lC⟩,q⟩:=h;show wpAny _ X.A (assign (.Name y py) X.env (.ref p)) _ _ _;refine wpAny_assign_Name (uv eS en bw bO (show cL (.ref p) (.ref p) from rfl) (λm8 I'' ⟨c,vg,l6⟩=>?_) bN);have e0:C≠c:=by
  rcases l6 with z|z
  .rw[z];exact g1
  .exact qbO (ii _ _ z)
 exact⟨m,bz.sameBut vg e0,λh' ai=>⟨_,ae,I''.turned (t':=m8.toks) (λb o e0 e=>(ai.2 b e0).trans e) dS g1 g3 ii lC,q⟩⟩
end
structure UU(J:It)(n:Nat)(y:Nat->Hp->V->Hp->Prop)(H:Hp):Prop where
 go:∀ae i,Zd H ae->i<n->J.go i ae
 yld:∀ae i x bt,Zd H ae->i<n->J.yld i ae x bt->y i ae x bt
 stop:∀ae,Zd H ae->J.stop n ae
theorem Walks.y{J:It}{n:Nat}{f:Nat->V}{H:Hp}(w:Walks J n f H):UU J n (λi ae v bt=>bt=ae/\v=f i) H:=⟨w.go,w.yld,w.stop⟩
theorem mq{K:Frag}{a:Addr}{xs:List V}{H:Hp}(h:SqL K H a xs):UU (Ite K a) xs.length (λi ae v bt=>∃t,ae t=none/\v= .ref t/\bt=upd ae t (.tup [.int i,xs.getD i .non])) H:=
 ⟨λae i e hi=>⟨xs,xs[i],e.seq h,by simp[hi]⟩,λae i x bt e hi ⟨t,z,bX,bS,a',hz⟩=>⟨t,bX,bS,by
  have:=hz xs (e.seq h);rw[a'];simp[List.getD,this]⟩,λae e=>⟨xs,e.seq h,qab _⟩⟩
theorem Y5{own:Nat}{ix:List Nat}{g:TG}{dv:TT}{cB:TE}{Q:Addr->Hp->Prop}{af:St}{H:Hp}{J:It}{n:Nat}{y:Nat->Hp->V->Hp->Prop}(w:UU J n y H)(bH:n<sizeLine)(s:Nat->List (Option V))(hs:∀i,(s i).length=own)(c:Nat->Bool)(R:Nat->V->Hp->Prop)
  (mono:∀i v a_ bt,Zd a_ bt->R i v a_->R i v bt)
  (bG:∀i a ae v bt (hU:St->Hp->Prop),i<n->Zd H ae->y i ae v bt->a.length=own->(∀b7,Zd ae b7->hU (s i++ix.map λj=>(af[j]?).join) b7)->g v (a++ix.map λj=>(af[j]?).join) bt hU)
  (bv:∀i ae (cY:Bool->Hp->Prop),i<n->Zd H ae->(∀bW,Zd ae bW->cY (c i) bW)->dv (s i++ix.map λj=>(af[j]?).join) ae cY)
  (bK:∀p i ae (cY:VK),i<n->c i=true->H p=none->(∃ys,ae p=some (.lst ys))->Zd H ae->(∀v b0,Zd ae b0->R i v (hid b0 p)->cY v b0)->cB (s i++ix.map λj=>(af[j]?).join) ae cY)
  (q:∀p ae ys,H p=none->Zd H ae->ae p=some (.lst ys)->Paired (λi v=>R i v (hid ae p)) ((List.range n).filter c) ys->Q p ae):
  ∀p,H p=none->∃W:Nat->Nat->List V->St->Hp->Prop,(∃m,W 0 m [] (mo own ix af) (upd H p (.lst [])))/\∀i m ys bY ae,W i m ys bY ae->
   (J.stop i ae/\Q p ae)\/(J.go i ae/\∀x bt,J.yld i ae x bt->g x bY bt λcS b7=>dv cS b7 λb bW=>
    if b=true then cB cS bW λv b0=>b0 p=some (.lst ys)/\ys.length<sizeLine/\∃cA,cA<m/\W (i+1) cA (ys++ [v]) cS (upd b0 p (.lst (ys++ [v])))
    else ∃cA,cA<m/\W (i+1) cA ys cS bW):=by
 intro p bB;have z9:∀{a_ bt:Hp},Zd a_ bt->Zd (hid a_ p) (hid bt p):=λ{a_ bt} e b o z=>by
  by_cases h:b=p
  .rw[h,oM] at z;cases z
  .rw[YN h] at z|-;exact e b o z
 have z_:∀{a_:Hp}{o:HO},Zd (hid a_ p) (hid (upd a_ p o) p):=λ{a_ o} b u z=>by
  by_cases h:b=p
  .rw[h,oM] at z;cases z
  .rw[YN h] at z|-;rw[b6 h];exact z
 refine⟨λi m ys bY ae=>m=n-i/\i<=n/\(∃a,a.length=own/\bY=a++ix.map λj=>(af[j]?).join)/\Zd H ae/\ae p=some (.lst ys)/\Paired (λi v=>R i v (hid ae p)) ((List.range i).filter c) ys,
  ⟨n,by simp,qat _,⟨List.replicate own none,qbp,rfl⟩,cO bB,Ze,.nil⟩,?_⟩
 rintro i m ys bY ae ⟨rfl,hi,⟨a,bD,rfl⟩,bU,bO,ag⟩
 by_cases cD:i<n
 .refine .inr ⟨w.go ae i bU cD,λx bt qy=>?_⟩;have d9:ys.length<=i:=by
   rw[<-Paired.length ag];exact qaj (qaR _ _) (by simp)
  refine bG i a ae x bt _ cD bU (w.yld ae i x bt bU cD qy) bD λb7 bR=>?_;refine bv i b7 _ cD (bU.trans bR) λbW b2=>?_;have nn:=(bU.trans bR).trans b2;have lF:=b2 _ _ (bR _ _ bO);have step:(List.range (i+1)).filter c=(List.range i).filter c++(if c i=true then[i] else[]):=by
   rw[qbP,qch]
   congr 1
   by_cases h:c i=true<;>simp[h]
  have jj:Paired (λi v=>R i v (hid bW p)) ((List.range i).filter c) ys:=Paired.mapP ag λ_ _ z=>mono _ _ _ _ (z9 (bR.trans b2)) z
  by_cases jE:c i=true
  .rw[jE,if_pos rfl];refine bK p i bW _ cD jE bB ⟨ys,lF⟩ nn λv b0 cs m3=>⟨cs _ _ lF,by omega,n-(i+1),by omega,rfl,cD,⟨s i,hs i,rfl⟩,(nn.trans cs).new bB,Ze,?_⟩;rw[step,if_pos jE];exact Paired.snoc (Paired.mapP jj λ_ _ z=>mono _ _ _ _ ((z9 cs).trans z_) z) (mono _ _ _ _ z_ m3)
  .have qt:c i=false:=by simpa using jE
   rw[qt,if_neg qal];refine⟨n-(i+1),by omega,rfl,cD,⟨s i,hs i,rfl⟩,nn,lF,?_⟩;rw[step,if_neg jE,qcd];exact jj
 .have e:i=n:=by omega
  subst e;exact .inl ⟨w.stop ae bU,q p ae ys bB bU bO ag⟩
theorem z'{H:Hp}{p u:Addr}{o:HO}(h:∃ys,H p=some (.lst ys))(hu:H u=none):hid (upd H u o) p u=some o:=by
 have n:u≠p:=λz=>by
  obtain⟨ys,e⟩:=h;rw[<-z,hu] at e;cases e
 rw[YN n,Ze]
theorem vv{H ae:Hp}{p u:Addr}{o:HO}(h:∃ys,H p=some (.lst ys))(hu:H u=none)(fM:ae u=some o):hid ae p u=some o:=by
 have n:u≠p:=λz=>by
  obtain⟨ys,e⟩:=h;rw[<-z,hu] at e;cases e
 rw[YN n,fM]
theorem Zhl{H ae:Hp}{p b:Addr}{xs:List V}(h:∃ys,H p=some (.lst ys))(s:Zd H ae)(e:ae b=some (.tup xs)):hid ae p b=some (.tup xs):=by
 have n:b≠p:=λz=>by
  obtain⟨ys,b'⟩:=h;rw[z,s _ _ b'] at e;cases e
 rw[YN n,e]
theorem sy{R:Nat->V->Hp->Prop}{H:Hp}{r:Nat->V}(h:∀i v,R i v H->v=r i):∀{is:List Nat}{ys:List V},Paired (λi v=>R i v H) is ys->ys=is.map r
 |_,_,.nil=>rfl
 |_,_,.cons a t=>by rw[h _ _ a,sy h t];rfl
theorem Wp{J:It}{n:Nat}{y:Nat->Hp->V->Hp->Prop}{H0:Hp}(w:UU J n y H0){g:TG}{cH:TS}{D:VR}{af:St}{H:Hp}(Pv:Nat->St->Hp->Prop)(cd:Pv 0 af H)(br:∀i af H,Pv i af H->Zd H0 H)
  (hs:∀i af H v ae,i<n->Pv i af H->y i H v ae->g v af ae λcS bt=>cH {D with nx:=Pv (i+1),ct:=Pv (i+1),bk:=D.nx} cS bt) (hd:∀af H,Pv n af H->D.nx af H):
  ∃W:Nat->Nat->St->Hp->Prop,(∃m,W 0 m af H)/\∀i m af H,W i m af H->
   (J.stop i H/\D.nx af H)\/(J.go i H/\∃N:St->Hp->Prop,(∀bY ae,N bY ae->∃cA,cA<m/\W (i+1) cA bY ae)/\∀x ae,J.yld i H x ae->g x af ae λcS bt=>cH {D with nx:=N,ct:=N,bk:=D.nx} cS bt):=by
 refine⟨λi m af H=>m=n-i/\i<=n/\Pv i af H,⟨n,by simp,qat _,cd⟩,?_⟩;rintro i m af H ⟨rfl,hi,p⟩;have bU:=br i af H p
 by_cases cD:i<n
 .exact .inr ⟨w.go H i bU cD,Pv (i+1),λbY ae he=>⟨n-(i+1),by omega,rfl,cD,he⟩,λx ae qy=>hs i af H x ae cD p (w.yld H i x ae bU cD qy)⟩
 .have e:i=n:=by omega
  subst e;exact .inl ⟨w.stop H bU,hd af H p⟩
namespace Rd
section
variable {af:St}{H:Hp}{Q:VK}{D:VR}{K:Frag}
theorem Znh{n:Nat}{ix:List Nat}{dG:TI}{g:TG}{dv:TT}{cB:TE}(h:dG af H λJ a_=>∀p,a_ p=none->
 ∃W:Nat->Nat->List V->St->Hp->Prop,(∃m,W 0 m [] (mo n ix af) (upd a_ p (.lst [])))/\∀i m ys bY ae,W i m ys bY ae->
  (J.stop i ae/\Q (.ref p) ae)\/(J.go i ae/\∀x bt,J.yld i ae x bt->g x bY bt λcS b7=>dv cS b7 λb bW=>
   if b=true then cB cS bW λv b0=>b0 p=some (.lst ys)/\ys.length<sizeLine/\∃cA,cA<m/\W (i+1) cA (ys++ [v]) cS (upd b0 p (.lst (ys++ [v])))
   else ∃cA,cA<m/\W (i+1) cA ys cS bW)):vu n ix dG g dv cB af H Q:=h
theorem Zo4{f7:TA}{R:It->Hp->Prop}(h:f7 af H λvs a_=>∃a,vs=[.ref a]/\(∃xs,SqL K a_ a xs)/\R (Ite K a) a_):z7 K f7 af H R:=h
theorem Zou{a:Addr}{xs:List V}{G:Addr->Prop}(h:SqL K H a xs)(q:G a):∃dI,[V.ref a]=[.ref dI]/\(∃xs,SqL K H dI xs)/\G dI:=⟨a,rfl,⟨xs,h⟩,q⟩
theorem Zpc(h:∀p,H p=none->Q (.ref p) (upd H p (.dK []))):tDNewK af H Q:=h
theorem Zpm{a:Addr}{kvs:List (Key×V)}{x:Str}(h:H a=some (.dK kvs))(q:Q (.bl (valV kvs (Sum.inr x)).isSome) H):rDIn (.str x) (.ref a) H Q:=⟨a,_,rfl,iK.k (k:=Sum.inr x) h,q⟩
theorem ZoJ{a:Addr}{kvs:List (Key×V)}{x:Int}(h:H a=some (.dK kvs))(q:Q (.bl (!(valV kvs (Sum.inl x)).isSome)) H):rDNotIn (.int x) (.ref a) H Q:=⟨a,_,rfl,iK.k (k:=Sum.inl x) h,q⟩
theorem Zml{a:Addr}{kvs:List (Key×V)}{x:Int}{v:V}(h:H a=some (.dK kvs))(e:valV kvs (Sum.inl x)=some v)(q:Q v H):rIxD (.ref a) (.int x) H Q:=⟨a,v,rfl,by rw[<-e];exact iK.k (k:=Sum.inl x) h,q⟩
theorem ZoC{a:Addr}{kvs:List (Key×V)}{x:Str}{v:V}{Q:Hp->Prop}(h:H a=some (.dK kvs))(ag:kvs.length<sizeLine)(q:Q (upd H a (.dK (d_ kvs (Sum.inr x) v)))):rSetD (.ref a) (.str x) v H Q:=⟨a,_,rfl,Zfl.k (k:=Sum.inr x) h ag,q⟩
theorem ZoN{a:Addr}{kvs:List (Key×V)}{x:Int}{v:V}{Q:Hp->Prop}(h:H a=some (.dK kvs))(ag:kvs.length<sizeLine)(q:Q (upd H a (.dK (d_ kvs (Sum.inl x) v)))):rSetD (.ref a) (.int x) v H Q:=⟨a,_,rfl,Zfl.k (k:=Sum.inl x) h ag,q⟩
theorem Zpu{a:Addr}{kvs:List (Key×V)}(h:H a=some (.dK kvs))(q:Q (.int kvs.length) H):rLenD [.ref a] H Q:=⟨a,kvs,rfl,h,q⟩
theorem Zoy{a:Addr}{kvs:List (Key×V)}(h:H a=some (.dK kvs))(q:∀l,H l=none->Q (.ref l) (upd H l (.lst (kvs.map λkv=>kV kv.1)))):rListD [.ref a] H Q:=⟨a,kvs,rfl,h,q⟩
theorem slT{a:Addr}{xs:List V}{lo hi:Option Int}(h:SqT K H a xs)(hw:¬(HT.sIx xs.length 0 lo=0/\HT.sIx xs.length xs.length hi=xs.length))(q:∀p,H p=none->Q (.ref p) (upd H p (.tup (hr xs lo hi)))):sr K (.ref a) lo hi H Q:= .inr (.inl ⟨a,xs,rfl,h,hw,q⟩)
theorem Zpf{cq cN gG:R2}{a b:Addr}{xs ys:List V}(bD:SqT K H a xs)(ai:SqT K H b ys)(ak:xs≠[])(a':ys≠[])(ag:xs.length+ys.length<=sizeLine)(q:∀p,H p=none->Q (.ref p) (upd H p (.tup (xs++ys)))):
  rOr cq (rOr cN (rOr gG (p7 K))) (.ref a) (.ref b) H Q:= .inr (.inr (.inr ⟨a,b,xs,ys,rfl,rfl,bD,ai,ak,ag,λz=>absurd z a',λ_=>q⟩))
theorem ZpD{to fS cB:TE}{mZ:V->V->Hp->VK->Prop}{m0:TIp}{m1:Zd7}(h:to af H λo a_=>fS af a_ λi bt=>mZ o i bt λx b7=>cB af b7 λy bW=>m0 x y bW λz b0=>m1 o i z b0 λc9=>D.nx af c9):y8 to fS cB mZ m0 m1 D af H:=h
theorem ipi{f:Int->Int->Int}{i j:Int}(q:Q (.int (f i j)) H):ipI f (.int i) (.int j) H Q:=⟨i,j,rfl,rfl,q⟩
end
end Rd
section
variable {X:Cx}
theorem HX:Zln X (Zfi X.K):=by
 intro aj s af H o i dz fR Q I ro ri h;obtain⟨p,xs,k,z,rfl,rfl,cr,bK,q⟩:=h;cases ro;obtain⟨t,rfl⟩:=ri;obtain⟨its,r,pl,hz⟩:=I.list cr;obtain⟨j,ak,a',bL,cu,dJ⟩:=Zc2 bK;obtain⟨w,gp,ja⟩:=r.get a';have ag:=r.length;have bH:=lp;have eg:EP X aj af Q w s:=⟨z,H,I,ja,q⟩
 by_cases cd:0<=k
 .have bw:k.toNat=j:=by
   rw[seqIndex_of cd dJ] at ak;exact qam ak
  exact wpAny_getItem_list pl.isList cd (by omega) (by rw[bw];simpa using gp) eg
 .have bw:(k+(its.toArray.size:Int)).toNat=j:=by
   rw[seqIndex_neg (by omega) cu] at ak;rw[qaf,<-ag];exact qam ak
  exact wpAny_getItem_list_neg pl.isList (by omega) (by rw[qaf]<;>omega) (by omega) (by rw[bw];simpa using gp) eg
theorem vw{K:Frag}(e:X.K=K):Zln X (Zfi K):=e▸HX
end
section
variable {X:Cx}{K:Frag}
def Aa (b9:TA):TE:=λaf H Q=>b9 af H λvs a_=>∃n:Nat,vs=[.int n]/\n<=2 ^ 24/\∀l,a_ l=none->Q (.ref l) (upd a_ l (.lst ((List.range n).map λi:Nat=>V.int i)))
theorem HY{a:Expr}{b9:TA}{p fc pos nv:Pos}(bv:X.calm=true)(hV:Gl X "list")(hW:X.mg "list" =none)(bG:Gl X "range")(bz:X.mg "range" =none)(bD:PA X [a] b9)
  (hs:starEach [a] X.env=[(false,eval a X.env)]:=by rfl)
  (bK:starEach [Expr.Call (.Name "range" p) [a] [] pos] X.env=(false,eval (.Call (.Name "range" p) [a] [] pos) X.env)::starEach [] X.env:=by rfl):
  PE X (.Call (.Name "list" fc) [.Call (.Name "range" p) [a] [] pos] [] nv) (Aa b9):=by
 intro aj s af H Q I h;refine wpAny_Call_Name_kw (h8 I hV hW boot_list ?_);refine qaM ?_ bK rfl;rw[bK];show wpAny _ _ (spliced ((false,eval (.Call (.Name "range" p) [a] [] pos) X.env):: [])) _ _ s;refine Calls.spliced_cons (Call_ (h8 I bG bz boot_range (qaM (thn (bD pos aj s af H _ I h) λus bu ⟨vs,a_,bT,cq,ce⟩=>?_) hs rfl)));obtain⟨n,e,bH,q⟩:=ce;subst e;obtain⟨u,rfl,t,rfl⟩:=WB cq;refine call_range_1 (Calls.spliced_nil ?_);refine call_list_range (bT.ok.hd bv) (IsRange.new ..) (small_one (by omega) (by omega) (by omega) (by omega)) (n:=n) (by rw[rangeSize_one];split<;>omega) bH λh' b1 c_ cU br dx hB=>?_;have cC:Inv X aj af a_ {bu with heap:=bu.heap.push {cls:= .type "range",data:= .fields #[.int 0 bu.toks,.int n t,.int 1 (bu.toks+1)]},toks:=bu.toks+1+1}:=bT.kept λb o e=>Heap.get?_push_of_some _ e;have hz:((List.range n).map λi:Nat=>V.int i).length<=sizeLine:=by
  rw[GE,qbo,sizeLine_eq];omega
 refine⟨.ref (bu.heap.push {cls:= .type "range",data:= .fields #[.int 0 bu.toks,.int n t,.int 1 (bu.toks+1)]}).objs.size,_,cC.laid (a:=(bu.heap.push {cls:= .type "range",data:= .fields #[.int 0 bu.toks,.int n t,.int 1 (bu.toks+1)]}).objs.size) (o:= .lst ((List.range n).map λi:Nat=>V.int i)) (t':=b1) br (qab _) ⟨hz,c_.toList,cU,?_,by simpa using dx⟩,rfl,q _ (cC.hok.fresh (qab _))⟩;refine qw (by rw[qaQ,hB.1,GE,qbo]) λj v u bE bP=>?_;obtain⟨HZ,bw⟩:=hB.2 j u (by rw[<-qbf];exact bP);have vx:j<n:=by
  have:=(qaa.mp bE).1;simpa using this
 rw[qak,List.getElem?_range vx] at bE;cases bE;rw[bw];exact⟨HZ,by simp⟩
end
namespace Rd
section
variable {af:St}{H:Hp}{Q:VK}{K:Frag}
theorem ZpN{b9:TA}(h:b9 af H λvs a_=>∃n:Nat,vs=[.int n]/\n<=2 ^ 24/\∀l,a_ l=none->Q (.ref l) (upd a_ l (.lst ((List.range n).map λi:Nat=>V.int i)))):Aa b9 af H Q:=h
end
end Rd
theorem V9(ns ms:List Int):PyData.eqv (.list (ns.map PyData.int)) (.list (ms.map PyData.int))=decide (ns=ms):=by
 have h:∀ns ms:List Int,PyData.eqvAll (ns.map PyData.int) (ms.map PyData.int)=decide (ns=ms):=by
  intro ns
  induction ns with
  |nil=>intro ms;cases ms<;>simp[PyData.eqvAll]
  |cons n ns bQ=>
   intro ms;cases ms with
   |nil=>simp[PyData.eqvAll]
   |cons m ms=>
    simp only[List.map_cons,PyData.eqvAll,PyData.eqv,bQ]
    by_cases e:n=m
    .subst e;simp
    .simp[e]
 simp only[PyData.eqv];exact h ns ms
section
variable {X:Cx}
def rUpdD:V->List V->Hp->VK->Prop:=λx vs H Q=>∃a b kvs more,x= .ref a/\vs=[.ref b]/\a≠b/\H a=some (.dK kvs)/\H b=some (.dK more)/\kvs.length+more.length<=sizeLine/\Q .non (upd H a (.dK (gq kvs more)))
theorem H1:MtR X "dict.update" rUpdD:=by
 intro aj s af H x xs v us Q I b3 rs h;obtain⟨a,b,kvs,more,rfl,rfl,ne,bD,ai,ag,q⟩:=h;cases b3;obtain⟨u,rfl,d8⟩:=WB rs;cases d8;obtain⟨z,hd,vs,rel,dd⟩:=ZbS I.hok bD;obtain⟨cJ,gI,H2,Ab,r6⟩:=ZbS I.hok ai;refine call_meetsIn PySem.F.slot_dict_update dd.typeIs PySem.F.entry_dict_update (PySem.F.args_dict_update_2 _ _) (meets_dict_update (ec X.prog X.w) a b ne gI) ⟨vs,H2,dd,r6,by rw[<-rel.length,<-Ab.length];exact ag,λh' dd' _ hs=>?_⟩;have bz:=sf more kvs;have bK:∃q,h'.get? a=some q:=let⟨q,_,_,cr,_⟩:=dd';⟨q,cr⟩
 exact⟨.non,_,p' (t':=s.toks) I (by rw[bD];exact True.intro) hs bK (sd (by omega) hd (Ab.merge rel) dd'),rfl,q⟩
end
theorem ZjJ{own:Nat}{ix:List Nat}{g:TG}{dv:TT}{Q:Addr->Hp->Prop}{af:St}{H:Hp}{J:It}{n:Nat}{y:Nat->Hp->V->Hp->Prop}(w:UU J n y H)(bH:n<sizeLine)(s:Nat->List (Option V))(hs:∀i,(s i).length=own)
  (bG:∀i a ae v bt (hU:St->Hp->Prop),i<n->Zd H ae->y i ae v bt->a.length=own->(∀b7,Zd ae b7->hU (s i++ix.map λj=>(af[j]?).join) b7)->g v (a++ix.map λj=>(af[j]?).join) bt hU)
  (bv:∀i ae (cY:Bool->Hp->Prop),i<n->Zd H ae->cY true ae->dv (s i++ix.map λj=>(af[j]?).join) ae cY)
  (q:∀p ae (cp:List Addr),H p=none->Zd H ae->ae p=some (.lst (cp.map V.ref))->cp.length=n->cp.Nodup->(∀x∈cp,H x=none/\x≠p/\ae x=some (.lst []))->Q p ae):
  ∀p,H p=none->∃W:Nat->Nat->List V->St->Hp->Prop,(∃m,W 0 m [] (mo own ix af) (upd H p (.lst [])))/\∀i m ys bY ae,W i m ys bY ae->
   (J.stop i ae/\Q p ae)\/(J.go i ae/\∀x bt,J.yld i ae x bt->g x bY bt λcS b7=>dv cS b7 λb bW=>
    if b=true then uJ tNil cS bW λv b0=>b0 p=some (.lst ys)/\ys.length<sizeLine/\∃cA,cA<m/\W (i+1) cA (ys++ [v]) cS (upd b0 p (.lst (ys++ [v])))
    else ∃cA,cA<m/\W (i+1) cA ys cS bW):=by
 intro p bB;refine⟨λi m ys bY ae=>m=n-i/\i<=n/\(∃a,a.length=own/\bY=a++ix.map λj=>(af[j]?).join)/\Zd H ae/\∃cp:List Addr,ys=cp.map V.ref/\ae p=some (.lst (cp.map V.ref))/\cp.length=i/\cp.Nodup/\∀x∈cp,H x=none/\x≠p/\ae x=some (.lst []),
  ⟨n,by simp,qat _,⟨List.replicate own none,qbp,rfl⟩,cO bB,[],rfl,Ze,rfl,.nil,by simp⟩,?_⟩
 rintro i m ys bY ae ⟨rfl,hi,⟨a,bD,rfl⟩,bU,cp,rfl,bO,cm,eI,lI⟩
 by_cases cD:i<n
 .refine .inr ⟨w.go ae i bU cD,λx bt qy=>?_⟩;refine bG i a ae x bt _ cD bU (w.yld ae i x bt bU cD qy) bD λb7 bR=>?_;refine bv i b7 _ cD (bU.trans bR) ?_;rw[if_pos rfl];show(0:Nat)<=sizeLine/\_;refine⟨qat _,λu hu=>?_⟩;have Ac:=bU.trans bR;have sA:=bR _ _ bO;have sB:u≠p:=λz=>by rw[z,sA] at hu;cases hu
  have b2:Zd b7 (upd b7 u (.lst [])):=cO hu;refine⟨b2 _ _ sA,by rw[GE];omega,n-(i+1),by omega,rfl,cD,⟨s i,hs i,rfl⟩,(Ac.trans b2).new bB,cp++ [u],by simp,by rw[Ze];simp,by simp[cm],?_,λx bp=>?_⟩
  .refine qbA.mpr ⟨eI,by simp,λx bp z hz=>?_⟩;rw[qac.mp hz];intro e;have:=bR _ _ (lI x bp).2.2;rw[e,hu] at this;cases this
  .rcases qaI.mp bp with z|z
   .obtain⟨ak,a',bL⟩:=lI x z;exact⟨ak,a',by rw[b6 a'];exact b2 _ _ (bR _ _ bL)⟩
   .rw[qac.mp z];refine⟨?_,sB,by rw[b6 sB,Ze]⟩;cases e:H u with
    |none=>rfl
    |some o=>rw[Ac _ _ e] at hu;cases hu
 .have e:i=n:=by omega
  subst e;exact .inl ⟨w.stop ae bU,q p ae cp bB bU bO cm eI lI⟩
namespace Rd
section
variable {H:Hp}{Q:VK}
theorem Zpw{a b:Addr}{kvs more:List (Key×V)}(ne:a≠b)(bD:H a=some (.dK kvs))(ai:H b=some (.dK more))(ag:kvs.length+more.length<=sizeLine)(q:Q .non (upd H a (.dK (gq kvs more)))):rUpdD (.ref a) [.ref b] H Q:=⟨a,b,kvs,more,rfl,rfl,ne,bD,ai,ag,q⟩
end
end Rd
section
variable {X:Cx}{aj:List (Addr×Obj)}{af:St}{H:Hp}{s:Shared}
theorem Inv.freeze{a:Addr}{kvs:List (Key×V)}(I:Inv X aj af H s)(e:Rd H a (.dK kvs)):∃o,s.heap.get? a=some o/\Inv X aj af (upd H a (.frz o (.dK kvs))) s:=by
 have ok:Z5 X.prog X.w H s.heap a (.dK kvs):=e.ok I.hok;rcases e with e|⟨o,e⟩
 .obtain⟨_,_,vs,_,dd⟩:=ZbS I.hok e;obtain⟨ep,et⟩:=dd.dictAt;obtain⟨o,bC,bJ,_⟩:=id et;exact⟨o,bJ,I.write (x:=a) (e:=a) (o:= .frz o (.dK kvs)) (t':=s.toks) (by rw[e];exact True.intro) (.inl rfl) (λb u _ q=>q) ⟨o,bJ⟩ ⟨bJ,ok⟩⟩
 .have bp:upd H a (.frz o (.dK kvs))=H:=by
   funext b
   by_cases z:b=a
   .rw[z,Ze,e]
   .rw[b6 z]
  exact⟨o,(show Z5 X.prog X.w H s.heap a (.frz o (.dK kvs)) from I.hok a _ e).1,by rw[bp];exact I⟩
theorem KV.fwd{kvs:List (Key×V)}{vs:List (Key×Value)}(r:KV kvs vs):∀{j:Nat}{kv:Key×V},kvs[j]? =some kv->∃u,vs[j]? =some (kv.1,u)/\cL kv.2 u:=by
 unfold KV at r
 induction r with
 |nil=>intro j kv e;simp at e
 | @cons p q b_ qs h t bQ=>
  intro j kv e;cases j with
  |zero=>
   simp at e;subst e;obtain⟨ce,cG⟩:=q;exact⟨cG,by simp[h.1],h.2⟩
  |succ j=>
   obtain⟨u,ak,a'⟩:=bQ (j:=j) (kv:=kv) (by simpa using e);exact⟨u,by simpa using ak,a'⟩
end
noncomputable def Itv (d:Addr) (o:Obj) (kvs:List (Key×V)):It:=
 ⟨λi H=>H d=some (.frz o (.dK kvs))/\i<kvs.length,λi H x ae=>ae=H/\∃kv,kvs[i]? =some kv/\x=kv.2,λi H=>H d=some (.frz o (.dK kvs))/\kvs.length<=i⟩
noncomputable def Itp (d:Addr) (o:Obj) (kvs:List (Key×V)):It:=
 ⟨λi H=>H d=some (.frz o (.dK kvs))/\i<kvs.length,λi H x ae=>∃t kv,kvs[i]? =some kv/\H t=none/\x= .ref t/\ae=upd H t (.tup [kV kv.1,kv.2]),λi H=>H d=some (.frz o (.dK kvs))/\kvs.length<=i⟩
theorem H3:entryFor table "dict_itemiterator.__iter__" =some Builtin.«dict_keyiterator.__iter__»:=entryFor_alias (id':="dict_keyiterator.__iter__") (by kernel_rfl) rfl (by decide+kernel) (by kernel_rfl)
theorem Zgl{P:Program}{w:World}{A:Around}{E:Value->Shared->Prop}{s:Shared}{it d:Addr}{i n ep:Nat}{ok dz:Value}{Q:Value->Shared->Prop}(dV:IsItemIter s.heap it d i n ep ok dz)(h:Q (.ref it) s):wpAny (model P w) A (pyIter (.ref it)) Q E s:=by
 have ty:s.TypeIs (.ref it) "dict_itemiterator" :=⟨_,dV,rfl⟩;refine wpAny_pyIter_slot ty PySem.F.slot_dict_itemiterator_iter (wpAny_call_entry PySem.F.slot_dict_itemiterator_iter ty H3 (show wpAny _ _ (ret (Value.ref it)) _ _ s from wpAny_pure ⟨_,rfl,"dict_itemiterator",_,ty,PySem.F.slot_dict_itemiterator_next.lookup,h⟩) (PySem.F.args_dict_itemiterator_iter_1 _))
section
variable {P:Program}{w:World}{K:Frag}
theorem H4{cV:Expr}(d it:Addr)(o:Obj)(kvs:List (Key×V))(vs:List (Key×Value))(ep:Nat)(rel:KV kvs vs)(hd:∀h:Heap,h.get? d=some o->h.DictAt (ec P w) d vs ep):Zas P w K cV (Itv d o kvs) [it] it (λi h=>h.IsValIter it d i vs.length ep) where
 mem:=by simp
 obj:=λi h st b ai=>by
  have e:b=it:=by simpa using ai
  subst e;obtain⟨o,e,c,dd⟩:=st;exact⟨o,e,λv z=>by rw[dd] at z;cases z⟩
 keep:=λi h h' st k=>st.at λo q=>k it (by simp) o q
 item:=by
  intro X d5 hw eD bv i aj s af H E I bN st bG;subst d5 hw eD;obtain⟨bK,hi⟩:=bG;have bJ:=(show Z5 X.prog X.w H s.heap d (.frz o (.dK kvs)) from I.hok d _ bK).1;obtain⟨dR,f1,f2,dh,d0,d6⟩:=bN it (by simp);obtain⟨u,hu,d8⟩:=rel.fwd (GT hi);refine wpAny_pyNext_values_item st (hd _ bJ) hu λh' iG h_=>?_;have bT:Inv X aj af H {s with heap:=h',toks:=s.toks}:=I.turned (t':=s.toks) (λb q ai e=>(h_.2 b ai).trans e) dR f1 dh d0 d6;obtain⟨q,e,c,dd⟩:=id iG;exact⟨_,rfl,pT (s:={s with heap:=h',toks:=s.toks}) e c dd (by decide) ⟨_,H,bT,d8,⟨rfl,kvs[i],GT hi,rfl⟩,iG,λb ai=>(bN b ai).1⟩⟩
 done:=by
  intro X d5 hw eD bv i aj s af H E I bN st bG;subst d5 hw eD;obtain⟨bK,hi⟩:=bG;have bJ:=(show Z5 X.prog X.w H s.heap d (.frz o (.dK kvs)) from I.hok d _ bK).1;obtain⟨dR,f1,f2,dh,d0,d6⟩:=bN it (by simp);exact wpAny_pyNext_values_end (I.ok.hd bv) st (hd _ bJ) (qa0 (by rw[<-rel.length];exact hi)) λh' c0=>⟨rfl,I.turned (t':=s.toks) (λb q ai e=>c0 b q ai e) dR f1 dh d0 d6⟩
 self:=λ_ _ _ _ _ st h=>wpAny_pyIter_valiter st h
theorem H5{nu:List Expr}{k1:Nat}{pos:Pos}(d it:Addr)(o:Obj)(kvs:List (Key×V))(vs:List (Key×Value))(ep:Nat)(rel:KV kvs vs)(hd:∀h:Heap,h.get? d=some o->h.DictAt (ec P w) d vs ep):
  Zas P w K (.Tuple nu k1 pos) (Itp d o kvs) [it] it (λi h=>∃ok dz,IsItemIter h it d i vs.length ep ok dz) where
 mem:=by simp
 obj:=λi h st b ai=>by
  obtain⟨ok,dz,e⟩:=st;rw[qac.mp ai];exact⟨_,e,λv z=>by
   have f6:Data.fields _=Data.cell v:=z;cases f6⟩
 keep:=λi h h' st k=>let⟨ok,dz,e⟩:=st;⟨ok,dz,k it (by simp) _ e⟩
 item:=by
  intro X d5 hw eD bv i aj s af H E I bN st bG;subst d5 hw eD;obtain⟨bK,hi⟩:=bG;obtain⟨ok,dz,dV⟩:=st;have bJ:=(show Z5 X.prog X.w H s.heap d (.frz o (.dK kvs)) from I.hok d _ bK).1;obtain⟨u,hu,d8⟩:=rel.fwd (GT hi);refine wpAny_pyNext_items_item dV (hd _ bJ) hu λe_ h' pZ hout c1 hsz br=>?_;have gu:=I.hok.fresh (qab s.heap.objs.size);have sw:it<s.heap.objs.size:=Heap.lt_size dV;refine⟨_,rfl,wpAny_letOwnedTupleGo_items hout λa' lG jZ=>?_⟩;have sx:a'.get? s.heap.objs.size=some {cls:= .type "tuple",data:= .seq #[e_,u]}:=jZ.extBut _ _ (qbY sw) c1;have bT:Inv X aj af (upd H s.heap.objs.size (.tup [kV kvs[i].1,kvs[i].2])) {s with heap:=a',toks:=s.toks}:=
   I.turnedNew (fp:=[it]) (λb q ai e=>by
    have ga:b≠it:=λz=>ai (by simp[z]);exact jZ.extBut b q ga (br b q ga e)) bN (qab _) ⟨by show 2<=sizeLine;decide,[e_,u],.cons (vt pZ) (.cons d8 .nil),_,sx,rfl,_,rfl⟩
  refine⟨.ref s.heap.objs.size,_,bT,rfl,⟨_,kvs[i],GT hi,gu,rfl,rfl⟩,⟨_,_,lG⟩,λb ai=>?_⟩;have qx:b≠s.heap.objs.size:=by rw[qac.mp ai];exact qap sw
  rw[b6 qx];exact(bN b ai).1
 done:=by
  intro X d5 hw eD bv i aj s af H E I bN st bG;subst d5 hw eD;obtain⟨bK,hi⟩:=bG;obtain⟨ok,dz,dV⟩:=st;have bJ:=(show Z5 X.prog X.w H s.heap d (.frz o (.dK kvs)) from I.hok d _ bK).1;obtain⟨dR,f1,f2,dh,d0,d6⟩:=bN it (by simp);exact wpAny_pyNext_items_end (I.ok.hd bv) dV (hd _ bJ) (qa0 (by rw[<-rel.length];exact hi)) λh' c0=>⟨rfl,I.turned (t':=s.toks) (λb q ai e=>c0 b q ai e) dR f1 dh d0 d6⟩
 self:=λ_ _ _ _ _ st h=>by
  obtain⟨ok,dz,e⟩:=st;exact Zgl e h
end
section
variable {X:Cx}{cV:Expr}
def Ad (el:TE):TI:=λaf H R=>el af H λx a_=>∃a kvs,x= .ref a/\Rd a_ a (.dK kvs)/\∀o,R (Itv a o kvs) (upd a_ a (.frz o (.dK kvs)))
def Ae (el:TE):TI:=λaf H R=>el af H λx a_=>∃a kvs,x= .ref a/\Rd a_ a (.dK kvs)/\∀o,R (Itp a o kvs) (upd a_ a (.frz o (.dK kvs)))
theorem H6{d:Expr}{el:TE}{dA dD:Pos}(hd:PE X d el)(j2:attributeBase d "values" X.env (eval d X.env)=eval d X.env:=by rfl)(j3:(dA.endLine==dD.line)=true:=by rfl):
  PI X cV (.Call (.Attribute d "values" dA) [] [] dD) (Ad el):=by
 intro aj s af H R I h;refine wpAny_Call_method0_late j2 j3 (thn (hd aj s af H _ I h) λv bu ⟨x,a_,bT,cq,ce⟩=>?_);obtain⟨a,kvs,rfl,ap,q⟩:=ce;cases cq;obtain⟨z,kJ,vs,rel,dd⟩:=Vt bT.hok ap;obtain⟨ep,et⟩:=dd.dictAt;obtain⟨o,bJ,cC⟩:=bT.freeze ap;have nw:∀h:Heap,h.get? a=some o->h.DictAt (ec X.prog X.w) a vs ep:=λh e=>et.at' λcx b'=>by rw[bJ] at b';cases b';exact e
 refine⟨"dict","dict.values",qbh,qbs,qcb,dd.typeIs,dd.mapOf.noDict,Calls.callWith_builtin rfl (qb9 ?_)⟩;refine call_meetsIn qbs dd.typeIs qb7 (qb4 _) (meets_dict_values (ec X.prog X.w) a kJ) ⟨⟨vs,dd⟩,?_⟩;refine wpAny_pyIter_values (knd:=ec X.prog X.w) (d:=a) (kvs:=vs) (ep:=ep) ⟨_,Heap.get?_push_size _ rfl,rfl,rfl⟩ (nw _ (Heap.get?_push_of_some _ bJ)) ?_;have dw:Inv X aj af (upd a_ a (.frz o (.dK kvs))) {bu with heap:=bu.heap.push {cls:= .type "dict_values",data:= .fields #[.ref a]}}:=cC.kept (t':=bu.toks) λb o e=>Heap.get?_push_of_some _ e;refine⟨(bu.heap.push {cls:= .type "dict_values",data:= .fields #[.ref a]}).objs.size,[(bu.heap.push {cls:= .type "dict_values",data:= .fields #[.ref a]}).objs.size],_,_,_,rfl,dw.kept (t':=bu.toks) λb o e=>Heap.get?_push_of_some _ e,H4 a _ o kvs vs ep rel nw,⟨_,Heap.get?_push_size _ rfl,rfl,rfl⟩,λb ai=>?_,q o⟩;rw[qac.mp ai];exact dw.fpOk (qab _) (dw.hok.fresh (qab _))
theorem Af{nu:List Expr}{k1:Nat}{m2:Pos}{d:Expr}{el:TE}{dA dD:Pos}(hd:PE X d el)(j2:attributeBase d "items" X.env (eval d X.env)=eval d X.env:=by rfl)(j3:(dA.endLine==dD.line)=true:=by rfl):
  PI X (.Tuple nu k1 m2) (.Call (.Attribute d "items" dA) [] [] dD) (Ae el):=by
 intro aj s af H R I h;refine wpAny_Call_method0_late j2 j3 (thn (hd aj s af H _ I h) λv bu ⟨x,a_,bT,cq,ce⟩=>?_);obtain⟨a,kvs,rfl,ap,q⟩:=ce;cases cq;obtain⟨z,kJ,vs,rel,dd⟩:=Vt bT.hok ap;obtain⟨ep,et⟩:=dd.dictAt;obtain⟨o,bJ,cC⟩:=bT.freeze ap;have nw:∀h:Heap,h.get? a=some o->h.DictAt (ec X.prog X.w) a vs ep:=λh e=>et.at' λcx b'=>by rw[bJ] at b';cases b';exact e
 refine⟨"dict","dict.items",qbh,PySem.F.slot_dict_items,PySem.F.type_dict_items,dd.typeIs,dd.mapOf.noDict,Calls.callWith_builtin rfl (qb9 ?_)⟩;refine call_meetsIn PySem.F.slot_dict_items dd.typeIs PySem.F.entry_dict_items (PySem.F.args_dict_items_1 _) (meets_dict_items (ec X.prog X.w) a kJ) ⟨⟨vs,dd⟩,?_⟩;refine wpAny_pyIter_items (knd:=ec X.prog X.w) (d:=a) (kvs:=vs) (ep:=ep) ⟨_,Heap.get?_push_size _ rfl,rfl,rfl⟩ (nw _ (Heap.get?_push_of_some _ bJ)) ?_;have dw:Inv X aj af (upd a_ a (.frz o (.dK kvs))) {bu with heap:=bu.heap.push {cls:= .type "dict_items",data:= .fields #[.ref a]}}:=cC.kept (t':=bu.toks) λb o e=>Heap.get?_push_of_some _ e;refine⟨(bu.heap.push {cls:= .type "dict_items",data:= .fields #[.ref a]}).objs.size,[(bu.heap.push {cls:= .type "dict_items",data:= .fields #[.ref a]}).objs.size],_,_,_,rfl,dw.kept (t':=bu.toks) λb o e=>Heap.get?_push_of_some _ e,H5 a _ o kvs vs ep rel nw,⟨_,_,Heap.get?_push_size _ rfl⟩,λb ai=>?_,q o⟩;rw[qac.mp ai];exact dw.fpOk (qab _) (dw.hok.fresh (qab _))
end
namespace Rd
section
variable {af:St}{H:Hp}{Q:VK}
theorem ZoE{el:TE}{R:It->Hp->Prop}(h:el af H λx a_=>∃a kvs,x= .ref a/\L2.Rd a_ a (.dK kvs)/\∀o,R (Itv a o kvs) (upd a_ a (.frz o (.dK kvs)))):Ad el af H R:=h
theorem Zj4{el:TE}{R:It->Hp->Prop}(h:el af H λx a_=>∃a kvs,x= .ref a/\L2.Rd a_ a (.dK kvs)/\∀o,R (Itp a o kvs) (upd a_ a (.frz o (.dK kvs)))):Ae el af H R:=h
end
end Rd
theorem H7{d:Addr}{o:Obj}{kvs:List (Key×V)}{H:Hp}(h:H d=some (.frz o (.dK kvs))):UU (Itv d o kvs) kvs.length (λi ae v bt=>bt=ae/\∃kv,kvs[i]? =some kv/\v=kv.2) H:=
 ⟨λae i s hi=>⟨s _ _ h,hi⟩,λ_ _ _ _ _ _ y=>y,λae s=>⟨s _ _ h,qab _⟩⟩
theorem Ag{d:Addr}{o:Obj}{kvs:List (Key×V)}{H:Hp}(h:H d=some (.frz o (.dK kvs))):UU (Itp d o kvs) kvs.length (λi ae v bt=>∃t kv,kvs[i]? =some kv/\ae t=none/\v= .ref t/\bt=upd ae t (.tup [kV kv.1,kv.2])) H:=
 ⟨λae i s hi=>⟨s _ _ h,hi⟩,λ_ _ _ _ _ _ y=>y,λae s=>⟨s _ _ h,qab _⟩⟩
namespace Rd
end Rd
section
variable {X:Cx}{K:Frag}
def vy (K:Frag):List V->Hp->VK->Prop:=λxs H Q=>∃(p:Addr)(ns:List Int),xs=[.ref p]/\SqL K H p (ns.map V.int)/\0<ns.length/\∀M,M∈ns->(∀a∈ns,M<=a)->Q (.int M) H
theorem ZjY(bv:X.calm=true):YW X (.builtin "min") (vy X.K):=by
 intro aj s af H xs us Q I r h;obtain⟨p,ns,rfl,cr,e0,q⟩:=h;obtain⟨u,rfl,b3⟩:=WB r;cases b3;obtain⟨its,c',pl,hz⟩:=I.list cr;have hi:=ow c';obtain⟨ys,bp⟩:=hi.allInts.items;have c1:s.heap.IsList p (intItems ys):=bp▸pl.isList;have cD:p<s.heap.objs.size:=by obtain⟨_,e,_⟩:=c1;exact Heap.lt_size e
 have jc:ns=ys.toList.map (·.1):=by
  rw[<-nums_intItems,<-bp];exact(show numsOf its.toArray.toList=ns from hi.numsOf).symm
 have hsz:0<ys.size:=by
  have bL:=e0;rw[jc,GE,qaQ] at bL;exact bL
 have H8:(intItems ys).size=ys.size:=by simp[intItems]
 refine call_min_walk (wpAny_pyIter_list c1 ?_);refine⟨s.heap.objs.size,[s.heap.objs.size,p],[s.heap.objs.size],_,_,_,_,rfl,PySem.Walks.list (A:=X.A.in1) (I.ok.hd bv) _ p (qap cD) (intItems ys),
  ⟨⟨_,Heap.get?_push_size _ rfl,rfl,rfl⟩,c1.push _⟩,λb ai=>?_,by rw[H8];exact hsz,CmpOf.ints_lt (numAt ys) (λ_ _=>intItems_at),λv h' b1 d5 br=>?_⟩
 .show b<(s.heap.push _).objs.size;rw[Heap.size_push];rcases qah.mp ai with rfl|ai
  .exact qbk _
  .rw[qac.mp ai];exact qbg cD
 .obtain⟨t,rfl⟩:=intItems_at d5;obtain⟨ak,a'⟩:=argBest_lt (numAt ys) ((intItems ys).size-1);refine⟨.int _,H,I.kept (vo br),⟨t,rfl⟩,q _ ?_ λa bD=>?_⟩
  .have fe:argBest (λi j=>decide (numAt ys i<numAt ys j)) ((intItems ys).size-1)<(ys.toList.map (·.1)).length:=by rw[GE,qaQ];omega
   rw[jc,numAt_eq,qa5,GT fe];exact GM fe
  .rw[jc] at bD;obtain⟨j,bw,rfl⟩:=mem_getD bD;rw[GE,qaQ] at bw;rw[<-numAt_eq];exact a' j (by omega)
theorem vz(e:X.K=K)(bv:X.calm=true):YW X (.builtin "min") (vy K):=e▸ZjY bv
def ZiI (K:Frag):V->Hp->(Nat->Prop)->Prop:=λx H R=>∃(l:Addr)(ns:List Int),x= .ref l/\SqL K H l (ns.map V.int)/\ns.length+1<4096/\∀n,(ns.Nodup->n=ns.length)->R n
def Ah (K:Frag) (b9:TA):TE:=λaf H Q=>b9 af H λvs a_=>∃x,vs=[x]/\ZiI K x a_ λn=>Q (.int (n:Nat)) a_
theorem Ai(ns:List Int)(h:ns.Nodup):∀i,i<=ns.length->firstMet (λi=>ns.getD i 0) i=ns.take i
 |0,_=>rfl
 |i+1,hi=>by
  have cm:i<ns.length:=by omega
  rw[firstMet_succ,Ai ns h i (by omega),qad cm];have e:ns.getD i 0=ns[i]:=by simp[List.getD,cm]
  unfold step_dedup;rw[e];have bH:((ns.take i).any (· ==ns[i]))=false:=by
   rw[List.any_eq_false];intro x bp;have eI:=h;rw[<-List.take_append_drop (i+1) ns,qad cm] at eI;have bL:=(qbA.mp (qbA.mp eI).1).2.2 x bp ns[i] (by simp);simpa using bL
  rw[bH]
  rfl
theorem H9{a:Expr}{b9:TA}{p fc pos nv:Pos}(eD:X.K=K)(bv:X.calm=true)(hV:Gl X "len")(hW:X.mg "len" =none)(bG:Gl X "set")(bz:X.mg "set" =none)(bD:PA X [a] b9)
  (hs:starEach [a] X.env=[(false,eval a X.env)]:=by rfl)
  (bK:starEach [Expr.Call (.Name "set" p) [a] [] pos] X.env=(false,eval (.Call (.Name "set" p) [a] [] pos) X.env)::starEach [] X.env:=by rfl):
  PE X (.Call (.Name "len" fc) [.Call (.Name "set" p) [a] [] pos] [] nv) (Ah K b9):=by
 subst eD;intro aj s af H Q I h;refine Call_ (h8 I hV hW qao ?_);refine qbD ?_ bK;rw[bK];show wpAny _ _ (spliced ((false,eval (.Call (.Name "set" p) [a] [] pos) X.env):: [])) _ _ s;refine Calls.spliced_cons (Call_ (h8 I bG bz boot_set (qaM (thn (bD pos aj s af H _ I h) λus bu ⟨vs,a_,bT,cq,ce⟩=>?_) hs rfl)));obtain⟨x,e,l,ns,rfl,cr,ai,q⟩:=ce;subst e;obtain⟨u,rfl,b3⟩:=WB cq;cases b3;obtain⟨its,c',pl,hz⟩:=bT.list cr;have hi:=ow c';have hsz:its.toArray.size=ns.length:=by have:=c'.length;simpa using this.symm
 refine call_set_list (bT.ok.hd bv) pl.isList hi (by rw[hsz];exact ai) λh' b1 dx br=>?_;refine Calls.spliced_nil ?_;obtain⟨o,bC,ep,t,bJ,g4,hd,_,_,cD,bN,bH⟩:=dx;refine call_len_set bJ g4 hd bN (by unfold scanBound at cD;omega) ?_;refine⟨.int bC.size,a_,?_,⟨_,rfl⟩,q _ λeI=>?_⟩
 .exact bT.kept λb o e=>br b o (Heap.lt_size e) e
 .rw[bH,hsz,Ai ns eI _ (qab _),qaD]
end
namespace Rd
section
variable {K:Frag}{af:St}{H:Hp}{Q:VK}
theorem Zlw{p:Addr}{ns:List Int}(h:SqL K H p (ns.map V.int))(bH:0<ns.length)(q:∀M,M∈ns->(∀a∈ns,M<=a)->Q (.int M) H):vy K [.ref p] H Q:=⟨p,ns,rfl,h,bH,q⟩
theorem lset{b9:TA}(h:b9 af H λvs a_=>∃x,vs=[x]/\ZiI K x a_ λn=>Q (.int (n:Nat)) a_):Ah K b9 af H Q:=h
end
end Rd
namespace Rd
end Rd
section
variable {X:Cx}{K:Frag}
def rIndexB:V->List V->Hp->VK->Prop:=λx vs H Q=>∃(l:Addr)(bs:List Bool)(j:Nat),x= .ref l/\vs=[.bl true]/\H l=some (.lst (bs.map V.bl))/\bs[j]? =some true/\(∀m<j,bs[m]? =some false)/\Q (.int j) H
theorem H_:MtM X "list.index" rIndexB:=by
 intro aj s af H x vs v us Q I b3 c' h;obtain⟨l,bs,j,rfl,rfl,gZ,bw,ic,q⟩:=h;cases b3;obtain⟨u,rfl,d8⟩:=WB c';obtain rfl:u=Value.bool true:=d8;obtain⟨z,its,n,r,ag,e⟩:=I.lstM gZ;have c4:=vn (s:=s) r;have hC:=(qaa.mp bw).1;have hz:its.toArray.size=bs.length:=by rw[c4];simp
 have at_:∀(m:Nat)(bz:m<its.toArray.size),its.toArray[m]=Value.bool (bs[m]'(by omega)):=λm bz=>by
  subst c4;simp
 have bH:=lp;refine call_meets F.slot_list_index ⟨_,e,rfl⟩ F.entry_list_index (F.args_list_index_2 _ _) (PySem.SeqAt.list_indexAt l its.toArray n _ _ (.bool true) (λy=>y==Value.bool true) j (by omega) (by rw[GE] at z;omega) ?_ ?_) ⟨e,λy bO=>?_,?_⟩
 .rw[at_ j (by omega)];have:=(qaa.mp bw).2;rw[this]
  rfl
 .intro m bz qz;rw[at_ m bz];have:=(qaa.mp (ic m qz)).2;rw[this]
  rfl
 .subst c4;obtain⟨b,_,rfl⟩:=qae.mp (List.mem_toArray.mp bO);have bK:(Value.bool b==Value.bool true)=(b==true):=by cases b<;>rfl
  rw[bK];exact PySem.SeqAt.EqAt.bool_bool b true
 .exact⟨.int j,H,I.tok _,⟨_,rfl⟩,q⟩
end
namespace Rd
theorem ZnF{H:Hp}{Q:VK}{l:Addr}{bs:List Bool}{j:Nat}(h:H l=some (.lst (bs.map V.bl)))(bw:bs[j]? =some true)(bH:∀m<j,bs[m]? =some false)(q:Q (.int j) H):rIndexB (.ref l) [.bl true] H Q:=⟨l,bs,j,rfl,rfl,h,bw,bH,q⟩
end Rd
section
variable {X:Cx}{K:Frag}
def Aj (K:Frag):V->List V->Hp->VK->Prop:=λx vs H Q=>∃(l:Addr)(ns:List Int)(k:Int),x= .ref l/\vs=[.int k]/\SqL K H l (ns.map V.int)/\Q (.int (ns.count k:Nat)) H
theorem Ak(e1:X.K=K):MtM X "list.count" (Aj K):=by
 subst e1;intro aj s af H x vs v us Q I b3 c' h;obtain⟨l,ns,k,rfl,rfl,gZ,q⟩:=h;cases b3;obtain⟨u,rfl,t,rfl⟩:=WB c';obtain⟨its,r,pl,hz⟩:=I.list gZ;exact count_list_ints pl.isList (ow r) ⟨.int _,H,I.tok _,⟨_,rfl⟩,q⟩
theorem H':typeLookup (.type "list_reverseiterator") "__len__" =pure none:=by rw[typeLookup_type,builtinLookup_eq_fast];kernel_rfl
theorem Ia:typeLookup (.type "list_reverseiterator") "__length_hint__" =pure (some (.builtin "list_reverseiterator.__length_hint__")):=by rw[typeLookup_type,builtinLookup_eq_fast];kernel_rfl
theorem Ib{prog:Program}{w:World}{A:Around}{E:Value->Shared->Prop}{s:Shared}{r:Addr}{Q:Bool->Shared->Prop}(c1:s.TypeIs (.ref r) "list_reverseiterator")(h:Q false s):wpAny (model prog w) A (Builtin.List.listLengthHint (.ref r)) Q E s:=by
 unfold Builtin.List.listLengthHint;refine wpAny_bind (wpAny_specialOf c1 H' ?_);show wpAny _ A (specialOf (Value.ref r) (Str.ofString "__length_hint__") >>= _) _ _ _;refine wpAny_bind (wpAny_specialOf c1 Ia ?_);generalize hid:("list_reverseiterator.__length_hint__" :String)=id0
 wp_delta
 rw[show splitId id0=some ("list_reverseiterator","__length_hint__") from by subst hid;decide+kernel];subst hid;refine wpAny_bind (wpAny_isInstance (T:="list_reverseiterator") (b:=true) c1 (by rw[isSubtype_type];kernel_rfl) ?_);refine wpAny_ite_split (λlJ=>absurd lJ (by decide)) (λ_=>?_);refine wpAny_ite_split (λ_=>?_) (λlJ=>absurd (by decide+kernel) lJ);refine wpAny_ite_split (λlJ=>absurd lJ (by decide+kernel)) (λ_=>?_);exact wpAny_pure h
section
variable {prog:Program}{w:World}{A:Around}{E:Value->Shared->Prop}{s:Shared}{I l:Addr}{items:Array Value}
theorem Zja{R:Result->Shared->Prop}(b4:A.handled=none)(e0:l≠I)(dV:s.heap.IsRevIter I l ((items.size:Int)-1-((0:Nat):Int)))(ag:s.heap.IsList l items)(S:Addr)(qA:S≠I)(sC:S≠l)(res:Value)(Al:Nat)
  (dx:s.heap.get? S=some {cls:= .type "list",data:= .seq #[] Al})
  (c8:∀h' b1 acc' cU,(∀b o,b≠S->b≠I->s.heap.get? b=some o->h'.get? b=some o)->h'.get? S=some {cls:= .type "list",dict:=none,data:= .seq acc' cU,slots:=#[]}->ItemsOf (λi v=>items[items.size-1-i]? =some v) acc' items.size->R (.ok (.ret res)) {s with heap:=h',toks:=b1}) (bH:items.size<=sizeLine):
  wpAny (model prog w) A.in1 (Builtin.List.listExtendWith (.ref S) (.ref I) res)
   (λeg s'=>match eg with| .done f=>R (.ok f) s'| .again cU=>cU.quiet=true/\codeAny (model prog w) A cU R s') (λe s'=>R (.error e) s') s:=by
 have ny:S∉[I,l]:=by simp only[qah,qa2,or_false,not_or];exact⟨qA,sC⟩
 have W:=PySem.Walks.listRev (prog:=prog) (w:=w) (A:=A.in1) b4 I l e0 items;unfold Builtin.List.listExtendWith;refine wpAny_bind (wpAny_typeOf dV.typeIs ?_);have ak:Builtin.List.listSameRef (.ref S) (.ref I)=false:=by simp[Builtin.List.listSameRef,qA]
 have a':(Value.type "list_reverseiterator" ==Value.type "list")=false:=by decide
 have bL:(Value.type "list_reverseiterator" ==Value.type "tuple")=false:=by decide
 simp only[ak,a',bL,Bool.or_false,Bool.false_eq_true,if_false];refine wpAny_bind (wpAny_pyIter_revIter dV ?_);refine wpAny_bind (wpAny_holding (Ib dV.typeIs ?_));refine wpAny_ite_split (λlJ=>absurd lJ (by decide+kernel)) (λ_=>wpAny_pure ⟨plainId_quiet qb8 _,?_⟩);refine codeAny_extend_loopS W.toS bH S ny res items.size 0 _ #[] Al rfl (qat _) ⟨qat _,dV,ag⟩ dx (ItemsOf.nil _) λs' acc' cU bz nz hB=>?_;rw[Moved.eq_with bz];refine c8 s'.heap s'.toks acc' cU (λb o ai j9 e=>bz.heap b o (λj_=>?_) e) nz hB;rcases qah.mp j_ with b'|j_
 .exact ai b'
 .exact j9 (qac.mp j_)
theorem Ic{R:Result->Shared->Prop}(b4:A.handled=none)(e0:l≠I)(dV:s.heap.IsRevIter I l ((items.size:Int)-1-((0:Nat):Int)))(ag:s.heap.IsList l items)(S:Addr)(qA:S≠I)(sC:S≠l)
  (dx:s.heap.get? S=some {cls:= .type "list",data:= .seq #[]})
  (c8:∀h' b1 acc' cU,(∀b o,b≠S->b≠I->s.heap.get? b=some o->h'.get? b=some o)->h'.get? S=some {cls:= .type "list",dict:=none,data:= .seq acc' cU,slots:=#[]}->ItemsOf (λi v=>items[items.size-1-i]? =some v) acc' items.size->R (.ok (.ret .none)) {s with heap:=h',toks:=b1}) (bH:items.size<=sizeLine):
  wpAny (model prog w) A.in1 (Builtin.«list.__init__» ⟨[.ref S,.ref I],[]⟩)
   (λeg s'=>match eg with| .done f=>R (.ok f) s'| .again cU=>cU.quiet=true/\codeAny (model prog w) A cU R s') (λe s'=>R (.error e) s') s:=by
 show wpAny _ _ (do let kx<-Builtin.List.listItems (.ref S);Builtin.List.listUpdate (.ref S) (λ_=>#[]);letGo kx.toList.reverse;Builtin.List.listExtendWith (.ref S) (.ref I) .none) _ _ s;refine wpAny_bind ?_;unfold Builtin.List.listItems;refine wpAny_bind (wpAny_seqItems dx rfl (wpAny_pure ?_));show wpAny _ _ (updateSeq S (λ_=>#[]) >>= λ_=>letGo (#[]:Array Value).toList.reverse >>= λ_=>Builtin.List.listExtendWith (.ref S) (.ref I) .none) _ _ s;refine wpAny_bind (wpAny_updateSeq dx rfl ?_);have Ie:=Heap.get?_update_self (Obj.mapSeq (λ_=>(#[]:Array Value))) dx rfl;have oO:∀b o,b≠S->s.heap.get? b=some o->(s.heap.update S (Obj.mapSeq (λ_=>(#[]:Array Value)))).get? b=some o:=
  λb o ai e=>(Heap.get?_update_other _ _ (qbO ai)).trans e
 refine wpAny_bind (wpAny_letGo ?_);refine Zja b4 e0 (dV.at λo e=>oO _ o (qbO qA) e) (ag.at λo e=>oO _ o (qbO sC) e) S qA sC .none _ Ie (λh' b1 acc' cU br nz hB=>?_) bH;exact c8 h' b1 acc' cU (λb o ai j9 e=>br b o ai j9 (oO b o ai e)) nz hB
theorem Zgi{Q:Value->Shared->Prop}(b4:A.handled=none)(e0:l≠I)(dV:s.heap.IsRevIter I l ((items.size:Int)-1-((0:Nat):Int)))(ag:s.heap.IsList l items)(bH:items.size<=sizeLine)
  (h7:∀h' b1 acc' cU,(∀b o,b≠I->s.heap.get? b=some o->h'.get? b=some o)->h'.get? s.heap.objs.size=some {cls:= .type "list",dict:=none,data:= .seq acc' cU,slots:=#[]}->ItemsOf (λi v=>items[items.size-1-i]? =some v) acc' items.size->Q (.ref s.heap.objs.size) {s with heap:=h',toks:=b1}):
  wpAny (model prog w) A (call (.type "list") [.ref I]) Q E s:=by
 refine callType_codes (Q₁:=λobj du=>obj= .ref s.heap.objs.size/\du={s with heap:=s.heap.push {cls:= .type "list",data:= .seq #[]}}) PySem.F.called_list (PySem.F.typeCall_list_1 _) PySem.F.entry_list_init
  (code_list_new _ ⟨rfl,rfl⟩) λobj du h₁=>?_
 obtain⟨rfl,rfl⟩:=h₁;have dx:(s.heap.push {cls:= .type "list",data:= .seq #[]}).get? s.heap.objs.size=some {cls:= .type "list",data:= .seq #[]}:=Heap.get?_push_size _ rfl;have ga:s.heap.objs.size≠I:=by
  obtain⟨o,bJ,_⟩:=dV;exact qbY (Heap.lt_size bJ)
 have f9:s.heap.objs.size≠l:=by
  obtain⟨o,bJ,_⟩:=ag;exact qbY (Heap.lt_size bJ)
 refine⟨⟨_,dx,rfl⟩,PySem.F.args_list_init_2 _ _,Ic (A:=A.in1) b4 e0 (dV.at λo e=>Heap.get?_push_of_some _ e) (ag.at λo e=>Heap.get?_push_of_some _ e) _ ga f9 dx (λh' b1 acc' cU br nz hB=>?_) bH⟩;exact⟨rfl,h7 h' b1 acc' cU (λb o ai e=>br b o (qap (Heap.lt_size e)) ai (Heap.get?_push_of_some _ e)) nz hB⟩
end
def Am (K:Frag) (b9:TA):TE:=λaf H Q=>b9 af H λvs a_=>∃a xs,vs=[.ref a]/\SqL K a_ a xs/\∀l,a_ l=none->Q (.ref l) (upd a_ l (.lst xs.reverse))
theorem Ig{a:Expr}{b9:TA}{p fc pos nv:Pos}(e1:X.K=K)(bv:X.calm=true)(hV:Gl X "list")(hW:X.mg "list" =none)(bG:Gl X "reversed")(bz:X.mg "reversed" =none)(bD:PA X [a] b9)
  (hs:starEach [a] X.env=[(false,eval a X.env)]:=by rfl)
  (bK:starEach [Expr.Call (.Name "reversed" p) [a] [] pos] X.env=(false,eval (.Call (.Name "reversed" p) [a] [] pos) X.env)::starEach [] X.env:=by rfl):
  PE X (.Call (.Name "list" fc) [.Call (.Name "reversed" p) [a] [] pos] [] nv) (Am K b9):=by
 subst e1;intro aj s af H Q I h;refine wpAny_Call_Name_kw (h8 I hV hW boot_list ?_);refine qaM ?_ bK rfl;rw[bK];show wpAny _ _ (spliced ((false,eval (.Call (.Name "reversed" p) [a] [] pos) X.env):: [])) _ _ s;refine Calls.spliced_cons (Call_ (h8 I bG bz boot_reversed (qaM (thn (bD pos aj s af H _ I h) λus bu ⟨vs,a_,bT,cq,ce⟩=>?_) hs rfl)));obtain⟨b,xs,rfl,cr,q⟩:=ce;obtain⟨u,rfl,d8⟩:=WB cq;cases d8;obtain⟨its,c',pl,hz⟩:=bT.list cr;have ag:=c'.length;refine call_reversed_list pl.isList (Calls.spliced_nil ?_);have dV:(bu.heap.push (revObj b (((its.toArray.size:Nat):Int)-1))).IsRevIter bu.heap.objs.size b (((its.toArray.size:Nat):Int)-1-((0:Nat):Int)):=by
  refine⟨_,Heap.get?_push_size _ rfl,rfl,?_⟩;show Data.fields #[Value.ref b,rawInt (((its.toArray.size:Nat):Int)-1)]=_;simp
 have eJ:b≠bu.heap.objs.size:=by
  obtain⟨o,bJ,_⟩:=pl.isList;exact qap (Heap.lt_size bJ)
 have cC:Inv X aj af a_ {bu with heap:=bu.heap.push (revObj b (((its.toArray.size:Nat):Int)-1))}:=bT.kept (t':=bu.toks) λb o e=>Heap.get?_push_of_some _ e;have nA:its.toArray.size<=sizeLine:=by rw[qaf,<-ag];exact hz
 refine Zgi (bT.ok.hd bv) eJ dV (pl.isList.at λo e=>Heap.get?_push_of_some _ e) nA λh' b1 c_ cU br dx hB=>?_;have kI:∀b o,bu.heap.get? b=some o->h'.get? b=some o:=λb o e=>br b o (qap (Heap.lt_size e)) (Heap.get?_push_of_some _ e);have hsz:bu.heap.objs.size<=(bu.heap.push (revObj b (((its.toArray.size:Nat):Int)-1))).objs.size:=by rw[Heap.size_push];omega
 refine⟨.ref (bu.heap.push (revObj b (((its.toArray.size:Nat):Int)-1))).objs.size,_,bT.laid (a:=(bu.heap.push (revObj b (((its.toArray.size:Nat):Int)-1))).objs.size) (o:= .lst xs.reverse) (t':=b1) kI hsz ⟨by rw[List.length_reverse];exact hz,c_.toList,cU,?_,by simpa using dx⟩,rfl,q _ (bT.hok.fresh hsz)⟩;refine qw (by rw[qaQ,hB.1,List.length_reverse,qaf,ag]) λj v u bE bP=>?_;have a':=hB.2 j u (by rw[<-qbf];exact bP);have bw:j<xs.length:=by
  have:=(qaa.mp bE).1;simpa using this
 rw[List.getElem?_reverse bw] at bE;obtain⟨ko,fM,c7⟩:=c'.get bE;have dj:its.toArray[its.toArray.size-1-j]? =some ko:=by rw[qaf,<-ag];simpa using fM
 rw[dj] at a';cases a';exact c7
end
namespace Rd
theorem Zkn{H:Hp}{K:Frag}{Q:VK}{l:Addr}{ns:List Int}{k:Int}(h:SqL K H l (ns.map V.int))(q:Q (.int (ns.count k:Nat)) H):Aj K (.ref l) [.int k] H Q:=⟨l,ns,k,rfl,rfl,h,q⟩
theorem Zpp{af:St}{H:Hp}{Q:VK}{K:Frag}{b9:TA}(h:b9 af H λvs a_=>∃a xs,vs=[.ref a]/\SqL K a_ a xs/\∀l,a_ l=none->Q (.ref l) (upd a_ l (.lst xs.reverse))):Am K b9 af H Q:=h
end Rd
namespace Rd
end Rd
end L2
namespace L2
open PySem PySem.Spec PySem.W PyProof.Rows Builtin Builtin.ObjectAttr Builtin.Getset_descriptor
end L2
namespace L2
open PySem PySem.Spec PyProof.Rows
namespace Rd
end Rd
end L2
namespace HT
open PySem PyProof.Rows
end HT
namespace L2
namespace Rd
open PySem PySem.Spec PyProof.Rows
end Rd
end L2
namespace L2
open PySem PySem.Spec PyProof.Rows
section
def Ux(p:Array Nat):Prop:=p.toList.Pairwise (· < ·)
theorem Ux.lt{p:Array Nat}(h:Ux p){i j:Nat}(sD:i<j)(bw:j<p.size):p[i]'(Nat.lt_trans sD bw)<p[j]:=by
 have:=qbn.mp h i j (by simpa using Nat.lt_trans sD bw) (by simpa using bw) sD;simpa using this
theorem ZdY{p:Array Nat}{j:Nat}(ap:Ux p):∀(f lo hi:Nat),lo<=hi->hi<=p.size->hi-lo<=f->(∀i (h:i<p.size),i<lo->p[i]<j)->(∀i (h:i<p.size),hi<=i->j<=p[i])->
  SetTable.below.go p j f lo hi<=p.size/\(∀i (h:i<p.size),i<SetTable.below.go p j f lo hi->p[i]<j)/\∀i (h:i<p.size),SetTable.below.go p j f lo hi<=i->j<=p[i]
 |0,lo,hi,ak,a',bL,cu,dJ=>by
  have e:lo=hi:=by omega
  subst e;exact⟨a',cu,dJ⟩
 |f+1,lo,hi,ak,a',bL,cu,dJ=>by
  unfold SetTable.below.go
  by_cases ag:lo<hi
  .rw[if_pos ag];have bz:(lo+hi) / 2<p.size:=by omega
   have eh:p.getD ((lo+hi) / 2) j=p[(lo+hi) / 2]:=by simp[Array.getD,bz]
   dsimp only;rw[eh]
   by_cases bv:p[(lo+hi) / 2]<j
   .rw[if_pos bv];refine ZdY ap f _ _ (by omega) a' (by omega) (λi h dy=>?_) dJ;rcases qa8 i ((lo+hi) / 2) with z|z
    .exact Nat.lt_trans (ap.lt z bz) bv
    .have:i=(lo+hi) / 2:=by omega
     subst this;exact bv
   .rw[if_neg bv];refine ZdY ap f _ _ (by omega) (by omega) (by omega) cu λi h dy=>?_;rcases qa8 ((lo+hi) / 2) i with z|z
    .have:=ap.lt z h;omega
    .have:i=(lo+hi) / 2:=by omega
     subst this;omega
  .rw[if_neg ag];have e:lo=hi:=by omega
   subst e;exact⟨a',cu,dJ⟩
theorem Zd1{p:Array Nat}(ap:Ux p)(j:Nat):SetTable.below p j<=p.size/\(∀i (h:i<p.size),i<SetTable.below p j->p[i]<j)/\∀i (h:i<p.size),SetTable.below p j<=i->j<=p[i]:=
 ZdY ap p.size 0 p.size (qat _) (qab _) (qab _) (λ_ _ h=>absurd h (qa3 _)) λi h z=>absurd h (Nat.not_lt.mpr z)
theorem Ih{p:Array Nat}(ap:Ux p){i:Nat}(hi:i<p.size):SetTable.below p (p[i]+1)=i+1:=by
 obtain⟨ak,a',bL⟩:=Zd1 ap (p[i]+1);rcases Nat.lt_trichotomy (SetTable.below p (p[i]+1)) (i+1) with z|z|z
 .have:=bL i hi (by omega);omega
 .exact z
 .have ag:i+1<p.size:=by omega
  have:=a' (i+1) ag z;have:=ap.lt (i:=i) (j:=i+1) (qbk i) ag;omega
theorem Zjj{p:Array Nat}(ap:Ux p):SetTable.below p 0=0:=by
 obtain⟨ak,a',bL⟩:=Zd1 ap 0;rcases qbi (SetTable.below p 0) with z|z
 .exact z
 .have:=a' 0 (by omega) z;omega
theorem Ux.insert{p:Array Nat}(ap:Ux p){j:Nat}(bH:p[SetTable.below p j]? ≠some j):Ux (SetTable.insertAt p (SetTable.below p j) j):=by
 obtain⟨ak,a',bL⟩:=Zd1 ap j;unfold Ux;rw[SetTable.toList_insertAt];generalize SetTable.below p j=b at*;refine List.pairwise_append.mpr ⟨ap.sublist (List.take_sublist _ _),List.pairwise_cons.mpr ⟨λy bO=>?_,ap.sublist (List.drop_sublist _ _)⟩,λx bp y bO=>?_⟩
 .obtain⟨k,br,rfl⟩:=qbx.mp bO;rw[List.getElem_drop];rw[qbw,qaQ] at br;have ai:b<p.size:=by omega
  have fY:j<p[b]:=Nat.lt_of_le_of_ne (bL b ai (qab _)) λe=>bH (by rw[qaX ai,e]);rcases qbi k with rfl|vA
  .simpa using fY
  .have:=ap.lt (i:=b) (j:=b+k) (by omega) (by omega);simpa using Nat.lt_trans fY this
 .have jk:x<j:=by
   obtain⟨k,br,rfl⟩:=qbx.mp bp;rw[qaC,qaQ] at br;rw[qco];simpa using a' k (by omega) (by omega)
  rcases qah.mp bO with rfl|bO
  .exact jk
  .obtain⟨k,br,rfl⟩:=qbx.mp bO;rw[qbw,qaQ] at br;rw[List.getElem_drop];have:=bL (b+k) (by omega) (by omega);have cu:x<p[b+k]:=qag jk this;simpa using cu
theorem Ii(n:Nat):Ux (Array.range n):=by
 unfold Ux;rw[Array.toList_range];exact List.pairwise_lt_range
structure Yj(led:Bool)(t:SetTable):Prop where
 rise:Ux t.place
 dum:t.dummies=#[]
 led:t.led=led
variable {led:Bool}{t:SetTable}
theorem Yj.fresh:Yj led (.fresh 0 0 led):=⟨List.Pairwise.nil,rfl,rfl⟩
theorem Yj.standIn(g:Yj led t)(n:Nat):Yj led (t.standIn n):=⟨Ii n,rfl,g.led⟩
theorem Yj.orStandIn(g:Yj led t)(n:Nat):Yj led (t.orStandIn n):=by
 unfold SetTable.orStandIn
 split
 .exact g
 .exact g.standIn n
theorem Yj.noDummy(g:Yj led t)(j:Nat):SetTable.has t.dummies j=false:=by
 rw[g.dum];simp[SetTable.has]
theorem Yj.slot_empty(g:Yj led t){j:Nat}(h:t.slot j= .empty):t.place[SetTable.below t.place j]? ≠some j:=by
 intro e;unfold SetTable.slot at h;dsimp only at h;rw[e] at h;simp at h
theorem Zev(g:Yj led t){bD:Nat->Int}{h:Int}:∀(f:Nat)(p:SetTable.Probe)(j:Nat)(d:Option Nat),p.dummy=none->SetTable.probe.go t bD h f p=some (.empty j d)->d=none/\t.slot j= .empty
 |0,p,j,d,bB,e=>by cases e
 |f+1,p,j,d,bB,e=>by
  have Ij:∀q:SetTable.Probe,(t.advance q).dummy=q.dummy:=λq=>by
   unfold SetTable.advance
   split<;>rfl
  unfold SetTable.probe.go at e;cases hs:t.slot p.j with
  |empty=>rw[hs] at e;cases e;exact⟨bB,hs⟩
  |dummy=>
   exfalso;unfold SetTable.slot at hs;dsimp only at hs;rw[g.noDummy] at hs
   split at hs<;>simp at hs
  |live i=>
   rw[hs] at e;dsimp only at e
   split at e
   .cases e
   .exact Zev g f _ j d (by rw[Ij,bB]) e
theorem Yj.put(g:Yj led t){j:Nat}(h:t.slot j= .empty):Yj led (t.put j).1:=by
 refine⟨g.rise.insert (g.slot_empty h),?_,g.led⟩;show(if SetTable.has t.dummies j then _ else t.dummies)=#[];rw[g.noDummy];exact g.dum
theorem Yj.layNew(g:Yj led t)(bC:Array (Int×Value))(h:Int)(x:Value):Yj led (layNew t bC h x).2.1:=by
 unfold PySem.layNew
 split
 .rename_i slot was e;dsimp only;refine Yj.orStandIn (g.put ?_) _;unfold SetTable.freeSlot at e
  split at e
  .rename_i j d bP;obtain⟨rfl,hs⟩:=Zev g _ _ j d rfl bP;cases e;exact hs
  .cases e
 .exact g.standIn _
theorem Yj.laid{An finger Ik:Nat}{pl:Bool}{hs:Array Int}{r:SetTable×Array Nat}(e:SetTable.laid An finger Ik led pl hs=some r):Yj led r.1:=by
 unfold SetTable.laid at e;cases bJ:SetTable.layClean An hs with
 |none=>rw[bJ] at e;cases e
 |some owner=>
  rw[bJ] at e;cases e;refine⟨?_,rfl,rfl⟩;show List.Pairwise _ _;simp only[List.toList_toArray];rw[qb0];refine List.Pairwise.filterMap _ (R:=(· < ·)) (λa b lJ c bv d hd=>?_) List.pairwise_lt_range;cases bE:owner.getD a none with
  |none=>rw[bE] at bv;cases bv
  |some x=>
   cases bP:owner.getD b none with
   |none=>rw[bP] at hd;cases hd
   |some y=>rw[bE] at bv;rw[bP] at hd;cases bv;cases hd;exact lJ
theorem Yj.relayAll(g:Yj led t)(bC:Array (Int×Value))(n:Nat):Yj led (relayAll t bC n).2.1:=by
 unfold PySem.relayAll
 split
 .rename_i t' order e;dsimp only
  split
  .unfold SetTable.relaid at e;rw[g.led] at e;exact Yj.laid e
  .exact g.standIn _
 .exact g.standIn _
end
section
noncomputable def keyI:Int×Value->Int
 |(_,.int n _)=>n
 |_=>0
def Zat(led:Bool)(b5:List Int)(o:Obj):Prop:=o.ExactSet/\∃bC ep t,o.data= .set bC ep t/\(∀e∈bC.toList,∃n b1,e=(hashInt n,Value.int n b1))/\bC.size<scanBound/\t.fits bC.size=true/\Yj led t/\(bC.toList.map keyI).Perm b5
variable {prog:Program}{w:World}{A:Around}{E:Value->Shared->Prop}{s:Shared}{led:Bool}
theorem vB{l:List (Int×Value)}(h:∀e∈l,∃n b1,e=(hashInt n,Value.int n b1)):ElemsOf (intKind prog w) l:=λe bK=>by
 obtain⟨n,b1,rfl⟩:=h e bK;exact⟨⟨n,intKind_is _ _ _ _,rfl⟩,rfl⟩
theorem vC{l:List (Int×Value)}(h:∀e∈l,∃n b1,e=(hashInt n,Value.int n b1)){n:Int}:(∃e∈l,(intKind prog w).is n e.2=true)↔n∈l.map keyI:=by
 constructor
 .rintro⟨e,bK,hi⟩;obtain⟨m,b1,rfl⟩:=h e bK;have:n=m:=(intKind prog w).inj _ n m hi (intKind_is _ _ _ _);subst this;exact qae.mpr ⟨_,bK,rfl⟩
 .intro bz;obtain⟨e,bK,br⟩:=qae.mp bz;obtain⟨m,b1,rfl⟩:=h e bK;cases br;exact⟨_,bK,intKind_is _ _ _ _⟩
theorem Ao{g:Bool->Sem Unit}(bG:∀(b:Bool)(bu:Shared)(iN:Unit->Shared->Prop),iN () bu->wpAny (model prog w) A (g b) iN E bu){a:Addr}{o:Obj}{bC:Array (Int×Value)}{ep:Nat}{t:SetTable}{b5:List Int}{fl:Array (Int×Value)}{dE:SetTable}{was:Bool}{R:Option Bool->Shared->Prop}
  (bJ:s.heap.get? a=some o) (g4:o.ExactSet) (hd:o.data= .set bC ep t) (nB:∀e∈fl.toList,∃n b1,e=(hashInt n,Value.int n b1)) (k1:(fl.toList.map keyI).Perm b5) (gM:fl.size<scanBound) (f2:dE.fits fl.size=true) (g2:Yj led dE)
  (q:∀h' cx,Heap.SameBut a s.heap h'->h'.get? a=some cx->Zat led b5 cx->R (some true) {s with heap:=h'}):
  wpAny (model prog w) A (storeSet a fl dE >>= λ_=>if(!was&&dE.tooFull)=true then g (relayAll dE fl (SetTable.grown fl.size)).2.2 >>= λ_=>storeSet a (relayAll dE fl (SetTable.grown fl.size)).1 (relayAll dE fl (SetTable.grown fl.size)).2.1 >>= λ_=>pure (some true) else pure (some true)) R E s:=by
 refine wpAny_bind (wpAny_storeSet_of bJ hd ?_ (fits_of_scanBound gM));have h_:=Heap.SameBut.update s.heap a (Obj.putSet fl dE);obtain⟨nC,_⟩:=SetOf_store (knd:=intKind prog w) (S':=λk=>decide (k∈b5)) bJ g4 hd (vB nB) (λk=>by rw[vC nB,k1.mem_iff];simp) gM f2
 split
 .have lK:=relayAll_perm dE fl (SetTable.grown fl.size);have dh:=relayAll_fits dE fl (SetTable.grown fl.size);have g3:=g2.relayAll fl (SetTable.grown fl.size);generalize relayAll dE fl (SetTable.grown fl.size)=R at lK dh g3|-;obtain⟨qB,jl,R7⟩:=R;dsimp only at lK dh g3|-;have dq:qB.size=fl.size:=by have:=lK.length_eq;simpa using this
  have jo:qB.size<scanBound:=by rw[dq];exact gM
  have vD:∀e∈qB.toList,∃n b1,e=(hashInt n,Value.int n b1):=λe bK=>nB e (lK.mem_iff.mp bK);have k3:(qB.toList.map keyI).Perm b5:=(lK.map keyI).trans k1;refine wpAny_bind (bG _ _ _ ?_);refine wpAny_bind (wpAny_storeSet_of nC rfl ?_ (fits_of_scanBound jo));obtain⟨Il,_⟩:=SetOf_store (knd:=intKind prog w) (S':=λk=>decide (k∈b5)) nC g4 rfl (vB vD) (λk=>by rw[vC vD,k3.mem_iff];simp) jo dh;exact wpAny_pure (q _ _ (h_.trans (Heap.SameBut.update _ a _)) Il ⟨g4,qB,_,jl,rfl,vD,jo,dh,g3,k3⟩)
 .exact wpAny_pure (q _ _ h_ nC ⟨g4,fl,_,dE,rfl,nB,gM,f2,g2,k1⟩)
theorem Zlm{a:Addr}{o:Obj}{b5:List Int}{n:Int}{b1:Tok}{Q:Bool->Shared->Prop}(bJ:s.heap.get? a=some o)(dx:Zat led b5 o)(R8:b5.length+1<scanBound)
  (q:∀h' cx,Heap.SameBut a s.heap h'->h'.get? a=some cx->Zat led (step_dedup b5 n) cx->∀b,Q b {s with heap:=h'}):wpAny (model prog w) A (setAddHashed a (.int n b1) (hashInt n)) Q E s:=by
 obtain⟨g4,bC,ep,t,hd,oP,ai,bN,bG,bB⟩:=dx;have fo:ElemsOf (intKind prog w) bC.toList:=vB oP;have iO:bC.size=b5.length:=by have:=bB.length_eq;simpa using this
 have j_:(∃e∈bC.toList,(intKind prog w).is n e.2=true)↔n∈b5:=(vC oP).trans bB.mem_iff;unfold setAddHashed setAddHashedIn;refine wpAny_holding (wpAny_bind (wpAny_setState_of bJ hd bN ?_));dsimp only;rw[byScan_of (x:= .int n b1) rfl ai fo,if_pos rfl];refine wpAny_bind ?_;unfold setAddByScan;refine wpAny_bind (wpAny_rule (wpAny_bind (wpAny_setScan_of (knd:=intKind prog w) (k:=n) (intKind_is _ _ _ _) bJ hd bN fo ?_)));cases ap:bC.toList.findIdx? (λe=>(intKind prog w).is n e.2) with
 |some j=>
  dsimp only;obtain⟨bw,Im,_⟩:=List.findIdx?_eq_some_iff_getElem.mp ap;have ea:n∈b5:=j_.mp ⟨_,GM bw,Im⟩;have e:step_dedup b5 n=b5:=by
   unfold step_dedup;rw[if_pos (by simpa using ea)]
  refine wpAny_pure (wpAny_pure ?_);exact q s.heap o (Heap.SameBut.refl a s.heap) bJ (by rw[e];exact⟨g4,bC,ep,t,hd,oP,ai,bN,bG,bB⟩) false
 |none=>
  dsimp only;have Io:n∉b5:=λz=>by
   obtain⟨e,bK,hi⟩:=j_.mpr z;have:=List.findIdx?_eq_none_iff.mp ap e bK;rw[hi] at this;cases this
  have e:step_dedup b5 n=b5++ [n]:=by
   unfold step_dedup;rw[if_neg (by simpa using Io)]
  have fc:=layNew_perm t bC (hashInt n) (.int n b1);have f1:=layNew_fits t bC (hashInt n) (.int n b1);have g1:=bG.layNew bC (hashInt n) (.int n b1);generalize layNew t bC (hashInt n) (Value.int n b1)=L at fc f1 g1|-;obtain⟨fl,jg,was,R9⟩:=L;dsimp only at fc f1 g1|-;rw[Array.toList_push] at fc;have nB:∀e∈fl.toList,∃n b1,e=(hashInt n,Value.int n b1):=λe bK=>by
   rcases qaI.mp (fc.mem_iff.mp bK) with z|z
   .exact oP e z
   .exact⟨n,b1,qac.mp z⟩
  have k1:(fl.toList.map keyI).Perm (b5++ [n]):=(fc.map keyI).trans (by rw[qaG];exact bB.append_right _);have cE:fl.size=b5.length+1:=by have:=k1.length_eq;simpa using this
  have gM:fl.size<scanBound:=by omega
  have vE:∀(b:Bool)(bu:Shared)(iN:Unit->Shared->Prop),iN () bu->wpAny (model prog w) A (match b with|true=>rule "set.scan.the-table-gave-way" |false=>pure ()) iN E bu:=λb bu iN ak=>by
   cases b
   .exact wpAny_pure ak
   .exact wpAny_rule ak
  refine wpAny_bind (vE _ _ _ ?_);have eg:∀h' cx,Heap.SameBut a s.heap h'->h'.get? a=some cx->Zat led (b5++ [n]) cx->wpAny (model prog w) A (pure true) Q E {s with heap:=h'}:=λh' cx x y z=>wpAny_pure (q h' cx x y (by rw[e];exact z) true)
  split
  .refine wpAny_bind ?_;rw[hashByValue_scannable 8 (x:= .int n b1) rfl];refine wpAny_pure (Ao (g:=_) ?_ bJ g4 hd nB k1 gM f1 g1 eg);exact vE
  .refine wpAny_bind (wpAny_pure (Ao (g:=_) ?_ bJ g4 hd nB k1 gM f1 g1 eg));exact vE
end
section
variable {prog:Program}{w:World}{A:Around}{led:Bool}
theorem Zj6(val:Nat->Int)(i:Nat):(firstMet val i).length<=i:=firstMet_length_le val i
theorem ZlY{R:Result->Shared->Prop}{I S:Addr}{fp qC:List Addr}{G:Array GenState->Array GenState->Prop}{n:Nat}{P:Nat->Value->Prop}{St:Nat->Shared->Prop}(W:WalksS prog w A.in1 I fp qC G n P St)(ny:S∉fp)(val:Nat->Int)(Ap:∀i v,P i v->∃t,v= .int (val i) t)(ai:n+1<scanBound):
  ∀(k i:Nat)(s:Shared)(o:Obj),n-i=k->i<=n->St i s->s.heap.get? S=some o->Zat led (firstMet val i) o->
   (∀s' cx,Moved (S::qC) G s s'->s'.heap.get? S=some cx->Zat led (firstMet val n) cx->R (.ok (.ret .none)) s')->codeAny (model prog w) A (.builtin "set.update.loop" ⟨[.ref S,.ref I],[]⟩) R s:=by
 have Aq:S∉qC:=λz=>ny (W.sub _ z);have oJ:∀b∈qC,b∈S::qC:=λb z=>qax _ z;intro k
 induction k with
 |zero=>
  intro i s o br hi st dx sS q;obtain rfl:i=n:=by omega
  refine codeAny_builtin F.entry_set_update_loop ?_;rw[Around.under_plainId F.plain_set_update_loop];refine wpAny_bind (W.done s _ _ st λbu iP=>?_);exact wpAny_pure (q bu o (iP.mono oJ) (iP.heap S o Aq dx) sS)
 |succ k bQ=>
  intro i s o br hi st dx sS q;have cD:i<n:=by omega
  refine codeAny_builtin F.entry_set_update_loop ?_;rw[Around.under_plainId F.plain_set_update_loop];refine wpAny_bind (W.item i s _ _ cD st λv bu d5 Ip iP=>?_);obtain⟨t,rfl⟩:=Ap i v d5;have qD:=iP.heap S o Aq dx;refine wpAny_bind (wpAny_holding ?_);unfold setAdd;refine wpAny_holding (wpAny_bind ((intKind prog w).pyHash (k:=val i) (intKind_is _ _ _ _) ?_));have ap:(firstMet val i).length+1<scanBound:=by have:=Zj6 val i;omega
  refine Zlm (s:={bu with toks:=bu.toks+1}) qD sS ap λa' iQ h_ h2o bM b=>?_;rw[<-firstMet_succ] at bM;refine wpAny_pure ⟨plainId_quiet F.plain_set_update_loop _,bQ (i+1) _ iQ (by omega) cD (W.frame _ bu _ _ Ip (qb3 _) λc bv g5 dj=>?_) h2o bM λbR g5 mv3 bL g3=>?_⟩
  .rw[h_.2 c λz=>ny (z▸bv)];exact dj
  .refine q bR g5 (Moved.trans W.gtrans ((iP.mono oJ).then_heap (qb3 _) λc sE bv hA=>?_) mv3) bL g3;rw[h_.2 c λz=>bv (z▸qbu)];exact hA
theorem Iq{E:Value->Shared->Prop}{s:Shared}(a:Value){Q:Value->Shared->Prop}
  (h:Q (.ref s.heap.objs.size) {s with heap:=s.heap.push {cls:= .type "set",dict:=none,data:= .set #[] 0 (.fresh 0 0 (!w.params.followText "set-order"))}}):
  codeAny (model prog w) A (.call (.builtin "set.__new__") ⟨[.type "set",a],[]⟩) (wants Q E) s:=by
 refine codeAny_of_tree ?_;refine wpAny_bind (wpAny_of_eq (F.newCall_set_1 a) (wpAny_pure ⟨plainId_quiet F.plain_set_new _,codeAny_builtin F.entry_set_new ?_⟩));rw[Around.under_plainId F.plain_set_new _];unfold Builtin.«set.__new__» Builtin.Frozenset.newClass;have Ir:=sub_set_self;obtain⟨bB,g,d,b1,os⟩:=s;dsimp only
 wp_walk
 refine wpAny_askSetting (wpAny_pure ?_);dsimp only;simp only[newObj];exact wpAny_bind (wpAny_alloc (wpAny_pure (wpAny_pure h)))
end
section
variable {prog:Program}{w:World}{A:Around}
theorem Zli{E:Value->Shared->Prop}{s:Shared}{l:Addr}{items:Array Value}{ns:List Int}{Q:Value->Shared->Prop}(b4:A.handled=none)(ag:s.heap.IsList l items)(hi:IntsAre items.toList ns)(ai:items.size+1<scanBound)
  (q:∀(h':Heap)(b1:Nat)(o:Obj),h'.get? s.heap.objs.size=some o->Zat (!w.params.followText "set-order") (firstMet (λi=>ns.getD i 0) items.size) o->
   (∀b o,b<s.heap.objs.size->s.heap.get? b=some o->h'.get? b=some o)->Q (.ref s.heap.objs.size) {s with heap:=h',toks:=b1}):
  wpAny (model prog w) A (call (.type "set") [.ref l]) Q E s:=by
 obtain⟨c,dH,R_⟩:=F.called_set.mro;have R':=F.called_set.made;have Ir:=F.called_set.sub;refine wpAny_call (codeAny_of_tree ?_);refine wpAny_pure ⟨Code.quiet_builtin _ (by decide+kernel),codeAny_builtin F.entry_type_call ?_⟩;rw[Around.under_plain (weight_type_call_type "set" [.ref l] []) rfl];have e9:=F.called_set.notType;have eb:=F.called_set.canCreate;have kK:=F.typeCall_set_1 (.ref l)
 repeat (any_goals (first|assumption|wp_step))
 clear eb kK;refine codeAny_mono (Iq (.ref l) (E:=E) (Q:=λv bu=>v= .ref s.heap.objs.size/\bu={s with heap:=s.heap.push {cls:= .type "set",dict:=none,data:= .set #[] 0 (.fresh 0 0 (!w.params.followText "set-order"))}}) ⟨rfl,rfl⟩) λr bu ap=>?_;rcases r with e|fK
 .exact ap
 cases fK with
 |ret v=>
  obtain⟨rfl,rfl⟩:=ap;generalize en:({cls:= .type "set",dict:=none,data:= .set #[] 0 (.fresh 0 0 (!w.params.followText "set-order"))}:Obj)=N;have Iu:N.cls= .type "set" :=by rw[<-en]
  have Iv:Zat (!w.params.followText "set-order") [] N:=by
   rw[<-en];exact⟨⟨rfl,rfl,rfl⟩,#[],0,_,rfl,by simp,by decide,by rfl,Yj.fresh,by simp⟩
  have dx:(s.heap.push N).get? s.heap.objs.size=some N:=Heap.get?_push_size _ (by rw[<-en];rfl);have c1:Shared.TypeIs {s with heap:=s.heap.push N} (.ref s.heap.objs.size) "set" :=⟨_,dx,Iu⟩;have Iw:=F.called_set.init.lookup;have bi:=F.called_set.init.bind (.ref s.heap.objs.size)
  repeat (any_goals (first|assumption|wp_step))
  refine codeAny_mono (codeAny_call_builtin (R:=wants (λr bM=>r= .none/\∃h' b1 o,bM={s with heap:=h',toks:=b1}/\h'.get? s.heap.objs.size=some o/\Zat (!w.params.followText "set-order") (firstMet (λi=>ns.getD i 0) items.size) o/\(∀b o,b<s.heap.objs.size->s.heap.get? b=some o->h'.get? b=some o)) E) F.called_set.init.plain F.entry_set_init (check_set_init_1 c1 ?_)) λr bM ap=>?_
  .have iR:(s.heap.push N).IsList l items:=ag.push _;obtain⟨sF,Ar,ew,Ix,lL⟩:=ag;obtain⟨Sa,Iy,Sb,IA⟩:=sF;simp only at ew lL;subst ew lL;have As:(s.heap.push N).get? l=some {cls:= .type "list",dict:=Iy,data:= .seq items Ix,slots:=IA}:=Heap.get?_push_of_some _ Ar;have x1:=F.sub_list_set;have x2:=F.sub_list_frozenset;have x3:(Value.type "list" ==Value.type "dict")=false:=by decide
   have nz:=dx;rw[<-en] at dx c1 As|-;unfold Builtin.«set.__init__» noKeywords Builtin.Frozenset.updateFrom;generalize IB:pyIter=PI
   wp_walk
   subst IB;rw[en] at As dx c1|-;refine wpAny_pyIter_list iR ?_;refine wpAny_bind (wpAny_runValue ?_);have At:l<s.heap.objs.size:=Heap.lt_size Ar;have gP:A.in1.in1.in1.handled=none:=by simp[b4]
   have IC:l≠(s.heap.push N).objs.size:=by
    rw[Heap.size_push];exact qap (qbg At)
   have l4:s.heap.objs.size∉[(s.heap.push N).objs.size,l]:=by
    rw[Heap.size_push];simp only[qah,qa2,or_false,not_or];exact⟨qap (qbk _),qbY At⟩
   refine ZlY ((Walks.list gP _ l IC items).toS) l4 (λi=>ns.getD i 0) (λi v bS=>IntsAre.int_at hi i v (by rw[qbf];exact bS)) ai (items.size-0) 0 _ N (by omega) (qat _) ⟨⟨_,Heap.get?_push_size _ rfl,rfl,rfl⟩,iR.push _⟩ (Heap.get?_push_of_some _ dx) Iv λbR g5 iP bL g3=>?_;obtain⟨h',g',d',ID,uK⟩:=bR;obtain rfl:g'=s.gens:=iP.gens;obtain rfl:d'=s.drawn:=iP.drawn;obtain rfl:uK=s.os:=iP.os;show wpAny _ _ _ _ _ _;refine wpAny_pure ?_;show wpAny _ _ (ret Value.none) _ _ _;refine wpAny_pure ⟨rfl,h',ID,g5,rfl,bL,g3,λb o fY e=>iP.heap b o ?_ (Heap.get?_push_of_some _ (Heap.get?_push_of_some _ e))⟩;rw[Heap.size_push];simp only[qah,qa2,or_false,not_or];exact⟨qap fY,qap (qbg fY)⟩
  .rcases r with e|fK
   .exact ap
   cases fK with
   |ret v=>
    obtain⟨rfl,h',b1,o,rfl,ak,a',bL⟩:=ap
    repeat (any_goals (first|assumption|wp_step))
    exact q _ _ _ ak a' bL
   |_=>exact ap.elim
 |_=>exact ap.elim
end
section
theorem qE:Slot "set_iterator" "__next__" "set_iterator.__next__" := .of (owner:="set_iterator") (n:="__next__") (by rw[typeLookup_type,builtinLookup_eq_fast];kernel_rfl) (by decide+kernel) (by decide+kernel) (by decide+kernel) (by first|exact .inl (by decide+kernel)|exact .inr (by decide+kernel)) (by rw[isSubtype_type];kernel_rfl)
theorem Au:Slot "set_iterator" "__iter__" "set_iterator.__iter__" := .of (owner:="set_iterator") (n:="__iter__") (by rw[typeLookup_type,builtinLookup_eq_fast];kernel_rfl) (by decide+kernel) (by decide+kernel) (by decide+kernel) (by first|exact .inl (by decide+kernel)|exact .inr (by decide+kernel)) (by rw[isSubtype_type];kernel_rfl)
theorem IE:entryFor table "set_iterator.__next__" =some Builtin.«set_iterator.__next__»:=entryFor_of_tree (by kernel_rfl)
theorem IF:entryFor table "set_iterator.__iter__" =some Builtin.«dict_keyiterator.__iter__»:=entryFor_alias (id':="dict_keyiterator.__iter__") (by kernel_rfl) rfl (by decide+kernel) (by kernel_rfl)
theorem IG:entryFor table "set.__iter__" =some Builtin.«frozenset.__iter__»:=entryFor_alias (id':="frozenset.__iter__") (by kernel_rfl) rfl (by decide+kernel) (by kernel_rfl)
theorem Av:Manifest.owners.lookup (String.ofList "set_iterator".toList.reverse.reverse)=some Manifest.sig_set_iterator:=by kernel_rfl
theorem IH(a:Value):argsOk "set_iterator.__next__" ⟨[a],[]⟩:=by
 unfold argsOk;rw[signature?_of (id:="set_iterator.__next__") (n:=['_','_','t','x','e','n','_','_']) (o:="set_iterator".toList.reverse) (by kernel_rfl) Av]
 kernel_rfl
theorem II(a:Value):argsOk "set_iterator.__iter__" ⟨[a],[]⟩:=by
 unfold argsOk;rw[signature?_of (id:="set_iterator.__iter__") (n:=['_','_','r','e','t','i','_','_']) (o:="set_iterator".toList.reverse) (by kernel_rfl) Av]
 kernel_rfl
noncomputable def jH (first:Value) (i:Nat) (a:Addr) (n ep:Nat):Obj:={cls:= .type "set_iterator",dict:=none,data:= .fields #[first,.int i 0,.ref a,.int n 0,.int ep 0],slots:=#[]}
variable {prog:Program}{w:World}{A:Around}{E:Value->Shared->Prop}{s:Shared}
theorem IJ{IK:Source}{n:Nat}{Q:Nat->Shared->Prop}(bH:n≠0)(h:∀i d,i<n->Q i {s with drawn:=d}):wpAny (model prog w) A (choose IK n) Q E s:=
 λ_ _ _=>⟨bH,h _ _ (Nat.mod_lt _ (Nat.pos_of_ne_zero bH))⟩
theorem vF{cT:Type}:∀{l:List cT}{i:Nat}(h:i<l.length),(l[i]::l.eraseIdx i).Perm l
 |x::l,0,_=>by simp
 |x::l,i+1,h=>by
  rw[List.getElem_cons_succ,List.eraseIdx_cons_succ];exact(List.Perm.swap _ _ _).trans ((vF (by simpa using h)).cons x)
theorem Aw{cT:Type}:∀(xs:List cT)(s:Shared)(Q:List cT->Shared->Prop),(∀ys d,ys.Perm xs->Q ys {s with drawn:=d})->wpAny (model prog w) A (drawOrder xs.length xs) Q E s
 | [],s,Q,h=>wpAny_pure (h [] s.drawn .rfl)
 |x::xs,s,Q,h=>by
  show wpAny _ _ (choose .order (x::xs).length >>= _) _ _ _;refine wpAny_bind (IJ (by simp) λi d hi=>?_);rw[GT hi];have bB:=vF (l:=x::xs) hi;generalize (x::xs)[i]=y at bB|-;have d9:xs.length=((x::xs).eraseIdx i).length:=by rw[List.length_eraseIdx_of_lt hi];rfl
  show wpAny _ _ (drawOrder xs.length ((x::xs).eraseIdx i) >>= _) _ _ _;generalize (x::xs).eraseIdx i=zs at bB d9|-;rw[d9];refine wpAny_bind (Aw zs _ _ λys gQ bO=>?_);exact wpAny_pure (h (y::ys) gQ ((bO.cons y).trans bB))
 termination_by xs=>xs.length
 decreasing_by simp_wf;omega
theorem Ax{cT:Type}(next:Nat->Nat):∀(f k:Nat)(l:List cT)(out:Array cT),f=l.length->(pickOrder.go next f k l out).toList.Perm (out.toList++l)
 |0,k,l,out,e=>by
  obtain rfl:l=[]:=List.eq_nil_of_length_eq_zero e.symm;simp[pickOrder.go]
 |f+1,k,l,out,e=>by
  have hi:next k % l.length<l.length:=Nat.mod_lt _ (by omega);unfold pickOrder.go;rw[GT hi];refine(Ax next f (k+1) _ _ (by rw[List.length_eraseIdx_of_lt hi];omega)).trans ?_;rw[Array.toList_push,qcn];exact(vF hi).append_left _
theorem vG{cT:Type}(next:Nat->Nat)(xs:Array cT):(pickOrder next xs).toList.Perm xs.toList:=by
 have:=Ax next xs.size 0 xs.toList #[] (by simp);simpa[pickOrder] using this
theorem Ay{fX:Around}{it:Addr}{Q:Option Value->Shared->Prop}(b4:A.handled=none){ak:Heap}(ai:Heap.SameBut it s.heap ak)(q:∀h',Heap.ExtBut it s.heap h'->Q none {s with heap:=h'}):
  wpAny (model prog w) A (newExc (.type "StopIteration") [] >>= λe=>(raiseNew e:Sem Fin)) (λ_ _=>False) (λe s'=>wpAny (model prog w) fX (isInstance e (.type "StopIteration") >>= λb=>if b=true then pure none else throw e) Q E s') {s with heap:=ak}:=by
 refine wpAny_bind ?_;simp only[newExc,newTuple];refine wpAny_bind (wpAny_newObj_type ?_ (by size_fits));refine wpAny_bind (m:=firstArgMember _ _) (wpAny_of_eq (a:=Value.none) (by first|rfl|(simp only[firstArgMember];rfl)) ?_);refine wpAny_newObj_type ?_ (by size_fits);simp only[raiseNew];refine wpAny_bind (wpAny_handled ?_);rw[b4];refine wpAny_bind (wpAny_pure (wpAny_throw ?_));exact wpAny_bind (wpAny_isInstance (T:="StopIteration") (b:=true) ⟨_,Heap.get?_push_size _ rfl,rfl⟩ isSubtype_stop (wpAny_pure (q _ ((ai.extBut.push _).push _))))
variable {it a:Addr}{o:Obj}{bC:Array (Int×Value)}{ep i:Nat}{t:SetTable}{Q:Option Value->Shared->Prop}
theorem Zgp{first:Value}(dV:s.heap.get? it=some (jH first i a bC.size ep))(h:wpAny (model prog w) A.in1 (Builtin.«set_iterator.__next__» ⟨[.ref it],[]⟩) (λeg s'=>∃x,eg= .done (.ret x)/\Q (some x) s') (λe s'=>wpAny (model prog w) A (isInstance e (.type "StopIteration") >>= λb=>if b=true then pure none else throw e) Q E s') s):wpAny (model prog w) A (pyNext (.ref it)) Q E s:=by
 have c1:s.TypeIs (.ref it) "set_iterator" :=⟨_,dV,rfl⟩;unfold pyNext;refine wpAny_bind (wpAny_attempt (wpAny_callSpecial?_slot (name:=Str.ofString "__next__") c1 qE (wpAny_call_entry qE c1 IE ?_ (IH _))));refine wpAny_mono h (λeg s' z=>?_) λe s' z=>?_
 .obtain⟨x,rfl,q⟩:=z;exact⟨x,rfl,wpAny_pure q⟩
 .exact z
theorem Ziz{sl nx:Nat}{v:Value}(dV:s.heap.get? it=some (jH (.int sl 0) i a bC.size ep))(bJ:s.heap.get? a=some o)(hd:o.data= .set bC ep t)(bN:t.fits bC.size=true)
  (bp:∀{A:Around}{E:Value->Shared->Prop}(Q:Option (Value×Nat)->Shared->Prop),Q (some (v,nx)) s->wpAny (model prog w) A (setNext a sl i ep) Q E s)
  (q:∀h',h'.get? it=some (jH (.int nx 0) (i+1) a bC.size ep)->Heap.SameBut it s.heap h'->Q (some v) {s with heap:=h'}):wpAny (model prog w) A (pyNext (.ref it)) Q E s:=by
 refine Zgp dV ?_;unfold Builtin.«set_iterator.__next__»;refine wpAny_bind (m:=slotArgs _ _ _) (wpAny_pure (wpAny_bind (wpAny_fieldsOf dV rfl ?_)));show wpAny _ _ (setEntries a >>= _) _ _ _;refine wpAny_bind (wpAny_setEntries_of bJ hd bN ?_);rw[if_neg (by simp)];show wpAny _ _ (setNext a _ _ _ >>= _) _ _ _;simp only[FM];refine wpAny_bind (bp _ ?_);refine wpAny_bind (wpAny_setField_rec dV (by simp) λak bE eE=>?_);refine wpAny_bind (wpAny_setField_rec (s:={s with heap:=ak}) bE (by simp) λa' bP fC=>?_);exact wpAny_pure ⟨v,rfl,q a' bP (eE.trans fC)⟩
theorem ZjZ{sl:Nat}(b4:A.handled=none)(dV:s.heap.get? it=some (jH (.int sl 0) i a bC.size ep))(bJ:s.heap.get? a=some o)(hd:o.data= .set bC ep t)(bN:t.fits bC.size=true)
  (bp:∀{A:Around}{E:Value->Shared->Prop}(Q:Option (Value×Nat)->Shared->Prop),Q none s->wpAny (model prog w) A (setNext a sl i ep) Q E s)
  (q:∀h',Heap.ExtBut it s.heap h'->Q none {s with heap:=h'}):wpAny (model prog w) A (pyNext (.ref it)) Q E s:=by
 refine Zgp dV ?_;unfold Builtin.«set_iterator.__next__»;refine wpAny_bind (m:=slotArgs _ _ _) (wpAny_pure (wpAny_bind (wpAny_fieldsOf dV rfl ?_)));show wpAny _ _ (setEntries a >>= _) _ _ _;refine wpAny_bind (wpAny_setEntries_of bJ hd bN ?_);rw[if_neg (by simp)];show wpAny _ _ (setNext a _ _ _ >>= _) _ _ _;simp only[FM];refine wpAny_bind (bp _ ?_);refine wpAny_bind (wpAny_setField_rec dV (by simp) λak bE eE=>?_);exact wpAny_mono (Ay (A:=A.in1) b4 eE q) (λ_ _ z=>False.elim z) λ_ _ z=>z
theorem Zm3{T:Addr}{items:Array Value}{pl:Nat}{k:Int}{v:Value}(dV:s.heap.get? it=some (jH (.ref T) i a bC.size ep))(c1:s.heap.IsTuple T items)(hi:items[i]? =some (.int pl 0))(bS:bC[pl]? =some (k,v))(bJ:s.heap.get? a=some o)(hd:o.data= .set bC ep t)(bN:t.fits bC.size=true)
  (q:∀h',h'.get? it=some (jH (.ref T) (i+1) a bC.size ep)->Heap.SameBut it s.heap h'->Q (some v) {s with heap:=h'}):wpAny (model prog w) A (pyNext (.ref it)) Q E s:=by
 obtain⟨oQ,vH,IL,IM,vI⟩:=c1;refine Zgp dV ?_;unfold Builtin.«set_iterator.__next__»;refine wpAny_bind (m:=slotArgs _ _ _) (wpAny_pure (wpAny_bind (wpAny_fieldsOf dV rfl ?_)));show wpAny _ _ (setEntries a >>= _) _ _ _;refine wpAny_bind (wpAny_setEntries_of bJ hd bN ?_);rw[if_neg (by simp)];show wpAny _ _ (seqItems? (.ref T) >>= _) _ _ _;refine wpAny_bind (wpAny_seqItems vH vI ?_);simp only[FM,hi];unfold setNextDrawn;refine wpAny_bind (wpAny_bind (wpAny_setState_of bJ hd bN ?_));dsimp only;rw[if_neg (by simp),bS];refine wpAny_pure ?_;refine wpAny_bind (wpAny_setField_rec dV (by simp) λa' bP fC=>?_);exact wpAny_pure ⟨v,rfl,q a' bP fC⟩
theorem Zow{T:Addr}{items:Array Value}(b4:A.handled=none)(dV:s.heap.get? it=some (jH (.ref T) i a bC.size ep))(c1:s.heap.IsTuple T items)(hi:items[i]? =none)(bJ:s.heap.get? a=some o)(hd:o.data= .set bC ep t)(bN:t.fits bC.size=true)
  (q:∀h',Heap.ExtBut it s.heap h'->Q none {s with heap:=h'}):wpAny (model prog w) A (pyNext (.ref it)) Q E s:=by
 obtain⟨oQ,vH,IL,IM,vI⟩:=c1;refine Zgp dV ?_;unfold Builtin.«set_iterator.__next__»;refine wpAny_bind (m:=slotArgs _ _ _) (wpAny_pure (wpAny_bind (wpAny_fieldsOf dV rfl ?_)));show wpAny _ _ (setEntries a >>= _) _ _ _;refine wpAny_bind (wpAny_setEntries_of bJ hd bN ?_);rw[if_neg (by simp)];show wpAny _ _ (seqItems? (.ref T) >>= _) _ _ _;refine wpAny_bind (wpAny_seqItems vH vI ?_);simp only[FM,hi];refine wpAny_bind (wpAny_setField_rec dV (by simp) λcd ev c2=>?_);refine wpAny_bind (wpAny_setField_rec (s:={s with heap:=cd}) ev (by simp) λak bE eE=>?_);exact wpAny_mono (Ay (A:=A.in1) (s:=s) b4 (c2.trans eE) q) (λ_ _ z=>False.elim z) λ_ _ z=>z
theorem ZfV{sl:Nat}(hw:w.params.followText "set-order" =true)(bJ:s.heap.get? a=some o)(hd:o.data= .set bC ep t)(bN:t.fits bC.size=true)(Q:Option (Value×Nat)->Shared->Prop)(q:Q (((pickOrder (w.params.setOrder a ep) bC)[i]?).map λe=>(e.2,sl)) s):wpAny (model prog w) A (setNext a sl i ep) Q E s:=by
 unfold setNext setsByText;refine wpAny_bind (wpAny_setState_of bJ hd bN ?_);dsimp only;refine wpAny_bind (wpAny_bind (wpAny_askSetting (wpAny_pure ?_)));show wpAny _ _ (if w.params.followText "set-order" =true then _ else _) _ _ _;rw[if_pos hw,if_neg (by simp)];unfold setWalk setsByText;refine wpAny_bind (wpAny_bind (wpAny_setState_of bJ hd bN ?_));dsimp only;refine wpAny_bind (wpAny_bind (wpAny_askSetting (wpAny_pure ?_)));show wpAny _ _ (if w.params.followText "set-order" =true then _ else _) _ _ _;rw[if_pos hw];exact wpAny_bind (wpAny_askSetting (wpAny_pure (wpAny_pure q)))
theorem Zef{sl:Nat}(hw:w.params.followText "set-order" =false)(bJ:s.heap.get? a=some o)(hd:o.data= .set bC ep t)(bN:t.fits bC.size=true)(bB:(!t.plain&&decide (bC.size > 1))=false)(ag:t.led=true)(Q:Option (Value×Nat)->Shared->Prop)
  (q:Q (match bC[SetTable.below t.place sl]?,t.place[SetTable.below t.place sl]? with|some (_,x),some j=>some (x,j+1)|_,_=>none) s):wpAny (model prog w) A (setNext a sl i ep) Q E s:=by
 unfold setNext setsByText;refine wpAny_bind (wpAny_setState_of bJ hd bN ?_);dsimp only;refine wpAny_bind (wpAny_bind (wpAny_askSetting (wpAny_pure ?_)));show wpAny _ _ (if w.params.followText "set-order" =true then _ else _) _ _ _;rw[if_neg (by rw[hw];simp)];show wpAny _ _ (if(!t.plain&&decide (bC.size > 1))=true then _ else _) _ _ _;rw[if_neg (by rw[bB];simp)];refine wpAny_bind ?_;show wpAny _ _ (if(!t.led&& !bC.isEmpty)=true then _ else _) _ _ _;rw[if_neg (by rw[ag];simp)];exact wpAny_pure (wpAny_pure q)
end
section
variable {prog:Program}{w:World}{A:Around}{E:Value->Shared->Prop}{s:Shared}{it a:Addr}{o:Obj}{bC:Array (Int×Value)}{ep i:Nat}{t:SetTable}
theorem Zfo{first:Value}{n:Nat}{Q:Value->Shared->Prop}(dV:s.heap.get? it=some (jH first i a n ep))(q:Q (.ref it) s):wpAny (model prog w) A (pyIter (.ref it)) Q E s:=by
 have c1:s.TypeIs (.ref it) "set_iterator" :=⟨_,dV,rfl⟩;refine wpAny_pyIter_slot c1 Au (wpAny_call_entry Au c1 IF ?_ (II _));show wpAny _ _ (ret (.ref it)) _ _ s;exact wpAny_pure ⟨_,rfl,"set_iterator",_,c1,qE.lookup,q⟩
theorem ZiM(b4:A.handled=none)(I:Addr)(e0:a≠I)(hw:w.params.followText "set-order" =true)(hd:o.data= .set bC ep t)(bN:t.fits bC.size=true):
  PySem.Walks prog w A I [I,a] [I] bC.size (λi v=>((pickOrder (w.params.setOrder a ep) bC).toList.map (·.2))[i]? =some v) (λi h=>h.get? I=some (jH (.int (0:Nat) 0) i a bC.size ep)/\h.get? a=some o) where
 sub:=λb ai=>by simp at ai;simp[ai]
 frame:=λ_ _ _ st br=>⟨br I (by simp) _ st.1,br a (by simp) _ st.2⟩
 item:=λi s Q E hi st q=>by
  have hz:(pickOrder (w.params.setOrder a ep) bC).size=bC.size:=by have:=(vG (w.params.setOrder a ep) bC).length_eq;simpa using this
  have dy:i<(pickOrder (w.params.setOrder a ep) bC).size:=by rw[hz];exact hi
  refine Ziz (nx:=0) (v:=((pickOrder (w.params.setOrder a ep) bC)[i]).2) st.1 st.2 hd bN (λiN ce=>ZfV hw st.2 hd bN iN (by rw[qaX dy];exact ce)) λh' e b=>?_;exact q _ h' s.toks (by rw[qak,qbf,qaX dy];rfl) ⟨e,b.extBut a _ e0 st.2⟩ λlr cx ai b'=>b.extBut lr cx (λz=>ai (by simp[z])) b'
 done:=λs Q E st q=>by
  have hz:(pickOrder (w.params.setOrder a ep) bC).size=bC.size:=by have:=(vG (w.params.setOrder a ep) bC).length_eq;simpa using this
  refine ZjZ b4 st.1 st.2 hd bN (λiN ce=>ZfV hw st.2 hd bN iN (by rw[Array.getElem?_eq_none (by omega)];exact ce)) λh' e=>q h' s.toks λb cx ai b'=>e b cx (λz=>ai (by simp[z])) b'
 self:=λ_ _ _ _ st q=>Zfo st.1 q
noncomputable def oR (t:SetTable) (i:Nat):Nat:=if i=0 then 0 else t.place.getD (i-1) 0+1
theorem Zcm{led:Bool}(g:Yj led t){n:Nat}(hz:t.place.size=n)(hi:i<=n):SetTable.below t.place (oR t i)=i:=by
 unfold oR
 split
 .rename_i e;rw[e];exact Zjj g.rise
 .have ak:i-1<t.place.size:=by omega
  have e:t.place.getD (i-1) 0=t.place[i-1]:=by simp[Array.getD,ak]
  rw[e,Ih g.rise ak];omega
theorem ZhK{led:Bool}(b4:A.handled=none)(I:Addr)(e0:a≠I)(hw:w.params.followText "set-order" =false)(hd:o.data= .set bC ep t)(bN:t.fits bC.size=true)(bB:(!t.plain&&decide (bC.size > 1))=false)(ag:t.led=true)(g:Yj led t):
  PySem.Walks prog w A I [I,a] [I] bC.size (λi v=>(bC.toList.map (·.2))[i]? =some v) (λi h=>h.get? I=some (jH (.int (oR t i:Nat) 0) i a bC.size ep)/\h.get? a=some o) where
 sub:=λb ai=>by simp at ai;simp[ai]
 frame:=λ_ _ _ st br=>⟨br I (by simp) _ st.1,br a (by simp) _ st.2⟩
 item:=λi s Q E hi st q=>by
  have hz:t.place.size=bC.size:=by simp only[SetTable.fits,qaU,beq_iff_eq] at bN;exact bN.1
  have mr:i<t.place.size:=by omega
  have ai:=Zcm (i:=i) g hz (by omega);refine Ziz (nx:=oR t (i+1)) (v:=(bC[i]).2) st.1 st.2 hd bN (λiN ce=>Zef hw st.2 hd bN bB ag iN ?_) λh' e b=>?_
  .rw[ai,qaX hi,qaX mr];have e:oR t (i+1)=t.place[i]+1:=by
    unfold oR;rw[if_neg (by omega)];simp[Array.getD,mr]
   rw[e] at ce;exact ce
  .exact q _ h' s.toks (by rw[qak,qbf,qaX hi];rfl) ⟨e,b.extBut a _ e0 st.2⟩ λlr cx ai b'=>b.extBut lr cx (λz=>ai (by simp[z])) b'
 done:=λs Q E st q=>by
  have hz:t.place.size=bC.size:=by simp only[SetTable.fits,qaU,beq_iff_eq] at bN;exact bN.1
  have ai:=Zcm (i:=bC.size) g hz (qab _);refine ZjZ b4 st.1 st.2 hd bN (λiN ce=>Zef hw st.2 hd bN bB ag iN ?_) λh' e=>q h' s.toks λb cx ai b'=>e b cx (λz=>ai (by simp[z])) b';rw[ai,Array.getElem?_eq_none (qab _)];exact ce
 self:=λ_ _ _ _ st q=>Zfo st.1 q
theorem Zh7(b4:A.handled=none)(I T:Addr)(e0:a≠I)(IN:T≠I)(hd:o.data= .set bC ep t)(bN:t.fits bC.size=true)(ord:List Nat)(bB:ord.Perm (List.range bC.size)):
  PySem.Walks prog w A I [I,a,T] [I] bC.size (λi v=>(ord.map λj=>(bC.getD j (0,.none)).2)[i]? =some v) (λi h=>h.get? I=some (jH (.ref T) i a bC.size ep)/\h.get? a=some o/\h.IsTuple T (ord.map λ(j:Nat)=>Value.int j 0).toArray) where
 sub:=λb ai=>by simp at ai;simp[ai]
 frame:=λ_ _ _ st br=>⟨br I (by simp) _ st.1,br a (by simp) _ st.2.1,let⟨x,e,r⟩:=st.2.2;⟨x,br T (by simp) _ e,r⟩⟩
 item:=λi s Q E hi st q=>by
  have ag:ord.length=bC.size:=by have:=bB.length_eq;simpa using this
  have mr:i<ord.length:=by omega
  have bw:ord[i]<bC.size:=by have:=bB.mem_iff.mp (GM mr);simpa using this
  have c4:(bC.getD ord[i] (0,Value.none))=bC[ord[i]]:=by simp[Array.getD,bw]
  refine Zm3 (pl:=ord[i]) (k:=(bC[ord[i]]).1) (v:=(bC[ord[i]]).2) st.1 st.2.2 (by simp[mr]) (by rw[qaX bw]) st.2.1 hd bN λh' e b=>?_;exact q _ h' s.toks (by rw[qak,GT mr];exact congrArg (λx=>some x.2) c4) ⟨e,b.extBut a _ e0 st.2.1,let⟨x,e,r⟩:=st.2.2;⟨x,b.extBut T _ IN e,r⟩⟩ λlr cx ai b'=>b.extBut lr cx (λz=>ai (by simp[z])) b'
 done:=λs Q E st q=>by
  have ag:ord.length=bC.size:=by have:=bB.length_eq;simpa using this
  exact Zow b4 st.1 st.2.2 (by simp[ag]) st.2.1 hd bN λh' e=>q h' s.toks λb cx ai b'=>e b cx (λz=>ai (by simp[z])) b'
 self:=λ_ _ _ _ st q=>Zfo st.1 q
end
section
variable {prog:Program}{w:World}{A:Around}{E:Value->Shared->Prop}{s:Shared}{a:Addr}{o:Obj}
theorem IP{b5:List Int}{Q:Value->Shared->Prop}(bJ:s.heap.get? a=some o)(dx:Zat (!w.params.followText "set-order") b5 o)
  (q:∀(I:Addr)(L:List Value)(s':Shared)(fp:List Addr)(St:Nat->Heap->Prop)(n:Nat),n=L.length->(∃ns:List Int,IntsAre L ns/\ns.Perm b5)->(∀b o,s.heap.get? b=some o->s'.heap.get? b=some o)->s'.gens=s.gens->s'.os=s.os->s'.toks=s.toks->
   (∀fX:Around,fX.handled=none->PySem.Walks prog w fX I fp [I] n (λi v=>L[i]? =some v) St)->St 0 s'.heap->s.heap.objs.size<=I->(∀b∈fp,b=a\/s.heap.objs.size<=b)->Q (.ref I) s'):wpAny (model prog w) A (pyIter (.ref a)) Q E s:=by
 obtain⟨g4,bC,ep,t,hd,oP,ai,bN,bG,bB⟩:=dx;have c1:s.TypeIs (.ref a) "set" :=⟨_,bJ,g4.1⟩;have cD:a<s.heap.objs.size:=Heap.lt_size bJ;have vJ:∀l:List (Int×Value),l.Perm bC.toList->∃ns:List Int,IntsAre (l.map (·.2)) ns/\ns.Perm b5:=λl pl=>by
  refine⟨l.map keyI,?_,(pl.map keyI).trans bB⟩;have ag:∀e∈l,∃n b1,e=(hashInt n,Value.int n b1):=λe bK=>oP e (pl.mem_iff.mp bK);clear pl
  induction l with
  |nil=>exact .nil
  |cons x l bQ=>
   obtain⟨n,b1,rfl⟩:=ag x (by simp);exact .cons n b1 (bQ λe bK=>ag e (by simp[bK]))
 refine wpAny_pyIter_slot c1 F.slot_set_iter (wpAny_call_entry F.slot_set_iter c1 IG ?_ (F.args_set_iter_1 _));unfold Builtin.«frozenset.__iter__» Builtin.Frozenset.sizeOf;refine wpAny_bind (m:=Builtin.Frozenset.slot0 _ _) (wpAny_pure ?_);refine wpAny_bind (wpAny_bind (wpAny_setEntries_of bJ hd bN (wpAny_pure ?_)));unfold setDrawn setsByText;refine wpAny_bind (wpAny_bind (wpAny_setState_of bJ hd bN ?_));dsimp only;refine wpAny_bind (wpAny_bind (wpAny_askSetting (wpAny_pure (wpAny_pure ?_))));show wpAny _ _ (if(!w.params.followText "set-order" &&(!t.plain&&decide (bC.size > 1)))=true then _ else _) _ _ _
 by_cases bv:(!w.params.followText "set-order" &&(!t.plain&&decide (bC.size > 1)))=true
 .rw[if_pos bv];refine wpAny_bind ?_;have ap:(List.range bC.size).length=bC.size:=qbo;have Az:=Aw (prog:=prog) (w:=w) (A:=A.in1) (E:=E) (List.range bC.size) s;rw[ap] at Az;refine Az _ λord d es=>?_;refine wpAny_bind ?_;simp only[newTuple];have sF:ord.length=bC.size:=by have:=es.length_eq;simpa using this
  refine wpAny_newObj_type ?_ ?_
  .refine wpAny_bind (wpAny_setEpoch_of (Heap.get?_push_of_some _ bJ) hd bN ?_);refine wpAny_bind (wpAny_newObj_type (wpAny_pure ⟨_,rfl,"set_iterator",_,⟨_,Heap.get?_push_size _ rfl,rfl⟩,qE.lookup,?_⟩));generalize vK:({cls:= .type "tuple",data:= .seq (List.map (λ(i:Nat)=>rawInt i) ord).toArray 0}:Obj)=oQ;have sG:(List.map (λj=>bC.getD j (0,Value.none)) ord).Perm bC.toList:=by
    refine(es.map _).trans ?_;have:(List.range bC.size).map (λj=>bC.getD j (0,Value.none))=bC.toList:=by
     refine qau (by simp) λi ak a'=>?_;have bL:i<bC.size:=by simpa using a'
     simp[Array.getD,bL]
    rw[this]
   have IQ:∀fX:Around,fX.handled=none->_:=λfX b4=>Zh7 (prog:=prog) (w:=w) (A:=fX) (a:=a) (o:=o) (ep:=ep) b4 (s.heap.objs.size+1) s.heap.objs.size (qap (qbg cD)) (qap (qbk _)) hd bN ord es;have qF:bC.size=(ord.map λj=>(bC.getD j (0,.none)).2).length:=by simp[sF]
   rw[show(s.heap.push oQ).objs.size=s.heap.objs.size+1 from Heap.size_push ..];refine q _ (ord.map λj=>(bC.getD j (0,.none)).2) _ [s.heap.objs.size+1,a,s.heap.objs.size] _ _ qF (by have:=vJ _ sG;rw[qaP] at this;exact this) (λb o e=>Heap.get?_push_of_some _ (Heap.get?_push_of_some _ e)) rfl rfl rfl (λfX b4=>IQ fX b4) ⟨?_,Heap.get?_push_of_some _ (Heap.get?_push_of_some _ bJ),?_⟩ (qb3 _) (λb ai=>?_)
   .have:=Heap.get?_push_size (o:=jH (.ref s.heap.objs.size) 0 a bC.size ep) (s.heap.push oQ) rfl;rw[show(s.heap.push oQ).objs.size=s.heap.objs.size+1 from Heap.size_push ..] at this;exact this
   .exact⟨oQ,Heap.get?_push_of_some _ (Heap.get?_push_size _ (by rw[<-vK];rfl)),by rw[<-vK],0,by rw[<-vK];rfl⟩
   .simp only[qah,qa2,or_false] at ai;rcases ai with rfl|rfl|rfl
    .exact .inr (qb3 _)
    .exact .inl rfl
    .exact .inr (qab _)
  .show(List.map _ ord).toArray.size<=sizeLine;rw[qaf,GE,sF];exact fits_of_scanBound ai
 .rw[if_neg bv];refine wpAny_bind (wpAny_pure ?_);refine wpAny_bind (wpAny_setEpoch_of bJ hd bN ?_);refine wpAny_bind (wpAny_newObj_type (wpAny_pure ⟨_,rfl,"set_iterator",_,⟨_,Heap.get?_push_size _ rfl,rfl⟩,qE.lookup,?_⟩));have hS:∀b∈[s.heap.objs.size,a],b=a\/s.heap.objs.size<=b:=λb ai=>by
   simp only[qah,qa2,or_false] at ai;rcases ai with rfl|rfl
   .exact .inr (qab _)
   .exact .inl rfl
  cases hw:w.params.followText "set-order" with
  |true=>
   have sG:=vG (w.params.setOrder a ep) bC;have qF:bC.size=((pickOrder (w.params.setOrder a ep) bC).toList.map (·.2)).length:=by have:=sG.length_eq;simpa using this.symm
   exact q _ _ _ _ _ _ qF (vJ _ sG) (λb o e=>Heap.get?_push_of_some _ e) rfl rfl rfl (λfX b4=>ZiM b4 _ (qap cD) hw hd bN) ⟨Heap.get?_push_size _ rfl,Heap.get?_push_of_some _ bJ⟩ (qab _) hS
  |false=>
   rw[hw] at bv bG;have qF:bC.size=(bC.toList.map (·.2)).length:=by simp
   exact q _ _ _ _ _ _ qF (vJ _ .rfl) (λb o e=>Heap.get?_push_of_some _ e) rfl rfl rfl (λfX b4=>ZhK b4 _ (qap cD) hw hd bN (by simpa using bv) bG.led bG) ⟨Heap.get?_push_size _ rfl,Heap.get?_push_of_some _ bJ⟩ (qab _) hS
end
section
variable {prog:Program}{w:World}{A:Around}{E:Value->Shared->Prop}{s:Shared}{a:Addr}{o:Obj}
theorem IR{Q:Bool->Shared->Prop}(c1:s.TypeIs (.ref a) "set")(q:Q false s):wpAny (model prog w) A (Builtin.List.listLengthHint (.ref a)) Q E s:=by
 unfold Builtin.List.listLengthHint;refine wpAny_bind (wpAny_specialOf c1 F.slot_set_len.lookup ?_);generalize hid:("set.__len__" :String)=id0
 wp_delta
 rw[show splitId id0=some ("set","__len__") from by subst hid;decide+kernel];subst hid;refine wpAny_bind (wpAny_isInstance (T:="set") (b:=true) c1 sub_set_self ?_);refine wpAny_ite_split (λz=>absurd z (by decide)) (λ_=>wpAny_ite_split (λ_=>?_) (λz=>absurd (by decide+kernel) z));exact wpAny_bind (wpAny_typeOf c1 (wpAny_pure q))
theorem IS{b5:List Int}{R:List Value->Shared->Prop}(b4:A.handled=none)(bJ:s.heap.get? a=some o)(dx:Zat (!w.params.followText "set-order") b5 o)(br:b5.length<=sizeLine)
  (q:∀(s':Shared)(L:List Value)(ns:List Int),IntsAre L ns->ns.Perm b5->(∀b o,s.heap.get? b=some o->s'.heap.get? b=some o)->s'.gens=s.gens->s'.os=s.os->R L s'):wpAny (model prog w) A (collect (.ref a)) R E s:=by
 have cD:a<s.heap.objs.size:=Heap.lt_size bJ;generalize en:({cls:= .type "list",data:= .seq ([]:List Value).toArray}:Obj)=N;have nC:(s.heap.push N).get? a=some o:=Heap.get?_push_of_some _ bJ;have qD:(s.heap.push N).get? s.heap.objs.size=some N:=Heap.get?_push_size _ (by rw[<-en];rfl);have IT:Shared.TypeIs {s with heap:=s.heap.push N} (.ref a) "set" :=⟨_,nC,dx.1.1⟩;unfold collect;refine wpAny_bind (wpAny_runValue (codeAny_builtin PySem.F.entry_proto_collect ?_));rw[Around.under_plainId PySem.F.plain_proto_collect _];refine wpAny_bind (m:=newList []) (wpAny_newObj_type ?_);refine wpAny_pure ⟨plainId_quiet PySem.F.plain_list_iadd _,codeAny_builtin PySem.F.entry_list_iadd ?_⟩;rw[Around.under_plainId PySem.F.plain_list_iadd _,en];show wpAny _ A.in1 (Builtin.List.listExtendWith (.ref s.heap.objs.size) (.ref a) (.ref s.heap.objs.size)) _ _ _;unfold Builtin.List.listExtendWith;refine wpAny_bind (wpAny_typeOf IT ?_);have ga:Builtin.List.listSameRef (.ref s.heap.objs.size) (.ref a)=false:=by simp[Builtin.List.listSameRef];exact qbY cD
 have f9:(Value.type "set" ==Value.type "list")=false:=by decide
 have pR:(Value.type "set" ==Value.type "tuple")=false:=by decide
 simp only[ga,f9,pR,Bool.or_false,Bool.false_eq_true,if_false];refine wpAny_bind (IP nC dx λI L bM fp St n j' qd kp eh IU dL W st oS hS=>?_);obtain⟨ns,hi,bB⟩:=qd;have nD:=kp _ _ qD;refine wpAny_bind (wpAny_holding (IR (a:=a) ⟨_,kp _ _ nC,dx.1.1⟩ ?_));have ny:s.heap.objs.size∉fp:=λz=>by
  rcases hS _ z with e|e
  .exact qbY cD e
  .rw[Heap.size_push] at e;exact absurd e (Nat.not_succ_le_self _)
 have Sc:s.heap.objs.size≠I:=λz=>by rw[<-z,Heap.size_push] at oS;exact absurd oS (Nat.not_succ_le_self _)
 have IV:=(W A.in1 b4).toS;have hX:n<=sizeLine:=by
  have ak:L.length=ns.length:=IntsAre.length hi;rw[j',ak,bB.length_eq];exact br
 have e_:∀(bL:Heap)(c:Nat),St 0 bL->(∀b o,s.heap.get? b=some o->bL.get? b=some o)->bL.get? s.heap.objs.size=some {cls:= .type "list",data:= .seq #[] c}->codeAny (model prog w) A (.builtin "list.extend.loop" ⟨[.ref s.heap.objs.size,.ref I,.ref s.heap.objs.size],[]⟩) (λr s'=>match r with| .ok (.ret v)=>v= .ref s.heap.objs.size/\∃c_ cU,s'.heap.get? s.heap.objs.size=some {cls:= .type "list",data:= .seq c_ cU}/\c_.toList=L/\(∀b o,s.heap.get? b=some o->s'.heap.get? b=some o)/\s'.gens=s.gens/\s'.os=s.os|_=>False) {bM with heap:=bL}:=by
  intro bL c ky IW dj;refine codeAny_extend_loopS IV hX _ ny _ n 0 _ #[] c rfl (qat _) ky dj (ItemsOf.nil _) λb2 c_ nE iP hA its=>⟨rfl,c_,nE,hA,?_,λb cx e=>iP.heap b cx (λz=>?_) (IW b cx e),iP.gens.trans eh,iP.os.trans IU⟩
  .refine List.ext_getElem? λj=>?_
   by_cases bw:j<n
   .have gb:j<c_.size:=by rw[its.1];exact bw
    rw[qbf,its.2 j _ (qaX gb),qaX gb]
   .rw[qa0 (by rw[qaQ,its.1];omega),qa0 (by rw[<-j'];omega)]
  .have ai:=Heap.lt_size e;rcases qah.mp z with z|z
   .exact qbr _ (z▸ai)
   .rw[qac.mp z] at ai;exact absurd (qaj (Nat.le_of_succ_le (by rw[Heap.size_push] at oS;exact oS)) (qab I)) (Nat.not_le_of_gt ai)
 refine wpAny_ite_split (λ_=>?_) (λ_=>wpAny_pure ⟨plainId_quiet qb8 _,codeAny_mono (e_ _ 0 st (λb o e=>kp b o (Heap.get?_push_of_some _ e)) (by rw[nD,<-en])) λr s' z=>?eg⟩)
 case eg=>
  rcases r with e|f
  .exact z.elim
  cases f with
  |ret v=>
   obtain⟨rfl,c_,cU,hA,iS,qG,ii,sE⟩:=z;refine wpAny_bind (wpAny_load hA (wpAny_pure ?_));rw[iS];exact q s' L ns hi bB qG ii sE
  |_=>exact z.elim
 refine wpAny_bind (wpAny_rule (wpAny_bind ?_));show wpAny _ _ (updateSeq s.heap.objs.size (·.push .none) >>= λ_=>updateSeq s.heap.objs.size (·.pop)) _ _ _;rw[<-en] at nD;refine wpAny_bind (wpAny_updateSeq nD rfl ?_);have kF:=Heap.get?_update_self (Obj.mapSeq (·.push Value.none)) nD rfl;refine wpAny_updateSeq (hz:=by seq_fits) kF rfl ?_;have AA:=Heap.get?_update_self (Obj.mapSeq (·.pop)) kF rfl;have oO:∀b o,b≠s.heap.objs.size->bM.heap.get? b=some o->((bM.heap.update s.heap.objs.size (Obj.mapSeq (·.push Value.none))).update s.heap.objs.size (Obj.mapSeq (·.pop))).get? b=some o:=λb o ai e=>
  (Heap.get?_update_other _ _ (qbO ai)).trans ((Heap.get?_update_other _ _ (qbO ai)).trans e)
 refine wpAny_pure ⟨plainId_quiet qb8 _,codeAny_mono (e_ _ _ ((W A b4).frame 0 _ _ st λb ai o e=>oO b o (λz=>ny (z▸ai)) e) (λb o e=>oO b o (qap (Heap.lt_size e)) (kp b o (Heap.get?_push_of_some _ e))) AA) λr s' z=>?_⟩;rcases r with e|f
 .exact z.elim
 cases f with
 |ret v=>
  obtain⟨rfl,c_,cU,hA,iS,qG,ii,sE⟩:=z;refine wpAny_bind (wpAny_load hA (wpAny_pure ?_));rw[iS];exact q s' L ns hi bB qG ii sE
 |_=>exact z.elim
end
section
theorem Zi1{l:List Int}{v:Int}(h:l.Nodup):(step_dedup l v).Nodup:=by
 unfold step_dedup
 split
 .exact h
 .rename_i z;refine qbA.mpr ⟨h,by simp,λa bD b ai e=>?_⟩;rw[qac.mp ai] at e;exact z (by rw[qb5];exact⟨a,bD,by simp[e]⟩)
theorem AB(val:Nat->Int):∀i,(firstMet val i).Nodup
 |0=>by rw[firstMet_zero];exact .nil
 |i+1=>by rw[firstMet_succ];exact Zi1 (AB val i)
theorem Zmv(ns:List Int){x:Int}:x∈firstMet (λi=>ns.getD i 0) ns.length↔x∈ns:=by
 have h:=firstMet_any (λi=>ns.getD i 0) ns.length x;have e:(List.range ns.length).map (λi=>ns.getD i 0)=ns:=by
  refine qau (by simp) λi ak a'=>?_;simp[List.getD,a']
 rw[e] at h;have a1:∀l:List Int,(l.any (· ==x))=true↔x∈l:=λl=>by simp
 rw[<-a1,h,a1]
theorem IX{l:List Int}(h:l.Pairwise (· <=·))(n:l.Nodup):l.Pairwise (· < ·):=by
 refine(List.pairwise_and_iff.mpr ⟨h,n⟩:l.Pairwise λa b=>a<=b/\a≠b).imp λz=>?_;omega
variable {X:Cx}{K:Frag}
def Few(ns:List Int):Prop:=ns.length<64\/(ns.length<=1000/\∀l:List Int,l.Nodup->(∀x∈l,x∈ns)->l.length<64)
def ZdR (K:Frag):V->Hp->VK->Prop:=λx H Q=>∃(l:Addr)(ns:List Int),x= .ref l/\SqL K H l (ns.map V.int)/\Few ns/\∀(p:Addr)(ms:List Int),H p=none->ms.Pairwise (· < ·)->(∀x,x∈ms↔x∈ns)->Q (.ref p) (upd H p (.lst (ms.map V.int)))
def AC (K:Frag) (b9:TA):TE:=λaf H Q=>b9 af H λvs a_=>∃x,vs=[x]/\ZdR K x a_ Q
theorem IY{a:Expr}{b9:TA}{p fc pos nv:Pos}(eD:X.K=K)(bv:X.calm=true)(hV:Gl X "sorted")(hW:X.mg "sorted" =none)(bG:Gl X "set")(bz:X.mg "set" =none)(bD:PA X [a] b9)
  (hs:starEach [a] X.env=[(false,eval a X.env)]:=by rfl)
  (bK:starEach [Expr.Call (.Name "set" p) [a] [] pos] X.env=(false,eval (.Call (.Name "set" p) [a] [] pos) X.env)::starEach [] X.env:=by rfl):
  PE X (.Call (.Name "sorted" fc) [.Call (.Name "set" p) [a] [] pos] [] nv) (AC K b9):=by
 subst eD;intro aj s af H Q I h;refine Call_ (h8 I hV hW PyProof.Rows.boot_sorted ?_);refine qbD ?_ bK;rw[bK];show wpAny _ _ (spliced ((false,eval (.Call (.Name "set" p) [a] [] pos) X.env):: [])) _ _ s;refine Calls.spliced_cons (Call_ (h8 I bG bz boot_set (qaM (thn (bD pos aj s af H _ I h) λus bu ⟨vs,a_,bT,cq,ce⟩=>?_) hs rfl)));obtain⟨x,e,l,ns,rfl,cr,ai,q⟩:=ce;subst e;obtain⟨u,rfl,b3⟩:=WB cq;cases b3;obtain⟨its,c',pl,hz⟩:=bT.list cr;have hi:=ow c';have hsz:its.toArray.size=ns.length:=by have:=c'.length;simpa using this.symm
 have fY:its.toArray.size+1<scanBound:=by rw[hsz];unfold scanBound;rcases ai with z|⟨z,_⟩<;>omega
 refine Zli (bT.ok.hd bv) pl.isList hi fY λh' b1 o bJ dx br=>?_;rw[hsz] at dx;refine Calls.spliced_nil ?_;have k1:∀b o,bu.heap.get? b=some o->h'.get? b=some o:=λb o e=>br b o (Heap.lt_size e) e;have cC:Inv X aj af a_ {bu with heap:=h',toks:=b1}:=bT.kept k1;generalize lw:firstMet (λi=>ns.getD i 0) ns.length=M at dx;have AD:M.Nodup:=by rw[<-lw];exact AB _ _
 have AE:∀x,x∈M↔x∈ns:=λx=>by rw[<-lw];exact Zmv ns
 have IZ:M.length<64:=by
  rcases ai with z|⟨_,z⟩
  .have:M.length<=ns.length:=by rw[<-lw];exact Zj6 _ _
   omega
  .exact z M AD λx bp=>(AE x).mp bp
 refine Calls.call_function_entry kind_sorted plain_sorted entry_sorted (args_sorted1 _) ?_;unfold Builtin.«sorted»;refine wpAny_bind (m:=checkCount "sorted" 1 1 _) (wpAny_pure ?_);refine wpAny_bind (IS (A:=X.A.in1) (I.ok.hd bv) bJ dx (qbt (dm (n:=M.length) (by omega))) λbR L ms qH g6 k3 g3 g5=>?_);obtain⟨bL,sH,qI,AF,Sd⟩:=bR;dsimp only at k3 g3 g5|-;subst g3 g5;have AG:∀b o,bu.heap.get? b=some o->bL.get? b=some o:=λb o e=>k3 b o (k1 b o e);have dw:Inv X aj af a_ {bu with heap:=bL,gens:=bu.gens,drawn:=qI,toks:=AF}:=bT.call (ch:=[]) (Un.kept AG) (bT.hok.kept AG) bT.bare (λ_ z=>nomatch z);have ag:L.length=ms.length:=IntsAre.length qH;have fe:ms.length<64:=by rw[g6.length_eq];exact IZ
 refine wpAny_bind (wpAny_newList ?_ (qbt (dm (n:=L.length) (by omega))));have lg:(bL.push (seqObj "list" L.toArray 0)).get? bL.objs.size=some (seqObj "list" L.toArray 0):=Heap.get?_push_size _ rfl;refine wpAny_bind (wpAny_holding (wpAny_call_entry slot_list_sort ⟨_,lg,rfl⟩ entry_list_sort (list_sort_tree lg qH (by omega) λout oT a1 a2 a3=>⟨_,rfl,?_⟩) (args_list_sort _)));refine wpAny_pure ⟨_,rfl,?_⟩;obtain⟨e,I0⟩:=sortedHeap_at (out:=out) lg;have gH:=r' a1;have es:oT.Perm M:=a2.trans g6;refine⟨.ref bL.objs.size,_,dw.laid (a:=bL.objs.size) (o:= .lst (oT.map V.int)) (t':=AF) (λb o fY=>?_) (qab _) ⟨by rw[GE,a2.length_eq];exact qbt (dm (n:=ms.length) (by omega)),out.toList,e,gH,by simpa using I0⟩,rfl,q _ oT (dw.hok.fresh (qab _)) (IX a3 (es.nodup_iff.mpr AD)) λx=>es.mem_iff.trans (AE x)⟩;have cD:=Heap.lt_size fY;rw[sortedHeap_old (qap cD) (by rw[size_push'];exact qbg cD)];exact Heap.get?_push_of_some _ fY
end
namespace Rd
section
variable {K:Frag}{af:St}{H:Hp}{Q:VK}
theorem Zo9{b9:TA}(h:b9 af H λvs a_=>∃x,vs=[x]/\ZdR K x a_ Q):AC K b9 af H Q:=h
theorem ZoU{l:Addr}{ns:List Int}(h:SqL K H l (ns.map V.int))(ag:ns.length<64)(q:∀(p:Addr)(ms:List Int),H p=none->ms.Pairwise (· < ·)->(∀x,x∈ms↔x∈ns)->Q (.ref p) (upd H p (.lst (ms.map V.int)))):∃x,[V.ref l]=[x]/\ZdR K x H Q:=⟨_,rfl,l,ns,rfl,h,.inl ag,q⟩
end
end Rd
section
variable {X:Cx}{K:Frag}
def rSetDef:V->List V->Hp->VK->Prop:=λx vs H Q=>∃(a:Addr)(kvs:List (Key×V))(i:Int)(v:V),x= .ref a/\vs=[.int i,v]/\H a=some (.dK kvs)/\kvs.length<sizeLine/\(∀y,valV kvs (Sum.inl i)=some y->Q y H)/\(valV kvs (Sum.inl i)=none->Q v (upd H a (.dK (d_ kvs (Sum.inl i) v))))
theorem I1:MtR X "dict.setdefault" rSetDef:=by
 intro aj s af H x xs v us Q I b3 rs h;obtain⟨a,kvs,i,y,rfl,rfl,bD,ag,ce,cG⟩:=h;cases b3;obtain⟨u,t,rfl,d8,rt⟩:=rs.two;obtain⟨z,hd,vs,rel,dd⟩:=ZbS I.hok bD;have br:(ec X.prog X.w).is (Sum.inl i) u=true:=me (k:=Sum.inl i) d8;refine call_meetsIn PySem.F.slot_dict_setdefault dd.typeIs PySem.F.entry_dict_setdefault (PySem.F.args_dict_setdefault_3 _ _ _) (kt_meets_setdefault (ec X.prog X.w) a br hd t) ⟨vs,dd,by rw[<-rel.length];exact z,λw hw=>?_,λbH h' dd' hs=>?_⟩
 .cases e:valV kvs (Sum.inl i) with
  |none=>have:=rel.val (Sum.inl i:Key);rw[e,hw] at this;exact nomatch this
  |some gR=>
   obtain⟨kr,a',cN⟩:=gU.some_of (v:=gR) (o:=valueAt vs (Sum.inl i)) (by rw[<-e];exact rel.val _);rw[hw] at a';cases a';exact⟨gR,H,I.tok _,cN,ce gR e⟩
 .have bB:(d_ kvs (Sum.inl i) y).length<=sizeLine:=by have:=Vh kvs (Sum.inl i:Key) y;omega
  have bK:∃q,h'.get? a=some q:=let⟨q,_,_,cr,_⟩:=dd';⟨q,cr⟩
  exact⟨y,_,p' (t':=s.toks+1) I (by rw[bD];exact True.intro) hs bK (sd bB hd (rel.put (Sum.inl i) rt) dd'),rt,cG (by
   cases e:valV kvs (Sum.inl i) with
   |none=>rfl
   |some w=>have:=rel.val (Sum.inl i:Key);rw[e,bH] at this;exact nomatch this)⟩
def rMinD:List V->Hp->VK->Prop:=λxs H Q=>∃(a:Addr)(kvs:List (Key×V))(b5:List Int),xs=[V.ref a]/\Rd H a (.dK kvs)/\kvs.map (·.1)=b5.map Sum.inl/\0<kvs.length/\∀M,M∈b5->(∀b∈b5,M<=b)->Q (.int M) H
theorem Zks(bv:X.calm=true):YW X (.builtin "min") rMinD:=by
 intro aj s af H xs us Q I r h;obtain⟨a,kvs,b5,rfl,bD,jI,cd,q⟩:=h;obtain⟨u,rfl,d8⟩:=WB r;cases d8;obtain⟨z,hd,vs,rel,dd⟩:=Vt I.hok bD;obtain⟨ep,et⟩:=dd.dictAt;have gw:kvs.length=b5.length:=by have:=congrArg List.length jI;simpa using this
 have qJ:vs.length=b5.length:=by rw[<-rel.length,gw]
 have cD:a<s.heap.objs.size:=et.lt_size;have e_:∀(j:Nat)(v:Value),(∃k x,vs[j]? =some (k,x)/\(ec X.prog X.w).is k v=true)->∃t,v= .int (b5.getD j 0) t:=by
  rintro j v ⟨k,x,bp,bS⟩;obtain⟨l5,gH⟩:=rel.at bp;have bw:(kvs.map (·.1))[j]? =some k:=by rw[qak,gH];rfl
  rw[jI,qak] at bw;cases e:b5[j]? with
  |none=>rw[e] at bw;cases bw
  |some n=>
   rw[e] at bw;cases bw;have j':b5.getD j 0=n:=by simp[List.getD,e]
   rw[j'];exact Value.isInt_shape bS
 refine call_min_walk (wpAny_pyIter_dict hd et ?_);refine⟨s.heap.objs.size,[s.heap.objs.size,a],[s.heap.objs.size],_,_,_,_,rfl,PySem.Walks.dictKeys (A:=X.A.in1) (knd:=ec X.prog X.w) (I.ok.hd bv) _ a (qap cD) vs ep,⟨⟨_,Heap.get?_push_size _ rfl,rfl,rfl⟩,et.push _⟩,λb ai=>?_,by omega,CmpOf.ints_lt (λi=>b5.getD i 0) e_,λv h' b1 d5 br=>?_⟩
 .show b<(s.heap.push _).objs.size;rw[Heap.size_push];rcases qah.mp ai with rfl|ai
  .exact qbk _
  .rw[qac.mp ai];exact qbg cD
 .obtain⟨t,rfl⟩:=e_ _ _ d5;obtain⟨ak,a'⟩:=argBest_lt (λi=>b5.getD i 0) (vs.length-1);refine⟨.int _,H,I.kept (vo br),⟨t,rfl⟩,q _ ?_ λb ai=>?_⟩
  .have fe:argBest (λi j=>decide (b5.getD i 0<b5.getD j 0)) (vs.length-1)<b5.length:=by omega
   rw[qa5,GT fe];exact GM fe
  .obtain⟨j,bw,rfl⟩:=qan ai;have:=a' j (by omega);have e:b5.getD j 0=b5[j]:=by simp[List.getD,bw]
   rw[<-e];exact this
theorem vL(bv:X.calm=true):YW X (.builtin "min") rMinD:=Zks bv
end
namespace Rd
section
variable {H:Hp}{Q:VK}
theorem Zpk{a:Addr}{kvs:List (Key×V)}{b5:List Int}(h:H a=some (.dK kvs))(e:kvs.map (·.1)=b5.map Sum.inl)(cd:0<kvs.length)(q:∀M,M∈b5->(∀b∈b5,M<=b)->Q (.int M) H):rMinD [.ref a] H Q:=⟨a,kvs,b5,rfl,.inl h,e,cd,q⟩
theorem ZnY{a:Addr}{kvs:List (Key×V)}{b5:List Int}(h:L2.Rd H a (.dK kvs))(e:kvs.map (·.1)=b5.map Sum.inl)(cd:0<kvs.length)(q:∀M,M∈b5->(∀b∈b5,M<=b)->Q (.int M) H):rMinD [.ref a] H Q:=⟨a,kvs,b5,rfl,h,e,cd,q⟩
theorem Zor{a:Addr}{kvs:List (Key×V)}{i:Int}{v:V}(h:H a=some (.dK kvs))(ag:kvs.length<sizeLine)(ce:∀y,valV kvs (Sum.inl i)=some y->Q y H)(cG:valV kvs (Sum.inl i)=none->Q v (upd H a (.dK (d_ kvs (Sum.inl i) v)))):rSetDef (.ref a) [.int i,v] H Q:=⟨a,kvs,i,v,rfl,rfl,h,ag,ce,cG⟩
end
end Rd
section
variable {X:Cx}
def rIndexI:V->List V->Hp->VK->Prop:=λx vs H Q=>∃(l:Addr)(ns:List Int)(n:Int)(j:Nat),x= .ref l/\vs=[.int n]/\H l=some (.lst (ns.map V.int))/\ns[j]? =some n/\(∀m<j,ns[m]? ≠some n)/\Q (.int j) H
theorem vM:MtM X "list.index" rIndexI:=by
 intro aj s af H x vs v us Q I b3 c' h;obtain⟨l,ns,n,j,rfl,rfl,gZ,bw,ic,q⟩:=h;cases b3;obtain⟨u,rfl,d4,rfl⟩:=WB c';obtain⟨z,its,c,r,ag,e⟩:=I.lstM gZ;have hC:=(qaa.mp bw).1;have d9:=r.length;rw[GE] at d9;have at_:∀(m:Nat)(bz:m<its.toArray.size),∃t,its.toArray[m]=Value.int (ns[m]'(by simp at bz;omega)) t:=λm bz=>by
  have g7:m<ns.length:=by simp at bz;omega
  obtain⟨u,hu,t,bX⟩:=r.get (show(ns.map V.int)[m]? =some (V.int ns[m]) by simp[g7]);refine⟨t,?_⟩;have:=(qaa.mp hu).2;simp only[List.getElem_toArray,this,bX]
 have bH:=lp;refine call_meets F.slot_list_index ⟨_,e,rfl⟩ F.entry_list_index (F.args_list_index_2 _ _) (PySem.SeqAt.list_indexAt l its.toArray c _ _ (.int n d4) (λy=>match y with| .int i _=>i==n|_=>false) j (by simp;omega) (by rw[GE] at z;omega) ?_ ?_) ⟨e,λy bO=>?_,?_⟩
 .obtain⟨t,bX⟩:=at_ j (by simp;omega);rw[bX];have:=(qaa.mp bw).2;simp[this]
 .intro m bz qz;obtain⟨t,bX⟩:=at_ m bz;rw[bX];have g7:m<ns.length:=by simp at bz;omega
  have:=ic m qz;rw[GT g7] at this;simpa using this
 .obtain⟨m,bz,qK⟩:=qan (List.mem_toArray.mp bO);obtain⟨t,bX⟩:=at_ m (by simpa using bz);have:y=Value.int (ns[m]'(by omega)) t:=by rw[<-qK,<-bX];simp
  rw[this];exact PySem.SeqAt.EqAt.int_int _ _ _ _
 .exact⟨.int j,H,I.tok _,⟨_,rfl⟩,q⟩
def I2 (el:TE):TE:=λaf H Q=>el af H λx a_=>∃a kvs,x= .ref a/\Rd a_ a (.dK kvs)/\∀l,a_ l=none->Q (.ref l) (upd a_ l (.lst (kvs.map (·.2))))
theorem I3{d:Expr}{el:TE}{p pos dA dD:Pos}(bv:X.calm=true)(hV:Gl X "list")(hW:X.mg "list" =none)(hd:PE X d el)(j2:attributeBase d "values" X.env (eval d X.env)=eval d X.env:=by rfl)(j3:(dA.endLine==dD.line)=true:=by rfl)
  (bK:starEach [Expr.Call (.Attribute d "values" dA) [] [] dD] X.env=(false,eval (.Call (.Attribute d "values" dA) [] [] dD) X.env)::starEach [] X.env:=by rfl):
  PE X (.Call (.Name "list" p) [.Call (.Attribute d "values" dA) [] [] dD] [] pos) (I2 el):=by
 intro aj s af H Q I h;refine wpAny_Call_Name_kw (h8 I hV hW boot_list ?_);refine qaM ?_ bK rfl;rw[bK];show wpAny _ _ (spliced ((false,eval (.Call (.Attribute d "values" dA) [] [] dD) X.env):: [])) _ _ s;refine Calls.spliced_cons (wpAny_Call_method0_late j2 j3 (thn (hd aj s af H _ I h) λv bu ⟨x,a_,bT,cq,ce⟩=>?_));obtain⟨a,kvs,rfl,ap,q⟩:=ce;cases cq;obtain⟨z,kJ,vs,rel,dd⟩:=Vt bT.hok ap;obtain⟨ep,et⟩:=dd.dictAt;refine⟨"dict","dict.values",qbh,qbs,qcb,dd.typeIs,dd.mapOf.noDict,Calls.callWith_builtin rfl (qb9 ?_)⟩;refine call_meetsIn qbs dd.typeIs qb7 (qb4 _) (meets_dict_values (ec X.prog X.w) a kJ) ⟨⟨vs,dd⟩,?_⟩;refine Calls.spliced_nil ?_;refine kdl_call (PySem.W.kdl_values (knd:=ec X.prog X.w) (d:=a) (kvs:=vs) (ep:=ep)) (bT.ok.hd bv) ⟨⟨_,Heap.get?_push_size _ rfl,rfl,rfl⟩,et.push _⟩ (by rw[<-rel.length];exact z) λh' b1 c_ c br kD hB=>?_;have cC:Inv X aj af a_ {bu with heap:=bu.heap.push {cls:= .type "dict_values",data:= .fields #[.ref a]}}:=bT.kept (t':=bu.toks) λb o e=>Heap.get?_push_of_some _ e;refine⟨.ref (bu.heap.push {cls:= .type "dict_values",data:= .fields #[.ref a]}).objs.size,_,cC.laid (a:=(bu.heap.push {cls:= .type "dict_values",data:= .fields #[.ref a]}).objs.size) (o:= .lst (kvs.map (·.2))) (t':=b1) br (qab _) ⟨by rw[GE];exact z,c_.toList,c,?_,by simpa using kD⟩,rfl,q _ (cC.hok.fresh (qab _))⟩;refine qw (by rw[qaQ,hB.1,GE,rel.length]) λj v u bE bP=>?_;obtain⟨k,bp⟩:=hB.2 j u (by rw[<-qbf];exact bP);rw[qak] at bE;cases e1:kvs[j]? with
 |none=>rw[e1] at bE;cases bE
 |some kv=>
  rw[e1] at bE;cases bE;obtain⟨ko,fM,d8⟩:=rel.fwd e1;rw[bp] at fM;cases fM;exact d8
theorem AH(ns:List Int):∀j≤ns.length,preSum (λi=>ns.getD i 0) j=(ns.take j).sum
 |0,_=>by simp[preSum]
 |j+1,h=>by
  have bw:j<ns.length:=h;rw[preSum,AH ns j (by omega),qad bw,List.sum_append];simp[List.getD,bw]
def I4 (el:TE):TE:=λaf H Q=>el af H λx a_=>∃(a:Addr)(kvs:List (Key×V))(ns:List Int),x= .ref a/\Rd a_ a (.dK kvs)/\kvs.map (·.2)=ns.map V.int/\Q (.int ns.sum) a_
theorem I5{d:Expr}{el:TE}{p pos dA dD:Pos}(bv:X.calm=true)(hV:Gl X "sum")(hW:X.mg "sum" =none)(hd:PE X d el)(j2:attributeBase d "values" X.env (eval d X.env)=eval d X.env:=by rfl)(j3:(dA.endLine==dD.line)=true:=by rfl)
  (bK:starEach [Expr.Call (.Attribute d "values" dA) [] [] dD] X.env=(false,eval (.Call (.Attribute d "values" dA) [] [] dD) X.env)::starEach [] X.env:=by rfl):
  PE X (.Call (.Name "sum" p) [.Call (.Attribute d "values" dA) [] [] dD] [] pos) (I4 el):=by
 intro aj s af H Q I h;refine wpAny_Call_Name_kw (h8 I hV hW boot_sum ?_);refine qbD ?_ bK rfl;rw[bK];show wpAny _ _ (spliced ((false,eval (.Call (.Attribute d "values" dA) [] [] dD) X.env):: [])) _ _ s;refine Calls.spliced_cons (wpAny_Call_method0_late j2 j3 (thn (hd aj s af H _ I h) λv bu ⟨x,a_,bT,cq,ce⟩=>?_));obtain⟨a,kvs,ns,rfl,ap,jc,q⟩:=ce;cases cq;obtain⟨z,kJ,vs,rel,dd⟩:=Vt bT.hok ap;obtain⟨ep,et⟩:=dd.dictAt;refine⟨"dict","dict.values",qbh,qbs,qcb,dd.typeIs,dd.mapOf.noDict,Calls.callWith_builtin rfl (qb9 ?_)⟩;refine call_meetsIn qbs dd.typeIs qb7 (qb4 _) (meets_dict_values (ec X.prog X.w) a kJ) ⟨⟨vs,dd⟩,?_⟩;refine Calls.spliced_nil ?_;have cC:Inv X aj af a_ {bu with heap:=bu.heap.push {cls:= .type "dict_values",data:= .fields #[.ref a]}}:=bT.kept (t':=bu.toks) λb o e=>Heap.get?_push_of_some _ e;have cD:a<(bu.heap.push {cls:= .type "dict_values",data:= .fields #[.ref a]}).objs.size:=(et.push _).lt_size;refine call_sum_walkG (wpAny_pyIter_values (knd:=ec X.prog X.w) (d:=a) (kvs:=vs) (ep:=ep) ⟨_,Heap.get?_push_size _ rfl,rfl,rfl⟩ (et.push _) ?_);have ag:=rel.length;have hX:ns.length=vs.length:=by have:=congrArg List.length jc;simp at this;omega
 refine⟨_,_,_,vs.length,_,_,λi=>ns.getD i 0,rfl,PySem.Walks.dictValues (A:=X.A.in1) (bT.ok.hd bv) _ a (qap cD) vs ep,⟨⟨_,Heap.get?_push_size _ rfl,rfl,rfl⟩,(et.push _).push _⟩,λb ai=>?_,λi v ⟨k,br⟩=>?_,λh' b1 t' br=>?_⟩
 .rw[Heap.size_push];rcases qah.mp ai with e|ai
  .rw[e];exact qbk _
  .rw[qac.mp ai];exact qbg cD
 .obtain⟨l5,gH⟩:=rel.at br;have hi:i<ns.length:=by have:=(qaa.mp br).1;omega
  have bE:(kvs.map (·.2))[i]? =some l5:=by rw[qak,gH];rfl
  rw[jc,qak,GT hi] at bE;obtain⟨ko,fM,d8⟩:=rel.fwd gH;rw[br] at fM;cases fM;have bP:V.int ns[i]=l5:=qam bE;have I6:cL (V.int ns[i]) v:=by rw[bP];exact d8
  obtain⟨t,rfl⟩:=I6;exact⟨t,by simp[List.getD,hi]⟩
 .have bC:preSum (λi=>ns.getD i 0) vs.length=ns.sum:=by
   rw[<-hX,AH ns ns.length (qab _),qaD]
  rw[bC];refine⟨.int ns.sum,a_,cC.kept (t':=b1) (λb o e=>br b o (λbz=>?_) (Heap.get?_push_of_some _ e)),⟨_,rfl⟩,q⟩;rw[qac.mp bz] at e;exact qbr _ (Heap.lt_size e)
end
noncomputable def Itk (d:Addr) (o:Obj) (kvs:List (Key×V)):It:=
 ⟨λi H=>H d=some (.frz o (.dK kvs))/\i<kvs.length,λi H x ae=>ae=H/\∃kv,kvs[i]? =some kv/\x=kV kv.1,λi H=>H d=some (.frz o (.dK kvs))/\kvs.length<=i⟩
section
variable {P:Program}{w:World}{K:Frag}
theorem I7{cV:Expr}(d it:Addr)(o:Obj)(kvs:List (Key×V))(vs:List (Key×Value))(ep:Nat)(rel:KV kvs vs)(hd:∀h:Heap,h.get? d=some o->h.DictAt (ec P w) d vs ep):Zas P w K cV (Itk d o kvs) [it] it (λi h=>h.IsKeyIter it d i vs.length ep) where
 mem:=by simp
 obj:=λi h st b ai=>by
  have e:b=it:=by simpa using ai
  subst e;obtain⟨o,e,c,dd⟩:=st;exact⟨o,e,λv z=>by rw[dd] at z;cases z⟩
 keep:=λi h h' st k=>st.at λo q=>k it (by simp) o q
 item:=by
  intro X d5 hw eD bv i aj s af H E I bN st bG;subst d5 hw eD;obtain⟨bK,hi⟩:=bG;have bJ:=(show Z5 X.prog X.w H s.heap d (.frz o (.dK kvs)) from I.hok d _ bK).1;obtain⟨dR,f1,f2,dh,d0,d6⟩:=bN it (by simp);obtain⟨u,hu,d8⟩:=rel.fwd (GT hi);refine wpAny_pyNext_dict_item st (hd _ bJ) hu λe_ h' pZ iG h_=>?_;have bT:Inv X aj af H {s with heap:=h',toks:=s.toks}:=I.turned (t':=s.toks) (λb q ai e=>(h_.2 b ai).trans e) dR f1 dh d0 d6;obtain⟨q,e,c,dd⟩:=id iG;exact⟨_,rfl,pT (s:={s with heap:=h',toks:=s.toks}) e c dd (by decide) ⟨_,H,bT,vt pZ,⟨rfl,kvs[i],GT hi,rfl⟩,iG,λb ai=>(bN b ai).1⟩⟩
 done:=by
  intro X d5 hw eD bv i aj s af H E I bN st bG;subst d5 hw eD;obtain⟨bK,hi⟩:=bG;have bJ:=(show Z5 X.prog X.w H s.heap d (.frz o (.dK kvs)) from I.hok d _ bK).1;obtain⟨dR,f1,f2,dh,d0,d6⟩:=bN it (by simp);exact wpAny_pyNext_dict_end (I.ok.hd bv) st (hd _ bJ) (qa0 (by rw[<-rel.length];exact hi)) λh' c0=>⟨rfl,I.turned (t':=s.toks) (λb q ai e=>c0 b q ai e) dR f1 dh d0 d6⟩
 self:=λ_ _ _ _ _ st h=>wpAny_pyIter_keyiter st h
end
section
variable {X:Cx}{cV:Expr}
def I8 (el:TE):TI:=λaf H R=>el af H λx a_=>∃a kvs,x= .ref a/\Rd a_ a (.dK kvs)/\∀o,R (Itk a o kvs) (upd a_ a (.frz o (.dK kvs)))
theorem I9{d:Expr}{el:TE}(hd:PE X d el):PI X cV d (I8 el):=by
 intro aj s af H R I h;refine thn (hd aj s af H _ I h) λv bu ⟨x,a_,bT,cq,ce⟩=>?_;obtain⟨a,kvs,rfl,ap,q⟩:=ce;cases cq;obtain⟨z,kJ,vs,rel,dd⟩:=Vt bT.hok ap;obtain⟨ep,et⟩:=dd.dictAt;obtain⟨o,bJ,cC⟩:=bT.freeze ap;have nw:∀h:Heap,h.get? a=some o->h.DictAt (ec X.prog X.w) a vs ep:=λh e=>et.at' λcx b'=>by rw[bJ] at b';cases b';exact e
 refine wpAny_pyIter_dict (knd:=ec X.prog X.w) kJ et ?_;refine⟨bu.heap.objs.size,[bu.heap.objs.size],_,_,_,rfl,cC.kept (t':=bu.toks) λb o e=>Heap.get?_push_of_some _ e,I7 a _ o kvs vs ep rel nw,⟨_,Heap.get?_push_size _ rfl,rfl,rfl⟩,λb ai=>?_,q o⟩;rw[qac.mp ai];exact cC.fpOk (qab _) (cC.hok.fresh (qab _))
theorem I_{d:Addr}{o:Obj}{kvs:List (Key×V)}{H:Hp}(h:H d=some (.frz o (.dK kvs))):UU (Itk d o kvs) kvs.length (λi ae v bt=>bt=ae/\∃kv,kvs[i]? =some kv/\v=kV kv.1) H:=
 ⟨λae i e hi=>⟨e _ _ h,hi⟩,λae i x bt e hi y=>y,λae e=>⟨e _ _ h,qab _⟩⟩
theorem AI{o e f:Expr}{dA dD:Pos}{el ty nb:TE}(hu:HU X.A)(bJ:PE X o el)(bK:PE X e ty)(bN:PE X f nb)(m:M2 X o "get" dA e f dD):PE X (.Call (.Attribute o "get" dA) [e,f] [] dD) (zz el ty nb):=
 Zlu (by have:X.A.units+64<cLine:=hu;omega) bJ bK bN m
end
section
variable {X:Cx}
def AJ (K:Frag):List V->Hp->VK->Prop:=λxs H Q=>∃(a:Addr)(b5:List Int),xs=[V.ref a]/\SqL K H a (b5.map V.int)/\b5.length<64/\∀(l:Addr)(ns:List Int),H l=none->ns.Perm b5->ns.Pairwise (· <=·)->Q (.ref l) (upd H l (.lst (ns.map V.int)))
theorem I'{K:Frag}(eD:X.K=K):YW X (.builtin "sorted") (AJ K):=by
 subst eD;intro aj s af H xs us Q I r h;obtain⟨a,b5,rfl,bD,Ja,q⟩:=h;obtain⟨u,rfl,d8⟩:=WB r;cases d8;obtain⟨its,c',pl,hz⟩:=I.list bD;have qd:=ow c';have ag:its.length=b5.length:=by have:=c'.length;simpa using this.symm
 obtain⟨o,bJ,ew,n,Jb⟩:=pl.isList;have vN:b5.length<=sizeLine:=qbt (dm (n:=b5.length) (by omega));refine Calls.call_function_entry kind_sorted plain_sorted entry_sorted (args_sorted1 _) ?_;unfold Builtin.«sorted»;refine wpAny_bind (m:=checkCount "sorted" 1 1 _) (wpAny_pure ?_);refine wpAny_bind (wpAny_collect_seq a (.inl rfl) bJ ew Jb (λh' br=>?_) (by rw[qaf,ag];exact vN));rw[List.toList_toArray];refine wpAny_bind (wpAny_newList ?_ (by rw[ag];exact vN));have lg:(h'.push (seqObj "list" its.toArray 0)).get? h'.objs.size=some (seqObj "list" its.toArray 0):=Heap.get?_push_size _ rfl;have bT:Inv X aj af H {s with heap:=h'}:=I.kept br;refine wpAny_bind (wpAny_holding (wpAny_call_entry slot_list_sort ⟨_,lg,rfl⟩ entry_list_sort (list_sort_tree lg qd (by rw[ag];exact Ja) λout oT a1 a2 a3=>⟨_,rfl,?_⟩) (args_list_sort _)));refine wpAny_pure ⟨_,rfl,?_⟩;obtain⟨e,bK⟩:=sortedHeap_at (out:=out) lg;have gH:=r' a1;refine⟨.ref h'.objs.size,_,bT.laid (a:=h'.objs.size) (o:= .lst (oT.map V.int)) (t':=s.toks) (λb o fY=>?_) (qab _) ⟨by rw[GE,a2.length_eq];exact vN,out.toList,e,gH,by simpa using bK⟩,rfl,q _ oT (bT.hok.fresh (qab _)) a2 a3⟩;have cD:=Heap.lt_size fY;rw[sortedHeap_old (qap cD) (by rw[size_push'];exact qbg cD)];exact Heap.get?_push_of_some _ fY
end
namespace Rd
section
variable {K:Frag}{H:Hp}{Q:VK}
theorem ZoA{a:Addr}{b5:List Int}(h:SqL K H a (b5.map V.int))(ag:b5.length<64)(q:∀(l:Addr)(ns:List Int),H l=none->ns.Perm b5->ns.Pairwise (· <=·)->Q (.ref l) (upd H l (.lst (ns.map V.int)))):AJ K [V.ref a] H Q:=⟨a,b5,rfl,h,ag,q⟩
end
end Rd
section
variable {X:Cx}{CX:CXT}{j k:Nat}{C:Addr}{b_:List Str}{sp:Sp}{E:XK}{x q:Str}{st:Stmt}{p pos:Pos}{e:Expr}{bC:List Expr}{t:TA}{J:St->Prop}
theorem Jc(D:Di X.K C q st b_)(F:Wc X.prog X.w X.K X.mg X.base CX j D.f D.d b_ sp)(ap:eH (k+1) X.A)(bz:X.mg x=some (.ref C))(bp:Ze7 CX X J E)(bD:PA X (e::bC) t)(bw:Nat.ble j k=true:=by rfl)(bG:Gl X x:=by rfl)
  (fV:(x==("__debug__" :Str))=false:=by decide) (bK:starEach (e::bC) X.env=(false,eval e X.env)::starEach bC X.env:=by rfl) (eT:(backTo pos (starEach bC X.env)).any (·.1)=false:=by rfl):
  PE X (.Call (.Name x p) (e::bC) [] pos) (ZhA J C sp [] E t):=by
 intro aj s af H Q I h;obtain⟨j6,h⟩:=h;have AK:=F.mono (qbe bw);refine wpAny_Call_Name_kw (mX I bG bz ?_ fV);refine callWith_K (h₀:=X.base) I.ok.mod.kin D.M.kp (thn (bD pos aj s af H _ I h) λus bu ⟨vs,a_,bT,r,h⟩=>⟨bT.kIn,?_⟩) bK eT;have cr:=h (bu.heap.objs.size+1) bu.heap.objs.size (bT.hok.fresh (qb3 _)) (bT.hok.fresh (qab _)) (qap (qbk _));have cC:=Inv.made (C:=C) bT;have cN:cR (V.ref (bu.heap.objs.size+1)::(vs++ [])) (Value.ref (bu.heap.objs.size+1)::(us++ [])):= .cons rfl (r.append .nil);have ag:(Value.ref (bu.heap.objs.size+1)::us++ []).length=b_.length:=by
  have e:=cN.length;rw[AK.len _ _ _ _ cr] at e;exact e.symm
 have ai:=D.b {bu with heap:=(bu.heap.push emptyDict).push (instObj C bu.heap.objs.size)} (Value.ref (bu.heap.objs.size+1)::us) cC.kIn ag;rw[List.cons_append] at ai;refine wpAny_call (zd (f:=D.f) bT.kIn D.M.makes D.M.init (beq_iff_eq.mp D.M.fn) (codeAny_mono (AK.run _ X.stack _ _ ⟨Value.ref (bu.heap.objs.size+1)::us,[]⟩ (Value.ref (bu.heap.objs.size+1)::(us++ [])) _ _ E (ap.make C us [])
  (cC.env0.make C us []) ai cN cr) λr s' jA=>?_))
 cases r with
 |error e=>exact bp aj af _ _ e s' j6 cC jA
 |ok fK=>
  cases fK with
  |ret u=>
   obtain⟨v,ae,dw,c',c4,e7⟩:=cC.after jA;subst c4;exact⟨c',⟨V.ref (bu.heap.objs.size+1),ae,dw,rfl,e7⟩⟩
  |next=>exact False.elim jA
  |brk=>exact False.elim jA
  |cont=>exact False.elim jA
end
end L2
namespace My
@[irreducible] noncomputable def G (a b:Int):Int:=((Int.gcd a b:Nat):Int)
theorem ZeJ(n m:Nat):G (n:Int) (m:Int)=((Nat.gcd n m:Nat):Int):=by
 unfold G
 rfl
theorem Zkf{a b:Int}(bD:0<=a)(ai:b=0):G a b=a:=by
 subst ai;obtain⟨n,rfl⟩:=qaL bD;have:=ZeJ n 0;rw[Nat.gcd_zero_right] at this;exact this
theorem ZnH{a b:Int}(bD:0<=a)(ai:0<b):G b (Int.fmod a b)=G a b:=by
 obtain⟨n,rfl⟩:=qaL bD;obtain⟨m,rfl⟩:=qaL (Int.le_of_lt ai);rw[qb2 _ (qaW m),<-Int.natCast_emod,ZeJ,ZeJ,Nat.gcd_comm n m,Nat.gcd_rec m n,Nat.gcd_comm]
structure S(k:Nat)(x:Int):Prop where
 lo:0<=x
 hi:x.toNat<2 ^ (2048*2 ^ k)
theorem Jd{j k:Nat}(h:j<=k):2 ^ (2048*2 ^ j)<=2 ^ (2048*2 ^ k):=
 qaH (by decide) (qca _ (qaH (by decide) h))
theorem S.mono{j k:Nat}{x:Int}(h:S j x)(bw:j<=k):S k x:=⟨h.lo,qag h.hi (Jd bw)⟩
end My
namespace Fo
noncomputable abbrev Trip:=Int×Int×Bool
noncomputable abbrev ZX:=List (Int×Option Trip)
noncomputable def keys (bV:ZX):List Int:=bV.map (·.1)
theorem ZaL(bV:ZX)(w:Int)(s:Option Trip):keys (bV++ [(w,s)])=keys bV++ [w]:=by simp[keys]
theorem ZdW{bV:ZX}{i:Nat}{w:Int}{s:Option Trip}(h:bV[i]? =some (w,s)):w∈keys bV:=qae.mpr ⟨(w,s),qav h,rfl⟩
theorem Zc9{bV:ZX}{w:Int}(h:w∈keys bV):∃(i:Nat)(s:Option Trip),bV[i]? =some (w,s):=by
 obtain⟨⟨d3,s⟩,bz,rfl⟩:=qae.mp h;obtain⟨i,hi⟩:=qbj bz;exact⟨i,s,hi⟩
structure Wm(dM:Int->List Trip)(first:Int)(bV:ZX):Prop where
 head:bV[0]? =some (first,none)
 nodup:(keys bV).Nodup
 steps:∀(i:Nat)(w p b:Int)(al:Bool),bV[i]? =some (w,some (p,b,al))->(w,b,al)∈dM p/\∃(j:Nat)(s:Option Trip),j<i/\bV[j]? =some (p,s)
 only:∀(i:Nat)(w:Int),bV[i]? =some (w,none)->i=0
def U0(dM:Int->List Trip)(bV:ZX)(d:Nat):Prop:=∀(j:Nat)(w:Int)(s:Option Trip),j<d->bV[j]? =some (w,s)->∀t∈dM w,t.1∈keys bV
section
variable {dM:Int->List Trip}{first:Int}{bV:ZX}
theorem Zkr:Wm dM first [(first,none)]:=by
 refine⟨rfl,by simp[keys],λi w p b al h=>?_,λi w h=>?_⟩
 .cases i with
  |zero=>simp at h
  |succ i=>simp at h
 .cases i with
  |zero=>rfl
  |succ i=>simp at h
theorem Ze6{bV:ZX}{x y:Int×Option Trip}{i:Nat}(h:(bV++ [x])[i]? =some y):bV[i]? =some y\/(i=bV.length/\y=x):=by
 rcases qa8 i bV.length with c|c
 .rw[qaK c] at h;exact .inl h
 .rw[qaS c] at h;have:i-bV.length=0:=by
   rcases qbi (i-bV.length) with z|z
   .exact z
   .rw[qa0 (by simp;omega)] at h;cases h
  rw[this] at h;simp at h;exact .inr ⟨by omega,h.symm⟩
theorem Zda{bV:ZX}{x y:Int×Option Trip}{i:Nat}(h:bV[i]? =some y):(bV++ [x])[i]? =some y:=by
 rw[qaK (qaa.mp h).1];exact h
theorem Wm.snoc(g:Wm dM first bV){w p b:Int}{al:Bool}{j:Nat}{s:Option Trip}(bB:bV[j]? =some (p,s))(hw:(w,b,al)∈dM p)(bH:w∉keys bV):Wm dM first (bV++ [(w,some (p,b,al))]):=by
 have bw:=(qaa.mp bB).1;refine⟨Zda g.head,?_,λi d3 he lr al' h=>?_,λi d3 h=>?_⟩
 .rw[ZaL];refine qbA.mpr ⟨g.nodup,by simp,λx bp y bO=>?_⟩;rw[qac.mp bO];intro e;exact bH (e▸bp)
 .rcases Ze6 h with z|⟨rfl,z⟩
  .obtain⟨ak,su,s',a',bL⟩:=g.steps i d3 he lr al' z;exact⟨ak,su,s',a',Zda bL⟩
  .cases z;exact⟨hw,j,s,bw,Zda bB⟩
 .rcases Ze6 h with z|⟨rfl,z⟩
  .exact g.only i d3 z
  .cases z
theorem U0.snoc{d:Nat}(h:U0 dM bV d)(hd:d<=bV.length)(w:Int)(s:Option Trip):U0 dM (bV++ [(w,s)]) d:=λj d3 s' bw e t bX=>by
 rw[ZaL];refine qbv _ ?_;rcases Ze6 e with z|⟨rfl,_⟩
 .exact h j d3 s' bw z t bX
 .omega
theorem U0.next{d:Nat}{w:Int}{s:Option Trip}(h:U0 dM bV d)(e:bV[d]? =some (w,s))(all:∀t∈dM w,t.1∈keys bV):U0 dM bV (d+1):=λj d3 s' bw b' t bX=>by
 rcases qbd.mp bw with z|rfl
 .exact h j d3 s' z b' t bX
 .rw[e] at b';cases b';exact all t bX
inductive W2(dM:Int->List Trip)(a:Int):Int->Prop
 |refl:W2 dM a a
 |step {b c:Int} {t:Int} {al:Bool}:W2 dM a b->(c,t,al)∈dM b->W2 dM a c
theorem W2.trans{a b c:Int}(h:W2 dM a b)(k:W2 dM b c):W2 dM a c:=by
 induction k with
 |refl=>exact h
 |step _ e bQ=>exact .step bQ e
def ZlQ(dM:Int->List Trip):Prop:=∀(a b t:Int)(al:Bool),(b,t,al)∈dM a->(a,t,!al)∈dM b
theorem W2.symm(ai:ZlQ dM){a b:Int}(h:W2 dM a b):W2 dM b a:=by
 induction h with
 |refl=>exact .refl
 |step _ e bQ=>exact(W2.step .refl (ai _ _ _ _ e)).trans bQ
theorem Wm.hang(g:Wm dM first bV):∀(i:Nat)(w:Int)(s:Option Trip),bV[i]? =some (w,s)->W2 dM first w:=by
 intro i
 induction i using Nat.strongRecOn with
 |_ i bQ=>
  intro w s h;cases s with
  |none=>
   have:=g.only i w h;subst this;rw[g.head] at h;cases h;exact .refl
  |some x=>
   obtain⟨p,b,al⟩:=x;obtain⟨ak,j,s',a',bL⟩:=g.steps i w p b al h;exact .step (bQ j a' p s' bL) ak
theorem Wm.keys_iff(g:Wm dM first bV)(c:U0 dM bV bV.length)(w:Int):w∈keys bV↔W2 dM first w:=by
 constructor
 .intro h;obtain⟨i,s,hi⟩:=Zc9 h;exact g.hang i w s hi
 .intro h
  induction h with
  |refl=>exact ZdW g.head
  |step _ e bQ=>
   obtain⟨i,s,hi⟩:=Zc9 bQ;exact c i _ s (qaa.mp hi).1 hi _ e
theorem Wm.rg(g:Wm dM first bV){n:Int}(cd:0<=first/\first<n)(hw:∀a,∀t∈dM a,0<=t.1/\t.1<n):∀w∈keys bV,0<=w/\w<n:=by
 intro w h;obtain⟨i,s,hi⟩:=Zc9 h;have:=g.hang i w s hi;cases this with
 |refl=>exact cd
 |step _ e=>exact hw _ _ e
theorem Zbi{b5:List Int}{n:Nat}(nd:b5.Nodup)(h:∀w∈b5,0<=w/\w<(n:Int)):b5.length<=n:=by
 have ak:=nd.length_le_of_subset (l₂:=(List.range n).map λi:Nat=>(i:Int)) (λw hw=>by
  obtain⟨a,b⟩:=h w hw;exact qae.mpr ⟨w.toNat,qaw.mpr (by omega),by omega⟩)
 simpa using ak
end
structure VQ(dM:Int->List Trip)(n:Nat)(F:List (Int×ZX))(i:Nat):Prop where
 tree:∀x∈F,Wm dM x.1 x.2/\U0 dM x.2 x.2.length/\0<=x.1/\x.1<(i:Int)
 all:∀w:Int,0<=w->w<(i:Int)->∃x∈F,w∈keys x.2
 rise:F.Pairwise λx y=>x.1<y.1
 least:∀x∈F,∀w∈keys x.2,x.1<=w
section
variable {dM:Int->List Trip}{n i:Nat}{F:List (Int×ZX)}
theorem ZlK:VQ dM n [] 0:=⟨by simp,λw cd ak=>by omega,.nil,by simp⟩
theorem VQ.skip(h:VQ dM n F i)(hi:∃x∈F,(i:Int)∈keys x.2):VQ dM n F (i+1):=
 ⟨λx bp=>by obtain⟨a,b,c,d⟩:=h.tree x bp;exact⟨a,b,c,by omega⟩,λw cd ak=>by
  by_cases e:w=(i:Int)
  .rw[e];exact hi
  .exact h.all w cd (by omega),h.rise,h.least⟩
theorem VQ.grow(ai:ZlQ dM)(hw:∀a,∀t∈dM a,0<=t.1/\t.1<(n:Int))(ea:i<n)(h:VQ dM n F i)(hi:∀x∈F,(i:Int)∉keys x.2){bV:ZX}(g:Wm dM i bV)(c:U0 dM bV bV.length):VQ dM n (F++ [((i:Int),bV)]) (i+1):=by
 refine⟨λx bp=>?_,λw cd ak=>?_,List.pairwise_append.mpr ⟨h.rise,by simp,λx bp y bO=>?_⟩,λx bp=>?_⟩
 .rcases qaI.mp bp with z|z
  .obtain⟨a,b,c,d⟩:=h.tree x z;exact⟨a,b,c,by omega⟩
  .rw[qac.mp z];exact⟨g,c,by simp,by simp;omega⟩
 .by_cases e:w=(i:Int)
  .exact⟨_,qay _ (qac.mpr rfl),by rw[e];exact ZdW g.head⟩
  .obtain⟨x,bp,br⟩:=h.all w cd (by omega);exact⟨x,qbv _ bp,br⟩
 .rw[qac.mp bO];exact(h.tree x bp).2.2.2
 .rcases qaI.mp bp with z|z
  .exact h.least x z
  .rw[qac.mp z];intro w br;rcases Int.lt_or_le w (i:Int) with y|y
   .exfalso;have ap:=g.rg ⟨by omega,by omega⟩ hw w br;obtain⟨ff,jk,kI⟩:=h.all w ap.1 y;obtain⟨g',cU,_,_⟩:=h.tree ff jk;have ak:=(g'.keys_iff cU w).mp kI;have a':=((g.keys_iff c w).mp br).symm ai;exact hi ff jk ((g'.keys_iff cU _).mpr (ak.trans a'))
   .exact y
end
end Fo
namespace Fire
noncomputable def bump (c:Nat->Nat) (w:Nat):Nat->Nat:=λv=>if v=w then c v+1 else c v
theorem WL(c:Nat->Nat)(w:Nat):bump c w w=c w+1:=by simp[bump]
theorem W0(c:Nat->Nat){v w:Nat}(h:v≠w):bump c w v=c v:=by simp[bump,h]
def Zl1(R:(Nat->Nat)->Nat->Prop):Prop:=∀c cU w,(∀v,c v<=cU v)->c w=cU w->R c w->R cU w
inductive Z1(R:(Nat->Nat)->Nat->Prop):(Nat->Nat)->List Nat->(Nat->Nat)->Prop
 |nil (c:Nat->Nat):Z1 R c [] c
 |cons {c d:Nat->Nat} {w:Nat} {bF:List Nat}:R c w->Z1 R (bump c w) bF d->Z1 R c (w::bF) d
variable {R:(Nat->Nat)->Nat->Prop}
theorem Z1.under(m:Zl1 R){c d e:Nat->Nat}{bF:List Nat}(h:Z1 R c bF d)(st:∀w,¬R e w)(le:∀v,c v<=e v):∀v,d v<=e v:=by
 induction h with
 |nil c=>exact le
 | @cons c d w bF r _ bQ=>
  refine bQ λv=>?_
  by_cases bS:v=w
  .subst bS;rw[WL];have ak:=le v
   by_cases a':c v=e v
   .exact absurd (m c e v le a' r) (st v)
   .omega
  .rw[W0 c bS];exact le v
theorem Z1.app{c d e:Nat->Nat}{bF AL:List Nat}(h:Z1 R c bF d)(h':Z1 R d AL e):Z1 R c (bF++AL) e:=by
 induction h with
 |nil c=>exact h'
 |cons r _ bQ=>exact .cons r (bQ h')
theorem Z1.snoc{c d:Nat->Nat}{bF:List Nat}{w:Nat}(h:Z1 R c bF d)(r:R d w):Z1 R c (bF++ [w]) (bump d w):=h.app (.cons r (.nil _))
theorem Z1.count{c d:Nat->Nat}{bF:List Nat}(h:Z1 R c bF d):∀v,d v=c v+bF.count v:=by
 induction h with
 |nil c=>intro v;simp
 | @cons c d w bF r _ bQ=>
  intro v;rw[bQ v]
  by_cases bS:v=w
  .subst bS;rw[WL,List.count_cons_self];omega
  .rw[W0 c bS,List.count_cons_of_ne (qbO bS)]
structure Belt where
 giver:Nat
 taker:Nat
 give:Int
 take:Int
 start:Int
noncomputable def lie (b:Belt) (c:Nat->Nat):Int:=b.start+b.give*(c b.giver:Int)-b.take*(c b.taker:Int)
def ZoI(bs:List Belt)(c:Nat->Nat)(w:Nat):Prop:=∀b∈bs,b.taker=w->b.take<=lie b c
def May(bs:List Belt)(n:Nat)(iT:Nat->Nat)(c:Nat->Nat)(w:Nat):Prop:=w<n/\c w<iT w/\ZoI bs c w
theorem Je{b:Belt}(h:0<=b.give){c cU:Nat->Nat}(le:∀v,c v<=cU v)(e:c b.taker=cU b.taker):lie b c<=lie b cU:=by
 unfold lie;rw[e];have:b.give*(c b.giver:Int)<=b.give*(cU b.giver:Int):=qa1 (by have:=le b.giver;omega) h;omega
theorem ZlX{bs:List Belt}{n:Nat}{iT:Nat->Nat}(h:∀b∈bs,0<=b.give):Zl1 (May bs n iT):=by
 rintro c cU w le e ⟨ak,a',bL⟩;refine⟨ak,by omega,λb ai bX=>Int.le_trans (bL b ai bX) (Je (h b ai) le ?_)⟩;rw[bX];exact e
def Bal(bs:List Belt)(iT:Nat->Nat):Prop:=∀b∈bs,b.give*(iT b.giver:Int)=b.take*(iT b.taker:Int)
theorem Zh5{bs:List Belt}{iT c:Nat->Nat}{b:Belt}(ai:b∈bs)(bal:Bal bs iT)(hs:0<=b.start)(bX:0<=b.take)(le:c b.giver<=iT b.giver)(dH:c b.taker<iT b.taker)(short:lie b c<b.take):c b.giver<iT b.giver:=by
 rcases qa8 (c b.giver) (iT b.giver) with h|h
 .exact h
 .exfalso;have e:c b.giver=iT b.giver:=by omega
  unfold lie at short;rw[e,bal b ai] at short;have:b.take*((c b.taker:Int)+1)<=b.take*(iT b.taker:Int):=qa1 (by omega) bX;rw[qbX,qck] at this;omega
end Fire
namespace Pc
inductive Yo(E:List (Nat×Nat)):Nat->Nat->Prop where
 |refl (a:Nat):Yo E a a
 |fwd {a b c:Nat}:Yo E a b->(b,c)∈E->Yo E a c
 |bwd {a b c:Nat}:Yo E a b->(c,b)∈E->Yo E a c
theorem Yo.trans{E:List (Nat×Nat)}{a b c:Nat}(h:Yo E a b)(k:Yo E b c):Yo E a c:=by
 induction k with
 |refl=>exact h
 |fwd _ e bQ=>exact .fwd bQ e
 |bwd _ e bQ=>exact .bwd bQ e
theorem Yo.symm{E:List (Nat×Nat)}{a b:Nat}(h:Yo E a b):Yo E b a:=by
 induction h with
 |refl=>exact .refl _
 |fwd _ e bQ=>exact(Yo.bwd (.refl _) e).trans bQ
 |bwd _ e bQ=>exact(Yo.fwd (.refl _) e).trans bQ
theorem Yo.lt{E:List (Nat×Nat)}{n a b:Nat}(fo:∀e∈E,e.1<n/\e.2<n)(h:Yo E a b)(bD:a<n):b<n:=by
 induction h with
 |refl=>exact bD
 |fwd _ e bQ=>exact(fo _ e).2
 |bwd _ e bQ=>exact(fo _ e).1
noncomputable def step (l:Nat->Nat) (e:Nat×Nat):Nat->Nat:=λw=>if w=e.1\/w=e.2 then min (l e.1) (l e.2) else l w
noncomputable def lap (E:List (Nat×Nat)) (l:Nat->Nat):Nat->Nat:=E.foldl step l
noncomputable def Yn (E:List (Nat×Nat)):Nat->(Nat->Nat)->Nat->Nat
 |0,l=>l
 |k+1,l=>lap E (Yn E k l)
theorem vO(l:Nat->Nat)(e:Nat×Nat)(w:Nat):step l e w<=l w:=by
 unfold step
 split
 .rename_i h;rcases h with rfl|rfl
  .exact Nat.min_le_left _ _
  .exact Nat.min_le_right _ _
 .exact qab _
theorem sI(F:List (Nat×Nat)):∀(l:Nat->Nat)(w:Nat),F.foldl step l w<=l w:=by
 induction F with
 |nil=>intro l w;exact qab _
 |cons e F bQ=>intro l w;exact qaj (bQ (step l e) w) (vO l e w)
theorem AM(F:List (Nat×Nat)):∀(l:Nat->Nat)(e:Nat×Nat),e∈F->F.foldl step l e.1<=l e.2/\F.foldl step l e.2<=l e.1:=by
 induction F with
 |nil=>intro l e h;cases h
 |cons f F bQ=>
  intro l e h;rcases qah.mp h with rfl|h
  .have a:=sI F (step l e) e.1;have b:=sI F (step l e) e.2;have c:step l e e.1<=l e.2:=by unfold step;rw[if_pos (.inl rfl)];exact Nat.min_le_right _ _
   have d:step l e e.2<=l e.1:=by unfold step;rw[if_pos (.inr rfl)];exact Nat.min_le_left _ _
   exact⟨qaj a c,qaj b d⟩
  .have:=bQ (step l f) e h;exact⟨qaj this.1 (vO l f e.2),qaj this.2 (vO l f e.1)⟩
def lM(E:List (Nat×Nat))(l:Nat->Nat):Prop:=∀w,Yo E w (l w)
theorem Jf{E:List (Nat×Nat)}{l:Nat->Nat}{e:Nat×Nat}(h:lM E l)(bK:e∈E):lM E (step l e):=by
 intro w;unfold step
 split
 .rename_i hw;have ab:Yo E e.1 e.2:= .fwd (.refl _) bK;have wa:Yo E w e.1:=by
   rcases hw with rfl|rfl
   .exact .refl _
   .exact ab.symm
  rcases Nat.le_total (l e.1) (l e.2) with q|q
  .rw[Nat.min_eq_left q];exact wa.trans (h e.1)
  .rw[Nat.min_eq_right q];exact(wa.trans ab).trans (h e.2)
 .exact h w
theorem Zia{E:List (Nat×Nat)}(F:List (Nat×Nat)):∀(l:Nat->Nat),lM E l->(∀e∈F,e∈E)->lM E (F.foldl step l):=by
 induction F with
 |nil=>intro l h _;exact h
 |cons e F bQ=>intro l h k;exact bQ _ (Jf h (k e qbu)) λx bp=>k x (qax _ bp)
theorem sJ{E:List (Nat×Nat)}{l:Nat->Nat}(h:lM E l):∀k,lM E (Yn E k l)
 |0=>h
 |k+1=>Zia E _ (sJ h k) λ_ x=>x
theorem Zhh{p q:Nat->Bool}:∀{xs:List Nat}{a:Nat},(∀x∈xs,p x=true->q x=true)->a∈xs->p a=false->q a=true->xs.countP p+1<=xs.countP q
 | [],_,_,h,_,_=>by cases h
 |x::xs,a,s,h,l',sK=>by
  have mono:xs.countP p<=xs.countP q:=List.countP_mono_left λy bO=>s y (qax _ bO);rw[List.countP_cons,List.countP_cons];rcases qah.mp h with rfl|h'
  .rw[l',sK];simp;omega
  .have bQ:=Zhh (λy bO=>s y (qax _ bO)) h' l' sK
   by_cases qL:p x=true
   .rw[qL,s x qbu qL];simp;omega
   .have sL:p x=false:=by simpa using qL
    rw[sL];simp;omega
theorem Znm{E:List (Nat×Nat)}{m w:Nat}{p:Nat->Bool}(h:Yo E m w)(bz:p m=true)(hw:p w=false):
  ∃a b,Yo E m a/\p a=true/\p b=false/\((a,b)∈E\/(b,a)∈E):=by
 induction h with
 |refl=>rw[bz] at hw;cases hw
 | @fwd b c ai e bQ=>
  by_cases q:p b=true
  .exact⟨b,c,ai,q,hw,.inl e⟩
  .exact bQ (by simpa using q)
 | @bwd b c ai e bQ=>
  by_cases q:p b=true
  .exact⟨b,c,ai,q,hw,.inr e⟩
  .exact bQ (by simpa using q)
theorem Zmn{E:List (Nat×Nat)}{n m:Nat}(fo:∀e∈E,e.1<n/\e.2<n)(bz:m<n)(least:∀v,Yo E m v->m<=v):
  ∀k,(∀w,Yo E m w->Yn E k (λi=>i) w=m)\/k+1<=(List.range n).countP (λw=>Yn E k (λi=>i) w==m)
 |0=>by
  right
  show 0+1<=(List.range n).countP (λw=>w==m);exact List.countP_pos_iff.mpr ⟨m,qaw.mpr bz,by simp⟩
 |k+1=>by
  have Jg:lM E (Yn E k (λi=>i)):=sJ (λw=> .refl w) k;have AN:lM E (Yn E (k+1) (λi=>i)):=sJ (λw=> .refl w) (k+1);have Jh:∀w,Yn E (k+1) (λi=>i) w<=Yn E k (λi=>i) w:=λw=>sI E _ w;have stays:∀w,Yo E m w->Yn E k (λi=>i) w=m->Yn E (k+1) (λi=>i) w=m:=λw hw e=>by
   have a:=Jh w;have b:=least _ (hw.trans (AN w));omega
  have self:∀k,Yn E k (λi=>i) m=m:=λk=>by
   have bM:lM E (Yn E k (λi=>i)):=sJ (λw=> .refl w) k;have b:=least _ (bM m);have c:∀j,Yn E j (λi=>i) m<=m:=λj=>by
    induction j with
    |zero=>exact qab _
    |succ j bQ=>exact qaj (sI E _ m) bQ
   have:=c k;omega
  rcases Zmn fo bz least k with h|h
  .left
   exact λw hw=>stays w hw (h w hw)
  .by_cases all:∀w,Yo E m w->Yn E k (λi=>i) w=m
   .left
    exact λw hw=>stays w hw (all w hw)
   .right
    obtain⟨w,hw⟩:=Classical.not_forall.mp all;obtain⟨Ji,sM⟩:=Classical.not_imp.mp hw;obtain⟨a,b,AO,l',Jj,e⟩:=Znm (p:=λw=>Yn E k (λi=>i) w==m) Ji (by simp[self k]) (by simpa using sM);have Se:Yn E k (λi=>i) a=m:=by simpa using l'
    have cb:Yo E m b:=by
     rcases e with e|e
     .exact .fwd AO e
     .exact .bwd AO e
    have qx:Yn E (k+1) (λi=>i) b=m:=by
     have fE:=least _ (cb.trans (AN b));have iU:Yn E (k+1) (λi=>i) b<=Yn E k (λi=>i) a:=by
      rcases e with e|e
      .exact(AM E _ (a,b) e).2
      .exact(AM E _ (b,a) e).1
     omega
    have ai:b<n:=cb.lt fo bz;have:=Zhh (p:=λw=>Yn E k (λi=>i) w==m) (q:=λw=>Yn E (k+1) (λi=>i) w==m) (xs:=List.range n) (a:=b)
     (λx bp qL=>?_) (qaw.mpr ai) Jj (by simp[qx])
    .omega
    .have sL:Yn E k (λi=>i) x=m:=by simpa using qL
     have qp:Yo E m x:=by have:=Jg x;rw[sL] at this;exact this.symm
     simp[stays x qp sL]
theorem ZfI{E:List (Nat×Nat)}:∀(k w:Nat),w<=k->∃m,Yo E w m/\∀v,Yo E w v->m<=v
 |0,w,h=>⟨w,.refl w,λv _=>by omega⟩
 |k+1,w,h=>by
  by_cases q:∃v,Yo E w v/\v<w
  .obtain⟨v,oU,Sf⟩:=q;obtain⟨m,oV,sN⟩:=ZfI (E:=E) k v (by omega);exact⟨m,oU.trans oV,λu Jk=>sN u (oU.symm.trans Jk)⟩
  .exact⟨w,.refl w,λv oU=>by
    by_cases bS:v<w
    .exact absurd ⟨v,oU,bS⟩ q
    .omega⟩
theorem Zac{E:List (Nat×Nat)}{n:Nat}(fo:∀e∈E,e.1<n/\e.2<n){w:Nat}(hw:w<n):
  Yo E w (Yn E n (λi=>i) w)/\∀v,Yo E w v->Yn E n (λi=>i) w<=v:=by
 obtain⟨m,oV,sN⟩:=ZfI (E:=E) w w (qab _);have bz:m<n:=oV.lt fo hw;have least:∀v,Yo E m v->m<=v:=λv oU=>sN v (oV.trans oU);rcases Zmn fo bz least n with h|h
 .have e:=h w oV.symm;rw[e];exact⟨oV,sN⟩
 .have:=List.countP_le_length (p:=λw=>Yn E n (λi=>i) w==m) (l:=List.range n);rw[qbo] at this;omega
end Pc
set_option Elab.async false
set_option linter.all false
set_option maxRecDepth 100000
set_option maxHeartbeats 4000000
local macro_rules| `(tactic|omega)=>`(tactic|with_reducible first|exact qaW _|exact L2.oA (by assumption) (by assumption)|exact L2.oB (by assumption) (by assumption) rfl|exact L2.oC (by assumption) (by assumption) rfl|exact L2.oD (by assumption) rfl|exact L2.oE (by assumption) (by assumption)|exact L2.oF (by assumption)|lia|fail)
local macro_rules| `(tactic|walk_at "mul")=>`(tactic|k_dflt (first|with_reducible assumption|exact L2.ZjE.ok (Or.inr ⟨by omega,by omega⟩)|exact L2.ZjE.ok (Or.inl ⟨by omega,by omega⟩)))
local macro_rules| `(tactic|walk_at "lk")=>`(tactic|first|exact L2.Rd.lk0|exact L2.Rd.lkN|(refine L2.Rd.lk1 (by decide+kernel) ?_;walk_at "lk"))
local macro_rules| `(tactic|walk_at "pf")=>`(tactic|first|exact L2.Rd.pfN|(apply L2.Rd.pf1;(decide+kernel);walk_at "pf"))
local macro_rules| `(tactic|walk_at "na")=>`(tactic|exact L2.VJ.get (by with_reducible assumption) (by decide+kernel))
local macro_rules| `(tactic|walk_at "cond")=>`(tactic|k_dflt (first|with_reducible assumption|decide|omega|(simp;done)|(simp only[List.length_cons,List.length_nil,GE,qaA];omega)))
local macro_rules| `(tactic|walk_at "rdis")=>`(tactic|((with_reducible show ∃x n t b,_=_/\L2.WN _ _ x t/\_);first|with_reducible apply L2.Rd.Zjl|with_reducible apply L2.Rd.ZhY|with_reducible apply L2.Rd.is_int_str|with_reducible apply L2.Rd.is_int_list|with_reducible apply L2.Rd.is_int_tuple|with_reducible apply L2.Rd.is_int_dict|with_reducible apply L2.Rd.is_bl_int|with_reducible apply L2.Rd.is_bl_bool|with_reducible apply L2.Rd.is_bl_str|with_reducible apply L2.Rd.is_bl_list|with_reducible apply L2.Rd.is_bl_tuple|with_reducible apply L2.Rd.is_bl_dict|with_reducible apply L2.Rd.is_str_int|with_reducible apply L2.Rd.is_str_bool|with_reducible apply L2.Rd.Zjq|with_reducible apply L2.Rd.is_str_list|with_reducible apply L2.Rd.is_str_tuple|with_reducible apply L2.Rd.is_str_dict|with_reducible apply L2.Rd.is_non_int|with_reducible apply L2.Rd.is_non_bool|with_reducible apply L2.Rd.is_non_str|with_reducible apply L2.Rd.is_non_list|with_reducible apply L2.Rd.is_non_tuple|with_reducible apply L2.Rd.is_non_dict|with_reducible refine L2.Rd.is_lst_int (by with_reducible assumption) ?_|with_reducible refine L2.Rd.is_lst_bool (by with_reducible assumption) ?_|with_reducible refine L2.Rd.is_lst_str (by with_reducible assumption) ?_|with_reducible refine L2.Rd.ZhS (by with_reducible assumption) ?_|with_reducible refine L2.Rd.is_lst_tuple (by with_reducible assumption) ?_|with_reducible refine L2.Rd.is_lst_dict (by with_reducible assumption) ?_|with_reducible refine L2.Rd.is_tup_int (by with_reducible assumption) ?_|with_reducible refine L2.Rd.is_tup_bool (by with_reducible assumption) ?_|with_reducible refine L2.Rd.is_tup_str (by with_reducible assumption) ?_|with_reducible refine L2.Rd.is_tup_list (by with_reducible assumption) ?_|with_reducible refine L2.Rd.Zg0 (by with_reducible assumption) ?_|with_reducible refine L2.Rd.is_tup_dict (by with_reducible assumption) ?_|with_reducible refine L2.Rd.is_dK_int (by with_reducible assumption) ?_|with_reducible refine L2.Rd.is_dK_bool (by with_reducible assumption) ?_|with_reducible refine L2.Rd.is_dK_str (by with_reducible assumption) ?_|with_reducible refine L2.Rd.is_dK_list (by with_reducible assumption) ?_|with_reducible refine L2.Rd.is_dK_tuple (by with_reducible assumption) ?_|with_reducible refine L2.Rd.is_dK_dict (by with_reducible assumption) ?_))
local macro_rules| `(tactic|walk_at "side")=>`(tactic|k_dflt (first|with_reducible assumption|decide|(dsimp only;decide)|(dsimp only[L2.CPow];decide)|omega|(dsimp only;omega)))
local macro_rules| `(tactic|walk_at "hp")=>`(tactic|with_reducible (first|assumption|((show L2.SqL _ _ _ _);(first|exact L2.SqL.of (by assumption)|exact L2.OffL.sq (by assumption)|exact L2.Zd.seq (by assumption) (by assumption)))|((show L2.SqT _ _ _ _);(first|exact L2.SqT.of (by assumption)|exact L2.OffT.sq (by assumption)|exact L2.Zd.seqT (by assumption) (by assumption)))))
local macro_rules| `(tactic|walk_at "rd")=>`(tactic|first|with_reducible (first|apply L2.Rd.seq|apply L2.Rd.asg|apply L2.Rd.ret|apply L2.Rd.ifs|apply L2.Rd.next|apply L2.Rd.drop|apply L2.Rd.op|apply L2.Rd.ZpF|apply L2.Rd.con|(show L2.ZgS _ _ _ _;refine L2.Rd.var (by k_dflt rfl) ?_)|(show L2.UL _ _ _ _ _;refine L2.Rd.ZoP (by k_dflt (dsimp only[L2.start,List.map_cons,List.map_nil,List.cons_append,List.nil_append,List.length_cons,List.length_nil,Nat.reduceAdd,Nat.reduceSub,List.replicate,List.set];(try rfl))) ?_)|apply L2.Rd.call|apply L2.Rd.cons|apply L2.Rd.nil|apply L2.Rd.cb|apply L2.Rd.tup|apply L2.Rd.lst|apply L2.Rd.Zpz|apply L2.Rd.or_|apply L2.Rd.ZpK|apply L2.Rd.ZpH|apply L2.Rd.Zps|apply L2.Rd.i0|(show L2.rI _ _ _ _ _ _;refine L2.Rd.iC (by walk_at "side") ?_)|apply L2.Rd.bl|apply L2.Rd.Zpr|(show L2.rOr L2.ZjK _ _ _ _ _;refine L2.Rd.mulI (by walk_at "mul") ?_)|apply L2.Rd.Zpa|apply L2.Rd.ZpA|apply L2.Rd.Zpb|(show L2.rOr _ (L2.rOr L2.Zes _) (L2.V.str _) (L2.V.str _) _ _;refine L2.Rd.ZnZ (by walk_at "side") ?_)|(show L2.rIx _ _ _ _ _;refine L2.Rd.Zo8 (by walk_at "hp") (by k_dflt rfl) ?_)|(show L2.rIx _ _ _ _ _;refine L2.Rd.Zn0 (by walk_at "hp") (by k_dflt (first|rfl|with_reducible assumption)) ?_)|(show ∃a,L2.V.ref _=L2.V.ref a/\(∃xs,L2.SqL _ _ a xs)/\_;refine L2.Rd.Znu (by walk_at "hp") ?_)|(show ∃k,[L2.V.int _]=[L2.V.int k]/\_;refine L2.Rd.ZoH (by k_dflt omega) (by k_dflt omega) ?_)|apply L2.Rd.ZpB|(show ∃x n,_=_/\L2.ZbQ _ x _ n/\_;refine L2.Rd.ZoK (by walk_at "hp") ?_)|(show ∃x n,_=_/\L2.ZbQ _ x _ n/\_;refine L2.Rd.Zph (by walk_at "hp") ?_)|(show ∃x n,_=_/\L2.ZbQ _ x _ n/\_;refine L2.Rd.lenS (by walk_at "side") ?_))|walk_at "rdis" |with_reducible (first|apply L2.Rd.Zpv|apply L2.Rd.tru|apply L2.Rd.ZpL|apply L2.Rd.Zpe|apply L2.Rd.ZpJ|apply L2.Rd.bm|(show L2.tyV _ _ _ _/\_;refine L2.Rd.tyl (by with_reducible assumption) ?_)|(show L2.rAppend _ _ _ _;refine L2.Rd.app (by with_reducible assumption) (by walk_at "side") ?_)|apply L2.Zjo|apply L2.Zhq|apply L2.Rd.Zl5|apply L2.Rd.Zmo|(show if decide _=true then _ else _;refine L2.Rd.ifP (by walk_at "cond") ?_)|(show if decide _=true then _ else _;refine L2.Rd.ifN (by walk_at "cond") ?_)|(show if(!decide _)=true then _ else _;refine L2.Rd.ZpI (by walk_at "cond") ?_)|apply L2.Rd.sl|apply L2.Rd.Znx|apply L2.Rd.ZpQ|apply L2.Rd.ZoW|apply L2.Rd.ZpR|(show ∃a C bx fs v,L2.V.ref _=L2.V.ref a/\_=some (L2.HO.ins C bx fs)/\L2.Cls _ C/\_;refine L2.Rd.fld (by with_reducible assumption) (by with_reducible assumption) (by k_dflt (walk_at "na")) (by k_dflt (walk_at "lk")) ?_)|(show L2.ZhA _ _ _ _ _ _ _ _ _;refine L2.Rd.ZoD (by k_dflt rfl) ?_)|apply L2.Rd.Zpx|(show L2.rSetL _ _ _ _ _;refine L2.Rd.ZnK (by with_reducible assumption) (by k_dflt omega) (by walk_at "cond") ?_)|apply L2.Rd.Zo3|apply L2.Rd.Zoz|apply L2.Rd.ZpE|(show ∃a C bx fs,L2.V.ref _=L2.V.ref a/\_=some (L2.HO.ins C bx fs)/\L2.Cls _ C/\_;refine L2.Rd.ZoF (by with_reducible (first|assumption|exact L2.Ze)) (by with_reducible assumption) (by k_dflt (walk_at "na")) (by k_dflt (simp only[List.length_cons,List.length_nil];decide)) (by k_dflt (walk_at "pf")) ?_)|apply L2.Rd.raise|apply L2.Rd.Zot|apply L2.Rd.ZoQ|apply L2.Rd.Zpj|apply L2.Rd.ZoB|apply L2.Rd.ZpM|apply L2.Rd.Zo5|(show L2.rIn _ _ _ _ _ _;refine L2.Rd.inI (by walk_at "hp") ?_)|(show L2.rIn _ _ _ _ _ _;refine L2.Rd.ZpP (by walk_at "hp") ?_)|(show ∃p bs,[L2.V.ref _]=[L2.V.ref p]/\L2.SqL _ _ p (List.map L2.V.bl bs)/\_;refine L2.Rd.ZpV (by walk_at "hp") ?_)|apply L2.Rd.leS|apply L2.Rd.ZoT)|((with_reducible show if(!(_==_))=true then _ else _);first|refine L2.Rd.Zl5 ?_|refine L2.Rd.Zmo ?_)|((with_reducible show if(_==_)=true then _ else _);first|refine L2.Zjo ?_|refine L2.Zhq ?_)|with_reducible (first|apply L2.Rd.Znh|apply L2.Rd.Zo4|(show ∃a,_=_/\(∃xs,L2.SqL _ _ a xs)/\_;refine L2.Rd.Zou (by walk_at "hp") ?_)|apply L2.Rd.lset|apply L2.Rd.Zpc)|((with_reducible show L2.rDIn _ _ _ _);first|with_reducible refine L2.Rd.Zpm (by with_reducible assumption) ?_|with_reducible refine L2.Rd.dinI (by with_reducible assumption) ?_)|((with_reducible show L2.rDNotIn _ _ _ _);first|with_reducible refine L2.Rd.dninS (by with_reducible assumption) ?_|with_reducible refine L2.Rd.ZoJ (by with_reducible assumption) ?_)|((with_reducible show L2.rIxD _ _ _ _);first|with_reducible refine L2.Rd.dgetS (by with_reducible assumption) (by with_reducible assumption) ?_|with_reducible refine L2.Rd.Zml (by with_reducible assumption) (by with_reducible assumption) ?_)|((with_reducible show L2.rSetD _ _ _ _ _);first|with_reducible refine L2.Rd.ZoC (by with_reducible assumption) (by walk_at "side") ?_|with_reducible refine L2.Rd.ZoN (by with_reducible assumption) (by walk_at "side") ?_)|with_reducible (first|(show L2.rLenD _ _ _;refine L2.Rd.Zpu (by with_reducible assumption) ?_)|(show L2.rListD _ _ _;refine L2.Rd.Zoy (by with_reducible assumption) ?_)|apply L2.Rd.ZpD|apply L2.Rd.ipi|(show L2.Zfi _ _ _ _ _;refine L2.Rd.ixl (by walk_at "hp") (by k_dflt (first|rfl|with_reducible assumption)) ?_)|apply L2.Rd.ZpO|apply L2.Rd.Zpy|apply L2.Rd.Zpn|apply L2.Rd.ZoR))
local macro_rules| `(tactic|walk_at "rds")=>`(tactic|repeat' (walk_at "rd"))
local macro_rules| `(tactic|walk_at "a")=>`(tactic|try dsimp only[L2.cxX,L2.ZL,L2.Zn])
local macro_rules| `(tactic|nofun)=>`(tactic|walk_at "rds")
namespace Nm
open PySem L2
noncomputable def top (i:Nat):Stmt:=PySem.Challenge.pw_ratehall_k24_whole_round_unfolded.main.body.getD i (.Pass ⟨0,0,0,0⟩)
noncomputable abbrev AQ:Stmt:=top 62
noncomputable abbrev AR:Stmt:=top 63
noncomputable abbrev AS:Stmt:=top 64
noncomputable abbrev AT:Stmt:=top 66
noncomputable abbrev vP:Stmt:=top 68
noncomputable abbrev vQ:Stmt:=top 14
noncomputable abbrev AU:Stmt:=Yk (top 26) 1
noncomputable abbrev AV:Stmt:=top 20
noncomputable abbrev AW:Stmt:=top 21
noncomputable abbrev AX:Stmt:=top 28
noncomputable abbrev AY:Stmt:=top 22
noncomputable abbrev AZ:Stmt:=Yk (top 26) 11
noncomputable abbrev A0:Stmt:=Yk (top 26) 3
noncomputable abbrev A1:Stmt:=Yk (top 26) 2
noncomputable abbrev A2:Stmt:=Yk (top 26) 0
noncomputable abbrev A3:Stmt:=top 67
noncomputable abbrev A4:Stmt:=top 70
noncomputable abbrev A5:Stmt:=top 69
noncomputable abbrev sO:Stmt:=top 72
noncomputable abbrev A6:Stmt:=Yk (top 26) 7
noncomputable abbrev vR:Stmt:=top 50
noncomputable abbrev A7:Stmt:=Yk (top 26) 5
noncomputable abbrev vS:Stmt:=top 35
noncomputable abbrev A8:Stmt:=top 36
noncomputable abbrev A9:Stmt:=top 34
noncomputable abbrev A_:Stmt:=top 16
noncomputable abbrev A':Stmt:=top 18
noncomputable abbrev Ba:Stmt:=top 19
noncomputable abbrev Bb:Stmt:=top 43
noncomputable abbrev Bc:Stmt:=Yk (top 26) 12
noncomputable abbrev Bd:Stmt:=Yk (top 26) 8
noncomputable abbrev Be:Stmt:=top 42
noncomputable abbrev Bf:Stmt:=top 17
noncomputable abbrev vT:Stmt:=top 41
noncomputable abbrev vU:Stmt:=top 39
noncomputable abbrev Jl:Stmt:=top 37
noncomputable abbrev Jm:Stmt:=top 45
noncomputable abbrev Bg:Stmt:=top 44
noncomputable abbrev Bh:Stmt:=top 40
noncomputable abbrev Bi:Stmt:=top 49
noncomputable abbrev vV:Stmt:=top 32
noncomputable abbrev vW:Stmt:=Yk (top 51) 2
noncomputable abbrev Bj:Stmt:=Yk (top 51) 4
noncomputable abbrev Bk:Stmt:=Yk (top 51) 3
noncomputable abbrev vX:Stmt:=Yk (top 51) 1
noncomputable abbrev vY:Stmt:=Yk (top 26) 9
noncomputable abbrev vZ:Stmt:=top 30
noncomputable abbrev v0:Stmt:=Yk (top 26) 10
noncomputable abbrev v1:Stmt:=top 31
noncomputable abbrev v2:Stmt:=top 52
noncomputable abbrev qM:Stmt:=Yk (top 51) 0
noncomputable abbrev Bl:Stmt:=top 48
noncomputable abbrev Bm:Stmt:=top 71
noncomputable abbrev qN:Stmt:=top 73
noncomputable abbrev Bn:Stmt:=Yk (top 54) 4
noncomputable abbrev Bo:Stmt:=Yk (top 54) 3
noncomputable abbrev Bp:Stmt:=Yk (top 54) 2
noncomputable abbrev sP:Stmt:=top 74
noncomputable abbrev Bq:Stmt:=top 65
noncomputable abbrev Br:Stmt:=top 27
noncomputable abbrev Bs:Stmt:=Yk (top 54) 1
noncomputable abbrev Bt:Stmt:=top 55
noncomputable abbrev Bu:Stmt:=top 56
noncomputable abbrev v3:Stmt:=top 58
noncomputable abbrev v4:Stmt:=top 57
noncomputable abbrev Bv:Stmt:=top 60
noncomputable abbrev Bw:Stmt:=top 59
noncomputable abbrev sQ:Stmt:=Yk (top 54) 0
noncomputable abbrev sR:Stmt:=top 75
theorem v5:Zt ["_law_script","_law_k","_law_lap","_law_cell"] ["_law_script","_law_k"] (cn AQ):=scI
theorem ka:Zt ["_law_cell","_law_many","_law_letters","_law_long","_law_at","_law_some","_law_k","_law_word","_law_place","_law_turn"] ["_law_cell","_law_many"] (cn AR):=scI
theorem sT:Zt ["_law_one","_law_other","_law_rest"] ["_law_one","_law_other"] (cn AS):=scI
theorem kL:Zt ["_law_rates","_law_belts","_law_label","_law_turn","_law_belt","_law_low","_law_found","_law_work","_law_both","_law_other"] ["_law_rates","_law_belts"] (cn AT):=scI
theorem qO:Zt ["_law_cell","_law_many","_law_mix","_law_group"] ["_law_cell","_law_many"] (cn vP):=scI
theorem Jn:Zt ["thing"] ["thing"] (cn vQ):=scI
theorem Bx:Zt ["self","name","number"] ["self","name"] (cn AU):=scI
theorem Jo:Zt ["thing"] ["thing"] (cn AV):=scI
theorem Jp:Zt ["thing","least"] ["thing","least"] (cn AW):=scI
theorem Jq:Zt ["start"] ["start"] (cn AX):=scI
theorem Jr:Zt ["thing","bound"] ["thing","bound"] (cn AY):=scI
theorem Js:Zt ["self","work"] ["self","work"] (cn AZ):=scI
theorem Jt:Zt ["self","row"] ["self","row"] (cn A0):=scI
theorem Ju:Zt ["self","giver","taker","give","take","start"] ["self","giver","taker","give","take","start"] (cn A1):=scI
theorem Jv:Zt ["self"] ["self"] (cn A2):=scI
theorem mu:Zt ["_law_names_here","_law_belts","_law_hall","_law_name","_law_giver","_law_taker","_law_give","_law_take","_law_start"] ["_law_names_here","_law_belts"] (cn A3):=scI
theorem v6:Zt ["_law_belts","_law_lying","_law_work","_law_k","_law_belt"] ["_law_belts","_law_lying","_law_work"] (cn A4):=scI
theorem v7:Zt ["_law_belts","_law_lying","_law_work","_law_k","_law_belt"] ["_law_belts","_law_lying","_law_work"] (cn A5):=scI
theorem nF:Zt ["_law_belts","_law_rates","_law_cells","_law_lying","_law_left","_law_row","_law_step","_law_some","_law_work"] ["_law_belts","_law_rates","_law_cells"] (cn sO):=scI
theorem Jw:Zt ["self"] ["self"] (cn A6):=scI
theorem Jx:Zt ["hall"] ["hall"] (cn vR):=scI
theorem Jy:Zt ["self"] ["self"] (cn A7):=scI
theorem sU:Zt ["hall","ways","belt","row"] ["hall"] (cn vS):=scI
theorem lN:Zt ["ways","first","tree","reached","done","work","other","belt","along"] ["ways","first"] (cn A8):=scI
theorem oW:Zt ["hall","ways","seen","forest","work","tree"] ["hall"] (cn A9):=scI
theorem sV:Zt ["one","other","rest"] ["one","other"] (cn A_):=scI
theorem By:Zt ["top","bottom","common"] ["top","bottom"] (cn A'):=scI
theorem Jz:Zt ["one","other"] ["one","other"] (cn Ba):=scI
theorem JA:Zt ["row","along"] ["row","along"] (cn Bb):=scI
theorem JB:Zt ["self","belt"] ["self","belt"] (cn Bc):=scI
theorem JC:Zt ["self","belt"] ["self","belt"] (cn Bd):=scI
theorem sW:Zt ["hall","tree","shares","work","step"] ["hall","tree"] (cn Be):=scI
theorem JD:Zt ["one","other"] ["one","other"] (cn Bf):=scI
theorem lO:Zt ["hall","forest","rates","tree","shares","common","share","work"] ["hall","forest"] (cn vT):=scI
theorem JE:Zt ["hall","counts"] ["hall","counts"] (cn vU):=scI
theorem JF:Zt ["hall","forest","belt","row","tree","to_giver","to_taker","shared","back"] ["hall","forest","belt"] (cn Bg):=scI
theorem qP:Zt ["hall","forest","rates","belt","change"] ["hall"] (cn Bh):=scI
theorem Bz:Zt ["hall","rates"] ["hall"] (cn Bi):=scI
theorem JG:Zt ["heaps","takes"] ["heaps","takes"] (cn vV):=scI
theorem kb:Zt ["self","starts","heaps","left","able","row","work","belt","take","give","other"] ["self","starts"] (cn vW):=scI
theorem qQ:Zt ["self","starts","counts","waits","belt","row","lying"] ["self","starts","counts"] (cn Bj):=scI
theorem oX:Zt ["self","starts","counts","waits","places","way","work"] ["self","starts","counts"] (cn Bk):=scI
theorem v8:Zt ["self","starts","row","counts"] ["self","starts"] (cn vX):=scI
theorem JH:Zt ["self","work"] ["self","work"] (cn vY):=scI
theorem JI:Zt ["hall","work"] ["hall","work"] (cn vZ):=scI
theorem JJ:Zt ["self","work"] ["self","work"] (cn v0):=scI
theorem JK:Zt ["hall","work"] ["hall","work"] (cn v1):=scI
theorem JL:Zt ["hall","work"] ["hall","work"] (cn v2):=scI
theorem JN:Zt ["self","hall","turns"] ["self","hall","turns"] (cn qM):=scI
theorem JO:Zt ["hall"] ["hall"] (cn Bl):=scI
theorem BA:Zt ["_law_found","_law_number"] ["_law_found"] (cn Bm):=scI
theorem v9:Zt ["_law_belts","_law_rates","_law_row","_law_lying","_law_work"] ["_law_belts","_law_rates","_law_row"] (cn qN):=scI
theorem v_:Zt ["self","row","works","work"] ["self","row"] (cn Bn):=scI
theorem JP:Zt ["self"] ["self"] (cn Bo):=scI
theorem JQ:Zt ["self"] ["self"] (cn Bp):=scI
theorem nG:Zt ["_law_joint","_law_many","_law_group","_law_cells","_law_kept","_law_row","_law_due","_law_work","_law_found"] ["_law_joint","_law_many","_law_group","_law_cells"] (cn sP):=scI
theorem kM:Zt ["_law_cell","_law_rates","_law_top","_law_ample","_law_mix","_law_giver","_law_taker","_law_both","_law_times_by","_law_give","_law_take","_law_start"] ["_law_cell","_law_rates","_law_top","_law_ample"] (cn Bq):=scI
theorem sX:Zt ["names","rows","hall","name","row"] ["names","rows"] (cn Br):=scI
theorem JR:Zt ["self"] ["self"] (cn Bs):=scI
theorem BB:Zt ["hall","group","work"] ["hall","group"] (cn Bt):=scI
theorem oY:Zt ["rates","members","common","member","turns"] ["rates","members"] (cn Bu):=scI
theorem sY:Zt ["hall","members","names","rows","row"] ["hall","members"] (cn v3):=scI
theorem sZ:Zt ["hall","turns","members","inner","row"] ["hall","turns"] (cn v4):=scI
theorem qR:Zt ["hall","turns","places","rows","row","give","take"] ["hall","turns","places"] (cn Bv):=scI
theorem qS:Zt ["kept","turns","places","number","work","member"] ["kept","turns"] (cn Bw):=scI
theorem s0:Zt ["self","hall","group","turns","names","first"] ["self","hall","group"] (cn sQ):=scI
theorem gc:Zt ["_law_script","_law_first","_law_many","_law_rates","_law_names_here","_law_belts","_law_k","_law_group","_law_hall","_law_joint","_law_made_here","_law_common_here","_law_work","_law_due","_law_row","_law_told","_law_handed","_law_found"] ["_law_script"] (cn sR):=scI
set_option genInjectivity false
set_option genSizeOf false
set_option genSizeOfSpec false
set_option genInjectivity false in
set_option genSizeOf false in
structure Tp(K:Frag)(mg:Str->Option Value) where
 {p:Addr}
 ah:mg "Hall" =some (.ref p)
 a:Cls K p
 e:VJ K p ["numbers","rows"]
 {b:Addr}
 P:mg "Course" =some (.ref b)
 i:Cls K b
 m:VJ K b ["turns","rows","takes","gives","touched"]
 {c:Addr}
 aq:mg "Joint" =some (.ref c)
 h:Cls K c
 o:VJ K c ["inner_row","kept","joined","called","rows"]
 x0:Dn K mg "_law_cell_at" "_law_cell_at" AQ ["_law_script","_law_k"]
 x1:Dn K mg "_law_names" "_law_names" AR ["_law_cell","_law_many"]
 x2:Dn K mg "_law_common" "_law_common" AS ["_law_one","_law_other"]
 x3:Dn K mg "_law_least" "_law_least" AT ["_law_rates","_law_belts"]
 x4:Dn K mg "_law_group_by" "_law_group_by" vP ["_law_cell","_law_many"]
 x5:Dn K mg "is_name" "is_name" vQ ["thing"]
 x6:Dm K p "work" "Hall.work" AU ["self","name"]
 x7:Dn K mg "is_whole" "is_whole" AV ["thing"]
 x8:Dn K mg "is_from" "is_from" AW ["thing","least"]
 x9:Dn K mg "need_start" "need_start" AX ["start"]
 ar:Dn K mg "is_number_below" "is_number_below" AY ["thing","bound"]
 aa:Dm K p "need_work" "Hall.need_work" AZ ["self","work"]
 aB:Dm K p "lay" "Hall.lay" A0 ["self","row"]
 {z:Addr}
 {A:FuncData}
 {BC:Addr}
 {ac:Tok}
 L:Ze1 K p "belt" z
 M:ZiW K "belt" "Hall.belt" A1 BC z A
 Sg:∃ft ef n sl,K.lookup BC=some ⟨ft,ef,.seq #[.int 0 ac] n,sl⟩
 N:W6 K A ["self","giver","taker","give","take","start"] []
 Sh:W6 K A ["self","giver","taker","give","take","start"] [.int 0 ac]
 Si:cR [.int 0] [.int 0 ac]
 aC:Di K p "Hall.__init__" A2 ["self"]
 aR:Dn K mg "_law_made" "_law_made" A3 ["_law_names_here","_law_belts"]
 aD:Dn K mg "_law_turned" "_law_turned" A4 ["_law_belts","_law_lying","_law_work"]
 aE:Dn K mg "_law_ready" "_law_ready" A5 ["_law_belts","_law_lying","_law_work"]
 aS:Dn K mg "_law_any_round" "_law_any_round" sO ["_law_belts","_law_rates","_law_cells"]
 O:Dm K p "belts" "Hall.belts" A6 ["self"]
 aF:Dn K mg "starts_of" "starts_of" vR ["hall"]
 al:Dm K p "names" "Hall.names" A7 ["self"]
 aT:Dn K mg "ways_of" "ways_of" vS ["hall"]
 aU:Dn K mg "tree_from" "tree_from" A8 ["ways","first"]
 aV:Dn K mg "forest_of" "forest_of" A9 ["hall"]
 au:Dn K mg "divisor" "divisor" A_ ["one","other"]
 av:Dn K mg "ratio" "ratio" A' ["top","bottom"]
 aW:Dn K mg "times" "times" Ba ["one","other"]
 aX:Dn K mg "gain" "gain" Bb ["row","along"]
 aY:Dm K p "need_belt" "Hall.need_belt" Bc ["self","belt"]
 am:Dm K p "belt_at" "Hall.belt_at" Bd ["self","belt"]
 aZ:Dn K mg "shares_of" "shares_of" Be ["hall","tree"]
 a0:Dn K mg "multiple" "multiple" Bf ["one","other"]
 a1:Dn K mg "rates_by" "rates_by" vT ["hall","forest"]
 a2:Dn K mg "change_of" "change_of" vU ["hall","counts"]
 Sj:Dn K mg "way_to" "way_to" Jl ["tree","work"]
 BD:Dn K mg "shared_steps" "shared_steps" Jm ["one","other"]
 a3:Dn K mg "ring_through" "ring_through" Bg ["hall","forest","belt"]
 a4:Dn K mg "rates_of" "rates_of" Bh ["hall"]
 aG:Dn K mg "round_rates" "round_rates" Bi ["hall"]
 aH:Dn K mg "enough" "enough" vV ["heaps","takes"]
 aI:Dm K b "row_from" "Course.row_from" vW ["self","starts"]
 a5:Dm K b "waits_behind" "Course.waits_behind" Bj ["self","starts","counts"]
 a6:Dm K b "ring_behind" "Course.ring_behind" Bk ["self","starts","counts"]
 a7:Dm K b "told_from" "Course.told_from" vX ["self","starts"]
 a8:Dm K p "entering" "Hall.entering" vY ["self","work"]
 a9:Dn K mg "takes_of" "takes_of" vZ ["hall","work"]
 aJ:Dm K p "leaving" "Hall.leaving" v0 ["self","work"]
 ba:Dn K mg "gives_of" "gives_of" v1 ["hall","work"]
 bb:Dn K mg "touched_by" "touched_by" v2 ["hall","work"]
 aK:Di K b "Course.__init__" qM ["self","hall","turns"]
 bc:Dn K mg "round_of" "round_of" Bl ["hall"]
 aL:Dn K mg "_law_wholes" "_law_wholes" Bm ["_law_found"]
 aM:Dn K mg "_law_is_round" "_law_is_round" qN ["_law_belts","_law_rates","_law_row"]
 ab:Dm K c "unfolded" "Joint.unfolded" Bn ["self","row"]
 bd:Dm K c "inner" "Joint.inner" Bo ["self"]
 aN:Dm K c "place" "Joint.place" Bp ["self"]
 be:Dn K mg "_law_any_row_good" "_law_any_row_good" sP ["_law_joint","_law_many","_law_group","_law_cells"]
 bf:Dn K mg "_law_belt_by" "_law_belt_by" Bq ["_law_cell","_law_rates","_law_top","_law_ample"]
 aO:Dn K mg "hall_of" "hall_of" Br ["names","rows"]
 bg:Dm K c "made" "Joint.made" Bs ["self"]
 bh:Dn K mg "need_group" "need_group" Bt ["hall","group"]
 bi:Dn K mg "turns_of" "turns_of" Bu ["rates","members"]
 bj:Dn K mg "inner_hall" "inner_hall" v3 ["hall","members"]
 bk:Dn K mg "inner_row_of" "inner_row_of" v4 ["hall","turns"]
 bl:Dn K mg "joined_rows" "joined_rows" Bv ["hall","turns","places"]
 bm:Dn K mg "places_of" "places_of" Bw ["kept","turns"]
 bn:Di K c "Joint.__init__" sQ ["self","hall","group"]
 aP:Dn K mg "law" "law" sR ["_law_script"]
 ay:mg "all" =none
 an:mg "bool" =none
 k:mg "enumerate" =none
 az:mg "int" =none
 l:mg "isinstance" =none
 f:mg "len" =none
 j:mg "list" =none
 y:mg "min" =none
 g:mg "range" =none
 V:mg "reversed" =none
 aA:mg "set" =none
 Q:mg "sorted" =none
 bo:mg "str" =none
 X:mg "sum" =none
 aw:mg "tuple" =none
 {ao:Addr}
 R:Ex K mg "NoName" ao
 {ax:Addr}
 Z:Ex K mg "Twice" ax
 {E:Addr}
 r:Ex K mg "TooMuch" E
 {q:Addr}
 w:Ex K mg "NoWork" q
 {S:Addr}
 T:Ex K mg "NoBelt" S
 {U:Addr}
 x:Ex K mg "NoRate" U
 {ad:Addr}
 u:Ex K mg "NotBalanced" ad
 {t:Addr}
 F:Ex K mg "TooLong" t
 {B:Addr}
 J:Ex K mg "Stuck" B
 C:exmOne K (.ref B) (.ref B)=some true
 {Y:Tok}
 D:mg "MOST_LETTERS" =some (.int 8 Y)
 {JS:Tok}
 G:mg "MOST_WORKS" =some (.int 30 JS)
 {JT:Tok}
 H:mg "MOST_BELTS" =some (.int 60 JT)
 {JU:Tok}
 I:mg "MOST_TURNS" =some (.int 400 JU)
 aQ:∀(s:Shared)(v:Value),BindsTo s aP.d ⟨[v],[]⟩ [("_law_script",v)]
variable {P:Program}{w:World}{K:Frag}{mg:Str->Option Value}{base:Heap}(T:Tp K mg)
set_option genInjectivity true
set_option genSizeOf true
set_option genSizeOfSpec true
theorem BE{a b:Int}(bD:0<=a)(ai:0<b):My.G b (a % b)=My.G a b:=by
 rw[<-qb2 _ (Int.le_of_lt ai)];exact My.ZnH bD ai
theorem ZpX{k:Nat}{x:Int}(h:My.S k x):Builtin.Int.intBits x<=2048*2 ^ k:=by
 unfold Builtin.Int.intBits
 split
 .exact qat _
 .rename_i hz;have cd:x.natAbs≠0:=by
   intro e;apply hz;have:x=0:=by omega
   rw[this]
   rfl
  have e:x.natAbs=x.toNat:=by have:=h.lo;omega
  have:=(qcl cd).mpr (by rw[e];exact h.hi);omega
theorem ZpW{k:Nat}{x:Int}(h:My.S k x)(br:k<=2):x.natAbs.log2<9000:=by
 by_cases cd:x.natAbs=0
 .rw[cd];decide+kernel
 .have e:x.natAbs=x.toNat:=by have:=h.lo;omega
  have l:=(qcl cd).mpr (by rw[e];exact(h.mono br).hi);omega
def Zl8(K:Frag):Sp:=λvs H Q _=>∃(a:Addr)(ns:List Int),vs=[.ref a]/\SqL K H a (ns.map V.int)/\ns.length<=63/\∀ae,Q (.bl true) ae
def JV(T:Tp K mg):Sp:=Zl8 K
noncomputable def hj (x:Str):Bool:=decide (1<=x.length)&&decide (x.length<=8)&&x.cps.toList.all λc=>decide (97<=c)&&decide (c<=122)
structure B5 where
 giver:Int
 taker:Int
 give:Int
 take:Int
 start:Int
noncomputable def B5.v (b:B5):List V:=[.int b.giver,.int b.taker,.int b.give,.int b.take,.int b.start]
structure HM where
 names:List Str
 belts:List B5
def eP (H:Hp):List V->List B5->Prop:=Paired λv b=>∃t,v= .ref t/\H t=some (.tup b.v)
noncomputable def numsOf (ns:List Str):List (Key×V):=ns.zipIdx.map λp=>(Sum.inr p.1,V.int p.2)
theorem Zah(ns:List Str):(numsOf ns).length=ns.length:=by unfold numsOf;simp
theorem JW(ns:List Str)(x:Str):numsOf (ns++ [x])=numsOf ns++ [(Sum.inr x,.int ns.length)]:=by
 unfold numsOf;rw[List.zipIdx_append];simp
theorem ZdP(ns:List Str):((numsOf ns).map λkv=>kV kv.1)=ns.map V.str:=by
 unfold numsOf;rw[qaP];have:((λkv:Key×V=>kV kv.1)∘λp:Str×Nat=>((Sum.inr p.1:Key),V.int p.2))=(V.str∘λp:Str×Nat=>p.1):=rfl;rw[this,<-qaP,List.zipIdx_map_fst]
theorem ZfP(ns:List Str)(x:Str):(valV (numsOf ns) (Sum.inr x)).isSome=decide (x∈ns):=by
 rw[<-VB];rw[qbI,qb5,decide_eq_true_eq];have e:x∈ns↔V.str x∈ns.map V.str:=by
  constructor
  .exact List.mem_map_of_mem
  .intro h;obtain⟨y,bO,e⟩:=qae.mp h;cases e;exact bO
 rw[e,<-ZdP,qae]
 constructor
 .rintro⟨p,bB,h⟩;exact⟨p,bB,by rw[of_decide_eq_true h];rfl⟩
 .rintro⟨p,bB,h⟩;exact⟨p,bB,decide_eq_true (Hb h)⟩
theorem JX{ns:List Str}{x:Str}(h:x∉ns):valV (numsOf ns) (Sum.inr x)=none:=by
 have:=ZfP ns x;rw[decide_eq_false h] at this;cases e:valV (numsOf ns) (Sum.inr x) with
 |none=>rfl
 |some v=>rw[e] at this;cases this
theorem JY{ns:List Str}{x:Str}(h:x∉ns):d_ (numsOf ns) (Sum.inr x) (.int ns.length)=numsOf (ns++ [x]):=by
 rw[V7 _ (JX h),JW]
def dg(H:Hp)(p:Addr)(ag:HM)(fp:List Addr):Prop:=
 ∃(bx a b:Addr)(bs:List V),fp=[p,bx,a,b]/\H p=some (.ins T.p bx [("numbers",.ref a),("rows",.ref b)])/\H bx=some (.own p)/\H a=some (.dK (numsOf ag.names))/\H b=some (.lst bs)/\a≠b/\eP H bs ag.belts
theorem eP.keep{H ae:Hp}(t:∀b xs,H b=some (.tup xs)->ae b=some (.tup xs)):∀{bs:List V}{ls:List B5},eP H bs ls->eP ae bs ls
 |_,_,.nil=> .nil
 |_,_,.cons ⟨a,e,h⟩ r=> .cons ⟨a,e,t _ _ h⟩ (eP.keep t r)
theorem eP.length{H:Hp}{bs:List V}{ls:List B5}(h:eP H bs ls):bs.length=ls.length:=Paired.length h
theorem eP.snoc{H:Hp}:∀{bs:List V}{ls:List B5}{t:Addr}{b:B5},eP H bs ls->H t=some (.tup b.v)->eP H (bs++ [.ref t]) (ls++ [b])
 |_,_,_,_,.nil,h=> .cons ⟨_,rfl,h⟩ .nil
 |_,_,_,_,.cons x r,h=> .cons x (eP.snoc r h)
theorem eP.at{H:Hp}:∀{bs:List V}{ls:List B5}{i:Nat}{b:B5},eP H bs ls->ls[i]? =some b->∃t,bs[i]? =some (.ref t)/\H t=some (.tup b.v)
 |_,_,_,_,.nil,e=>by simp at e
 |_,_,0,_,.cons ⟨t,bE,h⟩ _,e=>by simp at e;subst e;exact⟨t,by simp[bE],h⟩
 |_,_,i+1,b,.cons _ r,e=>by
  obtain⟨t,ak,a'⟩:=eP.at (i:=i) (b:=b) r (by simpa using e);exact⟨t,by simpa using ak,a'⟩
section
variable {K:Frag}{mg:Str->Option Value}{T:Tp K mg}{H ae:Hp}{p:Addr}{ag:HM}{fp:List Addr}
theorem dg.dom(h:dg T H p ag fp):∀x∈fp,H x≠none:=by
 obtain⟨bx,a,b,bs,rfl,ak,a',bL,cu,_⟩:=h;intro x bp;simp only[qah,qa2,or_false] at bp;rcases bp with rfl|rfl|rfl|rfl
 .rw[ak];simp
 .rw[a'];simp
 .rw[bL];simp
 .rw[cu];simp
theorem dg.keep(h:dg T H p ag fp)(k:∀x∈fp,ae x=H x)(t:∀b xs,H b=some (.tup xs)->ae b=some (.tup xs)):dg T ae p ag fp:=by
 obtain⟨bx,a,b,bs,rfl,ak,a',bL,cu,dJ,da⟩:=h;exact⟨bx,a,b,bs,rfl,(k p (by simp)).trans ak,(k bx (by simp)).trans a',(k a (by simp)).trans bL,(k b (by simp)).trans cu,dJ,da.keep t⟩
theorem dg.off{A:List Addr}(h:dg T H p ag fp)(f:db A H ae)(d:∀x∈fp,x∉A):dg T ae p ag fp:=by
 refine h.keep (λx bp=>?_) f.tups;cases q:H x with
 |none=>exact absurd q (h.dom x bp)
 |some o=>exact f.keep x o q (d x bp)
theorem Zko{m:Str}{G:Prop}(h:dg T H p ag fp)(fJ:(m== "numbers")=false)(gl:(m== "rows")=false)(q:G):∃a bx fs,V.ref p= .ref a/\H a=some (.ins T.p bx fs)/\fs.lookup m=none/\G:=by
 obtain⟨bx,a,b,bs,rfl,ak,_⟩:=h;exact⟨p,bx,_,rfl,ak,Rd.lk1 fJ (Rd.lk1 gl Rd.lkN),q⟩
theorem dg.same(h:dg T H p ag fp)(e:Zd H ae):dg T ae p ag fp:=h.off (A:=[]) e.frame (by simp)
end
noncomputable def dB:B5:=⟨0,0,0,0,0⟩
noncomputable def eK (ls:List B5) (w:Int):List Nat:=(List.range ls.length).filter λi=>decide ((ls.getD i dB).taker=w)
noncomputable def d1 (ls:List B5) (w:Int):List Nat:=(List.range ls.length).filter λi=>decide ((ls.getD i dB).giver=w)
theorem eP.getD{H:Hp}{bs:List V}{ls:List B5}{i:Nat}(h:eP H bs ls)(hi:i<ls.length):∃t,bs.getD i .non= .ref t/\H t=some (.tup (ls.getD i dB).v):=by
 obtain⟨t,ak,a'⟩:=h.at (GT hi);exact⟨t,by simp[List.getD,ak],by simpa[List.getD,hi] using a'⟩
theorem v'{n:Nat}(h:n<=10000):n<sizeLine:=qaO h (by decide)
noncomputable def nH (ls:List B5) (i:Nat) (w:Int):List Fo.Trip:=(if(ls.getD i dB).giver=w then[((ls.getD i dB).taker,(i:Int),true)] else[])++(if(ls.getD i dB).taker=w then[((ls.getD i dB).giver,(i:Int),false)] else[])
noncomputable def kc (ls:List B5) (k:Nat) (w:Int):List Fo.Trip:=(List.range k).flatMap λi=>nH ls i w
noncomputable def fF (ls:List B5):Int->List Fo.Trip:=kc ls ls.length
theorem Zh2(ls:List B5)(k:Nat)(w:Int):kc ls (k+1) w=kc ls k w++nH ls k w:=by
 unfold kc;rw[qbP,List.flatMap_append];simp
theorem qT{cT:Type}{xs:List cT}(nd:xs.Nodup){i j:Nat}(hi:i<xs.length)(bw:j<xs.length)(e:xs[i]=xs[j]):i=j:=by
 rcases Nat.lt_trichotomy i j with h|h|h
 .exact absurd e (qbn.mp nd i j hi bw h)
 .exact h
 .exact absurd e.symm (qbn.mp nd j i bw hi h)
theorem ei{H ae:Hp}{x:Addr}(s:Zd H ae)(h:ae x=none):H x=none:=by
 cases e:H x with
 |none=>rfl
 |some o=>rw[s _ _ e] at h;cases h
theorem dr{cT:Type}{xs:List cT}{i:Nat}{d:cT}(h:i<xs.length):xs.getD i d=xs[i]:=by simp[List.getD,h]
theorem UE{ls:List B5}{w:Int}{t:Fo.Trip}(h:t∈fF ls w):∃(i:Nat)(hi:i<ls.length),t∈nH ls i w:=by
 unfold fF kc at h;obtain⟨i,hi,bX⟩:=List.mem_flatMap.mp h;exact⟨i,qaw.mp hi,bX⟩
theorem oZ{ls:List B5}{w:Int}{t:Fo.Trip}{i:Nat}(hi:i<ls.length)(h:t∈nH ls i w):t∈fF ls w:=by
 unfold fF kc;exact List.mem_flatMap.mpr ⟨i,qaw.mpr hi,h⟩
theorem Wb{ls:List B5}{i:Nat}{w:Int}{t:Fo.Trip}:t∈nH ls i w↔((ls.getD i dB).giver=w/\t=((ls.getD i dB).taker,(i:Int),true))\/((ls.getD i dB).taker=w/\t=((ls.getD i dB).giver,(i:Int),false)):=by
 unfold nH;rw[qaI]
 by_cases ak:(ls.getD i dB).giver=w<;>by_cases a':(ls.getD i dB).taker=w<;>simp[ak,a']
theorem s1(ls:List B5):Fo.ZlQ (fF ls):=by
 intro a b t al h;obtain⟨i,hi,bX⟩:=UE h;refine oZ hi ?_;rw[Wb] at bX|-;rcases bX with⟨ak,a'⟩|⟨ak,a'⟩
 .injection a' with bE bP
  injection bP with bP dj
  exact .inr ⟨bE.symm,by rw[<-ak,bP,dj];rfl⟩
 .injection a' with bE bP
  injection bP with bP dj
  exact .inl ⟨bE.symm,by rw[<-ak,bP,dj];rfl⟩
def ZB(ls:List B5)(n:Nat):Prop:=∀b∈ls,0<=b.giver/\b.giver<(n:Int)/\0<=b.taker/\b.taker<(n:Int)
theorem ZB.at{ls:List B5}{n i:Nat}(h:ZB ls n)(hi:i<ls.length):0<=(ls.getD i dB).giver/\(ls.getD i dB).giver<(n:Int)/\0<=(ls.getD i dB).taker/\(ls.getD i dB).taker<(n:Int):=by
 rw[dr hi];exact h _ (GM hi)
theorem o0{ls:List B5}{n:Nat}(h:ZB ls n):∀a,∀t∈fF ls a,0<=t.1/\t.1<(n:Int):=by
 intro a t bX;obtain⟨i,hi,bz⟩:=UE bX;have:=h.at hi;rw[Wb] at bz;rcases bz with⟨_,rfl⟩|⟨_,rfl⟩<;>(dsimp only;omega)
def iV (H:Hp):List Fo.Trip->List V->Prop:=Paired λx v=>∃t,v= .ref t/\H t=some (.tup [.int x.1,.int x.2.1,.bl x.2.2])
theorem iV.keep{H ae:Hp}(t:∀b xs,H b=some (.tup xs)->ae b=some (.tup xs)){vs:List V}{l:List Fo.Trip}(h:iV H l vs):iV ae l vs:=Paired.mapP h λ_ _ ⟨a,e,z⟩=>⟨a,e,t _ _ z⟩
theorem iV.snoc{H:Hp}:∀{l:List Fo.Trip}{vs:List V}{x:Fo.Trip}{t:Addr},iV H l vs->H t=some (.tup [.int x.1,.int x.2.1,.bl x.2.2])->iV H (l++ [x]) (vs++ [.ref t])
 |_,_,_,_,.nil,h=> .cons ⟨_,rfl,h⟩ .nil
 |_,_,_,_,.cons y r,h=> .cons y (iV.snoc r h)
theorem iV.length{H:Hp}{l:List Fo.Trip}{vs:List V}(h:iV H l vs):l.length=vs.length:=Paired.length h
theorem iV.at{H:Hp}:∀{l:List Fo.Trip}{vs:List V}{i:Nat}{x:Fo.Trip},iV H l vs->l[i]? =some x->∃t,vs[i]? =some (.ref t)/\H t=some (.tup [.int x.1,.int x.2.1,.bl x.2.2])
 |_,_,_,_,.nil,e=>by simp at e
 |_,_,0,_,.cons ⟨t,bE,h⟩ _,e=>by simp at e;subst e;exact⟨t,by simp[bE],h⟩
 |_,_,i+1,b,.cons _ r,e=>by
  obtain⟨t,ak,a'⟩:=iV.at (i:=i) (x:=b) r (by simpa using e);exact⟨t,by simpa using ak,a'⟩
def WA(H:Hp)(cp:List Addr)(W:Int->List Fo.Trip):Prop:=∀(j:Nat)(h:j<cp.length),∃vs,H cp[j]=some (.lst vs)/\iV H (W (j:Int)) vs
theorem WA.same{H ae:Hp}{cp:List Addr}{W:Int->List Fo.Trip}(h:WA H cp W)(s:Zd H ae):WA ae cp W:=λj bw=>by
 obtain⟨vs,ak,a'⟩:=h j bw;exact⟨vs,s _ _ ak,a'.keep λ_ _ e=>s _ _ e⟩
theorem WA.add{H:Hp}{cp:List Addr}{W:Int->List Fo.Trip}(h:WA H cp W)(nd:cp.Nodup){g:Nat}(bG:g<cp.length){vs:List V}(bS:H cp[g]=some (.lst vs))(bX:iV H (W (g:Int)) vs){t:Addr}{x:Fo.Trip}(JZ:H t=some (.tup [.int x.1,.int x.2.1,.bl x.2.2])):
  WA (upd H cp[g] (.lst (vs++ [.ref t]))) cp (λj=>W j++(if(g:Int)=j then[x] else[])):=by
 have gd:∀b xs,H b=some (.tup xs)->(upd H cp[g] (.lst (vs++ [.ref t]))) b=some (.tup xs):=λb xs e=>by rw[b6 (gk e bS (by intro z;cases z))];exact e
 intro j bw
 by_cases e:j=g
 .subst e;refine⟨vs++ [.ref t],Ze,?_⟩;dsimp only;rw[if_pos rfl];exact(bX.keep gd).snoc (gd _ _ JZ)
 .obtain⟨us,ak,a'⟩:=h j bw;have ne:cp[j]≠cp[g]:=λz=>e (qT nd bw bG z);refine⟨us,by rw[b6 ne];exact ak,?_⟩;dsimp only;rw[if_neg (by omega),qcd];exact a'.keep gd
structure Zcp(H:Hp)(r:Addr)(cp:List Addr)(n:Nat)(W:Int->List Fo.Trip):Prop where
 at_:H r=some (.lst (cp.map V.ref))
 len:cp.length=n
 nd:cp.Nodup
 wa:WA H cp W
theorem Zcp.same{H ae:Hp}{r:Addr}{cp:List Addr}{n:Nat}{W:Int->List Fo.Trip}(h:Zcp H r cp n W)(s:Zd H ae):Zcp ae r cp n W:=⟨s _ _ h.at_,h.len,h.nd,h.wa.same s⟩
theorem Zfe{cp:List Addr}{g:Int}(cd:0<=g)(ak:g.toNat<cp.length):atI (cp.map V.ref) g=some (.ref cp[g.toNat]):=by
 have:=gJ (xs:=cp.map V.ref) (j:=g.toNat) (v:= .ref cp[g.toNat]) (by simp[ak])
 rwa [qas cd] at this
def o1 (H:Hp) (v:V):Option Fo.Trip->Prop
 |none=>v= .non
 |some (p,b,al)=>∃t,v= .ref t/\H t=some (.tup [.int p,.int b,.bl al])
theorem o1.keep{H ae:Hp}(t:∀b xs,H b=some (.tup xs)->ae b=some (.tup xs)){v:V}:∀{s:Option Fo.Trip},o1 H v s->o1 ae v s
 |none,h=>h
 |some (_,_,_),⟨a,e,z⟩=>⟨a,e,t _ _ z⟩
def Ent (H:Hp):List (Key×V)->Fo.ZX->Prop:=Paired λkv x=>kv.1=Sum.inl x.1/\o1 H kv.2 x.2
theorem Ent.keep{H ae:Hp}(t:∀b xs,H b=some (.tup xs)->ae b=some (.tup xs)){kvs:List (Key×V)}{bV:Fo.ZX}(h:Ent H kvs bV):Ent ae kvs bV:=Paired.mapP h λ_ _ ⟨a,z⟩=>⟨a,z.keep t⟩
theorem Ent.snoc{H:Hp}:∀{kvs:List (Key×V)}{bV:Fo.ZX}{w:Int}{v:V}{s:Option Fo.Trip},Ent H kvs bV->o1 H v s->Ent H (kvs++ [(Sum.inl w,v)]) (bV++ [(w,s)])
 |_,_,_,_,_,.nil,h=> .cons ⟨rfl,h⟩ .nil
 |_,_,_,_,_,.cons y r,h=> .cons y (Ent.snoc r h)
theorem Ent.length{H:Hp}{kvs:List (Key×V)}{bV:Fo.ZX}(h:Ent H kvs bV):kvs.length=bV.length:=Paired.length h
theorem Ent.keys{H:Hp}:∀{kvs:List (Key×V)}{bV:Fo.ZX},Ent H kvs bV->kvs.map (·.1)=(Fo.keys bV).map Sum.inl
 |_,_,.nil=>rfl
 |_,_,.cons ⟨a,_⟩ r=>by
  have:=Ent.keys r;unfold Fo.keys at this|-;rw[List.map_cons,List.map_cons,List.map_cons,a,this]
theorem Ent.some{H:Hp}:∀{kvs:List (Key×V)}{bV:Fo.ZX}{w:Int},Ent H kvs bV->((valV kvs (Sum.inl w)).isSome=true↔w∈Fo.keys bV):=by
 intro kvs bV w h;rw[<-VB,qb5];have br:=h.keys
 constructor
 .rintro⟨kv,bz,e⟩;have bE:kv.1=Sum.inl w:=of_decide_eq_true e;have:kv.1∈kvs.map (·.1):=List.mem_map_of_mem bz;rw[br,bE] at this;obtain⟨d3,kd,bP⟩:=qae.mp this;cases bP;exact kd
 .intro hw;have:(Sum.inl w:Key)∈(Fo.keys bV).map Sum.inl:=List.mem_map_of_mem hw;rw[<-br] at this;obtain⟨kv,bz,e⟩:=qae.mp this;exact⟨kv,bz,decide_eq_true e⟩
def VT(H:Hp)(d:Addr)(bV:Fo.ZX):Prop:=∃kvs,H d=some (.dK kvs)/\Ent H kvs bV
theorem VT.same{H ae:Hp}{d:Addr}{bV:Fo.ZX}(h:VT H d bV)(s:Zd H ae):VT ae d bV:=by
 obtain⟨kvs,ak,a'⟩:=h;exact⟨kvs,s _ _ ak,a'.keep λ_ _ e=>s _ _ e⟩
theorem BF:∀(more kvs:List (Key×V))(k:Key),(valV (gq kvs more) k).isSome=((valV kvs k).isSome||(valV more k).isSome)
 | [],kvs,k=>by
  show(valV kvs k).isSome=((valV kvs k).isSome||(valV ([]:List (Key×V)) k).isSome);have:valV ([]:List (Key×V)) k=none:=rfl;rw[this,Option.isSome_none,Bool.or_false]
 |(j,v)::r,kvs,k=>by
  show(valV (gq (d_ kvs j v) r) k).isSome=_;rw[BF r (d_ kvs j v) k,kE]
  by_cases e:j=k
  .subst e;rw[if_pos rfl,je rfl];simp
  .rw[if_neg (λz=>e z.symm),jf e]
theorem Paired.get'{cT gF:Type}{P:cT->gF->Prop}:∀{xs:List cT}{ys:List gF}{i:Nat}{x:cT},Paired P xs ys->xs[i]? =some x->∃y,ys[i]? =some y/\P x y
 |_,_,_,_,.nil,e=>by simp at e
 |_,_,0,_,.cons h _,e=>by simp at e;subst e;exact⟨_,rfl,h⟩
 |_,_,i+1,x,.cons _ r,e=>by
  obtain⟨y,ak,a'⟩:=Paired.get' (i:=i) (x:=x) r (by simpa using e);exact⟨y,by simpa using ak,a'⟩
def hk (H:Hp):List Addr->List (Int×Fo.ZX)->Prop:=Paired λd x=>VT H d x.2
theorem hk.same{H ae:Hp}{ck:List Addr}{F:List (Int×Fo.ZX)}(h:hk H ck F)(s:Zd H ae):hk ae ck F:=Paired.mapP h λ_ _ z=>z.same s
theorem hk.snoc{H:Hp}:∀{ck:List Addr}{F:List (Int×Fo.ZX)}{d:Addr}{x:Int×Fo.ZX},hk H ck F->VT H d x.2->hk H (ck++ [d]) (F++ [x])
 |_,_,_,_,.nil,h=> .cons h .nil
 |_,_,_,_,.cons y r,h=> .cons y (hk.snoc r h)
theorem hk.keep{H ae:Hp}(t:∀b xs,H b=some (.tup xs)->ae b=some (.tup xs)):∀{ck:List Addr}{F:List (Int×Fo.ZX)},hk H ck F->(∀d∈ck,∀kvs,H d=some (.dK kvs)->ae d=some (.dK kvs))->hk ae ck F
 |_,_,.nil,_=> .nil
 |_,_,.cons ⟨kvs,ak,a'⟩ r,k=> .cons ⟨kvs,k _ (by simp) _ ak,a'.keep t⟩ (hk.keep t r λd hd=>k d (qax _ hd))
theorem hk.length{H:Hp}{ck:List Addr}{F:List (Int×Fo.ZX)}(h:hk H ck F):ck.length=F.length:=Paired.length h
structure ZlS(H:Hp)(f:Addr)(ck:List Addr)(F:List (Int×Fo.ZX)):Prop where
 at_:H f=some (.lst (ck.map V.ref))
 trees:hk H ck F
theorem Y1{ns:List Int}{k:Int}(cd:0<=k)(ak:k<ns.length):atI (ns.map V.int) k=some (.int (ns.getD k.toNat 0)):=by
 obtain⟨n,rfl⟩:=qaL cd;have bH:n<ns.length:=by omega
 refine gJ ?_;simp[List.getD,bH]
theorem Zl7{n a:Nat}(h:a<2 ^ n):Builtin.Int.intBits (a:Int)<=n:=by
 unfold Builtin.Int.intBits
 split
 .exact qat _
 .rename_i hz;have cd:(a:Int).natAbs≠0:=by
   intro e;apply hz;have:(a:Int)=0:=by omega
   rw[this]
   rfl
  have e:(a:Int).natAbs=a:=qci a;have:=(qcl cd).mpr (by rw[e];exact h);omega
theorem Zcv{n m a b:Nat}(bD:a<2 ^ n)(ai:b<2 ^ m)(h:n+m<=10000000):IntMulOk (a:Int) (b:Int):=by
 have eE:=Zl7 bD;have fC:=Zl7 ai;have k:Builtin.Int.intTooBig ((Builtin.Int.intBits (a:Int):Int)+(Builtin.Int.intBits (b:Int):Int))=false:=by
  unfold Builtin.Int.intTooBig;rw[PySem.bitsLine_eq];exact decide_eq_false (by omega)
 unfold IntMulOk;rw[k];simp
theorem J0{a:Nat}(h:a<2 ^ 8000):(a:Int).natAbs.log2<9000:=by
 rw[qci]
 by_cases cd:a=0
 .rw[cd];decide+kernel
 .have:=(qcl cd).mpr h;omega
theorem ZlP{a b:Nat}(ai:0<b)(h:b<2 ^ 8000):0<(b:Int)/\(b:Int).natAbs.log2<9000:=⟨by omega,J0 h⟩
theorem qU{a b n m:Nat}(bD:a<2 ^ n)(ai:b<2 ^ m):a*b<2 ^ (n+m):=by
 rw[Nat.pow_add];exact Nat.mul_lt_mul'' bD ai
def Bal(B:B5)(al:Bool)(x y:Nat×Nat):Prop:=if al=true then x.1*y.2*B.take.toNat=y.1*x.2*B.give.toNat else x.1*y.2*B.give.toNat=y.1*x.2*B.take.toNat
structure jp(ls:List B5)(bV:Fo.ZX)(zs:List (Int×(Nat×Nat)))(d:Nat):Prop where
 keys:zs.map (·.1)=(Fo.keys bV).take d
 pos:∀x∈zs,0<x.2.1/\0<x.2.2/\Nat.gcd x.2.1 x.2.2=1
 size:∀(i:Nat) x,zs[i]? =some x->x.2.1<2 ^ (110*i+1)/\x.2.2<2 ^ (110*i+1)
 first:∀(i:Nat)(w:Int),i<d->bV[i]? =some (w,none)->zs[i]? =some (w,(1,1))
 step:∀(i:Nat)(w p b:Int)(al:Bool),i<d->bV[i]? =some (w,some (p,b,al))->∃(j:Nat)(x y:Nat×Nat),j<i/\zs[i]? =some (w,x)/\zs[j]? =some (p,y)/\Bal (ls.getD b.toNat dB) al x y
theorem J1{ls:List B5}{bV:Fo.ZX}:jp ls bV [] 0:=⟨rfl,by simp,by simp,λi w h=>absurd h (qa3 _),λi w p b al h=>absurd h (qa3 _)⟩
theorem jp.len{ls:List B5}{bV:Fo.ZX}{zs:List (Int×(Nat×Nat))}{d:Nat}(h:jp ls bV zs d)(hd:d<=bV.length):zs.length=d:=by
 have:=congrArg List.length h.keys;rw[GE,qaC] at this;simp[Fo.keys] at this;omega
theorem Zk3{cT:Type}{zs:List cT}{x y:cT}{i:Nat}(h:(zs++ [x])[i]? =some y):zs[i]? =some y\/(i=zs.length/\y=x):=by
 rcases qa8 i zs.length with c|c
 .rw[qaK c] at h;exact .inl h
 .rw[qaS c] at h;have:i-zs.length=0:=by
   rcases qbi (i-zs.length) with z|z
   .exact z
   .rw[qa0 (by simp;omega)] at h;cases h
  rw[this] at h;simp at h;exact .inr ⟨by omega,h.symm⟩
theorem s2{cT:Type}{zs:List cT}{x y:cT}{i:Nat}(h:zs[i]? =some y):(zs++ [x])[i]? =some y:=by
 rw[qaK (qaa.mp h).1];exact h
theorem ZeA{cT:Type}{zs:List cT}{x:cT}:(zs++ [x])[zs.length]? =some x:=by rw[qaS (qab _),Nat.sub_self];rfl
theorem jp.more{ls:List B5}{bV:Fo.ZX}{zs:List (Int×(Nat×Nat))}{d:Nat}(h:jp ls bV zs d)(hd:d<bV.length){w:Int}{st:Option Fo.Trip}(e:bV[d]? =some (w,st)){x:Nat×Nat}(bB:0<x.1/\0<x.2/\Nat.gcd x.1 x.2=1)(hs:x.1<2 ^ (110*d+1)/\x.2<2 ^ (110*d+1))
  (bH:st=none->x=(1,1)) (eN:∀p b al,st=some (p,b,al)->∃(j:Nat)(y:Nat×Nat),zs[j]? =some (p,y)/\Bal (ls.getD b.toNat dB) al x y):jp ls bV (zs++ [(w,x)]) (d+1):=by
 have ag:=h.len (qbt hd);have br:(Fo.keys bV)[d]? =some w:=by unfold Fo.keys;rw[qak,e];rfl
 refine⟨?_,λy bO=>?_,λi y bO=>?_,λi d3 hi b'=>?_,λi d3 p b al hi b'=>?_⟩
 .rw[qaG,h.keys,List.take_succ,br];rfl
 .rcases qaI.mp bO with z|z
  .exact h.pos y z
  .rw[qac.mp z];exact bB
 .rcases Zk3 bO with z|⟨cE,cJ⟩
  .exact h.size i y z
  .rw[cJ,cE,ag];exact hs
 .rcases qbd.mp hi with z|z
  .exact s2 (h.first i d3 z b')
  .subst z;rw[e] at b';cases b';rw[bH rfl,<-ag];exact ZeA
 .rcases qbd.mp hi with z|z
  .obtain⟨j,ff,gR,ak,a',bL,cu⟩:=h.step i d3 p b al z b';exact⟨j,ff,gR,ak,s2 a',s2 bL,cu⟩
  .subst z;rw[e] at b';cases b';obtain⟨j,y,ak,a'⟩:=eN p b al rfl;have bw:=(qaa.mp ak).1;refine⟨j,x,y,by omega,?_,s2 ak,a'⟩;rw[<-ag];exact ZeA
def ShE (H:Hp):List (Key×V)->List (Int×(Nat×Nat))->Prop:=Paired λkv x=>kv.1=Sum.inl x.1/\∃t,kv.2= .ref t/\H t=some (.tup [.int (x.2.1:Nat),.int (x.2.2:Nat)])
theorem ShE.keep{H ae:Hp}(t:∀b xs,H b=some (.tup xs)->ae b=some (.tup xs)){kvs:List (Key×V)}{zs:List (Int×(Nat×Nat))}(h:ShE H kvs zs):ShE ae kvs zs:=Paired.mapP h λ_ _ ⟨a,c,e,z⟩=>⟨a,c,e,t _ _ z⟩
theorem ShE.snoc{H:Hp}:∀{kvs:List (Key×V)}{zs:List (Int×(Nat×Nat))}{w:Int}{t:Addr}{x:Nat×Nat},ShE H kvs zs->H t=some (.tup [.int (x.1:Nat),.int (x.2:Nat)])->ShE H (kvs++ [(Sum.inl w,.ref t)]) (zs++ [(w,x)])
 |_,_,_,_,_,.nil,h=> .cons ⟨rfl,_,rfl,h⟩ .nil
 |_,_,_,_,_,.cons y r,h=> .cons y (ShE.snoc r h)
theorem ShE.length{H:Hp}{kvs:List (Key×V)}{zs:List (Int×(Nat×Nat))}(h:ShE H kvs zs):kvs.length=zs.length:=Paired.length h
theorem ShE.get{H:Hp}:∀{kvs:List (Key×V)}{zs:List (Int×(Nat×Nat))}{p:Int},ShE H kvs zs->p∈zs.map (·.1)->∃(y:Nat×Nat)(t:Addr),(p,y)∈zs/\valV kvs (Sum.inl p)=some (.ref t)/\H t=some (.tup [.int (y.1:Nat),.int (y.2:Nat)])
 |_,_,_,.nil,h=>by simp at h
 |_,_,p,.cons (a:=kv) (b:=z) ⟨a,t,e,bX⟩ r,h=>by
  obtain⟨k,v⟩:=kv;obtain⟨w,x⟩:=z;dsimp only at a e bX;subst a e
  by_cases c:w=p
  .subst c;exact⟨x,t,by simp,je rfl,bX⟩
  .have h':p∈_:=(qah.mp h).resolve_left (λy=>c y.symm);obtain⟨y,t',ak,a',bL⟩:=ShE.get r h';exact⟨y,t',qax _ ak,by rw[jf (λy=>c (qbL y))];exact a',bL⟩
theorem ShE.none{H:Hp}{kvs:List (Key×V)}{zs:List (Int×(Nat×Nat))}{p:Int}(h:ShE H kvs zs)(bB:p∉zs.map (·.1)):valV kvs (Sum.inl p)=none:=by
 cases e:valV kvs (Sum.inl p) with
 |none=>rfl
 |some v=>
  exfalso;have:(valV kvs (Sum.inl p)).isSome=true:=by rw[e];rfl
  rw[<-VB,qb5] at this;obtain⟨kv,bz,bP⟩:=this;obtain⟨i,hi,rfl⟩:=qan bz;obtain⟨z,hz,a,_⟩:=Paired.get' h (GT hi);have dj:kvs[i].1=Sum.inl p:=of_decide_eq_true bP;rw[a] at dj;have:z.1=p:=qbL dj;exact bB (qae.mpr ⟨z,qav hz,this⟩)
theorem ZiO{y u:Nat×Nat}{x:Nat×Nat}{cX b1 G n:Nat}(ke:0<y.1)(hY:0<y.2)(dS:0<cX)(fN:0<b1)(hu:u.1=cX / G)(bS:u.2=b1 / G)(fZ:G=Nat.gcd cX b1)(bp:x.1=y.1*u.1 / Nat.gcd (y.1*u.1) (y.2*u.2))(jJ:x.2=y.2*u.2 / Nat.gcd (y.1*u.1) (y.2*u.2)):
  (0<x.1/\0<x.2/\Nat.gcd x.1 x.2=1)/\x.1*y.2*b1=y.1*x.2*cX/\x.1<=y.1*cX/\x.2<=y.2*b1:=by
 have Sk:0<G:=by rw[fZ];exact qbH _ dS
 have ku:G ∣ cX:=by rw[fZ];exact qby _ _
 have gQ:G ∣ b1:=by rw[fZ];exact qa6 _ _
 have bE:cX=u.1*G:=by rw[hu,qbN ku]
 have bP:b1=u.2*G:=by rw[bS,qbN gQ]
 have J2:0<u.1:=by rcases qbi u.1 with z|z;rw[z,Nat.zero_mul] at bE;omega;exact z
 have kN:0<u.2:=by rcases qbi u.2 with z|z;rw[z,Nat.zero_mul] at bP;omega;exact z
 have wb:0<y.1*u.1:=qcv ke J2;have J3:0<y.2*u.2:=qcv hY kN;have o2:0<Nat.gcd (y.1*u.1) (y.2*u.2):=qbH _ wb;have e9:x.1*Nat.gcd (y.1*u.1) (y.2*u.2)=y.1*u.1:=by rw[bp,qbN (qby _ _)]
 have eb:x.2*Nat.gcd (y.1*u.1) (y.2*u.2)=y.2*u.2:=by rw[jJ,qbN (qa6 _ _)]
 refine⟨⟨?_,?_,?_⟩,?_,?_,?_⟩
 .rw[bp];exact qcw (qbE wb (qby _ _)) o2
 .rw[jJ];exact qcw (qbE J3 (qa6 _ _)) o2
 .rw[bp,jJ];exact Nat.gcd_div_gcd_div_gcd_of_pos_left wb
 .generalize Nat.gcd (y.1*u.1) (y.2*u.2)=g at*;have k:x.1*(y.2*u.2)=(y.1*u.1)*x.2:=by rw[<-eb,<-e9,qbl x.2 g,qaN]
  calc x.1*y.2*b1=x.1*(y.2*u.2)*G:=by rw[bP];simp only[qaN]
   _=(y.1*u.1)*x.2*G:=by rw[k]
   _=y.1*x.2*cX:=by rw[bE,qcj y.1 u.1 x.2,qaN (y.1*x.2)]
 .have ak:x.1<=y.1*u.1:=by rw[bp];exact qba _ _
  have a':u.1<=cX:=by rw[hu];exact qba _ _
  exact qaj ak (qca _ a')
 .have ak:x.2<=y.2*u.2:=by rw[jJ];exact qba _ _
  have a':u.2<=b1:=by rw[bS];exact qba _ _
  exact qaj ak (qca _ a')
theorem Zn9{H:Hp}{kvs:List (Key×V)}{bV:Fo.ZX}{i:Nat}{kv:Key×V}(h:Ent H kvs bV)(e:kvs[i]? =some kv):∃w st,bV[i]? =some (w,st)/\kv.1=Sum.inl w/\o1 H kv.2 st:=by
 obtain⟨⟨w,st⟩,ak,a',bL⟩:=Paired.get' h e;exact⟨w,st,ak,a',bL⟩
theorem Zfh{H:Hp}{a:Addr}{u:HO}(h:L2.Rd H a u):H a≠none:=by
 rcases h with h|⟨o,h⟩<;>(rw[h];simp)
theorem qV{H:Hp}{d:Addr}{kvs:List (Key×V)}{o:Obj}(h:L2.Rd H d (.dK kvs)):db [d] H (upd H d (.frz o (.dK kvs))):=by
 refine⟨λb x e n=>?_,λb xs e=>?_⟩
 .rw[b6 (λz=>n (by simp[z]))];exact e
 .have:b≠d:=λz=>by
   rw[z] at e;rcases h with h|⟨cx,h⟩<;>(rw[h] at e;cases e)
  rw[b6 this];exact e
def Yx(ls:List B5):Prop:=∀i<ls.length,∃cX b1,0<cX/\0<b1/\cX<2 ^ 110/\b1<2 ^ 110/\(ls.getD i dB).give=((cX:Nat):Int)/\(ls.getD i dB).take=((b1:Nat):Int)
theorem J4{ls:List B5}{n:Nat}{F:List (Int×Fo.ZX)}(ai:ZB ls n)(hw:Fo.VQ (fF ls) n F n){i j:Nat}{x y:Int×Fo.ZX}(hi:F[i]? =some x)(bw:F[j]? =some y)(ne:i≠j):∀w∈Fo.keys x.2,w∉Fo.keys y.2:=by
 intro w ak a';obtain⟨g1,e9,_,_⟩:=hw.tree x (qav hi);obtain⟨g2,eb,_,_⟩:=hw.tree y (qav bw);have a1:=(g1.keys_iff e9 w).mp ak;have a2:=(g2.keys_iff eb w).mp a';have bE:=hw.least x (qav hi) y.1 ((g1.keys_iff e9 _).mpr (a1.trans (a2.symm (s1 ls))));have bP:=hw.least y (qav bw) x.1 ((g2.keys_iff eb _).mpr (a2.trans (a1.symm (s1 ls))));obtain⟨dy,f0⟩:=qaa.mp hi;obtain⟨gb,nI⟩:=qaa.mp bw;rcases Nat.lt_or_gt_of_ne ne with z|z
 .have:=qbn.mp hw.rise i j dy gb z;rw[f0,nI] at this;omega
 .have:=qbn.mp hw.rise j i gb dy z;rw[f0,nI] at this;omega
theorem s3{cT gF:Type}{P BG:cT->gF->Prop}:∀{xs:List cT}{ys:List gF},Paired P xs ys->(∀x y,x∈xs->P x y->BG x y)->Paired BG xs ys
 |_,_,.nil,_=> .nil
 |_,_,.cons h r,f=> .cons (f _ _ (by simp) h) (s3 r λx y bp=>f x y (qax _ bp))
def Wy (H:Hp):List Addr->List (Int×Fo.ZX)->Prop:=Paired λd x=>∃kvs,L2.Rd H d (.dK kvs)/\Ent H kvs x.2
theorem hk.r{H:Hp}{ck:List Addr}{F:List (Int×Fo.ZX)}(h:hk H ck F):Wy H ck F:=Paired.mapP h λ_ _ ⟨kvs,a,b⟩=>⟨kvs,.inl a,b⟩
theorem Wy.same{H ae:Hp}{ck:List Addr}{F:List (Int×Fo.ZX)}(h:Wy H ck F)(s:Zd H ae):Wy ae ck F:=Paired.mapP h λ_ _ ⟨kvs,a,b⟩=>⟨kvs,a.imp (s _ _) (λ⟨o,z⟩=>⟨o,s _ _ z⟩),b.keep λ_ _ e=>s _ _ e⟩
theorem Wy.length{H:Hp}{ck:List Addr}{F:List (Int×Fo.ZX)}(h:Wy H ck F):ck.length=F.length:=Paired.length h
theorem Znk{H:Hp}{d:Addr}{k1 k2:List (Key×V)}(ak:L2.Rd H d (.dK k1))(a':L2.Rd H d (.dK k2)):k1=k2:=by
 rcases ak with a|⟨Sl,a⟩<;>rcases a' with b|⟨iQ,b⟩<;>(rw[a] at b;cases b)<;>rfl
theorem Wy.frz{H:Hp}{ck:List Addr}{F:List (Int×Fo.ZX)}(h:Wy H ck F){d:Addr}{kvs:List (Key×V)}{o:Obj}(hd:L2.Rd H d (.dK kvs)):Wy (upd H d (.frz o (.dK kvs))) ck F:=Paired.mapP h λd' _ ⟨k,a,b⟩=>by
 refine⟨k,?_,b.keep (qV hd).tups⟩
 by_cases z:d'=d
 .subst z;rw[Znk a hd];exact .inr ⟨o,Ze⟩
 .rcases a with a|⟨cx,a⟩
  .exact .inl (by rw[b6 z];exact a)
  .exact .inr ⟨cx,by rw[b6 z];exact a⟩
noncomputable def lcmL (zs:List (Int×(Nat×Nat))):Nat:=zs.foldl (λc x=>Nat.lcm c x.2.2) 1
theorem J5(zs:List (Int×(Nat×Nat)))(x:Int×(Nat×Nat)):lcmL (zs++ [x])=Nat.lcm (lcmL zs) x.2.2:=by unfold lcmL;rw[qb1];rfl
theorem ZlW{a b:Nat}:a / Nat.gcd a b*b=Nat.lcm a b:=by
 unfold Nat.lcm;rw[Nat.div_mul_right_comm (qby a b)]
theorem BH{a b n m:Nat}(bD:a<2 ^ n)(ai:b<2 ^ m):Nat.lcm a b<2 ^ (n+m):=by
 unfold Nat.lcm;exact qaO (qba _ _) (qU bD ai)
def nJ(ls:List B5)(x:Int×Fo.ZX)(rs:List Int):Prop:=∃zs,jp ls x.2 zs x.2.length/\∀y∈zs,rs[y.1.toNat]? =some ((lcmL zs / y.2.2*y.2.1:Nat):Int)
noncomputable def nK (cv:List Int) (b:B5):Int:=cv.getD b.giver.toNat 0*b.give-cv.getD b.taker.toNat 0*b.take
structure ZoM(ls:List B5)(n:Nat)(rs:List Int):Prop where
 len:rs.length=n
 pos:∀c∈rs,∃k:Nat,c=(k:Int)/\0<k/\k<2 ^ 420000
theorem BI:∀(zs:List (Int×(Nat×Nat)))(c:Nat),c ∣ zs.foldl (λc x=>Nat.lcm c x.2.2) c/\∀y∈zs,y.2.2 ∣ zs.foldl (λc x=>Nat.lcm c x.2.2) c
 | [],c=>⟨Nat.dvd_refl _,by simp⟩
 |z::zs,c=>by
  obtain⟨ak,a'⟩:=BI zs (Nat.lcm c z.2.2);refine⟨qbQ (Nat.dvd_lcm_left _ _) ak,λy bO=>?_⟩;rcases qah.mp bO with rfl|bO
  .exact qbQ (Nat.dvd_lcm_right _ _) ak
  .exact a' y bO
theorem BJ:∀(zs:List (Int×(Nat×Nat)))(c m:Nat),c ∣ m->(∀y∈zs,y.2.2 ∣ m)->zs.foldl (λc x=>Nat.lcm c x.2.2) c ∣ m
 | [],_,_,h,_=>h
 |z::zs,c,m,h,k=>BJ zs _ m (Nat.lcm_dvd h (k z (by simp))) λy bO=>k y (qax _ bO)
theorem wc{zs:List (Int×(Nat×Nat))}{y:Int×(Nat×Nat)}(h:y∈zs):y.2.2 ∣ lcmL zs:=(BI zs 1).2 y h
theorem Zk7{zs:List (Int×(Nat×Nat))}{m:Nat}(h:∀y∈zs,y.2.2 ∣ m):lcmL zs ∣ m:=BJ zs 1 m (Nat.one_dvd m) h
theorem BK{zs:List (Int×(Nat×Nat))}(h:∀y∈zs,0<y.2.2):0<lcmL zs:=by
 unfold lcmL;have e_:∀(zs:List (Int×(Nat×Nat)))(c:Nat),0<c->(∀y∈zs,0<y.2.2)->0<zs.foldl (λc x=>Nat.lcm c x.2.2) c:=by
  intro zs
  induction zs with
  |nil=>intro c bv _;exact bv
  |cons z zs bQ=>intro c bv k;exact bQ _ (Nat.lcm_pos bv (k z (by simp))) λy bO=>k y (qax _ bO)
 exact e_ zs 1 (by decide) h
theorem ZhQ{ls:List B5}{bV:Fo.ZX}{first:Int}{dM:Int->List Fo.Trip}{zs:List (Int×(Nat×Nat))}(bG:Fo.Wm dM first bV)(h:jp ls bV zs bV.length){k:Nat}(br:∀y∈zs,k ∣ lcmL zs / y.2.2*y.2.1):k=1:=by
 have qW:0<bV.length:=(qaa.mp bG.head).1;have cd:=qav (h.first 0 first qW bG.head);have J6:k ∣ lcmL zs:=by
  have:=br _ cd;simpa using this
 have Sm:0<lcmL zs:=BK λy bO=>(h.pos y bO).2.1;obtain⟨c,bv⟩:=J6;have k0:0<k:=by
  rcases qbi k with z|z
  .rw[z,Nat.zero_mul] at bv;omega
  .exact z
 have all:∀y∈zs,y.2.2 ∣ c:=by
  intro y bO;obtain⟨fc,ie,lK⟩:=h.pos y bO;obtain⟨m,bz⟩:=br y bO;have bE:lcmL zs / y.2.2*y.2.2=lcmL zs:=qbN (wc bO);have bP:k*(c*y.2.1)=k*(y.2.2*m):=by
   calc k*(c*y.2.1)=lcmL zs*y.2.1:=by rw[bv,qaN]
    _=(lcmL zs / y.2.2*y.2.1)*y.2.2:=by
     conv=>lhs;rw[<-bE]
     rw[qcj]
    _=k*m*y.2.2:=by rw[bz]
    _=k*(y.2.2*m):=by rw[qaN,qbl m]
  have dj:=qbC k0 bP;have d:y.2.2 ∣ c*y.2.1:=⟨m,dj⟩;exact Nat.Coprime.dvd_of_dvd_mul_right (show Nat.gcd y.2.2 y.2.1=1 by rw[Nat.gcd_comm];exact lK) d
 have hd:=Zk7 all;rw[bv] at hd;have wd:0<c:=by
  rcases qbi c with z|z
  .rw[z,Nat.mul_zero] at bv;omega
  .exact z
 have:=qbE wd hd;rcases qa8 k 2 with z|z
 .omega
 .have:2*c<=k*c:=Nat.mul_le_mul_right c z;omega
structure Vg(ls:List B5)(z:Int->Nat):Prop where
 pos:∀w,0<z w
 bal:∀i<ls.length,(ls.getD i dB).give.toNat*z (ls.getD i dB).giver=(ls.getD i dB).take.toNat*z (ls.getD i dB).taker
theorem Zhm{ls:List B5}{z:Int->Nat}(hz:Vg ls z)(hsz:Yx ls){bV:Fo.ZX}{first:Int}{zs:List (Int×(Nat×Nat))}(bG:Fo.Wm (fF ls) first bV)(h:jp ls bV zs bV.length):
  ∀(i:Nat)(y:Int×(Nat×Nat)),zs[i]? =some y->y.2.1*z first=y.2.2*z y.1:=by
 have we:=h.len (qab _);intro i
 induction i using Nat.strongRecOn with
 |_ i bQ=>
  intro y bO;have hi:i<bV.length:=by have:=(qaa.mp bO).1;omega
  obtain⟨⟨w,st⟩,e⟩:∃x,bV[i]? =some x:=⟨bV[i],GT hi⟩;cases st with
  |none=>
   have ak:=h.first i w hi e;rw[bO] at ak;cases ak;have J7:=bG.only i w e;subst J7;rw[bG.head] at e;cases e;simp
  |some x=>
   obtain⟨p,b,al⟩:=x;obtain⟨j,ff,gR,bw,ak,a',ai⟩:=h.step i w p b al hi e;rw[bO] at ak;cases ak;have wf:=bQ j bw _ a';obtain⟨hw,_⟩:=bG.steps i w p b al e;obtain⟨bi,qX,bz⟩:=UE hw;obtain⟨_,hY,_⟩:=h.pos _ (qav a');obtain⟨cX,b1,dS,fN,_,_,eh,dL⟩:=hsz bi qX;have gS:=hz.bal bi qX;rw[Wb] at bz;unfold Bal at ai;dsimp only at wf hY|-;rcases bz with⟨fJ,gl⟩|⟨fJ,gl⟩
   .injection gl with bE bP
    injection bP with bP dj
    subst dj;rw[if_pos rfl,bP,FM,eh,dL,FM,FM] at ai;rw[eh,dL,FM,FM,fJ,<-bE] at gS;refine qbC (qcv hY fN) ?_
    calc gR.2*b1*(ff.1*z first)=ff.1*gR.2*b1*z first:=by simp only[qbl,qaJ,qaN]
     _=gR.1*ff.2*cX*z first:=by rw[ai]
     _=ff.2*cX*(gR.1*z first):=by simp only[qbl,qaJ,qaN]
     _=ff.2*gR.2*(cX*z p):=by rw[wf];simp only[qbl,qaJ,qaN]
     _=gR.2*b1*(ff.2*z w):=by rw[gS];simp only[qbl,qaJ,qaN]
   .injection gl with bE bP
    injection bP with bP dj
    subst dj;rw[if_neg (by decide),bP,FM,eh,dL,FM,FM] at ai;rw[eh,dL,FM,FM,fJ,<-bE] at gS;refine qbC (qcv hY dS) ?_
    calc gR.2*cX*(ff.1*z first)=ff.1*gR.2*cX*z first:=by simp only[qbl,qaJ,qaN]
     _=gR.1*ff.2*b1*z first:=by rw[ai]
     _=ff.2*b1*(gR.1*z first):=by simp only[qbl,qaJ,qaN]
     _=ff.2*gR.2*(b1*z p):=by rw[wf];simp only[qbl,qaJ,qaN]
     _=gR.2*cX*(ff.2*z w):=by rw[<-gS];simp only[qbl,qaJ,qaN]
theorem ZdK{ls:List B5}{z:Int->Nat}(hz:Vg ls z)(hsz:Yx ls){bV:Fo.ZX}{first:Int}{zs:List (Int×(Nat×Nat))}(bG:Fo.Wm (fF ls) first bV)(h:jp ls bV zs bV.length){y:Int×(Nat×Nat)}(bO:y∈zs):
  lcmL zs / y.2.2*y.2.1*z first=lcmL zs*z y.1:=by
 obtain⟨i,hi⟩:=qbj bO;have e:=Zhm hz hsz bG h i y hi
 calc lcmL zs / y.2.2*y.2.1*z first=lcmL zs / y.2.2*(y.2.1*z first):=by rw[qaN]
  _=lcmL zs / y.2.2*y.2.2*z y.1:=by rw[e,qaN]
  _=lcmL zs*z y.1:=by rw[qbN (wc bO)]
theorem ZmN{zs:List (Int×(Nat×Nat))}(h:∀y∈zs,y.2.2<2 ^ 6700):lcmL zs<2 ^ (6700*zs.length+1):=by
 have e_:∀(zs:List (Int×(Nat×Nat)))(c n:Nat),c<2 ^ n->(∀y∈zs,y.2.2<2 ^ 6700)->zs.foldl (λc x=>Nat.lcm c x.2.2) c<2 ^ (n+6700*zs.length):=by
  intro zs
  induction zs with
  |nil=>intro c n bv _;simpa using bv
  |cons z zs bQ=>
   intro c n bv k;have:=bQ (Nat.lcm c z.2.2) (n+6700) (BH bv (k z (by simp))) λy bO=>k y (qax _ bO);have e:n+6700+6700*zs.length=n+6700*(z::zs).length:=by simp[Nat.mul_succ];omega
   rw[e] at this;exact this
 have:=e_ zs 1 1 (by decide) h;rw[Nat.add_comm];exact this
section
variable {ls:List B5}{n:Nat}{F:List (Int×Fo.ZX)}{rs:List Int}
theorem Zgy{x:Int×Fo.ZX}{zs:List (Int×(Nat×Nat))}(h:jp ls x.2 zs x.2.length){w:Int}(hw:w∈Fo.keys x.2):∃y∈zs,y.1=w:=by
 have ak:=h.keys;have a':(Fo.keys x.2).take x.2.length=Fo.keys x.2:=qa7 (by simp[Fo.keys]);rw[a'] at ak;rw[<-ak] at hw;obtain⟨y,bO,e⟩:=qae.mp hw;exact⟨y,bO,e⟩
theorem Zhy(cf:ZB ls n)(bH:n<=60)(fw:Fo.VQ (fF ls) n F n)(e6:rs.length=n)(gx:∀x∈F,nJ ls x rs):ZoM ls n rs:=by
 refine⟨e6,λc bv=>?_⟩;obtain⟨i,hi,rfl⟩:=qan bv;obtain⟨x,bp,br⟩:=fw.all (i:Int) (by omega) (by omega);obtain⟨zs,bG,hz⟩:=gx x bp;obtain⟨y,bO,e3⟩:=Zgy bG br;have ak:=hz y bO;rw[e3,FM,GT hi] at ak;obtain⟨g,wg,dS,g1⟩:=fw.tree x bp;have s4:x.2.length<=60:=by
  have:=Fo.Zbi (n:=n) g.nodup (g.rg ⟨dS,g1⟩ (o0 cf));simp[Fo.keys] at this;omega
 have we:=bG.len (qab _);have sz:∀y∈zs,y.2.1<2 ^ 6700/\y.2.2<2 ^ 6700:=λy bO=>by
  obtain⟨j,bw⟩:=qbj bO;have hC:=(qaa.mp bw).1;obtain⟨a,b⟩:=bG.size j y bw;have e:(2:Nat) ^ (110*j+1)<=2 ^ 6700:=qaH (by decide) (by omega);exact⟨qag a e,qag b e⟩
 have hT:=ZmN λy bO=>(sz y bO).2;obtain⟨fc,ie,_⟩:=bG.pos y bO;refine⟨_,qam ak,qcv (qcw (qbE (BK λy bO=>(bG.pos y bO).2.1) (wc bO)) ie) fc,?_⟩;refine qag (qU (qaO (qba _ _) hT) (sz y bO).1) (qaH (by decide) ?_);have:6700*zs.length<=6700*60:=qca _ (by omega);omega
theorem Zb5{z:Int->Nat}(hz:Vg ls z)(hsz:Yx ls)(cf:ZB ls n)(fw:Fo.VQ (fF ls) n F n)(e6:rs.length=n)(gx:∀x∈F,nJ ls x rs){i:Nat}(hi:i<ls.length):nK rs (ls.getD i dB)=0:=by
 obtain⟨a0,a1,c2,eE⟩:=cf.at hi;obtain⟨cX,b1,dS,fN,_,_,eh,dL⟩:=hsz i hi;have gS:=hz.bal i hi;rw[eh,dL,FM,FM] at gS;obtain⟨x,bp,br⟩:=fw.all (ls.getD i dB).giver a0 a1;obtain⟨g,wg,x0,x1⟩:=fw.tree x bp;have qY:(ls.getD i dB).taker∈Fo.keys x.2:=by
  obtain⟨j,s,bw⟩:=Fo.Zc9 br;exact wg j _ s (qaa.mp bw).1 bw ((ls.getD i dB).taker,(i:Int),true) (oZ hi (Wb.mpr (.inl ⟨rfl,rfl⟩)))
 obtain⟨zs,bG,hs⟩:=gx x bp;obtain⟨o3,BL,J8⟩:=Zgy bG br;obtain⟨qZ,BM,J9⟩:=Zgy bG qY;have cq:=hs o3 BL;have cN:=hs qZ BM;have f8:=ZdK hz hsz g bG BL;have kr:=ZdK hz hsz g bG BM;rw[J8] at cq f8;rw[J9] at cN kr;have bE:rs.getD (ls.getD i dB).giver.toNat 0=((lcmL zs / o3.2.2*o3.2.1:Nat):Int):=by rw[qa5,cq];rfl
 have bP:rs.getD (ls.getD i dB).taker.toNat 0=((lcmL zs / qZ.2.2*qZ.2.1:Nat):Int):=by rw[qa5,cN];rfl
 generalize lcmL zs / o3.2.2*o3.2.1=A at*;generalize lcmL zs / qZ.2.2*qZ.2.1=B at*;have e_:A*cX=B*b1:=by
  refine Nat.eq_of_mul_eq_mul_right (hz.pos x.1) ?_
  calc A*cX*z x.1=A*z x.1*cX:=qcj _ _ _
   _=lcmL zs*z (ls.getD i dB).giver*cX:=by rw[f8]
   _=lcmL zs*(cX*z (ls.getD i dB).giver):=by simp only[qbl,qaJ,qaN]
   _=lcmL zs*z (ls.getD i dB).taker*b1:=by rw[gS];simp only[qbl,qaJ,qaN]
   _=B*z x.1*b1:=by rw[kr]
   _=B*b1*z x.1:=qcj _ _ _
 unfold nK;rw[bE,bP,eh,dL];have k2:(A:Int)*(cX:Int)=(B:Int)*(b1:Int):=by
  rw[<-qcg,<-qcg,e_]
 omega
end
theorem Paired.get{cT gF:Type}{P:cT->gF->Prop}:∀{xs:List cT}{ys:List gF}{i:Nat}{x:cT},Paired P xs ys->xs[i]? =some x->∃y,ys[i]? =some y/\P x y
 |_,_,_,_,.nil,e=>by simp at e
 |_,_,0,_,.cons h _,e=>by simp at e;subst e;exact⟨_,rfl,h⟩
 |_,_,i+1,x,.cons _ r,e=>by
  obtain⟨y,ak,a'⟩:=Paired.get (i:=i) (x:=x) r (by simpa using e);exact⟨y,by simpa using ak,a'⟩
theorem q0{cT gF:Type}{P:cT->gF->Prop}:∀{xs:List cT}{ys:List gF},xs.length=ys.length->(∀(i:Nat) x y,xs[i]? =some x->ys[i]? =some y->P x y)->Paired P xs ys
 | [],[],_,_=> .nil
 |x::xs,y::ys,ag,h=> .cons (h 0 x y rfl rfl) (q0 (by simpa using ag) λi a b bE bP=>h (i+1) a b (by simpa using bE) (by simpa using bP))
 | [],_::_,ag,_=>by simp at ag
 |_::_,[],ag,_=>by simp at ag
theorem Zhd{gF wh:Type}{S:wh->gF->Prop}{L:List wh}{d:wh}{ys:List gF}(h:Paired (λi v=>S (L.getD i d) v) ((List.range L.length).filter λ_=>true) ys):Paired S L ys:=by
 rw[qaz.mpr (by simp)] at h;refine q0 (by rw[<-Paired.length h,qbo]) λi x y bE bP=>?_;have hi:i<L.length:=(qaa.mp bE).1;obtain⟨gR,ak,a'⟩:=Paired.get (i:=i) (x:=i) h (by simp[hi]);rw[bP] at ak;cases ak;simpa[List.getD,bE] using a'
def V0 (H:Hp):List (Int×Int)->List V->Prop:=Paired λx v=>∃t,v= .ref t/\H t=some (.tup [.int x.1,.int x.2])
theorem V0.keep{H ae:Hp}(t:∀b xs,H b=some (.tup xs)->ae b=some (.tup xs)){vs:List V}{l:List (Int×Int)}(h:V0 H l vs):V0 ae l vs:=Paired.mapP h λ_ _ ⟨a,e,z⟩=>⟨a,e,t _ _ z⟩
def LL (H:Hp):List (List (Int×Int))->List Addr->Prop:=Paired λl a=>∃vs,H a=some (.lst vs)/\V0 H l vs
theorem LL.dom{H:Hp}:∀{ls:List (List (Int×Int))}{as:List Addr},LL H ls as->∀x∈as,H x≠none
 |_,_,.nil,_,bp=>by simp at bp
 |_,_,.cons ⟨vs,h,_⟩ r,x,bp=>by
  rcases qah.mp bp with rfl|bp
  .rw[h];simp
  .exact LL.dom r x bp
theorem LL.keep{H ae:Hp}(t:∀b xs,H b=some (.tup xs)->ae b=some (.tup xs)):∀{ls:List (List (Int×Int))}{as:List Addr},LL H ls as->(∀x∈as,ae x=H x)->LL ae ls as
 |_,_,.nil,_=> .nil
 |_,_,.cons ⟨vs,h,p⟩ r,k=> .cons ⟨vs,(k _ (by simp)).trans h,p.keep t⟩ (LL.keep t r λx bp=>k x (qax _ bp))
noncomputable def hl (ls:List B5) (w:Int):List (Int×Int):=(eK ls w).map λi:Nat=>((i:Int),(ls.getD i dB).take)
noncomputable def o4 (ls:List B5) (w:Int):List (Int×Int):=(d1 ls w).map λi:Nat=>((i:Int),(ls.getD i dB).give)
noncomputable def iW (rows:List B5) (hs:List Int) (w:Int):Bool:=(rows.zip hs).all λx=>!(decide (x.1.taker=w))||decide (x.1.take<=x.2)
theorem wi{w:Int}:∀{rows:List B5}{hs:List Int},(∀(i:Nat)(r:B5)(h:Int),rows[i]? =some r->hs[i]? =some h->r.taker=w->r.take<=h)->iW rows hs w=true
 | [],_,_=>by simp[iW]
 |_::_,[],_=>by simp[iW]
 |r::rs,h::hs,q=>by
  have e:=wi (rows:=rs) (hs:=hs) (w:=w) λi c7 h' a b=>q (i+1) c7 h' (by simpa using a) (by simpa using b);unfold iW at e|-;rw[List.zip_cons_cons,qcr,e,Bool.and_true]
  by_cases c:r.taker=w
  .rw[decide_eq_true (q 0 r h rfl rfl c),Bool.or_true]
  .rw[decide_eq_false c];rfl
theorem wj{w:Int}:∀{rows:List B5}{hs:List Int}(i:Nat){r:B5}{h:Int},rows[i]? =some r->hs[i]? =some h->r.taker=w->h<r.take->iW rows hs w=false
 | [],_,_,_,_,a,_,_,_=>by simp at a
 |_::_,[],_,_,_,_,a,_,_=>by simp at a
 |r::rs,h::hs,0,c7,h',a,b,c,d=>by
  simp only[List.getElem?_cons_zero,Option.some.injEq] at a b;subst a b;unfold iW;rw[List.zip_cons_cons,qcr,decide_eq_true c,decide_eq_false (show ¬r.take<=h by omega)]
  rfl
 |r::rs,h::hs,i+1,c7,h',a,b,c,d=>by
  have e:=wj (rows:=rs) (hs:=hs) (w:=w) i (r:=c7) (h:=h') (by simpa using a) (by simpa using b) c d;unfold iW at e|-;rw[List.zip_cons_cons,qcr,e,Bool.and_false]
noncomputable def gf (rows:List B5) (hs:List Int) (w:Int):List Int:=(rows.zip hs).map λx=>x.2-(if x.1.taker=w then x.1.take else 0)+(if x.1.giver=w then x.1.give else 0)
theorem s5{rows:List B5}{hs:List Int}{w:Int}(h:hs.length=rows.length):(gf rows hs w).length=hs.length:=by unfold gf;simp;omega
theorem ZcS{rows:List B5}{hs:List Int}{w:Int}{i:Nat}(ak:i<rows.length)(a':i<hs.length)(bL:i<(gf rows hs w).length):(gf rows hs w)[i]=hs[i]-(if rows[i].taker=w then rows[i].take else 0)+(if rows[i].giver=w then rows[i].give else 0):=by
 have e:(gf rows hs w)[i]? =some (hs[i]-(if rows[i].taker=w then rows[i].take else 0)+(if rows[i].giver=w then rows[i].give else 0)):=by
  unfold gf;rw[qak,GT (by rw[List.length_zip];omega)];simp
 rw[GT bL] at e;exact qam e
noncomputable def q1 (hs:List Int) (l:List (Int×Int)):Bool:=l.all λx=>decide (x.2<=hs.getD x.1.toNat 0)
theorem Zel{rows:List B5}{hs:List Int}{w:Int}(h:hs.length=rows.length):q1 hs (hl rows w)=iW rows hs w:=by
 cases e:q1 hs (hl rows w) with
 |true=>
  refine(wi λi r x a b c=>?_).symm;have hi:i<rows.length:=(qaa.mp a).1;have iX:rows.getD i dB=r:=by simp[List.getD,a]
  have m:((i:Int),r.take)∈hl rows w:=by
   unfold hl eK;refine qae.mpr ⟨i,qaB.mpr ⟨qaw.mpr hi,decide_eq_true (by rw[iX];exact c)⟩,by rw[iX]⟩
  have:=of_decide_eq_true (qbm.mp e _ m);simpa[List.getD,b] using this
 |false=>
  unfold q1 at e;rw[List.all_eq_false] at e;obtain⟨x,bp,d⟩:=e;unfold hl eK at bp;obtain⟨i,hi,rfl⟩:=qae.mp bp;obtain⟨ak,a'⟩:=qaB.mp hi;have ap:=qaw.mp ak;have f0:=GT ap;have q2:=GT (show i<hs.length by omega);have iX:rows.getD i dB=rows[i]:=by simp[List.getD,f0]
  rw[iX] at a' d;refine(wj i f0 q2 (of_decide_eq_true a') ?_).symm;have d':¬rows[i].take<=hs.getD (i:Int).toNat 0:=λz=>d (decide_eq_true z);have eh:hs.getD (i:Int).toNat 0=hs[i]:=by simp[List.getD,q2]
  rw[eh] at d';omega
theorem ZcI{ls:List B5}{w:Int}{i:Nat}(h:i∈eK ls w):i<ls.length:=qaw.mp (qaB.mp h).1
theorem ZaI{ls:List B5}{w:Int}{i:Nat}(h:i∈d1 ls w):i<ls.length:=qaw.mp (qaB.mp h).1
theorem Zec{ls:List B5}{w:Int}:(eK ls w).length<=ls.length:=qaj (qaR _ _) (by simp)
theorem Zeo{ls:List B5}{w:Int}:(d1 ls w).length<=ls.length:=qaj (qaR _ _) (by simp)
noncomputable def bump (f:Nat->Int) (hs:List Int) (is:List Nat):List Int:=is.foldl (λhs i=>hs.set i (hs.getD i 0+f i)) hs
theorem VH(f:Nat->Int):∀(is:List Nat)(hs:List Int),(bump f hs is).length=hs.length
 | [],_=>rfl
 |i::is,hs=>by
  show(bump f (hs.set i _) is).length=_;rw[VH f is,qbZ]
theorem wk(f:Nat->Int):∀(is:List Nat)(hs:List Int)(j:Nat),is.Nodup->j<hs.length->(bump f hs is).getD j 0=hs.getD j 0+if j∈is then f j else 0
 | [],hs,j,_,_=>by simp[bump]
 |i::is,hs,j,nd,bw=>by
  obtain⟨ga,f9⟩:=qce.mp nd;show(bump f (hs.set i (hs.getD i 0+f i)) is).getD j 0=_;rw[wk f is _ j f9 (by rw[qbZ];exact bw)]
  by_cases e:i=j
  .subst e;have bE:(hs.set i (hs.getD i 0+f i)).getD i 0=hs.getD i 0+f i:=by rw[qa5,qbz bw];rfl
   rw[bE,if_neg ga,if_pos qbu,Int.add_zero]
  .have bE:(hs.set i (hs.getD i 0+f i)).getD j 0=hs.getD j 0:=by rw[qa5,qbG e,qa5]
   rw[bE];have:(j∈i::is)↔j∈is:=by simp[qbO e]
   simp only[this]
theorem BN(n:Nat)(c:Nat->Bool):((List.range n).filter c).Nodup:=List.nodup_range.filter c
theorem J_{rows:List B5}{hs:List Int}{w:Int}(h:hs.length=rows.length):
  bump (λi=>(rows.getD i dB).give) (bump (λi=>-(rows.getD i dB).take) hs (eK rows w)) (d1 rows w)=gf rows hs w:=by
 have fE:=VH (λi=>-(rows.getD i dB).take) (eK rows w) hs;refine qau (by rw[VH,fE,s5 h]) λi ak a'=>?_;rw[VH,fE] at ak;have ap:i<rows.length:=by omega
 rw[ZcS ap ak a'];have ev:∀(xs:List Int)(bp:i<xs.length),xs[i]=xs.getD i 0:=λxs bp=>by simp[List.getD,bp]
 rw[ev _ (by rw[VH,fE];exact ak),wk _ (d1 rows w) _ _ (BN _ _) (by rw[fE];exact ak),wk _ (eK rows w) _ _ (BN _ _) ak,<-ev hs ak];have iX:rows.getD i dB=rows[i]:=by simp[List.getD,ap]
 have fJ:i∈eK rows w↔rows[i].taker=w:=by
  unfold eK;rw[qaB,qaw,iX,decide_eq_true_eq];exact⟨λz=>z.2,λz=>⟨ap,z⟩⟩
 have gl:i∈d1 rows w↔rows[i].giver=w:=by
  unfold d1;rw[qaB,qaw,iX,decide_eq_true_eq];exact⟨λz=>z.2,λz=>⟨ap,z⟩⟩
 simp only[fJ,gl,iX]
 split<;>split<;>omega
theorem LL.at{H:Hp}{ls:List (List (Int×Int))}{cp:List Addr}{w:Int}{l:List (Int×Int)}(h:LL H ls cp)(cd:0<=w)(e:ls[w.toNat]? =some l):∃x vs,atI (cp.map V.ref) w=some (.ref x)/\H x=some (.lst vs)/\V0 H l vs:=by
 obtain⟨x,ak,vs,a',bL⟩:=Paired.get h e;refine⟨x,vs,?_,a',bL⟩;have:=gJ (xs:=cp.map V.ref) (j:=w.toNat) (v:= .ref x) (by rw[qak,ak];rfl)
 rwa [qas cd] at this
theorem LL.len{H:Hp}{ls:List (List (Int×Int))}{cp:List Addr}(h:LL H ls cp):cp.length=ls.length:=(Paired.length h).symm
theorem BO{H:Hp}{iY:List Nat}{f:Nat->Int}{ys:List V}(h:Paired (λi v=>∃t,v=V.ref t/\H t=some (.tup [.int (iY.getD i 0:Nat),.int (f (iY.getD i 0))])) ((List.range (iY.map λi:Nat=>V.int i).length).filter λ_=>true) ys):V0 H (iY.map λi:Nat=>((i:Int),f i)) ys:=by
 rw[GE] at h;have ak:Paired (λ(j:Nat) v=>∃t,v=V.ref t/\H t=some (.tup [.int (j:Nat),.int (f j)])) iY ys:=Zhd (L:=iY) (d:=0) h;refine q0 (by rw[GE];exact Paired.length ak) λi x y bE bP=>?_;rw[qak] at bE;cases e:iY[i]? with
 |none=>rw[e] at bE;cases bE
 |some j=>
  rw[e] at bE;cases bE;obtain⟨gR,dj,bL⟩:=Paired.get ak e;rw[bP] at dj;cases dj;exact bL
theorem BP{ls:List B5}{w:Int}{n:Nat}(h:n=ls.length):∀x∈hl ls w,0<=x.1/\x.1<n:=by
 intro x bp;obtain⟨i,hi,rfl⟩:=qae.mp bp;have:=ZcI hi;show 0<=(i:Int)/\(i:Int)<n;omega
theorem ZdI{ls:List B5}{w:Int}:(hl ls w).length<=ls.length:=by unfold hl;rw[GE];exact Zec
theorem ZfG{f:Nat->Int}{hs:List Int}{is:List Nat}{i:Nat}(h:i<is.length):bump f hs (is.take (i+1))=(bump f hs (is.take i)).set is[i] ((bump f hs (is.take i)).getD is[i] 0+f is[i]):=by
 unfold bump;rw[qad h,qb1]
 rfl
theorem Zkp{iY:List Nat}{f:Nat->Int}{H:Hp}{vs:List V}{i:Nat}(h:V0 H (iY.map λi:Nat=>((i:Int),f i)) vs)(hi:i<iY.length):∃t,vs.getD i .non= .ref t/\H t=some (.tup [.int (iY[i]:Nat),.int (f iY[i])]):=by
 obtain⟨v,bS,t,rfl,bX⟩:=Paired.get h (i:=i) (x:=((iY[i]:Int),f iY[i])) (by rw[qak,GT hi];rfl);exact⟨t,by simp[List.getD,bS],bX⟩
noncomputable def fB (b:B5) (s:Int):Fire.Belt:=⟨b.giver.toNat,b.taker.toNat,b.give,b.take,s⟩
noncomputable def fBs (ls:List B5) (st:List Int):List Fire.Belt:=(ls.zip st).map λx=>fB x.1 x.2
noncomputable def gy (ls:List B5) (st:List Int) (d:Nat->Nat):List Int:=(fBs ls st).map λb=>Fire.lie b d
noncomputable def dF (rs:List Int) (v:Nat):Nat:=(rs.getD v 0).toNat
noncomputable def e' (ls:List B5) (st rs:List Int) (d:Nat->Nat) (v:Nat):Bool:=decide (d v<dF rs v)&&iW ls (gy ls st d) v
noncomputable def im (ls:List B5) (st rs:List Int) (d:Nat->Nat):List Bool:=(List.range rs.length).map λv=>e' ls st rs d v
noncomputable def dZ (rs:List Int) (d:Nat->Nat):List Int:=(List.range rs.length).map λv=>(dF rs v:Int)-(d v:Int)
abbrev dN (ls:List B5) (st rs:List Int):(Nat->Nat)->Nat->Prop:=Fire.May (fBs ls st) rs.length (dF rs)
def jK(ls:List B5)(st rs:List Int)(d:Nat->Nat)(w:Nat):Prop:=dN ls st rs d w/\∀v<w,¬dN ls st rs d v
theorem g8{ls:List B5}{st:List Int}{d:Nat->Nat}(h:st.length=ls.length):(gy ls st d).length=ls.length:=by simp[gy,fBs,h]
theorem kO{ls:List B5}{st:List Int}{d:Nat->Nat}{j:Nat}(h:st.length=ls.length)(bw:j<ls.length):(gy ls st d)[j]'(by rw[g8 h];exact bw)=Fire.lie (fB ls[j] (st[j]'(by omega))) d:=by simp[gy,fBs]
theorem Zan{ls:List B5}{st:List Int}(h:st.length=ls.length){b:Fire.Belt}(ai:b∈fBs ls st):∃(j:Nat)(bw:j<ls.length),b=fB ls[j] (st[j]'(by omega)):=by
 obtain⟨j,bw,rfl⟩:=qbx.mp ai;have gb:j<ls.length:=by simp[fBs,h] at bw;exact bw
 exact⟨j,gb,by simp[fBs]⟩
theorem s6{ls:List B5}{st:List Int}(h:st.length=ls.length){j:Nat}(bw:j<ls.length):fB ls[j] (st[j]'(by omega))∈fBs ls st:=
 qae.mpr ⟨(ls[j],st[j]'(by omega)),qbx.mpr ⟨j,by simp[h,bw],by simp⟩,rfl⟩
theorem s7{ls:List B5}{hs:List Int}{w:Int}(h:hs.length=ls.length):iW ls hs w=true↔∀(j:Nat)(bw:j<ls.length),ls[j].taker=w->ls[j].take<=hs[j]'(by omega):=by
 unfold iW;rw[qbm]
 constructor
 .intro q j bw e;have:=q (ls[j],hs[j]'(by omega)) (qbx.mpr ⟨j,by simp[h,bw],by simp⟩);simpa[e] using this
 .intro q x bp;obtain⟨j,bw,rfl⟩:=qbx.mp bp;have gb:j<ls.length:=by simp[h] at bw;exact bw
  by_cases e:ls[j].taker=w
  .have:=q j gb e;simp[e,this]
  .simp[e]
section
variable {ls:List B5}{st rs:List Int}{d:Nat->Nat}{n:Nat}
theorem nL(h:st.length=ls.length)(ai:ZB ls n){v:Nat}(bS:v<rs.length):e' ls st rs d v=true↔dN ls st rs d v:=by
 unfold e';rw[qaU,decide_eq_true_eq,s7 (g8 h)]
 constructor
 .rintro⟨ak,a'⟩;refine⟨bS,ak,λb bz bX=>?_⟩;obtain⟨j,bw,rfl⟩:=Zan h bz;have:=a' j bw (by have:=ai ls[j] (GM bw);have s8:ls[j].taker.toNat=v:=bX;omega);rw[kO h bw] at this;exact this
 .rintro⟨_,ak,a'⟩;refine⟨ak,λj bw e=>?_⟩;rw[kO h bw];exact a' _ (s6 h bw) (by show ls[j].taker.toNat=v;omega)
theorem J'(h:st.length=ls.length)(ai:ZB ls n){v:Nat}(bS:v<rs.length):e' ls st rs d v=false↔¬dN ls st rs d v:=by
 rw[<-nL h ai bS];simp
theorem Zg4{v:Nat}(bS:v<rs.length):(im ls st rs d)[v]? =some (e' ls st rs d v):=by simp[im,bS]
theorem Ka:(im ls st rs d).length=rs.length:=by simp[im]
theorem nM:(dZ rs d).length=rs.length:=by simp[dZ]
theorem s9{v:Nat}(bS:v<rs.length):(dZ rs d).getD v 0=(dF rs v:Int)-(d v:Int):=by simp[dZ,List.getD,bS]
theorem Kb(h:st.length=ls.length)(ai:ZB ls n)(q:true∉im ls st rs d):∀w,¬dN ls st rs d w:=λw r=>q (by
 have:=(nL h ai r.1).mpr r;rw[<-this];exact qae.mpr ⟨w,by simpa using r.1,rfl⟩)
theorem BQ{b:Fire.Belt}{w:Nat}:Fire.lie b (Fire.bump d w)=Fire.lie b d-(if b.taker=w then b.take else 0)+(if b.giver=w then b.give else 0):=by
 unfold Fire.lie
 by_cases bE:b.giver=w<;>by_cases bP:b.taker=w<;>simp only[bE,bP,if_true,if_false,Fire.WL,Fire.W0,ne_eq,not_false_eq_true,Int.natCast_add,qbX,Int.natCast_one,qck]<;>omega
theorem wl(h:st.length=ls.length)(ai:ZB ls n)(w:Nat):gf ls (gy ls st d) w=gy ls st (Fire.bump d w):=by
 refine qau (by rw[s5 (g8 h),g8 h,g8 h]) λj ak a'=>?_;have bw:j<ls.length:=by rw[g8 h] at a';exact a'
 rw[ZcS bw (by rw[g8 h];exact bw) ak,kO h bw,kO h bw,BQ];have BR:=ai ls[j] (GM bw);have bE:(ls[j].taker=(w:Int))↔((fB ls[j] (st[j]'(by omega))).taker=w):=by show _↔ls[j].taker.toNat=w;omega
 have bP:(ls[j].giver=(w:Int))↔((fB ls[j] (st[j]'(by omega))).giver=w):=by show _↔ls[j].giver.toNat=w;omega
 simp only[bE,bP]
 rfl
def Zbp(ls:List B5)(w:Int)(ms:List Int):Prop:=ms.Pairwise (· < ·)/\∀x,x∈ms↔x=w\/∃i∈d1 ls w,(ls.getD i dB).taker=x
theorem Kc(h:st.length=ls.length)(ai:ZB ls n){w v:Nat}{ms:List Int}(bX:Zbp ls w ms)(bS:(v:Int)∉ms):e' ls st rs (Fire.bump d w) v=e' ls st rs d v:=by
 have gH:=mt (bX.2 v).mpr bS;have Kd:v≠w:=λe=>gH (.inl (by rw[e]));unfold e';rw[Fire.W0 d Kd]
 congr 1
 rw[qbI,s7 (g8 h),s7 (g8 h)];have e_:∀(j:Nat)(bw:j<ls.length),ls[j].taker=(v:Int)->(gy ls st (Fire.bump d w))[j]'(by rw[g8 h];exact bw)=(gy ls st d)[j]'(by rw[g8 h];exact bw):=λj bw e=>by
  have BR:=ai ls[j] (GM bw);rw[kO h bw,kO h bw,BQ,if_neg (by show ¬ls[j].taker.toNat=w;omega),if_neg ?_]
  .omega
  .intro z;have f6:ls[j].giver.toNat=w:=z;refine gH (.inr ⟨j,?_,?_⟩)
   .unfold d1;rw[qaB];exact⟨by simpa using bw,by simp[List.getD,bw];omega⟩
   .simp[List.getD,bw,e]
 constructor
 .intro q j bw e;rw[<-e_ j bw e];exact q j bw e
 .intro q j bw e;rw[e_ j bw e];exact q j bw e
end
noncomputable def cF (ls:List B5):List Int:=ls.map B5.start
def TL(H:Hp)(ls:List B5)(n:Nat)(gA:List Addr):Prop:=gA.length=n/\∀v<n,∃ms:List Int,H (gA.getD v 0)=some (.lst (ms.map V.int))/\Zbp ls v ms
noncomputable def q3 (ls:List B5) (n:Nat):List (List (Int×Int)):=(List.range n).map λw:Nat=>hl ls w
noncomputable def BS (ls:List B5) (n:Nat):List (List (Int×Int)):=(List.range n).map λw:Nat=>o4 ls w
def kP(H:Hp)(p:Addr)(ls:List B5)(rs:List Int):Prop:=
 ∃(bx a b c d e:Addr)(cp lP gA:List Addr)(bs:List V),H p=some (.ins T.b bx [("turns",.ref a),("rows",.ref b),("takes",.ref c),("gives",.ref d),("touched",.ref e)])/\H a=some (.lst (rs.map V.int))/\H b=some (.lst bs)/\eP H bs ls/\
  H c=some (.lst (cp.map V.ref))/\LL H (q3 ls rs.length) cp/\H d=some (.lst (lP.map V.ref))/\LL H (BS ls rs.length) lP/\H e=some (.lst (gA.map V.ref))/\TL H ls rs.length gA
theorem kP.same{T:Tp K mg}{H ae:Hp}{p:Addr}{ls:List B5}{rs:List Int}(h:kP T H p ls rs)(s:Zd H ae):kP T ae p ls rs:=by
 obtain⟨bx,a,b,c,d,e,cp,lP,gA,bs,ak,bL,cu,dJ,da,hZ,kQ,o5,mv,Ke,BU⟩:=h;have ll:∀{cc:List (List (Int×Int))}{is:List Addr},LL H cc is->LL ae cc is:=λ{cc is} l=>l.keep (λb xs z=>s _ _ z) λx bp=>by
  cases q:H x with
  |none=>exact absurd q (l.dom x bp)
  |some o=>exact s _ _ q
 exact⟨bx,a,b,c,d,e,cp,lP,gA,bs,s _ _ ak,s _ _ bL,s _ _ cu,dJ.keep λb xs z=>s _ _ z,s _ _ da,ll hZ,s _ _ kQ,ll o5,s _ _ mv,Ke,λv bS=>(let⟨ms,x,y⟩:=BU v bS;⟨ms,s _ _ x,y⟩)⟩
theorem ZhZ{T:Tp K mg}{H:Hp}{p:Addr}{ls:List B5}{rs:List Int}{m:Str}{G:Prop}(h:kP T H p ls rs)(fJ:(m== "turns")=false)(gl:(m== "rows")=false)(wm:(m== "takes")=false)(wn:(m== "gives")=false)(s_:(m== "touched")=false)(q:G):∃a bx fs,V.ref p= .ref a/\H a=some (.ins T.b bx fs)/\fs.lookup m=none/\G:=by
 obtain⟨bx,a,b,c,d,e,cp,lP,gA,bs,ak,_⟩:=h;exact⟨p,bx,_,rfl,ak,Rd.lk1 fJ (Rd.lk1 gl (Rd.lk1 wm (Rd.lk1 wn (Rd.lk1 s_ Rd.lkN)))),q⟩
theorem Zfq{n:Nat}{P:Nat->Addr->Prop}{ys:List V}(h:Paired (λ(i:Nat) v=>∃x,v=V.ref x/\P i x) (List.range n) ys):∃cp:List Addr,ys=cp.map V.ref/\cp.length=n/\∀i<n,P i (cp.getD i 0):=by
 have ag:n=ys.length:=by have:=Paired.length h;simpa using this
 have bp:∀i:Nat,i<n->∃x,ys[i]? =some (V.ref x)/\P i x:=λi hi=>by
  obtain⟨y,ak,x,rfl,bp⟩:=Paired.get h (i:=i) (x:=i) (by simp[hi]);exact⟨x,ak,bp⟩
 refine⟨(List.range n).map λi=>if hi:i<n then(bp i hi).choose else 0,List.ext_getElem? λi=>?_,by simp,λi hi=>?_⟩
 .by_cases hi:i<n
  .rw[(bp i hi).choose_spec.1];simp[hi]
  .rw[qa0 (by omega),qa0 (by simp;omega)]
 .have:=(bp i hi).choose_spec.2;simpa[List.getD,hi] using this
noncomputable def hD (f:Nat->Nat) (n:Nat):Nat:=((List.range n).map f).sum
theorem kR(f:Nat->Nat)(n:Nat):hD f (n+1)=hD f n+f n:=by simp[hD,qbP]
theorem BV(c:Nat->Nat){w:Nat}:∀{n:Nat},w<n->hD (Fire.bump c w) n=hD c n+1
 |0,h=>absurd h (qa3 _)
 |n+1,h=>by
  rw[kR,kR];rcases qa8 w n with z|z
  .rw[BV c z,Fire.W0 c (by omega)];omega
  .obtain rfl:w=n:=by omega
   have:∀k,k<=w->hD (Fire.bump c w) k=hD c k:=by
    intro k
    induction k with
    |zero=>intro _;rfl
    |succ k bQ=>intro br;rw[kR,kR,bQ (by omega),Fire.W0 c (by omega)]
   rw[this w (qab _),Fire.WL];omega
theorem mw{f g:Nat->Nat}:∀{n:Nat},(∀v<n,f v<=g v)->hD f n<=hD g n
 |0,_=>qab _
 |n+1,h=>by
  rw[kR,kR];exact Nat.add_le_add (mw λv bS=>h v (by omega)) (h n (by omega))
theorem q4{f g:Nat->Nat}:∀{n:Nat},(∀v<n,f v<=g v)->hD f n=hD g n->∀v<n,f v=g v
 |0,_,_=>λv bS=>absurd bS (qa3 _)
 |n+1,h,e=>by
  rw[kR,kR] at e;have ak:=mw (n:=n) λv bS=>h v (by omega);have a':=h n (by omega);intro v bS;rcases qa8 v n with z|z
  .exact q4 (λv bS=>h v (by omega)) (by omega) v z
  .obtain rfl:v=n:=by omega
   omega
noncomputable def tot (rs:List Int):Nat:=hD (dF rs) rs.length
theorem WZ{rs:List Int}(h:∀r∈rs,0<=r):(tot rs:Int)=rs.sum:=by
 unfold tot;have:∀k,k<=rs.length->(hD (dF rs) k:Int)=(rs.take k).sum:=by
  intro k
  induction k with
  |zero=>intro _;rfl
  |succ k bQ=>
   intro br;have kI:k<rs.length:=by omega
   rw[kR,qad kI,List.sum_append,Int.natCast_add,bQ (by omega)];have:=h rs[k] (GM kI);have e:dF rs k=rs[k].toNat:=by simp[dF,List.getD,kI]
   rw[e];simp;omega
 rw[this rs.length (qab _),qaD]
section
variable {ls:List B5}{st rs:List Int}{d:Nat->Nat}{bF:List Nat}
theorem io{c:Nat->Nat}(h:Fire.Z1 (jK ls st rs) c bF d):Fire.Z1 (dN ls st rs) c bF d:=by
 induction h with
 |nil c=>exact .nil c
 |cons r _ bQ=>exact .cons r.1 bQ
theorem ZmE{c:Nat->Nat}(h:Fire.Z1 (dN ls st rs) c bF d)(cd:∀v<rs.length,c v<=dF rs v):(∀v<rs.length,d v<=dF rs v)/\hD d rs.length=hD c rs.length+bF.length:=by
 induction h with
 |nil c=>exact⟨cd,rfl⟩
 | @cons c d w bF r _ bQ=>
  obtain⟨a,b⟩:=bQ λv bS=>by
   by_cases e:v=w
   .subst e;rw[Fire.WL];exact r.2.1
   .rw[Fire.W0 c e];exact cd v bS
  refine⟨a,?_⟩;rw[b,BV c r.1,List.length_cons];omega
theorem BW:∀n,hD (λ_=>0) n=0
 |0=>rfl
 |n+1=>by rw[kR,BW n]
theorem kS(h:Fire.Z1 (dN ls st rs) (λ_=>0) bF d):(∀v<rs.length,d v<=dF rs v)/\bF.length=hD d rs.length/\bF.length<=tot rs:=by
 obtain⟨a,b⟩:=ZmE h λ_ _=>qat _;rw[BW,Nat.zero_add] at b;exact⟨a,b.symm,by rw[<-b];exact mw a⟩
theorem ZmB(h:Fire.Z1 (dN ls st rs) (λ_=>0) bF d){w:Nat}(r:dN ls st rs d w):bF.length<tot rs:=by
 have:=(kS (h.snoc r)).2.2;rw[qaA,qaZ] at this;omega
end
theorem BX:∀ys:List Bool,inV (.bl true) (ys.map V.bl)=decide (true∈ys)
 | []=>rfl
 |y::ys=>by
  have e:inV (.bl true) ((y::ys).map V.bl)=(eqV (.bl y) (.bl true)||inV (.bl true) (ys.map V.bl)):=rfl;rw[e,BX ys];cases y<;>simp[eqV]
theorem Kf(ys:List Bool):(ys.map V.bl).all kC=true:=by
 rw[List.all_map,qbm];intro _ _
 rfl
theorem BY:∀{bs:List Bool},true∈bs->∃j:Nat,bs[j]? =some true/\∀m<j,bs[m]? =some false
 |true::bs,_=>⟨0,rfl,λm h=>absurd h (qa3 m)⟩
 |false::bs,h=>by
  obtain⟨j,ak,a'⟩:=BY (bs:=bs) (by simpa using h);exact⟨j+1,by simpa using ak,λm bz=>by
   cases m with
   |zero=>rfl
   |succ m=>simpa using a' m (by omega)⟩
theorem BZ{rs:List Int}{d:Nat->Nat}{w:Nat}(hw:w<rs.length):(dZ rs d).set w ((dZ rs d).getD w 0-1)=dZ rs (Fire.bump d w):=by
 refine qau (by simp[dZ]) λv ak a'=>?_;have bS:v<rs.length:=by simpa[dZ] using a'
 have ev:=s9 (d:=d) hw;generalize (dZ rs d).getD w 0=y at*;subst ev;rw[qb6]
 by_cases e:w=v
 .subst e;simp[dZ,Fire.WL];omega
 .rw[if_neg e];simp[dZ,Fire.W0 d (qbO e)]
noncomputable def jq (ls:List B5) (st rs:List Int) (d d':Nat->Nat) (ms:List Int):List Bool:=(List.range rs.length).map λv:Nat=>if(v:Int)∈ms then e' ls st rs d' v else e' ls st rs d v
theorem Kg{ls:List B5}{st rs:List Int}{d d':Nat->Nat}:jq ls st rs d d' []=im ls st rs d:=by simp[jq,im]
theorem Kh{ls:List B5}{st rs:List Int}{d:Nat->Nat}{n w:Nat}{ms:List Int}(h:st.length=ls.length)(ai:ZB ls n)(bX:Zbp ls w ms):jq ls st rs d (Fire.bump d w) ms=im ls st rs (Fire.bump d w):=by
 unfold jq im;refine List.map_congr_left λv _=>?_
 split
 .rfl
 .rename_i z;exact(Kc h ai bX z).symm
theorem Zf4{ls:List B5}{st rs:List Int}{d d':Nat->Nat}{ms:List Int}{v:Nat}:(jq ls st rs d d' ms).set v (e' ls st rs d' v)=jq ls st rs d d' (ms++ [(v:Int)]):=by
 refine qau (by simp[jq]) λi ak a'=>?_;have hi:i<rs.length:=by simpa[jq] using a'
 rw[qb6]
 by_cases e:v=i
 .subst e;simp[jq]
 .rw[if_neg e];have:¬((i:Int)=(v:Int)):=λz=>e (by omega);simp[jq,this,qbO e]
def hm(ls:List B5)(rs st cv:List Int)(j:Nat):Prop:=cv.getD (ls.getD j dB).taker.toNat 0<rs.getD (ls.getD j dB).taker.toNat 0/\st.getD j 0+(ls.getD j dB).give*cv.getD (ls.getD j dB).giver.toNat 0-(ls.getD j dB).take*cv.getD (ls.getD j dB).taker.toNat 0<(ls.getD j dB).take
structure Us(ls:List B5)(rs st cv:List Int)(n:Nat)(kvs:List (Key×V)):Prop where
 val:∀i y,valV kvs (Sum.inl i)=some y->∃j<n,y= .int j/\(ls.getD j dB).taker=i/\hm ls rs st cv j
 all:∀j<n,hm ls rs st cv j->∃y,valV kvs (Sum.inl (ls.getD j dB).taker)=some y
 keys:∃b5:List Int,kvs.map (·.1)=b5.map Sum.inl/\∀i∈b5,∃y,valV kvs (Sum.inl i)=some y
 len:kvs.length<=n
theorem Us.nil{ls:List B5}{rs st cv:List Int}:Us ls rs st cv 0 []:=⟨λ_ _ h=>by simp[ZdQ] at h,λ_ h=>absurd h (qa3 _),⟨[],rfl,by simp⟩,qab _⟩
theorem Us.skip{ls:List B5}{rs st cv:List Int}{n:Nat}{kvs:List (Key×V)}(h:Us ls rs st cv n kvs)(bH:hm ls rs st cv n->∃y,valV kvs (Sum.inl (ls.getD n dB).taker)=some y):Us ls rs st cv (n+1) kvs:=
 ⟨λi y e=>(let⟨j,bw,r⟩:=h.val i y e;⟨j,by omega,r⟩),λj bw s=>by
  rcases qa8 j n with z|z
  .exact h.all j z s
  .obtain rfl:j=n:=by omega
   exact bH s,h.keys,Nat.le_succ_of_le h.len⟩
theorem Us.add{ls:List B5}{rs st cv:List Int}{n:Nat}{kvs:List (Key×V)}(h:Us ls rs st cv n kvs)(hs:hm ls rs st cv n)(bH:valV kvs (Sum.inl (ls.getD n dB).taker)=none):Us ls rs st cv (n+1) (d_ kvs (Sum.inl (ls.getD n dB).taker) (.int n)):=by
 refine⟨λi y e=>?_,λj bw s=>?_,?_,?_⟩
 .rw[kE] at e
  split at e
  .rename_i q;cases e;exact⟨n,qbk _,rfl,(qbL q).symm,hs⟩
  .obtain⟨j,bw,r⟩:=h.val i y e;exact⟨j,by omega,r⟩
 .rw[kE]
  split
  .exact⟨_,rfl⟩
  .rename_i q;rcases qa8 j n with z|z
   .exact h.all j z s
   .exact absurd (by rw[show j=n by omega]) q
 .obtain⟨b5,e,r⟩:=h.keys;refine⟨b5++ [(ls.getD n dB).taker],by rw[V7 _ bH,qaG,e];simp,λi hi=>?_⟩;rw[kE]
  split
  .exact⟨_,rfl⟩
  .rename_i q;rcases qaI.mp hi with z|z
   .exact r i z
   .exact absurd (by rw[qac.mp z]) q
 .rw[V7 _ bH,qaA,qaZ];have:=h.len;omega
noncomputable def gg (ls:List B5) (j:Nat):Int:=(ls.getD j dB).taker
noncomputable def mx (ls:List B5) (j:Nat):Int:=(ls.getD j dB).giver
structure Zbz(ls:List B5)(rs st cv:List Int)(ring:List Nat):Prop where
 ne:ring≠[]
 inn:∀j∈ring,j<ls.length/\hm ls rs st cv j
 nd:(ring.map (gg ls)).Nodup
 link:∀i<ring.length,mx ls (ring.getD i 0)=gg ls (ring.getD ((i+1) % ring.length) 0)
structure Ui(ls:List B5)(rs st cv:List Int)(ys:List Nat)(w:Int)(pl:List (Key×V)):Prop where
 inn:∀j∈ys,j<ls.length/\hm ls rs st cv j
 nd:(ys.map (gg ls)).Nodup
 link:∀i<ys.length,mx ls (ys.getD i 0)=(ys.map (gg ls)++ [w]).getD (i+1) 0
 at_:∀i<ys.length,valV pl (Sum.inl (gg ls (ys.getD i 0)))=some (.int i)
 no:∀a,a∉ys.map (gg ls)->valV pl (Sum.inl a)=none
 len:pl.length<=ys.length
section
variable {ls:List B5}{rs st cv:List Int}{ys:List Nat}{w:Int}{pl:List (Key×V)}
theorem Ui.nil(w:Int):Ui ls rs st cv [] w []:=⟨by simp,by simp,λi h=>absurd h (qa3 _),λi h=>absurd h (qa3 _),λa _=>ZdQ,qab _⟩
theorem Ui.short{n:Nat}(h:Ui ls rs st cv ys w pl)(ai:ZB ls n):ys.length<=n:=by
 have:=Fo.Zbi (n:=n) h.nd (λa bD=>by
  obtain⟨j,bw,rfl⟩:=qae.mp bD;have hC:=(h.inn j bw).1;have:=ai ls[j] (GM hC);unfold gg;rw[dr hC];omega)
 simpa using this
theorem Ui.step(h:Ui ls rs st cv ys w pl)(hw:valV pl (Sum.inl w)=none){j:Nat}(bw:j<ls.length)(hs:hm ls rs st cv j)(bX:gg ls j=w):Ui ls rs st cv (ys++ [j]) (mx ls j) (d_ pl (Sum.inl w) (.int ys.length)):=by
 have sM:w∉ys.map (gg ls):=λz=>by
  obtain⟨i,hi,e⟩:=qan z;have dy:i<ys.length:=by simpa using hi
  have:=h.at_ i dy;rw[dr dy] at this;rw[qaY] at e;rw[e,hw] at this;cases this
 refine⟨λi hi=>?_,?_,λi hi=>?_,λi hi=>?_,λa bD=>?_,?_⟩
 .rcases qaI.mp hi with z|z
  .exact h.inn i z
  .rw[qac.mp z];exact⟨bw,hs⟩
 .rw[qaG];refine qbA.mpr ⟨h.nd,by simp,λa bD b ai e=>?_⟩;obtain rfl:b=gg ls j:=by simpa using ai
  rw[bX] at e;exact sM (e▸bD)
 .rw[qaA,qaZ] at hi;rcases qa8 i ys.length with z|z
  .have bE:(ys++ [j]).getD i 0=ys.getD i 0:=by simp[List.getD,qaK z]
   rw[bE,h.link i z,qaG,List.map_singleton,bX];have ag:(ys.map (gg ls)++ [w]).length=ys.length+1:=by simp
   simp only[List.getD];rw[qaK (l₁:=ys.map (gg ls)++ [w]) (by rw[ag];omega)]
  .obtain rfl:i=ys.length:=by omega
   have bE:(ys++ [j]).getD ys.length 0=j:=by simp[List.getD]
   rw[bE];have ag:(((ys++ [j]).map (gg ls)).length)=ys.length+1:=by simp
   simp only[List.getD];rw[qaS (by rw[ag];exact qab _),ag,Nat.sub_self]
   rfl
 .rw[qaA,qaZ] at hi;rw[kE];rcases qa8 i ys.length with z|z
  .have bE:(ys++ [j]).getD i 0=ys.getD i 0:=by simp[List.getD,qaK z]
   rw[bE,if_neg (λe=>sM (by rw[<-qbL e,dr z];exact qae.mpr ⟨_,GM z,rfl⟩))];exact h.at_ i z
  .obtain rfl:i=ys.length:=by omega
   have bE:(ys++ [j]).getD ys.length 0=j:=by simp[List.getD]
   rw[bE,bX,if_pos rfl]
 .rw[qaG,qaI,List.map_singleton,qac,bX] at bD;rw[kE,if_neg (λe=>bD (.inr (qbL e)))];exact h.no a λz=>bD (.inl z)
 .rw[V7 _ hw,qaA,qaA,qaZ,qaZ];have:=h.len;omega
theorem Ui.ring(h:Ui ls rs st cv ys w pl){y:V}(hw:valV pl (Sum.inl w)=some y):∃m:Nat,y= .int m/\m<ys.length/\Zbz ls rs st cv (ys.drop m):=by
 have bz:w∈ys.map (gg ls):=by
  by_cases z:w∈ys.map (gg ls)
  .exact z
  .rw[h.no w z] at hw;cases hw
 obtain⟨m,g7,e⟩:=qan bz;have hW:m<ys.length:=by simpa using g7
 have bE:=h.at_ m hW;have bP:gg ls (ys.getD m 0)=w:=by rw[dr hW];simpa using e
 rw[bP,hw] at bE;cases bE;refine⟨m,rfl,hW,λz=>?_,λj bw=>h.inn j (List.mem_of_mem_drop bw),?_,λi hi=>?_⟩
 .have:=congrArg List.length z;simp at this;omega
 .rw[List.map_drop];exact h.nd.sublist (List.drop_sublist _ _)
 .rw[qbw] at hi;have g1:(ys.drop m).getD i 0=ys.getD (m+i) 0:=by simp[List.getD]
  rw[g1,h.link (m+i) (by omega),qbw];rcases qa8 (m+i+1) ys.length with z|z
  .rw[Nat.mod_eq_of_lt (by omega)];have g2:(ys.drop m).getD (i+1) 0=ys.getD (m+i+1) 0:=by simp[List.getD,Nat.add_assoc]
   rw[g2,dr z];simp only[List.getD];rw[qaK (by simpa using z)];simp[z]
  .have f0:i+1=ys.length-m:=by omega
   rw[f0,Nat.mod_self];have g2:(ys.drop m).getD 0 0=ys.getD m 0:=by simp[List.getD]
   have Ki:m+i+1=ys.length:=by omega
   rw[g2,bP,Ki];simp[List.getD]
end
theorem Kj{xs:List V}{k:Nat}(h:k<=xs.length):hr xs (some (k:Int)) none=xs.drop k:=by
 have bE:HT.sIx xs.length 0 (some (k:Int))=k:=by
  simp only[HT.sIx];rw[if_neg (by omega)];simp;omega
 have bP:HT.sIx xs.length xs.length none=xs.length:=by simp[HT.sIx]
 unfold hr;rw[bE,bP,qa7 (by rw[qbw];exact qab _)]
noncomputable def hE (n:Nat) (d:Nat->Nat):List Int:=(List.range n).map λv=>((d v:Nat):Int)
theorem Kk{n:Nat}{d:Nat->Nat}:(hE n d).length=n:=by simp[hE]
theorem ZiH{n v:Nat}{d:Nat->Nat}(h:v<n):(hE n d).getD v 0=(d v:Int):=by simp[hE,List.getD,h]
def W7(ls:List B5)(rs:List Int):Prop:=∀b∈ls,b.give*rs.getD b.giver.toNat 0=b.take*rs.getD b.taker.toNat 0
section
variable {ls:List B5}{rs st:List Int}{d:Nat->Nat}
theorem h0(fu:∀r∈rs,1<=r){v:Nat}(bS:v<rs.length):(dF rs v:Int)=rs.getD v 0:=by
 have:=fu rs[v] (GM bS);unfold dF;rw[dr bS];omega
theorem B0(df:st.length=ls.length)(cf:ZB ls rs.length)(fu:∀r∈rs,1<=r){j:Nat}(bw:j<ls.length):hm ls rs st (hE rs.length d) j↔d ls[j].taker.toNat<dF rs ls[j].taker.toNat/\Fire.lie (fB ls[j] (st[j]'(by omega))) d<ls[j].take:=by
 have ai:=cf ls[j] (GM bw);have cq:=h0 fu (v:=ls[j].taker.toNat) (by omega);have e9:=ZiH (d:=d) (n:=rs.length) (v:=ls[j].taker.toNat) (by omega);have eb:=ZiH (d:=d) (n:=rs.length) (v:=ls[j].giver.toNat) (by omega);have bC:st.getD j 0=st[j]'(by omega):=dr (by omega);unfold hm Fire.lie fB;rw[dr bw,e9,eb,<-cq,bC]
 constructor
 .rintro⟨a,b⟩;exact⟨by omega,b⟩
 .rintro⟨a,b⟩;exact⟨by omega,b⟩
theorem ZdL(df:st.length=ls.length)(cf:ZB ls rs.length)(fu:∀r∈rs,1<=r)(eN:∀w,¬dN ls st rs d w){v:Nat}(bS:v<rs.length)(hd:d v<dF rs v):∃i<ls.length,gg ls i=(v:Int)/\hm ls rs st (hE rs.length d) i:=by
 have ak:=mt (nL (d:=d) df cf bS).mp (eN v);unfold e' at ak;rw[decide_eq_true hd,qct,s7 (g8 df)] at ak
 by_cases z:∃i<ls.length,gg ls i=(v:Int)/\hm ls rs st (hE rs.length d) i
 .exact z
 .refine absurd (λj bw e=>?_) ak;rw[kO df bw];have ns:¬hm ls rs st (hE rs.length d) j:=λy=>z ⟨j,bw,by unfold gg;rw[dr bw];exact e,y⟩;rw[B0 df cf fu bw] at ns;have ai:=cf ls[j] (GM bw);have dL:ls[j].taker.toNat=v:=by omega
  rw[dL] at ns;have:=λy=>ns ⟨hd,y⟩;omega
theorem ZiT(df:st.length=ls.length)(cf:ZB ls rs.length)(fu:∀r∈rs,1<=r)(eN:∀w,¬dN ls st rs d w)(gS:W7 ls rs)(ip:∀v<rs.length,d v<=dF rs v)(h1:∀x∈st,0<=x)(hsz:Yx ls){j:Nat}(bw:j<ls.length)(h:hm ls rs st (hE rs.length d) j):
  ∃i<ls.length,gg ls i=mx ls j/\hm ls rs st (hE rs.length d) i:=by
 obtain⟨ak,a'⟩:=(B0 df cf fu bw).mp h;have ai:=cf ls[j] (GM bw);have bal:Fire.Bal (fBs ls st) (dF rs):=λb bz=>by
  obtain⟨i,hi,rfl⟩:=Zan df bz;have qX:=cf ls[i] (GM hi);show ls[i].give*(dF rs ls[i].giver.toNat:Int)=ls[i].take*(dF rs ls[i].taker.toNat:Int);rw[h0 fu (by omega),h0 fu (by omega)];exact gS _ (GM hi)
 obtain⟨cX,b1,dS,fN,_,_,_,dL⟩:=hsz j bw;rw[dr bw] at dL;have bG:=Fire.Zh5 (s6 df bw) bal (h1 _ (GM _)) (by show 0<=ls[j].take;omega) (ip _ (show ls[j].giver.toNat<rs.length by omega)) ak a';obtain⟨i,hi,e,hs⟩:=ZdL df cf fu eN (v:=ls[j].giver.toNat) (by omega) bG;exact⟨i,hi,by rw[e];unfold mx;rw[dr bw];omega,hs⟩
end
structure Rts(ls:List B5)(n:Nat)(z:Int->Nat)(rs:List Int):Prop where
 len:rs.length=n
 pos:∀r∈rs,1<=r
 bal:W7 ls rs
 wood:∃F,Fo.VQ (fF ls) n F n/\∀x∈F,nJ ls x rs
def WC(cM:List Str):Prop:=cM.Nodup/\(∀x∈cM,hj x=true)/\cM.length<=30
def Ug(n:Nat)(cc:List Int):Prop:=cc≠[]/\cc.Nodup/\∀g∈cc,0<=g/\g<(n:Int)
noncomputable def gcdM (rs ms:List Int):Nat:=ms.foldl (λa m=>Nat.gcd a (rs.getD m.toNat 0).toNat) 0
noncomputable def turnV (rs ms:List Int) (m:Int):Int:=rs.getD m.toNat 0 / (gcdM rs ms:Int)
noncomputable def turnsK (f:Int->Int) (ms:List Int):List (Key×V):=ms.map λm=>(Sum.inl m,V.int (f m))
theorem ta(rs ms:List Int)(m:Int):gcdM rs (ms++ [m])=Nat.gcd (gcdM rs ms) (rs.getD m.toNat 0).toNat:=by unfold gcdM;rw[qb1];rfl
theorem ZgM{rs:List Int}:∀{ms:List Int},ms≠[]->(∀m∈ms,0<rs.getD m.toNat 0)->0<gcdM rs ms:=λ{ms} bH bB=>by
 obtain⟨o6,m,rfl⟩:∃o6 m,ms=o6++ [m]:=⟨ms.dropLast,ms.getLast bH,(List.dropLast_concat_getLast bH).symm⟩;rw[ta];refine qcc _ ?_;have:=bB m (by simp);omega
theorem ZmA{rs:List Int}:∀{ms:List Int},ms≠[]->(∀m∈ms,0<rs.getD m.toNat 0)->∃m∈ms,(gcdM rs ms:Int)<=rs.getD m.toNat 0:=λ{ms} bH bB=>by
 obtain⟨o6,m,rfl⟩:∃o6 m,ms=o6++ [m]:=⟨ms.dropLast,ms.getLast bH,(List.dropLast_concat_getLast bH).symm⟩;have ak:=bB m (by simp);refine⟨m,by simp,?_⟩;rw[ta];have:=Nat.gcd_le_right (gcdM rs o6) (show 0<(rs.getD m.toNat 0).toNat by omega);omega
theorem B1{f:Int->Int}:∀{ms:List Int}{m:Int},m∈ms->valV (turnsK f ms) (Sum.inl m)=some (V.int (f m))
 |x::ms,m,h=>by
  unfold turnsK valV;rw[List.map_cons,qbJ]
  by_cases e:x=m
  .simp[e]
  .have bz:m∈ms:=by
    rcases qah.mp h with z|z
    .exact absurd z.symm e
    .exact z
   have bQ:=B1 (f:=f) bz;unfold turnsK valV at bQ;simp only[show decide ((Sum.inl x:Key)=Sum.inl m)=false from decide_eq_false (λz=>e (qbL z))];exact bQ
theorem B2{f:Int->Int}:∀{ms:List Int}{m:Int},m∉ms->valV (turnsK f ms) (Sum.inl m)=none
 | [],m,_=>rfl
 |x::ms,m,h=>by
  have e:x≠m:=λz=>h (by simp[z]);have bQ:=B2 (f:=f) (ms:=ms) (m:=m) (λz=>h (by simp[z]));unfold turnsK valV at bQ|-;rw[List.map_cons,qbJ];simp only[show decide ((Sum.inl x:Key)=Sum.inl m)=false from decide_eq_false (λz=>e (qbL z))];exact bQ
theorem Kl{f:Int->Int}{ms:List Int}{m:Int}(h:m∉ms):d_ (turnsK f ms) (Sum.inl m) (V.int (f m))=turnsK f (ms++ [m]):=by
 unfold d_;rw[if_neg]
 .unfold turnsK;simp
 .intro z;rw[qb5] at z;obtain⟨kv,br,e⟩:=z;unfold turnsK at br;obtain⟨x,bp,rfl⟩:=qae.mp br;exact h (by rw[<-qbL (of_decide_eq_true e)];exact bp)
theorem B3{x:Int}(cd:0<=x)(ak:x<=100000):x.natAbs.log2<9000:=by
 obtain⟨n,rfl⟩:=qaL cd;rw[qci]
 by_cases cd:n=0
 .rw[cd];decide+kernel
 .have:=(qcl cd).mpr (show n<2 ^ 30 by omega);omega
noncomputable def idxL:List Int->Int->Nat
 | [],_=>0
 |y::ys,x=>if y=x then 0 else idxL ys x+1
theorem iq:∀{ms:List Int}{x:Int},x∈ms->ms[idxL ms x]? =some x/\∀m<idxL ms x,ms[m]? ≠some x
 |y::ys,x,h=>by
  unfold idxL
  by_cases e:y=x
  .rw[if_pos e];exact⟨by simp[e],λm bz=>absurd bz (qa3 _)⟩
  .rw[if_neg e];have bp:x∈ys:=by
    rcases qah.mp h with z|z
    .exact absurd z.symm e
    .exact z
   obtain⟨ak,a'⟩:=iq bp;refine⟨by simpa using ak,λm bz=>?_⟩;cases m with
   |zero=>simpa using e
   |succ m=>simpa using a' m (by omega)
theorem Vk{ms:List Int}{x:Int}(h:x∈ms):idxL ms x<ms.length:=(qaa.mp (iq h).1).1
noncomputable def inB (ms:List Int) (b:B5):B5:=⟨idxL ms b.giver,idxL ms b.taker,b.give,b.take,b.start⟩
noncomputable def inT (ms:List Int) (b:B5):Bool:=decide (b.giver∈ms)&&decide (b.taker∈ms)
noncomputable def dW (ls:List B5) (ms:List Int):List B5:=(ls.filter (inT ms)).map (inB ms)
theorem Ze8{ls:List B5}{ms:List Int}:ZB (dW ls ms) ms.length:=λb ai=>by
 obtain⟨x,bp,rfl⟩:=qae.mp ai;have h:=(qaB.mp bp).2;unfold inT at h;rw[qaU,decide_eq_true_eq,decide_eq_true_eq] at h;have ak:=Vk h.1;have a':=Vk h.2;show 0<=((idxL ms x.giver:Nat):Int)/\((idxL ms x.giver:Nat):Int)<ms.length/\0<=((idxL ms x.taker:Nat):Int)/\((idxL ms x.taker:Nat):Int)<ms.length;omega
theorem ZiY{ls:List B5}{ms:List Int}:(dW ls ms).length<=ls.length:=by
 unfold dW;rw[GE];exact qaR _ _
theorem B4(f:Int->Int)(ms:List Int):(turnsK f ms).map (·.2)=(ms.map f).map V.int:=by unfold turnsK;rw[qaP,qaP];rfl
theorem ZhN(f:Int->Int)(ms:List Int):(turnsK f ms).map (λkv=>kV kv.1)=ms.map V.int:=by unfold turnsK;rw[qaP];rfl
theorem ZbP{ls:List B5}{st rs:List Int}{c d:Nat->Nat}{bF:List Nat}(h:Fire.Z1 (dN ls st rs) c bF d):∀w∈bF,w<rs.length:=by
 induction h with
 |nil c=>intro w hw;cases hw
 | @cons c d w bF c8 ap bQ=>
  intro v bS;rcases qah.mp bS with z|z
  .rw[z];exact c8.1
  .exact bQ v z
noncomputable def placeN (kept ms:List Int) (mn x:Int):Nat:=if x∈ms then idxL kept mn else idxL kept x
noncomputable def tvJ (f:Int->Int) (ms:List Int) (x:Int):Int:=if x∈ms then f x else 1
noncomputable def joB (f:Int->Int) (ms:List Int) (pl:Int->Nat) (b:B5):B5:=⟨pl b.giver,pl b.taker,b.give*tvJ f ms b.giver,b.take*tvJ f ms b.taker,b.start⟩
noncomputable def eQ (f:Int->Int) (ms:List Int) (pl:Int->Nat) (ls:List B5):List B5:=(ls.filter λb=>!inT ms b).map (joB f ms pl)
theorem Zlv(f:Int->Int)(ms:List Int)(x:Int):valV (turnsK f ms) (Sum.inl x)=if x∈ms then some (V.int (f x)) else none:=by
 by_cases h:x∈ms
 .rw[if_pos h,B1 h]
 .rw[if_neg h,B2 h]
theorem Zfm(f:Int->Int)(ms:List Int)(x:Int):(valV (turnsK f ms) (Sum.inl x)).isSome=decide (x∈ms):=by
 rw[Zlv]
 split<;>simp[*]
structure JM where
 inner:List Int
 kept:List Nat
 joined:Nat
 called:List Str
 rows:List B5
def We(H:Hp)(p:Addr)(jm:JM)(ad:List Addr):Prop:=
 ∃(bx a b c d:Addr)(bs:List V),ad=[p,a,b,c,d]/\H p=some (.ins T.c bx [("inner_row",.ref a),("kept",.ref b),("joined",.int jm.joined),("called",.ref c),("rows",.ref d)])/\H a=some (.lst (jm.inner.map V.int))/\H b=some (.lst ((jm.kept.map λx:Nat=>(x:Int)).map V.int))/\H c=some (.lst (jm.called.map V.str))/\H d=some (.lst bs)/\eP H bs jm.rows
theorem We.off{T:Tp K mg}{H ae:Hp}{p:Addr}{jm:JM}{ad A:List Addr}(h:We T H p jm ad)(f:db A H ae)(o:∀x∈ad,x∉A):We T ae p jm ad:=by
 obtain⟨bx,a,b,c,d,bs,rfl,ak,a',bL,cu,dJ,da⟩:=h;exact⟨bx,a,b,c,d,bs,rfl,f.keep _ _ ak (o _ (by simp)),f.keep _ _ a' (o _ (by simp)),f.keep _ _ bL (o _ (by simp)),f.keep _ _ cu (o _ (by simp)),f.keep _ _ dJ (o _ (by simp)),da.keep f.tups⟩
theorem We.same{T:Tp K mg}{H ae:Hp}{p:Addr}{jm:JM}{ad:List Addr}(h:We T H p jm ad)(s:Zd H ae):We T ae p jm ad:=h.off (A:=[]) s.frame (by simp)
theorem Zjf{T:Tp K mg}{H:Hp}{p:Addr}{jm:JM}{ad:List Addr}{m:Str}{G:Prop}(h:We T H p jm ad)(fJ:(m== "inner_row")=false)(gl:(m== "kept")=false)(wm:(m== "joined")=false)(wn:(m== "called")=false)(s_:(m== "rows")=false)(q:G):∃a bx fs,V.ref p= .ref a/\H a=some (.ins T.c bx fs)/\fs.lookup m=none/\G:=by
 obtain⟨bx,a,b,c,d,bs,_,ak,_⟩:=h;exact⟨p,bx,_,rfl,ak,Rd.lk1 fJ (Rd.lk1 gl (Rd.lk1 wm (Rd.lk1 wn (Rd.lk1 s_ Rd.lkN)))),q⟩
noncomputable def iZ (ms:List Int) (mn:Int) (w:Nat):Bool:=decide ((w:Int)=mn)|| !decide ((w:Int)∈ms)
noncomputable def dU (n:Nat) (ms:List Int) (mn:Int):List Nat:=(List.range n).filter (iZ ms mn)
noncomputable def cl (n:Nat) (ms:List Int) (mn:Int):List Int:=(dU n ms mn).map λx:Nat=>(x:Int)
noncomputable def tb (ag:HM) (rs ms:List Int) (mn:Int) (bF:List Nat):JM:=
 ⟨bF.map λw=>ms.getD w 0,dU ag.names.length ms mn,idxL (cl ag.names.length ms mn) mn,(dU ag.names.length ms mn).map λw=>ag.names.getD w "",eQ (turnV rs ms) ms (placeN (cl ag.names.length ms mn) ms mn) ag.belts⟩
theorem YO{n:Nat}{ms:List Int}{mn x:Int}:x∈cl n ms mn↔(0<=x/\x<(n:Int))/\(x=mn\/x∉ms):=by
 unfold cl dU;rw[qae]
 constructor
 .rintro⟨w,hw,rfl⟩;obtain⟨ak,a'⟩:=qaB.mp hw;have:=qaw.mp ak;refine⟨by omega,?_⟩;unfold iZ at a';simpa using a'
 .rintro⟨⟨cd,ak⟩,a'⟩;obtain⟨w,rfl⟩:=qaL cd;refine⟨w,qaB.mpr ⟨qaw.mpr (by omega),?_⟩,rfl⟩;unfold iZ;simpa using a'
theorem o7{n:Nat}{ms:List Int}{mn:Int}:(cl n ms mn).Nodup:=by
 unfold cl dU;rw[qaT,qb0];exact(qaT.mp ((List.nodup_range (n:=n)).filter (iZ ms mn))).imp λh z=>h (by omega)
theorem ZaM{n:Nat}{ms:List Int}{mn:Int}:(dU n ms mn).length<=n:=by
 unfold dU;exact qaj (qaR _ _) (by rw[qbo];exact qab _)
theorem Zfs{g:Nat->Nat}:∀(n:Nat){ms:List Nat},ms.Nodup->(∀m∈ms,m<n)->(ms.map g).sum<=((List.range n).map g).sum
 |0,ms,_,h=>by
  obtain rfl:ms=[]:=List.eq_nil_iff_forall_not_mem.mpr λm bz=>absurd (h m bz) (qa3 _);exact qab _
 |n+1,ms,nd,h=>by
  rw[qbP,qaG,List.sum_append]
  by_cases bH:n∈ms
  .have e:(ms.map g).sum=g n+((ms.erase n).map g).sum:=by rw[((List.perm_cons_erase bH).map g).sum_nat];simp
   have bQ:=Zfs (g:=g) n (nd.erase n) λm bz=>by
    obtain⟨ak,a'⟩:=(nd.mem_erase_iff).mp bz;have:=h m a';omega
   rw[e];simp;omega
  .have bQ:=Zfs (g:=g) n nd λm bz=>by
    have:=h m bz;have:m≠n:=λz=>bH (z▸bz);omega
   omega
theorem ZjQ(rs:List Int)(h:∀r∈rs,0<=r):(((List.range rs.length).map λi=>(rs.getD i 0).toNat).sum:Int)=rs.sum:=by
 have e:(List.range rs.length).map (λi=>(rs.getD i 0).toNat)=rs.map Int.toNat:=by
  refine qau (by simp) λi ak a'=>?_;have:i<rs.length:=by simpa using ak
  simp[List.getD,this]
 rw[e];clear e
 induction rs with
 |nil=>rfl
 |cons r rs bQ=>
  have ak:=h r (by simp);have a':=bQ λx bp=>h x (by simp[bp]);simp only[List.map_cons,qcu] at*;omega
theorem ZfC{rs ms:List Int}(bB:∀r∈rs,1<=r)(bH:ms.Nodup)(e0:ms≠[])(bz:∀m∈ms,0<=m/\m<(rs.length:Int)):(ms.map (turnV rs ms)).sum<=rs.sum/\∀m∈ms,1<=turnV rs ms m/\turnV rs ms m<=rs.getD m.toNat 0/\turnV rs ms m*(gcdM rs ms:Int)=rs.getD m.toNat 0:=by
 have at_:∀m∈ms,1<=rs.getD m.toNat 0:=λm h=>by
  obtain⟨cd,ak⟩:=bz m h;have:m.toNat<rs.length:=by omega
  have e:rs.getD m.toNat 0=rs[m.toNat]:=by simp[List.getD,this]
  rw[e];exact bB _ (GM this)
 have B6:∀m∈ms,((gcdM rs ms:Nat):Int) ∣ rs.getD m.toNat 0:=λm h=>by
  have e_:∀(l:List Int)(a:Nat),(l.foldl (λa m=>Nat.gcd a (rs.getD m.toNat 0).toNat) a ∣ a)/\∀m∈l,l.foldl (λa m=>Nat.gcd a (rs.getD m.toNat 0).toNat) a ∣ (rs.getD m.toNat 0).toNat:=by
   intro l
   induction l with
   |nil=>exact λa=>⟨Nat.dvd_refl _,by simp⟩
   |cons x l bQ=>
    intro a;obtain⟨ak,a'⟩:=bQ (Nat.gcd a (rs.getD x.toNat 0).toNat);refine⟨qbQ ak (qby _ _),λm bz=>?_⟩;rcases qah.mp bz with rfl|z
    .exact qbQ ak (qa6 _ _)
    .exact a' m z
  have bL:=(e_ ms 0).2 m h;have cu:=Int.ofNat_dvd.mpr bL;have:=at_ m h;rw[qas (by omega)] at cu;exact cu
 have dS:=ZgM (rs:=rs) e0 λm h=>(by have:=at_ m h;omega);have my:∀m∈ms,1<=turnV rs ms m/\turnV rs ms m<=rs.getD m.toNat 0/\turnV rs ms m*(gcdM rs ms:Int)=rs.getD m.toNat 0:=λm h=>by
  have ak:=at_ m h;have e:turnV rs ms m*(gcdM rs ms:Int)=rs.getD m.toNat 0:=Int.ediv_mul_cancel (B6 m h);have fc:1<=turnV rs ms m:=by
   by_cases z:turnV rs ms m<=0
   .have:=qbU z (show(0:Int)<=(gcdM rs ms:Int) by omega);omega
   .omega
  refine⟨fc,?_,e⟩;have:=qa1 (show(1:Int)<=(gcdM rs ms:Int) by omega) (show(0:Int)<=turnV rs ms m by omega);omega
 refine⟨?_,my⟩;have bu:=Zfs (g:=λi=>(rs.getD i 0).toNat) rs.length (ms:=ms.map Int.toNat) (by
  rw[qaT,qb0];refine(qaT.mp bH).imp_of_mem λ{a b} bD ai ne e=>ne ?_;have:=bz a bD;have:=bz b ai;omega) (λm h=>by
  obtain⟨x,bp,rfl⟩:=qae.mp h;have:=bz x bp;omega)
 have bM:=ZjQ rs λr ap=>(by have:=bB r ap;omega);have bR:∀l:List Int,(∀m∈l,m∈ms)->(l.map (turnV rs ms)).sum<=((((l.map Int.toNat).map λi=>(rs.getD i 0).toNat).sum:Nat):Int):=by
  intro l
  induction l with
  |nil=>intro _;simp
  |cons x l bQ=>
   intro ag;have ak:=bQ λm h=>ag m (by simp[h]);have a':=my x (ag x (by simp));have bL:=at_ x (ag x (by simp));simp only[List.map_cons,qcu] at*;omega
 have:=bR ms λ_ h=>h;omega
theorem Zmz{rs:List Int}(h:∀r∈rs,0<=r):∀r∈rs,r<=rs.sum:=by
 induction rs with
 |nil=>simp
 |cons x rs bQ=>
  intro r ap;have cd:=h x (by simp);have ak:0<=rs.sum:=by
   clear bQ ap
   induction rs with
   |nil=>simp
   |cons y rs Km=>
    have:=h y (by simp);have:=Km (λr ap=>h r (by simp only[qah] at *;rcases ap with z|z<;>simp[z]));simp only[qcu];omega
  rw[qcu];rcases qah.mp ap with rfl|z
  .omega
  .have:=bQ (λr ap=>h r (by simp[ap])) r z;omega
noncomputable def kT (jm:JM) (k:Int):List Int:=if k=(jm.joined:Int) then jm.inner else[((jm.kept.getD k.toNat 0:Nat):Int)]
noncomputable def unfL (jm:JM) (b5:List Int):List Int:=b5.flatMap (kT jm)
theorem ZlB{jm:JM}{k:Int}:(kT jm k).length<=jm.inner.length+1:=by
 unfold kT
 split
 .omega
 .simp
theorem ZaB{jm:JM}:∀b5:List Int,(unfL jm b5).length<=b5.length*(jm.inner.length+1)
 | []=>by simp[unfL]
 |k::b5=>by
  have ak:=ZaB (jm:=jm) b5;have a':=ZlB (jm:=jm) (k:=k);unfold unfL at*;rw[qcp,qaA,List.length_cons,Nat.succ_mul];omega
theorem B7{jm:JM}{b5:List Int}{k:Int}:unfL jm (b5++ [k])=unfL jm b5++kT jm k:=by
 unfold unfL;rw[List.flatMap_append];simp
theorem Zcr{ns:List Int}{k:Int}(cd:0<=k)(ak:k<ns.length):atI (ns.map V.int) k=some (.int (ns.getD k.toNat 0)):=Y1 cd ak
theorem wo{n:Nat}{a:Int}(h:a.natAbs<2 ^ n):Builtin.Int.intBits a<=n:=by
 unfold Builtin.Int.intBits
 split
 .exact qat _
 .rename_i hz;have cd:a.natAbs≠0:=by
   intro e;apply hz;have:a=0:=by omega
   rw[this]
   rfl
  have:=(qcl cd).mpr h;omega
theorem mulI{n m:Nat}{a b:Int}(bD:a.natAbs<2 ^ n)(ai:b.natAbs<2 ^ m)(h:n+m<=10000000):IntMulOk a b:=by
 have eE:=wo bD;have fC:=wo ai;have k:Builtin.Int.intTooBig ((Builtin.Int.intBits a:Int)+(Builtin.Int.intBits b:Int))=false:=by
  unfold Builtin.Int.intTooBig;rw[PySem.bitsLine_eq];exact decide_eq_false (by omega)
 unfold IntMulOk;rw[k];simp
theorem Kn:∀i<26,("abcdefghijklmnopqrstuvwxyz" :Str).cps.toList[i]? =some (97+i):=by decide+kernel
theorem Ko:("abcdefghijklmnopqrstuvwxyz" :Str).length<=sizeLine:=by decide+kernel
theorem Kq{i:Int}(cd:0<=i)(ak:i<26):atI ("abcdefghijklmnopqrstuvwxyz" :Str).cps.toList i=some (97+i.toNat):=by
 have:=gJ (Kn i.toNat (by omega))
 rwa [qas cd] at this
theorem Zi6(x:Str):hj x=true↔1<=x.length/\x.length<=8/\∀c∈x.cps.toList,97<=c/\c<=122:=by
 unfold hj;simp only[qaU,decide_eq_true_eq,qbm];exact⟨λh=>⟨h.1.1,h.1.2,h.2⟩,λh=>⟨⟨h.1,h.2.1⟩,h.2.2⟩⟩
theorem Zje(x y:Str):(x++y).cps.toList=x.cps.toList++y.cps.toList:=by
 show(x.cps++y.cps).toList=_;simp
theorem wq(x:Str):x.length=x.cps.toList.length:=by simp[Str.length]
noncomputable def cellX (ns:List Int) (k:Int):Int:=if(ns.length:Int)=0 then 0 else if k / ns.length=0 then ns.getD (k % ns.length).toNat 0 else ns.getD (k % ns.length).toNat 0*(2*(k / ns.length)+1) % 1000003+31*(k / ns.length)
theorem wr{n:Nat}(h:n<=100000000):(n:Int).natAbs.log2<9000:=by
 rw[qci]
 by_cases cd:n=0
 .rw[cd];decide+kernel
 .have:=(qcl cd).mpr (show n<2 ^ 30 by omega);omega
theorem B8{x:Int}(cd:0<=x)(ak:x<=100000000):x.natAbs.log2<9000:=by
 obtain⟨n,rfl⟩:=qaL cd;exact wr (by omega)
structure Bel(n:Nat)(b:B5):Prop where
 rg:0<=b.giver/\b.giver<(n:Int)/\0<=b.taker/\b.taker<(n:Int)
 sz:1<=b.give/\1<=b.take
 st:0<=b.start
 few:b.give<=10 ^ 24/\b.take<=10 ^ 24
def Zng(rs:List Int):Prop:=∀r∈rs,1<=r/\r<=6
theorem Zoh{f x y:Nat}(bp:1<=x):f*y / Nat.gcd x y*x=f*x / Nat.gcd x y*y:=by
 have dS:0<Nat.gcd x y:=qbH _ bp;obtain⟨a,bD⟩:=qby x y;obtain⟨b,ai⟩:=qa6 x y;generalize Nat.gcd x y=g at*;subst bD ai;have bE:f*(g*b) / g=f*b:=by rw[qaJ];exact Nat.mul_div_cancel_left _ dS
 have bP:f*(g*a) / g=f*a:=by rw[qaJ];exact Nat.mul_div_cancel_left _ dS
 rw[bE,bP];simp only[qaN,qaJ,qbl]
theorem ZeE{H a_ bt:Hp}{fp nN:List Addr}(s:Zd H a_)(n:∀x∈fp,H x=none)(gd:db fp a_ bt)(gr:UM fp nN a_):Zd H bt/\∀x∈nN,H x=none:=by
 refine⟨λb o e=>gd.keep _ _ (s _ _ e) (λz=>by have:=n b z;rw[e] at this;cases this),λx bp=>?_⟩;rcases gr x bp with z|z
 .exact n x z
 .exact ei s z
noncomputable def chN (c at_:Int) (k p:Nat):Nat:=97+((if(p:Int)=at_ then c / 64+3*(k:Int) else c / (64+(p:Int))) % 26).toNat
theorem Znb(c at_:Int)(k p:Nat):97<=chN c at_ k p/\chN c at_ k p<=122:=by unfold chN;omega
theorem ZnB{c at_:Int}{k k' p:Nat}(bB:(p:Int)=at_)(h:k<8)(h':k'<8)(n:k≠k'):chN c at_ k p≠chN c at_ k' p:=by
 unfold chN;rw[if_pos bB,if_pos bB];omega
structure Zbr(c at_:Int)(eL:Nat)(cM:List Str):Prop where
 cps:∀k x,cM[k]? =some x->x.cps.toList=(List.range eL).map (chN c at_ k)
theorem Zbr.name{c at_:Int}{eL:Nat}{cM:List Str}(h:Zbr c at_ eL cM)(ak:1<=eL)(a':eL<=8):∀n∈cM,hj n=true:=λn bH=>by
 obtain⟨k,br⟩:=qbj bH;have e:=h.cps k n br;rw[Zi6,wq,e];refine⟨by simpa using ak,by simpa using a',λx bp=>?_⟩;obtain⟨i,_,rfl⟩:=qae.mp bp;exact Znb c at_ k i
theorem Zbr.nodup{c at_:Int}{eL:Nat}{cM:List Str}(h:Zbr c at_ eL cM)(ag:cM.length<=8)(cd:0<=at_)(ak:at_<(eL:Int)):cM.Nodup:=by
 rw[qaT,qbn];intro i j hi bw sD e;have bE:=h.cps i _ (GT hi);have bP:=h.cps j _ (GT bw);rw[e,bP] at bE;have bB:at_.toNat<eL:=by omega
 have dj:=congrArg (λl=>l[at_.toNat]?) bE;simp[bB] at dj;exact ZnB (c:=c) (at_:=at_) (k:=j) (k':=i) (p:=at_.toNat) (by omega) (by omega) (by omega) (by omega) dj
noncomputable def labT (E:List (Nat×Nat)) (n w:Nat):Nat:=Pc.Yn E n (λi=>i) w
noncomputable def dO (ls:List B5):List (Nat×Nat):=ls.map λb=>(b.giver.toNat,b.taker.toNat)
theorem Zhk{ls:List B5}{n:Nat}(h:ZB ls n):∀e∈dO ls,e.1<n/\e.2<n:=by
 intro e bK;obtain⟨b,ai,rfl⟩:=qae.mp bK;have:=h b ai;dsimp only;omega
theorem ZkE{ls:List B5}{n:Nat}(ai:ZB ls n){a b:Nat}(h:Pc.Yo (dO ls) a b):Fo.W2 (fF ls) (a:Int) (b:Int):=by
 induction h with
 |refl=>exact .refl
 |fwd _ e bQ=>
  obtain⟨x,bp,bP⟩:=qae.mp e;obtain⟨i,hi,rfl⟩:=qan bp;have ap:=ai _ bp
  injection bP with dj hA
  refine .step (t:=(i:Int)) (al:=true) bQ (oZ hi ?_);rw[Wb,dr hi];exact .inl ⟨by omega,by congr 1;omega⟩
 |bwd _ e bQ=>
  obtain⟨x,bp,bP⟩:=qae.mp e;obtain⟨i,hi,rfl⟩:=qan bp;have ap:=ai _ bp
  injection bP with dj hA
  refine .step (t:=(i:Int)) (al:=false) bQ (oZ hi ?_);rw[Wb,dr hi];exact .inr ⟨by omega,by congr 1;omega⟩
theorem Zni{E:List (Nat×Nat)}{n:Nat}(fo:∀e∈E,e.1<n/\e.2<n){a b:Nat}(bD:a<n)(ai:b<n)(h:Pc.Yo E a b):labT E n a=labT E n b:=by
 obtain⟨e9,fE⟩:=Pc.Zac fo bD;obtain⟨eb,iU⟩:=Pc.Zac fo ai;have ak:=fE _ (h.trans eb);have a':=iU _ (h.symm.trans e9);unfold labT;omega
noncomputable def f3 (f:Nat->Nat) (m:Nat):List Int:=(List.range m).map λw=>((f w:Nat):Int)
theorem ZlI(f:Nat->Nat)(m:Nat):(f3 f m).length=m:=by simp[f3]
theorem Zc5{f:Nat->Nat}{m g:Nat}(h:g<m):atI ((f3 f m).map V.int) (g:Int)=some (.int (f g:Nat)):=gJ (by simp[f3,h])
theorem Zkk{f:Nat->Nat}{m:Nat}{e:Nat×Nat}(ak:e.1<m)(a':e.2<m):((f3 f m).set e.1 ((min (f e.1) (f e.2):Nat):Int)).set e.2 ((min (f e.1) (f e.2):Nat):Int)=f3 (Pc.step f e) m:=by
 refine qau (by simp[f3]) λj a1 a2=>?_;have bw:j<m:=by simpa[f3] using a2
 rw[qb6,qb6];simp only[f3,qaY,List.getElem_range,Pc.step]
 by_cases eb:e.2=j
 .rw[if_pos eb,if_pos (.inr eb.symm)]
 .rw[if_neg eb]
  by_cases e9:e.1=j
  .rw[if_pos e9,if_pos (.inl e9.symm)]
  .rw[if_neg e9,if_neg (λz=>z.elim (λy=>e9 y.symm) (λy=>eb y.symm))]
theorem ZiB{ls:List B5}{ys:List Int}(bv:∀j<ls.length,((ls.getD j dB).giver∈ys↔(ls.getD j dB).taker∈ys)){a w:Int}(h:Fo.W2 (fF ls) a w)(bD:a∈ys):w∈ys:=by
 induction h with
 |refl=>exact bD
 |step _ m bQ=>
  obtain⟨i,hi,bz⟩:=UE m;rcases Wb.mp bz with⟨bE,bP⟩|⟨bE,bP⟩
  .have dj:=congrArg Prod.fst bP;dsimp only at dj;rw[dj];exact(bv i hi).mp (bE▸bQ)
  .have dj:=congrArg Prod.fst bP;dsimp only at dj;rw[dj];exact(bv i hi).mpr (bE▸bQ)
noncomputable def mz (rs:List Int) (ys:List Int):Nat:=ys.foldl (λc w=>Nat.gcd c (rs.getD w.toNat 0).toNat) 0
theorem tc(rs:List Int):∀(ys:List Int)(c:Nat),ys.foldl (λc w=>Nat.gcd c (rs.getD w.toNat 0).toNat) c ∣ c/\∀w∈ys,ys.foldl (λc w=>Nat.gcd c (rs.getD w.toNat 0).toNat) c ∣ (rs.getD w.toNat 0).toNat
 | [],c=>⟨Nat.dvd_refl c,by simp⟩
 |w::ys,c=>by
  obtain⟨ak,a'⟩:=tc rs ys (Nat.gcd c (rs.getD w.toNat 0).toNat);refine⟨qbQ ak (qby _ _),λv bS=>?_⟩;rcases qah.mp bS with z|z
  .rw[z];exact qbQ ak (qa6 _ _)
  .exact a' v z
def Ua(ls:List B5)(n:Nat)(rs:List Int):Prop:=∀(f:Int)(ys:List Int),0<=f->f<(n:Int)->f∈ys->(∀j<ls.length,((ls.getD j dB).giver∈ys↔(ls.getD j dB).taker∈ys))->mz rs ys=1
theorem Zls{ls:List B5}{n:Nat}{F:List (Int×Fo.ZX)}{rs:List Int}(fw:Fo.VQ (fF ls) n F n)(gx:∀x∈F,nJ ls x rs):Ua ls n rs:=by
 intro f ys dR f1 bN bv;obtain⟨x,bp,br⟩:=fw.all f dR f1;obtain⟨bG,jL,_,_⟩:=fw.tree x bp;obtain⟨zs,hz,nO⟩:=gx x bp;refine ZhQ bG hz λy bO=>?_;have td:y.1∈Fo.keys x.2:=by
  have ak:=hz.keys;have a':(Fo.keys x.2).take x.2.length=Fo.keys x.2:=qa7 (by simp[Fo.keys]);rw[a'] at ak;rw[<-ak];exact qae.mpr ⟨y,bO,rfl⟩
 have bL:=(bG.keys_iff jL y.1).mp td;have cu:=(bG.keys_iff jL f).mp br;have dJ:y.1∈ys:=ZiB bv (Fo.W2.trans (Fo.W2.symm (s1 ls) cu) bL) bN;have da:=(tc rs ys 0).2 _ dJ;have hZ:=nO y bO;have kQ:rs.getD y.1.toNat 0=((lcmL zs / y.2.2*y.2.1:Nat):Int):=by rw[List.getD,hZ];rfl
 rw[kQ,FM] at da;exact da
section
variable {ls:List B5}{n:Nat}{rs rs':List Int}
theorem ZgP{rs rs':List Int}{a b:Nat}:∀(ys:List Int)(c e:Nat),c*b=a*e->(∀v∈ys,(rs.getD v.toNat 0).toNat*b=a*(rs'.getD v.toNat 0).toNat)->ys.foldl (λc w=>Nat.gcd c (rs.getD w.toNat 0).toNat) c*b=a*ys.foldl (λc w=>Nat.gcd c (rs'.getD w.toNat 0).toNat) e
 | [],c,e,h,_=>h
 |v::ys,c,e,h,q=>by
  refine ZgP ys _ _ ?_ λw hw=>q w (by simp[hw]);rw[<-Nat.gcd_mul_right,h,q v (by simp),Nat.gcd_mul_left]
theorem Zez(cf:ZB ls n)(hsz:Yx ls)(ag:rs.length=n)(fD:rs'.length=n)(ce:∀r∈rs,1<=r)(cG:∀r∈rs',1<=r)(k1:W7 ls rs)(k2:W7 ls rs')(fE:Ua ls n rs)(iU:Ua ls n rs'):rs'=rs:=by
 have bB:∀{xs:List Int},xs.length=n->(∀r∈xs,1<=r)->∀v:Nat,v<n->1<=xs.getD v 0:=λ{xs} e q v bS=>by
  rw[dr (by rw[e];exact bS)];exact q _ (GM _)
 refine qau (by rw[ag,fD]) λw a1 a2=>?_;have hw:w<n:=by rw[<-ag];exact a2
 rw[<-dr (d:=0) a1,<-dr (d:=0) a2]
 classical
 obtain⟨ys,te⟩:∃ys:List Int,∀v:Int,v∈ys↔(0<=v/\v<(n:Int))/\Fo.W2 (fF ls) w v:=by
  refine⟨((List.range n).map λv:Nat=>(v:Int)).filter λv=>decide (Fo.W2 (fF ls) (w:Int) v),λv=>?_⟩;simp only[qaB,qae,qaw,decide_eq_true_eq]
  constructor
  .rintro⟨⟨u,hu,rfl⟩,b4⟩;exact⟨⟨by omega,by omega⟩,b4⟩
  .rintro⟨⟨a,b⟩,b4⟩;exact⟨⟨v.toNat,by omega,by omega⟩,b4⟩
 have cg:∀j<ls.length,((ls.getD j dB).giver∈ys↔(ls.getD j dB).taker∈ys):=λj bw=>by
  obtain⟨eE,fC,g9,hF⟩:=cf.at bw;rw[te,te]
  constructor
  .rintro⟨_,b4⟩;exact⟨⟨g9,hF⟩,.step b4 (oZ bw (Wb.mpr (.inl ⟨rfl,rfl⟩)))⟩
  .rintro⟨_,b4⟩;exact⟨⟨eE,fC⟩,.step b4 (oZ bw (Wb.mpr (.inr ⟨rfl,rfl⟩)))⟩
 have B9:(w:Int)∈ys:=(te _).mpr ⟨⟨by omega,by omega⟩,.refl⟩;have g1:=fE (w:Int) ys (by omega) (by omega) B9 cg;have g2:=iU (w:Int) ys (by omega) (by omega) B9 cg;have e_:∀v,Fo.W2 (fF ls) (w:Int) v->(rs.getD v.toNat 0).toNat*(rs'.getD w 0).toNat=(rs.getD w 0).toNat*(rs'.getD v.toNat 0).toNat:=by
  intro v bS
  induction bS with
  |refl=>rw[FM]
  | @step b c t al _ m bQ=>
   obtain⟨i,hi,bz⟩:=UE m;have f_:=k1 (ls.getD i dB) (by rw[dr hi];exact GM hi);have B_:=k2 (ls.getD i dB) (by rw[dr hi];exact GM hi);obtain⟨cX,b1,dS,fN,_,_,eh,dL⟩:=hsz i hi;obtain⟨eE,fC,g9,hF⟩:=cf.at hi;have g7:=Wb.mp bz;generalize ls.getD i dB=bb at*;have fc:=bB ag ce bb.giver.toNat (by omega);have ie:=bB ag ce bb.taker.toNat (by omega);have lK:=bB fD cG bb.giver.toNat (by omega);have Kr:=bB fD cG bb.taker.toNat (by omega);obtain⟨A,ws⟩:∃A:Nat,rs.getD bb.giver.toNat 0=(A:Int):=⟨(rs.getD bb.giver.toNat 0).toNat,by omega⟩;obtain⟨B,o8⟩:∃B:Nat,rs.getD bb.taker.toNat 0=(B:Int):=⟨(rs.getD bb.taker.toNat 0).toNat,by omega⟩;obtain⟨fX,wt⟩:∃A:Nat,rs'.getD bb.giver.toNat 0=(A:Int):=⟨(rs'.getD bb.giver.toNat 0).toNat,by omega⟩;obtain⟨tf,wu⟩:∃B:Nat,rs'.getD bb.taker.toNat 0=(B:Int):=⟨(rs'.getD bb.taker.toNat 0).toNat,by omega⟩;rw[ws,o8,eh,dL] at f_;rw[wt,wu,eh,dL] at B_;have B':cX*A=b1*B:=by exact_mod_cast f_
   have qn:cX*fX=b1*tf:=by exact_mod_cast B_
   generalize (rs'.getD w 0).toNat=R at*;generalize (rs.getD w 0).toNat=S at*;rcases g7 with⟨x1,x2⟩|⟨x1,x2⟩
   .have x3:=congrArg Prod.fst x2;dsimp only at x3;rw[<-x1,ws,wt] at bQ;rw[x3,o8,wu];simp only[FM] at bQ|-;refine qbC fN ?_
    calc b1*(B*R)=cX*A*R:=by rw[B',qaN]
     _=cX*(A*R):=qaN _ _ _
     _=cX*(S*fX):=by rw[bQ]
     _=S*(cX*fX):=qaJ _ _ _
     _=b1*(S*tf):=by rw[qn,qaJ]
   .have x3:=congrArg Prod.fst x2;dsimp only at x3;rw[<-x1,o8,wu] at bQ;rw[x3,ws,wt];simp only[FM] at bQ|-;refine qbC dS ?_
    calc cX*(A*R)=b1*B*R:=by rw[<-B',qaN]
     _=b1*(B*R):=qaN _ _ _
     _=b1*(S*tf):=by rw[bQ]
     _=S*(b1*tf):=qaJ _ _ _
     _=cX*(S*fX):=by rw[<-qn,qaJ]
 have a':=ZgP (rs:=rs) (rs':=rs') ys 0 0 (by simp) λv bS=>e_ v ((te v).mp bS).2;have bL:mz rs ys*(rs'.getD w 0).toNat=(rs.getD w 0).toNat*mz rs' ys:=a';rw[g1,g2,Nat.one_mul,Nat.mul_one] at bL;have fc:=bB ag ce w hw;have ie:=bB fD cG w hw;omega
end
theorem Rts.least{ls:List B5}{n:Nat}{z:Int->Nat}{rs:List Int}(h:Rts ls n z rs):Ua ls n rs:=let⟨_,a,b⟩:=h.wood;Zls a b
noncomputable def gcdC (rs:List Int) (lb:Nat->Nat) (w k:Nat):Nat:=(List.range k).foldl (λa o=>if lb o=lb w then Nat.gcd a (rs.getD o 0).toNat else a) 0
noncomputable def leastL (ls:List B5) (rs:List Int):List Int:=(List.range rs.length).map λw=>rs.getD w 0 / (gcdC rs (labT (dO ls) rs.length) w rs.length:Int)
theorem wv(rs:List Int)(lb:Nat->Nat)(w k:Nat):gcdC rs lb w (k+1)=if lb k=lb w then Nat.gcd (gcdC rs lb w k) (rs.getD k 0).toNat else gcdC rs lb w k:=by
 unfold gcdC;rw[qbP,qb1]
 rfl
theorem tg{rs:List Int}{lb:Nat->Nat}{w:Nat}:∀{k o:Nat},o<k->lb o=lb w->gcdC rs lb w k ∣ (rs.getD o 0).toNat
 |k+1,o,h,e=>by
  rw[wv];rcases qbd.mp h with z|rfl
  .have bQ:=tg (rs:=rs) (lb:=lb) (w:=w) z e
   split
   .exact qbQ (qby _ _) bQ
   .exact bQ
  .rw[if_pos e];exact qa6 _ _
theorem Zig{rs:List Int}{lb:Nat->Nat}{w D:Nat}:∀{k:Nat},(∀o<k,lb o=lb w->D ∣ (rs.getD o 0).toNat)->D ∣ gcdC rs lb w k
 |0,_=>Nat.dvd_zero _
 |k+1,h=>by
  rw[wv];have bQ:=Zig (rs:=rs) (lb:=lb) (w:=w) (D:=D) (k:=k) λo bJ e=>h o (by omega) e
  split
  .rename_i e;exact Nat.dvd_gcd bQ (h k (by omega) e)
  .exact bQ
structure Ziu(ls:List B5)(rs L:List Int):Prop where
 len:L.length=rs.length
 pos:∀r∈L,1<=r
 le:∀w<rs.length,L.getD w 0<=rs.getD w 0
 bal:W7 ls L
 least:Ua ls rs.length L
theorem Zfu{ls:List B5}{rs:List Int}{w:Nat}(hw:w<rs.length):(leastL ls rs).getD w 0=rs.getD w 0 / (gcdC rs (labT (dO ls) rs.length) w rs.length:Int):=by
 unfold leastL;simp[List.getD,hw]
theorem Zea{rs:List Int}{lb:Nat->Nat}{w v k:Nat}(e:lb w=lb v):gcdC rs lb w k=gcdC rs lb v k:=by unfold gcdC;rw[e]
theorem Zlx{ls:List B5}{rs:List Int}(cf:ZB ls rs.length)(bB:∀r∈rs,1<=r)(ai:W7 ls rs):Ziu ls rs (leastL ls rs):=by
 have fo:=Zhk cf;have gB:∀w<rs.length,1<=rs.getD w 0:=λw hw=>by rw[dr hw];exact bB _ (GM hw)
 have dS:∀w<rs.length,0<gcdC rs (labT (dO ls) rs.length) w rs.length:=λw hw=>by
  have ak:=tg (rs:=rs) (lb:=labT (dO ls) rs.length) (w:=w) hw rfl;have:=gB w hw;exact Nat.pos_of_dvd_of_pos ak (by omega)
 have my:∀w<rs.length,(leastL ls rs).getD w 0*(gcdC rs (labT (dO ls) rs.length) w rs.length:Int)=rs.getD w 0:=λw hw=>by
  rw[Zfu hw];refine Int.ediv_mul_cancel ?_;have ak:=Int.ofNat_dvd.mpr (tg (rs:=rs) (lb:=labT (dO ls) rs.length) (w:=w) hw rfl);have:=gB w hw
  rwa [qas (by omega)] at ak
 have pos:∀w<rs.length,1<=(leastL ls rs).getD w 0:=λw hw=>by
  have ak:=my w hw;have a':=gB w hw
  by_cases z:(leastL ls rs).getD w 0<=0
  .have:=qbU z (show(0:Int)<=(gcdC rs (labT (dO ls) rs.length) w rs.length:Int) by omega);omega
  .omega
 have len:(leastL ls rs).length=rs.length:=by simp[leastL]
 refine⟨len,λr ap=>?_,λw hw=>?_,λb fY=>?_,λf ys dR f1 bN bv=>?_⟩
 .obtain⟨i,hi,rfl⟩:=qan ap;rw[<-dr (d:=0) hi];exact pos i (by omega)
 .have ak:=my w hw;have a':=pos w hw;have bL:=dS w hw;have:=qa1 (show(1:Int)<=(gcdC rs (labT (dO ls) rs.length) w rs.length:Int) by omega) (show(0:Int)<=(leastL ls rs).getD w 0 by omega);omega
 .obtain⟨eE,fC,g9,hF⟩:=cf b fY;have cd:=ai b fY;have bG:b.giver.toNat<rs.length:=by omega
  have bX:b.taker.toNat<rs.length:=by omega
  have bz:(b.giver.toNat,b.taker.toNat)∈dO ls:=qae.mpr ⟨b,fY,rfl⟩;have ag:=Zni fo bG bX (.fwd (.refl _) bz);have bE:=my _ bG;have bP:=my _ bX;rw[<-Zea (rs:=rs) (k:=rs.length) ag] at bP;rw[<-bE,<-bP,<-qbF,<-qbF] at cd;exact Int.eq_of_mul_eq_mul_right (by have:=dS _ bG;omega) cd
 .have kG:f.toNat<rs.length:=by omega
  have ak:=(tc (leastL ls rs) ys 0).2
  change ∀w∈ys,mz (leastL ls rs) ys ∣ _ at ak
  have a':mz (leastL ls rs) ys*gcdC rs (labT (dO ls) rs.length) f.toNat rs.length ∣ gcdC rs (labT (dO ls) rs.length) f.toNat rs.length:=Zig λo bJ e=>by
   have qt:=(Pc.Zac fo kG).1;have Ca:=(Pc.Zac fo bJ).1;have kU:Pc.Yo (dO ls) f.toNat o:=qt.trans (by
    have hs:=Ca.symm;unfold labT at e;rw[e] at hs;exact hs)
   have b4:=ZkE cf kU;rw[qas dR] at b4;have bz:=ZiB bv b4 bN;have bL:=ak _ bz;rw[FM] at bL;have cu:=my o bJ;rw[Zea (rs:=rs) (k:=rs.length) e] at cu;have dJ:(rs.getD o 0).toNat=((leastL ls rs).getD o 0).toNat*gcdC rs (labT (dO ls) rs.length) f.toNat rs.length:=by
    rw[<-cu];have:=pos o bJ;obtain⟨q,cr⟩:∃q:Nat,(leastL ls rs).getD o 0=(q:Int):=⟨((leastL ls rs).getD o 0).toNat,by omega⟩;rw[cr,<-qcg,FM,FM]
   rw[dJ];exact Nat.mul_dvd_mul_right bL _
  have g:=dS _ kG;have bL:mz (leastL ls rs) ys ∣ 1:=by
   refine Nat.dvd_of_mul_dvd_mul_right g ?_;rw[Nat.one_mul];exact a'
  exact Nat.eq_one_of_dvd_one bL
theorem ZlA{ls:List B5}{rs L:List Int}(h:Ziu ls rs L)(cf:ZB ls rs.length)(hsz:Yx ls){z:Int->Nat}{rs':List Int}(c8:Rts ls rs.length z rs'):rs'=L:=
 Zez cf hsz h.len c8.len h.pos c8.pos h.bal c8.bal h.least c8.least
noncomputable def q5 (H:Hp) (a:Addr):Hp:=λb=>if b=a then H a else none
theorem Zm0{H:Hp}{a:Addr}:q5 H a a=H a:=by unfold q5;rw[if_pos rfl]
theorem Zkx{H ae:Hp}{a:Addr}(h:ae a=H a):Zd (q5 H a) ae:=λb o e=>by
 unfold q5 at e
 split at e
 .next z=>rw[z,h,e]
 .cases e
theorem Zfw{ls:List B5}:gy ls (cF ls) (λ_=>0)=cF ls:=by
 have df:(cF ls).length=ls.length:=by simp[cF]
 refine qau (by rw[g8 df,df]) λj a1 a2=>?_;rw[kO df (by omega)];unfold Fire.lie fB;simp
theorem Ks{rs:List Int}(h:∀r∈rs,1<=r):dZ rs (λ_=>0)=rs:=by
 refine qau (by rw[nM]) λv a1 a2=>?_;have e:=s9 (d:=λ_=>0) a2;rw[dr a1] at e;rw[e,h0 h a2,dr a2];simp
theorem ZbI{bs:List V}{ls:List B5}(h:bs.length=ls.length):((List.range bs.length).filter λ_=>true).map (λi=>V.int (ls.getD i dB).start)=(cF ls).map V.int:=by
 rw[qaz.mpr (by simp),h];unfold cF;refine qau (by simp) λi ak a'=>?_;have:i<ls.length:=by simpa using ak
 simp[List.getD,this]
theorem Zjb{ls:List B5}{rs:List Int}{d:Nat->Nat}(fu:∀r∈rs,1<=r)(cf:ZB ls rs.length)(ai:W7 ls rs)(h:∀v<rs.length,d v=dF rs v):gy ls (cF ls) d=cF ls:=by
 have df:(cF ls).length=ls.length:=by simp[cF]
 refine qau (by rw[g8 df,df]) λj ak a'=>?_;have bw:j<ls.length:=by omega
 have b:=cf ls[j] (GM bw);rw[kO df bw];unfold Fire.lie fB;dsimp only;rw[h _ (show ls[j].giver.toNat<rs.length by omega),h _ (show ls[j].taker.toNat<rs.length by omega),h0 fu (by omega),h0 fu (by omega),ai _ (GM bw)];omega
theorem ZiX(bF:List Nat)(v:Nat):(bF.map λw:Nat=>(w:Int)).count (v:Int)=bF.count v:=by
 induction bF with
 |nil=>rfl
 |cons w bF bQ=>
  rw[List.map_cons,List.count_cons,List.count_cons,bQ]
  congr 1
  by_cases e:w=v
  .simp[e]
  .have:¬(w:Int)=(v:Int):=λz=>e (by omega);simp[e,this]
local macro_rules| `(tactic|walk_at "rd")=>`(tactic|first|with_reducible (first|(show ∃a bx fs,L2.V.ref _=L2.V.ref a/\_/\List.lookup _ fs=none/\_;refine Nm.Zko (by with_reducible assumption) (by k_dflt (decide+kernel)) (by k_dflt (decide+kernel)) ?_)|(show ∃a bx fs,L2.V.ref _=L2.V.ref a/\_/\List.lookup _ fs=none/\_;refine Nm.ZhZ (by with_reducible assumption) (by k_dflt (decide+kernel)) (by k_dflt (decide+kernel)) (by k_dflt (decide+kernel)) (by k_dflt (decide+kernel)) (by k_dflt (decide+kernel)) ?_)|(show ∃a bx fs,L2.V.ref _=L2.V.ref a/\_/\List.lookup _ fs=none/\_;refine Nm.Zjf (by with_reducible assumption) (by k_dflt (decide+kernel)) (by k_dflt (decide+kernel)) (by k_dflt (decide+kernel)) (by k_dflt (decide+kernel)) (by k_dflt (decide+kernel)) ?_))|fail "none here")
inductive Ut(T:Tp K mg)(vs:List V)(H:Hp)(Q:VK)(cP:XK):Prop
 |mk (p:Addr) (ns:List Int) (k:Int) (cQ:vs=[.ref p,.int k]) (cE:SqL K H p (ns.map V.int)) (cJ:ns.length<=63) (dq:0<=k) (d2:k<=100000) (em:Q (.int (cellX ns k)) H):Ut T vs H Q cP
theorem Zha{T:Tp K mg}{H:Hp}{Q:VK}{E:XK}{p:Addr}{ns:List Int}{k:Int}(dx:SqL K H p (ns.map V.int))(ag:ns.length<=63)(br:0<=k/\k<=100000)(q:Q (.int (cellX ns k)) H):Ut T ([.ref p,.int k]++ []) H Q E:=⟨p,ns,k,rfl,dx,ag,br.1,br.2,q⟩
local macro_rules| `(tactic|walk_at "rd")=>`(tactic|first|((with_reducible show Nm.Ut _ _ _ _ _);with_reducible refine Nm.Zha (by walk_at "hp") (by assumption) (by omega) ?_)|fail "none here")
theorem o9:OkN P w base 1 T.x0 (Ut T):=by
 refine T.x0.F.okX v5 (λvs H Q E h=>?_) (λcz A outer s H vs Q E ap h=>?_)
 .obtain⟨p,ns,k,rfl,_⟩:=h
  rfl
 .have hu:=ap.hu;obtain⟨p,ns,k,rfl,dx,d9,k0,k1,q⟩:=h;unfold cellX at q;refine⟨_,(bI (dQ (dk (fL (K:=K) rfl hu) (dt (eW K) (by rfl) T.f qao (bq (pv 0) bA)) b8 (ds _)) (bZ (cW b8)) dX)
     (bI (cy (i:=2) v5.nd rfl (Or.inl rfl) (cK gK (pv 1) (dt (eW K) (by rfl) T.f qao (bq (pv 0) bA))))
     (bI (cy (i:=3) v5.nd rfl (Or.inl rfl) (ci (ixk K) (pv 0) (cK fT (pv 1) (dt (eW K) (by rfl) T.f qao (bq (pv 0) bA))) (λ_ _=>rfl)))
     (bI (dQ (dk (fL (K:=K) rfl hu) (pv 2) b8 (ds _)) (bZ (cW (pv 3))) dX)
     (bZ (cW (cK (hh K) (cK fT (cK gL (pv 3) (cK (hh K) (cK gL b8 (pv 2)) b8)) b8) (cK gL b8 (pv 2))))))))),?_⟩
  walk_at "a"
  nofun;refine Rd.ifD (λd=>?_) (λd=>?_)
  .have d':(ns.length:Int)=0:=by simpa using d
   rw[if_pos d'] at q;nofun;exact q
  .have d':¬(ns.length:Int)=0:=by simpa using d
   rw[if_neg d'] at q;have e:((ns.map V.int).length:Int)=ns.length:=by simp
   have Sn:0<((ns.map V.int).length:Int):=by omega
   have th:((ns.map V.int).length:Int).natAbs.log2<9000:=wr (by rw[GE];omega);have bD:=Zcr (ns:=ns) (k:=k % (ns.map V.int).length) (qbb _ (by omega)) (by rw[e];exact qa9 _ (by omega));have q6:0<=k / ((ns.map V.int).length:Int):=Int.ediv_nonneg k0 (by omega);have ww:k / ((ns.map V.int).length:Int)<=k:=Int.ediv_le_self _ k0;have Cb:IntMulOk (ns.getD (k % ((ns.map V.int).length:Int)).toNat 0) (2*(k / ((ns.map V.int).length:Int))+1):=IntMulOk.of_right (qaj (wo (n:=30) (by omega)) (by decide));rw[<-e] at q;nofun;refine Rd.ifD (λgQ=>?_) (λgQ=>?_)
   .rw[if_pos gQ] at q;nofun;exact q
   .rw[if_neg gQ] at q;nofun;exact q
inductive Cc(T:Tp K mg)(vs:List V)(H:Hp)(Q:VK)(cP:XK):Prop
 |mk (c:Int) (m:Nat) (cQ:vs=[.int c,.int m]) (cE:m<=8) (cJ:∀(r:Addr)(ae:Hp)(cM:List Str),H r=none->Zd H ae->ae r=some (.lst (cM.map V.str))->(∀n∈cM,hj n=true)->cM.Nodup->cM.length=m->(∃eL:Nat,∀n∈cM,n.length=eL)->Q (.ref r) ae):Cc T vs H Q cP
theorem Kt:OkN P w base 1 T.x1 (Cc T):=by
 refine T.x1.F.okX ka (λvs H Q E h=>?_) (λcz A outer s H vs Q E ap h=>?_)
 .obtain⟨c,m,rfl,_⟩:=h
  rfl
 .have hu:=ap.hu;obtain⟨c,m,rfl,bz,q⟩:=h;have al:=Ko;refine⟨_,(bI (cy (i:=2) ka.nd rfl (Or.inl rfl) Wh)
     (bI (cy (i:=3) ka.nd rfl (Or.inl rfl) (cK (hh K) b8 (cK fT (pv 0) b8)))
     (bI (cy (i:=4) ka.nd rfl (Or.inl rfl) (cK fT (cK gK (pv 0) b8) (pv 3)))
     (bI (cy (i:=5) ka.nd rfl (Or.inl rfl) (gX bA))
     (bI (eo PassesOwn.leaving rfl (hc rfl T.g (bq (pv 1) bA)) (cI (i:=6) ka.nd rfl (Or.inl rfl)) (bI (cy (i:=7) ka.nd rfl (Or.inl rfl) Wh)
     (bI (eo PassesOwn.leaving rfl (hc rfl T.g (bq (pv 3) bA)) (cI (i:=8) ka.nd rfl (Or.inl rfl)) (bI (cy (i:=9) ka.nd rfl (Or.inl rfl) (cK gK (pv 0) (cK (hh K) b8 (pv 8))))
     (bI (qc (dQ (dk (fL (K:=K) rfl hu) (pv 8) (pv 4) (ds _)) (bZ (cy (i:=9) ka.nd rfl (Or.inl rfl) (cK (hh K) (cK gK (pv 0) b8) (cK gL b8 (pv 6))))) dX))
     (bZ (cy (i:=7) ka.nd rfl (Or.inl rfl) (cK (hh K) (pv 7) (ci (ixk K) (pv 2) (cK fT (pv 9) b8) (λ_ _=>rfl))))))))
     (bZ (eF (fv (K:=K) rfl qai qaq qar g0 (pv 5) (bq (pv 7) bA)))))))
     (bZ (cW (pv 5)))))))),?_⟩
  walk_at "a"
  have hG:0<1+c % 8:=by omega
  nofun;have a0:=qbb (c / 8) (show 1+c % 8≠0 by omega);have a1:=qa9 (c / 8) hG;generalize c / 8 % (1+c % 8)=at_ at*;obtain⟨eL,Ku⟩:∃l:Nat,1+c % 8=(l:Int):=⟨(1+c % 8).toNat,by omega⟩;rw[Ku] at a1|-;have Kv:1<=eL:=by omega
  have Kw:eL<=8:=by omega
  refine⟨qat _,λr ap=>?_⟩;have bu:Zd H (upd H r (.lst [])):=cO ap;have gT:(upd H r (.lst [])) r=some (.lst (([]:List Str).map V.str)):=Ze;generalize upd H r (.lst [])=a_ at*;nofun;refine Vw (n:=m) (λi af ae=>∃(cM:List Str)(a6 a7 a8 a9:Option V),af=[some (.int c),some (.int m),some (.str "abcdefghijklmnopqrstuvwxyz"),some (.int eL),some (.int at_),some (.ref r),a6,a7,a8,a9]/\Zd H ae/\ae r=some (.lst (cM.map V.str))/\cM.length=i/\Zbr c at_ eL cM) ⟨[],_,_,_,_,rfl,bu,gT,rfl,⟨λk x e=>by simp at e⟩⟩ ?_ ?_
  .rintro i af bt hi ⟨cM,a6,a7,a8,a9,rfl,bM,fa,fe,jY⟩;have hz:(cM.map V.str).length<sizeLine:=dm (by rw[GE];omega);nofun;refine Vw (n:=eL) (λj af ae=>ae=bt/\∃(w:Str)(a8 a9:Option V),af=[some (.int c),some (.int m),some (.str "abcdefghijklmnopqrstuvwxyz"),some (.int eL),some (.int at_),some (.ref r),some (.int (0+(i:Int))),some (.str w),a8,a9]/\w.cps.toList=(List.range j).map (chN c at_ i)) ⟨rfl,"",_,_,rfl,rfl⟩ ?_ ?_
   .rintro j af ae bw ⟨rfl,w,Kx,Ky,rfl,hw⟩;have ku:0<64+(0+(j:Int))/\(64+(0+(j:Int))).natAbs.log2<9000:=⟨by omega,B8 (by omega) (by omega)⟩;nofun;refine Rd.cut (λbY bt=>bt=ae/\∃t:Int,bY=[some (.int c),some (.int m),some (.str "abcdefghijklmnopqrstuvwxyz"),some (.int eL),some (.int at_),some (.ref r),some (.int (0+(i:Int))),some (.str w),some (.int (0+(j:Int))),some (.int t)]/\chN c at_ i j=97+(t % 26).toNat) ?k1 ?hp
    case hp=>
     nofun;refine Rd.ifD (λz=>?_) (λz=>?_)
     .nofun;refine⟨rfl,_,rfl,?_⟩;unfold chN;rw[if_pos (by omega),qaV]
     .nofun;refine⟨rfl,_,rfl,?_⟩;unfold chN;rw[if_neg (by omega),qaV]
    case k1=>
     rintro bY b7 ⟨rfl,t,rfl,bX⟩;nofun;have fN:0<=t % 26:=by omega
     have jg:t % 26<26:=by omega
     refine Rd.Zpo al (Kq fN jg) ?_;rw[<-bX];have Cd:w.length=j:=by rw[wq,hw];simp
     refine Rd.ZnZ (qbt (dm (by rw[Cd];show j+1<=1000;omega))) ?_;nofun;refine⟨rfl,_,_,_,rfl,?_⟩;rw[Zje,hw,qbP,qaG]
     rfl
   .rintro af ae ⟨rfl,w,Kx,Ky,rfl,hw⟩;nofun;refine⟨cM++ [w],_,_,_,_,rfl,bM.new ap,by rw[Ze,qaG];rfl,by simp[fe],⟨λk x e=>?_⟩⟩;rcases qa8 k cM.length with z|z
    .rw[qaK z] at e;exact jY.cps k x e
    .rw[qaS z] at e;have br:k-cM.length=0:=by
      rcases qbi (k-cM.length) with y|y
      .exact y
      .rw[qa0 (by simp;omega)] at e;cases e
     rw[br] at e;obtain rfl:w=x:=by simpa using e
     have:k=i:=by omega
     rw[this];exact hw
  .rintro af bt ⟨cM,a6,a7,a8,a9,rfl,bM,fa,fe,jY⟩;nofun;exact q r bt cM ap bM fa (jY.name Kv Kw) (jY.nodup (by omega) a0 a1) fe ⟨_,λn bH=>by
    obtain⟨k,br⟩:=qbj bH;rw[wq,jY.cps k n br,GE,qbo]⟩
inductive Ce(T:Tp K mg)(vs:List V)(H:Hp)(Q:VK)(cP:XK):Prop
 |mk (a b:Nat) (cQ:vs=[.int a,.int b]) (cE:Q (.int (Nat.gcd a b:Nat)) H):Ce T vs H Q cP
theorem wx:OkN P w base 1 T.x2 (Ce T):=by
 refine T.x2.F.okX sT (λvs H Q E h=>?_) (λcz A outer s H vs Q E ap h=>?_)
 .obtain⟨a,b,rfl,_⟩:=h
  rfl
 .have hu:=ap.hu;obtain⟨a0,c2,rfl,q⟩:=h;rw[<-My.ZeJ] at q;refine⟨_,(bI (pQ PassesOwn.leaving (dk (nq (K:=K) rfl hu) (pv 1) b8 (ds _)) (bI (cy (i:=2) sT.nd rfl (Or.inl rfl) (cK fT (pv 0) (pv 1)))
     (bI (cy (i:=0) sT.nd rfl (Or.inl rfl) (pv 1))
     (bZ (cy (i:=1) sT.nd rfl (Or.inl rfl) (pv 2))))))
     (bZ (cW (pv 0)))),?_⟩
  walk_at "a"
  walk_at "rd";refine Zc0 (λm af ae=>ae=H/\∃(x y:Int)(r:Option V),m=y.toNat/\af=[some (.int x),some (.int y),r]/\0<=x/\0<=y/\My.G x y=My.G a0 c2) _ ⟨rfl,a0,c2,none,rfl,rfl,by omega,by omega,rfl⟩ ?_;rintro m af ae ⟨rfl,x,y,r,rfl,rfl,bp,bO,fZ⟩;nofun;refine V4 (λc=>Zet ?_) (λc=>?_)
  .have iu:0<y:=by
    have:¬y=0:=by simpa using c
    omega
   nofun;exact⟨_,(by have:=qbb x (show y≠0 by omega);have:=qa9 x iu;omega),rfl,y,x % y,some (.int (x % y)),rfl,rfl,bO,qbb x (by omega),(BE bp iu).trans fZ⟩
  .have iu:y=0:=by simpa using c
   have e:x=My.G a0 c2:=by rw[<-fZ,My.Zkf bp iu]
   nofun;rw[e];exact q
inductive Cf(T:Tp K mg)(vs:List V)(H:Hp)(Q:VK)(cP:XK):Prop
 |mk (a hG:Addr) (bs:List V) (ls:List B5) (rs:List Int) (cQ:vs=[.ref a,.ref hG]) (cE:SqL K H a (rs.map V.int)) (cJ:H hG=some (.lst bs)) (dq:eP H bs ls) (d2:ZB ls rs.length) (em:rs.length<=30) (e2:(∀r∈rs,1<=r/\r<=1000)) (fx:∀(r:Addr)(ae:Hp),H r=none->Zd H ae->ae r=some (.lst ((leastL ls rs).map V.int))->Q (.ref r) ae):Cf T vs H Q cP
theorem Kz:OkN P w base 2 T.x3 (Cf T):=by
 refine T.x3.F.okX kL (λvs H Q E h=>?_) (λcz A outer s H vs Q E ap h=>?_)
 .obtain⟨a,hG,bs,ls,rs,rfl,_⟩:=h
  rfl
 .have hu:=ap.hu;obtain⟨a,hG,bs,ls,rs,rfl,bD,o_,c1,cf,bz,Cg,q⟩:=h;have eJ:=c1.length;have fo:=Zhk cf;generalize g7:rs.length=m at*;refine⟨_,(bI (cy (i:=2) kL.nd rfl (Or.inl rfl) (HY rfl (by rfl) T.j (by rfl) T.g (bq (dt (eW K) (by rfl) T.f qao (bq (pv 0) bA)) bA)))
     (bI (eo PassesOwn.leaving rfl (ez (K:=K) rfl (pv 0)) (cI (i:=3) kL.nd rfl (Or.inl rfl)) (bZ (eo PassesOwn.leaving rfl (ez (K:=K) rfl (pv 1)) (cI (i:=4) kL.nd rfl (Or.inl rfl)) (bI (cy (i:=5) kL.nd rfl (Or.inl rfl) (dt (GA rfl) (by rfl) T.y qbq (bq (ci (ixk K) (pv 2) (ci (ixk K) (pv 4) b8 (λ_ _=>rfl)) (λ_ _=>rfl)) (bq (ci (ixk K) (pv 2) (ci (ixk K) (pv 4) b8 (λ_ _=>rfl)) (λ_ _=>rfl)) bA))))
     (bI (hM (pv 5) (hL (pv 2) (ci (ixk K) (pv 4) b8 (λ_ _=>rfl)) j1))
     (bZ (hM (pv 5) (hL (pv 2) (ci (ixk K) (pv 4) b8 (λ_ _=>rfl)) j1))))))))
     (bI (cy (i:=6) kL.nd rfl (Or.inl rfl) (gX bA))
     (bI (eo PassesOwn.leaving rfl (hc rfl T.g (bq (dt (eW K) (by rfl) T.f qao (bq (pv 0) bA)) bA)) (cI (i:=7) kL.nd rfl (Or.inl rfl)) (bI (cy (i:=8) kL.nd rfl (Or.inl rfl) b8)
     (bI (eo PassesOwn.leaving rfl (hc rfl T.g (bq (dt (eW K) (by rfl) T.f qao (bq (pv 0) bA)) bA)) (cI (i:=9) kL.nd rfl (Or.inl rfl)) (bZ (dQ (dk (fL (K:=K) rfl hu) (ci (ixk K) (pv 2) (pv 9) (λ_ _=>rfl)) (ci (ixk K) (pv 2) (pv 7) (λ_ _=>rfl)) (ds _)) (bZ (cy (i:=8) kL.nd rfl (Or.inl rfl) (c6 T.x2 (wx T) ap cw (bq (pv 8) (bq (ci (ixk K) (pv 0) (pv 9) (λ_ _=>rfl)) bA))))) dX)))
     (bZ (eF (fv (K:=K) rfl qai qaq qar g0 (pv 6) (bq (cK gK (ci (ixk K) (pv 0) (pv 7) (λ_ _=>rfl)) (pv 8)) bA)))))))
     (bZ (cW (pv 6))))))),?_⟩
  walk_at "a"
  have e6:((rs.map V.int).length:Int)=(m:Int):=by simp[g7]
  nofun;refine Rd.ZpN ?_;nofun;refine⟨m,by rw[e6],by omega,λl ag=>?_⟩;have ti:((List.range m).map λi:Nat=>V.int i)=(f3 (Pc.Yn (dO ls) 0 λi=>i) m).map V.int:=by unfold f3;rw[qaP];rfl
  rw[ti];have iR:(upd H l (.lst ((f3 (Pc.Yn (dO ls) 0 λi=>i) m).map V.int))) l=some (.lst ((f3 (Pc.Yn (dO ls) 0 λi=>i) m).map V.int)):=Ze;have bu:Zd H (upd H l (.lst ((f3 (Pc.Yn (dO ls) 0 λi=>i) m).map V.int))):=cO ag;generalize upd H l (.lst ((f3 (Pc.Yn (dO ls) 0 λi=>i) m).map V.int))=a_ at*;have q6:=bu _ _ o_;have q7:=bu.seq bD;nofun;refine Ya (ey bD) (λi af ae=>Zd H ae/\(∃a1 a2 a3,af=[some (.ref a),some (.ref hG),some (.ref l),a1,a2,a3,none,none,none,none])/\ae l=some (.lst ((f3 (Pc.Yn (dO ls) i λi=>i) m).map V.int))) ⟨bu,⟨_,_,_,rfl⟩,iR⟩ (λi af ae h=>h.1) ?_ ?_
  .rintro i af bt hi ⟨bM,⟨a1,a2,a3,rfl⟩,fe⟩;have ww:=bM _ _ o_;generalize (rs.map V.int).getD i .non=gT at*;nofun;refine Ya (ey (SqL.of o_)) (λj af ae=>Zd H ae/\(∃a2 a3,af=[some (.ref a),some (.ref hG),some (.ref l),some gT,a2,a3,none,none,none,none])/\ae l=some (.lst ((f3 (((dO ls).take j).foldl Pc.step (Pc.Yn (dO ls) i λi=>i)) m).map V.int))) ⟨bM,⟨_,_,rfl⟩,fe⟩ (λj af ae h=>h.1) ?_ ?_
   .rintro j af b7 bw ⟨bR,⟨a2,a3,rfl⟩,jr⟩;have hC:j<ls.length:=by omega
    obtain⟨t,KA,bX⟩:=c1.at (GT hC);have c0:bs.getD j .non= .ref t:=by simp[List.getD,KA]
    rw[c0];have Ch:j<(dO ls).length:=by simp[dO,hC]
    have ep:(dO ls)[j]=(ls[j].giver.toNat,ls[j].taker.toNat):=by simp[dO]
    obtain⟨bE,bP⟩:=fo _ (GM Ch);obtain⟨eE,fC,g9,hF⟩:=cf _ (GM hC);have dL:((dO ls).take (j+1)).foldl Pc.step (Pc.Yn (dO ls) i λi=>i)=Pc.step (((dO ls).take j).foldl Pc.step (Pc.Yn (dO ls) i λi=>i)) (dO ls)[j]:=by
     rw[qad Ch,qb1];rfl
    rw[dL];generalize ((dO ls).take j).foldl Pc.step (Pc.Yn (dO ls) i λi=>i)=f at*;rw[ep] at bE bP|-;have gC:=bR _ _ bX;generalize ls[j]=bb at*;have gB:=Zc5 (f:=f) bE;have lQ:=Zc5 (f:=f) bP;have eN:=Zkk (f:=f) bE bP;have kW:=ZlI f m;dsimp only[B5.v] at gC gB lQ eN bE bP;rw[qas eE] at gB;rw[qas g9] at lQ;have So:=SqL.of (K:=K) jr;nofun;have KC:(if((f bb.taker.toNat:Nat):Int)<((f bb.giver.toNat:Nat):Int) then((f bb.taker.toNat:Nat):Int) else((f bb.giver.toNat:Nat):Int))=((min (f bb.giver.toNat) (f bb.taker.toNat):Nat):Int):=by split<;>omega
    rw[KC];nofun;have jj:(upd b7 l (.lst (((f3 f m).map V.int).set bb.giver.toNat (.int ((min (f bb.giver.toNat) (f bb.taker.toNat):Nat):Int))))) l=some (.lst (((f3 f m).map V.int).set bb.giver.toNat (.int ((min (f bb.giver.toNat) (f bb.taker.toNat):Nat):Int)))):=Ze;have b2:Zd H (upd b7 l (.lst (((f3 f m).map V.int).set bb.giver.toNat (.int ((min (f bb.giver.toNat) (f bb.taker.toNat):Nat):Int))))):=bR.new ag;generalize upd b7 l (.lst (((f3 f m).map V.int).set bb.giver.toNat (.int ((min (f bb.giver.toNat) (f bb.taker.toNat):Nat):Int))))=bW at*;have g_:=b2 _ _ bX;dsimp only[B5.v] at g_;nofun;refine Rd.ZnK jj (by omega) (by rw[qbZ,GE,kW];omega) ?_;nofun;refine⟨b2.new ag,⟨_,_,rfl⟩,?_⟩;rw[Ze,<-eN,qbB,qbB]
   .rintro af b7 ⟨bR,⟨a2,a3,rfl⟩,jr⟩;have eT:(dO ls).length=bs.length:=by simp[dO];omega
    rw[<-eT,qaD] at jr;nofun;exact⟨bR,⟨_,_,_,rfl⟩,jr⟩
  .rintro af bt ⟨bM,⟨a1,a2,a3,rfl⟩,fe⟩;rw[GE,g7] at fe
   change bt l=some (.lst ((f3 (labT (dO ls) m) m).map V.int)) at fe
   nofun;refine⟨qat _,λr ap=>?_⟩;have bR:Zd bt (upd bt r (.lst [])):=cO ap;have gh:(upd bt r (.lst [])) r=some (.lst []):=Ze;have fy:H r=none:=ei bM ap;have jr:=bR _ _ fe;have nP:l≠r:=c3 fe ap;generalize upd bt r (.lst [])=b7 at*;have gi:=bM.trans bR;have Ci:=gi.seq bD;nofun;rw[GE,g7];have et:∀w<m,atI (rs.map V.int) (w:Int)=some (.int (rs.getD w 0))/\1<=rs.getD w 0/\rs.getD w 0<=1000:=λw hw=>by
    have kd:w<rs.length:=by omega
    have e:rs.getD w 0=rs[w]:=by simp[List.getD,kd]
    rw[e];exact⟨gJ (by simp[kd]),Cg _ (GM kd)⟩
   refine Vw (n:=m) (λi af ae=>Zd H ae/\(∃a4 a5 a6,af=[some (.ref a),some (.ref hG),some (.ref l),a1,a2,a3,some (.ref r),a4,a5,a6])/\ae l=some (.lst ((f3 (labT (dO ls) m) m).map V.int))/\ae r=some (.lst (((leastL ls rs).take i).map V.int))) ⟨gi,⟨_,_,_,rfl⟩,jr,gh⟩ ?_ ?_
   .rintro i af bW hi ⟨b2,⟨a4,a5,a6,rfl⟩,jj,eX⟩;have Cj:=b2.seq bD;have Sq:=SqL.of (K:=K) jj;nofun;rw[GE,g7];refine Vw (n:=m) (λj af ae=>ae=bW/\(∃a6,af=[some (.ref a),some (.ref hG),some (.ref l),a1,a2,a3,some (.ref r),some (.int (0+(i:Int))),some (.int (gcdC rs (labT (dO ls) m) i j:Nat)),a6])) ⟨rfl,_,rfl⟩ ?_ ?_
    .rintro j af b0 bw ⟨rfl,a6,rfl⟩;rw[qaV,qaV,wv];have gB:=Zc5 (f:=labT (dO ls) m) (m:=m) bw;have lQ:=Zc5 (f:=labT (dO ls) m) (m:=m) hi;obtain⟨ak,a',bL⟩:=et j bw;generalize labT (dO ls) m j=lj at*;generalize labT (dO ls) m i=Iw at*;generalize gcdC rs (labT (dO ls) m) i j=g at*;obtain⟨v,bS⟩:∃v:Nat,rs.getD j 0=(v:Int):=⟨(rs.getD j 0).toNat,by omega⟩;rw[bS] at ak|-;rw[FM];nofun;refine Rd.ifD (λc=>?_) (λc=>?_)
     .rw[if_pos (by omega)];nofun;refine⟨g,v,rfl,?_⟩;nofun;exact⟨rfl,_,rfl⟩
     .rw[if_neg (by omega)];nofun;exact⟨rfl,_,rfl⟩
    .rintro af b0 ⟨rfl,a6,rfl⟩;obtain⟨ak,a',bL⟩:=et i hi;have Ck:=Zfu (ls:=ls) (rs:=rs) (w:=i) (by omega);rw[g7] at Ck;have kW:(leastL ls rs).length=m:=by simp[leastL,g7]
     have eZ:(leastL ls rs).take (i+1)=(leastL ls rs).take i++ [rs.getD i 0 / (gcdC rs (labT (dO ls) m) i m:Int)]:=by
      rw[qad (by omega),<-dr (d:=0) (by omega),Ck]
     rw[eZ];have g1:=tg (rs:=rs) (lb:=labT (dO ls) m) (w:=i) hi rfl;have g2:0<gcdC rs (labT (dO ls) m) i m:=Nat.pos_of_dvd_of_pos g1 (by omega);have g3:=qbE (by omega) g1;generalize gcdC rs (labT (dO ls) m) i m=g at*;have hV:0<(g:Int)/\(g:Int).natAbs.log2<9000:=⟨by omega,B3 (by omega) (by omega)⟩;rw[qaV];have nQ:(((leastL ls rs).take i).map V.int).length<sizeLine:=dm (by rw[GE,qaC];omega);generalize (leastL ls rs).take i=X at*;generalize rs.getD i 0=v at*;nofun;refine⟨b2.new fy,⟨_,_,_,rfl⟩,by rw[b6 nP];exact jj,?_⟩;rw[Ze,qaG]
     rfl
   .rintro af bW ⟨b2,⟨a4,a5,a6,rfl⟩,jj,eX⟩;rw[qa7 (by simp[leastL,g7])] at eX;nofun;exact q r bW fy b2 eX
inductive Cm(T:Tp K mg)(vs:List V)(H:Hp)(Q:VK)(cP:XK):Prop
 |mk (c:Int) (n:Nat) (cQ:vs=[.int c,.int n]) (cE:0<n) (cJ:n<=30) (dq:∀(r:Addr)(ae:Hp)(cc:List Int),H r=none->Zd H ae->ae r=some (.lst (cc.map V.int))->Ug n cc->cc.length<=n->Q (.ref r) ae):Cm T vs H Q cP
theorem KD:OkN P w base 1 T.x4 (Cm T):=by
 refine T.x4.F.okX qO (λvs H Q E h=>?_) (λcz A outer s H vs Q E ap h=>?_)
 .obtain⟨c,n,rfl,_⟩:=h
  rfl
 .have hu:=ap.hu;obtain⟨c,n,rfl,Cn,ga,q⟩:=h;have hf:0<(n:Int):=by omega
  refine⟨_,(bI (cy (i:=2) qO.nd rfl (Or.inr rfl) (cK fT (cK gL (pv 0) b8) b8))
     (bI (nk (j:=3) rfl (e5 (x:="_law_work") (zs:=["_law_mix"]) (ix:=[2]) (cn vP) ["_law_cell","_law_many","_law_mix","_law_group"] rfl rfl (by decide+kernel)) (hc rfl T.g (bq (pv 1) bA)) (λcg C s H fp=>⟨(cI (i:=0) (show(["_law_work","_law_mix"]:List Str).Nodup by decide+kernel) rfl (Or.inl rfl)),(nc (dk (fL (K:=K) rfl hu) (cK fT (cK gK (pv 1) (cK (hh K) b8 (cK gL b8 (pv 0)))) b8) b8 (ds _))),(pv 0)⟩) qO.nd rfl (Or.inl rfl))
     (bI (qc (dQ (dk (fL (K:=K) rfl hu) (pv 3) (gX bA) (ds _)) (bZ (cy (i:=3) qO.nd rfl (Or.inl rfl) (gX (bq (cK fT (pv 2) (pv 1)) bA)))) dX))
     (bI (qc (dQ (dk (fL (K:=K) rfl hu) (cK fT (cK gK (pv 2) b8) b8) b8 (ds _)) (bZ (cy (i:=3) qO.nd rfl (Or.inl rfl) (Ig (K:=K) rfl rfl (by rfl) T.j (by rfl) T.V (bq (pv 3) bA)))) dX))
     (bZ (cW (pv 3))))))),?_⟩
  walk_at "a"
  nofun;generalize c*48271 % 2147483647=fG at*;refine Z9 Wa (dm (by omega)) (λi=>decide (fG / (3+2*(i:Int)) % 2=1)) (λi=> .int (i:Int)) (λi ae cY hi bU k=>?_) (λi ae cY hi _ bU k=>?_) (λg a_ bG bu Co=>?_)
  .rw[qaV];have cm:i<n:=by omega
   have ku:0<3+2*(i:Int)/\(3+2*(i:Int)).natAbs.log2<9000:=⟨by omega,B8 (by omega) (by omega)⟩;nofun;exact k ae (Zd.refl ae)
  .rw[qaV];nofun;exact k ae (Zd.refl ae)
  obtain⟨cc,KE,KG,KH,hV⟩:∃cc:List Int,((List.range (n:Int).toNat).filter λi:Nat=>decide (fG / (3+2*(i:Int)) % 2=1)).map (λi:Nat=>V.int (i:Int))=cc.map V.int/\(∀x∈cc,0<=x/\x<(n:Int))/\cc.Nodup/\cc.length<=n:=by
   refine⟨((List.range n).filter λi:Nat=>decide (fG / (3+2*(i:Int)) % 2=1)).map λi:Nat=>(i:Int),by rw[FM,qaP];rfl,λx bp=>?_,?_,?_⟩
   .obtain⟨w,hw,rfl⟩:=qae.mp bp;have:=qaw.mp (qaB.mp hw).1;omega
   .rw[qaT,qb0];exact(qaT.mp ((List.nodup_range (n:=n)).filter _)).imp λh z=>h (by omega)
   .rw[GE];exact qaj (qaR _ _) (by rw[qbo];exact qab _)
  rw[KE] at Co;nofun;refine Rd.cut (λbY ae=>∃(g:Addr)(cc:List Int),bY=[some (.int c),some (.int n),some (.int fG),some (.ref g)]/\Zd H ae/\H g=none/\ae g=some (.lst (cc.map V.int))/\Ug n cc/\cc.length<=n) ?k1 ?hp
  case hp=>
   nofun;refine⟨qat _,λe bK=>?_⟩;have f4:Zd a_ (upd a_ e (.lst [])):=cO bK;have mA:(upd a_ e (.lst [])) e=some (.lst (([]:List Int).map V.int)):=Ze;have Cp:=f4 _ _ Co;generalize upd a_ e (.lst [])=bt at*;have f5:=bu.trans f4;refine Rd.ZgB (eV.ints (SqL.of Cp)) (eV.ints (SqL.of mA)) (iM _) (iM _) (np _) ?_;rw[V9];refine Rd.bl ?_
   by_cases z:cc=[]
   .rw[decide_eq_true z];nofun;intro u fO;have cq:=qbb fG (show(n:Int)≠0 by omega);have cN:=qa9 fG hf;exact⟨u,[fG % (n:Int)],rfl,f5.trans (cO fO),ei f5 fO,Ze,⟨by simp,by simp,by simp;omega⟩,by simp;omega⟩
   .rw[decide_eq_false z];nofun;exact⟨g,cc,rfl,f5,bG,Cp,⟨z,KH,KG⟩,hV⟩
  case k1=>
   rintro bY b7 ⟨g3,sH,rfl,bR,KI,tj,hok,Cq⟩;nofun;refine Rd.cut (λbY ae=>∃(g:Addr)(cc:List Int),bY=[some (.int c),some (.int n),some (.int fG),some (.ref g)]/\Zd H ae/\H g=none/\ae g=some (.lst (cc.map V.int))/\Ug n cc/\cc.length<=n) ?k2 ?p0
   case p0=>
    nofun;refine Rd.ifD (λd=>?_) (λd=>?_)
    .nofun;refine Rd.Zpp ?_;nofun;refine⟨g3,_,rfl,.of tj,λu fO=>?_⟩;rw[<-List.map_reverse];exact⟨u,sH.reverse,rfl,bR.trans (cO fO),ei bR fO,Ze,⟨by simpa using hok.1,(List.reverse_perm sH).nodup_iff.mpr hok.2.1,λx bp=>hok.2.2 x (List.mem_reverse.mp bp)⟩,by simpa using Cq⟩
    .nofun;exact⟨g3,sH,rfl,bR,KI,tj,hok,Cq⟩
   case k2=>
    rintro bY bW ⟨ii,KJ,rfl,b2,KL,q8,KN,KO⟩;nofun;exact q ii bW KJ KL b2 q8 KN KO
inductive Cr(T:Tp K mg)(vs:List V)(H:Hp)(Q:VK)(cP:XK):Prop
 |mk (x:Str) (cQ:vs=[.str x]) (cE:x.length<=sizeLine) (cJ:∀ae,Zd H ae->Q (.bl (hj x)) ae):Cr T vs H Q cP
noncomputable def letter (c:Nat):Bool:=decide (97<=c)&&decide (c<=122)
theorem Cs(c d:Nat):decide ((⟨#[c]⟩:Str).cps.toList<(⟨#[d]⟩:Str).cps.toList)=decide (c<d):=by
 show decide ([c]< [d])=decide (c<d);have e:([c]< [d])↔c<d:=by
  constructor
  .intro h;cases h with
   |rel h=>exact h
   |cons h=>cases h
  .exact λh=> .rel h
 by_cases h:c<d
 .rw[decide_eq_true h,decide_eq_true (e.mpr h)]
 .rw[decide_eq_false h,decide_eq_false (λz=>h (e.mp z))]
theorem KP:("a" :Str)=⟨#[97]⟩:=by decide+kernel
theorem KQ:("z" :Str)=⟨#[122]⟩:=by decide+kernel
theorem ZiK(x:Str):(((List.range x.cps.size).map λi=>letter (x.cps.getD i 0)).all id)=x.cps.toList.all letter:=by
 rw[List.all_map,qbI,qbm,qbm]
 constructor
 .intro h c bv;obtain⟨i,hi,rfl⟩:=qan bv;have dy:i<x.cps.size:=by simpa using hi
  have:=h i (qaw.mpr dy);simpa[Array.getD,dy] using this
 .intro h i hi;have dy:=qaw.mp hi;have:=h x.cps[i] (by simp);simpa[Array.getD,dy] using this
theorem Zco(x:Str):hj x=(decide (1<=x.length)&&decide (x.length<=8)&&x.cps.toList.all letter):=rfl
theorem KR:OkN P w base 1 T.x5 (Cr T):=by
 refine T.x5.F.okX Jn (λvs H Q E h=>?_) (λcz A outer s H vs Q E ap h=>?_)
 .obtain⟨x,rfl,_⟩:=h
  rfl
 .have hu:=ap.hu;obtain⟨x,rfl,bp,q⟩:=h;refine⟨_,(bI (dQ (hn (gO (K:=K) rfl (dt (nr (K:=K) rfl) (by rfl) T.l qa4 (bq (pv 0) (bq (mY (v:= .ty "str") (by rfl) T.bo PyProof.Rows.boot_str rfl) bA))) (λ_=>rfl))) (bZ (cW Wn)) dX)
     (bI (dQ (PW.pt (i_ (dk l9 (dt (eW K) (by rfl) T.f qao (bq (pv 0) bA)) b8 (ds _)) (jz (dk ou (dt (eW K) (by rfl) T.f qao (bq (pv 0) bA)) (r3 (v:= .int 8) rfl T.D ⟨_,rfl⟩) (ds _))))) (bZ (cW Wn)) dX)
     (bZ (cW (dt (z0 (K:=K) rfl rfl) (by rfl) T.ay PyProof.Rows.boot_all (bq (jD rfl (e5 (x:="sign") (zs:=[]) (ix:=[]) (cn vQ) ["thing"] rfl rfl (by decide+kernel)) (HP (pv 0)) (λcg C s H fp=>⟨(cI (i:=0) (show(["sign"]:List Str).Nodup by decide+kernel) rfl (Or.inl rfl)),fW,(Gw zN zN Wh (pv 0) Wh)⟩)) bA)))))),?_⟩
  walk_at "a"
  nofun;refine V4 (λc=>?_) (λc=>?_)
  .have cU:¬1<=x.length:=by simp at c;omega
   nofun;have e:hj x=false:=by rw[Zco,decide_eq_false cU];rfl
   rw[<-e];exact q H (Zd.refl H)
  .have cU:1<=x.length:=by simp at c;omega
   nofun;refine V4 (λd=>?_) (λd=>?_)
   .have d':¬x.length<=8:=by simp at d;omega
    nofun;have e:hj x=false:=by rw[Zco,decide_eq_false d',Bool.and_false];rfl
    rw[<-e];exact q H (Zd.refl H)
   .have d':x.length<=8:=by simp at d;omega
    have bH:x.cps.size<sizeLine:=dm (by have:x.cps.size=x.length:=rfl;omega);nofun;refine Z9 ZjV bH (λ_=>true) (λi=> .bl (letter (x.cps.getD i 0))) (λi ae cY hi bU k=>?_) (λi ae cY hi _ bU k=>?_) (λp ae bB bU ag=>?_)
    .nofun;exact k ae (Zd.refl ae)
    .nofun;rw[KP,KQ,Cs];generalize x.cps.getD i 0=iv at k|-;refine V4 (λz=>?_) (λz=>?_)
     .nofun;have e:(!decide (122<iv))=letter iv:=by
       have f6:97<=iv:=by simpa using z
       unfold letter;rw[decide_eq_true f6,qct]
       by_cases y:iv<=122
       .rw[decide_eq_true y,decide_eq_false (by omega)];rfl
       .rw[decide_eq_false y,decide_eq_true (by omega)];rfl
      rw[Cs,e];exact k ae (Zd.refl ae)
     .have e:false=letter iv:=by
       have f6:¬97<=iv:=by simpa using z
       unfold letter;rw[decide_eq_false f6];rfl
      rw[e];exact k ae (Zd.refl ae)
    .have fD:ae p=some (.lst (((List.range x.cps.size).map λi=>letter (x.cps.getD i 0)).map V.bl)):=by
      rw[ag,qaz.mpr (by simp),qaP];rfl
     nofun;rw[ZiK];have e:x.cps.toList.all letter=hj x:=by rw[Zco,decide_eq_true cU,decide_eq_true d'];rfl
     rw[e];exact q ae bU
inductive wy(vs:List V)(H:Hp)(Q:VK)(E:XK):Prop
 |mk (p:Addr) (x:Str) (ag:HM) (fp:List Addr) (cQ:vs=[.ref p,.str x]) (cE:dg T H p ag fp) (cJ:x.length<=sizeLine) (dq:ag.names.length<=1000) (d2:(hj x=false->∀ae,Zd H ae->E (.ref T.ao) none ae)) (em:(hj x=true->x∈ag.names->∀ae,Zd H ae->E (.ref T.ax) none ae)) (e2:(hj x=true->x∉ag.names->30<=ag.names.length->∀ae,Zd H ae->E (.ref T.E) none ae)) (fx:(hj x=true->x∉ag.names->ag.names.length<30->∀(ae:Hp)(eC:List Addr),dg T ae p ⟨ag.names++ [x],ag.belts⟩ eC->db fp H ae->UM fp eC H->Q (.int ag.names.length) ae)):wy vs H Q E
theorem ZcM{T:Tp K mg}{H:Hp}{Q:VK}{E:XK}{p:Addr}{x:Str}{ag:HM}{fp:List Addr}(h:dg T H p ag fp)(bH:hj x=true)(bp:x∉ag.names)(d9:ag.names.length<30)
  (q:∀(ae:Hp)(eC:List Addr),dg T ae p ⟨ag.names++ [x],ag.belts⟩ eC->db fp H ae->UM fp eC H->Q (.int ag.names.length) ae):wy T (.ref p::([.str x]++ [])) H Q E:=by
 have KS:x.length<=sizeLine:=by
  have:x.length<=8:=by
   have e:=bH;unfold hj at e;simp only[qaU,decide_eq_true_eq] at e;exact e.1.2
  exact qbt (dm (by omega))
 exact⟨p,x,ag,fp,rfl,h,KS,by omega,λz=>(by rw[bH] at z;cases z),λ_ z=>absurd z bp,λ_ _ z=>absurd z (by omega),λ_ _ _=>q⟩
theorem Ct:OkM P w mg base 2 T.x6 (wy T):=by
 have fq:=T.a;have fr:=T.e;refine T.x6.F.okX Bx (λvs H Q E h=>?_) (λcz A outer s H vs Q E ap h=>?_)
 .obtain⟨p,x,ag,fp,rfl,_⟩:=h
  rfl
 .have hu:=ap.hu;obtain⟨p,x,ag,fp,rfl,b4,bp,hz,bE,bP,dj,q⟩:=h;obtain⟨bx,a,b,bs,rfl,ak,a',bL,cu,gD,da⟩:=id b4;have js:p≠a:=gk ak bL (by intro z;cases z);have wz:bx≠a:=gk a' bL (by intro z;cases z);refine⟨_,(bI (dQ (hn (gO (K:=K) rfl (c6 T.x5 (KR T) ap cw (bq (pv 1) bA)) (λ_=>rfl))) (bZ (jF T.R.g T.R.e qaE rfl (bq Wh bA))) dX)
     (bI (dQ (dk (HV hu) (pv 1) (eB (K:=K) rfl (pv 0) rfl) (by with_unfolding_all rfl)) (bZ (jF T.Z.g T.Z.e qaE rfl (bq Wh bA))) dX)
     (bI (dQ (dk pX (dt Zjm (by rfl) T.f qao (bq (eB (K:=K) rfl (pv 0) rfl) bA)) (r3 (v:= .int 30) rfl T.G ⟨_,rfl⟩) (ds _)) (bZ (jF T.r.g T.r.e qaE rfl (bq Wh bA))) dX)
     (bI (cy (i:=2) Bx.nd rfl (Or.inl rfl) (dt Zjm (by rfl) T.f qao (bq (eB (K:=K) rfl (pv 0) rfl) bA)))
     (bI (hM (pv 2) (hL (eB (K:=K) rfl (pv 0) rfl) (pv 1) (ml hu)))
     (bZ (cW (pv 2)))))))),?_⟩
  walk_at "a"
  nofun;refine⟨x,rfl,bp,λa_ iw=>?_⟩;have g1:=iw _ _ ak;have g3:=iw _ _ bL;have nA:(numsOf ag.names).length<sizeLine:=dm (by rw[Zah];exact hz);nofun;cases bH:hj x with
  |false=>
   nofun;exact bE bH a_ iw
  |true=>
   nofun;rw[ZfP];refine V4 (λc=>?_) (λc=>?_)
   .nofun;exact bP bH (of_decide_eq_true c) a_ iw
   .have cU:x∉ag.names:=λz=>c (decide_eq_true z);nofun;rw[Zah];refine V4 (λd=>?_) (λd=>?_)
    .have d':30<=ag.names.length:=by simp at d;omega
     nofun;exact dj bH cU d' a_ iw
    .have d':ag.names.length<30:=by simp at d;omega
     nofun;rw[Zah,JY cU];have gd:db [p,bx,a,b] H (upd a_ a (.dK (numsOf (ag.names++ [x])))):=iw.frame.trans (gN (by simp) g3 (by intro _ z;cases z));refine q bH cU d' _ [p,bx,a,b] ⟨bx,a,b,bs,rfl,?_,?_,Ze,?_,gD,da.keep gd.tups⟩ gd UM.refl
     .rw[b6 js];exact g1
     .rw[b6 wz];exact iw _ _ a'
     .rw[b6 gD.symm];exact iw _ _ cu
inductive UJ(T:Tp K mg)(vs:List V)(H:Hp)(Q:VK)(cP:XK):Prop
 |mk (i:Int) (cQ:vs=[.int i]) (cE:Q (.bl true) H):UJ T vs H Q cP
theorem Zie{T:Tp K mg}{H:Hp}{Q:VK}{E:XK}{i:Int}(q:Q (.bl true) H):UJ T ([.int i]++ []) H Q E:=⟨i,rfl,q⟩
local macro_rules| `(tactic|walk_at "rd")=>`(tactic|first|((with_reducible show Nm.UJ _ _ _ _ _);with_reducible refine Nm.Zie ?_)|fail "none here")
theorem KU:OkN P w base 1 T.x7 (UJ T):=by
 refine T.x7.F.okX Jo (λvs H Q E h=>?_) (λcz A outer s H vs Q E ap h=>?_)
 .obtain⟨i,rfl,_⟩:=h
  rfl
 .have hu:=ap.hu;obtain⟨i,rfl,q⟩:=h;refine⟨_,(bZ (cW (pO (dt (nr (K:=K) rfl) (by rfl) T.l qa4 (bq (pv 0) (bq (mY (v:= .ty "int") (by rfl) T.az PyProof.Rows.boot_int rfl) bA))) (pN (Gc (dt (nr (K:=K) rfl) (by rfl) T.l qa4 (bq (pv 0) (bq (mY (v:= .ty "bool") (by rfl) T.an PyProof.Rows.boot_bool rfl) bA)))))))),?_⟩
  walk_at "a"
  nofun;exact q
inductive Zai(T:Tp K mg)(vs:List V)(H:Hp)(Q:VK)(cP:XK):Prop
 |mk (i l:Int) (cQ:vs=[.int i,.int l]) (cE:Q (.bl (decide (l<=i))) H):Zai T vs H Q cP
theorem Zi8{T:Tp K mg}{H:Hp}{Q:VK}{E:XK}{i l:Int}(q:Q (.bl (decide (l<=i))) H):Zai T ([.int i,.int l]++ []) H Q E:=⟨i,l,rfl,q⟩
local macro_rules| `(tactic|walk_at "rd")=>`(tactic|first|((with_reducible show Nm.Zai _ _ _ _ _);with_reducible refine Nm.Zi8 ?_)|fail "none here")
theorem tk:OkN P w base 2 T.x8 (Zai T):=by
 refine T.x8.F.okX Jp (λvs H Q E h=>?_) (λcz A outer s H vs Q E ap h=>?_)
 .obtain⟨i,l,rfl,_⟩:=h
  rfl
 .have hu:=ap.hu;obtain⟨i,l,rfl,q⟩:=h;refine⟨_,(bZ (cW (pO (c6 T.x7 (KU T) ap cw (bq (pv 0) bA)) (pN (kA pX (pv 0) (pv 1) (ds _)))))),?_⟩
  walk_at "a"
  nofun;exact q
inductive Cu(vs:List V)(H:Hp)(Q:VK)(E:XK):Prop
 |mk (i:Int) (cQ:vs=[.int i]) (cE:(¬0<=i->E (.ref T.U) none H)) (cJ:(0<=i->Q .non H)):Cu vs H Q E
theorem KW:OkN P w base 3 T.x9 (Cu T):=by
 refine T.x9.F.okX Jq (λvs H Q E h=>?_) (λcz A outer s H vs Q E ap h=>?_)
 .obtain⟨i,rfl,_⟩:=h
  rfl
 .have hu:=ap.hu;obtain⟨i,rfl,bE,q⟩:=h;refine⟨_,(bZ (dQ (hn (gO (K:=K) rfl (c6 T.x8 (tk T) ap cw (bq (pv 0) (bq b8 bA))) (λ_=>rfl))) (bZ (jF T.x.g T.x.e qaE rfl (bq Wh bA))) dX)),?_⟩
  walk_at "a"
  nofun
  by_cases c:0<=i
  .rw[decide_eq_true c];nofun;exact q c
  .rw[decide_eq_false c];nofun;exact bE c
inductive WG(T:Tp K mg)(vs:List V)(H:Hp)(Q:VK)(cP:XK):Prop
 |mk (i b:Int) (cQ:vs=[.int i,.int b]) (cE:Q (.bl (decide (0<=i/\i<b))) H):WG T vs H Q cP
theorem ZcX{T:Tp K mg}{H:Hp}{Q:VK}{E:XK}{i b:Int}(q:Q (.bl (decide (0<=i/\i<b))) H):WG T ([.int i,.int b]++ []) H Q E:=⟨i,b,rfl,q⟩
local macro_rules| `(tactic|walk_at "rd")=>`(tactic|first|((with_reducible show Nm.WG _ _ _ _ _);with_reducible refine Nm.ZcX ?_)|fail "none here")
theorem wA:OkN P w base 3 T.ar (WG T):=by
 refine T.ar.F.okX Jr (λvs H Q E h=>?_) (λcz A outer s H vs Q E ap h=>?_)
 .obtain⟨i,b,rfl,_⟩:=h
  rfl
 .have hu:=ap.hu;obtain⟨i,b,rfl,q⟩:=h;refine⟨_,(bZ (cW (pO (c6 T.x8 (tk T) ap cw (bq (pv 0) (bq b8 bA))) (pN (kA l9 (pv 0) (pv 1) (ds _)))))),?_⟩
  walk_at "a"
  nofun;refine V4 (λc=>?_) (λc=>?_)
  .have cU:0<=i:=of_decide_eq_true c;nofun;have e:decide (i<b)=decide (0<=i/\i<b):=by rw[decide_eq_decide];exact⟨λz=>⟨cU,z⟩,λz=>z.2⟩
   rw[e];exact q
  .have cU:¬0<=i:=λz=>c (decide_eq_true z);nofun;have e:false=decide (0<=i/\i<b):=(decide_eq_false (λz=>cU z.1)).symm;rw[e];exact q
inductive Cv(vs:List V)(H:Hp)(Q:VK)(E:XK):Prop
 |mk (p:Addr) (i:Int) (ag:HM) (fp:List Addr) (cQ:vs=[.ref p,.int i]) (cE:dg T H p ag fp) (cJ:(¬(0<=i/\i<ag.names.length)->E (.ref T.q) none H)) (dq:(0<=i->i<ag.names.length->Q .non H)):Cv vs H Q E
theorem q9:OkM P w mg base 4 T.aa (Cv T):=by
 have fq:=T.a;have fr:=T.e;refine T.aa.F.okX Js (λvs H Q E h=>?_) (λcz A outer s H vs Q E ap h=>?_)
 .obtain⟨p,i,ag,fp,rfl,_⟩:=h
  rfl
 .have hu:=ap.hu;obtain⟨p,i,ag,fp,rfl,b4,bE,q⟩:=h;obtain⟨bx,a,b,bs,rfl,ak,a',bL,cu,gD,da⟩:=id b4;refine⟨_,(bZ (dQ (hn (gO (K:=K) rfl (c6 T.ar (wA T) ap cw (bq (pv 1) (bq (dt Zjm (by rfl) T.f qao (bq (eB (K:=K) rfl (pv 0) rfl) bA)) bA))) (λ_=>rfl))) (bZ (jF T.w.g T.w.e qaE rfl (bq Wh bA))) dX)),?_⟩
  walk_at "a"
  nofun;rw[Zah]
  by_cases c:0<=i/\i<ag.names.length
  .rw[decide_eq_true c];nofun;exact q c.1 c.2
  .rw[decide_eq_false c];nofun;exact bE c
inductive Cw(vs:List V)(H:Hp)(Q:VK)(E:XK):Prop
 |mk (p u:Addr) (b:B5) (ag:HM) (fp:List Addr) (cQ:vs=[.ref p,.ref u]) (cE:dg T H p ag fp) (cJ:H u=some (.tup b.v)) (dq:ag.belts.length<=1000) (d2:∀(ae:Hp)(eC:List Addr),dg T ae p ⟨ag.names,ag.belts++ [b]⟩ eC->db fp H ae->UM fp eC H->Q (.int ag.belts.length) ae):Cw vs H Q E
theorem Cy:OkM P w mg base 1 T.aB (Cw T):=by
 have fq:=T.a;have fr:=T.e;refine T.aB.F.okX Jt (λvs H Q E h=>?_) (λcz A outer s H vs Q E ap h=>?_)
 .obtain⟨p,u,b,ag,fp,rfl,_⟩:=h
  rfl
 .have hu:=ap.hu;obtain⟨p,u,b,ag,fp,rfl,b4,fM,hz,q⟩:=h;obtain⟨bx,a,bb,bs,rfl,ak,a',bL,cu,gD,da⟩:=id b4;have iy:p≠bb:=gk ak cu (by intro z;cases z);have wB:bx≠bb:=gk a' cu (by intro z;cases z);have Sr:u≠bb:=gk fM cu (by intro z;cases z);have nA:bs.length<sizeLine:=dm (by rw[da.length];exact hz);have Cz:=da.length;refine⟨_,(bI (eF (fv (K:=K) rfl qai qaq qar g0 (eB (K:=K) rfl (pv 0) rfl) (bq (pv 1) bA)))
     (bZ (cW (cK pW (dt (eW K) (by rfl) T.f qao (bq (eB (K:=K) rfl (pv 0) rfl) bA)) b8)))),?_⟩
  walk_at "a"
  nofun;have k1:(upd H bb (.lst (bs++ [.ref u]))) p=some (.ins T.p bx [("numbers",.ref a),("rows",.ref bb)]):=by rw[b6 iy];exact ak
  have qG:(upd H bb (.lst (bs++ [.ref u]))) bb=some (.lst (bs++ [.ref u])):=Ze;nofun;have iS:((bs++ [V.ref u]).length:Int)-1=ag.belts.length:=by simp[Cz]
  rw[iS];have gd:db [p,bx,a,bb] H (upd H bb (.lst (bs++ [.ref u]))):=gN (by simp) cu (by intro _ z;cases z);refine q _ [p,bx,a,bb] ⟨bx,a,bb,_,rfl,k1,?_,?_,qG,gD,(da.keep gd.tups).snoc (gd.tups _ _ fM)⟩ gd UM.refl
  .rw[b6 wB];exact a'
  .rw[b6 gD];exact bL
inductive tl(vs:List V)(H:Hp)(Q:VK)(E:XK):Prop
 |mk (p:Addr) (b:B5) (ag:HM) (fp:List Addr) (cQ:vs= .ref p::b.v) (cE:dg T H p ag fp) (cJ:ag.belts.length<=1000) (dq:(¬(0<=b.giver/\b.giver<ag.names.length/\0<=b.taker/\b.taker<ag.names.length)->∀ae,Zd H ae->E (.ref T.q) none ae)) (d2:((0<=b.giver/\b.giver<ag.names.length/\0<=b.taker/\b.taker<ag.names.length)->¬(1<=b.give/\1<=b.take/\0<=b.start)->∀ae,Zd H ae->E (.ref T.U) none ae)) (em:((0<=b.giver/\b.giver<ag.names.length/\0<=b.taker/\b.taker<ag.names.length)->(1<=b.give/\1<=b.take/\0<=b.start)->60<=ag.belts.length->∀ae,Zd H ae->E (.ref T.E) none ae)) (e2:((0<=b.giver/\b.giver<ag.names.length/\0<=b.taker/\b.taker<ag.names.length)->(1<=b.give/\1<=b.take/\0<=b.start)->ag.belts.length<60->∀(ae:Hp)(eC:List Addr),dg T ae p ⟨ag.names,ag.belts++ [b]⟩ eC->db fp H ae->UM fp eC H->Q (.int ag.belts.length) ae)):tl vs H Q E
theorem Zhx{T:Tp K mg}{H:Hp}{Q:VK}{E:XK}{p:Addr}{g t cX b1 st:Int}{ag:HM}{fp:List Addr}(h:dg T H p ag fp)
  (ak:0<=g) (a':g<ag.names.length) (bL:0<=t) (cu:t<ag.names.length) (dJ:1<=cX) (da:1<=b1) (hZ:0<=st) (d9:ag.belts.length<60)
  (q:∀(ae:Hp)(eC:List Addr),dg T ae p ⟨ag.names,ag.belts++ [⟨g,t,cX,b1,st⟩]⟩ eC->db fp H ae->UM fp eC H->Q (.int ag.belts.length) ae):tl T [.ref p,.int g,.int t,.int cX,.int b1,.int st] H Q E:=
 ⟨p,⟨g,t,cX,b1,st⟩,ag,fp,rfl,h,by omega,λz=>absurd ⟨ak,a',bL,cu⟩ z,λ_ z=>absurd ⟨dJ,da,hZ⟩ z,λ_ _ z=>absurd z (by omega),λ_ _ _=>q⟩
theorem KX:Wc P w K mg base (CXX P w) 5 T.z T.A ["self","giver","taker","give","take","start"] (tl T):=by
 have fq:=T.a;have fr:=T.e;refine T.M.okX Ju (λvs H Q E h=>?_) (λcz A outer s H vs Q E ap h=>?_)
 .obtain⟨p,b,ag,fp,rfl,_⟩:=h
  rfl
 .have hu:=ap.hu;obtain⟨p,b,ag,fp,rfl,b4,hz,bE,bP,dj,q⟩:=h;obtain⟨bx,a,bb,bs,rfl,ak,a',bL,cu,gD,da⟩:=id b4;obtain⟨g,t,cX,b1,st⟩:=b;have Cz:=da.length;refine⟨_,(bI (eF (fk (pv 0) T.a T.aa (q9 T) ap cw (bq (pv 1) bA)))
     (bI (eF (fk (pv 0) T.a T.aa (q9 T) ap cw (bq (pv 2) bA)))
     (bI (dQ (PW.pt (i_ (hn (gO (K:=K) rfl (c6 T.x8 (tk T) ap cw (bq (pv 3) (bq b8 bA))) (λ_=>rfl))) (jz (hn (gO (K:=K) rfl (c6 T.x8 (tk T) ap cw (bq (pv 4) (bq b8 bA))) (λ_=>rfl)))))) (bZ (jF T.x.g T.x.e qaE rfl (bq Wh bA))) dX)
     (bI (eF (c6 T.x9 (KW T) ap cw (bq (pv 5) bA)))
     (bI (dQ (dk pX (dt (eW K) (by rfl) T.f qao (bq (eB (K:=K) rfl (pv 0) rfl) bA)) (r3 (v:= .int 60) rfl T.H ⟨_,rfl⟩) (ds _)) (bZ (jF T.r.g T.r.e qaE rfl (bq Wh bA))) dX)
     (bZ (cW (fk (pv 0) T.a T.aB (Cy T) ap cw (bq (hR (bq (pv 1) (bq (pv 2) (bq (pv 3) (bq (pv 4) (bq (pv 5) bA)))))) bA))))))))),?_⟩
  walk_at "a"
  dsimp only[B5.v] at*;nofun;refine⟨p,g,ag,_,rfl,b4,λz=>bE (by omega) H (Zd.refl H),λdS g1=>?_⟩;nofun;refine⟨p,t,ag,_,rfl,b4,λz=>bE (by omega) H (Zd.refl H),λfN jg=>?_⟩;have bF:0<=g/\g<ag.names.length/\0<=t/\t<ag.names.length:=⟨dS,g1,fN,jg⟩;nofun
  by_cases c:1<=cX
  .rw[decide_eq_true c];nofun
   by_cases d:1<=b1
   .rw[decide_eq_true d];nofun;refine⟨st,rfl,λz=>bP bF (by omega) H (Zd.refl H),λf=>?_⟩;nofun;refine Rd.ifD (λl=>?_) (λl=>?_)
    .nofun;exact dj bF (by omega) (by omega) H (Zd.refl H)
    nofun;refine⟨by show 5<=sizeLine;decide,λu fM=>?_⟩;have sn:Zd H (upd H u (.tup [.int g,.int t,.int cX,.int b1,.int st])):=cO fM;have mB:=b4.same sn;nofun;refine⟨p,u,⟨g,t,cX,b1,st⟩,ag,_,rfl,mB,Ze,hz,λae eC fg gd gr=>?_⟩;refine q bF (by omega) (by omega) ae eC fg (sn.frame.trans gd) (λx bp=>?_);rcases gr x bp with z|z
    .exact .inl z
    .refine .inr ?_;cases e:H x with
     |none=>rfl
     |some o=>rw[sn _ _ e] at z;cases z
   .rw[decide_eq_false d];nofun;exact bP bF (by omega) H (Zd.refl H)
  .rw[decide_eq_false c];nofun;exact bP bF (by omega) H (Zd.refl H)
inductive wC(vs:List V)(H:Hp)(Q:VK)(cP:XK):Prop
 |mk (p bx:Addr) (cQ:vs=[.ref p]) (cE:H p=some (.ins T.p bx [])) (cJ:H bx=some (.own p)) (dq:∀(ae:Hp)(fp:List Addr),dg T ae p ⟨[],[]⟩ fp->(∀x∈fp,x=p\/x=bx\/H x=none)->(∀b o,H b=some o->b≠p->ae b=some o)->Q .non ae):wC vs H Q cP
theorem ZgE{T:Tp K mg}{H:Hp}{Q:Addr->Hp->Prop}{E:XK}
  (q:∀(p:Addr)(fp:List Addr)(ae:Hp),dg T ae p ⟨[],[]⟩ fp->(∀x∈fp,H x=none)->Zd H ae->Q p ae):
  ∀x bx,H x=none->H bx=none->bx≠x->wC T (.ref x::([]++ [])) (upd (upd H bx (.own x)) x (.ins T.p bx [])) (λv bt=>v= .non/\Q x bt) E:=by
 intro x bx bp jM ne;refine⟨x,bx,rfl,Ze,by rw[b6 ne,Ze],λae fp b4 bN br=>⟨rfl,q x fp ae b4 (λy bO=>?_) (λb o e=>br b o ?_ (c3 e bp))⟩⟩
 .rcases bN y bO with rfl|rfl|h
  .exact bp
  .exact jM
  .by_cases ak:y=x
   .rw[ak];exact bp
   .by_cases a':y=bx
    .rw[a'];exact jM
    .rw[b6 ak,b6 a'] at h;exact h
 .rw[b6 (c3 e bp),b6 (c3 e jM)];exact e
local macro_rules| `(tactic|walk_at "rd")=>`(tactic|first|with_reducible refine Nm.ZgE ?_|fail "none here")
theorem CA:OkI P w mg base 1 T.aC (wC T):=by
 have fq:=T.a;have fr:=T.e;refine T.aC.F.okX Jv (λvs H Q E h=>?_) (λcz A outer s H vs Q E ap h=>?_)
 .obtain⟨p,bx,rfl,_⟩:=h
  rfl
 .have hu:=ap.hu;obtain⟨p,bx,rfl,bB,jM,q⟩:=h;refine⟨_,(bI (jG (K:=K) rfl (pv 0) na rfl)
     (bZ (jG (K:=K) rfl (pv 0) (gX bA) rfl))),?_⟩
  walk_at "a"
  nofun;intro a bD;have js:p≠a:=c3 bB bD;have wz:bx≠a:=c3 jM bD;have lR:p≠bx:=gk bB jM (by intro z;cases z);have i1:(upd H a (.dK [])) p=some (.ins T.p bx []):=by rw[b6 js];exact bB
  nofun;refine⟨qat _,λb ai=>?_⟩;have kf:H b=none:=by
   by_cases ak:b=p
   .rw[ak,Ze] at ai;cases ai
   .by_cases a':b=a
    .rw[a'];exact bD
    .rw[b6 ak,b6 a'] at ai;exact ai
  have iy:p≠b:=c3 bB kf;have wB:bx≠b:=c3 jM kf;have gD:a≠b:=by
   intro z;rw[<-z,b6 js.symm,Ze] at ai;cases ai
  have p_:(upd (upd (upd H a (.dK [])) p (.ins T.p bx [("numbers",.ref a)])) b (.lst [])) p=some (.ins T.p bx [("numbers",.ref a)]):=by rw[b6 iy,Ze]
  nofun;refine q _ [p,bx,a,b] ⟨bx,a,b,[],rfl,Ze,?_,?_,?_,gD,.nil⟩ (λx bp=>?_) (λc o e bv=>?_)
  .rw[b6 lR.symm,b6 wB,b6 lR.symm,b6 wz];exact jM
  .rw[b6 js.symm,b6 gD,b6 js.symm,Ze];rfl
  .rw[b6 iy.symm,Ze]
  .simp only[qah,qa2,or_false] at bp;rcases bp with rfl|rfl|rfl|rfl
   .exact .inl rfl
   .exact .inr (.inl rfl)
   .exact .inr (.inr bD)
   .exact .inr (.inr kf)
  .rw[b6 bv,b6 (c3 e kf),b6 bv,b6 (c3 e bD)];exact e
inductive CB(vs:List V)(H:Hp)(Q:VK)(cP:XK):Prop
 |mk (hf hG:Addr) (cM:List Str) (bs:List V) (ls:List B5) (cQ:vs=[.ref hf,.ref hG]) (cE:SqL K H hf (cM.map V.str)) (cJ:(∀n∈cM,hj n=true)) (dq:cM.Nodup) (d2:0<cM.length) (em:cM.length<=30) (e2:H hG=some (.lst bs)) (fx:eP H bs ls) (h2:(∀l∈ls,Bel cM.length l)) (jN:ls.length<=60) (kg:∀(p:Addr)(fp:List Addr)(ae:Hp),dg T ae p ⟨cM,ls⟩ fp->(∀x∈fp,H x=none)->Zd H ae->Q (.ref p) ae):CB vs H Q cP
theorem KY:OkN P w base 6 T.aR (CB T):=by
 have KZ:Wc P w K mg base (CXX P w) 5 T.z T.A ["self","giver","taker","give","take","start"] (tl T):=(KX T).mono (by decide);have fq:=T.a;have fr:=T.e;refine T.aR.F.okX mu (λvs H Q E h=>?_) (λcz A outer s H vs Q E ap h=>?_)
 .obtain⟨hf,hG,cM,bs,ls,rfl,_⟩:=h
  rfl
 .have hu:=ap.hu;obtain⟨hf,hG,cM,bs,ls,rfl,CC,h3,eI,Cn,ga,o_,c1,K0,kW,q⟩:=h;have eJ:=c1.length;refine⟨_,(bI (cy (i:=2) mu.nd rfl (Or.inl rfl) (z3 T.aC (CA T) ap T.ah cw))
     (bI (eo PassesOwn.leaving rfl (ez (K:=K) rfl (pv 0)) (cI (i:=3) mu.nd rfl (Or.inl rfl)) (bZ (eF (fk (pv 2) T.a T.x6 (Ct T) ap cw (bq (pv 3) bA)))))
     (bI (eo PassesOwn.leaving rfl (ez (K:=K) rfl (pv 1)) (ik (K:=K) (n:=5) rfl rfl (eG (cI (i:=4) mu.nd rfl (Or.inl rfl)) (eG (cI (i:=5) mu.nd rfl (Or.inl rfl)) (eG (cI (i:=6) mu.nd rfl (Or.inl rfl)) (eG (cI (i:=7) mu.nd rfl (Or.inl rfl)) (eG (cI (i:=8) mu.nd rfl (Or.inl rfl)) h9)))))) (bZ (eF (zg (pv 2) T.a T.L KZ ap T.N .nil cw (bq (pv 4) (bq (pv 5) (bq (pv 6) (bq (pv 7) (bq (pv 8) bA)))))))))
     (bZ (cW (pv 2)))))),?_⟩
  walk_at "a"
  nofun;intro bB fp bW b4 bN bU;have Ss:=bU.seq CC;nofun;refine Ya (ey CC) (λi af ae=>∃eC k0,af=[some (.ref hf),some (.ref hG),some (.ref bB),k0,none,none,none,none,none]/\dg T ae bB ⟨cM.take i,[]⟩ eC/\Zd H ae/\∀x∈eC,H x=none) ⟨fp,_,rfl,b4,bU,bN⟩ (λi af ae ⟨_,_,_,_,s,_⟩=>s) ?_ ?_
  .rintro i af ae hi ⟨eC,k0,rfl,mB,s',fQ⟩;have cm:i<cM.length:=by rw[GE] at hi;exact hi
   have c4:(cM.map V.str).getD i .non= .str cM[i]:=by simp[List.getD,cm]
   rw[c4];nofun;have lu:cM[i]∉cM.take i:=by
    have a':=eI;rw[<-List.take_append_drop (i+1) cM,qad cm] at a';exact λz=>(qbA.mp (qbA.mp a').1).2.2 _ z _ (by simp) rfl
   refine ZcM mB (h3 _ (GM cm)) lu (by simp;omega) (λbt nN fg gd gr=>?_);obtain⟨bM,f9⟩:=ZeE s' fQ gd gr;refine⟨nN,_,rfl,?_,bM,f9⟩;rw[qad cm];exact fg
  .rintro af ae ⟨eC,k0,rfl,mB,s',fQ⟩;rw[GE,qaD] at mB;have jA:=s' _ _ o_;nofun;refine Ya (ey (SqL.of o_)) (λi af ae=>∃(eC:List Addr)(a1 a2 a3 a4 a5:Option V),af=[some (.ref hf),some (.ref hG),some (.ref bB),k0,a1,a2,a3,a4,a5]/\dg T ae bB ⟨cM,ls.take i⟩ eC/\Zd H ae/\∀x∈eC,H x=none)
    ⟨eC,_,_,_,_,_,rfl,mB,s',fQ⟩ (λi af ae ⟨_,_,_,_,_,_,_,_,s,_⟩=>s) ?_ ?_
   .rintro i af bW hi ⟨tm,a1,a2,a3,a4,a5,rfl,jt,b2,wD⟩;have cm:i<ls.length:=by omega
    obtain⟨t,fH,eR⟩:=c1.at (GT cm);have c0:bs.getD i .non= .ref t:=by simp[List.getD,fH]
    rw[c0];have bz:=K0 _ (GM cm);have dL:=qad cm;have g_:=b2 _ _ eR;generalize ls[i]=l at*;obtain⟨cq,cN,gG,hN⟩:=bz.rg;obtain⟨cE,dq⟩:=bz.sz;dsimp only[B5.v] at g_;refine Rd.V3 (.of g_) rfl ?_;nofun;refine Zhx jt cq (by simp;omega) gG (by simp;omega) cE dq bz.st (by simp;omega) (λb0 K1 wE ho K2=>?_);obtain⟨cs,CD⟩:=ZeE b2 wD ho K2;refine⟨K1,_,_,_,_,_,rfl,?_,cs,CD⟩;rw[dL];exact wE
   .rintro af bW ⟨tm,a1,a2,a3,a4,a5,rfl,jt,b2,wD⟩;rw[eJ,qaD] at jt;nofun;exact q bB tm bW jt wD b2
inductive CF(T:Tp K mg)(vs:List V)(H:Hp)(Q:VK)(cP:XK):Prop
 |mk (a b:Addr) (w:Int) (bs:List V) (rows:List B5) (hs:List Int) (cQ:vs=[.ref a,.ref b,.int w]) (cE:H a=some (.lst bs)) (cJ:a≠b) (dq:eP H bs rows) (d2:H b=some (.lst (hs.map V.int))) (em:hs.length=rows.length) (e2:rows.length<=1000) (fx:∀ae,db [b] H ae->ae b=some (.lst ((gf rows hs w).map V.int))->Q .non ae):CF T vs H Q cP
theorem CG:OkN P w base 1 T.aD (CF T):=by
 refine T.aD.F.okX v6 (λvs H Q E h=>?_) (λcz A outer s H vs Q E ap h=>?_)
 .obtain⟨a,b,w,bs,rows,hs,rfl,_⟩:=h
  rfl
 .have hu:=ap.hu;obtain⟨a,b,w,bs,rows,hs,rfl,bD,gD,c1,ai,ag,hz,q⟩:=h;have eJ:=c1.length;refine⟨_,(bZ (eo PassesOwn.leaving rfl (mm (K:=K) rfl rfl T.k (bq (pv 0) bA)) (ik (K:=K) (n:=2) rfl rfl (eG (cI (i:=3) v6.nd rfl (Or.inl rfl)) (eG (cI (i:=4) v6.nd rfl (Or.inl rfl)) h9))) (bI (qc (dQ (dk (fL (K:=K) rfl hu) (ci (ixk K) (pv 4) b8 (λ_ _=>rfl)) (pv 2) (ds _)) (bZ (hM (cK pW (ci (ixk K) (pv 1) (pv 3) (λ_ _=>rfl)) (ci (ixk K) (pv 4) b8 (λ_ _=>rfl))) (hL (pv 1) (pv 3) j1))) dX))
     (bZ (dQ (dk (fL (K:=K) rfl hu) (ci (ixk K) (pv 4) b8 (λ_ _=>rfl)) (pv 2) (ds _)) (bZ (hM (cK (hh K) (ci (ixk K) (pv 1) (pv 3) (λ_ _=>rfl)) (ci (ixk K) (pv 4) b8 (λ_ _=>rfl))) (hL (pv 1) (pv 3) j1))) dX))))),?_⟩
  walk_at "a"
  nofun;refine Wp (H0:=q5 H a) (mq (xs:=bs) ?_) (λi af ae=>db [b] H ae/\(∃a1 a2,af=[some (.ref a),some (.ref b),some (.int w),a1,a2])/\ae b=some (.lst (((gf rows hs w).take i++hs.drop i).map V.int))) ⟨db.refl,⟨_,_,rfl⟩,by simpa using ai⟩ (λi af ae h=>Zkx ?_) ?_ ?_
  .exact SqL.of (by rw[Zm0];exact bD)
  .rw[h.1.keep _ _ bD (by simpa using gD),bD]
  .rintro i af a_ v bt hi ⟨f1,⟨a1,a2,rfl⟩,gM⟩ ⟨t,bX,rfl,rfl⟩;have cm:i<rows.length:=by omega
   have o':i<hs.length:=by omega
   obtain⟨u,fO,hH⟩:=c1.at (GT cm);have c0:bs.getD i .non= .ref u:=by simp[List.getD,fO]
   rw[c0];refine Rd.V3 (.of Ze) rfl ?_;have bM:Zd a_ (upd a_ t (.tup [.int i,.ref u])):=cO bX;have Su:b≠t:=c3 gM bX;generalize upd a_ t (.tup [.int i,.ref u])=bt at*;have j9:=bM _ _ gM;have lS:=bM _ _ (f1.tups _ _ hH);have f2:db [b] H bt:=f1.trans bM.frame;have df:=s5 (rows:=rows) (hs:=hs) (w:=w) ag;have pa:=ZcS (w:=w) cm o' (by omega);have wF:((gf rows hs w).take i++hs.drop i)[i]? =some hs[i]:=by
    rw[qaS (by rw[qaC];omega),qaC,show i-min i (gf rows hs w).length=0 by omega,List.getElem?_drop];simp[o']
   have gx:∀z,((gf rows hs w).take i++hs.drop i).set i z=(gf rows hs w).take i++z::hs.drop (i+1):=λz=>by
    rw[List.set_append_right _ _ (by rw[qaC];omega),qaC,show i-min i (gf rows hs w).length=0 by omega,List.drop_eq_getElem_cons o']
    rfl
   have tn:(gf rows hs w).take (i+1)++hs.drop (i+1)=(gf rows hs w).take i++(gf rows hs w)[i]'(by omega)::hs.drop (i+1):=by
    rw[qad (by omega),qcn]
    rfl
   rw[tn,pa];clear tn pa;have K3:((gf rows hs w).take i++hs.drop i).length=hs.length:=by rw[qaA,qaC,qbw];omega
   generalize (gf rows hs w).take i++hs.drop i=X at gM j9 K3 wF gx;have lQ:atI (X.map V.int) (i:Int)=some (.int hs[i]):=gJ (by rw[qak,wF];rfl);have Sv:=SqL.of (K:=K) j9;generalize rows[i]=r at*;generalize hs[i]=b4 at*;dsimp only[B5.v] at lS;have Sw:(i:Int)<((X.map V.int).length:Int):=by rw[GE];omega
   nofun;have K4:X.set i b4=X:=List.ext_getElem? λj=>by
    by_cases e:i=j
    .subst e;rw[qbz (by omega),wF]
    .rw[qbG e]
   refine Rd.cut (λbY ae=>db [b] H ae/\bY=[some (.ref a),some (.ref b),some (.int w),some (.int i),some (.ref u)]/\ae b=some (.lst ((X.set i (b4-(if r.taker=w then r.take else 0))).map V.int))) ?k1 ?hp
   case hp=>
    nofun;refine Rd.ifD (λc=>?_) (λc=>?_)
    .nofun;rw[if_pos c];exact⟨f2.trans (gN (by simp) j9 (by intro _ z;cases z)),rfl,by rw[Ze,qbB];rfl⟩
    .nofun;rw[if_neg c,Int.sub_zero,K4];exact⟨f2,rfl,j9⟩
   case k1=>
    rintro bY b7 ⟨dh,rfl,jo⟩;have kh:b7 u=some (.tup [.int r.giver,.int r.taker,.int r.give,.int r.take,.int r.start]):=dh.tups _ _ hH;have Sx:=SqL.of (K:=K) jo;have Sy:(X.set i (b4-(if r.taker=w then r.take else 0))).length=X.length:=qbZ;have wG:atI ((X.set i (b4-(if r.taker=w then r.take else 0))).map V.int) (i:Int)=some (.int (b4-(if r.taker=w then r.take else 0))):=gJ (by rw[qak,qbz (by omega)];rfl);have Sz:(i:Int)<(((X.set i (b4-(if r.taker=w then r.take else 0))).map V.int).length:Int):=by rw[GE];omega
    have K5:∀z,(X.set i (b4-(if r.taker=w then r.take else 0))).set i z=X.set i z:=λz=>List.set_set ..;have CH:X.set i (b4-(if r.taker=w then r.take else 0))=X.set i (b4-(if r.taker=w then r.take else 0)):=rfl;generalize p9:X.set i (b4-(if r.taker=w then r.take else 0))=Y at*;nofun;refine Rd.ifD (λc=>?_) (λc=>?_)
    .nofun;refine⟨dh.trans (gN (by simp) jo (by intro _ z;cases z)),⟨_,_,rfl⟩,?_⟩;rw[Ze,if_pos c,<-gx,<-K5,qbB]
     rfl
    .nofun;refine⟨dh,⟨_,_,rfl⟩,?_⟩;rw[jo,if_neg c,Int.add_zero,<-gx,p9]
  .rintro af a_ ⟨f1,⟨a1,a2,rfl⟩,gM⟩;nofun;have bE:(gf rows hs w).take bs.length=gf rows hs w:=qa7 (by rw[s5 ag];omega);have bP:hs.drop bs.length=[]:=List.drop_of_length_le (by omega);rw[bE,bP,qcd] at gM;exact q a_ f1 gM
inductive CI(T:Tp K mg)(vs:List V)(H:Hp)(Q:VK)(cP:XK):Prop
 |mk (a b:Addr) (w:Int) (bs:List V) (rows:List B5) (hs:List Int) (cQ:vs=[.ref a,.ref b,.int w]) (cE:SqL K H a bs) (cJ:eP H bs rows) (dq:SqL K H b (hs.map V.int)) (d2:hs.length=rows.length) (em:rows.length<=1000) (e2:∀ae,Zd H ae->Q (.bl (iW rows hs w)) ae):CI T vs H Q cP
theorem CJ:OkN P w base 1 T.aE (CI T):=by
 refine T.aE.F.okX v7 (λvs H Q E h=>?_) (λcz A outer s H vs Q E ap h=>?_)
 .obtain⟨a,b,w,bs,rows,hs,rfl,_⟩:=h
  rfl
 .have hu:=ap.hu;obtain⟨a,b,w,bs,rows,hs,rfl,bD,c1,ai,ag,hz,q⟩:=h;have eJ:=c1.length;refine⟨_,(bI (eo PassesOwn.leaving rfl (mm (K:=K) rfl rfl T.k (bq (pv 0) bA)) (ik (K:=K) (n:=2) rfl rfl (eG (cI (i:=3) v7.nd rfl (Or.inl rfl)) (eG (cI (i:=4) v7.nd rfl (Or.inl rfl)) h9))) (bZ (dQ (PW.pt (pM (dk (fL (K:=K) rfl hu) (ci (ixk K) (pv 4) b8 (λ_ _=>rfl)) (pv 2) (ds _)) (pK (dk l9 (ci (ixk K) (pv 1) (pv 3) (λ_ _=>rfl)) (ci (ixk K) (pv 4) b8 (λ_ _=>rfl)) (ds _))))) (bZ (cW Wn)) dX)))
     (bZ (cW Wn))),?_⟩
  walk_at "a"
  nofun;refine Wp (mq bD) (λi af ae=>Zd H ae/\(∃a1 a2,af=[some (.ref a),some (.ref b),some (.int w),a1,a2])/\∀j r h,j<i->rows[j]? =some r->hs[j]? =some h->r.taker=w->r.take<=h) ⟨Zd.refl H,⟨_,_,rfl⟩,by intro j r h z;omega⟩ (λi af ae h=>h.1) ?_ ?_
  .rintro i af a_ v bt hi ⟨bu,⟨a1,a2,rfl⟩,bB⟩ ⟨t,bX,rfl,rfl⟩;have cm:i<rows.length:=by omega
   have o':i<hs.length:=by omega
   have iX:rows[i]? =some rows[i]:=GT cm;have q2:hs[i]? =some hs[i]:=GT o';obtain⟨u,fO,hH⟩:=c1.at iX;have c0:bs.getD i .non= .ref u:=by simp[List.getD,fO]
   have lQ:atI (hs.map V.int) (i:Int)=some (.int hs[i]):=gJ (by simp[o']);rw[c0];refine Rd.V3 (.of Ze) rfl ?_;have bM:Zd H (upd a_ t (.tup [.int i,.ref u])):=bu.trans (cO bX);generalize upd a_ t (.tup [.int i,.ref u])=bt at*;have j9:=bM.seq ai;have lS:=bM _ _ hH;generalize rows[i]=r at*;generalize hs[i]=b4 at*;dsimp only[B5.v] at lS;have step:(r.taker=w->r.take<=b4)->∀(j:Nat)(r:B5)(h:Int),j<i+1->rows[j]? =some r->hs[j]? =some h->r.taker=w->r.take<=h:=λg j c7 h' bw a b=>by
    rcases qbd.mp bw with z|rfl
    .exact bB j c7 h' z a b
    .rw[iX] at a;rw[q2] at b;cases a;cases b;exact g
   nofun;refine Rd.ifD (λc=>?_) (λc=>?_)
   .nofun;refine Rd.ifD (λd=>?_) (λd=>?_)
    .nofun;rw[<-wj i iX q2 c d];exact q _ bM
    .nofun;exact⟨bM,⟨_,_,rfl⟩,step (λ_=>by omega)⟩
   .nofun;exact⟨bM,⟨_,_,rfl⟩,step (λz=>absurd z c)⟩
  .rintro af ae ⟨bu,⟨a1,a2,rfl⟩,bB⟩;nofun;rw[<-wi (rows:=rows) (hs:=hs) (w:=w) λj r h a b=>bB j r h (by have:=(qaa.mp a).1;omega) a b];exact q _ bu
inductive CK(T:Tp K mg)(vs:List V)(H:Hp)(Q:VK)(cP:XK):Prop
 |mk (b r c:Addr) (bs:List V) (ls:List B5) (rs ns:List Int) (cQ:vs=[.ref b,.ref r,.ref c]) (cE:H b=some (.lst bs)) (cJ:eP H bs ls) (dq:ls.length<=1000) (d2:SqL K H r (rs.map V.int)) (em:(∀r∈rs,1<=r)) (e2:rs.length<=30) (fx:rs.sum<=400) (h2:ZB ls rs.length) (jN:SqL K H c (ns.map V.int)) (kg:ns.length<=63) (q_:∀(bF:List Nat)(d:Nat->Nat),Fire.Z1 (dN ls (cF ls) rs) (λ_=>0) bF d->((∀w,¬dN ls (cF ls) rs d w)->(bF.length:Int)<rs.sum->∀ae,Zd H ae->Q .non ae)/\((bF.length:Int)=rs.sum->∀(a:Addr)(ae:Hp),H a=none->Zd H ae->ae a=some (.lst (bF.map λw:Nat=>V.int w))->Q (.ref a) ae)):CK T vs H Q cP
theorem K6:OkN P w base 2 T.aS (CK T):=by
 refine T.aS.F.okX nF (λvs H Q E h=>?_) (λcz A outer s H vs Q E ap h=>?_)
 .obtain⟨b,r,c,bs,ls,rs,ns,rfl,_⟩:=h
  rfl
 .have hu:=ap.hu;obtain⟨b,r,c,bs,ls,rs,ns,rfl,ai,c1,pb,eu,ki,nQ,kJ,cf,bv,SA,q⟩:=h;have eJ:=c1.length;have tp:=SqL.of (K:=K) ai;have df:(cF ls).length=ls.length:=by simp[cF]
  have h1:0<=rs.sum:=by
   have cd:=WZ (rs:=rs) λx bp=>(by have:=ki x bp;omega);omega
  refine⟨_,(bI (cy (i:=3) nF.nd rfl (Or.inr rfl) (jD rfl (e5 (x:="_law_belt") (zs:=[]) (ix:=[]) (cn sO) ["_law_belts","_law_rates","_law_cells","_law_lying","_law_left","_law_row","_law_step","_law_some","_law_work"] rfl rfl (by decide+kernel)) (ez (K:=K) rfl (pv 0)) (λcg C s H fp=>⟨(cI (i:=0) (show(["_law_belt"]:List Str).Nodup by decide+kernel) rfl (Or.inl rfl)),fW,(ci (ixk K) (pv 0) b8 (λ_ _=>rfl))⟩)))
     (bI (cy (i:=4) nF.nd rfl (Or.inr rfl) (i' (j8 (K:=K) rfl) (by rfl) T.j qaF (bq (pv 1) bA)))
     (bI (cy (i:=5) nF.nd rfl (Or.inl rfl) (gX bA))
     (bI (eo PassesOwn.leaving rfl (hc rfl T.g (bq (dt (vr (K:=K) rfl rfl) (by rfl) T.X PyProof.Rows.boot_sum (bq (pv 1) bA)) bA)) (cI (i:=6) nF.nd rfl (Or.inl rfl)) (bI (nk (j:=7) rfl (e5 (x:="_law_work") (zs:=["_law_belts","_law_lying","_law_left"]) (ix:=[0,3,4]) (cn sO) ["_law_belts","_law_rates","_law_cells","_law_lying","_law_left","_law_row","_law_step","_law_some","_law_work"] rfl rfl (by decide+kernel)) (hc rfl T.g (bq (dt (eW K) (by rfl) T.f qao (bq (pv 1) bA)) bA)) (λcg C s H fp=>⟨(cI (i:=0) (show(["_law_work","_law_belts","_law_lying","_law_left"]:List Str).Nodup by decide+kernel) rfl (Or.inl rfl)),(nc (PW.pt (pM (dk ou (ci (ixk K) (pv 3) (pv 0) (λ_ _=>rfl)) b8 (ds _)) (pK (gO (K:=K) rfl (c6 T.aE (CJ T) ap Uo (bq (pv 1) (bq (pv 2) (bq (pv 0) bA)))) (λ_=>rfl)))))),(pv 0)⟩) nF.nd rfl (Or.inl rfl))
     (bI (dQ (dk (fL (K:=K) rfl hu) (pv 7) (gX bA) (ds _)) (bZ (cW WJ)) dX)
     (bI (cy (i:=8) nF.nd rfl (Or.inl rfl) (ci (ixk K) (pv 7) (cK fT (c6 T.x0 (o9 T) ap cw (bq (pv 2) (bq (pv 6) bA))) (dt (eW K) (by rfl) T.f qao (bq (pv 7) bA))) (λ_ _=>rfl)))
     (bI (eF (c6 T.aD (CG T) ap cw (bq (pv 0) (bq (pv 3) (bq (pv 8) bA)))))
     (bI (hM (cK pW (ci (ixk K) (pv 4) (pv 8) (λ_ _=>rfl)) b8) (hL (pv 4) (pv 8) j1))
     (bZ (eF (fv (K:=K) rfl qai qaq qar g0 (pv 5) (bq (pv 8) bA))))))))))
     (bZ (cW (pv 5))))))),?_⟩
  walk_at "a"
  nofun;refine Z9 (ey tp) (dm (by omega)) (λ_=>true) (λi=> .int (ls.getD i dB).start) (λi ae cY hi bU k=>?_) (λi ae cY hi _ bU k=>?_) (λeL a_ q' bu nR=>?_)
  .nofun;exact k ae (Zd.refl ae)
  .obtain⟨t,fH,eR⟩:=c1.getD (i:=i) (by omega);rw[fH];have gC:=bU _ _ eR;generalize ls.getD i dB=bb at*;dsimp only[B5.v] at gC;nofun;exact k ae (Zd.refl ae)
  rw[ZbI eJ,<-Zfw] at nR;nofun;refine Rd.W3 (bu.seq eu) (λiz wH=>?_);have bM:Zd a_ (upd a_ iz (.lst (rs.map V.int))):=cO wH;have CL:(upd a_ iz (.lst (rs.map V.int))) iz=some (.lst ((dZ rs (λ_=>0)).map V.int)):=by rw[Ze,Ks ki]
  generalize upd a_ iz (.lst (rs.map V.int))=bt at*;nofun;refine⟨qat _,λkj ra=>?_⟩;have bR:Zd bt (upd bt kj (.lst [])):=cO ra;have K7:(upd bt kj (.lst [])) kj=some (.lst []):=Ze;generalize upd bt kj (.lst [])=b7 at*;have gi:=bu.trans (bM.trans bR);have gh:=gi.seq eu;have wI:b≠eL:=λz=>by rw[z,q'] at ai;cases ai
  have CM:eL≠iz:=c3 nR wH;have nP:eL≠kj:=c3 (bM _ _ nR) ra;have tq:iz≠kj:=c3 CL ra;have K8:H iz=none:=ei bu wH;have K9:H kj=none:=ei (bu.trans bM) ra;nofun;refine Rd.ZlD gh ?_;nofun;refine Vw (n:=rs.sum.toNat) (λi af ae=>∃(bF:List Nat)(d:Nat->Nat)(a6 a7 a8:Option V),af=[some (.ref b),some (.ref r),some (.ref c),some (.ref eL),some (.ref iz),some (.ref kj),a6,a7,a8]/\Zd H ae/\Fire.Z1 (dN ls (cF ls) rs) (λ_=>0) bF d/\bF.length=i/\ae eL=some (.lst ((gy ls (cF ls) d).map V.int))/\ae iz=some (.lst ((dZ rs d).map V.int))/\ae kj=some (.lst (bF.map λw:Nat=>V.int w))) ⟨[],λ_=>0,_,_,_,rfl,gi,.nil _,rfl,bR _ _ (bM _ _ nR),bR _ _ CL,K7⟩ ?_ ?_
  .rintro i af bW hi ⟨bF,d,a6,a7,a8,rfl,b2,eM,ht,wJ,wK,wL⟩;have ej:=c1.keep λb xs e=>b2 _ _ e;have i2:=b2 _ _ ai;have eX:=b2.seq eu;have ha:=b2.seq bv;have K_:=SqL.of (K:=K) wK;have iO:=g8 (d:=d) df;have nS:((rs.map V.int).length:Int)=(rs.length:Int):=by simp
   nofun;refine Z9 Wa (dm (by simp;omega)) (λv=>e' ls (cF ls) rs d v) (λv=> .int (v:Int)) (λv ae cY bS bU k=>?_) (λv ae cY bS _ bU k=>?_) (λpc b0 hso cs CN=>?_)
   .rw[qaV];have gH:v<rs.length:=by simp at bS;exact bS
    have gB:=Y1 (ns:=dZ rs d) (k:=(v:Int)) (by omega) (by rw[nM];omega);rw[FM,s9 gH] at gB;have fD:=bU.seq K_;unfold e' at k;nofun
    by_cases hd:d v<dF rs v
    .rw[decide_eq_true hd,qct] at k;have gI:0<(dF rs v:Int)-(d v:Int):=by omega
     nofun;refine⟨b,eL,(v:Int),bs,ls,_,rfl,.of (bU _ _ i2),ej.keep (λb xs e=>bU _ _ e),.of (bU _ _ wJ),iO,pb,λc9 dY=>?_⟩;nofun;exact k c9 dY
    .rw[decide_eq_false hd,Bool.false_and] at k;have gI:¬0<(dF rs v:Int)-(d v:Int):=by omega
     nofun;exact k ae (Zd.refl ae)
   .rw[qaV];nofun;exact k ae (Zd.refl ae)
   have K':((List.range (((rs.map V.int).length:Nat):Int).toNat).filter λv=>e' ls (cF ls) rs d v).map (λv:Nat=>V.int (v:Int))=(((List.range rs.length).filter λv=>e' ls (cF ls) rs d v).map λv:Nat=>(v:Int)).map V.int:=by
    rw[FM,GE,qaP]
    rfl
   rw[K'] at CN;have CO:∀v∈(List.range rs.length).filter (λv=>e' ls (cF ls) rs d v),dN ls (cF ls) rs d v:=λv bS=>by
    obtain⟨ak,a'⟩:=qaB.mp bS;exact(nL df cf (qaw.mp ak)).mp a'
   have mV:(List.range rs.length).filter (λv=>e' ls (cF ls) rs d v)=[]->∀w,¬dN ls (cF ls) rs d w:=λz w hw=>List.filter_eq_nil_iff.mp z w (qaw.mpr hw.1) ((nL df cf hw.1).mpr hw);have kG:((List.range rs.length).filter (λv=>e' ls (cF ls) rs d v)).length<=30:=qaj (qaR _ _) (by rw[qbo];exact nQ);generalize (List.range rs.length).filter (λv=>e' ls (cF ls) rs d v)=fs at*;nofun;refine⟨qat _,λe bK=>?_⟩;have f4:Zd b0 (upd b0 e (.lst [])):=cO bK;have La:(upd b0 e (.lst [])) e=some (.lst (([]:List Int).map V.int)):=Ze;generalize upd b0 e (.lst [])=c9 at*;have Lb:=SqL.of (K:=K) (f4 _ _ CN);have jO:=cs.trans f4;have nT:=b2.trans jO;refine Rd.ZgB (eV.ints Lb) (eV.ints (SqL.of La)) (iM _) (iM _) (np _) ?_;rw[V9];refine Rd.bl ?_
   by_cases z:fs=[]
   .rw[decide_eq_true (by rw[z];rfl)];nofun;exact(q bF d eM).1 (mV z) (by omega) _ nT
   rw[decide_eq_false (λy=>z (List.map_eq_nil_iff.mp y))];have fp:0<((((fs.map λv:Nat=>(v:Int)).map V.int).length:Nat):Int):=by
    have:=qbT.mpr z;simp;omega
   have wd:=qbb (cellX ns (0+(i:Int))) (show((((fs.map λv:Nat=>(v:Int)).map V.int).length:Nat):Int)≠0 by omega);have e9:=qa9 (cellX ns (0+(i:Int))) fp;obtain⟨w,hw,et⟩:∃w∈fs,atI ((fs.map λv:Nat=>(v:Int)).map V.int) (cellX ns (0+(i:Int)) % ((((fs.map λv:Nat=>(v:Int)).map V.int).length:Nat):Int))=some (.int (w:Int)):=by
    generalize cellX ns (0+(i:Int)) % ((((fs.map λv:Nat=>(v:Int)).map V.int).length:Nat):Int)=ix at*;obtain⟨k,rfl⟩:=qaL wd;have br:k<fs.length:=by simp at e9;omega
    exact⟨fs[k],GM br,gJ (by simp[br])⟩
   have ju:=CO w hw;have Lc:=ju.1;have tr:=jO.seq ha;have pd:=jO _ _ i2;have nU:=ej.keep λb xs e=>jO _ _ e;have Ld:=jO _ _ wJ;have Le:=jO _ _ wK;have Lf:=jO _ _ wL;nofun;refine⟨b,eL,(w:Int),bs,ls,_,rfl,pd,wI,nU,Ld,iO,pb,λdi lA CP=>?_⟩;rw[wl df cf] at CP;have Lg:Zd H di:=λx o e=>lA.keep _ _ (nT _ _ e) (by simp;exact λy=>by rw[y,q'] at e;cases e);have Lh:=lA.keep _ _ Le (by simpa using CM.symm);have Li:=lA.keep _ _ Lf (by simpa using nP.symm);have SD:=SqL.of (K:=K) Lh;have gB:=Y1 (ns:=dZ rs d) (k:=(w:Int)) (by omega) (by rw[nM];omega);rw[FM] at gB;have kW:(w:Int)<(((dZ rs d).map V.int).length:Int):=by rw[GE,nM];omega
   have Lj:(bF.map λw:Nat=>V.int (w:Int)).length<sizeLine:=dm (by rw[GE];omega);nofun;rw[FM,<-qbB,BZ Lc];have Lk:Zd H (upd di iz (.lst ((dZ rs (Fire.bump d w)).map V.int))):=Lg.new K8;have Ll:(upd di iz (.lst ((dZ rs (Fire.bump d w)).map V.int))) eL=_:=(b6 CM).trans CP;have Lm:(upd di iz (.lst ((dZ rs (Fire.bump d w)).map V.int))) iz=_:=Ze;have SE:(upd di iz (.lst ((dZ rs (Fire.bump d w)).map V.int))) kj=_:=(b6 tq.symm).trans Li;generalize upd di iz (.lst ((dZ rs (Fire.bump d w)).map V.int))=eU at*;nofun;exact⟨bF++ [w],Fire.bump d w,_,_,_,rfl,Lk.new K9,eM.snoc ju,by simp[ht],(b6 nP).trans Ll,(b6 tq).trans Lm,by rw[Ze,qaG];rfl⟩
  .rintro af bW ⟨bF,d,a6,a7,a8,rfl,b2,eM,ht,wJ,wK,wL⟩;nofun;exact(q bF d eM).2 (by omega) kj bW (ei (bu.trans bM) ra) b2 wL
inductive VX(vs:List V)(H:Hp)(Q:VK)(cP:XK):Prop
 |mk (p:Addr) (ag:HM) (fp:List Addr) (cQ:vs=[.ref p]) (cE:dg T H p ag fp) (cJ:∀(q:Addr)(ae:Hp)(bs:List V),H q=none->Zd H ae->ae q=some (.lst bs)->eP ae bs ag.belts->Q (.ref q) ae):VX vs H Q cP
theorem UY{T:Tp K mg}{H:Hp}{Q:VK}{E:XK}{p:Addr}{ag:HM}{fp:List Addr}(h:dg T H p ag fp)
  (q:∀(q:Addr)(ae:Hp)(bs:List V),H q=none->Zd H ae->ae q=some (.lst bs)->eP ae bs ag.belts->Q (.ref q) ae):VX T (.ref p::([]++ [])) H Q E:=⟨p,ag,fp,rfl,h,q⟩
local macro_rules| `(tactic|walk_at "rd")=>`(tactic|first|((with_reducible show Nm.VX _ _ _ _ _);with_reducible refine Nm.UY (by with_reducible assumption) ?_)|fail "none here")
theorem nV:OkM P w mg base 1 T.O (VX T):=by
 have fq:=T.a;have fr:=T.e;refine T.O.F.okX Jw (λvs H Q E h=>?_) (λcz A outer s H vs Q E ap h=>?_)
 .obtain⟨p,ag,fp,rfl,_⟩:=h
  rfl
 .have hu:=ap.hu;obtain⟨p,ag,fp,rfl,b4,q⟩:=h;obtain⟨bx,a,b,bs,rfl,ak,a',bL,cu,gD,da⟩:=id b4;refine⟨_,(bZ (cW (i' (j8 (K:=K) rfl) (by rfl) T.j qaF (bq (eB (K:=K) rfl (pv 0) rfl) bA)))),?_⟩
  walk_at "a"
  nofun;refine Rd.W3 (.of cu) (λl fD=>?_);exact q l _ bs fD (cO fD) Ze (da.keep ((cO fD).frame (A:=[])).tups)
inductive CQ(vs:List V)(H:Hp)(Q:VK)(cP:XK):Prop
 |mk (p:Addr) (ag:HM) (fp:List Addr) (cQ:vs=[.ref p]) (cE:dg T H p ag fp) (cJ:ag.belts.length<=1000) (dq:∀(r:Addr)(ae:Hp),H r=none->Zd H ae->ae r=some (.lst ((cF ag.belts).map V.int))->Q (.ref r) ae):CQ vs H Q cP
theorem CS:OkN P w base 2 T.aF (CQ T):=by
 have fq:=T.a;have fr:=T.e;refine T.aF.F.okX Jx (λvs H Q E h=>?_) (λcz A outer s H vs Q E ap h=>?_)
 .obtain⟨p,ag,fp,rfl,_⟩:=h
  rfl
 .have hu:=ap.hu;obtain⟨p,ag,fp,rfl,b4,hz,q⟩:=h;refine⟨_,(bZ (cW (jD rfl (e5 (x:="row") (zs:=[]) (ix:=[]) (cn vR) ["hall"] rfl rfl (by decide+kernel)) (ez (K:=K) rfl (il (pv 0) T.a T.O (nV T) ap cw)) (λcg C s H fp=>⟨(cI (i:=0) (show(["row"]:List Str).Nodup by decide+kernel) rfl (Or.inl rfl)),fW,(ci (ixk K) (pv 0) b8 (λ_ _=>rfl))⟩)))),?_⟩
  walk_at "a"
  nofun;intro u a_ bs mC iw fO c1;have iR:=c1.length;have ai:bs.length<sizeLine:=dm (by rw[iR];exact hz);nofun;refine Z9 (ey (SqL.of fO)) ai (λ_=>true) (λi=> .int (ag.belts.getD i dB).start) (λi ae cY hi bU k=>?_) (λi ae cY hi _ bU k=>?_) (λr ae ap bU jv=>?_)
  .nofun;exact k ae (Zd.refl ae)
  .have cm:i<ag.belts.length:=by omega
   obtain⟨t,fH,eR⟩:=c1.getD (i:=i) cm;rw[fH];have gC:=bU _ _ eR;generalize ag.belts.getD i dB=bb at*;dsimp only[B5.v] at gC;nofun;exact k ae (Zd.refl ae)
  .refine q r ae (ei iw ap) (iw.trans bU) ?_;rw[jv,qaz.mpr (by simp),iR];unfold cF;refine congrArg (λz=>some (HO.lst z)) ?_;refine qau (by simp) λi ak a'=>?_;have:i<ag.belts.length:=by simpa using ak
   simp[List.getD,this]
inductive CT(vs:List V)(H:Hp)(Q:VK)(E:XK):Prop
 |mk (p:Addr) (ag:HM) (fp:List Addr) (cQ:vs=[.ref p]) (cE:dg T H p ag fp) (cJ:∀r ae,H r=none->Zd H ae->ae r=some (.lst (ag.names.map V.str))->Q (.ref r) ae):CT vs H Q E
theorem ts:OkM P w mg base 1 T.al (CT T):=by
 have fq:=T.a;have fr:=T.e;refine T.al.F.okX Jy (λvs H Q E h=>?_) (λcz A outer s H vs Q E ap h=>?_)
 .obtain⟨p,ag,fp,rfl,_⟩:=h
  rfl
 .have hu:=ap.hu;obtain⟨p,ag,fp,rfl,b4,q⟩:=h;obtain⟨bx,a,b,bs,rfl,ak,a',bL,cu,gD,da⟩:=id b4;refine⟨_,(bZ (cW (i' (z4 rfl) (by rfl) T.j qaF (bq (eB (K:=K) rfl (pv 0) rfl) bA)))),?_⟩
  walk_at "a"
  nofun;intro l fD;rw[ZdP];exact q l _ fD (cO fD) Ze
inductive CU(vs:List V)(H:Hp)(Q:VK)(cP:XK):Prop
 |mk (p:Addr) (ag:HM) (fp:List Addr) (cQ:vs=[.ref p]) (cE:dg T H p ag fp) (cJ:ag.names.length<=1000) (dq:ag.belts.length<=1000) (d2:ZB ag.belts ag.names.length) (em:∀(r:Addr)(cp:List Addr)(ae:Hp),H r=none->Zd H ae->Zcp ae r cp ag.names.length (fF ag.belts)->Q (.ref r) ae):CU vs H Q cP
theorem Ln:OkN P w base 2 T.aT (CU T):=by
 have fq:=T.a;have fr:=T.e;refine T.aT.F.okX sU (λvs H Q E h=>?_) (λcz A outer s H vs Q E ap h=>?_)
 .obtain⟨p,ag,fp,rfl,_⟩:=h
  rfl
 .have hu:=ap.hu;obtain⟨p,ag,fp,rfl,b4,bH,hz,cf,q⟩:=h;refine⟨_,(bI (z8 (j:=1) (xs:=["name"]) rfl (e5 (x:="name") (zs:=[]) (ix:=[]) (cn vS) ["hall","ways","belt","row"] rfl rfl (by decide+kernel)) (ez (K:=K) rfl (il (pv 0) T.a T.al (ts T) ap cw)) (λcg C s H fp=>⟨(cI (i:=0) (show(["name"]:List Str).Nodup by decide+kernel) rfl (Or.inl rfl)),fW,(gX bA)⟩) sU.nd rfl (Or.inl rfl))
     (bI (eo PassesOwn.leaving rfl (mm (K:=K) rfl rfl T.k (bq (il (pv 0) T.a T.O (nV T) ap cw) bA)) (ik (K:=K) (n:=2) rfl rfl (eG (cI (i:=2) sU.nd rfl (Or.inl rfl)) (eG (cI (i:=3) sU.nd rfl (Or.inl rfl)) h9))) (bI (eF (fv (K:=K) rfl qai qaq qar g0 (ci (ixk K) (pv 1) (ci (ixk K) (pv 3) b8 (λ_ _=>rfl)) (λ_ _=>rfl)) (bq (hR (bq (ci (ixk K) (pv 3) b8 (λ_ _=>rfl)) (bq (pv 2) (bq Wn bA)))) bA)))
     (bZ (eF (fv (K:=K) rfl qai qaq qar g0 (ci (ixk K) (pv 1) (ci (ixk K) (pv 3) b8 (λ_ _=>rfl)) (λ_ _=>rfl)) (bq (hR (bq (ci (ixk K) (pv 3) b8 (λ_ _=>rfl)) (bq (pv 2) (bq Wn bA)))) bA))))))
     (bZ (cW (pv 1))))),?_⟩
  walk_at "a"
  nofun;refine⟨p,ag,fp,rfl,b4,λnm a_ h3 bu wM=>?_⟩;nofun;refine ZjJ (own:=1) (ey (SqL.of wM)).y (dm (by rw[GE];exact bH)) (λi=>[some ((ag.names.map V.str).getD i .non)]) (λ_=>rfl) (λi dI ae v bt hU hi bU y Lo k=>?_) (λi ae cY hi bU k=>?_) (λr bt cp ap bM fa cm eI lI=>?_)
  .obtain⟨rfl,rfl⟩:=y;obtain⟨x1,rfl⟩:∃x1,dI=[x1]:=by
    match dI,Lo with
    | [x1],_=>exact⟨x1,rfl⟩
   nofun;exact k _ (Zd.refl _)
  .exact k
  rw[GE] at cm;have i3:=bu.trans bM;have fg:=b4.same i3;have fy:H r=none:=ei bu ap;have CV:∀x∈cp,H x=none:=λx bp=>ei bu (lI x bp).1;have CW:∀x∈cp,r≠x:=λx bp z=>(lI x bp).2.1 z.symm;nofun;intro u b7 bs mC bR lS c1;have eJ:=c1.length;have CY:∀x∈cp,u≠x:=λx bp z=>by
   have:=(lI x bp).2.2;rw[<-z,mC] at this;cases this
  nofun;refine Wp (mq (SqL.of (qv (q:=u) (o:= .lst bs)))) (λk af ae=>∃(a1 a2:Option V),af=[some (.ref p),some (.ref r),a1,a2]/\Zd H ae/\ae u=some (.lst bs)/\ae r=some (.lst (cp.map V.ref))/\eP ae bs ag.belts/\WA ae cp (kc ag.belts k)/\∀(j:Nat)(h:j<cp.length) vs,ae cp[j]=some (.lst vs)->vs.length<=2*k)
   ⟨_,_,rfl,i3.trans bR,lS,bR _ _ fa,c1,λj bw=>⟨[],bR _ _ (lI _ (GM bw)).2.2,.nil⟩,λj bw vs e=>?_⟩ ?_ ?_ ?_
  .rw[bR _ _ (lI _ (GM bw)).2.2] at e;cases e;exact qat _
  .rintro k af ae ⟨_,_,_,_,h,_⟩;exact US h
  .rintro k af bW v b0 br ⟨a1,a2,rfl,b2,kh,eX,ej,rb,hsz⟩ ⟨t,bX,rfl,rfl⟩;have gw:k<ag.belts.length:=by omega
   obtain⟨dS,g1,fN,jg⟩:=cf.at gw;obtain⟨cH,gM,j9⟩:=ej.getD gw;rw[gM];refine Rd.V3 (.of Ze) rfl ?_;have cs:Zd bW (upd bW t (.tup [.int k,.ref cH])):=cO bX;generalize upd bW t (.tup [.int k,.ref cH])=b0 at*;have Lp:∀j:Int,kc ag.belts (k+1) j=(kc ag.belts k j++(if(ag.belts.getD k dB).giver=j then[((ag.belts.getD k dB).taker,(k:Int),true)] else[]))++(if(ag.belts.getD k dB).taker=j then[((ag.belts.getD k dB).giver,(k:Int),false)] else[]):=λj=>by
    rw[Zh2,nH,qcn]
   generalize ag.belts.getD k dB=b at*;have CZ:=cs _ _ j9;dsimp only[B5.v] at CZ;have iA:=cs _ _ eX;have wN:=rb.same cs;have fz:b.giver.toNat<cp.length:=by omega
   have dH:b.taker.toNat<cp.length:=by omega
   have SF:=Zfe dS fz;have SG:=Zfe fN dH;have eh:((b.giver.toNat:Nat):Int)=b.giver:=qas dS;have dL:((b.taker.toNat:Nat):Int)=b.taker:=qas fN;obtain⟨vs,nW,C0⟩:=wN b.giver.toNat fz;have wO:∀(j:Nat)(h:j<cp.length) vs,b0 cp[j]=some (.lst vs)->vs.length<=2*k:=λj bw us e=>by
    obtain⟨C1,ak,_⟩:=rb j bw;have:=cs _ _ ak;rw[e] at this;cases this;exact hsz j bw _ ak
   have SH:vs.length<sizeLine:=v' (by have:=wO _ fz _ nW;omega);nofun;refine⟨by show 3<=sizeLine;decide,λdE eR=>?_⟩;have dY:Zd b0 (upd b0 dE (.tup [.int b.taker,.int k,.bl true])):=cO eR;have wP:(upd b0 dE (.tup [.int b.taker,.int k,.bl true])) dE=some (.tup [.int b.taker,.int k,.bl true]):=Ze;generalize upd b0 dE (.tup [.int b.taker,.int k,.bl true])=c9 at*;have C2:=dY _ _ nW;nofun;have wQ:=(wN.same dY).add eI fz C2 (C0.keep λ_ _ e=>dY _ _ e) (x:=(b.taker,(k:Int),true)) wP;have Lq:r≠cp[b.giver.toNat]:=CW _ (GM fz);have Lr:u≠cp[b.giver.toNat]:=CY _ (GM fz);have nX:(upd c9 cp[b.giver.toNat] (.lst (vs++ [.ref dE]))) r=some (.lst (cp.map V.ref)):=by rw[b6 Lq];exact dY _ _ iA
   have Ls:(upd c9 cp[b.giver.toNat] (.lst (vs++ [.ref dE]))) u=some (.lst bs):=by rw[b6 Lr];exact dY _ _ (cs _ _ kh)
   have lT:∀c xs,c9 c=some (.tup xs)->(upd c9 cp[b.giver.toNat] (.lst (vs++ [.ref dE]))) c=some (.tup xs):=λc xs e=>by rw[b6 (gk e C2 (by intro z;cases z))];exact e
   have tt:=lT _ _ (dY _ _ CZ);have wR:eP (upd c9 cp[b.giver.toNat] (.lst (vs++ [.ref dE]))) bs ag.belts:=((ej.keep λ_ _ e=>cs _ _ e).keep λ_ _ e=>dY _ _ e).keep lT;have Lu:Zd H (upd c9 cp[b.giver.toNat] (.lst (vs++ [.ref dE]))):=((b2.trans cs).trans dY).new (CV _ (GM fz));have wS:∀(j:Nat)(h:j<cp.length) us,(upd c9 cp[b.giver.toNat] (.lst (vs++ [.ref dE]))) cp[j]=some (.lst us)->us.length<=2*k+1:=λj bw us e=>by
    by_cases z:j=b.giver.toNat
    .subst z;rw[Ze] at e;cases e;have:=wO _ fz _ nW;simp;omega
    .have ne:cp[j]≠cp[b.giver.toNat]:=λy=>z (qT eI bw fz y);rw[b6 ne] at e;obtain⟨C1,ak,_⟩:=wN j bw;have:=dY _ _ ak;rw[e] at this;cases this;have:=wO j bw _ ak;omega
   generalize upd c9 cp[b.giver.toNat] (.lst (vs++ [.ref dE]))=di at*;obtain⟨us,q6,ww⟩:=wQ b.taker.toNat dH;have SI:us.length<sizeLine:=v' (by have:=wS _ dH _ q6;omega);nofun;refine⟨by show 3<=sizeLine;decide,λjl gC=>?_⟩;have e4:Zd di (upd di jl (.tup [.int b.giver,.int k,.bl false])):=cO gC;have C3:(upd di jl (.tup [.int b.giver,.int k,.bl false])) jl=some (.tup [.int b.giver,.int k,.bl false]):=Ze;generalize upd di jl (.tup [.int b.giver,.int k,.bl false])=eU at*;have C4:=e4 _ _ q6;nofun;have C5:=(wQ.same e4).add eI dH C4 (ww.keep λ_ _ e=>e4 _ _ e) (x:=(b.giver,(k:Int),false)) C3;have Lv:r≠cp[b.taker.toNat]:=CW _ (GM dH);have Lw:u≠cp[b.taker.toNat]:=CY _ (GM dH);have Lx:∀c xs,eU c=some (.tup xs)->(upd eU cp[b.taker.toNat] (.lst (us++ [.ref jl]))) c=some (.tup xs):=λc xs e=>by rw[b6 (gk e C4 (by intro z;cases z))];exact e
   refine⟨_,_,rfl,(Lu.trans e4).new (CV _ (GM dH)),by rw[b6 Lw];exact e4 _ _ Ls,by rw[b6 Lv];exact e4 _ _ nX,(wR.keep λ_ _ e=>e4 _ _ e).keep Lx,?_,λj bw bF e=>?_⟩
   .have Ly:(λj=>(λj=>kc ag.belts k j++(if((b.giver.toNat:Nat):Int)=j then[(b.taker,(k:Int),true)] else[])) j++(if((b.taker.toNat:Nat):Int)=j then[(b.giver,(k:Int),false)] else[]))=kc ag.belts (k+1):=by
     funext j
     rw[Lp j,eh,dL]
    rw[Ly] at C5;exact C5
   .by_cases z:j=b.taker.toNat
    .subst z;rw[Ze] at e;cases e;have:=wS _ dH _ q6;simp;omega
    .have ne:cp[j]≠cp[b.taker.toNat]:=λy=>z (qT eI bw dH y);rw[b6 ne] at e;obtain⟨C1,ak,_⟩:=wQ j bw;have:=e4 _ _ ak;rw[e] at this;cases this;have:=wS j bw _ ak;omega
  .rintro af bW ⟨a1,a2,rfl,b2,kh,eX,ej,rb,hsz⟩;rw[eJ] at rb;nofun;exact q r cp bW fy b2 ⟨eX,cm,eI,rb⟩
inductive C6(T:Tp K mg)(vs:List V)(H:Hp)(Q:VK)(cP:XK):Prop
 |mk (r:Addr) (cp:List Addr) (n:Nat) (W:Int->List Fo.Trip) (first:Int) (cQ:vs=[.ref r,.int first]) (cE:Zcp H r cp n W) (cJ:n<=1000) (dq:(∀a,∀t∈W a,0<=t.1/\t.1<(n:Int))) (d2:0<=first) (em:first<(n:Int)) (e2:∀(d:Addr)(ae:Hp)(bV:Fo.ZX),H d=none->Zd H ae->VT ae d bV->Fo.Wm W first bV->Fo.U0 W bV bV.length->Q (.ref d) ae):C6 T vs H Q cP
theorem Lz:OkN P w base 1 T.aU (C6 T):=by
 refine T.aU.F.okX lN (λvs H Q E h=>?_) (λcz A outer s H vs Q E ap h=>?_)
 .obtain⟨r,cp,n,W,first,rfl,_⟩:=h
  rfl
 .have hu:=ap.hu;obtain⟨r,cp,n,W,first,rfl,hw,bH,pe,dR,f1,q⟩:=h;have cm:=hw.len;refine⟨_,(bI (cy (i:=2) lN.nd rfl (Or.inl rfl) (Hg (He (pv 1) WJ ZmR) rfl rfl (by simp) (by decide)))
     (bI (cy (i:=3) lN.nd rfl (Or.inl rfl) (gX (bq (pv 1) bA)))
     (bI (cy (i:=4) lN.nd rfl (Or.inl rfl) b8)
     (bI (pQ PassesOwn.leaving (dk l9 (pv 4) (dt (eW K) (by rfl) T.f qao (bq (pv 3) bA)) (ds _)) (bI (cy (i:=5) lN.nd rfl (Or.inl rfl) (ci (ixk K) (pv 3) (pv 4) (λ_ _=>rfl)))
     (bI (Gg (i:=4) lN.nd rfl (Or.inl rfl) b8 y9)
     (bZ (eo PassesOwn.leaving rfl (ez (K:=K) rfl (ci (ixk K) (pv 0) (pv 5) (λ_ _=>rfl))) (ik (K:=K) (n:=3) rfl rfl (eG (cI (i:=6) lN.nd rfl (Or.inl rfl)) (eG (cI (i:=7) lN.nd rfl (Or.inl rfl)) (eG (cI (i:=8) lN.nd rfl (Or.inl rfl)) h9)))) (bZ (dQ (dk (oN hu) (pv 6) (pv 2) (by with_unfolding_all rfl)) (bI (hM (hR (bq (pv 5) (bq (pv 7) (bq (pv 8) bA)))) (hL (pv 2) (pv 6) (ml hu)))
     (bZ (eF (fv (K:=K) rfl qai qaq qar g0 (pv 3) (bq (pv 6) bA))))) dX)))))))
     (bZ (cW (pv 2))))))),?_⟩
  walk_at "a"
  nofun;intro d hd;dsimp only[se];nofun;refine⟨Ze,[(Sum.inl first,.non)],rfl,by simp,?_⟩;have pf:(upd (upd H d (.dK [])) d (.dK (gq [] [(Sum.inl first,.non)]))) d=some (.dK [(Sum.inl first,.non)]):=Ze;have bu:Zd H (upd (upd H d (.dK [])) d (.dK (gq [] [(Sum.inl first,.non)]))):=(cO hd).new hd;generalize upd (upd H d (.dK [])) d (.dK (gq [] [(Sum.inl first,.non)]))=a_ at*;nofun;refine(λc bv=>?_);have bM:Zd a_ (upd a_ c (.lst [V.int first])):=cO bv;have j0:(upd a_ c (.lst [V.int first])) c=some (.lst ((Fo.keys [(first,none)]).map V.int)):=Ze;have gI:=bM _ _ pf;have kX:H c=none:=ei bu bv;have C7:c≠d:=λz=>by rw[z,pf] at bv;cases bv
  generalize upd a_ c (.lst [V.int first])=bt at*;have f5:=bu.trans bM;have eR:VT bt d [(first,none)]:=⟨_,gI,.cons ⟨rfl,rfl⟩ .nil⟩;clear pf gI bu bM bv;nofun;refine Zc0 (λm af ae=>∃(bV:Fo.ZX)(d7:Nat)(a1 a2 a3 a4:Option V),af=[some (.ref r),some (.int first),some (.ref d),some (.ref c),some (.int d7),a1,a2,a3,a4]/\Zd H ae/\VT ae d bV/\ae c=some (.lst ((Fo.keys bV).map V.int))/\d7<=bV.length/\Fo.Wm W first bV/\Fo.U0 W bV d7/\m=n+1-d7) (n+1)
   ⟨[(first,none)],0,_,_,_,_,rfl,f5,eR,j0,qat _,Fo.Zkr,λj w s bw=>absurd bw (qa3 _),rfl⟩ ?_
  rintro m af b7 ⟨bV,d7,a1,a2,a3,a4,rfl,bR,gC,nY,ph,bG,jL,rfl⟩;have gw:((Fo.keys bV).map V.int).length=bV.length:=by simp[Fo.keys]
  have LA:bV.length<=n:=by
   have:=Fo.Zbi (n:=n) bG.nodup (bG.rg ⟨dR,f1⟩ pe);simpa[Fo.keys] using this
  nofun;rw[gw];refine Rd.ifD (λz=>?_) (λz=>?_)
  .have lL:d7<bV.length:=by omega
   obtain⟨⟨w,st⟩,gp⟩:∃x,bV[d7]? =some x:=⟨bV[d7],GT lL⟩;have LB:=Fo.ZdW gp;obtain⟨e8,f8⟩:=bG.rg ⟨dR,f1⟩ pe w LB;have gB:atI ((Fo.keys bV).map V.int) (d7:Int)=some (.int w):=gJ (by rw[qak];unfold Fo.keys;rw[qak,gp];rfl);have ht:w.toNat<cp.length:=by omega
   have SJ:=Zfe e8 ht;have wT:=hw.same bR;have LC:=wT.at_;obtain⟨vs,rc,nW⟩:=hw.wa w.toNat ht;rw[qas e8] at nW;have SK:=bR _ _ rc;have qJ:=nW.length;refine Zet ?_;nofun;refine⟨_,rfl,?_⟩;nofun;refine Ya (ey (SqL.of rc)) (λj af ae=>∃(bV:Fo.ZX)(a2 a3 a4:Option V),af=[some (.ref r),some (.int first),some (.ref d),some (.ref c),some (.int (d7+1)),some (.int w),a2,a3,a4]/\Zd H ae/\VT ae d bV/\ae c=some (.lst ((Fo.keys bV).map V.int))/\Fo.Wm W first bV/\Fo.U0 W bV d7/\bV[d7]? =some (w,st)/\∀t∈(W w).take j,t.1∈Fo.keys bV)
    ⟨bV,_,_,_,rfl,bR,gC,nY,bG,jL,gp,by simp⟩ (λj af ae ⟨_,_,_,_,_,s,_⟩=>s) ?_ ?_
   .rintro j af bW bw ⟨bV,a2,a3,a4,rfl,b2,⟨kvs,hI,jw⟩,ha,bG,jL,gp,jC⟩;have hC:j<(W w).length:=by omega
    obtain⟨t,fH,g_⟩:=nW.at (GT hC);have c0:vs.getD j .non= .ref t:=by simp[List.getD,fH]
    rw[c0];have j_:(W w)[j]∈W w:=GM hC;have eZ:(W w).take (j+1)=(W w).take j++ [(W w)[j]]:=qad hC;have nZ:=b2 _ _ g_;have SM:=pe w _ j_;generalize (W w)[j]=x at*;obtain⟨o,b,al⟩:=x;refine Rd.V3 (.of nZ) rfl ?_;dsimp only at*;have LA:bV.length<=n:=by
     have:=Fo.Zbi (n:=n) bG.nodup (bG.rg ⟨dR,f1⟩ pe);simpa[Fo.keys] using this
    have jx:kvs.length<sizeLine:=dm (by rw[jw.length];omega);have tu:((Fo.keys bV).map V.int).length<sizeLine:=dm (by simp[Fo.keys];omega);nofun;have hs:=jw.some (w:=o)
    by_cases bJ:o∈Fo.keys bV
    .rw[hs.mpr bJ];nofun;refine⟨bV,_,_,_,rfl,b2,⟨kvs,hI,jw⟩,ha,bG,jL,gp,?_⟩;rw[eZ];intro t' s8;rcases qaI.mp s8 with y|y
     .exact jC t' y
     .rw[qac.mp y];exact bJ
    .have ic:valV kvs (Sum.inl o)=none:=by
      cases e:valV kvs (Sum.inl o) with
      |none=>rfl
      |some v=>exact absurd (hs.mp (by rw[e];rfl)) bJ
     rw[ic,Option.isSome_none];nofun;refine⟨by show 3<=sizeLine;decide,λdE eR=>?_⟩;have cs:Zd bW (upd bW dE (.tup [.int w,.int b,.bl al])):=cO eR;have LD:(upd bW dE (.tup [.int w,.int b,.bl al])) dE=some (.tup [.int w,.int b,.bl al]):=Ze;have kY:=cs _ _ hI;have rd:=cs _ _ ha;have LF:Ent (upd bW dE (.tup [.int w,.int b,.bl al])) kvs bV:=jw.keep λ_ _ e=>cs _ _ e;generalize upd bW dE (.tup [.int w,.int b,.bl al])=b0 at*;nofun;rw[V7 _ ic];have re:∀a xs,b0 a=some (.tup xs)->(upd b0 d (.dK (kvs++ [(Sum.inl o,.ref dE)]))) a=some (.tup xs):=λa xs e=>by rw[b6 (gk e kY (by intro z;cases z))];exact e
     have tr:(upd b0 d (.dK (kvs++ [(Sum.inl o,.ref dE)]))) c=some (.lst ((Fo.keys bV).map V.int)):=by rw[b6 C7];exact rd
     have lU:(upd b0 d (.dK (kvs++ [(Sum.inl o,.ref dE)]))) d=some (.dK (kvs++ [(Sum.inl o,.ref dE)])):=Ze;have wU:=(LF.keep re).snoc (w:=o) (v:= .ref dE) (s:=some (w,b,al)) ⟨dE,rfl,re _ _ LD⟩;have dY:Zd H (upd b0 d (.dK (kvs++ [(Sum.inl o,.ref dE)]))):=(b2.trans cs).new hd;generalize upd b0 d (.dK (kvs++ [(Sum.inl o,.ref dE)]))=c9 at*;nofun;have C8:=(qaa.mp gp).1;refine⟨bV++ [(o,some (w,b,al))],_,_,_,rfl,dY.new kX,⟨_,by rw[b6 C7.symm];exact lU,wU.keep λa xs e=>by rw[b6 (gk e tr (by intro z;cases z))];exact e⟩,?_,bG.snoc gp j_ bJ,jL.snoc (by omega) _ _,Fo.Zda gp,?_⟩
     .rw[Ze,Fo.ZaL,qaG];rfl
     .rw[eZ,Fo.ZaL];intro t' s8;rcases qaI.mp s8 with y|y
      .exact qbv _ (jC t' y)
      .rw[qac.mp y];exact qay _ (qac.mpr rfl)
   .rintro af bW ⟨bV,a2,a3,a4,rfl,b2,g_,ha,bG,jL,gp,jC⟩;rw[<-qJ,qaD] at jC;have C8:=(qaa.mp gp).1;nofun;exact⟨n+1-(d7+1),by omega,bV,d7+1,_,_,_,_,rfl,b2,g_,ha,C8,bG,jL.next gp jC,rfl⟩
  .have e:d7=bV.length:=by omega
   subst e;nofun;exact q d b7 bV hd bR gC bG jL
inductive C9(vs:List V)(H:Hp)(Q:VK)(cP:XK):Prop
 |mk (p:Addr) (ag:HM) (fp:List Addr) (cQ:vs=[.ref p]) (cE:dg T H p ag fp) (cJ:ag.names.length<=60) (dq:ag.belts.length<=1000) (d2:ZB ag.belts ag.names.length) (em:∀(f:Addr)(ck:List Addr)(ae:Hp)(F:List (Int×Fo.ZX)),H f=none->Zd H ae->ZlS ae f ck F->(∀d∈ck,H d=none)->Fo.VQ (fF ag.belts) ag.names.length F ag.names.length->F.length<=ag.names.length->Q (.ref f) ae):C9 vs H Q cP
theorem LG:OkN P w base 3 T.aV (C9 T):=by
 refine T.aV.F.okX oW (λvs H Q E h=>?_) (λcz A outer s H vs Q E ap h=>?_)
 .obtain⟨p,ag,fp,rfl,_⟩:=h
  rfl
 .have hu:=ap.hu;obtain⟨p,ag,fp,rfl,b4,bH,hz,cf,q⟩:=h;refine⟨_,(bI (cy (i:=1) oW.nd rfl (Or.inl rfl) (c6 T.aT (Ln T) ap cw (bq (pv 0) bA)))
     (bI (cy (i:=2) oW.nd rfl (Or.inl rfl) na)
     (bI (cy (i:=3) oW.nd rfl (Or.inl rfl) (gX bA))
     (bI (eo PassesOwn.leaving rfl (hc rfl T.g (bq (dt (eW K) (by rfl) T.f qao (bq (pv 1) bA)) bA)) (cI (i:=4) oW.nd rfl (Or.inl rfl)) (bZ (dQ (dk (oN hu) (pv 4) (pv 2) (by with_unfolding_all rfl)) (bI (cy (i:=5) oW.nd rfl (Or.inl rfl) (c6 T.aU (Lz T) ap cw (bq (pv 1) (bq (pv 4) bA))))
     (bI (eF (fv (K:=K) rfl qbh PySem.F.slot_dict_update PySem.F.type_dict_update H1 (pv 2) (bq (pv 5) bA)))
     (bZ (eF (fv (K:=K) rfl qai qaq qar g0 (pv 3) (bq (pv 5) bA)))))) dX)))
     (bZ (cW (pv 3))))))),?_⟩
  walk_at "a"
  nofun;refine⟨p,ag,fp,rfl,b4,by omega,hz,cf,λr cp a_ ap bu kZ=>?_⟩;nofun;intro f4 hse;have bM:Zd a_ (upd a_ f4 (.dK [])):=cO hse;have jZ:(upd a_ f4 (.dK [])) f4=some (.dK []):=Ze;have SN:H f4=none:=ei bu hse;generalize upd a_ f4 (.dK [])=bt at*;nofun;refine⟨qat _,λf bN=>?_⟩;have bR:Zd bt (upd bt f (.lst [])):=cO bN;have k4:(upd bt f (.lst [])) f=some (.lst (([]:List Addr).map V.ref)):=Ze;have LH:=bR _ _ jZ;have lV:a_ f=none:=ei bM bN;have C_:H f=none:=ei bu lV;generalize upd bt f (.lst [])=b7 at*;have i4:=bM.trans bR;have wT:=kZ.same i4;have LC:=wT.at_;have ht:((cp.map V.ref).length:Int)=(ag.names.length:Int):=by rw[GE,kZ.len]
  nofun;rw[ht];refine Vw (n:=ag.names.length) (λi af ae=>∃(kvs:List (Key×V))(ck:List Addr)(F:List (Int×Fo.ZX))(a1 a2:Option V),af=[some (.ref p),some (.ref r),some (.ref f4),some (.ref f),a1,a2]/\Zd a_ ae/\ae f4=some (.dK kvs)/\ae f=some (.lst (ck.map V.ref))/\hk ae ck F/\
   (∀d∈ck,d≠f4/\H d=none)/\kvs.length<=60*i/\(∀w:Int,(valV kvs (Sum.inl w)).isSome=true↔∃x∈F,w∈Fo.keys x.2)/\Fo.VQ (fF ag.belts) ag.names.length F i/\F.length<=i)
   ⟨[],[],[],_,_,rfl,i4,LH,k4,.nil,by simp,qat _,λw=>⟨λz=>(by cases z),λ⟨x,bp,_⟩=>(by cases bp)⟩,Fo.ZlK,qab _⟩ ?_ ?_
  .rintro i af bW hi ⟨kvs,ck,F,a1,a2,rfl,b2,tv,pi,ej,jB,gw,ea,fw,wV⟩;rw[qaV];nofun;have hs:=ea (i:Int)
   by_cases bp:∃x∈F,(i:Int)∈Fo.keys x.2
   .rw[hs.mpr bp];nofun;exact⟨kvs,ck,F,_,_,rfl,b2,tv,pi,ej,jB,by omega,ea,fw.skip bp,by omega⟩
   .have ic:(valV kvs (Sum.inl (i:Int))).isSome=false:=by
     cases e:(valV kvs (Sum.inl (i:Int))).isSome with
     |false=>rfl
     |true=>exact absurd (hs.mp e) bp
    rw[ic];nofun;refine⟨r,cp,ag.names.length,fF ag.belts,(i:Int),rfl,kZ.same b2,by omega,o0 cf,by omega,by omega,λd b0 bV k6 cs nZ bG jL=>?_⟩;obtain⟨more,kY,jw⟩:=id nZ;have wW:f4≠d:=c3 tv k6;have rf:=cs _ _ tv;have tw:=cs _ _ pi;have rh:=ej.same cs;have LI:=bG.rg (n:=(ag.names.length:Int)) ⟨by omega,by omega⟩ (o0 cf);have s4:bV.length<=ag.names.length:=by
     have:=Fo.Zbi (n:=ag.names.length) bG.nodup LI;simpa[Fo.keys] using this
    have hW:more.length<=60:=by rw[jw.length];omega
    nofun;refine⟨.inr (.inr (.inl ⟨rfl,.inl ⟨_,rf⟩⟩)),?_⟩;nofun;refine Rd.Zpw wW rf kY (qbt (v' (by omega))) ?_;have LJ:=BF more kvs;have h4:=sf more kvs;have re:∀a xs,b0 a=some (.tup xs)->(upd b0 f4 (.dK (gq kvs more))) a=some (.tup xs):=λa xs e=>by rw[b6 (gk e rf (by intro z;cases z))];exact e
    have LK:(upd b0 f4 (.dK (gq kvs more))) f4=some (.dK (gq kvs more)):=Ze;have C':(upd b0 f4 (.dK (gq kvs more))) f=some (.lst (ck.map V.ref)):=by rw[b6 (gk tw rf (by intro z;cases z))];exact tw
    have lU:VT (upd b0 f4 (.dK (gq kvs more))) d bV:=⟨more,by rw[b6 wW.symm];exact kY,jw.keep re⟩;have nU:hk (upd b0 f4 (.dK (gq kvs more))) ck F:=rh.keep re (λd' hK b5 e=>by rw[b6 (jB d' hK).1];exact e);have dY:Zd a_ (upd b0 f4 (.dK (gq kvs more))):=(b2.trans cs).new hse;generalize upd b0 f4 (.dK (gq kvs more))=c9 at*;have Db:(ck.map V.ref).length<sizeLine:=dm (by rw[GE,ej.length];omega);nofun;have lT:∀a xs,c9 a=some (.tup xs)->(upd c9 f (.lst (ck.map V.ref++ [.ref d]))) a=some (.tup xs):=λa xs e=>by rw[b6 (gk e C' (by intro z;cases z))];exact e
    have wX:∀a b5,c9 a=some (.dK b5)->(upd c9 f (.lst (ck.map V.ref++ [.ref d]))) a=some (.dK b5):=λa b5 e=>by rw[b6 (gk e C' (by intro z;cases z))];exact e
    obtain⟨LM,LN,wU⟩:=lU;refine⟨gq kvs more,ck++ [d],F++ [((i:Int),bV)],_,_,rfl,dY.new lV,wX _ _ LK,by rw[Ze,qaG];rfl,(nU.keep lT λd' _ b5 e=>wX _ _ e).snoc ⟨LM,wX _ _ LN,wU.keep lT⟩,λd' hK=>?_,by omega,λw=>?_,fw.grow (s1 _) (o0 cf) hi (λx jk br=>bp ⟨x,jk,br⟩) bG jL,by simp;omega⟩
    .rcases qaI.mp hK with z|z
     .exact jB d' z
     .rw[qac.mp z];exact⟨wW.symm,ei (bu.trans b2) k6⟩
    .rw[LJ,Bool.or_eq_true,ea w,jw.some]
     constructor
     .rintro(⟨x,wY,jJ⟩|z)
      .exact⟨x,qbv _ wY,jJ⟩
      .exact⟨_,qay _ (qac.mpr rfl),z⟩
     .rintro⟨x,wY,jJ⟩;rcases qaI.mp wY with z|z
      .exact .inl ⟨x,z,jJ⟩
      .rw[qac.mp z] at jJ;exact .inr jJ
  .rintro af bW ⟨kvs,ck,F,a1,a2,rfl,b2,tv,pi,ej,jB,gw,ea,fw,wV⟩;nofun;exact q f ck bW F C_ (bu.trans b2) ⟨pi,ej⟩ (λd hd=>(jB d hd).2) fw wV
inductive Zaf(T:Tp K mg)(vs:List V)(H:Hp)(Q:VK)(cP:XK):Prop
 |mk (a b:Nat) (cQ:vs=[.int a,.int b]) (cE:Q (.int (Nat.gcd a b:Nat)) H):Zaf T vs H Q cP
theorem Zjc{T:Tp K mg}{H:Hp}{Q:VK}{E:XK}{a b:Nat}(q:Q (.int (Nat.gcd a b:Nat)) H):Zaf T ([.int a,.int b]++ []) H Q E:=⟨a,b,rfl,q⟩
local macro_rules| `(tactic|walk_at "rd")=>`(tactic|first|((with_reducible show Nm.Zaf _ _ _ _ _);with_reducible refine Nm.Zjc ?_)|fail "none here")
theorem wZ:OkN P w base 1 T.au (Zaf T):=by
 refine T.au.F.okX sV (λvs H Q E h=>?_) (λcz A outer s H vs Q E ap h=>?_)
 .obtain⟨a,b,rfl,_⟩:=h
  rfl
 .have hu:=ap.hu;obtain⟨a0,c2,rfl,q⟩:=h;rw[<-My.ZeJ] at q;refine⟨_,(bI (pQ PassesOwn.leaving (dk ou (pv 1) b8 (ds _)) (bI (cy (i:=2) sV.nd rfl (Or.inl rfl) (cK fT (pv 0) (pv 1)))
     (bI (cy (i:=0) sV.nd rfl (Or.inl rfl) (pv 1))
     (bZ (cy (i:=1) sV.nd rfl (Or.inl rfl) (pv 2))))))
     (bZ (cW (pv 0)))),?_⟩
  walk_at "a"
  walk_at "rd";refine Zc0 (λm af ae=>ae=H/\∃(x y:Int)(r:Option V),m=y.toNat/\af=[some (.int x),some (.int y),r]/\0<=x/\0<=y/\My.G x y=My.G a0 c2) _ ⟨rfl,a0,c2,none,rfl,rfl,by omega,by omega,rfl⟩ ?_;rintro m af ae ⟨rfl,x,y,r,rfl,rfl,bp,bO,fZ⟩;nofun;refine V4 (λc=>Zet ?_) (λc=>?_)
  .have iu:0<y:=of_decide_eq_true c;nofun;exact⟨_,(by have:=qbb x (show y≠0 by omega);have:=qa9 x iu;omega),rfl,y,x % y,some (.int (x % y)),rfl,rfl,bO,qbb x (by omega),(BE bp iu).trans fZ⟩
  .have iu:¬0<y:=λz=>c (decide_eq_true z);have e:x=My.G a0 c2:=by rw[<-fZ,My.Zkf bp (show y=0 by omega)]
   nofun;rw[e];exact q
inductive Dc(T:Tp K mg)(vs:List V)(H:Hp)(Q:VK)(cP:XK):Prop
 |mk (a b:Nat) (cQ:vs=[.int a,.int b]) (cE:0<b) (cJ:b<2 ^ 8000) (dq:∀(p:Addr)(ae:Hp),H p=none->Zd H ae->ae p=some (.tup [.int (a / Nat.gcd a b:Nat),.int (b / Nat.gcd a b:Nat)])->Q (.ref p) ae):Dc T vs H Q cP
theorem w0:OkN P w base 2 T.av (Dc T):=by
 refine T.av.F.okX By (λvs H Q E h=>?_) (λcz A outer s H vs Q E ap h=>?_)
 .obtain⟨a,b,rfl,_⟩:=h
  rfl
 .have hu:=ap.hu;obtain⟨a,b,rfl,c2,eE,q⟩:=h;have o2:0<Nat.gcd a b:=qcc _ c2;have fz:Nat.gcd a b<2 ^ 8000:=qaO (qbE c2 (qa6 a b)) eE;have LO:=ZlP (a:=a) o2 fz;refine⟨_,(bI (cy (i:=2) By.nd rfl (Or.inl rfl) (c6 T.au (wZ T) ap cw (bq (pv 0) (bq (pv 1) bA))))
     (bZ (cW (hR (bq (cK gK (pv 0) (pv 2)) (bq (cK gK (pv 1) (pv 2)) bA)))))),?_⟩
  walk_at "a"
  nofun;refine⟨by show 2<=sizeLine;decide,λp bB=>?_⟩;exact q p _ bB (cO bB) Ze
inductive Dd(T:Tp K mg)(vs:List V)(H:Hp)(Q:VK)(cP:XK):Prop
 |mk (p q:Addr) (x y u v n m:Nat) (cQ:vs=[.ref p,.ref q]) (cE:H p=some (.tup [.int x,.int y])) (cJ:H q=some (.tup [.int u,.int v])) (dq:0<y) (d2:0<v) (em:x<2 ^ n) (e2:y<2 ^ n) (fx:u<2 ^ m) (h2:v<2 ^ m) (jN:n+m<=8000) (kg:∀(r:Addr)(ae:Hp),H r=none->Zd H ae->ae r=some (.tup [.int (x*u / Nat.gcd (x*u) (y*v):Nat),.int (y*v / Nat.gcd (x*u) (y*v):Nat)])->Q (.ref r) ae):Dd T vs H Q cP
theorem LP:OkN P w base 3 T.aW (Dd T):=by
 refine T.aW.F.okX Jz (λvs H Q E h=>?_) (λcz A outer s H vs Q E ap h=>?_)
 .obtain⟨p,q,x,y,u,v,n,m,rfl,_⟩:=h
  rfl
 .have hu:=ap.hu;obtain⟨p,q,x,y,u,v,n,m,rfl,ak,a',ke,kN,xs,ys,us,tx,nm,k⟩:=h;have fJ:=Zcv xs us (by omega);have gl:=Zcv ys tx (by omega);refine⟨_,(bZ (cW (c6 T.av (w0 T) ap cw (bq (cK gL (ci (ixk K) (pv 0) b8 (λ_ _=>rfl)) (ci (ixk K) (pv 1) b8 (λ_ _=>rfl))) (bq (cK gL (ci (ixk K) (pv 0) b8 (λ_ _=>rfl)) (ci (ixk K) (pv 1) b8 (λ_ _=>rfl))) bA))))),?_⟩
  walk_at "a"
  nofun;exact⟨x*u,y*v,rfl,qcv ke kN,qag (qU ys tx) (qaH (by decide) nm),k⟩
structure Zo6(b:B5)(cX b1:Nat):Prop where
 g:b.give=(cX:Int)
 t:b.take=(b1:Int)
 dS:0<cX
 fN:0<b1
 fz:cX<2 ^ 110
 dH:b1<2 ^ 110
inductive De(T:Tp K mg)(vs:List V)(H:Hp)(Q:VK)(cP:XK):Prop
 |mk (t:Addr) (b:B5) (al:Bool) (cX b1:Nat) (cQ:vs=[.ref t,.bl al]) (cE:H t=some (.tup b.v)) (cJ:Zo6 b cX b1) (dq:∀(p:Addr)(ae:Hp)(x y:Nat),H p=none->Zd H ae->ae p=some (.tup [.int x,.int y])->(if al=true then x=cX / Nat.gcd cX b1/\y=b1 / Nat.gcd cX b1 else x=b1 / Nat.gcd b1 cX/\y=cX / Nat.gcd b1 cX)->Q (.ref p) ae):De T vs H Q cP
theorem LQ:OkN P w base 3 T.aX (De T):=by
 refine T.aX.F.okX JA (λvs H Q E h=>?_) (λcz A outer s H vs Q E ap h=>?_)
 .obtain⟨t,b,al,cX,b1,rfl,_⟩:=h
  rfl
 .have hu:=ap.hu;obtain⟨t,b,al,cX,b1,rfl,bX,sz,q⟩:=h;obtain⟨g,rj,dS,fN,fz,dH⟩:=sz;dsimp only[B5.v] at bX;rw[g,rj] at bX;have big:(2:Nat) ^ 110<=2 ^ 8000:=qaH (by decide) (by decide);refine⟨_,(bZ (cW (Gd (gO (K:=K) rfl (pv 1) (λ_=>rfl)) (c6 T.av (w0 T) ap cw (bq (ci (ixk K) (pv 0) b8 (λ_ _=>rfl)) (bq (ci (ixk K) (pv 0) b8 (λ_ _=>rfl)) bA))) (c6 T.av (w0 T) ap cw (bq (ci (ixk K) (pv 0) b8 (λ_ _=>rfl)) (bq (ci (ixk K) (pv 0) b8 (λ_ _=>rfl)) bA)))))),?_⟩
  walk_at "a"
  nofun;unfold tIf;nofun;cases al with
  |true=>
   nofun;exact⟨cX,b1,rfl,fN,qag dH big,λp ae bB s h=>q p ae _ _ bB s h ⟨rfl,rfl⟩⟩
  |false=>
   nofun;exact⟨b1,cX,rfl,dS,qag fz big,λp ae bB s h=>q p ae _ _ bB s h ⟨rfl,rfl⟩⟩
inductive Df(vs:List V)(H:Hp)(Q:VK)(E:XK):Prop
 |mk (p:Addr) (i:Int) (ag:HM) (fp:List Addr) (cQ:vs=[.ref p,.int i]) (cE:dg T H p ag fp) (cJ:(¬(0<=i/\i<ag.belts.length)->E (.ref T.S) none H)) (dq:(0<=i->i<ag.belts.length->Q .non H)):Df vs H Q E
theorem LR:OkM P w mg base 4 T.aY (Df T):=by
 have fq:=T.a;have fr:=T.e;refine T.aY.F.okX JB (λvs H Q E h=>?_) (λcz A outer s H vs Q E ap h=>?_)
 .obtain⟨p,i,ag,fp,rfl,_⟩:=h
  rfl
 .have hu:=ap.hu;obtain⟨p,i,ag,fp,rfl,b4,bE,q⟩:=h;obtain⟨bx,a,b,bs,rfl,ak,a',bL,cu,gD,da⟩:=id b4;refine⟨_,(bZ (dQ (hn (gO (K:=K) rfl (c6 T.ar (wA T) ap cw (bq (pv 1) (bq (dt (eW K) (by rfl) T.f qao (bq (eB (K:=K) rfl (pv 0) rfl) bA)) bA))) (λ_=>rfl))) (bZ (jF T.T.g T.T.e qaE rfl (bq Wh bA))) dX)),?_⟩
  walk_at "a"
  nofun;rw[da.length]
  by_cases c:0<=i/\i<ag.belts.length
  .rw[decide_eq_true c];nofun;exact q c.1 c.2
  .rw[decide_eq_false c];nofun;exact bE c
inductive Dg(vs:List V)(H:Hp)(Q:VK)(E:XK):Prop
 |mk (p:Addr) (i:Int) (ag:HM) (fp:List Addr) (cQ:vs=[.ref p,.int i]) (cE:dg T H p ag fp) (cJ:(¬(0<=i/\i<ag.belts.length)->E (.ref T.S) none H)) (dq:(0<=i->i<ag.belts.length->∀(t:Addr)(b:B5),ag.belts[i.toNat]? =some b->H t=some (.tup b.v)->Q (.ref t) H)):Dg vs H Q E
theorem tz:OkM P w mg base 5 T.am (Dg T):=by
 have fq:=T.a;have fr:=T.e;refine T.am.F.okX JC (λvs H Q E h=>?_) (λcz A outer s H vs Q E ap h=>?_)
 .obtain⟨p,i,ag,fp,rfl,_⟩:=h
  rfl
 .have hu:=ap.hu;obtain⟨p,i,ag,fp,rfl,b4,bE,q⟩:=h;obtain⟨bx,a,b,bs,rfl,ak,a',bL,cu,gD,da⟩:=id b4;refine⟨_,(bI (eF (fk (pv 0) T.a T.aY (LR T) ap cw (bq (pv 1) bA)))
     (bZ (cW (ci (ixk K) (eB (K:=K) rfl (pv 0) rfl) (pv 1) (λ_ _=>rfl))))),?_⟩
  walk_at "a"
  nofun;refine⟨p,i,ag,_,rfl,b4,bE,λi0 hp=>?_⟩;have hi:i.toNat<ag.belts.length:=by omega
  have f0:=GT hi;obtain⟨t,fH,eR⟩:=da.at f0;have gB:atI bs i=some (.ref t):=by
   have:=gJ fH
   rwa [qas i0] at this
  nofun;exact q i0 hp t _ f0 eR
inductive Dh(vs:List V)(H:Hp)(Q:VK)(cP:XK):Prop
 |mk (p d:Addr) (ag:HM) (fp:List Addr) (kvs:List (Key×V)) (bV:Fo.ZX) (first:Int) (cQ:vs=[.ref p,.ref d]) (cE:dg T H p ag fp) (cJ:d∉fp) (dq:L2.Rd H d (.dK kvs)) (d2:Ent H kvs bV) (em:Fo.Wm (fF ag.belts) first bV) (e2:bV.length<=60) (fx:Yx ag.belts) (h2:∀(e:Addr)(o:Obj)(ae:Hp)(ek:List (Key×V))(zs:List (Int×(Nat×Nat))),H e=none->Zd (upd H d (.frz o (.dK kvs))) ae->ae e=some (.dK ek)->ShE ae ek zs->jp ag.belts bV zs bV.length->Q (.ref e) ae):Dh vs H Q cP
theorem LS:OkN P w base 6 T.aZ (Dh T):=by
 have fq:=T.a;have fr:=T.e;refine T.aZ.F.okX sW (λvs H Q E h=>?_) (λcz A outer s H vs Q E ap h=>?_)
 .obtain⟨p,d,ag,fp,kvs,bV,first,rfl,_⟩:=h
  rfl
 .have hu:=ap.hu;obtain⟨p,d,ag,fp,kvs,bV,first,rfl,b4,LU,hd,jw,bG,s4,hsz,q⟩:=h;have gw:=jw.length;refine⟨_,(bI (cy (i:=2) sW.nd rfl (Or.inl rfl) na)
     (bI (eo PassesOwn.leaving rfl (Af (pv 1)) (ik (K:=K) (n:=2) rfl rfl (eG (cI (i:=3) sW.nd rfl (Or.inl rfl)) (eG (cI (i:=4) sW.nd rfl (Or.inl rfl)) h9))) (bZ (dQ (dk ov (pv 4) WJ (ds _)) (bZ (hM (hR (bq b8 (bq b8 bA))) (hL (pv 2) (pv 3) (ml hu)))) (bZ (hM (c6 T.aW (LP T) ap cw (bq (ci (nt hu) (pv 2) (ci (ixk K) (pv 4) b8 (λ_ _=>rfl)) (λ_ _=>rfl)) (bq (c6 T.aX (LQ T) ap cw (bq (fk (pv 0) T.a T.am (tz T) ap cw (bq (ci (ixk K) (pv 4) b8 (λ_ _=>rfl)) bA)) (bq (ci (ixk K) (pv 4) b8 (λ_ _=>rfl)) bA))) bA))) (hL (pv 2) (pv 3) (ml hu)))))))
     (bZ (cW (pv 2))))),?_⟩
  walk_at "a"
  nofun;intro e bK;have kk:d≠e:=λz=>Zfh hd (by rw[z];exact bK);have bu:Zd H (upd H e (.dK [])):=cO bK;have mA:(upd H e (.dK [])) e=some (.dK []):=Ze;have pf:L2.Rd (upd H e (.dK [])) d (.dK kvs):=by
   rcases hd with h|⟨o,h⟩
   .exact .inl (bu _ _ h)
   .exact .inr ⟨o,bu _ _ h⟩
  generalize upd H e (.dK [])=a_ at*;nofun;refine Rd.Zj4 ?_;nofun;refine⟨d,kvs,rfl,pf,λo=>?_⟩;have w1:=qV (o:=o) hd;have gP:dg T (upd H d (.frz o (.dK kvs))) p ag fp:=b4.off w1 (λx bp z=>LU (by rw[<-qac.mp z];exact bp));have LV:Ent (upd H d (.frz o (.dK kvs))) kvs bV:=jw.keep w1.tups;have w2:(upd H d (.frz o (.dK kvs))) e=none:=by rw[b6 kk.symm];exact bK
  have bR:Zd (upd H d (.frz o (.dK kvs))) (upd a_ d (.frz o (.dK kvs))):=λb x c0=>by
   by_cases z:b=d
   .rw[z,Ze] at c0|-;exact c0
   .rw[b6 z] at c0|-;exact bu _ _ c0
  have n0:(upd H d (.frz o (.dK kvs))) d=some (.frz o (.dK kvs)):=Ze;have lW:(upd a_ d (.frz o (.dK kvs))) e=some (.dK []):=by rw[b6 kk.symm];exact mA
  have LW:=λae ek zs=>q e o ae ek zs bK;generalize upd a_ d (.frz o (.dK kvs))=bW at*;generalize upd H d (.frz o (.dK kvs))=b7 at*;clear q pf mA bu w1;refine Wp (Ag n0) (λi af ae=>∃(ek:List (Key×V))(zs:List (Int×(Nat×Nat)))(a1 a2:Option V),af=[some (.ref p),some (.ref d),some (.ref e),a1,a2]/\Zd b7 ae/\ae e=some (.dK ek)/\ShE ae ek zs/\jp ag.belts bV zs i/\ek.length<=i)
   ⟨[],[],_,_,rfl,bR,lW,.nil,J1,qab _⟩ (λi af ae ⟨_,_,_,_,_,s,_⟩=>s) ?_ ?_
  .rintro i af b0 v c9 hi ⟨ek,zs,a1,a2,rfl,cs,n1,ma,gE,qY⟩ ⟨t,kv,i5,bX,rfl,rfl⟩;obtain⟨w,st,rk,e1,eN⟩:=Zn9 LV i5;have cm:i<bV.length:=(qaa.mp rk).1;have we:=gE.len (qbt cm);have LX:w∉zs.map (·.1):=by
    rw[gE.keys];intro bz;obtain⟨j,bw,bP⟩:=qan bz;rw[qco] at bP;have hC:j<i:=by rw[qaC] at bw;omega
    have LY:j<(Fo.keys bV).length:=by rw[qaC] at bw;omega
    have Dj:i<(Fo.keys bV).length:=by simp[Fo.keys];exact cm
    have f0:(Fo.keys bV)[i]=w:=by
     have:(Fo.keys bV)[i]? =some w:=by unfold Fo.keys;rw[qak,rk];rfl
     rw[GT Dj] at this;exact qam this
    have:=qT bG.nodup LY Dj (bP.trans f0.symm);omega
   obtain⟨k,val⟩:=kv;dsimp only at e1 eN;subst e1;refine Rd.V3 (.of Ze) rfl ?_;have i6:Zd b0 (upd b0 t (.tup [kV (Sum.inl w),val])):=cO bX;have dY:=cs.trans i6;have Dk:=i6 _ _ n1;have tA:ShE (upd b0 t (.tup [kV (Sum.inl w),val])) ek zs:=ma.keep λ_ _ e=>i6 _ _ e;generalize upd b0 t (.tup [kV (Sum.inl w),val])=c9 at*;have w3:kV (Sum.inl w)= .int w:=rfl;rw[w3];have jx:ek.length<sizeLine:=dm (by omega);have ic:=tA.none LX;nofun;refine⟨rfl,?_⟩;cases st with
   |none=>
    have c4:val= .non:=eN;subst c4;nofun;refine⟨by show 2<=sizeLine;decide,λdE eR=>?_⟩;have fb:Zd c9 (upd c9 dE (.tup [.int 1,.int 1])):=cO eR;have hZ:(upd c9 dE (.tup [.int 1,.int 1])) dE=some (.tup [.int 1,.int 1]):=Ze;have w4:=fb _ _ Dk;have w5:ShE (upd c9 dE (.tup [.int 1,.int 1])) ek zs:=tA.keep λ_ _ e=>fb _ _ e;generalize upd c9 dE (.tup [.int 1,.int 1])=di at*;nofun;rw[V7 _ ic];have rl:∀a xs,di a=some (.tup xs)->(upd di e (.dK (ek++ [(Sum.inl w,.ref dE)]))) a=some (.tup xs):=λa xs dn=>by rw[b6 (gk dn w4 (by intro z;cases z))];exact dn
    refine⟨_,zs++ [(w,(1,1))],_,_,rfl,(dY.trans fb).new w2,Ze,(w5.keep rl).snoc (x:=(1,1)) (rl _ _ hZ),gE.more cm rk ⟨by decide,by decide,by decide⟩ ⟨?_,?_⟩ (λ_=>rfl) (λp b al z=>by cases z),by simp;omega⟩
    .exact qag (by decide:(1:Nat)<2 ^ 1) (qaH (by decide) (by omega))
    .exact qag (by decide:(1:Nat)<2 ^ 1) (qaH (by decide) (by omega))
   |some x=>
    obtain⟨tD,b,al⟩:=x;obtain⟨dE,c4,eR⟩:=eN;subst c4;have wP:=dY _ _ eR;obtain⟨LZ,j,SO,bw,L0⟩:=bG.steps i w tD b al rk;have g6:tD∈zs.map (·.1):=by
     rw[gE.keys];have br:(Fo.keys bV)[j]? =some tD:=by unfold Fo.keys;rw[qak,L0];rfl
     have:((Fo.keys bV).take i)[j]? =some tD:=by rw[List.getElem?_take,if_pos bw];exact br
     exact qav this
    obtain⟨y,ty,Dl,Ap,iJ⟩:=tA.get g6;obtain⟨tE,w6⟩:=qbj Dl;have hC:=(qaa.mp w6).1;obtain⟨ke,hY,o3⟩:=gE.pos _ Dl;obtain⟨tF,n2⟩:=gE.size tE _ w6;obtain⟨bi,qX,lX⟩:=UE LZ;have c0:b=(bi:Int):=by
     rw[Wb] at lX;rcases lX with⟨_,z⟩|⟨_,z⟩<;>(injection z with _ cJ;injection cJ)
    obtain⟨cX,b1,dS,fN,fz,dH,eh,dL⟩:=hsz bi qX;have pj:=gP.same dY;have L1:decide (V.ref dE=V.non)=false:=decide_eq_false (by intro z;cases z);rw[L1];nofun;refine⟨p,b,ag,fp,rfl,pj,λz=>absurd ⟨by omega,by omega⟩ z,λ_ _ cH B f_ L3=>?_⟩;have o8:ag.belts.getD bi dB=B:=by
     rw[c0,FM] at f_;simp[List.getD,f_]
    rw[o8] at eh dL;nofun;refine⟨cH,B,al,cX,b1,rfl,L3,⟨eh,dL,dS,fN,fz,dH⟩,λjl di u v gC fb hZ n3=>?_⟩;have bH:110*tE+1+110<=110*i+1:=by omega
    have L4:∃L5 G2 M,L5=Nat.gcd M G2/\True:=⟨_,0,0,rfl,trivial⟩;have e_:∃mD gm:Nat,0<mD/\0<gm/\mD<2 ^ 110/\gm<2 ^ 110/\u=mD / Nat.gcd mD gm/\v=gm / Nat.gcd mD gm/\(∀x:Nat×Nat,x.1*y.2*gm=y.1*x.2*mD->Bal B al x y):=by
     cases al with
     |true=>
      rw[if_pos rfl] at n3;refine⟨cX,b1,dS,fN,fz,dH,n3.1,n3.2,λx bp=>?_⟩;unfold Bal;rw[if_pos rfl,eh,dL,FM,FM];exact bp
     |false=>
      rw[if_neg (by decide)] at n3;refine⟨b1,cX,fN,dS,dH,fz,n3.1,n3.2,λx bp=>?_⟩;unfold Bal;rw[if_neg (by decide),eh,dL,FM,FM];exact bp
    clear n3 L4;obtain⟨mD,gm,Do,Dp,Dq,Dr,tG,c4,gS⟩:=e_;have w7:u<2 ^ 110:=by rw[tG];exact qaO (qba _ _) Dq
    have fA:v<2 ^ 110:=by rw[c4];exact qaO (qba _ _) Dr
    have kN:0<v:=by
     rw[c4];exact qcw (qbE Dp (qa6 _ _)) (qbH _ Do)
    nofun;refine⟨ty,jl,y.1,y.2,u,v,110*tE+1,110,rfl,fb _ _ iJ,hZ,hY,kN,tF,n2,w7,fA,by omega,λL6 eU g_ e4 kQ=>?_⟩;obtain⟨bB,gM,L7,L8⟩:=ZiO (y:=y) (u:=(u,v)) (x:=(y.1*u / Nat.gcd (y.1*u) (y.2*v),y.2*v / Nat.gcd (y.1*u) (y.2*v))) (n:=0) ke hY Do Dp tG c4 rfl rfl rfl;have w8:=fb.trans e4;have tH:=w8 _ _ Dk;have rm:ShE eU ek zs:=tA.keep λ_ _ e=>w8 _ _ e;nofun;rw[V7 _ ic];have rl:∀a xs,eU a=some (.tup xs)->(upd eU e (.dK (ek++ [(Sum.inl w,.ref L6)]))) a=some (.tup xs):=λa xs dn=>by rw[b6 (gk dn tH (by intro z;cases z))];exact dn
    have L9:y.1*mD<2 ^ (110*i+1):=qag (qU tF Dq) (qaH (by decide) bH);have L_:y.2*gm<2 ^ (110*i+1):=qag (qU n2 Dr) (qaH (by decide) bH);refine⟨_,zs++ [(w,(y.1*u / Nat.gcd (y.1*u) (y.2*v),y.2*v / Nat.gcd (y.1*u) (y.2*v)))],_,_,rfl,(dY.trans w8).new w2,Ze,(rm.keep rl).snoc (rl _ _ kQ),gE.more cm rk bB ⟨qaO L7 L9,qaO L8 L_⟩ (λz=>by cases z) (λhe lr al' z=>?_),by simp;omega⟩;cases z;refine⟨tE,y,w6,?_⟩;rw[c0,FM,o8];exact gS _ gM
  .rintro af b0 ⟨ek,zs,a1,a2,rfl,cs,n1,ma,gE,qY⟩;rw[gw] at gE;nofun;exact LW b0 ek zs cs n1 ma gE
inductive Ds(T:Tp K mg)(vs:List V)(H:Hp)(Q:VK)(cP:XK):Prop
 |mk (a b n:Nat) (cQ:vs=[.int a,.int b]) (cE:0<b) (cJ:b<2 ^ 8000) (dq:a<2 ^ n) (d2:n<=1000000) (em:Q (.int (a / Nat.gcd a b*b:Nat)) H):Ds T vs H Q cP
theorem L':OkN P w base 2 T.a0 (Ds T):=by
 refine T.a0.F.okX JD (λvs H Q E h=>?_) (λcz A outer s H vs Q E ap h=>?_)
 .obtain⟨a,b,n,rfl,_⟩:=h
  rfl
 .have hu:=ap.hu;obtain⟨a,b,n,rfl,c2,eE,bH,jY,q⟩:=h;have o2:0<Nat.gcd a b:=qcc _ c2;have fz:Nat.gcd a b<2 ^ 8000:=qaO (qbE c2 (qa6 a b)) eE;have LO:=ZlP (a:=a) o2 fz;have n4:a / Nat.gcd a b<2 ^ n:=qaO (qba _ _) bH;have Cb:IntMulOk ((a:Int) / (Nat.gcd a b:Nat)) (b:Int):=Zcv (a:=a / Nat.gcd a b) n4 eE (by omega);refine⟨_,(bZ (cW (cK gL (cK gK (pv 0) (c6 T.au (wZ T) ap cw (bq (pv 0) (bq (pv 1) bA)))) (pv 1)))),?_⟩
  walk_at "a"
  nofun;exact q
inductive Dt(vs:List V)(H:Hp)(Q:VK)(cP:XK):Prop
 |mk (p f:Addr) (ag:HM) (fp ck:List Addr) (F:List (Int×Fo.ZX)) (cQ:vs=[.ref p,.ref f]) (cE:dg T H p ag fp) (cJ:H f=some (.lst (ck.map V.ref))) (dq:Wy H ck F) (d2:(∀d∈ck,d∉fp)) (em:(∀d∈ck,d≠f)) (e2:Fo.VQ (fF ag.belts) ag.names.length F ag.names.length) (fx:ZB ag.belts ag.names.length) (h2:ag.names.length<=60) (jN:Yx ag.belts) (kg:∀(r:Addr)(ae:Hp)(rs:List Int),H r=none->db ck H ae->Wy ae ck F->ae r=some (.lst (rs.map V.int))->rs.length=ag.names.length->(∀x∈F,nJ ag.belts x rs)->Q (.ref r) ae):Dt vs H Q cP
theorem Ma:OkN P w base 7 T.a1 (Dt T):=by
 have fq:=T.a;have fr:=T.e;refine T.a1.F.okX lO (λvs H Q E h=>?_) (λcz A outer s H vs Q E ap h=>?_)
 .obtain⟨p,f,ag,fp,ck,F,rfl,_⟩:=h
  rfl
 .have hu:=ap.hu;obtain⟨p,f,ag,fp,ck,F,rfl,b4,bN,c1,jb,ph,fw,cf,bH,hsz,q⟩:=h;have lL:=c1.length;refine⟨_,(bI (nk (j:=2) rfl (e5 (x:="name") (zs:=[]) (ix:=[]) (cn vT) ["hall","forest","rates","tree","shares","common","share","work"] rfl rfl (by decide+kernel)) (ez (K:=K) rfl (il (pv 0) T.a T.al (ts T) ap cw)) (λcg C s H fp=>⟨(cI (i:=0) (show(["name"]:List Str).Nodup by decide+kernel) rfl (Or.inl rfl)),fW,b8⟩) lO.nd rfl (Or.inl rfl))
     (bI (eo PassesOwn.leaving rfl (ez (K:=K) rfl (pv 1)) (cI (i:=3) lO.nd rfl (Or.inl rfl)) (bI (cy (i:=4) lO.nd rfl (Or.inl rfl) (c6 T.aZ (LS T) ap cw (bq (pv 0) (bq (pv 3) bA))))
     (bI (cy (i:=5) lO.nd rfl (Or.inl rfl) b8)
     (bI (eo PassesOwn.leaving rfl (H6 (pv 4)) (cI (i:=6) lO.nd rfl (Or.inl rfl)) (bZ (cy (i:=5) lO.nd rfl (Or.inl rfl) (c6 T.a0 (L' T) ap cw (bq (pv 5) (bq (ci (ixk K) (pv 6) b8 (λ_ _=>rfl)) bA))))))
     (bZ (eo PassesOwn.leaving rfl (Af (pv 4)) (ik (K:=K) (n:=2) rfl rfl (eG (cI (i:=7) lO.nd rfl (Or.inl rfl)) (eG (cI (i:=6) lO.nd rfl (Or.inl rfl)) h9))) (bZ (hM (cK gL (cK gK (pv 5) (ci (ixk K) (pv 6) b8 (λ_ _=>rfl))) (ci (ixk K) (pv 6) b8 (λ_ _=>rfl))) (hL (pv 2) (pv 7) j1)))))))))
     (bZ (cW (pv 2))))),?_⟩
  walk_at "a"
  nofun;refine⟨p,ag,fp,rfl,b4,λnm a_ h3 bu wM=>?_⟩;nofun;refine Z9 (ey (SqL.of wM)) (dm (by rw[GE];omega)) (λ_=>true) (λ_=> .int 1) (λi ae cY hi bU k=>?_) (λi ae cY hi _ bU k=>?_) (λr bt ap bM fa=>?_)
  .nofun;exact k ae (Zd.refl ae)
  .nofun;exact k ae (Zd.refl ae)
  have gh:bt r=some (.lst ((List.replicate ag.names.length (1:Int)).map V.int)):=by
   rw[fa,qaz.mpr (by simp),GE];refine congrArg (λz=>some (HO.lst z)) ?_;refine qau (by simp) λi ak a'=>?_;simp
  clear fa;have i3:=bu.trans bM;have fy:H r=none:=ei bu ap;have lY:=i3 _ _ bN;have mc:∀d∈ck,r≠d:=λd hd z=>by
   obtain⟨i,hi,rfl⟩:=qan hd;obtain⟨x,_,kvs,a,_⟩:=Paired.get' c1 (GT hi);exact Zfh a (by rw[<-z];exact fy)
  have tq:f≠r:=c3 bN fy;nofun;refine Ya (ey (SqL.of (qv (q:=f) (o:= .lst (ck.map V.ref))))) (λi af ae=>∃(rs:List Int)(a1 a2 a3 a4 a5:Option V),af=[some (.ref p),some (.ref f),some (.ref r),a1,a2,a3,a4,a5]/\db ck H ae/\Wy ae ck F/\ae f=some (.lst (ck.map V.ref))/\ae r=some (.lst (rs.map V.int))/\rs.length=ag.names.length/\∀(k:Nat) x,k<i->F[k]? =some x->nJ ag.belts x rs)
   ⟨_,_,_,_,_,_,rfl,i3.frame,c1.same i3,lY,gh,by simp,λk x br=>absurd br (qa3 _)⟩ ?_ ?_ ?_
  .rintro i af ae ⟨_,_,_,_,_,_,_,_,_,h,_⟩;exact US h
  .rintro i af b7 hi ⟨rs,a1,a2,a3,a4,a5,rfl,kz,hJ,k4,gh,e6,gx⟩;have dy:i<ck.length:=by simpa using hi
   have f0:(ck.map V.ref).getD i .non= .ref ck[i]:=by simp[List.getD,dy]
   rw[f0];obtain⟨x,bp,kvs,hd,jw⟩:=Paired.get' hJ (GT dy);have w9:=GM dy;generalize ck[i]=d at*;obtain⟨g,wg,dS,g1⟩:=fw.tree x (qav bp);have w_:=g.rg ⟨dS,g1⟩ (o0 cf);have s4:x.2.length<=60:=by
    have:=Fo.Zbi (n:=ag.names.length) g.nodup w_;simp[Fo.keys] at this;omega
   have gP:=b4.off kz (λy bO z=>jb y z bO);nofun;refine⟨p,d,ag,fp,kvs,x.2,x.1,rfl,gP,jb d w9,hd,jw,g,s4,hsz,λe o bW ek zs bK b2 lW ma gE=>?_⟩;have rn:db ck H bW:=kz.trans (((qV (o:=o) hd).mono (by intro y bO;rw[qac.mp bO];exact w9)).trans b2.frame);have ej:=(hJ.frz (o:=o) hd).same b2;have pi:bW f=some (.lst (ck.map V.ref)):=rn.keep _ _ bN (λz=>ph f z rfl);have Mb:=mc d w9;have eX:bW r=some (.lst (rs.map V.int)):=b2 _ _ (by rw[b6 Mb];exact gh);have w':∀d'∈ck,e≠d':=λd' hK z=>by
    obtain⟨j,bw,rfl⟩:=qan hK;obtain⟨ff,_,k',a,_⟩:=Paired.get' hJ (GT bw);exact Zfh a (by rw[<-z];exact bK)
   have rp:r≠e:=λz=>by rw[z,bK] at gh;cases gh
   have Du:f≠e:=λz=>by rw[z,bK] at k4;cases k4
   have rq:H e=none:=by
    cases ee:H e with
    |none=>rfl
    |some cx=>
     by_cases z:e∈ck
     .exact absurd rfl (w' e z)
     .rw[kz.keep _ _ ee z] at bK;cases bK
   have we:=gE.len (qab _);have gw:=ma.length;nofun;refine Rd.ZoE ?_;nofun;refine⟨e,ek,rfl,.inl lW,λiQ=>?_⟩;have n1:(upd bW e (.frz iQ (.dK ek))) e=some (.frz iQ (.dK ek)):=Ze;have xa:∀a xs,bW a=some (.tup xs)->(upd bW e (.frz iQ (.dK ek))) a=some (.tup xs):=(qV (o:=iQ) (.inl lW)).tups;have Dv:=ma.keep xa;have iA:(upd bW e (.frz iQ (.dK ek))) r=some (.lst (rs.map V.int)):=by rw[b6 rp];exact eX
   have tw:(upd bW e (.frz iQ (.dK ek))) f=some (.lst (ck.map V.ref)):=by rw[b6 Du];exact pi
   have ho:db ck H (upd bW e (.frz iQ (.dK ek))):=⟨λb y c0 n=>by rw[b6 (λz=>by rw[z,rq] at c0;cases c0)];exact rn.keep _ _ c0 n,λb xs c0=>xa _ _ (rn.tups _ _ c0)⟩;have rh:Wy (upd bW e (.frz iQ (.dK ek))) ck F:=by
    refine s3 ej λd' ff hK ⟨k,a,b⟩=>⟨k,?_,b.keep xa⟩;have:=(w' d' hK).symm;rcases a with a|⟨cx,a⟩
    .exact .inl (by rw[b6 this];exact a)
    .exact .inr ⟨cx,by rw[b6 this];exact a⟩
   generalize upd bW e (.frz iQ (.dK ek))=b0 at*;refine Wp (H7 n1) (λk af ae=>ae=b0/\∃(C:Nat)(a4:Option V),af=[some (.ref p),some (.ref f),some (.ref r),some (.ref d),some (.ref e),some (.int C),a4,a5]/\C=lcmL (zs.take k)/\C<2 ^ (6700*k+1)) ⟨rfl,1,_,rfl,rfl,by decide⟩ (λi af ae h=>h.1▸Zd.refl b0) ?_ ?_
   .rintro k af c9 v di br ⟨rfl,C,a4,rfl,hT,tI⟩ ⟨rfl,kv,i5,rfl⟩;obtain⟨y,bO,_,t,dL,bX⟩:=Paired.get' Dv i5;rw[dL];have jx:k<zs.length:=(qaa.mp bO).1;obtain⟨ke,hY,_⟩:=gE.pos y (qav bO);have Mc:=(gE.size k y bO).2;have n2:y.2.2<2 ^ 6700:=qag Mc (qaH (by decide) (by omega));have Md:zs.take (k+1)=zs.take k++ [y]:=by rw[List.take_succ,bO];rfl
    nofun;refine⟨C,y.2.2,6700*k+1,rfl,hY,qag n2 (qaH (by decide) (by decide)),tI,by omega,?_⟩;rw[ZlW];refine⟨rfl,_,_,rfl,by rw[Md,J5,hT],?_⟩;have:=BH tI n2;have dj:6700*(k+1)+1=6700*k+1+6700:=by omega
    rw[dj];exact this
   .rintro af c9 ⟨rfl,C,a4,rfl,hT,tI⟩;rw[gw,qaD] at hT;nofun;refine Rd.Zj4 ?_;nofun;refine⟨e,ek,rfl,.inr ⟨iQ,n1⟩,λg5=>?_⟩;have w4:(upd c9 e (.frz g5 (.dK ek))) e=some (.frz g5 (.dK ek)):=Ze;have lT:∀a xs,c9 a=some (.tup xs)->(upd c9 e (.frz g5 (.dK ek))) a=some (.tup xs):=(qV (o:=g5) (.inr ⟨iQ,n1⟩)).tups;have w5:=Dv.keep lT;have nX:(upd c9 e (.frz g5 (.dK ek))) r=some (.lst (rs.map V.int)):=by rw[b6 rp];exact iA
    have Me:(upd c9 e (.frz g5 (.dK ek))) f=some (.lst (ck.map V.ref)):=by rw[b6 Du];exact tw
    have lA:db ck H (upd c9 e (.frz g5 (.dK ek))):=⟨λb y c0 n=>by rw[b6 (λz=>by rw[z,rq] at c0;cases c0)];exact ho.keep _ _ c0 n,λb xs c0=>lT _ _ (ho.tups _ _ c0)⟩;have wR:Wy (upd c9 e (.frz g5 (.dK ek))) ck F:=by
     refine s3 rh λd' ff hK ⟨k,a,b⟩=>⟨k,?_,b.keep lT⟩;have:=(w' d' hK).symm;rcases a with a|⟨cx,a⟩
     .exact .inl (by rw[b6 this];exact a)
     .exact .inr ⟨cx,by rw[b6 this];exact a⟩
    generalize upd c9 e (.frz g5 (.dK ek))=di at*;have jx:zs.map (·.1)=Fo.keys x.2:=by
     have ak:=gE.keys;have a':(Fo.keys x.2).take x.2.length=Fo.keys x.2:=qa7 (by simp[Fo.keys]);rw[ak,a']
    have xb:∀(j:Nat) y,zs[j]? =some y->y.1∈Fo.keys x.2:=λj y bO=>by rw[<-jx];exact qae.mpr ⟨y,qav bO,rfl⟩
    have Mf:∀(j k:Nat) y z,zs[j]? =some y->zs[k]? =some z->j≠k->y.1≠z.1:=λj k y z bO hz ne ee=>by
     have nd:(zs.map (·.1)).Nodup:=by rw[jx];exact g.nodup
     obtain⟨bw,nI⟩:=qaa.mp bO;obtain⟨br,e1⟩:=qaa.mp hz;refine ne (qT nd (by simpa using bw) (by simpa using br) ?_);rw[qaY,qaY,nI,e1];exact ee
    refine Wp (Ag (qv (q:=e) (o:= .frz g5 (.dK ek)))) (λk af ae=>∃(rs':List Int)(a6 a7:Option V),af=[some (.ref p),some (.ref f),some (.ref r),some (.ref d),some (.ref e),some (.int C),a6,a7]/\db ck H ae/\Wy ae ck F/\ae e=some (.frz g5 (.dK ek))/\ae f=some (.lst (ck.map V.ref))/\ae r=some (.lst (rs'.map V.int))/\rs'.length=ag.names.length/\ShE ae ek zs/\
     (∀(j:Nat) y,j<k->zs[j]? =some y->rs'[y.1.toNat]? =some ((C / y.2.2*y.2.1:Nat):Int))/\∀v:Int,0<=v->v∉Fo.keys x.2->rs'[v.toNat]? =rs[v.toNat]?)
     ⟨rs,_,_,rfl,lA,wR,w4,Me,nX,e6,w5,λj y bw=>absurd bw (qa3 _),λ_ _ _=>rfl⟩ ?_ ?_ ?_
    .rintro k af ae ⟨_,_,_,_,_,_,h,_⟩;exact US h
    .rintro k af eU v f' br ⟨rs',a6,a7,rfl,xc,xf,tH,xg,n5,xh,rm,xi,xj⟩ ⟨t,kv,i5,bX,rfl,rfl⟩;obtain⟨y,bO,e1,ty,dL,iJ⟩:=Paired.get' rm i5;obtain⟨ll,SQ⟩:=kv;dsimp only at e1 dL;subst e1 dL;refine Rd.V3 (.of Ze) rfl ?_;have i6:Zd eU (upd eU t (.tup [kV (Sum.inl y.1),.ref ty])):=cO bX;have rr:=i6 _ _ n5;have SR:=i6 _ _ iJ;have Dw:db ck H (upd eU t (.tup [kV (Sum.inl y.1),.ref ty])):=xc.trans i6.frame;have Mg:=xf.same i6;have tJ:=i6 _ _ tH;have Mh:=i6 _ _ xg;have Mi:ShE (upd eU t (.tup [kV (Sum.inl y.1),.ref ty])) ek zs:=rm.keep λ_ _ e=>i6 _ _ e;generalize upd eU t (.tup [kV (Sum.inl y.1),.ref ty])=f' at*;have w3:kV (Sum.inl y.1)= .int y.1:=rfl;rw[w3];obtain⟨ke,hY,_⟩:=gE.pos y (qav bO);obtain⟨Mj,Ml⟩:=gE.size k y bO;have xk:k<zs.length:=(qaa.mp bO).1;have tF:y.2.1<2 ^ 6700:=qag Mj (qaH (by decide) (by omega));have n2:y.2.2<2 ^ 6700:=qag Ml (qaH (by decide) (by omega));have B6:=ZlP (a:=0) hY (qag n2 (qaH (by decide) (by decide)));have Cb:IntMulOk ((C:Int) / (y.2.2:Nat)) ((y.2.1:Nat):Int):=Zcv (a:=C / y.2.2) (qaO (qba _ _) tI) tF (by omega);obtain⟨e8,f8⟩:=w_ y.1 (xb k y bO);nofun;have c4:(C:Int) / ((y.2.2:Nat):Int)*((y.2.1:Nat):Int)=((C / y.2.2*y.2.1:Nat):Int):=rfl;rw[c4];have xl:∀a xs,f' a=some (.tup xs)->(upd f' r (.lst ((rs'.map V.int).set y.1.toNat (.int ((C / y.2.2*y.2.1:Nat):Int))))) a=some (.tup xs):=λa xs dn=>by rw[b6 (gk dn rr (by intro z;cases z))];exact dn
     have ht:y.1.toNat<rs'.length:=by omega
     nofun;refine⟨rs'.set y.1.toNat ((C / y.2.2*y.2.1:Nat):Int),_,_,rfl,⟨λb z c0 n=>by rw[b6 (λc=>by rw[c,fy] at c0;cases c0)];exact Dw.keep _ _ c0 n,λb xs c0=>xl _ _ (Dw.tups _ _ c0)⟩,?_,by rw[b6 rp.symm];exact tJ,by rw[b6 tq];exact Mh,by rw[Ze,qbB],by rw[qbZ];exact xh,Mi.keep xl,λj z bw hz=>?_,λv kN bS=>?_⟩
     .refine s3 Mg λd' ff hK ⟨k',a,b⟩=>⟨k',?_,b.keep xl⟩;have:=(mc d' hK).symm;rcases a with a|⟨cx,a⟩
      .exact .inl (by rw[b6 this];exact a)
      .exact .inr ⟨cx,by rw[b6 this];exact a⟩
     .rcases qbd.mp bw with c|c
      .have ne:=Mf j k z y hz bO (by omega);obtain⟨cQ,_⟩:=w_ z.1 (xb j z hz);rw[qbG (by omega)];exact xi j z c hz
      .subst c;rw[bO] at hz;cases hz;rw[qbz ht]
     .have ne:v≠y.1:=λc=>bS (by rw[c];exact xb k y bO);rw[qbG (by omega)];exact xj v kN bS
    .rintro af eU ⟨rs',a6,a7,rfl,xc,xf,tH,xg,n5,xh,rm,xi,xj⟩;refine⟨rs',_,_,_,_,_,rfl,xc,xf,xg,n5,xh,λk ff br jk=>?_⟩;rcases qbd.mp br with c|c
     .obtain⟨Mm,pk,nA⟩:=gx k ff c jk;refine⟨Mm,pk,λy bO=>?_⟩;obtain⟨g',SS,Mn,Mo⟩:=fw.tree ff (qav jk);have td:y.1∈Fo.keys ff.2:=by
       have ak:=pk.keys;have a':(Fo.keys ff.2).take ff.2.length=Fo.keys ff.2:=qa7 (by simp[Fo.keys]);rw[a'] at ak;rw[<-ak];exact qae.mpr ⟨y,bO,rfl⟩
      rw[xj y.1 (g'.rg ⟨Mn,Mo⟩ (o0 cf) _ td).1 (J4 cf fw jk bp (by omega) _ td)];exact nA y bO
     .subst c;rw[bp] at jk;cases jk;refine⟨zs,gE,λy bO=>?_⟩;obtain⟨j,bw⟩:=qbj bO;rw[<-hT];exact xi j y (by rw[gw];exact(qaa.mp bw).1) bw
  .rintro af b7 ⟨rs,a1,a2,a3,a4,a5,rfl,kz,hJ,k4,gh,e6,gx⟩;nofun;refine q r b7 rs fy kz hJ gh e6 (λx bp=>?_);obtain⟨k,br⟩:=qbj bp;have:=(qaa.mp br).1;exact gx k x (by rw[GE,lL];exact this) br
inductive Dx(vs:List V)(H:Hp)(Q:VK)(cP:XK):Prop
 |mk (p c:Addr) (ag:HM) (fp:List Addr) (cv:List Int) (cQ:vs=[.ref p,.ref c]) (cE:dg T H p ag fp) (cJ:ag.belts.length<=1000) (dq:SqL K H c (cv.map V.int)) (d2:ZB ag.belts cv.length) (em:Yx ag.belts) (e2:(∀c∈cv,∃k:Nat,c=(k:Int)/\k<2 ^ 420000)) (fx:∀(r:Addr)(ae:Hp),H r=none->Zd H ae->ae r=some (.lst ((ag.belts.map (nK cv)).map V.int))->Q (.ref r) ae):Dx vs H Q cP
theorem Mp:OkN P w base 2 T.a2 (Dx T):=by
 have fq:=T.a;have fr:=T.e;refine T.a2.F.okX JE (λvs H Q E h=>?_) (λcz A outer s H vs Q E ap h=>?_)
 .obtain⟨p,c,ag,fp,cv,rfl,_⟩:=h
  rfl
 .have hu:=ap.hu;obtain⟨p,sK,ag,fp,cv,rfl,b4,hz,bv,cf,hsz,lq,q⟩:=h;refine⟨_,(bZ (cW (jD rfl (e5 (x:="row") (zs:=["counts"]) (ix:=[1]) (cn vU) ["hall","counts"] rfl rfl (by decide+kernel)) (ez (K:=K) rfl (il (pv 0) T.a T.O (nV T) ap cw)) (λcg C s H fp=>⟨(cI (i:=0) (show(["row","counts"]:List Str).Nodup by decide+kernel) rfl (Or.inl rfl)),fW,(cK pW (cK gL (ci (ixk K) (pv 1) (ci (ixk K) (pv 0) b8 (λ_ _=>rfl)) (λ_ _=>rfl)) (ci (ixk K) (pv 0) b8 (λ_ _=>rfl))) (cK gL (ci (ixk K) (pv 1) (ci (ixk K) (pv 0) b8 (λ_ _=>rfl)) (λ_ _=>rfl)) (ci (ixk K) (pv 0) b8 (λ_ _=>rfl))))⟩)))),?_⟩
  walk_at "a"
  nofun;intro u a_ bs mC iw fO c1;have iR:=c1.length;have ai:bs.length<sizeLine:=dm (by rw[iR];exact hz);nofun;refine Z9 (ey (SqL.of fO)) ai (λ_=>true) (λi=> .int (nK cv (ag.belts.getD i dB))) (λi ae cY hi bU k=>?_) (λi ae cY hi _ bU k=>?_) (λr ae ap bU jv=>?_)
  .nofun;exact k ae (Zd.refl ae)
  .have cm:i<ag.belts.length:=by omega
   obtain⟨t,fH,eR⟩:=c1.getD (i:=i) cm;rw[fH];obtain⟨cq,cN,gG,hN⟩:=cf.at cm;obtain⟨cX,b1,dS,fN,fz,dH,eh,dL⟩:=hsz i cm;have gC:=bU _ _ eR;unfold nK at k;generalize ag.belts.getD i dB=bb at*;have Dy:∀{v:Int},0<=v->v<cv.length->cv.getD v.toNat 0∈cv:=λ{v} kN gT=>by rw[dr (by omega)];exact GM _
   obtain⟨k1,bE,fE⟩:=lq _ (Dy cq cN);obtain⟨k2,bP,iU⟩:=lq _ (Dy gG hN);have fJ:IntMulOk (cv.getD bb.giver.toNat 0) bb.give:=by rw[bE,eh];exact Zcv fE fz (by decide)
   have gl:IntMulOk (cv.getD bb.taker.toNat 0) bb.take:=by rw[bP,dL];exact Zcv iU dH (by decide)
   have kq:SqL K ae sK (cv.map V.int):=(iw.trans bU).seq bv;have a1:=Y1 cq cN;have a2:=Y1 gG hN;dsimp only[B5.v] at gC;nofun;exact k ae (Zd.refl ae)
  .refine q r ae (ei iw ap) (iw.trans bU) ?_;rw[jv,qaz.mpr (by simp),iR];refine congrArg (λz=>some (HO.lst z)) ?_;refine qau (by simp) λi ak a'=>?_;have:i<ag.belts.length:=by simpa using ak
   simp[List.getD,this]
inductive Dz(T:Tp K mg)(vs:List V)(Mq:Hp)(on:VK)(cP:XK):Prop
 |mk (a b c:V) (cQ:vs=[a,b,c]) (cE:False):Dz T vs Mq on cP
theorem Mr:OkN P w base 6 T.a3 (Dz T):=by
 have fq:=T.a;have fr:=T.e;refine T.a3.F.okX JF (λvs H Q E h=>?_) (λcz A outer s H vs Q E ap h=>?_)
 .obtain⟨a,b,c,rfl,_⟩:=h
  rfl
 .have hu:=ap.hu;obtain⟨_,_,_,_,md⟩:=h;exact md.elim
inductive DB(vs:List V)(H:Hp)(Q:VK)(cP:XK):Prop
 |mk (p:Addr) (ag:HM) (fp:List Addr) (z:Int->Nat) (cQ:vs=[.ref p]) (cE:dg T H p ag fp) (cJ:ag.names.length<=60) (dq:ag.belts.length<=1000) (d2:ZB ag.belts ag.names.length) (em:Yx ag.belts) (e2:Vg ag.belts z) (fx:∀(t r:Addr)(ae:Hp)(rs:List Int)(F:List (Int×Fo.ZX)),Zd H ae->H r=none->ae t=some (.tup [.ref r,.non])->ae r=some (.lst (rs.map V.int))->rs.length=ag.names.length->Fo.VQ (fF ag.belts) ag.names.length F ag.names.length->(∀x∈F,nJ ag.belts x rs)->Q (.ref t) ae):DB vs H Q cP
theorem Ms:OkN P w base 8 T.a4 (DB T):=by
 refine T.a4.F.okX qP (λvs H Q E h=>?_) (λcz A outer s H vs Q E ap h=>?_)
 .obtain⟨p,ag,fp,z,rfl,_⟩:=h
  rfl
 .have hu:=ap.hu;obtain⟨p,ag,fp,z,rfl,b4,bH,hz,cf,hsz,k7,q⟩:=h;refine⟨_,(bI (cy (i:=1) qP.nd rfl (Or.inl rfl) (c6 T.aV (LG T) ap cw (bq (pv 0) bA)))
     (bI (cy (i:=2) qP.nd rfl (Or.inl rfl) (c6 T.a1 (Ma T) ap cw (bq (pv 0) (bq (pv 1) bA))))
     (bI (eo PassesOwn.leaving rfl (mm (K:=K) rfl rfl T.k (bq (c6 T.a2 (Mp T) ap cw (bq (pv 0) (bq (pv 2) bA))) bA)) (ik (K:=K) (n:=2) rfl rfl (eG (cI (i:=3) qP.nd rfl (Or.inl rfl)) (eG (cI (i:=4) qP.nd rfl (Or.inl rfl)) h9))) (bZ (dQ (dk (nq (K:=K) rfl hu) (pv 4) b8 (ds _)) (bZ (cW (hR (bq WJ (bq (c6 T.a3 (Mr T) ap cw (bq (pv 0) (bq (pv 1) (bq (pv 3) bA)))) bA))))) dX)))
     (bZ (cW (hR (bq (pv 2) (bq WJ bA)))))))),?_⟩
  walk_at "a"
  nofun;refine⟨p,ag,fp,rfl,b4,bH,hz,cf,λf ck a_ F C_ bu md lu fw wV=>?_⟩;have h5:=b4.same bu;have jb:∀d∈ck,d∉fp:=λd hd y=>b4.dom d y (lu d hd);have ph:∀d∈ck,d≠f:=λd hd y=>by
   obtain⟨i,hi,e⟩:=qan hd;obtain⟨x,_,kvs,a,_⟩:=Paired.get' md.trees (GT hi);rw[e,y,md.at_] at a;cases a
  nofun;refine⟨p,f,ag,fp,ck,F,rfl,h5,md.at_,md.trees.r,jb,ph,fw,cf,bH,hsz,λr bt rs fy fr2 sx fa e6 gx=>?_⟩;have bM:Zd H bt:=λb o e=>fr2.keep _ _ (bu _ _ e) (λy=>by have:=lu b y;rw[e] at this;cases this);have fg:=b4.same bM;have tK:H r=none:=ei bu fy;have ru:=Zhy cf bH fw e6 gx;nofun;refine⟨p,r,ag,fp,rs,rfl,fg,hz,.of fa,by rw[e6];exact cf,hsz,λc bv=>(by obtain⟨k,a,_,b⟩:=ru.pos c bv;exact⟨k,a,b⟩),λc b7 kX bR nY=>?_⟩;have gh:=bR _ _ fa;have pm:=bM.trans bR;nofun;refine Wp (mq (SqL.of nY)) (λi af ae=>Zd b7 ae/\∃a1 a2,af=[some (.ref p),some (.ref f),some (.ref r),a1,a2]) ⟨Zd.refl b7,_,_,rfl⟩ (λi af ae h=>h.1) ?_ ?_
  .rintro i af bW v b0 hi ⟨b2,a1,a2,rfl⟩ ⟨t,bX,rfl,rfl⟩;have cm:i<ag.belts.length:=by simpa using hi
   have f0:((ag.belts.map (nK rs)).map V.int).getD i .non= .int 0:=by
    have:=Zb5 k7 hsz cf fw e6 gx cm;rw[dr cm] at this;simp[List.getD,cm,this]
   rw[f0];refine Rd.V3 (.of Ze) rfl ?_;nofun;exact⟨b2.trans (cO bX),_,_,rfl⟩
  .rintro af bW ⟨b2,a1,a2,rfl⟩;have eX:=b2 _ _ gh;nofun;refine⟨by show 2<=sizeLine;decide,λt bX=>?_⟩;exact q t r _ rs F ((pm.trans b2).trans (cO bX)) tK Ze (cO bX _ _ eX) e6 fw gx
inductive DC(vs:List V)(H:Hp)(Q:VK)(E:XK):Prop
 |mk (p:Addr) (ag:HM) (fp:List Addr) (z:Int->Nat) (cQ:vs=[.ref p]) (cE:dg T H p ag fp) (cJ:ag.names.length<=60) (dq:ag.belts.length<=1000) (d2:ZB ag.belts ag.names.length) (em:Yx ag.belts) (e2:Vg ag.belts z) (fx:∀(r:Addr)(ae:Hp)(rs:List Int),Zd H ae->H r=none->ae r=some (.lst (rs.map V.int))->Rts ag.belts ag.names.length z rs->(rs.sum<=400->Q (.ref r) ae)/\(400<rs.sum->E (.ref T.t) none ae)):DC vs H Q E
theorem DD:OkN P w base 9 T.aG (DC T):=by
 refine T.aG.F.okX Bz (λvs H Q E h=>?_) (λcz A outer s H vs Q E ap h=>?_)
 .obtain⟨p,ag,fp,z,rfl,_⟩:=h
  rfl
 .have hu:=ap.hu;obtain⟨p,ag,fp,z,rfl,b4,bH,hz,cf,hsz,k7,q⟩:=h;refine⟨_,(bI (cy (i:=1) Bz.nd rfl (Or.inl rfl) (ci (ixk K) (c6 T.a4 (Ms T) ap cw (bq (pv 0) bA)) b8 (λ_ _=>rfl)))
     (bI (dQ (dk ov (pv 1) WJ (ds _)) (bZ (jF T.u.g T.u.e qaE rfl (bq Wh bA))) dX)
     (bI (dQ (dk ou (dt (vr (K:=K) rfl rfl) (by rfl) T.X PyProof.Rows.boot_sum (bq (pv 1) bA)) (r3 (v:= .int 400) rfl T.I ⟨_,rfl⟩) (ds _)) (bZ (jF T.F.g T.F.e qaE rfl (bq Wh bA))) dX)
     (bZ (cW (pv 1)))))),?_⟩
  walk_at "a"
  nofun;refine⟨p,ag,fp,z,rfl,b4,bH,hz,cf,hsz,k7,λt r ae rs F bu ap bX eu e6 fw gx=>?_⟩;have ru:=Zhy cf bH fw e6 gx;have c8:Rts ag.belts ag.names.length z rs:=⟨e6,λc bv=>(by obtain⟨k,a,b,_⟩:=ru.pos c bv;omega),λb ai=>(by
   obtain⟨i,hi,e⟩:=qan ai;have:=Zb5 k7 hsz cf fw e6 gx hi;rw[dr hi,e] at this;unfold nK at this;rw[Int.mul_comm b.give,Int.mul_comm b.take];omega),F,fw,gx⟩
  obtain⟨ce,cG⟩:=q r ae rs bu ap eu c8;nofun;refine⟨rfl,?_⟩;nofun;refine Rd.ZlD (.of eu) ?_;nofun;refine V4 (λc=>?_) (λc=>?_)
  .nofun;exact cG (by have:=of_decide_eq_true c;omega)
  .nofun;exact ce (by
    by_cases y:400<rs.sum
    .exact absurd (decide_eq_true y) c
    .omega)
inductive DE(T:Tp K mg)(vs:List V)(H:Hp)(Q:VK)(cP:XK):Prop
 |mk (a b:Addr) (hs:List Int) (l:List (Int×Int)) (xs:List V) (cQ:vs=[.ref a,.ref b]) (cE:SqL K H a (hs.map V.int)) (cJ:SqL K H b xs) (dq:V0 H l xs) (d2:(∀x∈l,0<=x.1/\x.1<hs.length)) (em:l.length<=1000) (e2:∀ae,Zd H ae->Q (.bl (q1 hs l)) ae):DE T vs H Q cP
theorem DF:OkN P w base 1 T.aH (DE T):=by
 refine T.aH.F.okX JG (λvs H Q E h=>?_) (λcz A outer s H vs Q E ap h=>?_)
 .obtain⟨a,b,hs,l,xs,rfl,_⟩:=h
  rfl
 .have hu:=ap.hu;obtain⟨a,b,hs,l,xs,rfl,bD,ai,bB,ap,hz,q⟩:=h;have Mt:l.length=xs.length:=Paired.length bB;refine⟨_,(bZ (cW (dt (z0 (K:=K) rfl rfl) (by rfl) T.ay PyProof.Rows.boot_all (bq (lH (xs:=["belt","take"]) rfl (e5 (x:="belt") (zs:=["heaps"]) (ix:=[0]) (cn vV) ["heaps","takes"] rfl rfl (by decide+kernel)) (ez (K:=K) rfl (pv 1)) (λcg C s H fp=>⟨(ik (K:=K) (n:=2) rfl rfl (eG (cI (i:=0) (show(["belt","take","heaps"]:List Str).Nodup by decide+kernel) rfl (Or.inl rfl)) (eG (cI (i:=1) (show(["belt","take","heaps"]:List Str).Nodup by decide+kernel) rfl (Or.inl rfl)) h9))),fW,(kA pX (ci (ixk K) (pv 2) (pv 0) (λ_ _=>rfl)) (pv 1) (ds _))⟩)) bA)))),?_⟩
  walk_at "a"
  nofun;refine Y5 (own:=2) (ey ai).y (dm (by omega)) (λi=>[some (.int (l.getD i (0,0)).1),some (.int (l.getD i (0,0)).2)]) (λ_=>rfl) (λ_=>true) (λi v _=>v= .bl (decide ((l.getD i (0,0)).2<=hs.getD (l.getD i (0,0)).1.toNat 0))) (λ_ _ _ _ _ z=>z) (λi dI ae v bt hU hi bU y gs k=>?_) (λi ae cY hi bU k=>?_) (λk8 i ae cY hi bv hp0 i1 bU k=>?_) (λr ae ys jv bU fD c8=>?_)
  .obtain⟨rfl,rfl⟩:=y;obtain⟨x1,x2,rfl⟩:∃x1 x2,dI=[x1,x2]:=by
    match dI,gs with
    | [x1,x2],_=>exact⟨x1,x2,rfl⟩
   obtain⟨v,bS,t,rfl,bX⟩:=Paired.get bB (GT (show i<l.length by omega));have c0:xs.getD i .non= .ref t:=by simp[List.getD,bS]
   have iS:l.getD i (0,0)=l[i]:=by simp[List.getD,show i<l.length by omega]
   rw[c0];rw[iS] at k;refine Rd.V3 (.of (bU _ _ bX)) rfl ?_;nofun;exact k _ (Zd.refl _)
  .nofun;exact k ae (Zd.refl ae)
  .have iS:l.getD i (0,0)=l[i]:=by simp[List.getD,show i<l.length by omega]
   obtain⟨qb,cq⟩:=ap _ (GM (show i<l.length by omega));rw[iS] at k|-;generalize l[i]=x at*;have SU:=bU.seq bD;have gB:=Y1 qb cq;nofun;exact k _ ae (Zd.refl ae) rfl
  .have e:ys=(l.map λx=>decide (x.2<=hs.getD x.1.toNat 0)).map V.bl:=by
    rw[sy (R:=λi v _=>v=V.bl (decide ((l.getD i (0,0)).2<=hs.getD (l.getD i (0,0)).1.toNat 0))) (H:=ae) (r:=λi=>V.bl (decide ((l.getD i (0,0)).2<=hs.getD (l.getD i (0,0)).1.toNat 0))) (λ_ _ z=>z) c8,qaz.mpr (by simp),<-Mt];refine qau (by simp) λi ak a'=>?_;have hi:i<l.length:=by simpa using ak
    have iS:l.getD i (0,0)=l[i]:=by simp[List.getD,hi]
    rw[qaY,qaY,qaY,List.getElem_range,iS]
   rw[e] at fD;nofun;have bP:(l.map λx=>decide (x.2<=hs.getD x.1.toNat 0)).all id=q1 hs l:=by rw[List.all_map];rfl
   rw[bP];exact q ae bU
inductive UV(vs:List V)(H:Hp)(Q:VK)(E:XK):Prop
 |mk (p s:Addr) (ls:List B5) (rs st:List Int) (cQ:vs=[.ref p,.ref s]) (cE:kP T H p ls rs) (cJ:SqL K H s (st.map V.int)) (dq:st.length=ls.length) (d2:ZB ls rs.length) (em:ls.length<=1000) (e2:rs.length<=1000) (fx:(∀r∈rs,1<=r)) (h2:tot rs<=1000) (jN:∀(r:Addr)(ae:Hp)(bF:List Nat)(d:Nat->Nat),H r=none->Zd H ae->ae r=some (.lst (bF.map λw:Nat=>V.int w))->Fire.Z1 (jK ls st rs) (λ_=>0) bF d->(∀w,¬dN ls st rs d w)->Q (.ref r) ae):UV vs H Q E
theorem DG:OkM P w mg base 2 T.aI (UV T):=by
 have pp:=T.i;have pq:=T.m;refine T.aI.F.okX kb (λvs H Q E h=>?_) (λcz A outer s H vs Q E ap h=>?_)
 .obtain⟨p,s,ls,rs,st,rfl,_⟩:=h
  rfl
 .have hu:=ap.hu;obtain⟨p,s,ls,rs,st,rfl,bv,hs,df,cf,hz,bH,fu,xm,q⟩:=h;obtain⟨bx,a,b,c,xn,e,cp,lP,gA,bs,ak,a',bL,cu,dJ,da,hZ,kQ,o5,mv⟩:=id bv;have Mu:∀v<rs.length,1<=dF rs v:=λv bS=>by
   have:=fu rs[v] (GM bS);simp only[dF,List.getD,GT bS,Option.getD_some];omega
  refine⟨_,(bI (cy (i:=2) kb.nd rfl (Or.inr rfl) (i' (j8 (K:=K) rfl) (by rfl) T.j qaF (bq (pv 1) bA)))
     (bI (cy (i:=3) kb.nd rfl (Or.inl rfl) (i' (j8 (K:=K) rfl) (by rfl) T.j qaF (bq (eB (K:=K) rfl (pv 0) rfl) bA)))
     (bI (z8 (j:=4) (xs:=["takes"]) rfl (e5 (x:="takes") (zs:=["heaps"]) (ix:=[2]) (cn vW) ["self","starts","heaps","left","able","row","work","belt","take","give","other"] rfl rfl (by decide+kernel)) (ez (K:=K) rfl (eB (K:=K) rfl (pv 0) rfl)) (λcg C s H fp=>⟨(cI (i:=0) (show(["takes","heaps"]:List Str).Nodup by decide+kernel) rfl (Or.inl rfl)),fW,(c6 T.aH (DF T) ap Uo (bq (pv 1) (bq (pv 0) bA)))⟩) kb.nd rfl (Or.inl rfl))
     (bI (cy (i:=5) kb.nd rfl (Or.inl rfl) (gX bA))
     (bI (pQ PassesOwn.leaving (dk (vq (K:=K) rfl) Wn (pv 4) (by with_unfolding_all rfl)) (bI (cy (i:=6) kb.nd rfl (Or.inl rfl) (fv (K:=K) rfl qai qbV qbW H_ (pv 4) (bq Wn bA)))
     (bI (eF (fv (K:=K) rfl qai qaq qar g0 (pv 5) (bq (pv 6) bA)))
     (bI (uz (pv 3) (pv 6) (vw (K:=K) rfl) b8 y_ j1)
     (bI (eo PassesOwn.leaving rfl (ez (K:=K) rfl (ci (ixk K) (eB (K:=K) rfl (pv 0) rfl) (pv 6) (λ_ _=>rfl))) (ik (K:=K) (n:=2) rfl rfl (eG (cI (i:=7) kb.nd rfl (Or.inl rfl)) (eG (cI (i:=8) kb.nd rfl (Or.inl rfl)) h9))) (bZ (uz (pv 2) (pv 7) (vw (K:=K) rfl) (pv 8) y_ j1)))
     (bI (eo PassesOwn.leaving rfl (ez (K:=K) rfl (ci (ixk K) (eB (K:=K) rfl (pv 0) rfl) (pv 6) (λ_ _=>rfl))) (ik (K:=K) (n:=2) rfl rfl (eG (cI (i:=7) kb.nd rfl (Or.inl rfl)) (eG (cI (i:=9) kb.nd rfl (Or.inl rfl)) h9))) (bZ (uz (pv 2) (pv 7) (vw (K:=K) rfl) (pv 9) y9 j1)))
     (bZ (eo PassesOwn.leaving rfl (ez (K:=K) rfl (ci (ixk K) (eB (K:=K) rfl (pv 0) rfl) (pv 6) (λ_ _=>rfl))) (cI (i:=10) kb.nd rfl (Or.inl rfl)) (bZ (hM (pO (kA ou (ci (ixk K) (pv 3) (pv 10) (λ_ _=>rfl)) b8 (ds _)) (pN (c6 T.aH (DF T) ap cw (bq (pv 2) (bq (ci (ixk K) (eB (K:=K) rfl (pv 0) rfl) (pv 10) (λ_ _=>rfl)) bA))))) (hL (pv 4) (pv 10) j1)))))))))))
     (bZ (cW (pv 5)))))))),?_⟩
  walk_at "a"
  nofun;refine Rd.W3 hs (λh xo=>?_);have bu:Zd H (upd H h (.lst (st.map V.int))):=cO xo;have h5:(upd H h (.lst (st.map V.int))) h=some (.lst (st.map V.int)):=Ze;generalize upd H h (.lst (st.map V.int))=a_ at*;have g1:=bu _ _ ak;have g2:=bu _ _ a';nofun;refine Rd.W3 (.of g2) (λl qW=>?_);have bM:Zd a_ (upd a_ l (.lst (rs.map V.int))):=cO qW;have fe:(upd a_ l (.lst (rs.map V.int))) l=some (.lst (rs.map V.int)):=Ze;generalize upd a_ l (.lst (rs.map V.int))=bt at*;have fg:=bM _ _ h5;have Mv:H l=none:=ei bu qW;have f5:=bu.trans bM;have k1:=f5 _ _ ak;have k5:=f5 _ _ dJ;have ev:gy ls st (λ_=>0)=st:=by
   refine qau (by rw[g8 df,df]) λj a1 a2=>?_;rw[kO df (by omega)];unfold Fire.lie fB;simp
  have Mw:cp.length=rs.length:=by rw[da.len];simp[q3]
  nofun;refine Y5 (own:=1) (ey (SqL.of k5)).y (dm (by rw[GE];omega)) (λi=>[some (.ref (cp.getD i 0))]) (λ_=>rfl) (λ_=>true) (λ(i:Nat) v _=>v= .bl (e' ls st rs (λ_=>0) i)) (λ_ _ _ _ _ z=>z) (λi dI ae v bt hU hi bU y gs k=>?_) (λi ae cY hi bU k=>?_) (λk8 i ae cY hi bv hp0 hp1' bU k=>?_) (λab b7 ys hab0 bR DH c8=>?_)
  .obtain⟨rfl,rfl⟩:=y;obtain⟨x1,rfl⟩:∃x1,dI=[x1]:=by
    match dI,gs with
    | [x1],_=>exact⟨x1,rfl⟩
   have dy:i<cp.length:=by simpa using hi
   have c4:(cp.map V.ref).getD i .non= .ref (cp.getD i 0):=by simp[List.getD,dy]
   rw[c4];nofun;exact k _ (Zd.refl _)
  .nofun;exact k ae (Zd.refl ae)
  .have dy:i<rs.length:=by rw[GE] at hi;omega
   obtain⟨x,bE,vs,bP,dj⟩:=Paired.get da (i:=i) (x:=hl ls i) (by simp[q3,dy]);have ex:cp.getD i 0=x:=by simp[List.getD,bE]
   rw[ex];have DI:=f5.trans bU;have dH:=ZdI (ls:=ls) (w:=i);nofun;refine⟨h,x,st,hl ls i,vs,rfl,.of (bU _ _ fg),.of (DI _ _ bP),dj.keep λ_ _ z=>DI _ _ z,BP df,by omega,λb0 cs=>?_⟩;refine k _ b0 cs ?_;rw[Zel df];unfold e';rw[ev,decide_eq_true (show(λ_=>0) i<dF rs i from Mu i dy),qct]
  rw[qaz.mpr (by simp),GE,Mw] at c8;have Mx:ys=(im ls st rs (λ_=>0)).map V.bl:=by
   have:∀{is:List Nat}{zs:List V},Paired (λ(i:Nat) v=>v=V.bl (e' ls st rs (λ_=>0) i)) is zs->zs=(is.map λi=>e' ls st rs (λ_=>0) i).map V.bl:=by
    intro is zs h
    induction h with
    |nil=>rfl
    |cons a _ bQ=>rw[a,bQ];rfl
   exact this c8
  subst Mx;have gP:=bR _ _ fg;have jr:=bR _ _ fe;nofun;refine⟨qat _,λr fy=>?_⟩;have b2:Zd b7 (upd b7 r (.lst [])):=cO fy;have eX:(upd b7 r (.lst [])) r=some (.lst []):=Ze;generalize upd b7 r (.lst [])=bW at*;have gj:=f5.trans (bR.trans b2);have Mz:=b2 _ _ DH;have jt:=b2 _ _ gP;have jj:=b2 _ _ jr;have xp:h≠l:=c3 h5 qW;have tL:h≠ab:=c3 fg hab0;have xq:l≠ab:=c3 fe hab0;have xr:h≠r:=c3 gP fy;have nP:l≠r:=c3 jr fy;have xt:ab≠r:=c3 DH fy;have DJ:H ab=none:=ei f5 hab0;have tK:H r=none:=ei (f5.trans bR) fy;have MA:dZ rs (λ_=>0)=rs:=by
   refine qau (by simp[dZ]) λv a1 a2=>?_;have:=fu rs[v] (GM a2);simp[dZ,dF,List.getD,a2];omega
  nofun;refine Zc0 (λm af ae=>∃(bF:List Nat)(d:Nat->Nat)(a1 a2 a3 a4 a5:Option V),m=tot rs-bF.length/\af=[some (.ref p),some (.ref s),some (.ref h),some (.ref l),some (.ref ab),some (.ref r),a1,a2,a3,a4,a5]/\Zd H ae/\Fire.Z1 (jK ls st rs) (λ_=>0) bF d/\ae h=some (.lst ((gy ls st d).map V.int))/\ae l=some (.lst ((dZ rs d).map V.int))/\ae ab=some (.lst ((im ls st rs d).map V.bl))/\ae r=some (.lst (bF.map λw:Nat=>V.int w))) _ ⟨[],λ_=>0,_,_,_,_,_,rfl,rfl,gj,.nil _,by rw[ev];exact jt,by rw[MA];exact jj,Mz,eX⟩ ?_;rintro m af b0 ⟨bF,d,a1,a2,a3,a4,a5,rfl,rfl,cs,eM,wE,MB,xu,iA⟩;nofun;refine⟨ab,_,rfl,.inl (SqL.of xu),rfl,Kf _,?_⟩;rw[if_neg (by decide),BX];nofun;refine V4 (λc=>Zet ?_) (λc=>?_)
  .have ea:true∈im ls st rs d:=by simpa using c
   obtain⟨w,kZ,DK⟩:=BY ea;have mE:w<rs.length:=by have:=(qaa.mp kZ).1;rw[Ka] at this;exact this
   have ju:dN ls st rs d w:=by
    rw[Zg4 mE] at kZ;exact(nL df cf mE).mp (qam kZ)
   have MC:jK ls st rs d w:=⟨ju,λv bS=>by
    have:=DK v bS;rw[Zg4 (by omega)] at this;exact(J' df cf (by omega)).mp (qam this)⟩
   have MD:=eM.snoc MC;have cD:=ZmB (io eM) ju;have e8:(0:Int)<=(w:Int):=qaW w;have Cd:(bF.map λw:Nat=>V.int w).length<sizeLine:=dm (by rw[GE];omega);have SV:(w:Int)<((dZ rs d).map V.int).length:=by rw[GE,nM];omega
   nofun;refine Rd.ZnF xu kZ DK ?_;nofun;have dY:Zd H (upd b0 r (.lst ((bF.map λw:Nat=>V.int w)++ [.int w]))):=cs.new tK;have xv:(upd b0 r (.lst ((bF.map λw:Nat=>V.int w)++ [.int w]))) r=some (.lst ((bF++ [w]).map λw:Nat=>V.int w)):=by rw[Ze];simp
   have pj:(upd b0 r (.lst ((bF.map λw:Nat=>V.int w)++ [.int w]))) h=some (.lst ((gy ls st d).map V.int)):=by rw[b6 xr];exact wE
   have ME:(upd b0 r (.lst ((bF.map λw:Nat=>V.int w)++ [.int w]))) l=some (.lst ((dZ rs d).map V.int)):=by rw[b6 nP];exact MB
   have DL:(upd b0 r (.lst ((bF.map λw:Nat=>V.int w)++ [.int w]))) ab=some (.lst ((im ls st rs d).map V.bl)):=by rw[b6 xt];exact xu
   generalize upd b0 r (.lst ((bF.map λw:Nat=>V.int w)++ [.int w]))=c9 at*;have xw:=Y1 (ns:=dZ rs d) e8 (by rw[nM];omega);nofun;have ti:((dZ rs d).map V.int).set (w:Int).toNat (V.int ((dZ rs d).getD (w:Int).toNat 0-1))=(dZ rs (Fire.bump d w)).map V.int:=by
    rw[FM,<-BZ mE,qbB]
   rw[ti];have fb:Zd H (upd c9 l (.lst ((dZ rs (Fire.bump d w)).map V.int))):=dY.new Mv;have MF:(upd c9 l (.lst ((dZ rs (Fire.bump d w)).map V.int))) l=some (.lst ((dZ rs (Fire.bump d w)).map V.int)):=Ze;have nX:(upd c9 l (.lst ((dZ rs (Fire.bump d w)).map V.int))) r=_:=(b6 nP.symm).trans xv;have MG:(upd c9 l (.lst ((dZ rs (Fire.bump d w)).map V.int))) h=_:=(b6 xp).trans pj;have MH:(upd c9 l (.lst ((dZ rs (Fire.bump d w)).map V.int))) ab=_:=(b6 xq.symm).trans DL;generalize upd c9 l (.lst ((dZ rs (Fire.bump d w)).map V.int))=di at*;clear xv pj DL ME xw ti;obtain⟨x,vs,gB,bp,DM⟩:=da.at e8 (l:=hl ls w) (by simp[q3,mE]);obtain⟨y,tx,lQ,bO,tM⟩:=kQ.at e8 (l:=o4 ls w) (by simp[BS,mE]);obtain⟨ms,qH,DN⟩:=mv.2 w mE;have MI:atI (gA.map V.ref) (w:Int)=some (.ref (gA.getD w 0)):=gJ (by rw[qak,GT (show w<gA.length by rw[mv.1];exact mE)];simp[List.getD,show w<gA.length by rw[mv.1];exact mE]);have fJ:=fb _ _ ak;have s_:=fb _ _ dJ;have fG:=fb _ _ bp;have fA:vs.length=(eK ls w).length:=by rw[<-Paired.length DM];unfold hl;simp
   have MJ:tx.length=(d1 ls w).length:=by rw[<-Paired.length tM];unfold o4;simp
   have iO:=g8 (d:=d) df;generalize MK:gy ls st d=h1 at*;nofun;refine Ya (ey (SqL.of bp)) (λj af ae=>Zd H ae/\(∃a2 a3 a4 a5,af=[some (.ref p),some (.ref s),some (.ref h),some (.ref l),some (.ref ab),some (.ref r),some (.int w),a2,a3,a4,a5])/\ae l=some (.lst ((dZ rs (Fire.bump d w)).map V.int))/\ae r=some (.lst ((bF++ [w]).map λw:Nat=>V.int w))/\ae ab=some (.lst ((im ls st rs d).map V.bl))/\ae h=some (.lst ((bump (λi=>-(ls.getD i dB).take) h1 ((eK ls w).take j)).map V.int))) ⟨fb,⟨_,_,_,_,rfl⟩,MF,nX,MH,MG⟩ (λi af ae h=>h.1) ?_ ?_
   .rintro j af eU bw ⟨e4,⟨a2,a3,a4,a5,rfl⟩,tN,n5,xx,mF⟩;have gb:j<(eK ls w).length:=by omega
    obtain⟨t,fH,eR⟩:=Zkp DM gb;have cD:=ZcI (GM gb);have oL:=ZfG (f:=λi=>-(ls.getD i dB).take) (hs:=h1) gb;rw[fH];refine Rd.V3 (.of (e4 _ _ eR)) rfl ?_;generalize (eK ls w)[j]=m at*;have bl:=VH (λi=>-(ls.getD i dB).take) ((eK ls w).take j) h1;generalize bump (λi=>-(ls.getD i dB).take) h1 ((eK ls w).take j)=us at*;have wG:=Y1 (ns:=us) (k:=(m:Int)) (qaW m) (by omega);have ML:(m:Int)<((us.map V.int).length:Int):=by simp;omega
    nofun;refine⟨e4.new xo,⟨_,_,_,_,rfl⟩,by rw[b6 xp.symm];exact tN,by rw[b6 xr.symm];exact n5,by rw[b6 tL.symm];exact xx,?_⟩;rw[Ze,oL,qbB]
    rfl
   .rintro af eU ⟨e4,⟨a2,a3,a4,a5,rfl⟩,tN,n5,xx,mF⟩;have SW:=e4 _ _ ak;have SX:=e4 _ _ hZ;have SY:=e4 _ _ bO;rw[fA,qaD] at mF;nofun;have bl:=VH (λi=>-(ls.getD i dB).take) (eK ls w) h1;refine Ya (ey (SqL.of bO)) (λj af ae=>Zd H ae/\(∃a2 a3 a4 a5,af=[some (.ref p),some (.ref s),some (.ref h),some (.ref l),some (.ref ab),some (.ref r),some (.int w),a2,a3,a4,a5])/\ae l=some (.lst ((dZ rs (Fire.bump d w)).map V.int))/\ae r=some (.lst ((bF++ [w]).map λw:Nat=>V.int w))/\ae ab=some (.lst ((im ls st rs d).map V.bl))/\ae h=some (.lst ((bump (λi=>(ls.getD i dB).give) (bump (λi=>-(ls.getD i dB).take) h1 (eK ls w)) ((d1 ls w).take j)).map V.int))) ⟨e4,⟨_,_,_,_,rfl⟩,tN,n5,xx,mF⟩ (λi af ae h=>h.1) ?_ ?_
    .rintro j af f' bw ⟨hy,⟨a2,a3,a4,a5,rfl⟩,th,rr,xy,tO⟩;have gb:j<(d1 ls w).length:=by omega
     obtain⟨t,fH,eR⟩:=Zkp tM gb;have cD:=ZaI (GM gb);have oL:=ZfG (f:=λi=>(ls.getD i dB).give) (hs:=bump (λi=>-(ls.getD i dB).take) h1 (eK ls w)) gb;rw[fH];refine Rd.V3 (.of (hy _ _ eR)) rfl ?_;generalize (d1 ls w)[j]=m at*;have S0:=VH (λi=>(ls.getD i dB).give) ((d1 ls w).take j) (bump (λi=>-(ls.getD i dB).take) h1 (eK ls w));generalize bump (λi=>(ls.getD i dB).give) (bump (λi=>-(ls.getD i dB).take) h1 (eK ls w)) ((d1 ls w).take j)=us at*;have wG:=Y1 (ns:=us) (k:=(m:Int)) (qaW m) (by omega);have ML:(m:Int)<((us.map V.int).length:Int):=by simp;omega
     nofun;refine⟨hy.new xo,⟨_,_,_,_,rfl⟩,by rw[b6 xp.symm];exact th,by rw[b6 xr.symm];exact rr,by rw[b6 tL.symm];exact xy,?_⟩;rw[Ze,oL,qbB]
     rfl
    .rintro af f' ⟨hy,⟨a2,a3,a4,a5,rfl⟩,th,rr,xy,tO⟩;rw[MJ,qaD,J_ iO] at tO;have S1:=hy _ _ ak;have S2:=hy _ _ dJ;have S3:=hy _ _ o5;have MM:=hy _ _ qH;nofun;rw[<-MK,wl df cf] at tO;have DO:=g8 (d:=Fire.bump d w) df;refine Ya (ey (SqL.of qH)) (λj af ae=>Zd H ae/\(∃a2 a3 a4 a5,af=[some (.ref p),some (.ref s),some (.ref h),some (.ref l),some (.ref ab),some (.ref r),some (.int w),a2,a3,a4,a5])/\ae l=some (.lst ((dZ rs (Fire.bump d w)).map V.int))/\ae r=some (.lst ((bF++ [w]).map λw:Nat=>V.int w))/\ae h=some (.lst ((gy ls st (Fire.bump d w)).map V.int))/\ae ab=some (.lst ((jq ls st rs d (Fire.bump d w) (ms.take j)).map V.bl))) ⟨hy,⟨_,_,_,_,rfl⟩,th,rr,tO,by rw[List.take_zero,Kg];exact xy⟩ (λi af ae h=>h.1) ?_ ?_
     .rintro j af fj bw ⟨gv,⟨a2,a3,a4,a5,rfl⟩,tP,tQ,pr,tR⟩;have gb:j<ms.length:=by simpa using bw
      have c4:(ms.map V.int).getD j .non= .int ms[j]:=by simp[List.getD,gb]
      have qz:=(DN.2 ms[j]).mp (GM gb);have kl:0<=ms[j]/\ms[j]<(rs.length:Int):=by
       rcases qz with z|⟨i,hi,z⟩
       .omega
       .have cm:=ZaI hi;have BR:=cf ls[i] (GM cm);rw[dr cm] at z;omega
      obtain⟨v,bS⟩:∃v:Nat,ms[j]=(v:Int):=⟨ms[j].toNat,by omega⟩;have DP:v<rs.length:=by omega
      have mG:ms.take (j+1)=ms.take j++ [(v:Int)]:=by rw[qad gb,bS]
      rw[c4,bS];obtain⟨x2,MN,S4,jJ,MO⟩:=da.at (w:=(v:Int)) (qaW v) (l:=hl ls v) (by simp[q3,DP]);have ga:=gv _ _ ak;have CD:=gv _ _ dJ;have MP:=gv _ _ jJ;have dH:=ZdI (ls:=ls) (w:=v);have xw:=Y1 (ns:=dZ rs (Fire.bump d w)) (k:=(v:Int)) (qaW v) (by rw[nM];omega);rw[FM,s9 DP] at xw;have S5:(v:Int)<(((jq ls st rs d (Fire.bump d w) (ms.take j)).map V.bl).length:Int):=by simp[jq];omega
      nofun;refine V4 (λeb=>?_) (λeb=>?_)
      .have MQ:Fire.bump d w v<dF rs v:=by have:=of_decide_eq_true eb;omega
       nofun;refine⟨h,x2,gy ls st (Fire.bump d w),hl ls v,MN,rfl,.of pr,.of MP,MO.keep λ_ _ z=>gv _ _ z,BP DO,by omega,λiL jh=>?_⟩;rw[Zel DO];have qK:iW ls (gy ls st (Fire.bump d w)) v=e' ls st rs (Fire.bump d w) v:=by unfold e';rw[decide_eq_true MQ,qct]
       rw[qK];have S6:=jh _ _ tR;have MR:=jh _ _ tP;have MS:=jh _ _ tQ;have DQ:=jh _ _ pr;nofun;refine⟨(gv.trans jh).new DJ,⟨_,_,_,_,rfl⟩,by rw[b6 xq];exact MR,by rw[b6 xt.symm];exact MS,by rw[b6 tL];exact DQ,?_⟩;rw[Ze,mG,<-Zf4,qbB]
       rfl
      .have oS:¬Fire.bump d w v<dF rs v:=by
        have:=of_decide_eq_false (by simpa using eb:decide (0<(dF rs v:Int)-(Fire.bump d w v:Int))=false);omega
       have qK:e' ls st rs (Fire.bump d w) v=false:=by unfold e';rw[decide_eq_false oS,Bool.false_and]
       nofun;refine⟨gv.new DJ,⟨_,_,_,_,rfl⟩,by rw[b6 xq];exact tP,by rw[b6 xt.symm];exact tQ,by rw[b6 tL];exact pr,?_⟩;rw[Ze,mG,<-Zf4,qbB,qK]
       rfl
     .rintro af fj ⟨gv,⟨a2,a3,a4,a5,rfl⟩,tP,tQ,pr,tR⟩;rw[GE,qaD,Kh df cf DN] at tR;nofun;exact⟨tot rs-(bF++ [w]).length,by rw[qaA,qaZ];omega,bF++ [w],Fire.bump d w,_,_,_,_,_,rfl,rfl,gv,MD,pr,tP,tR,tQ⟩
  .nofun;exact q r b0 bF d tK cs iA eM (Kb df cf (by simpa using c))
inductive DR(vs:List V)(H:Hp)(Q:VK)(E:XK):Prop
 |mk (p s c:Addr) (ls:List B5) (rs st cv:List Int) (cQ:vs=[.ref p,.ref s,.ref c]) (cE:kP T H p ls rs) (cJ:SqL K H s (st.map V.int)) (dq:SqL K H c (cv.map V.int)) (d2:st.length=ls.length) (em:cv.length=rs.length) (e2:ZB ls rs.length) (fx:Yx ls) (h2:ls.length<=1000) (jN:(∀x∈cv,0<=x/\x<=1000)) (kg:∀(r:Addr)(ae:Hp)(kvs:List (Key×V)),H r=none->Zd H ae->ae r=some (.dK kvs)->Us ls rs st cv ls.length kvs->Q (.ref r) ae):DR vs H Q E
theorem MT:OkM P w mg base 1 T.a5 (DR T):=by
 have pp:=T.i;have pq:=T.m;refine T.a5.F.okX qQ (λvs H Q E h=>?_) (λcz A outer s H vs Q E ap h=>?_)
 .obtain⟨p,s,c,ls,rs,st,cv,rfl,_⟩:=h
  rfl
 .have hu:=ap.hu;obtain⟨p,s,c,ls,rs,st,cv,rfl,bv,hs,lq,df,ew,cf,hsz,hz,xA,q⟩:=h;obtain⟨bx,a,b,eb,xn,e,cp,lP,gA,bs,ak,a',bL,cu,dJ,da,hZ,kQ,o5,mv⟩:=id bv;have eJ:=cu.length;refine⟨_,(bI (cy (i:=3) qQ.nd rfl (Or.inl rfl) na)
     (bI (eo PassesOwn.leaving rfl (mm (K:=K) rfl rfl T.k (bq (eB (K:=K) rfl (pv 0) rfl) bA)) (ik (K:=K) (n:=2) rfl rfl (eG (cI (i:=4) qQ.nd rfl (Or.inl rfl)) (eG (cI (i:=5) qQ.nd rfl (Or.inl rfl)) h9))) (bI (cy (i:=6) qQ.nd rfl (Or.inl rfl) (cK pW (cK (hh K) (ci (ixk K) (pv 1) (pv 4) (λ_ _=>rfl)) (cK gL (ci (ixk K) (pv 5) b8 (λ_ _=>rfl)) (ci (ixk K) (pv 2) (ci (ixk K) (pv 5) b8 (λ_ _=>rfl)) (λ_ _=>rfl)))) (cK gL (ci (ixk K) (pv 5) b8 (λ_ _=>rfl)) (ci (ixk K) (pv 2) (ci (ixk K) (pv 5) b8 (λ_ _=>rfl)) (λ_ _=>rfl)))))
     (bZ (dQ (PW.pt (pM (dk l9 (ci (ixk K) (pv 2) (ci (ixk K) (pv 5) b8 (λ_ _=>rfl)) (λ_ _=>rfl)) (ci (ixk K) (eB (K:=K) rfl (pv 0) rfl) (ci (ixk K) (pv 5) b8 (λ_ _=>rfl)) (λ_ _=>rfl)) (ds _)) (pK (dk l9 (pv 6) (ci (ixk K) (pv 5) b8 (λ_ _=>rfl)) (ds _))))) (bZ (eF (fv (K:=K) rfl qbh PySem.F.slot_dict_setdefault PySem.F.type_dict_setdefault I1 (pv 3) (bq (ci (ixk K) (pv 5) b8 (λ_ _=>rfl)) (bq (pv 4) bA))))) dX))))
     (bZ (cW (pv 3))))),?_⟩
  walk_at "a"
  nofun;intro r ap;have bu:Zd H (upd H r (.dK [])):=cO ap;have eu:(upd H r (.dK [])) r=some (.dK []):=Ze;generalize upd H r (.dK [])=a_ at*;have g1:=bu _ _ ak;have g3:=bu _ _ bL;nofun;refine Wp (mq (SqL.of bL)) (λi af ae=>∃(kvs:List (Key×V))(a1 a2 a3:Option V),af=[some (.ref p),some (.ref s),some (.ref c),some (.ref r),a1,a2,a3]/\Zd H ae/\ae r=some (.dK kvs)/\Us ls rs st cv i kvs) ⟨[],_,_,_,rfl,bu,eu,Us.nil⟩ (λi af ae h=>(let⟨_,_,_,_,_,s,_⟩:=h;s)) ?_ ?_
  .rintro i af bW v b0 hi ⟨kvs,a1,a2,a3,rfl,b2,eX,hw⟩ ⟨t,bX,rfl,rfl⟩;have cm:i<ls.length:=by omega
   obtain⟨u,fO,hH⟩:=cu.getD (i:=i) cm;rw[fO];have MU:r≠t:=c3 eX bX;have cs:Zd H (upd bW t (.tup [.int i,.ref u])):=b2.trans (cO bX);have nZ:(upd bW t (.tup [.int i,.ref u])) t=some (.tup [.int i,.ref u]):=Ze;have iA:(upd bW t (.tup [.int i,.ref u])) r=some (.dK kvs):=(b6 MU).trans eX;generalize upd bW t (.tup [.int i,.ref u])=b0 at*;refine Rd.V3 (.of nZ) rfl ?_;have ai:=cf ls[i] (GM cm);obtain⟨cX,b1,dS,fN,fz,dH,eh,dL⟩:=hsz i cm;rw[<-dr (d:=dB) cm] at ai;have n6:=cs _ _ hH;have S7:=cs _ _ ak;have S8:=cs _ _ a';have rf:=cs.seq hs;have rd:=cs.seq lq;have gw:=hw.len;have jx:kvs.length<sizeLine:=dm (by omega);have ps:=hw.skip;have xB:=hw.add;unfold hm at ps xB;generalize ls.getD i dB=bb at*;have cb:∀{w:Int},0<=w->w<rs.length->∃n:Nat,cv.getD w.toNat 0=(n:Int)/\n<2 ^ 10:=λ{w} a b=>by
    have bz:cv.getD w.toNat 0∈cv:=by rw[dr (by omega)];exact GM _
    obtain⟨x0,x1⟩:=xA _ bz;exact⟨(cv.getD w.toNat 0).toNat,by omega,by omega⟩
   obtain⟨ga,MV,fE⟩:=cb ai.1 ai.2.1;obtain⟨f9,MW,iU⟩:=cb ai.2.2.1 ai.2.2.2;have MX:IntMulOk bb.give (cv.getD bb.giver.toNat 0):=by rw[MV,eh];exact Zcv fz fE (by decide)
   have MY:IntMulOk bb.take (cv.getD bb.taker.toNat 0):=by rw[MW,dL];exact Zcv dH iU (by decide)
   have gB:=Y1 (ns:=st) (k:=(i:Int)) (qaW i) (by omega);have lQ:=Y1 (ns:=cv) (k:=bb.giver) ai.1 (by omega);have wG:=Y1 (ns:=cv) (k:=bb.taker) ai.2.2.1 (by omega);have MI:=Y1 (ns:=rs) (k:=bb.taker) ai.2.2.1 (by omega);rw[FM] at gB;dsimp only[B5.v] at n6;nofun;refine V4 (λe9=>?_) (λe9=>?_)
   .have MZ:=of_decide_eq_true e9;nofun;refine V4 (λkK=>?_) (λkK=>?_)
    .have M0:=of_decide_eq_true kK;nofun;refine⟨.inr (.inr (.inl ⟨rfl,.inl ⟨_,iA⟩⟩)),?_⟩;nofun;refine Rd.Zor iA jx (λy bO=>?_) (λbH=>?_)
     .nofun;exact⟨kvs,_,_,_,rfl,cs,iA,ps λ_=>⟨y,bO⟩⟩
     .nofun;exact⟨_,_,_,_,rfl,cs.new ap,Ze,xB ⟨MZ,M0⟩ bH⟩
    .nofun;exact⟨kvs,_,_,_,rfl,cs,iA,ps λz=>absurd (decide_eq_true z.2) kK⟩
   .nofun;exact⟨kvs,_,_,_,rfl,cs,iA,ps λz=>absurd (decide_eq_true z.1) e9⟩
  .rintro af bW ⟨kvs,a1,a2,a3,rfl,b2,eX,hw⟩;rw[eJ] at hw;nofun;exact q r bW kvs ap b2 eX hw
inductive DS(vs:List V)(H:Hp)(Q:VK)(E:XK):Prop
 |mk (p s c:Addr) (ls:List B5) (rs st cv:List Int) (cQ:vs=[.ref p,.ref s,.ref c]) (cE:kP T H p ls rs) (cJ:SqL K H s (st.map V.int)) (dq:SqL K H c (cv.map V.int)) (d2:st.length=ls.length) (em:cv.length=rs.length) (e2:ZB ls rs.length) (fx:Yx ls) (h2:ls.length<=1000) (jN:rs.length<=1000) (kg:(∀x∈cv,0<=x/\x<=1000)) (q_:(∃j<ls.length,hm ls rs st cv j)) (xC:(∀j<ls.length,hm ls rs st cv j->∃i<ls.length,gg ls i=mx ls j/\hm ls rs st cv i)) (M3:∀(r:Addr)(ae:Hp)(ring:List Nat),H r=none->Zd H ae->ae r=some (.lst (ring.map λj:Nat=>V.int j))->Zbz ls rs st cv ring->Q (.ref r) ae):DS vs H Q E
theorem M4:OkM P w mg base 2 T.a6 (DS T):=by
 have pp:=T.i;have pq:=T.m;refine T.a6.F.okX oX (λvs H Q E h=>?_) (λcz A outer s H vs Q E ap h=>?_)
 .obtain⟨p,s,c,ls,rs,st,cv,rfl,_⟩:=h
  rfl
 .have hu:=ap.hu;obtain⟨p,s,c,ls,rs,st,cv,rfl,bv,hs,lq,df,ew,cf,hsz,hz,bH,xA,⟨xD,xE,M5⟩,tn,q⟩:=h;obtain⟨bx,a,b,eb,xn,e,cp,lP,gA,bs,ak,a',bL,cu,dJ,da,hZ,kQ,o5,mv⟩:=id bv;refine⟨_,(bI (cy (i:=3) oX.nd rfl (Or.inl rfl) (fk (pv 0) T.i T.a5 (MT T) ap cw (bq (pv 1) (bq (pv 2) bA))))
     (bI (cy (i:=4) oX.nd rfl (Or.inl rfl) na)
     (bI (cy (i:=5) oX.nd rfl (Or.inl rfl) (gX bA))
     (bI (cy (i:=6) oX.nd rfl (Or.inl rfl) (dt (vL rfl) (by rfl) T.y qbq (bq (pv 3) bA)))
     (bI (pQ PassesOwn.leaving (dk (oN hu) (pv 6) (pv 4) (by with_unfolding_all rfl)) (bI (hM (dt (eW K) (by rfl) T.f qao (bq (pv 5) bA)) (hL (pv 4) (pv 6) (ml hu)))
     (bI (eF (fv (K:=K) rfl qai qaq qar g0 (pv 5) (bq (ci (nt hu) (pv 3) (pv 6) (λ_ _=>rfl)) bA)))
     (bZ (cy (i:=6) oX.nd rfl (Or.inl rfl) (ci (ixk K) (ci (ixk K) (eB (K:=K) rfl (pv 0) rfl) (ci (nt hu) (pv 3) (pv 6) (λ_ _=>rfl)) (λ_ _=>rfl)) b8 (λ_ _=>rfl)))))))
     (bZ (cW (r9 (sv (K:=K) rfl) (pv 5) (p6 (ci (nt hu) (pv 4) (pv 6) (λ_ _=>rfl))) uN)))))))),?_⟩
  walk_at "a"
  nofun;refine⟨p,s,c,ls,rs,st,cv,rfl,bv,hs,lq,df,ew,cf,hsz,hz,xA,λwa a_ kvs xB bu DT hw=>?_⟩;nofun;intro pl eT;have bM:Zd a_ (upd a_ pl (.dK [])):=cO eT;have DU:(upd a_ pl (.dK [])) pl=some (.dK []):=Ze;generalize upd a_ pl (.dK [])=bt at*;have DV:=bM _ _ DT;have pu:H pl=none:=ei bu eT;nofun;refine⟨qat _,λy bO=>?_⟩;have bR:Zd bt (upd bt y (.lst [])):=cO bO;have sA:(upd bt y (.lst [])) y=some (.lst (([]:List Nat).map λj:Nat=>V.int j)):=Ze;generalize upd bt y (.lst [])=b7 at*;have DW:=bR _ _ DV;have M6:=bR _ _ DU;have gi:=bu.trans (bM.trans bR);have iu:H y=none:=ei (bu.trans bM) bO;have DX:wa≠pl:=c3 DT eT;have DY:wa≠y:=c3 DV bO;have DZ:pl≠y:=c3 DU bO;obtain⟨b5,xF,jI⟩:=hw.keys;obtain⟨ke,M7⟩:=hw.all xD xE M5;have vA:0<kvs.length:=by
   cases kvs with
   |nil=>simp[ZdQ] at M7
   |cons x xs=>exact Nat.succ_pos _
  nofun;refine Rd.Zpk DW xF vA (λM lw D0=>?_);obtain⟨M8,M9⟩:=jI M lw;nofun;refine Zc0 (λm af ae=>∃(ys:List Nat)(kp:List (Key×V))(w:Int)(xG:V),m=rs.length+1-ys.length/\af=[some (.ref p),some (.ref s),some (.ref c),some (.ref wa),some (.ref pl),some (.ref y),some (.int w)]/\db [pl,y] b7 ae/\ae pl=some (.dK kp)/\ae y=some (.lst (ys.map λj:Nat=>V.int j))/\Ui ls rs st cv ys w kp/\valV kvs (Sum.inl w)=some xG) _ ⟨[],[],M,M8,rfl,rfl,db.refl,M6,sA,Ui.nil M,M9⟩ ?_;rintro m af bW ⟨ys,kp,w,xG,rfl,rfl,d0,M_,lF,rv,gp⟩;have S9:=rv.short cf;have M':=d0.keep _ _ DW (by simp[DX,DY]);obtain⟨j,bw,rfl,Na,tS⟩:=hw.val w xG gp;nofun;have Nb:gg ls j=w:=Na;have S_:=rv.step (j:=j);have i2:=d0.keep _ _ ((bu.trans (bM.trans bR)) _ _ bL) (by
   have ga:b≠pl:=c3 bL pu;have f9:b≠y:=c3 bL iu;simp[ga,f9])
  have mH:=d0.keep _ _ ((bu.trans (bM.trans bR)) _ _ ak) (by
   have ga:p≠pl:=c3 ak pu;have f9:p≠y:=c3 ak iu;simp[ga,f9])
  obtain⟨u,fO,hH⟩:=cu.getD (i:=j) bw;have kh:=d0.tups _ _ (gi _ _ hH);have sB:u≠pl:=c3 hH pu;have Nc:u≠y:=c3 hH iu;have iy:p≠pl:=c3 ak pu;have Nd:p≠y:=c3 ak iu;have Nf:b≠pl:=c3 bL pu;have Ng:b≠y:=c3 bL iu;refine V4 (λiv=>Zet ?_) (λiv=>?_)
  .have ic:valV kp (Sum.inl w)=none:=by simpa using iv
   have gw:kp.length<sizeLine:=dm (by have:=rv.len;omega);have Ta:(ys.map λj:Nat=>V.int j).length<sizeLine:=dm (by rw[GE];omega);have xH:=rv.step ic bw tS Nb;have ip:=xH.short cf;rw[qaA,qaZ] at ip;nofun;have d6:db [pl,y] bW (upd bW pl (.dK (d_ kp (Sum.inl w) (.int ys.length)))):=gN (by simp) M_ (by intro _ z;cases z);have Nh:(upd bW pl (.dK (d_ kp (Sum.inl w) (.int ys.length)))) pl=some (.dK (d_ kp (Sum.inl w) (.int ys.length))):=Ze;have Ni:(upd bW pl (.dK (d_ kp (Sum.inl w) (.int ys.length)))) y=_:=(b6 DZ.symm).trans lF;have Nj:(upd bW pl (.dK (d_ kp (Sum.inl w) (.int ys.length)))) wa=_:=(b6 DX).trans M';have n7:(upd bW pl (.dK (d_ kp (Sum.inl w) (.int ys.length)))) p=_:=(b6 iy).trans mH;have xI:(upd bW pl (.dK (d_ kp (Sum.inl w) (.int ys.length)))) b=_:=(b6 Nf).trans i2;have n6:(upd bW pl (.dK (d_ kp (Sum.inl w) (.int ys.length)))) u=_:=(b6 sB).trans kh;have xJ:((ys.map λj:Nat=>V.int j).length:Int)=(ys.length:Int):=by simp
   rw[xJ];generalize upd bW pl (.dK (d_ kp (Sum.inl w) (.int ys.length)))=b0 at*;nofun;have sm:db [pl,y] b0 (upd b0 y (.lst ((ys.map λj:Nat=>V.int j)++ [.int j]))):=gN (by simp) Ni (by intro _ z;cases z);have Nk:(upd b0 y (.lst ((ys.map λj:Nat=>V.int j)++ [.int j]))) y=some (.lst ((ys++ [j]).map λj:Nat=>V.int j)):=by rw[Ze];simp
   have Nl:(upd b0 y (.lst ((ys.map λj:Nat=>V.int j)++ [.int j]))) pl=_:=(b6 DZ).trans Nh;have Tb:(upd b0 y (.lst ((ys.map λj:Nat=>V.int j)++ [.int j]))) wa=_:=(b6 DY).trans Nj;have mI:(upd b0 y (.lst ((ys.map λj:Nat=>V.int j)++ [.int j]))) p=_:=(b6 Nd).trans n7;have pd:(upd b0 y (.lst ((ys.map λj:Nat=>V.int j)++ [.int j]))) b=_:=(b6 Ng).trans xI;have rx:(upd b0 y (.lst ((ys.map λj:Nat=>V.int j)++ [.int j]))) u=_:=(b6 Nc).trans n6;generalize upd b0 y (.lst ((ys.map λj:Nat=>V.int j)++ [.int j]))=c9 at*;have km:=d0.trans (d6.trans sm);have eJ:=cu.length;have gB:atI bs (j:Int)=some (.ref u):=gJ (by rw[GT (show j<bs.length by omega),<-fO,dr (show j<bs.length by omega)]);obtain⟨i,hi,Nn,pa⟩:=tn j bw tS;obtain⟨D1,No⟩:=hw.all i hi pa;have D2:valV kvs (Sum.inl (mx ls j))=some D1:=by rw[<-Nn];exact No
   have eh:mx ls j=(ls.getD j dB).giver:=rfl;rw[eh] at xH D2;generalize ls.getD j dB=bb at*;dsimp only[B5.v] at rx;nofun;exact⟨_,by rw[qaA,qaZ];omega,ys++ [j],_,bb.giver,D1,rfl,rfl,km,Nl,Nk,xH,D2⟩
  .obtain⟨tT,Np⟩:∃tT,valV kp (Sum.inl w)=some tT:=by
    cases e:valV kp (Sum.inl w) with
    |none=>rw[e] at iv;exact absurd rfl iv
    |some tT=>exact⟨tT,rfl⟩
   obtain⟨k,rfl,br,n8⟩:=rv.ring Np;nofun;have b2:Zd H bW:=λx o e=>d0.keep _ _ (gi _ _ e) (by
    have ga:x≠pl:=c3 e pu;have f9:x≠y:=c3 e iu;simp[ga,f9])
   refine Rd.slL (.of lF) (λr ap=>?_);refine q r _ (ys.drop k) (ei b2 ap) (b2.trans (cO ap)) ?_ n8;rw[Ze,Kj (by rw[GE];omega),List.map_drop]
inductive D3(vs:List V)(H:Hp)(Q:VK)(E:XK):Prop
 |mk (p s:Addr) (ls:List B5) (rs st:List Int) (cQ:vs=[.ref p,.ref s]) (cE:kP T H p ls rs) (cJ:SqL K H s (st.map V.int)) (dq:st.length=ls.length) (d2:ZB ls rs.length) (em:Yx ls) (e2:W7 ls rs) (fx:ls.length<=1000) (h2:rs.length<=1000) (jN:(∀r∈rs,1<=r)) (kg:(∀x∈st,0<=x)) (q_:tot rs<=1000) (xC:(∀(t r:Addr)(ae:Hp)(bF:List Nat)(d:Nat->Nat),H r=none->Zd H ae->ae t=some (.tup [.ref r,.non])->ae r=some (.lst (bF.map λw:Nat=>V.int w))->Fire.Z1 (jK ls st rs) (λ_=>0) bF d->(∀v<rs.length,d v=dF rs v)->Q (.ref t) ae)) (M3:(∀(t u c g:Addr)(ae:Hp)(bF:List Nat)(d:Nat->Nat)(ring:List Nat),H c=none->H g=none->Zd H ae->ae t=some (.tup [.non,.ref u])->ae u=some (.tup [.ref c,.ref g])->ae c=some (.lst ((hE rs.length d).map V.int))->ae g=some (.lst (ring.map λj:Nat=>V.int j))->Fire.Z1 (jK ls st rs) (λ_=>0) bF d->(∀w,¬dN ls st rs d w)->(∃v<rs.length,d v<dF rs v)->Zbz ls rs st (hE rs.length d) ring->Q (.ref t) ae)):D3 vs H Q E
theorem Nq:OkM P w mg base 3 T.a7 (D3 T):=by
 have pp:=T.i;have pq:=T.m;refine T.a7.F.okX v8 (λvs H Q E h=>?_) (λcz A outer s H vs Q E ap h=>?_)
 .obtain⟨p,s,ls,rs,st,rfl,_⟩:=h
  rfl
 .have hu:=ap.hu;obtain⟨p,s,ls,rs,st,rfl,bv,hs,df,cf,hsz,gS,hz,bH,fu,h1,xm,ce,cG⟩:=h;refine⟨_,(bI (cy (i:=2) v8.nd rfl (Or.inr rfl) (fk (pv 0) T.i T.aI (DG T) ap cw (bq (pv 1) bA)))
     (bI (dQ (dk (fL (K:=K) rfl hu) (dt (eW K) (by rfl) T.f qao (bq (pv 2) bA)) (dt (vr (K:=K) rfl rfl) (by rfl) T.X PyProof.Rows.boot_sum (bq (eB (K:=K) rfl (pv 0) rfl) bA)) (ds _)) (bZ (cW (hR (bq (pv 2) (bq WJ bA))))) dX)
     (bI (nk (j:=3) rfl (e5 (x:="work") (zs:=["row"]) (ix:=[2]) (cn vX) ["self","starts","row","counts"] rfl rfl (by decide+kernel)) (hc rfl T.g (bq (dt (eW K) (by rfl) T.f qao (bq (eB (K:=K) rfl (pv 0) rfl) bA)) bA)) (λcg C s H fp=>⟨(cI (i:=0) (show(["work","row"]:List Str).Nodup by decide+kernel) rfl (Or.inl rfl)),fW,(fv (K:=K) rfl qai PySem.F.slot_list_count PySem.F.type_list_count (Ak (K:=K) rfl) (pv 1) (bq (pv 0) bA))⟩) v8.nd rfl (Or.inl rfl))
     (bZ (cW (hR (bq WJ (bq (hR (bq (pv 3) (bq (fk (pv 0) T.i T.a6 (M4 T) ap cw (bq (pv 1) (bq (pv 3) bA))) bA))) bA)))))))),?_⟩
  walk_at "a"
  nofun;refine⟨p,s,ls,rs,st,rfl,bv,hs,df,cf,hz,bH,fu,xm,λr a_ bF d ap bu eu eM eN=>?_⟩;obtain⟨ip,d9,cD⟩:=kS (io eM);have Nr:=WZ (rs:=rs) λr ap=>(by have:=fu r ap;omega);have kU:=bv.same bu;obtain⟨bx,a,b,c,xn,e,cp,lP,gA,bs,ak,a',bL,cu,dJ,da,hZ,kQ,o5,mv⟩:=id kU;nofun;refine Rd.ZlD (.of a') ?_;rw[<-Nr];nofun;have xJ:((bF.map λw:Nat=>V.int w).length:Int)=(bF.length:Int):=by simp
  rw[xJ];refine V4 (λiv=>?_) (λiv=>?_)
  .have bK:bF.length=tot rs:=by have:=of_decide_eq_true iv;omega
   nofun;refine⟨by show 2<=sizeLine;decide,λt bX=>?_⟩;refine ce t r _ bF d ap (bu.trans (cO bX)) Ze (cO bX _ _ eu) eM (q4 ip ?_);rw[<-d9,bK]
   rfl
  .have bK:bF.length≠tot rs:=λz=>iv (decide_eq_true (by omega));have g4:∃v<rs.length,d v<dF rs v:=by
    by_cases z:∃v<rs.length,d v<dF rs v
    .exact z
    .exfalso;refine bK ?_;rw[d9];have:∀v<rs.length,d v=dF rs v:=λv bS=>by
      have:=ip v bS;rcases qa8 (d v) (dF rs v) with y|y
      .exact absurd ⟨v,bS,y⟩ z
      .omega
     exact Nat.le_antisymm (mw λv bS=>by rw[this v bS];exact qab _) (mw λv bS=>by rw[this v bS];exact qab _)
   have D4:∀v,d v=bF.count v:=λv=>by have:=(io eM).count v;omega
   have nS:(rs.map V.int).length=rs.length:=by simp
   have D5:a_ r=some (.lst ((bF.map λw:Nat=>(w:Int)).map V.int)):=by rw[eu,qaP];rfl
   nofun;refine Z9 Wa (dm (by rw[nS];exact bH)) (λ_=>true) (λi=> .int (((bF.map λw:Nat=>(w:Int)).count (0+(i:Int)):Nat):Int)) (λi ae cY hi bU k=>?_) (λi ae cY hi _ bU k=>?_) (λeb bt hc20 bM j0=>?_)
   .nofun;exact k ae (Zd.refl ae)
   .have fa:=bU _ _ D5;nofun;refine Rd.Zkn (SqL.of fa) ?_;exact k ae (Zd.refl ae)
   .have j5:bt eb=some (.lst ((hE rs.length d).map V.int)):=by
     rw[j0,qaz.mpr (by simp),nS,FM];refine congrArg (λz=>some (HO.lst z)) ?_;unfold hE;rw[qaP];refine List.map_congr_left λv bS=>?_;show V.int _=V.int ((d v:Nat):Int);rw[qaV,D4 v]
     congr 2
     rw[List.count_eq_countP,List.count_eq_countP,List.countP_map];refine List.countP_congr λx _=>?_;simp;omega
    have Nt:∀x∈hE rs.length d,0<=x/\x<=1000:=λx bp=>by
     obtain⟨v,bS,rfl⟩:=qae.mp bp;have ak:=ip v (by simpa using bS);have a':bF.count v<=bF.length:=List.count_le_length;have bL:=D4 v;omega
    obtain⟨kN,rc,k6⟩:=g4;obtain⟨xD,xE,_,Nu⟩:=ZdL df cf fu eN rc k6;have l6:=kU.same bM;nofun;refine⟨p,s,eb,ls,rs,st,_,rfl,l6,bM.seq (bu.seq hs),.of j5,df,Kk,cf,hsz,hz,bH,Nt,⟨xD,xE,Nu⟩,λj bw tS=>ZiT df cf fu eN gS ip h1 hsz bw tS,λg b7 ring bG bR tj n8=>?_⟩;nofun;refine⟨by show 2<=sizeLine;decide,λu fM=>?_⟩;have b2:Zd b7 (upd b7 u (.tup [.ref eb,.ref g])):=cO fM;have kh:(upd b7 u (.tup [.ref eb,.ref g])) u=some (.tup [.ref eb,.ref g]):=Ze;generalize upd b7 u (.tup [.ref eb,.ref g])=bW at*;nofun;refine⟨by show 2<=sizeLine;decide,λt bX=>?_⟩;have cs:Zd bW (upd bW t (.tup [.non,.ref u])):=cO bX;have tU:=bR.trans b2;exact cG t u eb g _ bF d ring (ei bu hc20) (ei (bu.trans bM) bG) ((bu.trans bM).trans (tU.trans cs)) Ze (cs _ _ kh) (cs _ _ (tU _ _ j5)) (cs _ _ (b2 _ _ tj)) eM eN ⟨kN,rc,k6⟩ n8
inductive D6(vs:List V)(H:Hp)(Q:VK)(E:XK):Prop
 |mk (p:Addr) (w:Int) (ag:HM) (fp:List Addr) (cQ:vs=[.ref p,.int w]) (cE:dg T H p ag fp) (cJ:ag.belts.length<=1000) (dq:(¬(0<=w/\w<ag.names.length)->E (.ref T.q) none H)) (d2:(0<=w->w<ag.names.length->∀r ae,H r=none->Zd H ae->ae r=some (.lst ((eK ag.belts w).map λi:Nat=>V.int i))->Q (.ref r) ae)):D6 vs H Q E
theorem Nv:OkM P w mg base 5 T.a8 (D6 T):=by
 have fq:=T.a;have fr:=T.e;refine T.a8.F.okX JH (λvs H Q E h=>?_) (λcz A outer s H vs Q E ap h=>?_)
 .obtain⟨p,w,ag,fp,rfl,_⟩:=h
  rfl
 .have hu:=ap.hu;obtain⟨p,w,ag,fp,rfl,b4,hz,bE,q⟩:=h;obtain⟨bx,a,b,bs,rfl,ak,a',bL,cu,gD,da⟩:=id b4;have ai:=da.length;refine⟨_,(bI (eF (fk (pv 0) T.a T.aa (q9 T) ap cw (bq (pv 1) bA)))
     (bZ (cW (lH (xs:=["belt","row"]) rfl (e5 (x:="belt") (zs:=["work"]) (ix:=[1]) (cn vY) ["self","work"] rfl rfl (by decide+kernel)) (mm (K:=K) rfl rfl T.k (bq (eB (K:=K) rfl (pv 0) rfl) bA)) (λcg C s H fp=>⟨(ik (K:=K) (n:=2) rfl rfl (eG (cI (i:=0) (show(["belt","row","work"]:List Str).Nodup by decide+kernel) rfl (Or.inl rfl)) (eG (cI (i:=1) (show(["belt","row","work"]:List Str).Nodup by decide+kernel) rfl (Or.inl rfl)) h9))),(nc (dk (fL (K:=K) rfl hu) (ci (ixk K) (pv 1) b8 (λ_ _=>rfl)) (pv 2) (ds _))),(pv 0)⟩))))),?_⟩
  walk_at "a"
  nofun;refine⟨p,w,ag,_,rfl,b4,bE,λe8 f8=>?_⟩;nofun;refine Y5 (own:=2) (mq (SqL.of cu)) (dm (by omega)) (λi=>[some (.int i),some (bs.getD i .non)]) (λ_=>rfl) (λi=>decide ((ag.belts.getD i dB).taker=w)) (λi v _=>v= .int i) (λ_ _ _ _ _ z=>z) (λi dI ae v bt hU hi bU y bD k=>?_) (λi ae cY hi bU k=>?_) (λk8 i ae cY hi bv hp0 i1 bU k=>?_) (λr ae ys ap bU fD c8=>?_)
  .obtain⟨t,bX,rfl,rfl⟩:=y;obtain⟨x1,x2,rfl⟩:∃x1 x2,dI=[x1,x2]:=by
    match dI,bD with
    | [x1,x2],_=>exact⟨x1,x2,rfl⟩
   refine Rd.V3 (.of Ze) rfl ?_;nofun;exact k _ (cO bX)
  .obtain⟨t,fH,eR⟩:=da.getD (i:=i) (by omega);rw[fH];have gC:=bU _ _ eR;generalize ag.belts.getD i dB=bb at*;dsimp only[B5.v] at gC;nofun;exact k ae (Zd.refl ae)
  .nofun;exact k _ ae (Zd.refl ae) rfl
  .refine q e8 f8 r ae ap bU ?_;rw[fD,sy (R:=λi v _=>v=V.int (i:Nat)) (H:=ae) (r:=λi:Nat=>V.int i) (λ_ _ z=>z) c8,ai]
   rfl
inductive D7(vs:List V)(H:Hp)(Q:VK)(E:XK):Prop
 |mk (p:Addr) (w:Int) (ag:HM) (fp:List Addr) (cQ:vs=[.ref p,.int w]) (cE:dg T H p ag fp) (cJ:ag.belts.length<=1000) (dq:0<=w) (d2:w<ag.names.length) (em:∀r ae ys,H r=none->Zd H ae->ae r=some (.lst ys)->V0 ae (hl ag.belts w) ys->Q (.ref r) ae):D7 vs H Q E
theorem Nw:OkN P w base 6 T.a9 (D7 T):=by
 have fq:=T.a;have fr:=T.e;refine T.a9.F.okX JI (λvs H Q E h=>?_) (λcz A outer s H vs Q E ap h=>?_)
 .obtain⟨p,w,ag,fp,rfl,_⟩:=h
  rfl
 .have hu:=ap.hu;obtain⟨p,w,ag,fp,rfl,b4,hz,e8,f8,q⟩:=h;refine⟨_,(bZ (cW (lH (xs:=["belt"]) rfl (e5 (x:="belt") (zs:=["hall"]) (ix:=[0]) (cn vZ) ["hall","work"] rfl rfl (by decide+kernel)) (ez (K:=K) rfl (fk (pv 0) T.a T.a8 (Nv T) ap cw (bq (pv 1) bA))) (λcg C s H fp=>⟨(cI (i:=0) (show(["belt","hall"]:List Str).Nodup by decide+kernel) rfl (Or.inl rfl)),fW,(hR (bq (pv 0) (bq (ci (ixk K) (fk (pv 1) T.a T.am (tz T) ap Uo (bq (pv 0) bA)) b8 (λ_ _=>rfl)) bA)))⟩)))),?_⟩
  walk_at "a"
  nofun;refine⟨p,w,ag,fp,rfl,b4,hz,λz=>absurd ⟨e8,f8⟩ z,λ_ _ e a_ bK bu mA=>?_⟩;have h5:=b4.same bu;have iS:=Zec (ls:=ag.belts) (w:=w);nofun;refine Y5 (own:=1) (ey (SqL.of mA)).y (dm (by rw[GE];omega)) (λi=>[some (.int ((eK ag.belts w).getD i 0:Nat))]) (λ_=>rfl) (λ_=>true) (λi v H=>∃t,v=V.ref t/\H t=some (.tup [.int ((eK ag.belts w).getD i 0:Nat),.int (ag.belts.getD ((eK ag.belts w).getD i 0) dB).take])) (λ_ _ _ _ e ⟨t,cE,cJ⟩=>⟨t,cE,e _ _ cJ⟩) (λi dI ae v bt hU hi bU y gs k=>?_) (λi ae cY hi bU k=>?_) (λk8 i ae cY hi bv hp0 i1 bU k=>?_) (λr ae ys jv bU fD c8=>?_)
  .obtain⟨rfl,rfl⟩:=y;obtain⟨x1,rfl⟩:∃x1,dI=[x1]:=by
    match dI,gs with
    | [x1],_=>exact⟨x1,rfl⟩
   have dy:i<(eK ag.belts w).length:=by simpa using hi
   have c4:((eK ag.belts w).map λi:Nat=>V.int i).getD i .non= .int ((eK ag.belts w).getD i 0:Nat):=by simp[List.getD,dy]
   rw[c4];nofun;exact k _ (Zd.refl _)
  .nofun;exact k ae (Zd.refl ae)
  .have dy:i<(eK ag.belts w).length:=by simpa using hi
   have bz:(eK ag.belts w).getD i 0∈eK ag.belts w:=by
    have:(eK ag.belts w).getD i 0=(eK ag.belts w)[i]:=by simp[List.getD,dy]
    rw[this];exact GM dy
   have cD:=ZcI bz;generalize (eK ag.belts w).getD i 0=j at*;have fg:=h5.same bU;nofun;refine⟨p,(j:Int),ag,fp,rfl,fg,λz=>absurd ⟨qaW j,by omega⟩ z,λ_ _ t b ai bX=>?_⟩;have fY:ag.belts[j]? =some b:=ai;have c0:ag.belts.getD j dB=b:=by simp[List.getD,fY]
   rw[c0] at k;dsimp only[B5.v] at bX;nofun;refine⟨by show 2<=sizeLine;decide,λu fM=>?_⟩;exact k _ _ (cO fM) ⟨u,rfl,z' i1 fM⟩
  .refine q r ae ys ?_ (bu.trans bU) fD ?_
   .cases e:H r with
    |none=>rfl
    |some o=>rw[bu _ _ e] at jv;cases jv
   .exact(BO c8).keep λb xs z=>kH _ _ z
inductive D8(vs:List V)(H:Hp)(Q:VK)(E:XK):Prop
 |mk (p:Addr) (w:Int) (ag:HM) (fp:List Addr) (cQ:vs=[.ref p,.int w]) (cE:dg T H p ag fp) (cJ:ag.belts.length<=1000) (dq:(¬(0<=w/\w<ag.names.length)->E (.ref T.q) none H)) (d2:(0<=w->w<ag.names.length->∀r ae,H r=none->Zd H ae->ae r=some (.lst ((d1 ag.belts w).map λi:Nat=>V.int i))->Q (.ref r) ae)):D8 vs H Q E
theorem D9:OkM P w mg base 5 T.aJ (D8 T):=by
 have fq:=T.a;have fr:=T.e;refine T.aJ.F.okX JJ (λvs H Q E h=>?_) (λcz A outer s H vs Q E ap h=>?_)
 .obtain⟨p,w,ag,fp,rfl,_⟩:=h
  rfl
 .have hu:=ap.hu;obtain⟨p,w,ag,fp,rfl,b4,hz,bE,q⟩:=h;obtain⟨bx,a,b,bs,rfl,ak,a',bL,cu,gD,da⟩:=id b4;have ai:=da.length;refine⟨_,(bI (eF (fk (pv 0) T.a T.aa (q9 T) ap cw (bq (pv 1) bA)))
     (bZ (cW (lH (xs:=["belt","row"]) rfl (e5 (x:="belt") (zs:=["work"]) (ix:=[1]) (cn v0) ["self","work"] rfl rfl (by decide+kernel)) (mm (K:=K) rfl rfl T.k (bq (eB (K:=K) rfl (pv 0) rfl) bA)) (λcg C s H fp=>⟨(ik (K:=K) (n:=2) rfl rfl (eG (cI (i:=0) (show(["belt","row","work"]:List Str).Nodup by decide+kernel) rfl (Or.inl rfl)) (eG (cI (i:=1) (show(["belt","row","work"]:List Str).Nodup by decide+kernel) rfl (Or.inl rfl)) h9))),(nc (dk (fL (K:=K) rfl hu) (ci (ixk K) (pv 1) b8 (λ_ _=>rfl)) (pv 2) (ds _))),(pv 0)⟩))))),?_⟩
  walk_at "a"
  nofun;refine⟨p,w,ag,_,rfl,b4,bE,λe8 f8=>?_⟩;nofun;refine Y5 (own:=2) (mq (SqL.of cu)) (dm (by omega)) (λi=>[some (.int i),some (bs.getD i .non)]) (λ_=>rfl) (λi=>decide ((ag.belts.getD i dB).giver=w)) (λi v _=>v= .int i) (λ_ _ _ _ _ z=>z) (λi dI ae v bt hU hi bU y bD k=>?_) (λi ae cY hi bU k=>?_) (λk8 i ae cY hi bv hp0 i1 bU k=>?_) (λr ae ys ap bU fD c8=>?_)
  .obtain⟨t,bX,rfl,rfl⟩:=y;obtain⟨x1,x2,rfl⟩:∃x1 x2,dI=[x1,x2]:=by
    match dI,bD with
    | [x1,x2],_=>exact⟨x1,x2,rfl⟩
   refine Rd.V3 (.of Ze) rfl ?_;nofun;exact k _ (cO bX)
  .obtain⟨t,fH,eR⟩:=da.getD (i:=i) (by omega);rw[fH];have gC:=bU _ _ eR;generalize ag.belts.getD i dB=bb at*;dsimp only[B5.v] at gC;nofun;exact k ae (Zd.refl ae)
  .nofun;exact k _ ae (Zd.refl ae) rfl
  .refine q e8 f8 r ae ap bU ?_;rw[fD,sy (R:=λi v _=>v=V.int (i:Nat)) (H:=ae) (r:=λi:Nat=>V.int i) (λ_ _ z=>z) c8,ai]
   rfl
inductive D_(vs:List V)(H:Hp)(Q:VK)(E:XK):Prop
 |mk (p:Addr) (w:Int) (ag:HM) (fp:List Addr) (cQ:vs=[.ref p,.int w]) (cE:dg T H p ag fp) (cJ:ag.belts.length<=1000) (dq:0<=w) (d2:w<ag.names.length) (em:∀r ae ys,H r=none->Zd H ae->ae r=some (.lst ys)->V0 ae (o4 ag.belts w) ys->Q (.ref r) ae):D_ vs H Q E
theorem Nx:OkN P w base 6 T.ba (D_ T):=by
 have fq:=T.a;have fr:=T.e;refine T.ba.F.okX JK (λvs H Q E h=>?_) (λcz A outer s H vs Q E ap h=>?_)
 .obtain⟨p,w,ag,fp,rfl,_⟩:=h
  rfl
 .have hu:=ap.hu;obtain⟨p,w,ag,fp,rfl,b4,hz,e8,f8,q⟩:=h;refine⟨_,(bZ (cW (lH (xs:=["belt"]) rfl (e5 (x:="belt") (zs:=["hall"]) (ix:=[0]) (cn v1) ["hall","work"] rfl rfl (by decide+kernel)) (ez (K:=K) rfl (fk (pv 0) T.a T.aJ (D9 T) ap cw (bq (pv 1) bA))) (λcg C s H fp=>⟨(cI (i:=0) (show(["belt","hall"]:List Str).Nodup by decide+kernel) rfl (Or.inl rfl)),fW,(hR (bq (pv 0) (bq (ci (ixk K) (fk (pv 1) T.a T.am (tz T) ap Uo (bq (pv 0) bA)) b8 (λ_ _=>rfl)) bA)))⟩)))),?_⟩
  walk_at "a"
  nofun;refine⟨p,w,ag,fp,rfl,b4,hz,λz=>absurd ⟨e8,f8⟩ z,λ_ _ e a_ bK bu mA=>?_⟩;have h5:=b4.same bu;have iS:=Zeo (ls:=ag.belts) (w:=w);nofun;refine Y5 (own:=1) (ey (SqL.of mA)).y (dm (by rw[GE];omega)) (λi=>[some (.int ((d1 ag.belts w).getD i 0:Nat))]) (λ_=>rfl) (λ_=>true) (λi v H=>∃t,v=V.ref t/\H t=some (.tup [.int ((d1 ag.belts w).getD i 0:Nat),.int (ag.belts.getD ((d1 ag.belts w).getD i 0) dB).give])) (λ_ _ _ _ e ⟨t,cE,cJ⟩=>⟨t,cE,e _ _ cJ⟩) (λi dI ae v bt hU hi bU y gs k=>?_) (λi ae cY hi bU k=>?_) (λk8 i ae cY hi bv hp0 i1 bU k=>?_) (λr ae ys jv bU fD c8=>?_)
  .obtain⟨rfl,rfl⟩:=y;obtain⟨x1,rfl⟩:∃x1,dI=[x1]:=by
    match dI,gs with
    | [x1],_=>exact⟨x1,rfl⟩
   have dy:i<(d1 ag.belts w).length:=by simpa using hi
   have c4:((d1 ag.belts w).map λi:Nat=>V.int i).getD i .non= .int ((d1 ag.belts w).getD i 0:Nat):=by simp[List.getD,dy]
   rw[c4];nofun;exact k _ (Zd.refl _)
  .nofun;exact k ae (Zd.refl ae)
  .have dy:i<(d1 ag.belts w).length:=by simpa using hi
   have bz:(d1 ag.belts w).getD i 0∈d1 ag.belts w:=by
    have:(d1 ag.belts w).getD i 0=(d1 ag.belts w)[i]:=by simp[List.getD,dy]
    rw[this];exact GM dy
   have cD:=ZaI bz;generalize (d1 ag.belts w).getD i 0=j at*;have fg:=h5.same bU;nofun;refine⟨p,(j:Int),ag,fp,rfl,fg,λz=>absurd ⟨qaW j,by omega⟩ z,λ_ _ t b ai bX=>?_⟩;have fY:ag.belts[j]? =some b:=ai;have c0:ag.belts.getD j dB=b:=by simp[List.getD,fY]
   rw[c0] at k;dsimp only[B5.v] at bX;nofun;refine⟨by show 2<=sizeLine;decide,λu fM=>?_⟩;exact k _ _ (cO fM) ⟨u,rfl,z' i1 fM⟩
  .refine q r ae ys ?_ (bu.trans bU) fD ?_
   .cases e:H r with
    |none=>rfl
    |some o=>rw[bu _ _ e] at jv;cases jv
   .exact(BO c8).keep λb xs z=>kH _ _ z
inductive D'(vs:List V)(H:Hp)(Q:VK)(cP:XK):Prop
 |mk (p:Addr) (w:Int) (ag:HM) (fp:List Addr) (cQ:vs=[.ref p,.int w]) (cE:dg T H p ag fp) (cJ:ag.belts.length<=60) (dq:0<=w) (d2:w<ag.names.length) (em:∀(r:Addr)(ae:Hp)(ms:List Int),H r=none->Zd H ae->ae r=some (.lst (ms.map V.int))->Zbp ag.belts w ms->Q (.ref r) ae):D' vs H Q cP
theorem Ny:OkN P w base 6 T.bb (D' T):=by
 have fq:=T.a;have fr:=T.e;refine T.bb.F.okX JL (λvs H Q E h=>?_) (λcz A outer s H vs Q E ap h=>?_)
 .obtain⟨p,w,ag,fp,rfl,_⟩:=h
  rfl
 .have hu:=ap.hu;obtain⟨p,w,ag,fp,rfl,b4,hz,e8,f8,q⟩:=h;refine⟨_,(bZ (cW (IY (K:=K) rfl rfl (by rfl) T.Q (by rfl) T.aA (bq (cK (hh K) (gX (bq (pv 1) bA)) (jD rfl (e5 (x:="belt") (zs:=["hall"]) (ix:=[0]) (cn v2) ["hall","work"] rfl rfl (by decide+kernel)) (ez (K:=K) rfl (fk (pv 0) T.a T.aJ (D9 T) ap cw (bq (pv 1) bA))) (λcg C s H fp=>⟨(cI (i:=0) (show(["belt","hall"]:List Str).Nodup by decide+kernel) rfl (Or.inl rfl)),fW,(ci (ixk K) (fk (pv 1) T.a T.am (tz T) ap Uo (bq (pv 0) bA)) b8 (λ_ _=>rfl))⟩))) bA)))),?_⟩
  walk_at "a"
  nofun;refine Rd.Zo9 ?_;nofun;intro a bD;have bu:Zd H (upd H a (.lst [V.int w])):=cO bD;have q7:(upd H a (.lst [V.int w])) a=some (.lst [V.int w]):=Ze;generalize upd H a (.lst [V.int w])=a_ at*;have h5:=b4.same bu;nofun;refine⟨p,w,ag,fp,rfl,h5,by omega,λz=>absurd ⟨e8,f8⟩ z,λ_ _ e bt bK bM lG=>?_⟩;have fg:=h5.same bM;have xK:=bM _ _ q7;have iS:=Zeo (ls:=ag.belts) (w:=w);nofun;refine Z9 (ey (SqL.of lG)) (dm (by rw[GE];omega)) (λ_=>true) (λi=> .int (ag.belts.getD ((d1 ag.belts w).getD i 0) dB).taker) (λi ae cY hi bU k=>?_) (λi ae cY hi _ bU k=>?_) (λr ae ap bU jv=>?_)
  .nofun;exact k ae (Zd.refl ae)
  .have dy:i<(d1 ag.belts w).length:=by simpa using hi
   have c4:((d1 ag.belts w).map λi:Nat=>V.int i).getD i .non= .int ((d1 ag.belts w).getD i 0:Nat):=by simp[List.getD,dy]
   rw[c4];have bz:(d1 ag.belts w).getD i 0∈d1 ag.belts w:=by
    have:(d1 ag.belts w).getD i 0=(d1 ag.belts w)[i]:=by simp[List.getD,dy]
    rw[this];exact GM dy
   have cD:=ZaI bz;generalize (d1 ag.belts w).getD i 0=j at*;have gP:=fg.same bU;nofun;refine⟨p,(j:Int),ag,fp,rfl,gP,λz=>absurd ⟨qaW j,by omega⟩ z,λ_ _ t b ai bX=>?_⟩;have fY:ag.belts[j]? =some b:=ai;have c0:ag.belts.getD j dB=b:=by simp[List.getD,fY]
   rw[c0] at k;dsimp only[B5.v] at bX;nofun;exact k ae (Zd.refl ae)
  .have fa:ae r=some (.lst (((d1 ag.belts w).map λi=>(ag.belts.getD i dB).taker).map V.int)):=by
    rw[jv,qaz.mpr (by simp)];refine congrArg (λz=>some (HO.lst z)) ?_;refine qau (by simp) λi ak a'=>?_;have:i<(d1 ag.belts w).length:=by simpa using a'
    simp[List.getD,this]
   have Ci:=bU _ _ xK;refine Rd.ZnA Ci fa (qbt (dm (by simp;omega))) (λu hu=>?_);have b2:Zd ae (upd ae u (.lst ([V.int w]++((d1 ag.belts w).map λi=>(ag.belts.getD i dB).taker).map V.int))):=cO hu;have kh:(upd ae u (.lst ([V.int w]++((d1 ag.belts w).map λi=>(ag.belts.getD i dB).taker).map V.int))) u=some (.lst ((w::(d1 ag.belts w).map λi=>(ag.belts.getD i dB).taker).map V.int)):=Ze;generalize upd ae u (.lst ([V.int w]++((d1 ag.belts w).map λi=>(ag.belts.getD i dB).taker).map V.int))=bW at*;nofun;refine Rd.ZoU (.of kh) (by simp;omega) (λx ms bp bB bz=>?_);have gj:=bu.trans (bM.trans (bU.trans b2));refine q x _ ms (ei gj bp) (gj.trans (cO bp)) Ze ⟨bB,λy=>?_⟩;rw[bz y,qah,qae]
inductive xL(vs:List V)(H:Hp)(Q:VK)(E:XK):Prop
 |mk (p bx h t:Addr) (ag:HM) (fp:List Addr) (rs:List Int) (cQ:vs=[.ref p,.ref h,.ref t]) (cE:H p=some (.ins T.b bx [])) (cJ:dg T H h ag fp) (dq:H t=some (.lst (rs.map V.int))) (d2:rs.length=ag.names.length) (em:rs.length<=1000) (e2:ag.belts.length<=60) (fx:∀(ae:Hp),kP T ae p ag.belts rs->(∀b o,H b=some o->b≠p->ae b=some o)->Q .non ae):xL vs H Q E
theorem Za5{T:Tp K mg}{H:Hp}{h t:Addr}{ag:HM}{fp:List Addr}{rs:List Int}{Q:Addr->Hp->Prop}{E:XK}(b4:dg T H h ag fp)(bX:H t=some (.lst (rs.map V.int)))(bH:rs.length=ag.names.length)(hz:rs.length<=1000)(ai:ag.belts.length<=60)
  (q:∀(p:Addr)(ae:Hp),kP T ae p ag.belts rs->H p=none->Zd H ae->Q p ae):
  ∀x bx,H x=none->H bx=none->bx≠x->xL T (.ref x::([.ref h,.ref t]++ [])) (upd (upd H bx (.own x)) x (.ins T.b bx [])) (λv bt=>v= .non/\Q x bt) E:=by
 intro x bx bp jM ne;have bU:Zd H (upd (upd H bx (.own x)) x (.ins T.b bx [])):=λb o e=>by rw[b6 (c3 e bp),b6 (c3 e jM)];exact e
 exact⟨x,bx,h,t,ag,fp,rs,rfl,Ze,b4.same bU,bU _ _ bX,bH,hz,ai,λae bv br=>⟨rfl,q x ae bv bp (λb o e=>br b o (bU b o e) (c3 e bp))⟩⟩
theorem Ea:OkI P w mg base 7 T.aK (xL T):=by
 have pp:=T.i;have pq:=T.m;have fq:=T.a;have fr:=T.e;refine T.aK.F.okX JN (λvs H Q E h=>?_) (λcz A outer s H vs Q E ap h=>?_)
 .obtain⟨p,bx,h,t,ag,fp,rs,rfl,_⟩:=h
  rfl
 .have hu:=ap.hu;obtain⟨p,bx,bD,t,ag,fp,rs,rfl,bB,b4,bX,bH,hz,k9,q⟩:=h;have mJ:p∉fp:=by
   intro z;obtain⟨Nz,a,b,bs,rfl,ak,a',bL,cu,gD,da⟩:=b4;simp only[qah,qa2,or_false] at z;rcases z with rfl|rfl|rfl|rfl
   .rw[ak] at bB
    injection bB with e
    injection e with bE bP dj
    cases dj
   .rw[a'] at bB;cases bB
   .rw[bL] at bB;cases bB
   .rw[cu] at bB;cases bB
  have Tc:((rs.map V.int).length:Int)=rs.length:=by simp
  refine⟨_,(bI (jG (K:=K) rfl (pv 0) (i' (j8 (K:=K) rfl) (by rfl) T.j qaF (bq (pv 2) bA)) rfl)
     (bI (jG (K:=K) rfl (pv 0) (il (pv 1) T.a T.O (nV T) ap cw) rfl)
     (bI (jG (K:=K) rfl (pv 0) (lH (xs:=["work"]) rfl (e5 (x:="work") (zs:=["hall"]) (ix:=[1]) (cn qM) ["self","hall","turns"] rfl rfl (by decide+kernel)) (hc rfl T.g (bq (dt (eW K) (by rfl) T.f qao (bq (pv 2) bA)) bA)) (λcg C s H fp=>⟨(cI (i:=0) (show(["work","hall"]:List Str).Nodup by decide+kernel) rfl (Or.inl rfl)),fW,(c6 T.a9 (Nw T) ap Uo (bq (pv 1) (bq (pv 0) bA)))⟩)) rfl)
     (bI (jG (K:=K) rfl (pv 0) (lH (xs:=["work"]) rfl (e5 (x:="work") (zs:=["hall"]) (ix:=[1]) (cn qM) ["self","hall","turns"] rfl rfl (by decide+kernel)) (hc rfl T.g (bq (dt (eW K) (by rfl) T.f qao (bq (pv 2) bA)) bA)) (λcg C s H fp=>⟨(cI (i:=0) (show(["work","hall"]:List Str).Nodup by decide+kernel) rfl (Or.inl rfl)),fW,(c6 T.ba (Nx T) ap Uo (bq (pv 1) (bq (pv 0) bA)))⟩)) rfl)
     (bZ (jG (K:=K) rfl (pv 0) (lH (xs:=["work"]) rfl (e5 (x:="work") (zs:=["hall"]) (ix:=[1]) (cn qM) ["self","hall","turns"] rfl rfl (by decide+kernel)) (hc rfl T.g (bq (dt (eW K) (by rfl) T.f qao (bq (pv 2) bA)) bA)) (λcg C s H fp=>⟨(cI (i:=0) (show(["work","hall"]:List Str).Nodup by decide+kernel) rfl (Or.inl rfl)),fW,(c6 T.bb (Ny T) ap Uo (bq (pv 1) (bq (pv 0) bA)))⟩)) rfl)))))),?_⟩
  walk_at "a"
  nofun;refine Rd.W3 (.of bX) (λa ry=>?_);have js:p≠a:=c3 bB ry;have bu:Zd H (upd H a (.lst (rs.map V.int))):=cO ry;have q7:(upd H a (.lst (rs.map V.int))) a=some (.lst (rs.map V.int)):=Ze;generalize upd H a (.lst (rs.map V.int))=a_ at*;have i1:=bu _ _ bB;nofun;have f1:db [p] a_ (upd a_ p (.ins T.b bx [("turns",.ref a)])):=gN (by simp) i1 (by intro _ z;cases z);have Eb:db [p] H (upd a_ p (.ins T.b bx [("turns",.ref a)])):=bu.frame.trans f1;have p_:(upd a_ p (.ins T.b bx [("turns",.ref a)])) p=some (.ins T.b bx [("turns",.ref a)]):=Ze;have xK:=f1.keep _ _ q7 (by simpa using js.symm);generalize upd a_ p (.ins T.b bx [("turns",.ref a)])=bt at*;have tV:t≠p:=gk bX bB (by intro z;cases z);have fg:=b4.off Eb (λx bp z=>mJ (by rw[<-qac.mp z];exact bp));clear f1 i1 q7;nofun;intro b b7 bs kf bR jo hJ;have rz:=bR _ _ p_;have iy:p≠b:=c3 p_ kf;nofun;have dh:db [p] b7 (upd b7 p (.ins T.b bx [("turns",.ref a),("rows",.ref b)])):=gN (by simp) rz (by intro _ z;cases z);have xM:db [p] bt (upd b7 p (.ins T.b bx [("turns",.ref a),("rows",.ref b)])):=bR.frame.trans dh;have mH:(upd b7 p (.ins T.b bx [("turns",.ref a),("rows",.ref b)])) p=some (.ins T.b bx [("turns",.ref a),("rows",.ref b)]):=Ze;have i2:=dh.keep _ _ jo (by simpa using iy.symm);have ej:=hJ.keep dh.tups;generalize upd b7 p (.ins T.b bx [("turns",.ref a),("rows",.ref b)])=bW at*;have xN:=Eb.trans xM;have g_:=xN.keep _ _ bX (by simpa using tV);have jt:=b4.off xN (λx bp z=>mJ (by rw[<-qac.mp z];exact bp));clear dh rz jo hJ;nofun;refine Y5 (own:=1) Wa.y (dm (by rw[GE];exact hz)) (λi=>[some (.int (0+(i:Int)))]) (λ_=>rfl) (λ_=>true) (λ(i:Nat) v bt=>∃x,v=V.ref x/\∃vs,bW x=none/\bt x=some (.lst vs)/\V0 bt (hl ag.belts (0+(i:Int))) vs) (λ_ _ _ _ e ⟨x,cQ,cE⟩=>⟨x,cQ,(let⟨vs,a1,a2,a3⟩:=cE;⟨vs,a1,e _ _ a2,a3.keep λ_ _ z=>e _ _ z⟩)⟩) (λi dI ae v bt hU hi bU y gs k=>?_) (λi ae cY hi bU k=>?_) (λk8 i ae cY hi bv hp0 hp1' bU k=>?_) (λc b0 ys4 kX cs rd xO=>?_)
  .obtain⟨rfl,rfl⟩:=y;obtain⟨x1,rfl⟩:∃x1,dI=[x1]:=by
    match dI,gs with
    | [x1],_=>exact⟨x1,rfl⟩
   nofun;exact k _ (Zd.refl _)
  .nofun;exact k ae (Zd.refl ae)
  .have dy:i<rs.length:=by simpa using hi
   nofun;refine⟨bD,0+(i:Int),ag,fp,rfl,jt.same bU,by omega,by omega,by omega,λx b0 vs bp cs hx5 d5=>?_⟩;exact k _ b0 cs ⟨x,rfl,vs,ei bU bp,vv hp1' bp hx5,d5.keep λb xs z=>Zhl hp1' cs z⟩
  .rw[qaz.mpr (by simp),GE,FM] at xO;obtain⟨gA,rfl,NA,Ec⟩:=Zfq xO;have n7:=cs _ _ mH;have pw:p≠c:=c3 mH kX;have Ed:∀x∈gA,x≠p:=λx bp z=>by
    obtain⟨j,bw,e⟩:=qan bp;obtain⟨_,cQ,_⟩:=Ec j (by omega);rw[dr bw,e,z,mH] at cQ;cases cQ
   nofun;have d6:db [p] b0 (upd b0 p (.ins T.b bx [("turns",.ref a),("rows",.ref b),("takes",.ref c)])):=gN (by simp) n7 (by intro _ z;cases z);have xP:db [p] bW (upd b0 p (.ins T.b bx [("turns",.ref a),("rows",.ref b),("takes",.ref c)])):=cs.frame.trans d6;have mI:(upd b0 p (.ins T.b bx [("turns",.ref a),("rows",.ref b),("takes",.ref c)])) p=some (.ins T.b bx [("turns",.ref a),("rows",.ref b),("takes",.ref c)]):=Ze;have tr:=d6.keep _ _ rd (by simpa using pw.symm);have NB:LL (upd b0 p (.ins T.b bx [("turns",.ref a),("rows",.ref b),("takes",.ref c)])) ((List.range rs.length).map λw:Nat=>hl ag.belts w) gA:=by
    refine q0 (by simp[NA]) λj x y bE bP=>?_;have bw:j<rs.length:=by have:=(qaa.mp bP).1;omega
    obtain⟨vs,_,cE,cJ⟩:=Ec j bw;rw[qak,List.getElem?_range bw] at bE;cases bE;have e3:gA.getD j 0=y:=by simp[List.getD,bP]
    rw[e3] at cE;rw[qaV] at cJ;exact⟨vs,d6.keep _ _ (kH _ _ cE) (by simpa using Ed y (qav bP)),cJ.keep λb xs z=>d6.tups _ _ (kH _ _ z)⟩
   generalize upd b0 p (.ins T.b bx [("turns",.ref a),("rows",.ref b),("takes",.ref c)])=c9 at*;have km:=xN.trans xP;have wP:=km.keep _ _ bX (by simpa using tV);have pj:=b4.off km (λx bp z=>mJ (by rw[<-qac.mp z];exact bp));clear d6 n7 rd xO;nofun;refine Y5 (own:=1) Wa.y (dm (by rw[GE];exact hz)) (λi=>[some (.int (0+(i:Int)))]) (λ_=>rfl) (λ_=>true) (λ(i:Nat) v bt=>∃x,v=V.ref x/\∃vs,c9 x=none/\bt x=some (.lst vs)/\V0 bt (o4 ag.belts (0+(i:Int))) vs) (λ_ _ _ _ e ⟨x,cQ,cE⟩=>⟨x,cQ,(let⟨vs,a1,a2,a3⟩:=cE;⟨vs,a1,e _ _ a2,a3.keep λ_ _ z=>e _ _ z⟩)⟩) (λi dI ae v bt hU hi bU y gs k=>?_) (λi ae cY hi bU k=>?_) (λk8 i ae cY hi bv hp0 hp1' bU k=>?_) (λd di ys6 k6 fb rA xQ=>?_)
   .obtain⟨rfl,rfl⟩:=y;obtain⟨x1,rfl⟩:∃x1,dI=[x1]:=by
     match dI,gs with
     | [x1],_=>exact⟨x1,rfl⟩
    nofun;exact k _ (Zd.refl _)
   .nofun;exact k ae (Zd.refl ae)
   .have dy:i<rs.length:=by simpa using hi
    nofun;refine⟨bD,0+(i:Int),ag,fp,rfl,pj.same bU,by omega,by omega,by omega,λx b0 vs bp cs hx5 d5=>?_⟩;exact k _ b0 cs ⟨x,rfl,vs,ei bU bp,vv hp1' bp hx5,d5.keep λb xs z=>Zhl hp1' cs z⟩
   .rw[qaz.mpr (by simp),GE,FM] at xQ;obtain⟨id,rfl,NC,Ee⟩:=Zfq xQ;have rB:=fb _ _ mI;have lR:p≠d:=c3 mI k6;have Ef:∀x∈id,x≠p:=λx bp z=>by
     obtain⟨j,bw,e⟩:=qan bp;obtain⟨_,cQ,_⟩:=Ee j (by omega);rw[dr bw,e,z,mI] at cQ;cases cQ
    nofun;have lZ:db [p] di (upd di p (.ins T.b bx [("turns",.ref a),("rows",.ref b),("takes",.ref c),("gives",.ref d)])):=gN (by simp) rB (by intro _ z;cases z);have mK:db [p] c9 (upd di p (.ins T.b bx [("turns",.ref a),("rows",.ref b),("takes",.ref c),("gives",.ref d)])):=fb.frame.trans lZ;have px:(upd di p (.ins T.b bx [("turns",.ref a),("rows",.ref b),("takes",.ref c),("gives",.ref d)])) p=some (.ins T.b bx [("turns",.ref a),("rows",.ref b),("takes",.ref c),("gives",.ref d)]):=Ze;have ND:=lZ.keep _ _ rA (by simpa using lR.symm);have NE:LL (upd di p (.ins T.b bx [("turns",.ref a),("rows",.ref b),("takes",.ref c),("gives",.ref d)])) ((List.range rs.length).map λw:Nat=>o4 ag.belts w) id:=by
     refine q0 (by simp[NC]) λj x y bE bP=>?_;have bw:j<rs.length:=by have:=(qaa.mp bP).1;omega
     obtain⟨vs,_,cE,cJ⟩:=Ee j bw;rw[qak,List.getElem?_range bw] at bE;cases bE;have e3:id.getD j 0=y:=by simp[List.getD,bP]
     rw[e3] at cE;rw[qaV] at cJ;exact⟨vs,lZ.keep _ _ (kH _ _ cE) (by simpa using Ef y (qav bP)),cJ.keep λb xs z=>lZ.tups _ _ (kH _ _ z)⟩
    generalize upd di p (.ins T.b bx [("turns",.ref a),("rows",.ref b),("takes",.ref c),("gives",.ref d)])=eU at*;have rC:=km.trans mK;have C3:=rC.keep _ _ bX (by simpa using tV);have mF:=b4.off rC (λx bp z=>mJ (by rw[<-qac.mp z];exact bp));clear lZ rB rA xQ;nofun;refine Y5 (own:=1) Wa.y (dm (by rw[GE];exact hz)) (λi=>[some (.int (0+(i:Int)))]) (λ_=>rfl) (λ_=>true) (λ(i:Nat) v bt=>∃x,v=V.ref x/\∃ms:List Int,eU x=none/\bt x=some (.lst (ms.map V.int))/\Zbp ag.belts i ms) (λ_ _ _ _ e ⟨x,cQ,cE⟩=>⟨x,cQ,(let⟨vs,a1,a2,a3⟩:=cE;⟨vs,a1,e _ _ a2,a3⟩)⟩) (λi dI ae v bt hU hi bU y gs k=>?_) (λi ae cY hi bU k=>?_) (λk8 i ae cY hi bv hp0 hp1' bU k=>?_) (λe f' ys8 rq hy tJ xR=>?_)
    .obtain⟨rfl,rfl⟩:=y;obtain⟨x1,rfl⟩:∃x1,dI=[x1]:=by
      match dI,gs with
      | [x1],_=>exact⟨x1,rfl⟩
     nofun;exact k _ (Zd.refl _)
    .nofun;exact k ae (Zd.refl ae)
    .have dy:i<rs.length:=by simpa using hi
     nofun;refine⟨bD,0+(i:Int),ag,fp,rfl,mF.same bU,by omega,by omega,by omega,λx b0 ms bp cs hx5 d5=>?_⟩;rw[qaV] at d5;exact k _ b0 cs ⟨x,rfl,ms,ei bU bp,vv hp1' bp hx5,d5⟩
    .rw[qaz.mpr (by simp),GE,FM] at xR;obtain⟨xS,rfl,NF,Eg⟩:=Zfq xR;have pz:=hy _ _ px;have NG:p≠e:=c3 px rq;have NH:∀x∈xS,x≠p:=λx bp z=>by
      obtain⟨j,bw,e⟩:=qan bp;obtain⟨_,cQ,_⟩:=Eg j (by omega);rw[dr bw,e,z,px] at cQ;cases cQ
     nofun;have mL:db [p] f' (upd f' p (.ins T.b bx [("turns",.ref a),("rows",.ref b),("takes",.ref c),("gives",.ref d),("touched",.ref e)])):=gN (by simp) pz (by intro _ z;cases z);have rD:db [p] eU (upd f' p (.ins T.b bx [("turns",.ref a),("rows",.ref b),("takes",.ref c),("gives",.ref d),("touched",.ref e)])):=hy.frame.trans mL;have tW:(upd f' p (.ins T.b bx [("turns",.ref a),("rows",.ref b),("takes",.ref c),("gives",.ref d),("touched",.ref e)])) p=some (.ins T.b bx [("turns",.ref a),("rows",.ref b),("takes",.ref c),("gives",.ref d),("touched",.ref e)]):=Ze;have NI:=mL.keep _ _ tJ (by simpa using NG.symm);have NJ:TL (upd f' p (.ins T.b bx [("turns",.ref a),("rows",.ref b),("takes",.ref c),("gives",.ref d),("touched",.ref e)])) ag.belts rs.length xS:=⟨NF,λv bS=>by
      obtain⟨ms,_,cE,cJ⟩:=Eg v bS;exact⟨ms,mL.keep _ _ (kH _ _ cE) (by rw[qac];exact NH _ (by rw[dr (by omega)];exact GM _)),cJ⟩⟩
     generalize upd f' p (.ins T.b bx [("turns",.ref a),("rows",.ref b),("takes",.ref c),("gives",.ref d),("touched",.ref e)])=fj at*;have xT:=rC.trans rD;have Td:=xT.keep _ _ bX (by simpa using tV);have pr:=b4.off xT (λx bp z=>mJ (by rw[<-qac.mp z];exact bp));clear mL pz tJ xR;have Te:=xM.trans (xP.trans mK);have xU:=xP.trans (mK.trans rD);have Eh:=mK.trans rD;have Ei:∀{tX:Hp}{cc:List (List (Int×Int))}{is:List Addr},db [p] tX fj->LL tX cc is->(∀x∈is,x≠p)->LL fj cc is:=λ{tX cc is} f l n=>l.keep f.tups λx bp=>by
      cases q:tX x with
      |none=>exact absurd q (l.dom x bp)
      |some o=>exact f.keep _ _ q (by simpa using n x bp)
     refine q fj ⟨bx,a,b,c,d,e,gA,id,xS,bs,tW,(xM.trans xU).keep _ _ xK (by simpa using js.symm),xU.keep _ _ i2 (by simpa using iy.symm),ej.keep xU.tups,Eh.keep _ _ tr (by simpa using pw.symm),Ei Eh NB Ed,rD.keep _ _ ND (by simpa using lR.symm),Ei rD NE Ef,NI,NJ⟩ (λx o ak a'=>xT.keep _ _ ak (by simpa using a'))
inductive Ej(vs:List V)(H:Hp)(Q:VK)(E:XK):Prop
 |mk (p:Addr) (ag:HM) (fp:List Addr) (z:Int->Nat) (cQ:vs=[.ref p]) (cE:dg T H p ag fp) (cJ:ag.names.length<=60) (dq:ag.belts.length<=60) (d2:ZB ag.belts ag.names.length) (em:Yx ag.belts) (e2:Vg ag.belts z) (fx:(∀b∈ag.belts,0<=b.start)) (h2:∀(rs:List Int),Rts ag.belts ag.names.length z rs->(400<rs.sum->∀ae,Zd H ae->E (.ref T.t) none ae)/\(rs.sum<=400->(∀(t r:Addr)(ae:Hp)(bF:List Nat)(d:Nat->Nat),H r=none->Zd H ae->ae t=some (.tup [.ref r,.non])->ae r=some (.lst (bF.map λw:Nat=>V.int w))->Fire.Z1 (jK ag.belts (cF ag.belts) rs) (λ_=>0) bF d->(∀v<rs.length,d v=dF rs v)->Q (.ref t) ae)/\(∀(t u c g:Addr)(ae:Hp)(bF:List Nat)(d:Nat->Nat)(ring:List Nat),H c=none->H g=none->Zd H ae->ae t=some (.tup [.non,.ref u])->ae u=some (.tup [.ref c,.ref g])->ae c=some (.lst ((hE rs.length d).map V.int))->ae g=some (.lst (ring.map λj:Nat=>V.int j))->Fire.Z1 (jK ag.belts (cF ag.belts) rs) (λ_=>0) bF d->(∀w,¬dN ag.belts (cF ag.belts) rs d w)->(∃v<rs.length,d v<dF rs v)->Zbz ag.belts rs (cF ag.belts) (hE rs.length d) ring->Q (.ref t) ae))):Ej vs H Q E
theorem NK:OkN P w base 10 T.bc (Ej T):=by
 have pp:=T.i;have pq:=T.m;refine T.bc.F.okX JO (λvs H Q E h=>?_) (λcz A outer s H vs Q E ap h=>?_)
 .obtain⟨p,ag,fp,z,rfl,_⟩:=h
  rfl
 .have hu:=ap.hu;obtain⟨p,ag,fp,z,rfl,b4,bH,hz,cf,hsz,k7,h1,q⟩:=h;refine⟨_,(bZ (cW (fk (z2 T.aK (Ea T) ap T.P cw (bq (pv 0) (bq (c6 T.aG (DD T) ap cw (bq (pv 0) bA)) bA))) T.i T.a7 (Nq T) ap cw (bq (c6 T.aF (CS T) ap cw (bq (pv 0) bA)) bA)))),?_⟩
  walk_at "a"
  nofun;refine⟨p,ag,fp,z,rfl,b4,bH,by omega,cf,hsz,k7,λr a_ rs bu ap eu c8=>⟨λip=>?_,λmM=>(q rs c8).1 mM a_ bu⟩⟩;obtain⟨ce,cG⟩:=(q rs c8).2 ip;have h5:=b4.same bu;have e6:=c8.len;nofun;refine Za5 h5 eu e6 (by omega) hz (λc bt j0 kX bM=>?_);have fg:=h5.same bM;nofun;refine⟨p,ag,fp,rfl,fg,by omega,λsa b7 hsa bR NL=>?_⟩;have nY:=j0.same bR;have i4:=bu.trans (bM.trans bR);have xm:(tot rs:Int)=rs.sum:=WZ λr ap=>(by have:=c8.pos r ap;omega);have NM:∀x∈cF ag.belts,0<=x:=λx bp=>by
   obtain⟨b,ai,rfl⟩:=qae.mp bp;exact h1 b ai
  nofun;refine⟨c,sa,ag.belts,rs,cF ag.belts,rfl,nY,.of NL,by simp[cF],by rw[e6];exact cf,hsz,c8.bal,by omega,by omega,c8.pos,NM,by omega,λt cN bW bF d fa b2 g_ eX eM hd=>?_,λt u eb g bW bF d ring hc20 mO b2 g_ kh ha q8 eM eN g4 n8=>?_⟩
  .exact ce t cN bW bF d (ei i4 fa) (i4.trans b2) g_ eX eM hd
  .exact cG t u eb g bW bF d ring (ei i4 hc20) (ei i4 mO) (i4.trans b2) g_ kh ha q8 eM eN g4 n8
inductive Ek(T:Tp K mg)(vs:List V)(H:Hp)(Q:VK)(cP:XK):Prop
 |mk (c:Addr) (xs:List Int) (cQ:vs=[.ref c]) (cE:SqL K H c (xs.map V.int)) (cJ:H c=some (.lst (xs.map V.int))) (dq:Q (.bl true) H):Ek T vs H Q cP
theorem El:OkN P w base 1 T.aL (Ek T):=by
 refine T.aL.F.okX BA (λvs H Q E h=>?_) (λcz A outer s H vs Q E ap h=>?_)
 .obtain⟨c,xs,rfl,_⟩:=h
  rfl
 .have hu:=ap.hu;obtain⟨c,xs,rfl,bv,kq,q⟩:=h;refine⟨_,(bI (dQ (hn (gO (K:=K) rfl (dt (nr (K:=K) rfl) (by rfl) T.l qa4 (bq (pv 0) (bq (mY (v:= .ty "list") (by rfl) T.j qaF rfl) bA))) (λ_=>rfl))) (bZ (cW Wn)) dX)
     (bI (eo PassesOwn.leaving rfl (ez (K:=K) rfl (pv 0)) (cI (i:=1) BA.nd rfl (Or.inl rfl)) (bZ (dQ (PW.pt (i_ (hn (gO (K:=K) rfl (dt (nr (K:=K) rfl) (by rfl) T.l qa4 (bq (pv 1) (bq (mY (v:= .ty "int") (by rfl) T.az PyProof.Rows.boot_int rfl) bA))) (λ_=>rfl))) (jz (gO (K:=K) rfl (dt (nr (K:=K) rfl) (by rfl) T.l qa4 (bq (pv 1) (bq (mY (v:= .ty "bool") (by rfl) T.an PyProof.Rows.boot_bool rfl) bA))) (λ_=>rfl))))) (bZ (cW Wn)) dX)))
     (bZ (cW Wn)))),?_⟩
  walk_at "a"
  nofun;refine Ya (ey bv) (λi af ae=>ae=H/\∃a1:Option V,af=[some (.ref c),a1]) ⟨rfl,_,rfl⟩ (λi af ae h=>h.1▸Zd.refl H) ?_ ?_
  .rintro i af ae hi ⟨rfl,a1,rfl⟩;have cm:i<xs.length:=by rw[GE] at hi;exact hi
   have c4:(xs.map V.int).getD i .non=V.int xs[i]:=by simp[List.getD,cm]
   rw[c4];nofun;exact⟨rfl,_,rfl⟩
  .rintro af ae ⟨rfl,a1,rfl⟩;nofun;exact q
inductive Em(T:Tp K mg)(vs:List V)(H:Hp)(Q:VK)(cP:XK):Prop
 |mk (b r a:Addr) (bs:List V) (ls:List B5) (rs:List Int) (bF:List Nat) (d:Nat->Nat) (cQ:vs=[.ref b,.ref r,.ref a]) (cE:H b=some (.lst bs)) (cJ:eP H bs ls) (dq:ls.length<=1000) (d2:SqL K H r (rs.map V.int)) (em:(∀r∈rs,1<=r)) (e2:rs.length<=30) (fx:ZB ls rs.length) (h2:H a=some (.lst ((bF.map λw:Nat=>(w:Int)).map V.int))) (jN:W7 ls rs) (kg:Fire.Z1 (dN ls (cF ls) rs) (λ_=>0) bF d) (q_:(∀v<rs.length,d v=dF rs v)) (xC:∀ae,Zd H ae->Q (.bl true) ae):Em T vs H Q cP
theorem En:OkN P w base 2 T.aM (Em T):=by
 refine T.aM.F.okX v9 (λvs H Q E h=>?_) (λcz A outer s H vs Q E ap h=>?_)
 .obtain⟨b,r,a,bs,ls,rs,bF,d,rfl,_⟩:=h
  rfl
 .have hu:=ap.hu;obtain⟨b,r,a,bs,ls,rs,bF,d,rfl,ai,c1,pb,eu,ki,nQ,cf,bD,gS,eM,hd,q⟩:=h;have eJ:=c1.length;have tp:=SqL.of (K:=K) ai;have Eo:=SqL.of (K:=K) bD;have df:(cF ls).length=ls.length:=by simp[cF]
  have NN:=Fire.Z1.count eM;have nS:((rs.map V.int).length:Int)=(rs.length:Int):=by simp
  refine⟨_,(bI (nk (j:=3) rfl (e5 (x:="_law_belt") (zs:=[]) (ix:=[]) (cn qN) ["_law_belts","_law_rates","_law_row","_law_lying","_law_work"] rfl rfl (by decide+kernel)) (ez (K:=K) rfl (pv 0)) (λcg C s H fp=>⟨(cI (i:=0) (show(["_law_belt"]:List Str).Nodup by decide+kernel) rfl (Or.inl rfl)),fW,(ci (ixk K) (pv 0) b8 (λ_ _=>rfl))⟩) v9.nd rfl (Or.inl rfl))
     (bI (dQ (hn (gO (K:=K) rfl (c6 T.aL (El T) ap cw (bq (pv 2) bA)) (λ_=>rfl))) (bZ (cW Wn)) dX)
     (bI (eo PassesOwn.leaving rfl (ez (K:=K) rfl (pv 2)) (cI (i:=4) v9.nd rfl (Or.inl rfl)) (bI (dQ (PW.pt (i_ (hn (Gx Gv l9 b8 (pv 4) (dt (eW K) (by rfl) T.f qao (bq (pv 1) bA)))) (jz (hn (gO (K:=K) rfl (c6 T.aE (CJ T) ap cw (bq (pv 0) (bq (pv 3) (bq (pv 4) bA)))) (λ_=>rfl)))))) (bZ (cW Wn)) dX)
     (bZ (eF (c6 T.aD (CG T) ap cw (bq (pv 0) (bq (pv 3) (bq (pv 4) bA))))))))
     (bZ (cW (pO (kA (fL (K:=K) rfl hu) (jD rfl (e5 (x:="_law_work") (zs:=["_law_row"]) (ix:=[2]) (cn qN) ["_law_belts","_law_rates","_law_row","_law_lying","_law_work"] rfl rfl (by decide+kernel)) (hc rfl T.g (bq (dt (eW K) (by rfl) T.f qao (bq (pv 1) bA)) bA)) (λcg C s H fp=>⟨(cI (i:=0) (show(["_law_work","_law_row"]:List Str).Nodup by decide+kernel) rfl (Or.inl rfl)),fW,(fv (K:=K) rfl qai PySem.F.slot_list_count PySem.F.type_list_count (Ak (K:=K) rfl) (pv 1) (bq (pv 0) bA))⟩)) (pv 1) (ds _)) (pN (kA (fL (K:=K) rfl hu) (pv 3) (jD rfl (e5 (x:="_law_belt") (zs:=[]) (ix:=[]) (cn qN) ["_law_belts","_law_rates","_law_row","_law_lying","_law_work"] rfl rfl (by decide+kernel)) (ez (K:=K) rfl (pv 0)) (λcg C s H fp=>⟨(cI (i:=0) (show(["_law_belt"]:List Str).Nodup by decide+kernel) rfl (Or.inl rfl)),fW,(ci (ixk K) (pv 0) b8 (λ_ _=>rfl))⟩)) (ds _))))))))),?_⟩
  walk_at "a"
  nofun;refine Z9 (ey tp) (dm (by omega)) (λ_=>true) (λi=> .int (ls.getD i dB).start) (λi ae cY hi bU k=>?_) (λi ae cY hi _ bU k=>?_) (λeL a_ q' bu nR=>?_)
  .nofun;exact k ae (Zd.refl ae)
  .obtain⟨t,fH,eR⟩:=c1.getD (i:=i) (by omega);rw[fH];have gC:=bU _ _ eR;generalize ls.getD i dB=bb at*;dsimp only[B5.v] at gC;nofun;exact k ae (Zd.refl ae)
  rw[ZbI eJ,<-Zfw] at nR;have wI:b≠eL:=λz=>by rw[z,q'] at ai;cases ai
  nofun;refine⟨a,_,rfl,bu.seq Eo,bu _ _ bD,?_⟩;have D5:=bu.seq eu;nofun;refine Ya (ey Eo) (λi af ae=>∃(e:Nat->Nat)(a4:Option V),af=[some (.ref b),some (.ref r),some (.ref a),some (.ref eL),a4]/\Zd H ae/\ae eL=some (.lst ((gy ls (cF ls) e).map V.int))/\Fire.Z1 (dN ls (cF ls) rs) e (bF.drop i) d) ⟨λ_=>0,_,rfl,bu,nR,eM⟩ (λi af ae h=>(let⟨_,_,_,s,_⟩:=h;s)) ?_ ?_
  .rintro i af b7 hi ⟨e,a4,rfl,bR,rE,fa⟩;have dy:i<bF.length:=by simpa using hi
   have c4:((bF.map λw:Nat=>(w:Int)).map V.int).getD i .non= .int (bF[i]:Nat):=by simp[List.getD,dy]
   rw[c4];rw[List.drop_eq_getElem_cons dy] at fa;obtain⟨ju,gh⟩:dN ls (cF ls) rs e bF[i]/\Fire.Z1 (dN ls (cF ls) rs) (Fire.bump e bF[i]) (bF.drop (i+1)) d:=by
    cases fa with
    |cons r h=>exact⟨r,h⟩
   generalize bF[i]=w at*;have iO:=g8 (d:=e) df;have mc:iW ls (gy ls (cF ls) e) (w:Int)=true:=by
    have:=(nL df cf ju.1).mpr ju;unfold e' at this;rw[qaU] at this;exact this.2
   have ht:=ju.1;have Tf:=bR.seq eu;have jo:=bR _ _ ai;have hJ:=c1.keep λb xs e=>bR _ _ e;have jS:0<=(w:Int)/\(w:Int)<((rs.map V.int).length:Int):=by rw[nS];omega
   nofun;refine⟨b,eL,(w:Int),bs,ls,_,rfl,.of jo,hJ,.of rE,iO,pb,λbW b2=>?_⟩;rw[mc];nofun;refine⟨b,eL,(w:Int),bs,ls,_,rfl,b2 _ _ jo,wI,hJ.keep (λb xs e=>b2 _ _ e),b2 _ _ rE,iO,pb,λb0 ho Ep=>?_⟩;rw[wl df cf] at Ep;nofun;exact⟨Fire.bump e w,_,rfl,λx o z=>ho.keep _ _ (b2 _ _ (bR _ _ z)) (by simp;exact λy=>by rw[y,q'] at z;cases z),Ep,gh⟩
  .rintro af b7 ⟨e,a4,rfl,bR,rE,fa⟩;rw[GE,GE,List.drop_length] at fa;have ee:e=d:=by cases fa;rfl
   subst ee;rw[Zjb ki cf gS hd] at rE;have gh:=bR.seq eu;nofun;refine Z9 Wa (dm (by rw[nS];omega)) (λ_=>true) (λv=> .int (rs.getD v 0)) (λv ae cY bS bU k=>?_) (λv ae cY bS _ bU k=>?_) (λct bW hct b2 NO=>?_)
   .nofun;exact k ae (Zd.refl ae)
   .have gH:v<rs.length:=by omega
    have Cj:=bU _ _ (bR _ _ bD);have j5:((bF.map λw:Nat=>(w:Int)).count (v:Int):Int)=rs.getD v 0:=by
     rw[ZiX,<-h0 ki gH,<-hd v gH,NN v];simp
    rw[qaV];nofun;refine Rd.Zkn (SqL.of Cj) ?_;rw[j5];nofun;exact k ae (Zd.refl ae)
   have NP:bW ct=some (.lst (rs.map V.int)):=by
    rw[NO,qaz.mpr (by simp),nS,FM];refine congrArg (λz=>some (HO.lst z)) ?_;refine qau (by simp) λi ak a'=>?_;have:i<rs.length:=by simpa using ak
    simp[List.getD,this]
   have gj:=bR.trans b2;have i2:=SqL.of (K:=K) (gj _ _ ai);have ej:=c1.keep λb xs e=>gj _ _ e;nofun;refine Rd.ZgB (eV.ints (SqL.of NP)) (eV.ints (gj.seq eu)) (iM _) (iM _) (np _) ?_;rw[V9,decide_eq_true rfl];nofun;refine Z9 (ey i2) (dm (by omega)) (λ_=>true) (λi=> .int (ls.getD i dB).start) (λi ae cY hi bU k=>?_) (λi ae cY hi _ bU k=>?_) (λst b0 eN cs rF=>?_)
   .nofun;exact k ae (Zd.refl ae)
   .obtain⟨t,fH,eR⟩:=ej.getD (i:=i) (by omega);rw[fH];have gC:=bU _ _ eR;generalize ls.getD i dB=bb at*;dsimp only[B5.v] at gC;nofun;exact k ae (Zd.refl ae)
   rw[ZbI eJ] at rF;refine Rd.ZgB (eV.ints (SqL.of (cs _ _ (b2 _ _ rE)))) (eV.ints (SqL.of rF)) (iM _) (iM _) (np _) ?_;rw[V9,decide_eq_true rfl];exact q _ (gj.trans cs)
inductive Er(vs:List V)(H:Hp)(Q:VK)(E:XK):Prop
 |mk (p r:Addr) (jm:JM) (ad:List Addr) (b5:List Int) (cQ:vs=[.ref p,.ref r]) (cE:We T H p jm ad) (cJ:SqL K H r (b5.map V.int)) (dq:b5.length<=400) (d2:jm.inner.length<=400) (em:jm.kept.length<=30) (e2:((∃k∈b5,¬(0<=k/\k<(jm.kept.length:Int)))->∀ae,Zd H ae->E (.ref T.q) none ae)) (fx:((∀k∈b5,0<=k/\k<(jm.kept.length:Int))->∀(u:Addr)(ae:Hp),H u=none->Zd H ae->ae u=some (.lst ((unfL jm b5).map V.int))->Q (.ref u) ae)):Er vs H Q E
theorem rG:OkM P w mg base 4 T.ab (Er T):=by
 have pA:=T.h;have pB:=T.o;refine T.ab.F.okX v_ (λvs H Q E h=>?_) (λcz A outer s H vs Q E ap h=>?_)
 .obtain⟨p,r,jm,ad,b5,rfl,_⟩:=h
  rfl
 .have hu:=ap.hu;obtain⟨p,r,jm,ad,b5,rfl,bw,fy,jx,NQ,xk,bE,q⟩:=h;obtain⟨bx,a,b,c,d,bs,rfl,ak,a',bL,cu,dJ,da⟩:=bw;refine⟨_,(bI (cy (i:=2) v_.nd rfl (Or.inl rfl) (gX bA))
     (bI (eo PassesOwn.leaving rfl (ez (K:=K) rfl (pv 1)) (cI (i:=3) v_.nd rfl (Or.inl rfl)) (bI (dQ (hn (gO (K:=K) rfl (c6 T.ar (wA T) ap cw (bq (pv 3) (bq (dt (eW K) (by rfl) T.f qao (bq (eB (K:=K) rfl (pv 0) rfl) bA)) bA))) (λ_=>rfl))) (bZ (jF T.w.g T.w.e qaE rfl (bq Wh bA))) dX)
     (bZ (dQ (dk (fL (K:=K) rfl hu) (pv 3) (eB (K:=K) rfl (pv 0) rfl) (ds _)) (bZ (eF (fv (K:=K) rfl qai PySem.F.slot_list_extend PySem.F.type_list_extend G0 (pv 2) (bq (eB (K:=K) rfl (pv 0) rfl) bA)))) (bZ (eF (fv (K:=K) rfl qai qaq qar g0 (pv 2) (bq (ci (ixk K) (eB (K:=K) rfl (pv 0) rfl) (pv 3) (λ_ _=>rfl)) bA))))))))
     (bZ (cW (pv 2))))),?_⟩
  walk_at "a"
  nofun;refine⟨qat _,λu mC=>?_⟩;have bu:Zd H (upd H u (.lst [])):=cO mC;have gT:(upd H u (.lst [])) u=some (.lst []):=Ze;generalize upd H u (.lst [])=a_ at*;have eu:=bu.seq fy;nofun;have NR:((jm.kept.map λx:Nat=>(x:Int)).map V.int).length=jm.kept.length:=by simp
  refine Ya (ey fy) (λi af ae=>Zd H ae/\(∃a3,af=[some (.ref p),some (.ref r),some (.ref u),a3])/\(∀k∈b5.take i,0<=k/\k<(jm.kept.length:Int))/\ae u=some (.lst ((unfL jm (b5.take i)).map V.int))) ⟨bu,⟨_,rfl⟩,by simp,gT⟩ (λi af ae h=>h.1) ?_ ?_
  .rintro i af bt hi ⟨bM,⟨a3,rfl⟩,tY,hH⟩;have cm:i<b5.length:=by rw[GE] at hi;exact hi
   have c4:(b5.map V.int).getD i .non=V.int b5[i]:=by simp[List.getD,cm]
   rw[c4];have eZ:=qad cm;rw[eZ];have d9:=ZaB (jm:=jm) (b5.take i);have n9:(b5.take i).length*(jm.inner.length+1)<=400*401:=qcq (by rw[qaC];omega) (by omega);have j_:=GM cm;generalize b5[i]=k at*;generalize b5.take i=kt at*;have BU:=bM _ _ ak;have Es:=bM _ _ a';have NS:=bM _ _ bL;have Tg:=SqL.of (K:=K) Es;have Th:=SqL.of (K:=K) NS;nofun;rw[NR];have lu:Zd bt bt:=Zd.refl bt
   by_cases br:0<=k/\k<(jm.kept.length:Int)
   case neg=>
    rw[decide_eq_false br,Bool.not_false];nofun;exact bE ⟨k,j_,br⟩ _ bM
   rw[decide_eq_true br,Bool.not_true];rw[B7];have Et:∀x∈kt++ [k],0<=x/\x<(jm.kept.length:Int):=λx bp=>by
    rcases qaI.mp bp with z|z
    .exact tY x z
    .rw[qac.mp z];exact br
   have rH:((unfL jm kt).map V.int).length<sizeLine:=by
    rw[GE];refine qaO (qaj d9 n9) ?_
    decide
   nofun
   by_cases n_:k=(jm.joined:Int)
   .have bP:kT jm k=jm.inner:=by unfold kT;rw[if_pos n_]
    rw[bP,qaG];nofun;refine⟨u,a,_,_,rfl,rfl,hH,Es,?_,?_⟩
    .rw[GE,GE];refine qaj (Nat.add_le_add (qaj d9 n9) NQ) ?_
     decide
    nofun;exact⟨bM.new mC,⟨_,rfl⟩,Et,Ze⟩
   .have bP:kT jm k=[((jm.kept.getD k.toNat 0:Nat):Int)]:=by unfold kT;rw[if_neg n_]
    rw[bP,qaG];have et:atI ((jm.kept.map λx:Nat=>(x:Int)).map V.int) k=some (.int ((jm.kept.getD k.toNat 0:Nat):Int)):=by
     obtain⟨j,rfl⟩:=qaL br.1;have:j<jm.kept.length:=by omega
     exact gJ (by simp[List.getD,this])
    generalize jm.kept.getD k.toNat 0=kw at*;nofun;exact⟨bM.new mC,⟨_,rfl⟩,Et,Ze⟩
  .rintro af bt ⟨bM,⟨a3,rfl⟩,tY,hH⟩;rw[GE,qaD] at tY hH;nofun;exact q tY u bt mC bM hH
inductive Eu(vs:List V)(H:Hp)(Q:VK)(cP:XK):Prop
 |mk (p:Addr) (jm:JM) (ad:List Addr) (cQ:vs=[.ref p]) (cE:We T H p jm ad) (cJ:∀r,H r=none->Q (.ref r) (upd H r (.lst (jm.inner.map V.int)))):Eu vs H Q cP
theorem NT:OkM P w mg base 1 T.bd (Eu T):=by
 have pA:=T.h;have pB:=T.o;refine T.bd.F.okX JP (λvs H Q E h=>?_) (λcz A outer s H vs Q E ap h=>?_)
 .obtain⟨p,jm,ad,rfl,_⟩:=h
  rfl
 .have hu:=ap.hu;obtain⟨p,jm,ad,rfl,bw,q⟩:=h;obtain⟨bx,a,b,c,d,bs,rfl,ak,a',bL,cu,dJ,da⟩:=bw;refine⟨_,(bZ (cW (i' (j8 (K:=K) rfl) (by rfl) T.j qaF (bq (eB (K:=K) rfl (pv 0) rfl) bA)))),?_⟩
  walk_at "a"
  nofun;refine Rd.W3 (.of a') (λr ap=>?_);nofun;exact q r ap
inductive Ev(vs:List V)(H:Hp)(Q:VK)(cP:XK):Prop
 |mk (p:Addr) (jm:JM) (ad:List Addr) (cQ:vs=[.ref p]) (cE:We T H p jm ad) (cJ:Q (.int jm.joined) H):Ev vs H Q cP
theorem Ew:OkM P w mg base 1 T.aN (Ev T):=by
 have pA:=T.h;have pB:=T.o;refine T.aN.F.okX JQ (λvs H Q E h=>?_) (λcz A outer s H vs Q E ap h=>?_)
 .obtain⟨p,jm,ad,rfl,_⟩:=h
  rfl
 .have hu:=ap.hu;obtain⟨p,jm,ad,rfl,bw,q⟩:=h;obtain⟨bx,a,b,c,d,bs,rfl,ak,a',bL,cu,dJ,da⟩:=bw;refine⟨_,(bZ (cW (eB (K:=K) rfl (pv 0) rfl))),?_⟩
  walk_at "a"
  nofun;exact q
inductive Ey(vs:List V)(H:Hp)(Q:VK)(cP:XK):Prop
 |mk (j g c:Addr) (m:Nat) (jm:JM) (ad:List Addr) (cc cv:List Int) (mn:Int) (cQ:vs=[.ref j,.int m,.ref g,.ref c]) (cE:We T H j jm ad) (cJ:SqL K H g (cc.map V.int)) (dq:Ug m cc) (d2:mn∈cc) (em:(∀x∈cc,mn<=x)) (e2:m<=30) (fx:jm.kept=dU m cc mn) (h2:jm.joined=idxL (cl m cc mn) mn) (jN:jm.inner.length<=400) (kg:SqL K H c (cv.map V.int)) (q_:cv.length<=16) (xC:∀ae,Zd H ae->Q (.bl true) ae):Ey vs H Q cP
theorem NU:OkN P w base 5 T.be (Ey T):=by
 have pA:=T.h;have pB:=T.o;refine T.be.F.okX nG (λvs H Q E h=>?_) (λcz A outer s H vs Q E ap h=>?_)
 .obtain⟨j,g,c,m,jm,ad,cc,cv,mn,rfl,_⟩:=h
  rfl
 .have hu:=ap.hu;obtain⟨j,g,c,m,jm,ad,cc,cv,mn,rfl,bw,bG,hok,iB,l0,n',xV,Ez,tZ,bv,tu,q⟩:=h;have mO:0<cc.length:=qbT.mpr hok.1;have gw:=ZaM (n:=m) (ms:=cc) (mn:=mn);have h4:mn∈cl m cc mn:=YO.mpr ⟨hok.2.2 mn iB,.inl rfl⟩;have xW:(cl m cc mn).length=jm.kept.length:=by rw[xV];unfold cl;simp
  have vA:0<jm.kept.length:=by rw[<-xW];exact List.length_pos_of_mem h4
  refine⟨_,(bI (cy (i:=4) nG.nd rfl (Or.inr rfl) (jD rfl (e5 (x:="_law_work") (zs:=["_law_group"]) (ix:=[2]) (cn sP) ["_law_joint","_law_many","_law_group","_law_cells","_law_kept","_law_row","_law_due","_law_work","_law_found"] rfl rfl (by decide+kernel)) (hc rfl T.g (bq (pv 1) bA)) (λcg C s H fp=>⟨(cI (i:=0) (show(["_law_work","_law_group"]:List Str).Nodup by decide+kernel) rfl (Or.inl rfl)),(nc (PW.pt (i_ (dk (fL (K:=K) rfl hu) (pv 0) (dt (vz (K:=K) rfl rfl) (by rfl) T.y qbq (bq (pv 1) bA)) (ds _)) (jz (dk (zV (K:=K) rfl) (pv 0) (pv 1) (by with_unfolding_all rfl)))))),(pv 0)⟩)))
     (bI (nk (j:=5) rfl (e5 (x:="_law_cell") (zs:=["_law_kept"]) (ix:=[4]) (cn sP) ["_law_joint","_law_many","_law_group","_law_cells","_law_kept","_law_row","_law_due","_law_work","_law_found"] rfl rfl (by decide+kernel)) (ez (K:=K) rfl (pv 3)) (λcg C s H fp=>⟨(cI (i:=0) (show(["_law_cell","_law_kept"]:List Str).Nodup by decide+kernel) rfl (Or.inl rfl)),fW,(cK fT (pv 0) (dt (eW K) (by rfl) T.f qao (bq (pv 1) bA)))⟩) nG.nd rfl (Or.inl rfl))
     (bI (cy (i:=6) nG.nd rfl (Or.inl rfl) (gX bA))
     (bI (eo PassesOwn.leaving rfl (ez (K:=K) rfl (pv 5)) (cI (i:=7) nG.nd rfl (Or.inl rfl)) (bZ (dQ (dk (fL (K:=K) rfl hu) (ci (ixk K) (pv 4) (pv 7) (λ_ _=>rfl)) (dt (vz (K:=K) rfl rfl) (by rfl) T.y qbq (bq (pv 2) bA)) (ds _)) (bZ (cy (i:=6) nG.nd rfl (Or.inl rfl) (cK (hh K) (pv 6) (il (pv 0) T.h T.bd (NT T) ap cw)))) (bZ (eF (fv (K:=K) rfl qai qaq qar g0 (pv 6) (bq (ci (ixk K) (pv 4) (pv 7) (λ_ _=>rfl)) bA)))))))
     (bI (cy (i:=8) nG.nd rfl (Or.inl rfl) (fk (pv 0) T.h T.ab (rG T) ap cw (bq (i' (j8 (K:=K) rfl) (by rfl) T.j qaF (bq (pv 5) bA)) bA)))
     (bI (dQ (PW.pt (i_ (hn (gO (K:=K) rfl (c6 T.aL (El T) ap cw (bq (pv 8) bA)) (λ_=>rfl))) (jz (dk (nq (K:=K) rfl hu) (pv 8) (pv 6) (ds _))))) (bZ (cW Wn)) dX)
     (bI (eF (fv (K:=K) rfl qai qaq qar g0 (pv 8) (bq b8 bA)))
     (bI (eF (fv (K:=K) rfl qai qaq qar g0 (fk (pv 0) T.h T.ab (rG T) ap cw (bq (gX (bq (il (pv 0) T.h T.aN (Ew T) ap cw) bA)) bA)) (bq b8 bA)))
     (bZ (cW (kA (fL (K:=K) rfl hu) (fk (pv 0) T.h T.ab (rG T) ap cw (bq (i' (j8 (K:=K) rfl) (by rfl) T.j qaF (bq (pv 5) bA)) bA)) (pv 6) (ds _)))))))))))),?_⟩
  walk_at "a"
  nofun;refine Z9 Wa (dm (by omega)) (λi=>iZ cc mn i) (λi=> .int (i:Int)) (λi ae cY hi bU k=>?_) (λi ae cY hi _ bU k=>?_) (λkp a_ hkp0 bu EA=>?_)
  .have pk:=bU.seq bG;rw[qaV];unfold iZ at k;nofun;refine Rd.Zlw pk mO λM hM1 rJ=>?_;obtain rfl:mn=M:=by have:=l0 M hM1;have:=rJ mn iB;omega
   nofun
   by_cases hw:(i:Int)=mn
   .rw[decide_eq_true hw,Bool.true_or] at k;nofun;exact k ae (Zd.refl ae)
   .rw[decide_eq_false hw,Bool.false_or] at k;nofun;exact k ae (Zd.refl ae)
  .rw[qaV];nofun;exact k ae (Zd.refl ae)
  have xX:((List.range ((m:Nat):Int).toNat).filter λi=>iZ cc mn i).map (λi:Nat=>V.int (i:Int))=(jm.kept.map λx:Nat=>(x:Int)).map V.int:=by
   rw[xV];unfold dU;rw[FM,qaP]
   rfl
  rw[xX] at EA;have EB:=SqL.of (K:=K) EA;have kU:=bu.seq bv;have NV:(((jm.kept.map λx:Nat=>(x:Int)).map V.int).length:Int)=(jm.kept.length:Int):=by simp
  have GI:0<(((jm.kept.map λx:Nat=>(x:Int)).map V.int).length:Int):=by omega
  nofun;refine Z9 (ey kU) (dm (by simp;omega)) (λ_=>true) (λi=> .int (cv.getD i 0 % (jm.kept.length:Int))) (λi ae cY hi bU k=>?_) (λi ae cY hi _ bU k=>?_) (λrK bt hra bM oa=>?_)
  .nofun;exact k ae (Zd.refl ae)
  .have cm:i<cv.length:=by simpa using hi
   have c4:(cv.map V.int).getD i .non=V.int (cv.getD i 0):=by simp[List.getD,cm]
   rw[c4];rw[<-NV] at k;have kI:=bU.seq EB;nofun;exact k ae (Zd.refl ae)
  obtain⟨b5,xF,jI,jx⟩:∃b5:List Int,((List.range (cv.map V.int).length).filter λ_=>true).map (λi=>V.int (cv.getD i 0 % (jm.kept.length:Int)))=b5.map V.int/\(∀k∈b5,0<=k/\k<(jm.kept.length:Int))/\b5.length<=16:=by
   refine⟨(List.range cv.length).map λi=>cv.getD i 0 % (jm.kept.length:Int),by rw[qaz.mpr λ_ _=>rfl,GE,qaP];rfl,λk br=>?_,by simpa using tu⟩;obtain⟨i,_,rfl⟩:=qae.mp br;exact⟨qbb _ (by omega),qa9 _ (by omega)⟩
  rw[xF] at oa;have f5:=bu.trans bM;nofun;refine⟨qat _,λjP pC=>?_⟩;have bR:Zd bt (upd bt jP (.lst [])):=cO pC;have ob:(upd bt jP (.lst [])) jP=some (.lst []):=Ze;generalize upd bt jP (.lst [])=b7 at*;have pD:=SqL.of (K:=K) oa;have Ti:=bR.seq pD;nofun;refine Ya (ey pD) (λi af ae=>∃(jP:Addr)(a7:Option V),af=[some (.ref j),some (.int m),some (.ref g),some (.ref c),some (.ref kp),some (.ref rK),some (.ref jP),a7,none]/\Zd bt ae/\bt jP=none/\ae jP=some (.lst ((unfL jm (b5.take i)).map V.int))) ⟨jP,_,rfl,bR,pC,ob⟩ (λi af ae h=>(let⟨_,_,_,s,_⟩:=h;s)) ?_ ?_
  .rintro i af bW hi ⟨jP,a7,rfl,b2,pC,rL⟩;have cm:i<b5.length:=by rw[GE] at hi;exact hi
   have c4:(b5.map V.int).getD i .non=V.int b5[i]:=by simp[List.getD,cm]
   rw[c4,qad cm,B7];obtain⟨k0,k1⟩:=jI _ (GM cm);have rH:=ZaB (jm:=jm) (b5.take i);have n9:(b5.take i).length*(jm.inner.length+1)<=16*401:=qcq (by rw[qaC];omega) (by omega);generalize b5[i]=k at*;generalize unfL jm (b5.take i)=w7 at*;have EC:=b2.seq (bM.seq EB);have q8:=(f5.trans b2).seq bG;have xY:=bw.same (f5.trans b2);have NW:(w7.map V.int).length<sizeLine:=by
    rw[GE];refine qaO (qaj rH n9) ?_
    decide
   have et:atI ((jm.kept.map λx:Nat=>(x:Int)).map V.int) k=some (.int ((jm.kept.getD k.toNat 0:Nat):Int)):=by
    obtain⟨i,rfl⟩:=qaL k0;have:i<jm.kept.length:=by omega
    exact gJ (by simp[List.getD,this])
   have ED:((jm.kept.getD k.toNat 0:Nat):Int)=mn↔k=(jm.joined:Int):=by
    have NX:k.toNat<(cl m cc mn).length:=by rw[xW];omega
    have bE:((jm.kept.getD k.toNat 0:Nat):Int)=(cl m cc mn)[k.toNat]:=by
     rw[dr (by omega)];simp only[xV];exact(qaY _).symm
    rw[bE,Ez];have ak:=(iq h4).1
    constructor
    .intro e;have a':=iq h4;have cD:=Vk h4;rw[GT cD] at ak;have:=(qbM o7).mp ((qam ak).trans e.symm);omega
    .intro e;have bP:k.toNat=idxL (cl m cc mn) mn:=by omega
     rw[<-bP,GT NX] at ak;exact qam ak
   have NY:kT jm k=if k=(jm.joined:Int) then jm.inner else[((jm.kept.getD k.toNat 0:Nat):Int)]:=rfl
   rw[NY];nofun;refine Rd.Zlw q8 mO λM hM1 rJ=>?_;obtain rfl:mn=M:=by have:=l0 M hM1;have:=rJ mn iB;omega
   nofun
   by_cases n_:k=(jm.joined:Int)
   .have bO:=ED.mpr n_;rw[if_pos n_,qaG];nofun;refine⟨j,jm,ad,rfl,xY,λf1 lV=>?_⟩;have cs:Zd bW (upd bW f1 (.lst (jm.inner.map V.int))):=cO lV;have xZ:(upd bW f1 (.lst (jm.inner.map V.int))) f1=some (.lst (jm.inner.map V.int)):=Ze;generalize upd bW f1 (.lst (jm.inner.map V.int))=b0 at*;refine Rd.ZnA (cs _ _ rL) xZ ?_ (λf2 lY=>?_)
    .rw[GE,GE];refine qaj (Nat.add_le_add (qaj rH n9) tZ) ?_
     decide
    nofun;exact⟨f2,_,rfl,b2.trans (cs.trans (cO lY)),ei (b2.trans cs) lY,Ze⟩
   .have bO:=mt ED.mp n_;rw[if_neg n_,qaG];nofun;exact⟨jP,_,rfl,b2.new pC,pC,Ze⟩
  rintro af bW ⟨jP,a7,rfl,b2,pC,rL⟩;rw[GE,qaD] at rL;have gj:=f5.trans b2;have xY:=bw.same gj;have oc:=b2.seq pD;nofun;refine Rd.W3 oc (λfE iR=>?_);have cs:Zd bW (upd bW fE (.lst (b5.map V.int))):=cO iR;have xZ:(upd bW fE (.lst (b5.map V.int))) fE=some (.lst (b5.map V.int)):=Ze;generalize upd bW fE (.lst (b5.map V.int))=b0 at*;have x_:=xY.same cs;nofun;refine⟨j,fE,jm,ad,b5,rfl,x_,.of xZ,by omega,tZ,by omega,λ⟨x,bp,bv⟩=>absurd (jI x bp) bv,λ_ u c9 hu dY rx=>?_⟩;have rH:=ZaB (jm:=jm) b5;have n9:b5.length*(jm.inner.length+1)<=16*401:=qcq (by omega) (by omega);have NW:((unfL jm b5).map V.int).length<sizeLine:=by
   rw[GE];refine qaO (qaj rH n9) ?_
   decide
  have NZ:=dY _ _ (cs _ _ rL);nofun;refine⟨u,_,rfl,.of rx,rx,?_⟩;nofun;refine Rd.Znc (eV.ints (SqL.of rx)) (eV.ints (SqL.of NZ)) (iM _) (iM _) (np _) ?_;rw[V9,decide_eq_true rfl];nofun;have EE:Zd b0 (upd c9 u (.lst ((unfL jm b5).map V.int++ [.int 0]))):=dY.new hu;generalize upd c9 u (.lst ((unfL jm b5).map V.int++ [.int 0]))=di at*;have EF:=x_.same EE;nofun;refine⟨j,jm,ad,rfl,EF,?_⟩;nofun;intro iU fe;have e4:Zd di (upd di iU (.lst [V.int (jm.joined:Int)])):=cO fe;have N0:(upd di iU (.lst [V.int (jm.joined:Int)])) iU=some (.lst (([(jm.joined:Int)]).map V.int)):=Ze;generalize upd di iU (.lst [V.int (jm.joined:Int)])=eU at*;have Tj:jm.joined<jm.kept.length:=by rw[Ez,<-xW];exact Vk h4
  nofun;refine⟨j,iU,jm,ad,_,rfl,EF.same e4,.of N0,by simp,tZ,by omega,λ⟨x,bp,bv⟩=>absurd (by rw[qac.mp bp];omega) bv,λ_ qm f' hH hy Tk=>?_⟩;have Tl:((unfL jm [(jm.joined:Int)]).map V.int).length<sizeLine:=by
   have ak:=ZaB (jm:=jm) [(jm.joined:Int)];rw[GE];refine dm (qaj ak ?_);simp;omega
  nofun;have N1:Zd eU (upd f' qm (.lst ((unfL jm [(jm.joined:Int)]).map V.int++ [.int 0]))):=hy.new hH;generalize upd f' qm (.lst ((unfL jm [(jm.joined:Int)]).map V.int++ [.int 0]))=fj at*;have EG:=EE.trans (e4.trans N1);have EH:=cs.trans EG;have N2:=x_.same EG;have N3:=EH.seq oc;nofun;refine Rd.W3 N3 (λrM jr=>?_);have jh:Zd fj (upd fj rM (.lst (b5.map V.int))):=cO jr;have t0:(upd fj rM (.lst (b5.map V.int))) rM=some (.lst (b5.map V.int)):=Ze;generalize upd fj rM (.lst (b5.map V.int))=iL at*;nofun;refine⟨j,rM,jm,ad,b5,rfl,N2.same jh,.of t0,by omega,tZ,by omega,λ⟨x,bp,bv⟩=>absurd (jI x bp) bv,λ_ mP H12 lS i3 N4=>?_⟩;have EI:=EH.trans (jh.trans i3);nofun;refine Rd.ZgB (eV.ints (SqL.of N4)) (eV.ints (SqL.of (EI _ _ rL))) (iM _) (iM _) (np _) ?_;rw[V9,decide_eq_true rfl];exact q _ (gj.trans EI)
inductive EJ(T:Tp K mg)(vs:List V)(H:Hp)(Q:VK)(cP:XK):Prop
 |mk (c:Int) (a:Addr) (rs:List Int) (jQ:Nat) (am:Bool) (cQ:vs=[.int c,.ref a,.int jQ,.bl am]) (cE:SqL K H a (rs.map V.int)) (cJ:0<rs.length) (dq:rs.length<=30) (d2:Zng rs) (em:0<jQ) (e2:jQ<=10) (fx:∀(u:Addr)(ae:Hp)(b:B5),H u=none->Zd H ae->ae u=some (.tup b.v)->Bel rs.length b->b.give*rs.getD b.giver.toNat 0=b.take*rs.getD b.taker.toNat 0->Q (.ref u) ae):EJ T vs H Q cP
theorem N5:OkN P w base 2 T.bf (EJ T):=by
 refine T.bf.F.okX kM (λvs H Q E h=>?_) (λcz A outer s H vs Q E ap h=>?_)
 .obtain⟨c,a,rs,jQ,am,rfl,_⟩:=h
  rfl
 .have hu:=ap.hu;obtain⟨c,a,rs,jQ,am,rfl,m',Cn,ga,cu,Tn,To,q⟩:=h;have N6:0<(jQ:Int):=by omega
  have df:((rs.map V.int).length:Int)=(rs.length:Int):=by simp
  have hf:0<((rs.map V.int).length:Int):=by omega
  refine⟨_,(bI (cy (i:=4) kM.nd rfl (Or.inl rfl) (cK fT (cK gL (pv 0) b8) b8))
     (bI (cy (i:=5) kM.nd rfl (Or.inl rfl) (cK fT (pv 4) (dt (eW K) (by rfl) T.f qao (bq (pv 1) bA))))
     (bI (cy (i:=6) kM.nd rfl (Or.inl rfl) (cK fT (cK gK (pv 4) b8) (dt (eW K) (by rfl) T.f qao (bq (pv 1) bA))))
     (bI (cy (i:=7) kM.nd rfl (Or.inl rfl) (c6 T.x2 (wx T) ap cw (bq (ci (ixk K) (pv 1) (pv 5) (λ_ _=>rfl)) (bq (ci (ixk K) (pv 1) (pv 6) (λ_ _=>rfl)) bA))))
     (bI (cy (i:=8) kM.nd rfl (Or.inl rfl) (cK (hh K) b8 (cK fT (cK gK (pv 4) b8) (pv 2))))
     (bI (cy (i:=9) kM.nd rfl (Or.inl rfl) (cK gK (cK gL (pv 8) (ci (ixk K) (pv 1) (pv 6) (λ_ _=>rfl))) (pv 7)))
     (bI (cy (i:=10) kM.nd rfl (Or.inl rfl) (cK gK (cK gL (pv 8) (ci (ixk K) (pv 1) (pv 5) (λ_ _=>rfl))) (pv 7)))
     (bI (cy (i:=11) kM.nd rfl (Or.inl rfl) (cK fT (cK gK (pv 4) b8) b8))
     (bI (qc (dQ (PW.pt (i_ (gO (K:=K) rfl (pv 3) (λ_=>rfl)) (jz (PW.pt (pM (dk pX (pv 5) (pv 6) (ds _)) (pK (dk ou (cK fT (cK gK (pv 4) b8) b8) b8 (ds _)))))))) (bZ (cy (i:=11) kM.nd rfl (Or.inl rfl) (cK (hh K) (pv 11) (cK gL (pv 10) (ci (ixk K) (pv 1) (pv 6) (λ_ _=>rfl)))))) dX))
     (bZ (cW (hR (bq (pv 5) (bq (pv 6) (bq (pv 9) (bq (pv 10) (bq (pv 11) bA))))))))))))))))),?_⟩
  walk_at "a"
  nofun;have hP:0<=c*48271 % 2147483647:=by omega
  have fJ:c*48271 % 2147483647<2147483647:=by omega
  generalize c*48271 % 2147483647=fG at*;have cq:=qbb fG (show((rs.map V.int).length:Int)≠0 by omega);have cN:=qa9 fG hf;have gG:=qbb (fG / 7) (show((rs.map V.int).length:Int)≠0 by omega);have hN:=qa9 (fG / 7) hf;generalize fG % ((rs.map V.int).length:Int)=g at*;generalize fG / 7 % ((rs.map V.int).length:Int)=t at*;rw[df] at cN hN;have EK:∀{w:Int},0<=w->w<(rs.length:Int)->∃x:Nat,rs.getD w.toNat 0=(x:Int)/\1<=x/\x<=6:=λ{w} e8 f8=>by
   have bz:rs.getD w.toNat 0∈rs:=by rw[dr (by omega)];exact GM _
   obtain⟨fc,ie⟩:=cu _ bz;exact⟨(rs.getD w.toNat 0).toNat,by omega,by omega,by omega⟩
  obtain⟨x,ex,x0,x1⟩:=EK cq cN;obtain⟨y,e3,ke,hY⟩:=EK gG hN;have gB:=Zcr cq cN;have lQ:=Zcr gG hN;rw[ex] at gB;rw[e3] at lQ;have Tq:=qbb (fG / 49) (show(jQ:Int)≠0 by omega);have Tr:=qa9 (fG / 49) N6;obtain⟨f,N7⟩:∃f:Nat,1+fG / 49 % (jQ:Int)=(f:Int):=⟨(1+fG / 49 % (jQ:Int)).toNat,by omega⟩;have dR:1<=f:=by omega
  have f1:f<=10:=by omega
  have dS:0<Nat.gcd x y:=qbH _ (by omega);have Ts:Nat.gcd x y<=x:=qbE (by omega) (qby _ _);have Tt:Nat.gcd x y<=y:=qbE (by omega) (qa6 _ _);have iI:x<=f*x:=Nat.le_mul_of_pos_left x (by omega);have zq:y<=f*y:=Nat.le_mul_of_pos_left y (by omega);have Tu:f*x<=10*6:=qcq f1 x1;have Tv:f*y<=10*6:=qcq f1 hY;have fc:1<=f*y / Nat.gcd x y:=qcw (by omega) dS;have ie:1<=f*x / Nat.gcd x y:=qcw (by omega) dS;have lK:f*x / Nat.gcd x y<=60:=qaj (qba _ _) (by omega);have Kr:f*y / Nat.gcd x y<=60:=qaj (qba _ _) (by omega);have MX:IntMulOk (1+fG / 49 % (jQ:Int)) (x:Int):=mulI (n:=10) (m:=10) (by omega) (by omega) (by decide);have MY:IntMulOk (1+fG / 49 % (jQ:Int)) (y:Int):=mulI (n:=10) (m:=10) (by omega) (by omega) (by decide);have Tw:0<((Nat.gcd x y:Nat):Int)/\((Nat.gcd x y:Nat):Int).natAbs.log2<9000:=⟨by omega,wr (by omega)⟩;refine Rd.Zn0 m' gB ?_;nofun;refine⟨x,y,rfl,?_⟩;nofun;rw[N7];have eh:(f:Int)*(y:Int) / ((Nat.gcd x y:Nat):Int)=((f*y / Nat.gcd x y:Nat):Int):=rfl;have dL:(f:Int)*(x:Int) / ((Nat.gcd x y:Nat):Int)=((f*x / Nat.gcd x y:Nat):Int):=rfl;rw[eh,dL];have gS:=Zoh (f:=f) (y:=y) x0;generalize f*y / Nat.gcd x y=cX at*;generalize f*x / Nat.gcd x y=b1 at*;have Tx:IntMulOk (b1:Int) (y:Int):=mulI (n:=10) (m:=10) (by omega) (by omega) (by decide);have x':0<=fG / 98 % 3/\fG / 98 % 3<=2:=by omega
  have ty:(b1:Int)*(y:Int)<=60*6:=Int.mul_le_mul (by omega) (by omega) (by omega) (by omega);have Tz:0<=(b1:Int)*(y:Int):=Int.mul_nonneg (by omega) (by omega);refine Rd.cut (λbY ae=>ae=H/\∃st:Int,bY=[some (.int c),some (.ref a),some (.int jQ),some (.bl am),some (.int fG),some (.int g),some (.int t),some (.int (Nat.gcd x y:Nat)),some (.int f),some (.int cX),some (.int b1),some (.int st)]/\0<=st) ?k1 ?hp
  case hp=>
   cases am with
   |true=>
    nofun;exact⟨rfl,_,rfl,by omega⟩
   |false=>
    nofun;refine Rd.ifD (λku=>?_) (λku=>?_)
    .nofun;refine Rd.ifD (λgQ=>?_) (λgQ=>?_)
     .nofun;exact⟨rfl,_,rfl,by omega⟩
     .nofun;exact⟨rfl,_,rfl,by omega⟩
    .nofun;exact⟨rfl,_,rfl,by omega⟩
  case k1=>
   rintro bY ae ⟨rfl,st,rfl,N8⟩;nofun;refine⟨by show 5<=sizeLine;decide,λu fO=>?_⟩;exact q u _ ⟨g,t,cX,b1,st⟩ fO (cO fO) Ze ⟨⟨cq,cN,gG,hN⟩,⟨by dsimp only;omega,by dsimp only;omega⟩,N8,⟨by dsimp only;omega,by dsimp only;omega⟩⟩ (by dsimp only;rw[ex,e3];exact_mod_cast gS)
inductive EL(vs:List V)(H:Hp)(Q:VK)(E:XK):Prop
 |mk (hb ba:Addr) (cM:List Str) (bs:List V) (ls:List B5) (cQ:vs=[.ref hb,.ref ba]) (cE:H hb=some (.lst (cM.map V.str))) (cJ:H ba=some (.lst bs)) (dq:eP H bs ls) (d2:WC cM) (em:ls.length<=1000) (e2:∀(p:Addr)(fp:List Addr)(ae:Hp),dg T ae p ⟨cM,ls⟩ fp->(∀x∈fp,H x=none)->Zd H ae->Q (.ref p) ae):EL vs H Q E
theorem EM:OkN P w base 3 T.aO (EL T):=by
 have fq:=T.a;have fr:=T.e;refine T.aO.F.okX sX (λvs H Q E h=>?_) (λcz A outer s H vs Q E ap h=>?_)
 .obtain⟨hb,ba,cM,bs,ls,rfl,_⟩:=h
  rfl
 .have hu:=ap.hu;obtain⟨hb,ba,cM,bs,ls,rfl,mQ,t1,c1,⟨eI,h3,N9⟩,hz,q⟩:=h;have eJ:=c1.length;refine⟨_,(bI (cy (i:=2) sX.nd rfl (Or.inl rfl) (z3 T.aC (CA T) ap T.ah cw))
     (bI (eo PassesOwn.leaving rfl (ez (K:=K) rfl (pv 0)) (cI (i:=3) sX.nd rfl (Or.inl rfl)) (bZ (eF (fk (pv 2) T.a T.x6 (Ct T) ap cw (bq (pv 3) bA)))))
     (bI (eo PassesOwn.leaving rfl (ez (K:=K) rfl (pv 1)) (cI (i:=4) sX.nd rfl (Or.inl rfl)) (bZ (eF (fk (pv 2) T.a T.aB (Cy T) ap cw (bq (pv 4) bA)))))
     (bZ (cW (pv 2)))))),?_⟩
  walk_at "a"
  nofun;intro bB fp a_ b4 bN bU;have TB:hb∉fp:=λz=>by rw[bN hb z] at mQ;cases mQ
  have TC:ba∉fp:=λz=>by rw[bN ba z] at t1;cases t1
  have t2:=bU _ _ mQ;nofun;refine Ya (ey (SqL.of (qv (q:=hb) (o:= .lst (cM.map V.str))))) (λi af ae=>∃(eC:List Addr)(a1:Option V),af=[some (.ref hb),some (.ref ba),some (.ref bB),a1,none]/\dg T ae bB ⟨cM.take i,[]⟩ eC/\Zd H ae/\(∀x∈eC,H x=none)) ⟨fp,_,rfl,by simpa using b4,bU,bN⟩ ?_ ?_ ?_
  .rintro i af ae ⟨_,_,_,_,h,_⟩;exact US (h _ _ mQ)
  .rintro i af bt hi ⟨nN,a1,rfl,fg,bM,lY⟩;have dy:i<cM.length:=by simpa using hi
   have c4:(cM.map V.str).getD i .non= .str cM[i]:=by simp[List.getD,dy]
   rw[c4];have hok:=h3 _ (GM dy);have lu:cM[i]∉cM.take i:=λz=>by
    obtain⟨j,bw,e⟩:=qan z;rw[qco] at e;have gb:j<i:=by rw[qaC] at bw;omega
    have:=(qbM (xs:=cM) (h₀:=by omega) (h₁:=dy) eI).mp e;omega
   have mG:=qad dy;generalize cM[i]=x at*;nofun;refine ZcM fg hok lu (by simp;omega) (λb7 rN gP kz N_=>?_);refine⟨rN,_,rfl,by rw[mG];exact gP,λb o e=>kz.keep _ _ (bM _ _ e) (λz=>by rw[lY b z] at e;cases e),λx bp=>?_⟩;rcases N_ x bp with z|z
   .exact lY x z
   .exact ei bM z
  rintro af bt ⟨nN,a1,rfl,fg,bM,lY⟩;rw[GE,qaD] at fg;have TD:=bM _ _ t1;nofun;refine Ya (ey (SqL.of (qv (q:=ba) (o:= .lst bs)))) (λi af ae=>∃(eC:List Addr)(a2:Option V),af=[some (.ref hb),some (.ref ba),some (.ref bB),a1,a2]/\dg T ae bB ⟨cM,ls.take i⟩ eC/\Zd H ae/\(∀x∈eC,H x=none)) ⟨nN,_,rfl,by simpa using fg,bM,lY⟩ ?_ ?_ ?_
  .rintro i af ae ⟨_,_,_,_,h,_⟩;exact US (h _ _ t1)
  .rintro i af b7 hi ⟨rN,a2,rfl,gP,bR,k4⟩;have cm:i<ls.length:=by omega
   obtain⟨t,fH,eR⟩:=c1.at (GT cm);have c0:bs.getD i .non= .ref t:=by simp[List.getD,fH]
   rw[c0];have dL:=qad cm;generalize ls[i]=l at*;nofun;refine⟨bB,t,l,⟨cM,ls.take i⟩,rN,rfl,gP,bR _ _ eR,by simp;omega,λbW tm jt rn N'=>?_⟩;refine⟨tm,_,rfl,by rw[dL];exact jt,λb o e=>rn.keep _ _ (bR _ _ e) (λz=>by rw[k4 b z] at e;cases e),λx bp=>?_⟩;rcases N' x bp with z|z
   .exact k4 x z
   .exact ei bR z
  rintro af b7 ⟨rN,a2,rfl,gP,bR,k4⟩;rw[eJ,qaD] at gP;nofun;exact q bB rN b7 gP k4 bR
inductive EN(vs:List V)(H:Hp)(Q:VK)(cP:XK):Prop
 |mk (p:Addr) (jm:JM) (ad:List Addr) (cQ:vs=[.ref p]) (cE:We T H p jm ad) (cJ:WC jm.called) (dq:jm.rows.length<=60) (d2:∀(h:Addr)(fp:List Addr)(ae:Hp),dg T ae h ⟨jm.called,jm.rows⟩ fp->(∀x∈fp,H x=none)->Zd H ae->Q (.ref h) ae):EN vs H Q cP
theorem Oa:OkM P w mg base 4 T.bg (EN T):=by
 have pA:=T.h;have pB:=T.o;refine T.bg.F.okX JR (λvs H Q E h=>?_) (λcz A outer s H vs Q E ap h=>?_)
 .obtain⟨p,jm,ad,rfl,_⟩:=h
  rfl
 .have hu:=ap.hu;obtain⟨p,jm,ad,rfl,bw,bH,hz,q⟩:=h;obtain⟨bx,a,b,c,d,bs,rfl,ak,a',bL,cu,dJ,da⟩:=bw;refine⟨_,(bZ (cW (c6 T.aO (EM T) ap cw (bq (eB (K:=K) rfl (pv 0) rfl) (bq (eB (K:=K) rfl (pv 0) rfl) bA))))),?_⟩
  walk_at "a"
  nofun;exact⟨c,d,jm.called,bs,jm.rows,rfl,cu,dJ,da,bH,by omega,q⟩
inductive EO(vs:List V)(H:Hp)(Q:VK)(E:XK):Prop
 |mk (p c:Addr) (ag:HM) (fp:List Addr) (cc:List Int) (cQ:vs=[.ref p,.ref c]) (cE:dg T H p ag fp) (cJ:SqL K H c (cc.map V.int)) (dq:cc.length<=1000) (d2:Ug ag.names.length cc) (em:Q .non H):EO vs H Q E
theorem Ob:OkN P w base 5 T.bh (EO T):=by
 have fq:=T.a;have fr:=T.e;refine T.bh.F.okX BB (λvs H Q E h=>?_) (λcz A outer s H vs Q E ap h=>?_)
 .obtain⟨p,c,ag,fp,cc,rfl,_⟩:=h
  rfl
 .have hu:=ap.hu;obtain⟨p,c,ag,fp,cc,rfl,b4,bv,hz,bG,q⟩:=h;have cd:0<cc.length:=qbT.mpr bG.1;refine⟨_,(bI (dQ (dk (fL (K:=K) rfl hu) (dt (eW K) (by rfl) T.f qao (bq (pv 1) bA)) b8 (ds _)) (bZ y5) dX)
     (bI (eo PassesOwn.leaving rfl (ez (K:=K) rfl (pv 1)) (cI (i:=2) BB.nd rfl (Or.inl rfl)) (bZ (eF (fk (pv 0) T.a T.aa (q9 T) ap cw (bq (pv 2) bA)))))
     (bZ (dQ (dk (nq (K:=K) rfl hu) (H9 rfl rfl (by rfl) T.f (by rfl) T.aA (bq (pv 1) bA)) (dt (eW K) (by rfl) T.f qao (bq (pv 1) bA)) (ds _)) (bZ y5) dX)))),?_⟩
  walk_at "a"
  have kX:¬((cc.map V.int).length:Int)=0:=by rw[GE];omega
  nofun;refine Ya (ey bv) (λi af ae=>ae=H/\∃a2,af=[some (.ref p),some (.ref c),a2]) ⟨rfl,_,rfl⟩ (λi af ae h=>h.1▸Zd.refl H) ?_ ?_
  .rintro i af ae hi ⟨rfl,a2,rfl⟩;have cm:i<cc.length:=by rw[GE] at hi;exact hi
   have c4:(cc.map V.int).getD i .non=V.int cc[i]:=by simp[List.getD,cm]
   rw[c4];have t3:=bG.2.2 cc[i] (GM cm);generalize cc[i]=g at*;nofun;refine⟨p,g,ag,fp,rfl,b4,λz=>absurd t3 z,λ_ _=>?_⟩;nofun;exact⟨rfl,_,rfl⟩
  .rintro af ae ⟨rfl,a2,rfl⟩;nofun;refine⟨.ref c,rfl,c,cc,rfl,bv,by omega,λn bH=>?_⟩;have hX:=bH bG.2.1;have e0:((n:Nat):Int)=((cc.map V.int).length:Int):=by rw[GE,hX]
   nofun;exact q
inductive EQ(T:Tp K mg)(vs:List V)(H:Hp)(Q:VK)(E:XK):Prop
 |mk (r c:Addr) (rs ms:List Int) (cQ:vs=[.ref r,.ref c]) (cE:SqL K H r (rs.map V.int)) (cJ:SqL K H c (ms.map V.int)) (dq:ms≠[]) (d2:ms.Nodup) (em:ms.length<=1000) (e2:(∀m∈ms,0<=m/\m<(rs.length:Int))) (fx:(∀x∈rs,1<=x/\x<=1000)) (h2:∀(d:Addr)(ae:Hp),H d=none->Zd H ae->ae d=some (.dK (turnsK (turnV rs ms) ms))->Q (.ref d) ae):EQ T vs H Q E
theorem Oc:OkN P w base 2 T.bi (EQ T):=by
 refine T.bi.F.okX oY (λvs H Q E h=>?_) (λcz A outer s H vs Q E ap h=>?_)
 .obtain⟨r,c,rs,ms,rfl,_⟩:=h
  rfl
 .have hu:=ap.hu;obtain⟨r,c,rs,ms,rfl,ru,bv,bH,eI,hz,pe,ki,q⟩:=h;have et:∀m∈ms,atI (rs.map V.int) m=some (.int (rs.getD m.toNat 0))/\1<=rs.getD m.toNat 0/\rs.getD m.toNat 0<=1000:=λm bz=>by
   obtain⟨cd,ak⟩:=pe m bz;obtain⟨k,rfl⟩:=qaL cd;have br:k<rs.length:=by omega
   rw[FM];have e:rs.getD k 0=rs[k]:=by simp[List.getD,br]
   rw[e];exact⟨gJ (by simp[br]),ki _ (GM br)⟩
  refine⟨_,(bI (cy (i:=2) oY.nd rfl (Or.inl rfl) b8)
     (bI (eo PassesOwn.leaving rfl (ez (K:=K) rfl (pv 1)) (cI (i:=3) oY.nd rfl (Or.inl rfl)) (bZ (cy (i:=2) oY.nd rfl (Or.inl rfl) (c6 T.au (wZ T) ap cw (bq (pv 2) (bq (ci (ixk K) (pv 0) (pv 3) (λ_ _=>rfl)) bA))))))
     (bI (cy (i:=4) oY.nd rfl (Or.inl rfl) na)
     (bI (eo PassesOwn.leaving rfl (ez (K:=K) rfl (pv 1)) (cI (i:=3) oY.nd rfl (Or.inl rfl)) (bZ (hM (cK gK (ci (ixk K) (pv 0) (pv 3) (λ_ _=>rfl)) (pv 2)) (hL (pv 4) (pv 3) (ml hu)))))
     (bZ (cW (pv 4))))))),?_⟩
  walk_at "a"
  nofun;refine Ya (ey bv) (λi af ae=>ae=H/\∃(a4 a3:Option V),af=[some (.ref r),some (.ref c),some (.int (gcdM rs (ms.take i):Nat)),a3,a4]) ⟨rfl,_,_,rfl⟩ (λi af ae h=>h.1▸Zd.refl H) ?_ ?_
  .rintro i af ae hi ⟨rfl,a4,a3,rfl⟩;have cm:i<ms.length:=by rw[GE] at hi;exact hi
   have c4:(ms.map V.int).getD i .non=V.int ms[i]:=by simp[List.getD,cm]
   rw[c4];obtain⟨ak,a',bL⟩:=et ms[i] (GM cm);have eh:gcdM rs (ms.take (i+1))=Nat.gcd (gcdM rs (ms.take i)) (rs.getD ms[i].toNat 0).toNat:=by rw[qad cm,ta]
   rw[eh];generalize gcdM rs (ms.take i)=g at*;generalize ms[i]=m at*;obtain⟨v,bS⟩:∃v:Nat,rs.getD m.toNat 0=(v:Int):=⟨(rs.getD m.toNat 0).toNat,by omega⟩;rw[bS] at ak|-;rw[FM];nofun;exact⟨rfl,_,_,rfl⟩
  .rintro af ae ⟨rfl,a4,a3,rfl⟩;rw[GE,qaD];have dS:=ZgM (rs:=rs) bH λm bz=>(by have:=(et m bz).2.1;omega);have g1:(gcdM rs ms:Int)<=1000:=by
    obtain⟨m,bz,h⟩:=ZmA (rs:=rs) bH λm bz=>(by have:=(et m bz).2.1;omega);have:=(et m bz).2.2;omega
   have TF:turnV rs ms=λm=>rs.getD m.toNat 0 / (gcdM rs ms:Int):=rfl;nofun;intro d hd;have bu:Zd ae (upd ae d (.dK [])):=cO hd;have gT:(upd ae d (.dK [])) d=some (.dK (turnsK (turnV rs ms) [])):=Ze;generalize upd ae d (.dK [])=a_ at*;nofun;refine Ya (ey bv) (λi af bt=>Zd ae bt/\bt d=some (.dK (turnsK (turnV rs ms) (ms.take i)))/\∃(a3:Option V),af=[some (.ref r),some (.ref c),some (.int (gcdM rs ms:Nat)),a3,some (.ref d)]) ⟨bu,gT,_,rfl⟩ (λi af bt h=>h.1) ?_ ?_
   .rintro i af bt hi ⟨bM,gI,a3,rfl⟩;have cm:i<ms.length:=by rw[GE] at hi;exact hi
    have c4:(ms.map V.int).getD i .non=V.int ms[i]:=by simp[List.getD,cm]
    rw[c4];obtain⟨ak,a',bL⟩:=et ms[i] (GM cm);have h3:ms[i]∉ms.take i:=λz=>by
     obtain⟨j,bw,nI⟩:=qan z;rw[qco] at nI;have TH:j<i:=by rw[qaC] at bw;omega
     exact absurd ((qbM eI).mp nI) (by omega)
    have dL:turnsK (turnV rs ms) (ms.take (i+1))=d_ (turnsK (turnV rs ms) (ms.take i)) (Sum.inl ms[i]) (V.int (rs.getD ms[i].toNat 0 / (gcdM rs ms:Int))):=by
     rw[qad cm];exact(Kl (f:=turnV rs ms) h3).symm
    rw[dL];have pb:(turnsK (turnV rs ms) (ms.take i)).length<sizeLine:=by
     unfold turnsK;rw[GE,qaC];exact dm (by omega)
    generalize turnsK (turnV rs ms) (ms.take i)=kv at*;generalize ms[i]=m at*;generalize rs.getD m.toNat 0=v at*;have fa:=bM.seq ru;generalize gcdM rs ms=g at*;have hV:0<(g:Int)/\(g:Int).natAbs.log2<9000:=⟨by omega,B3 (by omega) (by omega)⟩;nofun;exact⟨bM.new hd,Ze,_,rfl⟩
   .rintro af bt ⟨bM,gI,a3,rfl⟩;rw[GE,qaD] at gI;nofun;exact q d bt hd bM gI
inductive ER(vs:List V)(H:Hp)(Q:VK)(E:XK):Prop
 |mk (p c:Addr) (ag:HM) (fp:List Addr) (ms:List Int) (cQ:vs=[.ref p,.ref c]) (cE:dg T H p ag fp) (cJ:H c=some (.lst (ms.map V.int))) (dq:WC ag.names) (d2:ag.belts.length<=60) (em:ms.Nodup) (e2:ms.length<=30) (fx:(∀m∈ms,0<=m/\m<(ag.names.length:Int))) (h2:∀(he:Addr)(eC:List Addr)(ae:Hp),dg T ae he ⟨ms.map λm=>ag.names.getD m.toNat "",dW ag.belts ms⟩ eC->(∀x∈eC,H x=none)->Zd H ae->Q (.ref he) ae):ER vs H Q E
theorem ES{cM:List Str}{ms:List Int}(h:WC cM)(bH:ms.Nodup)(hz:ms.length<=30)(bz:∀m∈ms,0<=m/\m<(cM.length:Int)):WC (ms.map λm=>cM.getD m.toNat ""):=by
 have at_:∀m∈ms,∃h:m.toNat<cM.length,cM.getD m.toNat "" =cM[m.toNat]:=λm h=>by
  obtain⟨cd,ak⟩:=bz m h;have:m.toNat<cM.length:=by omega
  exact⟨this,by simp[List.getD,this]⟩
 refine⟨?_,λx bp=>?_,by rw[GE];exact hz⟩
 .rw[qaT,qb0];refine(qaT.mp bH).imp_of_mem λ{a b} bD ai ne e=>?_;obtain⟨ak,bE⟩:=at_ a bD;obtain⟨a',bP⟩:=at_ b ai;rw[bE,bP] at e;have:=(qbM h.1).mp e;have:=bz a bD;have:=bz b ai;omega
 .obtain⟨m,g7,rfl⟩:=qae.mp bp;obtain⟨ak,bE⟩:=at_ m g7;rw[bE];exact h.2.1 _ (GM ak)
theorem Od:OkN P w base 4 T.bj (ER T):=by
 have fq:=T.a;have fr:=T.e;refine T.bj.F.okX sY (λvs H Q E h=>?_) (λcz A outer s H vs Q E ap h=>?_)
 .obtain⟨p,c,ag,fp,ms,rfl,_⟩:=h
  rfl
 .have hu:=ap.hu;obtain⟨p,c,ag,fp,ms,rfl,b4,bv,h3,k9,eI,n',kl,q⟩:=h;refine⟨_,(bI (cy (i:=2) sY.nd rfl (Or.inr rfl) (il (pv 0) T.a T.al (ts T) ap cw))
     (bI (cy (i:=3) sY.nd rfl (Or.inl rfl) (gX bA))
     (bI (eo PassesOwn.leaving rfl (ez (K:=K) rfl (il (pv 0) T.a T.O (nV T) ap cw)) (cI (i:=4) sY.nd rfl (Or.inl rfl)) (bZ (dQ (PW.pt (pM (dk (vq (K:=K) rfl) (ci (ixk K) (pv 4) b8 (λ_ _=>rfl)) (pv 1) (by with_unfolding_all rfl)) (pK (dk (vq (K:=K) rfl) (ci (ixk K) (pv 4) b8 (λ_ _=>rfl)) (pv 1) (by with_unfolding_all rfl))))) (bZ (eF (fv (K:=K) rfl qai qaq qar g0 (pv 3) (bq (cK (hh K) (hR (bq (fv (K:=K) rfl qai qbV qbW vM (pv 1) (bq (ci (ixk K) (pv 4) b8 (λ_ _=>rfl)) bA)) (bq (fv (K:=K) rfl qai qbV qbW vM (pv 1) (bq (ci (ixk K) (pv 4) b8 (λ_ _=>rfl)) bA)) bA))) (r9 (sv (K:=K) rfl) (pv 4) (p6 b8) uN)) bA)))) dX)))
     (bZ (cW (c6 T.aO (EM T) ap cw (bq (jD rfl (e5 (x:="member") (zs:=["names"]) (ix:=[2]) (cn v3) ["hall","members","names","rows","row"] rfl rfl (by decide+kernel)) (ez (K:=K) rfl (pv 1)) (λcg C s H fp=>⟨(cI (i:=0) (show(["member","names"]:List Str).Nodup by decide+kernel) rfl (Or.inl rfl)),fW,(ci (ixk K) (pv 1) (pv 0) (λ_ _=>rfl))⟩)) (bq (pv 3) bA)))))))),?_⟩
  walk_at "a"
  nofun;refine⟨p,ag,fp,rfl,b4,λhb a_ mQ bu t2=>?_⟩;have h5:=b4.same bu;nofun;refine⟨qat _,λr eu=>?_⟩;have bM:Zd a_ (upd a_ r (.lst [])):=cO eu;have l1:(upd a_ r (.lst [])) r=some (.lst []):=Ze;generalize upd a_ r (.lst [])=bt at*;have fg:=h5.same bM;nofun
  try refine UY fg ?_
  intro bl b7 bs eJ bR hbl3 hJ;have ya:=hJ.length;have Oe:=SqL.of (K:=K) hbl3;nofun;have gi:=bu.trans (bM.trans bR);have gh:=bR _ _ l1;have ET:c≠r:=λz=>by rw[z] at bv;rw[bu _ _ bv] at eu;cases eu
  have Of:hb≠r:=λz=>by rw[z] at t2;rw[t2] at eu;cases eu
  refine Ya (H0:=hid b7 r) (ey (SqL.of (K:=K) (show(hid b7 r) bl=some (.lst bs) by rw[YN (λz=>by rw[z,l1] at eJ;cases eJ)];exact hbl3))) (λi af ae=>Zd (hid b7 r) ae/\(∃a4,af=[some (.ref p),some (.ref c),some (.ref hb),some (.ref r),a4])/\∃fP,ae r=some (.lst fP)/\eP ae fP (dW (ag.belts.take i) ms)) ⟨kH,⟨_,rfl⟩,[],gh,.nil⟩ (λi af ae h=>h.1) ?_ ?_
  .rintro i af bW hi ⟨b2,⟨a4,rfl⟩,fP,eX,ej⟩;have cm:i<ag.belts.length:=by omega
   obtain⟨t,dL,bX⟩:=hJ.at (GT cm);have c4:bs.getD i .non= .ref t:=by simp[List.getD,dL]
   rw[c4];have g_:=b2 _ _ (zS gh _ _ bX);dsimp only[B5.v] at g_;have ha:bW c=some (.lst (ms.map V.int)):=b2 _ _ (by rw[YN ET];exact gi _ _ bv);have EU:=SqL.of (K:=K) ha;have mG:dW (ag.belts.take (i+1)) ms=dW (ag.belts.take i) ms++(if inT ms ag.belts[i]=true then[inB ms ag.belts[i]] else[]):=by
    unfold dW;rw[qad cm,qch,qaG]
    congr 1
    by_cases h:inT ms ag.belts[i]=true
    .rw[if_pos h];simp[h]
    .rw[if_neg h];simp[h]
   rw[mG];have e6:fP.length<=60:=by
    have ak:=ej.length;have a':(dW (ag.belts.take i) ms).length<=ag.belts.length:=by
     unfold dW;rw[GE];exact qaj (qaR _ _) (by rw[qaC];omega)
    omega
   generalize ag.belts[i]=bb at*;nofun
   by_cases bG:bb.giver∈ms
   case neg=>
    have e:inT ms bb=false:=by simp[inT,bG]
    rw[decide_eq_false bG,e];nofun;exact⟨b2,⟨_,rfl⟩,fP,eX,by simpa using ej⟩
   rw[decide_eq_true bG];nofun
   by_cases eZ:bb.taker∈ms
   case neg=>
    have e:inT ms bb=false:=by simp[inT,eZ]
    rw[decide_eq_false eZ,e];nofun;exact⟨b2,⟨_,rfl⟩,fP,eX,by simpa using ej⟩
   have e:inT ms bb=true:=by simp[inT,bG,eZ]
   rw[decide_eq_true eZ,e,if_pos rfl];nofun;obtain⟨g1,g2⟩:=iq bG;obtain⟨k1,k2⟩:=iq eZ;refine⟨c,ms,_,_,rfl,rfl,ha,g1,g2,?_⟩;nofun;refine⟨c,ms,_,_,rfl,rfl,ha,k1,k2,?_⟩;refine⟨by show 2<=sizeLine;decide,λu fM=>?_⟩;have f0:(inB ms bb).v=[V.int (idxL ms bb.giver:Nat),V.int (idxL ms bb.taker:Nat)]++ [V.int bb.give,V.int bb.take,V.int bb.start]:=rfl;generalize idxL ms bb.giver=ig at*;generalize idxL ms bb.taker=it at*;have i6:Zd bW (upd bW u (.tup [V.int ig,V.int it])):=cO fM;have fO:(upd bW u (.tup [V.int ig,V.int it])) u=some (.tup [V.int ig,V.int it]):=Ze;generalize upd bW u (.tup [V.int ig,V.int it])=b0 at*;have nZ:=i6 _ _ g_;nofun;refine Rd.slT (.of nZ) (by show ¬(HT.sIx 5 0 (some 2)=0/\HT.sIx 5 5 none=5);decide) (λw kd=>?_);have EV:Zd b0 (upd b0 w (.tup (hr [V.int bb.giver,V.int bb.taker,V.int bb.give,V.int bb.take,V.int bb.start] (some 2) none))):=cO kd;have kZ:(upd b0 w (.tup (hr [V.int bb.giver,V.int bb.taker,V.int bb.give,V.int bb.take,V.int bb.start] (some 2) none))) w=some (.tup [.int bb.give,.int bb.take,.int bb.start]):=Ze;generalize upd b0 w (.tup (hr [V.int bb.giver,V.int bb.taker,V.int bb.give,V.int bb.take,V.int bb.start] (some 2) none))=c9 at*;refine Rd.Zpf (.of (EV _ _ fO)) (.of kZ) (by simp) (by simp) (by show 5<=sizeLine;decide) (λmP lS=>?_);rw[<-f0];have Og:Zd c9 (upd c9 mP (.tup (inB ms bb).v)):=cO lS;have Oh:(upd c9 mP (.tup (inB ms bb).v)) mP=some (.tup (inB ms bb).v):=Ze;generalize upd c9 mP (.tup (inB ms bb).v)=di at*;have yb:=i6.trans (EV.trans Og);have nX:=yb _ _ eX;have nQ:fP.length<sizeLine:=dm (by omega);nofun;have gd:db [r] di (upd di r (.lst (fP++ [V.ref mP]))):=gN (by simp) nX (by intro _ z;cases z);exact⟨(b2.trans yb).new oM,⟨_,rfl⟩,_,Ze,((ej.keep λb xs e=>yb _ _ e).keep gd.tups).snoc (gd.tups _ _ Oh)⟩
  .rintro af bW ⟨b2,⟨a4,rfl⟩,fP,eX,ej⟩;rw[ya,qaD] at ej;have ha:bW c=some (.lst (ms.map V.int)):=b2 _ _ (by rw[YN ET];exact gi _ _ bv);have EU:=SqL.of (K:=K) ha;have t4:bW hb=some (.lst (ag.names.map V.str)):=b2 _ _ (by rw[YN Of];exact bR _ _ (bM _ _ t2));have Oi:=SqL.of (K:=K) t4;nofun;refine Z9 (ey EU) (dm (by rw[GE];omega)) (λ_=>true) (λi=> .str (ag.names.getD (ms.getD i 0).toNat "")) (λi ae cY hi bU k=>?_) (λi ae cY hi _ bU k=>?_) (λd b0 hd bU kY=>?_)
   .nofun;exact k ae (Zd.refl ae)
   .have cm:i<ms.length:=by rw[GE] at hi;exact hi
    have c4:(ms.map V.int).getD i .non=V.int ms[i]:=by simp[List.getD,cm]
    have rO:ms.getD i 0=ms[i]:=by simp[List.getD,cm]
    rw[c4];rw[rO] at k;obtain⟨hP,fJ⟩:=kl ms[i] (GM cm);generalize ms[i]=m at*;obtain⟨ll,rfl⟩:=qaL hP;have xk:ll<ag.names.length:=by omega
    rw[FM] at k;have et:atI (ag.names.map V.str) (ll:Int)=some (.str (ag.names.getD ll "")):=gJ (by simp[List.getD,xk]);have TJ:=bU.seq Oi;nofun;exact k ae (Zd.refl ae)
   .have j':((List.range (ms.map V.int).length).filter λ_=>true).map (λi=>V.str (ag.names.getD (ms.getD i 0).toNat ""))=(ms.map λm=>ag.names.getD m.toNat "").map V.str:=by
     rw[qaz.mpr λ_ _=>rfl,GE];refine qau (by simp) λi ak a'=>?_;have bL:i<ms.length:=by simpa using ak
     simp[List.getD,bL]
    rw[j'] at kY;have iA:=bU _ _ eX;have rh:=ej.keep λb xs e=>bU _ _ e;have x':Zd H b0:=λb o e=>bU _ _ (b2 _ _ (by
     rw[YN (λz=>by rw[z] at e;rw[bu _ _ e] at eu;cases eu)];exact gi _ _ e))
    nofun;refine⟨d,r,_,fP,dW ag.belts ms,rfl,kY,iA,rh,ES h3 eI n' kl,?_,λhe eC ae mB uw s'=>?_⟩
    .unfold dW;rw[GE];exact qaj (qaR _ _) (by omega)
    .exact q he eC ae mB (λx bp=>ei x' (uw x bp)) (x'.trans s')
inductive EW(vs:List V)(H:Hp)(Q:VK)(E:XK):Prop
 |mk (p d:Addr) (ag:HM) (fp:List Addr) (f:Int->Int) (ms:List Int) (cQ:vs=[.ref p,.ref d]) (cE:dg T H p ag fp) (cJ:WC ag.names) (dq:ag.belts.length<=60) (d2:H d=some (.dK (turnsK f ms))) (em:ms.Nodup) (e2:ms.length<=30) (fx:(∀m∈ms,0<=m/\m<(ag.names.length:Int))) (h2:(∀m∈ms,1<=f m)) (jN:(ms.map f).sum<=1000) (kg:∀(bF:List Nat)(d7:Nat->Nat),Fire.Z1 (jK (dW ag.belts ms) (cF (dW ag.belts ms)) (ms.map f)) (λ_=>0) bF d7->(∀w,¬dN (dW ag.belts ms) (cF (dW ag.belts ms)) (ms.map f) d7 w)->((bF.length:Int)<(ms.map f).sum->∀ae,Zd H ae->E (.ref T.B) none ae)/\(¬(bF.length:Int)<(ms.map f).sum->∀(r:Addr)(ae:Hp),H r=none->Zd H ae->ae r=some (.lst (bF.map λw=>V.int (ms.getD w 0)))->Q (.ref r) ae)):EW vs H Q E
theorem Oj:OkN P w base 9 T.bk (EW T):=by
 have pp:=T.i;have pq:=T.m;refine T.bk.F.okX sZ (λvs H Q E h=>?_) (λcz A outer s H vs Q E ap h=>?_)
 .obtain⟨p,d,ag,fp,f,ms,rfl,_⟩:=h
  rfl
 .have hu:=ap.hu;obtain⟨p,d,ag,fp,f,ms,rfl,b4,h3,k9,hd,eI,n',kl,lV,TK,q⟩:=h;refine⟨_,(bI (cy (i:=2) sZ.nd rfl (Or.inr rfl) (i' (z4 rfl) (by rfl) T.j qaF (bq (pv 1) bA)))
     (bI (cy (i:=3) sZ.nd rfl (Or.inl rfl) (c6 T.bj (Od T) ap cw (bq (pv 0) (bq (pv 2) bA))))
     (bI (cy (i:=4) sZ.nd rfl (Or.inl rfl) (fk (z2 T.aK (Ea T) ap T.P cw (bq (pv 3) (bq (I3 rfl (by rfl) T.j (pv 1)) bA))) T.i T.aI (DG T) ap cw (bq (c6 T.aF (CS T) ap cw (bq (pv 3) bA)) bA)))
     (bI (dQ (dk l9 (dt (eW K) (by rfl) T.f qao (bq (pv 4) bA)) (I5 rfl (by rfl) T.X (pv 1)) (ds _)) (bZ (jF T.J.g T.J.e qaE rfl (bq Wh bA))) dX)
     (bZ (cW (jD rfl (e5 (x:="work") (zs:=["members"]) (ix:=[2]) (cn v4) ["hall","turns","members","inner","row"] rfl rfl (by decide+kernel)) (ez (K:=K) rfl (pv 4)) (λcg C s H fp=>⟨(cI (i:=0) (show(["work","members"]:List Str).Nodup by decide+kernel) rfl (Or.inl rfl)),fW,(ci (ixk K) (pv 1) (pv 0) (λ_ _=>rfl))⟩)))))))),?_⟩
  walk_at "a"
  nofun;intro hP rP;rw[ZhN];have bu:Zd H (upd H hP (.lst (ms.map V.int))):=cO rP;have gT:(upd H hP (.lst (ms.map V.int))) hP=some (.lst (ms.map V.int)):=Ze;generalize upd H hP (.lst (ms.map V.int))=a_ at*;nofun;refine⟨p,hP,ag,fp,ms,rfl,b4.same bu,gT,h3,k9,eI,n',kl,λOl Om bt mr ea bM=>?_⟩;have f5:=bu.trans bM;have gI:=f5 _ _ hd;have cm:=ZiY (ls:=ag.belts) (ms:=ms);have kG:∀r∈ms.map f,1<=r:=λr ap=>by
   obtain⟨m,bz,rfl⟩:=qae.mp ap;exact lV m bz
  have On:((tot (ms.map f):Nat):Int)=(ms.map f).sum:=WZ λr ap=>(by have:=kG r ap;omega);nofun;refine⟨.ref d,rfl,d,_,rfl,.inl gI,λl fe=>?_⟩;rw[B4];have bR:Zd bt (upd bt l (.lst ((ms.map f).map V.int))):=cO fe;have ob:(upd bt l (.lst ((ms.map f).map V.int))) l=some (.lst ((ms.map f).map V.int)):=Ze;generalize upd bt l (.lst ((ms.map f).map V.int))=b7 at*;have EX:=mr.same bR;nofun;refine Za5 EX ob (by simp) (by simp;omega) (by dsimp only;omega) λco bW ha Ca b2=>?_;dsimp only at ha;have Oo:=EX.same b2;nofun;refine⟨Ol,_,Om,rfl,Oo,by dsimp only;omega,λst b0 eN cs rF=>?_⟩;dsimp only at rF;have t5:=bR.trans (b2.trans cs);have mR:=f5.trans t5;nofun;refine⟨co,st,dW ag.belts ms,ms.map f,cF (dW ag.belts ms),rfl,ha.same cs,SqL.of rF,by simp[cF],by rw[GE];exact Ze8,by omega,by simp;omega,kG,by omega,λr c9 bF d7 xv dY hr6' eM mS=>?_⟩;obtain⟨ce,cG⟩:=q bF d7 eM mS;have nT:=mR.trans dY;have ht:=(kS (io eM)).2.2;have Lj:bF.length<=1000:=by omega
  have lU:=nT _ _ hd;have iX:(bF.map λw:Nat=>V.int w)=(bF.map λw:Nat=>(w:Int)).map V.int:=by rw[qaP];rfl
  rw[iX] at hr6';have Op:=SqL.of (K:=K) hr6';have qj:=(bM.trans (t5.trans dY)) _ _ gT;have Oq:=SqL.of (K:=K) qj;nofun;refine⟨.ref d,rfl,d,_,ms.map f,rfl,.inl lU,B4 f ms,?_⟩;have iO:((bF.map λw:Nat=>(w:Int)).map V.int).length=bF.length:=by simp
  generalize (ms.map f).sum=rj at*
  by_cases cD:(bF.length:Int)<rj
  .have Ot:(((bF.map λw:Nat=>(w:Int)).map V.int).length:Int)<rj:=by rw[iO];exact cD
   nofun;exact ce cD _ nT
  .have Ot:¬(((bF.map λw:Nat=>(w:Int)).map V.int).length:Int)<rj:=by rw[iO];exact cD
   nofun;have ps:=ZbP (io eM);refine Z9 (ey Op) (dm (by rw[iO];omega)) (λ_=>true) (λi=> .int (ms.getD (bF.getD i 0) 0)) (λi ae cY hi bU k=>?_) (λi ae cY hi _ bU k=>?_) (λgQ di hd2' bU rA=>?_)
   .nofun;exact k ae (Zd.refl ae)
   .have cm:i<bF.length:=by rw[iO] at hi;exact hi
    have c4:((bF.map λw:Nat=>(w:Int)).map V.int).getD i .non=V.int (bF[i]:Nat):=by simp[List.getD,cm]
    have rO:bF.getD i 0=bF[i]:=by simp[List.getD,cm]
    rw[c4];rw[rO] at k;have hw:=ps bF[i] (GM cm);rw[GE] at hw;generalize bF[i]=w at*;have et:atI (ms.map V.int) (w:Int)=some (.int (ms.getD w 0)):=gJ (by simp[List.getD,hw]);have g7:=bU.seq Oq;nofun;exact k ae (Zd.refl ae)
   .have j':((List.range ((bF.map λw:Nat=>(w:Int)).map V.int).length).filter λ_=>true).map (λi=>V.int (ms.getD (bF.getD i 0) 0))=bF.map λw=>V.int (ms.getD w 0):=by
     rw[qaz.mpr λ_ _=>rfl,iO];refine qau (by simp) λi ak a'=>?_;have bL:i<bF.length:=by simpa using ak
     simp[List.getD,bL]
    rw[j'] at rA;exact cG cD gQ di (ei nT hd2') (nT.trans bU) rA
inductive EY(vs:List V)(H:Hp)(Q:VK)(E:XK):Prop
 |mk (p d e:Addr) (ag:HM) (fp:List Addr) (f:Int->Int) (ms:List Int) (kv:List (Key×V)) (pl:Int->Nat) (cQ:vs=[.ref p,.ref d,.ref e]) (cE:dg T H p ag fp) (cJ:ag.belts.length<=60) (dq:Rd H d (.dK (turnsK f ms))) (d2:H e=some (.dK kv)) (em:(∀b∈ag.belts,valV kv (Sum.inl b.giver)=some (V.int (pl b.giver))/\valV kv (Sum.inl b.taker)=some (V.int (pl b.taker)))) (e2:(∀b∈ag.belts,IntMulOk b.give (tvJ f ms b.giver)/\IntMulOk b.take (tvJ f ms b.taker))) (fx:∀(r:Addr)(ae:Hp)(bs:List V),H r=none->Zd H ae->ae r=some (.lst bs)->eP ae bs (eQ f ms pl ag.belts)->Q (.ref r) ae):EY vs H Q E
theorem Ou:OkN P w base 2 T.bl (EY T):=by
 have fq:=T.a;have fr:=T.e;refine T.bl.F.okX qR (λvs H Q E h=>?_) (λcz A outer s H vs Q E ap h=>?_)
 .obtain⟨p,d,e,ag,fp,f,ms,kv,pl,rfl,_⟩:=h
  rfl
 .have hu:=ap.hu;obtain⟨p,d,e,ag,fp,f,ms,kv,pl,rfl,b4,k9,hd,bK,eT,Ov,q⟩:=h;refine⟨_,(bI (cy (i:=3) qR.nd rfl (Or.inl rfl) (gX bA))
     (bI (eo PassesOwn.leaving rfl (ez (K:=K) rfl (il (pv 0) T.a T.O (nV T) ap cw)) (cI (i:=4) qR.nd rfl (Or.inl rfl)) (bZ (dQ (PW.pt (i_ (dk (oN hu) (ci (ixk K) (pv 4) b8 (λ_ _=>rfl)) (pv 1) (by with_unfolding_all rfl)) (jz (dk (oN hu) (ci (ixk K) (pv 4) b8 (λ_ _=>rfl)) (pv 1) (by with_unfolding_all rfl))))) (bI (cy (i:=5) qR.nd rfl (Or.inl rfl) (cK gL (ci (ixk K) (pv 4) b8 (λ_ _=>rfl)) (AI hu (pv 1) (ci (ixk K) (pv 4) b8 (λ_ _=>rfl)) b8 ⟨by rfl,by rfl,by rfl,by rfl⟩)))
     (bI (cy (i:=6) qR.nd rfl (Or.inl rfl) (cK gL (ci (ixk K) (pv 4) b8 (λ_ _=>rfl)) (AI hu (pv 1) (ci (ixk K) (pv 4) b8 (λ_ _=>rfl)) b8 ⟨by rfl,by rfl,by rfl,by rfl⟩)))
     (bZ (eF (fv (K:=K) rfl qai qaq qar g0 (pv 3) (bq (hR (bq (ci (nt hu) (pv 2) (ci (ixk K) (pv 4) b8 (λ_ _=>rfl)) (λ_ _=>rfl)) (bq (ci (nt hu) (pv 2) (ci (ixk K) (pv 4) b8 (λ_ _=>rfl)) (λ_ _=>rfl)) (bq (pv 5) (bq (pv 6) (bq (ci (ixk K) (pv 4) b8 (λ_ _=>rfl)) bA)))))) bA)))))) dX)))
     (bZ (cW (pv 3))))),?_⟩
  walk_at "a"
  nofun;refine⟨qat _,λr eu=>?_⟩;have bM:Zd H (upd H r (.lst [])):=cO eu;have l1:(upd H r (.lst [])) r=some (.lst []):=Ze;generalize upd H r (.lst [])=bt at*;have fg:=b4.same bM;nofun
  try refine UY fg ?_
  intro bl b7 bs eJ bR hbl3 hJ;have ya:=hJ.length;have Oe:=SqL.of (K:=K) hbl3;nofun;have gi:=bM.trans bR;have gh:=bR _ _ l1;have rp:e≠r:=λz=>by rw[z] at bK;rw[bK] at eu;cases eu
  have EZ:d≠r:=λz=>by
   rw[z] at hd;rcases hd with h|⟨o,h⟩<;>(rw[h] at eu;cases eu)
  refine Ya (H0:=hid b7 r) (ey (SqL.of (K:=K) (show(hid b7 r) bl=some (.lst bs) by rw[YN (λz=>by rw[z,l1] at eJ;cases eJ)];exact hbl3))) (λi af ae=>Zd (hid b7 r) ae/\(∃a4 a5 a6,af=[some (.ref p),some (.ref d),some (.ref e),some (.ref r),a4,a5,a6])/\∃fP,ae r=some (.lst fP)/\eP ae fP (eQ f ms pl (ag.belts.take i))) ⟨kH,⟨_,_,_,rfl⟩,[],gh,.nil⟩ (λi af ae h=>h.1) ?_ ?_
  .rintro i af bW hi ⟨b2,⟨a4,a5,a6,rfl⟩,fP,eX,ej⟩;have cm:i<ag.belts.length:=by omega
   obtain⟨t,dL,bX⟩:=hJ.at (GT cm);have c4:bs.getD i .non= .ref t:=by simp[List.getD,dL]
   rw[c4];have g_:=b2 _ _ (zS gh _ _ bX);dsimp only[B5.v] at g_;have lW:bW e=some (.dK kv):=b2 _ _ (by rw[YN rp];exact gi _ _ bK);have hI:L2.Rd bW d (.dK (turnsK f ms)):=hd.imp (λh=>b2 _ _ (by rw[YN EZ];exact gi _ _ h)) λ⟨o,h⟩=>⟨o,b2 _ _ (by rw[YN EZ];exact gi _ _ h)⟩;have mG:eQ f ms pl (ag.belts.take (i+1))=eQ f ms pl (ag.belts.take i)++(if inT ms ag.belts[i]=true then[] else[joB f ms pl ag.belts[i]]):=by
    unfold eQ;rw[qad cm,qch,qaG]
    congr 1
    by_cases h:inT ms ag.belts[i]=true
    .rw[if_pos h];simp[h]
    .rw[if_neg h];simp[h]
   rw[mG];have e6:fP.length<=60:=by
    have ak:=ej.length;have a':(eQ f ms pl (ag.belts.take i)).length<=ag.belts.length:=by
     unfold eQ;rw[GE];exact qaj (qaR _ _) (by rw[qaC];omega)
    omega
   have lX:=GM cm;obtain⟨fc,ie⟩:=eT _ lX;obtain⟨fJ,gl⟩:=Ov _ lX;generalize ag.belts[i]=bb at*;nofun;refine⟨d,_,rfl,.inl ⟨_,Sum.inl bb.giver,hI,rfl,rfl⟩,?_⟩;have Ow:inT ms bb=true\/inT ms bb=false:=by cases inT ms bb<;>simp
   rcases Ow with ea|ea
   .have bG:bb.giver∈ms/\bb.taker∈ms:=by simpa[inT] using ea
    rw[Zfm,decide_eq_true bG.1,Bool.not_true,ea];nofun;refine⟨d,_,rfl,.inl ⟨_,Sum.inl bb.taker,hI,rfl,rfl⟩,?_⟩;rw[Zfm,decide_eq_true bG.2,Bool.not_true];nofun;exact⟨b2,⟨_,_,_,rfl⟩,fP,eX,by simpa using ej⟩
   have gT:(valV (turnsK f ms) (Sum.inl bb.giver)).getD (.int 1)= .int (tvJ f ms bb.giver):=by rw[Zlv];unfold tvJ;split<;>rfl
   have l1:(valV (turnsK f ms) (Sum.inl bb.taker)).getD (.int 1)= .int (tvJ f ms bb.taker):=by rw[Zlv];unfold tvJ;split<;>rfl
   rw[ea,if_neg (by decide)]
   by_cases bG:bb.giver∈ms
   case' pos=>
    have bX:bb.taker∉ms:=λz=>by simp[inT,bG,z] at ea
    rw[Zfm,decide_eq_true bG,Bool.not_true];nofun;refine⟨d,_,rfl,.inl ⟨_,Sum.inl bb.taker,hI,rfl,rfl⟩,?_⟩;rw[Zfm,decide_eq_false bX,Bool.not_false];nofun
   case' neg=>
    rw[Zfm,decide_eq_false bG,Bool.not_false];nofun
   all_goals
    refine⟨.ref d,rfl,d,rfl,.inl ⟨_,hI⟩,?_⟩;nofun;refine⟨_,.inl ⟨_,Sum.inl bb.giver,hI,rfl,rfl⟩,?_⟩;rw[gT];nofun;refine⟨.ref d,rfl,d,rfl,.inl ⟨_,hI⟩,?_⟩;nofun;refine⟨_,.inl ⟨_,Sum.inl bb.taker,hI,rfl,rfl⟩,?_⟩;rw[l1];nofun;refine⟨by show 5<=sizeLine;decide,λu fO=>?_⟩;have cs:Zd bW (upd bW u (.tup (joB f ms pl bb).v)):=cO fO;have n6:(upd bW u (.tup (joB f ms pl bb).v)) u=some (.tup (joB f ms pl bb).v):=Ze
    change tNil _ (upd bW u (.tup (joB f ms pl bb).v)) _
    generalize upd bW u (.tup (joB f ms pl bb).v)=b0 at*;have iA:=cs _ _ eX;have nQ:fP.length<sizeLine:=dm (by omega);nofun;have gd:db [r] b0 (upd b0 r (.lst (fP++ [V.ref u]))):=gN (by simp) iA (by intro _ z;cases z);exact⟨(b2.trans cs).new oM,⟨_,_,_,rfl⟩,_,Ze,((ej.keep λb xs e=>cs _ _ e).keep gd.tups).snoc (gd.tups _ _ n6)⟩
  .rintro af bW ⟨b2,⟨a4,a5,a6,rfl⟩,fP,eX,ej⟩;rw[ya,qaD] at ej;nofun;refine q r bW fP eu (λb o ai=>b2 _ _ ?_) eX ej;rw[YN (λz=>by rw[z,eu] at ai;cases ai)];exact gi _ _ ai
inductive E1(T:Tp K mg)(vs:List V)(H:Hp)(Q:VK)(E:XK):Prop
 |mk (c d:Addr) (kept ms:List Int) (f:Int->Int) (mn:Int) (cQ:vs=[.ref c,.ref d]) (cE:SqL K H c (kept.map V.int)) (cJ:kept.Nodup) (dq:kept.length<=100) (d2:Rd H d (.dK (turnsK f ms))) (em:ms.length<=100) (e2:mn∈ms) (fx:(∀m∈ms,mn<=m)) (h2:mn∈kept) (jN:(∀m∈ms,m≠mn->m∉kept)) (kg:∀(e:Addr)(o:Obj)(ae:Hp)(kv:List (Key×V)),H e=none->Zd (upd H d (.frz o (.dK (turnsK f ms)))) ae->ae e=some (.dK kv)->(∀x,x∈kept\/x∈ms->valV kv (Sum.inl x)=some (V.int (placeN kept ms mn x)))->Q (.ref e) ae):E1 T vs H Q E
theorem Ox:OkN P w base 1 T.bm (E1 T):=by
 refine T.bm.F.okX qS (λvs H Q E h=>?_) (λcz A outer s H vs Q E ap h=>?_)
 .obtain⟨c,d,kept,ms,f,mn,rfl,_⟩:=h
  rfl
 .have hu:=ap.hu;obtain⟨c,d,kept,ms,f,mn,rfl,bv,eI,jx,hd,n',iB,l0,h4,TM,q⟩:=h;refine⟨_,(bI (cy (i:=2) qS.nd rfl (Or.inl rfl) na)
     (bI (eo PassesOwn.leaving rfl (mm (K:=K) rfl rfl T.k (bq (pv 0) bA)) (ik (K:=K) (n:=2) rfl rfl (eG (cI (i:=3) qS.nd rfl (Or.inl rfl)) (eG (cI (i:=4) qS.nd rfl (Or.inl rfl)) h9))) (bZ (hM (pv 3) (hL (pv 2) (pv 4) (ml hu)))))
     (bI (eo PassesOwn.leaving rfl (I9 (pv 1)) (cI (i:=5) qS.nd rfl (Or.inl rfl)) (bZ (hM (ci (nt hu) (pv 2) (dt (vL rfl) (by rfl) T.y qbq (bq (pv 1) bA)) (λ_ _=>rfl)) (hL (pv 2) (pv 5) (ml hu)))))
     (bZ (cW (pv 2)))))),?_⟩
  walk_at "a"
  nofun;intro e bK;have bu:Zd H (upd H e (.dK [])):=cO bK;have gT:(upd H e (.dK [])) e=some (.dK []):=Ze;have kk:d≠e:=λz=>by
   rw[z] at hd;rcases hd with h|⟨o,h⟩<;>(rw[h] at bK;cases bK)
  generalize upd H e (.dK [])=a_ at*;have kU:=bu.seq bv;nofun;refine Wp (mq bv) (λi af ae=>Zd H ae/\(∃a3 a4,af=[some (.ref c),some (.ref d),some (.ref e),a3,a4,none])/\∃kv,ae e=some (.dK kv)/\kv.length<=i/\∀x∈kept.take i,valV kv (Sum.inl x)=some (V.int (idxL kept x:Nat))) ⟨bu,⟨_,_,rfl⟩,[],gT,qat _,by simp⟩ (λi af ae h=>h.1) ?_ ?_
  .rintro i af bt v b7 hi ⟨bM,⟨a3,a4,rfl⟩,kv,lG,gw,i5⟩ ⟨t,bX,rfl,rfl⟩;have cm:i<kept.length:=by rw[GE] at hi;exact hi
   have c4:(kept.map V.int).getD i .non=V.int kept[i]:=by simp[List.getD,cm]
   rw[c4];have bR:Zd bt (upd bt t (.tup [.int i,V.int kept[i]])):=cO bX;have ob:(upd bt t (.tup [.int i,V.int kept[i]])) t=some (.tup [.int i,V.int kept[i]]):=Ze;generalize upd bt t (.tup [.int i,V.int kept[i]])=b7 at*;refine Rd.V3 (.of ob) rfl ?_;have w2:=bR _ _ lG;have yc:idxL kept kept[i]=i:=by
    have ak:=(iq (GM cm)).1;have a':=Vk (GM cm);rw[GT a'] at ak;exact(qbM eI).mp (qam ak)
   have Oy:kv.length<sizeLine:=dm (by omega);have eZ:kept.take (i+1)=kept.take i++ [kept[i]]:=qad cm;rw[eZ];generalize kept[i]=w at*;nofun;refine⟨(bM.trans bR).new bK,⟨_,_,rfl⟩,_,Ze,by have:=Vh kv (Sum.inl w:Key) (V.int i);omega,λx bp=>?_⟩;rw[kE]
   by_cases t6:x=w
   .rw[if_pos (by rw[t6]),t6,yc]
   .rw[if_neg (λz=>t6 (qbL z))];rcases qaI.mp bp with z|z
    .exact i5 x z
    .exact absurd (qac.mp z) t6
  .rintro af bt ⟨bM,⟨a3,a4,rfl⟩,kv,lG,gw,i5⟩;rw[GE,qaD] at i5;rw[GE] at gw;have gI:L2.Rd bt d (.dK (turnsK f ms)):=hd.imp (λh=>bM _ _ h) λ⟨o,h⟩=>⟨o,bM _ _ h⟩;nofun;refine⟨.ref d,rfl,d,_,rfl,gI,λo=>?_⟩;have jb:(upd bt d (.frz o (.dK (turnsK f ms)))) d=some (.frz o (.dK (turnsK f ms))):=Ze;have Oz:(upd bt d (.frz o (.dK (turnsK f ms)))) e=some (.dK kv):=by rw[b6 kk.symm];exact lG
   have OA:∀b cZ,(upd H d (.frz o (.dK (turnsK f ms)))) b=some cZ->(upd bt d (.frz o (.dK (turnsK f ms)))) b=some cZ:=λb cZ ai=>by
    by_cases z:b=d
    .rw[z,Ze] at ai|-;exact ai
    .rw[b6 z] at ai|-;exact bM _ _ ai
   generalize upd bt d (.frz o (.dK (turnsK f ms)))=b7 at*;have t7:(turnsK f ms).length=ms.length:=by unfold turnsK;rw[GE]
   have jI:(turnsK f ms).map (·.1)=ms.map Sum.inl:=by unfold turnsK;rw[qaP];rfl
   have rP:0<(turnsK f ms).length:=by rw[t7];exact List.length_pos_of_mem iB
   refine Wp (H0:=hid b7 e) (I_ (H:=hid b7 e) (by rw[YN kk];exact jb)) (λi af ae=>Zd (hid b7 e) ae/\(∃a5,af=[some (.ref c),some (.ref d),some (.ref e),a3,a4,a5])/\∃kv,ae e=some (.dK kv)/\kv.length<=100+i/\(∀x∈kept,x∉ms->valV kv (Sum.inl x)=some (V.int (idxL kept x:Nat)))/\valV kv (Sum.inl mn)=some (V.int (idxL kept mn:Nat))/\∀x∈ms.take i,valV kv (Sum.inl x)=some (V.int (idxL kept mn:Nat))) ⟨kH,⟨_,rfl⟩,kv,Oz,by omega,λx bp _=>i5 x bp,i5 mn h4,by simp⟩ (λi af ae h=>h.1) ?_ ?_
   .rintro i af bW v b0 hi ⟨b2,⟨a5,rfl⟩,t8,lW,EC,yd,ye,t9⟩ ⟨rfl,OB,E2,rfl⟩;have cm:i<ms.length:=by omega
    have e1:OB=(Sum.inl ms[i],V.int (f ms[i])):=by
     have:(turnsK f ms)[i]? =some (Sum.inl ms[i],V.int (f ms[i])):=by unfold turnsK;simp[cm]
     rw[this] at E2;exact(qam E2).symm
    rw[e1];have hI:L2.Rd b0 d (.dK (turnsK f ms)):= .inr ⟨o,b2 _ _ (by rw[YN kk];exact jb)⟩;have eZ:ms.take (i+1)=ms.take i++ [ms[i]]:=qad cm;have yf:=GM cm;rw[eZ];generalize ms[i]=m at*;have Oy:t8.length<sizeLine:=dm (by omega);show UL 5 (V.int m) _ _ _;nofun;refine Rd.ZnY hI jI rP λM lw D0=>?_;obtain rfl:M=mn:=Int.le_antisymm (D0 mn iB) (l0 M lw);refine Rd.Zml lW ye ?_;nofun;refine⟨b2.new oM,⟨_,rfl⟩,_,Ze,by have:=Vh t8 (Sum.inl m:Key) (V.int (idxL kept M:Nat));omega,λx bp fI=>?_,?_,λx bp=>?_⟩
    .rw[kE,if_neg (λz=>fI (by rw[qbL z];exact yf))];exact yd x bp fI
    .rw[kE]
     split
     .rfl
     .exact ye
    .rw[kE]
     split
     .rfl
     .rename_i e0;rcases qaI.mp bp with z|z
      .exact t9 x z
      .exact absurd (by rw[qac.mp z]) e0
   .rintro af bW ⟨b2,⟨a5,rfl⟩,t8,lW,EC,yd,ye,t9⟩;rw[t7,qaD] at t9;nofun;refine q e o bW t8 bK (λb cZ ai=>b2 _ _ ?_) lW λx bp=>?_
    .have lc:b≠e:=λz=>by
      rw[z,b6 kk.symm,bK] at ai;cases ai
     rw[YN lc];exact OA b cZ ai
    .unfold placeN
     by_cases fI:x∈ms
     .rw[if_pos fI];exact t9 x fI
     .rw[if_neg fI];exact yd x (bp.resolve_right fI) fI
inductive yg(vs:List V)(H:Hp)(Q:VK)(E:XK):Prop
 |mk (p bx h g:Addr) (ag:HM) (fp:List Addr) (z:Int->Nat) (cc:List Int) (cQ:vs=[.ref p,.ref h,.ref g]) (cE:H p=some (.ins T.c bx [])) (cJ:dg T H h ag fp) (dq:H g=some (.lst (cc.map V.int))) (d2:Ug ag.names.length cc) (em:cc.length<=30) (e2:WC ag.names) (fx:ag.belts.length<=60) (h2:ZB ag.belts ag.names.length) (jN:Yx ag.belts) (kg:Vg ag.belts z) (q_:∀(rs:List Int),Rts ag.belts ag.names.length z rs->(400<rs.sum->∀ae,(∀b o,H b=some o->b≠p->ae b=some o)->E (.ref T.t) none ae)/\(rs.sum<=400->∀(ms:List Int),ms.Perm cc->ms.Pairwise (· <=·)->∀(bF:List Nat)(d7:Nat->Nat),Fire.Z1 (jK (dW ag.belts ms) (cF (dW ag.belts ms)) (ms.map (turnV rs ms))) (λ_=>0) bF d7->(∀w,¬dN (dW ag.belts ms) (cF (dW ag.belts ms)) (ms.map (turnV rs ms)) d7 w)->((bF.length:Int)<(ms.map (turnV rs ms)).sum->∀ae,(∀b o,H b=some o->b≠p->ae b=some o)->E (.ref T.B) none ae)/\(¬(bF.length:Int)<(ms.map (turnV rs ms)).sum->∀(ae:Hp)(ad:List Addr)(mn:Int),mn∈ms->(∀m∈ms,mn<=m)->We T ae p (tb ag rs ms mn bF) ad->(∀b o,H b=some o->b≠p->ae b=some o)->(∀x∈ad,x≠p->H x=none)->Q .non ae))):yg vs H Q E
theorem Zgc{T:Tp K mg}{H:Hp}{h g:Addr}{ag:HM}{fp:List Addr}{z:Int->Nat}{cc:List Int}{Q:Addr->Hp->Prop}{E:XK}(b4:dg T H h ag fp)(bG:H g=some (.lst (cc.map V.int)))(hok:Ug ag.names.length cc)(yh:cc.length<=30)(h3:WC ag.names)(k9:ag.belts.length<=60)(cf:ZB ag.belts ag.names.length)(hsz:Yx ag.belts)(k7:Vg ag.belts z)
  (q:∀(rs:List Int),Rts ag.belts ag.names.length z rs->(400<rs.sum->∀ae,Zd H ae->E (.ref T.t) none ae)/\(rs.sum<=400->
  ∀(ms:List Int),ms.Perm cc->ms.Pairwise (· <=·)->∀(bF:List Nat)(d7:Nat->Nat),Fire.Z1 (jK (dW ag.belts ms) (cF (dW ag.belts ms)) (ms.map (turnV rs ms))) (λ_=>0) bF d7->(∀w,¬dN (dW ag.belts ms) (cF (dW ag.belts ms)) (ms.map (turnV rs ms)) d7 w)->
   ((bF.length:Int)<(ms.map (turnV rs ms)).sum->∀ae,Zd H ae->E (.ref T.B) none ae)/\(¬(bF.length:Int)<(ms.map (turnV rs ms)).sum->∀(p:Addr)(ae:Hp)(ad:List Addr)(mn:Int),mn∈ms->(∀m∈ms,mn<=m)->We T ae p (tb ag rs ms mn bF) ad->Zd H ae->(∀x∈ad,H x=none)->Q p ae))):
  ∀x bx,H x=none->H bx=none->bx≠x->yg T (.ref x::([.ref h,.ref g]++ [])) (upd (upd H bx (.own x)) x (.ins T.c bx [])) (λv bt=>v= .non/\Q x bt) E:=by
 intro x bx bp jM ne;have bU:Zd H (upd (upd H bx (.own x)) x (.ins T.c bx [])):=λb o e=>by rw[b6 (c3 e bp),b6 (c3 e jM)];exact e
 have sn:∀y,(upd (upd H bx (.own x)) x (.ins T.c bx [])) y=none->H y=none:=λy e=>by
  cases b':H y with
  |none=>rfl
  |some o=>rw[bU _ _ b'] at e;cases e
 refine⟨x,bx,h,g,ag,fp,z,cc,rfl,Ze,b4.same bU,bU _ _ bG,hok,yh,h3,k9,cf,hsz,k7,λrs c8=>⟨λc ae k=>(q rs c8).1 c ae λb o e=>k b o (bU b o e) (c3 e bp),λc ms bB hs bF d7 ak a'=>⟨λd ae k=>((q rs c8).2 c ms bB hs bF d7 ak a').1 d ae λb o e=>k b o (bU b o e) (c3 e bp),λd ae ad mn fJ gl bw k bN=>⟨rfl,((q rs c8).2 c ms bB hs bF d7 ak a').2 d x ae ad mn fJ gl bw (λb o e=>k b o (bU b o e) (c3 e bp)) λy bO=>?_⟩⟩⟩⟩
 by_cases e:y=x
 .rw[e];exact bp
 .exact sn y (bN y bO e)
theorem OC:OkI P w mg base 10 T.bn (yg T):=by
 have fq:=T.a;have fr:=T.e;have pA:=T.h;have pB:=T.o;refine T.bn.F.okX s0 (λvs H Q E h=>?_) (λcz A outer s H vs Q E ap h=>?_)
 .obtain⟨p,bx,h,g,ag,fp,z,cc,rfl,_⟩:=h
  rfl
 .have hu:=ap.hu;obtain⟨p,bx,bD,g,ag,fp,z,cc,rfl,bB,b4,bG,hok,yh,h3,k9,cf,hsz,k7,q⟩:=h;have mJ:p∉fp:=by
   intro z;obtain⟨Nz,a,b,bs,rfl,ak,a',bL,cu,gD,da⟩:=b4;simp only[qah,qa2,or_false] at z;rcases z with rfl|rfl|rfl|rfl
   .rw[ak] at bB
    injection bB with e
    injection e with bE bP dj
    cases dj
   .rw[a'] at bB;cases bB
   .rw[bL] at bB;cases bB
   .rw[cu] at bB;cases bB
  have N9:=h3.2.2;refine⟨_,(bI (eF (c6 T.bh (Ob T) ap cw (bq (pv 1) (bq (pv 2) bA))))
     (bI (cy (i:=3) s0.nd rfl (Or.inr rfl) (c6 T.bi (Oc T) ap cw (bq (c6 T.aG (DD T) ap cw (bq (pv 1) bA)) (bq (dt (I' (K:=K) rfl) (by rfl) T.Q PyProof.Rows.boot_sorted (bq (pv 2) bA)) bA))))
     (bI (cy (i:=4) s0.nd rfl (Or.inr rfl) (il (pv 1) T.a T.al (ts T) ap cw))
     (bI (cy (i:=5) s0.nd rfl (Or.inr rfl) (dt (vL rfl) (by rfl) T.y qbq (bq (pv 3) bA)))
     (bI (jG (K:=K) rfl (pv 0) (c6 T.bk (Oj T) ap cw (bq (pv 1) (bq (pv 3) bA))) rfl)
     (bI (jG (K:=K) rfl (pv 0) (jD rfl (e5 (x:="work") (zs:=["turns","first"]) (ix:=[3,5]) (cn sQ) ["self","hall","group","turns","names","first"] rfl rfl (by decide+kernel)) (hc rfl T.g (bq (dt (eW K) (by rfl) T.f qao (bq (pv 4) bA)) bA)) (λcg C s H fp=>⟨(cI (i:=0) (show(["work","turns","first"]:List Str).Nodup by decide+kernel) rfl (Or.inl rfl)),(nc (PW.pt (i_ (dk (fL (K:=K) rfl hu) (pv 0) (pv 2) (ds _)) (jz (dk (oN hu) (pv 0) (pv 1) (by with_unfolding_all rfl)))))),(pv 0)⟩)) rfl)
     (bI (jG (K:=K) rfl (pv 0) (fv (K:=K) rfl qai qbV qbW vM (eB (K:=K) rfl (pv 0) rfl) (bq (pv 5) bA)) rfl)
     (bI (jG (K:=K) rfl (pv 0) (jD rfl (e5 (x:="work") (zs:=["names"]) (ix:=[4]) (cn sQ) ["self","hall","group","turns","names","first"] rfl rfl (by decide+kernel)) (ez (K:=K) rfl (eB (K:=K) rfl (pv 0) rfl)) (λcg C s H fp=>⟨(cI (i:=0) (show(["work","names"]:List Str).Nodup by decide+kernel) rfl (Or.inl rfl)),fW,(ci (ixk K) (pv 1) (pv 0) (λ_ _=>rfl))⟩)) rfl)
     (bZ (jG (K:=K) rfl (pv 0) (c6 T.bl (Ou T) ap cw (bq (pv 1) (bq (pv 3) (bq (c6 T.bm (Ox T) ap cw (bq (eB (K:=K) rfl (pv 0) rfl) (bq (pv 3) bA))) bA)))) rfl)))))))))),?_⟩
  walk_at "a"
  nofun;refine⟨bD,g,ag,fp,cc,rfl,b4,.of bG,by omega,hok,?_⟩;nofun;refine⟨bD,ag,fp,z,rfl,b4,by omega,by omega,cf,hsz,k7,λr a_ rs bu fy eu c8=>?_⟩;refine⟨λip=>?_,λmM=>(q rs c8).1 mM a_ λb o e _=>bu b o e⟩;nofun;refine Rd.ZoA (.of (bu _ _ bG)) (by omega) (λpc ms hso g6 E3=>?_);have cG:=(q rs c8).2 ip ms g6 E3;have bM:Zd a_ (upd a_ pc (.lst (ms.map V.int))):=cO hso;have E4:(upd a_ pc (.lst (ms.map V.int))) pc=some (.lst (ms.map V.int)):=Ze;generalize upd a_ pc (.lst (ms.map V.int))=bt at*;have eI:ms.Nodup:=g6.nodup_iff.mpr hok.2.1;have kl:∀m∈ms,0<=m/\m<(ag.names.length:Int):=λm bz=>hok.2.2 m (g6.mem_iff.mp bz);have yi:ms≠[]:=λe=>by rw[e] at g6;exact hok.1 g6.symm.eq_nil
  have n':ms.length<=30:=by rw[g6.length_eq];exact yh
  have e6:=c8.len;have ki:=c8.pos;obtain⟨On,od⟩:=ZfC ki eI yi (by rw[e6];exact kl);have E5:∀x∈rs,1<=x/\x<=400:=λx bp=>⟨ki x bp,by have:=Zmz (λr ap=>(by have:=ki r ap;omega)) x bp;omega⟩;nofun;refine⟨r,pc,rs,ms,rfl,.of (bM _ _ eu),.of E4,yi,eI,by omega,by rw[e6];exact kl,λx bp=>(by have:=E5 x bp;omega),λd b7 k6 bR n0=>?_⟩;have gi:=bu.trans (bM.trans bR);have gP:=b4.same gi;have rz:=gi _ _ bB;have OD:∀m∈ms,turnV rs ms m<=400:=λm bz=>by
   obtain⟨ak,a',_⟩:=od m bz;obtain⟨bL,cu⟩:=kl m bz;have br:m.toNat<rs.length:=by omega
   have e:rs.getD m.toNat 0=rs[m.toNat]:=by simp[List.getD,br]
   have:=E5 _ (GM br);omega
  have lV:∀m∈ms,1<=turnV rs ms m:=λm bz=>(od m bz).1;have kn:∀mn bF,tb ag rs ms mn bF=⟨bF.map λw=>ms.getD w 0,dU ag.names.length ms mn,idxL (cl ag.names.length ms mn) mn,(dU ag.names.length ms mn).map λw=>ag.names.getD w "",eQ (turnV rs ms) ms (placeN (cl ag.names.length ms mn) ms mn) ag.belts⟩:=λ_ _=>rfl;generalize turnV rs ms=f at*;have t_:H d=none:=ei (bu.trans bM) k6;clear k6 bu bM bR hso E4 fy eu a_ bt od;nofun;refine⟨bD,ag,fp,rfl,gP,λhb bW mQ b2 t4=>?_⟩;have gj:=gi.trans b2;have jt:=b4.same gj;have hI:=b2 _ _ n0;have mH:=gj _ _ bB;have t7:(turnsK f ms).length=ms.length:=by unfold turnsK;rw[GE]
  have jI:(turnsK f ms).map (·.1)=ms.map Sum.inl:=by unfold turnsK;rw[qaP];rfl
  have rP:0<(turnsK f ms).length:=by rw[t7];exact qbT.mpr yi
  nofun;refine Rd.ZnY (.inl hI) jI rP λmn iB l0=>?_;nofun;refine⟨bD,d,ag,fp,f,ms,rfl,jt,h3,k9,hI,eI,n',kl,lV,by omega,λbF d7 eM mS=>?_⟩;obtain⟨e7,li⟩:=cG bF d7 eM mS;refine⟨λcD ae cs=>e7 cD ae λb o e _=>cs _ _ (gj _ _ e),λcD a b0 ry cs E6=>?_⟩;replace li:=li cD;clear cG e7 cD eM mS;have mR:=gj.trans cs;have n7:=mR _ _ bB;have js:p≠a:=c3 mH ry;have lR:p≠d:=c3 bB t_;have E7:p≠hb:=c3 rz mQ;have kY:=cs _ _ hI;have E8:=cs _ _ t4;have OE:H a=none:=ei gj ry;show ZgS 0 _ _ _;nofun;have f1:db [p] b0 (upd b0 p (.ins T.c bx [("inner_row",.ref a)])):=gN (by simp) n7 (by intro _ z;cases z);have km:db [p] H (upd b0 p (.ins T.c bx [("inner_row",.ref a)])):=mR.frame.trans f1;have mI:(upd b0 p (.ins T.c bx [("inner_row",.ref a)])) p=some (.ins T.c bx [("inner_row",.ref a)]):=Ze;have yj:=f1.keep _ _ E6 (by simpa using js.symm);have lU:=f1.keep _ _ kY (by simpa using lR.symm);have pE:=f1.keep _ _ E8 (by simpa using E7.symm);generalize upd b0 p (.ins T.c bx [("inner_row",.ref a)])=c9 at*;clear f1 n7 E6 kY E8 rz mH hI t4 gP jt cs b2 mR gj gi;have OF:=SqL.of (K:=K) pE;have hX:((ag.names.map V.str).length:Int)=(ag.names.length:Int):=by simp
  nofun;refine Z9 Wa (dm (by simp;omega)) (λi=>iZ ms mn i) (λi=> .int (i:Int)) (λi ae cY hi bU k=>?_) (λi ae cY hi _ bU k=>?_) (λb di kf fb tt=>?_)
  .have hK:=bU _ _ lU;rw[qaV];unfold iZ at k;nofun
   by_cases hw:(i:Int)=mn
   .rw[decide_eq_true hw,Bool.true_or] at k;nofun;exact k ae (Zd.refl ae)
   .rw[decide_eq_false hw,Bool.false_or] at k;nofun;rw[Zfm];exact k ae (Zd.refl ae)
  .rw[qaV];nofun;exact k ae (Zd.refl ae)
  have xX:((List.range (((ag.names.map V.str).length:Nat):Int).toNat).filter λi=>iZ ms mn i).map (λi:Nat=>V.int (i:Int))=(cl ag.names.length ms mn).map V.int:=by
   unfold cl dU;rw[FM,GE,qaP]
   rfl
  rw[xX] at tt;have rB:=fb _ _ mI;have iy:p≠b:=c3 mI kf;have OG:H b=none:=by
   cases e:H b with
   |none=>rfl
   |some o=>
    by_cases z:b=p
    .exact absurd z iy.symm
    .rw[km.keep _ _ e (by simpa using z)] at kf;cases kf
  have gD:a≠b:=c3 yj kf;nofun;have lZ:db [p] di (upd di p (.ins T.c bx [("inner_row",.ref a),("kept",.ref b)])):=gN (by simp) rB (by intro _ z;cases z);have mK:db [p] c9 (upd di p (.ins T.c bx [("inner_row",.ref a),("kept",.ref b)])):=fb.frame.trans lZ;have px:(upd di p (.ins T.c bx [("inner_row",.ref a),("kept",.ref b)])) p=some (.ins T.c bx [("inner_row",.ref a),("kept",.ref b)]):=Ze;have yk:=lZ.keep _ _ tt (by simpa using iy.symm);generalize upd di p (.ins T.c bx [("inner_row",.ref a),("kept",.ref b)])=eU at*;have rC:=km.trans mK;have h4:mn∈cl ag.names.length ms mn:=YO.mpr ⟨kl mn iB,.inl rfl⟩;obtain⟨hp,p0⟩:=iq h4;clear lZ rB tt fb;nofun;refine⟨b,_,mn,_,rfl,rfl,yk,hp,p0,?_⟩;generalize vx:idxL (cl ag.names.length ms mn) mn=jn at*;nofun;have mL:db [p] eU (upd eU p (.ins T.c bx [("inner_row",.ref a),("kept",.ref b),("joined",.int jn)])):=gN (by simp) px (by intro _ z;cases z);have ua:db [p] c9 (upd eU p (.ins T.c bx [("inner_row",.ref a),("kept",.ref b),("joined",.int jn)])):=mK.trans mL;have pz:(upd eU p (.ins T.c bx [("inner_row",.ref a),("kept",.ref b),("joined",.int jn)])) p=some (.ins T.c bx [("inner_row",.ref a),("kept",.ref b),("joined",.int jn)]):=Ze;have yl:=mL.keep _ _ yk (by simpa using iy.symm);generalize upd eU p (.ins T.c bx [("inner_row",.ref a),("kept",.ref b),("joined",.int jn)])=f' at*;have E9:=SqL.of (K:=K) yl;have E_:=SqL.of (K:=K) (ua.keep _ _ pE (by simpa using E7.symm));have gw:=ZaM (n:=ag.names.length) (ms:=ms) (mn:=mn);have OH:((cl ag.names.length ms mn).map V.int).length=(dU ag.names.length ms mn).length:=by unfold cl;simp
  clear mL mK px yk;nofun;refine Z9 (ey E9) (dm (by omega)) (λ_=>true) (λi=> .str (ag.names.getD ((dU ag.names.length ms mn).getD i 0) "")) (λi ae cY hi bU k=>?_) (λi ae cY hi _ bU k=>?_) (λc fj kX gv ym=>?_)
  .nofun;exact k ae (Zd.refl ae)
  .have cm:i<(dU ag.names.length ms mn).length:=by omega
   have c4:((cl ag.names.length ms mn).map V.int).getD i .non=V.int ((dU ag.names.length ms mn)[i]:Nat):=by unfold cl;simp[List.getD,cm]
   have rO:(dU ag.names.length ms mn).getD i 0=(dU ag.names.length ms mn)[i]:=by simp[List.getD,cm]
   rw[c4];rw[rO] at k;have hw:=qaw.mp (qaB.mp (GM cm)).1;generalize (dU ag.names.length ms mn)[i]=w at*;have et:atI (ag.names.map V.str) (w:Int)=some (.str (ag.names.getD w "")):=gJ (by simp[List.getD,hw]);have g7:=bU.seq E_;nofun;exact k ae (Zd.refl ae)
  have j':((List.range ((cl ag.names.length ms mn).map V.int).length).filter λ_=>true).map (λi=>V.str (ag.names.getD ((dU ag.names.length ms mn).getD i 0) ""))=((dU ag.names.length ms mn).map λw=>ag.names.getD w "").map V.str:=by
   rw[qaz.mpr λ_ _=>rfl,OH];refine qau (by simp) λi ak a'=>?_;have bL:i<(dU ag.names.length ms mn).length:=by simpa using ak
   simp[List.getD,bL]
  rw[j'] at ym;have tW:=gv _ _ pz;have pw:p≠c:=c3 pz kX;have E':=km.trans ua;have OI:H c=none:=by
   cases e:H c with
   |none=>rfl
   |some o=>
    rw[E'.keep _ _ e (by simpa using pw.symm)] at kX;cases kX
  nofun;have yn:db [p] fj (upd fj p (.ins T.c bx [("inner_row",.ref a),("kept",.ref b),("joined",.int jn),("called",.ref c)])):=gN (by simp) tW (by intro _ z;cases z);have yo:db [p] f' (upd fj p (.ins T.c bx [("inner_row",.ref a),("kept",.ref b),("joined",.int jn),("called",.ref c)])):=gv.frame.trans yn;have OJ:(upd fj p (.ins T.c bx [("inner_row",.ref a),("kept",.ref b),("joined",.int jn),("called",.ref c)])) p=some (.ins T.c bx [("inner_row",.ref a),("kept",.ref b),("joined",.int jn),("called",.ref c)]):=Ze;have Fa:=yn.keep _ _ ym (by simpa using pw.symm);generalize upd fj p (.ins T.c bx [("inner_row",.ref a),("kept",.ref b),("joined",.int jn),("called",.ref c)])=iL at*;have yp:=yo.keep _ _ yl (by simpa using iy.symm);have yq:=ua.trans yo;have yr:=yq.keep _ _ lU (by simpa using lR.symm);have Fb:=yq.keep _ _ yj (by simpa using js.symm);have Fc:=km.trans yq;have DQ:=b4.off Fc (λx bp z=>mJ (by rw[<-qac.mp z];exact bp));clear yn tW ym gv yo ua E' pz yl E9 E_ km rC mI yj lU pE OF j';nofun;have Fd:∀x:Int,0<=x->x<(ag.names.length:Int)->x∈cl ag.names.length ms mn\/x∈ms:=λx cd ak=>by
   by_cases z:x∈ms
   .exact .inr z
   .exact .inl (YO.mpr ⟨⟨cd,ak⟩,.inr z⟩)
  have TN:(cl ag.names.length ms mn).length=(dU ag.names.length ms mn).length:=by unfold cl;simp
  refine⟨b,d,cl ag.names.length ms mn,ms,f,mn,rfl,.of yp,o7,by omega,.inl yr,by omega,iB,l0,h4,λm bz ne br=>((YO.mp br).2.elim ne λz=>z bz),λe o H12 kv rq i3 OK i5=>?_⟩;have fd:db [d] iL (upd iL d (.frz o (.dK (turnsK f ms)))):=gN (by simp) yr (by intro _ z;cases z);have Db:(upd iL d (.frz o (.dK (turnsK f ms)))) d=some (.frz o (.dK (turnsK f ms))):=Ze;have rQ:db [d] iL H12:=fd.trans i3.frame;have OL:=i3 _ _ Db;have kk:∀{x:Addr}{cZ:HO},iL x=some cZ->(∀kv,cZ≠ .dK kv)->x≠d:=λ{x cZ} ak a' z=>by
   rw[z,yr] at ak;exact a' _ (qam ak).symm
  have Fe:=rQ.keep _ _ OJ (by simpa using lR);have OM:=rQ.keep _ _ Fb (by simpa using kk Fb (by intro _ z;cases z));have ON:=rQ.keep _ _ yp (by simpa using kk yp (by intro _ z;cases z));have OO:=rQ.keep _ _ Fa (by simpa using kk Fa (by intro _ z;cases z));have yt:db [p,d] H H12:=(Fc.mono (by simp)).trans (rQ.mono (by simp));have OP:=b4.off yt (λx bp z=>by
   simp only[qah,qa2,or_false] at z;rcases z with z|z
   .exact mJ (z▸bp)
   .exact b4.dom d (z▸bp) t_)
  have CH:∀bb∈ag.belts,IntMulOk bb.give (tvJ f ms bb.giver)/\IntMulOk bb.take (tvJ f ms bb.taker):=λbb _=>by
   have cH:∀x,IntMulOk bb.give (tvJ f ms x)/\IntMulOk bb.take (tvJ f ms x):=λx=>by
    have ak:0<=tvJ f ms x/\tvJ f ms x<=400:=by
     unfold tvJ
     split
     .rename_i bp;have:=lV x bp;have:=OD x bp;omega
     .omega
    have a':Builtin.Int.intBits (tvJ f ms x)<=64:=intBits_le_64 (by omega) (by omega);exact⟨.of_right a',.of_right a'⟩
   exact⟨(cH _).1,(cH _).2⟩
  nofun;refine⟨bD,d,e,ag,fp,f,ms,kv,placeN (cl ag.names.length ms mn) ms mn,rfl,OP,k9,.inr ⟨o,OL⟩,OK,λbb uV=>?_,CH,λr pF bs fy i4 OQ OR=>?_⟩
  .obtain⟨ak,a',bL,cu⟩:=cf bb uV;exact⟨i5 _ (Fd _ ak a'),i5 _ (Fd _ bL cu)⟩
  have OS:=i4 _ _ Fe;have OT:p≠r:=c3 Fe fy;nofun;have yu:db [p] pF (upd pF p (.ins T.c bx [("inner_row",.ref a),("kept",.ref b),("joined",.int jn),("called",.ref c),("rows",.ref r)])):=gN (by simp) OS (by intro _ z;cases z);have ub:db [p] H12 (upd pF p (.ins T.c bx [("inner_row",.ref a),("kept",.ref b),("joined",.int jn),("called",.ref c),("rows",.ref r)])):=i4.frame.trans yu;have OU:(upd pF p (.ins T.c bx [("inner_row",.ref a),("kept",.ref b),("joined",.int jn),("called",.ref c),("rows",.ref r)])) p=some (.ins T.c bx [("inner_row",.ref a),("kept",.ref b),("joined",.int jn),("called",.ref c),("rows",.ref r)]):=Ze;have OV:=yu.keep _ _ OQ (by simpa using OT.symm);have OW:=OR.keep yu.tups;have OX:db [p,d] H (upd pF p (.ins T.c bx [("inner_row",.ref a),("kept",.ref b),("joined",.int jn),("called",.ref c),("rows",.ref r)])):=yt.trans (ub.mono (by simp));refine li _ [p,a,b,c,r] mn iB l0 ⟨bx,a,b,c,r,bs,rfl,?_,by rw[kn];dsimp only;rw[qaP];exact ub.keep _ _ OM (by simpa using js.symm),ub.keep _ _ ON (by simpa using iy.symm),ub.keep _ _ OO (by simpa using pw.symm),OV,by rw[kn];exact OW⟩ (λx cZ bp uc=>OX.keep _ _ bp (by
   simp only[qah,qa2,or_false];rintro(z|z)
   .exact uc z
   .rw[z,t_] at bp;cases bp)) (λx bp uc=>?_)
  .rw[kn,vx];exact OU
  simp only[qah,qa2,or_false] at bp;rcases bp with rfl|rfl|rfl|rfl|rfl
  .exact absurd rfl uc
  .exact OE
  .exact OG
  .exact OI
  .cases ev:H x with
   |none=>rfl
   |some cZ=>
    rw[yt.keep _ _ ev (by
     simp only[qah,qa2,or_false];rintro(z|z)
     .exact uc z
     .rw[z,t_] at ev;cases ev)] at fy
    cases fy
theorem Ff{f:Nat->Int}:∀{is:List Nat}{ys:List V},Paired (λi v=>v=V.int (f i)) is ys->ys=(is.map f).map V.int
 |_,_,.nil=>rfl
 |_,_,.cons a r=>by rw[a,Ff r];rfl
theorem ZiD{rs:List Int}(h:∀r∈rs,r<=6):rs.sum<=6*(rs.length:Int):=by
 induction rs with
 |nil=>simp
 |cons x rs bQ=>
  have ak:=h x (by simp);have a':=bQ λr ap=>h r (by simp[ap]);simp only[qcu,List.length_cons];omega
theorem Zj9{ls:List B5}{n:Nat}(h:∀l∈ls,Bel n l):Yx ls:=λi hi=>by
 rw[dr hi];have b:=h _ (GM hi);obtain⟨cE,cJ⟩:=b.sz;obtain⟨f1,f2⟩:=b.few;generalize ls[i]=l at*;exact⟨l.give.toNat,l.take.toNat,by omega,by omega,by omega,by omega,by omega,by omega⟩
noncomputable def k_ (rs:List Int) (w:Int):Nat:=if 0<(rs.getD w.toNat 0).toNat then(rs.getD w.toNat 0).toNat else 1
theorem Zch{ls:List B5}{rs:List Int}(cf:ZB ls rs.length)(hsz:Yx ls)(fu:∀r∈rs,1<=r)(ai:W7 ls rs):Vg ls (k_ rs):=by
 have hz:∀w:Int,0<=w->w<(rs.length:Int)->((k_ rs w:Nat):Int)=rs.getD w.toNat 0:=λw a b=>by
  have ak:1<=rs.getD w.toNat 0:=by rw[dr (by omega)];exact fu _ (GM _)
  unfold k_;rw[if_pos (by omega)];omega
 refine⟨λw=>by unfold k_;split<;>omega,λi hi=>?_⟩;obtain⟨cX,b1,dS,fN,fz,dH,eh,dL⟩:=hsz i hi;obtain⟨eE,fC,g9,hF⟩:=cf.at hi;have ak:=ai (ls.getD i dB) (by rw[dr hi];exact GM hi);rw[<-hz _ eE fC,<-hz _ g9 hF,eh,dL] at ak;rw[eh,dL,FM,FM];have:((cX*k_ rs (ls.getD i dB).giver:Nat):Int)=((b1*k_ rs (ls.getD i dB).taker:Nat):Int):=by rw[qcg,qcg];exact ak
 exact Int.ofNat.inj this
theorem ZdT{ms:List Int}(bH:ms.Nodup){i:Nat}(hi:i<ms.length):idxL ms ms[i]=i:=by
 have ak:=(iq (GM hi)).1;have a':=Vk (GM hi);rw[GT a'] at ak;exact(qbM bH).mp (qam ak)
theorem Fg{ms:List Int}{f:Int->Int}{x:Int}(bp:x∈ms):(ms.map f).getD (idxL ms x) 0=f x:=by
 obtain⟨a1,a2⟩:=qaa.mp (iq bp).1;rw[dr (by rw[GE];exact a1),qaY,a2]
theorem ZkM{ls:List B5}{ms:List Int}{b:B5}(h:b∈dW ls ms):∃c2∈ls,c2.giver∈ms/\c2.taker∈ms/\b=inB ms c2:=by
 obtain⟨c2,cd,rfl⟩:=qae.mp h;obtain⟨ak,a'⟩:=qaB.mp cd;unfold inT at a';simp only[qaU,decide_eq_true_eq] at a';exact⟨c2,ak,a'.1,a'.2,rfl⟩
noncomputable def dP (n:Nat) (rs ms:List Int) (mn:Int):List Int:=(dU n ms mn).map λw:Nat=>if(w:Int)=mn then(gcdM rs ms:Int) else rs.getD w 0
section
variable {n:Nat}{ls:List B5}{L cc ms:List Int}{mn:Int}
structure Gr(n:Nat)(L cc ms:List Int)(mn:Int):Prop where
 ok:Ug n cc
 perm:ms.Perm cc
 mem:mn∈ms
 len:L.length=n
 pos:∀r∈L,1<=r
theorem Gr.rg(h:Gr n L cc ms mn):∀x∈ms,0<=x/\x<(n:Int):=λx bp=>h.ok.2.2 x (h.perm.mem_iff.mp bp)
theorem Gr.turn(h:Gr n L cc ms mn):(ms.map (turnV L ms)).sum<=L.sum/\∀x∈ms,1<=turnV L ms x/\turnV L ms x<=L.getD x.toNat 0/\turnV L ms x*(gcdM L ms:Int)=L.getD x.toNat 0:=
 ZfC h.pos (h.perm.nodup_iff.mpr h.ok.2.1) (λe=>by have:=h.mem;rw[e] at this;cases this) (by rw[h.len];exact h.rg)
theorem Gr.at(h:Gr n L cc ms mn){x:Int}(cd:0<=x)(ak:x<(n:Int)):1<=L.getD x.toNat 0:=by
 rw[dr (by rw[h.len];omega)];exact h.pos _ (GM _)
theorem Gr.kept(h:Gr n L cc ms mn){x:Int}(cd:0<=x)(ak:x<(n:Int)):(if x∈ms then mn else x)∈cl n ms mn:=by
 split
 .exact YO.mpr ⟨h.rg mn h.mem,.inl rfl⟩
 .exact YO.mpr ⟨⟨cd,ak⟩,.inr (by assumption)⟩
theorem i7(oe:List Int)(x:Int):placeN oe ms mn x=idxL oe (if x∈ms then mn else x):=by unfold placeN;split<;>rfl
theorem rR:(cl n ms mn).length=(dU n ms mn).length:=by unfold cl;simp
theorem Gr.place_lt(h:Gr n L cc ms mn){x:Int}(cd:0<=x)(ak:x<(n:Int)):placeN (cl n ms mn) ms mn x<(dU n ms mn).length:=by
 rw[i7,<-rR];exact Vk (h.kept cd ak)
theorem Gr.due_at(h:Gr n L cc ms mn){x:Int}(cd:0<=x)(ak:x<(n:Int)):(dP n L ms mn).getD (placeN (cl n ms mn) ms mn x) 0=if x∈ms then(gcdM L ms:Int) else L.getD x.toNat 0:=by
 have cD:=h.place_lt cd ak;have br:=(iq (h.kept cd ak)).1;rw[<-i7] at br;generalize placeN (cl n ms mn) ms mn x=k8 at*;unfold cl at br;rw[qak,GT cD,qcf] at br;replace br:=qam br;unfold dP;rw[dr (by rw[GE];exact cD),qaY]
 by_cases bp:x∈ms
 .rw[if_pos bp] at br|-;rw[if_pos br]
 .rw[if_neg bp] at br|-;rw[if_neg (λz=>bp (by rw[<-br,z];exact h.mem))]
  congr 1
  omega
theorem Gr.tv_due(h:Gr n L cc ms mn){x:Int}(cd:0<=x)(ak:x<(n:Int)):tvJ (turnV L ms) ms x*(dP n L ms mn).getD (placeN (cl n ms mn) ms mn x) 0=L.getD x.toNat 0:=by
 rw[h.due_at cd ak];unfold tvJ
 split
 .exact(h.turn.2 x (by assumption)).2.2
 .rw[Int.one_mul]
theorem Gr.tv_pos(h:Gr n L cc ms mn){x:Int}(cd:0<=x)(ak:x<(n:Int)):1<=tvJ (turnV L ms) ms x/\tvJ (turnV L ms) ms x<=L.getD x.toNat 0:=by
 have a':=h.at cd ak;unfold tvJ
 split
 .have:=h.turn.2 x (by assumption);omega
 .omega
theorem og:(dP n L ms mn).length=(dU n ms mn).length:=by unfold dP;simp
theorem Gr.due_pos(h:Gr n L cc ms mn):∀r∈dP n L ms mn,1<=r:=λr ap=>by
 unfold dP at ap;obtain⟨w,hw,rfl⟩:=qae.mp ap;have kd:=qaw.mp (qaB.mp hw).1
 split
 .obtain⟨jg,_,jl⟩:=h.turn.2 mn h.mem;have a':=h.at (h.rg mn h.mem).1 (h.rg mn h.mem).2
  by_cases z:(gcdM L ms:Int)<=0
  .have:(gcdM L ms:Int)=0:=by omega
   rw[this] at jl;omega
  .omega
 .have:=h.at (x:=(w:Int)) (by omega) (by omega)
  rwa [FM] at this
theorem ZbO{b:B5}(h:b∈eQ (turnV L ms) ms (placeN (cl n ms mn) ms mn) ls):∃c2∈ls,¬(c2.giver∈ms/\c2.taker∈ms)/\b=joB (turnV L ms) ms (placeN (cl n ms mn) ms mn) c2:=by
 obtain⟨c2,cd,rfl⟩:=qae.mp h;obtain⟨ak,a'⟩:=qaB.mp cd;refine⟨c2,ak,λz=>?_,rfl⟩;unfold inT at a';simp[z.1,z.2] at a'
theorem OY:(eQ (turnV L ms) ms (placeN (cl n ms mn) ms mn) ls).length<=ls.length:=by
 unfold eQ;rw[GE];exact qaR _ _
theorem Gr.join_bt(h:Gr n L cc ms mn)(cf:ZB ls n):ZB (eQ (turnV L ms) ms (placeN (cl n ms mn) ms mn) ls) (dU n ms mn).length:=λb ai=>by
 obtain⟨c2,cd,_,rfl⟩:=ZbO ai;obtain⟨eE,fC,g9,hF⟩:=cf c2 cd;have fc:=h.place_lt eE fC;have ie:=h.place_lt g9 hF;unfold joB;dsimp only;omega
theorem Gr.join_sized(h:Gr n L cc ms mn)(cf:ZB ls n)(da:∀r∈L,r<=6)(hs:∀b∈ls,1<=b.give/\1<=b.take/\b.give<=10 ^ 24/\b.take<=10 ^ 24):Yx (eQ (turnV L ms) ms (placeN (cl n ms mn) ms mn) ls):=λi hi=>by
 rw[dr hi];obtain⟨c2,cd,_,ev⟩:=ZbO (GM hi);rw[ev];obtain⟨eE,fC,g9,hF⟩:=cf c2 cd;obtain⟨bu,bM,bR,b2⟩:=hs c2 cd;have e_:∀(x:Int)(y:Int),0<=x->x<(n:Int)->1<=y->y<=10 ^ 24->∃k:Nat,y*tvJ (turnV L ms) ms x=(k:Int)/\0<k/\k<2 ^ 110:=λx y cd ak ke hY=>by
  obtain⟨jg,dE⟩:=h.tv_pos cd ak;have jl:L.getD x.toNat 0<=6:=by rw[dr (by rw[h.len];omega)];exact da _ (GM _)
  have fJ:=Int.mul_le_mul hY (show tvJ (turnV L ms) ms x<=6 by omega) (by omega) (by decide);have gl:=Int.mul_le_mul ke jg (by decide) (by omega);exact⟨(y*tvJ (turnV L ms) ms x).toNat,by omega,by omega,by omega⟩
 obtain⟨k1,bE,fc,ce⟩:=e_ _ _ eE fC bu bR;obtain⟨k2,bP,ie,cG⟩:=e_ _ _ g9 hF bM b2;exact⟨k1,k2,fc,ie,ce,cG,bE,bP⟩
theorem Gr.join_bal(h:Gr n L cc ms mn)(cf:ZB ls n)(ai:W7 ls L):W7 (eQ (turnV L ms) ms (placeN (cl n ms mn) ms mn) ls) (dP n L ms mn):=λb bz=>by
 obtain⟨c2,cd,_,rfl⟩:=ZbO bz;obtain⟨eE,fC,g9,hF⟩:=cf c2 cd;show c2.give*tvJ (turnV L ms) ms c2.giver*(dP n L ms mn).getD ((placeN (cl n ms mn) ms mn c2.giver:Nat):Int).toNat 0=c2.take*tvJ (turnV L ms) ms c2.taker*(dP n L ms mn).getD ((placeN (cl n ms mn) ms mn c2.taker:Nat):Int).toNat 0;rw[FM,FM,qbF,qbF,h.tv_due eE fC,h.tv_due g9 hF];exact ai c2 cd
theorem Gr.join_least(h:Gr n L cc ms mn)(cf:ZB ls n)(ag:Ua ls n L):Ua (eQ (turnV L ms) ms (placeN (cl n ms mn) ms mn) ls) (dU n ms mn).length (dP n L ms mn):=by
 intro f ys dR f1 bN bv;have Fh:f.toNat<(cl n ms mn).length:=by rw[rR];omega
 have OZ:=GM Fh;obtain⟨⟨e8,f8⟩,kr⟩:=YO.mp OZ;have O0:placeN (cl n ms mn) ms mn (cl n ms mn)[f.toNat]=f.toNat:=by
  rw[i7];have e:(if(cl n ms mn)[f.toNat]∈ms then mn else(cl n ms mn)[f.toNat])=(cl n ms mn)[f.toNat]:=by
   split
   .rcases kr with z|z
    .exact z.symm
    .exact absurd (by assumption) z
   .rfl
  rw[e];exact ZdT o7 Fh
 have ea:∀x:Int,x∈((List.range n).map λv:Nat=>(v:Int)).filter (λv=>decide (((placeN (cl n ms mn) ms mn v:Nat):Int)∈ys))↔(0<=x/\x<(n:Int))/\((placeN (cl n ms mn) ms mn x:Nat):Int)∈ys:=λx=>by
  rw[qaB,qae,decide_eq_true_eq]
  constructor
  .rintro⟨⟨v,bS,rfl⟩,k⟩;have:=qaw.mp bS;exact⟨⟨by omega,by omega⟩,k⟩
  .rintro⟨⟨a,b⟩,k⟩;exact⟨⟨x.toNat,qaw.mpr (by omega),by omega⟩,k⟩
 have ak:=ag _ _ e8 f8 ((ea _).mpr ⟨⟨e8,f8⟩,by rw[O0,qas dR];exact bN⟩) λj bw=>by
  rw[dr bw];obtain⟨eE,fC,g9,hF⟩:=cf _ (GM bw);rw[ea,ea]
  suffices k:((placeN (cl n ms mn) ms mn ls[j].giver:Nat):Int)∈ys↔((placeN (cl n ms mn) ms mn ls[j].taker:Nat):Int)∈ys from⟨λz=>⟨⟨g9,hF⟩,k.mp z.2⟩,λz=>⟨⟨eE,fC⟩,k.mpr z.2⟩⟩
  by_cases z:ls[j].giver∈ms/\ls[j].taker∈ms
  .rw[i7,i7,if_pos z.1,if_pos z.2]
  .have bz:joB (turnV L ms) ms (placeN (cl n ms mn) ms mn) ls[j]∈eQ (turnV L ms) ms (placeN (cl n ms mn) ms mn) ls:=qae.mpr ⟨_,qaB.mpr ⟨GM bw,by rw[show inT ms ls[j]=false from Bool.eq_false_iff.mpr λy=>z (by simpa[inT] using y)];rfl⟩,rfl⟩;obtain⟨i,hi,f0⟩:=qan bz;have:=bv i hi;rw[dr hi,f0] at this;exact this
 have a':mz (dP n L ms mn) ys ∣ mz L (((List.range n).map λv:Nat=>(v:Int)).filter (λv=>decide (((placeN (cl n ms mn) ms mn v:Nat):Int)∈ys))):=by
  have e_:∀(xs:List Int)(d c:Nat),d ∣ c->(∀w∈xs,d ∣ (L.getD w.toNat 0).toNat)->d ∣ xs.foldl (λc w=>Nat.gcd c (L.getD w.toNat 0).toNat) c:=by
   intro xs
   induction xs with
   |nil=>exact λd c h _=>h
   |cons y ys bQ=>exact λd c h k=>bQ d _ (Nat.dvd_gcd h (k y (by simp))) λw hw=>k w (by simp[hw])
  refine e_ _ _ 0 (Nat.dvd_zero _) λw hw=>?_;obtain⟨⟨a,b⟩,k⟩:=(ea w).mp hw;have bL:=(tc (dP n L ms mn) ys 0).2 _ k;rw[FM] at bL;refine qbQ bL ?_;have cu:=h.tv_due a b;obtain⟨jg,_⟩:=h.tv_pos a b;obtain⟨u,tG⟩:∃u:Nat,tvJ (turnV L ms) ms w=(u:Int):=⟨_,(qas (by omega)).symm⟩;have dJ:1<=(dP n L ms mn).getD (placeN (cl n ms mn) ms mn w) 0:=by
   rw[dr (by rw[og];exact h.place_lt a b)];exact h.due_pos _ (GM _)
  rw[<-cu,tG,Int.toNat_mul (by omega) (by omega)];exact Nat.dvd_mul_left _ _
 rw[ak] at a';exact Nat.dvd_one.mp a'
theorem Gr.join_is(h:Gr n L cc ms mn)(cf:ZB ls n)(ai:W7 ls L)(ag:Ua ls n L)(hsz:Yx (eQ (turnV L ms) ms (placeN (cl n ms mn) ms mn) ls)){z:Int->Nat}{rs:List Int}(c8:Rts (eQ (turnV L ms) ms (placeN (cl n ms mn) ms mn) ls) (dU n ms mn).length z rs):rs=dP n L ms mn:=
 Zez (h.join_bt cf) hsz og c8.len h.due_pos c8.pos (h.join_bal cf ai) c8.bal (h.join_least cf ag) c8.least
theorem Gr.names(h:Gr n L cc ms mn){cM:List Str}(bH:WC cM)(e:cM.length=n):WC ((dU n ms mn).map λw=>cM.getD w ""):=by
 have ak:=ES bH (o7 (n:=n) (ms:=ms) (mn:=mn)) (by rw[rR];have:=ZaM (n:=n) (ms:=ms) (mn:=mn);have:=bH.2.2;omega) λx bp=>by rw[e];exact(YO.mp bp).1
 unfold cl at ak;rw[qaP] at ak;exact ak
theorem Gr.full(h:Gr n L cc ms mn)(bD:∀b∈ls,b.take*L.getD b.taker.toNat 0<=b.start/\0<=b.give/\0<=b.take){bF:List Nat}{d7:Nat->Nat}(eM:Fire.Z1 (jK (dW ls ms) (cF (dW ls ms)) (ms.map (turnV L ms))) (λ_=>0) bF d7)(mS:∀w,¬dN (dW ls ms) (cF (dW ls ms)) (ms.map (turnV L ms)) d7 w):(bF.length:Int)=(ms.map (turnV L ms)).sum:=by
 have df:(cF (dW ls ms)).length=(dW ls ms).length:=by simp[cF]
 obtain⟨ip,ht,_⟩:=kS (io eM);have i1:∀r∈ms.map (turnV L ms),1<=r:=λr ap=>by obtain⟨x,bp,rfl⟩:=qae.mp ap;exact(h.turn.2 x bp).1
 have jC:∀v,v<(ms.map (turnV L ms)).length->d7 v=dF (ms.map (turnV L ms)) v:=by
  intro v bS;refine Classical.byContradiction λe0=>mS v ⟨bS,by have:=ip v bS;omega,λb ai bX=>?_⟩;obtain⟨j,bw,rfl⟩:=Zan df ai;obtain⟨c2,cd,ak,a',ev⟩:=ZkM (GM bw);have O1:(cF (dW ls ms))[j]=c2.start:=by
   have:(cF (dW ls ms))[j]=((dW ls ms)[j]).start:=by simp[cF]
   rw[this,ev];rfl
  rw[O1];rw[ev] at bX|-;have c4:idxL ms c2.taker=v:=by
   have:((idxL ms c2.taker:Nat):Int).toNat=v:=bX;omega
  obtain⟨a1,a2,a3⟩:=bD c2 cd;show c2.take<=c2.start+c2.give*(d7 ((idxL ms c2.giver:Nat):Int).toNat:Int)-c2.take*(d7 ((idxL ms c2.taker:Nat):Int).toNat:Int);rw[FM,FM,c4];have cD:(d7 v:Int)+1<=L.getD c2.taker.toNat 0:=by
   have dJ:d7 v<dF (ms.map (turnV L ms)) v:=by have:=ip v bS;omega
   have da:=h0 i1 bS;rw[<-c4,Fg a',c4] at da;have:=(h.turn.2 _ a').2.1;omega
  have:=qa1 cD a3;rw[qbX,qck] at this;have:=Int.mul_nonneg a2 (qaW (d7 (idxL ms c2.giver)));omega
 have hZ:bF.length=tot (ms.map (turnV L ms)):=by
  rw[ht];unfold tot;exact Nat.le_antisymm (mw λv bS=>by rw[jC v bS];exact qab _) (mw λv bS=>by rw[jC v bS];exact qab _)
 rw[hZ];exact WZ λr ap=>by have:=i1 r ap;omega
end
section
variable {n:Nat}{ls:List B5}{L cc ms:List Int}{mn:Int}
def rS(n:Nat)(L ms:List Int)(mn:Int)(c C:Nat->Nat):Prop:=∀y:Nat,y<n->(C y:Int)=tvJ (turnV L ms) ms (y:Int)*(c (placeN (cl n ms mn) ms mn (y:Int)):Int)
theorem Zlp{ls:List B5}{rs ms:List Int}(ai:W7 ls rs)(bG:gcdM rs ms≠0)(bX:∀x∈ms,turnV rs ms x*(gcdM rs ms:Int)=rs.getD x.toNat 0){b:B5}(h:b∈ls)(ak:b.giver∈ms)(a':b.taker∈ms):b.give*turnV rs ms b.giver=b.take*turnV rs ms b.taker:=by
 have bL:=ai b h;rw[<-bX _ ak,<-bX _ a',<-qbF,<-qbF] at bL;exact Int.eq_of_mul_eq_mul_right (by omega) bL
theorem ZaV{ls:List B5}{j:Nat}(h:j<ls.length):(cF ls)[j]'(by simpa[cF] using h)=ls[j].start:=by simp[cF]
theorem Gr.lie_join(h:Gr n L cc ms mn){b:B5}(ai:0<=b.giver/\b.giver<(n:Int)/\0<=b.taker/\b.taker<(n:Int)){c C:Nat->Nat}(c8:rS n L ms mn c C):Fire.lie (fB (joB (turnV L ms) ms (placeN (cl n ms mn) ms mn) b) b.start) c=b.start+b.give*(C b.giver.toNat:Int)-b.take*(C b.taker.toNat:Int):=by
 obtain⟨eE,fC,g9,hF⟩:=ai;have bE:=c8 b.giver.toNat (by omega);have bP:=c8 b.taker.toNat (by omega);rw[qas eE] at bE;rw[qas g9] at bP;rw[bE,bP,<-qbF,<-qbF]
 rfl
theorem ZmY{b:B5}(h:b∈ls)(bH:¬(b.giver∈ms/\b.taker∈ms)):∃i,∃hi:i<(eQ (turnV L ms) ms (placeN (cl n ms mn) ms mn) ls).length,(eQ (turnV L ms) ms (placeN (cl n ms mn) ms mn) ls)[i]=joB (turnV L ms) ms (placeN (cl n ms mn) ms mn) b:=
 let⟨i,hi,e⟩:=qan (qae.mpr ⟨b,qaB.mpr ⟨h,by rw[show inT ms b=false from Bool.eq_false_iff.mpr λy=>bH (by simpa[inT] using y)];rfl⟩,rfl⟩:joB (turnV L ms) ms (placeN (cl n ms mn) ms mn) b∈eQ (turnV L ms) ms (placeN (cl n ms mn) ms mn) ls)
 ⟨i,hi,e⟩
theorem Gr.ready_join(h:Gr n L cc ms mn)(cf:ZB ls n){c C:Nat->Nat}(c8:rS n L ms mn c C){v:Nat}(bz:dN (eQ (turnV L ms) ms (placeN (cl n ms mn) ms mn) ls) (cF (eQ (turnV L ms) ms (placeN (cl n ms mn) ms mn) ls)) (dP n L ms mn) c v){b:B5}(ai:b∈ls)(bH:¬(b.giver∈ms/\b.taker∈ms))(bS:placeN (cl n ms mn) ms mn b.taker=v):b.take*tvJ (turnV L ms) ms b.taker<=b.start+b.give*(C b.giver.toNat:Int)-b.take*(C b.taker.toNat:Int):=by
 obtain⟨i,hi,e⟩:=ZmY (L:=L) (n:=n) (mn:=mn) ai bH;have df:(cF (eQ (turnV L ms) ms (placeN (cl n ms mn) ms mn) ls)).length=(eQ (turnV L ms) ms (placeN (cl n ms mn) ms mn) ls).length:=by simp[cF]
 have ak:=bz.2.2 _ (s6 df hi) (by rw[e];show((placeN (cl n ms mn) ms mn b.taker:Nat):Int).toNat=v;omega);rw[ZaV hi,e] at ak;rw[<-h.lie_join (cf b ai) c8];exact ak
theorem Gr.inner_run(h:Gr n L cc ms mn)(cf:ZB ls n)(ai:W7 ls L)(hz:∀b∈ls,0<=b.take){c C:Nat->Nat}(c8:rS n L ms mn c C){v:Nat}(bS:placeN (cl n ms mn) ms mn mn=v)
  (bz:dN (eQ (turnV L ms) ms (placeN (cl n ms mn) ms mn) ls) (cF (eQ (turnV L ms) ms (placeN (cl n ms mn) ms mn) ls)) (dP n L ms mn) c v) {e b':Nat->Nat} {bF:List Nat} (ap:Fire.Z1 (dN (dW ls ms) (cF (dW ls ms)) (ms.map (turnV L ms))) e bF b'):
  ∀{E:Nat->Nat},(∀y:Nat,y<n->E y=C y+if(y:Int)∈ms then e (idxL ms (y:Int)) else 0)->∃cP,Fire.Z1 (dN ls (cF ls) L) E (bF.map λw=>(ms.getD w 0).toNat) cP/\∀y:Nat,y<n->cP y=C y+if(y:Int)∈ms then b' (idxL ms (y:Int)) else 0:=by
 have eI:ms.Nodup:=h.perm.nodup_iff.mpr h.ok.2.1;have eT:∀x∈ms,placeN (cl n ms mn) ms mn x=v:=λx bp=>by rw[<-bS,i7,i7,if_pos bp,if_pos h.mem]
 have mO:gcdM L ms≠0:=λz=>by
  have ak:=(h.turn.2 mn h.mem).2.2;have a':=h.at (h.rg mn h.mem).1 (h.rg mn h.mem).2;rw[z] at ak;omega
 have yv:∀x∈ms,(C x.toNat:Int)=turnV L ms x*(c v:Int):=λx bp=>by
  have ak:=c8 x.toNat (by have:=h.rg x bp;omega);rw[qas (h.rg x bp).1,eT x bp] at ak;rw[ak];unfold tvJ;rw[if_pos bp]
 have O2:(c v:Int)+1<=gcdM L ms:=by
  have ak:=bz.2.1;have ag:v<(dP n L ms mn).length:=bz.1;have a':=h0 h.due_pos ag;have bL:=h.due_at (h.rg mn h.mem).1 (h.rg mn h.mem).2;rw[bS,if_pos h.mem] at bL;omega
 induction ap with
 |nil e=>exact λ{E} fo=>⟨E,.nil _,fo⟩
 | @cons e b' w bF r _ bQ=>
  intro E fo;have hw:w<ms.length:=by simpa using r.1
  have fI:=GM hw;have bp:ms.getD w 0=ms[w]:=dr hw;have ud:idxL ms ms[w]=w:=ZdT eI hw;obtain⟨x0,x1⟩:=h.rg _ fI;have Fi:∀y:Nat,y<n->(E y:Int)=(C y:Int)+if(y:Int)∈ms then(e (idxL ms (y:Int)):Int) else 0:=λy bO=>by
   rw[fo y bO]
   split<;>simp
  have O3:(e w:Int)+1<=turnV L ms ms[w]:=by
   have ak:=r.2.1;have a':=h0 (rs:=ms.map (turnV L ms)) (λt bX=>by obtain⟨y,bO,rfl⟩:=qae.mp bX;exact(h.turn.2 y bO).1) (v:=w) (by simpa using hw);have bL:(ms.map (turnV L ms)).getD w 0=turnV L ms ms[w]:=by rw[dr (by simpa using hw),qaY]
   omega
  have O4:(E ms[w].toNat:Int)=turnV L ms ms[w]*(c v:Int)+(e w:Int):=by
   rw[Fi _ (by omega),qas x0,if_pos fI,ud,yv _ fI]
  have ju:dN ls (cF ls) L E ms[w].toNat:=by
   have df:(cF ls).length=ls.length:=by simp[cF]
   refine⟨by rw[h.len];omega,?_,λb lX bX=>?_⟩
   .have a':=h0 h.pos (v:=ms[w].toNat) (by rw[h.len];omega);have bL:=(h.turn.2 _ fI).2.2;have cu:=qa1 O2 (show 0<=turnV L ms ms[w] by have:=(h.turn.2 _ fI).1;omega);rw[qbX,qck,bL] at cu;omega
   .obtain⟨j,bw,rfl⟩:=Zan df lX;rw[ZaV bw];have eJ:=GM bw;obtain⟨eE,fC,g9,hF⟩:=cf _ eJ;have eZ:ls[j].taker=ms[w]:=by
     have:ls[j].taker.toNat=ms[w].toNat:=bX;omega
    have nA:=hz _ eJ;have Fj:=λbH=>h.ready_join cf c8 bz eJ bH (by rw[eZ];exact eT _ fI);have ea:ls[j].giver∈ms->ls[j].take<=ls[j].start+ls[j].give*(e (idxL ms ls[j].giver):Int)-ls[j].take*(e w:Int):=λbG=>by
     have yf:inB ms ls[j]∈dW ls ms:=qae.mpr ⟨_,qaB.mpr ⟨eJ,by unfold inT;rw[eZ];simp[bG]⟩,rfl⟩;obtain⟨i,hi,f0⟩:=qan yf;have pa:(cF (dW ls ms)).length=(dW ls ms).length:=by simp[cF]
     have ak:=r.2.2 _ (s6 pa hi) (by rw[f0];show((idxL ms ls[j].taker:Nat):Int).toNat=w;rw[eZ,ud];omega);rw[ZaV hi,f0] at ak;have a':ls[j].take<=ls[j].start+ls[j].give*(e ((idxL ms ls[j].giver:Nat):Int).toNat:Int)-ls[j].take*(e ((idxL ms ls[j].taker:Nat):Int).toNat:Int):=ak;rw[FM,FM,eZ,ud] at a';exact a'
    have gS:=λbG=>Zlp ai mO (λx bp=>(h.turn.2 x bp).2.2) eJ bG (by rw[eZ];exact fI);show ls[j].take<=ls[j].start+ls[j].give*(E ls[j].giver.toNat:Int)-ls[j].take*(E ls[j].taker.toNat:Int);rw[eZ] at Fj gS|-;rw[O4,Fi _ (by omega),qas eE]
    by_cases bG:ls[j].giver∈ms
    .have ak:=ea bG;have a':=gS bG;rw[if_pos bG,yv _ bG,qbX,qbX,<-qbF,<-qbF,a'];omega
    .have ak:=Fj λz=>bG z.1;rw[if_neg bG,Int.add_zero,qbX];rw[yv _ fI] at ak;have bL:tvJ (turnV L ms) ms ms[w]=turnV L ms ms[w]:=by unfold tvJ;rw[if_pos fI]
     rw[bL] at ak;have cu:=qa1 O3 nA;rw[qbX,qck] at cu;omega
  obtain⟨cP,O5,yw⟩:=bQ (E:=Fire.bump E ms[w].toNat) λy bO=>by
   unfold Fire.bump;rw[fo y bO]
   by_cases z:y=ms[w].toNat
   .have Fk:(y:Int)=ms[w]:=by omega
    rw[if_pos z,Fk,if_pos fI,if_pos fI,ud,if_pos rfl];omega
   .rw[if_neg z]
    by_cases rT:(y:Int)∈ms
    .rw[if_pos rT,if_pos rT,if_neg];intro cJ;have ak:=(iq rT).1;rw[cJ,GT hw] at ak;have:=qam ak;omega
    .rw[if_neg rT,if_neg rT]
  refine⟨cP,?_,yw⟩;rw[List.map_cons,bp];exact .cons ju O5
end
section
variable {n:Nat}{ls:List B5}{L cc ms:List Int}{mn:Int}
noncomputable def un1 (n:Nat) (ms:List Int) (mn:Int) (dG:List Nat) (v:Nat):List Nat:=if v=placeN (cl n ms mn) ms mn mn then dG.map λw=>(ms.getD w 0).toNat else[(dU n ms mn).getD v 0]
theorem Fl{oe:List Int}{x y:Int}(bp:x∈oe)(bO:y∈oe)(e:idxL oe x=idxL oe y):x=y:=by
 have ak:=(iq bp).1;rw[e,(iq bO).1] at ak;exact(qam ak).symm
theorem Gr.unfold(h:Gr n L cc ms mn)(cf:ZB ls n)(ai:W7 ls L)(hz:∀b∈ls,0<=b.take){dG:List Nat}{rV:Nat->Nat}(ea:Fire.Z1 (dN (dW ls ms) (cF (dW ls ms)) (ms.map (turnV L ms))) (λ_=>0) dG rV)(rW:∀v<(ms.map (turnV L ms)).length,rV v=dF (ms.map (turnV L ms)) v){c d:Nat->Nat}{bF:List Nat}
  (ap:Fire.Z1 (dN (eQ (turnV L ms) ms (placeN (cl n ms mn) ms mn) ls) (cF (eQ (turnV L ms) ms (placeN (cl n ms mn) ms mn) ls)) (dP n L ms mn)) c bF d):∀{C:Nat->Nat},rS n L ms mn c C->∃D,Fire.Z1 (dN ls (cF ls) L) C (bF.flatMap (un1 n ms mn dG)) D/\rS n L ms mn d D:=by
 have h4:mn∈cl n ms mn:=YO.mpr ⟨h.rg mn h.mem,.inl rfl⟩;have j6:placeN (cl n ms mn) ms mn mn=idxL (cl n ms mn) mn:=by rw[i7,if_pos h.mem]
 induction ap with
 |nil c=>exact λ{C} hT=>⟨C,.nil _,hT⟩
 | @cons c d v bF r _ bQ=>
  intro C hT;rw[qcp]
  by_cases bS:v=placeN (cl n ms mn) ms mn mn
  .obtain⟨E,fo,yw⟩:=h.inner_run cf ai hz hT bS.symm r ea (E:=C) λy _=>by simp
   obtain⟨D,kD,rX⟩:=bQ (C:=E) λy bO=>by
    rw[yw y bO];have ak:=hT y bO
    by_cases bz:(y:Int)∈ms
    .have bB:placeN (cl n ms mn) ms mn (y:Int)=v:=by rw[bS,i7,i7,if_pos bz,if_pos h.mem]
     have cm:=Vk bz;have a':=h0 (rs:=ms.map (turnV L ms)) (λt bX=>by obtain⟨y,bO,rfl⟩:=qae.mp bX;exact(h.turn.2 y bO).1) (v:=idxL ms (y:Int)) (by simpa using cm);rw[Fg bz,<-rW _ (by simpa using cm)] at a';have bL:tvJ (turnV L ms) ms (y:Int)=turnV L ms (y:Int):=by unfold tvJ;rw[if_pos bz]
     rw[bB,bL] at ak|-;rw[if_pos bz,Fire.WL,Int.natCast_add,ak,a',Int.natCast_add,qbX];simp
    .have bB:placeN (cl n ms mn) ms mn (y:Int)≠v:=λz=>by
      rw[bS,j6,i7,if_neg bz] at z;exact bz (Fl (YO.mpr ⟨⟨by omega,by omega⟩,.inr bz⟩) h4 z▸h.mem)
     rw[if_neg bz,Nat.add_zero,Fire.W0 _ bB];exact ak
   refine⟨D,?_,rX⟩;rw[show un1 n ms mn dG v=dG.map λw=>(ms.getD w 0).toNat by unfold un1;rw[if_pos bS]];exact fo.app kD
  .have qJ:v<(dU n ms mn).length:=by have:=r.1;rwa [og] at this
   have Fm:v<(cl n ms mn).length:=by rw[rR];exact qJ
   have Fn:=GM Fm;obtain⟨⟨x0,x1⟩,x2⟩:=YO.mp Fn;have hid:idxL (cl n ms mn) (cl n ms mn)[v]=v:=ZdT o7 Fm;have fI:(cl n ms mn)[v]∉ms:=λz=>by
    rcases x2 with y|y
    .exact bS (by rw[j6];exact hid.symm.trans (congrArg (idxL (cl n ms mn)) y))
    .exact y z
   have bB:placeN (cl n ms mn) ms mn (cl n ms mn)[v]=v:=by rw[i7,if_neg fI,hid]
   have O6:(dU n ms mn).getD v 0=(cl n ms mn)[v].toNat:=by
    have e:(cl n ms mn)[v]=((dU n ms mn)[v]:Int):=qaY _;rw[dr qJ,e,FM]
   have Fp:(((cl n ms mn)[v].toNat:Nat):Int)=(cl n ms mn)[v]:=qas x0;generalize (cl n ms mn)[v]=x at*;have od:tvJ (turnV L ms) ms x=1:=by unfold tvJ;rw[if_neg fI]
   have O7:=hT x.toNat (by omega);rw[Fp,bB,od,Int.one_mul] at O7;have ju:dN ls (cF ls) L C x.toNat:=by
    have df:(cF ls).length=ls.length:=by simp[cF]
    refine⟨by rw[h.len];omega,?_,λb lX bX=>?_⟩
    .have ak:=r.2.1;have a':=h0 h.pos (v:=x.toNat) (by rw[h.len];omega);have bL:=h0 h.due_pos r.1;have cu:=h.due_at x0 x1;rw[bB,if_neg fI] at cu;omega
    .obtain⟨j,bw,rfl⟩:=Zan df lX;rw[ZaV bw];have eJ:=GM bw;obtain⟨eE,fC,g9,hF⟩:=cf _ eJ;have eZ:ls[j].taker=x:=by
      have:ls[j].taker.toNat=x.toNat:=bX;omega
     have ak:=h.ready_join cf hT r eJ (λz=>fI (eZ▸z.2)) (by rw[eZ];exact bB);rw[eZ,od,qck] at ak;show ls[j].take<=ls[j].start+ls[j].give*(C ls[j].giver.toNat:Int)-ls[j].take*(C ls[j].taker.toNat:Int);rw[eZ];exact ak
   obtain⟨D,kD,rX⟩:=bQ (C:=Fire.bump C x.toNat) λy bO=>by
    have ak:=hT y bO
    by_cases z:y=x.toNat
    .have Fk:(y:Int)=x:=by omega
     rw[z,Fire.WL,Fp,bB,Fire.WL,od,Int.one_mul];omega
    .have tM:placeN (cl n ms mn) ms mn (y:Int)≠v:=λw=>by
      rw[i7] at w
      by_cases bz:(y:Int)∈ms
      .rw[if_pos bz,<-j6] at w;exact bS w.symm
      .rw[if_neg bz,<-hid] at w;have:=Fl (YO.mpr ⟨⟨by omega,by omega⟩,.inr bz⟩) Fn w;omega
     rw[Fire.W0 _ z,Fire.W0 _ tM];exact ak
   refine⟨D,?_,rX⟩;rw[show un1 n ms mn dG v=[x.toNat] by unfold un1;rw[if_neg bS,O6]];exact .cons ju kD
theorem Gr.round(h:Gr n L cc ms mn)(cf:ZB ls n)(ai:W7 ls L)(hz:∀b∈ls,0<=b.take){dG:List Nat}{rV:Nat->Nat}(ea:Fire.Z1 (dN (dW ls ms) (cF (dW ls ms)) (ms.map (turnV L ms))) (λ_=>0) dG rV)(rW:∀v<(ms.map (turnV L ms)).length,rV v=dF (ms.map (turnV L ms)) v){d:Nat->Nat}{bF:List Nat}
  (ap:Fire.Z1 (dN (eQ (turnV L ms) ms (placeN (cl n ms mn) ms mn) ls) (cF (eQ (turnV L ms) ms (placeN (cl n ms mn) ms mn) ls)) (dP n L ms mn)) (λ_=>0) bF d) (hd:∀v<(dP n L ms mn).length,d v=dF (dP n L ms mn) v):∃D,Fire.Z1 (dN ls (cF ls) L) (λ_=>0) (bF.flatMap (un1 n ms mn dG)) D/\∀v<L.length,D v=dF L v:=by
 obtain⟨D,ak,a'⟩:=h.unfold cf ai hz ea rW ap (C:=λ_=>0) λy _=>by simp
 refine⟨D,ak,λv bS=>?_⟩;rw[h.len] at bS;have bL:=a' v bS;have eT:=h.place_lt (x:=(v:Int)) (by omega) (by omega);rw[hd _ (by rw[og];exact eT),h0 h.due_pos (by rw[og];exact eT),h.tv_due (by omega) (by omega)] at bL;have cu:=h0 h.pos (v:=v) (by rw[h.len];exact bS);rw[FM] at bL;omega
end
theorem ZgZ{ns:List Int}{a b:Nat}{hi:Option Int}(h:∀n,HT.sIx n n hi-HT.sIx n 0 (some (a:Int))<=b\/hi=none):∃cv:List Int,hr (ns.map V.int) (some (a:Int)) hi=cv.map V.int/\cv.length<=ns.length/\(hi≠none->cv.length<=b):=by
 refine⟨(ns.drop (HT.sIx ns.length 0 (some (a:Int)))).take (HT.sIx ns.length ns.length hi-HT.sIx ns.length 0 (some (a:Int))),?_,?_,λz=>?_⟩
 .unfold hr;rw[GE,<-List.map_drop,<-List.map_take]
 .rw[qaC,qbw];omega
 .rw[qaC];rcases h ns.length with y|y
  .omega
  .exact absurd y z
theorem O8{L cc ms:List Int}(h:ms.Perm cc):gcdM L cc=gcdM L ms:=by
 unfold gcdM;exact(h.foldl_eq' (λx _ y _ z=>by rw[Nat.gcd_assoc,Nat.gcd_assoc,Nat.gcd_comm (L.getD x.toNat 0).toNat]) 0).symm
theorem yx{n:Nat}{cc ms:List Int}{mn:Int}(h:ms.Perm cc):dU n ms mn=dU n cc mn:=by
 unfold dU;refine List.filter_congr λw _=>?_;unfold iZ;rw[show decide ((w:Int)∈ms)=decide ((w:Int)∈cc) from decide_eq_decide.mpr h.mem_iff]
theorem Zmx{n:Nat}{rs ms:List Int}{mn:Int}(bz:mn∈cl n ms mn):((dU n ms mn).map λw=>rs.getD w 0).set (idxL (cl n ms mn) mn) (gcdM rs ms:Int)=dP n rs ms mn:=by
 obtain⟨hp,_⟩:=iq bz;have yc:=Vk bz;unfold dP;refine qau (by simp) λi ak a'=>?_;have bL:i<(dU n ms mn).length:=by simpa using a'
 have cu:(cl n ms mn)[i]? =some ((dU n ms mn)[i]:Int):=by unfold cl;simp[bL]
 rw[qb6,qaY,qaY]
 by_cases e:idxL (cl n ms mn) mn=i
 .rw[if_pos e];rw[e,cu] at hp;rw[if_pos (qam hp)]
 .rw[if_neg e,if_neg];intro z;rw[z,<-hp] at cu;exact e ((List.getElem?_inj yc o7).mp cu.symm)
theorem Fq{ls:List B5}{rs:List Int}(bG:∀b∈ls,0<=b.give)(df:(cF ls).length=ls.length)(bB:∀r∈rs,1<=r){yy i8:List Nat}{ku gQ:Nat->Nat}(ak:Fire.Z1 (dN ls (cF ls) rs) (λ_=>0) yy ku)(a':Fire.Z1 (dN ls (cF ls) rs) (λ_=>0) i8 gQ)(st:∀w,¬dN ls (cF ls) rs ku w)(bN:∀v<rs.length,gQ v=dF rs v):¬(yy.length:Int)<rs.sum:=λcD=>by
 have bz:Fire.Zl1 (dN ls (cF ls) rs):=Fire.ZlX λb ai=>by
  obtain⟨j,bw,rfl⟩:=Zan df ai;exact bG _ (GM bw)
 have hu:=a'.under bz st (λv=>qat _);obtain⟨a1,a2,a3⟩:=kS ak;have bX:=WZ (rs:=rs) λr ap=>(by have:=bB r ap;omega);have:tot rs<=yy.length:=by
  rw[a2];unfold tot;exact mw λv bS=>by rw[<-bN v bS];exact hu v
 omega
theorem ZkD{n:Nat}{ms:List Int}{mn:Int}{jm:JM}{dG:List Nat}(bw:jm.joined=idxL (cl n ms mn) mn)(br:jm.kept=dU n ms mn)(hi:jm.inner=dG.map λw=>ms.getD w 0)(bz:mn∈ms)(hw:∀w∈dG,w<ms.length)(cd:∀x∈ms,0<=x):∀bF:List Nat,unfL jm (bF.map λw:Nat=>(w:Int))=(bF.flatMap (un1 n ms mn dG)).map λw:Nat=>(w:Int)
 | []=>rfl
 |v::bF=>by
  have bQ:=ZkD bw br hi bz hw cd bF;unfold unfL at bQ|-;rw[List.map_cons,qcp,qcp,qaG,bQ]
  congr 1
  unfold kT un1;rw[i7,if_pos bz,<-bw,br]
  by_cases e:v=jm.joined
  .rw[if_pos (by omega),if_pos e,hi,qaP];refine List.map_congr_left λw kd=>?_;have ak:=hw w kd;have a':=cd _ (GM ak);show ms.getD w 0=(((ms.getD w 0).toNat:Nat):Int);rw[dr ak];omega
  .rw[if_neg (by omega),if_neg e,FM]
   rfl
theorem Gr.due_le6{n:Nat}{L cc ms:List Int}{mn:Int}(h:Gr n L cc ms mn)(da:∀r∈L,r<=6):∀r∈dP n L ms mn,r<=6:=λr ap=>by
 have h6:∀x:Int,0<=x->x<(n:Int)->L.getD x.toNat 0<=6:=λx cd ak=>by rw[dr (by rw[h.len];omega)];exact da _ (GM _)
 unfold dP at ap;obtain⟨w,hw,rfl⟩:=qae.mp ap;have kd:=qaw.mp (qaB.mp hw).1
 split
 .obtain⟨jg,_,jl⟩:=h.turn.2 mn h.mem;have a':=h6 mn (h.rg mn h.mem).1 (h.rg mn h.mem).2;have:=qbU jg (show(0:Int)<=(gcdM L ms:Int) by omega);omega
 .have:=h6 (w:Int) (by omega) (by omega)
  rwa [FM] at this
theorem Znz:OkN P w base 12 T.aP (JV T):=by
 have fq:=T.a;have fr:=T.e;have pA:=T.h;have pB:=T.o;refine T.aP.F.okX gc (λvs H Q E h=>?_) (λcz A outer s H vs Q E ap h=>?_)
 .obtain⟨a,ns,rfl,_⟩:=h
  rfl
 .have hu:=ap.hu;obtain⟨p,ns,rfl,dx,d9,k⟩:=h;refine⟨_,(bI (cy (i:=1) gc.nd rfl (Or.inl rfl) (c6 T.x0 (o9 T) ap cw (bq (pv 0) (bq b8 bA))))
     (bI (cy (i:=2) gc.nd rfl (Or.inl rfl) (cK (hh K) b8 (cK fT (pv 1) b8)))
     (bI (cy (i:=3) gc.nd rfl (Or.inr rfl) (lH (xs:=["_law_k"]) rfl (e5 (x:="_law_k") (zs:=["_law_script"]) (ix:=[0]) (cn sR) ["_law_script","_law_first","_law_many","_law_rates","_law_names_here","_law_belts","_law_k","_law_group","_law_hall","_law_joint","_law_made_here","_law_common_here","_law_work","_law_due","_law_row","_law_told","_law_handed","_law_found"] rfl rfl (by decide+kernel)) (hc rfl T.g (bq (pv 2) bA)) (λcg C s H fp=>⟨(cI (i:=0) (show(["_law_k","_law_script"]:List Str).Nodup by decide+kernel) rfl (Or.inl rfl)),fW,(cK (hh K) b8 (cK fT (c6 T.x0 (o9 T) ap Uo (bq (pv 1) (bq (cK (hh K) b8 (pv 0)) bA))) b8))⟩)))
     (bI (cy (i:=4) gc.nd rfl (Or.inl rfl) (c6 T.x1 (Kt T) ap cw (bq (c6 T.x0 (o9 T) ap cw (bq (pv 0) (bq b8 bA))) (bq (pv 2) bA))))
     (bI (cy (i:=5) gc.nd rfl (Or.inl rfl) (gX bA))
     (bI (eo PassesOwn.leaving rfl (hc rfl T.g (bq (cK fT (cK gK (pv 1) b8) b8) bA)) (cI (i:=6) gc.nd rfl (Or.inl rfl)) (bZ (eF (fv (K:=K) rfl qai qaq qar g0 (pv 5) (bq (c6 T.bf (N5 T) ap cw (bq (c6 T.x0 (o9 T) ap cw (bq (pv 0) (bq (cK (hh K) b8 (pv 6)) bA))) (bq (pv 3) (bq b8 (bq (kA (fL (K:=K) rfl hu) (cK fT (cK gK (pv 1) b8) b8) b8 (ds _)) bA))))) bA)))))
     (bI (cy (i:=3) gc.nd rfl (Or.inr rfl) (c6 T.x3 (Kz T) ap cw (bq (pv 3) (bq (pv 5) bA))))
     (bI (cy (i:=7) gc.nd rfl (Or.inr rfl) (c6 T.x4 (KD T) ap cw (bq (c6 T.x0 (o9 T) ap cw (bq (pv 0) (bq b8 bA))) (bq (pv 2) bA))))
     (bI (cy (i:=8) gc.nd rfl (Or.inl rfl) (c6 T.aR (KY T) ap cw (bq (pv 4) (bq (pv 5) bA))))
     (bI (cy (i:=9) gc.nd rfl (Or.inl rfl) WJ)
     (bI (HA rfl rfl rfl T.J.m (λJ ji pn lE ownT O9=>(bZ (cy (i:=9) gc.nd rfl (Or.inl rfl) (Jc T.bn (OC T) ap T.aq O9 (bq (pv 8) (bq (pv 7) bA)))))) (λfX=>(bZ (cy (i:=9) gc.nd rfl (Or.inl rfl) WJ))))
     (bI (dQ (dk ov (pv 9) WJ (ds _)) (bZ (cW Wn)) dX)
     (bI (dQ (hn (gO (K:=K) rfl (c6 T.be (NU T) ap cw (bq (pv 9) (bq (pv 2) (bq (pv 7) (bq (i' (j8 (K:=K) rfl) (by rfl) T.j qaF (bq (r9 (sv (K:=K) rfl) (pv 0) (p6 b8) (p6 b8)) bA)) bA))))) (λ_=>rfl))) (bZ (cW Wn)) dX)
     (bI (cy (i:=10) gc.nd rfl (Or.inl rfl) (il (pv 9) T.h T.bg (Oa T) ap cw))
     (bI (cy (i:=11) gc.nd rfl (Or.inl rfl) b8)
     (bI (eo PassesOwn.leaving rfl (ez (K:=K) rfl (pv 7)) (cI (i:=12) gc.nd rfl (Or.inl rfl)) (bZ (cy (i:=11) gc.nd rfl (Or.inl rfl) (c6 T.x2 (wx T) ap cw (bq (pv 11) (bq (ci (ixk K) (pv 3) (pv 12) (λ_ _=>rfl)) bA))))))
     (bI (nk (j:=13) rfl (e5 (x:="_law_work") (zs:=["_law_rates","_law_group"]) (ix:=[3,7]) (cn sR) ["_law_script","_law_first","_law_many","_law_rates","_law_names_here","_law_belts","_law_k","_law_group","_law_hall","_law_joint","_law_made_here","_law_common_here","_law_work","_law_due","_law_row","_law_told","_law_handed","_law_found"] rfl rfl (by decide+kernel)) (hc rfl T.g (bq (pv 2) bA)) (λcg C s H fp=>⟨(cI (i:=0) (show(["_law_work","_law_rates","_law_group"]:List Str).Nodup by decide+kernel) rfl (Or.inl rfl)),(nc (PW.pt (i_ (dk (fL (K:=K) rfl hu) (pv 0) (dt (vz (K:=K) rfl rfl) (by rfl) T.y qbq (bq (pv 2) bA)) (ds _)) (jz (dk (zV (K:=K) rfl) (pv 0) (pv 2) (by with_unfolding_all rfl)))))),(ci (ixk K) (pv 1) (pv 0) (λ_ _=>rfl))⟩) gc.nd rfl (Or.inl rfl))
     (bI (hM (pv 11) (hL (pv 13) (il (pv 9) T.h T.aN (Ew T) ap cw) j1))
     (bI (cy (i:=14) gc.nd rfl (Or.inl rfl) (c6 T.aS (K6 T) ap cw (bq (il (pv 10) T.a T.O (nV T) ap cw) (bq (pv 13) (bq (i' (j8 (K:=K) rfl) (by rfl) T.j qaF (bq (r9 (sv (K:=K) rfl) (pv 0) (p6 b8) uN) bA)) bA)))))
     (bI (cy (i:=15) gc.nd rfl (Or.inl rfl) (c6 T.bc (NK T) ap cw (bq (pv 10) bA)))
     (bI (dQ (PW.pt (i_ (hn (gO (K:=K) rfl (dt (nr (K:=K) rfl) (by rfl) T.l qa4 (bq (pv 15) (bq (mY (v:= .ty "tuple") (by rfl) T.aw PyProof.Rows.boot_tuple rfl) bA))) (λ_=>rfl))) (i_ (dk (nq (K:=K) rfl hu) (dt (eW K) (by rfl) T.f qao (bq (pv 15) bA)) b8 (ds _)) (jz (dk (nq (K:=K) rfl hu) (kA ov (ci (ixk K) (pv 15) b8 (λ_ _=>rfl)) WJ (ds _)) (kA ov (pv 14) WJ (ds _)) (ds _)))))) (bZ (cW Wn)) dX)
     (bI (dQ (dk ov (pv 14) WJ (ds _)) (bZ (cW Wn)) dX)
     (bI (cy (i:=16) gc.nd rfl (Or.inl rfl) (i' (j8 (K:=K) rfl) (by rfl) T.j qaF (bq (pv 14) bA)))
     (bI (cy (i:=17) gc.nd rfl (Or.inl rfl) (fk (pv 9) T.h T.ab (rG T) ap cw (bq (pv 16) bA)))
     (bI (dQ (PW.pt (i_ (dk (nq (K:=K) rfl hu) (pv 16) (pv 14) (ds _)) (jz (hn (gO (K:=K) rfl (c6 T.aM (En T) ap cw (bq (pv 5) (bq (pv 3) (bq (pv 17) bA)))) (λ_=>rfl)))))) (bZ (cW Wn)) dX)
     (bZ (cW (c6 T.aM (En T) ap cw (bq (pv 5) (bq (pv 3) (bq (fk (pv 9) T.h T.ab (rG T) ap cw (bq (ci (ixk K) (pv 15) b8 (λ_ _=>rfl)) bA)) bA))))))))))))))))))))))))))))))),?_⟩
  walk_at "a"
  nofun;have dR:1<=1+cellX ns 0 % 6/\1+cellX ns 0 % 6<=6:=by omega
  generalize cellX ns 0=rY at*;obtain⟨m,bz⟩:∃m:Nat,1+rY % 6=(m:Int):=⟨(1+rY % 6).toNat,by omega⟩;rw[bz] at dR|-;refine Y5 (own:=1) Wa.y (dm (by omega)) (λj=>[some (.int (0+(j:Int)))]) (λ_=>rfl) (λ_=>true) (λj v _=>v= .int (1+cellX ns (3+(0+(j:Int))) % 5)) (λ_ _ _ _ _ z=>z) (λj dI ae v b7 hU hi bU y gs k=>?_) (λj ae cY hi bU k=>?_) (λk8 j ae cY hi jE hp0 i1 bU k=>?_) (λrK a_ zs hra bu hra1 c8=>?_)
  .obtain⟨rfl,rfl⟩:=y;obtain⟨x1,rfl⟩:∃x1,dI=[x1]:=by
    match dI,gs with
    | [x1],_=>exact⟨x1,rfl⟩
   nofun;exact k _ (Zd.refl _)
  .nofun;exact k ae (Zd.refl ae)
  .have nz:=bU.seq dx;have bw:j<m:=by omega
   nofun;exact k _ ae (Zd.refl ae) rfl
  rw[qaz.mpr (by simp),show((m:Nat):Int).toNat=m from rfl] at c8;have e3:=Ff c8;have nO:∀r∈(List.range m).map (λj:Nat=>1+cellX ns (3+(0+(j:Int))) % 5),1<=r/\r<=6:=λr ap=>by
   obtain⟨j,_,rfl⟩:=qae.mp ap;omega
  have e6:((List.range m).map (λj:Nat=>1+cellX ns (3+(0+(j:Int))) % 5)).length=m:=by simp
  generalize (List.range m).map (λj:Nat=>1+cellX ns (3+(0+(j:Int))) % 5)=rs at*;subst e3;have pD:=SqL.of (K:=K) hra1;have qD:=bu.seq dx;nofun;refine⟨_,m,rfl,by omega,λhb bt cM mQ bM Fs Ft eI hX _=>?_⟩;have f5:=bu.trans bM;have nD:=f5.seq dx;have oa:=bM.seq pD;nofun;refine⟨qat _,λb ai=>?_⟩;have bR:Zd bt (upd bt b (.lst [])):=cO ai;have ob:(upd bt b (.lst [])) b=some (.lst []):=Ze;generalize upd bt b (.lst [])=b7 at*;nofun;refine Vw (n:=(rY / 6 % 8).toNat) (λi af ae=>∃(bs:List V)(ls:List B5)(a6:Option V),af=[some (.ref p),some (.int rY),some (.int m),some (.ref rK),some (.ref hb),some (.ref b),a6,none,none,none,none,none,none,none,none,none,none,none]/\Zd bt ae/\ae b=some (.lst bs)/\eP ae bs ls/\ls.length=i/\(∀l∈ls,Bel m l)/\W7 ls rs) ⟨[],[],_,rfl,bR,ob,.nil,rfl,by simp,λb ai=>(by cases ai)⟩ ?_ ?_
  .rintro i af bW hi ⟨bs,ls,a6,rfl,b2,i2,ej,jj,mT,uf⟩;have AA:=b2.seq nD;have oc:=b2.seq oa;have eJ:=ej.length;have k9:bs.length<sizeLine:=dm (by omega);nofun;refine⟨_,rK,rs,2,_,rfl,oc,by omega,by omega,nO,by omega,by omega,λu b0 bb hu cs n6 hBb O_=>?_⟩;have xI:=cs _ _ i2;nofun;have ho:db [b] b0 (upd b0 b (.lst (bs++ [.ref u]))):=gN (by simp) xI (by intro _ z;cases z);refine⟨bs++ [.ref u],ls++ [bb],_,rfl,(b2.trans cs).new ai,Ze,((ej.keep λb xs e=>cs _ _ e).keep ho.tups).snoc (ho.tups _ _ n6),by simp[jj],λl ag=>?_,λl ag=>?_⟩
   .rcases qaI.mp ag with z|z
    .exact mT l z
    .rw[qac.mp z,<-e6];exact hBb
   .rcases qaI.mp ag with z|z
    .exact uf l z
    .rw[qac.mp z];exact O_
  rintro af bW ⟨bs,ls,a6,rfl,b2,i2,ej,jj,mT,uf⟩;have tN:ls.length<=8:=by omega
  have gj:=f5.trans b2;have oc:=b2.seq oa;have cf:ZB ls rs.length:=λl ag=>by rw[e6];exact(mT l ag).rg
  have hsz:=Zj9 mT;have lv:=Zlx cf (λr ap=>(nO r ap).1) uf;have kW:=lv.len;nofun;refine⟨rK,b,bs,ls,rs,rfl,oc,i2,ej,cf,by omega,λr ap=>(by have:=nO r ap;omega),λfP b0 Cg cs Fu=>?_⟩;have yz:∀r∈leastL ls rs,r<=6:=λr ap=>by
   obtain⟨i,hi,rfl⟩:=qan ap;have ak:=lv.le i (by omega);rw[dr hi,dr (by omega)] at ak;have:=(nO _ (GM (show i<rs.length by omega))).2;omega
  have TQ:(leastL ls rs).sum<=400:=by
   have:=ZiD yz;omega
  have ug:=lv.pos;have Pa:=Zch (kW.symm▸cf) hsz ug lv.bal;have rZ:=lv.bal;have Fv:=lv.least;have Fw:∀{z:Int->Nat}{rs':List Int},Rts ls rs.length z rs'->rs'=leastL ls rs:=λ{z rs'} c8=>ZlA lv cf hsz c8;generalize leastL ls rs=L at*;clear lv;have mR:=gj.trans cs;have Fx:=mR.seq dx;nofun;refine⟨_,m,rfl,by omega,by omega,λFy c9 cc hga dY Fz hok hV=>?_⟩;have FA:WC cM:=⟨eI,Ft,by omega⟩;have jO:Zd bW c9:=cs.trans dY;have pd:=jO _ _ i2;have nU:=ej.keep λb xs e=>jO _ _ e;have pE:=jO _ _ (b2 _ _ Fs);have FC:=dY _ _ Fu;have FD:=dY.seq Fx;rw[e6] at cf Fw Fv;rw[e6] at kW;clear bu bM bR b2 cs f5 gj mR Fx nD qD oc oa pD Fu uf c8 nO dx jO i2 ej Fs dY;nofun;refine⟨hb,b,cM,bs,ls,rfl,.of pE,Ft,eI,by omega,by omega,pd,nU,by rw[hX];exact mT,by omega,λbB fp eU mF hfp8 e4=>?_⟩;have yA:=e4 _ _ Fz;have FE:=e4.seq FD;nofun;refine L2.Rd.Zpi (λcls _ ae=>cls= .ref T.B) ?_ ?_
  rotate_left
  .rintro cls f' rfl;refine⟨T.C,?_⟩;nofun;refine⟨rfl,?_⟩;nofun;exact k _
  nofun;refine Zgc (z:=k_ L) mF yA (by rw[hX];exact hok) (by omega) FA (by dsimp only;omega) (by rw[hX];exact cf) hsz Pa (λrs' c8=>?_);dsimp only at c8|-;rw[hX] at c8;obtain rfl:=Fw c8;refine⟨λc=>absurd c (by omega),λ_ ms g6 E3 bF d7 eM mS=>?_⟩;refine⟨λ_ _ _=>rfl,λPb j fj ad mn iB l0 bw gv Pd=>?_⟩;have fZ:Gr m rs' cc ms mn:=⟨hok,g6,iB,kW,ug⟩;have mM:=fZ.turn;have kG:(bF.length:Int)=(ms.map (turnV rs' ms)).sum:=by
   have ak:=(kS (io eM)).2.2;have a':=WZ (rs:=ms.map (turnV rs' ms)) λr ap=>(by obtain⟨x,bp,rfl⟩:=qae.mp ap;have:=(mM.2 x bp).1;omega);omega
  have rW:∀v<(ms.map (turnV rs' ms)).length,d7 v=dF (ms.map (turnV rs' ms)) v:=by
   obtain⟨cd,ak,a'⟩:=kS (io eM);have bL:=WZ (rs:=ms.map (turnV rs' ms)) λr ap=>(by obtain⟨x,bp,rfl⟩:=qae.mp ap;have:=(mM.2 x bp).1;omega);exact q4 cd (by unfold tot at bL;omega)
  have FF:=io eM;have cm:(bF.map λw=>ms.getD w 0).length<=400:=by rw[GE];have:=mM.1;omega
  obtain⟨jm,kn⟩:∃jm,tb ⟨cM,ls⟩ rs' ms mn bF=jm:=⟨_,rfl⟩;have FG:jm.called=(dU m ms mn).map λw=>cM.getD w "" :=by rw[<-kn,<-hX];rfl
  have oh:jm.rows=eQ (turnV rs' ms) ms (placeN (cl m ms mn) ms mn) ls:=by rw[<-kn,<-hX];rfl
  have uh:jm.joined=idxL (cl m ms mn) mn:=by rw[<-kn,<-hX];rfl
  have ui:jm.kept=dU m ms mn:=by rw[<-kn,<-hX];rfl
  have FH:jm.inner=bF.map λw=>ms.getD w 0:=by rw[<-kn];rfl
  rw[kn] at bw;rw[<-FH] at cm;clear kn eM mS Pb kG mM;have uj:=e4.trans gv;have FI:=gv.seq FE;have FJ:=gv _ _ yA;have FK:=uj _ _ pd;have FL:=nU.keep λb xs e=>uj _ _ e;have yB:=uj _ _ FC;clear e4 gv uj yA FE FD Fz pd nU FC pE mF hfp8 Pd;nofun;refine⟨rfl,?_⟩;nofun;obtain⟨cv,Pe,_,tu⟩:∃cv:List Int,hr (ns.map V.int) (some 9) (some 25)=cv.map V.int/\cv.length<=ns.length/\(some (25:Int)≠none->cv.length<=16):=ZgZ (a:=9) (b:=16) (hi:=some 25) λn=> .inl (by simp[HT.sIx];omega);refine Rd.slL FI (λe9 kU=>?_);rw[Pe];have jh:Zd fj (upd fj e9 (.lst (cv.map V.int))):=cO kU;have t0:(upd fj e9 (.lst (cv.map V.int))) e9=some (.lst (cv.map V.int)):=Ze;generalize upd fj e9 (.lst (cv.map V.int))=iL at*;nofun;refine Rd.W3 (.of t0) (λeb j0=>?_);have i3:Zd iL (upd iL eb (.lst (cv.map V.int))):=cO j0;have FN:(upd iL eb (.lst (cv.map V.int))) eb=some (.lst (cv.map V.int)):=Ze;generalize upd iL eb (.lst (cv.map V.int))=H12 at*;have uk:=jh.trans i3;have FO:=bw.same uk;have gE:mn∈cc:=g6.mem_iff.mp iB;have FP:∀x∈cc,mn<=x:=λx bp=>l0 x (g6.mem_iff.mpr bp);have Pf:cl m ms mn=cl m cc mn:=by unfold cl;rw[yx g6]
  nofun;refine⟨j,Fy,eb,m,jm,ad,cc,cv,mn,rfl,FO,.of (uk _ _ FJ),hok,gE,FP,by omega,ui.trans (yx g6),by rw[<-Pf];exact uh,cm,.of FN,tu (by simp),λpF i4=>?_⟩;have yC:=uk.trans i4;have yD:=bw.same yC;clear jh i3 i4 uk t0 FN FO kU j0;nofun;have Pg:WC jm.called:=by rw[FG];exact fZ.names FA hX
  have ew:jm.called.length=(dU m ms mn).length:=by rw[FG,GE]
  have gw:=ZaM (n:=m) (ms:=ms) (mn:=mn);have nQ:jm.rows.length<=60:=by rw[oh];exact qaj OY (by omega)
  refine⟨j,jm,ad,rfl,yD,Pg,nQ,λyE fm H14 hm14 CO yF=>?_⟩;have yG:=yC.trans yF;have FQ:=SqL.of (K:=K) (yG _ _ FJ);have Ph:=SqL.of (K:=K) (yG _ _ yB);have et:∀x:Int,0<=x->x<(m:Int)->∃v:Nat,rs'.getD x.toNat 0=(v:Int)/\atI (rs'.map V.int) x=some (.int (v:Int)):=λx cd ak=>by
   have a':=fZ.at cd ak;have bL:=Y1 (ns:=rs') cd (by omega);exact⟨(rs'.getD x.toNat 0).toNat,by omega,by rw[qas (by omega)];exact bL⟩
  nofun;refine Ya (ey FQ) (λi af ae=>ae=H14/\∃yH,af=[some (.ref p),some (.int rY),some (.int m),some (.ref fP),some (.ref hb),some (.ref b),a6,some (.ref Fy),some (.ref bB),some (.ref j),some (.ref yE),some (.int (gcdM rs' (cc.take i):Nat)),yH,none,none,none,none,none]) ⟨rfl,_,rfl⟩ (λi af ae h=>h.1▸Zd.refl H14) ?_ ?_
  .rintro i af ae hi ⟨rfl,yH,rfl⟩;have cm:i<cc.length:=by rw[GE] at hi;exact hi
   have c4:(cc.map V.int).getD i .non=V.int cc[i]:=by simp[List.getD,cm]
   rw[c4];have t3:=hok.2.2 _ (GM cm);obtain⟨v,gT,l1⟩:=et cc[i] t3.1 t3.2;have eh:gcdM rs' (cc.take (i+1))=Nat.gcd (gcdM rs' (cc.take i)) v:=by rw[qad cm,ta,gT,FM]
   rw[eh];generalize cc[i]=MM at*;nofun;refine⟨_,v,rfl,?_⟩;nofun;exact⟨rfl,_,rfl⟩
  rintro af ae ⟨rfl,yH,rfl⟩;rw[GE,qaD,O8 g6];nofun;have mO:0<cc.length:=qbT.mpr hok.1;refine Z9 Wa (dm (by omega)) (λi=>iZ cc mn i) (λi=> .int (rs'.getD i 0)) (λi ae cY hi bU k=>?_) (λi ae cY hi _ bU k=>?_) (λn4 H15 hda s15 FR=>?_)
  .have pk:=bU.seq FQ;rw[qaV];unfold iZ at k;nofun;refine Rd.Zlw pk mO λM hM1 rJ=>?_;obtain rfl:mn=M:=by have:=FP M hM1;have:=rJ mn gE;omega
   nofun
   by_cases hw:(i:Int)=mn
   .rw[decide_eq_true hw,Bool.true_or] at k;nofun;exact k ae (Zd.refl ae)
   .rw[decide_eq_false hw,Bool.false_or] at k;nofun;exact k ae (Zd.refl ae)
  .rw[qaV];obtain⟨v,gT,l1⟩:=et (i:Int) (by omega) (by omega);rw[FM] at gT;rw[gT] at k;have jv:=bU.seq Ph;nofun;exact k ae (Zd.refl ae)
  have FS:((List.range ((m:Nat):Int).toNat).filter λi=>iZ cc mn i).map (λi:Nat=>V.int (rs'.getD i 0))=((dU m ms mn).map λw=>rs'.getD w 0).map V.int:=by
   rw[yx g6,FM,qaP]
   rfl
  rw[FS] at FR;have FT:=yD.same (yF.trans s15);have h4:mn∈cl m ms mn:=YO.mpr ⟨fZ.rg mn iB,.inl rfl⟩;have yI:=Zmx (rs:=rs') h4;rw[<-uh] at yI;have hC:(jm.joined:Int)<((((dU m ms mn).map λw=>rs'.getD w 0).map V.int).length:Int):=by
   have:=Vk h4;rw[rR,<-uh] at this;simp;omega
  nofun;refine⟨j,jm,ad,rfl,FT,?_⟩;nofun;rw[FM,<-qbB,yI];have FU:Zd ae (upd H15 n4 (.lst ((dP m rs' ms mn).map V.int))):=s15.new hda;have Pj:(upd H15 n4 (.lst ((dP m rs' ms mn).map V.int))) n4=some (.lst ((dP m rs' ms mn).map V.int)):=Ze;generalize upd H15 n4 (.lst ((dP m rs' ms mn).map V.int))=H16 at*;have Pk:=hm14.same FU;have FV:=yG.trans FU;have Pl:=FV.seq FI;clear s15 FR FT FS yI hC yF yC yD;nofun;intro BD H17 Pm tp s17 Pn hTb;dsimp only at hTb;have Po:=s17.seq Pl;nofun;obtain⟨l2,Pp,TR,_⟩:∃cv:List Int,hr (ns.map V.int) (some 9) none=cv.map V.int/\cv.length<=ns.length/\((none:Option Int)≠none->cv.length<=0):=ZgZ (a:=9) (b:=0) (hi:=none) λn=> .inr rfl;refine Rd.slL Po (λkK nY=>?_);rw[Pp];have Pq:Zd H17 (upd H17 kK (.lst (l2.map V.int))):=cO nY;have Pr:(upd H17 kK (.lst (l2.map V.int))) kK=some (.lst (l2.map V.int)):=Ze;generalize upd H17 kK (.lst (l2.map V.int))=H18 at*;nofun;refine Rd.W3 (.of Pr) (λnE ha=>?_);have Ps:Zd H18 (upd H18 nE (.lst (l2.map V.int))):=cO ha;have Pu:(upd H18 nE (.lst (l2.map V.int))) nE=some (.lst (l2.map V.int)):=Ze;generalize upd H18 nE (.lst (l2.map V.int))=H19 at*;have yJ:=Pq.trans Ps;have yK:=s17.trans yJ;have pG:Yx jm.rows:=by rw[oh];exact fZ.join_sized cf yz λb ai=>(by have h:=mT b ai;exact⟨h.sz.1,h.sz.2,h.few.1,h.few.2⟩)
  have lL:(dP m rs' ms mn).length=jm.called.length:=by rw[og,ew]
  have ul:ZB jm.rows jm.called.length:=by rw[oh,ew];exact fZ.join_bt cf
  have Pw:W7 jm.rows (dP m rs' ms mn):=by rw[oh];exact fZ.join_bal cf rZ
  have FW:Vg jm.rows (k_ (dP m rs' ms mn)):=Zch (by rw[lL];exact ul) pG fZ.due_pos Pw;have FX:∀b∈jm.rows,0<=b.give:=λb ai=>by
   obtain⟨i,hi,e⟩:=qan ai;obtain⟨cX,b1,dS,fN,fz,dH,eh,dL⟩:=pG i hi;rw[dr hi,e] at eh;omega
  have FY:∀b∈jm.rows,0<=b.start:=λb ai=>by
   rw[oh] at ai;obtain⟨c2,cd,_,rfl⟩:=ZbO ai;exact(mT c2 cd).st
  have pH:=fZ.due_pos;have jB:(dP m rs' ms mn).sum<=400:=by
   have:=ZiD (fZ.due_le6 yz);omega
  have FZ:∀{z:Int->Nat}{lh:List Int},Rts jm.rows jm.called.length z lh->lh=dP m rs' ms mn:=λ{z lh} oi=>by
   rw[oh] at oi pG;rw[ew] at oi;exact fZ.join_is cf rZ Fv pG oi
  have mc:∀{i8:List Nat}{gQ:Nat->Nat},Fire.Z1 (dN jm.rows (cF jm.rows) (dP m rs' ms mn)) (λ_=>0) i8 gQ->(∀v<(dP m rs' ms mn).length,gQ v=dF (dP m rs' ms mn) v)->∃D,Fire.Z1 (dN ls (cF ls) rs') (λ_=>0) (i8.flatMap (un1 m ms mn bF)) D/\∀v<rs'.length,D v=dF rs' v:=λ{i8 gQ} ak a'=>by
   rw[oh] at ak;exact fZ.round cf rZ (λb ai=>by have:=(mT b ai).sz;omega) FF rW ak a'
  have F0:=ZkD uh ui FH iB (λw hw=>by have:=ZbP FF w hw;simpa using this) (λx bp=>(fZ.rg x bp).1);have F1:(cF jm.rows).length=jm.rows.length:=by simp[cF]
  have TU:(dP m rs' ms mn).length=jm.kept.length:=by rw[og,ui]
  have F2:=Pk.same yK;have Px:=FV.trans yK;nofun;refine⟨BD,n4,nE,Pm,jm.rows,dP m rs' ms mn,l2,rfl,yJ _ _ Pn,hTb.keep (λb xs e=>yJ _ _ e),by omega,.of (yK _ _ Pj),pH,by omega,jB,by rw[lL];exact ul,.of Pu,by omega,λi8 gQ fa=>⟨λeN cD H20 um=>?_,λheq ra2 H20 oa um F3=>?_⟩⟩
  .have yL:=F2.same um;nofun;refine⟨yE,⟨jm.called,jm.rows⟩,fm,k_ (dP m rs' ms mn),rfl,yL,by dsimp only;omega,by dsimp only;omega,ul,pG,FW,FY,λlh oi=>?_⟩;obtain rfl:=FZ oi;refine⟨λc=>absurd c (by omega),λ_=>⟨λt r H21 ws3 qI ap r0 ht21 yM l3 n0=>?_,λt u c5 lC H21 ws3 qI ring _ _ r0 ht21 _ _ _ l3 hst3 g4 n8=>?_⟩⟩
   .exact absurd cD (Fq FX F1 pH fa (io l3) eN n0)
   .have F4:=SqT.of (K:=K) ht21;nofun;refine⟨rfl,?_⟩;nofun;refine⟨rfl,?_⟩;nofun;refine⟨rfl,?_⟩;nofun;exact k _
  have gI:∀v<(dP m rs' ms mn).length,gQ v=dF (dP m rs' ms mn) v:=by
   obtain⟨cd,ak,a'⟩:=kS fa;have bL:=WZ (rs:=dP m rs' ms mn) λr ap=>(by have:=pH r ap;omega);exact q4 cd (by unfold tot at bL;omega)
  have yL:=F2.same um;nofun;refine⟨yE,⟨jm.called,jm.rows⟩,fm,k_ (dP m rs' ms mn),rfl,yL,by dsimp only;omega,by dsimp only;omega,ul,pG,FW,FY,λlh oi=>?_⟩;obtain rfl:=FZ oi;refine⟨λc=>absurd c (by omega),λ_=>⟨λt r H21 ws3 qI ap r0 ht21 yM l3 n0=>?_,λt u c5 lC H21 ws3 qI ring _ _ r0 ht21 _ _ _ l3 hst3 g4 n8=>?_⟩⟩
  rotate_left
  .refine absurd ?_ (Fq FX F1 pH (io l3) fa hst3 gI);obtain⟨cd,ak,a'⟩:=kS (io l3);have bL:=WZ (rs:=dP m rs' ms mn) λr ap=>(by have:=pH r ap;omega);obtain⟨v,bS,C0⟩:=g4
   by_cases z:ws3.length=tot (dP m rs' ms mn)
   .have:=q4 cd (by unfold tot at z;omega) v bS;omega
   .omega
  have F4:=SqT.of (K:=K) ht21;obtain⟨Py,rX,Pz⟩:=mc fa gI;obtain⟨PB,PD,PF⟩:=mc (io l3) n0;have PH:(i8.map λw:Nat=>V.int (w:Int))=(i8.map λw:Nat=>(w:Int)).map V.int:=by rw[qaP];rfl
  have PJ:(ws3.map λw:Nat=>V.int (w:Int))=(ws3.map λw:Nat=>(w:Int)).map V.int:=by rw[qaP];rfl
  rw[PH] at F3;rw[PJ] at yM;have fe:i8.length<=400:=by omega
  have jr:ws3.length<=400:=by
   have ak:=(kS (io l3)).2.2;have bL:=WZ (rs:=dP m rs' ms mn) λr ap=>(by have:=pH r ap;omega);omega
  have qY:∀k∈i8.map λw:Nat=>(w:Int),0<=k/\k<(jm.kept.length:Int):=λk br=>by
   obtain⟨w,hw,rfl⟩:=qae.mp br;have:=ZbP fa w hw;omega
  have PL:∀k∈ws3.map λw:Nat=>(w:Int),0<=k/\k<(jm.kept.length:Int):=λk br=>by
   obtain⟨w,hw,rfl⟩:=qae.mp br;have:=ZbP (io l3) w hw;omega
  have uo:=Px.trans (um.trans r0);have F5:=r0 _ _ F3;have PM:=SqL.of (K:=K) F5;nofun;refine⟨rfl,?_⟩;nofun;refine⟨rfl,?_⟩;nofun;refine⟨rfl,?_⟩;nofun;refine Rd.W3 PM (λfE iR=>?_);have up:Zd H21 (upd H21 fE (.lst ((i8.map λw:Nat=>(w:Int)).map V.int))):=cO iR;have F6:(upd H21 fE (.lst ((i8.map λw:Nat=>(w:Int)).map V.int))) fE=some (.lst ((i8.map λw:Nat=>(w:Int)).map V.int)):=Ze;generalize upd H21 fE (.lst ((i8.map λw:Nat=>(w:Int)).map V.int))=H22 at*;have PN:=bw.same (uo.trans up);have jx:jm.kept.length<=30:=by rw[ui];omega
  nofun;refine⟨j,fE,jm,ad,_,rfl,PN,.of F6,by rw[GE];exact fe,cm,jx,λ⟨x,bp,bv⟩=>absurd (qY x bp) bv,λ_ u H23 hu pm F7=>?_⟩;rw[F0] at F7;have yN:=uo.trans (up.trans pm);nofun;refine Rd.Znc (eV.ints (SqL.of (pm _ _ F6))) (eV.ints (SqL.of (pm _ _ (up _ _ F5)))) (iM _) (iM _) (np _) ?_;rw[V9,decide_eq_true rfl];nofun;refine⟨b,fP,u,bs,ls,rs',_,Py,rfl,yN _ _ FK,FL.keep (λb xs e=>yN _ _ e),by omega,.of (yN _ _ yB),ug,by omega,by rw[kW];exact cf,F7,rZ,rX,Pz,λTV tU=>?_⟩;have uq:=up.trans (pm.trans tU);have TW:=uq.seqT F4;have PP:=bw.same (uo.trans uq);nofun;refine⟨j,r,jm,ad,_,rfl,PP,.of (uq _ _ yM),by rw[GE];exact jr,cm,jx,λ⟨x,bp,bv⟩=>absurd (PL x bp) bv,λ_ mP H25 lS t5 F8=>?_⟩;rw[F0] at F8;have yO:=uo.trans (uq.trans t5);nofun;refine⟨b,fP,mP,bs,ls,rs',_,PB,rfl,yO _ _ FK,FL.keep (λb xs e=>yO _ _ e),by omega,.of (yO _ _ yB),ug,by omega,by rw[kW];exact cf,F8,rZ,PD,PF,λTX TY=>?_⟩;nofun;exact k _
theorem walk{l:PySem.W.OpenLaw}{q:Program}{ox:List Str}{oy:(Str->Option Value)->Heap->Prop}{mb:World->Heap->Prop}{d:DefRec}{K:Params->Frag}(bH:l.most=some 63)(jb:d.params.defaults=[])(ph:d.name="law")
  (p9:∀(w:World)(h:Heap),mb w h->(K w.params).In h)
  (F:∀(w:World)(mg:Str->Option Value)(h:Heap),(K w.params).In h->h.Ns mainGlobals mg->∃T:Tp (K w.params) mg,True):
  PySem.W.WalkO q ox oy mb l.row.toRowW d [] (λf vs=>PySem.call f vs):=by
 refine L2.Zm7 (n:=63) (k:=12) (x:="_law_script") (CX:=λw=>CXX l.prog w) (sp:=λw=>Zl8 (K w.params)) bH (by decide) jb ⟨rfl,by decide,by decide⟩ p9 (λw mg ih h eO G oz=>?_) (λ_ _ a ns ag _ dx=>⟨a,ns,rfl,dx,ag,λ_=>rfl⟩) ?_
 .obtain⟨T,_⟩:=F w mg h eO G;rw[ph,T.aP.m] at oz;cases oz;exact⟨T.aP.d,T.aQ,λbase _ _=>Znz T⟩
 .intro w H s e s' z;obtain⟨_,_,_,_,_,_,_,_,_,_,_,_,_,z⟩:=z;exact z
end Nm
namespace PySem.W.Fast
def tw10631496308173316296:=Nat
def tw9354064445403404191:=Nat
def tw16442510179148605323:=Nat
def tw16101812305397771384:=Nat
def tw1288730133138136267:=Nat
def tw1509950255949144506:=Nat
def tw6583782440691251253:=Nat
def tw162379401602811727:=Nat
def tw15222618355539127575:=Nat
def tw1492605959866172040:=Nat
def tw15340890205126194014:=Nat
def tw7878805564637848932:=Nat
def tw7171278341761623705:=Nat
def tw14526238872405806794:=Nat
def tw16673208294985409788:=Nat
def tw8125004498462763879:=Nat
def tw7640238647005338720:=Nat
def tw14435795314134397252:=Nat
def tw6062461923084300523:=Nat
def tw3549638603001809292:=Nat
def tw2595854281172327304:=Nat
def tw6549949785681500654:=Nat
def tw1933201180844106497:=Nat
def tw16707242517946668049:=Nat
def tw3367647959043841331:=Nat
def tw11313929515518793032:=Nat
def tw4293166161562269102:=Nat
def tw17797943386707184655:=Nat
def tw2078000566217450145:=Nat
def tw15364833580672801923:=Nat
def tw13744063855823492810:=Nat
def tw9103695721592061245:=Nat
def tw16282647383270419631:=Nat
def tw2594621234213105811:=Nat
def tw4277101027965836383:=Nat
def tw17090207297769047769:=Nat
def tw2486449413325841173:=Nat
def tw9192779516823539223:=Nat
def tw6392278952468272715:=Nat
def tw14812394912258381317:=Nat
def tw13923443708148025738:=Nat
def tw8324532491053524374:=Nat
def tw10953058634175026424:=Nat
def tw10589885072514727393:=Nat
def tw1182630202316197418:=Nat
def tw7987770957701470799:=Nat
def tw14013660054766788386:=Nat
def tw17983323775709016453:=Nat
def tw2414207458365127670:=Nat
def tw13297199598969962924:=Nat
def tw3913243749896534686:=Nat
def tw9563289182731579677:=Nat
def tw18084814571439529566:=Nat
def tw12836337997749305446:=Nat
def tw3614575137351202691:=Nat
def tw5214671300626811786:=Nat
def tw8326470544973998181:=Nat
def tw16414948941593858297:=Nat
def tw5280324375483815478:=Nat
def tw8124393904107558025:=Nat
def tw7076175990489355861:=Nat
def tw2117849118214582636:=Nat
def tw2343696843017624197:=Nat
def tw3720564717792952360:=Nat
def tw9998186328110351308:=Nat
def tw6622150886067040853:=Nat
def tw16389600865290162699:=Nat
def tw716516715521110055:=Nat
def tw17753647717187952899:=Nat
def tw7504969923280151350:=Nat
def tw17971104248044756950:=Nat
def tw9532297192028369112:=Nat
def tw15946074691413124104:=Nat
def tw9721904161172078653:=Nat
def tw2395780474963825166:=Nat
def tw1802151359288823482:=Nat
def tw7851539718121492126:=Nat
def tw2038326968220547410:=Nat
def tw5544189434194402697:=Nat
def tw4714826049008067277:=Nat
def tw4893045386477061910:=Nat
def tw10557507538771605729:=Nat
def tw13228598954509477745:=Nat
def tw1420839268683751114:=Nat
def tw17529426825620099533:=Nat
def tw16068556041634777397:=Nat
def tw15644518680750459691:=Nat
def tw5409151763742458944:=Nat
def tw13385927144094568814:=Nat
def tw9715534357056563698:=Nat
def tw2270709176744182207:=Nat
def tw13919468199753469351:=Nat
def tw6975616468718276315:=Nat
def tw688894024747037308:=Nat
def tw13961477158092294597:=Nat
def tw17507274061397947422:=Nat
def tw1491595626422130933:=Nat
def tw2364654366735348803:=Nat
def tw10297167799543881170:=Nat
def tw5133349091873314514:=Nat
def tw8864304012148113727:=Nat
def tw11513467317777449006:=Nat
def tw254165120871523751:=Nat
def tw3053858584213233278:=Nat
def tw9322176686082680113:=Nat
def tw13490124232079966588:=Nat
def tw12770551634547345576:=Nat
def tw8844974616497123078:=Nat
def tw10918880662596245238:=Nat
def tw7085515370319654630:=Nat
def tw16506327708561936488:=Nat
def tw1442952032083826495:=Nat
def tw3161964357658103327:=Nat
def tw6720363639170094403:=Nat
def tw13848939141659782532:=Nat
def tw1832993534532413560:=Nat
def tw17110638195505655784:=Nat
def tw12237186909122621475:=Nat
def tw16076639145827968097:=Nat
def tw1907922346103347249:=Nat
def tw11713768091655931430:=Nat
def tw5138310347390952118:=Nat
def tw6925465735752534648:=Nat
def tw15539999294987882541:=Nat
def tw10980569572261252249:=Nat
def tw7287945622225096019:=Nat
def tw5226577453414925201:=Nat
def tw8723335012128394146:=Nat
def tw16418629097417790259:=Nat
def tw12643403670177975603:=Nat
def tw14669490338728202262:=Nat
def tw10367190443465150892:=Nat
def tw149900254292997115:=Nat
def tw3201874764313436612:=Nat
def tw7260561159689609194:=Nat
def tw10438821925948632706:=Nat
def tw6775393643047783675:=Nat
def tw14258319512974221500:=Nat
def tw9035511939088614666:=Nat
def tw17120978781331003872:=Nat
def tw8734006076561439695:=Nat
def tw5683469667082975446:=Nat
def tw9165959319156368231:=Nat
def tw14625344322801353184:=Nat
def tw4496773681393830957:=Nat
def tw11704072009500736868:=Nat
def tw11087775564064794819:=Nat
def tw12998080499812398211:=Nat
def tw12509639184089105338:=Nat
def tw2474580918071223738:=Nat
def tw13778997505441905853:=Nat
def tw11875886673505713144:=Nat
def tw16815597921054146234:=Nat
def tw11827282447678964473:=Nat
def tw6736376147403609711:=Nat
def tw5080933921555016321:=Nat
def tw8576570241743452755:=Nat
def tw4059504823227465381:=Nat
def tw15586008282797305273:=Nat
def tw1768859970021472048:=Nat
def tw10017467515368367395:=Nat
def tw9255586442644830973:=Nat
def tw17816549018299349742:=Nat
def tw11069494986748196865:=Nat
def tw2000894823316040517:=Nat
def tw4561978867562514302:=Nat
def tw1176808073085308986:=Nat
def tw3884135330646957545:=Nat
def tw14838883573989374759:=Nat
def tw11203668160968209677:=Nat
def tw7405711819556784593:=Nat
def tw8838401838022499758:=Nat
def tw9631360262922032841:=Nat
def tw3240168012307828605:=Nat
def tw603060565805358044:=Nat
def tw13720341701066373215:=Nat
def tw15159628536183028493:=Nat
def tw4386604426569899146:=Nat
def tw10097020651738053922:=Nat
def tw7563071079132626904:=Nat
def tw1364896326800543210:=Nat
def tw8480811264431593495:=Nat
def tw9753527182136113738:=Nat
def tw16506566693455953179:=Nat
def tw10106047943344859771:=Nat
def tw424376322163347222:=Nat
def tw1808094654461728679:=Nat
def tw6817366332125910447:=Nat
def tw4080291157830295187:=Nat
def tw15361017992823820649:=Nat
def tw66872817900994041:=Nat
def tw11101573604429309572:=Nat
def tw6214790777945094792:=Nat
def tw11612372918498170795:=Nat
def tw8758115116135539818:=Nat
def tw468443809484111158:=Nat
def tw16576923328595101903:=Nat
def tw3408567976376299770:=Nat
def tw12369860912805421779:=Nat
def tw15463865422793722898:=Nat
def tw7836598458519760458:=Nat
def tw17585137497294327724:=Nat
def tw7146462679061012339:=Nat
def tw8554941447212643103:=Nat
def tw16784845510924292301:=Nat
def tw8209418572271492589:=Nat
def tw17715889708411168810:=Nat
def tw8741468156070889673:=Nat
def tw11936069698484749137:=Nat
def tw14038309993506937791:=Nat
def tw12981099301463897121:=Nat
def tw7457857097787402941:=Nat
def tw4343733322287777985:=Nat
def tw5223886195310325330:=Nat
def tw10628630316164109150:=Nat
def tw4079463247325813115:=Nat
def tw1937710428501593517:=Nat
def tw2999459332320342693:=Nat
def tw12096167619820287834:=Nat
def tw15996710699796804090:=Nat
def tw2779154733779752241:=Nat
def tw14431176329934506228:=Nat
def tw13015904092715913578:=Nat
def tw11675389921151414895:=Nat
def tw10769104946405085482:=Nat
def tw7743588956299702058:=Nat
def tw11295571152970245562:=Nat
def tw8761597718001043604:=Nat
def tw803521853914344923:=Nat
def tw5252190049306284290:=Nat
def tw4090758350564840432:=Nat
def tw8594609670442085038:=Nat
def tw11599493590765774474:=Nat
def tw17192471874160101673:=Nat
def tw7828757054536738752:=Nat
def tw9233813595968680231:=Nat
def tw15714588467468956730:=Nat
def tw10796402173950806684:=Nat
def tw3263805633422087577:=Nat
def tw3952831261278165109:=Nat
def tw59446438494862364:=Nat
def tw6777293001999718430:=Nat
def tw4320036885047707540:=Nat
def tw16303513472336778434:=Nat
def tw16448713085564495175:=Nat
def tw536645907688318066:=Nat
def tw9126595409333524734:=Nat
def tw7495426949369435761:=Nat
def tw4362354366141998086:=Nat
def tw16430797393274849548:=Nat
def tw10719470705967747673:=Nat
def tw14011693027328236011:=Nat
def tw15044833433510526065:=Nat
def tw9718630789485285383:=Nat
def tw942604867692968748:=Nat
def tw10625215922441071916:=Nat
def tw5928301641295788490:=Nat
def tw7119689446978281181:=Nat
def tw17125247996389189619:=Nat
def tw5946246863304482678:=Nat
def tw1016107679322681040:=Nat
def tw15996932734280454041:=Nat
def tw13580068248585087891:=Nat
def tw9205112417777295867:=Nat
def tw10021643208458790841:=Nat
def tw8302466229761683517:=Nat
def tw18310858185771942675:=Nat
def tw9506195872645378560:=Nat
def tw12452895671634920326:=Nat
def tw4591719532376547045:=Nat
def tw937815965526657143:=Nat
def tw13818211389653473779:=Nat
def tw3909857409962760749:=Nat
def tw7635119200786493391:=Nat
def tw7711271074075545922:=Nat
def tw10612094140982090374:=Nat
def tw7095778864969856940:=Nat
def tw2740046099586655288:=Nat
def tw2961517897261462467:=Nat
def tw4611524533345562000:=Nat
def tw4157741993268912203:=Nat
def tw3169461419552715266:=Nat
def tw16622537118345584284:=Nat
def tw17035580027283993691:=Nat
def tw7281613778050526429:=Nat
def tw12271641099093317561:=Nat
def tw7838674284692711709:=Nat
def tw18284073010937487645:=Nat
def tw13215264680889270223:=Nat
def tw15225869496904033997:=Nat
def tw12527936951695740711:=Nat
def tw8304648884213812903:=Nat
def tw5377212791523209226:=Nat
def tw17144250884018822547:=Nat
def tw136128430068754088:=Nat
def tw4526171387132325995:=Nat
def tw11275678370369551438:=Nat
def tw316002362989915012:=Nat
def tw8399760887806160639:=Nat
def tw7553082563733472355:=Nat
def tw9223569146088339232:=Nat
end PySem.W.Fast
open PySem PySem.W PyProof.Rows
local macro_rules| `(tactic|walk_at "dn")=>`(tactic|(refine' L2.Dn.of (by assumption) (by assumption) ?a ?l ?c ?k ?b;(case a=>k_is);(case l=>k_is);(case c=>k_is);(case k=>k_is);(case b=>(repeat refine L2.lenS λ_=>?_);exact L2.Zk1 λ_ _ _ _ _ _=>rfl)))
local macro_rules| `(tactic|walk_at "dm")=>`(tactic|(refine' L2.Dm.of ?a ?i ?l ?c ?k ?b;(case a=>k_is);(case i=>k_is);(case l=>k_is);(case c=>k_is);(case k=>k_is);(case b=>(repeat refine L2.lenS λ_=>?_);exact L2.Zk1 λ_ _ _ _ _ _=>rfl)))
local macro_rules| `(tactic|walk_at "di")=>`(tactic|(refine' L2.Di.of ?z ?y ?a ?i ?l ?c ?k ?b;(case z=>k_is);(case y=>k_is);(case a=>k_is);(case i=>k_is);(case l=>k_is);(case c=>k_is);(case k=>k_is);(case b=>(repeat refine L2.lenS λ_=>?_);exact L2.Zk1 λ_ _ _ _ _ _=>rfl)))
local macro_rules| `(tactic|walk_at "na")=>`(tactic|((repeat refine L2.ZmH (by k_is) ?_);exact L2.ZnE))
local macro_rules| `(tactic|walk_at "ex")=>`(tactic|(refine' ⟨?g,mg_of (by assumption) (by assumption) ?m,?e⟩;(case g=>k_is);(case m=>k_is);(case e=>k_exc)))
set_option maxRecDepth 100000 in
set_option maxHeartbeats 0 in
theorem PySem.Challenge.cw_ratehall_k24_whole_round_unfolded_holds : PySem.Challenge.rw_ratehall_k24_whole_round_unfolded.Holds := by
 w_on;o_law;k_head;(case hw=>w_witness2)
 k_fill
 refine Nm.walk (l:=PySem.Challenge.rw_ratehall_k24_whole_round_unfolded) rfl rfl rfl (λw h Y=>kIn_of Y) ?F
 case F=>
  intro w mg h eO G
  refine' ⟨Nm.Tp.mk (mg_of eO G ?PQ) ⟨?PR,?PU,?PV,?PX⟩ ?PY (mg_of eO G ?PZ) ⟨?P0,?P1,?P2,?P4⟩ ?P5 (mg_of eO G ?P6) ⟨?P7,?P8,?P9,?P_⟩ ?P' ?Qa ?Qb ?Qc ?Qd ?Qe ?Qf ?Qg ?Qh ?Qi ?Qj ?Qk ?Ql ?Qm ⟨?Qn,?Qo,?Qp⟩ (L2.ZmT ?Qq ?Qr ?Qs) (L2.ZnJ ?Qt) ?Qu ?Qv (.cons ⟨_,rfl⟩ .nil) ?Qw ?Qx ?Qy ?Qz ?QA ?QB ?QC ?QD ?QE ?QF ?QG ?QH ?QI ?QJ ?QK ?QL ?QM ?QN ?QO ?QP ?QQ ?QR ?QS ?QT ?QU ?QV ?QW ?QX ?QY ?QZ ?Q0 ?Q1 ?Q2 ?Q3 ?Q4 ?Q5 ?Q6 ?Q7 ?Q8 ?Q9 ?Q_ ?Q' ?Ra ?Rb ?Rc ?Re ?Rf ?Rg ?Rh ?Ri ?Rj ?Rk ?Rl ?Rm ?Rn (mg_none_of eO G ?Ro) (mg_none_of eO G ?Rp) (mg_none_of eO G ?Rq) (mg_none_of eO G ?Rr) (mg_none_of eO G ?Rs) (mg_none_of eO G ?Rt) (mg_none_of eO G ?Ru) (mg_none_of eO G ?Rv) (mg_none_of eO G ?Rw) (mg_none_of eO G ?Rx) (mg_none_of eO G ?Ry) (mg_none_of eO G ?Rz) (mg_none_of eO G ?RA) (mg_none_of eO G ?RB) (mg_none_of eO G ?RC) ?RD ?RE ?RF ?RG ?RH ?RI ?RJ ?RK ?RL ?RM (mg_of eO G ?RN) (mg_of eO G ?RO) (mg_of eO G ?RP) (mg_of eO G ?RQ) ?RS,trivial⟩
  case PQ|PR|PU|PV|PX=>k_is
  case PY=>walk_at "na"
  case PZ|P0|P1|P2|P4=>k_is
  case P5=>walk_at "na"
  case P6|P7|P8|P9|P_=>k_is
  case P'=>walk_at "na"
  case Qa|Qb|Qc|Qd|Qe|Qf=>walk_at "dn"
  case Qg=>walk_at "dm"
  case Qh|Qi|Qj|Qk=>walk_at "dn"
  case Ql|Qm=>walk_at "dm"
  case Qn|Qo|Qp|Qq|Qr|Qs|Qt=>k_is
  case Qu=>exact λs us X ag=>(match us,(show us.length=6 by simpa using ag) with| [_,_,_,_,_,_],_=>binds_K X rfl (by k_is) rfl rfl rfl)
  case Qv=>exact λs us X ag=>(match us,(show us.length=5 by simpa using ag) with| [_,_,_,_,_],_=>binds_K X rfl (by k_is) rfl rfl rfl)
  case Qw=>walk_at "di"
  case Qx|Qy|Qz|QA=>walk_at "dn"
  case QB=>walk_at "dm"
  case QC=>walk_at "dn"
  case QD=>walk_at "dm"
  case QE|QF|QG|QH|QI|QJ|QK=>walk_at "dn"
  case QL|QM=>walk_at "dm"
  case QN|QO|QP|QQ|QR|QS|QT|QU|QV|QW=>walk_at "dn"
  case QX|QY|QZ|Q0|Q1=>walk_at "dm"
  case Q2=>walk_at "dn"
  case Q3=>walk_at "dm"
  case Q4|Q5=>walk_at "dn"
  case Q6=>walk_at "di"
  case Q7|Q8|Q9=>walk_at "dn"
  case Q_|Q'|Ra=>walk_at "dm"
  case Rb|Rc|Re=>walk_at "dn"
  case Rf=>walk_at "dm"
  case Rg|Rh|Ri|Rj|Rk|Rl=>walk_at "dn"
  case Rm=>walk_at "di"
  case Rn=>walk_at "dn"
  case Ro|Rp|Rq|Rr|Rs|Rt|Ru|Rv|Rw|Rx|Ry|Rz|RA|RB|RC=>k_is
  case RD|RE|RF|RG|RH|RI|RJ|RK|RL=>walk_at "ex"
  case RM=>kts_exm
  case RN|RO|RP|RQ=>k_is
  case RS=>exact λs v=> .of_eq rfl
#print axioms PySem.Challenge.cw_ratehall_k24_whole_round_unfolded_holds
