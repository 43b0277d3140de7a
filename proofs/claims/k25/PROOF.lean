import PyProof.Rows.All
import Wide.All
import OpenK.AllK
import Wide.FinOn
import Lean
import PyProof.EqAt
import PyProof.EqKinds
import PyProof.TupleCall
import PyProof.FactsAll.set
import PySem.Challenge.RW_ratehall_k25_groups_refused
set_option maxHeartbeats 4000000
set_option compiler.extract_closed false
set_option bootstrap.genMatcherCode false
local macro_rules| `(tactic|omega)=>`(tactic|with_reducible first|exact qaS _|lia|fail)
set_option Elab.async false
set_option linter.all false
set_option maxRecDepth 100000
open PySem.W (instObj methodObj hideAll hideAll_get of_hideAll lookIn plainGet hasDictIn handedIn plainGet_of isFn plainOver takerIn makesIn typeIn emptyDict keepIn methodCall_KW kitx_list kitx_dict callWith_K callWith_K0 cellsFrom_some fnOf codeIn codeRec_of nsIn excIn mg_of kdl_call exmOne kIn_of mg_none_of binds_K)
abbrev GE:=@List.length_map
abbrev GM:=@List.getElem?_eq_some_iff
abbrev GT:=@List.getElem?_eq_getElem
abbrev fm:=@Nat.le_refl
abbrev FM:=@List.mem_singleton
abbrev qaa:=@List.getElem_mem
abbrev qab:=@Int.toNat_natCast
abbrev qac:=@List.take_succ_eq_append_getElem
abbrev qad:=@List.mem_cons
abbrev qae:=@List.size_toArray
abbrev qaf:=@Nat.lt_of_lt_of_le
abbrev qag:=@Bool.false_ne_true
abbrev qah:=@List.mem_map
abbrev qai:=@Nat.ne_of_lt
abbrev qaj:=@List.getElem?_map
abbrev qak:=@PySem.F.plainAttrs_list
abbrev qal:=@List.mem_of_getElem?
abbrev qam:=@Option.some.inj
abbrev qan:=@PyProof.Rows.boot_isinstance
abbrev qao:=@List.mem_range
abbrev qap:=@List.length_append
abbrev qaq:=@PySem.F.excBase_ValueError
abbrev qar:=@List.mem_append_right
abbrev qas:=@PySem.boot_len
abbrev qat:=@Nat.le_trans
abbrev qau:=@List.mem_cons_of_mem
abbrev qav:=@Nat.zero_le
abbrev qaw:=@List.getElem_of_mem
abbrev qax:=@List.mem_append
abbrev qay:=@List.ext_getElem
abbrev qaz:=@List.filter_eq_self
abbrev qaA:=@Nat.pow_le_pow_right
abbrev qaB:=@List.take_length
abbrev qaC:=@PySem.F.slot_list_append
abbrev qaD:=@PySem.F.type_list_append
abbrev qaE:=@Array.length_toList
abbrev qaF:=@List.mem_filter
abbrev qaG:=@List.map_append
abbrev qaH:=@List.nodup_iff_pairwise_ne
abbrev qaI:=@List.length_take
abbrev qaJ:=@Int.eq_ofNat_of_zero_le
abbrev qaK:=@Nat.lt_of_le_of_lt
abbrev qaL:=@Array.getElem?_eq_getElem
abbrev qaM:=@Nat.lt_succ_of_lt
abbrev qaN:=@List.getD_eq_getElem?_getD
abbrev qaO:=@Nat.le_of_ble_eq_true
abbrev qaP:=@List.getElem?_eq_none
abbrev qaQ:=@Bool.and_eq_true
abbrev qaR:=@List.not_mem_nil
abbrev qaS:=@Int.natCast_nonneg
abbrev qaT:=@PyProof.Rows.callWith_type1
abbrev qaU:=@List.length_filter_le
abbrev qaV:=@List.getElem?_append_right
abbrev qaW:=@List.getElem?_append_left
abbrev qaX:=@Nat.le_of_lt
abbrev qaY:=@List.mem_cons_self
abbrev qaZ:=@List.take_of_length_le
abbrev qa0:=@Nat.not_lt_zero
abbrev qa1:=@List.lookup_cons
abbrev qa2:=@Nat.mul_assoc
abbrev qa3:=@List.length_replicate
abbrev qa4:=@List.nodup_append
abbrev qa5:=@List.mem_append_left
abbrev qa6:=@List.getElem?_of_mem
abbrev qa7:=@PySem.W.kia_one
abbrev qa8:=@List.append_nil
abbrev qa9:=@Nat.lt_succ_self
abbrev qba:=@PyProof.Rows.boot_list
abbrev qbb:=@List.pairwise_iff_getElem
abbrev qbc:=@Int.toNat_of_nonneg
abbrev qbd:=@Array.getElem?_toList
abbrev qbe:=@Nat.lt_irrefl
abbrev qbf:=@PySem.F.slot_dict_values
abbrev qbg:=@Nat.lt_succ_iff_lt_or_eq
abbrev qbh:=@List.map_map
abbrev qbi:=@Nat.div_le_self
abbrev qbj:=@Nat.eq_zero_or_pos
abbrev qbk:=@PySem.F.plainAttrs_dict
abbrev qbl:=@List.all_eq_true
abbrev qbm:=@List.mem_iff_getElem
abbrev qbn:=@List.getElem?_set_self
abbrev qbo:=@Nat.mul_comm
abbrev qbp:=@Nat.gcd_dvd_right
abbrev qbq:=@Nat.mul_left_comm
abbrev qbr:=@Bool.eq_iff_iff
abbrev qbs:=@List.nodup_cons
abbrev qbt:=@List.find?_cons
abbrev qbu:=@PyProof.Rows.callWith_builtin1
abbrev qbv:=@Nat.div_mul_cancel
abbrev qbw:=@Nat.lt_or_ge
abbrev qbx:=@List.getElem?_set_ne
abbrev qby:=@List.mem_of_mem_drop
abbrev qbz:=@PySem.F.slot_list_index
abbrev qbA:=@PySem.F.type_list_index
abbrev qbB:=@PySem.mem_of_lookup
abbrev qbC:=@List.replicate_succ
abbrev qbD:=@List.length_drop
abbrev qbE:=@List.take_append_drop
abbrev qbF:=@Nat.eq_of_mul_eq_mul_left
abbrev qbG:=@Classical.byContradiction
abbrev qbH:=@List.range_succ
abbrev qbI:=@Int.natCast_mul
abbrev qbJ:=@List.reverse_cons
abbrev qbK:=@List.pairwise_map
abbrev qbL:=@List.length_range
abbrev qbM:=@Option.isSome_iff_exists
abbrev qbN:=@Int.mul_assoc
abbrev qbO:=@PyProof.Rows.slot_tuple_getitem
abbrev qbP:=@Ne.symm
abbrev qbQ:=@PySem.evalArgs_none
abbrev qbR:=@List.any_eq_true
abbrev qbS:=@Nat.gcd_dvd_left
abbrev qbT:=@List.getElem_map
abbrev qbU:=@Sum.inl.inj
abbrev qbV:=@Nat.mul_pos
abbrev qbW:=@Int.zero_add
abbrev qbX:=@Int.mul_comm
abbrev qbY:=@List.length_set
abbrev qbZ:=@Nat.le_of_dvd
abbrev qb0:=@PyProof.Rows.boot_min
abbrev qb1:=@Int.fmod_eq_emod_of_nonneg
abbrev qb2:=@Nat.le_succ
abbrev qb3:=@PySem.F.args_dict_values_1
abbrev qb4:=@List.getElem_inj
abbrev qb5:=@PySem.F.entry_dict_values
abbrev qb6:=@Nat.mul_le_mul_left
abbrev qb7:=@PySem.F.type_dict_values
abbrev qb8:=@Bool.not_true
abbrev qb9:=@Nat.dvd_trans
abbrev qca:=@Nat.gcd_pos_of_pos_right
abbrev qcb:=@Bool.false_eq_true
abbrev qcc:=@List.filter_append
abbrev qcd:=@Int.natAbs_natCast
abbrev qce:=@Nat.log2_lt
abbrev qcf:=@Nat.gcd_pos_of_pos_left
abbrev qcg:=@Nat.ne_of_gt
abbrev qch:=@List.flatten_cons
abbrev qci:=@List.getElem_take
abbrev qcj:=@List.map_set
abbrev qck:=@List.length_pos_of_mem
abbrev qcl:=@Int.mul_left_comm
abbrev qcm:=@List.all_cons
abbrev qcn:=@List.any_cons
abbrev qco:=@List.sum_cons
open PySem.W (Frag)
namespace L2
open PySem PySem.Spec PyProof.Rows
noncomputable abbrev Key:=Sum Int Str
noncomputable def n4:Key→Value→Bool
 | .inl k,v=>Value.isInt k v
 | .inr x,v=>Value.isStrOf x v
noncomputable def ZoJ (w:World):Key→Int
 | .inl k=>hashInt k
 | .inr x=>hashStr w x
theorem k4:∀{k:Key}{v:Value},n4 k v=true→(∃i t,k=Sum.inl i∧v=Value.int i t)∨(∃x t,k=Sum.inr x∧v=Value.str x t)
 | .inl i,v,h=>by
  obtain⟨t,e⟩:=Value.isInt_shape (k:=i) (v:=v) h;exact .inl ⟨i,t,rfl,e⟩
 | .inr x,v,h=>by
  obtain⟨t,e⟩:=Value.isStrOf_shape (x:=x) (v:=v) h;exact .inr ⟨x,t,rfl,e⟩
theorem ZiU(i:Int)(t:Tok):n4 (.inl i) (.int i t)=true:=by simp[n4,Value.isInt]
theorem Zi1(x:Str)(t:Tok):n4 (.inr x) (.str x t)=true:=by simp[n4,Value.isStrOf]
theorem Znh(a b:Int):decide ((Sum.inl a:Key)=Sum.inl b)=(a==b):=by
 by_cases e:a=b
 ·subst e;simp
 ·have h:¬(Sum.inl a:Key)=Sum.inl b:=λq=>e (qbU q);rw[decide_eq_false h];exact(beq_eq_false_iff_ne.mpr e).symm
theorem Zmw(a b:Str):decide ((Sum.inr a:Key)=Sum.inr b)=decide (a=b):=by
 by_cases e:a=b
 ·subst e;simp
 ·have h:¬(Sum.inr a:Key)=Sum.inr b:=λq=>e (Sum.inr.inj q);rw[decide_eq_false h,decide_eq_false e]
theorem Znp(a:Int)(b:Str):decide ((Sum.inl a:Key)=Sum.inr b)=false:=decide_eq_false (λq=>nomatch q)
theorem ZmX(a:Str)(b:Int):decide ((Sum.inr a:Key)=Sum.inl b)=false:=decide_eq_false (λq=>nomatch q)
noncomputable def e6 (prog:Program) (w:World):PySem.KeyKind prog w Key where
 is:=n4
 hash:=ZoJ w
 inj:=λv a b bx aN=>by
  rcases k4 bx with⟨i,t,rfl,rfl⟩|⟨x,t,rfl,rfl⟩
  ·rcases k4 aN with⟨j,u,rfl,e⟩|⟨y,u,rfl,e⟩
   ·injection e with bw _;rw[bw]
   ·exact nomatch e
  ·rcases k4 aN with⟨j,u,rfl,e⟩|⟨y,u,rfl,e⟩
   ·exact nomatch e
   ·injection e with bw _;rw[bw]
 byValue:=λk v h=>by
  rcases k4 h with⟨i,t,rfl,rfl⟩|⟨x,t,rfl,rfl⟩<;>rfl
 pyHash:=λcv h=>by
  rcases k4 cv with⟨i,t,rfl,rfl⟩|⟨x,t,rfl,rfl⟩
  ·exact wpAny_pyHash_int h
  ·exact wpAny_pyHash_str h
 eqBool:=λhu cv h=>by
  rcases k4 hu with⟨i,t,rfl,rfl⟩|⟨x,t,rfl,rfl⟩
  ·rcases k4 cv with⟨j,u,rfl,rfl⟩|⟨y,u,rfl,rfl⟩
   ·rw[Znh] at h;exact wpAny_eqBool_int h
   ·rw[Znp] at h;exact SeqAt.EqAt.int_str i t y u _ _ _ _ h
  ·rcases k4 cv with⟨j,u,rfl,rfl⟩|⟨y,u,rfl,rfl⟩
   ·rw[ZmX] at h;exact SeqAt.EqAt.str_int x t j u _ _ _ _ h
   ·rw[Zmw] at h;exact wpAny_eqBool_str h
 «strs»:=λk x t v h=>by
  rcases k4 h with⟨i,u,rfl,e⟩|⟨y,u,rfl,e⟩
  ·exact nomatch e
  ·injection e with bw _
   subst bw;cases v<;>rfl
theorem ZgD(prog:Program)(w:World)(i:Int)(t:Tok):(e6 prog w).is (.inl i) (.int i t)=true:=ZiU i t
theorem Zg0(prog:Program)(w:World)(x:Str)(t:Tok):(e6 prog w).is (.inr x) (.str x t)=true:=Zi1 x t
inductive V where
 |non|bl (b:Bool)|int (i:Int)|str (x:Str)|byt (b:Array UInt8)|flt (b:UInt64)|ref (a:Addr)|ty (n:String)
 deriving DecidableEq
noncomputable def dq:V→Value→Prop
 | .non,u=>u=Value.none
 | .bl b,u=>u=Value.bool b
 | .int i,u=>∃t,u=Value.int i t
 | .str x,u=>∃t,u=Value.str x t
 | .byt b,u=>∃t,u=Value.bytes b t
 | .flt b,u=>∃t,u=Value.float b t
 | .ref a,u=>u=Value.ref a
 | .ty n,u=>u=Value.type n
noncomputable abbrev dm:List V→List Value→Prop:=Paired dq
theorem dm.length{xs:List V}{us:List Value}(r:dm xs us):xs.length=us.length:=Paired.length r
theorem dm.get:∀{xs:List V}{us:List Value}{i:Nat}{x:V},dm xs us→xs[i]? =some x→∃u,us[i]? =some u∧dq x u
 |_,_,_,_,.nil,e=>by simp at e
 |_,_,0,_,.cons r _,e=>by simp at e;subst e;exact⟨_,rfl,r⟩
 |_,_,i+1,x,.cons _ t,e=>by
  obtain⟨u,aS,a2⟩:=dm.get (i:=i) (x:=x) t (by simpa using e);exact⟨u,by simpa using aS,a2⟩
theorem dm.set{x:V}{u:Value}(r:dq x u):∀{xs:List V}{us:List Value}(i:Nat),dm xs us→dm (xs.set i x) (us.set i u)
 |_,_,_,.nil=> .nil
 |_,_,0,.cons _ t=> .cons r t
 |_,_,i+1,.cons q t=> .cons q (dm.set r i t)
theorem dm.append:∀{xs ys:List V}{us bW:List Value},dm xs us→dm ys bW→dm (xs++ys) (us++bW)
 |_,_,_,_,.nil,s=>s
 |_,_,_,_,.cons r t,s=> .cons r (dm.append t s)
theorem dm.take:∀{xs:List V}{us:List Value}(n:Nat),dm xs us→dm (xs.take n) (us.take n)
 |_,_,0,_=> .nil
 |_,_,_+1,.nil=> .nil
 |_,_,n+1,.cons r t=> .cons r (dm.take n t)
theorem dm.drop:∀{xs:List V}{us:List Value}(n:Nat),dm xs us→dm (xs.drop n) (us.drop n)
 |_,_,0,r=>r
 |_,_,_+1,.nil=> .nil
 |_,_,n+1,.cons _ t=>dm.drop n t
noncomputable def hC:Option V→Option Value→Prop
 |some v,some u=>dq v u
 |none,none=>True
 |_,_=>False
noncomputable def KV {eu:Type}:List (eu×V)→List (eu×Value)→Prop:=Paired λ(p:eu×V) (q:eu×Value)=>p.1=q.1∧dq p.2 q.2
noncomputable def kV:Key→V
 | .inl i=> .int i
 | .inr x=> .str x
inductive HO where
 |lst (xs:List V)
 |tup (xs:List V)
 |dK (kvs:List (Key×V))|dT (kvs:List (List Key×V))
 |set (S:Int→Bool) (n:Nat)
 |ins (C a_:Addr) (fs:List (Str×V))
 |own (x:Addr)
 |xd (fs:List (Str×V))
 |met (f x:Addr)
 |rng (lo hi:Int)
 |frz (o:Obj) (u:HO)
 |tbl (ps:Array Value)
 |ext (mV:Heap→Prop)
noncomputable abbrev Hp:=Addr→Option HO
noncomputable def upd (H:Hp) (a:Addr) (o:HO):Hp:=λb=>if b=a then some o else H b
theorem Zd{H:Hp}{a:Addr}{o:HO}:upd H a o a=some o:=by unfold upd;rw[if_pos rfl]
theorem b2{H:Hp}{a b:Addr}{o:HO}(h:b≠a):upd H a o b=H b:=by unfold upd;rw[if_neg h]
theorem gT{H:Hp}{a b:Addr}{o u:HO}(h:H a=some o)(h':H b=some u)(d:o≠u):a≠b:=by
 intro e;subst e;rw[h] at h';exact d (qam h')
theorem d9{H:Hp}{a b:Addr}{o:HO}(h:H a=some o)(h':H b=none):a≠b:=by
 intro e;subst e;rw[h] at h';cases h'
section
variable (P:Program)(w:World)
noncomputable def ZP (H:Hp) (h:Heap) (a:Addr):HO→Prop
 | .lst xs=>xs.length≤sizeLine∧∃(its:List Value)(n:Nat),dm xs its∧h.get? a=some {cls:= .type "list",data:= .seq its.toArray n}
 | .tup xs=>xs.length≤sizeLine∧∃its:List Value,dm xs its∧IsTup h a its.toArray
 | .dK kvs=>kvs.length≤sizeLine∧(a==sysModules)=false∧∃vs,KV kvs vs∧h.DictOf (e6 P w) a vs
 | .dT kvs=>kvs.length≤sizeLine∧(a==sysModules)=false∧∃xs:List (List Key×Addr×Value),
   Paired (λ(p:List Key×V) (q:List Key×Addr×Value)=>p.1=q.1∧H q.2.1=some (.tup (p.1.map kV))∧dq p.2 q.2.2) kvs xs∧
   ∃o a' ep,h.get? a=some o∧o.ExactDict∧o.data= .dict a' ep∧a'.toList=xs.map (entryOfKey (tupleKind (e6 P w)))∧(xs.map (·.1)).Nodup
 | .set S n=>h.SetOf (intKind P w) a S n
 | .ins C a_ fs=>H a_=some (.own a)∧fs.length≤1000∧a_≠a∧h.get? a=some (instObj C a_)∧
   ∃eS,h.Ns1 a_ eS∧(∀f,hC (fs.lookup f) (eS f))∧PySem.Within eS (fs.map (·.1))
 | .own _=>∃o,h.get? a=some o
 | .xd fs=>∃eS,h.Ns1 a eS∧∀f,hC (fs.lookup f) (eS f)
 | .rng lo hi=>∃t u v,h.get? a=some {cls:= .type "range",data:= .fields #[.int lo t,.int hi u,.int 1 v]}
 | .frz o u=>h.get? a=some o∧ZP H h a u
 | .tbl ps=>h.get? a=some {cls:= .none,data:= .fields ps}
 | .met f x=>h.get? a=some (methodObj (.ref f) (.ref x))
 | .ext mV=>mV h∧(∃o,h.get? a=some o)∧∀aS a2:Heap,mV aS→(∀o,aS.get? a=some o→a2.get? a=some o)→mV a2
def HOk(H:Hp)(h:Heap):Prop:=∀a o,H a=some o→ZP P w H h a o
end
section
variable {P:Program}{w:World}{H H':Hp}{h h':Heap}{a:Addr}{o:HO}
theorem ZP.lt(x:ZP P w H h a o):a<h.objs.size:=by
 cases o with
 |lst xs=>obtain⟨_,_,_,_,e⟩:=x;exact Heap.lt_size e
 |tup xs=>obtain⟨_,_,_,p⟩:=x;exact p.lt
 |dK kvs=>obtain⟨_,_,_,_,o,_,_,e,_⟩:=x;exact Heap.lt_size e
 |dT kvs=>obtain⟨_,_,_,_,o,_,_,e,_⟩:=x;exact Heap.lt_size e
 |set S n=>obtain⟨o,_,_,_,e,_⟩:=x;exact Heap.lt_size e
 |ins C a_ fs=>obtain⟨_,_,_,e,_⟩:=x;exact Heap.lt_size e
 |own y=>obtain⟨_,e⟩:=x;exact Heap.lt_size e
 |xd fs=>obtain⟨_,⟨_,_,_,e,_⟩,_⟩:=x;exact Heap.lt_size e
 |rng lo hi=>obtain⟨_,_,_,e⟩:=x;exact Heap.lt_size e
 |frz dz u=>obtain⟨e,_⟩:=x;exact Heap.lt_size e
 |tbl ps=>exact Heap.lt_size (show h.get? a=some _ from x)
 |met f y=>exact Heap.lt_size (show h.get? a=some _ from x)
 |ext mV=>obtain⟨_,⟨_,e⟩,_⟩:=x;exact Heap.lt_size e
theorem Paired.mapP{dA gp:Type}{F G:dA→gp→Prop}:∀{xK:List dA}{l₂:List gp},Paired F xK l₂→(∀a b,F a b→G a b)→Paired G xK l₂
 |_,_,.nil,_=> .nil
 |_,_,.cons r t,f=> .cons (f _ _ r) (Paired.mapP t f)
theorem ZP.stay(x:ZP P w H h a o)(k:∀b u,(b=a∨H b=some (.own a))→h.get? b=some u→h'.get? b=some u)
  (bz:∀b,H b=some (.own a)→H' b=some (.own a)) (ce:∀b xs,H b=some (.tup xs)→H' b=some (.tup xs)):ZP P w H' h' a o:=by
 induction o with
 |lst xs=>obtain⟨z,its,n,r,e⟩:=x;exact⟨z,its,n,r,k _ _ (.inl rfl) e⟩
 |tup xs=>obtain⟨z,its,r,dz,e,c⟩:=x;exact⟨z,its,r,dz,k _ _ (.inl rfl) e,c⟩
 |dK kvs=>obtain⟨z,y,vs,r,dz,a',ep,e,c⟩:=x;exact⟨z,y,vs,r,dz,a',ep,k _ _ (.inl rfl) e,c⟩
 |dT kvs=>
  obtain⟨z,y,xs,r,dz,a',ep,e,c⟩:=x;exact⟨z,y,xs,Paired.mapP r λp q z=>⟨z.1,ce _ _ z.2.1,z.2.2⟩,dz,a',ep,k _ _ (.inl rfl) e,c⟩
 |set S n=>obtain⟨dz,a',ep,t,e,c⟩:=x;exact⟨dz,a',ep,t,k _ _ (.inl rfl) e,c⟩
 |ins C a_ fs=>
  obtain⟨d,z,ne,e,eS,⟨eR,a',ep,bC,c⟩,r⟩:=x;exact⟨bz _ d,z,ne,k _ _ (.inl rfl) e,eS,⟨eR,a',ep,k _ _ (.inr d) bC,c⟩,r⟩
 |own y=>obtain⟨dz,e⟩:=x;exact⟨dz,k _ _ (.inl rfl) e⟩
 |xd fs=>obtain⟨eS,⟨eR,a',ep,e,c⟩,r⟩:=x;exact⟨eS,⟨eR,a',ep,k _ _ (.inl rfl) e,c⟩,r⟩
 |rng lo hi=>obtain⟨t,u,v,e⟩:=x;exact⟨t,u,v,k _ _ (.inl rfl) e⟩
 |frz dz u bP=>obtain⟨e,q⟩:=x;exact⟨k _ _ (.inl rfl) e,bP q⟩
 |tbl ps=>
  have e:h.get? a=some {cls:= .none,data:= .fields ps}:=x;show h'.get? a=some {cls:= .none,data:= .fields ps};exact k a _ (.inl rfl) e
 |met f y=>
  have e:h.get? a=some (methodObj (.ref f) (.ref y)):=x;show h'.get? a=some (methodObj (.ref f) (.ref y));exact k a _ (.inl rfl) e
 |ext mV=>obtain⟨p,⟨o,e⟩,st⟩:=x;exact⟨st _ _ p λo q=>k _ _ (.inl rfl) q,⟨o,k _ _ (.inl rfl) e⟩,st⟩
theorem HOk.lt(x:HOk P w H h)(e:H a=some o):a<h.objs.size:=(x a o e).lt
theorem HOk.fresh(x:HOk P w H h)(e:h.objs.size≤a):H a=none:=by
 cases q:H a with
 |none=>rfl
 |some u=>exact absurd (qaf (x.lt q) e) (qbe _)
theorem HOk.kept(x:HOk P w H h)(k:∀b u,h.get? b=some u→h'.get? b=some u):HOk P w H h':=λa o e=>
 (x a o e).stay (λb u _ q=>k b u q) (λ_ q=>q) λ_ _ q=>q
theorem HOk.laid(x:HOk P w H h)(k:∀b u,h.get? b=some u→h'.get? b=some u)(bb:h.objs.size≤a)(new:ZP P w (upd H a o) h' a o):HOk P w (upd H a o) h':=λb u e=>by
 have bF:=x.fresh bb
 by_cases aN:b=a
 ·subst aN;rw[Zd] at e;cases e;exact new
 ·rw[b2 aN] at e;exact(x b u e).stay (λc v _ q=>k c v q) (λc q=>by rw[b2 (d9 q bF)];exact q) λc xs q=>by rw[b2 (d9 q bF)];exact q
end
def Rd(H:Hp)(a:Addr)(u:HO):Prop:=H a=some u∨∃o,H a=some (.frz o u)
theorem Rd.ok{P:Program}{w:World}{H:Hp}{h:Heap}{a:Addr}{u:HO}(r:Rd H a u)(x:HOk P w H h):ZP P w H h a u:=by
 rcases r with r|⟨o,r⟩
 ·exact x a u r
 ·obtain⟨_,q⟩:=x a _ r;exact q
noncomputable def Mut:Option HO→Prop
 |some (.lst _)=>True
 |some (.dK _)=>True
 |some (.dT _)=>True
 |some (.set _ _)=>True
 |some (.ins _ _ _)=>True
 |some (.ext _)=>True
 |_=>False
section
variable {P:Program}{w:World}{H:Hp}{h h':Heap}{x e:Addr}{c':HO}
theorem HOk.write(ok:HOk P w H h)(iO:Mut (H x))(bD:e=x∨H e=some (.own x))(k:∀b u,b≠e→h.get? b=some u→h'.get? b=some u)(k6:∃u,h'.get? e=some u)
  (new:ZP P w (upd H x c') h' x c'):HOk P w (upd H x c') h':=λb u q=>by
 have xL:∀c y,H c=some (.own y)→c≠x:=λc y r z=>by subst z;rw[r] at iO;exact iO
 have Dh:∀c xs,H c=some (.tup xs)→c≠x:=λc xs r z=>by subst z;rw[r] at iO;exact iO
 by_cases aN:b=x
 ·subst aN;rw[Zd] at q;cases q;exact new
 ·rw[b2 aN] at q
  by_cases k7:b=e
  ·have h5:H b=some (.own x):=by
    rcases bD with z|z
    ·exact absurd (k7.trans z) aN
    ·rw[k7];exact z
   rw[q] at h5;cases h5;obtain⟨v,cv⟩:=k6;exact⟨v,by rw[k7];exact cv⟩
  ·refine(ok b u q).stay (λc v a8 r=>k c v ?_ r) (λc r=>by rw[b2 (xL c b r)];exact r) λc xs r=>by rw[b2 (Dh c xs r)];exact r
   rcases a8 with rfl|a8
   ·exact k7
   ·rintro rfl;rcases bD with z|z
    ·exact xL c b a8 z
    ·rw[a8] at z;cases z;exact aN rfl
end
structure Un(fs ex:List Addr)(H H':Hp)(h h':Heap):Prop where
 keep:∀b o,h.get? b=some o→H b=none→b∉fs→b∉ex→h'.get? b=some o
 slot:∀b o,h.get? b=some o→H b=none→b∈fs→b∉ex→∃sl,h'.get? b=some {o with slots:=sl}
 free:∀b o,h.get? b=some o→H b=none→b∉ex→H' b=none
 there:∀b o,h.get? b=some o→b∉ex→∃c',h'.get? b=some c'
 tups:∀b xs,H b=some (.tup xs)→H' b=some (.tup xs)
 frzs:∀b o u,H b=some (.frz o u)→H' b=some (.frz o u)
 tbls:∀b ps,H b=some (.tbl ps)→∃more,H' b=some (.tbl (ps++more))
section
variable {fs rr ex Qo:List Addr}{H aU a4:Hp}{h aS a2 h':Heap}{a x e:Addr}{o:HO}
theorem Un.any(u:Un fs ex H aU h aS){b:Addr}{dz:Obj}(q:h.get? b=some dz)(n:H b=none)(aT:b∉ex):∃sl,aS.get? b=some {dz with slots:=sl}:=by
 by_cases aN:b∈fs
 ·exact u.slot b dz q n aN aT
 ·exact⟨dz.slots,u.keep b dz q n aN aT⟩
theorem Un.kept(k:∀b u,h.get? b=some u→h'.get? b=some u):Un fs ex H H h h':=
 ⟨λb dz q _ _ _=>k b dz q,λb dz q _ _ _=>⟨dz.slots,k b dz q⟩,λ_ _ _ n _=>n,λb dz q _=>⟨dz,k b dz q⟩,λ_ _ q=>q,λ_ _ _ q=>q,λ_ ps q=>⟨#[],by rw[q];simp⟩⟩
theorem Un.refl:Un fs ex H H h h:=Un.kept λ_ _ q=>q
theorem Un.laid(k:∀b u,h.get? b=some u→h'.get? b=some u)(bb:h.objs.size≤a)(bF:H a=none):Un fs ex H (upd H a o) h h' where
 keep:=λb u q _ _ _=>k b u q
 slot:=λb u q _ _ _=>⟨u.slots,k b u q⟩
 free:=λb u q n _=>by rw[b2 (qai (qaf (Heap.lt_size q) bb))];exact n
 there:=λb u q _=>⟨u,k b u q⟩
 tups:=λb xs q=>by rw[b2 (d9 q bF)];exact q
 frzs:=λb u xs q=>by rw[b2 (d9 q bF)];exact q
 tbls:=λb ps q=>⟨#[],by rw[b2 (d9 q bF),q];simp⟩
theorem Un.write(iO:Mut (H x))(bD:e=x∨H e=some (.own x))(k:∀b u,b≠e→h.get? b=some u→h'.get? b=some u)(k6:∃u,h'.get? e=some u):Un fs ex H (upd H x o) h h':=by
 have aT:∀b,H b=none→b≠x:=λb n z=>by subst z;rw[n] at iO;exact iO
 have aN:∀b,H b=none→b≠e:=λb n z=>by
  subst z;rcases bD with r|r
  ·exact aT b n r
  ·rw[n] at r;cases r
 have bo:∀b u,H b=some u→¬Mut (some u)→b≠x:=λb u q nm z=>by subst z;rw[q] at iO;exact nm iO
 refine⟨λb u q n _ _=>k b u (aN b n) q,λb u q n _ _=>⟨u.slots,k b u (aN b n) q⟩,λb u q n _=>by rw[b2 (aT b n)];exact n,λb u q _=>?_,
  λb xs q=>by rw[b2 (bo b _ q λz=>z)];exact q,λb u xs q=>by rw[b2 (bo b _ q λz=>z)];exact q,λb ps q=>⟨#[],by rw[b2 (bo b _ q λz=>z),q];simp⟩⟩
 by_cases k7:b=e
 ·subst k7;exact k6
 ·exact⟨u,k b u k7 q⟩
end
noncomputable def trk (h:Heap) (H:Hp):List Addr:=(List.range h.objs.size).filter λa=>(H a).isSome
noncomputable def k8 (h:Heap) (H:Hp):Heap:=hideAll h (trk h H)
theorem Dj(h:Heap)(H:Hp):(k8 h H).objs.size=h.objs.size:=PySem.W.hideAll_size _ _
theorem Zkw{h:Heap}{H:Hp}{b:Addr}{o:Obj}(e:h.get? b=some o)(n:H b=none):(k8 h H).get? b=some o:=
 hideAll_get _ e λbo=>by
  have q:(H b).isSome=true:=(qaF.mp bo).2;rw[n] at q;simp at q
theorem ZlN{h:Heap}{H:Hp}{b:Addr}{o:Obj}(e:(k8 h H).get? b=some o):h.get? b=some o∧H b=none:=by
 have b1:h.get? b=some o:=of_hideAll (trk h H) e;refine⟨b1,?_⟩;cases q:H b with
 |none=>rfl
 |some x=>
  have bo:b∈trk h H:=qaF.mpr ⟨qao.mpr (Heap.lt_size b1),by simp[q]⟩;have z:(k8 h H).get? b=none:=PySem.W.hideAll_none (trk h H) bo;rw[z] at e;cases e
structure Mod(K:Frag)(mg:Str→Option Value)(base:Heap):Prop where
 kin:K.In base
 glob:base.Ns mainGlobals mg
 blt:∃jF,base.Ns builtinsNs jF∧∀x:Str,x≠"__name__" →jF x=bootBuiltins x
 nolimit:base.NoLimit
structure Cx where
 prog:Program
 w:World
 K:Frag
 mg:Str→Option Value
 base:Heap
 A:Around
 N:List Str
 s₀:Shared
 H₀:Hp
 env:Env
 outer:List Env
 stack:List Env
 ex:List Addr
 fn:Str→Bool
 calm:Bool
 pn:List (Addr×Obj)
 xe:Value→Shared→Prop
noncomputable def frs (l:List Env):List Addr:=l.filterMap (·.frame)
noncomputable abbrev Cx.fs (X:Cx):List Addr:=frs X.outer
def Vis(b':Scope)(x:Str):Prop:=b'.names.lookup x=some .local∨b'.names.lookup x=some .cell∨b'.names.lookup x=some .free
def Loc(b':Scope)(x:Str):Prop:=b'.names.lookup x=some .local∨b'.names.lookup x=some .cell
def Zmy(env:Env)(h:Heap)(m:Str→Option Value)(x:Str)(u:Value):Prop:=
 (env.kindOf x=some .local∧m x=some u)∨((env.kindOf x=some .cell∨env.kindOf x=some .free)∧∃c,env.cells.lookup x=some c∧h.IsCell c (some u))
structure Cx.Ok(X:Cx):Prop where
 mod:Mod X.K X.mg X.base
 kind:X.env.scope.kind= .function
 glob:X.env.globals=mainGlobals
 blt:X.env.builtins=builtinsNs
 above:X.s₀.heap.objs.size≤X.env.locals
 inj:∀x y c,X.env.cells.lookup x=some c→X.env.cells.lookup y=some c→x=y
 has:∀x,(X.env.kindOf x=some .cell∨X.env.kindOf x=some .free)→∃c,X.env.cells.lookup x=some c
 cab:∀x c,X.fn x=true→X.env.cells.lookup x=some c→X.s₀.heap.objs.size≤c
 hd:X.calm=true→X.A.handled=none
 frames:X.A.frames=some X.stack
 stk:X.stack=X.outer∨(X.stack=X.env::X.outer∧X.env.frame=some X.env.locals)
 exf:∀b∈X.ex,b≠X.env.locals∧∀x c,X.env.cells.lookup x=some c→c≠b
 bs:∀b o,X.base.get? b=some o→X.s₀.heap.get? b=some o∧X.H₀ b=none
 bsz:X.base.objs.size≤X.s₀.heap.objs.size
 noex:∀b o,X.base.get? b=some o→b∉X.ex
 exfs:∀b∈X.ex,b∉X.fs
 funs:X.s₀.heap.FunFrames X.base X.outer
 frf:∀b∈X.fs,X.H₀ b=none
structure Inv(X:Cx)(aK:List (Addr×Obj))(σ:List (Option V))(H:Hp)(s:Shared):Prop where
 ok:X.Ok
 os:s.os=X.s₀.os
 bare:AllBare s.gens
 base:Un X.fs X.ex X.H₀ H X.s₀.heap s.heap
 loc:∃m,s.heap.Ns X.env.locals m∧∀(i:Nat)(x:Str)(v:V),X.N[i]? =some x→σ[i]? =some (some v)→Vis X.env.scope x→∃u,dq v u∧Zmy X.env s.heap m x u
 cell:∀x c,X.env.cells.lookup x=some c→∃v,s.heap.IsCell c v
 free:H X.env.locals=none
 freeC:∀x c,X.env.cells.lookup x=some c→H c=none
 pin:∀p∈X.pn++aK,s.heap.get? p.1=some p.2∧H p.1=none∧p.1≠X.env.locals∧p.1∉X.fs∧∀v,p.2.data≠ .cell v
 hok:HOk X.prog X.w H s.heap
 len:σ.length=X.N.length
section
variable {X:Cx}{aK:List (Addr×Obj)}{σ:List (Option V)}{H H':Hp}{s:Shared}{h':Heap}
theorem Cx.Ok.nofr(ok:X.Ok){b:Addr}{o:Obj}(e:X.base.get? b=some o):b∉X.fs:=λaN=>by
 have:=(ok.funs.mem aN).1;rw[e] at this;cases this
theorem Inv.bs(I:Inv X aK σ H s):∀b o,X.base.get? b=some o→s.heap.get? b=some o∧H b=none:=λb o e=>
 ⟨I.base.keep b o (I.ok.bs b o e).1 (I.ok.bs b o e).2 (I.ok.nofr e) (I.ok.noex b o e),I.base.free b o (I.ok.bs b o e).1 (I.ok.bs b o e).2 (I.ok.noex b o e)⟩
theorem Inv.bk(I:Inv X aK σ H s):∀b o,X.base.get? b=some o→s.heap.get? b=some o:=λb o e=>(I.bs b o e).1
theorem Inv.mod(I:Inv X aK σ H s):Mod X.K X.mg X.base:=I.ok.mod
theorem Inv.kIn(I:Inv X aK σ H s):X.K.In s.heap:=I.ok.mod.kin.keeps I.bk
theorem Inv.lt(I:Inv X aK σ H s):X.env.locals<s.heap.objs.size:=let⟨_,bF,_⟩:=I.loc;bF.lt
theorem Inv.sz(I:Inv X aK σ H s):X.s₀.heap.objs.size≤s.heap.objs.size:=qat I.ok.above (qaX I.lt)
theorem Inv.nofs(I:Inv X aK σ H s){a:Addr}(h:s.heap.objs.size≤a):a∉X.fs:=λaN=>by
 obtain⟨_,o,bz,_⟩:=I.ok.funs.mem aN;exact absurd (qaf (Heap.lt_size bz) (qat I.sz h)) (qbe _)
theorem Inv.cne(I:Inv X aK σ H s):∀x c,X.env.cells.lookup x=some c→c≠X.env.locals:=λx c e z=>by
 obtain⟨v,o,bz,hd⟩:=I.cell x c e;obtain⟨m,⟨c',a',ep,k9,he,_⟩,_⟩:=I.loc;rw[z,k9] at bz;cases bz;rw[he] at hd;cases hd
theorem Inv.funs(I:Inv X aK σ H s):s.heap.FunFrames X.base X.outer:=by
 have all:∀(l:List Env),(∀b∈frs l,b∈X.fs)→X.s₀.heap.FunFrames X.base l→s.heap.FunFrames X.base l:=by
  intro l
  induction l with
  |nil=>intro _ _;trivial
  |cons env r bP=>
   intro hs aJ;obtain⟨a5,⟨L,o,bv,bF,bz,hd⟩,a3⟩:=aJ;have hU:L∈X.fs:=hs L (by unfold frs;rw[List.filterMap_cons,bv];exact qaY);obtain⟨sl,e⟩:=I.base.slot L o bz (I.ok.frf L hU) hU λz=>I.ok.exfs L z hU;exact⟨a5,⟨L,_,bv,bF,e,hd⟩,bP (λb aN=>hs b (by unfold frs;rw[List.filterMap_cons,bv];exact qau _ aN)) a3⟩
 exact all X.outer (λ_ aN=>aN) I.ok.funs
theorem Inv.stack(I:Inv X aK σ H s):s.heap.FunFrames X.base X.stack:=by
 rcases I.ok.stk with e|⟨e,bv⟩
 ·rw[e];exact I.funs
 ·rw[e];obtain⟨m,bF,_⟩:=I.loc;refine .cons (by rw[I.ok.kind];decide) bv bF ?_ I.funs;exact Heap.get?_none_of_le (qat I.ok.bsz I.ok.above)
theorem Inv.stkSub(I:Inv X aK σ H s):∀b∈frs X.stack,b∈X.env.locals::X.fs:=λb aN=>by
 rcases I.ok.stk with e|⟨e,bv⟩
 ·rw[e] at aN;exact qau _ aN
 ·rw[e] at aN;unfold frs at aN;rw[List.filterMap_cons,bv] at aN;exact aN
theorem Inv.stkFree(I:Inv X aK σ H s):∀b∈frs X.stack,H b=none:=λb aN=>by
 rcases qad.mp (I.stkSub b aN) with e|aN
 ·rw[e];exact I.free
 ·obtain⟨_,o,bz,_⟩:=I.ok.funs.mem aN;exact I.base.free b o bz (I.ok.frf b aN) λz=>I.ok.exfs b z aN
theorem Inv.step{g':Array GenState}{t':Nat}{d':Drawn}{ch:List Addr}(I:Inv X aK σ H s)
  (hf:∀b∈ch,(b∈X.ex∨X.s₀.heap.objs.size≤b)∧b≠X.env.locals∧(∀x c,X.env.cells.lookup x=some c→c≠b)∧∀p∈X.pn++aK,p.1≠b)
  (keep:∀b o,b≠X.env.locals→b∉X.fs→b∉ch→s.heap.get? b=some o→H b=none→h'.get? b=some o)
  (slot:∀b o,b≠X.env.locals→b∈X.fs→b∉ch→s.heap.get? b=some o→H b=none→∃sl,h'.get? b=some {o with slots:=sl}) (free:∀b o,b∉ch→s.heap.get? b=some o→H b=none→H' b=none)
  (there:∀b o,b∉ch→s.heap.get? b=some o→∃c',h'.get? b=some c')
  (tups:∀b xs,H b=some (.tup xs)→H' b=some (.tup xs)) (frzs:∀b o u,H b=some (.frz o u)→H' b=some (.frz o u)) (tbls:∀b ps,H b=some (.tbl ps)→∃more,H' b=some (.tbl (ps++more)))
  (ns:∀m,s.heap.Ns X.env.locals m→h'.Ns X.env.locals m) (hok:HOk X.prog X.w H' h') (bc:AllBare g'):
  Inv X aK σ H' {s with heap:=h',gens:=g',drawn:=d',toks:=t'}:=by
 have n5:∀b o,X.s₀.heap.get? b=some o→b≠X.env.locals:=λb o e=>qai (qaf (Heap.lt_size e) I.ok.above);have ru:∀b o,X.s₀.heap.get? b=some o→b∉X.ex→b∉ch:=λb o e aT aN=>by
  rcases(hf b aN).1 with z|z
  ·exact aT z
  ·exact absurd (qaf (Heap.lt_size e) z) (qbe _)
 have xM:∀x c,X.env.cells.lookup x=some c→∀v,s.heap.IsCell c v→h'.IsCell c v:=λx c e v ⟨o,bz,hd⟩=>by
  have pd:c∉ch:=λz=>(hf c z).2.2.1 x c e rfl
  by_cases a8:c∈X.fs
  ·obtain⟨sl,q⟩:=slot c o (I.cne x c e) a8 pd bz (I.freeC x c e);exact⟨_,q,hd⟩
  ·exact⟨o,keep c o (I.cne x c e) a8 pd bz (I.freeC x c e),hd⟩
 refine⟨I.ok,I.os,bc,⟨λb o e n aN aT=>?_,λb o e n aN aT=>?_,λb o e n aT=>?_,λb o e aT=>?_,λb xs e=>tups b xs (I.base.tups b xs e),λb o xs e=>frzs b o xs (I.base.frzs b o xs e),λb ps e=>?_⟩,?_,λx c e=>?_,?_,λx c e=>?_,λp bb=>?_,hok,I.len⟩
 ·exact keep b o (n5 b o e) aN (ru b o e aT) (I.base.keep b o e n aN aT) (I.base.free b o e n aT)
 ·obtain⟨sl,bw⟩:=I.base.slot b o e n aN aT;obtain⟨pe,bC⟩:=slot b _ (n5 b o e) aN (ru b o e aT) bw (I.base.free b o e n aT);exact⟨pe,bC⟩
 ·obtain⟨c',bw⟩:=I.base.there b o e aT;exact free b c' (ru b o e aT) bw (I.base.free b o e n aT)
 ·obtain⟨c',bw⟩:=I.base.there b o e aT;exact there b c' (ru b o e aT) bw
 ·obtain⟨hD,bw⟩:=I.base.tbls b ps e;obtain⟨il,bC⟩:=tbls b _ bw;exact⟨hD++il,by rw[bC,Array.append_assoc]⟩
 ·obtain⟨m,bF,aJ⟩:=I.loc;refine⟨m,ns m bF,λi x v bw bC dP=>?_⟩;obtain⟨u,r,l⟩:=aJ i x v bw bC dP;refine⟨u,r,?_⟩;rcases l with l|⟨k,c,e,z⟩
  ·exact .inl l
  ·exact .inr ⟨k,c,e,xM x c e _ z⟩
 ·obtain⟨v,z⟩:=I.cell x c e;exact⟨v,xM x c e v z⟩
 ·obtain⟨m,⟨o,_,_,bz,_⟩,_⟩:=I.loc;exact free _ o (λz=>(hf _ z).2.1 rfl) bz I.free
 ·obtain⟨v,o,bz,hd⟩:=I.cell x c e;exact free c o (λz=>(hf c z).2.2.1 x c e rfl) bz (I.freeC x c e)
 ·obtain⟨e,n,ne,l1,d⟩:=I.pin p bb;have pd:p.1∉ch:=λz=>(hf p.1 z).2.2.2 p bb rfl;exact⟨keep p.1 p.2 ne l1 pd e n,free p.1 p.2 pd e n,ne,l1,d⟩
theorem Inv.un{t':Nat}(I:Inv X aK σ H s)(u:Un X.fs [] H H' s.heap h')(hok:HOk X.prog X.w H' h'):Inv X aK σ H' {s with heap:=h',toks:=t'}:=by
 obtain⟨m,⟨o,a',ep,bz,r⟩,_⟩:=id I.loc;obtain⟨sl,hU⟩:=u.any bz I.free (by simp);exact I.step (g':=s.gens) (d':=s.drawn) (ch:=[]) (λ_ z=>nomatch z) (λb o _ aN _ e n=>u.keep b o e n aN (by simp)) (λb o _ aN _ e n=>u.slot b o e n aN (by simp)) (λb o _ e n=>u.free b o e n (by simp)) (λb o _ e=>u.there b o e (by simp)) u.tups u.frzs u.tbls (λda bo=>by
  obtain⟨c',tz,tA,k9,dX⟩:=bo;rw[bz] at k9;cases k9;exact⟨_,tz,tA,hU,dX⟩) hok I.bare
theorem Inv.call{g':Array GenState}{t':Nat}{d':Drawn}{ch:List Addr}(I:Inv X aK σ H s)(u:Un (frs X.stack) ch H H' s.heap h')(hok:HOk X.prog X.w H' h')(bc:AllBare g')
  (hf:∀b∈ch,(b∈X.ex∨X.s₀.heap.objs.size≤b)∧b≠X.env.locals∧(∀x c,X.env.cells.lookup x=some c→c≠b)∧∀p∈X.pn++aK,p.1≠b):
  Inv X aK σ H' {s with heap:=h',gens:=g',drawn:=d',toks:=t'}:=by
 obtain⟨m,⟨o,a',ep,bz,r⟩,_⟩:=id I.loc;obtain⟨sl,hU⟩:=u.any bz I.free λz=>(hf _ z).2.1 rfl;exact I.step (ch:=ch) hf (λb o hU aN a8 e n=>u.keep b o e n (λz=>(qad.mp (I.stkSub b z)).elim hU aN) a8) (λb o _ _ a8 e n=>u.any e n a8) (λb o a8 e n=>u.free b o e n a8) (λb o a8 e=>u.there b o e a8) u.tups u.frzs u.tbls (λda bo=>by
  obtain⟨c',tz,tA,k9,dX⟩:=bo;rw[bz] at k9;cases k9;exact⟨_,tz,tA,hU,dX⟩) hok bc
theorem Inv.turned{t':Nat}{it:Addr}(I:Inv X aK σ H s)(k:∀b o,b≠it→s.heap.get? b=some o→h'.get? b=some o)(bF:H it=none)(hU:it≠X.env.locals)
  (aS:it∈X.ex∨X.s₀.heap.objs.size≤it) (a2:∀x c,X.env.cells.lookup x=some c→c≠it) (bU:∀p∈X.pn++aK,p.1≠it):Inv X aK σ H {s with heap:=h',toks:=t'}:=by
 have pf:∀b u,H b=some u→b≠it:=λb u e z=>by rw[z,bF] at e;cases e
 refine I.step (g':=s.gens) (d':=s.drawn) (ch:=[it]) (λb aN=>?_) (λb o _ _ a8 e _=>k b o (λz=>a8 (by simp[z])) e) (λb o _ _ a8 e _=>⟨o.slots,k b o (λz=>a8 (by simp[z])) e⟩) (λ_ _ _ _ n=>n)
  (λb o a8 e=>⟨o,k b o (λz=>a8 (by simp[z])) e⟩) (λ_ _ e=>e) (λ_ _ _ e=>e) (λb ps e=>⟨#[],by rw[e];simp⟩) (λm bo=>?_) (λb u e=>?_) I.bare
 ·have e:b=it:=by simpa using aN
  subst e;exact⟨aS,hU,a2,bU⟩
 ·obtain⟨o,a',ep,bz,r⟩:=bo;exact⟨o,a',ep,k _ o (qbP hU) bz,r⟩
 ·refine(I.hok b u e).stay (λc v a8 q=>k c v ?_ q) (λ_ q=>q) λ_ _ q=>q;rcases a8 with z|z
  ·rw[z];exact pf b u e
  ·exact pf c _ z
theorem Inv.tok(I:Inv X aK σ H s)(t:Nat):Inv X aK σ H {s with toks:=t}:=I.un (h':=s.heap) (t':=t) Un.refl I.hok
theorem Inv.kept{t':Nat}(I:Inv X aK σ H s)(k:∀b u,s.heap.get? b=some u→h'.get? b=some u):Inv X aK σ H {s with heap:=h',toks:=t'}:=I.un (Un.kept k) (I.hok.kept k)
theorem Inv.laid{a:Addr}{o:HO}{t':Nat}(I:Inv X aK σ H s)(k:∀b u,s.heap.get? b=some u→h'.get? b=some u)(bb:s.heap.objs.size≤a)(new:ZP X.prog X.w (upd H a o) h' a o):
  Inv X aK σ (upd H a o) {s with heap:=h',toks:=t'}:=I.un (Un.laid k bb (I.hok.fresh bb)) (I.hok.laid k bb new)
theorem Inv.write{x e:Addr}{o:HO}{t':Nat}(I:Inv X aK σ H s)(iO:Mut (H x))(bD:e=x∨H e=some (.own x))(k:∀b u,b≠e→s.heap.get? b=some u→h'.get? b=some u)(k6:∃u,h'.get? e=some u)
  (new:ZP X.prog X.w (upd H x o) h' x o):Inv X aK σ (upd H x o) {s with heap:=h',toks:=t'}:=I.un (Un.write iO bD k k6) (I.hok.write iO bD k k6 new)
theorem Inv.pins_of{n6:List (Addr×Obj)}(I:Inv X aK σ H s)(h:∀p∈n6,s.heap.get? p.1=some p.2∧H p.1=none∧p.1≠X.env.locals∧p.1∉X.fs∧∀v,p.2.data≠ .cell v):Inv X n6 σ H s:=
 ⟨I.ok,I.os,I.bare,I.base,I.loc,I.cell,I.free,I.freeC,λp bb=>(qax.mp bb).elim (λz=>I.pin p (qa5 _ z)) (h p),I.hok,I.len⟩
theorem tD{N:List Str}(eG:N.Nodup){i j:Nat}{x:Str}(a:N[i]? =some x)(b:N[j]? =some x):i=j:=by
 obtain⟨aS,bw⟩:=GM.mp a;obtain⟨a2,bC⟩:=GM.mp b;exact(qb4 eG).mp (bw.trans bC.symm)
theorem tE{M:Model}{A:Around}{E:Value→Shared→Prop}{i:Nat}{x:Str}{v:V}{u:Value}{Q:Unit→Shared→Prop}(I:Inv X aK σ H s)(eG:X.N.Nodup)(hi:X.N[i]? =some x)(aT:Loc X.env.scope x)(r:dq v u)
  (h:∀s',Inv X aK (σ.set i (some v)) H s'→(∃a,Heap.SameBut a s.heap s'.heap∧(a=X.env.locals∨X.env.cells.lookup x=some a))→Q () s') (bv:X.fn x=true∨X.env.scope.names.lookup x=some .local:=by first|exact .inl rfl|exact .inr rfl|assumption):wpAny M A (storeName X.env x u) Q E s:=by
 obtain⟨m,bF,aJ⟩:=id I.loc;have tF:(X.env.scope.kind== .class||(X.env.scope.kind== .module&&X.env.locals != X.env.globals))=false:=by rw[I.ok.kind];rfl
 have xN:i<σ.length:=by rw[I.len];exact(GM.mp hi).1
 have cne:=I.cne;have xO:∀{a:Addr}{h':Heap},(∃o,s.heap.get? a=some o∧H a=none)→Heap.SameBut a s.heap h'→HOk X.prog X.w H h':=λ{a h'} bx hs b dz e=>by
  obtain⟨_,_,xP⟩:=bx;refine(I.hok b dz e).stay (λc dY a8 q=>(hs.2 c ?_).trans q) (λ_ q=>q) λ_ _ q=>q;rintro rfl;rcases a8 with rfl|a8
  ·rw[xP] at e;cases e
  ·rw[xP] at a8;cases a8
 rcases aT with a5|a5
 ·refine wpAny_storeName_local a5 bF (λh' tG hs=>?_) tF;obtain⟨Dk,_,_,k_,_⟩:=id bF;refine h _ ⟨I.ok,I.os,I.bare,⟨λb o e n aN aT=>?_,λb o e n aN aT=>?_,I.base.free,λb o e aT=>?_,I.base.tups,I.base.frzs,I.base.tbls⟩,⟨_,tG,λj y jG bw bC dP=>?_⟩,λy c e=>?_,I.free,I.freeC,λp bb=>?_,xO ⟨Dk,k_,I.free⟩ hs,by simpa using I.len⟩ ⟨_,hs,.inl rfl⟩
  ·exact(hs.2 b (qai (qaf (Heap.lt_size e) I.ok.above))).trans (I.base.keep b o e n aN aT)
  ·obtain⟨sl,bw⟩:=I.base.slot b o e n aN aT;exact⟨sl,(hs.2 b (qai (qaf (Heap.lt_size e) I.ok.above))).trans bw⟩
  ·obtain⟨c',bw⟩:=I.base.there b o e aT;exact⟨c',(hs.2 b (qai (qaf (Heap.lt_size e) I.ok.above))).trans bw⟩
  ·by_cases bj:j=i
   ·subst bj;rw[hi] at bw;cases bw;rw[qbn xN] at bC;cases bC;exact⟨u,r,.inl ⟨a5,by simp⟩⟩
   ·rw[qbx (qbP bj)] at bC;obtain⟨kx,dX,q⟩:=aJ j y jG bw bC dP;refine⟨kx,dX,?_⟩;rcases q with⟨k,e⟩|⟨k,c,e,z⟩
    ·refine .inl ⟨k,?_⟩;have:y≠x:=λe=>bj (tD eG bw (e▸hi));simp[this,e]
    ·exact .inr ⟨k,c,e,z.sameBut hs (cne y c e)⟩
  ·obtain⟨dY,z⟩:=I.cell y c e;exact⟨dY,z.sameBut hs (cne y c e)⟩
  ·obtain⟨e,n,ne,l1,d⟩:=I.pin p bb;exact⟨(hs.2 p.1 ne).trans e,n,ne,l1,d⟩
 ·have ph:X.fn x=true:=by
   rcases bv with z|z
   ·exact z
   ·rw[z] at a5;cases a5
  obtain⟨c,a8⟩:=I.ok.has x (.inl a5);obtain⟨dY,z⟩:=I.cell x c a8;refine wpAny_storeName_cell I.ok.kind a5 a8 z (λh' k' hs=>?_);obtain⟨fM,xQ,Dl⟩:=id z;refine h {s with heap:=h'} ⟨I.ok,I.os,I.bare,⟨λb o e n aN aT=>?_,λb o e n aN aT=>?_,I.base.free,λb o e aT=>?_,I.base.tups,I.base.frzs,I.base.tbls⟩,⟨m,bF.sameBut hs (qbP (cne x c a8)),λj y jG bw bC dP=>?_⟩,λy eg e=>?_,I.free,I.freeC,λp bb=>?_,xO ⟨fM,xQ,I.freeC x c a8⟩ hs,by simpa using I.len⟩ ⟨c,hs,.inr a8⟩
  ·exact(hs.2 b (qai (qaf (Heap.lt_size e) (I.ok.cab x c ph a8)))).trans (I.base.keep b o e n aN aT)
  ·obtain⟨sl,bw⟩:=I.base.slot b o e n aN aT;exact⟨sl,(hs.2 b (qai (qaf (Heap.lt_size e) (I.ok.cab x c ph a8)))).trans bw⟩
  ·obtain⟨c',bw⟩:=I.base.there b o e aT;exact⟨c',(hs.2 b (qai (qaf (Heap.lt_size e) (I.ok.cab x c ph a8)))).trans bw⟩
  ·by_cases bj:j=i
   ·subst bj;rw[hi] at bw;cases bw;rw[qbn xN] at bC;cases bC;exact⟨u,r,.inr ⟨.inl a5,c,a8,k'⟩⟩
   ·rw[qbx (qbP bj)] at bC;obtain⟨kx,dX,q⟩:=aJ j y jG bw bC dP;refine⟨kx,dX,?_⟩;rcases q with q|⟨k,eg,e,gq⟩
    ·exact .inl q
    ·refine .inr ⟨k,eg,e,gq.sameBut hs ?_⟩;rintro rfl;exact bj (tD eG bw (I.ok.inj _ _ _ e a8▸hi))
  ·by_cases n7:eg=c
   ·subst n7;exact⟨_,k'⟩
   ·obtain⟨ky,fz⟩:=I.cell y eg e;exact⟨ky,fz.sameBut hs n7⟩
  ·obtain⟨e,n,ne,l1,d⟩:=I.pin p bb;refine⟨(hs.2 p.1 ?_).trans e,n,ne,l1,d⟩;intro q;rw[q,xQ] at e;have h5:fM=p.2:=qam e;exact d dY (by rw[←h5];exact Dl)
theorem pi{M:Model}{A:Around}{E:Value→Shared→Prop}{i:Nat}{x:Str}{v:V}{u:Value}{Q:Unit→Shared→Prop}(I:Inv X aK σ H s)(eG:X.N.Nodup)(hi:X.N[i]? =some x)(aT:Loc X.env.scope x)(r:dq v u)
  (h:∀s',Inv X aK (σ.set i (some v)) H s'→Q () s') (bv:X.fn x=true∨X.env.scope.names.lookup x=some .local:=by first|exact .inl rfl|exact .inr rfl|assumption):wpAny M A (storeName X.env x u) Q E s:=
 tE I eG hi aT r (λs' eT _=>h s' eT) bv
theorem Inv.call'{s':Shared}{ch:List Addr}(I:Inv X aK σ H s)(bz:s'.os=s.os)(u:Un (frs X.stack) ch H H' s.heap s'.heap)(hok:HOk X.prog X.w H' s'.heap)(bc:AllBare s'.gens)
  (hf:∀b∈ch,(b∈X.ex∨X.s₀.heap.objs.size≤b)∧b≠X.env.locals∧(∀x c,X.env.cells.lookup x=some c→c≠b)∧∀p∈X.pn++aK,p.1≠b):Inv X aK σ H' s':=by
 obtain⟨h',g',d',t',c'⟩:=s';have e:c'=s.os:=bz;subst e;exact I.call (g':=g') (t':=t') (d':=d') u hok bc hf
end
noncomputable abbrev XK:=Value→Option Addr→Hp→Prop
noncomputable abbrev St:=List (Option V)
noncomputable abbrev VK:=V→Hp→Prop
noncomputable abbrev TE:=St→Hp→VK→Prop
noncomputable abbrev TT:=St→Hp→(Bool→Hp→Prop)→Prop
noncomputable abbrev TA:=St→Hp→(List V→Hp→Prop)→Prop
structure Ends where
 nx:St→Hp→Prop
 rt:VK
 bk:St→Hp→Prop:=λ_ _=>False
 ct:St→Hp→Prop:=λ_ _=>False
noncomputable abbrev TS:=Ends→St→Hp→Prop
def EP(X:Cx)(aK:List (Addr×Obj))(σ:St)(Q:VK)(u:Value)(s':Shared):Prop:=∃v H',Inv X aK σ H' s'∧dq v u∧Q v H'
def TP(X:Cx)(aK:List (Addr×Obj))(σ:St)(Q:Bool→Hp→Prop)(b:Bool)(s':Shared):Prop:=∃H',Inv X aK σ H' s'∧Q b H'
def AP(X:Cx)(aK:List (Addr×Obj))(σ:St)(Q:List V→Hp→Prop)(us:List Value)(s':Shared):Prop:=∃vs H',Inv X aK σ H' s'∧dm vs us∧Q vs H'
def SP(X:Cx)(aK:List (Addr×Obj))(D:Ends)(f:Flow)(s':Shared):Prop:=
 match f with
 | .next=>∃bN H',Inv X aK bN H' s'∧D.nx bN H'
 | .brk=>∃bN H',Inv X aK bN H' s'∧D.bk bN H'
 | .cont=>∃bN H',Inv X aK bN H' s'∧D.ct bN H'
 | .ret u=>∃v bN H',Inv X aK bN H' s'∧dq v u∧D.rt v H'
def PE(X:Cx)(e:Expr)(t:TE):Prop:=
 ∀(aK:List (Addr×Obj))(s:Shared)(σ:St)(H:Hp)(Q:VK),Inv X aK σ H s→t σ H Q→wpAny (model X.prog X.w) X.A (eval e X.env) (EP X aK σ Q) X.xe s
def PT(X:Cx)(e:Expr)(t:TT):Prop:=
 ∀(aK:List (Addr×Obj))(s:Shared)(σ:St)(H:Hp)(Q:Bool→Hp→Prop),Inv X aK σ H s→t σ H Q→wpAny (model X.prog X.w) X.A (isTrue e X.env (eval e X.env)) (TP X aK σ Q) X.xe s
def PW(X:Cx)(e:Expr)(t:TT):Prop:=
 ∀(mW:Sem Value)(aK:List (Addr×Obj))(s:Shared)(σ:St)(H:Hp)(Q:Bool→Hp→Prop),Inv X aK σ H s→t σ H Q→wpAny (model X.prog X.w) X.A (isTrue e X.env mW) (TP X aK σ Q) X.xe s
theorem PW.pt{X:Cx}{e:Expr}{t:TT}(h:PW X e t):PT X e t:=h _
def PA(X:Cx)(a':List Expr)(t:TA):Prop:=
 ∀(pos:Pos)(aK:List (Addr×Obj))(s:Shared)(σ:St)(H:Hp)(Q:List V→Hp→Prop),Inv X aK σ H s→t σ H Q→wpAny (model X.prog X.w) X.A (spliced (backTo pos (starEach a' X.env))) (AP X aK σ Q) X.xe s
def PS(X:Cx)(st:Stmt)(t:TS):Prop:=
 ∀(aK:List (Addr×Obj))(s:Shared)(σ:St)(H:Hp)(D:Ends),Inv X aK σ H s→t D σ H→wpAny (model X.prog X.w) X.A (exec st X.env) (SP X aK D) X.xe s
def PSs(X:Cx)(st:List Stmt)(t:TS):Prop:=
 ∀(aK:List (Addr×Obj))(s:Shared)(σ:St)(H:Hp)(D:Ends),Inv X aK σ H s→t D σ H→wpAny (model X.prog X.w) X.A (execs st X.env) (SP X aK D) X.xe s
theorem thn{dA:Type}{t:Sem dA}{Q pj:dA→Shared→Prop}{M:Model}{A:Around}{E:Value→Shared→Prop}{s:Shared}(h:wpAny M A t Q E s)(fA:∀a s,Q a s→pj a s):wpAny M A t pj E s:=wpAny_mono h fA λ_ _ x=>x
section
variable {X:Cx}
theorem bin{a b:Expr}{bA dy:TE}(bx:PE X a bA)(aN:PE X b dy){aK:List (Addr×Obj)}{s:Shared}{σ:St}{H:Hp}{R:V→V→Hp→Prop}(I:Inv X aK σ H s)(h:bA σ H λx aU=>dy σ aU λy a4=>R x y a4)
  {dA:Type} {Q:dA→Shared→Prop} {f:Value→Value→Sem dA}
  (bv:∀v u bK x y a4,Inv X aK σ a4 bK→dq x v→dq y u→R x y a4→wpAny (model X.prog X.w) X.A (f v u) Q X.xe bK):
  wpAny (model X.prog X.w) X.A (eval a X.env) (λv eh=>wpAny (model X.prog X.w) X.A (eval b X.env) (λu jZ=>wpAny (model X.prog X.w) X.A (f v u) Q X.xe jZ) X.xe eh) X.xe s:=by
 refine thn (bx aK s σ H _ I h) λv a7 ⟨x,aU,bB,df,c8⟩=>?_;refine thn (aN aK a7 σ aU _ bB c8) λu bK ⟨y,a4,ds,dO,dI⟩=>?_;exact bv v u bK x y a4 ds df dO dI
noncomputable def Zd6 (i:Nat):TE:=λσ H Q=>∃v,σ[i]? =some (some v)∧Q v H
noncomputable def tC (v:V):TE:=λ_ H Q=>Q v H
theorem Zms{i:Nat}{x:Str}{pos:Pos}(eG:X.N[i]? =some x)(cv:Vis X.env.scope x)(hd:(x==("__debug__" :Str))=false:=by decide)(im:(x==("__classdict__" :Str))=false:=by decide):PE X (.Name x pos) (Zd6 i):=by
 intro aK s σ H Q I h;obtain⟨v,e,h⟩:=h;obtain⟨m,bF,aJ⟩:=I.loc;obtain⟨u,r,l⟩:=aJ i x v eG e cv;have eZ:EP X aK σ Q u s:=⟨v,H,I,r,h⟩;rcases l with⟨a5,bo⟩|⟨a5,c,a8,l2⟩
 ·exact wpAny_Name (wpAny_loadName_local I.ok.kind a5 bF bo eZ) hd
 ·rcases a5 with a5|a5
  ·exact wpAny_Name (wpAny_loadName_cell I.ok.kind a5 a8 l2 eZ) hd
  ·exact wpAny_Name (wpAny_loadName_free I.ok.kind a5 a8 l2 eZ im) hd
theorem bQ{i j pos}:PE X (.Constant (.int i) j pos) (tC (.int i)):=λ_ _ _ H _ I h=>wpAny_Constant_int ⟨.int i,H,I.tok _,⟨_,rfl⟩,h⟩
theorem VZ{b j pos}:PE X (.Constant (.bool b) j pos) (tC (.bl b)):=λ_ _ _ H _ I h=>Constant_bool ⟨.bl b,H,I,rfl,h⟩
theorem Wi{j pos}:PE X (.Constant .none j pos) (tC .non):=λ_ _ _ H _ I h=>Constant_none ⟨.non,H,I,rfl,h⟩
theorem Yu{x j pos}:PE X (.Constant (.str x) j pos) (tC (.str x)):=λ_ _ _ H _ I h=>Calls.Constant_str ⟨.str x,H,I.tok _,⟨_,rfl⟩,h⟩
def Gl(X:Cx)(x:Str):Prop:=X.env.kindOf x=some .globalImplicit
theorem l3{E:Value→Shared→Prop}{aK:List (Addr×Obj)}{s:Shared}{σ:St}{H:Hp}{x:Str}{u:Value}{pos:Pos}{Q:Value→Shared→Prop}(I:Inv X aK σ H s)(bc:Gl X x)(bo:X.mg x=some u)(h:Q u s)
  (hd:(x==("__debug__" :Str))=false:=by decide):wpAny (model X.prog X.w) X.A (eval (.Name x pos) X.env) Q E s:=
 Calls.Name_function_global I.ok.kind bc (Calls.loadGlobal_global (by rw[I.ok.glob];exact I.mod.glob.keeps I.bk) bo h) hd
theorem jH{E:Value→Shared→Prop}{aK:List (Addr×Obj)}{s:Shared}{σ:St}{H:Hp}{x:Str}{u:Value}{pos:Pos}{Q:Value→Shared→Prop}(I:Inv X aK σ H s)(bc:Gl X x)(bo:X.mg x=none)(cv:bootBuiltins x=some u)(h:Q u s)
  (bF:x≠"__name__" :=by decide) (hd:(x==("__debug__" :Str))=false:=by decide):wpAny (model X.prog X.w) X.A (eval (.Name x pos) X.env) Q E s:=by
 obtain⟨jF,aS,a2⟩:=I.mod.blt;exact Calls.Name_function_global I.ok.kind bc (Calls.loadGlobal_builtin (by rw[I.ok.glob];exact I.mod.glob.keeps I.bk) bo (by rw[I.ok.blt];exact aS.keeps I.bk) ((a2 x bF).trans cv) h) hd
theorem ji{x:Str}{v:V}{u:Value}{pos:Pos}(bc:Gl X x)(bo:X.mg x=some u)(r:dq v u)(hd:(x==("__debug__" :Str))=false:=by decide):PE X (.Name x pos) (tC v):=
 λ_ _ _ H _ I h=>l3 I bc bo ⟨v,H,I,r,h⟩ hd
theorem rv{x:Str}{v:V}{u:Value}{pos:Pos}(bc:Gl X x)(bo:X.mg x=none)(cv:bootBuiltins x=some u)(r:dq v u)(bF:x≠"__name__" :=by decide)(hd:(x==("__debug__" :Str))=false:=by decide):PE X (.Name x pos) (tC v):=
 λ_ _ _ H _ I h=>jH I bc bo cv ⟨v,H,I,r,h⟩ bF hd
variable {a b:Expr}{bA dy:TE}{pos:Pos}
variable {gU rx:TT}{rest:List Expr}
noncomputable def xR (t u:TT):TT:=λσ H Q=>t σ H λc aU=>if c=true then u σ aU Q else Q false aU
noncomputable def tOr (t u:TT):TT:=λσ H Q=>t σ H λc aU=>if c=true then Q true aU else u σ aU Q
noncomputable def xS (t:TT):TT:=λσ H Q=>t σ H λc aU=>Q (!c) aU
theorem tH(bx:PT X a gU):PW X (.BoolOp .And [a] pos) gU:=by
 intro pk aK s σ H Q I h;refine isTrue_and (thn (bx aK s σ H Q I h) λc a7 e=>?_);cases c with
 |true=>exact isTrue_and_nil e
 |false=>exact e
theorem mX(bx:PT X a gU):PW X (.BoolOp .Or [a] pos) gU:=by
 intro pk aK s σ H Q I h;refine isTrue_or (thn (bx aK s σ H Q I h) λc a7 e=>?_);cases c with
 |false=>exact isTrue_or_nil e
 |true=>exact e
theorem tI(bx:PT X a gU)(aN:PW X (.BoolOp .And (b::rest) pos) rx):PW X (.BoolOp .And (a::b::rest) pos) (xR gU rx):=by
 intro pk aK s σ H Q I h;refine isTrue_and (thn (bx aK s σ H _ I h) λc a7 ⟨aU,bB,c8⟩=>?_);cases c with
 |true=>exact aN pk aK a7 σ aU Q bB c8
 |false=>exact⟨aU,bB,c8⟩
theorem l4(bx:PT X a gU)(aN:PW X (.BoolOp .Or (b::rest) pos) rx):PW X (.BoolOp .Or (a::b::rest) pos) (tOr gU rx):=by
 intro pk aK s σ H Q I h;refine isTrue_or (thn (bx aK s σ H _ I h) λc a7 ⟨aU,bB,c8⟩=>?_);cases c with
 |true=>exact⟨aU,bB,c8⟩
 |false=>exact aN pk aK a7 σ aU Q bB c8
theorem la(bx:PT X a gU):PT X (.UnaryOp .Not a pos) (xS gU):=by
 intro aK s σ H Q I h;exact isTrue_not (bx aK s σ H (λc aU=>Q (!c) aU) I h)
noncomputable def xT (bA dy:TE):TE:=λσ H Q=>bA σ H λx aU=>∃c,x= .bl c∧if c=true then dy σ aU Q else Q (.bl false) aU
noncomputable def xU (bA:TE):TE:=λσ H Q=>bA σ H λx aU=>∃c,x= .bl c∧Q (.bl (!c)) aU
theorem ry{op}{t:TE}(h:PE X a t):PE X (.BoolOp op [a] pos) t:=λaK s σ H Q I hw=>BoolOp_one (h aK s σ H Q I hw)
theorem rz(bx:PE X a bA)(aN:PE X (.BoolOp .And (b::rest) pos) dy):PE X (.BoolOp .And (a::b::rest) pos) (xT bA dy):=by
 intro aK s σ H Q I h;refine BoolOp_and (thn (bx aK s σ H _ I h) λv a7 ⟨x,aU,bB,df,c8⟩=>?_);obtain⟨c,rfl,c8⟩:=c8;cases df;refine wpAny_truthy_bool ?_;cases c with
 |true=>exact aN aK a7 σ aU Q bB c8
 |false=>exact⟨.bl false,aU,bB,rfl,c8⟩
theorem xV(bx:PE X a bA):PE X (.UnaryOp .Not a pos) (xU bA):=by
 intro aK s σ H Q I h;refine UnaryOp_ (thn (bx aK s σ H _ I h) λv a7 ⟨x,aU,bB,df,c8⟩=>?_);obtain⟨c,rfl,c8⟩:=c8;cases df;exact not_of (wpAny_truthy_bool ⟨.bl (!c),aU,bB,rfl,c8⟩)
noncomputable def tIf (t:TT) (bA dy:TE):TE:=λσ H Q=>t σ H λc aU=>if c=true then bA σ aU Q else dy σ aU Q
theorem Do{c:Expr}(a8:PT X c gU)(bx:PE X a bA)(aN:PE X b dy):PE X (.IfExp c a b pos) (tIf gU bA dy):=by
 intro aK s σ H Q I h;refine wpAny_IfExp (thn (a8 aK s σ H _ I h) λd a7 ⟨aU,bB,c8⟩=>?_);cases d with
 |true=>exact bx aK a7 σ aU Q bB c8
 |false=>exact aN aK a7 σ aU Q bB c8
end
def SqL(K:Frag)(H:Hp)(a:Addr)(xs:List V):Prop:=
 Rd H a (.lst xs)∨
  ∃(o:Obj)(its:Array Value)(n:Nat),K.lookup a=some o∧o.cls= .type "list" ∧o.dict=none∧o.data= .seq its n∧its.size≤sizeLine∧dm xs its.toList
def SqT(K:Frag)(H:Hp)(a:Addr)(xs:List V):Prop:=
 Rd H a (.tup xs)∨
  ∃(o:Obj)(its:Array Value)(n:Nat),K.lookup a=some o∧o.cls= .type "tuple" ∧o.data= .seq its n∧its.size≤sizeLine∧dm xs its.toList
noncomputable def Dp:Value→Option V
 | .none=>some .non
 | .bool b=>some (.bl b)
 | .int i _=>some (.int i)
 | .str x _=>some (.str x)
 | .bytes b _=>some (.byt b)
 | .float b _=>some (.flt b)
 | .ref a=>some (.ref a)
 | .type n=>some (.ty n)
 |_=>none
theorem dq.abs{x:V}{u:Value}(r:dq x u):Dp u=some x:=by
 cases x with
 |non=>cases r;rfl
 |bl _=>cases r;rfl
 |int _=>obtain⟨t,rfl⟩:=r;rfl
 |str _=>obtain⟨t,rfl⟩:=r;rfl
 |byt _=>obtain⟨t,rfl⟩:=r;rfl
 |flt _=>obtain⟨t,rfl⟩:=r;rfl
 |ref _=>cases r;rfl
 |ty _=>cases r;rfl
theorem dq.inj{x y:V}{u:Value}(r:dq x u)(q:dq y u):x=y:=qam (r.abs.symm.trans q.abs)
theorem dm.inj:∀{xs ys:List V}{us:List Value},dm xs us→dm ys us→xs=ys
 |_,_,_,.nil,.nil=>rfl
 |_,_,_,.cons r t,.cons dX t'=>by rw[r.inj dX,dm.inj t t']
section
variable {X:Cx}{aK:List (Addr×Obj)}{σ:St}{H:Hp}{s:Shared}{a:Addr}{xs ys:List V}
theorem SqL.of{K:Frag}(h:H a=some (.lst xs)):SqL K H a xs:= .inl (.inl h)
theorem SqT.of{K:Frag}(h:H a=some (.tup xs)):SqT K H a xs:= .inl (.inl h)
theorem Inv.list(I:Inv X aK σ H s)(h:SqL X.K H a xs):∃its:List Value,dm xs its∧PlainL s.heap a its.toArray∧xs.length≤sizeLine:=by
 rcases h with h|⟨o,its,n,a5,a8,hd,hs,hz,r⟩
 ·obtain⟨z,its,n,r,e⟩:=h.ok I.hok;exact⟨its,r,⟨_,n,e,rfl,rfl,rfl⟩,z⟩
 ·refine⟨its.toList,r,⟨o,n,I.kIn a o a5,a8,hd,by simpa using hs⟩,?_⟩;have e:=r.length;simp only[qaE] at e;omega
theorem Inv.tuple(I:Inv X aK σ H s)(h:SqT X.K H a xs):∃its:List Value,dm xs its∧IsTup s.heap a its.toArray∧xs.length≤sizeLine:=by
 rcases h with h|⟨o,its,n,a5,a8,hs,hz,r⟩
 ·obtain⟨z,its,r,p⟩:=h.ok I.hok;exact⟨its,r,p,z⟩
 ·refine⟨its.toList,r,⟨o,I.kIn a o a5,a8,n,by simpa using hs⟩,?_⟩;have e:=r.length;simp only[qaE] at e;omega
theorem Inv.list_inj(I:Inv X aK σ H s)(h:SqL X.K H a xs)(h':SqL X.K H a ys):xs=ys:=by
 obtain⟨its,r,⟨o,n,e,_,_,d⟩,_⟩:=I.list h;obtain⟨its',dX,⟨c',hV,b1,_,_,d'⟩,_⟩:=I.list h';rw[e] at b1;cases b1;rw[d] at d'
 injection d' with kz _
 have:its=its':=by simpa using congrArg Array.toList kz
 subst this;exact r.inj dX
end
section
variable {X:Cx}{aK:List (Addr×Obj)}{σ:St}{H:Hp}{s:Shared}{E:Value→Shared→Prop}
end
section
variable {X:Cx}{st:Stmt}{rest:List Stmt}{t u:TS}{e:Expr}{dg:TE}{pos:Pos}
noncomputable def tNext:TS:=λD σ H=>D.nx σ H
noncomputable def xW (t u:TS):TS:=λD σ H=>t {D with nx:=u D} σ H
theorem e7:PSs X [] tNext:=λ_ _ σ H _ I h=>wpAny_execs_nil ⟨σ,H,I,h⟩
theorem bR(aS:PS X st t)(a2:PSs X rest u):PSs X (st::rest) (xW t u):=by
 intro aK s σ H D I h;refine wpAny_execs_cons (thn (aS aK s σ H {D with nx:=u D} I h) λf a7 q=>?_);cases f with
 |next=>
  obtain⟨bN,H',eT,q⟩:=q;exact a2 aK a7 bN H' D eT q
 |ret v=>exact q
 |brk=>exact q
 |cont=>exact q
theorem cm(aS:PS X st t):PSs X [st] t:=by
 intro aK s σ H D I h;refine wpAny_execs_cons (thn (aS aK s σ H D I h) λf a7 q=>?_);cases f with
 |next=>exact wpAny_execs_nil q
 |ret v=>exact q
 |brk=>exact q
 |cont=>exact q
theorem Inv.quiet{aK:List (Addr×Obj)}{σ:St}{H:Hp}{s:Shared}(I:Inv X aK σ H s):interactive X.env=false:=by simp[interactive,I.ok.kind]
noncomputable def xX (dg:TE):TS:=λD σ H=>dg σ H λ_ aU=>D.nx σ aU
theorem fx(bD:PE X e dg)(hs:swapsWith e none pos.line X.env=pure false:=by rfl):PS X (.Expr e pos) (xX dg):=by
 intro aK s σ H D I h;exact wpAny_Expr_any (thn (bD aK s σ H _ I h) λv a7 ⟨x,aU,bB,df,c8⟩=>⟨σ,aU,bB,c8⟩) I.quiet hs
noncomputable def xY (dg:TE):TS:=λD σ H=>dg σ H D.rt
theorem dS(bD:PE X e dg):PS X (.Return (some e) pos) (xY dg):=by
 intro aK s σ H D I h;exact wpAny_Return_some (thn (bD aK s σ H _ I h) λv a7 ⟨x,aU,bB,df,c8⟩=>⟨x,σ,aU,bB,df,c8⟩)
noncomputable def xZ (c:TT) (t u:TS):TS:=λD σ H=>c σ H λb aU=>if b=true then t D σ aU else u D σ aU
theorem eU{c:Expr}{a b:List Stmt}{d_:TT}(a8:PT X c d_)(bx:PSs X a t)(aN:PSs X b u):PS X (.If c a b pos) (xZ d_ t u):=by
 intro aK s σ H D I h;refine wpAny_If (thn (a8 aK s σ H _ I h) λd a7 ⟨aU,bB,c8⟩=>?_);cases d with
 |true=>exact bx aK a7 σ aU D bB c8
 |false=>exact aN aK a7 σ aU D bB c8
end
noncomputable abbrev TG:=V→St→Hp→(St→Hp→Prop)→Prop
noncomputable abbrev TGs:=List V→St→Hp→(St→Hp→Prop)→Prop
def PG(X:Cx)(target:Expr)(t:TG):Prop:=
 ∀(aK:List (Addr×Obj))(s:Shared)(σ:St)(H:Hp)(v:V)(u:Value)(Q:St→Hp→Prop),Inv X aK σ H s→dq v u→t v σ H Q→
  wpAny (model X.prog X.w) X.A (assign target X.env u) (λ_ s'=>∃bN H',Inv X aK bN H' s'∧Q bN H') X.xe s
def PGs(X:Cx)(gG:List Expr)(t:TGs):Prop:=
 ∀(aK:List (Addr×Obj))(s:Shared)(σ:St)(H:Hp)(vs:List V)(us:List Value)(Q:St→Hp→Prop),Inv X aK σ H s→dm vs us→t vs σ H Q→
  wpAny (model X.prog X.w) X.A (assignInOrder ((assignEach gG X.env).map (·.2)) us) (λ_ s'=>∃bN H',Inv X aK bN H' s'∧Q bN H') X.xe s
noncomputable abbrev Zcw:=V→V→V→Hp→(Hp→Prop)→Prop
def Zhq(X:Cx)(t:Zcw):Prop:=
 ∀(aK:List (Addr×Obj))(s:Shared)(σ:St)(H:Hp)(o i v:V)(d4 gs u:Value)(Q:Hp→Prop),Inv X aK σ H s→dq o d4→dq i gs→dq v u→t o i v H Q→
  wpAny (model X.prog X.w) X.A (setItem d4 gs u) (λ_ s'=>∃H',Inv X aK σ H' s'∧Q H') X.xe s
noncomputable abbrev TIp:=V→V→Hp→VK→Prop
def PIp(X:Cx)(op:Operator)(t:TIp):Prop:=
 ∀(aK:List (Addr×Obj))(s:Shared)(σ:St)(H:Hp)(x y:V)(v u:Value)(Q:VK),Inv X aK σ H s→dq x v→dq y u→t x y H Q→
  wpAny (model X.prog X.w) X.A (inplaceOp op v u) (EP X aK σ Q) X.xe s
section
variable {X:Cx}{pos:Pos}
noncomputable def VB (i:Nat):TG:=λv σ H Q=>Q (σ.set i (some v)) H
theorem d0{i:Nat}{x:Str}(eG:X.N.Nodup)(hi:X.N[i]? =some x)(aT:Loc X.env.scope x)(bv:X.fn x=true∨X.env.scope.names.lookup x=some .local:=by first|exact .inl rfl|exact .inr rfl|assumption):PG X (.Name x pos) (VB i):=by
 intro aK s σ H v u Q I r h;exact wpAny_assign_Name (pi I eG hi aT r (λs' eT=>⟨_,H,eT,h⟩) bv)
noncomputable def gNil:TGs:=λvs σ H Q=>vs=[]∧Q σ H
noncomputable def x_ (t:TG) (u:TGs):TGs:=λvs σ H Q=>∃v r,vs=v::r∧t v σ H λbN H'=>u r bN H' Q
theorem jI:PGs X [] gNil:=by
 intro aK s σ H vs us Q I r h;obtain⟨e,h⟩:=h;subst e;cases r;exact assignInOrder_nil ⟨σ,H,I,h⟩
theorem f8{e:Expr}{a':List Expr}{t:TG}{u:TGs}(aS:PG X e t)(a2:PGs X a' u)
  (hs:(assignEach (e::a') X.env).map (·.2)=assign e X.env::(assignEach a' X.env).map (·.2):=by rfl):PGs X (e::a') (x_ t u):=by
 intro aK s σ H vs us Q I r h;obtain⟨v,Qp,bw,h⟩:=h;subst bw;cases r with
 |cons r pm=>
  rw[hs];refine assignInOrder_cons (thn (aS aK s σ H _ _ _ I r h) λ_ a7 ⟨n8,aU,bB,c8⟩=>?_);exact a2 aK a7 n8 aU _ _ Q bB pm c8
noncomputable def tJ (K:Frag) (n:Nat) (t:TGs):TG:=λv σ H Q=>∃a xs,v= .ref a∧SqT K H a xs∧xs.length=n∧t xs σ H Q
theorem Zmx{a':List Expr}{k:Nat}{t:TGs}{n:Nat}(a8:X.calm=true)(h:PGs X a' t)
  (bF:(assignEach a' X.env).length=n:=by rfl) (fa:(assignEach a' X.env).findIdx? (·.1)=none:=by rfl):PG X (.Tuple a' k pos) (tJ X.K n t):=by
 intro aK s σ H v u Q I r hw;obtain⟨a,xs,bw,bT,aJ,hw⟩:=hw;subst bw;cases r;obtain⟨its,dC,ce,hz⟩:=I.tuple bT;refine assign_Tuple_tuple (I.ok.hd a8) ce (by simp[bF,←aJ,dC.length]) fa λh' aT=>?_;have bB:Inv X aK σ H {s with heap:=h'}:=I.kept (t':=s.toks) λb o e=>aT b o (qai (Heap.lt_size e)) e;exact h aK _ σ H xs _ Q bB (by simpa using dC) hw
noncomputable def x' (to gu:TE) (t:Zcw):TG:=λv σ H Q=>to σ H λo aU=>gu σ aU λi a4=>t o i v a4 λb_=>Q σ b_
theorem lb{o i:Expr}{to gu:TE}{t:Zcw}(bz:PE X o to)(hi:PE X i gu)(hs:Zhq X t)
  (bx:∀v,assign (.Subscript o i pos) X.env v=(do
   let d4←holding [v] (eval o X.env)
   let gs←holding [v,d4] (eval i X.env)
   standAt pos
   holding [v,d4,gs] (setItem d4 gs v)
   release [v,d4,gs] []):=by intro _;rfl):PG X (.Subscript o i pos) (x' to gu t):=by
 intro aK s σ H v u Q I r h;rw[bx];refine wpAny_bind (wpAny_holding (thn (bz aK s σ H _ I h) λd4 a7 ⟨x,aU,bB,df,c8⟩=>?_));refine wpAny_bind (wpAny_holding (thn (hi aK a7 σ aU _ bB c8) λgs bK ⟨y,a4,ds,dO,dI⟩=>?_));refine wpAny_bind (wpAny_standAt (wpAny_bind (wpAny_holding (thn (hs aK bK σ a4 x y v d4 gs u _ ds df dO r dI) λ_ bM ⟨b_,en,f9⟩=>?_))));exact wpAny_release ⟨σ,b_,en,f9⟩
noncomputable def pp (dg:TE) (g:TG):TS:=λD σ H=>dg σ H λx aU=>g x σ aU D.nx
theorem kA{dr e:Expr}{dg:TE}{g:TG}(bD:PE X e dg)(bc:PG X dr g)(hs:swapsWithSole [dr] e pos.line X.env=pure false:=by rfl)(hw:swappedStores [dr] e X.env=pure none:=by rfl)
  (aS:(assignEach [dr] X.env).map (·.2)=[assign dr X.env]:=by rfl):PS X (.Assign [dr] e pos) (pp dg g):=by
 intro aK s σ H D I h;refine wpAny_Assign_stores (thn (bD aK s σ H _ I h) λv a7 ⟨x,aU,bB,df,c8⟩=>?_) hs hw;rw[aS];exact thn (bc aK a7 σ aU x v _ bB df c8) λ_ bK q=>q
theorem dG{i:Nat}{x:Str}{e:Expr}{dg:TE}{j0:Pos}(eG:X.N.Nodup)(hi:X.N[i]? =some x)(aT:Loc X.env.scope x)(bD:PE X e dg)(hs:swapsWith e (some (.Name x j0)) pos.line X.env=pure false:=by rfl)(bv:X.fn x=true∨X.env.scope.names.lookup x=some .local:=by first|exact .inl rfl|exact .inr rfl|assumption):
  PS X (.Assign [.Name x j0] e pos) (pp dg (VB i)):=by
 intro aK s σ H D I h;refine wpAny_Assign_Name (thn (bD aK s σ H _ I h) λv a7 ⟨y,aU,bB,df,c8⟩=>?_) hs;exact pi bB eG hi aT df (λbK ds=>⟨_,aU,ds,c8⟩) bv
noncomputable def Dq (i:Nat) (dg:TE) (gu:TIp):TS:=λD σ H=>∃x,σ[i]? =some (some x)∧dg σ H λy aU=>gu x y aU λz a4=>D.nx (σ.set i (some z)) a4
theorem ya{i:Nat}{x:Str}{e:Expr}{dg:TE}{op:Operator}{gu:TIp}{j0:Pos}(eG:X.N.Nodup)(hi:X.N[i]? =some x)(aT:Loc X.env.scope x)(bD:PE X e dg)(bz:PIp X op gu)(bv:X.fn x=true∨X.env.scope.names.lookup x=some .local:=by first|exact .inl rfl|exact .inr rfl|assumption):
  PS X (.AugAssign (.Name x j0) op e pos) (Dq i dg gu):=by
 intro aK s σ H D I h;obtain⟨v,bw,h⟩:=h;obtain⟨m,bF,aJ⟩:=I.loc;have Dr:Vis X.env.scope x:=by rcases aT with k|k;exact .inl k;exact .inr (.inl k)
 obtain⟨u,r,l⟩:=aJ i x v hi bw Dr;refine wpAny_AugAssign_Name ?_;have go:wpAny (model X.prog X.w) X.A (eval e X.env) (λw jZ=>wpAny (model X.prog X.w) X.A (inplaceOp op u w) (λr jj=>wpAny (model X.prog X.w) X.A (storeName X.env x r) (λ_=>SP X aK D .next) X.xe jj) X.xe jZ) X.xe s:=by
  refine thn (bD aK s σ H _ I h) λw a7 ⟨y,aU,bB,df,c8⟩=>?_;refine thn (bz aK a7 σ aU v y u w _ bB r df c8) λz bK ⟨Qq,a4,ds,dO,dI⟩=>?_;exact pi ds eG hi aT dO (λbM en=>⟨_,a4,en,dI⟩) bv
 rcases l with⟨a5,bo⟩|⟨a5,c,a8,l2⟩
 ·exact wpAny_loadName_local I.ok.kind a5 bF bo go
 ·rcases a5 with a5|a5
  ·exact wpAny_loadName_cell I.ok.kind a5 a8 l2 go
  ·rcases aT with k|k
   ·have:X.env.scope.names.lookup x=some .free:=a5;rw[k] at this;cases this
   ·have:X.env.scope.names.lookup x=some .free:=a5;rw[k] at this;cases this
noncomputable def yb (to gu dg:TE) (mY:V→V→Hp→VK→Prop) (mZ:TIp) (m0:Zcw):TS:=λD σ H=>to σ H λo aU=>gu σ aU λi a4=>mY o i a4 λx b_=>dg σ b_ λy cw=>mZ x y cw λz b3=>m0 o i z b3 λdN=>D.nx σ dN
def Zkg(X:Cx)(t:V→V→Hp→VK→Prop):Prop:=
 ∀(aK:List (Addr×Obj))(s:Shared)(σ:St)(H:Hp)(o i:V)(d4 gs:Value)(Q:VK),Inv X aK σ H s→dq o d4→dq i gs→t o i H Q→
  wpAny (model X.prog X.w) X.A (getItem d4 gs) (EP X aK σ Q) X.xe s
theorem tK{o i e:Expr}{to gu dg:TE}{mY:V→V→Hp→VK→Prop}{mZ:TIp}{m0:Zcw}{op:Operator}{m1:Pos}(bz:PE X o to)(hi:PE X i gu)(bc:Zkg X mY)(bD:PE X e dg)(bb:PIp X op mZ)(hs:Zhq X m0)
  (bx:∀d4 gs new,augStore i d4 gs new=(do holding [new,d4,gs] (setItem d4 gs new);release [new,d4,gs] [];pure .next):=by intros;rfl):PS X (.AugAssign (.Subscript o i m1) op e pos) (yb to gu dg mY mZ m0):=by
 intro aK s σ H D I h;refine wpAny_AugAssign_SubscriptAny (thn (bz aK s σ H _ I h) λd4 a7 ⟨x1,aU,bB,df,c8⟩=>?_) bx;refine thn (hi aK a7 σ aU _ bB c8) λgs bK ⟨x2,a4,ds,dO,dI⟩=>?_;refine thn (bc aK bK σ a4 x1 x2 d4 gs _ ds df dO dI) λjk bM ⟨x3,b_,en,jJ,f9⟩=>?_;refine thn (bD aK bM σ b_ _ en f9) λv c_ ⟨x4,cw,lc,l5,pq⟩=>?_;refine thn (bb aK c_ σ cw x3 x4 jk v _ lc jJ l5 pq) λnew dt ⟨x5,b3,jK,pr,pu⟩=>?_;exact thn (hs aK dt σ b3 x1 x2 x5 d4 gs new _ jK df dO pr pu) λ_ eB ⟨dN,hg,tL⟩=>⟨σ,dN,hg,tL⟩
noncomputable def ipI (f:Int→Int→Int):TIp:=λx y H Q=>∃i j,x= .int i∧y= .int j∧Q (.int (f i j)) H
theorem tM:PIp X .Add (ipI λi j=>i+j):=by
 intro aK s σ H x y v u Q I df dO h;obtain⟨i,j,bw,bC,q⟩:=h;subst bw;subst bC;obtain⟨t,rfl⟩:=df;obtain⟨t',rfl⟩:=dO;exact iadd_int ⟨.int _,H,I.tok _,⟨_,rfl⟩,q⟩
theorem yc:PIp X .Sub (ipI λi j=>i-j):=by
 intro aK s σ H x y v u Q I df dO h;obtain⟨i,j,bw,bC,q⟩:=h;subst bw;subst bC;obtain⟨t,rfl⟩:=df;obtain⟨t',rfl⟩:=dO;exact isub_int ⟨.int _,H,I.tok _,⟨_,rfl⟩,q⟩
end
section
variable {X:Cx}{pos:Pos}
noncomputable def yd (c:TT) (dy:TS):TS:=λD σ H=>∃W:Nat→St→Hp→Prop,(∃m,W m σ H)∧∀m σ H,W m σ H→
 c σ H λb aU=>if b=true then ∃N:St→Hp→Prop,(∀bN H',N bN H'→∃da,da<m∧W da bN H')∧dy {D with nx:=N,ct:=N,bk:=D.nx} σ aU else D.nx σ aU
theorem pw{c:Expr}{body:List Stmt}{d_:TT}{dy:TS}(bb:PassesOwn (model X.prog X.w) X.A X.env X.xe)(a8:PT X c d_)(aN:PSs X body dy):PS X (.While c body [] pos) (yd d_ dy):=by
 intro aK s σ H D I h;obtain⟨W,⟨h6,f_⟩,turn⟩:=h;refine wpAny_While (codeAny_whileLoop (λn s'=>∃bN H',Inv X aK bN H' s'∧W n bN H') ?_ h6 ⟨σ,H,I,f_⟩);rintro n a7 ⟨n8,aU,bB,g8⟩;refine wpAny_passesOwn bb (thn (a8 aK a7 n8 aU _ bB (turn n n8 aU g8)) λb bK ⟨a4,ds,dI⟩=>?_);cases b with
 |true=>
  obtain⟨N,eG,dI⟩:=dI;rw[if_pos rfl];refine wpAny_passesOwn bb (thn (aN aK bK n8 a4 _ ds dI) λf bM f9=>?_);cases f with
  |next=>
   obtain⟨j1,b_,en,px⟩:=f9;obtain⟨da,bo,pz⟩:=eG j1 b_ px;exact⟨da,bo,j1,b_,en,pz⟩
  |cont=>
   obtain⟨j1,b_,en,px⟩:=f9;obtain⟨da,bo,pz⟩:=eG j1 b_ px;exact⟨da,bo,j1,b_,en,pz⟩
  |brk=>exact f9
  |ret v=>exact f9
 |false=>
  rw[if_neg qag];exact wpAny_execs_nil ⟨n8,a4,ds,dI⟩
end
structure It where
 go:Nat→Hp→Prop
 yld:Nat→Hp→V→Hp→Prop
 stop:Nat→Hp→Prop
def g9(X:Cx)(aK:List (Addr×Obj))(H:Hp)(b:Addr):Prop:=
 H b=none∧b≠X.env.locals∧b∉X.fs∧(b∈X.ex∨X.s₀.heap.objs.size≤b)∧(∀x c,X.env.cells.lookup x=some c→c≠b)∧∀p∈X.pn++aK,p.1≠b
theorem Inv.fpOk{X:Cx}{aK:List (Addr×Obj)}{σ:St}{H H':Hp}{s:Shared}{b:Addr}(I:Inv X aK σ H s)(aN:s.heap.objs.size≤b)(bF:H' b=none):g9 X aK H' b:=by
 refine⟨bF,qcg (qaf I.lt aN),I.nofs aN,.inr (qat I.sz aN),λx c e z=>?_,λp bb z=>?_⟩
 ·obtain⟨v,q⟩:=I.cell x c e;exact absurd (qaf q.lt (by rw[z];exact aN)) (qbe _)
 ·exact absurd (qaf (Heap.lt_size (I.pin p bb).1) (by rw[z];exact aN)) (qbe _)
structure Uf(P:Program)(w:World)(K:Frag)(dr:Expr)(J:It)(fp:List Addr)(it:Addr)(eC:Nat→Heap→Prop):Prop where
 mem:it∈fp
 obj:∀i h,eC i h→∀b∈fp,∃o,h.get? b=some o∧∀v,o.data≠ .cell v
 keep:∀i h h',eC i h→(∀b∈fp,∀o,h.get? b=some o→h'.get? b=some o)→eC i h'
 item:∀(X:Cx),X.prog=P→X.w=w→X.K=K→X.calm=true→∀(i:Nat)(aK:List (Addr×Obj))(s:Shared)(σ:St)(H:Hp)(E:Value→Shared→Prop),Inv X aK σ H s→(∀b∈fp,g9 X aK H b)→eC i s.heap→J.go i H→
  wpAny (model P w) X.A (pyNext (.ref it)) (λr a7=>∃u,r=some u∧
   wpAny (model P w) X.A (letOwnedTupleGo dr (.ref it) u) (λ_ bK=>∃x H',Inv X aK σ H' bK∧dq x u∧J.yld i H x H'∧eC (i+1) bK.heap∧∀b∈fp,H' b=none) E a7) E s
 done:∀(X:Cx),X.prog=P→X.w=w→X.K=K→X.calm=true→∀(i:Nat)(aK:List (Addr×Obj))(s:Shared)(σ:St)(H:Hp)(E:Value→Shared→Prop),Inv X aK σ H s→(∀b∈fp,g9 X aK H b)→eC i s.heap→J.stop i H→
  wpAny (model P w) X.A (pyNext (.ref it)) (λr a7=>r=none∧Inv X aK σ H a7) E s
 self:∀(A:Around)(i:Nat)(s:Shared)(Q:Value→Shared→Prop)(E:Value→Shared→Prop),eC i s.heap→Q (.ref it) s→wpAny (model P w) A (pyIter (.ref it)) Q E s
noncomputable abbrev TI:=St→Hp→(It→Hp→Prop)→Prop
def PIE(X:Cx)(aK:List (Addr×Obj))(σ:St)(dr:Expr)(R:It→Hp→Prop)(lf:Value)(bK:Shared):Prop:=
 ∃(it:Addr)(fp:List Addr)(eC:Nat→Heap→Prop)(J:It)(H':Hp),lf= .ref it∧Inv X aK σ H' bK∧Uf X.prog X.w X.K dr J fp it eC∧eC 0 bK.heap∧(∀b∈fp,g9 X aK H' b)∧R J H'
def PI(X:Cx)(dr eL:Expr)(e0:TI):Prop:=
 ∀(aK:List (Addr×Obj))(s:Shared)(σ:St)(H:Hp)(R:It→Hp→Prop),Inv X aK σ H s→e0 σ H R→
  wpAny (model X.prog X.w) X.A (eval eL X.env) (λv a7=>wpAny (model X.prog X.w) X.A (pyIter v) (PIE X aK σ dr R) X.xe a7) X.xe s
theorem m2{M:Model}{A:Around}{E:Value→Shared→Prop}{s:Shared}{dr:Expr}{it:Addr}{u:Value}{o:Obj}{n:String}{vs:Array Value}{Q:Unit→Shared→Prop}(bz:s.heap.get? it=some o)(a8:o.cls= .type n)(hd:o.data= .fields vs)
  (bF:["enumerate","zip","dict_itemiterator","dict_reverseitemiterator","odict_iterator","itertools.zip_longest","itertools.pairwise"].contains n=false) (fA:Q () s):wpAny M A (letOwnedTupleGo dr (.ref it) u) Q E s:=by
 unfold letOwnedTupleGo;cases dr<;>first
  |exact wpAny_pure fA
  |(cases u<;>first
    |exact wpAny_pure fA
    |(refine wpAny_bind (wpAny_load bz ?_)
      rw[a8,hd];show wpAny M A (if(["enumerate","zip","dict_itemiterator","dict_reverseitemiterator","odict_iterator","itertools.zip_longest","itertools.pairwise"].contains n&&vs[0]? ==some (rawInt _))=true then _ else _) Q E s;rw[if_neg (by intro h;rw[bF,Bool.false_and] at h;cases h)];exact wpAny_pure fA))
noncomputable def Itl (K:Frag) (a:Addr):It:=
 ⟨λi H=>∃xs x,SqL K H a xs∧xs[i]? =some x,λi H x H'=>H'=H∧∀xs,SqL K H a xs→xs[i]? =some x,λi H=>∃xs,SqL K H a xs∧xs.length≤i⟩
noncomputable def Itr (lo:Int) (n:Nat):It:=⟨λi _=>i<n,λi H x H'=>H'=H∧x= .int (lo+i),λi _=>n≤i⟩
theorem Ds{P:Program}{w:World}{K:Frag}{dr:Expr}(a it:Addr):Uf P w K dr (Itl K a) [it] it (λi h=>h.IsListIter it a i) where
 mem:=by simp
 obj:=λi h st b aN=>by
  have e:b=it:=by simpa using aN
  subst e;obtain⟨o,e,c,d⟩:=st;exact⟨o,e,λv z=>by rw[d] at z;cases z⟩
 keep:=λi h h' st k=>st.at λo e=>k it (by simp) o e
 item:=by
  intro X d1 hw eJ a8 i aK s σ H E I bv st bc;subst d1 hw eJ;obtain⟨xs,x,bT,aT⟩:=bc;obtain⟨its,dC,p,hz⟩:=I.list bT;obtain⟨u,hu,eD⟩:=dC.get aT;obtain⟨ef,f1,f2,dR,eH,ev⟩:=bv it (by simp);refine wpAny_pyNext_list_item st p.isList (x:=u) (by simpa using hu) λh' gV hh=>?_;have bB:Inv X aK σ H {s with heap:=h'}:=I.turned (t':=s.toks) (λb o aN e=>(hh.2 b aN).trans e) ef f1 dR eH ev;obtain⟨o,e,c,d⟩:=id gV;exact⟨u,rfl,m2 (s:={s with heap:=h'}) e c d (by decide) ⟨x,H,bB,eD,⟨rfl,λys bE=>by rw[I.list_inj bE bT];exact aT⟩,gV,λb aN=>(bv b aN).1⟩⟩
 done:=by
  intro X d1 hw eJ a8 i aK s σ H E I bv st bc;subst d1 hw eJ;obtain⟨xs,bT,aT⟩:=bc;obtain⟨its,dC,p,hz⟩:=I.list bT;obtain⟨ef,f1,f2,dR,eH,ev⟩:=bv it (by simp);have aJ:=dC.length;exact wpAny_pyNext_list_end (I.ok.hd a8) st p.isList (by simp;omega) λh' dJ=>⟨rfl,I.turned (t':=s.toks) (λb o aN e=>dJ b o aN e) ef f1 dR eH ev⟩
 self:=λ_ _ _ _ _ st h=>wpAny_pyIter_listiter st h
theorem Dt{P:Program}{w:World}{K:Frag}{dr:Expr}(it:Addr)(lo:Int)(n:Nat):Uf P w K dr (Itr lo n) [it] it (λi h=>IsRangeIter h it (lo+(i:Nat)*1) ((n:Int)-(i:Nat)) 1) where
 mem:=by simp
 obj:=λi h st b aN=>by
  have e:b=it:=by simpa using aN
  subst e;exact⟨_,st,λv z=>by
   have gq:Data.fields _=Data.cell v:=z;cases gq⟩
 keep:=λi h h' st k=>k it (by simp) _ st
 item:=by
  intro X d1 hw eJ a8 i aK s σ H E I bv st bc;subst d1 hw eJ;obtain⟨ef,f1,f2,dR,eH,ev⟩:=bv it (by simp);have W:=Walks.range (prog:=X.prog) (w:=X.w) (I.ok.hd a8) it lo 1 n;refine W.item i s _ _ bc st λv h' bL cv gV jL=>?_;obtain⟨t,rfl⟩:=cv;have bB:Inv X aK σ H {s with heap:=h',toks:=bL}:=I.turned (λb o aN e=>jL b o (by simpa using aN) e) ef f1 dR eH ev;refine⟨_,rfl,m2 (s:={s with heap:=h',toks:=bL}) (n:="range_iterator") gV rfl rfl (by decide) ⟨.int (lo+i),H,bB,⟨t,?_⟩,⟨rfl,rfl⟩,gV,λb aN=>(bv b aN).1⟩⟩;rw[Int.mul_one]
 done:=by
  intro X d1 hw eJ a8 i aK s σ H E I bv st bc;subst d1 hw eJ;obtain⟨ef,f1,f2,dR,eH,ev⟩:=bv it (by simp);exact wpAny_pyNext_range_end (I.ok.hd a8) st (by have:n≤i:=bc;omega) λh' dJ=>⟨rfl,I.turned (t':=s.toks) (λb o aN e=>dJ b o aN e) ef f1 dR eH ev⟩
 self:=λ_ _ _ _ _ st h=>wpAny_pyIter_rangeiter st h
section
variable {X:Cx}{dr:Expr}
noncomputable def tN (K:Frag) (ei:TE):TI:=λσ H R=>ei σ H λx aU=>∃a,x= .ref a∧(∃xs,SqL K aU a xs)∧R (Itl K a) aU
theorem Zmk{l:Expr}{ei:TE}(aJ:PE X l ei):PI X dr l (tN X.K ei):=by
 intro aK s σ H R I h;refine thn (aJ aK s σ H _ I h) λv a7 ⟨x,aU,bB,df,c8⟩=>?_;obtain⟨a,e,⟨xs,bT⟩,q⟩:=c8;subst e;cases df;obtain⟨its,dC,p,hz⟩:=bB.list bT;refine wpAny_pyIter_list p.isList ?_;refine⟨a7.heap.objs.size,[a7.heap.objs.size],_,_,aU,rfl,bB.kept (t':=a7.toks) λb o e=>Heap.get?_push_of_some _ e,Ds a _,⟨_,Heap.get?_push_size _ rfl,rfl,rfl⟩,λb aN=>?_,q⟩;have e:b=a7.heap.objs.size:=by simpa using aN
 subst e;exact bB.fpOk (fm _) (bB.hok.fresh (fm _))
theorem Du{aK:List (Addr×Obj)}{σ:St}{H:Hp}{s:Shared}{R:It→Hp→Prop}{E:Value→Shared→Prop}{lo hi:Int}{t u v:Tok}{bL:Nat}(I:Inv X aK σ H s)(aS: -(2 ^ 62)≤lo)(a2:lo<2 ^ 62)(bU: -(2 ^ 62)≤hi)(dD:hi<2 ^ 62)
  (q:R (Itr lo (hi-lo).toNat) H):wpAny (model X.prog X.w) X.A (pyIter (.ref s.heap.objs.size)) (PIE X aK σ dr R) E {s with heap:=s.heap.push {cls:= .type "range",data:= .fields #[.int lo t,.int hi u,.int 1 v]},toks:=bL}:=by
 refine wpAny_pyIter_range (IsRange.new ..) (small_one aS a2 bU dD) ?_;have bB:Inv X aK σ H {s with heap:=s.heap.push {cls:= .type "range",data:= .fields #[.int lo t,.int hi u,.int 1 v]},toks:=bL}:=I.kept λb o e=>Heap.get?_push_of_some _ e;refine⟨(s.heap.push {cls:= .type "range",data:= .fields #[.int lo t,.int hi u,.int 1 v]}).objs.size,[(s.heap.push {cls:= .type "range",data:= .fields #[.int lo t,.int hi u,.int 1 v]}).objs.size],_,_,H,rfl,
  bB.kept (t':=bL) λb o e=>Heap.get?_push_of_some _ e,Dt _ lo (hi-lo).toNat,?_,λb aN=>?_,q⟩
 ·have bw:lo+((0:Nat):Int)*1=lo:=by simp
  have bC:(((hi-lo).toNat:Nat):Int)-((0:Nat):Int)=Builtin.Range.rangeSize lo hi 1:=by rw[rangeSize_one];split<;>omega
  show IsRangeIter _ _ (lo+((0:Nat):Int)*1) ((((hi-lo).toNat:Nat):Int)-((0:Nat):Int)) 1;rw[bw,bC];exact Heap.get?_push_size _ rfl
 ·have e:b=(s.heap.push {cls:= .type "range",data:= .fields #[.int lo t,.int hi u,.int 1 v]}).objs.size:=by simpa using aN
  subst e;exact bB.fpOk (fm _) (bB.hok.fresh (fm _))
noncomputable def ye (bA:TA):TI:=λσ H R=>bA σ H λvs aU=>∃j:Int,vs=[.int j]∧ -(2 ^ 62)≤j∧j<2 ^ 62∧R (Itr 0 j.toNat) aU
theorem l6{a:Expr}{bA:TA}{p pos:Pos}(bc:Gl X "range")(bo:X.mg "range" =none)(bx:PA X [a] bA)(hs:starEach [a] X.env=[(false,eval a X.env)]:=by rfl):PI X dr (.Call (.Name "range" p) [a] [] pos) (ye bA):=by
 intro aK s σ H R I h;refine Call_ (jH I bc bo boot_range (qaT (thn (bx pos aK s σ H _ I h) λus a7 ⟨vs,aU,bB,df,c8⟩=>?_) hs rfl));obtain⟨j,e,c8,dI,q⟩:=c8;subst e;cases df with
 |cons r pm=>
  cases pm;obtain⟨t,rfl⟩:=r;exact call_range_1 (Du bB (by omega) (by omega) c8 dI (by simpa using q))
noncomputable def yf (e0:TI) (g:TG) (dy:TS):TS:=λD σ H=>e0 σ H λJ aU=>∃W:Nat→Nat→St→Hp→Prop,(∃m,W 0 m σ aU)∧∀i m σ H,W i m σ H→
 (J.stop i H∧D.nx σ H)∨(J.go i H∧∃N:St→Hp→Prop,(∀bN H',N bN H'→∃da,da<m∧W (i+1) da bN H')∧∀x H',J.yld i H x H'→g x σ H' λdn a4=>dy {D with nx:=N,ct:=N,bk:=D.nx} dn a4)
noncomputable def Zas (fp:List Addr) (h:Heap):List (Addr×Obj):=fp.filterMap λb=>(h.get? b).map λo=>(b,o)
theorem n9{fp:List Addr}{h:Heap}{b:Addr}{o:Obj}(aN:b∈fp)(e:h.get? b=some o):(b,o)∈Zas fp h:=List.mem_filterMap.mpr ⟨b,aN,by rw[e];rfl⟩
theorem Zjs{fp:List Addr}{h:Heap}{p:Addr×Obj}(bb:p∈Zas fp h):p.1∈fp∧h.get? p.1=some p.2:=by
 obtain⟨b,aN,e⟩:=List.mem_filterMap.mp bb;cases q:h.get? b with
 |none=>rw[q] at e;cases e
 |some o=>
  rw[q] at e;have b1:(b,o)=p:=qam e;subst b1;exact⟨aN,q⟩
theorem Inv.pinned{aK:List (Addr×Obj)}{σ:St}{H:Hp}{s:Shared}{fp:List Addr}(I:Inv X aK σ H s)(bv:∀b∈fp,g9 X aK H b)(bz:∀b∈fp,∃o,s.heap.get? b=some o∧∀v,o.data≠ .cell v):Inv X (aK++Zas fp s.heap) σ H s:=
 I.pins_of λp bb=>(qax.mp bb).elim (λz=>I.pin p (qar _ z)) λz=>by
  obtain⟨aN,e⟩:=Zjs z;obtain⟨ef,f1,f2,_⟩:=bv p.1 aN;obtain⟨o,b1,d⟩:=bz p.1 aN;rw[e] at b1;cases b1;exact⟨e,ef,f1,f2,d⟩
theorem Inv.unpinned{aK pl:List (Addr×Obj)}{σ:St}{H:Hp}{s:Shared}(I:Inv X (aK++pl) σ H s):Inv X aK σ H s:=I.pins_of λp bb=>I.pin p (qar _ (qa5 _ bb))
theorem gh{eL:Expr}{body:List Stmt}{e0:TI}{g:TG}{dy:TS}{pos:Pos}(bb:PassesOwn (model X.prog X.w) X.A X.env X.xe)(a8:X.calm=true)(hi:PI X dr eL e0)(bc:PG X dr g)(aN:PSs X body dy)
  (hs:∀x,foldedSetIterable eL X.env x=pure x:=by intro _;rfl):PS X (.For dr eL body [] pos) (yf e0 g dy):=by
 intro aK s σ H D I h;refine wpAny_For (thn (hi aK s σ H _ I h) λv a7 aS=>thn aS λlf bK a2=>?_) hs;obtain⟨it,fp,eC,J,a4,e,ds,T,j2,f2,W,⟨h6,f_⟩,turn⟩:=a2;subst e;have tO:∀{H':Hp},(∀b∈fp,H' b=none)→∀b∈fp,g9 X aK H' b:=λbF b aN=>⟨bF b aN,(f2 b aN).2⟩;refine codeAny_forLoop_any (λn s'=>∃i bN H',Inv X aK bN H' s'∧eC i s'.heap∧(∀b∈fp,H' b=none)∧W i n bN H') ?_ h6 ⟨0,σ,a4,ds,j2,λb aN=>(f2 b aN).1,f_⟩;rintro n bM ⟨i,j1,b_,en,kB,kD,pz⟩;rcases turn i n j1 b_ pz with⟨stop,m3⟩|⟨go,N,eG,step⟩
 ·refine wpAny_passesOwn bb (thn (T.done X rfl rfl rfl a8 i aK bM j1 b_ X.xe en (tO kD) kB stop) λr c_ ⟨a3,lc⟩=>?_);subst a3;exact wpAny_execs_nil ⟨j1,b_,lc,m3⟩
 ·refine wpAny_passesOwn bb (thn (T.item X rfl rfl rfl a8 i aK bM j1 b_ X.xe en (tO kD) kB go) λr c_ ⟨u,a3,dD⟩=>?_);subst a3;refine wpAny_passesOwn bb (thn dD λ_ dt ⟨x,b3,jK,pr,Dv,lg,iP⟩=>?_);have Dw:=jK.pinned (tO iP) (T.obj _ _ lg);refine wpAny_passesOwn bb (thn (bc _ dt j1 b3 x u _ Dw pr (step x b3 Dv)) λ_ eB ⟨Dx,dN,hg,tL⟩=>?_);refine wpAny_passesOwn bb (thn (aN _ eB Dx dN _ hg tL) λf e8 l7=>?_);have again:∀{j3:St}{ed:Hp},Inv X (aK++Zas fp dt.heap) j3 ed e8→N j3 ed→∃m,m<n∧∃i bN H',Inv X aK bN H' e8∧eC i e8.heap∧(∀b∈fp,H' b=none)∧W i m bN H':=λ{j3 ed} hW pA=>by
   obtain⟨da,bo,Dy⟩:=eG j3 ed pA;refine⟨da,bo,i+1,j3,ed,hW.unpinned,T.keep _ _ _ lg λb aN o e=>(hW.pin (b,o) (qar _ (qar _ (n9 aN e)))).1,λb aN=>?_,Dy⟩;obtain⟨o,e,d⟩:=T.obj _ _ lg b aN;exact(hW.pin (b,o) (qar _ (qar _ (n9 aN e)))).2.1
  cases f with
  |next=>obtain⟨j3,ed,hW,pA⟩:=l7;exact again hW pA
  |cont=>obtain⟨j3,ed,hW,pA⟩:=l7;exact again hW pA
  |brk=>obtain⟨j3,ed,hW,l7⟩:=l7;exact⟨j3,ed,hW.unpinned,l7⟩
  |ret v=>obtain⟨x7,j3,ed,hW,pB,l7⟩:=l7;exact⟨x7,j3,ed,hW.unpinned,pB,l7⟩
end
theorem U5{lo:Int}{n:Nat}{g:TG}{dy:TS}{D:Ends}{σ:St}{H:Hp}(Pv:Nat→St→Hp→Prop)(de:Pv 0 σ H)
  (hs:∀i σ H,i<n→Pv i σ H→g (.int (lo+i)) σ H λdn a4=>dy {D with nx:=Pv (i+1),ct:=Pv (i+1),bk:=D.nx} dn a4) (hd:∀σ H,Pv n σ H→D.nx σ H):
  ∃W:Nat→Nat→St→Hp→Prop,(∃m,W 0 m σ H)∧∀i m σ H,W i m σ H→
   ((Itr lo n).stop i H∧D.nx σ H)∨((Itr lo n).go i H∧∃N:St→Hp→Prop,(∀bN H',N bN H'→∃da,da<m∧W (i+1) da bN H')∧∀x H',(Itr lo n).yld i H x H'→g x σ H' λdn a4=>dy {D with nx:=N,ct:=N,bk:=D.nx} dn a4):=by
 refine⟨λi m σ H=>m=n-i∧i≤n∧Pv i σ H,⟨n,by simp,qav _,de⟩,?_⟩;rintro i m σ H ⟨rfl,hi,p⟩
 by_cases du:i<n
 ·refine .inr ⟨du,Pv (i+1),λbN H' fc=>⟨n-(i+1),by omega,rfl,du,fc⟩,λx H' y=>?_⟩;obtain⟨e,y⟩:=y;subst e y;exact hs i σ _ du p
 ·have e:i=n:=by omega
  subst e;exact .inl ⟨fm _,hd σ H p⟩
noncomputable abbrev R2:=V→V→Hp→VK→Prop
def OpR(X:Cx)(f:Value→Value→Sem Value)(r:R2):Prop:=
 ∀(aK:List (Addr×Obj))(s:Shared)(σ:St)(H:Hp)(x y:V)(v u:Value)(Q:VK),Inv X aK σ H s→dq x v→dq y u→r x y H Q→
  wpAny (model X.prog X.w) X.A (f v u) (EP X aK σ Q) X.xe s
def UnR(X:Cx)(f:Value→Sem Value)(r:V→Hp→VK→Prop):Prop:=
 ∀(aK:List (Addr×Obj))(s:Shared)(σ:St)(H:Hp)(x:V)(v:Value)(Q:VK),Inv X aK σ H s→dq x v→r x H Q→
  wpAny (model X.prog X.w) X.A (f v) (EP X aK σ Q) X.xe s
def Z8(X:Cx)(f:Value)(r:List V→Hp→VK→Prop):Prop:=
 ∀(aK:List (Addr×Obj))(s:Shared)(σ:St)(H:Hp)(xs:List V)(us:List Value)(Q:VK),Inv X aK σ H s→dm xs us→r xs H Q→
  wpAny (model X.prog X.w) X.A (call f us) (EP X aK σ Q) X.xe s
def Zoz(X:Cx)(r:V→Hp→(Bool→Hp→Prop)→Prop):Prop:=
 ∀(aK:List (Addr×Obj))(s:Shared)(σ:St)(H:Hp)(x:V)(v:Value)(Q:Bool→Hp→Prop),Inv X aK σ H s→dq x v→r x H Q→
  wpAny (model X.prog X.w) X.A (truthy v) (TP X aK σ Q) X.xe s
noncomputable def tOp (r:R2) (bA dy:TE):TE:=λσ H Q=>bA σ H λx aU=>dy σ aU λy a4=>r x y a4 Q
noncomputable def tUn (r:V→Hp→VK→Prop) (bA:TE):TE:=λσ H Q=>bA σ H λx aU=>r x aU Q
noncomputable def rI (C:Int→Int→Prop) (g:Int→Int→V):R2:=λx y H Q=>∃i j,x= .int i∧y= .int j∧C i j∧Q (g i j) H
noncomputable def rI0 (g:Int→Int→V):R2:=λx y H Q=>∃i j,x= .int i∧y= .int j∧Q (g i j) H
noncomputable def rU (g:Int→V):V→Hp→VK→Prop:=λx H Q=>∃i,x= .int i∧Q (g i) H
section
variable {X:Cx}{a b c:Expr}{bA dy d_:TE}{pos:Pos}
theorem tP(bx:PE X a bA)(aN:PE X b dy){aK:List (Addr×Obj)}{s:Shared}{σ:St}{H:Hp}{R:V→V→Hp→Prop}(I:Inv X aK σ H s)
  (h:bA σ H λx aU=>dy σ aU λy a4=>R x y a4) {Q:Value→Shared→Prop} {f:Value→Value→Sem Value}
  (bv:∀v u bK x y a4,Inv X aK σ a4 bK→dq x v→dq y u→R x y a4→wpAny (model X.prog X.w) X.A (f v u) Q X.xe bK):
  wpAny (model X.prog X.w) X.A (eval a X.env) (λv eh=>wpAny (model X.prog X.w) X.A (eval b X.env) (λu jZ=>wpAny (model X.prog X.w) X.A (f v u) Q X.xe jZ) X.xe eh) X.xe s:=by
 refine thn (bx aK s σ H _ I h) λv a7 ⟨x,aU,bB,df,c8⟩=>?_;refine thn (aN aK a7 σ aU _ bB c8) λu bK ⟨y,a4,ds,dO,dI⟩=>?_;exact bv v u bK x y a4 ds df dO dI
theorem dE{op:Operator}{r:R2}(bz:OpR X (binaryOp op) r)(bx:PE X a bA)(aN:PE X b dy):PE X (.BinOp a op b pos) (tOp r bA dy):=by
 intro aK s σ H Q I h;exact wpAny_BinOp (tP bx aN I h λv u bK x y a4 ds bO c9 q=>bz aK bK σ a4 x y v u Q ds bO c9 q)
theorem tQ{op:UnaryOp}{r:V→Hp→VK→Prop}(bz:UnR X (unaryOp op) r)(bx:PE X a bA):PE X (.UnaryOp op a pos) (tUn r bA):=by
 intro aK s σ H Q I h;exact UnaryOp_ (thn (bx aK s σ H _ I h) λv a7 ⟨x,aU,bB,df,c8⟩=>bz aK a7 σ aU x v Q bB df c8)
theorem opI{f:Value→Value→Sem Value}{C:Int→Int→Prop}{g:Int→Int→Int}
  (rule:∀(i j:Int)(t u:Tok)(s:Shared)(Q:Value→Shared→Prop)(E:Value→Shared→Prop),C i j→Q (.int (g i j) s.toks) {s with toks:=s.toks+1}→wpAny (model X.prog X.w) X.A (f (.int i t) (.int j u)) Q E s):
  OpR X f (rI C λi j=> .int (g i j)):=by
 intro aK s σ H x y v u Q I bO c9 h;obtain⟨i,j,rfl,rfl,a8,q⟩:=h;obtain⟨t,rfl⟩:=bO;obtain⟨t',rfl⟩:=c9;exact rule i j t t' s _ _ a8 ⟨.int (g i j),H,I.tok _,⟨_,rfl⟩,q⟩
theorem Zmr{f:Value→Value→Sem Value}{g:Int→Int→Int}
  (rule:∀(i j:Int)(t u:Tok)(s:Shared)(Q:Value→Shared→Prop)(E:Value→Shared→Prop),Q (.int (g i j) s.toks) {s with toks:=s.toks+1}→wpAny (model X.prog X.w) X.A (f (.int i t) (.int j u)) Q E s):
  OpR X f (rI0 λi j=> .int (g i j)):=by
 intro aK s σ H x y v u Q I bO c9 h;obtain⟨i,j,rfl,rfl,q⟩:=h;obtain⟨t,rfl⟩:=bO;obtain⟨t',rfl⟩:=c9;exact rule i j t t' s _ _ ⟨.int (g i j),H,I.tok _,⟨_,rfl⟩,q⟩
theorem Zlf{f:Value→Value→Sem Value}{g:Int→Int→Bool}
  (rule:∀(i j:Int)(t u:Tok)(s:Shared)(Q:Value→Shared→Prop)(E:Value→Shared→Prop),Q (.bool (g i j)) s→wpAny (model X.prog X.w) X.A (f (.int i t) (.int j u)) Q E s):
  OpR X f (rI0 λi j=> .bl (g i j)):=by
 intro aK s σ H x y v u Q I bO c9 h;obtain⟨i,j,rfl,rfl,q⟩:=h;obtain⟨t,rfl⟩:=bO;obtain⟨t',rfl⟩:=c9;exact rule i j t t' s _ _ ⟨.bl (g i j),H,I,rfl,q⟩
def ZmB(i j:Int):Prop:=0≤j∧j≤1000000∧i.natAbs<2 ^ 64
def Zhu(i j:Int):Prop:=(-(2 ^ 64)<i∧i<2 ^ 64)∨(-(2 ^ 64)<j∧j<2 ^ 64)
theorem Zhu.ok{i j:Int}(h:Zhu i j):IntMulOk i j:=by
 rcases h with⟨aS,a2⟩|⟨aS,a2⟩
 ·exact .of_left (intBits_le_64 aS a2)
 ·exact .of_right (intBits_le_64 aS a2)
theorem Dz:OpR X (binaryOp .Add) (rI0 λi j=> .int (i+j)):=Zmr λ_ _ _ _ _ _ _ q=>add_int q
theorem l8:OpR X (binaryOp .Sub) (rI0 λi j=> .int (i-j)):=Zmr λ_ _ _ _ _ _ _ q=>sub_int q
theorem gH:OpR X (binaryOp .Mod) (rI (λ_ j=>0<j) λi j=> .int (i % j)):=opI λi j _ _ _ _ _ a8 q=>by
 have aS:(0:Int)<j:=a8;exact mod_int' (by omega) (by rw[qb1 i (by omega)];exact q)
theorem rA:OpR X (binaryOp .Pow) (rI ZmB λi j=> .int (i ^ j.toNat)):=opI λ_ _ _ _ _ _ _ a8 q=>pow_int_small a8.1 a8.2.1 a8.2.2 q
theorem unI{f:Value→Sem Value}{g:Int→Int}
  (rule:∀(i:Int)(t:Tok)(s:Shared)(Q:Value→Shared→Prop)(E:Value→Shared→Prop),Q (.int (g i) s.toks) {s with toks:=s.toks+1}→wpAny (model X.prog X.w) X.A (f (.int i t)) Q E s):
  UnR X f (rU λi=> .int (g i)):=by
 intro aK s σ H x v Q I bO h;obtain⟨i,rfl,q⟩:=h;obtain⟨t,rfl⟩:=bO;exact rule i t s _ _ ⟨.int (g i),H,I.tok _,⟨_,rfl⟩,q⟩
theorem tR:UnR X (unaryOp .USub) (rU λi=> .int (-i)):=unI λ_ _ _ _ _ q=>neg_int q
end
noncomputable def yg:V→V→Bool
 | .non,.non=>true| .non,.int _=>true| .int _,.non=>true| .non,.bl _=>true| .bl _,.non=>true| .non,.str _=>true| .str _,.non=>true
 | .int _,.int _=>true| .bl _,.bl _=>true| .str _,.str _=>true| .byt _,.byt _=>true
 | .int _,.str _=>true| .str _,.int _=>true| .bl _,.str _=>true| .str _,.bl _=>true
 |_,_=>false
noncomputable def rEq:R2:=λx y H Q=>yg x y=true∧Q (.bl (decide (x=y))) H
noncomputable def rNe:R2:=λx y H Q=>yg x y=true∧Q (.bl (!decide (x=y))) H
theorem Zg8{i j:Int}:decide (V.int i=V.int j)=(i==j):=by
 rw[qbr];simp
theorem Zjq{i j:Bool}:decide (V.bl i=V.bl j)=(i==j):=by
 rw[qbr];simp
theorem Zhf{i j:Str}:decide (V.str i=V.str j)=(i==j):=by
 rw[qbr];simp
theorem Zg4{i j:Array UInt8}:decide (V.byt i=V.byt j)=(i.toList==j.toList):=by
 rw[qbr];cases i;cases j;simp
section
variable {X:Cx}{a b c:Expr}{bA dy d_:TE}{pos:Pos}
theorem fv{aK:List (Addr×Obj)}{σ:St}{H:Hp}{s:Shared}{Q:VK}{k gI:Bool}(I:Inv X aK σ H s)(q:Q (.bl k) H)(e:k=gI):EP X aK σ Q (.bool gI) s:=by
 subst e;exact⟨.bl k,H,I,rfl,q⟩
theorem DB:OpR X (compareOp .Eq) rEq:=by
 intro aK s σ H x y v u Q I bO c9 h;obtain⟨hs,q⟩:=h;cases x with
 |non=>
  cases bO;cases y with
  |non=>cases c9;exact PySem.EqNone.eq_none_none (fv I q (by simp))
  |bl j=>cases c9;exact PySem.EqNone.eq_none_bool (fv I q (by simp))
  |int j=>obtain⟨t',rfl⟩:=c9;exact PySem.EqNone.eq_none_int (fv I q (by simp))
  |str j=>obtain⟨t',rfl⟩:=c9;exact PySem.EqNone.eq_none_str (fv I q (by simp))
  |_=>exact absurd (show false=true from hs) qag
 |bl i=>
  cases bO;cases y with
  |non=>cases c9;exact PySem.EqNone.eq_bool_none (fv I q (by simp))
  |bl j=>cases c9;exact eq_bool (fv I q Zjq)
  |str j=>obtain⟨t',rfl⟩:=c9;exact PySem.EqMixed.eq_bool_str (fv I q (by simp))
  |_=>exact absurd (show false=true from hs) qag
 |int i=>
  obtain⟨t,rfl⟩:=bO;cases y with
  |non=>cases c9;exact PySem.EqNone.eq_int_none (fv I q (by simp))
  |int j=>obtain⟨t',rfl⟩:=c9;exact eq_int (fv I q Zg8)
  |str j=>obtain⟨t',rfl⟩:=c9;exact PySem.EqMixed.eq_int_str (fv I q (by simp))
  |_=>exact absurd (show false=true from hs) qag
 |str i=>
  obtain⟨t,rfl⟩:=bO;cases y with
  |non=>cases c9;exact PySem.EqNone.eq_str_none (fv I q (by simp))
  |bl j=>cases c9;exact PySem.EqMixed.eq_str_bool (fv I q (by simp))
  |int j=>obtain⟨t',rfl⟩:=c9;exact PySem.EqMixed.eq_str_int (fv I q (by simp))
  |str j=>obtain⟨t',rfl⟩:=c9;exact eq_str (fv I q Zhf)
  |_=>exact absurd (show false=true from hs) qag
 |byt i=>
  obtain⟨t,rfl⟩:=bO;cases y with
  |byt j=>obtain⟨t',rfl⟩:=c9;exact PySem.W.eq_bytes (fv I q Zg4)
  |_=>exact absurd (show false=true from hs) qag
 |_=>cases y<;>exact absurd (show false=true from hs) qag
theorem DC:OpR X (compareOp .NotEq) rNe:=by
 intro aK s σ H x y v u Q I bO c9 h;obtain⟨hs,q⟩:=h;cases x with
 |non=>
  cases bO;cases y with
  |non=>cases c9;exact PySem.EqNone.ne_none_none (fv I q (by simp))
  |bl j=>cases c9;exact PySem.EqNone.ne_none_bool (fv I q (by simp))
  |int j=>obtain⟨t',rfl⟩:=c9;exact PySem.EqNone.ne_none_int (fv I q (by simp))
  |str j=>obtain⟨t',rfl⟩:=c9;exact PySem.EqNone.ne_none_str (fv I q (by simp))
  |_=>exact absurd (show false=true from hs) qag
 |bl i=>
  cases bO;cases y with
  |non=>cases c9;exact PySem.EqNone.ne_bool_none (fv I q (by simp))
  |bl j=>cases c9;exact ne_bool (fv I q (congrArg not Zjq))
  |str j=>obtain⟨t',rfl⟩:=c9;exact PySem.EqMixed.ne_bool_str (fv I q (by simp))
  |_=>exact absurd (show false=true from hs) qag
 |int i=>
  obtain⟨t,rfl⟩:=bO;cases y with
  |non=>cases c9;exact PySem.EqNone.ne_int_none (fv I q (by simp))
  |int j=>obtain⟨t',rfl⟩:=c9;exact ne_int (fv I q (congrArg not Zg8))
  |str j=>obtain⟨t',rfl⟩:=c9;exact PySem.EqMixed.ne_int_str (fv I q (by simp))
  |_=>exact absurd (show false=true from hs) qag
 |str i=>
  obtain⟨t,rfl⟩:=bO;cases y with
  |non=>cases c9;exact PySem.EqNone.ne_str_none (fv I q (by simp))
  |bl j=>cases c9;exact PySem.EqMixed.ne_str_bool (fv I q (by simp))
  |int j=>obtain⟨t',rfl⟩:=c9;exact PySem.EqMixed.ne_str_int (fv I q (by simp))
  |str j=>obtain⟨t',rfl⟩:=c9;exact ne_str (fv I q (congrArg not Zhf))
  |_=>exact absurd (show false=true from hs) qag
 |byt i=>
  obtain⟨t,rfl⟩:=bO;cases y with
  |byt j=>obtain⟨t',rfl⟩:=c9;exact PySem.W.ne_bytes (fv I q (congrArg not Zg4))
  |_=>exact absurd (show false=true from hs) qag
 |_=>cases y<;>exact absurd (show false=true from hs) qag
theorem m4:OpR X (compareOp .Lt) (rI0 λi j=> .bl (decide (i<j))):=Zlf λ_ _ _ _ _ _ _ q=>lt_int q
theorem m5:OpR X (compareOp .Gt) (rI0 λi j=> .bl (decide (j<i))):=Zlf λ_ _ _ _ _ _ _ q=>gt_int q
theorem pC:OpR X (compareOp .GtE) (rI0 λi j=> .bl (decide (j≤i))):=Zlf λ_ _ _ _ _ _ _ q=>ge_int q
theorem rB:OpR X (compareOp .Is) (λx y H Q=>y= .non∧Q (.bl (decide (x= .non))) H):=by
 intro aK s σ H x y v u Q I bO c9 h;obtain⟨rfl,q⟩:=h;cases c9;refine is_none_gen (fv I q ?_);cases x<;>first
  |(cases bO;rfl)
  |(obtain⟨t,rfl⟩:=bO;rfl)
theorem yh:OpR X (compareOp .IsNot) (λx y H Q=>y= .non∧Q (.bl (!decide (x= .non))) H):=by
 intro aK s σ H x y v u Q I bO c9 h;obtain⟨rfl,q⟩:=h;cases c9;refine isnot_none_gen (fv I q ?_);cases x<;>first
  |(cases bO;rfl)
  |(obtain⟨t,rfl⟩:=bO;rfl)
theorem OpR.or{f:Value→Value→Sem Value}{r dX:R2}(h:OpR X f r)(h':OpR X f dX):OpR X f (λx y H Q=>r x y H Q∨dX x y H Q):=by
 intro aK s σ H x y v u Q I bO c9 q;rcases q with q|q
 ·exact h aK s σ H x y v u Q I bO c9 q
 ·exact h' aK s σ H x y v u Q I bO c9 q
theorem ez(b:Expr){op:CmpOp}(h:op≠ .In:=by decide)(a2:op≠ .NotIn:=by decide):behindInMarks op b=false:=by
 have bw:(op==CmpOp.In)=false:=by cases op<;>first|rfl|exact absurd rfl h
 have bC:(op==CmpOp.NotIn)=false:=by cases op<;>first|rfl|exact absurd rfl a2
 cases b<;>simp[behindInMarks,bw,bC]
theorem lh{op:CmpOp}{r:R2}(bz:OpR X (compareOp op) r)(bx:PE X a bA)(aN:PE X b dy)(bo:behindInMarks op b=false):PE X (.Compare a [op] [b] pos) (tOp r bA dy):=by
 intro aK s σ H Q I h;exact wpAny_Compare1 (tP bx aN I h λv u bK x y a4 ds bO c9 q=>bz aK bK σ a4 x y v u Q ds bO c9 q) bo
noncomputable def yi (t:TE):TT:=λσ H Q=>t σ H λx H'=>∃k,x= .bl k∧Q k H'
theorem eo{op:CmpOp}{r:R2}(bz:OpR X (compareOp op) r)(bx:PE X a bA)(aN:PE X b dy)(bo:behindInMarks op b=false):PT X (.Compare a [op] [b] pos) (yi (tOp r bA dy)):=by
 intro aK s σ H Q I h;refine wpAny_isTrue_Compare1 (thn (bx aK s σ H _ I h) λv a7 ⟨x,aU,bB,df,c8⟩=>thn (aN aK a7 σ aU _ bB c8) λu bK ⟨y,a4,ds,dO,dI⟩=>
  thn (bz aK bK σ a4 x y v u _ ds df dO dI) λc bM ⟨z,b_,en,jJ,k,e,f9⟩=>?_) bo
 subst e;cases jJ;exact wpAny_truthy_bool ⟨b_,en,f9⟩
noncomputable def yj (r dX:R2) (bA dy d_:TE):TE:=λσ H Q=>bA σ H λx aU=>dy σ aU λy a4=>r x y a4 λz b_=>∃k,z= .bl k∧
 (if k=true then d_ σ b_ λdY cw=>dX y dY cw Q else Q (.bl false) b_)
theorem DD{op tS:CmpOp}{r dX:R2}(bz:OpR X (compareOp op) r)(k9:OpR X (compareOp tS) dX)(bx:PE X a bA)(aN:PE X b dy)(a8:PE X c d_)
  (bo:lastMarks [op,tS] [b,c]=false:=by with_unfolding_all rfl):PE X (.Compare a [op,tS] [b,c] pos) (yj r dX bA dy d_):=by
 intro aK s σ H Q I h;refine Compare_chain (thn (bx aK s σ H _ I h) λv a7 ⟨x,aU,bB,df,c8⟩=>chain_link (thn (aN aK a7 σ aU _ bB c8) λu bK ⟨y,a4,ds,dO,dI⟩=>
  thn (bz aK bK σ a4 x y v u _ ds df dO dI) λd bM ⟨z,b_,en,jJ,k,e,f9⟩=>?_)) bo
 subst e;cases jJ;refine wpAny_truthy_bool ?_;cases k with
 |false=>exact ite_ff ⟨.bl false,b_,en,rfl,f9⟩
 |true=>exact ite_tt (chain_last (thn (a8 aK bM σ b_ _ en f9) λdY c_ ⟨gq,cw,lc,l5,pq⟩=>k9 aK c_ σ cw y gq u dY Q lc dO l5 pq))
def pD(K:Frag)(x:V)(H:Hp)(k:Bool):Prop:=
 match x with
 | .non=>k=false
 | .bl b=>k=b
 | .int i=>k=(i != 0)
 | .str y=>y.length≤sizeLine∧k=((y.length:Int) != 0)
 | .byt y=>y.size≤sizeLine∧k=((y.size:Int) != 0)
 | .ref p=>(∃xs,SqL K H p xs∧k= !xs.isEmpty)∨(∃xs,SqT K H p xs∧k= !xs.isEmpty)∨∃kvs,H p=some (.dK kvs)∧k= !kvs.isEmpty
 |_=>False
theorem Zh0{eu:Type}{kvs:List (eu×V)}{vs:List (eu×Value)}(r:KV kvs vs):(!vs.isEmpty)= !kvs.isEmpty:=by
 cases r<;>rfl
theorem Zdc{xs:List V}{its:List Value}(r:dm xs its):(!its.toArray.isEmpty)= !xs.isEmpty:=by
 cases r<;>simp
theorem li:(sizeLine:Nat)<2 ^ 63:=by rw[sizeLine_eq];decide
theorem DE:Zoz X (λx H Q=>∃k,pD X.K x H k∧Q k H):=by
 intro aK s σ H x v Q I bO h;obtain⟨k,e,q⟩:=h;have aJ:=li;have hs:sizeLine=16777216:=sizeLine_eq;cases x with
 |non=>
  cases bO;have b1:k=false:=e;subst b1;exact truthy_none ⟨H,I,q⟩
 |bl b=>
  cases bO;have b1:k=b:=e;subst b1;exact wpAny_truthy_bool ⟨H,I,q⟩
 |int i=>
  obtain⟨t,rfl⟩:=bO;have b1:k=(i != 0):=e;subst b1;exact PySem.P.truthy_int ⟨H,I,q⟩
 |str y=>
  obtain⟨t,rfl⟩:=bO;obtain⟨bE,b1⟩:y.length≤sizeLine∧k=((y.length:Int) != 0):=e;subst b1;exact PySem.P.truthy_str (by omega) ⟨H,I.tok _,q⟩
 |byt y=>
  obtain⟨t,rfl⟩:=bO;obtain⟨bE,b1⟩:y.size≤sizeLine∧k=((y.size:Int) != 0):=e;subst b1;exact PySem.W.truthy_bytes (by omega) ⟨H,I.tok _,q⟩
 |ref p=>
  cases bO;have b1:(∃xs,SqL X.K H p xs∧k= !xs.isEmpty)∨(∃xs,SqT X.K H p xs∧k= !xs.isEmpty)∨∃kvs,H p=some (.dK kvs)∧k= !kvs.isEmpty:=e;rcases b1 with⟨xs,aT,b1⟩|⟨xs,aT,b1⟩|⟨kvs,aT,b1⟩
  ·subst b1;obtain⟨its,r,pl,hz⟩:=I.list aT;have eV:=r.length;exact wpAny_truthy_list pl.isList (by simp only[qae];omega) ⟨H,I.tok _,by rw[Zdc r];exact q⟩
  ·subst b1;obtain⟨its,r,pl,hz⟩:=I.tuple aT;have eV:=r.length;exact truthy_tuple pl (by simp only[qae];omega) ⟨H,I.tok _,by rw[Zdc r];exact q⟩
  ·subst b1;obtain⟨hz,e1,vs,r,m⟩:kvs.length≤sizeLine∧(p==sysModules)=false∧∃vs,KV kvs vs∧s.heap.DictOf (e6 X.prog X.w) p vs:=I.hok p _ aT;have eV:kvs.length=vs.length:=Paired.length r;exact wpAny_truthy_dict e1 m (by omega) ⟨H,I.tok _,by rw[Zh0 r];exact q⟩
 |_=>exact(show False from e).elim
theorem Zk5(bx:PE X a bA)(bD:∀mW,isTrue a X.env mW=(do let v←mW;standAt a.pos;holding [v] (truthy v))):
  PT X a (λσ H Q=>bA σ H λx H'=>∃k,pD X.K x H' k∧Q k H'):=by
 intro aK s σ H Q I h;exact isTrue_plain (thn (bx aK s σ H _ I h) λv a7 ⟨x,aU,bB,df,c8⟩=>DE aK a7 σ aU x v Q bB df c8) (bD _)
theorem DF:OpR X (binaryOp .Add) (λx y H Q=>∃i j,x= .str i∧y= .str j∧i.length+j.length≤sizeLine∧Q (.str (i++j)) H):=by
 intro aK s σ H x y v u Q I bO c9 h;obtain⟨i,j,rfl,rfl,hz,q⟩:=h;obtain⟨t,rfl⟩:=bO;obtain⟨t',rfl⟩:=c9;exact add_str (λt' bL=>⟨.str (i++j),H,I.tok _,⟨_,rfl⟩,q⟩) hz
theorem YE{x:V}{us:List Value}(r:dm [x] us):∃u,us=[u]∧dq x u:=by
 cases r with
 |cons df dO=>cases dO;exact⟨_,rfl,df⟩
theorem Zn5{x y:V}{us:List Value}(r:dm [x,y] us):∃u dY,us=[u,dY]∧dq x u∧dq y dY:=by
 cases r with
 |cons df dO=>
  cases dO with
  |cons jJ l5=>cases l5;exact⟨_,_,rfl,df,jJ⟩
theorem DG(a8:X.calm=true):Z8 X (.builtin "min") (λxs H Q=>∃i j,xs=[.int i,.int j]∧Q (.int (if j<i then j else i)) H):=by
 intro aK s σ H xs us Q I r h;obtain⟨i,j,rfl,q⟩:=h;obtain⟨u,dY,rfl,⟨t,rfl⟩,⟨t',rfl⟩⟩:=Zn5 r;refine min_two_ints (I.ok.hd a8) λh' bL k=>⟨_,H,I.kept k,?_,q⟩
 by_cases bj:j<i
 ·rw[if_pos bj,if_pos bj];exact⟨_,rfl⟩
 ·rw[if_neg bj,if_neg bj];exact⟨_,rfl⟩
theorem yk:Z8 X (.type "int") (λxs H Q=>(∃i,xs=[.int i]∧Q (.int i) H)∨∃k,xs=[.bl k]∧Q (.int (if k then 1 else 0)) H):=by
 intro aK s σ H xs us Q I r h;rcases h with⟨i,rfl,q⟩|⟨k,rfl,q⟩
 ·obtain⟨u,rfl,t,rfl⟩:=YE r;exact call_int_int ⟨.int i,H,I,⟨_,rfl⟩,q⟩
 ·obtain⟨u,rfl,df⟩:=YE r;cases df;exact call_int_bool ⟨.int (if k then 1 else 0),H,I.tok _,⟨_,rfl⟩,q⟩
def ZcJ(K:Frag)(x:V)(H:Hp)(n:Nat):Prop:=
 match x with
 | .str y=>y.length≤sizeLine∧n=y.length
 | .byt y=>y.size≤sizeLine∧n=y.size
 | .ref p=>(∃xs,SqL K H p xs∧n=xs.length)∨∃xs,SqT K H p xs∧n=xs.length
 |_=>False
theorem DH:Z8 X (.builtin "len") (λxs H Q=>∃x n,xs=[x]∧ZcJ X.K x H n∧Q (.int n) H):=by
 intro aK s σ H xs us Q I r h;obtain⟨x,n,rfl,e,q⟩:=h;obtain⟨u,rfl,bO⟩:=YE r;have aJ:=li;have hs:sizeLine=16777216:=sizeLine_eq;cases x with
 |str y=>
  obtain⟨t,rfl⟩:=bO;obtain⟨bE,b1⟩:y.length≤sizeLine∧n=y.length:=e;subst b1;exact len_str (by omega) ⟨.int _,H,I.tok _,⟨_,rfl⟩,q⟩
 |byt y=>
  obtain⟨t,rfl⟩:=bO;obtain⟨bE,b1⟩:y.size≤sizeLine∧n=y.size:=e;subst b1;exact PySem.W.len_bytes (by omega) ⟨.int _,H,I.tok _,⟨_,rfl⟩,q⟩
 |ref p=>
  cases bO;have b1:(∃xs,SqL X.K H p xs∧n=xs.length)∨∃xs,SqT X.K H p xs∧n=xs.length:=e;rcases b1 with⟨xs,aT,b1⟩|⟨xs,aT,b1⟩
  ·subst b1;obtain⟨its,dX,pl,hz⟩:=I.list aT;have eV:=dX.length;exact Calls.call_len_list pl.isList (by simp only[qae];omega) ⟨.int xs.length,H,I.tok _,⟨_,by simp only[qae];rw[eV]⟩,q⟩
  ·subst b1;obtain⟨its,dX,pl,hz⟩:=I.tuple aT;have eV:=dX.length;exact len_tuple pl (by simp only[qae];omega) ⟨.int xs.length,H,I.tok _,⟨_,by simp only[qae];rw[eV]⟩,q⟩
 |_=>exact(show False from e).elim
end
structure m6(h:Heap)(x a_ C:Addr)(eS:Str→Option Value):Prop where
 obj:h.get? x=some (instObj C a_)
 ns:h.Ns1 a_ eS
 ne:a_≠x
theorem ZiK{h:Heap}{a_:Addr}{eS:Str→Option Value}(n:h.Ns1 a_ eS):∃eR,h.get? a_=some eR∧∀name,lookIn name eR=some (eS name):=by
 obtain⟨o,a',ep,bz,hd,a5,_,bo⟩:=n;refine⟨o,bz,λname=>?_⟩;have e:=bo name;unfold nsFind findBy at e;rw[←Array.find?_toList] at e;unfold lookIn;rw[hd];dsimp only
 split
 ·rename_i y q;rw[q] at e;exact congrArg some e
 ·rename_i q;rw[q] at e;have a:a'.toList.any (·.refKey)=false:=by
   rw[List.any_eq_false];intro y bE;obtain⟨z,t,pE⟩:=a5 y (Array.mem_toList_iff.mp bE);simp[DictEntry.refKey,pE]
  have er:¬a'.toList.any (·.refKey)=true:=by rw[a];exact qag
  rw[if_neg er];exact congrArg some e
theorem m6.look{h:Heap}{x a_ C:Addr}{eS:Str→Option Value}(I:m6 h x a_ C eS):∃eR,PySem.W.InstAt h x (instObj C a_) C (some eR)∧∀name,lookIn name eR=some (eS name):=
 let⟨eR,bz,aJ⟩:=ZiK I.ns
 ⟨eR,⟨I.obj,rfl,rfl,bz⟩,aJ⟩
section
variable {prog:Program}{w:World}{A:Around}{E:Value→Shared→Prop}{s:Shared}{K:Frag}{x a_ C f:Addr}{eS:Str→Option Value}{name:Str}{v:Value}
theorem ZlM{DI:Bool}{Q:Value→Shared→Prop}(X:K.In s.heap)(I:m6 s.heap x a_ C eS)(bc:plainGet K C name=true)(bV:hasDictIn K C=true)
  (bx:PySem.W.findIn K (.ref C) name=some none) (cv:eS name=some v) (io:handedIn v=true) (h:Q v {s with toks:=s.toks+1}):
  wpAny (model prog w) A (getAttr (.ref x) name DI) Q E s:=by
 obtain⟨eR,J,aJ⟩:=I.look;exact PySem.W.get_value X J (plainGet_of bc).1 (PySem.W.findObj_own bV bx rfl (by rw[aJ,cv])) io h
theorem ZkI{pl:Sem Bool}{Q:Value×List Value→Shared→Prop}(X:K.In s.heap)(I:m6 s.heap x a_ C eS)(bc:plainGet K C name=true)
  (bv:PySem.W.findIn K (.ref C) name=some (some (.ref f))) (ce:isFn K (.ref f)=true) (cv:eS name=none) (h:Q (.ref f,[.ref x]) s):
  wpAny (model prog w) A (getMethod (.ref x) name pl) Q E s:=by
 obtain⟨eR,J,aJ⟩:=I.look;exact PySem.W.method_fn X J (plainGet_of bc).1 (plainGet_of bc).2 bv (beq_iff_eq.mp ce) (by show(lookIn name eR).map (·.isSome)=some false;rw[aJ,cv];rfl) h
theorem ZlO{ns:List Str}{Q:Unit→Shared→Prop}(X:K.In s.heap)(I:m6 s.heap x a_ C eS)
  (hs:PySem.W.findIn K (.ref C) "__setattr__" =some (some (.builtin "object.__setattr__"))) (bb:plainOver K C=true) (ce:takerIn K C name=some none) (bV:hasDictIn K C=true)
  (hw:PySem.Within eS ns) (hsz:ns.length≤sizeLine)
  (h:∀h',m6 h' x a_ C (λy=>if y=name then some v else eS y)→Heap.SameBut a_ s.heap h'→Q () {s with heap:=h',toks:=s.toks+2}):
  wpAny (model prog w) A (setAttr (.ref x) name v) Q E s:=by
 obtain⟨eR,J,aJ⟩:=I.look;refine PySem.W.set_plain X J hs (PySem.W.osa_open (s:={s with toks:=s.toks+1}) (r:=none) X J bb ce λb=>?_);obtain⟨cd,a8,he⟩:=PySem.W.any_some bV;have aT:s.heap.get? x=some ⟨.ref C,some a_,.plain,#[]⟩:=I.obj;refine wpAny_bind (wpAny_pure (wpAny_bind (wpAny_bind (wpAny_loadPart aT (wpAny_bind (PySem.W.Looks.here (s:={s with toks:=s.toks+1}) (PySem.W.looks_clsIn X a8) ?_))))));rw[he];refine wpAny_pure (a:=some a_) (wpAny_bind (wpAny_pure (wpAny_bind ?_)));refine wpAny_nsSet1 (s:={s with toks:=s.toks+1}) I.ns λh' pF j4=>?_;obtain⟨oD,Qr,Qs,DJ,DK,lj⟩:=pF.count (PySem.Within.cons name v hw);refine wpAny_bind (wpAny_lookBehind DJ (by rw[DK];exact pastItsLine_dict (qat lj (by rw[List.length_cons];omega))) ?_);exact wpAny_pure (h _ ⟨(j4.2 _ (qbP I.ne)).trans I.obj,pF,I.ne⟩ j4)
theorem yl{R:Result→Shared→Prop}{vs:List Value}{kw:List (Str×Value)}(X:K.In s.heap)(bo:makesIn K C=true)
  (hi:PySem.W.findIn K (.ref C) "__init__" =some (some (.ref f))) (bv:typeIn K (.ref f)=some (.type "function"))
  (h:codeAny (model prog w) (A.under (.builtin "type.__call__" ⟨.ref C::vs,kw⟩)) (.call (.ref f) ⟨.ref (s.heap.objs.size+1)::vs,kw⟩) (PySem.W.InitBack (s.heap.objs.size+1) R)
   {s with heap:=(s.heap.push emptyDict).push (instObj C s.heap.objs.size)}):
  codeAny (model prog w) A (.call (.ref C) ⟨vs,kw⟩) R s:=by
 obtain⟨bV,g,d,t,os⟩:=s;exact PySem.W.make_core (PySem.W.makes_of X bo) (PySem.W.looks_findIn X hi) (λself=>PySem.W.bind_fn X self bv) (.inl rfl) h
end
noncomputable def gv (f:Str) (v:V):List (Str×V)→List (Str×V)
 | []=>[(f,v)]
 |(g,x)::r=>if g=f then(g,v)::r else(g,x)::gv f v r
theorem Zca(f g:Str)(v:V):∀fs:List (Str×V),(gv f v fs).lookup g=if g=f then some v else fs.lookup g
 | []=>by
  show List.lookup g [(f,v)]=_
  by_cases h:g=f
  ·have aN:(g==f)=true:=beq_iff_eq.mpr h;simp only[List.lookup,aN,if_pos h]
  ·have aN:(g==f)=false:=beq_eq_false_iff_ne.mpr h;simp only[List.lookup,aN,if_neg h]
 |(k,x)::r=>by
  have bP:=Zca f g v r;rw[show gv f v ((k,x)::r)=(if k=f then(k,v)::r else(k,x)::gv f v r) from rfl]
  by_cases a5:k=f
  ·rw[if_pos a5]
   by_cases h:g=k
   ·have aN:(g==k)=true:=beq_iff_eq.mpr h;simp only[List.lookup,aN,if_pos (h.trans a5)]
   ·have aN:(g==k)=false:=beq_eq_false_iff_ne.mpr h;simp only[List.lookup,aN,if_neg (λe:g=f=>h (e.trans a5.symm))]
  ·rw[if_neg a5]
   by_cases h:g=k
   ·have aN:(g==k)=true:=beq_iff_eq.mpr h;simp only[List.lookup,aN,if_neg (λe:g=f=>a5 (h.symm.trans e))]
   ·have aN:(g==k)=false:=beq_eq_false_iff_ne.mpr h;simp only[List.lookup,aN];exact bP
theorem tT(f:Str)(v:V):∀fs:List (Str×V),f∈(gv f v fs).map (·.1)∧∀g,g∈fs.map (·.1)→g∈(gv f v fs).map (·.1)
 | []=>⟨by simp[gv],λg h=>by simp at h⟩
 |(k,x)::r=>by
  obtain⟨jM,l9⟩:=tT f v r;rw[show gv f v ((k,x)::r)=(if k=f then(k,v)::r else(k,x)::gv f v r) from rfl]
  by_cases a5:k=f
  ·rw[if_pos a5];subst a5;exact⟨by simp,λg h=>by simpa using h⟩
  ·rw[if_neg a5];refine⟨?_,λg h=>?_⟩
   ·rw[List.map_cons];exact qau _ jM
   ·rw[List.map_cons] at h⊢;rcases qad.mp h with e|e
    ·exact qad.mpr (.inl e)
    ·exact qau _ (l9 g e)
theorem Zcl(f:Str)(v:V):∀fs:List (Str×V),(gv f v fs).length≤fs.length+1
 | []=>by simp[gv]
 |(k,x)::r=>by
  have bP:=Zcl f v r;rw[show gv f v ((k,x)::r)=(if k=f then(k,v)::r else(k,x)::gv f v r) from rfl]
  by_cases a5:k=f
  ·rw[if_pos a5,List.length_cons,List.length_cons];omega
  ·rw[if_neg a5,List.length_cons,List.length_cons];omega
theorem hC.some_of{v:V}{o:Option Value}(r:hC (some v) o):∃u,o=some u∧dq v u:=by
 cases o with
 |none=>exact(show False from r).elim
 |some u=>exact⟨u,rfl,r⟩
theorem hC.none_of{o:Option Value}(r:hC none o):o=none:=by
 cases o with
 |none=>rfl
 |some u=>exact(show False from r).elim
theorem DL{v:V}{u:Value}(r:dq v u):handedIn u=true:=by
 cases v with
 |non=>cases (show u=Value.none from r);rfl
 |bl b=>cases (show u=Value.bool b from r);rfl
 |int i=>obtain⟨t,e⟩:=(show ∃t,u=Value.int i t from r);cases e;rfl
 |str x=>obtain⟨t,e⟩:=(show ∃t,u=Value.str x t from r);cases e;rfl
 |byt b=>obtain⟨t,e⟩:=(show ∃t,u=Value.bytes b t from r);cases e;rfl
 |flt b=>obtain⟨t,e⟩:=(show ∃t,u=Value.float b t from r);cases e;rfl
 |ref a=>cases (show u=Value.ref a from r);rfl
 |ty n=>cases (show u=Value.type n from r);rfl
section
variable {P:Program}{w:World}{H H':Hp}{h h':Heap}{a C a_:Addr}{fs rr:List (Str×V)}
theorem ZbM(hok:HOk P w H h)(e:H a=some (.ins C a_ fs)):∃eS,m6 h a a_ C eS∧(∀f,hC (fs.lookup f) (eS f))∧PySem.Within eS (fs.map (·.1))∧fs.length≤1000∧H a_=some (.own a):=by
 obtain⟨d,z,ne,dz,eS,n,r,q⟩:=(show ZP P w H h a (.ins C a_ fs) from hok a _ e);exact⟨eS,⟨dz,n,ne⟩,r,q,z,d⟩
end
structure Cls(K:Frag)(C:Addr):Prop where
 pg:plainGet K C Str.empty=true
 hd:hasDictIn K C=true
 po:plainOver K C=true
 sa:PySem.W.findIn K (.ref C) "__setattr__" =some (some (.builtin "object.__setattr__"))
theorem Cls.get{K:Frag}{C:Addr}(c:Cls K C)(f:Str):plainGet K C f=true:=c.pg
def iQ(K:Frag)(C:Addr)(f:Str):Prop:=PySem.W.findIn K (.ref C) f=some none
theorem iQ.taker{K:Frag}{C:Addr}{f:Str}(n:iQ K C f):takerIn K C f=some none:=by
 unfold takerIn;rw[show PySem.W.findIn K (.ref C) f=some none from n]
 rfl
structure ZcK(K:Frag)(C:Addr)(m:Str)(f:Addr):Prop where
 at_:PySem.W.findIn K (.ref C) m=some (some (.ref f))
 fn:isFn K (.ref f)=true
 kp:keepIn K (.ref f)=true
section
variable {X:Cx}{aK:List (Addr×Obj)}{σ:St}{H:Hp}{s:Shared}{a C a_:Addr}{fs:List (Str×V)}{f:Str}{v:V}{A:Around}{E:Value→Shared→Prop}
theorem ZhG{b:Bool}{Q:Value→Shared→Prop}(I:Inv X aK σ H s)(e:H a=some (.ins C a_ fs))(c:Cls X.K C)(n:iQ X.K C f)(l:fs.lookup f=some v)
  (h:∀u s',Inv X aK σ H s'→dq v u→Q u s'):wpAny (model X.prog X.w) A (getAttr (.ref a) f b) Q E s:=by
 obtain⟨eS,O,r,_,_,_⟩:=ZbM I.hok e;obtain⟨u,hu,eD⟩:=hC.some_of (v:=v) (o:=eS f) (by rw[←l];exact r f);exact ZlM I.kIn O (c.get f) c.hd n hu (DL eD) (h u _ (I.tok _) eD)
theorem Ul{m:Str}{g:Addr}{pl:Sem Bool}{Q:Value×List Value→Shared→Prop}(I:Inv X aK σ H s)(e:H a=some (.ins C a_ fs))(c:Cls X.K C)(k:ZcK X.K C m g)(l:fs.lookup m=none)
  (h:Q (.ref g,[.ref a]) s):wpAny (model X.prog X.w) A (getMethod (.ref a) m pl) Q E s:=by
 obtain⟨eS,O,r,_,_,_⟩:=ZbM I.hok e;have bF:eS m=none:=hC.none_of (by rw[←l];exact r m);exact ZkI I.kIn O (c.get m) k.at_ k.fn bF h
theorem ZhR{y:V}{u:Value}{Q:Unit→Shared→Prop}(I:Inv X aK σ H s)(e:H a=some (.ins C a_ fs))(c:Cls X.K C)(n:iQ X.K C f)(aJ:fs.length<1000)(c9:dq y u)
  (h:∀s',Inv X aK σ (upd H a (.ins C a_ (gv f y fs))) s'→Q () s'):wpAny (model X.prog X.w) A (setAttr (.ref a) f u) Q E s:=by
 obtain⟨eS,O,r,e0,_,bz⟩:=ZbM I.hok e;have hz:(fs.map (·.1)).length≤sizeLine:=by rw[GE,sizeLine_eq];omega
 refine ZlO I.kIn O c.sa c.po n.taker c.hd e0 hz λh' O' hh=>h _ ?_;have hd:∃o,h'.get? a_=some o:=let⟨o,_,_,b1,_⟩:=O'.ns;⟨o,b1⟩
 refine I.write (x:=a) (e:=a_) (by rw[e];exact True.intro) (.inr bz) (λb q aN z=>(hh.2 b aN).trans z) hd ?_;refine⟨by rw[b2 O.ne];exact bz,?_,O.ne,O'.obj,_,O'.ns,λg=>?_,λg bc=>?_⟩
 ·have:=Zcl f y fs;omega
 ·show hC ((gv f y fs).lookup g) (if g=f then some u else eS g);rw[Zca]
  by_cases q:g=f
  ·rw[if_pos q,if_pos q];exact c9
  ·rw[if_neg q,if_neg q];exact r g
 ·by_cases q:g=f
  ·rw[q];exact(tT f y fs).1
  ·refine(tT f y fs).2 g (e0 g λz=>bc ?_);show(if g=f then some u else eS g)=none;rw[if_neg q];exact z
theorem Inv.made(I:Inv X aK σ H s):Inv X aK σ (upd (upd H s.heap.objs.size (.own (s.heap.objs.size+1))) (s.heap.objs.size+1) (.ins C s.heap.objs.size []))
  {s with heap:=(s.heap.push emptyDict).push (instObj C s.heap.objs.size)}:=by
 have bw:(s.heap.push emptyDict).get? s.heap.objs.size=some emptyDict:=Heap.get?_push_size s.heap rfl;have bC:((s.heap.push emptyDict).push (instObj C s.heap.objs.size)).get? (s.heap.objs.size+1)=some (instObj C s.heap.objs.size):=by
  have:=Heap.get?_push_size (s.heap.push emptyDict) (o:=instObj C s.heap.objs.size) rfl
  rwa [Heap.size_push] at this
 have dP:(s.heap.push emptyDict).Ns s.heap.objs.size (λ_=>none):=⟨emptyDict,#[],_,bw,rfl,(λe bD=>absurd bD (by simp)),λ_=>rfl⟩;have bB:=I.laid (a:=s.heap.objs.size) (o:= .own (s.heap.objs.size+1)) (h':=s.heap.push emptyDict) (t':=s.toks) (λb u q=>Heap.get?_push_of_some _ q) (fm _) ⟨_,bw⟩;refine bB.laid (a:=s.heap.objs.size+1) (o:= .ins C s.heap.objs.size []) (t':=s.toks) (λb u q=>Heap.get?_push_of_some _ q) (Nat.le_of_eq (Heap.size_push _ _)) ?_;have ne:s.heap.objs.size≠s.heap.objs.size+1:=qai (qa9 _);refine⟨by rw[b2 ne,Zd],qav _,ne,bC,λ_=>none,(Heap.Ns1.of_empty dP).at λo q=>Heap.get?_push_of_some _ q,λ_=>True.intro,λy bE=>absurd rfl bE⟩
theorem ZlX{prog:Program}{w:World}{env:Env}{e:Expr}{f:Str}{pos:Pos}{s:Shared}{Q:Value→Shared→Prop}(aN:attributeBase e f env (eval e env)=eval e env)
  (h:wpAny (model prog w) A (eval e env) (λo eh=>wpAny (model prog w) A (getAttr o f true) Q E eh) E s):wpAny (model prog w) A (eval (.Attribute e f pos) env) Q E s:=
 Attribute_any_ h (by rw[arm_eval_Attribute,aN])
end
noncomputable def tU (K:Frag) (bA:TE) (f:Str):TE:=λσ H Q=>bA σ H λx aU=>∃a C a_ fs v,x= .ref a∧aU a=some (.ins C a_ fs)∧Cls K C∧iQ K C f∧fs.lookup f=some v∧Q v aU
noncomputable def tV (K:Frag) (bA h7:TE) (f:Str):TS:=λD σ H=>h7 σ H λy aU=>bA σ aU λx a4=>∃a C a_ fs,x= .ref a∧a4 a=some (.ins C a_ fs)∧Cls K C∧iQ K C f∧fs.length<1000∧
 D.nx σ (upd a4 a (.ins C a_ (gv f y fs)))
section
variable {X:Cx}{o e value:Expr}{f:Str}{pos j0 m1:Pos}{bA h7:TE}
theorem Znw(bD:PE X e bA)(aN:attributeBase e f X.env (eval e X.env)=eval e X.env):PE X (.Attribute e f pos) (tU X.K bA f):=by
 intro aK s σ H Q I h;refine ZlX aN (thn (bD aK s σ H _ I h) λu a7 ⟨x,aU,bB,bO,a,C,a_,fs,v,ex,ea,c,n,l,q⟩=>?_);subst ex;obtain rfl:u=Value.ref a:=bO;exact ZhG bB ea c n l λkx bK ds eD=>⟨v,aU,ds,eD,q⟩
theorem Znt(bx:PE X o bA)(cv:PE X value h7)(hs:swapsWith value (some (.Attribute o f j0)) pos.line X.env=pure false):PS X (.Assign [.Attribute o f j0] value pos) (tV X.K bA h7 f):=by
 intro aK s σ H D I h;refine plainObj_wpAny_Assign_Attribute (thn (cv aK s σ H _ I h) λu a7 ⟨y,aU,bB,c9,q⟩=>thn (bx aK a7 σ aU _ bB q) λd4 bK ⟨x,a4,ds,bO,a,C,a_,fs,ex,ea,c,n,l,dI⟩=>?_) hs;subst ex;obtain rfl:d4=Value.ref a:=bO;exact ZhR ds ea c n l c9 λbM en=>⟨σ,_,en,dI⟩
theorem ZnN{pl:Sem Bool}{m:Str}{dV:Pos}{args:List Expr}{aK:List (Addr×Obj)}{s:Shared}{σ:St}{H:Hp}{Q:Value→Shared→Prop}{dg:TE}(bD:PE X e dg)(I:Inv X aK σ H s)
  (h:dg σ H λx aU=>∃a C a_ fs g,x= .ref a∧aU a=some (.ins C a_ fs)∧Cls X.K C∧ZcK X.K C m g∧fs.lookup m=none∧
   ∀a7,Inv X aK σ aU a7→wpAny (model X.prog X.w) X.A (callWith pos (.ref g) [.ref a] (backTo pos (starEach args X.env)) (backToKw pos (keywordEach [] X.env))) Q X.xe a7)
  (ce:eval (.Call (.Attribute e m dV) args [] pos) X.env=(do
   let d4←eval e X.env
   standAt dV.atName
   let(f,first)←holding [d4] (getMethod d4 m pl)
   callWith pos f first (backTo pos (starEach args X.env)) (backToKw pos (keywordEach [] X.env)))):
  wpAny (model X.prog X.w) X.A (eval (.Call (.Attribute e m dV) args [] pos) X.env) Q X.xe s:=by
 refine methodCall_KW (pl:=pl) (thn (bD aK s σ H _ I h) λu a7 ⟨x,aU,bB,bO,a,C,a_,fs,g,ex,ea,c,k,l,q⟩=>?_) ce;subst ex;obtain rfl:u=Value.ref a:=bO;exact Ul bB ea c k l (q a7 bB)
end
section
variable {X:Cx}{aK:List (Addr×Obj)}{σ:St}{H:Hp}{s:Shared}{A:Around}{E:Value→Shared→Prop}{Q:Value→Shared→Prop}{c:Value}{b:Bool}
inductive Wv(K:Frag)(H:Hp):V→Value→Prop where
 |non:Wv K H .non (.type "NoneType")
 |bl (x:Bool):Wv K H (.bl x) (.type "bool")
 |int (i:Int):Wv K H (.int i) (.type "int")
 |str (x:Str):Wv K H (.str x) (.type "str")
 |flt (x:UInt64):Wv K H (.flt x) (.type "float")
 |lst {a:Addr} {xs:List V} (e:H a=some (.lst xs)):Wv K H (.ref a) (.type "list")
 |frz {a:Addr} {o:Obj} {xs:List V} (e:H a=some (.frz o (.lst xs))):Wv K H (.ref a) (.type "list")
 |tup {a:Addr} {xs:List V} (e:H a=some (.tup xs)):Wv K H (.ref a) (.type "tuple")
 |dK {a:Addr} {kvs:List (Key×V)} (e:H a=some (.dK kvs)):Wv K H (.ref a) (.type "dict")
 |dT {a:Addr} {kvs:List (List Key×V)} (e:H a=some (.dT kvs)):Wv K H (.ref a) (.type "dict")
 |ins {a C a_:Addr} {fs:List (Str×V)} (e:H a=some (.ins C a_ fs)) (cl:Cls K C) (bx:PySem.W.findIn K (.ref C) "__class__" =some (some (.builtin "object.__class__")))
   (bF:PySem.W.specialIn K (.builtin "object.__class__") "__get__" =some (some (.builtin "getset_descriptor.__get__"))) (gw:PySem.W.takesIn K (.builtin "object.__class__")=some true)
   (bo:PySem.W.mroIn K C (.type "object")=some true):Wv K H (.ref a) (.ref C)
theorem Zja{x:V}{u t:Value}(I:Inv X aK σ H s)(bO:dq x u)(ty:Wv X.K H x t)(e:PySem.W.kitOne X.K t c=some b)(h:∀bL,Q (.bool b) {s with toks:=bL}):
  wpAny (model X.prog X.w) A (call (.builtin "isinstance") [u,c]) Q E s:=by
 cases ty with
 |non=>cases (show u=Value.none from bO);exact qa7 PySem.W.kitx_none I.kIn True.intro e (λz=>nomatch z) h
 |bl y=>cases (show u=Value.bool y from bO);exact qa7 PySem.W.kitx_bool I.kIn True.intro e (λz=>nomatch z) h
 |int i=>obtain⟨t,q⟩:=(show ∃t,u=Value.int i t from bO);cases q;exact qa7 PySem.W.kitx_int I.kIn True.intro e (λz=>nomatch z) h
 |str y=>obtain⟨t,q⟩:=(show ∃t,u=Value.str y t from bO);cases q;exact qa7 PySem.W.kitx_str I.kIn True.intro e (λz=>nomatch z) h
 |flt y=>obtain⟨t,q⟩:=(show ∃t,u=Value.float y t from bO);cases q;exact qa7 PySem.W.kitx_float I.kIn True.intro e (λz=>nomatch z) h
 | @lst a xs ea=>
  cases (show u=Value.ref a from bO);obtain⟨_,_,n,_,aS⟩:=(show ZP X.prog X.w H s.heap a (.lst xs) from I.hok a _ ea);exact qa7 kitx_list I.kIn ⟨_,aS,rfl⟩ e (λz=>nomatch z) h
 | @frz a dz xs ea=>
  cases (show u=Value.ref a from bO);obtain⟨_,_,_,n,_,aS⟩:=(show ZP X.prog X.w H s.heap a (.frz dz (.lst xs)) from I.hok a _ ea);exact qa7 kitx_list I.kIn ⟨_,aS,rfl⟩ e (λz=>nomatch z) h
 | @tup a xs ea=>
  cases (show u=Value.ref a from bO);obtain⟨_,_,_,p⟩:=(show ZP X.prog X.w H s.heap a (.tup xs) from I.hok a _ ea);obtain⟨o,aS,a2,_⟩:=p;exact qa7 PySem.W.kitx_tuple I.kIn ⟨o,aS,a2⟩ e (λz=>nomatch z) h
 | @dK a kvs ea=>
  cases (show u=Value.ref a from bO);obtain⟨_,_,vs,_,p⟩:=(show ZP X.prog X.w H s.heap a (.dK kvs) from I.hok a _ ea);obtain⟨o,a',ep,aS,a2,_⟩:=p;exact qa7 kitx_dict I.kIn ⟨o,aS,a2.1⟩ e (λz=>nomatch z) h
 | @dT a kvs ea=>
  cases (show u=Value.ref a from bO);obtain⟨_,_,xs,_,o,a',ep,aS,a2,_⟩:=(show ZP X.prog X.w H s.heap a (.dT kvs) from I.hok a _ ea);exact qa7 kitx_dict I.kIn ⟨o,aS,a2.1⟩ e (λz=>nomatch z) h
 | @ins a C a_ fs ea cl bx bF gw bo=>
  cases (show u=Value.ref a from bO);obtain⟨eS,O,_⟩:=ZbM I.hok ea;obtain⟨eR,J,_⟩:=O.look;exact qa7 (PySem.W.kitx_own (cl.get _) cl.hd bx bF gw bo) I.kIn J e (λz=>nomatch z) h
end
structure e2(k:Nat)(A:Around):Prop where
 hd:A.handled=none
 dp:A.depth+3*k+5<recursionLimit
 un:A.units+16*k+200<cLine
theorem e2.mono{j k:Nat}{A:Around}(r:e2 k A)(h:j≤k):e2 j A:=⟨r.hd,by have:=r.dp;omega,by have:=r.un;omega⟩
theorem e2.deeper{k:Nat}{A:Around}(r:e2 (k+1) A)(env:Env):e2 k (A.deeper env):=
 ⟨r.hd,by have:=r.dp;show A.depth+1+3*k+5<_;omega,by have:=r.un;show A.units+3+16*k+200<_;omega⟩
theorem Zhs{A:Around}{C:Addr}{us:List Value}{kw:List (Str×Value)}:(A.under (.builtin "type.__call__" ⟨.ref C::us,kw⟩)).depth=A.depth+1:=by
 first|rfl|simp[Around.under,Code.weight,Code.isCreation,Code.isGuard,Code.isCaller,Code.frames,Code.isFrame,guardIds]
theorem ZhX{A:Around}{C:Addr}{us:List Value}{kw:List (Str×Value)}:(A.under (.builtin "type.__call__" ⟨.ref C::us,kw⟩)).units=A.units+1:=by
 first|rfl|simp[Around.under,Code.cUnits,Code.frames,Code.isFrame]
theorem e2.make{k:Nat}{A:Around}(r:e2 (k+1) A)(C:Addr)(us:List Value)(kw:List (Str×Value)):e2 k (A.under (.builtin "type.__call__" ⟨.ref C::us,kw⟩)):=
 ⟨r.hd,by have:=r.dp;rw[Zhs];omega,by have:=r.un;rw[ZhX];omega⟩
theorem e2.depth{k:Nat}{A:Around}(r:e2 k A):A.depth<recursionLimit:=by have:=r.dp;omega
theorem e2.units{k:Nat}{A:Around}(r:e2 k A):A.units+64<cLine:=by have:=r.un;omega
noncomputable def tNil:TA:=λ_ H Q=>Q [] H
noncomputable def ym (bA:TE) (bn:TA):TA:=λσ H Q=>bA σ H λx aU=>bn σ aU λxs a4=>Q (x::xs) a4
section
variable {X:Cx}{e:Expr}{a':List Expr}{dg:TE}{t:TA}{pos:Pos}
theorem bp:PA X [] tNil:=λ_ _ _ _ H Q I h=>Calls.spliced_nil ⟨[],H,I,.nil,h⟩
theorem a6(bx:PE X e dg)(a3:PA X a' t)(hs:starEach (e::a') X.env=(false,eval e X.env)::starEach a' X.env:=by rfl):PA X (e::a') (ym dg t):=by
 intro pos aK s σ H Q I h;rw[hs];show wpAny _ _ (spliced ((false,eval e X.env)::backTo pos (starEach a' X.env))) _ _ s;refine Calls.spliced_cons (thn (bx aK s σ H _ I h) λu a7 ⟨x,aU,bB,df,c8⟩=>?_);exact thn (a3 pos aK a7 σ aU _ bB c8) λus bK ⟨xs,a4,ds,dO,dI⟩=>⟨x::xs,a4,ds,.cons df dO,dI⟩
noncomputable def yn (t:TA):TE:=λσ H Q=>t σ H λxs aU=>xs.length≤sizeLine∧∀p,aU p=none→Q (.ref p) (upd aU p (.tup xs))
noncomputable def tW (t:TA):TE:=λσ H Q=>t σ H λxs aU=>xs.length≤sizeLine∧∀p,aU p=none→Q (.ref p) (upd aU p (.lst xs))
theorem h8{x1}(h:PA X a' t):PE X (.Tuple a' x1 pos) (yn t):=by
 intro aK s σ H Q I bT;refine wpAny_Tuple_spliced (thn (h pos aK s σ H _ I bT) λus a7 ⟨xs,aU,bB,r,z,q⟩=>⟨by rw[←r.length];exact z,?_⟩);have bv:aU a7.heap.objs.size=none:=bB.hok.fresh (fm _);refine⟨.ref a7.heap.objs.size,upd aU a7.heap.objs.size (.tup xs),bB.laid (t':=a7.toks) (λb u e=>Heap.get?_push_of_some _ e) (fm _) ?_,rfl,q _ bv⟩;exact⟨z,us,r,⟨_,Heap.get?_push_size _ rfl,rfl,_,rfl⟩⟩
theorem hE(h:PA X a' t):PE X (.List a' pos) (tW t):=by
 intro aK s σ H Q I bT;refine wpAny_List_spliced (thn (h pos aK s σ H _ I bT) λus a7 ⟨xs,aU,bB,r,z,q⟩=>⟨by rw[←r.length];exact z,?_⟩);have bv:aU a7.heap.objs.size=none:=bB.hok.fresh (fm _);refine⟨.ref a7.heap.objs.size,upd aU a7.heap.objs.size (.lst xs),bB.laid (t':=a7.toks) (λb u e=>Heap.get?_push_of_some _ e) (fm _) ?_,rfl,q _ bv⟩;exact⟨z,us,0,r,Heap.get?_push_size _ rfl⟩
end
noncomputable abbrev Sp:=List V→Hp→VK→XK→Prop
noncomputable abbrev CXT:=List Env→Hp→Shared→XK→Value→Shared→Prop
structure U8(P:Program)(w:World)(K:Frag)(mg:Str→Option Value)(base:Heap)(A:Around)(outer:List Env)(s:Shared)(H:Hp):Prop where
 frames:A.frames=some outer
 mod:Mod K mg base
 bs:∀b o,base.get? b=some o→s.heap.get? b=some o∧H b=none
 bsz:base.objs.size≤s.heap.objs.size
 funs:s.heap.FunFrames base outer
 frf:∀b∈frs outer,H b=none
 hok:HOk P w H s.heap
 bare:AllBare s.gens
def CE(outer:List Env)(P:Program)(w:World)(H:Hp)(s:Shared)(Q:VK)(u:Value)(s':Shared):Prop:=
 ∃v H',s'.os=s.os∧AllBare s'.gens∧Un (frs outer) [] H H' s.heap s'.heap∧HOk P w H' s'.heap∧dq v u∧Q v H'
def CR(CX:CXT)(outer:List Env)(P:Program)(w:World)(H:Hp)(s:Shared)(Q:VK)(E:XK)(r:Result)(s':Shared):Prop:=
 match r with
 | .ok (.ret u)=>CE outer P w H s Q u s'
 | .ok _=>False
 | .error e=>CX outer H s E e s'
structure Ys(P:Program)(w:World)(K:Frag)(mg:Str→Option Value)(base:Heap)(CX:CXT)(k:Nat)(f:Addr)(fd:FuncData)(ps:List Str)(sp:Sp):Prop where
 len:∀vs H Q E,sp vs H Q E→vs.length=ps.length
 run:∀(A:Around)(outer:List Env)(s:Shared)(H:Hp)(args:Args)(us:List Value)(vs:List V)(Q:VK)(E:XK),e2 k A→U8 P w K mg base A outer s H→BindsTo s fd args (ps.zip us)→dm vs us→sp vs H Q E→
  codeAny (model P w) A (.call (.ref f) args) (CR CX outer P w H s Q E) s
theorem Ys.mono{P:Program}{w:World}{K:Frag}{mg:Str→Option Value}{base:Heap}{CX:CXT}{j k:Nat}{f:Addr}{fd:FuncData}{ps:List Str}{sp:Sp}(F:Ys P w K mg base CX j f fd ps sp)(h:j≤k):
  Ys P w K mg base CX k f fd ps sp:=⟨F.len,λA outer s H args us vs Q E a3=>F.run A outer s H args us vs Q E (a3.mono h)⟩
theorem U8.make{P:Program}{w:World}{K:Frag}{mg:Str→Option Value}{base:Heap}{A:Around}{outer:List Env}{s:Shared}{H:Hp}(e:U8 P w K mg base A outer s H)(C:Addr)(us:List Value)(kw:List (Str×Value)):
  U8 P w K mg base (A.under (.builtin "type.__call__" ⟨.ref C::us,kw⟩)) outer s H:=⟨by first|exact e.frames|(simpa[Around.under,Code.envs,Code.isFrame,pushEnvs] using e.frames),e.mod,e.bs,e.bsz,e.funs,e.frf,e.hok,e.bare⟩
section
variable {X:Cx}{aK:List (Addr×Obj)}{σ:St}{H:Hp}{s s':Shared}
theorem Inv.env0(I:Inv X aK σ H s):U8 X.prog X.w X.K X.mg X.base X.A X.stack s H:=
 ⟨I.ok.frames,I.ok.mod,I.bs,qat I.ok.bsz I.sz,I.stack,I.stkFree,I.hok,I.bare⟩
theorem Inv.after{Q:VK}{u:Value}(I:Inv X aK σ H s)(h:CE X.stack X.prog X.w H s Q u s'):EP X aK σ Q u s':=by
 obtain⟨v,H',os,bare,un,hok,r,q⟩:=h;obtain⟨bV,g,d,t,tX⟩:=s';obtain rfl:tX=s.os:=os;exact⟨v,H',I.call (h':=bV) (g':=g) (d':=d) (t':=t) (ch:=[]) un hok bare (λb z=>absurd z (by simp)),r,q⟩
end
noncomputable def rC (sp:Sp) (ew:List V) (E:XK) (t:TA):TE:=λσ H Q=>t σ H λvs aU=>sp (vs++ew) aU Q E
noncomputable def pG (C:Addr) (m:Str) (sp:Sp) (ew:List V) (E:XK) (bA:TE) (t:TA):TE:=λσ H Q=>bA σ H λx aU=>∃a a_ fs,x= .ref a∧aU a=some (.ins C a_ fs)∧fs.lookup m=none∧
 t σ aU λvs a4=>sp (x::(vs++ew)) a4 Q E
noncomputable def pH (C:Addr) (sp:Sp) (ew:List V) (E:XK) (t:TA):TE:=λσ H Q=>t σ H λvs aU=>∀x a_,aU x=none→aU a_=none→a_≠x→
 sp (.ref x::(vs++ew)) (upd (upd aU a_ (.own x)) x (.ins C a_ [])) (λv a4=>v= .non∧Q (.ref x) a4) E
def Wd(K:Frag)(fd:FuncData)(ps:List Str)(b4:List Value):Prop:=
 ∀(s:Shared)(us:List Value),K.In s.heap→(us++b4).length=ps.length→BindsTo s fd ⟨us,[]⟩ (ps.zip (us++b4))
theorem Wd.all{K:Frag}{fd:FuncData}{ps:List Str}(h:∀us:List Value,us.length=ps.length→bindArgs fd ⟨us,[]⟩=pure (ps.zip us)):Wd K fd ps []:=λs us _ aJ=>by
 rw[qa8] at aJ⊢;exact .of_eq (h us aJ)
def YX(CX:CXT)(X:Cx)(E:XK):Prop:=∀(aK:List (Addr×Obj))(σ:St)(H:Hp)(s:Shared)(e:Value)(s':Shared),Inv X aK σ H s→CX X.stack H s E e s'→X.xe e s'
section
variable {X:Cx}{CX:CXT}{k:Nat}{f C:Addr}{fd:FuncData}{ps:List Str}{sp:Sp}{ew:List V}{b4:List Value}{E:XK}{x m:Str}{p pos dV:Pos}{e o:Expr}{a':List Expr}{bA:TE}{t:TA}
theorem tY{aK:List (Addr×Obj)}{σ:St}{H:Hp}{s:Shared}{Q:VK}{us:List Value}{vs:List V}(F:Ys X.prog X.w X.K X.mg X.base CX k f fd ps sp)(a3:e2 k X.A)(aN:Wd X.K fd ps b4)(hd:dm ew b4)(aT:YX CX X E)
  (I:Inv X aK σ H s) (r:dm vs us) (h:sp (vs++ew) H Q E):wpAny (model X.prog X.w) X.A (call (.ref f) us) (EP X aK σ Q) X.xe s:=by
 have dO:dm (vs++ew) (us++b4):=r.append hd;have aJ:(us++b4).length=ps.length:=by rw[←dO.length];exact F.len _ _ _ _ h
 refine wpAny_call (codeAny_mono (F.run X.A X.stack s H ⟨us,[]⟩ (us++b4) (vs++ew) Q E a3 I.env0 (aN s us I.kIn aJ) dO h) λr s' bT=>?_);cases r with
 |error e=>exact aT aK σ H s e s' I bT
 |ok fl=>
  cases fl with
  |ret u=>exact I.after bT
  |next=>exact False.elim bT
  |brk=>exact False.elim bT
  |cont=>exact False.elim bT
theorem ZlH(F:Ys X.prog X.w X.K X.mg X.base CX k f fd ps sp)(a3:e2 k X.A)(bc:Gl X x)(bo:X.mg x=some (.ref f))(a5:keepIn X.K (.ref f)=true)(aN:Wd X.K fd ps b4)(hd:dm ew b4)(aT:YX CX X E)
  (bx:PA X (e::a') t) (f':(x==("__debug__" :Str))=false:=by decide) (bD:starEach (e::a') X.env=(false,eval e X.env)::starEach a' X.env:=by rfl) (fN:(backTo pos (starEach a' X.env)).any (·.1)=false:=by rfl):
  PE X (.Call (.Name x p) (e::a') [] pos) (rC sp ew E t):=by
 intro aK s σ H Q I h;refine wpAny_Call_Name_kw (l3 I bc bo ?_ f');refine callWith_K (h₀:=X.base) I.ok.mod.kin a5 (thn (bx pos aK s σ H _ I h) λus a7 ⟨vs,aU,bB,r,q⟩=>⟨bB.kIn,?_⟩) bD fN;exact tY F a3 aN hd aT bB r q
theorem pI{pl:Sem Bool}(bD:PE X o bA)(c:Cls X.K C)(bo:ZcK X.K C m f)(F:Ys X.prog X.w X.K X.mg X.base CX k f fd ps sp)(a3:e2 k X.A)(aN:Wd X.K fd ps b4)(hd:dm ew b4)(aT:YX CX X E)(bx:PA X (e::a') t)
  (fa:starEach (e::a') X.env=(false,eval e X.env)::starEach a' X.env:=by rfl) (fN:(backTo pos (starEach a' X.env)).any (·.1)=false:=by rfl)
  (ce:eval (.Call (.Attribute o m dV) (e::a') [] pos) X.env=(do
   let d4←eval o X.env
   standAt dV.atName
   let(f,first)←holding [d4] (getMethod d4 m pl)
   callWith pos f first (backTo pos (starEach (e::a') X.env)) (backToKw pos (keywordEach [] X.env))):=by rfl):
  PE X (.Call (.Attribute o m dV) (e::a') [] pos) (pG C m sp ew E bA t):=by
 intro aK s σ H Q I h;refine methodCall_KW (pl:=pl) (thn (bD aK s σ H _ I h) λu a7 ⟨x,aU,bB,bO,a,a_,fs,ex,ea,l,q⟩=>?_) ce;subst ex;obtain rfl:u=Value.ref a:=bO;refine Ul bB ea c bo l ?_;refine callWith_K (first:=[.ref a]) (h₀:=X.base) I.ok.mod.kin bo.kp (thn (bx pos aK a7 σ aU _ bB q) λus bK ⟨vs,a4,ds,r,dI⟩=>⟨ds.kIn,?_⟩) fa fN;exact tY (us:= .ref a::us) (vs:= .ref a::vs) F a3 aN hd aT ds (.cons rfl r) dI
theorem ZkM{pl:Sem Bool}(bD:PE X o bA)(c:Cls X.K C)(bo:ZcK X.K C m f)(F:Ys X.prog X.w X.K X.mg X.base CX k f fd ps sp)(a3:e2 k X.A)(aN:Wd X.K fd ps b4)(hd:dm ew b4)(aT:YX CX X E)
  (ce:eval (.Call (.Attribute o m dV) [] [] pos) X.env=(do
   let d4←eval o X.env
   standAt dV.atName
   let(f,first)←holding [d4] (getMethod d4 m pl)
   callWith pos f first (backTo pos (starEach [] X.env)) (backToKw pos (keywordEach [] X.env))):=by rfl):
  PE X (.Call (.Attribute o m dV) [] [] pos) (pG C m sp ew E bA tNil):=by
 intro aK s σ H Q I h;refine methodCall_KW (pl:=pl) (thn (bD aK s σ H _ I h) λu a7 ⟨x,aU,bB,bO,a,a_,fs,ex,ea,l,q⟩=>?_) ce;subst ex;obtain rfl:u=Value.ref a:=bO;refine Ul bB ea c bo l ?_;exact callWith_K0 (first:=[.ref a]) bB.kIn bo.kp (tY (us:=[.ref a]) (vs:=[.ref a]) F a3 aN hd aT bB (.cons rfl .nil) q)
structure Mk(K:Frag)(C f:Addr):Prop where
 makes:makesIn K C=true
 init:PySem.W.findIn K (.ref C) "__init__" =some (some (.ref f))
 fn:isFn K (.ref f)=true
 kp:keepIn K (.ref C)=true
theorem yo{aK:List (Addr×Obj)}{σ:St}{H:Hp}{s:Shared}{Q:VK}{us:List Value}{vs:List V}(M:Mk X.K C f)(F:Ys X.prog X.w X.K X.mg X.base CX k f fd ps sp)(a3:e2 (k+1) X.A)(aN:Wd X.K fd ps b4)(hd:dm ew b4)
  (aT:YX CX X E) (I:Inv X aK σ H s) (r:dm vs us)
  (h:∀x a_,H x=none→H a_=none→a_≠x→sp (.ref x::(vs++ew)) (upd (upd H a_ (.own x)) x (.ins C a_ [])) (λv a4=>v= .non∧Q (.ref x) a4) E):
  wpAny (model X.prog X.w) X.A (call (.ref C) us) (EP X aK σ Q) X.xe s:=by
 have bT:=h (s.heap.objs.size+1) s.heap.objs.size (I.hok.fresh (qb2 _)) (I.hok.fresh (fm _)) (qai (qa9 _));have ds:=Inv.made (C:=C) I;have dO:dm (V.ref (s.heap.objs.size+1)::(vs++ew)) (Value.ref (s.heap.objs.size+1)::(us++b4)):= .cons rfl (r.append hd);have aJ:(Value.ref (s.heap.objs.size+1)::us++b4).length=ps.length:=by
  have e:=dO.length;rw[F.len _ _ _ _ bT] at e;exact e.symm
 refine wpAny_call (yl (f:=f) I.kIn M.makes M.init (beq_iff_eq.mp M.fn) (codeAny_mono (F.run _ X.stack _ _ ⟨Value.ref (s.heap.objs.size+1)::us,[]⟩ (Value.ref (s.heap.objs.size+1)::(us++b4)) _ _ E (a3.make C us [])
  (ds.env0.make C us []) (aN _ (Value.ref (s.heap.objs.size+1)::us) ds.kIn aJ) dO bT) λr s' j5=>?_))
 cases r with
 |error e=>exact aT aK σ _ _ e s' ds j5
 |ok fl=>
  cases fl with
  |ret u=>
   obtain⟨v,H',en,dC,dZ,f9⟩:=ds.after j5;subst dZ;exact⟨dC,⟨V.ref (s.heap.objs.size+1),H',en,rfl,f9⟩⟩
  |next=>exact False.elim j5
  |brk=>exact False.elim j5
  |cont=>exact False.elim j5
theorem Zl5(M:Mk X.K C f)(F:Ys X.prog X.w X.K X.mg X.base CX k f fd ps sp)(a3:e2 (k+1) X.A)(bc:Gl X x)(bo:X.mg x=some (.ref C))(aN:Wd X.K fd ps b4)(hd:dm ew b4)(aT:YX CX X E)
  (bx:PA X (e::a') t) (f':(x==("__debug__" :Str))=false:=by decide) (bD:starEach (e::a') X.env=(false,eval e X.env)::starEach a' X.env:=by rfl) (fN:(backTo pos (starEach a' X.env)).any (·.1)=false:=by rfl):
  PE X (.Call (.Name x p) (e::a') [] pos) (pH C sp ew E t):=by
 intro aK s σ H Q I h;refine wpAny_Call_Name_kw (l3 I bc bo ?_ f');refine callWith_K (h₀:=X.base) I.ok.mod.kin M.kp (thn (bx pos aK s σ H _ I h) λus a7 ⟨vs,aU,bB,r,q⟩=>⟨bB.kIn,?_⟩) bD fN;exact yo M F a3 aN hd aT bB r q
theorem Zke(M:Mk X.K C f)(F:Ys X.prog X.w X.K X.mg X.base CX k f fd ps sp)(a3:e2 (k+1) X.A)(bc:Gl X x)(bo:X.mg x=some (.ref C))(aN:Wd X.K fd ps b4)(hd:dm ew b4)(aT:YX CX X E)
  (f':(x==("__debug__" :Str))=false:=by decide):PE X (.Call (.Name x p) [] [] pos) (pH C sp ew E tNil):=by
 intro aK s σ H Q I h;refine wpAny_Call_Name_kw (l3 I bc bo ?_ f');exact callWith_K0 I.kIn M.kp (yo (us:=[]) M F a3 aN hd aT I .nil h)
end
section
variable {X:Cx}{CX:CXT}{k:Nat}{f C:Addr}{fd:FuncData}{ps cx:List Str}{sp:Sp}{E:XK}{x m:Str}{p pos dV Qt:Pos}{e o:Expr}{a':List Expr}{Qu:List Keyword}{dg bA:TE}{t bL:TA}{nm:Option Str}
variable {g:List Value→List Value→List Value}{Qv:List V→List V→List V}
end
structure Zo(N P:List Str)(b':Scope):Prop where
 kind:b'.kind= .function
 co:b'.isCoroutine=false
 gen:b'.isGenerator=false
 nd:N.Nodup
 pre:N.take P.length=P
 par:∀x∈P,b'.names.lookup x=some .local∨b'.names.lookup x=some .cell
 nofree:∀y∈b'.names,y.2≠ .free
theorem Zem{kindOf:Str→Option NameKind}{x:Str}:∀{binds:List (Str×Value)}{m:Str→Option Value},(∀v,(x,v)∉binds)→bindL kindOf binds m x=m x
 | [],_,_=>rfl
 |(n,v)::r,m,h=>by
  unfold bindL;rw[Zem λw hw=>h w (qau _ hw)]
  split
  ·have:x≠n:=by rintro rfl;exact h v qaY
   simp[this]
  ·rfl
theorem Zez{kindOf:Str→Option NameKind}{x:Str}:∀{binds:List (Str×Value)}{m:Str→Option Value},(∀v,(x,v)∉binds)→bindC kindOf binds m x=m x
 | [],_,_=>rfl
 |(n,v)::r,m,h=>by
  unfold bindC;rw[Zez λw hw=>h w (qau _ hw)]
  split
  ·rfl
  ·have:x≠n:=by rintro rfl;exact h v qaY
   simp[this]
theorem yp{kindOf:Str→Option NameKind}{x:Str}{v:Value}:∀{P:List Str}{vs:List Value}{i:Nat}{m:Str→Option Value},P.Nodup→P[i]? =some x→vs[i]? =some v→kindOf x=some .local→
  bindL kindOf (P.zip vs) m x=some v
 | [],_,_,_,_,h,_,_=>by simp at h
 |_::_,[],_,_,_,_,h,_=>by simp at h
 |p::P,w::vs,0,m,nd,aS,a2,a5=>by
  simp at aS a2;subst aS;subst a2;show bindL kindOf ((p,w)::P.zip vs) m p=_;unfold bindL;rw[Zem λv cv=>(qbs.mp nd).1 (List.of_mem_zip cv).1,if_pos a5];simp
 |p::P,w::vs,i+1,m,nd,aS,a2,a5=>by
  show bindL kindOf ((p,w)::P.zip vs) m x=_;unfold bindL;exact yp (i:=i) (qbs.mp nd).2 (by simpa using aS) (by simpa using a2) a5
theorem Zes{kindOf:Str→Option NameKind}{x:Str}{v:Value}:∀{P:List Str}{vs:List Value}{i:Nat}{m:Str→Option Value},P.Nodup→P[i]? =some x→vs[i]? =some v→kindOf x≠some .local→
  bindC kindOf (P.zip vs) m x=some v
 | [],_,_,_,_,h,_,_=>by simp at h
 |_::_,[],_,_,_,_,h,_=>by simp at h
 |p::P,w::vs,0,m,nd,aS,a2,a5=>by
  simp at aS a2;subst aS;subst a2;show bindC kindOf ((p,w)::P.zip vs) m p=_;unfold bindC;rw[Zez λv cv=>(qbs.mp nd).1 (List.of_mem_zip cv).1,if_neg a5];simp
 |p::P,w::vs,i+1,m,nd,aS,a2,a5=>by
  show bindC kindOf ((p,w)::P.zip vs) m x=_;unfold bindC;exact Zes (i:=i) (qbs.mp nd).2 (by simpa using aS) (by simpa using a2) a5
noncomputable def start (N:List Str) (vs:List V):St:=vs.map some++List.replicate (N.length-vs.length) none
noncomputable def ZJ (CX:CXT) (P:Program) (w:World) (K:Frag) (mg:Str→Option Value) (base:Heap) (N:List Str) (qual:Str) (scope:Scope) (f:Addr) (cd:Value) (A:Around) (outer:List Env) (s:Shared) (H:Hp) (E:XK):Cx where
 prog:=P
 w:=w
 K:=K
 mg:=mg
 base:=base
 A:=A.deeper (envOfC qual scope s.heap.objs.size f cd)
 N:=N
 s₀:=s
 H₀:=H
 env:=envOfC qual scope s.heap.objs.size f cd
 outer:=outer
 stack:=envOfC qual scope s.heap.objs.size f cd::outer
 ex:=[]
 calm:=true
 fn:=λ_=>true
 pn:=[]
 xe:=λe s'=>wpAny (model P w) (A.deeper (envOfC qual scope s.heap.objs.size f cd)) (leaving (envOfC qual scope s.heap.objs.size f cd) e) (λ_ m7=>CX outer H s E e m7) (λb1 m7=>CX outer H s E b1 m7) s'
theorem Zf4{b':Scope}{n:Nat}{x:Str}(h:b'.names.lookup x=some .cell):∃c,(cellsFrom n b'.names []).lookup x=some c:=by
 have q:=cellsFrom_some b'.names n [] (.inl h);exact qbM.mp q
theorem Zee{CX:CXT}{P:Program}{w:World}{K:Frag}{mg:Str→Option Value}{base:Heap}{N ps:List Str}{qual:Str}{scope:Scope}{f:Addr}{cd:Value}{A:Around}{outer:List Env}{s a7:Shared}{H:Hp}{E:XK}{us:List Value}{vs:List V}
  (S:Zo N ps scope) (hd:A.handled=none) (ej:U8 P w K mg base A outer s H) (aJ:vs.length=ps.length) (r:dm vs us)
  (x:InCallC s s.heap.objs.size (bindL (envOfC qual scope s.heap.objs.size f cd).kindOf (ps.zip us) λ_=>none) (cellsFrom (s.heap.objs.size+1) scope.names []) (bindC (envOfC qual scope s.heap.objs.size f cd).kindOf (ps.zip us) λ_=>none) a7):
  Inv (ZJ CX P w K mg base N qual scope f cd A outer s H E) [] (start N vs) H a7:=by
 have fN:ps.length≤N.length:=by have:=congrArg List.length S.pre;rw[qaI] at this;omega
 obtain⟨aS,bL,rfl,a5⟩:=x.done;have pJ:∀b:Addr,b∉(ZJ CX P w K mg base N qual scope f cd A outer s H E).ex:=λb z=>absurd (show b∈([]:List Addr) from z) (by simp);refine⟨⟨ej.mod,S.kind,rfl,rfl,fm _,λy z c aS a2=>?_,λy bE=>?_,λy c _ h=>?_,λ_=>hd,Around.frames_deeper ej.frames,.inr ⟨rfl,rfl⟩,λb z=>absurd z (pJ b),ej.bs,ej.bsz,λb _ _=>pJ b,λb z=>absurd z (pJ b),ej.funs,ej.frf⟩,
  rfl,ej.bare,Un.kept a5,⟨_,x.toInCall.ns,λi y v aS a2 bU=>?_⟩,λy c h=>⟨_,x.cell y c h⟩,ej.hok.fresh (fm _),λy c h=>?_,λp bb=>absurd (show p∈([]:List (Addr×Obj)) from bb) (by simp),ej.hok.kept a5,?_⟩
 ·exact name_of_addr x.apart (qbB aS) (qbB a2)
 ·have bE:scope.names.lookup y=some .cell∨scope.names.lookup y=some .free:=bE;rcases bE with bE|bE
  ·exact Zf4 bE
  ·exact absurd rfl (S.nofree _ (qbB bE))
 ·exact qaX (x.above y c (qbB h))
 ·have hi:i<vs.length:=by
   unfold start at a2
   by_cases hi:i<vs.length
   ·exact hi
   ·rw[qaV (by simpa using hi)] at a2;rw[List.getElem?_replicate] at a2
    split at a2<;>cases a2
  have bx:vs[i]? =some v:=by
   unfold start at a2;rw[qaW (by simpa using hi),qaj] at a2;cases e:vs[i]? with
   |none=>rw[e] at a2;cases a2
   |some a=>rw[e] at a2;cases a2;rfl
  obtain⟨u,hu,dC⟩:=r.get bx;have bb:ps[i]? =some y:=by
   rw[←S.pre,List.getElem?_take_of_lt (by omega)];exact aS
  have yq:ps.Nodup:=by rw[←S.pre];exact S.nd.sublist (List.take_sublist _ _)
  refine⟨u,dC,?_⟩;rcases S.par y (qal bb) with k|k
  ·exact .inl ⟨k,yp yq bb hu k⟩
  ·obtain⟨c,e⟩:=Zf4 (n:=s.heap.objs.size+1) k;refine .inr ⟨.inl k,c,e,?_⟩;have q:=x.cell y c e;rw[Zes yq bb hu (by show scope.names.lookup y≠_;rw[k];decide)] at q;exact q
 ·exact ej.hok.fresh (qaX (x.above y c (qbB h)))
 ·unfold start;show _=N.length;rw[qap,GE,qa3];omega
theorem ZlE{CX:CXT}{P:Program}{w:World}{K:Frag}{mg:Str→Option Value}{base:Heap}{k:Nat}{f:Addr}{name qual:Str}{params:Arguments}{body:List Stmt}{scope:Scope}{rD kV fH e3 di ct fM:Value}{an eR:Option Addr}
  {g_:Array (Option Value)} {N ps:List Str} {sp:Sp} (lk:K.lookup f=some ⟨fM,eR,.func (fnOf name qual params body scope rD kV fH e3 an di ct),g_⟩) (im:codeIn K di qual=true) (S:Zo N ps scope)
  (len:∀vs H Q E,sp vs H Q E→vs.length=ps.length)
  (m8:∀(A:Around)(outer:List Env)(s:Shared)(H:Hp)(vs:List V)(Q:VK)(E:XK),e2 k (A.deeper (envOfC qual scope s.heap.objs.size f di))→sp vs H Q E→
   ∃t,PSs (ZJ CX P w K mg base N qual scope f di A outer s H E) body t∧t {nx:=λ_ H'=>Q .non H',rt:=Q} (start N vs) H):
  Ys P w K mg base CX (k+1) f (fnOf name qual params body scope rD kV fH e3 an di ct) ps sp:=by
 refine⟨len,λA outer s H args us vs Q E a3 ej aN r ip=>?_⟩;have aJ:=len _ _ _ _ ip;have e9:K.In s.heap:=ej.mod.kin.keeps λb o e=>(ej.bs b o e).1;have tZ:s.heap.NoLimit:=ej.mod.nolimit.keeps λb o e=>(ej.bs b o e).1;have ll:∀y∈ps.zip us,scope.names.lookup y.1=some .local∨(scope.names.lookup y.1=some .cell∧((cellsFrom (s.heap.objs.size+1) scope.names []).lookup y.1).isSome=true):=λ⟨n,v⟩ bE=>by
  rcases S.par n (List.of_mem_zip bE).1 with q|q
  ·exact .inl q
  ·exact .inr ⟨q,cellsFrom_some _ _ _ (.inl q)⟩
 refine codeAny_call_function a3.depth (e9 _ _ lk) rfl S.co S.gen rfl (codeRec_of e9 im) (aN _ _ _ _ ?_);refine wpAny_newFunctionEnv_cells S.kind ll λenv bD a7 x=>?_;subst bD;refine⟨tZ.keeps x.toInCall.keep,codeAny_func ?_⟩;obtain⟨t,ce,bT⟩:=m8 A outer s H vs Q E (a3.deeper _) ip;have I:Inv (ZJ CX P w K mg base N qual scope f di A outer s H E) [] (start N vs) H a7:=Zee S a3.hd ej aJ r x;refine wpAny_mono (ce [] a7 (start N vs) H _ I bT) (λfl s' hs=>?_) λe s' hs=>hs;have eZ:∀{bN:St}{H':Hp}{v:V}{u:Value},Inv (ZJ CX P w K mg base N qual scope f di A outer s H E) [] bN H' s'→dq v u→Q v H'→CE outer P w H s Q u s':=
  λ{bN H' v u} J dC q=>⟨v,H',J.os,J.bare,J.base,J.hok,dC,q⟩
 cases fl with
 |ret u=>
  obtain⟨v,bN,H',J,dC,q⟩:=hs;exact eZ J dC q
 |next=>
  obtain⟨bN,H',J,q⟩:=hs;exact eZ (v:=V.non) (u:=Value.none) J rfl q
 |brk=>
  obtain⟨_,_,_,q⟩:=hs;exact False.elim q
 |cont=>
  obtain⟨_,_,_,q⟩:=hs;exact False.elim q
section
variable {X:Cx}{x:Str}{p pos:Pos}{e:Expr}{a':List Expr}{t:TA}{id T:String}{r:List V→Hp→VK→Prop}
noncomputable def tCB (r:List V→Hp→VK→Prop) (t:TA):TE:=λσ H Q=>t σ H λvs aU=>r vs aU Q
theorem ey(a8:Z8 X (.builtin id) r)(bc:Gl X x)(bo:X.mg x=none)(cv:bootBuiltins x=some (.builtin id))(bx:PA X (e::a') t)(bF:x≠"__name__" :=by decide)(f':(x==("__debug__" :Str))=false:=by decide)
  (bD:starEach (e::a') X.env=(false,eval e X.env)::starEach a' X.env:=by rfl) (fN:(backTo pos (starEach a' X.env)).any (·.1)=false:=by rfl):PE X (.Call (.Name x p) (e::a') [] pos) (tCB r t):=by
 intro aK s σ H Q I h;refine wpAny_Call_Name_kw (jH I bc bo cv ?_ bF f');exact qbu (thn (bx pos aK s σ H _ I h) λus a7 ⟨vs,aU,bB,df,c8⟩=>a8 aK a7 σ aU vs us Q bB df c8) bD fN
theorem lm(a8:Z8 X (.type T) r)(bc:Gl X x)(bo:X.mg x=none)(cv:bootBuiltins x=some (.type T))(bx:PA X (e::a') t)(bF:x≠"__name__" :=by decide)(f':(x==("__debug__" :Str))=false:=by decide)
  (bD:starEach (e::a') X.env=(false,eval e X.env)::starEach a' X.env:=by rfl) (fN:(backTo pos (starEach a' X.env)).any (·.1)=false:=by rfl):PE X (.Call (.Name x p) (e::a') [] pos) (tCB r t):=by
 intro aK s σ H Q I h;refine wpAny_Call_Name_kw (jH I bc bo cv ?_ bF f');exact qaT (thn (bx pos aK s σ H _ I h) λus a7 ⟨vs,aU,bB,df,c8⟩=>a8 aK a7 σ aU vs us Q bB df c8) bD fN
end
end L2
namespace HT
open PySem PyProof.Rows
section
open PySem.SeqAt
open PySem.AutoSeq1 (wpAny_loadPart')
open PySem.MeetsSeq PySem.MeetsSeq2 PySem.MeetsSeq3
end
section
variable {prog:Program}{w:World}{A:Around}{E:Value→Shared→Prop}{s:Shared}
theorem Zmp{t b:Addr}{vs bW:List Value}{Q:Value→Shared→Prop}(ce:IsTup s.heap t vs.toArray)(aN:IsTup s.heap b bW.toArray)(cv:vs≠[])
  (aS:bW=[]→Q (.ref t) s) (a2:bW≠[]→Q (.ref s.heap.objs.size) {s with heap:=s.heap.push {cls:= .type "tuple",data:= .seq (vs++bW).toArray}})
  (hsz:vs.length+bW.length≤sizeLine):wpAny (model prog w) A (binaryOp .Add (.ref t) (.ref b)) Q E s:=by
 obtain⟨⟨cls,dd,data,sl⟩,bz,a8,n,hd⟩:=id ce;obtain⟨⟨Qw,rE,data2,yr⟩,rF,rG,jl,hX⟩:=id aN;simp only at a8 hd rG hX;subst a8 hd rG hX;have e:vs.toArray++bW.toArray=(vs++bW).toArray:=by simp
 by_cases hw:bW=[]
 ·exact concat_meets ⟨_,bz,rfl⟩ ⟨_,rF,rfl⟩ noFill_tuple_add seq_tuple_add PySem.F.slot_tuple_add PySem.F.entry_tuple_add (PySem.F.args_tuple_add_2 _ _)
   (tuple_addW1 t b vs.toArray bW.toArray n jl dd rE sl yr (by simpa using cv) (by simp[hw])) ⟨bz,rF,aS hw⟩
 ·refine concat_meets ⟨_,bz,rfl⟩ ⟨_,rF,rfl⟩ noFill_tuple_add seq_tuple_add PySem.F.slot_tuple_add PySem.F.entry_tuple_add (PySem.F.args_tuple_add_2 _ _)
   (tuple_addW2 t b vs.toArray bW.toArray n jl dd rE sl yr (by simpa using cv) (by simpa using hw) (by rw[qae,qae];exact hsz)) ⟨bz,rF,?_⟩
  rw[e];exact a2 hw
noncomputable def sIx (n d:Nat):Option Int→Nat
 |none=>d
 |some v=>if v<0 then(v+(n:Int)).toNat else min v.toNat n
theorem Zm7(n d:Nat)(hd:d≤n)(o:Option Int):sIx n d o≤n:=by
 cases o with
 |none=>exact hd
 |some v=>
  show(if v<0 then(v+(n:Int)).toNat else min v.toNat n)≤n
  by_cases cv:v<0
  ·rw[if_pos cv];omega
  ·rw[if_neg cv];exact Nat.min_le_right _ _
theorem Zhj(v:Int)(n d:Nat):(if v<0 then max (v+(n:Int)) 0 else min v (n:Int))=((sIx n d (some v):Nat):Int):=by
 show(if v<0 then max (v+(n:Int)) 0 else min v (n:Int))=(((if v<0 then(v+(n:Int)).toNat else min v.toNat n):Nat):Int)
 by_cases cv:v<0
 ·simp only[if_pos cv];omega
 ·simp only[if_neg cv];omega
theorem Zig(lo hi:Option Int)(n:Nat):Builtin.Slice.sliceAdjust lo hi 1 (n:Int)=(((sIx n 0 lo:Nat):Int),((sIx n n hi:Nat):Int)):=by
 have aS:¬((1:Int)<0):=by omega
 unfold Builtin.Slice.sliceAdjust;simp only[aS,if_false];refine Prod.ext ?_ ?_
 ·cases lo with
  |none=>rfl
  |some v=>exact Zhj v n 0
 ·cases hi with
  |none=>rfl
  |some v=>exact Zhj v n n
theorem Ziv(i j:Nat):Builtin.Slice.slicePlaces (i:Int) (j:Int) 1=j-i:=by
 unfold Builtin.Slice.slicePlaces;have aS:(1:Int) > 0:=by omega
 simp only[aS,if_true,Int.ediv_one]
 split<;>omega
theorem yt{v:Value}{o:Option Int}{Q:Option Int→Shared→Prop}(p:IsPart v o)(h:Q o s):wpAny (model prog w) A (Builtin.Slice.slicePartIndex v) Q E s:=by
 cases p with
 |none=>exact slicePart_none h
 |int i t=>exact slicePart_int h
theorem DM{sl:Addr}{gb gW:Value}{lo hi:Option Int}{n:Nat}{Q:Int×Int×Nat→Shared→Prop}(hs:s.heap.IsSliceOf sl gb gW .none)(pl:IsPart gb lo)(iq:IsPart gW hi)
  (h:Q (((sIx n 0 lo:Nat):Int),1,sIx n n hi-sIx n 0 lo) s):wpAny (model prog w) A (Builtin.Slice.sliceApplied (.ref sl) (pure (n:Int))) Q E s:=by
 obtain⟨os,pK,pL,kE⟩:=id hs;unfold Builtin.Slice.sliceApplied Builtin.Slice.sliceFields;refine wpAny_bind (wpAny_bind (wpAny_field pK kE (x:=gb) rfl (wpAny_bind (wpAny_field pK kE (x:=gW) rfl (wpAny_bind (wpAny_field pK kE (x:= .none) rfl (wpAny_pure ?_)))))));refine wpAny_bind (slicePart_none ?_);show wpAny _ _ (if((1:Int)==0)=true then _ else _) _ _ s;rw[if_neg (by decide)];refine wpAny_bind (yt pl (wpAny_bind (yt iq (wpAny_bind (wpAny_pure ?_)))));show wpAny _ _ (match Builtin.Slice.sliceAdjust lo hi 1 (n:Int) with|(lo,hi)=>pure (lo,(1:Int),Builtin.Slice.slicePlaces lo hi 1)) _ _ s;rw[Zig lo hi n];show wpAny _ _ (pure (((sIx n 0 lo:Nat):Int),(1:Int),Builtin.Slice.slicePlaces ((sIx n 0 lo:Nat):Int) ((sIx n n hi:Nat):Int) 1)) _ _ s;rw[Ziv];exact wpAny_pure h
theorem DN(xs:Array Value)(i k:Nat):((List.range k).filterMap λ(m:Nat)=>xs[((i:Int)+(m:Int)*1).toNat]?).toArray=((xs.toList.drop i).take k).toArray:=by
 have e:(λ(m:Nat)=>xs[((i:Int)+(m:Int)*1).toNat]?)=λm=>xs[i+m]? :=by
  funext m
  have:((i:Int)+(m:Int)*1).toNat=i+m:=by omega
  rw[this]
 rw[e];have:=pick_run xs i k;rw[List.filterMap_map] at this;have bC:((λx=>xs[x]?)∘λx=>i+x)=λm=>xs[i+m]? :=rfl;rw[bC] at this;rw[this]
theorem Zb1{t sl:Addr}{items:Array Value}{gb gW:Value}{lo hi:Option Int}{Q:Value→Shared→Prop}(ce:IsTup s.heap t items)(hs:s.heap.IsSliceOf sl gb gW .none)(pl:IsPart gb lo)(iq:IsPart gW hi)
  (hw:¬(sIx items.size 0 lo=0∧sIx items.size items.size hi=items.size))
  (h:Q (.ref s.heap.objs.size) {s with heap:=s.heap.push {cls:= .type "tuple",data:= .seq ((items.toList.drop (sIx items.size 0 lo)).take (sIx items.size items.size hi-sIx items.size 0 lo)).toArray}})
  (hsz:items.size≤sizeLine):wpAny (model prog w) A (getItem (.ref t) (.ref sl)) Q E s:=by
 have rH:sizeOk (.seq ((items.toList.drop (sIx items.size 0 lo)).take (sIx items.size items.size hi-sIx items.size 0 lo)).toArray):=by
  show((items.toList.drop (sIx items.size 0 lo)).take (sIx items.size items.size hi-sIx items.size 0 lo)).toArray.size≤sizeLine;rw[qae,qaI,qbD,qaE];omega
 have bj:sIx items.size items.size hi≤items.size:=Zm7 _ _ (fm _) hi;obtain⟨os,pK,pL,kE⟩:=id hs;have DO:s.TypeIs (.ref sl) "slice" :=⟨os,pK,pL⟩;unfold getItem
 try with_reducible refine wpAny_holding ?_
 first|refine wpAny_bind (wpAny_pure ?_)|skip
 refine wpAny_bind (wpAny_sequenceKey ce.typeIs (by decide) ?_);refine wpAny_bind (wpAny_callSpecial?_slot (name:=Str.ofString "__getitem__") ce.typeIs qbO
  (wpAny_call_entry qbO ce.typeIs entry_tuple_getitem ?_ (args_tuple_getitem _ _)))
 show wpAny _ _ (Builtin.Tuple.tupleItemsOf (.ref t) >>= _) _ _ s;refine wpAny_bind (tupleItemsOf_ ce ?_);refine wpAny_bind (wpAny_typeOf DO ?_);rw[if_pos (by decide)];refine wpAny_bind (DM hs pl iq ?_);have hj:¬((((sIx items.size 0 lo:Nat):Int)==0&&(1:Int)==1&&(sIx items.size items.size hi-sIx items.size 0 lo)==items.size)=true):=by
  intro q;rw[qaQ,qaQ] at q;have c8:((sIx items.size 0 lo:Nat):Int)=0:=eq_of_beq q.1.1;have dI:sIx items.size items.size hi-sIx items.size 0 lo=items.size:=eq_of_beq q.2;exact hw ⟨by omega,by omega⟩
 show wpAny _ _ (if(((sIx items.size 0 lo:Nat):Int)==0&&(1:Int)==1&&(sIx items.size items.size hi-sIx items.size 0 lo)==items.size)=true then _ else _) _ _ s;rw[if_neg hj,DN]
 first
  |exact wpAny_bind (m:=Builtin.Tuple.tupleExact _) (wpAny_newObj_type (wpAny_pure ⟨_,rfl,wpAny_pure h⟩) rH)
  |exact wpAny_bind (m:=Builtin.Tuple.tupleExact _) (wpAny_newObj_type (wpAny_bind (wpAny_pure (wpAny_pure ⟨_,rfl,wpAny_pure h⟩))) rH)
  |exact wpAny_bind (wpAny_bind (m:=Builtin.Tuple.tupleExact _) (wpAny_newObj_type (wpAny_pure (wpAny_pure ⟨_,rfl,wpAny_pure h⟩)) rH))
  |exact wpAny_bind (wpAny_bind (m:=Builtin.Tuple.tupleExact _) (wpAny_newObj_type (wpAny_pure ⟨_,rfl,wpAny_pure h⟩) rH))
end
end HT
namespace L2
open PySem PySem.Spec PyProof.Rows
noncomputable abbrev TO:=St→Hp→(Option Int→Hp→Prop)→Prop
def PO(X:Cx)(e:Option Expr)(t:TO):Prop:=
 ∀(aK:List (Addr×Obj))(s:Shared)(σ:St)(H:Hp)(Q:Option Int→Hp→Prop),Inv X aK σ H s→t σ H Q→
  wpAny (model X.prog X.w) X.A (evalPart e X.env) (λu s'=>∃o H',Inv X aK σ H' s'∧IsPart u o∧Q o H') X.xe s
noncomputable def tNoPart:TO:=λ_ H Q=>Q none H
noncomputable def yu (t:TE):TO:=λσ H Q=>t σ H λx aU=>∃i,x= .int i∧Q (some i) aU
theorem Ww{ns:List Int}:∀{us:List Value},dm (ns.map V.int) us→IntsAre us ns:=by
 induction ns with
 |nil=>intro us r;rw[List.map_nil] at r;cases r;exact .nil
 |cons n ns bP=>
  intro us r;rw[List.map_cons] at r;cases r with
  |cons df dO=>
   obtain⟨t,e⟩:=df;subst e;exact .cons n t (bP dO)
section
variable {X:Cx}{e:Expr}{dg:TE}{lo hi:Option Expr}{ei iu:TO}{pos iR:Pos}
theorem n_:PO X none tNoPart:=by
 intro aK s σ H Q I h;rw[evalPart_none];exact wpAny_pure ⟨none,H,I,.none,h⟩
theorem n'(h:PE X e dg):PO X (some e) (yu dg):=by
 intro aK s σ H Q I hw;rw[evalPart_some];refine thn (h aK s σ H _ I hw) λu a7 ⟨x,aU,bB,df,c8⟩=>?_;obtain⟨i,rfl,q⟩:=c8;obtain⟨t,rfl⟩:=df;exact⟨some i,aU,bB,.int i t,q⟩
def SlR(X:Cx)(r:V→Option Int→Option Int→Hp→VK→Prop):Prop:=
 ∀(aK:List (Addr×Obj))(s:Shared)(σ:St)(H:Hp)(x:V)(v gb gW:Value)(lo hi:Option Int)(sl:Addr)(Q:VK),Inv X aK σ H s→dq x v→s.heap.IsSliceOf sl gb gW .none→IsPart gb lo→IsPart gW hi→r x lo hi H Q→
  ∃T id,typeLookup (.type T) "__getitem__" =pure (some (.builtin id))∧s.TypeIs v T∧wpAny (model X.prog X.w) X.A (getItem v (.ref sl)) (EP X aK σ Q) X.xe s
theorem SlR.or{r dX:V→Option Int→Option Int→Hp→VK→Prop}(h:SlR X r)(h':SlR X dX):SlR X (λx lo hi H Q=>r x lo hi H Q∨dX x lo hi H Q):=by
 intro aK s σ H x v gb gW lo hi sl Q I bO hs pl iq q;rcases q with q|q
 ·exact h aK s σ H x v gb gW lo hi sl Q I bO hs pl iq q
 ·exact h' aK s σ H x v gb gW lo hi sl Q I bO hs pl iq q
noncomputable def tSl (r:V→Option Int→Option Int→Hp→VK→Prop) (dg:TE) (ei iu:TO):TE:=λσ H Q=>dg σ H λx aU=>ei σ aU λl a4=>iu σ a4 λu b_=>r x l u b_ Q
theorem oa{r:V→Option Int→Option Int→Hp→VK→Prop}(a3:SlR X r)(bD:PE X e dg)(aJ:PO X lo ei)(hu:PO X hi iu):PE X (.Subscript e (.Slice lo hi none iR) pos) (tSl r dg ei iu):=by
 intro aK s σ H Q I h;refine Subscript_ (thn (bD aK s σ H _ I h) λv a7 ⟨x,aU,bB,df,c8⟩=>?_);refine wpAny_Slice (thn (aJ aK a7 σ aU _ bB c8) λgb bK ⟨l,a4,ds,pl,dI⟩=>thn (hu aK bK σ a4 _ ds dI) λgW bM ⟨u,b_,en,iq,f9⟩=>?_);rw[evalPart_none];refine wpAny_pure ?_;have lc:Inv X aK σ b_ {bM with heap:=bM.heap.push {cls:= .type "slice",data:= .fields #[gb,gW,.none]}}:=en.kept (t':=bM.toks) λb dz q=>Heap.get?_push_of_some _ q;obtain⟨T,id,ek,ce,bc⟩:=a3 aK {bM with heap:=bM.heap.push {cls:= .type "slice",data:= .fields #[gb,gW,.none]}} σ b_ x v gb gW l u bM.heap.objs.size Q lc df (Heap.IsSliceOf.new ..) pl iq f9;show wpAny (model X.prog X.w) X.A (subscriptTail e (.Slice lo hi none iR) v (.ref bM.heap.objs.size)) (EP X aK σ Q) X.xe {bM with heap:=bM.heap.push {cls:= .type "slice",data:= .fields #[gb,gW,.none]}};exact tail_any (ops:=[.ref bM.heap.objs.size,v]) ce ek bc (by with_unfolding_all rfl)
noncomputable def iv (xs:List V) (lo hi:Option Int):List V:=(xs.drop (HT.sIx xs.length 0 lo)).take (HT.sIx xs.length xs.length hi-HT.sIx xs.length 0 lo)
theorem yv(xs:List V)(lo hi:Option Int):(iv xs lo hi).length≤xs.length:=by
 unfold iv;rw[qaI,qbD];omega
noncomputable def yw (K:Frag):V→Option Int→Option Int→Hp→VK→Prop:=λx lo hi H Q=>∃a xs,x= .ref a∧SqT K H a xs∧
 ¬(HT.sIx xs.length 0 lo=0∧HT.sIx xs.length xs.length hi=xs.length)∧∀p,H p=none→Q (.ref p) (upd H p (.tup (iv xs lo hi)))
theorem DP:SlR X (yw X.K):=by
 intro aK s σ H x v gb gW lo hi sl Q I bO hs pl iq h;obtain⟨a,xs,rfl,aT,hw,q⟩:=h;cases bO;obtain⟨its,r,ce,hz⟩:=I.tuple aT;have eV:its.toArray.size=xs.length:=by rw[qae];exact r.length.symm
 refine⟨"tuple",_,qbO.lookup,ce.typeIs,?_⟩;refine HT.Zb1 ce hs pl iq (by rw[eV];exact hw) ?_ (by rw[eV];exact hz);rw[eV];refine⟨.ref s.heap.objs.size,_,I.laid (t':=s.toks) (o:= .tup (iv xs lo hi)) (λb dz q=>Heap.get?_push_of_some _ q) (fm _) ?_,rfl,q _ (I.hok.fresh (fm _))⟩;exact⟨qat (yv xs lo hi) hz,_,(r.drop (HT.sIx xs.length 0 lo)).take (HT.sIx xs.length xs.length hi-HT.sIx xs.length 0 lo),IsTup.new _ _⟩
noncomputable def pM (K:Frag):R2:=λx y H Q=>∃a b xs ys,x= .ref a∧y= .ref b∧SqT K H a xs∧SqT K H b ys∧xs≠[]∧xs.length+ys.length≤sizeLine∧
 (ys=[]→Q (.ref a) H)∧(ys≠[]→∀p,H p=none→Q (.ref p) (upd H p (.tup (xs++ys))))
theorem dm.nil_iff{xs:List V}{us:List Value}(r:dm xs us):us=[]↔xs=[]:=by
 cases r with
 |nil=>simp
 |cons _ _=>simp
theorem DQ:OpR X (binaryOp .Add) (pM X.K):=by
 intro aK s σ H x y v u Q I bO c9 h;obtain⟨a,b,xs,ys,rfl,rfl,bx,aN,aT,hz,c8,dI⟩:=h;cases bO;cases c9;obtain⟨its,df,gc,_⟩:=I.tuple bx;obtain⟨l_,dO,iR,_⟩:=I.tuple aN;refine HT.Zmp gc iR (λz=>aT (df.nil_iff.mp z)) (λz=>⟨.ref a,H,I,rfl,c8 (dO.nil_iff.mp z)⟩) (λz=>?_) (by rw[←df.length,←dO.length];exact hz);refine⟨.ref s.heap.objs.size,_,I.laid (t':=s.toks) (o:= .tup (xs++ys)) (λb dz q=>Heap.get?_push_of_some _ q) (fm _) ?_,rfl,dI (λw=>z (dO.nil_iff.mpr w)) _ (I.hok.fresh (fm _))⟩;exact⟨by rw[qap];exact hz,_,df.append dO,IsTup.new _ _⟩
end
noncomputable def ixN (n:Nat) (i:Int):Option Nat:=if 0≤i then(if i<n then some i.toNat else none) else if -(n:Int)≤i then some (i+n).toNat else none
noncomputable def atI {dA:Type} (xs:List dA) (i:Int):Option dA:=(ixN xs.length i).bind λj=>xs[j]?
theorem Zhg{n:Nat}{i:Int}{j:Nat}(h:ixN n i=some j):seqIndex? i n=some j∧j<n∧ -(n:Int)≤i∧i<n:=by
 unfold ixN at h
 by_cases de:0≤i
 ·rw[if_pos de] at h
  by_cases aS:i<n
  ·rw[if_pos aS] at h;have e:i.toNat=j:=qam h;exact⟨by rw[seqIndex_of de aS,e],by omega,by omega,aS⟩
  ·rw[if_neg aS] at h;cases h
 ·rw[if_neg de] at h
  by_cases aS: -(n:Int)≤i
  ·rw[if_pos aS] at h;have e:(i+n).toNat=j:=qam h;exact⟨by rw[seqIndex_neg (by omega) aS,e],by omega,aS,by omega⟩
  ·rw[if_neg aS] at h;cases h
theorem ZbV{dA:Type}{xs:List dA}{i:Int}{v:dA}(h:atI xs i=some v):∃j,seqIndex? i xs.length=some j∧xs[j]? =some v∧j<xs.length∧ -(xs.length:Int)≤i∧i<xs.length:=by
 unfold atI at h;cases e:ixN xs.length i with
 |none=>rw[e] at h;cases h
 |some j=>
  rw[e] at h;obtain⟨aS,a2,bU,dD⟩:=Zhg e;exact⟨j,aS,h,a2,bU,dD⟩
theorem iS{dA:Type}{xs:List dA}{j:Nat}{v:dA}(h:xs[j]? =some v):atI xs (j:Int)=some v:=by
 have bj:j<xs.length:=(GM.mp h).1;have e:ixN xs.length (j:Int)=some j:=by
  unfold ixN;rw[if_pos (by omega),if_pos (by omega)];simp
 unfold atI;rw[e];exact h
def Zmg(b:Expr):Prop:=∀o i,subscripted b false o i=operate [o,i] (getItem o i)
def IxR(X:Cx)(r:R2):Prop:=
 ∀(value slice:Expr)(aK:List (Addr×Obj))(s:Shared)(σ:St)(H:Hp)(x y:V)(v u:Value)(Q:VK),Inv X aK σ H s→dq x v→dq y u→r x y H Q→
  subscripted slice false v u=operate [v,u] (getItem v u)→wpAny (model X.prog X.w) X.A (subscriptTail value slice v u) (EP X aK σ Q) X.xe s
def MtR(X:Cx)(id:String)(r:V→List V→Hp→VK→Prop):Prop:=
 ∀(aK:List (Addr×Obj))(s:Shared)(σ:St)(H:Hp)(x:V)(xs:List V)(v:Value)(us:List Value)(Q:VK),Inv X aK σ H s→dq x v→dm xs us→r x xs H Q→
  wpAny (model X.prog X.w) X.A (call (.builtin id) (v::us)) (EP X aK σ Q) X.xe s
section
variable {X:Cx}{a b:Expr}{bA dy:TE}{pos:Pos}
theorem IxR.or{r dX:R2}(h:IxR X r)(h':IxR X dX):IxR X (λx y H Q=>r x y H Q∨dX x y H Q):=by
 intro value slice aK s σ H x y v u Q I bO c9 q hs;rcases q with q|q
 ·exact h value slice aK s σ H x y v u Q I bO c9 q hs
 ·exact h' value slice aK s σ H x y v u Q I bO c9 q hs
theorem dF{r:R2}(a3:IxR X r)(bx:PE X a bA)(aN:PE X b dy)(hs:Zmg b):PE X (.Subscript a b pos) (tOp r bA dy):=by
 intro aK s σ H Q I h;exact Subscript_ (tP bx aN I h λv u bK x y a4 ds bO c9 q=>a3 a b aK bK σ a4 x y v u Q ds bO c9 q (hs _ _))
noncomputable def Zd0 (K:Frag):R2:=λx y H Q=>∃p xs i v,x= .ref p∧y= .int i∧SqL K H p xs∧atI xs i=some v∧Q v H
noncomputable def t0 (K:Frag):R2:=λx y H Q=>∃p xs i v,x= .ref p∧y= .int i∧SqT K H p xs∧atI xs i=some v∧Q v H
noncomputable def rIxS:R2:=λx y H Q=>∃z i c,x= .str z∧y= .int i∧z.length≤sizeLine∧atI z.cps.toList i=some c∧Q (.str ⟨#[c]⟩) H
theorem DR:IxR X (Zd0 X.K):=by
 intro value slice aK s σ H x y v u Q I bO c9 h hs;obtain⟨p,xs,i,z,rfl,rfl,bT,bD,q⟩:=h;cases bO;obtain⟨t,rfl⟩:=c9;obtain⟨its,r,pl,hz⟩:=I.list bT;obtain⟨j,aS,a2,bU,dD,eM⟩:=ZbV bD;obtain⟨w,gX,jo⟩:=r.get a2;have aJ:=r.length;have bF:=li;have eZ:EP X aK σ Q w s:=⟨z,H,I,jo,q⟩
 by_cases de:0≤i
 ·have bj:i.toNat=j:=by
   rw[seqIndex_of de eM] at aS;exact qam aS
  exact item_listR pl.isList de (by omega) (by rw[bj];simpa using gX) eZ hs
 ·have bj:(i+(its.toArray.size:Int)).toNat=j:=by
   rw[seqIndex_neg (by omega) dD] at aS;rw[qae,←aJ];exact qam aS
  exact subscriptTail_builtinR (x:=w) pl.isList.typeIs slot_list_getitem.lookup
   (wpAny_getItem_list_neg (Q:=λr s'=>r=w∧EP X aK σ Q r s') pl.isList (by omega) (by rw[qae]<;>omega) (by omega) (by rw[bj];simpa using gX) ⟨rfl,eZ⟩) hs
theorem DS:IxR X (t0 X.K):=by
 intro value slice aK s σ H x y v u Q I bO c9 h hs;obtain⟨p,xs,i,z,rfl,rfl,bT,bD,q⟩:=h;cases bO;obtain⟨t,rfl⟩:=c9;obtain⟨its,r,pl,hz⟩:=I.tuple bT;obtain⟨j,aS,a2,bU,dD,eM⟩:=ZbV bD;obtain⟨w,gX,jo⟩:=r.get a2;have aJ:=r.length;have bF:=li;have eZ:EP X aK σ Q w s:=⟨z,H,I,jo,q⟩;exact subscriptTail_builtinR (x:=w) pl.typeIs slot_tuple_getitem.lookup
  (getItem_tuple (j:=j) (Q:=λr s'=>r=w∧EP X aK σ Q r s') pl (by omega) (by omega) (by rw[qae,←aJ];exact aS) (by simpa using gX) ⟨rfl,eZ⟩) hs
theorem DT:IxR X rIxS:=by
 intro value slice aK s σ H x y v u Q I bO c9 h hs;obtain⟨z,i,c,rfl,rfl,hz,bD,q⟩:=h;obtain⟨t,rfl⟩:=bO;obtain⟨t',rfl⟩:=c9;obtain⟨j,aS,a2,bU,dD,eM⟩:=ZbV bD;have aJ:z.cps.toList.length=z.length:=by simp[Str.length]
 rw[aJ] at aS dD eM;have bF:=li;exact tail_any (typeIs_str s z t) slot_str_getitem.lookup (getItem_str (c:=c) (by
  have bw:decide (i< -(2 ^ 63:Int))=false:=decide_eq_false (by omega);have bC:decide (i≥2 ^ 63)=false:=decide_eq_false (by omega);rw[bw,bC,Bool.or_false]) (by rw[aS];simpa using a2) ⟨.str ⟨#[c]⟩,H,I.tok _,⟨_,rfl⟩,q⟩) hs
noncomputable def rIx (K:Frag):R2:=λx y H Q=>Zd0 K x y H Q∨t0 K x y H Q∨rIxS x y H Q
theorem DU:IxR X (rIx X.K):=DR.or (DS.or DT)
theorem DV(its:List Value)(n j:Nat)(u:Value):Obj.mapSeq (·.setIfInBounds j u) {cls:= .type "list",data:= .seq its.toArray n}={cls:= .type "list",data:= .seq (its.set j u).toArray n}:=by
 simp[Obj.mapSeq]
theorem Inv.lst{aK:List (Addr×Obj)}{σ:St}{H:Hp}{s:Shared}{p:Addr}{xs:List V}(I:Inv X aK σ H s)(h:H p=some (.lst xs)):
  ∃(its:List Value)(n:Nat),dm xs its∧s.heap.get? p=some {cls:= .type "list",data:= .seq its.toArray n}∧xs.length≤sizeLine:=by
 obtain⟨z,its,n,r,e⟩:=I.hok p _ h;exact⟨its,n,r,e,z⟩
theorem Inv.lstUpd{aK:List (Addr×Obj)}{σ:St}{H:Hp}{s:Shared}{p:Addr}{xs ys:List V}{its its':List Value}{n hV:Nat}{f:Obj→Obj}(I:Inv X aK σ H s)(h:H p=some (.lst xs))
  (bz:s.heap.get? p=some {cls:= .type "list",data:= .seq its.toArray n}) (bv:f {cls:= .type "list",data:= .seq its.toArray n}={cls:= .type "list",data:= .seq its'.toArray hV}) (r:dm ys its') (hz:ys.length≤sizeLine) (t:Nat):
  Inv X aK σ (upd H p (.lst ys)) {s with heap:=s.heap.update p f,toks:=t}:=by
 have e:(s.heap.update p f).get? p=some {cls:= .type "list",data:= .seq its'.toArray hV}:=by
  rw[Heap.get?_update_self f bz (by rw[bv]<;>rfl),bv]
 refine I.write (x:=p) (e:=p) (by rw[h];trivial) (.inl rfl) (λb u aN q=>(Heap.get?_update_other _ _ (qbP aN)).trans q) ⟨_,e⟩ ?_;exact⟨hz,its',hV,r,e⟩
noncomputable def rSetL:V→V→V→Hp→(Hp→Prop)→Prop:=λo i v H Q=>∃p xs k j,o= .ref p∧i= .int k∧H p=some (.lst xs)∧ixN xs.length k=some j∧Q (upd H p (.lst (xs.set j v)))
theorem pN:Zhq X rSetL:=by
 intro aK s σ H o i v d4 gs u Q I ro ri dC h;obtain⟨p,xs,k,j,rfl,rfl,bb,bj,q⟩:=h;cases ro;obtain⟨t,rfl⟩:=ri;obtain⟨its,n,r,bz,hz⟩:=I.lst bb;obtain⟨aS,a2,bU,dD⟩:=Zhg bj;have aJ:=r.length;have bF:=li;have eT:Inv X aK σ (upd H p (.lst (xs.set j v))) {s with heap:=s.heap.update p (Obj.mapSeq (·.setIfInBounds j u))}:=
  I.lstUpd bb bz (DV its n j u) (r.set dC j) (by rw[qbY];exact hz) s.toks
 by_cases de:0≤k
 ·have a5:k.toNat=j:=by
   rw[seqIndex_of de dD] at aS;exact qam aS
  exact PySem.W.ki_setAt bz de (by omega) (by rw[qae,←aJ];exact dD) (by rw[a5];exact⟨_,eT,q⟩)
 ·have a5:(k+(its.toArray.size:Int)).toNat=j:=by
   rw[seqIndex_neg (by omega) bU] at aS;rw[qae,←aJ];exact qam aS
  exact PySem.W.ki_setBack bz (by omega) (by rw[qae,←aJ];exact bU) (by omega) (by rw[a5];exact⟨_,eT,q⟩)
theorem ZfU(lo hi:Option Int)(n:Nat):(sliceBounds lo hi none n).1=((HT.sIx n 0 lo:Nat):Int)∧(sliceBounds lo hi none n).2.1=((HT.sIx n n hi:Nat):Int)∧(sliceBounds lo hi none n).2.2=1:=by
 refine⟨?_,?_,rfl⟩
 ·cases lo with
  |none=>simp[sliceBounds,HT.sIx]
  |some i=>
   simp only[sliceBounds,HT.sIx,Option.getD_none,show(1:Int) > 0 by decide,if_true]
   by_cases h:i<0
   ·simp only[h,if_true]<;>omega
   ·simp only[h,if_false]<;>omega
 ·cases hi with
  |none=>simp[sliceBounds,HT.sIx]
  |some i=>
   simp only[sliceBounds,HT.sIx,Option.getD_none,show(1:Int) > 0 by decide,if_true]
   by_cases h:i<0
   ·simp only[h,if_true]<;>omega
   ·simp only[h,if_false]<;>omega
theorem ZeT(its:List Value)(lo hi:Option Int):slicePick its.toArray lo hi none=((its.drop (HT.sIx its.length 0 lo)).take (HT.sIx its.length its.length hi-HT.sIx its.length 0 lo)).toArray:=by
 obtain⟨aS,a2,bU⟩:=ZfU lo hi its.toArray.size;unfold slicePick;rw[aS,a2,bU];simp only[sliceRange_one,pick_run,qae]<;>rfl
noncomputable def yx (K:Frag):V→Option Int→Option Int→Hp→VK→Prop:=λx lo hi H Q=>∃a xs,x= .ref a∧SqL K H a xs∧∀p,H p=none→Q (.ref p) (upd H p (.lst (iv xs lo hi)))
theorem DW:SlR X (yx X.K):=by
 intro aK s σ H x v gb gW lo hi sl Q I bO hs pl iq h;obtain⟨a,xs,rfl,aT,q⟩:=h;cases bO;obtain⟨its,r,ce,hz⟩:=I.list aT;have eV:=r.length;refine⟨"list",_,slot_list_getitem.lookup,ce.isList.typeIs,?_⟩;refine wpAny_getItem_list_slice ce.isList hs pl iq .none (by simp) ?_ (by rw[qae]<;>omega);rw[ZeT,←eV];refine⟨.ref s.heap.objs.size,_,I.laid (t':=s.toks) (o:= .lst (iv xs lo hi)) (λb dz q=>Heap.get?_push_of_some _ q) (fm _) ?_,rfl,q _ (I.hok.fresh (fm _))⟩;exact⟨qat (yv xs lo hi) hz,_,0,(r.drop (HT.sIx xs.length 0 lo)).take (HT.sIx xs.length xs.length hi-HT.sIx xs.length 0 lo),Heap.get?_push_size _ rfl⟩
noncomputable def kF:V→Bool
 | .non=>true
 | .bl _=>true
 | .int _=>true
 | .str _=>true
 |_=>false
noncomputable def eqV:V→V→Bool
 | .non,.non=>true
 | .bl a,.bl b=>a==b
 | .bl a,.int b=>(if a then 1 else 0)==b
 | .int a,.bl b=>a==(if b then 1 else 0)
 | .int a,.int b=>a==b
 | .str a,.str b=>a==b
 |_,_=>false
theorem ZmP{A:Around}{s:Shared}{y x:V}{u v:Value}(c9:dq y u)(bO:dq x v)(DX:kF y=true)(kG:kF x=true):SeqAt.EqAt A s u v (eqV y x):=by
 cases y with
 |non=>
  cases c9;cases x with
  |non=>cases bO;exact SeqAt.EqAt.same _
  |bl b=>cases bO;exact SeqAt.EqAt.none_bool b
  |int b=>obtain⟨t,rfl⟩:=bO;exact SeqAt.EqAt.none_int b t
  |str b=>obtain⟨t,rfl⟩:=bO;exact SeqAt.EqAt.none_str b t
  |_=>exact absurd (show false=true from kG) qag
 |bl a=>
  cases c9;cases x with
  |non=>cases bO;exact SeqAt.EqAt.bool_none a
  |bl b=>cases bO;exact SeqAt.EqAt.bool_bool a b
  |int b=>obtain⟨t,rfl⟩:=bO;exact SeqAt.EqAt.bool_int a b t
  |str b=>obtain⟨t,rfl⟩:=bO;exact SeqAt.EqAt.bool_str a b t
  |_=>exact absurd (show false=true from kG) qag
 |int a=>
  obtain⟨t',rfl⟩:=c9;cases x with
  |non=>cases bO;exact SeqAt.EqAt.int_none a t'
  |bl b=>cases bO;exact SeqAt.EqAt.int_bool a t' b
  |int b=>obtain⟨t,rfl⟩:=bO;exact SeqAt.EqAt.int_int a t' b t
  |str b=>obtain⟨t,rfl⟩:=bO;exact SeqAt.EqAt.int_str a t' b t
  |_=>exact absurd (show false=true from kG) qag
 |str a=>
  obtain⟨t',rfl⟩:=c9;cases x with
  |non=>cases bO;exact SeqAt.EqAt.str_none a t'
  |bl b=>cases bO;exact SeqAt.EqAt.str_bool a t' b
  |int b=>obtain⟨t,rfl⟩:=bO;exact SeqAt.EqAt.str_int a t' b t
  |str b=>obtain⟨t,rfl⟩:=bO;exact SeqAt.EqAt.str_str a t' b t
  |_=>exact absurd (show false=true from kG) qag
 |_=>exact absurd (show false=true from DX) qag
noncomputable def eqU (x:V) (u:Value):Bool:=match u with
 | .none=>eqV .non x
 | .bool b=>eqV (.bl b) x
 | .int i _=>eqV (.int i) x
 | .str z _=>eqV (.str z) x
 |_=>false
theorem yy{x y:V}{u:Value}(r:dq y u)(f:kF y=true):eqU x u=eqV y x:=by
 cases y with
 |non=>cases r;rfl
 |bl b=>cases r;rfl
 |int i=>obtain⟨t,rfl⟩:=r;rfl
 |str z=>obtain⟨t,rfl⟩:=r;rfl
 |_=>exact absurd (show false=true from f) qag
theorem t1{x:V}:∀{xs:List V}{us:List Value},dm xs us→xs.all kF=true→us.any (eqU x)=xs.any λy=>eqV y x
 |_,_,.nil,_=>rfl
 |y::xs,u::us,.cons r t,f=>by
  rw[qcm,qaQ] at f;rw[qcn,qcn,yy r f.1,t1 t f.2]
theorem ZcC{A:Around}{s:Shared}{x:V}{v:Value}(bO:dq x v)(kG:kF x=true):∀{xs:List V}{us:List Value},dm xs us→xs.all kF=true→∀u∈us,SeqAt.EqAt A s u v (eqU x u)
 |_,_,.nil,_=>λu hu=>by cases hu
 |y::xs,u::us,.cons r t,f=>λkx hu=>by
  rw[qcm,qaQ] at f;rcases qad.mp hu with rfl|hu
  ·rw[yy r f.1];exact ZmP r bO f.1 kG
  ·exact ZcC bO kG t f.2 kx hu
noncomputable def inV (x:V) (xs:List V):Bool:=xs.any λy=>eqV y x
noncomputable def rIn (K:Frag) (neg:Bool):R2:=λx y H Q=>∃p xs,y= .ref p∧(SqL K H p xs∨SqT K H p xs)∧kF x=true∧xs.all kF=true∧Q (.bl (if neg then !inV x xs else inV x xs)) H
theorem DY:OpR X (compareOp .In) (rIn X.K false):=by
 intro aK s σ H x y v u Q I bO c9 h;obtain⟨p,xs,rfl,bT,kG,fs,q⟩:=h;cases c9;rcases bT with bT|bT
 ·obtain⟨its,r,pl,hz⟩:=I.list bT;refine SeqAt.in_listAt (eqU x) pl.isList (λw hw=>ZcC bO kG r fs w (by simpa using hw)) ⟨.bl _,H,I,rfl,?_⟩;rw[show its.toArray.any (eqU x)=its.any (eqU x) by simp,t1 r fs];exact q
 ·obtain⟨its,r,pl,hz⟩:=I.tuple bT;refine SeqAt.in_tupleAt (eqU x) pl (λw hw=>ZcC bO kG r fs w (by simpa using hw)) ⟨.bl _,H,I,rfl,?_⟩;rw[show its.toArray.any (eqU x)=its.any (eqU x) by simp,t1 r fs];exact q
theorem DZ:Z8 X (.type "list") (λxs H Q=>∃p ys,xs=[.ref p]∧(SqL X.K H p ys∨SqT X.K H p ys)∧∀l,H l=none→Q (.ref l) (upd H l (.lst ys))):=by
 intro aK s σ H xs us Q I r h;obtain⟨p,ys,rfl,bT,q⟩:=h;obtain⟨u,rfl,bO⟩:=YE r;cases bO;have eZ:∀(its:List Value),dm ys its→ys.length≤sizeLine→∀(h':Heap)(eg:Nat),(∀b c',s.heap.get? b=some c'→h'.get? b=some c')→
   h'.get? s.heap.objs.size=some {cls:= .type "list",dict:=none,data:= .seq its.toArray eg,slots:=#[]}→EP X aK σ Q (.ref s.heap.objs.size) {s with heap:=h'}:=λits dX hz h' eg kp e=>
  ⟨.ref s.heap.objs.size,_,I.laid (t':=s.toks) kp (fm _) (show ZP X.prog X.w _ h' _ (.lst ys) from⟨hz,its,eg,dX,e⟩),rfl,q _ (I.hok.fresh (fm _))⟩
 rcases bT with bT|bT
 ·obtain⟨its,dX,pl,hz⟩:=I.list bT;have eV:=dX.length;obtain⟨o,bz,a8,n,hd⟩:=pl.isList;exact call_list_seq p (.inl rfl) bz a8 hd (λh' eg kp e=>eZ its dX hz h' eg kp e) (by simp only[qae]<;>omega)
 ·obtain⟨its,dX,pl,hz⟩:=I.tuple bT;have eV:=dX.length;obtain⟨o,bz,a8,n,hd⟩:=pl;exact call_list_seq p (.inr rfl) bz a8 hd (λh' eg kp e=>eZ its dX hz h' eg kp e) (by simp only[qae]<;>omega)
def tyV(K:Frag)(T:String)(x:V)(H:Hp):Prop:=match x with
 | .str _=>T="str"
 | .int _=>T="int"
 | .ref p=>(T="list" ∧∃xs,SqL K H p xs)∨(T="tuple" ∧∃o,K.lookup p=some o∧o.cls= .type "tuple" ∧o.dict=none)∨
   (T="dict" ∧((∃kvs,H p=some (.dK kvs))∨∃kvs,H p=some (.dT kvs)))∨(T="set" ∧∃S n,H p=some (.set S n))
 |_=>False
theorem ZiD{aK:List (Addr×Obj)}{σ:St}{H:Hp}{s:Shared}{T:String}{x:V}{v:Value}(I:Inv X aK σ H s)(r:dq x v)(ty:tyV X.K T x H):
  s.TypeIs v T∧∀a,v= .ref a→∃dz,s.heap.get? a=some dz∧dz.dict=none:=by
 cases x with
 |str z=>
  obtain⟨t,rfl⟩:=r;cases (show T="str" from ty);exact⟨typeIs_str s z t,λ_ e=>nomatch e⟩
 |int i=>
  obtain⟨t,rfl⟩:=r;cases (show T="int" from ty);exact⟨typeIs_int s i t,λ_ e=>nomatch e⟩
 |ref p=>
  cases r;rcases ty with⟨rfl,xs,bT⟩|⟨rfl,o,a5,a8,hd⟩|⟨rfl,a5⟩|⟨rfl,S,n,a5⟩
  ·obtain⟨its,_,pl,_⟩:=I.list bT;refine⟨pl.isList.typeIs,λa e=>?_⟩;cases e;obtain⟨o,n,e,c,hd,_⟩:=pl;exact⟨o,e,hd⟩
  ·refine⟨⟨o,I.kIn p o a5,a8⟩,λa e=>?_⟩;cases e;exact⟨o,I.kIn _ o a5,hd⟩
  ·have z:∃o,s.heap.get? p=some o∧o.ExactDict:=by
    rcases a5 with⟨kvs,a5⟩|⟨kvs,a5⟩
    ·obtain⟨_,_,_,_,o,_,_,e,ex,_⟩:=I.hok p _ a5;exact⟨o,e,ex⟩
    ·obtain⟨_,_,_,_,o,_,_,e,ex,_⟩:=I.hok p _ a5;exact⟨o,e,ex⟩
   obtain⟨o,e,ex⟩:=z;refine⟨⟨o,e,ex.1⟩,λa bC=>?_⟩;cases bC;exact⟨o,e,ex.2.1⟩
  ·obtain⟨o,_,_,_,e,ex,_⟩:=I.hok p _ a5;refine⟨⟨o,e,ex.1⟩,λa bC=>?_⟩;cases bC;exact⟨o,e,ex.2.1⟩
 |_=>exact False.elim ty
noncomputable def t2 (K:Frag) (T:String) (r:V→List V→Hp→VK→Prop) (to:TE):TE:=λσ H Q=>to σ H λx aU=>tyV K T x aU∧r x [] aU Q
noncomputable def tBM (K:Frag) (T:String) (r:V→List V→Hp→VK→Prop) (to:TE) (t:TA):TE:=λσ H Q=>to σ H λx aU=>tyV K T x aU∧t σ aU λxs a4=>r x xs a4 Q
variable {o e:Expr}{a':List Expr}{to:TE}{t:TA}{name:Str}{dV eb:Pos}{T id:String}{r:V→List V→Hp→VK→Prop}
theorem Znk(m9:PlainAttrs T)(slot:Slot T name id)(hF:typeOf (.builtin id)=pure (.type "method_descriptor"))(bo:MtR X id r)(bz:PE X o to)
  (iw:attributeBase o name X.env (eval o X.env)=eval o X.env:=by rfl) (iy:(dV.endLine==eb.line)=true:=by rfl):PE X (.Call (.Attribute o name dV) [] [] eb) (t2 X.K T r to):=by
 intro aK s σ H Q I h;refine wpAny_Call_method0_late iw iy (thn (bz aK s σ H _ I h) λv a7 ⟨x,aU,bB,df,ty,c8⟩=>?_);obtain⟨aS,a2⟩:=ZiD bB df ty;exact⟨T,id,m9,slot,hF,aS,a2,Calls.callWith_builtin rfl (qbQ (bo aK a7 σ aU x [] v [] Q bB df .nil c8))⟩
theorem Zon(m9:PlainAttrs T)(slot:Slot T name id)(hF:typeOf (.builtin id)=pure (.type "method_descriptor"))(bo:MtR X id r)(bz:PE X o to)(bx:PA X (e::a') t)
  (iw:attributeBase o name X.env (eval o X.env)=eval o X.env:=by rfl)
  (t3:((backTo eb (starEach (e::a') X.env)).all (λx=>!x.1)&&(backToKw eb (keywordEach [] X.env)).all (λx=>x.1.isSome)
   &&decide ((e::a').length+([]:List Keyword).length+(if([]:List Keyword).isEmpty then 0 else 1)<30))=true:=by rfl)
  (iy:(dV.endLine==eb.line)=true:=by rfl) (hs:starEach (e::a') X.env=(false,eval e X.env)::starEach a' X.env:=by rfl) (m_:(backTo eb (starEach a' X.env)).any (·.1)=false:=by rfl):
  PE X (.Call (.Attribute o name dV) (e::a') [] eb) (tBM X.K T r to t):=by
 intro aK s σ H Q I h;refine wpAny_Call_method_late iw t3 iy rfl (thn (bz aK s σ H _ I h) λv a7 ⟨x,aU,bB,df,ty,c8⟩=>?_);obtain⟨aS,a2⟩:=ZiD bB df ty;refine⟨T,id,m9,slot,hF,aS,a2,?_⟩;have ob:=bx eb aK a7 σ aU _ bB c8;rw[hs] at ob⊢;refine Calls.callWith_builtin (by show(false||(backTo eb (starEach a' X.env)).any (·.1))=false;rw[m_]<;>rfl) (Calls.evalArgs_plain ?_);exact thn ob λus bK ⟨vs,a4,ds,dO,dI⟩=>bo aK bK σ a4 x vs v us Q ds df dO dI
end
def MtM(X:Cx)(id:String)(r:V→List V→Hp→VK→Prop):Prop:=
 ∀(aK:List (Addr×Obj))(s:Shared)(σ:St)(H:Hp)(x:V)(xs:List V)(v:Value)(us:List Value)(Q:VK),Inv X aK σ H s→dq x v→dm xs us→r x xs H Q→
  wpAny (model X.prog X.w) X.A (call (.builtin id) (v::us)) (EP X aK σ Q) X.xe s
theorem dm.one:∀{x:V}{us:List Value},dm [x] us→∃u,us=[u]∧dq x u
 |_,_,.cons r .nil=>⟨_,rfl,r⟩
theorem dm.two:∀{x y:V}{us:List Value},dm [x,y] us→∃u v,us=[u,v]∧dq x u∧dq y v
 |_,_,_,.cons r (.cons q .nil)=>⟨_,_,rfl,r,q⟩
theorem dm.zero:∀{us:List Value},dm [] us→us=[]
 |_,.nil=>rfl
theorem dm.dropLast{xs:List V}{us:List Value}(h:dm xs us):dm xs.dropLast us.dropLast:=by
 induction h with
 |nil=>exact .nil
 |cons r t bP=>
  cases t with
  |nil=>exact .nil
  |cons q t'=>exact .cons r bP
theorem dm.reverse{xs:List V}{us:List Value}(h:dm xs us):dm xs.reverse us.reverse:=by
 induction h with
 |nil=>exact .nil
 |cons r t bP=>rw[qbJ,qbJ];exact dm.append bP (.cons r .nil)
theorem dm.rep{xs:List V}{us:List Value}(h:dm xs us):∀k:Nat,dm (List.replicate k xs).flatten (List.replicate k us).flatten
 |0=> .nil
 |k+1=>by
  rw[qbC,qbC,qch,qch];exact dm.append h (dm.rep h k)
theorem D0{dA:Type}(l:List dA):l.eraseIdx (l.length-1)=l.dropLast:=by
 induction l with
 |nil=>rfl
 |cons a r bP=>
  cases r with
  |nil=>rfl
  |cons b r=>
   have e:(a::b::r).length-1=((b::r).length-1)+1:=by
    have aS:(a::b::r).length=r.length+2:=rfl;have a2:(b::r).length=r.length+1:=rfl;omega
   rw[e,List.eraseIdx_cons_succ,bP]
   all_goals rfl
theorem Zew(its:List Value):∀(k:Nat)(dL:List Value),
  List.foldl (λx1 x2=>x1++x2) dL.toArray (List.replicate k its.toArray)=(dL++(List.replicate k its).flatten).toArray
 |0,dL=>by simp
 |k+1,dL=>by
  have e:dL.toArray++its.toArray=(dL++its).toArray:=by simp
  have bC:(dL++its)++(List.replicate k its).flatten=dL++(List.replicate (k+1) its).flatten:=by
   rw[qbC,qch,List.append_assoc]
  rw[←bC,←Zew its k (dL++its),←e,qbC,List.foldl_cons]
section
variable {X:Cx}{aK:List (Addr×Obj)}{σ:St}{H:Hp}{s:Shared}{l b:Addr}{xs ys zs:List V}
theorem Inv.lset{its its':List Value}{n:Nat}{f:Array Value→Array Value}{t':Nat}(I:Inv X aK σ H s)(gx:H l=some (.lst xs))
  (e:s.heap.get? l=some {cls:= .type "list",data:= .seq its.toArray n}) (bv:f its.toArray=its'.toArray) (cv:dm ys its') (hz:ys.length≤sizeLine):
  Inv X aK σ (upd H l (.lst ys)) {s with heap:=s.heap.update l (Obj.mapSeq f),toks:=t'}:=by
 have q:=PySem.IsL.update e f;rw[bv] at q;refine I.write (x:=l) (e:=l) (by rw[gx];exact trivial) (.inl rfl) (λln u aN hu=>(Heap.get?_update_other s.heap (Obj.mapSeq f) (qbP aN)).trans hu) ⟨_,q⟩ ?_;exact⟨hz,its',_,cv,q⟩
theorem Inv.lnew{its:List Value}{t':Nat}(I:Inv X aK σ H s)(cv:dm ys its)(hz:ys.length≤sizeLine):
  Inv X aK σ (upd H s.heap.objs.size (.lst ys)) {s with heap:=s.heap.push {cls:= .type "list",data:= .seq its.toArray},toks:=t'}:=
 I.laid (λ_ _ q=>Heap.get?_push_of_some _ q) (fm _) ⟨hz,its,0,cv,Heap.get?_push_size _ rfl⟩
theorem Inv.fresh(I:Inv X aK σ H s):H s.heap.objs.size=none:=I.hok.fresh (fm _)
theorem Inv.lstM(I:Inv X aK σ H s)(gx:H l=some (.lst xs)):xs.length≤sizeLine∧∃(its:List Value)(n:Nat),dm xs its∧xs.length=its.length∧s.heap.get? l=some {cls:= .type "list",data:= .seq its.toArray n}:=by
 obtain⟨z,its,n,r,e⟩:=I.hok l _ gx;exact⟨z,its,n,r,r.length,e⟩
theorem Zgf{n:Nat}(h:n≤sizeLine):Builtin.List.listTooLong n=false:=by
 unfold Builtin.List.listTooLong;exact decide_eq_false (by omega)
end
section
variable {X:Cx}
noncomputable def rAppend:V→List V→Hp→VK→Prop:=λx vs H Q=>∃l xs y,x= .ref l∧vs=[y]∧H l=some (.lst xs)∧xs.length<sizeLine∧Q .non (upd H l (.lst (xs++ [y])))
theorem iT:MtM X "list.append" rAppend:=by
 intro aK s σ H x vs v us Q I bO dC h;obtain⟨l,xs,y,rfl,rfl,gx,hz,q⟩:=h;cases bO;obtain⟨u,rfl,eD⟩:=dC.one;obtain⟨z,its,n,r,aJ,e⟩:=I.lstM gx;refine call_meets F.slot_list_append ⟨_,e,rfl⟩ F.entry_list_append (F.args_list_append_2 _ _) (PySem.list_append l its.toArray n u (by rw[qae];omega)) ⟨e,?_⟩;refine⟨.non,_,I.lset (its':=its++ [u]) gx e (by simp) (r.append (.cons eD .nil)) ?_,rfl,q⟩;rw[qap,List.length_singleton];omega
noncomputable def rExtend:V→List V→Hp→VK→Prop:=λx vs H Q=>∃l b xs zs,x= .ref l∧vs=[.ref b]∧H l=some (.lst xs)∧H b=some (.lst zs)∧xs.length+zs.length≤sizeLine∧Q .non (upd H l (.lst (xs++zs)))
theorem D1:MtM X "list.extend" rExtend:=by
 intro aK s σ H x vs v us Q I bO dC h;obtain⟨l,b,xs,zs,rfl,rfl,gx,gJ,hz,q⟩:=h;cases bO;obtain⟨u,rfl,eD⟩:=dC.one;cases eD;obtain⟨z,its,n,r,aJ,e⟩:=I.lstM gx;obtain⟨fz,l_,jl,dO,h9,bC⟩:=I.lstM gJ;have hsz:its.toArray.size+l_.toArray.size≤sizeLine:=by rw[qae,qae];omega
 have t4:¬(!its.toArray.isEmpty&&Builtin.List.listTooLong (its.toArray.size+l_.toArray.size))=true:=by
  rw[Zgf hsz,Bool.and_false];exact qag
 refine call_meets F.slot_list_extend ⟨_,e,rfl⟩ F.entry_list_extend (F.args_list_extend_2 _ _)
  (AutoSeq1.list_extend_list_list_0 l its.toArray n b l_.toArray jl t4 (by rw[qae];omega) (by omega)) ⟨e,bC,?_⟩
 refine⟨.non,_,I.lset (its':=its++l_) gx e (by simp) (r.append dO) ?_,rfl,q⟩;rw[qap];omega
noncomputable def rPop:V→List V→Hp→VK→Prop:=λx vs H Q=>∃l xs y,x= .ref l∧vs=[]∧H l=some (.lst xs)∧xs[xs.length-1]? =some y∧Q y (upd H l (.lst xs.dropLast))
theorem Qx:MtM X "list.pop" rPop:=by
 intro aK s σ H x vs v us Q I bO dC h;obtain⟨l,xs,y,rfl,rfl,gx,bE,q⟩:=h;cases bO;have t5:=dC.zero;subst t5;obtain⟨z,its,n,r,aJ,e⟩:=I.lstM gx;obtain⟨u,hu,eD⟩:=r.get bE;have t6:its.toArray[its.toArray.size-1]? =some u:=by
  show its.toArray[its.length-1]? =some u;rw[←qbd,←aJ];exact hu
 refine call_meets F.slot_list_pop ⟨_,e,rfl⟩ F.entry_list_pop (F.args_list_pop_1 _) (MeetsSeq.list_pop_last l its.toArray n u t6 (by rw[qae];omega)) ⟨e,?_⟩;refine⟨y,_,I.lset (its':=its.dropLast) gx e ?_ r.dropLast ?_,eD,q⟩
 ·show its.toArray.eraseIdxIfInBounds (its.toArray.size-1)=its.dropLast.toArray;rw[qae,List.eraseIdxIfInBounds_toArray,D0]
 ·rw[List.length_dropLast];omega
noncomputable def rReverse:V→List V→Hp→VK→Prop:=λx vs H Q=>∃l xs,x= .ref l∧vs=[]∧H l=some (.lst xs)∧Q .non (upd H l (.lst xs.reverse))
theorem D2:MtM X "list.reverse" rReverse:=by
 intro aK s σ H x vs v us Q I bO dC h;obtain⟨l,xs,rfl,rfl,gx,q⟩:=h;cases bO;have t5:=dC.zero;subst t5;obtain⟨z,its,n,r,aJ,e⟩:=I.lstM gx;refine call_meets F.slot_list_reverse ⟨_,e,rfl⟩ F.entry_list_reverse (F.args_list_reverse_1 _) (AutoSeq1.list_reverse_list_0 l its.toArray n (by rw[qae];omega)) ⟨e,?_⟩;refine⟨.non,_,I.lset (its':=its.reverse) gx e (by simp) r.reverse ?_,rfl,q⟩;rw[List.length_reverse];omega
noncomputable def rCat:R2:=λx y H Q=>∃l b xs zs,x= .ref l∧y= .ref b∧H l=some (.lst xs)∧H b=some (.lst zs)∧xs.length+zs.length≤sizeLine∧∀p,H p=none→Q (.ref p) (upd H p (.lst (xs++zs)))
theorem D3:OpR X (binaryOp .Add) rCat:=by
 intro aK s σ H x y v u Q I bO c9 h;obtain⟨l,b,xs,zs,rfl,rfl,gx,gJ,hz,q⟩:=h;cases bO;cases c9;obtain⟨z,its,n,r,aJ,e⟩:=I.lstM gx;obtain⟨fz,l_,jl,dO,h9,bC⟩:=I.lstM gJ;refine PySem.P.add_list e bC ?_ (by rw[qae,qae];omega);have ea:its.toArray++l_.toArray=(its++l_).toArray:=by simp
 rw[ea];exact⟨.ref _,_,I.lnew (t':=s.toks) (r.append dO) (by rw[qap];omega),rfl,q _ I.fresh⟩
noncomputable def rRep:R2:=λx y H Q=>∃l k xs,x= .ref l∧y= .int k∧H l=some (.lst xs)∧ -(2 ^ 63)≤k∧k<2 ^ 63∧xs.length*k.toNat≤sizeLine∧
 ∀p,H p=none→Q (.ref p) (upd H p (.lst (List.replicate k.toNat xs).flatten))
theorem ZlW{dA:Type}(xs:List dA)(k:Nat):(List.replicate k xs).flatten.length=k*xs.length:=by
 induction k with
 |zero=>simp
 |succ k bP=>rw[qbC,qch,qap,bP,Nat.succ_mul,Nat.add_comm]
theorem D4:OpR X (binaryOp .Mult) rRep:=by
 intro aK s σ H x y v u Q I bO c9 h;obtain⟨l,k,xs,rfl,rfl,gx,aS,a2,hz,q⟩:=h;cases bO;obtain⟨t,rfl⟩:=c9;obtain⟨z,its,n,r,aJ,e⟩:=I.lstM gx;have eV:its.toArray.size*k.toNat≤sizeLine:=by rw[qae,←aJ];exact hz
 have D5:¬its.toArray.size*k.toNat > (2 ^ 63-1) / 8:=by
  have:(sizeLine:Nat)≤(2 ^ 63-1) / 8:=by decide
  omega
 have D6:¬(!Builtin.List.listFitsIndex k)=true:=by
  rw[fitsIndex_both aS a2];exact qag
 have t4:¬Builtin.List.listTooLong (its.toArray.size*k.toNat)=true:=by
  rw[Zgf eV];exact qag
 have m':List.foldl (λx1 x2=>x1++x2) #[] (List.replicate (if its.toArray.isEmpty=true then 0 else k.toNat) its.toArray)=(List.replicate k.toNat its).flatten.toArray:=by
  have ef:∀m:Nat,List.foldl (λx1 x2=>x1++x2) #[] (List.replicate m its.toArray)=(List.replicate m its).flatten.toArray:=λm=>by
   have:=Zew its m [];rw[List.nil_append] at this;exact this
  rw[ef];cases its with
  |nil=>simp
  |cons a dX=>rw[if_neg (by simp)]
 refine wpAny_binaryOp_repeat_ref (T:="list") (U:="int") (by decide) ⟨_,e,rfl⟩ (λs'=>typeIs_int s' k t) noFill_list_mul F.fills_int_mul F.slot_int_rmul repeat_list F.slot_int_index.lookup
  (call_meets F.slot_int_rmul (typeIs_int s k t) F.entry_int_rmul (F.args_int_rmul_2 _ _) (int___rmul___int_list k t l its.toArray n)
   ⟨e,rfl,⟨_,e,rfl⟩,call_meets F.slot_list_mul ⟨_,e,rfl⟩ F.entry_list_mul (F.args_list_mul_2 _ _) (AutoListH.list___mul___list_int_3 l its.toArray n k t D6 D5 t4) ⟨e,?_⟩⟩)
 rw[m'];exact⟨.ref _,_,I.lnew (t':=s.toks) (r.rep k.toNat) (by rw[ZlW,qbo];exact hz),rfl,q _ I.fresh⟩
end
section
variable {prog:Program}{w:World}{A:Around}{E:Value→Shared→Prop}{s:Shared}
end
section
variable {X:Cx}
end
end L2
namespace Att
open PySem PySem.W PySem.Calls PyProof.Rows
theorem D7{P:Params}{h:Heap}:∀(ns:List Int)(vs:List Value),WellAll P h vs (ns.map WData.int)→IntsAre vs ns:=by
 intro ns
 induction ns with
 |nil=>
  intro vs w;rw[List.map_nil] at w;cases w;exact .nil
 |cons n ns bP=>
  intro vs w;rw[List.map_cons] at w;cases w with
  |cons a b=>
   cases a;exact .cons _ _ (bP _ b)
theorem ZiT{l:OpenLaw}{n:Nat}(bF:l.most=some n){P:Params}{h:Heap}{args:List WData}{t7:List Value}
  (lp:l.row.toRowW.claim.pre args=true) (iU:WellAll P h t7 args):
  ∃a vs ns,t7=[Value.ref a]∧args=[WData.list (ns.map WData.int)]∧h.get? a=some {cls:= .type "list",data:= .seq vs.toArray}∧IntsAre vs ns∧ns.length≤n:=by
 have j6:WShape.hasAll [] args [.list .int]=true:=(pre_splitW lp).1;have a8:l.pre.holds [] {args:=args}=true:=(pre_splitW lp).2;obtain⟨d,r,rfl,aS,a2⟩:=hasAllW_cons j6;obtain rfl:=hasAllW_nil a2;obtain⟨xs,rfl,bU⟩:=hasW_list aS;obtain⟨ns,rfl⟩:=items_int bU;have eV:ns.length≤n:=by
  unfold OpenLaw.pre at a8;have dD:(WTm.not (.lt (.lit (.int (n:Int))) (.len (.arg 0)))).holds [] {args:=[.list (ns.map .int)]}=true:=by
   have dD:=(holds_andW a8).1;rw[bF] at dD;exact dD
  have eM:=condW_of dD (w_not (w_lt w_lit (w_len_list (w_arg rfl))));rw[GE] at eM;refine Nat.le_of_not_lt λq=>?_;have h5:(n:Int)<((ns.length:Nat):Int):=by omega
  first
   |(rw[decide_eq_true h5] at eM;exact absurd eM (by decide))
   |(simp at eM;omega)
 cases iU with
 |cons g8 ky=>
  cases ky;cases g8 with
  |list bz jN=>exact⟨_,_,ns,rfl,rfl,bz,D7 ns _ jN,eV⟩
theorem D8(l:OpenLaw)(args:List WData):l.row.toRowW.claim.post args (.bool true) args=true:=
 postW_of (r:=l.row.toRowW) (X:=(true==true))
  (show WShape.has [] (.bool true) .bool=true by first|rfl|decide|simp[WShape.has,WShape.arms,WShape.armsAll])
  (show(WTm.eq .res (.lit (.bool true))).value [] {args:=args,res:=some (.bool true),after:=args}=some (.bool (true==true)) from w_eq_bool (w_res rfl) w_lit) rfl
theorem Zgy{l:OpenLaw}{n:Nat}{q:Program}{oc:List Str}{od:(Str→Option Value)→Heap→Prop}{l':World→Heap→Prop}{d:DefRec}
  (bF:l.most=some n) (jp:d.params.defaults=[])
  (call:∀(w:World)(s₀ eh:Shared)(mg jF:Str→Option Value)(iz:Addr)(o:Obj)(e3 cd fH:Value)(a:Addr)(vs:List Value)(ns:List Int),
   Ground q oc [] od w s₀ mg jF eh.heap→l' w eh.heap→
   eh.heap.get? iz=some o→o.data= .func (docDef d.name d.params d.body d.scope e3 cd fH)→eh.heap.CodeRec cd d.name→mg d.name=some (.ref iz)→
   eh.heap.get? a=some {cls:= .type "list",data:= .seq vs.toArray}→IntsAre vs ns→ns.length≤n→eh.gens=#[]→
   codeAny (model l.prog w) callerA (.call (.ref iz) ⟨[.ref a],[]⟩) (λr s'=>r= .ok (.ret (.bool true))∧OldK eh.heap s'.heap∧s'.os=eh.os∧AllBare s'.gens) eh):
  WalkO q oc od l' l.row.toRowW d [] (λf vs=>PySem.call f vs):=by
 intro w s₀ eh mg jF G Y iz o e3 cd fH rD kV bz hd im oe og bc args t7 as lp hlay ma iU hlo;obtain rfl:rD= .none:=Dflts.none oe jp;obtain rfl:kV= .none:=Dflts.noKw oe;obtain⟨a,vs,ns,rfl,rfl,t8,t9,eV⟩:=ZiT bF lp iU;refine enter_call (codeAny_mono (call w s₀ eh mg jF iz o e3 cd fH a vs ns G Y bz (fd_plain hd) im og t8 t9 eV bc) λr s' bT=>?_);obtain⟨rfl,a2,bU,dD⟩:=bT;exact⟨.inl ⟨.bool true,.bool true,[],rfl,λ_=>rfl,.bool true,D8 l _,λ_=>⟨List.Pairwise.nil,λ_ bo=>(nomatch bo)⟩⟩,a2,bU,dD⟩
section
variable {prog:Program}{w:World}{A:Around}{E:Value→Shared→Prop}{s:Shared}{K:Frag}
end
end Att
namespace L2
open PySem PySem.Spec PyProof.Rows
theorem rJ:∀{vs:List Value}{ns:List Int},IntsAre vs ns→dm (ns.map V.int) vs
 |_,_,.nil=> .nil
 |_,_,.cons n t h=> .cons ⟨t,rfl⟩ (rJ h)
def t_(H:Hp):Prop:=∀b,H b=none∨∃o xs,H b=some (.frz o (.lst xs))
theorem Zj1{P:Program}{w:World}{K:Frag}{mg jF:Str→Option Value}{CX:CXT}{k:Nat}{iz a:Addr}{fd:FuncData}{x:Str}{sp:Sp}{eh:Shared}{vs:List Value}{ns:List Int}
  (e9:K.In eh.heap) (hY:eh.heap.Ns mainGlobals mg) (aN:eh.heap.Ns builtinsNs jF) (ua:∀x:Str,x≠"__name__" →jF x=bootBuiltins x) (D9:eh.heap.NoLimit) (bc:eh.gens=#[])
  (bx:eh.heap.get? a=some {cls:= .type "list",data:= .seq vs.toArray}) (hi:IntsAre vs ns) (aJ:ns.length≤sizeLine) (a3:e2 k callerA)
  (F:∀base:Heap,K.In base→base.Ns mainGlobals mg→Ys P w K mg base CX k iz fd [x] sp) (D_:∀(s:Shared)(u:Value),BindsTo s fd ⟨[u],[]⟩ [(x,u)])
  (ip:∀H:Hp,t_ H→SqL K H a (ns.map V.int)→sp [.ref a] H (λv _=>v= .bl true) λ_ _ _=>False)
  (ub:∀H e s',CX [] H eh (λ_ _ _=>False) e s'→False):
  codeAny (model P w) callerA (.call (.ref iz) ⟨[.ref a],[]⟩) (λr s'=>r= .ok (.ret (.bool true))∧OldK eh.heap s'.heap∧s'.os=eh.os∧AllBare s'.gens) eh:=by
 have dC:=rJ hi;have D':=hi.length;have yz:∀H:Hp,t_ H→SqL K H a (ns.map V.int)→HOk P w H eh.heap→(∀b,H b≠none→b=a)→(H a≠none→K.lookup a=none)→
   codeAny (model P w) callerA (.call (.ref iz) ⟨[.ref a],[]⟩) (λr s'=>r= .ok (.ret (.bool true))∧OldK eh.heap s'.heap∧s'.os=eh.os∧AllBare s'.gens) eh:=by
  intro H hO e1 hok ob eJ;have yA:∀{b:Addr}{o:Obj},eh.heap.get? b=some o→H b=none→(k8 eh.heap H).get? b=some o:=λe n=>Zkw e n;have pJ:∀{b:Addr}{o:Obj}{a':Array DictEntry}{ep:Nat},eh.heap.get? b=some o→o.data= .dict a' ep→H b=none:=λ{b o a' ep} e d=>by
   cases q:H b with
   |none=>rfl
   |some u=>
    have b1:b=a:=ob b (by rw[q];simp);subst b1;rw[bx] at e;cases e;have d':Data.seq vs.toArray _=Data.dict a' ep:=d;cases d'
  have rK:∀{b:Addr}{m:Str→Option Value},eh.heap.Ns b m→(k8 eh.heap H).Ns b m:=λ{b m} ⟨o,a',ep,e,d,r⟩=>⟨o,a',ep,yA e (pJ e d),d,r⟩;have yB:K.In (k8 eh.heap H):=λb o e=>yA (e9 b o e) (by
   cases q:H b with
   |none=>rfl
   |some u=>
    have b1:b=a:=ob b (by rw[q];simp);subst b1;rw[eJ (by rw[q];simp)] at e;cases e)
  have lq:Mod K mg (k8 eh.heap H):=⟨yB,rK hY,⟨jF,rK aN,ua⟩,let⟨Ea,aS,a2⟩:=D9;⟨Ea,rK aS,a2⟩⟩;have ej:U8 P w K mg (k8 eh.heap H) callerA [] eh H:=⟨rfl,lq,λb o e=>ZlN e,Nat.le_of_eq (Dj _ _),trivial,λb aN=>absurd (show b∈([]:List Addr) from aN) (by simp),hok,.of_eq bc⟩;refine codeAny_mono ((F _ yB (rK hY)).run callerA [] eh H ⟨[.ref a],[]⟩ [.ref a] [.ref a] _ _ a3 ej (D_ eh (.ref a)) (.cons rfl .nil) (ip H hO e1)) λr s' h=>?_;cases r with
  |error e=>exact(ub H e s' h).elim
  |ok fl=>
   cases fl with
   |next=>exact False.elim h
   |brk=>exact False.elim h
   |cont=>exact False.elim h
   |ret u=>
    obtain⟨v,H',os,bare,un,Eb,dX,q⟩:=h;have h5:v= .bl true:=q;subst h5;obtain rfl:u=Value.bool true:=dX;refine⟨rfl,OldK.of_keep λb o e=>?_,os,bare⟩;cases q:H b with
    |none=>exact un.keep b o e q (by intro z;exact absurd (show b∈([]:List Addr) from z) (by simp)) (by simp)
    |some u=>
     rcases hO b with z|⟨dz,xs,z⟩
     ·rw[q] at z;cases z
     ·have fz:=un.frzs b dz _ z;obtain⟨bw,_⟩:=hok b _ z;obtain⟨bC,_⟩:=Eb b _ fz;rw[e] at bw;cases bw;exact bC
 cases a5:K.lookup a with
 |some o=>
  have e:=e9 a o a5;rw[bx] at e;cases e;refine yz (λ_=>none) (λ_=> .inl rfl) (.inr ⟨_,vs.toArray,_,a5,rfl,rfl,rfl,by rw[qae,D'];exact aJ,by simpa using dC⟩) (λb u z=>by have gq:(none:Option HO)=some u:=z;cases gq) (λb z=>absurd rfl z) λz=>absurd rfl z
 |none=>
  refine yz (λb=>if b=a then some (.frz {cls:= .type "list",data:= .seq vs.toArray} (.lst (ns.map V.int))) else none) (λb=>?_) (.inl (.inr ⟨{cls:= .type "list",data:= .seq vs.toArray},if_pos rfl⟩)) (λb u z=>?_) (λb z=>?_) λ_=>a5
  ·by_cases aN:b=a
   ·exact .inr ⟨_,_,if_pos aN⟩
   ·exact .inl (if_neg aN)
  ·by_cases aN:b=a
   ·have gq:=(if_pos aN).symm.trans z;cases gq;subst aN;exact⟨bx,by rw[GE];exact aJ,vs,_,dC,bx⟩
   ·have gq:=(if_neg aN).symm.trans z;cases gq
  ·by_cases aN:b=a
   ·exact aN
   ·exact absurd (if_neg aN) z
theorem Zme{l:PySem.W.OpenLaw}{n k:Nat}{q:Program}{oc:List Str}{od:(Str→Option Value)→Heap→Prop}{l':World→Heap→Prop}{d:DefRec}{K:Params→Frag}{CX:World→CXT}{sp:World→Sp}{x:Str}
  (bF:l.most=some n) (pF:n≤sizeLine) (jp:d.params.defaults=[]) (a3:e2 k callerA)
  (uc:∀(w:World)(h:Heap),l' w h→(K w.params).In h)
  (F:∀(w:World)(mg:Str→Option Value)(iz:Addr)(h:Heap),(K w.params).In h→h.Ns mainGlobals mg→mg d.name=some (.ref iz)→
   ∃fd:FuncData,(∀(s:Shared)(u:Value),BindsTo s fd ⟨[u],[]⟩ [(x,u)])∧
    ∀base:Heap,(K w.params).In base→base.Ns mainGlobals mg→Ys l.prog w (K w.params) mg base (CX w) k iz fd [x] (sp w))
  (ip:∀(w:World)(H:Hp)(a:Addr)(ns:List Int),ns.length≤n→t_ H→SqL (K w.params) H a (ns.map V.int)→sp w [.ref a] H (λv _=>v= .bl true) λ_ _ _=>False)
  (ub:∀(w:World)(H:Hp)(s:Shared)(e:Value)(s':Shared),CX w [] H s (λ_ _ _=>False) e s'→False):
  PySem.W.WalkO q oc od l' l.row.toRowW d [] (λf vs=>PySem.call f vs):=by
 refine Att.Zgy bF jp λw s₀ eh mg jF iz o e3 cd fH a vs ns G Y bz hd im og t8 t9 eV bc=>?_;have e9:=uc w _ Y;obtain⟨fd,aN,na⟩:=F w mg iz _ e9 G.T.g og;exact Zj1 e9 G.T.g G.T.b G.T.builtins G.T.nolimit bc t8 t9 (qat eV pF) a3 na aN (λH hO e1=>ip w H a ns eV hO e1) λH e s'=>ub w H eh e s'
noncomputable def Yx (s:Stmt) (j:Nat):Stmt:=match s with
 | .ClassDef _ _ _ body _ _ _ _ _ _ _=>body.getD j (.Pass ⟨0,0,0,0⟩)
 |_=> .Pass ⟨0,0,0,0⟩
noncomputable def j7 (s:Stmt):Arguments:=match s with
 | .FunctionDef _ a _ _ _ _ _ _ _ _=>a
 |_=>{posonlyargs:=[],args:=[],vararg:=none,kwonlyargs:=[],kw_defaults:=[],kwarg:=none,defaults:=[]}
noncomputable def iV (s:Stmt):List Stmt:=match s with
 | .FunctionDef _ _ b _ _ _ _ _ _ _=>b
 |_=>[]
noncomputable def dh (s:Stmt):Scope:=match s with
 | .FunctionDef _ _ _ _ _ _ b' _ _ _=>b'
 |_=>{kind:= .function,names:=[],isGenerator:=false,isCoroutine:=false}
noncomputable abbrev E0:XK:=λ_ _ _=>False
structure Fun(K:Frag)(x qual:Str)(st:Stmt)(f:Addr)(fd:FuncData):Prop where
 ex:∃(fM:Value)(eR:Option Addr)(kV fH e3:Value)(an:Option Addr)(di ct:Value)(g_:Array (Option Value)),
  fd=fnOf x qual (j7 st) (iV st) (dh st) .none kV fH e3 an di ct∧K.lookup f=some ⟨fM,eR,.func fd,g_⟩∧codeIn K di qual=true
 kp:keepIn K (.ref f)=true
section
variable {P:Program}{w:World}{K:Frag}{mg:Str→Option Value}{base:Heap}
theorem Fun.binds{x qual:Str}{st:Stmt}{f:Addr}{fd:FuncData}{ps:List Str}(F:Fun K x qual st f fd)
  (h:∀(kV fH e3:Value)(an:Option Addr)(di ct:Value)(us:List Value),us.length=ps.length→bindArgs (fnOf x qual (j7 st) (iV st) (dh st) .none kV fH e3 an di ct) ⟨us,[]⟩=pure (ps.zip us)):Wd K fd ps []:=by
 obtain⟨fM,eR,kV,fH,e3,an,di,ct,g_,rfl,lk,im⟩:=F.ex;exact .all (h kV fH e3 an di ct)
theorem oh{x qual:Str}{st:Stmt}{f:Addr}{fM:Value}{eR an:Option Addr}{g_:Array (Option Value)}{kV fH e3 di ct:Value}(l:K.lookup f=some ⟨fM,eR,.func (fnOf x qual (j7 st) (iV st) (dh st) .none kV fH e3 an di ct),g_⟩)
  (c:codeIn K di qual=true) (k:keepIn K (.ref f)=true):Fun K x qual st f (fnOf x qual (j7 st) (iV st) (dh st) .none kV fH e3 an di ct):=⟨⟨fM,eR,kV,fH,e3,an,di,ct,g_,rfl,l,c⟩,k⟩
end
theorem eE{n:Nat}(h:n≤1000):n<sizeLine:=qaK h (by decide)
section
variable {X:Cx}
theorem pv(i:Nat){x:Str}{pos:Pos}(eG:X.N[i]? =some x:=by rfl)(cv:Vis X.env.scope x:=by first|exact Or.inl rfl|exact Or.inr (Or.inl rfl)|exact Or.inr (Or.inr rfl))(hd:(x==("__debug__" :Str))=false:=by decide)
  (im:(x==("__classdict__" :Str))=false:=by decide):PE X (.Name x pos) (Zd6 i):=Zms eG cv hd im
end
theorem ZdH{A B:Prop}(h:B):if false=true then A else B:=by
 rw[if_neg qag];exact h
theorem ZdB{A B:Prop}(h:A):if true=true then A else B:=by
 rw[if_pos rfl];exact h
theorem UK{c A B:Prop}[Decidable c](aS:c→A)(a2:¬c→B):if c then A else B:=by
 by_cases h:c
 ·rw[if_pos h];exact aS h
 ·rw[if_neg h];exact a2 h
def Ze(H H':Hp):Prop:=∀b o,H b=some o→H' b=some o
theorem Ze.refl(H:Hp):Ze H H:=λ_ _ h=>h
theorem Ze.trans{H aU a4:Hp}(a:Ze H aU)(b:Ze aU a4):Ze H a4:=λc o h=>b c o (a c o h)
theorem Ze.seq{K:Frag}{H H':Hp}{a:Addr}{xs:List V}(e:Ze H H')(h:SqL K H a xs):SqL K H' a xs:=by
 rcases h with(h|⟨o,h⟩)|h
 ·exact .inl (.inl (e _ _ h))
 ·exact .inl (.inr ⟨o,e _ _ h⟩)
 ·exact .inr h
section
variable {eu:Type}[DecidableEq eu]
noncomputable def valV (kvs:List (eu×V)) (k:eu):Option V:=(kvs.find? λkv=>decide (kv.1=k)).map (·.2)
noncomputable def fO (kvs:List (eu×V)) (k:eu) (v:V):List (eu×V):=
 if(kvs.any λkv=>decide (kv.1=k))=true then kvs.map (λkv=>if kv.1=k then(kv.1,v) else kv) else kvs++ [(k,v)]
theorem iW{p:eu×V}{r:List (eu×V)}{k:eu}(e:p.1=k):valV (p::r) k=some p.2:=by simp[valV,qbt,e]
theorem iX{p:eu×V}{r:List (eu×V)}{k:eu}(e:¬p.1=k):valV (p::r) k=valV r k:=by simp[valV,qbt,e]
theorem WO(k:eu):∀kvs:List (eu×V),(kvs.any λkv=>decide (kv.1=k))=(valV kvs k).isSome
 | []=>rfl
 |p::r=>by
  rw[qcn]
  by_cases e:p.1=k
  ·simp only[iW e,decide_eq_true e,Bool.true_or,Option.isSome_some]
  ·rw[iX e,decide_eq_false e,Bool.false_or];exact WO k r
theorem yC(k j:eu)(y:V):∀kvs:List (eu×V),valV (kvs.map λkv=>if kv.1=k then(kv.1,y) else kv) j=(valV kvs j).map λx=>if j=k then y else x
 | []=>rfl
 |p::r=>by
  have bP:=yC k j y r;rw[List.map_cons]
  by_cases h:p.1=k
  ·rw[if_pos h]
   by_cases e:p.1=j
   ·rw[iW (p:=(p.1,y)) e,iW e,Option.map_some,if_pos (e.symm.trans h)]
   ·rw[iX (p:=(p.1,y)) e,iX e,bP]
  ·rw[if_neg h]
   by_cases e:p.1=j
   ·rw[iW (p:=p) e,iW e,Option.map_some,if_neg (λz=>h (e.trans z))]
   ·rw[iX (p:=p) e,iX e,bP]
theorem ZeG(k j:eu)(y:V):∀kvs:List (eu×V),valV kvs k=none→valV (kvs++ [(k,y)]) j=if j=k then some y else valV kvs j
 | [],_=>by
  by_cases e:k=j
  ·rw[if_pos e.symm];exact iW (p:=(k,y)) e
  ·rw[if_neg (λz=>e z.symm)];exact iX (p:=(k,y)) e
 |p::r,bF=>by
  rw[List.cons_append];have a5:¬p.1=k:=λz=>by rw[iW z] at bF;cases bF
  rw[iX a5] at bF;have bP:=ZeG k j y r bF
  by_cases e:p.1=j
  ·rw[iW e,iW e,if_neg (λz=>a5 (e.trans z))]
  ·rw[iX e,iX e,bP]
theorem pO(kvs:List (eu×V))(k j:eu)(y:V):valV (fO kvs k y) j=if j=k then some y else valV kvs j:=by
 unfold fO
 by_cases a:(kvs.any λkv=>decide (kv.1=k))=true
 ·rw[if_pos a,yC];rw[WO] at a
  by_cases e:j=k
  ·obtain⟨x,aT⟩:=qbM.mp a;rw[if_pos e,e,aT,Option.map_some,if_pos rfl]
  ·rw[if_neg e];cases valV kvs j with
   |none=>rfl
   |some x=>rw[Option.map_some,if_neg e]
 ·rw[if_neg a];refine ZeG k j y kvs ?_;rw[WO] at a;cases q:valV kvs k with
  |none=>rfl
  |some x=>rw[q] at a;exact(a rfl).elim
theorem Vf(kvs:List (eu×V))(k:eu)(v:V):(fO kvs k v).length≤kvs.length+1:=by
 unfold fO
 split
 ·rw[GE];omega
 ·rw[qap,List.length_cons,List.length_nil];omega
theorem ZaC{kvs:List (eu×V)}{k:eu}(v:V)(h:valV kvs k=none):fO kvs k v=kvs++ [(k,v)]:=by
 unfold fO;rw[WO,h];exact if_neg (by decide)
theorem hC.isSome_eq{o:Option V}{u:Option Value}(r:hC o u):o.isSome=u.isSome:=by
 cases o with
 |none=>cases u with
  |none=>rfl
  |some _=>exact(show False from r).elim
 |some _=>cases u with
  |none=>exact(show False from r).elim
  |some _=>rfl
theorem hC.getD{o:Option V}{u:Option Value}{d:V}{d':Value}(r:hC o u)(rL:dq d d'):dq (o.getD d) (u.getD d'):=by
 cases o with
 |none=>cases u with
  |none=>exact rL
  |some _=>exact(show False from r).elim
 |some _=>cases u with
  |none=>exact(show False from r).elim
  |some _=>exact r
theorem KV.val{kvs:List (eu×V)}{vs:List (eu×Value)}(r:KV kvs vs)(k:eu):hC (valV kvs k) (valueAt vs k):=by
 unfold KV at r
 induction r with
 |nil=>exact True.intro
 | @cons p q ps eN h t bP=>
  obtain⟨aS,a2⟩:=h
  by_cases e:p.1=k
  ·have b1:q.1=k:=aS.symm.trans e;have b:valueAt (q::eN) k=some q.2:=by simp[valueAt,qbt,b1]
   rw[iW e,b];exact a2
  ·have b1:¬q.1=k:=λz=>e (aS.trans z);have b:valueAt (q::eN) k=valueAt eN k:=by simp[valueAt,qbt,b1]
   rw[iX e,b];exact bP
theorem KV.any{kvs:List (eu×V)}{vs:List (eu×Value)}(r:KV kvs vs)(k:eu):(kvs.any λkv=>decide (kv.1=k))=vs.any λkv=>decide (kv.1=k):=by
 unfold KV at r
 induction r with
 |nil=>rfl
 |cons h t bP=>rw[qcn,qcn,bP,h.1]
theorem KV.repl{kvs:List (eu×V)}{vs:List (eu×Value)}(r:KV kvs vs)(k:eu){y:V}{u:Value}(c9:dq y u):
  KV (kvs.map λkv=>if kv.1=k then(kv.1,y) else kv) (vs.map λkv=>if kv.1=k then(kv.1,u) else kv):=by
 unfold KV at r⊢
 induction r with
 |nil=>exact .nil
 | @cons p q ps eN h t bP=>
  rw[List.map_cons,List.map_cons];refine .cons ?_ bP;obtain⟨aS,a2⟩:=h
  by_cases e:p.1=k
  ·rw[if_pos e,if_pos (aS.symm.trans e)];exact⟨aS,c9⟩
  ·rw[if_neg e,if_neg (λz=>e (aS.trans z))];exact⟨aS,a2⟩
theorem KV.put{kvs:List (eu×V)}{vs:List (eu×Value)}(r:KV kvs vs)(k:eu){y:V}{u:Value}(c9:dq y u):KV (fO kvs k y) (stored vs k u):=by
 unfold fO stored;rw[r.any k]
 by_cases e:(vs.any λkv=>decide (kv.1=k))=true
 ·rw[if_pos e,if_pos e];exact r.repl k c9
 ·rw[if_neg e,if_neg e];exact Paired.snoc r ⟨rfl,c9⟩
theorem KV.length{kvs:List (eu×V)}{vs:List (eu×Value)}(r:KV kvs vs):kvs.length=vs.length:=Paired.length r
end
theorem nb{P:Program}{w:World}{k:Key}{u:Value}(r:dq (kV k) u):(e6 P w).is k u=true:=by
 cases k with
 |inl i=>obtain⟨t,e⟩:=(show ∃t,u=Value.int i t from r);subst e;exact ZgD P w i t
 |inr x=>obtain⟨t,e⟩:=(show ∃t,u=Value.str x t from r);subst e;exact Zg0 P w x t
theorem Ec{a b:Key}(e:kV a=kV b):a=b:=by
 cases a with
 |inl i=>cases b with
  |inl j=>have b1:V.int i=V.int j:=e;injection b1 with b1;rw[b1]
  |inr y=>exact nomatch (show V.int i=V.str y from e)
 |inr x=>cases b with
  |inl j=>exact nomatch (show V.str x=V.int j from e)
  |inr y=>have b1:V.str x=V.str y:=e;injection b1 with b1;rw[b1]
theorem yD{P:Program}{w:World}:∀{cx:List Key}{us:List Value},dm (cx.map kV) us→ItemsAre (e6 P w) cx us
 | [],_,r=>by rw[List.map_nil] at r;cases r;exact .nil
 |k::cx,_,r=>by
  rw[List.map_cons] at r;cases r with
  |cons h t=>exact .cons (nb h) (yD t)
noncomputable abbrev KT (H:Hp):List (List Key×V)→List (List Key×Addr×Value)→Prop:=Paired λp q=>p.1=q.1∧H q.2.1=some (.tup (p.1.map kV))∧dq p.2 q.2.2
theorem KT.val{H:Hp}{kvs:List (List Key×V)}{xs:List (List Key×Addr×Value)}(r:KT H kvs xs)(k:List Key):hC (valV kvs k) ((atKey xs k).map (·.2)):=by
 induction r with
 |nil=>exact True.intro
 | @cons p q ps eN h t bP=>
  obtain⟨aS,_,a2⟩:=h
  by_cases e:p.1=k
  ·have b1:q.1=k:=aS.symm.trans e;have b:atKey (q::eN) k=some q.2:=by simp[atKey,qbt,b1]
   rw[iW e,b];exact a2
  ·have b1:¬q.1=k:=λz=>e (aS.trans z);have b:atKey (q::eN) k=atKey eN k:=by simp[atKey,qbt,b1]
   rw[iX e,b];exact bP
theorem KT.repl{H:Hp}{kvs:List (List Key×V)}{xs:List (List Key×Addr×Value)}(r:KT H kvs xs)(k:List Key){y:V}{u:Value}(c9:dq y u):
  KT H (kvs.map λkv=>if kv.1=k then(kv.1,y) else kv) (xs.map (putAt k u)):=by
 induction r with
 |nil=>exact .nil
 | @cons p q ps eN h t bP=>
  rw[List.map_cons,List.map_cons];refine .cons ?_ bP;obtain⟨aS,a2,bU⟩:=h;unfold putAt
  by_cases e:p.1=k
  ·rw[if_pos e,if_pos (aS.symm.trans e)];exact⟨aS,a2,c9⟩
  ·rw[if_neg e,if_neg (λz=>e (aS.trans z))];exact⟨aS,a2,bU⟩
theorem KT.put{H:Hp}{kvs:List (List Key×V)}{xs:List (List Key×Addr×Value)}(r:KT H kvs xs)(k:List Key){b:Addr}{y:V}{u:Value}(aN:H b=some (.tup (k.map kV)))(c9:dq y u):
  KT H (fO kvs k y) (storedH xs k b u):=by
 have e:(kvs.any λkv=>decide (kv.1=k))=(atKey xs k).isSome:=by
  rw[WO,(r.val k).isSome_eq,Option.isSome_map]
 unfold fO storedH;rw[e]
 by_cases q:(atKey xs k).isSome=true
 ·rw[if_pos q,if_pos q];exact r.repl k c9
 ·rw[if_neg q,if_neg q];exact Paired.snoc r ⟨rfl,aN,c9⟩
theorem KT.keeps{H H':Hp}{kvs:List (List Key×V)}{xs:List (List Key×Addr×Value)}(r:KT H kvs xs)(ce:∀b ys,H b=some (.tup ys)→H' b=some (.tup ys)):KT H' kvs xs:=
 Paired.mapP r λ_ _ z=>⟨z.1,ce _ _ z.2.1,z.2.2⟩
section
variable {P:Program}{w:World}{H:Hp}{h:Heap}{a:Addr}
theorem ZlB{u:HO}(ok:HOk P w H h)(e:Rd H a u):ZP P w H h a u:=e.ok ok
theorem WJ{kvs:List (Key×V)}(ok:HOk P w H h)(e:Rd H a (.dK kvs)):kvs.length≤sizeLine∧(a==sysModules)=false∧∃vs,KV kvs vs∧h.DictOf (e6 P w) a vs:=
 show ZP P w H h a (.dK kvs) from ZlB ok e
theorem ZbL{kvs:List (Key×V)}(ok:HOk P w H h)(e:H a=some (.dK kvs)):kvs.length≤sizeLine∧(a==sysModules)=false∧∃vs,KV kvs vs∧h.DictOf (e6 P w) a vs:=WJ ok (.inl e)
theorem oi{cx:List Key}(ok:HOk P w H h)(e:H a=some (.tup (cx.map kV))):(tupleKind (e6 P w)).is h cx a:=by
 obtain⟨_,its,r,o,aS,a2,n,bU⟩:=(show ZP P w H h a (.tup (cx.map kV)) from ok a _ e);exact⟨o,its.toArray,n,aS,a2,bU,by simpa using yD r⟩
theorem ZaI{kvs:List (List Key×V)}(ok:HOk P w H h)(e:Rd H a (.dT kvs)):kvs.length≤sizeLine∧(a==sysModules)=false∧
  ∃xs,KT H kvs xs∧h.DictOfH (tupleKind (e6 P w)) a xs:=by
 obtain⟨z,y,xs,r,o,a',ep,aS,a2,bU,dD,eM⟩:=(show ZP P w H h a (.dT kvs) from ZlB ok e);refine⟨z,y,xs,r,o,a',ep,aS,a2,bU,dD,λx aT=>?_,eM⟩;have all:∀{l:List (List Key×V)}{m:List (List Key×Addr×Value)},KT H l m→∀x∈m,(tupleKind (e6 P w)).is h x.1 x.2.1:=by
  intro l m q
  induction q with
  |nil=>intro x aT;exact nomatch aT
  | @cons p q ps eN bT t bP=>
   intro x aT;rcases qad.mp aT with e|aT
   ·subst e;exact oi ok (by rw[←bT.1];exact bT.2.1)
   ·exact bP x aT
 exact all r x aT
theorem ZnU{kvs:List (List Key×V)}(ok:HOk P w H h)(e:H a=some (.dT kvs)):kvs.length≤sizeLine∧(a==sysModules)=false∧
  ∃xs,KT H kvs xs∧h.DictOfH (tupleKind (e6 P w)) a xs:=ZaI ok (.inl e)
end
def iY(H:Hp)(a:Addr)(y:V)(r:Option V):Prop:=
 (∃kvs k,Rd H a (.dK kvs)∧y=kV k∧r=valV kvs k)∨∃kvs k b,Rd H a (.dT kvs)∧y= .ref b∧H b=some (.tup (k.map kV))∧r=valV kvs k
def Zdz(H:Hp)(a:Addr)(y v:V)(H':Hp):Prop:=
 (∃kvs k,H a=some (.dK kvs)∧y=kV k∧kvs.length<sizeLine∧H'=upd H a (.dK (fO kvs k v)))∨
 ∃kvs k b,H a=some (.dT kvs)∧y= .ref b∧H b=some (.tup (k.map kV))∧kvs.length<sizeLine∧H'=upd H a (.dT (fO kvs k v))
theorem iY.k{H:Hp}{a:Addr}{kvs:List (Key×V)}{k:Key}(e:H a=some (.dK kvs)):iY H a (kV k) (valV kvs k):= .inl ⟨kvs,k,.inl e,rfl,rfl⟩
theorem Zdz.k{H:Hp}{a:Addr}{kvs:List (Key×V)}{k:Key}{v:V}(e:H a=some (.dK kvs))(aJ:kvs.length<sizeLine):Zdz H a (kV k) v (upd H a (.dK (fO kvs k v))):= .inl ⟨kvs,k,e,rfl,aJ,rfl⟩
section
variable {X:Cx}{aK:List (Addr×Obj)}{σ:St}{H:Hp}{s:Shared}{a:Addr}{y v:V}{u r:Value}{o:Option V}{A:Around}{E:Value→Shared→Prop}
theorem Inv.big(I:Inv X aK σ H s):sysModules<s.heap.objs.size:=by
 have h:mainGlobals<s.heap.objs.size:=(I.mod.glob.keeps I.bk).lt;exact Nat.lt_trans (by decide) h
theorem Ed{Q:Value→Shared→Prop}(hu:A.units+1<cLine)(I:Inv X aK σ H s)(g:iY H a y (some v))(c9:dq y u)(h:∀dY s',Inv X aK σ H s'→dq v dY→Q dY s'):
  wpAny (model X.prog X.w) A (getItem (.ref a) u) Q E s:=by
 rcases g with⟨kvs,k,e,fk,l⟩|⟨kvs,k,b,e,fk,dJ,l⟩
 ·subst fk;obtain⟨z,hd,vs,rel,dd⟩:=WJ I.hok e;obtain⟨dY,hw,jo⟩:=hC.some_of (v:=v) (o:=valueAt vs k) (by rw[l];exact rel.val k);exact wpAny_getItem_of (nb c9) dd.mapOf hw (h dY _ (I.tok _) jo)
 ·subst fk;cases (show u=Value.ref b from c9);obtain⟨z,hd,xs,rel,dd⟩:=ZaI I.hok e;obtain⟨dY,hw,jo⟩:=hC.some_of (v:=v) (o:=(atKey xs k).map (·.2)) (by rw[l];exact rel.val k);obtain⟨p,bb,mb⟩:=Option.map_eq_some_iff.mp hw;refine wpAny_getItem_heap (tupleKind_room_in1 hu) (oi I.hok dJ) dd bb ?_;rw[mb];exact h dY _ (I.tok _) jo
theorem ZoE{Q:Value→Shared→Prop}(hu:A.units+1<cLine)(I:Inv X aK σ H s)(g:iY H a y o)(c9:dq y u)(h:∀s',Inv X aK σ H s'→Q (.bool o.isSome) s'):
  wpAny (model X.prog X.w) A (compareOp .In u (.ref a)) Q E s:=by
 rcases g with⟨kvs,k,e,fk,l⟩|⟨kvs,k,b,e,fk,dJ,l⟩
 ·subst fk;obtain⟨z,hd,vs,rel,dd⟩:=WJ I.hok e;refine wpAny_in_of (nb c9) hd dd.mapOf ?_;rw[←(rel.val k).isSome_eq,←l];exact h _ (I.tok _)
 ·subst fk;cases (show u=Value.ref b from c9);obtain⟨z,hd,xs,rel,dd⟩:=ZaI I.hok e;refine wpAny_in_heap (tupleKind_room_in1 hu) (oi I.hok dJ) hd dd ?_;have q:=(rel.val k).isSome_eq;rw[Option.isSome_map] at q;rw[←q,←l];exact h _ (I.tok _)
theorem Zmh{Q:Value→Shared→Prop}(hu:A.units+1<cLine)(I:Inv X aK σ H s)(g:iY H a y o)(c9:dq y u)(h:∀s',Inv X aK σ H s'→Q (.bool (!o.isSome)) s'):
  wpAny (model X.prog X.w) A (compareOp .NotIn u (.ref a)) Q E s:=by
 rcases g with⟨kvs,k,e,fk,l⟩|⟨kvs,k,b,e,fk,dJ,l⟩
 ·subst fk;obtain⟨z,hd,vs,rel,dd⟩:=WJ I.hok e;refine wpAny_notIn_of (nb c9) hd dd.mapOf ?_;rw[←(rel.val k).isSome_eq,←l];exact h _ (I.tok _)
 ·subst fk;cases (show u=Value.ref b from c9);obtain⟨z,hd,xs,rel,dd⟩:=ZaI I.hok e;refine wpAny_notIn_heap (tupleKind_room_in1 hu) (oi I.hok dJ) hd dd ?_;have q:=(rel.val k).isSome_eq;rw[Option.isSome_map] at q;rw[←q,←l];exact h _ (I.tok _)
theorem rM{h':Heap}{t':Nat}{dz:HO}(I:Inv X aK σ H s)(iO:Mut (H a))(hs:Heap.SameBut a s.heap h')(bD:∃q,h'.get? a=some q)(new:ZP X.prog X.w (upd H a dz) h' a dz):
  Inv X aK σ (upd H a dz) {s with heap:=h',toks:=t'}:=
 I.write (x:=a) (e:=a) iO (.inl rfl) (λb q aN z=>(hs.2 b aN).trans z) bD new
theorem ud{P:Program}{w:World}{H':Hp}{h':Heap}{kvs:List (Key×V)}{vs:List (Key×Value)}(z:kvs.length≤sizeLine)(hd:(a==sysModules)=false)(rel:KV kvs vs)(dd:h'.DictOf (e6 P w) a vs):
  ZP P w H' h' a (.dK kvs):=⟨z,hd,vs,rel,dd⟩
theorem ZiE{H':Hp}{Q:Unit→Shared→Prop}(hu:A.units+1<cLine)(I:Inv X aK σ H s)(g:Zdz H a y v H')(c9:dq y u)(dC:dq v r)(h:∀s',Inv X aK σ H' s'→Q () s'):
  wpAny (model X.prog X.w) A (setItem (.ref a) u r) Q E s:=by
 rcases g with⟨kvs,k,e,fk,l,uf⟩|⟨kvs,k,b,e,fk,dJ,l,uf⟩
 ·subst fk uf;obtain⟨z,hd,vs,rel,dd⟩:=ZbL I.hok e;have hz:vs.length≤sizeLine:=by rw[←rel.length];exact z
  have aJ:(fO kvs k v).length≤sizeLine:=by have:=Vf kvs k v;omega
  refine wpAny_setItem_pairs (hsz:=hz) (nb c9) dd λh' dd' hs=>h _ ?_;have bD:∃q,h'.get? a=some q:=let⟨q,_,_,bT,_⟩:=dd';⟨q,bT⟩
  exact rM I (by rw[e];exact True.intro) hs bD (ud aJ hd (rel.put k dC) dd')
 ·subst fk uf;cases (show u=Value.ref b from c9);obtain⟨z,hd,xs,rel,dd⟩:=ZnU I.hok e;have hz:xs.length≤sizeLine:=by rw[←Paired.length rel];exact z
  have aJ:(fO kvs k v).length≤sizeLine:=by have:=Vf kvs k v;omega
  refine wpAny_setItem_heap (hsz:=hz) (tupleKind_room_in1 hu) (oi I.hok dJ) dd λh' dd' hs=>h _ ?_;obtain⟨q,a',ep,bT,a2,bU,dD,_,eM⟩:=dd';refine rM I (by rw[e];exact True.intro) hs ⟨q,bT⟩ ⟨aJ,hd,_,(rel.put k dJ dC).keeps λc ys jO=>?_,q,a',ep,bT,a2,bU,dD,eM⟩;rw[b2 (gT jO e (λz=>nomatch z))];exact jO
end
section
variable {X:Cx}{aK:List (Addr×Obj)}{σ:St}{H:Hp}{s:Shared}{a:Addr}{kvs:List (Key×V)}{k:Key}{u:Value}{A:Around}{E:Value→Shared→Prop}
theorem ZnS{Q:Value→Shared→Prop}(I:Inv X aK σ H s)(e:Rd H a (.dK kvs))(h:∀t s',Inv X aK σ H s'→Q (.int kvs.length t) s'):wpAny (model X.prog X.w) A (call (.builtin "len") [.ref a]) Q E s:=by
 obtain⟨z,hd,vs,rel,dd⟩:=WJ I.hok e;refine call_len_dict hd dd (by rw[←rel.length];rw[sizeLine_eq] at z;omega) ?_;rw[←rel.length];exact h _ _ (I.tok _)
end
theorem Ee{X:Cx}{aK:List (Addr×Obj)}{σ:St}{H:Hp}{s:Shared}{a:Addr}{y:V}{o:Option V}(I:Inv X aK σ H s)(g:iY H a y o):s.TypeIs (.ref a) "dict" :=by
 rcases g with⟨kvs,k,e,_,_⟩|⟨kvs,k,b,e,_,_,_⟩
 ·obtain⟨_,_,vs,_,dd⟩:=WJ I.hok e;exact dd.typeIs
 ·obtain⟨_,_,xs,_,dd⟩:=ZaI I.hok e;exact dd.typeIs
section
variable {X:Cx}{o i e value:Expr}{pos j0 m1:Pos}{e4 ty h7:TE}
end
theorem yE{P:Program}{w:World}{H:Hp}(h:Heap)(aN:sysModules<h.objs.size):ZP P w H (h.push {cls:= .type "dict",data:= .dict #[]}) h.objs.size (.dK []):=
 ⟨qav _,beq_eq_false_iff_ne.mpr (qbP (qai aN)),[],.nil,Heap.DictOf.new h⟩
noncomputable def tDNewK:TE:=λ_ H Q=>∀p,H p=none→Q (.ref p) (upd H p (.dK []))
section
variable {X:Cx}{pos:Pos}
theorem pP:PE X (.Dict [] [] pos) tDNewK:=λaK s σ H Q I h=>
 wpAny_Dict_empty ⟨.ref s.heap.objs.size,_,I.laid (a:=s.heap.objs.size) (o:= .dK []) (t':=s.toks) (λ_ _ q=>Heap.get?_push_of_some _ q) (fm _) (yE s.heap I.big),rfl,h _ (I.hok.fresh (fm _))⟩
end
noncomputable def rN:List (TE×TE)→St→Hp→(List (V×V)→Hp→Prop)→Prop
 | [],_,H,Q=>Q [] H
 |(bL,h7)::r,σ,H,Q=>bL σ H λx aU=>h7 σ aU λy a4=>rN r σ a4 λps b_=>Q ((x,y)::ps) b_
noncomputable abbrev VV:List (V×V)→List (Value×Value)→Prop:=Paired λp q=>dq p.1 q.1∧dq p.2 q.2
def PPs(X:Cx)(pos:Pos)(keys:List (Option Expr))(pQ:List Expr)(lr:List (TE×TE)):Prop:=
 ∀(aK:List (Addr×Obj))(s:Shared)(σ:St)(H:Hp)(Q:List (V×V)→Hp→Prop),Inv X aK σ H s→rN lr σ H Q→
  wpAny (model X.prog X.w) X.A (evalPairs (pairTrees keys pQ X.env pos)) (λvs s'=>∃ps H',Inv X aK σ H' s'∧VV ps vs∧Q ps H') X.xe s
theorem Zml{X:Cx}{pos:Pos}:PPs X pos [] [] []:=λaK s σ H Q I h=>pairTrees_nil_walk ⟨[],H,I,.nil,h⟩
theorem Ef{X:Cx}{pos:Pos}{k v:Expr}{cx:List (Option Expr)}{vs:List Expr}{bL h7:TE}{lr:List (TE×TE)}(a5:PE X k bL)(cv:PE X v h7)(a3:PPs X pos cx vs lr):
  PPs X pos (some k::cx) (v::vs) ((bL,h7)::lr):=λaK s σ H Q I h=>
 pairTrees_cons_walk (thn (a5 aK s σ H _ I h) λu a7 ⟨x,aU,bB,bO,c8⟩=>thn (cv aK a7 σ aU _ bB c8) λky bK ⟨y,a4,ds,c9,dI⟩=>
  thn (a3 aK bK σ a4 _ ds dI) λbW bM ⟨ps,b_,en,rel,f9⟩=>⟨(x,y)::ps,b_,en,.cons ⟨bO,c9⟩ rel,f9⟩)
noncomputable def gY (kvs more:List (Key×V)):List (Key×V):=more.foldl (λdL kv=>fO dL kv.1 kv.2) kvs
theorem KV.merge:∀{more:List (Key×V)}{rs:List (Key×Value)}{kvs:List (Key×V)}{vs:List (Key×Value)},KV more rs→KV kvs vs→KV (gY kvs more) (merged vs rs):=by
 intro more rs kvs vs r;unfold KV at r
 induction r generalizing kvs vs with
 |nil=>intro q;exact q
 | @cons p q ps eN h t bP=>
  intro pR;have e:KV (fO kvs p.1 p.2) (stored vs q.1 q.2):=by
   have:=pR.put p.1 h.2;rw[←h.1];exact this
  exact bP e
theorem rO:∀(more kvs:List (Key×V)),(gY kvs more).length≤kvs.length+more.length
 | [],kvs=>by show kvs.length≤kvs.length+0;omega
 |p::r,kvs=>by
  have aS:=rO r (fO kvs p.1 p.2);have a2:=Vf kvs p.1 p.2;show(gY (fO kvs p.1 p.2) r).length≤_;rw[List.length_cons];omega
theorem Zdo{P:Program}{w:World}:∀{kvs:List (Key×V)}{bW:List (Value×Value)},VV (kvs.map λkv=>(kV kv.1,kv.2)) bW→∃rs,Carries (e6 P w) bW rs∧KV kvs rs
 | [],_,r=>by rw[List.map_nil] at r;cases r;exact⟨[],True.intro,.nil⟩
 |p::kvs,_,r=>by
  rw[List.map_cons] at r;cases r with
  | @cons a b as bs h t=>
   obtain⟨rs,c,q⟩:=Zdo (P:=P) (w:=w) t;obtain⟨fC,fV⟩:=b;exact⟨(p.1,fV)::rs,⟨nb h.1,rfl,c⟩,.cons ⟨rfl,h.2⟩ q⟩
noncomputable def Eg (lr:List (TE×TE)):TE:=λσ H Q=>∀p,H p=none→rN lr σ (upd H p (.dK [])) λps a4=>a4 p=some (.dK [])∧∃kvs:List (Key×V),ps=kvs.map (λkv=>(kV kv.1,kv.2))∧kvs.length≤15∧Q (.ref p) (upd a4 p (.dK (gY [] kvs)))
theorem Eh{X:Cx}{pos:Pos}{keys:List (Option Expr)}{pQ:List Expr}{lr:List (TE×TE)}(h:PPs X pos keys pQ lr)(jN:keys.all (·.isSome)=true)(aJ:keys.length=pQ.length)(de:keys≠[])
  (Ei:keys.length≤15):PE X (.Dict keys pQ pos) (Eg lr):=by
 intro aK s σ H Q I q;have bF:=I.hok.fresh (fm s.heap.objs.size);have bB:=I.laid (a:=s.heap.objs.size) (o:= .dK []) (h':=s.heap.push {cls:= .type "dict",data:= .dict #[]}) (t':=s.toks) (λ_ _ q=>Heap.get?_push_of_some _ q) (fm _) (yE s.heap I.big);refine wpAny_Dict_walk (knd:=e6 X.prog X.w) jN aJ de Ei (thn (h aK _ σ _ _ bB (q _ bF)) λbW bK ⟨ps,a4,ds,rel,e,kvs,ep,lk,dI⟩=>?_);subst ep;obtain⟨rs,c,Ej⟩:=Zdo (P:=X.prog) (w:=X.w) rel;obtain⟨z,hd,Qy,pR,dd⟩:=ZbL ds.hok e;cases pR;refine⟨rs,c,dd,λh' dd' hs=>⟨.ref s.heap.objs.size,_,?_,rfl,dI⟩⟩;have hz:(gY [] kvs).length≤sizeLine:=by
  have aS:=rO kvs [];rw[List.length_nil] at aS;rw[sizeLine_eq];omega
 have bD:∃q,h'.get? s.heap.objs.size=some q:=let⟨q,_,_,bT,_⟩:=dd';⟨q,bT⟩
 exact rM ds (by rw[e];exact True.intro) hs bD (ud hz hd (Ej.merge .nil) dd')
structure M2(X:Cx)(o:Expr)(m:Str)(dV:Pos)(e f:Expr)(eb:Pos):Prop where
 base:attributeBase o m X.env (eval o X.env)=eval o X.env
 few:((backTo eb (starEach [e,f] X.env)).all (λx=>!x.1)&&(backToKw eb (keywordEach [] X.env)).all (λx=>x.1.isSome)
  &&decide (([e,f]:List Expr).length+([]:List Keyword).length+(if([]:List Keyword).isEmpty then 0 else 1)<30))=true
 line:(dV.endLine==eb.line)=true
 trees:backTo eb (starEach [e,f] X.env)=[(false,eval e X.env),(false,eval f X.env)]
def IsD(H:Hp)(a:Addr):Prop:=(∃kvs,Rd H a (.dK kvs))∨∃kvs,Rd H a (.dT kvs)
theorem ZnL{X:Cx}{aK:List (Addr×Obj)}{σ:St}{H:Hp}{s:Shared}{a:Addr}(I:Inv X aK σ H s)(d:IsD H a):
  s.TypeIs (.ref a) "dict" ∧(∀b,Value.ref a= .ref b→∃dz,s.heap.get? b=some dz∧dz.dict=none)∧(a==sysModules)=false:=by
 rcases d with⟨kvs,e⟩|⟨kvs,e⟩
 ·obtain⟨_,hd,vs,_,dd⟩:=WJ I.hok e;refine⟨dd.typeIs,λb q=>?_,hd⟩;cases q;obtain⟨dz,_,_,aS,a2,_⟩:=dd;exact⟨dz,aS,a2.2.1⟩
 ·obtain⟨_,hd,xs,_,dd⟩:=ZaI I.hok e;refine⟨dd.typeIs,λb q=>?_,hd⟩;cases q;obtain⟨dz,_,_,aS,a2,_⟩:=dd;exact⟨dz,aS,a2.2.1⟩
section
variable {X:Cx}{aK:List (Addr×Obj)}{σ:St}{H:Hp}{s:Shared}{a:Addr}{y d:V}{u r:Value}{o:Option V}{A:Around}{E:Value→Shared→Prop}
theorem ZmI{Q:Value→Shared→Prop}(hu:A.units+1<cLine)(I:Inv X aK σ H s)(g:iY H a y o)(c9:dq y u)(rL:dq d r)(h:∀dY s',Inv X aK σ H s'→dq (o.getD d) dY→Q dY s'):
  wpAny (model X.prog X.w) A (call (.builtin "dict.get") [.ref a,u,r]) Q E s:=by
 rcases g with⟨kvs,k,e,fk,l⟩|⟨kvs,k,b,e,fk,dJ,l⟩
 ·subst fk;obtain⟨z,hd,vs,rel,dd⟩:=WJ I.hok e;refine call_meetsIn PySem.F.slot_dict_get dd.typeIs PySem.F.entry_dict_get (PySem.F.args_dict_get_3 _ _ _) (meets_dict_get_default (e6 X.prog X.w) a (nb c9) hd r) ⟨_,dd.mapOf,h _ _ (I.tok _) ?_⟩;rw[l];exact(rel.val k).getD rL
 ·subst fk;cases (show u=Value.ref b from c9);obtain⟨z,hd,xs,rel,dd⟩:=ZaI I.hok e;refine call_meetsIn PySem.F.slot_dict_get dd.typeIs PySem.F.entry_dict_get (PySem.F.args_dict_get_3 _ _ _) (meetsH_dict_get_default (tupleKind (e6 X.prog X.w)) a b hd r) ⟨tupleKind_room_in1 hu,k,xs,oi I.hok dJ,dd,h _ _ (I.tok _) ?_⟩;rw[l];exact(rel.val k).getD rL
end
noncomputable def yF (e4 ty nc:TE):TE:=λσ H Q=>e4 σ H λx aU=>∃a,x= .ref a∧IsD aU a∧ty σ aU λy a4=>nc σ a4 λz b_=>∃o,iY b_ a y o∧Q (o.getD z) b_
section
variable {X:Cx}{o e f:Expr}{dV eb:Pos}{e4 ty nc:TE}
theorem Zkb(hu:X.A.units+1<cLine)(bz:PE X o e4)(bD:PE X e ty)(bv:PE X f nc)(m:M2 X o "get" dV e f eb):PE X (.Call (.Attribute o "get" dV) [e,f] [] eb) (yF e4 ty nc):=by
 intro aK s σ H Q I h;refine wpAny_Call_method m.base m.few m.line qbk PySem.F.slot_dict_get PySem.F.type_dict_get (thn (bz aK s σ H _ I h) λu a7 ⟨x,aU,bB,bO,a,ex,d,c8⟩=>?_);subst ex;obtain rfl:u=Value.ref a:=bO;obtain⟨mc,ec,_⟩:=ZnL bB d;refine⟨mc,ec,?_⟩;rw[m.trees];refine Calls.callWith_builtin rfl (Calls.evalArgs_plain (Calls.spliced_cons (thn (bD aK a7 σ aU _ bB c8) λgs bK ⟨y,a4,ds,c9,dI⟩=>
  Calls.spliced_cons (thn (bv aK bK σ a4 _ ds dI) λQz bM ⟨z,b_,en,Ek,d4,g,f9⟩=>Calls.spliced_nil ?_))))
 exact ZmI hu en g c9 Ek λdY c_ lc jo=>⟨_,b_,lc,jo,f9⟩
end
section
variable {X:Cx}{aK:List (Addr×Obj)}{σ:St}{H:Hp}{s:Shared}{a:Addr}{kvs:List (Key×V)}{A:Around}{E:Value→Shared→Prop}
end
section
variable {X:Cx}{aK:List (Addr×Obj)}{σ:St}{H:Hp}{s:Shared}{a:Addr}{y:V}{u:Value}{A:Around}{E:Value→Shared→Prop}
end
section
variable {X:Cx}
theorem El:Z8 X (.builtin "len") (λxs H Q=>∃a kvs,xs=[V.ref a]∧H a=some (.dK kvs)∧Q (.int kvs.length) H):=by
 intro aK s σ H xs us Q I r h;obtain⟨a,kvs,rfl,bx,q⟩:=h;obtain⟨u,rfl,eD⟩:=YE r;cases eD;exact ZnS I (.inl bx) λt s' eT=>⟨.int kvs.length,H,eT,⟨t,rfl⟩,q⟩
end
section
variable {eu:Type}[DecidableEq eu]
end
namespace Rd
section
variable {σ:St}{H:Hp}{Q:VK}{D:Ends}{t u:TS}{bA dy dg:TE}{r:R2}
theorem var{i:Nat}{v:V}(h:σ[i]? =some (some v))(q:Q v H):Zd6 i σ H Q:=⟨v,h,q⟩
theorem con{v:V}(q:Q v H):tC v σ H Q:=q
theorem op(h:bA σ H λx aU=>dy σ aU λy a4=>r x y a4 Q):tOp r bA dy σ H Q:=h
theorem un{r:V→Hp→VK→Prop}(h:bA σ H λx aU=>r x aU Q):tUn r bA σ H Q:=h
theorem i0{g:Int→Int→V}{i j:Int}(q:Q (g i j) H):rI0 g (.int i) (.int j) H Q:=⟨i,j,rfl,rfl,q⟩
theorem iC{C:Int→Int→Prop}{g:Int→Int→V}{i j:Int}(c:C i j)(q:Q (g i j) H):rI C g (.int i) (.int j) H Q:=⟨i,j,rfl,rfl,c,q⟩
theorem eqI{i j:Int}(q:Q (.bl (decide (i=j))) H):rEq (.int i) (.int j) H Q:=⟨rfl,by
 have e:decide (V.int i=V.int j)=decide (i=j):=by
  by_cases h:i=j
  ·rw[h];simp
  ·rw[decide_eq_false h,decide_eq_false (λz=>h (V.int.inj z))]
 rw[e];exact q⟩
theorem neI{i j:Int}(q:Q (.bl (!decide (i=j))) H):rNe (.int i) (.int j) H Q:=⟨rfl,by
 have e:decide (V.int i=V.int j)=decide (i=j):=by
  by_cases h:i=j
  ·rw[h];simp
  ·rw[decide_eq_false h,decide_eq_false (λz=>h (V.int.inj z))]
 rw[e];exact q⟩
theorem ZoB{Q:Bool→Hp→Prop}(h:dg σ H λx H'=>∃k,x= .bl k∧Q k H'):yi dg σ H Q:=h
theorem bl{k:Bool}{Q:Bool→Prop}(q:Q k):∃gI,V.bl k= .bl gI∧Q gI:=⟨k,rfl,q⟩
theorem seq(h:t {D with nx:=u D} σ H):xW t u D σ H:=h
theorem asg{g:TG}(h:dg σ H λx aU=>g x σ aU D.nx):pp dg g D σ H:=h
theorem ifs{c:TT}(h:c σ H λb aU=>if b=true then t D σ aU else u D σ aU):xZ c t u D σ H:=h
theorem ret(h:dg σ H D.rt):xY dg D σ H:=h
theorem next(h:D.nx σ H):tNext D σ H:=h
theorem drop(h:dg σ H λ_ aU=>D.nx σ aU):xX dg D σ H:=h
theorem nil{Q:List V→Hp→Prop}(h:Q [] H):tNil σ H Q:=h
theorem cons{bn:TA}{Q:List V→Hp→Prop}(h:bA σ H λx aU=>bn σ aU λxs a4=>Q (x::xs) a4):ym bA bn σ H Q:=h
theorem call{sp:Sp}{ew:List V}{E:XK}{gG:TA}(h:gG σ H λvs aU=>sp (vs++ew) aU Q E):rC sp ew E gG σ H Q:=h
theorem cb{r:List V→Hp→VK→Prop}{gG:TA}(h:gG σ H λvs aU=>r vs aU Q):tCB r gG σ H Q:=h
theorem tup{gG:TA}(h:gG σ H λxs aU=>xs.length≤sizeLine∧∀p,aU p=none→Q (.ref p) (upd aU p (.tup xs))):yn gG σ H Q:=h
theorem lst{gG:TA}(h:gG σ H λxs aU=>xs.length≤sizeLine∧∀p,aU p=none→Q (.ref p) (upd aU p (.lst xs))):tW gG σ H Q:=h
theorem Zpl{t u:TT}{Q:Bool→Hp→Prop}(h:t σ H λc aU=>if c=true then u σ aU Q else Q false aU):xR t u σ H Q:=h
theorem or_{t u:TT}{Q:Bool→Hp→Prop}(h:t σ H λc aU=>if c=true then Q true aU else u σ aU Q):tOr t u σ H Q:=h
theorem ZoF{t:TT}{Q:Bool→Hp→Prop}(h:t σ H λc aU=>Q (!c) aU):xS t σ H Q:=h
theorem ZoY(h:bA σ H λx aU=>∃c,x= .bl c∧if c=true then dy σ aU Q else Q (.bl false) aU):xT bA dy σ H Q:=h
theorem Zo4(h:bA σ H λx aU=>∃c,x= .bl c∧Q (.bl (!c)) aU):xU bA σ H Q:=h
end
end Rd
section
variable {X:Cx}
theorem Em:OpR X (binaryOp .Mult) (rI (λi j=>IntMulOk i j) λi j=> .int (i*j)):=opI λ_ _ _ _ _ _ _ a8 q=>mul_int q a8
theorem iA:OpR X (binaryOp .FloorDiv) (rI (λ_ j=>0<j∧j.natAbs.log2<9000) λi j=> .int (i / j)):=opI λi j _ _ _ _ _ a8 q=>by
 rw[←Int.fdiv_eq_ediv_of_nonneg i (Int.le_of_lt a8.1)] at q;exact floordiv_int (by have:=a8.1;omega) q (.inl (PyProof.noPylong_of_log2 a8.2))
theorem En:Z8 X (.builtin "isinstance") (λxs H Q=>∃x n t b,xs=[x,.ty n]∧Wv X.K H x t∧PySem.W.kitOne X.K t (.type n)=some b∧Q (.bl b) H):=by
 intro aK s σ H xs us Q I r h;obtain⟨x,n,t,b,rfl,ty,e,q⟩:=h;obtain⟨u,v,rfl,eD,dC⟩:=r.two;obtain rfl:v=Value.type n:=dC;exact Zja I eD ty e λbL=>⟨.bl b,H,I.tok bL,rfl,q⟩
theorem Za9{c:TT}{dy:TS}{D:Ends}{σ:St}{H:Hp}(W:Nat→St→Hp→Prop)(m:Nat)(de:W m σ H)
  (hs:∀m σ H,W m σ H→c σ H λb aU=>if b=true then ∃N:St→Hp→Prop,(∀bN H',N bN H'→∃da,da<m∧W da bN H')∧dy {D with nx:=N,ct:=N,bk:=D.nx} σ aU else D.nx σ aU):yd c dy D σ H:=
 ⟨W,⟨m,de⟩,hs⟩
theorem pS{W:Nat→St→Hp→Prop}{m:Nat}{dy:TS}{D:Ends}{σ:St}{aU:Hp}
  (h:dy {D with nx:=λbN H'=>∃da,da<m∧W da bN H',ct:=λbN H'=>∃da,da<m∧W da bN H',bk:=D.nx} σ aU):
  ∃N:St→Hp→Prop,(∀bN H',N bN H'→∃da,da<m∧W da bN H')∧dy {D with nx:=N,ct:=N,bk:=D.nx} σ aU:=⟨_,λ_ _ z=>z,h⟩
noncomputable def yG (t:TS):TS:=λD σ H=>∃J:St→Hp→Prop,(∀bN H',J bN H'→D.nx bN H')∧t {D with nx:=J} σ H
theorem oj{st:Stmt}{t:TS}(h:PS X st t):PS X st (yG t):=by
 intro aK s σ H D I bT;obtain⟨J,lu,q⟩:=bT;refine thn (h aK s σ H _ I q) λf a7 c8=>?_;cases f with
 |next=>obtain⟨bN,H',eT,j⟩:=c8;exact⟨bN,H',eT,lu _ _ j⟩
 |brk=>exact c8
 |cont=>exact c8
 |ret v=>exact c8
end
namespace Rd
theorem ZlA{A B:Prop}(h:B):if(!true)=true then A else B:=ZdH h
theorem Zlx{A B:Prop}(h:A):if(!false)=true then A else B:=ZdB h
section
variable {σ:St}{H:Hp}{Q:VK}{D:Ends}{t u:TS}{bA dy dg:TE}
theorem cut(J:St→Hp→Prop)(lu:∀bN H',J bN H'→D.nx bN H')(h:t {D with nx:=J} σ H):yG t D σ H:=⟨J,lu,h⟩
theorem Zpf{e0:TI}{g:TG}{dy:TS}(h:e0 σ H λJ aU=>∃W:Nat→Nat→St→Hp→Prop,(∃m,W 0 m σ aU)∧∀i m σ H,W i m σ H→
  (J.stop i H∧D.nx σ H)∨(J.go i H∧∃N:St→Hp→Prop,(∀bN H',N bN H'→∃da,da<m∧W (i+1) da bN H')∧∀x H',J.yld i H x H'→g x σ H' λdn a4=>dy {D with nx:=N,ct:=N,bk:=D.nx} dn a4)):yf e0 g dy D σ H:=h
theorem ZoS{gG:TA}{R:It→Hp→Prop}(h:gG σ H λvs aU=>∃j:Int,vs=[.int j]∧ -(2 ^ 62)≤j∧j<2 ^ 62∧R (Itr 0 j.toNat) aU):ye gG σ H R:=h
theorem VO{K:Frag}{n:Nat}{gG:TGs}{a:Addr}{xs:List V}{Q:St→Hp→Prop}(hs:SqT K H a xs)(bF:xs.length=n)(h:gG xs σ H Q):tJ K n gG (.ref a) σ H Q:=⟨a,xs,rfl,hs,bF,h⟩
theorem Zpb{Q:St→Hp→Prop}(h:Q σ H):gNil [] σ H Q:=⟨rfl,h⟩
theorem ZnP{g:TG}{cf:TGs}{v:V}{r:List V}{Q:St→Hp→Prop}(h:g v σ H λbN H'=>cf r bN H' Q):x_ g cf (v::r) σ H Q:=⟨v,r,rfl,h⟩
end
end Rd
theorem dH{H:Hp}{p:Addr}{o:HO}(bb:H p=none):Ze H (upd H p o):=λc u e=>by rw[b2 (d9 e bb)];exact e
theorem Ze.new{H H':Hp}{q:Addr}{o:HO}(bS:Ze H H')(bT:H q=none):Ze H (upd H' q o):=λc u e=>by rw[b2 (d9 e bT)];exact bS c u e
namespace Rd
section
variable {σ:St}{H:Hp}{Q:VK}{D:Ends}{K:Frag}
theorem ixt{p:Addr}{xs:List V}{i:Int}{v:V}(h:SqT K H p xs)(e:atI xs i=some v)(q:Q v H):t0 K (.ref p) (.int i) H Q:=⟨p,xs,i,v,rfl,rfl,h,e,q⟩
theorem ixl{p:Addr}{xs:List V}{i:Int}{v:V}(h:SqL K H p xs)(e:atI xs i=some v)(q:Q v H):Zd0 K (.ref p) (.int i) H Q:=⟨p,xs,i,v,rfl,rfl,h,e,q⟩
theorem bm{T:String}{r:V→List V→Hp→VK→Prop}{to:TE}{t:TA}(h:to σ H λx aU=>tyV K T x aU∧t σ aU λxs a4=>r x xs a4 Q):tBM K T r to t σ H Q:=h
theorem bm0{T:String}{r:V→List V→Hp→VK→Prop}{to:TE}(h:to σ H λx aU=>tyV K T x aU∧r x [] aU Q):t2 K T r to σ H Q:=h
theorem tyl{p:Addr}{xs:List V}{B:Prop}(h:H p=some (.lst xs))(q:B):tyV K "list" (.ref p) H∧B:=⟨.inl ⟨rfl,xs,.of h⟩,q⟩
theorem app{p:Addr}{xs:List V}{y:V}(h:H p=some (.lst xs))(aJ:xs.length<sizeLine)(q:Q .non (upd H p (.lst (xs++ [y])))):rAppend (.ref p) [y] H Q:=⟨p,xs,y,rfl,rfl,h,aJ,q⟩
end
end Rd
noncomputable def emb (ix:List Nat) (σ:St):St:=none::ix.map λj=>(σ[j]?).join
noncomputable def Zl (X:Cx) (b':Scope) (cl:List (Str×Addr)) (C:Addr) (N:List Str) (s:Shared) (H:Hp) (fp:List Addr):Cx where
 prog:=X.prog
 w:=X.w
 K:=X.K
 mg:=X.mg
 base:=X.base
 A:=X.A
 N:=N
 s₀:=s
 H₀:=H
 env:=compEnvC b' cl C X.env
 outer:=X.stack
 stack:=X.stack
 ex:=fp
 fn:=λ_=>false
 calm:=X.calm
 pn:=[]
 xe:=λ_ _=>False
structure YG(X:Cx)(b':Scope)(x:Str)(zs:List Str)(ix:List Nat):Prop where
 kind:b'.kind= .function
 nocell:∀y∈b'.names,y.2≠ .cell
 names:∀y∈b'.names,y.2= .local→b'.names.lookup y.1=some .local
 free:∀y∈b'.names,y.2= .free→X.env.kindOf y.1=some .cell∨X.env.kindOf y.1=some .free
 zfree:∀z∈zs,b'.names.lookup z=some .free
 at_:ix.map (λj=>X.N[j]?)=zs.map some
theorem Wm{env:Env}{x:Str}:∀{names:List (Str×NameKind)}{k:NameKind},
  (names.map λ(n,k)=>if(k==NameKind.free&&env.scope.kind== .function&&env.kindOf n==some .cell) then(n,NameKind.cell) else(n,k)).lookup x=some k→
  ∃gI,names.lookup x=some gI∧(k=gI∨(gI= .free∧k= .cell))
 | [],_,h=>by simp at h
 |(n,j)::r,k,h=>by
  have h':List.lookup x ((if(j==NameKind.free&&env.scope.kind== .function&&env.kindOf n==some .cell)=true then(n,NameKind.cell) else(n,j))::(r.map λ(n,k)=>if(k==NameKind.free&&env.scope.kind== .function&&env.kindOf n==some .cell) then(n,NameKind.cell) else(n,k)))=some k:=h;cases aT:x==n with
  |true=>
   refine⟨j,by simp[qa1,aT],?_⟩
   by_cases a8:(j==NameKind.free&&env.scope.kind== .function&&env.kindOf n==some .cell)=true
   ·rw[if_pos a8] at h';simp only[qa1,aT] at h';cases h';simp only[qaQ,beq_iff_eq] at a8;exact .inr ⟨a8.1.1,rfl⟩
   ·rw[if_neg a8] at h';simp only[qa1,aT] at h';cases h';exact .inl rfl
  |false=>
   have a2:List.lookup x (r.map λ(n,k)=>if(k==NameKind.free&&env.scope.kind== .function&&env.kindOf n==some .cell) then(n,NameKind.cell) else(n,k))=some k:=by
    by_cases a8:(j==NameKind.free&&env.scope.kind== .function&&env.kindOf n==some .cell)=true
    ·rw[if_pos a8] at h';simpa only[qa1,aT] using h'
    ·rw[if_neg a8] at h';simpa only[qa1,aT] using h'
   obtain⟨gI,e,q⟩:=Wm a2;exact⟨gI,by simp only[qa1,aT];exact e,q⟩
theorem md{x:Str}{k:NameKind}:∀{names:List (Str×NameKind)},names.lookup x=some k→(x,k)∈names:=λh=>qbB h
theorem ZaH(env:Env):∀(names:List (Str×NameKind))(dL:List (Str×Addr)),
  (∀y∈names,y.2= .free→∃c,env.cells.lookup y.1=some c)→(∀y c,dL.lookup y=some c→env.cells.lookup y=some c)→
  ∃cl:List (Str×Addr),(forIn names dL (λx (r:List (Str×Addr))=>if x.2==NameKind.free then(do let a←cellOf env x.1;pure (ForInStep.yield ((x.1,a)::r))) else pure (ForInStep.yield r)):Sem (List (Str×Addr)))=pure cl∧
   (∀y c,cl.lookup y=some c→env.cells.lookup y=some c)∧(∀y,(∃c,dL.lookup y=some c)∨(y,NameKind.free)∈names→∃c,cl.lookup y=some c)
 | [],dL,_,bx=>⟨dL,rfl,bx,λy h=>h.elim id λz=>absurd z (by simp)⟩
 |(n,k)::r,dL,bv,bx=>by
  have a3:∀y∈r,y.2= .free→∃c,env.cells.lookup y.1=some c:=λy bE=>bv y (qau _ bE)
  by_cases a5:k= .free
  ·subst a5;obtain⟨c,a8⟩:=bv (n,.free) qaY rfl;have gZ:∀y eg,((n,c)::dL).lookup y=some eg→env.cells.lookup y=some eg:=λy eg h=>by
    cases bE:y==n with
    |true=>
     simp only[qa1,bE] at h;cases h;rw[beq_iff_eq.mp bE];exact a8
    |false=>
     simp only[qa1,bE] at h;exact bx y eg h
   obtain⟨cl,e,aS,a2⟩:=ZaH env r ((n,c)::dL) a3 gZ;refine⟨cl,?_,aS,λy h=>a2 y ?_⟩
   ·rw[List.forIn_cons];have:cellOf env n=pure c:=by unfold cellOf;rw[a8]
    simp only[beq_self_eq_true,if_true,this];exact e
   ·rcases h with⟨eg,h⟩|h
    ·cases bE:y==n with
     |true=>exact .inl ⟨c,by simp only[qa1,bE]⟩
     |false=>exact .inl ⟨eg,by simp only[qa1,bE];exact h⟩
    ·rcases qad.mp h with h|h
     ·cases h;exact .inl ⟨c,by simp⟩
     ·exact .inr h
  ·obtain⟨cl,e,aS,a2⟩:=ZaH env r dL a3 bx;refine⟨cl,?_,aS,λy h=>a2 y ?_⟩
   ·rw[List.forIn_cons];have aN:(k==NameKind.free)=false:=by simpa using a5
    simp only[aN,qcb,if_false];exact e
   ·rcases h with h|h
    ·exact .inl h
    ·rcases qad.mp h with h|h
     ·cases h;exact absurd rfl a5
     ·exact .inr h
def PIf(X:Cx)(ifs:List Expr)(t:TT):Prop:=
 ∀(aK:List (Addr×Obj))(s:Shared)(σ:St)(H:Hp)(Q:Bool→Hp→Prop),Inv X aK σ H s→t σ H Q→
  wpAny (model X.prog X.w) X.A (forIn ifs true λc r=>if r=true then do let ok←isTrue c X.env (eval c X.env);pure (ForInStep.yield ok) else pure (ForInStep.yield r)) (TP X aK σ Q) X.xe s
noncomputable def tAll:TT:=λ_ H Q=>Q true H
section
variable {X:Cx}
theorem hG:PIf X [] tAll:=λ_ _ _ H _ I h=>wpAny_pure ⟨H,I,h⟩
theorem rP{c:Expr}{t:TT}(a8:PT X c t):PIf X [c] t:=by
 intro aK s σ H Q I h;rw[List.forIn_cons];simp only[if_true];refine wpAny_bind (wpAny_bind (thn (a8 aK s σ H _ I h) λb a7 q=>wpAny_pure ?_));exact wpAny_pure q
end
section
variable {prog:Program}{w:World}{A:Around}{R:Result→Shared→Prop}{s:Shared}
theorem Zbb{fD target eL:Expr}{ifs:List Expr}{scope:Scope}{pos:Pos}{it dL:Value}{env:Env}(I:Nat→Shared→Prop)
  (turn:∀n s,I n s→wpAny (model prog w) A (pyNext it) (λr eh=>match r with
   |none=>R (.ok .next) eh
   |some v=>wpAny (model prog w) A (letOwnedTupleGo target it v) (λ_ s₀=>wpAny (model prog w) A (assign target env v) (λ_ jZ=>
     wpAny (model prog w) A (forIn ifs true λc r=>if r=true then do let ok←isTrue c env (eval c env);pure (ForInStep.yield ok) else pure (ForInStep.yield r)) (λok jj=>
      if ok=true then wpAny (model prog w) A (eval fD env) (λx ol=>
       wpAny (model prog w) A (call (.builtin "list.append") [dL,x]) (λ_ yH=>∃m,m<n∧I m yH) (λ_ _=>False) ol) (λ_ _=>False) jj
      else ∃m,m<n∧I m jj) (λ_ _=>False) jZ) (λ_ _=>False) s₀) (λ_ _=>False) eh) (λ_ _=>False) s)
  (n:Nat) (h:I n s):
  codeAny (model prog w) A (.compLoop (.ListComp fD [⟨target,eL,ifs,0⟩] scope pos) 0 it dL env) R s:=by
 refine codeAny_loop rfl I (λn s pT=>?_) n h;show wpAny _ A ((compTurn (.ListComp fD [⟨target,eL,ifs,0⟩] scope pos) 0 it dL env).onRaise (λx=>do noteFrame x env;theTreesLotGoes x)) _ _ s;refine wpAny_noted ?_;rw[compTurn_list];refine wpAny_bind (wpAny_standAt (wpAny_bind (wpAny_mono (turn n s pT) (λr eh h₁=>?_) λ_ _ z=>z.elim)));cases r with
 |none=>exact wpAny_pure h₁
 |some v=>
  refine wpAny_bind (wpAny_mono h₁ (λ_ s₀ h₀=>?_) λ_ _ z=>z.elim);refine wpAny_bind (wpAny_mono h₀ (λ_ jZ ug=>wpAny_bind (wpAny_mono ug (λok jj yI=>?_) λ_ _ z=>z.elim)) λ_ _ z=>z.elim);cases ok with
  |false=>exact wpAny_pure ⟨rfl,yI⟩
  |true=>
   exact wpAny_bind (wpAny_bind (wpAny_mono yI (λx ol yJ=>wpAny_bind (wpAny_mono yJ (λ_ yH uh=>wpAny_pure (wpAny_pure ⟨rfl,uh⟩)) λ_ _ z=>z.elim)) λ_ _ z=>z.elim))
end
noncomputable def pU (ix:List Nat) (e0:TI) (g:TG) (d_:TT) (dg:TE):TE:=λσ H Q=>e0 σ H λJ aU=>∀p,aU p=none→
 ∃W:Nat→Nat→List V→St→Hp→Prop,(∃m,W 0 m [] (emb ix σ) (upd aU p (.lst [])))∧∀i m ys bN H',W i m ys bN H'→
  (J.stop i H'∧Q (.ref p) H')∨(J.go i H'∧∀x a4,J.yld i H' x a4→g x bN a4 λdn b_=>d_ dn b_ λb cw=>
   if b=true then dg dn cw λv b3=>b3 p=some (.lst ys)∧ys.length<sizeLine∧∃da,da<m∧W (i+1) da (ys++ [v]) dn (upd b3 p (.lst (ys++ [v])))
   else ∃da,da<m∧W (i+1) da ys dn cw)
section
variable {X:Cx}
theorem Zip{aK:List (Addr×Obj)}{σ:St}{H:Hp}{s:Shared}{b':Scope}{x:Str}{zs:List Str}{ix:List Nat}{cl:List (Str×Addr)}{fp:List Addr}{h₁:Heap}{bL:Nat}
  (S:YG X b' x zs ix) (I:Inv X aK σ H s) (fo:∀y c,cl.lookup y=some c→X.env.cells.lookup y=some c) (hk:∀y,(y,NameKind.free)∈b'.names→∃c,cl.lookup y=some c)
  (hl:∀b∈fp,g9 X aK H b∧b<s.heap.objs.size) (hY:h₁.Ns s.heap.objs.size λ_=>none) (a5:∀b o,s.heap.get? b=some o→h₁.get? b=some o):
  Inv (Zl X b' cl s.heap.objs.size (x::zs) s H fp) [] (emb ix σ) H {s with heap:=h₁,toks:=bL}:=by
 have sub:∀b∈frs X.stack,b∈X.env.locals::X.fs:=I.stkSub;have ui:∀b∈fp,b∉frs X.stack:=λb aN z=>by
  obtain⟨⟨_,f1,f2,_⟩,_⟩:=hl b aN;rcases qad.mp (sub b z) with e|e
  ·exact f1 e
  ·exact f2 e
 have cut:∀y,(Zl X b' cl s.heap.objs.size (x::zs) s H fp).env.kindOf y=some .cell∨(Zl X b' cl s.heap.objs.size (x::zs) s H fp).env.kindOf y=some .free→∃c,cl.lookup y=some c:=λy bE=>by
  have q:∃k,(relabel b' X.env).names.lookup y=some k∧(k= .cell∨k= .free):=by
   rcases bE with bE|bE
   ·exact⟨_,bE,.inl rfl⟩
   ·exact⟨_,bE,.inr rfl⟩
  obtain⟨k,e,a5⟩:=q;obtain⟨gI,b1,q⟩:=Wm e;have:gI= .free:=by
   rcases q with q|⟨q,_⟩
   ·rcases a5 with z|z
    ·exact absurd (q.symm.trans z) (S.nocell _ (md b1))
    ·exact q.symm.trans z
   ·exact q
  subst this;exact hk y (md b1)
 refine⟨⟨I.ok.mod,S.kind,I.ok.glob,I.ok.blt,fm _,λy z c aS a2=>I.ok.inj y z c (fo _ _ aS) (fo _ _ a2),cut,λy c bv _=>?_,I.ok.hd,I.ok.frames,.inl rfl,λb aN=>?_,I.bs,qat I.ok.bsz I.sz,λb o e aN=>?_,ui,I.stack,I.stkFree⟩,
  rfl,I.bare,Un.kept a5,⟨_,hY,λi y v aS a2 bU=>?_⟩,λy c h=>?_,I.hok.fresh (fm _),λy c h=>I.freeC y c (fo y c h),λp bb=>absurd (show p∈([]:List (Addr×Obj)) from bb) (by simp),I.hok.kept a5,?_⟩
 ·exact absurd (show false=true from bv) (by decide)
 ·obtain⟨⟨ef,f1,f2,dR,eH,ev⟩,aJ⟩:=hl b aN;exact⟨qai aJ,λy c h=>eH y c (fo y c h)⟩
 ·obtain⟨⟨ef,f1,f2,dR,eH,ev⟩,aJ⟩:=hl b aN;rcases dR with z|z
  ·exact I.ok.noex b o e z
  ·exact absurd (qaf (Heap.lt_size e) (qat I.ok.bsz z)) (qbe _)
 ·
  cases i with
  |zero=>
   have:(none:Option (Option V))=some (some v)∨(some none:Option (Option V))=some (some v):= .inr a2;rcases this with z|z<;>cases z
  |succ i=>
   have me:zs[i]? =some y:=aS;have hZ:(ix.map λj=>(σ[j]?).join)[i]? =some (some v):=a2;have bx:(ix.map λj=>X.N[j]?)[i]? =some (some y):=by rw[S.at_,qaj,me];rfl
   rw[qaj] at hZ bx;cases e:ix[i]? with
   |none=>rw[e] at hZ;cases hZ
   |some j=>
    rw[e] at hZ bx;have gZ:X.N[j]? =some y:=qam bx;have bj:(σ[j]?).join=some v:=qam hZ;have pV:σ[j]? =some (some v):=by
     cases q:σ[j]? with
     |none=>rw[q] at bj;cases bj
     |some o=>rw[q] at bj;exact congrArg some bj
    obtain⟨m,bF,aJ⟩:=I.loc;have gy:=S.zfree y (qal me);have ll:=S.free _ (md gy) rfl;have cv:Vis X.env.scope y:=by
     rcases ll with z|z
     ·exact .inr (.inl z)
     ·exact .inr (.inr z)
    obtain⟨u,r,q⟩:=aJ j y v gZ pV cv;refine⟨u,r,?_⟩;rcases q with⟨uj,_⟩|⟨_,c,a8,l2⟩
    ·have pW:X.env.kindOf y=some .local:=uj;rcases ll with z|z<;>(rw[z] at pW;cases pW)
    ·obtain⟨eg,k'⟩:=hk y (md gy);have jO:eg=c:=by have:=fo y eg k';rw[a8] at this;exact(qam this).symm
     subst jO;refine .inr ⟨?_,eg,k',?_⟩
     ·have uk:Vis (relabel b' X.env) y:=bU;rcases uk with z|z|z
      ·obtain⟨gI,b1,q⟩:=Wm z;rw[gy] at b1;cases b1;rcases q with q|⟨_,q⟩<;>cases q
      ·exact .inl z
      ·exact .inr z
     ·obtain⟨o,bz,hd⟩:=l2;exact⟨o,a5 _ _ bz,hd⟩
 ·obtain⟨v,o,bz,hd⟩:=I.cell y c (fo y c h);exact⟨v,o,a5 _ _ bz,hd⟩
 ·show(none::ix.map λj=>(σ[j]?).join).length=(x::zs).length;have:=congrArg List.length S.at_;simp only[GE] at this;simp only[List.length_cons,GE,this]
structure Zfb(ok:Cx→Prop)(P:Program)(w:World)(K:Frag)(dr:Expr)(J:It)(fp:List Addr)(it:Addr)(eC:Nat→Heap→Prop):Prop where
 obj:∀i h,eC i h→∀b∈fp,∃o,h.get? b=some o∧∀v,o.data≠ .cell v
 keep:∀i h h',eC i h→(∀b∈fp,∀o,h.get? b=some o→h'.get? b=some o)→eC i h'
 item:∀(X:Cx),X.prog=P→X.w=w→X.K=K→ok X→∀(i:Nat)(aK:List (Addr×Obj))(s:Shared)(σ:St)(H:Hp)(E:Value→Shared→Prop),Inv X aK σ H s→(∀b∈fp,g9 X aK H b)→eC i s.heap→J.go i H→
  wpAny (model P w) X.A (pyNext (.ref it)) (λr a7=>∃u,r=some u∧
   wpAny (model P w) X.A (letOwnedTupleGo dr (.ref it) u) (λ_ bK=>∃x H',Inv X aK σ H' bK∧dq x u∧J.yld i H x H'∧eC (i+1) bK.heap∧∀b∈fp,H' b=none) E a7) E s
 done:∀(X:Cx),X.prog=P→X.w=w→X.K=K→ok X→∀(i:Nat)(aK:List (Addr×Obj))(s:Shared)(σ:St)(H:Hp)(E:Value→Shared→Prop),Inv X aK σ H s→(∀b∈fp,g9 X aK H b)→eC i s.heap→J.stop i H→
  wpAny (model P w) X.A (pyNext (.ref it)) (λr a7=>r=none∧Inv X aK σ H a7) E s
 self:∀(A:Around)(i:Nat)(s:Shared)(Q:Value→Shared→Prop)(E:Value→Shared→Prop),eC i s.heap→Q (.ref it) s→wpAny (model P w) A (pyIter (.ref it)) Q E s
theorem Uf.c{P:Program}{w:World}{K:Frag}{dr:Expr}{J:It}{fp:List Addr}{it:Addr}{eC:Nat→Heap→Prop}(T:Uf P w K dr J fp it eC):Zfb (λX=>X.calm=true) P w K dr J fp it eC:=
 ⟨T.obj,T.keep,T.item,T.done,T.self⟩
def yK(X:Cx)(aK:List (Addr×Obj))(σ:St)(Q:VK)(dL:Value)(C:Addr)(s':Shared):Prop:=
 ∃p H' m,dL=Value.ref p∧s'.heap.Ns C m∧Inv X aK σ H' s'∧g9 X aK H' C∧Q (.ref p) H'
theorem ZaL{aK:List (Addr×Obj)}{σ:St}{H:Hp}{s:Shared}{b':Scope}{x:Str}{zs:List Str}{ix:List Nat}{cl:List (Str×Addr)}{fp:List Addr}{it:Addr}{eC:Nat→Heap→Prop}{J:It}
  {fD dr eL:Expr} {ifs:List Expr} {pos:Pos} {g:TG} {d_:TT} {dg:TE} {Q:VK} {E:Value→Shared→Prop} {RR:Value→Addr→Result→Shared→Prop} {yL:Cx→Prop}
  (a8:∀C N s H,yL (Zl X b' cl C N s H fp)) (S:YG X b' x zs ix) (I:Inv X aK σ H s) (fo:∀y c,cl.lookup y=some c→X.env.cells.lookup y=some c) (hk:∀y,(y,NameKind.free)∈b'.names→∃c,cl.lookup y=some c)
  (T:Zfb yL X.prog X.w X.K dr J fp it eC) (st:eC 0 s.heap) (hl:∀b∈fp,g9 X aK H b)
  (fe:∀C s H,PG (Zl X b' cl C (x::zs) s H fp) dr g∧PIf (Zl X b' cl C (x::zs) s H fp) ifs d_∧PE (Zl X b' cl C (x::zs) s H fp) fD dg)
  (bT:∀p,H p=none→∃W:Nat→Nat→List V→St→Hp→Prop,(∃m,W 0 m [] (emb ix σ) (upd H p (.lst [])))∧∀i m ys bN H',W i m ys bN H'→
   (J.stop i H'∧Q (.ref p) H')∨(J.go i H'∧∀x a4,J.yld i H' x a4→g x bN a4 λdn b_=>d_ dn b_ λb cw=>
    if b=true then dg dn cw λv b3=>b3 p=some (.lst ys)∧ys.length<sizeLine∧∃da,da<m∧W (i+1) da (ys++ [v]) dn (upd b3 p (.lst (ys++ [v])))
    else ∃da,da<m∧W (i+1) da ys dn cw))
  (d5:∀dL C f s',yK X aK σ Q dL C s'→RR dL C (.ok f) s'):
  wpAny (model X.prog X.w) X.A (newList []) (λdL jj=>wpAny (model X.prog X.w) X.A (newFunctionEnv b' X.env.globals cl [] X.env.qual none .none (some X.env)) (λpX ol=>
   codeAny (model X.prog X.w) X.A (.compStart (.ListComp fD [⟨dr,eL,ifs,0⟩] b' pos) 0 (.ref it) dL {pX with scope:=relabel b' X.env}) (RR dL pX.locals) ol) E jj) E s:=by
 refine wpAny_newObj_type (wpAny_newFunctionEnv S.nocell (by intro y bE;simp at bE) (λh₁ hns₁ pY=>?_) S.kind);have en:Inv X aK σ (upd H s.heap.objs.size (.lst [])) {s with heap:=s.heap.push {cls:= .type "list",dict:=none,data:= .seq ([]:List Value).toArray}}:=I.lnew (its:=[]) (ys:=[]) (t':=s.toks) .nil (qav _);dsimp only at hns₁ pY⊢;obtain⟨W,⟨h6,f_⟩,turn⟩:=bT s.heap.objs.size (I.hok.fresh (fm _));have lt:∀b∈fp,b<s.heap.objs.size:=λb aN=>by
  obtain⟨o,e,_⟩:=T.obj 0 s.heap st b aN;exact Heap.lt_size e
 have om:∀b∈fp,∀o,(upd H s.heap.objs.size o) b=H b:=λb aN o=>b2 (qai (lt b aN));have kp:∀b o,(s.heap.push {cls:= .type "list",dict:=none,data:= .seq ([]:List Value).toArray}).get? b=some o→h₁.get? b=some o:=λb o e=>
  pY.extBut b o (qai (Heap.lt_size e)) (Heap.get?_push_of_some _ e)
 have dR:∀b∈fp,g9 X aK (upd H s.heap.objs.size (.lst [])) b∧b<(s.heap.push {cls:= .type "list",dict:=none,data:= .seq ([]:List Value).toArray}).objs.size:=λb aN=>by
  obtain⟨ul,q⟩:=hl b aN;refine⟨⟨(om b aN _).trans ul,q⟩,?_⟩;rw[Heap.size_push];exact qaM (lt b aN)
 generalize kH:({s with heap:=s.heap.push {cls:= .type "list",dict:=none,data:= .seq ([]:List Value).toArray}}:Shared)=bM at en;have pZ:s.heap.push {cls:= .type "list",dict:=none,data:= .seq ([]:List Value).toArray}=bM.heap:=by rw[←kH]
 rw[pZ] at kp dR hns₁⊢;have kB:eC 0 h₁:=T.keep 0 _ _ st λb _ o e=>kp b o (by rw[←pZ];exact Heap.get?_push_of_some _ e);have lv:Inv (Zl X b' cl bM.heap.objs.size (x::zs) bM (upd H s.heap.objs.size (.lst [])) fp) [] (emb ix σ) (upd H s.heap.objs.size (.lst [])) {bM with heap:=h₁,toks:=bM.toks}:=
  Zip S en fo hk dR hns₁ kp
 obtain⟨bc,um,bD⟩:=fe bM.heap.objs.size bM (upd H s.heap.objs.size (.lst []));have nf:∀{H':Hp},(∀b∈fp,H' b=none)→∀b∈fp,g9 (Zl X b' cl bM.heap.objs.size (x::zs) bM (upd H s.heap.objs.size (.lst [])) fp) [] H' b:=λ{H'} bF b aN=>
  ⟨bF b aN,(lv.ok.exf b aN).1,lv.ok.exfs b aN,.inl aN,(lv.ok.exf b aN).2,λp bb=>absurd (show p∈([]:List (Addr×Obj)) from bb) (by simp)⟩
 have p0:∀c_:Shared,c_={bM with heap:=h₁,toks:=bM.toks}→
   codeAny (model X.prog X.w) X.A (.compLoop (.ListComp fD [⟨dr,eL,ifs,0⟩] b' pos) 0 (.ref it) (.ref s.heap.objs.size) (compEnvC b' cl bM.heap.objs.size X.env)) (RR (.ref s.heap.objs.size) bM.heap.objs.size) c_:=by
  rintro c_ rfl;refine Zbb (λn s'=>∃i ys bN H',Inv (Zl X b' cl bM.heap.objs.size (x::zs) bM (upd H s.heap.objs.size (.lst [])) fp) [] bN H' s'∧eC i s'.heap∧(∀b∈fp,H' b=none)∧W i n ys bN H') ?_ h6
   ⟨0,[],emb ix σ,_,lv,kB,λb aN=>(dR b aN).1.1,f_⟩
  rintro n dt ⟨i,ys,lw,b3,jK,lg,iP,uo⟩;rcases turn i n ys lw b3 uo with⟨stop,m3⟩|⟨go,step⟩
  ·refine thn (T.done (Zl X b' cl bM.heap.objs.size (x::zs) bM (upd H s.heap.objs.size (.lst [])) fp) rfl rfl rfl (a8 _ _ _ _) i [] dt lw b3 _ jK (nf iP) lg stop) λr eB ⟨a3,hg⟩=>?_;subst a3;obtain⟨up,p1,_⟩:=hg.loc;refine d5 _ _ _ _ ⟨s.heap.objs.size,b3,up,rfl,p1,?_,en.fpOk (fm _) hg.free,m3⟩;exact en.call' hg.os hg.base hg.hok hg.bare λb aN=>by
    obtain⟨⟨ef,f1,f2,dR,eH,ev⟩,_⟩:=dR b aN;exact⟨dR,f1,eH,ev⟩
  ·refine thn (T.item (Zl X b' cl bM.heap.objs.size (x::zs) bM (upd H s.heap.objs.size (.lst [])) fp) rfl rfl rfl (a8 _ _ _ _) i [] dt lw b3 _ jK (nf iP) lg go) λr eB ⟨u,a3,d2⟩=>?_;subst a3;refine thn d2 λ_ e8 ⟨x7,ed,hW,pB,uq,ng,p2⟩=>?_;have ur:=hW.pinned (nf p2) (T.obj _ _ ng);refine thn (bc _ e8 lw ed x7 u _ ur pB (step x7 ed uq)) λ_ gi ⟨nh,e5,p3,ut⟩=>?_;refine thn (um _ gi nh e5 _ p3 ut) λb g0 ⟨fI,p4,lx⟩=>?_;have again:∀{ni:List V}{bN:St}{H':Hp}{da:Nat}{s':Shared},Inv (Zl X b' cl bM.heap.objs.size (x::zs) bM (upd H s.heap.objs.size (.lst [])) fp) ([]++Zas fp e8.heap) bN H' s'→W (i+1) da ni bN H'→da<n→
     ∃m,m<n∧∃i ys bN H',Inv (Zl X b' cl bM.heap.objs.size (x::zs) bM (upd H s.heap.objs.size (.lst [])) fp) [] bN H' s'∧eC i s'.heap∧(∀b∈fp,H' b=none)∧W i m ys bN H':=λ{ni bN H' da s'} Iz j8 bo=>by
    refine⟨da,bo,i+1,ni,bN,H',Iz.unpinned,T.keep _ _ _ ng λb aN o e=>(Iz.pin (b,o) (qar _ (qar _ (n9 aN e)))).1,λb aN=>?_,j8⟩;obtain⟨o,e,d⟩:=T.obj _ _ ng b aN;exact(Iz.pin (b,o) (qar _ (qar _ (n9 aN e)))).2.1
   cases b with
   |false=>
    rw[if_neg qag] at lx⊢;obtain⟨da,bo,j8⟩:=lx;exact again p4 j8 bo
   |true=>
    rw[if_pos rfl] at lx⊢;refine thn (bD _ g0 nh fI _ p4 lx) λv gK ⟨y,fP,uu,uv,aJ,hz,da,bo,j8⟩=>?_;refine thn (iT _ gK nh fP (.ref s.heap.objs.size) [y] (.ref s.heap.objs.size) [v] (λz H'=>z= .non∧H'=upd fP s.heap.objs.size (.lst (ys++ [y]))) uu rfl (.cons uv .nil) ⟨_,ys,y,rfl,rfl,aJ,hz,rfl,rfl⟩) λ_ jq ⟨z,hH,uw,_,_,ux⟩=>?_;subst ux;exact again uw j8 bo
 exact codeAny_compStart_list (p0 _ (by subst kH;rfl)) (T.self _ 0 _ _ _ kB (p0 _ (by subst kH;rfl)))
theorem WL{b':Scope}{x:Str}{zs:List Str}{ix:List Nat}(ok:X.Ok)(S:YG X b' x zs ix):
  ∃cl,closureFor b' X.env=pure cl∧(∀y c,cl.lookup y=some c→X.env.cells.lookup y=some c)∧∀y,(y,NameKind.free)∈b'.names→∃c,cl.lookup y=some c:=by
 obtain⟨cl,e,aS,a2⟩:=ZaH X.env b'.names [] (λy bE bv=>ok.has y.1 (S.free y bE bv)) (λy c h=>by simp at h);refine⟨cl,?_,aS,λy bE=>a2 y (.inr bE)⟩;unfold closureFor;simp only;rw[e]
 rfl
theorem ly{fD dr eL:Expr}{ifs:List Expr}{b':Scope}{pos:Pos}{x:Str}{zs:List Str}{ix:List Nat}{e0:TI}{g:TG}{d_:TT}{dg:TE}
  (a8:X.calm=true) (S:YG X b' x zs ix) (hi:PI X dr eL e0)
  (fe:∀cl C s H fp,PG (Zl X b' cl C (x::zs) s H fp) dr g∧PIf (Zl X b' cl C (x::zs) s H fp) ifs d_∧PE (Zl X b' cl C (x::zs) s H fp) fD dg)
  (hs:∀x,foldedSetIterable eL X.env x=pure x:=by intro _;rfl):
  PE X (.ListComp fD [⟨dr,eL,ifs,0⟩] b' pos) (pU ix e0 g d_ dg):=by
 intro aK s σ H Q I h;obtain⟨cl,lz,fo,hk⟩:=WL I.ok S;rw[eval_ListComp];refine wpAny_comprehension_free (use:=none) rfl hs lz S.kind S.names (thn (hi aK s σ H _ I h) λv a7 aS=>thn aS λlf bK a2=>?_);obtain⟨it,fp,eC,J,a4,e,ds,T,j2,f2,bT⟩:=a2;subst e;refine ZaL (RR:=λdL C=>compPost (model X.prog X.w) X.A X.xe none (EP X aK σ Q) dL C) (λ_ _ _ _=>a8) S ds fo hk T.c j2 f2 (λC s H=>fe cl C s H fp) bT λdL C f s' h=>?_;obtain⟨p,H',m,rfl,bo,eT,⟨ff,g1,g2,g3,iB,lA⟩,q⟩:=h;exact⟨m,bo,λh' aN=>⟨.ref p,H',eT.turned (t':=s'.toks) (λb o eO e=>(aN.2 b eO).trans e) ff g1 g3 iB lA,rfl,q⟩⟩
theorem Eo{fD dr eL:Expr}{ifs:List Expr}{b':Scope}{pos py p5:Pos}{x y:Str}{zs:List Str}{ix:List Nat}{e0:TI}{g:TG}{d_:TT}{dg:TE}{j:Nat}
  (a8:X.calm=true) (S:YG X b' x zs ix) (hi:PI X dr eL e0)
  (fe:∀cl C s H fp,PG (Zl X b' cl C (x::zs) s H fp) dr g∧PIf (Zl X b' cl C (x::zs) s H fp) ifs d_∧PE (Zl X b' cl C (x::zs) s H fp) fD dg)
  (eG:X.N.Nodup) (bj:X.N[j]? =some y) (bE:Loc X.env.scope y)
  (uy:swapsWith (.ListComp fD [⟨dr,eL,ifs,0⟩] b' pos) (some (.Name y py)) p5.line X.env=pure true:=by rfl)
  (bv:X.fn y=true∨X.env.scope.names.lookup y=some .local:=by first|exact .inl rfl|exact .inr rfl|assumption)
  (hs:∀x,foldedSetIterable eL X.env x=pure x:=by intro _;rfl):
  PS X (.Assign [.Name y py] (.ListComp fD [⟨dr,eL,ifs,0⟩] b' pos) p5) (pp (pU ix e0 g d_ dg) (VB j)):=by
 intro aK s σ H D I h;obtain⟨cl,lz,fo,hk⟩:=WL I.ok S;rw[exec_Assign_Name_used _ _ _ _ uy];refine wpAny_bind (wpAny_standAt (wpAny_bind ?_));show wpAny _ X.A (do let _←comprehension (.ListComp fD [⟨dr,eL,ifs,0⟩] b' pos) b' X.env _ (newList []) false (eval eL X.env) (some (assign (.Name y py) X.env))) _ _ s;refine wpAny_bind (wpAny_mono (wpAny_comprehension_free (use:=some (assign (.Name y py) X.env)) (Q:=λ_ s'=>SP X aK D .next s') rfl hs lz S.kind S.names
  (thn (hi aK s σ H _ I h) λv a7 aS=>thn aS λlf bK a2=>?_)) (λ_ s' bT=>wpAny_pure (wpAny_pure bT)) λ_ _ e=>e)
 obtain⟨it,fp,eC,J,a4,e,ds,T,j2,f2,bT⟩:=a2;subst e;refine ZaL (Q:=λx aU=>VB j x σ aU D.nx) (RR:=λdL C=>compPost (model X.prog X.w) X.A X.xe (some (assign (.Name y py) X.env)) (λ_ s'=>SP X aK D .next s') dL C) (λ_ _ _ _=>a8) S ds fo hk T.c j2 f2 (λC s H=>fe cl C s H fp) bT λdL C f s' h=>?_;obtain⟨p,H',m,rfl,bo,eT,⟨ff,g1,g2,g3,iB,lA⟩,q⟩:=h;show wpAny _ X.A (assign (.Name y py) X.env (.ref p)) _ _ _;refine wpAny_assign_Name (tE eT eG bj bE (show dq (.ref p) (.ref p) from rfl) (λm7 I'' ⟨c,uz,n7⟩=>?_) bv);have eO:C≠c:=by
  rcases n7 with z|z
  ·rw[z];exact g1
  ·exact qbP (iB _ _ z)
 exact⟨m,bo.sameBut uz eO,λh' aN=>⟨_,H',I''.turned (t':=m7.toks) (λb o eO e=>(aN.2 b eO).trans e) ff g1 g3 iB lA,q⟩⟩
end
def ZK(h:Heap)(e:Addr):Prop:=∃o vs,h.get? e=some o∧o.data= .fields vs∧vs[2]? =some Value.none
noncomputable def Kp (P:Heap→Prop) {dA:Type}:Sem dA→Prop
 | .pure _=>True
 | .raise _=>True
 | .unsupported _=>True
 | .finish _=>True
 | .rule _ k=>Kp P (k ())
 | .at _ k=>Kp P (k ())
 | .load _ _ k=>∀o,Kp P (k o)
 | .update a _ f k=>(∀h,P h→P (h.update a f))∧Kp P (k ())
 | .alloc o k=>(∀h,P h→P (h.push o))∧∀a,Kp P (k a)
 | .loadIfAlive _ k=>∀o,Kp P (k o)
 | .point _ k=>Kp P (k ())
 | .ask k=>∀x,Kp P (k x)
 | .stack k=>∀x,Kp P (k x)
 |_=>False
section
variable {dA gp:Type}{P:Heap→Prop}{M:Model}{A:Around}{E:Value→Shared→Prop}{s:Shared}
theorem Kp.wp{rQ:PySem.Ctx}{Q:dA→Pos→Shared→Prop}{E:Value→Pos→Shared→Prop}(t:Sem dA):∀(p:Pos)(s:Shared),Kp P t→P s.heap→Sem.wp M rQ t Q E p s→
  Sem.wp M rQ t (λa p s'=>Q a p s'∧P s'.heap) (λe p s'=>E e p s'∧P s'.heap) p s:=by
 induction t with
 |pure a=>exact λp s _ bb h=>⟨h,bb⟩
 |raise a=>exact λp s _ bb h=>⟨h,bb⟩
 |unsupported w=>exact λp s _ bb h=>h
 |finish w=>exact λp s _ bb h=>h
 |rule _ k bP=>exact λp s a5 bb h=>bP () p s a5 bb h
 | «at» fc k bP=>exact λp s a5 bb h=>bP () fc s a5 bb h
 |load _ _ k bP=>exact λp s a5 bb ⟨o,e,h⟩=>⟨o,e,bP o p s (a5 o) bb h⟩
 |update _ _ _ k bP=>exact λp s a5 bb ⟨e,h⟩=>⟨e,bP () p _ a5.2 (a5.1 _ bb) h⟩
 |alloc _ k bP=>exact λp s a5 bb h=>bP _ p _ (a5.2 _) (a5.1 _ bb) h
 |loadIfAlive _ k bP=>exact λp s a5 bb h=>bP _ p s (a5 _) bb h
 |point _ k bP=>exact λp s a5 bb h=>bP () p s a5 bb h
 |ask k bP=>exact λp s a5 bb h=>bP _ p s (a5 _) bb h
 |stack k bP=>exact λp s a5 bb h=>bP _ p s (a5 _) bb h
 |register=>exact λp s a5 _ _=>False.elim a5
 |fresh=>exact λp s a5 _ _=>False.elim a5
 |choose=>exact λp s a5 _ _=>False.elim a5
 |os=>exact λp s a5 _ _=>False.elim a5
 |call=>exact λp s a5 _ _=>False.elim a5
 |handled=>exact λp s a5 _ _=>False.elim a5
 |newGen=>exact λp s a5 _ _=>False.elim a5
 |genState=>exact λp s a5 _ _=>False.elim a5
 |resume=>exact λp s a5 _ _=>False.elim a5
 |yield=>exact λp s a5 _ _=>False.elim a5
 |fork=>exact λp s a5 _ _=>False.elim a5
 |thread=>exact λp s a5 _ _=>False.elim a5
 |await=>exact λp s a5 _ _=>False.elim a5
theorem Kp.any{t:Sem dA}{Q:dA→Shared→Prop}(k:Kp P t)(bb:P s.heap)(h:wpAny M A t Q E s):wpAny M A t (λa s'=>Q a s'∧P s'.heap) (λe s'=>E e s'∧P s'.heap) s:=λrQ p Ep=>Kp.wp t p s k bb (h rQ p Ep)
theorem Kp.bind{f:dA→Sem gp}(m:Sem dA):Kp P m→(∀a,Kp P (f a))→Kp P (m.bind f):=by
 induction m with
 |pure a=>exact λ_ bv=>bv a
 |raise a=>exact λ_ _=>trivial
 |unsupported w=>exact λ_ _=>trivial
 |finish w=>exact λ_ _=>trivial
 |rule _ k bP=>exact λa5 bv=>bP () a5 bv
 | «at» _ k bP=>exact λa5 bv=>bP () a5 bv
 |load _ _ k bP=>exact λa5 bv o=>bP o (a5 o) bv
 |update _ _ _ k bP=>exact λa5 bv=>⟨a5.1,bP () a5.2 bv⟩
 |alloc _ k bP=>exact λa5 bv=>⟨a5.1,λa=>bP a (a5.2 a) bv⟩
 |loadIfAlive _ k bP=>exact λa5 bv o=>bP o (a5 o) bv
 |point _ k bP=>exact λa5 bv=>bP () a5 bv
 |ask k bP=>exact λa5 bv o=>bP o (a5 o) bv
 |stack k bP=>exact λa5 bv o=>bP o (a5 o) bv
 |register=>exact λa5 _=>False.elim a5
 |fresh=>exact λa5 _=>False.elim a5
 |choose=>exact λa5 _=>False.elim a5
 |os=>exact λa5 _=>False.elim a5
 |call=>exact λa5 _=>False.elim a5
 |handled=>exact λa5 _=>False.elim a5
 |newGen=>exact λa5 _=>False.elim a5
 |genState=>exact λa5 _=>False.elim a5
 |resume=>exact λa5 _=>False.elim a5
 |yield=>exact λa5 _=>False.elim a5
 |fork=>exact λa5 _=>False.elim a5
 |thread=>exact λa5 _=>False.elim a5
 |await=>exact λa5 _=>False.elim a5
theorem Kp.bd{m:Sem dA}{f:dA→Sem gp}(bo:Kp P m)(bv:∀a,Kp P (f a)):Kp P (m >>= f):=Kp.bind m bo bv
theorem Kp.pure(a:dA):Kp P (Pure.pure a:Sem dA):=trivial
theorem Kp.uns(w:String):Kp P (PySem.unsupported w:Sem dA):=trivial
theorem Kp.ite{c:Prop}[Decidable c]{a b:Sem dA}(bx:Kp P a)(aN:Kp P b):Kp P (if c then a else b):=by split<;>assumption
end
section
variable {e:Addr}
theorem ZK.slots{h:Heap}{a:Addr}{g:Obj→Array (Option Value)}(x:ZK h e):ZK (h.update a λo=>{o with slots:=g o}) e:=by
 obtain⟨o,vs,bz,hd,a2⟩:=x
 by_cases bx:a=e
 ·subst bx;exact⟨_,vs,Heap.get?_update_self _ bz (Obj.isFreed_of_fields (vs:=vs) hd),hd,a2⟩
 ·exact⟨o,vs,(Heap.get?_update_other _ _ bx).trans bz,hd,a2⟩
theorem ZK.field{h:Heap}{a:Addr}{i:Nat}{v:Value}(hi:i≠2)(x:ZK h e):ZK (h.update a (Obj.mapFields (·.setIfInBounds i v))) e:=by
 obtain⟨o,vs,bz,hd,a2⟩:=x
 by_cases bx:a=e
 ·subst bx;exact⟨_,_,Heap.get?_update_self _ bz (Obj.isFreed_of_fields (Obj.data_mapFields hd _)),Obj.data_mapFields hd _,by rw[Array.getElem?_setIfInBounds_ne hi];exact a2⟩
 ·exact⟨o,vs,(Heap.get?_update_other _ _ bx).trans bz,hd,a2⟩
theorem ZK.push{h:Heap}{dz:Obj}(x:ZK h e):ZK (h.push dz) e:=
 let⟨o,vs,bz,r⟩:=x;⟨o,vs,Heap.get?_push_of_some _ bz,r⟩
theorem ZK.keeps{h h':Heap}(x:ZK h e)(k:∀o,h.get? e=some o→h'.get? e=some o):ZK h' e:=let⟨o,vs,bz,r⟩:=x;⟨o,vs,k _ bz,r⟩
theorem ZdF{a:Addr}:Kp (λh=>ZK h e) (load a):=λ_=>trivial
theorem Zgt{v:Value}:Kp (λh=>ZK h e) (fieldsOf v):=by
 unfold fieldsOf;cases v<;>first|exact Kp.uns _|skip
 refine Kp.bd ZdF λo=>?_
 split<;>trivial
theorem ZaQ{v:Value}{i:Nat}:Kp (λh=>ZK h e) (field v i):=by
 unfold field;refine Kp.bd Zgt λo=>?_
 split<;>trivial
theorem Zd3{a:Addr}{i:Nat}{x:Value}(hi:i≠2):Kp (λh=>ZK h e) (updateField a i x):=by
 unfold updateField;refine Kp.bd ZdF λo=>?_
 split
 ·split
  ·exact⟨λ_ h=>h.field hi,trivial⟩
  ·trivial
 ·trivial
theorem uA{v:Value}{i:Nat}{x:Value}(hi:i≠2):Kp (λh=>ZK h e) (setField v i x):=by
 unfold setField;cases v<;>first|exact Kp.uns _|exact Zd3 hi
theorem Zjt{env:Env}{outer:List Env}:Kp (λh=>ZK h e) (behindIsImport env outer):=by
 unfold behindIsImport;refine Kp.ite (Kp.pure _) (Kp.ite (Kp.pure _) (Kp.bd ZaQ λ_=>Kp.pure _))
theorem Er:Kp (λh=>ZK h e) underTheClaimsCaller:=by
 unfold underTheClaimsCaller;exact Kp.bd (λ_=>trivial) λ_=>Kp.pure _
theorem Zmc{env:Env}{yM:Bool}{outer:List Env}:Kp (λh=>ZK h e) (keptBack env yM outer):=by
 cases outer with
 |nil=>exact Kp.ite (Kp.pure _) (Kp.bd Er λ_=>Kp.pure _)
 |cons c r=>exact Kp.pure _
theorem yN:∀l:List Env,Kp (λh=>ZK h e) (readyFrames l)
 | []=>Kp.pure _
 |env::outer=>by
  unfold readyFrames;cases env.frame with
  |none=>exact Kp.uns _
  |some f=>
   refine Kp.bd ZdF λo=>?_;refine Kp.ite (Kp.pure _) (Kp.bd Zjt λyM=>Kp.bd Zmc λon=>Kp.bd ⟨λ_ h=>h.slots,trivial⟩ λ_=>yN outer)
theorem Ziq{env:Env}:Kp (λh=>ZK h e) (PySem.frameOf env):=by
 unfold PySem.frameOf;refine Kp.bd (Kp.bd (λ_=>trivial) λ_=>Kp.pure _) λl=>Kp.bd ?_ λo=>?_
 ·generalize (l.dropWhile λx=>x.frame != env.frame)=k;cases k with
  |nil=>exact Kp.pure _
  |cons a r=>exact Kp.bd (yN _) λ_=>Kp.pure _
 ·cases o with
  |none=>exact Kp.uns _
  |some x=>exact Kp.pure _
theorem UE{v:Value}{f:Option Addr}:Kp (λh=>ZK h e) (setFlight v f):=by
 unfold setFlight;refine Kp.bd ZaQ λt=>?_;exact Kp.ite (uA (by decide)) (Kp.pure _)
theorem Zk0{f:Addr}{b:Bool}:Kp (λh=>ZK h e) (entryPlaceOf f b):=by
 unfold entryPlaceOf;refine Kp.bd (λ_=>trivial) λQA=>?_
 split<;>exact Kp.pure _
theorem Zjz{ty:String}{vs:List Value}:Kp (λh=>ZK h e) (newFields ty vs):=by
 unfold newFields newObj;have rR:Kp (λh=>ZK h e) (newObjAsIs (.type ty) (.fields vs.toArray)):=⟨λ_ h=>h.push,λ_=>trivial⟩;dsimp only
 split
 ·exact Kp.uns _
 ·exact rR
theorem Zg7{v:Value}{env:Env}:Kp (λh=>ZK h e) (noteFrame v env):=by
 unfold noteFrame;cases env.frame with
 |none=>exact Kp.uns _
 |some f=>
  have rR:∀hd:Value,Kp (λh=>ZK h e) (do let x←PySem.frameOf env;let pl←entryPlaceOf f (hd != Value.none);let b←EntryCells.newEntry hd x .none (rawInt f) .none pl;setField v 1 b):=λhd=>
   Kp.bd Ziq λx=>Kp.bd Zk0 λpl=>Kp.bd Zjz λb=>uA (by decide)
  refine Kp.bd ZaQ λhd=>?_;refine Kp.ite ?_ (rR hd);refine Kp.bd ZaQ λt=>Kp.ite (Kp.pure _) (Kp.bd (uA (by decide)) λ_=>rR hd)
theorem Zdb{v:Value}{env:Env}:Kp (λh=>ZK h e) (leaving env v):=Kp.bd Zg7 λ_=>UE
section
variable {M:Model}{A:Around}{E:Value→Shared→Prop}{s:Shared}{base:Heap}{l outer:List Env}{env:Env}{L:Addr}{cls a0:Value}{Q:Unit→Shared→Prop}
theorem Kp.to{P R:Heap→Prop}{t:Sem Unit}(k:Kp P t)(bb:P s.heap)(h:wpAny M A t (λ_ s'=>∃h',s'={s with heap:=h'}∧R h') (λ_ _=>False) s)(fA:∀h',R h'→P h'→Q () {s with heap:=h'}):wpAny M A t Q E s:=
 wpAny_mono (k.any bb h) (λ_ _ ⟨⟨h',e,r⟩,p⟩=>by subst e;exact fA h' r p) λ_ _ z=>z.1.elim
theorem Zhz(fQ:ZK s.heap e)(gy:A.frames=some (env::outer))(bv:env.frame=some L)(kI:Heap.FlyingW base (env::outer) e cls a0 s.heap)
  (fA:∀h',Heap.FlyingW base outer e cls a0 h'→s.heap.UpToSlots h'→ZK h' e→Q () {s with heap:=h'}):wpAny M A (leaving env (.ref e)) Q E s:=
 Zdb.to (R:=λh'=>Heap.FlyingW base outer e cls a0 h'∧s.heap.UpToSlots h') fQ (wpAny_leaves_onW gy bv kI λh' a b=>⟨h',rfl,a,b⟩) λh' r p=>fA h' r.1 r.2 p
theorem Zf6{h:Heap}{args:List Value}(gy:A.frames=some (env::outer))(bv:env.frame=some L)(Es:base.StaysIn h)(aJ:h.FunFrames base (env::outer))(aT:Heap.MadeExcOf h s.heap e cls args)
  (fA:∀h' t,Heap.FlyingW base outer e cls (.ref t) h'→h'.TupAt t args→base.get? t=none→s.heap.UpToSlots h'→ZK h' e→Q () {s with heap:=h'}):wpAny M A (leaving env (.ref e)) Q E s:=by
 have fQ:ZK s.heap e:=by
  obtain⟨t,bD,_⟩:=aT.there;exact⟨_,_,bD,rfl,rfl⟩
 exact Zdb.to (R:=λh'=>∃t,Heap.FlyingW base outer e cls (.ref t) h'∧h'.TupAt t args∧base.get? t=none∧s.heap.UpToSlots h') fQ (wpAny_leaves_madeW gy bv Es aJ aT λh' t a b c d=>⟨h',rfl,t,a,b,c,d⟩) λh' ⟨t,a,b,c,d⟩ p=>fA h' t a b c d p
theorem ZjQ(fQ:ZK s.heap e)(gy:A.frames=some (env::outer))(bv:env.frame=some L)(kI:Heap.FlyingW base (env::outer) e cls a0 s.heap)
  (fA:∀h',Heap.HeldW base (env::outer) e cls a0 L h'→s.heap.UpToSlots h'→ZK h' e→Q () {s with heap:=h'}):wpAny M A (noteFrame (.ref e) env) Q E s:=
 Zg7.to (R:=λh'=>Heap.HeldW base (env::outer) e cls a0 L h'∧s.heap.UpToSlots h') fQ (wpAny_looks_onW gy bv kI λh' a b=>⟨h',rfl,a,b⟩) λh' r p=>fA h' r.1 r.2 p
theorem ZnC(fQ:ZK s.heap e)(bV:Heap.HeldW base l e cls a0 L s.heap)(fA:∀h',Heap.FlyingW base l e cls a0 h'→s.heap.UpToSlots h'→ZK h' e→Q () {s with heap:=h'}):wpAny M A (setFlight (.ref e) none) Q E s:=
 UE.to (R:=λh'=>Heap.FlyingW base l e cls a0 h'∧s.heap.UpToSlots h') fQ (wpAny_landsW bV λh' a b=>⟨h',rfl,a,b⟩) λh' r p=>fA h' r.1 r.2 p
theorem Zf9(fQ:ZK s.heap e)(bV:Heap.FlyingW base l e cls a0 s.heap)(fA:∀h',Heap.FlyingW base l e cls a0 h'→s.heap.UpToSlots h'→ZK h' e→Q () {s with heap:=h'}):wpAny M A (setFlight (.ref e) none) Q E s:=
 UE.to (R:=λh'=>Heap.FlyingW base l e cls a0 h'∧s.heap.UpToSlots h') fQ (lands_againW bV λh' a b=>⟨h',rfl,a,b⟩) λh' r p=>fA h' r.1 r.2 p
end
end
noncomputable def CXX (P:Program) (w:World):CXT:=λouter H s E e s'=>
 ∃(ea:Addr)(cls a0:Value)(H':Hp)(B:Heap),e= .ref ea∧s'.os=s.os∧AllBare s'.gens∧Un (frs outer) [] H H' s.heap s'.heap∧HOk P w H' s'.heap∧
  Heap.FlyingW B outer ea cls a0 s'.heap∧(∀b o,s'.heap.get? b=some o→(H' b≠none∨((∃c',s.heap.get? b=some c')∧b∉frs outer))→B.get? b=some o)∧ZK s'.heap ea∧E cls none H'
theorem HOk.stays{P:Program}{w:World}{H:Hp}{h h' B:Heap}(ok:HOk P w H h)(gJ:∀b o,h.get? b=some o→H b≠none→B.get? b=some o)(st:B.StaysIn h'):HOk P w H h':=λa o e=>
 (ok a o e).stay (λb u aN q=>st b u (gJ b u q (by
  rcases aN with rfl|aN
  ·rw[e];exact λz=>nomatch z
  ·rw[aN];exact λz=>nomatch z))) (λ_ q=>q) λ_ _ q=>q
theorem ZP.got{P:Program}{w:World}{H:Hp}{h:Heap}{a:Addr}{o:HO}(x:ZP P w H h a o):∃dz,h.get? a=some dz:=by
 cases o with
 |lst xs=>obtain⟨_,_,_,_,e⟩:=x;exact⟨_,e⟩
 |tup xs=>obtain⟨_,_,_,p⟩:=x;obtain⟨dz,e,_⟩:=p;exact⟨dz,e⟩
 |dK kvs=>obtain⟨_,_,_,_,o,_,_,e,_⟩:=x;exact⟨o,e⟩
 |dT kvs=>obtain⟨_,_,_,_,o,_,_,e,_⟩:=x;exact⟨o,e⟩
 |set S n=>obtain⟨o,_,_,_,e,_⟩:=x;exact⟨o,e⟩
 |ins C a_ fs=>obtain⟨_,_,_,e,_⟩:=x;exact⟨_,e⟩
 |own y=>exact x
 |xd fs=>obtain⟨_,⟨o,_,_,e,_⟩,_⟩:=x;exact⟨o,e⟩
 |rng lo hi=>obtain⟨_,_,_,e⟩:=x;exact⟨_,e⟩
 |frz dz u=>obtain⟨e,_⟩:=x;exact⟨dz,e⟩
 |tbl ps=>exact⟨_,(show h.get? a=some _ from x)⟩
 |met f y=>exact⟨_,(show h.get? a=some _ from x)⟩
 |ext mV=>obtain⟨_,e,_⟩:=x;exact e
theorem Un.fly{fs:List Addr}{H H':Hp}{h aS a2 B:Heap}(u:Un fs [] H H' h aS)(gJ:∀b o,aS.get? b=some o→(H' b≠none∨((∃c',h.get? b=some c')∧b∉fs))→B.get? b=some o)
  (st:B.StaysIn a2) (sl:aS.UpToSlots a2) (bv:∀b∈fs,∀o,h.get? b=some o→∀vs,o.data≠ .fields vs) (ph:∀b∈fs,H b=none):Un fs [] H H' h a2 where
 keep:=λb o e n aN aT=>st b o (gJ b o (u.keep b o e n aN aT) (.inr ⟨⟨_,e⟩,aN⟩))
 slot:=λb o e n aN aT=>by
  obtain⟨a7,bw⟩:=u.slot b o e n aN aT;obtain⟨bK,bC⟩:=sl b _ bw (bv b aN o e);exact⟨bK,bC⟩
 free:=u.free
 there:=λb o e aT=>by
  by_cases aN:b∈fs
  ·obtain⟨a7,bw⟩:=u.slot b o e (ph b aN) aN aT;obtain⟨bK,bC⟩:=sl b _ bw (bv b aN o e);exact⟨_,bC⟩
  ·obtain⟨c',bw⟩:=u.there b o e aT;exact⟨c',st b c' (gJ b c' bw (.inr ⟨⟨_,e⟩,aN⟩))⟩
 tups:=u.tups
 frzs:=u.frzs
 tbls:=u.tbls
section
variable {P:Program}{w:World}{K:Frag}{mg:Str→Option Value}{base:Heap}{N:List Str}{qual:Str}{scope:Scope}{f:Addr}{cd:Value}{A:Around}{outer:List Env}{s₀:Shared}{H₀:Hp}{E:XK}
noncomputable abbrev cxX (P:Program) (w:World) (K:Frag) (mg:Str→Option Value) (base:Heap) (N:List Str) (qual:Str) (scope:Scope) (f:Addr) (cd:Value) (A:Around) (outer:List Env) (s₀:Shared) (H₀:Hp) (E:XK):Cx:=
 ZJ (CXX P w) P w K mg base N qual scope f cd A outer s₀ H₀ E
theorem ZkY{aK:List (Addr×Obj)}{σ:St}{H H':Hp}{s s':Shared}{ea:Addr}{cls a0:Value}{B:Heap}(I:Inv (cxX P w K mg base N qual scope f cd A outer s₀ H₀ E) aK σ H s)
  (os:s'.os=s.os) (bare:AllBare s'.gens) (u:Un (frs (cxX P w K mg base N qual scope f cd A outer s₀ H₀ E).stack) [] H H' s.heap s'.heap) (ok:HOk P w H' s'.heap)
  (fl:Heap.FlyingW B (cxX P w K mg base N qual scope f cd A outer s₀ H₀ E).stack ea cls a0 s'.heap)
  (gJ:∀b o,s'.heap.get? b=some o→(H' b≠none∨((∃c',s.heap.get? b=some c')∧b∉frs (cxX P w K mg base N qual scope f cd A outer s₀ H₀ E).stack))→B.get? b=some o) (fQ:ZK s'.heap ea) (q:E cls none H'):
  (cxX P w K mg base N qual scope f cd A outer s₀ H₀ E).xe (.ref ea) s':=by
 have gy:(A.deeper (envOfC qual scope s₀.heap.objs.size f cd)).frames=some (envOfC qual scope s₀.heap.objs.size f cd::outer):=I.ok.frames;refine Zhz fQ (L:=s₀.heap.objs.size) gy rfl fl λa2 rS sl uB=>?_;have below:∀b o,s₀.heap.get? b=some o→b∉frs outer→(∃c',s.heap.get? b=some c')∧b∉frs (cxX P w K mg base N qual scope f cd A outer s₀ H₀ E).stack:=λb o e bF=>
  ⟨I.base.there b o e (by intro z;exact absurd (show b∈([]:List Addr) from z) (by simp)),λz=>by
   rcases qad.mp (I.stkSub b z) with q|q
   ·have aN:=Heap.lt_size e;have h5:b=s₀.heap.objs.size:=q;rw[h5] at aN;exact qbe _ aN
   ·exact bF q⟩
 have iD:Un (frs outer) [] H₀ H' s₀.heap s'.heap:=by
  have b0:Un (frs outer) [] H₀ H s₀.heap s.heap:=I.base;refine⟨λb o e n aN aT=>?_,λb o e n aN aT=>?_,λb o e n aT=>?_,λb o e aT=>?_,λb xs e=>u.tups b xs (b0.tups b xs e),λb o v e=>u.frzs b o v (b0.frzs b o v e),λb ps e=>?_⟩
  ·exact u.keep b o (b0.keep b o e n aN aT) (b0.free b o e n aT) (below b o e aN).2 aT
  ·obtain⟨a7,bw⟩:=b0.slot b o e n aN aT;obtain⟨bK,bC⟩:=u.any bw (b0.free b o e n aT) aT;exact⟨bK,bC⟩
  ·obtain⟨c',bw⟩:=b0.there b o e aT;exact u.free b c' bw (b0.free b o e n aT) aT
  ·obtain⟨c',bw⟩:=b0.there b o e aT;exact u.there b c' bw aT
  ·obtain⟨hD,bw⟩:=b0.tbls b ps e;obtain⟨il,bC⟩:=u.tbls b _ bw;exact⟨hD++il,by rw[bC,Array.append_assoc]⟩
 have yO:∀b o,s'.heap.get? b=some o→(H' b≠none∨((∃c',s₀.heap.get? b=some c')∧b∉frs outer))→B.get? b=some o:=λb o e h=>gJ b o e (h.imp id λ⟨⟨c',z⟩,bF⟩=>below b c' z bF);have Et:HOk P w H' a2:=ok.stays (λb o e n=>gJ b o e (.inl n)) rS.1;refine⟨ea,cls,a0,H',B,rfl,os.trans I.os,bare,iD.fly yO rS.1 sl (λb aN o e=>?_) (I.ok.frf),Et,rS,λb o e h=>?_,uB,q⟩
 ·obtain⟨_,c',b1,d⟩:=I.ok.funs.mem aN;have p6:s₀.heap.get? b=some c':=b1;rw[e] at p6;cases p6;exact d
 ·have ex:∃c',s'.heap.get? b=some c':=by
   rcases h with h|⟨h,bF⟩
   ·cases dI:H' b with
    |none=>exact absurd dI h
    |some v=>exact(ok b v dI).got
   ·obtain⟨uC,pu⟩:=h;exact iD.there b uC pu (by simp)
  obtain⟨c',b1⟩:=ex;have bC:=yO b c' b1 h;have dP:=rS.1 b c' bC;have g4:a2.get? b=some o:=e;rw[dP] at g4;cases g4;exact bC
theorem dw:YX (CXX P w) (cxX P w K mg base N qual scope f cd A outer s₀ H₀ E) E:=by
 intro aK σ H s e s' I h;obtain⟨ea,cls,a0,H',B,rfl,os,bare,u,ok,fl,gJ,fQ,q⟩:=h;exact ZkY I os bare u ok fl gJ fQ q
noncomputable def uD (cls:Value) (E:XK) (t:TA):TS:=λ_ σ H=>t σ H λvs aU=>vs.length≤sizeLine∧E cls none aU
theorem Zjd{aK:List (Addr×Obj)}{σ:St}{H:Hp}{s:Shared}{h':Heap}{ea:Addr}{cls:Value}{us:List Value}(I:Inv (cxX P w K mg base N qual scope f cd A outer s₀ H₀ E) aK σ H s)
  (aT:Heap.MadeExcOf s.heap h' ea cls us) (q:E cls none H):(cxX P w K mg base N qual scope f cd A outer s₀ H₀ E).xe (.ref ea) {s with heap:=h'}:=by
 have gy:(A.deeper (envOfC qual scope s₀.heap.objs.size f cd)).frames=some (envOfC qual scope s₀.heap.objs.size f cd::outer):=I.ok.frames;have fe:∀env∈(cxX P w K mg base N qual scope f cd A outer s₀ H₀ E).stack,∀b,env.frame=some b→b∈frs (cxX P w K mg base N qual scope f cd A outer s₀ H₀ E).stack:=λenv bD b aN=>List.mem_filterMap.mpr ⟨env,bD,aN⟩;have inB:∀b o,s.heap.get? b=some o→(H b≠none∨((∃c',s₀.heap.get? b=some c')∧b∉frs outer))→(hideAll s.heap (frs (cxX P w K mg base N qual scope f cd A outer s₀ H₀ E).stack)).get? b=some o:=λb o e h=>
  hideAll_get _ e λz=>by
   rcases h with h|⟨⟨c',b1⟩,bF⟩
   ·exact h (I.stkFree b z)
   ·rcases qad.mp (I.stkSub b z) with q|q
    ·have aN:=Heap.lt_size b1;have h5:b=s₀.heap.objs.size:=q;rw[h5] at aN;exact qbe _ aN
    ·exact bF q
 refine Zf6 (base:=hideAll s.heap (frs (cxX P w K mg base N qual scope f cd A outer s₀ H₀ E).stack)) (h:=s.heap) (L:=s₀.heap.objs.size) gy rfl (λb o e=>of_hideAll _ e) (PySem.W.funFrames_hide I.stack fe) aT λbU t fl _ _ sl Eu=>?_;have pe:s.heap.UpToSlots bU:=(Heap.UpToSlots.of_keeps aT.keeps).trans sl;have b0:Un (frs outer) [] H₀ H s₀.heap s.heap:=I.base;have Ev:HOk P w H bU:=I.hok.stays (λb o e n=>inB b o e (.inl n)) fl.1;refine⟨ea,cls,_,H,_,rfl,I.os,I.bare,b0.fly inB fl.1 pe (λb aN o e=>?_) I.ok.frf,Ev,fl,λb o e h=>?_,Eu,q⟩
 ·obtain⟨_,c',b1,d⟩:=I.ok.funs.mem aN;have p6:s₀.heap.get? b=some c':=b1;rw[e] at p6;cases p6;exact d
 ·have ex:∃c',s.heap.get? b=some c':=by
   rcases h with h|⟨⟨uC,pu⟩,_⟩
   ·cases dI:H b with
    |none=>exact absurd dI h
    |some v=>exact(I.hok b v dI).got
   ·exact b0.there b uC pu (by simp)
  obtain⟨c',b1⟩:=ex;have bC:=inB b c' b1 h;have dP:=fl.1 b c' bC;have g4:bU.get? b=some o:=e;rw[dP] at g4;cases g4;exact bC
theorem Zkd{x:Str}{nj eb pos:Pos}{lB:Expr}{rest:List Expr}{t:TA}{C:Addr}{B mf uE:String}{bm:List Value}(O:OwnCls x C bm mf mg base)(FB:ExcBaseFacts B mf uE bm)
  (bc:Gl (cxX P w K mg base N qual scope f cd A outer s₀ H₀ E) x) (bx:PA (cxX P w K mg base N qual scope f cd A outer s₀ H₀ E) (lB::rest) t)
  (bD:starEach (lB::rest) (cxX P w K mg base N qual scope f cd A outer s₀ H₀ E).env=(false,eval lB (cxX P w K mg base N qual scope f cd A outer s₀ H₀ E).env)::starEach rest (cxX P w K mg base N qual scope f cd A outer s₀ H₀ E).env:=by rfl)
  (m_:(backTo eb (starEach rest (cxX P w K mg base N qual scope f cd A outer s₀ H₀ E).env)).any (·.1)=false:=by rfl) (f':(x==("__debug__" :Str))=false:=by decide):
  PS (cxX P w K mg base N qual scope f cd A outer s₀ H₀ E) (.Raise (some (.Call (.Name x nj) (lB::rest) [] eb)) none pos) (uD (.ref C) E t):=by
 intro aK s σ H D I h;obtain⟨ei,Ew,nm,q,bs,hdct,sn,sub,ab,col,dd,k0,k1,k2,k3,k5,mN,mh,eG,rT,T⟩:=O.obj;refine wpAny_Raise_call_subT (C:=C) (nm:=nm) (q:=q) (N:=Ew) (bs:=bs) (bm:=ei) (hdct:=hdct) (sn:=sn) (sub:=sub) (ab:=ab) (col:=col) (dd:=dd) (k0:=k0) (k1:=k1) (k2:=k2) (k3:=k3) (k5:=k5)
  FB (mN:=mN) (T.hasType FB.hasBase) (I.ok.hd rfl) (by rw[bD];show(false||(backTo eb (starEach rest (cxX P w K mg base N qual scope f cd A outer s₀ H₀ E).env)).any (·.1))=false;rw[m_];rfl) rT (l3 I bc O.bound ⟨rfl,?_⟩ f')
 have h':=bx eb aK s σ H _ I h;rw[bD] at h'⊢;refine Calls.evalArgs_plain (thn h' λus bK ⟨vs,a4,ds,r,hz,dI⟩=>⟨rfl,by rw[←r.length];exact hz,ds.bk _ _ mh,eG.keeps ds.bk,T.keeps ds.bk,λbU e bo=>Zjd ds bo dI⟩)
end
mutual
inductive gd(K:Frag)(H:Hp):V→PyData→Prop
 |non:gd K H .non .none
 |bl (b:Bool):gd K H (.bl b) (.bool b)
 |int (i:Int):gd K H (.int i) (.int i)
 |str (x:Str):gd K H (.str x) (.str x)
 |lst {a:Addr} {xs:List V} {b4:List PyData} (h:SqL K H a xs) (r:DRels K H xs b4):gd K H (.ref a) (.list b4)
 |tup {a:Addr} {xs:List V} {b4:List PyData} (h:SqT K H a xs) (r:DRels K H xs b4):gd K H (.ref a) (.tuple b4)
inductive DRels(K:Frag)(H:Hp):List V→List PyData→Prop
 |nil:DRels K H [] []
 |cons {x:V} {d:PyData} {xs:List V} {b4:List PyData} (h:gd K H x d) (r:DRels K H xs b4):DRels K H (x::xs) (d::b4)
end
theorem DRels.ints{K:Frag}{H:Hp}:∀ns:List Int,DRels K H (ns.map V.int) (ns.map PyData.int)
 | []=> .nil
 |n::ns=> .cons (.int n) (DRels.ints ns)
section
variable {X:Cx}{aK:List (Addr×Obj)}{σ:St}{H:Hp}{s:Shared}
mutual
theorem gd.reads(I:Inv X aK σ H s):∀{x:V}{d:PyData}{v:Value},gd X.K H x d→dq x v→∃as,Reads s.heap v d as
 |_,_,_,.non,r=>by cases (show _=Value.none from r);exact⟨_,.none⟩
 |_,_,_,.bl b,r=>by cases (show _=Value.bool b from r);exact⟨_,.bool b⟩
 |_,_,_,.int i,r=>by obtain⟨t,e⟩:=r;cases e;exact⟨_,.int i t⟩
 |_,_,_,.str x,r=>by obtain⟨t,e⟩:=r;cases e;exact⟨_,.str x t⟩
 |_,_,_,.lst (a:=a) h rs,r=>by
  cases (show _=Value.ref a from r);obtain⟨its,dC,p,hz⟩:=I.list h;obtain⟨o,bz,a8,n,hd⟩:=p.isList;obtain⟨as,q⟩:=DRels.reads I rs dC;exact⟨_,.list bz a8 hd (by simpa using q)⟩
 |_,_,_,.tup (a:=a) h rs,r=>by
  cases (show _=Value.ref a from r);obtain⟨its,dC,p,hz⟩:=I.tuple h;obtain⟨o,bz,a8,n,hd⟩:=(show s.heap.IsTuple a its.toArray from p);obtain⟨as,q⟩:=DRels.reads I rs dC;exact⟨_,.tuple bz a8 hd (by simpa using q)⟩
theorem DRels.reads(I:Inv X aK σ H s):∀{xs:List V}{b4:List PyData}{vs:List Value},DRels X.K H xs b4→dm xs vs→∃as,ReadsAll s.heap vs b4 as
 |_,_,_,.nil,.nil=>⟨_,.nil⟩
 |_,_,_,.cons h r,.cons q t=>by
  obtain⟨as,e⟩:=gd.reads I h q;obtain⟨bs,b1⟩:=DRels.reads I r t;exact⟨_,.cons e b1⟩
end
end
noncomputable def mi (K:Frag) (neg:Bool):R2:=λx y H Q=>∃a_ hI,gd K H x a_∧gd K H y hI∧a_.canLay0=true∧hI.canLay0=true∧a_.depth≤60∧Q (.bl (if neg then !PyData.eqv a_ hI else PyData.eqv a_ hI)) H
section
variable {X:Cx}
theorem Ey(hu:X.A.units+64<cLine):OpR X (compareOp .Eq) (mi X.K false):=by
 intro aK s σ H x y v u Q I bO c9 h;obtain⟨a_,hI,aS,a2,c1,c2,dp,q⟩:=h;obtain⟨as,df⟩:=aS.reads I bO;obtain⟨bs,dO⟩:=a2.reads I c9;exact SeqAt.compareEq_reads df dO c1 c2 (by have:min a_.depth hI.depth≤a_.depth:=Nat.min_le_left _ _;omega) ⟨.bl _,H,I,rfl,q⟩
theorem Ez(hu:X.A.units+64<cLine):OpR X (compareOp .NotEq) (mi X.K true):=by
 intro aK s σ H x y v u Q I bO c9 h;obtain⟨a_,hI,aS,a2,c1,c2,dp,q⟩:=h;obtain⟨as,df⟩:=aS.reads I bO;obtain⟨bs,dO⟩:=a2.reads I c9;exact SeqAt.compareNe_reads df dO c1 c2 (by have:min a_.depth hI.depth≤a_.depth:=Nat.min_le_left _ _;omega) ⟨.bl _,H,I,rfl,q⟩
end
section
variable {prog:Program}{w:World}{A:Around}{E:Value→Shared→Prop}
variable {s:Shared}
end
section
variable {X:Cx}{pos:Pos}
end
section
variable {P:Program}{w:World}{K:Frag}{mg:Str→Option Value}{base:Heap}
theorem Fun.okX{x qual:Str}{st:Stmt}{f:Addr}{fd:FuncData}{N ps:List Str}{k:Nat}{sp:Sp}(F:Fun K x qual st f fd)(S:Zo N ps (dh st))(len:∀vs H Q E,sp vs H Q E→vs.length=ps.length)
  (m8:∀(di:Value)(A:Around)(outer:List Env)(s:Shared)(H:Hp)(vs:List V)(Q:VK)(E:XK),e2 k (A.deeper (envOfC qual (dh st) s.heap.objs.size f di))→sp vs H Q E→
   ∃t,PSs (cxX P w K mg base N qual (dh st) f di A outer s H E) (iV st) t∧t {nx:=λ_ H'=>Q .non H',rt:=Q} (start N vs) H):Ys P w K mg base (CXX P w) (k+1) f fd ps sp:=by
 obtain⟨fM,eR,kV,fH,e3,an,di,ct,g_,rfl,lk,im⟩:=F.ex;exact ZlE lk im S len λA outer s H vs Q E a3 ip=>m8 di A outer s H vs Q E a3 ip
theorem Vu{X:Cx}:YX (CXX X.prog X.w) X E0:=by
 intro aK σ H s e s' I h;obtain⟨ea,cls,a0,H',B,_,_,_,_,_,_,_,_,z⟩:=h;exact z.elim
end
section
variable {X:Cx}
noncomputable def rOr (r dX:R2):R2:=λx y H Q=>r x y H Q∨dX x y H Q
noncomputable def uF:R2:=λx y H Q=>∃i j,x= .str i∧y= .str j∧i.length+j.length≤sizeLine∧Q (.str (i++j)) H
noncomputable def rV:R2:=rI0 λi j=> .int (i+j)
noncomputable def ZhC:R2:=rI (λi j=>IntMulOk i j) λi j=> .int (i*j)
theorem EA:OpR X (binaryOp .Add) (rOr rV (rOr uF (rOr rCat (pM X.K)))):=Dz.or (DF.or (D3.or DQ))
theorem jP:OpR X (binaryOp .Mult) (rOr ZhC rRep):=Em.or D4
theorem ZnK(hu:X.A.units+64<cLine):OpR X (compareOp .Eq) (rOr rEq (mi X.K false)):=DB.or (Ey hu)
theorem ZmU(hu:X.A.units+64<cLine):OpR X (compareOp .NotEq) (rOr rNe (mi X.K true)):=DC.or (Ez hu)
end
namespace Rd
section
variable {σ:St}{H:Hp}{Q:VK}{D:Ends}{K:Frag}{dX:R2}
theorem Zpa{i j:Int}(q:Q (.int (i+j)) H):rOr rV dX (.int i) (.int j) H Q:= .inl ⟨i,j,rfl,rfl,q⟩
theorem ZdP{df dO:R2}{a b:Addr}{xs ys:List V}(bx:H a=some (.lst xs))(aN:H b=some (.lst ys))(aJ:xs.length+ys.length≤sizeLine)(q:∀p,H p=none→Q (.ref p) (upd H p (.lst (xs++ys)))):
  rOr df (rOr dO (rOr rCat dX)) (.ref a) (.ref b) H Q:= .inr (.inr (.inl ⟨a,b,xs,ys,rfl,rfl,bx,aN,aJ,q⟩))
theorem ZoQ{i j:Int}(c:IntMulOk i j)(q:Q (.int (i*j)) H):rOr ZhC dX (.int i) (.int j) H Q:= .inl ⟨i,j,rfl,rfl,c,q⟩
theorem ZoR{i j:Int}(q:Q (.bl (decide (i=j))) H):rOr rEq dX (.int i) (.int j) H Q:= .inl (eqI q)
theorem Zo1{i j:Int}(q:Q (.bl (!decide (i=j))) H):rOr rNe dX (.int i) (.int j) H Q:= .inl (neI q)
theorem Znc{x y:V}{a_ hI:PyData}(aT:gd K H x a_)(bE:gd K H y hI)(rW:a_.canLay0=true)(cy:hI.canLay0=true)(dp:a_.depth≤60)(q:Q (.bl (PyData.eqv a_ hI)) H):rOr rEq (mi K false) x y H Q:=
 .inr ⟨a_,hI,aT,bE,rW,cy,dp,q⟩
theorem Zko{x y:V}{a_ hI:PyData}(aT:gd K H x a_)(bE:gd K H y hI)(rW:a_.canLay0=true)(cy:hI.canLay0=true)(dp:a_.depth≤60)(q:Q (.bl (!PyData.eqv a_ hI)) H):rOr rNe (mi K true) x y H Q:=
 .inr ⟨a_,hI,aT,bE,rW,cy,dp,q⟩
theorem Znl{p:Addr}{xs:List V}{i:Int}{v:V}(h:SqL K H p xs)(e:atI xs i=some v)(q:Q v H):rIx K (.ref p) (.int i) H Q:= .inl (ixl h e q)
theorem Zpi{p:Addr}{xs:List V}{i:Int}{v:V}(h:SqT K H p xs)(e:atI xs i=some v)(q:Q v H):rIx K (.ref p) (.int i) H Q:= .inr (.inl (ixt h e q))
theorem ZoX{C:Nat→Prop}{p:Addr}{xs:List V}(h:SqL K H p xs)(q:C xs.length):∃x n,[V.ref p]=[x]∧ZcJ K x H n∧C n:=⟨_,_,rfl,.inl ⟨xs,h,rfl⟩,q⟩
theorem lenS{C:Nat→Prop}{y:Str}(h:y.length≤sizeLine)(q:C y.length):∃x n,[V.str y]=[x]∧ZcJ K x H n∧C n:=⟨_,_,rfl,⟨h,rfl⟩,q⟩
theorem ZnZ{i:Nat}{v:V}{bN:St}{Q:St→Hp→Prop}(e:σ.set i (some v)=bN)(h:Q bN H):VB i v σ H Q:=by
 subst e;exact h
theorem ifP{c A B:Prop}[Decidable c](h:c)(a:A):if decide c=true then A else B:=by rw[decide_eq_true h];exact ZdB a
theorem ifN{c A B:Prop}[Decidable c](h:¬c)(b:B):if decide c=true then A else B:=by rw[decide_eq_false h];exact ZdH b
theorem Zpc{c A B:Prop}[Decidable c](h:c)(b:B):if(!decide c)=true then A else B:=by rw[decide_eq_true h];exact ZdH b
theorem ZoD{c A B:Prop}[Decidable c](h:¬c)(a:A):if(!decide c)=true then A else B:=by rw[decide_eq_false h];exact ZdB a
theorem ZoW{b:Bool}{C:Bool→Prop}(q:C b):∃k,pD K (.bl b) H k∧C k:=⟨b,rfl,q⟩
end
end Rd
namespace Rd
section
variable {H:Hp}{C:Bool→Prop}{K:Frag}
theorem Zhy{i:Int}(q:C true):∃x hV t b,[V.int i,.ty "int"]=[x,.ty hV]∧Wv K H x t∧PySem.W.kitOne K t (.type hV)=some b∧C b:=⟨_,_,_,true,rfl,.int i,rfl,q⟩
theorem ZgJ{i:Int}(q:C false):∃x hV t b,[V.int i,.ty "bool"]=[x,.ty hV]∧Wv K H x t∧PySem.W.kitOne K t (.type hV)=some b∧C b:=⟨_,_,_,false,rfl,.int i,rfl,q⟩
theorem ZhD{i:Str}(q:C true):∃x hV t b,[V.str i,.ty "str"]=[x,.ty hV]∧Wv K H x t∧PySem.W.kitOne K t (.type hV)=some b∧C b:=⟨_,_,_,true,rfl,.str i,rfl,q⟩
end
end Rd
noncomputable def Zhi (p7 b':Scope) (N zs:List Str) (ix:List Nat):Bool:=
 decide (b'.kind= .function)&&(b'.names.all λy=>decide (y.2≠ .cell))&&(b'.names.all λy=>decide (y.2= .local→b'.names.lookup y.1=some .local))&&
 (b'.names.all λy=>decide (y.2= .free→p7.names.lookup y.1=some .cell∨p7.names.lookup y.1=some .free))&&(zs.all λz=>decide (b'.names.lookup z=some .free))&&decide (ix.map (λj=>N[j]?)=zs.map some)
theorem gL{X:Cx}{b':Scope}{x:Str}{zs:List Str}{ix:List Nat}(p7:Scope)(N:List Str)(bw:X.env.scope=p7)(bC:X.N=N)(h:Zhi p7 b' N zs ix=true):YG X b' x zs ix:=by
 unfold Zhi at h;simp only[qaQ,qbl,decide_eq_true_eq] at h;obtain⟨⟨⟨⟨⟨aS,a2⟩,bU⟩,dD⟩,eM⟩,d2⟩:=h;subst bw bC;exact⟨aS,a2,bU,dD,eM,d2⟩
def Zae(CX:CXT)(X:Cx)(J:St→Prop)(E:XK):Prop:=∀(aK:List (Addr×Obj))(σ:St)(H:Hp)(s:Shared)(e:Value)(s':Shared),J σ→Inv X aK σ H s→CX X.stack H s E e s'→X.xe e s'
noncomputable def Zdg (J:St→Prop) (C:Addr) (m:Str) (sp:Sp) (ew:List V) (E:XK) (bA:TE) (t:TA):TE:=λσ H Q=>J σ∧bA σ H λx aU=>∃a a_ fs,x= .ref a∧aU a=some (.ins C a_ fs)∧fs.lookup m=none∧
 t σ aU λvs a4=>sp (x::(vs++ew)) a4 Q E
noncomputable def Zfr (J:St→Prop) (C:Addr) (sp:Sp) (ew:List V) (E:XK) (t:TA):TE:=λσ H Q=>J σ∧t σ H λvs aU=>∀x a_,aU x=none→aU a_=none→a_≠x→
 sp (.ref x::(vs++ew)) (upd (upd aU a_ (.own x)) x (.ins C a_ [])) (λv a4=>v= .non∧Q (.ref x) a4) E
section
variable {X:Cx}{CX:CXT}{k:Nat}{f C:Addr}{fd:FuncData}{ps:List Str}{sp:Sp}{ew:List V}{b4:List Value}{E:XK}{J:St→Prop}{x m:Str}{p pos dV:Pos}{e o:Expr}{a':List Expr}{bA:TE}{t:TA}
def Zmu(CX:CXT)(X:Cx)(σ:St)(E:XK):Prop:=∀(aK:List (Addr×Obj))(H:Hp)(s:Shared)(e:Value)(s':Shared),Inv X aK σ H s→CX X.stack H s E e s'→X.xe e s'
theorem Zo0{aK:List (Addr×Obj)}{σ:St}{H:Hp}{s:Shared}{Q:VK}{us:List Value}{vs:List V}(F:Ys X.prog X.w X.K X.mg X.base CX k f fd ps sp)(a3:e2 k X.A)(aN:Wd X.K fd ps b4)(hd:dm ew b4)(aT:Zmu CX X σ E)
  (I:Inv X aK σ H s) (r:dm vs us) (h:sp (vs++ew) H Q E):wpAny (model X.prog X.w) X.A (call (.ref f) us) (EP X aK σ Q) X.xe s:=by
 have dO:dm (vs++ew) (us++b4):=r.append hd;have aJ:(us++b4).length=ps.length:=by rw[←dO.length];exact F.len _ _ _ _ h
 refine wpAny_call (codeAny_mono (F.run X.A X.stack s H ⟨us,[]⟩ (us++b4) (vs++ew) Q E a3 I.env0 (aN s us I.kIn aJ) dO h) λr s' bT=>?_);cases r with
 |error e=>exact aT aK H s e s' I bT
 |ok fl=>
  cases fl with
  |ret u=>exact I.after bT
  |next=>exact False.elim bT
  |brk=>exact False.elim bT
  |cont=>exact False.elim bT
theorem Zks{pl:Sem Bool}(bD:PE X o bA)(c:Cls X.K C)(bo:ZcK X.K C m f)(F:Ys X.prog X.w X.K X.mg X.base CX k f fd ps sp)(a3:e2 k X.A)(aN:Wd X.K fd ps b4)(hd:dm ew b4)(aT:Zae CX X J E)(bx:PA X (e::a') t)
  (fa:starEach (e::a') X.env=(false,eval e X.env)::starEach a' X.env:=by rfl) (fN:(backTo pos (starEach a' X.env)).any (·.1)=false:=by rfl)
  (ce:eval (.Call (.Attribute o m dV) (e::a') [] pos) X.env=(do
   let d4←eval o X.env
   standAt dV.atName
   let(f,first)←holding [d4] (getMethod d4 m pl)
   callWith pos f first (backTo pos (starEach (e::a') X.env)) (backToKw pos (keywordEach [] X.env))):=by rfl):
  PE X (.Call (.Attribute o m dV) (e::a') [] pos) (Zdg J C m sp ew E bA t):=by
 intro aK s σ H Q I h;obtain⟨lu,h⟩:=h;refine methodCall_KW (pl:=pl) (thn (bD aK s σ H _ I h) λu a7 ⟨x,aU,bB,bO,a,a_,fs,ex,ea,l,q⟩=>?_) ce;subst ex;obtain rfl:u=Value.ref a:=bO;refine Ul bB ea c bo l ?_;refine callWith_K (first:=[.ref a]) (h₀:=X.base) I.ok.mod.kin bo.kp (thn (bx pos aK a7 σ aU _ bB q) λus bK ⟨vs,a4,ds,r,dI⟩=>⟨ds.kIn,?_⟩) fa fN;exact Zo0 (us:= .ref a::us) (vs:= .ref a::vs) F a3 aN hd (λaK H s e s'=>aT aK σ H s e s' lu) ds (.cons rfl r) dI
def Zo2(X:Cx)(body:List Stmt)(dy:(St→Prop)→XK→TS):Prop:=∀(J:St→Prop)(iZ:XK)(pn:List (Addr×Obj))(kJ:Value→Shared→Prop),PassesOwn (model X.prog X.w) X.A X.env kJ→
 Zae (CXX X.prog X.w) {X with pn:=pn,xe:=kJ} J iZ→PSs {X with pn:=pn,xe:=kJ} body (dy J iZ)
end
section
variable {K:Frag}{H:Hp}
theorem gd.ints{p:Addr}{ns:List Int}(h:SqL K H p (ns.map V.int)):gd K H (.ref p) (.list (ns.map PyData.int)):= .lst h (DRels.ints ns)
namespace Rd
variable {Q:VK}
end Rd
end
structure Walks(J:It)(n:Nat)(f:Nat→V)(H:Hp):Prop where
 go:∀H' i,Ze H H'→i<n→J.go i H'
 yld:∀H' i x a4,Ze H H'→i<n→J.yld i H' x a4→a4=H'∧x=f i
 stop:∀H',Ze H H'→J.stop n H'
theorem U3{lo:Int}{n:Nat}{H:Hp}:Walks (Itr lo n) n (λi=> .int (lo+i)) H:=⟨λ_ _ _ h=>h,λ_ _ _ _ _ _ h=>h,λ_ _=>fm _⟩
theorem fR{K:Frag}{a:Addr}{xs:List V}{H:Hp}(h:SqL K H a xs):Walks (Itl K a) xs.length (λi=>xs.getD i .non) H:=
 ⟨λH' i e hi=>⟨xs,xs[i],e.seq h,by simp[hi]⟩,λH' i x a4 e hi y=>⟨y.1,by
  have:=y.2 xs (e.seq h);simp[List.getD,this]⟩,λH' e=>⟨xs,e.seq h,fm _⟩⟩
theorem Yz{J:It}{n:Nat}{f:Nat→V}{H0:Hp}(w:Walks J n f H0){g:TG}{dy:TS}{D:Ends}{σ:St}{H:Hp}(Pv:Nat→St→Hp→Prop)(de:Pv 0 σ H)(a5:∀i σ H,Pv i σ H→Ze H0 H)
  (hs:∀i σ H,i<n→Pv i σ H→g (f i) σ H λdn a4=>dy {D with nx:=Pv (i+1),ct:=Pv (i+1),bk:=D.nx} dn a4) (hd:∀σ H,Pv n σ H→D.nx σ H):
  ∃W:Nat→Nat→St→Hp→Prop,(∃m,W 0 m σ H)∧∀i m σ H,W i m σ H→
   (J.stop i H∧D.nx σ H)∨(J.go i H∧∃N:St→Hp→Prop,(∀bN H',N bN H'→∃da,da<m∧W (i+1) da bN H')∧∀x H',J.yld i H x H'→g x σ H' λdn a4=>dy {D with nx:=N,ct:=N,bk:=D.nx} dn a4):=by
 refine⟨λi m σ H=>m=n-i∧i≤n∧Pv i σ H,⟨n,by simp,qav _,de⟩,?_⟩;rintro i m σ H ⟨rfl,hi,p⟩;have bS:=a5 i σ H p
 by_cases du:i<n
 ·refine .inr ⟨w.go H i bS du,Pv (i+1),λbN H' fc=>⟨n-(i+1),by omega,rfl,du,fc⟩,λx H' y=>?_⟩;obtain⟨rfl,rfl⟩:=w.yld H i x H' bS du y;exact hs i σ _ du p
 ·have e:i=n:=by omega
  subst e;exact .inl ⟨w.stop H bS,hd σ H p⟩
theorem YI{ix:List Nat}{d_:TT}{dg:TE}{Q:Addr→Hp→Prop}{σ:St}{H:Hp}{J:It}{n:Nat}{f:Nat→V}(w:Walks J n f H)(bF:n<sizeLine)(c:Nat→Bool)(r:Nat→V)
  (a8:∀i H' (dW:Bool→Hp→Prop),i<n→Ze H H'→(∀cw,Ze H' cw→dW (c i) cw)→d_ (some (f i)::ix.map λj=>(σ[j]?).join) H' dW)
  (bD:∀i H' (dW:VK),i<n→c i=true→Ze H H'→(∀b3,Ze H' b3→dW (r i) b3)→dg (some (f i)::ix.map λj=>(σ[j]?).join) H' dW)
  (q:∀p H',H p=none→Ze H H'→H' p=some (.lst (((List.range n).filter c).map r))→Q p H'):
  ∀p,H p=none→∃W:Nat→Nat→List V→St→Hp→Prop,(∃m,W 0 m [] (emb ix σ) (upd H p (.lst [])))∧∀i m ys bN H',W i m ys bN H'→
   (J.stop i H'∧Q p H')∨(J.go i H'∧∀x a4,J.yld i H' x a4→VB 0 x bN a4 λdn b_=>d_ dn b_ λb cw=>
    if b=true then dg dn cw λv b3=>b3 p=some (.lst ys)∧ys.length<sizeLine∧∃da,da<m∧W (i+1) da (ys++ [v]) dn (upd b3 p (.lst (ys++ [v])))
    else ∃da,da<m∧W (i+1) da ys dn cw):=by
 intro p bb;refine⟨λi m ys bN H'=>m=n-i∧i≤n∧(∃a,bN=a::ix.map λj=>(σ[j]?).join)∧Ze H H'∧H' p=some (.lst ys)∧ys=((List.range i).filter c).map r,
  ⟨n,by simp,qav _,⟨none,rfl⟩,dH bb,Zd,rfl⟩,?_⟩
 rintro i m ys bN H' ⟨rfl,hi,⟨a,rfl⟩,bS,bE,aJ⟩
 by_cases du:i<n
 ·refine .inr ⟨w.go H' i bS du,λx a4 y=>?_⟩;obtain⟨rfl,rfl⟩:=w.yld H' i x a4 bS du y;show d_ ((a::ix.map λj=>(σ[j]?).join).set 0 (some (f i))) a4 _;have eV:ys.length≤i:=by
   rw[aJ,GE];exact qat (qaU _ _) (by simp)
  refine a8 i a4 _ du bS λcw c_=>?_;have nk:=bS.trans c_;have oo:=c_ _ _ bE;have step:(List.range (i+1)).filter c=(List.range i).filter c++(if c i=true then[i] else[]):=by
   rw[qbH,qcc]
   congr 1
   by_cases h:c i=true<;>simp[h]
  by_cases j9:c i=true
  ·rw[j9,if_pos rfl];refine bD i cw _ du j9 nk λb3 dt=>⟨dt _ _ oo,by omega,n-(i+1),by omega,rfl,du,⟨_,rfl⟩,(nk.trans dt).new bb,Zd,?_⟩;rw[step,if_pos j9,qaG,aJ]
   rfl
  ·have uG:c i=false:=by simpa using j9
   rw[uG,if_neg qag];refine⟨n-(i+1),by omega,rfl,du,⟨_,rfl⟩,nk,oo,?_⟩;rw[step,if_neg j9,qa8,aJ]
 ·have e:i=n:=by omega
  subst e;exact .inl ⟨w.stop H' bS,q p H' bb bS (by rw[←aJ];exact bE)⟩
structure d7(A:List Addr)(H H':Hp):Prop where
 keep:∀b o,H b=some o→b∉A→H' b=some o
 tups:∀b xs,H b=some (.tup xs)→H' b=some (.tup xs)
theorem Ze.frame{A:List Addr}{H H':Hp}(e:Ze H H'):d7 A H H':=⟨λb o h _=>e b o h,λb xs h=>e b _ h⟩
theorem d7.trans{A:List Addr}{H aU a4:Hp}(a:d7 A H aU)(b:d7 A aU a4):d7 A H a4:=⟨λc o h n=>b.keep c o (a.keep c o h n) n,λc xs h=>b.tups c xs (a.tups c xs h)⟩
theorem d7.mono{A B:List Addr}{H H':Hp}(a:d7 A H H')(h:∀x∈A,x∈B):d7 B H H':=⟨λc o e n=>a.keep c o e λz=>n (h c z),a.tups⟩
theorem h0{A:List Addr}{H:Hp}{p:Addr}{o c':HO}(bb:p∈A)(h:H p=some o)(ce:∀xs,o≠ .tup xs):d7 A H (upd H p c'):=by
 refine⟨λb u e n=>?_,λb xs e=>?_⟩
 ·have z:b≠p:=λz=>n (by rw[z];exact bb);rw[b2 z];exact e
 ·have z:b≠p:=λz=>ce xs (by rw[z,h] at e;exact qam e);rw[b2 z];exact e
def VY(A h_:List Addr)(H:Hp):Prop:=∀a∈h_,a∈A∨H a=none
theorem VY.refl{A:List Addr}{H:Hp}:VY A A H:=λ_ h=> .inl h
section
variable {K:Frag}{H H':Hp}{A h_:List Addr}
namespace Rd
variable {Q:VK}
end Rd
end
noncomputable def Its (x:Str):It:=⟨λi _=>i<x.cps.size,λi H v H'=>H'=H∧∃c,x.cps[i]? =some c∧v= .str ⟨#[c]⟩,λi _=>x.cps.size≤i⟩
theorem EB{P:Program}{w:World}{K:Frag}{dr:Expr}(it:Addr)(x:Str)(t:Tok)(ty:String)(hF:ty="str_ascii_iterator" ∨ty="str_iterator"):Uf P w K dr (Its x) [it] it (λi h=>h.IsStrIter it ty x t i) where
 mem:=by simp
 obj:=λi h st b aN=>by
  have e:b=it:=by simpa using aN
  subst e;obtain⟨o,e,c,d⟩:=st;exact⟨o,e,λv z=>by rw[d] at z;cases z⟩
 keep:=λi h h' st k=>let⟨o,bz,r⟩:=st;⟨o,k it (by simp) o bz,r⟩
 item:=by
  intro X d1 hw eJ a8 i aK s σ H E I bv st bc;subst d1 hw eJ;obtain⟨ef,f1,f2,dR,eH,ev⟩:=bv it (by simp);have hi:i<x.cps.size:=bc;have eZ:∀h':Heap,h'.IsStrIter it ty x t (i+1)→Heap.SameBut it s.heap h'→∃u,some (Value.str ⟨#[x.cps[i]]⟩ s.toks)=some u∧
    wpAny (model X.prog X.w) X.A (letOwnedTupleGo dr (.ref it) u) (λ_ bK=>∃y H',Inv X aK σ H' bK∧dq y u∧(Its x).yld i H y H'∧bK.heap.IsStrIter it ty x t (i+1)∧∀b∈[it],H' b=none) E {s with heap:=h',toks:=s.toks+1}:=λh' gV hh=>by
   have bB:Inv X aK σ H {s with heap:=h',toks:=s.toks+1}:=I.turned (t':=s.toks+1) (λb o aN e=>(hh.2 b aN).trans e) ef f1 dR eH ev;obtain⟨o,e,c,d⟩:=id gV;refine⟨_,rfl,m2 (s:={s with heap:=h',toks:=s.toks+1}) e c d (by rcases hF with rfl|rfl<;>decide) ⟨.str ⟨#[x.cps[i]]⟩,H,bB,⟨_,rfl⟩,⟨rfl,x.cps[i],by simp[hi],rfl⟩,gV,λb aN=>(bv b aN).1⟩⟩
  rcases hF with rfl|rfl
  ·exact wpAny_pyNext_ascii_item st (c:=x.cps[i]) (by simp[hi]) eZ
  ·exact wpAny_pyNext_wide_item st (c:=x.cps[i]) (by simp[hi]) eZ
 done:=by
  intro X d1 hw eJ a8 i aK s σ H E I bv st bc;subst d1 hw eJ;obtain⟨ef,f1,f2,dR,eH,ev⟩:=bv it (by simp);have hi:x.cps.size≤i:=bc;rcases hF with rfl|rfl
  ·exact wpAny_pyNext_ascii_end (I.ok.hd a8) st (by simp[hi]) λh' dJ=>⟨rfl,I.turned (t':=s.toks) (λb o aN e=>dJ b o aN e) ef f1 dR eH ev⟩
  ·exact wpAny_pyNext_wide_end (I.ok.hd a8) st (by simp[hi]) λh' dJ=>⟨rfl,I.turned (t':=s.toks) (λb o aN e=>dJ b o aN e) ef f1 dR eH ev⟩
 self:=λ_ _ _ _ _ st h=>by
  rcases hF with rfl|rfl
  ·exact wpAny_pyIter_striter_ascii st h
  ·exact wpAny_pyIter_striter_wide st h
section
variable {X:Cx}{dr:Expr}
noncomputable def yP (ei:TE):TI:=λσ H R=>ei σ H λx aU=>∃y,x= .str y∧R (Its y) aU
theorem EC{l:Expr}{ei:TE}(aJ:PE X l ei):PI X dr l (yP ei):=by
 intro aK s σ H R I h;refine thn (aJ aK s σ H _ I h) λv a7 ⟨x,aU,bB,df,c8⟩=>?_;obtain⟨y,e,q⟩:=c8;subst e;obtain⟨t,rfl⟩:=df;have eZ:∀ty:String,(ty="str_ascii_iterator" ∨ty="str_iterator")→PIE X aK σ dr R (.ref a7.heap.objs.size) {a7 with heap:=a7.heap.push {cls:= .type ty,data:= .fields #[.str y t,.int 0 0]}}:=λty hF=>by
  refine⟨a7.heap.objs.size,[a7.heap.objs.size],_,_,aU,rfl,bB.kept (t':=a7.toks) λb o e=>Heap.get?_push_of_some _ e,EB _ y t ty hF,⟨_,Heap.get?_push_size _ rfl,rfl,rfl⟩,λb aN=>?_,q⟩;have e:b=a7.heap.objs.size:=by simpa using aN
  subst e;exact bB.fpOk (fm _) (bB.hok.fresh (fm _))
 cases bx:y.cps.all (· <128)
 ·exact wpAny_pyIter_wide bx (eZ _ (.inr rfl))
 ·exact wpAny_pyIter_ascii bx (eZ _ (.inl rfl))
theorem ZjP{x:Str}{H:Hp}:Walks (Its x) x.cps.size (λi=> .str ⟨#[x.cps.getD i 0]⟩) H:=
 ⟨λ_ _ _ h=>h,λH' i v a4 _ hi ⟨e,c,a8,cv⟩=>⟨e,by rw[cv];simp[Array.getD,hi] at a8⊢;exact a8.symm⟩,λ_ _=>fm _⟩
noncomputable def rLeS:R2:=λx y H Q=>∃i j,x= .str i∧y= .str j∧Q (.bl (!decide (j.cps.toList<i.cps.toList))) H
theorem yQ:OpR X (compareOp .LtE) rLeS:=by
 intro aK s σ H x y v u Q I bO c9 h;obtain⟨i,j,rfl,rfl,q⟩:=h;obtain⟨t,rfl⟩:=bO;obtain⟨t',rfl⟩:=c9;exact PySem.P.le_str ⟨.bl _,H,I,rfl,q⟩
theorem uH{s:Shared}:∀{bs:List Bool}{us:List Value},dm (bs.map V.bl) us→us=bs.map Value.bool
 | [],_,r=>by cases r;rfl
 |b::bs,_,r=>by
  cases r with
  |cons df dO=>
   have e:_=Value.bool b:=df;rw[e,uH (s:=s) dO]
   rfl
theorem rX{s:Shared}{h':Heap}{o:Obj}(a5:∀b x,b∉[s.heap.objs.size]→(s.heap.push o).get? b=some x→h'.get? b=some x):∀b x,s.heap.get? b=some x→h'.get? b=some x:=
 λb x e=>a5 b x (λbo=>by rw[FM.mp bo] at e;exact qbe _ (Heap.lt_size e)) (Heap.get?_push_of_some _ e)
theorem Zik(bs:List Bool):((List.range bs.length).all λi=>(bs[i]?).getD true)=bs.all id:=by
 rw[qbr,qbl,qbl]
 constructor
 ·intro h b aN;obtain⟨i,hi,rfl⟩:=qaw aN;have:=h i (qao.mpr hi);simpa[GT hi] using this
 ·intro h i hi;have el:=qao.mp hi;simp only[GT el,Option.getD_some];exact h _ (qaa el)
theorem Zjj(a8:X.calm=true):Z8 X (.builtin "all") (λxs H Q=>∃(p:Addr)(bs:List Bool),xs=[.ref p]∧SqL X.K H p (bs.map V.bl)∧Q (.bl (bs.all id)) H):=by
 intro aK s σ H xs us Q I r h;obtain⟨p,bs,rfl,bT,q⟩:=h;obtain⟨u,rfl,bO⟩:=YE r;cases bO;obtain⟨its,dC,pl,hz⟩:=I.list bT;have dZ:=uH (s:=s) dC;subst dZ;have aJ:=pl.isList;have du:p<s.heap.objs.size:=by obtain⟨_,e,_⟩:=aJ;exact Heap.lt_size e
 refine call_all_walk (wpAny_pyIter_list aJ ?_);refine⟨s.heap.objs.size,[s.heap.objs.size,p],[s.heap.objs.size],(bs.map Value.bool).toArray.size,_,_,λi=>(bs[i]?).getD true,rfl,PySem.Walks.list (A:=X.A.in1) (I.ok.hd a8) _ p (qai du) (bs.map Value.bool).toArray,
  ⟨⟨_,Heap.get?_push_size _ rfl,rfl,rfl⟩,aJ.push _⟩,λi v s' pj E' d1 fA=>?_,λh' bL a5=>?_⟩
 ·have p8:(bs.map Value.bool)[i]? =some v:=by simpa using d1
  rw[qaj] at p8;cases e:bs[i]? with
  |none=>rw[e] at p8;cases p8
  |some b=>
   rw[e] at p8;cases p8;have yR:pj ((bs[i]?).getD true) s':=fA;rw[e] at yR;exact wpAny_truthy_bool yR
 ·have e:((List.range (bs.map Value.bool).toArray.size).all λi=>(bs[i]?).getD true)=bs.all id:=by
   rw[qae,GE];exact Zik bs
  rw[e];exact⟨.bl (bs.all id),H,I.kept (rX a5),rfl,q⟩
theorem Zjk(a8:X.calm=true):Z8 X (.builtin "sum") (λxs H Q=>∃(p:Addr)(ns:List Int),xs=[.ref p]∧SqL X.K H p (ns.map V.int)∧Q (.int ns.sum) H):=by
 intro aK s σ H xs us Q I r h;obtain⟨p,ns,rfl,bT,q⟩:=h;obtain⟨u,rfl,bO⟩:=YE r;cases bO;obtain⟨its,dC,pl,hz⟩:=I.list bT;have hi:=Ww dC;obtain⟨xs,aT⟩:=hi.allInts.items;have gA:s.heap.IsList p (intItems xs):=aT▸pl.isList;refine sum_intListG (I.ok.hd a8) gA λh' bL t' a5=>?_;have bw:ns=xs.toList.map (·.1):=by
  rw[←nums_intItems,←aT];exact(show numsOf its.toArray.toList=ns from hi.numsOf).symm
 have bC:preSum (numAt xs) xs.size=ns.sum:=by
  rw[preSum_eq,qaZ (by simp),bw]
 rw[bC];exact⟨.int ns.sum,H,I.kept a5,⟨_,rfl⟩,q⟩
end
structure ZhP(K:Frag)(x qual:Str)(st:Stmt)(dT:Addr)(f:Addr)(fd:FuncData):Prop where
 ex:∃(fM:Value)(eR:Option Addr)(kV fH e3:Value)(an:Option Addr)(di ct:Value)(g_:Array (Option Value)),
  fd=fnOf x qual (j7 st) (iV st) (dh st) (.ref dT) kV fH e3 an di ct∧K.lookup f=some ⟨fM,eR,.func fd,g_⟩∧codeIn K di qual=true
 kp:keepIn K (.ref f)=true
section
variable {P:Program}{w:World}{K:Frag}{mg:Str→Option Value}{base:Heap}
theorem ZhP.okX{x qual:Str}{st:Stmt}{dT f:Addr}{fd:FuncData}{N ps:List Str}{k:Nat}{sp:Sp}(F:ZhP K x qual st dT f fd)(S:Zo N ps (dh st))(len:∀vs H Q E,sp vs H Q E→vs.length=ps.length)
  (m8:∀(di:Value)(A:Around)(outer:List Env)(s:Shared)(H:Hp)(vs:List V)(Q:VK)(E:XK),e2 k (A.deeper (envOfC qual (dh st) s.heap.objs.size f di))→sp vs H Q E→
   ∃t,PSs (cxX P w K mg base N qual (dh st) f di A outer s H E) (iV st) t∧t {nx:=λ_ H'=>Q .non H',rt:=Q} (start N vs) H):Ys P w K mg base (CXX P w) (k+1) f fd ps sp:=by
 obtain⟨fM,eR,kV,fH,e3,an,di,ct,g_,rfl,lk,im⟩:=F.ex;exact ZlE lk im S len λA outer s H vs Q E a3 ip=>m8 di A outer s H vs Q E a3 ip
theorem Zmm{x qual:Str}{st:Stmt}{dT f:Addr}{fM:Value}{eR an:Option Addr}{g_:Array (Option Value)}{kV fH e3 di ct:Value}(l:K.lookup f=some ⟨fM,eR,.func (fnOf x qual (j7 st) (iV st) (dh st) (.ref dT) kV fH e3 an di ct),g_⟩)
  (c:codeIn K di qual=true) (k:keepIn K (.ref f)=true):ZhP K x qual st dT f (fnOf x qual (j7 st) (iV st) (dh st) (.ref dT) kV fH e3 an di ct):=⟨⟨fM,eR,kV,fH,e3,an,di,ct,g_,rfl,l,c⟩,k⟩
theorem ED{h₀:Heap}{x:Str}{C:Addr}{yS:List Value}{mf:String}(X:K.In h₀)(g:h₀.Ns mainGlobals mg)(e:nsIn K mainGlobals x=some (some (.ref C)))(q:excIn K C yS mf=true):OwnCls x C yS mf mg h₀:=by
 refine⟨mg_of X g e,?_⟩;unfold excIn at q
 split at q
 ·rename_i dd cd sl bz
  split at q
  ·rename_i QB bm k0 k1 k2 k3 n k5 bo hs;simp only[qaQ,beq_iff_eq,Bool.not_eq_true'] at q;obtain⟨⟨⟨⟨⟨rfl,rfl⟩,yT⟩,ce⟩,hok⟩,rT⟩:=q;obtain⟨nm,bs,mro,ns,m3,hd,sn,sub,ab,col,QC⟩:=cd;dsimp only at bo yT hok rT;subst bo yT;have hJ:sl=#[k0,k1,k2,k3,some (.builtin n),k5]:=by
    obtain⟨l⟩:=sl;simp only at hs;rw[hs]
   subst hJ;exact⟨bm,ns,nm,m3,bs,hd,sn,sub,ab,col,dd,k0,k1,k2,k3,k5,_,X _ _ bz,.of_isNs (PySem.W.isNs_of_in X hok),PySem.W.nsMap_none_of_in X hok rT,PySem.W.tail_of_in X ce⟩
  ·cases q
 ·cases q
section
variable {N:List Str}{qual:Str}{scope:Scope}{f:Addr}{cd:Value}{A:Around}{outer:List Env}{s₀:Shared}{H₀:Hp}{E:XK}
theorem i1{x:Str}{nj eb pos:Pos}{lB:Expr}{rest:List Expr}{t:TA}{C:Addr}{B mf uE:String}{bm:List Value}(e:nsIn K mainGlobals x=some (some (.ref C)))(q:excIn K C bm mf=true)(FB:ExcBaseFacts B mf uE bm)
  (bc:Gl (cxX P w K mg base N qual scope f cd A outer s₀ H₀ E) x) (bx:PA (cxX P w K mg base N qual scope f cd A outer s₀ H₀ E) (lB::rest) t)
  (bD:starEach (lB::rest) (cxX P w K mg base N qual scope f cd A outer s₀ H₀ E).env=(false,eval lB (cxX P w K mg base N qual scope f cd A outer s₀ H₀ E).env)::starEach rest (cxX P w K mg base N qual scope f cd A outer s₀ H₀ E).env:=by rfl)
  (m_:(backTo eb (starEach rest (cxX P w K mg base N qual scope f cd A outer s₀ H₀ E).env)).any (·.1)=false:=by rfl) (f':(x==("__debug__" :Str))=false:=by decide):
  PS (cxX P w K mg base N qual scope f cd A outer s₀ H₀ E) (.Raise (some (.Call (.Name x nj) (lB::rest) [] eb)) none pos) (uD (.ref C) E t):=by
 intro aK s σ H D I h;exact Zkd (ED I.ok.mod.kin I.ok.mod.glob e q) FB bc bx bD m_ f' aK s σ H D I h
end
end
section
variable {X:Cx}
noncomputable def rSlS:V→Option Int→Option Int→Hp→VK→Prop:=λx lo hi H Q=>∃z,x= .str z∧z.length≤sizeLine∧Q (.str (Txt.slice z lo hi)) H
theorem EE:SlR X rSlS:=by
 intro aK s σ H x v gb gW lo hi sl Q I bO hs pl iq h;obtain⟨z,rfl,hz,q⟩:=h;obtain⟨t,rfl⟩:=bO;refine⟨"str",_,F.slot_str_getitem.lookup,typeIs_str _ _ _,?_⟩;have eZ:∀l u:Option (Int×Tok),l.map (·.1)=lo→u.map (·.1)=hi→partValue l=gb→partValue u=gW→wpAny (model X.prog X.w) X.A (getItem (.str z t) (.ref sl)) (EP X aK σ Q) X.xe s:=λl u bw bC dP g4=>by
  obtain⟨o,bz,a8,hd⟩:=hs;subst bw bC dP g4;exact wpAny_getItem_str_slice (l:=l) (u:=u) (st:=none) ⟨o,bz,a8,hd⟩ rfl (post_val_or_str ⟨qat (Txt.slice_le z _ _) hz,λt' k=>⟨.str _,H,I.tok k,⟨_,rfl⟩,q⟩⟩)
 cases pl with
 |none=>
  cases iq with
  |none=>exact eZ none none rfl rfl rfl rfl
  |int j t'=>exact eZ none (some (j,t')) rfl rfl rfl rfl
 |int i gu=>
  cases iq with
  |none=>exact eZ (some (i,gu)) none rfl rfl rfl rfl
  |int j t'=>exact eZ (some (i,gu)) (some (j,t')) rfl rfl rfl rfl
noncomputable def ZdO (K:Frag):V→Option Int→Option Int→Hp→VK→Prop:=λx lo hi H Q=>yx K x lo hi H Q∨(yw K x lo hi H Q∨rSlS x lo hi H Q)
theorem EF:SlR X (ZdO X.K):=DW.or (DP.or EE)
end
structure W8(K:Frag)(C:Addr)(fs:List Str):Prop where
 out:∀f∈fs,iQ K C f
theorem W8.get{K:Frag}{C:Addr}{fs:List Str}{f:Str}(h:W8 K C fs)(m:fs.contains f=true):iQ K C f:=h.out f (by simpa using m)
namespace Rd
section
variable {σ:St}{H:Hp}{Q:VK}{D:Ends}{K:Frag}
theorem slS{z:Str}{lo hi:Option Int}(h:z.length≤sizeLine)(q:Q (.str (Txt.slice z lo hi)) H):ZdO K (.str z) lo hi H Q:= .inr (.inr ⟨z,rfl,h,q⟩)
theorem slL{a:Addr}{xs:List V}{lo hi:Option Int}(h:SqL K H a xs)(q:∀p,H p=none→Q (.ref p) (upd H p (.lst (iv xs lo hi)))):ZdO K (.ref a) lo hi H Q:= .inl ⟨a,xs,rfl,h,q⟩
theorem sl{r:V→Option Int→Option Int→Hp→VK→Prop}{dg:TE}{ei iu:TO}(h:dg σ H λx aU=>ei σ aU λl a4=>iu σ a4 λu b_=>r x l u b_ Q):tSl r dg ei iu σ H Q:=h
theorem ZnG{Q:Option Int→Hp→Prop}(h:Q none H):tNoPart σ H Q:=h
theorem Zpm{dg:TE}{Q:Option Int→Hp→Prop}(h:dg σ H λx aU=>∃i,x= .int i∧Q (some i) aU):yu dg σ H Q:=h
theorem Zn3{i:Int}{C:Int→Prop}(h:C i):∃j,V.int i= .int j∧C j:=⟨i,rfl,h⟩
theorem Zpk{bA:TE}{f:Str}(h:bA σ H λx aU=>∃a C a_ fs v,x= .ref a∧aU a=some (.ins C a_ fs)∧Cls K C∧iQ K C f∧fs.lookup f=some v∧Q v aU):tU K bA f σ H Q:=h
theorem fld{a C a_:Addr}{fs:List (Str×V)}{f:Str}{v:V}{G:V→Prop}(h:H a=some (.ins C a_ fs))(c:Cls K C)(n:iQ K C f)(l:fs.lookup f=some v)(q:G v):
  ∃er C a_ fs v,V.ref a= .ref er∧H er=some (.ins C a_ fs)∧Cls K C∧iQ K C f∧fs.lookup f=some v∧G v:=⟨a,C,a_,fs,v,rfl,h,c,n,l,q⟩
theorem Zn6{C:Addr}{m:Str}{sp:Sp}{ew:List V}{E:XK}{bA:TE}{t:TA}(h:bA σ H λx aU=>∃a a_ fs,x= .ref a∧aU a=some (.ins C a_ fs)∧fs.lookup m=none∧t σ aU λvs a4=>sp (x::(vs++ew)) a4 Q E):pG C m sp ew E bA t σ H Q:=h
theorem ZnX{C:Addr}{sp:Sp}{ew:List V}{E:XK}{t:TA}(h:t σ H λvs aU=>∀x a_,aU x=none→aU a_=none→a_≠x→
  sp (.ref x::(vs++ew)) (upd (upd aU a_ (.own x)) x (.ins C a_ [])) (λv a4=>v= .non∧Q (.ref x) a4) E):pH C sp ew E t σ H Q:=h
theorem ZoA{bA h7:TE}{f:Str}(h:h7 σ H λy aU=>bA σ aU λx a4=>∃a C a_ fs,x= .ref a∧a4 a=some (.ins C a_ fs)∧Cls K C∧iQ K C f∧fs.length<1000∧D.nx σ (upd a4 a (.ins C a_ (gv f y fs)))):tV K bA h7 f D σ H:=h
theorem Zom{a C a_:Addr}{fs rr:List (Str×V)}{f:Str}{y:V}(h:H a=some (.ins C a_ fs))(c:Cls K C)(n:iQ K C f)(l:fs.length<1000)(e:gv f y fs=rr)(q:D.nx σ (upd H a (.ins C a_ rr))):
  ∃er C a_ fs,V.ref a= .ref er∧H er=some (.ins C a_ fs)∧Cls K C∧iQ K C f∧fs.length<1000∧D.nx σ (upd H er (.ins C a_ (gv f y fs))):=⟨a,C,a_,fs,rfl,h,c,n,l,by rw[e];exact q⟩
theorem raise{cls:Value}{E:XK}{t:TA}(h:t σ H λvs aU=>vs.length≤sizeLine∧E cls none aU):uD cls E t D σ H:=h
theorem Zm0{v:V}{G:Prop}(q:G):[v].length≤sizeLine∧G:=⟨by show 1≤sizeLine;decide,q⟩
theorem Zoo{dg:TE}{R:It→Hp→Prop}(h:dg σ H λx aU=>∃a,x= .ref a∧(∃xs,SqL K aU a xs)∧R (Itl K a) aU):tN K dg σ H R:=h
theorem ZoP{dg:TE}{R:It→Hp→Prop}(h:dg σ H λx aU=>∃y,x= .str y∧R (Its y) aU):yP dg σ H R:=h
theorem Zof{y:Str}{G:Str→Prop}(h:G y):∃z,V.str y= .str z∧G z:=⟨y,rfl,h⟩
theorem Zoj{ix:List Nat}{e0:TI}{g:TG}{d_:TT}{dg:TE}(h:e0 σ H λJ aU=>∀p,aU p=none→
 ∃W:Nat→Nat→List V→St→Hp→Prop,(∃m,W 0 m [] (emb ix σ) (upd aU p (.lst [])))∧∀i m ys bN H',W i m ys bN H'→
  (J.stop i H'∧Q (.ref p) H')∨(J.go i H'∧∀x a4,J.yld i H' x a4→g x bN a4 λdn b_=>d_ dn b_ λb cw=>
   if b=true then dg dn cw λv b3=>b3 p=some (.lst ys)∧ys.length<sizeLine∧∃da,da<m∧W (i+1) da (ys++ [v]) dn (upd b3 p (.lst (ys++ [v])))
   else ∃da,da<m∧W (i+1) da ys dn cw)):pU ix e0 g d_ dg σ H Q:=h
theorem ZoL{Q:Bool→Hp→Prop}(h:Q true H):tAll σ H Q:=h
theorem lk0{f:Str}{v:V}{r:List (Str×V)}:((f,v)::r).lookup f=some v:=by simp
theorem lk1{f g:Str}{v:V}{o:Option V}{r:List (Str×V)}(n:(f==g)=false)(h:r.lookup f=o):((g,v)::r).lookup f=o:=by rw[qa1,n];exact h
theorem lkN{f:Str}:([]:List (Str×V)).lookup f=none:=rfl
theorem pf1{f g:Str}{v x:V}{r dX:List (Str×V)}(n:(g==f)=false)(h:gv f v r=dX):gv f v ((g,x)::r)=(g,x)::dX:=by
 have:¬g=f:=by simpa using n
 simp[gv,this,h]
theorem pfN{f:Str}{v:V}:gv f v []=[(f,v)]:=rfl
end
end Rd
theorem ZlY(x:Int)(ys:List Int):inV (.int x) (ys.map V.int)=decide (x∈ys):=by
 induction ys with
 |nil=>rfl
 |cons y ys bP=>
  have e:inV (.int x) ((y::ys).map V.int)=(eqV (.int y) (.int x)||inV (.int x) (ys.map V.int)):=rfl;rw[e,bP];show((y==x)||decide (x∈ys))=decide (x∈y::ys)
  by_cases h:x=y
  ·subst h;simp
  ·have:(y==x)=false:=by simpa using λz=>h z.symm
   rw[this];simp[h]
theorem EG(ys:List Int):(ys.map V.int).all kF=true:=by
 rw[List.all_map,qbl];intro _ _
 rfl
namespace Rd
section
variable {H:Hp}{Q:VK}{K:Frag}
theorem inI{p:Addr}{x:Int}{ys:List Int}(h:SqL K H p (ys.map V.int))(q:Q (.bl (decide (x∈ys))) H):rIn K false (.int x) (.ref p) H Q:=⟨p,_,rfl,.inl h,rfl,EG ys,by rw[ZlY];exact q⟩
theorem ifD{c A B:Prop}[Decidable c](a:c→A)(b:¬c→B):if decide c=true then A else B:=by
 by_cases h:c
 ·exact ifP h (a h)
 ·exact ifN h (b h)
theorem ZoZ{p:Addr}{bs:List Bool}{G:List Bool→Prop}(h:SqL K H p (bs.map V.bl))(q:G bs):∃(fc:Addr)(oq:List Bool),[V.ref p]=[.ref fc]∧SqL K H fc (oq.map V.bl)∧G oq:=⟨p,bs,rfl,h,q⟩
theorem leS{x y:Str}(q:Q (.bl (!decide (y.cps.toList<x.cps.toList))) H):rLeS (.str x) (.str y) H Q:=⟨x,y,rfl,rfl,q⟩
theorem Zoc{σ:St}{r dX:R2}{bA dy d_:TE}(h:bA σ H λx aU=>dy σ aU λy a4=>r x y a4 λz b_=>∃k,z= .bl k∧(if k=true then d_ σ b_ λdY cw=>dX y dY cw Q else Q (.bl false) b_)):yj r dX bA dy d_ σ H Q:=h
end
end Rd
namespace Rd
section
variable {H:Hp}{Q:VK}{K:Frag}
theorem un1{g:Int→V}{i:Int}(q:Q (g i) H):rU g (.int i) H Q:=⟨i,rfl,q⟩
theorem ZmA{a:Addr}{xs:List V}{G:Addr→Prop}(h:SqL K H a xs)(q:G a):∃er,V.ref a= .ref er∧(∃xs,SqL K H er xs)∧G er:=⟨a,rfl,⟨xs,h⟩,q⟩
theorem ZnQ{j:Int}{G:Int→Prop}(aS: -(2 ^ 62)≤j)(a2:j<2 ^ 62)(q:G j):∃k,[V.int j]=[.int k]∧ -(2 ^ 62)≤k∧k<2 ^ 62∧G k:=⟨j,rfl,aS,a2,q⟩
theorem Zox{i j:Int}{G:Int→Int→Prop}(q:G i j):∃hm p9,[V.int i,.int j]=[.int hm,.int p9]∧G hm p9:=⟨i,j,rfl,q⟩
end
end Rd
noncomputable def hid (H:Hp) (r:Addr):Hp:=λb=>if b=r then none else H b
theorem ot{H:Hp}{r:Addr}:hid H r r=none:=by unfold hid;rw[if_pos rfl]
theorem Yj{H:Hp}{r b:Addr}(h:b≠r):hid H r b=H b:=by unfold hid;rw[if_neg h]
theorem j_{H:Hp}{r:Addr}:Ze (hid H r) H:=λb o e=>by
 by_cases h:b=r
 ·rw[h,ot] at e;cases e
 ·rw[Yj h] at e;exact e
theorem yU{H:Hp}{r:Addr}{xs:List V}(h:H r=some (.lst xs)):∀b ys,H b=some (.tup ys)→L2.hid H r b=some (.tup ys):=λb ys e=>by rw[Yj (gT e h (by intro z;cases z))];exact e
theorem yV:∀ns:List Int,PyData.canLayAll0 (ns.map PyData.int)=true
 | []=>by simp[PyData.canLayAll0]
 |n::ns=>by
  have:=yV ns;simp[PyData.canLayAll0,PyData.canLay0] at this⊢;exact this
theorem ou(ns:List Int):(PyData.list (ns.map PyData.int)).canLay0=true:=by
 have:=yV ns;simp[PyData.canLay0];simpa using this
theorem yW:∀ns:List Int,PyData.depthAll (ns.map PyData.int)≤1
 | []=>by simp[PyData.depthAll]
 |n::ns=>by
  have:=yW ns;simp[PyData.depthAll,PyData.depth] at this⊢;exact this
theorem uI(ns:List Int):(PyData.list (ns.map PyData.int)).depth≤60:=by
 have:=yW ns;simp only[PyData.depth];omega
namespace Rd
section
variable {H:Hp}{Q:VK}{K:Frag}
end
end Rd
namespace Rd
section
variable {σ:St}{H:Hp}{Q:VK}{K:Frag}{J:St→Prop}{E:XK}{sp:Sp}{ew:List V}{t:TA}{bA:TE}
theorem Zos{C:Addr}{m:Str}(bj:J σ)(h:bA σ H λx aU=>∃a a_ fs,x= .ref a∧aU a=some (.ins C a_ fs)∧fs.lookup m=none∧t σ aU λvs a4=>sp (x::(vs++ew)) a4 Q E):Zdg J C m sp ew E bA t σ H Q:=⟨bj,h⟩
theorem Zol{C:Addr}(bj:J σ)(h:t σ H λvs aU=>∀x a_,aU x=none→aU a_=none→a_≠x→
  sp (.ref x::(vs++ew)) (upd (upd aU a_ (.own x)) x (.ins C a_ [])) (λv a4=>v= .non∧Q (.ref x) a4) E):Zfr J C sp ew E t σ H Q:=⟨bj,h⟩
end
end Rd
namespace Rd
section
variable {σ:St}{H:Hp}
theorem Zph{to gu:TE}{t:Zcw}{v:V}{Q:St→Hp→Prop}(h:to σ H λo aU=>gu σ aU λi a4=>t o i v a4 λb_=>Q σ b_):x' to gu t v σ H Q:=h
theorem ZoO{p:Addr}{xs:List V}{k:Int}{v:V}{Q:Hp→Prop}(bb:H p=some (.lst xs))(de:0≤k)(aS:k<xs.length)(q:Q (upd H p (.lst (xs.set k.toNat v)))):rSetL (.ref p) (.int k) v H Q:=
 ⟨p,xs,k,k.toNat,rfl,rfl,bb,by unfold ixN;rw[if_pos de,if_pos aS],q⟩
end
end Rd
section
variable {X hs:List Int}{i:Nat}{v u:Int}
end
noncomputable def only(q:Addr) (o:HO):Hp:=λa=>if a=q then some o else none
theorem p_{q:Addr}{o:HO}:only q o q=some o:=by unfold only;rw[if_pos rfl]
theorem V8{q:Addr}{o:HO}{H:Hp}(h:H q=some o):Ze (only q o) H:=λb x e=>by
 unfold only at e
 by_cases c:b=q
 ·rw[if_pos c] at e;rw[c];cases e;exact h
 ·rw[if_neg c] at e;cases e
section
variable {X:Cx}{K:Frag}
theorem Zl2(e:X.K=K):OpR X (binaryOp .Add) (rOr rV (rOr uF (rOr rCat (pM K)))):=e▸EA
theorem ia(e:X.K=K)(hu:X.A.units+64<cLine):OpR X (compareOp .Eq) (rOr rEq (mi K false)):=e▸ZnK hu
theorem ov(e:X.K=K)(hu:X.A.units+64<cLine):OpR X (compareOp .NotEq) (rOr rNe (mi K true)):=e▸ZmU hu
theorem Zpg(e:X.K=K):IxR X (rIx K):=e▸DU
theorem ow(e:X.K=K):SlR X (ZdO K):=e▸EF
noncomputable def uJ (K:Frag):List V→Hp→VK→Prop:=λxs H Q=>∃x n,xs=[x]∧ZcJ K x H n∧Q (.int n) H
theorem Zoh(e:X.K=K):Z8 X (.builtin "len") (uJ K):=e▸DH
theorem rY(e:X.K=K):OpR X (compareOp .In) (rIn K false):=e▸DY
theorem fS{e:Expr}{bA:TE}{f:Str}{pos:Pos}(e_:X.K=K)(bD:PE X e bA)(aN:attributeBase e f X.env (eval e X.env)=eval e X.env):PE X (.Attribute e f pos) (tU K bA f):=e_▸Znw bD aN
theorem jQ{o value:Expr}{bA h7:TE}{f:Str}{pos j0:Pos}(e_:X.K=K)(bx:PE X o bA)(cv:PE X value h7)(hs:swapsWith value (some (.Attribute o f j0)) pos.line X.env=pure false):
  PS X (.Assign [.Attribute o f j0] value pos) (tV K bA h7 f):=e_▸Znt bx cv hs
theorem fW{dr l:Expr}{ei:TE}(e_:X.K=K)(aJ:PE X l ei):PI X dr l (tN K ei):=e_▸Zmk aJ
noncomputable def yX (K:Frag) (bA:TE):TT:=λσ H Q=>bA σ H λx H'=>∃k,pD K x H' k∧Q k H'
theorem jR{a:Expr}{bA:TE}(e_:X.K=K)(bx:PE X a bA)(bD:∀mW,isTrue a X.env mW=(do let v←mW;standAt a.pos;holding [v] (truthy v))):PT X a (yX K bA):=e_▸Zk5 bx bD
noncomputable def yY (K:Frag):List V→Hp→VK→Prop:=λxs H Q=>∃x n t b,xs=[x,.ty n]∧Wv K H x t∧PySem.W.kitOne K t (.type n)=some b∧Q (.bl b) H
theorem uK(e:X.K=K):Z8 X (.builtin "isinstance") (yY K):=e▸En
noncomputable def yZ (K:Frag):List V→Hp→VK→Prop:=λxs H Q=>∃p ys,xs=[.ref p]∧(SqL K H p ys∨SqT K H p ys)∧∀l,H l=none→Q (.ref l) (upd H l (.lst ys))
theorem p'(e:X.K=K):Z8 X (.type "list") (yZ K):=e▸DZ
noncomputable def y0 (K:Frag):List V→Hp→VK→Prop:=λxs H Q=>∃(p:Addr)(bs:List Bool),xs=[.ref p]∧SqL K H p (bs.map V.bl)∧Q (.bl (bs.all id)) H
theorem y1(e:X.K=K)(a8:X.calm=true):Z8 X (.builtin "all") (y0 K):=e▸Zjj a8
noncomputable def y2 (K:Frag):List V→Hp→VK→Prop:=λxs H Q=>∃(p:Addr)(ns:List Int),xs=[.ref p]∧SqL K H p (ns.map V.int)∧Q (.int ns.sum) H
theorem EH(e:X.K=K)(a8:X.calm=true):Z8 X (.builtin "sum") (y2 K):=e▸Zjk a8
theorem EI{o:Expr}{to:TE}{name:Str}{dV eb:Pos}{T id:String}{r:V→List V→Hp→VK→Prop}(e_:X.K=K)(m9:PlainAttrs T)(slot:Slot T name id)(hF:typeOf (.builtin id)=pure (.type "method_descriptor"))(bo:MtR X id r)(bz:PE X o to)
  (iw:attributeBase o name X.env (eval o X.env)=eval o X.env:=by rfl) (iy:(dV.endLine==eb.line)=true:=by rfl):PE X (.Call (.Attribute o name dV) [] [] eb) (t2 K T r to):=e_▸Znk m9 slot hF bo bz iw iy
theorem hn{o e:Expr}{a':List Expr}{to:TE}{t:TA}{name:Str}{dV eb:Pos}{T id:String}{r:V→List V→Hp→VK→Prop}(e_:X.K=K)(m9:PlainAttrs T)(slot:Slot T name id)(hF:typeOf (.builtin id)=pure (.type "method_descriptor"))(bo:MtR X id r)(bz:PE X o to)(bx:PA X (e::a') t)
  (iw:attributeBase o name X.env (eval o X.env)=eval o X.env:=by rfl)
  (t3:((backTo eb (starEach (e::a') X.env)).all (λx=>!x.1)&&(backToKw eb (keywordEach [] X.env)).all (λx=>x.1.isSome)
   &&decide ((e::a').length+([]:List Keyword).length+(if([]:List Keyword).isEmpty then 0 else 1)<30))=true:=by rfl)
  (iy:(dV.endLine==eb.line)=true:=by rfl) (hs:starEach (e::a') X.env=(false,eval e X.env)::starEach a' X.env:=by rfl) (m_:(backTo eb (starEach a' X.env)).any (·.1)=false:=by rfl):
  PE X (.Call (.Attribute o name dV) (e::a') [] eb) (tBM K T r to t):=e_▸Zon m9 slot hF bo bz bx iw t3 iy hs m_
theorem jS{a':List Expr}{k:Nat}{t:TGs}{n:Nat}{pos:Pos}(e_:X.K=K)(a8:X.calm=true)(h:PGs X a' t)(bF:(assignEach a' X.env).length=n:=by rfl)(fa:(assignEach a' X.env).findIdx? (·.1)=none:=by rfl):
  PG X (.Tuple a' k pos) (tJ K n t):=e_▸Zmx a8 h bF fa
end
namespace Rd
section
variable {σ:St}{H:Hp}{Q:VK}{K:Frag}
theorem tru{bA:TE}{Q:Bool→Hp→Prop}(h:bA σ H λx H'=>∃k,pD K x H' k∧Q k H'):yX K bA σ H Q:=h
theorem Zpe{xs:List V}(h:∃x n,xs=[x]∧ZcJ K x H n∧Q (.int n) H):uJ K xs H Q:=h
theorem ZoH{xs:List V}(h:∃x n t b,xs=[x,.ty n]∧Wv K H x t∧PySem.W.kitOne K t (.type n)=some b∧Q (.bl b) H):yY K xs H Q:=h
theorem ZoI{xs:List V}(h:∃(p:Addr)(bs:List Bool),xs=[.ref p]∧SqL K H p (bs.map V.bl)∧Q (.bl (bs.all id)) H):y0 K xs H Q:=h
theorem Zat{p:Addr}{xs:List V}(h:SqL K H p xs)(q:∀l,H l=none→Q (.ref l) (upd H l (.lst xs))):yZ K [.ref p] H Q:=⟨p,xs,rfl,.inl h,q⟩
theorem ZoT{p:Addr}{ns:List Int}(h:SqL K H p (ns.map V.int))(q:Q (.int ns.sum) H):y2 K [.ref p] H Q:=⟨p,ns,rfl,h,q⟩
end
end Rd
def HU(A:Around):Prop:=A.units+64<cLine
theorem e2.hu{k:Nat}{A:Around}(h:e2 k A):HU A:=h.units
theorem oA{i n a:Nat}(h:a=n)(k:i<n):i<a:=h▸k
theorem oB{n a m c:Nat}(h:a=n)(k:n≤m)(e:Nat.ble m c=true):a≤c:=h▸qat k (qaO e)
theorem oD{a m c:Nat}(k:a≤m)(e:Nat.ble m c=true):a≤c:=qat k (qaO e)
theorem oF{i a:Nat}(k:i<a):(i:Int)<(a:Int):=Int.ofNat_lt.mpr k
theorem ixk{X:Cx}(K:Frag)(e:X.K=K:=by rfl):IxR X (rIx K):=Zpg e
theorem ha{X:Cx}(K:Frag)(e:X.K=K:=by rfl):OpR X (binaryOp .Add) (rOr rV (rOr uF (rOr rCat (pM K)))):=Zl2 e
theorem gM{X:Cx}(K:Frag)(e:X.K=K:=by rfl):Z8 X (.builtin "len") (uJ K):=Zoh e
structure Ex(K:Frag)(mg:Str→Option Value)(nm:Str)(X:Addr):Prop where
 g:nsIn K mainGlobals nm=some (some (.ref X))
 m:mg nm=some (.ref X)
 e:excIn K X [.type "ValueError",.type "Exception",.type "BaseException",.type "object"] "ValueError.__new__" =true
theorem scI{N P:List Str}{b':Scope}(a:b'.kind= .function:=by rfl)(b:b'.isCoroutine=false:=by rfl)(c:b'.isGenerator=false:=by rfl)(d:N.Nodup:=by decide+kernel)(e:N.take P.length=P:=by rfl)(f:∀x∈P,b'.names.lookup x=some .local∨b'.names.lookup x=some .cell:=by decide+kernel)(g:∀y∈b'.names,y.2≠ .free:=by decide+kernel):Zo N P b':=⟨a,b,c,d,e,f,g⟩
structure Dn(K:Frag)(mg:Str→Option Value)(nm q:Str)(s:Stmt)(ps:List Str) where
 f:Addr
 d:FuncData
 F:Fun K nm q s f d
 b:Wd K d ps []
 m:mg nm=some (.ref f)
structure Dm(K:Frag)(C:Addr)(nm q:Str)(s:Stmt)(ps:List Str) where
 f:Addr
 d:FuncData
 F:Fun K nm q s f d
 b:Wd K d ps []
 M:ZcK K C nm f
structure Di(K:Frag)(C:Addr)(q:Str)(s:Stmt)(ps:List Str) where
 f:Addr
 d:FuncData
 F:Fun K "__init__" q s f d
 b:Wd K d ps []
 M:Mk K C f
abbrev BOk(nm q:Str)(s:Stmt)(ps:List Str):Prop:=∀us:List Value,us.length=ps.length→∀(kV fH e3:Value)(an:Option Addr)(di ct:Value),bindArgs (fnOf nm q (j7 s) (iV s) (dh s) .none kV fH e3 an di ct) ⟨us,[]⟩=pure (ps.zip us)
section
variable {P:Program}{w:World}{K:Frag}{mg:Str→Option Value}{base h:Heap}{nm q:Str}{st:Stmt}{ps:List Str}{C f:Addr}{fM:Value}{eR an:Option Addr}{g_:Array (Option Value)}{kV dc e3 cd ct:Value}
noncomputable def Dn.of (X:K.In h) (G:h.Ns mainGlobals mg) (a:nsIn K mainGlobals nm=some (some (.ref f))) (l:K.lookup f=some ⟨fM,eR,.func (fnOf nm q (j7 st) (iV st) (dh st) .none kV dc e3 an cd ct),g_⟩) (c:codeIn K cd q=true) (k:keepIn K (.ref f)=true)
  (aN:BOk nm q st ps):Dn K mg nm q st ps:=⟨f,_,oh l c k,(oh l c k).binds λa1 dj dM d6 eF hK us e=>aN us e a1 dj dM d6 eF hK,mg_of X G a⟩
noncomputable def Dm.of (a:PySem.W.findIn K (.ref C) nm=some (some (.ref f))) (i:isFn K (.ref f)=true) (l:K.lookup f=some ⟨fM,eR,.func (fnOf nm q (j7 st) (iV st) (dh st) .none kV dc e3 an cd ct),g_⟩) (c:codeIn K cd q=true) (k:keepIn K (.ref f)=true)
  (aN:BOk nm q st ps):Dm K C nm q st ps:=⟨f,_,oh l c k,(oh l c k).binds λa1 dj dM d6 eF hK us e=>aN us e a1 dj dM d6 eF hK,⟨a,i,k⟩⟩
noncomputable def Di.of (z:makesIn K C=true) (y:keepIn K (.ref C)=true) (a:PySem.W.findIn K (.ref C) "__init__" =some (some (.ref f))) (i:isFn K (.ref f)=true) (l:K.lookup f=some ⟨fM,eR,.func (fnOf "__init__" q (j7 st) (iV st) (dh st) .none kV dc e3 an cd ct),g_⟩) (c:codeIn K cd q=true) (k:keepIn K (.ref f)=true)
  (aN:BOk "__init__" q st ps):Di K C q st ps:=⟨f,_,oh l c k,(oh l c k).binds λa1 dj dM d6 eF hK us e=>aN us e a1 dj dM d6 eF hK,⟨z,a,i,y⟩⟩
theorem Zkt{dA:Type _}{P:List dA→Prop}(h:P [])(us:List dA)(e:us.length=0):P us:=match us,e with| [],_=>h
theorem lenS{dA:Type _}{n:Nat}{P:List dA→Prop}(h:∀a (us:List dA),us.length=n→P (a::us))(us:List dA)(e:us.length=n+1):P us:=match us,e with|a::us,e=>h a us (Nat.succ.inj e)
theorem Zm2:W8 K C []:=⟨λ_ h=>nomatch h⟩
theorem Zmb{x:Str}{xs:List Str}(h:PySem.W.findIn K (.ref C) x=some none)(t:W8 K C xs):W8 K C (x::xs):=⟨λf bv=>by
 rcases qad.mp bv with e|e
 ·rw[e];exact h
 ·exact t.out f e⟩
theorem Zm5{dT:Addr}{a:Array Value}{n:Nat}(h:K.lookup dT=some ⟨fM,eR,.seq a n,g_⟩):∃fM eR n sl,K.lookup dT=some ⟨fM,eR,.seq a n,sl⟩:=⟨_,_,_,_,h⟩
abbrev OkN(P:Program)(w:World)(base:Heap)(k:Nat)(D:Dn K mg nm q st ps)(sp:Sp):Prop:=Ys P w K mg base (CXX P w) k D.f D.d ps sp
abbrev OkM(P:Program)(w:World)(mg:Str→Option Value)(base:Heap)(k:Nat)(D:Dm K C nm q st ps)(sp:Sp):Prop:=Ys P w K mg base (CXX P w) k D.f D.d ps sp
abbrev OkI(P:Program)(w:World)(mg:Str→Option Value)(base:Heap)(k:Nat)(D:Di K C q st ps)(sp:Sp):Prop:=Ys P w K mg base (CXX P w) k D.f D.d ps sp
end
section
variable {X:Cx}{CX:CXT}{j k:Nat}{C:Addr}{ps:List Str}{sp:Sp}{E:XK}{x m q:Str}{st:Stmt}{p pos dV:Pos}{e o:Expr}{a':List Expr}{bA:TE}{t:TA}{J:St→Prop}
theorem d8(D:Dn X.K X.mg x q st ps)(F:Ys X.prog X.w X.K X.mg X.base CX j D.f D.d ps sp)(a3:e2 k X.A)(aT:YX CX X E)(bx:PA X (e::a') t)(bj:Nat.ble j k=true:=by rfl)(bc:Gl X x:=by rfl)
  (f':(x==("__debug__" :Str))=false:=by decide) (bD:starEach (e::a') X.env=(false,eval e X.env)::starEach a' X.env:=by rfl) (fN:(backTo pos (starEach a' X.env)).any (·.1)=false:=by rfl):
  PE X (.Call (.Name x p) (e::a') [] pos) (rC sp [] E t):=ZlH (F.mono (qaO bj)) a3 bc D.m D.F.kp D.b .nil aT bx f' bD fN
theorem hb{pl:Sem Bool}(bD:PE X o bA)(c:Cls X.K C)(D:Dm X.K C m q st ps)(F:Ys X.prog X.w X.K X.mg X.base CX j D.f D.d ps sp)(a3:e2 k X.A)(aT:YX CX X E)(bx:PA X (e::a') t)(bj:Nat.ble j k=true:=by rfl)
  (fa:starEach (e::a') X.env=(false,eval e X.env)::starEach a' X.env:=by rfl) (fN:(backTo pos (starEach a' X.env)).any (·.1)=false:=by rfl)
  (ce:eval (.Call (.Attribute o m dV) (e::a') [] pos) X.env=(do
   let d4←eval o X.env
   standAt dV.atName
   let(f,first)←holding [d4] (getMethod d4 m pl)
   callWith pos f first (backTo pos (starEach (e::a') X.env)) (backToKw pos (keywordEach [] X.env))):=by rfl):
  PE X (.Call (.Attribute o m dV) (e::a') [] pos) (pG C m sp [] E bA t):=pI bD c D.M (F.mono (qaO bj)) a3 D.b .nil aT bx fa fN ce
theorem kK{pl:Sem Bool}(bD:PE X o bA)(c:Cls X.K C)(D:Dm X.K C m q st ps)(F:Ys X.prog X.w X.K X.mg X.base CX j D.f D.d ps sp)(a3:e2 k X.A)(aT:YX CX X E)(bj:Nat.ble j k=true:=by rfl)
  (ce:eval (.Call (.Attribute o m dV) [] [] pos) X.env=(do
   let d4←eval o X.env
   standAt dV.atName
   let(f,first)←holding [d4] (getMethod d4 m pl)
   callWith pos f first (backTo pos (starEach [] X.env)) (backToKw pos (keywordEach [] X.env))):=by rfl):
  PE X (.Call (.Attribute o m dV) [] [] pos) (pG C m sp [] E bA tNil):=ZkM bD c D.M (F.mono (qaO bj)) a3 D.b .nil aT ce
theorem EJ{pl:Sem Bool}(bD:PE X o bA)(c:Cls X.K C)(D:Dm X.K C m q st ps)(F:Ys X.prog X.w X.K X.mg X.base CX j D.f D.d ps sp)(a3:e2 k X.A)(aT:Zae CX X J E)(bx:PA X (e::a') t)(bj:Nat.ble j k=true:=by rfl)
  (fa:starEach (e::a') X.env=(false,eval e X.env)::starEach a' X.env:=by rfl) (fN:(backTo pos (starEach a' X.env)).any (·.1)=false:=by rfl)
  (ce:eval (.Call (.Attribute o m dV) (e::a') [] pos) X.env=(do
   let d4←eval o X.env
   standAt dV.atName
   let(f,first)←holding [d4] (getMethod d4 m pl)
   callWith pos f first (backTo pos (starEach (e::a') X.env)) (backToKw pos (keywordEach [] X.env))):=by rfl):
  PE X (.Call (.Attribute o m dV) (e::a') [] pos) (Zdg J C m sp [] E bA t):=Zks bD c D.M (F.mono (qaO bj)) a3 D.b .nil aT bx fa fN ce
theorem EK(D:Di X.K C q st ps)(F:Ys X.prog X.w X.K X.mg X.base CX j D.f D.d ps sp)(a3:e2 (k+1) X.A)(bo:X.mg x=some (.ref C))(aT:YX CX X E)(bx:PA X (e::a') t)(bj:Nat.ble j k=true:=by rfl)(bc:Gl X x:=by rfl)
  (f':(x==("__debug__" :Str))=false:=by decide) (bD:starEach (e::a') X.env=(false,eval e X.env)::starEach a' X.env:=by rfl) (fN:(backTo pos (starEach a' X.env)).any (·.1)=false:=by rfl):
  PE X (.Call (.Name x p) (e::a') [] pos) (pH C sp [] E t):=Zl5 D.M (F.mono (qaO bj)) a3 bc bo D.b .nil aT bx f' bD fN
theorem y3(D:Di X.K C q st ps)(F:Ys X.prog X.w X.K X.mg X.base CX j D.f D.d ps sp)(a3:e2 (k+1) X.A)(bo:X.mg x=some (.ref C))(aT:YX CX X E)(bj:Nat.ble j k=true:=by rfl)(bc:Gl X x:=by rfl)
  (f':(x==("__debug__" :Str))=false:=by decide):PE X (.Call (.Name x p) [] [] pos) (pH C sp [] E tNil):=Zke D.M (F.mono (qaO bj)) a3 bc bo D.b .nil aT f'
end
section
variable {X:Cx}
noncomputable def rDIn:R2:=λy x H Q=>∃a o,x= .ref a∧iY H a y o∧Q (.bl o.isSome) H
noncomputable def rDNotIn:R2:=λy x H Q=>∃a o,x= .ref a∧iY H a y o∧Q (.bl (!o.isSome)) H
theorem y4(hu:X.A.units+64<cLine):OpR X (compareOp .In) rDIn:=by
 intro aK s σ H x y v u Q I bO c9 h;obtain⟨a,o,rfl,g,q⟩:=h;cases c9;exact ZoE (by omega) I g bO λs' eT=>⟨.bl o.isSome,H,eT,rfl,q⟩
theorem qa(hu:X.A.units+64<cLine):OpR X (compareOp .NotIn) rDNotIn:=by
 intro aK s σ H x y v u Q I bO c9 h;obtain⟨a,o,rfl,g,q⟩:=h;cases c9;exact Zmh (by omega) I g bO λs' eT=>⟨.bl (!o.isSome),H,eT,rfl,q⟩
noncomputable def rIxD:R2:=λx y H Q=>∃a v,x= .ref a∧iY H a y (some v)∧Q v H
theorem ox(hu:X.A.units+64<cLine):IxR X rIxD:=by
 intro value slice aK s σ H x y v u Q I bO c9 h hs;obtain⟨a,z,rfl,g,q⟩:=h;cases bO;exact tail_any (Ee I g) PySem.F.slot_dict_getitem.lookup (Ed (by omega) I g c9 λdY s' eT jo=>⟨z,H,eT,jo,q⟩) hs
noncomputable def rSetD:V→V→V→Hp→(Hp→Prop)→Prop:=λo i v H Q=>∃a cw,o= .ref a∧Zdz H a i v cw∧Q cw
theorem nl(hu:X.A.units+64<cLine):Zhq X rSetD:=by
 intro aK s σ H o i v d4 gs u Q I ro ri dC h;obtain⟨a,cw,rfl,g,q⟩:=h;cases ro;exact ZiE (by omega) I g ri dC λs' eT=>⟨cw,eT,q⟩
theorem uL{P:Program}{w:World}{k:Key}{u:Value}(h:(e6 P w).is k u=true):dq (kV k) u:=by
 cases k with
 |inl i=>exact Value.isInt_shape h
 |inr x=>exact Value.isStrOf_shape h
theorem uM:∀{xs:List V}{us:List Value},us.length=xs.length→(∀(j:Nat)(v:V)(u:Value),xs[j]? =some v→us[j]? =some u→dq v u)→dm xs us
 | [],[],_,_=> .nil
 |x::xs,u::us,aJ,h=> .cons (h 0 x u rfl rfl) (uM (by simpa using aJ) λj v w bw bC=>h (j+1) v w (by simpa using bw) (by simpa using bC))
 | [],_::_,aJ,_=>by simp at aJ
 |_::_,[],aJ,_=>by simp at aJ
theorem KV.at{kvs:List (Key×V)}{vs:List (Key×Value)}(r:KV kvs vs):∀{j:Nat}{k:Key}{x:Value},vs[j]? =some (k,x)→∃v,kvs[j]? =some (k,v):=by
 unfold KV at r
 induction r with
 |nil=>intro j k x e;simp at e
 | @cons p q ps eN h t bP=>
  intro j k x e;cases j with
  |zero=>
   simp at e;subst e;have aS:p.1=k:=h.1;exact⟨p.2,by simp[←aS]⟩
  |succ j=>
   obtain⟨v,z⟩:=bP (j:=j) (k:=k) (x:=x) (by simpa using e);exact⟨v,by simpa using z⟩
noncomputable def rListD:List V→Hp→VK→Prop:=λxs H Q=>∃a kvs,xs=[V.ref a]∧H a=some (.dK kvs)∧∀l,H l=none→Q (.ref l) (upd H l (.lst (kvs.map λkv=>kV kv.1)))
theorem y5(a8:X.calm=true):Z8 X (.type "list") rListD:=by
 intro aK s σ H xs us Q I r h;obtain⟨a,kvs,rfl,bx,q⟩:=h;obtain⟨u,rfl,eD⟩:=YE r;cases eD;obtain⟨z,hd,vs,rel,dd⟩:=ZbL I.hok bx;obtain⟨ep,fq⟩:=dd.dictAt;refine kdl_call (PySem.W.kdl_dict (knd:=e6 X.prog X.w) (kvs:=vs) (ep:=ep) hd) (I.ok.hd a8) fq (by rw[←rel.length];exact z) λh' bL dL c a5 oe qb=>?_;refine⟨.ref s.heap.objs.size,_,I.laid (a:=s.heap.objs.size) (o:= .lst (kvs.map λkv=>kV kv.1)) (t':=bL) a5 (fm _) ⟨by rw[GE];exact z,dL.toList,c,?_,by simpa using oe⟩,rfl,q _ (I.hok.fresh (fm _))⟩;refine uM (by rw[qaE,qb.1,GE,rel.length]) λj v u bw bC=>?_;obtain⟨k,x,aT,nn⟩:=qb.2 j u (by rw[←qbd];exact bC);obtain⟨jG,io⟩:=rel.at aT;rw[qaj,io] at bw;cases bw;exact uL nn
end
section
variable {X:Cx}{aK:List (Addr×Obj)}{σ:List (Option V)}{H H':Hp}{s:Shared}{h':Heap}
theorem Inv.turnedL{t':Nat}{fp:List Addr}(I:Inv X aK σ H s)(k:∀b o,b∉fp→s.heap.get? b=some o→h'.get? b=some o)(bv:∀b∈fp,g9 X aK H b):Inv X aK σ H {s with heap:=h',toks:=t'}:=by
 have pf:∀b u,H b=some u→b∉fp:=λb u e z=>by rw[(bv b z).1] at e;cases e
 refine I.step (g':=s.gens) (d':=s.drawn) (ch:=fp) (λb aN=>?_) (λb o _ _ a8 e _=>k b o a8 e) (λb o _ _ a8 e _=>⟨o.slots,k b o a8 e⟩) (λ_ _ _ _ n=>n)
  (λb o a8 e=>⟨o,k b o a8 e⟩) (λ_ _ e=>e) (λ_ _ _ e=>e) (λb ps e=>⟨#[],by rw[e];simp⟩) (λm bo=>?_) (λb u e=>?_) I.bare
 ·obtain⟨ef,f1,f2,dR,eH,ev⟩:=bv b aN;exact⟨dR,f1,eH,ev⟩
 ·obtain⟨o,a',ep,bz,r⟩:=bo;exact⟨o,a',ep,k _ o (λz=>(bv _ z).2.1 rfl) bz,r⟩
 ·refine(I.hok b u e).stay (λc v a8 q=>k c v ?_ q) (λ_ q=>q) λ_ _ q=>q;rcases a8 with z|z
  ·rw[z];exact pf b u e
  ·exact pf c _ z
theorem Inv.turnedNew{t':Nat}{fp:List Addr}{T:Addr}{o:HO}(I:Inv X aK σ H s)(k:∀b o,b∉fp→s.heap.get? b=some o→h'.get? b=some o)(bv:∀b∈fp,g9 X aK H b)(bb:s.heap.objs.size≤T)(new:ZP X.prog X.w (upd H T o) h' T o):
  Inv X aK σ (upd H T o) {s with heap:=h',toks:=t'}:=by
 have J:Inv X aK σ H {s with heap:=h',toks:=t'}:=I.turnedL k bv;have bF:=I.hok.fresh bb;obtain⟨ef,f1,f2,dR,eH,ev⟩:=I.fpOk bb bF;refine Inv.step (s:={s with heap:=h',toks:=t'}) (h':=h') (g':=s.gens) (d':=s.drawn) (t':=t') (ch:=[T]) J (λb aN=>?_) (λb o _ _ a8 e _=>e) (λb o _ _ a8 e _=>⟨o.slots,e⟩) (λb o a8 e n=>?_)
  (λb o a8 e=>⟨o,e⟩) (λb xs e=>?_) (λb o u e=>?_) (λb ps e=>⟨#[],?_⟩) (λm bo=>bo) (λb u e=>?_) I.bare
 ·have e:b=T:=by simpa using aN
  subst e;exact⟨dR,f1,eH,ev⟩
 ·rw[b2 (λz=>a8 (by simp[z]))];exact n
 ·rw[b2 (d9 e bF)];exact e
 ·rw[b2 (d9 e bF)];exact e
 ·rw[b2 (d9 e bF)];simpa using e
 ·by_cases aN:b=T
  ·subst aN;rw[Zd] at e;cases e;exact new
  ·rw[b2 aN] at e;exact(J.hok b u e).stay (λc v _ q=>q) (λc q=>by rw[b2 (d9 q bF)];exact q) λc xs q=>by rw[b2 (d9 q bF)];exact q
end
noncomputable def Ite (K:Frag) (a:Addr):It:=
 ⟨λi H=>∃xs x,SqL K H a xs∧xs[i]? =some x,λi H v H'=>∃t x,H t=none∧v= .ref t∧H'=upd H t (.tup [.int i,x])∧∀xs,SqL K H a xs→xs[i]? =some x,λi H=>∃xs,SqL K H a xs∧xs.length≤i⟩
theorem EL{P:Program}{w:World}{K:Frag}{np:List Expr}{k1:Nat}{pos:Pos}(a e it:Addr)(y6:e≠it):Uf P w K (.Tuple np k1 pos) (Ite K a) [e,it] e (λi h=>(∃jk,IsEnum h e it i jk)∧h.IsListIter it a i) where
 mem:=by simp
 obj:=λi h st b aN=>by
  obtain⟨⟨jk,bD⟩,o,aS,a2,bU⟩:=st;rcases qad.mp aN with rfl|aN
  ·exact⟨_,bD,λv z=>by
    have gq:Data.fields _=Data.cell v:=z;cases gq⟩
  ·rw[FM.mp aN];exact⟨o,aS,λv z=>by rw[bU] at z;cases z⟩
 keep:=λi h h' st k=>⟨let⟨jk,bD⟩:=st.1;⟨jk,k e (by simp) _ bD⟩,st.2.at λo q=>k it (by simp) o q⟩
 item:=by
  intro X d1 hw eJ a8 i aK s σ H E I bv st bc;subst d1 hw eJ;obtain⟨xs,x,bT,aT⟩:=bc;obtain⟨its,dC,p,hz⟩:=I.list bT;obtain⟨u,hu,eD⟩:=dC.get aT;obtain⟨⟨jk,bD⟩,eW⟩:=st;refine wpAny_pyNext_enum_item bD eW p.isList (x:=u) (by simpa using hu) y6 λh' bz uN ek hsz a5=>?_;have gy:=I.hok.fresh (fm s.heap.objs.size);have y7:e<s.heap.objs.size:=Heap.lt_size bD;have rZ:it<s.heap.objs.size:=by obtain⟨_,y,_⟩:=eW;exact Heap.lt_size y
  refine⟨_,rfl,wpAny_letOwnedTupleGo_enum bz λa2 lC j4=>?_⟩;have qc:a2.get? s.heap.objs.size=some {cls:= .type "tuple",data:= .seq #[.int i s.toks,u]}:=j4.extBut _ _ (qcg y7) ek;have bB:Inv X aK σ (upd H s.heap.objs.size (.tup [.int i,x])) {s with heap:=a2,toks:=s.toks+1}:=
   I.turnedNew (fp:=[e,it]) (λb o aN q=>by
    have i2:b≠e:=λz=>aN (by simp[z]);have jl:b≠it:=λz=>aN (by simp[z]);exact j4.extBut b o i2 (a5 b o i2 jl q)) bv (fm _) ⟨by show 2≤sizeLine;decide,[.int i s.toks,u],.cons ⟨_,rfl⟩ (.cons eD .nil),_,qc,rfl,_,rfl⟩
  refine⟨.ref s.heap.objs.size,_,bB,rfl,⟨_,x,gy,rfl,rfl,λys bE=>by rw[I.list_inj bE bT];exact aT⟩,⟨⟨_,lC⟩,uN.at λo q=>j4.extBut _ _ y6.symm q⟩,λb aN=>?_⟩;have uO:b≠s.heap.objs.size:=by
   rcases qad.mp aN with rfl|aN
   ·exact qai y7
   ·rw[FM.mp aN];exact qai rZ
  rw[b2 uO];exact(bv b aN).1
 done:=by
  intro X d1 hw eJ a8 i aK s σ H E I bv st bc;subst d1 hw eJ;obtain⟨xs,bT,aT⟩:=bc;obtain⟨its,dC,p,hz⟩:=I.list bT;obtain⟨⟨jk,bD⟩,eW⟩:=st;have aJ:=dC.length;exact wpAny_pyNext_enum_end (I.ok.hd a8) bD eW p.isList (by simp;omega) λh' dJ=>⟨rfl,I.turnedL (t':=s.toks) (fp:=[e,it]) (λb o aN q=>dJ b o (λz=>aN (by simp[z])) q) bv⟩
 self:=λ_ _ _ _ _ st h=>wpAny_pyIter_enum st.1.choose_spec h
section
variable {X:Cx}
noncomputable def y8 (K:Frag) (bA:TA):TI:=λσ H R=>bA σ H λvs aU=>∃a,vs=[.ref a]∧(∃xs,SqL K aU a xs)∧R (Ite K a) aU
theorem qd{K:Frag}{a:Expr}{bA:TA}{p pos m1:Pos}{np:List Expr}{k1:Nat}(e_:X.K=K)(bc:Gl X "enumerate")(bo:X.mg "enumerate" =none)(bx:PA X [a] bA)(hs:starEach [a] X.env=[(false,eval a X.env)]:=by rfl):
  PI X (.Tuple np k1 m1) (.Call (.Name "enumerate" p) [a] [] pos) (y8 K bA):=by
 subst e_;intro aK s σ H R I h;refine Call_ (jH I bc bo boot_enumerate (qaT (thn (bx pos aK s σ H _ I h) λus a7 ⟨vs,aU,bB,df,c8⟩=>?_) hs rfl));obtain⟨b,rfl,⟨xs,bT⟩,q⟩:=c8;obtain⟨u,rfl,eD⟩:=YE df;cases eD;obtain⟨its,dC,pl,hz⟩:=bB.list bT;refine call_enumerate_list pl.isList λh' bD eW hsz a5=>?_;refine wpAny_pyIter_enum bD ?_;have ds:Inv X aK σ aU {a7 with heap:=h'}:=bB.kept (t':=a7.toks) a5;refine⟨a7.heap.objs.size+1,[a7.heap.objs.size+1,a7.heap.objs.size],_,_,aU,rfl,ds,EL b _ _ (Nat.succ_ne_self _),⟨⟨_,bD⟩,eW⟩,λc a8=>?_,q⟩;rcases qad.mp a8 with rfl|a8
 ·exact bB.fpOk (qb2 _) (bB.hok.fresh (qb2 _))
 ·rw[FM.mp a8];exact bB.fpOk (fm _) (bB.hok.fresh (fm _))
end
noncomputable def rLenD:List V→Hp→VK→Prop:=λxs H Q=>∃a kvs,xs=[V.ref a]∧H a=some (.dK kvs)∧Q (.int kvs.length) H
theorem Zit{X:Cx}:Z8 X (.builtin "len") rLenD:=El
noncomputable def mj (n:Nat) (ix:List Nat) (σ:St):St:=List.replicate n none++ix.map λj=>(σ[j]?).join
noncomputable def uP (n:Nat) (ix:List Nat) (e0:TI) (g:TG) (d_:TT) (dg:TE):TE:=λσ H Q=>e0 σ H λJ aU=>∀p,aU p=none→
 ∃W:Nat→Nat→List V→St→Hp→Prop,(∃m,W 0 m [] (mj n ix σ) (upd aU p (.lst [])))∧∀i m ys bN H',W i m ys bN H'→
  (J.stop i H'∧Q (.ref p) H')∨(J.go i H'∧∀x a4,J.yld i H' x a4→g x bN a4 λdn b_=>d_ dn b_ λb cw=>
   if b=true then dg dn cw λv b3=>b3 p=some (.lst ys)∧ys.length<sizeLine∧∃da,da<m∧W (i+1) da (ys++ [v]) dn (upd b3 p (.lst (ys++ [v])))
   else ∃da,da<m∧W (i+1) da ys dn cw)
section
variable {X:Cx}
theorem ZgM{aK:List (Addr×Obj)}{σ:St}{H:Hp}{s:Shared}{b':Scope}{x:Str}{xs:List Str}{zs:List Str}{ix:List Nat}{cl:List (Str×Addr)}{fp:List Addr}{h₁:Heap}{bL:Nat}
  (S:YG X b' x zs ix) (I:Inv X aK σ H s) (fo:∀y c,cl.lookup y=some c→X.env.cells.lookup y=some c) (hk:∀y,(y,NameKind.free)∈b'.names→∃c,cl.lookup y=some c)
  (hl:∀b∈fp,g9 X aK H b∧b<s.heap.objs.size) (hY:h₁.Ns s.heap.objs.size λ_=>none) (a5:∀b o,s.heap.get? b=some o→h₁.get? b=some o):
  Inv (Zl X b' cl s.heap.objs.size (xs++zs) s H fp) [] (mj xs.length ix σ) H {s with heap:=h₁,toks:=bL}:=by
 have sub:∀b∈frs X.stack,b∈X.env.locals::X.fs:=I.stkSub;have ui:∀b∈fp,b∉frs X.stack:=λb aN z=>by
  obtain⟨⟨_,f1,f2,_⟩,_⟩:=hl b aN;rcases qad.mp (sub b z) with e|e
  ·exact f1 e
  ·exact f2 e
 have cut:∀y,(Zl X b' cl s.heap.objs.size (xs++zs) s H fp).env.kindOf y=some .cell∨(Zl X b' cl s.heap.objs.size (xs++zs) s H fp).env.kindOf y=some .free→∃c,cl.lookup y=some c:=λy bE=>by
  have q:∃k,(relabel b' X.env).names.lookup y=some k∧(k= .cell∨k= .free):=by
   rcases bE with bE|bE
   ·exact⟨_,bE,.inl rfl⟩
   ·exact⟨_,bE,.inr rfl⟩
  obtain⟨k,e,a5⟩:=q;obtain⟨gI,b1,q⟩:=Wm e;have:gI= .free:=by
   rcases q with q|⟨q,_⟩
   ·rcases a5 with z|z
    ·exact absurd (q.symm.trans z) (S.nocell _ (md b1))
    ·exact q.symm.trans z
   ·exact q
  subst this;exact hk y (md b1)
 refine⟨⟨I.ok.mod,S.kind,I.ok.glob,I.ok.blt,fm _,λy z c aS a2=>I.ok.inj y z c (fo _ _ aS) (fo _ _ a2),cut,λy c bv _=>?_,I.ok.hd,I.ok.frames,.inl rfl,λb aN=>?_,I.bs,qat I.ok.bsz I.sz,λb o e aN=>?_,ui,I.stack,I.stkFree⟩,
  rfl,I.bare,Un.kept a5,⟨_,hY,λi y v aS a2 bU=>?_⟩,λy c h=>?_,I.hok.fresh (fm _),λy c h=>I.freeC y c (fo y c h),λp bb=>absurd (show p∈([]:List (Addr×Obj)) from bb) (by simp),I.hok.kept a5,?_⟩
 ·exact absurd (show false=true from bv) (by decide)
 ·obtain⟨⟨ef,f1,f2,dR,eH,ev⟩,aJ⟩:=hl b aN;exact⟨qai aJ,λy c h=>eH y c (fo y c h)⟩
 ·obtain⟨⟨ef,f1,f2,dR,eH,ev⟩,aJ⟩:=hl b aN;rcases dR with z|z
  ·exact I.ok.noex b o e z
  ·exact absurd (qaf (Heap.lt_size e) (qat I.ok.bsz z)) (qbe _)
 ·
  have eV:xs.length≤i:=by
   rcases qbw i xs.length with z|z
   ·have hZ:(List.replicate xs.length none++ix.map λj=>(σ[j]?).join)[i]? =some (some v):=a2;rw[qaW (by rw[qa3];exact z),List.getElem?_replicate,if_pos z] at hZ;cases hZ
   ·exact z
  ·obtain⟨i,rfl⟩:∃hm,i=xs.length+hm:=⟨i-xs.length,by omega⟩;have me:zs[i]? =some y:=by
    have me:(xs++zs)[xs.length+i]? =some y:=aS;rw[qaV (Nat.le_add_right _ _),Nat.add_sub_cancel_left] at me;exact me
   have hZ:(ix.map λj=>(σ[j]?).join)[i]? =some (some v):=by
    have hZ:(List.replicate xs.length none++ix.map λj=>(σ[j]?).join)[xs.length+i]? =some (some v):=a2;rw[qaV (by rw[qa3];exact Nat.le_add_right _ _),qa3,Nat.add_sub_cancel_left] at hZ;exact hZ
   have bx:(ix.map λj=>X.N[j]?)[i]? =some (some y):=by rw[S.at_,qaj,me];rfl
   rw[qaj] at hZ bx;cases e:ix[i]? with
   |none=>rw[e] at hZ;cases hZ
   |some j=>
    rw[e] at hZ bx;have gZ:X.N[j]? =some y:=qam bx;have bj:(σ[j]?).join=some v:=qam hZ;have pV:σ[j]? =some (some v):=by
     cases q:σ[j]? with
     |none=>rw[q] at bj;cases bj
     |some o=>rw[q] at bj;exact congrArg some bj
    obtain⟨m,bF,aJ⟩:=I.loc;have gy:=S.zfree y (qal me);have ll:=S.free _ (md gy) rfl;have cv:Vis X.env.scope y:=by
     rcases ll with z|z
     ·exact .inr (.inl z)
     ·exact .inr (.inr z)
    obtain⟨u,r,q⟩:=aJ j y v gZ pV cv;refine⟨u,r,?_⟩;rcases q with⟨uj,_⟩|⟨_,c,a8,l2⟩
    ·have pW:X.env.kindOf y=some .local:=uj;rcases ll with z|z<;>(rw[z] at pW;cases pW)
    ·obtain⟨eg,k'⟩:=hk y (md gy);have jO:eg=c:=by have:=fo y eg k';rw[a8] at this;exact(qam this).symm
     subst jO;refine .inr ⟨?_,eg,k',?_⟩
     ·have uk:Vis (relabel b' X.env) y:=bU;rcases uk with z|z|z
      ·obtain⟨gI,b1,q⟩:=Wm z;rw[gy] at b1;cases b1;rcases q with q|⟨_,q⟩<;>cases q
      ·exact .inl z
      ·exact .inr z
     ·obtain⟨o,bz,hd⟩:=l2;exact⟨o,a5 _ _ bz,hd⟩
 ·obtain⟨v,o,bz,hd⟩:=I.cell y c (fo y c h);exact⟨v,o,a5 _ _ bz,hd⟩
 ·show(List.replicate xs.length none++ix.map λj=>(σ[j]?).join).length=(xs++zs).length;have:=congrArg List.length S.at_;simp only[GE] at this;simp only[qap,qa3,GE,this]
theorem Zb5{aK:List (Addr×Obj)}{σ:St}{H:Hp}{s:Shared}{b':Scope}{x:Str}{xs:List Str}{zs:List Str}{ix:List Nat}{cl:List (Str×Addr)}{fp:List Addr}{it:Addr}{eC:Nat→Heap→Prop}{J:It}
  {fD dr eL:Expr} {ifs:List Expr} {pos:Pos} {g:TG} {d_:TT} {dg:TE} {Q:VK} {E:Value→Shared→Prop} {RR:Value→Addr→Result→Shared→Prop}
  (a8:X.calm=true) (S:YG X b' x zs ix) (I:Inv X aK σ H s) (fo:∀y c,cl.lookup y=some c→X.env.cells.lookup y=some c) (hk:∀y,(y,NameKind.free)∈b'.names→∃c,cl.lookup y=some c)
  (T:Uf X.prog X.w X.K dr J fp it eC) (st:eC 0 s.heap) (hl:∀b∈fp,g9 X aK H b)
  (fe:∀C s H,PG (Zl X b' cl C (xs++zs) s H fp) dr g∧PIf (Zl X b' cl C (xs++zs) s H fp) ifs d_∧PE (Zl X b' cl C (xs++zs) s H fp) fD dg)
  (bT:∀p,H p=none→∃W:Nat→Nat→List V→St→Hp→Prop,(∃m,W 0 m [] (mj xs.length ix σ) (upd H p (.lst [])))∧∀i m ys bN H',W i m ys bN H'→
   (J.stop i H'∧Q (.ref p) H')∨(J.go i H'∧∀x a4,J.yld i H' x a4→g x bN a4 λdn b_=>d_ dn b_ λb cw=>
    if b=true then dg dn cw λv b3=>b3 p=some (.lst ys)∧ys.length<sizeLine∧∃da,da<m∧W (i+1) da (ys++ [v]) dn (upd b3 p (.lst (ys++ [v])))
    else ∃da,da<m∧W (i+1) da ys dn cw))
  (d5:∀dL C f s',yK X aK σ Q dL C s'→RR dL C (.ok f) s'):
  wpAny (model X.prog X.w) X.A (newList []) (λdL jj=>wpAny (model X.prog X.w) X.A (newFunctionEnv b' X.env.globals cl [] X.env.qual none .none (some X.env)) (λpX ol=>
   codeAny (model X.prog X.w) X.A (.compStart (.ListComp fD [⟨dr,eL,ifs,0⟩] b' pos) 0 (.ref it) dL {pX with scope:=relabel b' X.env}) (RR dL pX.locals) ol) E jj) E s:=by
 refine wpAny_newObj_type (wpAny_newFunctionEnv S.nocell (by intro y bE;simp at bE) (λh₁ hns₁ pY=>?_) S.kind);have en:Inv X aK σ (upd H s.heap.objs.size (.lst [])) {s with heap:=s.heap.push {cls:= .type "list",dict:=none,data:= .seq ([]:List Value).toArray}}:=I.lnew (its:=[]) (ys:=[]) (t':=s.toks) .nil (qav _);dsimp only at hns₁ pY⊢;obtain⟨W,⟨h6,f_⟩,turn⟩:=bT s.heap.objs.size (I.hok.fresh (fm _));have lt:∀b∈fp,b<s.heap.objs.size:=λb aN=>by
  obtain⟨o,e,_⟩:=T.obj 0 s.heap st b aN;exact Heap.lt_size e
 have om:∀b∈fp,∀o,(upd H s.heap.objs.size o) b=H b:=λb aN o=>b2 (qai (lt b aN));have kp:∀b o,(s.heap.push {cls:= .type "list",dict:=none,data:= .seq ([]:List Value).toArray}).get? b=some o→h₁.get? b=some o:=λb o e=>
  pY.extBut b o (qai (Heap.lt_size e)) (Heap.get?_push_of_some _ e)
 have dR:∀b∈fp,g9 X aK (upd H s.heap.objs.size (.lst [])) b∧b<(s.heap.push {cls:= .type "list",dict:=none,data:= .seq ([]:List Value).toArray}).objs.size:=λb aN=>by
  obtain⟨ul,q⟩:=hl b aN;refine⟨⟨(om b aN _).trans ul,q⟩,?_⟩;rw[Heap.size_push];exact qaM (lt b aN)
 generalize kH:({s with heap:=s.heap.push {cls:= .type "list",dict:=none,data:= .seq ([]:List Value).toArray}}:Shared)=bM at en;have pZ:s.heap.push {cls:= .type "list",dict:=none,data:= .seq ([]:List Value).toArray}=bM.heap:=by rw[←kH]
 rw[pZ] at kp dR hns₁⊢;have kB:eC 0 h₁:=T.keep 0 _ _ st λb _ o e=>kp b o (by rw[←pZ];exact Heap.get?_push_of_some _ e);have lv:Inv (Zl X b' cl bM.heap.objs.size (xs++zs) bM (upd H s.heap.objs.size (.lst [])) fp) [] (mj xs.length ix σ) (upd H s.heap.objs.size (.lst [])) {bM with heap:=h₁,toks:=bM.toks}:=
  ZgM S en fo hk dR hns₁ kp
 obtain⟨bc,um,bD⟩:=fe bM.heap.objs.size bM (upd H s.heap.objs.size (.lst []));have nf:∀{H':Hp},(∀b∈fp,H' b=none)→∀b∈fp,g9 (Zl X b' cl bM.heap.objs.size (xs++zs) bM (upd H s.heap.objs.size (.lst [])) fp) [] H' b:=λ{H'} bF b aN=>
  ⟨bF b aN,(lv.ok.exf b aN).1,lv.ok.exfs b aN,.inl aN,(lv.ok.exf b aN).2,λp bb=>absurd (show p∈([]:List (Addr×Obj)) from bb) (by simp)⟩
 have p0:∀c_:Shared,c_={bM with heap:=h₁,toks:=bM.toks}→
   codeAny (model X.prog X.w) X.A (.compLoop (.ListComp fD [⟨dr,eL,ifs,0⟩] b' pos) 0 (.ref it) (.ref s.heap.objs.size) (compEnvC b' cl bM.heap.objs.size X.env)) (RR (.ref s.heap.objs.size) bM.heap.objs.size) c_:=by
  rintro c_ rfl;refine Zbb (λn s'=>∃i ys bN H',Inv (Zl X b' cl bM.heap.objs.size (xs++zs) bM (upd H s.heap.objs.size (.lst [])) fp) [] bN H' s'∧eC i s'.heap∧(∀b∈fp,H' b=none)∧W i n ys bN H') ?_ h6
   ⟨0,[],mj xs.length ix σ,_,lv,kB,λb aN=>(dR b aN).1.1,f_⟩
  rintro n dt ⟨i,ys,lw,b3,jK,lg,iP,uo⟩;rcases turn i n ys lw b3 uo with⟨stop,m3⟩|⟨go,step⟩
  ·refine thn (T.done (Zl X b' cl bM.heap.objs.size (xs++zs) bM (upd H s.heap.objs.size (.lst [])) fp) rfl rfl rfl a8 i [] dt lw b3 _ jK (nf iP) lg stop) λr eB ⟨a3,hg⟩=>?_;subst a3;obtain⟨up,p1,_⟩:=hg.loc;refine d5 _ _ _ _ ⟨s.heap.objs.size,b3,up,rfl,p1,?_,en.fpOk (fm _) hg.free,m3⟩;exact en.call' hg.os hg.base hg.hok hg.bare λb aN=>by
    obtain⟨⟨ef,f1,f2,dR,eH,ev⟩,_⟩:=dR b aN;exact⟨dR,f1,eH,ev⟩
  ·refine thn (T.item (Zl X b' cl bM.heap.objs.size (xs++zs) bM (upd H s.heap.objs.size (.lst [])) fp) rfl rfl rfl a8 i [] dt lw b3 _ jK (nf iP) lg go) λr eB ⟨u,a3,d2⟩=>?_;subst a3;refine thn d2 λ_ e8 ⟨x7,ed,hW,pB,uq,ng,p2⟩=>?_;have ur:=hW.pinned (nf p2) (T.obj _ _ ng);refine thn (bc _ e8 lw ed x7 u _ ur pB (step x7 ed uq)) λ_ gi ⟨nh,e5,p3,ut⟩=>?_;refine thn (um _ gi nh e5 _ p3 ut) λb g0 ⟨fI,p4,lx⟩=>?_;have again:∀{ni:List V}{bN:St}{H':Hp}{da:Nat}{s':Shared},Inv (Zl X b' cl bM.heap.objs.size (xs++zs) bM (upd H s.heap.objs.size (.lst [])) fp) ([]++Zas fp e8.heap) bN H' s'→W (i+1) da ni bN H'→da<n→
     ∃m,m<n∧∃i ys bN H',Inv (Zl X b' cl bM.heap.objs.size (xs++zs) bM (upd H s.heap.objs.size (.lst [])) fp) [] bN H' s'∧eC i s'.heap∧(∀b∈fp,H' b=none)∧W i m ys bN H':=λ{ni bN H' da s'} Iz j8 bo=>by
    refine⟨da,bo,i+1,ni,bN,H',Iz.unpinned,T.keep _ _ _ ng λb aN o e=>(Iz.pin (b,o) (qar _ (qar _ (n9 aN e)))).1,λb aN=>?_,j8⟩;obtain⟨o,e,d⟩:=T.obj _ _ ng b aN;exact(Iz.pin (b,o) (qar _ (qar _ (n9 aN e)))).2.1
   cases b with
   |false=>
    rw[if_neg qag] at lx⊢;obtain⟨da,bo,j8⟩:=lx;exact again p4 j8 bo
   |true=>
    rw[if_pos rfl] at lx⊢;refine thn (bD _ g0 nh fI _ p4 lx) λv gK ⟨y,fP,uu,uv,aJ,hz,da,bo,j8⟩=>?_;refine thn (iT _ gK nh fP (.ref s.heap.objs.size) [y] (.ref s.heap.objs.size) [v] (λz H'=>z= .non∧H'=upd fP s.heap.objs.size (.lst (ys++ [y]))) uu rfl (.cons uv .nil) ⟨_,ys,y,rfl,rfl,aJ,hz,rfl,rfl⟩) λ_ jq ⟨z,hH,uw,_,_,ux⟩=>?_;subst ux;exact again uw j8 bo
 exact codeAny_compStart_list (p0 _ (by subst kH;rfl)) (T.self _ 0 _ _ _ kB (p0 _ (by subst kH;rfl)))
theorem ml{fD dr eL:Expr}{ifs:List Expr}{b':Scope}{pos:Pos}{x:Str}{xs:List Str}{zs:List Str}{ix:List Nat}{e0:TI}{g:TG}{d_:TT}{dg:TE}
  (a8:X.calm=true) (S:YG X b' x zs ix) (hi:PI X dr eL e0)
  (fe:∀cl C s H fp,PG (Zl X b' cl C (xs++zs) s H fp) dr g∧PIf (Zl X b' cl C (xs++zs) s H fp) ifs d_∧PE (Zl X b' cl C (xs++zs) s H fp) fD dg)
  (hs:∀x,foldedSetIterable eL X.env x=pure x:=by intro _;rfl):
  PE X (.ListComp fD [⟨dr,eL,ifs,0⟩] b' pos) (uP xs.length ix e0 g d_ dg):=by
 intro aK s σ H Q I h;obtain⟨cl,lz,fo,hk⟩:=WL I.ok S;rw[eval_ListComp];refine wpAny_comprehension_free (use:=none) rfl hs lz S.kind S.names (thn (hi aK s σ H _ I h) λv a7 aS=>thn aS λlf bK a2=>?_);obtain⟨it,fp,eC,J,a4,e,ds,T,j2,f2,bT⟩:=a2;subst e;refine Zb5 (RR:=λdL C=>compPost (model X.prog X.w) X.A X.xe none (EP X aK σ Q) dL C) a8 S ds fo hk T j2 f2 (λC s H=>fe cl C s H fp) bT λdL C f s' h=>?_;obtain⟨p,H',m,rfl,bo,eT,⟨ff,g1,g2,g3,iB,lA⟩,q⟩:=h;exact⟨m,bo,λh' aN=>⟨.ref p,H',eT.turned (t':=s'.toks) (λb o eO e=>(aN.2 b eO).trans e) ff g1 g3 iB lA,rfl,q⟩⟩
theorem uQ{fD dr eL:Expr}{ifs:List Expr}{b':Scope}{pos py p5:Pos}{x y:Str}{xs:List Str}{zs:List Str}{ix:List Nat}{e0:TI}{g:TG}{d_:TT}{dg:TE}{j:Nat}
  (a8:X.calm=true) (S:YG X b' x zs ix) (hi:PI X dr eL e0)
  (fe:∀cl C s H fp,PG (Zl X b' cl C (xs++zs) s H fp) dr g∧PIf (Zl X b' cl C (xs++zs) s H fp) ifs d_∧PE (Zl X b' cl C (xs++zs) s H fp) fD dg)
  (eG:X.N.Nodup) (bj:X.N[j]? =some y) (bE:Loc X.env.scope y)
  (uy:swapsWith (.ListComp fD [⟨dr,eL,ifs,0⟩] b' pos) (some (.Name y py)) p5.line X.env=pure true:=by rfl)
  (bv:X.fn y=true∨X.env.scope.names.lookup y=some .local:=by first|exact .inl rfl|exact .inr rfl|assumption)
  (hs:∀x,foldedSetIterable eL X.env x=pure x:=by intro _;rfl):
  PS X (.Assign [.Name y py] (.ListComp fD [⟨dr,eL,ifs,0⟩] b' pos) p5) (pp (uP xs.length ix e0 g d_ dg) (VB j)):=by
 intro aK s σ H D I h;obtain⟨cl,lz,fo,hk⟩:=WL I.ok S;rw[exec_Assign_Name_used _ _ _ _ uy];refine wpAny_bind (wpAny_standAt (wpAny_bind ?_));show wpAny _ X.A (do let _←comprehension (.ListComp fD [⟨dr,eL,ifs,0⟩] b' pos) b' X.env _ (newList []) false (eval eL X.env) (some (assign (.Name y py) X.env))) _ _ s;refine wpAny_bind (wpAny_mono (wpAny_comprehension_free (use:=some (assign (.Name y py) X.env)) (Q:=λ_ s'=>SP X aK D .next s') rfl hs lz S.kind S.names
  (thn (hi aK s σ H _ I h) λv a7 aS=>thn aS λlf bK a2=>?_)) (λ_ s' bT=>wpAny_pure (wpAny_pure bT)) λ_ _ e=>e)
 obtain⟨it,fp,eC,J,a4,e,ds,T,j2,f2,bT⟩:=a2;subst e;refine Zb5 (Q:=λx aU=>VB j x σ aU D.nx) (RR:=λdL C=>compPost (model X.prog X.w) X.A X.xe (some (assign (.Name y py) X.env)) (λ_ s'=>SP X aK D .next s') dL C) a8 S ds fo hk T j2 f2 (λC s H=>fe cl C s H fp) bT λdL C f s' h=>?_;obtain⟨p,H',m,rfl,bo,eT,⟨ff,g1,g2,g3,iB,lA⟩,q⟩:=h;show wpAny _ X.A (assign (.Name y py) X.env (.ref p)) _ _ _;refine wpAny_assign_Name (tE eT eG bj bE (show dq (.ref p) (.ref p) from rfl) (λm7 I'' ⟨c,uz,n7⟩=>?_) bv);have eO:C≠c:=by
  rcases n7 with z|z
  ·rw[z];exact g1
  ·exact qbP (iB _ _ z)
 exact⟨m,bo.sameBut uz eO,λh' aN=>⟨_,H',I''.turned (t':=m7.toks) (λb o eO e=>(aN.2 b eO).trans e) ff g1 g3 iB lA,q⟩⟩
end
structure V7(J:It)(n:Nat)(y:Nat→Hp→V→Hp→Prop)(H:Hp):Prop where
 go:∀H' i,Ze H H'→i<n→J.go i H'
 yld:∀H' i x a4,Ze H H'→i<n→J.yld i H' x a4→y i H' x a4
 stop:∀H',Ze H H'→J.stop n H'
theorem Walks.y{J:It}{n:Nat}{f:Nat→V}{H:Hp}(w:Walks J n f H):V7 J n (λi H' v a4=>a4=H'∧v=f i) H:=⟨w.go,w.yld,w.stop⟩
theorem qe{K:Frag}{a:Addr}{xs:List V}{H:Hp}(h:SqL K H a xs):V7 (Ite K a) xs.length (λi H' v a4=>∃t,H' t=none∧v= .ref t∧a4=upd H' t (.tup [.int i,xs.getD i .non])) H:=
 ⟨λH' i e hi=>⟨xs,xs[i],e.seq h,by simp[hi]⟩,λH' i x a4 e hi ⟨t,z,ce,cv,a2,hz⟩=>⟨t,ce,cv,by
  have:=hz xs (e.seq h);rw[a2];simp[List.getD,this]⟩,λH' e=>⟨xs,e.seq h,fm _⟩⟩
theorem YA{own:Nat}{ix:List Nat}{g:TG}{d_:TT}{dg:TE}{Q:Addr→Hp→Prop}{σ:St}{H:Hp}{J:It}{n:Nat}{y:Nat→Hp→V→Hp→Prop}(w:V7 J n y H)(bF:n<sizeLine)(s:Nat→List (Option V))(hs:∀i,(s i).length=own)(c:Nat→Bool)(R:Nat→V→Hp→Prop)
  (mono:∀i v aU a4,Ze aU a4→R i v aU→R i v a4)
  (bc:∀i a H' v a4 (ib:St→Hp→Prop),i<n→Ze H H'→y i H' v a4→a.length=own→(∀b_,Ze H' b_→ib (s i++ix.map λj=>(σ[j]?).join) b_)→g v (a++ix.map λj=>(σ[j]?).join) a4 ib)
  (a8:∀i H' (dW:Bool→Hp→Prop),i<n→Ze H H'→(∀cw,Ze H' cw→dW (c i) cw)→d_ (s i++ix.map λj=>(σ[j]?).join) H' dW)
  (bD:∀p i H' (dW:VK),i<n→c i=true→H p=none→(∃ys,H' p=some (.lst ys))→Ze H H'→(∀v b3,Ze H' b3→R i v (hid b3 p)→dW v b3)→dg (s i++ix.map λj=>(σ[j]?).join) H' dW)
  (q:∀p H' ys,H p=none→Ze H H'→H' p=some (.lst ys)→Paired (λi v=>R i v (hid H' p)) ((List.range n).filter c) ys→Q p H'):
  ∀p,H p=none→∃W:Nat→Nat→List V→St→Hp→Prop,(∃m,W 0 m [] (mj own ix σ) (upd H p (.lst [])))∧∀i m ys bN H',W i m ys bN H'→
   (J.stop i H'∧Q p H')∨(J.go i H'∧∀x a4,J.yld i H' x a4→g x bN a4 λdn b_=>d_ dn b_ λb cw=>
    if b=true then dg dn cw λv b3=>b3 p=some (.lst ys)∧ys.length<sizeLine∧∃da,da<m∧W (i+1) da (ys++ [v]) dn (upd b3 p (.lst (ys++ [v])))
    else ∃da,da<m∧W (i+1) da ys dn cw):=by
 intro p bb;have y9:∀{aU a4:Hp},Ze aU a4→Ze (hid aU p) (hid a4 p):=λ{aU a4} e b o z=>by
  by_cases h:b=p
  ·rw[h,ot] at z;cases z
  ·rw[Yj h] at z⊢;exact e b o z
 have y_:∀{aU:Hp}{o:HO},Ze (hid aU p) (hid (upd aU p o) p):=λ{aU o} b u z=>by
  by_cases h:b=p
  ·rw[h,ot] at z;cases z
  ·rw[Yj h] at z⊢;rw[b2 h];exact z
 refine⟨λi m ys bN H'=>m=n-i∧i≤n∧(∃a,a.length=own∧bN=a++ix.map λj=>(σ[j]?).join)∧Ze H H'∧H' p=some (.lst ys)∧Paired (λi v=>R i v (hid H' p)) ((List.range i).filter c) ys,
  ⟨n,by simp,qav _,⟨List.replicate own none,qa3,rfl⟩,dH bb,Zd,.nil⟩,?_⟩
 rintro i m ys bN H' ⟨rfl,hi,⟨a,bx,rfl⟩,bS,bE,aJ⟩
 by_cases du:i<n
 ·refine .inr ⟨w.go H' i bS du,λx a4 mm=>?_⟩;have eV:ys.length≤i:=by
   rw[←Paired.length aJ];exact qat (qaU _ _) (by simp)
  refine bc i a H' x a4 _ du bS (w.yld H' i x a4 bS du mm) bx λb_ bM=>?_;refine a8 i b_ _ du (bS.trans bM) λcw c_=>?_;have nk:=(bS.trans bM).trans c_;have oo:=c_ _ _ (bM _ _ bE);have step:(List.range (i+1)).filter c=(List.range i).filter c++(if c i=true then[i] else[]):=by
   rw[qbH,qcc]
   congr 1
   by_cases h:c i=true<;>simp[h]
  have r0:Paired (λi v=>R i v (hid cw p)) ((List.range i).filter c) ys:=Paired.mapP aJ λ_ _ z=>mono _ _ _ _ (y9 (bM.trans c_)) z
  by_cases j9:c i=true
  ·rw[j9,if_pos rfl];refine bD p i cw _ du j9 bb ⟨ys,oo⟩ nk λv b3 dt pr=>⟨dt _ _ oo,by omega,n-(i+1),by omega,rfl,du,⟨s i,hs i,rfl⟩,(nk.trans dt).new bb,Zd,?_⟩;rw[step,if_pos j9];exact Paired.snoc (Paired.mapP r0 λ_ _ z=>mono _ _ _ _ ((y9 dt).trans y_) z) (mono _ _ _ _ y_ pr)
  ·have uG:c i=false:=by simpa using j9
   rw[uG,if_neg qag];refine⟨n-(i+1),by omega,rfl,du,⟨s i,hs i,rfl⟩,nk,oo,?_⟩;rw[step,if_neg j9,qa8];exact r0
 ·have e:i=n:=by omega
  subst e;exact .inl ⟨w.stop H' bS,q p H' ys bb bS bE aJ⟩
theorem uR{H:Hp}{p u:Addr}{o:HO}(h:∃ys,H p=some (.lst ys))(hu:H u=none):hid (upd H u o) p u=some o:=by
 have n:u≠p:=λz=>by
  obtain⟨ys,e⟩:=h;rw[←z,hu] at e;cases e
 rw[Yj n,Zd]
theorem uS{H H':Hp}{p u:Addr}{o:HO}(h:∃ys,H p=some (.lst ys))(hu:H u=none)(gB:H' u=some o):hid H' p u=some o:=by
 have n:u≠p:=λz=>by
  obtain⟨ys,e⟩:=h;rw[←z,hu] at e;cases e
 rw[Yj n,gB]
theorem Zfo{H H':Hp}{p b:Addr}{xs:List V}(h:∃ys,H p=some (.lst ys))(s:Ze H H')(e:H' b=some (.tup xs)):hid H' p b=some (.tup xs):=by
 have n:b≠p:=λz=>by
  obtain⟨ys,b1⟩:=h;rw[z,s _ _ b1] at e;cases e
 rw[Yj n,e]
theorem r1{R:Nat→V→Hp→Prop}{H:Hp}{r:Nat→V}(h:∀i v,R i v H→v=r i):∀{is:List Nat}{ys:List V},Paired (λi v=>R i v H) is ys→ys=is.map r
 |_,_,.nil=>rfl
 |_,_,.cons a t=>by rw[h _ _ a,r1 h t];rfl
theorem WY{J:It}{n:Nat}{y:Nat→Hp→V→Hp→Prop}{H0:Hp}(w:V7 J n y H0){g:TG}{dy:TS}{D:Ends}{σ:St}{H:Hp}(Pv:Nat→St→Hp→Prop)(de:Pv 0 σ H)(a5:∀i σ H,Pv i σ H→Ze H0 H)
  (hs:∀i σ H v H',i<n→Pv i σ H→y i H v H'→g v σ H' λdn a4=>dy {D with nx:=Pv (i+1),ct:=Pv (i+1),bk:=D.nx} dn a4) (hd:∀σ H,Pv n σ H→D.nx σ H):
  ∃W:Nat→Nat→St→Hp→Prop,(∃m,W 0 m σ H)∧∀i m σ H,W i m σ H→
   (J.stop i H∧D.nx σ H)∨(J.go i H∧∃N:St→Hp→Prop,(∀bN H',N bN H'→∃da,da<m∧W (i+1) da bN H')∧∀x H',J.yld i H x H'→g x σ H' λdn a4=>dy {D with nx:=N,ct:=N,bk:=D.nx} dn a4):=by
 refine⟨λi m σ H=>m=n-i∧i≤n∧Pv i σ H,⟨n,by simp,qav _,de⟩,?_⟩;rintro i m σ H ⟨rfl,hi,p⟩;have bS:=a5 i σ H p
 by_cases du:i<n
 ·exact .inr ⟨w.go H i bS du,Pv (i+1),λbN H' fc=>⟨n-(i+1),by omega,rfl,du,fc⟩,λx H' mm=>hs i σ H x H' du p (w.yld H i x H' bS du mm)⟩
 ·have e:i=n:=by omega
  subst e;exact .inl ⟨w.stop H bS,hd σ H p⟩
namespace Rd
section
variable {σ:St}{H:Hp}{Q:VK}{D:Ends}{K:Frag}
theorem Zno{n:Nat}{ix:List Nat}{e0:TI}{g:TG}{d_:TT}{dg:TE}(h:e0 σ H λJ aU=>∀p,aU p=none→
 ∃W:Nat→Nat→List V→St→Hp→Prop,(∃m,W 0 m [] (mj n ix σ) (upd aU p (.lst [])))∧∀i m ys bN H',W i m ys bN H'→
  (J.stop i H'∧Q (.ref p) H')∨(J.go i H'∧∀x a4,J.yld i H' x a4→g x bN a4 λdn b_=>d_ dn b_ λb cw=>
   if b=true then dg dn cw λv b3=>b3 p=some (.lst ys)∧ys.length<sizeLine∧∃da,da<m∧W (i+1) da (ys++ [v]) dn (upd b3 p (.lst (ys++ [v])))
   else ∃da,da<m∧W (i+1) da ys dn cw)):uP n ix e0 g d_ dg σ H Q:=h
theorem Zn0{gG:TA}{R:It→Hp→Prop}(h:gG σ H λvs aU=>∃a,vs=[.ref a]∧(∃xs,SqL K aU a xs)∧R (Ite K a) aU):y8 K gG σ H R:=h
theorem ZmO{a:Addr}{xs:List V}{G:Addr→Prop}(h:SqL K H a xs)(q:G a):∃er,[V.ref a]=[.ref er]∧(∃xs,SqL K H er xs)∧G er:=⟨a,rfl,⟨xs,h⟩,q⟩
theorem Zpd(h:∀p,H p=none→Q (.ref p) (upd H p (.dK []))):tDNewK σ H Q:=h
theorem ZoN{a:Addr}{kvs:List (Key×V)}{x:Str}(h:H a=some (.dK kvs))(q:Q (.bl (valV kvs (Sum.inr x)).isSome) H):rDIn (.str x) (.ref a) H Q:=⟨a,_,rfl,iY.k (k:=Sum.inr x) h,q⟩
theorem Zoi{a:Addr}{kvs:List (Key×V)}{x:Int}(h:H a=some (.dK kvs))(q:Q (.bl (!(valV kvs (Sum.inl x)).isSome)) H):rDNotIn (.int x) (.ref a) H Q:=⟨a,_,rfl,iY.k (k:=Sum.inl x) h,q⟩
theorem Zlk{a:Addr}{kvs:List (Key×V)}{x:Int}{v:V}(h:H a=some (.dK kvs))(e:valV kvs (Sum.inl x)=some v)(q:Q v H):rIxD (.ref a) (.int x) H Q:=⟨a,v,rfl,by rw[←e];exact iY.k (k:=Sum.inl x) h,q⟩
theorem Zn8{a:Addr}{kvs:List (Key×V)}{x:Str}{v:V}{Q:Hp→Prop}(h:H a=some (.dK kvs))(aJ:kvs.length<sizeLine)(q:Q (upd H a (.dK (fO kvs (Sum.inr x) v)))):rSetD (.ref a) (.str x) v H Q:=⟨a,_,rfl,Zdz.k (k:=Sum.inr x) h aJ,q⟩
theorem ZnY{a:Addr}{kvs:List (Key×V)}{x:Int}{v:V}{Q:Hp→Prop}(h:H a=some (.dK kvs))(aJ:kvs.length<sizeLine)(q:Q (upd H a (.dK (fO kvs (Sum.inl x) v)))):rSetD (.ref a) (.int x) v H Q:=⟨a,_,rfl,Zdz.k (k:=Sum.inl x) h aJ,q⟩
theorem ZoU{a:Addr}{kvs:List (Key×V)}(h:H a=some (.dK kvs))(q:Q (.int kvs.length) H):rLenD [.ref a] H Q:=⟨a,kvs,rfl,h,q⟩
theorem ZnT{a:Addr}{kvs:List (Key×V)}(h:H a=some (.dK kvs))(q:∀l,H l=none→Q (.ref l) (upd H l (.lst (kvs.map λkv=>kV kv.1)))):rListD [.ref a] H Q:=⟨a,kvs,rfl,h,q⟩
theorem slT{a:Addr}{xs:List V}{lo hi:Option Int}(h:SqT K H a xs)(hw:¬(HT.sIx xs.length 0 lo=0∧HT.sIx xs.length xs.length hi=xs.length))(q:∀p,H p=none→Q (.ref p) (upd H p (.tup (iv xs lo hi)))):ZdO K (.ref a) lo hi H Q:= .inr (.inl ⟨a,xs,rfl,h,hw,q⟩)
theorem Zov{df dO jJ:R2}{a b:Addr}{xs ys:List V}(bx:SqT K H a xs)(aN:SqT K H b ys)(aS:xs≠[])(a2:ys≠[])(aJ:xs.length+ys.length≤sizeLine)(q:∀p,H p=none→Q (.ref p) (upd H p (.tup (xs++ys)))):
  rOr df (rOr dO (rOr jJ (pM K))) (.ref a) (.ref b) H Q:= .inr (.inr (.inr ⟨a,b,xs,ys,rfl,rfl,bx,aN,aS,aJ,λz=>absurd z a2,λ_=>q⟩))
theorem ZoV{to gu dg:TE}{mY:V→V→Hp→VK→Prop}{mZ:TIp}{m0:Zcw}(h:to σ H λo aU=>gu σ aU λi a4=>mY o i a4 λx b_=>dg σ b_ λy cw=>mZ x y cw λz b3=>m0 o i z b3 λdN=>D.nx σ dN):yb to gu dg mY mZ m0 D σ H:=h
theorem ipi{f:Int→Int→Int}{i j:Int}(q:Q (.int (f i j)) H):ipI f (.int i) (.int j) H Q:=⟨i,j,rfl,rfl,q⟩
end
end Rd
section
variable {X:Cx}
theorem EM:Zkg X (Zd0 X.K):=by
 intro aK s σ H o i d4 gs Q I ro ri h;obtain⟨p,xs,k,z,rfl,rfl,bT,bD,q⟩:=h;cases ro;obtain⟨t,rfl⟩:=ri;obtain⟨its,r,pl,hz⟩:=I.list bT;obtain⟨j,aS,a2,bU,dD,eM⟩:=ZbV bD;obtain⟨w,gX,jo⟩:=r.get a2;have aJ:=r.length;have bF:=li;have eZ:EP X aK σ Q w s:=⟨z,H,I,jo,q⟩
 by_cases de:0≤k
 ·have bj:k.toNat=j:=by
   rw[seqIndex_of de eM] at aS;exact qam aS
  exact wpAny_getItem_list pl.isList de (by omega) (by rw[bj];simpa using gX) eZ
 ·have bj:(k+(its.toArray.size:Int)).toNat=j:=by
   rw[seqIndex_neg (by omega) dD] at aS;rw[qae,←aJ];exact qam aS
  exact wpAny_getItem_list_neg pl.isList (by omega) (by rw[qae]<;>omega) (by omega) (by rw[bj];simpa using gX) eZ
theorem uT{K:Frag}(e:X.K=K):Zkg X (Zd0 K):=e▸EM
end
section
variable {X:Cx}{K:Frag}
end
namespace Rd
section
variable {σ:St}{H:Hp}{Q:VK}{K:Frag}
end
end Rd
theorem Zcx(ns ms:List Int):PyData.eqv (.list (ns.map PyData.int)) (.list (ms.map PyData.int))=decide (ns=ms):=by
 have h:∀ns ms:List Int,PyData.eqvAll (ns.map PyData.int) (ms.map PyData.int)=decide (ns=ms):=by
  intro ns
  induction ns with
  |nil=>intro ms;cases ms<;>simp[PyData.eqvAll]
  |cons n ns bP=>
   intro ms;cases ms with
   |nil=>simp[PyData.eqvAll]
   |cons m ms=>
    simp only[List.map_cons,PyData.eqvAll,PyData.eqv,bP]
    by_cases e:n=m
    ·subst e;simp
    ·simp[e]
 simp only[PyData.eqv];exact h ns ms
section
variable {X:Cx}
noncomputable def rUpdD:V→List V→Hp→VK→Prop:=λx vs H Q=>∃a b kvs more,x= .ref a∧vs=[.ref b]∧a≠b∧H a=some (.dK kvs)∧H b=some (.dK more)∧kvs.length+more.length≤sizeLine∧Q .non (upd H a (.dK (gY kvs more)))
theorem EN:MtR X "dict.update" rUpdD:=by
 intro aK s σ H x xs v us Q I bO rs h;obtain⟨a,b,kvs,more,rfl,rfl,ne,bx,aN,aJ,q⟩:=h;cases bO;obtain⟨u,rfl,eD⟩:=YE rs;cases eD;obtain⟨z,hd,vs,rel,dd⟩:=ZbL I.hok bx;obtain⟨fz,hX,EO,y',rE⟩:=ZbL I.hok aN;refine call_meetsIn PySem.F.slot_dict_update dd.typeIs PySem.F.entry_dict_update (PySem.F.args_dict_update_2 _ _) (meets_dict_update (e6 X.prog X.w) a b ne hX) ⟨vs,EO,dd,rE,by rw[←rel.length,←y'.length];exact aJ,λh' dd' _ hs=>?_⟩;have bo:=rO more kvs;have bD:∃q,h'.get? a=some q:=let⟨q,_,_,bT,_⟩:=dd';⟨q,bT⟩
 exact⟨.non,_,rM (t':=s.toks) I (by rw[bx];exact True.intro) hs bD (ud (by omega) hd (y'.merge rel) dd'),rfl,q⟩
end
section
variable {X:Cx}
end
theorem ZhV{own:Nat}{ix:List Nat}{g:TG}{d_:TT}{Q:Addr→Hp→Prop}{σ:St}{H:Hp}{J:It}{n:Nat}{y:Nat→Hp→V→Hp→Prop}(w:V7 J n y H)(bF:n<sizeLine)(s:Nat→List (Option V))(hs:∀i,(s i).length=own)
  (bc:∀i a H' v a4 (ib:St→Hp→Prop),i<n→Ze H H'→y i H' v a4→a.length=own→(∀b_,Ze H' b_→ib (s i++ix.map λj=>(σ[j]?).join) b_)→g v (a++ix.map λj=>(σ[j]?).join) a4 ib)
  (a8:∀i H' (dW:Bool→Hp→Prop),i<n→Ze H H'→dW true H'→d_ (s i++ix.map λj=>(σ[j]?).join) H' dW)
  (q:∀p H' (db:List Addr),H p=none→Ze H H'→H' p=some (.lst (db.map V.ref))→db.length=n→db.Nodup→(∀x∈db,H x=none∧x≠p∧H' x=some (.lst []))→Q p H'):
  ∀p,H p=none→∃W:Nat→Nat→List V→St→Hp→Prop,(∃m,W 0 m [] (mj own ix σ) (upd H p (.lst [])))∧∀i m ys bN H',W i m ys bN H'→
   (J.stop i H'∧Q p H')∨(J.go i H'∧∀x a4,J.yld i H' x a4→g x bN a4 λdn b_=>d_ dn b_ λb cw=>
    if b=true then tW tNil dn cw λv b3=>b3 p=some (.lst ys)∧ys.length<sizeLine∧∃da,da<m∧W (i+1) da (ys++ [v]) dn (upd b3 p (.lst (ys++ [v])))
    else ∃da,da<m∧W (i+1) da ys dn cw):=by
 intro p bb;refine⟨λi m ys bN H'=>m=n-i∧i≤n∧(∃a,a.length=own∧bN=a++ix.map λj=>(σ[j]?).join)∧Ze H H'∧∃db:List Addr,ys=db.map V.ref∧H' p=some (.lst (db.map V.ref))∧db.length=i∧db.Nodup∧∀x∈db,H x=none∧x≠p∧H' x=some (.lst []),
  ⟨n,by simp,qav _,⟨List.replicate own none,qa3,rfl⟩,dH bb,[],rfl,Zd,rfl,.nil,by simp⟩,?_⟩
 rintro i m ys bN H' ⟨rfl,hi,⟨a,bx,rfl⟩,bS,db,rfl,bE,dx,fg,lD⟩
 by_cases du:i<n
 ·refine .inr ⟨w.go H' i bS du,λx a4 mm=>?_⟩;refine bc i a H' x a4 _ du bS (w.yld H' i x a4 bS du mm) bx λb_ bM=>?_;refine a8 i b_ _ du (bS.trans bM) ?_;rw[if_pos rfl];show(0:Nat)≤sizeLine∧_;refine⟨qav _,λu hu=>?_⟩;have za:=bS.trans bM;have zb:=bM _ _ bE;have zc:u≠p:=λz=>by rw[z,zb] at hu;cases hu
  have c_:Ze b_ (upd b_ u (.lst [])):=dH hu;refine⟨c_ _ _ zb,by rw[GE];omega,n-(i+1),by omega,rfl,du,⟨s i,hs i,rfl⟩,(za.trans c_).new bb,db++ [u],by simp,by rw[Zd];simp,by simp[dx],?_,λx aT=>?_⟩
  ·refine qa4.mpr ⟨fg,by simp,λx aT z hz=>?_⟩;rw[FM.mp hz];intro e;have:=bM _ _ (lD x aT).2.2;rw[e,hu] at this;cases this
  ·rcases qax.mp aT with z|z
   ·obtain⟨aS,a2,bU⟩:=lD x z;exact⟨aS,a2,by rw[b2 a2];exact c_ _ _ (bM _ _ bU)⟩
   ·rw[FM.mp z];refine⟨?_,zc,by rw[b2 zc,Zd]⟩;cases e:H u with
    |none=>rfl
    |some o=>rw[za _ _ e] at hu;cases hu
 ·have e:i=n:=by omega
  subst e;exact .inl ⟨w.stop H' bS,q p H' db bb bS bE dx fg lD⟩
namespace Rd
section
variable {H:Hp}{Q:VK}
theorem Zo3{a b:Addr}{kvs more:List (Key×V)}(ne:a≠b)(bx:H a=some (.dK kvs))(aN:H b=some (.dK more))(aJ:kvs.length+more.length≤sizeLine)(q:Q .non (upd H a (.dK (gY kvs more)))):rUpdD (.ref a) [.ref b] H Q:=⟨a,b,kvs,more,rfl,rfl,ne,bx,aN,aJ,q⟩
end
end Rd
section
variable {X:Cx}{aK:List (Addr×Obj)}{σ:St}{H:Hp}{s:Shared}
theorem Inv.freeze{a:Addr}{kvs:List (Key×V)}(I:Inv X aK σ H s)(e:Rd H a (.dK kvs)):∃o,s.heap.get? a=some o∧Inv X aK σ (upd H a (.frz o (.dK kvs))) s:=by
 have ok:ZP X.prog X.w H s.heap a (.dK kvs):=e.ok I.hok;rcases e with e|⟨o,e⟩
 ·obtain⟨_,_,vs,_,dd⟩:=ZbL I.hok e;obtain⟨ep,fq⟩:=dd.dictAt;obtain⟨o,a',bz,_⟩:=id fq;exact⟨o,bz,I.write (x:=a) (e:=a) (o:= .frz o (.dK kvs)) (t':=s.toks) (by rw[e];exact True.intro) (.inl rfl) (λb u _ q=>q) ⟨o,bz⟩ ⟨bz,ok⟩⟩
 ·have aT:upd H a (.frz o (.dK kvs))=H:=by
   funext b
   by_cases z:b=a
   ·rw[z,Zd,e]
   ·rw[b2 z]
  exact⟨o,(show ZP X.prog X.w H s.heap a (.frz o (.dK kvs)) from I.hok a _ e).1,by rw[aT];exact I⟩
theorem KV.fwd{kvs:List (Key×V)}{vs:List (Key×Value)}(r:KV kvs vs):∀{j:Nat}{kv:Key×V},kvs[j]? =some kv→∃u,vs[j]? =some (kv.1,u)∧dq kv.2 u:=by
 unfold KV at r
 induction r with
 |nil=>intro j kv e;simp at e
 | @cons p q ps eN h t bP=>
  intro j kv e;cases j with
  |zero=>
   simp at e;subst e;obtain⟨c8,dI⟩:=q;exact⟨dI,by simp[h.1],h.2⟩
  |succ j=>
   obtain⟨u,aS,a2⟩:=bP (j:=j) (kv:=kv) (by simpa using e);exact⟨u,by simpa using aS,a2⟩
end
noncomputable def Itv (d:Addr) (o:Obj) (kvs:List (Key×V)):It:=
 ⟨λi H=>H d=some (.frz o (.dK kvs))∧i<kvs.length,λi H x H'=>H'=H∧∃kv,kvs[i]? =some kv∧x=kv.2,λi H=>H d=some (.frz o (.dK kvs))∧kvs.length≤i⟩
noncomputable def Itp (d:Addr) (o:Obj) (kvs:List (Key×V)):It:=
 ⟨λi H=>H d=some (.frz o (.dK kvs))∧i<kvs.length,λi H x H'=>∃t kv,kvs[i]? =some kv∧H t=none∧x= .ref t∧H'=upd H t (.tup [kV kv.1,kv.2]),λi H=>H d=some (.frz o (.dK kvs))∧kvs.length≤i⟩
theorem EQ:entryFor table "dict_itemiterator.__iter__" =some Builtin.«dict_keyiterator.__iter__»:=entryFor_alias (id':="dict_keyiterator.__iter__") (by kernel_rfl) rfl (by decide+kernel) (by kernel_rfl)
theorem ZeN{P:Program}{w:World}{A:Around}{E:Value→Shared→Prop}{s:Shared}{it d:Addr}{i n ep:Nat}{ok d4:Value}{Q:Value→Shared→Prop}(eW:IsItemIter s.heap it d i n ep ok d4)(h:Q (.ref it) s):wpAny (model P w) A (pyIter (.ref it)) Q E s:=by
 have ty:s.TypeIs (.ref it) "dict_itemiterator" :=⟨_,eW,rfl⟩;refine wpAny_pyIter_slot ty PySem.F.slot_dict_itemiterator_iter (wpAny_call_entry PySem.F.slot_dict_itemiterator_iter ty EQ (show wpAny _ _ (ret (Value.ref it)) _ _ s from wpAny_pure ⟨_,rfl,"dict_itemiterator",_,ty,PySem.F.slot_dict_itemiterator_next.lookup,h⟩) (PySem.F.args_dict_itemiterator_iter_1 _))
section
variable {P:Program}{w:World}{K:Frag}
theorem ER{dr:Expr}(d it:Addr)(o:Obj)(kvs:List (Key×V))(vs:List (Key×Value))(ep:Nat)(rel:KV kvs vs)(hd:∀h:Heap,h.get? d=some o→h.DictAt (e6 P w) d vs ep):Uf P w K dr (Itv d o kvs) [it] it (λi h=>h.IsValIter it d i vs.length ep) where
 mem:=by simp
 obj:=λi h st b aN=>by
  have e:b=it:=by simpa using aN
  subst e;obtain⟨o,e,c,dd⟩:=st;exact⟨o,e,λv z=>by rw[dd] at z;cases z⟩
 keep:=λi h h' st k=>st.at λo q=>k it (by simp) o q
 item:=by
  intro X d1 hw eJ a8 i aK s σ H E I bv st bc;subst d1 hw eJ;obtain⟨bD,hi⟩:=bc;have bz:=(show ZP X.prog X.w H s.heap d (.frz o (.dK kvs)) from I.hok d _ bD).1;obtain⟨ef,f1,f2,dR,eH,ev⟩:=bv it (by simp);obtain⟨u,hu,eD⟩:=rel.fwd (GT hi);refine wpAny_pyNext_values_item st (hd _ bz) hu λh' gV hh=>?_;have bB:Inv X aK σ H {s with heap:=h',toks:=s.toks}:=I.turned (t':=s.toks) (λb q aN e=>(hh.2 b aN).trans e) ef f1 dR eH ev;obtain⟨q,e,c,dd⟩:=id gV;exact⟨_,rfl,m2 (s:={s with heap:=h',toks:=s.toks}) e c dd (by decide) ⟨_,H,bB,eD,⟨rfl,kvs[i],GT hi,rfl⟩,gV,λb aN=>(bv b aN).1⟩⟩
 done:=by
  intro X d1 hw eJ a8 i aK s σ H E I bv st bc;subst d1 hw eJ;obtain⟨bD,hi⟩:=bc;have bz:=(show ZP X.prog X.w H s.heap d (.frz o (.dK kvs)) from I.hok d _ bD).1;obtain⟨ef,f1,f2,dR,eH,ev⟩:=bv it (by simp);exact wpAny_pyNext_values_end (I.ok.hd a8) st (hd _ bz) (qaP (by rw[←rel.length];exact hi)) λh' dJ=>⟨rfl,I.turned (t':=s.toks) (λb q aN e=>dJ b q aN e) ef f1 dR eH ev⟩
 self:=λ_ _ _ _ _ st h=>wpAny_pyIter_valiter st h
theorem ES{np:List Expr}{k1:Nat}{pos:Pos}(d it:Addr)(o:Obj)(kvs:List (Key×V))(vs:List (Key×Value))(ep:Nat)(rel:KV kvs vs)(hd:∀h:Heap,h.get? d=some o→h.DictAt (e6 P w) d vs ep):
  Uf P w K (.Tuple np k1 pos) (Itp d o kvs) [it] it (λi h=>∃ok d4,IsItemIter h it d i vs.length ep ok d4) where
 mem:=by simp
 obj:=λi h st b aN=>by
  obtain⟨ok,d4,e⟩:=st;rw[FM.mp aN];exact⟨_,e,λv z=>by
   have gq:Data.fields _=Data.cell v:=z;cases gq⟩
 keep:=λi h h' st k=>let⟨ok,d4,e⟩:=st;⟨ok,d4,k it (by simp) _ e⟩
 item:=by
  intro X d1 hw eJ a8 i aK s σ H E I bv st bc;subst d1 hw eJ;obtain⟨bD,hi⟩:=bc;obtain⟨ok,d4,eW⟩:=st;have bz:=(show ZP X.prog X.w H s.heap d (.frz o (.dK kvs)) from I.hok d _ bD).1;obtain⟨u,hu,eD⟩:=rel.fwd (GT hi);refine wpAny_pyNext_items_item eW (hd _ bz) hu λfr h' pE hout ek hsz a5=>?_;have gy:=I.hok.fresh (fm s.heap.objs.size);have rZ:it<s.heap.objs.size:=Heap.lt_size eW;refine⟨_,rfl,wpAny_letOwnedTupleGo_items hout λa2 lC j4=>?_⟩;have qc:a2.get? s.heap.objs.size=some {cls:= .type "tuple",data:= .seq #[fr,u]}:=j4.extBut _ _ (qcg rZ) ek;have bB:Inv X aK σ (upd H s.heap.objs.size (.tup [kV kvs[i].1,kvs[i].2])) {s with heap:=a2,toks:=s.toks}:=
   I.turnedNew (fp:=[it]) (λb q aN e=>by
    have i2:b≠it:=λz=>aN (by simp[z]);exact j4.extBut b q i2 (a5 b q i2 e)) bv (fm _) ⟨by show 2≤sizeLine;decide,[fr,u],.cons (uL pE) (.cons eD .nil),_,qc,rfl,_,rfl⟩
  refine⟨.ref s.heap.objs.size,_,bB,rfl,⟨_,kvs[i],GT hi,gy,rfl,rfl⟩,⟨_,_,lC⟩,λb aN=>?_⟩;have uO:b≠s.heap.objs.size:=by rw[FM.mp aN];exact qai rZ
  rw[b2 uO];exact(bv b aN).1
 done:=by
  intro X d1 hw eJ a8 i aK s σ H E I bv st bc;subst d1 hw eJ;obtain⟨bD,hi⟩:=bc;obtain⟨ok,d4,eW⟩:=st;have bz:=(show ZP X.prog X.w H s.heap d (.frz o (.dK kvs)) from I.hok d _ bD).1;obtain⟨ef,f1,f2,dR,eH,ev⟩:=bv it (by simp);exact wpAny_pyNext_items_end (I.ok.hd a8) eW (hd _ bz) (qaP (by rw[←rel.length];exact hi)) λh' dJ=>⟨rfl,I.turned (t':=s.toks) (λb q aN e=>dJ b q aN e) ef f1 dR eH ev⟩
 self:=λ_ _ _ _ _ st h=>by
  obtain⟨ok,d4,e⟩:=st;exact ZeN e h
end
section
variable {X:Cx}{dr:Expr}
noncomputable def zd (e4:TE):TI:=λσ H R=>e4 σ H λx aU=>∃a kvs,x= .ref a∧Rd aU a (.dK kvs)∧∀o,R (Itv a o kvs) (upd aU a (.frz o (.dK kvs)))
noncomputable def ze (e4:TE):TI:=λσ H R=>e4 σ H λx aU=>∃a kvs,x= .ref a∧Rd aU a (.dK kvs)∧∀o,R (Itp a o kvs) (upd aU a (.frz o (.dK kvs)))
theorem ET{d:Expr}{e4:TE}{dV eb:Pos}(hd:PE X d e4)(iw:attributeBase d "values" X.env (eval d X.env)=eval d X.env:=by rfl)(iy:(dV.endLine==eb.line)=true:=by rfl):
  PI X dr (.Call (.Attribute d "values" dV) [] [] eb) (zd e4):=by
 intro aK s σ H R I h;refine wpAny_Call_method0_late iw iy (thn (hd aK s σ H _ I h) λv a7 ⟨x,aU,bB,df,c8⟩=>?_);obtain⟨a,kvs,rfl,a3,q⟩:=c8;cases df;obtain⟨z,lE,vs,rel,dd⟩:=WJ bB.hok a3;obtain⟨ep,fq⟩:=dd.dictAt;obtain⟨o,bz,ds⟩:=bB.freeze a3;have nq:∀h:Heap,h.get? a=some o→h.DictAt (e6 X.prog X.w) a vs ep:=λh e=>fq.at' λc' b1=>by rw[bz] at b1;cases b1;exact e
 refine⟨"dict","dict.values",qbk,qbf,qb7,dd.typeIs,dd.mapOf.noDict,Calls.callWith_builtin rfl (qbQ ?_)⟩;refine call_meetsIn qbf dd.typeIs qb5 (qb3 _) (meets_dict_values (e6 X.prog X.w) a lE) ⟨⟨vs,dd⟩,?_⟩;refine wpAny_pyIter_values (knd:=e6 X.prog X.w) (d:=a) (kvs:=vs) (ep:=ep) ⟨_,Heap.get?_push_size _ rfl,rfl,rfl⟩ (nq _ (Heap.get?_push_of_some _ bz)) ?_;have en:Inv X aK σ (upd aU a (.frz o (.dK kvs))) {a7 with heap:=a7.heap.push {cls:= .type "dict_values",data:= .fields #[.ref a]}}:=ds.kept (t':=a7.toks) λb o e=>Heap.get?_push_of_some _ e;refine⟨(a7.heap.push {cls:= .type "dict_values",data:= .fields #[.ref a]}).objs.size,[(a7.heap.push {cls:= .type "dict_values",data:= .fields #[.ref a]}).objs.size],_,_,_,rfl,en.kept (t':=a7.toks) λb o e=>Heap.get?_push_of_some _ e,ER a _ o kvs vs ep rel nq,⟨_,Heap.get?_push_size _ rfl,rfl,rfl⟩,λb aN=>?_,q o⟩;rw[FM.mp aN];exact en.fpOk (fm _) (en.hok.fresh (fm _))
theorem zf{np:List Expr}{k1:Nat}{m1:Pos}{d:Expr}{e4:TE}{dV eb:Pos}(hd:PE X d e4)(iw:attributeBase d "items" X.env (eval d X.env)=eval d X.env:=by rfl)(iy:(dV.endLine==eb.line)=true:=by rfl):
  PI X (.Tuple np k1 m1) (.Call (.Attribute d "items" dV) [] [] eb) (ze e4):=by
 intro aK s σ H R I h;refine wpAny_Call_method0_late iw iy (thn (hd aK s σ H _ I h) λv a7 ⟨x,aU,bB,df,c8⟩=>?_);obtain⟨a,kvs,rfl,a3,q⟩:=c8;cases df;obtain⟨z,lE,vs,rel,dd⟩:=WJ bB.hok a3;obtain⟨ep,fq⟩:=dd.dictAt;obtain⟨o,bz,ds⟩:=bB.freeze a3;have nq:∀h:Heap,h.get? a=some o→h.DictAt (e6 X.prog X.w) a vs ep:=λh e=>fq.at' λc' b1=>by rw[bz] at b1;cases b1;exact e
 refine⟨"dict","dict.items",qbk,PySem.F.slot_dict_items,PySem.F.type_dict_items,dd.typeIs,dd.mapOf.noDict,Calls.callWith_builtin rfl (qbQ ?_)⟩;refine call_meetsIn PySem.F.slot_dict_items dd.typeIs PySem.F.entry_dict_items (PySem.F.args_dict_items_1 _) (meets_dict_items (e6 X.prog X.w) a lE) ⟨⟨vs,dd⟩,?_⟩;refine wpAny_pyIter_items (knd:=e6 X.prog X.w) (d:=a) (kvs:=vs) (ep:=ep) ⟨_,Heap.get?_push_size _ rfl,rfl,rfl⟩ (nq _ (Heap.get?_push_of_some _ bz)) ?_;have en:Inv X aK σ (upd aU a (.frz o (.dK kvs))) {a7 with heap:=a7.heap.push {cls:= .type "dict_items",data:= .fields #[.ref a]}}:=ds.kept (t':=a7.toks) λb o e=>Heap.get?_push_of_some _ e;refine⟨(a7.heap.push {cls:= .type "dict_items",data:= .fields #[.ref a]}).objs.size,[(a7.heap.push {cls:= .type "dict_items",data:= .fields #[.ref a]}).objs.size],_,_,_,rfl,en.kept (t':=a7.toks) λb o e=>Heap.get?_push_of_some _ e,ES a _ o kvs vs ep rel nq,⟨_,_,Heap.get?_push_size _ rfl⟩,λb aN=>?_,q o⟩;rw[FM.mp aN];exact en.fpOk (fm _) (en.hok.fresh (fm _))
end
namespace Rd
section
variable {σ:St}{H:Hp}{Q:VK}
theorem ZnO{e4:TE}{R:It→Hp→Prop}(h:e4 σ H λx aU=>∃a kvs,x= .ref a∧L2.Rd aU a (.dK kvs)∧∀o,R (Itv a o kvs) (upd aU a (.frz o (.dK kvs)))):zd e4 σ H R:=h
theorem Zjy{e4:TE}{R:It→Hp→Prop}(h:e4 σ H λx aU=>∃a kvs,x= .ref a∧L2.Rd aU a (.dK kvs)∧∀o,R (Itp a o kvs) (upd aU a (.frz o (.dK kvs)))):ze e4 σ H R:=h
theorem Zlr{a:Addr}{kvs:List (Key×V)}{x:Int}{v:V}(h:L2.Rd H a (.dK kvs))(e:valV kvs (Sum.inl x)=some v)(q:Q v H):rIxD (.ref a) (.int x) H Q:=⟨a,v,rfl,.inl ⟨kvs,Sum.inl x,h,rfl,e.symm⟩,q⟩
theorem Zow{a:Addr}{kvs:List (Key×V)}{x:Int}(h:L2.Rd H a (.dK kvs))(q:Q (.bl (valV kvs (Sum.inl x)).isSome) H):rDIn (.int x) (.ref a) H Q:=⟨a,_,rfl,.inl ⟨kvs,Sum.inl x,h,rfl,rfl⟩,q⟩
end
end Rd
theorem EU{d:Addr}{o:Obj}{kvs:List (Key×V)}{H:Hp}(h:H d=some (.frz o (.dK kvs))):V7 (Itv d o kvs) kvs.length (λi H' v a4=>a4=H'∧∃kv,kvs[i]? =some kv∧v=kv.2) H:=
 ⟨λH' i s hi=>⟨s _ _ h,hi⟩,λ_ _ _ _ _ _ y=>y,λH' s=>⟨s _ _ h,fm _⟩⟩
theorem zg{d:Addr}{o:Obj}{kvs:List (Key×V)}{H:Hp}(h:H d=some (.frz o (.dK kvs))):V7 (Itp d o kvs) kvs.length (λi H' v a4=>∃t kv,kvs[i]? =some kv∧H' t=none∧v= .ref t∧a4=upd H' t (.tup [kV kv.1,kv.2])) H:=
 ⟨λH' i s hi=>⟨s _ _ h,hi⟩,λ_ _ _ _ _ _ y=>y,λH' s=>⟨s _ _ h,fm _⟩⟩
noncomputable def Itw (K:Frag) (a:Addr) (n:Nat):It:=
 ⟨λi H=>∃xs x,SqL K H a xs∧i<n∧xs[n-1-i]? =some x,λi H x H'=>H'=H∧∀xs,SqL K H a xs→xs[n-1-i]? =some x,λi _=>i=n⟩
theorem EV{P:Program}{w:World}{K:Frag}{dr:Expr}(a it:Addr)(n:Nat):Uf P w K dr (Itw K a n) [it] it (λi h=>h.IsRevIter it a ((n:Int)-1-i)) where
 mem:=by simp
 obj:=λi h st b aN=>by
  have e:b=it:=by simpa using aN
  subst e;obtain⟨o,e,c,d⟩:=st;exact⟨o,e,λv z=>by rw[d] at z;cases z⟩
 keep:=λi h h' st k=>st.at λo e=>k it (by simp) o e
 item:=by
  intro X d1 hw eJ a8 i aK s σ H E I bv st bc;subst d1 hw eJ;obtain⟨xs,x,bT,fe,aT⟩:=bc;obtain⟨its,dC,p,hz⟩:=I.list bT;obtain⟨u,hu,eD⟩:=dC.get aT;obtain⟨ef,f1,f2,dR,eH,ev⟩:=bv it (by simp);have fX:(n:Int)-1-(i:Int)=((n-1-i:Nat):Int):=by omega
  rw[fX] at st;refine wpAny_pyNext_rev_item st p.isList (x:=u) (by simpa using hu) λh' gV hh=>?_;have bB:Inv X aK σ H {s with heap:=h'}:=I.turned (t':=s.toks) (λb o aN e=>(hh.2 b aN).trans e) ef f1 dR eH ev;have hc:((n-1-i:Nat):Int)-1=(n:Int)-1-((i+1:Nat):Int):=by omega
  rw[hc] at gV;obtain⟨o,e,c,d⟩:=id gV;exact⟨u,rfl,m2 (s:={s with heap:=h'}) e c d (by decide) ⟨x,H,bB,eD,⟨rfl,λys bE=>by rw[I.list_inj bE bT];exact aT⟩,gV,λb aN=>(bv b aN).1⟩⟩
 done:=by
  intro X d1 hw eJ a8 i aK s σ H E I bv st bc;subst d1 hw eJ;obtain⟨ef,f1,f2,dR,eH,ev⟩:=bv it (by simp);have uU:i=n:=bc;have fX:(n:Int)-1-(i:Int)= -1:=by omega
  rw[fX] at st;exact wpAny_pyNext_rev_end (I.ok.hd a8) st λh' dJ=>⟨rfl,I.turned (t':=s.toks) (λb o aN e=>dJ b o aN e) ef f1 dR eH ev⟩
 self:=λ_ _ _ _ _ st h=>wpAny_pyIter_revIter st h
section
variable {X:Cx}
noncomputable def zh (K:Frag) (bA:TA):TI:=λσ H R=>bA σ H λvs aU=>∃a xs,vs=[.ref a]∧SqL K aU a xs∧R (Itw K a xs.length) aU
theorem EW{K:Frag}{a dr:Expr}{bA:TA}{p pos:Pos}(e_:X.K=K)(bc:Gl X "reversed")(bo:X.mg "reversed" =none)(bx:PA X [a] bA)(hs:starEach [a] X.env=[(false,eval a X.env)]:=by rfl):
  PI X dr (.Call (.Name "reversed" p) [a] [] pos) (zh K bA):=by
 subst e_;intro aK s σ H R I h;refine Call_ (jH I bc bo boot_reversed (qaT (thn (bx pos aK s σ H _ I h) λus a7 ⟨vs,aU,bB,df,c8⟩=>?_) hs rfl));obtain⟨b,xs,rfl,bT,q⟩:=c8;obtain⟨u,rfl,eD⟩:=YE df;cases eD;obtain⟨its,dC,pl,hz⟩:=bB.list bT;have aJ:=dC.length;refine call_reversed_list pl.isList ?_;have eW:(a7.heap.push (revObj b (((its.toArray.size:Nat):Int)-1))).IsRevIter a7.heap.objs.size b ((xs.length:Int)-1-((0:Nat):Int)):=by
  refine⟨_,Heap.get?_push_size _ rfl,rfl,?_⟩;show Data.fields #[Value.ref b,rawInt (((its.toArray.size:Nat):Int)-1)]=_;rw[qae,←aJ];simp
 refine wpAny_pyIter_revIter eW ?_;refine⟨a7.heap.objs.size,[a7.heap.objs.size],_,_,aU,rfl,bB.kept (t':=a7.toks) λb o e=>Heap.get?_push_of_some _ e,EV b _ xs.length,eW,λc a8=>?_,q⟩;have e:c=a7.heap.objs.size:=by simpa using a8
 subst e;exact bB.fpOk (fm _) (bB.hok.fresh (fm _))
end
theorem EX{K:Frag}{a:Addr}{xs:List V}{H:Hp}(h:SqL K H a xs):Walks (Itw K a xs.length) xs.length (λi=>xs.reverse.getD i .non) H:=
 ⟨λH' i e hi=>⟨xs,xs[xs.length-1-i],e.seq h,hi,by simp⟩,λH' i x a4 e hi y=>⟨y.1,by
  have:=y.2 xs (e.seq h);rw[List.getD,List.getElem?_reverse hi,this]
  rfl⟩,λH' e=>rfl⟩
namespace Rd
theorem Zo7{σ:St}{H:Hp}{K:Frag}{bA:TA}{R:It→Hp→Prop}(h:bA σ H λvs aU=>∃a xs,vs=[.ref a]∧SqL K aU a xs∧R (Itw K a xs.length) aU):zh K bA σ H R:=h
end Rd
section
variable {X:Cx}{K:Frag}
noncomputable def uV (K:Frag):List V→Hp→VK→Prop:=λxs H Q=>∃(p:Addr)(ns:List Int),xs=[.ref p]∧SqL K H p (ns.map V.int)∧0<ns.length∧∀M,M∈ns→(∀a∈ns,M≤a)→Q (.int M) H
theorem ZjK(a8:X.calm=true):Z8 X (.builtin "min") (uV X.K):=by
 intro aK s σ H xs us Q I r h;obtain⟨p,ns,rfl,bT,eO,q⟩:=h;obtain⟨u,rfl,bO⟩:=YE r;cases bO;obtain⟨its,dC,pl,hz⟩:=I.list bT;have hi:=Ww dC;obtain⟨ys,aT⟩:=hi.allInts.items;have ek:s.heap.IsList p (intItems ys):=aT▸pl.isList;have du:p<s.heap.objs.size:=by obtain⟨_,e,_⟩:=ek;exact Heap.lt_size e
 have hY:ns=ys.toList.map (·.1):=by
  rw[←nums_intItems,←aT];exact(show numsOf its.toArray.toList=ns from hi.numsOf).symm
 have hsz:0<ys.size:=by
  have bU:=eO;rw[hY,GE,qaE] at bU;exact bU
 have uW:(intItems ys).size=ys.size:=by simp[intItems]
 refine call_min_walk (wpAny_pyIter_list ek ?_);refine⟨s.heap.objs.size,[s.heap.objs.size,p],[s.heap.objs.size],_,_,_,_,rfl,PySem.Walks.list (A:=X.A.in1) (I.ok.hd a8) _ p (qai du) (intItems ys),
  ⟨⟨_,Heap.get?_push_size _ rfl,rfl,rfl⟩,ek.push _⟩,λb aN=>?_,by rw[uW];exact hsz,CmpOf.ints_lt (numAt ys) (λ_ _=>intItems_at),λv h' bL d1 a5=>?_⟩
 ·show b<(s.heap.push _).objs.size;rw[Heap.size_push];rcases qad.mp aN with rfl|aN
  ·exact qa9 _
  ·rw[FM.mp aN];exact qaM du
 ·obtain⟨t,rfl⟩:=intItems_at d1;obtain⟨aS,a2⟩:=argBest_lt (numAt ys) ((intItems ys).size-1);refine⟨.int _,H,I.kept (rX a5),⟨t,rfl⟩,q _ ?_ λa bx=>?_⟩
  ·have h9:argBest (λi j=>decide (numAt ys i<numAt ys j)) ((intItems ys).size-1)<(ys.toList.map (·.1)).length:=by rw[GE,qaE];omega
   rw[hY,numAt_eq,qaN,GT h9];exact qaa h9
  ·rw[hY] at bx;obtain⟨j,bj,rfl⟩:=mem_getD bx;rw[GE,qaE] at bj;rw[←numAt_eq];exact a2 j (by omega)
theorem EY(e:X.K=K)(a8:X.calm=true):Z8 X (.builtin "min") (uV K):=e▸ZjK a8
theorem zi(ns:List Int)(h:ns.Nodup):∀i,i≤ns.length→firstMet (λi=>ns.getD i 0) i=ns.take i
 |0,_=>rfl
 |i+1,hi=>by
  have dx:i<ns.length:=by omega
  rw[firstMet_succ,zi ns h i (by omega),qac dx];have e:ns.getD i 0=ns[i]:=by simp[List.getD,dx]
  unfold step_dedup;rw[e];have bF:((ns.take i).any (· ==ns[i]))=false:=by
   rw[List.any_eq_false];intro x aT;have fg:=h;rw[←qbE (i+1) ns,qac dx] at fg;have bU:=(qa4.mp (qa4.mp fg).1).2.2 x aT ns[i] (by simp);simpa using bU
  rw[bF]
  rfl
end
namespace Rd
section
variable {K:Frag}{σ:St}{H:Hp}{Q:VK}
theorem Zo9{p:Addr}{ns:List Int}(h:SqL K H p (ns.map V.int))(bF:0<ns.length)(q:∀M,M∈ns→(∀a∈ns,M≤a)→Q (.int M) H):uV K [.ref p] H Q:=⟨p,ns,rfl,h,bF,q⟩
end
end Rd
section
variable {X:Cx}
end
namespace Rd
section
variable {K:Frag}{σ:St}{H:Hp}
end
end Rd
section
variable {X:Cx}{K:Frag}
noncomputable def rIndexB:V→List V→Hp→VK→Prop:=λx vs H Q=>∃(l:Addr)(bs:List Bool)(j:Nat),x= .ref l∧vs=[.bl true]∧H l=some (.lst (bs.map V.bl))∧bs[j]? =some true∧(∀m<j,bs[m]? =some false)∧Q (.int j) H
theorem zj:MtM X "list.index" rIndexB:=by
 intro aK s σ H x vs v us Q I bO dC h;obtain⟨l,bs,j,rfl,rfl,gx,bj,hj,q⟩:=h;cases bO;obtain⟨u,rfl,eD⟩:=YE dC;obtain rfl:u=Value.bool true:=eD;obtain⟨z,its,n,r,aJ,e⟩:=I.lstM gx;have dZ:=uH (s:=s) r;have i3:=(GM.mp bj).1;have hz:its.toArray.size=bs.length:=by rw[dZ];simp
 have at_:∀(m:Nat)(bo:m<its.toArray.size),its.toArray[m]=Value.bool (bs[m]'(by omega)):=λm bo=>by
  subst dZ;simp
 have bF:=li;refine call_meets F.slot_list_index ⟨_,e,rfl⟩ F.entry_list_index (F.args_list_index_2 _ _) (PySem.SeqAt.list_indexAt l its.toArray n _ _ (.bool true) (λy=>y==Value.bool true) j (by omega) (by rw[GE] at z;omega) ?_ ?_) ⟨e,λy bE=>?_,?_⟩
 ·rw[at_ j (by omega)];have:=(GM.mp bj).2;rw[this]
  rfl
 ·intro m bo qf;rw[at_ m bo];have:=(GM.mp (hj m qf)).2;rw[this]
  rfl
 ·subst dZ;obtain⟨b,_,rfl⟩:=qah.mp (List.mem_toArray.mp bE);have bD:(Value.bool b==Value.bool true)=(b==true):=by cases b<;>rfl
  rw[bD];exact PySem.SeqAt.EqAt.bool_bool b true
 ·exact⟨.int j,H,I.tok _,⟨_,rfl⟩,q⟩
end
namespace Rd
theorem Zju{H:Hp}{Q:VK}{l:Addr}{bs:List Bool}{j:Nat}(h:H l=some (.lst (bs.map V.bl)))(bj:bs[j]? =some true)(bF:∀m<j,bs[m]? =some false)(q:Q (.int j) H):rIndexB (.ref l) [.bl true] H Q:=⟨l,bs,j,rfl,rfl,h,bj,bF,q⟩
end Rd
section
variable {X:Cx}{K:Frag}
section
variable {prog:Program}{w:World}{A:Around}{E:Value→Shared→Prop}{s:Shared}{I l:Addr}{items:Array Value}
end
end
namespace Rd
end Rd
section
variable {X:Cx}
end
namespace Rd
end Rd
end L2
namespace L2
open PySem PySem.Spec PySem.W PyProof.Rows Builtin Builtin.ObjectAttr Builtin.Getset_descriptor
def nr(x C:Addr)(h:Heap):Prop:=∃o,h.get? x=some o∧o.cls= .ref C
theorem nr.type{M:Model}{h:Heap}{x C:Addr}(I:nr x C h):Looks M h (typeOf (.ref x)) (.ref C):=by
 obtain⟨o,aS,a2⟩:=I;exact a2▸(Looks.ld aS).andThen .now
structure Yw(K:Frag)(C:Addr):Prop where
 cl:(clsIn K C).isSome=true
 ga:findIn K (.ref C) "__getattribute__" =some (some (.builtin "BaseException.__getattribute__"))
 gk:findIn K (.ref C) "__getattr__" =some none
 ca:findIn K (.ref C) "__class__" =some (some (.builtin "object.__class__"))
 cg:specialIn K (.builtin "object.__class__") "__get__" =some (some (.builtin "getset_descriptor.__get__"))
 ct:takesIn K (.builtin "object.__class__")=some true
 sub:subIn K (.ref C) (.type "BaseException")=some true
 mr:mroIn K C (.type "object")=some true
section
variable {prog:Program}{w:World}{A:Around}{E:Value→Shared→Prop}{s:Shared}{K:Frag}{x C:Addr}
theorem Zld{M:Model}{h:Heap}(X:K.In h)(c:Yw K C):Looks M h (Builtin.ObjectAttr.find (.ref x) (.ref C) "__class__") (.bind (.builtin "getset_descriptor.__get__") (.builtin "object.__class__")):=by
 have r2:=looks_findIn (M:=M) X c.ca;have L2:Looks M h (Builtin.ObjectAttr.getOf (some (.builtin "object.__class__"))) (some (.builtin "getset_descriptor.__get__")):=looks_specialIn X c.cg;have uX:=looks_takesIn (M:=M) X c.ct;exact r2.andThen (L2.andThen ((show Looks M h (Builtin.ObjectAttr.dataDescriptor? (some (.builtin "object.__class__")) (some (.builtin "getset_descriptor.__get__"))) (some (.builtin "getset_descriptor.__get__",.builtin "object.__class__")) from uX.andThen .now).andThen (Looks.tag .now)))
theorem EZ{uY:Value}{R:Result→Shared→Prop}(X:K.In s.heap)(I:nr x C s.heap)(c:Yw K C)(h:R (.ok (.ret (.ref C))) s):codeAny (model prog w) A (.call (.builtin "getset_descriptor.__get__") ⟨[.builtin "object.__class__",.ref x,uY],[]⟩) R s:=by
 obtain⟨bV,g,uZ,t,os⟩:=s;have qg:=I.type (M:=model prog w);have r2:=looks_mroIn (M:=model prog w) X c.mr;refine codeAny_call_builtin KF.slot_gs.plain KF.entry_gs (KF.slot_gs.check _ _ _ _ _ _ _ _ KF.type_class (KF.args_gs _ _ _) ?_);unfold Builtin.«getset_descriptor.__get__» descrGet;rw[dga_obj];refine wpAny_bind (wpAny_pure ?_);unfold descrGetter descrCheckInstance descrNameAndClass isInstance;simp only[KF.owner_class]
 repeat lk
 refine⟨Code.quiet_builtin _ (by decide+kernel),codeAny_builtin KF.entry_class ?_⟩;unfold Builtin.«object.__class__» shownTypeOf
 repeat lk
 exact h
theorem ZjR{bL:Tok}{Q:Fin→Shared→Prop}(X:K.In s.heap)(I:nr x C s.heap)(c:Yw K C)
  (h:Q (.done (.ret (.ref C))) s):wpAny (model prog w) A (Builtin.«object.__getattribute__» ⟨[.ref x,.str "__class__" bL],[]⟩) Q E s:=by
 obtain⟨bV,g,d,t,os⟩:=s;have qg:=I.type (M:=model prog w);have uX:=Zld (M:=model prog w) (x:=x) X c;show wpAny _ _ (typeOf (.ref x) >>= _) _ _ _;refine wpAny_bind (qg.at (wpAny_bind (uX.at ?_)));show wpAny _ _ (holding [Value.builtin "object.__class__"] (call (.builtin "getset_descriptor.__get__") [.builtin "object.__class__",.ref x,.ref C]) >>= ret) _ _ _;exact wpAny_bind (wpAny_holding (wpAny_call (EZ (s:=⟨bV,g,d,t,os⟩) X I c (wpAny_pure h))))
theorem Zji{Q:Option Value→Shared→Prop}(X:K.In s.heap)(I:nr x C s.heap)(c:Yw K C)(h:Q (some (.ref C)) {s with toks:=s.toks+1}):wpAny (model prog w) A (getAttr? (.ref x) "__class__") Q E s:=by
 obtain⟨bV,g,d,t,os⟩:=s;have qg:=I.type (M:=model prog w);have r2:=looks_findIn (M:=model prog w) X c.ga;have L2:=looks_findIn (M:=model prog w) X c.gk;have E1:Looks (model prog w) bV (isSubtype (.ref C) (.type "BaseException")) true:=looks_subIn X c.sub;have E2:Looks (model prog w) bV (isInstance (.ref x) (.type "BaseException")) true:=qg.andThen E1;unfold getAttr? getAttrBy? getAttrBy;refine wpAny_bind (wpAny_mkText (wpAny_bind (wpAny_attempt (wpAny_holding (wpAny_bind (qg.at (wpAny_bind (r2.at ?_))))))));show wpAny _ _ (getAttrByItsOwn _ _ _ _ _ _) _ _ _;unfold getAttrByItsOwn hookBefore;refine wpAny_bind (L2.at (wpAny_bind (wpAny_attempt (wpAny_holding ?_))));show wpAny _ _ (bindSpecial _ _ >>= _) _ _ _;rw[F.excAttr_ValueError.ga.bind (.ref x)];refine wpAny_bind (wpAny_pure (wpAny_call (codeAny_call_builtin F.excAttr_ValueError.ga.plain F.entry_bexc_ga ?_)));have a5:builtinKind "BaseException.__getattribute__" =some .slot:=by decide+kernel
 have ip:splitId "BaseException.__getattribute__" =some ("BaseException","__getattribute__"):=by decide+kernel
 have bx:=F.args_bexc_ga (.ref x) (.str "__class__" t);have E3:∀(Q:Unit→Shared→Prop)(E:Value→Shared→Prop),Q () ⟨bV,g,d,t+1,os⟩→wpAny (model prog w) A.in1 (checkBuiltinCall "BaseException.__getattribute__" ⟨[.ref x,.str "__class__" t],[]⟩) Q E ⟨bV,g,d,t+1,os⟩:=λQ E fA=>by
  simp only[checkBuiltinCall,a5,ip];refine wpAny_bind (E2.at ?_);simp only[qb8,qcb,if_false];cases E4:Manifest.signature? "BaseException.__getattribute__" with
  |none=>exact wpAny_pure fA
  |some sig=>
   simp only[argsOk,E4] at bx;have a2:Bind.checkArgs "BaseException.__getattribute__" sig ⟨[.ref x,.str "__class__" t],[]⟩=pure ():=bx;show wpAny _ _ (Bind.checkArgs "BaseException.__getattribute__" sig ⟨[.ref x,.str "__class__" t],[]⟩) Q E _;rw[a2];exact wpAny_pure fA
 refine E3 _ _ ?_;refine ZjR (s:=⟨bV,g,d,t+1,os⟩) (A:=A.in1) X I c ?_;exact handed_on rfl (wpAny_pure h)
theorem E5(c:Yw K C):KitX K (.ref x) (.ref C) (nr x C) where
 ty:=λ_ _ _ I=>I.type
 it:=λ_ _ X _=>by
  obtain⟨E6,lj⟩:=qbM.mp c.cl;unfold clsIn at lj
  split at lj
  ·rename_i eg d' cd' pe bz;intro h_ pj E' s' k q;unfold isType loadHead;exact wpAny_bind (wpAny_loadPart (k _ _ (X _ _ bz)) (wpAny_pure q))
  ·cases lj
 ne:=λh uY dd its n sl X E7=>by
  obtain⟨E6,lj⟩:=qbM.mp c.cl;refine Bool.eq_false_iff.mpr λq=>?_;have e:C=uY:=Value.ref.inj (beq_iff_eq.mp q);subst e;unfold clsIn at lj
  split at lj
  ·rename_i eg d' cd' pe bz;have z:=(X _ _ bz).symm.trans E7;cases z
  ·cases lj
 ca:=λX I k=>Zji X I c k
end
noncomputable def gN (x C:Addr):HO:= .ext λh=>nr x C h∧ZK h x
section
variable {X:Cx}
noncomputable def u0 (K:Frag):List V→Hp→VK→Prop:=λxs H Q=>∃(x C:Addr)(c:V)(u:Value)(b:Bool),xs=[.ref x,c]∧H x=some (gN x C)∧Yw K C∧(∀v,dq c v→v=u)∧kitOne K (.ref C) u=some b∧Q (.bl b) H
theorem kL{K:Frag}(e:X.K=K):Z8 X (.builtin "isinstance") (u0 K):=by
 subst e;intro aK s σ H xs us Q I r h;obtain⟨x,C,c,u,b,rfl,aT,jO,hu,a5,q⟩:=h;cases r with
 |cons df pm=>
  obtain⟨v,rfl,dC⟩:=YE pm;cases (show _=Value.ref x from df);have dZ:=hu v dC;subst dZ;obtain⟨⟨E8,_⟩,_,_⟩:=(show ZP X.prog X.w H s.heap x (gN x C) from I.hok x _ aT);exact kia_one (E5 jO) I.kIn E8 a5 (λz=>nomatch z) λbL=>⟨.bl b,H,I.tok bL,rfl,q⟩
end
end L2
namespace L2
open PySem PySem.Spec PyProof.Rows
section
variable {X:Cx}{aK:List (Addr×Obj)}{σ:List (Option V)}{H:Hp}{s:Shared}
theorem Inv.track{ea:Addr}{o:HO}(I:Inv X aK σ H s)(de:∀dz,X.s₀.heap.get? ea=some dz→ea∈X.ex)(hU:ea≠X.env.locals)(a8:∀x c,X.env.cells.lookup x=some c→c≠ea)(bb:∀p∈X.pn++aK,p.1≠ea)(bF:H ea=none)
  (new:ZP X.prog X.w (upd H ea o) s.heap ea o):Inv X aK σ (upd H ea o) s:=by
 refine⟨I.ok,I.os,I.bare,⟨I.base.keep,I.base.slot,λb dz e n aT=>?_,I.base.there,λb xs e=>?_,λb dz u e=>?_,λb ps e=>?_⟩,I.loc,I.cell,?_,λx c e=>?_,λp r3=>?_,λb u e=>?_,I.len⟩
 ·rw[b2 (λz=>aT (by rw[z];exact de dz (by rw[←z];exact e)))];exact I.base.free b dz e n aT
 ·rw[b2 (d9 (I.base.tups b xs e) bF)];exact I.base.tups b xs e
 ·rw[b2 (d9 (I.base.frzs b dz u e) bF)];exact I.base.frzs b dz u e
 ·obtain⟨more,q⟩:=I.base.tbls b ps e;exact⟨more,by rw[b2 (d9 q bF)];exact q⟩
 ·rw[b2 (qbP hU)];exact I.free
 ·rw[b2 (a8 x c e)];exact I.freeC x c e
 ·obtain⟨a,b,r⟩:=I.pin p r3;exact⟨a,by rw[b2 (bb p r3)];exact b,r⟩
 ·by_cases aN:b=ea
  ·subst aN;rw[Zd] at e;cases e;exact new
  ·rw[b2 aN] at e;exact(I.hok b u e).stay (λc v _ q=>q) (λc q=>by rw[b2 (d9 q bF)];exact q) λc xs q=>by rw[b2 (d9 q bF)];exact q
theorem Inv.dropName{h':Heap}{t':Nat}{j:Nat}{n:Str}{m:Str→Option Value}{v:Option Value}(I:Inv X aK σ H s)(eG:X.N.Nodup)(bj:X.N[j]? =some n)(hs:Heap.SameBut X.env.locals s.heap h')
  (bo:∀(i:Nat) x w,X.N[i]? =some x→σ[i]? =some (some w)→Vis X.env.scope x→∃u,dq w u∧Zmy X.env s.heap m x u) (bF:h'.Ns X.env.locals (λx=>if x=n then v else m x)):Inv X aK (σ.set j none) H {s with heap:=h',toks:=t'}:=by
 have n5:∀b o,X.s₀.heap.get? b=some o→b≠X.env.locals:=λb o e=>qai (qaf (Heap.lt_size e) I.ok.above);have k:∀b o,b≠X.env.locals→s.heap.get? b=some o→h'.get? b=some o:=λb o aN e=>(hs.2 b aN).trans e;refine⟨I.ok,I.os,I.bare,⟨λb o e hV aN aT=>k b o (n5 b o e) (I.base.keep b o e hV aN aT),λb o e hV aN aT=>?_,I.base.free,λb o e aT=>?_,I.base.tups,I.base.frzs,I.base.tbls⟩,⟨_,bF,λi x w bw bC dP=>?_⟩,λx c e=>?_,I.free,I.freeC,λp bb=>?_,λb u e=>?_,by rw[qbY];exact I.len⟩
 ·obtain⟨sl,q⟩:=I.base.slot b o e hV aN aT;exact⟨sl,k b _ (n5 b o e) q⟩
 ·obtain⟨c',q⟩:=I.base.there b o e aT;exact⟨c',k b c' (n5 b o e) q⟩
 ·by_cases u1:i=j
  ·subst u1;have:(σ.set i none)[i]? =some none∨(σ.set i none)[i]? =none:=by
    rcases qbw i σ.length with z|z
    ·exact .inl (by rw[qbn z])
    ·exact .inr (qaP (by rw[qbY];exact z))
   rcases this with z|z<;>(rw[z] at bC;cases bC)
  ·rw[qbx (λz=>u1 z.symm)] at bC;obtain⟨u,r,l⟩:=bo i x w bw bC dP;have nx:x≠n:=λz=>u1 (tD eG (by rw[bw,z]) bj);refine⟨u,r,?_⟩;rcases l with⟨a,b⟩|⟨a,c,e,o,bz,hd⟩
   ·exact .inl ⟨a,by simp only[if_neg nx];exact b⟩
   ·exact .inr ⟨a,c,e,o,k c o (I.cne x c e) bz,hd⟩
 ·obtain⟨w,o,bz,hd⟩:=I.cell x c e;exact⟨w,o,k c o (I.cne x c e) bz,hd⟩
 ·obtain⟨a,b,c,r⟩:=I.pin p bb;exact⟨k _ _ c a,b,c,r⟩
 ·refine(I.hok b u e).stay (λc jG a8 q=>k c jG ?_ q) (λ_ q=>q) λ_ _ q=>q;rcases a8 with z|z
  ·rw[z];exact d9 e I.free
  ·exact d9 z I.free
end
section
variable {X:Cx}
noncomputable def zk (K:Frag) (c:Value) (j:Nat) (dy:(St→Prop)→XK→TS) (iu:Addr→TS):TS:=λD σ H=>∃(J:St→Prop)(iZ:XK),dy J iZ D σ H∧∀bN cls H',J bN→iZ cls none H'→exmOne K cls c=some true∧∃C,cls= .ref C∧∀ea,H' ea=none→
 iu ea {D with nx:=λdn a4=>D.nx (dn.set j none) a4,bk:=λdn a4=>D.bk (dn.set j none) a4,ct:=λdn a4=>D.ct (dn.set j none) a4} (bN.set j (some (.ref ea))) (upd H' ea (gN ea C))
theorem zl{n:Str}{j:Nat}{body:List Stmt}{u2:Stmt}{u3:List Stmt}{x:Str}{nj hL pos:Pos}{dy:(St→Prop)→XK→TS}{iu:Addr→TS}{C:Addr}
  (fa:X.stack=X.env::X.outer) (gy:X.env.frame=some X.env.locals) (bc:Gl X x) (bo:X.mg x=some (.ref C)) (aN:Zo2 X body dy) (hs:∀ea,PSs {X with A:=X.A.mark (some (.ref ea)),calm:=false,xe:=λ_ _=>False} (u2::u3) (iu ea)) (eG:X.N.Nodup) (bj:X.N[j]? =some n) (oy:X.env.scope.names.lookup n=some .local) (f':(x==("__debug__" :Str))=false:=by decide):
  PS X (.Try body [.ExceptHandler (some (.Name x nj)) (some n) (u2::u3) hL] [] [] pos) (zk X.K (.ref C) j dy iu):=by
 intro aK s σ H D I h;obtain⟨J,iZ,jr,bV⟩:=h;have E9:X.A.frames=some (X.env::X.outer):=by rw[I.ok.frames,fa]
 refine wpAny_Try_except ?_
 let kJ:Value→Shared→Prop:=λe eh=>wpAny (model X.prog X.w) X.A (noteFrame e X.env) (λ_ jZ=>wpAny (model X.prog X.w) X.A (setFlight e none) (λ_ jj=>wpAny (model X.prog X.w) X.A (handleBy e X.env [.ExceptHandler (some (.Name x nj)) (some n) (u2::u3) hL]) (SP X aK D) X.xe jj) X.xe jZ) X.xe eh
 have own:PassesOwn (model X.prog X.w) X.A X.env kJ:=PassesOwn.looking;have on:∀{xe:Value→Shared→Prop}{n6:List (Addr×Obj)}{bN:St}{H':Hp}{s':Shared},Inv {X with pn:=X.pn++aK,xe:=xe} n6 bN H' s'→Inv X aK bN H' s':=λ{xe n6 bN H' s'} J=>by
  have o:=J.ok;exact⟨⟨o.mod,o.kind,o.glob,o.blt,o.above,o.inj,o.has,o.cab,o.hd,o.frames,o.stk,o.exf,o.bs,o.bsz,o.noex,o.exfs,o.funs,o.frf⟩,J.os,J.bare,J.base,J.loc,J.cell,J.free,J.freeC,λp bb=>J.pin p (qa5 _ bb),J.hok,J.len⟩
 have E_:Inv {X with pn:=X.pn++aK,xe:=kJ} [] σ H s:=by
  have o:=I.ok;exact⟨⟨o.mod,o.kind,o.glob,o.blt,o.above,o.inj,o.has,o.cab,o.hd,o.frames,o.stk,o.exf,o.bs,o.bsz,o.noex,o.exfs,o.funs,o.frf⟩,I.os,I.bare,I.base,I.loc,I.cell,I.free,I.freeC,λp bb=>I.pin p (by simpa using bb),I.hok,I.len⟩
 have Fa:Zae (CXX X.prog X.w) {X with pn:=X.pn++aK,xe:=kJ} J iZ:=by
  intro n6 bN aU a7 e s' lu bB hcx;obtain⟨ea,cls,a0,H',B,rfl,os,bare,un,ok,fl,gJ,fQ,q⟩:=hcx;have eT:=on bB;obtain⟨Fb,r4,rfl,Fc⟩:=bV bN cls H' lu q;have Fd:Heap.FlyingW B (X.env::X.outer) ea (.ref r4) a0 s'.heap:=by rw[←fa];exact fl
  show wpAny _ _ _ _ _ _;refine ZjQ fQ E9 gy Fd λyJ held₄ sl₄ Fe=>?_;refine ZnC Fe held₄ λuh fl₅ sl₅ Ff=>?_;have there:∀{d2:Heap},Heap.FlyingW B (X.env::X.outer) ea (.ref r4) a0 d2→s'.heap.UpToSlots d2→Inv X aK bN H' {s' with heap:=d2}:=λ{d2} f6 sl=>by
   have Fg:Un (frs X.stack) [] aU H' a7.heap d2:=un.fly gJ f6.1 sl (λb aN o e=>by
    obtain⟨_,c',b1,d⟩:=eT.stack.mem aN;rw[e] at b1;cases b1;exact d) eT.stkFree
   exact eT.call' (s':={s' with heap:=d2}) os Fg (ok.stays (λb o e n=>gJ b o e (.inl n)) f6.1) bare (λb z=>absurd z (by simp))
  have held:∀{eB:Shared},Inv X aK bN H' eB→Inv {X with A:=X.A.mark (some (.ref ea)),calm:=false,xe:=λ_ _=>False} aK bN H' eB:=λ{eB} J=>by
   have o:=J.ok;exact⟨⟨o.mod,o.kind,o.glob,o.blt,o.above,o.inj,o.has,o.cab,λz=>absurd (show false=true from z) qag,o.frames,o.stk,o.exf,o.bs,o.bsz,o.noex,o.exfs,o.funs,o.frf⟩,J.os,J.bare,J.base,J.loc,J.cell,J.free,J.freeC,J.pin,J.hok,J.len⟩
  have jK:=held (there fl₅ (sl₄.trans sl₅));refine wpAny_handleBy_cons (codeAny_handlers_test ?_) (by intro q;cases q);refine l3 jK bc bo ?_ f';obtain⟨dz,Fh,Fi⟩:=fl₅.there;have LT:PySem.W.Looks (model X.prog X.w) uh (typeOf (.ref ea)) (.ref r4):=by
   exact Fi▸(PySem.W.Looks.ld Fh).andThen .now
  refine(PySem.W.exm_one jK.kIn LT Fb).here ?_;refine codeAny_handlers_suite_as ?_;refine Zf9 Ff fl₅ λQD fl₆ sl₆ Fj=>?_;have hg:=held (there fl₆ ((sl₄.trans sl₅).trans sl₆));obtain⟨zm,k6,QE⟩:=fl.there;have jk:∀b o,a7.heap.get? b=some o→b≠ea:=λb o e z=>by
   subst z
   by_cases bv:b∈frs X.stack
   ·obtain⟨_,c',b1,d⟩:=eT.stack.mem bv;obtain⟨sl,h5⟩:=un.any b1 (eT.stkFree b bv) (by simp);obtain⟨QF,vs,mo,_,Fk,_⟩:=fl.first;rw[h5] at mo;cases mo;exact d vs Fk
   ·have:=gJ b zm k6 (.inr ⟨⟨o,e⟩,bv⟩);rw[fl.2.1] at this;cases this
  have eO:H' ea=none:=by
   cases e:H' ea with
   |none=>rfl
   |some o=>
    have:=gJ ea zm k6 (.inl (by rw[e];simp));rw[fl.2.1] at this;cases this
  have de:∀dz,X.s₀.heap.get? ea=some dz→ea∈X.ex:=λdz e=>by
   by_cases aT:ea∈X.ex
   ·exact aT
   ·obtain⟨c',h5⟩:=eT.base.there ea dz e aT;exact absurd rfl (jk ea c' h5)
  obtain⟨zn,zo,Fl⟩:=fl₆.there;have hW:=Inv.track (o:=gN ea r4) hg de (λz=>by
   obtain⟨m,⟨o,a',ep,bz,_⟩,_⟩:=eT.loc;exact jk _ o bz z.symm) (λy c e=>by
   obtain⟨v,o,bz,_⟩:=eT.cell y c e;exact jk c o bz) (λfc r3=>jk _ _ (eT.pin fc r3).1) eO ⟨⟨⟨zn,zo,Fl⟩,Fj⟩,⟨zn,zo⟩,λaS a2 ⟨⟨o,a1,dj⟩,n⟩ k=>⟨⟨o,k o a1,dj⟩,n.keeps k⟩⟩
  refine pi (X:={X with A:=X.A.mark (some (.ref ea)),calm:=false,xe:=λ_ _=>False}) hW eG bj (.inl oy) (show dq (.ref ea) (.ref ea) from rfl) (λe8 p3=>?_) (.inr oy);refine wpAny_mono (hs ea aK e8 _ _ _ p3 (Fc ea eO)) (λf bK a2=>?_) λ_ _ z=>False.elim z;have r5:∀{dn:St}{a4:Hp}{bK:Shared},Inv {X with A:=X.A.mark (some (.ref ea)),calm:=false,xe:=λ_ _=>False} aK dn a4 bK→Inv X aK dn a4 bK:=λ{dn a4 bK} J=>by
   have o:=J.ok;exact⟨⟨o.mod,o.kind,o.glob,o.blt,o.above,o.inj,o.has,o.cab,I.ok.hd,I.ok.frames,o.stk,o.exf,o.bs,o.bsz,o.noex,o.exfs,o.funs,o.frf⟩,J.os,J.bare,J.base,J.loc,J.cell,J.free,J.freeC,J.pin,J.hok,J.len⟩
  have r6:∀{dn:St}{a4:Hp}{bK:Shared}{Q:Unit→Shared→Prop},Inv X aK dn a4 bK→(∀bM,Inv X aK (dn.set j none) a4 bM→Q () bM)→wpAny (model X.prog X.w) X.A (do bindName X.env n .none;unbindBehindTheSuite X.env n hL) Q X.xe bK:=λ{dn a4 bK Q} J bT=>by
   refine wpAny_bind (wpAny_bindName (pi (u:= .none) J eG bj (.inl oy) (show dq .non .none from rfl) (λbM j'=>?_) (.inr oy)));obtain⟨m,bF,aJ⟩:=j'.loc;have tF:(X.env.scope.kind== .class||(X.env.scope.kind== .module&&X.env.locals != X.env.globals))=false:=by rw[j'.ok.kind];rfl
   have qh:X.env.kindOf n=some .local:=oy;unfold unbindBehindTheSuite;refine wpAny_onRaise ?_;unfold unbindName;refine wpAny_bind (wpAny_point (wpAny_bind ?_));unfold deleteName;simp only[qh,tF];rw[if_neg (by decide)];refine wpAny_bind (wpAny_nsDel_keeps bF λug v hn₂ Fm=>?_);have zp:Inv X aK ((dn.set j (some .non)).set j none) a4 {bM with heap:=ug,toks:=bM.toks}:=j'.dropName eG bj Fm aJ hn₂;rw[List.set_set] at zp;have i3:j<dn.length:=by rw[J.len];exact(GM.mp bj).1
   have kM:(m n).isSome=true:=by
    obtain⟨u,r,l⟩:=aJ j n .non bj (by rw[qbn i3]) (.inl oy);rcases l with⟨_,b⟩|⟨a,_⟩
    ·rw[b];rfl
    ·rcases a with a|a<;>(rw[qh] at a;cases a)
   rw[kM];simp only[if_true,qb8,qcb,if_false];exact wpAny_pure (wpAny_point (bT _ zp))
  show wpAny (model X.prog X.w) X.A (do bindName X.env n .none;unbindBehindTheSuite X.env n hL) (λ_ jj=>SP X aK D f jj) X.xe bK;cases f with
  |next=>obtain⟨dn,a4,iE,dI⟩:=a2;exact r6 (r5 iE) λbM j'=>⟨_,a4,j',dI⟩
  |brk=>obtain⟨dn,a4,iE,dI⟩:=a2;exact r6 (r5 iE) λbM j'=>⟨_,a4,j',dI⟩
  |cont=>obtain⟨dn,a4,iE,dI⟩:=a2;exact r6 (r5 iE) λbM j'=>⟨_,a4,j',dI⟩
  |ret u=>obtain⟨v,dn,a4,iE,dO,dI⟩:=a2;exact r6 (r5 iE) λbM j'=>⟨v,_,a4,j',dO,dI⟩
 refine wpAny_mono (aN J iZ (X.pn++aK) kJ own Fa [] s σ H D E_ jr) (λf a7 aS=>?_) λe a7 aS=>aS;cases f with
 |next=>
  obtain⟨dn,a4,iE,dI⟩:=aS;show wpAny _ _ (execs [] X.env) _ _ _;exact wpAny_pure ⟨dn,a4,on iE,dI⟩
 |brk=>obtain⟨dn,a4,iE,dI⟩:=aS;exact⟨dn,a4,on iE,dI⟩
 |cont=>obtain⟨dn,a4,iE,dI⟩:=aS;exact⟨dn,a4,on iE,dI⟩
 |ret u=>obtain⟨v,dn,a4,iE,dO,dI⟩:=aS;exact⟨v,dn,a4,on iE,dO,dI⟩
end
namespace Rd
section
variable {σ:St}{H:Hp}{Q:VK}{K:Frag}
theorem ZoG{x C B:Addr}{b:Bool}(h:H x=some (gN x C))(jO:Yw K C)(k:PySem.W.kitOne K (.ref C) (.ref B)=some b)(q:Q (.bl b) H):u0 K [.ref x,.ref B] H Q:=⟨x,C,.ref B,.ref B,b,rfl,h,jO,λv r=>r,k,q⟩
theorem ZoC{x C:Addr}{n:String}{b:Bool}(h:H x=some (gN x C))(jO:Yw K C)(k:PySem.W.kitOne K (.ref C) (.type n)=some b)(q:Q (.bl b) H):u0 K [.ref x,.ty n] H Q:=⟨x,C,.ty n,.type n,b,rfl,h,jO,λv r=>r,k,q⟩
end
section
variable {σ:St}{H:Hp}{K:Frag}
theorem Zjg{c:Value}{j:Nat}{dy:(St→Prop)→XK→TS}{iu:Addr→TS}{D:Ends}(iZ:XK)(aN:dy (λs=>s=σ) iZ D σ H)(bV:∀cls H',iZ cls none H'→exmOne K cls c=some true∧∃C,cls= .ref C∧∀ea,H' ea=none→
  iu ea {D with nx:=λdn a4=>D.nx (dn.set j none) a4,bk:=λdn a4=>D.bk (dn.set j none) a4,ct:=λdn a4=>D.ct (dn.set j none) a4} (σ.set j (some (.ref ea))) (upd H' ea (gN ea C))):zk K c j dy iu D σ H:=
 ⟨λs=>s=σ,iZ,aN,λ_ cls H' e h=>e▸bV cls H' h⟩
end
end Rd
theorem ZiB{K:Frag}{C:Addr}{bm:List Value}{n:String}(h:excIn K C bm n=true):(PySem.W.clsIn K C).isSome=true:=by
 unfold excIn at h
 split at h
 ·rename_i dd cd sl bz;unfold PySem.W.clsIn;rw[bz]
  rfl
 ·cases h
section
variable {X:Cx}
end
end L2
namespace HT
open PySem PyProof.Rows
section
open PySem.SeqAt
open PySem.MeetsSeq PySem.MeetsSeq2 PySem.MeetsSeq3
variable {prog:Program}{w:World}{A:Around}{E:Value→Shared→Prop}{s:Shared}
end
end HT
namespace L2
section
variable {X:Cx}{K:Frag}
open PySem PySem.Spec PyProof.Rows
end
namespace Rd
open PySem PySem.Spec PyProof.Rows
end Rd
end L2
namespace L2
open PySem PySem.Spec PyProof.Rows
section
def VR(p:Array Nat):Prop:=p.toList.Pairwise (· < ·)
theorem VR.lt{p:Array Nat}(h:VR p){i j:Nat}(u4:i<j)(bj:j<p.size):p[i]'(Nat.lt_trans u4 bj)<p[j]:=by
 have:=qbb.mp h i j (by simpa using Nat.lt_trans u4 bj) (by simpa using bj) u4;simpa using this
theorem Zcv{p:Array Nat}{j:Nat}(a3:VR p):∀(f lo hi:Nat),lo≤hi→hi≤p.size→hi-lo≤f→(∀i (h:i<p.size),i<lo→p[i]<j)→(∀i (h:i<p.size),hi≤i→j≤p[i])→
  SetTable.below.go p j f lo hi≤p.size∧(∀i (h:i<p.size),i<SetTable.below.go p j f lo hi→p[i]<j)∧∀i (h:i<p.size),SetTable.below.go p j f lo hi≤i→j≤p[i]
 |0,lo,hi,aS,a2,bU,dD,eM=>by
  have e:lo=hi:=by omega
  subst e;exact⟨a2,dD,eM⟩
 |f+1,lo,hi,aS,a2,bU,dD,eM=>by
  unfold SetTable.below.go
  by_cases aJ:lo<hi
  ·rw[if_pos aJ];have bo:(lo+hi) / 2<p.size:=by omega
   have fy:p.getD ((lo+hi) / 2) j=p[(lo+hi) / 2]:=by simp[Array.getD,bo]
   dsimp only;rw[fy]
   by_cases a8:p[(lo+hi) / 2]<j
   ·rw[if_pos a8];refine Zcv a3 f _ _ (by omega) a2 (by omega) (λi h el=>?_) eM;rcases qbw i ((lo+hi) / 2) with z|z
    ·exact Nat.lt_trans (a3.lt z bo) a8
    ·have:i=(lo+hi) / 2:=by omega
     subst this;exact a8
   ·rw[if_neg a8];refine Zcv a3 f _ _ (by omega) (by omega) (by omega) dD λi h el=>?_;rcases qbw ((lo+hi) / 2) i with z|z
    ·have:=a3.lt z h;omega
    ·have:i=(lo+hi) / 2:=by omega
     subst this;omega
  ·rw[if_neg aJ];have e:lo=hi:=by omega
   subst e;exact⟨a2,dD,eM⟩
theorem Zct{p:Array Nat}(a3:VR p)(j:Nat):SetTable.below p j≤p.size∧(∀i (h:i<p.size),i<SetTable.below p j→p[i]<j)∧∀i (h:i<p.size),SetTable.below p j≤i→j≤p[i]:=
 Zcv a3 p.size 0 p.size (qav _) (fm _) (fm _) (λ_ _ h=>absurd h (qa0 _)) λi h z=>absurd h (Nat.not_lt.mpr z)
theorem Fn{p:Array Nat}(a3:VR p){i:Nat}(hi:i<p.size):SetTable.below p (p[i]+1)=i+1:=by
 obtain⟨aS,a2,bU⟩:=Zct a3 (p[i]+1);rcases Nat.lt_trichotomy (SetTable.below p (p[i]+1)) (i+1) with z|z|z
 ·have:=bU i hi (by omega);omega
 ·exact z
 ·have aJ:i+1<p.size:=by omega
  have:=a2 (i+1) aJ z;have:=a3.lt (i:=i) (j:=i+1) (qa9 i) aJ;omega
theorem Zia{p:Array Nat}(a3:VR p):SetTable.below p 0=0:=by
 obtain⟨aS,a2,bU⟩:=Zct a3 0;rcases qbj (SetTable.below p 0) with z|z
 ·exact z
 ·have:=a2 0 (by omega) z;omega
theorem VR.insert{p:Array Nat}(a3:VR p){j:Nat}(bF:p[SetTable.below p j]? ≠some j):VR (SetTable.insertAt p (SetTable.below p j) j):=by
 obtain⟨aS,a2,bU⟩:=Zct a3 j;unfold VR;rw[SetTable.toList_insertAt];generalize SetTable.below p j=b at*;refine List.pairwise_append.mpr ⟨a3.sublist (List.take_sublist _ _),List.pairwise_cons.mpr ⟨λy bE=>?_,a3.sublist (List.drop_sublist _ _)⟩,λx aT y bE=>?_⟩
 ·obtain⟨k,a5,rfl⟩:=qbm.mp bE;rw[List.getElem_drop];rw[qbD,qaE] at a5;have aN:b<p.size:=by omega
  have gC:j<p[b]:=Nat.lt_of_le_of_ne (bU b aN (fm _)) λe=>bF (by rw[qaL aN,e]);rcases qbj k with rfl|r7
  ·simpa using gC
  ·have:=a3.lt (i:=b) (j:=b+k) (by omega) (by omega);simpa using Nat.lt_trans gC this
 ·have js:x<j:=by
   obtain⟨k,a5,rfl⟩:=qbm.mp aT;rw[qaI,qaE] at a5;rw[qci];simpa using a2 k (by omega) (by omega)
  rcases qad.mp bE with rfl|bE
  ·exact js
  ·obtain⟨k,a5,rfl⟩:=qbm.mp bE;rw[qbD,qaE] at a5;rw[List.getElem_drop];have:=bU (b+k) (by omega) (by omega);have dD:x<p[b+k]:=qaf js this;simpa using dD
theorem Fp(n:Nat):VR (Array.range n):=by
 unfold VR;rw[Array.toList_range];exact List.pairwise_lt_range
structure Z3(led:Bool)(t:SetTable):Prop where
 rise:VR t.place
 dum:t.dummies=#[]
 led:t.led=led
variable {led:Bool}{t:SetTable}
theorem Z3.fresh:Z3 led (.fresh 0 0 led):=⟨List.Pairwise.nil,rfl,rfl⟩
theorem Z3.standIn(g:Z3 led t)(n:Nat):Z3 led (t.standIn n):=⟨Fp n,rfl,g.led⟩
theorem Z3.orStandIn(g:Z3 led t)(n:Nat):Z3 led (t.orStandIn n):=by
 unfold SetTable.orStandIn
 split
 ·exact g
 ·exact g.standIn n
theorem Z3.noDummy(g:Z3 led t)(j:Nat):SetTable.has t.dummies j=false:=by
 rw[g.dum];simp[SetTable.has]
theorem Z3.slot_empty(g:Z3 led t){j:Nat}(h:t.slot j= .empty):t.place[SetTable.below t.place j]? ≠some j:=by
 intro e;unfold SetTable.slot at h;dsimp only at h;rw[e] at h;simp at h
theorem ZcU(g:Z3 led t){bx:Nat→Int}{h:Int}:∀(f:Nat)(p:SetTable.Probe)(j:Nat)(d:Option Nat),p.dummy=none→SetTable.probe.go t bx h f p=some (.empty j d)→d=none∧t.slot j= .empty
 |0,p,j,d,bb,e=>by cases e
 |f+1,p,j,d,bb,e=>by
  have Fq:∀q:SetTable.Probe,(t.advance q).dummy=q.dummy:=λq=>by
   unfold SetTable.advance
   split<;>rfl
  unfold SetTable.probe.go at e;cases hs:t.slot p.j with
  |empty=>rw[hs] at e;cases e;exact⟨bb,hs⟩
  |dummy=>
   exfalso;unfold SetTable.slot at hs;dsimp only at hs;rw[g.noDummy] at hs
   split at hs<;>simp at hs
  |live i=>
   rw[hs] at e;dsimp only at e
   split at e
   ·cases e
   ·exact ZcU g f _ j d (by rw[Fq,bb]) e
theorem Z3.put(g:Z3 led t){j:Nat}(h:t.slot j= .empty):Z3 led (t.put j).1:=by
 refine⟨g.rise.insert (g.slot_empty h),?_,g.led⟩;show(if SetTable.has t.dummies j then _ else t.dummies)=#[];rw[g.noDummy];exact g.dum
theorem Z3.layNew(g:Z3 led t)(a':Array (Int×Value))(h:Int)(x:Value):Z3 led (layNew t a' h x).2.1:=by
 unfold PySem.layNew
 split
 ·rename_i slot was e;dsimp only;refine Z3.orStandIn (g.put ?_) _;unfold SetTable.freeSlot at e
  split at e
  ·rename_i j d bC;obtain⟨rfl,hs⟩:=ZcU g _ _ j d rfl bC;cases e;exact hs
  ·cases e
 ·exact g.standIn _
theorem Z3.laid{zq finger Fs:Nat}{pl:Bool}{hs:Array Int}{r:SetTable×Array Nat}(e:SetTable.laid zq finger Fs led pl hs=some r):Z3 led r.1:=by
 unfold SetTable.laid at e;cases bz:SetTable.layClean zq hs with
 |none=>rw[bz] at e;cases e
 |some owner=>
  rw[bz] at e;cases e;refine⟨?_,rfl,rfl⟩;show List.Pairwise _ _;simp only[List.toList_toArray];rw[qbK];refine List.Pairwise.filterMap _ (R:=(· < ·)) (λa b zr c a8 d hd=>?_) List.pairwise_lt_range;cases bw:owner.getD a none with
  |none=>rw[bw] at a8;cases a8
  |some x=>
   cases bC:owner.getD b none with
   |none=>rw[bC] at hd;cases hd
   |some y=>rw[bw] at a8;rw[bC] at hd;cases a8;cases hd;exact zr
theorem Z3.relayAll(g:Z3 led t)(a':Array (Int×Value))(n:Nat):Z3 led (relayAll t a' n).2.1:=by
 unfold PySem.relayAll
 split
 ·rename_i t' order e;dsimp only
  split
  ·unfold SetTable.relaid at e;rw[g.led] at e;exact Z3.laid e
  ·exact g.standIn _
 ·exact g.standIn _
end
section
noncomputable def keyI:Int×Value→Int
 |(_,.int n _)=>n
 |_=>0
def UG(led:Bool)(cx:List Int)(o:Obj):Prop:=o.ExactSet∧∃a' ep t,o.data= .set a' ep t∧(∀e∈a'.toList,∃n bL,e=(hashInt n,Value.int n bL))∧a'.size<scanBound∧t.fits a'.size=true∧Z3 led t∧(a'.toList.map keyI).Perm cx
variable {prog:Program}{w:World}{A:Around}{E:Value→Shared→Prop}{s:Shared}{led:Bool}
theorem u5{l:List (Int×Value)}(h:∀e∈l,∃n bL,e=(hashInt n,Value.int n bL)):ElemsOf (intKind prog w) l:=λe bD=>by
 obtain⟨n,bL,rfl⟩:=h e bD;exact⟨⟨n,intKind_is _ _ _ _,rfl⟩,rfl⟩
theorem u6{l:List (Int×Value)}(h:∀e∈l,∃n bL,e=(hashInt n,Value.int n bL)){n:Int}:(∃e∈l,(intKind prog w).is n e.2=true)↔n∈l.map keyI:=by
 constructor
 ·rintro⟨e,bD,hi⟩;obtain⟨m,bL,rfl⟩:=h e bD;have:n=m:=(intKind prog w).inj _ n m hi (intKind_is _ _ _ _);subst this;exact qah.mpr ⟨_,bD,rfl⟩
 ·intro bo;obtain⟨e,bD,a5⟩:=qah.mp bo;obtain⟨m,bL,rfl⟩:=h e bD;cases a5;exact⟨_,bD,intKind_is _ _ _ _⟩
theorem zt{g:Bool→Sem Unit}(bc:∀(b:Bool)(a7:Shared)(i4:Unit→Shared→Prop),i4 () a7→wpAny (model prog w) A (g b) i4 E a7){a:Addr}{o:Obj}{a':Array (Int×Value)}{ep:Nat}{t:SetTable}{cx:List Int}{fT:Array (Int×Value)}{ec:SetTable}{was:Bool}{R:Option Bool→Shared→Prop}
  (bz:s.heap.get? a=some o) (fG:o.ExactSet) (hd:o.data= .set a' ep t) (nt:∀e∈fT.toList,∃n bL,e=(hashInt n,Value.int n bL)) (k1:(fT.toList.map keyI).Perm cx) (jr:fT.size<scanBound) (f2:ec.fits fT.size=true) (g2:Z3 led ec)
  (q:∀h' c',Heap.SameBut a s.heap h'→h'.get? a=some c'→UG led cx c'→R (some true) {s with heap:=h'}):
  wpAny (model prog w) A (storeSet a fT ec >>= λ_=>if(!was&&ec.tooFull)=true then g (relayAll ec fT (SetTable.grown fT.size)).2.2 >>= λ_=>storeSet a (relayAll ec fT (SetTable.grown fT.size)).1 (relayAll ec fT (SetTable.grown fT.size)).2.1 >>= λ_=>pure (some true) else pure (some true)) R E s:=by
 refine wpAny_bind (wpAny_storeSet_of bz hd ?_ (fits_of_scanBound jr));have hh:=Heap.SameBut.update s.heap a (Obj.putSet fT ec);obtain⟨nu,_⟩:=SetOf_store (knd:=intKind prog w) (S':=λk=>decide (k∈cx)) bz fG hd (u5 nt) (λk=>by rw[u6 nt,k1.mem_iff];simp) jr f2
 split
 ·have kN:=relayAll_perm ec fT (SetTable.grown fT.size);have dR:=relayAll_fits ec fT (SetTable.grown fT.size);have g3:=g2.relayAll fT (SetTable.grown fT.size);generalize relayAll ec fT (SetTable.grown fT.size)=R at kN dR g3⊢;obtain⟨qi,ka,QG⟩:=R;dsimp only at kN dR g3⊢;have nv:qi.size=fT.size:=by have:=kN.length_eq;simpa using this
  have oz:qi.size<scanBound:=by rw[nv];exact jr
  have u7:∀e∈qi.toList,∃n bL,e=(hashInt n,Value.int n bL):=λe bD=>nt e (kN.mem_iff.mp bD);have k3:(qi.toList.map keyI).Perm cx:=(kN.map keyI).trans k1;refine wpAny_bind (bc _ _ _ ?_);refine wpAny_bind (wpAny_storeSet_of nu rfl ?_ (fits_of_scanBound oz));obtain⟨Ft,_⟩:=SetOf_store (knd:=intKind prog w) (S':=λk=>decide (k∈cx)) nu fG rfl (u5 u7) (λk=>by rw[u6 u7,k3.mem_iff];simp) oz dR;exact wpAny_pure (q _ _ (hh.trans (Heap.SameBut.update _ a _)) Ft ⟨fG,qi,_,ka,rfl,u7,oz,dR,g3,k3⟩)
 ·exact wpAny_pure (q _ _ hh nu ⟨fG,fT,_,ec,rfl,nt,jr,f2,g2,k1⟩)
theorem Zlb{a:Addr}{o:Obj}{cx:List Int}{n:Int}{bL:Tok}{Q:Bool→Shared→Prop}(bz:s.heap.get? a=some o)(e1:UG led cx o)(QH:cx.length+1<scanBound)
  (q:∀h' c',Heap.SameBut a s.heap h'→h'.get? a=some c'→UG led (step_dedup cx n) c'→∀b,Q b {s with heap:=h'}):wpAny (model prog w) A (setAddHashed a (.int n bL) (hashInt n)) Q E s:=by
 obtain⟨fG,a',ep,t,hd,oG,aN,bv,bc,bb⟩:=e1;have mq:ElemsOf (intKind prog w) a'.toList:=u5 oG;have mu:a'.size=cx.length:=by have:=bb.length_eq;simpa using this
 have nw:(∃e∈a'.toList,(intKind prog w).is n e.2=true)↔n∈cx:=(u6 oG).trans bb.mem_iff;unfold setAddHashed setAddHashedIn;refine wpAny_holding (wpAny_bind (wpAny_setState_of bz hd bv ?_));dsimp only;rw[byScan_of (x:= .int n bL) rfl aN mq,if_pos rfl];refine wpAny_bind ?_;unfold setAddByScan;refine wpAny_bind (wpAny_rule (wpAny_bind (wpAny_setScan_of (knd:=intKind prog w) (k:=n) (intKind_is _ _ _ _) bz hd bv mq ?_)));cases a3:a'.toList.findIdx? (λe=>(intKind prog w).is n e.2) with
 |some j=>
  dsimp only;obtain⟨bj,Fu,_⟩:=List.findIdx?_eq_some_iff_getElem.mp a3;have fe:n∈cx:=nw.mp ⟨_,qaa bj,Fu⟩;have e:step_dedup cx n=cx:=by
   unfold step_dedup;rw[if_pos (by simpa using fe)]
  refine wpAny_pure (wpAny_pure ?_);exact q s.heap o (Heap.SameBut.refl a s.heap) bz (by rw[e];exact⟨fG,a',ep,t,hd,oG,aN,bv,bc,bb⟩) false
 |none=>
  dsimp only;have Fv:n∉cx:=λz=>by
   obtain⟨e,bD,hi⟩:=nw.mpr z;have:=List.findIdx?_eq_none_iff.mp a3 e bD;rw[hi] at this;cases this
  have e:step_dedup cx n=cx++ [n]:=by
   unfold step_dedup;rw[if_neg (by simpa using Fv)]
  have gc:=layNew_perm t a' (hashInt n) (.int n bL);have f1:=layNew_fits t a' (hashInt n) (.int n bL);have g1:=bc.layNew a' (hashInt n) (.int n bL);generalize layNew t a' (hashInt n) (Value.int n bL)=L at gc f1 g1⊢;obtain⟨fT,mc,was,QI⟩:=L;dsimp only at gc f1 g1⊢;rw[Array.toList_push] at gc;have nt:∀e∈fT.toList,∃n bL,e=(hashInt n,Value.int n bL):=λe bD=>by
   rcases qax.mp (gc.mem_iff.mp bD) with z|z
   ·exact oG e z
   ·exact⟨n,bL,FM.mp z⟩
  have k1:(fT.toList.map keyI).Perm (cx++ [n]):=(gc.map keyI).trans (by rw[qaG];exact bb.append_right _);have fY:fT.size=cx.length+1:=by have:=k1.length_eq;simpa using this
  have jr:fT.size<scanBound:=by omega
  have u8:∀(b:Bool)(a7:Shared)(i4:Unit→Shared→Prop),i4 () a7→wpAny (model prog w) A (match b with|true=>rule "set.scan.the-table-gave-way" |false=>pure ()) i4 E a7:=λb a7 i4 aS=>by
   cases b
   ·exact wpAny_pure aS
   ·exact wpAny_rule aS
  refine wpAny_bind (u8 _ _ _ ?_);have eZ:∀h' c',Heap.SameBut a s.heap h'→h'.get? a=some c'→UG led (cx++ [n]) c'→wpAny (model prog w) A (pure true) Q E {s with heap:=h'}:=λh' c' x y z=>wpAny_pure (q h' c' x y (by rw[e];exact z) true)
  split
  ·refine wpAny_bind ?_;rw[hashByValue_scannable 8 (x:= .int n bL) rfl];refine wpAny_pure (zt (g:=_) ?_ bz fG hd nt k1 jr f1 g1 eZ);exact u8
  ·refine wpAny_bind (wpAny_pure (zt (g:=_) ?_ bz fG hd nt k1 jr f1 g1 eZ));exact u8
end
section
variable {prog:Program}{w:World}{A:Around}{led:Bool}
theorem ZiP(val:Nat→Int)(i:Nat):(firstMet val i).length≤i:=firstMet_length_le val i
theorem Zj3{R:Result→Shared→Prop}{I S:Addr}{fp qj:List Addr}{G:Array GenState→Array GenState→Prop}{n:Nat}{P:Nat→Value→Prop}{St:Nat→Shared→Prop}(W:WalksS prog w A.in1 I fp qj G n P St)(qk:S∉fp)(val:Nat→Int)(zu:∀i v,P i v→∃t,v= .int (val i) t)(aN:n+1<scanBound):
  ∀(k i:Nat)(s:Shared)(o:Obj),n-i=k→i≤n→St i s→s.heap.get? S=some o→UG led (firstMet val i) o→
   (∀s' c',Moved (S::qj) G s s'→s'.heap.get? S=some c'→UG led (firstMet val n) c'→R (.ok (.ret .none)) s')→codeAny (model prog w) A (.builtin "set.update.loop" ⟨[.ref S,.ref I],[]⟩) R s:=by
 have zv:S∉qj:=λz=>qk (W.sub _ z);have om:∀b∈qj,b∈S::qj:=λb z=>qau _ z;intro k
 induction k with
 |zero=>
  intro i s o a5 hi st e1 sS q;obtain rfl:i=n:=by omega
  refine codeAny_builtin F.entry_set_update_loop ?_;rw[Around.under_plainId F.plain_set_update_loop];refine wpAny_bind (W.done s _ _ st λa7 i5=>?_);exact wpAny_pure (q a7 o (i5.mono om) (i5.heap S o zv e1) sS)
 |succ k bP=>
  intro i s o a5 hi st e1 sS q;have du:i<n:=by omega
  refine codeAny_builtin F.entry_set_update_loop ?_;rw[Around.under_plainId F.plain_set_update_loop];refine wpAny_bind (W.item i s _ _ du st λv a7 d1 Fw i5=>?_);obtain⟨t,rfl⟩:=zu i v d1;have r8:=i5.heap S o zv e1;refine wpAny_bind (wpAny_holding ?_);unfold setAdd;refine wpAny_holding (wpAny_bind ((intKind prog w).pyHash (k:=val i) (intKind_is _ _ _ _) ?_));have a3:(firstMet val i).length+1<scanBound:=by have:=ZiP val i;omega
  refine Zlb (s:={a7 with toks:=a7.toks+1}) r8 sS a3 λa2 i6 hh h2o bK b=>?_;rw[←firstMet_succ] at bK;refine wpAny_pure ⟨plainId_quiet F.plain_set_update_loop _,bP (i+1) _ i6 (by omega) du (W.frame _ a7 _ _ Fw (qb2 _) λc a8 ho dP=>?_) h2o bK λbM ho mv3 bU g3=>?_⟩
  ·rw[hh.2 c λz=>qk (z▸a8)];exact dP
  ·refine q bM ho (Moved.trans W.gtrans ((i5.mono om).then_heap (qb2 _) λc r9 a8 g4=>?_) mv3) bU g3;rw[hh.2 c λz=>a8 (z▸qaY)];exact g4
theorem Fx{E:Value→Shared→Prop}{s:Shared}(a:Value){Q:Value→Shared→Prop}
  (h:Q (.ref s.heap.objs.size) {s with heap:=s.heap.push {cls:= .type "set",dict:=none,data:= .set #[] 0 (.fresh 0 0 (!w.params.followText "set-order"))}}):
  codeAny (model prog w) A (.call (.builtin "set.__new__") ⟨[.type "set",a],[]⟩) (wants Q E) s:=by
 refine codeAny_of_tree ?_;refine wpAny_bind (wpAny_of_eq (F.newCall_set_1 a) (wpAny_pure ⟨plainId_quiet F.plain_set_new _,codeAny_builtin F.entry_set_new ?_⟩));rw[Around.under_plainId F.plain_set_new _];unfold Builtin.«set.__new__» Builtin.Frozenset.newClass;have Fy:=sub_set_self;obtain⟨bb,g,d,bL,os⟩:=s;dsimp only
 wp_walk
 refine wpAny_askSetting (wpAny_pure ?_);dsimp only;simp only[newObj];exact wpAny_bind (wpAny_alloc (wpAny_pure (wpAny_pure h)))
end
section
variable {prog:Program}{w:World}{A:Around}
theorem Zj9{E:Value→Shared→Prop}{s:Shared}{l:Addr}{items:Array Value}{ns:List Int}{Q:Value→Shared→Prop}(bV:A.handled=none)(aJ:s.heap.IsList l items)(hi:IntsAre items.toList ns)(aN:items.size+1<scanBound)
  (q:∀(h':Heap)(bL:Nat)(o:Obj),h'.get? s.heap.objs.size=some o→UG (!w.params.followText "set-order") (firstMet (λi=>ns.getD i 0) items.size) o→
   (∀b o,b<s.heap.objs.size→s.heap.get? b=some o→h'.get? b=some o)→Q (.ref s.heap.objs.size) {s with heap:=h',toks:=bL}):
  wpAny (model prog w) A (call (.type "set") [.ref l]) Q E s:=by
 obtain⟨c,ei,QJ⟩:=F.called_set.mro;have QK:=F.called_set.made;have Fy:=F.called_set.sub;refine wpAny_call (codeAny_of_tree ?_);refine wpAny_pure ⟨Code.quiet_builtin _ (by decide+kernel),codeAny_builtin F.entry_type_call ?_⟩;rw[Around.under_plain (weight_type_call_type "set" [.ref l] []) rfl];have c1:=F.called_set.notType;have c2:=F.called_set.canCreate;have c3:=F.typeCall_set_1 (.ref l)
 repeat (any_goals (first|assumption|wp_step))
 clear c2 c3;refine codeAny_mono (Fx (.ref l) (E:=E) (Q:=λv a7=>v= .ref s.heap.objs.size∧a7={s with heap:=s.heap.push {cls:= .type "set",dict:=none,data:= .set #[] 0 (.fresh 0 0 (!w.params.followText "set-order"))}}) ⟨rfl,rfl⟩) λr a7 a3=>?_;rcases r with e|fl
 ·exact a3
 cases fl with
 |ret v=>
  obtain⟨rfl,rfl⟩:=a3;generalize eG:({cls:= .type "set",dict:=none,data:= .set #[] 0 (.fresh 0 0 (!w.params.followText "set-order"))}:Obj)=N;have Fz:N.cls= .type "set" :=by rw[←eG]
  have FA:UG (!w.params.followText "set-order") [] N:=by
   rw[←eG];exact⟨⟨rfl,rfl,rfl⟩,#[],0,_,rfl,by simp,by decide,by rfl,Z3.fresh,by simp⟩
  have e1:(s.heap.push N).get? s.heap.objs.size=some N:=Heap.get?_push_size _ (by rw[←eG];rfl);have ek:Shared.TypeIs {s with heap:=s.heap.push N} (.ref s.heap.objs.size) "set" :=⟨_,e1,Fz⟩;have QL:=F.called_set.init.lookup;have bi:=F.called_set.init.bind (.ref s.heap.objs.size)
  repeat (any_goals (first|assumption|wp_step))
  refine codeAny_mono (codeAny_call_builtin (R:=wants (λr bK=>r= .none∧∃h' bL o,bK={s with heap:=h',toks:=bL}∧h'.get? s.heap.objs.size=some o∧UG (!w.params.followText "set-order") (firstMet (λi=>ns.getD i 0) items.size) o∧(∀b o,b<s.heap.objs.size→s.heap.get? b=some o→h'.get? b=some o)) E) F.called_set.init.plain F.entry_set_init (check_set_init_1 ek ?_)) λr bK a3=>?_
  ·have mv:(s.heap.push N).IsList l items:=aJ.push _;obtain⟨ql,r_,fo,zw,lF⟩:=aJ;obtain⟨QM,FC,QN,FD⟩:=ql;simp only at fo lF;subst fo lF;have zx:(s.heap.push N).get? l=some {cls:= .type "list",dict:=FC,data:= .seq items zw,slots:=FD}:=Heap.get?_push_of_some _ r_;have x1:=F.sub_list_set;have x2:=F.sub_list_frozenset;have x3:(Value.type "list" ==Value.type "dict")=false:=by decide
   have QO:=e1;rw[←eG] at e1 ek zx⊢;unfold Builtin.«set.__init__» noKeywords Builtin.Frozenset.updateFrom;generalize FE:pyIter=PI
   wp_walk
   subst FE;rw[eG] at zx e1 ek⊢;refine wpAny_pyIter_list mv ?_;refine wpAny_bind (wpAny_runValue ?_);have zy:l<s.heap.objs.size:=Heap.lt_size r_;have fE:A.in1.in1.in1.handled=none:=by simp[bV]
   have FF:l≠(s.heap.push N).objs.size:=by
    rw[Heap.size_push];exact qai (qaM zy)
   have l1:s.heap.objs.size∉[(s.heap.push N).objs.size,l]:=by
    rw[Heap.size_push];simp only[qad,qaR,or_false,not_or];exact⟨qai (qa9 _),qcg zy⟩
   refine Zj3 ((Walks.list fE _ l FF items).toS) l1 (λi=>ns.getD i 0) (λi v cv=>IntsAre.int_at hi i v (by rw[qbd];exact cv)) aN (items.size-0) 0 _ N (by omega) (qav _) ⟨⟨_,Heap.get?_push_size _ rfl,rfl,rfl⟩,mv.push _⟩ (Heap.get?_push_of_some _ e1) FA λbM ho i5 bU g3=>?_;obtain⟨h',g',d',FG,tX⟩:=bM;obtain rfl:g'=s.gens:=i5.gens;obtain rfl:d'=s.drawn:=i5.drawn;obtain rfl:tX=s.os:=i5.os;show wpAny _ _ _ _ _ _;refine wpAny_pure ?_;show wpAny _ _ (ret Value.none) _ _ _;refine wpAny_pure ⟨rfl,h',FG,ho,rfl,bU,g3,λb o gC e=>i5.heap b o ?_ (Heap.get?_push_of_some _ (Heap.get?_push_of_some _ e))⟩;rw[Heap.size_push];simp only[qad,qaR,or_false,not_or];exact⟨qai gC,qai (qaM gC)⟩
  ·rcases r with e|fl
   ·exact a3
   cases fl with
   |ret v=>
    obtain⟨rfl,h',bL,o,rfl,aS,a2,bU⟩:=a3
    repeat (any_goals (first|assumption|wp_step))
    exact q _ _ _ aS a2 bU
   |_=>exact a3.elim
 |_=>exact a3.elim
end
section
theorem qm:Slot "set_iterator" "__next__" "set_iterator.__next__" := .of (owner:="set_iterator") (n:="__next__") (by rw[typeLookup_type,builtinLookup_eq_fast];kernel_rfl) (by decide+kernel) (by decide+kernel) (by decide+kernel) (by first|exact .inl (by decide+kernel)|exact .inr (by decide+kernel)) (by rw[isSubtype_type];kernel_rfl)
theorem zz:Slot "set_iterator" "__iter__" "set_iterator.__iter__" := .of (owner:="set_iterator") (n:="__iter__") (by rw[typeLookup_type,builtinLookup_eq_fast];kernel_rfl) (by decide+kernel) (by decide+kernel) (by decide+kernel) (by first|exact .inl (by decide+kernel)|exact .inr (by decide+kernel)) (by rw[isSubtype_type];kernel_rfl)
theorem FH:entryFor table "set_iterator.__next__" =some Builtin.«set_iterator.__next__»:=entryFor_of_tree (by kernel_rfl)
theorem FI:entryFor table "set_iterator.__iter__" =some Builtin.«dict_keyiterator.__iter__»:=entryFor_alias (id':="dict_keyiterator.__iter__") (by kernel_rfl) rfl (by decide+kernel) (by kernel_rfl)
theorem FJ:entryFor table "set.__iter__" =some Builtin.«frozenset.__iter__»:=entryFor_alias (id':="frozenset.__iter__") (by kernel_rfl) rfl (by decide+kernel) (by kernel_rfl)
theorem zA:Manifest.owners.lookup (String.ofList "set_iterator".toList.reverse.reverse)=some Manifest.sig_set_iterator:=by kernel_rfl
theorem FK(a:Value):argsOk "set_iterator.__next__" ⟨[a],[]⟩:=by
 unfold argsOk;rw[signature?_of (id:="set_iterator.__next__") (n:=['_','_','t','x','e','n','_','_']) (o:="set_iterator".toList.reverse) (by kernel_rfl) zA]
 kernel_rfl
theorem FL(a:Value):argsOk "set_iterator.__iter__" ⟨[a],[]⟩:=by
 unfold argsOk;rw[signature?_of (id:="set_iterator.__iter__") (n:=['_','_','r','e','t','i','_','_']) (o:="set_iterator".toList.reverse) (by kernel_rfl) zA]
 kernel_rfl
noncomputable def jT (first:Value) (i:Nat) (a:Addr) (n ep:Nat):Obj:={cls:= .type "set_iterator",dict:=none,data:= .fields #[first,.int i 0,.ref a,.int n 0,.int ep 0],slots:=#[]}
variable {prog:Program}{w:World}{A:Around}{E:Value→Shared→Prop}{s:Shared}
theorem FN{FO:Source}{n:Nat}{Q:Nat→Shared→Prop}(bF:n≠0)(h:∀i d,i<n→Q i {s with drawn:=d}):wpAny (model prog w) A (choose FO n) Q E s:=
 λ_ _ _=>⟨bF,h _ _ (Nat.mod_lt _ (Nat.pos_of_ne_zero bF))⟩
theorem u9{dA:Type}:∀{l:List dA}{i:Nat}(h:i<l.length),(l[i]::l.eraseIdx i).Perm l
 |x::l,0,_=>by simp
 |x::l,i+1,h=>by
  rw[List.getElem_cons_succ,List.eraseIdx_cons_succ];exact(List.Perm.swap _ _ _).trans ((u9 (by simpa using h)).cons x)
theorem zB{dA:Type}:∀(xs:List dA)(s:Shared)(Q:List dA→Shared→Prop),(∀ys d,ys.Perm xs→Q ys {s with drawn:=d})→wpAny (model prog w) A (drawOrder xs.length xs) Q E s
 | [],s,Q,h=>wpAny_pure (h [] s.drawn .rfl)
 |x::xs,s,Q,h=>by
  show wpAny _ _ (choose .order (x::xs).length >>= _) _ _ _;refine wpAny_bind (FN (by simp) λi d hi=>?_);rw[GT hi];have bb:=u9 (l:=x::xs) hi;generalize (x::xs)[i]=y at bb⊢;have eV:xs.length=((x::xs).eraseIdx i).length:=by rw[List.length_eraseIdx_of_lt hi];rfl
  show wpAny _ _ (drawOrder xs.length ((x::xs).eraseIdx i) >>= _) _ _ _;generalize (x::xs).eraseIdx i=zs at bb eV⊢;rw[eV];refine wpAny_bind (zB zs _ _ λys ic bE=>?_);exact wpAny_pure (h (y::ys) ic ((bE.cons y).trans bb))
 termination_by xs=>xs.length
 decreasing_by simp_wf;omega
theorem zC{dA:Type}(next:Nat→Nat):∀(f k:Nat)(l:List dA)(out:Array dA),f=l.length→(pickOrder.go next f k l out).toList.Perm (out.toList++l)
 |0,k,l,out,e=>by
  obtain rfl:l=[]:=List.eq_nil_of_length_eq_zero e.symm;simp[pickOrder.go]
 |f+1,k,l,out,e=>by
  have hi:next k % l.length<l.length:=Nat.mod_lt _ (by omega);unfold pickOrder.go;rw[GT hi];refine(zC next f (k+1) _ _ (by rw[List.length_eraseIdx_of_lt hi];omega)).trans ?_;rw[Array.toList_push,List.append_assoc];exact(u9 hi).append_left _
theorem u_{dA:Type}(next:Nat→Nat)(xs:Array dA):(pickOrder next xs).toList.Perm xs.toList:=by
 have:=zC next xs.size 0 xs.toList #[] (by simp);simpa[pickOrder] using this
theorem zD{h_:Around}{it:Addr}{Q:Option Value→Shared→Prop}(bV:A.handled=none){aS:Heap}(aN:Heap.SameBut it s.heap aS)(q:∀h',Heap.ExtBut it s.heap h'→Q none {s with heap:=h'}):
  wpAny (model prog w) A (newExc (.type "StopIteration") [] >>= λe=>(raiseNew e:Sem Fin)) (λ_ _=>False) (λe s'=>wpAny (model prog w) h_ (isInstance e (.type "StopIteration") >>= λb=>if b=true then pure none else throw e) Q E s') {s with heap:=aS}:=by
 refine wpAny_bind ?_;simp only[newExc,newTuple];refine wpAny_bind (wpAny_newObj_type ?_ (by size_fits));refine wpAny_bind (m:=firstArgMember _ _) (wpAny_of_eq (a:=Value.none) (by first|rfl|(simp only[firstArgMember];rfl)) ?_);refine wpAny_newObj_type ?_ (by size_fits);simp only[raiseNew];refine wpAny_bind (wpAny_handled ?_);rw[bV];refine wpAny_bind (wpAny_pure (wpAny_throw ?_));exact wpAny_bind (wpAny_isInstance (T:="StopIteration") (b:=true) ⟨_,Heap.get?_push_size _ rfl,rfl⟩ isSubtype_stop (wpAny_pure (q _ ((aN.extBut.push _).push _))))
variable {it a:Addr}{o:Obj}{a':Array (Int×Value)}{ep i:Nat}{t:SetTable}{Q:Option Value→Shared→Prop}
theorem Ze6{first:Value}(eW:s.heap.get? it=some (jT first i a a'.size ep))(h:wpAny (model prog w) A.in1 (Builtin.«set_iterator.__next__» ⟨[.ref it],[]⟩) (λeZ s'=>∃x,eZ= .done (.ret x)∧Q (some x) s') (λe s'=>wpAny (model prog w) A (isInstance e (.type "StopIteration") >>= λb=>if b=true then pure none else throw e) Q E s') s):wpAny (model prog w) A (pyNext (.ref it)) Q E s:=by
 have ek:s.TypeIs (.ref it) "set_iterator" :=⟨_,eW,rfl⟩;unfold pyNext;refine wpAny_bind (wpAny_attempt (wpAny_callSpecial?_slot (name:=Str.ofString "__next__") ek qm (wpAny_call_entry qm ek FH ?_ (FK _))));refine wpAny_mono h (λeZ s' z=>?_) λe s' z=>?_
 ·obtain⟨x,rfl,q⟩:=z;exact⟨x,rfl,wpAny_pure q⟩
 ·exact z
theorem Zhe{sl nx:Nat}{v:Value}(eW:s.heap.get? it=some (jT (.int sl 0) i a a'.size ep))(bz:s.heap.get? a=some o)(hd:o.data= .set a' ep t)(bv:t.fits a'.size=true)
  (aT:∀{A:Around}{E:Value→Shared→Prop}(Q:Option (Value×Nat)→Shared→Prop),Q (some (v,nx)) s→wpAny (model prog w) A (setNext a sl i ep) Q E s)
  (q:∀h',h'.get? it=some (jT (.int nx 0) (i+1) a a'.size ep)→Heap.SameBut it s.heap h'→Q (some v) {s with heap:=h'}):wpAny (model prog w) A (pyNext (.ref it)) Q E s:=by
 refine Ze6 eW ?_;unfold Builtin.«set_iterator.__next__»;refine wpAny_bind (m:=slotArgs _ _ _) (wpAny_pure (wpAny_bind (wpAny_fieldsOf eW rfl ?_)));show wpAny _ _ (setEntries a >>= _) _ _ _;refine wpAny_bind (wpAny_setEntries_of bz hd bv ?_);rw[if_neg (by simp)];show wpAny _ _ (setNext a _ _ _ >>= _) _ _ _;simp only[qab];refine wpAny_bind (aT _ ?_);refine wpAny_bind (wpAny_setField_rec eW (by simp) λaS bw fC=>?_);refine wpAny_bind (wpAny_setField_rec (s:={s with heap:=aS}) bw (by simp) λa2 bC fV=>?_);exact wpAny_pure ⟨v,rfl,q a2 bC (fC.trans fV)⟩
theorem ZiJ{sl:Nat}(bV:A.handled=none)(eW:s.heap.get? it=some (jT (.int sl 0) i a a'.size ep))(bz:s.heap.get? a=some o)(hd:o.data= .set a' ep t)(bv:t.fits a'.size=true)
  (aT:∀{A:Around}{E:Value→Shared→Prop}(Q:Option (Value×Nat)→Shared→Prop),Q none s→wpAny (model prog w) A (setNext a sl i ep) Q E s)
  (q:∀h',Heap.ExtBut it s.heap h'→Q none {s with heap:=h'}):wpAny (model prog w) A (pyNext (.ref it)) Q E s:=by
 refine Ze6 eW ?_;unfold Builtin.«set_iterator.__next__»;refine wpAny_bind (m:=slotArgs _ _ _) (wpAny_pure (wpAny_bind (wpAny_fieldsOf eW rfl ?_)));show wpAny _ _ (setEntries a >>= _) _ _ _;refine wpAny_bind (wpAny_setEntries_of bz hd bv ?_);rw[if_neg (by simp)];show wpAny _ _ (setNext a _ _ _ >>= _) _ _ _;simp only[qab];refine wpAny_bind (aT _ ?_);refine wpAny_bind (wpAny_setField_rec eW (by simp) λaS bw fC=>?_);exact wpAny_mono (zD (A:=A.in1) bV fC q) (λ_ _ z=>False.elim z) λ_ _ z=>z
theorem Zmf{T:Addr}{items:Array Value}{pl:Nat}{k:Int}{v:Value}(eW:s.heap.get? it=some (jT (.ref T) i a a'.size ep))(ek:s.heap.IsTuple T items)(hi:items[i]? =some (.int pl 0))(cv:a'[pl]? =some (k,v))(bz:s.heap.get? a=some o)(hd:o.data= .set a' ep t)(bv:t.fits a'.size=true)
  (q:∀h',h'.get? it=some (jT (.ref T) (i+1) a a'.size ep)→Heap.SameBut it s.heap h'→Q (some v) {s with heap:=h'}):wpAny (model prog w) A (pyNext (.ref it)) Q E s:=by
 obtain⟨oH,u',FP,FQ,va⟩:=ek;refine Ze6 eW ?_;unfold Builtin.«set_iterator.__next__»;refine wpAny_bind (m:=slotArgs _ _ _) (wpAny_pure (wpAny_bind (wpAny_fieldsOf eW rfl ?_)));show wpAny _ _ (setEntries a >>= _) _ _ _;refine wpAny_bind (wpAny_setEntries_of bz hd bv ?_);rw[if_neg (by simp)];show wpAny _ _ (seqItems? (.ref T) >>= _) _ _ _;refine wpAny_bind (wpAny_seqItems u' va ?_);simp only[qab,hi];unfold setNextDrawn;refine wpAny_bind (wpAny_bind (wpAny_setState_of bz hd bv ?_));dsimp only;rw[if_neg (by simp),cv];refine wpAny_pure ?_;refine wpAny_bind (wpAny_setField_rec eW (by simp) λa2 bC fV=>?_);exact wpAny_pure ⟨v,rfl,q a2 bC fV⟩
theorem Zmt{T:Addr}{items:Array Value}(bV:A.handled=none)(eW:s.heap.get? it=some (jT (.ref T) i a a'.size ep))(ek:s.heap.IsTuple T items)(hi:items[i]? =none)(bz:s.heap.get? a=some o)(hd:o.data= .set a' ep t)(bv:t.fits a'.size=true)
  (q:∀h',Heap.ExtBut it s.heap h'→Q none {s with heap:=h'}):wpAny (model prog w) A (pyNext (.ref it)) Q E s:=by
 obtain⟨oH,u',FP,FQ,va⟩:=ek;refine Ze6 eW ?_;unfold Builtin.«set_iterator.__next__»;refine wpAny_bind (m:=slotArgs _ _ _) (wpAny_pure (wpAny_bind (wpAny_fieldsOf eW rfl ?_)));show wpAny _ _ (setEntries a >>= _) _ _ _;refine wpAny_bind (wpAny_setEntries_of bz hd bv ?_);rw[if_neg (by simp)];show wpAny _ _ (seqItems? (.ref T) >>= _) _ _ _;refine wpAny_bind (wpAny_seqItems u' va ?_);simp only[qab,hi];refine wpAny_bind (wpAny_setField_rec eW (by simp) λde ej b0=>?_);refine wpAny_bind (wpAny_setField_rec (s:={s with heap:=de}) ej (by simp) λaS bw fC=>?_);exact wpAny_mono (zD (A:=A.in1) (s:=s) bV (b0.trans fC) q) (λ_ _ z=>False.elim z) λ_ _ z=>z
theorem Zeg{sl:Nat}(hw:w.params.followText "set-order" =true)(bz:s.heap.get? a=some o)(hd:o.data= .set a' ep t)(bv:t.fits a'.size=true)(Q:Option (Value×Nat)→Shared→Prop)(q:Q (((pickOrder (w.params.setOrder a ep) a')[i]?).map λe=>(e.2,sl)) s):wpAny (model prog w) A (setNext a sl i ep) Q E s:=by
 unfold setNext setsByText;refine wpAny_bind (wpAny_setState_of bz hd bv ?_);dsimp only;refine wpAny_bind (wpAny_bind (wpAny_askSetting (wpAny_pure ?_)));show wpAny _ _ (if w.params.followText "set-order" =true then _ else _) _ _ _;rw[if_pos hw,if_neg (by simp)];unfold setWalk setsByText;refine wpAny_bind (wpAny_bind (wpAny_setState_of bz hd bv ?_));dsimp only;refine wpAny_bind (wpAny_bind (wpAny_askSetting (wpAny_pure ?_)));show wpAny _ _ (if w.params.followText "set-order" =true then _ else _) _ _ _;rw[if_pos hw];exact wpAny_bind (wpAny_askSetting (wpAny_pure (wpAny_pure q)))
theorem Zdu{sl:Nat}(hw:w.params.followText "set-order" =false)(bz:s.heap.get? a=some o)(hd:o.data= .set a' ep t)(bv:t.fits a'.size=true)(bb:(!t.plain&&decide (a'.size > 1))=false)(aJ:t.led=true)(Q:Option (Value×Nat)→Shared→Prop)
  (q:Q (match a'[SetTable.below t.place sl]?,t.place[SetTable.below t.place sl]? with|some (_,x),some j=>some (x,j+1)|_,_=>none) s):wpAny (model prog w) A (setNext a sl i ep) Q E s:=by
 unfold setNext setsByText;refine wpAny_bind (wpAny_setState_of bz hd bv ?_);dsimp only;refine wpAny_bind (wpAny_bind (wpAny_askSetting (wpAny_pure ?_)));show wpAny _ _ (if w.params.followText "set-order" =true then _ else _) _ _ _;rw[if_neg (by rw[hw];simp)];show wpAny _ _ (if(!t.plain&&decide (a'.size > 1))=true then _ else _) _ _ _;rw[if_neg (by rw[bb];simp)];refine wpAny_bind ?_;show wpAny _ _ (if(!t.led&& !a'.isEmpty)=true then _ else _) _ _ _;rw[if_neg (by rw[aJ];simp)];exact wpAny_pure (wpAny_pure q)
end
section
variable {prog:Program}{w:World}{A:Around}{E:Value→Shared→Prop}{s:Shared}{it a:Addr}{o:Obj}{a':Array (Int×Value)}{ep i:Nat}{t:SetTable}
theorem Zd1{first:Value}{n:Nat}{Q:Value→Shared→Prop}(eW:s.heap.get? it=some (jT first i a n ep))(q:Q (.ref it) s):wpAny (model prog w) A (pyIter (.ref it)) Q E s:=by
 have ek:s.TypeIs (.ref it) "set_iterator" :=⟨_,eW,rfl⟩;refine wpAny_pyIter_slot ek zz (wpAny_call_entry zz ek FI ?_ (FL _));show wpAny _ _ (ret (.ref it)) _ _ s;exact wpAny_pure ⟨_,rfl,"set_iterator",_,ek,qm.lookup,q⟩
theorem Ziw(bV:A.handled=none)(I:Addr)(eO:a≠I)(hw:w.params.followText "set-order" =true)(hd:o.data= .set a' ep t)(bv:t.fits a'.size=true):
  PySem.Walks prog w A I [I,a] [I] a'.size (λi v=>((pickOrder (w.params.setOrder a ep) a').toList.map (·.2))[i]? =some v) (λi h=>h.get? I=some (jT (.int (0:Nat) 0) i a a'.size ep)∧h.get? a=some o) where
 sub:=λb aN=>by simp at aN;simp[aN]
 frame:=λ_ _ _ st a5=>⟨a5 I (by simp) _ st.1,a5 a (by simp) _ st.2⟩
 item:=λi s Q E hi st q=>by
  have hz:(pickOrder (w.params.setOrder a ep) a').size=a'.size:=by have:=(u_ (w.params.setOrder a ep) a').length_eq;simpa using this
  have el:i<(pickOrder (w.params.setOrder a ep) a').size:=by rw[hz];exact hi
  refine Zhe (nx:=0) (v:=((pickOrder (w.params.setOrder a ep) a')[i]).2) st.1 st.2 hd bv (λi4 c8=>Zeg hw st.2 hd bv i4 (by rw[qaL el];exact c8)) λh' e b=>?_;exact q _ h' s.toks (by rw[qaj,qbd,qaL el];rfl) ⟨e,b.extBut a _ eO st.2⟩ λln c' aN b1=>b.extBut ln c' (λz=>aN (by simp[z])) b1
 done:=λs Q E st q=>by
  have hz:(pickOrder (w.params.setOrder a ep) a').size=a'.size:=by have:=(u_ (w.params.setOrder a ep) a').length_eq;simpa using this
  refine ZiJ bV st.1 st.2 hd bv (λi4 c8=>Zeg hw st.2 hd bv i4 (by rw[Array.getElem?_eq_none (by omega)];exact c8)) λh' e=>q h' s.toks λb c' aN b1=>e b c' (λz=>aN (by simp[z])) b1
 self:=λ_ _ _ _ st q=>Zd1 st.1 q
noncomputable def oI (t:SetTable) (i:Nat):Nat:=if i=0 then 0 else t.place.getD (i-1) 0+1
theorem Za6{led:Bool}(g:Z3 led t){n:Nat}(hz:t.place.size=n)(hi:i≤n):SetTable.below t.place (oI t i)=i:=by
 unfold oI
 split
 ·rename_i e;rw[e];exact Zia g.rise
 ·have aS:i-1<t.place.size:=by omega
  have e:t.place.getD (i-1) 0=t.place[i-1]:=by simp[Array.getD,aS]
  rw[e,Fn g.rise aS];omega
theorem ZgF{led:Bool}(bV:A.handled=none)(I:Addr)(eO:a≠I)(hw:w.params.followText "set-order" =false)(hd:o.data= .set a' ep t)(bv:t.fits a'.size=true)(bb:(!t.plain&&decide (a'.size > 1))=false)(aJ:t.led=true)(g:Z3 led t):
  PySem.Walks prog w A I [I,a] [I] a'.size (λi v=>(a'.toList.map (·.2))[i]? =some v) (λi h=>h.get? I=some (jT (.int (oI t i:Nat) 0) i a a'.size ep)∧h.get? a=some o) where
 sub:=λb aN=>by simp at aN;simp[aN]
 frame:=λ_ _ _ st a5=>⟨a5 I (by simp) _ st.1,a5 a (by simp) _ st.2⟩
 item:=λi s Q E hi st q=>by
  have hz:t.place.size=a'.size:=by simp only[SetTable.fits,qaQ,beq_iff_eq] at bv;exact bv.1
  have mw:i<t.place.size:=by omega
  have aN:=Za6 (i:=i) g hz (by omega);refine Zhe (nx:=oI t (i+1)) (v:=(a'[i]).2) st.1 st.2 hd bv (λi4 c8=>Zdu hw st.2 hd bv bb aJ i4 ?_) λh' e b=>?_
  ·rw[aN,qaL hi,qaL mw];have e:oI t (i+1)=t.place[i]+1:=by
    unfold oI;rw[if_neg (by omega)];simp[Array.getD,mw]
   rw[e] at c8;exact c8
  ·exact q _ h' s.toks (by rw[qaj,qbd,qaL hi];rfl) ⟨e,b.extBut a _ eO st.2⟩ λln c' aN b1=>b.extBut ln c' (λz=>aN (by simp[z])) b1
 done:=λs Q E st q=>by
  have hz:t.place.size=a'.size:=by simp only[SetTable.fits,qaQ,beq_iff_eq] at bv;exact bv.1
  have aN:=Za6 (i:=a'.size) g hz (fm _);refine ZiJ bV st.1 st.2 hd bv (λi4 c8=>Zdu hw st.2 hd bv bb aJ i4 ?_) λh' e=>q h' s.toks λb c' aN b1=>e b c' (λz=>aN (by simp[z])) b1;rw[aN,Array.getElem?_eq_none (fm _)];exact c8
 self:=λ_ _ _ _ st q=>Zd1 st.1 q
theorem ZgI(bV:A.handled=none)(I T:Addr)(eO:a≠I)(FR:T≠I)(hd:o.data= .set a' ep t)(bv:t.fits a'.size=true)(ord:List Nat)(bb:ord.Perm (List.range a'.size)):
  PySem.Walks prog w A I [I,a,T] [I] a'.size (λi v=>(ord.map λj=>(a'.getD j (0,.none)).2)[i]? =some v) (λi h=>h.get? I=some (jT (.ref T) i a a'.size ep)∧h.get? a=some o∧h.IsTuple T (ord.map λ(j:Nat)=>Value.int j 0).toArray) where
 sub:=λb aN=>by simp at aN;simp[aN]
 frame:=λ_ _ _ st a5=>⟨a5 I (by simp) _ st.1,a5 a (by simp) _ st.2.1,let⟨x,e,r⟩:=st.2.2;⟨x,a5 T (by simp) _ e,r⟩⟩
 item:=λi s Q E hi st q=>by
  have aJ:ord.length=a'.size:=by have:=bb.length_eq;simpa using this
  have mw:i<ord.length:=by omega
  have bj:ord[i]<a'.size:=by have:=bb.mem_iff.mp (qaa mw);simpa using this
  have dZ:(a'.getD ord[i] (0,Value.none))=a'[ord[i]]:=by simp[Array.getD,bj]
  refine Zmf (pl:=ord[i]) (k:=(a'[ord[i]]).1) (v:=(a'[ord[i]]).2) st.1 st.2.2 (by simp[mw]) (by rw[qaL bj]) st.2.1 hd bv λh' e b=>?_;exact q _ h' s.toks (by rw[qaj,GT mw];exact congrArg (λx=>some x.2) dZ) ⟨e,b.extBut a _ eO st.2.1,let⟨x,e,r⟩:=st.2.2;⟨x,b.extBut T _ FR e,r⟩⟩ λln c' aN b1=>b.extBut ln c' (λz=>aN (by simp[z])) b1
 done:=λs Q E st q=>by
  have aJ:ord.length=a'.size:=by have:=bb.length_eq;simpa using this
  exact Zmt bV st.1 st.2.2 (by simp[aJ]) st.2.1 hd bv λh' e=>q h' s.toks λb c' aN b1=>e b c' (λz=>aN (by simp[z])) b1
 self:=λ_ _ _ _ st q=>Zd1 st.1 q
end
section
variable {prog:Program}{w:World}{A:Around}{E:Value→Shared→Prop}{s:Shared}{a:Addr}{o:Obj}
theorem FS{cx:List Int}{Q:Value→Shared→Prop}(bz:s.heap.get? a=some o)(e1:UG (!w.params.followText "set-order") cx o)
  (q:∀(I:Addr)(L:List Value)(s':Shared)(fp:List Addr)(St:Nat→Heap→Prop)(n:Nat),n=L.length→(∃ns:List Int,IntsAre L ns∧ns.Perm cx)→(∀b o,s.heap.get? b=some o→s'.heap.get? b=some o)→s'.gens=s.gens→s'.os=s.os→s'.toks=s.toks→
   (∀h_:Around,h_.handled=none→PySem.Walks prog w h_ I fp [I] n (λi v=>L[i]? =some v) St)→St 0 s'.heap→s.heap.objs.size≤I→(∀b∈fp,b=a∨s.heap.objs.size≤b)→Q (.ref I) s'):wpAny (model prog w) A (pyIter (.ref a)) Q E s:=by
 obtain⟨fG,a',ep,t,hd,oG,aN,bv,bc,bb⟩:=e1;have ek:s.TypeIs (.ref a) "set" :=⟨_,bz,fG.1⟩;have du:a<s.heap.objs.size:=Heap.lt_size bz;have vb:∀l:List (Int×Value),l.Perm a'.toList→∃ns:List Int,IntsAre (l.map (·.2)) ns∧ns.Perm cx:=λl pl=>by
  refine⟨l.map keyI,?_,(pl.map keyI).trans bb⟩;have aJ:∀e∈l,∃n bL,e=(hashInt n,Value.int n bL):=λe bD=>oG e (pl.mem_iff.mp bD);clear pl
  induction l with
  |nil=>exact .nil
  |cons x l bP=>
   obtain⟨n,bL,rfl⟩:=aJ x (by simp);exact .cons n bL (bP λe bD=>aJ e (by simp[bD]))
 refine wpAny_pyIter_slot ek F.slot_set_iter (wpAny_call_entry F.slot_set_iter ek FJ ?_ (F.args_set_iter_1 _));unfold Builtin.«frozenset.__iter__» Builtin.Frozenset.sizeOf;refine wpAny_bind (m:=Builtin.Frozenset.slot0 _ _) (wpAny_pure ?_);refine wpAny_bind (wpAny_bind (wpAny_setEntries_of bz hd bv (wpAny_pure ?_)));unfold setDrawn setsByText;refine wpAny_bind (wpAny_bind (wpAny_setState_of bz hd bv ?_));dsimp only;refine wpAny_bind (wpAny_bind (wpAny_askSetting (wpAny_pure (wpAny_pure ?_))));show wpAny _ _ (if(!w.params.followText "set-order" &&(!t.plain&&decide (a'.size > 1)))=true then _ else _) _ _ _
 by_cases a8:(!w.params.followText "set-order" &&(!t.plain&&decide (a'.size > 1)))=true
 ·rw[if_pos a8];refine wpAny_bind ?_;have a3:(List.range a'.size).length=a'.size:=qbL;have uZ:=zB (prog:=prog) (w:=w) (A:=A.in1) (E:=E) (List.range a'.size) s;rw[a3] at uZ;refine uZ _ λord d e3=>?_;refine wpAny_bind ?_;simp only[newTuple];have ql:ord.length=a'.size:=by have:=e3.length_eq;simpa using this
  refine wpAny_newObj_type ?_ ?_
  ·refine wpAny_bind (wpAny_setEpoch_of (Heap.get?_push_of_some _ bz) hd bv ?_);refine wpAny_bind (wpAny_newObj_type (wpAny_pure ⟨_,rfl,"set_iterator",_,⟨_,Heap.get?_push_size _ rfl,rfl⟩,qm.lookup,?_⟩));generalize vd:({cls:= .type "tuple",data:= .seq (List.map (λ(i:Nat)=>rawInt i) ord).toArray 0}:Obj)=oH;have r':(List.map (λj=>a'.getD j (0,Value.none)) ord).Perm a'.toList:=by
    refine(e3.map _).trans ?_;have:(List.range a'.size).map (λj=>a'.getD j (0,Value.none))=a'.toList:=by
     refine qay (by simp) λi aS a2=>?_;have bU:i<a'.size:=by simpa using a2
     simp[Array.getD,bU]
    rw[this]
   have FT:∀h_:Around,h_.handled=none→_:=λh_ bV=>ZgI (prog:=prog) (w:=w) (A:=h_) (a:=a) (o:=o) (ep:=ep) bV (s.heap.objs.size+1) s.heap.objs.size (qai (qaM du)) (qai (qa9 _)) hd bv ord e3;have qn:a'.size=(ord.map λj=>(a'.getD j (0,.none)).2).length:=by simp[ql]
   rw[show(s.heap.push oH).objs.size=s.heap.objs.size+1 from Heap.size_push ..];refine q _ (ord.map λj=>(a'.getD j (0,.none)).2) _ [s.heap.objs.size+1,a,s.heap.objs.size] _ _ qn (by have:=vb _ r';rw[qbh] at this;exact this) (λb o e=>Heap.get?_push_of_some _ (Heap.get?_push_of_some _ e)) rfl rfl rfl (λh_ bV=>FT h_ bV) ⟨?_,Heap.get?_push_of_some _ (Heap.get?_push_of_some _ bz),?_⟩ (qb2 _) (λb aN=>?_)
   ·have:=Heap.get?_push_size (o:=jT (.ref s.heap.objs.size) 0 a a'.size ep) (s.heap.push oH) rfl;rw[show(s.heap.push oH).objs.size=s.heap.objs.size+1 from Heap.size_push ..] at this;exact this
   ·exact⟨oH,Heap.get?_push_of_some _ (Heap.get?_push_size _ (by rw[←vd];rfl)),by rw[←vd],0,by rw[←vd];rfl⟩
   ·simp only[qad,qaR,or_false] at aN;rcases aN with rfl|rfl|rfl
    ·exact .inr (qb2 _)
    ·exact .inl rfl
    ·exact .inr (fm _)
  ·show(List.map _ ord).toArray.size≤sizeLine;rw[qae,GE,ql];exact fits_of_scanBound aN
 ·rw[if_neg a8];refine wpAny_bind (wpAny_pure ?_);refine wpAny_bind (wpAny_setEpoch_of bz hd bv ?_);refine wpAny_bind (wpAny_newObj_type (wpAny_pure ⟨_,rfl,"set_iterator",_,⟨_,Heap.get?_push_size _ rfl,rfl⟩,qm.lookup,?_⟩));have hl:∀b∈[s.heap.objs.size,a],b=a∨s.heap.objs.size≤b:=λb aN=>by
   simp only[qad,qaR,or_false] at aN;rcases aN with rfl|rfl
   ·exact .inr (fm _)
   ·exact .inl rfl
  cases hw:w.params.followText "set-order" with
  |true=>
   have r':=u_ (w.params.setOrder a ep) a';have qn:a'.size=((pickOrder (w.params.setOrder a ep) a').toList.map (·.2)).length:=by have:=r'.length_eq;simpa using this.symm
   exact q _ _ _ _ _ _ qn (vb _ r') (λb o e=>Heap.get?_push_of_some _ e) rfl rfl rfl (λh_ bV=>Ziw bV _ (qai du) hw hd bv) ⟨Heap.get?_push_size _ rfl,Heap.get?_push_of_some _ bz⟩ (fm _) hl
  |false=>
   rw[hw] at a8 bc;have qn:a'.size=(a'.toList.map (·.2)).length:=by simp
   exact q _ _ _ _ _ _ qn (vb _ .rfl) (λb o e=>Heap.get?_push_of_some _ e) rfl rfl rfl (λh_ bV=>ZgF bV _ (qai du) hw hd bv (by simpa using a8) bc.led bc) ⟨Heap.get?_push_size _ rfl,Heap.get?_push_of_some _ bz⟩ (fm _) hl
end
section
variable {prog:Program}{w:World}{A:Around}{E:Value→Shared→Prop}{s:Shared}{a:Addr}{o:Obj}
theorem FU{Q:Bool→Shared→Prop}(ek:s.TypeIs (.ref a) "set")(q:Q false s):wpAny (model prog w) A (Builtin.List.listLengthHint (.ref a)) Q E s:=by
 unfold Builtin.List.listLengthHint;refine wpAny_bind (wpAny_specialOf ek F.slot_set_len.lookup ?_);generalize hid:("set.__len__" :String)=id0
 wp_delta
 rw[show splitId id0=some ("set","__len__") from by subst hid;decide+kernel];subst hid;refine wpAny_bind (wpAny_isInstance (T:="set") (b:=true) ek sub_set_self ?_);refine wpAny_ite_split (λz=>absurd z (by decide)) (λ_=>wpAny_ite_split (λ_=>?_) (λz=>absurd (by decide+kernel) z));exact wpAny_bind (wpAny_typeOf ek (wpAny_pure q))
theorem FV{cx:List Int}{R:List Value→Shared→Prop}(bV:A.handled=none)(bz:s.heap.get? a=some o)(e1:UG (!w.params.followText "set-order") cx o)(a5:cx.length≤sizeLine)
  (q:∀(s':Shared)(L:List Value)(ns:List Int),IntsAre L ns→ns.Perm cx→(∀b o,s.heap.get? b=some o→s'.heap.get? b=some o)→s'.gens=s.gens→s'.os=s.os→R L s'):wpAny (model prog w) A (collect (.ref a)) R E s:=by
 have du:a<s.heap.objs.size:=Heap.lt_size bz;generalize eG:({cls:= .type "list",data:= .seq ([]:List Value).toArray}:Obj)=N;have nu:(s.heap.push N).get? a=some o:=Heap.get?_push_of_some _ bz;have r8:(s.heap.push N).get? s.heap.objs.size=some N:=Heap.get?_push_size _ (by rw[←eG];rfl);have FW:Shared.TypeIs {s with heap:=s.heap.push N} (.ref a) "set" :=⟨_,nu,e1.1.1⟩;unfold collect;refine wpAny_bind (wpAny_runValue (codeAny_builtin PySem.F.entry_proto_collect ?_));rw[Around.under_plainId PySem.F.plain_proto_collect _];refine wpAny_bind (m:=newList []) (wpAny_newObj_type ?_);refine wpAny_pure ⟨plainId_quiet PySem.F.plain_list_iadd _,codeAny_builtin PySem.F.entry_list_iadd ?_⟩;rw[Around.under_plainId PySem.F.plain_list_iadd _,eG];show wpAny _ A.in1 (Builtin.List.listExtendWith (.ref s.heap.objs.size) (.ref a) (.ref s.heap.objs.size)) _ _ _;unfold Builtin.List.listExtendWith;refine wpAny_bind (wpAny_typeOf FW ?_);have i2:Builtin.List.listSameRef (.ref s.heap.objs.size) (.ref a)=false:=by simp[Builtin.List.listSameRef];exact qcg du
 have jl:(Value.type "set" ==Value.type "list")=false:=by decide
 have px:(Value.type "set" ==Value.type "tuple")=false:=by decide
 simp only[i2,jl,px,Bool.or_false,qcb,if_false];refine wpAny_bind (FS nu e1 λI L bK fp St n kb pT kp fy FX eX W st oJ hl=>?_);obtain⟨ns,hi,bb⟩:=pT;have qo:=kp _ _ r8;refine wpAny_bind (wpAny_holding (FU (a:=a) ⟨_,kp _ _ nu,e1.1.1⟩ ?_));have qk:s.heap.objs.size∉fp:=λz=>by
  rcases hl _ z with e|e
  ·exact qcg du e
  ·rw[Heap.size_push] at e;exact absurd e (Nat.not_succ_le_self _)
 have QP:s.heap.objs.size≠I:=λz=>by rw[←z,Heap.size_push] at oJ;exact absurd oJ (Nat.not_succ_le_self _)
 have FY:=(W A.in1 bV).toS;have ny:n≤sizeLine:=by
  have aS:L.length=ns.length:=IntsAre.length hi;rw[kb,aS,bb.length_eq];exact a5
 have fr:∀(bU:Heap)(c:Nat),St 0 bU→(∀b o,s.heap.get? b=some o→bU.get? b=some o)→bU.get? s.heap.objs.size=some {cls:= .type "list",data:= .seq #[] c}→codeAny (model prog w) A (.builtin "list.extend.loop" ⟨[.ref s.heap.objs.size,.ref I,.ref s.heap.objs.size],[]⟩) (λr s'=>match r with| .ok (.ret v)=>v= .ref s.heap.objs.size∧∃dL eg,s'.heap.get? s.heap.objs.size=some {cls:= .type "list",data:= .seq dL eg}∧dL.toList=L∧(∀b o,s.heap.get? b=some o→s'.heap.get? b=some o)∧s'.gens=s.gens∧s'.os=s.os|_=>False) {bK with heap:=bU}:=by
  intro bU c kB FZ dP;refine codeAny_extend_loopS FY ny _ qk _ n 0 _ #[] c rfl (qav _) kB dP (ItemsOf.nil _) λc_ dL c4 i5 g4 its=>⟨rfl,dL,c4,g4,?_,λb c' e=>i5.heap b c' (λz=>?_) (FZ b c' e),i5.gens.trans fy,i5.os.trans FX⟩
  ·refine List.ext_getElem? λj=>?_
   by_cases bj:j<n
   ·have gD:j<dL.size:=by rw[its.1];exact bj
    rw[qbd,its.2 j _ (qaL gD),qaL gD]
   ·rw[qaP (by rw[qaE,its.1];omega),qaP (by rw[←kb];omega)]
  ·have aN:=Heap.lt_size e;rcases qad.mp z with z|z
   ·exact qbe _ (z▸aN)
   ·rw[FM.mp z] at aN;exact absurd (qat (Nat.le_of_succ_le (by rw[Heap.size_push] at oJ;exact oJ)) (fm I)) (Nat.not_le_of_gt aN)
 refine wpAny_ite_split (λ_=>?_) (λ_=>wpAny_pure ⟨plainId_quiet PySem.F.plain_extend_loop _,codeAny_mono (fr _ 0 st (λb o e=>kp b o (Heap.get?_push_of_some _ e)) (by rw[qo,←eG])) λr s' z=>?eZ⟩)
 case eZ=>
  rcases r with e|f
  ·exact z.elim
  cases f with
  |ret v=>
   obtain⟨rfl,dL,eg,g4,hM,lG,iB,r9⟩:=z;refine wpAny_bind (wpAny_load g4 (wpAny_pure ?_));rw[hM];exact q s' L ns hi bb lG iB r9
  |_=>exact z.elim
 refine wpAny_bind (wpAny_rule (wpAny_bind ?_));show wpAny _ _ (updateSeq s.heap.objs.size (·.push .none) >>= λ_=>updateSeq s.heap.objs.size (·.pop)) _ _ _;rw[←eG] at qo;refine wpAny_bind (wpAny_updateSeq qo rfl ?_);have kH:=Heap.get?_update_self (Obj.mapSeq (·.push Value.none)) qo rfl;refine wpAny_updateSeq (hz:=by seq_fits) kH rfl ?_;have F0:=Heap.get?_update_self (Obj.mapSeq (·.pop)) kH rfl;have zE:∀b o,b≠s.heap.objs.size→bK.heap.get? b=some o→((bK.heap.update s.heap.objs.size (Obj.mapSeq (·.push Value.none))).update s.heap.objs.size (Obj.mapSeq (·.pop))).get? b=some o:=λb o aN e=>
  (Heap.get?_update_other _ _ (qbP aN)).trans ((Heap.get?_update_other _ _ (qbP aN)).trans e)
 refine wpAny_pure ⟨plainId_quiet PySem.F.plain_extend_loop _,codeAny_mono (fr _ _ ((W A bV).frame 0 _ _ st λb aN o e=>zE b o (λz=>qk (z▸aN)) e) (λb o e=>zE b o (qai (Heap.lt_size e)) (kp b o (Heap.get?_push_of_some _ e))) F0) λr s' z=>?_⟩;rcases r with e|f
 ·exact z.elim
 cases f with
 |ret v=>
  obtain⟨rfl,dL,eg,g4,hM,lG,iB,r9⟩:=z;refine wpAny_bind (wpAny_load g4 (wpAny_pure ?_));rw[hM];exact q s' L ns hi bb lG iB r9
 |_=>exact z.elim
end
section
theorem Zhx{l:List Int}{v:Int}(h:l.Nodup):(step_dedup l v).Nodup:=by
 unfold step_dedup
 split
 ·exact h
 ·rename_i z;refine qa4.mpr ⟨h,by simp,λa bx b aN e=>?_⟩;rw[FM.mp aN] at e;exact z (by rw[qbR];exact⟨a,bx,by simp[e]⟩)
theorem zF(val:Nat→Int):∀i,(firstMet val i).Nodup
 |0=>by rw[firstMet_zero];exact .nil
 |i+1=>by rw[firstMet_succ];exact Zhx (zF val i)
theorem Zl3(ns:List Int){x:Int}:x∈firstMet (λi=>ns.getD i 0) ns.length↔x∈ns:=by
 have h:=firstMet_any (λi=>ns.getD i 0) ns.length x;have e:(List.range ns.length).map (λi=>ns.getD i 0)=ns:=by
  refine qay (by simp) λi aS a2=>?_;simp[List.getD,a2]
 rw[e] at h;have a1:∀l:List Int,(l.any (· ==x))=true↔x∈l:=λl=>by simp
 rw[←a1,h,a1]
theorem F1{l:List Int}(h:l.Pairwise (· ≤·))(n:l.Nodup):l.Pairwise (· < ·):=by
 refine(List.pairwise_and_iff.mpr ⟨h,n⟩:l.Pairwise λa b=>a≤b∧a≠b).imp λz=>?_;omega
variable {X:Cx}{K:Frag}
def Few(ns:List Int):Prop:=ns.length<64∨(ns.length≤1000∧∀l:List Int,l.Nodup→(∀x∈l,x∈ns)→l.length<64)
noncomputable def ZcF (K:Frag):V→Hp→VK→Prop:=λx H Q=>∃(l:Addr)(ns:List Int),x= .ref l∧SqL K H l (ns.map V.int)∧Few ns∧∀(p:Addr)(ms:List Int),H p=none→ms.Pairwise (· < ·)→(∀x,x∈ms↔x∈ns)→Q (.ref p) (upd H p (.lst (ms.map V.int)))
noncomputable def zG (K:Frag) (bA:TA):TE:=λσ H Q=>bA σ H λvs aU=>∃x,vs=[x]∧ZcF K x aU Q
theorem F2{a:Expr}{bA:TA}{p gc pos ve:Pos}(eJ:X.K=K)(a8:X.calm=true)(jU:Gl X "sorted")(lH:X.mg "sorted" =none)(bc:Gl X "set")(bo:X.mg "set" =none)(bx:PA X [a] bA)
  (hs:starEach [a] X.env=[(false,eval a X.env)]:=by rfl)
  (bD:starEach [Expr.Call (.Name "set" p) [a] [] pos] X.env=(false,eval (.Call (.Name "set" p) [a] [] pos) X.env)::starEach [] X.env:=by rfl):
  PE X (.Call (.Name "sorted" gc) [.Call (.Name "set" p) [a] [] pos] [] ve) (zG K bA):=by
 subst eJ;intro aK s σ H Q I h;refine Call_ (jH I jU lH PyProof.Rows.boot_sorted ?_);refine qbu ?_ bD;rw[bD];show wpAny _ _ (spliced ((false,eval (.Call (.Name "set" p) [a] [] pos) X.env):: [])) _ _ s;refine Calls.spliced_cons (Call_ (jH I bc bo boot_set (qaT (thn (bx pos aK s σ H _ I h) λus a7 ⟨vs,aU,bB,df,c8⟩=>?_) hs rfl)));obtain⟨x,e,l,ns,rfl,bT,aN,q⟩:=c8;subst e;obtain⟨u,rfl,bO⟩:=YE df;cases bO;obtain⟨its,dC,pl,hz⟩:=bB.list bT;have hi:=Ww dC;have hsz:its.toArray.size=ns.length:=by have:=dC.length;simpa using this.symm
 have gC:its.toArray.size+1<scanBound:=by rw[hsz];unfold scanBound;rcases aN with z|⟨z,_⟩<;>omega
 refine Zj9 (bB.ok.hd a8) pl.isList hi gC λh' bL o bz e1 a5=>?_;rw[hsz] at e1;refine Calls.spliced_nil ?_;have k1:∀b o,a7.heap.get? b=some o→h'.get? b=some o:=λb o e=>a5 b o (Heap.lt_size e) e;have ds:Inv X aK σ aU {a7 with heap:=h',toks:=bL}:=bB.kept k1;generalize lq:firstMet (λi=>ns.getD i 0) ns.length=M at e1;have zH:M.Nodup:=by rw[←lq];exact zF _ _
 have zI:∀x,x∈M↔x∈ns:=λx=>by rw[←lq];exact Zl3 ns
 have F3:M.length<64:=by
  rcases aN with z|⟨_,z⟩
  ·have:M.length≤ns.length:=by rw[←lq];exact ZiP _ _
   omega
  ·exact z M zH λx aT=>(zI x).mp aT
 refine Calls.call_function_entry kind_sorted plain_sorted entry_sorted (args_sorted1 _) ?_;unfold Builtin.«sorted»;refine wpAny_bind (m:=checkCount "sorted" 1 1 _) (wpAny_pure ?_);refine wpAny_bind (FV (A:=X.A.in1) (I.ok.hd a8) bz e1 (qaX (eE (n:=M.length) (by omega))) λbM L ms qp kc k3 g3 ho=>?_);obtain⟨bU,QQ,oK,zJ,QR⟩:=bM;dsimp only at k3 g3 ho⊢;subst g3 ho;have zK:∀b o,a7.heap.get? b=some o→bU.get? b=some o:=λb o e=>k3 b o (k1 b o e);have en:Inv X aK σ aU {a7 with heap:=bU,gens:=a7.gens,drawn:=oK,toks:=zJ}:=bB.call (ch:=[]) (Un.kept zK) (bB.hok.kept zK) bB.bare (λ_ z=>nomatch z);have aJ:L.length=ms.length:=IntsAre.length qp;have h9:ms.length<64:=by rw[kc.length_eq];exact F3
 refine wpAny_bind (wpAny_newList ?_ (qaX (eE (n:=L.length) (by omega))));have k_:(bU.push (seqObj "list" L.toArray 0)).get? bU.objs.size=some (seqObj "list" L.toArray 0):=Heap.get?_push_size _ rfl;refine wpAny_bind (wpAny_holding (wpAny_call_entry slot_list_sort ⟨_,k_,rfl⟩ entry_list_sort (list_sort_tree k_ qp (by omega) λout oL a1 dj dM=>⟨_,rfl,?_⟩) (args_list_sort _)));refine wpAny_pure ⟨_,rfl,?_⟩;obtain⟨e,vf⟩:=sortedHeap_at (out:=out) k_;have io:=rJ a1;have e3:oL.Perm M:=dj.trans kc;refine⟨.ref bU.objs.size,_,en.laid (a:=bU.objs.size) (o:= .lst (oL.map V.int)) (t':=zJ) (λb o gC=>?_) (fm _) ⟨by rw[GE,dj.length_eq];exact qaX (eE (n:=ms.length) (by omega)),out.toList,e,io,by simpa using vf⟩,rfl,q _ oL (en.hok.fresh (fm _)) (F1 dM (e3.nodup_iff.mpr zH)) λx=>e3.mem_iff.trans (zI x)⟩;have du:=Heap.lt_size gC;rw[sortedHeap_old (qai du) (by rw[size_push'];exact qaM du)];exact Heap.get?_push_of_some _ gC
end
namespace Rd
section
variable {K:Frag}{σ:St}{H:Hp}{Q:VK}
theorem Zpj{bA:TA}(h:bA σ H λvs aU=>∃x,vs=[x]∧ZcF K x aU Q):zG K bA σ H Q:=h
theorem Zoa{l:Addr}{ns:List Int}(h:SqL K H l (ns.map V.int))(aJ:ns.length<64)(q:∀(p:Addr)(ms:List Int),H p=none→ms.Pairwise (· < ·)→(∀x,x∈ms↔x∈ns)→Q (.ref p) (upd H p (.lst (ms.map V.int)))):∃x,[V.ref l]=[x]∧ZcF K x H Q:=⟨_,rfl,l,ns,rfl,h,.inl aJ,q⟩
end
end Rd
section
variable {X:Cx}{K:Frag}
noncomputable def rMinD:List V→Hp→VK→Prop:=λxs H Q=>∃(a:Addr)(kvs:List (Key×V))(cx:List Int),xs=[V.ref a]∧Rd H a (.dK kvs)∧kvs.map (·.1)=cx.map Sum.inl∧0<kvs.length∧∀M,M∈cx→(∀b∈cx,M≤b)→Q (.int M) H
theorem ZiG(a8:X.calm=true):Z8 X (.builtin "min") rMinD:=by
 intro aK s σ H xs us Q I r h;obtain⟨a,kvs,cx,rfl,bx,oM,de,q⟩:=h;obtain⟨u,rfl,eD⟩:=YE r;cases eD;obtain⟨z,hd,vs,rel,dd⟩:=WJ I.hok bx;obtain⟨ep,fq⟩:=dd.dictAt;have hN:kvs.length=cx.length:=by have:=congrArg List.length oM;simpa using this
 have zL:vs.length=cx.length:=by rw[←rel.length,hN]
 have du:a<s.heap.objs.size:=fq.lt_size;have fr:∀(j:Nat)(v:Value),(∃k x,vs[j]? =some (k,x)∧(e6 X.prog X.w).is k v=true)→∃t,v= .int (cx.getD j 0) t:=by
  rintro j v ⟨k,x,aT,cv⟩;obtain⟨jG,io⟩:=rel.at aT;have bj:(kvs.map (·.1))[j]? =some k:=by rw[qaj,io];rfl
  rw[oM,qaj] at bj;cases e:cx[j]? with
  |none=>rw[e] at bj;cases bj
  |some n=>
   rw[e] at bj;cases bj;have kb:cx.getD j 0=n:=by simp[List.getD,e]
   rw[kb];exact Value.isInt_shape cv
 refine call_min_walk (wpAny_pyIter_dict hd fq ?_);refine⟨s.heap.objs.size,[s.heap.objs.size,a],[s.heap.objs.size],_,_,_,_,rfl,PySem.Walks.dictKeys (A:=X.A.in1) (knd:=e6 X.prog X.w) (I.ok.hd a8) _ a (qai du) vs ep,⟨⟨_,Heap.get?_push_size _ rfl,rfl,rfl⟩,fq.push _⟩,λb aN=>?_,by omega,CmpOf.ints_lt (λi=>cx.getD i 0) fr,λv h' bL d1 a5=>?_⟩
 ·show b<(s.heap.push _).objs.size;rw[Heap.size_push];rcases qad.mp aN with rfl|aN
  ·exact qa9 _
  ·rw[FM.mp aN];exact qaM du
 ·obtain⟨t,rfl⟩:=fr _ _ d1;obtain⟨aS,a2⟩:=argBest_lt (λi=>cx.getD i 0) (vs.length-1);refine⟨.int _,H,I.kept (rX a5),⟨t,rfl⟩,q _ ?_ λb aN=>?_⟩
  ·have h9:argBest (λi j=>decide (cx.getD i 0<cx.getD j 0)) (vs.length-1)<cx.length:=by omega
   rw[qaN,GT h9];exact qaa h9
  ·obtain⟨j,bj,rfl⟩:=qaw aN;have:=a2 j (by omega);have e:cx.getD j 0=cx[j]:=by simp[List.getD,bj]
   rw[←e];exact this
theorem zM(a8:X.calm=true):Z8 X (.builtin "min") rMinD:=ZiG a8
end
namespace Rd
section
variable {H:Hp}{Q:VK}
theorem Zm8{a:Addr}{kvs:List (Key×V)}{cx:List Int}(h:L2.Rd H a (.dK kvs))(e:kvs.map (·.1)=cx.map Sum.inl)(de:0<kvs.length)(q:∀M,M∈cx→(∀b∈cx,M≤b)→Q (.int M) H):rMinD [.ref a] H Q:=⟨a,kvs,cx,rfl,h,e,de,q⟩
end
end Rd
section
variable {X:Cx}
noncomputable def rIndexI:V→List V→Hp→VK→Prop:=λx vs H Q=>∃(l:Addr)(ns:List Int)(n:Int)(j:Nat),x= .ref l∧vs=[.int n]∧H l=some (.lst (ns.map V.int))∧ns[j]? =some n∧(∀m<j,ns[m]? ≠some n)∧Q (.int j) H
theorem vg:MtM X "list.index" rIndexI:=by
 intro aK s σ H x vs v us Q I bO dC h;obtain⟨l,ns,n,j,rfl,rfl,gx,bj,hj,q⟩:=h;cases bO;obtain⟨u,rfl,eC,rfl⟩:=YE dC;obtain⟨z,its,c,r,aJ,e⟩:=I.lstM gx;have i3:=(GM.mp bj).1;have eV:=r.length;rw[GE] at eV;have at_:∀(m:Nat)(bo:m<its.toArray.size),∃t,its.toArray[m]=Value.int (ns[m]'(by simp at bo;omega)) t:=λm bo=>by
  have nz:m<ns.length:=by simp at bo;omega
  obtain⟨u,hu,t,ce⟩:=r.get (show(ns.map V.int)[m]? =some (V.int ns[m]) by simp[nz]);refine⟨t,?_⟩;have:=(GM.mp hu).2;simp only[List.getElem_toArray,this,ce]
 have bF:=li;refine call_meets F.slot_list_index ⟨_,e,rfl⟩ F.entry_list_index (F.args_list_index_2 _ _) (PySem.SeqAt.list_indexAt l its.toArray c _ _ (.int n eC) (λy=>match y with| .int i _=>i==n|_=>false) j (by simp;omega) (by rw[GE] at z;omega) ?_ ?_) ⟨e,λy bE=>?_,?_⟩
 ·obtain⟨t,ce⟩:=at_ j (by simp;omega);rw[ce];have:=(GM.mp bj).2;simp[this]
 ·intro m bo qf;obtain⟨t,ce⟩:=at_ m bo;rw[ce];have nz:m<ns.length:=by simp at bo;omega
  have:=hj m qf;rw[GT nz] at this;simpa using this
 ·obtain⟨m,bo,em⟩:=qaw (List.mem_toArray.mp bE);obtain⟨t,ce⟩:=at_ m (by simpa using bo);have:y=Value.int (ns[m]'(by omega)) t:=by rw[←em,←ce];simp
  rw[this];exact PySem.SeqAt.EqAt.int_int _ _ _ _
 ·exact⟨.int j,H,I.tok _,⟨_,rfl⟩,q⟩
noncomputable def F4 (e4:TE):TE:=λσ H Q=>e4 σ H λx aU=>∃a kvs,x= .ref a∧Rd aU a (.dK kvs)∧∀l,aU l=none→Q (.ref l) (upd aU l (.lst (kvs.map (·.2))))
theorem F5{d:Expr}{e4:TE}{p pos dV eb:Pos}(a8:X.calm=true)(jU:Gl X "list")(lH:X.mg "list" =none)(hd:PE X d e4)(iw:attributeBase d "values" X.env (eval d X.env)=eval d X.env:=by rfl)(iy:(dV.endLine==eb.line)=true:=by rfl)
  (bD:starEach [Expr.Call (.Attribute d "values" dV) [] [] eb] X.env=(false,eval (.Call (.Attribute d "values" dV) [] [] eb) X.env)::starEach [] X.env:=by rfl):
  PE X (.Call (.Name "list" p) [.Call (.Attribute d "values" dV) [] [] eb] [] pos) (F4 e4):=by
 intro aK s σ H Q I h;refine wpAny_Call_Name_kw (jH I jU lH boot_list ?_);refine qaT ?_ bD rfl;rw[bD];show wpAny _ _ (spliced ((false,eval (.Call (.Attribute d "values" dV) [] [] eb) X.env):: [])) _ _ s;refine Calls.spliced_cons (wpAny_Call_method0_late iw iy (thn (hd aK s σ H _ I h) λv a7 ⟨x,aU,bB,df,c8⟩=>?_));obtain⟨a,kvs,rfl,a3,q⟩:=c8;cases df;obtain⟨z,lE,vs,rel,dd⟩:=WJ bB.hok a3;obtain⟨ep,fq⟩:=dd.dictAt;refine⟨"dict","dict.values",qbk,qbf,qb7,dd.typeIs,dd.mapOf.noDict,Calls.callWith_builtin rfl (qbQ ?_)⟩;refine call_meetsIn qbf dd.typeIs qb5 (qb3 _) (meets_dict_values (e6 X.prog X.w) a lE) ⟨⟨vs,dd⟩,?_⟩;refine Calls.spliced_nil ?_;refine kdl_call (PySem.W.kdl_values (knd:=e6 X.prog X.w) (d:=a) (kvs:=vs) (ep:=ep)) (bB.ok.hd a8) ⟨⟨_,Heap.get?_push_size _ rfl,rfl,rfl⟩,fq.push _⟩ (by rw[←rel.length];exact z) λh' bL dL c a5 oe qb=>?_;have ds:Inv X aK σ aU {a7 with heap:=a7.heap.push {cls:= .type "dict_values",data:= .fields #[.ref a]}}:=bB.kept (t':=a7.toks) λb o e=>Heap.get?_push_of_some _ e;refine⟨.ref (a7.heap.push {cls:= .type "dict_values",data:= .fields #[.ref a]}).objs.size,_,ds.laid (a:=(a7.heap.push {cls:= .type "dict_values",data:= .fields #[.ref a]}).objs.size) (o:= .lst (kvs.map (·.2))) (t':=bL) a5 (fm _) ⟨by rw[GE];exact z,dL.toList,c,?_,by simpa using oe⟩,rfl,q _ (ds.hok.fresh (fm _))⟩;refine uM (by rw[qaE,qb.1,GE,rel.length]) λj v u bw bC=>?_;obtain⟨k,aT⟩:=qb.2 j u (by rw[←qbd];exact bC);rw[qaj] at bw;cases e_:kvs[j]? with
 |none=>rw[e_] at bw;cases bw
 |some kv=>
  rw[e_] at bw;cases bw;obtain⟨kx,gB,eD⟩:=rel.fwd e_;rw[aT] at gB;cases gB;exact eD
theorem zN(ns:List Int):∀j≤ns.length,preSum (λi=>ns.getD i 0) j=(ns.take j).sum
 |0,_=>by simp[preSum]
 |j+1,h=>by
  have bj:j<ns.length:=h;rw[preSum,zN ns j (by omega),qac bj,List.sum_append];simp[List.getD,bj]
noncomputable def F6 (e4:TE):TE:=λσ H Q=>e4 σ H λx aU=>∃(a:Addr)(kvs:List (Key×V))(ns:List Int),x= .ref a∧Rd aU a (.dK kvs)∧kvs.map (·.2)=ns.map V.int∧Q (.int ns.sum) aU
theorem F7{d:Expr}{e4:TE}{p pos dV eb:Pos}(a8:X.calm=true)(jU:Gl X "sum")(lH:X.mg "sum" =none)(hd:PE X d e4)(iw:attributeBase d "values" X.env (eval d X.env)=eval d X.env:=by rfl)(iy:(dV.endLine==eb.line)=true:=by rfl)
  (bD:starEach [Expr.Call (.Attribute d "values" dV) [] [] eb] X.env=(false,eval (.Call (.Attribute d "values" dV) [] [] eb) X.env)::starEach [] X.env:=by rfl):
  PE X (.Call (.Name "sum" p) [.Call (.Attribute d "values" dV) [] [] eb] [] pos) (F6 e4):=by
 intro aK s σ H Q I h;refine wpAny_Call_Name_kw (jH I jU lH boot_sum ?_);refine qbu ?_ bD rfl;rw[bD];show wpAny _ _ (spliced ((false,eval (.Call (.Attribute d "values" dV) [] [] eb) X.env):: [])) _ _ s;refine Calls.spliced_cons (wpAny_Call_method0_late iw iy (thn (hd aK s σ H _ I h) λv a7 ⟨x,aU,bB,df,c8⟩=>?_));obtain⟨a,kvs,ns,rfl,a3,hY,q⟩:=c8;cases df;obtain⟨z,lE,vs,rel,dd⟩:=WJ bB.hok a3;obtain⟨ep,fq⟩:=dd.dictAt;refine⟨"dict","dict.values",qbk,qbf,qb7,dd.typeIs,dd.mapOf.noDict,Calls.callWith_builtin rfl (qbQ ?_)⟩;refine call_meetsIn qbf dd.typeIs qb5 (qb3 _) (meets_dict_values (e6 X.prog X.w) a lE) ⟨⟨vs,dd⟩,?_⟩;refine Calls.spliced_nil ?_;have ds:Inv X aK σ aU {a7 with heap:=a7.heap.push {cls:= .type "dict_values",data:= .fields #[.ref a]}}:=bB.kept (t':=a7.toks) λb o e=>Heap.get?_push_of_some _ e;have du:a<(a7.heap.push {cls:= .type "dict_values",data:= .fields #[.ref a]}).objs.size:=(fq.push _).lt_size;refine call_sum_walkG (wpAny_pyIter_values (knd:=e6 X.prog X.w) (d:=a) (kvs:=vs) (ep:=ep) ⟨_,Heap.get?_push_size _ rfl,rfl,rfl⟩ (fq.push _) ?_);have aJ:=rel.length;have ny:ns.length=vs.length:=by have:=congrArg List.length hY;simp at this;omega
 refine⟨_,_,_,vs.length,_,_,λi=>ns.getD i 0,rfl,PySem.Walks.dictValues (A:=X.A.in1) (bB.ok.hd a8) _ a (qai du) vs ep,⟨⟨_,Heap.get?_push_size _ rfl,rfl,rfl⟩,(fq.push _).push _⟩,λb aN=>?_,λi v ⟨k,a5⟩=>?_,λh' bL t' a5=>?_⟩
 ·rw[Heap.size_push];rcases qad.mp aN with e|aN
  ·rw[e];exact qa9 _
  ·rw[FM.mp aN];exact qaM du
 ·obtain⟨jG,io⟩:=rel.at a5;have hi:i<ns.length:=by have:=(GM.mp a5).1;omega
  have bw:(kvs.map (·.2))[i]? =some jG:=by rw[qaj,io];rfl
  rw[hY,qaj,GT hi] at bw;obtain⟨kx,gB,eD⟩:=rel.fwd io;rw[a5] at gB;cases gB;have bC:V.int ns[i]=jG:=qam bw;have F8:dq (V.int ns[i]) v:=by rw[bC];exact eD
  obtain⟨t,rfl⟩:=F8;exact⟨t,by simp[List.getD,hi]⟩
 ·have a':preSum (λi=>ns.getD i 0) vs.length=ns.sum:=by
   rw[←ny,zN ns ns.length (fm _),qaB]
  rw[a'];refine⟨.int ns.sum,aU,ds.kept (t':=bL) (λb o e=>a5 b o (λbo=>?_) (Heap.get?_push_of_some _ e)),⟨_,rfl⟩,q⟩;rw[FM.mp bo] at e;exact qbe _ (Heap.lt_size e)
end
noncomputable def Itk (d:Addr) (o:Obj) (kvs:List (Key×V)):It:=
 ⟨λi H=>H d=some (.frz o (.dK kvs))∧i<kvs.length,λi H x H'=>H'=H∧∃kv,kvs[i]? =some kv∧x=kV kv.1,λi H=>H d=some (.frz o (.dK kvs))∧kvs.length≤i⟩
section
variable {P:Program}{w:World}{K:Frag}
theorem F9{dr:Expr}(d it:Addr)(o:Obj)(kvs:List (Key×V))(vs:List (Key×Value))(ep:Nat)(rel:KV kvs vs)(hd:∀h:Heap,h.get? d=some o→h.DictAt (e6 P w) d vs ep):Uf P w K dr (Itk d o kvs) [it] it (λi h=>h.IsKeyIter it d i vs.length ep) where
 mem:=by simp
 obj:=λi h st b aN=>by
  have e:b=it:=by simpa using aN
  subst e;obtain⟨o,e,c,dd⟩:=st;exact⟨o,e,λv z=>by rw[dd] at z;cases z⟩
 keep:=λi h h' st k=>st.at λo q=>k it (by simp) o q
 item:=by
  intro X d1 hw eJ a8 i aK s σ H E I bv st bc;subst d1 hw eJ;obtain⟨bD,hi⟩:=bc;have bz:=(show ZP X.prog X.w H s.heap d (.frz o (.dK kvs)) from I.hok d _ bD).1;obtain⟨ef,f1,f2,dR,eH,ev⟩:=bv it (by simp);obtain⟨u,hu,eD⟩:=rel.fwd (GT hi);refine wpAny_pyNext_dict_item st (hd _ bz) hu λfr h' pE gV hh=>?_;have bB:Inv X aK σ H {s with heap:=h',toks:=s.toks}:=I.turned (t':=s.toks) (λb q aN e=>(hh.2 b aN).trans e) ef f1 dR eH ev;obtain⟨q,e,c,dd⟩:=id gV;exact⟨_,rfl,m2 (s:={s with heap:=h',toks:=s.toks}) e c dd (by decide) ⟨_,H,bB,uL pE,⟨rfl,kvs[i],GT hi,rfl⟩,gV,λb aN=>(bv b aN).1⟩⟩
 done:=by
  intro X d1 hw eJ a8 i aK s σ H E I bv st bc;subst d1 hw eJ;obtain⟨bD,hi⟩:=bc;have bz:=(show ZP X.prog X.w H s.heap d (.frz o (.dK kvs)) from I.hok d _ bD).1;obtain⟨ef,f1,f2,dR,eH,ev⟩:=bv it (by simp);exact wpAny_pyNext_dict_end (I.ok.hd a8) st (hd _ bz) (qaP (by rw[←rel.length];exact hi)) λh' dJ=>⟨rfl,I.turned (t':=s.toks) (λb q aN e=>dJ b q aN e) ef f1 dR eH ev⟩
 self:=λ_ _ _ _ _ st h=>wpAny_pyIter_keyiter st h
end
section
variable {X:Cx}{dr:Expr}
noncomputable def F_ (e4:TE):TI:=λσ H R=>e4 σ H λx aU=>∃a kvs,x= .ref a∧Rd aU a (.dK kvs)∧∀o,R (Itk a o kvs) (upd aU a (.frz o (.dK kvs)))
theorem F'{d:Expr}{e4:TE}(hd:PE X d e4):PI X dr d (F_ e4):=by
 intro aK s σ H R I h;refine thn (hd aK s σ H _ I h) λv a7 ⟨x,aU,bB,df,c8⟩=>?_;obtain⟨a,kvs,rfl,a3,q⟩:=c8;cases df;obtain⟨z,lE,vs,rel,dd⟩:=WJ bB.hok a3;obtain⟨ep,fq⟩:=dd.dictAt;obtain⟨o,bz,ds⟩:=bB.freeze a3;have nq:∀h:Heap,h.get? a=some o→h.DictAt (e6 X.prog X.w) a vs ep:=λh e=>fq.at' λc' b1=>by rw[bz] at b1;cases b1;exact e
 refine wpAny_pyIter_dict (knd:=e6 X.prog X.w) lE fq ?_;refine⟨a7.heap.objs.size,[a7.heap.objs.size],_,_,_,rfl,ds.kept (t':=a7.toks) λb o e=>Heap.get?_push_of_some _ e,F9 a _ o kvs vs ep rel nq,⟨_,Heap.get?_push_size _ rfl,rfl,rfl⟩,λb aN=>?_,q o⟩;rw[FM.mp aN];exact ds.fpOk (fm _) (ds.hok.fresh (fm _))
theorem Ga{d:Addr}{o:Obj}{kvs:List (Key×V)}{H:Hp}(h:H d=some (.frz o (.dK kvs))):V7 (Itk d o kvs) kvs.length (λi H' v a4=>a4=H'∧∃kv,kvs[i]? =some kv∧v=kV kv.1) H:=
 ⟨λH' i e hi=>⟨e _ _ h,hi⟩,λH' i x a4 e hi y=>y,λH' e=>⟨e _ _ h,fm _⟩⟩
theorem zO{o e f:Expr}{dV eb:Pos}{e4 ty nc:TE}(hu:HU X.A)(bz:PE X o e4)(bD:PE X e ty)(bv:PE X f nc)(m:M2 X o "get" dV e f eb):PE X (.Call (.Attribute o "get" dV) [e,f] [] eb) (yF e4 ty nc):=
 Zkb (by have:X.A.units+64<cLine:=hu;omega) bz bD bv m
end
section
variable {X:Cx}{K:Frag}
noncomputable def vh (K:Frag):List V→Hp→VK→Prop:=λxs H Q=>∃(p:Addr)(ns:List Int),xs=[.ref p]∧SqL K H p (ns.map V.int)∧0<ns.length∧∀M,M∈ns→(∀a∈ns,a≤M)→Q (.int M) H
theorem ZiN(a8:X.calm=true):Z8 X (.builtin "max") (vh X.K):=by
 intro aK s σ H xs us Q I r h;obtain⟨p,ns,rfl,bT,eO,q⟩:=h;obtain⟨u,rfl,bO⟩:=YE r;cases bO;obtain⟨its,dC,pl,hz⟩:=I.list bT;have hi:=Ww dC;obtain⟨ys,aT⟩:=hi.allInts.items;have ek:s.heap.IsList p (intItems ys):=aT▸pl.isList;have du:p<s.heap.objs.size:=by obtain⟨_,e,_⟩:=ek;exact Heap.lt_size e
 have hY:ns=ys.toList.map (·.1):=by
  rw[←nums_intItems,←aT];exact(show numsOf its.toArray.toList=ns from hi.numsOf).symm
 have hsz:0<ys.size:=by
  have bU:=eO;rw[hY,GE,qaE] at bU;exact bU
 have uW:(intItems ys).size=ys.size:=by simp[intItems]
 refine call_max_walk (wpAny_pyIter_list ek ?_);refine⟨s.heap.objs.size,[s.heap.objs.size,p],[s.heap.objs.size],_,_,_,_,rfl,PySem.Walks.list (A:=X.A.in1) (I.ok.hd a8) _ p (qai du) (intItems ys),
  ⟨⟨_,Heap.get?_push_size _ rfl,rfl,rfl⟩,ek.push _⟩,λb aN=>?_,by rw[uW];exact hsz,CmpOf.ints_gt (numAt ys) (λ_ _=>intItems_at),λv h' bL d1 a5=>?_⟩
 ·show b<(s.heap.push _).objs.size;rw[Heap.size_push];rcases qad.mp aN with rfl|aN
  ·exact qa9 _
  ·rw[FM.mp aN];exact qaM du
 ·obtain⟨t,rfl⟩:=intItems_at d1;obtain⟨aS,a2⟩:=argBest_gt (numAt ys) ((intItems ys).size-1);refine⟨.int _,H,I.kept (rX a5),⟨t,rfl⟩,q _ ?_ λa bx=>?_⟩
  ·have h9:argBest (λi j=>decide (numAt ys i > numAt ys j)) ((intItems ys).size-1)<(ys.toList.map (·.1)).length:=by rw[GE,qaE];omega
   rw[hY,numAt_eq,qaN,GT h9];exact qaa h9
  ·rw[hY] at bx;obtain⟨j,bj,rfl⟩:=mem_getD bx;rw[GE,qaE] at bj;rw[←numAt_eq];exact a2 j (by omega)
theorem Gb(e:X.K=K)(a8:X.calm=true):Z8 X (.builtin "max") (vh K):=e▸ZiN a8
noncomputable def ZiF (K:Frag):V→Hp→(Nat→Prop)→Prop:=λx H R=>∃(l:Addr)(ns:List Int),x= .ref l∧SqL K H l (ns.map V.int)∧ns.length+1<4096∧∀n,n≤ns.length→(n=ns.length↔ns.Nodup)→R n
noncomputable def zP (K:Frag) (bA:TA):TE:=λσ H Q=>bA σ H λvs aU=>∃x,vs=[x]∧ZiF K x aU λn=>Q (.int (n:Nat)) aU
theorem zQ(ns:List Int):∀i,i≤ns.length→(firstMet (λi=>ns.getD i 0) i).length=i→firstMet (λi=>ns.getD i 0) i=ns.take i∧(ns.take i).Nodup
 |0,_,_=>⟨rfl,by simp⟩
 |i+1,hi,aJ=>by
  have dx:i<ns.length:=by omega
  have e:ns.getD i 0=ns[i]:=by simp[List.getD,dx]
  rw[firstMet_succ,step_length,e] at aJ;have de:=firstMet_length_le (λi=>ns.getD i 0) i
  split at aJ
  ·omega
  ·rename_i bF;obtain⟨aS,a2⟩:=zQ ns i (by omega) (by omega);rw[aS] at bF;have bo:ns[i]∉ns.take i:=λz=>bF (qbR.mpr ⟨_,z,by simp⟩);rw[firstMet_succ,e,aS,qac dx];refine⟨?_,qa4.mpr ⟨a2,by simp,λa bx b aN=>?_⟩⟩
   ·unfold step_dedup;rw[if_neg bF]
   ·rw[FM.mp aN];exact λz=>bo (z▸bx)
theorem zR{a:Expr}{bA:TA}{p gc pos ve:Pos}(eJ:X.K=K)(a8:X.calm=true)(jU:Gl X "len")(lH:X.mg "len" =none)(bc:Gl X "set")(bo:X.mg "set" =none)(bx:PA X [a] bA)
  (hs:starEach [a] X.env=[(false,eval a X.env)]:=by rfl)
  (bD:starEach [Expr.Call (.Name "set" p) [a] [] pos] X.env=(false,eval (.Call (.Name "set" p) [a] [] pos) X.env)::starEach [] X.env:=by rfl):
  PE X (.Call (.Name "len" gc) [.Call (.Name "set" p) [a] [] pos] [] ve) (zP K bA):=by
 subst eJ;intro aK s σ H Q I h;refine Call_ (jH I jU lH qas ?_);refine qbu ?_ bD;rw[bD];show wpAny _ _ (spliced ((false,eval (.Call (.Name "set" p) [a] [] pos) X.env):: [])) _ _ s;refine Calls.spliced_cons (Call_ (jH I bc bo boot_set (qaT (thn (bx pos aK s σ H _ I h) λus a7 ⟨vs,aU,bB,df,c8⟩=>?_) hs rfl)));obtain⟨x,e,l,ns,rfl,bT,aN,q⟩:=c8;subst e;obtain⟨u,rfl,bO⟩:=YE df;cases bO;obtain⟨its,dC,pl,hz⟩:=bB.list bT;have hi:=Ww dC;have hsz:its.toArray.size=ns.length:=by have:=dC.length;simpa using this.symm
 refine call_set_list (bB.ok.hd a8) pl.isList hi (by rw[hsz];exact aN) λh' bL e1 a5=>?_;refine Calls.spliced_nil ?_;obtain⟨o,a',ep,t,bz,fG,hd,_,_,du,bv,bF⟩:=e1;refine call_len_set bz fG hd bv (by unfold scanBound at du;omega) ?_;refine⟨.int a'.size,aU,?_,⟨_,rfl⟩,q _ ?_ ⟨λz=>?_,λfg=>?_⟩⟩
 ·exact bB.kept λb o e=>a5 b o (Heap.lt_size e) e
 ·rw[bF,hsz];exact firstMet_length_le _ _
 ·rw[bF,hsz] at z;have:=(zQ ns _ (fm _) z).2
  rwa [qaB] at this
 ·rw[bF,hsz,zi ns fg _ (fm _),qaB]
end
namespace Rd
section
variable {K:Frag}{σ:St}{H:Hp}{Q:VK}
theorem Zo5{p:Addr}{ns:List Int}(h:SqL K H p (ns.map V.int))(bF:0<ns.length)(q:∀M,M∈ns→(∀a∈ns,a≤M)→Q (.int M) H):vh K [.ref p] H Q:=⟨p,ns,rfl,h,bF,q⟩
theorem Zod{bA:TA}(h:bA σ H λvs aU=>∃x,vs=[x]∧ZiF K x aU λn=>Q (.int (n:Nat)) aU):zP K bA σ H Q:=h
end
end Rd
section
variable {X:Cx}
noncomputable def zS (K:Frag):List V→Hp→VK→Prop:=λxs H Q=>∃(a:Addr)(cx:List Int),xs=[V.ref a]∧SqL K H a (cx.map V.int)∧cx.length<64∧∀(l:Addr)(ns:List Int),H l=none→ns.Perm cx→ns.Pairwise (· ≤·)→Q (.ref l) (upd H l (.lst (ns.map V.int)))
theorem Gc{K:Frag}(eJ:X.K=K):Z8 X (.builtin "sorted") (zS K):=by
 subst eJ;intro aK s σ H xs us Q I r h;obtain⟨a,cx,rfl,bx,Gd,q⟩:=h;obtain⟨u,rfl,eD⟩:=YE r;cases eD;obtain⟨its,dC,pl,hz⟩:=I.list bx;have pT:=Ww dC;have aJ:its.length=cx.length:=by have:=dC.length;simpa using this.symm
 obtain⟨o,bz,fo,n,Ge⟩:=pl.isList;have vi:cx.length≤sizeLine:=qaX (eE (n:=cx.length) (by omega));refine Calls.call_function_entry kind_sorted plain_sorted entry_sorted (args_sorted1 _) ?_;unfold Builtin.«sorted»;refine wpAny_bind (m:=checkCount "sorted" 1 1 _) (wpAny_pure ?_);refine wpAny_bind (wpAny_collect_seq a (.inl rfl) bz fo Ge (λh' a5=>?_) (by rw[qae,aJ];exact vi));rw[List.toList_toArray];refine wpAny_bind (wpAny_newList ?_ (by rw[aJ];exact vi));have k_:(h'.push (seqObj "list" its.toArray 0)).get? h'.objs.size=some (seqObj "list" its.toArray 0):=Heap.get?_push_size _ rfl;have bB:Inv X aK σ H {s with heap:=h'}:=I.kept a5;refine wpAny_bind (wpAny_holding (wpAny_call_entry slot_list_sort ⟨_,k_,rfl⟩ entry_list_sort (list_sort_tree k_ pT (by rw[aJ];exact Gd) λout oL a1 dj dM=>⟨_,rfl,?_⟩) (args_list_sort _)));refine wpAny_pure ⟨_,rfl,?_⟩;obtain⟨e,bD⟩:=sortedHeap_at (out:=out) k_;have io:=rJ a1;refine⟨.ref h'.objs.size,_,bB.laid (a:=h'.objs.size) (o:= .lst (oL.map V.int)) (t':=s.toks) (λb o gC=>?_) (fm _) ⟨by rw[GE,dj.length_eq];exact vi,out.toList,e,io,by simpa using bD⟩,rfl,q _ oL (bB.hok.fresh (fm _)) dj dM⟩;have du:=Heap.lt_size gC;rw[sortedHeap_old (qai du) (by rw[size_push'];exact qaM du)];exact Heap.get?_push_of_some _ gC
end
namespace Rd
section
variable {K:Frag}{H:Hp}{Q:VK}
theorem Zok{a:Addr}{cx:List Int}(h:SqL K H a (cx.map V.int))(aJ:cx.length<64)(q:∀(l:Addr)(ns:List Int),H l=none→ns.Perm cx→ns.Pairwise (· ≤·)→Q (.ref l) (upd H l (.lst (ns.map V.int)))):zS K [V.ref a] H Q:=⟨a,cx,rfl,h,aJ,q⟩
end
end Rd
theorem Gf:entryFor table "proto.unchain" =some Builtin.«proto.unchain»:=entryFor_of_tree (by kernel_rfl)
section
variable {prog:Program}{w:World}{A:Around}{E:Value→Shared→Prop}{s:Shared}
theorem Gg{a ea:Addr}{Q:Value→Shared→Prop}(fQ:ZK s.heap ea)(h:Q .none s):wpAny (model prog w) A (runValue (.builtin "proto.unchain" ⟨[.ref a,.ref ea,.ref ea,.bool false],[]⟩)) Q E s:=by
 obtain⟨o,vs,bz,hd,a2⟩:=fQ;refine wpAny_runValue (codeAny_builtin Gf ?_);unfold Builtin.«proto.unchain»;refine wpAny_bind (wpAny_field bz hd a2 ?_);rw[if_pos (show(Value.none==Value.none)=true from by decide)];exact λ_ _ _=>h
theorem ZeA{it l ea:Addr}{i:Nat}{items}{Q:Option Value→Shared→Prop}(bV:A.handled=some (.ref ea))(fQ:ZK s.heap ea)
  (eW:s.heap.IsListIter it l i) (aJ:s.heap.IsList l items) (aT:items[i]? =none)
  (fA:∀h',Heap.ExtBut it s.heap h'→Q none {s with heap:=h'}):wpAny (model prog w) A (pyNext (.ref it)) Q E s:=by
 obtain⟨o,bz,a8,hd⟩:=id eW;obtain⟨ql,r_,_,zw,lF⟩:=aJ;have lt:ea<s.heap.objs.size:=by obtain⟨_,_,e,_⟩:=fQ;exact Heap.lt_size e
 unfold pyNext;refine wpAny_bind (wpAny_attempt (wpAny_callSpecial?_slot (name:=Str.ofString "__next__") eW.typeIs slot_listiter_next
  (wpAny_call_entry slot_listiter_next eW.typeIs entry_listiter_next ?_ (args_listiter_next _))))
 show wpAny _ _ (field (.ref it) 0 >>= _) _ _ s;refine wpAny_bind (wpAny_field bz hd (x:= .ref l) rfl ?_);show wpAny _ _ (if(Value.ref l==Value.none)=true then _ else _) _ _ s;rw[if_neg (show ¬((Value.ref l==Value.none)=true) from qag)];show wpAny _ _ (field (.ref it) 1 >>= _) _ _ s;refine wpAny_bind (wpAny_field bz hd (x:= .int i 0) rfl ?_);show wpAny _ _ (seqItems? (.ref l) >>= _) _ _ s;refine wpAny_bind (wpAny_seqItems r_ lF ?_);simp only[qab,aT];refine wpAny_bind (wpAny_rule (wpAny_bind (wpAny_setField bz hd (by simp) ?_)));have Gh:ZK (s.heap.update it (Obj.mapFields (·.setIfInBounds 0 Value.none))) ea:=fQ.field (by decide);have sz:(s.heap.update it (Obj.mapFields (·.setIfInBounds 0 Value.none))).objs.size=s.heap.objs.size:=by simp[Heap.update]
 have dJ:Heap.ExtBut it s.heap (s.heap.update it (Obj.mapFields (·.setIfInBounds 0 Value.none))):=(Heap.SameBut.update ..).extBut;generalize s.heap.update it (Obj.mapFields (·.setIfInBounds 0 Value.none))=aS at*;show wpAny _ _ (newExc (.type "StopIteration") [] >>= _) _ _ _;refine wpAny_bind ?_;simp only[newExc,newTuple];refine wpAny_bind (wpAny_newObj_type ?_ (by size_fits));refine wpAny_bind (m:=firstArgMember _ _) (wpAny_of_eq (a:=Value.none) (by first|rfl|(simp only[firstArgMember];rfl)) ?_);refine wpAny_newObj_type ?_ (by size_fits);simp only[raiseNew];refine wpAny_bind (wpAny_handled ?_);rw[show A.in1.handled=some (.ref ea) from bV];dsimp only;generalize fh:aS.push {cls:= .type "tuple",dict:=none,data:= .seq ([]:List Value).toArray}=a2;have ne:(Value.ref ea != Value.ref a2.objs.size)=true:=by
  rw[←fh,Heap.size_push,sz];simp only[bne_iff_ne,ne_eq,Value.ref.injEq];exact qai (qaM lt)
 rw[if_pos ne];have zT:Heap.ExtBut it s.heap a2:=by rw[←fh];exact dJ.push _
 have uB:ZK a2 ea:=by rw[←fh];exact Gh.push
 refine wpAny_bind (wpAny_holding (Gg uB.push ?_));have bD:=Heap.get?_push_size a2 (o:={cls:= .type "StopIteration",data:= .fields (#[Value.ref aS.objs.size,Value.none,Value.none,Value.none,Value.bool false,Value.none]++ownMembersOf (Value.type "StopIteration") [])}) rfl;refine wpAny_bind (show wpAny _ _ (setField (.ref a2.objs.size) 2 (.ref ea)) _ _ _ from wpAny_setField bD rfl (by simp;omega) (wpAny_throw ?_));refine wpAny_bind (wpAny_isInstance (T:="StopIteration") (b:=true) ⟨_,Heap.get?_update_self _ bD rfl,rfl⟩ isSubtype_stop ?_);refine wpAny_pure (fA _ λb o aN e=>?_);rw[Heap.get?_update_other _ _ (qbP (qai (Heap.lt_size (zT b o aN e))))];exact Heap.get?_push_of_some _ (zT b o aN e)
theorem Gi{it l ea:Addr}(bV:A.handled=some (.ref ea))(eO:l≠it)(qq:ea≠it)(items:Array Value):
  PySem.Walks prog w A it [it,l,ea] [it] items.size (λi v=>items[i]? =some v) (λi h=>(h.IsListIter it l i∧h.IsList l items)∧ZK h ea) where
 sub:=λb aN=>by simp at aN;simp[aN]
 frame:=λ_ _ _ st a5=>⟨⟨st.1.1.at λo e=>a5 it (by simp) o e,st.1.2.at λo e=>a5 l (by simp) o e⟩,st.2.keeps λo e=>a5 ea (by simp) o e⟩
 item:=λi s Q E hi st fA=>by
  refine wpAny_pyNext_list_item st.1.1 st.1.2 (x:=items[i]) (by simp[hi]) λh' uN sb=>?_;exact fA _ h' s.toks (by simp[hi]) ⟨⟨uN,st.1.2.extBut sb.extBut eO⟩,st.2.keeps λo e=>sb.extBut ea o qq e⟩ λb o aN e=>sb.extBut b o (λh=>aN (by simp[h])) e
 done:=λs Q E st fA=>ZeA bV st.2 st.1.1 st.1.2 (by simp) λh' vf=>fA h' s.toks λb o aN e=>vf b o (λh=>aN (by simp[h])) e
 self:=λ_ _ _ _ st fA=>wpAny_pyIter_listiter st.1.1 fA
theorem Zjl{l ea:Addr}{xs:Array (Int×Tok)}{Q:Value→Shared→Prop}(bV:A.handled=some (.ref ea))(fQ:ZK s.heap ea)(aJ:s.heap.IsList l (intItems xs))
  (h:∀h' bL t',(∀b o,s.heap.get? b=some o→h'.get? b=some o)→Q (.int (preSum (numAt xs) xs.size) t') {s with heap:=h',toks:=bL}):
  wpAny (model prog w) A (call (.builtin "sum") [.ref l]) Q E s:=by
 have lt:ea<s.heap.objs.size:=by obtain⟨_,_,e,_⟩:=fQ;exact Heap.lt_size e
 refine call_sum_walkG (iter_intList aJ λjZ e st hl Gj=>?_);subst e;refine⟨_,_,_,_,_,_,numAt xs,rfl,Gi (A:=A.in1) (l:=l) bV Gj (qai lt) (intItems xs),⟨st,fQ.push⟩,λb aN=>?_,(λ_ _=>intItems_at),λh' bL t' a5=>?_⟩
 ·rcases qad.mp aN with e|aN
  ·exact hl b (by simp[e])
  ·rcases qad.mp aN with e|aN
   ·exact hl b (by simp[e])
   ·rw[FM.mp aN];show ea<(s.heap.push _).objs.size;rw[Heap.size_push];exact qaM lt
 ·have:=h h' bL t' (old_kept a5);simpa[intItems] using this
end
section
variable {X:Cx}{ea:Addr}
noncomputable def vj (K:Frag) (a ea:Addr):It:=⟨(Itl K a).go,(Itl K a).yld,λi H=>(Itl K a).stop i H∧∃C,H ea=some (gN ea C)⟩
theorem Gk{P:Program}{w:World}{K:Frag}{dr:Expr}(a it:Addr):Zfb (λX=>X.A.handled=some (.ref ea)) P w K dr (vj K a ea) [it] it (λi h=>h.IsListIter it a i) where
 obj:=λi h st b aN=>by
  have e:b=it:=by simpa using aN
  subst e;obtain⟨o,e,c,d⟩:=st;exact⟨o,e,λv z=>by rw[d] at z;cases z⟩
 keep:=λi h h' st k=>st.at λo e=>k it (by simp) o e
 item:=by
  intro X d1 hw eJ a8 i aK s σ H E I bv st bc;subst d1 hw eJ;obtain⟨xs,x,bT,aT⟩:=bc;obtain⟨its,dC,p,hz⟩:=I.list bT;obtain⟨u,hu,eD⟩:=dC.get aT;obtain⟨ef,f1,f2,dR,eH,ev⟩:=bv it (by simp);refine wpAny_pyNext_list_item st p.isList (x:=u) (by simpa using hu) λh' gV hh=>?_;have bB:Inv X aK σ H {s with heap:=h'}:=I.turned (t':=s.toks) (λb o aN e=>(hh.2 b aN).trans e) ef f1 dR eH ev;obtain⟨o,e,c,d⟩:=id gV;exact⟨u,rfl,m2 (s:={s with heap:=h'}) e c d (by decide) ⟨x,H,bB,eD,⟨rfl,λys bE=>by rw[I.list_inj bE bT];exact aT⟩,gV,λb aN=>(bv b aN).1⟩⟩
 done:=by
  intro X d1 hw eJ a8 i aK s σ H E I bv st bc;subst d1 hw eJ;obtain⟨⟨xs,bT,aT⟩,C,fG⟩:=bc;obtain⟨its,dC,p,hz⟩:=I.list bT;obtain⟨ef,f1,f2,dR,eH,ev⟩:=bv it (by simp);obtain⟨⟨_,fQ⟩,_,_⟩:=(show ZP X.prog X.w H s.heap ea (gN ea C) from I.hok ea _ fG);have aJ:=dC.length;exact ZeA a8 fQ st p.isList (by simp;omega) λh' dJ=>⟨rfl,I.turned (t':=s.toks) (λb o aN e=>dJ b o aN e) ef f1 dR eH ev⟩
 self:=λ_ _ _ _ _ st h=>wpAny_pyIter_listiter st h
def PIH(X:Cx)(ea:Addr)(dr eL:Expr)(e0:TI):Prop:=
 ∀(aK:List (Addr×Obj))(s:Shared)(σ:St)(H:Hp)(R:It→Hp→Prop),Inv X aK σ H s→e0 σ H R→
  wpAny (model X.prog X.w) X.A (eval eL X.env) (λv a7=>wpAny (model X.prog X.w) X.A (pyIter v) (λlf bK=>∃(it:Addr)(fp:List Addr)(eC:Nat→Heap→Prop)(J:It)(H':Hp),lf= .ref it∧Inv X aK σ H' bK∧Zfb (λX=>X.A.handled=some (.ref ea)) X.prog X.w X.K dr J fp it eC∧eC 0 bK.heap∧(∀b∈fp,g9 X aK H' b)∧R J H') X.xe a7) X.xe s
noncomputable def zU (K:Frag) (ea:Addr) (ei:TE):TI:=λσ H R=>ei σ H λx aU=>∃a,x= .ref a∧(∃xs,SqL K aU a xs)∧R (vj K a ea) aU
theorem Gm{K:Frag}{dr l:Expr}{ei:TE}(e_:X.K=K)(aJ:PE X l ei):PIH X ea dr l (zU K ea ei):=by
 subst e_;intro aK s σ H R I h;refine thn (aJ aK s σ H _ I h) λv a7 ⟨x,aU,bB,df,c8⟩=>?_;obtain⟨a,e,⟨xs,bT⟩,q⟩:=c8;subst e;cases df;obtain⟨its,dC,p,hz⟩:=bB.list bT;refine wpAny_pyIter_list p.isList ?_;refine⟨a7.heap.objs.size,[a7.heap.objs.size],_,_,aU,rfl,bB.kept (t':=a7.toks) λb o e=>Heap.get?_push_of_some _ e,Gk a _,⟨_,Heap.get?_push_size _ rfl,rfl,rfl⟩,λb aN=>?_,q⟩;have e:b=a7.heap.objs.size:=by simpa using aN
 subst e;exact bB.fpOk (fm _) (bB.hok.fresh (fm _))
theorem Gn{fD dr eL:Expr}{ifs:List Expr}{b':Scope}{pos:Pos}{x:Str}{zs:List Str}{ix:List Nat}{e0:TI}{g:TG}{d_:TT}{dg:TE}
  (a8:X.A.handled=some (.ref ea)) (S:YG X b' x zs ix) (hi:PIH X ea dr eL e0)
  (fe:∀cl C s H fp,PG (Zl X b' cl C (x::zs) s H fp) dr g∧PIf (Zl X b' cl C (x::zs) s H fp) ifs d_∧PE (Zl X b' cl C (x::zs) s H fp) fD dg)
  (hs:∀x,foldedSetIterable eL X.env x=pure x:=by intro _;rfl):
  PE X (.ListComp fD [⟨dr,eL,ifs,0⟩] b' pos) (pU ix e0 g d_ dg):=by
 intro aK s σ H Q I h;obtain⟨cl,lz,fo,hk⟩:=WL I.ok S;rw[eval_ListComp];refine wpAny_comprehension_free (use:=none) rfl hs lz S.kind S.names (thn (hi aK s σ H _ I h) λv a7 aS=>thn aS λlf bK a2=>?_);obtain⟨it,fp,eC,J,a4,e,ds,T,j2,f2,bT⟩:=a2;subst e;refine ZaL (RR:=λdL C=>compPost (model X.prog X.w) X.A X.xe none (EP X aK σ Q) dL C) (λ_ _ _ _=>a8) S ds fo hk T j2 f2 (λC s H=>fe cl C s H fp) bT λdL C f s' h=>?_;obtain⟨p,H',m,rfl,bo,eT,⟨ff,g1,g2,g3,iB,lA⟩,q⟩:=h;exact⟨m,bo,λh' aN=>⟨.ref p,H',eT.turned (t':=s'.toks) (λb o eO e=>(aN.2 b eO).trans e) ff g1 g3 iB lA,rfl,q⟩⟩
theorem Go{K:Frag}{a C:Addr}{xs:List V}{H:Hp}(h:SqL K H a xs)(fG:H ea=some (gN ea C)):Walks (vj K a ea) xs.length (λi=>xs.getD i .non) H:=
 let W:=fR h;⟨W.go,W.yld,λH' e=>⟨W.stop H' e,C,e _ _ fG⟩⟩
noncomputable def zV (K:Frag) (ea:Addr):List V→Hp→VK→Prop:=λxs H Q=>∃(p:Addr)(ns:List Int)(C:Addr),xs=[.ref p]∧SqL K H p (ns.map V.int)∧H ea=some (gN ea C)∧Q (.int ns.sum) H
theorem Gp{K:Frag}(e_:X.K=K)(bV:X.A.handled=some (.ref ea)):Z8 X (.builtin "sum") (zV K ea):=by
 subst e_;intro aK s σ H xs us Q I r h;obtain⟨p,ns,C,rfl,bT,fG,q⟩:=h;obtain⟨u,rfl,bO⟩:=YE r;cases bO;obtain⟨its,dC,pl,hz⟩:=I.list bT;obtain⟨⟨_,fQ⟩,_,_⟩:=(show ZP X.prog X.w H s.heap ea (gN ea C) from I.hok ea _ fG);have hi:=Ww dC;obtain⟨xs,aT⟩:=hi.allInts.items;have gA:s.heap.IsList p (intItems xs):=aT▸pl.isList;refine Zjl bV fQ gA λh' bL t' a5=>?_;have bw:ns=xs.toList.map (·.1):=by
  rw[←nums_intItems,←aT];exact(show numsOf its.toArray.toList=ns from hi.numsOf).symm
 have bC:preSum (numAt xs) xs.size=ns.sum:=by
  rw[preSum_eq,qaZ (by simp),bw]
 rw[bC];exact⟨.int ns.sum,H,I.kept a5,⟨_,rfl⟩,q⟩
end
structure nA(k:Nat)(A:Around)(ea:Addr):Prop where
 hd:A.handled=some (.ref ea)
 dp:A.depth+3*k+5<recursionLimit
 un:A.units+16*k+200<cLine
theorem e2.held{k:Nat}{A:Around}(r:e2 k A)(ea:Addr):nA k (A.mark (some (.ref ea))) ea:=⟨rfl,r.dp,r.un⟩
theorem nA.hu{k:Nat}{A:Around}{ea:Addr}(r:nA k A ea):HU A:=by have:=r.un;exact(show A.units+64<cLine by omega)
structure ZhE(P:Program)(w:World)(K:Frag)(mg:Str→Option Value)(base:Heap)(CX:CXT)(k:Nat)(f:Addr)(fd:FuncData)(ps:List Str)(sp:Addr→Sp):Prop where
 len:∀ea vs H Q E,sp ea vs H Q E→vs.length=ps.length
 run:∀(ea:Addr)(A:Around)(outer:List Env)(s:Shared)(H:Hp)(args:Args)(us:List Value)(vs:List V)(Q:VK)(E:XK),nA k A ea→U8 P w K mg base A outer s H→BindsTo s fd args (ps.zip us)→dm vs us→sp ea vs H Q E→
  codeAny (model P w) A (.call (.ref f) args) (CR CX outer P w H s Q E) s
noncomputable abbrev cxH (P:Program) (w:World) (K:Frag) (mg:Str→Option Value) (base:Heap) (N:List Str) (qual:Str) (scope:Scope) (f:Addr) (cd:Value) (A:Around) (outer:List Env) (s₀:Shared) (H₀:Hp) (E:XK):Cx:=
 {cxX P w K mg base N qual scope f cd A outer s₀ H₀ E with calm:=false}
section
variable {P:Program}{w:World}{K:Frag}{mg:Str→Option Value}{base:Heap}{N ps:List Str}{qual:Str}{scope:Scope}{f:Addr}{cd:Value}{A:Around}{outer:List Env}{s a7:Shared}{H:Hp}{E:XK}{us:List Value}{vs:List V}
theorem Zij(S:Zo N ps scope)(ej:U8 P w K mg base A outer s H)(aJ:vs.length=ps.length)(r:dm vs us)
  (x:InCallC s s.heap.objs.size (bindL (envOfC qual scope s.heap.objs.size f cd).kindOf (ps.zip us) λ_=>none) (cellsFrom (s.heap.objs.size+1) scope.names []) (bindC (envOfC qual scope s.heap.objs.size f cd).kindOf (ps.zip us) λ_=>none) a7):
  Inv (cxH P w K mg base N qual scope f cd A outer s H E) [] (start N vs) H a7:=by
 have bw:U8 P w K mg base {A with handled:=none} outer s H:=⟨ej.frames,ej.mod,ej.bs,ej.bsz,ej.funs,ej.frf,ej.hok,ej.bare⟩;have J:Inv (cxX P w K mg base N qual scope f cd {A with handled:=none} outer s H E) [] (start N vs) H a7:=Zee S rfl bw aJ r x;have o:=J.ok;exact⟨⟨o.mod,o.kind,o.glob,o.blt,o.above,o.inj,o.has,o.cab,λz=>absurd (show false=true from z) qag,Around.frames_deeper ej.frames,o.stk,o.exf,o.bs,o.bsz,o.noex,o.exfs,o.funs,o.frf⟩,J.os,J.bare,J.base,J.loc,J.cell,J.free,J.freeC,J.pin,J.hok,J.len⟩
theorem Fun.okH{x:Str}{st:Stmt}{fd:FuncData}{k:Nat}{sp:Addr→Sp}(F:Fun K x qual st f fd)(S:Zo N ps (dh st))(len:∀ea vs H Q E,sp ea vs H Q E→vs.length=ps.length)
  (m8:∀(ea:Addr)(di:Value)(A:Around)(outer:List Env)(s:Shared)(H:Hp)(vs:List V)(Q:VK)(E:XK),nA k (A.deeper (envOfC qual (dh st) s.heap.objs.size f di)) ea→sp ea vs H Q E→
   ∃t,PSs (cxH P w K mg base N qual (dh st) f di A outer s H E) (iV st) t∧t {nx:=λ_ H'=>Q .non H',rt:=Q} (start N vs) H):ZhE P w K mg base (CXX P w) (k+1) f fd ps sp:=by
 obtain⟨fM,eR,kV,fH,e3,an,di,ct,g_,rfl,lk,im⟩:=F.ex;refine⟨len,λea A outer s H args us vs Q E a3 ej aN r ip=>?_⟩;have aJ:=len _ _ _ _ _ ip;have e9:K.In s.heap:=ej.mod.kin.keeps λb o e=>(ej.bs b o e).1;have tZ:s.heap.NoLimit:=ej.mod.nolimit.keeps λb o e=>(ej.bs b o e).1;have ll:∀y∈ps.zip us,(dh st).names.lookup y.1=some .local∨((dh st).names.lookup y.1=some .cell∧((cellsFrom (s.heap.objs.size+1) (dh st).names []).lookup y.1).isSome=true):=λ⟨n,v⟩ bE=>by
  rcases S.par n (List.of_mem_zip bE).1 with q|q
  ·exact .inl q
  ·exact .inr ⟨q,cellsFrom_some _ _ _ (.inl q)⟩
 refine codeAny_call_function (by have:=a3.dp;omega) (e9 _ _ lk) rfl S.co S.gen rfl (codeRec_of e9 im) (aN _ _ _ _ ?_);refine wpAny_newFunctionEnv_cells S.kind ll λenv bD a7 x=>?_;subst bD;refine⟨tZ.keeps x.toInCall.keep,codeAny_func ?_⟩;have fU:nA k (A.deeper (envOfC qual (dh st) s.heap.objs.size f di)) ea:=⟨a3.hd,by have:=a3.dp;show A.depth+1+3*k+5<_;omega,by have:=a3.un;show A.units+3+16*k+200<_;omega⟩;obtain⟨t,ce,bT⟩:=m8 ea di A outer s H vs Q E fU ip;have I:Inv (cxH P w K mg base N qual (dh st) f di A outer s H E) [] (start N vs) H a7:=Zij S ej aJ r x;refine wpAny_mono (ce [] a7 (start N vs) H _ I bT) (λfl s' hs=>?_) λe s' hs=>hs;have eZ:∀{bN:St}{H':Hp}{v:V}{u:Value},Inv (cxH P w K mg base N qual (dh st) f di A outer s H E) [] bN H' s'→dq v u→Q v H'→CE outer P w H s Q u s':=
  λ{bN H' v u} J dC q=>⟨v,H',J.os,J.bare,J.base,J.hok,dC,q⟩
 cases fl with
 |ret u=>
  obtain⟨v,bN,H',J,dC,q⟩:=hs;exact eZ J dC q
 |next=>
  obtain⟨bN,H',J,q⟩:=hs;exact eZ (v:=V.non) (u:=Value.none) J rfl q
 |brk=>
  obtain⟨_,_,_,q⟩:=hs;exact False.elim q
 |cont=>
  obtain⟨_,_,_,q⟩:=hs;exact False.elim q
end
abbrev OkH{K:Frag}{mg:Str→Option Value}{nm q:Str}{st:Stmt}{ps:List Str}(P:Program)(w:World)(base:Heap)(k:Nat)(D:Dn K mg nm q st ps)(sp:Addr→Sp):Prop:=ZhE P w K mg base (CXX P w) k D.f D.d ps sp
section
variable {X:Cx}{CX:CXT}{j k:Nat}{ps:List Str}{sp:Addr→Sp}{E:XK}{x q:Str}{st:Stmt}{p pos:Pos}{e:Expr}{a':List Expr}{t:TA}{ea:Addr}
theorem zW(D:Dn X.K X.mg x q st ps)(F:ZhE X.prog X.w X.K X.mg X.base CX j D.f D.d ps sp)(a3:nA k X.A ea)(aT:YX CX X E)(bx:PA X (e::a') t)(bj:Nat.ble j k=true:=by rfl)(bc:Gl X x:=by rfl)
  (f':(x==("__debug__" :Str))=false:=by decide) (bD:starEach (e::a') X.env=(false,eval e X.env)::starEach a' X.env:=by rfl) (fN:(backTo pos (starEach a' X.env)).any (·.1)=false:=by rfl):
  PE X (.Call (.Name x p) (e::a') [] pos) (rC (sp ea) [] E t):=by
 intro aK s σ H Q I h;refine wpAny_Call_Name_kw (l3 I bc D.m ?_ f');refine callWith_K (h₀:=X.base) I.ok.mod.kin D.F.kp (thn (bx pos aK s σ H _ I h) λus a7 ⟨vs,aU,bB,r,q⟩=>⟨bB.kIn,?_⟩) bD fN;dsimp only at q;rw[qa8] at q;have aJ:us.length=ps.length:=by rw[←r.length];exact F.len _ _ _ _ _ q
 have aN:=D.b a7 us bB.kIn (by rw[qa8];exact aJ);rw[qa8] at aN;have qr:j≤k:=qaO bj;refine wpAny_call (codeAny_mono (F.run ea X.A X.stack a7 aU ⟨us,[]⟩ us vs Q E ⟨a3.hd,by have:=a3.dp;omega,by have:=a3.un;omega⟩ bB.env0 aN r q) λr s' bT=>?_);cases r with
 |error e=>exact aT aK σ aU a7 e s' bB bT
 |ok fl=>
  cases fl with
  |ret u=>exact bB.after bT
  |next=>exact False.elim bT
  |brk=>exact False.elim bT
  |cont=>exact False.elim bT
end
theorem Rd.kinds{K:Frag}{ea a C:Addr}{σ:St}{H:Hp}{bs:List Bool}{j:Nat}{ix:List Nat}{dg:TE}{R:VK}(pV:σ[j]? =some (some (.ref a)))(h:H a=some (.lst (bs.map V.bl)))(fG:H ea=some (gN ea C))(hz:bs.length<sizeLine)
  (bD:∀(b:Bool)(H':Hp)(dW:VK),dW (.int (if b then 1 else 0)) H'→dg (some (.bl b)::ix.map λj=>(σ[j]?).join) H' dW)
  (q:∀H',Ze H H'→R (.int ((bs.map λb=>if b then(1:Int) else 0).sum)) H'):pU ix (zU K ea (Zd6 j)) (VB 0) tAll dg σ H λx H'=>tNil σ H' λxs a4=>zV K ea (x::xs) a4 R:=by
 refine⟨.ref a,pV,a,rfl,⟨_,.of h⟩,?_⟩;refine YI (ix:=ix) (σ:=σ) (Go (.of h) fG) (by rw[GE];exact hz) (λ_=>true) (λi=> .int (if bs.getD i false then 1 else 0)) (λi H' dW hi bS k=>k H' (Ze.refl H')) (λi H' dW hi _ bS k=>?_) (λd a4 hd bS he=>?_)
 ·have el:i<bs.length:=by rw[GE] at hi;exact hi
  have dZ:(bs.map V.bl).getD i .non= .bl (bs.getD i false):=by simp[List.getD,el]
  rw[dZ];exact bD _ H' dW (k H' (Ze.refl H'))
 ·have hM:((List.range (bs.map V.bl).length).filter λ_=>true).map (λi=>V.int (if bs.getD i false then 1 else 0))=(bs.map λb=>if b then(1:Int) else 0).map V.int:=by
   rw[qaz.mpr λ_ _=>rfl];refine qay (by simp) λi aS a2=>?_;have bU:i<bs.length:=by simpa using a2
   simp[List.getD,bU]
  rw[hM] at he;exact⟨d,_,C,rfl,.of he,bS _ _ fG,q a4 bS⟩
section
variable {X:Cx}{CX:CXT}{j k:Nat}{C:Addr}{ps:List Str}{sp:Sp}{E:XK}{x q:Str}{st:Stmt}{p pos:Pos}{e:Expr}{a':List Expr}{t:TA}{J:St→Prop}
theorem Gq(D:Di X.K C q st ps)(F:Ys X.prog X.w X.K X.mg X.base CX j D.f D.d ps sp)(a3:e2 (k+1) X.A)(bo:X.mg x=some (.ref C))(aT:Zae CX X J E)(bx:PA X (e::a') t)(bj:Nat.ble j k=true:=by rfl)(bc:Gl X x:=by rfl)
  (f':(x==("__debug__" :Str))=false:=by decide) (bD:starEach (e::a') X.env=(false,eval e X.env)::starEach a' X.env:=by rfl) (fN:(backTo pos (starEach a' X.env)).any (·.1)=false:=by rfl):
  PE X (.Call (.Name x p) (e::a') [] pos) (Zfr J C sp [] E t):=by
 intro aK s σ H Q I h;obtain⟨lu,h⟩:=h;have zX:=F.mono (qaO bj);refine wpAny_Call_Name_kw (l3 I bc bo ?_ f');refine callWith_K (h₀:=X.base) I.ok.mod.kin D.M.kp (thn (bx pos aK s σ H _ I h) λus a7 ⟨vs,aU,bB,r,h⟩=>⟨bB.kIn,?_⟩) bD fN;have bT:=h (a7.heap.objs.size+1) a7.heap.objs.size (bB.hok.fresh (qb2 _)) (bB.hok.fresh (fm _)) (qai (qa9 _));have ds:=Inv.made (C:=C) bB;have dO:dm (V.ref (a7.heap.objs.size+1)::(vs++ [])) (Value.ref (a7.heap.objs.size+1)::(us++ [])):= .cons rfl (r.append .nil);have aJ:(Value.ref (a7.heap.objs.size+1)::us++ []).length=ps.length:=by
  have e:=dO.length;rw[zX.len _ _ _ _ bT] at e;exact e.symm
 have aN:=D.b {a7 with heap:=(a7.heap.push emptyDict).push (instObj C a7.heap.objs.size)} (Value.ref (a7.heap.objs.size+1)::us) ds.kIn aJ;rw[List.cons_append] at aN;refine wpAny_call (yl (f:=D.f) bB.kIn D.M.makes D.M.init (beq_iff_eq.mp D.M.fn) (codeAny_mono (zX.run _ X.stack _ _ ⟨Value.ref (a7.heap.objs.size+1)::us,[]⟩ (Value.ref (a7.heap.objs.size+1)::(us++ [])) _ _ E (a3.make C us [])
  (ds.env0.make C us []) aN dO bT) λr s' j5=>?_))
 cases r with
 |error e=>exact aT aK σ _ _ e s' lu ds j5
 |ok fl=>
  cases fl with
  |ret u=>
   obtain⟨v,H',en,dC,dZ,f9⟩:=ds.after j5;subst dZ;exact⟨dC,⟨V.ref (a7.heap.objs.size+1),H',en,rfl,f9⟩⟩
  |next=>exact False.elim j5
  |brk=>exact False.elim j5
  |cont=>exact False.elim j5
end
end L2
namespace My
@[irreducible] noncomputable def G (a b:Int):Int:=((Int.gcd a b:Nat):Int)
theorem Ze8(n m:Nat):G (n:Int) (m:Int)=((Nat.gcd n m:Nat):Int):=by
 unfold G
 rfl
theorem ZmQ{a b:Int}(bx:0≤a)(aN:b=0):G a b=a:=by
 subst aN;obtain⟨n,rfl⟩:=qaJ bx;have:=Ze8 n 0;rw[Nat.gcd_zero_right] at this;exact this
theorem Znx{a b:Int}(bx:0≤a)(aN:0<b):G b (Int.fmod a b)=G a b:=by
 obtain⟨n,rfl⟩:=qaJ bx;obtain⟨m,rfl⟩:=qaJ (Int.le_of_lt aN);rw[qb1 _ (qaS m),←Int.natCast_emod,Ze8,Ze8,Nat.gcd_comm n m,Nat.gcd_rec m n,Nat.gcd_comm]
structure S(k:Nat)(x:Int):Prop where
 lo:0≤x
 hi:x.toNat<2 ^ (2048*2 ^ k)
theorem Gr{j k:Nat}(h:j≤k):2 ^ (2048*2 ^ j)≤2 ^ (2048*2 ^ k):=
 qaA (by decide) (qb6 _ (qaA (by decide) h))
theorem S.mono{j k:Nat}{x:Int}(h:S j x)(bj:j≤k):S k x:=⟨h.lo,qaf h.hi (Gr bj)⟩
end My
namespace Fo
noncomputable abbrev Trip:=Int×Int×Bool
noncomputable abbrev ZH:=List (Int×Option Trip)
noncomputable def keys (bn:ZH):List Int:=bn.map (·.1)
theorem UY(bn:ZH)(w:Int)(s:Option Trip):keys (bn++ [(w,s)])=keys bn++ [w]:=by simp[keys]
theorem Wx{bn:ZH}{i:Nat}{w:Int}{s:Option Trip}(h:bn[i]? =some (w,s)):w∈keys bn:=qah.mpr ⟨(w,s),qal h,rfl⟩
theorem VI{bn:ZH}{w:Int}(h:w∈keys bn):∃(i:Nat)(s:Option Trip),bn[i]? =some (w,s):=by
 obtain⟨⟨dY,s⟩,bo,rfl⟩:=qah.mp h;obtain⟨i,hi⟩:=qa6 bo;exact⟨i,s,hi⟩
structure Z1(es:Int→List Trip)(first:Int)(bn:ZH):Prop where
 head:bn[0]? =some (first,none)
 nodup:(keys bn).Nodup
 steps:∀(i:Nat)(w p b:Int)(al:Bool),bn[i]? =some (w,some (p,b,al))→(w,b,al)∈es p∧∃(j:Nat)(s:Option Trip),j<i∧bn[j]? =some (p,s)
 only:∀(i:Nat)(w:Int),bn[i]? =some (w,none)→i=0
def Ug(es:Int→List Trip)(bn:ZH)(d:Nat):Prop:=∀(j:Nat)(w:Int)(s:Option Trip),j<d→bn[j]? =some (w,s)→∀t∈es w,t.1∈keys bn
section
variable {es:Int→List Trip}{first:Int}{bn:ZH}
theorem ZjC:Z1 es first [(first,none)]:=by
 refine⟨rfl,by simp[keys],λi w p b al h=>?_,λi w h=>?_⟩
 ·cases i with
  |zero=>simp at h
  |succ i=>simp at h
 ·cases i with
  |zero=>rfl
  |succ i=>simp at h
theorem Zd7{bn:ZH}{x y:Int×Option Trip}{i:Nat}(h:(bn++ [x])[i]? =some y):bn[i]? =some y∨(i=bn.length∧y=x):=by
 rcases qbw i bn.length with c|c
 ·rw[qaW c] at h;exact .inl h
 ·rw[qaV c] at h;have:i-bn.length=0:=by
   rcases qbj (i-bn.length) with z|z
   ·exact z
   ·rw[qaP (by simp;omega)] at h;cases h
  rw[this] at h;simp at h;exact .inr ⟨by omega,h.symm⟩
theorem ZbO{bn:ZH}{x y:Int×Option Trip}{i:Nat}(h:bn[i]? =some y):(bn++ [x])[i]? =some y:=by
 rw[qaW (GM.mp h).1];exact h
theorem Z1.snoc(g:Z1 es first bn){w p b:Int}{al:Bool}{j:Nat}{s:Option Trip}(bb:bn[j]? =some (p,s))(hw:(w,b,al)∈es p)(bF:w∉keys bn):Z1 es first (bn++ [(w,some (p,b,al))]):=by
 have bj:=(GM.mp bb).1;refine⟨ZbO g.head,?_,λi dY fc ln sc h=>?_,λi dY h=>?_⟩
 ·rw[UY];refine qa4.mpr ⟨g.nodup,by simp,λx aT y bE=>?_⟩;rw[FM.mp bE];intro e;exact bF (e▸aT)
 ·rcases Zd7 h with z|⟨rfl,z⟩
  ·obtain⟨aS,p9,s',a2,bU⟩:=g.steps i dY fc ln sc z;exact⟨aS,p9,s',a2,ZbO bU⟩
  ·cases z;exact⟨hw,j,s,bj,ZbO bb⟩
 ·rcases Zd7 h with z|⟨rfl,z⟩
  ·exact g.only i dY z
  ·cases z
theorem Ug.snoc{d:Nat}(h:Ug es bn d)(hd:d≤bn.length)(w:Int)(s:Option Trip):Ug es (bn++ [(w,s)]) d:=λj dY s' bj e t ce=>by
 rw[UY];refine qa5 _ ?_;rcases Zd7 e with z|⟨rfl,_⟩
 ·exact h j dY s' bj z t ce
 ·omega
theorem Ug.next{d:Nat}{w:Int}{s:Option Trip}(h:Ug es bn d)(e:bn[d]? =some (w,s))(all:∀t∈es w,t.1∈keys bn):Ug es bn (d+1):=λj dY s' bj b1 t ce=>by
 rcases qbg.mp bj with z|rfl
 ·exact h j dY s' z b1 t ce
 ·rw[e] at b1;cases b1;exact all t ce
inductive Va(es:Int→List Trip)(a:Int):Int→Prop
 |refl:Va es a a
 |step {b c:Int} {t:Int} {al:Bool}:Va es a b→(c,t,al)∈es b→Va es a c
theorem Va.trans{a b c:Int}(h:Va es a b)(k:Va es b c):Va es a c:=by
 induction k with
 |refl=>exact h
 |step _ e bP=>exact .step bP e
def ZkE(es:Int→List Trip):Prop:=∀(a b t:Int)(al:Bool),(b,t,al)∈es a→(a,t,!al)∈es b
theorem Va.symm(aN:ZkE es){a b:Int}(h:Va es a b):Va es b a:=by
 induction h with
 |refl=>exact .refl
 |step _ e bP=>exact(Va.step .refl (aN _ _ _ _ e)).trans bP
theorem Z1.hang(g:Z1 es first bn):∀(i:Nat)(w:Int)(s:Option Trip),bn[i]? =some (w,s)→Va es first w:=by
 intro i
 induction i using Nat.strongRecOn with
 |_ i bP=>
  intro w s h;cases s with
  |none=>
   have:=g.only i w h;subst this;rw[g.head] at h;cases h;exact .refl
  |some x=>
   obtain⟨p,b,al⟩:=x;obtain⟨aS,j,s',a2,bU⟩:=g.steps i w p b al h;exact .step (bP j a2 p s' bU) aS
theorem Z1.keys_iff(g:Z1 es first bn)(c:Ug es bn bn.length)(w:Int):w∈keys bn↔Va es first w:=by
 constructor
 ·intro h;obtain⟨i,s,hi⟩:=VI h;exact g.hang i w s hi
 ·intro h
  induction h with
  |refl=>exact Wx g.head
  |step _ e bP=>
   obtain⟨i,s,hi⟩:=VI bP;exact c i _ s (GM.mp hi).1 hi _ e
theorem Z1.rg(g:Z1 es first bn){n:Int}(de:0≤first∧first<n)(hw:∀a,∀t∈es a,0≤t.1∧t.1<n):∀w∈keys bn,0≤w∧w<n:=by
 intro w h;obtain⟨i,s,hi⟩:=VI h;have:=g.hang i w s hi;cases this with
 |refl=>exact de
 |step _ e=>exact hw _ _ e
theorem UR{cx:List Int}{n:Nat}(nd:cx.Nodup)(h:∀w∈cx,0≤w∧w<(n:Int)):cx.length≤n:=by
 have aS:=nd.length_le_of_subset (l₂:=(List.range n).map λi:Nat=>(i:Int)) (λw hw=>by
  obtain⟨a,b⟩:=h w hw;exact qah.mpr ⟨w.toNat,qao.mpr (by omega),by omega⟩)
 simpa using aS
end
structure WQ(es:Int→List Trip)(n:Nat)(F:List (Int×ZH))(i:Nat):Prop where
 tree:∀x∈F,Z1 es x.1 x.2∧Ug es x.2 x.2.length∧0≤x.1∧x.1<(i:Int)
 all:∀w:Int,0≤w→w<(i:Int)→∃x∈F,w∈keys x.2
 rise:F.Pairwise λx y=>x.1<y.1
 least:∀x∈F,∀w∈keys x.2,x.1≤w
section
variable {es:Int→List Trip}{n i:Nat}{F:List (Int×ZH)}
theorem Zkn:WQ es n [] 0:=⟨by simp,λw de aS=>by omega,.nil,by simp⟩
theorem WQ.skip(h:WQ es n F i)(hi:∃x∈F,(i:Int)∈keys x.2):WQ es n F (i+1):=
 ⟨λx aT=>by obtain⟨a,b,c,d⟩:=h.tree x aT;exact⟨a,b,c,by omega⟩,λw de aS=>by
  by_cases e:w=(i:Int)
  ·rw[e];exact hi
  ·exact h.all w de (by omega),h.rise,h.least⟩
theorem WQ.grow(aN:ZkE es)(hw:∀a,∀t∈es a,0≤t.1∧t.1<(n:Int))(fe:i<n)(h:WQ es n F i)(hi:∀x∈F,(i:Int)∉keys x.2){bn:ZH}(g:Z1 es i bn)(c:Ug es bn bn.length):WQ es n (F++ [((i:Int),bn)]) (i+1):=by
 refine⟨λx aT=>?_,λw de aS=>?_,List.pairwise_append.mpr ⟨h.rise,by simp,λx aT y bE=>?_⟩,λx aT=>?_⟩
 ·rcases qax.mp aT with z|z
  ·obtain⟨a,b,c,d⟩:=h.tree x z;exact⟨a,b,c,by omega⟩
  ·rw[FM.mp z];exact⟨g,c,by simp,by simp;omega⟩
 ·by_cases e:w=(i:Int)
  ·exact⟨_,qar _ (FM.mpr rfl),by rw[e];exact Wx g.head⟩
  ·obtain⟨x,aT,a5⟩:=h.all w de (by omega);exact⟨x,qa5 _ aT,a5⟩
 ·rw[FM.mp bE];exact(h.tree x aT).2.2.2
 ·rcases qax.mp aT with z|z
  ·exact h.least x z
  ·rw[FM.mp z];intro w a5;rcases Int.lt_or_le w (i:Int) with y|y
   ·exfalso;have a3:=g.rg ⟨by omega,by omega⟩ hw w a5;obtain⟨iF,js,nn⟩:=h.all w a3.1 y;obtain⟨g',eg,_,_⟩:=h.tree iF js;have aS:=(g'.keys_iff eg w).mp nn;have a2:=((g.keys_iff c w).mp a5).symm aN;exact hi iF js ((g'.keys_iff eg _).mpr (aS.trans a2))
   ·exact y
end
end Fo
namespace Fire
noncomputable def bump (c:Nat→Nat) (w:Nat):Nat→Nat:=λv=>if v=w then c v+1 else c v
theorem UV(c:Nat→Nat)(w:Nat):bump c w w=c w+1:=by simp[bump]
theorem VL(c:Nat→Nat){v w:Nat}(h:v≠w):bump c w v=c v:=by simp[bump,h]
inductive Y1(R:(Nat→Nat)→Nat→Prop):(Nat→Nat)→List Nat→(Nat→Nat)→Prop
 |nil (c:Nat→Nat):Y1 R c [] c
 |cons {c d:Nat→Nat} {w:Nat} {bW:List Nat}:R c w→Y1 R (bump c w) bW d→Y1 R c (w::bW) d
variable {R:(Nat→Nat)→Nat→Prop}
theorem Y1.app{c d e:Nat→Nat}{bW zY:List Nat}(h:Y1 R c bW d)(h':Y1 R d zY e):Y1 R c (bW++zY) e:=by
 induction h with
 |nil c=>exact h'
 |cons r _ bP=>exact .cons r (bP h')
theorem Y1.snoc{c d:Nat→Nat}{bW:List Nat}{w:Nat}(h:Y1 R c bW d)(r:R d w):Y1 R c (bW++ [w]) (bump d w):=h.app (.cons r (.nil _))
structure Belt where
 giver:Nat
 taker:Nat
 give:Int
 take:Int
 start:Int
noncomputable def lie (b:Belt) (c:Nat→Nat):Int:=b.start+b.give*(c b.giver:Int)-b.take*(c b.taker:Int)
def Zou(bs:List Belt)(c:Nat→Nat)(w:Nat):Prop:=∀b∈bs,b.taker=w→b.take≤lie b c
def May(bs:List Belt)(n:Nat)(Gs:Nat→Nat)(c:Nat→Nat)(w:Nat):Prop:=w<n∧c w<Gs w∧Zou bs c w
end Fire
set_option Elab.async false
set_option linter.all false
set_option maxRecDepth 100000
set_option maxHeartbeats 4000000
local macro_rules| `(tactic|omega)=>`(tactic|with_reducible first|exact qaS _|exact L2.oA (by assumption) (by assumption)|exact L2.oB (by assumption) (by assumption) rfl|exact L2.oC (by assumption) (by assumption) rfl|exact L2.oD (by assumption) rfl|exact L2.oE (by assumption) (by assumption)|exact L2.oF (by assumption)|lia|fail)
local macro_rules| `(tactic|walk_at "mul")=>`(tactic|k_dflt (first|with_reducible assumption|exact L2.Zhu.ok (Or.inr ⟨by omega,by omega⟩)|exact L2.Zhu.ok (Or.inl ⟨by omega,by omega⟩)))
local macro_rules| `(tactic|walk_at "lk")=>`(tactic|first|exact L2.Rd.lk0|exact L2.Rd.lkN|(refine L2.Rd.lk1 (by decide+kernel) ?_;walk_at "lk"))
local macro_rules| `(tactic|walk_at "pf")=>`(tactic|first|exact L2.Rd.pfN|(apply L2.Rd.pf1;(decide+kernel);walk_at "pf"))
local macro_rules| `(tactic|walk_at "na")=>`(tactic|exact L2.W8.get (by with_reducible assumption) (by decide+kernel))
local macro_rules| `(tactic|walk_at "cond")=>`(tactic|k_dflt (first|with_reducible assumption|decide|omega|(simp;done)|(simp only[List.length_cons,List.length_nil,GE,qap];omega)))
local macro_rules| `(tactic|walk_at "rdis")=>`(tactic|((with_reducible show ∃x n t b,_=_∧L2.Wv _ _ x t∧_);first|with_reducible apply L2.Rd.Zhy|with_reducible apply L2.Rd.ZgJ|with_reducible apply L2.Rd.is_int_str|with_reducible apply L2.Rd.is_int_list|with_reducible apply L2.Rd.is_int_tuple|with_reducible apply L2.Rd.is_int_dict|with_reducible apply L2.Rd.is_bl_int|with_reducible apply L2.Rd.is_bl_bool|with_reducible apply L2.Rd.is_bl_str|with_reducible apply L2.Rd.is_bl_list|with_reducible apply L2.Rd.is_bl_tuple|with_reducible apply L2.Rd.is_bl_dict|with_reducible apply L2.Rd.is_str_int|with_reducible apply L2.Rd.is_str_bool|with_reducible apply L2.Rd.ZhD|with_reducible apply L2.Rd.is_str_list|with_reducible apply L2.Rd.is_str_tuple|with_reducible apply L2.Rd.is_str_dict|with_reducible apply L2.Rd.is_non_int|with_reducible apply L2.Rd.is_non_bool|with_reducible apply L2.Rd.is_non_str|with_reducible apply L2.Rd.is_non_list|with_reducible apply L2.Rd.is_non_tuple|with_reducible apply L2.Rd.is_non_dict|with_reducible refine L2.Rd.is_lst_int (by with_reducible assumption) ?_|with_reducible refine L2.Rd.is_lst_bool (by with_reducible assumption) ?_|with_reducible refine L2.Rd.is_lst_str (by with_reducible assumption) ?_|with_reducible refine L2.Rd.is_lst_list (by with_reducible assumption) ?_|with_reducible refine L2.Rd.is_lst_tuple (by with_reducible assumption) ?_|with_reducible refine L2.Rd.is_lst_dict (by with_reducible assumption) ?_|with_reducible refine L2.Rd.is_tup_int (by with_reducible assumption) ?_|with_reducible refine L2.Rd.is_tup_bool (by with_reducible assumption) ?_|with_reducible refine L2.Rd.is_tup_str (by with_reducible assumption) ?_|with_reducible refine L2.Rd.is_tup_list (by with_reducible assumption) ?_|with_reducible refine L2.Rd.is_tup_tuple (by with_reducible assumption) ?_|with_reducible refine L2.Rd.is_tup_dict (by with_reducible assumption) ?_|with_reducible refine L2.Rd.is_dK_int (by with_reducible assumption) ?_|with_reducible refine L2.Rd.is_dK_bool (by with_reducible assumption) ?_|with_reducible refine L2.Rd.is_dK_str (by with_reducible assumption) ?_|with_reducible refine L2.Rd.is_dK_list (by with_reducible assumption) ?_|with_reducible refine L2.Rd.is_dK_tuple (by with_reducible assumption) ?_|with_reducible refine L2.Rd.is_dK_dict (by with_reducible assumption) ?_))
local macro_rules| `(tactic|walk_at "side")=>`(tactic|k_dflt (first|with_reducible assumption|decide|(dsimp only;decide)|(dsimp only[L2.ZmB];decide)|omega|(dsimp only;omega)))
local macro_rules| `(tactic|walk_at "hp")=>`(tactic|with_reducible (first|assumption|((show L2.SqL _ _ _ _);(first|exact L2.SqL.of (by assumption)|exact L2.OffL.sq (by assumption)|exact L2.Ze.seq (by assumption) (by assumption)))|((show L2.SqT _ _ _ _);(first|exact L2.SqT.of (by assumption)|exact L2.OffT.sq (by assumption)|exact L2.Ze.seqT (by assumption) (by assumption)))))
local macro_rules| `(tactic|walk_at "rd")=>`(tactic|first|with_reducible (first|apply L2.Rd.seq|apply L2.Rd.asg|apply L2.Rd.ret|apply L2.Rd.ifs|apply L2.Rd.next|apply L2.Rd.drop|apply L2.Rd.op|apply L2.Rd.un|apply L2.Rd.ZoB|apply L2.Rd.con|(show L2.Zd6 _ _ _ _;refine L2.Rd.var (by k_dflt rfl) ?_)|(show L2.VB _ _ _ _ _;refine L2.Rd.ZnZ (by k_dflt (dsimp only[L2.start,List.map_cons,List.map_nil,List.cons_append,List.nil_append,List.length_cons,List.length_nil,Nat.reduceAdd,Nat.reduceSub,List.replicate,List.set];(try rfl))) ?_)|apply L2.Rd.call|apply L2.Rd.cons|apply L2.Rd.nil|apply L2.Rd.cb|apply L2.Rd.tup|apply L2.Rd.lst|apply L2.Rd.Zpl|apply L2.Rd.or_|apply L2.Rd.ZoF|apply L2.Rd.ZoY|apply L2.Rd.Zo4|apply L2.Rd.i0|(show L2.rI _ _ _ _ _ _;refine L2.Rd.iC (by walk_at "side") ?_)|apply L2.Rd.bl|apply L2.Rd.Zpa|(show L2.rOr L2.ZhC _ _ _ _ _;refine L2.Rd.ZoQ (by walk_at "mul") ?_)|apply L2.Rd.ZoR|apply L2.Rd.Zo1|(show L2.rIx _ _ _ _ _;refine L2.Rd.Zpi (by walk_at "hp") (by k_dflt rfl) ?_)|(show L2.rIx _ _ _ _ _;refine L2.Rd.Znl (by walk_at "hp") (by k_dflt (first|rfl|with_reducible assumption)) ?_)|apply L2.Rd.un1|(show ∃a,L2.V.ref _=L2.V.ref a∧(∃xs,L2.SqL _ _ a xs)∧_;refine L2.Rd.ZmA (by walk_at "hp") ?_)|(show ∃k,[L2.V.int _]=[L2.V.int k]∧_;refine L2.Rd.ZnQ (by k_dflt omega) (by k_dflt omega) ?_)|apply L2.Rd.Zox|(show ∃x n,_=_∧L2.ZcJ _ x _ n∧_;refine L2.Rd.ZoX (by walk_at "hp") ?_)|(show ∃x n,_=_∧L2.ZcJ _ x _ n∧_;refine L2.Rd.lenS (by walk_at "side") ?_))|walk_at "rdis" |with_reducible (first|apply L2.Rd.ZoW|apply L2.Rd.tru|apply L2.Rd.Zpe|apply L2.Rd.ZoH|apply L2.Rd.ZoI|apply L2.Rd.bm|apply L2.Rd.bm0|(show L2.tyV _ _ _ _∧_;refine L2.Rd.tyl (by with_reducible assumption) ?_)|(show L2.rAppend _ _ _ _;refine L2.Rd.app (by with_reducible assumption) (by walk_at "side") ?_)|apply L2.ZdB|apply L2.ZdH|apply L2.Rd.ZlA|apply L2.Rd.Zlx|(show if decide _=true then _ else _;refine L2.Rd.ifP (by walk_at "cond") ?_)|(show if decide _=true then _ else _;refine L2.Rd.ifN (by walk_at "cond") ?_)|(show if(!decide _)=true then _ else _;refine L2.Rd.Zpc (by walk_at "cond") ?_)|(show if(!decide _)=true then _ else _;refine L2.Rd.ZoD (by walk_at "cond") ?_)|apply L2.Rd.sl|apply L2.Rd.ZnG|apply L2.Rd.Zpm|apply L2.Rd.Zn3|(show L2.ZdO _ _ _ _ _ _;refine L2.Rd.slS (by walk_at "side") ?_)|apply L2.Rd.Zpk|(show ∃a C a_ fs v,L2.V.ref _=L2.V.ref a∧_=some (L2.HO.ins C a_ fs)∧L2.Cls _ C∧_;refine L2.Rd.fld (by with_reducible assumption) (by with_reducible assumption) (by k_dflt (walk_at "na")) (by k_dflt (walk_at "lk")) ?_)|(show L2.Zdg _ _ _ _ _ _ _ _ _ _ _;refine L2.Rd.Zos (by k_dflt rfl) ?_)|(show L2.Zfr _ _ _ _ _ _ _ _ _;refine L2.Rd.Zol (by k_dflt rfl) ?_)|apply L2.Rd.Zph|(show L2.rSetL _ _ _ _ _;refine L2.Rd.ZoO (by with_reducible assumption) (by k_dflt omega) (by walk_at "cond") ?_)|apply L2.Rd.Zn6|apply L2.Rd.ZnX|apply L2.Rd.ZoA|(show ∃a C a_ fs,L2.V.ref _=L2.V.ref a∧_=some (L2.HO.ins C a_ fs)∧L2.Cls _ C∧_;refine L2.Rd.Zom (by with_reducible (first|assumption|exact L2.Zd)) (by with_reducible assumption) (by k_dflt (walk_at "na")) (by k_dflt (simp only[List.length_cons,List.length_nil];decide)) (by k_dflt (walk_at "pf")) ?_)|apply L2.Rd.raise|apply L2.Rd.Zm0|apply L2.Rd.Zoo|apply L2.Rd.ZoP|apply L2.Rd.Zof|apply L2.Rd.ZoL|apply L2.Rd.Zoj|(show L2.rIn _ _ _ _ _ _;refine L2.Rd.inI (by walk_at "hp") ?_)|(show ∃p bs,[L2.V.ref _]=[L2.V.ref p]∧L2.SqL _ _ p (List.map L2.V.bl bs)∧_;refine L2.Rd.ZoZ (by walk_at "hp") ?_)|apply L2.Rd.leS|apply L2.Rd.Zoc)|((with_reducible show if(!(_==_))=true then _ else _);first|refine L2.Rd.ZlA ?_|refine L2.Rd.Zlx ?_)|((with_reducible show if(_==_)=true then _ else _);first|refine L2.ZdB ?_|refine L2.ZdH ?_)|with_reducible (first|apply L2.Rd.Zno|apply L2.Rd.Zn0|(show ∃a,_=_∧(∃xs,L2.SqL _ _ a xs)∧_;refine L2.Rd.ZmO (by walk_at "hp") ?_)|apply L2.Rd.Zpd)|((with_reducible show L2.rDIn _ _ _ _);first|with_reducible refine L2.Rd.ZoN (by with_reducible assumption) ?_|with_reducible refine L2.Rd.dinI (by with_reducible assumption) ?_)|((with_reducible show L2.rDNotIn _ _ _ _);first|with_reducible refine L2.Rd.dninS (by with_reducible assumption) ?_|with_reducible refine L2.Rd.Zoi (by with_reducible assumption) ?_)|((with_reducible show L2.rIxD _ _ _ _);first|with_reducible refine L2.Rd.dgetS (by with_reducible assumption) (by with_reducible assumption) ?_|with_reducible refine L2.Rd.Zlk (by with_reducible assumption) (by with_reducible assumption) ?_)|((with_reducible show L2.rSetD _ _ _ _ _);first|with_reducible refine L2.Rd.Zn8 (by with_reducible assumption) (by walk_at "side") ?_|with_reducible refine L2.Rd.ZnY (by with_reducible assumption) (by walk_at "side") ?_)|with_reducible (first|(show L2.rLenD _ _ _;refine L2.Rd.ZoU (by with_reducible assumption) ?_)|(show L2.rListD _ _ _;refine L2.Rd.ZnT (by with_reducible assumption) ?_)|apply L2.Rd.ZoV|apply L2.Rd.ipi|(show L2.Zd0 _ _ _ _ _;refine L2.Rd.ixl (by walk_at "hp") (by k_dflt (first|rfl|with_reducible assumption)) ?_)|apply L2.Rd.Zpf|apply L2.Rd.ZoS|apply L2.Rd.Zpb|apply L2.Rd.ZnP))
local macro_rules| `(tactic|walk_at "rds")=>`(tactic|repeat' (walk_at "rd"))
namespace Nm
open PySem L2
noncomputable def top (i:Nat):Stmt:=PySem.Challenge.pw_ratehall_k25_groups_refused.main.body.getD i (.Pass ⟨0,0,0,0⟩)
noncomputable abbrev zZ:Stmt:=top 63
noncomputable abbrev z0:Stmt:=top 66
noncomputable abbrev vk:Stmt:=top 16
noncomputable abbrev z1:Stmt:=Yx (top 28) 1
noncomputable abbrev z2:Stmt:=top 22
noncomputable abbrev z3:Stmt:=top 23
noncomputable abbrev z4:Stmt:=top 30
noncomputable abbrev z5:Stmt:=top 24
noncomputable abbrev z6:Stmt:=Yx (top 28) 11
noncomputable abbrev z7:Stmt:=Yx (top 28) 3
noncomputable abbrev z8:Stmt:=Yx (top 28) 2
noncomputable abbrev z9:Stmt:=Yx (top 28) 0
noncomputable abbrev z_:Stmt:=top 65
noncomputable abbrev vl:Stmt:=top 64
noncomputable abbrev z':Stmt:=top 56
noncomputable abbrev Aa:Stmt:=top 18
noncomputable abbrev Ab:Stmt:=top 57
noncomputable abbrev Ac:Stmt:=top 29
noncomputable abbrev Ad:Stmt:=Yx (top 28) 5
noncomputable abbrev Ae:Stmt:=Yx (top 28) 7
noncomputable abbrev vm:Stmt:=top 59
noncomputable abbrev vn:Stmt:=top 51
noncomputable abbrev vo:Stmt:=top 34
noncomputable abbrev vp:Stmt:=Yx (top 52) 2
noncomputable abbrev vq:Stmt:=Yx (top 28) 9
noncomputable abbrev Af:Stmt:=Yx (top 28) 12
noncomputable abbrev Ag:Stmt:=Yx (top 28) 8
noncomputable abbrev vr:Stmt:=top 32
noncomputable abbrev vt:Stmt:=Yx (top 28) 10
noncomputable abbrev vu:Stmt:=top 33
noncomputable abbrev vv:Stmt:=top 53
noncomputable abbrev qs:Stmt:=Yx (top 52) 0
noncomputable abbrev vw:Stmt:=top 58
noncomputable abbrev Ah:Stmt:=top 61
noncomputable abbrev vx:Stmt:=top 37
noncomputable abbrev Ai:Stmt:=top 38
noncomputable abbrev Aj:Stmt:=top 36
noncomputable abbrev Ak:Stmt:=top 20
noncomputable abbrev Al:Stmt:=top 21
noncomputable abbrev Am:Stmt:=top 45
noncomputable abbrev An:Stmt:=top 44
noncomputable abbrev Ao:Stmt:=top 19
noncomputable abbrev vy:Stmt:=top 43
noncomputable abbrev vz:Stmt:=top 41
noncomputable abbrev Ap:Stmt:=top 39
noncomputable abbrev Aq:Stmt:=top 47
noncomputable abbrev sd:Stmt:=top 46
noncomputable abbrev Ar:Stmt:=top 42
noncomputable abbrev As:Stmt:=top 50
noncomputable abbrev At:Stmt:=top 60
noncomputable abbrev se:Stmt:=Yx (top 55) 0
noncomputable abbrev Au:Stmt:=top 68
noncomputable abbrev Av:Stmt:=Yx (top 55) 4
noncomputable abbrev Aw:Stmt:=top 69
noncomputable abbrev Ax:Stmt:=top 67
noncomputable abbrev Ay:Stmt:=top 70
theorem vA:Zo ["_law_script","_law_k","_law_lap","_law_cell"] ["_law_script","_law_k"] (dh zZ):=scI
theorem nB:Zo ["_law_script","_law_works","_law_group","_law_k","_law_mix","_law_work"] ["_law_script","_law_works"] (dh z0):=scI
theorem Gu:Zo ["thing"] ["thing"] (dh vk):=scI
theorem Az:Zo ["self","name","number"] ["self","name"] (dh z1):=scI
theorem Gv:Zo ["thing"] ["thing"] (dh z2):=scI
theorem Gw:Zo ["thing","least"] ["thing","least"] (dh z3):=scI
theorem Gx:Zo ["start"] ["start"] (dh z4):=scI
theorem Gy:Zo ["thing","bound"] ["thing","bound"] (dh z5):=scI
theorem Gz:Zo ["self","work"] ["self","work"] (dh z6):=scI
theorem GA:Zo ["self","row"] ["self","row"] (dh z7):=scI
theorem GB:Zo ["self","giver","taker","give","take","start"] ["self","giver","taker","give","take","start"] (dh z8):=scI
theorem GC:Zo ["self"] ["self"] (dh z9):=scI
theorem sf:Zo ["_law_many","_law_unlike","_law_far","_law_stuck","_law_hall","_law_work"] ["_law_many","_law_unlike","_law_far","_law_stuck"] (dh z_):=scI
theorem vB:Zo ["_law_e","_law_some"] ["_law_e"] (dh vl):=scI
theorem AA:Zo ["hall","group","work"] ["hall","group"] (dh z'):=scI
theorem sg:Zo ["one","other","rest"] ["one","other"] (dh Aa):=scI
theorem oN:Zo ["rates","members","common","member","turns"] ["rates","members"] (dh Ab):=scI
theorem sh:Zo ["names","rows","hall","name","row"] ["names","rows"] (dh Ac):=scI
theorem GD:Zo ["self"] ["self"] (dh Ad):=scI
theorem GF:Zo ["self"] ["self"] (dh Ae):=scI
theorem si:Zo ["hall","members","names","rows","row"] ["hall","members"] (dh vm):=scI
theorem GG:Zo ["hall"] ["hall"] (dh vn):=scI
theorem GH:Zo ["heaps","takes"] ["heaps","takes"] (dh vo):=scI
theorem kd:Zo ["self","starts","heaps","left","able","row","work","belt","take","give","other"] ["self","starts"] (dh vp):=scI
theorem GI:Zo ["self","work"] ["self","work"] (dh vq):=scI
theorem GJ:Zo ["self","belt"] ["self","belt"] (dh Af):=scI
theorem GK:Zo ["self","belt"] ["self","belt"] (dh Ag):=scI
theorem GL:Zo ["hall","work"] ["hall","work"] (dh vr):=scI
theorem GN:Zo ["self","work"] ["self","work"] (dh vt):=scI
theorem GO:Zo ["hall","work"] ["hall","work"] (dh vu):=scI
theorem GP:Zo ["hall","work"] ["hall","work"] (dh vv):=scI
theorem GQ:Zo ["self","hall","turns"] ["self","hall","turns"] (dh qs):=scI
theorem sj:Zo ["hall","turns","members","inner","row"] ["hall","turns"] (dh vw):=scI
theorem qt:Zo ["hall","turns","places","rows","row","give","take"] ["hall","turns","places"] (dh Ah):=scI
theorem sk:Zo ["hall","ways","belt","row"] ["hall"] (dh vx):=scI
theorem lI:Zo ["ways","first","tree","reached","done","work","other","belt","along"] ["ways","first"] (dh Ai):=scI
theorem oO:Zo ["hall","ways","seen","forest","work","tree"] ["hall"] (dh Aj):=scI
theorem AB:Zo ["top","bottom","common"] ["top","bottom"] (dh Ak):=scI
theorem GR:Zo ["one","other"] ["one","other"] (dh Al):=scI
theorem GS:Zo ["row","along"] ["row","along"] (dh Am):=scI
theorem sm:Zo ["hall","tree","shares","work","step"] ["hall","tree"] (dh An):=scI
theorem GU:Zo ["one","other"] ["one","other"] (dh Ao):=scI
theorem lJ:Zo ["hall","forest","rates","tree","shares","common","share","work"] ["hall","forest"] (dh vy):=scI
theorem GV:Zo ["hall","counts"] ["hall","counts"] (dh vz):=scI
theorem so:Zo ["tree","work","way","step"] ["tree","work"] (dh Ap):=scI
theorem vC:Zo ["one","other","shared"] ["one","other"] (dh Aq):=scI
theorem nC:Zo ["hall","forest","belt","row","tree","to_giver","to_taker","shared","back"] ["hall","forest","belt"] (dh sd):=scI
theorem qu:Zo ["hall","forest","rates","belt","change"] ["hall"] (dh Ar):=scI
theorem AC:Zo ["hall","rates"] ["hall"] (dh As):=scI
theorem qv:Zo ["kept","turns","places","number","work","member"] ["kept","turns"] (dh At):=scI
theorem sr:Zo ["self","hall","group","turns","names","first"] ["self","hall","group"] (dh se):=scI
theorem oP:Zo ["_law_hall","_law_group","_law_joint","_law_kind_here","_law_e"] ["_law_hall","_law_group"] (dh Au):=scI
theorem vD:Zo ["self","row","works","work"] ["self","row"] (dh Av):=scI
theorem ss:Zo ["_law_joint","_law_row","_law_kind_here","_law_e"] ["_law_joint","_law_row"] (dh Aw):=scI
theorem GW:Zo ["_law_group","_law_works","_law_flags","_law_turns"] ["_law_group","_law_works","_law_flags","_law_turns"] (dh Ax):=scI
theorem iG:Zo ["_law_script","_law_many","_law_flags","_law_far","_law_works","_law_group","_law_hall","_law_handed","_law_joint","_law_kind_here","_law_kept","_law_good","_law_at","_law_bad"] ["_law_script"] (dh Ay):=scI
set_option genInjectivity false
set_option genSizeOf false
set_option genSizeOfSpec false
set_option genInjectivity false in
set_option genSizeOf false in
structure Tp(K:Frag)(mg:Str→Option Value) where
 {D:Addr}
 b8:mg "Hall" =some (.ref D)
 a:Cls K D
 e:W8 K D ["numbers","rows"]
 {b:Addr}
 b9:mg "Course" =some (.ref b)
 R:Cls K b
 av:W8 K b ["turns","rows","takes","gives","touched"]
 {c:Addr}
 cg:mg "Joint" =some (.ref c)
 Q:Cls K c
 af:W8 K c ["inner_row","kept","joined","called","rows"]
 x0:Dn K mg "_law_cell_at" "_law_cell_at" zZ ["_law_script","_law_k"]
 x1:Dn K mg "_law_group_by" "_law_group_by" z0 ["_law_script","_law_works"]
 x2:Dn K mg "is_name" "is_name" vk ["thing"]
 x3:Dm K D "work" "Hall.work" z1 ["self","name"]
 x4:Dn K mg "is_whole" "is_whole" z2 ["thing"]
 x5:Dn K mg "is_from" "is_from" z3 ["thing","least"]
 x6:Dn K mg "need_start" "need_start" z4 ["start"]
 x7:Dn K mg "is_number_below" "is_number_below" z5 ["thing","bound"]
 x8:Dm K D "need_work" "Hall.need_work" z6 ["self","work"]
 x9:Dm K D "lay" "Hall.lay" z7 ["self","row"]
 {aF:Addr}
 {aG:FuncData}
 {ca:Addr}
 {fC:Tok}
 r:ZcK K D "belt" aF
 bq:ZhP K "belt" "Hall.belt" z8 ca aF aG
 QS:∃fM eR n sl,K.lookup ca=some ⟨fM,eR,.seq #[.int 0 fC] n,sl⟩
 aH:Wd K aG ["self","giver","taker","give","take","start"] []
 ag:Wd K aG ["self","giver","taker","give","take","start"] [.int 0 fC]
 ah:dm [.int 0] [.int 0 fC]
 cn:Di K D "Hall.__init__" z9 ["self"]
 cz:Dn K mg "_law_made" "_law_made" z_ ["_law_many","_law_unlike","_law_far","_law_stuck"]
 co:Dn K mg "_law_kind" "_law_kind" vl ["_law_e"]
 cA:Dn K mg "need_group" "need_group" z' ["hall","group"]
 ch:Dn K mg "divisor" "divisor" Aa ["one","other"]
 cB:Dn K mg "turns_of" "turns_of" Ab ["rates","members"]
 cC:Dn K mg "hall_of" "hall_of" Ac ["names","rows"]
 cb:Dm K D "names" "Hall.names" Ad ["self"]
 bG:Dm K D "belts" "Hall.belts" Ae ["self"]
 cD:Dn K mg "inner_hall" "inner_hall" vm ["hall","members"]
 cE:Dn K mg "starts_of" "starts_of" vn ["hall"]
 cp:Dn K mg "enough" "enough" vo ["heaps","takes"]
 cF:Dm K b "row_from" "Course.row_from" vp ["self","starts"]
 cG:Dm K D "entering" "Hall.entering" vq ["self","work"]
 cH:Dm K D "need_belt" "Hall.need_belt" Af ["self","belt"]
 bZ:Dm K D "belt_at" "Hall.belt_at" Ag ["self","belt"]
 cI:Dn K mg "takes_of" "takes_of" vr ["hall","work"]
 cq:Dm K D "leaving" "Hall.leaving" vt ["self","work"]
 cJ:Dn K mg "gives_of" "gives_of" vu ["hall","work"]
 cK:Dn K mg "touched_by" "touched_by" vv ["hall","work"]
 cL:Di K b "Course.__init__" qs ["self","hall","turns"]
 cM:Dn K mg "inner_row_of" "inner_row_of" vw ["hall","turns"]
 cN:Dn K mg "joined_rows" "joined_rows" Ah ["hall","turns","places"]
 cO:Dn K mg "ways_of" "ways_of" vx ["hall"]
 cP:Dn K mg "tree_from" "tree_from" Ai ["ways","first"]
 cQ:Dn K mg "forest_of" "forest_of" Aj ["hall"]
 ci:Dn K mg "ratio" "ratio" Ak ["top","bottom"]
 cR:Dn K mg "times" "times" Al ["one","other"]
 cS:Dn K mg "gain" "gain" Am ["row","along"]
 cT:Dn K mg "shares_of" "shares_of" An ["hall","tree"]
 cU:Dn K mg "multiple" "multiple" Ao ["one","other"]
 cV:Dn K mg "rates_by" "rates_by" vy ["hall","forest"]
 cW:Dn K mg "change_of" "change_of" vz ["hall","counts"]
 cr:Dn K mg "way_to" "way_to" Ap ["tree","work"]
 cX:Dn K mg "shared_steps" "shared_steps" Aq ["one","other"]
 cY:Dn K mg "ring_through" "ring_through" sd ["hall","forest","belt"]
 cZ:Dn K mg "rates_of" "rates_of" Ar ["hall"]
 c0:Dn K mg "round_rates" "round_rates" As ["hall"]
 c1:Dn K mg "places_of" "places_of" At ["kept","turns"]
 c2:Di K c "Joint.__init__" se ["self","hall","group"]
 c3:Dn K mg "_law_tried" "_law_tried" Au ["_law_hall","_law_group"]
 c4:Dm K c "unfolded" "Joint.unfolded" Av ["self","row"]
 cs:Dn K mg "_law_unfolds" "_law_unfolds" Aw ["_law_joint","_law_row"]
 c5:Dn K mg "_law_due" "_law_due" Ax ["_law_group","_law_works","_law_flags","_law_turns"]
 ct:Dn K mg "law" "law" Ay ["_law_script"]
 a9:mg "ValueError" =none
 cl:mg "all" =none
 cu:mg "bool" =none
 k:mg "enumerate" =none
 b5:mg "int" =none
 f:mg "isinstance" =none
 g:mg "len" =none
 E:mg "list" =none
 c6:mg "max" =none
 bH:mg "min" =none
 q:mg "range" =none
 bI:mg "reversed" =none
 b6:mg "set" =none
 br:mg "sorted" =none
 c7:mg "str" =none
 b7:mg "sum" =none
 {i7:Addr}
 aI:Ex K mg "RateError" i7
 {a0:Addr}
 a1:Ex K mg "NoName" a0
 {ad:Addr}
 ae:Ex K mg "Twice" ad
 {S:Addr}
 y:Ex K mg "TooMuch" S
 {h:Addr}
 o:Ex K mg "NoWork" h
 {bs:Addr}
 bt:Ex K mg "NoBelt" bs
 {bu:Addr}
 ai:Ex K mg "NoRate" bu
 {bX:Addr}
 cj:Ex K mg "Empty" bX
 {i:Addr}
 x:Ex K mg "NotBalanced" i
 {T:Addr}
 aw:Ex K mg "TooLong" T
 {aL:Addr}
 bh:Ex K mg "Stuck" aL
 {bY:Addr}
 ck:Ex K mg "NoFit" bY
 QT:exmOne K (.ref i7) (.ref i7)=some true
 hK:exmOne K (.ref a0) (.ref i7)=some true
 U:exmOne K (.ref ad) (.ref i7)=some true
 dj:exmOne K (.ref S) (.ref i7)=some true
 l:exmOne K (.ref h) (.ref i7)=some true
 su:exmOne K (.ref bs) (.ref i7)=some true
 QU:exmOne K (.ref bu) (.ref i7)=some true
 ba:exmOne K (.ref bX) (.ref i7)=some true
 p:exmOne K (.ref i) (.ref i7)=some true
 F:exmOne K (.ref T) (.ref i7)=some true
 V:exmOne K (.ref aL) (.ref i7)=some true
 dv:exmOne K (.ref bY) (.ref i7)=some true
 QV:Yw K a0
 cc:Yw K ad
 QW:Yw K S
 b0:Yw K h
 QX:Yw K bs
 rW:Yw K bu
 aM:Yw K i
 bJ:Yw K T
 cd:Yw K aL
 QY:PySem.W.kitOne K (.ref a0) (.ref h)=some false
 QZ:PySem.W.kitOne K (.ref a0) (.ref ad)=some false
 Q0:PySem.W.kitOne K (.ref a0) (.ref i)=some false
 bi:PySem.W.kitOne K (.ref a0) (.ref T)=some false
 Q1:PySem.W.kitOne K (.ref a0) (.ref bY)=some false
 Q2:PySem.W.kitOne K (.ref a0) (.ref aL)=some false
 Q3:PySem.W.kitOne K (.ref a0) (.ref a0)=some true
 Q4:PySem.W.kitOne K (.ref a0) (.ref bX)=some false
 Q5:PySem.W.kitOne K (.ref a0) (.ref S)=some false
 dM:PySem.W.kitOne K (.ref a0) (.type "ValueError")=some true
 ax:PySem.W.kitOne K (.ref ad) (.ref h)=some false
 aO:PySem.W.kitOne K (.ref ad) (.ref ad)=some true
 G:PySem.W.kitOne K (.ref ad) (.ref i)=some false
 aj:PySem.W.kitOne K (.ref ad) (.ref T)=some false
 aP:PySem.W.kitOne K (.ref ad) (.ref bY)=some false
 aQ:PySem.W.kitOne K (.ref ad) (.ref aL)=some false
 ay:PySem.W.kitOne K (.ref ad) (.ref a0)=some false
 aR:PySem.W.kitOne K (.ref ad) (.ref bX)=some false
 ak:PySem.W.kitOne K (.ref ad) (.ref S)=some false
 O:PySem.W.kitOne K (.ref ad) (.type "ValueError")=some true
 bk:PySem.W.kitOne K (.ref S) (.ref h)=some false
 Q6:PySem.W.kitOne K (.ref S) (.ref ad)=some false
 Q7:PySem.W.kitOne K (.ref S) (.ref i)=some false
 Q8:PySem.W.kitOne K (.ref S) (.ref T)=some false
 Q9:PySem.W.kitOne K (.ref S) (.ref bY)=some false
 Q_:PySem.W.kitOne K (.ref S) (.ref aL)=some false
 bl:PySem.W.kitOne K (.ref S) (.ref a0)=some false
 Q':PySem.W.kitOne K (.ref S) (.ref bX)=some false
 bd:PySem.W.kitOne K (.ref S) (.ref S)=some true
 Ra:PySem.W.kitOne K (.ref S) (.type "ValueError")=some true
 al:PySem.W.kitOne K (.ref h) (.ref h)=some true
 az:PySem.W.kitOne K (.ref h) (.ref ad)=some false
 z:PySem.W.kitOne K (.ref h) (.ref i)=some false
 Z:PySem.W.kitOne K (.ref h) (.ref T)=some false
 aA:PySem.W.kitOne K (.ref h) (.ref bY)=some false
 aB:PySem.W.kitOne K (.ref h) (.ref aL)=some false
 am:PySem.W.kitOne K (.ref h) (.ref a0)=some false
 aC:PySem.W.kitOne K (.ref h) (.ref bX)=some false
 aa:PySem.W.kitOne K (.ref h) (.ref S)=some false
 H:PySem.W.kitOne K (.ref h) (.type "ValueError")=some true
 Rb:PySem.W.kitOne K (.ref bs) (.ref h)=some false
 Rc:PySem.W.kitOne K (.ref bs) (.ref ad)=some false
 Re:PySem.W.kitOne K (.ref bs) (.ref i)=some false
 bm:PySem.W.kitOne K (.ref bs) (.ref T)=some false
 Rf:PySem.W.kitOne K (.ref bs) (.ref bY)=some false
 Rg:PySem.W.kitOne K (.ref bs) (.ref aL)=some false
 Rh:PySem.W.kitOne K (.ref bs) (.ref a0)=some false
 Ri:PySem.W.kitOne K (.ref bs) (.ref bX)=some false
 Rj:PySem.W.kitOne K (.ref bs) (.ref S)=some false
 d6:PySem.W.kitOne K (.ref bs) (.type "ValueError")=some true
 Rk:PySem.W.kitOne K (.ref bu) (.ref h)=some false
 Rl:PySem.W.kitOne K (.ref bu) (.ref ad)=some false
 Rm:PySem.W.kitOne K (.ref bu) (.ref i)=some false
 Rn:PySem.W.kitOne K (.ref bu) (.ref T)=some false
 Ro:PySem.W.kitOne K (.ref bu) (.ref bY)=some false
 Rp:PySem.W.kitOne K (.ref bu) (.ref aL)=some false
 Rq:PySem.W.kitOne K (.ref bu) (.ref a0)=some false
 Rr:PySem.W.kitOne K (.ref bu) (.ref bX)=some false
 Rs:PySem.W.kitOne K (.ref bu) (.ref S)=some false
 eF:PySem.W.kitOne K (.ref bu) (.type "ValueError")=some true
 A:PySem.W.kitOne K (.ref i) (.ref h)=some false
 I:PySem.W.kitOne K (.ref i) (.ref ad)=some false
 j:PySem.W.kitOne K (.ref i) (.ref i)=some true
 t:PySem.W.kitOne K (.ref i) (.ref T)=some false
 J:PySem.W.kitOne K (.ref i) (.ref bY)=some false
 L:PySem.W.kitOne K (.ref i) (.ref aL)=some false
 B:PySem.W.kitOne K (.ref i) (.ref a0)=some false
 M:PySem.W.kitOne K (.ref i) (.ref bX)=some false
 u:PySem.W.kitOne K (.ref i) (.ref S)=some false
 m:PySem.W.kitOne K (.ref i) (.type "ValueError")=some true
 ab:PySem.W.kitOne K (.ref T) (.ref h)=some false
 an:PySem.W.kitOne K (.ref T) (.ref ad)=some false
 w:PySem.W.kitOne K (.ref T) (.ref i)=some false
 X:PySem.W.kitOne K (.ref T) (.ref T)=some true
 ao:PySem.W.kitOne K (.ref T) (.ref bY)=some false
 ap:PySem.W.kitOne K (.ref T) (.ref aL)=some false
 ac:PySem.W.kitOne K (.ref T) (.ref a0)=some false
 aq:PySem.W.kitOne K (.ref T) (.ref bX)=some false
 Y:PySem.W.kitOne K (.ref T) (.ref S)=some false
 C:PySem.W.kitOne K (.ref T) (.type "ValueError")=some true
 aD:PySem.W.kitOne K (.ref aL) (.ref h)=some false
 aV:PySem.W.kitOne K (.ref aL) (.ref ad)=some false
 N:PySem.W.kitOne K (.ref aL) (.ref i)=some false
 ar:PySem.W.kitOne K (.ref aL) (.ref T)=some false
 aW:PySem.W.kitOne K (.ref aL) (.ref bY)=some false
 aX:PySem.W.kitOne K (.ref aL) (.ref aL)=some true
 aE:PySem.W.kitOne K (.ref aL) (.ref a0)=some false
 aY:PySem.W.kitOne K (.ref aL) (.ref bX)=some false
 au:PySem.W.kitOne K (.ref aL) (.ref S)=some false
 P:PySem.W.kitOne K (.ref aL) (.type "ValueError")=some true
 {GX:Tok}
 aZ:mg "MOST_LETTERS" =some (.int 8 GX)
 {fV:Tok}
 be:mg "MOST_WORKS" =some (.int 30 fV)
 {i8:Tok}
 bf:mg "MOST_BELTS" =some (.int 60 i8)
 {mx:Tok}
 bg:mg "MOST_TURNS" =some (.int 400 mx)
 cy:∀(s:Shared)(v:Value),BindsTo s ct.d ⟨[v],[]⟩ [("_law_script",v)]
set_option genInjectivity true
set_option genSizeOf true
set_option genSizeOfSpec true
theorem GY{a b:Int}(bx:0≤a)(aN:0<b):My.G b (a % b)=My.G a b:=by
 rw[←qb1 _ (Int.le_of_lt aN)];exact My.Znx bx aN
theorem Zpq{k:Nat}{x:Int}(h:My.S k x):Builtin.Int.intBits x≤2048*2 ^ k:=by
 unfold Builtin.Int.intBits
 split
 ·exact qav _
 ·rename_i hz;have de:x.natAbs≠0:=by
   intro e;apply hz;have:x=0:=by omega
   rw[this]
   rfl
  have e:x.natAbs=x.toNat:=by have:=h.lo;omega
  have:=(qce de).mpr (by rw[e];exact h.hi);omega
theorem Zpo{k:Nat}{x:Int}(h:My.S k x)(a5:k≤2):x.natAbs.log2<9000:=by
 by_cases de:x.natAbs=0
 ·rw[de];decide+kernel
 ·have e:x.natAbs=x.toNat:=by have:=h.lo;omega
  have l:=(qce de).mpr (by rw[e];exact(h.mono a5).hi);omega
def Zlg(K:Frag):Sp:=λvs H Q _=>∃(a:Addr)(ns:List Int),vs=[.ref a]∧SqL K H a (ns.map V.int)∧ns.length≤63∧∀H',Q (.bl true) H'
def GZ{K:Frag}{mg:Str→Option Value}(T:Tp K mg):Sp:=Zlg K
noncomputable def ie (x:Str):Bool:=decide (1≤x.length)&&decide (x.length≤8)&&x.cps.toList.all λc=>decide (97≤c)&&decide (c≤122)
structure B5 where
 giver:Int
 taker:Int
 give:Int
 take:Int
 start:Int
noncomputable def B5.v (b:B5):List V:=[.int b.giver,.int b.taker,.int b.give,.int b.take,.int b.start]
structure HM where
 names:List Str
 belts:List B5
noncomputable def fZ (H:Hp):List V→List B5→Prop:=Paired λv b=>∃t,v= .ref t∧H t=some (.tup b.v)
noncomputable def numsOf (ns:List Str):List (Key×V):=ns.zipIdx.map λp=>(Sum.inr p.1,V.int p.2)
theorem Uk(ns:List Str):(numsOf ns).length=ns.length:=by unfold numsOf;simp
theorem G0(ns:List Str)(x:Str):numsOf (ns++ [x])=numsOf ns++ [(Sum.inr x,.int ns.length)]:=by
 unfold numsOf;rw[List.zipIdx_append];simp
theorem Zcg(ns:List Str):((numsOf ns).map λkv=>kV kv.1)=ns.map V.str:=by
 unfold numsOf;rw[qbh];have:((λkv:Key×V=>kV kv.1)∘λp:Str×Nat=>((Sum.inr p.1:Key),V.int p.2))=(V.str∘λp:Str×Nat=>p.1):=rfl;rw[this,←qbh,List.zipIdx_map_fst]
theorem Zek(ns:List Str)(x:Str):(valV (numsOf ns) (Sum.inr x)).isSome=decide (x∈ns):=by
 rw[←WO];rw[qbr,qbR,decide_eq_true_eq];have e:x∈ns↔V.str x∈ns.map V.str:=by
  constructor
  ·exact List.mem_map_of_mem
  ·intro h;obtain⟨y,bE,e⟩:=qah.mp h;cases e;exact bE
 rw[e,←Zcg,qah]
 constructor
 ·rintro⟨p,bb,h⟩;exact⟨p,bb,by rw[of_decide_eq_true h];rfl⟩
 ·rintro⟨p,bb,h⟩;exact⟨p,bb,decide_eq_true (Ec h)⟩
theorem G1{ns:List Str}{x:Str}(h:x∉ns):valV (numsOf ns) (Sum.inr x)=none:=by
 have:=Zek ns x;rw[decide_eq_false h] at this;cases e:valV (numsOf ns) (Sum.inr x) with
 |none=>rfl
 |some v=>rw[e] at this;cases this
theorem G3{ns:List Str}{x:Str}(h:x∉ns):fO (numsOf ns) (Sum.inr x) (.int ns.length)=numsOf (ns++ [x]):=by
 rw[ZaC _ (G1 h),G0]
def dQ{K:Frag}{mg:Str→Option Value}(T:Tp K mg)(H:Hp)(p:Addr)(aJ:HM)(fp:List Addr):Prop:=
 ∃(a_ a b:Addr)(bs:List V),fp=[p,a_,a,b]∧H p=some (.ins T.D a_ [("numbers",.ref a),("rows",.ref b)])∧H a_=some (.own p)∧H a=some (.dK (numsOf aJ.names))∧H b=some (.lst bs)∧a≠b∧fZ H bs aJ.belts
theorem fZ.keep{H H':Hp}(t:∀b xs,H b=some (.tup xs)→H' b=some (.tup xs)):∀{bs:List V}{ls:List B5},fZ H bs ls→fZ H' bs ls
 |_,_,.nil=> .nil
 |_,_,.cons ⟨a,e,h⟩ r=> .cons ⟨a,e,t _ _ h⟩ (fZ.keep t r)
theorem fZ.length{H:Hp}{bs:List V}{ls:List B5}(h:fZ H bs ls):bs.length=ls.length:=Paired.length h
theorem fZ.snoc{H:Hp}:∀{bs:List V}{ls:List B5}{t:Addr}{b:B5},fZ H bs ls→H t=some (.tup b.v)→fZ H (bs++ [.ref t]) (ls++ [b])
 |_,_,_,_,.nil,h=> .cons ⟨_,rfl,h⟩ .nil
 |_,_,_,_,.cons x r,h=> .cons x (fZ.snoc r h)
theorem fZ.at{H:Hp}:∀{bs:List V}{ls:List B5}{i:Nat}{b:B5},fZ H bs ls→ls[i]? =some b→∃t,bs[i]? =some (.ref t)∧H t=some (.tup b.v)
 |_,_,_,_,.nil,e=>by simp at e
 |_,_,0,_,.cons ⟨t,bw,h⟩ _,e=>by simp at e;subst e;exact⟨t,by simp[bw],h⟩
 |_,_,i+1,b,.cons _ r,e=>by
  obtain⟨t,aS,a2⟩:=fZ.at (i:=i) (b:=b) r (by simpa using e);exact⟨t,by simpa using aS,a2⟩
section
variable {K:Frag}{mg:Str→Option Value}{T:Tp K mg}{H H':Hp}{p:Addr}{aJ:HM}{fp:List Addr}
theorem dQ.dom(h:dQ T H p aJ fp):∀x∈fp,H x≠none:=by
 obtain⟨a_,a,b,bs,rfl,aS,a2,bU,dD,_⟩:=h;intro x aT;simp only[qad,qaR,or_false] at aT;rcases aT with rfl|rfl|rfl|rfl
 ·rw[aS];simp
 ·rw[a2];simp
 ·rw[bU];simp
 ·rw[dD];simp
theorem dQ.keep(h:dQ T H p aJ fp)(k:∀x∈fp,H' x=H x)(t:∀b xs,H b=some (.tup xs)→H' b=some (.tup xs)):dQ T H' p aJ fp:=by
 obtain⟨a_,a,b,bs,rfl,aS,a2,bU,dD,eM,d2⟩:=h;exact⟨a_,a,b,bs,rfl,(k p (by simp)).trans aS,(k a_ (by simp)).trans a2,(k a (by simp)).trans bU,(k b (by simp)).trans dD,eM,d2.keep t⟩
theorem dQ.off{A:List Addr}(h:dQ T H p aJ fp)(f:d7 A H H')(d:∀x∈fp,x∉A):dQ T H' p aJ fp:=by
 refine h.keep (λx aT=>?_) f.tups;cases q:H x with
 |none=>exact absurd q (h.dom x aT)
 |some o=>exact f.keep x o q (d x aT)
theorem Ziz{m:Str}{G:Prop}(h:dQ T H p aJ fp)(hD:(m== "numbers")=false)(il:(m== "rows")=false)(q:G):∃a a_ fs,V.ref p= .ref a∧H a=some (.ins T.D a_ fs)∧fs.lookup m=none∧G:=by
 obtain⟨a_,a,b,bs,rfl,aS,_⟩:=h;exact⟨p,a_,_,rfl,aS,Rd.lk1 hD (Rd.lk1 il Rd.lkN),q⟩
theorem dQ.same(h:dQ T H p aJ fp)(e:Ze H H'):dQ T H' p aJ fp:=h.off (A:=[]) e.frame (by simp)
end
noncomputable def dB:B5:=⟨0,0,0,0,0⟩
noncomputable def fi (ls:List B5) (w:Int):List Nat:=(List.range ls.length).filter λi=>decide ((ls.getD i dB).taker=w)
noncomputable def eK (ls:List B5) (w:Int):List Nat:=(List.range ls.length).filter λi=>decide ((ls.getD i dB).giver=w)
theorem fZ.getD{H:Hp}{bs:List V}{ls:List B5}{i:Nat}(h:fZ H bs ls)(hi:i<ls.length):∃t,bs.getD i .non= .ref t∧H t=some (.tup (ls.getD i dB).v):=by
 obtain⟨t,aS,a2⟩:=h.at (GT hi);exact⟨t,by simp[List.getD,aS],by simpa[List.getD,hi] using a2⟩
theorem vE{n:Nat}(h:n≤10000):n<sizeLine:=qaK h (by decide)
noncomputable def nD (ls:List B5) (i:Nat) (w:Int):List Fo.Trip:=(if(ls.getD i dB).giver=w then[((ls.getD i dB).taker,(i:Int),true)] else[])++(if(ls.getD i dB).taker=w then[((ls.getD i dB).giver,(i:Int),false)] else[])
noncomputable def ke (ls:List B5) (k:Nat) (w:Int):List Fo.Trip:=(List.range k).flatMap λi=>nD ls i w
noncomputable def fJ (ls:List B5):Int→List Fo.Trip:=ke ls ls.length
theorem ZgS(ls:List B5)(k:Nat)(w:Int):ke ls (k+1) w=ke ls k w++nD ls k w:=by
 unfold ke;rw[qbH,List.flatMap_append];simp
theorem qw{dA:Type}{xs:List dA}(nd:xs.Nodup){i j:Nat}(hi:i<xs.length)(bj:j<xs.length)(e:xs[i]=xs[j]):i=j:=by
 rcases Nat.lt_trichotomy i j with h|h|h
 ·exact absurd e (qbb.mp nd i j hi bj h)
 ·exact h
 ·exact absurd e.symm (qbb.mp nd j i bj hi h)
theorem f0{H H':Hp}{x:Addr}(s:Ze H H')(h:H' x=none):H x=none:=by
 cases e:H x with
 |none=>rfl
 |some o=>rw[s _ _ e] at h;cases h
theorem Ye{dA:Type}{xs:List dA}{i:Nat}{d:dA}(h:i<xs.length):xs.getD i d=xs[i]:=by simp[List.getD,h]
theorem VM{ls:List B5}{w:Int}{t:Fo.Trip}(h:t∈fJ ls w):∃(i:Nat)(hi:i<ls.length),t∈nD ls i w:=by
 unfold fJ ke at h;obtain⟨i,hi,ce⟩:=List.mem_flatMap.mp h;exact⟨i,qao.mp hi,ce⟩
theorem Zga{ls:List B5}{w:Int}{t:Fo.Trip}{i:Nat}(hi:i<ls.length)(h:t∈nD ls i w):t∈fJ ls w:=by
 unfold fJ ke;exact List.mem_flatMap.mpr ⟨i,qao.mpr hi,h⟩
theorem WX{ls:List B5}{i:Nat}{w:Int}{t:Fo.Trip}:t∈nD ls i w↔((ls.getD i dB).giver=w∧t=((ls.getD i dB).taker,(i:Int),true))∨((ls.getD i dB).taker=w∧t=((ls.getD i dB).giver,(i:Int),false)):=by
 unfold nD;rw[qax]
 by_cases aS:(ls.getD i dB).giver=w<;>by_cases a2:(ls.getD i dB).taker=w<;>simp[aS,a2]
theorem sv(ls:List B5):Fo.ZkE (fJ ls):=by
 intro a b t al h;obtain⟨i,hi,ce⟩:=VM h;refine Zga hi ?_;rw[WX] at ce⊢;rcases ce with⟨aS,a2⟩|⟨aS,a2⟩
 ·injection a2 with bw bC
  injection bC with bC dP
  exact .inr ⟨bw.symm,by rw[←aS,bC,dP];rfl⟩
 ·injection a2 with bw bC
  injection bC with bC dP
  exact .inl ⟨bw.symm,by rw[←aS,bC,dP];rfl⟩
def ZU(ls:List B5)(n:Nat):Prop:=∀b∈ls,0≤b.giver∧b.giver<(n:Int)∧0≤b.taker∧b.taker<(n:Int)
theorem ZU.at{ls:List B5}{n i:Nat}(h:ZU ls n)(hi:i<ls.length):0≤(ls.getD i dB).giver∧(ls.getD i dB).giver<(n:Int)∧0≤(ls.getD i dB).taker∧(ls.getD i dB).taker<(n:Int):=by
 rw[Ye hi];exact h _ (qaa hi)
theorem nE{ls:List B5}{n:Nat}(h:ZU ls n):∀a,∀t∈fJ ls a,0≤t.1∧t.1<(n:Int):=by
 intro a t ce;obtain⟨i,hi,bo⟩:=VM ce;have:=h.at hi;rw[WX] at bo;rcases bo with⟨_,rfl⟩|⟨_,rfl⟩<;>(dsimp only;omega)
noncomputable def i9 (H:Hp):List Fo.Trip→List V→Prop:=Paired λx v=>∃t,v= .ref t∧H t=some (.tup [.int x.1,.int x.2.1,.bl x.2.2])
theorem i9.keep{H H':Hp}(t:∀b xs,H b=some (.tup xs)→H' b=some (.tup xs)){vs:List V}{l:List Fo.Trip}(h:i9 H l vs):i9 H' l vs:=Paired.mapP h λ_ _ ⟨a,e,z⟩=>⟨a,e,t _ _ z⟩
theorem i9.snoc{H:Hp}:∀{l:List Fo.Trip}{vs:List V}{x:Fo.Trip}{t:Addr},i9 H l vs→H t=some (.tup [.int x.1,.int x.2.1,.bl x.2.2])→i9 H (l++ [x]) (vs++ [.ref t])
 |_,_,_,_,.nil,h=> .cons ⟨_,rfl,h⟩ .nil
 |_,_,_,_,.cons y r,h=> .cons y (i9.snoc r h)
theorem i9.length{H:Hp}{l:List Fo.Trip}{vs:List V}(h:i9 H l vs):l.length=vs.length:=Paired.length h
theorem i9.at{H:Hp}:∀{l:List Fo.Trip}{vs:List V}{i:Nat}{x:Fo.Trip},i9 H l vs→l[i]? =some x→∃t,vs[i]? =some (.ref t)∧H t=some (.tup [.int x.1,.int x.2.1,.bl x.2.2])
 |_,_,_,_,.nil,e=>by simp at e
 |_,_,0,_,.cons ⟨t,bw,h⟩ _,e=>by simp at e;subst e;exact⟨t,by simp[bw],h⟩
 |_,_,i+1,b,.cons _ r,e=>by
  obtain⟨t,aS,a2⟩:=i9.at (i:=i) (x:=b) r (by simpa using e);exact⟨t,by simpa using aS,a2⟩
def WA(H:Hp)(db:List Addr)(W:Int→List Fo.Trip):Prop:=∀(j:Nat)(h:j<db.length),∃vs,H db[j]=some (.lst vs)∧i9 H (W (j:Int)) vs
theorem WA.same{H H':Hp}{db:List Addr}{W:Int→List Fo.Trip}(h:WA H db W)(s:Ze H H'):WA H' db W:=λj bj=>by
 obtain⟨vs,aS,a2⟩:=h j bj;exact⟨vs,s _ _ aS,a2.keep λ_ _ e=>s _ _ e⟩
theorem WA.add{H:Hp}{db:List Addr}{W:Int→List Fo.Trip}(h:WA H db W)(nd:db.Nodup){g:Nat}(bc:g<db.length){vs:List V}(cv:H db[g]=some (.lst vs))(ce:i9 H (W (g:Int)) vs){t:Addr}{x:Fo.Trip}(G4:H t=some (.tup [.int x.1,.int x.2.1,.bl x.2.2])):
  WA (upd H db[g] (.lst (vs++ [.ref t]))) db (λj=>W j++(if(g:Int)=j then[x] else[])):=by
 have f3:∀b xs,H b=some (.tup xs)→(upd H db[g] (.lst (vs++ [.ref t]))) b=some (.tup xs):=λb xs e=>by rw[b2 (gT e cv (by intro z;cases z))];exact e
 intro j bj
 by_cases e:j=g
 ·subst e;refine⟨vs++ [.ref t],Zd,?_⟩;dsimp only;rw[if_pos rfl];exact(ce.keep f3).snoc (f3 _ _ G4)
 ·obtain⟨us,aS,a2⟩:=h j bj;have ne:db[j]≠db[g]:=λz=>e (qw nd bj bc z);refine⟨us,by rw[b2 ne];exact aS,?_⟩;dsimp only;rw[if_neg (by omega),qa8];exact a2.keep f3
structure ZbG(H:Hp)(r:Addr)(db:List Addr)(n:Nat)(W:Int→List Fo.Trip):Prop where
 at_:H r=some (.lst (db.map V.ref))
 len:db.length=n
 nd:db.Nodup
 wa:WA H db W
theorem ZbG.same{H H':Hp}{r:Addr}{db:List Addr}{n:Nat}{W:Int→List Fo.Trip}(h:ZbG H r db n W)(s:Ze H H'):ZbG H' r db n W:=⟨s _ _ h.at_,h.len,h.nd,h.wa.same s⟩
theorem Zdy{db:List Addr}{g:Int}(de:0≤g)(aS:g.toNat<db.length):atI (db.map V.ref) g=some (.ref db[g.toNat]):=by
 have:=iS (xs:=db.map V.ref) (j:=g.toNat) (v:= .ref db[g.toNat]) (by simp[aS])
 rwa [qbc de] at this
noncomputable def my (H:Hp) (v:V):Option Fo.Trip→Prop
 |none=>v= .non
 |some (p,b,al)=>∃t,v= .ref t∧H t=some (.tup [.int p,.int b,.bl al])
theorem my.keep{H H':Hp}(t:∀b xs,H b=some (.tup xs)→H' b=some (.tup xs)){v:V}:∀{s:Option Fo.Trip},my H v s→my H' v s
 |none,h=>h
 |some (_,_,_),⟨a,e,z⟩=>⟨a,e,t _ _ z⟩
noncomputable def Ent (H:Hp):List (Key×V)→Fo.ZH→Prop:=Paired λkv x=>kv.1=Sum.inl x.1∧my H kv.2 x.2
theorem Ent.keep{H H':Hp}(t:∀b xs,H b=some (.tup xs)→H' b=some (.tup xs)){kvs:List (Key×V)}{bn:Fo.ZH}(h:Ent H kvs bn):Ent H' kvs bn:=Paired.mapP h λ_ _ ⟨a,z⟩=>⟨a,z.keep t⟩
theorem Ent.snoc{H:Hp}:∀{kvs:List (Key×V)}{bn:Fo.ZH}{w:Int}{v:V}{s:Option Fo.Trip},Ent H kvs bn→my H v s→Ent H (kvs++ [(Sum.inl w,v)]) (bn++ [(w,s)])
 |_,_,_,_,_,.nil,h=> .cons ⟨rfl,h⟩ .nil
 |_,_,_,_,_,.cons y r,h=> .cons y (Ent.snoc r h)
theorem Ent.length{H:Hp}{kvs:List (Key×V)}{bn:Fo.ZH}(h:Ent H kvs bn):kvs.length=bn.length:=Paired.length h
theorem Ent.keys{H:Hp}:∀{kvs:List (Key×V)}{bn:Fo.ZH},Ent H kvs bn→kvs.map (·.1)=(Fo.keys bn).map Sum.inl
 |_,_,.nil=>rfl
 |_,_,.cons ⟨a,_⟩ r=>by
  have:=Ent.keys r;unfold Fo.keys at this⊢;rw[List.map_cons,List.map_cons,List.map_cons,a,this]
theorem Ent.some{H:Hp}:∀{kvs:List (Key×V)}{bn:Fo.ZH}{w:Int},Ent H kvs bn→((valV kvs (Sum.inl w)).isSome=true↔w∈Fo.keys bn):=by
 intro kvs bn w h;rw[←WO,qbR];have a5:=h.keys
 constructor
 ·rintro⟨kv,bo,e⟩;have bw:kv.1=Sum.inl w:=of_decide_eq_true e;have:kv.1∈kvs.map (·.1):=List.mem_map_of_mem bo;rw[a5,bw] at this;obtain⟨dY,vF,bC⟩:=qah.mp this;cases bC;exact vF
 ·intro hw;have:(Sum.inl w:Key)∈(Fo.keys bn).map Sum.inl:=List.mem_map_of_mem hw;rw[←a5] at this;obtain⟨kv,bo,e⟩:=qah.mp this;exact⟨kv,bo,decide_eq_true e⟩
def Vd(H:Hp)(d:Addr)(bn:Fo.ZH):Prop:=∃kvs,H d=some (.dK kvs)∧Ent H kvs bn
theorem Vd.same{H H':Hp}{d:Addr}{bn:Fo.ZH}(h:Vd H d bn)(s:Ze H H'):Vd H' d bn:=by
 obtain⟨kvs,aS,a2⟩:=h;exact⟨kvs,s _ _ aS,a2.keep λ_ _ e=>s _ _ e⟩
theorem AD:∀(more kvs:List (Key×V))(k:Key),(valV (gY kvs more) k).isSome=((valV kvs k).isSome||(valV more k).isSome)
 | [],kvs,k=>by
  show(valV kvs k).isSome=((valV kvs k).isSome||(valV ([]:List (Key×V)) k).isSome);have:valV ([]:List (Key×V)) k=none:=rfl;rw[this,Option.isSome_none,Bool.or_false]
 |(j,v)::r,kvs,k=>by
  show(valV (gY (fO kvs j v) r) k).isSome=_;rw[AD r (fO kvs j v) k,pO]
  by_cases e:j=k
  ·subst e;rw[if_pos rfl,iW rfl];simp
  ·rw[if_neg (λz=>e z.symm),iX e]
theorem Paired.get'{dA gp:Type}{P:dA→gp→Prop}:∀{xs:List dA}{ys:List gp}{i:Nat}{x:dA},Paired P xs ys→xs[i]? =some x→∃y,ys[i]? =some y∧P x y
 |_,_,_,_,.nil,e=>by simp at e
 |_,_,0,_,.cons h _,e=>by simp at e;subst e;exact⟨_,rfl,h⟩
 |_,_,i+1,x,.cons _ r,e=>by
  obtain⟨y,aS,a2⟩:=Paired.get' (i:=i) (x:=x) r (by simpa using e);exact⟨y,by simpa using aS,a2⟩
noncomputable def hP (H:Hp):List Addr→List (Int×Fo.ZH)→Prop:=Paired λd x=>Vd H d x.2
theorem hP.same{H H':Hp}{b4:List Addr}{F:List (Int×Fo.ZH)}(h:hP H b4 F)(s:Ze H H'):hP H' b4 F:=Paired.mapP h λ_ _ z=>z.same s
theorem hP.snoc{H:Hp}:∀{b4:List Addr}{F:List (Int×Fo.ZH)}{d:Addr}{x:Int×Fo.ZH},hP H b4 F→Vd H d x.2→hP H (b4++ [d]) (F++ [x])
 |_,_,_,_,.nil,h=> .cons h .nil
 |_,_,_,_,.cons y r,h=> .cons y (hP.snoc r h)
theorem hP.keep{H H':Hp}(t:∀b xs,H b=some (.tup xs)→H' b=some (.tup xs)):∀{b4:List Addr}{F:List (Int×Fo.ZH)},hP H b4 F→(∀d∈b4,∀kvs,H d=some (.dK kvs)→H' d=some (.dK kvs))→hP H' b4 F
 |_,_,.nil,_=> .nil
 |_,_,.cons ⟨kvs,aS,a2⟩ r,k=> .cons ⟨kvs,k _ (by simp) _ aS,a2.keep t⟩ (hP.keep t r λd hd=>k d (qau _ hd))
theorem hP.length{H:Hp}{b4:List Addr}{F:List (Int×Fo.ZH)}(h:hP H b4 F):b4.length=F.length:=Paired.length h
structure Zkm(H:Hp)(f:Addr)(b4:List Addr)(F:List (Int×Fo.ZH)):Prop where
 at_:H f=some (.lst (b4.map V.ref))
 trees:hP H b4 F
theorem Vs{ns:List Int}{k:Int}(de:0≤k)(aS:k<ns.length):atI (ns.map V.int) k=some (.int (ns.getD k.toNat 0)):=by
 obtain⟨n,rfl⟩:=qaJ de;have bF:n<ns.length:=by omega
 refine iS ?_;simp[List.getD,bF]
theorem Zls{n a:Nat}(h:a<2 ^ n):Builtin.Int.intBits (a:Int)≤n:=by
 unfold Builtin.Int.intBits
 split
 ·exact qav _
 ·rename_i hz;have de:(a:Int).natAbs≠0:=by
   intro e;apply hz;have:(a:Int)=0:=by omega
   rw[this]
   rfl
  have e:(a:Int).natAbs=a:=qcd a;have:=(qce de).mpr (by rw[e];exact h);omega
theorem ZdC{n m a b:Nat}(bx:a<2 ^ n)(aN:b<2 ^ m)(h:n+m≤10000000):IntMulOk (a:Int) (b:Int):=by
 have fC:=Zls bx;have fV:=Zls aN;have k:Builtin.Int.intTooBig ((Builtin.Int.intBits (a:Int):Int)+(Builtin.Int.intBits (b:Int):Int))=false:=by
  unfold Builtin.Int.intTooBig;rw[PySem.bitsLine_eq];exact decide_eq_false (by omega)
 unfold IntMulOk;rw[k];simp
theorem G5{a:Nat}(h:a<2 ^ 8000):(a:Int).natAbs.log2<9000:=by
 rw[qcd]
 by_cases de:a=0
 ·rw[de];decide+kernel
 ·have:=(qce de).mpr h;omega
theorem Zkl{a b:Nat}(aN:0<b)(h:b<2 ^ 8000):0<(b:Int)∧(b:Int).natAbs.log2<9000:=⟨by omega,G5 h⟩
theorem qx{a b n m:Nat}(bx:a<2 ^ n)(aN:b<2 ^ m):a*b<2 ^ (n+m):=by
 rw[Nat.pow_add];exact Nat.mul_lt_mul'' bx aN
def Bal(B:B5)(al:Bool)(x y:Nat×Nat):Prop:=if al=true then x.1*y.2*B.take.toNat=y.1*x.2*B.give.toNat else x.1*y.2*B.give.toNat=y.1*x.2*B.take.toNat
structure i_(ls:List B5)(bn:Fo.ZH)(zs:List (Int×(Nat×Nat)))(d:Nat):Prop where
 keys:zs.map (·.1)=(Fo.keys bn).take d
 pos:∀x∈zs,0<x.2.1∧0<x.2.2∧Nat.gcd x.2.1 x.2.2=1
 size:∀(i:Nat) x,zs[i]? =some x→x.2.1<2 ^ (110*i+1)∧x.2.2<2 ^ (110*i+1)
 first:∀(i:Nat)(w:Int),i<d→bn[i]? =some (w,none)→zs[i]? =some (w,(1,1))
 step:∀(i:Nat)(w p b:Int)(al:Bool),i<d→bn[i]? =some (w,some (p,b,al))→∃(j:Nat)(x y:Nat×Nat),j<i∧zs[i]? =some (w,x)∧zs[j]? =some (p,y)∧Bal (ls.getD b.toNat dB) al x y
theorem G6{ls:List B5}{bn:Fo.ZH}:i_ ls bn [] 0:=⟨rfl,by simp,by simp,λi w h=>absurd h (qa0 _),λi w p b al h=>absurd h (qa0 _)⟩
theorem i_.len{ls:List B5}{bn:Fo.ZH}{zs:List (Int×(Nat×Nat))}{d:Nat}(h:i_ ls bn zs d)(hd:d≤bn.length):zs.length=d:=by
 have:=congrArg List.length h.keys;rw[GE,qaI] at this;simp[Fo.keys] at this;omega
theorem Zk3{dA:Type}{zs:List dA}{x y:dA}{i:Nat}(h:(zs++ [x])[i]? =some y):zs[i]? =some y∨(i=zs.length∧y=x):=by
 rcases qbw i zs.length with c|c
 ·rw[qaW c] at h;exact .inl h
 ·rw[qaV c] at h;have:i-zs.length=0:=by
   rcases qbj (i-zs.length) with z|z
   ·exact z
   ·rw[qaP (by simp;omega)] at h;cases h
  rw[this] at h;simp at h;exact .inr ⟨by omega,h.symm⟩
theorem sw{dA:Type}{zs:List dA}{x y:dA}{i:Nat}(h:zs[i]? =some y):(zs++ [x])[i]? =some y:=by
 rw[qaW (GM.mp h).1];exact h
theorem Zdk{dA:Type}{zs:List dA}{x:dA}:(zs++ [x])[zs.length]? =some x:=by rw[qaV (fm _),Nat.sub_self];rfl
theorem i_.more{ls:List B5}{bn:Fo.ZH}{zs:List (Int×(Nat×Nat))}{d:Nat}(h:i_ ls bn zs d)(hd:d<bn.length){w:Int}{st:Option Fo.Trip}(e:bn[d]? =some (w,st)){x:Nat×Nat}(bb:0<x.1∧0<x.2∧Nat.gcd x.1 x.2=1)(hs:x.1<2 ^ (110*d+1)∧x.2<2 ^ (110*d+1))
  (bF:st=none→x=(1,1)) (fa:∀p b al,st=some (p,b,al)→∃(j:Nat)(y:Nat×Nat),zs[j]? =some (p,y)∧Bal (ls.getD b.toNat dB) al x y):i_ ls bn (zs++ [(w,x)]) (d+1):=by
 have aJ:=h.len (qaX hd);have a5:(Fo.keys bn)[d]? =some w:=by unfold Fo.keys;rw[qaj,e];rfl
 refine⟨?_,λy bE=>?_,λi y bE=>?_,λi dY hi b1=>?_,λi dY p b al hi b1=>?_⟩
 ·rw[qaG,h.keys,List.take_succ,a5];rfl
 ·rcases qax.mp bE with z|z
  ·exact h.pos y z
  ·rw[FM.mp z];exact bb
 ·rcases Zk3 bE with z|⟨fY,fz⟩
  ·exact h.size i y z
  ·rw[fz,fY,aJ];exact hs
 ·rcases qbg.mp hi with z|z
  ·exact sw (h.first i dY z b1)
  ·subst z;rw[e] at b1;cases b1;rw[bF rfl,←aJ];exact Zdk
 ·rcases qbg.mp hi with z|z
  ·obtain⟨j,iF,qy,aS,a2,bU,dD⟩:=h.step i dY p b al z b1;exact⟨j,iF,qy,aS,sw a2,sw bU,dD⟩
  ·subst z;rw[e] at b1;cases b1;obtain⟨j,y,aS,a2⟩:=fa p b al rfl;have bj:=(GM.mp aS).1;refine⟨j,x,y,by omega,?_,sw aS,a2⟩;rw[←aJ];exact Zdk
noncomputable def ShE (H:Hp):List (Key×V)→List (Int×(Nat×Nat))→Prop:=Paired λkv x=>kv.1=Sum.inl x.1∧∃t,kv.2= .ref t∧H t=some (.tup [.int (x.2.1:Nat),.int (x.2.2:Nat)])
theorem ShE.keep{H H':Hp}(t:∀b xs,H b=some (.tup xs)→H' b=some (.tup xs)){kvs:List (Key×V)}{zs:List (Int×(Nat×Nat))}(h:ShE H kvs zs):ShE H' kvs zs:=Paired.mapP h λ_ _ ⟨a,c,e,z⟩=>⟨a,c,e,t _ _ z⟩
theorem ShE.snoc{H:Hp}:∀{kvs:List (Key×V)}{zs:List (Int×(Nat×Nat))}{w:Int}{t:Addr}{x:Nat×Nat},ShE H kvs zs→H t=some (.tup [.int (x.1:Nat),.int (x.2:Nat)])→ShE H (kvs++ [(Sum.inl w,.ref t)]) (zs++ [(w,x)])
 |_,_,_,_,_,.nil,h=> .cons ⟨rfl,_,rfl,h⟩ .nil
 |_,_,_,_,_,.cons y r,h=> .cons y (ShE.snoc r h)
theorem ShE.length{H:Hp}{kvs:List (Key×V)}{zs:List (Int×(Nat×Nat))}(h:ShE H kvs zs):kvs.length=zs.length:=Paired.length h
theorem ShE.get{H:Hp}:∀{kvs:List (Key×V)}{zs:List (Int×(Nat×Nat))}{p:Int},ShE H kvs zs→p∈zs.map (·.1)→∃(y:Nat×Nat)(t:Addr),(p,y)∈zs∧valV kvs (Sum.inl p)=some (.ref t)∧H t=some (.tup [.int (y.1:Nat),.int (y.2:Nat)])
 |_,_,_,.nil,h=>by simp at h
 |_,_,p,.cons (a:=kv) (b:=z) ⟨a,t,e,ce⟩ r,h=>by
  obtain⟨k,v⟩:=kv;obtain⟨w,x⟩:=z;dsimp only at a e ce;subst a e
  by_cases c:w=p
  ·subst c;exact⟨x,t,by simp,iW rfl,ce⟩
  ·have h':p∈_:=(qad.mp h).resolve_left (λy=>c y.symm);obtain⟨y,t',aS,a2,bU⟩:=ShE.get r h';exact⟨y,t',qau _ aS,by rw[iX (λy=>c (qbU y))];exact a2,bU⟩
theorem ShE.none{H:Hp}{kvs:List (Key×V)}{zs:List (Int×(Nat×Nat))}{p:Int}(h:ShE H kvs zs)(bb:p∉zs.map (·.1)):valV kvs (Sum.inl p)=none:=by
 cases e:valV kvs (Sum.inl p) with
 |none=>rfl
 |some v=>
  exfalso;have:(valV kvs (Sum.inl p)).isSome=true:=by rw[e];rfl
  rw[←WO,qbR] at this;obtain⟨kv,bo,bC⟩:=this;obtain⟨i,hi,rfl⟩:=qaw bo;obtain⟨z,hz,a,_⟩:=Paired.get' h (GT hi);have dP:kvs[i].1=Sum.inl p:=of_decide_eq_true bC;rw[a] at dP;have:z.1=p:=qbU dP;exact bb (qah.mpr ⟨z,qal hz,this⟩)
theorem Zib{y u:Nat×Nat}{x:Nat×Nat}{dk bL G n:Nat}(nF:0<y.1)(mz:0<y.2)(ff:0<dk)(gj:0<bL)(hu:u.1=dk / G)(cv:u.2=bL / G)(oQ:G=Nat.gcd dk bL)(aT:x.1=y.1*u.1 / Nat.gcd (y.1*u.1) (y.2*u.2))(i':x.2=y.2*u.2 / Nat.gcd (y.1*u.1) (y.2*u.2)):
  (0<x.1∧0<x.2∧Nat.gcd x.1 x.2=1)∧x.1*y.2*bL=y.1*x.2*dk∧x.1≤y.1*dk∧x.2≤y.2*bL:=by
 have Rt:0<G:=by rw[oQ];exact qcf _ ff
 have kz:G ∣ dk:=by rw[oQ];exact qbS _ _
 have ic:G ∣ bL:=by rw[oQ];exact qbp _ _
 have bw:dk=u.1*G:=by rw[hu,qbv kz]
 have bC:bL=u.2*G:=by rw[cv,qbv ic]
 have G7:0<u.1:=by rcases qbj u.1 with z|z;rw[z,Nat.zero_mul] at bw;omega;exact z
 have kO:0<u.2:=by rcases qbj u.2 with z|z;rw[z,Nat.zero_mul] at bC;omega;exact z
 have vG:0<y.1*u.1:=qbV nF G7;have G8:0<y.2*u.2:=qbV mz kO;have oR:0<Nat.gcd (y.1*u.1) (y.2*u.2):=qcf _ vG;have c1:x.1*Nat.gcd (y.1*u.1) (y.2*u.2)=y.1*u.1:=by rw[aT,qbv (qbS _ _)]
 have c2:x.2*Nat.gcd (y.1*u.1) (y.2*u.2)=y.2*u.2:=by rw[i',qbv (qbp _ _)]
 refine⟨⟨?_,?_,?_⟩,?_,?_,?_⟩
 ·rw[aT];exact Nat.div_pos (qbZ vG (qbS _ _)) oR
 ·rw[i'];exact Nat.div_pos (qbZ G8 (qbp _ _)) oR
 ·rw[aT,i'];exact Nat.gcd_div_gcd_div_gcd_of_pos_left vG
 ·generalize Nat.gcd (y.1*u.1) (y.2*u.2)=g at*;have k:x.1*(y.2*u.2)=(y.1*u.1)*x.2:=by rw[←c2,←c1,qbo x.2 g,qa2]
  calc x.1*y.2*bL=x.1*(y.2*u.2)*G:=by rw[bC];simp only[qa2]
   _=(y.1*u.1)*x.2*G:=by rw[k]
   _=y.1*x.2*dk:=by rw[bw,Nat.mul_right_comm y.1 u.1 x.2,qa2 (y.1*x.2)]
 ·have aS:x.1≤y.1*u.1:=by rw[aT];exact qbi _ _
  have a2:u.1≤dk:=by rw[hu];exact qbi _ _
  exact qat aS (qb6 _ a2)
 ·have aS:x.2≤y.2*u.2:=by rw[i'];exact qbi _ _
  have a2:u.2≤bL:=by rw[cv];exact qbi _ _
  exact qat aS (qb6 _ a2)
theorem ZnA{H:Hp}{kvs:List (Key×V)}{bn:Fo.ZH}{i:Nat}{kv:Key×V}(h:Ent H kvs bn)(e:kvs[i]? =some kv):∃w st,bn[i]? =some (w,st)∧kv.1=Sum.inl w∧my H kv.2 st:=by
 obtain⟨⟨w,st⟩,aS,a2,bU⟩:=Paired.get' h e;exact⟨w,st,aS,a2,bU⟩
theorem ZdQ{H:Hp}{a:Addr}{u:HO}(h:L2.Rd H a u):H a≠none:=by
 rcases h with h|⟨o,h⟩<;>(rw[h];simp)
theorem qz{H:Hp}{d:Addr}{kvs:List (Key×V)}{o:Obj}(h:L2.Rd H d (.dK kvs)):d7 [d] H (upd H d (.frz o (.dK kvs))):=by
 refine⟨λb x e n=>?_,λb xs e=>?_⟩
 ·rw[b2 (λz=>n (by simp[z]))];exact e
 ·have:b≠d:=λz=>by
   rw[z] at e;rcases h with h|⟨c',h⟩<;>(rw[h] at e;cases e)
  rw[b2 this];exact e
def WC(ls:List B5):Prop:=∀i<ls.length,∃dk bL,0<dk∧0<bL∧dk<2 ^ 110∧bL<2 ^ 110∧(ls.getD i dB).give=((dk:Nat):Int)∧(ls.getD i dB).take=((bL:Nat):Int)
theorem G9{ls:List B5}{n:Nat}{F:List (Int×Fo.ZH)}(aN:ZU ls n)(hw:Fo.WQ (fJ ls) n F n){i j:Nat}{x y:Int×Fo.ZH}(hi:F[i]? =some x)(bj:F[j]? =some y)(ne:i≠j):∀w∈Fo.keys x.2,w∉Fo.keys y.2:=by
 intro w aS a2;obtain⟨g1,c1,_,_⟩:=hw.tree x (qal hi);obtain⟨g2,c2,_,_⟩:=hw.tree y (qal bj);have a1:=(g1.keys_iff c1 w).mp aS;have dj:=(g2.keys_iff c2 w).mp a2;have bw:=hw.least x (qal hi) y.1 ((g1.keys_iff c1 _).mpr (a1.trans (dj.symm (sv ls))));have bC:=hw.least y (qal bj) x.1 ((g2.keys_iff c2 _).mpr (dj.trans (a1.symm (sv ls))));obtain⟨el,fX⟩:=GM.mp hi;obtain⟨gD,hc⟩:=GM.mp bj;rcases Nat.lt_or_gt_of_ne ne with z|z
 ·have:=qbb.mp hw.rise i j el gD z;rw[fX,hc] at this;omega
 ·have:=qbb.mp hw.rise j i gD el z;rw[fX,hc] at this;omega
theorem sx{dA gp:Type}{P AE:dA→gp→Prop}:∀{xs:List dA}{ys:List gp},Paired P xs ys→(∀x y,x∈xs→P x y→AE x y)→Paired AE xs ys
 |_,_,.nil,_=> .nil
 |_,_,.cons h r,f=> .cons (f _ _ (by simp) h) (sx r λx y aT=>f x y (qau _ aT))
noncomputable def YR (H:Hp):List Addr→List (Int×Fo.ZH)→Prop:=Paired λd x=>∃kvs,L2.Rd H d (.dK kvs)∧Ent H kvs x.2
theorem hP.r{H:Hp}{b4:List Addr}{F:List (Int×Fo.ZH)}(h:hP H b4 F):YR H b4 F:=Paired.mapP h λ_ _ ⟨kvs,a,b⟩=>⟨kvs,.inl a,b⟩
theorem YR.same{H H':Hp}{b4:List Addr}{F:List (Int×Fo.ZH)}(h:YR H b4 F)(s:Ze H H'):YR H' b4 F:=Paired.mapP h λ_ _ ⟨kvs,a,b⟩=>⟨kvs,a.imp (s _ _) (λ⟨o,z⟩=>⟨o,s _ _ z⟩),b.keep λ_ _ e=>s _ _ e⟩
theorem YR.length{H:Hp}{b4:List Addr}{F:List (Int×Fo.ZH)}(h:YR H b4 F):b4.length=F.length:=Paired.length h
theorem ZnD{H:Hp}{d:Addr}{k1 k2:List (Key×V)}(aS:L2.Rd H d (.dK k1))(a2:L2.Rd H d (.dK k2)):k1=k2:=by
 rcases aS with a|⟨Ru,a⟩<;>rcases a2 with b|⟨i6,b⟩<;>(rw[a] at b;cases b)<;>rfl
theorem YR.frz{H:Hp}{b4:List Addr}{F:List (Int×Fo.ZH)}(h:YR H b4 F){d:Addr}{kvs:List (Key×V)}{o:Obj}(hd:L2.Rd H d (.dK kvs)):YR (upd H d (.frz o (.dK kvs))) b4 F:=Paired.mapP h λd' _ ⟨k,a,b⟩=>by
 refine⟨k,?_,b.keep (qz hd).tups⟩
 by_cases z:d'=d
 ·subst z;rw[ZnD a hd];exact .inr ⟨o,Zd⟩
 ·rcases a with a|⟨c',a⟩
  ·exact .inl (by rw[b2 z];exact a)
  ·exact .inr ⟨c',by rw[b2 z];exact a⟩
noncomputable def lcmL (zs:List (Int×(Nat×Nat))):Nat:=zs.foldl (λc x=>Nat.lcm c x.2.2) 1
theorem G_(zs:List (Int×(Nat×Nat)))(x:Int×(Nat×Nat)):lcmL (zs++ [x])=Nat.lcm (lcmL zs) x.2.2:=by unfold lcmL;rw[List.foldl_append];rfl
theorem Zk9{a b:Nat}:a / Nat.gcd a b*b=Nat.lcm a b:=by
 unfold Nat.lcm;rw[Nat.div_mul_right_comm (qbS a b)]
theorem AF{a b n m:Nat}(bx:a<2 ^ n)(aN:b<2 ^ m):Nat.lcm a b<2 ^ (n+m):=by
 unfold Nat.lcm;exact qaK (qbi _ _) (qx bx aN)
def nG(ls:List B5)(x:Int×Fo.ZH)(rs:List Int):Prop:=∃zs,i_ ls x.2 zs x.2.length∧∀y∈zs,rs[y.1.toNat]? =some ((lcmL zs / y.2.2*y.2.1:Nat):Int)
noncomputable def h1 (cs:List Int) (b:B5):Int:=cs.getD b.giver.toNat 0*b.give-cs.getD b.taker.toNat 0*b.take
structure Zn9(ls:List B5)(n:Nat)(rs:List Int):Prop where
 len:rs.length=n
 pos:∀c∈rs,∃k:Nat,c=(k:Int)∧0<k∧k<2 ^ 420000
theorem AG:∀(zs:List (Int×(Nat×Nat)))(c:Nat),c ∣ zs.foldl (λc x=>Nat.lcm c x.2.2) c∧∀y∈zs,y.2.2 ∣ zs.foldl (λc x=>Nat.lcm c x.2.2) c
 | [],c=>⟨Nat.dvd_refl _,by simp⟩
 |z::zs,c=>by
  obtain⟨aS,a2⟩:=AG zs (Nat.lcm c z.2.2);refine⟨qb9 (Nat.dvd_lcm_left _ _) aS,λy bE=>?_⟩;rcases qad.mp bE with rfl|bE
  ·exact qb9 (Nat.dvd_lcm_right _ _) aS
  ·exact a2 y bE
theorem AH:∀(zs:List (Int×(Nat×Nat)))(c m:Nat),c ∣ m→(∀y∈zs,y.2.2 ∣ m)→zs.foldl (λc x=>Nat.lcm c x.2.2) c ∣ m
 | [],_,_,h,_=>h
 |z::zs,c,m,h,k=>AH zs _ m (Nat.lcm_dvd h (k z (by simp))) λy bE=>k y (qau _ bE)
theorem sy{zs:List (Int×(Nat×Nat))}{y:Int×(Nat×Nat)}(h:y∈zs):y.2.2 ∣ lcmL zs:=(AG zs 1).2 y h
theorem ZkB{zs:List (Int×(Nat×Nat))}{m:Nat}(h:∀y∈zs,y.2.2 ∣ m):lcmL zs ∣ m:=AH zs 1 m (Nat.one_dvd m) h
theorem AI{zs:List (Int×(Nat×Nat))}(h:∀y∈zs,0<y.2.2):0<lcmL zs:=by
 unfold lcmL;have fr:∀(zs:List (Int×(Nat×Nat)))(c:Nat),0<c→(∀y∈zs,0<y.2.2)→0<zs.foldl (λc x=>Nat.lcm c x.2.2) c:=by
  intro zs
  induction zs with
  |nil=>intro c a8 _;exact a8
  |cons z zs bP=>intro c a8 k;exact bP _ (Nat.lcm_pos a8 (k z (by simp))) λy bE=>k y (qau _ bE)
 exact fr zs 1 (by decide) h
theorem ZgU{ls:List B5}{bn:Fo.ZH}{first:Int}{es:Int→List Fo.Trip}{zs:List (Int×(Nat×Nat))}(bc:Fo.Z1 es first bn)(h:i_ ls bn zs bn.length){k:Nat}(a5:∀y∈zs,k ∣ lcmL zs / y.2.2*y.2.1):k=1:=by
 have nH:0<bn.length:=(GM.mp bc.head).1;have de:=qal (h.first 0 first nH bc.head);have kC:k ∣ lcmL zs:=by
  have:=a5 _ de;simpa using this
 have Rv:0<lcmL zs:=AI λy bE=>(h.pos y bE).2.1;obtain⟨c,a8⟩:=kC;have k0:0<k:=by
  rcases qbj k with z|z
  ·rw[z,Nat.zero_mul] at a8;omega
  ·exact z
 have all:∀y∈zs,y.2.2 ∣ c:=by
  intro y bE;obtain⟨gc,iR,kN⟩:=h.pos y bE;obtain⟨m,bo⟩:=a5 y bE;have bw:lcmL zs / y.2.2*y.2.2=lcmL zs:=qbv (sy bE);have bC:k*(c*y.2.1)=k*(y.2.2*m):=by
   calc k*(c*y.2.1)=lcmL zs*y.2.1:=by rw[a8,qa2]
    _=(lcmL zs / y.2.2*y.2.1)*y.2.2:=by
     conv=>lhs;rw[←bw]
     rw[Nat.mul_right_comm]
    _=k*m*y.2.2:=by rw[bo]
    _=k*(y.2.2*m):=by rw[qa2,qbo m]
  have dP:=qbF k0 bC;have d:y.2.2 ∣ c*y.2.1:=⟨m,dP⟩;exact Nat.Coprime.dvd_of_dvd_mul_right (show Nat.gcd y.2.2 y.2.1=1 by rw[Nat.gcd_comm];exact kN) d
 have hd:=ZkB all;rw[a8] at hd;have c0:0<c:=by
  rcases qbj c with z|z
  ·rw[z,Nat.mul_zero] at a8;omega
  ·exact z
 have:=qbZ c0 hd;rcases qbw k 2 with z|z
 ·omega
 ·have:2*c≤k*c:=Nat.mul_le_mul_right c z;omega
structure Zmi(ls:List B5)(z:Int→Nat):Prop where
 pos:∀w,0<z w
 bal:∀i<ls.length,(ls.getD i dB).give.toNat*z (ls.getD i dB).giver=(ls.getD i dB).take.toNat*z (ls.getD i dB).taker
theorem ZlK{zs:List (Int×(Nat×Nat))}(h:∀y∈zs,y.2.2<2 ^ 6700):lcmL zs<2 ^ (6700*zs.length+1):=by
 have fr:∀(zs:List (Int×(Nat×Nat)))(c n:Nat),c<2 ^ n→(∀y∈zs,y.2.2<2 ^ 6700)→zs.foldl (λc x=>Nat.lcm c x.2.2) c<2 ^ (n+6700*zs.length):=by
  intro zs
  induction zs with
  |nil=>intro c n a8 _;simpa using a8
  |cons z zs bP=>
   intro c n a8 k;have:=bP (Nat.lcm c z.2.2) (n+6700) (AF a8 (k z (by simp))) λy bE=>k y (qau _ bE);have e:n+6700+6700*zs.length=n+6700*(z::zs).length:=by simp[Nat.mul_succ];omega
   rw[e] at this;exact this
 have:=fr zs 1 1 (by decide) h;rw[Nat.add_comm];exact this
section
variable {ls:List B5}{n:Nat}{F:List (Int×Fo.ZH)}{rs:List Int}
theorem Zdi{x:Int×Fo.ZH}{zs:List (Int×(Nat×Nat))}(h:i_ ls x.2 zs x.2.length){w:Int}(hw:w∈Fo.keys x.2):∃y∈zs,y.1=w:=by
 have aS:=h.keys;have a2:(Fo.keys x.2).take x.2.length=Fo.keys x.2:=qaZ (by simp[Fo.keys]);rw[a2] at aS;rw[←aS] at hw;obtain⟨y,bE,e⟩:=qah.mp hw;exact⟨y,bE,e⟩
theorem Zgh(eA:ZU ls n)(bF:n≤60)(fw:Fo.WQ (fJ ls) n F n)(hp:rs.length=n)(hQ:∀x∈F,nG ls x rs):Zn9 ls n rs:=by
 refine⟨hp,λc a8=>?_⟩;obtain⟨i,hi,rfl⟩:=qaw a8;obtain⟨x,aT,a5⟩:=fw.all (i:Int) (by omega) (by omega);obtain⟨zs,bc,hz⟩:=hQ x aT;obtain⟨y,bE,fk⟩:=Zdi bc a5;have aS:=hz y bE;rw[fk,qab,GT hi] at aS;obtain⟨g,G',ff,g1⟩:=fw.tree x aT;have qA:x.2.length≤60:=by
  have:=Fo.UR (n:=n) g.nodup (g.rg ⟨ff,g1⟩ (nE eA));simp[Fo.keys] at this;omega
 have AJ:=bc.len (fm _);have sz:∀y∈zs,y.2.1<2 ^ 6700∧y.2.2<2 ^ 6700:=λy bE=>by
  obtain⟨j,bj⟩:=qa6 bE;have i3:=(GM.mp bj).1;obtain⟨a,b⟩:=bc.size j y bj;have e:(2:Nat) ^ (110*j+1)≤2 ^ 6700:=qaA (by decide) (by omega);exact⟨qaf a e,qaf b e⟩
 have mh:=ZlK λy bE=>(sz y bE).2;obtain⟨gc,iR,_⟩:=bc.pos y bE;refine⟨_,qam aS,qbV (Nat.div_pos (qbZ (AI λy bE=>(bc.pos y bE).2.1) (sy bE)) iR) gc,?_⟩;refine qaf (qx (qaK (qbi _ _) mh) (sz y bE).1) (qaA (by decide) ?_);have:6700*zs.length≤6700*60:=qb6 _ (by omega);omega
end
inductive fb(bn:Fo.ZH):Int→List (Int×Bool)→Prop
 |root {w:Int} {i:Nat}:bn[i]? =some (w,none)→fb bn w []
 |step {w p b:Int} {al:Bool} {i:Nat} {ps:List (Int×Bool)}:bn[i]? =some (w,some (p,b,al))→fb bn p ps→fb bn w (ps++ [(b,al)])
theorem ZdS{H:Hp}:∀{kvs:List (Key×V)}{bn:Fo.ZH}{i:Nat}{w:Int}{s:Option Fo.Trip},Ent H kvs bn→(Fo.keys bn).Nodup→bn[i]? =some (w,s)→∃v,valV kvs (Sum.inl w)=some v∧my H v s
 |_,_,_,_,_,.nil,_,h=>by simp at h
 |kv::_,z::_,0,w,s,.cons ⟨a,e⟩ r,nd,h=>by
  obtain⟨k,v⟩:=kv;obtain rfl:z=(w,s):=by simpa using h
  dsimp only at a e;subst a;exact⟨v,iW rfl,e⟩
 |kv::_,z::bn,i+1,w,s,.cons ⟨a,e⟩ r,nd,h=>by
  obtain⟨k,v⟩:=kv;obtain⟨dY,x⟩:=z;dsimp only at a e;subst a;have h':bn[i]? =some (w,s):=by simpa using h
  have AK:(dY::Fo.keys bn).Nodup:=nd;have c:dY≠w:=λy=>(qbs.mp AK).1 (y▸Fo.Wx h');obtain⟨jG,aS,a2⟩:=ZdS r (qbs.mp AK).2 h';exact⟨jG,by rw[iX (λy=>c (qbU y))];exact aS,a2⟩
noncomputable def ft (H:Hp):List V→List (Int×Bool)→Prop:=Paired λv x=>∃t,v= .ref t∧H t=some (.tup [.int x.1,.bl x.2])
theorem ft.keep{H H':Hp}(t:∀b xs,H b=some (.tup xs)→H' b=some (.tup xs)){vs:List V}{l:List (Int×Bool)}(h:ft H vs l):ft H' vs l:=Paired.mapP h λ_ _ ⟨a,e,z⟩=>⟨a,e,t _ _ z⟩
theorem ft.snoc{H:Hp}:∀{vs:List V}{l:List (Int×Bool)}{x:Int×Bool}{t:Addr},ft H vs l→H t=some (.tup [.int x.1,.bl x.2])→ft H (vs++ [.ref t]) (l++ [x])
 |_,_,_,_,.nil,h=> .cons ⟨_,rfl,h⟩ .nil
 |_,_,_,_,.cons y r,h=> .cons y (ft.snoc r h)
theorem ft.rev{H:Hp}:∀{vs:List V}{l:List (Int×Bool)},ft H vs l→ft H vs.reverse l.reverse
 |_,_,.nil=> .nil
 |_,_,.cons ⟨t,e,h⟩ r=>by
  subst e;rw[qbJ,qbJ];exact ft.snoc (ft.rev r) h
theorem ft.length{H:Hp}{vs:List V}{l:List (Int×Bool)}(h:ft H vs l):vs.length=l.length:=Paired.length h
theorem qB{H H':Hp}{d:Addr}{kvs:List (Key×V)}(h:L2.Rd H d (.dK kvs))(s:Ze H H'):L2.Rd H' d (.dK kvs):=h.imp (s _ _) (λ⟨o,z⟩=>⟨o,s _ _ z⟩)
noncomputable def kf (bi:Int) (pg pt:List (Int×Bool)) (k:Nat):List (Int×Bool):=(bi,true)::((pt.drop k).reverse.map λx=>(x.1,!x.2))++pg.drop k
theorem ZkV(a b:Int)(x y:Bool):PyData.eqv (.tuple [.int a,.bool x]) (.tuple [.int b,.bool y])=decide (a=b∧x=y):=by
 cases x<;>cases y<;>simp[PyData.eqv,PyData.eqvAll]<;>by_cases h:a=b<;>simp[h]
theorem AL{K:Frag}{H:Hp}{t:Addr}{a:Int}{x:Bool}(h:H t=some (.tup [.int a,.bl x])):gd K H (.ref t) (.tuple [.int a,.bool x]):= .tup (.of h) (.cons (.int _) (.cons (.bl _) .nil))
theorem AM(a:Int)(x:Bool):(PyData.tuple [.int a,.bool x]).canLay0=true:=by simp[PyData.canLay0,PyData.canLayAll0]
theorem Ha(a:Int)(x:Bool):(PyData.tuple [.int a,.bool x]).depth≤60:=by simp[PyData.depth,PyData.depthAll]
theorem ZbN{H:Hp}:∀{vs:List V}{ps:List (Int×Bool)}{i:Nat}{x:Int×Bool},ft H vs ps→ps[i]? =some x→∃t,vs[i]? =some (.ref t)∧H t=some (.tup [.int x.1,.bl x.2])
 |_,_,_,_,.nil,e=>by simp at e
 |_,_,0,_,.cons ⟨t,bw,h⟩ _,e=>by simp at e;subst e;exact⟨t,by simp[bw],h⟩
 |_,_,i+1,x,.cons _ r,e=>by
  obtain⟨t,aS,a2⟩:=ZbN (i:=i) (x:=x) r (by simpa using e);exact⟨t,by simpa using aS,a2⟩
def UD(W:Int→List Fo.Trip)(dk bL:Int→Int):Prop:=∀(p o b:Int)(al:Bool),(o,b,al)∈W p→(al=true∧p=dk b∧o=bL b)∨(al=false∧p=bL b∧o=dk b)
noncomputable def Zbs (dk bL:Int→Int) (x:Int×Bool):Int:=if x.2=true then dk x.1 else bL x.1
noncomputable def sA (dk bL:Int→Int) (x:Int×Bool):Int:=if x.2=true then bL x.1 else dk x.1
noncomputable def gl (dk bL:Int→Int):Int→List (Int×Bool)→Int→Prop
 |a,[],c=>a=c
 |a,x::ps,c=>Zbs dk bL x=a∧gl dk bL (sA dk bL x) ps c
theorem gl.app{dk bL:Int→Int}:∀{ps:List (Int×Bool)}{a m c:Int}{eN:List (Int×Bool)},gl dk bL a ps m→gl dk bL m eN c→gl dk bL a (ps++eN) c
 | [],_,_,_,_,h,k=>by
  have e:_=_:=h;rw[e];exact k
 |_::_,_,_,_,_,h,k=>⟨h.1,gl.app h.2 k⟩
theorem gl.split{dk bL:Int→Int}:∀{ps:List (Int×Bool)}{a c:Int}{eN:List (Int×Bool)},gl dk bL a (ps++eN) c→∃m,gl dk bL a ps m∧gl dk bL m eN c
 | [],a,_,_,h=>⟨a,rfl,h⟩
 |x::ps,_,_,_,h=>by
  obtain⟨m,aS,a2⟩:=gl.split (ps:=ps) h.2;exact⟨m,⟨h.1,aS⟩,a2⟩
theorem gl.det{dk bL:Int→Int}:∀{ps:List (Int×Bool)}{a c eg:Int},gl dk bL a ps c→gl dk bL a ps eg→c=eg
 | [],_,_,_,h,k=>by
  have e:_=_:=h;have b1:_=_:=k;exact e.symm.trans b1
 |_::ps,_,_,_,h,k=>gl.det (ps:=ps) h.2 k.2
theorem gl.rev{dk bL:Int→Int}:∀{ps:List (Int×Bool)}{a c:Int},gl dk bL a ps c→gl dk bL c (ps.reverse.map λx=>(x.1,!x.2)) a
 | [],_,_,h=>by
  have e:_=_:=h;exact e.symm
 |(b,al)::ps,a,c,h=>by
  have bP:=gl.rev (ps:=ps) h.2;rw[qbJ,qaG];refine bP.app ?_;have aS:=h.1;refine⟨?_,?_⟩
  ·cases al<;>simp[Zbs,sA]
  ·show sA dk bL (b,!al)=a;rw[←aS];cases al<;>simp[Zbs,sA]
section
variable {W:Int→List Fo.Trip}{first:Int}{bn:Fo.ZH}{dk bL:Int→Int}
theorem WF{i j:Nat}{w:Int}{s s':Option Fo.Trip}(nd:(Fo.keys bn).Nodup)(aS:bn[i]? =some (w,s))(a2:bn[j]? =some (w,s')):i=j:=by
 have bw:(Fo.keys bn)[i]? =some w:=by simp[Fo.keys,aS]
 have bC:(Fo.keys bn)[j]? =some w:=by simp[Fo.keys,a2]
 exact(List.getElem?_inj (GM.mp bw).1 nd).mp (bw.trans bC.symm)
theorem ZeI(bc:Fo.Z1 W first bn)(hq:UD W dk bL){i hm:Nat}{w dY p fc b:Int}{al sc:Bool}(h:bn[i]? =some (w,some (p,b,al)))(h':bn[hm]? =some (dY,some (fc,b,sc))):i=hm:=by
 obtain⟨m,j,s,bj,hc⟩:=bc.steps _ _ _ _ _ h;obtain⟨da,p9,s',gD,AN⟩:=bc.steps _ _ _ _ _ h';rcases hq _ _ _ _ m with⟨_,dj,dM⟩|⟨_,dj,dM⟩<;>rcases hq _ _ _ _ da with⟨_,fV,i8⟩|⟨_,fV,i8⟩
 ·have e:w=dY:=dM.trans i8.symm;subst e;exact WF bc.nodup h h'
 ·have e:w=fc:=dM.trans fV.symm;have b1:p=dY:=dj.trans i8.symm;subst e b1;have:=WF bc.nodup h AN;have:=WF bc.nodup h' hc;omega
 ·have e:w=fc:=dM.trans fV.symm;have b1:p=dY:=dj.trans i8.symm;subst e b1;have:=WF bc.nodup h AN;have:=WF bc.nodup h' hc;omega
 ·have e:w=dY:=dM.trans i8.symm;subst e;exact WF bc.nodup h h'
theorem fb.walk(bc:Fo.Z1 W first bn)(hq:UD W dk bL){w:Int}{ps:List (Int×Bool)}(h:fb bn w ps):gl dk bL first ps w:=by
 induction h with
 |root e=>
  have:=bc.only _ _ e;subst this;rw[bc.head] at e;cases e
  rfl
 |step e _ bP=>
  refine bP.app ?_;obtain⟨m,_⟩:=bc.steps _ _ _ _ _ e;rcases hq _ _ _ _ m with⟨a1,dj,dM⟩|⟨a1,dj,dM⟩
  ·subst a1;exact⟨dj.symm,dM.symm⟩
  ·subst a1;exact⟨dj.symm,dM.symm⟩
theorem fb.origin(bc:Fo.Z1 W first bn){w:Int}{ps:List (Int×Bool)}(h:fb bn w ps):∀{i:Nat}{s:Option Fo.Trip},bn[i]? =some (w,s)→∀x∈ps,∃(hm:Nat)(dY fc:Int),hm≤i∧bn[hm]? =some (dY,some (fc,x.1,x.2)):=by
 induction h with
 |root e=>intro i s _ x aT;cases aT
 | @step w p b al i0 ps e h bP=>
  intro i s hi x aT;have fX:=WF bc.nodup e hi;subst fX;obtain⟨_,j,oS,bj,hc⟩:=bc.steps _ _ _ _ _ e;rcases qax.mp aT with z|z
  ·obtain⟨hm,dY,fc,a,c⟩:=bP hc x z;exact⟨hm,dY,fc,by omega,c⟩
  ·rw[FM.mp z];exact⟨i0,w,p,fm _,e⟩
theorem fb.nodup(bc:Fo.Z1 W first bn)(hq:UD W dk bL){w:Int}{ps:List (Int×Bool)}(h:fb bn w ps):(ps.map (·.1)).Nodup:=by
 induction h with
 |root e=>exact List.nodup_nil
 | @step w p b al i0 ps e h bP=>
  rw[qaG];refine qa4.mpr ⟨bP,by simp,λx aT y bE b1=>?_⟩;obtain rfl:y=b:=by simpa using bE
  obtain⟨z,hz,Hb⟩:=qah.mp aT;obtain⟨_,j,oS,bj,hc⟩:=bc.steps _ _ _ _ _ e;obtain⟨hm,dY,fc,a,c⟩:=h.origin bc hc z hz;rw[Hb,b1] at c;have:=ZeI bc hq e c;omega
theorem fb.uniq(bc:Fo.Z1 W first bn){w:Int}{ps:List (Int×Bool)}(h:fb bn w ps):∀{eN:List (Int×Bool)},fb bn w eN→ps=eN:=by
 induction h with
 |root e=>
  intro eN k;cases k with
  |root _=>rfl
  |step b1 _=>
   have:=WF bc.nodup e b1;subst this;rw[e] at b1;cases b1
 |step e _ bP=>
  intro eN k;cases k with
  |root b1=>
   have:=WF bc.nodup e b1;subst this;rw[e] at b1;cases b1
  |step b1 gI=>
   have:=WF bc.nodup e b1;subst this;rw[e] at b1;cases b1;rw[bP gI]
theorem fb.pre{w:Int}{ps:List (Int×Bool)}(h:fb bn w ps):∀{m:Nat}{x:Int×Bool},ps[m]? =some x→∃(hm:Nat)(dY fc:Int),bn[hm]? =some (dY,some (fc,x.1,x.2))∧fb bn dY (ps.take (m+1)):=by
 induction h with
 |root e=>intro m x aT;simp at aT
 | @step w p b al i0 ps e h bP=>
  intro m x aT;rcases qbw m ps.length with c|c
  ·rw[qaW c] at aT;obtain⟨hm,dY,fc,aS,a2⟩:=bP aT;refine⟨hm,dY,fc,aS,?_⟩;rw[List.take_append_of_le_length (by omega)];exact a2
  ·have aJ:=(GM.mp aT).1;rw[qap] at aJ;have em:m=ps.length:=by simp at aJ;omega
   subst em;rw[qaV (fm _),Nat.sub_self] at aT;obtain rfl:(b,al)=x:=by simpa using aT
   refine⟨i0,w,p,e,?_⟩;rw[qaZ (by simp)];exact .step e h
theorem Zh9(bc:Fo.Z1 W first bn)(hq:UD W dk bL){g t:Int}{pg pt:List (Int×Bool)}{k:Nat}(bb:fb bn g pg)(bT:fb bn t pt)(bo:k=pg.length∨k=pt.length∨pg[k]? ≠pt[k]?){x y:Int×Bool}(aT:x∈pt.drop k)(bE:y∈pg.drop k):x.1≠y.1:=by
 intro e;obtain⟨Rw,Rx⟩:=x;obtain⟨Ry,Rz⟩:=y;dsimp only at e;subst e;obtain⟨m,qC⟩:=qa6 aT;obtain⟨da,vH⟩:=qa6 bE;rw[List.getElem?_drop] at qC vH;have mA:=(GM.mp qC).1;have vI:=(GM.mp vH).1;obtain⟨jM,g8,gc,a1,c1⟩:=bT.pre qC;obtain⟨l9,ky,iR,dj,c2⟩:=bb.pre vH;have:=ZeI bc hq a1 dj;subst this;rw[a1] at dj;cases dj;have eX:=c1.uniq bc c2;have hM:=congrArg List.length eX;rw[qaI,qaI] at hM;rcases bo with z|z|z
 ·omega
 ·omega
 ·apply z;have bw:(pg.take (k+da+1))[k]? =pg[k]? :=by rw[List.getElem?_take,if_pos (by omega)]
  have bC:(pt.take (k+m+1))[k]? =pt[k]? :=by rw[List.getElem?_take,if_pos (by omega)]
  rw[←bw,←bC,eX]
theorem Hc(bc:Fo.Z1 W first bn)(hq:UD W dk bL){g t bi:Int}{pg pt:List (Int×Bool)}{k:Nat}(bb:fb bn g pg)(bT:fb bn t pt)(bo:k=pg.length∨k=pt.length∨pg[k]? ≠pt[k]?)(aN:∀x∈pg,x.1≠bi)(gC:∀x∈pt,x.1≠bi):((kf bi pg pt k).map (·.1)).Nodup:=by
 unfold kf;rw[List.cons_append,List.map_cons,qaG,qbh,qbs];have i2:=(bT.nodup bc hq).sublist ((List.drop_sublist k pt).map (·.1));have jl:=(bb.nodup bc hq).sublist ((List.drop_sublist k pg).map (·.1));have e:((pt.drop k).reverse.map ((λx:Int×Bool=>x.1)∘λx=>(x.1,!x.2)))=((pt.drop k).map (·.1)).reverse:=by
  rw[List.map_reverse];rfl
 rw[e];refine⟨λz=>?_,?_⟩
 ·rcases qax.mp z with z|z
  ·obtain⟨x,aT,ex⟩:=qah.mp (List.mem_reverse.mp z);exact gC x (qby aT) ex
  ·obtain⟨x,aT,ex⟩:=qah.mp z;exact aN x (qby aT) ex
 ·refine qa4.mpr ⟨(List.reverse_perm _).nodup_iff.mpr i2,jl,λa bx b vJ bC=>?_⟩;obtain⟨x,aT,ex⟩:=qah.mp (List.mem_reverse.mp bx);obtain⟨y,bE,fk⟩:=qah.mp vJ;exact Zh9 bc hq bb bT bo aT bE (ex.trans (bC.trans fk.symm))
theorem Hd(bc:Fo.Z1 W first bn)(hq:UD W dk bL){bi:Int}{pg pt:List (Int×Bool)}{k:Nat}(bb:fb bn (dk bi) pg)(bT:fb bn (bL bi) pt)(a5:pg.take k=pt.take k):gl dk bL (dk bi) (kf bi pg pt k) (dk bi):=by
 have g8:=bb.walk bc hq;have ky:=bT.walk bc hq;rw[←qbE k pg] at g8;rw[←qbE k pt] at ky;obtain⟨hD,a1,dj⟩:=g8.split;obtain⟨il,fC,fV⟩:=ky.split;rw[a5] at a1;have e:=a1.det fC;subst e;unfold kf;exact gl.app (ps:=(bi,true)::_) ⟨rfl,fV.rev⟩ dj
end
noncomputable def prN (dU bA:Int→Nat):List (Int×Bool)→Nat
 | []=>1
 |x::ps=>(if x.2=true then dU x.1 else bA x.1)*prN dU bA ps
theorem kP(dU bA:Int→Nat):∀ps eN,prN dU bA (ps++eN)=prN dU bA ps*prN dU bA eN
 | [],eN=>(Nat.one_mul _).symm
 |x::ps,eN=>by
  show _*prN dU bA (ps++eN)=_*prN dU bA ps*_;rw[kP dU bA ps eN,qa2]
theorem vK(dU bA:Int→Nat):∀ps,prN dU bA (ps.reverse.map λx=>(x.1,!x.2))=prN bA dU ps
 | []=>rfl
 |(b,al)::ps=>by
  rw[qbJ,qaG,kP,vK dU bA ps];show prN bA dU ps*((if(!al)=true then dU b else bA b)*1)=(if al=true then bA b else dU b)*prN bA dU ps;cases al<;>simp[qbo]
theorem qD{dU bA:Int→Nat}:∀{ps:List (Int×Bool)},(∀x∈ps,0<dU x.1∧0<bA x.1)→0<prN dU bA ps
 | [],_=>Nat.one_pos
 |x::ps,h=>by
  refine qbV ?_ (qD λy bE=>h y (qau _ bE));have:=h x (qaY ..)
  split
  ·exact this.1
  ·exact this.2
section
variable {W:Int→List Fo.Trip}{first:Int}{bn:Fo.ZH}{dU bA:Int→Nat}{eP:Int→Nat×Nat}
structure Shared(dU bA:Int→Nat)(first:Int)(bn:Fo.ZH)(eP:Int→Nat×Nat):Prop where
 one:eP first=(1,1)
 pos:∀w∈Fo.keys bn,0<(eP w).1∧0<(eP w).2
 step:∀(i:Nat)(w p b:Int)(al:Bool),bn[i]? =some (w,some (p,b,al))→(eP w).1*(eP p).2*(if al=true then bA b else dU b)=(eP p).1*(eP w).2*(if al=true then dU b else bA b)
theorem fb.share(bc:Fo.Z1 W first bn)(hs:Shared dU bA first bn eP){w:Int}{ps:List (Int×Bool)}(h:fb bn w ps):(eP w).1*prN bA dU ps=(eP w).2*prN dU bA ps:=by
 induction h with
 |root e=>
  have:=bc.only _ _ e;subst this;rw[bc.head] at e;cases e;rw[hs.one]
  rfl
 | @step w p b al i ps e h bP=>
  obtain⟨_,j,oS,bj,hc⟩:=bc.steps _ _ _ _ _ e;have He:=(hs.pos p (Fo.Wx hc)).2;have fa:=hs.step _ _ _ _ _ e;rw[kP,kP];show(eP w).1*(prN bA dU ps*((if al=true then bA b else dU b)*1))=(eP w).2*(prN dU bA ps*((if al=true then dU b else bA b)*1));generalize (if al=true then bA b else dU b)=et at*;generalize (if al=true then dU b else bA b)=nm at*;generalize prN bA dU ps=D at*;generalize prN dU bA ps=N at*;refine qbF He ?_
  calc (eP p).2*((eP w).1*(D*(et*1)))=((eP w).1*(eP p).2*et)*D:=by simp only[Nat.mul_one,qbo,qbq,qa2]
   _=(eP p).1*(eP w).2*nm*D:=by rw[fa]
   _=(eP w).2*nm*((eP p).1*D):=by simp only[qbo,qbq,qa2]
   _=(eP w).2*nm*((eP p).2*N):=by rw[bP]
   _=(eP p).2*((eP w).2*(N*(nm*1))):=by simp only[Nat.mul_one,qbo,qbq,qa2]
theorem Hf(bc:Fo.Z1 W first bn)(hs:Shared dU bA first bn eP)(hL:∀(i:Nat)(w p b:Int)(al:Bool),bn[i]? =some (w,some (p,b,al))→0<dU b∧0<bA b){g t bi:Int}{pg pt:List (Int×Bool)}{k:Nat}(bb:fb bn g pg)(bT:fb bn t pt)(vL:g∈Fo.keys bn)(gw:t∈Fo.keys bn)(a5:pg.take k=pt.take k)
  (eO:(eP g).1*(eP t).2*dU bi≠(eP t).1*(eP g).2*bA bi):prN dU bA (kf bi pg pt k)≠prN bA dU (kf bi pg pt k):=by
 intro e;apply eO;have bw:=bb.share bc hs;have bC:=bT.share bc hs;have sub:∀{w:Int}{ps:List (Int×Bool)},fb bn w ps→w∈Fo.keys bn→∀x∈ps,0<dU x.1∧0<bA x.1:=λh hw x aT=>by
  obtain⟨i,s,hi⟩:=Fo.VI hw;obtain⟨hm,dY,fc,_,c⟩:=h.origin bc hi x aT;exact hL _ _ _ _ _ c
 have kg:=sub bb vL;have qE:=sub bT gw;rw[←qbE k pg,kP,kP,a5] at bw;rw[←qbE k pt,kP,kP] at bC;unfold kf at e;rw[kP,kP] at e;have e':prN dU bA ((bi,true)::((pt.drop k).reverse.map λx=>(x.1,!x.2)))=dU bi*prN bA dU (pt.drop k):=by
  show dU bi*prN dU bA _=_;rw[vK]
 have iD:prN bA dU ((bi,true)::((pt.drop k).reverse.map λx=>(x.1,!x.2)))=bA bi*prN dU bA (pt.drop k):=by
  show bA bi*prN bA dU _=_;rw[vK]
 rw[e',iD] at e;have c0:0<prN dU bA (pt.take k):=qD λx aT=>qE x (List.mem_of_mem_take aT);have AO:0<prN bA dU (pt.take k):=qD λx aT=>(qE x (List.mem_of_mem_take aT)).symm;have b0:0<prN bA dU (pg.drop k):=qD λx aT=>(kg x (qby aT)).symm;have ef:0<prN dU bA (pt.drop k):=qD λx aT=>qE x (qby aT);generalize prN dU bA (pt.take k)=c at*;generalize prN bA dU (pt.take k)=d at*;generalize prN dU bA (pg.drop k)=a at*;generalize prN bA dU (pg.drop k)=b at*;generalize prN dU bA (pt.drop k)=f at*;generalize prN bA dU (pt.drop k)=h at*;refine qbF (qbV (qbV AO b0) (qbV c0 ef)) ?_
 calc d*b*(c*f)*((eP g).1*(eP t).2*dU bi)=((eP g).1*(d*b))*((eP t).2*(c*f))*dU bi:=by simp only[qbo,qbq,qa2]
  _=((eP g).2*(c*a))*((eP t).1*(d*h))*dU bi:=by rw[bw,bC]
  _=(eP g).2*(eP t).1*(c*d)*(dU bi*h*a):=by simp only[qbo,qbq,qa2]
  _=(eP g).2*(eP t).1*(c*d)*(bA bi*f*b):=by rw[e]
  _=d*b*(c*f)*((eP t).1*(eP g).2*bA bi):=by simp only[qbo,qbq,qa2]
end
noncomputable def gvI (ls:List B5) (b:Int):Int:=(ls.getD b.toNat dB).giver
noncomputable def tkI (ls:List B5) (b:Int):Int:=(ls.getD b.toNat dB).taker
noncomputable def giN (ls:List B5) (b:Int):Nat:=(ls.getD b.toNat dB).give.toNat
noncomputable def taN (ls:List B5) (b:Int):Nat:=(ls.getD b.toNat dB).take.toNat
theorem ZlP(ls:List B5):UD (fJ ls) (gvI ls) (tkI ls):=λp o b al h=>by
 obtain⟨i,hi,bo⟩:=VM h;rcases WX.mp bo with⟨bw,bC⟩|⟨bw,bC⟩
 ·injection bC with bC dP
  injection dP with dP g4
  subst bC dP g4;exact .inl ⟨rfl,bw.symm,rfl⟩
 ·injection bC with bC dP
  injection dP with dP g4
  subst bC dP g4;exact .inr ⟨rfl,bw.symm,rfl⟩
theorem ZeC{ls:List B5}{p o b:Int}{al:Bool}(h:(o,b,al)∈fJ ls p):0≤b∧b<(ls.length:Int):=by
 obtain⟨i,hi,bo⟩:=VM h;rcases WX.mp bo with⟨bw,bC⟩|⟨bw,bC⟩
 ·injection bC with bC dP
  injection dP with dP g4
  subst dP;omega
 ·injection bC with bC dP
  injection dP with dP g4
  subst dP;omega
noncomputable def mB (zs:List (Int×(Nat×Nat))) (w:Int):Nat×Nat:=((zs.find? λy=>decide (y.1=w)).map (·.2)).getD (1,1)
theorem nI:∀{zs:List (Int×(Nat×Nat))}{y:Int×(Nat×Nat)},(zs.map (·.1)).Nodup→y∈zs→mB zs y.1=y.2
 |z::zs,y,nd,h=>by
  rw[List.map_cons,qbs] at nd;unfold mB;rw[qbt]
  by_cases c:z.1=y.1
  ·rcases qad.mp h with e|e
   ·subst e;simp
   ·exact absurd (qah.mpr ⟨y,e,c.symm⟩) nd.1
  ·have e:=(qad.mp h).resolve_left (λe=>c (by rw[e]));have bP:=nI nd.2 e;unfold mB at bP;simp only[c,decide_false];exact bP
section
variable {ls:List B5}{n:Nat}{F:List (Int×Fo.ZH)}{rs:List Int}{bn:Fo.ZH}{first:Int}{zs:List (Int×(Nat×Nat))}
theorem Zf8(bc:Fo.Z1 (fJ ls) first bn)(h:i_ ls bn zs bn.length):(zs.map (·.1)).Nodup:=by
 rw[h.keys];exact bc.nodup.sublist (List.take_sublist _ _)
theorem Zjb(bc:Fo.Z1 (fJ ls) first bn)(h:i_ ls bn zs bn.length):Shared (giN ls) (taN ls) first bn (mB zs):=by
 have nd:=Zf8 bc h;have nH:0<bn.length:=(GM.mp bc.head).1;refine⟨nI (y:=(first,(1,1))) nd (qal (h.first 0 first nH bc.head)),λw hw=>?_,λi w p b al e=>?_⟩
 ·obtain⟨y,bE,fk⟩:=Zdi (x:=(first,bn)) h hw;rw[←fk,nI nd bE];exact⟨(h.pos y bE).1,(h.pos y bE).2.1⟩
 ·obtain⟨j,x,y,bj,aS,a2,aN⟩:=h.step i w p b al (GM.mp e).1 e;rw[nI (y:=(w,x)) nd (qal aS),nI (y:=(p,y)) nd (qal a2)];unfold Bal at aN;cases al with
  |true=>rw[if_pos rfl] at aN;exact aN
  |false=>rw[if_neg (by decide)] at aN;exact aN
theorem ZbE(bc:Fo.Z1 (fJ ls) first bn)(h:i_ ls bn zs bn.length)(hs:∀y∈zs,rs[y.1.toNat]? =some ((lcmL zs / y.2.2*y.2.1:Nat):Int)){b:B5}{dk bL:Nat}(fy:b.give=(dk:Int))(eX:b.take=(bL:Int))(vL:b.giver∈Fo.keys bn)(gw:b.taker∈Fo.keys bn)
  (e:(mB zs b.giver).1*(mB zs b.taker).2*dk=(mB zs b.taker).1*(mB zs b.giver).2*bL):h1 rs b=0:=by
 have nd:=Zf8 bc h;obtain⟨ja,sB,AQ⟩:=Zdi (x:=(first,bn)) h vL;obtain⟨jt,sC,AR⟩:=Zdi (x:=(first,bn)) h gw;rw[←AQ,←AR,nI nd sB,nI nd sC] at e;have df:=hs ja sB;have dO:=hs jt sC;rw[AQ] at df;rw[AR] at dO;have bw:rs.getD b.giver.toNat 0=((lcmL zs / ja.2.2*ja.2.1:Nat):Int):=by rw[qaN,df];rfl
 have bC:rs.getD b.taker.toNat 0=((lcmL zs / jt.2.2*jt.2.1:Nat):Int):=by rw[qaN,dO];rfl
 have kz:=qbv (sy sB);have ic:=qbv (sy sC);have gc:=(h.pos ja sB).2.1;have iR:=(h.pos jt sC).2.1;generalize lcmL zs / ja.2.2=A at*;generalize lcmL zs / jt.2.2=B at*;generalize lcmL zs=C at*;have fr:A*ja.2.1*dk=B*jt.2.1*bL:=by
  refine qbF (qbV gc iR) ?_
  calc ja.2.2*jt.2.2*(A*ja.2.1*dk)=A*ja.2.2*(ja.2.1*jt.2.2*dk):=by simp only[qbo,qbq,qa2]
   _=B*jt.2.2*(jt.2.1*ja.2.2*bL):=by rw[e,kz,ic]
   _=ja.2.2*jt.2.2*(B*jt.2.1*bL):=by simp only[qbo,qbq,qa2]
 unfold h1;rw[bw,bC,fy,eX];have k2:((A*ja.2.1:Nat):Int)*(dk:Int)=((B*jt.2.1:Nat):Int)*(bL:Int):=by
  rw[←qbI,←qbI,fr]
 omega
structure nJ(ls:List B5)(ring:List (Int×Bool)):Prop where
 some_:ring≠[]
 rg:∀x∈ring,0≤x.1∧x.1<(ls.length:Int)
 nd:(ring.map (·.1)).Nodup
 walk:∃a,gl (gvI ls) (tkI ls) a ring a
 odd:prN (giN ls) (taN ls) ring≠prN (taN ls) (giN ls) ring
theorem fb.mem{w:Int}{ps:List (Int×Bool)}(h:fb bn w ps):w∈Fo.keys bn:=by
 cases h with
 |root e=>exact Fo.Wx e
 |step e _=>exact Fo.Wx e
theorem Hg(eA:ZU ls n)(hsz:WC ls)(fw:Fo.WQ (fJ ls) n F n)(hQ:∀x∈F,nG ls x rs){bi:Nat}(nK:bi<ls.length)(hf:h1 rs (ls.getD bi dB)≠0){x:Int×Fo.ZH}(aT:x∈F){pg pt:List (Int×Bool)}{k:Nat}(bb:fb x.2 (ls.getD bi dB).giver pg)(bT:fb x.2 (ls.getD bi dB).taker pt)(a5:pg.take k=pt.take k)(bo:k=pg.length∨k=pt.length∨pg[k]? ≠pt[k]?):nJ ls (kf bi pg pt k):=by
 obtain⟨bc,_,_,_⟩:=fw.tree x aT;obtain⟨zs,gE,hs⟩:=hQ x aT;have hq:=ZlP ls;have j6:=Zjb bc gE;have hL:∀(i:Nat)(w p b:Int)(al:Bool),x.2[i]? =some (w,some (p,b,al))→0<giN ls b∧0<taN ls b:=λi w p b al e=>by
  obtain⟨aS,_⟩:=bc.steps _ _ _ _ _ e;obtain⟨b0,fC⟩:=ZeC aS;obtain⟨dk,bL,ff,gj,_,_,fy,eX⟩:=hsz b.toNat (by omega);unfold giN taN;rw[fy,eX];exact⟨by omega,by omega⟩
 have sD:∀{w:Int}{ps:List (Int×Bool)},fb x.2 w ps→∀y∈ps,(0≤y.1∧y.1<(ls.length:Int))∧y.1≠(bi:Int):=λ{w ps} h y bE=>by
  obtain⟨i,s,hi⟩:=Fo.VI h.mem;obtain⟨hm,dY,fc,_,c⟩:=h.origin bc hi y bE;obtain⟨aS,j,oS,bj,hc⟩:=bc.steps _ _ _ _ _ c;have aN:=ZeC aS;refine⟨aN,λe=>hf ?_⟩;obtain⟨dk,bL,ff,gj,_,_,fy,eX⟩:=hsz bi nK;have fa:=j6.step _ _ _ _ _ c;have k1:giN ls y.1=dk:=by unfold giN;rw[e,qab,fy,qab]
  have k2:taN ls y.1=bL:=by unfold taN;rw[e,qab,eX,qab]
  rw[k1,k2] at fa;have k3:=Fo.Wx c;have lG:=Fo.Wx hc;have a:∀z,gvI ls y.1=z→(ls.getD bi dB).giver=z:=λz hz=>by rw[←hz];unfold gvI;rw[e,qab]
  have b:∀z,tkI ls y.1=z→(ls.getD bi dB).taker=z:=λz hz=>by rw[←hz];unfold tkI;rw[e,qab]
  rcases hq _ _ _ _ aS with⟨fY,fz,nv⟩|⟨fY,fz,nv⟩
  ·rw[fY,if_pos rfl,if_pos rfl] at fa;refine ZbE bc gE hs fy eX (by rw[a _ fz.symm];exact lG) (by rw[b _ nv.symm];exact k3) ?_;rw[a _ fz.symm,b _ nv.symm];exact fa.symm
  ·rw[fY,if_neg (by decide),if_neg (by decide)] at fa;refine ZbE bc gE hs fy eX (by rw[a _ nv.symm];exact k3) (by rw[b _ fz.symm];exact lG) ?_;rw[a _ nv.symm,b _ fz.symm];exact fa
 have g1:gvI ls (bi:Int)=(ls.getD bi dB).giver:=rfl;have g2:tkI ls (bi:Int)=(ls.getD bi dB).taker:=rfl;refine⟨λz=>(by unfold kf at z;cases z),λy bE=>?_,Hc bc hq bb bT bo (λy bE=>(sD bb y bE).2) (λy bE=>(sD bT y bE).2),⟨_,Hd bc hq (bi:=(bi:Int)) bb bT a5⟩,Hf bc j6 hL bb bT bb.mem bT.mem a5 λe=>hf ?_⟩
 ·unfold kf at bE;rw[List.cons_append] at bE;rcases qad.mp bE with z|z
  ·rw[z];exact⟨by omega,by dsimp only;omega⟩
  ·rcases qax.mp z with z|z
   ·obtain⟨qy,t6,fk⟩:=qah.mp z;have:=(sD bT qy (qby (List.mem_reverse.mp t6))).1;rw[←fk];exact this
   ·exact(sD bb y (qby z)).1
 ·obtain⟨dk,bL,ff,gj,_,_,fy,eX⟩:=hsz bi nK;have k1:giN ls (bi:Int)=dk:=by unfold giN;rw[qab,fy,qab]
  have k2:taN ls (bi:Int)=bL:=by unfold taN;rw[qab,eX,qab]
  rw[k1,k2] at e;exact ZbE bc gE hs fy eX bb.mem bT.mem e
end
theorem Paired.get{dA gp:Type}{P:dA→gp→Prop}:∀{xs:List dA}{ys:List gp}{i:Nat}{x:dA},Paired P xs ys→xs[i]? =some x→∃y,ys[i]? =some y∧P x y
 |_,_,_,_,.nil,e=>by simp at e
 |_,_,0,_,.cons h _,e=>by simp at e;subst e;exact⟨_,rfl,h⟩
 |_,_,i+1,x,.cons _ r,e=>by
  obtain⟨y,aS,a2⟩:=Paired.get (i:=i) (x:=x) r (by simpa using e);exact⟨y,by simpa using aS,a2⟩
theorem qF{dA gp:Type}{P:dA→gp→Prop}:∀{xs:List dA}{ys:List gp},xs.length=ys.length→(∀(i:Nat) x y,xs[i]? =some x→ys[i]? =some y→P x y)→Paired P xs ys
 | [],[],_,_=> .nil
 |x::xs,y::ys,aJ,h=> .cons (h 0 x y rfl rfl) (qF (by simpa using aJ) λi a b bw bC=>h (i+1) a b (by simpa using bw) (by simpa using bC))
 | [],_::_,aJ,_=>by simp at aJ
 |_::_,[],aJ,_=>by simp at aJ
theorem ZfC{gp vM:Type}{S:vM→gp→Prop}{L:List vM}{d:vM}{ys:List gp}(h:Paired (λi v=>S (L.getD i d) v) ((List.range L.length).filter λ_=>true) ys):Paired S L ys:=by
 rw[qaz.mpr (by simp)] at h;refine qF (by rw[←Paired.length h,qbL]) λi x y bw bC=>?_;have hi:i<L.length:=(GM.mp bw).1;obtain⟨qy,aS,a2⟩:=Paired.get (i:=i) (x:=i) h (by simp[hi]);rw[bC] at aS;cases aS;simpa[List.getD,bw] using a2
noncomputable def Vj (H:Hp):List (Int×Int)→List V→Prop:=Paired λx v=>∃t,v= .ref t∧H t=some (.tup [.int x.1,.int x.2])
theorem Vj.keep{H H':Hp}(t:∀b xs,H b=some (.tup xs)→H' b=some (.tup xs)){vs:List V}{l:List (Int×Int)}(h:Vj H l vs):Vj H' l vs:=Paired.mapP h λ_ _ ⟨a,e,z⟩=>⟨a,e,t _ _ z⟩
noncomputable def LL (H:Hp):List (List (Int×Int))→List Addr→Prop:=Paired λl a=>∃vs,H a=some (.lst vs)∧Vj H l vs
theorem LL.dom{H:Hp}:∀{ls:List (List (Int×Int))}{as:List Addr},LL H ls as→∀x∈as,H x≠none
 |_,_,.nil,_,aT=>by simp at aT
 |_,_,.cons ⟨vs,h,_⟩ r,x,aT=>by
  rcases qad.mp aT with rfl|aT
  ·rw[h];simp
  ·exact LL.dom r x aT
theorem LL.keep{H H':Hp}(t:∀b xs,H b=some (.tup xs)→H' b=some (.tup xs)):∀{ls:List (List (Int×Int))}{as:List Addr},LL H ls as→(∀x∈as,H' x=H x)→LL H' ls as
 |_,_,.nil,_=> .nil
 |_,_,.cons ⟨vs,h,p⟩ r,k=> .cons ⟨vs,(k _ (by simp)).trans h,p.keep t⟩ (LL.keep t r λx aT=>k x (qau _ aT))
noncomputable def hR (ls:List B5) (w:Int):List (Int×Int):=(fi ls w).map λi:Nat=>((i:Int),(ls.getD i dB).take)
noncomputable def oT (ls:List B5) (w:Int):List (Int×Int):=(eK ls w).map λi:Nat=>((i:Int),(ls.getD i dB).give)
noncomputable def Wz (rows:List B5) (hs:List Int) (w:Int):Bool:=(rows.zip hs).all λx=>!(decide (x.1.taker=w))||decide (x.1.take≤x.2)
theorem AS{w:Int}:∀{rows:List B5}{hs:List Int},(∀(i:Nat)(r:B5)(h:Int),rows[i]? =some r→hs[i]? =some h→r.taker=w→r.take≤h)→Wz rows hs w=true
 | [],_,_=>by simp[Wz]
 |_::_,[],_=>by simp[Wz]
 |r::rs,h::hs,q=>by
  have e:=AS (rows:=rs) (hs:=hs) (w:=w) λi dX h' a b=>q (i+1) dX h' (by simpa using a) (by simpa using b);unfold Wz at e⊢;rw[List.zip_cons_cons,qcm,e,Bool.and_true]
  by_cases c:r.taker=w
  ·rw[decide_eq_true (q 0 r h rfl rfl c),Bool.or_true]
  ·rw[decide_eq_false c];rfl
theorem AT{w:Int}:∀{rows:List B5}{hs:List Int}(i:Nat){r:B5}{h:Int},rows[i]? =some r→hs[i]? =some h→r.taker=w→h<r.take→Wz rows hs w=false
 | [],_,_,_,_,a,_,_,_=>by simp at a
 |_::_,[],_,_,_,_,a,_,_=>by simp at a
 |r::rs,h::hs,0,dX,h',a,b,c,d=>by
  simp only[List.getElem?_cons_zero,Option.some.injEq] at a b;subst a b;unfold Wz;rw[List.zip_cons_cons,qcm,decide_eq_true c,decide_eq_false (show ¬r.take≤h by omega)]
  rfl
 |r::rs,h::hs,i+1,dX,h',a,b,c,d=>by
  have e:=AT (rows:=rs) (hs:=hs) (w:=w) i (r:=dX) (h:=h') (by simpa using a) (by simpa using b) c d;unfold Wz at e⊢;rw[List.zip_cons_cons,qcm,e,Bool.and_false]
noncomputable def mC (rows:List B5) (hs:List Int) (w:Int):List Int:=(rows.zip hs).map λx=>x.2-(if x.1.taker=w then x.1.take else 0)+(if x.1.giver=w then x.1.give else 0)
theorem AU{rows:List B5}{hs:List Int}{w:Int}(h:hs.length=rows.length):(mC rows hs w).length=hs.length:=by unfold mC;simp;omega
theorem Zeh{rows:List B5}{hs:List Int}{w:Int}{i:Nat}(aS:i<rows.length)(a2:i<hs.length)(bU:i<(mC rows hs w).length):(mC rows hs w)[i]=hs[i]-(if rows[i].taker=w then rows[i].take else 0)+(if rows[i].giver=w then rows[i].give else 0):=by
 have e:(mC rows hs w)[i]? =some (hs[i]-(if rows[i].taker=w then rows[i].take else 0)+(if rows[i].giver=w then rows[i].give else 0)):=by
  unfold mC;rw[qaj,GT (by rw[List.length_zip];omega)];simp
 rw[GT bU] at e;exact qam e
noncomputable def qG (hs:List Int) (l:List (Int×Int)):Bool:=l.all λx=>decide (x.2≤hs.getD x.1.toNat 0)
theorem ZcQ{rows:List B5}{hs:List Int}{w:Int}(h:hs.length=rows.length):qG hs (hR rows w)=Wz rows hs w:=by
 cases e:qG hs (hR rows w) with
 |true=>
  refine(AS λi r x a b c=>?_).symm;have hi:i<rows.length:=(GM.mp a).1;have kQ:rows.getD i dB=r:=by simp[List.getD,a]
  have m:((i:Int),r.take)∈hR rows w:=by
   unfold hR fi;refine qah.mpr ⟨i,qaF.mpr ⟨qao.mpr hi,decide_eq_true (by rw[kQ];exact c)⟩,by rw[kQ]⟩
  have:=of_decide_eq_true (qbl.mp e _ m);simpa[List.getD,b] using this
 |false=>
  unfold qG at e;rw[List.all_eq_false] at e;obtain⟨x,aT,d⟩:=e;unfold hR fi at aT;obtain⟨i,hi,rfl⟩:=qah.mp aT;obtain⟨aS,a2⟩:=qaF.mp hi;have a3:=qao.mp aS;have fX:=GT a3;have AV:=GT (show i<hs.length by omega);have kQ:rows.getD i dB=rows[i]:=by simp[List.getD,fX]
  rw[kQ] at a2 d;refine(AT i fX AV (of_decide_eq_true a2) ?_).symm;have d':¬rows[i].take≤hs.getD (i:Int).toNat 0:=λz=>d (decide_eq_true z);have fy:hs.getD (i:Int).toNat 0=hs[i]:=by simp[List.getD,AV]
  rw[fy] at d';omega
theorem Zbz{ls:List B5}{w:Int}{i:Nat}(h:i∈fi ls w):i<ls.length:=qao.mp (qaF.mp h).1
theorem U2{ls:List B5}{w:Int}{i:Nat}(h:i∈eK ls w):i<ls.length:=qao.mp (qaF.mp h).1
theorem Zdr{ls:List B5}{w:Int}:(fi ls w).length≤ls.length:=qat (qaU _ _) (by simp)
theorem Zdf{ls:List B5}{w:Int}:(eK ls w).length≤ls.length:=qat (qaU _ _) (by simp)
noncomputable def bump (f:Nat→Int) (hs:List Int) (is:List Nat):List Int:=is.foldl (λhs i=>hs.set i (hs.getD i 0+f i)) hs
theorem WT(f:Nat→Int):∀(is:List Nat)(hs:List Int),(bump f hs is).length=hs.length
 | [],_=>rfl
 |i::is,hs=>by
  show(bump f (hs.set i _) is).length=_;rw[WT f is,qbY]
theorem vN(f:Nat→Int):∀(is:List Nat)(hs:List Int)(j:Nat),is.Nodup→j<hs.length→(bump f hs is).getD j 0=hs.getD j 0+if j∈is then f j else 0
 | [],hs,j,_,_=>by simp[bump]
 |i::is,hs,j,nd,bj=>by
  obtain⟨i2,jl⟩:=qbs.mp nd;show(bump f (hs.set i (hs.getD i 0+f i)) is).getD j 0=_;rw[vN f is _ j jl (by rw[qbY];exact bj)]
  by_cases e:i=j
  ·subst e;have bw:(hs.set i (hs.getD i 0+f i)).getD i 0=hs.getD i 0+f i:=by rw[qaN,qbn bj];rfl
   rw[bw,if_neg i2,if_pos qaY,Int.add_zero]
  ·have bw:(hs.set i (hs.getD i 0+f i)).getD j 0=hs.getD j 0:=by rw[qaN,qbx e,qaN]
   rw[bw];have:(j∈i::is)↔j∈is:=by simp[qbP e]
   simp only[this]
theorem AW(n:Nat)(c:Nat→Bool):((List.range n).filter c).Nodup:=List.nodup_range.filter c
theorem Hh{rows:List B5}{hs:List Int}{w:Int}(h:hs.length=rows.length):
  bump (λi=>(rows.getD i dB).give) (bump (λi=>-(rows.getD i dB).take) hs (fi rows w)) (eK rows w)=mC rows hs w:=by
 have mA:=WT (λi=>-(rows.getD i dB).take) (fi rows w) hs;refine qay (by rw[WT,mA,AU h]) λi aS a2=>?_;rw[WT,mA] at aS;have a3:i<rows.length:=by omega
 rw[Zeh a3 aS a2];have ej:∀(xs:List Int)(aT:i<xs.length),xs[i]=xs.getD i 0:=λxs aT=>by simp[List.getD,aT]
 rw[ej _ (by rw[WT,mA];exact aS),vN _ (eK rows w) _ _ (AW _ _) (by rw[mA];exact aS),vN _ (fi rows w) _ _ (AW _ _) aS,←ej hs aS];have kQ:rows.getD i dB=rows[i]:=by simp[List.getD,a3]
 have hD:i∈fi rows w↔rows[i].taker=w:=by
  unfold fi;rw[qaF,qao,kQ,decide_eq_true_eq];exact⟨λz=>z.2,λz=>⟨a3,z⟩⟩
 have il:i∈eK rows w↔rows[i].giver=w:=by
  unfold eK;rw[qaF,qao,kQ,decide_eq_true_eq];exact⟨λz=>z.2,λz=>⟨a3,z⟩⟩
 simp only[hD,il,kQ]
 split<;>split<;>omega
theorem LL.at{H:Hp}{ls:List (List (Int×Int))}{db:List Addr}{w:Int}{l:List (Int×Int)}(h:LL H ls db)(de:0≤w)(e:ls[w.toNat]? =some l):∃x vs,atI (db.map V.ref) w=some (.ref x)∧H x=some (.lst vs)∧Vj H l vs:=by
 obtain⟨x,aS,vs,a2,bU⟩:=Paired.get h e;refine⟨x,vs,?_,a2,bU⟩;have:=iS (xs:=db.map V.ref) (j:=w.toNat) (v:= .ref x) (by rw[qaj,aS];rfl)
 rwa [qbc de] at this
theorem LL.len{H:Hp}{ls:List (List (Int×Int))}{db:List Addr}(h:LL H ls db):db.length=ls.length:=(Paired.length h).symm
theorem AX{H:Hp}{jb:List Nat}{f:Nat→Int}{ys:List V}(h:Paired (λi v=>∃t,v=V.ref t∧H t=some (.tup [.int (jb.getD i 0:Nat),.int (f (jb.getD i 0))])) ((List.range (jb.map λi:Nat=>V.int i).length).filter λ_=>true) ys):Vj H (jb.map λi:Nat=>((i:Int),f i)) ys:=by
 rw[GE] at h;have aS:Paired (λ(j:Nat) v=>∃t,v=V.ref t∧H t=some (.tup [.int (j:Nat),.int (f j)])) jb ys:=ZfC (L:=jb) (d:=0) h;refine qF (by rw[GE];exact Paired.length aS) λi x y bw bC=>?_;rw[qaj] at bw;cases e:jb[i]? with
 |none=>rw[e] at bw;cases bw
 |some j=>
  rw[e] at bw;cases bw;obtain⟨qy,dP,bU⟩:=Paired.get aS e;rw[bC] at dP;cases dP;exact bU
theorem AY{ls:List B5}{w:Int}{n:Nat}(h:n=ls.length):∀x∈hR ls w,0≤x.1∧x.1<n:=by
 intro x aT;obtain⟨i,hi,rfl⟩:=qah.mp aT;have:=Zbz hi;show 0≤(i:Int)∧(i:Int)<n;omega
theorem Zcm{ls:List B5}{w:Int}:(hR ls w).length≤ls.length:=by unfold hR;rw[GE];exact Zdr
theorem Zea{f:Nat→Int}{hs:List Int}{is:List Nat}{i:Nat}(h:i<is.length):bump f hs (is.take (i+1))=(bump f hs (is.take i)).set is[i] ((bump f hs (is.take i)).getD is[i] 0+f is[i]):=by
 unfold bump;rw[qac h,List.foldl_append]
 rfl
theorem ZiL{jb:List Nat}{f:Nat→Int}{H:Hp}{vs:List V}{i:Nat}(h:Vj H (jb.map λi:Nat=>((i:Int),f i)) vs)(hi:i<jb.length):∃t,vs.getD i .non= .ref t∧H t=some (.tup [.int (jb[i]:Nat),.int (f jb[i])]):=by
 obtain⟨v,cv,t,rfl,ce⟩:=Paired.get h (i:=i) (x:=((jb[i]:Int),f jb[i])) (by rw[qaj,GT hi];rfl);exact⟨t,by simp[List.getD,cv],ce⟩
noncomputable def fB (b:B5) (s:Int):Fire.Belt:=⟨b.giver.toNat,b.taker.toNat,b.give,b.take,s⟩
noncomputable def fBs (ls:List B5) (st:List Int):List Fire.Belt:=(ls.zip st).map λx=>fB x.1 x.2
noncomputable def ih (ls:List B5) (st:List Int) (d:Nat→Nat):List Int:=(fBs ls st).map λb=>Fire.lie b d
noncomputable def gO (rs:List Int) (v:Nat):Nat:=(rs.getD v 0).toNat
noncomputable def hr (ls:List B5) (st rs:List Int) (d:Nat→Nat) (v:Nat):Bool:=decide (d v<gO rs v)&&Wz ls (ih ls st d) v
noncomputable def iH (ls:List B5) (st rs:List Int) (d:Nat→Nat):List Bool:=(List.range rs.length).map λv=>hr ls st rs d v
noncomputable def fu (rs:List Int) (d:Nat→Nat):List Int:=(List.range rs.length).map λv=>(gO rs v:Int)-(d v:Int)
noncomputable abbrev hS (ls:List B5) (st rs:List Int):(Nat→Nat)→Nat→Prop:=Fire.May (fBs ls st) rs.length (gO rs)
def mD(ls:List B5)(st rs:List Int)(d:Nat→Nat)(w:Nat):Prop:=hS ls st rs d w∧∀v<w,¬hS ls st rs d v
theorem jc{ls:List B5}{st:List Int}{d:Nat→Nat}(h:st.length=ls.length):(ih ls st d).length=ls.length:=by simp[ih,fBs,h]
theorem nL{ls:List B5}{st:List Int}{d:Nat→Nat}{j:Nat}(h:st.length=ls.length)(bj:j<ls.length):(ih ls st d)[j]'(by rw[jc h];exact bj)=Fire.lie (fB ls[j] (st[j]'(by omega))) d:=by simp[ih,fBs]
theorem Zhh{ls:List B5}{st:List Int}(h:st.length=ls.length){b:Fire.Belt}(aN:b∈fBs ls st):∃(j:Nat)(bj:j<ls.length),b=fB ls[j] (st[j]'(by omega)):=by
 obtain⟨j,bj,rfl⟩:=qbm.mp aN;have gD:j<ls.length:=by simp[fBs,h] at bj;exact bj
 exact⟨j,gD,by simp[fBs]⟩
theorem AZ{ls:List B5}{st:List Int}(h:st.length=ls.length){j:Nat}(bj:j<ls.length):fB ls[j] (st[j]'(by omega))∈fBs ls st:=
 qah.mpr ⟨(ls[j],st[j]'(by omega)),qbm.mpr ⟨j,by simp[h,bj],by simp⟩,rfl⟩
theorem vO{ls:List B5}{hs:List Int}{w:Int}(h:hs.length=ls.length):Wz ls hs w=true↔∀(j:Nat)(bj:j<ls.length),ls[j].taker=w→ls[j].take≤hs[j]'(by omega):=by
 unfold Wz;rw[qbl]
 constructor
 ·intro q j bj e;have:=q (ls[j],hs[j]'(by omega)) (qbm.mpr ⟨j,by simp[h,bj],by simp⟩);simpa[e] using this
 ·intro q x aT;obtain⟨j,bj,rfl⟩:=qbm.mp aT;have gD:j<ls.length:=by simp[h] at bj;exact bj
  by_cases e:ls[j].taker=w
  ·have:=q j gD e;simp[e,this]
  ·simp[e]
section
variable {ls:List B5}{st rs:List Int}{d:Nat→Nat}{n:Nat}
theorem vP(h:st.length=ls.length)(aN:ZU ls n){v:Nat}(cv:v<rs.length):hr ls st rs d v=true↔hS ls st rs d v:=by
 unfold hr;rw[qaQ,decide_eq_true_eq,vO (jc h)]
 constructor
 ·rintro⟨aS,a2⟩;refine⟨cv,aS,λb bo ce=>?_⟩;obtain⟨j,bj,rfl⟩:=Zhh h bo;have:=a2 j bj (by have:=aN ls[j] (qaa bj);have jV:ls[j].taker.toNat=v:=ce;omega);rw[nL h bj] at this;exact this
 ·rintro⟨_,aS,a2⟩;refine⟨aS,λj bj e=>?_⟩;rw[nL h bj];exact a2 _ (AZ h bj) (by show ls[j].taker.toNat=v;omega)
theorem Hi(h:st.length=ls.length)(aN:ZU ls n){v:Nat}(cv:v<rs.length):hr ls st rs d v=false↔¬hS ls st rs d v:=by
 rw[←vP h aN cv];simp
theorem Zf1{v:Nat}(cv:v<rs.length):(iH ls st rs d)[v]? =some (hr ls st rs d v):=by simp[iH,cv]
theorem Hj:(iH ls st rs d).length=rs.length:=by simp[iH]
theorem vQ:(fu rs d).length=rs.length:=by simp[fu]
theorem A0{v:Nat}(cv:v<rs.length):(fu rs d).getD v 0=(gO rs v:Int)-(d v:Int):=by simp[fu,List.getD,cv]
theorem Hk(h:st.length=ls.length)(aN:ZU ls n)(q:true∉iH ls st rs d):∀w,¬hS ls st rs d w:=λw r=>q (by
 have:=(vP h aN r.1).mpr r;rw[←this];exact qah.mpr ⟨w,by simpa using r.1,rfl⟩)
theorem A1{b:Fire.Belt}{w:Nat}:Fire.lie b (Fire.bump d w)=Fire.lie b d-(if b.taker=w then b.take else 0)+(if b.giver=w then b.give else 0):=by
 unfold Fire.lie
 by_cases bw:b.giver=w<;>by_cases bC:b.taker=w<;>simp only[bw,bC,if_true,if_false,Fire.UV,Fire.VL,ne_eq,not_false_eq_true,Int.natCast_add,Int.mul_add,Int.natCast_one,Int.mul_one]<;>omega
theorem Hl(h:st.length=ls.length)(aN:ZU ls n)(w:Nat):mC ls (ih ls st d) w=ih ls st (Fire.bump d w):=by
 refine qay (by rw[AU (jc h),jc h,jc h]) λj aS a2=>?_;have bj:j<ls.length:=by rw[jc h] at a2;exact a2
 rw[Zeh bj (by rw[jc h];exact bj) aS,nL h bj,nL h bj,A1];have A2:=aN ls[j] (qaa bj);have bw:(ls[j].taker=(w:Int))↔((fB ls[j] (st[j]'(by omega))).taker=w):=by show _↔ls[j].taker.toNat=w;omega
 have bC:(ls[j].giver=(w:Int))↔((fB ls[j] (st[j]'(by omega))).giver=w):=by show _↔ls[j].giver.toNat=w;omega
 simp only[bw,bC]
 rfl
def Zao(ls:List B5)(w:Int)(ms:List Int):Prop:=ms.Pairwise (· < ·)∧∀x,x∈ms↔x=w∨∃i∈eK ls w,(ls.getD i dB).taker=x
theorem Hm(h:st.length=ls.length)(aN:ZU ls n){w v:Nat}{ms:List Int}(ce:Zao ls w ms)(cv:(v:Int)∉ms):hr ls st rs (Fire.bump d w) v=hr ls st rs d v:=by
 have io:=mt (ce.2 v).mpr cv;have Hn:v≠w:=λe=>io (.inl (by rw[e]));unfold hr;rw[Fire.VL d Hn]
 congr 1
 rw[qbr,vO (jc h),vO (jc h)];have fr:∀(j:Nat)(bj:j<ls.length),ls[j].taker=(v:Int)→(ih ls st (Fire.bump d w))[j]'(by rw[jc h];exact bj)=(ih ls st d)[j]'(by rw[jc h];exact bj):=λj bj e=>by
  have A2:=aN ls[j] (qaa bj);rw[nL h bj,nL h bj,A1,if_neg (by show ¬ls[j].taker.toNat=w;omega),if_neg ?_]
  ·omega
  ·intro z;have gq:ls[j].giver.toNat=w:=z;refine io (.inr ⟨j,?_,?_⟩)
   ·unfold eK;rw[qaF];exact⟨by simpa using bj,by simp[List.getD,bj];omega⟩
   ·simp[List.getD,bj,e]
 constructor
 ·intro q j bj e;rw[←fr j bj e];exact q j bj e
 ·intro q j bj e;rw[fr j bj e];exact q j bj e
end
noncomputable def gF (ls:List B5):List Int:=ls.map B5.start
def TL(H:Hp)(ls:List B5)(n:Nat)(hT:List Addr):Prop:=hT.length=n∧∀v<n,∃ms:List Int,H (hT.getD v 0)=some (.lst (ms.map V.int))∧Zao ls v ms
noncomputable def qH (ls:List B5) (n:Nat):List (List (Int×Int)):=(List.range n).map λw:Nat=>hR ls w
noncomputable def A3 (ls:List B5) (n:Nat):List (List (Int×Int)):=(List.range n).map λw:Nat=>oT ls w
def nM{K:Frag}{mg:Str→Option Value}(T:Tp K mg)(H:Hp)(p:Addr)(ls:List B5)(rs:List Int):Prop:=
 ∃(a_ a b c d e:Addr)(db oU hT:List Addr)(bs:List V),H p=some (.ins T.b a_ [("turns",.ref a),("rows",.ref b),("takes",.ref c),("gives",.ref d),("touched",.ref e)])∧H a=some (.lst (rs.map V.int))∧H b=some (.lst bs)∧fZ H bs ls∧
  H c=some (.lst (db.map V.ref))∧LL H (qH ls rs.length) db∧H d=some (.lst (oU.map V.ref))∧LL H (A3 ls rs.length) oU∧H e=some (.lst (hT.map V.ref))∧TL H ls rs.length hT
theorem nM.same{K:Frag}{mg:Str→Option Value}{T:Tp K mg}{H H':Hp}{p:Addr}{ls:List B5}{rs:List Int}(h:nM T H p ls rs)(s:Ze H H'):nM T H' p ls rs:=by
 obtain⟨a_,a,b,c,d,e,db,oU,hT,bs,aS,bU,dD,eM,d2,ju,nN,vR,qI,Ho,A4⟩:=h;have jL:∀{cf:List (List (Int×Int))}{is:List Addr},LL H cf is→LL H' cf is:=λ{cf is} l=>l.keep (λb xs z=>s _ _ z) λx aT=>by
  cases q:H x with
  |none=>exact absurd q (l.dom x aT)
  |some o=>exact s _ _ q
 exact⟨a_,a,b,c,d,e,db,oU,hT,bs,s _ _ aS,s _ _ bU,s _ _ dD,eM.keep λb xs z=>s _ _ z,s _ _ d2,jL ju,s _ _ nN,jL vR,s _ _ qI,Ho,λv cv=>(let⟨ms,x,y⟩:=A4 v cv;⟨ms,s _ _ x,y⟩)⟩
theorem ZgX{K:Frag}{mg:Str→Option Value}{T:Tp K mg}{H:Hp}{p:Addr}{ls:List B5}{rs:List Int}{m:Str}{G:Prop}(h:nM T H p ls rs)(hD:(m== "turns")=false)(il:(m== "rows")=false)(vS:(m== "takes")=false)(vT:(m== "gives")=false)(sE:(m== "touched")=false)(q:G):∃a a_ fs,V.ref p= .ref a∧H a=some (.ins T.b a_ fs)∧fs.lookup m=none∧G:=by
 obtain⟨a_,a,b,c,d,e,db,oU,hT,bs,aS,_⟩:=h;exact⟨p,a_,_,rfl,aS,Rd.lk1 hD (Rd.lk1 il (Rd.lk1 vS (Rd.lk1 vT (Rd.lk1 sE Rd.lkN)))),q⟩
theorem ZdE{n:Nat}{P:Nat→Addr→Prop}{ys:List V}(h:Paired (λ(i:Nat) v=>∃x,v=V.ref x∧P i x) (List.range n) ys):∃db:List Addr,ys=db.map V.ref∧db.length=n∧∀i<n,P i (db.getD i 0):=by
 have aJ:n=ys.length:=by have:=Paired.length h;simpa using this
 have aT:∀i:Nat,i<n→∃x,ys[i]? =some (V.ref x)∧P i x:=λi hi=>by
  obtain⟨y,aS,x,rfl,aT⟩:=Paired.get h (i:=i) (x:=i) (by simp[hi]);exact⟨x,aS,aT⟩
 refine⟨(List.range n).map λi=>if hi:i<n then(aT i hi).choose else 0,List.ext_getElem? λi=>?_,by simp,λi hi=>?_⟩
 ·by_cases hi:i<n
  ·rw[(aT i hi).choose_spec.1];simp[hi]
  ·rw[qaP (by omega),qaP (by simp;omega)]
 ·have:=(aT i hi).choose_spec.2;simpa[List.getD,hi] using this
noncomputable def h2 (f:Nat→Nat) (n:Nat):Nat:=((List.range n).map f).sum
theorem kR(f:Nat→Nat)(n:Nat):h2 f (n+1)=h2 f n+f n:=by simp[h2,qbH]
theorem A5(c:Nat→Nat){w:Nat}:∀{n:Nat},w<n→h2 (Fire.bump c w) n=h2 c n+1
 |0,h=>absurd h (qa0 _)
 |n+1,h=>by
  rw[kR,kR];rcases qbw w n with z|z
  ·rw[A5 c z,Fire.VL c (by omega)];omega
  ·obtain rfl:w=n:=by omega
   have:∀k,k≤w→h2 (Fire.bump c w) k=h2 c k:=by
    intro k
    induction k with
    |zero=>intro _;rfl
    |succ k bP=>intro a5;rw[kR,kR,bP (by omega),Fire.VL c (by omega)]
   rw[this w (fm _),Fire.UV];omega
theorem qJ{f g:Nat→Nat}:∀{n:Nat},(∀v<n,f v≤g v)→h2 f n≤h2 g n
 |0,_=>fm _
 |n+1,h=>by
  rw[kR,kR];exact Nat.add_le_add (qJ λv cv=>h v (by omega)) (h n (by omega))
theorem Zhm{f g:Nat→Nat}:∀{n:Nat},(∀v<n,f v≤g v)→h2 f n=h2 g n→∀v<n,f v=g v
 |0,_,_=>λv cv=>absurd cv (qa0 _)
 |n+1,h,e=>by
  rw[kR,kR] at e;have aS:=qJ (n:=n) λv cv=>h v (by omega);have a2:=h n (by omega);intro v cv;rcases qbw v n with z|z
  ·exact Zhm (λv cv=>h v (by omega)) (by omega) v z
  ·obtain rfl:v=n:=by omega
   omega
noncomputable def tot (rs:List Int):Nat:=h2 (gO rs) rs.length
theorem ZbJ{rs:List Int}(h:∀r∈rs,0≤r):(tot rs:Int)=rs.sum:=by
 unfold tot;have:∀k,k≤rs.length→(h2 (gO rs) k:Int)=(rs.take k).sum:=by
  intro k
  induction k with
  |zero=>intro _;rfl
  |succ k bP=>
   intro a5;have nn:k<rs.length:=by omega
   rw[kR,qac nn,List.sum_append,Int.natCast_add,bP (by omega)];have:=h rs[k] (qaa nn);have e:gO rs k=rs[k].toNat:=by simp[gO,List.getD,nn]
   rw[e];simp;omega
 rw[this rs.length (fm _),qaB]
section
variable {ls:List B5}{st rs:List Int}{d:Nat→Nat}{bW:List Nat}
theorem oV{c:Nat→Nat}(h:Fire.Y1 (mD ls st rs) c bW d):Fire.Y1 (hS ls st rs) c bW d:=by
 induction h with
 |nil c=>exact .nil c
 |cons r _ bP=>exact .cons r.1 bP
theorem Zmq{c:Nat→Nat}(h:Fire.Y1 (hS ls st rs) c bW d)(de:∀v<rs.length,c v≤gO rs v):(∀v<rs.length,d v≤gO rs v)∧h2 d rs.length=h2 c rs.length+bW.length:=by
 induction h with
 |nil c=>exact⟨de,rfl⟩
 | @cons c d w bW r _ bP=>
  obtain⟨a,b⟩:=bP λv cv=>by
   by_cases e:v=w
   ·subst e;rw[Fire.UV];exact r.2.1
   ·rw[Fire.VL c e];exact de v cv
  refine⟨a,?_⟩;rw[b,A5 c r.1,List.length_cons];omega
theorem A6:∀n,h2 (λ_=>0) n=0
 |0=>rfl
 |n+1=>by rw[kR,A6 n]
theorem qK(h:Fire.Y1 (hS ls st rs) (λ_=>0) bW d):(∀v<rs.length,d v≤gO rs v)∧bW.length=h2 d rs.length∧bW.length≤tot rs:=by
 obtain⟨a,b⟩:=Zmq h λ_ _=>qav _;rw[A6,Nat.zero_add] at b;exact⟨a,b.symm,by rw[←b];exact qJ a⟩
theorem Zl7(h:Fire.Y1 (hS ls st rs) (λ_=>0) bW d){w:Nat}(r:hS ls st rs d w):bW.length<tot rs:=by
 have:=(qK (h.snoc r)).2.2;rw[qap,List.length_singleton] at this;omega
end
theorem A7:∀ys:List Bool,inV (.bl true) (ys.map V.bl)=decide (true∈ys)
 | []=>rfl
 |y::ys=>by
  have e:inV (.bl true) ((y::ys).map V.bl)=(eqV (.bl y) (.bl true)||inV (.bl true) (ys.map V.bl)):=rfl;rw[e,A7 ys];cases y<;>simp[eqV]
theorem Hq(ys:List Bool):(ys.map V.bl).all kF=true:=by
 rw[List.all_map,qbl];intro _ _
 rfl
theorem A8:∀{bs:List Bool},true∈bs→∃j:Nat,bs[j]? =some true∧∀m<j,bs[m]? =some false
 |true::bs,_=>⟨0,rfl,λm h=>absurd h (qa0 m)⟩
 |false::bs,h=>by
  obtain⟨j,aS,a2⟩:=A8 (bs:=bs) (by simpa using h);exact⟨j+1,by simpa using aS,λm bo=>by
   cases m with
   |zero=>rfl
   |succ m=>simpa using a2 m (by omega)⟩
theorem Zht{rs:List Int}{d:Nat→Nat}{w:Nat}(hw:w<rs.length):(fu rs d).set w ((fu rs d).getD w 0-1)=fu rs (Fire.bump d w):=by
 refine qay (by simp[fu]) λv aS a2=>?_;have cv:v<rs.length:=by simpa[fu] using a2
 have ej:=A0 (d:=d) hw;generalize (fu rs d).getD w 0=y at*;subst ej;rw[List.getElem_set]
 by_cases e:w=v
 ·subst e;simp[fu,Fire.UV];omega
 ·rw[if_neg e];simp[fu,Fire.VL d (qbP e)]
noncomputable def jv (ls:List B5) (st rs:List Int) (d d':Nat→Nat) (ms:List Int):List Bool:=(List.range rs.length).map λv:Nat=>if(v:Int)∈ms then hr ls st rs d' v else hr ls st rs d v
theorem Hr{ls:List B5}{st rs:List Int}{d d':Nat→Nat}:jv ls st rs d d' []=iH ls st rs d:=by simp[jv,iH]
theorem Hs{ls:List B5}{st rs:List Int}{d:Nat→Nat}{n w:Nat}{ms:List Int}(h:st.length=ls.length)(aN:ZU ls n)(ce:Zao ls w ms):jv ls st rs d (Fire.bump d w) ms=iH ls st rs (Fire.bump d w):=by
 unfold jv iH;refine List.map_congr_left λv _=>?_
 split
 ·rfl
 ·rename_i z;exact(Hm h aN ce z).symm
theorem Zel{ls:List B5}{st rs:List Int}{d d':Nat→Nat}{ms:List Int}{v:Nat}:(jv ls st rs d d' ms).set v (hr ls st rs d' v)=jv ls st rs d d' (ms++ [(v:Int)]):=by
 refine qay (by simp[jv]) λi aS a2=>?_;have hi:i<rs.length:=by simpa[jv] using a2
 rw[List.getElem_set]
 by_cases e:v=i
 ·subst e;simp[jv]
 ·rw[if_neg e];have:¬((i:Int)=(v:Int)):=λz=>e (by omega);simp[jv,this,qbP e]
section
variable {ls:List B5}{rs st cs:List Int}{ys:List Nat}{w:Int}{pl:List (Key×V)}
end
def Zng(ls:List B5)(rs:List Int):Prop:=∀b∈ls,b.give*rs.getD b.giver.toNat 0=b.take*rs.getD b.taker.toNat 0
section
variable {ls:List B5}{rs st:List Int}{d:Nat→Nat}
theorem vU(hL:∀r∈rs,1≤r){v:Nat}(cv:v<rs.length):(gO rs v:Int)=rs.getD v 0:=by
 have:=hL rs[v] (qaa cv);unfold gO;rw[Ye cv];omega
end
structure Rts(ls:List B5)(n:Nat)(z:Int→Nat)(rs:List Int):Prop where
 len:rs.length=n
 pos:∀r∈rs,1≤r
 bal:Zng ls rs
 wood:∃F,Fo.WQ (fJ ls) n F n∧∀x∈F,nG ls x rs
def W5(fj:List Str):Prop:=fj.Nodup∧(∀x∈fj,ie x=true)∧fj.length≤30
def Zah(n:Nat)(cf:List Int):Prop:=cf≠[]∧cf.Nodup∧∀g∈cf,0≤g∧g<(n:Int)
def kS(n:Nat)(cf:List Int):Prop:=cf≠[]∧∀g∈cf,0≤g∧g<(n:Int)
noncomputable def gcdM (rs ms:List Int):Nat:=ms.foldl (λa m=>Nat.gcd a (rs.getD m.toNat 0).toNat) 0
noncomputable def d3 (rs ms:List Int) (m:Int):Int:=rs.getD m.toNat 0 / (gcdM rs ms:Int)
noncomputable def turnsK (f:Int→Int) (ms:List Int):List (Key×V):=ms.map λm=>(Sum.inl m,V.int (f m))
theorem vV(rs ms:List Int)(m:Int):gcdM rs (ms++ [m])=Nat.gcd (gcdM rs ms) (rs.getD m.toNat 0).toNat:=by unfold gcdM;rw[List.foldl_append];rfl
theorem ZfO{rs:List Int}:∀{ms:List Int},ms≠[]→(∀m∈ms,0<rs.getD m.toNat 0)→0<gcdM rs ms:=λ{ms} bF bb=>by
 obtain⟨oW,m,rfl⟩:∃oW m,ms=oW++ [m]:=⟨ms.dropLast,ms.getLast bF,(List.dropLast_concat_getLast bF).symm⟩;rw[vV];refine qca _ ?_;have:=bb m (by simp);omega
theorem ZlG{rs:List Int}:∀{ms:List Int},ms≠[]→(∀m∈ms,0<rs.getD m.toNat 0)→∃m∈ms,(gcdM rs ms:Int)≤rs.getD m.toNat 0:=λ{ms} bF bb=>by
 obtain⟨oW,m,rfl⟩:∃oW m,ms=oW++ [m]:=⟨ms.dropLast,ms.getLast bF,(List.dropLast_concat_getLast bF).symm⟩;have aS:=bb m (by simp);refine⟨m,by simp,?_⟩;rw[vV];have:=Nat.gcd_le_right (gcdM rs oW) (show 0<(rs.getD m.toNat 0).toNat by omega);omega
theorem A9{f:Int→Int}:∀{ms:List Int}{m:Int},m∈ms→valV (turnsK f ms) (Sum.inl m)=some (V.int (f m))
 |x::ms,m,h=>by
  unfold turnsK valV;rw[List.map_cons,qbt]
  by_cases e:x=m
  ·simp[e]
  ·have bo:m∈ms:=by
    rcases qad.mp h with z|z
    ·exact absurd z.symm e
    ·exact z
   have bP:=A9 (f:=f) bo;unfold turnsK valV at bP;simp only[show decide ((Sum.inl x:Key)=Sum.inl m)=false from decide_eq_false (λz=>e (qbU z))];exact bP
theorem A_{f:Int→Int}:∀{ms:List Int}{m:Int},m∉ms→valV (turnsK f ms) (Sum.inl m)=none
 | [],m,_=>rfl
 |x::ms,m,h=>by
  have e:x≠m:=λz=>h (by simp[z]);have bP:=A_ (f:=f) (ms:=ms) (m:=m) (λz=>h (by simp[z]));unfold turnsK valV at bP⊢;rw[List.map_cons,qbt];simp only[show decide ((Sum.inl x:Key)=Sum.inl m)=false from decide_eq_false (λz=>e (qbU z))];exact bP
theorem Ht{f:Int→Int}{ms:List Int}{m:Int}(h:m∉ms):fO (turnsK f ms) (Sum.inl m) (V.int (f m))=turnsK f (ms++ [m]):=by
 unfold fO;rw[if_neg]
 ·unfold turnsK;simp
 ·intro z;rw[qbR] at z;obtain⟨kv,a5,e⟩:=z;unfold turnsK at a5;obtain⟨x,aT,rfl⟩:=qah.mp a5;exact h (by rw[←qbU (of_decide_eq_true e)];exact aT)
theorem Hu{x:Int}(de:0≤x)(aS:x≤100000):x.natAbs.log2<9000:=by
 obtain⟨n,rfl⟩:=qaJ de;rw[qcd]
 by_cases de:n=0
 ·rw[de];decide+kernel
 ·have:=(qce de).mpr (show n<2 ^ 30 by omega);omega
noncomputable def idxL:List Int→Int→Nat
 | [],_=>0
 |y::ys,x=>if y=x then 0 else idxL ys x+1
theorem lK:∀{ms:List Int}{x:Int},x∈ms→ms[idxL ms x]? =some x∧∀m<idxL ms x,ms[m]? ≠some x
 |y::ys,x,h=>by
  unfold idxL
  by_cases e:y=x
  ·rw[if_pos e];exact⟨by simp[e],λm bo=>absurd bo (qa0 _)⟩
  ·rw[if_neg e];have aT:x∈ys:=by
    rcases qad.mp h with z|z
    ·exact absurd z.symm e
    ·exact z
   obtain⟨aS,a2⟩:=lK aT;refine⟨by simpa using aS,λm bo=>?_⟩;cases m with
   |zero=>simpa using e
   |succ m=>simpa using a2 m (by omega)
theorem ZbP{ms:List Int}{x:Int}(h:x∈ms):idxL ms x<ms.length:=(GM.mp (lK h).1).1
noncomputable def inB (ms:List Int) (b:B5):B5:=⟨idxL ms b.giver,idxL ms b.taker,b.give,b.take,b.start⟩
noncomputable def inT (ms:List Int) (b:B5):Bool:=decide (b.giver∈ms)&&decide (b.taker∈ms)
noncomputable def eI (ls:List B5) (ms:List Int):List B5:=(ls.filter (inT ms)).map (inB ms)
theorem Zdx{ls:List B5}{ms:List Int}:ZU (eI ls ms) ms.length:=λb aN=>by
 obtain⟨x,aT,rfl⟩:=qah.mp aN;have h:=(qaF.mp aT).2;unfold inT at h;rw[qaQ,decide_eq_true_eq,decide_eq_true_eq] at h;have aS:=ZbP h.1;have a2:=ZbP h.2;show 0≤((idxL ms x.giver:Nat):Int)∧((idxL ms x.giver:Nat):Int)<ms.length∧0≤((idxL ms x.taker:Nat):Int)∧((idxL ms x.taker:Nat):Int)<ms.length;omega
theorem Zhr{ls:List B5}{ms:List Int}:(eI ls ms).length≤ls.length:=by
 unfold eI;rw[GE];exact qaU _ _
theorem A'(f:Int→Int)(ms:List Int):(turnsK f ms).map (·.2)=(ms.map f).map V.int:=by unfold turnsK;rw[qbh,qbh];rfl
theorem ZgT(f:Int→Int)(ms:List Int):(turnsK f ms).map (λkv=>kV kv.1)=ms.map V.int:=by unfold turnsK;rw[qbh];rfl
theorem ZkS{ls:List B5}{st rs:List Int}{c d:Nat→Nat}{bW:List Nat}(h:Fire.Y1 (hS ls st rs) c bW d):∀w∈bW,w<rs.length:=by
 induction h with
 |nil c=>intro w hw;cases hw
 | @cons c d w bW d5 a3 bP=>
  intro v cv;rcases qad.mp cv with z|z
  ·rw[z];exact d5.1
  ·exact bP v z
noncomputable def qL (kept ms:List Int) (mn x:Int):Nat:=if x∈ms then idxL kept mn else idxL kept x
noncomputable def tvJ (f:Int→Int) (ms:List Int) (x:Int):Int:=if x∈ms then f x else 1
noncomputable def joB (f:Int→Int) (ms:List Int) (pl:Int→Nat) (b:B5):B5:=⟨pl b.giver,pl b.taker,b.give*tvJ f ms b.giver,b.take*tvJ f ms b.taker,b.start⟩
noncomputable def lL (f:Int→Int) (ms:List Int) (pl:Int→Nat) (ls:List B5):List B5:=(ls.filter λb=>!inT ms b).map (joB f ms pl)
theorem Zkv(f:Int→Int)(ms:List Int)(x:Int):valV (turnsK f ms) (Sum.inl x)=if x∈ms then some (V.int (f x)) else none:=by
 by_cases h:x∈ms
 ·rw[if_pos h,A9 h]
 ·rw[if_neg h,A_ h]
theorem ZdW(f:Int→Int)(ms:List Int)(x:Int):(valV (turnsK f ms) (Sum.inl x)).isSome=decide (x∈ms):=by
 rw[Zkv]
 split<;>simp[*]
structure JM where
 inner:List Int
 kept:List Nat
 joined:Nat
 called:List Str
 rows:List B5
def jw{K:Frag}{mg:Str→Option Value}(T:Tp K mg)(H:Hp)(p:Addr)(jm:JM)(ad:List Addr):Prop:=
 ∃(a_ a b c d:Addr)(bs:List V),ad=[p,a,b,c,d]∧H p=some (.ins T.c a_ [("inner_row",.ref a),("kept",.ref b),("joined",.int jm.joined),("called",.ref c),("rows",.ref d)])∧H a=some (.lst (jm.inner.map V.int))∧H b=some (.lst ((jm.kept.map λx:Nat=>(x:Int)).map V.int))∧H c=some (.lst (jm.called.map V.str))∧H d=some (.lst bs)∧fZ H bs jm.rows
theorem jw.off{K:Frag}{mg:Str→Option Value}{T:Tp K mg}{H H':Hp}{p:Addr}{jm:JM}{ad A:List Addr}(h:jw T H p jm ad)(f:d7 A H H')(o:∀x∈ad,x∉A):jw T H' p jm ad:=by
 obtain⟨a_,a,b,c,d,bs,rfl,aS,a2,bU,dD,eM,d2⟩:=h;exact⟨a_,a,b,c,d,bs,rfl,f.keep _ _ aS (o _ (by simp)),f.keep _ _ a2 (o _ (by simp)),f.keep _ _ bU (o _ (by simp)),f.keep _ _ dD (o _ (by simp)),f.keep _ _ eM (o _ (by simp)),d2.keep f.tups⟩
theorem jw.same{K:Frag}{mg:Str→Option Value}{T:Tp K mg}{H H':Hp}{p:Addr}{jm:JM}{ad:List Addr}(h:jw T H p jm ad)(s:Ze H H'):jw T H' p jm ad:=h.off (A:=[]) s.frame (by simp)
theorem Zio{K:Frag}{mg:Str→Option Value}{T:Tp K mg}{H:Hp}{p:Addr}{jm:JM}{ad:List Addr}{m:Str}{G:Prop}(h:jw T H p jm ad)(hD:(m== "inner_row")=false)(il:(m== "kept")=false)(vS:(m== "joined")=false)(vT:(m== "called")=false)(sE:(m== "rows")=false)(q:G):∃a a_ fs,V.ref p= .ref a∧H a=some (.ins T.c a_ fs)∧fs.lookup m=none∧G:=by
 obtain⟨a_,a,b,c,d,bs,_,aS,_⟩:=h;exact⟨p,a_,_,rfl,aS,Rd.lk1 hD (Rd.lk1 il (Rd.lk1 vS (Rd.lk1 vT (Rd.lk1 sE Rd.lkN)))),q⟩
noncomputable def nO (ms:List Int) (mn:Int) (w:Nat):Bool:=decide ((w:Int)=mn)|| !decide ((w:Int)∈ms)
noncomputable def gm (n:Nat) (ms:List Int) (mn:Int):List Nat:=(List.range n).filter (nO ms mn)
noncomputable def gf (n:Nat) (ms:List Int) (mn:Int):List Int:=(gm n ms mn).map λx:Nat=>(x:Int)
noncomputable def vW (aJ:HM) (rs ms:List Int) (mn:Int) (bW:List Nat):JM:=
 ⟨bW.map λw=>ms.getD w 0,gm aJ.names.length ms mn,idxL (gf aJ.names.length ms mn) mn,(gm aJ.names.length ms mn).map λw=>aJ.names.getD w "",lL (d3 rs ms) ms (qL (gf aJ.names.length ms mn) ms mn) aJ.belts⟩
theorem oX{n:Nat}{ms:List Int}{mn x:Int}:x∈gf n ms mn↔(0≤x∧x<(n:Int))∧(x=mn∨x∉ms):=by
 unfold gf gm;rw[qah]
 constructor
 ·rintro⟨w,hw,rfl⟩;obtain⟨aS,a2⟩:=qaF.mp hw;have:=qao.mp aS;refine⟨by omega,?_⟩;unfold nO at a2;simpa using a2
 ·rintro⟨⟨de,aS⟩,a2⟩;obtain⟨w,rfl⟩:=qaJ de;refine⟨w,qaF.mpr ⟨qao.mpr (by omega),?_⟩,rfl⟩;unfold nO;simpa using a2
theorem Ba{n:Nat}{ms:List Int}{mn:Int}:(gf n ms mn).Nodup:=by
 unfold gf gm;rw[qaH,qbK];exact(qaH.mp ((List.nodup_range (n:=n)).filter (nO ms mn))).imp λh z=>h (by omega)
theorem ZiI{n:Nat}{ms:List Int}{mn:Int}:(gm n ms mn).length≤n:=by
 unfold gm;exact qat (qaU _ _) (by rw[qbL];exact fm _)
theorem Zd5{g:Nat→Nat}:∀(n:Nat){ms:List Nat},ms.Nodup→(∀m∈ms,m<n)→(ms.map g).sum≤((List.range n).map g).sum
 |0,ms,_,h=>by
  obtain rfl:ms=[]:=List.eq_nil_iff_forall_not_mem.mpr λm bo=>absurd (h m bo) (qa0 _);exact fm _
 |n+1,ms,nd,h=>by
  rw[qbH,qaG,List.sum_append]
  by_cases bF:n∈ms
  ·have e:(ms.map g).sum=g n+((ms.erase n).map g).sum:=by rw[((List.perm_cons_erase bF).map g).sum_nat];simp
   have bP:=Zd5 (g:=g) n (nd.erase n) λm bo=>by
    obtain⟨aS,a2⟩:=(nd.mem_erase_iff).mp bo;have:=h m a2;omega
   rw[e];simp;omega
  ·have bP:=Zd5 (g:=g) n nd λm bo=>by
    have:=h m bo;have:m≠n:=λz=>bF (z▸bo);omega
   omega
theorem Zi9(rs:List Int)(h:∀r∈rs,0≤r):(((List.range rs.length).map λi=>(rs.getD i 0).toNat).sum:Int)=rs.sum:=by
 have e:(List.range rs.length).map (λi=>(rs.getD i 0).toNat)=rs.map Int.toNat:=by
  refine qay (by simp) λi aS a2=>?_;have:i<rs.length:=by simpa using aS
  simp[List.getD,this]
 rw[e];clear e
 induction rs with
 |nil=>rfl
 |cons r rs bP=>
  have aS:=h r (by simp);have a2:=bP λx aT=>h x (by simp[aT]);simp only[List.map_cons,qco] at*;omega
theorem Zeo{rs ms:List Int}(bb:∀r∈rs,1≤r)(bF:ms.Nodup)(eO:ms≠[])(bo:∀m∈ms,0≤m∧m<(rs.length:Int)):(ms.map (d3 rs ms)).sum≤rs.sum∧∀m∈ms,1≤d3 rs ms m∧d3 rs ms m≤rs.getD m.toNat 0∧d3 rs ms m*(gcdM rs ms:Int)=rs.getD m.toNat 0:=by
 have at_:∀m∈ms,1≤rs.getD m.toNat 0:=λm h=>by
  obtain⟨de,aS⟩:=bo m h;have:m.toNat<rs.length:=by omega
  have e:rs.getD m.toNat 0=rs[m.toNat]:=by simp[List.getD,this]
  rw[e];exact bb _ (qaa this)
 have Bb:∀m∈ms,((gcdM rs ms:Nat):Int) ∣ rs.getD m.toNat 0:=λm h=>by
  have fr:∀(l:List Int)(a:Nat),(l.foldl (λa m=>Nat.gcd a (rs.getD m.toNat 0).toNat) a ∣ a)∧∀m∈l,l.foldl (λa m=>Nat.gcd a (rs.getD m.toNat 0).toNat) a ∣ (rs.getD m.toNat 0).toNat:=by
   intro l
   induction l with
   |nil=>exact λa=>⟨Nat.dvd_refl _,by simp⟩
   |cons x l bP=>
    intro a;obtain⟨aS,a2⟩:=bP (Nat.gcd a (rs.getD x.toNat 0).toNat);refine⟨qb9 aS (qbS _ _),λm bo=>?_⟩;rcases qad.mp bo with rfl|z
    ·exact qb9 aS (qbp _ _)
    ·exact a2 m z
  have bU:=(fr ms 0).2 m h;have dD:=Int.ofNat_dvd.mpr bU;have:=at_ m h;rw[qbc (by omega)] at dD;exact dD
 have ff:=ZfO (rs:=rs) eO λm h=>(by have:=at_ m h;omega);have Bc:∀m∈ms,1≤d3 rs ms m∧d3 rs ms m≤rs.getD m.toNat 0∧d3 rs ms m*(gcdM rs ms:Int)=rs.getD m.toNat 0:=λm h=>by
  have aS:=at_ m h;have e:d3 rs ms m*(gcdM rs ms:Int)=rs.getD m.toNat 0:=Int.ediv_mul_cancel (Bb m h);have gc:1≤d3 rs ms m:=by
   by_cases z:d3 rs ms m≤0
   ·have:=Int.mul_le_mul_of_nonneg_right z (show(0:Int)≤(gcdM rs ms:Int) by omega);omega
   ·omega
  refine⟨gc,?_,e⟩;have:=Int.mul_le_mul_of_nonneg_left (show(1:Int)≤(gcdM rs ms:Int) by omega) (show(0:Int)≤d3 rs ms m by omega);omega
 refine⟨?_,Bc⟩;have a7:=Zd5 (g:=λi=>(rs.getD i 0).toNat) rs.length (ms:=ms.map Int.toNat) (by
  rw[qaH,qbK];refine(qaH.mp bF).imp_of_mem λ{a b} bx aN ne e=>ne ?_;have:=bo a bx;have:=bo b aN;omega) (λm h=>by
  obtain⟨x,aT,rfl⟩:=qah.mp h;have:=bo x aT;omega)
 have bK:=Zi9 rs λr a3=>(by have:=bb r a3;omega);have bM:∀l:List Int,(∀m∈l,m∈ms)→(l.map (d3 rs ms)).sum≤((((l.map Int.toNat).map λi=>(rs.getD i 0).toNat).sum:Nat):Int):=by
  intro l
  induction l with
  |nil=>intro _;simp
  |cons x l bP=>
   intro aJ;have aS:=bP λm h=>aJ m (by simp[h]);have a2:=Bc x (aJ x (by simp));have bU:=at_ x (aJ x (by simp));simp only[List.map_cons,qco] at*;omega
 have:=bM ms λ_ h=>h;omega
theorem Zl0{rs:List Int}(h:∀r∈rs,0≤r):∀r∈rs,r≤rs.sum:=by
 induction rs with
 |nil=>simp
 |cons x rs bP=>
  intro r a3;have de:=h x (by simp);have aS:0≤rs.sum:=by
   clear bP a3
   induction rs with
   |nil=>simp
   |cons y rs Hv=>
    have:=h y (by simp);have:=Hv (λr a3=>h r (by simp only[qad] at *;rcases a3 with z|z<;>simp[z]));simp only[qco];omega
  rw[qco];rcases qad.mp a3 with rfl|z
  ·omega
  ·have:=bP (λr a3=>h r (by simp[a3])) r z;omega
noncomputable def kC {K:Frag} {mg:Str→Option Value} (T:Tp K mg):Nat→Addr
 |0=>T.h
 |1=>T.ad
 |2=>T.i
 |3=>T.T
 |_=>T.aL
def qM(aJ:HM)(cf rs ms:List Int)(bW:List Nat)(et:Nat→Nat):Prop:=Zah aJ.names.length cf∧Rts aJ.belts aJ.names.length (λ_=>1) rs∧rs.sum≤400∧ms.Perm cf∧ms.Pairwise (· ≤·)∧Fire.Y1 (mD (eI aJ.belts ms) (gF (eI aJ.belts ms)) (ms.map (d3 rs ms))) (λ_=>0) bW et∧∀w,¬hS (eI aJ.belts ms) (gF (eI aJ.belts ms)) (ms.map (d3 rs ms)) et w
noncomputable def Ends (aJ:HM) (cf:List Int):Nat→Prop
 |0=>¬kS aJ.names.length cf
 |1=>kS aJ.names.length cf∧¬cf.Nodup
 |2=>Zah aJ.names.length cf∧∃ring,nJ aJ.belts ring
 |3=>Zah aJ.names.length cf∧∃rs,Rts aJ.belts aJ.names.length (λ_=>1) rs∧400<rs.sum
 |_=>∃rs ms bW et,qM aJ cf rs ms bW et∧(bW.length:Int)<(ms.map (d3 rs ms)).sum
def sF(aJ:HM)(cf:List Int)(jm:JM):Prop:=∃rs ms bW et mn,qM aJ cf rs ms bW et∧¬(bW.length:Int)<(ms.map (d3 rs ms)).sum∧mn∈ms∧(∀m∈ms,mn≤m)∧jm=vW aJ rs ms mn bW
noncomputable def mE (jm:JM) (k:Int):List Int:=if k=(jm.joined:Int) then jm.inner else[((jm.kept.getD k.toNat 0:Nat):Int)]
noncomputable def lM (jm:JM) (cx:List Int):List Int:=cx.flatMap (mE jm)
theorem Zkc{jm:JM}{k:Int}:(mE jm k).length≤jm.inner.length+1:=by
 unfold mE
 split
 ·omega
 ·simp
theorem Zfn{jm:JM}:∀cx:List Int,(lM jm cx).length≤cx.length*(jm.inner.length+1)
 | []=>by simp[lM]
 |k::cx=>by
  have aS:=Zfn (jm:=jm) cx;have a2:=Zkc (jm:=jm) (k:=k);unfold lM at*;rw[List.flatMap_cons,qap,List.length_cons,Nat.succ_mul];omega
theorem ZjO{jm:JM}{cx:List Int}{k:Int}:lM jm (cx++ [k])=lM jm cx++mE jm k:=by
 unfold lM;rw[List.flatMap_append];simp
theorem ZjN{ns:List Int}{k:Int}(de:0≤k)(aS:k<ns.length):atI (ns.map V.int) k=some (.int (ns.getD k.toNat 0)):=Vs de aS
theorem Hw{n:Nat}{a:Int}(h:a.natAbs<2 ^ n):Builtin.Int.intBits a≤n:=by
 unfold Builtin.Int.intBits
 split
 ·exact qav _
 ·rename_i hz;have de:a.natAbs≠0:=by
   intro e;apply hz;have:a=0:=by omega
   rw[this]
   rfl
  have:=(qce de).mpr h;omega
noncomputable def cellX (ns:List Int) (k:Int):Int:=if(ns.length:Int)=0 then 0 else if k / ns.length=0 then ns.getD (k % ns.length).toNat 0 else ns.getD (k % ns.length).toNat 0*(2*(k / ns.length)+1) % 1000003+31*(k / ns.length)
theorem Zli{n:Nat}(h:n≤100000000):(n:Int).natAbs.log2<9000:=by
 rw[qcd]
 by_cases de:n=0
 ·rw[de];decide+kernel
 ·have:=(qce de).mpr (show n<2 ^ 30 by omega);omega
theorem Zm3{x:Int}(de:0≤x)(aS:x≤100000000):x.natAbs.log2<9000:=by
 obtain⟨n,rfl⟩:=qaJ de;exact Zli (by omega)
local macro_rules| `(tactic|walk_at "rd")=>`(tactic|first|with_reducible (first|(show ∃a a_ fs,L2.V.ref _=L2.V.ref a∧_∧List.lookup _ fs=none∧_;refine Nm.Ziz (by with_reducible assumption) (by k_dflt (decide+kernel)) (by k_dflt (decide+kernel)) ?_)|(show ∃a a_ fs,L2.V.ref _=L2.V.ref a∧_∧List.lookup _ fs=none∧_;refine Nm.ZgX (by with_reducible assumption) (by k_dflt (decide+kernel)) (by k_dflt (decide+kernel)) (by k_dflt (decide+kernel)) (by k_dflt (decide+kernel)) (by k_dflt (decide+kernel)) ?_)|refine L2.Rd.Zod ?_|(show ∃a a_ fs,L2.V.ref _=L2.V.ref a∧_∧List.lookup _ fs=none∧_;refine Nm.Zio (by with_reducible assumption) (by k_dflt (decide+kernel)) (by k_dflt (decide+kernel)) (by k_dflt (decide+kernel)) (by k_dflt (decide+kernel)) (by k_dflt (decide+kernel)) ?_)|refine L2.Rd.ZoG (by with_reducible assumption) (by with_reducible assumption) (by with_reducible assumption) ?_|refine L2.Rd.ZoC (by with_reducible assumption) (by with_reducible assumption) (by with_reducible assumption) ?_)|fail "none here")
def UM{K:Frag}{mg:Str→Option Value}(T:Tp K mg):Sp:=λvs H Q _=>∃(p:Addr)(ns:List Int)(k:Int),vs=[.ref p,.int k]∧SqL K H p (ns.map V.int)∧ns.length≤63∧0≤k∧k≤100000∧Q (.int (cellX ns k)) H
theorem Zfe{K:Frag}{mg:Str→Option Value}{T:Tp K mg}{H:Hp}{Q:VK}{E:XK}{p:Addr}{ns:List Int}{k:Int}(e1:SqL K H p (ns.map V.int))(aJ:ns.length≤63)(a5:0≤k∧k≤100000)(q:Q (.int (cellX ns k)) H):UM T ([.ref p,.int k]++ []) H Q E:=⟨p,ns,k,rfl,e1,aJ,a5.1,a5.2,q⟩
local macro_rules| `(tactic|walk_at "rd")=>`(tactic|first|((with_reducible show Nm.UM _ _ _ _ _);with_reducible refine Nm.Zfe (by walk_at "hp") (by assumption) (by omega) ?_)|fail "none here")
section
variable {P:Program}{w:World}{K:Frag}{mg:Str→Option Value}{base:Heap}
theorem oY(T:Tp K mg):OkN P w base 1 T.x0 (UM T):=by
 refine T.x0.F.okX vA (λvs H Q E h=>?_) (λdi A outer s H vs Q E a3 h=>?_)
 ·obtain⟨p,ns,k,rfl,_⟩:=h
  rfl
 ·have hu:=a3.hu;obtain⟨p,ns,k,rfl,e1,eV,k0,k1,q⟩:=h;unfold cellX at q;refine⟨_,(bR (eU (eo (ia (K:=K) rfl hu) (ey (gM K) (by rfl) T.g qas (a6 (pv 0) bp)) bQ (ez _)) (cm (dS bQ)) e7)
     (bR (dG (i:=2) vA.nd rfl (Or.inl rfl) (dE iA (pv 1) (ey (gM K) (by rfl) T.g qas (a6 (pv 0) bp))))
     (bR (dG (i:=3) vA.nd rfl (Or.inl rfl) (dF (ixk K) (pv 0) (dE gH (pv 1) (ey (gM K) (by rfl) T.g qas (a6 (pv 0) bp))) (λ_ _=>rfl)))
     (bR (eU (eo (ia (K:=K) rfl hu) (pv 2) bQ (ez _)) (cm (dS (pv 3))) e7)
     (cm (dS (dE (ha K) (dE gH (dE jP (pv 3) (dE (ha K) (dE jP bQ (pv 2)) bQ)) bQ) (dE jP bQ (pv 2))))))))),?_⟩
  try dsimp only[L2.cxX,L2.ZJ,L2.Zl]
  walk_at "rds";refine Rd.ifD (λd=>?_) (λd=>?_)
  ·have d':(ns.length:Int)=0:=by simpa using d
   rw[if_pos d'] at q;walk_at "rds";exact q
  ·have d':¬(ns.length:Int)=0:=by simpa using d
   rw[if_neg d'] at q;have e:((ns.map V.int).length:Int)=ns.length:=by simp
   have RA:0<((ns.map V.int).length:Int):=by omega
   have sG:((ns.map V.int).length:Int).natAbs.log2<9000:=Zli (by rw[GE];omega);have bx:=ZjN (ns:=ns) (k:=k % (ns.map V.int).length) (Int.emod_nonneg _ (by omega)) (by rw[e];exact Int.emod_lt_of_pos _ (by omega));have sH:0≤k / ((ns.map V.int).length:Int):=Int.ediv_nonneg k0 (by omega);have Bd:k / ((ns.map V.int).length:Int)≤k:=Int.ediv_le_self _ k0;have Be:IntMulOk (ns.getD (k % ((ns.map V.int).length:Int)).toNat 0) (2*(k / ((ns.map V.int).length:Int))+1):=IntMulOk.of_right (qat (Hw (n:=30) (by omega)) (by decide));rw[←e] at q;walk_at "rds";refine Rd.ifD (λic=>?_) (λic=>?_)
   ·rw[if_pos ic] at q;walk_at "rds";exact q
   ·rw[if_neg ic] at q;walk_at "rds";exact q
end
def Hx{K:Frag}{mg:Str→Option Value}(T:Tp K mg):Sp:=λvs H Q _=>∃(p:Addr)(ns:List Int)(n:Nat),vs=[.ref p,.int n]∧SqL K H p (ns.map V.int)∧ns.length≤63∧0<n∧n≤30∧
 ∀(r:Addr)(H':Hp)(cf:List Int),H r=none→Ze H H'→H' r=some (.lst (cf.map V.int))→cf.length≤5→Q (.ref r) H'
section
variable {P:Program}{w:World}{K:Frag}{mg:Str→Option Value}{base:Heap}
theorem Hy(T:Tp K mg):OkN P w base 2 T.x1 (Hx T):=by
 refine T.x1.F.okX nB (λvs H Q E h=>?_) (λdi A outer s H vs Q E a3 h=>?_)
 ·obtain⟨p,ns,n,rfl,_⟩:=h
  rfl
 ·have hu:=a3.hu;obtain⟨p,ns,n,rfl,e1,eV,RB,i2,q⟩:=h;have nj:0<(n:Int):=by omega
  have ny:((n:Int)).natAbs.log2<9000:=Zm3 (by omega) (by omega);refine⟨_,(bR (dG (i:=2) nB.nd rfl (Or.inl rfl) (hE bp))
     (bR (gh PassesOwn.leaving rfl (l6 rfl T.q (a6 (dE gH (d8 T.x0 (oY T) a3 dw (a6 (pv 0) (a6 bQ bp))) bQ) bp)) (d0 (i:=3) nB.nd rfl (Or.inl rfl)) (bR (dG (i:=4) nB.nd rfl (Or.inl rfl) (dE gH (dE jP (d8 T.x0 (oY T) a3 dw (a6 (pv 0) (a6 (dE (ha K) bQ (pv 3)) bp))) bQ) bQ))
     (bR (dG (i:=5) nB.nd rfl (Or.inl rfl) (dE gH (pv 4) (pv 1)))
     (bR (oj (eU (eo (ia (K:=K) rfl hu) (dE gH (dE iA (pv 4) bQ) bQ) bQ (ez _)) (cm (dG (i:=5) nB.nd rfl (Or.inl rfl) (dE (ha K) (pv 1) (dE gH (d8 T.x0 (oY T) a3 dw (a6 (pv 0) (a6 (dE (ha K) bQ (pv 3)) bp))) (dE rA bQ bQ))))) e7))
     (bR (oj (eU (eo (ia (K:=K) rfl hu) (dE gH (dE iA (pv 4) bQ) bQ) bQ (ez _)) (cm (dG (i:=5) nB.nd rfl (Or.inl rfl) (dE l8 (tQ tR bQ) (dE gH (d8 T.x0 (oY T) a3 dw (a6 (pv 0) (a6 (dE (ha K) bQ (pv 3)) bp))) (dE rA bQ bQ))))) e7))
     (cm (fx (hn (K:=K) rfl qak qaC qaD iT (pv 2) (a6 (pv 5) bp)))))))))
     (cm (dS (pv 2))))),?_⟩
  try dsimp only[L2.cxX,L2.ZJ,L2.Zl]
  walk_at "rds";refine⟨qav _,λu jd=>?_⟩;have a7:Ze H (upd H u (.lst [])):=dH jd;have ht:(upd H u (.lst [])) u=some (.lst []):=Zd;generalize upd H u (.lst [])=aU at*;have r8:=a7.seq e1;walk_at "rds";have a8:0≤cellX ns 2 % 6∧cellX ns 2 % 6≤5:=by omega
  refine U5 (n:=(cellX ns 2 % 6).toNat) (λi σ H'=>∃(dM d6 eF:Option V)(cf:List Int),σ=[some (.ref p),some (.int n),some (.ref u),dM,d6,eF]∧Ze H H'∧H' u=some (.lst (cf.map V.int))∧cf.length=i) ⟨_,_,_,[],rfl,a7,ht,rfl⟩ ?_ ?_
  ·rintro i σ a4 hi ⟨dM,d6,eF,cf,rfl,bK,jx,jU⟩;have qo:=bK.seq e1;have nP:(cf.map V.int).length<sizeLine:=eE (by rw[GE];omega);walk_at "rds";generalize cellX ns (3+(0+(i:Int)))*48271 % 2147483647=qN at*;refine Rd.cut (λbN H'=>a4=H'∧∃w:Int,bN=[some (.ref p),some (.int n),some (.ref u),some (.int (0+(i:Int))),some (.int qN),some (.int w)]) ?k1 ?jM
   case jM=>
    walk_at "rds";refine Rd.ifD (λc=>?_) (λc=>?_)
    ·walk_at "rds";exact⟨rfl,_,rfl⟩
    ·walk_at "rds";exact⟨rfl,_,rfl⟩
   case k1=>
   rintro bN H' ⟨rfl,g8,rfl⟩;refine Rd.cut (λbN H'=>a4=H'∧∃w:Int,bN=[some (.ref p),some (.int n),some (.ref u),some (.int (0+(i:Int))),some (.int qN),some (.int w)]) ?k2 ?l9
   case l9=>
    walk_at "rds";refine Rd.ifD (λc=>?_) (λc=>?_)
    ·walk_at "rds";exact⟨rfl,_,rfl⟩
    ·walk_at "rds";exact⟨rfl,_,rfl⟩
   case k2=>
   rintro bN H' ⟨rfl,ky,rfl⟩;walk_at "rds";exact⟨_,_,_,cf++ [ky],rfl,bK.new jd,by rw[Zd,qaG];rfl,by simp[jU]⟩
  ·rintro σ a4 ⟨dM,d6,eF,cf,rfl,bK,jx,jU⟩;walk_at "rds";exact q u a4 cf jd bK jx (by omega)
end
def Hz{K:Frag}{mg:Str→Option Value}(T:Tp K mg):Sp:=λvs H Q _=>∃x:Str,vs=[.str x]∧x.length≤sizeLine∧∀H',Ze H H'→Q (.bl (ie x)) H'
noncomputable def letter (c:Nat):Bool:=decide (97≤c)&&decide (c≤122)
theorem Bf(c d:Nat):decide ((⟨#[c]⟩:Str).cps.toList<(⟨#[d]⟩:Str).cps.toList)=decide (c<d):=by
 show decide ([c]< [d])=decide (c<d);have e:([c]< [d])↔c<d:=by
  constructor
  ·intro h;cases h with
   |rel h=>exact h
   |cons h=>cases h
  ·exact λh=> .rel h
 by_cases h:c<d
 ·rw[decide_eq_true h,decide_eq_true (e.mpr h)]
 ·rw[decide_eq_false h,decide_eq_false (λz=>h (e.mp z))]
theorem HA:("a" :Str)=⟨#[97]⟩:=by decide+kernel
theorem HB:("z" :Str)=⟨#[122]⟩:=by decide+kernel
theorem ZhJ(x:Str):(((List.range x.cps.size).map λi=>letter (x.cps.getD i 0)).all id)=x.cps.toList.all letter:=by
 rw[List.all_map,qbr,qbl,qbl]
 constructor
 ·intro h c a8;obtain⟨i,hi,rfl⟩:=qaw a8;have el:i<x.cps.size:=by simpa using hi
  have:=h i (qao.mpr el);simpa[Array.getD,el] using this
 ·intro h i hi;have el:=qao.mp hi;have:=h x.cps[i] (by simp);simpa[Array.getD,el] using this
theorem Zbf(x:Str):ie x=(decide (1≤x.length)&&decide (x.length≤8)&&x.cps.toList.all letter):=rfl
section
variable {P:Program}{w:World}{K:Frag}{mg:Str→Option Value}{base:Heap}
theorem HC(T:Tp K mg):OkN P w base 1 T.x2 (Hz T):=by
 refine T.x2.F.okX Gu (λvs H Q E h=>?_) (λdi A outer s H vs Q E a3 h=>?_)
 ·obtain⟨x,rfl,_⟩:=h
  rfl
 ·have hu:=a3.hu;obtain⟨x,rfl,aT,q⟩:=h;refine⟨_,(bR (eU (la (jR (K:=K) rfl (ey (uK (K:=K) rfl) (by rfl) T.f qan (a6 (pv 0) (a6 (rv (v:= .ty "str") (by rfl) T.c7 PyProof.Rows.boot_str rfl) bp))) (λ_=>rfl))) (cm (dS VZ)) e7)
     (bR (eU (PW.pt (l4 (eo m4 (ey (gM K) (by rfl) T.g qas (a6 (pv 0) bp)) bQ (ez _)) (mX (eo m5 (ey (gM K) (by rfl) T.g qas (a6 (pv 0) bp)) (ji (v:= .int 8) rfl T.aZ ⟨_,rfl⟩) (ez _))))) (cm (dS VZ)) e7)
     (cm (dS (ey (y1 (K:=K) rfl rfl) (by rfl) T.cl PyProof.Rows.boot_all (a6 (ly rfl (gL (x:="sign") (zs:=[]) (ix:=[]) (dh vk) ["thing"] rfl rfl (by decide+kernel)) (EC (pv 0)) (λcl C s H fp=>⟨(d0 (i:=0) (show(["sign"]:List Str).Nodup by decide+kernel) rfl (Or.inl rfl)),hG,(DD yQ yQ Yu (pv 0) Yu)⟩)) bp)))))),?_⟩
  try dsimp only[L2.cxX,L2.ZJ,L2.Zl]
  walk_at "rds";refine UK (λc=>?_) (λc=>?_)
  ·have eg:¬1≤x.length:=by simp at c;omega
   walk_at "rds";have e:ie x=false:=by rw[Zbf,decide_eq_false eg];rfl
   rw[←e];exact q H (Ze.refl H)
  ·have eg:1≤x.length:=by simp at c;omega
   walk_at "rds";refine UK (λd=>?_) (λd=>?_)
   ·have d':¬x.length≤8:=by simp at d;omega
    walk_at "rds";have e:ie x=false:=by rw[Zbf,decide_eq_false d',Bool.and_false];rfl
    rw[←e];exact q H (Ze.refl H)
   ·have d':x.length≤8:=by simp at d;omega
    have bF:x.cps.size<sizeLine:=eE (by have:x.cps.size=x.length:=rfl;omega);walk_at "rds";refine YI ZjP bF (λ_=>true) (λi=> .bl (letter (x.cps.getD i 0))) (λi H' dW hi bS k=>?_) (λi H' dW hi _ bS k=>?_) (λp H' bb bS aJ=>?_)
    ·walk_at "rds";exact k H' (Ze.refl H')
    ·walk_at "rds";rw[HA,HB,Bf];generalize x.cps.getD i 0=cc at k⊢;refine UK (λz=>?_) (λz=>?_)
     ·walk_at "rds";have e:(!decide (122<cc))=letter cc:=by
       have gq:97≤cc:=by simpa using z
       unfold letter;rw[decide_eq_true gq,Bool.true_and]
       by_cases y:cc≤122
       ·rw[decide_eq_true y,decide_eq_false (by omega)];rfl
       ·rw[decide_eq_false y,decide_eq_true (by omega)];rfl
      rw[Bf,e];exact k H' (Ze.refl H')
     ·have e:false=letter cc:=by
       have gq:¬97≤cc:=by simpa using z
       unfold letter;rw[decide_eq_false gq];rfl
      rw[e];exact k H' (Ze.refl H')
    ·have gA:H' p=some (.lst (((List.range x.cps.size).map λi=>letter (x.cps.getD i 0)).map V.bl)):=by
      rw[aJ,qaz.mpr (by simp),qbh];rfl
     walk_at "rds";rw[ZhJ];have e:x.cps.toList.all letter=ie x:=by rw[Zbf,decide_eq_true eg,decide_eq_true d'];rfl
     rw[e];exact q H' bS
end
def Bg{K:Frag}{mg:Str→Option Value}(T:Tp K mg):Sp:=λvs H Q E=>∃(p:Addr)(x:Str)(aJ:HM)(fp:List Addr),vs=[.ref p,.str x]∧dQ T H p aJ fp∧x.length≤sizeLine∧aJ.names.length≤1000∧
 (ie x=false→∀H',Ze H H'→E (.ref T.a0) none H')∧(ie x=true→x∈aJ.names→∀H',Ze H H'→E (.ref T.ad) none H')∧
 (ie x=true→x∉aJ.names→30≤aJ.names.length→∀H',Ze H H'→E (.ref T.S) none H')∧
 (ie x=true→x∉aJ.names→aJ.names.length<30→∀(H':Hp)(eQ:List Addr),dQ T H' p ⟨aJ.names++ [x],aJ.belts⟩ eQ→d7 fp H H'→VY fp eQ H→Q (.int aJ.names.length) H')
theorem UP{K:Frag}{mg:Str→Option Value}{T:Tp K mg}{H:Hp}{Q:VK}{E:XK}{p:Addr}{x:Str}{aJ:HM}{fp:List Addr}(h:dQ T H p aJ fp)(bF:ie x=true)(aT:x∉aJ.names)(eV:aJ.names.length<30)
  (q:∀(H':Hp)(eQ:List Addr),dQ T H' p ⟨aJ.names++ [x],aJ.belts⟩ eQ→d7 fp H H'→VY fp eQ H→Q (.int aJ.names.length) H'):Bg T (.ref p::([.str x]++ [])) H Q E:=by
 have HD:x.length≤sizeLine:=by
  have:x.length≤8:=by
   have e:=bF;unfold ie at e;simp only[qaQ,decide_eq_true_eq] at e;exact e.1.2
  exact qaX (eE (by omega))
 exact⟨p,x,aJ,fp,rfl,h,HD,by omega,λz=>(by rw[bF] at z;cases z),λ_ z=>absurd z aT,λ_ _ z=>absurd z (by omega),λ_ _ _=>q⟩
section
variable {P:Program}{w:World}{K:Frag}{mg:Str→Option Value}{base:Heap}
theorem vX(T:Tp K mg):OkM P w mg base 2 T.x3 (Bg T):=by
 have f4:=T.a;have f5:=T.e;refine T.x3.F.okX Az (λvs H Q E h=>?_) (λdi A outer s H vs Q E a3 h=>?_)
 ·obtain⟨p,x,aJ,fp,rfl,_⟩:=h
  rfl
 ·have hu:=a3.hu;obtain⟨p,x,aJ,fp,rfl,bV,aT,hz,bw,bC,dP,q⟩:=h;obtain⟨a_,a,b,bs,rfl,aS,a2,bU,dD,hv,d2⟩:=id bV;have jy:p≠a:=gT aS bU (by intro z;cases z);have vY:a_≠a:=gT a2 bU (by intro z;cases z);refine⟨_,(bR (eU (la (jR (K:=K) rfl (d8 T.x2 (HC T) a3 dw (a6 (pv 1) bp)) (λ_=>rfl))) (cm (i1 T.a1.g T.a1.e qaq rfl (a6 Yu bp))) e7)
     (bR (eU (eo (y4 hu) (pv 1) (fS (K:=K) rfl (pv 0) rfl) (by with_unfolding_all rfl)) (cm (i1 T.ae.g T.ae.e qaq rfl (a6 Yu bp))) e7)
     (bR (eU (eo pC (ey Zit (by rfl) T.g qas (a6 (fS (K:=K) rfl (pv 0) rfl) bp)) (ji (v:= .int 30) rfl T.be ⟨_,rfl⟩) (ez _)) (cm (i1 T.y.g T.y.e qaq rfl (a6 Yu bp))) e7)
     (bR (dG (i:=2) Az.nd rfl (Or.inl rfl) (ey Zit (by rfl) T.g qas (a6 (fS (K:=K) rfl (pv 0) rfl) bp)))
     (bR (kA (pv 2) (lb (fS (K:=K) rfl (pv 0) rfl) (pv 1) (nl hu)))
     (cm (dS (pv 2)))))))),?_⟩
  try dsimp only[L2.cxX,L2.ZJ,L2.Zl]
  walk_at "rds";refine⟨x,rfl,aT,λaU iI=>?_⟩;have g1:=iI _ _ aS;have g3:=iI _ _ bU;have vZ:(numsOf aJ.names).length<sizeLine:=eE (by rw[Uk];exact hz);walk_at "rds";cases bF:ie x with
  |false=>
   walk_at "rds";exact bw bF aU iI
  |true=>
   walk_at "rds";rw[Zek];refine UK (λc=>?_) (λc=>?_)
   ·walk_at "rds";exact bC bF (of_decide_eq_true c) aU iI
   ·have eg:x∉aJ.names:=λz=>c (decide_eq_true z);walk_at "rds";rw[Uk];refine UK (λd=>?_) (λd=>?_)
    ·have d':30≤aJ.names.length:=by simp at d;omega
     walk_at "rds";exact dP bF eg d' aU iI
    ·have d':aJ.names.length<30:=by simp at d;omega
     walk_at "rds";rw[Uk,G3 eg];have f3:d7 [p,a_,a,b] H (upd aU a (.dK (numsOf (aJ.names++ [x])))):=iI.frame.trans (h0 (by simp) g3 (by intro _ z;cases z));refine q bF eg d' _ [p,a_,a,b] ⟨a_,a,b,bs,rfl,?_,?_,Zd,?_,hv,d2.keep f3.tups⟩ f3 VY.refl
     ·rw[b2 jy];exact g1
     ·rw[b2 vY];exact iI _ _ a2
     ·rw[b2 hv.symm];exact iI _ _ dD
end
def U6{K:Frag}{mg:Str→Option Value}(T:Tp K mg):Sp:=λvs H Q _=>∃i:Int,vs=[.int i]∧Q (.bl true) H
theorem ZgY{K:Frag}{mg:Str→Option Value}{T:Tp K mg}{H:Hp}{Q:VK}{E:XK}{i:Int}(q:Q (.bl true) H):U6 T ([.int i]++ []) H Q E:=⟨i,rfl,q⟩
local macro_rules| `(tactic|walk_at "rd")=>`(tactic|first|((with_reducible show Nm.U6 _ _ _ _ _);with_reducible refine Nm.ZgY ?_)|fail "none here")
section
variable {P:Program}{w:World}{K:Frag}{mg:Str→Option Value}{base:Heap}
theorem HE(T:Tp K mg):OkN P w base 1 T.x4 (U6 T):=by
 refine T.x4.F.okX Gv (λvs H Q E h=>?_) (λdi A outer s H vs Q E a3 h=>?_)
 ·obtain⟨i,rfl,_⟩:=h
  rfl
 ·have hu:=a3.hu;obtain⟨i,rfl,q⟩:=h;refine⟨_,(cm (dS (rz (ey (uK (K:=K) rfl) (by rfl) T.f qan (a6 (pv 0) (a6 (rv (v:= .ty "int") (by rfl) T.b5 PyProof.Rows.boot_int rfl) bp))) (ry (xV (ey (uK (K:=K) rfl) (by rfl) T.f qan (a6 (pv 0) (a6 (rv (v:= .ty "bool") (by rfl) T.cu PyProof.Rows.boot_bool rfl) bp)))))))),?_⟩
  try dsimp only[L2.cxX,L2.ZJ,L2.Zl]
  walk_at "rds";exact q
end
def ZaM{K:Frag}{mg:Str→Option Value}(T:Tp K mg):Sp:=λvs H Q _=>∃i l:Int,vs=[.int i,.int l]∧Q (.bl (decide (l≤i))) H
theorem ZhU{K:Frag}{mg:Str→Option Value}{T:Tp K mg}{H:Hp}{Q:VK}{E:XK}{i l:Int}(q:Q (.bl (decide (l≤i))) H):ZaM T ([.int i,.int l]++ []) H Q E:=⟨i,l,rfl,q⟩
local macro_rules| `(tactic|walk_at "rd")=>`(tactic|first|((with_reducible show Nm.ZaM _ _ _ _ _);with_reducible refine Nm.ZhU ?_)|fail "none here")
section
variable {P:Program}{w:World}{K:Frag}{mg:Str→Option Value}{base:Heap}
theorem sI(T:Tp K mg):OkN P w base 2 T.x5 (ZaM T):=by
 refine T.x5.F.okX Gw (λvs H Q E h=>?_) (λdi A outer s H vs Q E a3 h=>?_)
 ·obtain⟨i,l,rfl,_⟩:=h
  rfl
 ·have hu:=a3.hu;obtain⟨i,l,rfl,q⟩:=h;refine⟨_,(cm (dS (rz (d8 T.x4 (HE T) a3 dw (a6 (pv 0) bp)) (ry (lh pC (pv 0) (pv 1) (ez _)))))),?_⟩
  try dsimp only[L2.cxX,L2.ZJ,L2.Zl]
  walk_at "rds";exact q
end
def HF{K:Frag}{mg:Str→Option Value}(T:Tp K mg):Sp:=λvs H Q E=>∃i:Int,vs=[.int i]∧(¬0≤i→E (.ref T.bu) none H)∧(0≤i→Q .non H)
section
variable {P:Program}{w:World}{K:Frag}{mg:Str→Option Value}{base:Heap}
theorem HG(T:Tp K mg):OkN P w base 3 T.x6 (HF T):=by
 refine T.x6.F.okX Gx (λvs H Q E h=>?_) (λdi A outer s H vs Q E a3 h=>?_)
 ·obtain⟨i,rfl,_⟩:=h
  rfl
 ·have hu:=a3.hu;obtain⟨i,rfl,bw,q⟩:=h;refine⟨_,(cm (eU (la (jR (K:=K) rfl (d8 T.x5 (sI T) a3 dw (a6 (pv 0) (a6 bQ bp))) (λ_=>rfl))) (cm (i1 T.ai.g T.ai.e qaq rfl (a6 Yu bp))) e7)),?_⟩
  try dsimp only[L2.cxX,L2.ZJ,L2.Zl]
  walk_at "rds"
  by_cases c:0≤i
  ·rw[decide_eq_true c];walk_at "rds";exact q c
  ·rw[decide_eq_false c];walk_at "rds";exact bw c
end
def WM{K:Frag}{mg:Str→Option Value}(T:Tp K mg):Sp:=λvs H Q _=>∃i b:Int,vs=[.int i,.int b]∧Q (.bl (decide (0≤i∧i<b))) H
theorem Zbg{K:Frag}{mg:Str→Option Value}{T:Tp K mg}{H:Hp}{Q:VK}{E:XK}{i b:Int}(q:Q (.bl (decide (0≤i∧i<b))) H):WM T ([.int i,.int b]++ []) H Q E:=⟨i,b,rfl,q⟩
local macro_rules| `(tactic|walk_at "rd")=>`(tactic|first|((with_reducible show Nm.WM _ _ _ _ _);with_reducible refine Nm.Zbg ?_)|fail "none here")
section
variable {P:Program}{w:World}{K:Frag}{mg:Str→Option Value}{base:Heap}
theorem v0(T:Tp K mg):OkN P w base 3 T.x7 (WM T):=by
 refine T.x7.F.okX Gy (λvs H Q E h=>?_) (λdi A outer s H vs Q E a3 h=>?_)
 ·obtain⟨i,b,rfl,_⟩:=h
  rfl
 ·have hu:=a3.hu;obtain⟨i,b,rfl,q⟩:=h;refine⟨_,(cm (dS (rz (d8 T.x5 (sI T) a3 dw (a6 (pv 0) (a6 bQ bp))) (ry (lh m4 (pv 0) (pv 1) (ez _)))))),?_⟩
  try dsimp only[L2.cxX,L2.ZJ,L2.Zl]
  walk_at "rds";refine UK (λc=>?_) (λc=>?_)
  ·have eg:0≤i:=of_decide_eq_true c;walk_at "rds";have e:decide (i<b)=decide (0≤i∧i<b):=by rw[decide_eq_decide];exact⟨λz=>⟨eg,z⟩,λz=>z.2⟩
   rw[e];exact q
  ·have eg:¬0≤i:=λz=>c (decide_eq_true z);walk_at "rds";have e:false=decide (0≤i∧i<b):=(decide_eq_false (λz=>eg z.1)).symm;rw[e];exact q
end
def HH{K:Frag}{mg:Str→Option Value}(T:Tp K mg):Sp:=λvs H Q E=>∃(p:Addr)(i:Int)(aJ:HM)(fp:List Addr),vs=[.ref p,.int i]∧dQ T H p aJ fp∧
 (¬(0≤i∧i<aJ.names.length)→E (.ref T.h) none H)∧(0≤i→i<aJ.names.length→Q .non H)
section
variable {P:Program}{w:World}{K:Frag}{mg:Str→Option Value}{base:Heap}
theorem qO(T:Tp K mg):OkM P w mg base 4 T.x8 (HH T):=by
 have f4:=T.a;have f5:=T.e;refine T.x8.F.okX Gz (λvs H Q E h=>?_) (λdi A outer s H vs Q E a3 h=>?_)
 ·obtain⟨p,i,aJ,fp,rfl,_⟩:=h
  rfl
 ·have hu:=a3.hu;obtain⟨p,i,aJ,fp,rfl,bV,bw,q⟩:=h;obtain⟨a_,a,b,bs,rfl,aS,a2,bU,dD,hv,d2⟩:=id bV;refine⟨_,(cm (eU (la (jR (K:=K) rfl (d8 T.x7 (v0 T) a3 dw (a6 (pv 1) (a6 (ey Zit (by rfl) T.g qas (a6 (fS (K:=K) rfl (pv 0) rfl) bp)) bp))) (λ_=>rfl))) (cm (i1 T.o.g T.o.e qaq rfl (a6 Yu bp))) e7)),?_⟩
  try dsimp only[L2.cxX,L2.ZJ,L2.Zl]
  walk_at "rds";rw[Uk]
  by_cases c:0≤i∧i<aJ.names.length
  ·rw[decide_eq_true c];walk_at "rds";exact q c.1 c.2
  ·rw[decide_eq_false c];walk_at "rds";exact bw c
end
def HI{K:Frag}{mg:Str→Option Value}(T:Tp K mg):Sp:=λvs H Q E=>∃(p u:Addr)(b:B5)(aJ:HM)(fp:List Addr),vs=[.ref p,.ref u]∧dQ T H p aJ fp∧H u=some (.tup b.v)∧aJ.belts.length≤1000∧
 ∀(H':Hp)(eQ:List Addr),dQ T H' p ⟨aJ.names,aJ.belts++ [b]⟩ eQ→d7 fp H H'→VY fp eQ H→Q (.int aJ.belts.length) H'
section
variable {P:Program}{w:World}{K:Frag}{mg:Str→Option Value}{base:Heap}
theorem Bh(T:Tp K mg):OkM P w mg base 1 T.x9 (HI T):=by
 have f4:=T.a;have f5:=T.e;refine T.x9.F.okX GA (λvs H Q E h=>?_) (λdi A outer s H vs Q E a3 h=>?_)
 ·obtain⟨p,u,b,aJ,fp,rfl,_⟩:=h
  rfl
 ·have hu:=a3.hu;obtain⟨p,u,b,aJ,fp,rfl,bV,gB,hz,q⟩:=h;obtain⟨a_,a,dv,bs,rfl,aS,a2,bU,dD,hv,d2⟩:=id bV;have jz:p≠dv:=gT aS dD (by intro z;cases z);have v1:a_≠dv:=gT a2 dD (by intro z;cases z);have RC:u≠dv:=gT gB dD (by intro z;cases z);have vZ:bs.length<sizeLine:=eE (by rw[d2.length];exact hz);have Bi:=d2.length;refine⟨_,(bR (fx (hn (K:=K) rfl qak qaC qaD iT (fS (K:=K) rfl (pv 0) rfl) (a6 (pv 1) bp)))
     (cm (dS (dE l8 (ey (gM K) (by rfl) T.g qas (a6 (fS (K:=K) rfl (pv 0) rfl) bp)) bQ)))),?_⟩
  try dsimp only[L2.cxX,L2.ZJ,L2.Zl]
  walk_at "rds";have k1:(upd H dv (.lst (bs++ [.ref u]))) p=some (.ins T.D a_ [("numbers",.ref a),("rows",.ref dv)]):=by rw[b2 jz];exact aS
  have lG:(upd H dv (.lst (bs++ [.ref u]))) dv=some (.lst (bs++ [.ref u])):=Zd;walk_at "rds";have hM:((bs++ [V.ref u]).length:Int)-1=aJ.belts.length:=by simp[Bi]
  rw[hM];have f3:d7 [p,a_,a,dv] H (upd H dv (.lst (bs++ [.ref u]))):=h0 (by simp) dD (by intro _ z;cases z);refine q _ [p,a_,a,dv] ⟨a_,a,dv,_,rfl,k1,?_,?_,lG,hv,(d2.keep f3.tups).snoc (f3.tups _ _ gB)⟩ f3 VY.refl
  ·rw[b2 v1];exact a2
  ·rw[b2 hv];exact bU
end
def v2{K:Frag}{mg:Str→Option Value}(T:Tp K mg):Sp:=λvs H Q E=>∃(p:Addr)(b:B5)(aJ:HM)(fp:List Addr),vs= .ref p::b.v∧dQ T H p aJ fp∧aJ.belts.length≤1000∧
 (¬(0≤b.giver∧b.giver<aJ.names.length∧0≤b.taker∧b.taker<aJ.names.length)→∀H',Ze H H'→E (.ref T.h) none H')∧
 ((0≤b.giver∧b.giver<aJ.names.length∧0≤b.taker∧b.taker<aJ.names.length)→¬(1≤b.give∧1≤b.take∧0≤b.start)→∀H',Ze H H'→E (.ref T.bu) none H')∧
 ((0≤b.giver∧b.giver<aJ.names.length∧0≤b.taker∧b.taker<aJ.names.length)→(1≤b.give∧1≤b.take∧0≤b.start)→60≤aJ.belts.length→∀H',Ze H H'→E (.ref T.S) none H')∧
 ((0≤b.giver∧b.giver<aJ.names.length∧0≤b.taker∧b.taker<aJ.names.length)→(1≤b.give∧1≤b.take∧0≤b.start)→aJ.belts.length<60→∀(H':Hp)(eQ:List Addr),dQ T H' p ⟨aJ.names,aJ.belts++ [b]⟩ eQ→d7 fp H H'→VY fp eQ H→Q (.int aJ.belts.length) H')
theorem VG{K:Frag}{mg:Str→Option Value}{T:Tp K mg}{H:Hp}{Q:VK}{E:XK}{p:Addr}{g t dk bL st:Int}{aJ:HM}{fp:List Addr}(h:dQ T H p aJ fp)
  (aS:0≤g) (a2:g<aJ.names.length) (bU:0≤t) (dD:t<aJ.names.length) (eM:1≤dk) (d2:1≤bL) (ju:0≤st) (eV:aJ.belts.length<60)
  (q:∀(H':Hp)(eQ:List Addr),dQ T H' p ⟨aJ.names,aJ.belts++ [⟨g,t,dk,bL,st⟩]⟩ eQ→d7 fp H H'→VY fp eQ H→Q (.int aJ.belts.length) H'):v2 T [.ref p,.int g,.int t,.int dk,.int bL,.int st] H Q E:=
 ⟨p,⟨g,t,dk,bL,st⟩,aJ,fp,rfl,h,by omega,λz=>absurd ⟨aS,a2,bU,dD⟩ z,λ_ z=>absurd ⟨eM,d2,ju⟩ z,λ_ _ z=>absurd z (by omega),λ_ _ _=>q⟩
section
variable {P:Program}{w:World}{K:Frag}{mg:Str→Option Value}{base:Heap}
theorem HJ(T:Tp K mg):Ys P w K mg base (CXX P w) 5 T.aF T.aG ["self","giver","taker","give","take","start"] (v2 T):=by
 have f4:=T.a;have f5:=T.e;refine T.bq.okX GB (λvs H Q E h=>?_) (λdi A outer s H vs Q E a3 h=>?_)
 ·obtain⟨p,b,aJ,fp,rfl,_⟩:=h
  rfl
 ·have hu:=a3.hu;obtain⟨p,b,aJ,fp,rfl,bV,hz,bw,bC,dP,q⟩:=h;obtain⟨a_,a,dv,bs,rfl,aS,a2,bU,dD,hv,d2⟩:=id bV;obtain⟨g,t,dk,bL,st⟩:=b;have Bi:=d2.length;refine⟨_,(bR (fx (hb (pv 0) T.a T.x8 (qO T) a3 dw (a6 (pv 1) bp)))
     (bR (fx (hb (pv 0) T.a T.x8 (qO T) a3 dw (a6 (pv 2) bp)))
     (bR (eU (PW.pt (l4 (la (jR (K:=K) rfl (d8 T.x5 (sI T) a3 dw (a6 (pv 3) (a6 bQ bp))) (λ_=>rfl))) (mX (la (jR (K:=K) rfl (d8 T.x5 (sI T) a3 dw (a6 (pv 4) (a6 bQ bp))) (λ_=>rfl)))))) (cm (i1 T.ai.g T.ai.e qaq rfl (a6 Yu bp))) e7)
     (bR (fx (d8 T.x6 (HG T) a3 dw (a6 (pv 5) bp)))
     (bR (eU (eo pC (ey (gM K) (by rfl) T.g qas (a6 (fS (K:=K) rfl (pv 0) rfl) bp)) (ji (v:= .int 60) rfl T.bf ⟨_,rfl⟩) (ez _)) (cm (i1 T.y.g T.y.e qaq rfl (a6 Yu bp))) e7)
     (cm (dS (hb (pv 0) T.a T.x9 (Bh T) a3 dw (a6 (h8 (a6 (pv 1) (a6 (pv 2) (a6 (pv 3) (a6 (pv 4) (a6 (pv 5) bp)))))) bp))))))))),?_⟩
  try dsimp only[L2.cxX,L2.ZJ,L2.Zl]
  dsimp only[B5.v] at*;walk_at "rds";refine⟨p,g,aJ,_,rfl,bV,λz=>bw (by omega) H (Ze.refl H),λff g1=>?_⟩;walk_at "rds";refine⟨p,t,aJ,_,rfl,bV,λz=>bw (by omega) H (Ze.refl H),λgj mc=>?_⟩;have bW:0≤g∧g<aJ.names.length∧0≤t∧t<aJ.names.length:=⟨ff,g1,gj,mc⟩;walk_at "rds"
  by_cases c:1≤dk
  ·rw[decide_eq_true c];walk_at "rds"
   by_cases d:1≤bL
   ·rw[decide_eq_true d];walk_at "rds";refine⟨st,rfl,λz=>bC bW (by omega) H (Ze.refl H),λf=>?_⟩;walk_at "rds";refine Rd.ifD (λl=>?_) (λl=>?_)
    ·walk_at "rds";exact dP bW (by omega) (by omega) H (Ze.refl H)
    walk_at "rds";refine⟨by show 5≤sizeLine;decide,λu gB=>?_⟩;have sn:Ze H (upd H u (.tup [.int g,.int t,.int dk,.int bL,.int st])):=dH gB;have v3:=bV.same sn;walk_at "rds";refine⟨p,u,⟨g,t,dk,bL,st⟩,aJ,_,rfl,v3,Zd,hz,λH' eQ fh f3 gr=>?_⟩;refine q bW (by omega) (by omega) H' eQ fh (sn.frame.trans f3) (λx aT=>?_);rcases gr x aT with z|z
    ·exact .inl z
    ·refine .inr ?_;cases e:H x with
     |none=>rfl
     |some o=>rw[sn _ _ e] at z;cases z
   ·rw[decide_eq_false d];walk_at "rds";exact bC bW (by omega) H (Ze.refl H)
  ·rw[decide_eq_false c];walk_at "rds";exact bC bW (by omega) H (Ze.refl H)
end
def Bj{K:Frag}{mg:Str→Option Value}(T:Tp K mg):Sp:=λvs H Q _=>∃p a_:Addr,vs=[.ref p]∧H p=some (.ins T.D a_ [])∧H a_=some (.own p)∧
 ∀(H':Hp)(fp:List Addr),dQ T H' p ⟨[],[]⟩ fp→(∀x∈fp,x=p∨x=a_∨H x=none)→(∀b o,H b=some o→b≠p→H' b=some o)→Q .non H'
theorem Zgc{K:Frag}{mg:Str→Option Value}{T:Tp K mg}{H:Hp}{Q:Addr→Hp→Prop}{E:XK}
  (q:∀(p:Addr)(fp:List Addr)(H':Hp),dQ T H' p ⟨[],[]⟩ fp→(∀x∈fp,H x=none)→Ze H H'→Q p H'):
  ∀x a_,H x=none→H a_=none→a_≠x→Bj T (.ref x::([]++ [])) (upd (upd H a_ (.own x)) x (.ins T.D a_ [])) (λv a4=>v= .non∧Q x a4) E:=by
 intro x a_ aT jW ne;refine⟨x,a_,rfl,Zd,by rw[b2 ne,Zd],λH' fp bV bv a5=>⟨rfl,q x fp H' bV (λy bE=>?_) (λb o e=>a5 b o ?_ (d9 e aT))⟩⟩
 ·rcases bv y bE with rfl|rfl|h
  ·exact aT
  ·exact jW
  ·by_cases aS:y=x
   ·rw[aS];exact aT
   ·by_cases a2:y=a_
    ·rw[a2];exact jW
    ·rw[b2 aS,b2 a2] at h;exact h
 ·rw[b2 (d9 e aT),b2 (d9 e jW)];exact e
local macro_rules| `(tactic|walk_at "rd")=>`(tactic|first|with_reducible refine Nm.Zgc ?_|fail "none here")
section
variable {P:Program}{w:World}{K:Frag}{mg:Str→Option Value}{base:Heap}
theorem Bk(T:Tp K mg):OkI P w mg base 1 T.cn (Bj T):=by
 have f4:=T.a;have f5:=T.e;refine T.cn.F.okX GC (λvs H Q E h=>?_) (λdi A outer s H vs Q E a3 h=>?_)
 ·obtain⟨p,a_,rfl,_⟩:=h
  rfl
 ·have hu:=a3.hu;obtain⟨p,a_,rfl,bb,jW,q⟩:=h;refine⟨_,(bR (jQ (K:=K) rfl (pv 0) pP rfl)
     (cm (jQ (K:=K) rfl (pv 0) (hE bp) rfl))),?_⟩
  try dsimp only[L2.cxX,L2.ZJ,L2.Zl]
  walk_at "rds";intro a bx;have jy:p≠a:=d9 bb bx;have vY:a_≠a:=d9 jW bx;have lN:p≠a_:=gT bb jW (by intro z;cases z);have gP:(upd H a (.dK [])) p=some (.ins T.D a_ []):=by rw[b2 jy];exact bb
  walk_at "rds";refine⟨qav _,λb aN=>?_⟩;have kh:H b=none:=by
   by_cases aS:b=p
   ·rw[aS,Zd] at aN;cases aN
   ·by_cases a2:b=a
    ·rw[a2];exact bx
    ·rw[b2 aS,b2 a2] at aN;exact aN
  have jz:p≠b:=d9 bb kh;have v1:a_≠b:=d9 jW kh;have hv:a≠b:=by
   intro z;rw[←z,b2 jy.symm,Zd] at aN;cases aN
  have mb:(upd (upd (upd H a (.dK [])) p (.ins T.D a_ [("numbers",.ref a)])) b (.lst [])) p=some (.ins T.D a_ [("numbers",.ref a)]):=by rw[b2 jz,Zd]
  walk_at "rds";refine q _ [p,a_,a,b] ⟨a_,a,b,[],rfl,Zd,?_,?_,?_,hv,.nil⟩ (λx aT=>?_) (λc o e a8=>?_)
  ·rw[b2 lN.symm,b2 v1,b2 lN.symm,b2 vY];exact jW
  ·rw[b2 jy.symm,b2 hv,b2 jy.symm,Zd];rfl
  ·rw[b2 jz.symm,Zd]
  ·simp only[qad,qaR,or_false] at aT;rcases aT with rfl|rfl|rfl|rfl
   ·exact .inl rfl
   ·exact .inr (.inl rfl)
   ·exact .inr (.inr bx)
   ·exact .inr (.inr kh)
  ·rw[b2 a8,b2 (d9 e kh),b2 a8,b2 (d9 e bx)];exact e
end
noncomputable def nameC (k:Nat):Str:=Txt.slice "abcdefgh" (some (k:Int)) none
noncomputable def ki (m far:Nat):List Str:=(List.range m).map nameC++if far=0 then[] else[("z" :Str)]
noncomputable def chainL (m:Nat):List B5:=(List.range (m-1)).map λw:Nat=>⟨w,(w:Int)+1,1,1,0⟩
noncomputable def gg (m far:Nat) (st un:Bool):List B5:=((chainL m++if far=0 then[] else[⟨0,m,far,1,0⟩])++if st then[⟨0,0,2,2,1⟩] else[])++if un then[⟨0,0,2,3,9⟩] else[]
theorem HK:∀k<6,ie (nameC k)=true:=by decide+kernel
theorem HL:∀k<6,nameC k∉(List.range k).map nameC:=by decide+kernel
theorem HN:∀k<7,("z" :Str)∉(List.range k).map nameC:=by decide+kernel
theorem HP:("abcdefgh" :Str).length≤sizeLine:=by decide+kernel
theorem HQ:ie "z" =true:=by decide+kernel
def HR{K:Frag}{mg:Str→Option Value}(T:Tp K mg):Sp:=λvs H Q _=>∃(m far:Nat)(un st:Bool),vs=[.int m,.bl un,.int far,.bl st]∧1≤m∧m≤6∧∀p fp H',dQ T H' p ⟨ki m far,gg m far st un⟩ fp→(∀x∈fp,H x=none)→Ze H H'→Q (.ref p) H'
section
variable {P:Program}{w:World}{K:Frag}{mg:Str→Option Value}{base:Heap}
theorem HS(T:Tp K mg):OkN P w base 6 T.cz (HR T):=by
 have sJ:Ys P w K mg base (CXX P w) 5 T.aF T.aG ["self","giver","taker","give","take","start"] (v2 T):=(HJ T).mono (by decide);have f4:=T.a;have f5:=T.e;refine T.cz.F.okX sf (λvs H Q E h=>?_) (λdi A outer s H vs Q E a3 h=>?_)
 ·obtain⟨m,far,un,st,rfl,_⟩:=h
  rfl
 ·have hu:=a3.hu;obtain⟨m,far,un,st,rfl,h6,hD,q⟩:=h;have zr:=HP;have HV:=HQ;have bw:(m:Int)-1=((m-1:Nat):Int):=by omega
  have grow:∀{aU a4:Hp}{v4 mF:List Addr},Ze H aU→(∀x∈v4,H x=none)→d7 v4 aU a4→VY v4 mF aU→Ze H a4∧∀x∈mF,H x=none:=λs bv f3 gr=>⟨λb o e=>f3.keep _ _ (s _ _ e) (λz=>by rw[bv b z] at e;cases e),λx aT=>(gr x aT).elim (bv x) (f0 s)⟩;refine⟨_,(bR (dG (i:=4) sf.nd rfl (Or.inl rfl) (y3 T.cn (Bk T) a3 T.b8 dw))
     (bR (gh PassesOwn.leaving rfl (l6 rfl T.q (a6 (pv 0) bp)) (d0 (i:=5) sf.nd rfl (Or.inl rfl)) (cm (fx (hb (pv 4) T.a T.x3 (vX T) a3 dw (a6 (oa (ow (K:=K) rfl) Yu (n' (pv 5)) n_) bp)))))
     (bR (gh PassesOwn.leaving rfl (l6 rfl T.q (a6 (dE l8 (pv 0) bQ) bp)) (d0 (i:=5) sf.nd rfl (Or.inl rfl)) (cm (fx (pI (pv 4) T.a T.r sJ a3 T.ag T.ah dw (a6 (pv 5) (a6 (dE (ha K) (pv 5) bQ) (a6 bQ (a6 bQ bp))))))))
     (bR (oj (eU (eo m5 (pv 2) bQ (ez _)) (cm (fx (pI (pv 4) T.a T.r sJ a3 T.ag T.ah dw (a6 bQ (a6 (hb (pv 4) T.a T.x3 (vX T) a3 dw (a6 Yu bp)) (a6 (pv 2) (a6 bQ bp))))))) e7))
     (bR (oj (eU (jR (K:=K) rfl (pv 3) (λ_=>rfl)) (cm (fx (pI (pv 4) T.a T.r sJ a3 T.aH .nil dw (a6 bQ (a6 bQ (a6 bQ (a6 bQ (a6 bQ bp)))))))) e7))
     (bR (oj (eU (jR (K:=K) rfl (pv 1) (λ_=>rfl)) (cm (fx (pI (pv 4) T.a T.r sJ a3 T.aH .nil dw (a6 bQ (a6 bQ (a6 bQ (a6 bQ (a6 bQ bp)))))))) e7))
     (cm (dS (pv 4))))))))),?_⟩
  try dsimp only[L2.cxX,L2.ZJ,L2.Zl]
  walk_at "rds";intro bb fp aU bV bv bS;walk_at "rds";refine U5 (n:=m) (λi σ H'=>∃eQ eF,σ=[some (.int m),some (.bl un),some (.int far),some (.bl st),some (.ref bb),eF]∧dQ T H' bb ⟨(List.range i).map nameC,[]⟩ eQ∧Ze H H'∧∀x∈eQ,H x=none) ⟨fp,_,rfl,bV,bS,bv⟩ ?_ ?_
  ·rintro i σ a4 hi ⟨mF,eF,rfl,fh,bK,jA⟩;rw[qbW];walk_at "rds";refine UP fh (HK i (by omega)) (HL i (by omega)) (by simp;omega) (λb_ kj fE f3 gr=>?_);obtain⟨bM,hx⟩:=grow bK jA f3 gr;refine⟨kj,_,rfl,?_,bM,hx⟩;rw[qbH,qaG];exact fE
  rintro σ a4 ⟨mF,eF,rfl,fh,bK,jA⟩;have ny:((List.range m).map nameC).length=m:=by simp
  have v5:=HN m (by omega);have Bl:ki m far=(List.range m).map nameC++if far=0 then[] else[("z" :Str)]:=rfl
  have Bm:gg m far st un=((chainL m++if far=0 then[] else[⟨0,m,far,1,0⟩])++if st then[⟨0,0,2,2,1⟩] else[])++if un then[⟨0,0,2,3,9⟩] else[]:=rfl
  rw[Bl,Bm] at q;clear Bl Bm;generalize (List.range m).map nameC=fj at*;walk_at "rds";rw[bw];refine U5 (n:=m-1) (λi σ H'=>∃eQ eF,σ=[some (.int m),some (.bl un),some (.int far),some (.bl st),some (.ref bb),eF]∧dQ T H' bb ⟨fj,(List.range i).map λw:Nat=>⟨w,(w:Int)+1,1,1,0⟩⟩ eQ∧Ze H H'∧∀x∈eQ,H x=none) ⟨mF,_,rfl,fh,bK,jA⟩ ?_ ?_
  ·rintro i σ b_ hi ⟨kj,eF,rfl,fE,bM,hx⟩;rw[qbW];walk_at "rds";refine VG fE (by omega) (by simp;omega) (by omega) (by simp;omega) (by omega) (by omega) (by omega) (by simp;omega) (λcw oZ iJ f3 gr=>?_);obtain⟨c_,jB⟩:=grow bM hx f3 gr;refine⟨oZ,_,rfl,?_,c_,jB⟩;rw[qbH,qaG];exact iJ
  rintro σ b_ ⟨kj,hK,rfl,fE,bM,hx⟩;have fo:(chainL m).length=m-1:=by unfold chainL;simp
  change dQ T b_ bb ⟨fj,chainL m⟩ kj at fE
  generalize chainL m=ch at*;refine Rd.cut (λbN H'=>∃eQ,bN=[some (.int m),some (.bl un),some (.int far),some (.bl st),some (.ref bb),hK]∧dQ T H' bb ⟨fj++if far=0 then[] else[("z" :Str)],ch++if far=0 then[] else[⟨0,m,far,1,0⟩]⟩ eQ∧Ze H H'∧∀x∈eQ,H x=none) ?k1 ?jM
  case jM=>
   walk_at "rds";refine Rd.ifD (λc=>?_) (λc=>?_)
   ·rw[if_neg (by omega),if_neg (by omega)];walk_at "rds";refine UP fE HV v5 (by dsimp only;omega) (λcw oZ iJ f3 gr=>?_);obtain⟨c_,jB⟩:=grow bM hx f3 gr;dsimp only;rw[ny];walk_at "rds";refine VG iJ (by omega) (by simp<;>omega) (by omega) (by simp<;>omega) (by omega) (by omega) (by omega) (by dsimp only;omega) (λb3 qP mG iP v6=>?_);obtain⟨dt,kk⟩:=grow c_ jB iP v6;exact⟨qP,rfl,mG,dt,kk⟩
   ·rw[if_pos (by omega),if_pos (by omega),qa8,qa8];walk_at "rds";exact⟨kj,rfl,fE,bM,hx⟩
  case k1=>
  rintro bN cw ⟨oZ,rfl,iJ,c_,jB⟩;have i2:1≤(fj++if far=0 then[] else[("z" :Str)]).length:=by rw[qap];omega
  have fC:(ch++if far=0 then[] else[(⟨0,m,far,1,0⟩:B5)]).length≤6:=by rw[qap];split<;>simp<;>omega
  generalize (fj++if far=0 then[] else[("z" :Str)])=Bn at*;generalize (ch++if far=0 then[] else[(⟨0,m,far,1,0⟩:B5)])=v7 at*;refine Rd.cut (λbN H'=>∃eQ,bN=[some (.int m),some (.bl un),some (.int far),some (.bl st),some (.ref bb),hK]∧dQ T H' bb ⟨Bn,v7++if st then[⟨0,0,2,2,1⟩] else[]⟩ eQ∧Ze H H'∧∀x∈eQ,H x=none) ?k2 ?l9
  case l9=>
   walk_at "rds";cases st with
   |true=>
    walk_at "rds";refine VG iJ (by omega) (by dsimp only;omega) (by omega) (by dsimp only;omega) (by omega) (by omega) (by omega) (by dsimp only;omega) (λb3 qP mG iP v6=>?_);obtain⟨dt,kk⟩:=grow c_ jB iP v6;exact⟨qP,rfl,mG,dt,kk⟩
   |false=>
    walk_at "rds";exact⟨oZ,rfl,by simpa using iJ,c_,jB⟩
  case k2=>
  rintro bN b3 ⟨qP,rfl,mG,dt,kk⟩;have fV:(v7++if st then[(⟨0,0,2,2,1⟩:B5)] else[]).length≤7:=by rw[qap];split<;>simp<;>omega
  generalize (v7++if st then[(⟨0,0,2,2,1⟩:B5)] else[])=HW at*;refine Rd.cut (λbN H'=>∃eQ,bN=[some (.int m),some (.bl un),some (.int far),some (.bl st),some (.ref bb),hK]∧dQ T H' bb ⟨Bn,HW++if un then[⟨0,0,2,3,9⟩] else[]⟩ eQ∧Ze H H'∧∀x∈eQ,H x=none) ?k3 ?HX
  case HX=>
   walk_at "rds";cases un with
   |true=>
    walk_at "rds";refine VG mG (by omega) (by dsimp only;omega) (by omega) (by dsimp only;omega) (by omega) (by omega) (by omega) (by dsimp only;omega) (λdN v8 kT fr6 HY=>?_);obtain⟨eB,o0⟩:=grow dt kk fr6 HY;exact⟨v8,rfl,kT,eB,o0⟩
   |false=>
    walk_at "rds";exact⟨qP,rfl,by simpa using mG,dt,kk⟩
  case k3=>
  rintro bN dN ⟨v8,rfl,kT,eB,o0⟩;walk_at "rds";exact q bb v8 dN kT o0 eB
end
def HZ{K:Frag}{mg:Str→Option Value}(T:Tp K mg)(ea:Addr):Sp:=λvs H Q _=>∃(i:Nat),vs=[.ref ea]∧i<5∧H ea=some (gN ea (kC T i))∧∀H',Ze H H'→Q (.int i) H'
section
variable {P:Program}{w:World}{K:Frag}{mg:Str→Option Value}{base:Heap}
theorem Bo(T:Tp K mg):OkH P w base 1 T.co (HZ T):=by
 refine T.co.F.okH vB (λea vs H Q E h=>?_) (λea di A outer s H vs Q E a3 h=>?_)
 ·obtain⟨i,rfl,_⟩:=h
  rfl
 ·have hu:=a3.hu;obtain⟨i,rfl,hi,fG,q⟩:=h;have RD:Yw K (kC T i):=by match i,hi with|0,_=>exact T.b0|1,_=>exact T.cc|2,_=>exact T.aM|3,_=>exact T.bJ|4,_=>exact T.cd
  have k0:PySem.W.kitOne K (.ref (kC T i)) (.ref T.h)=some (decide (i=0)):=by match i,hi with|0,_=>exact T.al|1,_=>exact T.ax|2,_=>exact T.A|3,_=>exact T.ab|4,_=>exact T.aD
  have k1:PySem.W.kitOne K (.ref (kC T i)) (.ref T.ad)=some (decide (i=1)):=by match i,hi with|0,_=>exact T.az|1,_=>exact T.aO|2,_=>exact T.I|3,_=>exact T.an|4,_=>exact T.aV
  have k2:PySem.W.kitOne K (.ref (kC T i)) (.ref T.i)=some (decide (i=2)):=by match i,hi with|0,_=>exact T.z|1,_=>exact T.G|2,_=>exact T.j|3,_=>exact T.w|4,_=>exact T.N
  have k3:PySem.W.kitOne K (.ref (kC T i)) (.ref T.T)=some (decide (i=3)):=by match i,hi with|0,_=>exact T.Z|1,_=>exact T.aj|2,_=>exact T.t|3,_=>exact T.X|4,_=>exact T.ar
  have lG:PySem.W.kitOne K (.ref (kC T i)) (.ref T.aL)=some (decide (i=4)):=by match i,hi with|0,_=>exact T.aB|1,_=>exact T.aQ|2,_=>exact T.L|3,_=>exact T.ap|4,_=>exact T.aX
  have k5:PySem.W.kitOne K (.ref (kC T i)) (.ref T.a0)=some (decide (i=5)):=by match i,hi with|0,_=>exact T.am|1,_=>exact T.ay|2,_=>exact T.B|3,_=>exact T.ac|4,_=>exact T.aE
  have RE:PySem.W.kitOne K (.ref (kC T i)) (.ref T.bX)=some (decide (i=6)):=by match i,hi with|0,_=>exact T.aC|1,_=>exact T.aR|2,_=>exact T.M|3,_=>exact T.aq|4,_=>exact T.aY
  have RF:PySem.W.kitOne K (.ref (kC T i)) (.ref T.S)=some (decide (i=7)):=by match i,hi with|0,_=>exact T.aa|1,_=>exact T.ak|2,_=>exact T.u|3,_=>exact T.Y|4,_=>exact T.au
  have RG:PySem.W.kitOne K (.ref (kC T i)) (.ref T.bY)=some (decide (i=8)):=by match i,hi with|0,_=>exact T.aA|1,_=>exact T.aP|2,_=>exact T.J|3,_=>exact T.ao|4,_=>exact T.aW
  have kv:PySem.W.kitOne K (.ref (kC T i)) (.type "ValueError")=some true:=by match i,hi with|0,_=>exact T.H|1,_=>exact T.O|2,_=>exact T.m|3,_=>exact T.C|4,_=>exact T.P
  generalize kC T i=cl at*;have a':(([0,1,2,3,4,5,6,7,8].map λn:Nat=>decide (i=n)).map λb=>if b then(1:Int) else 0).sum=1:=by match i,hi with|0,_=>rfl|1,_=>rfl|2,_=>rfl|3,_=>rfl|4,_=>rfl
  refine⟨_,(bR (dG (i:=1) vB.nd rfl (Or.inl rfl) (hE (a6 (ey (kL (K:=K) rfl) (by rfl) T.f qan (a6 (pv 0) (a6 (ji (v:= .ref T.h) rfl T.o.m rfl) bp))) (a6 (ey (kL (K:=K) rfl) (by rfl) T.f qan (a6 (pv 0) (a6 (ji (v:= .ref T.ad) rfl T.ae.m rfl) bp))) (a6 (ey (kL (K:=K) rfl) (by rfl) T.f qan (a6 (pv 0) (a6 (ji (v:= .ref T.i) rfl T.x.m rfl) bp))) (a6 (ey (kL (K:=K) rfl) (by rfl) T.f qan (a6 (pv 0) (a6 (ji (v:= .ref T.T) rfl T.aw.m rfl) bp))) bp))))))
     (bR (dG (i:=1) vB.nd rfl (Or.inl rfl) (dE (ha K) (pv 1) (hE (a6 (ey (kL (K:=K) rfl) (by rfl) T.f qan (a6 (pv 0) (a6 (ji (v:= .ref T.aL) rfl T.bh.m rfl) bp))) (a6 (ey (kL (K:=K) rfl) (by rfl) T.f qan (a6 (pv 0) (a6 (ji (v:= .ref T.a0) rfl T.a1.m rfl) bp))) (a6 (ey (kL (K:=K) rfl) (by rfl) T.f qan (a6 (pv 0) (a6 (ji (v:= .ref T.bX) rfl T.cj.m rfl) bp))) (a6 (ey (kL (K:=K) rfl) (by rfl) T.f qan (a6 (pv 0) (a6 (ji (v:= .ref T.S) rfl T.y.m rfl) bp))) bp)))))))
     (bR (fx (hn (K:=K) rfl qak qaC qaD iT (pv 1) (a6 (ey (kL (K:=K) rfl) (by rfl) T.f qan (a6 (pv 0) (a6 (ji (v:= .ref T.bY) rfl T.ck.m rfl) bp))) bp)))
     (bR (eU (PW.pt (l4 (eo (ov (K:=K) rfl hu) (ey (Gp (K:=K) (ea:=ea) rfl a3.hd) (by rfl) T.b7 PyProof.Rows.boot_sum (a6 (Gn (ea:=ea) a3.hd (gL (x:="_law_one") (zs:=[]) (ix:=[]) (dh vl) ["_law_e","_law_some"] rfl rfl (by decide+kernel)) (Gm (K:=K) rfl (pv 1)) (λcl C s H fp=>⟨(d0 (i:=0) (show(["_law_one"]:List Str).Nodup by decide+kernel) rfl (Or.inl rfl)),hG,(lm yk (by rfl) T.b5 PyProof.Rows.boot_int (a6 (pv 0) bp))⟩)) bp)) bQ (ez _)) (mX (la (jR (K:=K) rfl (ey (kL (K:=K) rfl) (by rfl) T.f qan (a6 (pv 0) (a6 (rv (v:= .ty "ValueError") (by rfl) T.a9 (by first|rfl|decide+kernel) rfl) bp))) (λ_=>rfl)))))) (cm (dS (tQ tR bQ))) e7)
     (cm (dS (hn (K:=K) rfl qak qbz qbA zj (pv 1) (a6 VZ bp)))))))),?_⟩
  try dsimp only[L2.cxH,L2.cxX,L2.ZJ,L2.Zl]
  walk_at "rds";refine⟨by show 4≤sizeLine;decide,λe' g5=>?_⟩;have a7:Ze H (upd H e' (.lst [V.bl (decide (i=0)),V.bl (decide (i=1)),V.bl (decide (i=2)),V.bl (decide (i=3))])):=dH g5;have ht:(upd H e' (.lst [V.bl (decide (i=0)),V.bl (decide (i=1)),V.bl (decide (i=2)),V.bl (decide (i=3))])) e'=some (.lst [V.bl (decide (i=0)),V.bl (decide (i=1)),V.bl (decide (i=2)),V.bl (decide (i=3))]):=Zd;generalize upd H e' (.lst [V.bl (decide (i=0)),V.bl (decide (i=1)),V.bl (decide (i=2)),V.bl (decide (i=3))])=aU at*;have RH:=a7 _ _ fG;walk_at "rds";refine⟨by show 4≤sizeLine;decide,λiD jx=>?_⟩;have bK:Ze aU (upd aU iD (.lst [V.bl (decide (i=4)),V.bl (decide (i=5)),V.bl (decide (i=6)),V.bl (decide (i=7))])):=dH jx;have lO:(upd aU iD (.lst [V.bl (decide (i=4)),V.bl (decide (i=5)),V.bl (decide (i=6)),V.bl (decide (i=7))])) iD=some (.lst [V.bl (decide (i=4)),V.bl (decide (i=5)),V.bl (decide (i=6)),V.bl (decide (i=7))]):=Zd;generalize upd aU iD (.lst [V.bl (decide (i=4)),V.bl (decide (i=5)),V.bl (decide (i=6)),V.bl (decide (i=7))])=a4 at*;refine Rd.ZdP (bK _ _ ht) lO (by show 8≤sizeLine;decide) (λg6 lP=>?_);have bM:Ze a4 (upd a4 g6 (.lst ([V.bl (decide (i=0)),V.bl (decide (i=1)),V.bl (decide (i=2)),V.bl (decide (i=3))]++ [V.bl (decide (i=4)),V.bl (decide (i=5)),V.bl (decide (i=6)),V.bl (decide (i=7))]))):=dH lP;have sK:(upd a4 g6 (.lst ([V.bl (decide (i=0)),V.bl (decide (i=1)),V.bl (decide (i=2)),V.bl (decide (i=3))]++ [V.bl (decide (i=4)),V.bl (decide (i=5)),V.bl (decide (i=6)),V.bl (decide (i=7))]))) g6=some (.lst ([V.bl (decide (i=0)),V.bl (decide (i=1)),V.bl (decide (i=2)),V.bl (decide (i=3))]++ [V.bl (decide (i=4)),V.bl (decide (i=5)),V.bl (decide (i=6)),V.bl (decide (i=7))])):=Zd;generalize upd a4 g6 (.lst ([V.bl (decide (i=0)),V.bl (decide (i=1)),V.bl (decide (i=2)),V.bl (decide (i=3))]++ [V.bl (decide (i=4)),V.bl (decide (i=5)),V.bl (decide (i=6)),V.bl (decide (i=7))]))=b_ at*;have ii:=(a7.trans bK).trans bM;have RI:=ii _ _ fG;have RJ:([V.bl (decide (i=0)),V.bl (decide (i=1)),V.bl (decide (i=2)),V.bl (decide (i=3))]++ [V.bl (decide (i=4)),V.bl (decide (i=5)),V.bl (decide (i=6)),V.bl (decide (i=7))]).length<sizeLine:=by show 8<sizeLine;decide
  walk_at "rds";have c_:Ze H (upd b_ g6 (.lst (([V.bl (decide (i=0)),V.bl (decide (i=1)),V.bl (decide (i=2)),V.bl (decide (i=3))]++ [V.bl (decide (i=4)),V.bl (decide (i=5)),V.bl (decide (i=6)),V.bl (decide (i=7))])++ [V.bl (decide (i=8))]))):=ii.new (f0 (a7.trans bK) lP);have Bp:(upd b_ g6 (.lst (([V.bl (decide (i=0)),V.bl (decide (i=1)),V.bl (decide (i=2)),V.bl (decide (i=3))]++ [V.bl (decide (i=4)),V.bl (decide (i=5)),V.bl (decide (i=6)),V.bl (decide (i=7))])++ [V.bl (decide (i=8))]))) g6=some (.lst (([0,1,2,3,4,5,6,7,8].map λn:Nat=>decide (i=n)).map V.bl)):=Zd;generalize upd b_ g6 (.lst (([V.bl (decide (i=0)),V.bl (decide (i=1)),V.bl (decide (i=2)),V.bl (decide (i=3))]++ [V.bl (decide (i=4)),V.bl (decide (i=5)),V.bl (decide (i=6)),V.bl (decide (i=7))])++ [V.bl (decide (i=8))]))=cw at*;have Bq:=c_ _ _ fG;walk_at "rds";refine Rd.kinds (bs:=([0,1,2,3,4,5,6,7,8].map λn:Nat=>decide (i=n))) rfl Bp Bq (by show 9<sizeLine;decide) (λb H' dW k=>?_) λb3 dt=>?_
  ·walk_at "rds";exact .inr ⟨_,rfl,k⟩
  rw[a'];have RK:=dt _ _ Bq;have H1:=dt _ _ Bp;walk_at "rds";refine Rd.Zju (j:=i) H1 (by match i,hi with|0,_=>rfl|1,_=>rfl|2,_=>rfl|3,_=>rfl|4,_=>rfl) (by match i,hi with|0,_=>decide|1,_=>decide|2,_=>decide|3,_=>decide|4,_=>decide) ?_;exact q b3 (c_.trans dt)
end
def H2{K:Frag}{mg:Str→Option Value}(T:Tp K mg):Sp:=λvs H Q E=>∃(p c:Addr)(aJ:HM)(fp:List Addr)(cf:List Int),vs=[.ref p,.ref c]∧dQ T H p aJ fp∧SqL K H c (cf.map V.int)∧cf.length≤1000∧(¬kS aJ.names.length cf→E (.ref T.h) none H)∧(kS aJ.names.length cf→¬cf.Nodup→E (.ref T.ad) none H)∧(kS aJ.names.length cf→cf.Nodup→Q .non H)
section
variable {P:Program}{w:World}{K:Frag}{mg:Str→Option Value}{base:Heap}
theorem H3(T:Tp K mg):OkN P w base 5 T.cA (H2 T):=by
 have f4:=T.a;have f5:=T.e;refine T.cA.F.okX AA (λvs H Q E h=>?_) (λdi A outer s H vs Q E a3 h=>?_)
 ·obtain⟨p,c,aJ,fp,cf,rfl,_⟩:=h
  rfl
 ·have hu:=a3.hu;obtain⟨p,c,aJ,fp,cf,rfl,bV,a8,hz,c8,dI,q⟩:=h;refine⟨_,(bR (eU (eo (ia (K:=K) rfl hu) (ey (gM K) (by rfl) T.g qas (a6 (pv 1) bp)) bQ (ez _)) (cm (i1 T.o.g T.o.e qaq rfl (a6 Yu bp))) e7)
     (bR (gh PassesOwn.leaving rfl (fW (K:=K) rfl (pv 1)) (d0 (i:=2) AA.nd rfl (Or.inl rfl)) (cm (fx (hb (pv 0) T.a T.x8 (qO T) a3 dw (a6 (pv 2) bp)))))
     (cm (eU (eo (ov (K:=K) rfl hu) (zR rfl rfl (by rfl) T.g (by rfl) T.b6 (a6 (pv 1) bp)) (ey (gM K) (by rfl) T.g qas (a6 (pv 1) bp)) (ez _)) (cm (i1 T.ae.g T.ae.e qaq rfl (a6 Yu bp))) e7)))),?_⟩
  try dsimp only[L2.cxX,L2.ZJ,L2.Zl]
  walk_at "rds";refine Rd.ifD (λe=>?_) (λe=>?_)
  ·walk_at "rds";exact c8 λz=>z.1 (by rw[GE] at e;exact List.length_eq_zero_iff.mp (by omega))
  rw[GE] at e;have eO:cf≠[]:=λz=>e (by rw[z];rfl);walk_at "rds";refine Yz (fR a8) (λi σ H'=>H'=H∧(∃dj,σ=[some (.ref p),some (.ref c),dj])∧∀g∈cf.take i,0≤g∧g<(aJ.names.length:Int)) ⟨rfl,⟨_,rfl⟩,by simp⟩ (λi σ H' h=>h.1▸Ze.refl H) ?_ ?_
  ·rintro i σ H' hi ⟨rfl,⟨dj,rfl⟩,lp⟩;have dx:i<cf.length:=by rw[GE] at hi;exact hi
   have dZ:(cf.map V.int).getD i .non=V.int cf[i]:=by simp[List.getD,dx]
   rw[dZ,qac dx];have H4:=qaa dx;generalize cf[i]=g at*;walk_at "rds";refine⟨p,g,aJ,fp,rfl,bV,λz=>c8 λy=>z (y.2 g H4),λde aS=>?_⟩;walk_at "rds";refine⟨rfl,⟨_,rfl⟩,λx aT=>?_⟩;rcases qax.mp aT with z|z
   ·exact lp x z
   ·rw[FM.mp z];exact⟨de,aS⟩
  ·rintro σ H' ⟨rfl,⟨dj,rfl⟩,lp⟩;rw[GE,qaB] at lp;have bc:kS aJ.names.length cf:=⟨eO,lp⟩;walk_at "rds";refine⟨.ref c,rfl,c,cf,rfl,a8,by omega,λn bF fg=>?_⟩;walk_at "rds"
   by_cases z:cf.Nodup
   ·have eO:((n:Nat):Int)=((cf.map V.int).length:Int):=by rw[GE,fg.mpr z]
    walk_at "rds";exact q bc z
   ·have eO:¬((n:Nat):Int)=((cf.map V.int).length:Int):=by
     rw[GE];exact λy=>z (fg.mp (by omega))
    walk_at "rds";exact dI bc z
end
def ZaA{K:Frag}{mg:Str→Option Value}(T:Tp K mg):Sp:=λvs H Q _=>∃a b:Nat,vs=[.int a,.int b]∧Q (.int (Nat.gcd a b:Nat)) H
theorem Ziy{K:Frag}{mg:Str→Option Value}{T:Tp K mg}{H:Hp}{Q:VK}{E:XK}{a b:Nat}(q:Q (.int (Nat.gcd a b:Nat)) H):ZaA T ([.int a,.int b]++ []) H Q E:=⟨a,b,rfl,q⟩
local macro_rules| `(tactic|walk_at "rd")=>`(tactic|first|((with_reducible show Nm.ZaA _ _ _ _ _);with_reducible refine Nm.Ziy ?_)|fail "none here")
section
variable {P:Program}{w:World}{K:Frag}{mg:Str→Option Value}{base:Heap}
theorem v9(T:Tp K mg):OkN P w base 1 T.ch (ZaA T):=by
 refine T.ch.F.okX sg (λvs H Q E h=>?_) (λdi A outer s H vs Q E a3 h=>?_)
 ·obtain⟨a,b,rfl,_⟩:=h
  rfl
 ·have hu:=a3.hu;obtain⟨a0,b0,rfl,q⟩:=h;rw[←My.Ze8] at q;refine⟨_,(bR (pw PassesOwn.leaving (eo m5 (pv 1) bQ (ez _)) (bR (dG (i:=2) sg.nd rfl (Or.inl rfl) (dE gH (pv 0) (pv 1)))
     (bR (dG (i:=0) sg.nd rfl (Or.inl rfl) (pv 1))
     (cm (dG (i:=1) sg.nd rfl (Or.inl rfl) (pv 2))))))
     (cm (dS (pv 0)))),?_⟩
  try dsimp only[L2.cxX,L2.ZJ,L2.Zl]
  walk_at "rd";refine Za9 (λm σ H'=>H'=H∧∃(x y:Int)(r:Option V),m=y.toNat∧σ=[some (.int x),some (.int y),r]∧0≤x∧0≤y∧My.G x y=My.G a0 b0) _ ⟨rfl,a0,b0,none,rfl,rfl,by omega,by omega,rfl⟩ ?_;rintro m σ H' ⟨rfl,x,y,r,rfl,rfl,aT,bE,oQ⟩;walk_at "rds";refine UK (λc=>pS ?_) (λc=>?_)
  ·have v_:0<y:=of_decide_eq_true c;walk_at "rds";exact⟨_,(by have:=Int.emod_nonneg x (show y≠0 by omega);have:=Int.emod_lt_of_pos x v_;omega),rfl,y,x % y,some (.int (x % y)),rfl,rfl,bE,Int.emod_nonneg x (by omega),(GY aT v_).trans oQ⟩
  ·have v_:¬0<y:=λz=>c (decide_eq_true z);have e:x=My.G a0 b0:=by rw[←oQ,My.ZmQ aT (show y=0 by omega)]
   walk_at "rds";rw[e];exact q
end
def H5{K:Frag}{mg:Str→Option Value}(T:Tp K mg):Sp:=λvs H Q E=>∃(r c:Addr)(rs ms:List Int),vs=[.ref r,.ref c]∧SqL K H r (rs.map V.int)∧SqL K H c (ms.map V.int)∧ms≠[]∧ms.Nodup∧ms.length≤1000∧(∀m∈ms,0≤m∧m<(rs.length:Int))∧(∀x∈rs,1≤x∧x≤1000)∧
 ∀(d:Addr)(H':Hp),H d=none→Ze H H'→H' d=some (.dK (turnsK (d3 rs ms) ms))→Q (.ref d) H'
section
variable {P:Program}{w:World}{K:Frag}{mg:Str→Option Value}{base:Heap}
theorem H6(T:Tp K mg):OkN P w base 2 T.cB (H5 T):=by
 refine T.cB.F.okX oN (λvs H Q E h=>?_) (λdi A outer s H vs Q E a3 h=>?_)
 ·obtain⟨r,c,rs,ms,rfl,_⟩:=h
  rfl
 ·have hu:=a3.hu;obtain⟨r,c,rs,ms,rfl,qQ,a8,bF,fg,hz,o1,qR,q⟩:=h;have fq:∀m∈ms,atI (rs.map V.int) m=some (.int (rs.getD m.toNat 0))∧1≤rs.getD m.toNat 0∧rs.getD m.toNat 0≤1000:=λm bo=>by
   obtain⟨de,aS⟩:=o1 m bo;obtain⟨k,rfl⟩:=qaJ de;have a5:k<rs.length:=by omega
   rw[qab];have e:rs.getD k 0=rs[k]:=by simp[List.getD,a5]
   rw[e];exact⟨iS (by simp[a5]),qR _ (qaa a5)⟩
  refine⟨_,(bR (dG (i:=2) oN.nd rfl (Or.inl rfl) bQ)
     (bR (gh PassesOwn.leaving rfl (fW (K:=K) rfl (pv 1)) (d0 (i:=3) oN.nd rfl (Or.inl rfl)) (cm (dG (i:=2) oN.nd rfl (Or.inl rfl) (d8 T.ch (v9 T) a3 dw (a6 (pv 2) (a6 (dF (ixk K) (pv 0) (pv 3) (λ_ _=>rfl)) bp))))))
     (bR (dG (i:=4) oN.nd rfl (Or.inl rfl) pP)
     (bR (gh PassesOwn.leaving rfl (fW (K:=K) rfl (pv 1)) (d0 (i:=3) oN.nd rfl (Or.inl rfl)) (cm (kA (dE iA (dF (ixk K) (pv 0) (pv 3) (λ_ _=>rfl)) (pv 2)) (lb (pv 4) (pv 3) (nl hu)))))
     (cm (dS (pv 4))))))),?_⟩
  try dsimp only[L2.cxX,L2.ZJ,L2.Zl]
  walk_at "rds";refine Yz (fR a8) (λi σ H'=>H'=H∧∃(d6 dM:Option V),σ=[some (.ref r),some (.ref c),some (.int (gcdM rs (ms.take i):Nat)),dM,d6]) ⟨rfl,_,_,rfl⟩ (λi σ H' h=>h.1▸Ze.refl H) ?_ ?_
  ·rintro i σ H' hi ⟨rfl,d6,dM,rfl⟩;have dx:i<ms.length:=by rw[GE] at hi;exact hi
   have dZ:(ms.map V.int).getD i .non=V.int ms[i]:=by simp[List.getD,dx]
   rw[dZ];obtain⟨aS,a2,bU⟩:=fq ms[i] (qaa dx);have fy:gcdM rs (ms.take (i+1))=Nat.gcd (gcdM rs (ms.take i)) (rs.getD ms[i].toNat 0).toNat:=by rw[qac dx,vV]
   rw[fy];generalize gcdM rs (ms.take i)=g at*;generalize ms[i]=m at*;obtain⟨v,cv⟩:∃v:Nat,rs.getD m.toNat 0=(v:Int):=⟨(rs.getD m.toNat 0).toNat,by omega⟩;rw[cv] at aS⊢;rw[qab];walk_at "rds";exact⟨rfl,_,_,rfl⟩
  ·rintro σ H' ⟨rfl,d6,dM,rfl⟩;rw[GE,qaB];have ff:=ZfO (rs:=rs) bF λm bo=>(by have:=(fq m bo).2.1;omega);have g1:(gcdM rs ms:Int)≤1000:=by
    obtain⟨m,bo,h⟩:=ZlG (rs:=rs) bF λm bo=>(by have:=(fq m bo).2.1;omega);have:=(fq m bo).2.2;omega
   have Br:d3 rs ms=λm=>rs.getD m.toNat 0 / (gcdM rs ms:Int):=rfl;walk_at "rds";intro d hd;have a7:Ze H' (upd H' d (.dK [])):=dH hd;have ht:(upd H' d (.dK [])) d=some (.dK (turnsK (d3 rs ms) [])):=Zd;generalize upd H' d (.dK [])=aU at*;walk_at "rds";refine Yz (fR a8) (λi σ a4=>Ze H' a4∧a4 d=some (.dK (turnsK (d3 rs ms) (ms.take i)))∧∃(dM:Option V),σ=[some (.ref r),some (.ref c),some (.int (gcdM rs ms:Nat)),dM,some (.ref d)]) ⟨a7,ht,_,rfl⟩ (λi σ a4 h=>h.1) ?_ ?_
   ·rintro i σ a4 hi ⟨bK,hX,dM,rfl⟩;have dx:i<ms.length:=by rw[GE] at hi;exact hi
    have dZ:(ms.map V.int).getD i .non=V.int ms[i]:=by simp[List.getD,dx]
    rw[dZ];obtain⟨aS,a2,bU⟩:=fq ms[i] (qaa dx);have ij:ms[i]∉ms.take i:=λz=>by
     obtain⟨j,bj,hc⟩:=qaw z;rw[qci] at hc;have RL:j<i:=by rw[qaI] at bj;omega
     exact absurd ((qb4 fg).mp hc) (by omega)
    have eX:turnsK (d3 rs ms) (ms.take (i+1))=fO (turnsK (d3 rs ms) (ms.take i)) (Sum.inl ms[i]) (V.int (rs.getD ms[i].toNat 0 / (gcdM rs ms:Int))):=by
     rw[qac dx];exact(Ht (f:=d3 rs ms) ij).symm
    rw[eX];have RM:(turnsK (d3 rs ms) (ms.take i)).length<sizeLine:=by
     unfold turnsK;rw[GE,qaI];exact eE (by omega)
    generalize turnsK (d3 rs ms) (ms.take i)=kv at*;generalize ms[i]=m at*;generalize rs.getD m.toNat 0=v at*;have je:=bK.seq qQ;generalize gcdM rs ms=g at*;have jU:0<(g:Int)∧(g:Int).natAbs.log2<9000:=⟨by omega,Hu (by omega) (by omega)⟩;walk_at "rds";exact⟨bK.new hd,Zd,_,rfl⟩
   ·rintro σ a4 ⟨bK,hX,dM,rfl⟩;rw[GE,qaB] at hX;walk_at "rds";exact q d a4 hd bK hX
end
def H7{K:Frag}{mg:Str→Option Value}(T:Tp K mg):Sp:=λvs H Q E=>∃(iK ba:Addr)(fj:List Str)(bs:List V)(ls:List B5),vs=[.ref iK,.ref ba]∧H iK=some (.lst (fj.map V.str))∧H ba=some (.lst bs)∧fZ H bs ls∧W5 fj∧ls.length≤1000∧
 ∀(p:Addr)(fp:List Addr)(H':Hp),dQ T H' p ⟨fj,ls⟩ fp→(∀x∈fp,H x=none)→Ze H H'→Q (.ref p) H'
section
variable {P:Program}{w:World}{K:Frag}{mg:Str→Option Value}{base:Heap}
theorem H8(T:Tp K mg):OkN P w base 3 T.cC (H7 T):=by
 have f4:=T.a;have f5:=T.e;refine T.cC.F.okX sh (λvs H Q E h=>?_) (λdi A outer s H vs Q E a3 h=>?_)
 ·obtain⟨iK,ba,fj,bs,ls,rfl,_⟩:=h
  rfl
 ·have hu:=a3.hu;obtain⟨iK,ba,fj,bs,ls,rfl,nQ,sL,ek,⟨fg,ij,H9⟩,hz,q⟩:=h;have kl:=ek.length;refine⟨_,(bR (dG (i:=2) sh.nd rfl (Or.inl rfl) (y3 T.cn (Bk T) a3 T.b8 dw))
     (bR (gh PassesOwn.leaving rfl (fW (K:=K) rfl (pv 0)) (d0 (i:=3) sh.nd rfl (Or.inl rfl)) (cm (fx (hb (pv 2) T.a T.x3 (vX T) a3 dw (a6 (pv 3) bp)))))
     (bR (gh PassesOwn.leaving rfl (fW (K:=K) rfl (pv 1)) (d0 (i:=4) sh.nd rfl (Or.inl rfl)) (cm (fx (hb (pv 2) T.a T.x9 (Bh T) a3 dw (a6 (pv 4) bp)))))
     (cm (dS (pv 2)))))),?_⟩
  try dsimp only[L2.cxX,L2.ZJ,L2.Zl]
  walk_at "rds";intro bb fp aU bV bv bS;have RN:iK∉fp:=λz=>by rw[bv iK z] at nQ;cases nQ
  have RO:ba∉fp:=λz=>by rw[bv ba z] at sL;cases sL
  have sM:=bS _ _ nQ;walk_at "rds";refine Yz (fR (SqL.of (p_ (q:=iK) (o:= .lst (fj.map V.str))))) (λi σ H'=>∃(eQ:List Addr)(a1:Option V),σ=[some (.ref iK),some (.ref ba),some (.ref bb),a1,none]∧dQ T H' bb ⟨fj.take i,[]⟩ eQ∧Ze H H'∧(∀x∈eQ,H x=none)) ⟨fp,_,rfl,by simpa using bV,bS,bv⟩ ?_ ?_ ?_
  ·rintro i σ H' ⟨_,_,_,_,h,_⟩;exact V8 (h _ _ nQ)
  ·rintro i σ a4 hi ⟨mF,a1,rfl,fh,bK,jA⟩;have el:i<fj.length:=by simpa using hi
   have dZ:(fj.map V.str).getD i .non= .str fj[i]:=by simp[List.getD,el]
   rw[dZ];have hok:=ij _ (qaa el);have m':fj[i]∉fj.take i:=λz=>by
    obtain⟨j,bj,e⟩:=qaw z;rw[qci] at e;have gD:j<i:=by rw[qaI] at bj;omega
    have:=(qb4 (xs:=fj) (h₀:=by omega) (h₁:=el) fg).mp e;omega
   have mH:=qac el;generalize fj[i]=x at*;walk_at "rds";refine UP fh hok m' (by simp;omega) (λb_ kj fE kD H_=>?_);refine⟨kj,_,rfl,by rw[mH];exact fE,λb o e=>kD.keep _ _ (bK _ _ e) (λz=>by rw[jA b z] at e;cases e),λx aT=>?_⟩;rcases H_ x aT with z|z
   ·exact jA x z
   ·exact f0 bK z
  rintro σ a4 ⟨mF,a1,rfl,fh,bK,jA⟩;rw[GE,qaB] at fh;have RP:=bK _ _ sL;walk_at "rds";refine Yz (fR (SqL.of (p_ (q:=ba) (o:= .lst bs)))) (λi σ H'=>∃(eQ:List Addr)(dj:Option V),σ=[some (.ref iK),some (.ref ba),some (.ref bb),a1,dj]∧dQ T H' bb ⟨fj,ls.take i⟩ eQ∧Ze H H'∧(∀x∈eQ,H x=none)) ⟨mF,_,rfl,by simpa using fh,bK,jA⟩ ?_ ?_ ?_
  ·rintro i σ H' ⟨_,_,_,_,h,_⟩;exact V8 (h _ _ sL)
  ·rintro i σ b_ hi ⟨kj,dj,rfl,fE,bM,hx⟩;have dx:i<ls.length:=by omega
   obtain⟨t,h3,fK⟩:=ek.at (GT dx);have dJ:bs.getD i .non= .ref t:=by simp[List.getD,h3]
   rw[dJ];have eX:=qac dx;generalize ls[i]=l at*;walk_at "rds";refine⟨bb,t,l,⟨fj,ls.take i⟩,kj,rfl,fE,bM _ _ fK,by simp;omega,λcw oZ iJ lQ Ia=>?_⟩;refine⟨oZ,_,rfl,by rw[eX];exact iJ,λb o e=>lQ.keep _ _ (bM _ _ e) (λz=>by rw[hx b z] at e;cases e),λx aT=>?_⟩;rcases Ia x aT with z|z
   ·exact hx x z
   ·exact f0 bM z
  rintro σ b_ ⟨kj,dj,rfl,fE,bM,hx⟩;rw[kl,qaB] at fE;walk_at "rds";exact q bb kj b_ fE hx bM
end
def Ib{K:Frag}{mg:Str→Option Value}(T:Tp K mg):Sp:=λvs H Q E=>∃(p:Addr)(aJ:HM)(fp:List Addr),vs=[.ref p]∧dQ T H p aJ fp∧
 ∀r H',H r=none→Ze H H'→H' r=some (.lst (aJ.names.map V.str))→Q (.ref r) H'
section
variable {P:Program}{w:World}{K:Frag}{mg:Str→Option Value}{base:Heap}
theorem sN(T:Tp K mg):OkM P w mg base 1 T.cb (Ib T):=by
 have f4:=T.a;have f5:=T.e;refine T.cb.F.okX GD (λvs H Q E h=>?_) (λdi A outer s H vs Q E a3 h=>?_)
 ·obtain⟨p,aJ,fp,rfl,_⟩:=h
  rfl
 ·have hu:=a3.hu;obtain⟨p,aJ,fp,rfl,bV,q⟩:=h;obtain⟨a_,a,b,bs,rfl,aS,a2,bU,dD,hv,d2⟩:=id bV;refine⟨_,(cm (dS (lm (y5 rfl) (by rfl) T.E qba (a6 (fS (K:=K) rfl (pv 0) rfl) bp)))),?_⟩
  try dsimp only[L2.cxX,L2.ZJ,L2.Zl]
  walk_at "rds";intro l gA;rw[Zcg];exact q l _ gA (dH gA) Zd
end
def Ud{K:Frag}{mg:Str→Option Value}(T:Tp K mg):Sp:=λvs H Q _=>∃(p:Addr)(aJ:HM)(fp:List Addr),vs=[.ref p]∧dQ T H p aJ fp∧
 ∀(q:Addr)(H':Hp)(bs:List V),H q=none→Ze H H'→H' q=some (.lst bs)→fZ H' bs aJ.belts→Q (.ref q) H'
theorem Ue{K:Frag}{mg:Str→Option Value}{T:Tp K mg}{H:Hp}{Q:VK}{E:XK}{p:Addr}{aJ:HM}{fp:List Addr}(h:dQ T H p aJ fp)
  (q:∀(q:Addr)(H':Hp)(bs:List V),H q=none→Ze H H'→H' q=some (.lst bs)→fZ H' bs aJ.belts→Q (.ref q) H'):Ud T (.ref p::([]++ [])) H Q E:=⟨p,aJ,fp,rfl,h,q⟩
local macro_rules| `(tactic|walk_at "rd")=>`(tactic|first|((with_reducible show Nm.Ud _ _ _ _ _);with_reducible refine Nm.Ue (by with_reducible assumption) ?_)|fail "none here")
section
variable {P:Program}{w:World}{K:Frag}{mg:Str→Option Value}{base:Heap}
theorem o2(T:Tp K mg):OkM P w mg base 1 T.bG (Ud T):=by
 have f4:=T.a;have f5:=T.e;refine T.bG.F.okX GF (λvs H Q E h=>?_) (λdi A outer s H vs Q E a3 h=>?_)
 ·obtain⟨p,aJ,fp,rfl,_⟩:=h
  rfl
 ·have hu:=a3.hu;obtain⟨p,aJ,fp,rfl,bV,q⟩:=h;obtain⟨a_,a,b,bs,rfl,aS,a2,bU,dD,hv,d2⟩:=id bV;refine⟨_,(cm (dS (lm (p' (K:=K) rfl) (by rfl) T.E qba (a6 (fS (K:=K) rfl (pv 0) rfl) bp)))),?_⟩
  try dsimp only[L2.cxX,L2.ZJ,L2.Zl]
  walk_at "rds";refine Rd.Zat (.of dD) (λl gA=>?_);exact q l _ bs gA (dH gA) Zd (d2.keep ((dH gA).frame (A:=[])).tups)
end
def Ic{K:Frag}{mg:Str→Option Value}(T:Tp K mg):Sp:=λvs H Q E=>∃(p c:Addr)(aJ:HM)(fp:List Addr)(ms:List Int),vs=[.ref p,.ref c]∧dQ T H p aJ fp∧H c=some (.lst (ms.map V.int))∧W5 aJ.names∧aJ.belts.length≤60∧ms.Nodup∧ms.length≤30∧(∀m∈ms,0≤m∧m<(aJ.names.length:Int))∧
 ∀(fc:Addr)(eQ:List Addr)(H':Hp),dQ T H' fc ⟨ms.map λm=>aJ.names.getD m.toNat "",eI aJ.belts ms⟩ eQ→(∀x∈eQ,H x=none)→Ze H H'→Q (.ref fc) H'
theorem Ie{fj:List Str}{ms:List Int}(h:W5 fj)(bF:ms.Nodup)(hz:ms.length≤30)(bo:∀m∈ms,0≤m∧m<(fj.length:Int)):W5 (ms.map λm=>fj.getD m.toNat ""):=by
 have at_:∀m∈ms,∃h:m.toNat<fj.length,fj.getD m.toNat "" =fj[m.toNat]:=λm h=>by
  obtain⟨de,aS⟩:=bo m h;have:m.toNat<fj.length:=by omega
  exact⟨this,by simp[List.getD,this]⟩
 refine⟨?_,λx aT=>?_,by rw[GE];exact hz⟩
 ·rw[qaH,qbK];refine(qaH.mp bF).imp_of_mem λ{a b} bx aN ne e=>?_;obtain⟨aS,bw⟩:=at_ a bx;obtain⟨a2,bC⟩:=at_ b aN;rw[bw,bC] at e;have:=(qb4 h.1).mp e;have:=bo a bx;have:=bo b aN;omega
 ·obtain⟨m,nz,rfl⟩:=qah.mp aT;obtain⟨aS,bw⟩:=at_ m nz;rw[bw];exact h.2.1 _ (qaa aS)
section
variable {P:Program}{w:World}{K:Frag}{mg:Str→Option Value}{base:Heap}
theorem Ig(T:Tp K mg):OkN P w base 4 T.cD (Ic T):=by
 have f4:=T.a;have f5:=T.e;refine T.cD.F.okX si (λvs H Q E h=>?_) (λdi A outer s H vs Q E a3 h=>?_)
 ·obtain⟨p,c,aJ,fp,ms,rfl,_⟩:=h
  rfl
 ·have hu:=a3.hu;obtain⟨p,c,aJ,fp,ms,rfl,bV,a8,ij,km,fg,o3,kn,q⟩:=h;refine⟨_,(bR (dG (i:=2) si.nd rfl (Or.inr rfl) (kK (pv 0) T.a T.cb (sN T) a3 dw))
     (bR (dG (i:=3) si.nd rfl (Or.inl rfl) (hE bp))
     (bR (gh PassesOwn.leaving rfl (fW (K:=K) rfl (kK (pv 0) T.a T.bG (o2 T) a3 dw)) (d0 (i:=4) si.nd rfl (Or.inl rfl)) (cm (eU (PW.pt (tI (eo (rY (K:=K) rfl) (dF (ixk K) (pv 4) bQ (λ_ _=>rfl)) (pv 1) (by with_unfolding_all rfl)) (tH (eo (rY (K:=K) rfl) (dF (ixk K) (pv 4) bQ (λ_ _=>rfl)) (pv 1) (by with_unfolding_all rfl))))) (cm (fx (hn (K:=K) rfl qak qaC qaD iT (pv 3) (a6 (dE (ha K) (h8 (a6 (hn (K:=K) rfl qak qbz qbA vg (pv 1) (a6 (dF (ixk K) (pv 4) bQ (λ_ _=>rfl)) bp)) (a6 (hn (K:=K) rfl qak qbz qbA vg (pv 1) (a6 (dF (ixk K) (pv 4) bQ (λ_ _=>rfl)) bp)) bp))) (oa (ow (K:=K) rfl) (pv 4) (n' bQ) n_)) bp)))) e7)))
     (cm (dS (d8 T.cC (H8 T) a3 dw (a6 (ly rfl (gL (x:="member") (zs:=["names"]) (ix:=[2]) (dh vm) ["hall","members","names","rows","row"] rfl rfl (by decide+kernel)) (fW (K:=K) rfl (pv 1)) (λcl C s H fp=>⟨(d0 (i:=0) (show(["member","names"]:List Str).Nodup by decide+kernel) rfl (Or.inl rfl)),hG,(dF (ixk K) (pv 1) (pv 0) (λ_ _=>rfl))⟩)) (a6 (pv 3) bp)))))))),?_⟩
  try dsimp only[L2.cxX,L2.ZJ,L2.Zl]
  walk_at "rds";refine⟨p,aJ,fp,rfl,bV,λiK aU nQ a7 sM=>?_⟩;have jC:=bV.same a7;walk_at "rds";refine⟨qav _,λr fU=>?_⟩;have bK:Ze aU (upd aU r (.lst [])):=dH fU;have lO:(upd aU r (.lst [])) r=some (.lst []):=Zd;generalize upd aU r (.lst [])=a4 at*;have fh:=jC.same bK;walk_at "rds"
  try refine Ue fh ?_
  intro bl b_ bs kl bM hbl3 ik;have v':=ik.length;have Ih:=SqL.of (K:=K) hbl3;walk_at "rds";have ii:=a7.trans (bK.trans bM);have hy:=bM _ _ lO;have Bs:c≠r:=λz=>by rw[z] at a8;rw[a7 _ _ a8] at fU;cases fU
  have Ii:iK≠r:=λz=>by rw[z] at sM;rw[sM] at fU;cases fU
  refine Yz (H0:=hid b_ r) (fR (SqL.of (K:=K) (show(hid b_ r) bl=some (.lst bs) by rw[Yj (λz=>by rw[z,lO] at kl;cases kl)];exact hbl3))) (λi σ H'=>Ze (hid b_ r) H'∧(∃d6,σ=[some (.ref p),some (.ref c),some (.ref iK),some (.ref r),d6])∧∃gQ,H' r=some (.lst gQ)∧fZ H' gQ (eI (aJ.belts.take i) ms)) ⟨j_,⟨_,rfl⟩,[],hy,.nil⟩ (λi σ H' h=>h.1) ?_ ?_
  ·rintro i σ cw hi ⟨c_,⟨d6,rfl⟩,gQ,gR,fL⟩;have dx:i<aJ.belts.length:=by omega
   obtain⟨t,eX,ce⟩:=ik.at (GT dx);have dZ:bs.getD i .non= .ref t:=by simp[List.getD,eX]
   rw[dZ];have jX:=c_ _ _ (yU hy _ _ ce);dsimp only[B5.v] at jX;have jD:cw c=some (.lst (ms.map V.int)):=c_ _ _ (by rw[Yj Bs];exact ii _ _ a8);have Bt:=SqL.of (K:=K) jD;have mH:eI (aJ.belts.take (i+1)) ms=eI (aJ.belts.take i) ms++(if inT ms aJ.belts[i]=true then[inB ms aJ.belts[i]] else[]):=by
    unfold eI;rw[qac dx,qcc,qaG]
    congr 1
    by_cases h:inT ms aJ.belts[i]=true
    ·rw[if_pos h];simp[h]
    ·rw[if_neg h];simp[h]
   rw[mH];have hp:gQ.length≤60:=by
    have aS:=fL.length;have a2:(eI (aJ.belts.take i) ms).length≤aJ.belts.length:=by
     unfold eI;rw[GE];exact qat (qaU _ _) (by rw[qaI];omega)
    omega
   generalize aJ.belts[i]=dv at*;walk_at "rds"
   by_cases bc:dv.giver∈ms
   case neg=>
    have e:inT ms dv=false:=by simp[inT,bc]
    rw[decide_eq_false bc,e];walk_at "rds";exact⟨c_,⟨_,rfl⟩,gQ,gR,by simpa using fL⟩
   rw[decide_eq_true bc];walk_at "rds"
   by_cases gw:dv.taker∈ms
   case neg=>
    have e:inT ms dv=false:=by simp[inT,gw]
    rw[decide_eq_false gw,e];walk_at "rds";exact⟨c_,⟨_,rfl⟩,gQ,gR,by simpa using fL⟩
   have e:inT ms dv=true:=by simp[inT,bc,gw]
   rw[decide_eq_true gw,e,if_pos rfl];walk_at "rds";obtain⟨g1,g2⟩:=lK bc;obtain⟨k1,k2⟩:=lK gw;refine⟨c,ms,_,_,rfl,rfl,jD,g1,g2,?_⟩;walk_at "rds";refine⟨c,ms,_,_,rfl,rfl,jD,k1,k2,?_⟩;refine⟨by show 2≤sizeLine;decide,λu gB=>?_⟩;have fX:(inB ms dv).v=[V.int (idxL ms dv.giver:Nat),V.int (idxL ms dv.taker:Nat)]++ [V.int dv.give,V.int dv.take,V.int dv.start]:=rfl;generalize idxL ms dv.giver=ig at*;generalize idxL ms dv.taker=it at*;have jf:Ze cw (upd cw u (.tup [V.int ig,V.int it])):=dH gB;have g5:(upd cw u (.tup [V.int ig,V.int it])) u=some (.tup [V.int ig,V.int it]):=Zd;generalize upd cw u (.tup [V.int ig,V.int it])=b3 at*;have o4:=jf _ _ jX;walk_at "rds";refine Rd.slT (.of o4) (by show ¬(HT.sIx 5 0 (some 2)=0∧HT.sIx 5 5 none=5);decide) (λw vF=>?_);have Bu:Ze b3 (upd b3 w (.tup (iv [V.int dv.giver,V.int dv.taker,V.int dv.give,V.int dv.take,V.int dv.start] (some 2) none))):=dH vF;have kU:(upd b3 w (.tup (iv [V.int dv.giver,V.int dv.taker,V.int dv.give,V.int dv.take,V.int dv.start] (some 2) none))) w=some (.tup [.int dv.give,.int dv.take,.int dv.start]):=Zd;generalize upd b3 w (.tup (iv [V.int dv.giver,V.int dv.taker,V.int dv.give,V.int dv.take,V.int dv.start] (some 2) none))=dN at*;refine Rd.Zov (.of (Bu _ _ g5)) (.of kU) (by simp) (by simp) (by show 5≤sizeLine;decide) (λg6 lP=>?_);rw[←fX];have Ij:Ze dN (upd dN g6 (.tup (inB ms dv).v)):=dH lP;have Ik:(upd dN g6 (.tup (inB ms dv).v)) g6=some (.tup (inB ms dv).v):=Zd;generalize upd dN g6 (.tup (inB ms dv).v)=ed at*;have sO:=jf.trans (Bu.trans Ij);have nR:=sO _ _ gR;have Il:gQ.length<sizeLine:=eE (by omega);walk_at "rds";have f3:d7 [r] ed (upd ed r (.lst (gQ++ [V.ref g6]))):=h0 (by simp) nR (by intro _ z;cases z);exact⟨(c_.trans sO).new ot,⟨_,rfl⟩,_,Zd,((fL.keep λb xs e=>sO _ _ e).keep f3.tups).snoc (f3.tups _ _ Ik)⟩
  ·rintro σ cw ⟨c_,⟨d6,rfl⟩,gQ,gR,fL⟩;rw[v',qaB] at fL;have jD:cw c=some (.lst (ms.map V.int)):=c_ _ _ (by rw[Yj Bs];exact ii _ _ a8);have Bt:=SqL.of (K:=K) jD;have sP:cw iK=some (.lst (aJ.names.map V.str)):=c_ _ _ (by rw[Yj Ii];exact bM _ _ (bK _ _ sM));have Im:=SqL.of (K:=K) sP;walk_at "rds";refine YI (fR Bt) (eE (by rw[GE];omega)) (λ_=>true) (λi=> .str (aJ.names.getD (ms.getD i 0).toNat "")) (λi H' dW hi bS k=>?_) (λi H' dW hi _ bS k=>?_) (λd b3 hd bS jY=>?_)
   ·walk_at "rds";exact k H' (Ze.refl H')
   ·have dx:i<ms.length:=by rw[GE] at hi;exact hi
    have dZ:(ms.map V.int).getD i .non=V.int ms[i]:=by simp[List.getD,dx]
    have qS:ms.getD i 0=ms[i]:=by simp[List.getD,dx]
    rw[dZ];rw[qS] at k;obtain⟨h6,hD⟩:=kn ms[i] (qaa dx);generalize ms[i]=m at*;obtain⟨jL,rfl⟩:=qaJ h6;have mI:jL<aJ.names.length:=by omega
    rw[qab] at k;have fq:atI (aJ.names.map V.str) (jL:Int)=some (.str (aJ.names.getD jL "")):=iS (by simp[List.getD,mI]);have RQ:=bS.seq Im;walk_at "rds";exact k H' (Ze.refl H')
   ·have kb:((List.range (ms.map V.int).length).filter λ_=>true).map (λi=>V.str (aJ.names.getD (ms.getD i 0).toNat ""))=(ms.map λm=>aJ.names.getD m.toNat "").map V.str:=by
     rw[qaz.mpr λ_ _=>rfl,GE];refine qay (by simp) λi aS a2=>?_;have bU:i<ms.length:=by simpa using aS
     simp[List.getD,bU]
    rw[kb] at jY;have lR:=bS _ _ gR;have qT:=fL.keep λb xs e=>bS _ _ e;have Bv:Ze H b3:=λb o e=>bS _ _ (c_ _ _ (by
     rw[Yj (λz=>by rw[z] at e;rw[a7 _ _ e] at fU;cases fU)];exact ii _ _ e))
    walk_at "rds";refine⟨d,r,_,gQ,eI aJ.belts ms,rfl,jY,lR,qT,Ie ij fg o3 kn,?_,λfc eQ H' v3 tG s'=>?_⟩
    ·unfold eI;rw[GE];exact qat (qaU _ _) (by omega)
    ·exact q fc eQ H' v3 (λx aT=>f0 Bv (tG x aT)) (Bv.trans s')
end
def Io{K:Frag}{mg:Str→Option Value}(T:Tp K mg):Sp:=λvs H Q _=>∃(p:Addr)(aJ:HM)(fp:List Addr),vs=[.ref p]∧dQ T H p aJ fp∧aJ.belts.length≤1000∧
 ∀(r:Addr)(H':Hp),H r=none→Ze H H'→H' r=some (.lst ((gF aJ.belts).map V.int))→Q (.ref r) H'
section
variable {P:Program}{w:World}{K:Frag}{mg:Str→Option Value}{base:Heap}
theorem Ip(T:Tp K mg):OkN P w base 2 T.cE (Io T):=by
 have f4:=T.a;have f5:=T.e;refine T.cE.F.okX GG (λvs H Q E h=>?_) (λdi A outer s H vs Q E a3 h=>?_)
 ·obtain⟨p,aJ,fp,rfl,_⟩:=h
  rfl
 ·have hu:=a3.hu;obtain⟨p,aJ,fp,rfl,bV,hz,q⟩:=h;refine⟨_,(cm (dS (ly rfl (gL (x:="row") (zs:=[]) (ix:=[]) (dh vn) ["hall"] rfl rfl (by decide+kernel)) (fW (K:=K) rfl (kK (pv 0) T.a T.bG (o2 T) a3 dw)) (λcl C s H fp=>⟨(d0 (i:=0) (show(["row"]:List Str).Nodup by decide+kernel) rfl (Or.inl rfl)),hG,(dF (ixk K) (pv 0) bQ (λ_ _=>rfl))⟩)))),?_⟩
  try dsimp only[L2.cxX,L2.ZJ,L2.Zl]
  walk_at "rds";intro u aU bs jd iI g5 ek;have mv:=ek.length;have aN:bs.length<sizeLine:=eE (by rw[mv];exact hz);walk_at "rds";refine YI (fR (SqL.of g5)) aN (λ_=>true) (λi=> .int (aJ.belts.getD i dB).start) (λi H' dW hi bS k=>?_) (λi H' dW hi _ bS k=>?_) (λr H' a3 bS jE=>?_)
  ·walk_at "rds";exact k H' (Ze.refl H')
  ·have dx:i<aJ.belts.length:=by omega
   obtain⟨t,h3,fK⟩:=ek.getD (i:=i) dx;rw[h3];have iL:=bS _ _ fK;generalize aJ.belts.getD i dB=dv at*;dsimp only[B5.v] at iL;walk_at "rds";exact k H' (Ze.refl H')
  ·refine q r H' (f0 iI a3) (iI.trans bS) ?_;rw[jE,qaz.mpr (by simp),mv];unfold gF;refine congrArg (λz=>some (HO.lst z)) ?_;refine qay (by simp) λi aS a2=>?_;have:i<aJ.belts.length:=by simpa using aS
   simp[List.getD,this]
end
def Iq{K:Frag}{mg:Str→Option Value}(T:Tp K mg):Sp:=λvs H Q _=>∃(a b:Addr)(hs:List Int)(l:List (Int×Int))(xs:List V),vs=[.ref a,.ref b]∧SqL K H a (hs.map V.int)∧SqL K H b xs∧Vj H l xs∧(∀x∈l,0≤x.1∧x.1<hs.length)∧l.length≤1000∧∀H',Ze H H'→Q (.bl (qG hs l)) H'
section
variable {P:Program}{w:World}{K:Frag}{mg:Str→Option Value}{base:Heap}
theorem Bw(T:Tp K mg):OkN P w base 1 T.cp (Iq T):=by
 refine T.cp.F.okX GH (λvs H Q E h=>?_) (λdi A outer s H vs Q E a3 h=>?_)
 ·obtain⟨a,b,hs,l,xs,rfl,_⟩:=h
  rfl
 ·have hu:=a3.hu;obtain⟨a,b,hs,l,xs,rfl,bx,aN,bb,a3,hz,q⟩:=h;have sQ:l.length=xs.length:=Paired.length bb;refine⟨_,(cm (dS (ey (y1 (K:=K) rfl rfl) (by rfl) T.cl PyProof.Rows.boot_all (a6 (ml (xs:=["belt","take"]) rfl (gL (x:="belt") (zs:=["heaps"]) (ix:=[0]) (dh vo) ["heaps","takes"] rfl rfl (by decide+kernel)) (fW (K:=K) rfl (pv 1)) (λcl C s H fp=>⟨(jS (K:=K) (n:=2) rfl rfl (f8 (d0 (i:=0) (show(["belt","take","heaps"]:List Str).Nodup by decide+kernel) rfl (Or.inl rfl)) (f8 (d0 (i:=1) (show(["belt","take","heaps"]:List Str).Nodup by decide+kernel) rfl (Or.inl rfl)) jI))),hG,(lh pC (dF (ixk K) (pv 2) (pv 0) (λ_ _=>rfl)) (pv 1) (ez _))⟩)) bp)))),?_⟩
  try dsimp only[L2.cxX,L2.ZJ,L2.Zl]
  walk_at "rds";refine YA (own:=2) (fR aN).y (eE (by omega)) (λi=>[some (.int (l.getD i (0,0)).1),some (.int (l.getD i (0,0)).2)]) (λ_=>rfl) (λ_=>true) (λi v _=>v= .bl (decide ((l.getD i (0,0)).2≤hs.getD (l.getD i (0,0)).1.toNat 0))) (λ_ _ _ _ _ z=>z) (λi er H' v a4 ib hi bS y gZ k=>?_) (λi H' dW hi bS k=>?_) (λkg i H' dW hi a8 hp0 gP bS k=>?_) (λr H' ys jE bS gA d5=>?_)
  ·obtain⟨rfl,rfl⟩:=y;obtain⟨x1,x2,rfl⟩:∃x1 x2,er=[x1,x2]:=by
    match er,gZ with
    | [x1,x2],_=>exact⟨x1,x2,rfl⟩
   obtain⟨v,cv,t,rfl,ce⟩:=Paired.get bb (GT (show i<l.length by omega));have dJ:xs.getD i .non= .ref t:=by simp[List.getD,cv]
   have hM:l.getD i (0,0)=l[i]:=by simp[List.getD,show i<l.length by omega]
   rw[dJ];rw[hM] at k;refine Rd.VO (.of (bS _ _ ce)) rfl ?_;walk_at "rds";exact k _ (Ze.refl _)
  ·walk_at "rds";exact k H' (Ze.refl H')
  ·have hM:l.getD i (0,0)=l[i]:=by simp[List.getD,show i<l.length by omega]
   obtain⟨pR,df⟩:=a3 _ (qaa (show i<l.length by omega));rw[hM] at k⊢;generalize l[i]=x at*;have sb:=bS.seq bx;have sR:=Vs pR df;walk_at "rds";exact k _ H' (Ze.refl H') rfl
  ·have e:ys=(l.map λx=>decide (x.2≤hs.getD x.1.toNat 0)).map V.bl:=by
    rw[r1 (R:=λi v _=>v=V.bl (decide ((l.getD i (0,0)).2≤hs.getD (l.getD i (0,0)).1.toNat 0))) (H:=H') (r:=λi=>V.bl (decide ((l.getD i (0,0)).2≤hs.getD (l.getD i (0,0)).1.toNat 0))) (λ_ _ z=>z) d5,qaz.mpr (by simp),←sQ];refine qay (by simp) λi aS a2=>?_;have hi:i<l.length:=by simpa using aS
    have hM:l.getD i (0,0)=l[i]:=by simp[List.getD,hi]
    rw[qbT,qbT,qbT,List.getElem_range,hM]
   rw[e] at gA;walk_at "rds";have bC:(l.map λx=>decide (x.2≤hs.getD x.1.toNat 0)).all id=qG hs l:=by rw[List.all_map];rfl
   rw[bC];exact q H' bS
end
def Ir{K:Frag}{mg:Str→Option Value}(T:Tp K mg):Sp:=λvs H Q E=>∃(p s:Addr)(ls:List B5)(rs st:List Int),vs=[.ref p,.ref s]∧nM T H p ls rs∧SqL K H s (st.map V.int)∧st.length=ls.length∧ZU ls rs.length∧ls.length≤1000∧rs.length≤1000∧(∀r∈rs,1≤r)∧tot rs≤1000∧
 ∀(r:Addr)(H':Hp)(bW:List Nat)(d:Nat→Nat),H r=none→Ze H H'→H' r=some (.lst (bW.map λw:Nat=>V.int w))→Fire.Y1 (mD ls st rs) (λ_=>0) bW d→(∀w,¬hS ls st rs d w)→Q (.ref r) H'
section
variable {P:Program}{w:World}{K:Frag}{mg:Str→Option Value}{base:Heap}
theorem Iu(T:Tp K mg):OkM P w mg base 2 T.cF (Ir T):=by
 have Bx:=T.R;have By:=T.av;refine T.cF.F.okX kd (λvs H Q E h=>?_) (λdi A outer s H vs Q E a3 h=>?_)
 ·obtain⟨p,s,ls,rs,st,rfl,_⟩:=h
  rfl
 ·have hu:=a3.hu;obtain⟨p,s,ls,rs,st,rfl,a8,hs,hJ,eA,hz,bF,hL,Bz,q⟩:=h;obtain⟨a_,a,b,c,AO,e,db,oU,hT,bs,aS,a2,bU,dD,eM,d2,ju,nN,vR,qI⟩:=id a8;have Iv:∀v<rs.length,1≤gO rs v:=λv cv=>by
   have:=hL rs[v] (qaa cv);simp only[gO,List.getD,GT cv,Option.getD_some];omega
  refine⟨_,(bR (dG (i:=2) kd.nd rfl (Or.inr rfl) (lm (p' (K:=K) rfl) (by rfl) T.E qba (a6 (pv 1) bp)))
     (bR (dG (i:=3) kd.nd rfl (Or.inl rfl) (lm (p' (K:=K) rfl) (by rfl) T.E qba (a6 (fS (K:=K) rfl (pv 0) rfl) bp)))
     (bR (uQ (j:=4) (xs:=["takes"]) rfl (gL (x:="takes") (zs:=["heaps"]) (ix:=[2]) (dh vp) ["self","starts","heaps","left","able","row","work","belt","take","give","other"] rfl rfl (by decide+kernel)) (fW (K:=K) rfl (fS (K:=K) rfl (pv 0) rfl)) (λcl C s H fp=>⟨(d0 (i:=0) (show(["takes","heaps"]:List Str).Nodup by decide+kernel) rfl (Or.inl rfl)),hG,(d8 T.cp (Bw T) a3 Vu (a6 (pv 1) (a6 (pv 0) bp)))⟩) kd.nd rfl (Or.inl rfl))
     (bR (dG (i:=5) kd.nd rfl (Or.inl rfl) (hE bp))
     (bR (pw PassesOwn.leaving (eo (rY (K:=K) rfl) VZ (pv 4) (by with_unfolding_all rfl)) (bR (dG (i:=6) kd.nd rfl (Or.inl rfl) (hn (K:=K) rfl qak qbz qbA zj (pv 4) (a6 VZ bp)))
     (bR (fx (hn (K:=K) rfl qak qaC qaD iT (pv 5) (a6 (pv 6) bp)))
     (bR (tK (pv 3) (pv 6) (uT (K:=K) rfl) bQ yc pN)
     (bR (gh PassesOwn.leaving rfl (fW (K:=K) rfl (dF (ixk K) (fS (K:=K) rfl (pv 0) rfl) (pv 6) (λ_ _=>rfl))) (jS (K:=K) (n:=2) rfl rfl (f8 (d0 (i:=7) kd.nd rfl (Or.inl rfl)) (f8 (d0 (i:=8) kd.nd rfl (Or.inl rfl)) jI))) (cm (tK (pv 2) (pv 7) (uT (K:=K) rfl) (pv 8) yc pN)))
     (bR (gh PassesOwn.leaving rfl (fW (K:=K) rfl (dF (ixk K) (fS (K:=K) rfl (pv 0) rfl) (pv 6) (λ_ _=>rfl))) (jS (K:=K) (n:=2) rfl rfl (f8 (d0 (i:=7) kd.nd rfl (Or.inl rfl)) (f8 (d0 (i:=9) kd.nd rfl (Or.inl rfl)) jI))) (cm (tK (pv 2) (pv 7) (uT (K:=K) rfl) (pv 9) tM pN)))
     (cm (gh PassesOwn.leaving rfl (fW (K:=K) rfl (dF (ixk K) (fS (K:=K) rfl (pv 0) rfl) (pv 6) (λ_ _=>rfl))) (d0 (i:=10) kd.nd rfl (Or.inl rfl)) (cm (kA (rz (lh m5 (dF (ixk K) (pv 3) (pv 10) (λ_ _=>rfl)) bQ (ez _)) (ry (d8 T.cp (Bw T) a3 dw (a6 (pv 2) (a6 (dF (ixk K) (fS (K:=K) rfl (pv 0) rfl) (pv 10) (λ_ _=>rfl)) bp))))) (lb (pv 4) (pv 10) pN)))))))))))
     (cm (dS (pv 5)))))))),?_⟩
  try dsimp only[L2.cxX,L2.ZJ,L2.Zl]
  walk_at "rds";refine Rd.Zat hs (λh wb=>?_);have a7:Ze H (upd H h (.lst (st.map V.int))):=dH wb;have jC:(upd H h (.lst (st.map V.int))) h=some (.lst (st.map V.int)):=Zd;generalize upd H h (.lst (st.map V.int))=aU at*;have g1:=a7 _ _ aS;have g2:=a7 _ _ a2;walk_at "rds";refine Rd.Zat (.of g2) (λl nH=>?_);have bK:Ze aU (upd aU l (.lst (rs.map V.int))):=dH nH;have h9:(upd aU l (.lst (rs.map V.int))) l=some (.lst (rs.map V.int)):=Zd;generalize upd aU l (.lst (rs.map V.int))=a4 at*;have fh:=bK _ _ jC;have Iw:H l=none:=f0 a7 nH;have ko:=a7.trans bK;have k1:=ko _ _ aS;have k5:=ko _ _ eM;have ej:ih ls st (λ_=>0)=st:=by
   refine qay (by rw[jc hJ,hJ]) λj a1 dj=>?_;rw[nL hJ (by omega)];unfold Fire.lie fB;simp
  have Ix:db.length=rs.length:=by rw[d2.len];simp[qH]
  walk_at "rds";refine YA (own:=1) (fR (SqL.of k5)).y (eE (by rw[GE];omega)) (λi=>[some (.ref (db.getD i 0))]) (λ_=>rfl) (λ_=>true) (λ(i:Nat) v _=>v= .bl (hr ls st rs (λ_=>0) i)) (λ_ _ _ _ _ z=>z) (λi er H' v a4 ib hi bS y gZ k=>?_) (λi H' dW hi bS k=>?_) (λkg i H' dW hi a8 hp0 hp1' bS k=>?_) (λab b_ ys hab0 bM BA d5=>?_)
  ·obtain⟨rfl,rfl⟩:=y;obtain⟨x1,rfl⟩:∃x1,er=[x1]:=by
    match er,gZ with
    | [x1],_=>exact⟨x1,rfl⟩
   have el:i<db.length:=by simpa using hi
   have dZ:(db.map V.ref).getD i .non= .ref (db.getD i 0):=by simp[List.getD,el]
   rw[dZ];walk_at "rds";exact k _ (Ze.refl _)
  ·walk_at "rds";exact k H' (Ze.refl H')
  ·have el:i<rs.length:=by rw[GE] at hi;omega
   obtain⟨x,bw,vs,bC,dP⟩:=Paired.get d2 (i:=i) (x:=hR ls i) (by simp[qH,el]);have ex:db.getD i 0=x:=by simp[List.getD,bw]
   rw[ex];have BB:=ko.trans bS;have ei:=Zcm (ls:=ls) (w:=i);walk_at "rds";refine⟨h,x,st,hR ls i,vs,rfl,.of (bS _ _ fh),.of (BB _ _ bC),dP.keep λ_ _ z=>BB _ _ z,AY hJ,by omega,λb3 dt=>?_⟩;refine k _ b3 dt ?_;rw[ZcQ hJ];unfold hr;rw[ej,decide_eq_true (show(λ_=>0) i<gO rs i from Iv i el),Bool.true_and]
  rw[qaz.mpr (by simp),GE,Ix] at d5;have Iy:ys=(iH ls st rs (λ_=>0)).map V.bl:=by
   have:∀{is:List Nat}{zs:List V},Paired (λ(i:Nat) v=>v=V.bl (hr ls st rs (λ_=>0) i)) is zs→zs=(is.map λi=>hr ls st rs (λ_=>0) i).map V.bl:=by
    intro is zs h
    induction h with
    |nil=>rfl
    |cons a _ bP=>rw[a,bP];rfl
   exact this d5
  subst Iy;have fE:=bM _ _ fh;have BC:=bM _ _ h9;walk_at "rds";refine⟨qav _,λr fF=>?_⟩;have c_:Ze b_ (upd b_ r (.lst [])):=dH fF;have gR:(upd b_ r (.lst [])) r=some (.lst []):=Zd;generalize upd b_ r (.lst [])=cw at*;have kq:=ko.trans (bM.trans c_);have IA:=c_ _ _ BA;have iJ:=c_ _ _ fE;have r0:=c_ _ _ BC;have wc:h≠l:=d9 jC nH;have sT:h≠ab:=d9 fh hab0;have wd:l≠ab:=d9 h9 hab0;have we:h≠r:=d9 fE fF;have BD:l≠r:=d9 BC fF;have wf:ab≠r:=d9 BA fF;have BE:H ab=none:=f0 ko hab0;have sU:H r=none:=f0 (ko.trans bM) fF;have IB:fu rs (λ_=>0)=rs:=by
   refine qay (by simp[fu]) λv a1 dj=>?_;have:=hL rs[v] (qaa dj);simp[fu,gO,List.getD,dj];omega
  walk_at "rds";refine Za9 (λm σ H'=>∃(bW:List Nat)(d:Nat→Nat)(a1 dj dM d6 eF:Option V),m=tot rs-bW.length∧σ=[some (.ref p),some (.ref s),some (.ref h),some (.ref l),some (.ref ab),some (.ref r),a1,dj,dM,d6,eF]∧Ze H H'∧Fire.Y1 (mD ls st rs) (λ_=>0) bW d∧H' h=some (.lst ((ih ls st d).map V.int))∧H' l=some (.lst ((fu rs d).map V.int))∧H' ab=some (.lst ((iH ls st rs d).map V.bl))∧H' r=some (.lst (bW.map λw:Nat=>V.int w))) _ ⟨[],λ_=>0,_,_,_,_,_,rfl,rfl,kq,.nil _,by rw[ej];exact iJ,by rw[IB];exact r0,IA,gR⟩ ?_;rintro m σ b3 ⟨bW,d,a1,dj,dM,d6,eF,rfl,rfl,dt,gS,mG,IC,wg,lR⟩;walk_at "rds";refine⟨ab,_,rfl,.inl (SqL.of wg),rfl,Hq _,?_⟩;rw[if_neg (by decide),A7];walk_at "rds";refine UK (λc=>pS ?_) (λc=>?_)
  ·have fe:true∈iH ls st rs d:=by simpa using c
   obtain⟨w,kU,BF⟩:=A8 fe;have mJ:w<rs.length:=by have:=(GM.mp kU).1;rw[Hj] at this;exact this
   have BG:hS ls st rs d w:=by
    rw[Zf1 mJ] at kU;exact(vP hJ eA mJ).mp (qam kU)
   have ID:mD ls st rs d w:=⟨BG,λv cv=>by
    have:=BF v cv;rw[Zf1 (by omega)] at this;exact(Hi hJ eA (by omega)).mp (qam this)⟩
   have IE:=gS.snoc ID;have du:=Zl7 (oV gS) BG;have f_:(0:Int)≤(w:Int):=qaS w;have RS:(bW.map λw:Nat=>V.int w).length<sizeLine:=eE (by rw[GE];omega);have RT:(w:Int)<((fu rs d).map V.int).length:=by rw[GE,vQ];omega
   walk_at "rds";refine Rd.Zju wg kU BF ?_;walk_at "rds";have eB:Ze H (upd b3 r (.lst ((bW.map λw:Nat=>V.int w)++ [.int w]))):=dt.new sU;have qU:(upd b3 r (.lst ((bW.map λw:Nat=>V.int w)++ [.int w]))) r=some (.lst ((bW++ [w]).map λw:Nat=>V.int w)):=by rw[Zd];simp
   have kT:(upd b3 r (.lst ((bW.map λw:Nat=>V.int w)++ [.int w]))) h=some (.lst ((ih ls st d).map V.int)):=by rw[b2 we];exact mG
   have IF:(upd b3 r (.lst ((bW.map λw:Nat=>V.int w)++ [.int w]))) l=some (.lst ((fu rs d).map V.int)):=by rw[b2 BD];exact IC
   have BH:(upd b3 r (.lst ((bW.map λw:Nat=>V.int w)++ [.int w]))) ab=some (.lst ((iH ls st rs d).map V.bl)):=by rw[b2 wf];exact wg
   generalize upd b3 r (.lst ((bW.map λw:Nat=>V.int w)++ [.int w]))=dN at*;have wh:=Vs (ns:=fu rs d) f_ (by rw[vQ];omega);walk_at "rds";have BI:((fu rs d).map V.int).set (w:Int).toNat (V.int ((fu rs d).getD (w:Int).toNat 0-1))=(fu rs (Fire.bump d w)).map V.int:=by
    rw[qab,←Zht mJ,qcj]
   rw[BI];have e8:Ze H (upd dN l (.lst ((fu rs (Fire.bump d w)).map V.int))):=eB.new Iw;have IG:(upd dN l (.lst ((fu rs (Fire.bump d w)).map V.int))) l=some (.lst ((fu rs (Fire.bump d w)).map V.int)):=Zd;have nR:(upd dN l (.lst ((fu rs (Fire.bump d w)).map V.int))) r=_:=(b2 BD.symm).trans qU;have IH:(upd dN l (.lst ((fu rs (Fire.bump d w)).map V.int))) h=_:=(b2 wc).trans kT;have II:(upd dN l (.lst ((fu rs (Fire.bump d w)).map V.int))) ab=_:=(b2 wd.symm).trans BH;generalize upd dN l (.lst ((fu rs (Fire.bump d w)).map V.int))=ed at*;clear qU kT BH IF wh BI;obtain⟨x,vs,sR,aT,BJ⟩:=d2.at f_ (l:=hR ls w) (by simp[qH,mJ]);obtain⟨y,hA,IJ,bE,BK⟩:=nN.at f_ (l:=oT ls w) (by simp[A3,mJ]);obtain⟨ms,qp,BL⟩:=qI.2 w mJ;have RU:atI (hT.map V.ref) (w:Int)=some (.ref (hT.getD w 0)):=iS (by rw[qaj,GT (show w<hT.length by rw[qI.1];exact mJ)];simp[List.getD,show w<hT.length by rw[qI.1];exact mJ]);have hD:=e8 _ _ aS;have sE:=e8 _ _ eM;have qN:=e8 _ _ aT;have gb:vs.length=(fi ls w).length:=by rw[←Paired.length BJ];unfold hR;simp
   have IK:hA.length=(eK ls w).length:=by rw[←Paired.length BK];unfold oT;simp
   have mu:=jc (d:=d) hJ;generalize IL:ih ls st d=kr at*;walk_at "rds";refine Yz (fR (SqL.of aT)) (λj σ H'=>Ze H H'∧(∃dj dM d6 eF,σ=[some (.ref p),some (.ref s),some (.ref h),some (.ref l),some (.ref ab),some (.ref r),some (.int w),dj,dM,d6,eF])∧H' l=some (.lst ((fu rs (Fire.bump d w)).map V.int))∧H' r=some (.lst ((bW++ [w]).map λw:Nat=>V.int w))∧H' ab=some (.lst ((iH ls st rs d).map V.bl))∧H' h=some (.lst ((bump (λi=>-(ls.getD i dB).take) kr ((fi ls w).take j)).map V.int))) ⟨e8,⟨_,_,_,_,rfl⟩,IG,nR,II,IH⟩ (λi σ H' h=>h.1) ?_ ?_
   ·rintro j σ e5 bj ⟨gi,⟨dj,dM,d6,eF,rfl⟩,wi,nS,wj,qV⟩;have gD:j<(fi ls w).length:=by omega
    obtain⟨t,h3,fK⟩:=ZiL BJ gD;have du:=Zbz (qaa gD);have oq:=Zea (f:=λi=>-(ls.getD i dB).take) (hs:=kr) gD;rw[h3];refine Rd.VO (.of (gi _ _ fK)) rfl ?_;generalize (fi ls w)[j]=m at*;have bl:=WT (λi=>-(ls.getD i dB).take) ((fi ls w).take j) kr;generalize bump (λi=>-(ls.getD i dB).take) kr ((fi ls w).take j)=us at*;have IM:=Vs (ns:=us) (k:=(m:Int)) (qaS m) (by omega);have IN:(m:Int)<((us.map V.int).length:Int):=by simp;omega
    walk_at "rds";refine⟨gi.new wb,⟨_,_,_,_,rfl⟩,by rw[b2 wc.symm];exact wi,by rw[b2 we.symm];exact nS,by rw[b2 sT.symm];exact wj,?_⟩;rw[Zd,oq,qcj]
    rfl
   ·rintro σ e5 ⟨gi,⟨dj,dM,d6,eF,rfl⟩,wi,nS,wj,qV⟩;have RV:=gi _ _ aS;have RW:=gi _ _ ju;have RX:=gi _ _ bE;rw[gb,qaB] at qV;walk_at "rds";have bl:=WT (λi=>-(ls.getD i dB).take) (fi ls w) kr;refine Yz (fR (SqL.of bE)) (λj σ H'=>Ze H H'∧(∃dj dM d6 eF,σ=[some (.ref p),some (.ref s),some (.ref h),some (.ref l),some (.ref ab),some (.ref r),some (.int w),dj,dM,d6,eF])∧H' l=some (.lst ((fu rs (Fire.bump d w)).map V.int))∧H' r=some (.lst ((bW++ [w]).map λw:Nat=>V.int w))∧H' ab=some (.lst ((iH ls st rs d).map V.bl))∧H' h=some (.lst ((bump (λi=>(ls.getD i dB).give) (bump (λi=>-(ls.getD i dB).take) kr (fi ls w)) ((eK ls w).take j)).map V.int))) ⟨gi,⟨_,_,_,_,rfl⟩,wi,nS,wj,qV⟩ (λi σ H' h=>h.1) ?_ ?_
    ·rintro j σ fI bj ⟨g0,⟨dj,dM,d6,eF,rfl⟩,sG,qW,wk,sV⟩;have gD:j<(eK ls w).length:=by omega
     obtain⟨t,h3,fK⟩:=ZiL BK gD;have du:=U2 (qaa gD);have oq:=Zea (f:=λi=>(ls.getD i dB).give) (hs:=bump (λi=>-(ls.getD i dB).take) kr (fi ls w)) gD;rw[h3];refine Rd.VO (.of (g0 _ _ fK)) rfl ?_;generalize (eK ls w)[j]=m at*;have RY:=WT (λi=>(ls.getD i dB).give) ((eK ls w).take j) (bump (λi=>-(ls.getD i dB).take) kr (fi ls w));generalize bump (λi=>(ls.getD i dB).give) (bump (λi=>-(ls.getD i dB).take) kr (fi ls w)) ((eK ls w).take j)=us at*;have IM:=Vs (ns:=us) (k:=(m:Int)) (qaS m) (by omega);have IN:(m:Int)<((us.map V.int).length:Int):=by simp;omega
     walk_at "rds";refine⟨g0.new wb,⟨_,_,_,_,rfl⟩,by rw[b2 wc.symm];exact sG,by rw[b2 we.symm];exact qW,by rw[b2 sT.symm];exact wk,?_⟩;rw[Zd,oq,qcj]
     rfl
    ·rintro σ fI ⟨g0,⟨dj,dM,d6,eF,rfl⟩,sG,qW,wk,sV⟩;rw[IK,qaB,Hh mu] at sV;have RZ:=g0 _ _ aS;have R0:=g0 _ _ eM;have R1:=g0 _ _ vR;have R3:=g0 _ _ qp;walk_at "rds";rw[←IL,Hl hJ eA] at sV;have BM:=jc (d:=Fire.bump d w) hJ;refine Yz (fR (SqL.of qp)) (λj σ H'=>Ze H H'∧(∃dj dM d6 eF,σ=[some (.ref p),some (.ref s),some (.ref h),some (.ref l),some (.ref ab),some (.ref r),some (.int w),dj,dM,d6,eF])∧H' l=some (.lst ((fu rs (Fire.bump d w)).map V.int))∧H' r=some (.lst ((bW++ [w]).map λw:Nat=>V.int w))∧H' h=some (.lst ((ih ls st (Fire.bump d w)).map V.int))∧H' ab=some (.lst ((jv ls st rs d (Fire.bump d w) (ms.take j)).map V.bl))) ⟨g0,⟨_,_,_,_,rfl⟩,sG,qW,sV,by rw[List.take_zero,Hr];exact wk⟩ (λi σ H' h=>h.1) ?_ ?_
     ·rintro j σ fP bj ⟨gK,⟨dj,dM,d6,eF,rfl⟩,o5,sW,o6,sX⟩;have gD:j<ms.length:=by simpa using bj
      have dZ:(ms.map V.int).getD j .non= .int ms[j]:=by simp[List.getD,gD]
      have qf:=(BL.2 ms[j]).mp (qaa gD);have kn:0≤ms[j]∧ms[j]<(rs.length:Int):=by
       rcases qf with z|⟨i,hi,z⟩
       ·omega
       ·have dx:=U2 hi;have A2:=eA ls[i] (qaa dx);rw[Ye dx] at z;omega
      obtain⟨v,cv⟩:∃v:Nat,ms[j]=(v:Int):=⟨ms[j].toNat,by omega⟩;have BN:v<rs.length:=by omega
      have mH:ms.take (j+1)=ms.take j++ [(v:Int)]:=by rw[qac gD,cv]
      rw[dZ,cv];obtain⟨x2,IP,R4,i',IQ⟩:=d2.at (w:=(v:Int)) (qaS v) (l:=hR ls v) (by simp[qH,BN]);have i2:=gK _ _ aS;have R5:=gK _ _ eM;have IR:=gK _ _ i';have ei:=Zcm (ls:=ls) (w:=v);have wh:=Vs (ns:=fu rs (Fire.bump d w)) (k:=(v:Int)) (qaS v) (by rw[vQ];omega);rw[qab,A0 BN] at wh;have R6:(v:Int)<(((jv ls st rs d (Fire.bump d w) (ms.take j)).map V.bl).length:Int):=by simp[jv];omega
      walk_at "rds";refine UK (λc2=>?_) (λc2=>?_)
      ·have IS:Fire.bump d w v<gO rs v:=by have:=of_decide_eq_true c2;omega
       walk_at "rds";refine⟨h,x2,ih ls st (Fire.bump d w),hR ls v,IP,rfl,.of o6,.of IR,IQ.keep λ_ _ z=>gK _ _ z,AY BM,by omega,λhH jq=>?_⟩;rw[ZcQ BM];have em:Wz ls (ih ls st (Fire.bump d w)) v=hr ls st rs (Fire.bump d w) v:=by unfold hr;rw[decide_eq_true IS,Bool.true_and]
       rw[em];have R7:=jq _ _ sX;have IT:=jq _ _ o5;have IU:=jq _ _ sW;have BO:=jq _ _ o6;walk_at "rds";refine⟨(gK.trans jq).new BE,⟨_,_,_,_,rfl⟩,by rw[b2 wd];exact IT,by rw[b2 wf.symm];exact IU,by rw[b2 sT];exact BO,?_⟩;rw[Zd,mH,←Zel,qcj]
       rfl
      ·have oJ:¬Fire.bump d w v<gO rs v:=by
        have:=of_decide_eq_false (by simpa using c2:decide (0<(gO rs v:Int)-(Fire.bump d w v:Int))=false);omega
       have em:hr ls st rs (Fire.bump d w) v=false:=by unfold hr;rw[decide_eq_false oJ,Bool.false_and]
       walk_at "rds";refine⟨gK.new BE,⟨_,_,_,_,rfl⟩,by rw[b2 wd];exact o5,by rw[b2 wf.symm];exact sW,by rw[b2 sT];exact o6,?_⟩;rw[Zd,mH,←Zel,qcj,em]
       rfl
     ·rintro σ fP ⟨gK,⟨dj,dM,d6,eF,rfl⟩,o5,sW,o6,sX⟩;rw[GE,qaB,Hs hJ eA BL] at sX;walk_at "rds";exact⟨tot rs-(bW++ [w]).length,by rw[qap,List.length_singleton];omega,bW++ [w],Fire.bump d w,_,_,_,_,_,rfl,rfl,gK,IE,o6,o5,sX,sW⟩
  ·walk_at "rds";exact q r b3 bW d sU dt lR gS (Hk hJ eA (by simpa using c))
end
def IV{K:Frag}{mg:Str→Option Value}(T:Tp K mg):Sp:=λvs H Q E=>∃(p:Addr)(w:Int)(aJ:HM)(fp:List Addr),vs=[.ref p,.int w]∧dQ T H p aJ fp∧aJ.belts.length≤1000∧
 (¬(0≤w∧w<aJ.names.length)→E (.ref T.h) none H)∧(0≤w→w<aJ.names.length→∀r H',H r=none→Ze H H'→H' r=some (.lst ((fi aJ.belts w).map λi:Nat=>V.int i))→Q (.ref r) H')
section
variable {P:Program}{w:World}{K:Frag}{mg:Str→Option Value}{base:Heap}
theorem IW(T:Tp K mg):OkM P w mg base 5 T.cG (IV T):=by
 have f4:=T.a;have f5:=T.e;refine T.cG.F.okX GI (λvs H Q E h=>?_) (λdi A outer s H vs Q E a3 h=>?_)
 ·obtain⟨p,w,aJ,fp,rfl,_⟩:=h
  rfl
 ·have hu:=a3.hu;obtain⟨p,w,aJ,fp,rfl,bV,hz,bw,q⟩:=h;obtain⟨a_,a,b,bs,rfl,aS,a2,bU,dD,hv,d2⟩:=id bV;have aN:=d2.length;refine⟨_,(bR (fx (hb (pv 0) T.a T.x8 (qO T) a3 dw (a6 (pv 1) bp)))
     (cm (dS (ml (xs:=["belt","row"]) rfl (gL (x:="belt") (zs:=["work"]) (ix:=[1]) (dh vq) ["self","work"] rfl rfl (by decide+kernel)) (qd (K:=K) rfl rfl T.k (a6 (fS (K:=K) rfl (pv 0) rfl) bp)) (λcl C s H fp=>⟨(jS (K:=K) (n:=2) rfl rfl (f8 (d0 (i:=0) (show(["belt","row","work"]:List Str).Nodup by decide+kernel) rfl (Or.inl rfl)) (f8 (d0 (i:=1) (show(["belt","row","work"]:List Str).Nodup by decide+kernel) rfl (Or.inl rfl)) jI))),(rP (eo (ia (K:=K) rfl hu) (dF (ixk K) (pv 1) bQ (λ_ _=>rfl)) (pv 2) (ez _))),(pv 0)⟩))))),?_⟩
  try dsimp only[L2.cxX,L2.ZJ,L2.Zl]
  walk_at "rds";refine⟨p,w,aJ,_,rfl,bV,bw,λf_ g8=>?_⟩;walk_at "rds";refine YA (own:=2) (qe (SqL.of dD)) (eE (by omega)) (λi=>[some (.int i),some (bs.getD i .non)]) (λ_=>rfl) (λi=>decide ((aJ.belts.getD i dB).taker=w)) (λi v _=>v= .int i) (λ_ _ _ _ _ z=>z) (λi er H' v a4 ib hi bS y bx k=>?_) (λi H' dW hi bS k=>?_) (λkg i H' dW hi a8 hp0 gP bS k=>?_) (λr H' ys a3 bS gA d5=>?_)
  ·obtain⟨t,ce,rfl,rfl⟩:=y;obtain⟨x1,x2,rfl⟩:∃x1 x2,er=[x1,x2]:=by
    match er,bx with
    | [x1,x2],_=>exact⟨x1,x2,rfl⟩
   refine Rd.VO (.of Zd) rfl ?_;walk_at "rds";exact k _ (dH ce)
  ·obtain⟨t,h3,fK⟩:=d2.getD (i:=i) (by omega);rw[h3];have iL:=bS _ _ fK;generalize aJ.belts.getD i dB=dv at*;dsimp only[B5.v] at iL;walk_at "rds";exact k H' (Ze.refl H')
  ·walk_at "rds";exact k _ H' (Ze.refl H') rfl
  ·refine q f_ g8 r H' a3 bS ?_;rw[gA,r1 (R:=λi v _=>v=V.int (i:Nat)) (H:=H') (r:=λi:Nat=>V.int i) (λ_ _ z=>z) d5,aN]
   rfl
end
def IX{K:Frag}{mg:Str→Option Value}(T:Tp K mg):Sp:=λvs H Q E=>∃(p:Addr)(i:Int)(aJ:HM)(fp:List Addr),vs=[.ref p,.int i]∧dQ T H p aJ fp∧
 (¬(0≤i∧i<aJ.belts.length)→E (.ref T.bs) none H)∧(0≤i→i<aJ.belts.length→Q .non H)
section
variable {P:Program}{w:World}{K:Frag}{mg:Str→Option Value}{base:Heap}
theorem IY(T:Tp K mg):OkM P w mg base 4 T.cH (IX T):=by
 have f4:=T.a;have f5:=T.e;refine T.cH.F.okX GJ (λvs H Q E h=>?_) (λdi A outer s H vs Q E a3 h=>?_)
 ·obtain⟨p,i,aJ,fp,rfl,_⟩:=h
  rfl
 ·have hu:=a3.hu;obtain⟨p,i,aJ,fp,rfl,bV,bw,q⟩:=h;obtain⟨a_,a,b,bs,rfl,aS,a2,bU,dD,hv,d2⟩:=id bV;refine⟨_,(cm (eU (la (jR (K:=K) rfl (d8 T.x7 (v0 T) a3 dw (a6 (pv 1) (a6 (ey (gM K) (by rfl) T.g qas (a6 (fS (K:=K) rfl (pv 0) rfl) bp)) bp))) (λ_=>rfl))) (cm (i1 T.bt.g T.bt.e qaq rfl (a6 Yu bp))) e7)),?_⟩
  try dsimp only[L2.cxX,L2.ZJ,L2.Zl]
  walk_at "rds";rw[d2.length]
  by_cases c:0≤i∧i<aJ.belts.length
  ·rw[decide_eq_true c];walk_at "rds";exact q c.1 c.2
  ·rw[decide_eq_false c];walk_at "rds";exact bw c
end
def IZ{K:Frag}{mg:Str→Option Value}(T:Tp K mg):Sp:=λvs H Q E=>∃(p:Addr)(i:Int)(aJ:HM)(fp:List Addr),vs=[.ref p,.int i]∧dQ T H p aJ fp∧
 (¬(0≤i∧i<aJ.belts.length)→E (.ref T.bs) none H)∧(0≤i→i<aJ.belts.length→∀(t:Addr)(b:B5),aJ.belts[i.toNat]? =some b→H t=some (.tup b.v)→Q (.ref t) H)
section
variable {P:Program}{w:World}{K:Frag}{mg:Str→Option Value}{base:Heap}
theorem qX(T:Tp K mg):OkM P w mg base 5 T.bZ (IZ T):=by
 have f4:=T.a;have f5:=T.e;refine T.bZ.F.okX GK (λvs H Q E h=>?_) (λdi A outer s H vs Q E a3 h=>?_)
 ·obtain⟨p,i,aJ,fp,rfl,_⟩:=h
  rfl
 ·have hu:=a3.hu;obtain⟨p,i,aJ,fp,rfl,bV,bw,q⟩:=h;obtain⟨a_,a,b,bs,rfl,aS,a2,bU,dD,hv,d2⟩:=id bV;refine⟨_,(bR (fx (hb (pv 0) T.a T.cH (IY T) a3 dw (a6 (pv 1) bp)))
     (cm (dS (dF (ixk K) (fS (K:=K) rfl (pv 0) rfl) (pv 1) (λ_ _=>rfl))))),?_⟩
  try dsimp only[L2.cxX,L2.ZJ,L2.Zl]
  walk_at "rds";refine⟨p,i,aJ,_,rfl,bV,bw,λi0 jM=>?_⟩;have hi:i.toNat<aJ.belts.length:=by omega
  have fX:=GT hi;obtain⟨t,h3,fK⟩:=d2.at fX;have sR:atI bs i=some (.ref t):=by
   have:=iS h3
   rwa [qbc i0] at this
  walk_at "rds";exact q i0 jM t _ fX fK
end
def I0{K:Frag}{mg:Str→Option Value}(T:Tp K mg):Sp:=λvs H Q E=>∃(p:Addr)(w:Int)(aJ:HM)(fp:List Addr),vs=[.ref p,.int w]∧dQ T H p aJ fp∧aJ.belts.length≤1000∧0≤w∧w<aJ.names.length∧
 ∀r H' ys,H r=none→Ze H H'→H' r=some (.lst ys)→Vj H' (hR aJ.belts w) ys→Q (.ref r) H'
section
variable {P:Program}{w:World}{K:Frag}{mg:Str→Option Value}{base:Heap}
theorem I1(T:Tp K mg):OkN P w base 6 T.cI (I0 T):=by
 have f4:=T.a;have f5:=T.e;refine T.cI.F.okX GL (λvs H Q E h=>?_) (λdi A outer s H vs Q E a3 h=>?_)
 ·obtain⟨p,w,aJ,fp,rfl,_⟩:=h
  rfl
 ·have hu:=a3.hu;obtain⟨p,w,aJ,fp,rfl,bV,hz,f_,g8,q⟩:=h;refine⟨_,(cm (dS (ml (xs:=["belt"]) rfl (gL (x:="belt") (zs:=["hall"]) (ix:=[0]) (dh vr) ["hall","work"] rfl rfl (by decide+kernel)) (fW (K:=K) rfl (hb (pv 0) T.a T.cG (IW T) a3 dw (a6 (pv 1) bp))) (λcl C s H fp=>⟨(d0 (i:=0) (show(["belt","hall"]:List Str).Nodup by decide+kernel) rfl (Or.inl rfl)),hG,(h8 (a6 (pv 0) (a6 (dF (ixk K) (hb (pv 1) T.a T.bZ (qX T) a3 Vu (a6 (pv 0) bp)) bQ (λ_ _=>rfl)) bp)))⟩)))),?_⟩
  try dsimp only[L2.cxX,L2.ZJ,L2.Zl]
  walk_at "rds";refine⟨p,w,aJ,fp,rfl,bV,hz,λz=>absurd ⟨f_,g8⟩ z,λ_ _ e aU bD a7 o7=>?_⟩;have jC:=bV.same a7;have hM:=Zdr (ls:=aJ.belts) (w:=w);walk_at "rds";refine YA (own:=1) (fR (SqL.of o7)).y (eE (by rw[GE];omega)) (λi=>[some (.int ((fi aJ.belts w).getD i 0:Nat))]) (λ_=>rfl) (λ_=>true) (λi v H=>∃t,v=V.ref t∧H t=some (.tup [.int ((fi aJ.belts w).getD i 0:Nat),.int (aJ.belts.getD ((fi aJ.belts w).getD i 0) dB).take])) (λ_ _ _ _ e ⟨t,fY,fz⟩=>⟨t,fY,e _ _ fz⟩) (λi er H' v a4 ib hi bS y gZ k=>?_) (λi H' dW hi bS k=>?_) (λkg i H' dW hi a8 hp0 gP bS k=>?_) (λr H' ys jE bS gA d5=>?_)
  ·obtain⟨rfl,rfl⟩:=y;obtain⟨x1,rfl⟩:∃x1,er=[x1]:=by
    match er,gZ with
    | [x1],_=>exact⟨x1,rfl⟩
   have el:i<(fi aJ.belts w).length:=by simpa using hi
   have dZ:((fi aJ.belts w).map λi:Nat=>V.int i).getD i .non= .int ((fi aJ.belts w).getD i 0:Nat):=by simp[List.getD,el]
   rw[dZ];walk_at "rds";exact k _ (Ze.refl _)
  ·walk_at "rds";exact k H' (Ze.refl H')
  ·have el:i<(fi aJ.belts w).length:=by simpa using hi
   have bo:(fi aJ.belts w).getD i 0∈fi aJ.belts w:=by
    have:(fi aJ.belts w).getD i 0=(fi aJ.belts w)[i]:=by simp[List.getD,el]
    rw[this];exact qaa el
   have du:=Zbz bo;generalize (fi aJ.belts w).getD i 0=j at*;have fh:=jC.same bS;walk_at "rds";refine⟨p,(j:Int),aJ,fp,rfl,fh,λz=>absurd ⟨qaS j,by omega⟩ z,λ_ _ t b aN ce=>?_⟩;have gC:aJ.belts[j]? =some b:=aN;have dJ:aJ.belts.getD j dB=b:=by simp[List.getD,gC]
   rw[dJ] at k;dsimp only[B5.v] at ce;walk_at "rds";refine⟨by show 2≤sizeLine;decide,λu gB=>?_⟩;exact k _ _ (dH gB) ⟨u,rfl,uR gP gB⟩
  ·refine q r H' ys ?_ (a7.trans bS) gA ?_
   ·cases e:H r with
    |none=>rfl
    |some o=>rw[a7 _ _ e] at jE;cases jE
   ·exact(AX d5).keep λb xs z=>j_ _ _ z
end
def I2{K:Frag}{mg:Str→Option Value}(T:Tp K mg):Sp:=λvs H Q E=>∃(p:Addr)(w:Int)(aJ:HM)(fp:List Addr),vs=[.ref p,.int w]∧dQ T H p aJ fp∧aJ.belts.length≤1000∧
 (¬(0≤w∧w<aJ.names.length)→E (.ref T.h) none H)∧(0≤w→w<aJ.names.length→∀r H',H r=none→Ze H H'→H' r=some (.lst ((eK aJ.belts w).map λi:Nat=>V.int i))→Q (.ref r) H')
section
variable {P:Program}{w:World}{K:Frag}{mg:Str→Option Value}{base:Heap}
theorem BP(T:Tp K mg):OkM P w mg base 5 T.cq (I2 T):=by
 have f4:=T.a;have f5:=T.e;refine T.cq.F.okX GN (λvs H Q E h=>?_) (λdi A outer s H vs Q E a3 h=>?_)
 ·obtain⟨p,w,aJ,fp,rfl,_⟩:=h
  rfl
 ·have hu:=a3.hu;obtain⟨p,w,aJ,fp,rfl,bV,hz,bw,q⟩:=h;obtain⟨a_,a,b,bs,rfl,aS,a2,bU,dD,hv,d2⟩:=id bV;have aN:=d2.length;refine⟨_,(bR (fx (hb (pv 0) T.a T.x8 (qO T) a3 dw (a6 (pv 1) bp)))
     (cm (dS (ml (xs:=["belt","row"]) rfl (gL (x:="belt") (zs:=["work"]) (ix:=[1]) (dh vt) ["self","work"] rfl rfl (by decide+kernel)) (qd (K:=K) rfl rfl T.k (a6 (fS (K:=K) rfl (pv 0) rfl) bp)) (λcl C s H fp=>⟨(jS (K:=K) (n:=2) rfl rfl (f8 (d0 (i:=0) (show(["belt","row","work"]:List Str).Nodup by decide+kernel) rfl (Or.inl rfl)) (f8 (d0 (i:=1) (show(["belt","row","work"]:List Str).Nodup by decide+kernel) rfl (Or.inl rfl)) jI))),(rP (eo (ia (K:=K) rfl hu) (dF (ixk K) (pv 1) bQ (λ_ _=>rfl)) (pv 2) (ez _))),(pv 0)⟩))))),?_⟩
  try dsimp only[L2.cxX,L2.ZJ,L2.Zl]
  walk_at "rds";refine⟨p,w,aJ,_,rfl,bV,bw,λf_ g8=>?_⟩;walk_at "rds";refine YA (own:=2) (qe (SqL.of dD)) (eE (by omega)) (λi=>[some (.int i),some (bs.getD i .non)]) (λ_=>rfl) (λi=>decide ((aJ.belts.getD i dB).giver=w)) (λi v _=>v= .int i) (λ_ _ _ _ _ z=>z) (λi er H' v a4 ib hi bS y bx k=>?_) (λi H' dW hi bS k=>?_) (λkg i H' dW hi a8 hp0 gP bS k=>?_) (λr H' ys a3 bS gA d5=>?_)
  ·obtain⟨t,ce,rfl,rfl⟩:=y;obtain⟨x1,x2,rfl⟩:∃x1 x2,er=[x1,x2]:=by
    match er,bx with
    | [x1,x2],_=>exact⟨x1,x2,rfl⟩
   refine Rd.VO (.of Zd) rfl ?_;walk_at "rds";exact k _ (dH ce)
  ·obtain⟨t,h3,fK⟩:=d2.getD (i:=i) (by omega);rw[h3];have iL:=bS _ _ fK;generalize aJ.belts.getD i dB=dv at*;dsimp only[B5.v] at iL;walk_at "rds";exact k H' (Ze.refl H')
  ·walk_at "rds";exact k _ H' (Ze.refl H') rfl
  ·refine q f_ g8 r H' a3 bS ?_;rw[gA,r1 (R:=λi v _=>v=V.int (i:Nat)) (H:=H') (r:=λi:Nat=>V.int i) (λ_ _ z=>z) d5,aN]
   rfl
end
def I3{K:Frag}{mg:Str→Option Value}(T:Tp K mg):Sp:=λvs H Q E=>∃(p:Addr)(w:Int)(aJ:HM)(fp:List Addr),vs=[.ref p,.int w]∧dQ T H p aJ fp∧aJ.belts.length≤1000∧0≤w∧w<aJ.names.length∧
 ∀r H' ys,H r=none→Ze H H'→H' r=some (.lst ys)→Vj H' (oT aJ.belts w) ys→Q (.ref r) H'
section
variable {P:Program}{w:World}{K:Frag}{mg:Str→Option Value}{base:Heap}
theorem I4(T:Tp K mg):OkN P w base 6 T.cJ (I3 T):=by
 have f4:=T.a;have f5:=T.e;refine T.cJ.F.okX GO (λvs H Q E h=>?_) (λdi A outer s H vs Q E a3 h=>?_)
 ·obtain⟨p,w,aJ,fp,rfl,_⟩:=h
  rfl
 ·have hu:=a3.hu;obtain⟨p,w,aJ,fp,rfl,bV,hz,f_,g8,q⟩:=h;refine⟨_,(cm (dS (ml (xs:=["belt"]) rfl (gL (x:="belt") (zs:=["hall"]) (ix:=[0]) (dh vu) ["hall","work"] rfl rfl (by decide+kernel)) (fW (K:=K) rfl (hb (pv 0) T.a T.cq (BP T) a3 dw (a6 (pv 1) bp))) (λcl C s H fp=>⟨(d0 (i:=0) (show(["belt","hall"]:List Str).Nodup by decide+kernel) rfl (Or.inl rfl)),hG,(h8 (a6 (pv 0) (a6 (dF (ixk K) (hb (pv 1) T.a T.bZ (qX T) a3 Vu (a6 (pv 0) bp)) bQ (λ_ _=>rfl)) bp)))⟩)))),?_⟩
  try dsimp only[L2.cxX,L2.ZJ,L2.Zl]
  walk_at "rds";refine⟨p,w,aJ,fp,rfl,bV,hz,λz=>absurd ⟨f_,g8⟩ z,λ_ _ e aU bD a7 o7=>?_⟩;have jC:=bV.same a7;have hM:=Zdf (ls:=aJ.belts) (w:=w);walk_at "rds";refine YA (own:=1) (fR (SqL.of o7)).y (eE (by rw[GE];omega)) (λi=>[some (.int ((eK aJ.belts w).getD i 0:Nat))]) (λ_=>rfl) (λ_=>true) (λi v H=>∃t,v=V.ref t∧H t=some (.tup [.int ((eK aJ.belts w).getD i 0:Nat),.int (aJ.belts.getD ((eK aJ.belts w).getD i 0) dB).give])) (λ_ _ _ _ e ⟨t,fY,fz⟩=>⟨t,fY,e _ _ fz⟩) (λi er H' v a4 ib hi bS y gZ k=>?_) (λi H' dW hi bS k=>?_) (λkg i H' dW hi a8 hp0 gP bS k=>?_) (λr H' ys jE bS gA d5=>?_)
  ·obtain⟨rfl,rfl⟩:=y;obtain⟨x1,rfl⟩:∃x1,er=[x1]:=by
    match er,gZ with
    | [x1],_=>exact⟨x1,rfl⟩
   have el:i<(eK aJ.belts w).length:=by simpa using hi
   have dZ:((eK aJ.belts w).map λi:Nat=>V.int i).getD i .non= .int ((eK aJ.belts w).getD i 0:Nat):=by simp[List.getD,el]
   rw[dZ];walk_at "rds";exact k _ (Ze.refl _)
  ·walk_at "rds";exact k H' (Ze.refl H')
  ·have el:i<(eK aJ.belts w).length:=by simpa using hi
   have bo:(eK aJ.belts w).getD i 0∈eK aJ.belts w:=by
    have:(eK aJ.belts w).getD i 0=(eK aJ.belts w)[i]:=by simp[List.getD,el]
    rw[this];exact qaa el
   have du:=U2 bo;generalize (eK aJ.belts w).getD i 0=j at*;have fh:=jC.same bS;walk_at "rds";refine⟨p,(j:Int),aJ,fp,rfl,fh,λz=>absurd ⟨qaS j,by omega⟩ z,λ_ _ t b aN ce=>?_⟩;have gC:aJ.belts[j]? =some b:=aN;have dJ:aJ.belts.getD j dB=b:=by simp[List.getD,gC]
   rw[dJ] at k;dsimp only[B5.v] at ce;walk_at "rds";refine⟨by show 2≤sizeLine;decide,λu gB=>?_⟩;exact k _ _ (dH gB) ⟨u,rfl,uR gP gB⟩
  ·refine q r H' ys ?_ (a7.trans bS) gA ?_
   ·cases e:H r with
    |none=>rfl
    |some o=>rw[a7 _ _ e] at jE;cases jE
   ·exact(AX d5).keep λb xs z=>j_ _ _ z
end
def I5{K:Frag}{mg:Str→Option Value}(T:Tp K mg):Sp:=λvs H Q _=>∃(p:Addr)(w:Int)(aJ:HM)(fp:List Addr),vs=[.ref p,.int w]∧dQ T H p aJ fp∧aJ.belts.length≤60∧0≤w∧w<aJ.names.length∧
 ∀(r:Addr)(H':Hp)(ms:List Int),H r=none→Ze H H'→H' r=some (.lst (ms.map V.int))→Zao aJ.belts w ms→Q (.ref r) H'
section
variable {P:Program}{w:World}{K:Frag}{mg:Str→Option Value}{base:Heap}
theorem I6(T:Tp K mg):OkN P w base 6 T.cK (I5 T):=by
 have f4:=T.a;have f5:=T.e;refine T.cK.F.okX GP (λvs H Q E h=>?_) (λdi A outer s H vs Q E a3 h=>?_)
 ·obtain⟨p,w,aJ,fp,rfl,_⟩:=h
  rfl
 ·have hu:=a3.hu;obtain⟨p,w,aJ,fp,rfl,bV,hz,f_,g8,q⟩:=h;refine⟨_,(cm (dS (F2 (K:=K) rfl rfl (by rfl) T.br (by rfl) T.b6 (a6 (dE (ha K) (hE (a6 (pv 1) bp)) (ly rfl (gL (x:="belt") (zs:=["hall"]) (ix:=[0]) (dh vv) ["hall","work"] rfl rfl (by decide+kernel)) (fW (K:=K) rfl (hb (pv 0) T.a T.cq (BP T) a3 dw (a6 (pv 1) bp))) (λcl C s H fp=>⟨(d0 (i:=0) (show(["belt","hall"]:List Str).Nodup by decide+kernel) rfl (Or.inl rfl)),hG,(dF (ixk K) (hb (pv 1) T.a T.bZ (qX T) a3 Vu (a6 (pv 0) bp)) bQ (λ_ _=>rfl))⟩))) bp)))),?_⟩
  try dsimp only[L2.cxX,L2.ZJ,L2.Zl]
  walk_at "rds";refine Rd.Zpj ?_;walk_at "rds";intro a bx;have a7:Ze H (upd H a (.lst [V.int w])):=dH bx;have sY:(upd H a (.lst [V.int w])) a=some (.lst [V.int w]):=Zd;generalize upd H a (.lst [V.int w])=aU at*;have jC:=bV.same a7;walk_at "rds";refine⟨p,w,aJ,fp,rfl,jC,by omega,λz=>absurd ⟨f_,g8⟩ z,λ_ _ e a4 bD bK lC=>?_⟩;have fh:=jC.same bK;have wl:=bK _ _ sY;have hM:=Zdf (ls:=aJ.belts) (w:=w);walk_at "rds";refine YI (fR (SqL.of lC)) (eE (by rw[GE];omega)) (λ_=>true) (λi=> .int (aJ.belts.getD ((eK aJ.belts w).getD i 0) dB).taker) (λi H' dW hi bS k=>?_) (λi H' dW hi _ bS k=>?_) (λr H' a3 bS jE=>?_)
  ·walk_at "rds";exact k H' (Ze.refl H')
  ·have el:i<(eK aJ.belts w).length:=by simpa using hi
   have dZ:((eK aJ.belts w).map λi:Nat=>V.int i).getD i .non= .int ((eK aJ.belts w).getD i 0:Nat):=by simp[List.getD,el]
   rw[dZ];have bo:(eK aJ.belts w).getD i 0∈eK aJ.belts w:=by
    have:(eK aJ.belts w).getD i 0=(eK aJ.belts w)[i]:=by simp[List.getD,el]
    rw[this];exact qaa el
   have du:=U2 bo;generalize (eK aJ.belts w).getD i 0=j at*;have fE:=fh.same bS;walk_at "rds";refine⟨p,(j:Int),aJ,fp,rfl,fE,λz=>absurd ⟨qaS j,by omega⟩ z,λ_ _ t b aN ce=>?_⟩;have gC:aJ.belts[j]? =some b:=aN;have dJ:aJ.belts.getD j dB=b:=by simp[List.getD,gC]
   rw[dJ] at k;dsimp only[B5.v] at ce;walk_at "rds";exact k H' (Ze.refl H')
  ·have je:H' r=some (.lst (((eK aJ.belts w).map λi=>(aJ.belts.getD i dB).taker).map V.int)):=by
    rw[jE,qaz.mpr (by simp)];refine congrArg (λz=>some (HO.lst z)) ?_;refine qay (by simp) λi aS a2=>?_;have:i<(eK aJ.belts w).length:=by simpa using a2
    simp[List.getD,this]
   have I7:=bS _ _ wl;refine Rd.ZdP I7 je (qaX (eE (by simp;omega))) (λu hu=>?_);have c_:Ze H' (upd H' u (.lst ([V.int w]++((eK aJ.belts w).map λi=>(aJ.belts.getD i dB).taker).map V.int))):=dH hu;have kW:(upd H' u (.lst ([V.int w]++((eK aJ.belts w).map λi=>(aJ.belts.getD i dB).taker).map V.int))) u=some (.lst ((w::(eK aJ.belts w).map λi=>(aJ.belts.getD i dB).taker).map V.int)):=Zd;generalize upd H' u (.lst ([V.int w]++((eK aJ.belts w).map λi=>(aJ.belts.getD i dB).taker).map V.int))=cw at*;walk_at "rds";refine Rd.Zoa (.of kW) (by simp;omega) (λx ms aT bb bo=>?_);have kq:=a7.trans (bK.trans (bS.trans c_));refine q x _ ms (f0 kq aT) (kq.trans (dH aT)) Zd ⟨bb,λy=>?_⟩;rw[bo y,qad,qah]
end
def BQ{K:Frag}{mg:Str→Option Value}(T:Tp K mg):Sp:=λvs H Q E=>∃(p a_ h t:Addr)(aJ:HM)(fp:List Addr)(rs:List Int),vs=[.ref p,.ref h,.ref t]∧H p=some (.ins T.b a_ [])∧dQ T H h aJ fp∧H t=some (.lst (rs.map V.int))∧rs.length=aJ.names.length∧rs.length≤1000∧aJ.belts.length≤60∧
 ∀(H':Hp),nM T H' p aJ.belts rs→(∀b o,H b=some o→b≠p→H' b=some o)→Q .non H'
theorem ZdM{K:Frag}{mg:Str→Option Value}{T:Tp K mg}{H:Hp}{h t:Addr}{aJ:HM}{fp:List Addr}{rs:List Int}{Q:Addr→Hp→Prop}{E:XK}(bV:dQ T H h aJ fp)(ce:H t=some (.lst (rs.map V.int)))(bF:rs.length=aJ.names.length)(hz:rs.length≤1000)(aN:aJ.belts.length≤60)
  (q:∀(p:Addr)(H':Hp),nM T H' p aJ.belts rs→H p=none→Ze H H'→Q p H'):
  ∀x a_,H x=none→H a_=none→a_≠x→BQ T (.ref x::([.ref h,.ref t]++ [])) (upd (upd H a_ (.own x)) x (.ins T.b a_ [])) (λv a4=>v= .non∧Q x a4) E:=by
 intro x a_ aT jW ne;have bS:Ze H (upd (upd H a_ (.own x)) x (.ins T.b a_ [])):=λb o e=>by rw[b2 (d9 e aT),b2 (d9 e jW)];exact e
 exact⟨x,a_,h,t,aJ,fp,rs,rfl,Zd,bV.same bS,bS _ _ ce,bF,hz,aN,λH' a8 a5=>⟨rfl,q x H' a8 aT (λb o e=>a5 b o (bS b o e) (d9 e aT))⟩⟩
section
variable {P:Program}{w:World}{K:Frag}{mg:Str→Option Value}{base:Heap}
theorem I8(T:Tp K mg):OkI P w mg base 7 T.cL (BQ T):=by
 have Bx:=T.R;have By:=T.av;have f4:=T.a;have f5:=T.e;refine T.cL.F.okX GQ (λvs H Q E h=>?_) (λdi A outer s H vs Q E a3 h=>?_)
 ·obtain⟨p,a_,h,t,aJ,fp,rs,rfl,_⟩:=h
  rfl
 ·have hu:=a3.hu;obtain⟨p,a_,bx,t,aJ,fp,rs,rfl,bb,bV,ce,bF,hz,km,q⟩:=h;have mK:p∉fp:=by
   intro z;obtain⟨I9,a,b,bs,rfl,aS,a2,bU,dD,hv,d2⟩:=bV;simp only[qad,qaR,or_false] at z;rcases z with rfl|rfl|rfl|rfl
   ·rw[aS] at bb
    injection bb with e
    injection e with bw bC dP
    cases dP
   ·rw[a2] at bb;cases bb
   ·rw[bU] at bb;cases bb
   ·rw[dD] at bb;cases bb
  have R8:((rs.map V.int).length:Int)=rs.length:=by simp
  refine⟨_,(bR (jQ (K:=K) rfl (pv 0) (lm (p' (K:=K) rfl) (by rfl) T.E qba (a6 (pv 2) bp)) rfl)
     (bR (jQ (K:=K) rfl (pv 0) (kK (pv 1) T.a T.bG (o2 T) a3 dw) rfl)
     (bR (jQ (K:=K) rfl (pv 0) (ml (xs:=["work"]) rfl (gL (x:="work") (zs:=["hall"]) (ix:=[1]) (dh qs) ["self","hall","turns"] rfl rfl (by decide+kernel)) (l6 rfl T.q (a6 (ey (gM K) (by rfl) T.g qas (a6 (pv 2) bp)) bp)) (λcl C s H fp=>⟨(d0 (i:=0) (show(["work","hall"]:List Str).Nodup by decide+kernel) rfl (Or.inl rfl)),hG,(d8 T.cI (I1 T) a3 Vu (a6 (pv 1) (a6 (pv 0) bp)))⟩)) rfl)
     (bR (jQ (K:=K) rfl (pv 0) (ml (xs:=["work"]) rfl (gL (x:="work") (zs:=["hall"]) (ix:=[1]) (dh qs) ["self","hall","turns"] rfl rfl (by decide+kernel)) (l6 rfl T.q (a6 (ey (gM K) (by rfl) T.g qas (a6 (pv 2) bp)) bp)) (λcl C s H fp=>⟨(d0 (i:=0) (show(["work","hall"]:List Str).Nodup by decide+kernel) rfl (Or.inl rfl)),hG,(d8 T.cJ (I4 T) a3 Vu (a6 (pv 1) (a6 (pv 0) bp)))⟩)) rfl)
     (cm (jQ (K:=K) rfl (pv 0) (ml (xs:=["work"]) rfl (gL (x:="work") (zs:=["hall"]) (ix:=[1]) (dh qs) ["self","hall","turns"] rfl rfl (by decide+kernel)) (l6 rfl T.q (a6 (ey (gM K) (by rfl) T.g qas (a6 (pv 2) bp)) bp)) (λcl C s H fp=>⟨(d0 (i:=0) (show(["work","hall"]:List Str).Nodup by decide+kernel) rfl (Or.inl rfl)),hG,(d8 T.cK (I6 T) a3 Vu (a6 (pv 1) (a6 (pv 0) bp)))⟩)) rfl)))))),?_⟩
  try dsimp only[L2.cxX,L2.ZJ,L2.Zl]
  walk_at "rds";refine Rd.Zat (.of ce) (λa qY=>?_);have jy:p≠a:=d9 bb qY;have a7:Ze H (upd H a (.lst (rs.map V.int))):=dH qY;have sY:(upd H a (.lst (rs.map V.int))) a=some (.lst (rs.map V.int)):=Zd;generalize upd H a (.lst (rs.map V.int))=aU at*;have gP:=a7 _ _ bb;walk_at "rds";have f1:d7 [p] aU (upd aU p (.ins T.b a_ [("turns",.ref a)])):=h0 (by simp) gP (by intro _ z;cases z);have BR:d7 [p] H (upd aU p (.ins T.b a_ [("turns",.ref a)])):=a7.frame.trans f1;have mb:(upd aU p (.ins T.b a_ [("turns",.ref a)])) p=some (.ins T.b a_ [("turns",.ref a)]):=Zd;have wl:=f1.keep _ _ sY (by simpa using jy.symm);generalize upd aU p (.ins T.b a_ [("turns",.ref a)])=a4 at*;have sZ:t≠p:=gT ce bb (by intro z;cases z);have fh:=bV.off BR (λx aT z=>mK (by rw[←FM.mp z];exact aT));clear f1 gP sY;walk_at "rds";intro b b_ bs kh bM oz ik;have qZ:=bM _ _ mb;have jz:p≠b:=d9 mb kh;walk_at "rds";have dR:d7 [p] b_ (upd b_ p (.ins T.b a_ [("turns",.ref a),("rows",.ref b)])):=h0 (by simp) qZ (by intro _ z;cases z);have wm:d7 [p] a4 (upd b_ p (.ins T.b a_ [("turns",.ref a),("rows",.ref b)])):=bM.frame.trans dR;have o8:(upd b_ p (.ins T.b a_ [("turns",.ref a),("rows",.ref b)])) p=some (.ins T.b a_ [("turns",.ref a),("rows",.ref b)]):=Zd;have I_:=dR.keep _ _ oz (by simpa using jz.symm);have fL:=ik.keep dR.tups;generalize upd b_ p (.ins T.b a_ [("turns",.ref a),("rows",.ref b)])=cw at*;have wn:=BR.trans wm;have jX:=wn.keep _ _ ce (by simpa using sZ);have iJ:=bV.off wn (λx aT z=>mK (by rw[←FM.mp z];exact aT));clear dR qZ oz ik;walk_at "rds";refine YA (own:=1) U3.y (eE (by rw[GE];exact hz)) (λi=>[some (.int (0+(i:Int)))]) (λ_=>rfl) (λ_=>true) (λ(i:Nat) v a4=>∃x,v=V.ref x∧∃vs,cw x=none∧a4 x=some (.lst vs)∧Vj a4 (hR aJ.belts (0+(i:Int))) vs) (λ_ _ _ _ e ⟨x,iM,fY⟩=>⟨x,iM,(let⟨vs,a1,dj,dM⟩:=fY;⟨vs,a1,e _ _ dj,dM.keep λ_ _ z=>e _ _ z⟩)⟩) (λi er H' v a4 ib hi bS y gZ k=>?_) (λi H' dW hi bS k=>?_) (λkg i H' dW hi a8 hp0 hp1' bS k=>?_) (λc b3 ys4 mL dt s0 wo=>?_)
  ·obtain⟨rfl,rfl⟩:=y;obtain⟨x1,rfl⟩:∃x1,er=[x1]:=by
    match er,gZ with
    | [x1],_=>exact⟨x1,rfl⟩
   walk_at "rds";exact k _ (Ze.refl _)
  ·walk_at "rds";exact k H' (Ze.refl H')
  ·have el:i<rs.length:=by simpa using hi
   walk_at "rds";refine⟨bx,0+(i:Int),aJ,fp,rfl,iJ.same bS,by omega,by omega,by omega,λx b3 vs aT dt hx5 d1=>?_⟩;exact k _ b3 dt ⟨x,rfl,vs,f0 bS aT,uS hp1' aT hx5,d1.keep λb xs z=>Zfo hp1' dt z⟩
  ·rw[qaz.mpr (by simp),GE,qab] at wo;obtain⟨hT,rfl,I',BS⟩:=ZdE wo;have q0:=dt _ _ o8;have o9:p≠c:=d9 o8 mL;have BU:∀x∈hT,x≠p:=λx aT z=>by
    obtain⟨j,bj,e⟩:=qaw aT;obtain⟨_,iM,_⟩:=BS j (by omega);rw[Ye bj,e,z,o8] at iM;cases iM
   walk_at "rds";have ev:d7 [p] b3 (upd b3 p (.ins T.b a_ [("turns",.ref a),("rows",.ref b),("takes",.ref c)])):=h0 (by simp) q0 (by intro _ z;cases z);have wq:d7 [p] cw (upd b3 p (.ins T.b a_ [("turns",.ref a),("rows",.ref b),("takes",.ref c)])):=dt.frame.trans ev;have nT:(upd b3 p (.ins T.b a_ [("turns",.ref a),("rows",.ref b),("takes",.ref c)])) p=some (.ins T.b a_ [("turns",.ref a),("rows",.ref b),("takes",.ref c)]):=Zd;have wr:=ev.keep _ _ s0 (by simpa using o9.symm);have Ja:LL (upd b3 p (.ins T.b a_ [("turns",.ref a),("rows",.ref b),("takes",.ref c)])) ((List.range rs.length).map λw:Nat=>hR aJ.belts w) hT:=by
    refine qF (by simp[I']) λj x y bw bC=>?_;have bj:j<rs.length:=by have:=(GM.mp bC).1;omega
    obtain⟨vs,_,fY,fz⟩:=BS j bj;rw[qaj,List.getElem?_range bj] at bw;cases bw;have fk:hT.getD j 0=y:=by simp[List.getD,bC]
    rw[fk] at fY;rw[qbW] at fz;exact⟨vs,ev.keep _ _ (j_ _ _ fY) (by simpa using BU y (qal bC)),fz.keep λb xs z=>ev.tups _ _ (j_ _ _ z)⟩
   generalize upd b3 p (.ins T.b a_ [("turns",.ref a),("rows",.ref b),("takes",.ref c)])=dN at*;have lS:=wn.trans wq;have ws:=lS.keep _ _ ce (by simpa using sZ);have kT:=bV.off lS (λx aT z=>mK (by rw[←FM.mp z];exact aT));clear ev q0 s0 wo;walk_at "rds";refine YA (own:=1) U3.y (eE (by rw[GE];exact hz)) (λi=>[some (.int (0+(i:Int)))]) (λ_=>rfl) (λ_=>true) (λ(i:Nat) v a4=>∃x,v=V.ref x∧∃vs,dN x=none∧a4 x=some (.lst vs)∧Vj a4 (oT aJ.belts (0+(i:Int))) vs) (λ_ _ _ _ e ⟨x,iM,fY⟩=>⟨x,iM,(let⟨vs,a1,dj,dM⟩:=fY;⟨vs,a1,e _ _ dj,dM.keep λ_ _ z=>e _ _ z⟩)⟩) (λi er H' v a4 ib hi bS y gZ k=>?_) (λi H' dW hi bS k=>?_) (λkg i H' dW hi a8 hp0 hp1' bS k=>?_) (λd ed ys6 nU e8 q1 wt=>?_)
   ·obtain⟨rfl,rfl⟩:=y;obtain⟨x1,rfl⟩:∃x1,er=[x1]:=by
     match er,gZ with
     | [x1],_=>exact⟨x1,rfl⟩
    walk_at "rds";exact k _ (Ze.refl _)
   ·walk_at "rds";exact k H' (Ze.refl H')
   ·have el:i<rs.length:=by simpa using hi
    walk_at "rds";refine⟨bx,0+(i:Int),aJ,fp,rfl,kT.same bS,by omega,by omega,by omega,λx b3 vs aT dt hx5 d1=>?_⟩;exact k _ b3 dt ⟨x,rfl,vs,f0 bS aT,uS hp1' aT hx5,d1.keep λb xs z=>Zfo hp1' dt z⟩
   ·rw[qaz.mpr (by simp),GE,qab] at wt;obtain⟨id,rfl,Jb,BV⟩:=ZdE wt;have q2:=e8 _ _ nT;have lN:p≠d:=d9 nT nU;have BW:∀x∈id,x≠p:=λx aT z=>by
     obtain⟨j,bj,e⟩:=qaw aT;obtain⟨_,iM,_⟩:=BV j (by omega);rw[Ye bj,e,z,nT] at iM;cases iM
    walk_at "rds";have lT:d7 [p] ed (upd ed p (.ins T.b a_ [("turns",.ref a),("rows",.ref b),("takes",.ref c),("gives",.ref d)])):=h0 (by simp) q2 (by intro _ z;cases z);have mM:d7 [p] dN (upd ed p (.ins T.b a_ [("turns",.ref a),("rows",.ref b),("takes",.ref c),("gives",.ref d)])):=e8.frame.trans lT;have o_:(upd ed p (.ins T.b a_ [("turns",.ref a),("rows",.ref b),("takes",.ref c),("gives",.ref d)])) p=some (.ins T.b a_ [("turns",.ref a),("rows",.ref b),("takes",.ref c),("gives",.ref d)]):=Zd;have Jc:=lT.keep _ _ q1 (by simpa using lN.symm);have Jd:LL (upd ed p (.ins T.b a_ [("turns",.ref a),("rows",.ref b),("takes",.ref c),("gives",.ref d)])) ((List.range rs.length).map λw:Nat=>oT aJ.belts w) id:=by
     refine qF (by simp[Jb]) λj x y bw bC=>?_;have bj:j<rs.length:=by have:=(GM.mp bC).1;omega
     obtain⟨vs,_,fY,fz⟩:=BV j bj;rw[qaj,List.getElem?_range bj] at bw;cases bw;have fk:id.getD j 0=y:=by simp[List.getD,bC]
     rw[fk] at fY;rw[qbW] at fz;exact⟨vs,lT.keep _ _ (j_ _ _ fY) (by simpa using BW y (qal bC)),fz.keep λb xs z=>lT.tups _ _ (j_ _ _ z)⟩
    generalize upd ed p (.ins T.b a_ [("turns",.ref a),("rows",.ref b),("takes",.ref c),("gives",.ref d)])=e5 at*;have q3:=lS.trans mM;have BX:=q3.keep _ _ ce (by simpa using sZ);have qV:=bV.off q3 (λx aT z=>mK (by rw[←FM.mp z];exact aT));clear lT q2 q1 wt;walk_at "rds";refine YA (own:=1) U3.y (eE (by rw[GE];exact hz)) (λi=>[some (.int (0+(i:Int)))]) (λ_=>rfl) (λ_=>true) (λ(i:Nat) v a4=>∃x,v=V.ref x∧∃ms:List Int,e5 x=none∧a4 x=some (.lst (ms.map V.int))∧Zao aJ.belts i ms) (λ_ _ _ _ e ⟨x,iM,fY⟩=>⟨x,iM,(let⟨vs,a1,dj,dM⟩:=fY;⟨vs,a1,e _ _ dj,dM⟩)⟩) (λi er H' v a4 ib hi bS y gZ k=>?_) (λi H' dW hi bS k=>?_) (λkg i H' dW hi a8 hp0 hp1' bS k=>?_) (λe fI ys8 q4 g0 s1 wu=>?_)
    ·obtain⟨rfl,rfl⟩:=y;obtain⟨x1,rfl⟩:∃x1,er=[x1]:=by
      match er,gZ with
      | [x1],_=>exact⟨x1,rfl⟩
     walk_at "rds";exact k _ (Ze.refl _)
    ·walk_at "rds";exact k H' (Ze.refl H')
    ·have el:i<rs.length:=by simpa using hi
     walk_at "rds";refine⟨bx,0+(i:Int),aJ,fp,rfl,qV.same bS,by omega,by omega,by omega,λx b3 ms aT dt hx5 d1=>?_⟩;rw[qbW] at d1;exact k _ b3 dt ⟨x,rfl,ms,f0 bS aT,uS hp1' aT hx5,d1⟩
    ·rw[qaz.mpr (by simp),GE,qab] at wu;obtain⟨wv,rfl,Je,BY⟩:=ZdE wu;have o':=g0 _ _ o_;have Jf:p≠e:=d9 o_ q4;have Jg:∀x∈wv,x≠p:=λx aT z=>by
      obtain⟨j,bj,e⟩:=qaw aT;obtain⟨_,iM,_⟩:=BY j (by omega);rw[Ye bj,e,z,o_] at iM;cases iM
     walk_at "rds";have mO:d7 [p] fI (upd fI p (.ins T.b a_ [("turns",.ref a),("rows",.ref b),("takes",.ref c),("gives",.ref d),("touched",.ref e)])):=h0 (by simp) o' (by intro _ z;cases z);have q5:d7 [p] e5 (upd fI p (.ins T.b a_ [("turns",.ref a),("rows",.ref b),("takes",.ref c),("gives",.ref d),("touched",.ref e)])):=g0.frame.trans mO;have s2:(upd fI p (.ins T.b a_ [("turns",.ref a),("rows",.ref b),("takes",.ref c),("gives",.ref d),("touched",.ref e)])) p=some (.ins T.b a_ [("turns",.ref a),("rows",.ref b),("takes",.ref c),("gives",.ref d),("touched",.ref e)]):=Zd;have Jh:=mO.keep _ _ s1 (by simpa using Jf.symm);have Ji:TL (upd fI p (.ins T.b a_ [("turns",.ref a),("rows",.ref b),("takes",.ref c),("gives",.ref d),("touched",.ref e)])) aJ.belts rs.length wv:=⟨Je,λv cv=>by
      obtain⟨ms,_,fY,fz⟩:=BY v cv;exact⟨ms,mO.keep _ _ (j_ _ _ fY) (by rw[FM];exact Jg _ (by rw[Ye (by omega)];exact qaa _)),fz⟩⟩
     generalize upd fI p (.ins T.b a_ [("turns",.ref a),("rows",.ref b),("takes",.ref c),("gives",.ref d),("touched",.ref e)])=fP at*;have ww:=q3.trans q5;have R9:=ww.keep _ _ ce (by simpa using sZ);have o6:=bV.off ww (λx aT z=>mK (by rw[←FM.mp z];exact aT));clear mO o' s1 wu;have R_:=wm.trans (wq.trans mM);have wx:=wq.trans (mM.trans q5);have BZ:=mM.trans q5;have B0:∀{s3:Hp}{cf:List (List (Int×Int))}{is:List Addr},d7 [p] s3 fP→LL s3 cf is→(∀x∈is,x≠p)→LL fP cf is:=λ{s3 cf is} f l n=>l.keep f.tups λx aT=>by
      cases q:s3 x with
      |none=>exact absurd q (l.dom x aT)
      |some o=>exact f.keep _ _ q (by simpa using n x aT)
     refine q fP ⟨a_,a,b,c,d,e,hT,id,wv,bs,s2,(wm.trans wx).keep _ _ wl (by simpa using jy.symm),wx.keep _ _ I_ (by simpa using jz.symm),fL.keep wx.tups,BZ.keep _ _ wr (by simpa using o9.symm),B0 BZ Ja BU,q5.keep _ _ Jc (by simpa using lN.symm),B0 q5 Jd BW,Jh,Ji⟩ (λx o aS a2=>ww.keep _ _ aS (by simpa using a2))
end
def Jj{K:Frag}{mg:Str→Option Value}(T:Tp K mg):Sp:=λvs H Q E=>∃(p d:Addr)(aJ:HM)(fp:List Addr)(f:Int→Int)(ms:List Int),vs=[.ref p,.ref d]∧dQ T H p aJ fp∧W5 aJ.names∧aJ.belts.length≤60∧H d=some (.dK (turnsK f ms))∧ms.Nodup∧ms.length≤30∧(∀m∈ms,0≤m∧m<(aJ.names.length:Int))∧(∀m∈ms,1≤f m)∧(ms.map f).sum≤1000∧
 ∀(bW:List Nat)(et:Nat→Nat),Fire.Y1 (mD (eI aJ.belts ms) (gF (eI aJ.belts ms)) (ms.map f)) (λ_=>0) bW et→(∀w,¬hS (eI aJ.belts ms) (gF (eI aJ.belts ms)) (ms.map f) et w)→
  ((bW.length:Int)<(ms.map f).sum→∀H',Ze H H'→E (.ref T.aL) none H')∧(¬(bW.length:Int)<(ms.map f).sum→∀(r:Addr)(H':Hp),H r=none→Ze H H'→H' r=some (.lst (bW.map λw=>V.int (ms.getD w 0)))→Q (.ref r) H')
section
variable {P:Program}{w:World}{K:Frag}{mg:Str→Option Value}{base:Heap}
theorem Jk(T:Tp K mg):OkN P w base 9 T.cM (Jj T):=by
 have Bx:=T.R;have By:=T.av;refine T.cM.F.okX sj (λvs H Q E h=>?_) (λdi A outer s H vs Q E a3 h=>?_)
 ·obtain⟨p,d,aJ,fp,f,ms,rfl,_⟩:=h
  rfl
 ·have hu:=a3.hu;obtain⟨p,d,aJ,fp,f,ms,rfl,bV,ij,km,hd,fg,o3,kn,nV,R',q⟩:=h;refine⟨_,(bR (dG (i:=2) sj.nd rfl (Or.inr rfl) (lm (y5 rfl) (by rfl) T.E qba (a6 (pv 1) bp)))
     (bR (dG (i:=3) sj.nd rfl (Or.inl rfl) (d8 T.cD (Ig T) a3 dw (a6 (pv 0) (a6 (pv 2) bp))))
     (bR (dG (i:=4) sj.nd rfl (Or.inl rfl) (hb (EK T.cL (I8 T) a3 T.b9 dw (a6 (pv 3) (a6 (F5 rfl (by rfl) T.E (pv 1)) bp))) T.R T.cF (Iu T) a3 dw (a6 (d8 T.cE (Ip T) a3 dw (a6 (pv 3) bp)) bp)))
     (bR (eU (eo m4 (ey (gM K) (by rfl) T.g qas (a6 (pv 4) bp)) (F7 rfl (by rfl) T.b7 (pv 1)) (ez _)) (cm (i1 T.bh.g T.bh.e qaq rfl (a6 Yu bp))) e7)
     (cm (dS (ly rfl (gL (x:="work") (zs:=["members"]) (ix:=[2]) (dh vw) ["hall","turns","members","inner","row"] rfl rfl (by decide+kernel)) (fW (K:=K) rfl (pv 4)) (λcl C s H fp=>⟨(d0 (i:=0) (show(["work","members"]:List Str).Nodup by decide+kernel) rfl (Or.inl rfl)),hG,(dF (ixk K) (pv 1) (pv 0) (λ_ _=>rfl))⟩)))))))),?_⟩
  try dsimp only[L2.cxX,L2.ZJ,L2.Zl]
  walk_at "rds";intro h6 q6;rw[ZgT];have a7:Ze H (upd H h6 (.lst (ms.map V.int))):=dH q6;have ht:(upd H h6 (.lst (ms.map V.int))) h6=some (.lst (ms.map V.int)):=Zd;generalize upd H h6 (.lst (ms.map V.int))=aU at*;walk_at "rds";refine⟨p,h6,aJ,fp,ms,rfl,bV.same a7,ht,ij,km,fg,o3,kn,λJl Jm a4 mw fe bK=>?_⟩;have ko:=a7.trans bK;have hX:=ko _ _ hd;have dx:=Zhr (ls:=aJ.belts) (ms:=ms);have kI:∀r∈ms.map f,1≤r:=λr a3=>by
   obtain⟨m,bo,rfl⟩:=qah.mp a3;exact nV m bo
  have Jn:((tot (ms.map f):Nat):Int)=(ms.map f).sum:=ZbJ λr a3=>(by have:=kI r a3;omega);walk_at "rds";refine⟨.ref d,rfl,d,_,rfl,.inl hX,λl h9=>?_⟩;rw[A'];have bM:Ze a4 (upd a4 l (.lst ((ms.map f).map V.int))):=dH h9;have sK:(upd a4 l (.lst ((ms.map f).map V.int))) l=some (.lst ((ms.map f).map V.int)):=Zd;generalize upd a4 l (.lst ((ms.map f).map V.int))=b_ at*;have B1:=mw.same bM;walk_at "rds";refine ZdM B1 sK (by simp) (by simp;omega) (by dsimp only;omega) λco cw jD hco c_=>?_;dsimp only at jD;have Jo:=B1.same c_;walk_at "rds";refine⟨Jl,_,Jm,rfl,Jo,by dsimp only;omega,λst b3 fa dt B2=>?_⟩;dsimp only at B2;have B3:=bM.trans (c_.trans dt);have q7:=ko.trans B3;walk_at "rds";refine⟨co,st,eI aJ.belts ms,ms.map f,gF (eI aJ.belts ms),rfl,jD.same dt,SqL.of B2,by simp[gF],by rw[GE];exact Zdx,by omega,by simp;omega,kI,by omega,λr dN bW et qU eB hr6' gS kX=>?_⟩;obtain⟨c8,dI⟩:=q bW et gS kX;have s4:=q7.trans eB;have iU:=(qK (oV gS)).2.2;have Sa:bW.length≤1000:=by omega
  have lU:=s4 _ _ hd;have kQ:(bW.map λw:Nat=>V.int w)=(bW.map λw:Nat=>(w:Int)).map V.int:=by rw[qbh];rfl
  rw[kQ] at hr6';have Jp:=SqL.of (K:=K) hr6';have p1:=(bK.trans (B3.trans eB)) _ _ ht;have Jq:=SqL.of (K:=K) p1;walk_at "rds";refine⟨.ref d,rfl,d,_,ms.map f,rfl,.inl lU,A' f ms,?_⟩;have mu:((bW.map λw:Nat=>(w:Int)).map V.int).length=bW.length:=by simp
  generalize (ms.map f).sum=q8 at*
  by_cases du:(bW.length:Int)<q8
  ·have Jr:(((bW.map λw:Nat=>(w:Int)).map V.int).length:Int)<q8:=by rw[mu];exact du
   walk_at "rds";exact c8 du _ s4
  ·have Jr:¬(((bW.map λw:Nat=>(w:Int)).map V.int).length:Int)<q8:=by rw[mu];exact du
   walk_at "rds";have Js:=ZkS (oV gS);refine YI (fR Jp) (eE (by rw[mu];omega)) (λ_=>true) (λi=> .int (ms.getD (bW.getD i 0) 0)) (λi H' dW hi bS k=>?_) (λi H' dW hi _ bS k=>?_) (λic ed hd2' bS q1=>?_)
   ·walk_at "rds";exact k H' (Ze.refl H')
   ·have dx:i<bW.length:=by rw[mu] at hi;exact hi
    have dZ:((bW.map λw:Nat=>(w:Int)).map V.int).getD i .non=V.int (bW[i]:Nat):=by simp[List.getD,dx]
    have qS:bW.getD i 0=bW[i]:=by simp[List.getD,dx]
    rw[dZ];rw[qS] at k;have hw:=Js bW[i] (qaa dx);rw[GE] at hw;generalize bW[i]=w at*;have fq:atI (ms.map V.int) (w:Int)=some (.int (ms.getD w 0)):=iS (by simp[List.getD,hw]);have nz:=bS.seq Jq;walk_at "rds";exact k H' (Ze.refl H')
   ·have kb:((List.range ((bW.map λw:Nat=>(w:Int)).map V.int).length).filter λ_=>true).map (λi=>V.int (ms.getD (bW.getD i 0) 0))=bW.map λw=>V.int (ms.getD w 0):=by
     rw[qaz.mpr λ_ _=>rfl,mu];refine qay (by simp) λi aS a2=>?_;have bU:i<bW.length:=by simpa using aS
     simp[List.getD,bU]
    rw[kb] at q1;exact dI du ic ed (f0 s4 hd2') (s4.trans bS) q1
end
def Jt{K:Frag}{mg:Str→Option Value}(T:Tp K mg):Sp:=λvs H Q E=>∃(p d e:Addr)(aJ:HM)(fp:List Addr)(f:Int→Int)(ms:List Int)(kv:List (Key×V))(pl:Int→Nat),vs=[.ref p,.ref d,.ref e]∧dQ T H p aJ fp∧aJ.belts.length≤60∧Rd H d (.dK (turnsK f ms))∧H e=some (.dK kv)∧(∀b∈aJ.belts,valV kv (Sum.inl b.giver)=some (V.int (pl b.giver))∧valV kv (Sum.inl b.taker)=some (V.int (pl b.taker)))∧(∀b∈aJ.belts,IntMulOk b.give (tvJ f ms b.giver)∧IntMulOk b.take (tvJ f ms b.taker))∧
 ∀(r:Addr)(H':Hp)(bs:List V),H r=none→Ze H H'→H' r=some (.lst bs)→fZ H' bs (lL f ms pl aJ.belts)→Q (.ref r) H'
section
variable {P:Program}{w:World}{K:Frag}{mg:Str→Option Value}{base:Heap}
theorem Ju(T:Tp K mg):OkN P w base 2 T.cN (Jt T):=by
 have f4:=T.a;have f5:=T.e;refine T.cN.F.okX qt (λvs H Q E h=>?_) (λdi A outer s H vs Q E a3 h=>?_)
 ·obtain⟨p,d,e,aJ,fp,f,ms,kv,pl,rfl,_⟩:=h
  rfl
 ·have hu:=a3.hu;obtain⟨p,d,e,aJ,fp,f,ms,kv,pl,rfl,bV,km,hd,bD,fN,Jv,q⟩:=h;refine⟨_,(bR (dG (i:=3) qt.nd rfl (Or.inl rfl) (hE bp))
     (bR (gh PassesOwn.leaving rfl (fW (K:=K) rfl (kK (pv 0) T.a T.bG (o2 T) a3 dw)) (d0 (i:=4) qt.nd rfl (Or.inl rfl)) (cm (eU (PW.pt (l4 (eo (qa hu) (dF (ixk K) (pv 4) bQ (λ_ _=>rfl)) (pv 1) (by with_unfolding_all rfl)) (mX (eo (qa hu) (dF (ixk K) (pv 4) bQ (λ_ _=>rfl)) (pv 1) (by with_unfolding_all rfl))))) (bR (dG (i:=5) qt.nd rfl (Or.inl rfl) (dE jP (dF (ixk K) (pv 4) bQ (λ_ _=>rfl)) (zO hu (pv 1) (dF (ixk K) (pv 4) bQ (λ_ _=>rfl)) bQ ⟨by rfl,by rfl,by rfl,by rfl⟩)))
     (bR (dG (i:=6) qt.nd rfl (Or.inl rfl) (dE jP (dF (ixk K) (pv 4) bQ (λ_ _=>rfl)) (zO hu (pv 1) (dF (ixk K) (pv 4) bQ (λ_ _=>rfl)) bQ ⟨by rfl,by rfl,by rfl,by rfl⟩)))
     (cm (fx (hn (K:=K) rfl qak qaC qaD iT (pv 3) (a6 (h8 (a6 (dF (ox hu) (pv 2) (dF (ixk K) (pv 4) bQ (λ_ _=>rfl)) (λ_ _=>rfl)) (a6 (dF (ox hu) (pv 2) (dF (ixk K) (pv 4) bQ (λ_ _=>rfl)) (λ_ _=>rfl)) (a6 (pv 5) (a6 (pv 6) (a6 (dF (ixk K) (pv 4) bQ (λ_ _=>rfl)) bp)))))) bp)))))) e7)))
     (cm (dS (pv 3))))),?_⟩
  try dsimp only[L2.cxX,L2.ZJ,L2.Zl]
  walk_at "rds";refine⟨qav _,λr fU=>?_⟩;have bK:Ze H (upd H r (.lst [])):=dH fU;have lO:(upd H r (.lst [])) r=some (.lst []):=Zd;generalize upd H r (.lst [])=a4 at*;have fh:=bV.same bK;walk_at "rds"
  try refine Ue fh ?_
  intro bl b_ bs kl bM hbl3 ik;have v':=ik.length;have Ih:=SqL.of (K:=K) hbl3;walk_at "rds";have ii:=bK.trans bM;have hy:=bM _ _ lO;have q9:e≠r:=λz=>by rw[z] at bD;rw[bD] at fU;cases fU
  have B4:d≠r:=λz=>by
   rw[z] at hd;rcases hd with h|⟨o,h⟩<;>(rw[h] at fU;cases fU)
  refine Yz (H0:=hid b_ r) (fR (SqL.of (K:=K) (show(hid b_ r) bl=some (.lst bs) by rw[Yj (λz=>by rw[z,lO] at kl;cases kl)];exact hbl3))) (λi σ H'=>Ze (hid b_ r) H'∧(∃d6 eF hK,σ=[some (.ref p),some (.ref d),some (.ref e),some (.ref r),d6,eF,hK])∧∃gQ,H' r=some (.lst gQ)∧fZ H' gQ (lL f ms pl (aJ.belts.take i))) ⟨j_,⟨_,_,_,rfl⟩,[],hy,.nil⟩ (λi σ H' h=>h.1) ?_ ?_
  ·rintro i σ cw hi ⟨c_,⟨d6,eF,hK,rfl⟩,gQ,gR,fL⟩;have dx:i<aJ.belts.length:=by omega
   obtain⟨t,eX,ce⟩:=ik.at (GT dx);have dZ:bs.getD i .non= .ref t:=by simp[List.getD,eX]
   rw[dZ];have jX:=c_ _ _ (yU hy _ _ ce);dsimp only[B5.v] at jX;have lV:cw e=some (.dK kv):=c_ _ _ (by rw[Yj q9];exact ii _ _ bD);have hB:L2.Rd cw d (.dK (turnsK f ms)):=hd.imp (λh=>c_ _ _ (by rw[Yj B4];exact ii _ _ h)) λ⟨o,h⟩=>⟨o,c_ _ _ (by rw[Yj B4];exact ii _ _ h)⟩;have mH:lL f ms pl (aJ.belts.take (i+1))=lL f ms pl (aJ.belts.take i)++(if inT ms aJ.belts[i]=true then[] else[joB f ms pl aJ.belts[i]]):=by
    unfold lL;rw[qac dx,qcc,qaG]
    congr 1
    by_cases h:inT ms aJ.belts[i]=true
    ·rw[if_pos h];simp[h]
    ·rw[if_neg h];simp[h]
   rw[mH];have hp:gQ.length≤60:=by
    have aS:=fL.length;have a2:(lL f ms pl (aJ.belts.take i)).length≤aJ.belts.length:=by
     unfold lL;rw[GE];exact qat (qaU _ _) (by rw[qaI];omega)
    omega
   have q_:=qaa dx;obtain⟨gc,iR⟩:=fN _ q_;obtain⟨hD,il⟩:=Jv _ q_;generalize aJ.belts[i]=dv at*;walk_at "rds";refine⟨d,_,rfl,.inl ⟨_,Sum.inl dv.giver,hB,rfl,rfl⟩,?_⟩;have Jw:inT ms dv=true∨inT ms dv=false:=by cases inT ms dv<;>simp
   rcases Jw with fe|fe
   ·have bc:dv.giver∈ms∧dv.taker∈ms:=by simpa[inT] using fe
    rw[ZdW,decide_eq_true bc.1,qb8,fe];walk_at "rds";refine⟨d,_,rfl,.inl ⟨_,Sum.inl dv.taker,hB,rfl,rfl⟩,?_⟩;rw[ZdW,decide_eq_true bc.2,qb8];walk_at "rds";exact⟨c_,⟨_,_,_,rfl⟩,gQ,gR,by simpa using fL⟩
   have ht:(valV (turnsK f ms) (Sum.inl dv.giver)).getD (.int 1)= .int (tvJ f ms dv.giver):=by rw[Zkv];unfold tvJ;split<;>rfl
   have lO:(valV (turnsK f ms) (Sum.inl dv.taker)).getD (.int 1)= .int (tvJ f ms dv.taker):=by rw[Zkv];unfold tvJ;split<;>rfl
   rw[fe,if_neg (by decide)]
   by_cases bc:dv.giver∈ms
   case' pos=>
    have ce:dv.taker∉ms:=λz=>by simp[inT,bc,z] at fe
    rw[ZdW,decide_eq_true bc,qb8];walk_at "rds";refine⟨d,_,rfl,.inl ⟨_,Sum.inl dv.taker,hB,rfl,rfl⟩,?_⟩;rw[ZdW,decide_eq_false ce,Bool.not_false];walk_at "rds"
   case' neg=>
    rw[ZdW,decide_eq_false bc,Bool.not_false];walk_at "rds"
   all_goals
    refine⟨.ref d,rfl,d,rfl,.inl ⟨_,hB⟩,?_⟩;walk_at "rds";refine⟨_,.inl ⟨_,Sum.inl dv.giver,hB,rfl,rfl⟩,?_⟩;rw[ht];walk_at "rds";refine⟨.ref d,rfl,d,rfl,.inl ⟨_,hB⟩,?_⟩;walk_at "rds";refine⟨_,.inl ⟨_,Sum.inl dv.taker,hB,rfl,rfl⟩,?_⟩;rw[lO];walk_at "rds";refine⟨by show 5≤sizeLine;decide,λu g5=>?_⟩;have dt:Ze cw (upd cw u (.tup (joB f ms pl dv).v)):=dH g5;have wy:(upd cw u (.tup (joB f ms pl dv).v)) u=some (.tup (joB f ms pl dv).v):=Zd
    change tNil _ (upd cw u (.tup (joB f ms pl dv).v)) _
    generalize upd cw u (.tup (joB f ms pl dv).v)=b3 at*;have lR:=dt _ _ gR;have Il:gQ.length<sizeLine:=eE (by omega);walk_at "rds";have f3:d7 [r] b3 (upd b3 r (.lst (gQ++ [V.ref u]))):=h0 (by simp) lR (by intro _ z;cases z);exact⟨(c_.trans dt).new ot,⟨_,_,_,rfl⟩,_,Zd,((fL.keep λb xs e=>dt _ _ e).keep f3.tups).snoc (f3.tups _ _ wy)⟩
  ·rintro σ cw ⟨c_,⟨d6,eF,hK,rfl⟩,gQ,gR,fL⟩;rw[v',qaB] at fL;walk_at "rds";refine q r cw gQ fU (λb o aN=>c_ _ _ ?_) gR fL;rw[Yj (λz=>by rw[z,fU] at aN;cases aN)];exact ii _ _ aN
end
def Jx{K:Frag}{mg:Str→Option Value}(T:Tp K mg):Sp:=λvs H Q _=>∃(p:Addr)(aJ:HM)(fp:List Addr),vs=[.ref p]∧dQ T H p aJ fp∧aJ.names.length≤1000∧aJ.belts.length≤1000∧ZU aJ.belts aJ.names.length∧
 ∀(r:Addr)(db:List Addr)(H':Hp),H r=none→Ze H H'→ZbG H' r db aJ.names.length (fJ aJ.belts)→Q (.ref r) H'
section
variable {P:Program}{w:World}{K:Frag}{mg:Str→Option Value}{base:Heap}
theorem Jy(T:Tp K mg):OkN P w base 2 T.cO (Jx T):=by
 have f4:=T.a;have f5:=T.e;refine T.cO.F.okX sk (λvs H Q E h=>?_) (λdi A outer s H vs Q E a3 h=>?_)
 ·obtain⟨p,aJ,fp,rfl,_⟩:=h
  rfl
 ·have hu:=a3.hu;obtain⟨p,aJ,fp,rfl,bV,bF,hz,eA,q⟩:=h;refine⟨_,(bR (uQ (j:=1) (xs:=["name"]) rfl (gL (x:="name") (zs:=[]) (ix:=[]) (dh vx) ["hall","ways","belt","row"] rfl rfl (by decide+kernel)) (fW (K:=K) rfl (kK (pv 0) T.a T.cb (sN T) a3 dw)) (λcl C s H fp=>⟨(d0 (i:=0) (show(["name"]:List Str).Nodup by decide+kernel) rfl (Or.inl rfl)),hG,(hE bp)⟩) sk.nd rfl (Or.inl rfl))
     (bR (gh PassesOwn.leaving rfl (qd (K:=K) rfl rfl T.k (a6 (kK (pv 0) T.a T.bG (o2 T) a3 dw) bp)) (jS (K:=K) (n:=2) rfl rfl (f8 (d0 (i:=2) sk.nd rfl (Or.inl rfl)) (f8 (d0 (i:=3) sk.nd rfl (Or.inl rfl)) jI))) (bR (fx (hn (K:=K) rfl qak qaC qaD iT (dF (ixk K) (pv 1) (dF (ixk K) (pv 3) bQ (λ_ _=>rfl)) (λ_ _=>rfl)) (a6 (h8 (a6 (dF (ixk K) (pv 3) bQ (λ_ _=>rfl)) (a6 (pv 2) (a6 VZ bp)))) bp)))
     (cm (fx (hn (K:=K) rfl qak qaC qaD iT (dF (ixk K) (pv 1) (dF (ixk K) (pv 3) bQ (λ_ _=>rfl)) (λ_ _=>rfl)) (a6 (h8 (a6 (dF (ixk K) (pv 3) bQ (λ_ _=>rfl)) (a6 (pv 2) (a6 VZ bp)))) bp))))))
     (cm (dS (pv 1))))),?_⟩
  try dsimp only[L2.cxX,L2.ZJ,L2.Zl]
  walk_at "rds";refine⟨p,aJ,fp,rfl,bV,λnm aU ij a7 wz=>?_⟩;walk_at "rds";refine ZhV (own:=1) (fR (SqL.of wz)).y (eE (by rw[GE];exact bF)) (λi=>[some ((aJ.names.map V.str).getD i .non)]) (λ_=>rfl) (λi er H' v a4 ib hi bS y Jz k=>?_) (λi H' dW hi bS k=>?_) (λr a4 db a3 bK je dx fg lD=>?_)
  ·obtain⟨rfl,rfl⟩:=y;obtain⟨x1,rfl⟩:∃x1,er=[x1]:=by
    match er,Jz with
    | [x1],_=>exact⟨x1,rfl⟩
   walk_at "rds";exact k _ (Ze.refl _)
  ·exact k
  rw[GE] at dx;have iN:=a7.trans bK;have fh:=bV.same iN;have fF:H r=none:=f0 a7 a3;have B6:∀x∈db,H x=none:=λx aT=>f0 a7 (lD x aT).1;have B7:∀x∈db,r≠x:=λx aT z=>(lD x aT).2.1 z.symm;walk_at "rds";intro u b_ bs jd bM lP ek;have kl:=ek.length;have B8:∀x∈db,u≠x:=λx aT z=>by
   have:=(lD x aT).2.2;rw[←z,jd] at this;cases this
  walk_at "rds";refine WY (qe (SqL.of (p_ (q:=u) (o:= .lst bs)))) (λk σ H'=>∃(a1 dj:Option V),σ=[some (.ref p),some (.ref r),a1,dj]∧Ze H H'∧H' u=some (.lst bs)∧H' r=some (.lst (db.map V.ref))∧fZ H' bs aJ.belts∧WA H' db (ke aJ.belts k)∧∀(j:Nat)(h:j<db.length) vs,H' db[j]=some (.lst vs)→vs.length≤2*k)
   ⟨_,_,rfl,iN.trans bM,lP,bM _ _ je,ek,λj bj=>⟨[],bM _ _ (lD _ (qaa bj)).2.2,.nil⟩,λj bj vs e=>?_⟩ ?_ ?_ ?_
  ·rw[bM _ _ (lD _ (qaa bj)).2.2] at e;cases e;exact qav _
  ·rintro k σ H' ⟨_,_,_,_,h,_⟩;exact V8 h
  ·rintro k σ cw v b3 a5 ⟨a1,dj,rfl,c_,kW,gR,fL,q',hsz⟩ ⟨t,ce,rfl,rfl⟩;have hN:k<aJ.belts.length:=by omega
   obtain⟨ff,g1,gj,mc⟩:=eA.at hN;obtain⟨dy,jr,vJ⟩:=fL.getD hN;rw[jr];refine Rd.VO (.of Zd) rfl ?_;have dt:Ze cw (upd cw t (.tup [.int k,.ref dy])):=dH ce;generalize upd cw t (.tup [.int k,.ref dy])=b3 at*;have JA:∀j:Int,ke aJ.belts (k+1) j=(ke aJ.belts k j++(if(aJ.belts.getD k dB).giver=j then[((aJ.belts.getD k dB).taker,(k:Int),true)] else[]))++(if(aJ.belts.getD k dB).taker=j then[((aJ.belts.getD k dB).giver,(k:Int),false)] else[]):=λj=>by
    rw[ZgS,nD,List.append_assoc]
   generalize aJ.belts.getD k dB=b at*;have B9:=dt _ _ vJ;dsimp only[B5.v] at B9;have lR:=dt _ _ gR;have wA:=q'.same dt;have gn:b.giver.toNat<db.length:=by omega
   have ei:b.taker.toNat<db.length:=by omega
   have Sb:=Zdy ff gn;have Sc:=Zdy gj ei;have fy:((b.giver.toNat:Nat):Int)=b.giver:=qbc ff;have eX:((b.taker.toNat:Nat):Int)=b.taker:=qbc gj;obtain⟨vs,nW,JB⟩:=wA b.giver.toNat gn;have wB:∀(j:Nat)(h:j<db.length) vs,b3 db[j]=some (.lst vs)→vs.length≤2*k:=λj bj us e=>by
    obtain⟨B_,aS,_⟩:=q' j bj;have:=dt _ _ aS;rw[e] at this;cases this;exact hsz j bj _ aS
   have Sd:vs.length<sizeLine:=vE (by have:=wB _ gn _ nW;omega);walk_at "rds";refine⟨by show 3≤sizeLine;decide,λec fK=>?_⟩;have eB:Ze b3 (upd b3 ec (.tup [.int b.taker,.int k,.bl true])):=dH fK;have ws:(upd b3 ec (.tup [.int b.taker,.int k,.bl true])) ec=some (.tup [.int b.taker,.int k,.bl true]):=Zd;generalize upd b3 ec (.tup [.int b.taker,.int k,.bl true])=dN at*;have B':=eB _ _ nW;walk_at "rds";have wC:=(wA.same eB).add fg gn B' (JB.keep λ_ _ e=>eB _ _ e) (x:=(b.taker,(k:Int),true)) ws;have JC:r≠db[b.giver.toNat]:=B7 _ (qaa gn);have JD:u≠db[b.giver.toNat]:=B8 _ (qaa gn);have nR:(upd dN db[b.giver.toNat] (.lst (vs++ [.ref ec]))) r=some (.lst (db.map V.ref)):=by rw[b2 JC];exact eB _ _ lR
   have JE:(upd dN db[b.giver.toNat] (.lst (vs++ [.ref ec]))) u=some (.lst bs):=by rw[b2 JD];exact eB _ _ (dt _ _ kW)
   have lW:∀c xs,dN c=some (.tup xs)→(upd dN db[b.giver.toNat] (.lst (vs++ [.ref ec]))) c=some (.tup xs):=λc xs e=>by rw[b2 (gT e B' (by intro z;cases z))];exact e
   have mP:=lW _ _ (eB _ _ B9);have wD:fZ (upd dN db[b.giver.toNat] (.lst (vs++ [.ref ec]))) bs aJ.belts:=((fL.keep λ_ _ e=>dt _ _ e).keep λ_ _ e=>eB _ _ e).keep lW;have JF:Ze H (upd dN db[b.giver.toNat] (.lst (vs++ [.ref ec]))):=((c_.trans dt).trans eB).new (B6 _ (qaa gn));have wE:∀(j:Nat)(h:j<db.length) us,(upd dN db[b.giver.toNat] (.lst (vs++ [.ref ec]))) db[j]=some (.lst us)→us.length≤2*k+1:=λj bj us e=>by
    by_cases z:j=b.giver.toNat
    ·subst z;rw[Zd] at e;cases e;have:=wB _ gn _ nW;simp;omega
    ·have ne:db[j]≠db[b.giver.toNat]:=λy=>z (qw fg bj gn y);rw[b2 ne] at e;obtain⟨B_,aS,_⟩:=wA j bj;have:=eB _ _ aS;rw[e] at this;cases this;have:=wB j bj _ aS;omega
   generalize upd dN db[b.giver.toNat] (.lst (vs++ [.ref ec]))=ed at*;obtain⟨us,sH,Bd⟩:=wC b.taker.toNat ei;have Se:us.length<sizeLine:=vE (by have:=wE _ ei _ sH;omega);walk_at "rds";refine⟨by show 3≤sizeLine;decide,λka iL=>?_⟩;have gi:Ze ed (upd ed ka (.tup [.int b.giver,.int k,.bl false])):=dH iL;have BX:(upd ed ka (.tup [.int b.giver,.int k,.bl false])) ka=some (.tup [.int b.giver,.int k,.bl false]):=Zd;generalize upd ed ka (.tup [.int b.giver,.int k,.bl false])=e5 at*;have Ca:=gi _ _ sH;walk_at "rds";have Cb:=(wC.same gi).add fg ei Ca (Bd.keep λ_ _ e=>gi _ _ e) (x:=(b.giver,(k:Int),false)) BX;have JG:r≠db[b.taker.toNat]:=B7 _ (qaa ei);have JH:u≠db[b.taker.toNat]:=B8 _ (qaa ei);have JI:∀c xs,e5 c=some (.tup xs)→(upd e5 db[b.taker.toNat] (.lst (us++ [.ref ka]))) c=some (.tup xs):=λc xs e=>by rw[b2 (gT e Ca (by intro z;cases z))];exact e
   refine⟨_,_,rfl,(JF.trans gi).new (B6 _ (qaa ei)),by rw[b2 JH];exact gi _ _ JE,by rw[b2 JG];exact gi _ _ nR,(wD.keep λ_ _ e=>gi _ _ e).keep JI,?_,λj bj bW e=>?_⟩
   ·have JJ:(λj=>(λj=>ke aJ.belts k j++(if((b.giver.toNat:Nat):Int)=j then[(b.taker,(k:Int),true)] else[])) j++(if((b.taker.toNat:Nat):Int)=j then[(b.giver,(k:Int),false)] else[]))=ke aJ.belts (k+1):=by
     funext j
     rw[JA j,fy,eX]
    rw[JJ] at Cb;exact Cb
   ·by_cases z:j=b.taker.toNat
    ·subst z;rw[Zd] at e;cases e;have:=wE _ ei _ sH;simp;omega
    ·have ne:db[j]≠db[b.taker.toNat]:=λy=>z (qw fg bj ei y);rw[b2 ne] at e;obtain⟨B_,aS,_⟩:=wC j bj;have:=gi _ _ aS;rw[e] at this;cases this;have:=wE j bj _ aS;omega
  ·rintro σ cw ⟨a1,dj,rfl,c_,kW,gR,fL,q',hsz⟩;rw[kl] at q';walk_at "rds";exact q r db cw fF c_ ⟨gR,dx,fg,q'⟩
end
def JK{K:Frag}{mg:Str→Option Value}(T:Tp K mg):Sp:=λvs H Q _=>∃(r:Addr)(db:List Addr)(n:Nat)(W:Int→List Fo.Trip)(first:Int),vs=[.ref r,.int first]∧ZbG H r db n W∧n≤1000∧(∀a,∀t∈W a,0≤t.1∧t.1<(n:Int))∧0≤first∧first<(n:Int)∧
 ∀(d:Addr)(H':Hp)(bn:Fo.ZH),H d=none→Ze H H'→Vd H' d bn→Fo.Z1 W first bn→Fo.Ug W bn bn.length→Q (.ref d) H'
section
variable {P:Program}{w:World}{K:Frag}{mg:Str→Option Value}{base:Heap}
theorem JL(T:Tp K mg):OkN P w base 1 T.cP (JK T):=by
 refine T.cP.F.okX lI (λvs H Q E h=>?_) (λdi A outer s H vs Q E a3 h=>?_)
 ·obtain⟨r,db,n,W,first,rfl,_⟩:=h
  rfl
 ·have hu:=a3.hu;obtain⟨r,db,n,W,first,rfl,hw,bF,o1,ef,f1,q⟩:=h;have dx:=hw.len;refine⟨_,(bR (dG (i:=2) lI.nd rfl (Or.inl rfl) (Eh (Ef (pv 1) Wi Zml) rfl rfl (by simp) (by decide)))
     (bR (dG (i:=3) lI.nd rfl (Or.inl rfl) (hE (a6 (pv 1) bp)))
     (bR (dG (i:=4) lI.nd rfl (Or.inl rfl) bQ)
     (bR (pw PassesOwn.leaving (eo m4 (pv 4) (ey (gM K) (by rfl) T.g qas (a6 (pv 3) bp)) (ez _)) (bR (dG (i:=5) lI.nd rfl (Or.inl rfl) (dF (ixk K) (pv 3) (pv 4) (λ_ _=>rfl)))
     (bR (ya (i:=4) lI.nd rfl (Or.inl rfl) bQ tM)
     (cm (gh PassesOwn.leaving rfl (fW (K:=K) rfl (dF (ixk K) (pv 0) (pv 5) (λ_ _=>rfl))) (jS (K:=K) (n:=3) rfl rfl (f8 (d0 (i:=6) lI.nd rfl (Or.inl rfl)) (f8 (d0 (i:=7) lI.nd rfl (Or.inl rfl)) (f8 (d0 (i:=8) lI.nd rfl (Or.inl rfl)) jI)))) (cm (eU (eo (qa hu) (pv 6) (pv 2) (by with_unfolding_all rfl)) (bR (kA (h8 (a6 (pv 5) (a6 (pv 7) (a6 (pv 8) bp)))) (lb (pv 2) (pv 6) (nl hu)))
     (cm (fx (hn (K:=K) rfl qak qaC qaD iT (pv 3) (a6 (pv 6) bp))))) e7)))))))
     (cm (dS (pv 2))))))),?_⟩
  try dsimp only[L2.cxX,L2.ZJ,L2.Zl]
  walk_at "rds";intro d hd;dsimp only[rN];walk_at "rds";refine⟨Zd,[(Sum.inl first,.non)],rfl,by simp,?_⟩;have mQ:(upd (upd H d (.dK [])) d (.dK (gY [] [(Sum.inl first,.non)]))) d=some (.dK [(Sum.inl first,.non)]):=Zd;have a7:Ze H (upd (upd H d (.dK [])) d (.dK (gY [] [(Sum.inl first,.non)]))):=(dH hd).new hd;generalize upd (upd H d (.dK [])) d (.dK (gY [] [(Sum.inl first,.non)]))=aU at*;walk_at "rds";refine(λc a8=>?_);have bK:Ze aU (upd aU c (.lst [V.int first])):=dH a8;have rG:(upd aU c (.lst [V.int first])) c=some (.lst ((Fo.keys [(first,none)]).map V.int)):=Zd;have hX:=bK _ _ mQ;have mL:H c=none:=f0 a7 a8;have Cc:c≠d:=λz=>by rw[z,mQ] at a8;cases a8
  generalize upd aU c (.lst [V.int first])=a4 at*;have ko:=a7.trans bK;have fK:Vd a4 d [(first,none)]:=⟨_,hX,.cons ⟨rfl,rfl⟩ .nil⟩;clear mQ hX a7 bK a8;walk_at "rds";refine Za9 (λm σ H'=>∃(bn:Fo.ZH)(et:Nat)(a1 dj dM d6:Option V),σ=[some (.ref r),some (.int first),some (.ref d),some (.ref c),some (.int et),a1,dj,dM,d6]∧Ze H H'∧Vd H' d bn∧H' c=some (.lst ((Fo.keys bn).map V.int))∧et≤bn.length∧Fo.Z1 W first bn∧Fo.Ug W bn et∧m=n+1-et) (n+1)
   ⟨[(first,none)],0,_,_,_,_,rfl,ko,fK,rG,qav _,Fo.ZjC,λj w s bj=>absurd bj (qa0 _),rfl⟩ ?_
  rintro m σ b_ ⟨bn,et,a1,dj,dM,d6,rfl,bM,iL,wF,nX,bc,jg,rfl⟩;have hN:((Fo.keys bn).map V.int).length=bn.length:=by simp[Fo.keys]
  have JN:bn.length≤n:=by
   have:=Fo.UR (n:=n) bc.nodup (bc.rg ⟨ef,f1⟩ o1);simpa[Fo.keys] using this
  walk_at "rds";rw[hN];refine Rd.ifD (λz=>?_) (λz=>?_)
  ·have lF:et<bn.length:=by omega
   obtain⟨⟨w,st⟩,gX⟩:∃x,bn[et]? =some x:=⟨bn[et],GT lF⟩;have JO:=Fo.Wx gX;obtain⟨f_,g8⟩:=bc.rg ⟨ef,f1⟩ o1 w JO;have sR:atI ((Fo.keys bn).map V.int) (et:Int)=some (.int w):=iS (by rw[qaj];unfold Fo.keys;rw[qaj,gX];rfl);have iU:w.toNat<db.length:=by omega
   have Sf:=Zdy f_ iU;have wG:=hw.same bM;have JP:=wG.at_;obtain⟨vs,s5,nW⟩:=hw.wa w.toNat iU;rw[qbc f_] at nW;have Sg:=bM _ _ s5;have zL:=nW.length;refine pS ?_;walk_at "rds";refine⟨_,rfl,?_⟩;walk_at "rds";refine Yz (fR (SqL.of s5)) (λj σ H'=>∃(bn:Fo.ZH)(dj dM d6:Option V),σ=[some (.ref r),some (.int first),some (.ref d),some (.ref c),some (.int (et+1)),some (.int w),dj,dM,d6]∧Ze H H'∧Vd H' d bn∧H' c=some (.lst ((Fo.keys bn).map V.int))∧Fo.Z1 W first bn∧Fo.Ug W bn et∧bn[et]? =some (w,st)∧∀t∈(W w).take j,t.1∈Fo.keys bn)
    ⟨bn,_,_,_,rfl,bM,iL,wF,bc,jg,gX,by simp⟩ (λj σ H' ⟨_,_,_,_,_,s,_⟩=>s) ?_ ?_
   ·rintro j σ cw bj ⟨bn,dj,dM,d6,rfl,c_,⟨kvs,hB,g7⟩,jD,bc,jg,gX,jN⟩;have i3:j<(W w).length:=by omega
    obtain⟨t,h3,jX⟩:=nW.at (GT i3);have dJ:vs.getD j .non= .ref t:=by simp[List.getD,h3]
    rw[dJ];have nw:(W w)[j]∈W w:=qaa i3;have gw:(W w).take (j+1)=(W w).take j++ [(W w)[j]]:=qac i3;have o4:=c_ _ _ jX;have Sh:=o1 w _ nw;generalize (W w)[j]=x at*;obtain⟨o,b,al⟩:=x;refine Rd.VO (.of o4) rfl ?_;dsimp only at*;have JN:bn.length≤n:=by
     have:=Fo.UR (n:=n) bc.nodup (bc.rg ⟨ef,f1⟩ o1);simpa[Fo.keys] using this
    have lX:kvs.length<sizeLine:=eE (by rw[g7.length];omega);have Si:((Fo.keys bn).map V.int).length<sizeLine:=eE (by simp[Fo.keys];omega);walk_at "rds";have hs:=g7.some (w:=o)
    by_cases bz:o∈Fo.keys bn
    ·rw[hs.mpr bz];walk_at "rds";refine⟨bn,_,_,_,rfl,c_,⟨kvs,hB,g7⟩,jD,bc,jg,gX,?_⟩;rw[gw];intro t' jV;rcases qax.mp jV with y|y
     ·exact jN t' y
     ·rw[FM.mp y];exact bz
    ·have hj:valV kvs (Sum.inl o)=none:=by
      cases e:valV kvs (Sum.inl o) with
      |none=>rfl
      |some v=>exact absurd (hs.mp (by rw[e];rfl)) bz
     rw[hj,Option.isSome_none];walk_at "rds";refine⟨by show 3≤sizeLine;decide,λec fK=>?_⟩;have dt:Ze cw (upd cw ec (.tup [.int w,.int b,.bl al])):=dH fK;have JQ:(upd cw ec (.tup [.int w,.int b,.bl al])) ec=some (.tup [.int w,.int b,.bl al]):=Zd;have jY:=dt _ _ hB;have s0:=dt _ _ jD;have JR:Ent (upd cw ec (.tup [.int w,.int b,.bl al])) kvs bn:=g7.keep λ_ _ e=>dt _ _ e;generalize upd cw ec (.tup [.int w,.int b,.bl al])=b3 at*;walk_at "rds";rw[ZaC _ hj];have ra:∀a xs,b3 a=some (.tup xs)→(upd b3 d (.dK (kvs++ [(Sum.inl o,.ref ec)]))) a=some (.tup xs):=λa xs e=>by rw[b2 (gT e jY (by intro z;cases z))];exact e
     have wr:(upd b3 d (.dK (kvs++ [(Sum.inl o,.ref ec)]))) c=some (.lst ((Fo.keys bn).map V.int)):=by rw[b2 Cc];exact s0
     have lU:(upd b3 d (.dK (kvs++ [(Sum.inl o,.ref ec)]))) d=some (.dK (kvs++ [(Sum.inl o,.ref ec)])):=Zd;have wH:=(JR.keep ra).snoc (w:=o) (v:= .ref ec) (s:=some (w,b,al)) ⟨ec,rfl,ra _ _ JQ⟩;have eB:Ze H (upd b3 d (.dK (kvs++ [(Sum.inl o,.ref ec)]))):=(c_.trans dt).new hd;generalize upd b3 d (.dK (kvs++ [(Sum.inl o,.ref ec)]))=dN at*;walk_at "rds";have Cd:=(GM.mp gX).1;refine⟨bn++ [(o,some (w,b,al))],_,_,_,rfl,eB.new mL,⟨_,by rw[b2 Cc.symm];exact lU,wH.keep λa xs e=>by rw[b2 (gT e wr (by intro z;cases z))];exact e⟩,?_,bc.snoc gX nw bz,jg.snoc (by omega) _ _,Fo.ZbO gX,?_⟩
     ·rw[Zd,Fo.UY,qaG];rfl
     ·rw[gw,Fo.UY];intro t' jV;rcases qax.mp jV with y|y
      ·exact qa5 _ (jN t' y)
      ·rw[FM.mp y];exact qar _ (FM.mpr rfl)
   ·rintro σ cw ⟨bn,dj,dM,d6,rfl,c_,jX,jD,bc,jg,gX,jN⟩;rw[←zL,qaB] at jN;have Cd:=(GM.mp gX).1;walk_at "rds";exact⟨n+1-(et+1),by omega,bn,et+1,_,_,_,_,rfl,c_,jX,jD,Cd,bc,jg.next gX jN,rfl⟩
  ·have e:et=bn.length:=by omega
   subst e;walk_at "rds";exact q d b_ bn hd bM iL bc jg
end
def JS{K:Frag}{mg:Str→Option Value}(T:Tp K mg):Sp:=λvs H Q _=>∃(p:Addr)(aJ:HM)(fp:List Addr),vs=[.ref p]∧dQ T H p aJ fp∧aJ.names.length≤60∧aJ.belts.length≤1000∧ZU aJ.belts aJ.names.length∧
 ∀(f:Addr)(b4:List Addr)(H':Hp)(F:List (Int×Fo.ZH)),H f=none→Ze H H'→Zkm H' f b4 F→(∀d∈b4,H d=none)→Fo.WQ (fJ aJ.belts) aJ.names.length F aJ.names.length→F.length≤aJ.names.length→Q (.ref f) H'
section
variable {P:Program}{w:World}{K:Frag}{mg:Str→Option Value}{base:Heap}
theorem JT(T:Tp K mg):OkN P w base 3 T.cQ (JS T):=by
 refine T.cQ.F.okX oO (λvs H Q E h=>?_) (λdi A outer s H vs Q E a3 h=>?_)
 ·obtain⟨p,aJ,fp,rfl,_⟩:=h
  rfl
 ·have hu:=a3.hu;obtain⟨p,aJ,fp,rfl,bV,bF,hz,eA,q⟩:=h;refine⟨_,(bR (dG (i:=1) oO.nd rfl (Or.inl rfl) (d8 T.cO (Jy T) a3 dw (a6 (pv 0) bp)))
     (bR (dG (i:=2) oO.nd rfl (Or.inl rfl) pP)
     (bR (dG (i:=3) oO.nd rfl (Or.inl rfl) (hE bp))
     (bR (gh PassesOwn.leaving rfl (l6 rfl T.q (a6 (ey (gM K) (by rfl) T.g qas (a6 (pv 1) bp)) bp)) (d0 (i:=4) oO.nd rfl (Or.inl rfl)) (cm (eU (eo (qa hu) (pv 4) (pv 2) (by with_unfolding_all rfl)) (bR (dG (i:=5) oO.nd rfl (Or.inl rfl) (d8 T.cP (JL T) a3 dw (a6 (pv 1) (a6 (pv 4) bp))))
     (bR (fx (hn (K:=K) rfl qbk PySem.F.slot_dict_update PySem.F.type_dict_update EN (pv 2) (a6 (pv 5) bp)))
     (cm (fx (hn (K:=K) rfl qak qaC qaD iT (pv 3) (a6 (pv 5) bp)))))) e7)))
     (cm (dS (pv 3))))))),?_⟩
  try dsimp only[L2.cxX,L2.ZJ,L2.Zl]
  walk_at "rds";refine⟨p,aJ,fp,rfl,bV,by omega,hz,eA,λr db aU a3 a7 kU=>?_⟩;walk_at "rds";intro h4 hse;have bK:Ze aU (upd aU h4 (.dK [])):=dH hse;have j4:(upd aU h4 (.dK [])) h4=some (.dK []):=Zd;have Sj:H h4=none:=f0 a7 hse;generalize upd aU h4 (.dK [])=a4 at*;walk_at "rds";refine⟨qav _,λf bv=>?_⟩;have bM:Ze a4 (upd a4 f (.lst [])):=dH bv;have hx:(upd a4 f (.lst [])) f=some (.lst (([]:List Addr).map V.ref)):=Zd;have JU:=bM _ _ j4;have nV:aU f=none:=f0 bK bv;have Ce:H f=none:=f0 a7 nV;generalize upd a4 f (.lst [])=b_ at*;have ks:=bK.trans bM;have wG:=kU.same ks;have JP:=wG.at_;have iU:((db.map V.ref).length:Int)=(aJ.names.length:Int):=by rw[GE,kU.len]
  walk_at "rds";rw[iU];refine U5 (n:=aJ.names.length) (λi σ H'=>∃(kvs:List (Key×V))(b4:List Addr)(F:List (Int×Fo.ZH))(a1 dj:Option V),σ=[some (.ref p),some (.ref r),some (.ref h4),some (.ref f),a1,dj]∧Ze aU H'∧H' h4=some (.dK kvs)∧H' f=some (.lst (b4.map V.ref))∧hP H' b4 F∧
   (∀d∈b4,d≠h4∧H d=none)∧kvs.length≤60*i∧(∀w:Int,(valV kvs (Sum.inl w)).isSome=true↔∃x∈F,w∈Fo.keys x.2)∧Fo.WQ (fJ aJ.belts) aJ.names.length F i∧F.length≤i)
   ⟨[],[],[],_,_,rfl,ks,JU,hx,.nil,by simp,qav _,λw=>⟨λz=>(by cases z),λ⟨x,aT,_⟩=>(by cases aT)⟩,Fo.Zkn,fm _⟩ ?_ ?_
  ·rintro i σ cw hi ⟨kvs,b4,F,a1,dj,rfl,c_,s6,jB,fL,kE,hN,fe,fw,s7⟩;rw[qbW];walk_at "rds";have hs:=fe (i:Int)
   by_cases aT:∃x∈F,(i:Int)∈Fo.keys x.2
   ·rw[hs.mpr aT];walk_at "rds";exact⟨kvs,b4,F,_,_,rfl,c_,s6,jB,fL,kE,by omega,fe,fw.skip aT,by omega⟩
   ·have hj:(valV kvs (Sum.inl (i:Int))).isSome=false:=by
     cases e:(valV kvs (Sum.inl (i:Int))).isSome with
     |false=>rfl
     |true=>exact absurd (hs.mp e) aT
    rw[hj];walk_at "rds";refine⟨r,db,aJ.names.length,fJ aJ.belts,(i:Int),rfl,kU.same c_,by omega,nE eA,by omega,by omega,λd b3 bn nU dt o4 bc jg=>?_⟩;obtain⟨more,jY,g7⟩:=id o4;have wI:h4≠d:=d9 s6 nU;have s8:=dt _ _ s6;have kk:=dt _ _ jB;have qT:=fL.same dt;have JV:=bc.rg (n:=(aJ.names.length:Int)) ⟨by omega,by omega⟩ (nE eA);have qA:bn.length≤aJ.names.length:=by
     have:=Fo.UR (n:=aJ.names.length) bc.nodup JV;simpa[Fo.keys] using this
    have lH:more.length≤60:=by rw[g7.length];omega
    walk_at "rds";refine⟨.inr (.inr (.inl ⟨rfl,.inl ⟨_,s8⟩⟩)),?_⟩;walk_at "rds";refine Rd.Zo3 wI s8 jY (qaX (vE (by omega))) ?_;have JW:=AD more kvs;have rb:=rO more kvs;have ra:∀a xs,b3 a=some (.tup xs)→(upd b3 h4 (.dK (gY kvs more))) a=some (.tup xs):=λa xs e=>by rw[b2 (gT e s8 (by intro z;cases z))];exact e
    have JX:(upd b3 h4 (.dK (gY kvs more))) h4=some (.dK (gY kvs more)):=Zd;have o0:(upd b3 h4 (.dK (gY kvs more))) f=some (.lst (b4.map V.ref)):=by rw[b2 (gT kk s8 (by intro z;cases z))];exact kk
    have lU:Vd (upd b3 h4 (.dK (gY kvs more))) d bn:=⟨more,by rw[b2 wI.symm];exact jY,g7.keep ra⟩;have JY:hP (upd b3 h4 (.dK (gY kvs more))) b4 F:=qT.keep ra (λd' he cx e=>by rw[b2 (kE d' he).1];exact e);have eB:Ze aU (upd b3 h4 (.dK (gY kvs more))):=(c_.trans dt).new hse;generalize upd b3 h4 (.dK (gY kvs more))=dN at*;have Cf:(b4.map V.ref).length<sizeLine:=eE (by rw[GE,fL.length];omega);walk_at "rds";have lW:∀a xs,dN a=some (.tup xs)→(upd dN f (.lst (b4.map V.ref++ [.ref d]))) a=some (.tup xs):=λa xs e=>by rw[b2 (gT e o0 (by intro z;cases z))];exact e
    have wJ:∀a cx,dN a=some (.dK cx)→(upd dN f (.lst (b4.map V.ref++ [.ref d]))) a=some (.dK cx):=λa cx e=>by rw[b2 (gT e o0 (by intro z;cases z))];exact e
    obtain⟨JZ,J0,wH⟩:=lU;refine⟨gY kvs more,b4++ [d],F++ [((i:Int),bn)],_,_,rfl,eB.new nV,wJ _ _ JX,by rw[Zd,qaG];rfl,(JY.keep lW λd' _ cx e=>wJ _ _ e).snoc ⟨JZ,wJ _ _ J0,wH.keep lW⟩,λd' he=>?_,by omega,λw=>?_,fw.grow (sv _) (nE eA) hi (λx js a5=>aT ⟨x,js,a5⟩) bc jg,by simp;omega⟩
    ·rcases qax.mp he with z|z
     ·exact kE d' z
     ·rw[FM.mp z];exact⟨wI.symm,f0 (a7.trans c_) nU⟩
    ·rw[JW,Bool.or_eq_true,fe w,g7.some]
     constructor
     ·rintro(⟨x,mo,i'⟩|z)
      ·exact⟨x,qa5 _ mo,i'⟩
      ·exact⟨_,qar _ (FM.mpr rfl),z⟩
     ·rintro⟨x,mo,i'⟩;rcases qax.mp mo with z|z
      ·exact .inl ⟨x,z,i'⟩
      ·rw[FM.mp z] at i';exact .inr i'
  ·rintro σ cw ⟨kvs,b4,F,a1,dj,rfl,c_,s6,jB,fL,kE,hN,fe,fw,s7⟩;walk_at "rds";exact q f b4 cw F Ce (a7.trans c_) ⟨jB,fL⟩ (λd hd=>(kE d hd).2) fw s7
end
def J1{K:Frag}{mg:Str→Option Value}(T:Tp K mg):Sp:=λvs H Q _=>∃a b:Nat,vs=[.int a,.int b]∧0<b∧b<2 ^ 8000∧∀(p:Addr)(H':Hp),H p=none→Ze H H'→H' p=some (.tup [.int (a / Nat.gcd a b:Nat),.int (b / Nat.gcd a b:Nat)])→Q (.ref p) H'
section
variable {P:Program}{w:World}{K:Frag}{mg:Str→Option Value}{base:Heap}
theorem wK(T:Tp K mg):OkN P w base 2 T.ci (J1 T):=by
 refine T.ci.F.okX AB (λvs H Q E h=>?_) (λdi A outer s H vs Q E a3 h=>?_)
 ·obtain⟨a,b,rfl,_⟩:=h
  rfl
 ·have hu:=a3.hu;obtain⟨a,b,rfl,b0,fC,q⟩:=h;have oR:0<Nat.gcd a b:=qca _ b0;have gn:Nat.gcd a b<2 ^ 8000:=qaK (qbZ b0 (qbp a b)) fC;have J2:=Zkl (a:=a) oR gn;refine⟨_,(bR (dG (i:=2) AB.nd rfl (Or.inl rfl) (d8 T.ch (v9 T) a3 dw (a6 (pv 0) (a6 (pv 1) bp))))
     (cm (dS (h8 (a6 (dE iA (pv 0) (pv 2)) (a6 (dE iA (pv 1) (pv 2)) bp)))))),?_⟩
  try dsimp only[L2.cxX,L2.ZJ,L2.Zl]
  walk_at "rds";refine⟨by show 2≤sizeLine;decide,λp bb=>?_⟩;exact q p _ bb (dH bb) Zd
end
def J3{K:Frag}{mg:Str→Option Value}(T:Tp K mg):Sp:=λvs H Q _=>∃(p q:Addr)(x y u v n m:Nat),vs=[.ref p,.ref q]∧H p=some (.tup [.int x,.int y])∧H q=some (.tup [.int u,.int v])∧0<y∧0<v∧x<2 ^ n∧y<2 ^ n∧u<2 ^ m∧v<2 ^ m∧n+m≤8000∧
 ∀(r:Addr)(H':Hp),H r=none→Ze H H'→H' r=some (.tup [.int (x*u / Nat.gcd (x*u) (y*v):Nat),.int (y*v / Nat.gcd (x*u) (y*v):Nat)])→Q (.ref r) H'
section
variable {P:Program}{w:World}{K:Frag}{mg:Str→Option Value}{base:Heap}
theorem J4(T:Tp K mg):OkN P w base 3 T.cR (J3 T):=by
 refine T.cR.F.okX GR (λvs H Q E h=>?_) (λdi A outer s H vs Q E a3 h=>?_)
 ·obtain⟨p,q,x,y,u,v,n,m,rfl,_⟩:=h
  rfl
 ·have hu:=a3.hu;obtain⟨p,q,x,y,u,v,n,m,rfl,aS,a2,nF,kO,xs,ys,us,hA,nm,k⟩:=h;have hD:=ZdC xs us (by omega);have il:=ZdC ys hA (by omega);refine⟨_,(cm (dS (d8 T.ci (wK T) a3 dw (a6 (dE jP (dF (ixk K) (pv 0) bQ (λ_ _=>rfl)) (dF (ixk K) (pv 1) bQ (λ_ _=>rfl))) (a6 (dE jP (dF (ixk K) (pv 0) bQ (λ_ _=>rfl)) (dF (ixk K) (pv 1) bQ (λ_ _=>rfl))) bp))))),?_⟩
  try dsimp only[L2.cxX,L2.ZJ,L2.Zl]
  walk_at "rds";exact⟨x*u,y*v,rfl,qbV nF kO,qaf (qx ys hA) (qaA (by decide) nm),k⟩
end
structure Zor(b:B5)(dk bL:Nat):Prop where
 g:b.give=(dk:Int)
 t:b.take=(bL:Int)
 ff:0<dk
 gj:0<bL
 gn:dk<2 ^ 110
 ei:bL<2 ^ 110
def J5{K:Frag}{mg:Str→Option Value}(T:Tp K mg):Sp:=λvs H Q _=>∃(t:Addr)(b:B5)(al:Bool)(dk bL:Nat),vs=[.ref t,.bl al]∧H t=some (.tup b.v)∧Zor b dk bL∧
 ∀(p:Addr)(H':Hp)(x y:Nat),H p=none→Ze H H'→H' p=some (.tup [.int x,.int y])→(if al=true then x=dk / Nat.gcd dk bL∧y=bL / Nat.gcd dk bL else x=bL / Nat.gcd bL dk∧y=dk / Nat.gcd bL dk)→Q (.ref p) H'
section
variable {P:Program}{w:World}{K:Frag}{mg:Str→Option Value}{base:Heap}
theorem J6(T:Tp K mg):OkN P w base 3 T.cS (J5 T):=by
 refine T.cS.F.okX GS (λvs H Q E h=>?_) (λdi A outer s H vs Q E a3 h=>?_)
 ·obtain⟨t,b,al,dk,bL,rfl,_⟩:=h
  rfl
 ·have hu:=a3.hu;obtain⟨t,b,al,dk,bL,rfl,ce,sz,q⟩:=h;obtain⟨g,q8,ff,gj,gn,ei⟩:=sz;dsimp only[B5.v] at ce;rw[g,q8] at ce;have big:(2:Nat) ^ 110≤2 ^ 8000:=qaA (by decide) (by decide);refine⟨_,(cm (dS (Do (jR (K:=K) rfl (pv 1) (λ_=>rfl)) (d8 T.ci (wK T) a3 dw (a6 (dF (ixk K) (pv 0) bQ (λ_ _=>rfl)) (a6 (dF (ixk K) (pv 0) bQ (λ_ _=>rfl)) bp))) (d8 T.ci (wK T) a3 dw (a6 (dF (ixk K) (pv 0) bQ (λ_ _=>rfl)) (a6 (dF (ixk K) (pv 0) bQ (λ_ _=>rfl)) bp)))))),?_⟩
  try dsimp only[L2.cxX,L2.ZJ,L2.Zl]
  walk_at "rds";unfold tIf;walk_at "rds";cases al with
  |true=>
   walk_at "rds";exact⟨dk,bL,rfl,gj,qaf ei big,λp H' bb s h=>q p H' _ _ bb s h ⟨rfl,rfl⟩⟩
  |false=>
   walk_at "rds";exact⟨bL,dk,rfl,ff,qaf gn big,λp H' bb s h=>q p H' _ _ bb s h ⟨rfl,rfl⟩⟩
end
def J7{K:Frag}{mg:Str→Option Value}(T:Tp K mg):Sp:=λvs H Q _=>∃(p d:Addr)(aJ:HM)(fp:List Addr)(kvs:List (Key×V))(bn:Fo.ZH)(first:Int),vs=[.ref p,.ref d]∧dQ T H p aJ fp∧d∉fp∧L2.Rd H d (.dK kvs)∧Ent H kvs bn∧Fo.Z1 (fJ aJ.belts) first bn∧bn.length≤60∧WC aJ.belts∧
 ∀(e:Addr)(o:Obj)(H':Hp)(eY:List (Key×V))(zs:List (Int×(Nat×Nat))),H e=none→Ze (upd H d (.frz o (.dK kvs))) H'→H' e=some (.dK eY)→ShE H' eY zs→i_ aJ.belts bn zs bn.length→Q (.ref e) H'
section
variable {P:Program}{w:World}{K:Frag}{mg:Str→Option Value}{base:Heap}
theorem J8(T:Tp K mg):OkN P w base 6 T.cT (J7 T):=by
 have f4:=T.a;have f5:=T.e;refine T.cT.F.okX sm (λvs H Q E h=>?_) (λdi A outer s H vs Q E a3 h=>?_)
 ·obtain⟨p,d,aJ,fp,kvs,bn,first,rfl,_⟩:=h
  rfl
 ·have hu:=a3.hu;obtain⟨p,d,aJ,fp,kvs,bn,first,rfl,bV,J9,hd,g7,bc,qA,hsz,q⟩:=h;have hN:=g7.length;refine⟨_,(bR (dG (i:=2) sm.nd rfl (Or.inl rfl) pP)
     (bR (gh PassesOwn.leaving rfl (zf (pv 1)) (jS (K:=K) (n:=2) rfl rfl (f8 (d0 (i:=3) sm.nd rfl (Or.inl rfl)) (f8 (d0 (i:=4) sm.nd rfl (Or.inl rfl)) jI))) (cm (eU (eo rB (pv 4) Wi (ez _)) (cm (kA (h8 (a6 bQ (a6 bQ bp))) (lb (pv 2) (pv 3) (nl hu)))) (cm (kA (d8 T.cR (J4 T) a3 dw (a6 (dF (ox hu) (pv 2) (dF (ixk K) (pv 4) bQ (λ_ _=>rfl)) (λ_ _=>rfl)) (a6 (d8 T.cS (J6 T) a3 dw (a6 (hb (pv 0) T.a T.bZ (qX T) a3 dw (a6 (dF (ixk K) (pv 4) bQ (λ_ _=>rfl)) bp)) (a6 (dF (ixk K) (pv 4) bQ (λ_ _=>rfl)) bp))) bp))) (lb (pv 2) (pv 3) (nl hu)))))))
     (cm (dS (pv 2))))),?_⟩
  try dsimp only[L2.cxX,L2.ZJ,L2.Zl]
  walk_at "rds";intro e bD;have ku:d≠e:=λz=>ZdQ hd (by rw[z];exact bD);have a7:Ze H (upd H e (.dK [])):=dH bD;have o7:(upd H e (.dK [])) e=some (.dK []):=Zd;have mQ:L2.Rd (upd H e (.dK [])) d (.dK kvs):=by
   rcases hd with h|⟨o,h⟩
   ·exact .inl (a7 _ _ h)
   ·exact .inr ⟨o,a7 _ _ h⟩
  generalize upd H e (.dK [])=aU at*;walk_at "rds";refine Rd.Zjy ?_;walk_at "rds";refine⟨d,kvs,rfl,mQ,λo=>?_⟩;have wL:=qz (o:=o) hd;have fE:dQ T (upd H d (.frz o (.dK kvs))) p aJ fp:=bV.off wL (λx aT z=>J9 (by rw[←FM.mp z];exact aT));have J_:Ent (upd H d (.frz o (.dK kvs))) kvs bn:=g7.keep wL.tups;have wM:(upd H d (.frz o (.dK kvs))) e=none:=by rw[b2 ku.symm];exact bD
  have bM:Ze (upd H d (.frz o (.dK kvs))) (upd aU d (.frz o (.dK kvs))):=λb x dJ=>by
   by_cases z:b=d
   ·rw[z,Zd] at dJ⊢;exact dJ
   ·rw[b2 z] at dJ⊢;exact a7 _ _ dJ
  have rc:(upd H d (.frz o (.dK kvs))) d=some (.frz o (.dK kvs)):=Zd;have lV:(upd aU d (.frz o (.dK kvs))) e=some (.dK []):=by rw[b2 ku.symm];exact o7
  have qE:=λH' eY zs=>q e o H' eY zs bD;generalize upd aU d (.frz o (.dK kvs))=cw at*;generalize upd H d (.frz o (.dK kvs))=b_ at*;clear q mQ o7 a7 wL;refine WY (zg rc) (λi σ H'=>∃(eY:List (Key×V))(zs:List (Int×(Nat×Nat)))(a1 dj:Option V),σ=[some (.ref p),some (.ref d),some (.ref e),a1,dj]∧Ze b_ H'∧H' e=some (.dK eY)∧ShE H' eY zs∧i_ aJ.belts bn zs i∧eY.length≤i)
   ⟨[],[],_,_,rfl,bM,lV,.nil,G6,fm _⟩ (λi σ H' ⟨_,_,_,_,_,s,_⟩=>s) ?_ ?_
  ·rintro i σ b3 v dN hi ⟨eY,zs,a1,dj,rfl,dt,nY,j6,gE,J'⟩ ⟨t,kv,jh,ce,rfl,rfl⟩;obtain⟨w,st,rd,e_,fa⟩:=ZnA J_ jh;have dx:i<bn.length:=(GM.mp rd).1;have AJ:=gE.len (qaX dx);have Ka:w∉zs.map (·.1):=by
    rw[gE.keys];intro bo;obtain⟨j,bj,bC⟩:=qaw bo;rw[qci] at bC;have i3:j<i:=by rw[qaI] at bj;omega
    have qr:j<(Fo.keys bn).length:=by rw[qaI] at bj;omega
    have Cg:i<(Fo.keys bn).length:=by simp[Fo.keys];exact dx
    have fX:(Fo.keys bn)[i]=w:=by
     have:(Fo.keys bn)[i]? =some w:=by unfold Fo.keys;rw[qaj,rd];rfl
     rw[GT Cg] at this;exact qam this
    have:=qw bc.nodup qr Cg (bC.trans fX.symm);omega
   obtain⟨k,val⟩:=kv;dsimp only at e_ fa;subst e_;refine Rd.VO (.of Zd) rfl ?_;have jf:Ze b3 (upd b3 t (.tup [kV (Sum.inl w),val])):=dH ce;have eB:=dt.trans jf;have Ch:=jf _ _ nY;have s9:ShE (upd b3 t (.tup [kV (Sum.inl w),val])) eY zs:=j6.keep λ_ _ e=>jf _ _ e;generalize upd b3 t (.tup [kV (Sum.inl w),val])=dN at*;have wN:kV (Sum.inl w)= .int w:=rfl;rw[wN];have lX:eY.length<sizeLine:=eE (by omega);have hj:=s9.none Ka;walk_at "rds";refine⟨rfl,?_⟩;cases st with
   |none=>
    have dZ:val= .non:=fa;subst dZ;walk_at "rds";refine⟨by show 2≤sizeLine;decide,λec fK=>?_⟩;have e8:Ze dN (upd dN ec (.tup [.int 1,.int 1])):=dH fK;have ju:(upd dN ec (.tup [.int 1,.int 1])) ec=some (.tup [.int 1,.int 1]):=Zd;have wO:=e8 _ _ Ch;have wP:ShE (upd dN ec (.tup [.int 1,.int 1])) eY zs:=s9.keep λ_ _ e=>e8 _ _ e;generalize upd dN ec (.tup [.int 1,.int 1])=ed at*;walk_at "rds";rw[ZaC _ hj];have re:∀a xs,ed a=some (.tup xs)→(upd ed e (.dK (eY++ [(Sum.inl w,.ref ec)]))) a=some (.tup xs):=λa xs ea=>by rw[b2 (gT ea wO (by intro z;cases z))];exact ea
    refine⟨_,zs++ [(w,(1,1))],_,_,rfl,(eB.trans e8).new wM,Zd,(wP.keep re).snoc (x:=(1,1)) (re _ _ ju),gE.more dx rd ⟨by decide,by decide,by decide⟩ ⟨?_,?_⟩ (λ_=>rfl) (λp b al z=>by cases z),by simp;omega⟩
    ·exact qaf (by decide:(1:Nat)<2 ^ 1) (qaA (by decide) (by omega))
    ·exact qaf (by decide:(1:Nat)<2 ^ 1) (qaA (by decide) (by omega))
   |some x=>
    obtain⟨s_,b,al⟩:=x;obtain⟨ec,dZ,fK⟩:=fa;subst dZ;have ws:=eB _ _ fK;obtain⟨Kb,j,oS,bj,Kc⟩:=bc.steps i w s_ b al rd;have kc:s_∈zs.map (·.1):=by
     rw[gE.keys];have a5:(Fo.keys bn)[j]? =some s_:=by unfold Fo.keys;rw[qaj,Kc];rfl
     have:((Fo.keys bn).take i)[j]? =some s_:=by rw[List.getElem?_take,if_pos bj];exact a5
     exact qal this
    obtain⟨y,ty,Ci,zu,hF⟩:=s9.get kc;obtain⟨ta,wQ⟩:=qa6 Ci;have i3:=(GM.mp wQ).1;obtain⟨nF,mz,ja⟩:=gE.pos _ Ci;obtain⟨tb,nZ⟩:=gE.size ta _ wQ;obtain⟨bi,nK,q_⟩:=VM Kb;have dJ:b=(bi:Int):=by
     rw[WX] at q_;rcases q_ with⟨_,z⟩|⟨_,z⟩<;>(injection z with _ fz;injection fz)
    obtain⟨dk,bL,ff,gj,gn,ei,fy,eX⟩:=hsz bi nK;have kT:=fE.same eB;have Kd:decide (V.ref ec=V.non)=false:=decide_eq_false (by intro z;cases z);rw[Kd];walk_at "rds";refine⟨p,b,aJ,fp,rfl,kT,λz=>absurd ⟨by omega,by omega⟩ z,λ_ _ dy B gJ Ke=>?_⟩;have Cj:aJ.belts.getD bi dB=B:=by
     rw[dJ,qab] at gJ;simp[List.getD,gJ]
    rw[Cj] at fy eX;walk_at "rds";refine⟨dy,B,al,dk,bL,rfl,Ke,⟨fy,eX,ff,gj,gn,ei⟩,λka ed u v iL e8 ju n0=>?_⟩;have bF:110*ta+1+110≤110*i+1:=by omega
    have Kf:∃Kg G2 M,Kg=Nat.gcd M G2∧True:=⟨_,0,0,rfl,trivial⟩;have fr:∃mR gU:Nat,0<mR∧0<gU∧mR<2 ^ 110∧gU<2 ^ 110∧u=mR / Nat.gcd mR gU∧v=gU / Nat.gcd mR gU∧(∀x:Nat×Nat,x.1*y.2*gU=y.1*x.2*mR→Bal B al x y):=by
     cases al with
     |true=>
      rw[if_pos rfl] at n0;refine⟨dk,bL,ff,gj,gn,ei,n0.1,n0.2,λx aT=>?_⟩;unfold Bal;rw[if_pos rfl,fy,eX,qab,qab];exact aT
     |false=>
      rw[if_neg (by decide)] at n0;refine⟨bL,dk,gj,ff,ei,gn,n0.1,n0.2,λx aT=>?_⟩;unfold Bal;rw[if_neg (by decide),fy,eX,qab,qab];exact aT
    clear n0 Kf;obtain⟨mR,gU,Ck,Cm,Cn,Co,Cp,dZ,wR⟩:=fr;have Kh:u<2 ^ 110:=by rw[Cp];exact qaK (qbi _ _) Cn
    have gb:v<2 ^ 110:=by rw[dZ];exact qaK (qbi _ _) Co
    have kO:0<v:=by
     rw[dZ];exact Nat.div_pos (qbZ Cm (qbp _ _)) (qcf _ Ck)
    walk_at "rds";refine⟨ty,ka,y.1,y.2,u,v,110*ta+1,110,rfl,e8 _ _ hF,ju,mz,kO,tb,nZ,Kh,gb,by omega,λKi e5 jX gi nN=>?_⟩;obtain⟨bb,jr,Kj,Kk⟩:=Zib (y:=y) (u:=(u,v)) (x:=(y.1*u / Nat.gcd (y.1*u) (y.2*v),y.2*v / Nat.gcd (y.1*u) (y.2*v))) (n:=0) nF mz Ck Cm Cp dZ rfl rfl rfl;have n1:=e8.trans gi;have tc:=n1 _ _ Ch;have rf:ShE e5 eY zs:=s9.keep λ_ _ e=>n1 _ _ e;walk_at "rds";rw[ZaC _ hj];have re:∀a xs,e5 a=some (.tup xs)→(upd e5 e (.dK (eY++ [(Sum.inl w,.ref Ki)]))) a=some (.tup xs):=λa xs ea=>by rw[b2 (gT ea tc (by intro z;cases z))];exact ea
    have Kl:y.1*mR<2 ^ (110*i+1):=qaf (qx tb Cn) (qaA (by decide) bF);have Km:y.2*gU<2 ^ (110*i+1):=qaf (qx nZ Co) (qaA (by decide) bF);refine⟨_,zs++ [(w,(y.1*u / Nat.gcd (y.1*u) (y.2*v),y.2*v / Nat.gcd (y.1*u) (y.2*v)))],_,_,rfl,(eB.trans n1).new wM,Zd,(rf.keep re).snoc (re _ _ nN),gE.more dx rd bb ⟨qaK Kj Kl,qaK Kk Km⟩ (λz=>by cases z) (λfc ln sc z=>?_),by simp;omega⟩;cases z;refine⟨ta,y,wQ,?_⟩;rw[dJ,qab,Cj];exact wR _ jr
  ·rintro σ b3 ⟨eY,zs,a1,dj,rfl,dt,nY,j6,gE,J'⟩;rw[hN] at gE;walk_at "rds";exact qE b3 eY zs dt nY j6 gE
end
def Kn{K:Frag}{mg:Str→Option Value}(T:Tp K mg):Sp:=λvs H Q _=>∃a b n:Nat,vs=[.int a,.int b]∧0<b∧b<2 ^ 8000∧a<2 ^ n∧n≤1000000∧Q (.int (a / Nat.gcd a b*b:Nat)) H
section
variable {P:Program}{w:World}{K:Frag}{mg:Str→Option Value}{base:Heap}
theorem Ko(T:Tp K mg):OkN P w base 2 T.cU (Kn T):=by
 refine T.cU.F.okX GU (λvs H Q E h=>?_) (λdi A outer s H vs Q E a3 h=>?_)
 ·obtain⟨a,b,n,rfl,_⟩:=h
  rfl
 ·have hu:=a3.hu;obtain⟨a,b,n,rfl,b0,fC,bF,pF,q⟩:=h;have oR:0<Nat.gcd a b:=qca _ b0;have gn:Nat.gcd a b<2 ^ 8000:=qaK (qbZ b0 (qbp a b)) fC;have J2:=Zkl (a:=a) oR gn;have Kq:a / Nat.gcd a b<2 ^ n:=qaK (qbi _ _) bF;have Be:IntMulOk ((a:Int) / (Nat.gcd a b:Nat)) (b:Int):=ZdC (a:=a / Nat.gcd a b) Kq fC (by omega);refine⟨_,(cm (dS (dE jP (dE iA (pv 0) (d8 T.ch (v9 T) a3 dw (a6 (pv 0) (a6 (pv 1) bp)))) (pv 1)))),?_⟩
  try dsimp only[L2.cxX,L2.ZJ,L2.Zl]
  walk_at "rds";exact q
end
def Kr{K:Frag}{mg:Str→Option Value}(T:Tp K mg):Sp:=λvs H Q _=>∃(p f:Addr)(aJ:HM)(fp b4:List Addr)(F:List (Int×Fo.ZH)),vs=[.ref p,.ref f]∧dQ T H p aJ fp∧H f=some (.lst (b4.map V.ref))∧YR H b4 F∧(∀d∈b4,d∉fp)∧(∀d∈b4,d≠f)∧Fo.WQ (fJ aJ.belts) aJ.names.length F aJ.names.length∧ZU aJ.belts aJ.names.length∧aJ.names.length≤60∧WC aJ.belts∧
 ∀(r:Addr)(H':Hp)(rs:List Int),H r=none→d7 b4 H H'→YR H' b4 F→H' r=some (.lst (rs.map V.int))→rs.length=aJ.names.length→(∀x∈F,nG aJ.belts x rs)→Q (.ref r) H'
section
variable {P:Program}{w:World}{K:Frag}{mg:Str→Option Value}{base:Heap}
theorem Ks(T:Tp K mg):OkN P w base 7 T.cV (Kr T):=by
 have f4:=T.a;have f5:=T.e;refine T.cV.F.okX lJ (λvs H Q E h=>?_) (λdi A outer s H vs Q E a3 h=>?_)
 ·obtain⟨p,f,aJ,fp,b4,F,rfl,_⟩:=h
  rfl
 ·have hu:=a3.hu;obtain⟨p,f,aJ,fp,b4,F,rfl,bV,bv,ek,jp,nX,fw,eA,bF,hsz,q⟩:=h;have lF:=ek.length;refine⟨_,(bR (Eo (j:=2) rfl (gL (x:="name") (zs:=[]) (ix:=[]) (dh vy) ["hall","forest","rates","tree","shares","common","share","work"] rfl rfl (by decide+kernel)) (fW (K:=K) rfl (kK (pv 0) T.a T.cb (sN T) a3 dw)) (λcl C s H fp=>⟨(d0 (i:=0) (show(["name"]:List Str).Nodup by decide+kernel) rfl (Or.inl rfl)),hG,bQ⟩) lJ.nd rfl (Or.inl rfl))
     (bR (gh PassesOwn.leaving rfl (fW (K:=K) rfl (pv 1)) (d0 (i:=3) lJ.nd rfl (Or.inl rfl)) (bR (dG (i:=4) lJ.nd rfl (Or.inl rfl) (d8 T.cT (J8 T) a3 dw (a6 (pv 0) (a6 (pv 3) bp))))
     (bR (dG (i:=5) lJ.nd rfl (Or.inl rfl) bQ)
     (bR (gh PassesOwn.leaving rfl (ET (pv 4)) (d0 (i:=6) lJ.nd rfl (Or.inl rfl)) (cm (dG (i:=5) lJ.nd rfl (Or.inl rfl) (d8 T.cU (Ko T) a3 dw (a6 (pv 5) (a6 (dF (ixk K) (pv 6) bQ (λ_ _=>rfl)) bp))))))
     (cm (gh PassesOwn.leaving rfl (zf (pv 4)) (jS (K:=K) (n:=2) rfl rfl (f8 (d0 (i:=7) lJ.nd rfl (Or.inl rfl)) (f8 (d0 (i:=6) lJ.nd rfl (Or.inl rfl)) jI))) (cm (kA (dE jP (dE iA (pv 5) (dF (ixk K) (pv 6) bQ (λ_ _=>rfl))) (dF (ixk K) (pv 6) bQ (λ_ _=>rfl))) (lb (pv 2) (pv 7) pN)))))))))
     (cm (dS (pv 2))))),?_⟩
  try dsimp only[L2.cxX,L2.ZJ,L2.Zl]
  walk_at "rds";refine⟨p,aJ,fp,rfl,bV,λnm aU ij a7 wz=>?_⟩;walk_at "rds";refine YI (fR (SqL.of wz)) (eE (by rw[GE];omega)) (λ_=>true) (λ_=> .int 1) (λi H' dW hi bS k=>?_) (λi H' dW hi _ bS k=>?_) (λr a4 a3 bK je=>?_)
  ·walk_at "rds";exact k H' (Ze.refl H')
  ·walk_at "rds";exact k H' (Ze.refl H')
  have hy:a4 r=some (.lst ((List.replicate aJ.names.length (1:Int)).map V.int)):=by
   rw[je,qaz.mpr (by simp),GE];refine congrArg (λz=>some (HO.lst z)) ?_;refine qay (by simp) λi aS a2=>?_;simp
  clear je;have iN:=a7.trans bK;have fF:H r=none:=f0 a7 a3;have jA:=iN _ _ bv;have ma:∀d∈b4,r≠d:=λd hd z=>by
   obtain⟨i,hi,rfl⟩:=qaw hd;obtain⟨x,_,kvs,a,_⟩:=Paired.get' ek (GT hi);exact ZdQ a (by rw[←z];exact fF)
  have Kt:f≠r:=d9 bv fF;walk_at "rds";refine Yz (fR (SqL.of (p_ (q:=f) (o:= .lst (b4.map V.ref))))) (λi σ H'=>∃(rs:List Int)(a1 dj dM d6 eF:Option V),σ=[some (.ref p),some (.ref f),some (.ref r),a1,dj,dM,d6,eF]∧d7 b4 H H'∧YR H' b4 F∧H' f=some (.lst (b4.map V.ref))∧H' r=some (.lst (rs.map V.int))∧rs.length=aJ.names.length∧∀(k:Nat) x,k<i→F[k]? =some x→nG aJ.belts x rs)
   ⟨_,_,_,_,_,_,rfl,iN.frame,ek.same iN,jA,hy,by simp,λk x a5=>absurd a5 (qa0 _)⟩ ?_ ?_ ?_
  ·rintro i σ H' ⟨_,_,_,_,_,_,_,_,_,h,_⟩;exact V8 h
  ·rintro i σ b_ hi ⟨rs,a1,dj,dM,d6,eF,rfl,kD,ik,hx,hy,hp,hQ⟩;have el:i<b4.length:=by simpa using hi
   have fX:(b4.map V.ref).getD i .non= .ref b4[i]:=by simp[List.getD,el]
   rw[fX];obtain⟨x,aT,kvs,hd,g7⟩:=Paired.get' ik (GT el);have wS:=qaa el;generalize b4[i]=d at*;obtain⟨g,G',ff,g1⟩:=fw.tree x (qal aT);have wT:=g.rg ⟨ff,g1⟩ (nE eA);have qA:x.2.length≤60:=by
    have:=Fo.UR (n:=aJ.names.length) g.nodup wT;simp[Fo.keys] at this;omega
   have fE:=bV.off kD (λy bE z=>jp y z bE);walk_at "rds";refine⟨p,d,aJ,fp,kvs,x.2,x.1,rfl,fE,jp d wS,hd,g7,g,qA,hsz,λe o cw eY zs bD c_ lV j6 gE=>?_⟩;have lQ:d7 b4 H cw:=kD.trans (((qz (o:=o) hd).mono (by intro y bE;rw[FM.mp bE];exact wS)).trans c_.frame);have fL:=(ik.frz (o:=o) hd).same c_;have jB:cw f=some (.lst (b4.map V.ref)):=lQ.keep _ _ bv (λz=>nX f z rfl);have Ku:=ma d wS;have gR:cw r=some (.lst (rs.map V.int)):=c_ _ _ (by rw[b2 Ku];exact hy);have wU:∀d'∈b4,e≠d':=λd' he z=>by
    obtain⟨j,bj,rfl⟩:=qaw he;obtain⟨iF,_,gI,a,_⟩:=Paired.get' ik (GT bj);exact ZdQ a (by rw[←z];exact bD)
   have q9:r≠e:=λz=>by rw[z,bD] at hy;cases hy
   have Cq:f≠e:=λz=>by rw[z,bD] at hx;cases hx
   have q4:H e=none:=by
    cases ee:H e with
    |none=>rfl
    |some c'=>
     by_cases z:e∈b4
     ·exact absurd rfl (wU e z)
     ·rw[kD.keep _ _ ee z] at bD;cases bD
   have AJ:=gE.len (fm _);have hN:=j6.length;walk_at "rds";refine Rd.ZnO ?_;walk_at "rds";refine⟨e,eY,rfl,.inl lV,λi6=>?_⟩;have nY:(upd cw e (.frz i6 (.dK eY))) e=some (.frz i6 (.dK eY)):=Zd;have wV:∀a xs,cw a=some (.tup xs)→(upd cw e (.frz i6 (.dK eY))) a=some (.tup xs):=(qz (o:=i6) (.inl lV)).tups;have Cr:=j6.keep wV;have lR:(upd cw e (.frz i6 (.dK eY))) r=some (.lst (rs.map V.int)):=by rw[b2 q9];exact gR
   have kk:(upd cw e (.frz i6 (.dK eY))) f=some (.lst (b4.map V.ref)):=by rw[b2 Cq];exact jB
   have iP:d7 b4 H (upd cw e (.frz i6 (.dK eY))):=⟨λb y dJ n=>by rw[b2 (λz=>by rw[z,q4] at dJ;cases dJ)];exact lQ.keep _ _ dJ n,λb xs dJ=>wV _ _ (lQ.tups _ _ dJ)⟩;have qT:YR (upd cw e (.frz i6 (.dK eY))) b4 F:=by
    refine sx fL λd' iF he ⟨k,a,b⟩=>⟨k,?_,b.keep wV⟩;have:=(wU d' he).symm;rcases a with a|⟨c',a⟩
    ·exact .inl (by rw[b2 this];exact a)
    ·exact .inr ⟨c',by rw[b2 this];exact a⟩
   generalize upd cw e (.frz i6 (.dK eY))=b3 at*;refine WY (EU nY) (λk σ H'=>H'=b3∧∃(C:Nat)(d6:Option V),σ=[some (.ref p),some (.ref f),some (.ref r),some (.ref d),some (.ref e),some (.int C),d6,eF]∧C=lcmL (zs.take k)∧C<2 ^ (6700*k+1)) ⟨rfl,1,_,rfl,rfl,by decide⟩ (λi σ H' h=>h.1▸Ze.refl b3) ?_ ?_
   ·rintro k σ dN v ed a5 ⟨rfl,C,d6,rfl,mh,td⟩ ⟨rfl,kv,jh,rfl⟩;obtain⟨y,bE,_,t,eX,ce⟩:=Paired.get' Cr jh;rw[eX];have lX:k<zs.length:=(GM.mp bE).1;obtain⟨nF,mz,_⟩:=gE.pos y (qal bE);have Kv:=(gE.size k y bE).2;have nZ:y.2.2<2 ^ 6700:=qaf Kv (qaA (by decide) (by omega));have Kw:zs.take (k+1)=zs.take k++ [y]:=by rw[List.take_succ,bE];rfl
    walk_at "rds";refine⟨C,y.2.2,6700*k+1,rfl,mz,qaf nZ (qaA (by decide) (by decide)),td,by omega,?_⟩;rw[Zk9];refine⟨rfl,_,_,rfl,by rw[Kw,G_,mh],?_⟩;have:=AF td nZ;have dP:6700*(k+1)+1=6700*k+1+6700:=by omega
    rw[dP];exact this
   ·rintro σ dN ⟨rfl,C,d6,rfl,mh,td⟩;rw[hN,qaB] at mh;walk_at "rds";refine Rd.Zjy ?_;walk_at "rds";refine⟨e,eY,rfl,.inr ⟨i6,nY⟩,λho=>?_⟩;have wO:(upd dN e (.frz ho (.dK eY))) e=some (.frz ho (.dK eY)):=Zd;have lW:∀a xs,dN a=some (.tup xs)→(upd dN e (.frz ho (.dK eY))) a=some (.tup xs):=(qz (o:=ho) (.inr ⟨i6,nY⟩)).tups;have wP:=Cr.keep lW;have nR:(upd dN e (.frz ho (.dK eY))) r=some (.lst (rs.map V.int)):=by rw[b2 q9];exact lR
    have Kx:(upd dN e (.frz ho (.dK eY))) f=some (.lst (b4.map V.ref)):=by rw[b2 Cq];exact kk
    have p2:d7 b4 H (upd dN e (.frz ho (.dK eY))):=⟨λb y dJ n=>by rw[b2 (λz=>by rw[z,q4] at dJ;cases dJ)];exact iP.keep _ _ dJ n,λb xs dJ=>lW _ _ (iP.tups _ _ dJ)⟩;have wD:YR (upd dN e (.frz ho (.dK eY))) b4 F:=by
     refine sx qT λd' iF he ⟨k,a,b⟩=>⟨k,?_,b.keep lW⟩;have:=(wU d' he).symm;rcases a with a|⟨c',a⟩
     ·exact .inl (by rw[b2 this];exact a)
     ·exact .inr ⟨c',by rw[b2 this];exact a⟩
    generalize upd dN e (.frz ho (.dK eY))=ed at*;have lX:zs.map (·.1)=Fo.keys x.2:=by
     have aS:=gE.keys;have a2:(Fo.keys x.2).take x.2.length=Fo.keys x.2:=qaZ (by simp[Fo.keys]);rw[aS,a2]
    have wW:∀(j:Nat) y,zs[j]? =some y→y.1∈Fo.keys x.2:=λj y bE=>by rw[←lX];exact qah.mpr ⟨y,qal bE,rfl⟩
    have v5:∀(j k:Nat) y z,zs[j]? =some y→zs[k]? =some z→j≠k→y.1≠z.1:=λj k y z bE hz ne ee=>by
     have nd:(zs.map (·.1)).Nodup:=by rw[lX];exact g.nodup
     obtain⟨bj,hc⟩:=GM.mp bE;obtain⟨a5,e_⟩:=GM.mp hz;refine ne (qw nd (by simpa using bj) (by simpa using a5) ?_);rw[qbT,qbT,hc,e_];exact ee
    refine WY (zg (p_ (q:=e) (o:= .frz ho (.dK eY)))) (λk σ H'=>∃(kY:List Int)(hK su:Option V),σ=[some (.ref p),some (.ref f),some (.ref r),some (.ref d),some (.ref e),some (.int C),hK,su]∧d7 b4 H H'∧YR H' b4 F∧H' e=some (.frz ho (.dK eY))∧H' f=some (.lst (b4.map V.ref))∧H' r=some (.lst (kY.map V.int))∧kY.length=aJ.names.length∧ShE H' eY zs∧
     (∀(j:Nat) y,j<k→zs[j]? =some y→kY[y.1.toNat]? =some ((C / y.2.2*y.2.1:Nat):Int))∧∀v:Int,0≤v→v∉Fo.keys x.2→kY[v.toNat]? =rs[v.toNat]?)
     ⟨rs,_,_,rfl,p2,wD,wO,Kx,nR,hp,wP,λj y bj=>absurd bj (qa0 _),λ_ _ _=>rfl⟩ ?_ ?_ ?_
    ·rintro k σ H' ⟨_,_,_,_,_,_,h,_⟩;exact V8 h
    ·rintro k σ e5 v fI a5 ⟨kY,hK,su,rfl,wX,wY,tc,wZ,nS,w0,rf,w1,w2⟩ ⟨t,kv,jh,ce,rfl,rfl⟩;obtain⟨y,bE,e_,ty,eX,hF⟩:=Paired.get' rf jh;obtain⟨jL,Sk⟩:=kv;dsimp only at e_ eX;subst e_ eX;refine Rd.VO (.of Zd) rfl ?_;have jf:Ze e5 (upd e5 t (.tup [kV (Sum.inl y.1),.ref ty])):=dH ce;have qW:=jf _ _ nS;have Sl:=jf _ _ hF;have Cs:d7 b4 H (upd e5 t (.tup [kV (Sum.inl y.1),.ref ty])):=wX.trans jf.frame;have Ky:=wY.same jf;have s1:=jf _ _ tc;have Kz:=jf _ _ wZ;have KA:ShE (upd e5 t (.tup [kV (Sum.inl y.1),.ref ty])) eY zs:=rf.keep λ_ _ e=>jf _ _ e;generalize upd e5 t (.tup [kV (Sum.inl y.1),.ref ty])=fI at*;have wN:kV (Sum.inl y.1)= .int y.1:=rfl;rw[wN];obtain⟨nF,mz,_⟩:=gE.pos y (qal bE);obtain⟨KC,KD⟩:=gE.size k y bE;have mI:k<zs.length:=(GM.mp bE).1;have tb:y.2.1<2 ^ 6700:=qaf KC (qaA (by decide) (by omega));have nZ:y.2.2<2 ^ 6700:=qaf KD (qaA (by decide) (by omega));have Bb:=Zkl (a:=0) mz (qaf nZ (qaA (by decide) (by decide)));have Be:IntMulOk ((C:Int) / (y.2.2:Nat)) ((y.2.1:Nat):Int):=ZdC (a:=C / y.2.2) (qaK (qbi _ _) td) tb (by omega);obtain⟨f_,g8⟩:=wT y.1 (wW k y bE);walk_at "rds";have dZ:(C:Int) / ((y.2.2:Nat):Int)*((y.2.1:Nat):Int)=((C / y.2.2*y.2.1:Nat):Int):=rfl;rw[dZ];have w3:∀a xs,fI a=some (.tup xs)→(upd fI r (.lst ((kY.map V.int).set y.1.toNat (.int ((C / y.2.2*y.2.1:Nat):Int))))) a=some (.tup xs):=λa xs ea=>by rw[b2 (gT ea qW (by intro z;cases z))];exact ea
     have iU:y.1.toNat<kY.length:=by omega
     walk_at "rds";refine⟨kY.set y.1.toNat ((C / y.2.2*y.2.1:Nat):Int),_,_,rfl,⟨λb z dJ n=>by rw[b2 (λc=>by rw[c,fF] at dJ;cases dJ)];exact Cs.keep _ _ dJ n,λb xs dJ=>w3 _ _ (Cs.tups _ _ dJ)⟩,?_,by rw[b2 q9.symm];exact s1,by rw[b2 Kt];exact Kz,by rw[Zd,qcj],by rw[qbY];exact w0,KA.keep w3,λj z bj hz=>?_,λv kO cv=>?_⟩
     ·refine sx Ky λd' iF he ⟨gI,a,b⟩=>⟨gI,?_,b.keep w3⟩;have:=(ma d' he).symm;rcases a with a|⟨c',a⟩
      ·exact .inl (by rw[b2 this];exact a)
      ·exact .inr ⟨c',by rw[b2 this];exact a⟩
     ·rcases qbg.mp bj with c|c
      ·have ne:=v5 j k z y hz bE (by omega);obtain⟨iM,_⟩:=wT z.1 (wW j z hz);rw[qbx (by omega)];exact w1 j z c hz
      ·subst c;rw[bE] at hz;cases hz;rw[qbn iU]
     ·have ne:v≠y.1:=λc=>cv (by rw[c];exact wW k y bE);rw[qbx (by omega)];exact w2 v kO cv
    ·rintro σ e5 ⟨kY,hK,su,rfl,wX,wY,tc,wZ,nS,w0,rf,w1,w2⟩;refine⟨kY,_,_,_,_,_,rfl,wX,wY,wZ,nS,w0,λk iF a5 js=>?_⟩;rcases qbg.mp a5 with c|c
     ·obtain⟨KE,uU,vZ⟩:=hQ k iF c js;refine⟨KE,uU,λy bE=>?_⟩;obtain⟨g',Sm,KG,KH⟩:=fw.tree iF (qal js);have te:y.1∈Fo.keys iF.2:=by
       have aS:=uU.keys;have a2:(Fo.keys iF.2).take iF.2.length=Fo.keys iF.2:=qaZ (by simp[Fo.keys]);rw[a2] at aS;rw[←aS];exact qah.mpr ⟨y,bE,rfl⟩
      rw[w2 y.1 (g'.rg ⟨KG,KH⟩ (nE eA) _ te).1 (G9 eA fw js aT (by omega) _ te)];exact vZ y bE
     ·subst c;rw[aT] at js;cases js;refine⟨zs,gE,λy bE=>?_⟩;obtain⟨j,bj⟩:=qa6 bE;rw[←mh];exact w1 j y (by rw[hN];exact(GM.mp bj).1) bj
  ·rintro σ b_ ⟨rs,a1,dj,dM,d6,eF,rfl,kD,ik,hx,hy,hp,hQ⟩;walk_at "rds";refine q r b_ rs fF kD ik hy hp (λx aT=>?_);obtain⟨k,a5⟩:=qa6 aT;have:=(GM.mp a5).1;exact hQ k x (by rw[GE,lF];exact this) a5
end
def KI{K:Frag}{mg:Str→Option Value}(T:Tp K mg):Sp:=λvs H Q _=>∃(p c:Addr)(aJ:HM)(fp:List Addr)(cs:List Int),vs=[.ref p,.ref c]∧dQ T H p aJ fp∧aJ.belts.length≤1000∧SqL K H c (cs.map V.int)∧ZU aJ.belts cs.length∧WC aJ.belts∧(∀c∈cs,∃k:Nat,c=(k:Int)∧k<2 ^ 420000)∧
 ∀(r:Addr)(H':Hp),H r=none→Ze H H'→H' r=some (.lst ((aJ.belts.map (h1 cs)).map V.int))→Q (.ref r) H'
section
variable {P:Program}{w:World}{K:Frag}{mg:Str→Option Value}{base:Heap}
theorem KJ(T:Tp K mg):OkN P w base 2 T.cW (KI T):=by
 have f4:=T.a;have f5:=T.e;refine T.cW.F.okX GV (λvs H Q E h=>?_) (λdi A outer s H vs Q E a3 h=>?_)
 ·obtain⟨p,c,aJ,fp,cs,rfl,_⟩:=h
  rfl
 ·have hu:=a3.hu;obtain⟨p,KL,aJ,fp,cs,rfl,bV,hz,a8,eA,hsz,pL,q⟩:=h;refine⟨_,(cm (dS (ly rfl (gL (x:="row") (zs:=["counts"]) (ix:=[1]) (dh vz) ["hall","counts"] rfl rfl (by decide+kernel)) (fW (K:=K) rfl (kK (pv 0) T.a T.bG (o2 T) a3 dw)) (λcl C s H fp=>⟨(d0 (i:=0) (show(["row","counts"]:List Str).Nodup by decide+kernel) rfl (Or.inl rfl)),hG,(dE l8 (dE jP (dF (ixk K) (pv 1) (dF (ixk K) (pv 0) bQ (λ_ _=>rfl)) (λ_ _=>rfl)) (dF (ixk K) (pv 0) bQ (λ_ _=>rfl))) (dE jP (dF (ixk K) (pv 1) (dF (ixk K) (pv 0) bQ (λ_ _=>rfl)) (λ_ _=>rfl)) (dF (ixk K) (pv 0) bQ (λ_ _=>rfl))))⟩)))),?_⟩
  try dsimp only[L2.cxX,L2.ZJ,L2.Zl]
  walk_at "rds";intro u aU bs jd iI g5 ek;have mv:=ek.length;have aN:bs.length<sizeLine:=eE (by rw[mv];exact hz);walk_at "rds";refine YI (fR (SqL.of g5)) aN (λ_=>true) (λi=> .int (h1 cs (aJ.belts.getD i dB))) (λi H' dW hi bS k=>?_) (λi H' dW hi _ bS k=>?_) (λr H' a3 bS jE=>?_)
  ·walk_at "rds";exact k H' (Ze.refl H')
  ·have dx:i<aJ.belts.length:=by omega
   obtain⟨t,h3,fK⟩:=ek.getD (i:=i) dx;rw[h3];obtain⟨df,dO,jJ,l5⟩:=eA.at dx;obtain⟨dk,bL,ff,gj,gn,ei,fy,eX⟩:=hsz i dx;have iL:=bS _ _ fK;unfold h1 at k;generalize aJ.belts.getD i dB=dv at*;have Ct:∀{v:Int},0≤v→v<cs.length→cs.getD v.toNat 0∈cs:=λ{v} kO ht=>by rw[Ye (by omega)];exact qaa _
   obtain⟨k1,bw,mA⟩:=pL _ (Ct df dO);obtain⟨k2,bC,vI⟩:=pL _ (Ct jJ l5);have hD:IntMulOk (cs.getD dv.giver.toNat 0) dv.give:=by rw[bw,fy];exact ZdC mA gn (by decide)
   have il:IntMulOk (cs.getD dv.taker.toNat 0) dv.take:=by rw[bC,eX];exact ZdC vI ei (by decide)
   have k':SqL K H' KL (cs.map V.int):=(iI.trans bS).seq a8;have a1:=Vs df dO;have dj:=Vs jJ l5;dsimp only[B5.v] at iL;walk_at "rds";exact k H' (Ze.refl H')
  ·refine q r H' (f0 iI a3) (iI.trans bS) ?_;rw[jE,qaz.mpr (by simp),mv];refine congrArg (λz=>some (HO.lst z)) ?_;refine qay (by simp) λi aS a2=>?_;have:i<aJ.belts.length:=by simpa using aS
   simp[List.getD,this]
end
def KN{K:Frag}{mg:Str→Option Value}(T:Tp K mg):Sp:=λvs H Q _=>∃(d:Addr)(kvs:List (Key×V))(bn:Fo.ZH)(W:Int→List Fo.Trip)(first w:Int),vs=[.ref d,.int w]∧L2.Rd H d (.dK kvs)∧Ent H kvs bn∧Fo.Z1 W first bn∧bn.length≤60∧w∈Fo.keys bn∧
 ∀(r:Addr)(H':Hp)(hA:List V)(ps:List (Int×Bool)),H r=none→Ze H H'→H' r=some (.lst hA)→ft H' hA ps→fb bn w ps→ps.length≤bn.length→Q (.ref r) H'
section
variable {P:Program}{w:World}{K:Frag}{mg:Str→Option Value}{base:Heap}
theorem Cu(T:Tp K mg):OkN P w base 1 T.cr (KN T):=by
 refine T.cr.F.okX so (λvs H Q E h=>?_) (λdi A outer s H vs Q E a3 h=>?_)
 ·obtain⟨d,kvs,bn,W,first,w,rfl,_⟩:=h
  rfl
 ·have hu:=a3.hu;obtain⟨d,kvs,bn,W,first,w,rfl,hd,g7,bc,qA,hw,q⟩:=h;refine⟨_,(bR (dG (i:=2) so.nd rfl (Or.inl rfl) (hE bp))
     (bR (dG (i:=3) so.nd rfl (Or.inl rfl) (dF (ox hu) (pv 0) (pv 1) (λ_ _=>rfl)))
     (bR (pw PassesOwn.leaving (eo yh (pv 3) Wi (ez _)) (bR (fx (hn (K:=K) rfl qak qaC qaD iT (pv 2) (a6 (h8 (a6 (dF (ixk K) (pv 3) bQ (λ_ _=>rfl)) (a6 (dF (ixk K) (pv 3) bQ (λ_ _=>rfl)) bp))) bp)))
     (cm (dG (i:=3) so.nd rfl (Or.inl rfl) (dF (ox hu) (pv 0) (dF (ixk K) (pv 3) bQ (λ_ _=>rfl)) (λ_ _=>rfl))))))
     (bR (fx (EI (K:=K) rfl qak PySem.F.slot_list_reverse PySem.F.type_list_reverse D2 (pv 2)))
     (cm (dS (pv 2))))))),?_⟩
  try dsimp only[L2.cxX,L2.ZJ,L2.Zl]
  walk_at "rds";refine⟨qav _,λr fF=>?_⟩;have a7:Ze H (upd H r (.lst [])):=dH fF;have fU:(upd H r (.lst [])) r=some (.lst []):=Zd;generalize upd H r (.lst [])=aU at*;obtain⟨i0,KO,w4⟩:=Fo.VI hw;obtain⟨kO,s5,kr⟩:=ZdS g7 bc.nodup w4;walk_at "rds";refine Rd.Zlr (qB hd a7) s5 ?_;walk_at "rds";refine Za9 (λm σ H'=>Ze H H'∧∃(u:Int)(st:Option Fo.Trip)(v:V)(vs:List V)(dL:List (Int×Bool)),σ=[some (.ref d),some (.int w),some (.ref r),some v]∧my H v st∧bn[m]? =some (u,st)∧H' r=some (.lst vs)∧ft H' vs dL∧(∀ps,fb bn u ps→fb bn w (ps++dL.reverse))∧m+dL.length<bn.length) i0 ⟨a7,w,KO,kO,[],[],rfl,kr,w4,fU,.nil,λps h=>by simpa using h,by have:=(GM.mp w4).1;simpa using this⟩ ?_;rintro m σ a4 ⟨bK,u,st,v,vs,dL,rfl,fa,bo,je,d1,tf,lH⟩;have fN:=d1.length;cases st with
  |none=>
   obtain rfl:v= .non:=fa;walk_at "rds";refine⟨rfl,false,rfl,?_⟩;refine ZdH ?_;walk_at "rds";refine⟨r,vs,rfl,rfl,je,?_⟩;have tg:d7 [r] a4 (upd a4 r (.lst vs.reverse)):=h0 (by simp) je (by intro _ z;cases z);have bM:Ze H (upd a4 r (.lst vs.reverse)):=bK.new fF;have hy:(upd a4 r (.lst vs.reverse)) r=some (.lst vs.reverse):=Zd;have KP:=(d1.keep tg.tups).rev;generalize upd a4 r (.lst vs.reverse)=b_ at*;walk_at "rds";exact q r b_ vs.reverse dL.reverse fF bM hy KP (by have:=tf [] (.root bo);simpa using this) (by rw[List.length_reverse];omega)
  |some ka=>
   obtain⟨p,b,al⟩:=ka;obtain⟨t,rfl,ce⟩:=fa;have fK:=bK _ _ ce;have Sn:vs.length<sizeLine:=eE (by omega);obtain⟨_,j,oS,bj,Cv⟩:=bc.steps m u p b al bo;obtain⟨KQ,KR,KS⟩:=ZdS g7 bc.nodup Cv;walk_at "rds";refine⟨rfl,true,rfl,?_⟩;refine ZdB (pS ?_);walk_at "rds";refine⟨by show 2≤sizeLine;decide,λe' g5=>?_⟩;have bM:Ze a4 (upd a4 e' (.tup [V.int b,V.bl al])):=dH g5;have ht:(upd a4 e' (.tup [V.int b,V.bl al])) e'=some (.tup [V.int b,V.bl al]):=Zd;generalize upd a4 e' (.tup [V.int b,V.bl al])=b_ at*;have hy:=bM _ _ je;have iL:=bM _ _ fK;walk_at "rds";have lQ:d7 [r] b_ (upd b_ r (.lst (vs++ [V.ref e']))):=h0 (by simp) hy (by intro _ z;cases z);have c_:Ze H (upd b_ r (.lst (vs++ [V.ref e']))):=(bK.trans bM).new fF;have gR:(upd b_ r (.lst (vs++ [V.ref e']))) r=some (.lst (vs++ [V.ref e'])):=Zd;have KU:=((d1.keep λb xs e=>bM _ _ e).keep lQ.tups).snoc (x:=(b,al)) (lQ.tups _ _ ht);have jX:=lQ.tups _ _ iL;generalize upd b_ r (.lst (vs++ [V.ref e']))=cw at*;walk_at "rds";refine Rd.Zlr (qB hd c_) KR ?_;walk_at "rds";refine⟨j,bj,c_,p,oS,KQ,vs++ [.ref e'],dL++ [(b,al)],rfl,KS,Cv,gR,KU,λps h=>?_,by rw[qap];show j+(dL.length+1)<bn.length;omega⟩;have:=tf _ (.step bo h);rw[List.reverse_append];simpa using this
end
def KW{K:Frag}{mg:Str→Option Value}(T:Tp K mg):Sp:=λvs H Q _=>∃(a b:Addr)(xs ys:List V)(ps eN:List (Int×Bool)),vs=[.ref a,.ref b]∧H a=some (.lst xs)∧H b=some (.lst ys)∧ft H xs ps∧ft H ys eN∧
 ∀k:Nat,k≤ps.length→k≤eN.length→ps.take k=eN.take k→(k=ps.length∨k=eN.length∨ps[k]? ≠eN[k]?)→Q (.int k) H
section
variable {P:Program}{w:World}{K:Frag}{mg:Str→Option Value}{base:Heap}
theorem KX(T:Tp K mg):OkN P w base 1 T.cX (KW T):=by
 refine T.cX.F.okX vC (λvs H Q E h=>?_) (λdi A outer s H vs Q E a3 h=>?_)
 ·obtain⟨a,b,xs,ys,ps,eN,rfl,_⟩:=h
  rfl
 ·have hu:=a3.hu;obtain⟨a,b,xs,ys,ps,eN,rfl,bx,aN,gP,mb,q⟩:=h;have mA:=gP.length;have vI:=mb.length;have ob:=SqL.of (K:=K) bx;have gJ:=SqL.of (K:=K) aN;refine⟨_,(bR (dG (i:=2) vC.nd rfl (Or.inl rfl) bQ)
     (bR (pw PassesOwn.leaving (PW.pt (tI (eo m4 (pv 2) (ey (DG rfl) (by rfl) T.bH qb0 (a6 (ey (gM K) (by rfl) T.g qas (a6 (pv 0) bp)) (a6 (ey (gM K) (by rfl) T.g qas (a6 (pv 1) bp)) bp))) (ez _)) (tH (eo (ia (K:=K) rfl hu) (dF (ixk K) (pv 0) (pv 2) (λ_ _=>rfl)) (dF (ixk K) (pv 1) (pv 2) (λ_ _=>rfl)) (ez _))))) (cm (ya (i:=2) vC.nd rfl (Or.inl rfl) bQ tM)))
     (cm (dS (pv 2))))),?_⟩
  try dsimp only[L2.cxX,L2.ZJ,L2.Zl]
  walk_at "rds";refine Za9 (λm σ H'=>H'=H∧∃k:Nat,σ=[some (.ref a),some (.ref b),some (.int k)]∧m=ps.length-k∧k≤ps.length∧k≤eN.length∧ps.take k=eN.take k) ps.length ⟨rfl,0,rfl,rfl,qav _,qav _,rfl⟩ ?_;rintro m σ H' ⟨rfl,k,rfl,rfl,k1,k2,a5⟩;walk_at "rds";refine Rd.ifD (λc=>?_) (λc=>?_)
  ·have c1:k<ps.length∧k<eN.length:=by split at c<;>omega
   obtain⟨mc,bw,aS⟩:=ZbN gP (GT c1.1);obtain⟨ec,bC,a2⟩:=ZbN mb (GT c1.2);have sR:atI xs (k:Int)=some (.ref mc):=iS bw;have IJ:atI ys (k:Int)=some (.ref ec):=iS bC;walk_at "rds";refine Rd.Znc (AL aS) (AL a2) (AM _ _) (AM _ _) (Ha _ _) ?_;rw[ZkV];walk_at "rds";refine Rd.ifD (λc2=>pS ?_) (λc2=>?_)
   ·refine⟨.int k,rfl,?_⟩;walk_at "rds";refine⟨ps.length-(k+1),by omega,rfl,k+1,rfl,rfl,by omega,by omega,?_⟩;rw[qac c1.1,qac c1.2,a5]
    congr 2
    exact Prod.ext c2.1 c2.2
   ·walk_at "rds";refine q k k1 k2 a5 (.inr (.inr λz=>c2 ?_));rw[GT c1.1,GT c1.2] at z;have gq:=qam z;exact⟨congrArg Prod.fst gq,congrArg Prod.snd gq⟩
  ·walk_at "rds";exact q k k1 k2 a5 (by split at c<;>omega)
end
theorem ft.drop{H:Hp}:∀{vs:List V}{l:List (Int×Bool)}(k:Nat),ft H vs l→ft H (vs.drop k) (l.drop k)
 |_,_,0,h=>h
 |_,_,_+1,.nil=> .nil
 |_,_,k+1,.cons _ r=>ft.drop k r
theorem ft.app{H:Hp}:∀{vs hA:List V}{l Cw:List (Int×Bool)},ft H vs l→ft H hA Cw→ft H (vs++hA) (l++Cw)
 |_,_,_,_,.nil,h=>h
 |_,_,_,_,.cons a r,h=> .cons a (ft.app r h)
theorem Cy{H:Hp}{bW:List (Int×Bool)}:∀{is:List Nat}{ys:List V},Paired (λi v=>∃t,v=V.ref t∧H t=some (.tup [.int (bW.getD i (0,false)).1,.bl (!(bW.getD i (0,false)).2)])) is ys→ft H ys (is.map λi=>((bW.getD i (0,false)).1,!(bW.getD i (0,false)).2))
 |_,_,.nil=> .nil
 |_,_,.cons a r=> .cons a (Cy r)
theorem KY(bW:List (Int×Bool)):((List.range bW.length).map λi=>((bW.getD i (0,false)).1,!(bW.getD i (0,false)).2))=bW.map λx=>(x.1,!x.2):=by
 refine qay (by simp) λi aS a2=>?_;have hi:i<bW.length:=by simpa using a2
 simp[List.getD,hi]
theorem ZfH{xs:List V}{k:Nat}(h:k≤xs.length):iv xs (some (k:Int)) none=xs.drop k:=by
 have bw:HT.sIx xs.length 0 (some (k:Int))=k:=by
  simp only[HT.sIx];rw[if_neg (by omega)];simp;omega
 have bC:HT.sIx xs.length xs.length none=xs.length:=by simp[HT.sIx]
 unfold iv;rw[bw,bC,qaZ (by rw[qbD];exact fm _)]
theorem Paired.flip{dA gp:Type}{P:dA→gp→Prop}:∀{xs:List dA}{ys:List gp},Paired P xs ys→Paired (λy x=>P x y) ys xs
 |_,_,.nil=> .nil
 |_,_,.cons a r=> .cons a (Paired.flip r)
def KZ{K:Frag}{mg:Str→Option Value}(T:Tp K mg):Sp:=λvs H Q _=>∃(p f:Addr)(aJ:HM)(fp b4:List Addr)(F:List (Int×Fo.ZH))(bi:Nat),vs=[.ref p,.ref f,.int bi]∧dQ T H p aJ fp∧H f=some (.lst (b4.map V.ref))∧YR H b4 F∧Fo.WQ (fJ aJ.belts) aJ.names.length F aJ.names.length∧aJ.names.length≤60∧aJ.belts.length≤1000∧ZU aJ.belts aJ.names.length∧bi<aJ.belts.length∧
 ∀(r:Addr)(H':Hp)(hA:List V)(x:Int×Fo.ZH)(pg pt:List (Int×Bool))(k:Nat),Ze H H'→H' r=some (.lst hA)→x∈F→fb x.2 (aJ.belts.getD bi dB).giver pg→fb x.2 (aJ.belts.getD bi dB).taker pt→k≤pg.length→k≤pt.length→pg.take k=pt.take k→(k=pg.length∨k=pt.length∨pg[k]? ≠pt[k]?)→ft H' hA (kf bi pg pt k)→Q (.ref r) H'
section
variable {P:Program}{w:World}{K:Frag}{mg:Str→Option Value}{base:Heap}
theorem K0(T:Tp K mg):OkN P w base 6 T.cY (KZ T):=by
 have f4:=T.a;have f5:=T.e;refine T.cY.F.okX nC (λvs H Q E h=>?_) (λdi A outer s H vs Q E a3 h=>?_)
 ·obtain⟨p,f,aJ,fp,b4,F,bi,rfl,_⟩:=h
  rfl
 ·have hu:=a3.hu;obtain⟨p,f,aJ,fp,b4,F,bi,rfl,bV,bv,w5,fw,bF,hz,eA,nK,q⟩:=h;refine⟨_,(bR (dG (i:=3) nC.nd rfl (Or.inr rfl) (hb (pv 0) T.a T.bZ (qX T) a3 dw (a6 (pv 2) bp)))
     (bR (dG (i:=4) nC.nd rfl (Or.inl rfl) (dF (ixk K) (ly rfl (gL (x:="grown") (zs:=["row"]) (ix:=[3]) (dh sd) ["hall","forest","belt","row","tree","to_giver","to_taker","shared","back"] rfl rfl (by decide+kernel)) (fW (K:=K) rfl (pv 1)) (λcl C s H fp=>⟨(d0 (i:=0) (show(["grown","row"]:List Str).Nodup by decide+kernel) rfl (Or.inl rfl)),(rP (eo (y4 hu) (dF (ixk K) (pv 1) bQ (λ_ _=>rfl)) (pv 0) (by with_unfolding_all rfl))),(pv 0)⟩)) bQ (λ_ _=>rfl)))
     (bR (dG (i:=5) nC.nd rfl (Or.inl rfl) (d8 T.cr (Cu T) a3 dw (a6 (pv 4) (a6 (dF (ixk K) (pv 3) bQ (λ_ _=>rfl)) bp))))
     (bR (dG (i:=6) nC.nd rfl (Or.inl rfl) (d8 T.cr (Cu T) a3 dw (a6 (pv 4) (a6 (dF (ixk K) (pv 3) bQ (λ_ _=>rfl)) bp))))
     (bR (dG (i:=7) nC.nd rfl (Or.inl rfl) (d8 T.cX (KX T) a3 dw (a6 (pv 5) (a6 (pv 6) bp))))
     (bR (uQ (j:=8) (xs:=["step"]) rfl (gL (x:="step") (zs:=[]) (ix:=[]) (dh sd) ["hall","forest","belt","row","tree","to_giver","to_taker","shared","back"] rfl rfl (by decide+kernel)) (EW (K:=K) rfl rfl T.bI (a6 (oa (ow (K:=K) rfl) (pv 6) (n' (pv 7)) n_) bp)) (λcl C s H fp=>⟨(d0 (i:=0) (show(["step"]:List Str).Nodup by decide+kernel) rfl (Or.inl rfl)),hG,(h8 (a6 (dF (ixk K) (pv 0) bQ (λ_ _=>rfl)) (a6 (xV (dF (ixk K) (pv 0) bQ (λ_ _=>rfl))) bp)))⟩) nC.nd rfl (Or.inl rfl))
     (cm (dS (dE (ha K) (dE (ha K) (hE (a6 (h8 (a6 (pv 2) (a6 VZ bp))) bp)) (pv 8)) (oa (ow (K:=K) rfl) (pv 5) (n' (pv 7)) n_)))))))))),?_⟩
  try dsimp only[L2.cxX,L2.ZJ,L2.Zl]
  have lF:=w5.length;have s7:F.length≤aJ.names.length:=by
   have aS:(F.map (·.1)).Nodup:=by
    rw[qaH,qbK];exact fw.rise.imp λh=>Int.ne_of_lt h
   have a2:∀w∈F.map (·.1),0≤w∧w<(aJ.names.length:Int):=λw hw=>by
    obtain⟨x,aT,rfl⟩:=qah.mp hw;exact(fw.tree x aT).2.2
   have:=Fo.UR aS a2;simpa using this
  walk_at "rds";refine⟨p,bi,aJ,fp,rfl,bV,λz=>absurd ⟨by omega,by omega⟩ z,λ_ _ t b aN ce=>?_⟩;have dJ:aJ.belts.getD bi dB=b:=by
   rw[qab] at aN;rw[List.getD,aN]
   rfl
  obtain⟨fC,fV,i8,mx⟩:=eA.at nK;rw[dJ] at fC fV i8 mx q;have jV:H t=some (.tup [.int b.giver,.int b.taker,.int b.give,.int b.take,.int b.start]):=ce;walk_at "rds";refine YI (fR (SqL.of bv)) (eE (by rw[GE];omega)) (λi=>decide (b.giver∈Fo.keys (F.getD i (0,[])).2)) (λi=>(b4.map V.ref).getD i .non) (λi H' dW hi bS k=>?_) (λi H' dW hi _ bS k=>?_) (λg cw bc c_ mS=>?_)
  ·have dx:i<b4.length:=by simpa using hi
   obtain⟨x,aT,kvs,ma,g7⟩:=Paired.get' w5 (GT dx);have bw:(b4.map V.ref).getD i .non= .ref b4[i]:=by simp[List.getD,dx]
   rw[bw];have bC:F.getD i (0,[])=x:=by rw[List.getD,aT];rfl
   rw[bC] at k;have fK:=bS _ _ jV;have dP:(valV kvs (Sum.inl b.giver)).isSome=decide (b.giver∈Fo.keys x.2):=by
    rw[qbr,g7.some,decide_eq_true_iff]
   walk_at "rds";refine Rd.Zow (qB ma bS) ?_;rw[dP];walk_at "rds";exact k _ (Ze.refl _)
  ·walk_at "rds";exact k _ (Ze.refl _)
  ·obtain⟨x0,K1,r7⟩:=fw.all b.giver fC fV;obtain⟨K2,Cz⟩:=qa6 K1;obtain⟨j,x,bj,qr,fq⟩:∃(j:Nat)(x:Int×Fo.ZH),F[j]? =some x∧b.giver∈Fo.keys x.2∧atI (((List.range (b4.map V.ref).length).filter λi=>decide (b.giver∈Fo.keys (F.getD i (0,[])).2)).map λi=>(b4.map V.ref).getD i .non) 0=some ((b4.map V.ref).getD j .non):=by
    have So:=(GM.mp Cz).1;have bo:K2∈(List.range (b4.map V.ref).length).filter λi=>decide (b.giver∈Fo.keys (F.getD i (0,[])).2):=by
     rw[qaF,qao,GE];exact⟨by omega,by rw[List.getD,Cz];simpa using r7⟩
    cases hU:(List.range (b4.map V.ref).length).filter λi=>decide (b.giver∈Fo.keys (F.getD i (0,[])).2) with
    |nil=>rw[hU] at bo;cases bo
    |cons j rest=>
     have CA:j∈(List.range (b4.map V.ref).length).filter λi=>decide (b.giver∈Fo.keys (F.getD i (0,[])).2):=by rw[hU];exact qaY
     rw[qaF,qao,GE] at CA;have i3:j<F.length:=by omega
     have a5:=of_decide_eq_true CA.2;rw[Ye i3] at a5;exact⟨j,F[j],GT i3,a5,iS (j:=0) rfl⟩
   have i3:j<b4.length:=by have:=(GM.mp bj).1;omega
   have CB:=qal bj;obtain⟨d,hd,kvs,ma,g7⟩:=Paired.get' (P:=λ(x:Int×Fo.ZH) d=>∃kvs,L2.Rd H d (.dK kvs)∧Ent H kvs x.2) (Paired.flip w5) bj;have K3:(b4.map V.ref).getD j .non= .ref d:=by simp[List.getD,hd]
   rw[K3] at fq;refine Rd.Znl (SqL.of mS) fq ?_;have jX:=c_ _ _ jV;obtain⟨th,jg,x0,x1⟩:=fw.tree x CB;have sQ:x.2.length≤60:=by
    have:=Fo.UR th.nodup (th.rg ⟨x0,x1⟩ (nE eA));simp[Fo.keys] at this;omega
   have gw:b.taker∈Fo.keys x.2:=by
    obtain⟨i,st,hi⟩:=Fo.VI qr;have dx:=(GM.mp hi).1;have hw:(b.taker,(bi:Int),true)∈fJ aJ.belts b.giver:=Zga nK (WX.mpr (.inl ⟨by rw[dJ],by rw[dJ]⟩));exact jg i _ st dx hi _ hw
   walk_at "rds";refine⟨d,kvs,x.2,fJ aJ.belts,x.1,b.giver,rfl,qB ma c_,g7.keep λc xs e=>c_ _ _ e,th,sQ,qr,?_⟩;intro K4 b3 lY pg hra dt K5 hPa tf hpal;have ti:=c_.trans dt;have o4:=ti _ _ jV;walk_at "rds";refine⟨d,kvs,x.2,fJ aJ.belts,x.1,b.taker,rfl,qB ma ti,g7.keep λc xs e=>ti _ _ e,th,sQ,gw,?_⟩;intro gQ dN lZ pt hrb eB CC w6 hpatb hpbl;have CD:=ti.trans eB;have CF:=eB _ _ K5;have CG:=hPa.keep λc xs e=>eB _ _ e;walk_at "rds";refine⟨K4,gQ,lY,lZ,pg,pt,rfl,CF,CC,CG,w6,?_⟩;intro k k1 k2 a5 hk3;have K6:=SqL.of (K:=K) CF;have K7:=SqL.of (K:=K) CC;have K8:=w6.length;have Sq:=hPa.length;walk_at "rds";refine Rd.Zo7 ?_;walk_at "rds";refine Rd.slL K7 ?_;intro rh hrc;rw[ZfH (by omega)];have e8:Ze dN (upd dN rh (.lst (lZ.drop k))):=dH hrc;have tj:(upd dN rh (.lst (lZ.drop k))) rh=some (.lst (lZ.drop k)):=Zd;generalize upd dN rh (.lst (lZ.drop k))=ed at*;have K9:=((w6.keep λc xs e=>e8 _ _ e).drop k).rev;have hp:(lZ.drop k).length=((pt.drop k).reverse).length:=by simp[K8]
   have sO:=CD.trans e8;walk_at "rds";refine⟨rh,lZ.drop k,rfl,SqL.of tj,?_⟩;refine YA (own:=1) (EX (SqL.of tj)).y (eE (by rw[qbD];omega)) (λi=>[some ((lZ.drop k).reverse.getD i .non)]) (λ_=>rfl) (λ_=>true) (λi v H=>∃t,v=V.ref t∧H t=some (.tup [.int ((pt.drop k).reverse.getD i (0,false)).1,.bl (!((pt.drop k).reverse.getD i (0,false)).2)])) (λ_ _ _ _ e ⟨t,fY,fz⟩=>⟨t,fY,e _ _ fz⟩) (λi er H' v a4 ib hi bS y gZ k=>?_) (λi H' dW hi bS k=>?_) (λkg i H' dW hi a8 hp0 gP bS jL=>?_) (λSr e5 ys jE bS gA d5=>?_)
   ·obtain⟨rfl,rfl⟩:=y;obtain⟨x1,rfl⟩:∃x1,er=[x1]:=by
     match er,gZ with
     | [x1],_=>exact⟨x1,rfl⟩
    walk_at "rds";exact k _ (Ze.refl _)
   ·walk_at "rds";exact k H' (Ze.refl H')
   ·have el:i<((pt.drop k).reverse).length:=by omega
    obtain⟨u,g5,jx⟩:=ZbN K9 (GT el);have bw:(lZ.drop k).reverse.getD i .non= .ref u:=by rw[List.getD,g5];rfl
    rw[bw];rw[Ye el] at jL;have lP:=bS _ _ jx;generalize ((pt.drop k).reverse)[i]=y at*;walk_at "rds";refine⟨by show 2≤sizeLine;decide,λkx gB=>?_⟩;exact jL _ _ (dH gB) ⟨kx,rfl,uR gP gB⟩
   ·have CH:=Cy d5;rw[qaz.mpr (by simp),hp,KY] at CH;have CI:=CH.keep (H':=e5) λc xs e=>j_ _ _ e;have mm:=CI.length;have n1:=e8.trans bS;have K_:=n1.seq K6;have K':=CG.keep λc xs e=>n1 _ _ e;have La:=CD.trans n1;walk_at "rds";refine⟨by show 2≤sizeLine;decide,λe' g5=>?_⟩;have g0:Ze e5 (upd e5 e' (.tup [V.int bi,V.bl true])):=dH g5;have w7:(upd e5 e' (.tup [V.int bi,V.bl true])) e'=some (.tup [V.int bi,V.bl true]):=Zd;generalize upd e5 e' (.tup [V.int bi,V.bl true])=fI at*;walk_at "rds";intro iD jx;have gK:Ze fI (upd fI iD (.lst [V.ref e'])):=dH jx;have w8:(upd fI iD (.lst [V.ref e'])) iD=some (.lst [V.ref e']):=Zd;generalize upd fI iD (.lst [V.ref e'])=fP at*;have o5:=gK _ _ (g0 _ _ gA);have Ss:ys.length≤60:=by rw[mm,GE,List.length_reverse,qbD];omega
    walk_at "rds";refine Rd.ZdP w8 o5 (qaX (eE (by simp;omega))) ?_;intro g6 lP;have jq:Ze fP (upd fP g6 (.lst ([V.ref e']++ys))):=dH lP;have w9:(upd fP g6 (.lst ([V.ref e']++ys))) g6=some (.lst ([V.ref e']++ys)):=Zd;generalize upd fP g6 (.lst ([V.ref e']++ys))=hH at*;have CJ:=(g0.trans gK).trans jq;have Lb:=CJ.seq K_;walk_at "rds";refine Rd.slL Lb ?_;intro tk kW;rw[ZfH (by omega)];have iN:Ze hH (upd hH tk (.lst (lY.drop k))):=dH kW;have w_:(upd hH tk (.lst (lY.drop k))) tk=some (.lst (lY.drop k)):=Zd;generalize upd hH tk (.lst (lY.drop k))=H12 at*;have Lc:=iN _ _ w9;walk_at "rds";refine Rd.ZdP Lc w_ (qaX (eE (by simp;omega))) ?_;intro rj wy;have ks:Ze H12 (upd H12 rj (.lst ([V.ref e']++ys++lY.drop k))):=dH wy;have Ld:(upd H12 rj (.lst ([V.ref e']++ys++lY.drop k))) rj=some (.lst ([V.ref e']++ys++lY.drop k)):=Zd;generalize upd H12 rj (.lst ([V.ref e']++ys++lY.drop k))=mT at*;have w':=(CJ.trans iN).trans ks;have Le:=((gK.trans jq).trans iN).trans ks;walk_at "rds";refine q rj mT _ x pg pt k (La.trans w') Ld CB tf hpatb k1 k2 a5 hk3 ?_;exact ft.app (ft.app (.cons ⟨e',rfl,Le _ _ w7⟩ .nil) (CI.keep λc xs e=>w' _ _ e)) ((K'.keep λc xs e=>w' _ _ e).drop k)
end
def Lf{K:Frag}{mg:Str→Option Value}(T:Tp K mg):Sp:=λvs H Q _=>∃(p:Addr)(aJ:HM)(fp:List Addr),vs=[.ref p]∧dQ T H p aJ fp∧aJ.names.length≤60∧aJ.belts.length≤1000∧ZU aJ.belts aJ.names.length∧WC aJ.belts∧
 (∀(t r:Addr)(H':Hp)(rs:List Int)(F:List (Int×Fo.ZH)),Ze H H'→H r=none→H' t=some (.tup [.ref r,.non])→H' r=some (.lst (rs.map V.int))→rs.length=aJ.names.length→Fo.WQ (fJ aJ.belts) aJ.names.length F aJ.names.length→(∀x∈F,nG aJ.belts x rs)→(∀j<aJ.belts.length,h1 rs (aJ.belts.getD j dB)=0)→Q (.ref t) H')∧
 (∀(t r:Addr)(H':Hp)(hA:List V)(ring:List (Int×Bool)),Ze H H'→H' t=some (.tup [.non,.ref r])→H' r=some (.lst hA)→ft H' hA ring→nJ aJ.belts ring→Q (.ref t) H')
section
variable {P:Program}{w:World}{K:Frag}{mg:Str→Option Value}{base:Heap}
theorem Lg(T:Tp K mg):OkN P w base 8 T.cZ (Lf T):=by
 refine T.cZ.F.okX qu (λvs H Q E h=>?_) (λdi A outer s H vs Q E a3 h=>?_)
 ·obtain⟨p,aJ,fp,rfl,_⟩:=h
  rfl
 ·have hu:=a3.hu;obtain⟨p,aJ,fp,rfl,bV,bF,hz,eA,hsz,q,dI⟩:=h;refine⟨_,(bR (dG (i:=1) qu.nd rfl (Or.inl rfl) (d8 T.cQ (JT T) a3 dw (a6 (pv 0) bp)))
     (bR (dG (i:=2) qu.nd rfl (Or.inl rfl) (d8 T.cV (Ks T) a3 dw (a6 (pv 0) (a6 (pv 1) bp))))
     (bR (gh PassesOwn.leaving rfl (qd (K:=K) rfl rfl T.k (a6 (d8 T.cW (KJ T) a3 dw (a6 (pv 0) (a6 (pv 2) bp))) bp)) (jS (K:=K) (n:=2) rfl rfl (f8 (d0 (i:=3) qu.nd rfl (Or.inl rfl)) (f8 (d0 (i:=4) qu.nd rfl (Or.inl rfl)) jI))) (cm (eU (eo (ov (K:=K) rfl hu) (pv 4) bQ (ez _)) (cm (dS (h8 (a6 Wi (a6 (d8 T.cY (K0 T) a3 dw (a6 (pv 0) (a6 (pv 1) (a6 (pv 3) bp)))) bp))))) e7)))
     (cm (dS (h8 (a6 (pv 2) (a6 Wi bp)))))))),?_⟩
  try dsimp only[L2.cxX,L2.ZJ,L2.Zl]
  walk_at "rds";refine⟨p,aJ,fp,rfl,bV,bF,hz,eA,λf b4 aU F Ce a7 na m' fw s7=>?_⟩;have jC:=bV.same a7;have jp:∀d∈b4,d∉fp:=λd hd y=>bV.dom d y (m' d hd);have nX:∀d∈b4,d≠f:=λd hd y=>by
   obtain⟨i,hi,e⟩:=qaw hd;obtain⟨x,_,kvs,a,_⟩:=Paired.get' na.trees (GT hi);rw[e,y,na.at_] at a;cases a
  walk_at "rds";refine⟨p,f,aJ,fp,b4,F,rfl,jC,na.at_,na.trees.r,jp,nX,fw,eA,bF,hsz,λr a4 rs fF tg qc je hp hQ=>?_⟩;have bK:Ze H a4:=λb o e=>tg.keep _ _ (a7 _ _ e) (λy=>by have:=m' b y;rw[e] at this;cases this);have jA:=tg.keep _ _ na.at_ (λy=>nX f y rfl);have fh:=bV.same bK;have sU:H r=none:=f0 a7 fF;have qQ:=Zgh eA bF fw hp hQ;walk_at "rds";refine⟨p,r,aJ,fp,rs,rfl,fh,hz,.of je,by rw[hp];exact eA,hsz,λc a8=>(by obtain⟨k,a,_,b⟩:=qQ.pos c a8;exact⟨k,a,b⟩),λc b_ mL bM wF=>?_⟩;have hy:=bM _ _ je;have hx:=bM _ _ jA;have ik:=qc.same bM;have xa:=bK.trans bM;walk_at "rds";refine WY (qe (SqL.of wF)) (λi σ H'=>Ze b_ H'∧(∀j<i,h1 rs (aJ.belts.getD j dB)=0)∧∃a1 dj,σ=[some (.ref p),some (.ref f),some (.ref r),a1,dj]) ⟨Ze.refl b_,λj bj=>absurd bj (qa0 _),_,_,rfl⟩ (λi σ H' h=>h.1) ?_ ?_
  ·rintro i σ cw v b3 hi ⟨c_,hf,a1,dj,rfl⟩ ⟨t,ce,rfl,rfl⟩;have dx:i<aJ.belts.length:=by simpa using hi
   have fX:((aJ.belts.map (h1 rs)).map V.int).getD i .non= .int (h1 rs (aJ.belts.getD i dB)):=by
    rw[Ye dx];simp[List.getD,dx]
   rw[fX];refine Rd.VO (.of Zd) rfl ?_;have dt:Ze cw (upd cw t (.tup [V.int i,V.int (h1 rs (aJ.belts.getD i dB))])):=dH ce;generalize upd cw t (.tup [V.int i,V.int (h1 rs (aJ.belts.getD i dB))])=b3 at*;walk_at "rds";refine UK (λc=>?_) (λc=>?_)
   ·have tl:=c_.trans dt;walk_at "rds";refine⟨p,f,aJ,fp,b4,F,i,rfl,bV.same (xa.trans tl),tl _ _ hx,ik.same tl,fw,bF,hz,eA,dx,?_⟩;intro dX dN hA x pg pt k eB qU aT bb bT k1 k2 a5 hk3 d1;walk_at "rds";refine⟨by show 2≤sizeLine;decide,λt' jV=>?_⟩;exact dI t' dX _ hA _ (((xa.trans tl).trans eB).trans (dH jV)) Zd (dH jV _ _ qU) (d1.keep λb xs e=>dH jV _ _ e) (Hg eA hsz fw hQ dx (by simpa using c) aT bb bT a5 hk3)
   ·walk_at "rds";refine⟨c_.trans dt,λj bj=>?_,_,_,rfl⟩;rcases qbg.mp bj with z|z
    ·exact hf j z
    ·rw[z];simpa using c
  ·rintro σ cw ⟨c_,hf,a1,dj,rfl⟩;have gR:=c_ _ _ hy;walk_at "rds";refine⟨by show 2≤sizeLine;decide,λt ce=>?_⟩;exact q t r _ rs F ((xa.trans c_).trans (dH ce)) sU Zd (dH ce _ _ gR) hp fw hQ (λj bj=>hf j (by simpa using bj))
end
def Lh{K:Frag}{mg:Str→Option Value}(T:Tp K mg):Sp:=λvs H Q E=>∃(p:Addr)(aJ:HM)(fp:List Addr),vs=[.ref p]∧dQ T H p aJ fp∧aJ.names.length≤60∧aJ.belts.length≤1000∧ZU aJ.belts aJ.names.length∧WC aJ.belts∧
 (∀(r:Addr)(H':Hp)(rs:List Int),Ze H H'→H r=none→H' r=some (.lst (rs.map V.int))→Rts aJ.belts aJ.names.length (λ_=>1) rs→(rs.sum≤400→Q (.ref r) H')∧(400<rs.sum→E (.ref T.T) none H'))∧
 (∀(ring:List (Int×Bool))(H':Hp),Ze H H'→nJ aJ.belts ring→E (.ref T.i) none H')
section
variable {P:Program}{w:World}{K:Frag}{mg:Str→Option Value}{base:Heap}
theorem Li(T:Tp K mg):OkN P w base 9 T.c0 (Lh T):=by
 refine T.c0.F.okX AC (λvs H Q E h=>?_) (λdi A outer s H vs Q E a3 h=>?_)
 ·obtain⟨p,aJ,fp,rfl,_⟩:=h
  rfl
 ·have hu:=a3.hu;obtain⟨p,aJ,fp,rfl,bV,bF,hz,eA,hsz,q,f9⟩:=h;refine⟨_,(bR (dG (i:=1) AC.nd rfl (Or.inl rfl) (dF (ixk K) (d8 T.cZ (Lg T) a3 dw (a6 (pv 0) bp)) bQ (λ_ _=>rfl)))
     (bR (eU (eo rB (pv 1) Wi (ez _)) (cm (i1 T.x.g T.x.e qaq rfl (a6 Yu bp))) e7)
     (bR (eU (eo m5 (ey (EH (K:=K) rfl rfl) (by rfl) T.b7 PyProof.Rows.boot_sum (a6 (pv 1) bp)) (ji (v:= .int 400) rfl T.bg ⟨_,rfl⟩) (ez _)) (cm (i1 T.aw.g T.aw.e qaq rfl (a6 Yu bp))) e7)
     (cm (dS (pv 1)))))),?_⟩
  try dsimp only[L2.cxX,L2.ZJ,L2.Zl]
  walk_at "rds";refine⟨p,aJ,fp,rfl,bV,bF,hz,eA,hsz,λt r H' rs F a7 a3 ce fU hp fw hQ hf=>?_,λt r H' hA ring a7 ce fU hpc hok=>?_⟩
  ·have qQ:=Zgh eA bF fw hp hQ;have d5:Rts aJ.belts aJ.names.length (λ_=>1) rs:=⟨hp,λc a8=>(by obtain⟨k,a,b,_⟩:=qQ.pos c a8;omega),λb aN=>(by
    obtain⟨i,hi,e⟩:=qaw aN;have:=hf i hi;rw[Ye hi,e] at this;unfold h1 at this;rw[qbX b.give,qbX b.take];omega),F,fw,hQ⟩
   obtain⟨c8,dI⟩:=q r H' rs a7 a3 fU d5;walk_at "rds";refine⟨rfl,?_⟩;walk_at "rds";refine Rd.ZoT (.of fU) ?_;walk_at "rds";refine UK (λc=>?_) (λc=>?_)
   ·walk_at "rds";exact dI (by have:=of_decide_eq_true c;omega)
   ·walk_at "rds";exact c8 (by
     by_cases y:400<rs.sum
     ·exact absurd (decide_eq_true y) c
     ·omega)
  ·walk_at "rds";refine⟨rfl,?_⟩;walk_at "rds";exact f9 ring _ a7 hok
end
def Lj{K:Frag}{mg:Str→Option Value}(T:Tp K mg):Sp:=λvs H Q E=>∃(c d:Addr)(kept ms:List Int)(f:Int→Int)(mn:Int),vs=[.ref c,.ref d]∧SqL K H c (kept.map V.int)∧kept.Nodup∧kept.length≤100∧Rd H d (.dK (turnsK f ms))∧ms.length≤100∧mn∈ms∧(∀m∈ms,mn≤m)∧mn∈kept∧(∀m∈ms,m≠mn→m∉kept)∧
 ∀(e:Addr)(o:Obj)(H':Hp)(kv:List (Key×V)),H e=none→Ze (upd H d (.frz o (.dK (turnsK f ms)))) H'→H' e=some (.dK kv)→(∀x,x∈kept∨x∈ms→valV kv (Sum.inl x)=some (V.int (qL kept ms mn x)))→Q (.ref e) H'
section
variable {P:Program}{w:World}{K:Frag}{mg:Str→Option Value}{base:Heap}
theorem Lk(T:Tp K mg):OkN P w base 1 T.c1 (Lj T):=by
 refine T.c1.F.okX qv (λvs H Q E h=>?_) (λdi A outer s H vs Q E a3 h=>?_)
 ·obtain⟨c,d,kept,ms,f,mn,rfl,_⟩:=h
  rfl
 ·have hu:=a3.hu;obtain⟨c,d,kept,ms,f,mn,rfl,a8,fg,lX,hd,o3,kM,rk,rb,Su,q⟩:=h;refine⟨_,(bR (dG (i:=2) qv.nd rfl (Or.inl rfl) pP)
     (bR (gh PassesOwn.leaving rfl (qd (K:=K) rfl rfl T.k (a6 (pv 0) bp)) (jS (K:=K) (n:=2) rfl rfl (f8 (d0 (i:=3) qv.nd rfl (Or.inl rfl)) (f8 (d0 (i:=4) qv.nd rfl (Or.inl rfl)) jI))) (cm (kA (pv 3) (lb (pv 2) (pv 4) (nl hu)))))
     (bR (gh PassesOwn.leaving rfl (F' (pv 1)) (d0 (i:=5) qv.nd rfl (Or.inl rfl)) (cm (kA (dF (ox hu) (pv 2) (ey (zM rfl) (by rfl) T.bH qb0 (a6 (pv 1) bp)) (λ_ _=>rfl)) (lb (pv 2) (pv 5) (nl hu)))))
     (cm (dS (pv 2)))))),?_⟩
  try dsimp only[L2.cxX,L2.ZJ,L2.Zl]
  walk_at "rds";intro e bD;have a7:Ze H (upd H e (.dK [])):=dH bD;have ht:(upd H e (.dK [])) e=some (.dK []):=Zd;have ku:d≠e:=λz=>by
   rw[z] at hd;rcases hd with h|⟨o,h⟩<;>(rw[h] at bD;cases bD)
  generalize upd H e (.dK [])=aU at*;have Sv:=a7.seq a8;walk_at "rds";refine WY (qe a8) (λi σ H'=>Ze H H'∧(∃dM d6,σ=[some (.ref c),some (.ref d),some (.ref e),dM,d6,none])∧∃kv,H' e=some (.dK kv)∧kv.length≤i∧∀x∈kept.take i,valV kv (Sum.inl x)=some (V.int (idxL kept x:Nat))) ⟨a7,⟨_,_,rfl⟩,[],ht,qav _,by simp⟩ (λi σ H' h=>h.1) ?_ ?_
  ·rintro i σ a4 v b_ hi ⟨bK,⟨dM,d6,rfl⟩,kv,lC,hN,jh⟩ ⟨t,ce,rfl,rfl⟩;have dx:i<kept.length:=by rw[GE] at hi;exact hi
   have dZ:(kept.map V.int).getD i .non=V.int kept[i]:=by simp[List.getD,dx]
   rw[dZ];have bM:Ze a4 (upd a4 t (.tup [.int i,V.int kept[i]])):=dH ce;have sK:(upd a4 t (.tup [.int i,V.int kept[i]])) t=some (.tup [.int i,V.int kept[i]]):=Zd;generalize upd a4 t (.tup [.int i,V.int kept[i]])=b_ at*;refine Rd.VO (.of sK) rfl ?_;have wM:=bM _ _ lC;have Ll:idxL kept kept[i]=i:=by
    have aS:=(lK (qaa dx)).1;have a2:=ZbP (qaa dx);rw[GT a2] at aS;exact(qb4 fg).mp (qam aS)
   have Lm:kv.length<sizeLine:=eE (by omega);have gw:kept.take (i+1)=kept.take i++ [kept[i]]:=qac dx;rw[gw];generalize kept[i]=w at*;walk_at "rds";refine⟨(bK.trans bM).new bD,⟨_,_,rfl⟩,_,Zd,by have:=Vf kv (Sum.inl w:Key) (V.int i);omega,λx aT=>?_⟩;rw[pO]
   by_cases tm:x=w
   ·rw[if_pos (by rw[tm]),tm,Ll]
   ·rw[if_neg (λz=>tm (qbU z))];rcases qax.mp aT with z|z
    ·exact jh x z
    ·exact absurd (FM.mp z) tm
  ·rintro σ a4 ⟨bK,⟨dM,d6,rfl⟩,kv,lC,hN,jh⟩;rw[GE,qaB] at jh;rw[GE] at hN;have hX:L2.Rd a4 d (.dK (turnsK f ms)):=hd.imp (λh=>bK _ _ h) λ⟨o,h⟩=>⟨o,bK _ _ h⟩;walk_at "rds";refine⟨.ref d,rfl,d,_,rfl,hX,λo=>?_⟩;have jp:(upd a4 d (.frz o (.dK (turnsK f ms)))) d=some (.frz o (.dK (turnsK f ms))):=Zd;have Ln:(upd a4 d (.frz o (.dK (turnsK f ms)))) e=some (.dK kv):=by rw[b2 ku.symm];exact lC
   have Lo:∀b dz,(upd H d (.frz o (.dK (turnsK f ms)))) b=some dz→(upd a4 d (.frz o (.dK (turnsK f ms)))) b=some dz:=λb dz aN=>by
    by_cases z:b=d
    ·rw[z,Zd] at aN⊢;exact aN
    ·rw[b2 z] at aN⊢;exact bK _ _ aN
   generalize upd a4 d (.frz o (.dK (turnsK f ms)))=b_ at*;have tn:(turnsK f ms).length=ms.length:=by unfold turnsK;rw[GE]
   have oM:(turnsK f ms).map (·.1)=ms.map Sum.inl:=by unfold turnsK;rw[qbh];rfl
   have q6:0<(turnsK f ms).length:=by rw[tn];exact qck kM
   refine WY (H0:=hid b_ e) (Ga (H:=hid b_ e) (by rw[Yj ku];exact jp)) (λi σ H'=>Ze (hid b_ e) H'∧(∃eF,σ=[some (.ref c),some (.ref d),some (.ref e),dM,d6,eF])∧∃kv,H' e=some (.dK kv)∧kv.length≤100+i∧(∀x∈kept,x∉ms→valV kv (Sum.inl x)=some (V.int (idxL kept x:Nat)))∧valV kv (Sum.inl mn)=some (V.int (idxL kept mn:Nat))∧∀x∈ms.take i,valV kv (Sum.inl x)=some (V.int (idxL kept mn:Nat))) ⟨j_,⟨_,rfl⟩,kv,Ln,by omega,λx aT _=>jh x aT,jh mn rb,by simp⟩ (λi σ H' h=>h.1) ?_ ?_
   ·rintro i σ cw v b3 hi ⟨c_,⟨eF,rfl⟩,tp,lV,Lp,xb,xc,tq⟩ ⟨rfl,Lq,CK,rfl⟩;have dx:i<ms.length:=by omega
    have e_:Lq=(Sum.inl ms[i],V.int (f ms[i])):=by
     have:(turnsK f ms)[i]? =some (Sum.inl ms[i],V.int (f ms[i])):=by unfold turnsK;simp[dx]
     rw[this] at CK;exact(qam CK).symm
    rw[e_];have hB:L2.Rd b3 d (.dK (turnsK f ms)):= .inr ⟨o,c_ _ _ (by rw[Yj ku];exact jp)⟩;have gw:ms.take (i+1)=ms.take i++ [ms[i]]:=qac dx;have Lr:=qaa dx;rw[gw];generalize ms[i]=m at*;have Lm:tp.length<sizeLine:=eE (by omega);show VB 5 (V.int m) _ _ _;walk_at "rds";refine Rd.Zm8 hB oM q6 λM lq Ls=>?_;obtain rfl:M=mn:=Int.le_antisymm (Ls mn kM) (rk M lq);refine Rd.Zlk lV xc ?_;walk_at "rds";refine⟨c_.new ot,⟨_,rfl⟩,_,Zd,by have:=Vf tp (Sum.inl m:Key) (V.int (idxL kept M:Nat));omega,λx aT mU=>?_,?_,λx aT=>?_⟩
    ·rw[pO,if_neg (λz=>mU (by rw[qbU z];exact Lr))];exact xb x aT mU
    ·rw[pO]
     split
     ·rfl
     ·exact xc
    ·rw[pO]
     split
     ·rfl
     ·rename_i eO;rcases qax.mp aT with z|z
      ·exact tq x z
      ·exact absurd (by rw[FM.mp z]) eO
   ·rintro σ cw ⟨c_,⟨eF,rfl⟩,tp,lV,Lp,xb,xc,tq⟩;rw[tn,qaB] at tq;walk_at "rds";refine q e o cw tp bD (λb dz aN=>c_ _ _ ?_) lV λx aT=>?_
    ·have k7:b≠e:=λz=>by
      rw[z,b2 ku.symm,bD] at aN;cases aN
     rw[Yj k7];exact Lo b dz aN
    ·unfold qL
     by_cases mU:x∈ms
     ·rw[if_pos mU];exact tq x mU
     ·rw[if_neg mU];exact xb x (aT.resolve_right mU) mU
end
def CL{K:Frag}{mg:Str→Option Value}(T:Tp K mg):Sp:=λvs H Q E=>∃(p a_ h g:Addr)(aJ:HM)(fp:List Addr)(cf:List Int),vs=[.ref p,.ref h,.ref g]∧H p=some (.ins T.c a_ [])∧dQ T H h aJ fp∧H g=some (.lst (cf.map V.int))∧cf.length≤30∧W5 aJ.names∧aJ.belts.length≤60∧ZU aJ.belts aJ.names.length∧WC aJ.belts∧
 (∀k<5,Ends aJ cf k→∀H',(∀b o,H b=some o→b≠p→H' b=some o)→E (.ref (kC T k)) none H')∧(∀jm,sF aJ cf jm→∀(H':Hp)(ad:List Addr),jw T H' p jm ad→(∀b o,H b=some o→b≠p→H' b=some o)→(∀x∈ad,x≠p→H x=none)→Q .non H')
theorem ZeS{K:Frag}{mg:Str→Option Value}{T:Tp K mg}{H:Hp}{h g:Addr}{aJ:HM}{fp:List Addr}{cf:List Int}{Q:Addr→Hp→Prop}{E:XK}(bV:dQ T H h aJ fp)(bc:H g=some (.lst (cf.map V.int)))(nP:cf.length≤30)(ij:W5 aJ.names)(km:aJ.belts.length≤60)(eA:ZU aJ.belts aJ.names.length)(hsz:WC aJ.belts)
  (e:∀k<5,Ends aJ cf k→∀H',Ze H H'→E (.ref (kC T k)) none H') (q:∀jm,sF aJ cf jm→∀(p:Addr)(H':Hp)(ad:List Addr),jw T H' p jm ad→Ze H H'→Q p H'):
  ∀x a_,H x=none→H a_=none→a_≠x→CL T (.ref x::([.ref h,.ref g]++ [])) (upd (upd H a_ (.own x)) x (.ins T.c a_ [])) (λv a4=>v= .non∧Q x a4) E:=by
 intro x a_ aT jW ne;have bS:Ze H (upd (upd H a_ (.own x)) x (.ins T.c a_ [])):=λb o e=>by rw[b2 (d9 e aT),b2 (d9 e jW)];exact e
 exact⟨x,a_,h,g,aJ,fp,cf,rfl,Zd,bV.same bS,bS _ _ bc,nP,ij,km,eA,hsz,λk a5 c H' z=>e k a5 c H' λb o y=>z b o (bS b o y) (d9 y aT),λjm bo H' ad bj z _=>⟨rfl,q jm bo x H' ad bj λb o y=>z b o (bS b o y) (d9 y aT)⟩⟩
section
variable {P:Program}{w:World}{K:Frag}{mg:Str→Option Value}{base:Heap}
theorem Lu(T:Tp K mg):OkI P w mg base 10 T.c2 (CL T):=by
 have f4:=T.a;have f5:=T.e;have xf:=T.Q;have xg:=T.af;refine T.c2.F.okX sr (λvs H Q E h=>?_) (λdi A outer s H vs Q E a3 h=>?_)
 ·obtain⟨p,a_,h,g,aJ,fp,cf,rfl,_⟩:=h
  rfl
 ·have hu:=a3.hu;obtain⟨p,a_,bx,g,aJ,fp,cf,rfl,bb,bV,bc,nP,ij,km,eA,hsz,pa,CM⟩:=h;have mK:p∉fp:=by
   intro z;obtain⟨I9,a,b,bs,rfl,aS,a2,bU,dD,hv,d2⟩:=bV;simp only[qad,qaR,or_false] at z;rcases z with rfl|rfl|rfl|rfl
   ·rw[aS] at bb
    injection bb with e
    injection e with bw bC dP
    cases dP
   ·rw[a2] at bb;cases bb
   ·rw[bU] at bb;cases bb
   ·rw[dD] at bb;cases bb
  have H9:=ij.2.2;refine⟨_,(bR (fx (d8 T.cA (H3 T) a3 dw (a6 (pv 1) (a6 (pv 2) bp))))
     (bR (dG (i:=3) sr.nd rfl (Or.inr rfl) (d8 T.cB (H6 T) a3 dw (a6 (d8 T.c0 (Li T) a3 dw (a6 (pv 1) bp)) (a6 (ey (Gc (K:=K) rfl) (by rfl) T.br PyProof.Rows.boot_sorted (a6 (pv 2) bp)) bp))))
     (bR (dG (i:=4) sr.nd rfl (Or.inr rfl) (kK (pv 1) T.a T.cb (sN T) a3 dw))
     (bR (dG (i:=5) sr.nd rfl (Or.inr rfl) (ey (zM rfl) (by rfl) T.bH qb0 (a6 (pv 3) bp)))
     (bR (jQ (K:=K) rfl (pv 0) (d8 T.cM (Jk T) a3 dw (a6 (pv 1) (a6 (pv 3) bp))) rfl)
     (bR (jQ (K:=K) rfl (pv 0) (ly rfl (gL (x:="work") (zs:=["turns","first"]) (ix:=[3,5]) (dh se) ["self","hall","group","turns","names","first"] rfl rfl (by decide+kernel)) (l6 rfl T.q (a6 (ey (gM K) (by rfl) T.g qas (a6 (pv 4) bp)) bp)) (λcl C s H fp=>⟨(d0 (i:=0) (show(["work","turns","first"]:List Str).Nodup by decide+kernel) rfl (Or.inl rfl)),(rP (PW.pt (l4 (eo (ia (K:=K) rfl hu) (pv 0) (pv 2) (ez _)) (mX (eo (qa hu) (pv 0) (pv 1) (by with_unfolding_all rfl)))))),(pv 0)⟩)) rfl)
     (bR (jQ (K:=K) rfl (pv 0) (hn (K:=K) rfl qak qbz qbA vg (fS (K:=K) rfl (pv 0) rfl) (a6 (pv 5) bp)) rfl)
     (bR (jQ (K:=K) rfl (pv 0) (ly rfl (gL (x:="work") (zs:=["names"]) (ix:=[4]) (dh se) ["self","hall","group","turns","names","first"] rfl rfl (by decide+kernel)) (fW (K:=K) rfl (fS (K:=K) rfl (pv 0) rfl)) (λcl C s H fp=>⟨(d0 (i:=0) (show(["work","names"]:List Str).Nodup by decide+kernel) rfl (Or.inl rfl)),hG,(dF (ixk K) (pv 1) (pv 0) (λ_ _=>rfl))⟩)) rfl)
     (cm (jQ (K:=K) rfl (pv 0) (d8 T.cN (Ju T) a3 dw (a6 (pv 1) (a6 (pv 3) (a6 (d8 T.c1 (Lk T) a3 dw (a6 (fS (K:=K) rfl (pv 0) rfl) (a6 (pv 3) bp))) bp)))) rfl)))))))))),?_⟩
  try dsimp only[L2.cxX,L2.ZJ,L2.Zl]
  walk_at "rds";refine⟨bx,g,aJ,fp,cf,rfl,bV,.of bc,by omega,λz=>pa 0 (by decide) z H λb o e _=>e,λz y=>pa 1 (by decide) ⟨z,y⟩ H λb o e _=>e,λl0 CN=>?_⟩;have hok:Zah aJ.names.length cf:=⟨l0.1,CN,l0.2⟩;walk_at "rds";refine⟨bx,aJ,fp,rfl,bV,by omega,by omega,eA,hsz,λr aU rs a7 fF fU d5=>?_,λring H' a7 a3=>pa 2 (by decide) ⟨hok,ring,a3⟩ H' λb o e _=>a7 b o e⟩;refine⟨λpb=>?_,λLv=>pa 3 (by decide) ⟨hok,rs,d5,Lv⟩ aU λb o e _=>a7 b o e⟩;walk_at "rds";refine Rd.Zok (.of (a7 _ _ bc)) (by omega) (λrl ms xh kc Lw=>?_);have bK:Ze aU (upd aU rl (.lst (ms.map V.int))):=dH xh;have CO:(upd aU rl (.lst (ms.map V.int))) rl=some (.lst (ms.map V.int)):=Zd;generalize upd aU rl (.lst (ms.map V.int))=a4 at*;have fg:ms.Nodup:=kc.nodup_iff.mpr hok.2.1;have kn:∀m∈ms,0≤m∧m<(aJ.names.length:Int):=λm bo=>hok.2.2 m (kc.mem_iff.mp bo);have xi:ms≠[]:=λe=>by rw[e] at kc;exact hok.1 kc.symm.eq_nil
  have o3:ms.length≤30:=by rw[kc.length_eq];exact nP
  have hp:=d5.len;have qR:=d5.pos;obtain⟨Jn,xj⟩:=Zeo qR fg xi (by rw[hp];exact kn);have CP:∀x∈rs,1≤x∧x≤400:=λx aT=>⟨qR x aT,by have:=Zl0 (λr a3=>(by have:=qR r a3;omega)) x aT;omega⟩;walk_at "rds";refine⟨r,rl,rs,ms,rfl,.of (bK _ _ fU),.of CO,xi,fg,by omega,by rw[hp];exact kn,λx aT=>(by have:=CP x aT;omega),λd b_ nU bM rc=>?_⟩;have ii:=a7.trans (bK.trans bM);have fE:=bV.same ii;have qZ:=ii _ _ bb;have Lx:∀m∈ms,d3 rs ms m≤400:=λm bo=>by
   obtain⟨aS,a2,_⟩:=xj m bo;obtain⟨bU,dD⟩:=kn m bo;have a5:m.toNat<rs.length:=by omega
   have e:rs.getD m.toNat 0=rs[m.toNat]:=by simp[List.getD,a5]
   have:=CP _ (qaa a5);omega
  have nV:∀m∈ms,1≤d3 rs ms m:=λm bo=>(xj m bo).1;have xk:∀mn bW,vW aJ rs ms mn bW=⟨bW.map λw=>ms.getD w 0,gm aJ.names.length ms mn,idxL (gf aJ.names.length ms mn) mn,(gm aJ.names.length ms mn).map λw=>aJ.names.getD w "",lL (d3 rs ms) ms (qL (gf aJ.names.length ms mn) ms mn) aJ.belts⟩:=λ_ _=>rfl;generalize rm:d3 rs ms=f at*;have tr:H d=none:=f0 (a7.trans bK) nU;clear nU a7 bK bM xh CO fF fU aU a4 xj;walk_at "rds";refine⟨bx,aJ,fp,rfl,fE,λiK cw nQ c_ sP=>?_⟩;have kq:=ii.trans c_;have iJ:=bV.same kq;have hB:=c_ _ _ rc;have o8:=kq _ _ bb;have tn:(turnsK f ms).length=ms.length:=by unfold turnsK;rw[GE]
  have oM:(turnsK f ms).map (·.1)=ms.map Sum.inl:=by unfold turnsK;rw[qbh];rfl
  have q6:0<(turnsK f ms).length:=by rw[tn];exact List.length_pos_iff.mpr xi
  walk_at "rds";refine Rd.Zm8 (.inl hB) oM q6 λmn kM rk=>?_;walk_at "rds";refine⟨bx,d,aJ,fp,f,ms,rfl,iJ,ij,km,hB,fg,o3,kn,nV,by omega,λbW et gS kX=>?_⟩;have xl:qM aJ cf rs ms bW et:=⟨hok,d5,pb,kc,Lw,by rw[rm];exact gS,by rw[rm];exact kX⟩;refine⟨λdu H' dt=>pa 4 (by decide) ⟨rs,ms,bW,et,xl,by rw[rm];exact du⟩ H' λb o e _=>dt _ _ (kq _ _ e),λdu a b3 qY dt CQ=>?_⟩;have pq:∀(H':Hp)(ad:List Addr),jw T H' p (vW aJ rs ms mn bW) ad→(∀b o,H b=some o→b≠p→H' b=some o)→(∀x∈ad,x≠p→H x=none)→Q .non H':=CM _ ⟨rs,ms,bW,et,mn,xl,by rw[rm];exact du,kM,rk,rfl⟩;clear pa CM xl rm du gS kX;have q7:=kq.trans dt;have q0:=q7 _ _ bb;have jy:p≠a:=d9 o8 qY;have lN:p≠d:=d9 bb tr;have CS:p≠iK:=d9 qZ nQ;have jY:=dt _ _ hB;have CT:=dt _ _ sP;have Ly:H a=none:=f0 kq qY;show Zd6 0 _ _ _;walk_at "rds";have f1:d7 [p] b3 (upd b3 p (.ins T.c a_ [("inner_row",.ref a)])):=h0 (by simp) q0 (by intro _ z;cases z);have lS:d7 [p] H (upd b3 p (.ins T.c a_ [("inner_row",.ref a)])):=q7.frame.trans f1;have nT:(upd b3 p (.ins T.c a_ [("inner_row",.ref a)])) p=some (.ins T.c a_ [("inner_row",.ref a)]):=Zd;have xm:=f1.keep _ _ CQ (by simpa using jy.symm);have lU:=f1.keep _ _ jY (by simpa using lN.symm);have xn:=f1.keep _ _ CT (by simpa using CS.symm);generalize upd b3 p (.ins T.c a_ [("inner_row",.ref a)])=dN at*;clear f1 q0 CQ jY CT qZ o8 hB sP fE iJ dt c_ q7 kq ii;have Lz:=SqL.of (K:=K) xn;have ny:((aJ.names.map V.str).length:Int)=(aJ.names.length:Int):=by simp
  walk_at "rds";refine YI U3 (eE (by simp;omega)) (λi=>nO ms mn i) (λi=> .int (i:Int)) (λi H' dW hi bS k=>?_) (λi H' dW hi _ bS k=>?_) (λb ed kh e8 mP=>?_)
  ·have he:=bS _ _ lU;rw[qbW];unfold nO at k;walk_at "rds"
   by_cases hw:(i:Int)=mn
   ·rw[decide_eq_true hw,Bool.true_or] at k;walk_at "rds";exact k H' (Ze.refl H')
   ·rw[decide_eq_false hw,Bool.false_or] at k;walk_at "rds";rw[ZdW];exact k H' (Ze.refl H')
  ·rw[qbW];walk_at "rds";exact k H' (Ze.refl H')
  have LA:((List.range (((aJ.names.map V.str).length:Nat):Int).toNat).filter λi=>nO ms mn i).map (λi:Nat=>V.int (i:Int))=(gf aJ.names.length ms mn).map V.int:=by
   unfold gf gm;rw[qab,GE,qbh]
   rfl
  rw[LA] at mP;have q2:=e8 _ _ nT;have jz:p≠b:=d9 nT kh;have LB:H b=none:=by
   cases e:H b with
   |none=>rfl
   |some o=>
    by_cases z:b=p
    ·exact absurd z jz.symm
    ·rw[lS.keep _ _ e (by simpa using z)] at kh;cases kh
  have hv:a≠b:=d9 xm kh;walk_at "rds";have lT:d7 [p] ed (upd ed p (.ins T.c a_ [("inner_row",.ref a),("kept",.ref b)])):=h0 (by simp) q2 (by intro _ z;cases z);have mM:d7 [p] dN (upd ed p (.ins T.c a_ [("inner_row",.ref a),("kept",.ref b)])):=e8.frame.trans lT;have o_:(upd ed p (.ins T.c a_ [("inner_row",.ref a),("kept",.ref b)])) p=some (.ins T.c a_ [("inner_row",.ref a),("kept",.ref b)]):=Zd;have xo:=lT.keep _ _ mP (by simpa using jz.symm);generalize upd ed p (.ins T.c a_ [("inner_row",.ref a),("kept",.ref b)])=e5 at*;have q3:=lS.trans mM;have rb:mn∈gf aJ.names.length ms mn:=oX.mpr ⟨kn mn kM,.inl rfl⟩;obtain⟨jM,l9⟩:=lK rb;clear lT q2 mP e8;walk_at "rds";refine⟨b,_,mn,_,rfl,rfl,xo,jM,l9,?_⟩;generalize LC:idxL (gf aJ.names.length ms mn) mn=jn at*;walk_at "rds";have mO:d7 [p] e5 (upd e5 p (.ins T.c a_ [("inner_row",.ref a),("kept",.ref b),("joined",.int jn)])):=h0 (by simp) o_ (by intro _ z;cases z);have ts:d7 [p] dN (upd e5 p (.ins T.c a_ [("inner_row",.ref a),("kept",.ref b),("joined",.int jn)])):=mM.trans mO;have o':(upd e5 p (.ins T.c a_ [("inner_row",.ref a),("kept",.ref b),("joined",.int jn)])) p=some (.ins T.c a_ [("inner_row",.ref a),("kept",.ref b),("joined",.int jn)]):=Zd;have xp:=mO.keep _ _ xo (by simpa using jz.symm);generalize upd e5 p (.ins T.c a_ [("inner_row",.ref a),("kept",.ref b),("joined",.int jn)])=fI at*;have CU:=SqL.of (K:=K) xp;have CV:=SqL.of (K:=K) (ts.keep _ _ xn (by simpa using CS.symm));have hN:=ZiI (n:=aJ.names.length) (ms:=ms) (mn:=mn);have LD:((gf aJ.names.length ms mn).map V.int).length=(gm aJ.names.length ms mn).length:=by unfold gf;simp
  clear mO mM o_ xo;walk_at "rds";refine YI (fR CU) (eE (by omega)) (λ_=>true) (λi=> .str (aJ.names.getD ((gm aJ.names.length ms mn).getD i 0) "")) (λi H' dW hi bS k=>?_) (λi H' dW hi _ bS k=>?_) (λc fP mL gK xq=>?_)
  ·walk_at "rds";exact k H' (Ze.refl H')
  ·have dx:i<(gm aJ.names.length ms mn).length:=by omega
   have dZ:((gf aJ.names.length ms mn).map V.int).getD i .non=V.int ((gm aJ.names.length ms mn)[i]:Nat):=by unfold gf;simp[List.getD,dx]
   have qS:(gm aJ.names.length ms mn).getD i 0=(gm aJ.names.length ms mn)[i]:=by simp[List.getD,dx]
   rw[dZ];rw[qS] at k;have hw:=qao.mp (qaF.mp (qaa dx)).1;generalize (gm aJ.names.length ms mn)[i]=w at*;have fq:atI (aJ.names.map V.str) (w:Int)=some (.str (aJ.names.getD w "")):=iS (by simp[List.getD,hw]);have nz:=bS.seq CV;walk_at "rds";exact k H' (Ze.refl H')
  have kb:((List.range ((gf aJ.names.length ms mn).map V.int).length).filter λ_=>true).map (λi=>V.str (aJ.names.getD ((gm aJ.names.length ms mn).getD i 0) ""))=((gm aJ.names.length ms mn).map λw=>aJ.names.getD w "").map V.str:=by
   rw[qaz.mpr λ_ _=>rfl,LD];refine qay (by simp) λi aS a2=>?_;have bU:i<(gm aJ.names.length ms mn).length:=by simpa using aS
   simp[List.getD,bU]
  rw[kb] at xq;have s2:=gK _ _ o';have o9:p≠c:=d9 o' mL;have CW:=lS.trans ts;have LF:H c=none:=by
   cases e:H c with
   |none=>rfl
   |some o=>
    rw[CW.keep _ _ e (by simpa using o9.symm)] at mL;cases mL
  walk_at "rds";have xr:d7 [p] fP (upd fP p (.ins T.c a_ [("inner_row",.ref a),("kept",.ref b),("joined",.int jn),("called",.ref c)])):=h0 (by simp) s2 (by intro _ z;cases z);have xt:d7 [p] fI (upd fP p (.ins T.c a_ [("inner_row",.ref a),("kept",.ref b),("joined",.int jn),("called",.ref c)])):=gK.frame.trans xr;have LG:(upd fP p (.ins T.c a_ [("inner_row",.ref a),("kept",.ref b),("joined",.int jn),("called",.ref c)])) p=some (.ins T.c a_ [("inner_row",.ref a),("kept",.ref b),("joined",.int jn),("called",.ref c)]):=Zd;have CY:=xr.keep _ _ xq (by simpa using o9.symm);generalize upd fP p (.ins T.c a_ [("inner_row",.ref a),("kept",.ref b),("joined",.int jn),("called",.ref c)])=hH at*;have xu:=xt.keep _ _ xp (by simpa using jz.symm);have xv:=ts.trans xt;have xw:=xv.keep _ _ lU (by simpa using lN.symm);have CZ:=xv.keep _ _ xm (by simpa using jy.symm);have C0:=lS.trans xv;have BO:=bV.off C0 (λx aT z=>mK (by rw[←FM.mp z];exact aT));clear xr s2 xq gK xt ts CW o' xp CU CV lS q3 nT xm lU xn Lz kb;walk_at "rds";have C1:∀x:Int,0≤x→x<(aJ.names.length:Int)→x∈gf aJ.names.length ms mn∨x∈ms:=λx de aS=>by
   by_cases z:x∈ms
   ·exact .inr z
   ·exact .inl (oX.mpr ⟨⟨de,aS⟩,.inr z⟩)
  have Sw:(gf aJ.names.length ms mn).length=(gm aJ.names.length ms mn).length:=by unfold gf;simp
  refine⟨b,d,gf aJ.names.length ms mn,ms,f,mn,rfl,.of xu,Ba,by omega,.inl xw,by omega,kM,rk,rb,λm bo ne a5=>((oX.mp a5).2.elim ne λz=>z bo),λe o H12 kv q4 iN LH jh=>?_⟩;have fd:d7 [d] hH (upd hH d (.frz o (.dK (turnsK f ms)))):=h0 (by simp) xw (by intro _ z;cases z);have Cf:(upd hH d (.frz o (.dK (turnsK f ms)))) d=some (.frz o (.dK (turnsK f ms))):=Zd;have rn:d7 [d] hH H12:=fd.trans iN.frame;have LI:=iN _ _ Cf;have ku:∀{x:Addr}{dz:HO},hH x=some dz→(∀kv,dz≠ .dK kv)→x≠d:=λ{x dz} aS a2 z=>by
   rw[z,xw] at aS;exact a2 _ (qam aS).symm
  have C2:=rn.keep _ _ LG (by simpa using lN);have LJ:=rn.keep _ _ CZ (by simpa using ku CZ (by intro _ z;cases z));have xx:=rn.keep _ _ xu (by simpa using ku xu (by intro _ z;cases z));have LK:=rn.keep _ _ CY (by simpa using ku CY (by intro _ z;cases z));have xy:d7 [p,d] H H12:=(C0.mono (by simp)).trans (rn.mono (by simp));have LM:=bV.off xy (λx aT z=>by
   simp only[qad,qaR,or_false] at z;rcases z with z|z
   ·exact mK (z▸aT)
   ·exact bV.dom d (z▸aT) tr)
  have LN:∀dv∈aJ.belts,IntMulOk dv.give (tvJ f ms dv.giver)∧IntMulOk dv.take (tvJ f ms dv.taker):=λdv _=>by
   have dy:∀x,IntMulOk dv.give (tvJ f ms x)∧IntMulOk dv.take (tvJ f ms x):=λx=>by
    have aS:0≤tvJ f ms x∧tvJ f ms x≤400:=by
     unfold tvJ
     split
     ·rename_i aT;have:=nV x aT;have:=Lx x aT;omega
     ·omega
    have a2:Builtin.Int.intBits (tvJ f ms x)≤64:=intBits_le_64 (by omega) (by omega);exact⟨.of_right a2,.of_right a2⟩
   exact⟨(dy _).1,(dy _).2⟩
  walk_at "rds";refine⟨bx,d,e,aJ,fp,f,ms,kv,qL (gf aJ.names.length ms mn) ms mn,rfl,LM,km,.inr ⟨o,LI⟩,LH,λdv ua=>?_,LN,λr mT bs fF ks LO LP=>?_⟩
  ·obtain⟨aS,a2,bU,dD⟩:=eA dv ua;exact⟨jh _ (C1 _ aS a2),jh _ (C1 _ bU dD)⟩
  have LQ:=ks _ _ C2;have LR:p≠r:=d9 C2 fF;walk_at "rds";have xA:d7 [p] mT (upd mT p (.ins T.c a_ [("inner_row",.ref a),("kept",.ref b),("joined",.int jn),("called",.ref c),("rows",.ref r)])):=h0 (by simp) LQ (by intro _ z;cases z);have tt:d7 [p] H12 (upd mT p (.ins T.c a_ [("inner_row",.ref a),("kept",.ref b),("joined",.int jn),("called",.ref c),("rows",.ref r)])):=ks.frame.trans xA;have LS:(upd mT p (.ins T.c a_ [("inner_row",.ref a),("kept",.ref b),("joined",.int jn),("called",.ref c),("rows",.ref r)])) p=some (.ins T.c a_ [("inner_row",.ref a),("kept",.ref b),("joined",.int jn),("called",.ref c),("rows",.ref r)]):=Zd;have LU:=xA.keep _ _ LO (by simpa using LR.symm);have LV:=LP.keep xA.tups;have LW:d7 [p,d] H (upd mT p (.ins T.c a_ [("inner_row",.ref a),("kept",.ref b),("joined",.int jn),("called",.ref c),("rows",.ref r)])):=xy.trans (tt.mono (by simp));refine pq _ [p,a,b,c,r] ⟨a_,a,b,c,r,bs,rfl,?_,by rw[xk];dsimp only;rw[qbh];exact tt.keep _ _ LJ (by simpa using jy.symm),tt.keep _ _ xx (by simpa using jz.symm),tt.keep _ _ LK (by simpa using o9.symm),LU,by rw[xk];exact LV⟩ (λx dz aT tu=>LW.keep _ _ aT (by
   simp only[qad,qaR,or_false];rintro(z|z)
   ·exact tu z
   ·rw[z,tr] at aT;cases aT)) (λx aT tu=>?_)
  ·rw[xk,LC];exact LS
  simp only[qad,qaR,or_false] at aT;rcases aT with rfl|rfl|rfl|rfl|rfl
  ·exact absurd rfl tu
  ·exact Ly
  ·exact LB
  ·exact LF
  ·cases ej:H x with
   |none=>rfl
   |some dz=>
    rw[xy.keep _ _ ej (by
     simp only[qad,qaR,or_false];rintro(z|z)
     ·exact tu z
     ·rw[z,tr] at ej;cases ej)] at fF
    cases fF
end
def LX{K:Frag}{mg:Str→Option Value}(T:Tp K mg):Sp:=λvs H Q _=>∃(h g:Addr)(aJ:HM)(fp:List Addr)(cf:List Int),vs=[.ref h,.ref g]∧dQ T H h aJ fp∧H g=some (.lst (cf.map V.int))∧cf.length≤30∧W5 aJ.names∧aJ.belts.length≤60∧ZU aJ.belts aJ.names.length∧WC aJ.belts∧
 (∀k<5,Ends aJ cf k→∀u H',Ze H H'→H' u=some (.tup [.non,.int k])→Q (.ref u) H')∧(∀jm,sF aJ cf jm→∀(p u:Addr)(H':Hp)(ad:List Addr),jw T H' p jm ad→Ze H H'→H' u=some (.tup [.ref p,.non])→Q (.ref u) H')
section
variable {P:Program}{w:World}{K:Frag}{mg:Str→Option Value}{base:Heap}
theorem LY(T:Tp K mg):OkN P w base 12 T.c3 (LX T):=by
 have xf:=T.Q;have xg:=T.af;refine T.c3.F.okX oP (λvs H Q E h=>?_) (λdi A outer s H vs Q E a3 h=>?_)
 ·obtain⟨h,g,aJ,fp,cf,rfl,_⟩:=h
  rfl
 ·have hu:=a3.hu;obtain⟨h,g,aJ,fp,cf,rfl,bV,bc,nP,ij,km,eA,hsz,e,q⟩:=h;refine⟨_,(bR (dG (i:=2) oP.nd rfl (Or.inl rfl) Wi)
     (bR (dG (i:=3) oP.nd rfl (Or.inl rfl) Wi)
     (bR (zl (j:=4) rfl rfl rfl T.aI.m (λJ iZ pn kJ ownT xB=>(cm (dG (i:=2) oP.nd rfl (Or.inl rfl) (Gq T.c2 (Lu T) a3 T.cg xB (a6 (pv 0) (a6 (pv 1) bp)))))) (λea=>(cm (dG (i:=3) oP.nd rfl (Or.inl rfl) (zW T.co (Bo T) (a3.held ea) Vu (a6 (pv 4) bp))))) oP.nd rfl rfl)
     (cm (dS (h8 (a6 (pv 2) (a6 (pv 3) bp)))))))),?_⟩
  try dsimp only[L2.cxX,L2.ZJ,L2.Zl]
  walk_at "rds";refine L2.Rd.Zjg (λcls _ H'=>Ze H H'∧∃i:Nat,i<5∧cls= .ref (kC T i)∧Ends aJ cf i) ?_ ?_
  ·walk_at "rds";refine ZeS bV bc nP ij km eA hsz (λk a5 c H' s=>⟨s,k,a5,rfl,c⟩) λjm bo p aU ad bj a7=>?_;walk_at "rds";refine⟨by show 2≤sizeLine;decide,λu g5=>?_⟩;exact q jm bo p u _ ad (bj.same (dH g5)) (a7.trans (dH g5)) Zd
  ·rintro cls aU ⟨a7,i,hi,rfl,mq⟩;refine⟨by match i,hi with|0,_=>exact T.l|1,_=>exact T.U|2,_=>exact T.p|3,_=>exact T.F|4,_=>exact T.V,_,rfl,λea qq=>?_⟩;have bK:Ze aU (upd aU ea (gN ea (kC T i))):=dH qq;have fG:(upd aU ea (gN ea (kC T i))) ea=some (gN ea (kC T i)):=Zd;generalize upd aU ea (gN ea (kC T i))=a4 at*;walk_at "rds";refine⟨i,rfl,by omega,fG,λb_ bM=>?_⟩;walk_at "rds";refine⟨by show 2≤sizeLine;decide,λu g5=>?_⟩;exact e i hi mq u _ (((a7.trans bK).trans bM).trans (dH g5)) Zd
end
def LZ{K:Frag}{mg:Str→Option Value}(T:Tp K mg):Sp:=λvs H Q E=>∃(p r:Addr)(jm:JM)(ad:List Addr)(cx:List Int),vs=[.ref p,.ref r]∧jw T H p jm ad∧SqL K H r (cx.map V.int)∧cx.length≤400∧jm.inner.length≤400∧jm.kept.length≤30∧
 ((∃k∈cx,¬(0≤k∧k<(jm.kept.length:Int)))→∀H',Ze H H'→E (.ref T.h) none H')∧((∀k∈cx,0≤k∧k<(jm.kept.length:Int))→∀(u:Addr)(H':Hp),H u=none→Ze H H'→H' u=some (.lst ((lM jm cx).map V.int))→Q (.ref u) H')
section
variable {P:Program}{w:World}{K:Frag}{mg:Str→Option Value}{base:Heap}
theorem L0(T:Tp K mg):OkM P w mg base 4 T.c4 (LZ T):=by
 have xf:=T.Q;have xg:=T.af;refine T.c4.F.okX vD (λvs H Q E h=>?_) (λdi A outer s H vs Q E a3 h=>?_)
 ·obtain⟨p,r,jm,ad,cx,rfl,_⟩:=h
  rfl
 ·have hu:=a3.hu;obtain⟨p,r,jm,ad,cx,rfl,bj,fF,lX,xC,mI,bw,q⟩:=h;obtain⟨a_,a,b,c,d,bs,rfl,aS,a2,bU,dD,eM,d2⟩:=bj;refine⟨_,(bR (dG (i:=2) vD.nd rfl (Or.inl rfl) (hE bp))
     (bR (gh PassesOwn.leaving rfl (fW (K:=K) rfl (pv 1)) (d0 (i:=3) vD.nd rfl (Or.inl rfl)) (bR (eU (la (jR (K:=K) rfl (d8 T.x7 (v0 T) a3 dw (a6 (pv 3) (a6 (ey (gM K) (by rfl) T.g qas (a6 (fS (K:=K) rfl (pv 0) rfl) bp)) bp))) (λ_=>rfl))) (cm (i1 T.o.g T.o.e qaq rfl (a6 Yu bp))) e7)
     (cm (eU (eo (ia (K:=K) rfl hu) (pv 3) (fS (K:=K) rfl (pv 0) rfl) (ez _)) (cm (fx (hn (K:=K) rfl qak PySem.F.slot_list_extend PySem.F.type_list_extend D1 (pv 2) (a6 (fS (K:=K) rfl (pv 0) rfl) bp)))) (cm (fx (hn (K:=K) rfl qak qaC qaD iT (pv 2) (a6 (dF (ixk K) (fS (K:=K) rfl (pv 0) rfl) (pv 3) (λ_ _=>rfl)) bp))))))))
     (cm (dS (pv 2))))),?_⟩
  try dsimp only[L2.cxX,L2.ZJ,L2.Zl]
  walk_at "rds";refine⟨qav _,λu jd=>?_⟩;have a7:Ze H (upd H u (.lst [])):=dH jd;have ht:(upd H u (.lst [])) u=some (.lst []):=Zd;generalize upd H u (.lst [])=aU at*;have fU:=a7.seq fF;walk_at "rds";have L1:((jm.kept.map λx:Nat=>(x:Int)).map V.int).length=jm.kept.length:=by simp
  refine Yz (fR fF) (λi σ H'=>Ze H H'∧(∃dM,σ=[some (.ref p),some (.ref r),some (.ref u),dM])∧(∀k∈cx.take i,0≤k∧k<(jm.kept.length:Int))∧H' u=some (.lst ((lM jm (cx.take i)).map V.int))) ⟨a7,⟨_,rfl⟩,by simp,ht⟩ (λi σ H' h=>h.1) ?_ ?_
  ·rintro i σ a4 hi ⟨bK,⟨dM,rfl⟩,l0,jx⟩;have dx:i<cx.length:=by rw[GE] at hi;exact hi
   have dZ:(cx.map V.int).getD i .non=V.int cx[i]:=by simp[List.getD,dx]
   rw[dZ];have gw:=qac dx;rw[gw];have eV:=Zfn (jm:=jm) (cx.take i);have C3:(cx.take i).length*(jm.inner.length+1)≤400*401:=Nat.mul_le_mul (by rw[qaI];omega) (by omega);have nw:=qaa dx;generalize cx[i]=k at*;generalize cx.take i=kt at*;have A4:=bK _ _ aS;have C4:=bK _ _ a2;have L3:=bK _ _ bU;have Sx:=SqL.of (K:=K) C4;have Sy:=SqL.of (K:=K) L3;walk_at "rds";rw[L1];have m':Ze a4 a4:=Ze.refl a4
   by_cases a5:0≤k∧k<(jm.kept.length:Int)
   case neg=>
    rw[decide_eq_false a5,Bool.not_false];walk_at "rds";exact bw ⟨k,nw,a5⟩ _ bK
   rw[decide_eq_true a5,qb8];rw[ZjO];have C5:∀x∈kt++ [k],0≤x∧x<(jm.kept.length:Int):=λx aT=>by
    rcases qax.mp aT with z|z
    ·exact l0 x z
    ·rw[FM.mp z];exact a5
   have Sz:((lM jm kt).map V.int).length<sizeLine:=by
    rw[GE];refine qaK (qat eV C3) ?_
    decide
   walk_at "rds"
   by_cases C6:k=(jm.joined:Int)
   ·have bC:mE jm k=jm.inner:=by unfold mE;rw[if_pos C6]
    rw[bC,qaG];walk_at "rds";refine⟨u,a,_,_,rfl,rfl,jx,C4,?_,?_⟩
    ·rw[GE,GE];refine qat (Nat.add_le_add (qat eV C3) xC) ?_
     decide
    walk_at "rds";exact⟨bK.new jd,⟨_,rfl⟩,C5,Zd⟩
   ·have bC:mE jm k=[((jm.kept.getD k.toNat 0:Nat):Int)]:=by unfold mE;rw[if_neg C6]
    rw[bC,qaG];have fq:atI ((jm.kept.map λx:Nat=>(x:Int)).map V.int) k=some (.int ((jm.kept.getD k.toNat 0:Nat):Int)):=by
     obtain⟨j,rfl⟩:=qaJ a5.1;have:j<jm.kept.length:=by omega
     exact iS (by simp[List.getD,this])
    generalize jm.kept.getD k.toNat 0=kw at*;walk_at "rds";exact⟨bK.new jd,⟨_,rfl⟩,C5,Zd⟩
  ·rintro σ a4 ⟨bK,⟨dM,rfl⟩,l0,jx⟩;rw[GE,qaB] at l0 jx;walk_at "rds";exact q l0 u a4 jd bK jx
end
def L4{K:Frag}{mg:Str→Option Value}(T:Tp K mg):Sp:=λvs H Q _=>∃(p r:Addr)(jm:JM)(ad:List Addr)(cx:List Int),vs=[.ref p,.ref r]∧jw T H p jm ad∧SqL K H r (cx.map V.int)∧cx.length≤400∧jm.inner.length≤400∧jm.kept.length≤30∧
 ((∃k∈cx,¬(0≤k∧k<(jm.kept.length:Int)))→∀H',Ze H H'→Q (.int 0) H')∧((∀k∈cx,0≤k∧k<(jm.kept.length:Int))→∀H',Ze H H'→Q .non H')
section
variable {P:Program}{w:World}{K:Frag}{mg:Str→Option Value}{base:Heap}
theorem C7(T:Tp K mg):OkN P w base 5 T.cs (L4 T):=by
 have xf:=T.Q;have xg:=T.af;refine T.cs.F.okX ss (λvs H Q E h=>?_) (λdi A outer s H vs Q E a3 h=>?_)
 ·obtain⟨p,r,jm,ad,cx,rfl,_⟩:=h
  rfl
 ·have hu:=a3.hu;obtain⟨p,r,jm,ad,cx,rfl,bj,fF,lX,xC,mI,e,q⟩:=h;refine⟨_,(bR (dG (i:=2) ss.nd rfl (Or.inl rfl) Wi)
     (bR (zl (j:=3) rfl rfl rfl T.aI.m (λJ iZ pn kJ ownT xB=>(cm (fx (EJ (pv 0) T.Q T.c4 (L0 T) a3 xB (a6 (pv 1) bp))))) (λea=>(cm (dG (i:=2) ss.nd rfl (Or.inl rfl) (zW T.co (Bo T) (a3.held ea) Vu (a6 (pv 3) bp))))) ss.nd rfl rfl)
     (cm (dS (pv 2))))),?_⟩
  try dsimp only[L2.cxX,L2.ZJ,L2.Zl]
  walk_at "rds";refine L2.Rd.Zjg (λcls _ H'=>Ze H H'∧cls= .ref T.h∧∃k∈cx,¬(0≤k∧k<(jm.kept.length:Int))) ?_ ?_
  ·walk_at "rds";refine⟨p,r,jm,ad,cx,rfl,bj,fF,lX,xC,mI,λc H' s=>⟨s,rfl,c⟩,λc u aU hu a7 g5=>?_⟩;walk_at "rds";exact q c _ a7
  ·rintro cls aU ⟨a7,rfl,mq⟩;refine⟨T.l,_,rfl,λea qq=>?_⟩;have bK:Ze aU (upd aU ea (gN ea T.h)):=dH qq;have fG:(upd aU ea (gN ea T.h)) ea=some (gN ea (kC T 0)):=Zd;generalize upd aU ea (gN ea T.h)=a4 at*;walk_at "rds";refine⟨0,rfl,by omega,fG,λb_ bM=>?_⟩;walk_at "rds";exact e mq _ ((a7.trans bK).trans bM)
end
open Classical in
noncomputable def n2 (cf:List Int) (n:Nat) (fl t:Int):V:=if ¬kS n cf then .int 0 else if ¬cf.Nodup then .int 1 else if fl % 2=1 then .int 2 else if t > 400 then .int 3 else if fl / 2 % 2=1∧(0:Int)∈cf then .int 4 else .non
def L5{K:Frag}{mg:Str→Option Value}(T:Tp K mg):Sp:=λvs H Q _=>∃(g:Addr)(cf:List Int)(n:Nat)(fl t:Int),vs=[.ref g,.int n,.int fl,.int t]∧SqL K H g (cf.map V.int)∧cf.length≤1000∧∀H',Ze H H'→Q (n2 cf n fl t) H'
section
variable {P:Program}{w:World}{K:Frag}{mg:Str→Option Value}{base:Heap}
theorem L6(T:Tp K mg):OkN P w base 1 T.c5 (L5 T):=by
 refine T.c5.F.okX GW (λvs H Q E h=>?_) (λdi A outer s H vs Q E a3 h=>?_)
 ·obtain⟨g,cf,n,fl,t,rfl,_⟩:=h
  rfl
 ·have hu:=a3.hu;obtain⟨g,cf,n,fl,t,rfl,bc,nP,q⟩:=h;refine⟨_,(bR (eU (PW.pt (l4 (eo (ia (K:=K) rfl hu) (pv 0) (hE bp) (ez _)) (l4 (eo m4 (ey (EY (K:=K) rfl rfl) (by rfl) T.bH qb0 (a6 (pv 0) bp)) bQ (ez _)) (mX (eo pC (ey (Gb (K:=K) rfl rfl) (by rfl) T.c6 PyProof.Rows.boot_max (a6 (pv 0) bp)) (pv 1) (ez _)))))) (cm (dS bQ)) e7)
     (bR (eU (eo m4 (zR rfl rfl (by rfl) T.g (by rfl) T.b6 (a6 (pv 0) bp)) (ey (gM K) (by rfl) T.g qas (a6 (pv 0) bp)) (ez _)) (cm (dS bQ)) e7)
     (bR (eU (eo (ia (K:=K) rfl hu) (dE gH (pv 2) bQ) bQ (ez _)) (cm (dS bQ)) e7)
     (bR (eU (eo m5 (pv 3) bQ (ez _)) (cm (dS bQ)) e7)
     (bR (eU (PW.pt (tI (eo (ia (K:=K) rfl hu) (dE gH (dE iA (pv 2) bQ) bQ) bQ (ez _)) (tH (eo (rY (K:=K) rfl) bQ (pv 0) (by with_unfolding_all rfl))))) (cm (dS bQ)) e7)
     (cm (dS Wi))))))),?_⟩
  try dsimp only[L2.cxX,L2.ZJ,L2.Zl]
  walk_at "rds";refine⟨qav _,λu jd=>?_⟩;have a7:Ze H (upd H u (.lst [])):=dH jd;have ht:(upd H u (.lst [])) u=some (.lst (([]:List Int).map V.int)):=Zd;generalize upd H u (.lst [])=aU at*;have pc:=a7.seq bc;refine Rd.Znc (gd.ints pc) (gd.ints (SqL.of ht)) (ou _) (ou _) (uI _) ?_;rw[Zcx];refine Rd.bl ?_;have fr:∀a4,Ze H a4→¬kS n cf→Q (.int 0) a4:=λa4 bK z=>by
   have:=q a4 bK;unfold n2 at this
   rwa [if_pos z] at this
  by_cases z:cf=[]
  ·rw[decide_eq_true z];walk_at "rds";exact fr _ a7 λy=>y.1 z
  rw[decide_eq_false z];have de:0<cf.length:=List.length_pos_iff.mpr z;walk_at "rds";refine Rd.Zo9 pc de λmn qC L7=>?_;walk_at "rds";refine Rd.ifD (λc=>?_) (λc=>?_)
  ·walk_at "rds";exact fr _ a7 λy=>by have:=y.2 mn qC;omega
  walk_at "rds";refine Rd.Zo5 pc de λqN mo i'=>?_;walk_at "rds";refine Rd.ifD (λd=>?_) (λd=>?_)
  ·walk_at "rds";exact fr _ a7 λy=>by have:=y.2 qN mo;omega
  have l0:kS n cf:=⟨z,λx aT=>by have:=L7 x aT;have:=i' x aT;omega⟩;replace q:=q aU a7;unfold n2 at q;rw[if_neg (λy=>y l0)] at q;clear fr;walk_at "rds";refine⟨.ref g,rfl,g,cf,rfl,pc,by omega,λk a5 qh=>?_⟩;walk_at "rds";rw[GE]
  by_cases y:cf.Nodup
  case neg=>
   have:(k:Int)<(cf.length:Int):=by
    have:k≠cf.length:=λe=>y (qh.mp e);omega
   rw[if_pos y] at q;walk_at "rds";exact q
  have:¬(k:Int)<(cf.length:Int):=by rw[qh.mpr y];omega
  rw[if_neg (λe=>e y)] at q;walk_at "rds";refine Rd.ifD (λc1=>?_) (λc1=>?_)
  ·walk_at "rds";rw[if_pos c1] at q;exact q
  rw[if_neg c1] at q;walk_at "rds";refine Rd.ifD (λc2=>?_) (λc2=>?_)
  ·walk_at "rds";rw[if_pos (by omega)] at q;exact q
  rw[if_neg (by omega)] at q;walk_at "rds";refine Rd.ifD (λc3=>?_) (λc3=>?_)
  ·walk_at "rds"
   by_cases c4:(0:Int)∈cf
   ·rw[decide_eq_true c4];rw[if_pos ⟨c3,c4⟩] at q;walk_at "rds";exact q
   ·rw[decide_eq_false c4];rw[if_neg (λe=>c4 e.2)] at q;walk_at "rds";exact q
  ·rw[if_neg (λe=>c3 e.1)] at q;walk_at "rds";exact q
end
theorem ZlS{ls:List B5}{ys:List Int}(a8:∀j<ls.length,((ls.getD j dB).giver∈ys↔(ls.getD j dB).taker∈ys)){a w:Int}(h:Fo.Va (fJ ls) a w)(bx:a∈ys):w∈ys:=by
 induction h with
 |refl=>exact bx
 |step _ m bP=>
  obtain⟨i,hi,bo⟩:=VM m;rcases WX.mp bo with⟨bw,bC⟩|⟨bw,bC⟩
  ·have dP:=congrArg Prod.fst bC;dsimp only at dP;rw[dP];exact(a8 i hi).mp (bw▸bP)
  ·have dP:=congrArg Prod.fst bC;dsimp only at dP;rw[dP];exact(a8 i hi).mpr (bw▸bP)
noncomputable def ZnF (rs:List Int) (ys:List Int):Nat:=ys.foldl (λc w=>Nat.gcd c (rs.getD w.toNat 0).toNat) 0
theorem C8(rs:List Int):∀(ys:List Int)(c:Nat),ys.foldl (λc w=>Nat.gcd c (rs.getD w.toNat 0).toNat) c ∣ c∧∀w∈ys,ys.foldl (λc w=>Nat.gcd c (rs.getD w.toNat 0).toNat) c ∣ (rs.getD w.toNat 0).toNat
 | [],c=>⟨Nat.dvd_refl c,by simp⟩
 |w::ys,c=>by
  obtain⟨aS,a2⟩:=C8 rs ys (Nat.gcd c (rs.getD w.toNat 0).toNat);refine⟨qb9 aS (qbS _ _),λv cv=>?_⟩;rcases qad.mp cv with z|z
  ·rw[z];exact qb9 aS (qbp _ _)
  ·exact a2 v z
def Zl1(ls:List B5)(n:Nat)(rs:List Int):Prop:=∀(f:Int)(ys:List Int),0≤f→f<(n:Int)→f∈ys→(∀j<ls.length,((ls.getD j dB).giver∈ys↔(ls.getD j dB).taker∈ys))→ZnF rs ys=1
theorem Zk6{ls:List B5}{n:Nat}{F:List (Int×Fo.ZH)}{rs:List Int}(fw:Fo.WQ (fJ ls) n F n)(hQ:∀x∈F,nG ls x rs):Zl1 ls n rs:=by
 intro f ys ef f1 bv a8;obtain⟨x,aT,a5⟩:=fw.all f ef f1;obtain⟨bc,jg,_,_⟩:=fw.tree x aT;obtain⟨zs,hz,L8⟩:=hQ x aT;refine ZgU bc hz λy bE=>?_;have te:y.1∈Fo.keys x.2:=by
  have aS:=hz.keys;have a2:(Fo.keys x.2).take x.2.length=Fo.keys x.2:=qaZ (by simp[Fo.keys]);rw[a2] at aS;rw[←aS];exact qah.mpr ⟨y,bE,rfl⟩
 have bU:=(bc.keys_iff jg y.1).mp te;have dD:=(bc.keys_iff jg f).mp a5;have eM:y.1∈ys:=ZlS a8 (Fo.Va.trans (Fo.Va.symm (sv ls) dD) bU) bv;have d2:=(C8 rs ys 0).2 _ eM;have ju:=L8 y bE;have nN:rs.getD y.1.toNat 0=((lcmL zs / y.2.2*y.2.1:Nat):Int):=by rw[List.getD,ju];rfl
 rw[nN,qab] at d2;exact d2
theorem Zco{ls:List B5}{c:Int→Int}:∀{ps:List (Int×Bool)}{a b:Int},gl (gvI ls) (tkI ls) a ps b→(∀x∈ps,c (gvI ls x.1)*(giN ls x.1:Int)=c (tkI ls x.1)*(taN ls x.1:Int))→c a*(prN (giN ls) (taN ls) ps:Int)=c b*(prN (taN ls) (giN ls) ps:Int)
 | [],_,_,h,_=>by
  have e:_=_:=h;rw[e]
  rfl
 |(x,al)::ps,a,b,h,k=>by
  have bP:=Zco (ps:=ps) h.2 λy bE=>k y (qau _ bE);have aS:=h.1;have k1:=k (x,al) (qaY ..);show c a*(((if al=true then giN ls x else taN ls x)*prN (giN ls) (taN ls) ps:Nat):Int)=c b*(((if al=true then taN ls x else giN ls x)*prN (taN ls) (giN ls) ps:Nat):Int);rw[qbI,qbI,←aS];dsimp only at k1;cases al with
  |true=>
   show c (gvI ls x)*((giN ls x:Int)*_)=c b*((taN ls x:Int)*_);have xD:c (tkI ls x)*(prN (giN ls) (taN ls) ps:Int)=c b*(prN (taN ls) (giN ls) ps:Int):=bP
   calc c (gvI ls x)*((giN ls x:Int)*(prN (giN ls) (taN ls) ps:Int))=c (gvI ls x)*(giN ls x:Int)*(prN (giN ls) (taN ls) ps:Int):=by rw[qbN]
    _=(taN ls x:Int)*(c (tkI ls x)*(prN (giN ls) (taN ls) ps:Int)):=by rw[k1];simp only[qbX,qcl,qbN]
    _=c b*((taN ls x:Int)*(prN (taN ls) (giN ls) ps:Int)):=by rw[xD];simp only[qbX,qcl,qbN]
  |false=>
   show c (tkI ls x)*((taN ls x:Int)*_)=c b*((giN ls x:Int)*_);have xD:c (gvI ls x)*(prN (giN ls) (taN ls) ps:Int)=c b*(prN (taN ls) (giN ls) ps:Int):=bP
   calc c (tkI ls x)*((taN ls x:Int)*(prN (giN ls) (taN ls) ps:Int))=c (tkI ls x)*(taN ls x:Int)*(prN (giN ls) (taN ls) ps:Int):=by rw[qbN]
    _=(giN ls x:Int)*(c (gvI ls x)*(prN (giN ls) (taN ls) ps:Int)):=by rw[←k1];simp only[qbX,qcl,qbN]
    _=c b*((giN ls x:Int)*(prN (taN ls) (giN ls) ps:Int)):=by rw[xD];simp only[qbX,qcl,qbN]
theorem ZgA{ls:List B5}{n:Nat}{ring:List (Int×Bool)}(hok:nJ ls ring)(eA:ZU ls n)(hsz:WC ls){cs:List Int}(bb:∀w:Int,0≤w→w<(n:Int)→0<cs.getD w.toNat 0):∃x∈ring,h1 cs (ls.getD x.1.toNat dB)≠0:=by
 refine qbG λhj=>?_;obtain⟨a,hw⟩:=hok.walk;have aS:=Zco (c:=λw=>cs.getD w.toNat 0) hw λx aT=>by
  have de:h1 cs (ls.getD x.1.toNat dB)=0:=qbG λz=>hj ⟨x,aT,z⟩;obtain⟨x0,x1⟩:=hok.rg x aT;obtain⟨dk,bL,ff,gj,gn,ei,fy,eX⟩:=hsz x.1.toNat (by omega);unfold h1 at de;unfold giN taN gvI tkI;rw[fy,eX] at de⊢;rw[qab,qab];omega
 apply hok.odd;have bx:0<cs.getD a.toNat 0:=by
  cases ring with
  |nil=>exact absurd rfl hok.some_
  |cons x ps=>
   have e:Zbs (gvI ls) (tkI ls) x=a:=hw.1;obtain⟨x0,x1⟩:=hok.rg x (qaY ..);obtain⟨fC,fV,i8,mx⟩:=eA.at (i:=x.1.toNat) (by omega);rw[←e];unfold Zbs gvI tkI
   split
   ·exact bb _ fC fV
   ·exact bb _ i8 mx
 exact Int.ofNat.inj (Int.eq_of_mul_eq_mul_left (show cs.getD a.toNat 0≠0 by omega) aS)
theorem L9{ls:List B5}{n:Nat}{ring:List (Int×Bool)}{z:Int→Nat}(hok:nJ ls ring)(eA:ZU ls n)(hsz:WC ls)(hz:Zmi ls z):False:=by
 have bc:∀w:Int,0≤w→w<(n:Int)→((List.range n).map λv:Nat=>(z (v:Int):Int)).getD w.toNat 0=(z w:Int):=λw de aS=>by
  have:w.toNat<n:=by omega
  have e:((w.toNat:Nat):Int)=w:=by omega
  simp[List.getD,this,e]
 obtain⟨x,aT,a8⟩:=ZgA hok eA hsz (cs:=(List.range n).map λv:Nat=>(z (v:Int):Int)) (λw de aS=>by rw[bc w de aS];have:=hz.pos w;omega);refine a8 ?_;obtain⟨x0,x1⟩:=hok.rg x aT;have hi:x.1.toNat<ls.length:=by omega
 obtain⟨dk,bL,ff,gj,gn,ei,fy,eX⟩:=hsz _ hi;obtain⟨fC,fV,i8,mx⟩:=eA.at hi;have aN:=hz.bal _ hi;unfold h1;rw[bc _ fC fV,bc _ i8 mx];rw[fy,eX] at aN⊢;rw[qab,qab] at aN;have gC:((dk*z (ls.getD x.1.toNat dB).giver:Nat):Int)=((bL*z (ls.getD x.1.toNat dB).taker:Nat):Int):=by rw[aN]
 rw[qbI,qbI] at gC;rw[qbX (z _:Int),qbX (z (ls.getD x.1.toNat dB).taker:Int)];omega
noncomputable def f7 (m far:Nat):Nat:=m+if far=0 then 0 else 1
theorem Ze7{m far:Nat}{st un:Bool}{b:B5}(h:b∈gg m far st un):(∃w:Nat,w+1<m∧b=⟨w,(w:Int)+1,1,1,0⟩)∨(far≠0∧b=⟨0,m,far,1,0⟩)∨(st=true∧b=⟨0,0,2,2,1⟩)∨(un=true∧b=⟨0,0,2,3,9⟩):=by
 unfold gg chainL at h;simp only[qax] at h;rcases h with((h|h)|h)|h
 ·obtain⟨w,hw,rfl⟩:=qah.mp h;have:=qao.mp hw;exact .inl ⟨w,by omega,rfl⟩
 ·split at h
  ·cases h
  ·exact .inr (.inl ⟨by assumption,FM.mp h⟩)
 ·split at h
  ·exact .inr (.inr (.inl ⟨by assumption,FM.mp h⟩))
  ·cases h
 ·split at h
  ·exact .inr (.inr (.inr ⟨by assumption,FM.mp h⟩))
  ·cases h
section
variable {m far n:Nat}{st un:Bool}{rs:List Int}{z:Int→Nat}
theorem L_{w:Nat}(h:w+1<m):(⟨w,(w:Int)+1,1,1,0⟩:B5)∈gg m far st un:=by
 unfold gg chainL;simp only[qax];exact .inl (.inl (.inl (qah.mpr ⟨w,qao.mpr (by omega),rfl⟩)))
theorem L'(h:far≠0):(⟨0,m,far,1,0⟩:B5)∈gg m far st un:=by
 unfold gg;simp[h]
theorem Ma:(⟨0,0,2,3,9⟩:B5)∈gg m far st true:=by
 unfold gg;simp
theorem Mb:(⟨0,0,2,2,1⟩:B5)∈gg m far true un:=by
 unfold gg;simp
theorem tv:m≤f7 m far∧f7 m far≤m+1∧(far≠0→f7 m far=m+1)∧(far=0→f7 m far=m):=by
 unfold f7
 split<;>omega
theorem ZnW(h:1≤m):(gg m far st un).length≤m+2:=by
 unfold gg chainL;simp only[qap,GE,qbL]
 split<;>split<;>split<;>simp<;>omega
theorem kZ:(ki m far).length=f7 m far:=by
 unfold ki f7;rw[qap,GE,qbL]
 split<;>rfl
theorem Mc(h:m≤6):W5 (ki m far):=by
 have fr:∀m≤6,((List.range m).map nameC++ [("z" :Str)]).Nodup∧∀x∈(List.range m).map nameC++ [("z" :Str)],ie x=true:=by decide+kernel
 obtain⟨k1,k2⟩:=fr m h;refine⟨?_,?_,by rw[kZ];have:=tv (m:=m) (far:=far);omega⟩<;>unfold ki<;>split
 ·rw[qa8];exact(qa4.mp k1).1
 ·exact k1
 ·rw[qa8];exact λx aT=>k2 x (qa5 _ aT)
 ·exact k2
theorem xE(h:1≤m):ZU (gg m far st un) (f7 m far):=λb aN=>by
 have:=tv (m:=m) (far:=far);rcases Ze7 aN with⟨w,hw,rfl⟩|⟨bv,rfl⟩|⟨_,rfl⟩|⟨_,rfl⟩<;>dsimp only<;>omega
theorem C9(h:far<2 ^ 30):WC (gg m far st un):=λi hi=>by
 rw[Ye hi];have bo:=qaa hi;generalize (gg m far st un)[i]=b at*;rcases Ze7 bo with⟨w,hw,rfl⟩|⟨bv,rfl⟩|⟨_,rfl⟩|⟨_,rfl⟩
 ·exact⟨1,1,by decide,by decide,by decide,by decide,rfl,rfl⟩
 ·exact⟨far,1,by omega,by decide,by omega,by decide,rfl,rfl⟩
 ·exact⟨2,2,by decide,by decide,by decide,by decide,rfl,rfl⟩
 ·exact⟨2,3,by decide,by decide,by decide,by decide,rfl,rfl⟩
theorem Md{ring:List (Int×Bool)}(aS:1≤m)(h:far<2 ^ 30)(a3:nJ (gg m far st un) ring):un=true:=by
 cases un with
 |true=>rfl
 |false=>
  refine(L9 (z:=λw=>if w=(m:Int)∧far≠0 then far else 1) a3 (xE aS) (C9 h) ⟨λw=>by split<;>omega,λi hi=>?_⟩).elim;rw[Ye hi];have bo:=qaa hi;generalize (gg m far st false)[i]=b at*;rcases Ze7 bo with⟨w,hw,rfl⟩|⟨bv,rfl⟩|⟨_,rfl⟩|⟨z,_⟩
  ·dsimp only;rw[if_neg (by omega),if_neg (by omega)]
  ·dsimp only;rw[if_neg (by omega),if_pos ⟨rfl,bv⟩];simp
  ·rfl
  ·cases z
theorem Zfa(aS:1≤m)(d5:Rts (gg m far st un) (f7 m far) z rs):un=false∧rs.sum=(m:Int)+far:=by
 have kI:=tv (m:=m) (far:=far);have bb:∀v,v<f7 m far→1≤rs.getD v 0:=λv cv=>by
  rw[Ye (by rw[d5.len];exact cv)];exact d5.pos _ (qaa _)
 refine⟨?_,?_⟩
 ·cases un with
  |false=>rfl
  |true=>
   have a2:=d5.bal _ Ma;have bU:=bb 0 (by omega);have gj:(0:Int).toNat=0:=rfl;dsimp only at a2;rw[gj] at a2;omega
 have bw:∀w<m,rs.getD w 0=rs.getD 0 0:=by
  intro w
  induction w with
  |zero=>exact λ_=>rfl
  |succ w bP=>
   intro hw;have a2:=d5.bal _ (L_ hw);have gj:((w:Int)+1).toNat=w+1:=by omega
   dsimp only at a2;rw[gj,qab] at a2;rw[←bP (by omega)];omega
 have bC:far≠0→rs.getD m 0=far*rs.getD 0 0:=λbv=>by
  have a2:=d5.bal _ (L' bv);have gj:(0:Int).toNat=0:=rfl;dsimp only at a2;rw[gj,qab] at a2;omega
 obtain⟨a,ea⟩:∃a:Nat,rs.getD 0 0=(a:Int):=⟨(rs.getD 0 0).toNat,by have:=bb 0 (by omega);omega⟩;have Br:∀v<f7 m far,a ∣ (rs.getD v 0).toNat:=λv cv=>by
  by_cases tw:v<m
  ·rw[bw v tw,ea,qab];exact Nat.dvd_refl _
  ·have bv:far≠0:=λz=>by omega
   have:v=m:=by have:=kI.2.2.1 bv;omega
   rw[this,bC bv,ea,←qbI,qab];exact Nat.dvd_mul_left _ _
 obtain⟨F,fw,hQ⟩:=d5.wood;have bc:=Zk6 fw hQ 0 ((List.range (f7 m far)).map λv:Nat=>(v:Int)) (by omega) (by omega) (qah.mpr ⟨0,qao.mpr (by omega),rfl⟩) λj bj=>by
  obtain⟨fC,fV,i8,mx⟩:=(xE aS).at bj
  constructor<;>intro _
  ·exact qah.mpr ⟨_,qao.mpr (show((gg m far st un).getD j dB).taker.toNat<_ by omega),by omega⟩
  ·exact qah.mpr ⟨_,qao.mpr (show((gg m far st un).getD j dB).giver.toNat<_ by omega),by omega⟩
 have bx:a=1:=by
  have fr:∀(ys:List Int)(c:Nat),a ∣ c→(∀w∈ys,a ∣ (rs.getD w.toNat 0).toNat)→a ∣ ys.foldl (λc w=>Nat.gcd c (rs.getD w.toNat 0).toNat) c:=by
   intro ys
   induction ys with
   |nil=>exact λc h _=>h
   |cons y ys bP=>exact λc h k=>bP _ (Nat.dvd_gcd h (k y (by simp))) λw hw=>k w (by simp[hw])
  have a2:=fr ((List.range (f7 m far)).map λv:Nat=>(v:Int)) 0 (Nat.dvd_zero _) λw hw=>by
   obtain⟨v,cv,rfl⟩:=qah.mp hw;rw[qab];exact Br v (qao.mp cv)
  unfold ZnF at bc;rw[bc] at a2;exact Nat.dvd_one.mp a2
 rw[ea,bx] at bw bC;have Me:rs=List.replicate m 1++if far=0 then[] else[(far:Int)]:=by
  refine qay ?_ λv a1 dj=>?_
  ·rw[d5.len,qap,qa3];unfold f7
   split<;>rfl
  ·rw[←Ye (d:=0) a1]
   by_cases tw:v<m
   ·rw[bw v tw,List.getElem_append_left (by simpa using tw)];simp
   ·rw[d5.len] at a1;have bv:far≠0:=λz=>by omega
    have:v=m:=by have:=kI.2.2.1 bv;omega
    subst this;rw[bC bv,List.getElem_append_right (by simp)];simp[bv]
 rw[Me,List.sum_append];have:∀k:Nat,(List.replicate k (1:Int)).sum=k:=λk=>by
  induction k with
  |zero=>rfl
  |succ k bP=>rw[qbC,qco,bP];omega
 rw[this]
 split
 ·rename_i z;rw[z];rfl
 ·simp
end
theorem Znf{ms:List Int}(hs:ms.Pairwise (· ≤·)){x y:Int}(aT:x∈ms)(bE:y∈ms)(h:x<y):idxL ms x<idxL ms y:=by
 obtain⟨a1,dj⟩:=GM.mp (lK aT).1;obtain⟨fC,fV⟩:=GM.mp (lK bE).1;rcases Nat.lt_trichotomy (idxL ms x) (idxL ms y) with z|z|z
 ·exact z
 ·have e:ms[idxL ms x]=ms[idxL ms y]:=by congr 1
  rw[dj,fV] at e;omega
 ·have:=qbb.mp hs _ _ fC a1 z;rw[dj,fV] at this;omega
theorem xF{ms:List Int}{f:Int→Int}{x:Int}(aT:x∈ms):(ms.map f).getD (idxL ms x) 0=f x:=by
 obtain⟨a1,dj⟩:=GM.mp (lK aT).1;rw[Ye (by rw[GE];exact a1),qbT,dj]
theorem ZiO{ls:List B5}{ms:List Int}{b:B5}(h:b∈eI ls ms):∃b0∈ls,b0.giver∈ms∧b0.taker∈ms∧b=inB ms b0:=by
 obtain⟨b0,de,rfl⟩:=qah.mp h;obtain⟨aS,a2⟩:=qaF.mp de;unfold inT at a2;simp only[qaQ,decide_eq_true_eq] at a2;exact⟨b0,aS,a2.1,a2.2,rfl⟩
theorem Zj0{ls:List B5}{rs ms:List Int}(aN:Zng ls rs)(bc:gcdM rs ms≠0)(ce:∀x∈ms,d3 rs ms x*(gcdM rs ms:Int)=rs.getD x.toNat 0){b:B5}(h:b∈ls)(aS:b.giver∈ms)(a2:b.taker∈ms):b.give*d3 rs ms b.giver=b.take*d3 rs ms b.taker:=by
 have bU:=aN b h;rw[←ce _ aS,←ce _ a2,←qbN,←qbN] at bU;exact Int.eq_of_mul_eq_mul_right (by omega) bU
theorem Zoq{ls:List B5}{rs ms:List Int}{bW:List Nat}{et:Nat→Nat}(hL:∀m∈ms,1≤d3 rs ms m)(hs:ms.Pairwise (· ≤·))(wR:∀b∈ls,b.giver∈ms→b.taker∈ms→b.give*d3 rs ms b.giver=b.take*d3 rs ms b.taker)(Mf:∀b∈ls,b.giver∈ms→b.taker∈ms→b.giver<b.taker∧0≤b.start∧0≤b.take)
  (gS:Fire.Y1 (mD (eI ls ms) (gF (eI ls ms)) (ms.map (d3 rs ms))) (λ_=>0) bW et) (kX:∀w,¬hS (eI ls ms) (gF (eI ls ms)) (ms.map (d3 rs ms)) et w):(bW.length:Int)=(ms.map (d3 rs ms)).sum:=by
 have hJ:(gF (eI ls ms)).length=(eI ls ms).length:=by simp[gF]
 obtain⟨pb,iU,_⟩:=qK (oV gS);have gP:∀r∈ms.map (d3 rs ms),1≤r:=λr a3=>by obtain⟨x,aT,rfl⟩:=qah.mp a3;exact hL x aT
 have jN:∀v,v<(ms.map (d3 rs ms)).length→et v=gO (ms.map (d3 rs ms)) v:=by
  intro v
  induction v using Nat.strongRecOn with
  |ind v bP=>
   intro cv;refine qbG λeO=>kX v ⟨cv,by have:=pb v cv;omega,λb aN ce=>?_⟩;obtain⟨j,bj,rfl⟩:=Zhh hJ aN;obtain⟨b0,de,aS,a2,ej⟩:=ZiO (qaa bj);have xG:(gF (eI ls ms))[j]=b0.start:=by
    have:(gF (eI ls ms))[j]=((eI ls ms)[j]).start:=by simp[gF]
    rw[this,ej];rfl
   rw[xG];rw[ej] at ce⊢;have dZ:idxL ms b0.taker=v:=by
    have:((idxL ms b0.taker:Nat):Int).toNat=v:=ce;omega
   obtain⟨e',iD,g6⟩:=Mf b0 de aS a2;have hi:=Znf hs aS a2 e';have bc:=bP (idxL ms b0.giver) (by omega) (by omega);have kl:=wR b0 de aS a2;show b0.take≤b0.start+b0.give*(et ((idxL ms b0.giver:Nat):Int).toNat:Int)-b0.take*(et ((idxL ms b0.taker:Nat):Int).toNat:Int);rw[qab,qab,bc,vU gP (by omega),xF aS,kl,dZ];have du:(et v:Int)+1≤d3 rs ms b0.taker:=by
    have eM:et v<gO (ms.map (d3 rs ms)) v:=by have:=pb v cv;omega
    have d2:=vU gP cv;rw[←dZ,xF a2,dZ] at d2;omega
   have:=Int.mul_le_mul_of_nonneg_left du g6;rw[Int.mul_add,Int.mul_one] at this;omega
 have ju:bW.length=tot (ms.map (d3 rs ms)):=by
  rw[iU];unfold tot;exact Nat.le_antisymm (qJ λv cv=>by rw[jN v cv];exact fm _) (qJ λv cv=>by rw[jN v cv];exact fm _)
 rw[ju];exact ZbJ λr a3=>by have:=gP r a3;omega
theorem ZmJ{ls:List B5}{rs ms:List Int}{bW:List Nat}{et:Nat→Nat}(hL:∀m∈ms,1≤d3 rs ms m)(de:(0:Int)∈ms)(aN:(⟨0,0,2,2,1⟩:B5)∈ls)
  (gS:Fire.Y1 (mD (eI ls ms) (gF (eI ls ms)) (ms.map (d3 rs ms))) (λ_=>0) bW et):(bW.length:Int)<(ms.map (d3 rs ms)).sum:=by
 have hJ:(gF (eI ls ms)).length=(eI ls ms).length:=by simp[gF]
 have C_:=oV gS;obtain⟨pb,iU,Mg⟩:=qK C_;have gP:∀r∈ms.map (d3 rs ms),1≤r:=λr a3=>by obtain⟨x,aT,rfl⟩:=qah.mp a3;exact hL x aT
 have bj:=ZbP de;have fe:inB ms ⟨0,0,2,2,1⟩∈eI ls ms:=qah.mpr ⟨_,qaF.mpr ⟨aN,by unfold inT;simp[de]⟩,rfl⟩;obtain⟨i,hi,fX⟩:=qaw fe;have hj:∀c,¬hS (eI ls ms) (gF (eI ls ms)) (ms.map (d3 rs ms)) c (idxL ms 0):=λc a8=>by
  have aS:=a8.2.2 _ (AZ hJ hi) (by rw[fX];show((idxL ms 0:Nat):Int).toNat=_;omega);have xG:(gF (eI ls ms))[i]=1:=by
   have:(gF (eI ls ms))[i]=((eI ls ms)[i]).start:=by simp[gF]
   rw[this,fX];rfl
  rw[fX,xG] at aS;have a2:(2:Int)≤1+2*(c ((idxL ms 0:Nat):Int).toNat:Int)-2*(c ((idxL ms 0:Nat):Int).toNat:Int):=aS;omega
 have fr:∀{c d:Nat→Nat}{bW:List Nat},Fire.Y1 (hS (eI ls ms) (gF (eI ls ms)) (ms.map (d3 rs ms))) c bW d→d (idxL ms 0)=c (idxL ms 0):=by
  intro c d bW h
  induction h with
  |nil=>rfl
  | @cons c d w bW r _ bP=>
   rw[bP,Fire.VL];intro e;rw[←e] at r;exact hj _ r
 have hz:=fr C_;have Bz:=ZbJ (rs:=ms.map (d3 rs ms)) λr a3=>by have:=gP r a3;omega
 rcases qbw bW.length (tot (ms.map (d3 rs ms))) with z|z
 ·omega
 ·have e:=Zhm pb (by unfold tot at z Mg;omega) (idxL ms 0) (by rw[GE];exact bj);have d2:=vU gP (v:=idxL ms 0) (by rw[GE];exact bj);rw[xF de] at d2;have:=hL 0 de;omega
theorem Zkq{n:Nat}{cf ms:List Int}{mn:Int}(bc:Zah n cf)(bb:ms.Perm cf)(bo:mn∈ms):(gm n ms mn).length=n-cf.length+1∧cf.length≤n:=by
 have fg:ms.Nodup:=bb.nodup_iff.mpr bc.2.1;have a3:∀x∈ms,0≤x∧x<(n:Int):=λx aT=>bc.2.2 x (bb.mem_iff.mp aT);have e:(gf n ms mn++ms.erase mn).Perm ((List.range n).map λv:Nat=>(v:Int)):=by
  refine(List.perm_ext_iff_of_nodup ?_ ?_).mpr λx=>?_
  ·refine qa4.mpr ⟨Ba,fg.erase mn,λa bx b aN z=>?_⟩;obtain⟨aS,a2⟩:=fg.mem_erase_iff.mp aN;rcases(oX.mp bx).2 with y|y
   ·exact aS (z▸y)
   ·exact y (z▸a2)
  ·rw[qaH,qbK];exact(qaH.mp List.nodup_range).imp λh z=>h (by omega)
  ·rw[qax,oX,fg.mem_erase_iff,qah]
   constructor
   ·rintro(⟨aS,_⟩|⟨_,a2⟩)
    ·exact⟨x.toNat,qao.mpr (by omega),by omega⟩
    ·have:=a3 x a2;exact⟨x.toNat,qao.mpr (by omega),by omega⟩
   ·rintro⟨v,cv,rfl⟩;have:=qao.mp cv
    by_cases y:(v:Int)=mn
    ·exact .inl ⟨by omega,.inl y⟩
    ·by_cases C':(v:Int)∈ms
     ·exact .inr ⟨y,C'⟩
     ·exact .inl ⟨by omega,.inr C'⟩
 have aS:=e.length_eq;have a2:=bb.length_eq;have bU:(gf n ms mn).length=(gm n ms mn).length:=by unfold gf;simp
 have dD:=qck bo;rw[qap,List.length_erase_of_mem bo,GE,qbL] at aS;have eM:=qck (oX (ms:=ms) |>.mpr ⟨a3 mn bo,.inl rfl⟩);omega
section
variable {m far:Nat}{st un:Bool}{cf rs ms:List Int}{bW:List Nat}{et:Nat→Nat}{fl:Int}
theorem Zcd{aJ:HM}(h:qM aJ cf rs ms bW et):(∀x∈ms,1≤d3 rs ms x)∧(∀x∈ms,d3 rs ms x*(gcdM rs ms:Int)=rs.getD x.toNat 0)∧gcdM rs ms≠0∧(ms.map (d3 rs ms)).sum≤400:=by
 obtain⟨bc,d5,dD,bb,hs,gS,kX⟩:=h;have eO:ms≠[]:=λe=>by rw[e] at bb;exact bc.1 bb.symm.eq_nil
 have a3:∀x∈ms,0≤x∧x<(rs.length:Int):=λx aT=>by rw[d5.len];exact bc.2.2 x (bb.mem_iff.mp aT)
 obtain⟨mc,ec⟩:=Zeo d5.pos (bb.nodup_iff.mpr bc.2.1) eO a3;refine⟨λx aT=>(ec x aT).1,λx aT=>(ec x aT).2.2,λz=>?_,by omega⟩;obtain⟨x,aT⟩:=List.exists_mem_of_ne_nil _ eO;have eM:=(ec x aT).2.2;have d2:1≤rs.getD x.toNat 0:=by
  rw[Ye (by have:=a3 x aT;omega)];exact d5.pos _ (qaa _)
 rw[z] at eM;omega
theorem Db(aS:1≤m)(h:qM ⟨ki m far,gg m far st un⟩ cf rs ms bW et):(bW.length:Int)<(ms.map (d3 rs ms)).sum↔st=true∧(0:Int)∈cf:=by
 obtain⟨gc,iR,kN,Mh⟩:=Zcd h;obtain⟨bc,d5,dD,bb,hs,gS,kX⟩:=h;dsimp only at d5 gS kX;rw[kZ] at d5;obtain⟨n3,_⟩:=Zfa aS d5
 constructor
 ·intro du;refine qbG λhj=>?_;have:=Zoq gc hs (λb aN g1 g2=>Zj0 d5.bal kN iR aN g1 g2) (λb aN g1 g2=>?_) gS kX
  ·omega
  ·rcases Ze7 aN with⟨w,hw,rfl⟩|⟨bv,rfl⟩|⟨z,rfl⟩|⟨z,rfl⟩
   ·dsimp only;omega
   ·dsimp only;omega
   ·exact absurd ⟨z,bb.mem_iff.mp g1⟩ hj
   ·rw[n3] at z;cases z
 ·rintro⟨rfl,de⟩;exact ZmJ gc (bb.mem_iff.mpr de) Mb gS
theorem ZmT(aS:1≤m)(bv:far<2 ^ 30)(fa:st=true↔fl / 2 % 2=1)(n3:un=true↔fl % 2=1){k:Nat}(a5:k<5)(h:Ends ⟨ki m far,gg m far st un⟩ cf k):n2 cf (f7 m far) fl ((m:Int)+far)= .int k:=by
 unfold n2
 match k,a5,h with
 |0,_,h=>
  have h:¬kS (ki m far).length cf:=h;rw[kZ] at h;rw[if_pos h]
  rfl
 |1,_,⟨h,a2⟩=>
  dsimp only at h;rw[kZ] at h;rw[if_neg (λz=>z h),if_pos a2]
  rfl
 |2,_,⟨h,ring,a2⟩=>
  dsimp only at h;rw[kZ] at h;rw[if_neg (λz=>z ⟨h.1,h.2.2⟩),if_neg (λz=>z h.2.1),if_pos (n3.mp (Md aS bv a2))]
  rfl
 |3,_,⟨h,rs,d5,bU⟩=>
  dsimp only at h d5;rw[kZ] at h d5;obtain⟨bw,bC⟩:=Zfa aS d5;rw[if_neg (λz=>z ⟨h.1,h.2.2⟩),if_neg (λz=>z h.2.1),if_neg (λz=>by rw[n3.mpr z] at bw;cases bw),if_pos (by omega)]
  rfl
 |4,_,⟨rs,ms,bW,et,a3,du⟩=>
  have hs:=(Db aS a3).mp du;obtain⟨h,d5,dD,bb,_⟩:=a3;dsimp only at h d5;rw[kZ] at h d5;obtain⟨bw,bC⟩:=Zfa aS d5;rw[if_neg (λz=>z ⟨h.1,h.2.2⟩),if_neg (λz=>z h.2.1),if_neg (λz=>by rw[n3.mpr z] at bw;cases bw),if_neg (by omega),if_pos ⟨fa.mp hs.1,hs.2⟩]
  rfl
theorem Zmv(aS:1≤m)(fa:st=true↔fl / 2 % 2=1)(n3:un=true↔fl % 2=1){jm:JM}(h:sF ⟨ki m far,gg m far st un⟩ cf jm):n2 cf (f7 m far) fl ((m:Int)+far)= .non∧jm.kept.length=f7 m far-cf.length+1∧cf.length≤f7 m far∧jm.inner.length≤400:=by
 obtain⟨rs,ms,bW,et,mn,a3,du,kM,rk,rfl⟩:=h;have hs:=mt (Db aS a3).mpr du;obtain⟨gc,iR,kN,Mh⟩:=Zcd a3;obtain⟨h,d5,dD,bb,xh,gS,_⟩:=a3;dsimp only at h d5 gS;rw[kZ] at h d5;obtain⟨bw,bC⟩:=Zfa aS d5;have a5:=Zkq h bb kM;refine⟨?_,?_,a5.2,?_⟩
 ·unfold n2;rw[if_neg (λz=>z ⟨h.1,h.2.2⟩),if_neg (λz=>z h.2.1),if_neg (λz=>by rw[n3.mpr z] at bw;cases bw),if_neg (by omega),if_neg (λz=>hs ⟨fa.mpr z.1,z.2⟩)]
 ·show(gm (ki m far).length ms mn).length=_;rw[kZ];exact a5.1
 ·show(bW.map λw=>ms.getD w 0).length≤400;rw[GE];have:=(qK (oV gS)).2.2;have Bz:=ZbJ (rs:=ms.map (d3 rs ms)) λr a3=>by
   obtain⟨x,aT,rfl⟩:=qah.mp a3;have:=gc x aT;omega
  omega
end
section
variable {P:Program}{w:World}{K:Frag}{mg:Str→Option Value}{base:Heap}
theorem Znu(T:Tp K mg):OkN P w base 13 T.ct (GZ T):=by
 refine T.ct.F.okX iG (λvs H Q E h=>?_) (λdi A outer s H vs Q E a3 h=>?_)
 ·obtain⟨a,ns,rfl,_⟩:=h
  rfl
 ·have hu:=a3.hu;obtain⟨p,ns,rfl,e1,eV,k⟩:=h;refine⟨_,(bR (dG (i:=1) iG.nd rfl (Or.inl rfl) (dE (ha K) bQ (dE gH (d8 T.x0 (oY T) a3 dw (a6 (pv 0) (a6 bQ bp))) bQ)))
     (bR (dG (i:=2) iG.nd rfl (Or.inl rfl) (d8 T.x0 (oY T) a3 dw (a6 (pv 0) (a6 bQ bp))))
     (bR (dG (i:=3) iG.nd rfl (Or.inl rfl) bQ)
     (bR (oj (eU (eo (ia (K:=K) rfl hu) (dE gH (dE iA (pv 2) bQ) bQ) bQ (ez _)) (cm (dG (i:=3) iG.nd rfl (Or.inl rfl) (dE (ha K) (dE l8 bQ (pv 1)) (dE gH (dE iA (pv 2) bQ) bQ)))) e7))
     (bR (dG (i:=4) iG.nd rfl (Or.inl rfl) (dE (ha K) (pv 1) (lm yk (by rfl) T.b5 PyProof.Rows.boot_int (a6 (lh m5 (pv 3) bQ (ez _)) bp))))
     (bR (dG (i:=5) iG.nd rfl (Or.inl rfl) (d8 T.x1 (Hy T) a3 dw (a6 (pv 0) (a6 (pv 4) bp))))
     (bR (dG (i:=6) iG.nd rfl (Or.inl rfl) (d8 T.cz (HS T) a3 dw (a6 (pv 1) (a6 (lh (ia (K:=K) rfl hu) (dE gH (pv 2) bQ) bQ (ez _)) (a6 (pv 3) (a6 (lh (ia (K:=K) rfl hu) (dE gH (dE iA (pv 2) bQ) bQ) bQ (ez _)) bp))))))
     (bR (dG (i:=7) iG.nd rfl (Or.inl rfl) (lm (p' (K:=K) rfl) (by rfl) T.E qba (a6 (pv 5) bp)))
     (bR (kA (d8 T.c3 (LY T) a3 dw (a6 (pv 6) (a6 (pv 7) bp))) (jS (K:=K) (n:=2) rfl rfl (f8 (d0 (i:=8) iG.nd rfl (Or.inl rfl)) (f8 (d0 (i:=9) iG.nd rfl (Or.inl rfl)) jI))))
     (bR (eU (PW.pt (l4 (eo (ov (K:=K) rfl hu) (pv 7) (pv 5) (ez _)) (mX (eo (ov (K:=K) rfl hu) (pv 9) (d8 T.c5 (L6 T) a3 dw (a6 (pv 5) (a6 (pv 4) (a6 (pv 2) (a6 (dE (ha K) (pv 1) (pv 3)) bp))))) (ez _))))) (cm (dS VZ)) e7)
     (bR (eU (eo yh (pv 9) Wi (ez _)) (cm (dS (lh rB (pv 8) Wi (ez _)))) e7)
     (bR (dG (i:=10) iG.nd rfl (Or.inl rfl) (dE (ha K) (dE l8 (pv 4) (ey (gM K) (by rfl) T.g qas (a6 (pv 5) bp))) bQ))
     (bR (dG (i:=11) iG.nd rfl (Or.inl rfl) (hE (a6 (dE gH (dE iA (pv 2) bQ) (pv 10)) (a6 (dE l8 (pv 10) bQ) bp))))
     (bR (dG (i:=12) iG.nd rfl (Or.inl rfl) (dE gH (dE iA (pv 2) bQ) bQ))
     (bR (dG (i:=13) iG.nd rfl (Or.inl rfl) (dF (ixk K) (hE (a6 (dE (ha K) (pv 10) (dE gH (pv 2) (dE rA bQ bQ))) (a6 (dE l8 (tQ tR bQ) (dE gH (pv 2) (dE rA bQ bQ))) bp))) (dE gH (dE iA (pv 2) bQ) bQ) (λ_ _=>rfl)))
     (bR (eU (eo (ov (K:=K) rfl hu) (d8 T.cs (C7 T) a3 dw (a6 (pv 8) (a6 (dE (ha K) (dE (ha K) (oa (ow (K:=K) rfl) (pv 11) n_ (n' (pv 12))) (hE (a6 (pv 13) bp))) (oa (ow (K:=K) rfl) (pv 11) (n' (pv 12)) n_)) bp))) bQ (ez _)) (cm (dS VZ)) e7)
     (cm (dS (lh rB (d8 T.cs (C7 T) a3 dw (a6 (pv 8) (a6 (pv 11) bp))) Wi (ez _)))))))))))))))))))),?_⟩
  try dsimp only[L2.cxX,L2.ZJ,L2.Zl]
  walk_at "rds";have ef:1≤1+cellX ns 0 % 6∧1+cellX ns 0 % 6≤6:=by omega
  obtain⟨m,bo⟩:∃m:Nat,1+cellX ns 0 % 6=(m:Int):=⟨(1+cellX ns 0 % 6).toNat,by omega⟩;rw[bo] at ef⊢;generalize cellX ns 1=fl at*;refine Rd.cut (λbN H'=>H'=H∧∃far:Nat,far≤400∧bN=[some (.ref p),some (.int m),some (.int fl),some (.int far),none,none,none,none,none,none,none,none,none,none]) ?k1 ?jM
  case jM=>
   walk_at "rds";refine Rd.ifD (λc=>?_) (λc=>?_)
   ·walk_at "rds";exact⟨rfl,(400-(m:Int)+fl / 8 % 2).toNat,by omega,by rw[qbc (by omega)];rfl⟩
   ·walk_at "rds";exact⟨rfl,0,by omega,rfl⟩
  case k1=>
  rintro bN H' ⟨rfl,far,SA,rfl⟩;walk_at "rds";refine .inr ⟨_,rfl,?_⟩;walk_at "rds";have gX:(m:Int)+(if decide (0<(far:Int)) then 1 else 0)=((f7 m far:Nat):Int):=by
   unfold f7
   by_cases z:far=0
   ·rw[z];simp
   ·rw[decide_eq_true (by omega),if_pos rfl,if_neg z];omega
  rw[gX];have kI:=tv (m:=m) (far:=far);walk_at "rds";refine⟨p,ns,f7 m far,rfl,e1,eV,by omega,by omega,λg aU cf hg0 a7 pc jU=>?_⟩;walk_at "rds";refine⟨m,far,decide (fl % 2=1),decide (fl / 2 % 2=1),rfl,by omega,by omega,λbb fp a4 fh jA bK=>?_⟩;have Dc:=bK _ _ pc;walk_at "rds";refine Rd.Zat (.of Dc) (λrp Mi=>?_);have bM:Ze a4 (upd a4 rp (.lst (cf.map V.int))):=dH Mi;have xH:(upd a4 rp (.lst (cf.map V.int))) rp=some (.lst (cf.map V.int)):=Zd;generalize upd a4 rp (.lst (cf.map V.int))=b_ at*;have Dd:=bM _ _ Dc;have fE:=fh.same bM;walk_at "rds";refine⟨bb,rp,_,fp,cf,rfl,fE,xH,by omega,Mc (by omega),by have:=ZnW (m:=m) (far:=far) (st:=decide (fl / 2 % 2=1)) (un:=decide (fl % 2=1)) (by omega);dsimp only;omega,by rw[kZ];exact xE (by omega),C9 (by omega),λSD a5 mq u cw c_ kW=>?_,λjm lq j u cw ad bj c_ kW=>?_⟩
  ·have xI:=ZmT (fl:=fl) (by omega) (by omega) (by simp) (by simp) a5 mq;have xJ:=c_ _ _ xH;have mS:=c_ _ _ Dd;refine Rd.VO (.of kW) rfl ?_;walk_at "rds";refine Rd.Zko (gd.ints (SqL.of xJ)) (gd.ints (SqL.of mS)) (ou _) (ou _) (uI _) ?_;rw[Zcx,decide_eq_true rfl];walk_at "rds";refine⟨g,cf,f7 m far,fl,_,rfl,.of mS,by omega,λb3 dt=>?_⟩;rw[xI];walk_at "rds";refine⟨rfl,?_⟩;walk_at "rds";refine⟨rfl,?_⟩;exact k _
  ·obtain⟨xI,hN,CN,dx⟩:=Zmv (fl:=fl) (by omega) (by simp) (by simp) lq;have xJ:=c_ _ _ xH;have mS:=c_ _ _ Dd;refine Rd.VO (.of kW) rfl ?_;walk_at "rds";refine Rd.Zko (gd.ints (SqL.of xJ)) (gd.ints (SqL.of mS)) (ou _) (ou _) (uI _) ?_;rw[Zcx,decide_eq_true rfl];walk_at "rds";refine⟨g,cf,f7 m far,fl,_,rfl,.of mS,by omega,λb3 dt=>?_⟩;rw[xI];walk_at "rds";refine Rd.Zko .non .non rfl rfl (by decide) ?_;rw[show PyData.eqv PyData.none PyData.none=true from rfl];have SE:=SqL.of (K:=K) (dt _ _ mS);have Mj:=bj.same dt;have mI:jm.kept.length≤30:=by omega
   have e_:((f7 m far:Nat):Int)-(((cf.map V.int).length:Nat):Int)+1=(jm.kept.length:Int):=by rw[GE];omega
   have SF:0<((f7 m far:Nat):Int)-(((cf.map V.int).length:Nat):Int)+1:=by omega
   have SG:(((f7 m far:Nat):Int)-(((cf.map V.int).length:Nat):Int)+1).natAbs.log2<9000:=Zm3 (by omega) (by omega);walk_at "rds";refine⟨rfl,?_⟩;walk_at "rds";rw[e_];have r7:0<(jm.kept.length:Int):=by omega
   have SH:=Int.emod_nonneg (fl / 16) (show(jm.kept.length:Int)≠0 by omega);have SI:=Int.emod_lt_of_pos (fl / 16) r7;refine⟨by show 2≤sizeLine;decide,λb aN=>?_⟩;have eB:Ze b3 (upd b3 b (.lst [V.int (fl / 16 % (jm.kept.length:Int)),V.int ((jm.kept.length:Int)-1)])):=dH aN;have Ml:(upd b3 b (.lst [V.int (fl / 16 % (jm.kept.length:Int)),V.int ((jm.kept.length:Int)-1)])) b=some (.lst ([fl / 16 % (jm.kept.length:Int),(jm.kept.length:Int)-1].map V.int)):=Zd;generalize upd b3 b (.lst [V.int (fl / 16 % (jm.kept.length:Int)),V.int ((jm.kept.length:Int)-1)])=dN at*;generalize fl / 16 % (jm.kept.length:Int)=g1 at*;have Mm:=Mj.same eB;walk_at "rds";refine⟨by show 2≤sizeLine;decide,λc a8=>?_⟩;have Mn:(10:Int) ^ Int.toNat 29=10 ^ 29:=rfl;rw[Mn];have e8:Ze dN (upd dN c (.lst [V.int ((jm.kept.length:Int)+fl % 10 ^ 29),V.int (-1-fl % 10 ^ 29)])):=dH a8;have tj:(upd dN c (.lst [V.int ((jm.kept.length:Int)+fl % 10 ^ 29),V.int (-1-fl % 10 ^ 29)])) c=some (.lst [V.int ((jm.kept.length:Int)+fl % 10 ^ 29),V.int (-1-fl % 10 ^ 29)]):=Zd;generalize upd dN c (.lst [V.int ((jm.kept.length:Int)+fl % 10 ^ 29),V.int (-1-fl % 10 ^ 29)])=ed at*;obtain⟨bd,SJ,Mo⟩:∃bd:Int,atI [V.int ((jm.kept.length:Int)+fl % 10 ^ 29),V.int (-1-fl % 10 ^ 29)] (fl / 32 % 2)=some (.int bd)∧¬(0≤bd∧bd<(jm.kept.length:Int)):=by
    rcases(by omega:fl / 32 % 2=0∨fl / 32 % 2=1) with z|z
    ·rw[z];exact⟨_,rfl,by omega⟩
    ·rw[z];exact⟨_,rfl,by omega⟩
   have SK:=SqL.of (K:=K) tj;have Mp:=Mm.same e8;have mP:=SqL.of (K:=K) (e8 _ _ Ml);walk_at "rds";obtain⟨xs,ys,ex,fk,SM,mm⟩:∃xs ys:List Int,iv ([g1,(jm.kept.length:Int)-1].map V.int) none (some (fl / 64 % 3))=xs.map V.int∧iv ([g1,(jm.kept.length:Int)-1].map V.int) (some (fl / 64 % 3)) none=ys.map V.int∧xs.length≤2∧ys.length≤2:=by
    rcases(by omega:fl / 64 % 3=0∨fl / 64 % 3=1∨fl / 64 % 3=2) with z|z|z
    ·rw[z];exact⟨[],[g1,(jm.kept.length:Int)-1],rfl,rfl,by simp,by simp⟩
    ·rw[z];exact⟨[g1],[(jm.kept.length:Int)-1],rfl,rfl,by simp,by simp⟩
    ·rw[z];exact⟨[g1,(jm.kept.length:Int)-1],[],rfl,rfl,by simp,by simp⟩
   refine Rd.slL mP (λkz mQ=>?_);rw[ex];have gi:Ze ed (upd ed kz (.lst (xs.map V.int))):=dH mQ;have Mq:(upd ed kz (.lst (xs.map V.int))) kz=some (.lst (xs.map V.int)):=Zd;generalize upd ed kz (.lst (xs.map V.int))=e5 at*;walk_at "rds";intro ic hX;have g0:Ze e5 (upd e5 ic (.lst [V.int bd])):=dH hX;have w7:(upd e5 ic (.lst [V.int bd])) ic=some (.lst [V.int bd]):=Zd;generalize upd e5 ic (.lst [V.int bd])=fI at*;refine Rd.ZdP (g0 _ _ Mq) w7 (qaX (eE (by simp;omega))) (λoK rc=>?_);have gK:Ze fI (upd fI oK (.lst (xs.map V.int++ [V.int bd]))):=dH rc;have w8:(upd fI oK (.lst (xs.map V.int++ [V.int bd]))) oK=some (.lst (xs.map V.int++ [V.int bd])):=Zd;generalize upd fI oK (.lst (xs.map V.int++ [V.int bd]))=fP at*;have De:=gi.trans (g0.trans gK);have Mr:=De.seq mP;walk_at "rds";refine Rd.slL Mr (λtx hB=>?_);rw[fk];have jq:Ze fP (upd fP tx (.lst (ys.map V.int))):=dH hB;have w9:(upd fP tx (.lst (ys.map V.int))) tx=some (.lst (ys.map V.int)):=Zd;generalize upd fP tx (.lst (ys.map V.int))=hH at*;refine Rd.ZdP (jq _ _ w8) w9 (qaX (eE (by simp;omega))) (λrq jY=>?_);have iN:Ze hH (upd hH rq (.lst (xs.map V.int++ [V.int bd]++ys.map V.int))):=dH jY;have w_:(upd hH rq (.lst (xs.map V.int++ [V.int bd]++ys.map V.int))) rq=some (.lst ((xs++ [bd]++ys).map V.int)):=by rw[Zd];simp
   generalize upd hH rq (.lst (xs.map V.int++ [V.int bd]++ys.map V.int))=H12 at*;have Df:=De.trans (jq.trans iN);have Dg:=Mp.same Df;have xx:=Df.seq mP;walk_at "rds";refine⟨j,rq,jm,ad,_,rfl,Dg,.of w_,by simp;omega,by omega,mI,λ_ mT ks=>?_,λc=>absurd (c bd (by simp)) Mo⟩;have Ms:=Dg.same ks;have Mt:=ks.seq xx;walk_at "rds";refine⟨j,b,jm,ad,_,rfl,Ms,Mt,by simp,by omega,mI,λ⟨x,aT,a8⟩=>absurd ?_ a8,λ_ SN SO=>?_⟩
   ·simp only[qad,qaR,or_false] at aT;omega
   walk_at "rds";refine⟨rfl,?_⟩;exact k _
end
theorem walk{l:PySem.W.OpenLaw}{q:Program}{oc:List Str}{od:(Str→Option Value)→Heap→Prop}{l':World→Heap→Prop}{d:DefRec}{K:Params→Frag}(bF:l.most=some 63)(jp:d.params.defaults=[])(nX:d.name="law")
  (uc:∀(w:World)(h:Heap),l' w h→(K w.params).In h)
  (F:∀(w:World)(mg:Str→Option Value)(h:Heap),(K w.params).In h→h.Ns mainGlobals mg→∃T:Tp (K w.params) mg,True):
  PySem.W.WalkO q oc od l' l.row.toRowW d [] (λf vs=>PySem.call f vs):=by
 refine L2.Zme (n:=63) (k:=13) (x:="_law_script") (CX:=λw=>CXX l.prog w) (sp:=λw=>Zlg (K w.params)) bF (by decide) jp ⟨rfl,by decide,by decide⟩ uc (λw mg iz h e9 G og=>?_) (λ_ _ a ns aJ _ e1=>⟨a,ns,rfl,e1,aJ,λ_=>rfl⟩) ?_
 ·obtain⟨T,_⟩:=F w mg h e9 G;rw[nX,T.ct.m] at og;cases og;exact⟨T.ct.d,T.cy,λbase _ _=>Znu T⟩
 ·intro w H s e s' z;obtain⟨_,_,_,_,_,_,_,_,_,_,_,_,_,z⟩:=z;exact z
end Nm
namespace PySem.W.Fast
def tw3691952553536810182:=0
def tw4363461175635464928:=0
def tw12867406322261020173:=0
def tw5667257600065333076:=0
def tw16513090741929562090:=0
def tw10816044852661948234:=0
def tw17310351720933123798:=0
def tw3653692161051602981:=0
def tw9738728371965018667:=0
def tw3109974502417279932:=0
def tw16850091597364393496:=0
def tw17590249398295785704:=0
def tw1891455807731682197:=0
def tw547887340521474522:=0
def tw18325697546143647264:=0
def tw16088429698788891336:=0
def tw18178578132450485060:=0
def tw6806764348522294316:=0
def tw17202065953235362279:=0
def tw458896485754620343:=0
def tw8708370441699797860:=0
def tw944432939256063398:=0
def tw4688717963698220372:=0
def tw13213989500565138346:=0
def tw16669195612736310753:=0
def tw2288368108421542937:=0
def tw17289009432362304682:=0
def tw5461747921436221616:=0
def tw12743449460907436502:=0
def tw3557800274092438837:=0
def tw10764561650810615163:=0
def tw10520870377481884201:=0
def tw1880148935419586544:=0
def tw13989434979973621836:=0
def tw3202591464255750626:=0
def tw5259400006008629338:=0
def tw15596223059269654074:=0
def tw685347182791435616:=0
def tw16377637201257289323:=0
def tw11469234194936542966:=0
def tw2495535098914211922:=0
def tw18226544546379568129:=0
def tw2056706253123792748:=0
def tw2502023910421058327:=0
def tw4684906643608122768:=0
def tw16913728458324393275:=0
def tw2432325141941240890:=0
def tw6641103107184906978:=0
def tw16539190351085438979:=0
def tw5389090795433616114:=0
def tw10652311221074606321:=0
def tw11330605445122289511:=0
def tw1457800469062491668:=0
def tw3278921233181321853:=0
def tw5460454198433934606:=0
def tw18083868278296443670:=0
def tw17292821300233616410:=0
def tw7089036300237271776:=0
def tw9395061415111679656:=0
def tw13538354617257456895:=0
def tw14569124980852872685:=0
def tw3189591664930017941:=0
def tw18314627191858208190:=0
def tw7765438618956577011:=0
def tw1809211205647491888:=0
def tw10503705384595135178:=0
def tw5303591052517334187:=0
def tw6590677900857650699:=0
def tw12581926337797980019:=0
def tw72685554234919750:=0
def tw6433337174939653613:=0
def tw4573942054146792054:=0
def tw10835958256954689000:=0
def tw17268001094612762241:=0
def tw3491736271986755102:=0
def tw4502002126131338523:=0
def tw6363354806486928429:=0
def tw9784954992222969490:=0
def tw7787461165060558809:=0
def tw12933311119645905314:=0
def tw9719195921321677363:=0
def tw16515547746220638205:=0
def tw11196679704159910428:=0
def tw7435567900909663603:=0
def tw759179844572205705:=0
def tw6583917043117015171:=0
def tw7281655229700628559:=0
def tw15566802801443299995:=0
def tw69981737427627106:=0
def tw14287340216399702382:=0
def tw9386267513882131600:=0
def tw5636635035367346408:=0
def tw11715072196172625190:=0
def tw1996441821278830617:=0
def tw1482971507686751947:=0
def tw780928616097217269:=0
def tw15661510894436797799:=0
def tw15335766392124310746:=0
def tw2591727217674024901:=0
def tw405616367147825486:=0
def tw12149603623615642131:=0
def tw3880874465333136408:=0
def tw6170330224936184333:=0
def tw6410617607966801909:=0
def tw2024606182989045684:=0
def tw15702195840334355116:=0
def tw14944756661658783031:=0
def tw9975036104650801247:=0
def tw16770182462862364374:=0
def tw12023549594455054790:=0
def tw11610411746983403781:=0
def tw9481388055512933936:=0
def tw15902169988139028876:=0
def tw10270516620089052172:=0
def tw6677516374046973381:=0
def tw16790818143720811858:=0
def tw9563562786841167015:=0
def tw16032493714930004772:=0
def tw8114874917132204148:=0
def tw4641911312023375394:=0
def tw10944227202780666613:=0
def tw18091805975350299162:=0
def tw3974786708097429087:=0
def tw10060008151868229875:=0
def tw10228591410844570839:=0
def tw8957549245277559709:=0
def tw1385754625253917550:=0
def tw10292793981851407221:=0
def tw6318242169802809568:=0
def tw599757044854033664:=0
def tw2025109527742836095:=0
def tw9505125332525298338:=0
def tw11005165101880426270:=0
def tw6397471094737078296:=0
def tw7665565015284057092:=0
def tw5861323450274933676:=0
def tw10036603369369823929:=0
def tw6703202635103962731:=0
def tw12525753612117125742:=0
def tw13033410130661459273:=0
def tw17936889676813683668:=0
def tw7565334836106502798:=0
def tw3451742159879226608:=0
def tw1152570790671356178:=0
def tw5724412094732675955:=0
def tw856512653630014868:=0
def tw12265666454402176128:=0
def tw4181706640814956851:=0
def tw4254614268941103800:=0
def tw10809611575908769874:=0
def tw17693733338566975446:=0
def tw5556127001524475915:=0
def tw1800604486833279087:=0
def tw5010256004104326229:=0
def tw10863770582992659122:=0
def tw8932009817705718485:=0
def tw6638989577261553078:=0
def tw7310656550530754683:=0
def tw18325942210883409192:=0
def tw16813367252441985138:=0
def tw3601829702937503394:=0
def tw15116623488192578146:=0
def tw5744735171517042272:=0
def tw11616063164178711232:=0
def tw3658975379165910610:=0
def tw10649583427773652954:=0
def tw16211456588648786433:=0
def tw2816091407156751591:=0
def tw16395231693030199029:=0
def tw13102161500853642484:=0
def tw14716871870617103442:=0
def tw12426347132808178756:=0
def tw36265184879178472:=0
def tw4846463262730960304:=0
def tw1860230039139233939:=0
def tw5839697576324316843:=0
def tw11363275898905482428:=0
def tw5332865013942320895:=0
def tw15537485922821122266:=0
def tw15210122507507143948:=0
def tw1568725142957780430:=0
def tw4359458589297823492:=0
def tw9995386844486276410:=0
def tw13856973231644424996:=0
def tw3786580273484896622:=0
def tw6271023893545121517:=0
def tw9794076063237478225:=0
def tw9516488236168265628:=0
def tw9089817240345353666:=0
def tw8017789769441758577:=0
def tw17709681956071613164:=0
def tw17456290812389783238:=0
def tw5612031646227642462:=0
def tw7225614264870915097:=0
def tw18409600194729322522:=0
def tw3245624227674642816:=0
def tw13756475322655886601:=0
def tw17812225332319070415:=0
def tw5336399279669161302:=0
def tw6701299703209982550:=0
def tw15081424826221597129:=0
def tw867657686200274414:=0
def tw12205510168801254189:=0
def tw10630364720336872901:=0
def tw15612818547342952134:=0
def tw11837915938665020851:=0
def tw1625986760430587219:=0
def tw9764375915699642325:=0
def tw6086161722438348208:=0
def tw7508324594011658849:=0
def tw18129355807543447653:=0
def tw4350097882339806613:=0
def tw11290235907862680613:=0
def tw15376980133927903881:=0
def tw355885257798442048:=0
def tw6117760874850146588:=0
def tw8809404647890063670:=0
def tw3003829452829317516:=0
def tw6139291033181326723:=0
def tw5008131731953375513:=0
def tw7281979619326929949:=0
def tw3166453204704329221:=0
def tw11084723591254122071:=0
def tw16678090245333135058:=0
def tw6784154913388196186:=0
def tw7760939521774335547:=0
def tw7710815538292358821:=0
def tw10175826619516567387:=0
def tw9120404053318475995:=0
def tw15386019439350863497:=0
def tw10675258083940650067:=0
def tw11824207759130772269:=0
def tw4803921310100329988:=0
def tw18158342335076311195:=0
def tw15995773813148682089:=0
def tw8941817228250603656:=0
def tw7765799890118476509:=0
def tw4789650098876016646:=0
def tw16801242438225855089:=0
def tw5723853621543103947:=0
def tw8761915447382879066:=0
def tw493244491469120494:=0
def tw16589949801561232684:=0
def tw13689842647881754717:=0
def tw9559202586392292870:=0
def tw6710334527913716552:=0
def tw5725355245888130364:=0
def tw13554095158972744171:=0
def tw11873869328159483957:=0
def tw8429272911548723314:=0
def tw7807513925426238260:=0
def tw10190738082581042063:=0
def tw17881184496917229870:=0
def tw7017261214479173332:=0
def tw1044755957167847103:=0
def tw11215506924847391854:=0
def tw6295993252147390798:=0
def tw39640184300884434:=0
def tw5779810717016636399:=0
def tw13976655565189736293:=0
def tw13930307584770825812:=0
def tw12735201692931067183:=0
def tw910875597126442987:=0
def tw6343987774243443943:=0
def tw11335014021933711828:=0
def tw962159304532864628:=0
def tw5128685069624739061:=0
def tw15386010659431631550:=0
def tw10957864231296528301:=0
def tw2362463026497263726:=0
def tw7986936383910665434:=0
def tw245280177795839531:=0
def tw15613580609495665569:=0
def tw16080801006290946628:=0
def tw18387940262906948564:=0
def tw3788714465878728014:=0
def tw13578990178547187652:=0
def tw10671397541887304474:=0
def tw568695317729218977:=0
def tw13537715157210549253:=0
def tw4105752173441457244:=0
def tw9806687807902598646:=0
def tw5350089170820333491:=0
def tw9708234227631618393:=0
def tw4944831209194684525:=0
def tw3208133736698156756:=0
def tw17563544634045152102:=0
def tw17199672491314017665:=0
def tw13493506211679135925:=0
def tw15245719282699207921:=0
def tw6415821877998476469:=0
def tw986823632660280152:=0
def tw5983721608695673963:=0
def tw9182372023637147447:=0
def tw14762553477105924156:=0
def tw10247561158009823781:=0
def tw17670011469562278338:=0
def tw14846664332156364560:=0
def tw17833243854980833790:=0
def tw10370388565676097183:=0
def tw11322562293280727101:=0
def tw1321786945567095509:=0
def tw5391184923322636037:=0
def tw16293666229331930036:=0
def tw13777415205844695814:=0
def tw9144976994639533727:=0
def tw16430697946412655246:=0
def tw5838832219821858999:=0
def tw12297611915167799433:=0
def tw13237713658110675761:=0
def tw6221194851730653645:=0
def tw14398608002812480024:=0
def tw5028280161258320214:=0
def tw13430667701977044457:=0
def tw5652209654510601623:=0
def tw2510181123654432436:=0
def tw16234131098309513020:=0
def tw7099563034723155206:=0
def tw9718961161748543543:=0
def tw10632861352176532877:=0
def tw6790454365811647458:=0
def tw6569813744900369641:=0
def tw16527574045944792162:=0
def tw15682606058188479335:=0
def tw17236121684250356004:=0
def tw13395860072743870013:=0
def tw11553381831486508482:=0
def tw17456685357669767266:=0
def tw2133297822230621531:=0
def tw4946012769951574108:=0
def tw310137775220078460:=0
def tw4999311925607645251:=0
def tw2695961209967723635:=0
def tw9976667378957570335:=0
def tw16200835621052769693:=0
def tw5892537895533171749:=0
def tw7086578627018153579:=0
def tw13232540506563298924:=0
def tw14749618658800609609:=0
def tw13886926158795458493:=0
def tw968593736910722492:=0
def tw11317360100227245978:=0
def tw9450892557949257589:=0
def tw1626793531796577293:=0
def tw11009278804004429398:=0
def tw7947652492009526250:=0
def tw3397256352269925398:=0
def tw11172019066809115550:=0
def tw10713751145734319253:=0
def tw2997498185335160247:=0
def tw12133030197712071966:=0
def tw10509436239855791489:=0
def tw16277576369837337417:=0
def tw4338768282330549623:=0
def tw1883842243143979698:=0
def tw7942054763081119386:=0
def tw7812016199135383927:=0
def tw9354304796193664168:=0
def tw6944383196403245177:=0
def tw2317553017770626109:=0
def tw15931301605069633389:=0
def tw8522623988160774807:=0
def tw8873147845839117010:=0
def tw6925147788608416370:=0
def tw16697972182461035043:=0
def tw16452701915373328387:=0
def tw10089736932715675888:=0
def tw2214029545176253085:=0
def tw9911950562273296277:=0
def tw17356589935944593427:=0
def tw9162178642847464594:=0
def tw16701498178714394724:=0
def tw15839081575142990359:=0
def tw9771791686865683315:=0
def tw12818655148837620213:=0
def tw13166792513761784760:=0
def tw15228805207463894344:=0
def tw13779776449987723000:=0
def tw14884684503261953725:=0
def tw3787990919290424530:=0
def tw16910037219266737781:=0
def tw2527320348219158337:=0
def tw3437738880665484496:=0
def tw17542931529638840355:=0
def tw7346382701316268329:=0
def tw3355483752978865991:=0
def tw3321356204586081091:=0
def tw4591821973981868487:=0
def tw11726091955891814093:=0
def tw5628599284988865944:=0
def tw12202421850401273845:=0
def tw11877314580617306179:=0
def tw13421305477169129508:=0
def tw10228512203518214448:=0
def tw15389020291072801045:=0
def tw15438400508876262475:=0
def tw5454990808946419468:=0
def tw2539012113704224961:=0
def tw1845609848751040418:=0
def tw3134271612592603473:=0
def tw14151332602211106313:=0
def tw15363645867495350577:=0
def tw18079651968058588508:=0
def tw11385208560485554633:=0
def tw13820418335340772112:=0
def tw12113595084765029854:=0
def tw8627121468663468090:=0
def tw2762901624617188151:=0
def tw8603694073669258256:=0
def tw7105301872507730572:=0
def tw3392790805080606595:=0
def tw9155443418404794242:=0
def tw15946097364156094188:=0
def tw4382024655511763896:=0
def tw679947943511288253:=0
def tw6735908071289400348:=0
def tw433306700578575202:=0
def tw18155004626813077609:=0
def tw6002557130443304657:=0
def tw17602391357393362755:=0
def tw94564303919303854:=0
def tw9094719724794263430:=0
def tw10366686831467205213:=0
def tw7150938574826686942:=0
def tw3483106126592301562:=0
def tw7009609969803825476:=0
def tw3406037106473968947:=0
def tw10991534687137627473:=0
def tw13442419149482515560:=0
def tw1288491774994910335:=0
def tw10826185752776834074:=0
def tw6529216323328447736:=0
def tw13933672831009252022:=0
def tw10888078431879663492:=0
def tw1219996216743929605:=0
def tw1326341790717359863:=0
def tw6800951859917523194:=0
def tw1964735802896338144:=0
def tw8670658612616737962:=0
def tw2733338319698581628:=0
def tw12976650019963473188:=0
def tw7077201300969406479:=0
def tw13356618052889189769:=0
def tw14102211848557674137:=0
def tw17489744990900455776:=0
def tw13368060586880352722:=0
def tw3310737097350768361:=0
def tw15777487302377132672:=0
def tw11867617979506781760:=0
def tw8034335507982612687:=0
def tw485330638763210932:=0
def tw8094753492851221147:=0
def tw2406600597354893571:=0
def tw8020576119698106530:=0
def tw5011082163667878378:=0
def tw11250843559895135930:=0
def tw11004095446436369245:=0
def tw4069407161718852559:=0
def tw17435101503977813788:=0
def tw14426426483772419779:=0
def tw9574008128457839760:=0
def tw15486695625981737073:=0
def tw9261734275569850005:=0
def tw8991761598285991199:=0
def tw17743411797632969226:=0
def tw5518948464091837020:=0
def tw14200624724621743421:=0
def tw6794892978601494374:=0
def tw15267981648489010713:=0
def tw2264450977566119839:=0
def tw4064269987556122640:=0
def tw9290909911072575870:=0
def tw10640349232951817388:=0
def tw16296040117751282831:=0
def tw1889868227206150315:=0
def tw1250180963062649449:=0
def tw18341521429240760585:=0
def tw8076976881198977813:=0
def tw12581873400800836200:=0
def tw7747960448688474472:=0
def tw2924509663947433815:=0
def tw987298336824326883:=0
def tw5766935778114670608:=0
def tw12437238282856064096:=0
def tw16220442740356132033:=0
def tw8365845766606951168:=0
def tw10027489648506930786:=0
def tw2773325261065741693:=0
def tw12820822552403536340:=0
def tw16986132554406958531:=0
def tw713062487093319960:=0
def tw14194856462682929472:=0
def tw15429101407535891204:=0
def tw9865181723909287309:=0
def tw7529022983413321373:=0
def tw18437793702628020009:=0
def tw13215104570709937841:=0
def tw17456051412701567927:=0
def tw6560864270191463974:=0
def tw9496772283420133860:=0
def tw9862946839953708693:=0
def tw9997123745425565640:=0
def tw10270511298130319774:=0
def tw18053624220085158355:=0
def tw1394974063448914291:=0
def tw7156594430821289758:=0
def tw2858531475151124304:=0
def tw6427854487984862221:=0
def tw11974044034194898223:=0
def tw14688581405853705287:=0
def tw2773462690363790358:=0
def tw6615273640561339348:=0
def tw16684254074594928872:=0
def tw9872611200256900725:=0
def tw8210654395214294309:=0
def tw3733327340857610199:=0
def tw4254328840512751764:=0
def tw13113501728269414509:=0
def tw2250092642907722472:=0
def tw16428226119286968475:=0
end PySem.W.Fast
open PySem PySem.W PyProof.Rows
local macro_rules| `(tactic|walk_at "dn")=>`(tactic|(refine' L2.Dn.of (by assumption) (by assumption) ?a ?l ?c ?k ?b;(case a=>k_is);(case l=>k_is);(case c=>k_is);(case k=>k_is);(case b=>(repeat refine L2.lenS λ_=>?_);exact L2.Zkt λ_ _ _ _ _ _=>rfl)))
local macro_rules| `(tactic|walk_at "dm")=>`(tactic|(refine' L2.Dm.of ?a ?i ?l ?c ?k ?b;(case a=>k_is);(case i=>k_is);(case l=>k_is);(case c=>k_is);(case k=>k_is);(case b=>(repeat refine L2.lenS λ_=>?_);exact L2.Zkt λ_ _ _ _ _ _=>rfl)))
local macro_rules| `(tactic|walk_at "di")=>`(tactic|(refine' L2.Di.of ?z ?y ?a ?i ?l ?c ?k ?b;(case z=>k_is);(case y=>k_is);(case a=>k_is);(case i=>k_is);(case l=>k_is);(case c=>k_is);(case k=>k_is);(case b=>(repeat refine L2.lenS λ_=>?_);exact L2.Zkt λ_ _ _ _ _ _=>rfl)))
local macro_rules| `(tactic|walk_at "na")=>`(tactic|((repeat refine L2.Zmb (by k_is) ?_);exact L2.Zm2))
local macro_rules| `(tactic|walk_at "ex")=>`(tactic|(refine' ⟨?g,mg_of (by assumption) (by assumption) ?m,?e⟩;(case g=>k_is);(case m=>k_is);(case e=>k_exc)))
local macro_rules| `(tactic|walk_at "xc")=>`(tactic|exact⟨L2.ZiB (show excIn _ _ [.type "ValueError",.type "Exception",.type "BaseException",.type "object"] "ValueError.__new__" =true by k_exc),by k_is,by k_is,by k_is,by k_is,by k_is,by k_is,by k_is⟩)
set_option maxRecDepth 100000 in
set_option maxHeartbeats 0 in
theorem PySem.Challenge.cw_ratehall_k25_groups_refused_holds : PySem.Challenge.rw_ratehall_k25_groups_refused.Holds := by
 w_on;o_law;k_head;(case hw=>w_witness2)
 k_fill
 refine Nm.walk (l:=PySem.Challenge.rw_ratehall_k25_groups_refused) rfl rfl rfl (λw h Y=>kIn_of Y) ?F
 case F=>
  intro w mg h e9 G
  refine' ⟨Nm.Tp.mk (mg_of e9 G ?Mu) ⟨?Mv,?Mw,?Mx,?Mz⟩ ?MA (mg_of e9 G ?MB) ⟨?MC,?MD,?ME,?MF⟩ ?MG (mg_of e9 G ?MH) ⟨?MI,?MJ,?MK,?ML⟩ ?MM ?MN ?MO ?MP ?MQ ?MR ?MS ?MT ?MU ?MV ?MW ⟨?MX,?MY,?MZ⟩ (L2.Zmm ?M0 ?M3 ?M4) (L2.Zm5 ?M5) ?M6 ?M7 (.cons ⟨_,rfl⟩ .nil) ?M8 ?M9 ?M_ ?M' ?Na ?Nb ?Nc ?Nd ?Nf ?Ng ?Nh ?Ni ?Nj ?Nk ?Nl ?Nn ?No ?Np ?Nq ?Nr ?Nt ?Nu ?Nv ?Nw ?Nx ?Ny ?Nz ?NA ?NB ?NC ?ND ?NE ?NF ?NG ?NH ?NI ?NJ ?NK ?NL ?NM ?NN ?NO ?NP ?NQ ?NR (mg_none_of e9 G ?NS) (mg_none_of e9 G ?NT) (mg_none_of e9 G ?NU) (mg_none_of e9 G ?NV) (mg_none_of e9 G ?NW) (mg_none_of e9 G ?NX) (mg_none_of e9 G ?NY) (mg_none_of e9 G ?NZ) (mg_none_of e9 G ?N0) (mg_none_of e9 G ?N1) (mg_none_of e9 G ?N2) (mg_none_of e9 G ?N3) (mg_none_of e9 G ?N4) (mg_none_of e9 G ?N5) (mg_none_of e9 G ?N6) (mg_none_of e9 G ?N7) ?N8 ?N9 ?N_ ?N' ?Oa ?Ob ?Oc ?Od ?Oe ?Of ?Og ?Oh ?Oi ?Oj ?Ol ?Om ?On ?Oo ?Op ?Oq ?Ot ?Ou ?Ov ?Ow ?Ox ?Oy ?Oz ?OA ?OB ?OC ?OD ?OE ?OF ?OG ?OH ?OI ?OJ ?OK ?OL ?OM ?ON ?OO ?OP ?OQ ?OR ?OS ?OT ?OU ?OV ?OW ?OX ?OY ?OZ ?O0 ?O1 ?O2 ?O3 ?O4 ?O5 ?O6 ?O7 ?O8 ?O9 ?O_ ?Pa ?Pb ?Pc ?Pd ?Pe ?Pf ?Pg ?Ph ?Pj ?Pk ?Pl ?Pm ?Pn ?Po ?Pp ?Pq ?Pr ?Ps ?Pu ?Pw ?Px ?Py ?Pz ?PB ?PD ?PF ?PH ?PJ ?PL ?PM ?PN ?PP ?PQ ?PR ?PU ?PV ?PX ?PY ?PZ ?P0 ?P1 ?P2 ?P4 ?P5 ?P6 ?P7 ?P8 ?P9 ?P_ ?P' ?Qa ?Qb ?Qc ?Qd ?Qe ?Qf ?Qg ?Qh ?Qi (mg_of e9 G ?Qj) (mg_of e9 G ?Qk) (mg_of e9 G ?Ql) (mg_of e9 G ?Qm) ?Qn,trivial⟩
  case Mu|Mv|Mw|Mx|Mz=>k_is
  case MA=>walk_at "na"
  case MB|MC|MD|ME|MF=>k_is
  case MG=>walk_at "na"
  case MH|MI|MJ|MK|ML=>k_is
  case MM=>walk_at "na"
  case MN|MO|MP=>walk_at "dn"
  case MQ=>walk_at "dm"
  case MR|MS|MT|MU=>walk_at "dn"
  case MV|MW=>walk_at "dm"
  case MX|MY|MZ|M0|M3|M4|M5=>k_is
  case M6=>exact λs us X aJ=>(match us,(show us.length=6 by simpa using aJ) with| [_,_,_,_,_,_],_=>binds_K X rfl (by k_is) rfl rfl rfl)
  case M7=>exact λs us X aJ=>(match us,(show us.length=5 by simpa using aJ) with| [_,_,_,_,_],_=>binds_K X rfl (by k_is) rfl rfl rfl)
  case M8=>walk_at "di"
  case M9|M_|M'|Na|Nb|Nc=>walk_at "dn"
  case Nd|Nf=>walk_at "dm"
  case Ng|Nh|Ni=>walk_at "dn"
  case Nj|Nk|Nl|Nn=>walk_at "dm"
  case No=>walk_at "dn"
  case Np=>walk_at "dm"
  case Nq|Nr=>walk_at "dn"
  case Nt=>walk_at "di"
  case Nu|Nv|Nw|Nx|Ny|Nz|NA|NB|NC|ND|NE|NF|NG|NH|NI|NJ|NK|NL=>walk_at "dn"
  case NM=>walk_at "di"
  case NN=>walk_at "dn"
  case NO=>walk_at "dm"
  case NP|NQ|NR=>walk_at "dn"
  case NS|NT|NU|NV|NW|NX|NY|NZ|N0|N1|N2|N3|N4|N5|N6|N7=>k_is
  case N8|N9|N_|N'|Oa|Ob|Oc|Od|Oe|Of|Og|Oh=>walk_at "ex"
  case Oi|Oj|Ol|Om|On|Oo|Op|Oq|Ot|Ou|Ov|Ow=>kts_exm
  case Ox|Oy|Oz|OA|OB|OC|OD|OE|OF=>walk_at "xc"
  case OG|OH|OI|OJ|OK|OL|OM|ON|OO|OP|OQ|OR|OS|OT|OU|OV|OW|OX|OY|OZ|O0|O1|O2|O3|O4|O5|O6|O7|O8|O9|O_|Pa|Pb|Pc|Pd|Pe|Pf|Pg|Ph|Pj|Pk|Pl|Pm|Pn|Po|Pp|Pq|Pr|Ps|Pu|Pw|Px|Py|Pz|PB|PD|PF|PH|PJ|PL|PM|PN|PP|PQ|PR|PU|PV|PX|PY|PZ|P0|P1|P2|P4|P5|P6|P7|P8|P9|P_|P'|Qa|Qb|Qc|Qd|Qe|Qf|Qg|Qh|Qi=>kit_is
  case Qj|Qk|Ql|Qm=>k_is
  case Qn=>exact λs v=> .of_eq rfl
#print axioms PySem.Challenge.cw_ratehall_k25_groups_refused_holds
