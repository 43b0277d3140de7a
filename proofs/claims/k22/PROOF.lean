import PyProof.Rows.All
import Wide.All
import OpenK.AllK
import Wide.FinOn
import Lean
import PyProof.EqAt
import PyProof.EqKinds
import PyProof.TupleCall
import PyProof.FactsAll.set
import PySem.Challenge.RW_ratehall_k22_joined_hall
set_option maxHeartbeats 4000000
set_option compiler.extract_closed false
set_option bootstrap.genMatcherCode false
local macro_rules| `(tactic|omega)=>`(tactic|with_reducible first|exact qaS _|lia|fail)
set_option Elab.async false
set_option linter.all false
set_option maxRecDepth 100000
open PySem.W (instObj methodObj hideAll hideAll_get of_hideAll lookIn plainGet hasDictIn findIn handedIn plainGet_of isFn plainOver takerIn Looks makesIn typeIn emptyDict keepIn methodCall_KW mroIn kitOne kia_one kitx_list kitx_dict callWith_K callWith_K0 cellsFrom_some fnOf codeIn nsIn excIn mg_of kdl_call kIn_of mg_none_of binds_K)
abbrev GE:=@List.length_map
abbrev GM:=@List.getElem_mem
abbrev GT:=@List.getElem?_eq_getElem
abbrev FM:=@List.getElem?_eq_some_iff
abbrev qaa:=@Nat.le_refl
abbrev qab:=@Int.toNat_natCast
abbrev qac:=@List.mem_singleton
abbrev qad:=@List.take_succ_eq_append_getElem
abbrev qae:=@List.mem_cons
abbrev qaf:=@List.size_toArray
abbrev qag:=@Nat.lt_of_lt_of_le
abbrev qah:=@PySem.F.plainAttrs_list
abbrev qai:=@Bool.false_ne_true
abbrev qaj:=@List.getElem?_map
abbrev qak:=@Nat.ne_of_lt
abbrev qal:=@Nat.le_trans
abbrev qam:=@List.mem_map
abbrev qan:=@Option.some.inj
abbrev qao:=@List.getElem_of_mem
abbrev qap:=@PySem.boot_len
abbrev qaq:=@List.mem_cons_of_mem
abbrev qar:=@List.mem_of_getElem?
abbrev qas:=@PySem.F.slot_list_append
abbrev qat:=@PySem.F.type_list_append
abbrev qau:=@Nat.zero_le
abbrev qav:=@List.mem_append_right
abbrev qaw:=@List.mem_range
abbrev qax:=@List.take_length
abbrev qay:=@List.ext_getElem
abbrev qaz:=@Int.toNat_of_nonneg
abbrev qaA:=@List.filter_eq_self
abbrev qaB:=@PySem.F.excBase_ValueError
abbrev qaC:=@List.mem_filter
abbrev qaD:=@PyProof.Rows.callWith_type1
abbrev qaE:=@Nat.pow_le_pow_right
abbrev qaF:=@Nat.mul_left_comm
abbrev qaG:=@List.not_mem_nil
abbrev qaH:=@List.mem_append
abbrev qaI:=@Nat.mul_assoc
abbrev qaJ:=@PyProof.Rows.boot_isinstance
abbrev qaK:=@List.length_filter_le
abbrev qaL:=@Nat.lt_of_le_of_lt
abbrev qaM:=@PyProof.Rows.boot_list
abbrev qaN:=@List.nodup_iff_pairwise_ne
abbrev qaO:=@List.length_take
abbrev qaP:=@Int.eq_ofNat_of_zero_le
abbrev qaQ:=@Array.getElem?_eq_getElem
abbrev qaR:=@Bool.and_eq_true
abbrev qaS:=@Int.natCast_nonneg
abbrev qaT:=@List.length_append
abbrev qaU:=@List.getElem?_eq_none
abbrev qaV:=@Array.length_toList
abbrev qaW:=@List.map_append
abbrev qaX:=@List.getElem?_append_right
abbrev qaY:=@PySem.F.slot_list_index
abbrev qaZ:=@PySem.F.type_list_index
abbrev qa0:=@Nat.gcd_dvd_right
abbrev qa1:=@List.getElem?_append_left
abbrev qa2:=@Nat.le_of_lt
abbrev qa3:=@List.map_map
abbrev qa4:=@Nat.div_le_self
abbrev qa5:=@List.lookup_cons
abbrev qa6:=@List.all_eq_true
abbrev qa7:=@Array.getElem?_toList
abbrev qa8:=@Int.zero_add
abbrev qa9:=@Nat.eq_zero_or_pos
abbrev qba:=@List.getD_eq_getElem?_getD
abbrev qbb:=@List.getElem?_of_mem
abbrev qbc:=@Int.emod_lt_of_pos
abbrev qbd:=@Int.emod_nonneg
abbrev qbe:=@Nat.mul_comm
abbrev qbf:=@List.getElem_map
abbrev qbg:=@List.pairwise_iff_getElem
abbrev qbh:=@Nat.lt_succ_of_lt
abbrev qbi:=@List.length_replicate
abbrev qbj:=@Nat.le_of_ble_eq_true
abbrev qbk:=@Nat.lt_irrefl
abbrev qbl:=@PySem.F.slot_dict_values
abbrev qbm:=@Nat.lt_succ_iff_lt_or_eq
abbrev qbn:=@Nat.not_lt_zero
abbrev qbo:=@List.mem_cons_self
abbrev qbp:=@PySem.F.plainAttrs_dict
abbrev qbq:=@List.mem_iff_getElem
abbrev qbr:=@Nat.gcd_dvd_left
abbrev qbs:=@List.take_of_length_le
abbrev qbt:=@List.length_range
abbrev qbu:=@Nat.eq_of_mul_eq_mul_left
abbrev qbv:=@PyProof.Rows.callWith_builtin1
abbrev qbw:=@Nat.le_of_dvd
abbrev qbx:=@List.mem_append_left
abbrev qby:=@Int.mul_le_mul_of_nonneg_left
abbrev qbz:=@List.nodup_append
abbrev qbA:=@Nat.gcd_pos_of_pos_left
abbrev qbB:=@Bool.eq_iff_iff
abbrev qbC:=@List.find?_cons
abbrev qbD:=@PySem.mem_of_lookup
abbrev qbE:=@Nat.lt_succ_self
abbrev qbF:=@Nat.div_mul_cancel
abbrev qbG:=@List.range_succ
abbrev qbH:=@Ne.symm
abbrev qbI:=@List.getElem?_set_ne
abbrev qbJ:=@Nat.ne_of_gt
abbrev qbK:=@List.map_set
abbrev qbL:=@Nat.dvd_trans
abbrev qbM:=@PyProof.Rows.slot_tuple_getitem
abbrev qbN:=@List.replicate_succ
abbrev qbO:=@List.getElem_inj
abbrev qbP:=@List.getElem?_set_self
abbrev qbQ:=@List.filter_append
abbrev qbR:=@Nat.lt_or_ge
abbrev qbS:=@List.pairwise_map
abbrev qbT:=@List.foldl_append
abbrev qbU:=@Sum.inl.inj
abbrev qbV:=@Int.fmod_eq_emod_of_nonneg
abbrev qbW:=@PySem.F.args_dict_values_1
abbrev qbX:=@List.any_eq_true
abbrev qbY:=@List.getElem_set
abbrev qbZ:=@PySem.F.entry_dict_values
abbrev qb0:=@PySem.F.plain_extend_loop
abbrev qb1:=@PySem.evalArgs_none
abbrev qb2:=@Nat.mul_le_mul_left
abbrev qb3:=@PySem.F.type_dict_values
abbrev qb4:=@PyProof.Rows.boot_sorted
abbrev qb5:=@Nat.gcd_pos_of_pos_right
abbrev qb6:=@Bool.not_true
abbrev qb7:=@List.append_nil
abbrev qb8:=@List.nodup_cons
abbrev qb9:=@List.length_set
abbrev qca:=@Option.map_some
abbrev qcb:=@Int.natCast_mul
abbrev qcc:=@Int.natAbs_natCast
abbrev qcd:=@Nat.mul_right_comm
abbrev qce:=@Nat.le_succ
abbrev qcf:=@Nat.log2_lt
abbrev qcg:=@List.flatten_cons
abbrev qch:=@List.getElem_take
abbrev qci:=@List.length_drop
abbrev qcj:=@List.all_cons
abbrev qck:=@List.any_cons
abbrev qcl:=@List.sum_cons
abbrev qcm:=@Nat.mul_pos
abbrev qcn:=@Nat.div_pos
open PySem.W (Frag)
namespace L2
open PySem PySem.Spec PyProof.Rows
noncomputable abbrev Key:=Sum Int Str
noncomputable def nw:Key→Value→Bool
 | .inl k,v=>Value.isInt k v
 | .inr x,v=>Value.isStrOf x v
noncomputable def Zot (w:World):Key→Int
 | .inl k=>hashInt k
 | .inr x=>hashStr w x
theorem kk:∀{k:Key}{v:Value},nw k v=true→(∃i t,k=Sum.inl i∧v=Value.int i t)∨(∃x t,k=Sum.inr x∧v=Value.str x t)
 | .inl i,v,h=>by
  obtain⟨t,e⟩:=Value.isInt_shape (k:=i) (v:=v) h;exact .inl ⟨i,t,rfl,e⟩
 | .inr x,v,h=>by
  obtain⟨t,e⟩:=Value.isStrOf_shape (x:=x) (v:=v) h;exact .inr ⟨x,t,rfl,e⟩
theorem Zjq(i:Int)(t:Tok):nw (.inl i) (.int i t)=true:=by simp[nw,Value.isInt]
theorem ZjI(x:Str)(t:Tok):nw (.inr x) (.str x t)=true:=by simp[nw,Value.isStrOf]
theorem ZnT(a b:Int):decide ((Sum.inl a:Key)=Sum.inl b)=(a==b):=by
 by_cases e:a=b
 ·subst e;simp
 ·have h:¬(Sum.inl a:Key)=Sum.inl b:=λq=>e (qbU q);rw[decide_eq_false h];exact(beq_eq_false_iff_ne.mpr e).symm
theorem ZnD(a b:Str):decide ((Sum.inr a:Key)=Sum.inr b)=decide (a=b):=by
 by_cases e:a=b
 ·subst e;simp
 ·have h:¬(Sum.inr a:Key)=Sum.inr b:=λq=>e (Sum.inr.inj q);rw[decide_eq_false h,decide_eq_false e]
theorem Zm3(a:Int)(b:Str):decide ((Sum.inl a:Key)=Sum.inr b)=false:=decide_eq_false (λq=>nomatch q)
theorem ZmN(a:Str)(b:Int):decide ((Sum.inr a:Key)=Sum.inl b)=false:=decide_eq_false (λq=>nomatch q)
noncomputable def ec (prog:Program) (w:World):PySem.KeyKind prog w Key where
 is:=nw
 hash:=Zot w
 inj:=λv a b bF a_=>by
  rcases kk bF with⟨i,t,rfl,rfl⟩|⟨x,t,rfl,rfl⟩
  ·rcases kk a_ with⟨j,u,rfl,e⟩|⟨y,u,rfl,e⟩
   ·injection e with bG _;rw[bG]
   ·exact nomatch e
  ·rcases kk a_ with⟨j,u,rfl,e⟩|⟨y,u,rfl,e⟩
   ·exact nomatch e
   ·injection e with bG _;rw[bG]
 byValue:=λk v h=>by
  rcases kk h with⟨i,t,rfl,rfl⟩|⟨x,t,rfl,rfl⟩<;>rfl
 pyHash:=λb_ h=>by
  rcases kk b_ with⟨i,t,rfl,rfl⟩|⟨x,t,rfl,rfl⟩
  ·exact wpAny_pyHash_int h
  ·exact wpAny_pyHash_str h
 eqBool:=λhu b_ h=>by
  rcases kk hu with⟨i,t,rfl,rfl⟩|⟨x,t,rfl,rfl⟩
  ·rcases kk b_ with⟨j,u,rfl,rfl⟩|⟨y,u,rfl,rfl⟩
   ·rw[ZnT] at h;exact wpAny_eqBool_int h
   ·rw[Zm3] at h;exact SeqAt.EqAt.int_str i t y u _ _ _ _ h
  ·rcases kk b_ with⟨j,u,rfl,rfl⟩|⟨y,u,rfl,rfl⟩
   ·rw[ZmN] at h;exact SeqAt.EqAt.str_int x t j u _ _ _ _ h
   ·rw[ZnD] at h;exact wpAny_eqBool_str h
 «strs»:=λk x t v h=>by
  rcases kk h with⟨i,u,rfl,e⟩|⟨y,u,rfl,e⟩
  ·exact nomatch e
  ·injection e with bG _
   subst bG;cases v<;>rfl
theorem Zg2(prog:Program)(w:World)(i:Int)(t:Tok):(ec prog w).is (.inl i) (.int i t)=true:=Zjq i t
theorem Zhu(prog:Program)(w:World)(x:Str)(t:Tok):(ec prog w).is (.inr x) (.str x t)=true:=ZjI x t
inductive V where
 |non|bl (b:Bool)|int (i:Int)|str (x:Str)|byt (b:Array UInt8)|flt (b:UInt64)|ref (a:Addr)|ty (n:String)
 deriving DecidableEq
noncomputable def cE:V→Value→Prop
 | .non,u=>u=Value.none
 | .bl b,u=>u=Value.bool b
 | .int i,u=>∃t,u=Value.int i t
 | .str x,u=>∃t,u=Value.str x t
 | .byt b,u=>∃t,u=Value.bytes b t
 | .flt b,u=>∃t,u=Value.float b t
 | .ref a,u=>u=Value.ref a
 | .ty n,u=>u=Value.type n
noncomputable abbrev cL:List V→List Value→Prop:=Paired cE
theorem cL.length{xs:List V}{us:List Value}(r:cL xs us):xs.length=us.length:=Paired.length r
theorem cL.get:∀{xs:List V}{us:List Value}{i:Nat}{x:V},cL xs us→xs[i]? =some x→∃u,us[i]? =some u∧cE x u
 |_,_,_,_,.nil,e=>by simp at e
 |_,_,0,_,.cons r _,e=>by simp at e;subst e;exact⟨_,rfl,r⟩
 |_,_,i+1,x,.cons _ t,e=>by
  obtain⟨u,bj,bp⟩:=cL.get (i:=i) (x:=x) t (by simpa using e);exact⟨u,by simpa using bj,bp⟩
theorem cL.set{x:V}{u:Value}(r:cE x u):∀{xs:List V}{us:List Value}(i:Nat),cL xs us→cL (xs.set i x) (us.set i u)
 |_,_,_,.nil=> .nil
 |_,_,0,.cons _ t=> .cons r t
 |_,_,i+1,.cons q t=> .cons q (cL.set r i t)
theorem cL.append:∀{xs ys:List V}{us ce:List Value},cL xs us→cL ys ce→cL (xs++ys) (us++ce)
 |_,_,_,_,.nil,s=>s
 |_,_,_,_,.cons r t,s=> .cons r (cL.append t s)
theorem cL.take:∀{xs:List V}{us:List Value}(n:Nat),cL xs us→cL (xs.take n) (us.take n)
 |_,_,0,_=> .nil
 |_,_,_+1,.nil=> .nil
 |_,_,n+1,.cons r t=> .cons r (cL.take n t)
theorem cL.drop:∀{xs:List V}{us:List Value}(n:Nat),cL xs us→cL (xs.drop n) (us.drop n)
 |_,_,0,r=>r
 |_,_,_+1,.nil=> .nil
 |_,_,n+1,.cons _ t=>cL.drop n t
noncomputable def gU:Option V→Option Value→Prop
 |some v,some u=>cE v u
 |none,none=>True
 |_,_=>False
noncomputable def KV {dD:Type}:List (dD×V)→List (dD×Value)→Prop:=Paired λ(p:dD×V) (q:dD×Value)=>p.1=q.1∧cE p.2 q.2
noncomputable def kV:Key→V
 | .inl i=> .int i
 | .inr x=> .str x
inductive HO where
 |lst (xs:List V)
 |tup (xs:List V)
 |dK (kvs:List (Key×V))|dT (kvs:List (List Key×V))
 |set (S:Int→Bool) (n:Nat)
 |ins (C bx:Addr) (fs:List (Str×V))
 |own (x:Addr)
 |xd (fs:List (Str×V))
 |met (f x:Addr)
 |rng (lo hi:Int)
 |frz (o:Obj) (u:HO)
 |tbl (b':Array Value)
 |ext (mf:Heap→Prop)
noncomputable abbrev Hp:=Addr→Option HO
noncomputable def upd (H:Hp) (a:Addr) (o:HO):Hp:=λb=>if b=a then some o else H b
theorem Zd{H:Hp}{a:Addr}{o:HO}:upd H a o a=some o:=by unfold upd;rw[if_pos rfl]
theorem b5{H:Hp}{a b:Addr}{o:HO}(h:b≠a):upd H a o b=H b:=by unfold upd;rw[if_neg h]
theorem fj{H:Hp}{a b:Addr}{o u:HO}(h:H a=some o)(h':H b=some u)(d:o≠u):a≠b:=by
 intro e;subst e;rw[h] at h';exact d (qan h')
theorem dw{H:Hp}{a b:Addr}{o:HO}(h:H a=some o)(h':H b=none):a≠b:=by
 intro e;subst e;rw[h] at h';cases h'
section
variable (P:Program)(w:World)
noncomputable def Z0 (H:Hp) (h:Heap) (a:Addr):HO→Prop
 | .lst xs=>xs.length≤sizeLine∧∃(its:List Value)(n:Nat),cL xs its∧h.get? a=some {cls:= .type "list",data:= .seq its.toArray n}
 | .tup xs=>xs.length≤sizeLine∧∃its:List Value,cL xs its∧IsTup h a its.toArray
 | .dK kvs=>kvs.length≤sizeLine∧(a==sysModules)=false∧∃vs,KV kvs vs∧h.DictOf (ec P w) a vs
 | .dT kvs=>kvs.length≤sizeLine∧(a==sysModules)=false∧∃xs:List (List Key×Addr×Value),
   Paired (λ(p:List Key×V) (q:List Key×Addr×Value)=>p.1=q.1∧H q.2.1=some (.tup (p.1.map kV))∧cE p.2 q.2.2) kvs xs∧
   ∃o bE ep,h.get? a=some o∧o.ExactDict∧o.data= .dict bE ep∧bE.toList=xs.map (entryOfKey (tupleKind (ec P w)))∧(xs.map (·.1)).Nodup
 | .set S n=>h.SetOf (intKind P w) a S n
 | .ins C bx fs=>H bx=some (.own a)∧fs.length≤1000∧bx≠a∧h.get? a=some (instObj C bx)∧
   ∃d1,h.Ns1 bx d1∧(∀f,gU (fs.lookup f) (d1 f))∧PySem.Within d1 (fs.map (·.1))
 | .own _=>∃o,h.get? a=some o
 | .xd fs=>∃d1,h.Ns1 a d1∧∀f,gU (fs.lookup f) (d1 f)
 | .rng lo hi=>∃t u v,h.get? a=some {cls:= .type "range",data:= .fields #[.int lo t,.int hi u,.int 1 v]}
 | .frz o u=>h.get? a=some o∧Z0 H h a u
 | .tbl b'=>h.get? a=some {cls:= .none,data:= .fields b'}
 | .met f x=>h.get? a=some (methodObj (.ref f) (.ref x))
 | .ext mf=>mf h∧(∃o,h.get? a=some o)∧∀bj bp:Heap,mf bj→(∀o,bj.get? a=some o→bp.get? a=some o)→mf bp
def HOk(H:Hp)(h:Heap):Prop:=∀a o,H a=some o→Z0 P w H h a o
end
section
variable {P:Program}{w:World}{H ae:Hp}{h h':Heap}{a:Addr}{o:HO}
theorem Z0.lt(x:Z0 P w H h a o):a<h.objs.size:=by
 cases o with
 |lst xs=>obtain⟨_,_,_,_,e⟩:=x;exact Heap.lt_size e
 |tup xs=>obtain⟨_,_,_,p⟩:=x;exact p.lt
 |dK kvs=>obtain⟨_,_,_,_,o,_,_,e,_⟩:=x;exact Heap.lt_size e
 |dT kvs=>obtain⟨_,_,_,_,o,_,_,e,_⟩:=x;exact Heap.lt_size e
 |set S n=>obtain⟨o,_,_,_,e,_⟩:=x;exact Heap.lt_size e
 |ins C bx fs=>obtain⟨_,_,_,e,_⟩:=x;exact Heap.lt_size e
 |own y=>obtain⟨_,e⟩:=x;exact Heap.lt_size e
 |xd fs=>obtain⟨_,⟨_,_,_,e,_⟩,_⟩:=x;exact Heap.lt_size e
 |rng lo hi=>obtain⟨_,_,_,e⟩:=x;exact Heap.lt_size e
 |frz cT u=>obtain⟨e,_⟩:=x;exact Heap.lt_size e
 |tbl b'=>exact Heap.lt_size (show h.get? a=some _ from x)
 |met f y=>exact Heap.lt_size (show h.get? a=some _ from x)
 |ext mf=>obtain⟨_,⟨_,e⟩,_⟩:=x;exact Heap.lt_size e
theorem Paired.mapP{cM gj:Type}{F G:cM→gj→Prop}:∀{xK:List cM}{l₂:List gj},Paired F xK l₂→(∀a b,F a b→G a b)→Paired G xK l₂
 |_,_,.nil,_=> .nil
 |_,_,.cons r t,f=> .cons (f _ _ r) (Paired.mapP t f)
theorem Z0.stay(x:Z0 P w H h a o)(k:∀b u,(b=a∨H b=some (.own a))→h.get? b=some u→h'.get? b=some u)
  (bI:∀b,H b=some (.own a)→ae b=some (.own a)) (b3:∀b xs,H b=some (.tup xs)→ae b=some (.tup xs)):Z0 P w ae h' a o:=by
 induction o with
 |lst xs=>obtain⟨z,its,n,r,e⟩:=x;exact⟨z,its,n,r,k _ _ (.inl rfl) e⟩
 |tup xs=>obtain⟨z,its,r,cT,e,c⟩:=x;exact⟨z,its,r,cT,k _ _ (.inl rfl) e,c⟩
 |dK kvs=>obtain⟨z,y,vs,r,cT,bE,ep,e,c⟩:=x;exact⟨z,y,vs,r,cT,bE,ep,k _ _ (.inl rfl) e,c⟩
 |dT kvs=>
  obtain⟨z,y,xs,r,cT,bE,ep,e,c⟩:=x;exact⟨z,y,xs,Paired.mapP r λp q z=>⟨z.1,b3 _ _ z.2.1,z.2.2⟩,cT,bE,ep,k _ _ (.inl rfl) e,c⟩
 |set S n=>obtain⟨cT,bE,ep,t,e,c⟩:=x;exact⟨cT,bE,ep,t,k _ _ (.inl rfl) e,c⟩
 |ins C bx fs=>
  obtain⟨d,z,ne,e,d1,⟨d2,bE,ep,bK,c⟩,r⟩:=x;exact⟨bI _ d,z,ne,k _ _ (.inl rfl) e,d1,⟨d2,bE,ep,k _ _ (.inr d) bK,c⟩,r⟩
 |own y=>obtain⟨cT,e⟩:=x;exact⟨cT,k _ _ (.inl rfl) e⟩
 |xd fs=>obtain⟨d1,⟨d2,bE,ep,e,c⟩,r⟩:=x;exact⟨d1,⟨d2,bE,ep,k _ _ (.inl rfl) e,c⟩,r⟩
 |rng lo hi=>obtain⟨t,u,v,e⟩:=x;exact⟨t,u,v,k _ _ (.inl rfl) e⟩
 |frz cT u bQ=>obtain⟨e,q⟩:=x;exact⟨k _ _ (.inl rfl) e,bQ q⟩
 |tbl b'=>
  have e:h.get? a=some {cls:= .none,data:= .fields b'}:=x;show h'.get? a=some {cls:= .none,data:= .fields b'};exact k a _ (.inl rfl) e
 |met f y=>
  have e:h.get? a=some (methodObj (.ref f) (.ref y)):=x;show h'.get? a=some (methodObj (.ref f) (.ref y));exact k a _ (.inl rfl) e
 |ext mf=>obtain⟨p,⟨o,e⟩,st⟩:=x;exact⟨st _ _ p λo q=>k _ _ (.inl rfl) q,⟨o,k _ _ (.inl rfl) e⟩,st⟩
theorem HOk.lt(x:HOk P w H h)(e:H a=some o):a<h.objs.size:=(x a o e).lt
theorem HOk.fresh(x:HOk P w H h)(e:h.objs.size≤a):H a=none:=by
 cases q:H a with
 |none=>rfl
 |some u=>exact absurd (qag (x.lt q) e) (qbk _)
theorem HOk.kept(x:HOk P w H h)(k:∀b u,h.get? b=some u→h'.get? b=some u):HOk P w H h':=λa o e=>
 (x a o e).stay (λb u _ q=>k b u q) (λ_ q=>q) λ_ _ q=>q
theorem HOk.laid(x:HOk P w H h)(k:∀b u,h.get? b=some u→h'.get? b=some u)(bD:h.objs.size≤a)(new:Z0 P w (upd H a o) h' a o):HOk P w (upd H a o) h':=λb u e=>by
 have bO:=x.fresh bD
 by_cases a_:b=a
 ·subst a_;rw[Zd] at e;cases e;exact new
 ·rw[b5 a_] at e;exact(x b u e).stay (λc v _ q=>k c v q) (λc q=>by rw[b5 (dw q bO)];exact q) λc xs q=>by rw[b5 (dw q bO)];exact q
end
def Rd(H:Hp)(a:Addr)(u:HO):Prop:=H a=some u∨∃o,H a=some (.frz o u)
theorem Rd.ok{P:Program}{w:World}{H:Hp}{h:Heap}{a:Addr}{u:HO}(r:Rd H a u)(x:HOk P w H h):Z0 P w H h a u:=by
 rcases r with r|⟨o,r⟩
 ·exact x a u r
 ·obtain⟨_,q⟩:=x a _ r;exact q
noncomputable def Mut:Option HO→Prop
 |some (.lst _)=>True
 |some (.dK _)=>True
 |some (.dT _)=>True
 |some (.set _ _)=>True
 |some (.ins _ _ _)=>True
 |some (.ext _)=>True
 |_=>False
section
variable {P:Program}{w:World}{H:Hp}{h h':Heap}{x e:Addr}{cq:HO}
theorem HOk.write(ok:HOk P w H h)(h6:Mut (H x))(bL:e=x∨H e=some (.own x))(k:∀b u,b≠e→h.get? b=some u→h'.get? b=some u)(ny:∃u,h'.get? e=some u)
  (new:Z0 P w (upd H x cq) h' x cq):HOk P w (upd H x cq) h':=λb u q=>by
 have xL:∀c y,H c=some (.own y)→c≠x:=λc y r z=>by subst z;rw[r] at h6;exact h6
 have Fv:∀c xs,H c=some (.tup xs)→c≠x:=λc xs r z=>by subst z;rw[r] at h6;exact h6
 by_cases a_:b=x
 ·subst a_;rw[Zd] at q;cases q;exact new
 ·rw[b5 a_] at q
  by_cases kl:b=e
  ·have i1:H b=some (.own x):=by
    rcases bL with z|z
    ·exact absurd (kl.trans z) a_
    ·rw[kl];exact z
   rw[q] at i1;cases i1;obtain⟨v,b_⟩:=ny;exact⟨v,by rw[kl];exact b_⟩
  ·refine(ok b u q).stay (λc v bu r=>k c v ?_ r) (λc r=>by rw[b5 (xL c b r)];exact r) λc xs r=>by rw[b5 (Fv c xs r)];exact r
   rcases bu with rfl|bu
   ·exact kl
   ·rintro rfl;rcases bL with z|z
    ·exact xL c b bu z
    ·rw[bu] at z;cases z;exact a_ rfl
end
structure Un(fs ex:List Addr)(H ae:Hp)(h h':Heap):Prop where
 keep:∀b o,h.get? b=some o→H b=none→b∉fs→b∉ex→h'.get? b=some o
 slot:∀b o,h.get? b=some o→H b=none→b∈fs→b∉ex→∃sl,h'.get? b=some {o with slots:=sl}
 free:∀b o,h.get? b=some o→H b=none→b∉ex→ae b=none
 there:∀b o,h.get? b=some o→b∉ex→∃cq,h'.get? b=some cq
 tups:∀b xs,H b=some (.tup xs)→ae b=some (.tup xs)
 frzs:∀b o u,H b=some (.frz o u)→ae b=some (.frz o u)
 tbls:∀b b',H b=some (.tbl b')→∃more,ae b=some (.tbl (b'++more))
section
variable {fs qR ex Qk:List Addr}{H bn bv:Hp}{h bj bp h':Heap}{a x e:Addr}{o:HO}
theorem Un.any(u:Un fs ex H bn h bj){b:Addr}{cT:Obj}(q:h.get? b=some cT)(n:H b=none)(bo:b∉ex):∃sl,bj.get? b=some {cT with slots:=sl}:=by
 by_cases a_:b∈fs
 ·exact u.slot b cT q n a_ bo
 ·exact⟨cT.slots,u.keep b cT q n a_ bo⟩
theorem Un.kept(k:∀b u,h.get? b=some u→h'.get? b=some u):Un fs ex H H h h':=
 ⟨λb cT q _ _ _=>k b cT q,λb cT q _ _ _=>⟨cT.slots,k b cT q⟩,λ_ _ _ n _=>n,λb cT q _=>⟨cT,k b cT q⟩,λ_ _ q=>q,λ_ _ _ q=>q,λ_ b' q=>⟨#[],by rw[q];simp⟩⟩
theorem Un.refl:Un fs ex H H h h:=Un.kept λ_ _ q=>q
theorem Un.laid(k:∀b u,h.get? b=some u→h'.get? b=some u)(bD:h.objs.size≤a)(bO:H a=none):Un fs ex H (upd H a o) h h' where
 keep:=λb u q _ _ _=>k b u q
 slot:=λb u q _ _ _=>⟨u.slots,k b u q⟩
 free:=λb u q n _=>by rw[b5 (qak (qag (Heap.lt_size q) bD))];exact n
 there:=λb u q _=>⟨u,k b u q⟩
 tups:=λb xs q=>by rw[b5 (dw q bO)];exact q
 frzs:=λb u xs q=>by rw[b5 (dw q bO)];exact q
 tbls:=λb b' q=>⟨#[],by rw[b5 (dw q bO),q];simp⟩
theorem Un.write(h6:Mut (H x))(bL:e=x∨H e=some (.own x))(k:∀b u,b≠e→h.get? b=some u→h'.get? b=some u)(ny:∃u,h'.get? e=some u):Un fs ex H (upd H x o) h h':=by
 have bo:∀b,H b=none→b≠x:=λb n z=>by subst z;rw[n] at h6;exact h6
 have a_:∀b,H b=none→b≠e:=λb n z=>by
  subst z;rcases bL with r|r
  ·exact bo b n r
  ·rw[n] at r;cases r
 have bA:∀b u,H b=some u→¬Mut (some u)→b≠x:=λb u q nm z=>by subst z;rw[q] at h6;exact nm h6
 refine⟨λb u q n _ _=>k b u (a_ b n) q,λb u q n _ _=>⟨u.slots,k b u (a_ b n) q⟩,λb u q n _=>by rw[b5 (bo b n)];exact n,λb u q _=>?_,
  λb xs q=>by rw[b5 (bA b _ q λz=>z)];exact q,λb u xs q=>by rw[b5 (bA b _ q λz=>z)];exact q,λb b' q=>⟨#[],by rw[b5 (bA b _ q λz=>z),q];simp⟩⟩
 by_cases kl:b=e
 ·subst kl;exact ny
 ·exact⟨u,k b u kl q⟩
end
noncomputable def trk (h:Heap) (H:Hp):List Addr:=(List.range h.objs.size).filter λa=>(H a).isSome
noncomputable def km (h:Heap) (H:Hp):Heap:=hideAll h (trk h H)
theorem Fw(h:Heap)(H:Hp):(km h H).objs.size=h.objs.size:=PySem.W.hideAll_size _ _
theorem ZkL{h:Heap}{H:Hp}{b:Addr}{o:Obj}(e:h.get? b=some o)(n:H b=none):(km h H).get? b=some o:=
 hideAll_get _ e λbA=>by
  have q:(H b).isSome=true:=(qaC.mp bA).2;rw[n] at q;simp at q
theorem Zl9{h:Heap}{H:Hp}{b:Addr}{o:Obj}(e:(km h H).get? b=some o):h.get? b=some o∧H b=none:=by
 have cf:h.get? b=some o:=of_hideAll (trk h H) e;refine⟨cf,?_⟩;cases q:H b with
 |none=>rfl
 |some x=>
  have bA:b∈trk h H:=qaC.mpr ⟨qaw.mpr (Heap.lt_size cf),by simp[q]⟩;have z:(km h H).get? b=none:=PySem.W.hideAll_none (trk h H) bA;rw[z] at e;cases e
structure Mod(K:Frag)(mg:Str→Option Value)(base:Heap):Prop where
 kin:K.In base
 glob:base.Ns mainGlobals mg
 blt:∃i2,base.Ns builtinsNs i2∧∀x:Str,x≠"__name__" →i2 x=bootBuiltins x
 nolimit:base.NoLimit
structure Cx where
 prog:Program
 w:World
 K:Frag
 mg:Str→Option Value
 base:Heap
 A:Around
 N:List Str
 s₀:Shared
 H₀:Hp
 env:Env
 outer:List Env
 stack:List Env
 ex:List Addr
 fn:Str→Bool
 calm:Bool
 pn:List (Addr×Obj)
 xe:Value→Shared→Prop
noncomputable def frs (l:List Env):List Addr:=l.filterMap (·.frame)
noncomputable abbrev Cx.fs (X:Cx):List Addr:=frs X.outer
def Vis(b8:Scope)(x:Str):Prop:=b8.names.lookup x=some .local∨b8.names.lookup x=some .cell∨b8.names.lookup x=some .free
def Loc(b8:Scope)(x:Str):Prop:=b8.names.lookup x=some .local∨b8.names.lookup x=some .cell
def ZoC(env:Env)(h:Heap)(m:Str→Option Value)(x:Str)(u:Value):Prop:=
 (env.kindOf x=some .local∧m x=some u)∨((env.kindOf x=some .cell∨env.kindOf x=some .free)∧∃c,env.cells.lookup x=some c∧h.IsCell c (some u))
structure Cx.Ok(X:Cx):Prop where
 mod:Mod X.K X.mg X.base
 kind:X.env.scope.kind= .function
 glob:X.env.globals=mainGlobals
 blt:X.env.builtins=builtinsNs
 above:X.s₀.heap.objs.size≤X.env.locals
 inj:∀x y c,X.env.cells.lookup x=some c→X.env.cells.lookup y=some c→x=y
 has:∀x,(X.env.kindOf x=some .cell∨X.env.kindOf x=some .free)→∃c,X.env.cells.lookup x=some c
 cab:∀x c,X.fn x=true→X.env.cells.lookup x=some c→X.s₀.heap.objs.size≤c
 hd:X.calm=true→X.A.handled=none
 frames:X.A.frames=some X.stack
 stk:X.stack=X.outer∨(X.stack=X.env::X.outer∧X.env.frame=some X.env.locals)
 exf:∀b∈X.ex,b≠X.env.locals∧∀x c,X.env.cells.lookup x=some c→c≠b
 bs:∀b o,X.base.get? b=some o→X.s₀.heap.get? b=some o∧X.H₀ b=none
 bsz:X.base.objs.size≤X.s₀.heap.objs.size
 noex:∀b o,X.base.get? b=some o→b∉X.ex
 exfs:∀b∈X.ex,b∉X.fs
 funs:X.s₀.heap.FunFrames X.base X.outer
 frf:∀b∈X.fs,X.H₀ b=none
structure Inv(X:Cx)(a':List (Addr×Obj))(af:List (Option V))(H:Hp)(s:Shared):Prop where
 ok:X.Ok
 os:s.os=X.s₀.os
 bare:AllBare s.gens
 base:Un X.fs X.ex X.H₀ H X.s₀.heap s.heap
 loc:∃m,s.heap.Ns X.env.locals m∧∀(i:Nat)(x:Str)(v:V),X.N[i]? =some x→af[i]? =some (some v)→Vis X.env.scope x→∃u,cE v u∧ZoC X.env s.heap m x u
 cell:∀x c,X.env.cells.lookup x=some c→∃v,s.heap.IsCell c v
 free:H X.env.locals=none
 freeC:∀x c,X.env.cells.lookup x=some c→H c=none
 pin:∀p∈X.pn++a',s.heap.get? p.1=some p.2∧H p.1=none∧p.1≠X.env.locals∧p.1∉X.fs∧∀v,p.2.data≠ .cell v
 hok:HOk X.prog X.w H s.heap
 len:af.length=X.N.length
section
variable {X:Cx}{a':List (Addr×Obj)}{af:List (Option V)}{H ae:Hp}{s:Shared}{h':Heap}
theorem Cx.Ok.nofr(ok:X.Ok){b:Addr}{o:Obj}(e:X.base.get? b=some o):b∉X.fs:=λa_=>by
 have:=(ok.funs.mem a_).1;rw[e] at this;cases this
theorem Inv.bs(I:Inv X a' af H s):∀b o,X.base.get? b=some o→s.heap.get? b=some o∧H b=none:=λb o e=>
 ⟨I.base.keep b o (I.ok.bs b o e).1 (I.ok.bs b o e).2 (I.ok.nofr e) (I.ok.noex b o e),I.base.free b o (I.ok.bs b o e).1 (I.ok.bs b o e).2 (I.ok.noex b o e)⟩
theorem Inv.bk(I:Inv X a' af H s):∀b o,X.base.get? b=some o→s.heap.get? b=some o:=λb o e=>(I.bs b o e).1
theorem Inv.mod(I:Inv X a' af H s):Mod X.K X.mg X.base:=I.ok.mod
theorem Inv.kIn(I:Inv X a' af H s):X.K.In s.heap:=I.ok.mod.kin.keeps I.bk
theorem Inv.lt(I:Inv X a' af H s):X.env.locals<s.heap.objs.size:=let⟨_,bO,_⟩:=I.loc;bO.lt
theorem Inv.sz(I:Inv X a' af H s):X.s₀.heap.objs.size≤s.heap.objs.size:=qal I.ok.above (qa2 I.lt)
theorem Inv.nofs(I:Inv X a' af H s){a:Addr}(h:s.heap.objs.size≤a):a∉X.fs:=λa_=>by
 obtain⟨_,o,bI,_⟩:=I.ok.funs.mem a_;exact absurd (qag (Heap.lt_size bI) (qal I.sz h)) (qbk _)
theorem Inv.cne(I:Inv X a' af H s):∀x c,X.env.cells.lookup x=some c→c≠X.env.locals:=λx c e z=>by
 obtain⟨v,o,bI,hd⟩:=I.cell x c e;obtain⟨m,⟨cq,bE,ep,kn,hr,_⟩,_⟩:=I.loc;rw[z,kn] at bI;cases bI;rw[hr] at hd;cases hd
theorem Inv.funs(I:Inv X a' af H s):s.heap.FunFrames X.base X.outer:=by
 have all:∀(l:List Env),(∀b∈frs l,b∈X.fs)→X.s₀.heap.FunFrames X.base l→s.heap.FunFrames X.base l:=by
  intro l
  induction l with
  |nil=>intro _ _;trivial
  |cons env r bQ=>
   intro hs aj;obtain⟨bt,⟨L,o,bJ,bO,bI,hd⟩,bq⟩:=aj;have i3:L∈X.fs:=hs L (by unfold frs;rw[List.filterMap_cons,bJ];exact qbo);obtain⟨sl,e⟩:=I.base.slot L o bI (I.ok.frf L i3) i3 λz=>I.ok.exfs L z i3;exact⟨bt,⟨L,_,bJ,bO,e,hd⟩,bQ (λb a_=>hs b (by unfold frs;rw[List.filterMap_cons,bJ];exact qaq _ a_)) bq⟩
 exact all X.outer (λ_ a_=>a_) I.ok.funs
theorem Inv.stack(I:Inv X a' af H s):s.heap.FunFrames X.base X.stack:=by
 rcases I.ok.stk with e|⟨e,bJ⟩
 ·rw[e];exact I.funs
 ·rw[e];obtain⟨m,bO,_⟩:=I.loc;refine .cons (by rw[I.ok.kind];decide) bJ bO ?_ I.funs;exact Heap.get?_none_of_le (qal I.ok.bsz I.ok.above)
theorem Inv.stkSub(I:Inv X a' af H s):∀b∈frs X.stack,b∈X.env.locals::X.fs:=λb a_=>by
 rcases I.ok.stk with e|⟨e,bJ⟩
 ·rw[e] at a_;exact qaq _ a_
 ·rw[e] at a_;unfold frs at a_;rw[List.filterMap_cons,bJ] at a_;exact a_
theorem Inv.stkFree(I:Inv X a' af H s):∀b∈frs X.stack,H b=none:=λb a_=>by
 rcases qae.mp (I.stkSub b a_) with e|a_
 ·rw[e];exact I.free
 ·obtain⟨_,o,bI,_⟩:=I.ok.funs.mem a_;exact I.base.free b o bI (I.ok.frf b a_) λz=>I.ok.exfs b z a_
theorem Inv.step{g':Array GenState}{t':Nat}{d':Drawn}{ch:List Addr}(I:Inv X a' af H s)
  (jN:∀b∈ch,(b∈X.ex∨X.s₀.heap.objs.size≤b)∧b≠X.env.locals∧(∀x c,X.env.cells.lookup x=some c→c≠b)∧∀p∈X.pn++a',p.1≠b)
  (keep:∀b o,b≠X.env.locals→b∉X.fs→b∉ch→s.heap.get? b=some o→H b=none→h'.get? b=some o)
  (slot:∀b o,b≠X.env.locals→b∈X.fs→b∉ch→s.heap.get? b=some o→H b=none→∃sl,h'.get? b=some {o with slots:=sl}) (free:∀b o,b∉ch→s.heap.get? b=some o→H b=none→ae b=none)
  (there:∀b o,b∉ch→s.heap.get? b=some o→∃cq,h'.get? b=some cq)
  (tups:∀b xs,H b=some (.tup xs)→ae b=some (.tup xs)) (frzs:∀b o u,H b=some (.frz o u)→ae b=some (.frz o u)) (tbls:∀b b',H b=some (.tbl b')→∃more,ae b=some (.tbl (b'++more)))
  (ns:∀m,s.heap.Ns X.env.locals m→h'.Ns X.env.locals m) (hok:HOk X.prog X.w ae h') (bH:AllBare g'):
  Inv X a' af ae {s with heap:=h',gens:=g',drawn:=d',toks:=t'}:=by
 have xM:∀b o,X.s₀.heap.get? b=some o→b≠X.env.locals:=λb o e=>qak (qag (Heap.lt_size e) I.ok.above);have qS:∀b o,X.s₀.heap.get? b=some o→b∉X.ex→b∉ch:=λb o e bo a_=>by
  rcases(jN b a_).1 with z|z
  ·exact bo z
  ·exact absurd (qag (Heap.lt_size e) z) (qbk _)
 have xN:∀x c,X.env.cells.lookup x=some c→∀v,s.heap.IsCell c v→h'.IsCell c v:=λx c e v ⟨o,bI,hd⟩=>by
  have oR:c∉ch:=λz=>(jN c z).2.2.1 x c e rfl
  by_cases bu:c∈X.fs
  ·obtain⟨sl,q⟩:=slot c o (I.cne x c e) bu oR bI (I.freeC x c e);exact⟨_,q,hd⟩
  ·exact⟨o,keep c o (I.cne x c e) bu oR bI (I.freeC x c e),hd⟩
 refine⟨I.ok,I.os,bH,⟨λb o e n a_ bo=>?_,λb o e n a_ bo=>?_,λb o e n bo=>?_,λb o e bo=>?_,λb xs e=>tups b xs (I.base.tups b xs e),λb o xs e=>frzs b o xs (I.base.frzs b o xs e),λb b' e=>?_⟩,?_,λx c e=>?_,?_,λx c e=>?_,λp bD=>?_,hok,I.len⟩
 ·exact keep b o (xM b o e) a_ (qS b o e bo) (I.base.keep b o e n a_ bo) (I.base.free b o e n bo)
 ·obtain⟨sl,bG⟩:=I.base.slot b o e n a_ bo;obtain⟨tq,bK⟩:=slot b _ (xM b o e) a_ (qS b o e bo) bG (I.base.free b o e n bo);exact⟨tq,bK⟩
 ·obtain⟨cq,bG⟩:=I.base.there b o e bo;exact free b cq (qS b o e bo) bG (I.base.free b o e n bo)
 ·obtain⟨cq,bG⟩:=I.base.there b o e bo;exact there b cq (qS b o e bo) bG
 ·obtain⟨fu,bG⟩:=I.base.tbls b b' e;obtain⟨fA,bK⟩:=tbls b _ bG;exact⟨fu++fA,by rw[bK,Array.append_assoc]⟩
 ·obtain⟨m,bO,aj⟩:=I.loc;refine⟨m,ns m bO,λi x v bG bK de=>?_⟩;obtain⟨u,r,l⟩:=aj i x v bG bK de;refine⟨u,r,?_⟩;rcases l with l|⟨k,c,e,z⟩
  ·exact .inl l
  ·exact .inr ⟨k,c,e,xN x c e _ z⟩
 ·obtain⟨v,z⟩:=I.cell x c e;exact⟨v,xN x c e v z⟩
 ·obtain⟨m,⟨o,_,_,bI,_⟩,_⟩:=I.loc;exact free _ o (λz=>(jN _ z).2.1 rfl) bI I.free
 ·obtain⟨v,o,bI,hd⟩:=I.cell x c e;exact free c o (λz=>(jN c z).2.2.1 x c e rfl) bI (I.freeC x c e)
 ·obtain⟨e,n,ne,nf,d⟩:=I.pin p bD;have oR:p.1∉ch:=λz=>(jN p.1 z).2.2.2 p bD rfl;exact⟨keep p.1 p.2 ne nf oR e n,free p.1 p.2 oR e n,ne,nf,d⟩
theorem Inv.un{t':Nat}(I:Inv X a' af H s)(u:Un X.fs [] H ae s.heap h')(hok:HOk X.prog X.w ae h'):Inv X a' af ae {s with heap:=h',toks:=t'}:=by
 obtain⟨m,⟨o,bE,ep,bI,r⟩,_⟩:=id I.loc;obtain⟨sl,i3⟩:=u.any bI I.free (by simp);exact I.step (g':=s.gens) (d':=s.drawn) (ch:=[]) (λ_ z=>nomatch z) (λb o _ a_ _ e n=>u.keep b o e n a_ (by simp)) (λb o _ a_ _ e n=>u.slot b o e n a_ (by simp)) (λb o _ e n=>u.free b o e n (by simp)) (λb o _ e=>u.there b o e (by simp)) u.tups u.frzs u.tbls (λcr bA=>by
  obtain⟨cq,tr,ts,kn,c6⟩:=bA;rw[bI] at kn;cases kn;exact⟨_,tr,ts,i3,c6⟩) hok I.bare
theorem Inv.call{g':Array GenState}{t':Nat}{d':Drawn}{ch:List Addr}(I:Inv X a' af H s)(u:Un (frs X.stack) ch H ae s.heap h')(hok:HOk X.prog X.w ae h')(bH:AllBare g')
  (jN:∀b∈ch,(b∈X.ex∨X.s₀.heap.objs.size≤b)∧b≠X.env.locals∧(∀x c,X.env.cells.lookup x=some c→c≠b)∧∀p∈X.pn++a',p.1≠b):
  Inv X a' af ae {s with heap:=h',gens:=g',drawn:=d',toks:=t'}:=by
 obtain⟨m,⟨o,bE,ep,bI,r⟩,_⟩:=id I.loc;obtain⟨sl,i3⟩:=u.any bI I.free λz=>(jN _ z).2.1 rfl;exact I.step (ch:=ch) jN (λb o i3 a_ bu e n=>u.keep b o e n (λz=>(qae.mp (I.stkSub b z)).elim i3 a_) bu) (λb o _ _ bu e n=>u.any e n bu) (λb o bu e n=>u.free b o e n bu) (λb o bu e=>u.there b o e bu) u.tups u.frzs u.tbls (λcr bA=>by
  obtain⟨cq,tr,ts,kn,c6⟩:=bA;rw[bI] at kn;cases kn;exact⟨_,tr,ts,i3,c6⟩) hok bH
theorem Inv.turned{t':Nat}{it:Addr}(I:Inv X a' af H s)(k:∀b o,b≠it→s.heap.get? b=some o→h'.get? b=some o)(bO:H it=none)(i3:it≠X.env.locals)
  (bj:it∈X.ex∨X.s₀.heap.objs.size≤it) (bp:∀x c,X.env.cells.lookup x=some c→c≠it) (bT:∀p∈X.pn++a',p.1≠it):Inv X a' af H {s with heap:=h',toks:=t'}:=by
 have oS:∀b u,H b=some u→b≠it:=λb u e z=>by rw[z,bO] at e;cases e
 refine I.step (g':=s.gens) (d':=s.drawn) (ch:=[it]) (λb a_=>?_) (λb o _ _ bu e _=>k b o (λz=>bu (by simp[z])) e) (λb o _ _ bu e _=>⟨o.slots,k b o (λz=>bu (by simp[z])) e⟩) (λ_ _ _ _ n=>n)
  (λb o bu e=>⟨o,k b o (λz=>bu (by simp[z])) e⟩) (λ_ _ e=>e) (λ_ _ _ e=>e) (λb b' e=>⟨#[],by rw[e];simp⟩) (λm bA=>?_) (λb u e=>?_) I.bare
 ·have e:b=it:=by simpa using a_
  subst e;exact⟨bj,i3,bp,bT⟩
 ·obtain⟨o,bE,ep,bI,r⟩:=bA;exact⟨o,bE,ep,k _ o (qbH i3) bI,r⟩
 ·refine(I.hok b u e).stay (λc v bu q=>k c v ?_ q) (λ_ q=>q) λ_ _ q=>q;rcases bu with z|z
  ·rw[z];exact oS b u e
  ·exact oS c _ z
theorem Inv.tok(I:Inv X a' af H s)(t:Nat):Inv X a' af H {s with toks:=t}:=I.un (h':=s.heap) (t':=t) Un.refl I.hok
theorem Inv.kept{t':Nat}(I:Inv X a' af H s)(k:∀b u,s.heap.get? b=some u→h'.get? b=some u):Inv X a' af H {s with heap:=h',toks:=t'}:=I.un (Un.kept k) (I.hok.kept k)
theorem Inv.laid{a:Addr}{o:HO}{t':Nat}(I:Inv X a' af H s)(k:∀b u,s.heap.get? b=some u→h'.get? b=some u)(bD:s.heap.objs.size≤a)(new:Z0 X.prog X.w (upd H a o) h' a o):
  Inv X a' af (upd H a o) {s with heap:=h',toks:=t'}:=I.un (Un.laid k bD (I.hok.fresh bD)) (I.hok.laid k bD new)
theorem Inv.write{x e:Addr}{o:HO}{t':Nat}(I:Inv X a' af H s)(h6:Mut (H x))(bL:e=x∨H e=some (.own x))(k:∀b u,b≠e→s.heap.get? b=some u→h'.get? b=some u)(ny:∃u,h'.get? e=some u)
  (new:Z0 X.prog X.w (upd H x o) h' x o):Inv X a' af (upd H x o) {s with heap:=h',toks:=t'}:=I.un (Un.write h6 bL k ny) (I.hok.write h6 bL k ny new)
theorem Inv.pins_of{xO:List (Addr×Obj)}(I:Inv X a' af H s)(h:∀p∈xO,s.heap.get? p.1=some p.2∧H p.1=none∧p.1≠X.env.locals∧p.1∉X.fs∧∀v,p.2.data≠ .cell v):Inv X xO af H s:=
 ⟨I.ok,I.os,I.bare,I.base,I.loc,I.cell,I.free,I.freeC,λp bD=>(qaH.mp bD).elim (λz=>I.pin p (qbx _ z)) (h p),I.hok,I.len⟩
theorem xP{N:List Str}(ed:N.Nodup){i j:Nat}{x:Str}(a:N[i]? =some x)(b:N[j]? =some x):i=j:=by
 obtain⟨bj,bG⟩:=FM.mp a;obtain⟨bp,bK⟩:=FM.mp b;exact(qbO ed).mp (bG.trans bK.symm)
theorem tt{M:Model}{A:Around}{E:Value→Shared→Prop}{i:Nat}{x:Str}{v:V}{u:Value}{Q:Unit→Shared→Prop}(I:Inv X a' af H s)(ed:X.N.Nodup)(hi:X.N[i]? =some x)(bo:Loc X.env.scope x)(r:cE v u)
  (h:∀bz,Inv X a' (af.set i (some v)) H bz→(∃a,Heap.SameBut a s.heap bz.heap∧(a=X.env.locals∨X.env.cells.lookup x=some a))→Q () bz) (bJ:X.fn x=true∨X.env.scope.names.lookup x=some .local:=by first|exact .inl rfl|exact .inr rfl|assumption):wpAny M A (storeName X.env x u) Q E s:=by
 obtain⟨m,bO,aj⟩:=id I.loc;have Fx:(X.env.scope.kind== .class||(X.env.scope.kind== .module&&X.env.locals != X.env.globals))=false:=by rw[I.ok.kind];rfl
 have xQ:i<af.length:=by rw[I.len];exact(FM.mp hi).1
 have cne:=I.cne;have xR:∀{a:Addr}{h':Heap},(∃o,s.heap.get? a=some o∧H a=none)→Heap.SameBut a s.heap h'→HOk X.prog X.w H h':=λ{a h'} bF hs b cT e=>by
  obtain⟨_,_,xS⟩:=bF;refine(I.hok b cT e).stay (λc d3 bu q=>(hs.2 c ?_).trans q) (λ_ q=>q) λ_ _ q=>q;rintro rfl;rcases bu with rfl|bu
  ·rw[xS] at e;cases e
  ·rw[xS] at bu;cases bu
 rcases bo with bt|bt
 ·refine wpAny_storeName_local bt bO (λh' qT hs=>?_) Fx;obtain⟨Fy,_,_,ko,_⟩:=id bO;refine h _ ⟨I.ok,I.os,I.bare,⟨λb o e n a_ bo=>?_,λb o e n a_ bo=>?_,I.base.free,λb o e bo=>?_,I.base.tups,I.base.frzs,I.base.tbls⟩,⟨_,qT,λj y lq bG bK de=>?_⟩,λy c e=>?_,I.free,I.freeC,λp bD=>?_,xR ⟨Fy,ko,I.free⟩ hs,by simpa using I.len⟩ ⟨_,hs,.inl rfl⟩
  ·exact(hs.2 b (qak (qag (Heap.lt_size e) I.ok.above))).trans (I.base.keep b o e n a_ bo)
  ·obtain⟨sl,bG⟩:=I.base.slot b o e n a_ bo;exact⟨sl,(hs.2 b (qak (qag (Heap.lt_size e) I.ok.above))).trans bG⟩
  ·obtain⟨cq,bG⟩:=I.base.there b o e bo;exact⟨cq,(hs.2 b (qak (qag (Heap.lt_size e) I.ok.above))).trans bG⟩
  ·by_cases bC:j=i
   ·subst bC;rw[hi] at bG;cases bG;rw[qbP xQ] at bK;cases bK;exact⟨u,r,.inl ⟨bt,by simp⟩⟩
   ·rw[qbI (qbH bC)] at bK;obtain⟨jO,c6,q⟩:=aj j y lq bG bK de;refine⟨jO,c6,?_⟩;rcases q with⟨k,e⟩|⟨k,c,e,z⟩
    ·refine .inl ⟨k,?_⟩;have:y≠x:=λe=>bC (xP ed bG (e▸hi));simp[this,e]
    ·exact .inr ⟨k,c,e,z.sameBut hs (cne y c e)⟩
  ·obtain⟨d3,z⟩:=I.cell y c e;exact⟨d3,z.sameBut hs (cne y c e)⟩
  ·obtain⟨e,n,ne,nf,d⟩:=I.pin p bD;exact⟨(hs.2 p.1 ne).trans e,n,ne,nf,d⟩
 ·have oT:X.fn x=true:=by
   rcases bJ with z|z
   ·exact z
   ·rw[z] at bt;cases bt
  obtain⟨c,bu⟩:=I.ok.has x (.inl bt);obtain⟨d3,z⟩:=I.cell x c bu;refine wpAny_storeName_cell I.ok.kind bt bu z (λh' jP hs=>?_);obtain⟨fg,xT,Fz⟩:=id z;refine h {s with heap:=h'} ⟨I.ok,I.os,I.bare,⟨λb o e n a_ bo=>?_,λb o e n a_ bo=>?_,I.base.free,λb o e bo=>?_,I.base.tups,I.base.frzs,I.base.tbls⟩,⟨m,bO.sameBut hs (qbH (cne x c bu)),λj y lq bG bK de=>?_⟩,λy cZ e=>?_,I.free,I.freeC,λp bD=>?_,xR ⟨fg,xT,I.freeC x c bu⟩ hs,by simpa using I.len⟩ ⟨c,hs,.inr bu⟩
  ·exact(hs.2 b (qak (qag (Heap.lt_size e) (I.ok.cab x c oT bu)))).trans (I.base.keep b o e n a_ bo)
  ·obtain⟨sl,bG⟩:=I.base.slot b o e n a_ bo;exact⟨sl,(hs.2 b (qak (qag (Heap.lt_size e) (I.ok.cab x c oT bu)))).trans bG⟩
  ·obtain⟨cq,bG⟩:=I.base.there b o e bo;exact⟨cq,(hs.2 b (qak (qag (Heap.lt_size e) (I.ok.cab x c oT bu)))).trans bG⟩
  ·by_cases bC:j=i
   ·subst bC;rw[hi] at bG;cases bG;rw[qbP xQ] at bK;cases bK;exact⟨u,r,.inr ⟨.inl bt,c,bu,jP⟩⟩
   ·rw[qbI (qbH bC)] at bK;obtain⟨jO,c6,q⟩:=aj j y lq bG bK de;refine⟨jO,c6,?_⟩;rcases q with q|⟨k,cZ,e,f7⟩
    ·exact .inl q
    ·refine .inr ⟨k,cZ,e,f7.sameBut hs ?_⟩;rintro rfl;exact bC (xP ed bG (I.ok.inj _ _ _ e bu▸hi))
  ·by_cases nz:cZ=c
   ·subst nz;exact⟨_,jP⟩
   ·obtain⟨kq,cI⟩:=I.cell y cZ e;exact⟨kq,cI.sameBut hs nz⟩
  ·obtain⟨e,n,ne,nf,d⟩:=I.pin p bD;refine⟨(hs.2 p.1 ?_).trans e,n,ne,nf,d⟩;intro q;rw[q,xT] at e;have i1:fg=p.2:=qan e;exact d d3 (by rw[←i1];exact Fz)
theorem tu{M:Model}{A:Around}{E:Value→Shared→Prop}{i:Nat}{x:Str}{v:V}{u:Value}{Q:Unit→Shared→Prop}(I:Inv X a' af H s)(ed:X.N.Nodup)(hi:X.N[i]? =some x)(bo:Loc X.env.scope x)(r:cE v u)
  (h:∀bz,Inv X a' (af.set i (some v)) H bz→Q () bz) (bJ:X.fn x=true∨X.env.scope.names.lookup x=some .local:=by first|exact .inl rfl|exact .inr rfl|assumption):wpAny M A (storeName X.env x u) Q E s:=
 tt I ed hi bo r (λbz e2 _=>h bz e2) bJ
theorem Inv.call'{bz:Shared}{ch:List Addr}(I:Inv X a' af H s)(bI:bz.os=s.os)(u:Un (frs X.stack) ch H ae s.heap bz.heap)(hok:HOk X.prog X.w ae bz.heap)(bH:AllBare bz.gens)
  (jN:∀b∈ch,(b∈X.ex∨X.s₀.heap.objs.size≤b)∧b≠X.env.locals∧(∀x c,X.env.cells.lookup x=some c→c≠b)∧∀p∈X.pn++a',p.1≠b):Inv X a' af ae bz:=by
 obtain⟨h',g',d',t',cq⟩:=bz;have e:cq=s.os:=bI;subst e;exact I.call (g':=g') (t':=t') (d':=d') u hok bH jN
end
noncomputable abbrev XK:=Value→Option Addr→Hp→Prop
noncomputable abbrev St:=List (Option V)
noncomputable abbrev VK:=V→Hp→Prop
noncomputable abbrev TE:=St→Hp→VK→Prop
noncomputable abbrev TT:=St→Hp→(Bool→Hp→Prop)→Prop
noncomputable abbrev TA:=St→Hp→(List V→Hp→Prop)→Prop
structure Vw where
 nx:St→Hp→Prop
 rt:VK
 bk:St→Hp→Prop:=λ_ _=>False
 ct:St→Hp→Prop:=λ_ _=>False
noncomputable abbrev TS:=Vw→St→Hp→Prop
def EP(X:Cx)(a':List (Addr×Obj))(af:St)(Q:VK)(u:Value)(bz:Shared):Prop:=∃v ae,Inv X a' af ae bz∧cE v u∧Q v ae
def TP(X:Cx)(a':List (Addr×Obj))(af:St)(Q:Bool→Hp→Prop)(b:Bool)(bz:Shared):Prop:=∃ae,Inv X a' af ae bz∧Q b ae
def AP(X:Cx)(a':List (Addr×Obj))(af:St)(Q:List V→Hp→Prop)(us:List Value)(bz:Shared):Prop:=∃vs ae,Inv X a' af ae bz∧cL vs us∧Q vs ae
def SP(X:Cx)(a':List (Addr×Obj))(D:Vw)(f:Flow)(bz:Shared):Prop:=
 match f with
 | .next=>∃bW ae,Inv X a' bW ae bz∧D.nx bW ae
 | .brk=>∃bW ae,Inv X a' bW ae bz∧D.bk bW ae
 | .cont=>∃bW ae,Inv X a' bW ae bz∧D.ct bW ae
 | .ret u=>∃v bW ae,Inv X a' bW ae bz∧cE v u∧D.rt v ae
def PE(X:Cx)(e:Expr)(t:TE):Prop:=
 ∀(a':List (Addr×Obj))(s:Shared)(af:St)(H:Hp)(Q:VK),Inv X a' af H s→t af H Q→wpAny (model X.prog X.w) X.A (eval e X.env) (EP X a' af Q) X.xe s
def PT(X:Cx)(e:Expr)(t:TT):Prop:=
 ∀(a':List (Addr×Obj))(s:Shared)(af:St)(H:Hp)(Q:Bool→Hp→Prop),Inv X a' af H s→t af H Q→wpAny (model X.prog X.w) X.A (isTrue e X.env (eval e X.env)) (TP X a' af Q) X.xe s
def PW(X:Cx)(e:Expr)(t:TT):Prop:=
 ∀(mh:Sem Value)(a':List (Addr×Obj))(s:Shared)(af:St)(H:Hp)(Q:Bool→Hp→Prop),Inv X a' af H s→t af H Q→wpAny (model X.prog X.w) X.A (isTrue e X.env mh) (TP X a' af Q) X.xe s
theorem PW.pt{X:Cx}{e:Expr}{t:TT}(h:PW X e t):PT X e t:=h _
def PA(X:Cx)(bE:List Expr)(t:TA):Prop:=
 ∀(pos:Pos)(a':List (Addr×Obj))(s:Shared)(af:St)(H:Hp)(Q:List V→Hp→Prop),Inv X a' af H s→t af H Q→wpAny (model X.prog X.w) X.A (spliced (backTo pos (starEach bE X.env))) (AP X a' af Q) X.xe s
def PS(X:Cx)(st:Stmt)(t:TS):Prop:=
 ∀(a':List (Addr×Obj))(s:Shared)(af:St)(H:Hp)(D:Vw),Inv X a' af H s→t D af H→wpAny (model X.prog X.w) X.A (exec st X.env) (SP X a' D) X.xe s
def PSs(X:Cx)(st:List Stmt)(t:TS):Prop:=
 ∀(a':List (Addr×Obj))(s:Shared)(af:St)(H:Hp)(D:Vw),Inv X a' af H s→t D af H→wpAny (model X.prog X.w) X.A (execs st X.env) (SP X a' D) X.xe s
theorem thn{cM:Type}{t:Sem cM}{Q nA:cM→Shared→Prop}{M:Model}{A:Around}{E:Value→Shared→Prop}{s:Shared}(h:wpAny M A t Q E s)(hM:∀a s,Q a s→nA a s):wpAny M A t nA E s:=wpAny_mono h hM λ_ _ x=>x
section
variable {X:Cx}
theorem bin{a b:Expr}{bX cP:TE}(bF:PE X a bX)(a_:PE X b cP){a':List (Addr×Obj)}{s:Shared}{af:St}{H:Hp}{R:V→V→Hp→Prop}(I:Inv X a' af H s)(h:bX af H λx bn=>cP af bn λy bv=>R x y bv)
  {cM:Type} {Q:cM→Shared→Prop} {f:Value→Value→Sem cM}
  (bJ:∀v u bU x y bv,Inv X a' af bv bU→cE x v→cE y u→R x y bv→wpAny (model X.prog X.w) X.A (f v u) Q X.xe bU):
  wpAny (model X.prog X.w) X.A (eval a X.env) (λv dn=>wpAny (model X.prog X.w) X.A (eval b X.env) (λu lr=>wpAny (model X.prog X.w) X.A (f v u) Q X.xe lr) X.xe dn) X.xe s:=by
 refine thn (bF a' s af H _ I h) λv bw ⟨x,bn,bM,cm,cg⟩=>?_;refine thn (a_ a' bw af bn _ bM cg) λu bU ⟨y,bv,cF,cY,c7⟩=>?_;exact bJ v u bU x y bv cF cm cY c7
noncomputable def ZgX (i:Nat):TE:=λaf H Q=>∃v,af[i]? =some (some v)∧Q v H
noncomputable def tC (v:V):TE:=λ_ H Q=>Q v H
theorem Znv{i:Nat}{x:Str}{pos:Pos}(ed:X.N[i]? =some x)(b_:Vis X.env.scope x)(hd:(x==("__debug__" :Str))=false:=by decide)(iA:(x==("__classdict__" :Str))=false:=by decide):PE X (.Name x pos) (ZgX i):=by
 intro a' s af H Q I h;obtain⟨v,e,h⟩:=h;obtain⟨m,bO,aj⟩:=I.loc;obtain⟨u,r,l⟩:=aj i x v ed e b_;have d4:EP X a' af Q u s:=⟨v,H,I,r,h⟩;rcases l with⟨bt,bA⟩|⟨bt,c,bu,lu⟩
 ·exact wpAny_Name (wpAny_loadName_local I.ok.kind bt bO bA d4) hd
 ·rcases bt with bt|bt
  ·exact wpAny_Name (wpAny_loadName_cell I.ok.kind bt bu lu d4) hd
  ·exact wpAny_Name (wpAny_loadName_free I.ok.kind bt bu lu d4 iA) hd
theorem b0{i j pos}:PE X (.Constant (.int i) j pos) (tC (.int i)):=λ_ _ _ H _ I h=>wpAny_Constant_int ⟨.int i,H,I.tok _,⟨_,rfl⟩,h⟩
theorem Wa{b j pos}:PE X (.Constant (.bool b) j pos) (tC (.bl b)):=λ_ _ _ H _ I h=>Constant_bool ⟨.bl b,H,I,rfl,h⟩
theorem ZaT{j pos}:PE X (.Constant .none j pos) (tC .non):=λ_ _ _ H _ I h=>Constant_none ⟨.non,H,I,rfl,h⟩
theorem YF{x j pos}:PE X (.Constant (.str x) j pos) (tC (.str x)):=λ_ _ _ H _ I h=>Calls.Constant_str ⟨.str x,H,I.tok _,⟨_,rfl⟩,h⟩
def Gl(X:Cx)(x:Str):Prop:=X.env.kindOf x=some .globalImplicit
theorem oU{E:Value→Shared→Prop}{a':List (Addr×Obj)}{s:Shared}{af:St}{H:Hp}{x:Str}{u:Value}{pos:Pos}{Q:Value→Shared→Prop}(I:Inv X a' af H s)(bH:Gl X x)(bA:X.mg x=some u)(h:Q u s)
  (hd:(x==("__debug__" :Str))=false:=by decide):wpAny (model X.prog X.w) X.A (eval (.Name x pos) X.env) Q E s:=
 Calls.Name_function_global I.ok.kind bH (Calls.loadGlobal_global (by rw[I.ok.glob];exact I.mod.glob.keeps I.bk) bA h) hd
theorem ht{E:Value→Shared→Prop}{a':List (Addr×Obj)}{s:Shared}{af:St}{H:Hp}{x:Str}{u:Value}{pos:Pos}{Q:Value→Shared→Prop}(I:Inv X a' af H s)(bH:Gl X x)(bA:X.mg x=none)(b_:bootBuiltins x=some u)(h:Q u s)
  (bO:x≠"__name__" :=by decide) (hd:(x==("__debug__" :Str))=false:=by decide):wpAny (model X.prog X.w) X.A (eval (.Name x pos) X.env) Q E s:=by
 obtain⟨i2,bj,bp⟩:=I.mod.blt;exact Calls.Name_function_global I.ok.kind bH (Calls.loadGlobal_builtin (by rw[I.ok.glob];exact I.mod.glob.keeps I.bk) bA (by rw[I.ok.blt];exact bj.keeps I.bk) ((bp x bO).trans b_) h) hd
theorem qU{x:Str}{v:V}{u:Value}{pos:Pos}(bH:Gl X x)(bA:X.mg x=some u)(r:cE v u)(hd:(x==("__debug__" :Str))=false:=by decide):PE X (.Name x pos) (tC v):=
 λ_ _ _ H _ I h=>oU I bH bA ⟨v,H,I,r,h⟩ hd
theorem kr{x:Str}{v:V}{u:Value}{pos:Pos}(bH:Gl X x)(bA:X.mg x=none)(b_:bootBuiltins x=some u)(r:cE v u)(bO:x≠"__name__" :=by decide)(hd:(x==("__debug__" :Str))=false:=by decide):PE X (.Name x pos) (tC v):=
 λ_ _ _ H _ I h=>ht I bH bA b_ ⟨v,H,I,r,h⟩ bO hd
variable {a b:Expr}{bX cP:TE}{pos:Pos}
variable {f8 qV:TT}{rest:List Expr}
noncomputable def xU (t u:TT):TT:=λaf H Q=>t af H λc bn=>if c=true then u af bn Q else Q false bn
noncomputable def tOr (t u:TT):TT:=λaf H Q=>t af H λc bn=>if c=true then Q true bn else u af bn Q
noncomputable def xV (t:TT):TT:=λaf H Q=>t af H λc bn=>Q (!c) bn
theorem xW(bF:PT X a f8):PW X (.BoolOp .And [a] pos) f8:=by
 intro oV a' s af H Q I h;refine isTrue_and (thn (bF a' s af H Q I h) λc bw e=>?_);cases c with
 |true=>exact isTrue_and_nil e
 |false=>exact e
theorem h7(bF:PT X a f8):PW X (.BoolOp .Or [a] pos) f8:=by
 intro oV a' s af H Q I h;refine isTrue_or (thn (bF a' s af H Q I h) λc bw e=>?_);cases c with
 |false=>exact isTrue_or_nil e
 |true=>exact e
theorem xX(bF:PT X a f8)(a_:PW X (.BoolOp .And (b::rest) pos) qV):PW X (.BoolOp .And (a::b::rest) pos) (xU f8 qV):=by
 intro oV a' s af H Q I h;refine isTrue_and (thn (bF a' s af H _ I h) λc bw ⟨bn,bM,cg⟩=>?_);cases c with
 |true=>exact a_ oV a' bw af bn Q bM cg
 |false=>exact⟨bn,bM,cg⟩
theorem hb(bF:PT X a f8)(a_:PW X (.BoolOp .Or (b::rest) pos) qV):PW X (.BoolOp .Or (a::b::rest) pos) (tOr f8 qV):=by
 intro oV a' s af H Q I h;refine isTrue_or (thn (bF a' s af H _ I h) λc bw ⟨bn,bM,cg⟩=>?_);cases c with
 |true=>exact⟨bn,bM,cg⟩
 |false=>exact a_ oV a' bw af bn Q bM cg
theorem hv(bF:PT X a f8):PT X (.UnaryOp .Not a pos) (xV f8):=by
 intro a' s af H Q I h;exact isTrue_not (bF a' s af H (λc bn=>Q (!c) bn) I h)
noncomputable def xY (bX cP:TE):TE:=λaf H Q=>bX af H λx bn=>∃c,x= .bl c∧if c=true then cP af bn Q else Q (.bl false) bn
noncomputable def xZ (bX:TE):TE:=λaf H Q=>bX af H λx bn=>∃c,x= .bl c∧Q (.bl (!c)) bn
theorem oW{op}{t:TE}(h:PE X a t):PE X (.BoolOp op [a] pos) t:=λa' s af H Q I hw=>BoolOp_one (h a' s af H Q I hw)
theorem nB(bF:PE X a bX)(a_:PE X (.BoolOp .And (b::rest) pos) cP):PE X (.BoolOp .And (a::b::rest) pos) (xY bX cP):=by
 intro a' s af H Q I h;refine BoolOp_and (thn (bF a' s af H _ I h) λv bw ⟨x,bn,bM,cm,cg⟩=>?_);obtain⟨c,rfl,cg⟩:=cg;cases cm;refine wpAny_truthy_bool ?_;cases c with
 |true=>exact a_ a' bw af bn Q bM cg
 |false=>exact⟨.bl false,bn,bM,rfl,cg⟩
theorem FA(bF:PE X a bX):PE X (.UnaryOp .Not a pos) (xZ bX):=by
 intro a' s af H Q I h;refine UnaryOp_ (thn (bF a' s af H _ I h) λv bw ⟨x,bn,bM,cm,cg⟩=>?_);obtain⟨c,rfl,cg⟩:=cg;cases cm;exact not_of (wpAny_truthy_bool ⟨.bl (!c),bn,bM,rfl,cg⟩)
noncomputable def tIf (t:TT) (bX cP:TE):TE:=λaf H Q=>t af H λc bn=>if c=true then bX af bn Q else cP af bn Q
theorem FC{c:Expr}(bu:PT X c f8)(bF:PE X a bX)(a_:PE X b cP):PE X (.IfExp c a b pos) (tIf f8 bX cP):=by
 intro a' s af H Q I h;refine wpAny_IfExp (thn (bu a' s af H _ I h) λd bw ⟨bn,bM,cg⟩=>?_);cases d with
 |true=>exact bF a' bw af bn Q bM cg
 |false=>exact a_ a' bw af bn Q bM cg
end
def SqL(K:Frag)(H:Hp)(a:Addr)(xs:List V):Prop:=
 Rd H a (.lst xs)∨
  ∃(o:Obj)(its:Array Value)(n:Nat),K.lookup a=some o∧o.cls= .type "list" ∧o.dict=none∧o.data= .seq its n∧its.size≤sizeLine∧cL xs its.toList
def SqT(K:Frag)(H:Hp)(a:Addr)(xs:List V):Prop:=
 Rd H a (.tup xs)∨
  ∃(o:Obj)(its:Array Value)(n:Nat),K.lookup a=some o∧o.cls= .type "tuple" ∧o.data= .seq its n∧its.size≤sizeLine∧cL xs its.toList
noncomputable def FD:Value→Option V
 | .none=>some .non
 | .bool b=>some (.bl b)
 | .int i _=>some (.int i)
 | .str x _=>some (.str x)
 | .bytes b _=>some (.byt b)
 | .float b _=>some (.flt b)
 | .ref a=>some (.ref a)
 | .type n=>some (.ty n)
 |_=>none
theorem cE.abs{x:V}{u:Value}(r:cE x u):FD u=some x:=by
 cases x with
 |non=>cases r;rfl
 |bl _=>cases r;rfl
 |int _=>obtain⟨t,rfl⟩:=r;rfl
 |str _=>obtain⟨t,rfl⟩:=r;rfl
 |byt _=>obtain⟨t,rfl⟩:=r;rfl
 |flt _=>obtain⟨t,rfl⟩:=r;rfl
 |ref _=>cases r;rfl
 |ty _=>cases r;rfl
theorem cE.inj{x y:V}{u:Value}(r:cE x u)(q:cE y u):x=y:=qan (r.abs.symm.trans q.abs)
theorem cL.inj:∀{xs ys:List V}{us:List Value},cL xs us→cL ys us→xs=ys
 |_,_,_,.nil,.nil=>rfl
 |_,_,_,.cons r t,.cons c6 t'=>by rw[r.inj c6,cL.inj t t']
section
variable {X:Cx}{a':List (Addr×Obj)}{af:St}{H:Hp}{s:Shared}{a:Addr}{xs ys:List V}
theorem SqL.of{K:Frag}(h:H a=some (.lst xs)):SqL K H a xs:= .inl (.inl h)
theorem SqT.of{K:Frag}(h:H a=some (.tup xs)):SqT K H a xs:= .inl (.inl h)
theorem Inv.list(I:Inv X a' af H s)(h:SqL X.K H a xs):∃its:List Value,cL xs its∧PlainL s.heap a its.toArray∧xs.length≤sizeLine:=by
 rcases h with h|⟨o,its,n,bt,bu,hd,hs,hz,r⟩
 ·obtain⟨z,its,n,r,e⟩:=h.ok I.hok;exact⟨its,r,⟨_,n,e,rfl,rfl,rfl⟩,z⟩
 ·refine⟨its.toList,r,⟨o,n,I.kIn a o bt,bu,hd,by simpa using hs⟩,?_⟩;have e:=r.length;simp only[qaV] at e;omega
theorem Inv.tuple(I:Inv X a' af H s)(h:SqT X.K H a xs):∃its:List Value,cL xs its∧IsTup s.heap a its.toArray∧xs.length≤sizeLine:=by
 rcases h with h|⟨o,its,n,bt,bu,hs,hz,r⟩
 ·obtain⟨z,its,r,p⟩:=h.ok I.hok;exact⟨its,r,p,z⟩
 ·refine⟨its.toList,r,⟨o,I.kIn a o bt,bu,n,by simpa using hs⟩,?_⟩;have e:=r.length;simp only[qaV] at e;omega
theorem Inv.list_inj(I:Inv X a' af H s)(h:SqL X.K H a xs)(h':SqL X.K H a ys):xs=ys:=by
 obtain⟨its,r,⟨o,n,e,_,_,d⟩,_⟩:=I.list h;obtain⟨its',c6,⟨cq,fC,cf,_,_,d'⟩,_⟩:=I.list h';rw[e] at cf;cases cf;rw[d] at d'
 injection d' with ks _
 have:its=its':=by simpa using congrArg Array.toList ks
 subst this;exact r.inj c6
end
section
variable {X:Cx}{a':List (Addr×Obj)}{af:St}{H:Hp}{s:Shared}{E:Value→Shared→Prop}
end
section
variable {X:Cx}{st:Stmt}{rest:List Stmt}{t u:TS}{e:Expr}{cA:TE}{pos:Pos}
noncomputable def tNext:TS:=λD af H=>D.nx af H
noncomputable def x_ (t u:TS):TS:=λD af H=>t {D with nx:=u D} af H
theorem dX:PSs X [] tNext:=λ_ _ af H _ I h=>wpAny_execs_nil ⟨af,H,I,h⟩
theorem bN(bj:PS X st t)(bp:PSs X rest u):PSs X (st::rest) (x_ t u):=by
 intro a' s af H D I h;refine wpAny_execs_cons (thn (bj a' s af H {D with nx:=u D} I h) λf bw q=>?_);cases f with
 |next=>
  obtain⟨bW,ae,e2,q⟩:=q;exact bp a' bw bW ae D e2 q
 |ret v=>exact q
 |brk=>exact q
 |cont=>exact q
theorem b4(bj:PS X st t):PSs X [st] t:=by
 intro a' s af H D I h;refine wpAny_execs_cons (thn (bj a' s af H D I h) λf bw q=>?_);cases f with
 |next=>exact wpAny_execs_nil q
 |ret v=>exact q
 |brk=>exact q
 |cont=>exact q
theorem Inv.quiet{a':List (Addr×Obj)}{af:St}{H:Hp}{s:Shared}(I:Inv X a' af H s):interactive X.env=false:=by simp[interactive,I.ok.kind]
noncomputable def x' (cA:TE):TS:=λD af H=>cA af H λ_ bn=>D.nx af bn
theorem eo(bL:PE X e cA)(hs:swapsWith e none pos.line X.env=pure false:=by rfl):PS X (.Expr e pos) (x' cA):=by
 intro a' s af H D I h;exact wpAny_Expr_any (thn (bL a' s af H _ I h) λv bw ⟨x,bn,bM,cm,cg⟩=>⟨af,bn,bM,cg⟩) I.quiet hs
noncomputable def ya (cA:TE):TS:=λD af H=>cA af H D.rt
theorem c0(bL:PE X e cA):PS X (.Return (some e) pos) (ya cA):=by
 intro a' s af H D I h;exact wpAny_Return_some (thn (bL a' s af H _ I h) λv bw ⟨x,bn,bM,cm,cg⟩=>⟨x,af,bn,bM,cm,cg⟩)
noncomputable def yb (c:TT) (t u:TS):TS:=λD af H=>c af H λb bn=>if b=true then t D af bn else u D af bn
theorem dS{c:Expr}{a b:List Stmt}{dq:TT}(bu:PT X c dq)(bF:PSs X a t)(a_:PSs X b u):PS X (.If c a b pos) (yb dq t u):=by
 intro a' s af H D I h;refine wpAny_If (thn (bu a' s af H _ I h) λd bw ⟨bn,bM,cg⟩=>?_);cases d with
 |true=>exact bF a' bw af bn D bM cg
 |false=>exact a_ a' bw af bn D bM cg
noncomputable def tNever:TS:=λ_ _ _=>False
theorem yc:PS X st tNever:=λ_ _ _ _ _ _ h=>h.elim
end
noncomputable abbrev TG:=V→St→Hp→(St→Hp→Prop)→Prop
noncomputable abbrev TGs:=List V→St→Hp→(St→Hp→Prop)→Prop
def PG(X:Cx)(target:Expr)(t:TG):Prop:=
 ∀(a':List (Addr×Obj))(s:Shared)(af:St)(H:Hp)(v:V)(u:Value)(Q:St→Hp→Prop),Inv X a' af H s→cE v u→t v af H Q→
  wpAny (model X.prog X.w) X.A (assign target X.env u) (λ_ bz=>∃bW ae,Inv X a' bW ae bz∧Q bW ae) X.xe s
def PGs(X:Cx)(fk:List Expr)(t:TGs):Prop:=
 ∀(a':List (Addr×Obj))(s:Shared)(af:St)(H:Hp)(vs:List V)(us:List Value)(Q:St→Hp→Prop),Inv X a' af H s→cL vs us→t vs af H Q→
  wpAny (model X.prog X.w) X.A (assignInOrder ((assignEach fk X.env).map (·.2)) us) (λ_ bz=>∃bW ae,Inv X a' bW ae bz∧Q bW ae) X.xe s
noncomputable abbrev Zdw:=V→V→V→Hp→(Hp→Prop)→Prop
def Zip(X:Cx)(t:Zdw):Prop:=
 ∀(a':List (Addr×Obj))(s:Shared)(af:St)(H:Hp)(o i v:V)(ds fD u:Value)(Q:Hp→Prop),Inv X a' af H s→cE o ds→cE i fD→cE v u→t o i v H Q→
  wpAny (model X.prog X.w) X.A (setItem ds fD u) (λ_ bz=>∃ae,Inv X a' af ae bz∧Q ae) X.xe s
noncomputable abbrev TIp:=V→V→Hp→VK→Prop
def PIp(X:Cx)(op:Operator)(t:TIp):Prop:=
 ∀(a':List (Addr×Obj))(s:Shared)(af:St)(H:Hp)(x y:V)(v u:Value)(Q:VK),Inv X a' af H s→cE x v→cE y u→t x y H Q→
  wpAny (model X.prog X.w) X.A (inplaceOp op v u) (EP X a' af Q) X.xe s
section
variable {X:Cx}{pos:Pos}
noncomputable def V9 (i:Nat):TG:=λv af H Q=>Q (af.set i (some v)) H
theorem cG{i:Nat}{x:Str}(ed:X.N.Nodup)(hi:X.N[i]? =some x)(bo:Loc X.env.scope x)(bJ:X.fn x=true∨X.env.scope.names.lookup x=some .local:=by first|exact .inl rfl|exact .inr rfl|assumption):PG X (.Name x pos) (V9 i):=by
 intro a' s af H v u Q I r h;exact wpAny_assign_Name (tu I ed hi bo r (λbz e2=>⟨_,H,e2,h⟩) bJ)
noncomputable def gNil:TGs:=λvs af H Q=>vs=[]∧Q af H
noncomputable def yd (t:TG) (u:TGs):TGs:=λvs af H Q=>∃v r,vs=v::r∧t v af H λbW ae=>u r bW ae Q
theorem hN:PGs X [] gNil:=by
 intro a' s af H vs us Q I r h;obtain⟨e,h⟩:=h;subst e;cases r;exact assignInOrder_nil ⟨af,H,I,h⟩
theorem d8{e:Expr}{bE:List Expr}{t:TG}{u:TGs}(bj:PG X e t)(bp:PGs X bE u)
  (hs:(assignEach (e::bE) X.env).map (·.2)=assign e X.env::(assignEach bE X.env).map (·.2):=by rfl):PGs X (e::bE) (yd t u):=by
 intro a' s af H vs us Q I r h;obtain⟨v,Ql,bG,h⟩:=h;subst bG;cases r with
 |cons r nC=>
  rw[hs];refine assignInOrder_cons (thn (bj a' s af H _ _ _ I r h) λ_ bw ⟨nD,bn,bM,cg⟩=>?_);exact bp a' bw nD bn _ _ Q bM nC cg
noncomputable def tv (K:Frag) (n:Nat) (t:TGs):TG:=λv af H Q=>∃a xs,v= .ref a∧SqT K H a xs∧xs.length=n∧t xs af H Q
theorem ZnJ{bE:List Expr}{k:Nat}{t:TGs}{n:Nat}(bu:X.calm=true)(h:PGs X bE t)
  (bO:(assignEach bE X.env).length=n:=by rfl) (hc:(assignEach bE X.env).findIdx? (·.1)=none:=by rfl):PG X (.Tuple bE k pos) (tv X.K n t):=by
 intro a' s af H v u Q I r hw;obtain⟨a,xs,bG,cv,aj,hw⟩:=hw;subst bG;cases r;obtain⟨its,c',b3,hz⟩:=I.tuple cv;refine assign_Tuple_tuple (I.ok.hd bu) b3 (by simp[bO,←aj,c'.length]) hc λh' bo=>?_;have bM:Inv X a' af H {s with heap:=h'}:=I.kept (t':=s.toks) λb o e=>bo b o (qak (Heap.lt_size e)) e;exact h a' _ af H xs _ Q bM (by simpa using c') hw
noncomputable def ye (to ti:TE) (t:Zdw):TG:=λv af H Q=>to af H λo bn=>ti af bn λi bv=>t o i v bv λb9=>Q af b9
theorem iB{o i:Expr}{to ti:TE}{t:Zdw}(bI:PE X o to)(hi:PE X i ti)(hs:Zip X t)
  (bF:∀v,assign (.Subscript o i pos) X.env v=(do
   let ds←holding [v] (eval o X.env)
   let fD←holding [v,ds] (eval i X.env)
   standAt pos
   holding [v,ds,fD] (setItem ds fD v)
   release [v,ds,fD] []):=by intro _;rfl):PG X (.Subscript o i pos) (ye to ti t):=by
 intro a' s af H v u Q I r h;rw[bF];refine wpAny_bind (wpAny_holding (thn (bI a' s af H _ I h) λds bw ⟨x,bn,bM,cm,cg⟩=>?_));refine wpAny_bind (wpAny_holding (thn (hi a' bw af bn _ bM cg) λfD bU ⟨y,bv,cF,cY,c7⟩=>?_));refine wpAny_bind (wpAny_standAt (wpAny_bind (wpAny_holding (thn (hs a' bU af bv x y v ds fD u _ cF cm cY r c7) λ_ bS ⟨b9,dE,fv⟩=>?_))));exact wpAny_release ⟨af,b9,dE,fv⟩
noncomputable def oX (cA:TE) (g:TG):TS:=λD af H=>cA af H λx bn=>g x af bn D.nx
theorem h8{cO e:Expr}{cA:TE}{g:TG}(bL:PE X e cA)(bH:PG X cO g)(hs:swapsWithSole [cO] e pos.line X.env=pure false:=by rfl)(hw:swappedStores [cO] e X.env=pure none:=by rfl)
  (bj:(assignEach [cO] X.env).map (·.2)=[assign cO X.env]:=by rfl):PS X (.Assign [cO] e pos) (oX cA g):=by
 intro a' s af H D I h;refine wpAny_Assign_stores (thn (bL a' s af H _ I h) λv bw ⟨x,bn,bM,cm,cg⟩=>?_) hs hw;rw[bj];exact thn (bH a' bw af bn x v _ bM cm cg) λ_ bU q=>q
theorem cB{i:Nat}{x:Str}{e:Expr}{cA:TE}{jl:Pos}(ed:X.N.Nodup)(hi:X.N[i]? =some x)(bo:Loc X.env.scope x)(bL:PE X e cA)(hs:swapsWith e (some (.Name x jl)) pos.line X.env=pure false:=by rfl)(bJ:X.fn x=true∨X.env.scope.names.lookup x=some .local:=by first|exact .inl rfl|exact .inr rfl|assumption):
  PS X (.Assign [.Name x jl] e pos) (oX cA (V9 i)):=by
 intro a' s af H D I h;refine wpAny_Assign_Name (thn (bL a' s af H _ I h) λv bw ⟨y,bn,bM,cm,cg⟩=>?_) hs;exact tu bM ed hi bo cm (λbU cF=>⟨_,bn,cF,cg⟩) bJ
noncomputable def FE (i:Nat) (cA:TE) (ti:TIp):TS:=λD af H=>∃x,af[i]? =some (some x)∧cA af H λy bn=>ti x y bn λz bv=>D.nx (af.set i (some z)) bv
theorem FF{i:Nat}{x:Str}{e:Expr}{cA:TE}{op:Operator}{ti:TIp}{jl:Pos}(ed:X.N.Nodup)(hi:X.N[i]? =some x)(bo:Loc X.env.scope x)(bL:PE X e cA)(bI:PIp X op ti)(bJ:X.fn x=true∨X.env.scope.names.lookup x=some .local:=by first|exact .inl rfl|exact .inr rfl|assumption):
  PS X (.AugAssign (.Name x jl) op e pos) (FE i cA ti):=by
 intro a' s af H D I h;obtain⟨v,bG,h⟩:=h;obtain⟨m,bO,aj⟩:=I.loc;have FG:Vis X.env.scope x:=by rcases bo with k|k;exact .inl k;exact .inr (.inl k)
 obtain⟨u,r,l⟩:=aj i x v hi bG FG;refine wpAny_AugAssign_Name ?_;have go:wpAny (model X.prog X.w) X.A (eval e X.env) (λw lr=>wpAny (model X.prog X.w) X.A (inplaceOp op u w) (λr ku=>wpAny (model X.prog X.w) X.A (storeName X.env x r) (λ_=>SP X a' D .next) X.xe ku) X.xe lr) X.xe s:=by
  refine thn (bL a' s af H _ I h) λw bw ⟨y,bn,bM,cm,cg⟩=>?_;refine thn (bI a' bw af bn v y u w _ bM r cm cg) λz bU ⟨Qm,bv,cF,cY,c7⟩=>?_;exact tu cF ed hi bo cY (λbS dE=>⟨_,bv,dE,c7⟩) bJ
 rcases l with⟨bt,bA⟩|⟨bt,c,bu,lu⟩
 ·exact wpAny_loadName_local I.ok.kind bt bO bA go
 ·rcases bt with bt|bt
  ·exact wpAny_loadName_cell I.ok.kind bt bu lu go
  ·rcases bo with k|k
   ·have:X.env.scope.names.lookup x=some .free:=bt;rw[k] at this;cases this
   ·have:X.env.scope.names.lookup x=some .free:=bt;rw[k] at this;cases this
noncomputable def yf (to ti cA:TE) (mi:V→V→Hp→VK→Prop) (mj:TIp) (ml:Zdw):TS:=λD af H=>to af H λo bn=>ti af bn λi bv=>mi o i bv λx b9=>cA af b9 λy b7=>mj x y b7 λz b1=>ml o i z b1 λcR=>D.nx af cR
def ZkX(X:Cx)(t:V→V→Hp→VK→Prop):Prop:=
 ∀(a':List (Addr×Obj))(s:Shared)(af:St)(H:Hp)(o i:V)(ds fD:Value)(Q:VK),Inv X a' af H s→cE o ds→cE i fD→t o i H Q→
  wpAny (model X.prog X.w) X.A (getItem ds fD) (EP X a' af Q) X.xe s
theorem tw{o i e:Expr}{to ti cA:TE}{mi:V→V→Hp→VK→Prop}{mj:TIp}{ml:Zdw}{op:Operator}{kx:Pos}(bI:PE X o to)(hi:PE X i ti)(bH:ZkX X mi)(bL:PE X e cA)(bD:PIp X op mj)(hs:Zip X ml)
  (bF:∀ds fD new,augStore i ds fD new=(do holding [new,ds,fD] (setItem ds fD new);release [new,ds,fD] [];pure .next):=by intros;rfl):PS X (.AugAssign (.Subscript o i kx) op e pos) (yf to ti cA mi mj ml):=by
 intro a' s af H D I h;refine wpAny_AugAssign_SubscriptAny (thn (bI a' s af H _ I h) λds bw ⟨x1,bn,bM,cm,cg⟩=>?_) bF;refine thn (hi a' bw af bn _ bM cg) λfD bU ⟨x2,bv,cF,cY,c7⟩=>?_;refine thn (bH a' bU af bv x1 x2 ds fD _ cF cm cY c7) λjQ bS ⟨x3,b9,dE,gV,fv⟩=>?_;refine thn (bL a' bS af b9 _ dE fv) λv ca ⟨x4,b7,ky,h9,mm⟩=>?_;refine thn (bD a' ca af b7 x3 x4 jQ v _ ky gV h9 mm) λnew cC ⟨x5,b1,kz,oY,oZ⟩=>?_;exact thn (hs a' cC af b1 x1 x2 x5 ds fD new _ kz cm cY oY oZ) λ_ ef ⟨cR,he,tx⟩=>⟨af,cR,he,tx⟩
noncomputable def ipI (f:Int→Int→Int):TIp:=λx y H Q=>∃i j,x= .int i∧y= .int j∧Q (.int (f i j)) H
theorem yg:PIp X .Add (ipI λi j=>i+j):=by
 intro a' s af H x y v u Q I cm cY h;obtain⟨i,j,bG,bK,q⟩:=h;subst bG;subst bK;obtain⟨t,rfl⟩:=cm;obtain⟨t',rfl⟩:=cY;exact iadd_int ⟨.int _,H,I.tok _,⟨_,rfl⟩,q⟩
theorem yh:PIp X .Sub (ipI λi j=>i-j):=by
 intro a' s af H x y v u Q I cm cY h;obtain⟨i,j,bG,bK,q⟩:=h;subst bG;subst bK;obtain⟨t,rfl⟩:=cm;obtain⟨t',rfl⟩:=cY;exact isub_int ⟨.int _,H,I.tok _,⟨_,rfl⟩,q⟩
end
section
variable {X:Cx}{pos:Pos}
noncomputable def yi (c:TT) (cP:TS):TS:=λD af H=>∃W:Nat→St→Hp→Prop,(∃m,W m af H)∧∀m af H,W m af H→
 c af H λb bn=>if b=true then ∃N:St→Hp→Prop,(∀bW ae,N bW ae→∃cr,cr<m∧W cr bW ae)∧cP {D with nx:=N,ct:=N,bk:=D.nx} af bn else D.nx af bn
theorem qW{c:Expr}{body:List Stmt}{dq:TT}{cP:TS}(bD:PassesOwn (model X.prog X.w) X.A X.env X.xe)(bu:PT X c dq)(a_:PSs X body cP):PS X (.While c body [] pos) (yi dq cP):=by
 intro a' s af H D I h;obtain⟨W,⟨hx,eU⟩,turn⟩:=h;refine wpAny_While (codeAny_whileLoop (λn bz=>∃bW ae,Inv X a' bW ae bz∧W n bW ae) ?_ hx ⟨af,H,I,eU⟩);rintro n bw ⟨nD,bn,bM,fU⟩;refine wpAny_passesOwn bD (thn (bu a' bw nD bn _ bM (turn n nD bn fU)) λb bU ⟨bv,cF,c7⟩=>?_);cases b with
 |true=>
  obtain⟨N,ed,c7⟩:=c7;rw[if_pos rfl];refine wpAny_passesOwn bD (thn (a_ a' bU nD bv _ cF c7) λf bS fv=>?_);cases f with
  |next=>
   obtain⟨jo,b9,dE,i4⟩:=fv;obtain⟨cr,bA,o0⟩:=ed jo b9 i4;exact⟨cr,bA,jo,b9,dE,o0⟩
  |cont=>
   obtain⟨jo,b9,dE,i4⟩:=fv;obtain⟨cr,bA,o0⟩:=ed jo b9 i4;exact⟨cr,bA,jo,b9,dE,o0⟩
  |brk=>exact fv
  |ret v=>exact fv
 |false=>
  rw[if_neg qai];exact wpAny_execs_nil ⟨nD,bv,cF,c7⟩
end
structure It where
 go:Nat→Hp→Prop
 yld:Nat→Hp→V→Hp→Prop
 stop:Nat→Hp→Prop
def gy(X:Cx)(a':List (Addr×Obj))(H:Hp)(b:Addr):Prop:=
 H b=none∧b≠X.env.locals∧b∉X.fs∧(b∈X.ex∨X.s₀.heap.objs.size≤b)∧(∀x c,X.env.cells.lookup x=some c→c≠b)∧∀p∈X.pn++a',p.1≠b
theorem Inv.fpOk{X:Cx}{a':List (Addr×Obj)}{af:St}{H ae:Hp}{s:Shared}{b:Addr}(I:Inv X a' af H s)(a_:s.heap.objs.size≤b)(bO:ae b=none):gy X a' ae b:=by
 refine⟨bO,qbJ (qag I.lt a_),I.nofs a_,.inr (qal I.sz a_),λx c e z=>?_,λp bD z=>?_⟩
 ·obtain⟨v,q⟩:=I.cell x c e;exact absurd (qag q.lt (by rw[z];exact a_)) (qbk _)
 ·exact absurd (qag (Heap.lt_size (I.pin p bD).1) (by rw[z];exact a_)) (qbk _)
structure Um(P:Program)(w:World)(K:Frag)(cO:Expr)(J:It)(fp:List Addr)(it:Addr)(dY:Nat→Heap→Prop):Prop where
 mem:it∈fp
 obj:∀i h,dY i h→∀b∈fp,∃o,h.get? b=some o∧∀v,o.data≠ .cell v
 keep:∀i h h',dY i h→(∀b∈fp,∀o,h.get? b=some o→h'.get? b=some o)→dY i h'
 item:∀(X:Cx),X.prog=P→X.w=w→X.K=K→X.calm=true→∀(i:Nat)(a':List (Addr×Obj))(s:Shared)(af:St)(H:Hp)(E:Value→Shared→Prop),Inv X a' af H s→(∀b∈fp,gy X a' H b)→dY i s.heap→J.go i H→
  wpAny (model P w) X.A (pyNext (.ref it)) (λr bw=>∃u,r=some u∧
   wpAny (model P w) X.A (letOwnedTupleGo cO (.ref it) u) (λ_ bU=>∃x ae,Inv X a' af ae bU∧cE x u∧J.yld i H x ae∧dY (i+1) bU.heap∧∀b∈fp,ae b=none) E bw) E s
 done:∀(X:Cx),X.prog=P→X.w=w→X.K=K→X.calm=true→∀(i:Nat)(a':List (Addr×Obj))(s:Shared)(af:St)(H:Hp)(E:Value→Shared→Prop),Inv X a' af H s→(∀b∈fp,gy X a' H b)→dY i s.heap→J.stop i H→
  wpAny (model P w) X.A (pyNext (.ref it)) (λr bw=>r=none∧Inv X a' af H bw) E s
 self:∀(A:Around)(i:Nat)(s:Shared)(Q:Value→Shared→Prop)(E:Value→Shared→Prop),dY i s.heap→Q (.ref it) s→wpAny (model P w) A (pyIter (.ref it)) Q E s
noncomputable abbrev TI:=St→Hp→(It→Hp→Prop)→Prop
def PIE(X:Cx)(a':List (Addr×Obj))(af:St)(cO:Expr)(R:It→Hp→Prop)(nE:Value)(bU:Shared):Prop:=
 ∃(it:Addr)(fp:List Addr)(dY:Nat→Heap→Prop)(J:It)(ae:Hp),nE= .ref it∧Inv X a' af ae bU∧Um X.prog X.w X.K cO J fp it dY∧dY 0 bU.heap∧(∀b∈fp,gy X a' ae b)∧R J ae
def PI(X:Cx)(cO er:Expr)(eA:TI):Prop:=
 ∀(a':List (Addr×Obj))(s:Shared)(af:St)(H:Hp)(R:It→Hp→Prop),Inv X a' af H s→eA af H R→
  wpAny (model X.prog X.w) X.A (eval er X.env) (λv bw=>wpAny (model X.prog X.w) X.A (pyIter v) (PIE X a' af cO R) X.xe bw) X.xe s
theorem o1{M:Model}{A:Around}{E:Value→Shared→Prop}{s:Shared}{cO:Expr}{it:Addr}{u:Value}{o:Obj}{n:String}{vs:Array Value}{Q:Unit→Shared→Prop}(bI:s.heap.get? it=some o)(bu:o.cls= .type n)(hd:o.data= .fields vs)
  (bO:["enumerate","zip","dict_itemiterator","dict_reverseitemiterator","odict_iterator","itertools.zip_longest","itertools.pairwise"].contains n=false) (hM:Q () s):wpAny M A (letOwnedTupleGo cO (.ref it) u) Q E s:=by
 unfold letOwnedTupleGo;cases cO<;>first
  |exact wpAny_pure hM
  |(cases u<;>first
    |exact wpAny_pure hM
    |(refine wpAny_bind (wpAny_load bI ?_)
      rw[bu,hd];show wpAny M A (if(["enumerate","zip","dict_itemiterator","dict_reverseitemiterator","odict_iterator","itertools.zip_longest","itertools.pairwise"].contains n&&vs[0]? ==some (rawInt _))=true then _ else _) Q E s;rw[if_neg (by intro h;rw[bO,Bool.false_and] at h;cases h)];exact wpAny_pure hM))
noncomputable def Itl (K:Frag) (a:Addr):It:=
 ⟨λi H=>∃xs x,SqL K H a xs∧xs[i]? =some x,λi H x ae=>ae=H∧∀xs,SqL K H a xs→xs[i]? =some x,λi H=>∃xs,SqL K H a xs∧xs.length≤i⟩
noncomputable def Itr (lo:Int) (n:Nat):It:=⟨λi _=>i<n,λi H x ae=>ae=H∧x= .int (lo+i),λi _=>n≤i⟩
theorem FH{P:Program}{w:World}{K:Frag}{cO:Expr}(a it:Addr):Um P w K cO (Itl K a) [it] it (λi h=>h.IsListIter it a i) where
 mem:=by simp
 obj:=λi h st b a_=>by
  have e:b=it:=by simpa using a_
  subst e;obtain⟨o,e,c,d⟩:=st;exact⟨o,e,λv z=>by rw[d] at z;cases z⟩
 keep:=λi h h' st k=>st.at λo e=>k it (by simp) o e
 item:=by
  intro X dU hw d9 bu i a' s af H E I bJ st bH;subst dU hw d9;obtain⟨xs,x,cv,bo⟩:=bH;obtain⟨its,c',p,hz⟩:=I.list cv;obtain⟨u,hu,d_⟩:=c'.get bo;obtain⟨dG,f1,f2,df,es,dV⟩:=bJ it (by simp);refine wpAny_pyNext_list_item st p.isList (x:=u) (by simpa using hu) λh' h_ hP=>?_;have bM:Inv X a' af H {s with heap:=h'}:=I.turned (t':=s.toks) (λb o a_ e=>(hP.2 b a_).trans e) dG f1 df es dV;obtain⟨o,e,c,d⟩:=id h_;exact⟨u,rfl,o1 (s:={s with heap:=h'}) e c d (by decide) ⟨x,H,bM,d_,⟨rfl,λys bR=>by rw[I.list_inj bR cv];exact bo⟩,h_,λb a_=>(bJ b a_).1⟩⟩
 done:=by
  intro X dU hw d9 bu i a' s af H E I bJ st bH;subst dU hw d9;obtain⟨xs,cv,bo⟩:=bH;obtain⟨its,c',p,hz⟩:=I.list cv;obtain⟨dG,f1,f2,df,es,dV⟩:=bJ it (by simp);have aj:=c'.length;exact wpAny_pyNext_list_end (I.ok.hd bu) st p.isList (by simp;omega) λh' cV=>⟨rfl,I.turned (t':=s.toks) (λb o a_ e=>cV b o a_ e) dG f1 df es dV⟩
 self:=λ_ _ _ _ _ st h=>wpAny_pyIter_listiter st h
theorem FI{P:Program}{w:World}{K:Frag}{cO:Expr}(it:Addr)(lo:Int)(n:Nat):Um P w K cO (Itr lo n) [it] it (λi h=>IsRangeIter h it (lo+(i:Nat)*1) ((n:Int)-(i:Nat)) 1) where
 mem:=by simp
 obj:=λi h st b a_=>by
  have e:b=it:=by simpa using a_
  subst e;exact⟨_,st,λv z=>by
   have f7:Data.fields _=Data.cell v:=z;cases f7⟩
 keep:=λi h h' st k=>k it (by simp) _ st
 item:=by
  intro X dU hw d9 bu i a' s af H E I bJ st bH;subst dU hw d9;obtain⟨dG,f1,f2,df,es,dV⟩:=bJ it (by simp);have W:=Walks.range (prog:=X.prog) (w:=X.w) (I.ok.hd bu) it lo 1 n;refine W.item i s _ _ bH st λv h' bY b_ h_ kA=>?_;obtain⟨t,rfl⟩:=b_;have bM:Inv X a' af H {s with heap:=h',toks:=bY}:=I.turned (λb o a_ e=>kA b o (by simpa using a_) e) dG f1 df es dV;refine⟨_,rfl,o1 (s:={s with heap:=h',toks:=bY}) (n:="range_iterator") h_ rfl rfl (by decide) ⟨.int (lo+i),H,bM,⟨t,?_⟩,⟨rfl,rfl⟩,h_,λb a_=>(bJ b a_).1⟩⟩;rw[Int.mul_one]
 done:=by
  intro X dU hw d9 bu i a' s af H E I bJ st bH;subst dU hw d9;obtain⟨dG,f1,f2,df,es,dV⟩:=bJ it (by simp);exact wpAny_pyNext_range_end (I.ok.hd bu) st (by have:n≤i:=bH;omega) λh' cV=>⟨rfl,I.turned (t':=s.toks) (λb o a_ e=>cV b o a_ e) dG f1 df es dV⟩
 self:=λ_ _ _ _ _ st h=>wpAny_pyIter_rangeiter st h
section
variable {X:Cx}{cO:Expr}
noncomputable def tz (K:Frag) (dP:TE):TI:=λaf H R=>dP af H λx bn=>∃a,x= .ref a∧(∃xs,SqL K bn a xs)∧R (Itl K a) bn
theorem ZlZ{l:Expr}{dP:TE}(aj:PE X l dP):PI X cO l (tz X.K dP):=by
 intro a' s af H R I h;refine thn (aj a' s af H _ I h) λv bw ⟨x,bn,bM,cm,cg⟩=>?_;obtain⟨a,e,⟨xs,cv⟩,q⟩:=cg;subst e;cases cm;obtain⟨its,c',p,hz⟩:=bM.list cv;refine wpAny_pyIter_list p.isList ?_;refine⟨bw.heap.objs.size,[bw.heap.objs.size],_,_,bn,rfl,bM.kept (t':=bw.toks) λb o e=>Heap.get?_push_of_some _ e,FH a _,⟨_,Heap.get?_push_size _ rfl,rfl,rfl⟩,λb a_=>?_,q⟩;have e:b=bw.heap.objs.size:=by simpa using a_
 subst e;exact bM.fpOk (qaa _) (bM.hok.fresh (qaa _))
theorem FJ{a':List (Addr×Obj)}{af:St}{H:Hp}{s:Shared}{R:It→Hp→Prop}{E:Value→Shared→Prop}{lo hi:Int}{t u v:Tok}{bY:Nat}(I:Inv X a' af H s)(bj: -(2 ^ 62)≤lo)(bp:lo<2 ^ 62)(bT: -(2 ^ 62)≤hi)(cy:hi<2 ^ 62)
  (q:R (Itr lo (hi-lo).toNat) H):wpAny (model X.prog X.w) X.A (pyIter (.ref s.heap.objs.size)) (PIE X a' af cO R) E {s with heap:=s.heap.push {cls:= .type "range",data:= .fields #[.int lo t,.int hi u,.int 1 v]},toks:=bY}:=by
 refine wpAny_pyIter_range (IsRange.new ..) (small_one bj bp bT cy) ?_;have bM:Inv X a' af H {s with heap:=s.heap.push {cls:= .type "range",data:= .fields #[.int lo t,.int hi u,.int 1 v]},toks:=bY}:=I.kept λb o e=>Heap.get?_push_of_some _ e;refine⟨(s.heap.push {cls:= .type "range",data:= .fields #[.int lo t,.int hi u,.int 1 v]}).objs.size,[(s.heap.push {cls:= .type "range",data:= .fields #[.int lo t,.int hi u,.int 1 v]}).objs.size],_,_,H,rfl,
  bM.kept (t':=bY) λb o e=>Heap.get?_push_of_some _ e,FI _ lo (hi-lo).toNat,?_,λb a_=>?_,q⟩
 ·have bG:lo+((0:Nat):Int)*1=lo:=by simp
  have bK:(((hi-lo).toNat:Nat):Int)-((0:Nat):Int)=Builtin.Range.rangeSize lo hi 1:=by rw[rangeSize_one];split<;>omega
  show IsRangeIter _ _ (lo+((0:Nat):Int)*1) ((((hi-lo).toNat:Nat):Int)-((0:Nat):Int)) 1;rw[bG,bK];exact Heap.get?_push_size _ rfl
 ·have e:b=(s.heap.push {cls:= .type "range",data:= .fields #[.int lo t,.int hi u,.int 1 v]}).objs.size:=by simpa using a_
  subst e;exact bM.fpOk (qaa _) (bM.hok.fresh (qaa _))
noncomputable def yj (bX:TA):TI:=λaf H R=>bX af H λvs bn=>∃j:Int,vs=[.int j]∧ -(2 ^ 62)≤j∧j<2 ^ 62∧R (Itr 0 j.toNat) bn
theorem iD{a:Expr}{bX:TA}{p pos:Pos}(bH:Gl X "range")(bA:X.mg "range" =none)(bF:PA X [a] bX)(hs:starEach [a] X.env=[(false,eval a X.env)]:=by rfl):PI X cO (.Call (.Name "range" p) [a] [] pos) (yj bX):=by
 intro a' s af H R I h;refine Call_ (ht I bH bA boot_range (qaD (thn (bF pos a' s af H _ I h) λus bw ⟨vs,bn,bM,cm,cg⟩=>?_) hs rfl));obtain⟨j,e,cg,c7,q⟩:=cg;subst e;cases cm with
 |cons r nC=>
  cases nC;obtain⟨t,rfl⟩:=r;exact call_range_1 (FJ bM (by omega) (by omega) cg c7 (by simpa using q))
noncomputable def yk (eA:TI) (g:TG) (cP:TS):TS:=λD af H=>eA af H λJ bn=>∃W:Nat→Nat→St→Hp→Prop,(∃m,W 0 m af bn)∧∀i m af H,W i m af H→
 (J.stop i H∧D.nx af H)∨(J.go i H∧∃N:St→Hp→Prop,(∀bW ae,N bW ae→∃cr,cr<m∧W (i+1) cr bW ae)∧∀x ae,J.yld i H x ae→g x af ae λda bv=>cP {D with nx:=N,ct:=N,bk:=D.nx} da bv)
noncomputable def Zax (fp:List Addr) (h:Heap):List (Addr×Obj):=fp.filterMap λb=>(h.get? b).map λo=>(b,o)
theorem nF{fp:List Addr}{h:Heap}{b:Addr}{o:Obj}(a_:b∈fp)(e:h.get? b=some o):(b,o)∈Zax fp h:=List.mem_filterMap.mpr ⟨b,a_,by rw[e];rfl⟩
theorem Zjv{fp:List Addr}{h:Heap}{p:Addr×Obj}(bD:p∈Zax fp h):p.1∈fp∧h.get? p.1=some p.2:=by
 obtain⟨b,a_,e⟩:=List.mem_filterMap.mp bD;cases q:h.get? b with
 |none=>rw[q] at e;cases e
 |some o=>
  rw[q] at e;have cf:(b,o)=p:=qan e;subst cf;exact⟨a_,q⟩
theorem Inv.pinned{a':List (Addr×Obj)}{af:St}{H:Hp}{s:Shared}{fp:List Addr}(I:Inv X a' af H s)(bJ:∀b∈fp,gy X a' H b)(bI:∀b∈fp,∃o,s.heap.get? b=some o∧∀v,o.data≠ .cell v):Inv X (a'++Zax fp s.heap) af H s:=
 I.pins_of λp bD=>(qaH.mp bD).elim (λz=>I.pin p (qav _ z)) λz=>by
  obtain⟨a_,e⟩:=Zjv z;obtain⟨dG,f1,f2,_⟩:=bJ p.1 a_;obtain⟨o,cf,d⟩:=bI p.1 a_;rw[e] at cf;cases cf;exact⟨e,dG,f1,f2,d⟩
theorem Inv.unpinned{a' pl:List (Addr×Obj)}{af:St}{H:Hp}{s:Shared}(I:Inv X (a'++pl) af H s):Inv X a' af H s:=I.pins_of λp bD=>I.pin p (qav _ (qbx _ bD))
theorem eB{er:Expr}{body:List Stmt}{eA:TI}{g:TG}{cP:TS}{pos:Pos}(bD:PassesOwn (model X.prog X.w) X.A X.env X.xe)(bu:X.calm=true)(hi:PI X cO er eA)(bH:PG X cO g)(a_:PSs X body cP)
  (hs:∀x,foldedSetIterable er X.env x=pure x:=by intro _;rfl):PS X (.For cO er body [] pos) (yk eA g cP):=by
 intro a' s af H D I h;refine wpAny_For (thn (hi a' s af H _ I h) λv bw bj=>thn bj λnE bU bp=>?_) hs;obtain⟨it,fp,dY,J,bv,e,cF,T,kB,f2,W,⟨hx,eU⟩,turn⟩:=bp;subst e;have tA:∀{ae:Hp},(∀b∈fp,ae b=none)→∀b∈fp,gy X a' ae b:=λbO b a_=>⟨bO b a_,(f2 b a_).2⟩;refine codeAny_forLoop_any (λn bz=>∃i bW ae,Inv X a' bW ae bz∧dY i bz.heap∧(∀b∈fp,ae b=none)∧W i n bW ae) ?_ hx ⟨0,af,bv,cF,kB,λb a_=>(f2 b a_).1,eU⟩;rintro n bS ⟨i,jo,b9,dE,jR,jS,o0⟩;rcases turn i n jo b9 o0 with⟨stop,mo⟩|⟨go,N,ed,step⟩
 ·refine wpAny_passesOwn bD (thn (T.done X rfl rfl rfl bu i a' bS jo b9 X.xe dE (tA jS) jR stop) λr ca ⟨bq,ky⟩=>?_);subst bq;exact wpAny_execs_nil ⟨jo,b9,ky,mo⟩
 ·refine wpAny_passesOwn bD (thn (T.item X rfl rfl rfl bu i a' bS jo b9 X.xe dE (tA jS) jR go) λr ca ⟨u,bq,cy⟩=>?_);subst bq;refine wpAny_passesOwn bD (thn cy λ_ cC ⟨x,b1,kz,oY,FK,kC,hQ⟩=>?_);have FL:=kz.pinned (tA hQ) (T.obj _ _ kC);refine wpAny_passesOwn bD (thn (bH _ cC jo b1 x u _ FL oY (step x b1 FK)) λ_ ef ⟨FN,cR,he,tx⟩=>?_);refine wpAny_passesOwn bD (thn (a_ _ ef FN cR _ he tx) λf et lv=>?_);have again:∀{jp:St}{dt:Hp},Inv X (a'++Zax fp cC.heap) jp dt et→N jp dt→∃m,m<n∧∃i bW ae,Inv X a' bW ae et∧dY i et.heap∧(∀b∈fp,ae b=none)∧W i m bW ae:=λ{jp dt} hR o2=>by
   obtain⟨cr,bA,FO⟩:=ed jp dt o2;refine⟨cr,bA,i+1,jp,dt,hR.unpinned,T.keep _ _ _ kC λb a_ o e=>(hR.pin (b,o) (qav _ (qav _ (nF a_ e)))).1,λb a_=>?_,FO⟩;obtain⟨o,e,d⟩:=T.obj _ _ kC b a_;exact(hR.pin (b,o) (qav _ (qav _ (nF a_ e)))).2.1
  cases f with
  |next=>obtain⟨jp,dt,hR,o2⟩:=lv;exact again hR o2
  |cont=>obtain⟨jp,dt,hR,o2⟩:=lv;exact again hR o2
  |brk=>obtain⟨jp,dt,hR,lv⟩:=lv;exact⟨jp,dt,hR.unpinned,lv⟩
  |ret v=>obtain⟨x7,jp,dt,hR,o3,lv⟩:=lv;exact⟨x7,jp,dt,hR.unpinned,o3,lv⟩
end
theorem Vy{lo:Int}{n:Nat}{g:TG}{cP:TS}{D:Vw}{af:St}{H:Hp}(Pv:Nat→St→Hp→Prop)(cd:Pv 0 af H)
  (hs:∀i af H,i<n→Pv i af H→g (.int (lo+i)) af H λda bv=>cP {D with nx:=Pv (i+1),ct:=Pv (i+1),bk:=D.nx} da bv) (hd:∀af H,Pv n af H→D.nx af H):
  ∃W:Nat→Nat→St→Hp→Prop,(∃m,W 0 m af H)∧∀i m af H,W i m af H→
   ((Itr lo n).stop i H∧D.nx af H)∨((Itr lo n).go i H∧∃N:St→Hp→Prop,(∀bW ae,N bW ae→∃cr,cr<m∧W (i+1) cr bW ae)∧∀x ae,(Itr lo n).yld i H x ae→g x af ae λda bv=>cP {D with nx:=N,ct:=N,bk:=D.nx} da bv):=by
 refine⟨λi m af H=>m=n-i∧i≤n∧Pv i af H,⟨n,by simp,qau _,cd⟩,?_⟩;rintro i m af H ⟨rfl,hi,p⟩
 by_cases cJ:i<n
 ·refine .inr ⟨cJ,Pv (i+1),λbW ae gW=>⟨n-(i+1),by omega,rfl,cJ,gW⟩,λx ae y=>?_⟩;obtain⟨e,y⟩:=y;subst e y;exact hs i af _ cJ p
 ·have e:i=n:=by omega
  subst e;exact .inl ⟨qaa _,hd af H p⟩
noncomputable abbrev R2:=V→V→Hp→VK→Prop
def OpR(X:Cx)(f:Value→Value→Sem Value)(r:R2):Prop:=
 ∀(a':List (Addr×Obj))(s:Shared)(af:St)(H:Hp)(x y:V)(v u:Value)(Q:VK),Inv X a' af H s→cE x v→cE y u→r x y H Q→
  wpAny (model X.prog X.w) X.A (f v u) (EP X a' af Q) X.xe s
def UnR(X:Cx)(f:Value→Sem Value)(r:V→Hp→VK→Prop):Prop:=
 ∀(a':List (Addr×Obj))(s:Shared)(af:St)(H:Hp)(x:V)(v:Value)(Q:VK),Inv X a' af H s→cE x v→r x H Q→
  wpAny (model X.prog X.w) X.A (f v) (EP X a' af Q) X.xe s
def YW(X:Cx)(f:Value)(r:List V→Hp→VK→Prop):Prop:=
 ∀(a':List (Addr×Obj))(s:Shared)(af:St)(H:Hp)(xs:List V)(us:List Value)(Q:VK),Inv X a' af H s→cL xs us→r xs H Q→
  wpAny (model X.prog X.w) X.A (call f us) (EP X a' af Q) X.xe s
def ZoI(X:Cx)(r:V→Hp→(Bool→Hp→Prop)→Prop):Prop:=
 ∀(a':List (Addr×Obj))(s:Shared)(af:St)(H:Hp)(x:V)(v:Value)(Q:Bool→Hp→Prop),Inv X a' af H s→cE x v→r x H Q→
  wpAny (model X.prog X.w) X.A (truthy v) (TP X a' af Q) X.xe s
noncomputable def tOp (r:R2) (bX cP:TE):TE:=λaf H Q=>bX af H λx bn=>cP af bn λy bv=>r x y bv Q
noncomputable def tUn (r:V→Hp→VK→Prop) (bX:TE):TE:=λaf H Q=>bX af H λx bn=>r x bn Q
noncomputable def rI (C:Int→Int→Prop) (g:Int→Int→V):R2:=λx y H Q=>∃i j,x= .int i∧y= .int j∧C i j∧Q (g i j) H
noncomputable def rI0 (g:Int→Int→V):R2:=λx y H Q=>∃i j,x= .int i∧y= .int j∧Q (g i j) H
noncomputable def rU (g:Int→V):V→Hp→VK→Prop:=λx H Q=>∃i,x= .int i∧Q (g i) H
section
variable {X:Cx}{a b c:Expr}{bX cP dq:TE}{pos:Pos}
theorem tD(bF:PE X a bX)(a_:PE X b cP){a':List (Addr×Obj)}{s:Shared}{af:St}{H:Hp}{R:V→V→Hp→Prop}(I:Inv X a' af H s)
  (h:bX af H λx bn=>cP af bn λy bv=>R x y bv) {Q:Value→Shared→Prop} {f:Value→Value→Sem Value}
  (bJ:∀v u bU x y bv,Inv X a' af bv bU→cE x v→cE y u→R x y bv→wpAny (model X.prog X.w) X.A (f v u) Q X.xe bU):
  wpAny (model X.prog X.w) X.A (eval a X.env) (λv dn=>wpAny (model X.prog X.w) X.A (eval b X.env) (λu lr=>wpAny (model X.prog X.w) X.A (f v u) Q X.xe lr) X.xe dn) X.xe s:=by
 refine thn (bF a' s af H _ I h) λv bw ⟨x,bn,bM,cm,cg⟩=>?_;refine thn (a_ a' bw af bn _ bM cg) λu bU ⟨y,bv,cF,cY,c7⟩=>?_;exact bJ v u bU x y bv cF cm cY c7
theorem cD{op:Operator}{r:R2}(bI:OpR X (binaryOp op) r)(bF:PE X a bX)(a_:PE X b cP):PE X (.BinOp a op b pos) (tOp r bX cP):=by
 intro a' s af H Q I h;exact wpAny_BinOp (tD bF a_ I h λv u bU x y bv cF bZ ci q=>bI a' bU af bv x y v u Q cF bZ ci q)
theorem yl{op:UnaryOp}{r:V→Hp→VK→Prop}(bI:UnR X (unaryOp op) r)(bF:PE X a bX):PE X (.UnaryOp op a pos) (tUn r bX):=by
 intro a' s af H Q I h;exact UnaryOp_ (thn (bF a' s af H _ I h) λv bw ⟨x,bn,bM,cm,cg⟩=>bI a' bw af bn x v Q bM cm cg)
theorem opI{f:Value→Value→Sem Value}{C:Int→Int→Prop}{g:Int→Int→Int}
  (rule:∀(i j:Int)(t u:Tok)(s:Shared)(Q:Value→Shared→Prop)(E:Value→Shared→Prop),C i j→Q (.int (g i j) s.toks) {s with toks:=s.toks+1}→wpAny (model X.prog X.w) X.A (f (.int i t) (.int j u)) Q E s):
  OpR X f (rI C λi j=> .int (g i j)):=by
 intro a' s af H x y v u Q I bZ ci h;obtain⟨i,j,rfl,rfl,bu,q⟩:=h;obtain⟨t,rfl⟩:=bZ;obtain⟨t',rfl⟩:=ci;exact rule i j t t' s _ _ bu ⟨.int (g i j),H,I.tok _,⟨_,rfl⟩,q⟩
theorem ZmQ{f:Value→Value→Sem Value}{g:Int→Int→Int}
  (rule:∀(i j:Int)(t u:Tok)(s:Shared)(Q:Value→Shared→Prop)(E:Value→Shared→Prop),Q (.int (g i j) s.toks) {s with toks:=s.toks+1}→wpAny (model X.prog X.w) X.A (f (.int i t) (.int j u)) Q E s):
  OpR X f (rI0 λi j=> .int (g i j)):=by
 intro a' s af H x y v u Q I bZ ci h;obtain⟨i,j,rfl,rfl,q⟩:=h;obtain⟨t,rfl⟩:=bZ;obtain⟨t',rfl⟩:=ci;exact rule i j t t' s _ _ ⟨.int (g i j),H,I.tok _,⟨_,rfl⟩,q⟩
theorem Zld{f:Value→Value→Sem Value}{g:Int→Int→Bool}
  (rule:∀(i j:Int)(t u:Tok)(s:Shared)(Q:Value→Shared→Prop)(E:Value→Shared→Prop),Q (.bool (g i j)) s→wpAny (model X.prog X.w) X.A (f (.int i t) (.int j u)) Q E s):
  OpR X f (rI0 λi j=> .bl (g i j)):=by
 intro a' s af H x y v u Q I bZ ci h;obtain⟨i,j,rfl,rfl,q⟩:=h;obtain⟨t,rfl⟩:=bZ;obtain⟨t',rfl⟩:=ci;exact rule i j t t' s _ _ ⟨.bl (g i j),H,I,rfl,q⟩
def ZmF(i j:Int):Prop:=0≤j∧j≤1000000∧i.natAbs<2 ^ 64
def ZiG(i j:Int):Prop:=(-(2 ^ 64)<i∧i<2 ^ 64)∨(-(2 ^ 64)<j∧j<2 ^ 64)
theorem ZiG.ok{i j:Int}(h:ZiG i j):IntMulOk i j:=by
 rcases h with⟨bj,bp⟩|⟨bj,bp⟩
 ·exact .of_left (intBits_le_64 bj bp)
 ·exact .of_right (intBits_le_64 bj bp)
theorem FP:OpR X (binaryOp .Add) (rI0 λi j=> .int (i+j)):=ZmQ λ_ _ _ _ _ _ _ q=>add_int q
theorem ym:OpR X (binaryOp .Sub) (rI0 λi j=> .int (i-j)):=ZmQ λ_ _ _ _ _ _ _ q=>sub_int q
theorem fV:OpR X (binaryOp .Mod) (rI (λ_ j=>0<j) λi j=> .int (i % j)):=opI λi j _ _ _ _ _ bu q=>by
 have bj:(0:Int)<j:=bu;exact mod_int' (by omega) (by rw[qbV i (by omega)];exact q)
theorem FQ:OpR X (binaryOp .Pow) (rI ZmF λi j=> .int (i ^ j.toNat)):=opI λ_ _ _ _ _ _ _ bu q=>pow_int_small bu.1 bu.2.1 bu.2.2 q
theorem unI{f:Value→Sem Value}{g:Int→Int}
  (rule:∀(i:Int)(t:Tok)(s:Shared)(Q:Value→Shared→Prop)(E:Value→Shared→Prop),Q (.int (g i) s.toks) {s with toks:=s.toks+1}→wpAny (model X.prog X.w) X.A (f (.int i t)) Q E s):
  UnR X f (rU λi=> .int (g i)):=by
 intro a' s af H x v Q I bZ h;obtain⟨i,rfl,q⟩:=h;obtain⟨t,rfl⟩:=bZ;exact rule i t s _ _ ⟨.int (g i),H,I.tok _,⟨_,rfl⟩,q⟩
theorem yn:UnR X (unaryOp .USub) (rU λi=> .int (-i)):=unI λ_ _ _ _ _ q=>neg_int q
end
noncomputable def yo:V→V→Bool
 | .non,.non=>true| .non,.int _=>true| .int _,.non=>true| .non,.bl _=>true| .bl _,.non=>true| .non,.str _=>true| .str _,.non=>true
 | .int _,.int _=>true| .bl _,.bl _=>true| .str _,.str _=>true| .byt _,.byt _=>true
 | .int _,.str _=>true| .str _,.int _=>true| .bl _,.str _=>true| .str _,.bl _=>true
 |_,_=>false
noncomputable def rEq:R2:=λx y H Q=>yo x y=true∧Q (.bl (decide (x=y))) H
noncomputable def rNe:R2:=λx y H Q=>yo x y=true∧Q (.bl (!decide (x=y))) H
theorem ZhA{i j:Int}:decide (V.int i=V.int j)=(i==j):=by
 rw[qbB];simp
theorem ZjC{i j:Bool}:decide (V.bl i=V.bl j)=(i==j):=by
 rw[qbB];simp
theorem ZhV{i j:Str}:decide (V.str i=V.str j)=(i==j):=by
 rw[qbB];simp
theorem ZhO{i j:Array UInt8}:decide (V.byt i=V.byt j)=(i.toList==j.toList):=by
 rw[qbB];cases i;cases j;simp
section
variable {X:Cx}{a b c:Expr}{bX cP dq:TE}{pos:Pos}
theorem eN{a':List (Addr×Obj)}{af:St}{H:Hp}{s:Shared}{Q:VK}{k k':Bool}(I:Inv X a' af H s)(q:Q (.bl k) H)(e:k=k'):EP X a' af Q (.bool k') s:=by
 subst e;exact⟨.bl k,H,I,rfl,q⟩
theorem FR:OpR X (compareOp .Eq) rEq:=by
 intro a' s af H x y v u Q I bZ ci h;obtain⟨hs,q⟩:=h;cases x with
 |non=>
  cases bZ;cases y with
  |non=>cases ci;exact PySem.EqNone.eq_none_none (eN I q (by simp))
  |bl j=>cases ci;exact PySem.EqNone.eq_none_bool (eN I q (by simp))
  |int j=>obtain⟨t',rfl⟩:=ci;exact PySem.EqNone.eq_none_int (eN I q (by simp))
  |str j=>obtain⟨t',rfl⟩:=ci;exact PySem.EqNone.eq_none_str (eN I q (by simp))
  |_=>exact absurd (show false=true from hs) qai
 |bl i=>
  cases bZ;cases y with
  |non=>cases ci;exact PySem.EqNone.eq_bool_none (eN I q (by simp))
  |bl j=>cases ci;exact eq_bool (eN I q ZjC)
  |str j=>obtain⟨t',rfl⟩:=ci;exact PySem.EqMixed.eq_bool_str (eN I q (by simp))
  |_=>exact absurd (show false=true from hs) qai
 |int i=>
  obtain⟨t,rfl⟩:=bZ;cases y with
  |non=>cases ci;exact PySem.EqNone.eq_int_none (eN I q (by simp))
  |int j=>obtain⟨t',rfl⟩:=ci;exact eq_int (eN I q ZhA)
  |str j=>obtain⟨t',rfl⟩:=ci;exact PySem.EqMixed.eq_int_str (eN I q (by simp))
  |_=>exact absurd (show false=true from hs) qai
 |str i=>
  obtain⟨t,rfl⟩:=bZ;cases y with
  |non=>cases ci;exact PySem.EqNone.eq_str_none (eN I q (by simp))
  |bl j=>cases ci;exact PySem.EqMixed.eq_str_bool (eN I q (by simp))
  |int j=>obtain⟨t',rfl⟩:=ci;exact PySem.EqMixed.eq_str_int (eN I q (by simp))
  |str j=>obtain⟨t',rfl⟩:=ci;exact eq_str (eN I q ZhV)
  |_=>exact absurd (show false=true from hs) qai
 |byt i=>
  obtain⟨t,rfl⟩:=bZ;cases y with
  |byt j=>obtain⟨t',rfl⟩:=ci;exact PySem.W.eq_bytes (eN I q ZhO)
  |_=>exact absurd (show false=true from hs) qai
 |_=>cases y<;>exact absurd (show false=true from hs) qai
theorem FS:OpR X (compareOp .NotEq) rNe:=by
 intro a' s af H x y v u Q I bZ ci h;obtain⟨hs,q⟩:=h;cases x with
 |non=>
  cases bZ;cases y with
  |non=>cases ci;exact PySem.EqNone.ne_none_none (eN I q (by simp))
  |bl j=>cases ci;exact PySem.EqNone.ne_none_bool (eN I q (by simp))
  |int j=>obtain⟨t',rfl⟩:=ci;exact PySem.EqNone.ne_none_int (eN I q (by simp))
  |str j=>obtain⟨t',rfl⟩:=ci;exact PySem.EqNone.ne_none_str (eN I q (by simp))
  |_=>exact absurd (show false=true from hs) qai
 |bl i=>
  cases bZ;cases y with
  |non=>cases ci;exact PySem.EqNone.ne_bool_none (eN I q (by simp))
  |bl j=>cases ci;exact ne_bool (eN I q (congrArg not ZjC))
  |str j=>obtain⟨t',rfl⟩:=ci;exact PySem.EqMixed.ne_bool_str (eN I q (by simp))
  |_=>exact absurd (show false=true from hs) qai
 |int i=>
  obtain⟨t,rfl⟩:=bZ;cases y with
  |non=>cases ci;exact PySem.EqNone.ne_int_none (eN I q (by simp))
  |int j=>obtain⟨t',rfl⟩:=ci;exact ne_int (eN I q (congrArg not ZhA))
  |str j=>obtain⟨t',rfl⟩:=ci;exact PySem.EqMixed.ne_int_str (eN I q (by simp))
  |_=>exact absurd (show false=true from hs) qai
 |str i=>
  obtain⟨t,rfl⟩:=bZ;cases y with
  |non=>cases ci;exact PySem.EqNone.ne_str_none (eN I q (by simp))
  |bl j=>cases ci;exact PySem.EqMixed.ne_str_bool (eN I q (by simp))
  |int j=>obtain⟨t',rfl⟩:=ci;exact PySem.EqMixed.ne_str_int (eN I q (by simp))
  |str j=>obtain⟨t',rfl⟩:=ci;exact ne_str (eN I q (congrArg not ZhV))
  |_=>exact absurd (show false=true from hs) qai
 |byt i=>
  obtain⟨t,rfl⟩:=bZ;cases y with
  |byt j=>obtain⟨t',rfl⟩:=ci;exact PySem.W.ne_bytes (eN I q (congrArg not ZhO))
  |_=>exact absurd (show false=true from hs) qai
 |_=>cases y<;>exact absurd (show false=true from hs) qai
theorem qX:OpR X (compareOp .Lt) (rI0 λi j=> .bl (decide (i<j))):=Zld λ_ _ _ _ _ _ _ q=>lt_int q
theorem nG:OpR X (compareOp .Gt) (rI0 λi j=> .bl (decide (j<i))):=Zld λ_ _ _ _ _ _ _ q=>gt_int q
theorem o4:OpR X (compareOp .GtE) (rI0 λi j=> .bl (decide (j≤i))):=Zld λ_ _ _ _ _ _ _ q=>ge_int q
theorem yp:OpR X (compareOp .Is) (λx y H Q=>y= .non∧Q (.bl (decide (x= .non))) H):=by
 intro a' s af H x y v u Q I bZ ci h;obtain⟨rfl,q⟩:=h;cases ci;refine is_none_gen (eN I q ?_);cases x<;>first
  |(cases bZ;rfl)
  |(obtain⟨t,rfl⟩:=bZ;rfl)
theorem FT:OpR X (compareOp .IsNot) (λx y H Q=>y= .non∧Q (.bl (!decide (x= .non))) H):=by
 intro a' s af H x y v u Q I bZ ci h;obtain⟨rfl,q⟩:=h;cases ci;refine isnot_none_gen (eN I q ?_);cases x<;>first
  |(cases bZ;rfl)
  |(obtain⟨t,rfl⟩:=bZ;rfl)
theorem OpR.or{f:Value→Value→Sem Value}{r c6:R2}(h:OpR X f r)(h':OpR X f c6):OpR X f (λx y H Q=>r x y H Q∨c6 x y H Q):=by
 intro a' s af H x y v u Q I bZ ci q;rcases q with q|q
 ·exact h a' s af H x y v u Q I bZ ci q
 ·exact h' a' s af H x y v u Q I bZ ci q
theorem dM(b:Expr){op:CmpOp}(h:op≠ .In:=by decide)(bp:op≠ .NotIn:=by decide):behindInMarks op b=false:=by
 have bG:(op==CmpOp.In)=false:=by cases op<;>first|rfl|exact absurd rfl h
 have bK:(op==CmpOp.NotIn)=false:=by cases op<;>first|rfl|exact absurd rfl bp
 cases b<;>simp[behindInMarks,bG,bK]
theorem nH{op:CmpOp}{r:R2}(bI:OpR X (compareOp op) r)(bF:PE X a bX)(a_:PE X b cP)(bA:behindInMarks op b=false):PE X (.Compare a [op] [b] pos) (tOp r bX cP):=by
 intro a' s af H Q I h;exact wpAny_Compare1 (tD bF a_ I h λv u bU x y bv cF bZ ci q=>bI a' bU af bv x y v u Q cF bZ ci q) bA
noncomputable def yq (t:TE):TT:=λaf H Q=>t af H λx ae=>∃k,x= .bl k∧Q k ae
theorem dg{op:CmpOp}{r:R2}(bI:OpR X (compareOp op) r)(bF:PE X a bX)(a_:PE X b cP)(bA:behindInMarks op b=false):PT X (.Compare a [op] [b] pos) (yq (tOp r bX cP)):=by
 intro a' s af H Q I h;refine wpAny_isTrue_Compare1 (thn (bF a' s af H _ I h) λv bw ⟨x,bn,bM,cm,cg⟩=>thn (a_ a' bw af bn _ bM cg) λu bU ⟨y,bv,cF,cY,c7⟩=>
  thn (bI a' bU af bv x y v u _ cF cm cY c7) λc bS ⟨z,b9,dE,gV,k,e,fv⟩=>?_) bA
 subst e;cases gV;exact wpAny_truthy_bool ⟨b9,dE,fv⟩
noncomputable def yr (r c6:R2) (bX cP dq:TE):TE:=λaf H Q=>bX af H λx bn=>cP af bn λy bv=>r x y bv λz b9=>∃k,z= .bl k∧
 (if k=true then dq af b9 λd3 b7=>c6 y d3 b7 Q else Q (.bl false) b9)
theorem FU{op tE:CmpOp}{r c6:R2}(bI:OpR X (compareOp op) r)(kn:OpR X (compareOp tE) c6)(bF:PE X a bX)(a_:PE X b cP)(bu:PE X c dq)
  (bA:lastMarks [op,tE] [b,c]=false:=by with_unfolding_all rfl):PE X (.Compare a [op,tE] [b,c] pos) (yr r c6 bX cP dq):=by
 intro a' s af H Q I h;refine Compare_chain (thn (bF a' s af H _ I h) λv bw ⟨x,bn,bM,cm,cg⟩=>chain_link (thn (a_ a' bw af bn _ bM cg) λu bU ⟨y,bv,cF,cY,c7⟩=>
  thn (bI a' bU af bv x y v u _ cF cm cY c7) λd bS ⟨z,b9,dE,gV,k,e,fv⟩=>?_)) bA
 subst e;cases gV;refine wpAny_truthy_bool ?_;cases k with
 |false=>exact ite_ff ⟨.bl false,b9,dE,rfl,fv⟩
 |true=>exact ite_tt (chain_last (thn (bu a' bS af b9 _ dE fv) λd3 ca ⟨f7,b7,ky,h9,mm⟩=>kn a' ca af b7 y f7 u d3 Q ky cY h9 mm))
def o5(K:Frag)(x:V)(H:Hp)(k:Bool):Prop:=
 match x with
 | .non=>k=false
 | .bl b=>k=b
 | .int i=>k=(i != 0)
 | .str y=>y.length≤sizeLine∧k=((y.length:Int) != 0)
 | .byt y=>y.size≤sizeLine∧k=((y.size:Int) != 0)
 | .ref p=>(∃xs,SqL K H p xs∧k= !xs.isEmpty)∨(∃xs,SqT K H p xs∧k= !xs.isEmpty)∨∃kvs,H p=some (.dK kvs)∧k= !kvs.isEmpty
 |_=>False
theorem ZiR{dD:Type}{kvs:List (dD×V)}{vs:List (dD×Value)}(r:KV kvs vs):(!vs.isEmpty)= !kvs.isEmpty:=by
 cases r<;>rfl
theorem Zd0{xs:List V}{its:List Value}(r:cL xs its):(!its.toArray.isEmpty)= !xs.isEmpty:=by
 cases r<;>simp
theorem kD:(sizeLine:Nat)<2 ^ 63:=by rw[sizeLine_eq];decide
theorem FV:ZoI X (λx H Q=>∃k,o5 X.K x H k∧Q k H):=by
 intro a' s af H x v Q I bZ h;obtain⟨k,e,q⟩:=h;have aj:=kD;have hs:sizeLine=16777216:=sizeLine_eq;cases x with
 |non=>
  cases bZ;have cf:k=false:=e;subst cf;exact truthy_none ⟨H,I,q⟩
 |bl b=>
  cases bZ;have cf:k=b:=e;subst cf;exact wpAny_truthy_bool ⟨H,I,q⟩
 |int i=>
  obtain⟨t,rfl⟩:=bZ;have cf:k=(i != 0):=e;subst cf;exact PySem.P.truthy_int ⟨H,I,q⟩
 |str y=>
  obtain⟨t,rfl⟩:=bZ;obtain⟨bR,cf⟩:y.length≤sizeLine∧k=((y.length:Int) != 0):=e;subst cf;exact PySem.P.truthy_str (by omega) ⟨H,I.tok _,q⟩
 |byt y=>
  obtain⟨t,rfl⟩:=bZ;obtain⟨bR,cf⟩:y.size≤sizeLine∧k=((y.size:Int) != 0):=e;subst cf;exact PySem.W.truthy_bytes (by omega) ⟨H,I.tok _,q⟩
 |ref p=>
  cases bZ;have cf:(∃xs,SqL X.K H p xs∧k= !xs.isEmpty)∨(∃xs,SqT X.K H p xs∧k= !xs.isEmpty)∨∃kvs,H p=some (.dK kvs)∧k= !kvs.isEmpty:=e;rcases cf with⟨xs,bo,cf⟩|⟨xs,bo,cf⟩|⟨kvs,bo,cf⟩
  ·subst cf;obtain⟨its,r,pl,hz⟩:=I.list bo;have eg:=r.length;exact wpAny_truthy_list pl.isList (by simp only[qaf];omega) ⟨H,I.tok _,by rw[Zd0 r];exact q⟩
  ·subst cf;obtain⟨its,r,pl,hz⟩:=I.tuple bo;have eg:=r.length;exact truthy_tuple pl (by simp only[qaf];omega) ⟨H,I.tok _,by rw[Zd0 r];exact q⟩
  ·subst cf;obtain⟨hz,di,vs,r,m⟩:kvs.length≤sizeLine∧(p==sysModules)=false∧∃vs,KV kvs vs∧s.heap.DictOf (ec X.prog X.w) p vs:=I.hok p _ bo;have eg:kvs.length=vs.length:=Paired.length r;exact wpAny_truthy_dict di m (by omega) ⟨H,I.tok _,by rw[ZiR r];exact q⟩
 |_=>exact(show False from e).elim
theorem ZkH(bF:PE X a bX)(bL:∀mh,isTrue a X.env mh=(do let v←mh;standAt a.pos;holding [v] (truthy v))):
  PT X a (λaf H Q=>bX af H λx ae=>∃k,o5 X.K x ae k∧Q k ae):=by
 intro a' s af H Q I h;exact isTrue_plain (thn (bF a' s af H _ I h) λv bw ⟨x,bn,bM,cm,cg⟩=>FV a' bw af bn x v Q bM cm cg) (bL _)
theorem FW:OpR X (binaryOp .Add) (λx y H Q=>∃i j,x= .str i∧y= .str j∧i.length+j.length≤sizeLine∧Q (.str (i++j)) H):=by
 intro a' s af H x y v u Q I bZ ci h;obtain⟨i,j,rfl,rfl,hz,q⟩:=h;obtain⟨t,rfl⟩:=bZ;obtain⟨t',rfl⟩:=ci;exact add_str (λt' bY=>⟨.str (i++j),H,I.tok _,⟨_,rfl⟩,q⟩) hz
theorem Wr{x:V}{us:List Value}(r:cL [x] us):∃u,us=[u]∧cE x u:=by
 cases r with
 |cons cm cY=>cases cY;exact⟨_,rfl,cm⟩
theorem ZlB{x y:V}{us:List Value}(r:cL [x,y] us):∃u d3,us=[u,d3]∧cE x u∧cE y d3:=by
 cases r with
 |cons cm cY=>
  cases cY with
  |cons gV h9=>cases h9;exact⟨_,_,rfl,cm,gV⟩
theorem FX(bu:X.calm=true):YW X (.builtin "min") (λxs H Q=>∃i j,xs=[.int i,.int j]∧Q (.int (if j<i then j else i)) H):=by
 intro a' s af H xs us Q I r h;obtain⟨i,j,rfl,q⟩:=h;obtain⟨u,d3,rfl,⟨t,rfl⟩,⟨t',rfl⟩⟩:=ZlB r;refine min_two_ints (I.ok.hd bu) λh' bY k=>⟨_,H,I.kept k,?_,q⟩
 by_cases bC:j<i
 ·rw[if_pos bC,if_pos bC];exact⟨_,rfl⟩
 ·rw[if_neg bC,if_neg bC];exact⟨_,rfl⟩
def ZaW(K:Frag)(x:V)(H:Hp)(n:Nat):Prop:=
 match x with
 | .str y=>y.length≤sizeLine∧n=y.length
 | .byt y=>y.size≤sizeLine∧n=y.size
 | .ref p=>(∃xs,SqL K H p xs∧n=xs.length)∨∃xs,SqT K H p xs∧n=xs.length
 |_=>False
theorem FY:YW X (.builtin "len") (λxs H Q=>∃x n,xs=[x]∧ZaW X.K x H n∧Q (.int n) H):=by
 intro a' s af H xs us Q I r h;obtain⟨x,n,rfl,e,q⟩:=h;obtain⟨u,rfl,bZ⟩:=Wr r;have aj:=kD;have hs:sizeLine=16777216:=sizeLine_eq;cases x with
 |str y=>
  obtain⟨t,rfl⟩:=bZ;obtain⟨bR,cf⟩:y.length≤sizeLine∧n=y.length:=e;subst cf;exact len_str (by omega) ⟨.int _,H,I.tok _,⟨_,rfl⟩,q⟩
 |byt y=>
  obtain⟨t,rfl⟩:=bZ;obtain⟨bR,cf⟩:y.size≤sizeLine∧n=y.size:=e;subst cf;exact PySem.W.len_bytes (by omega) ⟨.int _,H,I.tok _,⟨_,rfl⟩,q⟩
 |ref p=>
  cases bZ;have cf:(∃xs,SqL X.K H p xs∧n=xs.length)∨∃xs,SqT X.K H p xs∧n=xs.length:=e;rcases cf with⟨xs,bo,cf⟩|⟨xs,bo,cf⟩
  ·subst cf;obtain⟨its,c6,pl,hz⟩:=I.list bo;have eg:=c6.length;exact Calls.call_len_list pl.isList (by simp only[qaf];omega) ⟨.int xs.length,H,I.tok _,⟨_,by simp only[qaf];rw[eg]⟩,q⟩
  ·subst cf;obtain⟨its,c6,pl,hz⟩:=I.tuple bo;have eg:=c6.length;exact len_tuple pl (by simp only[qaf];omega) ⟨.int xs.length,H,I.tok _,⟨_,by simp only[qaf];rw[eg]⟩,q⟩
 |_=>exact(show False from e).elim
end
structure mq(h:Heap)(x bx C:Addr)(d1:Str→Option Value):Prop where
 obj:h.get? x=some (instObj C bx)
 ns:h.Ns1 bx d1
 ne:bx≠x
theorem ZjW{h:Heap}{bx:Addr}{d1:Str→Option Value}(n:h.Ns1 bx d1):∃d2,h.get? bx=some d2∧∀name,lookIn name d2=some (d1 name):=by
 obtain⟨o,bE,ep,bI,hd,bt,_,bA⟩:=n;refine⟨o,bI,λname=>?_⟩;have e:=bA name;unfold nsFind findBy at e;rw[←Array.find?_toList] at e;unfold lookIn;rw[hd];dsimp only
 split
 ·rename_i y q;rw[q] at e;exact congrArg some e
 ·rename_i q;rw[q] at e;have a:bE.toList.any (·.refKey)=false:=by
   rw[List.any_eq_false];intro y bR;obtain⟨z,t,o6⟩:=bt y (Array.mem_toList_iff.mp bR);simp[DictEntry.refKey,o6]
  have dA:¬bE.toList.any (·.refKey)=true:=by rw[a];exact qai
  rw[if_neg dA];exact congrArg some e
theorem mq.look{h:Heap}{x bx C:Addr}{d1:Str→Option Value}(I:mq h x bx C d1):∃d2,PySem.W.InstAt h x (instObj C bx) C (some d2)∧∀name,lookIn name d2=some (d1 name):=
 let⟨d2,bI,aj⟩:=ZjW I.ns
 ⟨d2,⟨I.obj,rfl,rfl,bI⟩,aj⟩
section
variable {prog:Program}{w:World}{A:Around}{E:Value→Shared→Prop}{s:Shared}{K:Frag}{x bx C f:Addr}{d1:Str→Option Value}{name:Str}{v:Value}
theorem Zl7{FZ:Bool}{Q:Value→Shared→Prop}(X:K.In s.heap)(I:mq s.heap x bx C d1)(bH:plainGet K C name=true)(b6:hasDictIn K C=true)
  (bF:findIn K (.ref C) name=some none) (b_:d1 name=some v) (hS:handedIn v=true) (h:Q v {s with toks:=s.toks+1}):
  wpAny (model prog w) A (getAttr (.ref x) name FZ) Q E s:=by
 obtain⟨d2,J,aj⟩:=I.look;exact PySem.W.get_value X J (plainGet_of bH).1 (PySem.W.findObj_own b6 bF rfl (by rw[aj,b_])) hS h
theorem Zkg{pl:Sem Bool}{Q:Value×List Value→Shared→Prop}(X:K.In s.heap)(I:mq s.heap x bx C d1)(bH:plainGet K C name=true)
  (bJ:findIn K (.ref C) name=some (some (.ref f))) (b3:isFn K (.ref f)=true) (b_:d1 name=none) (h:Q (.ref f,[.ref x]) s):
  wpAny (model prog w) A (getMethod (.ref x) name pl) Q E s:=by
 obtain⟨d2,J,aj⟩:=I.look;exact PySem.W.method_fn X J (plainGet_of bH).1 (plainGet_of bH).2 bJ (beq_iff_eq.mp b3) (by show(lookIn name d2).map (·.isSome)=some false;rw[aj,b_];rfl) h
theorem Zmq{ns:List Str}{Q:Unit→Shared→Prop}(X:K.In s.heap)(I:mq s.heap x bx C d1)
  (hs:findIn K (.ref C) "__setattr__" =some (some (.builtin "object.__setattr__"))) (bD:plainOver K C=true) (b3:takerIn K C name=some none) (b6:hasDictIn K C=true)
  (hw:PySem.Within d1 ns) (hsz:ns.length≤sizeLine)
  (h:∀h',mq h' x bx C (λy=>if y=name then some v else d1 y)→Heap.SameBut bx s.heap h'→Q () {s with heap:=h',toks:=s.toks+2}):
  wpAny (model prog w) A (setAttr (.ref x) name v) Q E s:=by
 obtain⟨d2,J,aj⟩:=I.look;refine PySem.W.set_plain X J hs (PySem.W.osa_open (s:={s with toks:=s.toks+1}) (r:=none) X J bD b3 λb=>?_);obtain⟨c8,bu,hr⟩:=PySem.W.any_some b6;have bo:s.heap.get? x=some ⟨.ref C,some bx,.plain,#[]⟩:=I.obj;refine wpAny_bind (wpAny_pure (wpAny_bind (wpAny_bind (wpAny_loadPart bo (wpAny_bind (Looks.here (s:={s with toks:=s.toks+1}) (PySem.W.looks_clsIn X bu) ?_))))));rw[hr];refine wpAny_pure (a:=some bx) (wpAny_bind (wpAny_pure (wpAny_bind ?_)));refine wpAny_nsSet1 (s:={s with toks:=s.toks+1}) I.ns λh' ia gX=>?_;obtain⟨oD,Qn,Qo,F0,F1,F2⟩:=ia.count (PySem.Within.cons name v hw);refine wpAny_bind (wpAny_lookBehind F0 (by rw[F1];exact pastItsLine_dict (qal F2 (by rw[List.length_cons];omega))) ?_);exact wpAny_pure (h _ ⟨(gX.2 _ (qbH I.ne)).trans I.obj,ia,I.ne⟩ gX)
theorem F3{R:Result→Shared→Prop}{vs:List Value}{kw:List (Str×Value)}(X:K.In s.heap)(bA:makesIn K C=true)
  (hi:findIn K (.ref C) "__init__" =some (some (.ref f))) (bJ:typeIn K (.ref f)=some (.type "function"))
  (h:codeAny (model prog w) (A.under (.builtin "type.__call__" ⟨.ref C::vs,kw⟩)) (.call (.ref f) ⟨.ref (s.heap.objs.size+1)::vs,kw⟩) (PySem.W.InitBack (s.heap.objs.size+1) R)
   {s with heap:=(s.heap.push emptyDict).push (instObj C s.heap.objs.size)}):
  codeAny (model prog w) A (.call (.ref C) ⟨vs,kw⟩) R s:=by
 obtain⟨b6,g,d,t,os⟩:=s;exact PySem.W.make_core (PySem.W.makes_of X bA) (PySem.W.looks_findIn X hi) (λself=>PySem.W.bind_fn X self bJ) (.inl rfl) h
end
noncomputable def fE (f:Str) (v:V):List (Str×V)→List (Str×V)
 | []=>[(f,v)]
 |(g,x)::r=>if g=f then(g,v)::r else(g,x)::fE f v r
theorem Zc9(f g:Str)(v:V):∀fs:List (Str×V),(fE f v fs).lookup g=if g=f then some v else fs.lookup g
 | []=>by
  show List.lookup g [(f,v)]=_
  by_cases h:g=f
  ·have a_:(g==f)=true:=beq_iff_eq.mpr h;simp only[List.lookup,a_,if_pos h]
  ·have a_:(g==f)=false:=beq_eq_false_iff_ne.mpr h;simp only[List.lookup,a_,if_neg h]
 |(k,x)::r=>by
  have bQ:=Zc9 f g v r;rw[show fE f v ((k,x)::r)=(if k=f then(k,v)::r else(k,x)::fE f v r) from rfl]
  by_cases bt:k=f
  ·rw[if_pos bt]
   by_cases h:g=k
   ·have a_:(g==k)=true:=beq_iff_eq.mpr h;simp only[List.lookup,a_,if_pos (h.trans bt)]
   ·have a_:(g==k)=false:=beq_eq_false_iff_ne.mpr h;simp only[List.lookup,a_,if_neg (λe:g=f=>h (e.trans bt.symm))]
  ·rw[if_neg bt]
   by_cases h:g=k
   ·have a_:(g==k)=true:=beq_iff_eq.mpr h;simp only[List.lookup,a_,if_neg (λe:g=f=>bt (h.symm.trans e))]
   ·have a_:(g==k)=false:=beq_eq_false_iff_ne.mpr h;simp only[List.lookup,a_];exact bQ
theorem tF(f:Str)(v:V):∀fs:List (Str×V),f∈(fE f v fs).map (·.1)∧∀g,g∈fs.map (·.1)→g∈(fE f v fs).map (·.1)
 | []=>⟨by simp[fE],λg h=>by simp at h⟩
 |(k,x)::r=>by
  obtain⟨dx,eh⟩:=tF f v r;rw[show fE f v ((k,x)::r)=(if k=f then(k,v)::r else(k,x)::fE f v r) from rfl]
  by_cases bt:k=f
  ·rw[if_pos bt];subst bt;exact⟨by simp,λg h=>by simpa using h⟩
  ·rw[if_neg bt];refine⟨?_,λg h=>?_⟩
   ·rw[List.map_cons];exact qaq _ dx
   ·rw[List.map_cons] at h⊢;rcases qae.mp h with e|e
    ·exact qae.mpr (.inl e)
    ·exact qaq _ (eh g e)
theorem ZcI(f:Str)(v:V):∀fs:List (Str×V),(fE f v fs).length≤fs.length+1
 | []=>by simp[fE]
 |(k,x)::r=>by
  have bQ:=ZcI f v r;rw[show fE f v ((k,x)::r)=(if k=f then(k,v)::r else(k,x)::fE f v r) from rfl]
  by_cases bt:k=f
  ·rw[if_pos bt,List.length_cons,List.length_cons];omega
  ·rw[if_neg bt,List.length_cons,List.length_cons];omega
theorem gU.some_of{v:V}{o:Option Value}(r:gU (some v) o):∃u,o=some u∧cE v u:=by
 cases o with
 |none=>exact(show False from r).elim
 |some u=>exact⟨u,rfl,r⟩
theorem gU.none_of{o:Option Value}(r:gU none o):o=none:=by
 cases o with
 |none=>rfl
 |some u=>exact(show False from r).elim
theorem F4{v:V}{u:Value}(r:cE v u):handedIn u=true:=by
 cases v with
 |non=>cases (show u=Value.none from r);rfl
 |bl b=>cases (show u=Value.bool b from r);rfl
 |int i=>obtain⟨t,e⟩:=(show ∃t,u=Value.int i t from r);cases e;rfl
 |str x=>obtain⟨t,e⟩:=(show ∃t,u=Value.str x t from r);cases e;rfl
 |byt b=>obtain⟨t,e⟩:=(show ∃t,u=Value.bytes b t from r);cases e;rfl
 |flt b=>obtain⟨t,e⟩:=(show ∃t,u=Value.float b t from r);cases e;rfl
 |ref a=>cases (show u=Value.ref a from r);rfl
 |ty n=>cases (show u=Value.type n from r);rfl
section
variable {P:Program}{w:World}{H ae:Hp}{h h':Heap}{a C bx:Addr}{fs qR:List (Str×V)}
theorem Zcx(hok:HOk P w H h)(e:H a=some (.ins C bx fs)):∃d1,mq h a bx C d1∧(∀f,gU (fs.lookup f) (d1 f))∧PySem.Within d1 (fs.map (·.1))∧fs.length≤1000∧H bx=some (.own a):=by
 obtain⟨d,z,ne,cT,d1,n,r,q⟩:=(show Z0 P w H h a (.ins C bx fs) from hok a _ e);exact⟨d1,⟨cT,n,ne⟩,r,q,z,d⟩
end
structure Cls(K:Frag)(C:Addr):Prop where
 pg:plainGet K C Str.empty=true
 hd:hasDictIn K C=true
 po:plainOver K C=true
 sa:findIn K (.ref C) "__setattr__" =some (some (.builtin "object.__setattr__"))
theorem Cls.get{K:Frag}{C:Addr}(c:Cls K C)(f:Str):plainGet K C f=true:=c.pg
def ib(K:Frag)(C:Addr)(f:Str):Prop:=findIn K (.ref C) f=some none
theorem ib.taker{K:Frag}{C:Addr}{f:Str}(n:ib K C f):takerIn K C f=some none:=by
 unfold takerIn;rw[show findIn K (.ref C) f=some none from n]
 rfl
structure ZeG(K:Frag)(C:Addr)(m:Str)(f:Addr):Prop where
 at_:findIn K (.ref C) m=some (some (.ref f))
 fn:isFn K (.ref f)=true
 kp:keepIn K (.ref f)=true
section
variable {X:Cx}{a':List (Addr×Obj)}{af:St}{H:Hp}{s:Shared}{a C bx:Addr}{fs:List (Str×V)}{f:Str}{v:V}{A:Around}{E:Value→Shared→Prop}
theorem Zi0{b:Bool}{Q:Value→Shared→Prop}(I:Inv X a' af H s)(e:H a=some (.ins C bx fs))(c:Cls X.K C)(n:ib X.K C f)(l:fs.lookup f=some v)
  (h:∀u bz,Inv X a' af H bz→cE v u→Q u bz):wpAny (model X.prog X.w) A (getAttr (.ref a) f b) Q E s:=by
 obtain⟨d1,O,r,_,_,_⟩:=Zcx I.hok e;obtain⟨u,hu,d_⟩:=gU.some_of (v:=v) (o:=d1 f) (by rw[←l];exact r f);exact Zl7 I.kIn O (c.get f) c.hd n hu (F4 d_) (h u _ (I.tok _) d_)
theorem Za4{m:Str}{g:Addr}{pl:Sem Bool}{Q:Value×List Value→Shared→Prop}(I:Inv X a' af H s)(e:H a=some (.ins C bx fs))(c:Cls X.K C)(k:ZeG X.K C m g)(l:fs.lookup m=none)
  (h:Q (.ref g,[.ref a]) s):wpAny (model X.prog X.w) A (getMethod (.ref a) m pl) Q E s:=by
 obtain⟨d1,O,r,_,_,_⟩:=Zcx I.hok e;have bO:d1 m=none:=gU.none_of (by rw[←l];exact r m);exact Zkg I.kIn O (c.get m) k.at_ k.fn bO h
theorem Zi3{y:V}{u:Value}{Q:Unit→Shared→Prop}(I:Inv X a' af H s)(e:H a=some (.ins C bx fs))(c:Cls X.K C)(n:ib X.K C f)(aj:fs.length<1000)(ci:cE y u)
  (h:∀bz,Inv X a' af (upd H a (.ins C bx (fE f y fs))) bz→Q () bz):wpAny (model X.prog X.w) A (setAttr (.ref a) f u) Q E s:=by
 obtain⟨d1,O,r,eA,_,bI⟩:=Zcx I.hok e;have hz:(fs.map (·.1)).length≤sizeLine:=by rw[GE,sizeLine_eq];omega
 refine Zmq I.kIn O c.sa c.po n.taker c.hd eA hz λh' O' hP=>h _ ?_;have hd:∃o,h'.get? bx=some o:=let⟨o,_,_,cf,_⟩:=O'.ns;⟨o,cf⟩
 refine I.write (x:=a) (e:=bx) (by rw[e];exact True.intro) (.inr bI) (λb q a_ z=>(hP.2 b a_).trans z) hd ?_;refine⟨by rw[b5 O.ne];exact bI,?_,O.ne,O'.obj,_,O'.ns,λg=>?_,λg bH=>?_⟩
 ·have:=ZcI f y fs;omega
 ·show gU ((fE f y fs).lookup g) (if g=f then some u else d1 g);rw[Zc9]
  by_cases q:g=f
  ·rw[if_pos q,if_pos q];exact ci
  ·rw[if_neg q,if_neg q];exact r g
 ·by_cases q:g=f
  ·rw[q];exact(tF f y fs).1
  ·refine(tF f y fs).2 g (eA g λz=>bH ?_);show(if g=f then some u else d1 g)=none;rw[if_neg q];exact z
theorem Inv.made(I:Inv X a' af H s):Inv X a' af (upd (upd H s.heap.objs.size (.own (s.heap.objs.size+1))) (s.heap.objs.size+1) (.ins C s.heap.objs.size []))
  {s with heap:=(s.heap.push emptyDict).push (instObj C s.heap.objs.size)}:=by
 have bG:(s.heap.push emptyDict).get? s.heap.objs.size=some emptyDict:=Heap.get?_push_size s.heap rfl;have bK:((s.heap.push emptyDict).push (instObj C s.heap.objs.size)).get? (s.heap.objs.size+1)=some (instObj C s.heap.objs.size):=by
  have:=Heap.get?_push_size (s.heap.push emptyDict) (o:=instObj C s.heap.objs.size) rfl
  rwa [Heap.size_push] at this
 have de:(s.heap.push emptyDict).Ns s.heap.objs.size (λ_=>none):=⟨emptyDict,#[],_,bG,rfl,(λe bL=>absurd bL (by simp)),λ_=>rfl⟩;have bM:=I.laid (a:=s.heap.objs.size) (o:= .own (s.heap.objs.size+1)) (h':=s.heap.push emptyDict) (t':=s.toks) (λb u q=>Heap.get?_push_of_some _ q) (qaa _) ⟨_,bG⟩;refine bM.laid (a:=s.heap.objs.size+1) (o:= .ins C s.heap.objs.size []) (t':=s.toks) (λb u q=>Heap.get?_push_of_some _ q) (Nat.le_of_eq (Heap.size_push _ _)) ?_;have ne:s.heap.objs.size≠s.heap.objs.size+1:=qak (qbE _);refine⟨by rw[b5 ne,Zd],qau _,ne,bK,λ_=>none,(Heap.Ns1.of_empty de).at λo q=>Heap.get?_push_of_some _ q,λ_=>True.intro,λy bR=>absurd rfl bR⟩
theorem Zms{prog:Program}{w:World}{env:Env}{e:Expr}{f:Str}{pos:Pos}{s:Shared}{Q:Value→Shared→Prop}(a_:attributeBase e f env (eval e env)=eval e env)
  (h:wpAny (model prog w) A (eval e env) (λo dn=>wpAny (model prog w) A (getAttr o f true) Q E dn) E s):wpAny (model prog w) A (eval (.Attribute e f pos) env) Q E s:=
 Attribute_any_ h (by rw[arm_eval_Attribute,a_])
end
noncomputable def tG (K:Frag) (bX:TE) (f:Str):TE:=λaf H Q=>bX af H λx bn=>∃a C bx fs v,x= .ref a∧bn a=some (.ins C bx fs)∧Cls K C∧ib K C f∧fs.lookup f=some v∧Q v bn
noncomputable def tH (K:Frag) (bX hy:TE) (f:Str):TS:=λD af H=>hy af H λy bn=>bX af bn λx bv=>∃a C bx fs,x= .ref a∧bv a=some (.ins C bx fs)∧Cls K C∧ib K C f∧fs.length<1000∧
 D.nx af (upd bv a (.ins C bx (fE f y fs)))
section
variable {X:Cx}{o e value:Expr}{f:Str}{pos jl kx:Pos}{bX hy:TE}
theorem Znb(bL:PE X e bX)(a_:attributeBase e f X.env (eval e X.env)=eval e X.env):PE X (.Attribute e f pos) (tG X.K bX f):=by
 intro a' s af H Q I h;refine Zms a_ (thn (bL a' s af H _ I h) λu bw ⟨x,bn,bM,bZ,a,C,bx,fs,v,ex,dH,c,n,l,q⟩=>?_);subst ex;obtain rfl:u=Value.ref a:=bZ;exact Zi0 bM dH c n l λjO bU cF d_=>⟨v,bn,cF,d_,q⟩
theorem ZnP(bF:PE X o bX)(b_:PE X value hy)(hs:swapsWith value (some (.Attribute o f jl)) pos.line X.env=pure false):PS X (.Assign [.Attribute o f jl] value pos) (tH X.K bX hy f):=by
 intro a' s af H D I h;refine plainObj_wpAny_Assign_Attribute (thn (b_ a' s af H _ I h) λu bw ⟨y,bn,bM,ci,q⟩=>thn (bF a' bw af bn _ bM q) λds bU ⟨x,bv,cF,bZ,a,C,bx,fs,ex,dH,c,n,l,c7⟩=>?_) hs;subst ex;obtain rfl:ds=Value.ref a:=bZ;exact Zi3 cF dH c n l ci λbS dE=>⟨af,_,dE,c7⟩
theorem ZnU{pl:Sem Bool}{m:Str}{dv:Pos}{args:List Expr}{a':List (Addr×Obj)}{s:Shared}{af:St}{H:Hp}{Q:Value→Shared→Prop}{cA:TE}(bL:PE X e cA)(I:Inv X a' af H s)
  (h:cA af H λx bn=>∃a C bx fs g,x= .ref a∧bn a=some (.ins C bx fs)∧Cls X.K C∧ZeG X.K C m g∧fs.lookup m=none∧
   ∀bw,Inv X a' af bn bw→wpAny (model X.prog X.w) X.A (callWith pos (.ref g) [.ref a] (backTo pos (starEach args X.env)) (backToKw pos (keywordEach [] X.env))) Q X.xe bw)
  (b3:eval (.Call (.Attribute e m dv) args [] pos) X.env=(do
   let ds←eval e X.env
   standAt dv.atName
   let(f,first)←holding [ds] (getMethod ds m pl)
   callWith pos f first (backTo pos (starEach args X.env)) (backToKw pos (keywordEach [] X.env)))):
  wpAny (model X.prog X.w) X.A (eval (.Call (.Attribute e m dv) args [] pos) X.env) Q X.xe s:=by
 refine methodCall_KW (pl:=pl) (thn (bL a' s af H _ I h) λu bw ⟨x,bn,bM,bZ,a,C,bx,fs,g,ex,dH,c,k,l,q⟩=>?_) b3;subst ex;obtain rfl:u=Value.ref a:=bZ;exact Za4 bM dH c k l (q bw bM)
end
section
variable {X:Cx}{a':List (Addr×Obj)}{af:St}{H:Hp}{s:Shared}{A:Around}{E:Value→Shared→Prop}{Q:Value→Shared→Prop}{c:Value}{b:Bool}
inductive Wq(K:Frag)(H:Hp):V→Value→Prop where
 |non:Wq K H .non (.type "NoneType")
 |bl (x:Bool):Wq K H (.bl x) (.type "bool")
 |int (i:Int):Wq K H (.int i) (.type "int")
 |str (x:Str):Wq K H (.str x) (.type "str")
 |flt (x:UInt64):Wq K H (.flt x) (.type "float")
 |lst {a:Addr} {xs:List V} (e:H a=some (.lst xs)):Wq K H (.ref a) (.type "list")
 |frz {a:Addr} {o:Obj} {xs:List V} (e:H a=some (.frz o (.lst xs))):Wq K H (.ref a) (.type "list")
 |tup {a:Addr} {xs:List V} (e:H a=some (.tup xs)):Wq K H (.ref a) (.type "tuple")
 |dK {a:Addr} {kvs:List (Key×V)} (e:H a=some (.dK kvs)):Wq K H (.ref a) (.type "dict")
 |dT {a:Addr} {kvs:List (List Key×V)} (e:H a=some (.dT kvs)):Wq K H (.ref a) (.type "dict")
 |ins {a C bx:Addr} {fs:List (Str×V)} (e:H a=some (.ins C bx fs)) (ck:Cls K C) (bF:findIn K (.ref C) "__class__" =some (some (.builtin "object.__class__")))
   (bO:PySem.W.specialIn K (.builtin "object.__class__") "__get__" =some (some (.builtin "getset_descriptor.__get__"))) (gA:PySem.W.takesIn K (.builtin "object.__class__")=some true)
   (bA:mroIn K C (.type "object")=some true):Wq K H (.ref a) (.ref C)
theorem Zj4{x:V}{u t:Value}(I:Inv X a' af H s)(bZ:cE x u)(ty:Wq X.K H x t)(e:kitOne X.K t c=some b)(h:∀bY,Q (.bool b) {s with toks:=bY}):
  wpAny (model X.prog X.w) A (call (.builtin "isinstance") [u,c]) Q E s:=by
 cases ty with
 |non=>cases (show u=Value.none from bZ);exact kia_one PySem.W.kitx_none I.kIn True.intro e (λz=>nomatch z) h
 |bl y=>cases (show u=Value.bool y from bZ);exact kia_one PySem.W.kitx_bool I.kIn True.intro e (λz=>nomatch z) h
 |int i=>obtain⟨t,q⟩:=(show ∃t,u=Value.int i t from bZ);cases q;exact kia_one PySem.W.kitx_int I.kIn True.intro e (λz=>nomatch z) h
 |str y=>obtain⟨t,q⟩:=(show ∃t,u=Value.str y t from bZ);cases q;exact kia_one PySem.W.kitx_str I.kIn True.intro e (λz=>nomatch z) h
 |flt y=>obtain⟨t,q⟩:=(show ∃t,u=Value.float y t from bZ);cases q;exact kia_one PySem.W.kitx_float I.kIn True.intro e (λz=>nomatch z) h
 | @lst a xs dH=>
  cases (show u=Value.ref a from bZ);obtain⟨_,_,n,_,bj⟩:=(show Z0 X.prog X.w H s.heap a (.lst xs) from I.hok a _ dH);exact kia_one kitx_list I.kIn ⟨_,bj,rfl⟩ e (λz=>nomatch z) h
 | @frz a cT xs dH=>
  cases (show u=Value.ref a from bZ);obtain⟨_,_,_,n,_,bj⟩:=(show Z0 X.prog X.w H s.heap a (.frz cT (.lst xs)) from I.hok a _ dH);exact kia_one kitx_list I.kIn ⟨_,bj,rfl⟩ e (λz=>nomatch z) h
 | @tup a xs dH=>
  cases (show u=Value.ref a from bZ);obtain⟨_,_,_,p⟩:=(show Z0 X.prog X.w H s.heap a (.tup xs) from I.hok a _ dH);obtain⟨o,bj,bp,_⟩:=p;exact kia_one PySem.W.kitx_tuple I.kIn ⟨o,bj,bp⟩ e (λz=>nomatch z) h
 | @dK a kvs dH=>
  cases (show u=Value.ref a from bZ);obtain⟨_,_,vs,_,p⟩:=(show Z0 X.prog X.w H s.heap a (.dK kvs) from I.hok a _ dH);obtain⟨o,bE,ep,bj,bp,_⟩:=p;exact kia_one kitx_dict I.kIn ⟨o,bj,bp.1⟩ e (λz=>nomatch z) h
 | @dT a kvs dH=>
  cases (show u=Value.ref a from bZ);obtain⟨_,_,xs,_,o,bE,ep,bj,bp,_⟩:=(show Z0 X.prog X.w H s.heap a (.dT kvs) from I.hok a _ dH);exact kia_one kitx_dict I.kIn ⟨o,bj,bp.1⟩ e (λz=>nomatch z) h
 | @ins a C bx fs dH ck bF bO gA bA=>
  cases (show u=Value.ref a from bZ);obtain⟨d1,O,_⟩:=Zcx I.hok dH;obtain⟨d2,J,_⟩:=O.look;exact kia_one (PySem.W.kitx_own (ck.get _) ck.hd bF bO gA bA) I.kIn J e (λz=>nomatch z) h
end
structure eI(k:Nat)(A:Around):Prop where
 hd:A.handled=none
 dp:A.depth+3*k+5<recursionLimit
 un:A.units+16*k+200<cLine
theorem eI.mono{j k:Nat}{A:Around}(r:eI k A)(h:j≤k):eI j A:=⟨r.hd,by have:=r.dp;omega,by have:=r.un;omega⟩
theorem eI.deeper{k:Nat}{A:Around}(r:eI (k+1) A)(env:Env):eI k (A.deeper env):=
 ⟨r.hd,by have:=r.dp;show A.depth+1+3*k+5<_;omega,by have:=r.un;show A.units+3+16*k+200<_;omega⟩
theorem ZiF{A:Around}{C:Addr}{us:List Value}{kw:List (Str×Value)}:(A.under (.builtin "type.__call__" ⟨.ref C::us,kw⟩)).depth=A.depth+1:=by
 first|rfl|simp[Around.under,Code.weight,Code.isCreation,Code.isGuard,Code.isCaller,Code.frames,Code.isFrame,guardIds]
theorem ZiB{A:Around}{C:Addr}{us:List Value}{kw:List (Str×Value)}:(A.under (.builtin "type.__call__" ⟨.ref C::us,kw⟩)).units=A.units+1:=by
 first|rfl|simp[Around.under,Code.cUnits,Code.frames,Code.isFrame]
theorem eI.make{k:Nat}{A:Around}(r:eI (k+1) A)(C:Addr)(us:List Value)(kw:List (Str×Value)):eI k (A.under (.builtin "type.__call__" ⟨.ref C::us,kw⟩)):=
 ⟨r.hd,by have:=r.dp;rw[ZiF];omega,by have:=r.un;rw[ZiB];omega⟩
theorem eI.depth{k:Nat}{A:Around}(r:eI k A):A.depth<recursionLimit:=by have:=r.dp;omega
theorem eI.units{k:Nat}{A:Around}(r:eI k A):A.units+64<cLine:=by have:=r.un;omega
noncomputable def tNil:TA:=λ_ H Q=>Q [] H
noncomputable def yt (bX:TE) (bP:TA):TA:=λaf H Q=>bX af H λx bn=>bP af bn λxs bv=>Q (x::xs) bv
section
variable {X:Cx}{e:Expr}{bE:List Expr}{cA:TE}{t:TA}{pos:Pos}
theorem bB:PA X [] tNil:=λ_ _ _ _ H Q I h=>Calls.spliced_nil ⟨[],H,I,.nil,h⟩
theorem br(bF:PE X e cA)(bq:PA X bE t)(hs:starEach (e::bE) X.env=(false,eval e X.env)::starEach bE X.env:=by rfl):PA X (e::bE) (yt cA t):=by
 intro pos a' s af H Q I h;rw[hs];show wpAny _ _ (spliced ((false,eval e X.env)::backTo pos (starEach bE X.env))) _ _ s;refine Calls.spliced_cons (thn (bF a' s af H _ I h) λu bw ⟨x,bn,bM,cm,cg⟩=>?_);exact thn (bq pos a' bw af bn _ bM cg) λus bU ⟨xs,bv,cF,cY,c7⟩=>⟨x::xs,bv,cF,.cons cm cY,c7⟩
noncomputable def yu (t:TA):TE:=λaf H Q=>t af H λxs bn=>xs.length≤sizeLine∧∀p,bn p=none→Q (.ref p) (upd bn p (.tup xs))
noncomputable def tI (t:TA):TE:=λaf H Q=>t af H λxs bn=>xs.length≤sizeLine∧∀p,bn p=none→Q (.ref p) (upd bn p (.lst xs))
theorem hA{x1}(h:PA X bE t):PE X (.Tuple bE x1 pos) (yu t):=by
 intro a' s af H Q I cv;refine wpAny_Tuple_spliced (thn (h pos a' s af H _ I cv) λus bw ⟨xs,bn,bM,r,z,q⟩=>⟨by rw[←r.length];exact z,?_⟩);have bJ:bn bw.heap.objs.size=none:=bM.hok.fresh (qaa _);refine⟨.ref bw.heap.objs.size,upd bn bw.heap.objs.size (.tup xs),bM.laid (t':=bw.toks) (λb u e=>Heap.get?_push_of_some _ e) (qaa _) ?_,rfl,q _ bJ⟩;exact⟨z,us,r,⟨_,Heap.get?_push_size _ rfl,rfl,_,rfl⟩⟩
theorem fW(h:PA X bE t):PE X (.List bE pos) (tI t):=by
 intro a' s af H Q I cv;refine wpAny_List_spliced (thn (h pos a' s af H _ I cv) λus bw ⟨xs,bn,bM,r,z,q⟩=>⟨by rw[←r.length];exact z,?_⟩);have bJ:bn bw.heap.objs.size=none:=bM.hok.fresh (qaa _);refine⟨.ref bw.heap.objs.size,upd bn bw.heap.objs.size (.lst xs),bM.laid (t':=bw.toks) (λb u e=>Heap.get?_push_of_some _ e) (qaa _) ?_,rfl,q _ bJ⟩;exact⟨z,us,0,r,Heap.get?_push_size _ rfl⟩
end
noncomputable abbrev Sp:=List V→Hp→VK→XK→Prop
noncomputable abbrev CXT:=List Env→Hp→Shared→XK→Value→Shared→Prop
structure Zdy(P:Program)(w:World)(K:Frag)(mg:Str→Option Value)(base:Heap)(A:Around)(outer:List Env)(s:Shared)(H:Hp):Prop where
 frames:A.frames=some outer
 mod:Mod K mg base
 bs:∀b o,base.get? b=some o→s.heap.get? b=some o∧H b=none
 bsz:base.objs.size≤s.heap.objs.size
 funs:s.heap.FunFrames base outer
 frf:∀b∈frs outer,H b=none
 hok:HOk P w H s.heap
 bare:AllBare s.gens
def CE(outer:List Env)(P:Program)(w:World)(H:Hp)(s:Shared)(Q:VK)(u:Value)(bz:Shared):Prop:=
 ∃v ae,bz.os=s.os∧AllBare bz.gens∧Un (frs outer) [] H ae s.heap bz.heap∧HOk P w ae bz.heap∧cE v u∧Q v ae
def CR(CX:CXT)(outer:List Env)(P:Program)(w:World)(H:Hp)(s:Shared)(Q:VK)(E:XK)(r:Result)(bz:Shared):Prop:=
 match r with
 | .ok (.ret u)=>CE outer P w H s Q u bz
 | .ok _=>False
 | .error e=>CX outer H s E e bz
structure YT(P:Program)(w:World)(K:Frag)(mg:Str→Option Value)(base:Heap)(CX:CXT)(k:Nat)(f:Addr)(fd:FuncData)(b':List Str)(sp:Sp):Prop where
 len:∀vs H Q E,sp vs H Q E→vs.length=b'.length
 run:∀(A:Around)(outer:List Env)(s:Shared)(H:Hp)(args:Args)(us:List Value)(vs:List V)(Q:VK)(E:XK),eI k A→Zdy P w K mg base A outer s H→BindsTo s fd args (b'.zip us)→cL vs us→sp vs H Q E→
  codeAny (model P w) A (.call (.ref f) args) (CR CX outer P w H s Q E) s
theorem YT.mono{P:Program}{w:World}{K:Frag}{mg:Str→Option Value}{base:Heap}{CX:CXT}{j k:Nat}{f:Addr}{fd:FuncData}{b':List Str}{sp:Sp}(F:YT P w K mg base CX j f fd b' sp)(h:j≤k):
  YT P w K mg base CX k f fd b' sp:=⟨F.len,λA outer s H args us vs Q E bq=>F.run A outer s H args us vs Q E (bq.mono h)⟩
theorem Zdy.make{P:Program}{w:World}{K:Frag}{mg:Str→Option Value}{base:Heap}{A:Around}{outer:List Env}{s:Shared}{H:Hp}(e:Zdy P w K mg base A outer s H)(C:Addr)(us:List Value)(kw:List (Str×Value)):
  Zdy P w K mg base (A.under (.builtin "type.__call__" ⟨.ref C::us,kw⟩)) outer s H:=⟨by first|exact e.frames|(simpa[Around.under,Code.envs,Code.isFrame,pushEnvs] using e.frames),e.mod,e.bs,e.bsz,e.funs,e.frf,e.hok,e.bare⟩
section
variable {X:Cx}{a':List (Addr×Obj)}{af:St}{H:Hp}{s bz:Shared}
theorem Inv.env0(I:Inv X a' af H s):Zdy X.prog X.w X.K X.mg X.base X.A X.stack s H:=
 ⟨I.ok.frames,I.ok.mod,I.bs,qal I.ok.bsz I.sz,I.stack,I.stkFree,I.hok,I.bare⟩
theorem Inv.after{Q:VK}{u:Value}(I:Inv X a' af H s)(h:CE X.stack X.prog X.w H s Q u bz):EP X a' af Q u bz:=by
 obtain⟨v,ae,os,bare,un,hok,r,q⟩:=h;obtain⟨b6,g,d,t,tJ⟩:=bz;obtain rfl:tJ=s.os:=os;exact⟨v,ae,I.call (h':=b6) (g':=g) (d':=d) (t':=t) (ch:=[]) un hok bare (λb z=>absurd z (by simp)),r,q⟩
end
noncomputable def tK (sp:Sp) (eC:List V) (E:XK) (t:TA):TE:=λaf H Q=>t af H λvs bn=>sp (vs++eC) bn Q E
noncomputable def o7 (C:Addr) (m:Str) (sp:Sp) (eC:List V) (E:XK) (bX:TE) (t:TA):TE:=λaf H Q=>bX af H λx bn=>∃a bx fs,x= .ref a∧bn a=some (.ins C bx fs)∧fs.lookup m=none∧
 t af bn λvs bv=>sp (x::(vs++eC)) bv Q E
noncomputable def o8 (C:Addr) (sp:Sp) (eC:List V) (E:XK) (t:TA):TE:=λaf H Q=>t af H λvs bn=>∀x bx,bn x=none→bn bx=none→bx≠x→
 sp (.ref x::(vs++eC)) (upd (upd bn bx (.own x)) x (.ins C bx [])) (λv bv=>v= .non∧Q (.ref x) bv) E
def WI(K:Frag)(fd:FuncData)(b':List Str)(cj:List Value):Prop:=
 ∀(s:Shared)(us:List Value),K.In s.heap→(us++cj).length=b'.length→BindsTo s fd ⟨us,[]⟩ (b'.zip (us++cj))
theorem WI.all{K:Frag}{fd:FuncData}{b':List Str}(h:∀us:List Value,us.length=b'.length→bindArgs fd ⟨us,[]⟩=pure (b'.zip us)):WI K fd b' []:=λs us _ aj=>by
 rw[qb7] at aj⊢;exact .of_eq (h us aj)
def Wh(CX:CXT)(X:Cx)(E:XK):Prop:=∀(a':List (Addr×Obj))(af:St)(H:Hp)(s:Shared)(e:Value)(bz:Shared),Inv X a' af H s→CX X.stack H s E e bz→X.xe e bz
section
variable {X:Cx}{CX:CXT}{k:Nat}{f C:Addr}{fd:FuncData}{b':List Str}{sp:Sp}{eC:List V}{cj:List Value}{E:XK}{x m:Str}{p pos dv:Pos}{e o:Expr}{bE:List Expr}{bX:TE}{t:TA}
theorem tL{a':List (Addr×Obj)}{af:St}{H:Hp}{s:Shared}{Q:VK}{us:List Value}{vs:List V}(F:YT X.prog X.w X.K X.mg X.base CX k f fd b' sp)(bq:eI k X.A)(a_:WI X.K fd b' cj)(hd:cL eC cj)(bo:Wh CX X E)
  (I:Inv X a' af H s) (r:cL vs us) (h:sp (vs++eC) H Q E):wpAny (model X.prog X.w) X.A (call (.ref f) us) (EP X a' af Q) X.xe s:=by
 have cY:cL (vs++eC) (us++cj):=r.append hd;have aj:(us++cj).length=b'.length:=by rw[←cY.length];exact F.len _ _ _ _ h
 refine wpAny_call (codeAny_mono (F.run X.A X.stack s H ⟨us,[]⟩ (us++cj) (vs++eC) Q E bq I.env0 (a_ s us I.kIn aj) cY h) λr bz cv=>?_);cases r with
 |error e=>exact bo a' af H s e bz I cv
 |ok gk=>
  cases gk with
  |ret u=>exact I.after cv
  |next=>exact False.elim cv
  |brk=>exact False.elim cv
  |cont=>exact False.elim cv
theorem Zmt(F:YT X.prog X.w X.K X.mg X.base CX k f fd b' sp)(bq:eI k X.A)(bH:Gl X x)(bA:X.mg x=some (.ref f))(bt:keepIn X.K (.ref f)=true)(a_:WI X.K fd b' cj)(hd:cL eC cj)(bo:Wh CX X E)
  (bF:PA X (e::bE) t) (gB:(x==("__debug__" :Str))=false:=by decide) (bL:starEach (e::bE) X.env=(false,eval e X.env)::starEach bE X.env:=by rfl) (fh:(backTo pos (starEach bE X.env)).any (·.1)=false:=by rfl):
  PE X (.Call (.Name x p) (e::bE) [] pos) (tK sp eC E t):=by
 intro a' s af H Q I h;refine wpAny_Call_Name_kw (oU I bH bA ?_ gB);refine callWith_K (h₀:=X.base) I.ok.mod.kin bt (thn (bF pos a' s af H _ I h) λus bw ⟨vs,bn,bM,r,q⟩=>⟨bM.kIn,?_⟩) bL fh;exact tL F bq a_ hd bo bM r q
theorem qY{pl:Sem Bool}(bL:PE X o bX)(c:Cls X.K C)(bA:ZeG X.K C m f)(F:YT X.prog X.w X.K X.mg X.base CX k f fd b' sp)(bq:eI k X.A)(a_:WI X.K fd b' cj)(hd:cL eC cj)(bo:Wh CX X E)(bF:PA X (e::bE) t)
  (hc:starEach (e::bE) X.env=(false,eval e X.env)::starEach bE X.env:=by rfl) (fh:(backTo pos (starEach bE X.env)).any (·.1)=false:=by rfl)
  (b3:eval (.Call (.Attribute o m dv) (e::bE) [] pos) X.env=(do
   let ds←eval o X.env
   standAt dv.atName
   let(f,first)←holding [ds] (getMethod ds m pl)
   callWith pos f first (backTo pos (starEach (e::bE) X.env)) (backToKw pos (keywordEach [] X.env))):=by rfl):
  PE X (.Call (.Attribute o m dv) (e::bE) [] pos) (o7 C m sp eC E bX t):=by
 intro a' s af H Q I h;refine methodCall_KW (pl:=pl) (thn (bL a' s af H _ I h) λu bw ⟨x,bn,bM,bZ,a,bx,fs,ex,dH,l,q⟩=>?_) b3;subst ex;obtain rfl:u=Value.ref a:=bZ;refine Za4 bM dH c bA l ?_;refine callWith_K (first:=[.ref a]) (h₀:=X.base) I.ok.mod.kin bA.kp (thn (bF pos a' bw af bn _ bM q) λus bU ⟨vs,bv,cF,r,c7⟩=>⟨cF.kIn,?_⟩) hc fh;exact tL (us:= .ref a::us) (vs:= .ref a::vs) F bq a_ hd bo cF (.cons rfl r) c7
theorem Zkq{pl:Sem Bool}(bL:PE X o bX)(c:Cls X.K C)(bA:ZeG X.K C m f)(F:YT X.prog X.w X.K X.mg X.base CX k f fd b' sp)(bq:eI k X.A)(a_:WI X.K fd b' cj)(hd:cL eC cj)(bo:Wh CX X E)
  (b3:eval (.Call (.Attribute o m dv) [] [] pos) X.env=(do
   let ds←eval o X.env
   standAt dv.atName
   let(f,first)←holding [ds] (getMethod ds m pl)
   callWith pos f first (backTo pos (starEach [] X.env)) (backToKw pos (keywordEach [] X.env))):=by rfl):
  PE X (.Call (.Attribute o m dv) [] [] pos) (o7 C m sp eC E bX tNil):=by
 intro a' s af H Q I h;refine methodCall_KW (pl:=pl) (thn (bL a' s af H _ I h) λu bw ⟨x,bn,bM,bZ,a,bx,fs,ex,dH,l,q⟩=>?_) b3;subst ex;obtain rfl:u=Value.ref a:=bZ;refine Za4 bM dH c bA l ?_;exact callWith_K0 (first:=[.ref a]) bM.kIn bA.kp (tL (us:=[.ref a]) (vs:=[.ref a]) F bq a_ hd bo bM (.cons rfl .nil) q)
structure Mk(K:Frag)(C f:Addr):Prop where
 makes:makesIn K C=true
 init:findIn K (.ref C) "__init__" =some (some (.ref f))
 fn:isFn K (.ref f)=true
 kp:keepIn K (.ref C)=true
theorem yv{a':List (Addr×Obj)}{af:St}{H:Hp}{s:Shared}{Q:VK}{us:List Value}{vs:List V}(M:Mk X.K C f)(F:YT X.prog X.w X.K X.mg X.base CX k f fd b' sp)(bq:eI (k+1) X.A)(a_:WI X.K fd b' cj)(hd:cL eC cj)
  (bo:Wh CX X E) (I:Inv X a' af H s) (r:cL vs us)
  (h:∀x bx,H x=none→H bx=none→bx≠x→sp (.ref x::(vs++eC)) (upd (upd H bx (.own x)) x (.ins C bx [])) (λv bv=>v= .non∧Q (.ref x) bv) E):
  wpAny (model X.prog X.w) X.A (call (.ref C) us) (EP X a' af Q) X.xe s:=by
 have cv:=h (s.heap.objs.size+1) s.heap.objs.size (I.hok.fresh (qce _)) (I.hok.fresh (qaa _)) (qak (qbE _));have cF:=Inv.made (C:=C) I;have cY:cL (V.ref (s.heap.objs.size+1)::(vs++eC)) (Value.ref (s.heap.objs.size+1)::(us++cj)):= .cons rfl (r.append hd);have aj:(Value.ref (s.heap.objs.size+1)::us++cj).length=b'.length:=by
  have e:=cY.length;rw[F.len _ _ _ _ cv] at e;exact e.symm
 refine wpAny_call (F3 (f:=f) I.kIn M.makes M.init (beq_iff_eq.mp M.fn) (codeAny_mono (F.run _ X.stack _ _ ⟨Value.ref (s.heap.objs.size+1)::us,[]⟩ (Value.ref (s.heap.objs.size+1)::(us++cj)) _ _ E (bq.make C us [])
  (cF.env0.make C us []) (a_ _ (Value.ref (s.heap.objs.size+1)::us) cF.kIn aj) cY cv) λr bz nI=>?_))
 cases r with
 |error e=>exact bo a' af _ _ e bz cF nI
 |ok gk=>
  cases gk with
  |ret u=>
   obtain⟨v,ae,dE,c',c3,fv⟩:=cF.after nI;subst c3;exact⟨c',⟨V.ref (s.heap.objs.size+1),ae,dE,rfl,fv⟩⟩
  |next=>exact False.elim nI
  |brk=>exact False.elim nI
  |cont=>exact False.elim nI
theorem Zma(M:Mk X.K C f)(F:YT X.prog X.w X.K X.mg X.base CX k f fd b' sp)(bq:eI (k+1) X.A)(bH:Gl X x)(bA:X.mg x=some (.ref C))(a_:WI X.K fd b' cj)(hd:cL eC cj)(bo:Wh CX X E)
  (bF:PA X (e::bE) t) (gB:(x==("__debug__" :Str))=false:=by decide) (bL:starEach (e::bE) X.env=(false,eval e X.env)::starEach bE X.env:=by rfl) (fh:(backTo pos (starEach bE X.env)).any (·.1)=false:=by rfl):
  PE X (.Call (.Name x p) (e::bE) [] pos) (o8 C sp eC E t):=by
 intro a' s af H Q I h;refine wpAny_Call_Name_kw (oU I bH bA ?_ gB);refine callWith_K (h₀:=X.base) I.ok.mod.kin M.kp (thn (bF pos a' s af H _ I h) λus bw ⟨vs,bn,bM,r,q⟩=>⟨bM.kIn,?_⟩) bL fh;exact yv M F bq a_ hd bo bM r q
theorem Zkp(M:Mk X.K C f)(F:YT X.prog X.w X.K X.mg X.base CX k f fd b' sp)(bq:eI (k+1) X.A)(bH:Gl X x)(bA:X.mg x=some (.ref C))(a_:WI X.K fd b' cj)(hd:cL eC cj)(bo:Wh CX X E)
  (gB:(x==("__debug__" :Str))=false:=by decide):PE X (.Call (.Name x p) [] [] pos) (o8 C sp eC E tNil):=by
 intro a' s af H Q I h;refine wpAny_Call_Name_kw (oU I bH bA ?_ gB);exact callWith_K0 I.kIn M.kp (yv (us:=[]) M F bq a_ hd bo I .nil h)
end
section
variable {X:Cx}{CX:CXT}{k:Nat}{f C:Addr}{fd:FuncData}{b' cl:List Str}{sp:Sp}{E:XK}{x m:Str}{p pos dv Qp:Pos}{e o:Expr}{bE:List Expr}{Qq:List Keyword}{cA bX:TE}{t bY:TA}{nm:Option Str}
variable {g:List Value→List Value→List Value}{Qr:List V→List V→List V}
end
structure Zr(N P:List Str)(b8:Scope):Prop where
 kind:b8.kind= .function
 co:b8.isCoroutine=false
 gen:b8.isGenerator=false
 nd:N.Nodup
 pre:N.take P.length=P
 par:∀x∈P,b8.names.lookup x=some .local∨b8.names.lookup x=some .cell
 nofree:∀y∈b8.names,y.2≠ .free
theorem Zff{kindOf:Str→Option NameKind}{x:Str}:∀{binds:List (Str×Value)}{m:Str→Option Value},(∀v,(x,v)∉binds)→bindL kindOf binds m x=m x
 | [],_,_=>rfl
 |(n,v)::r,m,h=>by
  unfold bindL;rw[Zff λw hw=>h w (qaq _ hw)]
  split
  ·have:x≠n:=by rintro rfl;exact h v qbo
   simp[this]
  ·rfl
theorem Zfk{kindOf:Str→Option NameKind}{x:Str}:∀{binds:List (Str×Value)}{m:Str→Option Value},(∀v,(x,v)∉binds)→bindC kindOf binds m x=m x
 | [],_,_=>rfl
 |(n,v)::r,m,h=>by
  unfold bindC;rw[Zfk λw hw=>h w (qaq _ hw)]
  split
  ·rfl
  ·have:x≠n:=by rintro rfl;exact h v qbo
   simp[this]
theorem yw{kindOf:Str→Option NameKind}{x:Str}{v:Value}:∀{P:List Str}{vs:List Value}{i:Nat}{m:Str→Option Value},P.Nodup→P[i]? =some x→vs[i]? =some v→kindOf x=some .local→
  bindL kindOf (P.zip vs) m x=some v
 | [],_,_,_,_,h,_,_=>by simp at h
 |_::_,[],_,_,_,_,h,_=>by simp at h
 |p::P,w::vs,0,m,nd,bj,bp,bt=>by
  simp at bj bp;subst bj;subst bp;show bindL kindOf ((p,w)::P.zip vs) m p=_;unfold bindL;rw[Zff λv b_=>(qb8.mp nd).1 (List.of_mem_zip b_).1,if_pos bt];simp
 |p::P,w::vs,i+1,m,nd,bj,bp,bt=>by
  show bindL kindOf ((p,w)::P.zip vs) m x=_;unfold bindL;exact yw (i:=i) (qb8.mp nd).2 (by simpa using bj) (by simpa using bp) bt
theorem Ze5{kindOf:Str→Option NameKind}{x:Str}{v:Value}:∀{P:List Str}{vs:List Value}{i:Nat}{m:Str→Option Value},P.Nodup→P[i]? =some x→vs[i]? =some v→kindOf x≠some .local→
  bindC kindOf (P.zip vs) m x=some v
 | [],_,_,_,_,h,_,_=>by simp at h
 |_::_,[],_,_,_,_,h,_=>by simp at h
 |p::P,w::vs,0,m,nd,bj,bp,bt=>by
  simp at bj bp;subst bj;subst bp;show bindC kindOf ((p,w)::P.zip vs) m p=_;unfold bindC;rw[Zfk λv b_=>(qb8.mp nd).1 (List.of_mem_zip b_).1,if_neg bt];simp
 |p::P,w::vs,i+1,m,nd,bj,bp,bt=>by
  show bindC kindOf ((p,w)::P.zip vs) m x=_;unfold bindC;exact Ze5 (i:=i) (qb8.mp nd).2 (by simpa using bj) (by simpa using bp) bt
noncomputable def start (N:List Str) (vs:List V):St:=vs.map some++List.replicate (N.length-vs.length) none
noncomputable def ZN (CX:CXT) (P:Program) (w:World) (K:Frag) (mg:Str→Option Value) (base:Heap) (N:List Str) (qual:Str) (scope:Scope) (f:Addr) (c8:Value) (A:Around) (outer:List Env) (s:Shared) (H:Hp) (E:XK):Cx where
 prog:=P
 w:=w
 K:=K
 mg:=mg
 base:=base
 A:=A.deeper (envOfC qual scope s.heap.objs.size f c8)
 N:=N
 s₀:=s
 H₀:=H
 env:=envOfC qual scope s.heap.objs.size f c8
 outer:=outer
 stack:=envOfC qual scope s.heap.objs.size f c8::outer
 ex:=[]
 calm:=true
 fn:=λ_=>true
 pn:=[]
 xe:=λe bz=>wpAny (model P w) (A.deeper (envOfC qual scope s.heap.objs.size f c8)) (leaving (envOfC qual scope s.heap.objs.size f c8) e) (λ_ mr=>CX outer H s E e mr) (λcf mr=>CX outer H s E cf mr) bz
theorem ZgR{b8:Scope}{n:Nat}{x:Str}(h:b8.names.lookup x=some .cell):∃c,(cellsFrom n b8.names []).lookup x=some c:=by
 have q:=cellsFrom_some b8.names n [] (.inl h);exact Option.isSome_iff_exists.mp q
theorem ZjK{CX:CXT}{P:Program}{w:World}{K:Frag}{mg:Str→Option Value}{base:Heap}{N b':List Str}{qual:Str}{scope:Scope}{f:Addr}{c8:Value}{A:Around}{outer:List Env}{s bw:Shared}{H:Hp}{E:XK}{us:List Value}{vs:List V}
  (S:Zr N b' scope) (hd:A.handled=none) (ea:Zdy P w K mg base A outer s H) (aj:vs.length=b'.length) (r:cL vs us)
  (x:InCallC s s.heap.objs.size (bindL (envOfC qual scope s.heap.objs.size f c8).kindOf (b'.zip us) λ_=>none) (cellsFrom (s.heap.objs.size+1) scope.names []) (bindC (envOfC qual scope s.heap.objs.size f c8).kindOf (b'.zip us) λ_=>none) bw):
  Inv (ZN CX P w K mg base N qual scope f c8 A outer s H E) [] (start N vs) H bw:=by
 have fh:b'.length≤N.length:=by have:=congrArg List.length S.pre;rw[qaO] at this;omega
 obtain⟨bj,bY,rfl,bt⟩:=x.done;have o9:∀b:Addr,b∉(ZN CX P w K mg base N qual scope f c8 A outer s H E).ex:=λb z=>absurd (show b∈([]:List Addr) from z) (by simp);refine⟨⟨ea.mod,S.kind,rfl,rfl,qaa _,λy z c bj bp=>?_,λy bR=>?_,λy c _ h=>?_,λ_=>hd,Around.frames_deeper ea.frames,.inr ⟨rfl,rfl⟩,λb z=>absurd z (o9 b),ea.bs,ea.bsz,λb _ _=>o9 b,λb z=>absurd z (o9 b),ea.funs,ea.frf⟩,
  rfl,ea.bare,Un.kept bt,⟨_,x.toInCall.ns,λi y v bj bp bT=>?_⟩,λy c h=>⟨_,x.cell y c h⟩,ea.hok.fresh (qaa _),λy c h=>?_,λp bD=>absurd (show p∈([]:List (Addr×Obj)) from bD) (by simp),ea.hok.kept bt,?_⟩
 ·exact name_of_addr x.apart (qbD bj) (qbD bp)
 ·have bR:scope.names.lookup y=some .cell∨scope.names.lookup y=some .free:=bR;rcases bR with bR|bR
  ·exact ZgR bR
  ·exact absurd rfl (S.nofree _ (qbD bR))
 ·exact qa2 (x.above y c (qbD h))
 ·have hi:i<vs.length:=by
   unfold start at bp
   by_cases hi:i<vs.length
   ·exact hi
   ·rw[qaX (by simpa using hi)] at bp;rw[List.getElem?_replicate] at bp
    split at bp<;>cases bp
  have bF:vs[i]? =some v:=by
   unfold start at bp;rw[qa1 (by simpa using hi),qaj] at bp;cases e:vs[i]? with
   |none=>rw[e] at bp;cases bp
   |some a=>rw[e] at bp;cases bp;rfl
  obtain⟨u,hu,c'⟩:=r.get bF;have bD:b'[i]? =some y:=by
   rw[←S.pre,List.getElem?_take_of_lt (by omega)];exact bj
  have yx:b'.Nodup:=by rw[←S.pre];exact S.nd.sublist (List.take_sublist _ _)
  refine⟨u,c',?_⟩;rcases S.par y (qar bD) with k|k
  ·exact .inl ⟨k,yw yx bD hu k⟩
  ·obtain⟨c,e⟩:=ZgR (n:=s.heap.objs.size+1) k;refine .inr ⟨.inl k,c,e,?_⟩;have q:=x.cell y c e;rw[Ze5 yx bD hu (by show scope.names.lookup y≠_;rw[k];decide)] at q;exact q
 ·exact ea.hok.fresh (qa2 (x.above y c (qbD h)))
 ·unfold start;show _=N.length;rw[qaT,GE,qbi];omega
theorem ZlE{CX:CXT}{P:Program}{w:World}{K:Frag}{mg:Str→Option Value}{base:Heap}{k:Nat}{f:Addr}{name qual:Str}{params:Arguments}{body:List Stmt}{scope:Scope}{qZ kV e7 ei cz ct fg:Value}{an d2:Option Addr}
  {gC:Array (Option Value)} {N b':List Str} {sp:Sp} (lk:K.lookup f=some ⟨fg,d2,.func (fnOf name qual params body scope qZ kV e7 ei an cz ct),gC⟩) (iA:codeIn K cz qual=true) (S:Zr N b' scope)
  (len:∀vs H Q E,sp vs H Q E→vs.length=b'.length)
  (o_:∀(A:Around)(outer:List Env)(s:Shared)(H:Hp)(vs:List V)(Q:VK)(E:XK),eI k (A.deeper (envOfC qual scope s.heap.objs.size f cz))→sp vs H Q E→
   ∃t,PSs (ZN CX P w K mg base N qual scope f cz A outer s H E) body t∧t {nx:=λ_ ae=>Q .non ae,rt:=Q} (start N vs) H):
  YT P w K mg base CX (k+1) f (fnOf name qual params body scope qZ kV e7 ei an cz ct) b' sp:=by
 refine⟨len,λA outer s H args us vs Q E bq ea a_ r jT=>?_⟩;have aj:=len _ _ _ _ jT;have eD:K.In s.heap:=ea.mod.kin.keeps λb o e=>(ea.bs b o e).1;have F5:s.heap.NoLimit:=ea.mod.nolimit.keeps λb o e=>(ea.bs b o e).1;have mu:∀y∈b'.zip us,scope.names.lookup y.1=some .local∨(scope.names.lookup y.1=some .cell∧((cellsFrom (s.heap.objs.size+1) scope.names []).lookup y.1).isSome=true):=λ⟨n,v⟩ bR=>by
  rcases S.par n (List.of_mem_zip bR).1 with q|q
  ·exact .inl q
  ·exact .inr ⟨q,cellsFrom_some _ _ _ (.inl q)⟩
 refine codeAny_call_function bq.depth (eD _ _ lk) rfl S.co S.gen rfl (PySem.W.codeRec_of eD iA) (a_ _ _ _ _ ?_);refine wpAny_newFunctionEnv_cells S.kind mu λenv bL bw x=>?_;subst bL;refine⟨F5.keeps x.toInCall.keep,codeAny_func ?_⟩;obtain⟨t,b3,cv⟩:=o_ A outer s H vs Q E (bq.deeper _) jT;have I:Inv (ZN CX P w K mg base N qual scope f cz A outer s H E) [] (start N vs) H bw:=ZjK S bq.hd ea aj r x;refine wpAny_mono (b3 [] bw (start N vs) H _ I cv) (λgk bz hs=>?_) λe bz hs=>hs;have d4:∀{bW:St}{ae:Hp}{v:V}{u:Value},Inv (ZN CX P w K mg base N qual scope f cz A outer s H E) [] bW ae bz→cE v u→Q v ae→CE outer P w H s Q u bz:=
  λ{bW ae v u} J c' q=>⟨v,ae,J.os,J.bare,J.base,J.hok,c',q⟩
 cases gk with
 |ret u=>
  obtain⟨v,bW,ae,J,c',q⟩:=hs;exact d4 J c' q
 |next=>
  obtain⟨bW,ae,J,q⟩:=hs;exact d4 (v:=V.non) (u:=Value.none) J rfl q
 |brk=>
  obtain⟨_,_,_,q⟩:=hs;exact False.elim q
 |cont=>
  obtain⟨_,_,_,q⟩:=hs;exact False.elim q
section
variable {X:Cx}{x:Str}{p pos:Pos}{e:Expr}{bE:List Expr}{t:TA}{id T:String}{r:List V→Hp→VK→Prop}
noncomputable def tCB (r:List V→Hp→VK→Prop) (t:TA):TE:=λaf H Q=>t af H λvs bn=>r vs bn Q
theorem dI(bu:YW X (.builtin id) r)(bH:Gl X x)(bA:X.mg x=none)(b_:bootBuiltins x=some (.builtin id))(bF:PA X (e::bE) t)(bO:x≠"__name__" :=by decide)(gB:(x==("__debug__" :Str))=false:=by decide)
  (bL:starEach (e::bE) X.env=(false,eval e X.env)::starEach bE X.env:=by rfl) (fh:(backTo pos (starEach bE X.env)).any (·.1)=false:=by rfl):PE X (.Call (.Name x p) (e::bE) [] pos) (tCB r t):=by
 intro a' s af H Q I h;refine wpAny_Call_Name_kw (ht I bH bA b_ ?_ bO gB);exact qbv (thn (bF pos a' s af H _ I h) λus bw ⟨vs,bn,bM,cm,cg⟩=>bu a' bw af bn vs us Q bM cm cg) bL fh
theorem kE(bu:YW X (.type T) r)(bH:Gl X x)(bA:X.mg x=none)(b_:bootBuiltins x=some (.type T))(bF:PA X (e::bE) t)(bO:x≠"__name__" :=by decide)(gB:(x==("__debug__" :Str))=false:=by decide)
  (bL:starEach (e::bE) X.env=(false,eval e X.env)::starEach bE X.env:=by rfl) (fh:(backTo pos (starEach bE X.env)).any (·.1)=false:=by rfl):PE X (.Call (.Name x p) (e::bE) [] pos) (tCB r t):=by
 intro a' s af H Q I h;refine wpAny_Call_Name_kw (ht I bH bA b_ ?_ bO gB);exact qaD (thn (bF pos a' s af H _ I h) λus bw ⟨vs,bn,bM,cm,cg⟩=>bu a' bw af bn vs us Q bM cm cg) bL fh
end
end L2
namespace HT
open PySem PyProof.Rows
section
open PySem.SeqAt
open PySem.AutoSeq1 (wpAny_loadPart')
open PySem.MeetsSeq PySem.MeetsSeq2 PySem.MeetsSeq3
end
section
variable {prog:Program}{w:World}{A:Around}{E:Value→Shared→Prop}{s:Shared}
theorem Zl8{t b:Addr}{vs ce:List Value}{Q:Value→Shared→Prop}(b3:IsTup s.heap t vs.toArray)(a_:IsTup s.heap b ce.toArray)(b_:vs≠[])
  (bj:ce=[]→Q (.ref t) s) (bp:ce≠[]→Q (.ref s.heap.objs.size) {s with heap:=s.heap.push {cls:= .type "tuple",data:= .seq (vs++ce).toArray}})
  (hsz:vs.length+ce.length≤sizeLine):wpAny (model prog w) A (binaryOp .Add (.ref t) (.ref b)) Q E s:=by
 obtain⟨⟨cls,dd,data,sl⟩,bI,bu,n,hd⟩:=id b3;obtain⟨⟨Qs,q0,data2,yy⟩,q1,nJ,fl,hT⟩:=id a_;simp only at bu hd nJ hT;subst bu hd nJ hT;have e:vs.toArray++ce.toArray=(vs++ce).toArray:=by simp
 by_cases hw:ce=[]
 ·exact concat_meets ⟨_,bI,rfl⟩ ⟨_,q1,rfl⟩ noFill_tuple_add seq_tuple_add PySem.F.slot_tuple_add PySem.F.entry_tuple_add (PySem.F.args_tuple_add_2 _ _)
   (tuple_addW1 t b vs.toArray ce.toArray n fl dd q0 sl yy (by simpa using b_) (by simp[hw])) ⟨bI,q1,bj hw⟩
 ·refine concat_meets ⟨_,bI,rfl⟩ ⟨_,q1,rfl⟩ noFill_tuple_add seq_tuple_add PySem.F.slot_tuple_add PySem.F.entry_tuple_add (PySem.F.args_tuple_add_2 _ _)
   (tuple_addW2 t b vs.toArray ce.toArray n fl dd q0 sl yy (by simpa using b_) (by simpa using hw) (by rw[qaf,qaf];exact hsz)) ⟨bI,q1,?_⟩
  rw[e];exact bp hw
noncomputable def sIx (n d:Nat):Option Int→Nat
 |none=>d
 |some v=>if v<0 then(v+(n:Int)).toNat else min v.toNat n
theorem ZmU(n d:Nat)(hd:d≤n)(o:Option Int):sIx n d o≤n:=by
 cases o with
 |none=>exact hd
 |some v=>
  show(if v<0 then(v+(n:Int)).toNat else min v.toNat n)≤n
  by_cases b_:v<0
  ·rw[if_pos b_];omega
  ·rw[if_neg b_];exact Nat.min_le_right _ _
theorem ZhG(v:Int)(n d:Nat):(if v<0 then max (v+(n:Int)) 0 else min v (n:Int))=((sIx n d (some v):Nat):Int):=by
 show(if v<0 then max (v+(n:Int)) 0 else min v (n:Int))=(((if v<0 then(v+(n:Int)).toNat else min v.toNat n):Nat):Int)
 by_cases b_:v<0
 ·simp only[if_pos b_];omega
 ·simp only[if_neg b_];omega
theorem Zio(lo hi:Option Int)(n:Nat):Builtin.Slice.sliceAdjust lo hi 1 (n:Int)=(((sIx n 0 lo:Nat):Int),((sIx n n hi:Nat):Int)):=by
 have bj:¬((1:Int)<0):=by omega
 unfold Builtin.Slice.sliceAdjust;simp only[bj,if_false];refine Prod.ext ?_ ?_
 ·cases lo with
  |none=>rfl
  |some v=>exact ZhG v n 0
 ·cases hi with
  |none=>rfl
  |some v=>exact ZhG v n n
theorem Ziq(i j:Nat):Builtin.Slice.slicePlaces (i:Int) (j:Int) 1=j-i:=by
 unfold Builtin.Slice.slicePlaces;have bj:(1:Int) > 0:=by omega
 simp only[bj,if_true,Int.ediv_one]
 split<;>omega
theorem yz{v:Value}{o:Option Int}{Q:Option Int→Shared→Prop}(p:IsPart v o)(h:Q o s):wpAny (model prog w) A (Builtin.Slice.slicePartIndex v) Q E s:=by
 cases p with
 |none=>exact slicePart_none h
 |int i t=>exact slicePart_int h
theorem F6{sl:Addr}{fo f9:Value}{lo hi:Option Int}{n:Nat}{Q:Int×Int×Nat→Shared→Prop}(hs:s.heap.IsSliceOf sl fo f9 .none)(pl:IsPart fo lo)(hU:IsPart f9 hi)
  (h:Q (((sIx n 0 lo:Nat):Int),1,sIx n n hi-sIx n 0 lo) s):wpAny (model prog w) A (Builtin.Slice.sliceApplied (.ref sl) (pure (n:Int))) Q E s:=by
 obtain⟨os,o',jq,jU⟩:=id hs;unfold Builtin.Slice.sliceApplied Builtin.Slice.sliceFields;refine wpAny_bind (wpAny_bind (wpAny_field o' jU (x:=fo) rfl (wpAny_bind (wpAny_field o' jU (x:=f9) rfl (wpAny_bind (wpAny_field o' jU (x:= .none) rfl (wpAny_pure ?_)))))));refine wpAny_bind (slicePart_none ?_);show wpAny _ _ (if((1:Int)==0)=true then _ else _) _ _ s;rw[if_neg (by decide)];refine wpAny_bind (yz pl (wpAny_bind (yz hU (wpAny_bind (wpAny_pure ?_)))));show wpAny _ _ (match Builtin.Slice.sliceAdjust lo hi 1 (n:Int) with|(lo,hi)=>pure (lo,(1:Int),Builtin.Slice.slicePlaces lo hi 1)) _ _ s;rw[Zio lo hi n];show wpAny _ _ (pure (((sIx n 0 lo:Nat):Int),(1:Int),Builtin.Slice.slicePlaces ((sIx n 0 lo:Nat):Int) ((sIx n n hi:Nat):Int) 1)) _ _ s;rw[Ziq];exact wpAny_pure h
theorem F7(xs:Array Value)(i k:Nat):((List.range k).filterMap λ(m:Nat)=>xs[((i:Int)+(m:Int)*1).toNat]?).toArray=((xs.toList.drop i).take k).toArray:=by
 have e:(λ(m:Nat)=>xs[((i:Int)+(m:Int)*1).toNat]?)=λm=>xs[i+m]? :=by
  funext m
  have:((i:Int)+(m:Int)*1).toNat=i+m:=by omega
  rw[this]
 rw[e];have:=pick_run xs i k;rw[List.filterMap_map] at this;have bK:((λx=>xs[x]?)∘λx=>i+x)=λm=>xs[i+m]? :=rfl;rw[bK] at this;rw[this]
theorem ZcC{t sl:Addr}{items:Array Value}{fo f9:Value}{lo hi:Option Int}{Q:Value→Shared→Prop}(b3:IsTup s.heap t items)(hs:s.heap.IsSliceOf sl fo f9 .none)(pl:IsPart fo lo)(hU:IsPart f9 hi)
  (hw:¬(sIx items.size 0 lo=0∧sIx items.size items.size hi=items.size))
  (h:Q (.ref s.heap.objs.size) {s with heap:=s.heap.push {cls:= .type "tuple",data:= .seq ((items.toList.drop (sIx items.size 0 lo)).take (sIx items.size items.size hi-sIx items.size 0 lo)).toArray}})
  (hsz:items.size≤sizeLine):wpAny (model prog w) A (getItem (.ref t) (.ref sl)) Q E s:=by
 have q2:sizeOk (.seq ((items.toList.drop (sIx items.size 0 lo)).take (sIx items.size items.size hi-sIx items.size 0 lo)).toArray):=by
  show((items.toList.drop (sIx items.size 0 lo)).take (sIx items.size items.size hi-sIx items.size 0 lo)).toArray.size≤sizeLine;rw[qaf,qaO,qci,qaV];omega
 have bC:sIx items.size items.size hi≤items.size:=ZmU _ _ (qaa _) hi;obtain⟨os,o',jq,jU⟩:=id hs;have F8:s.TypeIs (.ref sl) "slice" :=⟨os,o',jq⟩;unfold getItem
 try with_reducible refine wpAny_holding ?_
 first|refine wpAny_bind (wpAny_pure ?_)|skip
 refine wpAny_bind (wpAny_sequenceKey b3.typeIs (by decide) ?_);refine wpAny_bind (wpAny_callSpecial?_slot (name:=Str.ofString "__getitem__") b3.typeIs qbM
  (wpAny_call_entry qbM b3.typeIs entry_tuple_getitem ?_ (args_tuple_getitem _ _)))
 show wpAny _ _ (Builtin.Tuple.tupleItemsOf (.ref t) >>= _) _ _ s;refine wpAny_bind (tupleItemsOf_ b3 ?_);refine wpAny_bind (wpAny_typeOf F8 ?_);rw[if_pos (by decide)];refine wpAny_bind (F6 hs pl hU ?_);have iE:¬((((sIx items.size 0 lo:Nat):Int)==0&&(1:Int)==1&&(sIx items.size items.size hi-sIx items.size 0 lo)==items.size)=true):=by
  intro q;rw[qaR,qaR] at q;have cg:((sIx items.size 0 lo:Nat):Int)=0:=eq_of_beq q.1.1;have c7:sIx items.size items.size hi-sIx items.size 0 lo=items.size:=eq_of_beq q.2;exact hw ⟨by omega,by omega⟩
 show wpAny _ _ (if(((sIx items.size 0 lo:Nat):Int)==0&&(1:Int)==1&&(sIx items.size items.size hi-sIx items.size 0 lo)==items.size)=true then _ else _) _ _ s;rw[if_neg iE,F7]
 first
  |exact wpAny_bind (m:=Builtin.Tuple.tupleExact _) (wpAny_newObj_type (wpAny_pure ⟨_,rfl,wpAny_pure h⟩) q2)
  |exact wpAny_bind (m:=Builtin.Tuple.tupleExact _) (wpAny_newObj_type (wpAny_bind (wpAny_pure (wpAny_pure ⟨_,rfl,wpAny_pure h⟩))) q2)
  |exact wpAny_bind (wpAny_bind (m:=Builtin.Tuple.tupleExact _) (wpAny_newObj_type (wpAny_pure (wpAny_pure ⟨_,rfl,wpAny_pure h⟩)) q2))
  |exact wpAny_bind (wpAny_bind (m:=Builtin.Tuple.tupleExact _) (wpAny_newObj_type (wpAny_pure ⟨_,rfl,wpAny_pure h⟩) q2))
end
end HT
namespace L2
open PySem PySem.Spec PyProof.Rows
noncomputable abbrev TO:=St→Hp→(Option Int→Hp→Prop)→Prop
def PO(X:Cx)(e:Option Expr)(t:TO):Prop:=
 ∀(a':List (Addr×Obj))(s:Shared)(af:St)(H:Hp)(Q:Option Int→Hp→Prop),Inv X a' af H s→t af H Q→
  wpAny (model X.prog X.w) X.A (evalPart e X.env) (λu bz=>∃o ae,Inv X a' af ae bz∧IsPart u o∧Q o ae) X.xe s
noncomputable def tNoPart:TO:=λ_ H Q=>Q none H
noncomputable def yA (t:TE):TO:=λaf H Q=>t af H λx bn=>∃i,x= .int i∧Q (some i) bn
theorem Uz{ns:List Int}:∀{us:List Value},cL (ns.map V.int) us→IntsAre us ns:=by
 induction ns with
 |nil=>intro us r;rw[List.map_nil] at r;cases r;exact .nil
 |cons n ns bQ=>
  intro us r;rw[List.map_cons] at r;cases r with
  |cons cm cY=>
   obtain⟨t,e⟩:=cm;subst e;exact .cons n t (bQ cY)
section
variable {X:Cx}{e:Expr}{cA:TE}{lo hi:Option Expr}{dP mv:TO}{pos e3:Pos}
theorem q3:PO X none tNoPart:=by
 intro a' s af H Q I h;rw[evalPart_none];exact wpAny_pure ⟨none,H,I,.none,h⟩
theorem q4(h:PE X e cA):PO X (some e) (yA cA):=by
 intro a' s af H Q I hw;rw[evalPart_some];refine thn (h a' s af H _ I hw) λu bw ⟨x,bn,bM,cm,cg⟩=>?_;obtain⟨i,rfl,q⟩:=cg;obtain⟨t,rfl⟩:=cm;exact⟨some i,bn,bM,.int i t,q⟩
def SlR(X:Cx)(r:V→Option Int→Option Int→Hp→VK→Prop):Prop:=
 ∀(a':List (Addr×Obj))(s:Shared)(af:St)(H:Hp)(x:V)(v fo f9:Value)(lo hi:Option Int)(sl:Addr)(Q:VK),Inv X a' af H s→cE x v→s.heap.IsSliceOf sl fo f9 .none→IsPart fo lo→IsPart f9 hi→r x lo hi H Q→
  ∃T id,typeLookup (.type T) "__getitem__" =pure (some (.builtin id))∧s.TypeIs v T∧wpAny (model X.prog X.w) X.A (getItem v (.ref sl)) (EP X a' af Q) X.xe s
theorem SlR.or{r c6:V→Option Int→Option Int→Hp→VK→Prop}(h:SlR X r)(h':SlR X c6):SlR X (λx lo hi H Q=>r x lo hi H Q∨c6 x lo hi H Q):=by
 intro a' s af H x v fo f9 lo hi sl Q I bZ hs pl hU q;rcases q with q|q
 ·exact h a' s af H x v fo f9 lo hi sl Q I bZ hs pl hU q
 ·exact h' a' s af H x v fo f9 lo hi sl Q I bZ hs pl hU q
noncomputable def tSl (r:V→Option Int→Option Int→Hp→VK→Prop) (cA:TE) (dP mv:TO):TE:=λaf H Q=>cA af H λx bn=>dP af bn λl bv=>mv af bv λu b9=>r x l u b9 Q
theorem q5{r:V→Option Int→Option Int→Hp→VK→Prop}(bq:SlR X r)(bL:PE X e cA)(aj:PO X lo dP)(hu:PO X hi mv):PE X (.Subscript e (.Slice lo hi none e3) pos) (tSl r cA dP mv):=by
 intro a' s af H Q I h;refine Subscript_ (thn (bL a' s af H _ I h) λv bw ⟨x,bn,bM,cm,cg⟩=>?_);refine wpAny_Slice (thn (aj a' bw af bn _ bM cg) λfo bU ⟨l,bv,cF,pl,c7⟩=>thn (hu a' bU af bv _ cF c7) λf9 bS ⟨u,b9,dE,hU,fv⟩=>?_);rw[evalPart_none];refine wpAny_pure ?_;have ky:Inv X a' af b9 {bS with heap:=bS.heap.push {cls:= .type "slice",data:= .fields #[fo,f9,.none]}}:=dE.kept (t':=bS.toks) λb cT q=>Heap.get?_push_of_some _ q;obtain⟨T,id,c9,b3,bH⟩:=bq a' {bS with heap:=bS.heap.push {cls:= .type "slice",data:= .fields #[fo,f9,.none]}} af b9 x v fo f9 l u bS.heap.objs.size Q ky cm (Heap.IsSliceOf.new ..) pl hU fv;show wpAny (model X.prog X.w) X.A (subscriptTail e (.Slice lo hi none e3) v (.ref bS.heap.objs.size)) (EP X a' af Q) X.xe {bS with heap:=bS.heap.push {cls:= .type "slice",data:= .fields #[fo,f9,.none]}};exact tail_any (ops:=[.ref bS.heap.objs.size,v]) b3 c9 bH (by with_unfolding_all rfl)
noncomputable def hB (xs:List V) (lo hi:Option Int):List V:=(xs.drop (HT.sIx xs.length 0 lo)).take (HT.sIx xs.length xs.length hi-HT.sIx xs.length 0 lo)
theorem yB(xs:List V)(lo hi:Option Int):(hB xs lo hi).length≤xs.length:=by
 unfold hB;rw[qaO,qci];omega
noncomputable def yC (K:Frag):V→Option Int→Option Int→Hp→VK→Prop:=λx lo hi H Q=>∃a xs,x= .ref a∧SqT K H a xs∧
 ¬(HT.sIx xs.length 0 lo=0∧HT.sIx xs.length xs.length hi=xs.length)∧∀p,H p=none→Q (.ref p) (upd H p (.tup (hB xs lo hi)))
theorem F9:SlR X (yC X.K):=by
 intro a' s af H x v fo f9 lo hi sl Q I bZ hs pl hU h;obtain⟨a,xs,rfl,bo,hw,q⟩:=h;cases bZ;obtain⟨its,r,b3,hz⟩:=I.tuple bo;have eg:its.toArray.size=xs.length:=by rw[qaf];exact r.length.symm
 refine⟨"tuple",_,qbM.lookup,b3.typeIs,?_⟩;refine HT.ZcC b3 hs pl hU (by rw[eg];exact hw) ?_ (by rw[eg];exact hz);rw[eg];refine⟨.ref s.heap.objs.size,_,I.laid (t':=s.toks) (o:= .tup (hB xs lo hi)) (λb cT q=>Heap.get?_push_of_some _ q) (qaa _) ?_,rfl,q _ (I.hok.fresh (qaa _))⟩;exact⟨qal (yB xs lo hi) hz,_,(r.drop (HT.sIx xs.length 0 lo)).take (HT.sIx xs.length xs.length hi-HT.sIx xs.length 0 lo),IsTup.new _ _⟩
noncomputable def pa (K:Frag):R2:=λx y H Q=>∃a b xs ys,x= .ref a∧y= .ref b∧SqT K H a xs∧SqT K H b ys∧xs≠[]∧xs.length+ys.length≤sizeLine∧
 (ys=[]→Q (.ref a) H)∧(ys≠[]→∀p,H p=none→Q (.ref p) (upd H p (.tup (xs++ys))))
theorem cL.nil_iff{xs:List V}{us:List Value}(r:cL xs us):us=[]↔xs=[]:=by
 cases r with
 |nil=>simp
 |cons _ _=>simp
theorem F_:OpR X (binaryOp .Add) (pa X.K):=by
 intro a' s af H x y v u Q I bZ ci h;obtain⟨a,b,xs,ys,rfl,rfl,bF,a_,bo,hz,cg,c7⟩:=h;cases bZ;cases ci;obtain⟨its,cm,dZ,_⟩:=I.tuple bF;obtain⟨jr,cY,e3,_⟩:=I.tuple a_;refine HT.Zl8 dZ e3 (λz=>bo (cm.nil_iff.mp z)) (λz=>⟨.ref a,H,I,rfl,cg (cY.nil_iff.mp z)⟩) (λz=>?_) (by rw[←cm.length,←cY.length];exact hz);refine⟨.ref s.heap.objs.size,_,I.laid (t':=s.toks) (o:= .tup (xs++ys)) (λb cT q=>Heap.get?_push_of_some _ q) (qaa _) ?_,rfl,c7 (λw=>z (cY.nil_iff.mpr w)) _ (I.hok.fresh (qaa _))⟩;exact⟨by rw[qaT];exact hz,_,cm.append cY,IsTup.new _ _⟩
end
noncomputable def ixN (n:Nat) (i:Int):Option Nat:=if 0≤i then(if i<n then some i.toNat else none) else if -(n:Int)≤i then some (i+n).toNat else none
noncomputable def atI {cM:Type} (xs:List cM) (i:Int):Option cM:=(ixN xs.length i).bind λj=>xs[j]?
theorem ZhC{n:Nat}{i:Int}{j:Nat}(h:ixN n i=some j):seqIndex? i n=some j∧j<n∧ -(n:Int)≤i∧i<n:=by
 unfold ixN at h
 by_cases cd:0≤i
 ·rw[if_pos cd] at h
  by_cases bj:i<n
  ·rw[if_pos bj] at h;have e:i.toNat=j:=qan h;exact⟨by rw[seqIndex_of cd bj,e],by omega,by omega,bj⟩
  ·rw[if_neg bj] at h;cases h
 ·rw[if_neg cd] at h
  by_cases bj: -(n:Int)≤i
  ·rw[if_pos bj] at h;have e:(i+n).toNat=j:=qan h;exact⟨by rw[seqIndex_neg (by omega) bj,e],by omega,bj,by omega⟩
  ·rw[if_neg bj] at h;cases h
theorem Zcy{cM:Type}{xs:List cM}{i:Int}{v:cM}(h:atI xs i=some v):∃j,seqIndex? i xs.length=some j∧xs[j]? =some v∧j<xs.length∧ -(xs.length:Int)≤i∧i<xs.length:=by
 unfold atI at h;cases e:ixN xs.length i with
 |none=>rw[e] at h;cases h
 |some j=>
  rw[e] at h;obtain⟨bj,bp,bT,cy⟩:=ZhC e;exact⟨j,bj,h,bp,bT,cy⟩
theorem gY{cM:Type}{xs:List cM}{j:Nat}{v:cM}(h:xs[j]? =some v):atI xs (j:Int)=some v:=by
 have bC:j<xs.length:=(FM.mp h).1;have e:ixN xs.length (j:Int)=some j:=by
  unfold ixN;rw[if_pos (by omega),if_pos (by omega)];simp
 unfold atI;rw[e];exact h
def Zmn(b:Expr):Prop:=∀o i,subscripted b false o i=operate [o,i] (getItem o i)
def IxR(X:Cx)(r:R2):Prop:=
 ∀(value slice:Expr)(a':List (Addr×Obj))(s:Shared)(af:St)(H:Hp)(x y:V)(v u:Value)(Q:VK),Inv X a' af H s→cE x v→cE y u→r x y H Q→
  subscripted slice false v u=operate [v,u] (getItem v u)→wpAny (model X.prog X.w) X.A (subscriptTail value slice v u) (EP X a' af Q) X.xe s
def MtR(X:Cx)(id:String)(r:V→List V→Hp→VK→Prop):Prop:=
 ∀(a':List (Addr×Obj))(s:Shared)(af:St)(H:Hp)(x:V)(xs:List V)(v:Value)(us:List Value)(Q:VK),Inv X a' af H s→cE x v→cL xs us→r x xs H Q→
  wpAny (model X.prog X.w) X.A (call (.builtin id) (v::us)) (EP X a' af Q) X.xe s
section
variable {X:Cx}{a b:Expr}{bX cP:TE}{pos:Pos}
theorem IxR.or{r c6:R2}(h:IxR X r)(h':IxR X c6):IxR X (λx y H Q=>r x y H Q∨c6 x y H Q):=by
 intro value slice a' s af H x y v u Q I bZ ci q hs;rcases q with q|q
 ·exact h value slice a' s af H x y v u Q I bZ ci q hs
 ·exact h' value slice a' s af H x y v u Q I bZ ci q hs
theorem cw{r:R2}(bq:IxR X r)(bF:PE X a bX)(a_:PE X b cP)(hs:Zmn b):PE X (.Subscript a b pos) (tOp r bX cP):=by
 intro a' s af H Q I h;exact Subscript_ (tD bF a_ I h λv u bU x y bv cF bZ ci q=>bq a b a' bU af bv x y v u Q cF bZ ci q (hs _ _))
noncomputable def ZeI (K:Frag):R2:=λx y H Q=>∃p xs i v,x= .ref p∧y= .int i∧SqL K H p xs∧atI xs i=some v∧Q v H
noncomputable def tM (K:Frag):R2:=λx y H Q=>∃p xs i v,x= .ref p∧y= .int i∧SqT K H p xs∧atI xs i=some v∧Q v H
noncomputable def rIxS:R2:=λx y H Q=>∃z i c,x= .str z∧y= .int i∧z.length≤sizeLine∧atI z.cps.toList i=some c∧Q (.str ⟨#[c]⟩) H
theorem F':IxR X (ZeI X.K):=by
 intro value slice a' s af H x y v u Q I bZ ci h hs;obtain⟨p,xs,i,z,rfl,rfl,cv,bL,q⟩:=h;cases bZ;obtain⟨t,rfl⟩:=ci;obtain⟨its,r,pl,hz⟩:=I.list cv;obtain⟨j,bj,bp,bT,cy,dJ⟩:=Zcy bL;obtain⟨w,gD,iF⟩:=r.get bp;have aj:=r.length;have bO:=kD;have d4:EP X a' af Q w s:=⟨z,H,I,iF,q⟩
 by_cases cd:0≤i
 ·have bC:i.toNat=j:=by
   rw[seqIndex_of cd dJ] at bj;exact qan bj
  exact item_listR pl.isList cd (by omega) (by rw[bC];simpa using gD) d4 hs
 ·have bC:(i+(its.toArray.size:Int)).toNat=j:=by
   rw[seqIndex_neg (by omega) cy] at bj;rw[qaf,←aj];exact qan bj
  exact subscriptTail_builtinR (x:=w) pl.isList.typeIs slot_list_getitem.lookup
   (wpAny_getItem_list_neg (Q:=λr bz=>r=w∧EP X a' af Q r bz) pl.isList (by omega) (by rw[qaf]<;>omega) (by omega) (by rw[bC];simpa using gD) ⟨rfl,d4⟩) hs
theorem Ga:IxR X (tM X.K):=by
 intro value slice a' s af H x y v u Q I bZ ci h hs;obtain⟨p,xs,i,z,rfl,rfl,cv,bL,q⟩:=h;cases bZ;obtain⟨t,rfl⟩:=ci;obtain⟨its,r,pl,hz⟩:=I.tuple cv;obtain⟨j,bj,bp,bT,cy,dJ⟩:=Zcy bL;obtain⟨w,gD,iF⟩:=r.get bp;have aj:=r.length;have bO:=kD;have d4:EP X a' af Q w s:=⟨z,H,I,iF,q⟩;exact subscriptTail_builtinR (x:=w) pl.typeIs slot_tuple_getitem.lookup
  (getItem_tuple (j:=j) (Q:=λr bz=>r=w∧EP X a' af Q r bz) pl (by omega) (by omega) (by rw[qaf,←aj];exact bj) (by simpa using gD) ⟨rfl,d4⟩) hs
theorem Gb:IxR X rIxS:=by
 intro value slice a' s af H x y v u Q I bZ ci h hs;obtain⟨z,i,c,rfl,rfl,hz,bL,q⟩:=h;obtain⟨t,rfl⟩:=bZ;obtain⟨t',rfl⟩:=ci;obtain⟨j,bj,bp,bT,cy,dJ⟩:=Zcy bL;have aj:z.cps.toList.length=z.length:=by simp[Str.length]
 rw[aj] at bj cy dJ;have bO:=kD;exact tail_any (typeIs_str s z t) slot_str_getitem.lookup (getItem_str (c:=c) (by
  have bG:decide (i< -(2 ^ 63:Int))=false:=decide_eq_false (by omega);have bK:decide (i≥2 ^ 63)=false:=decide_eq_false (by omega);rw[bG,bK,Bool.or_false]) (by rw[bj];simpa using bp) ⟨.str ⟨#[c]⟩,H,I.tok _,⟨_,rfl⟩,q⟩) hs
noncomputable def rIx (K:Frag):R2:=λx y H Q=>ZeI K x y H Q∨tM K x y H Q∨rIxS x y H Q
theorem Gc:IxR X (rIx X.K):=F'.or (Ga.or Gb)
theorem Gd(its:List Value)(n j:Nat)(u:Value):Obj.mapSeq (·.setIfInBounds j u) {cls:= .type "list",data:= .seq its.toArray n}={cls:= .type "list",data:= .seq (its.set j u).toArray n}:=by
 simp[Obj.mapSeq]
theorem Inv.lst{a':List (Addr×Obj)}{af:St}{H:Hp}{s:Shared}{p:Addr}{xs:List V}(I:Inv X a' af H s)(h:H p=some (.lst xs)):
  ∃(its:List Value)(n:Nat),cL xs its∧s.heap.get? p=some {cls:= .type "list",data:= .seq its.toArray n}∧xs.length≤sizeLine:=by
 obtain⟨z,its,n,r,e⟩:=I.hok p _ h;exact⟨its,n,r,e,z⟩
theorem Inv.lstUpd{a':List (Addr×Obj)}{af:St}{H:Hp}{s:Shared}{p:Addr}{xs ys:List V}{its its':List Value}{n fC:Nat}{f:Obj→Obj}(I:Inv X a' af H s)(h:H p=some (.lst xs))
  (bI:s.heap.get? p=some {cls:= .type "list",data:= .seq its.toArray n}) (bJ:f {cls:= .type "list",data:= .seq its.toArray n}={cls:= .type "list",data:= .seq its'.toArray fC}) (r:cL ys its') (hz:ys.length≤sizeLine) (t:Nat):
  Inv X a' af (upd H p (.lst ys)) {s with heap:=s.heap.update p f,toks:=t}:=by
 have e:(s.heap.update p f).get? p=some {cls:= .type "list",data:= .seq its'.toArray fC}:=by
  rw[Heap.get?_update_self f bI (by rw[bJ]<;>rfl),bJ]
 refine I.write (x:=p) (e:=p) (by rw[h];trivial) (.inl rfl) (λb u a_ q=>(Heap.get?_update_other _ _ (qbH a_)).trans q) ⟨_,e⟩ ?_;exact⟨hz,its',fC,r,e⟩
noncomputable def rSetL:V→V→V→Hp→(Hp→Prop)→Prop:=λo i v H Q=>∃p xs k j,o= .ref p∧i= .int k∧H p=some (.lst xs)∧ixN xs.length k=some j∧Q (upd H p (.lst (xs.set j v)))
theorem kF:Zip X rSetL:=by
 intro a' s af H o i v ds fD u Q I ro ri c' h;obtain⟨p,xs,k,j,rfl,rfl,bD,bC,q⟩:=h;cases ro;obtain⟨t,rfl⟩:=ri;obtain⟨its,n,r,bI,hz⟩:=I.lst bD;obtain⟨bj,bp,bT,cy⟩:=ZhC bC;have aj:=r.length;have bO:=kD;have e2:Inv X a' af (upd H p (.lst (xs.set j v))) {s with heap:=s.heap.update p (Obj.mapSeq (·.setIfInBounds j u))}:=
  I.lstUpd bD bI (Gd its n j u) (r.set c' j) (by rw[qb9];exact hz) s.toks
 by_cases cd:0≤k
 ·have bt:k.toNat=j:=by
   rw[seqIndex_of cd cy] at bj;exact qan bj
  exact PySem.W.ki_setAt bI cd (by omega) (by rw[qaf,←aj];exact cy) (by rw[bt];exact⟨_,e2,q⟩)
 ·have bt:(k+(its.toArray.size:Int)).toNat=j:=by
   rw[seqIndex_neg (by omega) bT] at bj;rw[qaf,←aj];exact qan bj
  exact PySem.W.ki_setBack bI (by omega) (by rw[qaf,←aj];exact bT) (by omega) (by rw[bt];exact⟨_,e2,q⟩)
theorem Zf2(lo hi:Option Int)(n:Nat):(sliceBounds lo hi none n).1=((HT.sIx n 0 lo:Nat):Int)∧(sliceBounds lo hi none n).2.1=((HT.sIx n n hi:Nat):Int)∧(sliceBounds lo hi none n).2.2=1:=by
 refine⟨?_,?_,rfl⟩
 ·cases lo with
  |none=>simp[sliceBounds,HT.sIx]
  |some i=>
   simp only[sliceBounds,HT.sIx,Option.getD_none,show(1:Int) > 0 by decide,if_true]
   by_cases h:i<0
   ·simp only[h,if_true]<;>omega
   ·simp only[h,if_false]<;>omega
 ·cases hi with
  |none=>simp[sliceBounds,HT.sIx]
  |some i=>
   simp only[sliceBounds,HT.sIx,Option.getD_none,show(1:Int) > 0 by decide,if_true]
   by_cases h:i<0
   ·simp only[h,if_true]<;>omega
   ·simp only[h,if_false]<;>omega
theorem ZfH(its:List Value)(lo hi:Option Int):slicePick its.toArray lo hi none=((its.drop (HT.sIx its.length 0 lo)).take (HT.sIx its.length its.length hi-HT.sIx its.length 0 lo)).toArray:=by
 obtain⟨bj,bp,bT⟩:=Zf2 lo hi its.toArray.size;unfold slicePick;rw[bj,bp,bT];simp only[sliceRange_one,pick_run,qaf]<;>rfl
noncomputable def yD (K:Frag):V→Option Int→Option Int→Hp→VK→Prop:=λx lo hi H Q=>∃a xs,x= .ref a∧SqL K H a xs∧∀p,H p=none→Q (.ref p) (upd H p (.lst (hB xs lo hi)))
theorem Ge:SlR X (yD X.K):=by
 intro a' s af H x v fo f9 lo hi sl Q I bZ hs pl hU h;obtain⟨a,xs,rfl,bo,q⟩:=h;cases bZ;obtain⟨its,r,b3,hz⟩:=I.list bo;have eg:=r.length;refine⟨"list",_,slot_list_getitem.lookup,b3.isList.typeIs,?_⟩;refine wpAny_getItem_list_slice b3.isList hs pl hU .none (by simp) ?_ (by rw[qaf]<;>omega);rw[ZfH,←eg];refine⟨.ref s.heap.objs.size,_,I.laid (t':=s.toks) (o:= .lst (hB xs lo hi)) (λb cT q=>Heap.get?_push_of_some _ q) (qaa _) ?_,rfl,q _ (I.hok.fresh (qaa _))⟩;exact⟨qal (yB xs lo hi) hz,_,0,(r.drop (HT.sIx xs.length 0 lo)).take (HT.sIx xs.length xs.length hi-HT.sIx xs.length 0 lo),Heap.get?_push_size _ rfl⟩
noncomputable def js:V→Bool
 | .non=>true
 | .bl _=>true
 | .int _=>true
 | .str _=>true
 |_=>false
noncomputable def eqV:V→V→Bool
 | .non,.non=>true
 | .bl a,.bl b=>a==b
 | .bl a,.int b=>(if a then 1 else 0)==b
 | .int a,.bl b=>a==(if b then 1 else 0)
 | .int a,.int b=>a==b
 | .str a,.str b=>a==b
 |_,_=>false
theorem Znu{A:Around}{s:Shared}{y x:V}{u v:Value}(ci:cE y u)(bZ:cE x v)(yE:js y=true)(ic:js x=true):SeqAt.EqAt A s u v (eqV y x):=by
 cases y with
 |non=>
  cases ci;cases x with
  |non=>cases bZ;exact SeqAt.EqAt.same _
  |bl b=>cases bZ;exact SeqAt.EqAt.none_bool b
  |int b=>obtain⟨t,rfl⟩:=bZ;exact SeqAt.EqAt.none_int b t
  |str b=>obtain⟨t,rfl⟩:=bZ;exact SeqAt.EqAt.none_str b t
  |_=>exact absurd (show false=true from ic) qai
 |bl a=>
  cases ci;cases x with
  |non=>cases bZ;exact SeqAt.EqAt.bool_none a
  |bl b=>cases bZ;exact SeqAt.EqAt.bool_bool a b
  |int b=>obtain⟨t,rfl⟩:=bZ;exact SeqAt.EqAt.bool_int a b t
  |str b=>obtain⟨t,rfl⟩:=bZ;exact SeqAt.EqAt.bool_str a b t
  |_=>exact absurd (show false=true from ic) qai
 |int a=>
  obtain⟨t',rfl⟩:=ci;cases x with
  |non=>cases bZ;exact SeqAt.EqAt.int_none a t'
  |bl b=>cases bZ;exact SeqAt.EqAt.int_bool a t' b
  |int b=>obtain⟨t,rfl⟩:=bZ;exact SeqAt.EqAt.int_int a t' b t
  |str b=>obtain⟨t,rfl⟩:=bZ;exact SeqAt.EqAt.int_str a t' b t
  |_=>exact absurd (show false=true from ic) qai
 |str a=>
  obtain⟨t',rfl⟩:=ci;cases x with
  |non=>cases bZ;exact SeqAt.EqAt.str_none a t'
  |bl b=>cases bZ;exact SeqAt.EqAt.str_bool a t' b
  |int b=>obtain⟨t,rfl⟩:=bZ;exact SeqAt.EqAt.str_int a t' b t
  |str b=>obtain⟨t,rfl⟩:=bZ;exact SeqAt.EqAt.str_str a t' b t
  |_=>exact absurd (show false=true from ic) qai
 |_=>exact absurd (show false=true from yE) qai
noncomputable def eqU (x:V) (u:Value):Bool:=match u with
 | .none=>eqV .non x
 | .bool b=>eqV (.bl b) x
 | .int i _=>eqV (.int i) x
 | .str z _=>eqV (.str z) x
 |_=>false
theorem yF{x y:V}{u:Value}(r:cE y u)(f:js y=true):eqU x u=eqV y x:=by
 cases y with
 |non=>cases r;rfl
 |bl b=>cases r;rfl
 |int i=>obtain⟨t,rfl⟩:=r;rfl
 |str z=>obtain⟨t,rfl⟩:=r;rfl
 |_=>exact absurd (show false=true from f) qai
theorem pb{x:V}:∀{xs:List V}{us:List Value},cL xs us→xs.all js=true→us.any (eqU x)=xs.any λy=>eqV y x
 |_,_,.nil,_=>rfl
 |y::xs,u::us,.cons r t,f=>by
  rw[qcj,qaR] at f;rw[qck,qck,yF r f.1,pb t f.2]
theorem UR{A:Around}{s:Shared}{x:V}{v:Value}(bZ:cE x v)(ic:js x=true):∀{xs:List V}{us:List Value},cL xs us→xs.all js=true→∀u∈us,SeqAt.EqAt A s u v (eqU x u)
 |_,_,.nil,_=>λu hu=>by cases hu
 |y::xs,u::us,.cons r t,f=>λjO hu=>by
  rw[qcj,qaR] at f;rcases qae.mp hu with rfl|hu
  ·rw[yF r f.1];exact Znu r bZ f.1 ic
  ·exact UR bZ ic t f.2 jO hu
noncomputable def inV (x:V) (xs:List V):Bool:=xs.any λy=>eqV y x
noncomputable def rIn (K:Frag) (neg:Bool):R2:=λx y H Q=>∃p xs,y= .ref p∧(SqL K H p xs∨SqT K H p xs)∧js x=true∧xs.all js=true∧Q (.bl (if neg then !inV x xs else inV x xs)) H
theorem Gf:OpR X (compareOp .In) (rIn X.K false):=by
 intro a' s af H x y v u Q I bZ ci h;obtain⟨p,xs,rfl,cv,ic,fs,q⟩:=h;cases ci;rcases cv with cv|cv
 ·obtain⟨its,r,pl,hz⟩:=I.list cv;refine SeqAt.in_listAt (eqU x) pl.isList (λw hw=>UR bZ ic r fs w (by simpa using hw)) ⟨.bl _,H,I,rfl,?_⟩;rw[show its.toArray.any (eqU x)=its.any (eqU x) by simp,pb r fs];exact q
 ·obtain⟨its,r,pl,hz⟩:=I.tuple cv;refine SeqAt.in_tupleAt (eqU x) pl (λw hw=>UR bZ ic r fs w (by simpa using hw)) ⟨.bl _,H,I,rfl,?_⟩;rw[show its.toArray.any (eqU x)=its.any (eqU x) by simp,pb r fs];exact q
theorem Gg:OpR X (compareOp .NotIn) (rIn X.K true):=by
 intro a' s af H x y v u Q I bZ ci h;obtain⟨p,xs,rfl,cv,ic,fs,q⟩:=h;cases ci;rcases cv with cv|cv
 ·obtain⟨its,r,pl,hz⟩:=I.list cv;refine SeqAt.notIn_listAt (eqU x) pl.isList (λw hw=>UR bZ ic r fs w (by simpa using hw)) ⟨.bl _,H,I,rfl,?_⟩;rw[show its.toArray.any (eqU x)=its.any (eqU x) by simp,pb r fs];exact q
 ·obtain⟨its,r,pl,hz⟩:=I.tuple cv;refine SeqAt.notIn_tupleAt (eqU x) pl (λw hw=>UR bZ ic r fs w (by simpa using hw)) ⟨.bl _,H,I,rfl,?_⟩;rw[show its.toArray.any (eqU x)=its.any (eqU x) by simp,pb r fs];exact q
theorem Gh:YW X (.type "list") (λxs H Q=>∃p ys,xs=[.ref p]∧(SqL X.K H p ys∨SqT X.K H p ys)∧∀l,H l=none→Q (.ref l) (upd H l (.lst ys))):=by
 intro a' s af H xs us Q I r h;obtain⟨p,ys,rfl,cv,q⟩:=h;obtain⟨u,rfl,bZ⟩:=Wr r;cases bZ;have d4:∀(its:List Value),cL ys its→ys.length≤sizeLine→∀(h':Heap)(cZ:Nat),(∀b cq,s.heap.get? b=some cq→h'.get? b=some cq)→
   h'.get? s.heap.objs.size=some {cls:= .type "list",dict:=none,data:= .seq its.toArray cZ,slots:=#[]}→EP X a' af Q (.ref s.heap.objs.size) {s with heap:=h'}:=λits c6 hz h' cZ kp e=>
  ⟨.ref s.heap.objs.size,_,I.laid (t':=s.toks) kp (qaa _) (show Z0 X.prog X.w _ h' _ (.lst ys) from⟨hz,its,cZ,c6,e⟩),rfl,q _ (I.hok.fresh (qaa _))⟩
 rcases cv with cv|cv
 ·obtain⟨its,c6,pl,hz⟩:=I.list cv;have eg:=c6.length;obtain⟨o,bI,bu,n,hd⟩:=pl.isList;exact call_list_seq p (.inl rfl) bI bu hd (λh' cZ kp e=>d4 its c6 hz h' cZ kp e) (by simp only[qaf]<;>omega)
 ·obtain⟨its,c6,pl,hz⟩:=I.tuple cv;have eg:=c6.length;obtain⟨o,bI,bu,n,hd⟩:=pl;exact call_list_seq p (.inr rfl) bI bu hd (λh' cZ kp e=>d4 its c6 hz h' cZ kp e) (by simp only[qaf]<;>omega)
def tyV(K:Frag)(T:String)(x:V)(H:Hp):Prop:=match x with
 | .str _=>T="str"
 | .int _=>T="int"
 | .ref p=>(T="list" ∧∃xs,SqL K H p xs)∨(T="tuple" ∧∃o,K.lookup p=some o∧o.cls= .type "tuple" ∧o.dict=none)∨
   (T="dict" ∧((∃kvs,H p=some (.dK kvs))∨∃kvs,H p=some (.dT kvs)))∨(T="set" ∧∃S n,H p=some (.set S n))
 |_=>False
theorem ZmT{a':List (Addr×Obj)}{af:St}{H:Hp}{s:Shared}{T:String}{x:V}{v:Value}(I:Inv X a' af H s)(r:cE x v)(ty:tyV X.K T x H):
  s.TypeIs v T∧∀a,v= .ref a→∃cT,s.heap.get? a=some cT∧cT.dict=none:=by
 cases x with
 |str z=>
  obtain⟨t,rfl⟩:=r;cases (show T="str" from ty);exact⟨typeIs_str s z t,λ_ e=>nomatch e⟩
 |int i=>
  obtain⟨t,rfl⟩:=r;cases (show T="int" from ty);exact⟨typeIs_int s i t,λ_ e=>nomatch e⟩
 |ref p=>
  cases r;rcases ty with⟨rfl,xs,cv⟩|⟨rfl,o,bt,bu,hd⟩|⟨rfl,bt⟩|⟨rfl,S,n,bt⟩
  ·obtain⟨its,_,pl,_⟩:=I.list cv;refine⟨pl.isList.typeIs,λa e=>?_⟩;cases e;obtain⟨o,n,e,c,hd,_⟩:=pl;exact⟨o,e,hd⟩
  ·refine⟨⟨o,I.kIn p o bt,bu⟩,λa e=>?_⟩;cases e;exact⟨o,I.kIn _ o bt,hd⟩
  ·have z:∃o,s.heap.get? p=some o∧o.ExactDict:=by
    rcases bt with⟨kvs,bt⟩|⟨kvs,bt⟩
    ·obtain⟨_,_,_,_,o,_,_,e,ex,_⟩:=I.hok p _ bt;exact⟨o,e,ex⟩
    ·obtain⟨_,_,_,_,o,_,_,e,ex,_⟩:=I.hok p _ bt;exact⟨o,e,ex⟩
   obtain⟨o,e,ex⟩:=z;refine⟨⟨o,e,ex.1⟩,λa bK=>?_⟩;cases bK;exact⟨o,e,ex.2.1⟩
  ·obtain⟨o,_,_,_,e,ex,_⟩:=I.hok p _ bt;refine⟨⟨o,e,ex.1⟩,λa bK=>?_⟩;cases bK;exact⟨o,e,ex.2.1⟩
 |_=>exact False.elim ty
noncomputable def tBM (K:Frag) (T:String) (r:V→List V→Hp→VK→Prop) (to:TE) (t:TA):TE:=λaf H Q=>to af H λx bn=>tyV K T x bn∧t af bn λxs bv=>r x xs bv Q
variable {o e:Expr}{bE:List Expr}{to:TE}{t:TA}{name:Str}{dv dy:Pos}{T id:String}{r:V→List V→Hp→VK→Prop}
theorem Zn1(lw:PlainAttrs T)(slot:Slot T name id)(ie:typeOf (.builtin id)=pure (.type "method_descriptor"))(bA:MtR X id r)(bI:PE X o to)(bF:PA X (e::bE) t)
  (ju:attributeBase o name X.env (eval o X.env)=eval o X.env:=by rfl)
  (tN:((backTo dy (starEach (e::bE) X.env)).all (λx=>!x.1)&&(backToKw dy (keywordEach [] X.env)).all (λx=>x.1.isSome)
   &&decide ((e::bE).length+([]:List Keyword).length+(if([]:List Keyword).isEmpty then 0 else 1)<30))=true:=by rfl)
  (jv:(dv.endLine==dy.line)=true:=by rfl) (hs:starEach (e::bE) X.env=(false,eval e X.env)::starEach bE X.env:=by rfl) (mw:(backTo dy (starEach bE X.env)).any (·.1)=false:=by rfl):
  PE X (.Call (.Attribute o name dv) (e::bE) [] dy) (tBM X.K T r to t):=by
 intro a' s af H Q I h;refine wpAny_Call_method_late ju tN jv rfl (thn (bI a' s af H _ I h) λv bw ⟨x,bn,bM,cm,ty,cg⟩=>?_);obtain⟨bj,bp⟩:=ZmT bM cm ty;refine⟨T,id,lw,slot,ie,bj,bp,?_⟩;have mx:=bF dy a' bw af bn _ bM cg;rw[hs] at mx⊢;refine Calls.callWith_builtin (by show(false||(backTo dy (starEach bE X.env)).any (·.1))=false;rw[mw]<;>rfl) (Calls.evalArgs_plain ?_);exact thn mx λus bU ⟨vs,bv,cF,cY,c7⟩=>bA a' bU af bv x vs v us Q cF cm cY c7
end
def MtM(X:Cx)(id:String)(r:V→List V→Hp→VK→Prop):Prop:=
 ∀(a':List (Addr×Obj))(s:Shared)(af:St)(H:Hp)(x:V)(xs:List V)(v:Value)(us:List Value)(Q:VK),Inv X a' af H s→cE x v→cL xs us→r x xs H Q→
  wpAny (model X.prog X.w) X.A (call (.builtin id) (v::us)) (EP X a' af Q) X.xe s
theorem cL.one:∀{x:V}{us:List Value},cL [x] us→∃u,us=[u]∧cE x u
 |_,_,.cons r .nil=>⟨_,rfl,r⟩
theorem cL.two:∀{x y:V}{us:List Value},cL [x,y] us→∃u v,us=[u,v]∧cE x u∧cE y v
 |_,_,_,.cons r (.cons q .nil)=>⟨_,_,rfl,r,q⟩
theorem cL.rep{xs:List V}{us:List Value}(h:cL xs us):∀k:Nat,cL (List.replicate k xs).flatten (List.replicate k us).flatten
 |0=> .nil
 |k+1=>by
  rw[qbN,qbN,qcg,qcg];exact cL.append h (cL.rep h k)
theorem Zfr(its:List Value):∀(k:Nat)(c1:List Value),
  List.foldl (λx1 x2=>x1++x2) c1.toArray (List.replicate k its.toArray)=(c1++(List.replicate k its).flatten).toArray
 |0,c1=>by simp
 |k+1,c1=>by
  have e:c1.toArray++its.toArray=(c1++its).toArray:=by simp
  have bK:(c1++its)++(List.replicate k its).flatten=c1++(List.replicate (k+1) its).flatten:=by
   rw[qbN,qcg,List.append_assoc]
  rw[←bK,←Zfr its k (c1++its),←e,qbN,List.foldl_cons]
section
variable {X:Cx}{a':List (Addr×Obj)}{af:St}{H:Hp}{s:Shared}{l b:Addr}{xs ys zs:List V}
theorem Inv.lset{its its':List Value}{n:Nat}{f:Array Value→Array Value}{t':Nat}(I:Inv X a' af H s)(hf:H l=some (.lst xs))
  (e:s.heap.get? l=some {cls:= .type "list",data:= .seq its.toArray n}) (bJ:f its.toArray=its'.toArray) (b_:cL ys its') (hz:ys.length≤sizeLine):
  Inv X a' af (upd H l (.lst ys)) {s with heap:=s.heap.update l (Obj.mapSeq f),toks:=t'}:=by
 have q:=PySem.IsL.update e f;rw[bJ] at q;refine I.write (x:=l) (e:=l) (by rw[hf];exact trivial) (.inl rfl) (λkG u a_ hu=>(Heap.get?_update_other s.heap (Obj.mapSeq f) (qbH a_)).trans hu) ⟨_,q⟩ ?_;exact⟨hz,its',_,b_,q⟩
theorem Inv.lnew{its:List Value}{t':Nat}(I:Inv X a' af H s)(b_:cL ys its)(hz:ys.length≤sizeLine):
  Inv X a' af (upd H s.heap.objs.size (.lst ys)) {s with heap:=s.heap.push {cls:= .type "list",data:= .seq its.toArray},toks:=t'}:=
 I.laid (λ_ _ q=>Heap.get?_push_of_some _ q) (qaa _) ⟨hz,its,0,b_,Heap.get?_push_size _ rfl⟩
theorem Inv.fresh(I:Inv X a' af H s):H s.heap.objs.size=none:=I.hok.fresh (qaa _)
theorem Inv.lstM(I:Inv X a' af H s)(hf:H l=some (.lst xs)):xs.length≤sizeLine∧∃(its:List Value)(n:Nat),cL xs its∧xs.length=its.length∧s.heap.get? l=some {cls:= .type "list",data:= .seq its.toArray n}:=by
 obtain⟨z,its,n,r,e⟩:=I.hok l _ hf;exact⟨z,its,n,r,r.length,e⟩
theorem Zgn{n:Nat}(h:n≤sizeLine):Builtin.List.listTooLong n=false:=by
 unfold Builtin.List.listTooLong;exact decide_eq_false (by omega)
end
section
variable {X:Cx}
noncomputable def rAppend:V→List V→Hp→VK→Prop:=λx vs H Q=>∃l xs y,x= .ref l∧vs=[y]∧H l=some (.lst xs)∧xs.length<sizeLine∧Q .non (upd H l (.lst (xs++ [y])))
theorem hg:MtM X "list.append" rAppend:=by
 intro a' s af H x vs v us Q I bZ c' h;obtain⟨l,xs,y,rfl,rfl,hf,hz,q⟩:=h;cases bZ;obtain⟨u,rfl,d_⟩:=c'.one;obtain⟨z,its,n,r,aj,e⟩:=I.lstM hf;refine call_meets F.slot_list_append ⟨_,e,rfl⟩ F.entry_list_append (F.args_list_append_2 _ _) (PySem.list_append l its.toArray n u (by rw[qaf];omega)) ⟨e,?_⟩;refine⟨.non,_,I.lset (its':=its++ [u]) hf e (by simp) (r.append (.cons d_ .nil)) ?_,rfl,q⟩;rw[qaT,List.length_singleton];omega
noncomputable def rExtend:V→List V→Hp→VK→Prop:=λx vs H Q=>∃l b xs zs,x= .ref l∧vs=[.ref b]∧H l=some (.lst xs)∧H b=some (.lst zs)∧xs.length+zs.length≤sizeLine∧Q .non (upd H l (.lst (xs++zs)))
theorem Gi:MtM X "list.extend" rExtend:=by
 intro a' s af H x vs v us Q I bZ c' h;obtain⟨l,b,xs,zs,rfl,rfl,hf,gE,hz,q⟩:=h;cases bZ;obtain⟨u,rfl,d_⟩:=c'.one;cases d_;obtain⟨z,its,n,r,aj,e⟩:=I.lstM hf;obtain⟨cI,jr,fl,cY,f_,bK⟩:=I.lstM gE;have hsz:its.toArray.size+jr.toArray.size≤sizeLine:=by rw[qaf,qaf];omega
 have tO:¬(!its.toArray.isEmpty&&Builtin.List.listTooLong (its.toArray.size+jr.toArray.size))=true:=by
  rw[Zgn hsz,Bool.and_false];exact qai
 refine call_meets F.slot_list_extend ⟨_,e,rfl⟩ F.entry_list_extend (F.args_list_extend_2 _ _)
  (AutoSeq1.list_extend_list_list_0 l its.toArray n b jr.toArray fl tO (by rw[qaf];omega) (by omega)) ⟨e,bK,?_⟩
 refine⟨.non,_,I.lset (its':=its++jr) hf e (by simp) (r.append cY) ?_,rfl,q⟩;rw[qaT];omega
noncomputable def rCat:R2:=λx y H Q=>∃l b xs zs,x= .ref l∧y= .ref b∧H l=some (.lst xs)∧H b=some (.lst zs)∧xs.length+zs.length≤sizeLine∧∀p,H p=none→Q (.ref p) (upd H p (.lst (xs++zs)))
theorem Gj:OpR X (binaryOp .Add) rCat:=by
 intro a' s af H x y v u Q I bZ ci h;obtain⟨l,b,xs,zs,rfl,rfl,hf,gE,hz,q⟩:=h;cases bZ;cases ci;obtain⟨z,its,n,r,aj,e⟩:=I.lstM hf;obtain⟨cI,jr,fl,cY,f_,bK⟩:=I.lstM gE;refine PySem.P.add_list e bK ?_ (by rw[qaf,qaf];omega);have dH:its.toArray++jr.toArray=(its++jr).toArray:=by simp
 rw[dH];exact⟨.ref _,_,I.lnew (t':=s.toks) (r.append cY) (by rw[qaT];omega),rfl,q _ I.fresh⟩
noncomputable def rRep:R2:=λx y H Q=>∃l k xs,x= .ref l∧y= .int k∧H l=some (.lst xs)∧ -(2 ^ 63)≤k∧k<2 ^ 63∧xs.length*k.toNat≤sizeLine∧
 ∀p,H p=none→Q (.ref p) (upd H p (.lst (List.replicate k.toNat xs).flatten))
theorem Zmr{cM:Type}(xs:List cM)(k:Nat):(List.replicate k xs).flatten.length=k*xs.length:=by
 induction k with
 |zero=>simp
 |succ k bQ=>rw[qbN,qcg,qaT,bQ,Nat.succ_mul,Nat.add_comm]
theorem Gk:OpR X (binaryOp .Mult) rRep:=by
 intro a' s af H x y v u Q I bZ ci h;obtain⟨l,k,xs,rfl,rfl,hf,bj,bp,hz,q⟩:=h;cases bZ;obtain⟨t,rfl⟩:=ci;obtain⟨z,its,n,r,aj,e⟩:=I.lstM hf;have eg:its.toArray.size*k.toNat≤sizeLine:=by rw[qaf,←aj];exact hz
 have Gm:¬its.toArray.size*k.toNat > (2 ^ 63-1) / 8:=by
  have:(sizeLine:Nat)≤(2 ^ 63-1) / 8:=by decide
  omega
 have Gn:¬(!Builtin.List.listFitsIndex k)=true:=by
  rw[fitsIndex_both bj bp];exact qai
 have tO:¬Builtin.List.listTooLong (its.toArray.size*k.toNat)=true:=by
  rw[Zgn eg];exact qai
 have kH:List.foldl (λx1 x2=>x1++x2) #[] (List.replicate (if its.toArray.isEmpty=true then 0 else k.toNat) its.toArray)=(List.replicate k.toNat its).flatten.toArray:=by
  have dG:∀m:Nat,List.foldl (λx1 x2=>x1++x2) #[] (List.replicate m its.toArray)=(List.replicate m its).flatten.toArray:=λm=>by
   have:=Zfr its m [];rw[List.nil_append] at this;exact this
  rw[dG];cases its with
  |nil=>simp
  |cons a c6=>rw[if_neg (by simp)]
 refine wpAny_binaryOp_repeat_ref (T:="list") (U:="int") (by decide) ⟨_,e,rfl⟩ (λbz=>typeIs_int bz k t) noFill_list_mul F.fills_int_mul F.slot_int_rmul repeat_list F.slot_int_index.lookup
  (call_meets F.slot_int_rmul (typeIs_int s k t) F.entry_int_rmul (F.args_int_rmul_2 _ _) (int___rmul___int_list k t l its.toArray n)
   ⟨e,rfl,⟨_,e,rfl⟩,call_meets F.slot_list_mul ⟨_,e,rfl⟩ F.entry_list_mul (F.args_list_mul_2 _ _) (AutoListH.list___mul___list_int_3 l its.toArray n k t Gn Gm tO) ⟨e,?_⟩⟩)
 rw[kH];exact⟨.ref _,_,I.lnew (t':=s.toks) (r.rep k.toNat) (by rw[Zmr,qbe];exact hz),rfl,q _ I.fresh⟩
end
section
variable {prog:Program}{w:World}{A:Around}{E:Value→Shared→Prop}{s:Shared}
end
section
variable {X:Cx}
end
end L2
namespace Att
open PySem PySem.W PySem.Calls PyProof.Rows
theorem Go{P:Params}{h:Heap}:∀(ns:List Int)(vs:List Value),WellAll P h vs (ns.map WData.int)→IntsAre vs ns:=by
 intro ns
 induction ns with
 |nil=>
  intro vs w;rw[List.map_nil] at w;cases w;exact .nil
 |cons n ns bQ=>
  intro vs w;rw[List.map_cons] at w;cases w with
  |cons a b=>
   cases a;exact .cons _ _ (bQ _ b)
theorem Zja{l:OpenLaw}{n:Nat}(bO:l.most=some n){P:Params}{h:Heap}{args:List WData}{tP:List Value}
  (q6:l.row.toRowW.claim.pre args=true) (iG:WellAll P h tP args):
  ∃a vs ns,tP=[Value.ref a]∧args=[WData.list (ns.map WData.int)]∧h.get? a=some {cls:= .type "list",data:= .seq vs.toArray}∧IntsAre vs ns∧ns.length≤n:=by
 have lx:WShape.hasAll [] args [.list .int]=true:=(pre_splitW q6).1;have bu:l.pre.holds [] {args:=args}=true:=(pre_splitW q6).2;obtain⟨d,r,rfl,bj,bp⟩:=hasAllW_cons lx;obtain rfl:=hasAllW_nil bp;obtain⟨xs,rfl,bT⟩:=hasW_list bj;obtain⟨ns,rfl⟩:=items_int bT;have eg:ns.length≤n:=by
  unfold OpenLaw.pre at bu;have cy:(WTm.not (.lt (.lit (.int (n:Int))) (.len (.arg 0)))).holds [] {args:=[.list (ns.map .int)]}=true:=by
   have cy:=(holds_andW bu).1;rw[bO] at cy;exact cy
  have dJ:=condW_of cy (w_not (w_lt w_lit (w_len_list (w_arg rfl))));rw[GE] at dJ;refine Nat.le_of_not_lt λq=>?_;have i1:(n:Int)<((ns.length:Nat):Int):=by omega
  first
   |(rw[decide_eq_true i1] at dJ;exact absurd dJ (by decide))
   |(simp at dJ;omega)
 cases iG with
 |cons fU kq=>
  cases kq;cases fU with
  |list bI hall=>exact⟨_,_,ns,rfl,rfl,bI,Go ns _ hall,eg⟩
theorem Gp(l:OpenLaw)(args:List WData):l.row.toRowW.claim.post args (.bool true) args=true:=
 postW_of (r:=l.row.toRowW) (X:=(true==true))
  (show WShape.has [] (.bool true) .bool=true by first|rfl|decide|simp[WShape.has,WShape.arms,WShape.armsAll])
  (show(WTm.eq .res (.lit (.bool true))).value [] {args:=args,res:=some (.bool true),after:=args}=some (.bool (true==true)) from w_eq_bool (w_res rfl) w_lit) rfl
theorem Zg7{l:OpenLaw}{n:Nat}{q:Program}{nK:List Str}{nL:(Str→Option Value)→Heap→Prop}{ly:World→Heap→Prop}{d:DefRec}
  (bO:l.most=some n) (iH:d.params.defaults=[])
  (call:∀(w:World)(s₀ dn:Shared)(mg i2:Str→Option Value)(hV:Addr)(o:Obj)(ei c8 e7:Value)(a:Addr)(vs:List Value)(ns:List Int),
   Ground q nK [] nL w s₀ mg i2 dn.heap→ly w dn.heap→
   dn.heap.get? hV=some o→o.data= .func (docDef d.name d.params d.body d.scope ei c8 e7)→dn.heap.CodeRec c8 d.name→mg d.name=some (.ref hV)→
   dn.heap.get? a=some {cls:= .type "list",data:= .seq vs.toArray}→IntsAre vs ns→ns.length≤n→dn.gens=#[]→
   codeAny (model l.prog w) callerA (.call (.ref hV) ⟨[.ref a],[]⟩) (λr bz=>r= .ok (.ret (.bool true))∧OldK dn.heap bz.heap∧bz.os=dn.os∧AllBare bz.gens) dn):
  WalkO q nK nL ly l.row.toRowW d [] (λf vs=>PySem.call f vs):=by
 intro w s₀ dn mg i2 G Y hV o ei c8 e7 qZ kV bI hd iA nM nN bH args tP as q6 hlay tQ iG jV;obtain rfl:qZ= .none:=Dflts.none nM iH;obtain rfl:kV= .none:=Dflts.noKw nM;obtain⟨a,vs,ns,rfl,rfl,tR,tS,eg⟩:=Zja bO q6 iG;refine enter_call (codeAny_mono (call w s₀ dn mg i2 hV o ei c8 e7 a vs ns G Y bI (fd_plain hd) iA nN tR tS eg bH) λr bz cv=>?_);obtain⟨rfl,bp,bT,cy⟩:=cv;exact⟨.inl ⟨.bool true,.bool true,[],rfl,λ_=>rfl,.bool true,Gp l _,λ_=>⟨List.Pairwise.nil,λ_ bA=>(nomatch bA)⟩⟩,bp,bT,cy⟩
section
variable {prog:Program}{w:World}{A:Around}{E:Value→Shared→Prop}{s:Shared}{K:Frag}
end
end Att
namespace L2
open PySem PySem.Spec PyProof.Rows
theorem q7:∀{vs:List Value}{ns:List Int},IntsAre vs ns→cL (ns.map V.int) vs
 |_,_,.nil=> .nil
 |_,_,.cons n t h=> .cons ⟨t,rfl⟩ (q7 h)
def tT(H:Hp):Prop:=∀b,H b=none∨∃o xs,H b=some (.frz o (.lst xs))
theorem Zkj{P:Program}{w:World}{K:Frag}{mg i2:Str→Option Value}{CX:CXT}{k:Nat}{hV a:Addr}{fd:FuncData}{x:Str}{sp:Sp}{dn:Shared}{vs:List Value}{ns:List Int}
  (eD:K.In dn.heap) (kI:dn.heap.Ns mainGlobals mg) (a_:dn.heap.Ns builtinsNs i2) (tU:∀x:Str,x≠"__name__" →i2 x=bootBuiltins x) (Gq:dn.heap.NoLimit) (bH:dn.gens=#[])
  (bF:dn.heap.get? a=some {cls:= .type "list",data:= .seq vs.toArray}) (hi:IntsAre vs ns) (aj:ns.length≤sizeLine) (bq:eI k callerA)
  (F:∀base:Heap,K.In base→base.Ns mainGlobals mg→YT P w K mg base CX k hV fd [x] sp) (Gs:∀(s:Shared)(u:Value),BindsTo s fd ⟨[u],[]⟩ [(x,u)])
  (jT:∀H:Hp,tT H→SqL K H a (ns.map V.int)→sp [.ref a] H (λv _=>v= .bl true) λ_ _ _=>False)
  (tV:∀H e bz,CX [] H dn (λ_ _ _=>False) e bz→False):
  codeAny (model P w) callerA (.call (.ref hV) ⟨[.ref a],[]⟩) (λr bz=>r= .ok (.ret (.bool true))∧OldK dn.heap bz.heap∧bz.os=dn.os∧AllBare bz.gens) dn:=by
 have c':=q7 hi;have Gu:=hi.length;have yG:∀H:Hp,tT H→SqL K H a (ns.map V.int)→HOk P w H dn.heap→(∀b,H b≠none→b=a)→(H a≠none→K.lookup a=none)→
   codeAny (model P w) callerA (.call (.ref hV) ⟨[.ref a],[]⟩) (λr bz=>r= .ok (.ret (.bool true))∧OldK dn.heap bz.heap∧bz.os=dn.os∧AllBare bz.gens) dn:=by
  intro H hO di hok mx d9;have yH:∀{b:Addr}{o:Obj},dn.heap.get? b=some o→H b=none→(km dn.heap H).get? b=some o:=λe n=>ZkL e n;have o9:∀{b:Addr}{o:Obj}{bE:Array DictEntry}{ep:Nat},dn.heap.get? b=some o→o.data= .dict bE ep→H b=none:=λ{b o bE ep} e d=>by
   cases q:H b with
   |none=>rfl
   |some u=>
    have cf:b=a:=mx b (by rw[q];simp);subst cf;rw[bF] at e;cases e;have d':Data.seq vs.toArray _=Data.dict bE ep:=d;cases d'
  have q8:∀{b:Addr}{m:Str→Option Value},dn.heap.Ns b m→(km dn.heap H).Ns b m:=λ{b m} ⟨o,bE,ep,e,d,r⟩=>⟨o,bE,ep,yH e (o9 e d),d,r⟩;have yI:K.In (km dn.heap H):=λb o e=>yH (eD b o e) (by
   cases q:H b with
   |none=>rfl
   |some u=>
    have cf:b=a:=mx b (by rw[q];simp);subst cf;rw[d9 (by rw[q];simp)] at e;cases e)
  have my:Mod K mg (km dn.heap H):=⟨yI,q8 kI,⟨i2,q8 a_,tU⟩,let⟨Gv,bj,bp⟩:=Gq;⟨Gv,q8 bj,bp⟩⟩;have ea:Zdy P w K mg (km dn.heap H) callerA [] dn H:=⟨rfl,my,λb o e=>Zl9 e,Nat.le_of_eq (Fw _ _),trivial,λb a_=>absurd (show b∈([]:List Addr) from a_) (by simp),hok,.of_eq bH⟩;refine codeAny_mono ((F _ yI (q8 kI)).run callerA [] dn H ⟨[.ref a],[]⟩ [.ref a] [.ref a] _ _ bq ea (Gs dn (.ref a)) (.cons rfl .nil) (jT H hO di)) λr bz h=>?_;cases r with
  |error e=>exact(tV H e bz h).elim
  |ok gk=>
   cases gk with
   |next=>exact False.elim h
   |brk=>exact False.elim h
   |cont=>exact False.elim h
   |ret u=>
    obtain⟨v,ae,os,bare,un,Gw,c6,q⟩:=h;have i1:v= .bl true:=q;subst i1;obtain rfl:u=Value.bool true:=c6;refine⟨rfl,OldK.of_keep λb o e=>?_,os,bare⟩;cases q:H b with
    |none=>exact un.keep b o e q (by intro z;exact absurd (show b∈([]:List Addr) from z) (by simp)) (by simp)
    |some u=>
     rcases hO b with z|⟨cT,xs,z⟩
     ·rw[q] at z;cases z
     ·have cI:=un.frzs b cT _ z;obtain⟨bG,_⟩:=hok b _ z;obtain⟨bK,_⟩:=Gw b _ cI;rw[e] at bG;cases bG;exact bK
 cases bt:K.lookup a with
 |some o=>
  have e:=eD a o bt;rw[bF] at e;cases e;refine yG (λ_=>none) (λ_=> .inl rfl) (.inr ⟨_,vs.toArray,_,bt,rfl,rfl,rfl,by rw[qaf,Gu];exact aj,by simpa using c'⟩) (λb u z=>by have f7:(none:Option HO)=some u:=z;cases f7) (λb z=>absurd rfl z) λz=>absurd rfl z
 |none=>
  refine yG (λb=>if b=a then some (.frz {cls:= .type "list",data:= .seq vs.toArray} (.lst (ns.map V.int))) else none) (λb=>?_) (.inl (.inr ⟨{cls:= .type "list",data:= .seq vs.toArray},if_pos rfl⟩)) (λb u z=>?_) (λb z=>?_) λ_=>bt
  ·by_cases a_:b=a
   ·exact .inr ⟨_,_,if_pos a_⟩
   ·exact .inl (if_neg a_)
  ·by_cases a_:b=a
   ·have f7:=(if_pos a_).symm.trans z;cases f7;subst a_;exact⟨bF,by rw[GE];exact aj,vs,_,c',bF⟩
   ·have f7:=(if_neg a_).symm.trans z;cases f7
  ·by_cases a_:b=a
   ·exact a_
   ·exact absurd (if_neg a_) z
theorem Zl3{l:PySem.W.OpenLaw}{n k:Nat}{q:Program}{nK:List Str}{nL:(Str→Option Value)→Heap→Prop}{ly:World→Heap→Prop}{d:DefRec}{K:Params→Frag}{CX:World→CXT}{sp:World→Sp}{x:Str}
  (bO:l.most=some n) (ia:n≤sizeLine) (iH:d.params.defaults=[]) (bq:eI k callerA)
  (tW:∀(w:World)(h:Heap),ly w h→(K w.params).In h)
  (F:∀(w:World)(mg:Str→Option Value)(hV:Addr)(h:Heap),(K w.params).In h→h.Ns mainGlobals mg→mg d.name=some (.ref hV)→
   ∃fd:FuncData,(∀(s:Shared)(u:Value),BindsTo s fd ⟨[u],[]⟩ [(x,u)])∧
    ∀base:Heap,(K w.params).In base→base.Ns mainGlobals mg→YT l.prog w (K w.params) mg base (CX w) k hV fd [x] (sp w))
  (jT:∀(w:World)(H:Hp)(a:Addr)(ns:List Int),ns.length≤n→tT H→SqL (K w.params) H a (ns.map V.int)→sp w [.ref a] H (λv _=>v= .bl true) λ_ _ _=>False)
  (tV:∀(w:World)(H:Hp)(s:Shared)(e:Value)(bz:Shared),CX w [] H s (λ_ _ _=>False) e bz→False):
  PySem.W.WalkO q nK nL ly l.row.toRowW d [] (λf vs=>PySem.call f vs):=by
 refine Att.Zg7 bO iH λw s₀ dn mg i2 hV o ei c8 e7 a vs ns G Y bI hd iA nN tR tS eg bH=>?_;have eD:=tW w _ Y;obtain⟨fd,a_,lz⟩:=F w mg hV _ eD G.T.g nN;exact Zkj eD G.T.g G.T.b G.T.builtins G.T.nolimit bH tR tS (qal eg ia) bq lz a_ (λH hO di=>jT w H a ns eg hO di) λH e bz=>tV w H dn e bz
noncomputable def Yh (s:Stmt) (j:Nat):Stmt:=match s with
 | .ClassDef _ _ _ body _ _ _ _ _ _ _=>body.getD j (.Pass ⟨0,0,0,0⟩)
 |_=> .Pass ⟨0,0,0,0⟩
noncomputable def jw (s:Stmt):Arguments:=match s with
 | .FunctionDef _ a _ _ _ _ _ _ _ _=>a
 |_=>{posonlyargs:=[],args:=[],vararg:=none,kwonlyargs:=[],kw_defaults:=[],kwarg:=none,defaults:=[]}
noncomputable def iI (s:Stmt):List Stmt:=match s with
 | .FunctionDef _ _ b _ _ _ _ _ _ _=>b
 |_=>[]
noncomputable def cu (s:Stmt):Scope:=match s with
 | .FunctionDef _ _ _ _ _ _ b8 _ _ _=>b8
 |_=>{kind:= .function,names:=[],isGenerator:=false,isCoroutine:=false}
noncomputable abbrev E0:XK:=λ_ _ _=>False
structure Fun(K:Frag)(x qual:Str)(st:Stmt)(f:Addr)(fd:FuncData):Prop where
 ex:∃(fg:Value)(d2:Option Addr)(kV e7 ei:Value)(an:Option Addr)(cz ct:Value)(gC:Array (Option Value)),
  fd=fnOf x qual (jw st) (iI st) (cu st) .none kV e7 ei an cz ct∧K.lookup f=some ⟨fg,d2,.func fd,gC⟩∧codeIn K cz qual=true
 kp:keepIn K (.ref f)=true
section
variable {P:Program}{w:World}{K:Frag}{mg:Str→Option Value}{base:Heap}
theorem Fun.binds{x qual:Str}{st:Stmt}{f:Addr}{fd:FuncData}{b':List Str}(F:Fun K x qual st f fd)
  (h:∀(kV e7 ei:Value)(an:Option Addr)(cz ct:Value)(us:List Value),us.length=b'.length→bindArgs (fnOf x qual (jw st) (iI st) (cu st) .none kV e7 ei an cz ct) ⟨us,[]⟩=pure (b'.zip us)):WI K fd b' []:=by
 obtain⟨fg,d2,kV,e7,ei,an,cz,ct,gC,rfl,lk,iA⟩:=F.ex;exact .all (h kV e7 ei an cz ct)
theorem nO{x qual:Str}{st:Stmt}{f:Addr}{fg:Value}{d2 an:Option Addr}{gC:Array (Option Value)}{kV e7 ei cz ct:Value}(l:K.lookup f=some ⟨fg,d2,.func (fnOf x qual (jw st) (iI st) (cu st) .none kV e7 ei an cz ct),gC⟩)
  (c:codeIn K cz qual=true) (k:keepIn K (.ref f)=true):Fun K x qual st f (fnOf x qual (jw st) (iI st) (cu st) .none kV e7 ei an cz ct):=⟨⟨fg,d2,kV,e7,ei,an,cz,ct,gC,rfl,l,c⟩,k⟩
end
theorem dj{n:Nat}(h:n≤1000):n<sizeLine:=qaL h (by decide)
section
variable {X:Cx}
theorem pv(i:Nat){x:Str}{pos:Pos}(ed:X.N[i]? =some x:=by rfl)(b_:Vis X.env.scope x:=by first|exact Or.inl rfl|exact Or.inr (Or.inl rfl)|exact Or.inr (Or.inr rfl))(hd:(x==("__debug__" :Str))=false:=by decide)
  (iA:(x==("__classdict__" :Str))=false:=by decide):PE X (.Name x pos) (ZgX i):=Znv ed b_ hd iA
end
theorem Zf7{A B:Prop}(h:B):if false=true then A else B:=by
 rw[if_neg qai];exact h
theorem Zgh{A B:Prop}(h:A):if true=true then A else B:=by
 rw[if_pos rfl];exact h
theorem U7{c A B:Prop}[Decidable c](bj:c→A)(bp:¬c→B):if c then A else B:=by
 by_cases h:c
 ·rw[if_pos h];exact bj h
 ·rw[if_neg h];exact bp h
def Ze(H ae:Hp):Prop:=∀b o,H b=some o→ae b=some o
theorem Ze.refl(H:Hp):Ze H H:=λ_ _ h=>h
theorem Ze.trans{H bn bv:Hp}(a:Ze H bn)(b:Ze bn bv):Ze H bv:=λc o h=>b c o (a c o h)
theorem Ze.seq{K:Frag}{H ae:Hp}{a:Addr}{xs:List V}(e:Ze H ae)(h:SqL K H a xs):SqL K ae a xs:=by
 rcases h with(h|⟨o,h⟩)|h
 ·exact .inl (.inl (e _ _ h))
 ·exact .inl (.inr ⟨o,e _ _ h⟩)
 ·exact .inr h
section
variable {dD:Type}[DecidableEq dD]
noncomputable def valV (kvs:List (dD×V)) (k:dD):Option V:=(kvs.find? λkv=>decide (kv.1=k)).map (·.2)
noncomputable def e8 (kvs:List (dD×V)) (k:dD) (v:V):List (dD×V):=
 if(kvs.any λkv=>decide (kv.1=k))=true then kvs.map (λkv=>if kv.1=k then(kv.1,v) else kv) else kvs++ [(k,v)]
theorem iJ{p:dD×V}{r:List (dD×V)}{k:dD}(e:p.1=k):valV (p::r) k=some p.2:=by simp[valV,qbC,e]
theorem iK{p:dD×V}{r:List (dD×V)}{k:dD}(e:¬p.1=k):valV (p::r) k=valV r k:=by simp[valV,qbC,e]
theorem W1(k:dD):∀kvs:List (dD×V),(kvs.any λkv=>decide (kv.1=k))=(valV kvs k).isSome
 | []=>rfl
 |p::r=>by
  rw[qck]
  by_cases e:p.1=k
  ·simp only[iJ e,decide_eq_true e,Bool.true_or,Option.isSome_some]
  ·rw[iK e,decide_eq_false e,Bool.false_or];exact W1 k r
theorem yJ(k j:dD)(y:V):∀kvs:List (dD×V),valV (kvs.map λkv=>if kv.1=k then(kv.1,y) else kv) j=(valV kvs j).map λx=>if j=k then y else x
 | []=>rfl
 |p::r=>by
  have bQ:=yJ k j y r;rw[List.map_cons]
  by_cases h:p.1=k
  ·rw[if_pos h]
   by_cases e:p.1=j
   ·rw[iJ (p:=(p.1,y)) e,iJ e,qca,if_pos (e.symm.trans h)]
   ·rw[iK (p:=(p.1,y)) e,iK e,bQ]
  ·rw[if_neg h]
   by_cases e:p.1=j
   ·rw[iJ (p:=p) e,iJ e,qca,if_neg (λz=>h (e.trans z))]
   ·rw[iK (p:=p) e,iK e,bQ]
theorem ZeV(k j:dD)(y:V):∀kvs:List (dD×V),valV kvs k=none→valV (kvs++ [(k,y)]) j=if j=k then some y else valV kvs j
 | [],_=>by
  by_cases e:k=j
  ·rw[if_pos e.symm];exact iJ (p:=(k,y)) e
  ·rw[if_neg (λz=>e z.symm)];exact iK (p:=(k,y)) e
 |p::r,bO=>by
  rw[List.cons_append];have bt:¬p.1=k:=λz=>by rw[iJ z] at bO;cases bO
  rw[iK bt] at bO;have bQ:=ZeV k j y r bO
  by_cases e:p.1=j
  ·rw[iJ e,iJ e,if_neg (λz=>bt (e.trans z))]
  ·rw[iK e,iK e,bQ]
theorem pc(kvs:List (dD×V))(k j:dD)(y:V):valV (e8 kvs k y) j=if j=k then some y else valV kvs j:=by
 unfold e8
 by_cases a:(kvs.any λkv=>decide (kv.1=k))=true
 ·rw[if_pos a,yJ];rw[W1] at a
  by_cases e:j=k
  ·obtain⟨x,bo⟩:=Option.isSome_iff_exists.mp a;rw[if_pos e,e,bo,qca,if_pos rfl]
  ·rw[if_neg e];cases valV kvs j with
   |none=>rfl
   |some x=>rw[qca,if_neg e]
 ·rw[if_neg a];refine ZeV k j y kvs ?_;rw[W1] at a;cases q:valV kvs k with
  |none=>rfl
  |some x=>rw[q] at a;exact(a rfl).elim
theorem Vl(kvs:List (dD×V))(k:dD)(v:V):(e8 kvs k v).length≤kvs.length+1:=by
 unfold e8
 split
 ·rw[GE];omega
 ·rw[qaT,List.length_cons,List.length_nil];omega
theorem ZaZ{kvs:List (dD×V)}{k:dD}(v:V)(h:valV kvs k=none):e8 kvs k v=kvs++ [(k,v)]:=by
 unfold e8;rw[W1,h];exact if_neg (by decide)
theorem gU.isSome_eq{o:Option V}{u:Option Value}(r:gU o u):o.isSome=u.isSome:=by
 cases o with
 |none=>cases u with
  |none=>rfl
  |some _=>exact(show False from r).elim
 |some _=>cases u with
  |none=>exact(show False from r).elim
  |some _=>rfl
theorem gU.getD{o:Option V}{u:Option Value}{d:V}{d':Value}(r:gU o u)(q9:cE d d'):cE (o.getD d) (u.getD d'):=by
 cases o with
 |none=>cases u with
  |none=>exact q9
  |some _=>exact(show False from r).elim
 |some _=>cases u with
  |none=>exact(show False from r).elim
  |some _=>exact r
theorem KV.val{kvs:List (dD×V)}{vs:List (dD×Value)}(r:KV kvs vs)(k:dD):gU (valV kvs k) (valueAt vs k):=by
 unfold KV at r
 induction r with
 |nil=>exact True.intro
 | @cons p q b' qs h t bQ=>
  obtain⟨bj,bp⟩:=h
  by_cases e:p.1=k
  ·have cf:q.1=k:=bj.symm.trans e;have b:valueAt (q::qs) k=some q.2:=by simp[valueAt,qbC,cf]
   rw[iJ e,b];exact bp
  ·have cf:¬q.1=k:=λz=>e (bj.trans z);have b:valueAt (q::qs) k=valueAt qs k:=by simp[valueAt,qbC,cf]
   rw[iK e,b];exact bQ
theorem KV.any{kvs:List (dD×V)}{vs:List (dD×Value)}(r:KV kvs vs)(k:dD):(kvs.any λkv=>decide (kv.1=k))=vs.any λkv=>decide (kv.1=k):=by
 unfold KV at r
 induction r with
 |nil=>rfl
 |cons h t bQ=>rw[qck,qck,bQ,h.1]
theorem KV.repl{kvs:List (dD×V)}{vs:List (dD×Value)}(r:KV kvs vs)(k:dD){y:V}{u:Value}(ci:cE y u):
  KV (kvs.map λkv=>if kv.1=k then(kv.1,y) else kv) (vs.map λkv=>if kv.1=k then(kv.1,u) else kv):=by
 unfold KV at r⊢
 induction r with
 |nil=>exact .nil
 | @cons p q b' qs h t bQ=>
  rw[List.map_cons,List.map_cons];refine .cons ?_ bQ;obtain⟨bj,bp⟩:=h
  by_cases e:p.1=k
  ·rw[if_pos e,if_pos (bj.symm.trans e)];exact⟨bj,ci⟩
  ·rw[if_neg e,if_neg (λz=>e (bj.trans z))];exact⟨bj,bp⟩
theorem KV.put{kvs:List (dD×V)}{vs:List (dD×Value)}(r:KV kvs vs)(k:dD){y:V}{u:Value}(ci:cE y u):KV (e8 kvs k y) (stored vs k u):=by
 unfold e8 stored;rw[r.any k]
 by_cases e:(vs.any λkv=>decide (kv.1=k))=true
 ·rw[if_pos e,if_pos e];exact r.repl k ci
 ·rw[if_neg e,if_neg e];exact Paired.snoc r ⟨rfl,ci⟩
theorem KV.length{kvs:List (dD×V)}{vs:List (dD×Value)}(r:KV kvs vs):kvs.length=vs.length:=Paired.length r
end
theorem mz{P:Program}{w:World}{k:Key}{u:Value}(r:cE (kV k) u):(ec P w).is k u=true:=by
 cases k with
 |inl i=>obtain⟨t,e⟩:=(show ∃t,u=Value.int i t from r);subst e;exact Zg2 P w i t
 |inr x=>obtain⟨t,e⟩:=(show ∃t,u=Value.str x t from r);subst e;exact Zhu P w x t
theorem Gx{a b:Key}(e:kV a=kV b):a=b:=by
 cases a with
 |inl i=>cases b with
  |inl j=>have cf:V.int i=V.int j:=e;injection cf with cf;rw[cf]
  |inr y=>exact nomatch (show V.int i=V.str y from e)
 |inr x=>cases b with
  |inl j=>exact nomatch (show V.str x=V.int j from e)
  |inr y=>have cf:V.str x=V.str y:=e;injection cf with cf;rw[cf]
theorem yK{P:Program}{w:World}:∀{cl:List Key}{us:List Value},cL (cl.map kV) us→ItemsAre (ec P w) cl us
 | [],_,r=>by rw[List.map_nil] at r;cases r;exact .nil
 |k::cl,_,r=>by
  rw[List.map_cons] at r;cases r with
  |cons h t=>exact .cons (mz h) (yK t)
noncomputable abbrev KT (H:Hp):List (List Key×V)→List (List Key×Addr×Value)→Prop:=Paired λp q=>p.1=q.1∧H q.2.1=some (.tup (p.1.map kV))∧cE p.2 q.2.2
theorem KT.val{H:Hp}{kvs:List (List Key×V)}{xs:List (List Key×Addr×Value)}(r:KT H kvs xs)(k:List Key):gU (valV kvs k) ((atKey xs k).map (·.2)):=by
 induction r with
 |nil=>exact True.intro
 | @cons p q b' qs h t bQ=>
  obtain⟨bj,_,bp⟩:=h
  by_cases e:p.1=k
  ·have cf:q.1=k:=bj.symm.trans e;have b:atKey (q::qs) k=some q.2:=by simp[atKey,qbC,cf]
   rw[iJ e,b];exact bp
  ·have cf:¬q.1=k:=λz=>e (bj.trans z);have b:atKey (q::qs) k=atKey qs k:=by simp[atKey,qbC,cf]
   rw[iK e,b];exact bQ
theorem KT.repl{H:Hp}{kvs:List (List Key×V)}{xs:List (List Key×Addr×Value)}(r:KT H kvs xs)(k:List Key){y:V}{u:Value}(ci:cE y u):
  KT H (kvs.map λkv=>if kv.1=k then(kv.1,y) else kv) (xs.map (putAt k u)):=by
 induction r with
 |nil=>exact .nil
 | @cons p q b' qs h t bQ=>
  rw[List.map_cons,List.map_cons];refine .cons ?_ bQ;obtain⟨bj,bp,bT⟩:=h;unfold putAt
  by_cases e:p.1=k
  ·rw[if_pos e,if_pos (bj.symm.trans e)];exact⟨bj,bp,ci⟩
  ·rw[if_neg e,if_neg (λz=>e (bj.trans z))];exact⟨bj,bp,bT⟩
theorem KT.put{H:Hp}{kvs:List (List Key×V)}{xs:List (List Key×Addr×Value)}(r:KT H kvs xs)(k:List Key){b:Addr}{y:V}{u:Value}(a_:H b=some (.tup (k.map kV)))(ci:cE y u):
  KT H (e8 kvs k y) (storedH xs k b u):=by
 have e:(kvs.any λkv=>decide (kv.1=k))=(atKey xs k).isSome:=by
  rw[W1,(r.val k).isSome_eq,Option.isSome_map]
 unfold e8 storedH;rw[e]
 by_cases q:(atKey xs k).isSome=true
 ·rw[if_pos q,if_pos q];exact r.repl k ci
 ·rw[if_neg q,if_neg q];exact Paired.snoc r ⟨rfl,a_,ci⟩
theorem KT.keeps{H ae:Hp}{kvs:List (List Key×V)}{xs:List (List Key×Addr×Value)}(r:KT H kvs xs)(b3:∀b ys,H b=some (.tup ys)→ae b=some (.tup ys)):KT ae kvs xs:=
 Paired.mapP r λ_ _ z=>⟨z.1,b3 _ _ z.2.1,z.2.2⟩
section
variable {P:Program}{w:World}{H:Hp}{h:Heap}{a:Addr}
theorem Zls{u:HO}(ok:HOk P w H h)(e:Rd H a u):Z0 P w H h a u:=e.ok ok
theorem WV{kvs:List (Key×V)}(ok:HOk P w H h)(e:Rd H a (.dK kvs)):kvs.length≤sizeLine∧(a==sysModules)=false∧∃vs,KV kvs vs∧h.DictOf (ec P w) a vs:=
 show Z0 P w H h a (.dK kvs) from Zls ok e
theorem Zcq{kvs:List (Key×V)}(ok:HOk P w H h)(e:H a=some (.dK kvs)):kvs.length≤sizeLine∧(a==sysModules)=false∧∃vs,KV kvs vs∧h.DictOf (ec P w) a vs:=WV ok (.inl e)
theorem nP{cl:List Key}(ok:HOk P w H h)(e:H a=some (.tup (cl.map kV))):(tupleKind (ec P w)).is h cl a:=by
 obtain⟨_,its,r,o,bj,bp,n,bT⟩:=(show Z0 P w H h a (.tup (cl.map kV)) from ok a _ e);exact⟨o,its.toArray,n,bj,bp,bT,by simpa using yK r⟩
theorem Zbh{kvs:List (List Key×V)}(ok:HOk P w H h)(e:Rd H a (.dT kvs)):kvs.length≤sizeLine∧(a==sysModules)=false∧
  ∃xs,KT H kvs xs∧h.DictOfH (tupleKind (ec P w)) a xs:=by
 obtain⟨z,y,xs,r,o,bE,ep,bj,bp,bT,cy,dJ⟩:=(show Z0 P w H h a (.dT kvs) from Zls ok e);refine⟨z,y,xs,r,o,bE,ep,bj,bp,bT,cy,λx bo=>?_,dJ⟩;have all:∀{l:List (List Key×V)}{m:List (List Key×Addr×Value)},KT H l m→∀x∈m,(tupleKind (ec P w)).is h x.1 x.2.1:=by
  intro l m q
  induction q with
  |nil=>intro x bo;exact nomatch bo
  | @cons p q b' qs cv t bQ=>
   intro x bo;rcases qae.mp bo with e|bo
   ·subst e;exact nP ok (by rw[←cv.1];exact cv.2.1)
   ·exact bQ x bo
 exact all r x bo
theorem Zn6{kvs:List (List Key×V)}(ok:HOk P w H h)(e:H a=some (.dT kvs)):kvs.length≤sizeLine∧(a==sysModules)=false∧
  ∃xs,KT H kvs xs∧h.DictOfH (tupleKind (ec P w)) a xs:=Zbh ok (.inl e)
end
def ih(H:Hp)(a:Addr)(y:V)(r:Option V):Prop:=
 (∃kvs k,Rd H a (.dK kvs)∧y=kV k∧r=valV kvs k)∨∃kvs k b,Rd H a (.dT kvs)∧y= .ref b∧H b=some (.tup (k.map kV))∧r=valV kvs k
def Zer(H:Hp)(a:Addr)(y v:V)(ae:Hp):Prop:=
 (∃kvs k,H a=some (.dK kvs)∧y=kV k∧kvs.length<sizeLine∧ae=upd H a (.dK (e8 kvs k v)))∨
 ∃kvs k b,H a=some (.dT kvs)∧y= .ref b∧H b=some (.tup (k.map kV))∧kvs.length<sizeLine∧ae=upd H a (.dT (e8 kvs k v))
theorem ih.k{H:Hp}{a:Addr}{kvs:List (Key×V)}{k:Key}(e:H a=some (.dK kvs)):ih H a (kV k) (valV kvs k):= .inl ⟨kvs,k,.inl e,rfl,rfl⟩
theorem Zer.k{H:Hp}{a:Addr}{kvs:List (Key×V)}{k:Key}{v:V}(e:H a=some (.dK kvs))(aj:kvs.length<sizeLine):Zer H a (kV k) v (upd H a (.dK (e8 kvs k v))):= .inl ⟨kvs,k,e,rfl,aj,rfl⟩
section
variable {X:Cx}{a':List (Addr×Obj)}{af:St}{H:Hp}{s:Shared}{a:Addr}{y v:V}{u r:Value}{o:Option V}{A:Around}{E:Value→Shared→Prop}
theorem Inv.big(I:Inv X a' af H s):sysModules<s.heap.objs.size:=by
 have h:mainGlobals<s.heap.objs.size:=(I.mod.glob.keeps I.bk).lt;exact Nat.lt_trans (by decide) h
theorem Gy{Q:Value→Shared→Prop}(hu:A.units+1<cLine)(I:Inv X a' af H s)(g:ih H a y (some v))(ci:cE y u)(h:∀d3 bz,Inv X a' af H bz→cE v d3→Q d3 bz):
  wpAny (model X.prog X.w) A (getItem (.ref a) u) Q E s:=by
 rcases g with⟨kvs,k,e,eQ,l⟩|⟨kvs,k,b,e,eQ,cV,l⟩
 ·subst eQ;obtain⟨z,hd,vs,rel,dd⟩:=WV I.hok e;obtain⟨d3,hw,iF⟩:=gU.some_of (v:=v) (o:=valueAt vs k) (by rw[l];exact rel.val k);exact wpAny_getItem_of (mz ci) dd.mapOf hw (h d3 _ (I.tok _) iF)
 ·subst eQ;cases (show u=Value.ref b from ci);obtain⟨z,hd,xs,rel,dd⟩:=Zbh I.hok e;obtain⟨d3,hw,iF⟩:=gU.some_of (v:=v) (o:=(atKey xs k).map (·.2)) (by rw[l];exact rel.val k);obtain⟨p,bD,pd⟩:=Option.map_eq_some_iff.mp hw;refine wpAny_getItem_heap (tupleKind_room_in1 hu) (nP I.hok cV) dd bD ?_;rw[pd];exact h d3 _ (I.tok _) iF
theorem ZoA{Q:Value→Shared→Prop}(hu:A.units+1<cLine)(I:Inv X a' af H s)(g:ih H a y o)(ci:cE y u)(h:∀bz,Inv X a' af H bz→Q (.bool o.isSome) bz):
  wpAny (model X.prog X.w) A (compareOp .In u (.ref a)) Q E s:=by
 rcases g with⟨kvs,k,e,eQ,l⟩|⟨kvs,k,b,e,eQ,cV,l⟩
 ·subst eQ;obtain⟨z,hd,vs,rel,dd⟩:=WV I.hok e;refine wpAny_in_of (mz ci) hd dd.mapOf ?_;rw[←(rel.val k).isSome_eq,←l];exact h _ (I.tok _)
 ·subst eQ;cases (show u=Value.ref b from ci);obtain⟨z,hd,xs,rel,dd⟩:=Zbh I.hok e;refine wpAny_in_heap (tupleKind_room_in1 hu) (nP I.hok cV) hd dd ?_;have q:=(rel.val k).isSome_eq;rw[Option.isSome_map] at q;rw[←q,←l];exact h _ (I.tok _)
theorem Zme{Q:Value→Shared→Prop}(hu:A.units+1<cLine)(I:Inv X a' af H s)(g:ih H a y o)(ci:cE y u)(h:∀bz,Inv X a' af H bz→Q (.bool (!o.isSome)) bz):
  wpAny (model X.prog X.w) A (compareOp .NotIn u (.ref a)) Q E s:=by
 rcases g with⟨kvs,k,e,eQ,l⟩|⟨kvs,k,b,e,eQ,cV,l⟩
 ·subst eQ;obtain⟨z,hd,vs,rel,dd⟩:=WV I.hok e;refine wpAny_notIn_of (mz ci) hd dd.mapOf ?_;rw[←(rel.val k).isSome_eq,←l];exact h _ (I.tok _)
 ·subst eQ;cases (show u=Value.ref b from ci);obtain⟨z,hd,xs,rel,dd⟩:=Zbh I.hok e;refine wpAny_notIn_heap (tupleKind_room_in1 hu) (nP I.hok cV) hd dd ?_;have q:=(rel.val k).isSome_eq;rw[Option.isSome_map] at q;rw[←q,←l];exact h _ (I.tok _)
theorem q_{h':Heap}{t':Nat}{cT:HO}(I:Inv X a' af H s)(h6:Mut (H a))(hs:Heap.SameBut a s.heap h')(bL:∃q,h'.get? a=some q)(new:Z0 X.prog X.w (upd H a cT) h' a cT):
  Inv X a' af (upd H a cT) {s with heap:=h',toks:=t'}:=
 I.write (x:=a) (e:=a) h6 (.inl rfl) (λb q a_ z=>(hs.2 b a_).trans z) bL new
theorem tX{P:Program}{w:World}{ae:Hp}{h':Heap}{kvs:List (Key×V)}{vs:List (Key×Value)}(z:kvs.length≤sizeLine)(hd:(a==sysModules)=false)(rel:KV kvs vs)(dd:h'.DictOf (ec P w) a vs):
  Z0 P w ae h' a (.dK kvs):=⟨z,hd,vs,rel,dd⟩
theorem Zjd{ae:Hp}{Q:Unit→Shared→Prop}(hu:A.units+1<cLine)(I:Inv X a' af H s)(g:Zer H a y v ae)(ci:cE y u)(c':cE v r)(h:∀bz,Inv X a' af ae bz→Q () bz):
  wpAny (model X.prog X.w) A (setItem (.ref a) u r) Q E s:=by
 rcases g with⟨kvs,k,e,eQ,l,tY⟩|⟨kvs,k,b,e,eQ,cV,l,tY⟩
 ·subst eQ tY;obtain⟨z,hd,vs,rel,dd⟩:=Zcq I.hok e;have hz:vs.length≤sizeLine:=by rw[←rel.length];exact z
  have aj:(e8 kvs k v).length≤sizeLine:=by have:=Vl kvs k v;omega
  refine wpAny_setItem_pairs (hsz:=hz) (mz ci) dd λh' dd' hs=>h _ ?_;have bL:∃q,h'.get? a=some q:=let⟨q,_,_,cv,_⟩:=dd';⟨q,cv⟩
  exact q_ I (by rw[e];exact True.intro) hs bL (tX aj hd (rel.put k c') dd')
 ·subst eQ tY;cases (show u=Value.ref b from ci);obtain⟨z,hd,xs,rel,dd⟩:=Zn6 I.hok e;have hz:xs.length≤sizeLine:=by rw[←Paired.length rel];exact z
  have aj:(e8 kvs k v).length≤sizeLine:=by have:=Vl kvs k v;omega
  refine wpAny_setItem_heap (hsz:=hz) (tupleKind_room_in1 hu) (nP I.hok cV) dd λh' dd' hs=>h _ ?_;obtain⟨q,bE,ep,cv,bp,bT,cy,_,dJ⟩:=dd';refine q_ I (by rw[e];exact True.intro) hs ⟨q,cv⟩ ⟨aj,hd,_,(rel.put k cV c').keeps λc ys nQ=>?_,q,bE,ep,cv,bp,bT,cy,dJ⟩;rw[b5 (fj nQ e (λz=>nomatch z))];exact nQ
end
section
variable {X:Cx}{a':List (Addr×Obj)}{af:St}{H:Hp}{s:Shared}{a:Addr}{kvs:List (Key×V)}{k:Key}{u:Value}{A:Around}{E:Value→Shared→Prop}
theorem Zof{Q:Value→Shared→Prop}(I:Inv X a' af H s)(e:Rd H a (.dK kvs))(h:∀t bz,Inv X a' af H bz→Q (.int kvs.length t) bz):wpAny (model X.prog X.w) A (call (.builtin "len") [.ref a]) Q E s:=by
 obtain⟨z,hd,vs,rel,dd⟩:=WV I.hok e;refine call_len_dict hd dd (by rw[←rel.length];rw[sizeLine_eq] at z;omega) ?_;rw[←rel.length];exact h _ _ (I.tok _)
end
theorem Gz{X:Cx}{a':List (Addr×Obj)}{af:St}{H:Hp}{s:Shared}{a:Addr}{y:V}{o:Option V}(I:Inv X a' af H s)(g:ih H a y o):s.TypeIs (.ref a) "dict" :=by
 rcases g with⟨kvs,k,e,_,_⟩|⟨kvs,k,b,e,_,_,_⟩
 ·obtain⟨_,_,vs,_,dd⟩:=WV I.hok e;exact dd.typeIs
 ·obtain⟨_,_,xs,_,dd⟩:=Zbh I.hok e;exact dd.typeIs
section
variable {X:Cx}{o i e value:Expr}{pos jl kx:Pos}{dr ty hy:TE}
end
theorem yL{P:Program}{w:World}{H:Hp}(h:Heap)(a_:sysModules<h.objs.size):Z0 P w H (h.push {cls:= .type "dict",data:= .dict #[]}) h.objs.size (.dK []):=
 ⟨qau _,beq_eq_false_iff_ne.mpr (qbH (qak a_)),[],.nil,Heap.DictOf.new h⟩
noncomputable def tDNewK:TE:=λ_ H Q=>∀p,H p=none→Q (.ref p) (upd H p (.dK []))
section
variable {X:Cx}{pos:Pos}
theorem pe:PE X (.Dict [] [] pos) tDNewK:=λa' s af H Q I h=>
 wpAny_Dict_empty ⟨.ref s.heap.objs.size,_,I.laid (a:=s.heap.objs.size) (o:= .dK []) (t':=s.toks) (λ_ _ q=>Heap.get?_push_of_some _ q) (qaa _) (yL s.heap I.big),rfl,h _ (I.hok.fresh (qaa _))⟩
end
noncomputable def q':List (TE×TE)→St→Hp→(List (V×V)→Hp→Prop)→Prop
 | [],_,H,Q=>Q [] H
 |(bY,hy)::r,af,H,Q=>bY af H λx bn=>hy af bn λy bv=>q' r af bv λb' b9=>Q ((x,y)::b') b9
noncomputable abbrev VV:List (V×V)→List (Value×Value)→Prop:=Paired λp q=>cE p.1 q.1∧cE p.2 q.2
def PPs(X:Cx)(pos:Pos)(keys:List (Option Expr))(pf:List Expr)(kJ:List (TE×TE)):Prop:=
 ∀(a':List (Addr×Obj))(s:Shared)(af:St)(H:Hp)(Q:List (V×V)→Hp→Prop),Inv X a' af H s→q' kJ af H Q→
  wpAny (model X.prog X.w) X.A (evalPairs (pairTrees keys pf X.env pos)) (λvs bz=>∃b' ae,Inv X a' af ae bz∧VV b' vs∧Q b' ae) X.xe s
theorem ZlQ{X:Cx}{pos:Pos}:PPs X pos [] [] []:=λa' s af H Q I h=>pairTrees_nil_walk ⟨[],H,I,.nil,h⟩
theorem GA{X:Cx}{pos:Pos}{k v:Expr}{cl:List (Option Expr)}{vs:List Expr}{bY hy:TE}{kJ:List (TE×TE)}(bt:PE X k bY)(b_:PE X v hy)(bq:PPs X pos cl vs kJ):
  PPs X pos (some k::cl) (v::vs) ((bY,hy)::kJ):=λa' s af H Q I h=>
 pairTrees_cons_walk (thn (bt a' s af H _ I h) λu bw ⟨x,bn,bM,bZ,cg⟩=>thn (b_ a' bw af bn _ bM cg) λkq bU ⟨y,bv,cF,ci,c7⟩=>
  thn (bq a' bU af bv _ cF c7) λce bS ⟨b',b9,dE,rel,fv⟩=>⟨(x,y)::b',b9,dE,.cons ⟨bZ,ci⟩ rel,fv⟩)
noncomputable def f' (kvs more:List (Key×V)):List (Key×V):=more.foldl (λc1 kv=>e8 c1 kv.1 kv.2) kvs
theorem KV.merge:∀{more:List (Key×V)}{rs:List (Key×Value)}{kvs:List (Key×V)}{vs:List (Key×Value)},KV more rs→KV kvs vs→KV (f' kvs more) (merged vs rs):=by
 intro more rs kvs vs r;unfold KV at r
 induction r generalizing kvs vs with
 |nil=>intro q;exact q
 | @cons p q b' qs h t bQ=>
  intro ph;have e:KV (e8 kvs p.1 p.2) (stored vs q.1 q.2):=by
   have:=ph.put p.1 h.2;rw[←h.1];exact this
  exact bQ e
theorem ra:∀(more kvs:List (Key×V)),(f' kvs more).length≤kvs.length+more.length
 | [],kvs=>by show kvs.length≤kvs.length+0;omega
 |p::r,kvs=>by
  have bj:=ra r (e8 kvs p.1 p.2);have bp:=Vl kvs p.1 p.2;show(f' (e8 kvs p.1 p.2) r).length≤_;rw[List.length_cons];omega
theorem Zej{P:Program}{w:World}:∀{kvs:List (Key×V)}{ce:List (Value×Value)},VV (kvs.map λkv=>(kV kv.1,kv.2)) ce→∃rs,Carries (ec P w) ce rs∧KV kvs rs
 | [],_,r=>by rw[List.map_nil] at r;cases r;exact⟨[],True.intro,.nil⟩
 |p::kvs,_,r=>by
  rw[List.map_cons] at r;cases r with
  | @cons a b as bs h t=>
   obtain⟨rs,c,q⟩:=Zej (P:=P) (w:=w) t;obtain⟨eb,eT⟩:=b;exact⟨(p.1,eT)::rs,⟨mz h.1,rfl,c⟩,.cons ⟨rfl,h.2⟩ q⟩
noncomputable def GB (kJ:List (TE×TE)):TE:=λaf H Q=>∀p,H p=none→q' kJ af (upd H p (.dK [])) λb' bv=>bv p=some (.dK [])∧∃kvs:List (Key×V),b'=kvs.map (λkv=>(kV kv.1,kv.2))∧kvs.length≤15∧Q (.ref p) (upd bv p (.dK (f' [] kvs)))
theorem GC{X:Cx}{pos:Pos}{keys:List (Option Expr)}{pf:List Expr}{kJ:List (TE×TE)}(h:PPs X pos keys pf kJ)(hall:keys.all (·.isSome)=true)(aj:keys.length=pf.length)(cd:keys≠[])
  (GD:keys.length≤15):PE X (.Dict keys pf pos) (GB kJ):=by
 intro a' s af H Q I q;have bO:=I.hok.fresh (qaa s.heap.objs.size);have bM:=I.laid (a:=s.heap.objs.size) (o:= .dK []) (h':=s.heap.push {cls:= .type "dict",data:= .dict #[]}) (t':=s.toks) (λ_ _ q=>Heap.get?_push_of_some _ q) (qaa _) (yL s.heap I.big);refine wpAny_Dict_walk (knd:=ec X.prog X.w) hall aj cd GD (thn (h a' _ af _ _ bM (q _ bO)) λce bU ⟨b',bv,cF,rel,e,kvs,ep,lk,c7⟩=>?_);subst ep;obtain⟨rs,c,GF⟩:=Zej (P:=X.prog) (w:=X.w) rel;obtain⟨z,hd,Qt,ph,dd⟩:=Zcq cF.hok e;cases ph;refine⟨rs,c,dd,λh' dd' hs=>⟨.ref s.heap.objs.size,_,?_,rfl,c7⟩⟩;have hz:(f' [] kvs).length≤sizeLine:=by
  have bj:=ra kvs [];rw[List.length_nil] at bj;rw[sizeLine_eq];omega
 have bL:∃q,h'.get? s.heap.objs.size=some q:=let⟨q,_,_,cv,_⟩:=dd';⟨q,cv⟩
 exact q_ cF (by rw[e];exact True.intro) hs bL (tX hz hd (GF.merge .nil) dd')
structure M2(X:Cx)(o:Expr)(m:Str)(dv:Pos)(e f:Expr)(dy:Pos):Prop where
 base:attributeBase o m X.env (eval o X.env)=eval o X.env
 few:((backTo dy (starEach [e,f] X.env)).all (λx=>!x.1)&&(backToKw dy (keywordEach [] X.env)).all (λx=>x.1.isSome)
  &&decide (([e,f]:List Expr).length+([]:List Keyword).length+(if([]:List Keyword).isEmpty then 0 else 1)<30))=true
 line:(dv.endLine==dy.line)=true
 trees:backTo dy (starEach [e,f] X.env)=[(false,eval e X.env),(false,eval f X.env)]
def IsD(H:Hp)(a:Addr):Prop:=(∃kvs,Rd H a (.dK kvs))∨∃kvs,Rd H a (.dT kvs)
theorem Zm1{X:Cx}{a':List (Addr×Obj)}{af:St}{H:Hp}{s:Shared}{a:Addr}(I:Inv X a' af H s)(d:IsD H a):
  s.TypeIs (.ref a) "dict" ∧(∀b,Value.ref a= .ref b→∃cT,s.heap.get? b=some cT∧cT.dict=none)∧(a==sysModules)=false:=by
 rcases d with⟨kvs,e⟩|⟨kvs,e⟩
 ·obtain⟨_,hd,vs,_,dd⟩:=WV I.hok e;refine⟨dd.typeIs,λb q=>?_,hd⟩;cases q;obtain⟨cT,_,_,bj,bp,_⟩:=dd;exact⟨cT,bj,bp.2.1⟩
 ·obtain⟨_,hd,xs,_,dd⟩:=Zbh I.hok e;refine⟨dd.typeIs,λb q=>?_,hd⟩;cases q;obtain⟨cT,_,_,bj,bp,_⟩:=dd;exact⟨cT,bj,bp.2.1⟩
section
variable {X:Cx}{a':List (Addr×Obj)}{af:St}{H:Hp}{s:Shared}{a:Addr}{y d:V}{u r:Value}{o:Option V}{A:Around}{E:Value→Shared→Prop}
theorem ZnL{Q:Value→Shared→Prop}(hu:A.units+1<cLine)(I:Inv X a' af H s)(g:ih H a y o)(ci:cE y u)(q9:cE d r)(h:∀d3 bz,Inv X a' af H bz→cE (o.getD d) d3→Q d3 bz):
  wpAny (model X.prog X.w) A (call (.builtin "dict.get") [.ref a,u,r]) Q E s:=by
 rcases g with⟨kvs,k,e,eQ,l⟩|⟨kvs,k,b,e,eQ,cV,l⟩
 ·subst eQ;obtain⟨z,hd,vs,rel,dd⟩:=WV I.hok e;refine call_meetsIn PySem.F.slot_dict_get dd.typeIs PySem.F.entry_dict_get (PySem.F.args_dict_get_3 _ _ _) (meets_dict_get_default (ec X.prog X.w) a (mz ci) hd r) ⟨_,dd.mapOf,h _ _ (I.tok _) ?_⟩;rw[l];exact(rel.val k).getD q9
 ·subst eQ;cases (show u=Value.ref b from ci);obtain⟨z,hd,xs,rel,dd⟩:=Zbh I.hok e;refine call_meetsIn PySem.F.slot_dict_get dd.typeIs PySem.F.entry_dict_get (PySem.F.args_dict_get_3 _ _ _) (meetsH_dict_get_default (tupleKind (ec X.prog X.w)) a b hd r) ⟨tupleKind_room_in1 hu,k,xs,nP I.hok cV,dd,h _ _ (I.tok _) ?_⟩;rw[l];exact(rel.val k).getD q9
end
noncomputable def yM (dr ty mA:TE):TE:=λaf H Q=>dr af H λx bn=>∃a,x= .ref a∧IsD bn a∧ty af bn λy bv=>mA af bv λz b9=>∃o,ih b9 a y o∧Q (o.getD z) b9
section
variable {X:Cx}{o e f:Expr}{dv dy:Pos}{dr ty mA:TE}
theorem Zku(hu:X.A.units+1<cLine)(bI:PE X o dr)(bL:PE X e ty)(bJ:PE X f mA)(m:M2 X o "get" dv e f dy):PE X (.Call (.Attribute o "get" dv) [e,f] [] dy) (yM dr ty mA):=by
 intro a' s af H Q I h;refine wpAny_Call_method m.base m.few m.line qbp PySem.F.slot_dict_get PySem.F.type_dict_get (thn (bI a' s af H _ I h) λu bw ⟨x,bn,bM,bZ,a,ex,d,cg⟩=>?_);subst ex;obtain rfl:u=Value.ref a:=bZ;obtain⟨hW,dh,_⟩:=Zm1 bM d;refine⟨hW,dh,?_⟩;rw[m.trees];refine Calls.callWith_builtin rfl (Calls.evalArgs_plain (Calls.spliced_cons (thn (bL a' bw af bn _ bM cg) λfD bU ⟨y,bv,cF,ci,c7⟩=>
  Calls.spliced_cons (thn (bJ a' bU af bv _ cF c7) λQu bS ⟨z,b9,dE,GG,ds,g,fv⟩=>Calls.spliced_nil ?_))))
 exact ZnL hu dE g ci GG λd3 ca ky iF=>⟨_,b9,ky,iF,fv⟩
end
section
variable {X:Cx}{a':List (Addr×Obj)}{af:St}{H:Hp}{s:Shared}{a:Addr}{kvs:List (Key×V)}{A:Around}{E:Value→Shared→Prop}
end
section
variable {X:Cx}{a':List (Addr×Obj)}{af:St}{H:Hp}{s:Shared}{a:Addr}{y:V}{u:Value}{A:Around}{E:Value→Shared→Prop}
end
section
variable {X:Cx}
theorem GH:YW X (.builtin "len") (λxs H Q=>∃a kvs,xs=[V.ref a]∧H a=some (.dK kvs)∧Q (.int kvs.length) H):=by
 intro a' s af H xs us Q I r h;obtain⟨a,kvs,rfl,bF,q⟩:=h;obtain⟨u,rfl,d_⟩:=Wr r;cases d_;exact Zof I (.inl bF) λt bz e2=>⟨.int kvs.length,H,e2,⟨t,rfl⟩,q⟩
end
section
variable {dD:Type}[DecidableEq dD]
end
namespace Rd
section
variable {af:St}{H:Hp}{Q:VK}{D:Vw}{t u:TS}{bX cP cA:TE}{r:R2}
theorem var{i:Nat}{v:V}(h:af[i]? =some (some v))(q:Q v H):ZgX i af H Q:=⟨v,h,q⟩
theorem con{v:V}(q:Q v H):tC v af H Q:=q
theorem op(h:bX af H λx bn=>cP af bn λy bv=>r x y bv Q):tOp r bX cP af H Q:=h
theorem un{r:V→Hp→VK→Prop}(h:bX af H λx bn=>r x bn Q):tUn r bX af H Q:=h
theorem i0{g:Int→Int→V}{i j:Int}(q:Q (g i j) H):rI0 g (.int i) (.int j) H Q:=⟨i,j,rfl,rfl,q⟩
theorem iC{C:Int→Int→Prop}{g:Int→Int→V}{i j:Int}(c:C i j)(q:Q (g i j) H):rI C g (.int i) (.int j) H Q:=⟨i,j,rfl,rfl,c,q⟩
theorem eqI{i j:Int}(q:Q (.bl (decide (i=j))) H):rEq (.int i) (.int j) H Q:=⟨rfl,by
 have e:decide (V.int i=V.int j)=decide (i=j):=by
  by_cases h:i=j
  ·rw[h];simp
  ·rw[decide_eq_false h,decide_eq_false (λz=>h (V.int.inj z))]
 rw[e];exact q⟩
theorem neI{i j:Int}(q:Q (.bl (!decide (i=j))) H):rNe (.int i) (.int j) H Q:=⟨rfl,by
 have e:decide (V.int i=V.int j)=decide (i=j):=by
  by_cases h:i=j
  ·rw[h];simp
  ·rw[decide_eq_false h,decide_eq_false (λz=>h (V.int.inj z))]
 rw[e];exact q⟩
theorem Zoz{Q:Bool→Hp→Prop}(h:cA af H λx ae=>∃k,x= .bl k∧Q k ae):yq cA af H Q:=h
theorem bl{k:Bool}{Q:Bool→Prop}(q:Q k):∃k',V.bl k= .bl k'∧Q k':=⟨k,rfl,q⟩
theorem seq(h:t {D with nx:=u D} af H):x_ t u D af H:=h
theorem asg{g:TG}(h:cA af H λx bn=>g x af bn D.nx):oX cA g D af H:=h
theorem ifs{c:TT}(h:c af H λb bn=>if b=true then t D af bn else u D af bn):yb c t u D af H:=h
theorem ret(h:cA af H D.rt):ya cA D af H:=h
theorem next(h:D.nx af H):tNext D af H:=h
theorem drop(h:cA af H λ_ bn=>D.nx af bn):x' cA D af H:=h
theorem nil{Q:List V→Hp→Prop}(h:Q [] H):tNil af H Q:=h
theorem cons{bP:TA}{Q:List V→Hp→Prop}(h:bX af H λx bn=>bP af bn λxs bv=>Q (x::xs) bv):yt bX bP af H Q:=h
theorem call{sp:Sp}{eC:List V}{E:XK}{fk:TA}(h:fk af H λvs bn=>sp (vs++eC) bn Q E):tK sp eC E fk af H Q:=h
theorem cb{r:List V→Hp→VK→Prop}{fk:TA}(h:fk af H λvs bn=>r vs bn Q):tCB r fk af H Q:=h
theorem tup{fk:TA}(h:fk af H λxs bn=>xs.length≤sizeLine∧∀p,bn p=none→Q (.ref p) (upd bn p (.tup xs))):yu fk af H Q:=h
theorem lst{fk:TA}(h:fk af H λxs bn=>xs.length≤sizeLine∧∀p,bn p=none→Q (.ref p) (upd bn p (.lst xs))):tI fk af H Q:=h
theorem ZoE{t u:TT}{Q:Bool→Hp→Prop}(h:t af H λc bn=>if c=true then u af bn Q else Q false bn):xU t u af H Q:=h
theorem or_{t u:TT}{Q:Bool→Hp→Prop}(h:t af H λc bn=>if c=true then Q true bn else u af bn Q):tOr t u af H Q:=h
theorem ZoW{t:TT}{Q:Bool→Hp→Prop}(h:t af H λc bn=>Q (!c) bn):xV t af H Q:=h
theorem Zo5(h:bX af H λx bn=>∃c,x= .bl c∧if c=true then cP af bn Q else Q (.bl false) bn):xY bX cP af H Q:=h
theorem Zpb(h:bX af H λx bn=>∃c,x= .bl c∧Q (.bl (!c)) bn):xZ bX af H Q:=h
end
end Rd
section
variable {X:Cx}
theorem GI:OpR X (binaryOp .Mult) (rI (λi j=>IntMulOk i j) λi j=> .int (i*j)):=opI λ_ _ _ _ _ _ _ bu q=>mul_int q bu
theorem fX:OpR X (binaryOp .FloorDiv) (rI (λ_ j=>0<j∧j.natAbs.log2<9000) λi j=> .int (i / j)):=opI λi j _ _ _ _ _ bu q=>by
 rw[←Int.fdiv_eq_ediv_of_nonneg i (Int.le_of_lt bu.1)] at q;exact floordiv_int (by have:=bu.1;omega) q (.inl (PyProof.noPylong_of_log2 bu.2))
theorem GJ:YW X (.builtin "isinstance") (λxs H Q=>∃x n t b,xs=[x,.ty n]∧Wq X.K H x t∧kitOne X.K t (.type n)=some b∧Q (.bl b) H):=by
 intro a' s af H xs us Q I r h;obtain⟨x,n,t,b,rfl,ty,e,q⟩:=h;obtain⟨u,v,rfl,d_,c'⟩:=r.two;obtain rfl:v=Value.type n:=c';exact Zj4 I d_ ty e λbY=>⟨.bl b,H,I.tok bY,rfl,q⟩
theorem ZdW{c:TT}{cP:TS}{D:Vw}{af:St}{H:Hp}(W:Nat→St→Hp→Prop)(m:Nat)(cd:W m af H)
  (hs:∀m af H,W m af H→c af H λb bn=>if b=true then ∃N:St→Hp→Prop,(∀bW ae,N bW ae→∃cr,cr<m∧W cr bW ae)∧cP {D with nx:=N,ct:=N,bk:=D.nx} af bn else D.nx af bn):yi c cP D af H:=
 ⟨W,⟨m,cd⟩,hs⟩
theorem ZfM{W:Nat→St→Hp→Prop}{m:Nat}{cP:TS}{D:Vw}{af:St}{bn:Hp}
  (h:cP {D with nx:=λbW ae=>∃cr,cr<m∧W cr bW ae,ct:=λbW ae=>∃cr,cr<m∧W cr bW ae,bk:=D.nx} af bn):
  ∃N:St→Hp→Prop,(∀bW ae,N bW ae→∃cr,cr<m∧W cr bW ae)∧cP {D with nx:=N,ct:=N,bk:=D.nx} af bn:=⟨_,λ_ _ z=>z,h⟩
noncomputable def yN (t:TS):TS:=λD af H=>∃J:St→Hp→Prop,(∀bW ae,J bW ae→D.nx bW ae)∧t {D with nx:=J} af H
theorem mB{st:Stmt}{t:TS}(h:PS X st t):PS X st (yN t):=by
 intro a' s af H D I cv;obtain⟨J,tZ,q⟩:=cv;refine thn (h a' s af H _ I q) λf bw cg=>?_;cases f with
 |next=>obtain⟨bW,ae,e2,j⟩:=cg;exact⟨bW,ae,e2,tZ _ _ j⟩
 |brk=>exact cg
 |cont=>exact cg
 |ret v=>exact cg
end
namespace Rd
theorem ZlA{A B:Prop}(h:B):if(!true)=true then A else B:=Zf7 h
theorem Zly{A B:Prop}(h:A):if(!false)=true then A else B:=Zgh h
section
variable {af:St}{H:Hp}{Q:VK}{D:Vw}{t u:TS}{bX cP cA:TE}
theorem cut(J:St→Hp→Prop)(tZ:∀bW ae,J bW ae→D.nx bW ae)(h:t {D with nx:=J} af H):yN t D af H:=⟨J,tZ,h⟩
theorem Zow{eA:TI}{g:TG}{cP:TS}(h:eA af H λJ bn=>∃W:Nat→Nat→St→Hp→Prop,(∃m,W 0 m af bn)∧∀i m af H,W i m af H→
  (J.stop i H∧D.nx af H)∨(J.go i H∧∃N:St→Hp→Prop,(∀bW ae,N bW ae→∃cr,cr<m∧W (i+1) cr bW ae)∧∀x ae,J.yld i H x ae→g x af ae λda bv=>cP {D with nx:=N,ct:=N,bk:=D.nx} da bv)):yk eA g cP D af H:=h
theorem Zov{fk:TA}{R:It→Hp→Prop}(h:fk af H λvs bn=>∃j:Int,vs=[.int j]∧ -(2 ^ 62)≤j∧j<2 ^ 62∧R (Itr 0 j.toNat) bn):yj fk af H R:=h
theorem Vu{K:Frag}{n:Nat}{fk:TGs}{a:Addr}{xs:List V}{Q:St→Hp→Prop}(hs:SqT K H a xs)(bO:xs.length=n)(h:fk xs af H Q):tv K n fk (.ref a) af H Q:=⟨a,xs,rfl,hs,bO,h⟩
theorem Zoy{Q:St→Hp→Prop}(h:Q af H):gNil [] af H Q:=⟨rfl,h⟩
theorem Zop{g:TG}{cx:TGs}{v:V}{r:List V}{Q:St→Hp→Prop}(h:g v af H λbW ae=>cx r bW ae Q):yd g cx (v::r) af H Q:=⟨v,r,rfl,h⟩
end
end Rd
theorem cK{H:Hp}{p:Addr}{o:HO}(bD:H p=none):Ze H (upd H p o):=λc u e=>by rw[b5 (dw e bD)];exact e
theorem Ze.new{H ae:Hp}{q:Addr}{o:HO}(bV:Ze H ae)(cv:H q=none):Ze H (upd ae q o):=λc u e=>by rw[b5 (dw e cv)];exact bV c u e
theorem Ze.seqT{K:Frag}{H ae:Hp}{a:Addr}{xs:List V}(e:Ze H ae)(h:SqT K H a xs):SqT K ae a xs:=by
 rcases h with(h|⟨o,h⟩)|h
 ·exact .inl (.inl (e _ _ h))
 ·exact .inl (.inr ⟨o,e _ _ h⟩)
 ·exact .inr h
namespace Rd
section
variable {af:St}{H:Hp}{Q:VK}{D:Vw}{K:Frag}
theorem ixt{p:Addr}{xs:List V}{i:Int}{v:V}(h:SqT K H p xs)(e:atI xs i=some v)(q:Q v H):tM K (.ref p) (.int i) H Q:=⟨p,xs,i,v,rfl,rfl,h,e,q⟩
theorem ixl{p:Addr}{xs:List V}{i:Int}{v:V}(h:SqL K H p xs)(e:atI xs i=some v)(q:Q v H):ZeI K (.ref p) (.int i) H Q:=⟨p,xs,i,v,rfl,rfl,h,e,q⟩
theorem bm{T:String}{r:V→List V→Hp→VK→Prop}{to:TE}{t:TA}(h:to af H λx bn=>tyV K T x bn∧t af bn λxs bv=>r x xs bv Q):tBM K T r to t af H Q:=h
theorem tyl{p:Addr}{xs:List V}{B:Prop}(h:H p=some (.lst xs))(q:B):tyV K "list" (.ref p) H∧B:=⟨.inl ⟨rfl,xs,.of h⟩,q⟩
theorem app{p:Addr}{xs:List V}{y:V}(h:H p=some (.lst xs))(aj:xs.length<sizeLine)(q:Q .non (upd H p (.lst (xs++ [y])))):rAppend (.ref p) [y] H Q:=⟨p,xs,y,rfl,rfl,h,aj,q⟩
end
end Rd
noncomputable def emb (ix:List Nat) (af:St):St:=none::ix.map λj=>(af[j]?).join
noncomputable def Zl (X:Cx) (b8:Scope) (ck:List (Str×Addr)) (C:Addr) (N:List Str) (s:Shared) (H:Hp) (fp:List Addr):Cx where
 prog:=X.prog
 w:=X.w
 K:=X.K
 mg:=X.mg
 base:=X.base
 A:=X.A
 N:=N
 s₀:=s
 H₀:=H
 env:=compEnvC b8 ck C X.env
 outer:=X.stack
 stack:=X.stack
 ex:=fp
 fn:=λ_=>false
 calm:=X.calm
 pn:=[]
 xe:=λ_ _=>False
structure Y3(X:Cx)(b8:Scope)(x:Str)(zs:List Str)(ix:List Nat):Prop where
 kind:b8.kind= .function
 nocell:∀y∈b8.names,y.2≠ .cell
 names:∀y∈b8.names,y.2= .local→b8.names.lookup y.1=some .local
 free:∀y∈b8.names,y.2= .free→X.env.kindOf y.1=some .cell∨X.env.kindOf y.1=some .free
 zfree:∀z∈zs,b8.names.lookup z=some .free
 at_:ix.map (λj=>X.N[j]?)=zs.map some
theorem Wv{env:Env}{x:Str}:∀{names:List (Str×NameKind)}{k:NameKind},
  (names.map λ(n,k)=>if(k==NameKind.free&&env.scope.kind== .function&&env.kindOf n==some .cell) then(n,NameKind.cell) else(n,k)).lookup x=some k→
  ∃k',names.lookup x=some k'∧(k=k'∨(k'= .free∧k= .cell))
 | [],_,h=>by simp at h
 |(n,j)::r,k,h=>by
  have h':List.lookup x ((if(j==NameKind.free&&env.scope.kind== .function&&env.kindOf n==some .cell)=true then(n,NameKind.cell) else(n,j))::(r.map λ(n,k)=>if(k==NameKind.free&&env.scope.kind== .function&&env.kindOf n==some .cell) then(n,NameKind.cell) else(n,k)))=some k:=h;cases bo:x==n with
  |true=>
   refine⟨j,by simp[qa5,bo],?_⟩
   by_cases bu:(j==NameKind.free&&env.scope.kind== .function&&env.kindOf n==some .cell)=true
   ·rw[if_pos bu] at h';simp only[qa5,bo] at h';cases h';simp only[qaR,beq_iff_eq] at bu;exact .inr ⟨bu.1.1,rfl⟩
   ·rw[if_neg bu] at h';simp only[qa5,bo] at h';cases h';exact .inl rfl
  |false=>
   have bp:List.lookup x (r.map λ(n,k)=>if(k==NameKind.free&&env.scope.kind== .function&&env.kindOf n==some .cell) then(n,NameKind.cell) else(n,k))=some k:=by
    by_cases bu:(j==NameKind.free&&env.scope.kind== .function&&env.kindOf n==some .cell)=true
    ·rw[if_pos bu] at h';simpa only[qa5,bo] using h'
    ·rw[if_neg bu] at h';simpa only[qa5,bo] using h'
   obtain⟨k',e,q⟩:=Wv bp;exact⟨k',by simp only[qa5,bo];exact e,q⟩
theorem lA{x:Str}{k:NameKind}:∀{names:List (Str×NameKind)},names.lookup x=some k→(x,k)∈names:=λh=>qbD h
theorem Za3(env:Env):∀(names:List (Str×NameKind))(c1:List (Str×Addr)),
  (∀y∈names,y.2= .free→∃c,env.cells.lookup y.1=some c)→(∀y c,c1.lookup y=some c→env.cells.lookup y=some c)→
  ∃ck:List (Str×Addr),(forIn names c1 (λx (r:List (Str×Addr))=>if x.2==NameKind.free then(do let a←cellOf env x.1;pure (ForInStep.yield ((x.1,a)::r))) else pure (ForInStep.yield r)):Sem (List (Str×Addr)))=pure ck∧
   (∀y c,ck.lookup y=some c→env.cells.lookup y=some c)∧(∀y,(∃c,c1.lookup y=some c)∨(y,NameKind.free)∈names→∃c,ck.lookup y=some c)
 | [],c1,_,bF=>⟨c1,rfl,bF,λy h=>h.elim id λz=>absurd z (by simp)⟩
 |(n,k)::r,c1,bJ,bF=>by
  have bq:∀y∈r,y.2= .free→∃c,env.cells.lookup y.1=some c:=λy bR=>bJ y (qaq _ bR)
  by_cases bt:k= .free
  ·subst bt;obtain⟨c,bu⟩:=bJ (n,.free) qbo rfl;have ga:∀y cZ,((n,c)::c1).lookup y=some cZ→env.cells.lookup y=some cZ:=λy cZ h=>by
    cases bR:y==n with
    |true=>
     simp only[qa5,bR] at h;cases h;rw[beq_iff_eq.mp bR];exact bu
    |false=>
     simp only[qa5,bR] at h;exact bF y cZ h
   obtain⟨ck,e,bj,bp⟩:=Za3 env r ((n,c)::c1) bq ga;refine⟨ck,?_,bj,λy h=>bp y ?_⟩
   ·rw[List.forIn_cons];have:cellOf env n=pure c:=by unfold cellOf;rw[bu]
    simp only[beq_self_eq_true,if_true,this];exact e
   ·rcases h with⟨cZ,h⟩|h
    ·cases bR:y==n with
     |true=>exact .inl ⟨c,by simp only[qa5,bR]⟩
     |false=>exact .inl ⟨cZ,by simp only[qa5,bR];exact h⟩
    ·rcases qae.mp h with h|h
     ·cases h;exact .inl ⟨c,by simp⟩
     ·exact .inr h
  ·obtain⟨ck,e,bj,bp⟩:=Za3 env r c1 bq bF;refine⟨ck,?_,bj,λy h=>bp y ?_⟩
   ·rw[List.forIn_cons];have a_:(k==NameKind.free)=false:=by simpa using bt
    simp only[a_,Bool.false_eq_true,if_false];exact e
   ·rcases h with h|h
    ·exact .inl h
    ·rcases qae.mp h with h|h
     ·cases h;exact absurd rfl bt
     ·exact .inr h
def PIf(X:Cx)(ifs:List Expr)(t:TT):Prop:=
 ∀(a':List (Addr×Obj))(s:Shared)(af:St)(H:Hp)(Q:Bool→Hp→Prop),Inv X a' af H s→t af H Q→
  wpAny (model X.prog X.w) X.A (forIn ifs true λc r=>if r=true then do let ok←isTrue c X.env (eval c X.env);pure (ForInStep.yield ok) else pure (ForInStep.yield r)) (TP X a' af Q) X.xe s
noncomputable def tAll:TT:=λ_ H Q=>Q true H
section
variable {X:Cx}
theorem gF:PIf X [] tAll:=λ_ _ _ H _ I h=>wpAny_pure ⟨H,I,h⟩
theorem nR{c:Expr}{t:TT}(bu:PT X c t):PIf X [c] t:=by
 intro a' s af H Q I h;rw[List.forIn_cons];simp only[if_true];refine wpAny_bind (wpAny_bind (thn (bu a' s af H _ I h) λb bw q=>wpAny_pure ?_));exact wpAny_pure q
end
section
variable {prog:Program}{w:World}{A:Around}{R:Result→Shared→Prop}{s:Shared}
theorem Zbx{e9 target er:Expr}{ifs:List Expr}{scope:Scope}{pos:Pos}{it c1:Value}{env:Env}(I:Nat→Shared→Prop)
  (turn:∀n s,I n s→wpAny (model prog w) A (pyNext it) (λr dn=>match r with
   |none=>R (.ok .next) dn
   |some v=>wpAny (model prog w) A (letOwnedTupleGo target it v) (λ_ s₀=>wpAny (model prog w) A (assign target env v) (λ_ lr=>
     wpAny (model prog w) A (forIn ifs true λc r=>if r=true then do let ok←isTrue c env (eval c env);pure (ForInStep.yield ok) else pure (ForInStep.yield r)) (λok ku=>
      if ok=true then wpAny (model prog w) A (eval e9 env) (λx nS=>
       wpAny (model prog w) A (call (.builtin "list.append") [c1,x]) (λ_ yO=>∃m,m<n∧I m yO) (λ_ _=>False) nS) (λ_ _=>False) ku
      else ∃m,m<n∧I m ku) (λ_ _=>False) lr) (λ_ _=>False) s₀) (λ_ _=>False) dn) (λ_ _=>False) s)
  (n:Nat) (h:I n s):
  codeAny (model prog w) A (.compLoop (.ListComp e9 [⟨target,er,ifs,0⟩] scope pos) 0 it c1 env) R s:=by
 refine codeAny_loop rfl I (λn s pi=>?_) n h;show wpAny _ A ((compTurn (.ListComp e9 [⟨target,er,ifs,0⟩] scope pos) 0 it c1 env).onRaise (λx=>do noteFrame x env;theTreesLotGoes x)) _ _ s;refine wpAny_noted ?_;rw[compTurn_list];refine wpAny_bind (wpAny_standAt (wpAny_bind (wpAny_mono (turn n s pi) (λr dn h₁=>?_) λ_ _ z=>z.elim)));cases r with
 |none=>exact wpAny_pure h₁
 |some v=>
  refine wpAny_bind (wpAny_mono h₁ (λ_ s₀ h₀=>?_) λ_ _ z=>z.elim);refine wpAny_bind (wpAny_mono h₀ (λ_ lr GK=>wpAny_bind (wpAny_mono GK (λok ku yP=>?_) λ_ _ z=>z.elim)) λ_ _ z=>z.elim);cases ok with
  |false=>exact wpAny_pure ⟨rfl,yP⟩
  |true=>
   exact wpAny_bind (wpAny_bind (wpAny_mono yP (λx nS GL=>wpAny_bind (wpAny_mono GL (λ_ yO GN=>wpAny_pure (wpAny_pure ⟨rfl,GN⟩)) λ_ _ z=>z.elim)) λ_ _ z=>z.elim))
end
noncomputable def t0 (ix:List Nat) (eA:TI) (g:TG) (dq:TT) (cA:TE):TE:=λaf H Q=>eA af H λJ bn=>∀p,bn p=none→
 ∃W:Nat→Nat→List V→St→Hp→Prop,(∃m,W 0 m [] (emb ix af) (upd bn p (.lst [])))∧∀i m ys bW ae,W i m ys bW ae→
  (J.stop i ae∧Q (.ref p) ae)∨(J.go i ae∧∀x bv,J.yld i ae x bv→g x bW bv λda b9=>dq da b9 λb b7=>
   if b=true then cA da b7 λv b1=>b1 p=some (.lst ys)∧ys.length<sizeLine∧∃cr,cr<m∧W (i+1) cr (ys++ [v]) da (upd b1 p (.lst (ys++ [v])))
   else ∃cr,cr<m∧W (i+1) cr ys da b7)
section
variable {X:Cx}
theorem ZiC{a':List (Addr×Obj)}{af:St}{H:Hp}{s:Shared}{b8:Scope}{x:Str}{zs:List Str}{ix:List Nat}{ck:List (Str×Addr)}{fp:List Addr}{h₁:Heap}{bY:Nat}
  (S:Y3 X b8 x zs ix) (I:Inv X a' af H s) (eu:∀y c,ck.lookup y=some c→X.env.cells.lookup y=some c) (hh:∀y,(y,NameKind.free)∈b8.names→∃c,ck.lookup y=some c)
  (hC:∀b∈fp,gy X a' H b∧b<s.heap.objs.size) (kI:h₁.Ns s.heap.objs.size λ_=>none) (bt:∀b o,s.heap.get? b=some o→h₁.get? b=some o):
  Inv (Zl X b8 ck s.heap.objs.size (x::zs) s H fp) [] (emb ix af) H {s with heap:=h₁,toks:=bY}:=by
 have sub:∀b∈frs X.stack,b∈X.env.locals::X.fs:=I.stkSub;have t1:∀b∈fp,b∉frs X.stack:=λb a_ z=>by
  obtain⟨⟨_,f1,f2,_⟩,_⟩:=hC b a_;rcases qae.mp (sub b z) with e|e
  ·exact f1 e
  ·exact f2 e
 have cut:∀y,(Zl X b8 ck s.heap.objs.size (x::zs) s H fp).env.kindOf y=some .cell∨(Zl X b8 ck s.heap.objs.size (x::zs) s H fp).env.kindOf y=some .free→∃c,ck.lookup y=some c:=λy bR=>by
  have q:∃k,(relabel b8 X.env).names.lookup y=some k∧(k= .cell∨k= .free):=by
   rcases bR with bR|bR
   ·exact⟨_,bR,.inl rfl⟩
   ·exact⟨_,bR,.inr rfl⟩
  obtain⟨k,e,bt⟩:=q;obtain⟨k',cf,q⟩:=Wv e;have:k'= .free:=by
   rcases q with q|⟨q,_⟩
   ·rcases bt with z|z
    ·exact absurd (q.symm.trans z) (S.nocell _ (lA cf))
    ·exact q.symm.trans z
   ·exact q
  subst this;exact hh y (lA cf)
 refine⟨⟨I.ok.mod,S.kind,I.ok.glob,I.ok.blt,qaa _,λy z c bj bp=>I.ok.inj y z c (eu _ _ bj) (eu _ _ bp),cut,λy c bJ _=>?_,I.ok.hd,I.ok.frames,.inl rfl,λb a_=>?_,I.bs,qal I.ok.bsz I.sz,λb o e a_=>?_,t1,I.stack,I.stkFree⟩,
  rfl,I.bare,Un.kept bt,⟨_,kI,λi y v bj bp bT=>?_⟩,λy c h=>?_,I.hok.fresh (qaa _),λy c h=>I.freeC y c (eu y c h),λp bD=>absurd (show p∈([]:List (Addr×Obj)) from bD) (by simp),I.hok.kept bt,?_⟩
 ·exact absurd (show false=true from bJ) (by decide)
 ·obtain⟨⟨dG,f1,f2,df,es,dV⟩,aj⟩:=hC b a_;exact⟨qak aj,λy c h=>es y c (eu y c h)⟩
 ·obtain⟨⟨dG,f1,f2,df,es,dV⟩,aj⟩:=hC b a_;rcases df with z|z
  ·exact I.ok.noex b o e z
  ·exact absurd (qag (Heap.lt_size e) (qal I.ok.bsz z)) (qbk _)
 ·
  cases i with
  |zero=>
   have:(none:Option (Option V))=some (some v)∨(some none:Option (Option V))=some (some v):= .inr bp;rcases this with z|z<;>cases z
  |succ i=>
   have jW:zs[i]? =some y:=bj;have gG:(ix.map λj=>(af[j]?).join)[i]? =some (some v):=bp;have bF:(ix.map λj=>X.N[j]?)[i]? =some (some y):=by rw[S.at_,qaj,jW];rfl
   rw[qaj] at gG bF;cases e:ix[i]? with
   |none=>rw[e] at gG;cases gG
   |some j=>
    rw[e] at gG bF;have ga:X.N[j]? =some y:=qan bF;have bC:(af[j]?).join=some v:=qan gG;have t2:af[j]? =some (some v):=by
     cases q:af[j]? with
     |none=>rw[q] at bC;cases bC
     |some o=>rw[q] at bC;exact congrArg some bC
    obtain⟨m,bO,aj⟩:=I.loc;have gb:=S.zfree y (qar jW);have mu:=S.free _ (lA gb) rfl;have b_:Vis X.env.scope y:=by
     rcases mu with z|z
     ·exact .inr (.inl z)
     ·exact .inr (.inr z)
    obtain⟨u,r,q⟩:=aj j y v ga t2 b_;refine⟨u,r,?_⟩;rcases q with⟨t3,_⟩|⟨_,c,bu,lu⟩
    ·have pj:X.env.kindOf y=some .local:=t3;rcases mu with z|z<;>(rw[z] at pj;cases pj)
    ·obtain⟨cZ,jP⟩:=hh y (lA gb);have nQ:cZ=c:=by have:=eu y cZ jP;rw[bu] at this;exact(qan this).symm
     subst nQ;refine .inr ⟨?_,cZ,jP,?_⟩
     ·have t4:Vis (relabel b8 X.env) y:=bT;rcases t4 with z|z|z
      ·obtain⟨k',cf,q⟩:=Wv z;rw[gb] at cf;cases cf;rcases q with q|⟨_,q⟩<;>cases q
      ·exact .inl z
      ·exact .inr z
     ·obtain⟨o,bI,hd⟩:=lu;exact⟨o,bt _ _ bI,hd⟩
 ·obtain⟨v,o,bI,hd⟩:=I.cell y c (eu y c h);exact⟨v,o,bt _ _ bI,hd⟩
 ·show(none::ix.map λj=>(af[j]?).join).length=(x::zs).length;have:=congrArg List.length S.at_;simp only[GE] at this;simp only[List.length_cons,GE,this]
structure ZlM(ok:Cx→Prop)(P:Program)(w:World)(K:Frag)(cO:Expr)(J:It)(fp:List Addr)(it:Addr)(dY:Nat→Heap→Prop):Prop where
 obj:∀i h,dY i h→∀b∈fp,∃o,h.get? b=some o∧∀v,o.data≠ .cell v
 keep:∀i h h',dY i h→(∀b∈fp,∀o,h.get? b=some o→h'.get? b=some o)→dY i h'
 item:∀(X:Cx),X.prog=P→X.w=w→X.K=K→ok X→∀(i:Nat)(a':List (Addr×Obj))(s:Shared)(af:St)(H:Hp)(E:Value→Shared→Prop),Inv X a' af H s→(∀b∈fp,gy X a' H b)→dY i s.heap→J.go i H→
  wpAny (model P w) X.A (pyNext (.ref it)) (λr bw=>∃u,r=some u∧
   wpAny (model P w) X.A (letOwnedTupleGo cO (.ref it) u) (λ_ bU=>∃x ae,Inv X a' af ae bU∧cE x u∧J.yld i H x ae∧dY (i+1) bU.heap∧∀b∈fp,ae b=none) E bw) E s
 done:∀(X:Cx),X.prog=P→X.w=w→X.K=K→ok X→∀(i:Nat)(a':List (Addr×Obj))(s:Shared)(af:St)(H:Hp)(E:Value→Shared→Prop),Inv X a' af H s→(∀b∈fp,gy X a' H b)→dY i s.heap→J.stop i H→
  wpAny (model P w) X.A (pyNext (.ref it)) (λr bw=>r=none∧Inv X a' af H bw) E s
 self:∀(A:Around)(i:Nat)(s:Shared)(Q:Value→Shared→Prop)(E:Value→Shared→Prop),dY i s.heap→Q (.ref it) s→wpAny (model P w) A (pyIter (.ref it)) Q E s
theorem Um.c{P:Program}{w:World}{K:Frag}{cO:Expr}{J:It}{fp:List Addr}{it:Addr}{dY:Nat→Heap→Prop}(T:Um P w K cO J fp it dY):ZlM (λX=>X.calm=true) P w K cO J fp it dY:=
 ⟨T.obj,T.keep,T.item,T.done,T.self⟩
def yQ(X:Cx)(a':List (Addr×Obj))(af:St)(Q:VK)(c1:Value)(C:Addr)(bz:Shared):Prop:=
 ∃p ae m,c1=Value.ref p∧bz.heap.Ns C m∧Inv X a' af ae bz∧gy X a' ae C∧Q (.ref p) ae
theorem ZdK{a':List (Addr×Obj)}{af:St}{H:Hp}{s:Shared}{b8:Scope}{x:Str}{zs:List Str}{ix:List Nat}{ck:List (Str×Addr)}{fp:List Addr}{it:Addr}{dY:Nat→Heap→Prop}{J:It}
  {e9 cO er:Expr} {ifs:List Expr} {pos:Pos} {g:TG} {dq:TT} {cA:TE} {Q:VK} {E:Value→Shared→Prop} {RR:Value→Addr→Result→Shared→Prop} {yR:Cx→Prop}
  (bu:∀C N s H,yR (Zl X b8 ck C N s H fp)) (S:Y3 X b8 x zs ix) (I:Inv X a' af H s) (eu:∀y c,ck.lookup y=some c→X.env.cells.lookup y=some c) (hh:∀y,(y,NameKind.free)∈b8.names→∃c,ck.lookup y=some c)
  (T:ZlM yR X.prog X.w X.K cO J fp it dY) (st:dY 0 s.heap) (hC:∀b∈fp,gy X a' H b)
  (d5:∀C s H,PG (Zl X b8 ck C (x::zs) s H fp) cO g∧PIf (Zl X b8 ck C (x::zs) s H fp) ifs dq∧PE (Zl X b8 ck C (x::zs) s H fp) e9 cA)
  (cv:∀p,H p=none→∃W:Nat→Nat→List V→St→Hp→Prop,(∃m,W 0 m [] (emb ix af) (upd H p (.lst [])))∧∀i m ys bW ae,W i m ys bW ae→
   (J.stop i ae∧Q (.ref p) ae)∨(J.go i ae∧∀x bv,J.yld i ae x bv→g x bW bv λda b9=>dq da b9 λb b7=>
    if b=true then cA da b7 λv b1=>b1 p=some (.lst ys)∧ys.length<sizeLine∧∃cr,cr<m∧W (i+1) cr (ys++ [v]) da (upd b1 p (.lst (ys++ [v])))
    else ∃cr,cr<m∧W (i+1) cr ys da b7))
  (dk:∀c1 C f bz,yQ X a' af Q c1 C bz→RR c1 C (.ok f) bz):
  wpAny (model X.prog X.w) X.A (newList []) (λc1 ku=>wpAny (model X.prog X.w) X.A (newFunctionEnv b8 X.env.globals ck [] X.env.qual none .none (some X.env)) (λpk nS=>
   codeAny (model X.prog X.w) X.A (.compStart (.ListComp e9 [⟨cO,er,ifs,0⟩] b8 pos) 0 (.ref it) c1 {pk with scope:=relabel b8 X.env}) (RR c1 pk.locals) nS) E ku) E s:=by
 refine wpAny_newObj_type (wpAny_newFunctionEnv S.nocell (by intro y bR;simp at bR) (λh₁ hns₁ pm=>?_) S.kind);have dE:Inv X a' af (upd H s.heap.objs.size (.lst [])) {s with heap:=s.heap.push {cls:= .type "list",dict:=none,data:= .seq ([]:List Value).toArray}}:=I.lnew (its:=[]) (ys:=[]) (t':=s.toks) .nil (qau _);dsimp only at hns₁ pm⊢;obtain⟨W,⟨hx,eU⟩,turn⟩:=cv s.heap.objs.size (I.hok.fresh (qaa _));have lt:∀b∈fp,b<s.heap.objs.size:=λb a_=>by
  obtain⟨o,e,_⟩:=T.obj 0 s.heap st b a_;exact Heap.lt_size e
 have nT:∀b∈fp,∀o,(upd H s.heap.objs.size o) b=H b:=λb a_ o=>b5 (qak (lt b a_));have kp:∀b o,(s.heap.push {cls:= .type "list",dict:=none,data:= .seq ([]:List Value).toArray}).get? b=some o→h₁.get? b=some o:=λb o e=>
  pm.extBut b o (qak (Heap.lt_size e)) (Heap.get?_push_of_some _ e)
 have df:∀b∈fp,gy X a' (upd H s.heap.objs.size (.lst [])) b∧b<(s.heap.push {cls:= .type "list",dict:=none,data:= .seq ([]:List Value).toArray}).objs.size:=λb a_=>by
  obtain⟨t5,q⟩:=hC b a_;refine⟨⟨(nT b a_ _).trans t5,q⟩,?_⟩;rw[Heap.size_push];exact qbh (lt b a_)
 generalize jX:({s with heap:=s.heap.push {cls:= .type "list",dict:=none,data:= .seq ([]:List Value).toArray}}:Shared)=bS at dE;have pp:s.heap.push {cls:= .type "list",dict:=none,data:= .seq ([]:List Value).toArray}=bS.heap:=by rw[←jX]
 rw[pp] at kp df hns₁⊢;have jR:dY 0 h₁:=T.keep 0 _ _ st λb _ o e=>kp b o (by rw[←pp];exact Heap.get?_push_of_some _ e);have kK:Inv (Zl X b8 ck bS.heap.objs.size (x::zs) bS (upd H s.heap.objs.size (.lst [])) fp) [] (emb ix af) (upd H s.heap.objs.size (.lst [])) {bS with heap:=h₁,toks:=bS.toks}:=
  ZiC S dE eu hh df hns₁ kp
 obtain⟨bH,t6,bL⟩:=d5 bS.heap.objs.size bS (upd H s.heap.objs.size (.lst []));have mC:∀{ae:Hp},(∀b∈fp,ae b=none)→∀b∈fp,gy (Zl X b8 ck bS.heap.objs.size (x::zs) bS (upd H s.heap.objs.size (.lst [])) fp) [] ae b:=λ{ae} bO b a_=>
  ⟨bO b a_,(kK.ok.exf b a_).1,kK.ok.exfs b a_,.inl a_,(kK.ok.exf b a_).2,λp bD=>absurd (show p∈([]:List (Addr×Obj)) from bD) (by simp)⟩
 have pq:∀ca:Shared,ca={bS with heap:=h₁,toks:=bS.toks}→
   codeAny (model X.prog X.w) X.A (.compLoop (.ListComp e9 [⟨cO,er,ifs,0⟩] b8 pos) 0 (.ref it) (.ref s.heap.objs.size) (compEnvC b8 ck bS.heap.objs.size X.env)) (RR (.ref s.heap.objs.size) bS.heap.objs.size) ca:=by
  rintro ca rfl;refine Zbx (λn bz=>∃i ys bW ae,Inv (Zl X b8 ck bS.heap.objs.size (x::zs) bS (upd H s.heap.objs.size (.lst [])) fp) [] bW ae bz∧dY i bz.heap∧(∀b∈fp,ae b=none)∧W i n ys bW ae) ?_ hx
   ⟨0,[],emb ix af,_,kK,jR,λb a_=>(df b a_).1.1,eU⟩
  rintro n cC ⟨i,ys,kL,b1,kz,kC,hQ,t7⟩;rcases turn i n ys kL b1 t7 with⟨stop,mo⟩|⟨go,step⟩
  ·refine thn (T.done (Zl X b8 ck bS.heap.objs.size (x::zs) bS (upd H s.heap.objs.size (.lst [])) fp) rfl rfl rfl (bu _ _ _ _) i [] cC kL b1 _ kz (mC hQ) kC stop) λr ef ⟨bq,he⟩=>?_;subst bq;obtain⟨t8,pr,_⟩:=he.loc;refine dk _ _ _ _ ⟨s.heap.objs.size,b1,t8,rfl,pr,?_,dE.fpOk (qaa _) he.free,mo⟩;exact dE.call' he.os he.base he.hok he.bare λb a_=>by
    obtain⟨⟨dG,f1,f2,df,es,dV⟩,_⟩:=df b a_;exact⟨df,f1,es,dV⟩
  ·refine thn (T.item (Zl X b8 ck bS.heap.objs.size (x::zs) bS (upd H s.heap.objs.size (.lst [])) fp) rfl rfl rfl (bu _ _ _ _) i [] cC kL b1 _ kz (mC hQ) kC go) λr ef ⟨u,bq,db⟩=>?_;subst bq;refine thn db λ_ et ⟨x7,dt,hR,o3,t9,mD,ps⟩=>?_;have t_:=hR.pinned (mC ps) (T.obj _ _ mD);refine thn (bH _ et kL dt x7 u _ t_ o3 (step x7 dt t9)) λ_ eV ⟨mE,eJ,ua,ub⟩=>?_;refine thn (t6 _ eV mE eJ _ ua ub) λb gH ⟨gI,pu,kM⟩=>?_;have again:∀{mF:List V}{bW:St}{ae:Hp}{cr:Nat}{bz:Shared},Inv (Zl X b8 ck bS.heap.objs.size (x::zs) bS (upd H s.heap.objs.size (.lst [])) fp) ([]++Zax fp et.heap) bW ae bz→W (i+1) cr mF bW ae→cr<n→
     ∃m,m<n∧∃i ys bW ae,Inv (Zl X b8 ck bS.heap.objs.size (x::zs) bS (upd H s.heap.objs.size (.lst [])) fp) [] bW ae bz∧dY i bz.heap∧(∀b∈fp,ae b=none)∧W i m ys bW ae:=λ{mF bW ae cr bz} Iz jx bA=>by
    refine⟨cr,bA,i+1,mF,bW,ae,Iz.unpinned,T.keep _ _ _ mD λb a_ o e=>(Iz.pin (b,o) (qav _ (qav _ (nF a_ e)))).1,λb a_=>?_,jx⟩;obtain⟨o,e,d⟩:=T.obj _ _ mD b a_;exact(Iz.pin (b,o) (qav _ (qav _ (nF a_ e)))).2.1
   cases b with
   |false=>
    rw[if_neg qai] at kM⊢;obtain⟨cr,bA,jx⟩:=kM;exact again pu jx bA
   |true=>
    rw[if_pos rfl] at kM⊢;refine thn (bL _ gH mE gI _ pu kM) λv gc ⟨y,fY,uc,ud,aj,hz,cr,bA,jx⟩=>?_;refine thn (hg _ gc mE fY (.ref s.heap.objs.size) [y] (.ref s.heap.objs.size) [v] (λz ae=>z= .non∧ae=upd fY s.heap.objs.size (.lst (ys++ [y]))) uc rfl (.cons ud .nil) ⟨_,ys,y,rfl,rfl,aj,hz,rfl,rfl⟩) λ_ jY ⟨z,ii,uf,_,_,ug⟩=>?_;subst ug;exact again uf jx bA
 exact codeAny_compStart_list (pq _ (by subst jX;rfl)) (T.self _ 0 _ _ _ jR (pq _ (by subst jX;rfl)))
theorem VC{b8:Scope}{x:Str}{zs:List Str}{ix:List Nat}(ok:X.Ok)(S:Y3 X b8 x zs ix):
  ∃ck,closureFor b8 X.env=pure ck∧(∀y c,ck.lookup y=some c→X.env.cells.lookup y=some c)∧∀y,(y,NameKind.free)∈b8.names→∃c,ck.lookup y=some c:=by
 obtain⟨ck,e,bj,bp⟩:=Za3 X.env b8.names [] (λy bR bJ=>ok.has y.1 (S.free y bR bJ)) (λy c h=>by simp at h);refine⟨ck,?_,bj,λy bR=>bp y (.inr bR)⟩;unfold closureFor;simp only;rw[e]
 rfl
theorem jZ{e9 cO er:Expr}{ifs:List Expr}{b8:Scope}{pos:Pos}{x:Str}{zs:List Str}{ix:List Nat}{eA:TI}{g:TG}{dq:TT}{cA:TE}
  (bu:X.calm=true) (S:Y3 X b8 x zs ix) (hi:PI X cO er eA)
  (d5:∀ck C s H fp,PG (Zl X b8 ck C (x::zs) s H fp) cO g∧PIf (Zl X b8 ck C (x::zs) s H fp) ifs dq∧PE (Zl X b8 ck C (x::zs) s H fp) e9 cA)
  (hs:∀x,foldedSetIterable er X.env x=pure x:=by intro _;rfl):
  PE X (.ListComp e9 [⟨cO,er,ifs,0⟩] b8 pos) (t0 ix eA g dq cA):=by
 intro a' s af H Q I h;obtain⟨ck,mG,eu,hh⟩:=VC I.ok S;rw[eval_ListComp];refine wpAny_comprehension_free (use:=none) rfl hs mG S.kind S.names (thn (hi a' s af H _ I h) λv bw bj=>thn bj λnE bU bp=>?_);obtain⟨it,fp,dY,J,bv,e,cF,T,kB,f2,cv⟩:=bp;subst e;refine ZdK (RR:=λc1 C=>compPost (model X.prog X.w) X.A X.xe none (EP X a' af Q) c1 C) (λ_ _ _ _=>bu) S cF eu hh T.c kB f2 (λC s H=>d5 ck C s H fp) cv λc1 C f bz h=>?_;obtain⟨p,ae,m,rfl,bA,e2,⟨dL,g1,g2,g3,gZ,mH⟩,q⟩:=h;exact⟨m,bA,λh' a_=>⟨.ref p,ae,e2.turned (t':=bz.toks) (λb o eR e=>(a_.2 b eR).trans e) dL g1 g3 gZ mH,rfl,q⟩⟩
theorem rb{e9 cO er:Expr}{ifs:List Expr}{b8:Scope}{pos py pw:Pos}{x y:Str}{zs:List Str}{ix:List Nat}{eA:TI}{g:TG}{dq:TT}{cA:TE}{j:Nat}
  (bu:X.calm=true) (S:Y3 X b8 x zs ix) (hi:PI X cO er eA)
  (d5:∀ck C s H fp,PG (Zl X b8 ck C (x::zs) s H fp) cO g∧PIf (Zl X b8 ck C (x::zs) s H fp) ifs dq∧PE (Zl X b8 ck C (x::zs) s H fp) e9 cA)
  (ed:X.N.Nodup) (bC:X.N[j]? =some y) (bR:Loc X.env.scope y)
  (uh:swapsWith (.ListComp e9 [⟨cO,er,ifs,0⟩] b8 pos) (some (.Name y py)) pw.line X.env=pure true:=by rfl)
  (bJ:X.fn y=true∨X.env.scope.names.lookup y=some .local:=by first|exact .inl rfl|exact .inr rfl|assumption)
  (hs:∀x,foldedSetIterable er X.env x=pure x:=by intro _;rfl):
  PS X (.Assign [.Name y py] (.ListComp e9 [⟨cO,er,ifs,0⟩] b8 pos) pw) (oX (t0 ix eA g dq cA) (V9 j)):=by
 intro a' s af H D I h;obtain⟨ck,mG,eu,hh⟩:=VC I.ok S;rw[exec_Assign_Name_used _ _ _ _ uh];refine wpAny_bind (wpAny_standAt (wpAny_bind ?_));show wpAny _ X.A (do let _←comprehension (.ListComp e9 [⟨cO,er,ifs,0⟩] b8 pos) b8 X.env _ (newList []) false (eval er X.env) (some (assign (.Name y py) X.env))) _ _ s;refine wpAny_bind (wpAny_mono (wpAny_comprehension_free (use:=some (assign (.Name y py) X.env)) (Q:=λ_ bz=>SP X a' D .next bz) rfl hs mG S.kind S.names
  (thn (hi a' s af H _ I h) λv bw bj=>thn bj λnE bU bp=>?_)) (λ_ bz cv=>wpAny_pure (wpAny_pure cv)) λ_ _ e=>e)
 obtain⟨it,fp,dY,J,bv,e,cF,T,kB,f2,cv⟩:=bp;subst e;refine ZdK (Q:=λx bn=>V9 j x af bn D.nx) (RR:=λc1 C=>compPost (model X.prog X.w) X.A X.xe (some (assign (.Name y py) X.env)) (λ_ bz=>SP X a' D .next bz) c1 C) (λ_ _ _ _=>bu) S cF eu hh T.c kB f2 (λC s H=>d5 ck C s H fp) cv λc1 C f bz h=>?_;obtain⟨p,ae,m,rfl,bA,e2,⟨dL,g1,g2,g3,gZ,mH⟩,q⟩:=h;show wpAny _ X.A (assign (.Name y py) X.env (.ref p)) _ _ _;refine wpAny_assign_Name (tt e2 ed bC bR (show cE (.ref p) (.ref p) from rfl) (λmr I'' ⟨c,ui,nz⟩=>?_) bJ);have eR:C≠c:=by
  rcases nz with z|z
  ·rw[z];exact g1
  ·exact qbH (gZ _ _ z)
 exact⟨m,bA.sameBut ui eR,λh' a_=>⟨_,ae,I''.turned (t':=mr.toks) (λb o eR e=>(a_.2 b eR).trans e) dL g1 g3 gZ mH,q⟩⟩
end
def Z6(h:Heap)(e:Addr):Prop:=∃o vs,h.get? e=some o∧o.data= .fields vs∧vs[2]? =some Value.none
noncomputable def Kp (P:Heap→Prop) {cM:Type}:Sem cM→Prop
 | .pure _=>True
 | .raise _=>True
 | .unsupported _=>True
 | .finish _=>True
 | .rule _ k=>Kp P (k ())
 | .at _ k=>Kp P (k ())
 | .load _ _ k=>∀o,Kp P (k o)
 | .update a _ f k=>(∀h,P h→P (h.update a f))∧Kp P (k ())
 | .alloc o k=>(∀h,P h→P (h.push o))∧∀a,Kp P (k a)
 | .loadIfAlive _ k=>∀o,Kp P (k o)
 | .point _ k=>Kp P (k ())
 | .ask k=>∀x,Kp P (k x)
 | .stack k=>∀x,Kp P (k x)
 |_=>False
section
variable {cM gj:Type}{P:Heap→Prop}{M:Model}{A:Around}{E:Value→Shared→Prop}{s:Shared}
theorem Kp.wp{rc:PySem.Ctx}{Q:cM→Pos→Shared→Prop}{E:Value→Pos→Shared→Prop}(t:Sem cM):∀(p:Pos)(s:Shared),Kp P t→P s.heap→Sem.wp M rc t Q E p s→
  Sem.wp M rc t (λa p bz=>Q a p bz∧P bz.heap) (λe p bz=>E e p bz∧P bz.heap) p s:=by
 induction t with
 |pure a=>exact λp s _ bD h=>⟨h,bD⟩
 |raise a=>exact λp s _ bD h=>⟨h,bD⟩
 |unsupported w=>exact λp s _ bD h=>h
 |finish w=>exact λp s _ bD h=>h
 |rule _ k bQ=>exact λp s bt bD h=>bQ () p s bt bD h
 | «at» gW k bQ=>exact λp s bt bD h=>bQ () gW s bt bD h
 |load _ _ k bQ=>exact λp s bt bD ⟨o,e,h⟩=>⟨o,e,bQ o p s (bt o) bD h⟩
 |update _ _ _ k bQ=>exact λp s bt bD ⟨e,h⟩=>⟨e,bQ () p _ bt.2 (bt.1 _ bD) h⟩
 |alloc _ k bQ=>exact λp s bt bD h=>bQ _ p _ (bt.2 _) (bt.1 _ bD) h
 |loadIfAlive _ k bQ=>exact λp s bt bD h=>bQ _ p s (bt _) bD h
 |point _ k bQ=>exact λp s bt bD h=>bQ () p s bt bD h
 |ask k bQ=>exact λp s bt bD h=>bQ _ p s (bt _) bD h
 |stack k bQ=>exact λp s bt bD h=>bQ _ p s (bt _) bD h
 |register=>exact λp s bt _ _=>False.elim bt
 |fresh=>exact λp s bt _ _=>False.elim bt
 |choose=>exact λp s bt _ _=>False.elim bt
 |os=>exact λp s bt _ _=>False.elim bt
 |call=>exact λp s bt _ _=>False.elim bt
 |handled=>exact λp s bt _ _=>False.elim bt
 |newGen=>exact λp s bt _ _=>False.elim bt
 |genState=>exact λp s bt _ _=>False.elim bt
 |resume=>exact λp s bt _ _=>False.elim bt
 |yield=>exact λp s bt _ _=>False.elim bt
 |fork=>exact λp s bt _ _=>False.elim bt
 |thread=>exact λp s bt _ _=>False.elim bt
 |await=>exact λp s bt _ _=>False.elim bt
theorem Kp.any{t:Sem cM}{Q:cM→Shared→Prop}(k:Kp P t)(bD:P s.heap)(h:wpAny M A t Q E s):wpAny M A t (λa bz=>Q a bz∧P bz.heap) (λe bz=>E e bz∧P bz.heap) s:=λrc p GO=>Kp.wp t p s k bD (h rc p GO)
theorem Kp.bind{f:cM→Sem gj}(m:Sem cM):Kp P m→(∀a,Kp P (f a))→Kp P (m.bind f):=by
 induction m with
 |pure a=>exact λ_ bJ=>bJ a
 |raise a=>exact λ_ _=>trivial
 |unsupported w=>exact λ_ _=>trivial
 |finish w=>exact λ_ _=>trivial
 |rule _ k bQ=>exact λbt bJ=>bQ () bt bJ
 | «at» _ k bQ=>exact λbt bJ=>bQ () bt bJ
 |load _ _ k bQ=>exact λbt bJ o=>bQ o (bt o) bJ
 |update _ _ _ k bQ=>exact λbt bJ=>⟨bt.1,bQ () bt.2 bJ⟩
 |alloc _ k bQ=>exact λbt bJ=>⟨bt.1,λa=>bQ a (bt.2 a) bJ⟩
 |loadIfAlive _ k bQ=>exact λbt bJ o=>bQ o (bt o) bJ
 |point _ k bQ=>exact λbt bJ=>bQ () bt bJ
 |ask k bQ=>exact λbt bJ o=>bQ o (bt o) bJ
 |stack k bQ=>exact λbt bJ o=>bQ o (bt o) bJ
 |register=>exact λbt _=>False.elim bt
 |fresh=>exact λbt _=>False.elim bt
 |choose=>exact λbt _=>False.elim bt
 |os=>exact λbt _=>False.elim bt
 |call=>exact λbt _=>False.elim bt
 |handled=>exact λbt _=>False.elim bt
 |newGen=>exact λbt _=>False.elim bt
 |genState=>exact λbt _=>False.elim bt
 |resume=>exact λbt _=>False.elim bt
 |yield=>exact λbt _=>False.elim bt
 |fork=>exact λbt _=>False.elim bt
 |thread=>exact λbt _=>False.elim bt
 |await=>exact λbt _=>False.elim bt
theorem Kp.bd{m:Sem cM}{f:cM→Sem gj}(bA:Kp P m)(bJ:∀a,Kp P (f a)):Kp P (m >>= f):=Kp.bind m bA bJ
theorem Kp.pure(a:cM):Kp P (Pure.pure a:Sem cM):=trivial
theorem Kp.uns(w:String):Kp P (PySem.unsupported w:Sem cM):=trivial
theorem Kp.ite{c:Prop}[Decidable c]{a b:Sem cM}(bF:Kp P a)(a_:Kp P b):Kp P (if c then a else b):=by split<;>assumption
end
section
variable {e:Addr}
theorem Z6.slots{h:Heap}{a:Addr}{g:Obj→Array (Option Value)}(x:Z6 h e):Z6 (h.update a λo=>{o with slots:=g o}) e:=by
 obtain⟨o,vs,bI,hd,bp⟩:=x
 by_cases bF:a=e
 ·subst bF;exact⟨_,vs,Heap.get?_update_self _ bI (Obj.isFreed_of_fields (vs:=vs) hd),hd,bp⟩
 ·exact⟨o,vs,(Heap.get?_update_other _ _ bF).trans bI,hd,bp⟩
theorem Z6.field{h:Heap}{a:Addr}{i:Nat}{v:Value}(hi:i≠2)(x:Z6 h e):Z6 (h.update a (Obj.mapFields (·.setIfInBounds i v))) e:=by
 obtain⟨o,vs,bI,hd,bp⟩:=x
 by_cases bF:a=e
 ·subst bF;exact⟨_,_,Heap.get?_update_self _ bI (Obj.isFreed_of_fields (Obj.data_mapFields hd _)),Obj.data_mapFields hd _,by rw[Array.getElem?_setIfInBounds_ne hi];exact bp⟩
 ·exact⟨o,vs,(Heap.get?_update_other _ _ bF).trans bI,hd,bp⟩
theorem Z6.push{h:Heap}{cT:Obj}(x:Z6 h e):Z6 (h.push cT) e:=
 let⟨o,vs,bI,r⟩:=x;⟨o,vs,Heap.get?_push_of_some _ bI,r⟩
theorem Zes{a:Addr}:Kp (λh=>Z6 h e) (load a):=λ_=>trivial
theorem Zhc{v:Value}:Kp (λh=>Z6 h e) (fieldsOf v):=by
 unfold fieldsOf;cases v<;>first|exact Kp.uns _|skip
 refine Kp.bd Zes λo=>?_
 split<;>trivial
theorem Zbd{v:Value}{i:Nat}:Kp (λh=>Z6 h e) (field v i):=by
 unfold field;refine Kp.bd Zhc λo=>?_
 split<;>trivial
theorem ZeR{a:Addr}{i:Nat}{x:Value}(hi:i≠2):Kp (λh=>Z6 h e) (updateField a i x):=by
 unfold updateField;refine Kp.bd Zes λo=>?_
 split
 ·split
  ·exact⟨λ_ h=>h.field hi,trivial⟩
  ·trivial
 ·trivial
theorem uj{v:Value}{i:Nat}{x:Value}(hi:i≠2):Kp (λh=>Z6 h e) (setField v i x):=by
 unfold setField;cases v<;>first|exact Kp.uns _|exact ZeR hi
theorem Zjp{env:Env}{outer:List Env}:Kp (λh=>Z6 h e) (behindIsImport env outer):=by
 unfold behindIsImport;refine Kp.ite (Kp.pure _) (Kp.ite (Kp.pure _) (Kp.bd Zbd λ_=>Kp.pure _))
theorem GP:Kp (λh=>Z6 h e) underTheClaimsCaller:=by
 unfold underTheClaimsCaller;exact Kp.bd (λ_=>trivial) λ_=>Kp.pure _
theorem Zl5{env:Env}{yS:Bool}{outer:List Env}:Kp (λh=>Z6 h e) (keptBack env yS outer):=by
 cases outer with
 |nil=>exact Kp.ite (Kp.pure _) (Kp.bd GP λ_=>Kp.pure _)
 |cons c r=>exact Kp.pure _
theorem yT:∀l:List Env,Kp (λh=>Z6 h e) (readyFrames l)
 | []=>Kp.pure _
 |env::outer=>by
  unfold readyFrames;cases env.frame with
  |none=>exact Kp.uns _
  |some f=>
   refine Kp.bd Zes λo=>?_;refine Kp.ite (Kp.pure _) (Kp.bd Zjp λyS=>Kp.bd Zl5 λQv=>Kp.bd ⟨λ_ h=>h.slots,trivial⟩ λ_=>yT outer)
theorem Ziy{env:Env}:Kp (λh=>Z6 h e) (PySem.frameOf env):=by
 unfold PySem.frameOf;refine Kp.bd (Kp.bd (λ_=>trivial) λ_=>Kp.pure _) λl=>Kp.bd ?_ λo=>?_
 ·generalize (l.dropWhile λx=>x.frame != env.frame)=k;cases k with
  |nil=>exact Kp.pure _
  |cons a r=>exact Kp.bd (yT _) λ_=>Kp.pure _
 ·cases o with
  |none=>exact Kp.uns _
  |some x=>exact Kp.pure _
theorem ZgL{v:Value}{f:Option Addr}:Kp (λh=>Z6 h e) (setFlight v f):=by
 unfold setFlight;refine Kp.bd Zbd λt=>?_;exact Kp.ite (uj (by decide)) (Kp.pure _)
theorem Zkf{f:Addr}{b:Bool}:Kp (λh=>Z6 h e) (entryPlaceOf f b):=by
 unfold entryPlaceOf;refine Kp.bd (λ_=>trivial) λQw=>?_
 split<;>exact Kp.pure _
theorem Zi8{ty:String}{vs:List Value}:Kp (λh=>Z6 h e) (newFields ty vs):=by
 unfold newFields newObj;have rd:Kp (λh=>Z6 h e) (newObjAsIs (.type ty) (.fields vs.toArray)):=⟨λ_ h=>h.push,λ_=>trivial⟩;dsimp only
 split
 ·exact Kp.uns _
 ·exact rd
theorem Zmk{v:Value}{env:Env}:Kp (λh=>Z6 h e) (noteFrame v env):=by
 unfold noteFrame;cases env.frame with
 |none=>exact Kp.uns _
 |some f=>
  have rd:∀hd:Value,Kp (λh=>Z6 h e) (do let x←PySem.frameOf env;let pl←entryPlaceOf f (hd != Value.none);let b←EntryCells.newEntry hd x .none (rawInt f) .none pl;setField v 1 b):=λhd=>
   Kp.bd Ziy λx=>Kp.bd Zkf λpl=>Kp.bd Zi8 λb=>uj (by decide)
  refine Kp.bd Zbd λhd=>?_;refine Kp.ite ?_ (rd hd);refine Kp.bd Zbd λt=>Kp.ite (Kp.pure _) (Kp.bd (uj (by decide)) λ_=>rd hd)
theorem Zek{v:Value}{env:Env}:Kp (λh=>Z6 h e) (leaving env v):=Kp.bd Zmk λ_=>ZgL
section
variable {M:Model}{A:Around}{E:Value→Shared→Prop}{s:Shared}{base:Heap}{l outer:List Env}{env:Env}{L:Addr}{cls a0:Value}{Q:Unit→Shared→Prop}
theorem Kp.to{P R:Heap→Prop}{t:Sem Unit}(k:Kp P t)(bD:P s.heap)(h:wpAny M A t (λ_ bz=>∃h',bz={s with heap:=h'}∧R h') (λ_ _=>False) s)(hM:∀h',R h'→P h'→Q () {s with heap:=h'}):wpAny M A t Q E s:=
 wpAny_mono (k.any bD h) (λ_ _ ⟨⟨h',e,r⟩,p⟩=>by subst e;exact hM h' r p) λ_ _ z=>z.1.elim
theorem Zik(mI:Z6 s.heap e)(gb:A.frames=some (env::outer))(bJ:env.frame=some L)(mJ:Heap.FlyingW base (env::outer) e cls a0 s.heap)
  (hM:∀h',Heap.FlyingW base outer e cls a0 h'→s.heap.UpToSlots h'→Z6 h' e→Q () {s with heap:=h'}):wpAny M A (leaving env (.ref e)) Q E s:=
 Zek.to (R:=λh'=>Heap.FlyingW base outer e cls a0 h'∧s.heap.UpToSlots h') mI (wpAny_leaves_onW gb bJ mJ λh' a b=>⟨h',rfl,a,b⟩) λh' r p=>hM h' r.1 r.2 p
theorem ZgN{h:Heap}{args:List Value}(gb:A.frames=some (env::outer))(bJ:env.frame=some L)(GQ:base.StaysIn h)(aj:h.FunFrames base (env::outer))(bo:Heap.MadeExcOf h s.heap e cls args)
  (hM:∀h' t,Heap.FlyingW base outer e cls (.ref t) h'→h'.TupAt t args→base.get? t=none→s.heap.UpToSlots h'→Z6 h' e→Q () {s with heap:=h'}):wpAny M A (leaving env (.ref e)) Q E s:=by
 have mI:Z6 s.heap e:=by
  obtain⟨t,bL,_⟩:=bo.there;exact⟨_,_,bL,rfl,rfl⟩
 exact Zek.to (R:=λh'=>∃t,Heap.FlyingW base outer e cls (.ref t) h'∧h'.TupAt t args∧base.get? t=none∧s.heap.UpToSlots h') mI (wpAny_leaves_madeW gb bJ GQ aj bo λh' t a b c d=>⟨h',rfl,t,a,b,c,d⟩) λh' ⟨t,a,b,c,d⟩ p=>hM h' t a b c d p
end
end
noncomputable def CXX (P:Program) (w:World):CXT:=λouter H s E e bz=>
 ∃(dH:Addr)(cls a0:Value)(ae:Hp)(B:Heap),e= .ref dH∧bz.os=s.os∧AllBare bz.gens∧Un (frs outer) [] H ae s.heap bz.heap∧HOk P w ae bz.heap∧
  Heap.FlyingW B outer dH cls a0 bz.heap∧(∀b o,bz.heap.get? b=some o→(ae b≠none∨((∃cq,s.heap.get? b=some cq)∧b∉frs outer))→B.get? b=some o)∧Z6 bz.heap dH∧E cls none ae
theorem HOk.stays{P:Program}{w:World}{H:Hp}{h h' B:Heap}(ok:HOk P w H h)(gE:∀b o,h.get? b=some o→H b≠none→B.get? b=some o)(st:B.StaysIn h'):HOk P w H h':=λa o e=>
 (ok a o e).stay (λb u a_ q=>st b u (gE b u q (by
  rcases a_ with rfl|a_
  ·rw[e];exact λz=>nomatch z
  ·rw[a_];exact λz=>nomatch z))) (λ_ q=>q) λ_ _ q=>q
theorem Z0.got{P:Program}{w:World}{H:Hp}{h:Heap}{a:Addr}{o:HO}(x:Z0 P w H h a o):∃cT,h.get? a=some cT:=by
 cases o with
 |lst xs=>obtain⟨_,_,_,_,e⟩:=x;exact⟨_,e⟩
 |tup xs=>obtain⟨_,_,_,p⟩:=x;obtain⟨cT,e,_⟩:=p;exact⟨cT,e⟩
 |dK kvs=>obtain⟨_,_,_,_,o,_,_,e,_⟩:=x;exact⟨o,e⟩
 |dT kvs=>obtain⟨_,_,_,_,o,_,_,e,_⟩:=x;exact⟨o,e⟩
 |set S n=>obtain⟨o,_,_,_,e,_⟩:=x;exact⟨o,e⟩
 |ins C bx fs=>obtain⟨_,_,_,e,_⟩:=x;exact⟨_,e⟩
 |own y=>exact x
 |xd fs=>obtain⟨_,⟨o,_,_,e,_⟩,_⟩:=x;exact⟨o,e⟩
 |rng lo hi=>obtain⟨_,_,_,e⟩:=x;exact⟨_,e⟩
 |frz cT u=>obtain⟨e,_⟩:=x;exact⟨cT,e⟩
 |tbl b'=>exact⟨_,(show h.get? a=some _ from x)⟩
 |met f y=>exact⟨_,(show h.get? a=some _ from x)⟩
 |ext mf=>obtain⟨_,e,_⟩:=x;exact e
theorem Un.fly{fs:List Addr}{H ae:Hp}{h bj bp B:Heap}(u:Un fs [] H ae h bj)(gE:∀b o,bj.get? b=some o→(ae b≠none∨((∃cq,h.get? b=some cq)∧b∉fs))→B.get? b=some o)
  (st:B.StaysIn bp) (sl:bj.UpToSlots bp) (bJ:∀b∈fs,∀o,h.get? b=some o→∀vs,o.data≠ .fields vs) (oT:∀b∈fs,H b=none):Un fs [] H ae h bp where
 keep:=λb o e n a_ bo=>st b o (gE b o (u.keep b o e n a_ bo) (.inr ⟨⟨_,e⟩,a_⟩))
 slot:=λb o e n a_ bo=>by
  obtain⟨bw,bG⟩:=u.slot b o e n a_ bo;obtain⟨bU,bK⟩:=sl b _ bG (bJ b a_ o e);exact⟨bU,bK⟩
 free:=u.free
 there:=λb o e bo=>by
  by_cases a_:b∈fs
  ·obtain⟨bw,bG⟩:=u.slot b o e (oT b a_) a_ bo;obtain⟨bU,bK⟩:=sl b _ bG (bJ b a_ o e);exact⟨_,bK⟩
  ·obtain⟨cq,bG⟩:=u.there b o e bo;exact⟨cq,st b cq (gE b cq bG (.inr ⟨⟨_,e⟩,a_⟩))⟩
 tups:=u.tups
 frzs:=u.frzs
 tbls:=u.tbls
section
variable {P:Program}{w:World}{K:Frag}{mg:Str→Option Value}{base:Heap}{N:List Str}{qual:Str}{scope:Scope}{f:Addr}{c8:Value}{A:Around}{outer:List Env}{s₀:Shared}{H₀:Hp}{E:XK}
noncomputable abbrev cxX (P:Program) (w:World) (K:Frag) (mg:Str→Option Value) (base:Heap) (N:List Str) (qual:Str) (scope:Scope) (f:Addr) (c8:Value) (A:Around) (outer:List Env) (s₀:Shared) (H₀:Hp) (E:XK):Cx:=
 ZN (CXX P w) P w K mg base N qual scope f c8 A outer s₀ H₀ E
theorem Zk6{a':List (Addr×Obj)}{af:St}{H ae:Hp}{s bz:Shared}{dH:Addr}{cls a0:Value}{B:Heap}(I:Inv (cxX P w K mg base N qual scope f c8 A outer s₀ H₀ E) a' af H s)
  (os:bz.os=s.os) (bare:AllBare bz.gens) (u:Un (frs (cxX P w K mg base N qual scope f c8 A outer s₀ H₀ E).stack) [] H ae s.heap bz.heap) (ok:HOk P w ae bz.heap)
  (gk:Heap.FlyingW B (cxX P w K mg base N qual scope f c8 A outer s₀ H₀ E).stack dH cls a0 bz.heap)
  (gE:∀b o,bz.heap.get? b=some o→(ae b≠none∨((∃cq,s.heap.get? b=some cq)∧b∉frs (cxX P w K mg base N qual scope f c8 A outer s₀ H₀ E).stack))→B.get? b=some o) (mI:Z6 bz.heap dH) (q:E cls none ae):
  (cxX P w K mg base N qual scope f c8 A outer s₀ H₀ E).xe (.ref dH) bz:=by
 have gb:(A.deeper (envOfC qual scope s₀.heap.objs.size f c8)).frames=some (envOfC qual scope s₀.heap.objs.size f c8::outer):=I.ok.frames;refine Zik mI (L:=s₀.heap.objs.size) gb rfl gk λbp re sl GR=>?_;have below:∀b o,s₀.heap.get? b=some o→b∉frs outer→(∃cq,s.heap.get? b=some cq)∧b∉frs (cxX P w K mg base N qual scope f c8 A outer s₀ H₀ E).stack:=λb o e bO=>
  ⟨I.base.there b o e (by intro z;exact absurd (show b∈([]:List Addr) from z) (by simp)),λz=>by
   rcases qae.mp (I.stkSub b z) with q|q
   ·have a_:=Heap.lt_size e;have i1:b=s₀.heap.objs.size:=q;rw[i1] at a_;exact qbk _ a_
   ·exact bO q⟩
 have i5:Un (frs outer) [] H₀ ae s₀.heap bz.heap:=by
  have cS:Un (frs outer) [] H₀ H s₀.heap s.heap:=I.base;refine⟨λb o e n a_ bo=>?_,λb o e n a_ bo=>?_,λb o e n bo=>?_,λb o e bo=>?_,λb xs e=>u.tups b xs (cS.tups b xs e),λb o v e=>u.frzs b o v (cS.frzs b o v e),λb b' e=>?_⟩
  ·exact u.keep b o (cS.keep b o e n a_ bo) (cS.free b o e n bo) (below b o e a_).2 bo
  ·obtain⟨bw,bG⟩:=cS.slot b o e n a_ bo;obtain⟨bU,bK⟩:=u.any bG (cS.free b o e n bo) bo;exact⟨bU,bK⟩
  ·obtain⟨cq,bG⟩:=cS.there b o e bo;exact u.free b cq bG (cS.free b o e n bo) bo
  ·obtain⟨cq,bG⟩:=cS.there b o e bo;exact u.there b cq bG bo
  ·obtain⟨fu,bG⟩:=cS.tbls b b' e;obtain⟨fA,bK⟩:=u.tbls b _ bG;exact⟨fu++fA,by rw[bK,Array.append_assoc]⟩
 have px:∀b o,bz.heap.get? b=some o→(ae b≠none∨((∃cq,s₀.heap.get? b=some cq)∧b∉frs outer))→B.get? b=some o:=λb o e h=>gE b o e (h.imp id λ⟨⟨cq,z⟩,bO⟩=>below b cq z bO);have GS:HOk P w ae bp:=ok.stays (λb o e n=>gE b o e (.inl n)) re.1;refine⟨dH,cls,a0,ae,B,rfl,os.trans I.os,bare,i5.fly px re.1 sl (λb a_ o e=>?_) (I.ok.frf),GS,re,λb o e h=>?_,GR,q⟩
 ·obtain⟨_,cq,cf,d⟩:=I.ok.funs.mem a_;have pz:s₀.heap.get? b=some cq:=cf;rw[e] at pz;cases pz;exact d
 ·have ex:∃cq,bz.heap.get? b=some cq:=by
   rcases h with h|⟨h,bO⟩
   ·cases c7:ae b with
    |none=>exact absurd c7 h
    |some v=>exact(ok b v c7).got
   ·obtain⟨uk,oZ⟩:=h;exact i5.there b uk oZ (by simp)
  obtain⟨cq,cf⟩:=ex;have bK:=px b cq cf h;have de:=re.1 b cq bK;have hj:bp.get? b=some o:=e;rw[de] at hj;cases hj;exact bK
theorem cp:Wh (CXX P w) (cxX P w K mg base N qual scope f c8 A outer s₀ H₀ E) E:=by
 intro a' af H s e bz I h;obtain⟨dH,cls,a0,ae,B,rfl,os,bare,u,ok,gk,gE,mI,q⟩:=h;exact Zk6 I os bare u ok gk gE mI q
noncomputable def ul (cls:Value) (E:XK) (t:TA):TS:=λ_ af H=>t af H λvs bn=>vs.length≤sizeLine∧E cls none bn
theorem Zjn{a':List (Addr×Obj)}{af:St}{H:Hp}{s:Shared}{h':Heap}{dH:Addr}{cls:Value}{us:List Value}(I:Inv (cxX P w K mg base N qual scope f c8 A outer s₀ H₀ E) a' af H s)
  (bo:Heap.MadeExcOf s.heap h' dH cls us) (q:E cls none H):(cxX P w K mg base N qual scope f c8 A outer s₀ H₀ E).xe (.ref dH) {s with heap:=h'}:=by
 have gb:(A.deeper (envOfC qual scope s₀.heap.objs.size f c8)).frames=some (envOfC qual scope s₀.heap.objs.size f c8::outer):=I.ok.frames;have d5:∀env∈(cxX P w K mg base N qual scope f c8 A outer s₀ H₀ E).stack,∀b,env.frame=some b→b∈frs (cxX P w K mg base N qual scope f c8 A outer s₀ H₀ E).stack:=λenv bL b a_=>List.mem_filterMap.mpr ⟨env,bL,a_⟩;have inB:∀b o,s.heap.get? b=some o→(H b≠none∨((∃cq,s₀.heap.get? b=some cq)∧b∉frs outer))→(hideAll s.heap (frs (cxX P w K mg base N qual scope f c8 A outer s₀ H₀ E).stack)).get? b=some o:=λb o e h=>
  hideAll_get _ e λz=>by
   rcases h with h|⟨⟨cq,cf⟩,bO⟩
   ·exact h (I.stkFree b z)
   ·rcases qae.mp (I.stkSub b z) with q|q
    ·have a_:=Heap.lt_size cf;have i1:b=s₀.heap.objs.size:=q;rw[i1] at a_;exact qbk _ a_
    ·exact bO q
 refine ZgN (base:=hideAll s.heap (frs (cxX P w K mg base N qual scope f c8 A outer s₀ H₀ E).stack)) (h:=s.heap) (L:=s₀.heap.objs.size) gb rfl (λb o e=>of_hideAll _ e) (PySem.W.funFrames_hide I.stack d5) bo λbT t gk _ _ sl GU=>?_;have tq:s.heap.UpToSlots bT:=(Heap.UpToSlots.of_keeps bo.keeps).trans sl;have cS:Un (frs outer) [] H₀ H s₀.heap s.heap:=I.base;have GV:HOk P w H bT:=I.hok.stays (λb o e n=>inB b o e (.inl n)) gk.1;refine⟨dH,cls,_,H,_,rfl,I.os,I.bare,cS.fly inB gk.1 tq (λb a_ o e=>?_) I.ok.frf,GV,gk,λb o e h=>?_,GU,q⟩
 ·obtain⟨_,cq,cf,d⟩:=I.ok.funs.mem a_;have pz:s₀.heap.get? b=some cq:=cf;rw[e] at pz;cases pz;exact d
 ·have ex:∃cq,s.heap.get? b=some cq:=by
   rcases h with h|⟨⟨uk,oZ⟩,_⟩
   ·cases c7:H b with
    |none=>exact absurd c7 h
    |some v=>exact(I.hok b v c7).got
   ·exact cS.there b uk oZ (by simp)
  obtain⟨cq,cf⟩:=ex;have bK:=inB b cq cf h;have de:=gk.1 b cq bK;have hj:bT.get? b=some o:=e;rw[de] at hj;cases hj;exact bK
theorem ZkQ{x:Str}{hX dy pos:Pos}{kN:Expr}{rest:List Expr}{t:TA}{C:Addr}{B lB um:String}{bm:List Value}(O:OwnCls x C bm lB mg base)(FB:ExcBaseFacts B lB um bm)
  (bH:Gl (cxX P w K mg base N qual scope f c8 A outer s₀ H₀ E) x) (bF:PA (cxX P w K mg base N qual scope f c8 A outer s₀ H₀ E) (kN::rest) t)
  (bL:starEach (kN::rest) (cxX P w K mg base N qual scope f c8 A outer s₀ H₀ E).env=(false,eval kN (cxX P w K mg base N qual scope f c8 A outer s₀ H₀ E).env)::starEach rest (cxX P w K mg base N qual scope f c8 A outer s₀ H₀ E).env:=by rfl)
  (mw:(backTo dy (starEach rest (cxX P w K mg base N qual scope f c8 A outer s₀ H₀ E).env)).any (·.1)=false:=by rfl) (gB:(x==("__debug__" :Str))=false:=by decide):
  PS (cxX P w K mg base N qual scope f c8 A outer s₀ H₀ E) (.Raise (some (.Call (.Name x hX) (kN::rest) [] dy)) none pos) (ul (.ref C) E t):=by
 intro a' s af H D I h;obtain⟨dP,GW,nm,q,bs,hdct,sn,sub,ab,col,dd,k0,k1,k2,k3,k5,mN,lC,ed,rf,T⟩:=O.obj;refine wpAny_Raise_call_subT (C:=C) (nm:=nm) (q:=q) (N:=GW) (bs:=bs) (bm:=dP) (hdct:=hdct) (sn:=sn) (sub:=sub) (ab:=ab) (col:=col) (dd:=dd) (k0:=k0) (k1:=k1) (k2:=k2) (k3:=k3) (k5:=k5)
  FB (mN:=mN) (T.hasType FB.hasBase) (I.ok.hd rfl) (by rw[bL];show(false||(backTo dy (starEach rest (cxX P w K mg base N qual scope f c8 A outer s₀ H₀ E).env)).any (·.1))=false;rw[mw];rfl) rf (oU I bH O.bound ⟨rfl,?_⟩ gB)
 have h':=bF dy a' s af H _ I h;rw[bL] at h'⊢;refine Calls.evalArgs_plain (thn h' λus bU ⟨vs,bv,cF,r,hz,c7⟩=>⟨rfl,by rw[←r.length];exact hz,cF.bk _ _ lC,ed.keeps cF.bk,T.keeps cF.bk,λbT e bA=>Zjn cF bA c7⟩)
end
mutual
inductive e_(K:Frag)(H:Hp):V→PyData→Prop
 |non:e_ K H .non .none
 |bl (b:Bool):e_ K H (.bl b) (.bool b)
 |int (i:Int):e_ K H (.int i) (.int i)
 |str (x:Str):e_ K H (.str x) (.str x)
 |lst {a:Addr} {xs:List V} {cj:List PyData} (h:SqL K H a xs) (r:DRels K H xs cj):e_ K H (.ref a) (.list cj)
 |tup {a:Addr} {xs:List V} {cj:List PyData} (h:SqT K H a xs) (r:DRels K H xs cj):e_ K H (.ref a) (.tuple cj)
inductive DRels(K:Frag)(H:Hp):List V→List PyData→Prop
 |nil:DRels K H [] []
 |cons {x:V} {d:PyData} {xs:List V} {cj:List PyData} (h:e_ K H x d) (r:DRels K H xs cj):DRels K H (x::xs) (d::cj)
end
theorem DRels.ints{K:Frag}{H:Hp}:∀ns:List Int,DRels K H (ns.map V.int) (ns.map PyData.int)
 | []=> .nil
 |n::ns=> .cons (.int n) (DRels.ints ns)
section
variable {X:Cx}{a':List (Addr×Obj)}{af:St}{H:Hp}{s:Shared}
mutual
theorem e_.reads(I:Inv X a' af H s):∀{x:V}{d:PyData}{v:Value},e_ X.K H x d→cE x v→∃as,Reads s.heap v d as
 |_,_,_,.non,r=>by cases (show _=Value.none from r);exact⟨_,.none⟩
 |_,_,_,.bl b,r=>by cases (show _=Value.bool b from r);exact⟨_,.bool b⟩
 |_,_,_,.int i,r=>by obtain⟨t,e⟩:=r;cases e;exact⟨_,.int i t⟩
 |_,_,_,.str x,r=>by obtain⟨t,e⟩:=r;cases e;exact⟨_,.str x t⟩
 |_,_,_,.lst (a:=a) h rs,r=>by
  cases (show _=Value.ref a from r);obtain⟨its,c',p,hz⟩:=I.list h;obtain⟨o,bI,bu,n,hd⟩:=p.isList;obtain⟨as,q⟩:=DRels.reads I rs c';exact⟨_,.list bI bu hd (by simpa using q)⟩
 |_,_,_,.tup (a:=a) h rs,r=>by
  cases (show _=Value.ref a from r);obtain⟨its,c',p,hz⟩:=I.tuple h;obtain⟨o,bI,bu,n,hd⟩:=(show s.heap.IsTuple a its.toArray from p);obtain⟨as,q⟩:=DRels.reads I rs c';exact⟨_,.tuple bI bu hd (by simpa using q)⟩
theorem DRels.reads(I:Inv X a' af H s):∀{xs:List V}{cj:List PyData}{vs:List Value},DRels X.K H xs cj→cL xs vs→∃as,ReadsAll s.heap vs cj as
 |_,_,_,.nil,.nil=>⟨_,.nil⟩
 |_,_,_,.cons h r,.cons q t=>by
  obtain⟨as,e⟩:=e_.reads I h q;obtain⟨bs,cf⟩:=DRels.reads I r t;exact⟨_,.cons e cf⟩
end
end
noncomputable def kO (K:Frag) (neg:Bool):R2:=λx y H Q=>∃bx g0,e_ K H x bx∧e_ K H y g0∧bx.canLay0=true∧g0.canLay0=true∧bx.depth≤60∧Q (.bl (if neg then !PyData.eqv bx g0 else PyData.eqv bx g0)) H
section
variable {X:Cx}
theorem GX(hu:X.A.units+64<cLine):OpR X (compareOp .Eq) (kO X.K false):=by
 intro a' s af H x y v u Q I bZ ci h;obtain⟨bx,g0,bj,bp,fF,e4,dp,q⟩:=h;obtain⟨as,cm⟩:=bj.reads I bZ;obtain⟨bs,cY⟩:=bp.reads I ci;exact SeqAt.compareEq_reads cm cY fF e4 (by have:min bx.depth g0.depth≤bx.depth:=Nat.min_le_left _ _;omega) ⟨.bl _,H,I,rfl,q⟩
theorem GY(hu:X.A.units+64<cLine):OpR X (compareOp .NotEq) (kO X.K true):=by
 intro a' s af H x y v u Q I bZ ci h;obtain⟨bx,g0,bj,bp,fF,e4,dp,q⟩:=h;obtain⟨as,cm⟩:=bj.reads I bZ;obtain⟨bs,cY⟩:=bp.reads I ci;exact SeqAt.compareNe_reads cm cY fF e4 (by have:min bx.depth g0.depth≤bx.depth:=Nat.min_le_left _ _;omega) ⟨.bl _,H,I,rfl,q⟩
end
section
variable {prog:Program}{w:World}{A:Around}{E:Value→Shared→Prop}
variable {s:Shared}
end
section
variable {X:Cx}{pos:Pos}
end
section
variable {P:Program}{w:World}{K:Frag}{mg:Str→Option Value}{base:Heap}
theorem Fun.okX{x qual:Str}{st:Stmt}{f:Addr}{fd:FuncData}{N b':List Str}{k:Nat}{sp:Sp}(F:Fun K x qual st f fd)(S:Zr N b' (cu st))(len:∀vs H Q E,sp vs H Q E→vs.length=b'.length)
  (o_:∀(cz:Value)(A:Around)(outer:List Env)(s:Shared)(H:Hp)(vs:List V)(Q:VK)(E:XK),eI k (A.deeper (envOfC qual (cu st) s.heap.objs.size f cz))→sp vs H Q E→
   ∃t,PSs (cxX P w K mg base N qual (cu st) f cz A outer s H E) (iI st) t∧t {nx:=λ_ ae=>Q .non ae,rt:=Q} (start N vs) H):YT P w K mg base (CXX P w) (k+1) f fd b' sp:=by
 obtain⟨fg,d2,kV,e7,ei,an,cz,ct,gC,rfl,lk,iA⟩:=F.ex;exact ZlE lk iA S len λA outer s H vs Q E bq jT=>o_ cz A outer s H vs Q E bq jT
theorem Ud{X:Cx}:Wh (CXX X.prog X.w) X E0:=by
 intro a' af H s e bz I h;obtain⟨dH,cls,a0,ae,B,_,_,_,_,_,_,_,_,z⟩:=h;exact z.elim
end
section
variable {X:Cx}
noncomputable def rOr (r c6:R2):R2:=λx y H Q=>r x y H Q∨c6 x y H Q
noncomputable def Zeo:R2:=λx y H Q=>∃i j,x= .str i∧y= .str j∧i.length+j.length≤sizeLine∧Q (.str (i++j)) H
noncomputable def rh:R2:=rI0 λi j=> .int (i+j)
noncomputable def Zir:R2:=rI (λi j=>IntMulOk i j) λi j=> .int (i*j)
theorem GZ:OpR X (binaryOp .Add) (rOr rh (rOr Zeo (rOr rCat (pa X.K)))):=FP.or (FW.or (Gj.or F_))
theorem gd:OpR X (binaryOp .Mult) (rOr Zir rRep):=GI.or Gk
theorem ZnH(hu:X.A.units+64<cLine):OpR X (compareOp .Eq) (rOr rEq (kO X.K false)):=FR.or (GX hu)
theorem Zno(hu:X.A.units+64<cLine):OpR X (compareOp .NotEq) (rOr rNe (kO X.K true)):=FS.or (GY hu)
end
namespace Rd
section
variable {af:St}{H:Hp}{Q:VK}{D:Vw}{K:Frag}{c6:R2}
theorem ZoK{i j:Int}(q:Q (.int (i+j)) H):rOr rh c6 (.int i) (.int j) H Q:= .inl ⟨i,j,rfl,rfl,q⟩
theorem ZmZ{cm:R2}{i j:Str}(aj:i.length+j.length≤sizeLine)(q:Q (.str (i++j)) H):rOr cm (rOr Zeo c6) (.str i) (.str j) H Q:= .inr (.inl ⟨i,j,rfl,rfl,aj,q⟩)
theorem Zkt{cm cY:R2}{a b:Addr}{xs ys:List V}(bF:H a=some (.lst xs))(a_:H b=some (.lst ys))(aj:xs.length+ys.length≤sizeLine)(q:∀p,H p=none→Q (.ref p) (upd H p (.lst (xs++ys)))):
  rOr cm (rOr cY (rOr rCat c6)) (.ref a) (.ref b) H Q:= .inr (.inr (.inl ⟨a,b,xs,ys,rfl,rfl,bF,a_,aj,q⟩))
theorem mulI{i j:Int}(c:IntMulOk i j)(q:Q (.int (i*j)) H):rOr Zir c6 (.int i) (.int j) H Q:= .inl ⟨i,j,rfl,rfl,c,q⟩
theorem ZoZ{i j:Int}(q:Q (.bl (decide (i=j))) H):rOr rEq c6 (.int i) (.int j) H Q:= .inl (eqI q)
theorem ZoG{i j:Int}(q:Q (.bl (!decide (i=j))) H):rOr rNe c6 (.int i) (.int j) H Q:= .inl (neI q)
theorem ZmJ{x y:V}{bx g0:PyData}(bo:e_ K H x bx)(bR:e_ K H y g0)(pA:bx.canLay0=true)(uo:g0.canLay0=true)(dp:bx.depth≤60)(q:Q (.bl (PyData.eqv bx g0)) H):rOr rEq (kO K false) x y H Q:=
 .inr ⟨bx,g0,bo,bR,pA,uo,dp,q⟩
theorem Zgq{x y:V}{bx g0:PyData}(bo:e_ K H x bx)(bR:e_ K H y g0)(pA:bx.canLay0=true)(uo:g0.canLay0=true)(dp:bx.depth≤60)(q:Q (.bl (!PyData.eqv bx g0)) H):rOr rNe (kO K true) x y H Q:=
 .inr ⟨bx,g0,bo,bR,pA,uo,dp,q⟩
theorem ZnA{p:Addr}{xs:List V}{i:Int}{v:V}(h:SqL K H p xs)(e:atI xs i=some v)(q:Q v H):rIx K (.ref p) (.int i) H Q:= .inl (ixl h e q)
theorem ZoR{p:Addr}{xs:List V}{i:Int}{v:V}(h:SqT K H p xs)(e:atI xs i=some v)(q:Q v H):rIx K (.ref p) (.int i) H Q:= .inr (.inl (ixt h e q))
theorem ZoV{C:Nat→Prop}{p:Addr}{xs:List V}(h:SqL K H p xs)(q:C xs.length):∃x n,[V.ref p]=[x]∧ZaW K x H n∧C n:=⟨_,_,rfl,.inl ⟨xs,h,rfl⟩,q⟩
theorem Zn3{C:Nat→Prop}{p:Addr}{xs:List V}(h:SqT K H p xs)(q:C xs.length):∃x n,[V.ref p]=[x]∧ZaW K x H n∧C n:=⟨_,_,rfl,.inr ⟨xs,h,rfl⟩,q⟩
theorem lenS{C:Nat→Prop}{y:Str}(h:y.length≤sizeLine)(q:C y.length):∃x n,[V.str y]=[x]∧ZaW K x H n∧C n:=⟨_,_,rfl,⟨h,rfl⟩,q⟩
theorem Zn8{i:Nat}{v:V}{bW:St}{Q:St→Hp→Prop}(e:af.set i (some v)=bW)(h:Q bW H):V9 i v af H Q:=by
 subst e;exact h
theorem ifP{c A B:Prop}[Decidable c](h:c)(a:A):if decide c=true then A else B:=by rw[decide_eq_true h];exact Zgh a
theorem ifN{c A B:Prop}[Decidable c](h:¬c)(b:B):if decide c=true then A else B:=by rw[decide_eq_false h];exact Zf7 b
theorem Zo3{c A B:Prop}[Decidable c](h:c)(b:B):if(!decide c)=true then A else B:=by rw[decide_eq_true h];exact Zf7 b
theorem ZoL{c A B:Prop}[Decidable c](h:¬c)(a:A):if(!decide c)=true then A else B:=by rw[decide_eq_false h];exact Zgh a
theorem ZoY{b:Bool}{C:Bool→Prop}(q:C b):∃k,o5 K (.bl b) H k∧C k:=⟨b,rfl,q⟩
end
end Rd
namespace Rd
section
variable {H:Hp}{C:Bool→Prop}{K:Frag}
theorem ZiS{i:Int}(q:C true):∃x fC t b,[V.int i,.ty "int"]=[x,.ty fC]∧Wq K H x t∧kitOne K t (.type fC)=some b∧C b:=⟨_,_,_,true,rfl,.int i,rfl,q⟩
theorem Zhy{i:Int}(q:C false):∃x fC t b,[V.int i,.ty "bool"]=[x,.ty fC]∧Wq K H x t∧kitOne K t (.type fC)=some b∧C b:=⟨_,_,_,false,rfl,.int i,rfl,q⟩
theorem Zi2{i:Str}(q:C true):∃x fC t b,[V.str i,.ty "str"]=[x,.ty fC]∧Wq K H x t∧kitOne K t (.type fC)=some b∧C b:=⟨_,_,_,true,rfl,.str i,rfl,q⟩
theorem Zg8{p:Addr}{xs:List V}(h:H p=some (.lst xs))(q:C true):∃x fC t b,[V.ref p,.ty "list"]=[x,.ty fC]∧Wq K H x t∧kitOne K t (.type fC)=some b∧C b:=⟨_,_,_,true,rfl,.lst h,rfl,q⟩
theorem Zf8{p:Addr}{xs:List V}(h:H p=some (.tup xs))(q:C true):∃x fC t b,[V.ref p,.ty "tuple"]=[x,.ty fC]∧Wq K H x t∧kitOne K t (.type fC)=some b∧C b:=⟨_,_,_,true,rfl,.tup h,rfl,q⟩
end
end Rd
noncomputable def Zh2 (pB b8:Scope) (N zs:List Str) (ix:List Nat):Bool:=
 decide (b8.kind= .function)&&(b8.names.all λy=>decide (y.2≠ .cell))&&(b8.names.all λy=>decide (y.2= .local→b8.names.lookup y.1=some .local))&&
 (b8.names.all λy=>decide (y.2= .free→pB.names.lookup y.1=some .cell∨pB.names.lookup y.1=some .free))&&(zs.all λz=>decide (b8.names.lookup z=some .free))&&decide (ix.map (λj=>N[j]?)=zs.map some)
theorem fq{X:Cx}{b8:Scope}{x:Str}{zs:List Str}{ix:List Nat}(pB:Scope)(N:List Str)(bG:X.env.scope=pB)(bK:X.N=N)(h:Zh2 pB b8 N zs ix=true):Y3 X b8 x zs ix:=by
 unfold Zh2 at h;simp only[qaR,qa6,decide_eq_true_eq] at h;obtain⟨⟨⟨⟨⟨bj,bp⟩,bT⟩,cy⟩,dJ⟩,db⟩:=h;subst bG bK;exact⟨bj,bp,bT,cy,dJ,db⟩
section
variable {X:Cx}{CX:CXT}{k:Nat}{f C:Addr}{fd:FuncData}{b':List Str}{sp:Sp}{eC:List V}{cj:List Value}{E:XK}{J:St→Prop}{x m:Str}{p pos dv:Pos}{e o:Expr}{bE:List Expr}{bX:TE}{t:TA}
end
section
variable {K:Frag}{H:Hp}
theorem e_.ints{p:Addr}{ns:List Int}(h:SqL K H p (ns.map V.int)):e_ K H (.ref p) (.list (ns.map PyData.int)):= .lst h (DRels.ints ns)
namespace Rd
variable {Q:VK}
end Rd
end
structure Walks(J:It)(n:Nat)(f:Nat→V)(H:Hp):Prop where
 go:∀ae i,Ze H ae→i<n→J.go i ae
 yld:∀ae i x bv,Ze H ae→i<n→J.yld i ae x bv→bv=ae∧x=f i
 stop:∀ae,Ze H ae→J.stop n ae
theorem WW{lo:Int}{n:Nat}{H:Hp}:Walks (Itr lo n) n (λi=> .int (lo+i)) H:=⟨λ_ _ _ h=>h,λ_ _ _ _ _ _ h=>h,λ_ _=>qaa _⟩
theorem ew{K:Frag}{a:Addr}{xs:List V}{H:Hp}(h:SqL K H a xs):Walks (Itl K a) xs.length (λi=>xs.getD i .non) H:=
 ⟨λae i e hi=>⟨xs,xs[i],e.seq h,by simp[hi]⟩,λae i x bv e hi y=>⟨y.1,by
  have:=y.2 xs (e.seq h);simp[List.getD,this]⟩,λae e=>⟨xs,e.seq h,qaa _⟩⟩
theorem Z5{J:It}{n:Nat}{f:Nat→V}{H0:Hp}(w:Walks J n f H0){g:TG}{cP:TS}{D:Vw}{af:St}{H:Hp}(Pv:Nat→St→Hp→Prop)(cd:Pv 0 af H)(bt:∀i af H,Pv i af H→Ze H0 H)
  (hs:∀i af H,i<n→Pv i af H→g (f i) af H λda bv=>cP {D with nx:=Pv (i+1),ct:=Pv (i+1),bk:=D.nx} da bv) (hd:∀af H,Pv n af H→D.nx af H):
  ∃W:Nat→Nat→St→Hp→Prop,(∃m,W 0 m af H)∧∀i m af H,W i m af H→
   (J.stop i H∧D.nx af H)∨(J.go i H∧∃N:St→Hp→Prop,(∀bW ae,N bW ae→∃cr,cr<m∧W (i+1) cr bW ae)∧∀x ae,J.yld i H x ae→g x af ae λda bv=>cP {D with nx:=N,ct:=N,bk:=D.nx} da bv):=by
 refine⟨λi m af H=>m=n-i∧i≤n∧Pv i af H,⟨n,by simp,qau _,cd⟩,?_⟩;rintro i m af H ⟨rfl,hi,p⟩;have bV:=bt i af H p
 by_cases cJ:i<n
 ·refine .inr ⟨w.go H i bV cJ,Pv (i+1),λbW ae gW=>⟨n-(i+1),by omega,rfl,cJ,gW⟩,λx ae y=>?_⟩;obtain⟨rfl,rfl⟩:=w.yld H i x ae bV cJ y;exact hs i af _ cJ p
 ·have e:i=n:=by omega
  subst e;exact .inl ⟨w.stop H bV,hd af H p⟩
theorem Yo{ix:List Nat}{dq:TT}{cA:TE}{Q:Addr→Hp→Prop}{af:St}{H:Hp}{J:It}{n:Nat}{f:Nat→V}(w:Walks J n f H)(bO:n<sizeLine)(c:Nat→Bool)(r:Nat→V)
  (bu:∀i ae (c4:Bool→Hp→Prop),i<n→Ze H ae→(∀b7,Ze ae b7→c4 (c i) b7)→dq (some (f i)::ix.map λj=>(af[j]?).join) ae c4)
  (bL:∀i ae (c4:VK),i<n→c i=true→Ze H ae→(∀b1,Ze ae b1→c4 (r i) b1)→cA (some (f i)::ix.map λj=>(af[j]?).join) ae c4)
  (q:∀p ae,H p=none→Ze H ae→ae p=some (.lst (((List.range n).filter c).map r))→Q p ae):
  ∀p,H p=none→∃W:Nat→Nat→List V→St→Hp→Prop,(∃m,W 0 m [] (emb ix af) (upd H p (.lst [])))∧∀i m ys bW ae,W i m ys bW ae→
   (J.stop i ae∧Q p ae)∨(J.go i ae∧∀x bv,J.yld i ae x bv→V9 0 x bW bv λda b9=>dq da b9 λb b7=>
    if b=true then cA da b7 λv b1=>b1 p=some (.lst ys)∧ys.length<sizeLine∧∃cr,cr<m∧W (i+1) cr (ys++ [v]) da (upd b1 p (.lst (ys++ [v])))
    else ∃cr,cr<m∧W (i+1) cr ys da b7):=by
 intro p bD;refine⟨λi m ys bW ae=>m=n-i∧i≤n∧(∃a,bW=a::ix.map λj=>(af[j]?).join)∧Ze H ae∧ae p=some (.lst ys)∧ys=((List.range i).filter c).map r,
  ⟨n,by simp,qau _,⟨none,rfl⟩,cK bD,Zd,rfl⟩,?_⟩
 rintro i m ys bW ae ⟨rfl,hi,⟨a,rfl⟩,bV,bR,aj⟩
 by_cases cJ:i<n
 ·refine .inr ⟨w.go ae i bV cJ,λx bv y=>?_⟩;obtain⟨rfl,rfl⟩:=w.yld ae i x bv bV cJ y;show dq ((a::ix.map λj=>(af[j]?).join).set 0 (some (f i))) bv _;have eg:ys.length≤i:=by
   rw[aj,GE];exact qal (qaK _ _) (by simp)
  refine bu i bv _ cJ bV λb7 ca=>?_;have mK:=bV.trans ca;have nU:=ca _ _ bR;have step:(List.range (i+1)).filter c=(List.range i).filter c++(if c i=true then[i] else[]):=by
   rw[qbG,qbQ]
   congr 1
   by_cases h:c i=true<;>simp[h]
  by_cases i6:c i=true
  ·rw[i6,if_pos rfl];refine bL i b7 _ cJ i6 mK λb1 cC=>⟨cC _ _ nU,by omega,n-(i+1),by omega,rfl,cJ,⟨_,rfl⟩,(mK.trans cC).new bD,Zd,?_⟩;rw[step,if_pos i6,qaW,aj]
   rfl
  ·have pC:c i=false:=by simpa using i6
   rw[pC,if_neg qai];refine⟨n-(i+1),by omega,rfl,cJ,⟨_,rfl⟩,mK,nU,?_⟩;rw[step,if_neg i6,qb7,aj]
 ·have e:i=n:=by omega
  subst e;exact .inl ⟨w.stop ae bV,q p ae bD bV (by rw[←aj];exact bR)⟩
structure c_(A:List Addr)(H ae:Hp):Prop where
 keep:∀b o,H b=some o→b∉A→ae b=some o
 tups:∀b xs,H b=some (.tup xs)→ae b=some (.tup xs)
theorem Ze.frame{A:List Addr}{H ae:Hp}(e:Ze H ae):c_ A H ae:=⟨λb o h _=>e b o h,λb xs h=>e b _ h⟩
theorem c_.trans{A:List Addr}{H bn bv:Hp}(a:c_ A H bn)(b:c_ A bn bv):c_ A H bv:=⟨λc o h n=>b.keep c o (a.keep c o h n) n,λc xs h=>b.tups c xs (a.tups c xs h)⟩
theorem c_.mono{A B:List Addr}{H ae:Hp}(a:c_ A H ae)(h:∀x∈A,x∈B):c_ B H ae:=⟨λc o e n=>a.keep c o e λz=>n (h c z),a.tups⟩
theorem gl{A:List Addr}{H:Hp}{p:Addr}{o cq:HO}(bD:p∈A)(h:H p=some o)(b3:∀xs,o≠ .tup xs):c_ A H (upd H p cq):=by
 refine⟨λb u e n=>?_,λb xs e=>?_⟩
 ·have z:b≠p:=λz=>n (by rw[z];exact bD);rw[b5 z];exact e
 ·have z:b≠p:=λz=>b3 xs (by rw[z,h] at e;exact qan e);rw[b5 z];exact e
def Vb(A gm:List Addr)(H:Hp):Prop:=∀a∈gm,a∈A∨H a=none
theorem Vb.refl{A:List Addr}{H:Hp}:Vb A A H:=λ_ h=> .inl h
section
variable {K:Frag}{H ae:Hp}{A gm:List Addr}
namespace Rd
variable {Q:VK}
end Rd
end
noncomputable def Its (x:Str):It:=⟨λi _=>i<x.cps.size,λi H v ae=>ae=H∧∃c,x.cps[i]? =some c∧v= .str ⟨#[c]⟩,λi _=>x.cps.size≤i⟩
theorem G0{P:Program}{w:World}{K:Frag}{cO:Expr}(it:Addr)(x:Str)(t:Tok)(ty:String)(ie:ty="str_ascii_iterator" ∨ty="str_iterator"):Um P w K cO (Its x) [it] it (λi h=>h.IsStrIter it ty x t i) where
 mem:=by simp
 obj:=λi h st b a_=>by
  have e:b=it:=by simpa using a_
  subst e;obtain⟨o,e,c,d⟩:=st;exact⟨o,e,λv z=>by rw[d] at z;cases z⟩
 keep:=λi h h' st k=>let⟨o,bI,r⟩:=st;⟨o,k it (by simp) o bI,r⟩
 item:=by
  intro X dU hw d9 bu i a' s af H E I bJ st bH;subst dU hw d9;obtain⟨dG,f1,f2,df,es,dV⟩:=bJ it (by simp);have hi:i<x.cps.size:=bH;have d4:∀h':Heap,h'.IsStrIter it ty x t (i+1)→Heap.SameBut it s.heap h'→∃u,some (Value.str ⟨#[x.cps[i]]⟩ s.toks)=some u∧
    wpAny (model X.prog X.w) X.A (letOwnedTupleGo cO (.ref it) u) (λ_ bU=>∃y ae,Inv X a' af ae bU∧cE y u∧(Its x).yld i H y ae∧bU.heap.IsStrIter it ty x t (i+1)∧∀b∈[it],ae b=none) E {s with heap:=h',toks:=s.toks+1}:=λh' h_ hP=>by
   have bM:Inv X a' af H {s with heap:=h',toks:=s.toks+1}:=I.turned (t':=s.toks+1) (λb o a_ e=>(hP.2 b a_).trans e) dG f1 df es dV;obtain⟨o,e,c,d⟩:=id h_;refine⟨_,rfl,o1 (s:={s with heap:=h',toks:=s.toks+1}) e c d (by rcases ie with rfl|rfl<;>decide) ⟨.str ⟨#[x.cps[i]]⟩,H,bM,⟨_,rfl⟩,⟨rfl,x.cps[i],by simp[hi],rfl⟩,h_,λb a_=>(bJ b a_).1⟩⟩
  rcases ie with rfl|rfl
  ·exact wpAny_pyNext_ascii_item st (c:=x.cps[i]) (by simp[hi]) d4
  ·exact wpAny_pyNext_wide_item st (c:=x.cps[i]) (by simp[hi]) d4
 done:=by
  intro X dU hw d9 bu i a' s af H E I bJ st bH;subst dU hw d9;obtain⟨dG,f1,f2,df,es,dV⟩:=bJ it (by simp);have hi:x.cps.size≤i:=bH;rcases ie with rfl|rfl
  ·exact wpAny_pyNext_ascii_end (I.ok.hd bu) st (by simp[hi]) λh' cV=>⟨rfl,I.turned (t':=s.toks) (λb o a_ e=>cV b o a_ e) dG f1 df es dV⟩
  ·exact wpAny_pyNext_wide_end (I.ok.hd bu) st (by simp[hi]) λh' cV=>⟨rfl,I.turned (t':=s.toks) (λb o a_ e=>cV b o a_ e) dG f1 df es dV⟩
 self:=λ_ _ _ _ _ st h=>by
  rcases ie with rfl|rfl
  ·exact wpAny_pyIter_striter_ascii st h
  ·exact wpAny_pyIter_striter_wide st h
section
variable {X:Cx}{cO:Expr}
noncomputable def yU (dP:TE):TI:=λaf H R=>dP af H λx bn=>∃y,x= .str y∧R (Its y) bn
theorem G1{l:Expr}{dP:TE}(aj:PE X l dP):PI X cO l (yU dP):=by
 intro a' s af H R I h;refine thn (aj a' s af H _ I h) λv bw ⟨x,bn,bM,cm,cg⟩=>?_;obtain⟨y,e,q⟩:=cg;subst e;obtain⟨t,rfl⟩:=cm;have d4:∀ty:String,(ty="str_ascii_iterator" ∨ty="str_iterator")→PIE X a' af cO R (.ref bw.heap.objs.size) {bw with heap:=bw.heap.push {cls:= .type ty,data:= .fields #[.str y t,.int 0 0]}}:=λty ie=>by
  refine⟨bw.heap.objs.size,[bw.heap.objs.size],_,_,bn,rfl,bM.kept (t':=bw.toks) λb o e=>Heap.get?_push_of_some _ e,G0 _ y t ty ie,⟨_,Heap.get?_push_size _ rfl,rfl,rfl⟩,λb a_=>?_,q⟩;have e:b=bw.heap.objs.size:=by simpa using a_
  subst e;exact bM.fpOk (qaa _) (bM.hok.fresh (qaa _))
 cases bF:y.cps.all (· <128)
 ·exact wpAny_pyIter_wide bF (d4 _ (.inr rfl))
 ·exact wpAny_pyIter_ascii bF (d4 _ (.inl rfl))
theorem Zji{x:Str}{H:Hp}:Walks (Its x) x.cps.size (λi=> .str ⟨#[x.cps.getD i 0]⟩) H:=
 ⟨λ_ _ _ h=>h,λae i v bv _ hi ⟨e,c,bu,b_⟩=>⟨e,by rw[b_];simp[Array.getD,hi] at bu⊢;exact bu.symm⟩,λ_ _=>qaa _⟩
noncomputable def rLeS:R2:=λx y H Q=>∃i j,x= .str i∧y= .str j∧Q (.bl (!decide (j.cps.toList<i.cps.toList))) H
theorem yV:OpR X (compareOp .LtE) rLeS:=by
 intro a' s af H x y v u Q I bZ ci h;obtain⟨i,j,rfl,rfl,q⟩:=h;obtain⟨t,rfl⟩:=bZ;obtain⟨t',rfl⟩:=ci;exact PySem.P.le_str ⟨.bl _,H,I,rfl,q⟩
theorem up{s:Shared}:∀{bs:List Bool}{us:List Value},cL (bs.map V.bl) us→us=bs.map Value.bool
 | [],_,r=>by cases r;rfl
 |b::bs,_,r=>by
  cases r with
  |cons cm cY=>
   have e:_=Value.bool b:=cm;rw[e,up (s:=s) cY]
   rfl
theorem yW{s:Shared}{h':Heap}{o:Obj}(bt:∀b x,b∉[s.heap.objs.size]→(s.heap.push o).get? b=some x→h'.get? b=some x):∀b x,s.heap.get? b=some x→h'.get? b=some x:=
 λb x e=>bt b x (λbA=>by rw[qac.mp bA] at e;exact qbk _ (Heap.lt_size e)) (Heap.get?_push_of_some _ e)
theorem Zh4(bs:List Bool):((List.range bs.length).all λi=>(bs[i]?).getD true)=bs.all id:=by
 rw[qbB,qa6,qa6]
 constructor
 ·intro h b a_;obtain⟨i,hi,rfl⟩:=qao a_;have:=h i (qaw.mpr hi);simpa[GT hi] using this
 ·intro h i hi;have dN:=qaw.mp hi;simp only[GT dN,Option.getD_some];exact h _ (GM dN)
theorem Zjz(bu:X.calm=true):YW X (.builtin "all") (λxs H Q=>∃(p:Addr)(bs:List Bool),xs=[.ref p]∧SqL X.K H p (bs.map V.bl)∧Q (.bl (bs.all id)) H):=by
 intro a' s af H xs us Q I r h;obtain⟨p,bs,rfl,cv,q⟩:=h;obtain⟨u,rfl,bZ⟩:=Wr r;cases bZ;obtain⟨its,c',pl,hz⟩:=I.list cv;have c3:=up (s:=s) c';subst c3;have aj:=pl.isList;have cJ:p<s.heap.objs.size:=by obtain⟨_,e,_⟩:=aj;exact Heap.lt_size e
 refine call_all_walk (wpAny_pyIter_list aj ?_);refine⟨s.heap.objs.size,[s.heap.objs.size,p],[s.heap.objs.size],(bs.map Value.bool).toArray.size,_,_,λi=>(bs[i]?).getD true,rfl,PySem.Walks.list (A:=X.A.in1) (I.ok.hd bu) _ p (qak cJ) (bs.map Value.bool).toArray,
  ⟨⟨_,Heap.get?_push_size _ rfl,rfl,rfl⟩,aj.push _⟩,λi v bz nA cW dU hM=>?_,λh' bY bt=>?_⟩
 ·have pD:(bs.map Value.bool)[i]? =some v:=by simpa using dU
  rw[qaj] at pD;cases e:bs[i]? with
  |none=>rw[e] at pD;cases pD
  |some b=>
   rw[e] at pD;cases pD;have yX:nA ((bs[i]?).getD true) bz:=hM;rw[e] at yX;exact wpAny_truthy_bool yX
 ·have e:((List.range (bs.map Value.bool).toArray.size).all λi=>(bs[i]?).getD true)=bs.all id:=by
   rw[qaf,GE];exact Zh4 bs
  rw[e];exact⟨.bl (bs.all id),H,I.kept (yW bt),rfl,q⟩
theorem Zjk(bu:X.calm=true):YW X (.builtin "sum") (λxs H Q=>∃(p:Addr)(ns:List Int),xs=[.ref p]∧SqL X.K H p (ns.map V.int)∧Q (.int ns.sum) H):=by
 intro a' s af H xs us Q I r h;obtain⟨p,ns,rfl,cv,q⟩:=h;obtain⟨u,rfl,bZ⟩:=Wr r;cases bZ;obtain⟨its,c',pl,hz⟩:=I.list cv;have hi:=Uz c';obtain⟨xs,bo⟩:=hi.allInts.items;have e':s.heap.IsList p (intItems xs):=bo▸pl.isList;refine sum_intListG (I.ok.hd bu) e' λh' bY t' bt=>?_;have bG:ns=xs.toList.map (·.1):=by
  rw[←nums_intItems,←bo];exact(show numsOf its.toArray.toList=ns from hi.numsOf).symm
 have bK:preSum (numAt xs) xs.size=ns.sum:=by
  rw[preSum_eq,qbs (by simp),bG]
 rw[bK];exact⟨.int ns.sum,H,I.kept bt,⟨_,rfl⟩,q⟩
end
structure Ziv(K:Frag)(x qual:Str)(st:Stmt)(dT:Addr)(f:Addr)(fd:FuncData):Prop where
 ex:∃(fg:Value)(d2:Option Addr)(kV e7 ei:Value)(an:Option Addr)(cz ct:Value)(gC:Array (Option Value)),
  fd=fnOf x qual (jw st) (iI st) (cu st) (.ref dT) kV e7 ei an cz ct∧K.lookup f=some ⟨fg,d2,.func fd,gC⟩∧codeIn K cz qual=true
 kp:keepIn K (.ref f)=true
section
variable {P:Program}{w:World}{K:Frag}{mg:Str→Option Value}{base:Heap}
theorem Ziv.okX{x qual:Str}{st:Stmt}{dT f:Addr}{fd:FuncData}{N b':List Str}{k:Nat}{sp:Sp}(F:Ziv K x qual st dT f fd)(S:Zr N b' (cu st))(len:∀vs H Q E,sp vs H Q E→vs.length=b'.length)
  (o_:∀(cz:Value)(A:Around)(outer:List Env)(s:Shared)(H:Hp)(vs:List V)(Q:VK)(E:XK),eI k (A.deeper (envOfC qual (cu st) s.heap.objs.size f cz))→sp vs H Q E→
   ∃t,PSs (cxX P w K mg base N qual (cu st) f cz A outer s H E) (iI st) t∧t {nx:=λ_ ae=>Q .non ae,rt:=Q} (start N vs) H):YT P w K mg base (CXX P w) (k+1) f fd b' sp:=by
 obtain⟨fg,d2,kV,e7,ei,an,cz,ct,gC,rfl,lk,iA⟩:=F.ex;exact ZlE lk iA S len λA outer s H vs Q E bq jT=>o_ cz A outer s H vs Q E bq jT
theorem ZlO{x qual:Str}{st:Stmt}{dT f:Addr}{fg:Value}{d2 an:Option Addr}{gC:Array (Option Value)}{kV e7 ei cz ct:Value}(l:K.lookup f=some ⟨fg,d2,.func (fnOf x qual (jw st) (iI st) (cu st) (.ref dT) kV e7 ei an cz ct),gC⟩)
  (c:codeIn K cz qual=true) (k:keepIn K (.ref f)=true):Ziv K x qual st dT f (fnOf x qual (jw st) (iI st) (cu st) (.ref dT) kV e7 ei an cz ct):=⟨⟨fg,d2,kV,e7,ei,an,cz,ct,gC,rfl,l,c⟩,k⟩
theorem G3{h₀:Heap}{x:Str}{C:Addr}{yY:List Value}{lB:String}(X:K.In h₀)(g:h₀.Ns mainGlobals mg)(e:nsIn K mainGlobals x=some (some (.ref C)))(q:excIn K C yY lB=true):OwnCls x C yY lB mg h₀:=by
 refine⟨mg_of X g e,?_⟩;unfold excIn at q
 split at q
 ·rename_i dd c8 sl bI
  split at q
  ·rename_i Qx bm k0 k1 k2 k3 n k5 bA hs;simp only[qaR,beq_iff_eq,Bool.not_eq_true'] at q;obtain⟨⟨⟨⟨⟨rfl,rfl⟩,yZ⟩,b3⟩,hok⟩,rf⟩:=q;obtain⟨nm,bs,mro,ns,mo,hd,sn,sub,ab,col,Qy⟩:=c8;dsimp only at bA yZ hok rf;subst bA yZ;have g4:sl=#[k0,k1,k2,k3,some (.builtin n),k5]:=by
    obtain⟨l⟩:=sl;simp only at hs;rw[hs]
   subst g4;exact⟨bm,ns,nm,mo,bs,hd,sn,sub,ab,col,dd,k0,k1,k2,k3,k5,_,X _ _ bI,.of_isNs (PySem.W.isNs_of_in X hok),PySem.W.nsMap_none_of_in X hok rf,PySem.W.tail_of_in X b3⟩
  ·cases q
 ·cases q
section
variable {N:List Str}{qual:Str}{scope:Scope}{f:Addr}{c8:Value}{A:Around}{outer:List Env}{s₀:Shared}{H₀:Hp}{E:XK}
theorem i7{x:Str}{hX dy pos:Pos}{kN:Expr}{rest:List Expr}{t:TA}{C:Addr}{B lB um:String}{bm:List Value}(e:nsIn K mainGlobals x=some (some (.ref C)))(q:excIn K C bm lB=true)(FB:ExcBaseFacts B lB um bm)
  (bH:Gl (cxX P w K mg base N qual scope f c8 A outer s₀ H₀ E) x) (bF:PA (cxX P w K mg base N qual scope f c8 A outer s₀ H₀ E) (kN::rest) t)
  (bL:starEach (kN::rest) (cxX P w K mg base N qual scope f c8 A outer s₀ H₀ E).env=(false,eval kN (cxX P w K mg base N qual scope f c8 A outer s₀ H₀ E).env)::starEach rest (cxX P w K mg base N qual scope f c8 A outer s₀ H₀ E).env:=by rfl)
  (mw:(backTo dy (starEach rest (cxX P w K mg base N qual scope f c8 A outer s₀ H₀ E).env)).any (·.1)=false:=by rfl) (gB:(x==("__debug__" :Str))=false:=by decide):
  PS (cxX P w K mg base N qual scope f c8 A outer s₀ H₀ E) (.Raise (some (.Call (.Name x hX) (kN::rest) [] dy)) none pos) (ul (.ref C) E t):=by
 intro a' s af H D I h;exact ZkQ (G3 I.ok.mod.kin I.ok.mod.glob e q) FB bH bF bL mw gB a' s af H D I h
end
end
section
variable {X:Cx}
noncomputable def rSlS:V→Option Int→Option Int→Hp→VK→Prop:=λx lo hi H Q=>∃z,x= .str z∧z.length≤sizeLine∧Q (.str (Txt.slice z lo hi)) H
theorem G4:SlR X rSlS:=by
 intro a' s af H x v fo f9 lo hi sl Q I bZ hs pl hU h;obtain⟨z,rfl,hz,q⟩:=h;obtain⟨t,rfl⟩:=bZ;refine⟨"str",_,F.slot_str_getitem.lookup,typeIs_str _ _ _,?_⟩;have d4:∀l u:Option (Int×Tok),l.map (·.1)=lo→u.map (·.1)=hi→partValue l=fo→partValue u=f9→wpAny (model X.prog X.w) X.A (getItem (.str z t) (.ref sl)) (EP X a' af Q) X.xe s:=λl u bG bK de hj=>by
  obtain⟨o,bI,bu,hd⟩:=hs;subst bG bK de hj;exact wpAny_getItem_str_slice (l:=l) (u:=u) (st:=none) ⟨o,bI,bu,hd⟩ rfl (post_val_or_str ⟨qal (Txt.slice_le z _ _) hz,λt' k=>⟨.str _,H,I.tok k,⟨_,rfl⟩,q⟩⟩)
 cases pl with
 |none=>
  cases hU with
  |none=>exact d4 none none rfl rfl rfl rfl
  |int j t'=>exact d4 none (some (j,t')) rfl rfl rfl rfl
 |int i ti=>
  cases hU with
  |none=>exact d4 (some (i,ti)) none rfl rfl rfl rfl
  |int j t'=>exact d4 (some (i,ti)) (some (j,t')) rfl rfl rfl rfl
noncomputable def rj (K:Frag):V→Option Int→Option Int→Hp→VK→Prop:=λx lo hi H Q=>yD K x lo hi H Q∨(yC K x lo hi H Q∨rSlS x lo hi H Q)
theorem G5:SlR X (rj X.K):=Ge.or (F9.or G4)
end
structure Vc(K:Frag)(C:Addr)(fs:List Str):Prop where
 out:∀f∈fs,ib K C f
theorem Vc.get{K:Frag}{C:Addr}{fs:List Str}{f:Str}(h:Vc K C fs)(m:fs.contains f=true):ib K C f:=h.out f (by simpa using m)
namespace Rd
section
variable {af:St}{H:Hp}{Q:VK}{D:Vw}{K:Frag}
theorem slL{a:Addr}{xs:List V}{lo hi:Option Int}(h:SqL K H a xs)(q:∀p,H p=none→Q (.ref p) (upd H p (.lst (hB xs lo hi)))):rj K (.ref a) lo hi H Q:= .inl ⟨a,xs,rfl,h,q⟩
theorem sl{r:V→Option Int→Option Int→Hp→VK→Prop}{cA:TE}{dP mv:TO}(h:cA af H λx bn=>dP af bn λl bv=>mv af bv λu b9=>r x l u b9 Q):tSl r cA dP mv af H Q:=h
theorem Znm{Q:Option Int→Hp→Prop}(h:Q none H):tNoPart af H Q:=h
theorem Zpd{cA:TE}{Q:Option Int→Hp→Prop}(h:cA af H λx bn=>∃i,x= .int i∧Q (some i) bn):yA cA af H Q:=h
theorem Zok{i:Int}{C:Int→Prop}(h:C i):∃j,V.int i= .int j∧C j:=⟨i,rfl,h⟩
theorem ZoM{bX:TE}{f:Str}(h:bX af H λx bn=>∃a C bx fs v,x= .ref a∧bn a=some (.ins C bx fs)∧Cls K C∧ib K C f∧fs.lookup f=some v∧Q v bn):tG K bX f af H Q:=h
theorem fld{a C bx:Addr}{fs:List (Str×V)}{f:Str}{v:V}{G:V→Prop}(h:H a=some (.ins C bx fs))(c:Cls K C)(n:ib K C f)(l:fs.lookup f=some v)(q:G v):
  ∃dA C bx fs v,V.ref a= .ref dA∧H dA=some (.ins C bx fs)∧Cls K C∧ib K C f∧fs.lookup f=some v∧G v:=⟨a,C,bx,fs,v,rfl,h,c,n,l,q⟩
theorem Zob{C:Addr}{m:Str}{sp:Sp}{eC:List V}{E:XK}{bX:TE}{t:TA}(h:bX af H λx bn=>∃a bx fs,x= .ref a∧bn a=some (.ins C bx fs)∧fs.lookup m=none∧t af bn λvs bv=>sp (x::(vs++eC)) bv Q E):o7 C m sp eC E bX t af H Q:=h
theorem Zoa{C:Addr}{sp:Sp}{eC:List V}{E:XK}{t:TA}(h:t af H λvs bn=>∀x bx,bn x=none→bn bx=none→bx≠x→
  sp (.ref x::(vs++eC)) (upd (upd bn bx (.own x)) x (.ins C bx [])) (λv bv=>v= .non∧Q (.ref x) bv) E):o8 C sp eC E t af H Q:=h
theorem Zo6{bX hy:TE}{f:Str}(h:hy af H λy bn=>bX af bn λx bv=>∃a C bx fs,x= .ref a∧bv a=some (.ins C bx fs)∧Cls K C∧ib K C f∧fs.length<1000∧D.nx af (upd bv a (.ins C bx (fE f y fs)))):tH K bX hy f D af H:=h
theorem Zor{a C bx:Addr}{fs qR:List (Str×V)}{f:Str}{y:V}(h:H a=some (.ins C bx fs))(c:Cls K C)(n:ib K C f)(l:fs.length<1000)(e:fE f y fs=qR)(q:D.nx af (upd H a (.ins C bx qR))):
  ∃dA C bx fs,V.ref a= .ref dA∧H dA=some (.ins C bx fs)∧Cls K C∧ib K C f∧fs.length<1000∧D.nx af (upd H dA (.ins C bx (fE f y fs))):=⟨a,C,bx,fs,rfl,h,c,n,l,by rw[e];exact q⟩
theorem raise{cls:Value}{E:XK}{t:TA}(h:t af H λvs bn=>vs.length≤sizeLine∧E cls none bn):ul cls E t D af H:=h
theorem Zne{v:V}{G:Prop}(q:G):[v].length≤sizeLine∧G:=⟨by show 1≤sizeLine;decide,q⟩
theorem Zog{cA:TE}{R:It→Hp→Prop}(h:cA af H λx bn=>∃a,x= .ref a∧(∃xs,SqL K bn a xs)∧R (Itl K a) bn):tz K cA af H R:=h
theorem Zo4{cA:TE}{R:It→Hp→Prop}(h:cA af H λx bn=>∃y,x= .str y∧R (Its y) bn):yU cA af H R:=h
theorem Zn9{y:Str}{G:Str→Prop}(h:G y):∃z,V.str y= .str z∧G z:=⟨y,rfl,h⟩
theorem Zoh{ix:List Nat}{eA:TI}{g:TG}{dq:TT}{cA:TE}(h:eA af H λJ bn=>∀p,bn p=none→
 ∃W:Nat→Nat→List V→St→Hp→Prop,(∃m,W 0 m [] (emb ix af) (upd bn p (.lst [])))∧∀i m ys bW ae,W i m ys bW ae→
  (J.stop i ae∧Q (.ref p) ae)∨(J.go i ae∧∀x bv,J.yld i ae x bv→g x bW bv λda b9=>dq da b9 λb b7=>
   if b=true then cA da b7 λv b1=>b1 p=some (.lst ys)∧ys.length<sizeLine∧∃cr,cr<m∧W (i+1) cr (ys++ [v]) da (upd b1 p (.lst (ys++ [v])))
   else ∃cr,cr<m∧W (i+1) cr ys da b7)):t0 ix eA g dq cA af H Q:=h
theorem ZoF{Q:Bool→Hp→Prop}(h:Q true H):tAll af H Q:=h
theorem lk0{f:Str}{v:V}{r:List (Str×V)}:((f,v)::r).lookup f=some v:=by simp
theorem lk1{f g:Str}{v:V}{o:Option V}{r:List (Str×V)}(n:(f==g)=false)(h:r.lookup f=o):((g,v)::r).lookup f=o:=by rw[qa5,n];exact h
theorem lkN{f:Str}:([]:List (Str×V)).lookup f=none:=rfl
theorem pf1{f g:Str}{v x:V}{r c6:List (Str×V)}(n:(g==f)=false)(h:fE f v r=c6):fE f v ((g,x)::r)=(g,x)::c6:=by
 have:¬g=f:=by simpa using n
 simp[fE,this,h]
theorem pfN{f:Str}{v:V}:fE f v []=[(f,v)]:=rfl
end
end Rd
theorem ZlT(x:Str)(ys:List Str):inV (.str x) (ys.map V.str)=decide (x∈ys):=by
 induction ys with
 |nil=>rfl
 |cons y ys bQ=>
  have e:inV (.str x) ((y::ys).map V.str)=(eqV (.str y) (.str x)||inV (.str x) (ys.map V.str)):=rfl;rw[e,bQ];show((y==x)||decide (x∈ys))=decide (x∈y::ys)
  by_cases h:x=y
  ·subst h;simp
  ·have:(y==x)=false:=by simpa using λz=>h z.symm
   rw[this];simp[h]
theorem Zhz(x:Int)(ys:List Int):inV (.int x) (ys.map V.int)=decide (x∈ys):=by
 induction ys with
 |nil=>rfl
 |cons y ys bQ=>
  have e:inV (.int x) ((y::ys).map V.int)=(eqV (.int y) (.int x)||inV (.int x) (ys.map V.int)):=rfl;rw[e,bQ];show((y==x)||decide (x∈ys))=decide (x∈y::ys)
  by_cases h:x=y
  ·subst h;simp
  ·have:(y==x)=false:=by simpa using λz=>h z.symm
   rw[this];simp[h]
theorem G6(ys:List Str):(ys.map V.str).all js=true:=by
 rw[List.all_map,qa6];intro _ _
 rfl
theorem y0(ys:List Int):(ys.map V.int).all js=true:=by
 rw[List.all_map,qa6];intro _ _
 rfl
namespace Rd
section
variable {H:Hp}{Q:VK}{K:Frag}
theorem ZoO{p:Addr}{x:Str}{ys:List Str}(h:SqL K H p (ys.map V.str))(q:Q (.bl (!decide (x∈ys))) H):rIn K true (.str x) (.ref p) H Q:=⟨p,_,rfl,.inl h,rfl,G6 ys,by rw[ZlT];exact q⟩
theorem inI{p:Addr}{x:Int}{ys:List Int}(h:SqL K H p (ys.map V.int))(q:Q (.bl (decide (x∈ys))) H):rIn K false (.int x) (.ref p) H Q:=⟨p,_,rfl,.inl h,rfl,y0 ys,by rw[Zhz];exact q⟩
theorem Zox{p:Addr}{x:Int}{ys:List Int}(h:SqL K H p (ys.map V.int))(q:Q (.bl (!decide (x∈ys))) H):rIn K true (.int x) (.ref p) H Q:=⟨p,_,rfl,.inl h,rfl,y0 ys,by rw[Zhz];exact q⟩
theorem ifD{c A B:Prop}[Decidable c](a:c→A)(b:¬c→B):if decide c=true then A else B:=by
 by_cases h:c
 ·exact ifP h (a h)
 ·exact ifN h (b h)
theorem Zo1{p:Addr}{bs:List Bool}{G:List Bool→Prop}(h:SqL K H p (bs.map V.bl))(q:G bs):∃(gW:Addr)(nV:List Bool),[V.ref p]=[.ref gW]∧SqL K H gW (nV.map V.bl)∧G nV:=⟨p,bs,rfl,h,q⟩
theorem leS{x y:Str}(q:Q (.bl (!decide (y.cps.toList<x.cps.toList))) H):rLeS (.str x) (.str y) H Q:=⟨x,y,rfl,rfl,q⟩
theorem ZnV{af:St}{r c6:R2}{bX cP dq:TE}(h:bX af H λx bn=>cP af bn λy bv=>r x y bv λz b9=>∃k,z= .bl k∧(if k=true then dq af b9 λd3 b7=>c6 y d3 b7 Q else Q (.bl false) b9)):yr r c6 bX cP dq af H Q:=h
end
end Rd
namespace Rd
section
variable {H:Hp}{Q:VK}{K:Frag}
theorem un1{g:Int→V}{i:Int}(q:Q (g i) H):rU g (.int i) H Q:=⟨i,rfl,q⟩
theorem ZoN{z:Str}{i:Int}{c:Nat}(h:z.length≤sizeLine)(e:atI z.cps.toList i=some c)(q:Q (.str ⟨#[c]⟩) H):rIx K (.str z) (.int i) H Q:= .inr (.inr ⟨z,i,c,rfl,rfl,h,e,q⟩)
theorem Znj{a:Addr}{xs:List V}{G:Addr→Prop}(h:SqL K H a xs)(q:G a):∃dA,V.ref a= .ref dA∧(∃xs,SqL K H dA xs)∧G dA:=⟨a,rfl,⟨xs,h⟩,q⟩
theorem Zn4{j:Int}{G:Int→Prop}(bj: -(2 ^ 62)≤j)(bp:j<2 ^ 62)(q:G j):∃k,[V.int j]=[.int k]∧ -(2 ^ 62)≤k∧k<2 ^ 62∧G k:=⟨j,rfl,bj,bp,q⟩
theorem ZoJ{i j:Int}{G:Int→Int→Prop}(q:G i j):∃rk rl,[V.int i,.int j]=[.int rk,.int rl]∧G rk rl:=⟨i,j,rfl,q⟩
end
end Rd
noncomputable def hid (H:Hp) (r:Addr):Hp:=λb=>if b=r then none else H b
theorem nW{H:Hp}{r:Addr}:hid H r r=none:=by unfold hid;rw[if_pos rfl]
theorem Yy{H:Hp}{r b:Addr}(h:b≠r):hid H r b=H b:=by unfold hid;rw[if_neg h]
theorem j0{H:Hp}{r:Addr}:Ze (hid H r) H:=λb o e=>by
 by_cases h:b=r
 ·rw[h,nW] at e;cases e
 ·rw[Yy h] at e;exact e
theorem y1{H:Hp}{r:Addr}{xs:List V}(h:H r=some (.lst xs)):∀b ys,H b=some (.tup ys)→L2.hid H r b=some (.tup ys):=λb ys e=>by rw[Yy (fj e h (by intro z;cases z))];exact e
theorem y2:∀ns:List Int,PyData.canLayAll0 (ns.map PyData.int)=true
 | []=>by simp[PyData.canLayAll0]
 |n::ns=>by
  have:=y2 ns;simp[PyData.canLayAll0,PyData.canLay0] at this⊢;exact this
theorem lD(ns:List Int):(PyData.list (ns.map PyData.int)).canLay0=true:=by
 have:=y2 ns;simp[PyData.canLay0];simpa using this
theorem y3:∀ns:List Int,PyData.depthAll (ns.map PyData.int)≤1
 | []=>by simp[PyData.depthAll]
 |n::ns=>by
  have:=y3 ns;simp[PyData.depthAll,PyData.depth] at this⊢;exact this
theorem rm(ns:List Int):(PyData.list (ns.map PyData.int)).depth≤60:=by
 have:=y3 ns;simp only[PyData.depth];omega
namespace Rd
section
variable {H:Hp}{Q:VK}{K:Frag}
end
end Rd
namespace Rd
section
variable {af:St}{H:Hp}{Q:VK}{K:Frag}{J:St→Prop}{E:XK}{sp:Sp}{eC:List V}{t:TA}{bX:TE}
end
end Rd
namespace Rd
section
variable {af:St}{H:Hp}
theorem Zpe{to ti:TE}{t:Zdw}{v:V}{Q:St→Hp→Prop}(h:to af H λo bn=>ti af bn λi bv=>t o i v bv λb9=>Q af b9):ye to ti t v af H Q:=h
theorem ZmY{p:Addr}{xs:List V}{k:Int}{v:V}{Q:Hp→Prop}(bD:H p=some (.lst xs))(cd:0≤k)(bj:k<xs.length)(q:Q (upd H p (.lst (xs.set k.toNat v)))):rSetL (.ref p) (.int k) v H Q:=
 ⟨p,xs,k,k.toNat,rfl,rfl,bD,by unfold ixN;rw[if_pos cd,if_pos bj],q⟩
end
end Rd
section
variable {X hs:List Int}{i:Nat}{v u:Int}
end
noncomputable def only(q:Addr) (o:HO):Hp:=λa=>if a=q then some o else none
theorem pE{q:Addr}{o:HO}:only q o q=some o:=by unfold only;rw[if_pos rfl]
theorem Ui{q:Addr}{o:HO}{H:Hp}(h:H q=some o):Ze (only q o) H:=λb x e=>by
 unfold only at e
 by_cases c:b=q
 ·rw[if_pos c] at e;rw[c];cases e;exact h
 ·rw[if_neg c] at e;cases e
section
variable {X:Cx}{K:Frag}
theorem Zmo(e:X.K=K):OpR X (binaryOp .Add) (rOr rh (rOr Zeo (rOr rCat (pa K)))):=e▸GZ
theorem ij(e:X.K=K)(hu:X.A.units+64<cLine):OpR X (compareOp .Eq) (rOr rEq (kO K false)):=e▸ZnH hu
theorem ik(e:X.K=K)(hu:X.A.units+64<cLine):OpR X (compareOp .NotEq) (rOr rNe (kO K true)):=e▸Zno hu
theorem Zo8(e:X.K=K):IxR X (rIx K):=e▸Gc
theorem rn(e:X.K=K):SlR X (rj K):=e▸G5
noncomputable def uq (K:Frag):List V→Hp→VK→Prop:=λxs H Q=>∃x n,xs=[x]∧ZaW K x H n∧Q (.int n) H
theorem ZnY(e:X.K=K):YW X (.builtin "len") (uq K):=e▸FY
theorem pF(e:X.K=K):OpR X (compareOp .In) (rIn K false):=e▸Gf
theorem rp(e:X.K=K):OpR X (compareOp .NotIn) (rIn K true):=e▸Gg
theorem eK{e:Expr}{bX:TE}{f:Str}{pos:Pos}(eS:X.K=K)(bL:PE X e bX)(a_:attributeBase e f X.env (eval e X.env)=eval e X.env):PE X (.Attribute e f pos) (tG K bX f):=eS▸Znb bL a_
theorem i8{o value:Expr}{bX hy:TE}{f:Str}{pos jl:Pos}(eS:X.K=K)(bF:PE X o bX)(b_:PE X value hy)(hs:swapsWith value (some (.Attribute o f jl)) pos.line X.env=pure false):
  PS X (.Assign [.Attribute o f jl] value pos) (tH K bX hy f):=eS▸ZnP bF b_ hs
theorem ey{cO l:Expr}{dP:TE}(eS:X.K=K)(aj:PE X l dP):PI X cO l (tz K dP):=eS▸ZlZ aj
noncomputable def y4 (K:Frag) (bX:TE):TT:=λaf H Q=>bX af H λx ae=>∃k,o5 K x ae k∧Q k ae
theorem gJ{a:Expr}{bX:TE}(eS:X.K=K)(bF:PE X a bX)(bL:∀mh,isTrue a X.env mh=(do let v←mh;standAt a.pos;holding [v] (truthy v))):PT X a (y4 K bX):=eS▸ZkH bF bL
noncomputable def y5 (K:Frag):List V→Hp→VK→Prop:=λxs H Q=>∃x n t b,xs=[x,.ty n]∧Wq K H x t∧kitOne K t (.type n)=some b∧Q (.bl b) H
theorem kP(e:X.K=K):YW X (.builtin "isinstance") (y5 K):=e▸GJ
noncomputable def ur (K:Frag):List V→Hp→VK→Prop:=λxs H Q=>∃p ys,xs=[.ref p]∧(SqL K H p ys∨SqT K H p ys)∧∀l,H l=none→Q (.ref l) (upd H l (.lst ys))
theorem mL(e:X.K=K):YW X (.type "list") (ur K):=e▸Gh
noncomputable def y6 (K:Frag):List V→Hp→VK→Prop:=λxs H Q=>∃(p:Addr)(bs:List Bool),xs=[.ref p]∧SqL K H p (bs.map V.bl)∧Q (.bl (bs.all id)) H
theorem y7(e:X.K=K)(bu:X.calm=true):YW X (.builtin "all") (y6 K):=e▸Zjz bu
noncomputable def y8 (K:Frag):List V→Hp→VK→Prop:=λxs H Q=>∃(p:Addr)(ns:List Int),xs=[.ref p]∧SqL K H p (ns.map V.int)∧Q (.int ns.sum) H
theorem G7(e:X.K=K)(bu:X.calm=true):YW X (.builtin "sum") (y8 K):=e▸Zjk bu
theorem fr{o e:Expr}{bE:List Expr}{to:TE}{t:TA}{name:Str}{dv dy:Pos}{T id:String}{r:V→List V→Hp→VK→Prop}(eS:X.K=K)(lw:PlainAttrs T)(slot:Slot T name id)(ie:typeOf (.builtin id)=pure (.type "method_descriptor"))(bA:MtR X id r)(bI:PE X o to)(bF:PA X (e::bE) t)
  (ju:attributeBase o name X.env (eval o X.env)=eval o X.env:=by rfl)
  (tN:((backTo dy (starEach (e::bE) X.env)).all (λx=>!x.1)&&(backToKw dy (keywordEach [] X.env)).all (λx=>x.1.isSome)
   &&decide ((e::bE).length+([]:List Keyword).length+(if([]:List Keyword).isEmpty then 0 else 1)<30))=true:=by rfl)
  (jv:(dv.endLine==dy.line)=true:=by rfl) (hs:starEach (e::bE) X.env=(false,eval e X.env)::starEach bE X.env:=by rfl) (mw:(backTo dy (starEach bE X.env)).any (·.1)=false:=by rfl):
  PE X (.Call (.Attribute o name dv) (e::bE) [] dy) (tBM K T r to t):=eS▸Zn1 lw slot ie bA bI bF ju tN jv hs mw
theorem hY{bE:List Expr}{k:Nat}{t:TGs}{n:Nat}{pos:Pos}(eS:X.K=K)(bu:X.calm=true)(h:PGs X bE t)(bO:(assignEach bE X.env).length=n:=by rfl)(hc:(assignEach bE X.env).findIdx? (·.1)=none:=by rfl):
  PG X (.Tuple bE k pos) (tv K n t):=eS▸ZnJ bu h bO hc
end
namespace Rd
section
variable {af:St}{H:Hp}{Q:VK}{K:Frag}
theorem tru{bX:TE}{Q:Bool→Hp→Prop}(h:bX af H λx ae=>∃k,o5 K x ae k∧Q k ae):y4 K bX af H Q:=h
theorem ZoU{xs:List V}(h:∃x n,xs=[x]∧ZaW K x H n∧Q (.int n) H):uq K xs H Q:=h
theorem Zo9{xs:List V}(h:∃x n t b,xs=[x,.ty n]∧Wq K H x t∧kitOne K t (.type n)=some b∧Q (.bl b) H):y5 K xs H Q:=h
theorem Zo2{xs:List V}(h:∃(p:Addr)(bs:List Bool),xs=[.ref p]∧SqL K H p (bs.map V.bl)∧Q (.bl (bs.all id)) H):y6 K xs H Q:=h
theorem UO{p:Addr}{xs:List V}(h:SqL K H p xs)(q:∀l,H l=none→Q (.ref l) (upd H l (.lst xs))):ur K [.ref p] H Q:=⟨p,xs,rfl,.inl h,q⟩
theorem Zl1{p:Addr}{xs:List V}(h:SqT K H p xs)(q:∀l,H l=none→Q (.ref l) (upd H l (.lst xs))):ur K [.ref p] H Q:=⟨p,xs,rfl,.inr h,q⟩
theorem Zou{p:Addr}{ns:List Int}(h:SqL K H p (ns.map V.int))(q:Q (.int ns.sum) H):y8 K [.ref p] H Q:=⟨p,ns,rfl,h,q⟩
end
end Rd
def HU(A:Around):Prop:=A.units+64<cLine
theorem eI.hu{k:Nat}{A:Around}(h:eI k A):HU A:=h.units
theorem oA{i n a:Nat}(h:a=n)(k:i<n):i<a:=h▸k
theorem oB{n a m c:Nat}(h:a=n)(k:n≤m)(e:Nat.ble m c=true):a≤c:=h▸qal k (qbj e)
theorem oD{a m c:Nat}(k:a≤m)(e:Nat.ble m c=true):a≤c:=qal k (qbj e)
theorem oF{i a:Nat}(k:i<a):(i:Int)<(a:Int):=Int.ofNat_lt.mpr k
theorem ixk{X:Cx}(K:Frag)(e:X.K=K:=by rfl):IxR X (rIx K):=Zo8 e
theorem gn{X:Cx}(K:Frag)(e:X.K=K:=by rfl):OpR X (binaryOp .Add) (rOr rh (rOr Zeo (rOr rCat (pa K)))):=Zmo e
theorem fa{X:Cx}(K:Frag)(e:X.K=K:=by rfl):YW X (.builtin "len") (uq K):=ZnY e
structure Ex(K:Frag)(mg:Str→Option Value)(nm:Str)(X:Addr):Prop where
 g:nsIn K mainGlobals nm=some (some (.ref X))
 m:mg nm=some (.ref X)
 e:excIn K X [.type "ValueError",.type "Exception",.type "BaseException",.type "object"] "ValueError.__new__" =true
theorem scI{N P:List Str}{b8:Scope}(a:b8.kind= .function:=by rfl)(b:b8.isCoroutine=false:=by rfl)(c:b8.isGenerator=false:=by rfl)(d:N.Nodup:=by decide+kernel)(e:N.take P.length=P:=by rfl)(f:∀x∈P,b8.names.lookup x=some .local∨b8.names.lookup x=some .cell:=by decide+kernel)(g:∀y∈b8.names,y.2≠ .free:=by decide+kernel):Zr N P b8:=⟨a,b,c,d,e,f,g⟩
structure Dn(K:Frag)(mg:Str→Option Value)(nm q:Str)(s:Stmt)(b':List Str) where
 f:Addr
 d:FuncData
 F:Fun K nm q s f d
 b:WI K d b' []
 m:mg nm=some (.ref f)
structure Dm(K:Frag)(C:Addr)(nm q:Str)(s:Stmt)(b':List Str) where
 f:Addr
 d:FuncData
 F:Fun K nm q s f d
 b:WI K d b' []
 M:ZeG K C nm f
structure Di(K:Frag)(C:Addr)(q:Str)(s:Stmt)(b':List Str) where
 f:Addr
 d:FuncData
 F:Fun K "__init__" q s f d
 b:WI K d b' []
 M:Mk K C f
abbrev BOk(nm q:Str)(s:Stmt)(b':List Str):Prop:=∀us:List Value,us.length=b'.length→∀(kV e7 ei:Value)(an:Option Addr)(cz ct:Value),bindArgs (fnOf nm q (jw s) (iI s) (cu s) .none kV e7 ei an cz ct) ⟨us,[]⟩=pure (b'.zip us)
section
variable {P:Program}{w:World}{K:Frag}{mg:Str→Option Value}{base h:Heap}{nm q:Str}{st:Stmt}{b':List Str}{C f:Addr}{fg:Value}{d2 an:Option Addr}{gC:Array (Option Value)}{kV dc ei c8 ct:Value}
noncomputable def Dn.of (X:K.In h) (G:h.Ns mainGlobals mg) (a:nsIn K mainGlobals nm=some (some (.ref f))) (l:K.lookup f=some ⟨fg,d2,.func (fnOf nm q (jw st) (iI st) (cu st) .none kV dc ei an c8 ct),gC⟩) (c:codeIn K c8 q=true) (k:keepIn K (.ref f)=true)
  (a_:BOk nm q st b'):Dn K mg nm q st b':=⟨f,_,nO l c k,(nO l c k).binds λa1 a2 a3 a4 a5 a6 us e=>a_ us e a1 a2 a3 a4 a5 a6,mg_of X G a⟩
noncomputable def Dm.of (a:findIn K (.ref C) nm=some (some (.ref f))) (i:isFn K (.ref f)=true) (l:K.lookup f=some ⟨fg,d2,.func (fnOf nm q (jw st) (iI st) (cu st) .none kV dc ei an c8 ct),gC⟩) (c:codeIn K c8 q=true) (k:keepIn K (.ref f)=true)
  (a_:BOk nm q st b'):Dm K C nm q st b':=⟨f,_,nO l c k,(nO l c k).binds λa1 a2 a3 a4 a5 a6 us e=>a_ us e a1 a2 a3 a4 a5 a6,⟨a,i,k⟩⟩
noncomputable def Di.of (z:makesIn K C=true) (y:keepIn K (.ref C)=true) (a:findIn K (.ref C) "__init__" =some (some (.ref f))) (i:isFn K (.ref f)=true) (l:K.lookup f=some ⟨fg,d2,.func (fnOf "__init__" q (jw st) (iI st) (cu st) .none kV dc ei an c8 ct),gC⟩) (c:codeIn K c8 q=true) (k:keepIn K (.ref f)=true)
  (a_:BOk "__init__" q st b'):Di K C q st b':=⟨f,_,nO l c k,(nO l c k).binds λa1 a2 a3 a4 a5 a6 us e=>a_ us e a1 a2 a3 a4 a5 a6,⟨z,a,i,y⟩⟩
theorem ZkM{cM:Type _}{P:List cM→Prop}(h:P [])(us:List cM)(e:us.length=0):P us:=match us,e with| [],_=>h
theorem lenS{cM:Type _}{n:Nat}{P:List cM→Prop}(h:∀a (us:List cM),us.length=n→P (a::us))(us:List cM)(e:us.length=n+1):P us:=match us,e with|a::us,e=>h a us (Nat.succ.inj e)
theorem ZmG:Vc K C []:=⟨λ_ h=>nomatch h⟩
theorem ZlY{x:Str}{xs:List Str}(h:findIn K (.ref C) x=some none)(t:Vc K C xs):Vc K C (x::xs):=⟨λf bJ=>by
 rcases qae.mp bJ with e|e
 ·rw[e];exact h
 ·exact t.out f e⟩
theorem ZnB{dT:Addr}{a:Array Value}{n:Nat}(h:K.lookup dT=some ⟨fg,d2,.seq a n,gC⟩):∃fg d2 n sl,K.lookup dT=some ⟨fg,d2,.seq a n,sl⟩:=⟨_,_,_,_,h⟩
abbrev OkN(P:Program)(w:World)(base:Heap)(k:Nat)(D:Dn K mg nm q st b')(sp:Sp):Prop:=YT P w K mg base (CXX P w) k D.f D.d b' sp
abbrev OkM(P:Program)(w:World)(mg:Str→Option Value)(base:Heap)(k:Nat)(D:Dm K C nm q st b')(sp:Sp):Prop:=YT P w K mg base (CXX P w) k D.f D.d b' sp
abbrev OkI(P:Program)(w:World)(mg:Str→Option Value)(base:Heap)(k:Nat)(D:Di K C q st b')(sp:Sp):Prop:=YT P w K mg base (CXX P w) k D.f D.d b' sp
end
section
variable {X:Cx}{CX:CXT}{j k:Nat}{C:Addr}{b':List Str}{sp:Sp}{E:XK}{x m q:Str}{st:Stmt}{p pos dv:Pos}{e o:Expr}{bE:List Expr}{bX:TE}{t:TA}{J:St→Prop}
theorem c5(D:Dn X.K X.mg x q st b')(F:YT X.prog X.w X.K X.mg X.base CX j D.f D.d b' sp)(bq:eI k X.A)(bo:Wh CX X E)(bF:PA X (e::bE) t)(bC:Nat.ble j k=true:=by rfl)(bH:Gl X x:=by rfl)
  (gB:(x==("__debug__" :Str))=false:=by decide) (bL:starEach (e::bE) X.env=(false,eval e X.env)::starEach bE X.env:=by rfl) (fh:(backTo pos (starEach bE X.env)).any (·.1)=false:=by rfl):
  PE X (.Call (.Name x p) (e::bE) [] pos) (tK sp [] E t):=Zmt (F.mono (qbj bC)) bq bH D.m D.F.kp D.b .nil bo bF gB bL fh
theorem fG{pl:Sem Bool}(bL:PE X o bX)(c:Cls X.K C)(D:Dm X.K C m q st b')(F:YT X.prog X.w X.K X.mg X.base CX j D.f D.d b' sp)(bq:eI k X.A)(bo:Wh CX X E)(bF:PA X (e::bE) t)(bC:Nat.ble j k=true:=by rfl)
  (hc:starEach (e::bE) X.env=(false,eval e X.env)::starEach bE X.env:=by rfl) (fh:(backTo pos (starEach bE X.env)).any (·.1)=false:=by rfl)
  (b3:eval (.Call (.Attribute o m dv) (e::bE) [] pos) X.env=(do
   let ds←eval o X.env
   standAt dv.atName
   let(f,first)←holding [ds] (getMethod ds m pl)
   callWith pos f first (backTo pos (starEach (e::bE) X.env)) (backToKw pos (keywordEach [] X.env))):=by rfl):
  PE X (.Call (.Attribute o m dv) (e::bE) [] pos) (o7 C m sp [] E bX t):=qY bL c D.M (F.mono (qbj bC)) bq D.b .nil bo bF hc fh b3
theorem fH{pl:Sem Bool}(bL:PE X o bX)(c:Cls X.K C)(D:Dm X.K C m q st b')(F:YT X.prog X.w X.K X.mg X.base CX j D.f D.d b' sp)(bq:eI k X.A)(bo:Wh CX X E)(bC:Nat.ble j k=true:=by rfl)
  (b3:eval (.Call (.Attribute o m dv) [] [] pos) X.env=(do
   let ds←eval o X.env
   standAt dv.atName
   let(f,first)←holding [ds] (getMethod ds m pl)
   callWith pos f first (backTo pos (starEach [] X.env)) (backToKw pos (keywordEach [] X.env))):=by rfl):
  PE X (.Call (.Attribute o m dv) [] [] pos) (o7 C m sp [] E bX tNil):=Zkq bL c D.M (F.mono (qbj bC)) bq D.b .nil bo b3
theorem y9(D:Di X.K C q st b')(F:YT X.prog X.w X.K X.mg X.base CX j D.f D.d b' sp)(bq:eI (k+1) X.A)(bA:X.mg x=some (.ref C))(bo:Wh CX X E)(bF:PA X (e::bE) t)(bC:Nat.ble j k=true:=by rfl)(bH:Gl X x:=by rfl)
  (gB:(x==("__debug__" :Str))=false:=by decide) (bL:starEach (e::bE) X.env=(false,eval e X.env)::starEach bE X.env:=by rfl) (fh:(backTo pos (starEach bE X.env)).any (·.1)=false:=by rfl):
  PE X (.Call (.Name x p) (e::bE) [] pos) (o8 C sp [] E t):=Zma D.M (F.mono (qbj bC)) bq bH bA D.b .nil bo bF gB bL fh
theorem y_(D:Di X.K C q st b')(F:YT X.prog X.w X.K X.mg X.base CX j D.f D.d b' sp)(bq:eI (k+1) X.A)(bA:X.mg x=some (.ref C))(bo:Wh CX X E)(bC:Nat.ble j k=true:=by rfl)(bH:Gl X x:=by rfl)
  (gB:(x==("__debug__" :Str))=false:=by decide):PE X (.Call (.Name x p) [] [] pos) (o8 C sp [] E tNil):=Zkp D.M (F.mono (qbj bC)) bq bH bA D.b .nil bo gB
end
section
variable {X:Cx}
noncomputable def rDIn:R2:=λy x H Q=>∃a o,x= .ref a∧ih H a y o∧Q (.bl o.isSome) H
noncomputable def rDNotIn:R2:=λy x H Q=>∃a o,x= .ref a∧ih H a y o∧Q (.bl (!o.isSome)) H
theorem G8(hu:X.A.units+64<cLine):OpR X (compareOp .In) rDIn:=by
 intro a' s af H x y v u Q I bZ ci h;obtain⟨a,o,rfl,g,q⟩:=h;cases ci;exact ZoA (by omega) I g bZ λbz e2=>⟨.bl o.isSome,H,e2,rfl,q⟩
theorem pG(hu:X.A.units+64<cLine):OpR X (compareOp .NotIn) rDNotIn:=by
 intro a' s af H x y v u Q I bZ ci h;obtain⟨a,o,rfl,g,q⟩:=h;cases ci;exact Zme (by omega) I g bZ λbz e2=>⟨.bl (!o.isSome),H,e2,rfl,q⟩
noncomputable def rIxD:R2:=λx y H Q=>∃a v,x= .ref a∧ih H a y (some v)∧Q v H
theorem rq(hu:X.A.units+64<cLine):IxR X rIxD:=by
 intro value slice a' s af H x y v u Q I bZ ci h hs;obtain⟨a,z,rfl,g,q⟩:=h;cases bZ;exact tail_any (Gz I g) PySem.F.slot_dict_getitem.lookup (Gy (by omega) I g ci λd3 bz e2 iF=>⟨z,H,e2,iF,q⟩) hs
noncomputable def rSetD:V→V→V→Hp→(Hp→Prop)→Prop:=λo i v H Q=>∃a b7,o= .ref a∧Zer H a i v b7∧Q b7
theorem mM(hu:X.A.units+64<cLine):Zip X rSetD:=by
 intro a' s af H o i v ds fD u Q I ro ri c' h;obtain⟨a,b7,rfl,g,q⟩:=h;cases ro;exact Zjd (by omega) I g ri c' λbz e2=>⟨b7,e2,q⟩
theorem ut{P:Program}{w:World}{k:Key}{u:Value}(h:(ec P w).is k u=true):cE (kV k) u:=by
 cases k with
 |inl i=>exact Value.isInt_shape h
 |inr x=>exact Value.isStrOf_shape h
theorem pH:∀{xs:List V}{us:List Value},us.length=xs.length→(∀(j:Nat)(v:V)(u:Value),xs[j]? =some v→us[j]? =some u→cE v u)→cL xs us
 | [],[],_,_=> .nil
 |x::xs,u::us,aj,h=> .cons (h 0 x u rfl rfl) (pH (by simpa using aj) λj v w bG bK=>h (j+1) v w (by simpa using bG) (by simpa using bK))
 | [],_::_,aj,_=>by simp at aj
 |_::_,[],aj,_=>by simp at aj
theorem KV.at{kvs:List (Key×V)}{vs:List (Key×Value)}(r:KV kvs vs):∀{j:Nat}{k:Key}{x:Value},vs[j]? =some (k,x)→∃v,kvs[j]? =some (k,v):=by
 unfold KV at r
 induction r with
 |nil=>intro j k x e;simp at e
 | @cons p q b' qs h t bQ=>
  intro j k x e;cases j with
  |zero=>
   simp at e;subst e;have bj:p.1=k:=h.1;exact⟨p.2,by simp[←bj]⟩
  |succ j=>
   obtain⟨v,z⟩:=bQ (j:=j) (k:=k) (x:=x) (by simpa using e);exact⟨v,by simpa using z⟩
noncomputable def rListD:List V→Hp→VK→Prop:=λxs H Q=>∃a kvs,xs=[V.ref a]∧H a=some (.dK kvs)∧∀l,H l=none→Q (.ref l) (upd H l (.lst (kvs.map λkv=>kV kv.1)))
theorem y'(bu:X.calm=true):YW X (.type "list") rListD:=by
 intro a' s af H xs us Q I r h;obtain⟨a,kvs,rfl,bF,q⟩:=h;obtain⟨u,rfl,d_⟩:=Wr r;cases d_;obtain⟨z,hd,vs,rel,dd⟩:=Zcq I.hok bF;obtain⟨ep,d6⟩:=dd.dictAt;refine kdl_call (PySem.W.kdl_dict (knd:=ec X.prog X.w) (kvs:=vs) (ep:=ep) hd) (I.ok.hd bu) d6 (by rw[←rel.length];exact z) λh' bY c1 c bt nM hk=>?_;refine⟨.ref s.heap.objs.size,_,I.laid (a:=s.heap.objs.size) (o:= .lst (kvs.map λkv=>kV kv.1)) (t':=bY) bt (qaa _) ⟨by rw[GE];exact z,c1.toList,c,?_,by simpa using nM⟩,rfl,q _ (I.hok.fresh (qaa _))⟩;refine pH (by rw[qaV,hk.1,GE,rel.length]) λj v u bG bK=>?_;obtain⟨k,x,bo,kQ⟩:=hk.2 j u (by rw[←qa7];exact bK);obtain⟨lq,hS⟩:=rel.at bo;rw[qaj,hS] at bG;cases bG;exact ut kQ
end
section
variable {X:Cx}{a':List (Addr×Obj)}{af:List (Option V)}{H ae:Hp}{s:Shared}{h':Heap}
theorem Inv.turnedL{t':Nat}{fp:List Addr}(I:Inv X a' af H s)(k:∀b o,b∉fp→s.heap.get? b=some o→h'.get? b=some o)(bJ:∀b∈fp,gy X a' H b):Inv X a' af H {s with heap:=h',toks:=t'}:=by
 have oS:∀b u,H b=some u→b∉fp:=λb u e z=>by rw[(bJ b z).1] at e;cases e
 refine I.step (g':=s.gens) (d':=s.drawn) (ch:=fp) (λb a_=>?_) (λb o _ _ bu e _=>k b o bu e) (λb o _ _ bu e _=>⟨o.slots,k b o bu e⟩) (λ_ _ _ _ n=>n)
  (λb o bu e=>⟨o,k b o bu e⟩) (λ_ _ e=>e) (λ_ _ _ e=>e) (λb b' e=>⟨#[],by rw[e];simp⟩) (λm bA=>?_) (λb u e=>?_) I.bare
 ·obtain⟨dG,f1,f2,df,es,dV⟩:=bJ b a_;exact⟨df,f1,es,dV⟩
 ·obtain⟨o,bE,ep,bI,r⟩:=bA;exact⟨o,bE,ep,k _ o (λz=>(bJ _ z).2.1 rfl) bI,r⟩
 ·refine(I.hok b u e).stay (λc v bu q=>k c v ?_ q) (λ_ q=>q) λ_ _ q=>q;rcases bu with z|z
  ·rw[z];exact oS b u e
  ·exact oS c _ z
theorem Inv.turnedNew{t':Nat}{fp:List Addr}{T:Addr}{o:HO}(I:Inv X a' af H s)(k:∀b o,b∉fp→s.heap.get? b=some o→h'.get? b=some o)(bJ:∀b∈fp,gy X a' H b)(bD:s.heap.objs.size≤T)(new:Z0 X.prog X.w (upd H T o) h' T o):
  Inv X a' af (upd H T o) {s with heap:=h',toks:=t'}:=by
 have J:Inv X a' af H {s with heap:=h',toks:=t'}:=I.turnedL k bJ;have bO:=I.hok.fresh bD;obtain⟨dG,f1,f2,df,es,dV⟩:=I.fpOk bD bO;refine Inv.step (s:={s with heap:=h',toks:=t'}) (h':=h') (g':=s.gens) (d':=s.drawn) (t':=t') (ch:=[T]) J (λb a_=>?_) (λb o _ _ bu e _=>e) (λb o _ _ bu e _=>⟨o.slots,e⟩) (λb o bu e n=>?_)
  (λb o bu e=>⟨o,e⟩) (λb xs e=>?_) (λb o u e=>?_) (λb b' e=>⟨#[],?_⟩) (λm bA=>bA) (λb u e=>?_) I.bare
 ·have e:b=T:=by simpa using a_
  subst e;exact⟨df,f1,es,dV⟩
 ·rw[b5 (λz=>bu (by simp[z]))];exact n
 ·rw[b5 (dw e bO)];exact e
 ·rw[b5 (dw e bO)];exact e
 ·rw[b5 (dw e bO)];simpa using e
 ·by_cases a_:b=T
  ·subst a_;rw[Zd] at e;cases e;exact new
  ·rw[b5 a_] at e;exact(J.hok b u e).stay (λc v _ q=>q) (λc q=>by rw[b5 (dw q bO)];exact q) λc xs q=>by rw[b5 (dw q bO)];exact q
end
noncomputable def Ite (K:Frag) (a:Addr):It:=
 ⟨λi H=>∃xs x,SqL K H a xs∧xs[i]? =some x,λi H v ae=>∃t x,H t=none∧v= .ref t∧ae=upd H t (.tup [.int i,x])∧∀xs,SqL K H a xs→xs[i]? =some x,λi H=>∃xs,SqL K H a xs∧xs.length≤i⟩
theorem G9{P:Program}{w:World}{K:Frag}{jy:List Expr}{k1:Nat}{pos:Pos}(a e it:Addr)(za:e≠it):Um P w K (.Tuple jy k1 pos) (Ite K a) [e,it] e (λi h=>(∃jQ,IsEnum h e it i jQ)∧h.IsListIter it a i) where
 mem:=by simp
 obj:=λi h st b a_=>by
  obtain⟨⟨jQ,bL⟩,o,bj,bp,bT⟩:=st;rcases qae.mp a_ with rfl|a_
  ·exact⟨_,bL,λv z=>by
    have f7:Data.fields _=Data.cell v:=z;cases f7⟩
  ·rw[qac.mp a_];exact⟨o,bj,λv z=>by rw[bT] at z;cases z⟩
 keep:=λi h h' st k=>⟨let⟨jQ,bL⟩:=st.1;⟨jQ,k e (by simp) _ bL⟩,st.2.at λo q=>k it (by simp) o q⟩
 item:=by
  intro X dU hw d9 bu i a' s af H E I bJ st bH;subst dU hw d9;obtain⟨xs,x,cv,bo⟩:=bH;obtain⟨its,c',p,hz⟩:=I.list cv;obtain⟨u,hu,d_⟩:=c'.get bo;obtain⟨⟨jQ,bL⟩,dQ⟩:=st;refine wpAny_pyNext_enum_item bL dQ p.isList (x:=u) (by simpa using hu) za λh' bI hit' c9 hsz bt=>?_;have gb:=I.hok.fresh (qaa s.heap.objs.size);have zb:e<s.heap.objs.size:=Heap.lt_size bL;have rr:it<s.heap.objs.size:=by obtain⟨_,y,_⟩:=dQ;exact Heap.lt_size y
  refine⟨_,rfl,wpAny_letOwnedTupleGo_enum bI λbp kR gX=>?_⟩;have mO:bp.get? s.heap.objs.size=some {cls:= .type "tuple",data:= .seq #[.int i s.toks,u]}:=gX.extBut _ _ (qbJ zb) c9;have bM:Inv X a' af (upd H s.heap.objs.size (.tup [.int i,x])) {s with heap:=bp,toks:=s.toks+1}:=
   I.turnedNew (fp:=[e,it]) (λb o a_ q=>by
    have fI:b≠e:=λz=>a_ (by simp[z]);have fl:b≠it:=λz=>a_ (by simp[z]);exact gX.extBut b o fI (bt b o fI fl q)) bJ (qaa _) ⟨by show 2≤sizeLine;decide,[.int i s.toks,u],.cons ⟨_,rfl⟩ (.cons d_ .nil),_,mO,rfl,_,rfl⟩
  refine⟨.ref s.heap.objs.size,_,bM,rfl,⟨_,x,gb,rfl,rfl,λys bR=>by rw[I.list_inj bR cv];exact bo⟩,⟨⟨_,kR⟩,hit'.at λo q=>gX.extBut _ _ za.symm q⟩,λb a_=>?_⟩;have mP:b≠s.heap.objs.size:=by
   rcases qae.mp a_ with rfl|a_
   ·exact qak zb
   ·rw[qac.mp a_];exact qak rr
  rw[b5 mP];exact(bJ b a_).1
 done:=by
  intro X dU hw d9 bu i a' s af H E I bJ st bH;subst dU hw d9;obtain⟨xs,cv,bo⟩:=bH;obtain⟨its,c',p,hz⟩:=I.list cv;obtain⟨⟨jQ,bL⟩,dQ⟩:=st;have aj:=c'.length;exact wpAny_pyNext_enum_end (I.ok.hd bu) bL dQ p.isList (by simp;omega) λh' cV=>⟨rfl,I.turnedL (t':=s.toks) (fp:=[e,it]) (λb o a_ q=>cV b o (λz=>a_ (by simp[z])) q) bJ⟩
 self:=λ_ _ _ _ _ st h=>wpAny_pyIter_enum st.1.choose_spec h
section
variable {X:Cx}
noncomputable def zc (K:Frag) (bX:TA):TI:=λaf H R=>bX af H λvs bn=>∃a,vs=[.ref a]∧(∃xs,SqL K bn a xs)∧R (Ite K a) bn
theorem pI{K:Frag}{a:Expr}{bX:TA}{p pos kx:Pos}{jy:List Expr}{k1:Nat}(eS:X.K=K)(bH:Gl X "enumerate")(bA:X.mg "enumerate" =none)(bF:PA X [a] bX)(hs:starEach [a] X.env=[(false,eval a X.env)]:=by rfl):
  PI X (.Tuple jy k1 kx) (.Call (.Name "enumerate" p) [a] [] pos) (zc K bX):=by
 subst eS;intro a' s af H R I h;refine Call_ (ht I bH bA boot_enumerate (qaD (thn (bF pos a' s af H _ I h) λus bw ⟨vs,bn,bM,cm,cg⟩=>?_) hs rfl));obtain⟨b,rfl,⟨xs,cv⟩,q⟩:=cg;obtain⟨u,rfl,d_⟩:=Wr cm;cases d_;obtain⟨its,c',pl,hz⟩:=bM.list cv;refine call_enumerate_list pl.isList λh' bL dQ hsz bt=>?_;refine wpAny_pyIter_enum bL ?_;have cF:Inv X a' af bn {bw with heap:=h'}:=bM.kept (t':=bw.toks) bt;refine⟨bw.heap.objs.size+1,[bw.heap.objs.size+1,bw.heap.objs.size],_,_,bn,rfl,cF,G9 b _ _ (Nat.succ_ne_self _),⟨⟨_,bL⟩,dQ⟩,λc bu=>?_,q⟩;rcases qae.mp bu with rfl|bu
 ·exact bM.fpOk (qce _) (bM.hok.fresh (qce _))
 ·rw[qac.mp bu];exact bM.fpOk (qaa _) (bM.hok.fresh (qaa _))
end
noncomputable def rLenD:List V→Hp→VK→Prop:=λxs H Q=>∃a kvs,xs=[V.ref a]∧H a=some (.dK kvs)∧Q (.int kvs.length) H
theorem Zh7{X:Cx}:YW X (.builtin "len") rLenD:=GH
noncomputable def lE (n:Nat) (ix:List Nat) (af:St):St:=List.replicate n none++ix.map λj=>(af[j]?).join
noncomputable def uu (n:Nat) (ix:List Nat) (eA:TI) (g:TG) (dq:TT) (cA:TE):TE:=λaf H Q=>eA af H λJ bn=>∀p,bn p=none→
 ∃W:Nat→Nat→List V→St→Hp→Prop,(∃m,W 0 m [] (lE n ix af) (upd bn p (.lst [])))∧∀i m ys bW ae,W i m ys bW ae→
  (J.stop i ae∧Q (.ref p) ae)∨(J.go i ae∧∀x bv,J.yld i ae x bv→g x bW bv λda b9=>dq da b9 λb b7=>
   if b=true then cA da b7 λv b1=>b1 p=some (.lst ys)∧ys.length<sizeLine∧∃cr,cr<m∧W (i+1) cr (ys++ [v]) da (upd b1 p (.lst (ys++ [v])))
   else ∃cr,cr<m∧W (i+1) cr ys da b7)
section
variable {X:Cx}
theorem Zhh{a':List (Addr×Obj)}{af:St}{H:Hp}{s:Shared}{b8:Scope}{x:Str}{xs:List Str}{zs:List Str}{ix:List Nat}{ck:List (Str×Addr)}{fp:List Addr}{h₁:Heap}{bY:Nat}
  (S:Y3 X b8 x zs ix) (I:Inv X a' af H s) (eu:∀y c,ck.lookup y=some c→X.env.cells.lookup y=some c) (hh:∀y,(y,NameKind.free)∈b8.names→∃c,ck.lookup y=some c)
  (hC:∀b∈fp,gy X a' H b∧b<s.heap.objs.size) (kI:h₁.Ns s.heap.objs.size λ_=>none) (bt:∀b o,s.heap.get? b=some o→h₁.get? b=some o):
  Inv (Zl X b8 ck s.heap.objs.size (xs++zs) s H fp) [] (lE xs.length ix af) H {s with heap:=h₁,toks:=bY}:=by
 have sub:∀b∈frs X.stack,b∈X.env.locals::X.fs:=I.stkSub;have t1:∀b∈fp,b∉frs X.stack:=λb a_ z=>by
  obtain⟨⟨_,f1,f2,_⟩,_⟩:=hC b a_;rcases qae.mp (sub b z) with e|e
  ·exact f1 e
  ·exact f2 e
 have cut:∀y,(Zl X b8 ck s.heap.objs.size (xs++zs) s H fp).env.kindOf y=some .cell∨(Zl X b8 ck s.heap.objs.size (xs++zs) s H fp).env.kindOf y=some .free→∃c,ck.lookup y=some c:=λy bR=>by
  have q:∃k,(relabel b8 X.env).names.lookup y=some k∧(k= .cell∨k= .free):=by
   rcases bR with bR|bR
   ·exact⟨_,bR,.inl rfl⟩
   ·exact⟨_,bR,.inr rfl⟩
  obtain⟨k,e,bt⟩:=q;obtain⟨k',cf,q⟩:=Wv e;have:k'= .free:=by
   rcases q with q|⟨q,_⟩
   ·rcases bt with z|z
    ·exact absurd (q.symm.trans z) (S.nocell _ (lA cf))
    ·exact q.symm.trans z
   ·exact q
  subst this;exact hh y (lA cf)
 refine⟨⟨I.ok.mod,S.kind,I.ok.glob,I.ok.blt,qaa _,λy z c bj bp=>I.ok.inj y z c (eu _ _ bj) (eu _ _ bp),cut,λy c bJ _=>?_,I.ok.hd,I.ok.frames,.inl rfl,λb a_=>?_,I.bs,qal I.ok.bsz I.sz,λb o e a_=>?_,t1,I.stack,I.stkFree⟩,
  rfl,I.bare,Un.kept bt,⟨_,kI,λi y v bj bp bT=>?_⟩,λy c h=>?_,I.hok.fresh (qaa _),λy c h=>I.freeC y c (eu y c h),λp bD=>absurd (show p∈([]:List (Addr×Obj)) from bD) (by simp),I.hok.kept bt,?_⟩
 ·exact absurd (show false=true from bJ) (by decide)
 ·obtain⟨⟨dG,f1,f2,df,es,dV⟩,aj⟩:=hC b a_;exact⟨qak aj,λy c h=>es y c (eu y c h)⟩
 ·obtain⟨⟨dG,f1,f2,df,es,dV⟩,aj⟩:=hC b a_;rcases df with z|z
  ·exact I.ok.noex b o e z
  ·exact absurd (qag (Heap.lt_size e) (qal I.ok.bsz z)) (qbk _)
 ·
  have eg:xs.length≤i:=by
   rcases qbR i xs.length with z|z
   ·have gG:(List.replicate xs.length none++ix.map λj=>(af[j]?).join)[i]? =some (some v):=bp;rw[qa1 (by rw[qbi];exact z),List.getElem?_replicate,if_pos z] at gG;cases gG
   ·exact z
  ·obtain⟨i,rfl⟩:∃rk,i=xs.length+rk:=⟨i-xs.length,by omega⟩;have jW:zs[i]? =some y:=by
    have jW:(xs++zs)[xs.length+i]? =some y:=bj;rw[qaX (Nat.le_add_right _ _),Nat.add_sub_cancel_left] at jW;exact jW
   have gG:(ix.map λj=>(af[j]?).join)[i]? =some (some v):=by
    have gG:(List.replicate xs.length none++ix.map λj=>(af[j]?).join)[xs.length+i]? =some (some v):=bp;rw[qaX (by rw[qbi];exact Nat.le_add_right _ _),qbi,Nat.add_sub_cancel_left] at gG;exact gG
   have bF:(ix.map λj=>X.N[j]?)[i]? =some (some y):=by rw[S.at_,qaj,jW];rfl
   rw[qaj] at gG bF;cases e:ix[i]? with
   |none=>rw[e] at gG;cases gG
   |some j=>
    rw[e] at gG bF;have ga:X.N[j]? =some y:=qan bF;have bC:(af[j]?).join=some v:=qan gG;have t2:af[j]? =some (some v):=by
     cases q:af[j]? with
     |none=>rw[q] at bC;cases bC
     |some o=>rw[q] at bC;exact congrArg some bC
    obtain⟨m,bO,aj⟩:=I.loc;have gb:=S.zfree y (qar jW);have mu:=S.free _ (lA gb) rfl;have b_:Vis X.env.scope y:=by
     rcases mu with z|z
     ·exact .inr (.inl z)
     ·exact .inr (.inr z)
    obtain⟨u,r,q⟩:=aj j y v ga t2 b_;refine⟨u,r,?_⟩;rcases q with⟨t3,_⟩|⟨_,c,bu,lu⟩
    ·have pj:X.env.kindOf y=some .local:=t3;rcases mu with z|z<;>(rw[z] at pj;cases pj)
    ·obtain⟨cZ,jP⟩:=hh y (lA gb);have nQ:cZ=c:=by have:=eu y cZ jP;rw[bu] at this;exact(qan this).symm
     subst nQ;refine .inr ⟨?_,cZ,jP,?_⟩
     ·have t4:Vis (relabel b8 X.env) y:=bT;rcases t4 with z|z|z
      ·obtain⟨k',cf,q⟩:=Wv z;rw[gb] at cf;cases cf;rcases q with q|⟨_,q⟩<;>cases q
      ·exact .inl z
      ·exact .inr z
     ·obtain⟨o,bI,hd⟩:=lu;exact⟨o,bt _ _ bI,hd⟩
 ·obtain⟨v,o,bI,hd⟩:=I.cell y c (eu y c h);exact⟨v,o,bt _ _ bI,hd⟩
 ·show(List.replicate xs.length none++ix.map λj=>(af[j]?).join).length=(xs++zs).length;have:=congrArg List.length S.at_;simp only[GE] at this;simp only[qaT,qbi,GE,this]
theorem ZcO{a':List (Addr×Obj)}{af:St}{H:Hp}{s:Shared}{b8:Scope}{x:Str}{xs:List Str}{zs:List Str}{ix:List Nat}{ck:List (Str×Addr)}{fp:List Addr}{it:Addr}{dY:Nat→Heap→Prop}{J:It}
  {e9 cO er:Expr} {ifs:List Expr} {pos:Pos} {g:TG} {dq:TT} {cA:TE} {Q:VK} {E:Value→Shared→Prop} {RR:Value→Addr→Result→Shared→Prop}
  (bu:X.calm=true) (S:Y3 X b8 x zs ix) (I:Inv X a' af H s) (eu:∀y c,ck.lookup y=some c→X.env.cells.lookup y=some c) (hh:∀y,(y,NameKind.free)∈b8.names→∃c,ck.lookup y=some c)
  (T:Um X.prog X.w X.K cO J fp it dY) (st:dY 0 s.heap) (hC:∀b∈fp,gy X a' H b)
  (d5:∀C s H,PG (Zl X b8 ck C (xs++zs) s H fp) cO g∧PIf (Zl X b8 ck C (xs++zs) s H fp) ifs dq∧PE (Zl X b8 ck C (xs++zs) s H fp) e9 cA)
  (cv:∀p,H p=none→∃W:Nat→Nat→List V→St→Hp→Prop,(∃m,W 0 m [] (lE xs.length ix af) (upd H p (.lst [])))∧∀i m ys bW ae,W i m ys bW ae→
   (J.stop i ae∧Q (.ref p) ae)∨(J.go i ae∧∀x bv,J.yld i ae x bv→g x bW bv λda b9=>dq da b9 λb b7=>
    if b=true then cA da b7 λv b1=>b1 p=some (.lst ys)∧ys.length<sizeLine∧∃cr,cr<m∧W (i+1) cr (ys++ [v]) da (upd b1 p (.lst (ys++ [v])))
    else ∃cr,cr<m∧W (i+1) cr ys da b7))
  (dk:∀c1 C f bz,yQ X a' af Q c1 C bz→RR c1 C (.ok f) bz):
  wpAny (model X.prog X.w) X.A (newList []) (λc1 ku=>wpAny (model X.prog X.w) X.A (newFunctionEnv b8 X.env.globals ck [] X.env.qual none .none (some X.env)) (λpk nS=>
   codeAny (model X.prog X.w) X.A (.compStart (.ListComp e9 [⟨cO,er,ifs,0⟩] b8 pos) 0 (.ref it) c1 {pk with scope:=relabel b8 X.env}) (RR c1 pk.locals) nS) E ku) E s:=by
 refine wpAny_newObj_type (wpAny_newFunctionEnv S.nocell (by intro y bR;simp at bR) (λh₁ hns₁ pm=>?_) S.kind);have dE:Inv X a' af (upd H s.heap.objs.size (.lst [])) {s with heap:=s.heap.push {cls:= .type "list",dict:=none,data:= .seq ([]:List Value).toArray}}:=I.lnew (its:=[]) (ys:=[]) (t':=s.toks) .nil (qau _);dsimp only at hns₁ pm⊢;obtain⟨W,⟨hx,eU⟩,turn⟩:=cv s.heap.objs.size (I.hok.fresh (qaa _));have lt:∀b∈fp,b<s.heap.objs.size:=λb a_=>by
  obtain⟨o,e,_⟩:=T.obj 0 s.heap st b a_;exact Heap.lt_size e
 have nT:∀b∈fp,∀o,(upd H s.heap.objs.size o) b=H b:=λb a_ o=>b5 (qak (lt b a_));have kp:∀b o,(s.heap.push {cls:= .type "list",dict:=none,data:= .seq ([]:List Value).toArray}).get? b=some o→h₁.get? b=some o:=λb o e=>
  pm.extBut b o (qak (Heap.lt_size e)) (Heap.get?_push_of_some _ e)
 have df:∀b∈fp,gy X a' (upd H s.heap.objs.size (.lst [])) b∧b<(s.heap.push {cls:= .type "list",dict:=none,data:= .seq ([]:List Value).toArray}).objs.size:=λb a_=>by
  obtain⟨t5,q⟩:=hC b a_;refine⟨⟨(nT b a_ _).trans t5,q⟩,?_⟩;rw[Heap.size_push];exact qbh (lt b a_)
 generalize jX:({s with heap:=s.heap.push {cls:= .type "list",dict:=none,data:= .seq ([]:List Value).toArray}}:Shared)=bS at dE;have pp:s.heap.push {cls:= .type "list",dict:=none,data:= .seq ([]:List Value).toArray}=bS.heap:=by rw[←jX]
 rw[pp] at kp df hns₁⊢;have jR:dY 0 h₁:=T.keep 0 _ _ st λb _ o e=>kp b o (by rw[←pp];exact Heap.get?_push_of_some _ e);have kK:Inv (Zl X b8 ck bS.heap.objs.size (xs++zs) bS (upd H s.heap.objs.size (.lst [])) fp) [] (lE xs.length ix af) (upd H s.heap.objs.size (.lst [])) {bS with heap:=h₁,toks:=bS.toks}:=
  Zhh S dE eu hh df hns₁ kp
 obtain⟨bH,t6,bL⟩:=d5 bS.heap.objs.size bS (upd H s.heap.objs.size (.lst []));have mC:∀{ae:Hp},(∀b∈fp,ae b=none)→∀b∈fp,gy (Zl X b8 ck bS.heap.objs.size (xs++zs) bS (upd H s.heap.objs.size (.lst [])) fp) [] ae b:=λ{ae} bO b a_=>
  ⟨bO b a_,(kK.ok.exf b a_).1,kK.ok.exfs b a_,.inl a_,(kK.ok.exf b a_).2,λp bD=>absurd (show p∈([]:List (Addr×Obj)) from bD) (by simp)⟩
 have pq:∀ca:Shared,ca={bS with heap:=h₁,toks:=bS.toks}→
   codeAny (model X.prog X.w) X.A (.compLoop (.ListComp e9 [⟨cO,er,ifs,0⟩] b8 pos) 0 (.ref it) (.ref s.heap.objs.size) (compEnvC b8 ck bS.heap.objs.size X.env)) (RR (.ref s.heap.objs.size) bS.heap.objs.size) ca:=by
  rintro ca rfl;refine Zbx (λn bz=>∃i ys bW ae,Inv (Zl X b8 ck bS.heap.objs.size (xs++zs) bS (upd H s.heap.objs.size (.lst [])) fp) [] bW ae bz∧dY i bz.heap∧(∀b∈fp,ae b=none)∧W i n ys bW ae) ?_ hx
   ⟨0,[],lE xs.length ix af,_,kK,jR,λb a_=>(df b a_).1.1,eU⟩
  rintro n cC ⟨i,ys,kL,b1,kz,kC,hQ,t7⟩;rcases turn i n ys kL b1 t7 with⟨stop,mo⟩|⟨go,step⟩
  ·refine thn (T.done (Zl X b8 ck bS.heap.objs.size (xs++zs) bS (upd H s.heap.objs.size (.lst [])) fp) rfl rfl rfl bu i [] cC kL b1 _ kz (mC hQ) kC stop) λr ef ⟨bq,he⟩=>?_;subst bq;obtain⟨t8,pr,_⟩:=he.loc;refine dk _ _ _ _ ⟨s.heap.objs.size,b1,t8,rfl,pr,?_,dE.fpOk (qaa _) he.free,mo⟩;exact dE.call' he.os he.base he.hok he.bare λb a_=>by
    obtain⟨⟨dG,f1,f2,df,es,dV⟩,_⟩:=df b a_;exact⟨df,f1,es,dV⟩
  ·refine thn (T.item (Zl X b8 ck bS.heap.objs.size (xs++zs) bS (upd H s.heap.objs.size (.lst [])) fp) rfl rfl rfl bu i [] cC kL b1 _ kz (mC hQ) kC go) λr ef ⟨u,bq,db⟩=>?_;subst bq;refine thn db λ_ et ⟨x7,dt,hR,o3,t9,mD,ps⟩=>?_;have t_:=hR.pinned (mC ps) (T.obj _ _ mD);refine thn (bH _ et kL dt x7 u _ t_ o3 (step x7 dt t9)) λ_ eV ⟨mE,eJ,ua,ub⟩=>?_;refine thn (t6 _ eV mE eJ _ ua ub) λb gH ⟨gI,pu,kM⟩=>?_;have again:∀{mF:List V}{bW:St}{ae:Hp}{cr:Nat}{bz:Shared},Inv (Zl X b8 ck bS.heap.objs.size (xs++zs) bS (upd H s.heap.objs.size (.lst [])) fp) ([]++Zax fp et.heap) bW ae bz→W (i+1) cr mF bW ae→cr<n→
     ∃m,m<n∧∃i ys bW ae,Inv (Zl X b8 ck bS.heap.objs.size (xs++zs) bS (upd H s.heap.objs.size (.lst [])) fp) [] bW ae bz∧dY i bz.heap∧(∀b∈fp,ae b=none)∧W i m ys bW ae:=λ{mF bW ae cr bz} Iz jx bA=>by
    refine⟨cr,bA,i+1,mF,bW,ae,Iz.unpinned,T.keep _ _ _ mD λb a_ o e=>(Iz.pin (b,o) (qav _ (qav _ (nF a_ e)))).1,λb a_=>?_,jx⟩;obtain⟨o,e,d⟩:=T.obj _ _ mD b a_;exact(Iz.pin (b,o) (qav _ (qav _ (nF a_ e)))).2.1
   cases b with
   |false=>
    rw[if_neg qai] at kM⊢;obtain⟨cr,bA,jx⟩:=kM;exact again pu jx bA
   |true=>
    rw[if_pos rfl] at kM⊢;refine thn (bL _ gH mE gI _ pu kM) λv gc ⟨y,fY,uc,ud,aj,hz,cr,bA,jx⟩=>?_;refine thn (hg _ gc mE fY (.ref s.heap.objs.size) [y] (.ref s.heap.objs.size) [v] (λz ae=>z= .non∧ae=upd fY s.heap.objs.size (.lst (ys++ [y]))) uc rfl (.cons ud .nil) ⟨_,ys,y,rfl,rfl,aj,hz,rfl,rfl⟩) λ_ jY ⟨z,ii,uf,_,_,ug⟩=>?_;subst ug;exact again uf jx bA
 exact codeAny_compStart_list (pq _ (by subst jX;rfl)) (T.self _ 0 _ _ _ jR (pq _ (by subst jX;rfl)))
theorem lF{e9 cO er:Expr}{ifs:List Expr}{b8:Scope}{pos:Pos}{x:Str}{xs:List Str}{zs:List Str}{ix:List Nat}{eA:TI}{g:TG}{dq:TT}{cA:TE}
  (bu:X.calm=true) (S:Y3 X b8 x zs ix) (hi:PI X cO er eA)
  (d5:∀ck C s H fp,PG (Zl X b8 ck C (xs++zs) s H fp) cO g∧PIf (Zl X b8 ck C (xs++zs) s H fp) ifs dq∧PE (Zl X b8 ck C (xs++zs) s H fp) e9 cA)
  (hs:∀x,foldedSetIterable er X.env x=pure x:=by intro _;rfl):
  PE X (.ListComp e9 [⟨cO,er,ifs,0⟩] b8 pos) (uu xs.length ix eA g dq cA):=by
 intro a' s af H Q I h;obtain⟨ck,mG,eu,hh⟩:=VC I.ok S;rw[eval_ListComp];refine wpAny_comprehension_free (use:=none) rfl hs mG S.kind S.names (thn (hi a' s af H _ I h) λv bw bj=>thn bj λnE bU bp=>?_);obtain⟨it,fp,dY,J,bv,e,cF,T,kB,f2,cv⟩:=bp;subst e;refine ZcO (RR:=λc1 C=>compPost (model X.prog X.w) X.A X.xe none (EP X a' af Q) c1 C) bu S cF eu hh T kB f2 (λC s H=>d5 ck C s H fp) cv λc1 C f bz h=>?_;obtain⟨p,ae,m,rfl,bA,e2,⟨dL,g1,g2,g3,gZ,mH⟩,q⟩:=h;exact⟨m,bA,λh' a_=>⟨.ref p,ae,e2.turned (t':=bz.toks) (λb o eR e=>(a_.2 b eR).trans e) dL g1 g3 gZ mH,rfl,q⟩⟩
theorem uv{e9 cO er:Expr}{ifs:List Expr}{b8:Scope}{pos py pw:Pos}{x y:Str}{xs:List Str}{zs:List Str}{ix:List Nat}{eA:TI}{g:TG}{dq:TT}{cA:TE}{j:Nat}
  (bu:X.calm=true) (S:Y3 X b8 x zs ix) (hi:PI X cO er eA)
  (d5:∀ck C s H fp,PG (Zl X b8 ck C (xs++zs) s H fp) cO g∧PIf (Zl X b8 ck C (xs++zs) s H fp) ifs dq∧PE (Zl X b8 ck C (xs++zs) s H fp) e9 cA)
  (ed:X.N.Nodup) (bC:X.N[j]? =some y) (bR:Loc X.env.scope y)
  (uh:swapsWith (.ListComp e9 [⟨cO,er,ifs,0⟩] b8 pos) (some (.Name y py)) pw.line X.env=pure true:=by rfl)
  (bJ:X.fn y=true∨X.env.scope.names.lookup y=some .local:=by first|exact .inl rfl|exact .inr rfl|assumption)
  (hs:∀x,foldedSetIterable er X.env x=pure x:=by intro _;rfl):
  PS X (.Assign [.Name y py] (.ListComp e9 [⟨cO,er,ifs,0⟩] b8 pos) pw) (oX (uu xs.length ix eA g dq cA) (V9 j)):=by
 intro a' s af H D I h;obtain⟨ck,mG,eu,hh⟩:=VC I.ok S;rw[exec_Assign_Name_used _ _ _ _ uh];refine wpAny_bind (wpAny_standAt (wpAny_bind ?_));show wpAny _ X.A (do let _←comprehension (.ListComp e9 [⟨cO,er,ifs,0⟩] b8 pos) b8 X.env _ (newList []) false (eval er X.env) (some (assign (.Name y py) X.env))) _ _ s;refine wpAny_bind (wpAny_mono (wpAny_comprehension_free (use:=some (assign (.Name y py) X.env)) (Q:=λ_ bz=>SP X a' D .next bz) rfl hs mG S.kind S.names
  (thn (hi a' s af H _ I h) λv bw bj=>thn bj λnE bU bp=>?_)) (λ_ bz cv=>wpAny_pure (wpAny_pure cv)) λ_ _ e=>e)
 obtain⟨it,fp,dY,J,bv,e,cF,T,kB,f2,cv⟩:=bp;subst e;refine ZcO (Q:=λx bn=>V9 j x af bn D.nx) (RR:=λc1 C=>compPost (model X.prog X.w) X.A X.xe (some (assign (.Name y py) X.env)) (λ_ bz=>SP X a' D .next bz) c1 C) bu S cF eu hh T kB f2 (λC s H=>d5 ck C s H fp) cv λc1 C f bz h=>?_;obtain⟨p,ae,m,rfl,bA,e2,⟨dL,g1,g2,g3,gZ,mH⟩,q⟩:=h;show wpAny _ X.A (assign (.Name y py) X.env (.ref p)) _ _ _;refine wpAny_assign_Name (tt e2 ed bC bR (show cE (.ref p) (.ref p) from rfl) (λmr I'' ⟨c,ui,nz⟩=>?_) bJ);have eR:C≠c:=by
  rcases nz with z|z
  ·rw[z];exact g1
  ·exact qbH (gZ _ _ z)
 exact⟨m,bA.sameBut ui eR,λh' a_=>⟨_,ae,I''.turned (t':=mr.toks) (λb o eR e=>(a_.2 b eR).trans e) dL g1 g3 gZ mH,q⟩⟩
end
structure VP(J:It)(n:Nat)(y:Nat→Hp→V→Hp→Prop)(H:Hp):Prop where
 go:∀ae i,Ze H ae→i<n→J.go i ae
 yld:∀ae i x bv,Ze H ae→i<n→J.yld i ae x bv→y i ae x bv
 stop:∀ae,Ze H ae→J.stop n ae
theorem Walks.y{J:It}{n:Nat}{f:Nat→V}{H:Hp}(w:Walks J n f H):VP J n (λi ae v bv=>bv=ae∧v=f i) H:=⟨w.go,w.yld,w.stop⟩
theorem pJ{K:Frag}{a:Addr}{xs:List V}{H:Hp}(h:SqL K H a xs):VP (Ite K a) xs.length (λi ae v bv=>∃t,ae t=none∧v= .ref t∧bv=upd ae t (.tup [.int i,xs.getD i .non])) H:=
 ⟨λae i e hi=>⟨xs,xs[i],e.seq h,by simp[hi]⟩,λae i x bv e hi ⟨t,z,b3,b_,bp,hz⟩=>⟨t,b3,b_,by
  have:=hz xs (e.seq h);rw[bp];simp[List.getD,this]⟩,λae e=>⟨xs,e.seq h,qaa _⟩⟩
theorem YO{own:Nat}{ix:List Nat}{g:TG}{dq:TT}{cA:TE}{Q:Addr→Hp→Prop}{af:St}{H:Hp}{J:It}{n:Nat}{y:Nat→Hp→V→Hp→Prop}(w:VP J n y H)(bO:n<sizeLine)(s:Nat→List (Option V))(hs:∀i,(s i).length=own)(c:Nat→Bool)(R:Nat→V→Hp→Prop)
  (mono:∀i v bn bv,Ze bn bv→R i v bn→R i v bv)
  (bH:∀i a ae v bv (hD:St→Hp→Prop),i<n→Ze H ae→y i ae v bv→a.length=own→(∀b9,Ze ae b9→hD (s i++ix.map λj=>(af[j]?).join) b9)→g v (a++ix.map λj=>(af[j]?).join) bv hD)
  (bu:∀i ae (c4:Bool→Hp→Prop),i<n→Ze H ae→(∀b7,Ze ae b7→c4 (c i) b7)→dq (s i++ix.map λj=>(af[j]?).join) ae c4)
  (bL:∀p i ae (c4:VK),i<n→c i=true→H p=none→(∃ys,ae p=some (.lst ys))→Ze H ae→(∀v b1,Ze ae b1→R i v (hid b1 p)→c4 v b1)→cA (s i++ix.map λj=>(af[j]?).join) ae c4)
  (q:∀p ae ys,H p=none→Ze H ae→ae p=some (.lst ys)→Paired (λi v=>R i v (hid ae p)) ((List.range n).filter c) ys→Q p ae):
  ∀p,H p=none→∃W:Nat→Nat→List V→St→Hp→Prop,(∃m,W 0 m [] (lE own ix af) (upd H p (.lst [])))∧∀i m ys bW ae,W i m ys bW ae→
   (J.stop i ae∧Q p ae)∨(J.go i ae∧∀x bv,J.yld i ae x bv→g x bW bv λda b9=>dq da b9 λb b7=>
    if b=true then cA da b7 λv b1=>b1 p=some (.lst ys)∧ys.length<sizeLine∧∃cr,cr<m∧W (i+1) cr (ys++ [v]) da (upd b1 p (.lst (ys++ [v])))
    else ∃cr,cr<m∧W (i+1) cr ys da b7):=by
 intro p bD;have zd:∀{bn bv:Hp},Ze bn bv→Ze (hid bn p) (hid bv p):=λ{bn bv} e b o z=>by
  by_cases h:b=p
  ·rw[h,nW] at z;cases z
  ·rw[Yy h] at z⊢;exact e b o z
 have ze:∀{bn:Hp}{o:HO},Ze (hid bn p) (hid (upd bn p o) p):=λ{bn o} b u z=>by
  by_cases h:b=p
  ·rw[h,nW] at z;cases z
  ·rw[Yy h] at z⊢;rw[b5 h];exact z
 refine⟨λi m ys bW ae=>m=n-i∧i≤n∧(∃a,a.length=own∧bW=a++ix.map λj=>(af[j]?).join)∧Ze H ae∧ae p=some (.lst ys)∧Paired (λi v=>R i v (hid ae p)) ((List.range i).filter c) ys,
  ⟨n,by simp,qau _,⟨List.replicate own none,qbi,rfl⟩,cK bD,Zd,.nil⟩,?_⟩
 rintro i m ys bW ae ⟨rfl,hi,⟨a,bF,rfl⟩,bV,bR,aj⟩
 by_cases cJ:i<n
 ·refine .inr ⟨w.go ae i bV cJ,λx bv pK=>?_⟩;have eg:ys.length≤i:=by
   rw[←Paired.length aj];exact qal (qaK _ _) (by simp)
  refine bH i a ae x bv _ cJ bV (w.yld ae i x bv bV cJ pK) bF λb9 bS=>?_;refine bu i b9 _ cJ (bV.trans bS) λb7 ca=>?_;have mK:=(bV.trans bS).trans ca;have nU:=ca _ _ (bS _ _ bR);have step:(List.range (i+1)).filter c=(List.range i).filter c++(if c i=true then[i] else[]):=by
   rw[qbG,qbQ]
   congr 1
   by_cases h:c i=true<;>simp[h]
  have iL:Paired (λi v=>R i v (hid b7 p)) ((List.range i).filter c) ys:=Paired.mapP aj λ_ _ z=>mono _ _ _ _ (zd (bS.trans ca)) z
  by_cases i6:c i=true
  ·rw[i6,if_pos rfl];refine bL p i b7 _ cJ i6 bD ⟨ys,nU⟩ mK λv b1 cC oY=>⟨cC _ _ nU,by omega,n-(i+1),by omega,rfl,cJ,⟨s i,hs i,rfl⟩,(mK.trans cC).new bD,Zd,?_⟩;rw[step,if_pos i6];exact Paired.snoc (Paired.mapP iL λ_ _ z=>mono _ _ _ _ ((zd cC).trans ze) z) (mono _ _ _ _ ze oY)
  ·have pC:c i=false:=by simpa using i6
   rw[pC,if_neg qai];refine⟨n-(i+1),by omega,rfl,cJ,⟨s i,hs i,rfl⟩,mK,nU,?_⟩;rw[step,if_neg i6,qb7];exact iL
 ·have e:i=n:=by omega
  subst e;exact .inl ⟨w.stop ae bV,q p ae ys bD bV bR aj⟩
theorem zf{H:Hp}{p u:Addr}{o:HO}(h:∃ys,H p=some (.lst ys))(hu:H u=none):hid (upd H u o) p u=some o:=by
 have n:u≠p:=λz=>by
  obtain⟨ys,e⟩:=h;rw[←z,hu] at e;cases e
 rw[Yy n,Zd]
theorem uw{H ae:Hp}{p u:Addr}{o:HO}(h:∃ys,H p=some (.lst ys))(hu:H u=none)(fw:ae u=some o):hid ae p u=some o:=by
 have n:u≠p:=λz=>by
  obtain⟨ys,e⟩:=h;rw[←z,hu] at e;cases e
 rw[Yy n,fw]
theorem ZfY{H ae:Hp}{p b:Addr}{xs:List V}(h:∃ys,H p=some (.lst ys))(s:Ze H ae)(e:ae b=some (.tup xs)):hid ae p b=some (.tup xs):=by
 have n:b≠p:=λz=>by
  obtain⟨ys,cf⟩:=h;rw[z,s _ _ cf] at e;cases e
 rw[Yy n,e]
theorem ru{R:Nat→V→Hp→Prop}{H:Hp}{r:Nat→V}(h:∀i v,R i v H→v=r i):∀{is:List Nat}{ys:List V},Paired (λi v=>R i v H) is ys→ys=is.map r
 |_,_,.nil=>rfl
 |_,_,.cons a t=>by rw[h _ _ a,ru h t];rfl
theorem WF{J:It}{n:Nat}{y:Nat→Hp→V→Hp→Prop}{H0:Hp}(w:VP J n y H0){g:TG}{cP:TS}{D:Vw}{af:St}{H:Hp}(Pv:Nat→St→Hp→Prop)(cd:Pv 0 af H)(bt:∀i af H,Pv i af H→Ze H0 H)
  (hs:∀i af H v ae,i<n→Pv i af H→y i H v ae→g v af ae λda bv=>cP {D with nx:=Pv (i+1),ct:=Pv (i+1),bk:=D.nx} da bv) (hd:∀af H,Pv n af H→D.nx af H):
  ∃W:Nat→Nat→St→Hp→Prop,(∃m,W 0 m af H)∧∀i m af H,W i m af H→
   (J.stop i H∧D.nx af H)∨(J.go i H∧∃N:St→Hp→Prop,(∀bW ae,N bW ae→∃cr,cr<m∧W (i+1) cr bW ae)∧∀x ae,J.yld i H x ae→g x af ae λda bv=>cP {D with nx:=N,ct:=N,bk:=D.nx} da bv):=by
 refine⟨λi m af H=>m=n-i∧i≤n∧Pv i af H,⟨n,by simp,qau _,cd⟩,?_⟩;rintro i m af H ⟨rfl,hi,p⟩;have bV:=bt i af H p
 by_cases cJ:i<n
 ·exact .inr ⟨w.go H i bV cJ,Pv (i+1),λbW ae gW=>⟨n-(i+1),by omega,rfl,cJ,gW⟩,λx ae pK=>hs i af H x ae cJ p (w.yld H i x ae bV cJ pK)⟩
 ·have e:i=n:=by omega
  subst e;exact .inl ⟨w.stop H bV,hd af H p⟩
namespace Rd
section
variable {af:St}{H:Hp}{Q:VK}{D:Vw}{K:Frag}
theorem Znk{n:Nat}{ix:List Nat}{eA:TI}{g:TG}{dq:TT}{cA:TE}(h:eA af H λJ bn=>∀p,bn p=none→
 ∃W:Nat→Nat→List V→St→Hp→Prop,(∃m,W 0 m [] (lE n ix af) (upd bn p (.lst [])))∧∀i m ys bW ae,W i m ys bW ae→
  (J.stop i ae∧Q (.ref p) ae)∨(J.go i ae∧∀x bv,J.yld i ae x bv→g x bW bv λda b9=>dq da b9 λb b7=>
   if b=true then cA da b7 λv b1=>b1 p=some (.lst ys)∧ys.length<sizeLine∧∃cr,cr<m∧W (i+1) cr (ys++ [v]) da (upd b1 p (.lst (ys++ [v])))
   else ∃cr,cr<m∧W (i+1) cr ys da b7)):uu n ix eA g dq cA af H Q:=h
theorem Zol{fk:TA}{R:It→Hp→Prop}(h:fk af H λvs bn=>∃a,vs=[.ref a]∧(∃xs,SqL K bn a xs)∧R (Ite K a) bn):zc K fk af H R:=h
theorem Znz{a:Addr}{xs:List V}{G:Addr→Prop}(h:SqL K H a xs)(q:G a):∃dA,[V.ref a]=[.ref dA]∧(∃xs,SqL K H dA xs)∧G dA:=⟨a,rfl,⟨xs,h⟩,q⟩
theorem Zpa(h:∀p,H p=none→Q (.ref p) (upd H p (.dK []))):tDNewK af H Q:=h
theorem Zo7{a:Addr}{kvs:List (Key×V)}{x:Str}(h:H a=some (.dK kvs))(q:Q (.bl (valV kvs (Sum.inr x)).isSome) H):rDIn (.str x) (.ref a) H Q:=⟨a,_,rfl,ih.k (k:=Sum.inr x) h,q⟩
theorem Zoj{a:Addr}{kvs:List (Key×V)}{x:Int}(h:H a=some (.dK kvs))(q:Q (.bl (!(valV kvs (Sum.inl x)).isSome)) H):rDNotIn (.int x) (.ref a) H Q:=⟨a,_,rfl,ih.k (k:=Sum.inl x) h,q⟩
theorem Zlw{a:Addr}{kvs:List (Key×V)}{x:Int}{v:V}(h:H a=some (.dK kvs))(e:valV kvs (Sum.inl x)=some v)(q:Q v H):rIxD (.ref a) (.int x) H Q:=⟨a,v,rfl,by rw[←e];exact ih.k (k:=Sum.inl x) h,q⟩
theorem Zon{a:Addr}{kvs:List (Key×V)}{x:Str}{v:V}{Q:Hp→Prop}(h:H a=some (.dK kvs))(aj:kvs.length<sizeLine)(q:Q (upd H a (.dK (e8 kvs (Sum.inr x) v)))):rSetD (.ref a) (.str x) v H Q:=⟨a,_,rfl,Zer.k (k:=Sum.inr x) h aj,q⟩
theorem Zoe{a:Addr}{kvs:List (Key×V)}{x:Int}{v:V}{Q:Hp→Prop}(h:H a=some (.dK kvs))(aj:kvs.length<sizeLine)(q:Q (upd H a (.dK (e8 kvs (Sum.inl x) v)))):rSetD (.ref a) (.int x) v H Q:=⟨a,_,rfl,Zer.k (k:=Sum.inl x) h aj,q⟩
theorem ZoB{a:Addr}{kvs:List (Key×V)}(h:H a=some (.dK kvs))(q:Q (.int kvs.length) H):rLenD [.ref a] H Q:=⟨a,kvs,rfl,h,q⟩
theorem Zoi{a:Addr}{kvs:List (Key×V)}(h:H a=some (.dK kvs))(q:∀l,H l=none→Q (.ref l) (upd H l (.lst (kvs.map λkv=>kV kv.1)))):rListD [.ref a] H Q:=⟨a,kvs,rfl,h,q⟩
theorem slT{a:Addr}{xs:List V}{lo hi:Option Int}(h:SqT K H a xs)(hw:¬(HT.sIx xs.length 0 lo=0∧HT.sIx xs.length xs.length hi=xs.length))(q:∀p,H p=none→Q (.ref p) (upd H p (.tup (hB xs lo hi)))):rj K (.ref a) lo hi H Q:= .inr (.inl ⟨a,xs,rfl,h,hw,q⟩)
theorem ZmR{cm cY gV:R2}{a b:Addr}{xs ys:List V}(bF:SqT K H a xs)(a_:SqT K H b ys)(bj:xs≠[])(bp:ys≠[])(aj:xs.length+ys.length≤sizeLine)(q:∀p,H p=none→Q (.ref p) (upd H p (.tup (xs++ys)))):
  rOr cm (rOr cY (rOr gV (pa K))) (.ref a) (.ref b) H Q:= .inr (.inr (.inr ⟨a,b,xs,ys,rfl,rfl,bF,a_,bj,aj,λz=>absurd z bp,λ_=>q⟩))
theorem ZoH{to ti cA:TE}{mi:V→V→Hp→VK→Prop}{mj:TIp}{ml:Zdw}(h:to af H λo bn=>ti af bn λi bv=>mi o i bv λx b9=>cA af b9 λy b7=>mj x y b7 λz b1=>ml o i z b1 λcR=>D.nx af cR):yf to ti cA mi mj ml D af H:=h
theorem ipi{f:Int→Int→Int}{i j:Int}(q:Q (.int (f i j)) H):ipI f (.int i) (.int j) H Q:=⟨i,j,rfl,rfl,q⟩
end
end Rd
section
variable {X:Cx}
theorem G_:ZkX X (ZeI X.K):=by
 intro a' s af H o i ds fD Q I ro ri h;obtain⟨p,xs,k,z,rfl,rfl,cv,bL,q⟩:=h;cases ro;obtain⟨t,rfl⟩:=ri;obtain⟨its,r,pl,hz⟩:=I.list cv;obtain⟨j,bj,bp,bT,cy,dJ⟩:=Zcy bL;obtain⟨w,gD,iF⟩:=r.get bp;have aj:=r.length;have bO:=kD;have d4:EP X a' af Q w s:=⟨z,H,I,iF,q⟩
 by_cases cd:0≤k
 ·have bC:k.toNat=j:=by
   rw[seqIndex_of cd dJ] at bj;exact qan bj
  exact wpAny_getItem_list pl.isList cd (by omega) (by rw[bC];simpa using gD) d4
 ·have bC:(k+(its.toArray.size:Int)).toNat=j:=by
   rw[seqIndex_neg (by omega) cy] at bj;rw[qaf,←aj];exact qan bj
  exact wpAny_getItem_list_neg pl.isList (by omega) (by rw[qaf]<;>omega) (by omega) (by rw[bC];simpa using gD) d4
theorem ux{K:Frag}(e:X.K=K):ZkX X (ZeI K):=e▸G_
end
section
variable {X:Cx}{K:Frag}
noncomputable def zg (bX:TA):TE:=λaf H Q=>bX af H λvs bn=>∃n:Nat,vs=[.int n]∧n≤2 ^ 24∧∀l,bn l=none→Q (.ref l) (upd bn l (.lst ((List.range n).map λi:Nat=>V.int i)))
theorem G'{a:Expr}{bX:TA}{p dZ pos mQ:Pos}(bu:X.calm=true)(hE:Gl X "list")(iM:X.mg "list" =none)(bH:Gl X "range")(bA:X.mg "range" =none)(bF:PA X [a] bX)
  (hs:starEach [a] X.env=[(false,eval a X.env)]:=by rfl)
  (bL:starEach [Expr.Call (.Name "range" p) [a] [] pos] X.env=(false,eval (.Call (.Name "range" p) [a] [] pos) X.env)::starEach [] X.env:=by rfl):
  PE X (.Call (.Name "list" dZ) [.Call (.Name "range" p) [a] [] pos] [] mQ) (zg bX):=by
 intro a' s af H Q I h;refine wpAny_Call_Name_kw (ht I hE iM boot_list ?_);refine qaD ?_ bL rfl;rw[bL];show wpAny _ _ (spliced ((false,eval (.Call (.Name "range" p) [a] [] pos) X.env):: [])) _ _ s;refine Calls.spliced_cons (Call_ (ht I bH bA boot_range (qaD (thn (bF pos a' s af H _ I h) λus bw ⟨vs,bn,bM,cm,cg⟩=>?_) hs rfl)));obtain⟨n,e,bO,q⟩:=cg;subst e;obtain⟨u,rfl,t,rfl⟩:=Wr cm;refine call_range_1 (Calls.spliced_nil ?_);refine call_list_range (bM.ok.hd bu) (IsRange.new ..) (small_one (by omega) (by omega) (by omega) (by omega)) (n:=n) (by rw[rangeSize_one];split<;>omega) bO λh' bY c1 cZ bt di hk=>?_;have cF:Inv X a' af bn {bw with heap:=bw.heap.push {cls:= .type "range",data:= .fields #[.int 0 bw.toks,.int n t,.int 1 (bw.toks+1)]},toks:=bw.toks+1+1}:=bM.kept λb o e=>Heap.get?_push_of_some _ e;have hz:((List.range n).map λi:Nat=>V.int i).length≤sizeLine:=by
  rw[GE,qbt,sizeLine_eq];omega
 refine⟨.ref (bw.heap.push {cls:= .type "range",data:= .fields #[.int 0 bw.toks,.int n t,.int 1 (bw.toks+1)]}).objs.size,_,cF.laid (a:=(bw.heap.push {cls:= .type "range",data:= .fields #[.int 0 bw.toks,.int n t,.int 1 (bw.toks+1)]}).objs.size) (o:= .lst ((List.range n).map λi:Nat=>V.int i)) (t':=bY) bt (qaa _) ⟨hz,c1.toList,cZ,?_,by simpa using di⟩,rfl,q _ (cF.hok.fresh (qaa _))⟩;refine pH (by rw[qaV,hk.1,GE,qbt]) λj v u bG bK=>?_;obtain⟨Ha,bC⟩:=hk.2 j u (by rw[←qa7];exact bK);have uy:j<n:=by
  have:=(FM.mp bG).1;simpa using this
 rw[qaj,List.getElem?_range uy] at bG;cases bG;rw[bC];exact⟨Ha,by simp⟩
end
namespace Rd
section
variable {af:St}{H:Hp}{Q:VK}{K:Frag}
theorem ZoS{bX:TA}(h:bX af H λvs bn=>∃n:Nat,vs=[.int n]∧n≤2 ^ 24∧∀l,bn l=none→Q (.ref l) (upd bn l (.lst ((List.range n).map λi:Nat=>V.int i)))):zg bX af H Q:=h
theorem rep{r:R2}{l:Addr}{k:Int}{xs:List V}(h:H l=some (.lst xs))(cd:0≤k)(bj:k<1000)(hz:xs.length*k.toNat≤sizeLine)(q:∀p,H p=none→Q (.ref p) (upd H p (.lst (List.replicate k.toNat xs).flatten))):rOr r rRep (.ref l) (.int k) H Q:=
 .inr ⟨l,k,xs,rfl,rfl,h,by omega,by omega,hz,q⟩
end
end Rd
theorem Za0(ns ms:List Int):PyData.eqv (.list (ns.map PyData.int)) (.list (ms.map PyData.int))=decide (ns=ms):=by
 have h:∀ns ms:List Int,PyData.eqvAll (ns.map PyData.int) (ms.map PyData.int)=decide (ns=ms):=by
  intro ns
  induction ns with
  |nil=>intro ms;cases ms<;>simp[PyData.eqvAll]
  |cons n ns bQ=>
   intro ms;cases ms with
   |nil=>simp[PyData.eqvAll]
   |cons m ms=>
    simp only[List.map_cons,PyData.eqvAll,PyData.eqv,bQ]
    by_cases e:n=m
    ·subst e;simp
    ·simp[e]
 simp only[PyData.eqv];exact h ns ms
section
variable {X:Cx}
noncomputable def rUpdD:V→List V→Hp→VK→Prop:=λx vs H Q=>∃a b kvs more,x= .ref a∧vs=[.ref b]∧a≠b∧H a=some (.dK kvs)∧H b=some (.dK more)∧kvs.length+more.length≤sizeLine∧Q .non (upd H a (.dK (f' kvs more)))
theorem Hb:MtR X "dict.update" rUpdD:=by
 intro a' s af H x xs v us Q I bZ rs h;obtain⟨a,b,kvs,more,rfl,rfl,ne,bF,a_,aj,q⟩:=h;cases bZ;obtain⟨u,rfl,d_⟩:=Wr rs;cases d_;obtain⟨z,hd,vs,rel,dd⟩:=Zcq I.hok bF;obtain⟨cI,hT,Hd,zh,q0⟩:=Zcq I.hok a_;refine call_meetsIn PySem.F.slot_dict_update dd.typeIs PySem.F.entry_dict_update (PySem.F.args_dict_update_2 _ _) (meets_dict_update (ec X.prog X.w) a b ne hT) ⟨vs,Hd,dd,q0,by rw[←rel.length,←zh.length];exact aj,λh' dd' _ hs=>?_⟩;have bA:=ra more kvs;have bL:∃q,h'.get? a=some q:=let⟨q,_,_,cv,_⟩:=dd';⟨q,cv⟩
 exact⟨.non,_,q_ (t':=s.toks) I (by rw[bF];exact True.intro) hs bL (tX (by omega) hd (zh.merge rel) dd'),rfl,q⟩
end
section
variable {X:Cx}
end
theorem Zii{own:Nat}{ix:List Nat}{g:TG}{dq:TT}{Q:Addr→Hp→Prop}{af:St}{H:Hp}{J:It}{n:Nat}{y:Nat→Hp→V→Hp→Prop}(w:VP J n y H)(bO:n<sizeLine)(s:Nat→List (Option V))(hs:∀i,(s i).length=own)
  (bH:∀i a ae v bv (hD:St→Hp→Prop),i<n→Ze H ae→y i ae v bv→a.length=own→(∀b9,Ze ae b9→hD (s i++ix.map λj=>(af[j]?).join) b9)→g v (a++ix.map λj=>(af[j]?).join) bv hD)
  (bu:∀i ae (c4:Bool→Hp→Prop),i<n→Ze H ae→c4 true ae→dq (s i++ix.map λj=>(af[j]?).join) ae c4)
  (q:∀p ae (cn:List Addr),H p=none→Ze H ae→ae p=some (.lst (cn.map V.ref))→cn.length=n→cn.Nodup→(∀x∈cn,H x=none∧x≠p∧ae x=some (.lst []))→Q p ae):
  ∀p,H p=none→∃W:Nat→Nat→List V→St→Hp→Prop,(∃m,W 0 m [] (lE own ix af) (upd H p (.lst [])))∧∀i m ys bW ae,W i m ys bW ae→
   (J.stop i ae∧Q p ae)∨(J.go i ae∧∀x bv,J.yld i ae x bv→g x bW bv λda b9=>dq da b9 λb b7=>
    if b=true then tI tNil da b7 λv b1=>b1 p=some (.lst ys)∧ys.length<sizeLine∧∃cr,cr<m∧W (i+1) cr (ys++ [v]) da (upd b1 p (.lst (ys++ [v])))
    else ∃cr,cr<m∧W (i+1) cr ys da b7):=by
 intro p bD;refine⟨λi m ys bW ae=>m=n-i∧i≤n∧(∃a,a.length=own∧bW=a++ix.map λj=>(af[j]?).join)∧Ze H ae∧∃cn:List Addr,ys=cn.map V.ref∧ae p=some (.lst (cn.map V.ref))∧cn.length=i∧cn.Nodup∧∀x∈cn,H x=none∧x≠p∧ae x=some (.lst []),
  ⟨n,by simp,qau _,⟨List.replicate own none,qbi,rfl⟩,cK bD,[],rfl,Zd,rfl,.nil,by simp⟩,?_⟩
 rintro i m ys bW ae ⟨rfl,hi,⟨a,bF,rfl⟩,bV,cn,rfl,bR,cs,eE,kS⟩
 by_cases cJ:i<n
 ·refine .inr ⟨w.go ae i bV cJ,λx bv pK=>?_⟩;refine bH i a ae x bv _ cJ bV (w.yld ae i x bv bV cJ pK) bF λb9 bS=>?_;refine bu i b9 _ cJ (bV.trans bS) ?_;rw[if_pos rfl];show(0:Nat)≤sizeLine∧_;refine⟨qau _,λu hu=>?_⟩;have zi:=bV.trans bS;have zj:=bS _ _ bR;have zk:u≠p:=λz=>by rw[z,zj] at hu;cases hu
  have ca:Ze b9 (upd b9 u (.lst [])):=cK hu;refine⟨ca _ _ zj,by rw[GE];omega,n-(i+1),by omega,rfl,cJ,⟨s i,hs i,rfl⟩,(zi.trans ca).new bD,cn++ [u],by simp,by rw[Zd];simp,by simp[cs],?_,λx bo=>?_⟩
  ·refine qbz.mpr ⟨eE,by simp,λx bo z hz=>?_⟩;rw[qac.mp hz];intro e;have:=bS _ _ (kS x bo).2.2;rw[e,hu] at this;cases this
  ·rcases qaH.mp bo with z|z
   ·obtain⟨bj,bp,bT⟩:=kS x z;exact⟨bj,bp,by rw[b5 bp];exact ca _ _ (bS _ _ bT)⟩
   ·rw[qac.mp z];refine⟨?_,zk,by rw[b5 zk,Zd]⟩;cases e:H u with
    |none=>rfl
    |some o=>rw[zi _ _ e] at hu;cases hu
 ·have e:i=n:=by omega
  subst e;exact .inl ⟨w.stop ae bV,q p ae cn bD bV bR cs eE kS⟩
namespace Rd
section
variable {H:Hp}{Q:VK}
theorem Zo0{a b:Addr}{kvs more:List (Key×V)}(ne:a≠b)(bF:H a=some (.dK kvs))(a_:H b=some (.dK more))(aj:kvs.length+more.length≤sizeLine)(q:Q .non (upd H a (.dK (f' kvs more)))):rUpdD (.ref a) [.ref b] H Q:=⟨a,b,kvs,more,rfl,rfl,ne,bF,a_,aj,q⟩
end
end Rd
section
variable {X:Cx}{a':List (Addr×Obj)}{af:St}{H:Hp}{s:Shared}
theorem Inv.freeze{a:Addr}{kvs:List (Key×V)}(I:Inv X a' af H s)(e:Rd H a (.dK kvs)):∃o,s.heap.get? a=some o∧Inv X a' af (upd H a (.frz o (.dK kvs))) s:=by
 have ok:Z0 X.prog X.w H s.heap a (.dK kvs):=e.ok I.hok;rcases e with e|⟨o,e⟩
 ·obtain⟨_,_,vs,_,dd⟩:=Zcq I.hok e;obtain⟨ep,d6⟩:=dd.dictAt;obtain⟨o,bE,bI,_⟩:=id d6;exact⟨o,bI,I.write (x:=a) (e:=a) (o:= .frz o (.dK kvs)) (t':=s.toks) (by rw[e];exact True.intro) (.inl rfl) (λb u _ q=>q) ⟨o,bI⟩ ⟨bI,ok⟩⟩
 ·have bo:upd H a (.frz o (.dK kvs))=H:=by
   funext b
   by_cases z:b=a
   ·rw[z,Zd,e]
   ·rw[b5 z]
  exact⟨o,(show Z0 X.prog X.w H s.heap a (.frz o (.dK kvs)) from I.hok a _ e).1,by rw[bo];exact I⟩
theorem KV.fwd{kvs:List (Key×V)}{vs:List (Key×Value)}(r:KV kvs vs):∀{j:Nat}{kv:Key×V},kvs[j]? =some kv→∃u,vs[j]? =some (kv.1,u)∧cE kv.2 u:=by
 unfold KV at r
 induction r with
 |nil=>intro j kv e;simp at e
 | @cons p q b' qs h t bQ=>
  intro j kv e;cases j with
  |zero=>
   simp at e;subst e;obtain⟨cg,c7⟩:=q;exact⟨c7,by simp[h.1],h.2⟩
  |succ j=>
   obtain⟨u,bj,bp⟩:=bQ (j:=j) (kv:=kv) (by simpa using e);exact⟨u,by simpa using bj,bp⟩
end
noncomputable def Itv (d:Addr) (o:Obj) (kvs:List (Key×V)):It:=
 ⟨λi H=>H d=some (.frz o (.dK kvs))∧i<kvs.length,λi H x ae=>ae=H∧∃kv,kvs[i]? =some kv∧x=kv.2,λi H=>H d=some (.frz o (.dK kvs))∧kvs.length≤i⟩
noncomputable def Itp (d:Addr) (o:Obj) (kvs:List (Key×V)):It:=
 ⟨λi H=>H d=some (.frz o (.dK kvs))∧i<kvs.length,λi H x ae=>∃t kv,kvs[i]? =some kv∧H t=none∧x= .ref t∧ae=upd H t (.tup [kV kv.1,kv.2]),λi H=>H d=some (.frz o (.dK kvs))∧kvs.length≤i⟩
theorem He:entryFor table "dict_itemiterator.__iter__" =some Builtin.«dict_keyiterator.__iter__»:=entryFor_alias (id':="dict_keyiterator.__iter__") (by kernel_rfl) rfl (by decide+kernel) (by kernel_rfl)
theorem Zfv{P:Program}{w:World}{A:Around}{E:Value→Shared→Prop}{s:Shared}{it d:Addr}{i n ep:Nat}{ok ds:Value}{Q:Value→Shared→Prop}(dQ:IsItemIter s.heap it d i n ep ok ds)(h:Q (.ref it) s):wpAny (model P w) A (pyIter (.ref it)) Q E s:=by
 have ty:s.TypeIs (.ref it) "dict_itemiterator" :=⟨_,dQ,rfl⟩;refine wpAny_pyIter_slot ty PySem.F.slot_dict_itemiterator_iter (wpAny_call_entry PySem.F.slot_dict_itemiterator_iter ty He (show wpAny _ _ (ret (Value.ref it)) _ _ s from wpAny_pure ⟨_,rfl,"dict_itemiterator",_,ty,PySem.F.slot_dict_itemiterator_next.lookup,h⟩) (PySem.F.args_dict_itemiterator_iter_1 _))
section
variable {P:Program}{w:World}{K:Frag}
theorem Hf{cO:Expr}(d it:Addr)(o:Obj)(kvs:List (Key×V))(vs:List (Key×Value))(ep:Nat)(rel:KV kvs vs)(hd:∀h:Heap,h.get? d=some o→h.DictAt (ec P w) d vs ep):Um P w K cO (Itv d o kvs) [it] it (λi h=>h.IsValIter it d i vs.length ep) where
 mem:=by simp
 obj:=λi h st b a_=>by
  have e:b=it:=by simpa using a_
  subst e;obtain⟨o,e,c,dd⟩:=st;exact⟨o,e,λv z=>by rw[dd] at z;cases z⟩
 keep:=λi h h' st k=>st.at λo q=>k it (by simp) o q
 item:=by
  intro X dU hw d9 bu i a' s af H E I bJ st bH;subst dU hw d9;obtain⟨bL,hi⟩:=bH;have bI:=(show Z0 X.prog X.w H s.heap d (.frz o (.dK kvs)) from I.hok d _ bL).1;obtain⟨dG,f1,f2,df,es,dV⟩:=bJ it (by simp);obtain⟨u,hu,d_⟩:=rel.fwd (GT hi);refine wpAny_pyNext_values_item st (hd _ bI) hu λh' h_ hP=>?_;have bM:Inv X a' af H {s with heap:=h',toks:=s.toks}:=I.turned (t':=s.toks) (λb q a_ e=>(hP.2 b a_).trans e) dG f1 df es dV;obtain⟨q,e,c,dd⟩:=id h_;exact⟨_,rfl,o1 (s:={s with heap:=h',toks:=s.toks}) e c dd (by decide) ⟨_,H,bM,d_,⟨rfl,kvs[i],GT hi,rfl⟩,h_,λb a_=>(bJ b a_).1⟩⟩
 done:=by
  intro X dU hw d9 bu i a' s af H E I bJ st bH;subst dU hw d9;obtain⟨bL,hi⟩:=bH;have bI:=(show Z0 X.prog X.w H s.heap d (.frz o (.dK kvs)) from I.hok d _ bL).1;obtain⟨dG,f1,f2,df,es,dV⟩:=bJ it (by simp);exact wpAny_pyNext_values_end (I.ok.hd bu) st (hd _ bI) (qaU (by rw[←rel.length];exact hi)) λh' cV=>⟨rfl,I.turned (t':=s.toks) (λb q a_ e=>cV b q a_ e) dG f1 df es dV⟩
 self:=λ_ _ _ _ _ st h=>wpAny_pyIter_valiter st h
theorem Hg{jy:List Expr}{k1:Nat}{pos:Pos}(d it:Addr)(o:Obj)(kvs:List (Key×V))(vs:List (Key×Value))(ep:Nat)(rel:KV kvs vs)(hd:∀h:Heap,h.get? d=some o→h.DictAt (ec P w) d vs ep):
  Um P w K (.Tuple jy k1 pos) (Itp d o kvs) [it] it (λi h=>∃ok ds,IsItemIter h it d i vs.length ep ok ds) where
 mem:=by simp
 obj:=λi h st b a_=>by
  obtain⟨ok,ds,e⟩:=st;rw[qac.mp a_];exact⟨_,e,λv z=>by
   have f7:Data.fields _=Data.cell v:=z;cases f7⟩
 keep:=λi h h' st k=>let⟨ok,ds,e⟩:=st;⟨ok,ds,k it (by simp) _ e⟩
 item:=by
  intro X dU hw d9 bu i a' s af H E I bJ st bH;subst dU hw d9;obtain⟨bL,hi⟩:=bH;obtain⟨ok,ds,dQ⟩:=st;have bI:=(show Z0 X.prog X.w H s.heap d (.frz o (.dK kvs)) from I.hok d _ bL).1;obtain⟨u,hu,d_⟩:=rel.fwd (GT hi);refine wpAny_pyNext_items_item dQ (hd _ bI) hu λeW h' o6 hout c9 hsz bt=>?_;have gb:=I.hok.fresh (qaa s.heap.objs.size);have rr:it<s.heap.objs.size:=Heap.lt_size dQ;refine⟨_,rfl,wpAny_letOwnedTupleGo_items hout λbp kR gX=>?_⟩;have mO:bp.get? s.heap.objs.size=some {cls:= .type "tuple",data:= .seq #[eW,u]}:=gX.extBut _ _ (qbJ rr) c9;have bM:Inv X a' af (upd H s.heap.objs.size (.tup [kV kvs[i].1,kvs[i].2])) {s with heap:=bp,toks:=s.toks}:=
   I.turnedNew (fp:=[it]) (λb q a_ e=>by
    have fI:b≠it:=λz=>a_ (by simp[z]);exact gX.extBut b q fI (bt b q fI e)) bJ (qaa _) ⟨by show 2≤sizeLine;decide,[eW,u],.cons (ut o6) (.cons d_ .nil),_,mO,rfl,_,rfl⟩
  refine⟨.ref s.heap.objs.size,_,bM,rfl,⟨_,kvs[i],GT hi,gb,rfl,rfl⟩,⟨_,_,kR⟩,λb a_=>?_⟩;have mP:b≠s.heap.objs.size:=by rw[qac.mp a_];exact qak rr
  rw[b5 mP];exact(bJ b a_).1
 done:=by
  intro X dU hw d9 bu i a' s af H E I bJ st bH;subst dU hw d9;obtain⟨bL,hi⟩:=bH;obtain⟨ok,ds,dQ⟩:=st;have bI:=(show Z0 X.prog X.w H s.heap d (.frz o (.dK kvs)) from I.hok d _ bL).1;obtain⟨dG,f1,f2,df,es,dV⟩:=bJ it (by simp);exact wpAny_pyNext_items_end (I.ok.hd bu) dQ (hd _ bI) (qaU (by rw[←rel.length];exact hi)) λh' cV=>⟨rfl,I.turned (t':=s.toks) (λb q a_ e=>cV b q a_ e) dG f1 df es dV⟩
 self:=λ_ _ _ _ _ st h=>by
  obtain⟨ok,ds,e⟩:=st;exact Zfv e h
end
section
variable {X:Cx}{cO:Expr}
noncomputable def zl (dr:TE):TI:=λaf H R=>dr af H λx bn=>∃a kvs,x= .ref a∧Rd bn a (.dK kvs)∧∀o,R (Itv a o kvs) (upd bn a (.frz o (.dK kvs)))
noncomputable def zm (dr:TE):TI:=λaf H R=>dr af H λx bn=>∃a kvs,x= .ref a∧Rd bn a (.dK kvs)∧∀o,R (Itp a o kvs) (upd bn a (.frz o (.dK kvs)))
theorem Hh{d:Expr}{dr:TE}{dv dy:Pos}(hd:PE X d dr)(ju:attributeBase d "values" X.env (eval d X.env)=eval d X.env:=by rfl)(jv:(dv.endLine==dy.line)=true:=by rfl):
  PI X cO (.Call (.Attribute d "values" dv) [] [] dy) (zl dr):=by
 intro a' s af H R I h;refine wpAny_Call_method0_late ju jv (thn (hd a' s af H _ I h) λv bw ⟨x,bn,bM,cm,cg⟩=>?_);obtain⟨a,kvs,rfl,bq,q⟩:=cg;cases cm;obtain⟨z,kT,vs,rel,dd⟩:=WV bM.hok bq;obtain⟨ep,d6⟩:=dd.dictAt;obtain⟨o,bI,cF⟩:=bM.freeze bq;have mR:∀h:Heap,h.get? a=some o→h.DictAt (ec X.prog X.w) a vs ep:=λh e=>d6.at' λcq cf=>by rw[bI] at cf;cases cf;exact e
 refine⟨"dict","dict.values",qbp,qbl,qb3,dd.typeIs,dd.mapOf.noDict,Calls.callWith_builtin rfl (qb1 ?_)⟩;refine call_meetsIn qbl dd.typeIs qbZ (qbW _) (meets_dict_values (ec X.prog X.w) a kT) ⟨⟨vs,dd⟩,?_⟩;refine wpAny_pyIter_values (knd:=ec X.prog X.w) (d:=a) (kvs:=vs) (ep:=ep) ⟨_,Heap.get?_push_size _ rfl,rfl,rfl⟩ (mR _ (Heap.get?_push_of_some _ bI)) ?_;have dE:Inv X a' af (upd bn a (.frz o (.dK kvs))) {bw with heap:=bw.heap.push {cls:= .type "dict_values",data:= .fields #[.ref a]}}:=cF.kept (t':=bw.toks) λb o e=>Heap.get?_push_of_some _ e;refine⟨(bw.heap.push {cls:= .type "dict_values",data:= .fields #[.ref a]}).objs.size,[(bw.heap.push {cls:= .type "dict_values",data:= .fields #[.ref a]}).objs.size],_,_,_,rfl,dE.kept (t':=bw.toks) λb o e=>Heap.get?_push_of_some _ e,Hf a _ o kvs vs ep rel mR,⟨_,Heap.get?_push_size _ rfl,rfl,rfl⟩,λb a_=>?_,q o⟩;rw[qac.mp a_];exact dE.fpOk (qaa _) (dE.hok.fresh (qaa _))
theorem zn{jy:List Expr}{k1:Nat}{kx:Pos}{d:Expr}{dr:TE}{dv dy:Pos}(hd:PE X d dr)(ju:attributeBase d "items" X.env (eval d X.env)=eval d X.env:=by rfl)(jv:(dv.endLine==dy.line)=true:=by rfl):
  PI X (.Tuple jy k1 kx) (.Call (.Attribute d "items" dv) [] [] dy) (zm dr):=by
 intro a' s af H R I h;refine wpAny_Call_method0_late ju jv (thn (hd a' s af H _ I h) λv bw ⟨x,bn,bM,cm,cg⟩=>?_);obtain⟨a,kvs,rfl,bq,q⟩:=cg;cases cm;obtain⟨z,kT,vs,rel,dd⟩:=WV bM.hok bq;obtain⟨ep,d6⟩:=dd.dictAt;obtain⟨o,bI,cF⟩:=bM.freeze bq;have mR:∀h:Heap,h.get? a=some o→h.DictAt (ec X.prog X.w) a vs ep:=λh e=>d6.at' λcq cf=>by rw[bI] at cf;cases cf;exact e
 refine⟨"dict","dict.items",qbp,PySem.F.slot_dict_items,PySem.F.type_dict_items,dd.typeIs,dd.mapOf.noDict,Calls.callWith_builtin rfl (qb1 ?_)⟩;refine call_meetsIn PySem.F.slot_dict_items dd.typeIs PySem.F.entry_dict_items (PySem.F.args_dict_items_1 _) (meets_dict_items (ec X.prog X.w) a kT) ⟨⟨vs,dd⟩,?_⟩;refine wpAny_pyIter_items (knd:=ec X.prog X.w) (d:=a) (kvs:=vs) (ep:=ep) ⟨_,Heap.get?_push_size _ rfl,rfl,rfl⟩ (mR _ (Heap.get?_push_of_some _ bI)) ?_;have dE:Inv X a' af (upd bn a (.frz o (.dK kvs))) {bw with heap:=bw.heap.push {cls:= .type "dict_items",data:= .fields #[.ref a]}}:=cF.kept (t':=bw.toks) λb o e=>Heap.get?_push_of_some _ e;refine⟨(bw.heap.push {cls:= .type "dict_items",data:= .fields #[.ref a]}).objs.size,[(bw.heap.push {cls:= .type "dict_items",data:= .fields #[.ref a]}).objs.size],_,_,_,rfl,dE.kept (t':=bw.toks) λb o e=>Heap.get?_push_of_some _ e,Hg a _ o kvs vs ep rel mR,⟨_,_,Heap.get?_push_size _ rfl⟩,λb a_=>?_,q o⟩;rw[qac.mp a_];exact dE.fpOk (qaa _) (dE.hok.fresh (qaa _))
end
namespace Rd
section
variable {af:St}{H:Hp}{Q:VK}
theorem ZnX{dr:TE}{R:It→Hp→Prop}(h:dr af H λx bn=>∃a kvs,x= .ref a∧L2.Rd bn a (.dK kvs)∧∀o,R (Itv a o kvs) (upd bn a (.frz o (.dK kvs)))):zl dr af H R:=h
theorem ZjY{dr:TE}{R:It→Hp→Prop}(h:dr af H λx bn=>∃a kvs,x= .ref a∧L2.Rd bn a (.dK kvs)∧∀o,R (Itp a o kvs) (upd bn a (.frz o (.dK kvs)))):zm dr af H R:=h
end
end Rd
theorem Hi{d:Addr}{o:Obj}{kvs:List (Key×V)}{H:Hp}(h:H d=some (.frz o (.dK kvs))):VP (Itv d o kvs) kvs.length (λi ae v bv=>bv=ae∧∃kv,kvs[i]? =some kv∧v=kv.2) H:=
 ⟨λae i s hi=>⟨s _ _ h,hi⟩,λ_ _ _ _ _ _ y=>y,λae s=>⟨s _ _ h,qaa _⟩⟩
theorem zo{d:Addr}{o:Obj}{kvs:List (Key×V)}{H:Hp}(h:H d=some (.frz o (.dK kvs))):VP (Itp d o kvs) kvs.length (λi ae v bv=>∃t kv,kvs[i]? =some kv∧ae t=none∧v= .ref t∧bv=upd ae t (.tup [kV kv.1,kv.2])) H:=
 ⟨λae i s hi=>⟨s _ _ h,hi⟩,λ_ _ _ _ _ _ y=>y,λae s=>⟨s _ _ h,qaa _⟩⟩
section
variable {X:Cx}
end
namespace Rd
end Rd
section
variable {X:Cx}{K:Frag}
noncomputable def ZhI (K:Frag):V→Hp→(Nat→Prop)→Prop:=λx H R=>∃(l:Addr)(ns:List Int),x= .ref l∧SqL K H l (ns.map V.int)∧ns.length+1<4096∧∀n,(ns.Nodup→n=ns.length)→R n
noncomputable def zp (K:Frag) (bX:TA):TE:=λaf H Q=>bX af H λvs bn=>∃x,vs=[x]∧ZhI K x bn λn=>Q (.int (n:Nat)) bn
theorem zq(ns:List Int)(h:ns.Nodup):∀i,i≤ns.length→firstMet (λi=>ns.getD i 0) i=ns.take i
 |0,_=>rfl
 |i+1,hi=>by
  have cs:i<ns.length:=by omega
  rw[firstMet_succ,zq ns h i (by omega),qad cs];have e:ns.getD i 0=ns[i]:=by simp[List.getD,cs]
  unfold step_dedup;rw[e];have bO:((ns.take i).any (· ==ns[i]))=false:=by
   rw[List.any_eq_false];intro x bo;have eE:=h;rw[←List.take_append_drop (i+1) ns,qad cs] at eE;have bT:=(qbz.mp (qbz.mp eE).1).2.2 x bo ns[i] (by simp);simpa using bT
  rw[bO]
  rfl
theorem Hj{a:Expr}{bX:TA}{p dZ pos mQ:Pos}(d9:X.K=K)(bu:X.calm=true)(hE:Gl X "len")(iM:X.mg "len" =none)(bH:Gl X "set")(bA:X.mg "set" =none)(bF:PA X [a] bX)
  (hs:starEach [a] X.env=[(false,eval a X.env)]:=by rfl)
  (bL:starEach [Expr.Call (.Name "set" p) [a] [] pos] X.env=(false,eval (.Call (.Name "set" p) [a] [] pos) X.env)::starEach [] X.env:=by rfl):
  PE X (.Call (.Name "len" dZ) [.Call (.Name "set" p) [a] [] pos] [] mQ) (zp K bX):=by
 subst d9;intro a' s af H Q I h;refine Call_ (ht I hE iM qap ?_);refine qbv ?_ bL;rw[bL];show wpAny _ _ (spliced ((false,eval (.Call (.Name "set" p) [a] [] pos) X.env):: [])) _ _ s;refine Calls.spliced_cons (Call_ (ht I bH bA boot_set (qaD (thn (bF pos a' s af H _ I h) λus bw ⟨vs,bn,bM,cm,cg⟩=>?_) hs rfl)));obtain⟨x,e,l,ns,rfl,cv,a_,q⟩:=cg;subst e;obtain⟨u,rfl,bZ⟩:=Wr cm;cases bZ;obtain⟨its,c',pl,hz⟩:=bM.list cv;have hi:=Uz c';have hsz:its.toArray.size=ns.length:=by have:=c'.length;simpa using this.symm
 refine call_set_list (bM.ok.hd bu) pl.isList hi (by rw[hsz];exact a_) λh' bY di bt=>?_;refine Calls.spliced_nil ?_;obtain⟨o,bE,ep,t,bI,i9,hd,_,_,cJ,bJ,bO⟩:=di;refine call_len_set bI i9 hd bJ (by unfold scanBound at cJ;omega) ?_;refine⟨.int bE.size,bn,?_,⟨_,rfl⟩,q _ λeE=>?_⟩
 ·exact bM.kept λb o e=>bt b o (Heap.lt_size e) e
 ·rw[bO,hsz,zq ns eE _ (qaa _),qax]
end
namespace Rd
section
variable {K:Frag}{af:St}{H:Hp}{Q:VK}
theorem lset{bX:TA}(h:bX af H λvs bn=>∃x,vs=[x]∧ZhI K x bn λn=>Q (.int (n:Nat)) bn):zp K bX af H Q:=h
end
end Rd
noncomputable def Itz (K:Frag) (a b:Addr):It:=
 ⟨λi H=>∃xs x ys y,SqL K H a xs∧xs[i]? =some x∧SqL K H b ys∧ys[i]? =some y,λi H v ae=>∃t x y,H t=none∧v= .ref t∧ae=upd H t (.tup [x,y])∧(∀xs,SqL K H a xs→xs[i]? =some x)∧∀ys,SqL K H b ys→ys[i]? =some y,λi H=>∃xs ys,SqL K H a xs∧SqL K H b ys∧(xs.length≤i∨ys.length≤i)⟩
theorem lG{h:Heap}{l b:Addr}{xs:Array Value}{o:Obj}(aj:h.IsList l xs)(bI:h.get? b=some o)(bu:o.cls≠ .type "list"):l≠b:=λz=>by
 subst z;obtain⟨cq,bj,bp,_⟩:=aj;rw[bI] at bj;cases bj;exact bu bp
structure Zig(h:Heap)(z TI TO dx eh a b:Addr)(i:Nat):Prop where
 zip:IsZip h z TI TO .none
 ti:IsPair h TI (.ref dx) (.ref eh)
 to:∃x y,IsPair h TO x y
 l1:h.IsListIter dx a i
 l2:h.IsListIter eh b i
structure ZfN(z TI TO dx eh:Addr):Prop where
 TIz:TI≠z
 TOz:TO≠z
 i1z:dx≠z
 i2z:eh≠z
 TITO:TI≠TO
 TIi1:TI≠dx
 TIi2:TI≠eh
 TOi1:TO≠dx
 TOi2:TO≠eh
 i12:dx≠eh
theorem Hk(n:Nat):ZfN (n+4) (n+2) (n+3) n (n+1):=⟨show n+2≠n+4 by omega,show n+3≠n+4 by omega,show n≠n+4 by omega,show n+1≠n+4 by omega,show n+2≠n+3 by omega,show n+2≠n by omega,show n+2≠n+1 by omega,show n+3≠n by omega,show n+3≠n+1 by omega,show n≠n+1 by omega⟩
theorem Zig.apart{h:Heap}{z TI TO dx eh a b:Addr}{i:Nat}{xs ys:Array Value}(D:ZfN z TI TO dx eh)(st:Zig h z TI TO dx eh a b i)(bF:h.IsList a xs)(a_:h.IsList b ys):ZipApart z TI TO dx eh a b:=by
 obtain⟨x,y,jz⟩:=st.to;obtain⟨rv,dZ,fF,_⟩:=st.l1;obtain⟨g5,e3,e4,_⟩:=st.l2;have fI:rv.cls≠ .type "list" :=by rw[fF];decide
 have fl:g5.cls≠ .type "list" :=by rw[e4];decide
 exact⟨D.TIz,D.TOz,D.i1z,D.i2z,D.TITO,D.TIi1,D.TIi2,D.TOi1,D.TOi2,D.i12,lG bF st.zip (show Value.type "zip" ≠Value.type "list" by decide),lG bF jz (show Value.type "tuple" ≠Value.type "list" by decide),lG bF dZ fI,lG bF e3 fl,lG a_ st.zip (show Value.type "zip" ≠Value.type "list" by decide),lG a_ jz (show Value.type "tuple" ≠Value.type "list" by decide),lG a_ dZ fI,lG a_ e3 fl⟩
theorem Hl{P:Program}{w:World}{K:Frag}{jy:List Expr}{k1:Nat}{pos:Pos}(a b z TI TO dx eh:Addr)(D:ZfN z TI TO dx eh):Um P w K (.Tuple jy k1 pos) (Itz K a b) [z,TI,TO,dx,eh] z (λi h=>Zig h z TI TO dx eh a b i) where
 mem:=by simp
 obj:=λi h st c bu=>by
  obtain⟨x,y,jz⟩:=st.to;obtain⟨rv,dZ,_,ks⟩:=st.l1;obtain⟨g5,e3,_,jA⟩:=st.l2;simp only[qae,qaG,or_false] at bu;rcases bu with rfl|rfl|rfl|rfl|rfl
  ·exact⟨_,st.zip,λv q=>by cases (show Data.fields _=Data.cell v from q)⟩
  ·exact⟨_,st.ti,λv q=>by cases (show Data.seq _ _=Data.cell v from q)⟩
  ·exact⟨_,jz,λv q=>by cases (show Data.seq _ _=Data.cell v from q)⟩
  ·exact⟨rv,dZ,λv q=>by rw[ks] at q;cases q⟩
  ·exact⟨g5,e3,λv q=>by rw[jA] at q;cases q⟩
 keep:=λi h h' st k=>by
  obtain⟨x,y,jz⟩:=st.to;exact⟨k z (by simp) _ st.zip,k TI (by simp) _ st.ti,⟨x,y,k TO (by simp) _ jz⟩,st.l1.at λo q=>k dx (by simp) o q,st.l2.at λo q=>k eh (by simp) o q⟩
 item:=by
  intro X dU hw d9 bu i a' s af H E I bJ st bH;subst dU hw d9;obtain⟨xs,x,ys,y,i_,bo,j1,bR⟩:=bH;obtain⟨zr,rx,dZ,zt⟩:=I.list i_;obtain⟨jr,ry,e3,zu⟩:=I.list j1;obtain⟨rz,gp,uz⟩:=rx.get bo;obtain⟨i5,lH,uA⟩:=ry.get bR;obtain⟨a0,cS,jz⟩:=st.to;refine wpAny_pyNext_zip_item (st.apart D dZ.isList e3.isList) st.zip st.ti jz st.l1 st.l2 dZ.isList e3.isList (x:=rz) (y:=i5) (by simpa using gp) (by simpa using lH) λh' kU Hm jW gG c9 hsz bt=>?_;have gb:=I.hok.fresh (qaa s.heap.objs.size);have lt:∀{c:Addr}{o:Obj},s.heap.get? c=some o→c<s.heap.objs.size:=λe=>Heap.lt_size e;have zv:=lt st.zip;have Hn:dx<s.heap.objs.size:=by obtain⟨_,q,_⟩:=st.l1;exact lt q
  have Ho:eh<s.heap.objs.size:=by obtain⟨_,q,_⟩:=st.l2;exact lt q
  refine⟨_,rfl,wpAny_letOwnedTupleGo_zip kU λbp Hq gX=>?_⟩;have mO:IsPair bp s.heap.objs.size rz i5:=gX.extBut _ _ (qbJ zv) c9;have bM:Inv X a' af (upd H s.heap.objs.size (.tup [x,y])) {s with heap:=bp}:=
   I.turnedNew (t':=s.toks) (fp:=[z,TI,TO,dx,eh]) (λc o bu q=>by
    have fI:c≠z:=λe=>bu (by simp[e]);have fl:c≠TO:=λe=>bu (by simp[e]);have i4:c≠dx:=λe=>bu (by simp[e]);have nX:c≠eh:=λe=>bu (by simp[e]);exact gX.extBut c o fI (bt c o fI fl i4 nX q)) bJ (qaa _) ⟨by show 2≤sizeLine;decide,[rz,i5],.cons uz (.cons uA .nil),_,mO,rfl,_,rfl⟩
  refine⟨.ref s.heap.objs.size,_,bM,rfl,⟨_,x,y,gb,rfl,rfl,λzs hz=>by rw[I.list_inj hz i_];exact bo,λzs hz=>by rw[I.list_inj hz j1];exact bR⟩,⟨Hq,gX.extBut _ _ D.TIz (bt _ _ D.TIz D.TITO D.TIi1 D.TIi2 st.ti),⟨_,_,gX.extBut _ _ D.TOz Hm⟩,jW.at λo q=>gX.extBut _ _ D.i1z q,gG.at λo q=>gX.extBut _ _ D.i2z q⟩,λc bu=>?_⟩;have mP:c≠s.heap.objs.size:=by
   simp only[qae,qaG,or_false] at bu;rcases bu with rfl|rfl|rfl|rfl|rfl
   ·exact qak zv
   ·exact qak (lt st.ti)
   ·exact qak (lt jz)
   ·exact qak Hn
   ·exact qak Ho
  rw[b5 mP];exact(bJ c bu).1
 done:=by
  intro X dU hw d9 bu i a' s af H E I bJ st bH;subst dU hw d9;obtain⟨xs,ys,i_,j1,bo⟩:=bH;obtain⟨zr,rx,dZ,zt⟩:=I.list i_;obtain⟨jr,ry,e3,zu⟩:=I.list j1;obtain⟨a0,cS,jz⟩:=st.to;have bG:=rx.length;have bK:=ry.length;exact wpAny_pyNext_zip_end (I.ok.hd bu) (st.apart D dZ.isList e3.isList) st.zip st.ti jz st.l1 st.l2 dZ.isList e3.isList (by rcases bo with q|q;exact .inl (by simp;omega);exact .inr (by simp;omega)) λh' cV=>⟨rfl,I.turnedL (t':=s.toks) (fp:=[z,TI,TO,dx,eh]) (λc o bu q=>cV c o (λe=>bu (by simp[e])) (λe=>bu (by simp[e])) (λe=>bu (by simp[e])) (λe=>bu (by simp[e])) q) bJ⟩
 self:=λ_ _ _ _ _ st h=>wpAny_pyIter_zip st.zip h
section
variable {X:Cx}
noncomputable def zw (K:Frag) (bX:TA):TI:=λaf H R=>bX af H λvs bn=>∃a b,vs=[.ref a,.ref b]∧(∃xs,SqL K bn a xs)∧(∃ys,SqL K bn b ys)∧R (Itz K a b) bn
theorem Hr{K:Frag}{a b:Expr}{bX:TA}{p pos kx:Pos}{jy:List Expr}{k1:Nat}(eS:X.K=K)(bH:Gl X "zip")(bA:X.mg "zip" =none)(bF:PA X [a,b] bX)(hs:starEach [a,b] X.env=(false,eval a X.env)::starEach [b] X.env:=by rfl)(fh:(backTo pos (starEach [b] X.env)).any (·.1)=false:=by rfl):
  PI X (.Tuple jy k1 kx) (.Call (.Name "zip" p) [a,b] [] pos) (zw K bX):=by
 subst eS;intro a' s af H R I h;refine Call_ (ht I bH bA boot_zip (qaD (thn (bF pos a' s af H _ I h) λus bw ⟨vs,bn,bM,cm,cg⟩=>?_) hs fh));obtain⟨eb,eT,rfl,⟨xs,i_⟩,⟨ys,j1⟩,q⟩:=cg;obtain⟨rz,i5,rfl,uz,uA⟩:=ZlB cm;cases uz;cases uA;obtain⟨zr,rx,dZ,zt⟩:=bM.list i_;obtain⟨jr,ry,e3,zu⟩:=bM.list j1;refine call_zip_2 dZ.isList e3.isList λh' hz uB Hs bj bp hsz bt=>?_;refine wpAny_pyIter_zip hz ?_;have cF:Inv X a' af bn {bw with heap:=h'}:=bM.kept (t':=bw.toks) bt;have ej:∀k:Nat,bw.heap.objs.size≤bw.heap.objs.size+k:=λk=>Nat.le_add_right _ _;refine⟨bw.heap.objs.size+4,[bw.heap.objs.size+4,bw.heap.objs.size+2,bw.heap.objs.size+3,bw.heap.objs.size,bw.heap.objs.size+1],_,_,bn,rfl,cF,Hl eb eT _ _ _ _ _ (Hk _),⟨hz,uB,⟨_,_,Hs⟩,bj,bp⟩,λc bu=>?_,q⟩;simp only[qae,qaG,or_false] at bu;rcases bu with rfl|rfl|rfl|rfl|rfl
 ·exact bM.fpOk (ej 4) (bM.hok.fresh (ej 4))
 ·exact bM.fpOk (ej 2) (bM.hok.fresh (ej 2))
 ·exact bM.fpOk (ej 3) (bM.hok.fresh (ej 3))
 ·exact bM.fpOk (qaa _) (bM.hok.fresh (qaa _))
 ·exact bM.fpOk (ej 1) (bM.hok.fresh (ej 1))
end
theorem Ht{K:Frag}{a b:Addr}{xs ys:List V}{H:Hp}(bj:SqL K H a xs)(bp:SqL K H b ys)(aj:xs.length=ys.length):VP (Itz K a b) xs.length (λi ae v bv=>∃t,ae t=none∧v= .ref t∧bv=upd ae t (.tup [xs.getD i .non,ys.getD i .non])) H:=
 ⟨λae i e hi=>⟨xs,xs[i],ys,ys[i],e.seq bj,by simp[hi],e.seq bp,by simp⟩,λae i x bv e hi ⟨t,z,f7,b3,b_,hu,hz,kU⟩=>⟨t,b3,b_,by
  have bG:=hz xs (e.seq bj);have bK:=kU ys (e.seq bp);rw[hu];simp[List.getD,bG,bK]⟩,λae e=>⟨xs,ys,e.seq bj,e.seq bp,.inl (qaa _)⟩⟩
namespace Rd
section
variable {K:Frag}{af:St}{H:Hp}
theorem ZoX{fk:TA}{R:It→Hp→Prop}(h:fk af H λvs bn=>∃a b,vs=[.ref a,.ref b]∧(∃xs,SqL K bn a xs)∧(∃ys,SqL K bn b ys)∧R (Itz K a b) bn):zw K fk af H R:=h
end
end Rd
section
variable {X:Cx}{K:Frag}
noncomputable def rIndexB:V→List V→Hp→VK→Prop:=λx vs H Q=>∃(l:Addr)(bs:List Bool)(j:Nat),x= .ref l∧vs=[.bl true]∧H l=some (.lst (bs.map V.bl))∧bs[j]? =some true∧(∀m<j,bs[m]? =some false)∧Q (.int j) H
theorem Hu:MtM X "list.index" rIndexB:=by
 intro a' s af H x vs v us Q I bZ c' h;obtain⟨l,bs,j,rfl,rfl,hf,bC,iE,q⟩:=h;cases bZ;obtain⟨u,rfl,d_⟩:=Wr c';obtain rfl:u=Value.bool true:=d_;obtain⟨z,its,n,r,aj,e⟩:=I.lstM hf;have c3:=up (s:=s) r;have i':=(FM.mp bC).1;have hz:its.toArray.size=bs.length:=by rw[c3];simp
 have at_:∀(m:Nat)(bA:m<its.toArray.size),its.toArray[m]=Value.bool (bs[m]'(by omega)):=λm bA=>by
  subst c3;simp
 have bO:=kD;refine call_meets F.slot_list_index ⟨_,e,rfl⟩ F.entry_list_index (F.args_list_index_2 _ _) (PySem.SeqAt.list_indexAt l its.toArray n _ _ (.bool true) (λy=>y==Value.bool true) j (by omega) (by rw[GE] at z;omega) ?_ ?_) ⟨e,λy bR=>?_,?_⟩
 ·rw[at_ j (by omega)];have:=(FM.mp bC).2;rw[this]
  rfl
 ·intro m bA pL;rw[at_ m bA];have:=(FM.mp (iE m pL)).2;rw[this]
  rfl
 ·subst c3;obtain⟨b,_,rfl⟩:=qam.mp (List.mem_toArray.mp bR);have bL:(Value.bool b==Value.bool true)=(b==true):=by cases b<;>rfl
  rw[bL];exact PySem.SeqAt.EqAt.bool_bool b true
 ·exact⟨.int j,H,I.tok _,⟨_,rfl⟩,q⟩
end
namespace Rd
theorem Zmz{H:Hp}{Q:VK}{l:Addr}{bs:List Bool}{j:Nat}(h:H l=some (.lst (bs.map V.bl)))(bC:bs[j]? =some true)(bO:∀m<j,bs[m]? =some false)(q:Q (.int j) H):rIndexB (.ref l) [.bl true] H Q:=⟨l,bs,j,rfl,rfl,h,bC,bO,q⟩
end Rd
section
variable {X:Cx}{K:Frag}
theorem Hv:typeLookup (.type "list_reverseiterator") "__len__" =pure none:=by rw[typeLookup_type,builtinLookup_eq_fast];kernel_rfl
theorem Hw:typeLookup (.type "list_reverseiterator") "__length_hint__" =pure (some (.builtin "list_reverseiterator.__length_hint__")):=by rw[typeLookup_type,builtinLookup_eq_fast];kernel_rfl
theorem Hx{prog:Program}{w:World}{A:Around}{E:Value→Shared→Prop}{s:Shared}{r:Addr}{Q:Bool→Shared→Prop}(c9:s.TypeIs (.ref r) "list_reverseiterator")(h:Q false s):wpAny (model prog w) A (Builtin.List.listLengthHint (.ref r)) Q E s:=by
 unfold Builtin.List.listLengthHint;refine wpAny_bind (wpAny_specialOf c9 Hv ?_);show wpAny _ A (specialOf (Value.ref r) (Str.ofString "__length_hint__") >>= _) _ _ _;refine wpAny_bind (wpAny_specialOf c9 Hw ?_);generalize hid:("list_reverseiterator.__length_hint__" :String)=id0
 wp_delta
 rw[show splitId id0=some ("list_reverseiterator","__length_hint__") from by subst hid;decide+kernel];subst hid;refine wpAny_bind (wpAny_isInstance (T:="list_reverseiterator") (b:=true) c9 (by rw[isSubtype_type];kernel_rfl) ?_);refine wpAny_ite_split (λkW=>absurd kW (by decide)) (λ_=>?_);refine wpAny_ite_split (λ_=>?_) (λkW=>absurd (by decide+kernel) kW);refine wpAny_ite_split (λkW=>absurd kW (by decide+kernel)) (λ_=>?_);exact wpAny_pure h
section
variable {prog:Program}{w:World}{A:Around}{E:Value→Shared→Prop}{s:Shared}{I l:Addr}{items:Array Value}
theorem Ziu{R:Result→Shared→Prop}(b6:A.handled=none)(eR:l≠I)(dQ:s.heap.IsRevIter I l ((items.size:Int)-1-((0:Nat):Int)))(aj:s.heap.IsList l items)(S:Addr)(pM:S≠I)(rA:S≠l)(res:Value)(zx:Nat)
  (di:s.heap.get? S=some {cls:= .type "list",data:= .seq #[] zx})
  (dk:∀h' bY acc' cZ,(∀b o,b≠S→b≠I→s.heap.get? b=some o→h'.get? b=some o)→h'.get? S=some {cls:= .type "list",dict:=none,data:= .seq acc' cZ,slots:=#[]}→ItemsOf (λi v=>items[items.size-1-i]? =some v) acc' items.size→R (.ok (.ret res)) {s with heap:=h',toks:=bY}) (bO:items.size≤sizeLine):
  wpAny (model prog w) A.in1 (Builtin.List.listExtendWith (.ref S) (.ref I) res)
   (λd4 bz=>match d4 with| .done f=>R (.ok f) bz| .again cZ=>cZ.quiet=true∧codeAny (model prog w) A cZ R bz) (λe bz=>R (.error e) bz) s:=by
 have mS:S∉[I,l]:=by simp only[qae,qaG,or_false,not_or];exact⟨pM,rA⟩
 have W:=PySem.Walks.listRev (prog:=prog) (w:=w) (A:=A.in1) b6 I l eR items;unfold Builtin.List.listExtendWith;refine wpAny_bind (wpAny_typeOf dQ.typeIs ?_);have bj:Builtin.List.listSameRef (.ref S) (.ref I)=false:=by simp[Builtin.List.listSameRef,pM]
 have bp:(Value.type "list_reverseiterator" ==Value.type "list")=false:=by decide
 have bT:(Value.type "list_reverseiterator" ==Value.type "tuple")=false:=by decide
 simp only[bj,bp,bT,Bool.or_false,Bool.false_eq_true,if_false];refine wpAny_bind (wpAny_pyIter_revIter dQ ?_);refine wpAny_bind (wpAny_holding (Hx dQ.typeIs ?_));refine wpAny_ite_split (λkW=>absurd kW (by decide+kernel)) (λ_=>wpAny_pure ⟨plainId_quiet qb0 _,?_⟩);refine codeAny_extend_loopS W.toS bO S mS res items.size 0 _ #[] zx rfl (qau _) ⟨qau _,dQ,aj⟩ di (ItemsOf.nil _) λbz acc' cZ bA mT hk=>?_;rw[Moved.eq_with bA];refine dk bz.heap bz.toks acc' cZ (λb o a_ nY e=>bA.heap b o (λjB=>?_) e) mT hk;rcases qae.mp jB with cf|jB
 ·exact a_ cf
 ·exact nY (qac.mp jB)
theorem Hy{R:Result→Shared→Prop}(b6:A.handled=none)(eR:l≠I)(dQ:s.heap.IsRevIter I l ((items.size:Int)-1-((0:Nat):Int)))(aj:s.heap.IsList l items)(S:Addr)(pM:S≠I)(rA:S≠l)
  (di:s.heap.get? S=some {cls:= .type "list",data:= .seq #[]})
  (dk:∀h' bY acc' cZ,(∀b o,b≠S→b≠I→s.heap.get? b=some o→h'.get? b=some o)→h'.get? S=some {cls:= .type "list",dict:=none,data:= .seq acc' cZ,slots:=#[]}→ItemsOf (λi v=>items[items.size-1-i]? =some v) acc' items.size→R (.ok (.ret .none)) {s with heap:=h',toks:=bY}) (bO:items.size≤sizeLine):
  wpAny (model prog w) A.in1 (Builtin.«list.__init__» ⟨[.ref S,.ref I],[]⟩)
   (λd4 bz=>match d4 with| .done f=>R (.ok f) bz| .again cZ=>cZ.quiet=true∧codeAny (model prog w) A cZ R bz) (λe bz=>R (.error e) bz) s:=by
 show wpAny _ _ (do let jQ←Builtin.List.listItems (.ref S);Builtin.List.listUpdate (.ref S) (λ_=>#[]);letGo jQ.toList.reverse;Builtin.List.listExtendWith (.ref S) (.ref I) .none) _ _ s;refine wpAny_bind ?_;unfold Builtin.List.listItems;refine wpAny_bind (wpAny_seqItems di rfl (wpAny_pure ?_));show wpAny _ _ (updateSeq S (λ_=>#[]) >>= λ_=>letGo (#[]:Array Value).toList.reverse >>= λ_=>Builtin.List.listExtendWith (.ref S) (.ref I) .none) _ _ s;refine wpAny_bind (wpAny_updateSeq di rfl ?_);have Hz:=Heap.get?_update_self (Obj.mapSeq (λ_=>(#[]:Array Value))) di rfl;have nZ:∀b o,b≠S→s.heap.get? b=some o→(s.heap.update S (Obj.mapSeq (λ_=>(#[]:Array Value)))).get? b=some o:=
  λb o a_ e=>(Heap.get?_update_other _ _ (qbH a_)).trans e
 refine wpAny_bind (wpAny_letGo ?_);refine Ziu b6 eR (dQ.at λo e=>nZ _ o (qbH pM) e) (aj.at λo e=>nZ _ o (qbH rA) e) S pM rA .none _ Hz (λh' bY acc' cZ bt mT hk=>?_) bO;exact dk h' bY acc' cZ (λb o a_ nY e=>bt b o a_ nY (nZ b o a_ e)) mT hk
theorem ZfC{Q:Value→Shared→Prop}(b6:A.handled=none)(eR:l≠I)(dQ:s.heap.IsRevIter I l ((items.size:Int)-1-((0:Nat):Int)))(aj:s.heap.IsList l items)(bO:items.size≤sizeLine)
  (hM:∀h' bY acc' cZ,(∀b o,b≠I→s.heap.get? b=some o→h'.get? b=some o)→h'.get? s.heap.objs.size=some {cls:= .type "list",dict:=none,data:= .seq acc' cZ,slots:=#[]}→ItemsOf (λi v=>items[items.size-1-i]? =some v) acc' items.size→Q (.ref s.heap.objs.size) {s with heap:=h',toks:=bY}):
  wpAny (model prog w) A (call (.type "list") [.ref I]) Q E s:=by
 refine callType_codes (Q₁:=λobj dn=>obj= .ref s.heap.objs.size∧dn={s with heap:=s.heap.push {cls:= .type "list",data:= .seq #[]}}) PySem.F.called_list (PySem.F.typeCall_list_1 _) PySem.F.entry_list_init
  (code_list_new _ ⟨rfl,rfl⟩) λobj dn h₁=>?_
 obtain⟨rfl,rfl⟩:=h₁;have di:(s.heap.push {cls:= .type "list",data:= .seq #[]}).get? s.heap.objs.size=some {cls:= .type "list",data:= .seq #[]}:=Heap.get?_push_size _ rfl;have fI:s.heap.objs.size≠I:=by
  obtain⟨o,bI,_⟩:=dQ;exact qbJ (Heap.lt_size bI)
 have fl:s.heap.objs.size≠l:=by
  obtain⟨o,bI,_⟩:=aj;exact qbJ (Heap.lt_size bI)
 refine⟨⟨_,di,rfl⟩,PySem.F.args_list_init_2 _ _,Hy (A:=A.in1) b6 eR (dQ.at λo e=>Heap.get?_push_of_some _ e) (aj.at λo e=>Heap.get?_push_of_some _ e) _ fI fl di (λh' bY acc' cZ bt mT hk=>?_) bO⟩;exact⟨rfl,hM h' bY acc' cZ (λb o a_ e=>bt b o (qak (Heap.lt_size e)) a_ (Heap.get?_push_of_some _ e)) mT hk⟩
end
noncomputable def zy (K:Frag) (bX:TA):TE:=λaf H Q=>bX af H λvs bn=>∃a xs,vs=[.ref a]∧SqL K bn a xs∧∀l,bn l=none→Q (.ref l) (upd bn l (.lst xs.reverse))
theorem HA{a:Expr}{bX:TA}{p dZ pos mQ:Pos}(eS:X.K=K)(bu:X.calm=true)(hE:Gl X "list")(iM:X.mg "list" =none)(bH:Gl X "reversed")(bA:X.mg "reversed" =none)(bF:PA X [a] bX)
  (hs:starEach [a] X.env=[(false,eval a X.env)]:=by rfl)
  (bL:starEach [Expr.Call (.Name "reversed" p) [a] [] pos] X.env=(false,eval (.Call (.Name "reversed" p) [a] [] pos) X.env)::starEach [] X.env:=by rfl):
  PE X (.Call (.Name "list" dZ) [.Call (.Name "reversed" p) [a] [] pos] [] mQ) (zy K bX):=by
 subst eS;intro a' s af H Q I h;refine wpAny_Call_Name_kw (ht I hE iM boot_list ?_);refine qaD ?_ bL rfl;rw[bL];show wpAny _ _ (spliced ((false,eval (.Call (.Name "reversed" p) [a] [] pos) X.env):: [])) _ _ s;refine Calls.spliced_cons (Call_ (ht I bH bA boot_reversed (qaD (thn (bF pos a' s af H _ I h) λus bw ⟨vs,bn,bM,cm,cg⟩=>?_) hs rfl)));obtain⟨b,xs,rfl,cv,q⟩:=cg;obtain⟨u,rfl,d_⟩:=Wr cm;cases d_;obtain⟨its,c',pl,hz⟩:=bM.list cv;have aj:=c'.length;refine call_reversed_list pl.isList (Calls.spliced_nil ?_);have dQ:(bw.heap.push (revObj b (((its.toArray.size:Nat):Int)-1))).IsRevIter bw.heap.objs.size b (((its.toArray.size:Nat):Int)-1-((0:Nat):Int)):=by
  refine⟨_,Heap.get?_push_size _ rfl,rfl,?_⟩;show Data.fields #[Value.ref b,rawInt (((its.toArray.size:Nat):Int)-1)]=_;simp
 have g6:b≠bw.heap.objs.size:=by
  obtain⟨o,bI,_⟩:=pl.isList;exact qak (Heap.lt_size bI)
 have cF:Inv X a' af bn {bw with heap:=bw.heap.push (revObj b (((its.toArray.size:Nat):Int)-1))}:=bM.kept (t':=bw.toks) λb o e=>Heap.get?_push_of_some _ e;have kU:its.toArray.size≤sizeLine:=by rw[qaf,←aj];exact hz
 refine ZfC (bM.ok.hd bu) g6 dQ (pl.isList.at λo e=>Heap.get?_push_of_some _ e) kU λh' bY c1 cZ bt di hk=>?_;have kQ:∀b o,bw.heap.get? b=some o→h'.get? b=some o:=λb o e=>bt b o (qak (Heap.lt_size e)) (Heap.get?_push_of_some _ e);have hsz:bw.heap.objs.size≤(bw.heap.push (revObj b (((its.toArray.size:Nat):Int)-1))).objs.size:=by rw[Heap.size_push];omega
 refine⟨.ref (bw.heap.push (revObj b (((its.toArray.size:Nat):Int)-1))).objs.size,_,bM.laid (a:=(bw.heap.push (revObj b (((its.toArray.size:Nat):Int)-1))).objs.size) (o:= .lst xs.reverse) (t':=bY) kQ hsz ⟨by rw[List.length_reverse];exact hz,c1.toList,cZ,?_,by simpa using di⟩,rfl,q _ (bM.hok.fresh hsz)⟩;refine pH (by rw[qaV,hk.1,List.length_reverse,qaf,aj]) λj v u bG bK=>?_;have bp:=hk.2 j u (by rw[←qa7];exact bK);have bC:j<xs.length:=by
  have:=(FM.mp bG).1;simpa using this
 rw[List.getElem?_reverse bC] at bG;obtain⟨jO,fw,c6⟩:=c'.get bG;have de:its.toArray[its.toArray.size-1-j]? =some jO:=by rw[qaf,←aj];simpa using fw
 rw[de] at bp;cases bp;exact c6
end
namespace Rd
theorem Zpc{af:St}{H:Hp}{Q:VK}{K:Frag}{bX:TA}(h:bX af H λvs bn=>∃a xs,vs=[.ref a]∧SqL K bn a xs∧∀l,bn l=none→Q (.ref l) (upd bn l (.lst xs.reverse))):zy K bX af H Q:=h
end Rd
section
variable {X:Cx}
end
namespace Rd
end Rd
end L2
namespace L2
open PySem PySem.Spec PySem.W PyProof.Rows Builtin Builtin.ObjectAttr Builtin.Getset_descriptor
section
variable {prog:Program}{w:World}{A:Around}{E:Value→Shared→Prop}{s:Shared}{K:Frag}{x C:Addr}
end
section
variable {X:Cx}
end
end L2
namespace L2
open PySem PySem.Spec PyProof.Rows
section
variable {X:Cx}{a':List (Addr×Obj)}{af:List (Option V)}{H:Hp}{s:Shared}
end
section
variable {X:Cx}
end
namespace Rd
section
variable {af:St}{H:Hp}{Q:VK}{K:Frag}
end
section
variable {af:St}{H:Hp}{K:Frag}
end
end Rd
section
variable {X:Cx}
end
end L2
namespace HT
open PySem PyProof.Rows
section
open PySem.SeqAt
open PySem.MeetsSeq PySem.MeetsSeq2 PySem.MeetsSeq3
variable {prog:Program}{w:World}{A:Around}{E:Value→Shared→Prop}{s:Shared}
end
end HT
namespace L2
section
variable {X:Cx}{K:Frag}
open PySem PySem.Spec PyProof.Rows
end
namespace Rd
open PySem PySem.Spec PyProof.Rows
end Rd
end L2
namespace L2
open PySem PySem.Spec PyProof.Rows
section
def V0(p:Array Nat):Prop:=p.toList.Pairwise (· < ·)
theorem V0.lt{p:Array Nat}(h:V0 p){i j:Nat}(rB:i<j)(bC:j<p.size):p[i]'(Nat.lt_trans rB bC)<p[j]:=by
 have:=qbg.mp h i j (by simpa using Nat.lt_trans rB bC) (by simpa using bC) rB;simpa using this
theorem Zdf{p:Array Nat}{j:Nat}(bq:V0 p):∀(f lo hi:Nat),lo≤hi→hi≤p.size→hi-lo≤f→(∀i (h:i<p.size),i<lo→p[i]<j)→(∀i (h:i<p.size),hi≤i→j≤p[i])→
  SetTable.below.go p j f lo hi≤p.size∧(∀i (h:i<p.size),i<SetTable.below.go p j f lo hi→p[i]<j)∧∀i (h:i<p.size),SetTable.below.go p j f lo hi≤i→j≤p[i]
 |0,lo,hi,bj,bp,bT,cy,dJ=>by
  have e:lo=hi:=by omega
  subst e;exact⟨bp,cy,dJ⟩
 |f+1,lo,hi,bj,bp,bT,cy,dJ=>by
  unfold SetTable.below.go
  by_cases aj:lo<hi
  ·rw[if_pos aj];have bA:(lo+hi) / 2<p.size:=by omega
   have eF:p.getD ((lo+hi) / 2) j=p[(lo+hi) / 2]:=by simp[Array.getD,bA]
   dsimp only;rw[eF]
   by_cases bu:p[(lo+hi) / 2]<j
   ·rw[if_pos bu];refine Zdf bq f _ _ (by omega) bp (by omega) (λi h dN=>?_) dJ;rcases qbR i ((lo+hi) / 2) with z|z
    ·exact Nat.lt_trans (bq.lt z bA) bu
    ·have:i=(lo+hi) / 2:=by omega
     subst this;exact bu
   ·rw[if_neg bu];refine Zdf bq f _ _ (by omega) (by omega) (by omega) cy λi h dN=>?_;rcases qbR ((lo+hi) / 2) i with z|z
    ·have:=bq.lt z h;omega
    ·have:i=(lo+hi) / 2:=by omega
     subst this;omega
  ·rw[if_neg aj];have e:lo=hi:=by omega
   subst e;exact⟨bp,cy,dJ⟩
theorem Zdi{p:Array Nat}(bq:V0 p)(j:Nat):SetTable.below p j≤p.size∧(∀i (h:i<p.size),i<SetTable.below p j→p[i]<j)∧∀i (h:i<p.size),SetTable.below p j≤i→j≤p[i]:=
 Zdf bq p.size 0 p.size (qau _) (qaa _) (qaa _) (λ_ _ h=>absurd h (qbn _)) λi h z=>absurd h (Nat.not_lt.mpr z)
theorem HB{p:Array Nat}(bq:V0 p){i:Nat}(hi:i<p.size):SetTable.below p (p[i]+1)=i+1:=by
 obtain⟨bj,bp,bT⟩:=Zdi bq (p[i]+1);rcases Nat.lt_trichotomy (SetTable.below p (p[i]+1)) (i+1) with z|z|z
 ·have:=bT i hi (by omega);omega
 ·exact z
 ·have aj:i+1<p.size:=by omega
  have:=bp (i+1) aj z;have:=bq.lt (i:=i) (j:=i+1) (qbE i) aj;omega
theorem Zif{p:Array Nat}(bq:V0 p):SetTable.below p 0=0:=by
 obtain⟨bj,bp,bT⟩:=Zdi bq 0;rcases qa9 (SetTable.below p 0) with z|z
 ·exact z
 ·have:=bp 0 (by omega) z;omega
theorem V0.insert{p:Array Nat}(bq:V0 p){j:Nat}(bO:p[SetTable.below p j]? ≠some j):V0 (SetTable.insertAt p (SetTable.below p j) j):=by
 obtain⟨bj,bp,bT⟩:=Zdi bq j;unfold V0;rw[SetTable.toList_insertAt];generalize SetTable.below p j=b at*;refine List.pairwise_append.mpr ⟨bq.sublist (List.take_sublist _ _),List.pairwise_cons.mpr ⟨λy bR=>?_,bq.sublist (List.drop_sublist _ _)⟩,λx bo y bR=>?_⟩
 ·obtain⟨k,bt,rfl⟩:=qbq.mp bR;rw[List.getElem_drop];rw[qci,qaV] at bt;have a_:b<p.size:=by omega
  have fJ:j<p[b]:=Nat.lt_of_le_of_ne (bT b a_ (qaa _)) λe=>bO (by rw[qaQ a_,e]);rcases qa9 k with rfl|Qz
  ·simpa using fJ
  ·have:=bq.lt (i:=b) (j:=b+k) (by omega) (by omega);simpa using Nat.lt_trans fJ this
 ·have iN:x<j:=by
   obtain⟨k,bt,rfl⟩:=qbq.mp bo;rw[qaO,qaV] at bt;rw[qch];simpa using bp k (by omega) (by omega)
  rcases qae.mp bR with rfl|bR
  ·exact iN
  ·obtain⟨k,bt,rfl⟩:=qbq.mp bR;rw[qci,qaV] at bt;rw[List.getElem_drop];have:=bT (b+k) (by omega) (by omega);have cy:x<p[b+k]:=qag iN this;simpa using cy
theorem HC(n:Nat):V0 (Array.range n):=by
 unfold V0;rw[Array.toList_range];exact List.pairwise_lt_range
structure Z8(led:Bool)(t:SetTable):Prop where
 rise:V0 t.place
 dum:t.dummies=#[]
 led:t.led=led
variable {led:Bool}{t:SetTable}
theorem Z8.fresh:Z8 led (.fresh 0 0 led):=⟨List.Pairwise.nil,rfl,rfl⟩
theorem Z8.standIn(g:Z8 led t)(n:Nat):Z8 led (t.standIn n):=⟨HC n,rfl,g.led⟩
theorem Z8.orStandIn(g:Z8 led t)(n:Nat):Z8 led (t.orStandIn n):=by
 unfold SetTable.orStandIn
 split
 ·exact g
 ·exact g.standIn n
theorem Z8.noDummy(g:Z8 led t)(j:Nat):SetTable.has t.dummies j=false:=by
 rw[g.dum];simp[SetTable.has]
theorem Z8.slot_empty(g:Z8 led t){j:Nat}(h:t.slot j= .empty):t.place[SetTable.below t.place j]? ≠some j:=by
 intro e;unfold SetTable.slot at h;dsimp only at h;rw[e] at h;simp at h
theorem Zei(g:Z8 led t){bF:Nat→Int}{h:Int}:∀(f:Nat)(p:SetTable.Probe)(j:Nat)(d:Option Nat),p.dummy=none→SetTable.probe.go t bF h f p=some (.empty j d)→d=none∧t.slot j= .empty
 |0,p,j,d,bD,e=>by cases e
 |f+1,p,j,d,bD,e=>by
  have HD:∀q:SetTable.Probe,(t.advance q).dummy=q.dummy:=λq=>by
   unfold SetTable.advance
   split<;>rfl
  unfold SetTable.probe.go at e;cases hs:t.slot p.j with
  |empty=>rw[hs] at e;cases e;exact⟨bD,hs⟩
  |dummy=>
   exfalso;unfold SetTable.slot at hs;dsimp only at hs;rw[g.noDummy] at hs
   split at hs<;>simp at hs
  |live i=>
   rw[hs] at e;dsimp only at e
   split at e
   ·cases e
   ·exact Zei g f _ j d (by rw[HD,bD]) e
theorem Z8.put(g:Z8 led t){j:Nat}(h:t.slot j= .empty):Z8 led (t.put j).1:=by
 refine⟨g.rise.insert (g.slot_empty h),?_,g.led⟩;show(if SetTable.has t.dummies j then _ else t.dummies)=#[];rw[g.noDummy];exact g.dum
theorem Z8.layNew(g:Z8 led t)(bE:Array (Int×Value))(h:Int)(x:Value):Z8 led (layNew t bE h x).2.1:=by
 unfold PySem.layNew
 split
 ·rename_i slot was e;dsimp only;refine Z8.orStandIn (g.put ?_) _;unfold SetTable.freeSlot at e
  split at e
  ·rename_i j d bK;obtain⟨rfl,hs⟩:=Zei g _ _ j d rfl bK;cases e;exact hs
  ·cases e
 ·exact g.standIn _
theorem Z8.laid{zz finger HE:Nat}{pl:Bool}{hs:Array Int}{r:SetTable×Array Nat}(e:SetTable.laid zz finger HE led pl hs=some r):Z8 led r.1:=by
 unfold SetTable.laid at e;cases bI:SetTable.layClean zz hs with
 |none=>rw[bI] at e;cases e
 |some owner=>
  rw[bI] at e;cases e;refine⟨?_,rfl,rfl⟩;show List.Pairwise _ _;simp only[List.toList_toArray];rw[qbS];refine List.Pairwise.filterMap _ (R:=(· < ·)) (λa b kW c bu d hd=>?_) List.pairwise_lt_range;cases bG:owner.getD a none with
  |none=>rw[bG] at bu;cases bu
  |some x=>
   cases bK:owner.getD b none with
   |none=>rw[bK] at hd;cases hd
   |some y=>rw[bG] at bu;rw[bK] at hd;cases bu;cases hd;exact kW
theorem Z8.relayAll(g:Z8 led t)(bE:Array (Int×Value))(n:Nat):Z8 led (relayAll t bE n).2.1:=by
 unfold PySem.relayAll
 split
 ·rename_i t' order e;dsimp only
  split
  ·unfold SetTable.relaid at e;rw[g.led] at e;exact Z8.laid e
  ·exact g.standIn _
 ·exact g.standIn _
end
section
noncomputable def keyI:Int×Value→Int
 |(_,.int n _)=>n
 |_=>0
def UQ(led:Bool)(cl:List Int)(o:Obj):Prop:=o.ExactSet∧∃bE ep t,o.data= .set bE ep t∧(∀e∈bE.toList,∃n bY,e=(hashInt n,Value.int n bY))∧bE.size<scanBound∧t.fits bE.size=true∧Z8 led t∧(bE.toList.map keyI).Perm cl
variable {prog:Program}{w:World}{A:Around}{E:Value→Shared→Prop}{s:Shared}{led:Bool}
theorem uC{l:List (Int×Value)}(h:∀e∈l,∃n bY,e=(hashInt n,Value.int n bY)):ElemsOf (intKind prog w) l:=λe bL=>by
 obtain⟨n,bY,rfl⟩:=h e bL;exact⟨⟨n,intKind_is _ _ _ _,rfl⟩,rfl⟩
theorem uD{l:List (Int×Value)}(h:∀e∈l,∃n bY,e=(hashInt n,Value.int n bY)){n:Int}:(∃e∈l,(intKind prog w).is n e.2=true)↔n∈l.map keyI:=by
 constructor
 ·rintro⟨e,bL,hi⟩;obtain⟨m,bY,rfl⟩:=h e bL;have:n=m:=(intKind prog w).inj _ n m hi (intKind_is _ _ _ _);subst this;exact qam.mpr ⟨_,bL,rfl⟩
 ·intro bA;obtain⟨e,bL,bt⟩:=qam.mp bA;obtain⟨m,bY,rfl⟩:=h e bL;cases bt;exact⟨_,bL,intKind_is _ _ _ _⟩
theorem zA{g:Bool→Sem Unit}(bH:∀(b:Bool)(bw:Shared)(il:Unit→Shared→Prop),il () bw→wpAny (model prog w) A (g b) il E bw){a:Addr}{o:Obj}{bE:Array (Int×Value)}{ep:Nat}{t:SetTable}{cl:List Int}{fb:Array (Int×Value)}{dh:SetTable}{was:Bool}{R:Option Bool→Shared→Prop}
  (bI:s.heap.get? a=some o) (i9:o.ExactSet) (hd:o.data= .set bE ep t) (mU:∀e∈fb.toList,∃n bY,e=(hashInt n,Value.int n bY)) (k1:(fb.toList.map keyI).Perm cl) (ja:fb.size<scanBound) (f2:dh.fits fb.size=true) (g2:Z8 led dh)
  (q:∀h' cq,Heap.SameBut a s.heap h'→h'.get? a=some cq→UQ led cl cq→R (some true) {s with heap:=h'}):
  wpAny (model prog w) A (storeSet a fb dh >>= λ_=>if(!was&&dh.tooFull)=true then g (relayAll dh fb (SetTable.grown fb.size)).2.2 >>= λ_=>storeSet a (relayAll dh fb (SetTable.grown fb.size)).1 (relayAll dh fb (SetTable.grown fb.size)).2.1 >>= λ_=>pure (some true) else pure (some true)) R E s:=by
 refine wpAny_bind (wpAny_storeSet_of bI hd ?_ (fits_of_scanBound ja));have hP:=Heap.SameBut.update s.heap a (Obj.putSet fb dh);obtain⟨mV,_⟩:=SetOf_store (knd:=intKind prog w) (S':=λk=>decide (k∈cl)) bI i9 hd (uC mU) (λk=>by rw[uD mU,k1.mem_iff];simp) ja f2
 split
 ·have kX:=relayAll_perm dh fb (SetTable.grown fb.size);have df:=relayAll_fits dh fb (SetTable.grown fb.size);have g3:=g2.relayAll fb (SetTable.grown fb.size);generalize relayAll dh fb (SetTable.grown fb.size)=R at kX df g3⊢;obtain⟨pN,jb,QA⟩:=R;dsimp only at kX df g3⊢;have dz:pN.size=fb.size:=by have:=kX.length_eq;simpa using this
  have mW:pN.size<scanBound:=by rw[dz];exact ja
  have uE:∀e∈pN.toList,∃n bY,e=(hashInt n,Value.int n bY):=λe bL=>mU e (kX.mem_iff.mp bL);have k3:(pN.toList.map keyI).Perm cl:=(kX.map keyI).trans k1;refine wpAny_bind (bH _ _ _ ?_);refine wpAny_bind (wpAny_storeSet_of mV rfl ?_ (fits_of_scanBound mW));obtain⟨HF,_⟩:=SetOf_store (knd:=intKind prog w) (S':=λk=>decide (k∈cl)) mV i9 rfl (uC uE) (λk=>by rw[uD uE,k3.mem_iff];simp) mW df;exact wpAny_pure (q _ _ (hP.trans (Heap.SameBut.update _ a _)) HF ⟨i9,pN,_,jb,rfl,uE,mW,df,g3,k3⟩)
 ·exact wpAny_pure (q _ _ hP mV ⟨i9,fb,_,dh,rfl,mU,ja,f2,g2,k1⟩)
theorem ZkG{a:Addr}{o:Obj}{cl:List Int}{n:Int}{bY:Tok}{Q:Bool→Shared→Prop}(bI:s.heap.get? a=some o)(di:UQ led cl o)(QB:cl.length+1<scanBound)
  (q:∀h' cq,Heap.SameBut a s.heap h'→h'.get? a=some cq→UQ led (step_dedup cl n) cq→∀b,Q b {s with heap:=h'}):wpAny (model prog w) A (setAddHashed a (.int n bY) (hashInt n)) Q E s:=by
 obtain⟨i9,bE,ep,t,hd,n0,a_,bJ,bH,bD⟩:=di;have gq:ElemsOf (intKind prog w) bE.toList:=uC n0;have lI:bE.size=cl.length:=by have:=bD.length_eq;simpa using this
 have jB:(∃e∈bE.toList,(intKind prog w).is n e.2=true)↔n∈cl:=(uD n0).trans bD.mem_iff;unfold setAddHashed setAddHashedIn;refine wpAny_holding (wpAny_bind (wpAny_setState_of bI hd bJ ?_));dsimp only;rw[byScan_of (x:= .int n bY) rfl a_ gq,if_pos rfl];refine wpAny_bind ?_;unfold setAddByScan;refine wpAny_bind (wpAny_rule (wpAny_bind (wpAny_setScan_of (knd:=intKind prog w) (k:=n) (intKind_is _ _ _ _) bI hd bJ gq ?_)));cases bq:bE.toList.findIdx? (λe=>(intKind prog w).is n e.2) with
 |some j=>
  dsimp only;obtain⟨bC,HG,_⟩:=List.findIdx?_eq_some_iff_getElem.mp bq;have d5:n∈cl:=jB.mp ⟨_,GM bC,HG⟩;have e:step_dedup cl n=cl:=by
   unfold step_dedup;rw[if_pos (by simpa using d5)]
  refine wpAny_pure (wpAny_pure ?_);exact q s.heap o (Heap.SameBut.refl a s.heap) bI (by rw[e];exact⟨i9,bE,ep,t,hd,n0,a_,bJ,bH,bD⟩) false
 |none=>
  dsimp only;have HH:n∉cl:=λz=>by
   obtain⟨e,bL,hi⟩:=jB.mpr z;have:=List.findIdx?_eq_none_iff.mp bq e bL;rw[hi] at this;cases this
  have e:step_dedup cl n=cl++ [n]:=by
   unfold step_dedup;rw[if_neg (by simpa using HH)]
  have dZ:=layNew_perm t bE (hashInt n) (.int n bY);have f1:=layNew_fits t bE (hashInt n) (.int n bY);have g1:=bH.layNew bE (hashInt n) (.int n bY);generalize layNew t bE (hashInt n) (Value.int n bY)=L at dZ f1 g1⊢;obtain⟨fb,hW,was,QC⟩:=L;dsimp only at dZ f1 g1⊢;rw[Array.toList_push] at dZ;have mU:∀e∈fb.toList,∃n bY,e=(hashInt n,Value.int n bY):=λe bL=>by
   rcases qaH.mp (dZ.mem_iff.mp bL) with z|z
   ·exact n0 e z
   ·exact⟨n,bY,qac.mp z⟩
  have k1:(fb.toList.map keyI).Perm (cl++ [n]):=(dZ.map keyI).trans (by rw[qaW];exact bD.append_right _);have cH:fb.size=cl.length+1:=by have:=k1.length_eq;simpa using this
  have ja:fb.size<scanBound:=by omega
  have uF:∀(b:Bool)(bw:Shared)(il:Unit→Shared→Prop),il () bw→wpAny (model prog w) A (match b with|true=>rule "set.scan.the-table-gave-way" |false=>pure ()) il E bw:=λb bw il bj=>by
   cases b
   ·exact wpAny_pure bj
   ·exact wpAny_rule bj
  refine wpAny_bind (uF _ _ _ ?_);have d4:∀h' cq,Heap.SameBut a s.heap h'→h'.get? a=some cq→UQ led (cl++ [n]) cq→wpAny (model prog w) A (pure true) Q E {s with heap:=h'}:=λh' cq x y z=>wpAny_pure (q h' cq x y (by rw[e];exact z) true)
  split
  ·refine wpAny_bind ?_;rw[hashByValue_scannable 8 (x:= .int n bY) rfl];refine wpAny_pure (zA (g:=_) ?_ bI i9 hd mU k1 ja f1 g1 d4);exact uF
  ·refine wpAny_bind (wpAny_pure (zA (g:=_) ?_ bI i9 hd mU k1 ja f1 g1 d4));exact uF
end
section
variable {prog:Program}{w:World}{A:Around}{led:Bool}
theorem Zjj(val:Nat→Int)(i:Nat):(firstMet val i).length≤i:=firstMet_length_le val i
theorem Zkr{R:Result→Shared→Prop}{I S:Addr}{fp pO:List Addr}{G:Array GenState→Array GenState→Prop}{n:Nat}{P:Nat→Value→Prop}{St:Nat→Shared→Prop}(W:WalksS prog w A.in1 I fp pO G n P St)(mS:S∉fp)(val:Nat→Int)(zB:∀i v,P i v→∃t,v= .int (val i) t)(a_:n+1<scanBound):
  ∀(k i:Nat)(s:Shared)(o:Obj),n-i=k→i≤n→St i s→s.heap.get? S=some o→UQ led (firstMet val i) o→
   (∀bz cq,Moved (S::pO) G s bz→bz.heap.get? S=some cq→UQ led (firstMet val n) cq→R (.ok (.ret .none)) bz)→codeAny (model prog w) A (.builtin "set.update.loop" ⟨[.ref S,.ref I],[]⟩) R s:=by
 have zC:S∉pO:=λz=>mS (W.sub _ z);have nT:∀b∈pO,b∈S::pO:=λb z=>qaq _ z;intro k
 induction k with
 |zero=>
  intro i s o bt hi st di sS q;obtain rfl:i=n:=by omega
  refine codeAny_builtin F.entry_set_update_loop ?_;rw[Around.under_plainId F.plain_set_update_loop];refine wpAny_bind (W.done s _ _ st λbw im=>?_);exact wpAny_pure (q bw o (im.mono nT) (im.heap S o zC di) sS)
 |succ k bQ=>
  intro i s o bt hi st di sS q;have cJ:i<n:=by omega
  refine codeAny_builtin F.entry_set_update_loop ?_;rw[Around.under_plainId F.plain_set_update_loop];refine wpAny_bind (W.item i s _ _ cJ st λv bw dU HI im=>?_);obtain⟨t,rfl⟩:=zB i v dU;have n1:=im.heap S o zC di;refine wpAny_bind (wpAny_holding ?_);unfold setAdd;refine wpAny_holding (wpAny_bind ((intKind prog w).pyHash (k:=val i) (intKind_is _ _ _ _) ?_));have bq:(firstMet val i).length+1<scanBound:=by have:=Zjj val i;omega
  refine ZkG (s:={bw with toks:=bw.toks+1}) n1 sS bq λbp g5 hP h2o bU b=>?_;rw[←firstMet_succ] at bU;refine wpAny_pure ⟨plainId_quiet F.plain_set_update_loop _,bQ (i+1) _ g5 (by omega) cJ (W.frame _ bw _ _ HI (qce _) λc bu gK de=>?_) h2o bU λbS gK mv3 bT g3=>?_⟩
  ·rw[hP.2 c λz=>mS (z▸bu)];exact de
  ·refine q bS gK (Moved.trans W.gtrans ((im.mono nT).then_heap (qce _) λc rC bu hj=>?_) mv3) bT g3;rw[hP.2 c λz=>bu (z▸qbo)];exact hj
theorem HJ{E:Value→Shared→Prop}{s:Shared}(a:Value){Q:Value→Shared→Prop}
  (h:Q (.ref s.heap.objs.size) {s with heap:=s.heap.push {cls:= .type "set",dict:=none,data:= .set #[] 0 (.fresh 0 0 (!w.params.followText "set-order"))}}):
  codeAny (model prog w) A (.call (.builtin "set.__new__") ⟨[.type "set",a],[]⟩) (wants Q E) s:=by
 refine codeAny_of_tree ?_;refine wpAny_bind (wpAny_of_eq (F.newCall_set_1 a) (wpAny_pure ⟨plainId_quiet F.plain_set_new _,codeAny_builtin F.entry_set_new ?_⟩));rw[Around.under_plainId F.plain_set_new _];unfold Builtin.«set.__new__» Builtin.Frozenset.newClass;have HK:=sub_set_self;obtain⟨bD,g,d,bY,os⟩:=s;dsimp only
 wp_walk
 refine wpAny_askSetting (wpAny_pure ?_);dsimp only;simp only[newObj];exact wpAny_bind (wpAny_alloc (wpAny_pure (wpAny_pure h)))
end
section
variable {prog:Program}{w:World}{A:Around}
theorem Zlg{E:Value→Shared→Prop}{s:Shared}{l:Addr}{items:Array Value}{ns:List Int}{Q:Value→Shared→Prop}(b6:A.handled=none)(aj:s.heap.IsList l items)(hi:IntsAre items.toList ns)(a_:items.size+1<scanBound)
  (q:∀(h':Heap)(bY:Nat)(o:Obj),h'.get? s.heap.objs.size=some o→UQ (!w.params.followText "set-order") (firstMet (λi=>ns.getD i 0) items.size) o→
   (∀b o,b<s.heap.objs.size→s.heap.get? b=some o→h'.get? b=some o)→Q (.ref s.heap.objs.size) {s with heap:=h',toks:=bY}):
  wpAny (model prog w) A (call (.type "set") [.ref l]) Q E s:=by
 obtain⟨c,dP,QD⟩:=F.called_set.mro;have QE:=F.called_set.made;have HK:=F.called_set.sub;refine wpAny_call (codeAny_of_tree ?_);refine wpAny_pure ⟨Code.quiet_builtin _ (by decide+kernel),codeAny_builtin F.entry_type_call ?_⟩;rw[Around.under_plain (weight_type_call_type "set" [.ref l] []) rfl];have fF:=F.called_set.notType;have e4:=F.called_set.canCreate;have mX:=F.typeCall_set_1 (.ref l)
 repeat (any_goals (first|assumption|wp_step))
 clear e4 mX;refine codeAny_mono (HJ (.ref l) (E:=E) (Q:=λv bw=>v= .ref s.heap.objs.size∧bw={s with heap:=s.heap.push {cls:= .type "set",dict:=none,data:= .set #[] 0 (.fresh 0 0 (!w.params.followText "set-order"))}}) ⟨rfl,rfl⟩) λr bw bq=>?_;rcases r with e|gk
 ·exact bq
 cases gk with
 |ret v=>
  obtain⟨rfl,rfl⟩:=bq;generalize ed:({cls:= .type "set",dict:=none,data:= .set #[] 0 (.fresh 0 0 (!w.params.followText "set-order"))}:Obj)=N;have HL:N.cls= .type "set" :=by rw[←ed]
  have HN:UQ (!w.params.followText "set-order") [] N:=by
   rw[←ed];exact⟨⟨rfl,rfl,rfl⟩,#[],0,_,rfl,by simp,by decide,by rfl,Z8.fresh,by simp⟩
  have di:(s.heap.push N).get? s.heap.objs.size=some N:=Heap.get?_push_size _ (by rw[←ed];rfl);have c9:Shared.TypeIs {s with heap:=s.heap.push N} (.ref s.heap.objs.size) "set" :=⟨_,di,HL⟩;have HP:=F.called_set.init.lookup;have bi:=F.called_set.init.bind (.ref s.heap.objs.size)
  repeat (any_goals (first|assumption|wp_step))
  refine codeAny_mono (codeAny_call_builtin (R:=wants (λr bU=>r= .none∧∃h' bY o,bU={s with heap:=h',toks:=bY}∧h'.get? s.heap.objs.size=some o∧UQ (!w.params.followText "set-order") (firstMet (λi=>ns.getD i 0) items.size) o∧(∀b o,b<s.heap.objs.size→s.heap.get? b=some o→h'.get? b=some o)) E) F.called_set.init.plain F.entry_set_init (check_set_init_1 c9 ?_)) λr bU bq=>?_
  ·have j2:(s.heap.push N).IsList l items:=aj.push _;obtain⟨rD,zD,eu,HQ,lJ⟩:=aj;obtain⟨QF,HR,QG,HS⟩:=rD;simp only at eu lJ;subst eu lJ;have zE:(s.heap.push N).get? l=some {cls:= .type "list",dict:=HR,data:= .seq items HQ,slots:=HS}:=Heap.get?_push_of_some _ zD;have x1:=F.sub_list_set;have x2:=F.sub_list_frozenset;have x3:(Value.type "list" ==Value.type "dict")=false:=by decide
   have mT:=di;rw[←ed] at di c9 zE⊢;unfold Builtin.«set.__init__» noKeywords Builtin.Frozenset.updateFrom;generalize HV:pyIter=PI
   wp_walk
   subst HV;rw[ed] at zE di c9⊢;refine wpAny_pyIter_list j2 ?_;refine wpAny_bind (wpAny_runValue ?_);have zF:l<s.heap.objs.size:=Heap.lt_size zD;have gf:A.in1.in1.in1.handled=none:=by simp[b6]
   have HW:l≠(s.heap.push N).objs.size:=by
    rw[Heap.size_push];exact qak (qbh zF)
   have nf:s.heap.objs.size∉[(s.heap.push N).objs.size,l]:=by
    rw[Heap.size_push];simp only[qae,qaG,or_false,not_or];exact⟨qak (qbE _),qbJ zF⟩
   refine Zkr ((Walks.list gf _ l HW items).toS) nf (λi=>ns.getD i 0) (λi v b_=>IntsAre.int_at hi i v (by rw[qa7];exact b_)) a_ (items.size-0) 0 _ N (by omega) (qau _) ⟨⟨_,Heap.get?_push_size _ rfl,rfl,rfl⟩,j2.push _⟩ (Heap.get?_push_of_some _ di) HN λbS gK im bT g3=>?_;obtain⟨h',g',d',HX,tJ⟩:=bS;obtain rfl:g'=s.gens:=im.gens;obtain rfl:d'=s.drawn:=im.drawn;obtain rfl:tJ=s.os:=im.os;show wpAny _ _ _ _ _ _;refine wpAny_pure ?_;show wpAny _ _ (ret Value.none) _ _ _;refine wpAny_pure ⟨rfl,h',HX,gK,rfl,bT,g3,λb o fJ e=>im.heap b o ?_ (Heap.get?_push_of_some _ (Heap.get?_push_of_some _ e))⟩;rw[Heap.size_push];simp only[qae,qaG,or_false,not_or];exact⟨qak fJ,qak (qbh fJ)⟩
  ·rcases r with e|gk
   ·exact bq
   cases gk with
   |ret v=>
    obtain⟨rfl,h',bY,o,rfl,bj,bp,bT⟩:=bq
    repeat (any_goals (first|assumption|wp_step))
    exact q _ _ _ bj bp bT
   |_=>exact bq.elim
 |_=>exact bq.elim
end
section
theorem pP:Slot "set_iterator" "__next__" "set_iterator.__next__" := .of (owner:="set_iterator") (n:="__next__") (by rw[typeLookup_type,builtinLookup_eq_fast];kernel_rfl) (by decide+kernel) (by decide+kernel) (by decide+kernel) (by first|exact .inl (by decide+kernel)|exact .inr (by decide+kernel)) (by rw[isSubtype_type];kernel_rfl)
theorem zG:Slot "set_iterator" "__iter__" "set_iterator.__iter__" := .of (owner:="set_iterator") (n:="__iter__") (by rw[typeLookup_type,builtinLookup_eq_fast];kernel_rfl) (by decide+kernel) (by decide+kernel) (by decide+kernel) (by first|exact .inl (by decide+kernel)|exact .inr (by decide+kernel)) (by rw[isSubtype_type];kernel_rfl)
theorem HY:entryFor table "set_iterator.__next__" =some Builtin.«set_iterator.__next__»:=entryFor_of_tree (by kernel_rfl)
theorem HZ:entryFor table "set_iterator.__iter__" =some Builtin.«dict_keyiterator.__iter__»:=entryFor_alias (id':="dict_keyiterator.__iter__") (by kernel_rfl) rfl (by decide+kernel) (by kernel_rfl)
theorem H1:entryFor table "set.__iter__" =some Builtin.«frozenset.__iter__»:=entryFor_alias (id':="frozenset.__iter__") (by kernel_rfl) rfl (by decide+kernel) (by kernel_rfl)
theorem zH:Manifest.owners.lookup (String.ofList "set_iterator".toList.reverse.reverse)=some Manifest.sig_set_iterator:=by kernel_rfl
theorem H2(a:Value):argsOk "set_iterator.__next__" ⟨[a],[]⟩:=by
 unfold argsOk;rw[signature?_of (id:="set_iterator.__next__") (n:=['_','_','t','x','e','n','_','_']) (o:="set_iterator".toList.reverse) (by kernel_rfl) zH]
 kernel_rfl
theorem H3(a:Value):argsOk "set_iterator.__iter__" ⟨[a],[]⟩:=by
 unfold argsOk;rw[signature?_of (id:="set_iterator.__iter__") (n:=['_','_','r','e','t','i','_','_']) (o:="set_iterator".toList.reverse) (by kernel_rfl) zH]
 kernel_rfl
noncomputable def jc (first:Value) (i:Nat) (a:Addr) (n ep:Nat):Obj:={cls:= .type "set_iterator",dict:=none,data:= .fields #[first,.int i 0,.ref a,.int n 0,.int ep 0],slots:=#[]}
variable {prog:Program}{w:World}{A:Around}{E:Value→Shared→Prop}{s:Shared}
theorem H4{H5:Source}{n:Nat}{Q:Nat→Shared→Prop}(bO:n≠0)(h:∀i d,i<n→Q i {s with drawn:=d}):wpAny (model prog w) A (choose H5 n) Q E s:=
 λ_ _ _=>⟨bO,h _ _ (Nat.mod_lt _ (Nat.pos_of_ne_zero bO))⟩
theorem uG{cM:Type}:∀{l:List cM}{i:Nat}(h:i<l.length),(l[i]::l.eraseIdx i).Perm l
 |x::l,0,_=>by simp
 |x::l,i+1,h=>by
  rw[List.getElem_cons_succ,List.eraseIdx_cons_succ];exact(List.Perm.swap _ _ _).trans ((uG (by simpa using h)).cons x)
theorem zI{cM:Type}:∀(xs:List cM)(s:Shared)(Q:List cM→Shared→Prop),(∀ys d,ys.Perm xs→Q ys {s with drawn:=d})→wpAny (model prog w) A (drawOrder xs.length xs) Q E s
 | [],s,Q,h=>wpAny_pure (h [] s.drawn .rfl)
 |x::xs,s,Q,h=>by
  show wpAny _ _ (choose .order (x::xs).length >>= _) _ _ _;refine wpAny_bind (H4 (by simp) λi d hi=>?_);rw[GT hi];have bD:=uG (l:=x::xs) hi;generalize (x::xs)[i]=y at bD⊢;have eg:xs.length=((x::xs).eraseIdx i).length:=by rw[List.length_eraseIdx_of_lt hi];rfl
  show wpAny _ _ (drawOrder xs.length ((x::xs).eraseIdx i) >>= _) _ _ _;generalize (x::xs).eraseIdx i=zs at bD eg⊢;rw[eg];refine wpAny_bind (zI zs _ _ λys jA bR=>?_);exact wpAny_pure (h (y::ys) jA ((bR.cons y).trans bD))
 termination_by xs=>xs.length
 decreasing_by simp_wf;omega
theorem zJ{cM:Type}(next:Nat→Nat):∀(f k:Nat)(l:List cM)(out:Array cM),f=l.length→(pickOrder.go next f k l out).toList.Perm (out.toList++l)
 |0,k,l,out,e=>by
  obtain rfl:l=[]:=List.eq_nil_of_length_eq_zero e.symm;simp[pickOrder.go]
 |f+1,k,l,out,e=>by
  have hi:next k % l.length<l.length:=Nat.mod_lt _ (by omega);unfold pickOrder.go;rw[GT hi];refine(zJ next f (k+1) _ _ (by rw[List.length_eraseIdx_of_lt hi];omega)).trans ?_;rw[Array.toList_push,List.append_assoc];exact(uG hi).append_left _
theorem uH{cM:Type}(next:Nat→Nat)(xs:Array cM):(pickOrder next xs).toList.Perm xs.toList:=by
 have:=zJ next xs.size 0 xs.toList #[] (by simp);simpa[pickOrder] using this
theorem zK{gm:Around}{it:Addr}{Q:Option Value→Shared→Prop}(b6:A.handled=none){bj:Heap}(a_:Heap.SameBut it s.heap bj)(q:∀h',Heap.ExtBut it s.heap h'→Q none {s with heap:=h'}):
  wpAny (model prog w) A (newExc (.type "StopIteration") [] >>= λe=>(raiseNew e:Sem Fin)) (λ_ _=>False) (λe bz=>wpAny (model prog w) gm (isInstance e (.type "StopIteration") >>= λb=>if b=true then pure none else throw e) Q E bz) {s with heap:=bj}:=by
 refine wpAny_bind ?_;simp only[newExc,newTuple];refine wpAny_bind (wpAny_newObj_type ?_ (by size_fits));refine wpAny_bind (m:=firstArgMember _ _) (wpAny_of_eq (a:=Value.none) (by first|rfl|(simp only[firstArgMember];rfl)) ?_);refine wpAny_newObj_type ?_ (by size_fits);simp only[raiseNew];refine wpAny_bind (wpAny_handled ?_);rw[b6];refine wpAny_bind (wpAny_pure (wpAny_throw ?_));exact wpAny_bind (wpAny_isInstance (T:="StopIteration") (b:=true) ⟨_,Heap.get?_push_size _ rfl,rfl⟩ isSubtype_stop (wpAny_pure (q _ ((a_.extBut.push _).push _))))
variable {it a:Addr}{o:Obj}{bE:Array (Int×Value)}{ep i:Nat}{t:SetTable}{Q:Option Value→Shared→Prop}
theorem ZfI{first:Value}(dQ:s.heap.get? it=some (jc first i a bE.size ep))(h:wpAny (model prog w) A.in1 (Builtin.«set_iterator.__next__» ⟨[.ref it],[]⟩) (λd4 bz=>∃x,d4= .done (.ret x)∧Q (some x) bz) (λe bz=>wpAny (model prog w) A (isInstance e (.type "StopIteration") >>= λb=>if b=true then pure none else throw e) Q E bz) s):wpAny (model prog w) A (pyNext (.ref it)) Q E s:=by
 have c9:s.TypeIs (.ref it) "set_iterator" :=⟨_,dQ,rfl⟩;unfold pyNext;refine wpAny_bind (wpAny_attempt (wpAny_callSpecial?_slot (name:=Str.ofString "__next__") c9 pP (wpAny_call_entry pP c9 HY ?_ (H2 _))));refine wpAny_mono h (λd4 bz z=>?_) λe bz z=>?_
 ·obtain⟨x,rfl,q⟩:=z;exact⟨x,rfl,wpAny_pure q⟩
 ·exact z
theorem ZhR{sl nx:Nat}{v:Value}(dQ:s.heap.get? it=some (jc (.int sl 0) i a bE.size ep))(bI:s.heap.get? a=some o)(hd:o.data= .set bE ep t)(bJ:t.fits bE.size=true)
  (bo:∀{A:Around}{E:Value→Shared→Prop}(Q:Option (Value×Nat)→Shared→Prop),Q (some (v,nx)) s→wpAny (model prog w) A (setNext a sl i ep) Q E s)
  (q:∀h',h'.get? it=some (jc (.int nx 0) (i+1) a bE.size ep)→Heap.SameBut it s.heap h'→Q (some v) {s with heap:=h'}):wpAny (model prog w) A (pyNext (.ref it)) Q E s:=by
 refine ZfI dQ ?_;unfold Builtin.«set_iterator.__next__»;refine wpAny_bind (m:=slotArgs _ _ _) (wpAny_pure (wpAny_bind (wpAny_fieldsOf dQ rfl ?_)));show wpAny _ _ (setEntries a >>= _) _ _ _;refine wpAny_bind (wpAny_setEntries_of bI hd bJ ?_);rw[if_neg (by simp)];show wpAny _ _ (setNext a _ _ _ >>= _) _ _ _;simp only[qab];refine wpAny_bind (bo _ ?_);refine wpAny_bind (wpAny_setField_rec dQ (by simp) λbj bG eb=>?_);refine wpAny_bind (wpAny_setField_rec (s:={s with heap:=bj}) bG (by simp) λbp bK eT=>?_);exact wpAny_pure ⟨v,rfl,q bp bK (eb.trans eT)⟩
theorem Zkc{sl:Nat}(b6:A.handled=none)(dQ:s.heap.get? it=some (jc (.int sl 0) i a bE.size ep))(bI:s.heap.get? a=some o)(hd:o.data= .set bE ep t)(bJ:t.fits bE.size=true)
  (bo:∀{A:Around}{E:Value→Shared→Prop}(Q:Option (Value×Nat)→Shared→Prop),Q none s→wpAny (model prog w) A (setNext a sl i ep) Q E s)
  (q:∀h',Heap.ExtBut it s.heap h'→Q none {s with heap:=h'}):wpAny (model prog w) A (pyNext (.ref it)) Q E s:=by
 refine ZfI dQ ?_;unfold Builtin.«set_iterator.__next__»;refine wpAny_bind (m:=slotArgs _ _ _) (wpAny_pure (wpAny_bind (wpAny_fieldsOf dQ rfl ?_)));show wpAny _ _ (setEntries a >>= _) _ _ _;refine wpAny_bind (wpAny_setEntries_of bI hd bJ ?_);rw[if_neg (by simp)];show wpAny _ _ (setNext a _ _ _ >>= _) _ _ _;simp only[qab];refine wpAny_bind (bo _ ?_);refine wpAny_bind (wpAny_setField_rec dQ (by simp) λbj bG eb=>?_);exact wpAny_mono (zK (A:=A.in1) b6 eb q) (λ_ _ z=>False.elim z) λ_ _ z=>z
theorem Zmm{T:Addr}{items:Array Value}{pl:Nat}{k:Int}{v:Value}(dQ:s.heap.get? it=some (jc (.ref T) i a bE.size ep))(c9:s.heap.IsTuple T items)(hi:items[i]? =some (.int pl 0))(b_:bE[pl]? =some (k,v))(bI:s.heap.get? a=some o)(hd:o.data= .set bE ep t)(bJ:t.fits bE.size=true)
  (q:∀h',h'.get? it=some (jc (.ref T) (i+1) a bE.size ep)→Heap.SameBut it s.heap h'→Q (some v) {s with heap:=h'}):wpAny (model prog w) A (pyNext (.ref it)) Q E s:=by
 obtain⟨n2,uI,H6,H7,uJ⟩:=c9;refine ZfI dQ ?_;unfold Builtin.«set_iterator.__next__»;refine wpAny_bind (m:=slotArgs _ _ _) (wpAny_pure (wpAny_bind (wpAny_fieldsOf dQ rfl ?_)));show wpAny _ _ (setEntries a >>= _) _ _ _;refine wpAny_bind (wpAny_setEntries_of bI hd bJ ?_);rw[if_neg (by simp)];show wpAny _ _ (seqItems? (.ref T) >>= _) _ _ _;refine wpAny_bind (wpAny_seqItems uI uJ ?_);simp only[qab,hi];unfold setNextDrawn;refine wpAny_bind (wpAny_bind (wpAny_setState_of bI hd bJ ?_));dsimp only;rw[if_neg (by simp),b_];refine wpAny_pure ?_;refine wpAny_bind (wpAny_setField_rec dQ (by simp) λbp bK eT=>?_);exact wpAny_pure ⟨v,rfl,q bp bK eT⟩
theorem Znh{T:Addr}{items:Array Value}(b6:A.handled=none)(dQ:s.heap.get? it=some (jc (.ref T) i a bE.size ep))(c9:s.heap.IsTuple T items)(hi:items[i]? =none)(bI:s.heap.get? a=some o)(hd:o.data= .set bE ep t)(bJ:t.fits bE.size=true)
  (q:∀h',Heap.ExtBut it s.heap h'→Q none {s with heap:=h'}):wpAny (model prog w) A (pyNext (.ref it)) Q E s:=by
 obtain⟨n2,uI,H6,H7,uJ⟩:=c9;refine ZfI dQ ?_;unfold Builtin.«set_iterator.__next__»;refine wpAny_bind (m:=slotArgs _ _ _) (wpAny_pure (wpAny_bind (wpAny_fieldsOf dQ rfl ?_)));show wpAny _ _ (setEntries a >>= _) _ _ _;refine wpAny_bind (wpAny_setEntries_of bI hd bJ ?_);rw[if_neg (by simp)];show wpAny _ _ (seqItems? (.ref T) >>= _) _ _ _;refine wpAny_bind (wpAny_seqItems uI uJ ?_);simp only[qab,hi];refine wpAny_bind (wpAny_setField_rec dQ (by simp) λcd ea cS=>?_);refine wpAny_bind (wpAny_setField_rec (s:={s with heap:=cd}) ea (by simp) λbj bG eb=>?_);exact wpAny_mono (zK (A:=A.in1) (s:=s) b6 (cS.trans eb) q) (λ_ _ z=>False.elim z) λ_ _ z=>z
theorem Zfg{sl:Nat}(hw:w.params.followText "set-order" =true)(bI:s.heap.get? a=some o)(hd:o.data= .set bE ep t)(bJ:t.fits bE.size=true)(Q:Option (Value×Nat)→Shared→Prop)(q:Q (((pickOrder (w.params.setOrder a ep) bE)[i]?).map λe=>(e.2,sl)) s):wpAny (model prog w) A (setNext a sl i ep) Q E s:=by
 unfold setNext setsByText;refine wpAny_bind (wpAny_setState_of bI hd bJ ?_);dsimp only;refine wpAny_bind (wpAny_bind (wpAny_askSetting (wpAny_pure ?_)));show wpAny _ _ (if w.params.followText "set-order" =true then _ else _) _ _ _;rw[if_pos hw,if_neg (by simp)];unfold setWalk setsByText;refine wpAny_bind (wpAny_bind (wpAny_setState_of bI hd bJ ?_));dsimp only;refine wpAny_bind (wpAny_bind (wpAny_askSetting (wpAny_pure ?_)));show wpAny _ _ (if w.params.followText "set-order" =true then _ else _) _ _ _;rw[if_pos hw];exact wpAny_bind (wpAny_askSetting (wpAny_pure (wpAny_pure q)))
theorem Zeb{sl:Nat}(hw:w.params.followText "set-order" =false)(bI:s.heap.get? a=some o)(hd:o.data= .set bE ep t)(bJ:t.fits bE.size=true)(bD:(!t.plain&&decide (bE.size > 1))=false)(aj:t.led=true)(Q:Option (Value×Nat)→Shared→Prop)
  (q:Q (match bE[SetTable.below t.place sl]?,t.place[SetTable.below t.place sl]? with|some (_,x),some j=>some (x,j+1)|_,_=>none) s):wpAny (model prog w) A (setNext a sl i ep) Q E s:=by
 unfold setNext setsByText;refine wpAny_bind (wpAny_setState_of bI hd bJ ?_);dsimp only;refine wpAny_bind (wpAny_bind (wpAny_askSetting (wpAny_pure ?_)));show wpAny _ _ (if w.params.followText "set-order" =true then _ else _) _ _ _;rw[if_neg (by rw[hw];simp)];show wpAny _ _ (if(!t.plain&&decide (bE.size > 1))=true then _ else _) _ _ _;rw[if_neg (by rw[bD];simp)];refine wpAny_bind ?_;show wpAny _ _ (if(!t.led&& !bE.isEmpty)=true then _ else _) _ _ _;rw[if_neg (by rw[aj];simp)];exact wpAny_pure (wpAny_pure q)
end
section
variable {prog:Program}{w:World}{A:Around}{E:Value→Shared→Prop}{s:Shared}{it a:Addr}{o:Obj}{bE:Array (Int×Value)}{ep i:Nat}{t:SetTable}
theorem ZeH{first:Value}{n:Nat}{Q:Value→Shared→Prop}(dQ:s.heap.get? it=some (jc first i a n ep))(q:Q (.ref it) s):wpAny (model prog w) A (pyIter (.ref it)) Q E s:=by
 have c9:s.TypeIs (.ref it) "set_iterator" :=⟨_,dQ,rfl⟩;refine wpAny_pyIter_slot c9 zG (wpAny_call_entry zG c9 HZ ?_ (H3 _));show wpAny _ _ (ret (.ref it)) _ _ s;exact wpAny_pure ⟨_,rfl,"set_iterator",_,c9,pP.lookup,q⟩
theorem Zic(b6:A.handled=none)(I:Addr)(eR:a≠I)(hw:w.params.followText "set-order" =true)(hd:o.data= .set bE ep t)(bJ:t.fits bE.size=true):
  PySem.Walks prog w A I [I,a] [I] bE.size (λi v=>((pickOrder (w.params.setOrder a ep) bE).toList.map (·.2))[i]? =some v) (λi h=>h.get? I=some (jc (.int (0:Nat) 0) i a bE.size ep)∧h.get? a=some o) where
 sub:=λb a_=>by simp at a_;simp[a_]
 frame:=λ_ _ _ st bt=>⟨bt I (by simp) _ st.1,bt a (by simp) _ st.2⟩
 item:=λi s Q E hi st q=>by
  have hz:(pickOrder (w.params.setOrder a ep) bE).size=bE.size:=by have:=(uH (w.params.setOrder a ep) bE).length_eq;simpa using this
  have dN:i<(pickOrder (w.params.setOrder a ep) bE).size:=by rw[hz];exact hi
  refine ZhR (nx:=0) (v:=((pickOrder (w.params.setOrder a ep) bE)[i]).2) st.1 st.2 hd bJ (λil cg=>Zfg hw st.2 hd bJ il (by rw[qaQ dN];exact cg)) λh' e b=>?_;exact q _ h' s.toks (by rw[qaj,qa7,qaQ dN];rfl) ⟨e,b.extBut a _ eR st.2⟩ λkG cq a_ cf=>b.extBut kG cq (λz=>a_ (by simp[z])) cf
 done:=λs Q E st q=>by
  have hz:(pickOrder (w.params.setOrder a ep) bE).size=bE.size:=by have:=(uH (w.params.setOrder a ep) bE).length_eq;simpa using this
  refine Zkc b6 st.1 st.2 hd bJ (λil cg=>Zfg hw st.2 hd bJ il (by rw[Array.getElem?_eq_none (by omega)];exact cg)) λh' e=>q h' s.toks λb cq a_ cf=>e b cq (λz=>a_ (by simp[z])) cf
 self:=λ_ _ _ _ st q=>ZeH st.1 q
noncomputable def n3 (t:SetTable) (i:Nat):Nat:=if i=0 then 0 else t.place.getD (i-1) 0+1
theorem ZbK{led:Bool}(g:Z8 led t){n:Nat}(hz:t.place.size=n)(hi:i≤n):SetTable.below t.place (n3 t i)=i:=by
 unfold n3
 split
 ·rename_i e;rw[e];exact Zif g.rise
 ·have bj:i-1<t.place.size:=by omega
  have e:t.place.getD (i-1) 0=t.place[i-1]:=by simp[Array.getD,bj]
  rw[e,HB g.rise bj];omega
theorem Zhf{led:Bool}(b6:A.handled=none)(I:Addr)(eR:a≠I)(hw:w.params.followText "set-order" =false)(hd:o.data= .set bE ep t)(bJ:t.fits bE.size=true)(bD:(!t.plain&&decide (bE.size > 1))=false)(aj:t.led=true)(g:Z8 led t):
  PySem.Walks prog w A I [I,a] [I] bE.size (λi v=>(bE.toList.map (·.2))[i]? =some v) (λi h=>h.get? I=some (jc (.int (n3 t i:Nat) 0) i a bE.size ep)∧h.get? a=some o) where
 sub:=λb a_=>by simp at a_;simp[a_]
 frame:=λ_ _ _ st bt=>⟨bt I (by simp) _ st.1,bt a (by simp) _ st.2⟩
 item:=λi s Q E hi st q=>by
  have hz:t.place.size=bE.size:=by simp only[SetTable.fits,qaR,beq_iff_eq] at bJ;exact bJ.1
  have jC:i<t.place.size:=by omega
  have a_:=ZbK (i:=i) g hz (by omega);refine ZhR (nx:=n3 t (i+1)) (v:=(bE[i]).2) st.1 st.2 hd bJ (λil cg=>Zeb hw st.2 hd bJ bD aj il ?_) λh' e b=>?_
  ·rw[a_,qaQ hi,qaQ jC];have e:n3 t (i+1)=t.place[i]+1:=by
    unfold n3;rw[if_neg (by omega)];simp[Array.getD,jC]
   rw[e] at cg;exact cg
  ·exact q _ h' s.toks (by rw[qaj,qa7,qaQ hi];rfl) ⟨e,b.extBut a _ eR st.2⟩ λkG cq a_ cf=>b.extBut kG cq (λz=>a_ (by simp[z])) cf
 done:=λs Q E st q=>by
  have hz:t.place.size=bE.size:=by simp only[SetTable.fits,qaR,beq_iff_eq] at bJ;exact bJ.1
  have a_:=ZbK (i:=bE.size) g hz (qaa _);refine Zkc b6 st.1 st.2 hd bJ (λil cg=>Zeb hw st.2 hd bJ bD aj il ?_) λh' e=>q h' s.toks λb cq a_ cf=>e b cq (λz=>a_ (by simp[z])) cf;rw[a_,Array.getElem?_eq_none (qaa _)];exact cg
 self:=λ_ _ _ _ st q=>ZeH st.1 q
theorem Zha(b6:A.handled=none)(I T:Addr)(eR:a≠I)(uB:T≠I)(hd:o.data= .set bE ep t)(bJ:t.fits bE.size=true)(ord:List Nat)(bD:ord.Perm (List.range bE.size)):
  PySem.Walks prog w A I [I,a,T] [I] bE.size (λi v=>(ord.map λj=>(bE.getD j (0,.none)).2)[i]? =some v) (λi h=>h.get? I=some (jc (.ref T) i a bE.size ep)∧h.get? a=some o∧h.IsTuple T (ord.map λ(j:Nat)=>Value.int j 0).toArray) where
 sub:=λb a_=>by simp at a_;simp[a_]
 frame:=λ_ _ _ st bt=>⟨bt I (by simp) _ st.1,bt a (by simp) _ st.2.1,let⟨x,e,r⟩:=st.2.2;⟨x,bt T (by simp) _ e,r⟩⟩
 item:=λi s Q E hi st q=>by
  have aj:ord.length=bE.size:=by have:=bD.length_eq;simpa using this
  have jC:i<ord.length:=by omega
  have bC:ord[i]<bE.size:=by have:=bD.mem_iff.mp (GM jC);simpa using this
  have c3:(bE.getD ord[i] (0,Value.none))=bE[ord[i]]:=by simp[Array.getD,bC]
  refine Zmm (pl:=ord[i]) (k:=(bE[ord[i]]).1) (v:=(bE[ord[i]]).2) st.1 st.2.2 (by simp[jC]) (by rw[qaQ bC]) st.2.1 hd bJ λh' e b=>?_;exact q _ h' s.toks (by rw[qaj,GT jC];exact congrArg (λx=>some x.2) c3) ⟨e,b.extBut a _ eR st.2.1,let⟨x,e,r⟩:=st.2.2;⟨x,b.extBut T _ uB e,r⟩⟩ λkG cq a_ cf=>b.extBut kG cq (λz=>a_ (by simp[z])) cf
 done:=λs Q E st q=>by
  have aj:ord.length=bE.size:=by have:=bD.length_eq;simpa using this
  exact Znh b6 st.1 st.2.2 (by simp[aj]) st.2.1 hd bJ λh' e=>q h' s.toks λb cq a_ cf=>e b cq (λz=>a_ (by simp[z])) cf
 self:=λ_ _ _ _ st q=>ZeH st.1 q
end
section
variable {prog:Program}{w:World}{A:Around}{E:Value→Shared→Prop}{s:Shared}{a:Addr}{o:Obj}
theorem H8{cl:List Int}{Q:Value→Shared→Prop}(bI:s.heap.get? a=some o)(di:UQ (!w.params.followText "set-order") cl o)
  (q:∀(I:Addr)(L:List Value)(bz:Shared)(fp:List Addr)(St:Nat→Heap→Prop)(n:Nat),n=L.length→(∃ns:List Int,IntsAre L ns∧ns.Perm cl)→(∀b o,s.heap.get? b=some o→bz.heap.get? b=some o)→bz.gens=s.gens→bz.os=s.os→bz.toks=s.toks→
   (∀gm:Around,gm.handled=none→PySem.Walks prog w gm I fp [I] n (λi v=>L[i]? =some v) St)→St 0 bz.heap→s.heap.objs.size≤I→(∀b∈fp,b=a∨s.heap.objs.size≤b)→Q (.ref I) bz):wpAny (model prog w) A (pyIter (.ref a)) Q E s:=by
 obtain⟨i9,bE,ep,t,hd,n0,a_,bJ,bH,bD⟩:=di;have c9:s.TypeIs (.ref a) "set" :=⟨_,bI,i9.1⟩;have cJ:a<s.heap.objs.size:=Heap.lt_size bI;have uK:∀l:List (Int×Value),l.Perm bE.toList→∃ns:List Int,IntsAre (l.map (·.2)) ns∧ns.Perm cl:=λl pl=>by
  refine⟨l.map keyI,?_,(pl.map keyI).trans bD⟩;have aj:∀e∈l,∃n bY,e=(hashInt n,Value.int n bY):=λe bL=>n0 e (pl.mem_iff.mp bL);clear pl
  induction l with
  |nil=>exact .nil
  |cons x l bQ=>
   obtain⟨n,bY,rfl⟩:=aj x (by simp);exact .cons n bY (bQ λe bL=>aj e (by simp[bL]))
 refine wpAny_pyIter_slot c9 F.slot_set_iter (wpAny_call_entry F.slot_set_iter c9 H1 ?_ (F.args_set_iter_1 _));unfold Builtin.«frozenset.__iter__» Builtin.Frozenset.sizeOf;refine wpAny_bind (m:=Builtin.Frozenset.slot0 _ _) (wpAny_pure ?_);refine wpAny_bind (wpAny_bind (wpAny_setEntries_of bI hd bJ (wpAny_pure ?_)));unfold setDrawn setsByText;refine wpAny_bind (wpAny_bind (wpAny_setState_of bI hd bJ ?_));dsimp only;refine wpAny_bind (wpAny_bind (wpAny_askSetting (wpAny_pure (wpAny_pure ?_))));show wpAny _ _ (if(!w.params.followText "set-order" &&(!t.plain&&decide (bE.size > 1)))=true then _ else _) _ _ _
 by_cases bu:(!w.params.followText "set-order" &&(!t.plain&&decide (bE.size > 1)))=true
 ·rw[if_pos bu];refine wpAny_bind ?_;have bq:(List.range bE.size).length=bE.size:=qbt;have zL:=zI (prog:=prog) (w:=w) (A:=A.in1) (E:=E) (List.range bE.size) s;rw[bq] at zL;refine zL _ λord d ei=>?_;refine wpAny_bind ?_;simp only[newTuple];have rD:ord.length=bE.size:=by have:=ei.length_eq;simpa using this
  refine wpAny_newObj_type ?_ ?_
  ·refine wpAny_bind (wpAny_setEpoch_of (Heap.get?_push_of_some _ bI) hd bJ ?_);refine wpAny_bind (wpAny_newObj_type (wpAny_pure ⟨_,rfl,"set_iterator",_,⟨_,Heap.get?_push_size _ rfl,rfl⟩,pP.lookup,?_⟩));generalize uL:({cls:= .type "tuple",data:= .seq (List.map (λ(i:Nat)=>rawInt i) ord).toArray 0}:Obj)=n2;have rE:(List.map (λj=>bE.getD j (0,Value.none)) ord).Perm bE.toList:=by
    refine(ei.map _).trans ?_;have:(List.range bE.size).map (λj=>bE.getD j (0,Value.none))=bE.toList:=by
     refine qay (by simp) λi bj bp=>?_;have bT:i<bE.size:=by simpa using bp
     simp[Array.getD,bT]
    rw[this]
   have H9:∀gm:Around,gm.handled=none→_:=λgm b6=>Zha (prog:=prog) (w:=w) (A:=gm) (a:=a) (o:=o) (ep:=ep) b6 (s.heap.objs.size+1) s.heap.objs.size (qak (qbh cJ)) (qak (qbE _)) hd bJ ord ei;have pQ:bE.size=(ord.map λj=>(bE.getD j (0,.none)).2).length:=by simp[rD]
   rw[show(s.heap.push n2).objs.size=s.heap.objs.size+1 from Heap.size_push ..];refine q _ (ord.map λj=>(bE.getD j (0,.none)).2) _ [s.heap.objs.size+1,a,s.heap.objs.size] _ _ pQ (by have:=uK _ rE;rw[qa3] at this;exact this) (λb o e=>Heap.get?_push_of_some _ (Heap.get?_push_of_some _ e)) rfl rfl rfl (λgm b6=>H9 gm b6) ⟨?_,Heap.get?_push_of_some _ (Heap.get?_push_of_some _ bI),?_⟩ (qce _) (λb a_=>?_)
   ·have:=Heap.get?_push_size (o:=jc (.ref s.heap.objs.size) 0 a bE.size ep) (s.heap.push n2) rfl;rw[show(s.heap.push n2).objs.size=s.heap.objs.size+1 from Heap.size_push ..] at this;exact this
   ·exact⟨n2,Heap.get?_push_of_some _ (Heap.get?_push_size _ (by rw[←uL];rfl)),by rw[←uL],0,by rw[←uL];rfl⟩
   ·simp only[qae,qaG,or_false] at a_;rcases a_ with rfl|rfl|rfl
    ·exact .inr (qce _)
    ·exact .inl rfl
    ·exact .inr (qaa _)
  ·show(List.map _ ord).toArray.size≤sizeLine;rw[qaf,GE,rD];exact fits_of_scanBound a_
 ·rw[if_neg bu];refine wpAny_bind (wpAny_pure ?_);refine wpAny_bind (wpAny_setEpoch_of bI hd bJ ?_);refine wpAny_bind (wpAny_newObj_type (wpAny_pure ⟨_,rfl,"set_iterator",_,⟨_,Heap.get?_push_size _ rfl,rfl⟩,pP.lookup,?_⟩));have hC:∀b∈[s.heap.objs.size,a],b=a∨s.heap.objs.size≤b:=λb a_=>by
   simp only[qae,qaG,or_false] at a_;rcases a_ with rfl|rfl
   ·exact .inr (qaa _)
   ·exact .inl rfl
  cases hw:w.params.followText "set-order" with
  |true=>
   have rE:=uH (w.params.setOrder a ep) bE;have pQ:bE.size=((pickOrder (w.params.setOrder a ep) bE).toList.map (·.2)).length:=by have:=rE.length_eq;simpa using this.symm
   exact q _ _ _ _ _ _ pQ (uK _ rE) (λb o e=>Heap.get?_push_of_some _ e) rfl rfl rfl (λgm b6=>Zic b6 _ (qak cJ) hw hd bJ) ⟨Heap.get?_push_size _ rfl,Heap.get?_push_of_some _ bI⟩ (qaa _) hC
  |false=>
   rw[hw] at bu bH;have pQ:bE.size=(bE.toList.map (·.2)).length:=by simp
   exact q _ _ _ _ _ _ pQ (uK _ .rfl) (λb o e=>Heap.get?_push_of_some _ e) rfl rfl rfl (λgm b6=>Zhf b6 _ (qak cJ) hw hd bJ (by simpa using bu) bH.led bH) ⟨Heap.get?_push_size _ rfl,Heap.get?_push_of_some _ bI⟩ (qaa _) hC
end
section
variable {prog:Program}{w:World}{A:Around}{E:Value→Shared→Prop}{s:Shared}{a:Addr}{o:Obj}
theorem H_{Q:Bool→Shared→Prop}(c9:s.TypeIs (.ref a) "set")(q:Q false s):wpAny (model prog w) A (Builtin.List.listLengthHint (.ref a)) Q E s:=by
 unfold Builtin.List.listLengthHint;refine wpAny_bind (wpAny_specialOf c9 F.slot_set_len.lookup ?_);generalize hid:("set.__len__" :String)=id0
 wp_delta
 rw[show splitId id0=some ("set","__len__") from by subst hid;decide+kernel];subst hid;refine wpAny_bind (wpAny_isInstance (T:="set") (b:=true) c9 sub_set_self ?_);refine wpAny_ite_split (λz=>absurd z (by decide)) (λ_=>wpAny_ite_split (λ_=>?_) (λz=>absurd (by decide+kernel) z));exact wpAny_bind (wpAny_typeOf c9 (wpAny_pure q))
theorem H'{cl:List Int}{R:List Value→Shared→Prop}(b6:A.handled=none)(bI:s.heap.get? a=some o)(di:UQ (!w.params.followText "set-order") cl o)(bt:cl.length≤sizeLine)
  (q:∀(bz:Shared)(L:List Value)(ns:List Int),IntsAre L ns→ns.Perm cl→(∀b o,s.heap.get? b=some o→bz.heap.get? b=some o)→bz.gens=s.gens→bz.os=s.os→R L bz):wpAny (model prog w) A (collect (.ref a)) R E s:=by
 have cJ:a<s.heap.objs.size:=Heap.lt_size bI;generalize ed:({cls:= .type "list",data:= .seq ([]:List Value).toArray}:Obj)=N;have mV:(s.heap.push N).get? a=some o:=Heap.get?_push_of_some _ bI;have n1:(s.heap.push N).get? s.heap.objs.size=some N:=Heap.get?_push_size _ (by rw[←ed];rfl);have Ia:Shared.TypeIs {s with heap:=s.heap.push N} (.ref a) "set" :=⟨_,mV,di.1.1⟩;unfold collect;refine wpAny_bind (wpAny_runValue (codeAny_builtin PySem.F.entry_proto_collect ?_));rw[Around.under_plainId PySem.F.plain_proto_collect _];refine wpAny_bind (m:=newList []) (wpAny_newObj_type ?_);refine wpAny_pure ⟨plainId_quiet PySem.F.plain_list_iadd _,codeAny_builtin PySem.F.entry_list_iadd ?_⟩;rw[Around.under_plainId PySem.F.plain_list_iadd _,ed];show wpAny _ A.in1 (Builtin.List.listExtendWith (.ref s.heap.objs.size) (.ref a) (.ref s.heap.objs.size)) _ _ _;unfold Builtin.List.listExtendWith;refine wpAny_bind (wpAny_typeOf Ia ?_);have fI:Builtin.List.listSameRef (.ref s.heap.objs.size) (.ref a)=false:=by simp[Builtin.List.listSameRef];exact qbJ cJ
 have fl:(Value.type "set" ==Value.type "list")=false:=by decide
 have i4:(Value.type "set" ==Value.type "tuple")=false:=by decide
 simp only[fI,fl,i4,Bool.or_false,Bool.false_eq_true,if_false];refine wpAny_bind (H8 mV di λI L bU fp St n iO pi kp eF Ib dO W st n4 hC=>?_);obtain⟨ns,hi,bD⟩:=pi;have mY:=kp _ _ n1;refine wpAny_bind (wpAny_holding (H_ (a:=a) ⟨_,kp _ _ mV,di.1.1⟩ ?_));have mS:s.heap.objs.size∉fp:=λz=>by
  rcases hC _ z with e|e
  ·exact qbJ cJ e
  ·rw[Heap.size_push] at e;exact absurd e (Nat.not_succ_le_self _)
 have QH:s.heap.objs.size≠I:=λz=>by rw[←z,Heap.size_push] at n4;exact absurd n4 (Nat.not_succ_le_self _)
 have Ic:=(W A.in1 b6).toS;have gs:n≤sizeLine:=by
  have bj:L.length=ns.length:=IntsAre.length hi;rw[iO,bj,bD.length_eq];exact bt
 have eW:∀(bT:Heap)(c:Nat),St 0 bT→(∀b o,s.heap.get? b=some o→bT.get? b=some o)→bT.get? s.heap.objs.size=some {cls:= .type "list",data:= .seq #[] c}→codeAny (model prog w) A (.builtin "list.extend.loop" ⟨[.ref s.heap.objs.size,.ref I,.ref s.heap.objs.size],[]⟩) (λr bz=>match r with| .ok (.ret v)=>v= .ref s.heap.objs.size∧∃c1 cZ,bz.heap.get? s.heap.objs.size=some {cls:= .type "list",data:= .seq c1 cZ}∧c1.toList=L∧(∀b o,s.heap.get? b=some o→bz.heap.get? b=some o)∧bz.gens=s.gens∧bz.os=s.os|_=>False) {bU with heap:=bT}:=by
  intro bT c jR Ie de;refine codeAny_extend_loopS Ic gs _ mS _ n 0 _ #[] c rfl (qau _) jR de (ItemsOf.nil _) λca c1 Ig im hj its=>⟨rfl,c1,Ig,hj,?_,λb cq e=>im.heap b cq (λz=>?_) (Ie b cq e),im.gens.trans eF,im.os.trans Ib⟩
  ·refine List.ext_getElem? λj=>?_
   by_cases bC:j<n
   ·have fZ:j<c1.size:=by rw[its.1];exact bC
    rw[qa7,its.2 j _ (qaQ fZ),qaQ fZ]
   ·rw[qaU (by rw[qaV,its.1];omega),qaU (by rw[←iO];omega)]
  ·have a_:=Heap.lt_size e;rcases qae.mp z with z|z
   ·exact qbk _ (z▸a_)
   ·rw[qac.mp z] at a_;exact absurd (qal (Nat.le_of_succ_le (by rw[Heap.size_push] at n4;exact n4)) (qaa I)) (Nat.not_le_of_gt a_)
 refine wpAny_ite_split (λ_=>?_) (λ_=>wpAny_pure ⟨plainId_quiet qb0 _,codeAny_mono (eW _ 0 st (λb o e=>kp b o (Heap.get?_push_of_some _ e)) (by rw[mY,←ed])) λr bz z=>?d4⟩)
 case d4=>
  rcases r with e|f
  ·exact z.elim
  cases f with
  |ret v=>
   obtain⟨rfl,c1,cZ,hj,io,pR,gZ,rC⟩:=z;refine wpAny_bind (wpAny_load hj (wpAny_pure ?_));rw[io];exact q bz L ns hi bD pR gZ rC
  |_=>exact z.elim
 refine wpAny_bind (wpAny_rule (wpAny_bind ?_));show wpAny _ _ (updateSeq s.heap.objs.size (·.push .none) >>= λ_=>updateSeq s.heap.objs.size (·.pop)) _ _ _;rw[←ed] at mY;refine wpAny_bind (wpAny_updateSeq mY rfl ?_);have jX:=Heap.get?_update_self (Obj.mapSeq (·.push Value.none)) mY rfl;refine wpAny_updateSeq (hz:=by seq_fits) jX rfl ?_;have zM:=Heap.get?_update_self (Obj.mapSeq (·.pop)) jX rfl;have nZ:∀b o,b≠s.heap.objs.size→bU.heap.get? b=some o→((bU.heap.update s.heap.objs.size (Obj.mapSeq (·.push Value.none))).update s.heap.objs.size (Obj.mapSeq (·.pop))).get? b=some o:=λb o a_ e=>
  (Heap.get?_update_other _ _ (qbH a_)).trans ((Heap.get?_update_other _ _ (qbH a_)).trans e)
 refine wpAny_pure ⟨plainId_quiet qb0 _,codeAny_mono (eW _ _ ((W A b6).frame 0 _ _ st λb a_ o e=>nZ b o (λz=>mS (z▸a_)) e) (λb o e=>nZ b o (qak (Heap.lt_size e)) (kp b o (Heap.get?_push_of_some _ e))) zM) λr bz z=>?_⟩;rcases r with e|f
 ·exact z.elim
 cases f with
 |ret v=>
  obtain⟨rfl,c1,cZ,hj,io,pR,gZ,rC⟩:=z;refine wpAny_bind (wpAny_load hj (wpAny_pure ?_));rw[io];exact q bz L ns hi bD pR gZ rC
 |_=>exact z.elim
end
section
theorem Zh9{l:List Int}{v:Int}(h:l.Nodup):(step_dedup l v).Nodup:=by
 unfold step_dedup
 split
 ·exact h
 ·rename_i z;refine qbz.mpr ⟨h,by simp,λa bF b a_ e=>?_⟩;rw[qac.mp a_] at e;exact z (by rw[qbX];exact⟨a,bF,by simp[e]⟩)
theorem zN(val:Nat→Int):∀i,(firstMet val i).Nodup
 |0=>by rw[firstMet_zero];exact .nil
 |i+1=>by rw[firstMet_succ];exact Zh9 (zN val i)
theorem Zmb(ns:List Int){x:Int}:x∈firstMet (λi=>ns.getD i 0) ns.length↔x∈ns:=by
 have h:=firstMet_any (λi=>ns.getD i 0) ns.length x;have e:(List.range ns.length).map (λi=>ns.getD i 0)=ns:=by
  refine qay (by simp) λi bj bp=>?_;simp[List.getD,bp]
 rw[e] at h;have a1:∀l:List Int,(l.any (· ==x))=true↔x∈l:=λl=>by simp
 rw[←a1,h,a1]
theorem Ih{l:List Int}(h:l.Pairwise (· ≤·))(n:l.Nodup):l.Pairwise (· < ·):=by
 refine(List.pairwise_and_iff.mpr ⟨h,n⟩:l.Pairwise λa b=>a≤b∧a≠b).imp λz=>?_;omega
variable {X:Cx}{K:Frag}
def Few(ns:List Int):Prop:=ns.length<64∨(ns.length≤1000∧∀l:List Int,l.Nodup→(∀x∈l,x∈ns)→l.length<64)
noncomputable def Zdv (K:Frag):V→Hp→VK→Prop:=λx H Q=>∃(l:Addr)(ns:List Int),x= .ref l∧SqL K H l (ns.map V.int)∧Few ns∧∀(p:Addr)(ms:List Int),H p=none→ms.Pairwise (· < ·)→(∀x,x∈ms↔x∈ns)→Q (.ref p) (upd H p (.lst (ms.map V.int)))
noncomputable def zO (K:Frag) (bX:TA):TE:=λaf H Q=>bX af H λvs bn=>∃x,vs=[x]∧Zdv K x bn Q
theorem Ii{a:Expr}{bX:TA}{p dZ pos mQ:Pos}(d9:X.K=K)(bu:X.calm=true)(hE:Gl X "sorted")(iM:X.mg "sorted" =none)(bH:Gl X "set")(bA:X.mg "set" =none)(bF:PA X [a] bX)
  (hs:starEach [a] X.env=[(false,eval a X.env)]:=by rfl)
  (bL:starEach [Expr.Call (.Name "set" p) [a] [] pos] X.env=(false,eval (.Call (.Name "set" p) [a] [] pos) X.env)::starEach [] X.env:=by rfl):
  PE X (.Call (.Name "sorted" dZ) [.Call (.Name "set" p) [a] [] pos] [] mQ) (zO K bX):=by
 subst d9;intro a' s af H Q I h;refine Call_ (ht I hE iM qb4 ?_);refine qbv ?_ bL;rw[bL];show wpAny _ _ (spliced ((false,eval (.Call (.Name "set" p) [a] [] pos) X.env):: [])) _ _ s;refine Calls.spliced_cons (Call_ (ht I bH bA boot_set (qaD (thn (bF pos a' s af H _ I h) λus bw ⟨vs,bn,bM,cm,cg⟩=>?_) hs rfl)));obtain⟨x,e,l,ns,rfl,cv,a_,q⟩:=cg;subst e;obtain⟨u,rfl,bZ⟩:=Wr cm;cases bZ;obtain⟨its,c',pl,hz⟩:=bM.list cv;have hi:=Uz c';have hsz:its.toArray.size=ns.length:=by have:=c'.length;simpa using this.symm
 have fJ:its.toArray.size+1<scanBound:=by rw[hsz];unfold scanBound;rcases a_ with z|⟨z,_⟩<;>omega
 refine Zlg (bM.ok.hd bu) pl.isList hi fJ λh' bY o bI di bt=>?_;rw[hsz] at di;refine Calls.spliced_nil ?_;have k1:∀b o,bw.heap.get? b=some o→h'.get? b=some o:=λb o e=>bt b o (Heap.lt_size e) e;have cF:Inv X a' af bn {bw with heap:=h',toks:=bY}:=bM.kept k1;generalize my:firstMet (λi=>ns.getD i 0) ns.length=M at di;have zP:M.Nodup:=by rw[←my];exact zN _ _
 have zQ:∀x,x∈M↔x∈ns:=λx=>by rw[←my];exact Zmb ns
 have Ij:M.length<64:=by
  rcases a_ with z|⟨_,z⟩
  ·have:M.length≤ns.length:=by rw[←my];exact Zjj _ _
   omega
  ·exact z M zP λx bo=>(zQ x).mp bo
 refine Calls.call_function_entry kind_sorted plain_sorted entry_sorted (args_sorted1 _) ?_;unfold Builtin.«sorted»;refine wpAny_bind (m:=checkCount "sorted" 1 1 _) (wpAny_pure ?_);refine wpAny_bind (H' (A:=X.A.in1) (I.ok.hd bu) bI di (qa2 (dj (n:=M.length) (by omega))) λbS L ms pS fK k3 g3 gK=>?_);obtain⟨bT,rF,Ik,zR,QI⟩:=bS;dsimp only at k3 g3 gK⊢;subst g3 gK;have zS:∀b o,bw.heap.get? b=some o→bT.get? b=some o:=λb o e=>k3 b o (k1 b o e);have dE:Inv X a' af bn {bw with heap:=bT,gens:=bw.gens,drawn:=Ik,toks:=zR}:=bM.call (ch:=[]) (Un.kept zS) (bM.hok.kept zS) bM.bare (λ_ z=>nomatch z);have aj:L.length=ms.length:=IntsAre.length pS;have f_:ms.length<64:=by rw[fK.length_eq];exact Ij
 refine wpAny_bind (wpAny_newList ?_ (qa2 (dj (n:=L.length) (by omega))));have ko:(bT.push (seqObj "list" L.toArray 0)).get? bT.objs.size=some (seqObj "list" L.toArray 0):=Heap.get?_push_size _ rfl;refine wpAny_bind (wpAny_holding (wpAny_call_entry slot_list_sort ⟨_,ko,rfl⟩ entry_list_sort (list_sort_tree ko pS (by omega) λout n5 a1 a2 a3=>⟨_,rfl,?_⟩) (args_list_sort _)));refine wpAny_pure ⟨_,rfl,?_⟩;obtain⟨e,Il⟩:=sortedHeap_at (out:=out) ko;have hS:=q7 a1;have ei:n5.Perm M:=a2.trans fK;refine⟨.ref bT.objs.size,_,dE.laid (a:=bT.objs.size) (o:= .lst (n5.map V.int)) (t':=zR) (λb o fJ=>?_) (qaa _) ⟨by rw[GE,a2.length_eq];exact qa2 (dj (n:=ms.length) (by omega)),out.toList,e,hS,by simpa using Il⟩,rfl,q _ n5 (dE.hok.fresh (qaa _)) (Ih a3 (ei.nodup_iff.mpr zP)) λx=>ei.mem_iff.trans (zQ x)⟩;have cJ:=Heap.lt_size fJ;rw[sortedHeap_old (qak cJ) (by rw[size_push'];exact qbh cJ)];exact Heap.get?_push_of_some _ fJ
end
namespace Rd
section
variable {K:Frag}{af:St}{H:Hp}{Q:VK}
theorem ZoQ{bX:TA}(h:bX af H λvs bn=>∃x,vs=[x]∧Zdv K x bn Q):zO K bX af H Q:=h
theorem Zn0{l:Addr}{ns:List Int}(h:SqL K H l (ns.map V.int))(aj:ns.length<64)(q:∀(p:Addr)(ms:List Int),H p=none→ms.Pairwise (· < ·)→(∀x,x∈ms↔x∈ns)→Q (.ref p) (upd H p (.lst (ms.map V.int)))):∃x,[V.ref l]=[x]∧Zdv K x H Q:=⟨_,rfl,l,ns,rfl,h,.inl aj,q⟩
end
end Rd
section
variable {X:Cx}{K:Frag}
noncomputable def rMinD:List V→Hp→VK→Prop:=λxs H Q=>∃(a:Addr)(kvs:List (Key×V))(cl:List Int),xs=[V.ref a]∧Rd H a (.dK kvs)∧kvs.map (·.1)=cl.map Sum.inl∧0<kvs.length∧∀M,M∈cl→(∀b∈cl,M≤b)→Q (.int M) H
theorem ZjH(bu:X.calm=true):YW X (.builtin "min") rMinD:=by
 intro a' s af H xs us Q I r h;obtain⟨a,kvs,cl,rfl,bF,n6,cd,q⟩:=h;obtain⟨u,rfl,d_⟩:=Wr r;cases d_;obtain⟨z,hd,vs,rel,dd⟩:=WV I.hok bF;obtain⟨ep,d6⟩:=dd.dictAt;have gL:kvs.length=cl.length:=by have:=congrArg List.length n6;simpa using this
 have zT:vs.length=cl.length:=by rw[←rel.length,gL]
 have cJ:a<s.heap.objs.size:=d6.lt_size;have eW:∀(j:Nat)(v:Value),(∃k x,vs[j]? =some (k,x)∧(ec X.prog X.w).is k v=true)→∃t,v= .int (cl.getD j 0) t:=by
  rintro j v ⟨k,x,bo,b_⟩;obtain⟨lq,hS⟩:=rel.at bo;have bC:(kvs.map (·.1))[j]? =some k:=by rw[qaj,hS];rfl
  rw[n6,qaj] at bC;cases e:cl[j]? with
  |none=>rw[e] at bC;cases bC
  |some n=>
   rw[e] at bC;cases bC;have iO:cl.getD j 0=n:=by simp[List.getD,e]
   rw[iO];exact Value.isInt_shape b_
 refine call_min_walk (wpAny_pyIter_dict hd d6 ?_);refine⟨s.heap.objs.size,[s.heap.objs.size,a],[s.heap.objs.size],_,_,_,_,rfl,PySem.Walks.dictKeys (A:=X.A.in1) (knd:=ec X.prog X.w) (I.ok.hd bu) _ a (qak cJ) vs ep,⟨⟨_,Heap.get?_push_size _ rfl,rfl,rfl⟩,d6.push _⟩,λb a_=>?_,by omega,CmpOf.ints_lt (λi=>cl.getD i 0) eW,λv h' bY dU bt=>?_⟩
 ·show b<(s.heap.push _).objs.size;rw[Heap.size_push];rcases qae.mp a_ with rfl|a_
  ·exact qbE _
  ·rw[qac.mp a_];exact qbh cJ
 ·obtain⟨t,rfl⟩:=eW _ _ dU;obtain⟨bj,bp⟩:=argBest_lt (λi=>cl.getD i 0) (vs.length-1);refine⟨.int _,H,I.kept (yW bt),⟨t,rfl⟩,q _ ?_ λb a_=>?_⟩
  ·have f_:argBest (λi j=>decide (cl.getD i 0<cl.getD j 0)) (vs.length-1)<cl.length:=by omega
   rw[qba,GT f_];exact GM f_
  ·obtain⟨j,bC,rfl⟩:=qao a_;have:=bp j (by omega);have e:cl.getD j 0=cl[j]:=by simp[List.getD,bC]
   rw[←e];exact this
theorem zU(bu:X.calm=true):YW X (.builtin "min") rMinD:=ZjH bu
end
namespace Rd
section
variable {H:Hp}{Q:VK}
theorem Znn{a:Addr}{kvs:List (Key×V)}{cl:List Int}(h:L2.Rd H a (.dK kvs))(e:kvs.map (·.1)=cl.map Sum.inl)(cd:0<kvs.length)(q:∀M,M∈cl→(∀b∈cl,M≤b)→Q (.int M) H):rMinD [.ref a] H Q:=⟨a,kvs,cl,rfl,h,e,cd,q⟩
end
end Rd
section
variable {X:Cx}
noncomputable def rIndexI:V→List V→Hp→VK→Prop:=λx vs H Q=>∃(l:Addr)(ns:List Int)(n:Int)(j:Nat),x= .ref l∧vs=[.int n]∧H l=some (.lst (ns.map V.int))∧ns[j]? =some n∧(∀m<j,ns[m]? ≠some n)∧Q (.int j) H
theorem mZ:MtM X "list.index" rIndexI:=by
 intro a' s af H x vs v us Q I bZ c' h;obtain⟨l,ns,n,j,rfl,rfl,hf,bC,iE,q⟩:=h;cases bZ;obtain⟨u,rfl,dY,rfl⟩:=Wr c';obtain⟨z,its,c,r,aj,e⟩:=I.lstM hf;have i':=(FM.mp bC).1;have eg:=r.length;rw[GE] at eg;have at_:∀(m:Nat)(bA:m<its.toArray.size),∃t,its.toArray[m]=Value.int (ns[m]'(by simp at bA;omega)) t:=λm bA=>by
  have gM:m<ns.length:=by simp at bA;omega
  obtain⟨u,hu,t,b3⟩:=r.get (show(ns.map V.int)[m]? =some (V.int ns[m]) by simp[gM]);refine⟨t,?_⟩;have:=(FM.mp hu).2;simp only[List.getElem_toArray,this,b3]
 have bO:=kD;refine call_meets F.slot_list_index ⟨_,e,rfl⟩ F.entry_list_index (F.args_list_index_2 _ _) (PySem.SeqAt.list_indexAt l its.toArray c _ _ (.int n dY) (λy=>match y with| .int i _=>i==n|_=>false) j (by simp;omega) (by rw[GE] at z;omega) ?_ ?_) ⟨e,λy bR=>?_,?_⟩
 ·obtain⟨t,b3⟩:=at_ j (by simp;omega);rw[b3];have:=(FM.mp bC).2;simp[this]
 ·intro m bA pL;obtain⟨t,b3⟩:=at_ m bA;rw[b3];have gM:m<ns.length:=by simp at bA;omega
  have:=iE m pL;rw[GT gM] at this;simpa using this
 ·obtain⟨m,bA,pT⟩:=qao (List.mem_toArray.mp bR);obtain⟨t,b3⟩:=at_ m (by simpa using bA);have:y=Value.int (ns[m]'(by omega)) t:=by rw[←pT,←b3];simp
  rw[this];exact PySem.SeqAt.EqAt.int_int _ _ _ _
 ·exact⟨.int j,H,I.tok _,⟨_,rfl⟩,q⟩
noncomputable def Im (dr:TE):TE:=λaf H Q=>dr af H λx bn=>∃a kvs,x= .ref a∧Rd bn a (.dK kvs)∧∀l,bn l=none→Q (.ref l) (upd bn l (.lst (kvs.map (·.2))))
theorem Io{d:Expr}{dr:TE}{p pos dv dy:Pos}(bu:X.calm=true)(hE:Gl X "list")(iM:X.mg "list" =none)(hd:PE X d dr)(ju:attributeBase d "values" X.env (eval d X.env)=eval d X.env:=by rfl)(jv:(dv.endLine==dy.line)=true:=by rfl)
  (bL:starEach [Expr.Call (.Attribute d "values" dv) [] [] dy] X.env=(false,eval (.Call (.Attribute d "values" dv) [] [] dy) X.env)::starEach [] X.env:=by rfl):
  PE X (.Call (.Name "list" p) [.Call (.Attribute d "values" dv) [] [] dy] [] pos) (Im dr):=by
 intro a' s af H Q I h;refine wpAny_Call_Name_kw (ht I hE iM boot_list ?_);refine qaD ?_ bL rfl;rw[bL];show wpAny _ _ (spliced ((false,eval (.Call (.Attribute d "values" dv) [] [] dy) X.env):: [])) _ _ s;refine Calls.spliced_cons (wpAny_Call_method0_late ju jv (thn (hd a' s af H _ I h) λv bw ⟨x,bn,bM,cm,cg⟩=>?_));obtain⟨a,kvs,rfl,bq,q⟩:=cg;cases cm;obtain⟨z,kT,vs,rel,dd⟩:=WV bM.hok bq;obtain⟨ep,d6⟩:=dd.dictAt;refine⟨"dict","dict.values",qbp,qbl,qb3,dd.typeIs,dd.mapOf.noDict,Calls.callWith_builtin rfl (qb1 ?_)⟩;refine call_meetsIn qbl dd.typeIs qbZ (qbW _) (meets_dict_values (ec X.prog X.w) a kT) ⟨⟨vs,dd⟩,?_⟩;refine Calls.spliced_nil ?_;refine kdl_call (PySem.W.kdl_values (knd:=ec X.prog X.w) (d:=a) (kvs:=vs) (ep:=ep)) (bM.ok.hd bu) ⟨⟨_,Heap.get?_push_size _ rfl,rfl,rfl⟩,d6.push _⟩ (by rw[←rel.length];exact z) λh' bY c1 c bt nM hk=>?_;have cF:Inv X a' af bn {bw with heap:=bw.heap.push {cls:= .type "dict_values",data:= .fields #[.ref a]}}:=bM.kept (t':=bw.toks) λb o e=>Heap.get?_push_of_some _ e;refine⟨.ref (bw.heap.push {cls:= .type "dict_values",data:= .fields #[.ref a]}).objs.size,_,cF.laid (a:=(bw.heap.push {cls:= .type "dict_values",data:= .fields #[.ref a]}).objs.size) (o:= .lst (kvs.map (·.2))) (t':=bY) bt (qaa _) ⟨by rw[GE];exact z,c1.toList,c,?_,by simpa using nM⟩,rfl,q _ (cF.hok.fresh (qaa _))⟩;refine pH (by rw[qaV,hk.1,GE,rel.length]) λj v u bG bK=>?_;obtain⟨k,bo⟩:=hk.2 j u (by rw[←qa7];exact bK);rw[qaj] at bG;cases eS:kvs[j]? with
 |none=>rw[eS] at bG;cases bG
 |some kv=>
  rw[eS] at bG;cases bG;obtain⟨jO,fw,d_⟩:=rel.fwd eS;rw[bo] at fw;cases fw;exact d_
theorem zV(ns:List Int):∀j≤ns.length,preSum (λi=>ns.getD i 0) j=(ns.take j).sum
 |0,_=>by simp[preSum]
 |j+1,h=>by
  have bC:j<ns.length:=h;rw[preSum,zV ns j (by omega),qad bC,List.sum_append];simp[List.getD,bC]
noncomputable def Ip (dr:TE):TE:=λaf H Q=>dr af H λx bn=>∃(a:Addr)(kvs:List (Key×V))(ns:List Int),x= .ref a∧Rd bn a (.dK kvs)∧kvs.map (·.2)=ns.map V.int∧Q (.int ns.sum) bn
theorem Iq{d:Expr}{dr:TE}{p pos dv dy:Pos}(bu:X.calm=true)(hE:Gl X "sum")(iM:X.mg "sum" =none)(hd:PE X d dr)(ju:attributeBase d "values" X.env (eval d X.env)=eval d X.env:=by rfl)(jv:(dv.endLine==dy.line)=true:=by rfl)
  (bL:starEach [Expr.Call (.Attribute d "values" dv) [] [] dy] X.env=(false,eval (.Call (.Attribute d "values" dv) [] [] dy) X.env)::starEach [] X.env:=by rfl):
  PE X (.Call (.Name "sum" p) [.Call (.Attribute d "values" dv) [] [] dy] [] pos) (Ip dr):=by
 intro a' s af H Q I h;refine wpAny_Call_Name_kw (ht I hE iM boot_sum ?_);refine qbv ?_ bL rfl;rw[bL];show wpAny _ _ (spliced ((false,eval (.Call (.Attribute d "values" dv) [] [] dy) X.env):: [])) _ _ s;refine Calls.spliced_cons (wpAny_Call_method0_late ju jv (thn (hd a' s af H _ I h) λv bw ⟨x,bn,bM,cm,cg⟩=>?_));obtain⟨a,kvs,ns,rfl,bq,kI,q⟩:=cg;cases cm;obtain⟨z,kT,vs,rel,dd⟩:=WV bM.hok bq;obtain⟨ep,d6⟩:=dd.dictAt;refine⟨"dict","dict.values",qbp,qbl,qb3,dd.typeIs,dd.mapOf.noDict,Calls.callWith_builtin rfl (qb1 ?_)⟩;refine call_meetsIn qbl dd.typeIs qbZ (qbW _) (meets_dict_values (ec X.prog X.w) a kT) ⟨⟨vs,dd⟩,?_⟩;refine Calls.spliced_nil ?_;have cF:Inv X a' af bn {bw with heap:=bw.heap.push {cls:= .type "dict_values",data:= .fields #[.ref a]}}:=bM.kept (t':=bw.toks) λb o e=>Heap.get?_push_of_some _ e;have cJ:a<(bw.heap.push {cls:= .type "dict_values",data:= .fields #[.ref a]}).objs.size:=(d6.push _).lt_size;refine call_sum_walkG (wpAny_pyIter_values (knd:=ec X.prog X.w) (d:=a) (kvs:=vs) (ep:=ep) ⟨_,Heap.get?_push_size _ rfl,rfl,rfl⟩ (d6.push _) ?_);have aj:=rel.length;have gs:ns.length=vs.length:=by have:=congrArg List.length kI;simp at this;omega
 refine⟨_,_,_,vs.length,_,_,λi=>ns.getD i 0,rfl,PySem.Walks.dictValues (A:=X.A.in1) (bM.ok.hd bu) _ a (qak cJ) vs ep,⟨⟨_,Heap.get?_push_size _ rfl,rfl,rfl⟩,(d6.push _).push _⟩,λb a_=>?_,λi v ⟨k,bt⟩=>?_,λh' bY t' bt=>?_⟩
 ·rw[Heap.size_push];rcases qae.mp a_ with e|a_
  ·rw[e];exact qbE _
  ·rw[qac.mp a_];exact qbh cJ
 ·obtain⟨lq,hS⟩:=rel.at bt;have hi:i<ns.length:=by have:=(FM.mp bt).1;omega
  have bG:(kvs.map (·.2))[i]? =some lq:=by rw[qaj,hS];rfl
  rw[kI,qaj,GT hi] at bG;obtain⟨jO,fw,d_⟩:=rel.fwd hS;rw[bt] at fw;cases fw;have bK:V.int ns[i]=lq:=qan bG;have Ir:cE (V.int ns[i]) v:=by rw[bK];exact d_
  obtain⟨t,rfl⟩:=Ir;exact⟨t,by simp[List.getD,hi]⟩
 ·have bE:preSum (λi=>ns.getD i 0) vs.length=ns.sum:=by
   rw[←gs,zV ns ns.length (qaa _),qax]
  rw[bE];refine⟨.int ns.sum,bn,cF.kept (t':=bY) (λb o e=>bt b o (λbA=>?_) (Heap.get?_push_of_some _ e)),⟨_,rfl⟩,q⟩;rw[qac.mp bA] at e;exact qbk _ (Heap.lt_size e)
end
noncomputable def Itk (d:Addr) (o:Obj) (kvs:List (Key×V)):It:=
 ⟨λi H=>H d=some (.frz o (.dK kvs))∧i<kvs.length,λi H x ae=>ae=H∧∃kv,kvs[i]? =some kv∧x=kV kv.1,λi H=>H d=some (.frz o (.dK kvs))∧kvs.length≤i⟩
section
variable {P:Program}{w:World}{K:Frag}
theorem Iu{cO:Expr}(d it:Addr)(o:Obj)(kvs:List (Key×V))(vs:List (Key×Value))(ep:Nat)(rel:KV kvs vs)(hd:∀h:Heap,h.get? d=some o→h.DictAt (ec P w) d vs ep):Um P w K cO (Itk d o kvs) [it] it (λi h=>h.IsKeyIter it d i vs.length ep) where
 mem:=by simp
 obj:=λi h st b a_=>by
  have e:b=it:=by simpa using a_
  subst e;obtain⟨o,e,c,dd⟩:=st;exact⟨o,e,λv z=>by rw[dd] at z;cases z⟩
 keep:=λi h h' st k=>st.at λo q=>k it (by simp) o q
 item:=by
  intro X dU hw d9 bu i a' s af H E I bJ st bH;subst dU hw d9;obtain⟨bL,hi⟩:=bH;have bI:=(show Z0 X.prog X.w H s.heap d (.frz o (.dK kvs)) from I.hok d _ bL).1;obtain⟨dG,f1,f2,df,es,dV⟩:=bJ it (by simp);obtain⟨u,hu,d_⟩:=rel.fwd (GT hi);refine wpAny_pyNext_dict_item st (hd _ bI) hu λeW h' o6 h_ hP=>?_;have bM:Inv X a' af H {s with heap:=h',toks:=s.toks}:=I.turned (t':=s.toks) (λb q a_ e=>(hP.2 b a_).trans e) dG f1 df es dV;obtain⟨q,e,c,dd⟩:=id h_;exact⟨_,rfl,o1 (s:={s with heap:=h',toks:=s.toks}) e c dd (by decide) ⟨_,H,bM,ut o6,⟨rfl,kvs[i],GT hi,rfl⟩,h_,λb a_=>(bJ b a_).1⟩⟩
 done:=by
  intro X dU hw d9 bu i a' s af H E I bJ st bH;subst dU hw d9;obtain⟨bL,hi⟩:=bH;have bI:=(show Z0 X.prog X.w H s.heap d (.frz o (.dK kvs)) from I.hok d _ bL).1;obtain⟨dG,f1,f2,df,es,dV⟩:=bJ it (by simp);exact wpAny_pyNext_dict_end (I.ok.hd bu) st (hd _ bI) (qaU (by rw[←rel.length];exact hi)) λh' cV=>⟨rfl,I.turned (t':=s.toks) (λb q a_ e=>cV b q a_ e) dG f1 df es dV⟩
 self:=λ_ _ _ _ _ st h=>wpAny_pyIter_keyiter st h
end
section
variable {X:Cx}{cO:Expr}
noncomputable def Iv (dr:TE):TI:=λaf H R=>dr af H λx bn=>∃a kvs,x= .ref a∧Rd bn a (.dK kvs)∧∀o,R (Itk a o kvs) (upd bn a (.frz o (.dK kvs)))
theorem Iw{d:Expr}{dr:TE}(hd:PE X d dr):PI X cO d (Iv dr):=by
 intro a' s af H R I h;refine thn (hd a' s af H _ I h) λv bw ⟨x,bn,bM,cm,cg⟩=>?_;obtain⟨a,kvs,rfl,bq,q⟩:=cg;cases cm;obtain⟨z,kT,vs,rel,dd⟩:=WV bM.hok bq;obtain⟨ep,d6⟩:=dd.dictAt;obtain⟨o,bI,cF⟩:=bM.freeze bq;have mR:∀h:Heap,h.get? a=some o→h.DictAt (ec X.prog X.w) a vs ep:=λh e=>d6.at' λcq cf=>by rw[bI] at cf;cases cf;exact e
 refine wpAny_pyIter_dict (knd:=ec X.prog X.w) kT d6 ?_;refine⟨bw.heap.objs.size,[bw.heap.objs.size],_,_,_,rfl,cF.kept (t':=bw.toks) λb o e=>Heap.get?_push_of_some _ e,Iu a _ o kvs vs ep rel mR,⟨_,Heap.get?_push_size _ rfl,rfl,rfl⟩,λb a_=>?_,q o⟩;rw[qac.mp a_];exact cF.fpOk (qaa _) (cF.hok.fresh (qaa _))
theorem Ix{d:Addr}{o:Obj}{kvs:List (Key×V)}{H:Hp}(h:H d=some (.frz o (.dK kvs))):VP (Itk d o kvs) kvs.length (λi ae v bv=>bv=ae∧∃kv,kvs[i]? =some kv∧v=kV kv.1) H:=
 ⟨λae i e hi=>⟨e _ _ h,hi⟩,λae i x bv e hi y=>y,λae e=>⟨e _ _ h,qaa _⟩⟩
theorem zW{o e f:Expr}{dv dy:Pos}{dr ty mA:TE}(hu:HU X.A)(bI:PE X o dr)(bL:PE X e ty)(bJ:PE X f mA)(m:M2 X o "get" dv e f dy):PE X (.Call (.Attribute o "get" dv) [e,f] [] dy) (yM dr ty mA):=
 Zku (by have:X.A.units+64<cLine:=hu;omega) bI bL bJ m
end
section
variable {X:Cx}
noncomputable def zX (K:Frag):List V→Hp→VK→Prop:=λxs H Q=>∃(a:Addr)(cl:List Int),xs=[V.ref a]∧SqL K H a (cl.map V.int)∧cl.length<64∧∀(l:Addr)(ns:List Int),H l=none→ns.Perm cl→ns.Pairwise (· ≤·)→Q (.ref l) (upd H l (.lst (ns.map V.int)))
theorem zY{K:Frag}(d9:X.K=K):YW X (.builtin "sorted") (zX K):=by
 subst d9;intro a' s af H xs us Q I r h;obtain⟨a,cl,rfl,bF,Iy,q⟩:=h;obtain⟨u,rfl,d_⟩:=Wr r;cases d_;obtain⟨its,c',pl,hz⟩:=I.list bF;have pi:=Uz c';have aj:its.length=cl.length:=by have:=c'.length;simpa using this.symm
 obtain⟨o,bI,eu,n,IA⟩:=pl.isList;have uM:cl.length≤sizeLine:=qa2 (dj (n:=cl.length) (by omega));refine Calls.call_function_entry kind_sorted plain_sorted entry_sorted (args_sorted1 _) ?_;unfold Builtin.«sorted»;refine wpAny_bind (m:=checkCount "sorted" 1 1 _) (wpAny_pure ?_);refine wpAny_bind (wpAny_collect_seq a (.inl rfl) bI eu IA (λh' bt=>?_) (by rw[qaf,aj];exact uM));rw[List.toList_toArray];refine wpAny_bind (wpAny_newList ?_ (by rw[aj];exact uM));have ko:(h'.push (seqObj "list" its.toArray 0)).get? h'.objs.size=some (seqObj "list" its.toArray 0):=Heap.get?_push_size _ rfl;have bM:Inv X a' af H {s with heap:=h'}:=I.kept bt;refine wpAny_bind (wpAny_holding (wpAny_call_entry slot_list_sort ⟨_,ko,rfl⟩ entry_list_sort (list_sort_tree ko pi (by rw[aj];exact Iy) λout n5 a1 a2 a3=>⟨_,rfl,?_⟩) (args_list_sort _)));refine wpAny_pure ⟨_,rfl,?_⟩;obtain⟨e,bL⟩:=sortedHeap_at (out:=out) ko;have hS:=q7 a1;refine⟨.ref h'.objs.size,_,bM.laid (a:=h'.objs.size) (o:= .lst (n5.map V.int)) (t':=s.toks) (λb o fJ=>?_) (qaa _) ⟨by rw[GE,a2.length_eq];exact uM,out.toList,e,hS,by simpa using bL⟩,rfl,q _ n5 (bM.hok.fresh (qaa _)) a2 a3⟩;have cJ:=Heap.lt_size fJ;rw[sortedHeap_old (qak cJ) (by rw[size_push'];exact qbh cJ)];exact Heap.get?_push_of_some _ fJ
end
namespace Rd
section
variable {K:Frag}{H:Hp}{Q:VK}
theorem ZlC{a:Addr}{cl:List Int}(h:SqL K H a (cl.map V.int))(aj:cl.length<64)(q:∀(l:Addr)(ns:List Int),H l=none→ns.Perm cl→ns.Pairwise (· ≤·)→Q (.ref l) (upd H l (.lst (ns.map V.int)))):zX K [V.ref a] H Q:=⟨a,cl,rfl,h,aj,q⟩
end
end Rd
end L2
namespace My
@[irreducible] noncomputable def G (a b:Int):Int:=((Int.gcd a b:Nat):Int)
theorem ZdE(n m:Nat):G (n:Int) (m:Int)=((Nat.gcd n m:Nat):Int):=by
 unfold G
 rfl
theorem ZjU{a b:Int}(bF:0≤a)(a_:b=0):G a b=a:=by
 subst a_;obtain⟨n,rfl⟩:=qaP bF;have:=ZdE n 0;rw[Nat.gcd_zero_right] at this;exact this
theorem Zm9{a b:Int}(bF:0≤a)(a_:0<b):G b (Int.fmod a b)=G a b:=by
 obtain⟨n,rfl⟩:=qaP bF;obtain⟨m,rfl⟩:=qaP (Int.le_of_lt a_);rw[qbV _ (qaS m),←Int.natCast_emod,ZdE,ZdE,Nat.gcd_comm n m,Nat.gcd_rec m n,Nat.gcd_comm]
structure S(k:Nat)(x:Int):Prop where
 lo:0≤x
 hi:x.toNat<2 ^ (2048*2 ^ k)
theorem IB{j k:Nat}(h:j≤k):2 ^ (2048*2 ^ j)≤2 ^ (2048*2 ^ k):=
 qaE (by decide) (qb2 _ (qaE (by decide) h))
theorem S.mono{j k:Nat}{x:Int}(h:S j x)(bC:j≤k):S k x:=⟨h.lo,qag h.hi (IB bC)⟩
end My
namespace Fo
noncomputable abbrev Trip:=Int×Int×Bool
noncomputable abbrev ZT:=List (Int×Option Trip)
noncomputable def keys (bP:ZT):List Int:=bP.map (·.1)
theorem Zao(bP:ZT)(w:Int)(s:Option Trip):keys (bP++ [(w,s)])=keys bP++ [w]:=by simp[keys]
theorem Zdj{bP:ZT}{i:Nat}{w:Int}{s:Option Trip}(h:bP[i]? =some (w,s)):w∈keys bP:=qam.mpr ⟨(w,s),qar h,rfl⟩
theorem ZcA{bP:ZT}{w:Int}(h:w∈keys bP):∃(i:Nat)(s:Option Trip),bP[i]? =some (w,s):=by
 obtain⟨⟨d3,s⟩,bA,rfl⟩:=qam.mp h;obtain⟨i,hi⟩:=qbb bA;exact⟨i,s,hi⟩
structure Y2(dC:Int→List Trip)(first:Int)(bP:ZT):Prop where
 head:bP[0]? =some (first,none)
 nodup:(keys bP).Nodup
 steps:∀(i:Nat)(w p b:Int)(al:Bool),bP[i]? =some (w,some (p,b,al))→(w,b,al)∈dC p∧∃(j:Nat)(s:Option Trip),j<i∧bP[j]? =some (p,s)
 only:∀(i:Nat)(w:Int),bP[i]? =some (w,none)→i=0
def Ul(dC:Int→List Trip)(bP:ZT)(d:Nat):Prop:=∀(j:Nat)(w:Int)(s:Option Trip),j<d→bP[j]? =some (w,s)→∀t∈dC w,t.1∈keys bP
section
variable {dC:Int→List Trip}{first:Int}{bP:ZT}
theorem Zjb:Y2 dC first [(first,none)]:=by
 refine⟨rfl,by simp[keys],λi w p b al h=>?_,λi w h=>?_⟩
 ·cases i with
  |zero=>simp at h
  |succ i=>simp at h
 ·cases i with
  |zero=>rfl
  |succ i=>simp at h
theorem ZeL{bP:ZT}{x y:Int×Option Trip}{i:Nat}(h:(bP++ [x])[i]? =some y):bP[i]? =some y∨(i=bP.length∧y=x):=by
 rcases qbR i bP.length with c|c
 ·rw[qa1 c] at h;exact .inl h
 ·rw[qaX c] at h;have:i-bP.length=0:=by
   rcases qa9 (i-bP.length) with z|z
   ·exact z
   ·rw[qaU (by simp;omega)] at h;cases h
  rw[this] at h;simp at h;exact .inr ⟨by omega,h.symm⟩
theorem Zct{bP:ZT}{x y:Int×Option Trip}{i:Nat}(h:bP[i]? =some y):(bP++ [x])[i]? =some y:=by
 rw[qa1 (FM.mp h).1];exact h
theorem Y2.snoc(g:Y2 dC first bP){w p b:Int}{al:Bool}{j:Nat}{s:Option Trip}(bD:bP[j]? =some (p,s))(hw:(w,b,al)∈dC p)(bO:w∉keys bP):Y2 dC first (bP++ [(w,some (p,b,al))]):=by
 have bC:=(FM.mp bD).1;refine⟨Zct g.head,?_,λi d3 gW kG al' h=>?_,λi d3 h=>?_⟩
 ·rw[Zao];refine qbz.mpr ⟨g.nodup,by simp,λx bo y bR=>?_⟩;rw[qac.mp bR];intro e;exact bO (e▸bo)
 ·rcases ZeL h with z|⟨rfl,z⟩
  ·obtain⟨bj,rl,bz,bp,bT⟩:=g.steps i d3 gW kG al' z;exact⟨bj,rl,bz,bp,Zct bT⟩
  ·cases z;exact⟨hw,j,s,bC,Zct bD⟩
 ·rcases ZeL h with z|⟨rfl,z⟩
  ·exact g.only i d3 z
  ·cases z
theorem Ul.snoc{d:Nat}(h:Ul dC bP d)(hd:d≤bP.length)(w:Int)(s:Option Trip):Ul dC (bP++ [(w,s)]) d:=λj d3 bz bC e t b3=>by
 rw[Zao];refine qbx _ ?_;rcases ZeL e with z|⟨rfl,_⟩
 ·exact h j d3 bz bC z t b3
 ·omega
theorem Ul.next{d:Nat}{w:Int}{s:Option Trip}(h:Ul dC bP d)(e:bP[d]? =some (w,s))(all:∀t∈dC w,t.1∈keys bP):Ul dC bP (d+1):=λj d3 bz bC cf t b3=>by
 rcases qbm.mp bC with z|rfl
 ·exact h j d3 bz z cf t b3
 ·rw[e] at cf;cases cf;exact all t b3
inductive Wy(dC:Int→List Trip)(a:Int):Int→Prop
 |refl:Wy dC a a
 |step {b c:Int} {t:Int} {al:Bool}:Wy dC a b→(c,t,al)∈dC b→Wy dC a c
theorem Wy.trans{a b c:Int}(h:Wy dC a b)(k:Wy dC b c):Wy dC a c:=by
 induction k with
 |refl=>exact h
 |step _ e bQ=>exact .step bQ e
def Zk2(dC:Int→List Trip):Prop:=∀(a b t:Int)(al:Bool),(b,t,al)∈dC a→(a,t,!al)∈dC b
theorem Wy.symm(a_:Zk2 dC){a b:Int}(h:Wy dC a b):Wy dC b a:=by
 induction h with
 |refl=>exact .refl
 |step _ e bQ=>exact(Wy.step .refl (a_ _ _ _ _ e)).trans bQ
theorem Y2.hang(g:Y2 dC first bP):∀(i:Nat)(w:Int)(s:Option Trip),bP[i]? =some (w,s)→Wy dC first w:=by
 intro i
 induction i using Nat.strongRecOn with
 |_ i bQ=>
  intro w s h;cases s with
  |none=>
   have:=g.only i w h;subst this;rw[g.head] at h;cases h;exact .refl
  |some x=>
   obtain⟨p,b,al⟩:=x;obtain⟨bj,j,bz,bp,bT⟩:=g.steps i w p b al h;exact .step (bQ j bp p bz bT) bj
theorem Y2.keys_iff(g:Y2 dC first bP)(c:Ul dC bP bP.length)(w:Int):w∈keys bP↔Wy dC first w:=by
 constructor
 ·intro h;obtain⟨i,s,hi⟩:=ZcA h;exact g.hang i w s hi
 ·intro h
  induction h with
  |refl=>exact Zdj g.head
  |step _ e bQ=>
   obtain⟨i,s,hi⟩:=ZcA bQ;exact c i _ s (FM.mp hi).1 hi _ e
theorem Y2.rg(g:Y2 dC first bP){n:Int}(cd:0≤first∧first<n)(hw:∀a,∀t∈dC a,0≤t.1∧t.1<n):∀w∈keys bP,0≤w∧w<n:=by
 intro w h;obtain⟨i,s,hi⟩:=ZcA h;have:=g.hang i w s hi;cases this with
 |refl=>exact cd
 |step _ e=>exact hw _ _ e
theorem Zca{cl:List Int}{n:Nat}(nd:cl.Nodup)(h:∀w∈cl,0≤w∧w<(n:Int)):cl.length≤n:=by
 have bj:=nd.length_le_of_subset (l₂:=(List.range n).map λi:Nat=>(i:Int)) (λw hw=>by
  obtain⟨a,b⟩:=h w hw;exact qam.mpr ⟨w.toNat,qaw.mpr (by omega),by omega⟩)
 simpa using bj
end
structure Vf(dC:Int→List Trip)(n:Nat)(F:List (Int×ZT))(i:Nat):Prop where
 tree:∀x∈F,Y2 dC x.1 x.2∧Ul dC x.2 x.2.length∧0≤x.1∧x.1<(i:Int)
 all:∀w:Int,0≤w→w<(i:Int)→∃x∈F,w∈keys x.2
 rise:F.Pairwise λx y=>x.1<y.1
 least:∀x∈F,∀w∈keys x.2,x.1≤w
section
variable {dC:Int→List Trip}{n i:Nat}{F:List (Int×ZT)}
theorem Zk4:Vf dC n [] 0:=⟨by simp,λw cd bj=>by omega,.nil,by simp⟩
theorem Vf.skip(h:Vf dC n F i)(hi:∃x∈F,(i:Int)∈keys x.2):Vf dC n F (i+1):=
 ⟨λx bo=>by obtain⟨a,b,c,d⟩:=h.tree x bo;exact⟨a,b,c,by omega⟩,λw cd bj=>by
  by_cases e:w=(i:Int)
  ·rw[e];exact hi
  ·exact h.all w cd (by omega),h.rise,h.least⟩
theorem Vf.grow(a_:Zk2 dC)(hw:∀a,∀t∈dC a,0≤t.1∧t.1<(n:Int))(d5:i<n)(h:Vf dC n F i)(hi:∀x∈F,(i:Int)∉keys x.2){bP:ZT}(g:Y2 dC i bP)(c:Ul dC bP bP.length):Vf dC n (F++ [((i:Int),bP)]) (i+1):=by
 refine⟨λx bo=>?_,λw cd bj=>?_,List.pairwise_append.mpr ⟨h.rise,by simp,λx bo y bR=>?_⟩,λx bo=>?_⟩
 ·rcases qaH.mp bo with z|z
  ·obtain⟨a,b,c,d⟩:=h.tree x z;exact⟨a,b,c,by omega⟩
  ·rw[qac.mp z];exact⟨g,c,by simp,by simp;omega⟩
 ·by_cases e:w=(i:Int)
  ·exact⟨_,qav _ (qac.mpr rfl),by rw[e];exact Zdj g.head⟩
  ·obtain⟨x,bo,bt⟩:=h.all w cd (by omega);exact⟨x,qbx _ bo,bt⟩
 ·rw[qac.mp bR];exact(h.tree x bo).2.2.2
 ·rcases qaH.mp bo with z|z
  ·exact h.least x z
  ·rw[qac.mp z];intro w bt;rcases Int.lt_or_le w (i:Int) with y|y
   ·exfalso;have bq:=g.rg ⟨by omega,by omega⟩ hw w bt;obtain⟨e5,iN,kQ⟩:=h.all w bq.1 y;obtain⟨g',cZ,_,_⟩:=h.tree e5 iN;have bj:=(g'.keys_iff cZ w).mp kQ;have bp:=((g.keys_iff c w).mp bt).symm a_;exact hi e5 iN ((g'.keys_iff cZ _).mpr (bj.trans bp))
   ·exact y
end
end Fo
namespace Fire
noncomputable def bump (c:Nat→Nat) (w:Nat):Nat→Nat:=λv=>if v=w then c v+1 else c v
theorem Zaj(c:Nat→Nat)(w:Nat):bump c w w=c w+1:=by simp[bump]
theorem UM(c:Nat→Nat){v w:Nat}(h:v≠w):bump c w v=c v:=by simp[bump,h]
inductive Wb(R:(Nat→Nat)→Nat→Prop):(Nat→Nat)→List Nat→(Nat→Nat)→Prop
 |nil (c:Nat→Nat):Wb R c [] c
 |cons {c d:Nat→Nat} {w:Nat} {ce:List Nat}:R c w→Wb R (bump c w) ce d→Wb R c (w::ce) d
variable {R:(Nat→Nat)→Nat→Prop}
theorem Wb.app{c d e:Nat→Nat}{ce zZ:List Nat}(h:Wb R c ce d)(h':Wb R d zZ e):Wb R c (ce++zZ) e:=by
 induction h with
 |nil c=>exact h'
 |cons r _ bQ=>exact .cons r (bQ h')
theorem Wb.snoc{c d:Nat→Nat}{ce:List Nat}{w:Nat}(h:Wb R c ce d)(r:R d w):Wb R c (ce++ [w]) (bump d w):=h.app (.cons r (.nil _))
structure Belt where
 giver:Nat
 taker:Nat
 give:Int
 take:Int
 start:Int
noncomputable def lie (b:Belt) (c:Nat→Nat):Int:=b.start+b.give*(c b.giver:Int)-b.take*(c b.taker:Int)
def ZnW(bs:List Belt)(c:Nat→Nat)(w:Nat):Prop:=∀b∈bs,b.taker=w→b.take≤lie b c
def May(bs:List Belt)(n:Nat)(IC:Nat→Nat)(c:Nat→Nat)(w:Nat):Prop:=w<n∧c w<IC w∧ZnW bs c w
end Fire
namespace Pc
inductive Ye(E:List (Nat×Nat)):Nat→Nat→Prop where
 |refl (a:Nat):Ye E a a
 |fwd {a b c:Nat}:Ye E a b→(b,c)∈E→Ye E a c
 |bwd {a b c:Nat}:Ye E a b→(c,b)∈E→Ye E a c
theorem Ye.trans{E:List (Nat×Nat)}{a b c:Nat}(h:Ye E a b)(k:Ye E b c):Ye E a c:=by
 induction k with
 |refl=>exact h
 |fwd _ e bQ=>exact .fwd bQ e
 |bwd _ e bQ=>exact .bwd bQ e
theorem Ye.symm{E:List (Nat×Nat)}{a b:Nat}(h:Ye E a b):Ye E b a:=by
 induction h with
 |refl=>exact .refl _
 |fwd _ e bQ=>exact(Ye.bwd (.refl _) e).trans bQ
 |bwd _ e bQ=>exact(Ye.fwd (.refl _) e).trans bQ
theorem Ye.lt{E:List (Nat×Nat)}{n a b:Nat}(gq:∀e∈E,e.1<n∧e.2<n)(h:Ye E a b)(bF:a<n):b<n:=by
 induction h with
 |refl=>exact bF
 |fwd _ e bQ=>exact(gq _ e).2
 |bwd _ e bQ=>exact(gq _ e).1
noncomputable def step (l:Nat→Nat) (e:Nat×Nat):Nat→Nat:=λw=>if w=e.1∨w=e.2 then min (l e.1) (l e.2) else l w
noncomputable def lap (E:List (Nat×Nat)) (l:Nat→Nat):Nat→Nat:=E.foldl step l
noncomputable def Yd (E:List (Nat×Nat)):Nat→(Nat→Nat)→Nat→Nat
 |0,l=>l
 |k+1,l=>lap E (Yd E k l)
theorem uN(l:Nat→Nat)(e:Nat×Nat)(w:Nat):step l e w≤l w:=by
 unfold step
 split
 ·rename_i h;rcases h with rfl|rfl
  ·exact Nat.min_le_left _ _
  ·exact Nat.min_le_right _ _
 ·exact qaa _
theorem rG(F:List (Nat×Nat)):∀(l:Nat→Nat)(w:Nat),F.foldl step l w≤l w:=by
 induction F with
 |nil=>intro l w;exact qaa _
 |cons e F bQ=>intro l w;exact qal (bQ (step l e) w) (uN l e w)
theorem z0(F:List (Nat×Nat)):∀(l:Nat→Nat)(e:Nat×Nat),e∈F→F.foldl step l e.1≤l e.2∧F.foldl step l e.2≤l e.1:=by
 induction F with
 |nil=>intro l e h;cases h
 |cons f F bQ=>
  intro l e h;rcases qae.mp h with rfl|h
  ·have a:=rG F (step l e) e.1;have b:=rG F (step l e) e.2;have c:step l e e.1≤l e.2:=by unfold step;rw[if_pos (.inl rfl)];exact Nat.min_le_right _ _
   have d:step l e e.2≤l e.1:=by unfold step;rw[if_pos (.inr rfl)];exact Nat.min_le_left _ _
   exact⟨qal a c,qal b d⟩
  ·have:=bQ (step l f) e h;exact⟨qal this.1 (uN l f e.2),qal this.2 (uN l f e.1)⟩
def kY(E:List (Nat×Nat))(l:Nat→Nat):Prop:=∀w,Ye E w (l w)
theorem ID{E:List (Nat×Nat)}{l:Nat→Nat}{e:Nat×Nat}(h:kY E l)(bL:e∈E):kY E (step l e):=by
 intro w;unfold step
 split
 ·rename_i hw;have ab:Ye E e.1 e.2:= .fwd (.refl _) bL;have wa:Ye E w e.1:=by
   rcases hw with rfl|rfl
   ·exact .refl _
   ·exact ab.symm
  rcases Nat.le_total (l e.1) (l e.2) with q|q
  ·rw[Nat.min_eq_left q];exact wa.trans (h e.1)
  ·rw[Nat.min_eq_right q];exact(wa.trans ab).trans (h e.2)
 ·exact h w
theorem Zg1{E:List (Nat×Nat)}(F:List (Nat×Nat)):∀(l:Nat→Nat),kY E l→(∀e∈F,e∈E)→kY E (F.foldl step l):=by
 induction F with
 |nil=>intro l h _;exact h
 |cons e F bQ=>intro l h k;exact bQ _ (ID h (k e qbo)) λx bo=>k x (qaq _ bo)
theorem rH{E:List (Nat×Nat)}{l:Nat→Nat}(h:kY E l):∀k,kY E (Yd E k l)
 |0=>h
 |k+1=>Zg1 E _ (rH h k) λ_ x=>x
theorem ZgC{p q:Nat→Bool}:∀{xs:List Nat}{a:Nat},(∀x∈xs,p x=true→q x=true)→a∈xs→p a=false→q a=true→xs.countP p+1≤xs.countP q
 | [],_,_,h,_,_=>by cases h
 |x::xs,a,s,h,lw,rJ=>by
  have mono:xs.countP p≤xs.countP q:=List.countP_mono_left λy bR=>s y (qaq _ bR);rw[List.countP_cons,List.countP_cons];rcases qae.mp h with rfl|h'
  ·rw[lw,rJ];simp;omega
  ·have bQ:=ZgC (λy bR=>s y (qaq _ bR)) h' lw rJ
   by_cases pU:p x=true
   ·rw[pU,s x qbo pU];simp;omega
   ·have rK:p x=false:=by simpa using pU
    rw[rK];simp;omega
theorem ZmW{E:List (Nat×Nat)}{m w:Nat}{p:Nat→Bool}(h:Ye E m w)(bA:p m=true)(hw:p w=false):
  ∃a b,Ye E m a∧p a=true∧p b=false∧((a,b)∈E∨(b,a)∈E):=by
 induction h with
 |refl=>rw[bA] at hw;cases hw
 | @fwd b c a_ e bQ=>
  by_cases q:p b=true
  ·exact⟨b,c,a_,q,hw,.inl e⟩
  ·exact bQ (by simpa using q)
 | @bwd b c a_ e bQ=>
  by_cases q:p b=true
  ·exact⟨b,c,a_,q,hw,.inr e⟩
  ·exact bQ (by simpa using q)
theorem Zlz{E:List (Nat×Nat)}{n m:Nat}(gq:∀e∈E,e.1<n∧e.2<n)(bA:m<n)(least:∀v,Ye E m v→m≤v):
  ∀k,(∀w,Ye E m w→Yd E k (λi=>i) w=m)∨k+1≤(List.range n).countP (λw=>Yd E k (λi=>i) w==m)
 |0=>by
  right
  show 0+1≤(List.range n).countP (λw=>w==m);exact List.countP_pos_iff.mpr ⟨m,qaw.mpr bA,by simp⟩
 |k+1=>by
  have IE:kY E (Yd E k (λi=>i)):=rH (λw=> .refl w) k;have z1:kY E (Yd E (k+1) (λi=>i)):=rH (λw=> .refl w) (k+1);have IF:∀w,Yd E (k+1) (λi=>i) w≤Yd E k (λi=>i) w:=λw=>rG E _ w;have stays:∀w,Ye E m w→Yd E k (λi=>i) w=m→Yd E (k+1) (λi=>i) w=m:=λw hw e=>by
   have a:=IF w;have b:=least _ (hw.trans (z1 w));omega
  have self:∀k,Yd E k (λi=>i) m=m:=λk=>by
   have bU:kY E (Yd E k (λi=>i)):=rH (λw=> .refl w) k;have b:=least _ (bU m);have c:∀j,Yd E j (λi=>i) m≤m:=λj=>by
    induction j with
    |zero=>exact qaa _
    |succ j bQ=>exact qal (rG E _ m) bQ
   have:=c k;omega
  rcases Zlz gq bA least k with h|h
  ·left
   exact λw hw=>stays w hw (h w hw)
  ·by_cases all:∀w,Ye E m w→Yd E k (λi=>i) w=m
   ·left
    exact λw hw=>stays w hw (all w hw)
   ·right
    obtain⟨w,hw⟩:=Classical.not_forall.mp all;obtain⟨IG,IH⟩:=Classical.not_imp.mp hw;obtain⟨a,b,jD,lw,II,e⟩:=ZmW (p:=λw=>Yd E k (λi=>i) w==m) IG (by simp[self k]) (by simpa using IH);have QJ:Yd E k (λi=>i) a=m:=by simpa using lw
    have cb:Ye E m b:=by
     rcases e with e|e
     ·exact .fwd jD e
     ·exact .bwd jD e
    have mP:Yd E (k+1) (λi=>i) b=m:=by
     have l1:=least _ (cb.trans (z1 b));have l2:Yd E (k+1) (λi=>i) b≤Yd E k (λi=>i) a:=by
      rcases e with e|e
      ·exact(z0 E _ (a,b) e).2
      ·exact(z0 E _ (b,a) e).1
     omega
    have a_:b<n:=cb.lt gq bA;have:=ZgC (p:=λw=>Yd E k (λi=>i) w==m) (q:=λw=>Yd E (k+1) (λi=>i) w==m) (xs:=List.range n) (a:=b)
     (λx bo pU=>?_) (qaw.mpr a_) II (by simp[mP])
    ·omega
    ·have rK:Yd E k (λi=>i) x=m:=by simpa using pU
     have pA:Ye E m x:=by have:=IE x;rw[rK] at this;exact this.symm
     simp[stays x pA rK]
theorem Ze2{E:List (Nat×Nat)}:∀(k w:Nat),w≤k→∃m,Ye E w m∧∀v,Ye E w v→m≤v
 |0,w,h=>⟨w,.refl w,λv _=>by omega⟩
 |k+1,w,h=>by
  by_cases q:∃v,Ye E w v∧v<w
  ·obtain⟨v,n7,QK⟩:=q;obtain⟨m,n8,rL⟩:=Ze2 (E:=E) k v (by omega);exact⟨m,n7.trans n8,λu IJ=>rL u (n7.symm.trans IJ)⟩
  ·exact⟨w,.refl w,λv n7=>by
    by_cases b_:v<w
    ·exact absurd ⟨v,n7,b_⟩ q
    ·omega⟩
theorem Ux{E:List (Nat×Nat)}{n:Nat}(gq:∀e∈E,e.1<n∧e.2<n){w:Nat}(hw:w<n):
  Ye E w (Yd E n (λi=>i) w)∧∀v,Ye E w v→Yd E n (λi=>i) w≤v:=by
 obtain⟨m,n8,rL⟩:=Ze2 (E:=E) w w (qaa _);have bA:m<n:=n8.lt gq hw;have least:∀v,Ye E m v→m≤v:=λv n7=>rL v (n8.trans n7);rcases Zlz gq bA least n with h|h
 ·have e:=h w n8.symm;rw[e];exact⟨n8,rL⟩
 ·have:=List.countP_le_length (p:=λw=>Yd E n (λi=>i) w==m) (l:=List.range n);rw[qbt] at this;omega
end Pc
set_option Elab.async false
set_option linter.all false
set_option maxRecDepth 100000
set_option maxHeartbeats 4000000
local macro_rules| `(tactic|omega)=>`(tactic|with_reducible first|exact qaS _|exact L2.oA (by assumption) (by assumption)|exact L2.oB (by assumption) (by assumption) rfl|exact L2.oC (by assumption) (by assumption) rfl|exact L2.oD (by assumption) rfl|exact L2.oE (by assumption) (by assumption)|exact L2.oF (by assumption)|lia|fail)
local macro_rules| `(tactic|walk_at "mul")=>`(tactic|k_dflt (first|with_reducible assumption|exact L2.ZiG.ok (Or.inr ⟨by omega,by omega⟩)|exact L2.ZiG.ok (Or.inl ⟨by omega,by omega⟩)))
local macro_rules| `(tactic|walk_at "lk")=>`(tactic|first|exact L2.Rd.lk0|exact L2.Rd.lkN|(refine L2.Rd.lk1 (by decide+kernel) ?_;walk_at "lk"))
local macro_rules| `(tactic|walk_at "pf")=>`(tactic|first|exact L2.Rd.pfN|(apply L2.Rd.pf1;(decide+kernel);walk_at "pf"))
local macro_rules| `(tactic|walk_at "na")=>`(tactic|exact L2.Vc.get (by with_reducible assumption) (by decide+kernel))
local macro_rules| `(tactic|walk_at "cond")=>`(tactic|k_dflt (first|with_reducible assumption|decide|omega|(simp;done)|(simp only[List.length_cons,List.length_nil,GE,qaT];omega)))
local macro_rules| `(tactic|walk_at "rdis")=>`(tactic|((with_reducible show ∃x n t b,_=_∧L2.Wq _ _ x t∧_);first|with_reducible apply L2.Rd.ZiS|with_reducible apply L2.Rd.Zhy|with_reducible apply L2.Rd.is_int_str|with_reducible apply L2.Rd.is_int_list|with_reducible apply L2.Rd.is_int_tuple|with_reducible apply L2.Rd.is_int_dict|with_reducible apply L2.Rd.is_bl_int|with_reducible apply L2.Rd.is_bl_bool|with_reducible apply L2.Rd.is_bl_str|with_reducible apply L2.Rd.is_bl_list|with_reducible apply L2.Rd.is_bl_tuple|with_reducible apply L2.Rd.is_bl_dict|with_reducible apply L2.Rd.is_str_int|with_reducible apply L2.Rd.is_str_bool|with_reducible apply L2.Rd.Zi2|with_reducible apply L2.Rd.is_str_list|with_reducible apply L2.Rd.is_str_tuple|with_reducible apply L2.Rd.is_str_dict|with_reducible apply L2.Rd.is_non_int|with_reducible apply L2.Rd.is_non_bool|with_reducible apply L2.Rd.is_non_str|with_reducible apply L2.Rd.is_non_list|with_reducible apply L2.Rd.is_non_tuple|with_reducible apply L2.Rd.is_non_dict|with_reducible refine L2.Rd.is_lst_int (by with_reducible assumption) ?_|with_reducible refine L2.Rd.is_lst_bool (by with_reducible assumption) ?_|with_reducible refine L2.Rd.is_lst_str (by with_reducible assumption) ?_|with_reducible refine L2.Rd.Zg8 (by with_reducible assumption) ?_|with_reducible refine L2.Rd.is_lst_tuple (by with_reducible assumption) ?_|with_reducible refine L2.Rd.is_lst_dict (by with_reducible assumption) ?_|with_reducible refine L2.Rd.is_tup_int (by with_reducible assumption) ?_|with_reducible refine L2.Rd.is_tup_bool (by with_reducible assumption) ?_|with_reducible refine L2.Rd.is_tup_str (by with_reducible assumption) ?_|with_reducible refine L2.Rd.is_tup_list (by with_reducible assumption) ?_|with_reducible refine L2.Rd.Zf8 (by with_reducible assumption) ?_|with_reducible refine L2.Rd.is_tup_dict (by with_reducible assumption) ?_|with_reducible refine L2.Rd.is_dK_int (by with_reducible assumption) ?_|with_reducible refine L2.Rd.is_dK_bool (by with_reducible assumption) ?_|with_reducible refine L2.Rd.is_dK_str (by with_reducible assumption) ?_|with_reducible refine L2.Rd.is_dK_list (by with_reducible assumption) ?_|with_reducible refine L2.Rd.is_dK_tuple (by with_reducible assumption) ?_|with_reducible refine L2.Rd.is_dK_dict (by with_reducible assumption) ?_))
local macro_rules| `(tactic|walk_at "side")=>`(tactic|k_dflt (first|with_reducible assumption|decide|(dsimp only;decide)|(dsimp only[L2.ZmF];decide)|omega|(dsimp only;omega)))
local macro_rules| `(tactic|walk_at "hp")=>`(tactic|with_reducible (first|assumption|((show L2.SqL _ _ _ _);(first|exact L2.SqL.of (by assumption)|exact L2.OffL.sq (by assumption)|exact L2.Ze.seq (by assumption) (by assumption)))|((show L2.SqT _ _ _ _);(first|exact L2.SqT.of (by assumption)|exact L2.OffT.sq (by assumption)|exact L2.Ze.seqT (by assumption) (by assumption)))))
local macro_rules| `(tactic|walk_at "rd")=>`(tactic|first|with_reducible (first|apply L2.Rd.seq|apply L2.Rd.asg|apply L2.Rd.ret|apply L2.Rd.ifs|apply L2.Rd.next|apply L2.Rd.drop|apply L2.Rd.op|apply L2.Rd.un|apply L2.Rd.Zoz|apply L2.Rd.con|(show L2.ZgX _ _ _ _;refine L2.Rd.var (by k_dflt rfl) ?_)|(show L2.V9 _ _ _ _ _;refine L2.Rd.Zn8 (by k_dflt (dsimp only[L2.start,List.map_cons,List.map_nil,List.cons_append,List.nil_append,List.length_cons,List.length_nil,Nat.reduceAdd,Nat.reduceSub,List.replicate,List.set];(try rfl))) ?_)|apply L2.Rd.call|apply L2.Rd.cons|apply L2.Rd.nil|apply L2.Rd.cb|apply L2.Rd.tup|apply L2.Rd.lst|apply L2.Rd.ZoE|apply L2.Rd.or_|apply L2.Rd.ZoW|apply L2.Rd.Zo5|apply L2.Rd.Zpb|apply L2.Rd.i0|(show L2.rI _ _ _ _ _ _;refine L2.Rd.iC (by walk_at "side") ?_)|apply L2.Rd.bl|apply L2.Rd.ZoK|(show L2.rOr L2.Zir _ _ _ _ _;refine L2.Rd.mulI (by walk_at "mul") ?_)|apply L2.Rd.ZoZ|apply L2.Rd.ZoG|(show L2.rOr _ (L2.rOr L2.Zeo _) (L2.V.str _) (L2.V.str _) _ _;refine L2.Rd.ZmZ (by walk_at "side") ?_)|(show L2.rIx _ _ _ _ _;refine L2.Rd.ZoR (by walk_at "hp") (by k_dflt rfl) ?_)|(show L2.rIx _ _ _ _ _;refine L2.Rd.ZnA (by walk_at "hp") (by k_dflt (first|rfl|with_reducible assumption)) ?_)|apply L2.Rd.un1|(show ∃a,L2.V.ref _=L2.V.ref a∧(∃xs,L2.SqL _ _ a xs)∧_;refine L2.Rd.Znj (by walk_at "hp") ?_)|(show ∃k,[L2.V.int _]=[L2.V.int k]∧_;refine L2.Rd.Zn4 (by k_dflt omega) (by k_dflt omega) ?_)|apply L2.Rd.ZoJ|(show ∃x n,_=_∧L2.ZaW _ x _ n∧_;refine L2.Rd.Zn3 (by walk_at "hp") ?_)|(show ∃x n,_=_∧L2.ZaW _ x _ n∧_;refine L2.Rd.ZoV (by walk_at "hp") ?_)|(show ∃x n,_=_∧L2.ZaW _ x _ n∧_;refine L2.Rd.lenS (by walk_at "side") ?_))|walk_at "rdis" |with_reducible (first|apply L2.Rd.ZoY|apply L2.Rd.tru|apply L2.Rd.ZoU|apply L2.Rd.Zo9|apply L2.Rd.Zo2|apply L2.Rd.bm|(show L2.tyV _ _ _ _∧_;refine L2.Rd.tyl (by with_reducible assumption) ?_)|(show L2.rAppend _ _ _ _;refine L2.Rd.app (by with_reducible assumption) (by walk_at "side") ?_)|apply L2.Zgh|apply L2.Zf7|apply L2.Rd.ZlA|apply L2.Rd.Zly|(show if decide _=true then _ else _;refine L2.Rd.ifP (by walk_at "cond") ?_)|(show if decide _=true then _ else _;refine L2.Rd.ifN (by walk_at "cond") ?_)|(show if(!decide _)=true then _ else _;refine L2.Rd.Zo3 (by walk_at "cond") ?_)|(show if(!decide _)=true then _ else _;refine L2.Rd.ZoL (by walk_at "cond") ?_)|apply L2.Rd.sl|apply L2.Rd.Znm|apply L2.Rd.Zpd|apply L2.Rd.Zok|apply L2.Rd.ZoM|(show ∃a C bx fs v,L2.V.ref _=L2.V.ref a∧_=some (L2.HO.ins C bx fs)∧L2.Cls _ C∧_;refine L2.Rd.fld (by with_reducible assumption) (by with_reducible assumption) (by k_dflt (walk_at "na")) (by k_dflt (walk_at "lk")) ?_)|apply L2.Rd.Zpe|(show L2.rSetL _ _ _ _ _;refine L2.Rd.ZmY (by with_reducible assumption) (by k_dflt omega) (by walk_at "cond") ?_)|apply L2.Rd.Zob|apply L2.Rd.Zoa|apply L2.Rd.Zo6|(show ∃a C bx fs,L2.V.ref _=L2.V.ref a∧_=some (L2.HO.ins C bx fs)∧L2.Cls _ C∧_;refine L2.Rd.Zor (by with_reducible (first|assumption|exact L2.Zd)) (by with_reducible assumption) (by k_dflt (walk_at "na")) (by k_dflt (simp only[List.length_cons,List.length_nil];decide)) (by k_dflt (walk_at "pf")) ?_)|apply L2.Rd.raise|apply L2.Rd.Zne|apply L2.Rd.Zog|apply L2.Rd.Zo4|apply L2.Rd.Zn9|apply L2.Rd.ZoF|apply L2.Rd.Zoh|(show L2.rIn _ _ _ _ _ _;refine L2.Rd.ZoO (by walk_at "hp") ?_)|(show L2.rIn _ _ _ _ _ _;refine L2.Rd.inI (by walk_at "hp") ?_)|(show L2.rIn _ _ _ _ _ _;refine L2.Rd.Zox (by walk_at "hp") ?_)|(show ∃p bs,[L2.V.ref _]=[L2.V.ref p]∧L2.SqL _ _ p (List.map L2.V.bl bs)∧_;refine L2.Rd.Zo1 (by walk_at "hp") ?_)|apply L2.Rd.leS|apply L2.Rd.ZnV)|((with_reducible show if(!(_==_))=true then _ else _);first|refine L2.Rd.ZlA ?_|refine L2.Rd.Zly ?_)|((with_reducible show if(_==_)=true then _ else _);first|refine L2.Zgh ?_|refine L2.Zf7 ?_)|with_reducible (first|apply L2.Rd.Znk|apply L2.Rd.Zol|(show ∃a,_=_∧(∃xs,L2.SqL _ _ a xs)∧_;refine L2.Rd.Znz (by walk_at "hp") ?_)|apply L2.Rd.ZoX|apply L2.Rd.lset|apply L2.Rd.Zpa)|((with_reducible show L2.rDIn _ _ _ _);first|with_reducible refine L2.Rd.Zo7 (by with_reducible assumption) ?_|with_reducible refine L2.Rd.dinI (by with_reducible assumption) ?_)|((with_reducible show L2.rDNotIn _ _ _ _);first|with_reducible refine L2.Rd.dninS (by with_reducible assumption) ?_|with_reducible refine L2.Rd.Zoj (by with_reducible assumption) ?_)|((with_reducible show L2.rIxD _ _ _ _);first|with_reducible refine L2.Rd.dgetS (by with_reducible assumption) (by with_reducible assumption) ?_|with_reducible refine L2.Rd.Zlw (by with_reducible assumption) (by with_reducible assumption) ?_)|((with_reducible show L2.rSetD _ _ _ _ _);first|with_reducible refine L2.Rd.Zon (by with_reducible assumption) (by walk_at "side") ?_|with_reducible refine L2.Rd.Zoe (by with_reducible assumption) (by walk_at "side") ?_)|with_reducible (first|(show L2.rLenD _ _ _;refine L2.Rd.ZoB (by with_reducible assumption) ?_)|(show L2.rListD _ _ _;refine L2.Rd.Zoi (by with_reducible assumption) ?_)|apply L2.Rd.ZoH|apply L2.Rd.ipi|(show L2.ZeI _ _ _ _ _;refine L2.Rd.ixl (by walk_at "hp") (by k_dflt (first|rfl|with_reducible assumption)) ?_)|apply L2.Rd.Zow|apply L2.Rd.Zov|apply L2.Rd.Zoy|apply L2.Rd.Zop))
local macro_rules| `(tactic|walk_at "rds")=>`(tactic|repeat' (walk_at "rd"))
namespace Nm
open PySem L2
noncomputable def top (i:Nat):Stmt:=PySem.Challenge.pw_ratehall_k22_joined_hall.main.body.getD i (.Pass ⟨0,0,0,0⟩)
noncomputable abbrev z2:Stmt:=top 61
noncomputable abbrev z3:Stmt:=top 62
noncomputable abbrev z4:Stmt:=top 63
noncomputable abbrev z5:Stmt:=top 65
noncomputable abbrev uO:Stmt:=top 67
noncomputable abbrev uP:Stmt:=top 14
noncomputable abbrev z6:Stmt:=Yh (top 26) 1
noncomputable abbrev z7:Stmt:=top 20
noncomputable abbrev z8:Stmt:=top 21
noncomputable abbrev z9:Stmt:=top 28
noncomputable abbrev z_:Stmt:=top 22
noncomputable abbrev z':Stmt:=Yh (top 26) 11
noncomputable abbrev Aa:Stmt:=Yh (top 26) 3
noncomputable abbrev Ab:Stmt:=Yh (top 26) 2
noncomputable abbrev Ac:Stmt:=Yh (top 26) 0
noncomputable abbrev Ad:Stmt:=top 66
noncomputable abbrev pV:Stmt:=top 69
noncomputable abbrev Ae:Stmt:=Yh (top 26) 7
noncomputable abbrev Af:Stmt:=Yh (top 26) 5
noncomputable abbrev uQ:Stmt:=top 35
noncomputable abbrev Ag:Stmt:=top 36
noncomputable abbrev Ah:Stmt:=top 34
noncomputable abbrev Ai:Stmt:=top 16
noncomputable abbrev Aj:Stmt:=top 18
noncomputable abbrev Ak:Stmt:=top 19
noncomputable abbrev Al:Stmt:=top 43
noncomputable abbrev Am:Stmt:=Yh (top 26) 12
noncomputable abbrev An:Stmt:=Yh (top 26) 8
noncomputable abbrev Ao:Stmt:=top 42
noncomputable abbrev Ap:Stmt:=top 17
noncomputable abbrev uR:Stmt:=top 41
noncomputable abbrev uS:Stmt:=top 39
noncomputable abbrev IK:Stmt:=top 37
noncomputable abbrev IL:Stmt:=top 45
noncomputable abbrev Aq:Stmt:=top 44
noncomputable abbrev Ar:Stmt:=top 40
noncomputable abbrev As:Stmt:=top 68
noncomputable abbrev At:Stmt:=top 70
noncomputable abbrev Au:Stmt:=top 64
noncomputable abbrev Av:Stmt:=Yh (top 53) 3
noncomputable abbrev Aw:Stmt:=top 27
noncomputable abbrev Ax:Stmt:=Yh (top 53) 1
noncomputable abbrev Ay:Stmt:=Yh (top 26) 4
noncomputable abbrev Az:Stmt:=Yh (top 53) 4
noncomputable abbrev AA:Stmt:=Yh (top 53) 2
noncomputable abbrev AB:Stmt:=top 54
noncomputable abbrev AC:Stmt:=top 55
noncomputable abbrev uT:Stmt:=top 57
noncomputable abbrev uU:Stmt:=top 49
noncomputable abbrev uV:Stmt:=top 32
noncomputable abbrev uW:Stmt:=Yh (top 50) 2
noncomputable abbrev uX:Stmt:=Yh (top 26) 9
noncomputable abbrev uY:Stmt:=top 30
noncomputable abbrev uZ:Stmt:=Yh (top 26) 10
noncomputable abbrev u0:Stmt:=top 31
noncomputable abbrev UV:Stmt:=top 51
noncomputable abbrev pW:Stmt:=Yh (top 50) 0
noncomputable abbrev u1:Stmt:=top 56
noncomputable abbrev AD:Stmt:=top 59
noncomputable abbrev AE:Stmt:=top 48
noncomputable abbrev AF:Stmt:=top 58
noncomputable abbrev rM:Stmt:=Yh (top 53) 0
noncomputable abbrev rN:Stmt:=top 71
theorem u2:Zr ["_law_script","_law_k","_law_lap","_law_cell"] ["_law_script","_law_k"] (cu z2):=scI
theorem jE:Zr ["_law_cell","_law_many","_law_letters","_law_long","_law_at","_law_some","_law_k","_law_word","_law_place","_law_turn"] ["_law_cell","_law_many"] (cu z3):=scI
theorem rO:Zr ["_law_one","_law_other","_law_rest"] ["_law_one","_law_other"] (cu z4):=scI
theorem j3:Zr ["_law_rates","_law_belts","_law_label","_law_turn","_law_belt","_law_low","_law_found","_law_work","_law_both","_law_other"] ["_law_rates","_law_belts"] (cu z5):=scI
theorem pX:Zr ["_law_cell","_law_many","_law_mix","_law_group"] ["_law_cell","_law_many"] (cu uO):=scI
theorem IM:Zr ["thing"] ["thing"] (cu uP):=scI
theorem AG:Zr ["self","name","number"] ["self","name"] (cu z6):=scI
theorem IN:Zr ["thing"] ["thing"] (cu z7):=scI
theorem IP:Zr ["thing","least"] ["thing","least"] (cu z8):=scI
theorem IQ:Zr ["start"] ["start"] (cu z9):=scI
theorem IR:Zr ["thing","bound"] ["thing","bound"] (cu z_):=scI
theorem IS:Zr ["self","work"] ["self","work"] (cu z'):=scI
theorem IT:Zr ["self","row"] ["self","row"] (cu Aa):=scI
theorem IU:Zr ["self","giver","taker","give","take","start"] ["self","giver","taker","give","take","start"] (cu Ab):=scI
theorem IV:Zr ["self"] ["self"] (cu Ac):=scI
theorem lK:Zr ["_law_names_here","_law_belts","_law_hall","_law_name","_law_giver","_law_taker","_law_give","_law_take","_law_start"] ["_law_names_here","_law_belts"] (cu Ad):=scI
theorem hl:Zr ["_law_names_here","_law_belts","_law_rates","_law_group","_law_members","_law_common_here","_law_work","_law_kept","_law_tied","_law_giver","_law_taker","_law_give","_law_take","_law_start","_law_due"] ["_law_names_here","_law_belts","_law_rates","_law_group"] (cu pV):=scI
theorem IW:Zr ["self"] ["self"] (cu Ae):=scI
theorem IX:Zr ["self"] ["self"] (cu Af):=scI
theorem rP:Zr ["hall","ways","belt","row"] ["hall"] (cu uQ):=scI
theorem kZ:Zr ["ways","first","tree","reached","done","work","other","belt","along"] ["ways","first"] (cu Ag):=scI
theorem n9:Zr ["hall","ways","seen","forest","work","tree"] ["hall"] (cu Ah):=scI
theorem rQ:Zr ["one","other","rest"] ["one","other"] (cu Ai):=scI
theorem AH:Zr ["top","bottom","common"] ["top","bottom"] (cu Aj):=scI
theorem IY:Zr ["one","other"] ["one","other"] (cu Ak):=scI
theorem IZ:Zr ["row","along"] ["row","along"] (cu Al):=scI
theorem I0:Zr ["self","belt"] ["self","belt"] (cu Am):=scI
theorem I1:Zr ["self","belt"] ["self","belt"] (cu An):=scI
theorem rR:Zr ["hall","tree","shares","work","step"] ["hall","tree"] (cu Ao):=scI
theorem I2:Zr ["one","other"] ["one","other"] (cu Ap):=scI
theorem k4:Zr ["hall","forest","rates","tree","shares","common","share","work"] ["hall","forest"] (cu uR):=scI
theorem I3:Zr ["hall","counts"] ["hall","counts"] (cu uS):=scI
theorem I4:Zr ["hall","forest","belt","row","tree","to_giver","to_taker","shared","back"] ["hall","forest","belt"] (cu Aq):=scI
theorem pY:Zr ["hall","forest","rates","belt","change"] ["hall"] (cu Ar):=scI
theorem AI:Zr ["_law_found","_law_number"] ["_law_found"] (cu As):=scI
theorem u3:Zr ["_law_hall","_law_names_here","_law_belts","_law_found","_law_belt"] ["_law_hall","_law_names_here","_law_belts"] (cu At):=scI
theorem jF:Zr ["_law_cell","_law_rates","_law_top","_law_ample","_law_mix","_law_giver","_law_taker","_law_both","_law_times_by","_law_give","_law_take","_law_start"] ["_law_cell","_law_rates","_law_top","_law_ample"] (cu Au):=scI
theorem I5:Zr ["self"] ["self"] (cu Av):=scI
theorem rS:Zr ["names","rows","hall","name","row"] ["names","rows"] (cu Aw):=scI
theorem I6:Zr ["self"] ["self"] (cu Ax):=scI
theorem AJ:Zr ["self","belt","start","row"] ["self","belt","start"] (cu Ay):=scI
theorem u4:Zr ["self","row","works","work"] ["self","row"] (cu Az):=scI
theorem I7:Zr ["self"] ["self"] (cu AA):=scI
theorem AK:Zr ["hall","group","work"] ["hall","group"] (cu AB):=scI
theorem n_:Zr ["rates","members","common","member","turns"] ["rates","members"] (cu AC):=scI
theorem rT:Zr ["hall","members","names","rows","row"] ["hall","members"] (cu uT):=scI
theorem I8:Zr ["hall"] ["hall"] (cu uU):=scI
theorem I9:Zr ["heaps","takes"] ["heaps","takes"] (cu uV):=scI
theorem jG:Zr ["self","starts","heaps","left","able","row","work","belt","take","give","other"] ["self","starts"] (cu uW):=scI
theorem I_:Zr ["self","work"] ["self","work"] (cu uX):=scI
theorem I':Zr ["hall","work"] ["hall","work"] (cu uY):=scI
theorem Ja:Zr ["self","work"] ["self","work"] (cu uZ):=scI
theorem Jb:Zr ["hall","work"] ["hall","work"] (cu u0):=scI
theorem Jc:Zr ["hall","work"] ["hall","work"] (cu UV):=scI
theorem Jd:Zr ["self","hall","turns"] ["self","hall","turns"] (cu pW):=scI
theorem rV:Zr ["hall","turns","members","inner","row"] ["hall","turns"] (cu u1):=scI
theorem pZ:Zr ["hall","turns","places","rows","row","give","take"] ["hall","turns","places"] (cu AD):=scI
theorem AL:Zr ["hall","rates"] ["hall"] (cu AE):=scI
theorem p0:Zr ["kept","turns","places","number","work","member"] ["kept","turns"] (cu AF):=scI
theorem rW:Zr ["self","hall","group","turns","names","first"] ["self","hall","group"] (cu rM):=scI
theorem gg:Zr ["_law_script","_law_first","_law_many","_law_rates","_law_top","_law_names_here","_law_belts","_law_k","_law_group","_law_hall","_law_handed","_law_joint","_law_inner","_law_late","_law_called","_law_tied","_law_due","_law_place","_law_made_here","_law_found"] ["_law_script"] (cu rN):=scI
set_option genInjectivity false
set_option genSizeOf false
set_option genSizeOfSpec false
set_option genInjectivity false in
set_option genSizeOf false in
structure Tp(K:Frag)(mg:Str→Option Value) where
 {m:Addr}
 ah:mg "Hall" =some (.ref m)
 a:Cls K m
 e:Vc K m ["numbers","rows"]
 {b:Addr}
 ai:mg "Course" =some (.ref b)
 t:Cls K b
 z:Vc K b ["turns","rows","takes","gives","touched"]
 {c:Addr}
 ao:mg "Joint" =some (.ref c)
 h:Cls K c
 l:Vc K c ["inner_row","kept","joined","called","rows"]
 x0:Dn K mg "_law_cell_at" "_law_cell_at" z2 ["_law_script","_law_k"]
 x1:Dn K mg "_law_names" "_law_names" z3 ["_law_cell","_law_many"]
 x2:Dn K mg "_law_common" "_law_common" z4 ["_law_one","_law_other"]
 x3:Dn K mg "_law_least" "_law_least" z5 ["_law_rates","_law_belts"]
 x4:Dn K mg "_law_group_by" "_law_group_by" uO ["_law_cell","_law_many"]
 x5:Dn K mg "is_name" "is_name" uP ["thing"]
 x6:Dm K m "work" "Hall.work" z6 ["self","name"]
 x7:Dn K mg "is_whole" "is_whole" z7 ["thing"]
 x8:Dn K mg "is_from" "is_from" z8 ["thing","least"]
 x9:Dn K mg "need_start" "need_start" z9 ["start"]
 ap:Dn K mg "is_number_below" "is_number_below" z_ ["thing","bound"]
 aa:Dm K m "need_work" "Hall.need_work" z' ["self","work"]
 aB:Dm K m "lay" "Hall.lay" Aa ["self","row"]
 {p:Addr}
 {q:FuncData}
 {AM:Addr}
 {ab:Tok}
 r:ZeG K m "belt" p
 Q:Ziv K "belt" "Hall.belt" Ab AM p q
 an:∃fg d2 n sl,K.lookup AM=some ⟨fg,d2,.seq #[.int 0 ab] n,sl⟩
 B:WI K q ["self","giver","taker","give","take","start"] []
 H:WI K q ["self","giver","taker","give","take","start"] [.int 0 ab]
 I:cL [.int 0] [.int 0 ab]
 aC:Di K m "Hall.__init__" Ac ["self"]
 aN:Dn K mg "_law_made" "_law_made" Ad ["_law_names_here","_law_belts"]
 aO:Dn K mg "_law_joined" "_law_joined" pV ["_law_names_here","_law_belts","_law_rates","_law_group"]
 G:Dm K m "belts" "Hall.belts" Ae ["self"]
 R:Dm K m "names" "Hall.names" Af ["self"]
 aP:Dn K mg "ways_of" "ways_of" uQ ["hall"]
 aQ:Dn K mg "tree_from" "tree_from" Ag ["ways","first"]
 aR:Dn K mg "forest_of" "forest_of" Ah ["hall"]
 aq:Dn K mg "divisor" "divisor" Ai ["one","other"]
 ar:Dn K mg "ratio" "ratio" Aj ["top","bottom"]
 aS:Dn K mg "times" "times" Ak ["one","other"]
 aT:Dn K mg "gain" "gain" Al ["row","along"]
 aD:Dm K m "need_belt" "Hall.need_belt" Am ["self","belt"]
 ak:Dm K m "belt_at" "Hall.belt_at" An ["self","belt"]
 aU:Dn K mg "shares_of" "shares_of" Ao ["hall","tree"]
 aV:Dn K mg "multiple" "multiple" Ap ["one","other"]
 aW:Dn K mg "rates_by" "rates_by" uR ["hall","forest"]
 aX:Dn K mg "change_of" "change_of" uS ["hall","counts"]
 QL:Dn K mg "way_to" "way_to" IK ["tree","work"]
 bk:Dn K mg "shared_steps" "shared_steps" IL ["one","other"]
 aY:Dn K mg "ring_through" "ring_through" Aq ["hall","forest","belt"]
 aE:Dn K mg "rates_of" "rates_of" Ar ["hall"]
 au:Dn K mg "_law_wholes" "_law_wholes" As ["_law_found"]
 aF:Dn K mg "_law_hall_good" "_law_hall_good" At ["_law_hall","_law_names_here","_law_belts"]
 aZ:Dn K mg "_law_belt_by" "_law_belt_by" Au ["_law_cell","_law_rates","_law_top","_law_ample"]
 aG:Dm K c "inner" "Joint.inner" Av ["self"]
 aH:Dn K mg "hall_of" "hall_of" Aw ["names","rows"]
 av:Dm K c "made" "Joint.made" Ax ["self"]
 a0:Dm K m "fill" "Hall.fill" Ay ["self","belt","start"]
 a1:Dm K c "unfolded" "Joint.unfolded" Az ["self","row"]
 aI:Dm K c "place" "Joint.place" AA ["self"]
 a2:Dn K mg "need_group" "need_group" AB ["hall","group"]
 a3:Dn K mg "turns_of" "turns_of" AC ["rates","members"]
 a4:Dn K mg "inner_hall" "inner_hall" uT ["hall","members"]
 a5:Dn K mg "starts_of" "starts_of" uU ["hall"]
 aJ:Dn K mg "enough" "enough" uV ["heaps","takes"]
 a6:Dm K b "row_from" "Course.row_from" uW ["self","starts"]
 a7:Dm K m "entering" "Hall.entering" uX ["self","work"]
 a8:Dn K mg "takes_of" "takes_of" uY ["hall","work"]
 aK:Dm K m "leaving" "Hall.leaving" uZ ["self","work"]
 a9:Dn K mg "gives_of" "gives_of" u0 ["hall","work"]
 ba:Dn K mg "touched_by" "touched_by" UV ["hall","work"]
 bb:Di K b "Course.__init__" pW ["self","hall","turns"]
 bc:Dn K mg "inner_row_of" "inner_row_of" u1 ["hall","turns"]
 bd:Dn K mg "joined_rows" "joined_rows" AD ["hall","turns","places"]
 be:Dn K mg "round_rates" "round_rates" AE ["hall"]
 bf:Dn K mg "places_of" "places_of" AF ["kept","turns"]
 bg:Di K c "Joint.__init__" rM ["self","hall","group"]
 aL:Dn K mg "law" "law" rN ["_law_script"]
 ax:mg "all" =none
 al:mg "bool" =none
 k:mg "enumerate" =none
 ay:mg "int" =none
 g:mg "isinstance" =none
 f:mg "len" =none
 j:mg "list" =none
 ag:mg "min" =none
 i:mg "range" =none
 U:mg "reversed" =none
 az:mg "set" =none
 D:mg "sorted" =none
 bh:mg "str" =none
 aA:mg "sum" =none
 X:mg "tuple" =none
 bi:mg "zip" =none
 {am:Addr}
 S:Ex K mg "NoName" am
 {aw:Addr}
 Y:Ex K mg "Twice" aw
 {J:Addr}
 u:Ex K mg "TooMuch" J
 {o:Addr}
 x:Ex K mg "NoWork" o
 {E:Addr}
 T:Ex K mg "NoBelt" E
 {F:Addr}
 y:Ex K mg "NoRate" F
 {ac:Addr}
 w:Ex K mg "NotBalanced" ac
 {A:Addr}
 L:Ex K mg "TooLong" A
 {P:Addr}
 Z:Ex K mg "Stuck" P
 {V:Tok}
 C:mg "MOST_LETTERS" =some (.int 8 V)
 {ad:Tok}
 M:mg "MOST_WORKS" =some (.int 30 ad)
 {Je:Tok}
 N:mg "MOST_BELTS" =some (.int 60 Je)
 {Jf:Tok}
 O:mg "MOST_TURNS" =some (.int 400 Jf)
 aM:∀(s:Shared)(v:Value),BindsTo s aL.d ⟨[v],[]⟩ [("_law_script",v)]
set_option genInjectivity true
set_option genSizeOf true
set_option genSizeOfSpec true
theorem AN{a b:Int}(bF:0≤a)(a_:0<b):My.G b (a % b)=My.G a b:=by
 rw[←qbV _ (Int.le_of_lt a_)];exact My.Zm9 bF a_
theorem Zpg{k:Nat}{x:Int}(h:My.S k x):Builtin.Int.intBits x≤2048*2 ^ k:=by
 unfold Builtin.Int.intBits
 split
 ·exact qau _
 ·rename_i hz;have cd:x.natAbs≠0:=by
   intro e;apply hz;have:x=0:=by omega
   rw[this]
   rfl
  have e:x.natAbs=x.toNat:=by have:=h.lo;omega
  have:=(qcf cd).mpr (by rw[e];exact h.hi);omega
theorem Zpf{k:Nat}{x:Int}(h:My.S k x)(bt:k≤2):x.natAbs.log2<9000:=by
 by_cases cd:x.natAbs=0
 ·rw[cd];decide+kernel
 ·have e:x.natAbs=x.toNat:=by have:=h.lo;omega
  have l:=(qcf cd).mpr (by rw[e];exact(h.mono bt).hi);omega
def Zlr(K:Frag):Sp:=λvs H Q _=>∃(a:Addr)(ns:List Int),vs=[.ref a]∧SqL K H a (ns.map V.int)∧ns.length≤63∧∀ae,Q (.bl true) ae
def Jg{K:Frag}{mg:Str→Option Value}(T:Tp K mg):Sp:=Zlr K
noncomputable def f0 (x:Str):Bool:=decide (1≤x.length)&&decide (x.length≤8)&&x.cps.toList.all λc=>decide (97≤c)&&decide (c≤122)
structure B5 where
 giver:Int
 taker:Int
 give:Int
 take:Int
 start:Int
noncomputable def B5.v (b:B5):List V:=[.int b.giver,.int b.taker,.int b.give,.int b.take,.int b.start]
noncomputable def B5.d (b:B5):PyData:= .tuple [.int b.giver,.int b.taker,.int b.give,.int b.take,.int b.start]
structure HM where
 names:List Str
 belts:List B5
noncomputable def ek (H:Hp):List V→List B5→Prop:=Paired λv b=>∃t,v= .ref t∧H t=some (.tup b.v)
noncomputable def numsOf (ns:List Str):List (Key×V):=ns.zipIdx.map λp=>(Sum.inr p.1,V.int p.2)
theorem UD(ns:List Str):(numsOf ns).length=ns.length:=by unfold numsOf;simp
theorem Jh(ns:List Str)(x:Str):numsOf (ns++ [x])=numsOf ns++ [(Sum.inr x,.int ns.length)]:=by
 unfold numsOf;rw[List.zipIdx_append];simp
theorem Zc2(ns:List Str):((numsOf ns).map λkv=>kV kv.1)=ns.map V.str:=by
 unfold numsOf;rw[qa3];have:((λkv:Key×V=>kV kv.1)∘λp:Str×Nat=>((Sum.inr p.1:Key),V.int p.2))=(V.str∘λp:Str×Nat=>p.1):=rfl;rw[this,←qa3,List.zipIdx_map_fst]
theorem ZeU(ns:List Str)(x:Str):(valV (numsOf ns) (Sum.inr x)).isSome=decide (x∈ns):=by
 rw[←W1];rw[qbB,qbX,decide_eq_true_eq];have e:x∈ns↔V.str x∈ns.map V.str:=by
  constructor
  ·exact List.mem_map_of_mem
  ·intro h;obtain⟨y,bR,e⟩:=qam.mp h;cases e;exact bR
 rw[e,←Zc2,qam]
 constructor
 ·rintro⟨p,bD,h⟩;exact⟨p,bD,by rw[of_decide_eq_true h];rfl⟩
 ·rintro⟨p,bD,h⟩;exact⟨p,bD,decide_eq_true (Gx h)⟩
theorem Ji{ns:List Str}{x:Str}(h:x∉ns):valV (numsOf ns) (Sum.inr x)=none:=by
 have:=ZeU ns x;rw[decide_eq_false h] at this;cases e:valV (numsOf ns) (Sum.inr x) with
 |none=>rfl
 |some v=>rw[e] at this;cases this
theorem Jj{ns:List Str}{x:Str}(h:x∉ns):e8 (numsOf ns) (Sum.inr x) (.int ns.length)=numsOf (ns++ [x]):=by
 rw[ZaZ _ (Ji h),Jh]
def c2{K:Frag}{mg:Str→Option Value}(T:Tp K mg)(H:Hp)(p:Addr)(aj:HM)(fp:List Addr):Prop:=
 ∃(bx a b:Addr)(bs:List V),fp=[p,bx,a,b]∧H p=some (.ins T.m bx [("numbers",.ref a),("rows",.ref b)])∧H bx=some (.own p)∧H a=some (.dK (numsOf aj.names))∧H b=some (.lst bs)∧a≠b∧ek H bs aj.belts
theorem ek.keep{H ae:Hp}(t:∀b xs,H b=some (.tup xs)→ae b=some (.tup xs)):∀{bs:List V}{ls:List B5},ek H bs ls→ek ae bs ls
 |_,_,.nil=> .nil
 |_,_,.cons ⟨a,e,h⟩ r=> .cons ⟨a,e,t _ _ h⟩ (ek.keep t r)
theorem ek.length{H:Hp}{bs:List V}{ls:List B5}(h:ek H bs ls):bs.length=ls.length:=Paired.length h
theorem ek.snoc{H:Hp}:∀{bs:List V}{ls:List B5}{t:Addr}{b:B5},ek H bs ls→H t=some (.tup b.v)→ek H (bs++ [.ref t]) (ls++ [b])
 |_,_,_,_,.nil,h=> .cons ⟨_,rfl,h⟩ .nil
 |_,_,_,_,.cons x r,h=> .cons x (ek.snoc r h)
theorem ek.at{H:Hp}:∀{bs:List V}{ls:List B5}{i:Nat}{b:B5},ek H bs ls→ls[i]? =some b→∃t,bs[i]? =some (.ref t)∧H t=some (.tup b.v)
 |_,_,_,_,.nil,e=>by simp at e
 |_,_,0,_,.cons ⟨t,bG,h⟩ _,e=>by simp at e;subst e;exact⟨t,by simp[bG],h⟩
 |_,_,i+1,b,.cons _ r,e=>by
  obtain⟨t,bj,bp⟩:=ek.at (i:=i) (b:=b) r (by simpa using e);exact⟨t,by simpa using bj,bp⟩
section
variable {K:Frag}{mg:Str→Option Value}{T:Tp K mg}{H ae:Hp}{p:Addr}{aj:HM}{fp:List Addr}
theorem c2.dom(h:c2 T H p aj fp):∀x∈fp,H x≠none:=by
 obtain⟨bx,a,b,bs,rfl,bj,bp,bT,cy,_⟩:=h;intro x bo;simp only[qae,qaG,or_false] at bo;rcases bo with rfl|rfl|rfl|rfl
 ·rw[bj];simp
 ·rw[bp];simp
 ·rw[bT];simp
 ·rw[cy];simp
theorem c2.keep(h:c2 T H p aj fp)(k:∀x∈fp,ae x=H x)(t:∀b xs,H b=some (.tup xs)→ae b=some (.tup xs)):c2 T ae p aj fp:=by
 obtain⟨bx,a,b,bs,rfl,bj,bp,bT,cy,dJ,db⟩:=h;exact⟨bx,a,b,bs,rfl,(k p (by simp)).trans bj,(k bx (by simp)).trans bp,(k a (by simp)).trans bT,(k b (by simp)).trans cy,dJ,db.keep t⟩
theorem c2.off{A:List Addr}(h:c2 T H p aj fp)(f:c_ A H ae)(d:∀x∈fp,x∉A):c2 T ae p aj fp:=by
 refine h.keep (λx bo=>?_) f.tups;cases q:H x with
 |none=>exact absurd q (h.dom x bo)
 |some o=>exact f.keep x o q (d x bo)
theorem Zi7{m:Str}{G:Prop}(h:c2 T H p aj fp)(fu:(m== "numbers")=false)(fA:(m== "rows")=false)(q:G):∃a bx fs,V.ref p= .ref a∧H a=some (.ins T.m bx fs)∧fs.lookup m=none∧G:=by
 obtain⟨bx,a,b,bs,rfl,bj,_⟩:=h;exact⟨p,bx,_,rfl,bj,Rd.lk1 fu (Rd.lk1 fA Rd.lkN),q⟩
theorem c2.same(h:c2 T H p aj fp)(e:Ze H ae):c2 T ae p aj fp:=h.off (A:=[]) e.frame (by simp)
end
noncomputable def dB:B5:=⟨0,0,0,0,0⟩
noncomputable def eG (ls:List B5) (w:Int):List Nat:=(List.range ls.length).filter λi=>decide ((ls.getD i dB).taker=w)
noncomputable def dW (ls:List B5) (w:Int):List Nat:=(List.range ls.length).filter λi=>decide ((ls.getD i dB).giver=w)
theorem ek.getD{H:Hp}{bs:List V}{ls:List B5}{i:Nat}(h:ek H bs ls)(hi:i<ls.length):∃t,bs.getD i .non= .ref t∧H t=some (.tup (ls.getD i dB).v):=by
 obtain⟨t,bj,bp⟩:=h.at (GT hi);exact⟨t,by simp[List.getD,bj],by simpa[List.getD,hi] using bp⟩
theorem rX(b:B5):b.d.canLay0=true:=by simp[B5.d,PyData.canLay0,PyData.canLayAll0]
theorem AO(b:B5):b.d.depth≤2:=by simp[B5.d,PyData.depth,PyData.depthAll]
theorem AQ:∀ls:List B5,PyData.canLayAll0 (ls.map B5.d)=true
 | []=>by simp[PyData.canLayAll0]
 |b::ls=>by
  have:=AQ ls;simp only[List.map_cons,PyData.canLayAll0,rX b,Bool.true_and];exact this
theorem Jk(ls:List B5):(PyData.list (ls.map B5.d)).canLay0=true:=by
 have:=AQ ls;simp[PyData.canLay0];simpa using this
theorem AR:∀ls:List B5,PyData.depthAll (ls.map B5.d)≤3
 | []=>by simp[PyData.depthAll]
 |b::ls=>by
  have bj:=AR ls;have bp:=AO b;simp only[List.map_cons,PyData.depthAll];omega
theorem Jl(ls:List B5):(PyData.list (ls.map B5.d)).depth≤60:=by
 have:=AR ls;simp only[PyData.depth];omega
theorem u5{K:Frag}{H:Hp}{t:Addr}{b:B5}(h:H t=some (.tup b.v)):e_ K H (.ref t) b.d:= .tup (.of h) (.cons (.int _) (.cons (.int _) (.cons (.int _) (.cons (.int _) (.cons (.int _) .nil)))))
theorem AS{K:Frag}{H:Hp}:∀{bs:List V}{ls:List B5},ek H bs ls→DRels K H bs (ls.map B5.d)
 |_,_,.nil=> .nil
 |_,_,.cons ⟨t,e,h⟩ r=>by rw[e];exact .cons (u5 h) (AS r)
theorem u6{n:Nat}(h:n≤10000):n<sizeLine:=qaL h (by decide)
noncomputable def m0 (ls:List B5) (i:Nat) (w:Int):List Fo.Trip:=(if(ls.getD i dB).giver=w then[((ls.getD i dB).taker,(i:Int),true)] else[])++(if(ls.getD i dB).taker=w then[((ls.getD i dB).giver,(i:Int),false)] else[])
noncomputable def jH (ls:List B5) (k:Nat) (w:Int):List Fo.Trip:=(List.range k).flatMap λi=>m0 ls i w
noncomputable def ft (ls:List B5):Int→List Fo.Trip:=jH ls ls.length
theorem Zhw(ls:List B5)(k:Nat)(w:Int):jH ls (k+1) w=jH ls k w++m0 ls k w:=by
 unfold jH;rw[qbG,List.flatMap_append];simp
theorem p1{cM:Type}{xs:List cM}(nd:xs.Nodup){i j:Nat}(hi:i<xs.length)(bC:j<xs.length)(e:xs[i]=xs[j]):i=j:=by
 rcases Nat.lt_trichotomy i j with h|h|h
 ·exact absurd e (qbg.mp nd i j hi bC h)
 ·exact h
 ·exact absurd e.symm (qbg.mp nd j i bC hi h)
theorem eX{H ae:Hp}{x:Addr}(s:Ze H ae)(h:ae x=none):H x=none:=by
 cases e:H x with
 |none=>rfl
 |some o=>rw[s _ _ e] at h;cases h
theorem el{cM:Type}{xs:List cM}{i:Nat}{d:cM}(h:i<xs.length):xs.getD i d=xs[i]:=by simp[List.getD,h]
theorem VU{ls:List B5}{w:Int}{t:Fo.Trip}(h:t∈ft ls w):∃(i:Nat)(hi:i<ls.length),t∈m0 ls i w:=by
 unfold ft jH at h;obtain⟨i,hi,b3⟩:=List.mem_flatMap.mp h;exact⟨i,qaw.mp hi,b3⟩
theorem n'{ls:List B5}{w:Int}{t:Fo.Trip}{i:Nat}(hi:i<ls.length)(h:t∈m0 ls i w):t∈ft ls w:=by
 unfold ft jH;exact List.mem_flatMap.mpr ⟨i,qaw.mpr hi,h⟩
theorem YU{ls:List B5}{i:Nat}{w:Int}{t:Fo.Trip}:t∈m0 ls i w↔((ls.getD i dB).giver=w∧t=((ls.getD i dB).taker,(i:Int),true))∨((ls.getD i dB).taker=w∧t=((ls.getD i dB).giver,(i:Int),false)):=by
 unfold m0;rw[qaH]
 by_cases bj:(ls.getD i dB).giver=w<;>by_cases bp:(ls.getD i dB).taker=w<;>simp[bj,bp]
theorem rY(ls:List B5):Fo.Zk2 (ft ls):=by
 intro a b t al h;obtain⟨i,hi,b3⟩:=VU h;refine n' hi ?_;rw[YU] at b3⊢;rcases b3 with⟨bj,bp⟩|⟨bj,bp⟩
 ·injection bp with bG bK
  injection bK with bK de
  exact .inr ⟨bG.symm,by rw[←bj,bK,de];rfl⟩
 ·injection bp with bG bK
  injection bK with bK de
  exact .inl ⟨bG.symm,by rw[←bj,bK,de];rfl⟩
def ZI(ls:List B5)(n:Nat):Prop:=∀b∈ls,0≤b.giver∧b.giver<(n:Int)∧0≤b.taker∧b.taker<(n:Int)
theorem ZI.at{ls:List B5}{n i:Nat}(h:ZI ls n)(hi:i<ls.length):0≤(ls.getD i dB).giver∧(ls.getD i dB).giver<(n:Int)∧0≤(ls.getD i dB).taker∧(ls.getD i dB).taker<(n:Int):=by
 rw[el hi];exact h _ (GM hi)
theorem oa{ls:List B5}{n:Nat}(h:ZI ls n):∀a,∀t∈ft ls a,0≤t.1∧t.1<(n:Int):=by
 intro a t b3;obtain⟨i,hi,bA⟩:=VU b3;have:=h.at hi;rw[YU] at bA;rcases bA with⟨_,rfl⟩|⟨_,rfl⟩<;>(dsimp only;omega)
noncomputable def ip (H:Hp):List Fo.Trip→List V→Prop:=Paired λx v=>∃t,v= .ref t∧H t=some (.tup [.int x.1,.int x.2.1,.bl x.2.2])
theorem ip.keep{H ae:Hp}(t:∀b xs,H b=some (.tup xs)→ae b=some (.tup xs)){vs:List V}{l:List Fo.Trip}(h:ip H l vs):ip ae l vs:=Paired.mapP h λ_ _ ⟨a,e,z⟩=>⟨a,e,t _ _ z⟩
theorem ip.snoc{H:Hp}:∀{l:List Fo.Trip}{vs:List V}{x:Fo.Trip}{t:Addr},ip H l vs→H t=some (.tup [.int x.1,.int x.2.1,.bl x.2.2])→ip H (l++ [x]) (vs++ [.ref t])
 |_,_,_,_,.nil,h=> .cons ⟨_,rfl,h⟩ .nil
 |_,_,_,_,.cons y r,h=> .cons y (ip.snoc r h)
theorem ip.length{H:Hp}{l:List Fo.Trip}{vs:List V}(h:ip H l vs):l.length=vs.length:=Paired.length h
theorem ip.at{H:Hp}:∀{l:List Fo.Trip}{vs:List V}{i:Nat}{x:Fo.Trip},ip H l vs→l[i]? =some x→∃t,vs[i]? =some (.ref t)∧H t=some (.tup [.int x.1,.int x.2.1,.bl x.2.2])
 |_,_,_,_,.nil,e=>by simp at e
 |_,_,0,_,.cons ⟨t,bG,h⟩ _,e=>by simp at e;subst e;exact⟨t,by simp[bG],h⟩
 |_,_,i+1,b,.cons _ r,e=>by
  obtain⟨t,bj,bp⟩:=ip.at (i:=i) (x:=b) r (by simpa using e);exact⟨t,by simpa using bj,bp⟩
def WA(H:Hp)(cn:List Addr)(W:Int→List Fo.Trip):Prop:=∀(j:Nat)(h:j<cn.length),∃vs,H cn[j]=some (.lst vs)∧ip H (W (j:Int)) vs
theorem WA.same{H ae:Hp}{cn:List Addr}{W:Int→List Fo.Trip}(h:WA H cn W)(s:Ze H ae):WA ae cn W:=λj bC=>by
 obtain⟨vs,bj,bp⟩:=h j bC;exact⟨vs,s _ _ bj,bp.keep λ_ _ e=>s _ _ e⟩
theorem WA.add{H:Hp}{cn:List Addr}{W:Int→List Fo.Trip}(h:WA H cn W)(nd:cn.Nodup){g:Nat}(bH:g<cn.length){vs:List V}(b_:H cn[g]=some (.lst vs))(b3:ip H (W (g:Int)) vs){t:Addr}{x:Fo.Trip}(Jm:H t=some (.tup [.int x.1,.int x.2.1,.bl x.2.2])):
  WA (upd H cn[g] (.lst (vs++ [.ref t]))) cn (λj=>W j++(if(g:Int)=j then[x] else[])):=by
 have ej:∀b xs,H b=some (.tup xs)→(upd H cn[g] (.lst (vs++ [.ref t]))) b=some (.tup xs):=λb xs e=>by rw[b5 (fj e b_ (by intro z;cases z))];exact e
 intro j bC
 by_cases e:j=g
 ·subst e;refine⟨vs++ [.ref t],Zd,?_⟩;dsimp only;rw[if_pos rfl];exact(b3.keep ej).snoc (ej _ _ Jm)
 ·obtain⟨us,bj,bp⟩:=h j bC;have ne:cn[j]≠cn[g]:=λz=>e (p1 nd bC bH z);refine⟨us,by rw[b5 ne];exact bj,?_⟩;dsimp only;rw[if_neg (by omega),qb7];exact bp.keep ej
structure ZbP(H:Hp)(r:Addr)(cn:List Addr)(n:Nat)(W:Int→List Fo.Trip):Prop where
 at_:H r=some (.lst (cn.map V.ref))
 len:cn.length=n
 nd:cn.Nodup
 wa:WA H cn W
theorem ZbP.same{H ae:Hp}{r:Addr}{cn:List Addr}{n:Nat}{W:Int→List Fo.Trip}(h:ZbP H r cn n W)(s:Ze H ae):ZbP ae r cn n W:=⟨s _ _ h.at_,h.len,h.nd,h.wa.same s⟩
theorem Zeu{cn:List Addr}{g:Int}(cd:0≤g)(bj:g.toNat<cn.length):atI (cn.map V.ref) g=some (.ref cn[g.toNat]):=by
 have:=gY (xs:=cn.map V.ref) (j:=g.toNat) (v:= .ref cn[g.toNat]) (by simp[bj])
 rwa [qaz cd] at this
noncomputable def ob (H:Hp) (v:V):Option Fo.Trip→Prop
 |none=>v= .non
 |some (p,b,al)=>∃t,v= .ref t∧H t=some (.tup [.int p,.int b,.bl al])
theorem ob.keep{H ae:Hp}(t:∀b xs,H b=some (.tup xs)→ae b=some (.tup xs)){v:V}:∀{s:Option Fo.Trip},ob H v s→ob ae v s
 |none,h=>h
 |some (_,_,_),⟨a,e,z⟩=>⟨a,e,t _ _ z⟩
noncomputable def Ent (H:Hp):List (Key×V)→Fo.ZT→Prop:=Paired λkv x=>kv.1=Sum.inl x.1∧ob H kv.2 x.2
theorem Ent.keep{H ae:Hp}(t:∀b xs,H b=some (.tup xs)→ae b=some (.tup xs)){kvs:List (Key×V)}{bP:Fo.ZT}(h:Ent H kvs bP):Ent ae kvs bP:=Paired.mapP h λ_ _ ⟨a,z⟩=>⟨a,z.keep t⟩
theorem Ent.snoc{H:Hp}:∀{kvs:List (Key×V)}{bP:Fo.ZT}{w:Int}{v:V}{s:Option Fo.Trip},Ent H kvs bP→ob H v s→Ent H (kvs++ [(Sum.inl w,v)]) (bP++ [(w,s)])
 |_,_,_,_,_,.nil,h=> .cons ⟨rfl,h⟩ .nil
 |_,_,_,_,_,.cons y r,h=> .cons y (Ent.snoc r h)
theorem Ent.length{H:Hp}{kvs:List (Key×V)}{bP:Fo.ZT}(h:Ent H kvs bP):kvs.length=bP.length:=Paired.length h
theorem Ent.keys{H:Hp}:∀{kvs:List (Key×V)}{bP:Fo.ZT},Ent H kvs bP→kvs.map (·.1)=(Fo.keys bP).map Sum.inl
 |_,_,.nil=>rfl
 |_,_,.cons ⟨a,_⟩ r=>by
  have:=Ent.keys r;unfold Fo.keys at this⊢;rw[List.map_cons,List.map_cons,List.map_cons,a,this]
theorem Ent.some{H:Hp}:∀{kvs:List (Key×V)}{bP:Fo.ZT}{w:Int},Ent H kvs bP→((valV kvs (Sum.inl w)).isSome=true↔w∈Fo.keys bP):=by
 intro kvs bP w h;rw[←W1,qbX];have bt:=h.keys
 constructor
 ·rintro⟨kv,bA,e⟩;have bG:kv.1=Sum.inl w:=of_decide_eq_true e;have:kv.1∈kvs.map (·.1):=List.mem_map_of_mem bA;rw[bt,bG] at this;obtain⟨d3,k6,bK⟩:=qam.mp this;cases bK;exact k6
 ·intro hw;have:(Sum.inl w:Key)∈(Fo.keys bP).map Sum.inl:=List.mem_map_of_mem hw;rw[←bt] at this;obtain⟨kv,bA,e⟩:=qam.mp this;exact⟨kv,bA,decide_eq_true e⟩
def Vj(H:Hp)(d:Addr)(bP:Fo.ZT):Prop:=∃kvs,H d=some (.dK kvs)∧Ent H kvs bP
theorem Vj.same{H ae:Hp}{d:Addr}{bP:Fo.ZT}(h:Vj H d bP)(s:Ze H ae):Vj ae d bP:=by
 obtain⟨kvs,bj,bp⟩:=h;exact⟨kvs,s _ _ bj,bp.keep λ_ _ e=>s _ _ e⟩
theorem AT:∀(more kvs:List (Key×V))(k:Key),(valV (f' kvs more) k).isSome=((valV kvs k).isSome||(valV more k).isSome)
 | [],kvs,k=>by
  show(valV kvs k).isSome=((valV kvs k).isSome||(valV ([]:List (Key×V)) k).isSome);have:valV ([]:List (Key×V)) k=none:=rfl;rw[this,Option.isSome_none,Bool.or_false]
 |(j,v)::r,kvs,k=>by
  show(valV (f' (e8 kvs j v) r) k).isSome=_;rw[AT r (e8 kvs j v) k,pc]
  by_cases e:j=k
  ·subst e;rw[if_pos rfl,iJ rfl];simp
  ·rw[if_neg (λz=>e z.symm),iK e]
theorem Paired.get'{cM gj:Type}{P:cM→gj→Prop}:∀{xs:List cM}{ys:List gj}{i:Nat}{x:cM},Paired P xs ys→xs[i]? =some x→∃y,ys[i]? =some y∧P x y
 |_,_,_,_,.nil,e=>by simp at e
 |_,_,0,_,.cons h _,e=>by simp at e;subst e;exact⟨_,rfl,h⟩
 |_,_,i+1,x,.cons _ r,e=>by
  obtain⟨y,bj,bp⟩:=Paired.get' (i:=i) (x:=x) r (by simpa using e);exact⟨y,by simpa using bj,bp⟩
noncomputable def g7 (H:Hp):List Addr→List (Int×Fo.ZT)→Prop:=Paired λd x=>Vj H d x.2
theorem g7.same{H ae:Hp}{cj:List Addr}{F:List (Int×Fo.ZT)}(h:g7 H cj F)(s:Ze H ae):g7 ae cj F:=Paired.mapP h λ_ _ z=>z.same s
theorem g7.snoc{H:Hp}:∀{cj:List Addr}{F:List (Int×Fo.ZT)}{d:Addr}{x:Int×Fo.ZT},g7 H cj F→Vj H d x.2→g7 H (cj++ [d]) (F++ [x])
 |_,_,_,_,.nil,h=> .cons h .nil
 |_,_,_,_,.cons y r,h=> .cons y (g7.snoc r h)
theorem g7.keep{H ae:Hp}(t:∀b xs,H b=some (.tup xs)→ae b=some (.tup xs)):∀{cj:List Addr}{F:List (Int×Fo.ZT)},g7 H cj F→(∀d∈cj,∀kvs,H d=some (.dK kvs)→ae d=some (.dK kvs))→g7 ae cj F
 |_,_,.nil,_=> .nil
 |_,_,.cons ⟨kvs,bj,bp⟩ r,k=> .cons ⟨kvs,k _ (by simp) _ bj,bp.keep t⟩ (g7.keep t r λd hd=>k d (qaq _ hd))
theorem g7.length{H:Hp}{cj:List Addr}{F:List (Int×Fo.ZT)}(h:g7 H cj F):cj.length=F.length:=Paired.length h
structure ZkI(H:Hp)(f:Addr)(cj:List Addr)(F:List (Int×Fo.ZT)):Prop where
 at_:H f=some (.lst (cj.map V.ref))
 trees:g7 H cj F
theorem j4{ns:List Int}{k:Int}(cd:0≤k)(bj:k<ns.length):atI (ns.map V.int) k=some (.int (ns.getD k.toNat 0)):=by
 obtain⟨n,rfl⟩:=qaP cd;have bO:n<ns.length:=by omega
 refine gY ?_;simp[List.getD,bO]
theorem Zlq{n a:Nat}(h:a<2 ^ n):Builtin.Int.intBits (a:Int)≤n:=by
 unfold Builtin.Int.intBits
 split
 ·exact qau _
 ·rename_i hz;have cd:(a:Int).natAbs≠0:=by
   intro e;apply hz;have:(a:Int)=0:=by omega
   rw[this]
   rfl
  have e:(a:Int).natAbs=a:=qcc a;have:=(qcf cd).mpr (by rw[e];exact h);omega
theorem Zex{n m a b:Nat}(bF:a<2 ^ n)(a_:b<2 ^ m)(h:n+m≤10000000):IntMulOk (a:Int) (b:Int):=by
 have eb:=Zlq bF;have eT:=Zlq a_;have k:Builtin.Int.intTooBig ((Builtin.Int.intBits (a:Int):Int)+(Builtin.Int.intBits (b:Int):Int))=false:=by
  unfold Builtin.Int.intTooBig;rw[PySem.bitsLine_eq];exact decide_eq_false (by omega)
 unfold IntMulOk;rw[k];simp
theorem Jn{a:Nat}(h:a<2 ^ 8000):(a:Int).natAbs.log2<9000:=by
 rw[qcc]
 by_cases cd:a=0
 ·rw[cd];decide+kernel
 ·have:=(qcf cd).mpr h;omega
theorem Zkz{a b:Nat}(a_:0<b)(h:b<2 ^ 8000):0<(b:Int)∧(b:Int).natAbs.log2<9000:=⟨by omega,Jn h⟩
theorem p2{a b n m:Nat}(bF:a<2 ^ n)(a_:b<2 ^ m):a*b<2 ^ (n+m):=by
 rw[Nat.pow_add];exact Nat.mul_lt_mul'' bF a_
def Bal(B:B5)(al:Bool)(x y:Nat×Nat):Prop:=if al=true then x.1*y.2*B.take.toNat=y.1*x.2*B.give.toNat else x.1*y.2*B.give.toNat=y.1*x.2*B.take.toNat
structure iP(ls:List B5)(bP:Fo.ZT)(zs:List (Int×(Nat×Nat)))(d:Nat):Prop where
 keys:zs.map (·.1)=(Fo.keys bP).take d
 pos:∀x∈zs,0<x.2.1∧0<x.2.2∧Nat.gcd x.2.1 x.2.2=1
 size:∀(i:Nat) x,zs[i]? =some x→x.2.1<2 ^ (110*i+1)∧x.2.2<2 ^ (110*i+1)
 first:∀(i:Nat)(w:Int),i<d→bP[i]? =some (w,none)→zs[i]? =some (w,(1,1))
 step:∀(i:Nat)(w p b:Int)(al:Bool),i<d→bP[i]? =some (w,some (p,b,al))→∃(j:Nat)(x y:Nat×Nat),j<i∧zs[i]? =some (w,x)∧zs[j]? =some (p,y)∧Bal (ls.getD b.toNat dB) al x y
theorem Jo{ls:List B5}{bP:Fo.ZT}:iP ls bP [] 0:=⟨rfl,by simp,by simp,λi w h=>absurd h (qbn _),λi w p b al h=>absurd h (qbn _)⟩
theorem iP.len{ls:List B5}{bP:Fo.ZT}{zs:List (Int×(Nat×Nat))}{d:Nat}(h:iP ls bP zs d)(hd:d≤bP.length):zs.length=d:=by
 have:=congrArg List.length h.keys;rw[GE,qaO] at this;simp[Fo.keys] at this;omega
theorem ZkF{cM:Type}{zs:List cM}{x y:cM}{i:Nat}(h:(zs++ [x])[i]? =some y):zs[i]? =some y∨(i=zs.length∧y=x):=by
 rcases qbR i zs.length with c|c
 ·rw[qa1 c] at h;exact .inl h
 ·rw[qaX c] at h;have:i-zs.length=0:=by
   rcases qa9 (i-zs.length) with z|z
   ·exact z
   ·rw[qaU (by simp;omega)] at h;cases h
  rw[this] at h;simp at h;exact .inr ⟨by omega,h.symm⟩
theorem rZ{cM:Type}{zs:List cM}{x y:cM}{i:Nat}(h:zs[i]? =some y):(zs++ [x])[i]? =some y:=by
 rw[qa1 (FM.mp h).1];exact h
theorem Zd3{cM:Type}{zs:List cM}{x:cM}:(zs++ [x])[zs.length]? =some x:=by rw[qaX (qaa _),Nat.sub_self];rfl
theorem iP.more{ls:List B5}{bP:Fo.ZT}{zs:List (Int×(Nat×Nat))}{d:Nat}(h:iP ls bP zs d)(hd:d<bP.length){w:Int}{st:Option Fo.Trip}(e:bP[d]? =some (w,st)){x:Nat×Nat}(bD:0<x.1∧0<x.2∧Nat.gcd x.1 x.2=1)(hs:x.1<2 ^ (110*d+1)∧x.2<2 ^ (110*d+1))
  (bO:st=none→x=(1,1)) (hc:∀p b al,st=some (p,b,al)→∃(j:Nat)(y:Nat×Nat),zs[j]? =some (p,y)∧Bal (ls.getD b.toNat dB) al x y):iP ls bP (zs++ [(w,x)]) (d+1):=by
 have aj:=h.len (qa2 hd);have bt:(Fo.keys bP)[d]? =some w:=by unfold Fo.keys;rw[qaj,e];rfl
 refine⟨?_,λy bR=>?_,λi y bR=>?_,λi d3 hi cf=>?_,λi d3 p b al hi cf=>?_⟩
 ·rw[qaW,h.keys,List.take_succ,bt];rfl
 ·rcases qaH.mp bR with z|z
  ·exact h.pos y z
  ·rw[qac.mp z];exact bD
 ·rcases ZkF bR with z|⟨cH,cI⟩
  ·exact h.size i y z
  ·rw[cI,cH,aj];exact hs
 ·rcases qbm.mp hi with z|z
  ·exact rZ (h.first i d3 z cf)
  ·subst z;rw[e] at cf;cases cf;rw[bO rfl,←aj];exact Zd3
 ·rcases qbm.mp hi with z|z
  ·obtain⟨j,e5,hF,bj,bp,bT,cy⟩:=h.step i d3 p b al z cf;exact⟨j,e5,hF,bj,rZ bp,rZ bT,cy⟩
  ·subst z;rw[e] at cf;cases cf;obtain⟨j,y,bj,bp⟩:=hc p b al rfl;have bC:=(FM.mp bj).1;refine⟨j,x,y,by omega,?_,rZ bj,bp⟩;rw[←aj];exact Zd3
noncomputable def ShE (H:Hp):List (Key×V)→List (Int×(Nat×Nat))→Prop:=Paired λkv x=>kv.1=Sum.inl x.1∧∃t,kv.2= .ref t∧H t=some (.tup [.int (x.2.1:Nat),.int (x.2.2:Nat)])
theorem ShE.keep{H ae:Hp}(t:∀b xs,H b=some (.tup xs)→ae b=some (.tup xs)){kvs:List (Key×V)}{zs:List (Int×(Nat×Nat))}(h:ShE H kvs zs):ShE ae kvs zs:=Paired.mapP h λ_ _ ⟨a,c,e,z⟩=>⟨a,c,e,t _ _ z⟩
theorem ShE.snoc{H:Hp}:∀{kvs:List (Key×V)}{zs:List (Int×(Nat×Nat))}{w:Int}{t:Addr}{x:Nat×Nat},ShE H kvs zs→H t=some (.tup [.int (x.1:Nat),.int (x.2:Nat)])→ShE H (kvs++ [(Sum.inl w,.ref t)]) (zs++ [(w,x)])
 |_,_,_,_,_,.nil,h=> .cons ⟨rfl,_,rfl,h⟩ .nil
 |_,_,_,_,_,.cons y r,h=> .cons y (ShE.snoc r h)
theorem ShE.length{H:Hp}{kvs:List (Key×V)}{zs:List (Int×(Nat×Nat))}(h:ShE H kvs zs):kvs.length=zs.length:=Paired.length h
theorem ShE.get{H:Hp}:∀{kvs:List (Key×V)}{zs:List (Int×(Nat×Nat))}{p:Int},ShE H kvs zs→p∈zs.map (·.1)→∃(y:Nat×Nat)(t:Addr),(p,y)∈zs∧valV kvs (Sum.inl p)=some (.ref t)∧H t=some (.tup [.int (y.1:Nat),.int (y.2:Nat)])
 |_,_,_,.nil,h=>by simp at h
 |_,_,p,.cons (a:=kv) (b:=z) ⟨a,t,e,b3⟩ r,h=>by
  obtain⟨k,v⟩:=kv;obtain⟨w,x⟩:=z;dsimp only at a e b3;subst a e
  by_cases c:w=p
  ·subst c;exact⟨x,t,by simp,iJ rfl,b3⟩
  ·have h':p∈_:=(qae.mp h).resolve_left (λy=>c y.symm);obtain⟨y,t',bj,bp,bT⟩:=ShE.get r h';exact⟨y,t',qaq _ bj,by rw[iK (λy=>c (qbU y))];exact bp,bT⟩
theorem ShE.none{H:Hp}{kvs:List (Key×V)}{zs:List (Int×(Nat×Nat))}{p:Int}(h:ShE H kvs zs)(bD:p∉zs.map (·.1)):valV kvs (Sum.inl p)=none:=by
 cases e:valV kvs (Sum.inl p) with
 |none=>rfl
 |some v=>
  exfalso;have:(valV kvs (Sum.inl p)).isSome=true:=by rw[e];rfl
  rw[←W1,qbX] at this;obtain⟨kv,bA,bK⟩:=this;obtain⟨i,hi,rfl⟩:=qao bA;obtain⟨z,hz,a,_⟩:=Paired.get' h (GT hi);have de:kvs[i].1=Sum.inl p:=of_decide_eq_true bK;rw[a] at de;have:z.1=p:=qbU de;exact bD (qam.mpr ⟨z,qar hz,this⟩)
theorem ZiA{y u:Nat×Nat}{x:Nat×Nat}{cX bY G n:Nat}(j5:0<y.1)(gh:0<y.2)(dL:0<cX)(fL:0<bY)(hu:u.1=cX / G)(b_:u.2=bY / G)(gN:G=Nat.gcd cX bY)(bo:x.1=y.1*u.1 / Nat.gcd (y.1*u.1) (y.2*u.2))(jd:x.2=y.2*u.2 / Nat.gcd (y.1*u.1) (y.2*u.2)):
  (0<x.1∧0<x.2∧Nat.gcd x.1 x.2=1)∧x.1*y.2*bY=y.1*x.2*cX∧x.1≤y.1*cX∧x.2≤y.2*bY:=by
 have QM:0<G:=by rw[gN];exact qbA _ dL
 have ks:G ∣ cX:=by rw[gN];exact qbr _ _
 have jA:G ∣ bY:=by rw[gN];exact qa0 _ _
 have bG:cX=u.1*G:=by rw[hu,qbF ks]
 have bK:bY=u.2*G:=by rw[b_,qbF jA]
 have Jp:0<u.1:=by rcases qa9 u.1 with z|z;rw[z,Nat.zero_mul] at bG;omega;exact z
 have lL:0<u.2:=by rcases qa9 u.2 with z|z;rw[z,Nat.zero_mul] at bK;omega;exact z
 have u7:0<y.1*u.1:=qcm j5 Jp;have Jq:0<y.2*u.2:=qcm gh lL;have oc:0<Nat.gcd (y.1*u.1) (y.2*u.2):=qbA _ u7;have fF:x.1*Nat.gcd (y.1*u.1) (y.2*u.2)=y.1*u.1:=by rw[bo,qbF (qbr _ _)]
 have e4:x.2*Nat.gcd (y.1*u.1) (y.2*u.2)=y.2*u.2:=by rw[jd,qbF (qa0 _ _)]
 refine⟨⟨?_,?_,?_⟩,?_,?_,?_⟩
 ·rw[bo];exact qcn (qbw u7 (qbr _ _)) oc
 ·rw[jd];exact qcn (qbw Jq (qa0 _ _)) oc
 ·rw[bo,jd];exact Nat.gcd_div_gcd_div_gcd_of_pos_left u7
 ·generalize Nat.gcd (y.1*u.1) (y.2*u.2)=g at*;have k:x.1*(y.2*u.2)=(y.1*u.1)*x.2:=by rw[←e4,←fF,qbe x.2 g,qaI]
  calc x.1*y.2*bY=x.1*(y.2*u.2)*G:=by rw[bK];simp only[qaI]
   _=(y.1*u.1)*x.2*G:=by rw[k]
   _=y.1*x.2*cX:=by rw[bG,qcd y.1 u.1 x.2,qaI (y.1*x.2)]
 ·have bj:x.1≤y.1*u.1:=by rw[bo];exact qa4 _ _
  have bp:u.1≤cX:=by rw[hu];exact qa4 _ _
  exact qal bj (qb2 _ bp)
 ·have bj:x.2≤y.2*u.2:=by rw[jd];exact qa4 _ _
  have bp:u.2≤bY:=by rw[b_];exact qa4 _ _
  exact qal bj (qb2 _ bp)
theorem Zm2{H:Hp}{kvs:List (Key×V)}{bP:Fo.ZT}{i:Nat}{kv:Key×V}(h:Ent H kvs bP)(e:kvs[i]? =some kv):∃w st,bP[i]? =some (w,st)∧kv.1=Sum.inl w∧ob H kv.2 st:=by
 obtain⟨⟨w,st⟩,bj,bp,bT⟩:=Paired.get' h e;exact⟨w,st,bj,bp,bT⟩
theorem ZeM{H:Hp}{a:Addr}{u:HO}(h:L2.Rd H a u):H a≠none:=by
 rcases h with h|⟨o,h⟩<;>(rw[h];simp)
theorem p3{H:Hp}{d:Addr}{kvs:List (Key×V)}{o:Obj}(h:L2.Rd H d (.dK kvs)):c_ [d] H (upd H d (.frz o (.dK kvs))):=by
 refine⟨λb x e n=>?_,λb xs e=>?_⟩
 ·rw[b5 (λz=>n (by simp[z]))];exact e
 ·have:b≠d:=λz=>by
   rw[z] at e;rcases h with h|⟨cq,h⟩<;>(rw[h] at e;cases e)
  rw[b5 this];exact e
def YS(ls:List B5):Prop:=∀i<ls.length,∃cX bY,0<cX∧0<bY∧cX<2 ^ 110∧bY<2 ^ 110∧(ls.getD i dB).give=((cX:Nat):Int)∧(ls.getD i dB).take=((bY:Nat):Int)
theorem Jr{ls:List B5}{n:Nat}{F:List (Int×Fo.ZT)}(a_:ZI ls n)(hw:Fo.Vf (ft ls) n F n){i j:Nat}{x y:Int×Fo.ZT}(hi:F[i]? =some x)(bC:F[j]? =some y)(ne:i≠j):∀w∈Fo.keys x.2,w∉Fo.keys y.2:=by
 intro w bj bp;obtain⟨g1,fF,_,_⟩:=hw.tree x (qar hi);obtain⟨g2,e4,_,_⟩:=hw.tree y (qar bC);have a1:=(g1.keys_iff fF w).mp bj;have a2:=(g2.keys_iff e4 w).mp bp;have bG:=hw.least x (qar hi) y.1 ((g1.keys_iff fF _).mpr (a1.trans (a2.symm (rY ls))));have bK:=hw.least y (qar bC) x.1 ((g2.keys_iff e4 _).mpr (a2.trans (a1.symm (rY ls))));obtain⟨dN,gi⟩:=FM.mp hi;obtain⟨fZ,m1⟩:=FM.mp bC;rcases Nat.lt_or_gt_of_ne ne with z|z
 ·have:=qbg.mp hw.rise i j dN fZ z;rw[gi,m1] at this;omega
 ·have:=qbg.mp hw.rise j i fZ dN z;rw[gi,m1] at this;omega
theorem r0{cM gj:Type}{P AU:cM→gj→Prop}:∀{xs:List cM}{ys:List gj},Paired P xs ys→(∀x y,x∈xs→P x y→AU x y)→Paired AU xs ys
 |_,_,.nil,_=> .nil
 |_,_,.cons h r,f=> .cons (f _ _ (by simp) h) (r0 r λx y bo=>f x y (qaq _ bo))
noncomputable def Y7 (H:Hp):List Addr→List (Int×Fo.ZT)→Prop:=Paired λd x=>∃kvs,L2.Rd H d (.dK kvs)∧Ent H kvs x.2
theorem g7.r{H:Hp}{cj:List Addr}{F:List (Int×Fo.ZT)}(h:g7 H cj F):Y7 H cj F:=Paired.mapP h λ_ _ ⟨kvs,a,b⟩=>⟨kvs,.inl a,b⟩
theorem Y7.same{H ae:Hp}{cj:List Addr}{F:List (Int×Fo.ZT)}(h:Y7 H cj F)(s:Ze H ae):Y7 ae cj F:=Paired.mapP h λ_ _ ⟨kvs,a,b⟩=>⟨kvs,a.imp (s _ _) (λ⟨o,z⟩=>⟨o,s _ _ z⟩),b.keep λ_ _ e=>s _ _ e⟩
theorem Y7.length{H:Hp}{cj:List Addr}{F:List (Int×Fo.ZT)}(h:Y7 H cj F):cj.length=F.length:=Paired.length h
theorem Znf{H:Hp}{d:Addr}{k1 k2:List (Key×V)}(bj:L2.Rd H d (.dK k1))(bp:L2.Rd H d (.dK k2)):k1=k2:=by
 rcases bj with a|⟨rv,a⟩<;>rcases bp with b|⟨g5,b⟩<;>(rw[a] at b;cases b)<;>rfl
theorem Y7.frz{H:Hp}{cj:List Addr}{F:List (Int×Fo.ZT)}(h:Y7 H cj F){d:Addr}{kvs:List (Key×V)}{o:Obj}(hd:L2.Rd H d (.dK kvs)):Y7 (upd H d (.frz o (.dK kvs))) cj F:=Paired.mapP h λd' _ ⟨k,a,b⟩=>by
 refine⟨k,?_,b.keep (p3 hd).tups⟩
 by_cases z:d'=d
 ·subst z;rw[Znf a hd];exact .inr ⟨o,Zd⟩
 ·rcases a with a|⟨cq,a⟩
  ·exact .inl (by rw[b5 z];exact a)
  ·exact .inr ⟨cq,by rw[b5 z];exact a⟩
noncomputable def lcmL (zs:List (Int×(Nat×Nat))):Nat:=zs.foldl (λc x=>Nat.lcm c x.2.2) 1
theorem Js(zs:List (Int×(Nat×Nat)))(x:Int×(Nat×Nat)):lcmL (zs++ [x])=Nat.lcm (lcmL zs) x.2.2:=by unfold lcmL;rw[qbT];rfl
theorem ZkB{a b:Nat}:a / Nat.gcd a b*b=Nat.lcm a b:=by
 unfold Nat.lcm;rw[Nat.div_mul_right_comm (qbr a b)]
theorem AV{a b n m:Nat}(bF:a<2 ^ n)(a_:b<2 ^ m):Nat.lcm a b<2 ^ (n+m):=by
 unfold Nat.lcm;exact qaL (qa4 _ _) (p2 bF a_)
def m2(ls:List B5)(x:Int×Fo.ZT)(rs:List Int):Prop:=∃zs,iP ls x.2 zs x.2.length∧∀y∈zs,rs[y.1.toNat]? =some ((lcmL zs / y.2.2*y.2.1:Nat):Int)
noncomputable def lM (eL:List Int) (b:B5):Int:=eL.getD b.giver.toNat 0*b.give-eL.getD b.taker.toNat 0*b.take
structure Zn7(ls:List B5)(n:Nat)(rs:List Int):Prop where
 len:rs.length=n
 pos:∀c∈rs,∃k:Nat,c=(k:Int)∧0<k∧k<2 ^ 420000
theorem AW:∀(zs:List (Int×(Nat×Nat)))(c:Nat),c ∣ zs.foldl (λc x=>Nat.lcm c x.2.2) c∧∀y∈zs,y.2.2 ∣ zs.foldl (λc x=>Nat.lcm c x.2.2) c
 | [],c=>⟨Nat.dvd_refl _,by simp⟩
 |z::zs,c=>by
  obtain⟨bj,bp⟩:=AW zs (Nat.lcm c z.2.2);refine⟨qbL (Nat.dvd_lcm_left _ _) bj,λy bR=>?_⟩;rcases qae.mp bR with rfl|bR
  ·exact qbL (Nat.dvd_lcm_right _ _) bj
  ·exact bp y bR
theorem AX:∀(zs:List (Int×(Nat×Nat)))(c m:Nat),c ∣ m→(∀y∈zs,y.2.2 ∣ m)→zs.foldl (λc x=>Nat.lcm c x.2.2) c ∣ m
 | [],_,_,h,_=>h
 |z::zs,c,m,h,k=>AX zs _ m (Nat.lcm_dvd h (k z (by simp))) λy bR=>k y (qaq _ bR)
theorem u8{zs:List (Int×(Nat×Nat))}{y:Int×(Nat×Nat)}(h:y∈zs):y.2.2 ∣ lcmL zs:=(AW zs 1).2 y h
theorem ZkK{zs:List (Int×(Nat×Nat))}{m:Nat}(h:∀y∈zs,y.2.2 ∣ m):lcmL zs ∣ m:=AX zs 1 m (Nat.one_dvd m) h
theorem AY{zs:List (Int×(Nat×Nat))}(h:∀y∈zs,0<y.2.2):0<lcmL zs:=by
 unfold lcmL;have eW:∀(zs:List (Int×(Nat×Nat)))(c:Nat),0<c→(∀y∈zs,0<y.2.2)→0<zs.foldl (λc x=>Nat.lcm c x.2.2) c:=by
  intro zs
  induction zs with
  |nil=>intro c bu _;exact bu
  |cons z zs bQ=>intro c bu k;exact bQ _ (Nat.lcm_pos bu (k z (by simp))) λy bR=>k y (qaq _ bR)
 exact eW zs 1 (by decide) h
theorem Zhl{ls:List B5}{bP:Fo.ZT}{first:Int}{dC:Int→List Fo.Trip}{zs:List (Int×(Nat×Nat))}(bH:Fo.Y2 dC first bP)(h:iP ls bP zs bP.length){k:Nat}(bt:∀y∈zs,k ∣ lcmL zs / y.2.2*y.2.1):k=1:=by
 have m3:0<bP.length:=(FM.mp bH.head).1;have cd:=qar (h.first 0 first m3 bH.head);have Jt:k ∣ lcmL zs:=by
  have:=bt _ cd;simpa using this
 have QN:0<lcmL zs:=AY λy bR=>(h.pos y bR).2.1;obtain⟨c,bu⟩:=Jt;have k0:0<k:=by
  rcases qa9 k with z|z
  ·rw[z,Nat.zero_mul] at bu;omega
  ·exact z
 have all:∀y∈zs,y.2.2 ∣ c:=by
  intro y bR;obtain⟨dZ,e3,kX⟩:=h.pos y bR;obtain⟨m,bA⟩:=bt y bR;have bG:lcmL zs / y.2.2*y.2.2=lcmL zs:=qbF (u8 bR);have bK:k*(c*y.2.1)=k*(y.2.2*m):=by
   calc k*(c*y.2.1)=lcmL zs*y.2.1:=by rw[bu,qaI]
    _=(lcmL zs / y.2.2*y.2.1)*y.2.2:=by
     conv=>lhs;rw[←bG]
     rw[qcd]
    _=k*m*y.2.2:=by rw[bA]
    _=k*(y.2.2*m):=by rw[qaI,qbe m]
  have de:=qbu k0 bK;have d:y.2.2 ∣ c*y.2.1:=⟨m,de⟩;exact Nat.Coprime.dvd_of_dvd_mul_right (show Nat.gcd y.2.2 y.2.1=1 by rw[Nat.gcd_comm];exact kX) d
 have hd:=ZkK all;rw[bu] at hd;have Ju:0<c:=by
  rcases qa9 c with z|z
  ·rw[z,Nat.mul_zero] at bu;omega
  ·exact z
 have:=qbw Ju hd;rcases qbR k 2 with z|z
 ·omega
 ·have:2*c≤k*c:=Nat.mul_le_mul_right c z;omega
structure W9(ls:List B5)(z:Int→Nat):Prop where
 pos:∀w,0<z w
 bal:∀i<ls.length,(ls.getD i dB).give.toNat*z (ls.getD i dB).giver=(ls.getD i dB).take.toNat*z (ls.getD i dB).taker
theorem ZgV{ls:List B5}{z:Int→Nat}(hz:W9 ls z)(hsz:YS ls){bP:Fo.ZT}{first:Int}{zs:List (Int×(Nat×Nat))}(bH:Fo.Y2 (ft ls) first bP)(h:iP ls bP zs bP.length):
  ∀(i:Nat)(y:Int×(Nat×Nat)),zs[i]? =some y→y.2.1*z first=y.2.2*z y.1:=by
 have u9:=h.len (qaa _);intro i
 induction i using Nat.strongRecOn with
 |_ i bQ=>
  intro y bR;have hi:i<bP.length:=by have:=(FM.mp bR).1;omega
  obtain⟨⟨w,st⟩,e⟩:∃x,bP[i]? =some x:=⟨bP[i],GT hi⟩;cases st with
  |none=>
   have bj:=h.first i w hi e;rw[bR] at bj;cases bj;have Jv:=bH.only i w e;subst Jv;rw[bH.head] at e;cases e;simp
  |some x=>
   obtain⟨p,b,al⟩:=x;obtain⟨j,e5,hF,bC,bj,bp,a_⟩:=h.step i w p b al hi e;rw[bR] at bj;cases bj;have u_:=bQ j bC _ bp;obtain⟨hw,_⟩:=bH.steps i w p b al e;obtain⟨bi,r1,bA⟩:=VU hw;obtain⟨_,gh,_⟩:=h.pos _ (qar bp);obtain⟨cX,bY,dL,fL,_,_,eF,dO⟩:=hsz bi r1;have jI:=hz.bal bi r1;rw[YU] at bA;unfold Bal at a_;dsimp only at u_ gh⊢;rcases bA with⟨fu,fA⟩|⟨fu,fA⟩
   ·injection fA with bG bK
    injection bK with bK de
    subst de;rw[if_pos rfl,bK,qab,eF,dO,qab,qab] at a_;rw[eF,dO,qab,qab,fu,←bG] at jI;refine qbu (qcm gh fL) ?_
    calc hF.2*bY*(e5.1*z first)=e5.1*hF.2*bY*z first:=by simp only[qbe,qaF,qaI]
     _=hF.1*e5.2*cX*z first:=by rw[a_]
     _=e5.2*cX*(hF.1*z first):=by simp only[qbe,qaF,qaI]
     _=e5.2*hF.2*(cX*z p):=by rw[u_];simp only[qbe,qaF,qaI]
     _=hF.2*bY*(e5.2*z w):=by rw[jI];simp only[qbe,qaF,qaI]
   ·injection fA with bG bK
    injection bK with bK de
    subst de;rw[if_neg (by decide),bK,qab,eF,dO,qab,qab] at a_;rw[eF,dO,qab,qab,fu,←bG] at jI;refine qbu (qcm gh dL) ?_
    calc hF.2*cX*(e5.1*z first)=e5.1*hF.2*cX*z first:=by simp only[qbe,qaF,qaI]
     _=hF.1*e5.2*bY*z first:=by rw[a_]
     _=e5.2*bY*(hF.1*z first):=by simp only[qbe,qaF,qaI]
     _=e5.2*hF.2*(bY*z p):=by rw[u_];simp only[qbe,qaF,qaI]
     _=hF.2*cX*(e5.2*z w):=by rw[←jI];simp only[qbe,qaF,qaI]
theorem ZcM{ls:List B5}{z:Int→Nat}(hz:W9 ls z)(hsz:YS ls){bP:Fo.ZT}{first:Int}{zs:List (Int×(Nat×Nat))}(bH:Fo.Y2 (ft ls) first bP)(h:iP ls bP zs bP.length){y:Int×(Nat×Nat)}(bR:y∈zs):
  lcmL zs / y.2.2*y.2.1*z first=lcmL zs*z y.1:=by
 obtain⟨i,hi⟩:=qbb bR;have e:=ZgV hz hsz bH h i y hi
 calc lcmL zs / y.2.2*y.2.1*z first=lcmL zs / y.2.2*(y.2.1*z first):=by rw[qaI]
  _=lcmL zs / y.2.2*y.2.2*z y.1:=by rw[e,qaI]
  _=lcmL zs*z y.1:=by rw[qbF (u8 bR)]
theorem ZlR{zs:List (Int×(Nat×Nat))}(h:∀y∈zs,y.2.2<2 ^ 6700):lcmL zs<2 ^ (6700*zs.length+1):=by
 have eW:∀(zs:List (Int×(Nat×Nat)))(c n:Nat),c<2 ^ n→(∀y∈zs,y.2.2<2 ^ 6700)→zs.foldl (λc x=>Nat.lcm c x.2.2) c<2 ^ (n+6700*zs.length):=by
  intro zs
  induction zs with
  |nil=>intro c n bu _;simpa using bu
  |cons z zs bQ=>
   intro c n bu k;have:=bQ (Nat.lcm c z.2.2) (n+6700) (AV bu (k z (by simp))) λy bR=>k y (qaq _ bR);have e:n+6700+6700*zs.length=n+6700*(z::zs).length:=by simp[Nat.mul_succ];omega
   rw[e] at this;exact this
 have:=eW zs 1 1 (by decide) h;rw[Nat.add_comm];exact this
section
variable {ls:List B5}{n:Nat}{F:List (Int×Fo.ZT)}{rs:List Int}
theorem ZfU{x:Int×Fo.ZT}{zs:List (Int×(Nat×Nat))}(h:iP ls x.2 zs x.2.length){w:Int}(hw:w∈Fo.keys x.2):∃y∈zs,y.1=w:=by
 have bj:=h.keys;have bp:(Fo.keys x.2).take x.2.length=Fo.keys x.2:=qbs (by simp[Fo.keys]);rw[bp] at bj;rw[←bj] at hw;obtain⟨y,bR,e⟩:=qam.mp hw;exact⟨y,bR,e⟩
theorem Zdm(cN:ZI ls n)(bO:n≤60)(eO:Fo.Vf (ft ls) n F n)(eY:rs.length=n)(fM:∀x∈F,m2 ls x rs):Zn7 ls n rs:=by
 refine⟨eY,λc bu=>?_⟩;obtain⟨i,hi,rfl⟩:=qao bu;obtain⟨x,bo,bt⟩:=eO.all (i:Int) (by omega) (by omega);obtain⟨zs,bH,hz⟩:=fM x bo;obtain⟨y,bR,eQ⟩:=ZfU bH bt;have bj:=hz y bR;rw[eQ,qab,GT hi] at bj;obtain⟨g,u',dL,g1⟩:=eO.tree x bo;have r2:x.2.length≤60:=by
  have:=Fo.Zca (n:=n) g.nodup (g.rg ⟨dL,g1⟩ (oa cN));simp[Fo.keys] at this;omega
 have u9:=bH.len (qaa _);have sz:∀y∈zs,y.2.1<2 ^ 6700∧y.2.2<2 ^ 6700:=λy bR=>by
  obtain⟨j,bC⟩:=qbb bR;have i':=(FM.mp bC).1;obtain⟨a,b⟩:=bH.size j y bC;have e:(2:Nat) ^ (110*j+1)≤2 ^ 6700:=qaE (by decide) (by omega);exact⟨qag a e,qag b e⟩
 have lC:=ZlR λy bR=>(sz y bR).2;obtain⟨dZ,e3,_⟩:=bH.pos y bR;refine⟨_,qan bj,qcm (qcn (qbw (AY λy bR=>(bH.pos y bR).2.1) (u8 bR)) e3) dZ,?_⟩;refine qag (p2 (qaL (qa4 _ _) lC) (sz y bR).1) (qaE (by decide) ?_);have:6700*zs.length≤6700*60:=qb2 _ (by omega);omega
theorem Uq{z:Int→Nat}(hz:W9 ls z)(hsz:YS ls)(cN:ZI ls n)(eO:Fo.Vf (ft ls) n F n)(eY:rs.length=n)(fM:∀x∈F,m2 ls x rs){i:Nat}(hi:i<ls.length):lM rs (ls.getD i dB)=0:=by
 obtain⟨a0,a1,cS,eb⟩:=cN.at hi;obtain⟨cX,bY,dL,fL,_,_,eF,dO⟩:=hsz i hi;have jI:=hz.bal i hi;rw[eF,dO,qab,qab] at jI;obtain⟨x,bo,bt⟩:=eO.all (ls.getD i dB).giver a0 a1;obtain⟨g,u',x0,x1⟩:=eO.tree x bo;have va:(ls.getD i dB).taker∈Fo.keys x.2:=by
  obtain⟨j,s,bC⟩:=Fo.ZcA bt;exact u' j _ s (FM.mp bC).1 bC ((ls.getD i dB).taker,(i:Int),true) (n' hi (YU.mpr (.inl ⟨rfl,rfl⟩)))
 obtain⟨zs,bH,hs⟩:=fM x bo;obtain⟨od,AZ,Jw⟩:=ZfU bH bt;obtain⟨p4,A0,Jx⟩:=ZfU bH va;have cm:=hs od AZ;have cY:=hs p4 A0;have fU:=ZcM hz hsz g bH AZ;have kq:=ZcM hz hsz g bH A0;rw[Jw] at cm fU;rw[Jx] at cY kq;have bG:rs.getD (ls.getD i dB).giver.toNat 0=((lcmL zs / od.2.2*od.2.1:Nat):Int):=by rw[qba,cm];rfl
 have bK:rs.getD (ls.getD i dB).taker.toNat 0=((lcmL zs / p4.2.2*p4.2.1:Nat):Int):=by rw[qba,cY];rfl
 generalize lcmL zs / od.2.2*od.2.1=A at*;generalize lcmL zs / p4.2.2*p4.2.1=B at*;have eW:A*cX=B*bY:=by
  refine Nat.eq_of_mul_eq_mul_right (hz.pos x.1) ?_
  calc A*cX*z x.1=A*z x.1*cX:=qcd _ _ _
   _=lcmL zs*z (ls.getD i dB).giver*cX:=by rw[fU]
   _=lcmL zs*(cX*z (ls.getD i dB).giver):=by simp only[qbe,qaF,qaI]
   _=lcmL zs*z (ls.getD i dB).taker*bY:=by rw[jI];simp only[qbe,qaF,qaI]
   _=B*z x.1*bY:=by rw[kq]
   _=B*bY*z x.1:=qcd _ _ _
 unfold lM;rw[bG,bK,eF,dO];have k2:(A:Int)*(cX:Int)=(B:Int)*(bY:Int):=by
  rw[←qcb,←qcb,eW]
 omega
end
theorem Paired.get{cM gj:Type}{P:cM→gj→Prop}:∀{xs:List cM}{ys:List gj}{i:Nat}{x:cM},Paired P xs ys→xs[i]? =some x→∃y,ys[i]? =some y∧P x y
 |_,_,_,_,.nil,e=>by simp at e
 |_,_,0,_,.cons h _,e=>by simp at e;subst e;exact⟨_,rfl,h⟩
 |_,_,i+1,x,.cons _ r,e=>by
  obtain⟨y,bj,bp⟩:=Paired.get (i:=i) (x:=x) r (by simpa using e);exact⟨y,by simpa using bj,bp⟩
theorem p5{cM gj:Type}{P:cM→gj→Prop}:∀{xs:List cM}{ys:List gj},xs.length=ys.length→(∀(i:Nat) x y,xs[i]? =some x→ys[i]? =some y→P x y)→Paired P xs ys
 | [],[],_,_=> .nil
 |x::xs,y::ys,aj,h=> .cons (h 0 x y rfl rfl) (p5 (by simpa using aj) λi a b bG bK=>h (i+1) a b (by simpa using bG) (by simpa using bK))
 | [],_::_,aj,_=>by simp at aj
 |_::_,[],aj,_=>by simp at aj
theorem Zf0{gj vb:Type}{S:vb→gj→Prop}{L:List vb}{d:vb}{ys:List gj}(h:Paired (λi v=>S (L.getD i d) v) ((List.range L.length).filter λ_=>true) ys):Paired S L ys:=by
 rw[qaA.mpr (by simp)] at h;refine p5 (by rw[←Paired.length h,qbt]) λi x y bG bK=>?_;have hi:i<L.length:=(FM.mp bG).1;obtain⟨hF,bj,bp⟩:=Paired.get (i:=i) (x:=i) h (by simp[hi]);rw[bK] at bj;cases bj;simpa[List.getD,bG] using bp
noncomputable def Vp (H:Hp):List (Int×Int)→List V→Prop:=Paired λx v=>∃t,v= .ref t∧H t=some (.tup [.int x.1,.int x.2])
theorem Vp.keep{H ae:Hp}(t:∀b xs,H b=some (.tup xs)→ae b=some (.tup xs)){vs:List V}{l:List (Int×Int)}(h:Vp H l vs):Vp ae l vs:=Paired.mapP h λ_ _ ⟨a,e,z⟩=>⟨a,e,t _ _ z⟩
noncomputable def LL (H:Hp):List (List (Int×Int))→List Addr→Prop:=Paired λl a=>∃vs,H a=some (.lst vs)∧Vp H l vs
theorem LL.dom{H:Hp}:∀{ls:List (List (Int×Int))}{as:List Addr},LL H ls as→∀x∈as,H x≠none
 |_,_,.nil,_,bo=>by simp at bo
 |_,_,.cons ⟨vs,h,_⟩ r,x,bo=>by
  rcases qae.mp bo with rfl|bo
  ·rw[h];simp
  ·exact LL.dom r x bo
theorem LL.keep{H ae:Hp}(t:∀b xs,H b=some (.tup xs)→ae b=some (.tup xs)):∀{ls:List (List (Int×Int))}{as:List Addr},LL H ls as→(∀x∈as,ae x=H x)→LL ae ls as
 |_,_,.nil,_=> .nil
 |_,_,.cons ⟨vs,h,p⟩ r,k=> .cons ⟨vs,(k _ (by simp)).trans h,p.keep t⟩ (LL.keep t r λx bo=>k x (qaq _ bo))
noncomputable def g8 (ls:List B5) (w:Int):List (Int×Int):=(eG ls w).map λi:Nat=>((i:Int),(ls.getD i dB).take)
noncomputable def oe (ls:List B5) (w:Int):List (Int×Int):=(dW ls w).map λi:Nat=>((i:Int),(ls.getD i dB).give)
noncomputable def WL (rows:List B5) (hs:List Int) (w:Int):Bool:=(rows.zip hs).all λx=>!(decide (x.1.taker=w))||decide (x.1.take≤x.2)
theorem A1{w:Int}:∀{rows:List B5}{hs:List Int},(∀(i:Nat)(r:B5)(h:Int),rows[i]? =some r→hs[i]? =some h→r.taker=w→r.take≤h)→WL rows hs w=true
 | [],_,_=>by simp[WL]
 |_::_,[],_=>by simp[WL]
 |r::rs,h::hs,q=>by
  have e:=A1 (rows:=rs) (hs:=hs) (w:=w) λi c6 h' a b=>q (i+1) c6 h' (by simpa using a) (by simpa using b);unfold WL at e⊢;rw[List.zip_cons_cons,qcj,e,Bool.and_true]
  by_cases c:r.taker=w
  ·rw[decide_eq_true (q 0 r h rfl rfl c),Bool.or_true]
  ·rw[decide_eq_false c];rfl
theorem A2{w:Int}:∀{rows:List B5}{hs:List Int}(i:Nat){r:B5}{h:Int},rows[i]? =some r→hs[i]? =some h→r.taker=w→h<r.take→WL rows hs w=false
 | [],_,_,_,_,a,_,_,_=>by simp at a
 |_::_,[],_,_,_,_,a,_,_=>by simp at a
 |r::rs,h::hs,0,c6,h',a,b,c,d=>by
  simp only[List.getElem?_cons_zero,Option.some.injEq] at a b;subst a b;unfold WL;rw[List.zip_cons_cons,qcj,decide_eq_true c,decide_eq_false (show ¬r.take≤h by omega)]
  rfl
 |r::rs,h::hs,i+1,c6,h',a,b,c,d=>by
  have e:=A2 (rows:=rs) (hs:=hs) (w:=w) i (r:=c6) (h:=h') (by simpa using a) (by simpa using b) c d;unfold WL at e⊢;rw[List.zip_cons_cons,qcj,e,Bool.and_false]
noncomputable def lN (rows:List B5) (hs:List Int) (w:Int):List Int:=(rows.zip hs).map λx=>x.2-(if x.1.taker=w then x.1.take else 0)+(if x.1.giver=w then x.1.give else 0)
theorem A3{rows:List B5}{hs:List Int}{w:Int}(h:hs.length=rows.length):(lN rows hs w).length=hs.length:=by unfold lN;simp;omega
theorem Zfc{rows:List B5}{hs:List Int}{w:Int}{i:Nat}(bj:i<rows.length)(bp:i<hs.length)(bT:i<(lN rows hs w).length):(lN rows hs w)[i]=hs[i]-(if rows[i].taker=w then rows[i].take else 0)+(if rows[i].giver=w then rows[i].give else 0):=by
 have e:(lN rows hs w)[i]? =some (hs[i]-(if rows[i].taker=w then rows[i].take else 0)+(if rows[i].giver=w then rows[i].give else 0)):=by
  unfold lN;rw[qaj,GT (by rw[List.length_zip];omega)];simp
 rw[GT bT] at e;exact qan e
noncomputable def p6 (hs:List Int) (l:List (Int×Int)):Bool:=l.all λx=>decide (x.2≤hs.getD x.1.toNat 0)
theorem ZdP{rows:List B5}{hs:List Int}{w:Int}(h:hs.length=rows.length):p6 hs (g8 rows w)=WL rows hs w:=by
 cases e:p6 hs (g8 rows w) with
 |true=>
  refine(A1 λi r x a b c=>?_).symm;have hi:i<rows.length:=(FM.mp a).1;have j6:rows.getD i dB=r:=by simp[List.getD,a]
  have m:((i:Int),r.take)∈g8 rows w:=by
   unfold g8 eG;refine qam.mpr ⟨i,qaC.mpr ⟨qaw.mpr hi,decide_eq_true (by rw[j6];exact c)⟩,by rw[j6]⟩
  have:=of_decide_eq_true (qa6.mp e _ m);simpa[List.getD,b] using this
 |false=>
  unfold p6 at e;rw[List.all_eq_false] at e;obtain⟨x,bo,d⟩:=e;unfold g8 eG at bo;obtain⟨i,hi,rfl⟩:=qam.mp bo;obtain⟨bj,bp⟩:=qaC.mp hi;have bq:=qaw.mp bj;have gi:=GT bq;have A4:=GT (show i<hs.length by omega);have j6:rows.getD i dB=rows[i]:=by simp[List.getD,gi]
  rw[j6] at bp d;refine(A2 i gi A4 (of_decide_eq_true bp) ?_).symm;have d':¬rows[i].take≤hs.getD (i:Int).toNat 0:=λz=>d (decide_eq_true z);have eF:hs.getD (i:Int).toNat 0=hs[i]:=by simp[List.getD,A4]
  rw[eF] at d';omega
theorem ZbA{ls:List B5}{w:Int}{i:Nat}(h:i∈eG ls w):i<ls.length:=qaw.mp (qaC.mp h).1
theorem Zak{ls:List B5}{w:Int}{i:Nat}(h:i∈dW ls w):i<ls.length:=qaw.mp (qaC.mp h).1
theorem ZdB{ls:List B5}{w:Int}:(eG ls w).length≤ls.length:=qal (qaK _ _) (by simp)
theorem Zef{ls:List B5}{w:Int}:(dW ls w).length≤ls.length:=qal (qaK _ _) (by simp)
noncomputable def bump (f:Nat→Int) (hs:List Int) (is:List Nat):List Int:=is.foldl (λhs i=>hs.set i (hs.getD i 0+f i)) hs
theorem W7(f:Nat→Int):∀(is:List Nat)(hs:List Int),(bump f hs is).length=hs.length
 | [],_=>rfl
 |i::is,hs=>by
  show(bump f (hs.set i _) is).length=_;rw[W7 f is,qb9]
theorem vd(f:Nat→Int):∀(is:List Nat)(hs:List Int)(j:Nat),is.Nodup→j<hs.length→(bump f hs is).getD j 0=hs.getD j 0+if j∈is then f j else 0
 | [],hs,j,_,_=>by simp[bump]
 |i::is,hs,j,nd,bC=>by
  obtain⟨fI,fl⟩:=qb8.mp nd;show(bump f (hs.set i (hs.getD i 0+f i)) is).getD j 0=_;rw[vd f is _ j fl (by rw[qb9];exact bC)]
  by_cases e:i=j
  ·subst e;have bG:(hs.set i (hs.getD i 0+f i)).getD i 0=hs.getD i 0+f i:=by rw[qba,qbP bC];rfl
   rw[bG,if_neg fI,if_pos qbo,Int.add_zero]
  ·have bG:(hs.set i (hs.getD i 0+f i)).getD j 0=hs.getD j 0:=by rw[qba,qbI e,qba]
   rw[bG];have:(j∈i::is)↔j∈is:=by simp[qbH e]
   simp only[this]
theorem A5(n:Nat)(c:Nat→Bool):((List.range n).filter c).Nodup:=List.nodup_range.filter c
theorem Jy{rows:List B5}{hs:List Int}{w:Int}(h:hs.length=rows.length):
  bump (λi=>(rows.getD i dB).give) (bump (λi=>-(rows.getD i dB).take) hs (eG rows w)) (dW rows w)=lN rows hs w:=by
 have l1:=W7 (λi=>-(rows.getD i dB).take) (eG rows w) hs;refine qay (by rw[W7,l1,A3 h]) λi bj bp=>?_;rw[W7,l1] at bj;have bq:i<rows.length:=by omega
 rw[Zfc bq bj bp];have ea:∀(xs:List Int)(bo:i<xs.length),xs[i]=xs.getD i 0:=λxs bo=>by simp[List.getD,bo]
 rw[ea _ (by rw[W7,l1];exact bj),vd _ (dW rows w) _ _ (A5 _ _) (by rw[l1];exact bj),vd _ (eG rows w) _ _ (A5 _ _) bj,←ea hs bj];have j6:rows.getD i dB=rows[i]:=by simp[List.getD,bq]
 have fu:i∈eG rows w↔rows[i].taker=w:=by
  unfold eG;rw[qaC,qaw,j6,decide_eq_true_eq];exact⟨λz=>z.2,λz=>⟨bq,z⟩⟩
 have fA:i∈dW rows w↔rows[i].giver=w:=by
  unfold dW;rw[qaC,qaw,j6,decide_eq_true_eq];exact⟨λz=>z.2,λz=>⟨bq,z⟩⟩
 simp only[fu,fA,j6]
 split<;>split<;>omega
theorem LL.at{H:Hp}{ls:List (List (Int×Int))}{cn:List Addr}{w:Int}{l:List (Int×Int)}(h:LL H ls cn)(cd:0≤w)(e:ls[w.toNat]? =some l):∃x vs,atI (cn.map V.ref) w=some (.ref x)∧H x=some (.lst vs)∧Vp H l vs:=by
 obtain⟨x,bj,vs,bp,bT⟩:=Paired.get h e;refine⟨x,vs,?_,bp,bT⟩;have:=gY (xs:=cn.map V.ref) (j:=w.toNat) (v:= .ref x) (by rw[qaj,bj];rfl)
 rwa [qaz cd] at this
theorem LL.len{H:Hp}{ls:List (List (Int×Int))}{cn:List Addr}(h:LL H ls cn):cn.length=ls.length:=(Paired.length h).symm
theorem A6{H:Hp}{iq:List Nat}{f:Nat→Int}{ys:List V}(h:Paired (λi v=>∃t,v=V.ref t∧H t=some (.tup [.int (iq.getD i 0:Nat),.int (f (iq.getD i 0))])) ((List.range (iq.map λi:Nat=>V.int i).length).filter λ_=>true) ys):Vp H (iq.map λi:Nat=>((i:Int),f i)) ys:=by
 rw[GE] at h;have bj:Paired (λ(j:Nat) v=>∃t,v=V.ref t∧H t=some (.tup [.int (j:Nat),.int (f j)])) iq ys:=Zf0 (L:=iq) (d:=0) h;refine p5 (by rw[GE];exact Paired.length bj) λi x y bG bK=>?_;rw[qaj] at bG;cases e:iq[i]? with
 |none=>rw[e] at bG;cases bG
 |some j=>
  rw[e] at bG;cases bG;obtain⟨hF,de,bT⟩:=Paired.get bj e;rw[bK] at de;cases de;exact bT
theorem A7{ls:List B5}{w:Int}{n:Nat}(h:n=ls.length):∀x∈g8 ls w,0≤x.1∧x.1<n:=by
 intro x bo;obtain⟨i,hi,rfl⟩:=qam.mp bo;have:=ZbA hi;show 0≤(i:Int)∧(i:Int)<n;omega
theorem ZcH{ls:List B5}{w:Int}:(g8 ls w).length≤ls.length:=by unfold g8;rw[GE];exact ZdB
theorem Zfh{f:Nat→Int}{hs:List Int}{is:List Nat}{i:Nat}(h:i<is.length):bump f hs (is.take (i+1))=(bump f hs (is.take i)).set is[i] ((bump f hs (is.take i)).getD is[i] 0+f is[i]):=by
 unfold bump;rw[qad h,qbT]
 rfl
theorem Zj5{iq:List Nat}{f:Nat→Int}{H:Hp}{vs:List V}{i:Nat}(h:Vp H (iq.map λi:Nat=>((i:Int),f i)) vs)(hi:i<iq.length):∃t,vs.getD i .non= .ref t∧H t=some (.tup [.int (iq[i]:Nat),.int (f iq[i])]):=by
 obtain⟨v,b_,t,rfl,b3⟩:=Paired.get h (i:=i) (x:=((iq[i]:Int),f iq[i])) (by rw[qaj,GT hi];rfl);exact⟨t,by simp[List.getD,b_],b3⟩
noncomputable def fB (b:B5) (s:Int):Fire.Belt:=⟨b.giver.toNat,b.taker.toNat,b.give,b.take,s⟩
noncomputable def fBs (ls:List B5) (st:List Int):List Fire.Belt:=(ls.zip st).map λx=>fB x.1 x.2
noncomputable def hG (ls:List B5) (st:List Int) (d:Nat→Nat):List Int:=(fBs ls st).map λb=>Fire.lie b d
noncomputable def f3 (rs:List Int) (v:Nat):Nat:=(rs.getD v 0).toNat
noncomputable def gO (ls:List B5) (st rs:List Int) (d:Nat→Nat) (v:Nat):Bool:=decide (d v<f3 rs v)&&WL ls (hG ls st d) v
noncomputable def hZ (ls:List B5) (st rs:List Int) (d:Nat→Nat):List Bool:=(List.range rs.length).map λv=>gO ls st rs d v
noncomputable def eM (rs:List Int) (d:Nat→Nat):List Int:=(List.range rs.length).map λv=>(f3 rs v:Int)-(d v:Int)
noncomputable abbrev hm (ls:List B5) (st rs:List Int):(Nat→Nat)→Nat→Prop:=Fire.May (fBs ls st) rs.length (f3 rs)
def lO(ls:List B5)(st rs:List Int)(d:Nat→Nat)(w:Nat):Prop:=hm ls st rs d w∧∀v<w,¬hm ls st rs d v
theorem iu{ls:List B5}{st:List Int}{d:Nat→Nat}(h:st.length=ls.length):(hG ls st d).length=ls.length:=by simp[hG,fBs,h]
theorem m4{ls:List B5}{st:List Int}{d:Nat→Nat}{j:Nat}(h:st.length=ls.length)(bC:j<ls.length):(hG ls st d)[j]'(by rw[iu h];exact bC)=Fire.lie (fB ls[j] (st[j]'(by omega))) d:=by simp[hG,fBs]
theorem ZhQ{ls:List B5}{st:List Int}(h:st.length=ls.length){b:Fire.Belt}(a_:b∈fBs ls st):∃(j:Nat)(bC:j<ls.length),b=fB ls[j] (st[j]'(by omega)):=by
 obtain⟨j,bC,rfl⟩:=qbq.mp a_;have fZ:j<ls.length:=by simp[fBs,h] at bC;exact bC
 exact⟨j,fZ,by simp[fBs]⟩
theorem Jz{ls:List B5}{st:List Int}(h:st.length=ls.length){j:Nat}(bC:j<ls.length):fB ls[j] (st[j]'(by omega))∈fBs ls st:=
 qam.mpr ⟨(ls[j],st[j]'(by omega)),qbq.mpr ⟨j,by simp[h,bC],by simp⟩,rfl⟩
theorem ve{ls:List B5}{hs:List Int}{w:Int}(h:hs.length=ls.length):WL ls hs w=true↔∀(j:Nat)(bC:j<ls.length),ls[j].taker=w→ls[j].take≤hs[j]'(by omega):=by
 unfold WL;rw[qa6]
 constructor
 ·intro q j bC e;have:=q (ls[j],hs[j]'(by omega)) (qbq.mpr ⟨j,by simp[h,bC],by simp⟩);simpa[e] using this
 ·intro q x bo;obtain⟨j,bC,rfl⟩:=qbq.mp bo;have fZ:j<ls.length:=by simp[h] at bC;exact bC
  by_cases e:ls[j].taker=w
  ·have:=q j fZ e;simp[e,this]
  ·simp[e]
section
variable {ls:List B5}{st rs:List Int}{d:Nat→Nat}{n:Nat}
theorem vf(h:st.length=ls.length)(a_:ZI ls n){v:Nat}(b_:v<rs.length):gO ls st rs d v=true↔hm ls st rs d v:=by
 unfold gO;rw[qaR,decide_eq_true_eq,ve (iu h)]
 constructor
 ·rintro⟨bj,bp⟩;refine⟨b_,bj,λb bA b3=>?_⟩;obtain⟨j,bC,rfl⟩:=ZhQ h bA;have:=bp j bC (by have:=a_ ls[j] (GM bC);have r3:ls[j].taker.toNat=v:=b3;omega);rw[m4 h bC] at this;exact this
 ·rintro⟨_,bj,bp⟩;refine⟨bj,λj bC e=>?_⟩;rw[m4 h bC];exact bp _ (Jz h bC) (by show ls[j].taker.toNat=v;omega)
theorem JA(h:st.length=ls.length)(a_:ZI ls n){v:Nat}(b_:v<rs.length):gO ls st rs d v=false↔¬hm ls st rs d v:=by
 rw[←vf h a_ b_];simp
theorem ZgI{v:Nat}(b_:v<rs.length):(hZ ls st rs d)[v]? =some (gO ls st rs d v):=by simp[hZ,b_]
theorem JB:(hZ ls st rs d).length=rs.length:=by simp[hZ]
theorem vg:(eM rs d).length=rs.length:=by simp[eM]
theorem A8{v:Nat}(b_:v<rs.length):(eM rs d).getD v 0=(f3 rs v:Int)-(d v:Int):=by simp[eM,List.getD,b_]
theorem JC(h:st.length=ls.length)(a_:ZI ls n)(q:true∉hZ ls st rs d):∀w,¬hm ls st rs d w:=λw r=>q (by
 have:=(vf h a_ r.1).mpr r;rw[←this];exact qam.mpr ⟨w,by simpa using r.1,rfl⟩)
theorem A9{b:Fire.Belt}{w:Nat}:Fire.lie b (Fire.bump d w)=Fire.lie b d-(if b.taker=w then b.take else 0)+(if b.giver=w then b.give else 0):=by
 unfold Fire.lie
 by_cases bG:b.giver=w<;>by_cases bK:b.taker=w<;>simp only[bG,bK,if_true,if_false,Fire.Zaj,Fire.UM,ne_eq,not_false_eq_true,Int.natCast_add,Int.mul_add,Int.natCast_one,Int.mul_one]<;>omega
theorem JD(h:st.length=ls.length)(a_:ZI ls n)(w:Nat):lN ls (hG ls st d) w=hG ls st (Fire.bump d w):=by
 refine qay (by rw[A3 (iu h),iu h,iu h]) λj bj bp=>?_;have bC:j<ls.length:=by rw[iu h] at bp;exact bp
 rw[Zfc bC (by rw[iu h];exact bC) bj,m4 h bC,m4 h bC,A9];have A_:=a_ ls[j] (GM bC);have bG:(ls[j].taker=(w:Int))↔((fB ls[j] (st[j]'(by omega))).taker=w):=by show _↔ls[j].taker.toNat=w;omega
 have bK:(ls[j].giver=(w:Int))↔((fB ls[j] (st[j]'(by omega))).giver=w):=by show _↔ls[j].giver.toNat=w;omega
 simp only[bG,bK]
 rfl
def ZaD(ls:List B5)(w:Int)(ms:List Int):Prop:=ms.Pairwise (· < ·)∧∀x,x∈ms↔x=w∨∃i∈dW ls w,(ls.getD i dB).taker=x
theorem JE(h:st.length=ls.length)(a_:ZI ls n){w v:Nat}{ms:List Int}(b3:ZaD ls w ms)(b_:(v:Int)∉ms):gO ls st rs (Fire.bump d w) v=gO ls st rs d v:=by
 have hS:=mt (b3.2 v).mpr b_;have JF:v≠w:=λe=>hS (.inl (by rw[e]));unfold gO;rw[Fire.UM d JF]
 congr 1
 rw[qbB,ve (iu h),ve (iu h)];have eW:∀(j:Nat)(bC:j<ls.length),ls[j].taker=(v:Int)→(hG ls st (Fire.bump d w))[j]'(by rw[iu h];exact bC)=(hG ls st d)[j]'(by rw[iu h];exact bC):=λj bC e=>by
  have A_:=a_ ls[j] (GM bC);rw[m4 h bC,m4 h bC,A9,if_neg (by show ¬ls[j].taker.toNat=w;omega),if_neg ?_]
  ·omega
  ·intro z;have f7:ls[j].giver.toNat=w:=z;refine hS (.inr ⟨j,?_,?_⟩)
   ·unfold dW;rw[qaC];exact⟨by simpa using bC,by simp[List.getD,bC];omega⟩
   ·simp[List.getD,bC,e]
 constructor
 ·intro q j bC e;rw[←eW j bC e];exact q j bC e
 ·intro q j bC e;rw[eW j bC e];exact q j bC e
end
noncomputable def hn (ls:List B5):List Int:=ls.map B5.start
def TL(H:Hp)(ls:List B5)(n:Nat)(g9:List Addr):Prop:=g9.length=n∧∀v<n,∃ms:List Int,H (g9.getD v 0)=some (.lst (ms.map V.int))∧ZaD ls v ms
noncomputable def p7 (ls:List B5) (n:Nat):List (List (Int×Int)):=(List.range n).map λw:Nat=>g8 ls w
noncomputable def A' (ls:List B5) (n:Nat):List (List (Int×Int)):=(List.range n).map λw:Nat=>oe ls w
def m5{K:Frag}{mg:Str→Option Value}(T:Tp K mg)(H:Hp)(p:Addr)(ls:List B5)(rs:List Int):Prop:=
 ∃(bx a b c d e:Addr)(cn og g9:List Addr)(bs:List V),H p=some (.ins T.b bx [("turns",.ref a),("rows",.ref b),("takes",.ref c),("gives",.ref d),("touched",.ref e)])∧H a=some (.lst (rs.map V.int))∧H b=some (.lst bs)∧ek H bs ls∧
  H c=some (.lst (cn.map V.ref))∧LL H (p7 ls rs.length) cn∧H d=some (.lst (og.map V.ref))∧LL H (A' ls rs.length) og∧H e=some (.lst (g9.map V.ref))∧TL H ls rs.length g9
theorem m5.same{K:Frag}{mg:Str→Option Value}{T:Tp K mg}{H ae:Hp}{p:Addr}{ls:List B5}{rs:List Int}(h:m5 T H p ls rs)(s:Ze H ae):m5 T ae p ls rs:=by
 obtain⟨bx,a,b,c,d,e,cn,og,g9,bs,bj,bT,cy,dJ,db,iQ,m6,vh,p8,JG,Ba⟩:=h;have kA:∀{cx:List (List (Int×Int))}{is:List Addr},LL H cx is→LL ae cx is:=λ{cx is} l=>l.keep (λb xs z=>s _ _ z) λx bo=>by
  cases q:H x with
  |none=>exact absurd q (l.dom x bo)
  |some o=>exact s _ _ q
 exact⟨bx,a,b,c,d,e,cn,og,g9,bs,s _ _ bj,s _ _ bT,s _ _ cy,dJ.keep λb xs z=>s _ _ z,s _ _ db,kA iQ,s _ _ m6,kA vh,s _ _ p8,JG,λv b_=>(let⟨ms,x,y⟩:=Ba v b_;⟨ms,s _ _ x,y⟩)⟩
theorem Zhd{K:Frag}{mg:Str→Option Value}{T:Tp K mg}{H:Hp}{p:Addr}{ls:List B5}{rs:List Int}{m:Str}{G:Prop}(h:m5 T H p ls rs)(fu:(m== "turns")=false)(fA:(m== "rows")=false)(p9:(m== "takes")=false)(vi:(m== "gives")=false)(r4:(m== "touched")=false)(q:G):∃a bx fs,V.ref p= .ref a∧H a=some (.ins T.b bx fs)∧fs.lookup m=none∧G:=by
 obtain⟨bx,a,b,c,d,e,cn,og,g9,bs,bj,_⟩:=h;exact⟨p,bx,_,rfl,bj,Rd.lk1 fu (Rd.lk1 fA (Rd.lk1 p9 (Rd.lk1 vi (Rd.lk1 r4 Rd.lkN)))),q⟩
theorem ZeS{n:Nat}{P:Nat→Addr→Prop}{ys:List V}(h:Paired (λ(i:Nat) v=>∃x,v=V.ref x∧P i x) (List.range n) ys):∃cn:List Addr,ys=cn.map V.ref∧cn.length=n∧∀i<n,P i (cn.getD i 0):=by
 have aj:n=ys.length:=by have:=Paired.length h;simpa using this
 have bo:∀i:Nat,i<n→∃x,ys[i]? =some (V.ref x)∧P i x:=λi hi=>by
  obtain⟨y,bj,x,rfl,bo⟩:=Paired.get h (i:=i) (x:=i) (by simp[hi]);exact⟨x,bj,bo⟩
 refine⟨(List.range n).map λi=>if hi:i<n then(bo i hi).choose else 0,List.ext_getElem? λi=>?_,by simp,λi hi=>?_⟩
 ·by_cases hi:i<n
  ·rw[(bo i hi).choose_spec.1];simp[hi]
  ·rw[qaU (by omega),qaU (by simp;omega)]
 ·have:=(bo i hi).choose_spec.2;simpa[List.getD,hi] using this
noncomputable def h0 (f:Nat→Nat) (n:Nat):Nat:=((List.range n).map f).sum
theorem lP(f:Nat→Nat)(n:Nat):h0 f (n+1)=h0 f n+f n:=by simp[h0,qbG]
theorem Bb(c:Nat→Nat){w:Nat}:∀{n:Nat},w<n→h0 (Fire.bump c w) n=h0 c n+1
 |0,h=>absurd h (qbn _)
 |n+1,h=>by
  rw[lP,lP];rcases qbR w n with z|z
  ·rw[Bb c z,Fire.UM c (by omega)];omega
  ·obtain rfl:w=n:=by omega
   have:∀k,k≤w→h0 (Fire.bump c w) k=h0 c k:=by
    intro k
    induction k with
    |zero=>intro _;rfl
    |succ k bQ=>intro bt;rw[lP,lP,bQ (by omega),Fire.UM c (by omega)]
   rw[this w (qaa _),Fire.Zaj];omega
theorem r5{f g:Nat→Nat}:∀{n:Nat},(∀v<n,f v≤g v)→h0 f n≤h0 g n
 |0,_=>qaa _
 |n+1,h=>by
  rw[lP,lP];exact Nat.add_le_add (r5 λv b_=>h v (by omega)) (h n (by omega))
noncomputable def tot (rs:List Int):Nat:=h0 (f3 rs) rs.length
theorem Zh3{rs:List Int}(h:∀r∈rs,0≤r):(tot rs:Int)=rs.sum:=by
 unfold tot;have:∀k,k≤rs.length→(h0 (f3 rs) k:Int)=(rs.take k).sum:=by
  intro k
  induction k with
  |zero=>intro _;rfl
  |succ k bQ=>
   intro bt;have kQ:k<rs.length:=by omega
   rw[lP,qad kQ,List.sum_append,Int.natCast_add,bQ (by omega)];have:=h rs[k] (GM kQ);have e:f3 rs k=rs[k].toNat:=by simp[f3,List.getD,kQ]
   rw[e];simp;omega
 rw[this rs.length (qaa _),qax]
section
variable {ls:List B5}{st rs:List Int}{d:Nat→Nat}{ce:List Nat}
theorem r6{c:Nat→Nat}(h:Fire.Wb (lO ls st rs) c ce d):Fire.Wb (hm ls st rs) c ce d:=by
 induction h with
 |nil c=>exact .nil c
 |cons r _ bQ=>exact .cons r.1 bQ
theorem Zmd{c:Nat→Nat}(h:Fire.Wb (hm ls st rs) c ce d)(cd:∀v<rs.length,c v≤f3 rs v):(∀v<rs.length,d v≤f3 rs v)∧h0 d rs.length=h0 c rs.length+ce.length:=by
 induction h with
 |nil c=>exact⟨cd,rfl⟩
 | @cons c d w ce r _ bQ=>
  obtain⟨a,b⟩:=bQ λv b_=>by
   by_cases e:v=w
   ·subst e;rw[Fire.Zaj];exact r.2.1
   ·rw[Fire.UM c e];exact cd v b_
  refine⟨a,?_⟩;rw[b,Bb c r.1,List.length_cons];omega
theorem Bc:∀n,h0 (λ_=>0) n=0
 |0=>rfl
 |n+1=>by rw[lP,Bc n]
theorem vj(h:Fire.Wb (hm ls st rs) (λ_=>0) ce d):(∀v<rs.length,d v≤f3 rs v)∧ce.length=h0 d rs.length∧ce.length≤tot rs:=by
 obtain⟨a,b⟩:=Zmd h λ_ _=>qau _;rw[Bc,Nat.zero_add] at b;exact⟨a,b.symm,by rw[←b];exact r5 a⟩
theorem ZlU(h:Fire.Wb (hm ls st rs) (λ_=>0) ce d){w:Nat}(r:hm ls st rs d w):ce.length<tot rs:=by
 have:=(vj (h.snoc r)).2.2;rw[qaT,List.length_singleton] at this;omega
end
theorem Bd:∀ys:List Bool,inV (.bl true) (ys.map V.bl)=decide (true∈ys)
 | []=>rfl
 |y::ys=>by
  have e:inV (.bl true) ((y::ys).map V.bl)=(eqV (.bl y) (.bl true)||inV (.bl true) (ys.map V.bl)):=rfl;rw[e,Bd ys];cases y<;>simp[eqV]
theorem JH(ys:List Bool):(ys.map V.bl).all js=true:=by
 rw[List.all_map,qa6];intro _ _
 rfl
theorem Be:∀{bs:List Bool},true∈bs→∃j:Nat,bs[j]? =some true∧∀m<j,bs[m]? =some false
 |true::bs,_=>⟨0,rfl,λm h=>absurd h (qbn m)⟩
 |false::bs,h=>by
  obtain⟨j,bj,bp⟩:=Be (bs:=bs) (by simpa using h);exact⟨j+1,by simpa using bj,λm bA=>by
   cases m with
   |zero=>rfl
   |succ m=>simpa using bp m (by omega)⟩
theorem Zil{rs:List Int}{d:Nat→Nat}{w:Nat}(hw:w<rs.length):(eM rs d).set w ((eM rs d).getD w 0-1)=eM rs (Fire.bump d w):=by
 refine qay (by simp[eM]) λv bj bp=>?_;have b_:v<rs.length:=by simpa[eM] using bp
 have ea:=A8 (d:=d) hw;generalize (eM rs d).getD w 0=y at*;subst ea;rw[qbY]
 by_cases e:w=v
 ·subst e;simp[eM,Fire.Zaj];omega
 ·rw[if_neg e];simp[eM,Fire.UM d (qbH e)]
noncomputable def iR (ls:List B5) (st rs:List Int) (d d':Nat→Nat) (ms:List Int):List Bool:=(List.range rs.length).map λv:Nat=>if(v:Int)∈ms then gO ls st rs d' v else gO ls st rs d v
theorem JI{ls:List B5}{st rs:List Int}{d d':Nat→Nat}:iR ls st rs d d' []=hZ ls st rs d:=by simp[iR,hZ]
theorem JJ{ls:List B5}{st rs:List Int}{d:Nat→Nat}{n w:Nat}{ms:List Int}(h:st.length=ls.length)(a_:ZI ls n)(b3:ZaD ls w ms):iR ls st rs d (Fire.bump d w) ms=hZ ls st rs (Fire.bump d w):=by
 unfold iR hZ;refine List.map_congr_left λv _=>?_
 split
 ·rfl
 ·rename_i z;exact(JE h a_ b3 z).symm
theorem Zfi{ls:List B5}{st rs:List Int}{d d':Nat→Nat}{ms:List Int}{v:Nat}:(iR ls st rs d d' ms).set v (gO ls st rs d' v)=iR ls st rs d d' (ms++ [(v:Int)]):=by
 refine qay (by simp[iR]) λi bj bp=>?_;have hi:i<rs.length:=by simpa[iR] using bp
 rw[qbY]
 by_cases e:v=i
 ·subst e;simp[iR]
 ·rw[if_neg e];have:¬((i:Int)=(v:Int)):=λz=>e (by omega);simp[iR,this,qbH e]
section
variable {ls:List B5}{rs st eL:List Int}{ys:List Nat}{w:Int}{pl:List (Key×V)}
end
def Zap(ls:List B5)(rs:List Int):Prop:=∀b∈ls,b.give*rs.getD b.giver.toNat 0=b.take*rs.getD b.taker.toNat 0
section
variable {ls:List B5}{rs st:List Int}{d:Nat→Nat}
theorem ZjD(oh:∀r∈rs,1≤r){v:Nat}(b_:v<rs.length):(f3 rs v:Int)=rs.getD v 0:=by
 have:=oh rs[v] (GM b_);unfold f3;rw[el b_];omega
end
structure Rts(ls:List B5)(n:Nat)(z:Int→Nat)(rs:List Int):Prop where
 len:rs.length=n
 pos:∀r∈rs,1≤r
 bal:Zap ls rs
 wood:∃F,Fo.Vf (ft ls) n F n∧∀x∈F,m2 ls x rs
def Wc(b2:List Str):Prop:=b2.Nodup∧(∀x∈b2,f0 x=true)∧b2.length≤30
def Vx(n:Nat)(cx:List Int):Prop:=cx≠[]∧cx.Nodup∧∀g∈cx,0≤g∧g<(n:Int)
noncomputable def gcdM (rs ms:List Int):Nat:=ms.foldl (λa m=>Nat.gcd a (rs.getD m.toNat 0).toNat) 0
noncomputable def turnV (rs ms:List Int) (m:Int):Int:=rs.getD m.toNat 0 / (gcdM rs ms:Int)
noncomputable def turnsK (f:Int→Int) (ms:List Int):List (Key×V):=ms.map λm=>(Sum.inl m,V.int (f m))
theorem r7(rs ms:List Int)(m:Int):gcdM rs (ms++ [m])=Nat.gcd (gcdM rs ms) (rs.getD m.toNat 0).toNat:=by unfold gcdM;rw[qbT];rfl
theorem Zdx{rs:List Int}:∀{ms:List Int},ms≠[]→(∀m∈ms,0<rs.getD m.toNat 0)→0<gcdM rs ms:=λ{ms} bO bD=>by
 obtain⟨oi,m,rfl⟩:∃oi m,ms=oi++ [m]:=⟨ms.dropLast,ms.getLast bO,(List.dropLast_concat_getLast bO).symm⟩;rw[r7];refine qb5 _ ?_;have:=bD m (by simp);omega
theorem ZhZ{rs:List Int}:∀{ms:List Int},ms≠[]→(∀m∈ms,0<rs.getD m.toNat 0)→∃m∈ms,(gcdM rs ms:Int)≤rs.getD m.toNat 0:=λ{ms} bO bD=>by
 obtain⟨oi,m,rfl⟩:∃oi m,ms=oi++ [m]:=⟨ms.dropLast,ms.getLast bO,(List.dropLast_concat_getLast bO).symm⟩;have bj:=bD m (by simp);refine⟨m,by simp,?_⟩;rw[r7];have:=Nat.gcd_le_right (gcdM rs oi) (show 0<(rs.getD m.toNat 0).toNat by omega);omega
theorem Bf{f:Int→Int}:∀{ms:List Int}{m:Int},m∈ms→valV (turnsK f ms) (Sum.inl m)=some (V.int (f m))
 |x::ms,m,h=>by
  unfold turnsK valV;rw[List.map_cons,qbC]
  by_cases e:x=m
  ·simp[e]
  ·have bA:m∈ms:=by
    rcases qae.mp h with z|z
    ·exact absurd z.symm e
    ·exact z
   have bQ:=Bf (f:=f) bA;unfold turnsK valV at bQ;simp only[show decide ((Sum.inl x:Key)=Sum.inl m)=false from decide_eq_false (λz=>e (qbU z))];exact bQ
theorem Bg{f:Int→Int}:∀{ms:List Int}{m:Int},m∉ms→valV (turnsK f ms) (Sum.inl m)=none
 | [],m,_=>rfl
 |x::ms,m,h=>by
  have e:x≠m:=λz=>h (by simp[z]);have bQ:=Bg (f:=f) (ms:=ms) (m:=m) (λz=>h (by simp[z]));unfold turnsK valV at bQ⊢;rw[List.map_cons,qbC];simp only[show decide ((Sum.inl x:Key)=Sum.inl m)=false from decide_eq_false (λz=>e (qbU z))];exact bQ
theorem JK{f:Int→Int}{ms:List Int}{m:Int}(h:m∉ms):e8 (turnsK f ms) (Sum.inl m) (V.int (f m))=turnsK f (ms++ [m]):=by
 unfold e8;rw[if_neg]
 ·unfold turnsK;simp
 ·intro z;rw[qbX] at z;obtain⟨kv,bt,e⟩:=z;unfold turnsK at bt;obtain⟨x,bo,rfl⟩:=qam.mp bt;exact h (by rw[←qbU (of_decide_eq_true e)];exact bo)
theorem Bh{x:Int}(cd:0≤x)(bj:x≤100000):x.natAbs.log2<9000:=by
 obtain⟨n,rfl⟩:=qaP cd;rw[qcc]
 by_cases cd:n=0
 ·rw[cd];decide+kernel
 ·have:=(qcf cd).mpr (show n<2 ^ 30 by omega);omega
noncomputable def idxL:List Int→Int→Nat
 | [],_=>0
 |y::ys,x=>if y=x then 0 else idxL ys x+1
theorem je:∀{ms:List Int}{x:Int},x∈ms→ms[idxL ms x]? =some x∧∀m<idxL ms x,ms[m]? ≠some x
 |y::ys,x,h=>by
  unfold idxL
  by_cases e:y=x
  ·rw[if_pos e];exact⟨by simp[e],λm bA=>absurd bA (qbn _)⟩
  ·rw[if_neg e];have bo:x∈ys:=by
    rcases qae.mp h with z|z
    ·exact absurd z.symm e
    ·exact z
   obtain⟨bj,bp⟩:=je bo;refine⟨by simpa using bj,λm bA=>?_⟩;cases m with
   |zero=>simpa using e
   |succ m=>simpa using bp m (by omega)
theorem VT{ms:List Int}{x:Int}(h:x∈ms):idxL ms x<ms.length:=(FM.mp (je h).1).1
noncomputable def inB (ms:List Int) (b:B5):B5:=⟨idxL ms b.giver,idxL ms b.taker,b.give,b.take,b.start⟩
noncomputable def inT (ms:List Int) (b:B5):Bool:=decide (b.giver∈ms)&&decide (b.taker∈ms)
noncomputable def ev (ls:List B5) (ms:List Int):List B5:=(ls.filter (inT ms)).map (inB ms)
theorem ZeB{ls:List B5}{ms:List Int}:ZI (ev ls ms) ms.length:=λb a_=>by
 obtain⟨x,bo,rfl⟩:=qam.mp a_;have h:=(qaC.mp bo).2;unfold inT at h;rw[qaR,decide_eq_true_eq,decide_eq_true_eq] at h;have bj:=VT h.1;have bp:=VT h.2;show 0≤((idxL ms x.giver:Nat):Int)∧((idxL ms x.giver:Nat):Int)<ms.length∧0≤((idxL ms x.taker:Nat):Int)∧((idxL ms x.taker:Nat):Int)<ms.length;omega
theorem Zij{ls:List B5}{ms:List Int}:(ev ls ms).length≤ls.length:=by
 unfold ev;rw[GE];exact qaK _ _
theorem Bi(f:Int→Int)(ms:List Int):(turnsK f ms).map (·.2)=(ms.map f).map V.int:=by unfold turnsK;rw[qa3,qa3];rfl
theorem Zho(f:Int→Int)(ms:List Int):(turnsK f ms).map (λkv=>kV kv.1)=ms.map V.int:=by unfold turnsK;rw[qa3];rfl
theorem Zlf{ls:List B5}{st rs:List Int}{c d:Nat→Nat}{ce:List Nat}(h:Fire.Wb (hm ls st rs) c ce d):∀w∈ce,w<rs.length:=by
 induction h with
 |nil c=>intro w hw;cases hw
 | @cons c d w ce dk bq bQ=>
  intro v b_;rcases qae.mp b_ with z|z
  ·rw[z];exact dk.1
  ·exact bQ v z
noncomputable def placeN (kept ms:List Int) (mn x:Int):Nat:=if x∈ms then idxL kept mn else idxL kept x
noncomputable def tvJ (f:Int→Int) (ms:List Int) (x:Int):Int:=if x∈ms then f x else 1
noncomputable def joB (f:Int→Int) (ms:List Int) (pl:Int→Nat) (b:B5):B5:=⟨pl b.giver,pl b.taker,b.give*tvJ f ms b.giver,b.take*tvJ f ms b.taker,b.start⟩
noncomputable def fc (f:Int→Int) (ms:List Int) (pl:Int→Nat) (ls:List B5):List B5:=(ls.filter λb=>!inT ms b).map (joB f ms pl)
theorem ZkO(f:Int→Int)(ms:List Int)(x:Int):valV (turnsK f ms) (Sum.inl x)=if x∈ms then some (V.int (f x)) else none:=by
 by_cases h:x∈ms
 ·rw[if_pos h,Bf h]
 ·rw[if_neg h,Bg h]
theorem ZeE(f:Int→Int)(ms:List Int)(x:Int):(valV (turnsK f ms) (Sum.inl x)).isSome=decide (x∈ms):=by
 rw[ZkO]
 split<;>simp[*]
structure JM where
 inner:List Int
 kept:List Nat
 joined:Nat
 called:List Str
 rows:List B5
def YC{K:Frag}{mg:Str→Option Value}(T:Tp K mg)(H:Hp)(p:Addr)(jm:JM)(ad:List Addr):Prop:=
 ∃(bx a b c d:Addr)(bs:List V),ad=[p,a,b,c,d]∧H p=some (.ins T.c bx [("inner_row",.ref a),("kept",.ref b),("joined",.int jm.joined),("called",.ref c),("rows",.ref d)])∧H a=some (.lst (jm.inner.map V.int))∧H b=some (.lst ((jm.kept.map λx:Nat=>(x:Int)).map V.int))∧H c=some (.lst (jm.called.map V.str))∧H d=some (.lst bs)∧ek H bs jm.rows
theorem YC.off{K:Frag}{mg:Str→Option Value}{T:Tp K mg}{H ae:Hp}{p:Addr}{jm:JM}{ad A:List Addr}(h:YC T H p jm ad)(f:c_ A H ae)(o:∀x∈ad,x∉A):YC T ae p jm ad:=by
 obtain⟨bx,a,b,c,d,bs,rfl,bj,bp,bT,cy,dJ,db⟩:=h;exact⟨bx,a,b,c,d,bs,rfl,f.keep _ _ bj (o _ (by simp)),f.keep _ _ bp (o _ (by simp)),f.keep _ _ bT (o _ (by simp)),f.keep _ _ cy (o _ (by simp)),f.keep _ _ dJ (o _ (by simp)),db.keep f.tups⟩
theorem YC.same{K:Frag}{mg:Str→Option Value}{T:Tp K mg}{H ae:Hp}{p:Addr}{jm:JM}{ad:List Addr}(h:YC T H p jm ad)(s:Ze H ae):YC T ae p jm ad:=h.off (A:=[]) s.frame (by simp)
theorem YC.dom{K:Frag}{mg:Str→Option Value}{T:Tp K mg}{H:Hp}{p:Addr}{jm:JM}{ad:List Addr}(h:YC T H p jm ad):∀x∈ad,H x≠none:=by
 obtain⟨bx,a,b,c,d,bs,rfl,bj,bp,bT,cy,dJ,db⟩:=h;intro x bo z;simp only[qae,qaG,or_false] at bo;rcases bo with rfl|rfl|rfl|rfl|rfl<;>simp_all
theorem ZiU{K:Frag}{mg:Str→Option Value}{T:Tp K mg}{H:Hp}{p:Addr}{jm:JM}{ad:List Addr}{m:Str}{G:Prop}(h:YC T H p jm ad)(fu:(m== "inner_row")=false)(fA:(m== "kept")=false)(p9:(m== "joined")=false)(vi:(m== "called")=false)(r4:(m== "rows")=false)(q:G):∃a bx fs,V.ref p= .ref a∧H a=some (.ins T.c bx fs)∧fs.lookup m=none∧G:=by
 obtain⟨bx,a,b,c,d,bs,_,bj,_⟩:=h;exact⟨p,bx,_,rfl,bj,Rd.lk1 fu (Rd.lk1 fA (Rd.lk1 p9 (Rd.lk1 vi (Rd.lk1 r4 Rd.lkN)))),q⟩
noncomputable def j7 (ms:List Int) (mn:Int) (w:Nat):Bool:=decide ((w:Int)=mn)|| !decide ((w:Int)∈ms)
noncomputable def dm (n:Nat) (ms:List Int) (mn:Int):List Nat:=(List.range n).filter (j7 ms mn)
noncomputable def cU (n:Nat) (ms:List Int) (mn:Int):List Int:=(dm n ms mn).map λx:Nat=>(x:Int)
noncomputable def r8 (aj:HM) (rs ms:List Int) (mn:Int) (ce:List Nat):JM:=
 ⟨ce.map λw=>ms.getD w 0,dm aj.names.length ms mn,idxL (cU aj.names.length ms mn) mn,(dm aj.names.length ms mn).map λw=>aj.names.getD w "",fc (turnV rs ms) ms (placeN (cU aj.names.length ms mn) ms mn) aj.belts⟩
theorem YV{n:Nat}{ms:List Int}{mn x:Int}:x∈cU n ms mn↔(0≤x∧x<(n:Int))∧(x=mn∨x∉ms):=by
 unfold cU dm;rw[qam]
 constructor
 ·rintro⟨w,hw,rfl⟩;obtain⟨bj,bp⟩:=qaC.mp hw;have:=qaw.mp bj;refine⟨by omega,?_⟩;unfold j7 at bp;simpa using bp
 ·rintro⟨⟨cd,bj⟩,bp⟩;obtain⟨w,rfl⟩:=qaP cd;refine⟨w,qaC.mpr ⟨qaw.mpr (by omega),?_⟩,rfl⟩;unfold j7;simpa using bp
theorem r9{n:Nat}{ms:List Int}{mn:Int}:(cU n ms mn).Nodup:=by
 unfold cU dm;rw[qaN,qbS];exact(qaN.mp ((List.nodup_range (n:=n)).filter (j7 ms mn))).imp λh z=>h (by omega)
theorem Zag{n:Nat}{ms:List Int}{mn:Int}:(dm n ms mn).length≤n:=by
 unfold dm;exact qal (qaK _ _) (by rw[qbt];exact qaa _)
theorem ZeK{g:Nat→Nat}:∀(n:Nat){ms:List Nat},ms.Nodup→(∀m∈ms,m<n)→(ms.map g).sum≤((List.range n).map g).sum
 |0,ms,_,h=>by
  obtain rfl:ms=[]:=List.eq_nil_iff_forall_not_mem.mpr λm bA=>absurd (h m bA) (qbn _);exact qaa _
 |n+1,ms,nd,h=>by
  rw[qbG,qaW,List.sum_append]
  by_cases bO:n∈ms
  ·have e:(ms.map g).sum=g n+((ms.erase n).map g).sum:=by rw[((List.perm_cons_erase bO).map g).sum_nat];simp
   have bQ:=ZeK (g:=g) n (nd.erase n) λm bA=>by
    obtain⟨bj,bp⟩:=(nd.mem_erase_iff).mp bA;have:=h m bp;omega
   rw[e];simp;omega
  ·have bQ:=ZeK (g:=g) n nd λm bA=>by
    have:=h m bA;have:m≠n:=λz=>bO (z▸bA);omega
   omega
theorem Zi4(rs:List Int)(h:∀r∈rs,0≤r):(((List.range rs.length).map λi=>(rs.getD i 0).toNat).sum:Int)=rs.sum:=by
 have e:(List.range rs.length).map (λi=>(rs.getD i 0).toNat)=rs.map Int.toNat:=by
  refine qay (by simp) λi bj bp=>?_;have:i<rs.length:=by simpa using bj
  simp[List.getD,this]
 rw[e];clear e
 induction rs with
 |nil=>rfl
 |cons r rs bQ=>
  have bj:=h r (by simp);have bp:=bQ λx bo=>h x (by simp[bo]);simp only[List.map_cons,qcl] at*;omega
theorem vk{rs ms:List Int}(bD:∀r∈rs,1≤r)(bO:ms.Nodup)(eR:ms≠[])(bA:∀m∈ms,0≤m∧m<(rs.length:Int)):(ms.map (turnV rs ms)).sum≤rs.sum∧∀m∈ms,1≤turnV rs ms m∧turnV rs ms m≤rs.getD m.toNat 0∧turnV rs ms m*(gcdM rs ms:Int)=rs.getD m.toNat 0:=by
 have at_:∀m∈ms,1≤rs.getD m.toNat 0:=λm h=>by
  obtain⟨cd,bj⟩:=bA m h;have:m.toNat<rs.length:=by omega
  have e:rs.getD m.toNat 0=rs[m.toNat]:=by simp[List.getD,this]
  rw[e];exact bD _ (GM this)
 have Bj:∀m∈ms,((gcdM rs ms:Nat):Int) ∣ rs.getD m.toNat 0:=λm h=>by
  have eW:∀(l:List Int)(a:Nat),(l.foldl (λa m=>Nat.gcd a (rs.getD m.toNat 0).toNat) a ∣ a)∧∀m∈l,l.foldl (λa m=>Nat.gcd a (rs.getD m.toNat 0).toNat) a ∣ (rs.getD m.toNat 0).toNat:=by
   intro l
   induction l with
   |nil=>exact λa=>⟨Nat.dvd_refl _,by simp⟩
   |cons x l bQ=>
    intro a;obtain⟨bj,bp⟩:=bQ (Nat.gcd a (rs.getD x.toNat 0).toNat);refine⟨qbL bj (qbr _ _),λm bA=>?_⟩;rcases qae.mp bA with rfl|z
    ·exact qbL bj (qa0 _ _)
    ·exact bp m z
  have bT:=(eW ms 0).2 m h;have cy:=Int.ofNat_dvd.mpr bT;have:=at_ m h;rw[qaz (by omega)] at cy;exact cy
 have dL:=Zdx (rs:=rs) eR λm h=>(by have:=at_ m h;omega);have lQ:∀m∈ms,1≤turnV rs ms m∧turnV rs ms m≤rs.getD m.toNat 0∧turnV rs ms m*(gcdM rs ms:Int)=rs.getD m.toNat 0:=λm h=>by
  have bj:=at_ m h;have e:turnV rs ms m*(gcdM rs ms:Int)=rs.getD m.toNat 0:=Int.ediv_mul_cancel (Bj m h);have dZ:1≤turnV rs ms m:=by
   by_cases z:turnV rs ms m≤0
   ·have:=Int.mul_le_mul_of_nonneg_right z (show(0:Int)≤(gcdM rs ms:Int) by omega);omega
   ·omega
  refine⟨dZ,?_,e⟩;have:=qby (show(1:Int)≤(gcdM rs ms:Int) by omega) (show(0:Int)≤turnV rs ms m by omega);omega
 refine⟨?_,lQ⟩;have bw:=ZeK (g:=λi=>(rs.getD i 0).toNat) rs.length (ms:=ms.map Int.toNat) (by
  rw[qaN,qbS];refine(qaN.mp bO).imp_of_mem λ{a b} bF a_ ne e=>ne ?_;have:=bA a bF;have:=bA b a_;omega) (λm h=>by
  obtain⟨x,bo,rfl⟩:=qam.mp h;have:=bA x bo;omega)
 have bU:=Zi4 rs λr bq=>(by have:=bD r bq;omega);have bS:∀l:List Int,(∀m∈l,m∈ms)→(l.map (turnV rs ms)).sum≤((((l.map Int.toNat).map λi=>(rs.getD i 0).toNat).sum:Nat):Int):=by
  intro l
  induction l with
  |nil=>intro _;simp
  |cons x l bQ=>
   intro aj;have bj:=bQ λm h=>aj m (by simp[h]);have bp:=lQ x (aj x (by simp));have bT:=at_ x (aj x (by simp));simp only[List.map_cons,qcl] at*;omega
 have:=bS ms λ_ h=>h;omega
theorem ZlV{rs:List Int}(h:∀r∈rs,0≤r):∀r∈rs,r≤rs.sum:=by
 induction rs with
 |nil=>simp
 |cons x rs bQ=>
  intro r bq;have cd:=h x (by simp);have bj:0≤rs.sum:=by
   clear bQ bq
   induction rs with
   |nil=>simp
   |cons y rs JL=>
    have:=h y (by simp);have:=JL (λr bq=>h r (by simp only[qae] at *;rcases bq with z|z<;>simp[z]));simp only[qcl];omega
  rw[qcl];rcases qae.mp bq with rfl|z
  ·omega
  ·have:=bQ (λr bq=>h r (by simp[bq])) r z;omega
noncomputable def k7 (jm:JM) (k:Int):List Int:=if k=(jm.joined:Int) then jm.inner else[((jm.kept.getD k.toNat 0:Nat):Int)]
noncomputable def jJ (jm:JM) (cl:List Int):List Int:=cl.flatMap (k7 jm)
theorem Zkn{jm:JM}{k:Int}:(k7 jm k).length≤jm.inner.length+1:=by
 unfold k7
 split
 ·omega
 ·simp
theorem Zgy{jm:JM}:∀cl:List Int,(jJ jm cl).length≤cl.length*(jm.inner.length+1)
 | []=>by simp[jJ]
 |k::cl=>by
  have bj:=Zgy (jm:=jm) cl;have bp:=Zkn (jm:=jm) (k:=k);unfold jJ at*;rw[List.flatMap_cons,qaT,List.length_cons,Nat.succ_mul];omega
theorem Zj1{jm:JM}{cl:List Int}{k:Int}:jJ jm (cl++ [k])=jJ jm cl++k7 jm k:=by
 unfold jJ;rw[List.flatMap_append];simp
theorem ZbI{ns:List Int}{k:Int}(cd:0≤k)(bj:k<ns.length):atI (ns.map V.int) k=some (.int (ns.getD k.toNat 0)):=j4 cd bj
theorem vl{n:Nat}{a:Int}(h:a.natAbs<2 ^ n):Builtin.Int.intBits a≤n:=by
 unfold Builtin.Int.intBits
 split
 ·exact qau _
 ·rename_i hz;have cd:a.natAbs≠0:=by
   intro e;apply hz;have:a=0:=by omega
   rw[this]
   rfl
  have:=(qcf cd).mpr h;omega
theorem mulI{n m:Nat}{a b:Int}(bF:a.natAbs<2 ^ n)(a_:b.natAbs<2 ^ m)(h:n+m≤10000000):IntMulOk a b:=by
 have eb:=vl bF;have eT:=vl a_;have k:Builtin.Int.intTooBig ((Builtin.Int.intBits a:Int)+(Builtin.Int.intBits b:Int))=false:=by
  unfold Builtin.Int.intTooBig;rw[PySem.bitsLine_eq];exact decide_eq_false (by omega)
 unfold IntMulOk;rw[k];simp
theorem JN:∀i<26,("abcdefghijklmnopqrstuvwxyz" :Str).cps.toList[i]? =some (97+i):=by decide+kernel
theorem JO:("abcdefghijklmnopqrstuvwxyz" :Str).length≤sizeLine:=by decide+kernel
theorem JP{i:Int}(cd:0≤i)(bj:i<26):atI ("abcdefghijklmnopqrstuvwxyz" :Str).cps.toList i=some (97+i.toNat):=by
 have:=gY (JN i.toNat (by omega))
 rwa [qaz cd] at this
theorem Bk(x:Str):f0 x=true↔1≤x.length∧x.length≤8∧∀c∈x.cps.toList,97≤c∧c≤122:=by
 unfold f0;simp only[qaR,decide_eq_true_eq,qa6];exact⟨λh=>⟨h.1.1,h.1.2,h.2⟩,λh=>⟨⟨h.1,h.2.1⟩,h.2.2⟩⟩
theorem Zh8(x y:Str):(x++y).cps.toList=x.cps.toList++y.cps.toList:=by
 show(x.cps++y.cps).toList=_;simp
theorem vm(x:Str):x.length=x.cps.toList.length:=by simp[Str.length]
noncomputable def cellX (ns:List Int) (k:Int):Int:=if(ns.length:Int)=0 then 0 else if k / ns.length=0 then ns.getD (k % ns.length).toNat 0 else ns.getD (k % ns.length).toNat 0*(2*(k / ns.length)+1) % 1000003+31*(k / ns.length)
theorem vn{n:Nat}(h:n≤100000000):(n:Int).natAbs.log2<9000:=by
 rw[qcc]
 by_cases cd:n=0
 ·rw[cd];decide+kernel
 ·have:=(qcf cd).mpr (show n<2 ^ 30 by omega);omega
theorem vo{x:Int}(cd:0≤x)(bj:x≤100000000):x.natAbs.log2<9000:=by
 obtain⟨n,rfl⟩:=qaP cd;exact vn (by omega)
structure Bel(n:Nat)(b:B5):Prop where
 rg:0≤b.giver∧b.giver<(n:Int)∧0≤b.taker∧b.taker<(n:Int)
 sz:1≤b.give∧1≤b.take
 st:0≤b.start
 few:b.give≤10 ^ 24∧b.take≤10 ^ 24
def ZmM(rs:List Int):Prop:=∀r∈rs,1≤r∧r≤6
theorem ZnO{f x y:Nat}(bo:1≤x):f*y / Nat.gcd x y*x=f*x / Nat.gcd x y*y:=by
 have dL:0<Nat.gcd x y:=qbA _ bo;obtain⟨a,bF⟩:=qbr x y;obtain⟨b,a_⟩:=qa0 x y;generalize Nat.gcd x y=g at*;subst bF a_;have bG:f*(g*b) / g=f*b:=by rw[qaF];exact Nat.mul_div_cancel_left _ dL
 have bK:f*(g*a) / g=f*a:=by rw[qaF];exact Nat.mul_div_cancel_left _ dL
 rw[bG,bK];simp only[qaI,qaF,qbe]
theorem VN{H bn bv:Hp}{fp m7:List Addr}(s:Ze H bn)(n:∀x∈fp,H x=none)(ej:c_ fp bn bv)(gr:Vb fp m7 bn):Ze H bv∧∀x∈m7,H x=none:=by
 refine⟨λb o e=>ej.keep _ _ (s _ _ e) (λz=>by have:=n b z;rw[e] at this;cases this),λx bo=>?_⟩;rcases gr x bo with z|z
 ·exact n x z
 ·exact eX s z
noncomputable def chN (c at_:Int) (k p:Nat):Nat:=97+((if(p:Int)=at_ then c / 64+3*(k:Int) else c / (64+(p:Int))) % 26).toNat
theorem Zm5(c at_:Int)(k p:Nat):97≤chN c at_ k p∧chN c at_ k p≤122:=by unfold chN;omega
theorem ZmO{c at_:Int}{k k' p:Nat}(bD:(p:Int)=at_)(h:k<8)(h':k'<8)(n:k≠k'):chN c at_ k p≠chN c at_ k' p:=by
 unfold chN;rw[if_pos bD,if_pos bD];omega
structure ZaR(c at_:Int)(gu:Nat)(b2:List Str):Prop where
 cps:∀k x,b2[k]? =some x→x.cps.toList=(List.range gu).map (chN c at_ k)
theorem ZaR.name{c at_:Int}{gu:Nat}{b2:List Str}(h:ZaR c at_ gu b2)(bj:1≤gu)(bp:gu≤8):∀n∈b2,f0 n=true:=λn bO=>by
 obtain⟨k,bt⟩:=qbb bO;have e:=h.cps k n bt;rw[Bk,vm,e];refine⟨by simpa using bj,by simpa using bp,λx bo=>?_⟩;obtain⟨i,_,rfl⟩:=qam.mp bo;exact Zm5 c at_ k i
theorem ZaR.nodup{c at_:Int}{gu:Nat}{b2:List Str}(h:ZaR c at_ gu b2)(aj:b2.length≤8)(cd:0≤at_)(bj:at_<(gu:Int)):b2.Nodup:=by
 rw[qaN,qbg];intro i j hi bC rB e;have bG:=h.cps i _ (GT hi);have bK:=h.cps j _ (GT bC);rw[e,bK] at bG;have bD:at_.toNat<gu:=by omega
 have de:=congrArg (λl=>l[at_.toNat]?) bG;simp[bD] at de;exact ZmO (c:=c) (at_:=at_) (k:=j) (k':=i) (p:=at_.toNat) (by omega) (by omega) (by omega) (by omega) de
noncomputable def labT (E:List (Nat×Nat)) (n w:Nat):Nat:=Pc.Yd E n (λi=>i) w
noncomputable def dF (ls:List B5):List (Nat×Nat):=ls.map λb=>(b.giver.toNat,b.taker.toNat)
theorem ZgY{ls:List B5}{n:Nat}(h:ZI ls n):∀e∈dF ls,e.1<n∧e.2<n:=by
 intro e bL;obtain⟨b,a_,rfl⟩:=qam.mp bL;have:=h b a_;dsimp only;omega
theorem Zjg{ls:List B5}{n:Nat}(a_:ZI ls n){a b:Nat}(h:Pc.Ye (dF ls) a b):Fo.Wy (ft ls) (a:Int) (b:Int):=by
 induction h with
 |refl=>exact .refl
 |fwd _ e bQ=>
  obtain⟨x,bo,bK⟩:=qam.mp e;obtain⟨i,hi,rfl⟩:=qao bo;have bq:=a_ _ bo
  injection bK with de hj
  refine .step (t:=(i:Int)) (al:=true) bQ (n' hi ?_);rw[YU,el hi];exact .inl ⟨by omega,by congr 1;omega⟩
 |bwd _ e bQ=>
  obtain⟨x,bo,bK⟩:=qam.mp e;obtain⟨i,hi,rfl⟩:=qao bo;have bq:=a_ _ bo
  injection bK with de hj
  refine .step (t:=(i:Int)) (al:=false) bQ (n' hi ?_);rw[YU,el hi];exact .inr ⟨by omega,by congr 1;omega⟩
theorem Zm8{E:List (Nat×Nat)}{n:Nat}(gq:∀e∈E,e.1<n∧e.2<n){a b:Nat}(bF:a<n)(a_:b<n)(h:Pc.Ye E a b):labT E n a=labT E n b:=by
 obtain⟨fF,l1⟩:=Pc.Ux gq bF;obtain⟨e4,l2⟩:=Pc.Ux gq a_;have bj:=l1 _ (h.trans e4);have bp:=l2 _ (h.symm.trans fF);unfold labT;omega
theorem ZjL{xs ys:List Int}(bj:xs.Pairwise (· ≤·))(bp:ys.Pairwise (· ≤·))(p:xs.Perm ys):xs=ys:=List.Perm.eq_of_pairwise (le:=(· ≤·)) (λa b _ _ h k=>Int.le_antisymm h k) bj bp p
noncomputable def fN (f:Nat→Nat) (m:Nat):List Int:=(List.range m).map λw=>((f w:Nat):Int)
theorem ZkE(f:Nat→Nat)(m:Nat):(fN f m).length=m:=by simp[fN]
theorem Zcu{f:Nat→Nat}{m g:Nat}(h:g<m):atI ((fN f m).map V.int) (g:Int)=some (.int (f g:Nat)):=gY (by simp[fN,h])
theorem Zju{f:Nat→Nat}{m:Nat}{e:Nat×Nat}(bj:e.1<m)(bp:e.2<m):((fN f m).set e.1 ((min (f e.1) (f e.2):Nat):Int)).set e.2 ((min (f e.1) (f e.2):Nat):Int)=fN (Pc.step f e) m:=by
 refine qay (by simp[fN]) λj a1 a2=>?_;have bC:j<m:=by simpa[fN] using a2
 rw[qbY,qbY];simp only[fN,qbf,List.getElem_range,Pc.step]
 by_cases e4:e.2=j
 ·rw[if_pos e4,if_pos (.inr e4.symm)]
 ·rw[if_neg e4]
  by_cases fF:e.1=j
  ·rw[if_pos fF,if_pos (.inl fF.symm)]
  ·rw[if_neg fF,if_neg (λz=>z.elim (λy=>fF y.symm) (λy=>e4 y.symm))]
theorem ZhN{ls:List B5}{ys:List Int}(bu:∀j<ls.length,((ls.getD j dB).giver∈ys↔(ls.getD j dB).taker∈ys)){a w:Int}(h:Fo.Wy (ft ls) a w)(bF:a∈ys):w∈ys:=by
 induction h with
 |refl=>exact bF
 |step _ m bQ=>
  obtain⟨i,hi,bA⟩:=VU m;rcases YU.mp bA with⟨bG,bK⟩|⟨bG,bK⟩
  ·have de:=congrArg Prod.fst bK;dsimp only at de;rw[de];exact(bu i hi).mp (bG▸bQ)
  ·have de:=congrArg Prod.fst bK;dsimp only at de;rw[de];exact(bu i hi).mpr (bG▸bQ)
noncomputable def lR (rs:List Int) (ys:List Int):Nat:=ys.foldl (λc w=>Nat.gcd c (rs.getD w.toNat 0).toNat) 0
theorem r_(rs:List Int):∀(ys:List Int)(c:Nat),ys.foldl (λc w=>Nat.gcd c (rs.getD w.toNat 0).toNat) c ∣ c∧∀w∈ys,ys.foldl (λc w=>Nat.gcd c (rs.getD w.toNat 0).toNat) c ∣ (rs.getD w.toNat 0).toNat
 | [],c=>⟨Nat.dvd_refl c,by simp⟩
 |w::ys,c=>by
  obtain⟨bj,bp⟩:=r_ rs ys (Nat.gcd c (rs.getD w.toNat 0).toNat);refine⟨qbL bj (qbr _ _),λv b_=>?_⟩;rcases qae.mp b_ with z|z
  ·rw[z];exact qbL bj (qa0 _ _)
  ·exact bp v z
def Vz(ls:List B5)(n:Nat)(rs:List Int):Prop:=∀(f:Int)(ys:List Int),0≤f→f<(n:Int)→f∈ys→(∀j<ls.length,((ls.getD j dB).giver∈ys↔(ls.getD j dB).taker∈ys))→lR rs ys=1
theorem Zkm{ls:List B5}{n:Nat}{F:List (Int×Fo.ZT)}{rs:List Int}(eO:Fo.Vf (ft ls) n F n)(fM:∀x∈F,m2 ls x rs):Vz ls n rs:=by
 intro f ys dG f1 bJ bu;obtain⟨x,bo,bt⟩:=eO.all f dG f1;obtain⟨bH,jf,_,_⟩:=eO.tree x bo;obtain⟨zs,hz,m8⟩:=fM x bo;refine Zhl bH hz λy bR=>?_;have r':y.1∈Fo.keys x.2:=by
  have bj:=hz.keys;have bp:(Fo.keys x.2).take x.2.length=Fo.keys x.2:=qbs (by simp[Fo.keys]);rw[bp] at bj;rw[←bj];exact qam.mpr ⟨y,bR,rfl⟩
 have bT:=(bH.keys_iff jf y.1).mp r';have cy:=(bH.keys_iff jf f).mp bt;have dJ:y.1∈ys:=ZhN bu (Fo.Wy.trans (Fo.Wy.symm (rY ls) cy) bT) bJ;have db:=(r_ rs ys 0).2 _ dJ;have iQ:=m8 y bR;have m6:rs.getD y.1.toNat 0=((lcmL zs / y.2.2*y.2.1:Nat):Int):=by rw[List.getD,iQ];rfl
 rw[m6,qab] at db;exact db
section
variable {ls:List B5}{n:Nat}{rs rs':List Int}
theorem ZgH{rs rs':List Int}{a b:Nat}:∀(ys:List Int)(c e:Nat),c*b=a*e→(∀v∈ys,(rs.getD v.toNat 0).toNat*b=a*(rs'.getD v.toNat 0).toNat)→ys.foldl (λc w=>Nat.gcd c (rs.getD w.toNat 0).toNat) c*b=a*ys.foldl (λc w=>Nat.gcd c (rs'.getD w.toNat 0).toNat) e
 | [],c,e,h,_=>h
 |v::ys,c,e,h,q=>by
  refine ZgH ys _ _ ?_ λw hw=>q w (by simp[hw]);rw[←Nat.gcd_mul_right,h,q v (by simp),Nat.gcd_mul_left]
theorem Zeh(cN:ZI ls n)(hsz:YS ls)(aj:rs.length=n)(e':rs'.length=n)(cg:∀r∈rs,1≤r)(c7:∀r∈rs',1≤r)(k1:Zap ls rs)(k2:Zap ls rs')(l1:Vz ls n rs)(l2:Vz ls n rs'):rs'=rs:=by
 have bD:∀{xs:List Int},xs.length=n→(∀r∈xs,1≤r)→∀v:Nat,v<n→1≤xs.getD v 0:=λ{xs} e q v b_=>by
  rw[el (by rw[e];exact b_)];exact q _ (GM _)
 refine qay (by rw[aj,e']) λw a1 a2=>?_;have hw:w<n:=by rw[←aj];exact a2
 rw[←el (d:=0) a1,←el (d:=0) a2]
 classical
 obtain⟨ys,sb⟩:∃ys:List Int,∀v:Int,v∈ys↔(0≤v∧v<(n:Int))∧Fo.Wy (ft ls) w v:=by
  refine⟨((List.range n).map λv:Nat=>(v:Int)).filter λv=>decide (Fo.Wy (ft ls) (w:Int) v),λv=>?_⟩;simp only[qaC,qam,qaw,decide_eq_true_eq]
  constructor
  ·rintro⟨⟨u,hu,rfl⟩,b6⟩;exact⟨⟨by omega,by omega⟩,b6⟩
  ·rintro⟨⟨a,b⟩,b6⟩;exact⟨⟨v.toNat,by omega,by omega⟩,b6⟩
 have ck:∀j<ls.length,((ls.getD j dB).giver∈ys↔(ls.getD j dB).taker∈ys):=λj bC=>by
  obtain⟨eb,eT,gP,gv⟩:=cN.at bC;rw[sb,sb]
  constructor
  ·rintro⟨_,b6⟩;exact⟨⟨gP,gv⟩,.step b6 (n' bC (YU.mpr (.inl ⟨rfl,rfl⟩)))⟩
  ·rintro⟨_,b6⟩;exact⟨⟨eb,eT⟩,.step b6 (n' bC (YU.mpr (.inr ⟨rfl,rfl⟩)))⟩
 have Bl:(w:Int)∈ys:=(sb _).mpr ⟨⟨by omega,by omega⟩,.refl⟩;have g1:=l1 (w:Int) ys (by omega) (by omega) Bl ck;have g2:=l2 (w:Int) ys (by omega) (by omega) Bl ck;have eW:∀v,Fo.Wy (ft ls) (w:Int) v→(rs.getD v.toNat 0).toNat*(rs'.getD w 0).toNat=(rs.getD w 0).toNat*(rs'.getD v.toNat 0).toNat:=by
  intro v b_
  induction b_ with
  |refl=>rw[qab]
  | @step b c t al _ m bQ=>
   obtain⟨i,hi,bA⟩:=VU m;have gE:=k1 (ls.getD i dB) (by rw[el hi];exact GM hi);have Bm:=k2 (ls.getD i dB) (by rw[el hi];exact GM hi);obtain⟨cX,bY,dL,fL,_,_,eF,dO⟩:=hsz i hi;obtain⟨eb,eT,gP,gv⟩:=cN.at hi;have gM:=YU.mp bA;generalize ls.getD i dB=bb at*;have dZ:=bD aj cg bb.giver.toNat (by omega);have e3:=bD aj cg bb.taker.toNat (by omega);have kX:=bD e' c7 bb.giver.toNat (by omega);have JQ:=bD e' c7 bb.taker.toNat (by omega);obtain⟨A,vp⟩:∃A:Nat,rs.getD bb.giver.toNat 0=(A:Int):=⟨(rs.getD bb.giver.toNat 0).toNat,by omega⟩;obtain⟨B,oj⟩:∃B:Nat,rs.getD bb.taker.toNat 0=(B:Int):=⟨(rs.getD bb.taker.toNat 0).toNat,by omega⟩;obtain⟨gm,vq⟩:∃A:Nat,rs'.getD bb.giver.toNat 0=(A:Int):=⟨(rs'.getD bb.giver.toNat 0).toNat,by omega⟩;obtain⟨sc,vr⟩:∃B:Nat,rs'.getD bb.taker.toNat 0=(B:Int):=⟨(rs'.getD bb.taker.toNat 0).toNat,by omega⟩;rw[vp,oj,eF,dO] at gE;rw[vq,vr,eF,dO] at Bm;have Bn:cX*A=bY*B:=by exact_mod_cast gE
   have px:cX*gm=bY*sc:=by exact_mod_cast Bm
   generalize (rs'.getD w 0).toNat=R at*;generalize (rs.getD w 0).toNat=S at*;rcases gM with⟨x1,x2⟩|⟨x1,x2⟩
   ·have x3:=congrArg Prod.fst x2;dsimp only at x3;rw[←x1,vp,vq] at bQ;rw[x3,oj,vr];simp only[qab] at bQ⊢;refine qbu fL ?_
    calc bY*(B*R)=cX*A*R:=by rw[Bn,qaI]
     _=cX*(A*R):=qaI _ _ _
     _=cX*(S*gm):=by rw[bQ]
     _=S*(cX*gm):=qaF _ _ _
     _=bY*(S*sc):=by rw[px,qaF]
   ·have x3:=congrArg Prod.fst x2;dsimp only at x3;rw[←x1,oj,vr] at bQ;rw[x3,vp,vq];simp only[qab] at bQ⊢;refine qbu dL ?_
    calc cX*(A*R)=bY*B*R:=by rw[←Bn,qaI]
     _=bY*(B*R):=qaI _ _ _
     _=bY*(S*sc):=by rw[bQ]
     _=S*(bY*sc):=qaF _ _ _
     _=cX*(S*gm):=by rw[←px,qaF]
 have bp:=ZgH (rs:=rs) (rs':=rs') ys 0 0 (by simp) λv b_=>eW v ((sb v).mp b_).2;have bT:lR rs ys*(rs'.getD w 0).toNat=(rs.getD w 0).toNat*lR rs' ys:=bp;rw[g1,g2,Nat.one_mul,Nat.mul_one] at bT;have dZ:=bD aj cg w hw;have e3:=bD e' c7 w hw;omega
end
theorem Rts.least{ls:List B5}{n:Nat}{z:Int→Nat}{rs:List Int}(h:Rts ls n z rs):Vz ls n rs:=let⟨_,a,b⟩:=h.wood;Zkm a b
noncomputable def gcdC (rs:List Int) (lb:Nat→Nat) (w k:Nat):Nat:=(List.range k).foldl (λa o=>if lb o=lb w then Nat.gcd a (rs.getD o 0).toNat else a) 0
noncomputable def leastL (ls:List B5) (rs:List Int):List Int:=(List.range rs.length).map λw=>rs.getD w 0 / (gcdC rs (labT (dF ls) rs.length) w rs.length:Int)
theorem vt(rs:List Int)(lb:Nat→Nat)(w k:Nat):gcdC rs lb w (k+1)=if lb k=lb w then Nat.gcd (gcdC rs lb w k) (rs.getD k 0).toNat else gcdC rs lb w k:=by
 unfold gcdC;rw[qbG,qbT]
 rfl
theorem sd{rs:List Int}{lb:Nat→Nat}{w:Nat}:∀{k o:Nat},o<k→lb o=lb w→gcdC rs lb w k ∣ (rs.getD o 0).toNat
 |k+1,o,h,e=>by
  rw[vt];rcases qbm.mp h with z|rfl
  ·have bQ:=sd (rs:=rs) (lb:=lb) (w:=w) z e
   split
   ·exact qbL (qbr _ _) bQ
   ·exact bQ
  ·rw[if_pos e];exact qa0 _ _
theorem ZhK{rs:List Int}{lb:Nat→Nat}{w D:Nat}:∀{k:Nat},(∀o<k,lb o=lb w→D ∣ (rs.getD o 0).toNat)→D ∣ gcdC rs lb w k
 |0,_=>Nat.dvd_zero _
 |k+1,h=>by
  rw[vt];have bQ:=ZhK (rs:=rs) (lb:=lb) (w:=w) (D:=D) (k:=k) λo bI e=>h o (by omega) e
  split
  ·rename_i e;exact Nat.dvd_gcd bQ (h k (by omega) e)
  ·exact bQ
structure Zh0(ls:List B5)(rs L:List Int):Prop where
 len:L.length=rs.length
 pos:∀r∈L,1≤r
 le:∀w<rs.length,L.getD w 0≤rs.getD w 0
 bal:Zap ls L
 least:Vz ls rs.length L
theorem Ze0{ls:List B5}{rs:List Int}{w:Nat}(hw:w<rs.length):(leastL ls rs).getD w 0=rs.getD w 0 / (gcdC rs (labT (dF ls) rs.length) w rs.length:Int):=by
 unfold leastL;simp[List.getD,hw]
theorem Zep{rs:List Int}{lb:Nat→Nat}{w v k:Nat}(e:lb w=lb v):gcdC rs lb w k=gcdC rs lb v k:=by unfold gcdC;rw[e]
theorem Zll{ls:List B5}{rs:List Int}(cN:ZI ls rs.length)(bD:∀r∈rs,1≤r)(a_:Zap ls rs):Zh0 ls rs (leastL ls rs):=by
 have gq:=ZgY cN;have h1:∀w<rs.length,1≤rs.getD w 0:=λw hw=>by rw[el hw];exact bD _ (GM hw)
 have dL:∀w<rs.length,0<gcdC rs (labT (dF ls) rs.length) w rs.length:=λw hw=>by
  have bj:=sd (rs:=rs) (lb:=labT (dF ls) rs.length) (w:=w) hw rfl;have:=h1 w hw;exact Nat.pos_of_dvd_of_pos bj (by omega)
 have lQ:∀w<rs.length,(leastL ls rs).getD w 0*(gcdC rs (labT (dF ls) rs.length) w rs.length:Int)=rs.getD w 0:=λw hw=>by
  rw[Ze0 hw];refine Int.ediv_mul_cancel ?_;have bj:=Int.ofNat_dvd.mpr (sd (rs:=rs) (lb:=labT (dF ls) rs.length) (w:=w) hw rfl);have:=h1 w hw
  rwa [qaz (by omega)] at bj
 have pos:∀w<rs.length,1≤(leastL ls rs).getD w 0:=λw hw=>by
  have bj:=lQ w hw;have bp:=h1 w hw
  by_cases z:(leastL ls rs).getD w 0≤0
  ·have:=Int.mul_le_mul_of_nonneg_right z (show(0:Int)≤(gcdC rs (labT (dF ls) rs.length) w rs.length:Int) by omega);omega
  ·omega
 have len:(leastL ls rs).length=rs.length:=by simp[leastL]
 refine⟨len,λr bq=>?_,λw hw=>?_,λb fJ=>?_,λf ys dG f1 bJ bu=>?_⟩
 ·obtain⟨i,hi,rfl⟩:=qao bq;rw[←el (d:=0) hi];exact pos i (by omega)
 ·have bj:=lQ w hw;have bp:=pos w hw;have bT:=dL w hw;have:=qby (show(1:Int)≤(gcdC rs (labT (dF ls) rs.length) w rs.length:Int) by omega) (show(0:Int)≤(leastL ls rs).getD w 0 by omega);omega
 ·obtain⟨eb,eT,gP,gv⟩:=cN b fJ;have cd:=a_ b fJ;have bH:b.giver.toNat<rs.length:=by omega
  have b3:b.taker.toNat<rs.length:=by omega
  have bA:(b.giver.toNat,b.taker.toNat)∈dF ls:=qam.mpr ⟨b,fJ,rfl⟩;have aj:=Zm8 gq bH b3 (.fwd (.refl _) bA);have bG:=lQ _ bH;have bK:=lQ _ b3;rw[←Zep (rs:=rs) (k:=rs.length) aj] at bK;rw[←bG,←bK,←Int.mul_assoc,←Int.mul_assoc] at cd;exact Int.eq_of_mul_eq_mul_right (by have:=dL _ bH;omega) cd
 ·have mJ:f.toNat<rs.length:=by omega
  have bj:=(r_ (leastL ls rs) ys 0).2
  change ∀w∈ys,lR (leastL ls rs) ys ∣ _ at bj
  have bp:lR (leastL ls rs) ys*gcdC rs (labT (dF ls) rs.length) f.toNat rs.length ∣ gcdC rs (labT (dF ls) rs.length) f.toNat rs.length:=ZhK λo bI e=>by
   have pC:=(Pc.Ux gq mJ).1;have Bo:=(Pc.Ux gq bI).1;have se:Pc.Ye (dF ls) f.toNat o:=pC.trans (by
    have hs:=Bo.symm;unfold labT at e;rw[e] at hs;exact hs)
   have b6:=Zjg cN se;rw[qaz dG] at b6;have bA:=ZhN bu b6 bJ;have bT:=bj _ bA;rw[qab] at bT;have cy:=lQ o bI;rw[Zep (rs:=rs) (k:=rs.length) e] at cy;have dJ:(rs.getD o 0).toNat=((leastL ls rs).getD o 0).toNat*gcdC rs (labT (dF ls) rs.length) f.toNat rs.length:=by
    rw[←cy];have:=pos o bI;obtain⟨q,cv⟩:∃q:Nat,(leastL ls rs).getD o 0=(q:Int):=⟨((leastL ls rs).getD o 0).toNat,by omega⟩;rw[cv,←qcb,qab,qab]
   rw[dJ];exact Nat.mul_dvd_mul_right bT _
  have g:=dL _ mJ;have bT:lR (leastL ls rs) ys ∣ 1:=by
   refine Nat.dvd_of_mul_dvd_mul_right g ?_;rw[Nat.one_mul];exact bp
  exact Nat.eq_one_of_dvd_one bT
theorem Zla{ls:List B5}{rs L:List Int}(h:Zh0 ls rs L)(cN:ZI ls rs.length)(hsz:YS ls){z:Int→Nat}{rs':List Int}(dk:Rts ls rs.length z rs'):rs'=L:=
 Zeh cN hsz h.len dk.len h.pos dk.pos h.bal dk.bal h.least dk.least
local macro_rules| `(tactic|walk_at "rd")=>`(tactic|first|with_reducible (first|(show ∃a bx fs,L2.V.ref _=L2.V.ref a∧_∧List.lookup _ fs=none∧_;refine Nm.Zi7 (by with_reducible assumption) (by k_dflt (decide+kernel)) (by k_dflt (decide+kernel)) ?_)|(show ∃a bx fs,L2.V.ref _=L2.V.ref a∧_∧List.lookup _ fs=none∧_;refine Nm.Zhd (by with_reducible assumption) (by k_dflt (decide+kernel)) (by k_dflt (decide+kernel)) (by k_dflt (decide+kernel)) (by k_dflt (decide+kernel)) (by k_dflt (decide+kernel)) ?_)|(show ∃a bx fs,L2.V.ref _=L2.V.ref a∧_∧List.lookup _ fs=none∧_;refine Nm.ZiU (by with_reducible assumption) (by k_dflt (decide+kernel)) (by k_dflt (decide+kernel)) (by k_dflt (decide+kernel)) (by k_dflt (decide+kernel)) (by k_dflt (decide+kernel)) ?_))|fail "none here")
inductive VB{K:Frag}{mg:Str→Option Value}(T:Tp K mg)(vs:List V)(H:Hp)(Q:VK)(cW:XK):Prop
 |mk (p:Addr) (ns:List Int) (k:Int) (cQ:vs=[.ref p,.int k]) (cH:SqL K H p (ns.map V.int)) (cI:ns.length≤63) (dz:0≤k) (en:k≤100000) (eP:Q (.int (cellX ns k)) H):VB T vs H Q cW
theorem ZfZ{K:Frag}{mg:Str→Option Value}{T:Tp K mg}{H:Hp}{Q:VK}{E:XK}{p:Addr}{ns:List Int}{k:Int}(di:SqL K H p (ns.map V.int))(aj:ns.length≤63)(bt:0≤k∧k≤100000)(q:Q (.int (cellX ns k)) H):VB T ([.ref p,.int k]++ []) H Q E:=⟨p,ns,k,rfl,di,aj,bt.1,bt.2,q⟩
local macro_rules| `(tactic|walk_at "rd")=>`(tactic|first|((with_reducible show Nm.VB _ _ _ _ _);with_reducible refine Nm.ZfZ (by walk_at "hp") (by assumption) (by omega) ?_)|fail "none here")
section
variable {P:Program}{w:World}{K:Frag}{mg:Str→Option Value}{base:Heap}
theorem p_(T:Tp K mg):OkN P w base 1 T.x0 (VB T):=by
 refine T.x0.F.okX u2 (λvs H Q E h=>?_) (λcz A outer s H vs Q E bq h=>?_)
 ·obtain⟨p,ns,k,rfl,_⟩:=h
  rfl
 ·have hu:=bq.hu;obtain⟨p,ns,k,rfl,di,eg,k0,k1,q⟩:=h;unfold cellX at q;refine⟨_,(bN (dS (dg (ij (K:=K) rfl hu) (dI (fa K) (by rfl) T.f qap (br (pv 0) bB)) b0 (dM _)) (b4 (c0 b0)) dX)
     (bN (cB (i:=2) u2.nd rfl (Or.inl rfl) (cD fX (pv 1) (dI (fa K) (by rfl) T.f qap (br (pv 0) bB))))
     (bN (cB (i:=3) u2.nd rfl (Or.inl rfl) (cw (ixk K) (pv 0) (cD fV (pv 1) (dI (fa K) (by rfl) T.f qap (br (pv 0) bB))) (λ_ _=>rfl)))
     (bN (dS (dg (ij (K:=K) rfl hu) (pv 2) b0 (dM _)) (b4 (c0 (pv 3))) dX)
     (b4 (c0 (cD (gn K) (cD fV (cD gd (pv 3) (cD (gn K) (cD gd b0 (pv 2)) b0)) b0) (cD gd b0 (pv 2))))))))),?_⟩
  try dsimp only[L2.cxX,L2.ZN,L2.Zl]
  walk_at "rds";refine Rd.ifD (λd=>?_) (λd=>?_)
  ·have d':(ns.length:Int)=0:=by simpa using d
   rw[if_pos d'] at q;walk_at "rds";exact q
  ·have d':¬(ns.length:Int)=0:=by simpa using d
   rw[if_neg d'] at q;have e:((ns.map V.int).length:Int)=ns.length:=by simp
   have QO:0<((ns.map V.int).length:Int):=by omega
   have sf:((ns.map V.int).length:Int).natAbs.log2<9000:=vn (by rw[GE];omega);have bF:=ZbI (ns:=ns) (k:=k % (ns.map V.int).length) (qbd _ (by omega)) (by rw[e];exact qbc _ (by omega));have i_:0≤k / ((ns.map V.int).length:Int):=Int.ediv_nonneg k0 (by omega);have j1:k / ((ns.map V.int).length:Int)≤k:=Int.ediv_le_self _ k0;have Bp:IntMulOk (ns.getD (k % ((ns.map V.int).length:Int)).toNat 0) (2*(k / ((ns.map V.int).length:Int))+1):=IntMulOk.of_right (qal (vl (n:=30) (by omega)) (by decide));rw[←e] at q;walk_at "rds";refine Rd.ifD (λjA=>?_) (λjA=>?_)
   ·rw[if_pos jA] at q;walk_at "rds";exact q
   ·rw[if_neg jA] at q;walk_at "rds";exact q
end
inductive Bq{K:Frag}{mg:Str→Option Value}(T:Tp K mg)(vs:List V)(H:Hp)(Q:VK)(cW:XK):Prop
 |mk (c:Int) (m:Nat) (cQ:vs=[.int c,.int m]) (cH:m≤8) (cI:∀(r:Addr)(ae:Hp)(b2:List Str),H r=none→Ze H ae→ae r=some (.lst (b2.map V.str))→(∀n∈b2,f0 n=true)→b2.Nodup→b2.length=m→(∃gu:Nat,∀n∈b2,n.length=gu)→Q (.ref r) ae):Bq T vs H Q cW
section
variable {P:Program}{w:World}{K:Frag}{mg:Str→Option Value}{base:Heap}
theorem JR(T:Tp K mg):OkN P w base 1 T.x1 (Bq T):=by
 refine T.x1.F.okX jE (λvs H Q E h=>?_) (λcz A outer s H vs Q E bq h=>?_)
 ·obtain⟨c,m,rfl,_⟩:=h
  rfl
 ·have hu:=bq.hu;obtain⟨c,m,rfl,bA,q⟩:=h;have al:=JO;refine⟨_,(bN (cB (i:=2) jE.nd rfl (Or.inl rfl) YF)
     (bN (cB (i:=3) jE.nd rfl (Or.inl rfl) (cD (gn K) b0 (cD fV (pv 0) b0)))
     (bN (cB (i:=4) jE.nd rfl (Or.inl rfl) (cD fV (cD fX (pv 0) b0) (pv 3)))
     (bN (cB (i:=5) jE.nd rfl (Or.inl rfl) (fW bB))
     (bN (eB PassesOwn.leaving rfl (iD rfl T.i (br (pv 1) bB)) (cG (i:=6) jE.nd rfl (Or.inl rfl)) (bN (cB (i:=7) jE.nd rfl (Or.inl rfl) YF)
     (bN (eB PassesOwn.leaving rfl (iD rfl T.i (br (pv 3) bB)) (cG (i:=8) jE.nd rfl (Or.inl rfl)) (bN (cB (i:=9) jE.nd rfl (Or.inl rfl) (cD fX (pv 0) (cD (gn K) b0 (pv 8))))
     (bN (mB (dS (dg (ij (K:=K) rfl hu) (pv 8) (pv 4) (dM _)) (b4 (cB (i:=9) jE.nd rfl (Or.inl rfl) (cD (gn K) (cD fX (pv 0) b0) (cD gd b0 (pv 6))))) dX))
     (b4 (cB (i:=7) jE.nd rfl (Or.inl rfl) (cD (gn K) (pv 7) (cw (ixk K) (pv 2) (cD fV (pv 9) b0) (λ_ _=>rfl))))))))
     (b4 (eo (fr (K:=K) rfl qah qas qat hg (pv 5) (br (pv 7) bB)))))))
     (b4 (c0 (pv 5)))))))),?_⟩
  try dsimp only[L2.cxX,L2.ZN,L2.Zl]
  have ho:0<1+c % 8:=by omega
  walk_at "rds";have a0:=qbd (c / 8) (show 1+c % 8≠0 by omega);have a1:=qbc (c / 8) ho;generalize c / 8 % (1+c % 8)=at_ at*;obtain⟨gu,JS⟩:∃l:Nat,1+c % 8=(l:Int):=⟨(1+c % 8).toNat,by omega⟩;rw[JS] at a1⊢;have JT:1≤gu:=by omega
  have JU:gu≤8:=by omega
  refine⟨qau _,λr bq=>?_⟩;have bw:Ze H (upd H r (.lst [])):=cK bq;have fe:(upd H r (.lst [])) r=some (.lst (([]:List Str).map V.str)):=Zd;generalize upd H r (.lst [])=bn at*;walk_at "rds";refine Vy (n:=m) (λi af ae=>∃(b2:List Str)(a6 a7 a8 a9:Option V),af=[some (.int c),some (.int m),some (.str "abcdefghijklmnopqrstuvwxyz"),some (.int gu),some (.int at_),some (.ref r),a6,a7,a8,a9]∧Ze H ae∧ae r=some (.lst (b2.map V.str))∧b2.length=i∧ZaR c at_ gu b2) ⟨[],_,_,_,_,rfl,bw,fe,rfl,⟨λk x e=>by simp at e⟩⟩ ?_ ?_
  ·rintro i af bv hi ⟨b2,a6,a7,a8,a9,rfl,bU,iS,f_,ia⟩;have hz:(b2.map V.str).length<sizeLine:=dj (by rw[GE];omega);walk_at "rds";refine Vy (n:=gu) (λj af ae=>ae=bv∧∃(w:Str)(a8 a9:Option V),af=[some (.int c),some (.int m),some (.str "abcdefghijklmnopqrstuvwxyz"),some (.int gu),some (.int at_),some (.ref r),some (.int (0+(i:Int))),some (.str w),a8,a9]∧w.cps.toList=(List.range j).map (chN c at_ i)) ⟨rfl,"",_,_,rfl,rfl⟩ ?_ ?_
   ·rintro j af ae bC ⟨rfl,w,JV,JW,rfl,hw⟩;have ks:0<64+(0+(j:Int))∧(64+(0+(j:Int))).natAbs.log2<9000:=⟨by omega,vo (by omega) (by omega)⟩;walk_at "rds";refine Rd.cut (λbW bv=>bv=ae∧∃t:Int,bW=[some (.int c),some (.int m),some (.str "abcdefghijklmnopqrstuvwxyz"),some (.int gu),some (.int at_),some (.ref r),some (.int (0+(i:Int))),some (.str w),some (.int (0+(j:Int))),some (.int t)]∧chN c at_ i j=97+(t % 26).toNat) ?k1 ?dx
    case dx=>
     walk_at "rds";refine Rd.ifD (λz=>?_) (λz=>?_)
     ·walk_at "rds";refine⟨rfl,_,rfl,?_⟩;unfold chN;rw[if_pos (by omega),qa8]
     ·walk_at "rds";refine⟨rfl,_,rfl,?_⟩;unfold chN;rw[if_neg (by omega),qa8]
    case k1=>
     rintro bW b9 ⟨rfl,t,rfl,b3⟩;walk_at "rds";have fL:0≤t % 26:=by omega
     have hW:t % 26<26:=by omega
     refine Rd.ZoN al (JP fL hW) ?_;rw[←b3];have Br:w.length=j:=by rw[vm,hw];simp
     refine Rd.ZmZ (qa2 (dj (by rw[Br];show j+1≤1000;omega))) ?_;walk_at "rds";refine⟨rfl,_,_,_,rfl,?_⟩;rw[Zh8,hw,qbG,qaW]
     rfl
   ·rintro af ae ⟨rfl,w,JV,JW,rfl,hw⟩;walk_at "rds";refine⟨b2++ [w],_,_,_,_,rfl,bU.new bq,by rw[Zd,qaW];rfl,by simp[f_],⟨λk x e=>?_⟩⟩;rcases qbR k b2.length with z|z
    ·rw[qa1 z] at e;exact ia.cps k x e
    ·rw[qaX z] at e;have bt:k-b2.length=0:=by
      rcases qa9 (k-b2.length) with y|y
      ·exact y
      ·rw[qaU (by simp;omega)] at e;cases e
     rw[bt] at e;obtain rfl:w=x:=by simpa using e
     have:k=i:=by omega
     rw[this];exact hw
  ·rintro af bv ⟨b2,a6,a7,a8,a9,rfl,bU,iS,f_,ia⟩;walk_at "rds";exact q r bv b2 bq bU iS (ia.name JT JU) (ia.nodup (by omega) a0 a1) f_ ⟨_,λn bO=>by
    obtain⟨k,bt⟩:=qbb bO;rw[vm,ia.cps k n bt,GE,qbt]⟩
end
inductive Bs{K:Frag}{mg:Str→Option Value}(T:Tp K mg)(vs:List V)(H:Hp)(Q:VK)(cW:XK):Prop
 |mk (a b:Nat) (cQ:vs=[.int a,.int b]) (cH:Q (.int (Nat.gcd a b:Nat)) H):Bs T vs H Q cW
section
variable {P:Program}{w:World}{K:Frag}{mg:Str→Option Value}{base:Heap}
theorem vu(T:Tp K mg):OkN P w base 1 T.x2 (Bs T):=by
 refine T.x2.F.okX rO (λvs H Q E h=>?_) (λcz A outer s H vs Q E bq h=>?_)
 ·obtain⟨a,b,rfl,_⟩:=h
  rfl
 ·have hu:=bq.hu;obtain⟨a0,cS,rfl,q⟩:=h;rw[←My.ZdE] at q;refine⟨_,(bN (qW PassesOwn.leaving (dg (ik (K:=K) rfl hu) (pv 1) b0 (dM _)) (bN (cB (i:=2) rO.nd rfl (Or.inl rfl) (cD fV (pv 0) (pv 1)))
     (bN (cB (i:=0) rO.nd rfl (Or.inl rfl) (pv 1))
     (b4 (cB (i:=1) rO.nd rfl (Or.inl rfl) (pv 2))))))
     (b4 (c0 (pv 0)))),?_⟩
  try dsimp only[L2.cxX,L2.ZN,L2.Zl]
  walk_at "rd";refine ZdW (λm af ae=>ae=H∧∃(x y:Int)(r:Option V),m=y.toNat∧af=[some (.int x),some (.int y),r]∧0≤x∧0≤y∧My.G x y=My.G a0 cS) _ ⟨rfl,a0,cS,none,rfl,rfl,by omega,by omega,rfl⟩ ?_;rintro m af ae ⟨rfl,x,y,r,rfl,rfl,bo,bR,gN⟩;walk_at "rds";refine U7 (λc=>ZfM ?_) (λc=>?_)
  ·have lS:0<y:=by
    have:¬y=0:=by simpa using c
    omega
   walk_at "rds";exact⟨_,(by have:=qbd x (show y≠0 by omega);have:=qbc x lS;omega),rfl,y,x % y,some (.int (x % y)),rfl,rfl,bR,qbd x (by omega),(AN bo lS).trans gN⟩
  ·have lS:y=0:=by simpa using c
   have e:x=My.G a0 cS:=by rw[←gN,My.ZjU bo lS]
   walk_at "rds";rw[e];exact q
end
inductive Bt{K:Frag}{mg:Str→Option Value}(T:Tp K mg)(vs:List V)(H:Hp)(Q:VK)(cW:XK):Prop
 |mk (a ho:Addr) (bs:List V) (ls:List B5) (rs:List Int) (cQ:vs=[.ref a,.ref ho]) (cH:SqL K H a (rs.map V.int)) (cI:H ho=some (.lst bs)) (dz:ek H bs ls) (en:ZI ls rs.length) (eP:rs.length≤30) (fx:(∀r∈rs,1≤r∧r≤1000)) (gw:∀(r:Addr)(ae:Hp),H r=none→Ze H ae→ae r=some (.lst ((leastL ls rs).map V.int))→Q (.ref r) ae):Bt T vs H Q cW
section
variable {P:Program}{w:World}{K:Frag}{mg:Str→Option Value}{base:Heap}
theorem JX(T:Tp K mg):OkN P w base 2 T.x3 (Bt T):=by
 refine T.x3.F.okX j3 (λvs H Q E h=>?_) (λcz A outer s H vs Q E bq h=>?_)
 ·obtain⟨a,ho,bs,ls,rs,rfl,_⟩:=h
  rfl
 ·have hu:=bq.hu;obtain⟨a,ho,bs,ls,rs,rfl,bF,ol,c9,cN,bA,Bu,q⟩:=h;have g6:=c9.length;have gq:=ZgY cN;generalize gM:rs.length=m at*;refine⟨_,(bN (cB (i:=2) j3.nd rfl (Or.inl rfl) (G' rfl (by rfl) T.j (by rfl) T.i (br (dI (fa K) (by rfl) T.f qap (br (pv 0) bB)) bB)))
     (bN (eB PassesOwn.leaving rfl (ey (K:=K) rfl (pv 0)) (cG (i:=3) j3.nd rfl (Or.inl rfl)) (b4 (eB PassesOwn.leaving rfl (ey (K:=K) rfl (pv 1)) (cG (i:=4) j3.nd rfl (Or.inl rfl)) (bN (cB (i:=5) j3.nd rfl (Or.inl rfl) (dI (FX rfl) (by rfl) T.ag PyProof.Rows.boot_min (br (cw (ixk K) (pv 2) (cw (ixk K) (pv 4) b0 (λ_ _=>rfl)) (λ_ _=>rfl)) (br (cw (ixk K) (pv 2) (cw (ixk K) (pv 4) b0 (λ_ _=>rfl)) (λ_ _=>rfl)) bB))))
     (bN (h8 (pv 5) (iB (pv 2) (cw (ixk K) (pv 4) b0 (λ_ _=>rfl)) kF))
     (b4 (h8 (pv 5) (iB (pv 2) (cw (ixk K) (pv 4) b0 (λ_ _=>rfl)) kF))))))))
     (bN (cB (i:=6) j3.nd rfl (Or.inl rfl) (fW bB))
     (bN (eB PassesOwn.leaving rfl (iD rfl T.i (br (dI (fa K) (by rfl) T.f qap (br (pv 0) bB)) bB)) (cG (i:=7) j3.nd rfl (Or.inl rfl)) (bN (cB (i:=8) j3.nd rfl (Or.inl rfl) b0)
     (bN (eB PassesOwn.leaving rfl (iD rfl T.i (br (dI (fa K) (by rfl) T.f qap (br (pv 0) bB)) bB)) (cG (i:=9) j3.nd rfl (Or.inl rfl)) (b4 (dS (dg (ij (K:=K) rfl hu) (cw (ixk K) (pv 2) (pv 9) (λ_ _=>rfl)) (cw (ixk K) (pv 2) (pv 7) (λ_ _=>rfl)) (dM _)) (b4 (cB (i:=8) j3.nd rfl (Or.inl rfl) (c5 T.x2 (vu T) bq cp (br (pv 8) (br (cw (ixk K) (pv 0) (pv 9) (λ_ _=>rfl)) bB))))) dX)))
     (b4 (eo (fr (K:=K) rfl qah qas qat hg (pv 6) (br (cD fX (cw (ixk K) (pv 0) (pv 7) (λ_ _=>rfl)) (pv 8)) bB)))))))
     (b4 (c0 (pv 6))))))),?_⟩
  try dsimp only[L2.cxX,L2.ZN,L2.Zl]
  have eY:((rs.map V.int).length:Int)=(m:Int):=by simp[gM]
  walk_at "rds";refine Rd.ZoS ?_;walk_at "rds";refine⟨m,by rw[eY],by omega,λl aj=>?_⟩;have sg:((List.range m).map λi:Nat=>V.int i)=(fN (Pc.Yd (dF ls) 0 λi=>i) m).map V.int:=by unfold fN;rw[qa3];rfl
  rw[sg];have j2:(upd H l (.lst ((fN (Pc.Yd (dF ls) 0 λi=>i) m).map V.int))) l=some (.lst ((fN (Pc.Yd (dF ls) 0 λi=>i) m).map V.int)):=Zd;have bw:Ze H (upd H l (.lst ((fN (Pc.Yd (dF ls) 0 λi=>i) m).map V.int))):=cK aj;generalize upd H l (.lst ((fN (Pc.Yd (dF ls) 0 λi=>i) m).map V.int))=bn at*;have i_:=bw _ _ ol;have p':=bw.seq bF;walk_at "rds";refine Z5 (ew bF) (λi af ae=>Ze H ae∧(∃a1 a2 a3,af=[some (.ref a),some (.ref ho),some (.ref l),a1,a2,a3,none,none,none,none])∧ae l=some (.lst ((fN (Pc.Yd (dF ls) i λi=>i) m).map V.int))) ⟨bw,⟨_,_,_,rfl⟩,j2⟩ (λi af ae h=>h.1) ?_ ?_
  ·rintro i af bv hi ⟨bU,⟨a1,a2,a3,rfl⟩,f_⟩;have j1:=bU _ _ ol;generalize (rs.map V.int).getD i .non=fe at*;walk_at "rds";refine Z5 (ew (SqL.of ol)) (λj af ae=>Ze H ae∧(∃a2 a3,af=[some (.ref a),some (.ref ho),some (.ref l),some fe,a2,a3,none,none,none,none])∧ae l=some (.lst ((fN (((dF ls).take j).foldl Pc.step (Pc.Yd (dF ls) i λi=>i)) m).map V.int))) ⟨bU,⟨_,_,rfl⟩,f_⟩ (λj af ae h=>h.1) ?_ ?_
   ·rintro j af b9 bC ⟨bS,⟨a2,a3,rfl⟩,k8⟩;have i':j<ls.length:=by omega
    obtain⟨t,JY,b3⟩:=c9.at (GT i');have cV:bs.getD j .non= .ref t:=by simp[List.getD,JY]
    rw[cV];have Bv:j<(dF ls).length:=by simp[dF,i']
    have ep:(dF ls)[j]=(ls[j].giver.toNat,ls[j].taker.toNat):=by simp[dF]
    obtain⟨bG,bK⟩:=gq _ (GM Bv);obtain⟨eb,eT,gP,gv⟩:=cN _ (GM i');have dO:((dF ls).take (j+1)).foldl Pc.step (Pc.Yd (dF ls) i λi=>i)=Pc.step (((dF ls).take j).foldl Pc.step (Pc.Yd (dF ls) i λi=>i)) (dF ls)[j]:=by
     rw[qad Bv,qbT];rfl
    rw[dO];generalize ((dF ls).take j).foldl Pc.step (Pc.Yd (dF ls) i λi=>i)=f at*;rw[ep] at bG bK⊢;have h2:=bS _ _ b3;generalize ls[j]=bb at*;have h1:=Zcu (f:=f) bG;have om:=Zcu (f:=f) bK;have hc:=Zju (f:=f) bG bK;have m9:=ZkE f m;dsimp only[B5.v] at h2 h1 om hc bG bK;rw[qaz eb] at h1;rw[qaz gP] at om;have QP:=SqL.of (K:=K) k8;walk_at "rds";have JZ:(if((f bb.taker.toNat:Nat):Int)<((f bb.giver.toNat:Nat):Int) then((f bb.taker.toNat:Nat):Int) else((f bb.giver.toNat:Nat):Int))=((min (f bb.giver.toNat) (f bb.taker.toNat):Nat):Int):=by split<;>omega
    rw[JZ];walk_at "rds";have iL:(upd b9 l (.lst (((fN f m).map V.int).set bb.giver.toNat (.int ((min (f bb.giver.toNat) (f bb.taker.toNat):Nat):Int))))) l=some (.lst (((fN f m).map V.int).set bb.giver.toNat (.int ((min (f bb.giver.toNat) (f bb.taker.toNat):Nat):Int)))):=Zd;have ca:Ze H (upd b9 l (.lst (((fN f m).map V.int).set bb.giver.toNat (.int ((min (f bb.giver.toNat) (f bb.taker.toNat):Nat):Int))))):=bS.new aj;generalize upd b9 l (.lst (((fN f m).map V.int).set bb.giver.toNat (.int ((min (f bb.giver.toNat) (f bb.taker.toNat):Nat):Int))))=b7 at*;have gQ:=ca _ _ b3;dsimp only[B5.v] at gQ;walk_at "rds";refine Rd.ZmY iL (by omega) (by rw[qb9,GE,m9];omega) ?_;walk_at "rds";refine⟨ca.new aj,⟨_,_,rfl⟩,?_⟩;rw[Zd,←hc,qbK,qbK]
   ·rintro af b9 ⟨bS,⟨a2,a3,rfl⟩,k8⟩;have fh:(dF ls).length=bs.length:=by simp[dF];omega
    rw[←fh,qax] at k8;walk_at "rds";exact⟨bS,⟨_,_,_,rfl⟩,k8⟩
  ·rintro af bv ⟨bU,⟨a1,a2,a3,rfl⟩,f_⟩;rw[GE,gM] at f_
   change bv l=some (.lst ((fN (labT (dF ls) m) m).map V.int)) at f_
   walk_at "rds";refine⟨qau _,λr bq=>?_⟩;have bS:Ze bv (upd bv r (.lst [])):=cK bq;have hp:(upd bv r (.lst [])) r=some (.lst []):=Zd;have fi:H r=none:=eX bU bq;have k8:=bS _ _ f_;have sh:l≠r:=dw f_ bq;generalize upd bv r (.lst [])=b9 at*;have gR:=bU.trans bS;have Bw:=gR.seq bF;walk_at "rds";rw[GE,gM];have d6:∀w<m,atI (rs.map V.int) (w:Int)=some (.int (rs.getD w 0))∧1≤rs.getD w 0∧rs.getD w 0≤1000:=λw hw=>by
    have k6:w<rs.length:=by omega
    have e:rs.getD w 0=rs[w]:=by simp[List.getD,k6]
    rw[e];exact⟨gY (by simp[k6]),Bu _ (GM k6)⟩
   refine Vy (n:=m) (λi af ae=>Ze H ae∧(∃a4 a5 a6,af=[some (.ref a),some (.ref ho),some (.ref l),a1,a2,a3,some (.ref r),a4,a5,a6])∧ae l=some (.lst ((fN (labT (dF ls) m) m).map V.int))∧ae r=some (.lst (((leastL ls rs).take i).map V.int))) ⟨gR,⟨_,_,_,rfl⟩,k8,hp⟩ ?_ ?_
   ·rintro i af b7 hi ⟨ca,⟨a4,a5,a6,rfl⟩,iL,ff⟩;have QQ:=ca.seq bF;have QR:=SqL.of (K:=K) iL;walk_at "rds";rw[GE,gM];refine Vy (n:=m) (λj af ae=>ae=b7∧(∃a6,af=[some (.ref a),some (.ref ho),some (.ref l),a1,a2,a3,some (.ref r),some (.int (0+(i:Int))),some (.int (gcdC rs (labT (dF ls) m) i j:Nat)),a6])) ⟨rfl,_,rfl⟩ ?_ ?_
    ·rintro j af b1 bC ⟨rfl,a6,rfl⟩;rw[qa8,qa8,vt];have h1:=Zcu (f:=labT (dF ls) m) (m:=m) bC;have om:=Zcu (f:=labT (dF ls) m) (m:=m) hi;obtain⟨bj,bp,bT⟩:=d6 j bC;generalize labT (dF ls) m j=lj at*;generalize labT (dF ls) m i=HP at*;generalize gcdC rs (labT (dF ls) m) i j=g at*;obtain⟨v,b_⟩:∃v:Nat,rs.getD j 0=(v:Int):=⟨(rs.getD j 0).toNat,by omega⟩;rw[b_] at bj⊢;rw[qab];walk_at "rds";refine Rd.ifD (λc=>?_) (λc=>?_)
     ·rw[if_pos (by omega)];walk_at "rds";refine⟨g,v,rfl,?_⟩;walk_at "rds";exact⟨rfl,_,rfl⟩
     ·rw[if_neg (by omega)];walk_at "rds";exact⟨rfl,_,rfl⟩
    ·rintro af b1 ⟨rfl,a6,rfl⟩;obtain⟨bj,bp,bT⟩:=d6 i hi;have Bx:=Ze0 (ls:=ls) (rs:=rs) (w:=i) (by omega);rw[gM] at Bx;have m9:(leastL ls rs).length=m:=by simp[leastL,gM]
     have gA:(leastL ls rs).take (i+1)=(leastL ls rs).take i++ [rs.getD i 0 / (gcdC rs (labT (dF ls) m) i m:Int)]:=by
      rw[qad (by omega),←el (d:=0) (by omega),Bx]
     rw[gA];have g1:=sd (rs:=rs) (lb:=labT (dF ls) m) (w:=i) hi rfl;have g2:0<gcdC rs (labT (dF ls) m) i m:=Nat.pos_of_dvd_of_pos g1 (by omega);have g3:=qbw (by omega) g1;generalize gcdC rs (labT (dF ls) m) i m=g at*;have hE:0<(g:Int)∧(g:Int).natAbs.log2<9000:=⟨by omega,Bh (by omega) (by omega)⟩;rw[qa8];have lT:(((leastL ls rs).take i).map V.int).length<sizeLine:=dj (by rw[GE,qaO];omega);generalize (leastL ls rs).take i=X at*;generalize rs.getD i 0=v at*;walk_at "rds";refine⟨ca.new fi,⟨_,_,_,rfl⟩,by rw[b5 sh];exact iL,?_⟩;rw[Zd,qaW]
     rfl
   ·rintro af b7 ⟨ca,⟨a4,a5,a6,rfl⟩,iL,ff⟩;rw[qbs (by simp[leastL,gM])] at ff;walk_at "rds";exact q r b7 fi ca ff
end
inductive By{K:Frag}{mg:Str→Option Value}(T:Tp K mg)(vs:List V)(H:Hp)(Q:VK)(cW:XK):Prop
 |mk (c:Int) (n:Nat) (cQ:vs=[.int c,.int n]) (cH:0<n) (cI:n≤30) (dz:∀(r:Addr)(ae:Hp)(cx:List Int),H r=none→Ze H ae→ae r=some (.lst (cx.map V.int))→Vx n cx→cx.length≤n→Q (.ref r) ae):By T vs H Q cW
section
variable {P:Program}{w:World}{K:Frag}{mg:Str→Option Value}{base:Heap}
theorem J0(T:Tp K mg):OkN P w base 1 T.x4 (By T):=by
 refine T.x4.F.okX pX (λvs H Q E h=>?_) (λcz A outer s H vs Q E bq h=>?_)
 ·obtain⟨c,n,rfl,_⟩:=h
  rfl
 ·have hu:=bq.hu;obtain⟨c,n,rfl,Bz,fI,q⟩:=h;have hX:0<(n:Int):=by omega
  refine⟨_,(bN (cB (i:=2) pX.nd rfl (Or.inr rfl) (cD fV (cD gd (pv 0) b0) b0))
     (bN (rb (j:=3) rfl (fq (x:="_law_work") (zs:=["_law_mix"]) (ix:=[2]) (cu uO) ["_law_cell","_law_many","_law_mix","_law_group"] rfl rfl (by decide+kernel)) (iD rfl T.i (br (pv 1) bB)) (λck C s H fp=>⟨(cG (i:=0) (show(["_law_work","_law_mix"]:List Str).Nodup by decide+kernel) rfl (Or.inl rfl)),(nR (dg (ij (K:=K) rfl hu) (cD fV (cD fX (pv 1) (cD (gn K) b0 (cD gd b0 (pv 0)))) b0) b0 (dM _))),(pv 0)⟩) pX.nd rfl (Or.inl rfl))
     (bN (mB (dS (dg (ij (K:=K) rfl hu) (pv 3) (fW bB) (dM _)) (b4 (cB (i:=3) pX.nd rfl (Or.inl rfl) (fW (br (cD fV (pv 2) (pv 1)) bB)))) dX))
     (bN (mB (dS (dg (ij (K:=K) rfl hu) (cD fV (cD fX (pv 2) b0) b0) b0 (dM _)) (b4 (cB (i:=3) pX.nd rfl (Or.inl rfl) (HA (K:=K) rfl rfl (by rfl) T.j (by rfl) T.U (br (pv 3) bB)))) dX))
     (b4 (c0 (pv 3))))))),?_⟩
  try dsimp only[L2.cxX,L2.ZN,L2.Zl]
  walk_at "rds";generalize c*48271 % 2147483647=fO at*;refine Yo WW (dj (by omega)) (λi=>decide (fO / (3+2*(i:Int)) % 2=1)) (λi=> .int (i:Int)) (λi ae c4 hi bV k=>?_) (λi ae c4 hi _ bV k=>?_) (λg bn bH bw BA=>?_)
  ·rw[qa8];have cs:i<n:=by omega
   have ks:0<3+2*(i:Int)∧(3+2*(i:Int)).natAbs.log2<9000:=⟨by omega,vo (by omega) (by omega)⟩;walk_at "rds";exact k ae (Ze.refl ae)
  ·rw[qa8];walk_at "rds";exact k ae (Ze.refl ae)
  obtain⟨cx,J1,J2,J3,hE⟩:∃cx:List Int,((List.range (n:Int).toNat).filter λi:Nat=>decide (fO / (3+2*(i:Int)) % 2=1)).map (λi:Nat=>V.int (i:Int))=cx.map V.int∧(∀x∈cx,0≤x∧x<(n:Int))∧cx.Nodup∧cx.length≤n:=by
   refine⟨((List.range n).filter λi:Nat=>decide (fO / (3+2*(i:Int)) % 2=1)).map λi:Nat=>(i:Int),by rw[qab,qa3];rfl,λx bo=>?_,?_,?_⟩
   ·obtain⟨w,hw,rfl⟩:=qam.mp bo;have:=qaw.mp (qaC.mp hw).1;omega
   ·rw[qaN,qbS];exact(qaN.mp ((List.nodup_range (n:=n)).filter _)).imp λh z=>h (by omega)
   ·rw[GE];exact qal (qaK _ _) (by rw[qbt];exact qaa _)
  rw[J1] at BA;walk_at "rds";refine Rd.cut (λbW ae=>∃(g:Addr)(cx:List Int),bW=[some (.int c),some (.int n),some (.int fO),some (.ref g)]∧Ze H ae∧H g=none∧ae g=some (.lst (cx.map V.int))∧Vx n cx∧cx.length≤n) ?k1 ?dx
  case dx=>
   walk_at "rds";refine⟨qau _,λe bL=>?_⟩;have gx:Ze bn (upd bn e (.lst [])):=cK bL;have lU:(upd bn e (.lst [])) e=some (.lst (([]:List Int).map V.int)):=Zd;have BB:=gx _ _ BA;generalize upd bn e (.lst [])=bv at*;have fy:=bw.trans gx;refine Rd.ZmJ (e_.ints (SqL.of BB)) (e_.ints (SqL.of lU)) (lD _) (lD _) (rm _) ?_;rw[Za0];refine Rd.bl ?_
   by_cases z:cx=[]
   ·rw[decide_eq_true z];walk_at "rds";intro u gp;have cm:=qbd fO (show(n:Int)≠0 by omega);have cY:=qbc fO hX;exact⟨u,[fO % (n:Int)],rfl,fy.trans (cK gp),eX fy gp,Zd,⟨by simp,by simp,by simp;omega⟩,by simp;omega⟩
   ·rw[decide_eq_false z];walk_at "rds";exact⟨g,cx,rfl,fy,bH,BB,⟨z,J3,J2⟩,hE⟩
  case k1=>
   rintro bW b9 ⟨g3,rF,rfl,bS,J4,BC,hok,BD⟩;walk_at "rds";refine Rd.cut (λbW ae=>∃(g:Addr)(cx:List Int),bW=[some (.int c),some (.int n),some (.int fO),some (.ref g)]∧Ze H ae∧H g=none∧ae g=some (.lst (cx.map V.int))∧Vx n cx∧cx.length≤n) ?k2 ?eh
   case eh=>
    walk_at "rds";refine Rd.ifD (λd=>?_) (λd=>?_)
    ·walk_at "rds";refine Rd.Zpc ?_;walk_at "rds";refine⟨g3,_,rfl,.of BC,λu gp=>?_⟩;rw[←List.map_reverse];exact⟨u,rF.reverse,rfl,bS.trans (cK gp),eX bS gp,Zd,⟨by simpa using hok.1,(List.reverse_perm rF).nodup_iff.mpr hok.2.1,λx bo=>hok.2.2 x (List.mem_reverse.mp bo)⟩,by simpa using BD⟩
    ·walk_at "rds";exact⟨g3,rF,rfl,bS,J4,BC,hok,BD⟩
   case k2=>
    rintro bW b7 ⟨gZ,J5,rfl,ca,J6,J7,J8,J9⟩;walk_at "rds";exact q gZ b7 J5 J6 ca J7 J8 J9
end
inductive BE{K:Frag}{mg:Str→Option Value}(T:Tp K mg)(vs:List V)(H:Hp)(Q:VK)(cW:XK):Prop
 |mk (x:Str) (cQ:vs=[.str x]) (cH:x.length≤sizeLine) (cI:∀ae,Ze H ae→Q (.bl (f0 x)) ae):BE T vs H Q cW
noncomputable def letter (c:Nat):Bool:=decide (97≤c)&&decide (c≤122)
theorem BF(c d:Nat):decide ((⟨#[c]⟩:Str).cps.toList<(⟨#[d]⟩:Str).cps.toList)=decide (c<d):=by
 show decide ([c]< [d])=decide (c<d);have e:([c]< [d])↔c<d:=by
  constructor
  ·intro h;cases h with
   |rel h=>exact h
   |cons h=>cases h
  ·exact λh=> .rel h
 by_cases h:c<d
 ·rw[decide_eq_true h,decide_eq_true (e.mpr h)]
 ·rw[decide_eq_false h,decide_eq_false (λz=>h (e.mp z))]
theorem J_:("a" :Str)=⟨#[97]⟩:=by decide+kernel
theorem J':("z" :Str)=⟨#[122]⟩:=by decide+kernel
theorem ZiV(x:Str):(((List.range x.cps.size).map λi=>letter (x.cps.getD i 0)).all id)=x.cps.toList.all letter:=by
 rw[List.all_map,qbB,qa6,qa6]
 constructor
 ·intro h c bu;obtain⟨i,hi,rfl⟩:=qao bu;have dN:i<x.cps.size:=by simpa using hi
  have:=h i (qaw.mpr dN);simpa[Array.getD,dN] using this
 ·intro h i hi;have dN:=qaw.mp hi;have:=h x.cps[i] (by simp);simpa[Array.getD,dN] using this
theorem Zb1(x:Str):f0 x=(decide (1≤x.length)&&decide (x.length≤8)&&x.cps.toList.all letter):=rfl
section
variable {P:Program}{w:World}{K:Frag}{mg:Str→Option Value}{base:Heap}
theorem Ka(T:Tp K mg):OkN P w base 1 T.x5 (BE T):=by
 refine T.x5.F.okX IM (λvs H Q E h=>?_) (λcz A outer s H vs Q E bq h=>?_)
 ·obtain⟨x,rfl,_⟩:=h
  rfl
 ·have hu:=bq.hu;obtain⟨x,rfl,bo,q⟩:=h;refine⟨_,(bN (dS (hv (gJ (K:=K) rfl (dI (kP (K:=K) rfl) (by rfl) T.g qaJ (br (pv 0) (br (kr (v:= .ty "str") (by rfl) T.bh PyProof.Rows.boot_str rfl) bB))) (λ_=>rfl))) (b4 (c0 Wa)) dX)
     (bN (dS (PW.pt (hb (dg qX (dI (fa K) (by rfl) T.f qap (br (pv 0) bB)) b0 (dM _)) (h7 (dg nG (dI (fa K) (by rfl) T.f qap (br (pv 0) bB)) (qU (v:= .int 8) rfl T.C ⟨_,rfl⟩) (dM _))))) (b4 (c0 Wa)) dX)
     (b4 (c0 (dI (y7 (K:=K) rfl rfl) (by rfl) T.ax PyProof.Rows.boot_all (br (jZ rfl (fq (x:="sign") (zs:=[]) (ix:=[]) (cu uP) ["thing"] rfl rfl (by decide+kernel)) (G1 (pv 0)) (λck C s H fp=>⟨(cG (i:=0) (show(["sign"]:List Str).Nodup by decide+kernel) rfl (Or.inl rfl)),gF,(FU yV yV YF (pv 0) YF)⟩)) bB)))))),?_⟩
  try dsimp only[L2.cxX,L2.ZN,L2.Zl]
  walk_at "rds";refine U7 (λc=>?_) (λc=>?_)
  ·have cZ:¬1≤x.length:=by simp at c;omega
   walk_at "rds";have e:f0 x=false:=by rw[Zb1,decide_eq_false cZ];rfl
   rw[←e];exact q H (Ze.refl H)
  ·have cZ:1≤x.length:=by simp at c;omega
   walk_at "rds";refine U7 (λd=>?_) (λd=>?_)
   ·have d':¬x.length≤8:=by simp at d;omega
    walk_at "rds";have e:f0 x=false:=by rw[Zb1,decide_eq_false d',Bool.and_false];rfl
    rw[←e];exact q H (Ze.refl H)
   ·have d':x.length≤8:=by simp at d;omega
    have bO:x.cps.size<sizeLine:=dj (by have:x.cps.size=x.length:=rfl;omega);walk_at "rds";refine Yo Zji bO (λ_=>true) (λi=> .bl (letter (x.cps.getD i 0))) (λi ae c4 hi bV k=>?_) (λi ae c4 hi _ bV k=>?_) (λp ae bD bV aj=>?_)
    ·walk_at "rds";exact k ae (Ze.refl ae)
    ·walk_at "rds";rw[J_,J',BF];generalize x.cps.getD i 0=cc at k⊢;refine U7 (λz=>?_) (λz=>?_)
     ·walk_at "rds";have e:(!decide (122<cc))=letter cc:=by
       have f7:97≤cc:=by simpa using z
       unfold letter;rw[decide_eq_true f7,Bool.true_and]
       by_cases y:cc≤122
       ·rw[decide_eq_true y,decide_eq_false (by omega)];rfl
       ·rw[decide_eq_false y,decide_eq_true (by omega)];rfl
      rw[BF,e];exact k ae (Ze.refl ae)
     ·have e:false=letter cc:=by
       have f7:¬97≤cc:=by simpa using z
       unfold letter;rw[decide_eq_false f7];rfl
      rw[e];exact k ae (Ze.refl ae)
    ·have e':ae p=some (.lst (((List.range x.cps.size).map λi=>letter (x.cps.getD i 0)).map V.bl)):=by
      rw[aj,qaA.mpr (by simp),qa3];rfl
     walk_at "rds";rw[ZiV];have e:x.cps.toList.all letter=f0 x:=by rw[Zb1,decide_eq_true cZ,decide_eq_true d'];rfl
     rw[e];exact q ae bV
end
inductive vv{K:Frag}{mg:Str→Option Value}(T:Tp K mg)(vs:List V)(H:Hp)(Q:VK)(E:XK):Prop
 |mk (p:Addr) (x:Str) (aj:HM) (fp:List Addr) (cQ:vs=[.ref p,.str x]) (cH:c2 T H p aj fp) (cI:x.length≤sizeLine) (dz:aj.names.length≤1000) (en:(f0 x=false→∀ae,Ze H ae→E (.ref T.am) none ae)) (eP:(f0 x=true→x∈aj.names→∀ae,Ze H ae→E (.ref T.aw) none ae)) (fx:(f0 x=true→x∉aj.names→30≤aj.names.length→∀ae,Ze H ae→E (.ref T.J) none ae)) (gw:(f0 x=true→x∉aj.names→aj.names.length<30→∀(ae:Hp)(dR:List Addr),c2 T ae p ⟨aj.names++ [x],aj.belts⟩ dR→c_ fp H ae→Vb fp dR H→Q (.int aj.names.length) ae)):vv T vs H Q E
theorem VH{K:Frag}{mg:Str→Option Value}{T:Tp K mg}{H:Hp}{Q:VK}{E:XK}{p:Addr}{x:Str}{aj:HM}{fp:List Addr}(h:c2 T H p aj fp)(bO:f0 x=true)(bo:x∉aj.names)(eg:aj.names.length<30)
  (q:∀(ae:Hp)(dR:List Addr),c2 T ae p ⟨aj.names++ [x],aj.belts⟩ dR→c_ fp H ae→Vb fp dR H→Q (.int aj.names.length) ae):vv T (.ref p::([.str x]++ [])) H Q E:=by
 have Kb:x.length≤sizeLine:=by
  have:x.length≤8:=by
   have e:=bO;unfold f0 at e;simp only[qaR,decide_eq_true_eq] at e;exact e.1.2
  exact qa2 (dj (by omega))
 exact⟨p,x,aj,fp,rfl,h,Kb,by omega,λz=>(by rw[bO] at z;cases z),λ_ z=>absurd z bo,λ_ _ z=>absurd z (by omega),λ_ _ _=>q⟩
section
variable {P:Program}{w:World}{K:Frag}{mg:Str→Option Value}{base:Heap}
theorem si(T:Tp K mg):OkM P w mg base 2 T.x6 (vv T):=by
 have eZ:=T.a;have e0:=T.e;refine T.x6.F.okX AG (λvs H Q E h=>?_) (λcz A outer s H vs Q E bq h=>?_)
 ·obtain⟨p,x,aj,fp,rfl,_⟩:=h
  rfl
 ·have hu:=bq.hu;obtain⟨p,x,aj,fp,rfl,b6,bo,hz,bG,bK,de,q⟩:=h;obtain⟨bx,a,b,bs,rfl,bj,bp,bT,cy,f4,db⟩:=id b6;have iT:p≠a:=fj bj bT (by intro z;cases z);have vw:bx≠a:=fj bp bT (by intro z;cases z);refine⟨_,(bN (dS (hv (gJ (K:=K) rfl (c5 T.x5 (Ka T) bq cp (br (pv 1) bB)) (λ_=>rfl))) (b4 (i7 T.S.g T.S.e qaB rfl (br YF bB))) dX)
     (bN (dS (dg (G8 hu) (pv 1) (eK (K:=K) rfl (pv 0) rfl) (by with_unfolding_all rfl)) (b4 (i7 T.Y.g T.Y.e qaB rfl (br YF bB))) dX)
     (bN (dS (dg o4 (dI Zh7 (by rfl) T.f qap (br (eK (K:=K) rfl (pv 0) rfl) bB)) (qU (v:= .int 30) rfl T.M ⟨_,rfl⟩) (dM _)) (b4 (i7 T.u.g T.u.e qaB rfl (br YF bB))) dX)
     (bN (cB (i:=2) AG.nd rfl (Or.inl rfl) (dI Zh7 (by rfl) T.f qap (br (eK (K:=K) rfl (pv 0) rfl) bB)))
     (bN (h8 (pv 2) (iB (eK (K:=K) rfl (pv 0) rfl) (pv 1) (mM hu)))
     (b4 (c0 (pv 2)))))))),?_⟩
  try dsimp only[L2.cxX,L2.ZN,L2.Zl]
  walk_at "rds";refine⟨x,rfl,bo,λbn h3=>?_⟩;have g1:=h3 _ _ bj;have g3:=h3 _ _ bT;have kU:(numsOf aj.names).length<sizeLine:=dj (by rw[UD];exact hz);walk_at "rds";cases bO:f0 x with
  |false=>
   walk_at "rds";exact bG bO bn h3
  |true=>
   walk_at "rds";rw[ZeU];refine U7 (λc=>?_) (λc=>?_)
   ·walk_at "rds";exact bK bO (of_decide_eq_true c) bn h3
   ·have cZ:x∉aj.names:=λz=>c (decide_eq_true z);walk_at "rds";rw[UD];refine U7 (λd=>?_) (λd=>?_)
    ·have d':30≤aj.names.length:=by simp at d;omega
     walk_at "rds";exact de bO cZ d' bn h3
    ·have d':aj.names.length<30:=by simp at d;omega
     walk_at "rds";rw[UD,Jj cZ];have ej:c_ [p,bx,a,b] H (upd bn a (.dK (numsOf (aj.names++ [x])))):=h3.frame.trans (gl (by simp) g3 (by intro _ z;cases z));refine q bO cZ d' _ [p,bx,a,b] ⟨bx,a,b,bs,rfl,?_,?_,Zd,?_,f4,db.keep ej.tups⟩ ej Vb.refl
     ·rw[b5 iT];exact g1
     ·rw[b5 vw];exact h3 _ _ bp
     ·rw[b5 f4.symm];exact h3 _ _ cy
end
inductive V6{K:Frag}{mg:Str→Option Value}(T:Tp K mg)(vs:List V)(H:Hp)(Q:VK)(cW:XK):Prop
 |mk (i:Int) (cQ:vs=[.int i]) (cH:Q (.bl true) H):V6 T vs H Q cW
theorem Zhj{K:Frag}{mg:Str→Option Value}{T:Tp K mg}{H:Hp}{Q:VK}{E:XK}{i:Int}(q:Q (.bl true) H):V6 T ([.int i]++ []) H Q E:=⟨i,rfl,q⟩
local macro_rules| `(tactic|walk_at "rd")=>`(tactic|first|((with_reducible show Nm.V6 _ _ _ _ _);with_reducible refine Nm.Zhj ?_)|fail "none here")
section
variable {P:Program}{w:World}{K:Frag}{mg:Str→Option Value}{base:Heap}
theorem Kc(T:Tp K mg):OkN P w base 1 T.x7 (V6 T):=by
 refine T.x7.F.okX IN (λvs H Q E h=>?_) (λcz A outer s H vs Q E bq h=>?_)
 ·obtain⟨i,rfl,_⟩:=h
  rfl
 ·have hu:=bq.hu;obtain⟨i,rfl,q⟩:=h;refine⟨_,(b4 (c0 (nB (dI (kP (K:=K) rfl) (by rfl) T.g qaJ (br (pv 0) (br (kr (v:= .ty "int") (by rfl) T.ay PyProof.Rows.boot_int rfl) bB))) (oW (FA (dI (kP (K:=K) rfl) (by rfl) T.g qaJ (br (pv 0) (br (kr (v:= .ty "bool") (by rfl) T.al PyProof.Rows.boot_bool rfl) bB)))))))),?_⟩
  try dsimp only[L2.cxX,L2.ZN,L2.Zl]
  walk_at "rds";exact q
end
inductive Uy{K:Frag}{mg:Str→Option Value}(T:Tp K mg)(vs:List V)(H:Hp)(Q:VK)(cW:XK):Prop
 |mk (i l:Int) (cQ:vs=[.int i,.int l]) (cH:Q (.bl (decide (l≤i))) H):Uy T vs H Q cW
theorem Zim{K:Frag}{mg:Str→Option Value}{T:Tp K mg}{H:Hp}{Q:VK}{E:XK}{i l:Int}(q:Q (.bl (decide (l≤i))) H):Uy T ([.int i,.int l]++ []) H Q E:=⟨i,l,rfl,q⟩
local macro_rules| `(tactic|walk_at "rd")=>`(tactic|first|((with_reducible show Nm.Uy _ _ _ _ _);with_reducible refine Nm.Zim ?_)|fail "none here")
section
variable {P:Program}{w:World}{K:Frag}{mg:Str→Option Value}{base:Heap}
theorem sj(T:Tp K mg):OkN P w base 2 T.x8 (Uy T):=by
 refine T.x8.F.okX IP (λvs H Q E h=>?_) (λcz A outer s H vs Q E bq h=>?_)
 ·obtain⟨i,l,rfl,_⟩:=h
  rfl
 ·have hu:=bq.hu;obtain⟨i,l,rfl,q⟩:=h;refine⟨_,(b4 (c0 (nB (c5 T.x7 (Kc T) bq cp (br (pv 0) bB)) (oW (nH o4 (pv 0) (pv 1) (dM _)))))),?_⟩
  try dsimp only[L2.cxX,L2.ZN,L2.Zl]
  walk_at "rds";exact q
end
inductive BG{K:Frag}{mg:Str→Option Value}(T:Tp K mg)(vs:List V)(H:Hp)(Q:VK)(E:XK):Prop
 |mk (i:Int) (cQ:vs=[.int i]) (cH:(¬0≤i→E (.ref T.F) none H)) (cI:(0≤i→Q .non H)):BG T vs H Q E
section
variable {P:Program}{w:World}{K:Frag}{mg:Str→Option Value}{base:Heap}
theorem BH(T:Tp K mg):OkN P w base 3 T.x9 (BG T):=by
 refine T.x9.F.okX IQ (λvs H Q E h=>?_) (λcz A outer s H vs Q E bq h=>?_)
 ·obtain⟨i,rfl,_⟩:=h
  rfl
 ·have hu:=bq.hu;obtain⟨i,rfl,bG,q⟩:=h;refine⟨_,(b4 (dS (hv (gJ (K:=K) rfl (c5 T.x8 (sj T) bq cp (br (pv 0) (br b0 bB))) (λ_=>rfl))) (b4 (i7 T.y.g T.y.e qaB rfl (br YF bB))) dX)),?_⟩
  try dsimp only[L2.cxX,L2.ZN,L2.Zl]
  walk_at "rds"
  by_cases c:0≤i
  ·rw[decide_eq_true c];walk_at "rds";exact q c
  ·rw[decide_eq_false c];walk_at "rds";exact bG c
end
inductive Wk{K:Frag}{mg:Str→Option Value}(T:Tp K mg)(vs:List V)(H:Hp)(Q:VK)(cW:XK):Prop
 |mk (i b:Int) (cQ:vs=[.int i,.int b]) (cH:Q (.bl (decide (0≤i∧i<b))) H):Wk T vs H Q cW
theorem Zcc{K:Frag}{mg:Str→Option Value}{T:Tp K mg}{H:Hp}{Q:VK}{E:XK}{i b:Int}(q:Q (.bl (decide (0≤i∧i<b))) H):Wk T ([.int i,.int b]++ []) H Q E:=⟨i,b,rfl,q⟩
local macro_rules| `(tactic|walk_at "rd")=>`(tactic|first|((with_reducible show Nm.Wk _ _ _ _ _);with_reducible refine Nm.Zcc ?_)|fail "none here")
section
variable {P:Program}{w:World}{K:Frag}{mg:Str→Option Value}{base:Heap}
theorem vx(T:Tp K mg):OkN P w base 3 T.ap (Wk T):=by
 refine T.ap.F.okX IR (λvs H Q E h=>?_) (λcz A outer s H vs Q E bq h=>?_)
 ·obtain⟨i,b,rfl,_⟩:=h
  rfl
 ·have hu:=bq.hu;obtain⟨i,b,rfl,q⟩:=h;refine⟨_,(b4 (c0 (nB (c5 T.x8 (sj T) bq cp (br (pv 0) (br b0 bB))) (oW (nH qX (pv 0) (pv 1) (dM _)))))),?_⟩
  try dsimp only[L2.cxX,L2.ZN,L2.Zl]
  walk_at "rds";refine U7 (λc=>?_) (λc=>?_)
  ·have cZ:0≤i:=of_decide_eq_true c;walk_at "rds";have e:decide (i<b)=decide (0≤i∧i<b):=by rw[decide_eq_decide];exact⟨λz=>⟨cZ,z⟩,λz=>z.2⟩
   rw[e];exact q
  ·have cZ:¬0≤i:=λz=>c (decide_eq_true z);walk_at "rds";have e:false=decide (0≤i∧i<b):=(decide_eq_false (λz=>cZ z.1)).symm;rw[e];exact q
end
inductive BI{K:Frag}{mg:Str→Option Value}(T:Tp K mg)(vs:List V)(H:Hp)(Q:VK)(E:XK):Prop
 |mk (p:Addr) (i:Int) (aj:HM) (fp:List Addr) (cQ:vs=[.ref p,.int i]) (cH:c2 T H p aj fp) (cI:(¬(0≤i∧i<aj.names.length)→E (.ref T.o) none H)) (dz:(0≤i→i<aj.names.length→Q .non H)):BI T vs H Q E
section
variable {P:Program}{w:World}{K:Frag}{mg:Str→Option Value}{base:Heap}
theorem qa(T:Tp K mg):OkM P w mg base 4 T.aa (BI T):=by
 have eZ:=T.a;have e0:=T.e;refine T.aa.F.okX IS (λvs H Q E h=>?_) (λcz A outer s H vs Q E bq h=>?_)
 ·obtain⟨p,i,aj,fp,rfl,_⟩:=h
  rfl
 ·have hu:=bq.hu;obtain⟨p,i,aj,fp,rfl,b6,bG,q⟩:=h;obtain⟨bx,a,b,bs,rfl,bj,bp,bT,cy,f4,db⟩:=id b6;refine⟨_,(b4 (dS (hv (gJ (K:=K) rfl (c5 T.ap (vx T) bq cp (br (pv 1) (br (dI Zh7 (by rfl) T.f qap (br (eK (K:=K) rfl (pv 0) rfl) bB)) bB))) (λ_=>rfl))) (b4 (i7 T.x.g T.x.e qaB rfl (br YF bB))) dX)),?_⟩
  try dsimp only[L2.cxX,L2.ZN,L2.Zl]
  walk_at "rds";rw[UD]
  by_cases c:0≤i∧i<aj.names.length
  ·rw[decide_eq_true c];walk_at "rds";exact q c.1 c.2
  ·rw[decide_eq_false c];walk_at "rds";exact bG c
end
inductive BJ{K:Frag}{mg:Str→Option Value}(T:Tp K mg)(vs:List V)(H:Hp)(Q:VK)(E:XK):Prop
 |mk (p u:Addr) (b:B5) (aj:HM) (fp:List Addr) (cQ:vs=[.ref p,.ref u]) (cH:c2 T H p aj fp) (cI:H u=some (.tup b.v)) (dz:aj.belts.length≤1000) (en:∀(ae:Hp)(dR:List Addr),c2 T ae p ⟨aj.names,aj.belts++ [b]⟩ dR→c_ fp H ae→Vb fp dR H→Q (.int aj.belts.length) ae):BJ T vs H Q E
section
variable {P:Program}{w:World}{K:Frag}{mg:Str→Option Value}{base:Heap}
theorem BK(T:Tp K mg):OkM P w mg base 1 T.aB (BJ T):=by
 have eZ:=T.a;have e0:=T.e;refine T.aB.F.okX IT (λvs H Q E h=>?_) (λcz A outer s H vs Q E bq h=>?_)
 ·obtain⟨p,u,b,aj,fp,rfl,_⟩:=h
  rfl
 ·have hu:=bq.hu;obtain⟨p,u,b,aj,fp,rfl,b6,fw,hz,q⟩:=h;obtain⟨bx,a,bb,bs,rfl,bj,bp,bT,cy,f4,db⟩:=id b6;have h4:p≠bb:=fj bj cy (by intro z;cases z);have qb:bx≠bb:=fj bp cy (by intro z;cases z);have QS:u≠bb:=fj fw cy (by intro z;cases z);have kU:bs.length<sizeLine:=dj (by rw[db.length];exact hz);have vy:=db.length;refine⟨_,(bN (eo (fr (K:=K) rfl qah qas qat hg (eK (K:=K) rfl (pv 0) rfl) (br (pv 1) bB)))
     (b4 (c0 (cD ym (dI (fa K) (by rfl) T.f qap (br (eK (K:=K) rfl (pv 0) rfl) bB)) b0)))),?_⟩
  try dsimp only[L2.cxX,L2.ZN,L2.Zl]
  walk_at "rds";have k1:(upd H bb (.lst (bs++ [.ref u]))) p=some (.ins T.m bx [("numbers",.ref a),("rows",.ref bb)]):=by rw[b5 h4];exact bj
  have pR:(upd H bb (.lst (bs++ [.ref u]))) bb=some (.lst (bs++ [.ref u])):=Zd;walk_at "rds";have io:((bs++ [V.ref u]).length:Int)-1=aj.belts.length:=by simp[vy]
  rw[io];have ej:c_ [p,bx,a,bb] H (upd H bb (.lst (bs++ [.ref u]))):=gl (by simp) cy (by intro _ z;cases z);refine q _ [p,bx,a,bb] ⟨bx,a,bb,_,rfl,k1,?_,?_,pR,f4,(db.keep ej.tups).snoc (ej.tups _ _ fw)⟩ ej Vb.refl
  ·rw[b5 qb];exact bp
  ·rw[b5 f4];exact bT
end
inductive qc{K:Frag}{mg:Str→Option Value}(T:Tp K mg)(vs:List V)(H:Hp)(Q:VK)(E:XK):Prop
 |mk (p:Addr) (b:B5) (aj:HM) (fp:List Addr) (cQ:vs= .ref p::b.v) (cH:c2 T H p aj fp) (cI:aj.belts.length≤1000) (dz:(¬(0≤b.giver∧b.giver<aj.names.length∧0≤b.taker∧b.taker<aj.names.length)→∀ae,Ze H ae→E (.ref T.o) none ae)) (en:((0≤b.giver∧b.giver<aj.names.length∧0≤b.taker∧b.taker<aj.names.length)→¬(1≤b.give∧1≤b.take∧0≤b.start)→∀ae,Ze H ae→E (.ref T.F) none ae)) (eP:((0≤b.giver∧b.giver<aj.names.length∧0≤b.taker∧b.taker<aj.names.length)→(1≤b.give∧1≤b.take∧0≤b.start)→60≤aj.belts.length→∀ae,Ze H ae→E (.ref T.J) none ae)) (fx:((0≤b.giver∧b.giver<aj.names.length∧0≤b.taker∧b.taker<aj.names.length)→(1≤b.give∧1≤b.take∧0≤b.start)→aj.belts.length<60→∀(ae:Hp)(dR:List Addr),c2 T ae p ⟨aj.names,aj.belts++ [b]⟩ dR→c_ fp H ae→Vb fp dR H→Q (.int aj.belts.length) ae)):qc T vs H Q E
theorem U6{K:Frag}{mg:Str→Option Value}{T:Tp K mg}{H:Hp}{Q:VK}{E:XK}{p:Addr}{g t cX bY st:Int}{aj:HM}{fp:List Addr}(h:c2 T H p aj fp)
  (bj:0≤g) (bp:g<aj.names.length) (bT:0≤t) (cy:t<aj.names.length) (dJ:1≤cX) (db:1≤bY) (iQ:0≤st) (eg:aj.belts.length<60)
  (q:∀(ae:Hp)(dR:List Addr),c2 T ae p ⟨aj.names,aj.belts++ [⟨g,t,cX,bY,st⟩]⟩ dR→c_ fp H ae→Vb fp dR H→Q (.int aj.belts.length) ae):qc T [.ref p,.int g,.int t,.int cX,.int bY,.int st] H Q E:=
 ⟨p,⟨g,t,cX,bY,st⟩,aj,fp,rfl,h,by omega,λz=>absurd ⟨bj,bp,bT,cy⟩ z,λ_ z=>absurd ⟨dJ,db,iQ⟩ z,λ_ _ z=>absurd z (by omega),λ_ _ _=>q⟩
section
variable {P:Program}{w:World}{K:Frag}{mg:Str→Option Value}{base:Heap}
theorem BL(T:Tp K mg):YT P w K mg base (CXX P w) 5 T.p T.q ["self","giver","taker","give","take","start"] (qc T):=by
 have eZ:=T.a;have e0:=T.e;refine T.Q.okX IU (λvs H Q E h=>?_) (λcz A outer s H vs Q E bq h=>?_)
 ·obtain⟨p,b,aj,fp,rfl,_⟩:=h
  rfl
 ·have hu:=bq.hu;obtain⟨p,b,aj,fp,rfl,b6,hz,bG,bK,de,q⟩:=h;obtain⟨bx,a,bb,bs,rfl,bj,bp,bT,cy,f4,db⟩:=id b6;obtain⟨g,t,cX,bY,st⟩:=b;have vy:=db.length;refine⟨_,(bN (eo (fG (pv 0) T.a T.aa (qa T) bq cp (br (pv 1) bB)))
     (bN (eo (fG (pv 0) T.a T.aa (qa T) bq cp (br (pv 2) bB)))
     (bN (dS (PW.pt (hb (hv (gJ (K:=K) rfl (c5 T.x8 (sj T) bq cp (br (pv 3) (br b0 bB))) (λ_=>rfl))) (h7 (hv (gJ (K:=K) rfl (c5 T.x8 (sj T) bq cp (br (pv 4) (br b0 bB))) (λ_=>rfl)))))) (b4 (i7 T.y.g T.y.e qaB rfl (br YF bB))) dX)
     (bN (eo (c5 T.x9 (BH T) bq cp (br (pv 5) bB)))
     (bN (dS (dg o4 (dI (fa K) (by rfl) T.f qap (br (eK (K:=K) rfl (pv 0) rfl) bB)) (qU (v:= .int 60) rfl T.N ⟨_,rfl⟩) (dM _)) (b4 (i7 T.u.g T.u.e qaB rfl (br YF bB))) dX)
     (b4 (c0 (fG (pv 0) T.a T.aB (BK T) bq cp (br (hA (br (pv 1) (br (pv 2) (br (pv 3) (br (pv 4) (br (pv 5) bB)))))) bB))))))))),?_⟩
  try dsimp only[L2.cxX,L2.ZN,L2.Zl]
  dsimp only[B5.v] at*;walk_at "rds";refine⟨p,g,aj,_,rfl,b6,λz=>bG (by omega) H (Ze.refl H),λdL g1=>?_⟩;walk_at "rds";refine⟨p,t,aj,_,rfl,b6,λz=>bG (by omega) H (Ze.refl H),λfL hW=>?_⟩;have ce:0≤g∧g<aj.names.length∧0≤t∧t<aj.names.length:=⟨dL,g1,fL,hW⟩;walk_at "rds"
  by_cases c:1≤cX
  ·rw[decide_eq_true c];walk_at "rds"
   by_cases d:1≤bY
   ·rw[decide_eq_true d];walk_at "rds";refine⟨st,rfl,λz=>bK ce (by omega) H (Ze.refl H),λf=>?_⟩;walk_at "rds";refine Rd.ifD (λl=>?_) (λl=>?_)
    ·walk_at "rds";exact de ce (by omega) (by omega) H (Ze.refl H)
    walk_at "rds";refine⟨by show 5≤sizeLine;decide,λu fw=>?_⟩;have sn:Ze H (upd H u (.tup [.int g,.int t,.int cX,.int bY,.int st])):=cK fw;have lV:=b6.same sn;walk_at "rds";refine⟨p,u,⟨g,t,cX,bY,st⟩,aj,_,rfl,lV,Zd,hz,λae dR e6 ej gr=>?_⟩;refine q ce (by omega) (by omega) ae dR e6 (sn.frame.trans ej) (λx bo=>?_);rcases gr x bo with z|z
    ·exact .inl z
    ·refine .inr ?_;cases e:H x with
     |none=>rfl
     |some o=>rw[sn _ _ e] at z;cases z
   ·rw[decide_eq_false d];walk_at "rds";exact bK ce (by omega) H (Ze.refl H)
  ·rw[decide_eq_false c];walk_at "rds";exact bK ce (by omega) H (Ze.refl H)
end
inductive vz{K:Frag}{mg:Str→Option Value}(T:Tp K mg)(vs:List V)(H:Hp)(Q:VK)(cW:XK):Prop
 |mk (p bx:Addr) (cQ:vs=[.ref p]) (cH:H p=some (.ins T.m bx [])) (cI:H bx=some (.own p)) (dz:∀(ae:Hp)(fp:List Addr),c2 T ae p ⟨[],[]⟩ fp→(∀x∈fp,x=p∨x=bx∨H x=none)→(∀b o,H b=some o→b≠p→ae b=some o)→Q .non ae):vz T vs H Q cW
theorem Zgi{K:Frag}{mg:Str→Option Value}{T:Tp K mg}{H:Hp}{Q:Addr→Hp→Prop}{E:XK}
  (q:∀(p:Addr)(fp:List Addr)(ae:Hp),c2 T ae p ⟨[],[]⟩ fp→(∀x∈fp,H x=none)→Ze H ae→Q p ae):
  ∀x bx,H x=none→H bx=none→bx≠x→vz T (.ref x::([]++ [])) (upd (upd H bx (.own x)) x (.ins T.m bx [])) (λv bv=>v= .non∧Q x bv) E:=by
 intro x bx bo jg ne;refine⟨x,bx,rfl,Zd,by rw[b5 ne,Zd],λae fp b6 bJ bt=>⟨rfl,q x fp ae b6 (λy bR=>?_) (λb o e=>bt b o ?_ (dw e bo))⟩⟩
 ·rcases bJ y bR with rfl|rfl|h
  ·exact bo
  ·exact jg
  ·by_cases bj:y=x
   ·rw[bj];exact bo
   ·by_cases bp:y=bx
    ·rw[bp];exact jg
    ·rw[b5 bj,b5 bp] at h;exact h
 ·rw[b5 (dw e bo),b5 (dw e jg)];exact e
local macro_rules| `(tactic|walk_at "rd")=>`(tactic|first|with_reducible refine Nm.Zgi ?_|fail "none here")
section
variable {P:Program}{w:World}{K:Frag}{mg:Str→Option Value}{base:Heap}
theorem BM(T:Tp K mg):OkI P w mg base 1 T.aC (vz T):=by
 have eZ:=T.a;have e0:=T.e;refine T.aC.F.okX IV (λvs H Q E h=>?_) (λcz A outer s H vs Q E bq h=>?_)
 ·obtain⟨p,bx,rfl,_⟩:=h
  rfl
 ·have hu:=bq.hu;obtain⟨p,bx,rfl,bD,jg,q⟩:=h;refine⟨_,(bN (i8 (K:=K) rfl (pv 0) pe rfl)
     (b4 (i8 (K:=K) rfl (pv 0) (fW bB) rfl))),?_⟩
  try dsimp only[L2.cxX,L2.ZN,L2.Zl]
  walk_at "rds";intro a bF;have iT:p≠a:=dw bD bF;have vw:bx≠a:=dw jg bF;have k9:p≠bx:=fj bD jg (by intro z;cases z);have iv:(upd H a (.dK [])) p=some (.ins T.m bx []):=by rw[b5 iT];exact bD
  walk_at "rds";refine⟨qau _,λb a_=>?_⟩;have jK:H b=none:=by
   by_cases bj:b=p
   ·rw[bj,Zd] at a_;cases a_
   ·by_cases bp:b=a
    ·rw[bp];exact bF
    ·rw[b5 bj,b5 bp] at a_;exact a_
  have h4:p≠b:=dw bD jK;have qb:bx≠b:=dw jg jK;have f4:a≠b:=by
   intro z;rw[←z,b5 iT.symm,Zd] at a_;cases a_
  have pd:(upd (upd (upd H a (.dK [])) p (.ins T.m bx [("numbers",.ref a)])) b (.lst [])) p=some (.ins T.m bx [("numbers",.ref a)]):=by rw[b5 h4,Zd]
  walk_at "rds";refine q _ [p,bx,a,b] ⟨bx,a,b,[],rfl,Zd,?_,?_,?_,f4,.nil⟩ (λx bo=>?_) (λc o e bu=>?_)
  ·rw[b5 k9.symm,b5 qb,b5 k9.symm,b5 vw];exact jg
  ·rw[b5 iT.symm,b5 f4,b5 iT.symm,Zd];rfl
  ·rw[b5 h4.symm,Zd]
  ·simp only[qae,qaG,or_false] at bo;rcases bo with rfl|rfl|rfl|rfl
   ·exact .inl rfl
   ·exact .inr (.inl rfl)
   ·exact .inr (.inr bF)
   ·exact .inr (.inr jK)
  ·rw[b5 bu,b5 (dw e jK),b5 bu,b5 (dw e bF)];exact e
end
inductive BN{K:Frag}{mg:Str→Option Value}(T:Tp K mg)(vs:List V)(H:Hp)(Q:VK)(cW:XK):Prop
 |mk (hX ho:Addr) (b2:List Str) (bs:List V) (ls:List B5) (cQ:vs=[.ref hX,.ref ho]) (cH:SqL K H hX (b2.map V.str)) (cI:(∀n∈b2,f0 n=true)) (dz:b2.Nodup) (en:0<b2.length) (eP:b2.length≤30) (fx:H ho=some (.lst bs)) (gw:ek H bs ls) (j8:(∀l∈ls,Bel b2.length l)) (m_:ls.length≤60) (on:∀(p:Addr)(fp:List Addr)(ae:Hp),c2 T ae p ⟨b2,ls⟩ fp→(∀x∈fp,H x=none)→Ze H ae→Q (.ref p) ae):BN T vs H Q cW
section
variable {P:Program}{w:World}{K:Frag}{mg:Str→Option Value}{base:Heap}
theorem Kd(T:Tp K mg):OkN P w base 6 T.aN (BN T):=by
 have sk:YT P w K mg base (CXX P w) 5 T.p T.q ["self","giver","taker","give","take","start"] (qc T):=(BL T).mono (by decide);have eZ:=T.a;have e0:=T.e;refine T.aN.F.okX lK (λvs H Q E h=>?_) (λcz A outer s H vs Q E bq h=>?_)
 ·obtain⟨hX,ho,b2,bs,ls,rfl,_⟩:=h
  rfl
 ·have hu:=bq.hu;obtain⟨hX,ho,b2,bs,ls,rfl,BO,g_,eE,Bz,fI,ol,c9,Ke,m9,q⟩:=h;have g6:=c9.length;refine⟨_,(bN (cB (i:=2) lK.nd rfl (Or.inl rfl) (y_ T.aC (BM T) bq T.ah cp))
     (bN (eB PassesOwn.leaving rfl (ey (K:=K) rfl (pv 0)) (cG (i:=3) lK.nd rfl (Or.inl rfl)) (b4 (eo (fG (pv 2) T.a T.x6 (si T) bq cp (br (pv 3) bB)))))
     (bN (eB PassesOwn.leaving rfl (ey (K:=K) rfl (pv 1)) (hY (K:=K) (n:=5) rfl rfl (d8 (cG (i:=4) lK.nd rfl (Or.inl rfl)) (d8 (cG (i:=5) lK.nd rfl (Or.inl rfl)) (d8 (cG (i:=6) lK.nd rfl (Or.inl rfl)) (d8 (cG (i:=7) lK.nd rfl (Or.inl rfl)) (d8 (cG (i:=8) lK.nd rfl (Or.inl rfl)) hN)))))) (b4 (eo (qY (pv 2) T.a T.r sk bq T.B .nil cp (br (pv 4) (br (pv 5) (br (pv 6) (br (pv 7) (br (pv 8) bB)))))))))
     (b4 (c0 (pv 2)))))),?_⟩
  try dsimp only[L2.cxX,L2.ZN,L2.Zl]
  walk_at "rds";intro bD fp b7 b6 bJ bV;have vA:=bV.seq BO;walk_at "rds";refine Z5 (ew BO) (λi af ae=>∃dR k0,af=[some (.ref hX),some (.ref ho),some (.ref bD),k0,none,none,none,none,none]∧c2 T ae bD ⟨b2.take i,[]⟩ dR∧Ze H ae∧∀x∈dR,H x=none) ⟨fp,_,rfl,b6,bV,bJ⟩ (λi af ae ⟨_,_,_,_,s,_⟩=>s) ?_ ?_
  ·rintro i af ae hi ⟨dR,k0,rfl,lV,bz,fC⟩;have cs:i<b2.length:=by rw[GE] at hi;exact hi
   have c3:(b2.map V.str).getD i .non= .str b2[i]:=by simp[List.getD,cs]
   rw[c3];walk_at "rds";have kH:b2[i]∉b2.take i:=by
    have bp:=eE;rw[←List.take_append_drop (i+1) b2,qad cs] at bp;exact λz=>(qbz.mp (qbz.mp bp).1).2.2 _ z _ (by simp) rfl
   refine VH lV (g_ _ (GM cs)) kH (by simp;omega) (λbv m7 e6 ej gr=>?_);obtain⟨bU,fl⟩:=VN bz fC ej gr;refine⟨m7,_,rfl,?_,bU,fl⟩;rw[qad cs];exact e6
  ·rintro af ae ⟨dR,k0,rfl,lV,bz,fC⟩;rw[GE,qax] at lV;have nI:=bz _ _ ol;walk_at "rds";refine Z5 (ew (SqL.of ol)) (λi af ae=>∃(dR:List Addr)(a1 a2 a3 a4 a5:Option V),af=[some (.ref hX),some (.ref ho),some (.ref bD),k0,a1,a2,a3,a4,a5]∧c2 T ae bD ⟨b2,ls.take i⟩ dR∧Ze H ae∧∀x∈dR,H x=none)
    ⟨dR,_,_,_,_,_,rfl,lV,bz,fC⟩ (λi af ae ⟨_,_,_,_,_,_,_,_,s,_⟩=>s) ?_ ?_
   ·rintro i af b7 hi ⟨sm,a1,a2,a3,a4,a5,rfl,iU,ca,nX⟩;have cs:i<ls.length:=by omega
    obtain⟨t,fP,eH⟩:=c9.at (GT cs);have cV:bs.getD i .non= .ref t:=by simp[List.getD,fP]
    rw[cV];have bA:=Ke _ (GM cs);have dO:=qad cs;have gQ:=ca _ _ eH;generalize ls[i]=l at*;obtain⟨cm,cY,gV,h9⟩:=bA.rg;obtain⟨cH,dz⟩:=bA.sz;dsimp only[B5.v] at gQ;refine Rd.Vu (.of gQ) rfl ?_;walk_at "rds";refine U6 iU cm (by simp;omega) gV (by simp;omega) cH dz bA.st (by simp;omega) (λb1 Kf vB hQ Kg=>?_);obtain⟨cC,m'⟩:=VN ca nX hQ Kg;refine⟨Kf,_,_,_,_,_,rfl,?_,cC,m'⟩;rw[dO];exact vB
   ·rintro af b7 ⟨sm,a1,a2,a3,a4,a5,rfl,iU,ca,nX⟩;rw[g6,qax] at iU;walk_at "rds";exact q bD sm b7 iU nX ca
end
noncomputable def fQ (n:Nat) (rs ms:List Int) (mn:Int):List Int:=(dm n ms mn).map λw:Nat=>if(w:Int)=mn then(gcdM rs ms:Int) else rs.getD w 0
inductive BP{K:Frag}{mg:Str→Option Value}(T:Tp K mg)(vs:List V)(H:Hp)(Q:VK)(cW:XK):Prop
 |mk (ez b jh g:Addr) (b2:List Str) (bs:List V) (ls:List B5) (rs cx:List Int) (cQ:vs=[.ref ez,.ref b,.ref jh,.ref g]) (cH:SqL K H ez (b2.map V.str)) (cI:SqL K H b bs) (dz:ek H bs ls) (en:SqL K H jh (rs.map V.int)) (eP:rs.length=b2.length) (fx:(∀r∈rs,1≤r∧r≤1000)) (gw:SqL K H g (cx.map V.int)) (j8:Vx b2.length cx) (m_:cx.length≤30) (on:b2.length≤30) (Kh:ls.length≤60) (QT:ZI ls b2.length) (QU:∀(ms:List Int)(mn:Int),ms.Perm cx→ms.Pairwise (· ≤·)→mn∈ms→(∀m∈ms,mn≤m)→∀(t jD bX iw:Addr)(eL:List V)(ae:Hp),Ze H ae→ae t=some (.tup [.ref jD,.ref bX,.ref iw,.int (idxL (cU b2.length ms mn) mn:Nat)])→ae jD=some (.lst (((dm b2.length ms mn).map λw=>b2.getD w "").map V.str))→ae bX=some (.lst eL)→ek ae eL (fc (turnV rs ms) ms (placeN (cU b2.length ms mn) ms mn) ls)→ae iw=some (.lst ((fQ b2.length rs ms mn).map V.int))→Q (.ref t) ae):BP T vs H Q cW
section
variable {P:Program}{w:World}{K:Frag}{mg:Str→Option Value}{base:Heap}
theorem Ki(T:Tp K mg):OkN P w base 2 T.aO (BP T):=by
 refine T.aO.F.okX hl (λvs H Q E h=>?_) (λcz A outer s H vs Q E bq h=>?_)
 ·obtain⟨ez,b,jh,g,b2,bs,ls,rs,cx,rfl,_⟩:=h
  rfl
 ·have hu:=bq.hu;obtain⟨ez,b,jh,g,b2,bs,ls,rs,cx,rfl,iV,a_,c9,vC,eY,lW,bH,hok,oo,QV,Kj,cN,q⟩:=h;have g6:=c9.length;refine⟨_,(bN (cB (i:=4) hl.nd rfl (Or.inr rfl) (dI (zY (K:=K) rfl) (by rfl) T.D qb4 (br (pv 3) bB)))
     (bN (cB (i:=5) hl.nd rfl (Or.inl rfl) b0)
     (bN (eB PassesOwn.leaving rfl (ey (K:=K) rfl (pv 4)) (cG (i:=6) hl.nd rfl (Or.inl rfl)) (b4 (cB (i:=5) hl.nd rfl (Or.inl rfl) (c5 T.x2 (vu T) bq cp (br (pv 5) (br (cw (ixk K) (pv 2) (pv 6) (λ_ _=>rfl)) bB))))))
     (bN (rb (j:=7) rfl (fq (x:="_law_work") (zs:=["_law_members"]) (ix:=[4]) (cu pV) ["_law_names_here","_law_belts","_law_rates","_law_group","_law_members","_law_common_here","_law_work","_law_kept","_law_tied","_law_giver","_law_taker","_law_give","_law_take","_law_start","_law_due"] rfl rfl (by decide+kernel)) (iD rfl T.i (br (dI (fa K) (by rfl) T.f qap (br (pv 0) bB)) bB)) (λck C s H fp=>⟨(cG (i:=0) (show(["_law_work","_law_members"]:List Str).Nodup by decide+kernel) rfl (Or.inl rfl)),(nR (PW.pt (hb (dg (ij (K:=K) rfl hu) (pv 0) (cw (ixk K) (pv 1) b0 (λ_ _=>rfl)) (dM _)) (h7 (dg (rp (K:=K) rfl) (pv 0) (pv 1) (by with_unfolding_all rfl)))))),(pv 0)⟩) hl.nd rfl (Or.inl rfl))
     (bN (cB (i:=8) hl.nd rfl (Or.inl rfl) (fW bB))
     (bN (eB PassesOwn.leaving rfl (ey (K:=K) rfl (pv 1)) (hY (K:=K) (n:=5) rfl rfl (d8 (cG (i:=9) hl.nd rfl (Or.inl rfl)) (d8 (cG (i:=10) hl.nd rfl (Or.inl rfl)) (d8 (cG (i:=11) hl.nd rfl (Or.inl rfl)) (d8 (cG (i:=12) hl.nd rfl (Or.inl rfl)) (d8 (cG (i:=13) hl.nd rfl (Or.inl rfl)) hN)))))) (b4 (dS (PW.pt (hb (dg (rp (K:=K) rfl) (pv 9) (pv 4) (by with_unfolding_all rfl)) (h7 (dg (rp (K:=K) rfl) (pv 10) (pv 4) (by with_unfolding_all rfl))))) (bN (mB (dS (dg (pF (K:=K) rfl) (pv 9) (pv 4) (by with_unfolding_all rfl)) (bN (cB (i:=11) hl.nd rfl (Or.inl rfl) (cD fX (cD gd (pv 11) (cw (ixk K) (pv 2) (pv 9) (λ_ _=>rfl))) (pv 5)))
     (b4 (cB (i:=9) hl.nd rfl (Or.inl rfl) (cw (ixk K) (pv 4) b0 (λ_ _=>rfl))))) dX))
     (bN (mB (dS (dg (pF (K:=K) rfl) (pv 10) (pv 4) (by with_unfolding_all rfl)) (bN (cB (i:=12) hl.nd rfl (Or.inl rfl) (cD fX (cD gd (pv 12) (cw (ixk K) (pv 2) (pv 10) (λ_ _=>rfl))) (pv 5)))
     (b4 (cB (i:=10) hl.nd rfl (Or.inl rfl) (cw (ixk K) (pv 4) b0 (λ_ _=>rfl))))) dX))
     (b4 (eo (fr (K:=K) rfl qah qas qat hg (pv 8) (br (hA (br (fr (K:=K) rfl qah qaY qaZ mZ (pv 7) (br (pv 9) bB)) (br (fr (K:=K) rfl qah qaY qaZ mZ (pv 7) (br (pv 10) bB)) (br (pv 11) (br (pv 12) (br (pv 13) bB)))))) bB)))))) dX)))
     (bN (rb (j:=14) rfl (fq (x:="_law_work") (zs:=["_law_rates"]) (ix:=[2]) (cu pV) ["_law_names_here","_law_belts","_law_rates","_law_group","_law_members","_law_common_here","_law_work","_law_kept","_law_tied","_law_giver","_law_taker","_law_give","_law_take","_law_start","_law_due"] rfl rfl (by decide+kernel)) (ey (K:=K) rfl (pv 7)) (λck C s H fp=>⟨(cG (i:=0) (show(["_law_work","_law_rates"]:List Str).Nodup by decide+kernel) rfl (Or.inl rfl)),gF,(cw (ixk K) (pv 1) (pv 0) (λ_ _=>rfl))⟩) hl.nd rfl (Or.inl rfl))
     (bN (h8 (pv 5) (iB (pv 14) (fr (K:=K) rfl qah qaY qaZ mZ (pv 7) (br (cw (ixk K) (pv 4) b0 (λ_ _=>rfl)) bB)) kF))
     (b4 (c0 (hA (br (jZ rfl (fq (x:="_law_work") (zs:=["_law_names_here"]) (ix:=[0]) (cu pV) ["_law_names_here","_law_belts","_law_rates","_law_group","_law_members","_law_common_here","_law_work","_law_kept","_law_tied","_law_giver","_law_taker","_law_give","_law_take","_law_start","_law_due"] rfl rfl (by decide+kernel)) (ey (K:=K) rfl (pv 7)) (λck C s H fp=>⟨(cG (i:=0) (show(["_law_work","_law_names_here"]:List Str).Nodup by decide+kernel) rfl (Or.inl rfl)),gF,(cw (ixk K) (pv 1) (pv 0) (λ_ _=>rfl))⟩)) (br (pv 8) (br (pv 14) (br (fr (K:=K) rfl qah qaY qaZ mZ (pv 7) (br (cw (ixk K) (pv 4) b0 (λ_ _=>rfl)) bB)) bB))))))))))))))),?_⟩
  try dsimp only[L2.cxX,L2.ZN,L2.Zl]
  walk_at "rds";refine Rd.ZlC bH (by omega) (λiy ms hso fK oq=>?_);have iM:ms.length≤30:=by rw[fK.length_eq];exact oo
  have lX:ms≠[]:=λe=>by rw[e] at fK;exact hok.1 fK.symm.eq_nil
  have fR:∀m∈ms,0≤m∧m<(b2.length:Int):=λm bA=>hok.2.2 m (fK.mem_iff.mp bA);obtain⟨mn,hH,lY,ot⟩:∃mn,mn∈ms∧(∀m∈ms,mn≤m)∧atI (ms.map V.int) 0=some (.int mn):=by
   cases ms with
   |nil=>exact absurd rfl lX
   |cons x xs=>
    refine⟨x,by simp,λm bA=>?_,j4 (ns:=x::xs) (k:=0) (by omega) (by simp)⟩;rcases qae.mp bA with z|z
    ·omega
    ·exact List.rel_of_pairwise_cons oq z
  replace q:=q ms mn fK oq hH lY;have bw:Ze H (upd H iy (.lst (ms.map V.int))):=cK hso;have Kk:(upd H iy (.lst (ms.map V.int))) iy=some (.lst (ms.map V.int)):=Zd;generalize upd H iy (.lst (ms.map V.int))=bn at*;have so:=SqL.of (K:=K) Kk;have Kl:=bw.seq vC;have d6:∀m:Int,0≤m→m<(b2.length:Int)→∃v:Nat,rs.getD m.toNat 0=(v:Int)∧atI (rs.map V.int) m=some (.int (v:Int))∧1≤v∧v≤1000:=λm cd bj=>by
   have bt:m.toNat<rs.length:=by omega
   have bp:=lW _ (GM bt);have bT:=j4 (ns:=rs) cd (by omega);rw[el bt] at bT⊢;exact⟨rs[m.toNat].toNat,by omega,by rw[qaz (by omega)];exact bT,by omega,by omega⟩
  walk_at "rds";refine Z5 (ew so) (λi af ae=>ae=bn∧∃a6,af=[some (.ref ez),some (.ref b),some (.ref jh),some (.ref g),some (.ref iy),some (.int (gcdM rs (ms.take i):Nat)),a6,none,none,none,none,none,none,none,none]) ⟨rfl,_,rfl⟩ (λi af ae h=>h.1▸Ze.refl bn) ?_ ?_
  ·rintro i af ae hi ⟨rfl,a6,rfl⟩;have cs:i<ms.length:=by rw[GE] at hi;exact hi
   have c3:(ms.map V.int).getD i .non=V.int ms[i]:=by simp[List.getD,cs]
   rw[c3];obtain⟨v,fe,iW,hI,vD⟩:=d6 ms[i] (fR _ (GM cs)).1 (fR _ (GM cs)).2;have eF:gcdM rs (ms.take (i+1))=Nat.gcd (gcdM rs (ms.take i)) v:=by rw[qad cs,r7,fe,qab]
   rw[eF];generalize ms[i]=Km at*;walk_at "rds";refine⟨_,v,rfl,?_⟩;walk_at "rds";exact⟨rfl,_,rfl⟩
  rintro af ae ⟨rfl,a6,rfl⟩;rw[GE,qax];have gs:((b2.map V.str).length:Int)=(b2.length:Int):=by simp
  have QW:=bw.seq iV;walk_at "rds";refine Yo WW (dj (by simp;omega)) (λi=>j7 ms mn i) (λi=> .int (i:Int)) (λi ae c4 hi bV k=>?_) (λi ae c4 hi _ bV k=>?_) (λkp bv hkp bU vE=>?_)
  ·have gM:=bV.seq so;rw[qa8];unfold j7 at k;walk_at "rds"
   by_cases hw:(i:Int)=mn
   ·rw[decide_eq_true hw,Bool.true_or] at k;walk_at "rds";exact k ae (Ze.refl ae)
   ·rw[decide_eq_false hw,Bool.false_or] at k;walk_at "rds";exact k ae (Ze.refl ae)
  ·rw[qa8];walk_at "rds";exact k ae (Ze.refl ae)
  have vF:((List.range (((b2.map V.str).length:Nat):Int).toNat).filter λi=>j7 ms mn i).map (λi:Nat=>V.int (i:Int))=(cU b2.length ms mn).map V.int:=by
   unfold cU dm;rw[qab,GE,qa3]
   rfl
  rw[vF] at vE;have fy:=bw.trans bU;have gL:=Zag (n:=b2.length) (ms:=ms) (mn:=mn);have BQ:(cU b2.length ms mn).length=(dm b2.length ms mn).length:=by unfold cU;simp
  have lZ:∀x:Int,0≤x→x<(b2.length:Int)→(if x∈ms then mn else x)∈cU b2.length ms mn:=λx cd bj=>by
   split
   ·exact YV.mpr ⟨fR mn hH,.inl rfl⟩
   ·exact YV.mpr ⟨⟨cd,bj⟩,.inr (by assumption)⟩
  walk_at "rds";refine⟨qau _,λdr BR=>?_⟩;have bS:Ze bv (upd bv dr (.lst [])):=cK BR;have hI:(upd bv dr (.lst [])) dr=some (.lst []):=Zd;generalize upd bv dr (.lst [])=b9 at*;have QX:=(fy.trans bS).seq a_;walk_at "rds";have Kn:=fy.seq a_;have fh:∀x:Int,placeN (cU b2.length ms mn) ms mn x=idxL (cU b2.length ms mn) (if x∈ms then mn else x):=λx=>by unfold placeN;split<;>rfl
  have Ko:∀x∈ms,∀y:Int,y*rs.getD x.toNat 0 / (gcdM rs ms:Int)=y*turnV rs ms x:=λx bo y=>by
   have e:=((vk (λr bq=>(lW r bq).1) (fK.nodup_iff.mpr hok.2.1) lX (by rw[eY];exact fR)).2 x bo).2.2;unfold turnV;exact Int.mul_ediv_assoc _ ⟨turnV rs ms x,by rw[←e,Int.mul_comm]⟩
  have dL:=Zdx (rs:=rs) lX λm bA=>(by obtain⟨v,fe,_,hI,_⟩:=d6 m (fR m bA).1 (fR m bA).2;omega);have g1:(gcdM rs ms:Int)≤1000:=by
   obtain⟨m,bA,h⟩:=ZhZ (rs:=rs) lX λm bA=>(by obtain⟨v,fe,_,hI,_⟩:=d6 m (fR m bA).1 (fR m bA).2;omega);obtain⟨v,fe,_,_,vD⟩:=d6 m (fR m bA).1 (fR m bA).2;omega
  have Kq:0<(gcdM rs ms:Int)∧(gcdM rs ms:Int).natAbs.log2<9000:=⟨by omega,vo (by omega) (by omega)⟩;generalize BS:fQ b2.length rs ms mn=du at q;unfold fQ at BS;generalize QY:turnV rs ms=f at*;generalize gcdM rs ms=gS at*;generalize k_:cU b2.length ms mn=e1 at*;refine Z5 (ew Kn) (λi af ae=>∃(a9 vG vH vI vJ:Option V)(eL:List V),af=[some (.ref ez),some (.ref b),some (.ref jh),some (.ref g),some (.ref iy),some (.int (gS:Nat)),a6,some (.ref kp),some (.ref dr),a9,vG,vH,vI,vJ,none]∧Ze bv ae∧ae dr=some (.lst eL)∧ek ae eL (fc f ms (placeN e1 ms mn) (ls.take i))) ⟨_,_,_,_,_,[],rfl,bS,hI,.nil⟩ (λi af ae h=>(let⟨_,_,_,_,_,_,_,s,_⟩:=h;s)) ?_ ?_
  ·rintro i af b7 hi ⟨a9,vG,vH,vI,vJ,eL,rfl,ca,jq,ou⟩;have cs:i<ls.length:=by omega
   obtain⟨t,dO,b3⟩:=c9.at (GT cs);have c3:bs.getD i .non= .ref t:=by simp[List.getD,dO]
   rw[c3];have gQ:=ca _ _ (fy _ _ b3);dsimp only[B5.v] at gQ;have j9:fc f ms (placeN e1 ms mn) (ls.take (i+1))=fc f ms (placeN e1 ms mn) (ls.take i)++(if inT ms ls[i]=true then[] else[joB f ms (placeN e1 ms mn) ls[i]]):=by
    unfold fc;rw[qad cs,qbQ,qaW]
    congr 1
    by_cases h:inT ms ls[i]=true
    ·rw[if_pos h];simp[h]
    ·rw[if_neg h];simp[h]
   rw[j9];have eu:eL.length<sizeLine:=by
    refine dj ?_;have bj:=ou.length;have bp:(fc f ms (placeN e1 ms mn) (ls.take i)).length≤ls.length:=by
     unfold fc;rw[GE];exact qal (qaK _ _) (by rw[qaO];omega)
    omega
   obtain⟨eb,eT,gP,gv⟩:=cN _ (GM cs);have l0:=ca.seq (bU.seq so);have ff:=ca.seq (bU.seq Kl);have l3:=ca _ _ vE;generalize ls[i]=bb at*;refine Rd.Vu (.of gQ) rfl ?_;walk_at "rds";have BU:∀x y:Int,0≤x→x<(b2.length:Int)→x∈ms→∃v:Int,atI (rs.map V.int) x=some (.int v)∧IntMulOk y v∧y*v / (gS:Int)=y*f x:=λx y cd bj bo=>by
    obtain⟨v,fe,iW,hI,vD⟩:=d6 x cd bj;exact⟨v,iW,.of_right (intBits_le_64 (by omega) (by omega)),by rw[←fe];exact Ko x bo y⟩
   by_cases d5:inT ms bb=true
   ·have bH:bb.giver∈ms∧bb.taker∈ms:=by simpa[inT] using d5
    rw[if_pos d5,qb7,decide_eq_true bH.1,qb6];walk_at "rds";exact⟨_,_,_,_,_,eL,rfl,ca,jq,ou⟩
   rw[if_neg d5]
   by_cases bH:bb.giver∈ms
   case' pos=>
    have b3:bb.taker∉ms:=λz=>d5 (by simp[inT,bH,z]);rw[decide_eq_true bH,qb6];walk_at "rds"
   case' neg=>
    rw[decide_eq_false bH,Bool.not_false];walk_at "rds"
   all_goals
    refine Rd.cut (λbW ae=>b7=ae∧bW=[some (.ref ez),some (.ref b),some (.ref jh),some (.ref g),some (.ref iy),some (.int (gS:Nat)),a6,some (.ref kp),some (.ref dr),some (.int (if bb.giver∈ms then mn else bb.giver)),some (.int bb.taker),some (.int (bb.give*tvJ f ms bb.giver)),some (.int bb.take),some (.int bb.start),none]) ?k1 ?dx
    case dx=>
     by_cases c:bb.giver∈ms
     ·obtain⟨v,fe,iW,hI⟩:=BU bb.giver bb.give eb eT c
      first
       |exact absurd c bH
       |(walk_at "rds"
         unfold tvJ;rw[if_pos c,if_pos c,hI];exact⟨rfl,rfl⟩)
     ·first
       |exact absurd bH c
       |(walk_at "rds"
         unfold tvJ;rw[if_neg c,if_neg c,Int.mul_one];exact⟨rfl,rfl⟩)
    case k1=>
    rintro bW ae ⟨rfl,rfl⟩;refine Rd.cut (λbW ae=>b7=ae∧bW=[some (.ref ez),some (.ref b),some (.ref jh),some (.ref g),some (.ref iy),some (.int (gS:Nat)),a6,some (.ref kp),some (.ref dr),some (.int (if bb.giver∈ms then mn else bb.giver)),some (.int (if bb.taker∈ms then mn else bb.taker)),some (.int (bb.give*tvJ f ms bb.giver)),some (.int (bb.take*tvJ f ms bb.taker)),some (.int bb.start),none]) ?k2 ?eh
    case eh=>
     by_cases c:bb.taker∈ms
     ·obtain⟨v,fe,iW,hI⟩:=BU bb.taker bb.take gP gv c
      first
       |exact absurd c b3
       |(walk_at "rds"
         unfold tvJ;rw[if_pos c,if_pos c,hI];exact⟨rfl,rfl⟩)
     ·first
       |exact absurd b3 c
       |(walk_at "rds"
         unfold tvJ;rw[if_neg c,if_neg c,Int.mul_one];exact⟨rfl,rfl⟩)
    case k2=>
    rintro bW ae ⟨rfl,rfl⟩;obtain⟨dx,eh⟩:=je (lZ _ eb eT);obtain⟨na,ov⟩:=je (lZ _ gP gv);have Kr:joB f ms (placeN e1 ms mn) bb=⟨idxL e1 (if bb.giver∈ms then mn else bb.giver),idxL e1 (if bb.taker∈ms then mn else bb.taker),bb.give*tvJ f ms bb.giver,bb.take*tvJ f ms bb.taker,bb.start⟩:=by unfold joB;rw[fh,fh]
    rw[Kr];generalize (if bb.giver∈ms then mn else bb.giver)=x1 at*;generalize (if bb.taker∈ms then mn else bb.taker)=x2 at*;generalize bb.give*tvJ f ms bb.giver=gh at*;generalize bb.take*tvJ f ms bb.taker=sr at*;walk_at "rds";refine⟨kp,_,x1,_,rfl,rfl,l3,dx,eh,?_⟩;walk_at "rds";refine⟨kp,_,x2,_,rfl,rfl,l3,na,ov,?_⟩;walk_at "rds";refine⟨by show 5≤sizeLine;decide,λu hu=>?_⟩;have cC:Ze b7 (upd b7 u (.tup [V.int (idxL e1 x1:Nat),V.int (idxL e1 x2:Nat),V.int gh,V.int sr,V.int bb.start])):=cK hu;have Ks:(upd b7 u (.tup [V.int (idxL e1 x1:Nat),V.int (idxL e1 x2:Nat),V.int gh,V.int sr,V.int bb.start])) u=some (.tup (B5.v ⟨idxL e1 x1,idxL e1 x2,gh,sr,bb.start⟩)):=Zd;generalize upd b7 u (.tup [V.int (idxL e1 x1:Nat),V.int (idxL e1 x2:Nat),V.int gh,V.int sr,V.int bb.start])=b1 at*;have vK:=cC _ _ jq;walk_at "rds";have dV:c_ [dr] b1 (upd b1 dr (.lst (eL++ [.ref u]))):=gl (by simp) vK (by intro _ z;cases z);exact⟨_,_,_,_,_,eL++ [.ref u],rfl,(ca.trans cC).new BR,Zd,((ou.keep λb xs e=>cC _ _ e).keep dV.tups).snoc (dV.tups _ _ Ks)⟩
  rintro af b7 ⟨a9,vG,vH,vI,vJ,eL,rfl,ca,jq,ou⟩;rw[g6,qax] at ou;have l3:=ca _ _ vE;have Kt:=SqL.of (K:=K) l3;have f5:=fy.trans ca;have ff:=f5.seq vC;have l0:=ca.seq (bU.seq so);have nb:=f5.seq iV;have BV:∀i<(dm b2.length ms mn).length,(e1.map V.int).getD i .non=V.int ((dm b2.length ms mn).getD i 0:Nat)∧(dm b2.length ms mn).getD i 0<b2.length:=λi hi=>by
   rw[←k_];unfold cU;rw[el hi];exact⟨by simp[List.getD,hi],qaw.mp (qaC.mp (GM hi)).1⟩
  walk_at "rds";refine Yo (ew Kt) (dj (by simp;omega)) (λ_=>true) (λi=> .int (rs.getD ((dm b2.length ms mn).getD i 0) 0)) (λi ae c4 hi bV k=>?_) (λi ae c4 hi _ bV k=>?_) (λiw b1 hda cC vL=>?_)
  ·walk_at "rds";exact k ae (Ze.refl ae)
  ·obtain⟨bG,bK⟩:=BV i (by simp at hi;omega);rw[bG];obtain⟨v,fe,iW,hI,vD⟩:=d6 ((dm b2.length ms mn).getD i 0:Nat) (by omega) (by omega);rw[qab] at fe;rw[fe] at k;have j_:=bV.seq ff;walk_at "rds";exact k ae (Ze.refl ae)
  have vM:(e1.map V.int).length=(dm b2.length ms mn).length:=by rw[GE,←k_];unfold cU;simp
  have Ku:((List.range (e1.map V.int).length).filter λ_=>true).map (λi=>V.int (rs.getD ((dm b2.length ms mn).getD i 0) 0))=((dm b2.length ms mn).map λw=>rs.getD w 0).map V.int:=by
   rw[qaA.mpr λ_ _=>rfl,vM];refine qay (by simp) λi bj bp=>?_;have bT:i<(dm b2.length ms mn).length:=by simpa using bj
   simp[List.getD,bT]
  rw[Ku] at vL;have BW:mn∈e1:=by rw[←k_];exact YV.mpr ⟨fR mn hH,.inl rfl⟩
  have vN:=VT BW;obtain⟨dx,eh⟩:=je BW;have Kv:((dm b2.length ms mn).map λw=>rs.getD w 0).set (idxL e1 mn) (gS:Int)=du:=by
   rw[←BS];refine qay (by simp) λi bj bp=>?_;have bT:i<(dm b2.length ms mn).length:=by simpa using bp
   have cy:e1[i]? =some ((dm b2.length ms mn)[i]:Int):=by rw[←k_];unfold cU;simp[bT]
   rw[qbY,qbf,qbf]
   by_cases e:idxL e1 mn=i
   ·rw[if_pos e];rw[e,cy] at dx;rw[if_pos (qan dx)]
   ·rw[if_neg e,if_neg];intro z;rw[z,←dx] at cy;have eE:e1.Nodup:=by rw[←k_];exact r9
    exact e ((List.getElem?_inj vN eE).mp cy.symm)
  have Kw:=cC.seq l0;have vO:=cC _ _ l3;have Kx:=SqL.of (K:=K) vO;have ss:=cC.seq nb;have vK:=cC _ _ jq;generalize idxL e1 mn=ix at*;have QZ:(ix:Int)<((((dm b2.length ms mn).map λw=>rs.getD w 0).map V.int).length:Int):=by
   rw[GE,GE];rw[GE] at vM;omega
  walk_at "rds";refine⟨kp,_,mn,_,rfl,rfl,vO,dx,eh,?_⟩;walk_at "rds";rw[qab,←qbK,Kv];have j':Ze b7 (upd b1 iw (.lst (du.map V.int))):=cC.new hda;have Ky:(upd b1 iw (.lst (du.map V.int))) iw=some (.lst (du.map V.int)):=Zd;have BX:c_ [iw] b1 (upd b1 iw (.lst (du.map V.int))):=gl (by simp) vL (by intro _ z;cases z);have Kz:=(ou.keep λb xs e=>cC _ _ e).keep BX.tups;generalize upd b1 iw (.lst (du.map V.int))=cR at*;clear BX vL cC Kw vO Kx ss vK;have ow:=f5.trans j';have BY:=j' _ _ l3;have BZ:=SqL.of (K:=K) BY;have ka:=j'.seq nb;refine⟨kp,rfl,⟨_,BZ⟩,?_⟩;refine Yo (ew BZ) (dj (by omega)) (λ_=>true) (λi=> .str (b2.getD ((dm b2.length ms mn).getD i 0) "")) (λi ae c4 hi bV k=>?_) (λi ae c4 hi _ bV k=>?_) (λjD dt hca et B0=>?_)
  ·walk_at "rds";exact k ae (Ze.refl ae)
  ·obtain⟨bG,bK⟩:=BV i (by omega);rw[bG];generalize (dm b2.length ms mn).getD i 0=w at*;have Q0:atI (b2.map V.str) (w:Int)=some (.str (b2.getD w "")):=gY (by simp[List.getD,bK]);have gM:=bV.seq ka;walk_at "rds";exact k ae (Ze.refl ae)
  have iO:((List.range (e1.map V.int).length).filter λ_=>true).map (λi=>V.str (b2.getD ((dm b2.length ms mn).getD i 0) ""))=((dm b2.length ms mn).map λw=>b2.getD w "").map V.str:=by
   rw[qaA.mpr λ_ _=>rfl,vM];refine qay (by simp) λi bj bp=>?_;have bT:i<(dm b2.length ms mn).length:=by simpa using bj
   simp[List.getD,bT]
  rw[iO] at B0;have Q1:=(j'.trans et).seq l0;have KA:=et _ _ BY;walk_at "rds";refine⟨kp,_,mn,_,rfl,rfl,KA,dx,eh,?_⟩;walk_at "rds";refine⟨by show 4≤sizeLine;decide,λt b3=>?_⟩;have eV:Ze dt (upd dt t (.tup [.ref jD,.ref dr,.ref iw,.int (ix:Nat)])):=cK b3;have su:=et.trans eV;exact q t jD dr iw eL _ (ow.trans su) Zd (eV _ _ B0) (su _ _ (j' _ _ jq)) (Kz.keep λb xs e=>su _ _ e) (su _ _ Ky)
end
inductive Vm{K:Frag}{mg:Str→Option Value}(T:Tp K mg)(vs:List V)(H:Hp)(Q:VK)(cW:XK):Prop
 |mk (p:Addr) (aj:HM) (fp:List Addr) (cQ:vs=[.ref p]) (cH:c2 T H p aj fp) (cI:∀(q:Addr)(ae:Hp)(bs:List V),H q=none→Ze H ae→ae q=some (.lst bs)→ek ae bs aj.belts→Q (.ref q) ae):Vm T vs H Q cW
theorem Up{K:Frag}{mg:Str→Option Value}{T:Tp K mg}{H:Hp}{Q:VK}{E:XK}{p:Addr}{aj:HM}{fp:List Addr}(h:c2 T H p aj fp)
  (q:∀(q:Addr)(ae:Hp)(bs:List V),H q=none→Ze H ae→ae q=some (.lst bs)→ek ae bs aj.belts→Q (.ref q) ae):Vm T (.ref p::([]++ [])) H Q E:=⟨p,aj,fp,rfl,h,q⟩
local macro_rules| `(tactic|walk_at "rd")=>`(tactic|first|((with_reducible show Nm.Vm _ _ _ _ _);with_reducible refine Nm.Up (by with_reducible assumption) ?_)|fail "none here")
section
variable {P:Program}{w:World}{K:Frag}{mg:Str→Option Value}{base:Heap}
theorem la(T:Tp K mg):OkM P w mg base 1 T.G (Vm T):=by
 have eZ:=T.a;have e0:=T.e;refine T.G.F.okX IW (λvs H Q E h=>?_) (λcz A outer s H vs Q E bq h=>?_)
 ·obtain⟨p,aj,fp,rfl,_⟩:=h
  rfl
 ·have hu:=bq.hu;obtain⟨p,aj,fp,rfl,b6,q⟩:=h;obtain⟨bx,a,b,bs,rfl,bj,bp,bT,cy,f4,db⟩:=id b6;refine⟨_,(b4 (c0 (kE (mL (K:=K) rfl) (by rfl) T.j qaM (br (eK (K:=K) rfl (pv 0) rfl) bB)))),?_⟩
  try dsimp only[L2.cxX,L2.ZN,L2.Zl]
  walk_at "rds";refine Rd.UO (.of cy) (λl e'=>?_);exact q l _ bs e' (cK e') Zd (db.keep ((cK e').frame (A:=[])).tups)
end
inductive B1{K:Frag}{mg:Str→Option Value}(T:Tp K mg)(vs:List V)(H:Hp)(Q:VK)(E:XK):Prop
 |mk (p:Addr) (aj:HM) (fp:List Addr) (cQ:vs=[.ref p]) (cH:c2 T H p aj fp) (cI:∀r ae,H r=none→Ze H ae→ae r=some (.lst (aj.names.map V.str))→Q (.ref r) ae):B1 T vs H Q E
section
variable {P:Program}{w:World}{K:Frag}{mg:Str→Option Value}{base:Heap}
theorem nc(T:Tp K mg):OkM P w mg base 1 T.R (B1 T):=by
 have eZ:=T.a;have e0:=T.e;refine T.R.F.okX IX (λvs H Q E h=>?_) (λcz A outer s H vs Q E bq h=>?_)
 ·obtain⟨p,aj,fp,rfl,_⟩:=h
  rfl
 ·have hu:=bq.hu;obtain⟨p,aj,fp,rfl,b6,q⟩:=h;obtain⟨bx,a,b,bs,rfl,bj,bp,bT,cy,f4,db⟩:=id b6;refine⟨_,(b4 (c0 (kE (y' rfl) (by rfl) T.j qaM (br (eK (K:=K) rfl (pv 0) rfl) bB)))),?_⟩
  try dsimp only[L2.cxX,L2.ZN,L2.Zl]
  walk_at "rds";intro l e';rw[Zc2];exact q l _ e' (cK e') Zd
end
inductive B2{K:Frag}{mg:Str→Option Value}(T:Tp K mg)(vs:List V)(H:Hp)(Q:VK)(cW:XK):Prop
 |mk (p:Addr) (aj:HM) (fp:List Addr) (cQ:vs=[.ref p]) (cH:c2 T H p aj fp) (cI:aj.names.length≤1000) (dz:aj.belts.length≤1000) (en:ZI aj.belts aj.names.length) (eP:∀(r:Addr)(cn:List Addr)(ae:Hp),H r=none→Ze H ae→ZbP ae r cn aj.names.length (ft aj.belts)→Q (.ref r) ae):B2 T vs H Q cW
section
variable {P:Program}{w:World}{K:Frag}{mg:Str→Option Value}{base:Heap}
theorem KC(T:Tp K mg):OkN P w base 2 T.aP (B2 T):=by
 have eZ:=T.a;have e0:=T.e;refine T.aP.F.okX rP (λvs H Q E h=>?_) (λcz A outer s H vs Q E bq h=>?_)
 ·obtain⟨p,aj,fp,rfl,_⟩:=h
  rfl
 ·have hu:=bq.hu;obtain⟨p,aj,fp,rfl,b6,bO,hz,cN,q⟩:=h;refine⟨_,(bN (uv (j:=1) (xs:=["name"]) rfl (fq (x:="name") (zs:=[]) (ix:=[]) (cu uQ) ["hall","ways","belt","row"] rfl rfl (by decide+kernel)) (ey (K:=K) rfl (fH (pv 0) T.a T.R (nc T) bq cp)) (λck C s H fp=>⟨(cG (i:=0) (show(["name"]:List Str).Nodup by decide+kernel) rfl (Or.inl rfl)),gF,(fW bB)⟩) rP.nd rfl (Or.inl rfl))
     (bN (eB PassesOwn.leaving rfl (pI (K:=K) rfl rfl T.k (br (fH (pv 0) T.a T.G (la T) bq cp) bB)) (hY (K:=K) (n:=2) rfl rfl (d8 (cG (i:=2) rP.nd rfl (Or.inl rfl)) (d8 (cG (i:=3) rP.nd rfl (Or.inl rfl)) hN))) (bN (eo (fr (K:=K) rfl qah qas qat hg (cw (ixk K) (pv 1) (cw (ixk K) (pv 3) b0 (λ_ _=>rfl)) (λ_ _=>rfl)) (br (hA (br (cw (ixk K) (pv 3) b0 (λ_ _=>rfl)) (br (pv 2) (br Wa bB)))) bB)))
     (b4 (eo (fr (K:=K) rfl qah qas qat hg (cw (ixk K) (pv 1) (cw (ixk K) (pv 3) b0 (λ_ _=>rfl)) (λ_ _=>rfl)) (br (hA (br (cw (ixk K) (pv 3) b0 (λ_ _=>rfl)) (br (pv 2) (br Wa bB)))) bB))))))
     (b4 (c0 (pv 1))))),?_⟩
  try dsimp only[L2.cxX,L2.ZN,L2.Zl]
  walk_at "rds";refine⟨p,aj,fp,rfl,b6,λnm bn g_ bw vP=>?_⟩;walk_at "rds";refine Zii (own:=1) (ew (SqL.of vP)).y (dj (by rw[GE];exact bO)) (λi=>[some ((aj.names.map V.str).getD i .non)]) (λ_=>rfl) (λi dA ae v bv hD hi bV y KD k=>?_) (λi ae c4 hi bV k=>?_) (λr bv cn bq bU iS cs eE kS=>?_)
  ·obtain⟨rfl,rfl⟩:=y;obtain⟨x1,rfl⟩:∃x1,dA=[x1]:=by
    match dA,KD with
    | [x1],_=>exact⟨x1,rfl⟩
   walk_at "rds";exact k _ (Ze.refl _)
  ·exact k
  rw[GE] at cs;have ji:=bw.trans bU;have e6:=b6.same ji;have fi:H r=none:=eX bw bq;have B3:∀x∈cn,H x=none:=λx bo=>eX bw (kS x bo).1;have B4:∀x∈cn,r≠x:=λx bo z=>(kS x bo).2.1 z.symm;walk_at "rds";intro u b9 bs l4 bS qd c9;have g6:=c9.length;have B6:∀x∈cn,u≠x:=λx bo z=>by
   have:=(kS x bo).2.2;rw[←z,l4] at this;cases this
  walk_at "rds";refine WF (pJ (SqL.of (pE (q:=u) (o:= .lst bs)))) (λk af ae=>∃(a1 a2:Option V),af=[some (.ref p),some (.ref r),a1,a2]∧Ze H ae∧ae u=some (.lst bs)∧ae r=some (.lst (cn.map V.ref))∧ek ae bs aj.belts∧WA ae cn (jH aj.belts k)∧∀(j:Nat)(h:j<cn.length) vs,ae cn[j]=some (.lst vs)→vs.length≤2*k)
   ⟨_,_,rfl,ji.trans bS,qd,bS _ _ iS,c9,λj bC=>⟨[],bS _ _ (kS _ (GM bC)).2.2,.nil⟩,λj bC vs e=>?_⟩ ?_ ?_ ?_
  ·rw[bS _ _ (kS _ (GM bC)).2.2] at e;cases e;exact qau _
  ·rintro k af ae ⟨_,_,_,_,h,_⟩;exact Ui h
  ·rintro k af b7 v b1 bt ⟨a1,a2,rfl,ca,sv,ff,em,qe,hsz⟩ ⟨t,b3,rfl,rfl⟩;have gL:k<aj.belts.length:=by omega
   obtain⟨dL,g1,fL,hW⟩:=cN.at gL;obtain⟨cP,ja,nY⟩:=em.getD gL;rw[ja];refine Rd.Vu (.of Zd) rfl ?_;have cC:Ze b7 (upd b7 t (.tup [.int k,.ref cP])):=cK b3;generalize upd b7 t (.tup [.int k,.ref cP])=b1 at*;have KE:∀j:Int,jH aj.belts (k+1) j=(jH aj.belts k j++(if(aj.belts.getD k dB).giver=j then[((aj.belts.getD k dB).taker,(k:Int),true)] else[]))++(if(aj.belts.getD k dB).taker=j then[((aj.belts.getD k dB).giver,(k:Int),false)] else[]):=λj=>by
    rw[Zhw,m0,List.append_assoc]
   generalize aj.belts.getD k dB=b at*;have B7:=cC _ _ nY;dsimp only[B5.v] at B7;have j_:=cC _ _ ff;have vQ:=qe.same cC;have fS:b.giver.toNat<cn.length:=by omega
   have dP:b.taker.toNat<cn.length:=by omega
   have Q2:=Zeu dL fS;have Q3:=Zeu fL dP;have eF:((b.giver.toNat:Nat):Int)=b.giver:=qaz dL;have dO:((b.taker.toNat:Nat):Int)=b.taker:=qaz fL;obtain⟨vs,ng,vR⟩:=vQ b.giver.toNat fS;have vS:∀(j:Nat)(h:j<cn.length) vs,b1 cn[j]=some (.lst vs)→vs.length≤2*k:=λj bC us e=>by
    obtain⟨B8,bj,_⟩:=qe j bC;have:=cC _ _ bj;rw[e] at this;cases this;exact hsz j bC _ bj
   have Q4:vs.length<sizeLine:=u6 (by have:=vS _ fS _ ng;omega);walk_at "rds";refine⟨by show 3≤sizeLine;decide,λdh eH=>?_⟩;have ef:Ze b1 (upd b1 dh (.tup [.int b.taker,.int k,.bl true])):=cK eH;have vT:(upd b1 dh (.tup [.int b.taker,.int k,.bl true])) dh=some (.tup [.int b.taker,.int k,.bl true]):=Zd;generalize upd b1 dh (.tup [.int b.taker,.int k,.bl true])=cR at*;have B9:=ef _ _ ng;walk_at "rds";have vU:=(vQ.same ef).add eE fS B9 (vR.keep λ_ _ e=>ef _ _ e) (x:=(b.taker,(k:Int),true)) vT;have KG:r≠cn[b.giver.toNat]:=B4 _ (GM fS);have KH:u≠cn[b.giver.toNat]:=B6 _ (GM fS);have nh:(upd cR cn[b.giver.toNat] (.lst (vs++ [.ref dh]))) r=some (.lst (cn.map V.ref)):=by rw[b5 KG];exact ef _ _ j_
   have KI:(upd cR cn[b.giver.toNat] (.lst (vs++ [.ref dh]))) u=some (.lst bs):=by rw[b5 KH];exact ef _ _ (cC _ _ sv)
   have lc:∀c xs,cR c=some (.tup xs)→(upd cR cn[b.giver.toNat] (.lst (vs++ [.ref dh]))) c=some (.tup xs):=λc xs e=>by rw[b5 (fj e B9 (by intro z;cases z))];exact e
   have sw:=lc _ _ (ef _ _ B7);have vV:ek (upd cR cn[b.giver.toNat] (.lst (vs++ [.ref dh]))) bs aj.belts:=((em.keep λ_ _ e=>cC _ _ e).keep λ_ _ e=>ef _ _ e).keep lc;have KJ:Ze H (upd cR cn[b.giver.toNat] (.lst (vs++ [.ref dh]))):=((ca.trans cC).trans ef).new (B3 _ (GM fS));have vW:∀(j:Nat)(h:j<cn.length) us,(upd cR cn[b.giver.toNat] (.lst (vs++ [.ref dh]))) cn[j]=some (.lst us)→us.length≤2*k+1:=λj bC us e=>by
    by_cases z:j=b.giver.toNat
    ·subst z;rw[Zd] at e;cases e;have:=vS _ fS _ ng;simp;omega
    ·have ne:cn[j]≠cn[b.giver.toNat]:=λy=>z (p1 eE bC fS y);rw[b5 ne] at e;obtain⟨B8,bj,_⟩:=vQ j bC;have:=ef _ _ bj;rw[e] at this;cases this;have:=vS j bC _ bj;omega
   generalize upd cR cn[b.giver.toNat] (.lst (vs++ [.ref dh]))=dt at*;obtain⟨us,i_,j1⟩:=vU b.taker.toNat dP;have Q5:us.length<sizeLine:=u6 (by have:=vW _ dP _ i_;omega);walk_at "rds";refine⟨by show 3≤sizeLine;decide,λjb h2=>?_⟩;have eV:Ze dt (upd dt jb (.tup [.int b.giver,.int k,.bl false])):=cK h2;have B_:(upd dt jb (.tup [.int b.giver,.int k,.bl false])) jb=some (.tup [.int b.giver,.int k,.bl false]):=Zd;generalize upd dt jb (.tup [.int b.giver,.int k,.bl false])=eJ at*;have B':=eV _ _ i_;walk_at "rds";have Ca:=(vU.same eV).add eE dP B' (j1.keep λ_ _ e=>eV _ _ e) (x:=(b.giver,(k:Int),false)) B_;have KL:r≠cn[b.taker.toNat]:=B4 _ (GM dP);have KN:u≠cn[b.taker.toNat]:=B6 _ (GM dP);have KO:∀c xs,eJ c=some (.tup xs)→(upd eJ cn[b.taker.toNat] (.lst (us++ [.ref jb]))) c=some (.tup xs):=λc xs e=>by rw[b5 (fj e B' (by intro z;cases z))];exact e
   refine⟨_,_,rfl,(KJ.trans eV).new (B3 _ (GM dP)),by rw[b5 KN];exact eV _ _ KI,by rw[b5 KL];exact eV _ _ nh,(vV.keep λ_ _ e=>eV _ _ e).keep KO,?_,λj bC ce e=>?_⟩
   ·have KP:(λj=>(λj=>jH aj.belts k j++(if((b.giver.toNat:Nat):Int)=j then[(b.taker,(k:Int),true)] else[])) j++(if((b.taker.toNat:Nat):Int)=j then[(b.giver,(k:Int),false)] else[]))=jH aj.belts (k+1):=by
     funext j
     rw[KE j,eF,dO]
    rw[KP] at Ca;exact Ca
   ·by_cases z:j=b.taker.toNat
    ·subst z;rw[Zd] at e;cases e;have:=vW _ dP _ i_;simp;omega
    ·have ne:cn[j]≠cn[b.taker.toNat]:=λy=>z (p1 eE bC dP y);rw[b5 ne] at e;obtain⟨B8,bj,_⟩:=vU j bC;have:=eV _ _ bj;rw[e] at this;cases this;have:=vW j bC _ bj;omega
  ·rintro af b7 ⟨a1,a2,rfl,ca,sv,ff,em,qe,hsz⟩;rw[g6] at qe;walk_at "rds";exact q r cn b7 fi ca ⟨ff,cs,eE,qe⟩
end
inductive Cb{K:Frag}{mg:Str→Option Value}(T:Tp K mg)(vs:List V)(H:Hp)(Q:VK)(cW:XK):Prop
 |mk (r:Addr) (cn:List Addr) (n:Nat) (W:Int→List Fo.Trip) (first:Int) (cQ:vs=[.ref r,.int first]) (cH:ZbP H r cn n W) (cI:n≤1000) (dz:(∀a,∀t∈W a,0≤t.1∧t.1<(n:Int))) (en:0≤first) (eP:first<(n:Int)) (fx:∀(d:Addr)(ae:Hp)(bP:Fo.ZT),H d=none→Ze H ae→Vj ae d bP→Fo.Y2 W first bP→Fo.Ul W bP bP.length→Q (.ref d) ae):Cb T vs H Q cW
section
variable {P:Program}{w:World}{K:Frag}{mg:Str→Option Value}{base:Heap}
theorem KQ(T:Tp K mg):OkN P w base 1 T.aQ (Cb T):=by
 refine T.aQ.F.okX kZ (λvs H Q E h=>?_) (λcz A outer s H vs Q E bq h=>?_)
 ·obtain⟨r,cn,n,W,first,rfl,_⟩:=h
  rfl
 ·have hu:=bq.hu;obtain⟨r,cn,n,W,first,rfl,hw,bO,ox,dG,f1,q⟩:=h;have cs:=hw.len;refine⟨_,(bN (cB (i:=2) kZ.nd rfl (Or.inl rfl) (GC (GA (pv 1) ZaT ZlQ) rfl rfl (by simp) (by decide)))
     (bN (cB (i:=3) kZ.nd rfl (Or.inl rfl) (fW (br (pv 1) bB)))
     (bN (cB (i:=4) kZ.nd rfl (Or.inl rfl) b0)
     (bN (qW PassesOwn.leaving (dg qX (pv 4) (dI (fa K) (by rfl) T.f qap (br (pv 3) bB)) (dM _)) (bN (cB (i:=5) kZ.nd rfl (Or.inl rfl) (cw (ixk K) (pv 3) (pv 4) (λ_ _=>rfl)))
     (bN (FF (i:=4) kZ.nd rfl (Or.inl rfl) b0 yg)
     (b4 (eB PassesOwn.leaving rfl (ey (K:=K) rfl (cw (ixk K) (pv 0) (pv 5) (λ_ _=>rfl))) (hY (K:=K) (n:=3) rfl rfl (d8 (cG (i:=6) kZ.nd rfl (Or.inl rfl)) (d8 (cG (i:=7) kZ.nd rfl (Or.inl rfl)) (d8 (cG (i:=8) kZ.nd rfl (Or.inl rfl)) hN)))) (b4 (dS (dg (pG hu) (pv 6) (pv 2) (by with_unfolding_all rfl)) (bN (h8 (hA (br (pv 5) (br (pv 7) (br (pv 8) bB)))) (iB (pv 2) (pv 6) (mM hu)))
     (b4 (eo (fr (K:=K) rfl qah qas qat hg (pv 3) (br (pv 6) bB))))) dX)))))))
     (b4 (c0 (pv 2))))))),?_⟩
  try dsimp only[L2.cxX,L2.ZN,L2.Zl]
  walk_at "rds";intro d hd;dsimp only[q'];walk_at "rds";refine⟨Zd,[(Sum.inl first,.non)],rfl,by simp,?_⟩;have oy:(upd (upd H d (.dK [])) d (.dK (f' [] [(Sum.inl first,.non)]))) d=some (.dK [(Sum.inl first,.non)]):=Zd;have bw:Ze H (upd (upd H d (.dK [])) d (.dK (f' [] [(Sum.inl first,.non)]))):=(cK hd).new hd;generalize upd (upd H d (.dK [])) d (.dK (f' [] [(Sum.inl first,.non)]))=bn at*;walk_at "rds";refine(λc bu=>?_);have bU:Ze bn (upd bn c (.lst [V.int first])):=cK bu;have nJ:(upd bn c (.lst [V.int first])) c=some (.lst ((Fo.keys [(first,none)]).map V.int)):=Zd;have hT:=bU _ _ oy;have lf:H c=none:=eX bw bu;have Cc:c≠d:=λz=>by rw[z,oy] at bu;cases bu
  generalize upd bn c (.lst [V.int first])=bv at*;have fy:=bw.trans bU;have eH:Vj bv d [(first,none)]:=⟨_,hT,.cons ⟨rfl,rfl⟩ .nil⟩;clear oy hT bw bU bu;walk_at "rds";refine ZdW (λm af ae=>∃(bP:Fo.ZT)(d0:Nat)(a1 a2 a3 a4:Option V),af=[some (.ref r),some (.int first),some (.ref d),some (.ref c),some (.int d0),a1,a2,a3,a4]∧Ze H ae∧Vj ae d bP∧ae c=some (.lst ((Fo.keys bP).map V.int))∧d0≤bP.length∧Fo.Y2 W first bP∧Fo.Ul W bP d0∧m=n+1-d0) (n+1)
   ⟨[(first,none)],0,_,_,_,_,rfl,fy,eH,nJ,qau _,Fo.Zjb,λj w s bC=>absurd bC (qbn _),rfl⟩ ?_
  rintro m af b9 ⟨bP,d0,a1,a2,a3,a4,rfl,bS,h2,qf,oz,bH,jf,rfl⟩;have gL:((Fo.keys bP).map V.int).length=bP.length:=by simp[Fo.keys]
  have vX:bP.length≤n:=by
   have:=Fo.Zca (n:=n) bH.nodup (bH.rg ⟨dG,f1⟩ ox);simpa[Fo.keys] using this
  walk_at "rds";rw[gL];refine Rd.ifD (λz=>?_) (λz=>?_)
  ·have lJ:d0<bP.length:=by omega
   obtain⟨⟨w,st⟩,gD⟩:∃x,bP[d0]? =some x:=⟨bP[d0],GT lJ⟩;have KR:=Fo.Zdj gD;obtain⟨eU,fU⟩:=bH.rg ⟨dG,f1⟩ ox w KR;have h1:atI ((Fo.keys bP).map V.int) (d0:Int)=some (.int w):=gY (by rw[qaj];unfold Fo.keys;rw[qaj,gD];rfl);have iG:w.toNat<cn.length:=by omega
   have Q6:=Zeu eU iG;have vY:=hw.same bS;have KS:=vY.at_;obtain⟨vs,Cd,ng⟩:=hw.wa w.toNat iG;rw[qaz eU] at ng;have vZ:=bS _ _ Cd;have zT:=ng.length;refine ZfM ?_;walk_at "rds";refine⟨_,rfl,?_⟩;walk_at "rds";refine Z5 (ew (SqL.of Cd)) (λj af ae=>∃(bP:Fo.ZT)(a2 a3 a4:Option V),af=[some (.ref r),some (.int first),some (.ref d),some (.ref c),some (.int (d0+1)),some (.int w),a2,a3,a4]∧Ze H ae∧Vj ae d bP∧ae c=some (.lst ((Fo.keys bP).map V.int))∧Fo.Y2 W first bP∧Fo.Ul W bP d0∧bP[d0]? =some (w,st)∧∀t∈(W w).take j,t.1∈Fo.keys bP)
    ⟨bP,_,_,_,rfl,bS,h2,qf,bH,jf,gD,by simp⟩ (λj af ae ⟨_,_,_,_,_,s,_⟩=>s) ?_ ?_
   ·rintro j af b7 bC ⟨bP,a2,a3,a4,rfl,ca,⟨kvs,hq,iX⟩,iY,bH,jf,gD,hall⟩;have i':j<(W w).length:=by omega
    obtain⟨t,fP,gQ⟩:=ng.at (GT i');have cV:vs.getD j .non= .ref t:=by simp[List.getD,fP]
    rw[cV];have jB:(W w)[j]∈W w:=GM i';have gA:(W w).take (j+1)=(W w).take j++ [(W w)[j]]:=qad i';have qg:=ca _ _ gQ;have Q7:=ox w _ jB;generalize (W w)[j]=x at*;obtain⟨o,b,al⟩:=x;refine Rd.Vu (.of qg) rfl ?_;dsimp only at*;have vX:bP.length≤n:=by
     have:=Fo.Zca (n:=n) bH.nodup (bH.rg ⟨dG,f1⟩ ox);simpa[Fo.keys] using this
    have ni:kvs.length<sizeLine:=dj (by rw[iX.length];omega);have Q8:((Fo.keys bP).map V.int).length<sizeLine:=dj (by simp[Fo.keys];omega);walk_at "rds";have hs:=iX.some (w:=o)
    by_cases bI:o∈Fo.keys bP
    ·rw[hs.mpr bI];walk_at "rds";refine⟨bP,_,_,_,rfl,ca,⟨kvs,hq,iX⟩,iY,bH,jf,gD,?_⟩;rw[gA];intro t' r3;rcases qaH.mp r3 with y|y
     ·exact hall t' y
     ·rw[qac.mp y];exact bI
    ·have iE:valV kvs (Sum.inl o)=none:=by
      cases e:valV kvs (Sum.inl o) with
      |none=>rfl
      |some v=>exact absurd (hs.mp (by rw[e];rfl)) bI
     rw[iE,Option.isSome_none];walk_at "rds";refine⟨by show 3≤sizeLine;decide,λdh eH=>?_⟩;have cC:Ze b7 (upd b7 dh (.tup [.int w,.int b,.bl al])):=cK eH;have sx:(upd b7 dh (.tup [.int w,.int b,.bl al])) dh=some (.tup [.int w,.int b,.bl al]):=Zd;have kb:=cC _ _ hq;have sy:=cC _ _ iY;have KU:Ent (upd b7 dh (.tup [.int w,.int b,.bl al])) kvs bP:=iX.keep λ_ _ e=>cC _ _ e;generalize upd b7 dh (.tup [.int w,.int b,.bl al])=b1 at*;walk_at "rds";rw[ZaZ _ iE];have qh:∀a xs,b1 a=some (.tup xs)→(upd b1 d (.dK (kvs++ [(Sum.inl o,.ref dh)]))) a=some (.tup xs):=λa xs e=>by rw[b5 (fj e kb (by intro z;cases z))];exact e
     have v0:(upd b1 d (.dK (kvs++ [(Sum.inl o,.ref dh)]))) c=some (.lst ((Fo.keys bP).map V.int)):=by rw[b5 Cc];exact sy
     have lg:(upd b1 d (.dK (kvs++ [(Sum.inl o,.ref dh)]))) d=some (.dK (kvs++ [(Sum.inl o,.ref dh)])):=Zd;have v1:=(KU.keep qh).snoc (w:=o) (v:= .ref dh) (s:=some (w,b,al)) ⟨dh,rfl,qh _ _ sx⟩;have ef:Ze H (upd b1 d (.dK (kvs++ [(Sum.inl o,.ref dh)]))):=(ca.trans cC).new hd;generalize upd b1 d (.dK (kvs++ [(Sum.inl o,.ref dh)]))=cR at*;walk_at "rds";have Ce:=(FM.mp gD).1;refine⟨bP++ [(o,some (w,b,al))],_,_,_,rfl,ef.new lf,⟨_,by rw[b5 Cc.symm];exact lg,v1.keep λa xs e=>by rw[b5 (fj e v0 (by intro z;cases z))];exact e⟩,?_,bH.snoc gD jB bI,jf.snoc (by omega) _ _,Fo.Zct gD,?_⟩
     ·rw[Zd,Fo.Zao,qaW];rfl
     ·rw[gA,Fo.Zao];intro t' r3;rcases qaH.mp r3 with y|y
      ·exact qbx _ (hall t' y)
      ·rw[qac.mp y];exact qav _ (qac.mpr rfl)
   ·rintro af b7 ⟨bP,a2,a3,a4,rfl,ca,gQ,iY,bH,jf,gD,hall⟩;rw[←zT,qax] at hall;have Ce:=(FM.mp gD).1;walk_at "rds";exact⟨n+1-(d0+1),by omega,bP,d0+1,_,_,_,_,rfl,ca,gQ,iY,Ce,bH,jf.next gD hall,rfl⟩
  ·have e:d0=bP.length:=by omega
   subst e;walk_at "rds";exact q d b9 bP hd bS h2 bH jf
end
inductive Cf{K:Frag}{mg:Str→Option Value}(T:Tp K mg)(vs:List V)(H:Hp)(Q:VK)(cW:XK):Prop
 |mk (p:Addr) (aj:HM) (fp:List Addr) (cQ:vs=[.ref p]) (cH:c2 T H p aj fp) (cI:aj.names.length≤60) (dz:aj.belts.length≤1000) (en:ZI aj.belts aj.names.length) (eP:∀(f:Addr)(cj:List Addr)(ae:Hp)(F:List (Int×Fo.ZT)),H f=none→Ze H ae→ZkI ae f cj F→(∀d∈cj,H d=none)→Fo.Vf (ft aj.belts) aj.names.length F aj.names.length→F.length≤aj.names.length→Q (.ref f) ae):Cf T vs H Q cW
section
variable {P:Program}{w:World}{K:Frag}{mg:Str→Option Value}{base:Heap}
theorem KW(T:Tp K mg):OkN P w base 3 T.aR (Cf T):=by
 refine T.aR.F.okX n9 (λvs H Q E h=>?_) (λcz A outer s H vs Q E bq h=>?_)
 ·obtain⟨p,aj,fp,rfl,_⟩:=h
  rfl
 ·have hu:=bq.hu;obtain⟨p,aj,fp,rfl,b6,bO,hz,cN,q⟩:=h;refine⟨_,(bN (cB (i:=1) n9.nd rfl (Or.inl rfl) (c5 T.aP (KC T) bq cp (br (pv 0) bB)))
     (bN (cB (i:=2) n9.nd rfl (Or.inl rfl) pe)
     (bN (cB (i:=3) n9.nd rfl (Or.inl rfl) (fW bB))
     (bN (eB PassesOwn.leaving rfl (iD rfl T.i (br (dI (fa K) (by rfl) T.f qap (br (pv 1) bB)) bB)) (cG (i:=4) n9.nd rfl (Or.inl rfl)) (b4 (dS (dg (pG hu) (pv 4) (pv 2) (by with_unfolding_all rfl)) (bN (cB (i:=5) n9.nd rfl (Or.inl rfl) (c5 T.aQ (KQ T) bq cp (br (pv 1) (br (pv 4) bB))))
     (bN (eo (fr (K:=K) rfl qbp PySem.F.slot_dict_update PySem.F.type_dict_update Hb (pv 2) (br (pv 5) bB)))
     (b4 (eo (fr (K:=K) rfl qah qas qat hg (pv 3) (br (pv 5) bB)))))) dX)))
     (b4 (c0 (pv 3))))))),?_⟩
  try dsimp only[L2.cxX,L2.ZN,L2.Zl]
  walk_at "rds";refine⟨p,aj,fp,rfl,b6,by omega,hz,cN,λr cn bn bq bw kc=>?_⟩;walk_at "rds";intro gx hse;have bU:Ze bn (upd bn gx (.dK [])):=cK hse;have gX:(upd bn gx (.dK [])) gx=some (.dK []):=Zd;have Q9:H gx=none:=eX bw hse;generalize upd bn gx (.dK [])=bv at*;walk_at "rds";refine⟨qau _,λf bJ=>?_⟩;have bS:Ze bv (upd bv f (.lst [])):=cK bJ;have kd:(upd bv f (.lst [])) f=some (.lst (([]:List Addr).map V.ref)):=Zd;have KX:=bS _ _ gX;have jj:bn f=none:=eX bU bJ;have Cg:H f=none:=eX bw jj;generalize upd bv f (.lst [])=b9 at*;have ke:=bU.trans bS;have vY:=kc.same ke;have KS:=vY.at_;have iG:((cn.map V.ref).length:Int)=(aj.names.length:Int):=by rw[GE,kc.len]
  walk_at "rds";rw[iG];refine Vy (n:=aj.names.length) (λi af ae=>∃(kvs:List (Key×V))(cj:List Addr)(F:List (Int×Fo.ZT))(a1 a2:Option V),af=[some (.ref p),some (.ref r),some (.ref gx),some (.ref f),a1,a2]∧Ze bn ae∧ae gx=some (.dK kvs)∧ae f=some (.lst (cj.map V.ref))∧g7 ae cj F∧
   (∀d∈cj,d≠gx∧H d=none)∧kvs.length≤60*i∧(∀w:Int,(valV kvs (Sum.inl w)).isSome=true↔∃x∈F,w∈Fo.keys x.2)∧Fo.Vf (ft aj.belts) aj.names.length F i∧F.length≤i)
   ⟨[],[],[],_,_,rfl,ke,KX,kd,.nil,by simp,qau _,λw=>⟨λz=>(by cases z),λ⟨x,bo,_⟩=>(by cases bo)⟩,Fo.Zk4,qaa _⟩ ?_ ?_
  ·rintro i af b7 hi ⟨kvs,cj,F,a1,a2,rfl,ca,sA,oG,em,jU,gL,d5,eO,v2⟩;rw[qa8];walk_at "rds";have hs:=d5 (i:Int)
   by_cases bo:∃x∈F,(i:Int)∈Fo.keys x.2
   ·rw[hs.mpr bo];walk_at "rds";exact⟨kvs,cj,F,_,_,rfl,ca,sA,oG,em,jU,by omega,d5,eO.skip bo,by omega⟩
   ·have iE:(valV kvs (Sum.inl (i:Int))).isSome=false:=by
     cases e:(valV kvs (Sum.inl (i:Int))).isSome with
     |false=>rfl
     |true=>exact absurd (hs.mp e) bo
    rw[iE];walk_at "rds";refine⟨r,cn,aj.names.length,ft aj.belts,(i:Int),rfl,kc.same ca,by omega,oa cN,by omega,by omega,λd b1 bP nj cC qg bH jf=>?_⟩;obtain⟨more,kb,iX⟩:=id qg;have v3:gx≠d:=dw sA nj;have sB:=cC _ _ sA;have sC:=cC _ _ oG;have qi:=em.same cC;have KY:=bH.rg (n:=(aj.names.length:Int)) ⟨by omega,by omega⟩ (oa cN);have r2:bP.length≤aj.names.length:=by
     have:=Fo.Zca (n:=aj.names.length) bH.nodup KY;simpa[Fo.keys] using this
    have iM:more.length≤60:=by rw[iX.length];omega
    walk_at "rds";refine⟨.inr (.inr (.inl ⟨rfl,.inl ⟨_,sB⟩⟩)),?_⟩;walk_at "rds";refine Rd.Zo0 v3 sB kb (qa2 (u6 (by omega))) ?_;have KZ:=AT more kvs;have lZ:=ra more kvs;have qh:∀a xs,b1 a=some (.tup xs)→(upd b1 gx (.dK (f' kvs more))) a=some (.tup xs):=λa xs e=>by rw[b5 (fj e sB (by intro z;cases z))];exact e
    have K0:(upd b1 gx (.dK (f' kvs more))) gx=some (.dK (f' kvs more)):=Zd;have Ch:(upd b1 gx (.dK (f' kvs more))) f=some (.lst (cj.map V.ref)):=by rw[b5 (fj sC sB (by intro z;cases z))];exact sC
    have lg:Vj (upd b1 gx (.dK (f' kvs more))) d bP:=⟨more,by rw[b5 v3.symm];exact kb,iX.keep qh⟩;have qj:g7 (upd b1 gx (.dK (f' kvs more))) cj F:=qi.keep qh (λd' hr cl e=>by rw[b5 (jU d' hr).1];exact e);have ef:Ze bn (upd b1 gx (.dK (f' kvs more))):=(ca.trans cC).new hse;generalize upd b1 gx (.dK (f' kvs more))=cR at*;have Ci:(cj.map V.ref).length<sizeLine:=dj (by rw[GE,em.length];omega);walk_at "rds";have lc:∀a xs,cR a=some (.tup xs)→(upd cR f (.lst (cj.map V.ref++ [.ref d]))) a=some (.tup xs):=λa xs e=>by rw[b5 (fj e Ch (by intro z;cases z))];exact e
    have v4:∀a cl,cR a=some (.dK cl)→(upd cR f (.lst (cj.map V.ref++ [.ref d]))) a=some (.dK cl):=λa cl e=>by rw[b5 (fj e Ch (by intro z;cases z))];exact e
    obtain⟨K1,K2,v1⟩:=lg;refine⟨f' kvs more,cj++ [d],F++ [((i:Int),bP)],_,_,rfl,ef.new jj,v4 _ _ K0,by rw[Zd,qaW];rfl,(qj.keep lc λd' _ cl e=>v4 _ _ e).snoc ⟨K1,v4 _ _ K2,v1.keep lc⟩,λd' hr=>?_,by omega,λw=>?_,eO.grow (rY _) (oa cN) hi (λx iN bt=>bo ⟨x,iN,bt⟩) bH jf,by simp;omega⟩
    ·rcases qaH.mp hr with z|z
     ·exact jU d' z
     ·rw[qac.mp z];exact⟨v3.symm,eX (bw.trans ca) nj⟩
    ·rw[KZ,Bool.or_eq_true,d5 w,iX.some]
     constructor
     ·rintro(⟨x,v5,jd⟩|z)
      ·exact⟨x,qbx _ v5,jd⟩
      ·exact⟨_,qav _ (qac.mpr rfl),z⟩
     ·rintro⟨x,v5,jd⟩;rcases qaH.mp v5 with z|z
      ·exact .inl ⟨x,z,jd⟩
      ·rw[qac.mp z] at jd;exact .inr jd
  ·rintro af b7 ⟨kvs,cj,F,a1,a2,rfl,ca,sA,oG,em,jU,gL,d5,eO,v2⟩;walk_at "rds";exact q f cj b7 F Cg (bw.trans ca) ⟨oG,em⟩ (λd hd=>(jU d hd).2) eO v2
end
inductive UC{K:Frag}{mg:Str→Option Value}(T:Tp K mg)(vs:List V)(H:Hp)(Q:VK)(cW:XK):Prop
 |mk (a b:Nat) (cQ:vs=[.int a,.int b]) (cH:Q (.int (Nat.gcd a b:Nat)) H):UC T vs H Q cW
theorem ZiI{K:Frag}{mg:Str→Option Value}{T:Tp K mg}{H:Hp}{Q:VK}{E:XK}{a b:Nat}(q:Q (.int (Nat.gcd a b:Nat)) H):UC T ([.int a,.int b]++ []) H Q E:=⟨a,b,rfl,q⟩
local macro_rules| `(tactic|walk_at "rd")=>`(tactic|first|((with_reducible show Nm.UC _ _ _ _ _);with_reducible refine Nm.ZiI ?_)|fail "none here")
section
variable {P:Program}{w:World}{K:Frag}{mg:Str→Option Value}{base:Heap}
theorem v6(T:Tp K mg):OkN P w base 1 T.aq (UC T):=by
 refine T.aq.F.okX rQ (λvs H Q E h=>?_) (λcz A outer s H vs Q E bq h=>?_)
 ·obtain⟨a,b,rfl,_⟩:=h
  rfl
 ·have hu:=bq.hu;obtain⟨a0,cS,rfl,q⟩:=h;rw[←My.ZdE] at q;refine⟨_,(bN (qW PassesOwn.leaving (dg nG (pv 1) b0 (dM _)) (bN (cB (i:=2) rQ.nd rfl (Or.inl rfl) (cD fV (pv 0) (pv 1)))
     (bN (cB (i:=0) rQ.nd rfl (Or.inl rfl) (pv 1))
     (b4 (cB (i:=1) rQ.nd rfl (Or.inl rfl) (pv 2))))))
     (b4 (c0 (pv 0)))),?_⟩
  try dsimp only[L2.cxX,L2.ZN,L2.Zl]
  walk_at "rd";refine ZdW (λm af ae=>ae=H∧∃(x y:Int)(r:Option V),m=y.toNat∧af=[some (.int x),some (.int y),r]∧0≤x∧0≤y∧My.G x y=My.G a0 cS) _ ⟨rfl,a0,cS,none,rfl,rfl,by omega,by omega,rfl⟩ ?_;rintro m af ae ⟨rfl,x,y,r,rfl,rfl,bo,bR,gN⟩;walk_at "rds";refine U7 (λc=>ZfM ?_) (λc=>?_)
  ·have lS:0<y:=of_decide_eq_true c;walk_at "rds";exact⟨_,(by have:=qbd x (show y≠0 by omega);have:=qbc x lS;omega),rfl,y,x % y,some (.int (x % y)),rfl,rfl,bR,qbd x (by omega),(AN bo lS).trans gN⟩
  ·have lS:¬0<y:=λz=>c (decide_eq_true z);have e:x=My.G a0 cS:=by rw[←gN,My.ZjU bo (show y=0 by omega)]
   walk_at "rds";rw[e];exact q
end
inductive Cj{K:Frag}{mg:Str→Option Value}(T:Tp K mg)(vs:List V)(H:Hp)(Q:VK)(cW:XK):Prop
 |mk (a b:Nat) (cQ:vs=[.int a,.int b]) (cH:0<b) (cI:b<2 ^ 8000) (dz:∀(p:Addr)(ae:Hp),H p=none→Ze H ae→ae p=some (.tup [.int (a / Nat.gcd a b:Nat),.int (b / Nat.gcd a b:Nat)])→Q (.ref p) ae):Cj T vs H Q cW
section
variable {P:Program}{w:World}{K:Frag}{mg:Str→Option Value}{base:Heap}
theorem v7(T:Tp K mg):OkN P w base 2 T.ar (Cj T):=by
 refine T.ar.F.okX AH (λvs H Q E h=>?_) (λcz A outer s H vs Q E bq h=>?_)
 ·obtain⟨a,b,rfl,_⟩:=h
  rfl
 ·have hu:=bq.hu;obtain⟨a,b,rfl,cS,eb,q⟩:=h;have oc:0<Nat.gcd a b:=qb5 _ cS;have fS:Nat.gcd a b<2 ^ 8000:=qaL (qbw cS (qa0 a b)) eb;have K3:=Zkz (a:=a) oc fS;refine⟨_,(bN (cB (i:=2) AH.nd rfl (Or.inl rfl) (c5 T.aq (v6 T) bq cp (br (pv 0) (br (pv 1) bB))))
     (b4 (c0 (hA (br (cD fX (pv 0) (pv 2)) (br (cD fX (pv 1) (pv 2)) bB)))))),?_⟩
  try dsimp only[L2.cxX,L2.ZN,L2.Zl]
  walk_at "rds";refine⟨by show 2≤sizeLine;decide,λp bD=>?_⟩;exact q p _ bD (cK bD) Zd
end
inductive Ck{K:Frag}{mg:Str→Option Value}(T:Tp K mg)(vs:List V)(H:Hp)(Q:VK)(cW:XK):Prop
 |mk (p q:Addr) (x y u v n m:Nat) (cQ:vs=[.ref p,.ref q]) (cH:H p=some (.tup [.int x,.int y])) (cI:H q=some (.tup [.int u,.int v])) (dz:0<y) (en:0<v) (eP:x<2 ^ n) (fx:y<2 ^ n) (gw:u<2 ^ m) (j8:v<2 ^ m) (m_:n+m≤8000) (on:∀(r:Addr)(ae:Hp),H r=none→Ze H ae→ae r=some (.tup [.int (x*u / Nat.gcd (x*u) (y*v):Nat),.int (y*v / Nat.gcd (x*u) (y*v):Nat)])→Q (.ref r) ae):Ck T vs H Q cW
section
variable {P:Program}{w:World}{K:Frag}{mg:Str→Option Value}{base:Heap}
theorem K4(T:Tp K mg):OkN P w base 3 T.aS (Ck T):=by
 refine T.aS.F.okX IY (λvs H Q E h=>?_) (λcz A outer s H vs Q E bq h=>?_)
 ·obtain⟨p,q,x,y,u,v,n,m,rfl,_⟩:=h
  rfl
 ·have hu:=bq.hu;obtain⟨p,q,x,y,u,v,n,m,rfl,bj,bp,j5,lL,xs,ys,us,sD,nm,k⟩:=h;have fu:=Zex xs us (by omega);have fA:=Zex ys sD (by omega);refine⟨_,(b4 (c0 (c5 T.ar (v7 T) bq cp (br (cD gd (cw (ixk K) (pv 0) b0 (λ_ _=>rfl)) (cw (ixk K) (pv 1) b0 (λ_ _=>rfl))) (br (cD gd (cw (ixk K) (pv 0) b0 (λ_ _=>rfl)) (cw (ixk K) (pv 1) b0 (λ_ _=>rfl))) bB))))),?_⟩
  try dsimp only[L2.cxX,L2.ZN,L2.Zl]
  walk_at "rds";exact⟨x*u,y*v,rfl,qcm j5 lL,qag (p2 ys sD) (qaE (by decide) nm),k⟩
end
structure Zoo(b:B5)(cX bY:Nat):Prop where
 g:b.give=(cX:Int)
 t:b.take=(bY:Int)
 dL:0<cX
 fL:0<bY
 fS:cX<2 ^ 110
 dP:bY<2 ^ 110
inductive Cm{K:Frag}{mg:Str→Option Value}(T:Tp K mg)(vs:List V)(H:Hp)(Q:VK)(cW:XK):Prop
 |mk (t:Addr) (b:B5) (al:Bool) (cX bY:Nat) (cQ:vs=[.ref t,.bl al]) (cH:H t=some (.tup b.v)) (cI:Zoo b cX bY) (dz:∀(p:Addr)(ae:Hp)(x y:Nat),H p=none→Ze H ae→ae p=some (.tup [.int x,.int y])→(if al=true then x=cX / Nat.gcd cX bY∧y=bY / Nat.gcd cX bY else x=bY / Nat.gcd bY cX∧y=cX / Nat.gcd bY cX)→Q (.ref p) ae):Cm T vs H Q cW
section
variable {P:Program}{w:World}{K:Frag}{mg:Str→Option Value}{base:Heap}
theorem K5(T:Tp K mg):OkN P w base 3 T.aT (Cm T):=by
 refine T.aT.F.okX IZ (λvs H Q E h=>?_) (λcz A outer s H vs Q E bq h=>?_)
 ·obtain⟨t,b,al,cX,bY,rfl,_⟩:=h
  rfl
 ·have hu:=bq.hu;obtain⟨t,b,al,cX,bY,rfl,b3,sz,q⟩:=h;obtain⟨g,qk,dL,fL,fS,dP⟩:=sz;dsimp only[B5.v] at b3;rw[g,qk] at b3;have big:(2:Nat) ^ 110≤2 ^ 8000:=qaE (by decide) (by decide);refine⟨_,(b4 (c0 (FC (gJ (K:=K) rfl (pv 1) (λ_=>rfl)) (c5 T.ar (v7 T) bq cp (br (cw (ixk K) (pv 0) b0 (λ_ _=>rfl)) (br (cw (ixk K) (pv 0) b0 (λ_ _=>rfl)) bB))) (c5 T.ar (v7 T) bq cp (br (cw (ixk K) (pv 0) b0 (λ_ _=>rfl)) (br (cw (ixk K) (pv 0) b0 (λ_ _=>rfl)) bB)))))),?_⟩
  try dsimp only[L2.cxX,L2.ZN,L2.Zl]
  walk_at "rds";unfold tIf;walk_at "rds";cases al with
  |true=>
   walk_at "rds";exact⟨cX,bY,rfl,fL,qag dP big,λp ae bD s h=>q p ae _ _ bD s h ⟨rfl,rfl⟩⟩
  |false=>
   walk_at "rds";exact⟨bY,cX,rfl,dL,qag fS big,λp ae bD s h=>q p ae _ _ bD s h ⟨rfl,rfl⟩⟩
end
inductive Cn{K:Frag}{mg:Str→Option Value}(T:Tp K mg)(vs:List V)(H:Hp)(Q:VK)(E:XK):Prop
 |mk (p:Addr) (i:Int) (aj:HM) (fp:List Addr) (cQ:vs=[.ref p,.int i]) (cH:c2 T H p aj fp) (cI:(¬(0≤i∧i<aj.belts.length)→E (.ref T.E) none H)) (dz:(0≤i→i<aj.belts.length→Q .non H)):Cn T vs H Q E
section
variable {P:Program}{w:World}{K:Frag}{mg:Str→Option Value}{base:Heap}
theorem Co(T:Tp K mg):OkM P w mg base 4 T.aD (Cn T):=by
 have eZ:=T.a;have e0:=T.e;refine T.aD.F.okX I0 (λvs H Q E h=>?_) (λcz A outer s H vs Q E bq h=>?_)
 ·obtain⟨p,i,aj,fp,rfl,_⟩:=h
  rfl
 ·have hu:=bq.hu;obtain⟨p,i,aj,fp,rfl,b6,bG,q⟩:=h;obtain⟨bx,a,b,bs,rfl,bj,bp,bT,cy,f4,db⟩:=id b6;refine⟨_,(b4 (dS (hv (gJ (K:=K) rfl (c5 T.ap (vx T) bq cp (br (pv 1) (br (dI (fa K) (by rfl) T.f qap (br (eK (K:=K) rfl (pv 0) rfl) bB)) bB))) (λ_=>rfl))) (b4 (i7 T.T.g T.T.e qaB rfl (br YF bB))) dX)),?_⟩
  try dsimp only[L2.cxX,L2.ZN,L2.Zl]
  walk_at "rds";rw[db.length]
  by_cases c:0≤i∧i<aj.belts.length
  ·rw[decide_eq_true c];walk_at "rds";exact q c.1 c.2
  ·rw[decide_eq_false c];walk_at "rds";exact bG c
end
inductive Cp{K:Frag}{mg:Str→Option Value}(T:Tp K mg)(vs:List V)(H:Hp)(Q:VK)(E:XK):Prop
 |mk (p:Addr) (i:Int) (aj:HM) (fp:List Addr) (cQ:vs=[.ref p,.int i]) (cH:c2 T H p aj fp) (cI:(¬(0≤i∧i<aj.belts.length)→E (.ref T.E) none H)) (dz:(0≤i→i<aj.belts.length→∀(t:Addr)(b:B5),aj.belts[i.toNat]? =some b→H t=some (.tup b.v)→Q (.ref t) H)):Cp T vs H Q E
section
variable {P:Program}{w:World}{K:Frag}{mg:Str→Option Value}{base:Heap}
theorem sE(T:Tp K mg):OkM P w mg base 5 T.ak (Cp T):=by
 have eZ:=T.a;have e0:=T.e;refine T.ak.F.okX I1 (λvs H Q E h=>?_) (λcz A outer s H vs Q E bq h=>?_)
 ·obtain⟨p,i,aj,fp,rfl,_⟩:=h
  rfl
 ·have hu:=bq.hu;obtain⟨p,i,aj,fp,rfl,b6,bG,q⟩:=h;obtain⟨bx,a,b,bs,rfl,bj,bp,bT,cy,f4,db⟩:=id b6;refine⟨_,(bN (eo (fG (pv 0) T.a T.aD (Co T) bq cp (br (pv 1) bB)))
     (b4 (c0 (cw (ixk K) (eK (K:=K) rfl (pv 0) rfl) (pv 1) (λ_ _=>rfl))))),?_⟩
  try dsimp only[L2.cxX,L2.ZN,L2.Zl]
  walk_at "rds";refine⟨p,i,aj,_,rfl,b6,bG,λi0 dx=>?_⟩;have hi:i.toNat<aj.belts.length:=by omega
  have gi:=GT hi;obtain⟨t,fP,eH⟩:=db.at gi;have h1:atI bs i=some (.ref t):=by
   have:=gY fP
   rwa [qaz i0] at this
  walk_at "rds";exact q i0 dx t _ gi eH
end
inductive Cq{K:Frag}{mg:Str→Option Value}(T:Tp K mg)(vs:List V)(H:Hp)(Q:VK)(cW:XK):Prop
 |mk (p d:Addr) (aj:HM) (fp:List Addr) (kvs:List (Key×V)) (bP:Fo.ZT) (first:Int) (cQ:vs=[.ref p,.ref d]) (cH:c2 T H p aj fp) (cI:d∉fp) (dz:L2.Rd H d (.dK kvs)) (en:Ent H kvs bP) (eP:Fo.Y2 (ft aj.belts) first bP) (fx:bP.length≤60) (gw:YS aj.belts) (j8:∀(e:Addr)(o:Obj)(ae:Hp)(d7:List (Key×V))(zs:List (Int×(Nat×Nat))),H e=none→Ze (upd H d (.frz o (.dK kvs))) ae→ae e=some (.dK d7)→ShE ae d7 zs→iP aj.belts bP zs bP.length→Q (.ref e) ae):Cq T vs H Q cW
section
variable {P:Program}{w:World}{K:Frag}{mg:Str→Option Value}{base:Heap}
theorem K6(T:Tp K mg):OkN P w base 6 T.aU (Cq T):=by
 have eZ:=T.a;have e0:=T.e;refine T.aU.F.okX rR (λvs H Q E h=>?_) (λcz A outer s H vs Q E bq h=>?_)
 ·obtain⟨p,d,aj,fp,kvs,bP,first,rfl,_⟩:=h
  rfl
 ·have hu:=bq.hu;obtain⟨p,d,aj,fp,kvs,bP,first,rfl,b6,K7,hd,iX,bH,r2,hsz,q⟩:=h;have gL:=iX.length;refine⟨_,(bN (cB (i:=2) rR.nd rfl (Or.inl rfl) pe)
     (bN (eB PassesOwn.leaving rfl (zn (pv 1)) (hY (K:=K) (n:=2) rfl rfl (d8 (cG (i:=3) rR.nd rfl (Or.inl rfl)) (d8 (cG (i:=4) rR.nd rfl (Or.inl rfl)) hN))) (b4 (dS (dg yp (pv 4) ZaT (dM _)) (b4 (h8 (hA (br b0 (br b0 bB))) (iB (pv 2) (pv 3) (mM hu)))) (b4 (h8 (c5 T.aS (K4 T) bq cp (br (cw (rq hu) (pv 2) (cw (ixk K) (pv 4) b0 (λ_ _=>rfl)) (λ_ _=>rfl)) (br (c5 T.aT (K5 T) bq cp (br (fG (pv 0) T.a T.ak (sE T) bq cp (br (cw (ixk K) (pv 4) b0 (λ_ _=>rfl)) bB)) (br (cw (ixk K) (pv 4) b0 (λ_ _=>rfl)) bB))) bB))) (iB (pv 2) (pv 3) (mM hu)))))))
     (b4 (c0 (pv 2))))),?_⟩
  try dsimp only[L2.cxX,L2.ZN,L2.Zl]
  walk_at "rds";intro e bL;have jL:d≠e:=λz=>ZeM hd (by rw[z];exact bL);have bw:Ze H (upd H e (.dK [])):=cK bL;have lU:(upd H e (.dK [])) e=some (.dK []):=Zd;have oy:L2.Rd (upd H e (.dK [])) d (.dK kvs):=by
   rcases hd with h|⟨o,h⟩
   ·exact .inl (bw _ _ h)
   ·exact .inr ⟨o,bw _ _ h⟩
  generalize upd H e (.dK [])=bn at*;walk_at "rds";refine Rd.ZjY ?_;walk_at "rds";refine⟨d,kvs,rfl,oy,λo=>?_⟩;have v8:=p3 (o:=o) hd;have gf:c2 T (upd H d (.frz o (.dK kvs))) p aj fp:=b6.off v8 (λx bo z=>K7 (by rw[←qac.mp z];exact bo));have K8:Ent (upd H d (.frz o (.dK kvs))) kvs bP:=iX.keep v8.tups;have v9:(upd H d (.frz o (.dK kvs))) e=none:=by rw[b5 jL.symm];exact bL
  have bS:Ze (upd H d (.frz o (.dK kvs))) (upd bn d (.frz o (.dK kvs))):=λb x cV=>by
   by_cases z:b=d
   ·rw[z,Zd] at cV⊢;exact cV
   ·rw[b5 z] at cV⊢;exact bw _ _ cV
  have v_:(upd H d (.frz o (.dK kvs))) d=some (.frz o (.dK kvs)):=Zd;have lh:(upd bn d (.frz o (.dK kvs))) e=some (.dK []):=by rw[b5 jL.symm];exact lU
  have K9:=λae d7 zs=>q e o ae d7 zs bL;generalize upd bn d (.frz o (.dK kvs))=b7 at*;generalize upd H d (.frz o (.dK kvs))=b9 at*;clear q oy lU bw v8;refine WF (zo v_) (λi af ae=>∃(d7:List (Key×V))(zs:List (Int×(Nat×Nat)))(a1 a2:Option V),af=[some (.ref p),some (.ref d),some (.ref e),a1,a2]∧Ze b9 ae∧ae e=some (.dK d7)∧ShE ae d7 zs∧iP aj.belts bP zs i∧d7.length≤i)
   ⟨[],[],_,_,rfl,bS,lh,.nil,Jo,qaa _⟩ (λi af ae ⟨_,_,_,_,_,s,_⟩=>s) ?_ ?_
  ·rintro i af b1 v cR hi ⟨d7,zs,a1,a2,rfl,cC,nk,lx,ha,va⟩ ⟨t,kv,iz,b3,rfl,rfl⟩;obtain⟨w,st,ql,eS,hc⟩:=Zm2 K8 iz;have cs:i<bP.length:=(FM.mp ql).1;have u9:=ha.len (qa2 cs);have K_:w∉zs.map (·.1):=by
    rw[ha.keys];intro bA;obtain⟨j,bC,bK⟩:=qao bA;rw[qch] at bK;have i':j<i:=by rw[qaO] at bC;omega
    have K':j<(Fo.keys bP).length:=by rw[qaO] at bC;omega
    have Cr:i<(Fo.keys bP).length:=by simp[Fo.keys];exact cs
    have gi:(Fo.keys bP)[i]=w:=by
     have:(Fo.keys bP)[i]? =some w:=by unfold Fo.keys;rw[qaj,ql];rfl
     rw[GT Cr] at this;exact qan this
    have:=p1 bH.nodup K' Cr (bK.trans gi.symm);omega
   obtain⟨k,val⟩:=kv;dsimp only at eS hc;subst eS;refine Rd.Vu (.of Zd) rfl ?_;have hJ:Ze b1 (upd b1 t (.tup [kV (Sum.inl w),val])):=cK b3;have ef:=cC.trans hJ;have Cs:=hJ _ _ nk;have sF:ShE (upd b1 t (.tup [kV (Sum.inl w),val])) d7 zs:=lx.keep λ_ _ e=>hJ _ _ e;generalize upd b1 t (.tup [kV (Sum.inl w),val])=cR at*;have v':kV (Sum.inl w)= .int w:=rfl;rw[v'];have ni:d7.length<sizeLine:=dj (by omega);have iE:=sF.none K_;walk_at "rds";refine⟨rfl,?_⟩;cases st with
   |none=>
    have c3:val= .non:=hc;subst c3;walk_at "rds";refine⟨by show 2≤sizeLine;decide,λdh eH=>?_⟩;have et:Ze cR (upd cR dh (.tup [.int 1,.int 1])):=cK eH;have iQ:(upd cR dh (.tup [.int 1,.int 1])) dh=some (.tup [.int 1,.int 1]):=Zd;have wb:=et _ _ Cs;have wc:ShE (upd cR dh (.tup [.int 1,.int 1])) d7 zs:=sF.keep λ_ _ e=>et _ _ e;generalize upd cR dh (.tup [.int 1,.int 1])=dt at*;walk_at "rds";rw[ZaZ _ iE];have qm:∀a xs,dt a=some (.tup xs)→(upd dt e (.dK (d7++ [(Sum.inl w,.ref dh)]))) a=some (.tup xs):=λa xs dH=>by rw[b5 (fj dH wb (by intro z;cases z))];exact dH
    refine⟨_,zs++ [(w,(1,1))],_,_,rfl,(ef.trans et).new v9,Zd,(wc.keep qm).snoc (x:=(1,1)) (qm _ _ iQ),ha.more cs ql ⟨by decide,by decide,by decide⟩ ⟨?_,?_⟩ (λ_=>rfl) (λp b al z=>by cases z),by simp;omega⟩
    ·exact qag (by decide:(1:Nat)<2 ^ 1) (qaE (by decide) (by omega))
    ·exact qag (by decide:(1:Nat)<2 ^ 1) (qaE (by decide) (by omega))
   |some x=>
    obtain⟨sG,b,al⟩:=x;obtain⟨dh,c3,eH⟩:=hc;subst c3;have vT:=ef _ _ eH;obtain⟨La,j,Q_,bC,Lb⟩:=bH.steps i w sG b al ql;have fK:sG∈zs.map (·.1):=by
     rw[ha.keys];have bt:(Fo.keys bP)[j]? =some sG:=by unfold Fo.keys;rw[qaj,Lb];rfl
     have:((Fo.keys bP).take i)[j]? =some sG:=by rw[List.getElem?_take,if_pos bC];exact bt
     exact qar this
    obtain⟨y,ty,Ct,zB,ie⟩:=sF.get fK;obtain⟨sH,wd⟩:=qbb Ct;have i':=(FM.mp wd).1;obtain⟨j5,gh,od⟩:=ha.pos _ Ct;obtain⟨sI,nl⟩:=ha.size sH _ wd;obtain⟨bi,r1,qn⟩:=VU La;have cV:b=(bi:Int):=by
     rw[YU] at qn;rcases qn with⟨_,z⟩|⟨_,z⟩<;>(injection z with _ cI;injection cI)
    obtain⟨cX,bY,dL,fL,fS,dP,eF,dO⟩:=hsz bi r1;have oH:=gf.same ef;have Lc:decide (V.ref dh=V.non)=false:=decide_eq_false (by intro z;cases z);rw[Lc];walk_at "rds";refine⟨p,b,aj,fp,rfl,oH,λz=>absurd ⟨by omega,by omega⟩ z,λ_ _ cP B gE Ld=>?_⟩;have oj:aj.belts.getD bi dB=B:=by
     rw[cV,qab] at gE;simp[List.getD,gE]
    rw[oj] at eF dO;walk_at "rds";refine⟨cP,B,al,cX,bY,rfl,Ld,⟨eF,dO,dL,fL,fS,dP⟩,λjb dt u v h2 et iQ nn=>?_⟩;have bO:110*sH+1+110≤110*i+1:=by omega
    have Le:∃Lf G2 M,Lf=Nat.gcd M G2∧True:=⟨_,0,0,rfl,trivial⟩;have eW:∃l5 f8:Nat,0<l5∧0<f8∧l5<2 ^ 110∧f8<2 ^ 110∧u=l5 / Nat.gcd l5 f8∧v=f8 / Nat.gcd l5 f8∧(∀x:Nat×Nat,x.1*y.2*f8=y.1*x.2*l5→Bal B al x y):=by
     cases al with
     |true=>
      rw[if_pos rfl] at nn;refine⟨cX,bY,dL,fL,fS,dP,nn.1,nn.2,λx bo=>?_⟩;unfold Bal;rw[if_pos rfl,eF,dO,qab,qab];exact bo
     |false=>
      rw[if_neg (by decide)] at nn;refine⟨bY,cX,fL,dL,dP,fS,nn.1,nn.2,λx bo=>?_⟩;unfold Bal;rw[if_neg (by decide),eF,dO,qab,qab];exact bo
    clear nn Le;obtain⟨l5,f8,Cu,Cv,Cw,Cy,sJ,c3,jI⟩:=eW;have Lg:u<2 ^ 110:=by rw[sJ];exact qaL (qa4 _ _) Cw
    have fo:v<2 ^ 110:=by rw[c3];exact qaL (qa4 _ _) Cy
    have lL:0<v:=by
     rw[c3];exact qcn (qbw Cv (qa0 _ _)) (qbA _ Cu)
    walk_at "rds";refine⟨ty,jb,y.1,y.2,u,v,110*sH+1,110,rfl,et _ _ ie,iQ,gh,lL,sI,nl,Lg,fo,by omega,λLh eJ gQ eV m6=>?_⟩;obtain⟨bD,ja,Li,Lj⟩:=ZiA (y:=y) (u:=(u,v)) (x:=(y.1*u / Nat.gcd (y.1*u) (y.2*v),y.2*v / Nat.gcd (y.1*u) (y.2*v))) (n:=0) j5 gh Cu Cv sJ c3 rfl rfl rfl;have we:=et.trans eV;have sK:=we _ _ Cs;have qo:ShE eJ d7 zs:=sF.keep λ_ _ e=>we _ _ e;walk_at "rds";rw[ZaZ _ iE];have qm:∀a xs,eJ a=some (.tup xs)→(upd eJ e (.dK (d7++ [(Sum.inl w,.ref Lh)]))) a=some (.tup xs):=λa xs dH=>by rw[b5 (fj dH sK (by intro z;cases z))];exact dH
    have Lk:y.1*l5<2 ^ (110*i+1):=qag (p2 sI Cw) (qaE (by decide) bO);have Ll:y.2*f8<2 ^ (110*i+1):=qag (p2 nl Cy) (qaE (by decide) bO);refine⟨_,zs++ [(w,(y.1*u / Nat.gcd (y.1*u) (y.2*v),y.2*v / Nat.gcd (y.1*u) (y.2*v)))],_,_,rfl,(ef.trans we).new v9,Zd,(qo.keep qm).snoc (qm _ _ m6),ha.more cs ql bD ⟨qaL Li Lk,qaL Lj Ll⟩ (λz=>by cases z) (λgW kG al' z=>?_),by simp;omega⟩;cases z;refine⟨sH,y,wd,?_⟩;rw[cV,qab,oj];exact jI _ ja
  ·rintro af b1 ⟨d7,zs,a1,a2,rfl,cC,nk,lx,ha,va⟩;rw[gL] at ha;walk_at "rds";exact K9 b1 d7 zs cC nk lx ha
end
inductive Cz{K:Frag}{mg:Str→Option Value}(T:Tp K mg)(vs:List V)(H:Hp)(Q:VK)(cW:XK):Prop
 |mk (a b n:Nat) (cQ:vs=[.int a,.int b]) (cH:0<b) (cI:b<2 ^ 8000) (dz:a<2 ^ n) (en:n≤1000000) (eP:Q (.int (a / Nat.gcd a b*b:Nat)) H):Cz T vs H Q cW
section
variable {P:Program}{w:World}{K:Frag}{mg:Str→Option Value}{base:Heap}
theorem Lm(T:Tp K mg):OkN P w base 2 T.aV (Cz T):=by
 refine T.aV.F.okX I2 (λvs H Q E h=>?_) (λcz A outer s H vs Q E bq h=>?_)
 ·obtain⟨a,b,n,rfl,_⟩:=h
  rfl
 ·have hu:=bq.hu;obtain⟨a,b,n,rfl,cS,eb,bO,ia,q⟩:=h;have oc:0<Nat.gcd a b:=qb5 _ cS;have fS:Nat.gcd a b<2 ^ 8000:=qaL (qbw cS (qa0 a b)) eb;have K3:=Zkz (a:=a) oc fS;have iw:a / Nat.gcd a b<2 ^ n:=qaL (qa4 _ _) bO;have Bp:IntMulOk ((a:Int) / (Nat.gcd a b:Nat)) (b:Int):=Zex (a:=a / Nat.gcd a b) iw eb (by omega);refine⟨_,(b4 (c0 (cD gd (cD fX (pv 0) (c5 T.aq (v6 T) bq cp (br (pv 0) (br (pv 1) bB)))) (pv 1)))),?_⟩
  try dsimp only[L2.cxX,L2.ZN,L2.Zl]
  walk_at "rds";exact q
end
inductive CA{K:Frag}{mg:Str→Option Value}(T:Tp K mg)(vs:List V)(H:Hp)(Q:VK)(cW:XK):Prop
 |mk (p f:Addr) (aj:HM) (fp cj:List Addr) (F:List (Int×Fo.ZT)) (cQ:vs=[.ref p,.ref f]) (cH:c2 T H p aj fp) (cI:H f=some (.lst (cj.map V.ref))) (dz:Y7 H cj F) (en:(∀d∈cj,d∉fp)) (eP:(∀d∈cj,d≠f)) (fx:Fo.Vf (ft aj.belts) aj.names.length F aj.names.length) (gw:ZI aj.belts aj.names.length) (j8:aj.names.length≤60) (m_:YS aj.belts) (on:∀(r:Addr)(ae:Hp)(rs:List Int),H r=none→c_ cj H ae→Y7 ae cj F→ae r=some (.lst (rs.map V.int))→rs.length=aj.names.length→(∀x∈F,m2 aj.belts x rs)→Q (.ref r) ae):CA T vs H Q cW
section
variable {P:Program}{w:World}{K:Frag}{mg:Str→Option Value}{base:Heap}
theorem Ln(T:Tp K mg):OkN P w base 7 T.aW (CA T):=by
 have eZ:=T.a;have e0:=T.e;refine T.aW.F.okX k4 (λvs H Q E h=>?_) (λcz A outer s H vs Q E bq h=>?_)
 ·obtain⟨p,f,aj,fp,cj,F,rfl,_⟩:=h
  rfl
 ·have hu:=bq.hu;obtain⟨p,f,aj,fp,cj,F,rfl,b6,bJ,c9,iH,oz,eO,cN,bO,hsz,q⟩:=h;have lJ:=c9.length;refine⟨_,(bN (rb (j:=2) rfl (fq (x:="name") (zs:=[]) (ix:=[]) (cu uR) ["hall","forest","rates","tree","shares","common","share","work"] rfl rfl (by decide+kernel)) (ey (K:=K) rfl (fH (pv 0) T.a T.R (nc T) bq cp)) (λck C s H fp=>⟨(cG (i:=0) (show(["name"]:List Str).Nodup by decide+kernel) rfl (Or.inl rfl)),gF,b0⟩) k4.nd rfl (Or.inl rfl))
     (bN (eB PassesOwn.leaving rfl (ey (K:=K) rfl (pv 1)) (cG (i:=3) k4.nd rfl (Or.inl rfl)) (bN (cB (i:=4) k4.nd rfl (Or.inl rfl) (c5 T.aU (K6 T) bq cp (br (pv 0) (br (pv 3) bB))))
     (bN (cB (i:=5) k4.nd rfl (Or.inl rfl) b0)
     (bN (eB PassesOwn.leaving rfl (Hh (pv 4)) (cG (i:=6) k4.nd rfl (Or.inl rfl)) (b4 (cB (i:=5) k4.nd rfl (Or.inl rfl) (c5 T.aV (Lm T) bq cp (br (pv 5) (br (cw (ixk K) (pv 6) b0 (λ_ _=>rfl)) bB))))))
     (b4 (eB PassesOwn.leaving rfl (zn (pv 4)) (hY (K:=K) (n:=2) rfl rfl (d8 (cG (i:=7) k4.nd rfl (Or.inl rfl)) (d8 (cG (i:=6) k4.nd rfl (Or.inl rfl)) hN))) (b4 (h8 (cD gd (cD fX (pv 5) (cw (ixk K) (pv 6) b0 (λ_ _=>rfl))) (cw (ixk K) (pv 6) b0 (λ_ _=>rfl))) (iB (pv 2) (pv 7) kF)))))))))
     (b4 (c0 (pv 2))))),?_⟩
  try dsimp only[L2.cxX,L2.ZN,L2.Zl]
  walk_at "rds";refine⟨p,aj,fp,rfl,b6,λnm bn g_ bw vP=>?_⟩;walk_at "rds";refine Yo (ew (SqL.of vP)) (dj (by rw[GE];omega)) (λ_=>true) (λ_=> .int 1) (λi ae c4 hi bV k=>?_) (λi ae c4 hi _ bV k=>?_) (λr bv bq bU iS=>?_)
  ·walk_at "rds";exact k ae (Ze.refl ae)
  ·walk_at "rds";exact k ae (Ze.refl ae)
  have hp:bv r=some (.lst ((List.replicate aj.names.length (1:Int)).map V.int)):=by
   rw[iS,qaA.mpr (by simp),GE];refine congrArg (λz=>some (HO.lst z)) ?_;refine qay (by simp) λi bj bp=>?_;simp
  clear iS;have ji:=bw.trans bU;have fi:H r=none:=eX bw bq;have oI:=ji _ _ bJ;have tQ:∀d∈cj,r≠d:=λd hd z=>by
   obtain⟨i,hi,rfl⟩:=qao hd;obtain⟨x,_,kvs,a,_⟩:=Paired.get' c9 (GT hi);exact ZeM a (by rw[←z];exact fi)
  have Lo:f≠r:=dw bJ fi;walk_at "rds";refine Z5 (ew (SqL.of (pE (q:=f) (o:= .lst (cj.map V.ref))))) (λi af ae=>∃(rs:List Int)(a1 a2 a3 a4 a5:Option V),af=[some (.ref p),some (.ref f),some (.ref r),a1,a2,a3,a4,a5]∧c_ cj H ae∧Y7 ae cj F∧ae f=some (.lst (cj.map V.ref))∧ae r=some (.lst (rs.map V.int))∧rs.length=aj.names.length∧∀(k:Nat) x,k<i→F[k]? =some x→m2 aj.belts x rs)
   ⟨_,_,_,_,_,_,rfl,ji.frame,c9.same ji,oI,hp,by simp,λk x bt=>absurd bt (qbn _)⟩ ?_ ?_ ?_
  ·rintro i af ae ⟨_,_,_,_,_,_,_,_,_,h,_⟩;exact Ui h
  ·rintro i af b9 hi ⟨rs,a1,a2,a3,a4,a5,rfl,jS,hK,kd,hp,eY,fM⟩;have dN:i<cj.length:=by simpa using hi
   have gi:(cj.map V.ref).getD i .non= .ref cj[i]:=by simp[List.getD,dN]
   rw[gi];obtain⟨x,bo,kvs,hd,iX⟩:=Paired.get' hK (GT dN);have wf:=GM dN;generalize cj[i]=d at*;obtain⟨g,u',dL,g1⟩:=eO.tree x (qar bo);have wg:=g.rg ⟨dL,g1⟩ (oa cN);have r2:x.2.length≤60:=by
    have:=Fo.Zca (n:=aj.names.length) g.nodup wg;simp[Fo.keys] at this;omega
   have gf:=b6.off jS (λy bR z=>iH y z bR);walk_at "rds";refine⟨p,d,aj,fp,kvs,x.2,x.1,rfl,gf,iH d wf,hd,iX,g,r2,hsz,λe o b7 d7 zs bL ca lh lx ha=>?_⟩;have qp:c_ cj H b7:=jS.trans (((p3 (o:=o) hd).mono (by intro y bR;rw[qac.mp bR];exact wf)).trans ca.frame);have em:=(hK.frz (o:=o) hd).same ca;have oG:b7 f=some (.lst (cj.map V.ref)):=qp.keep _ _ bJ (λz=>oz f z rfl);have Lp:=tQ d wf;have ff:b7 r=some (.lst (rs.map V.int)):=ca _ _ (by rw[b5 Lp];exact hp);have wh:∀d'∈cj,e≠d':=λd' hr z=>by
    obtain⟨j,bC,rfl⟩:=qao hr;obtain⟨e5,_,k',a,_⟩:=Paired.get' hK (GT bC);exact ZeM a (by rw[←z];exact bL)
   have qq:r≠e:=λz=>by rw[z,bL] at hp;cases hp
   have CB:f≠e:=λz=>by rw[z,bL] at kd;cases kd
   have qr:H e=none:=by
    cases ee:H e with
    |none=>rfl
    |some cq=>
     by_cases z:e∈cj
     ·exact absurd rfl (wh e z)
     ·rw[jS.keep _ _ ee z] at bL;cases bL
   have u9:=ha.len (qaa _);have gL:=lx.length;walk_at "rds";refine Rd.ZnX ?_;walk_at "rds";refine⟨e,d7,rfl,.inl lh,λg5=>?_⟩;have nk:(upd b7 e (.frz g5 (.dK d7))) e=some (.frz g5 (.dK d7)):=Zd;have wi:∀a xs,b7 a=some (.tup xs)→(upd b7 e (.frz g5 (.dK d7))) a=some (.tup xs):=(p3 (o:=g5) (.inl lh)).tups;have CC:=lx.keep wi;have j_:(upd b7 e (.frz g5 (.dK d7))) r=some (.lst (rs.map V.int)):=by rw[b5 qq];exact ff
   have sC:(upd b7 e (.frz g5 (.dK d7))) f=some (.lst (cj.map V.ref)):=by rw[b5 CB];exact oG
   have hQ:c_ cj H (upd b7 e (.frz g5 (.dK d7))):=⟨λb y cV n=>by rw[b5 (λz=>by rw[z,qr] at cV;cases cV)];exact qp.keep _ _ cV n,λb xs cV=>wi _ _ (qp.tups _ _ cV)⟩;have qi:Y7 (upd b7 e (.frz g5 (.dK d7))) cj F:=by
    refine r0 em λd' e5 hr ⟨k,a,b⟩=>⟨k,?_,b.keep wi⟩;have:=(wh d' hr).symm;rcases a with a|⟨cq,a⟩
    ·exact .inl (by rw[b5 this];exact a)
    ·exact .inr ⟨cq,by rw[b5 this];exact a⟩
   generalize upd b7 e (.frz g5 (.dK d7))=b1 at*;refine WF (Hi nk) (λk af ae=>ae=b1∧∃(C:Nat)(a4:Option V),af=[some (.ref p),some (.ref f),some (.ref r),some (.ref d),some (.ref e),some (.int C),a4,a5]∧C=lcmL (zs.take k)∧C<2 ^ (6700*k+1)) ⟨rfl,1,_,rfl,rfl,by decide⟩ (λi af ae h=>h.1▸Ze.refl b1) ?_ ?_
   ·rintro k af cR v dt bt ⟨rfl,C,a4,rfl,lC,sL⟩ ⟨rfl,kv,iz,rfl⟩;obtain⟨y,bR,_,t,dO,b3⟩:=Paired.get' CC iz;rw[dO];have ni:k<zs.length:=(FM.mp bR).1;obtain⟨j5,gh,_⟩:=ha.pos y (qar bR);have Lq:=(ha.size k y bR).2;have nl:y.2.2<2 ^ 6700:=qag Lq (qaE (by decide) (by omega));have Lr:zs.take (k+1)=zs.take k++ [y]:=by rw[List.take_succ,bR];rfl
    walk_at "rds";refine⟨C,y.2.2,6700*k+1,rfl,gh,qag nl (qaE (by decide) (by decide)),sL,by omega,?_⟩;rw[ZkB];refine⟨rfl,_,_,rfl,by rw[Lr,Js,lC],?_⟩;have:=AV sL nl;have de:6700*(k+1)+1=6700*k+1+6700:=by omega
    rw[de];exact this
   ·rintro af cR ⟨rfl,C,a4,rfl,lC,sL⟩;rw[gL,qax] at lC;walk_at "rds";refine Rd.ZjY ?_;walk_at "rds";refine⟨e,d7,rfl,.inr ⟨g5,nk⟩,λgK=>?_⟩;have wb:(upd cR e (.frz gK (.dK d7))) e=some (.frz gK (.dK d7)):=Zd;have lc:∀a xs,cR a=some (.tup xs)→(upd cR e (.frz gK (.dK d7))) a=some (.tup xs):=(p3 (o:=gK) (.inr ⟨g5,nk⟩)).tups;have wc:=CC.keep lc;have nh:(upd cR e (.frz gK (.dK d7))) r=some (.lst (rs.map V.int)):=by rw[b5 qq];exact j_
    have Ls:(upd cR e (.frz gK (.dK d7))) f=some (.lst (cj.map V.ref)):=by rw[b5 CB];exact sC
    have ps:c_ cj H (upd cR e (.frz gK (.dK d7))):=⟨λb y cV n=>by rw[b5 (λz=>by rw[z,qr] at cV;cases cV)];exact hQ.keep _ _ cV n,λb xs cV=>lc _ _ (hQ.tups _ _ cV)⟩;have vV:Y7 (upd cR e (.frz gK (.dK d7))) cj F:=by
     refine r0 qi λd' e5 hr ⟨k,a,b⟩=>⟨k,?_,b.keep lc⟩;have:=(wh d' hr).symm;rcases a with a|⟨cq,a⟩
     ·exact .inl (by rw[b5 this];exact a)
     ·exact .inr ⟨cq,by rw[b5 this];exact a⟩
    generalize upd cR e (.frz gK (.dK d7))=dt at*;have ni:zs.map (·.1)=Fo.keys x.2:=by
     have bj:=ha.keys;have bp:(Fo.keys x.2).take x.2.length=Fo.keys x.2:=qbs (by simp[Fo.keys]);rw[bj,bp]
    have wj:∀(j:Nat) y,zs[j]? =some y→y.1∈Fo.keys x.2:=λj y bR=>by rw[←ni];exact qam.mpr ⟨y,qar bR,rfl⟩
    have Lu:∀(j k:Nat) y z,zs[j]? =some y→zs[k]? =some z→j≠k→y.1≠z.1:=λj k y z bR hz ne ee=>by
     have nd:(zs.map (·.1)).Nodup:=by rw[ni];exact g.nodup
     obtain⟨bC,m1⟩:=FM.mp bR;obtain⟨bt,eS⟩:=FM.mp hz;refine ne (p1 nd (by simpa using bC) (by simpa using bt) ?_);rw[qbf,qbf,m1,eS];exact ee
    refine WF (zo (pE (q:=e) (o:= .frz gK (.dK d7)))) (λk af ae=>∃(rs':List Int)(a6 a7:Option V),af=[some (.ref p),some (.ref f),some (.ref r),some (.ref d),some (.ref e),some (.int C),a6,a7]∧c_ cj H ae∧Y7 ae cj F∧ae e=some (.frz gK (.dK d7))∧ae f=some (.lst (cj.map V.ref))∧ae r=some (.lst (rs'.map V.int))∧rs'.length=aj.names.length∧ShE ae d7 zs∧
     (∀(j:Nat) y,j<k→zs[j]? =some y→rs'[y.1.toNat]? =some ((C / y.2.2*y.2.1:Nat):Int))∧∀v:Int,0≤v→v∉Fo.keys x.2→rs'[v.toNat]? =rs[v.toNat]?)
     ⟨rs,_,_,rfl,ps,vV,wb,Ls,nh,eY,wc,λj y bC=>absurd bC (qbn _),λ_ _ _=>rfl⟩ ?_ ?_ ?_
    ·rintro k af ae ⟨_,_,_,_,_,_,h,_⟩;exact Ui h
    ·rintro k af eJ v gI bt ⟨rs',a6,a7,rfl,wk,wl,sK,wm,np,wn,qo,wo,wq⟩ ⟨t,kv,iz,b3,rfl,rfl⟩;obtain⟨y,bR,eS,ty,dO,ie⟩:=Paired.get' qo iz;obtain⟨kA,Q'⟩:=kv;dsimp only at eS dO;subst eS dO;refine Rd.Vu (.of Zd) rfl ?_;have hJ:Ze eJ (upd eJ t (.tup [kV (Sum.inl y.1),.ref ty])):=cK b3;have qt:=hJ _ _ np;have Ra:=hJ _ _ ie;have CD:c_ cj H (upd eJ t (.tup [kV (Sum.inl y.1),.ref ty])):=wk.trans hJ.frame;have Lv:=wl.same hJ;have sM:=hJ _ _ sK;have Lw:=hJ _ _ wm;have Lx:ShE (upd eJ t (.tup [kV (Sum.inl y.1),.ref ty])) d7 zs:=qo.keep λ_ _ e=>hJ _ _ e;generalize upd eJ t (.tup [kV (Sum.inl y.1),.ref ty])=gI at*;have v':kV (Sum.inl y.1)= .int y.1:=rfl;rw[v'];obtain⟨j5,gh,_⟩:=ha.pos y (qar bR);obtain⟨Ly,Lz⟩:=ha.size k y bR;have k_:k<zs.length:=(FM.mp bR).1;have sI:y.2.1<2 ^ 6700:=qag Ly (qaE (by decide) (by omega));have nl:y.2.2<2 ^ 6700:=qag Lz (qaE (by decide) (by omega));have Bj:=Zkz (a:=0) gh (qag nl (qaE (by decide) (by decide)));have Bp:IntMulOk ((C:Int) / (y.2.2:Nat)) ((y.2.1:Nat):Int):=Zex (a:=C / y.2.2) (qaL (qa4 _ _) sL) sI (by omega);obtain⟨eU,fU⟩:=wg y.1 (wj k y bR);walk_at "rds";have c3:(C:Int) / ((y.2.2:Nat):Int)*((y.2.1:Nat):Int)=((C / y.2.2*y.2.1:Nat):Int):=rfl;rw[c3];have wr:∀a xs,gI a=some (.tup xs)→(upd gI r (.lst ((rs'.map V.int).set y.1.toNat (.int ((C / y.2.2*y.2.1:Nat):Int))))) a=some (.tup xs):=λa xs dH=>by rw[b5 (fj dH qt (by intro z;cases z))];exact dH
     have iG:y.1.toNat<rs'.length:=by omega
     walk_at "rds";refine⟨rs'.set y.1.toNat ((C / y.2.2*y.2.1:Nat):Int),_,_,rfl,⟨λb z cV n=>by rw[b5 (λc=>by rw[c,fi] at cV;cases cV)];exact CD.keep _ _ cV n,λb xs cV=>wr _ _ (CD.tups _ _ cV)⟩,?_,by rw[b5 qq.symm];exact sM,by rw[b5 Lo];exact Lw,by rw[Zd,qbK],by rw[qb9];exact wn,Lx.keep wr,λj z bC hz=>?_,λv lL b_=>?_⟩
     ·refine r0 Lv λd' e5 hr ⟨k',a,b⟩=>⟨k',?_,b.keep wr⟩;have:=(tQ d' hr).symm;rcases a with a|⟨cq,a⟩
      ·exact .inl (by rw[b5 this];exact a)
      ·exact .inr ⟨cq,by rw[b5 this];exact a⟩
     ·rcases qbm.mp bC with c|c
      ·have ne:=Lu j k z y hz bR (by omega);obtain⟨cQ,_⟩:=wg z.1 (wj j z hz);rw[qbI (by omega)];exact wo j z c hz
      ·subst c;rw[bR] at hz;cases hz;rw[qbP iG]
     ·have ne:v≠y.1:=λc=>b_ (by rw[c];exact wj k y bR);rw[qbI (by omega)];exact wq v lL b_
    ·rintro af eJ ⟨rs',a6,a7,rfl,wk,wl,sK,wm,np,wn,qo,wo,wq⟩;refine⟨rs',_,_,_,_,_,rfl,wk,wl,wm,np,wn,λk e5 bt iN=>?_⟩;rcases qbm.mp bt with c|c
     ·obtain⟨LA,CF,kU⟩:=fM k e5 c iN;refine⟨LA,CF,λy bR=>?_⟩;obtain⟨g',Rb,LB,LC⟩:=eO.tree e5 (qar iN);have r':y.1∈Fo.keys e5.2:=by
       have bj:=CF.keys;have bp:(Fo.keys e5.2).take e5.2.length=Fo.keys e5.2:=qbs (by simp[Fo.keys]);rw[bp] at bj;rw[←bj];exact qam.mpr ⟨y,bR,rfl⟩
      rw[wq y.1 (g'.rg ⟨LB,LC⟩ (oa cN) _ r').1 (Jr cN eO iN bo (by omega) _ r')];exact kU y bR
     ·subst c;rw[bo] at iN;cases iN;refine⟨zs,ha,λy bR=>?_⟩;obtain⟨j,bC⟩:=qbb bR;rw[←lC];exact wo j y (by rw[gL];exact(FM.mp bC).1) bC
  ·rintro af b9 ⟨rs,a1,a2,a3,a4,a5,rfl,jS,hK,kd,hp,eY,fM⟩;walk_at "rds";refine q r b9 rs fi jS hK hp eY (λx bo=>?_);obtain⟨k,bt⟩:=qbb bo;have:=(FM.mp bt).1;exact fM k x (by rw[GE,lJ];exact this) bt
end
inductive CG{K:Frag}{mg:Str→Option Value}(T:Tp K mg)(vs:List V)(H:Hp)(Q:VK)(cW:XK):Prop
 |mk (p c:Addr) (aj:HM) (fp:List Addr) (eL:List Int) (cQ:vs=[.ref p,.ref c]) (cH:c2 T H p aj fp) (cI:aj.belts.length≤1000) (dz:SqL K H c (eL.map V.int)) (en:ZI aj.belts eL.length) (eP:YS aj.belts) (fx:(∀c∈eL,∃k:Nat,c=(k:Int)∧k<2 ^ 420000)) (gw:∀(r:Addr)(ae:Hp),H r=none→Ze H ae→ae r=some (.lst ((aj.belts.map (lM eL)).map V.int))→Q (.ref r) ae):CG T vs H Q cW
section
variable {P:Program}{w:World}{K:Frag}{mg:Str→Option Value}{base:Heap}
theorem LD(T:Tp K mg):OkN P w base 2 T.aX (CG T):=by
 have eZ:=T.a;have e0:=T.e;refine T.aX.F.okX I3 (λvs H Q E h=>?_) (λcz A outer s H vs Q E bq h=>?_)
 ·obtain⟨p,c,aj,fp,eL,rfl,_⟩:=h
  rfl
 ·have hu:=bq.hu;obtain⟨p,rJ,aj,fp,eL,rfl,b6,hz,bu,cN,hsz,jq,q⟩:=h;refine⟨_,(b4 (c0 (jZ rfl (fq (x:="row") (zs:=["counts"]) (ix:=[1]) (cu uS) ["hall","counts"] rfl rfl (by decide+kernel)) (ey (K:=K) rfl (fH (pv 0) T.a T.G (la T) bq cp)) (λck C s H fp=>⟨(cG (i:=0) (show(["row","counts"]:List Str).Nodup by decide+kernel) rfl (Or.inl rfl)),gF,(cD ym (cD gd (cw (ixk K) (pv 1) (cw (ixk K) (pv 0) b0 (λ_ _=>rfl)) (λ_ _=>rfl)) (cw (ixk K) (pv 0) b0 (λ_ _=>rfl))) (cD gd (cw (ixk K) (pv 1) (cw (ixk K) (pv 0) b0 (λ_ _=>rfl)) (λ_ _=>rfl)) (cw (ixk K) (pv 0) b0 (λ_ _=>rfl))))⟩)))),?_⟩
  try dsimp only[L2.cxX,L2.ZN,L2.Zl]
  walk_at "rds";intro u bn bs l4 h3 gp c9;have j2:=c9.length;have a_:bs.length<sizeLine:=dj (by rw[j2];exact hz);walk_at "rds";refine Yo (ew (SqL.of gp)) a_ (λ_=>true) (λi=> .int (lM eL (aj.belts.getD i dB))) (λi ae c4 hi bV k=>?_) (λi ae c4 hi _ bV k=>?_) (λr ae bq bV jk=>?_)
  ·walk_at "rds";exact k ae (Ze.refl ae)
  ·have cs:i<aj.belts.length:=by omega
   obtain⟨t,fP,eH⟩:=c9.getD (i:=i) cs;rw[fP];obtain⟨cm,cY,gV,h9⟩:=cN.at cs;obtain⟨cX,bY,dL,fL,fS,dP,eF,dO⟩:=hsz i cs;have h2:=bV _ _ eH;unfold lM at k;generalize aj.belts.getD i dB=bb at*;have CH:∀{v:Int},0≤v→v<eL.length→eL.getD v.toNat 0∈eL:=λ{v} lL fe=>by rw[el (by omega)];exact GM _
   obtain⟨k1,bG,l1⟩:=jq _ (CH cm cY);obtain⟨k2,bK,l2⟩:=jq _ (CH gV h9);have fu:IntMulOk (eL.getD bb.giver.toNat 0) bb.give:=by rw[bG,eF];exact Zex l1 fS (by decide)
   have fA:IntMulOk (eL.getD bb.taker.toNat 0) bb.take:=by rw[bK,dO];exact Zex l2 dP (by decide)
   have jP:SqL K ae rJ (eL.map V.int):=(h3.trans bV).seq bu;have a1:=j4 cm cY;have a2:=j4 gV h9;dsimp only[B5.v] at h2;walk_at "rds";exact k ae (Ze.refl ae)
  ·refine q r ae (eX h3 bq) (h3.trans bV) ?_;rw[jk,qaA.mpr (by simp),j2];refine congrArg (λz=>some (HO.lst z)) ?_;refine qay (by simp) λi bj bp=>?_;have:i<aj.belts.length:=by simpa using bj
   simp[List.getD,this]
end
section
variable {P:Program}{w:World}{K:Frag}{mg:Str→Option Value}{base:Heap}
end
section
variable {P:Program}{w:World}{K:Frag}{mg:Str→Option Value}{base:Heap}
end
inductive CI{K:Frag}{mg:Str→Option Value}(T:Tp K mg)(vs:List V)(LF:Hp)(nA:VK)(cW:XK):Prop
 |mk (a b c:V) (cQ:vs=[a,b,c]) (cH:False):CI T vs LF nA cW
section
variable {P:Program}{w:World}{K:Frag}{mg:Str→Option Value}{base:Heap}
theorem LG(T:Tp K mg):OkN P w base 6 T.aY (CI T):=by
 have eZ:=T.a;have e0:=T.e;refine T.aY.F.okX I4 (λvs H Q E h=>?_) (λcz A outer s H vs Q E bq h=>?_)
 ·obtain⟨a,b,c,rfl,_⟩:=h
  rfl
 ·have hu:=bq.hu;obtain⟨_,_,_,_,lz⟩:=h;exact lz.elim
end
inductive CJ{K:Frag}{mg:Str→Option Value}(T:Tp K mg)(vs:List V)(H:Hp)(Q:VK)(cW:XK):Prop
 |mk (p:Addr) (aj:HM) (fp:List Addr) (z:Int→Nat) (cQ:vs=[.ref p]) (cH:c2 T H p aj fp) (cI:aj.names.length≤60) (dz:aj.belts.length≤1000) (en:ZI aj.belts aj.names.length) (eP:YS aj.belts) (fx:W9 aj.belts z) (gw:∀(t r:Addr)(ae:Hp)(rs:List Int)(F:List (Int×Fo.ZT)),Ze H ae→H r=none→ae t=some (.tup [.ref r,.non])→ae r=some (.lst (rs.map V.int))→rs.length=aj.names.length→Fo.Vf (ft aj.belts) aj.names.length F aj.names.length→(∀x∈F,m2 aj.belts x rs)→Q (.ref t) ae):CJ T vs H Q cW
section
variable {P:Program}{w:World}{K:Frag}{mg:Str→Option Value}{base:Heap}
theorem CK(T:Tp K mg):OkN P w base 8 T.aE (CJ T):=by
 refine T.aE.F.okX pY (λvs H Q E h=>?_) (λcz A outer s H vs Q E bq h=>?_)
 ·obtain⟨p,aj,fp,z,rfl,_⟩:=h
  rfl
 ·have hu:=bq.hu;obtain⟨p,aj,fp,z,rfl,b6,bO,hz,cN,hsz,l6,q⟩:=h;refine⟨_,(bN (cB (i:=1) pY.nd rfl (Or.inl rfl) (c5 T.aR (KW T) bq cp (br (pv 0) bB)))
     (bN (cB (i:=2) pY.nd rfl (Or.inl rfl) (c5 T.aW (Ln T) bq cp (br (pv 0) (br (pv 1) bB))))
     (bN (eB PassesOwn.leaving rfl (pI (K:=K) rfl rfl T.k (br (c5 T.aX (LD T) bq cp (br (pv 0) (br (pv 2) bB))) bB)) (hY (K:=K) (n:=2) rfl rfl (d8 (cG (i:=3) pY.nd rfl (Or.inl rfl)) (d8 (cG (i:=4) pY.nd rfl (Or.inl rfl)) hN))) (b4 (dS (dg (ik (K:=K) rfl hu) (pv 4) b0 (dM _)) (b4 (c0 (hA (br ZaT (br (c5 T.aY (LG T) bq cp (br (pv 0) (br (pv 1) (br (pv 3) bB)))) bB))))) dX)))
     (b4 (c0 (hA (br (pv 2) (br ZaT bB)))))))),?_⟩
  try dsimp only[L2.cxX,L2.ZN,L2.Zl]
  walk_at "rds";refine⟨p,aj,fp,rfl,b6,bO,hz,cN,λf cj bn F Cg bw lz kH eO v2=>?_⟩;have h5:=b6.same bw;have iH:∀d∈cj,d∉fp:=λd hd y=>b6.dom d y (kH d hd);have oz:∀d∈cj,d≠f:=λd hd y=>by
   obtain⟨i,hi,e⟩:=qao hd;obtain⟨x,_,kvs,a,_⟩:=Paired.get' lz.trees (GT hi);rw[e,y,lz.at_] at a;cases a
  walk_at "rds";refine⟨p,f,aj,fp,cj,F,rfl,h5,lz.at_,lz.trees.r,iH,oz,eO,cN,bO,hsz,λr bv rs fi fr2 mO iS eY fM=>?_⟩;have bU:Ze H bv:=λb o e=>fr2.keep _ _ (bw _ _ e) (λy=>by have:=kH b y;rw[e] at this;cases this);have e6:=b6.same bU;have sN:H r=none:=eX bw fi;have l7:=Zdm cN bO eO eY fM;walk_at "rds";refine⟨p,r,aj,fp,rs,rfl,e6,hz,.of iS,by rw[eY];exact cN,hsz,λc bu=>(by obtain⟨k,a,_,b⟩:=l7.pos c bu;exact⟨k,a,b⟩),λc b9 lf bS qf=>?_⟩;have hp:=bS _ _ iS;have LH:=bU.trans bS;walk_at "rds";refine WF (pJ (SqL.of qf)) (λi af ae=>Ze b9 ae∧∃a1 a2,af=[some (.ref p),some (.ref f),some (.ref r),a1,a2]) ⟨Ze.refl b9,_,_,rfl⟩ (λi af ae h=>h.1) ?_ ?_
  ·rintro i af b7 v b1 hi ⟨ca,a1,a2,rfl⟩ ⟨t,b3,rfl,rfl⟩;have cs:i<aj.belts.length:=by simpa using hi
   have gi:((aj.belts.map (lM rs)).map V.int).getD i .non= .int 0:=by
    have:=Uq l6 hsz cN eO eY fM cs;rw[el cs] at this;simp[List.getD,cs,this]
   rw[gi];refine Rd.Vu (.of Zd) rfl ?_;walk_at "rds";exact⟨ca.trans (cK b3),_,_,rfl⟩
  ·rintro af b7 ⟨ca,a1,a2,rfl⟩;have ff:=ca _ _ hp;walk_at "rds";refine⟨by show 2≤sizeLine;decide,λt b3=>?_⟩;exact q t r _ rs F ((LH.trans ca).trans (cK b3)) sN Zd (cK b3 _ _ ff) eY eO fM
end
inductive CL{K:Frag}{mg:Str→Option Value}(T:Tp K mg)(vs:List V)(H:Hp)(Q:VK)(cW:XK):Prop
 |mk (c:Addr) (xs:List Int) (cQ:vs=[.ref c]) (cH:SqL K H c (xs.map V.int)) (cI:H c=some (.lst (xs.map V.int))) (dz:Q (.bl true) H):CL T vs H Q cW
section
variable {P:Program}{w:World}{K:Frag}{mg:Str→Option Value}{base:Heap}
theorem ws(T:Tp K mg):OkN P w base 1 T.au (CL T):=by
 refine T.au.F.okX AI (λvs H Q E h=>?_) (λcz A outer s H vs Q E bq h=>?_)
 ·obtain⟨c,xs,rfl,_⟩:=h
  rfl
 ·have hu:=bq.hu;obtain⟨c,xs,rfl,bu,jP,q⟩:=h;refine⟨_,(bN (dS (hv (gJ (K:=K) rfl (dI (kP (K:=K) rfl) (by rfl) T.g qaJ (br (pv 0) (br (kr (v:= .ty "list") (by rfl) T.j qaM rfl) bB))) (λ_=>rfl))) (b4 (c0 Wa)) dX)
     (bN (eB PassesOwn.leaving rfl (ey (K:=K) rfl (pv 0)) (cG (i:=1) AI.nd rfl (Or.inl rfl)) (b4 (dS (PW.pt (hb (hv (gJ (K:=K) rfl (dI (kP (K:=K) rfl) (by rfl) T.g qaJ (br (pv 1) (br (kr (v:= .ty "int") (by rfl) T.ay PyProof.Rows.boot_int rfl) bB))) (λ_=>rfl))) (h7 (gJ (K:=K) rfl (dI (kP (K:=K) rfl) (by rfl) T.g qaJ (br (pv 1) (br (kr (v:= .ty "bool") (by rfl) T.al PyProof.Rows.boot_bool rfl) bB))) (λ_=>rfl))))) (b4 (c0 Wa)) dX)))
     (b4 (c0 Wa)))),?_⟩
  try dsimp only[L2.cxX,L2.ZN,L2.Zl]
  walk_at "rds";refine Z5 (ew bu) (λi af ae=>ae=H∧∃a1:Option V,af=[some (.ref c),a1]) ⟨rfl,_,rfl⟩ (λi af ae h=>h.1▸Ze.refl H) ?_ ?_
  ·rintro i af ae hi ⟨rfl,a1,rfl⟩;have cs:i<xs.length:=by rw[GE] at hi;exact hi
   have c3:(xs.map V.int).getD i .non=V.int xs[i]:=by simp[List.getD,cs]
   rw[c3];walk_at "rds";exact⟨rfl,_,rfl⟩
  ·rintro af ae ⟨rfl,a1,rfl⟩;walk_at "rds";exact q
end
theorem CM:∀ns:List Str,(∀n∈ns,PyData.strOk n=true)→PyData.canLayAll0 (ns.map PyData.str)=true
 | [],_=>by simp[PyData.canLayAll0]
 |n::ns,h=>by
  have:=CM ns λm bA=>h m (qaq _ bA);have cd:=h n (by simp);simp[PyData.canLayAll0,PyData.canLay0] at this⊢;exact⟨cd,this⟩
theorem wt(ns:List Str)(h:∀n∈ns,PyData.strOk n=true):(PyData.list (ns.map PyData.str)).canLay0=true:=by
 have:=CM ns h;simp[PyData.canLay0];simpa using this
theorem CN:∀ns:List Str,PyData.depthAll (ns.map PyData.str)≤1
 | []=>by simp[PyData.depthAll]
 |n::ns=>by
  have:=CN ns;simp[PyData.depthAll,PyData.depth] at this⊢;exact this
theorem LI(ns:List Str):(PyData.list (ns.map PyData.str)).depth≤60:=by
 have:=CN ns;simp only[PyData.depth];omega
theorem wu{K:Frag}{H:Hp}:∀ns:List Str,DRels K H (ns.map V.str) (ns.map PyData.str)
 | []=> .nil
 |n::ns=> .cons (.str n) (wu ns)
section
variable {K:Frag}{H:Hp}{Q:VK}
theorem Zgt{p q:Addr}{ns:List Str}(ok:∀n∈ns,PyData.strOk n=true)(bj:SqL K H p (ns.map V.str))(bp:SqL K H q (ns.map V.str))(k:Q (.bl false) H):rOr rNe (kO K true) (.ref p) (.ref q) H Q:=
 Rd.Zgq (.lst bj (wu ns)) (.lst bp (wu ns)) (wt ns ok) (wt ns ok) (LI ns) (by rw[SeqAt.eqv_refl _ (wt ns ok)];exact k)
end
theorem ZhD{x:Str}(h:f0 x=true):PyData.strOk x=true:=by
 obtain⟨_,_,bT⟩:=(Bk x).mp h;unfold PyData.strOk;rw[Array.all_eq_true];intro i hi;have:=bT x.cps[i] (by simp);exact decide_eq_true (by omega)
inductive CO{K:Frag}{mg:Str→Option Value}(T:Tp K mg)(vs:List V)(H:Hp)(Q:VK)(cW:XK):Prop
 |mk (h ez b:Addr) (aj:HM) (fp:List Addr) (bs:List V) (cQ:vs=[.ref h,.ref ez,.ref b]) (cH:c2 T H h aj fp) (cI:(∀n∈aj.names,f0 n=true)) (dz:SqL K H ez (aj.names.map V.str)) (en:SqL K H b bs) (eP:ek H bs aj.belts) (fx:aj.belts.length≤60) (gw:∀ae,Ze H ae→Q (.bl true) ae):CO T vs H Q cW
section
variable {P:Program}{w:World}{K:Frag}{mg:Str→Option Value}{base:Heap}
theorem CP(T:Tp K mg):OkN P w base 2 T.aF (CO T):=by
 have eZ:=T.a;have e0:=T.e;refine T.aF.F.okX u3 (λvs H Q E h=>?_) (λcz A outer s H vs Q E bq h=>?_)
 ·obtain⟨h,ez,b,aj,fp,bs,rfl,_⟩:=h
  rfl
 ·have hu:=bq.hu;obtain⟨h,ez,b,aj,fp,bs,rfl,b6,g_,iV,a_,c9,hz,q⟩:=h;have g6:=c9.length;refine⟨_,(bN (dS (PW.pt (hb (dg (ik (K:=K) rfl hu) (fH (pv 0) T.a T.R (nc T) bq cp) (pv 1) (dM _)) (hb (hv (gJ (K:=K) rfl (dI (kP (K:=K) rfl) (by rfl) T.g qaJ (br (fH (pv 0) T.a T.G (la T) bq cp) (br (kr (v:= .ty "list") (by rfl) T.j qaM rfl) bB))) (λ_=>rfl))) (h7 (dg (ik (K:=K) rfl hu) (dI (fa K) (by rfl) T.f qap (br (fH (pv 0) T.a T.G (la T) bq cp) bB)) (dI (fa K) (by rfl) T.f qap (br (pv 2) bB)) (dM _)))))) (b4 (c0 Wa)) dX)
     (bN (eB PassesOwn.leaving rfl (Hr (K:=K) rfl rfl T.bi (br (fH (pv 0) T.a T.G (la T) bq cp) (br (pv 2) bB))) (hY (K:=K) (n:=2) rfl rfl (d8 (cG (i:=3) u3.nd rfl (Or.inl rfl)) (d8 (cG (i:=4) u3.nd rfl (Or.inl rfl)) hN))) (b4 (dS (PW.pt (hb (hv (gJ (K:=K) rfl (dI (kP (K:=K) rfl) (by rfl) T.g qaJ (br (pv 3) (br (kr (v:= .ty "tuple") (by rfl) T.X PyProof.Rows.boot_tuple rfl) bB))) (λ_=>rfl))) (hb (hv (gJ (K:=K) rfl (c5 T.au (ws T) bq cp (br (kE (mL (K:=K) rfl) (by rfl) T.j qaM (br (pv 3) bB)) bB)) (λ_=>rfl))) (h7 (dg (ik (K:=K) rfl hu) (pv 3) (pv 4) (dM _)))))) (b4 (c0 Wa)) dX)))
     (b4 (c0 Wa)))),?_⟩
  try dsimp only[L2.cxX,L2.ZN,L2.Zl]
  walk_at "rds";refine⟨h,aj,fp,rfl,b6,λfI bn vA bw LJ=>?_⟩;have h5:=b6.same bw;walk_at "rds";refine Zgt (λn bO=>ZhD (g_ n bO)) (.of LJ) (bw.seq iV) ?_;walk_at "rds";intro eb bv bs2 ja bU CQ mO;have e6:=h5.same bU;walk_at "rds";intro eT b9 bs3 nY bS hb23 hK;have gf:=e6.same bS;have oJ:=hK.length;have gR:=bw.trans (bU.trans bS);have mW:=gR.seq a_;have Rc:=SqL.of (K:=K) hb23;have qu:(bs3.length:Int)=(bs.length:Int):=by omega
  walk_at "rds";intro gv b7 bs4 l8 ca hb44 em;have Re:=em.length;have f5:=gR.trans ca;have CS:=SqL.of (K:=K) hb44;have CT:=f5.seq a_;have LK:=c9.keep λb xs e=>f5 _ _ e;walk_at "rds";refine⟨gv,b,rfl,⟨_,CS⟩,⟨_,CT⟩,?_⟩;refine WF (Ht CS CT (by omega)) (λi af ae=>Ze b7 ae∧∃a3 a4,af=[some (.ref h),some (.ref ez),some (.ref b),a3,a4]) ⟨Ze.refl _,_,_,rfl⟩ (λi af ae h=>h.1) ?_ ?_
  ·rintro i af b1 v cR hi ⟨cC,a3,a4,rfl⟩ ⟨t,b3,rfl,rfl⟩;have cs:i<aj.belts.length:=by omega
   obtain⟨hW,bG,fP⟩:=em.at (GT cs);obtain⟨dh,bK,eH⟩:=LK.at (GT cs);have LM:bs4.getD i .non= .ref hW:=by simp[List.getD,bG]
   have nq:bs.getD i .non= .ref dh:=by simp[List.getD,bK]
   rw[LM,nq];refine Rd.Vu (.of Zd) rfl ?_;have ef:Ze b7 (upd b1 t (.tup [.ref hW,.ref dh])):=cC.trans (cK b3);generalize upd b1 t (.tup [.ref hW,.ref dh])=cR at*;have CU:=ef _ _ fP;have LN:=ef _ _ eH;have CV:=CU;dsimp only[B5.v] at CV;walk_at "rds";refine Rd.Zl1 (.of CV) (λl m3=>?_);have et:Ze cR (upd cR l (.lst (aj.belts[i]).v)):=cK m3;have CW:(upd cR l (.lst (aj.belts[i]).v)) l=some (.lst ([(aj.belts[i]).giver,(aj.belts[i]).taker,(aj.belts[i]).give,(aj.belts[i]).take,(aj.belts[i]).start].map V.int)):=Zd;have qv:=ef.trans et
   change tNil _ (upd cR l (.lst (aj.belts[i]).v)) _
   generalize upd cR l (.lst (aj.belts[i]).v)=dt at*;walk_at "rds";refine⟨l,_,rfl,.of CW,CW,?_⟩;walk_at "rds";refine Rd.Zgq (u5 (et _ _ CU)) (u5 (et _ _ LN)) (rX _) (rX _) (qal (AO _) (by decide)) ?_;rw[SeqAt.eqv_refl _ (rX _)];walk_at "rds";exact⟨qv,_,_,rfl⟩
  ·rintro af b1 ⟨cC,a3,a4,rfl⟩;walk_at "rds";exact q _ (f5.trans cC)
end
inductive CY{K:Frag}{mg:Str→Option Value}(T:Tp K mg)(vs:List V)(H:Hp)(Q:VK)(cW:XK):Prop
 |mk (c:Int) (a:Addr) (rs:List Int) (gT:Nat) (cQ:vs=[.int c,.ref a,.int gT,.bl true]) (cH:SqL K H a (rs.map V.int)) (cI:0<rs.length) (dz:rs.length≤30) (en:ZmM rs) (eP:0<gT) (fx:gT≤10 ^ 20) (gw:∀(u:Addr)(ae:Hp)(b:B5),H u=none→Ze H ae→ae u=some (.tup b.v)→Bel rs.length b→b.give*rs.getD b.giver.toNat 0=b.take*rs.getD b.taker.toNat 0→b.take*rs.getD b.taker.toNat 0≤b.start→Q (.ref u) ae):CY T vs H Q cW
section
variable {P:Program}{w:World}{K:Frag}{mg:Str→Option Value}{base:Heap}
theorem LO(T:Tp K mg):OkN P w base 2 T.aZ (CY T):=by
 refine T.aZ.F.okX jF (λvs H Q E h=>?_) (λcz A outer s H vs Q E bq h=>?_)
 ·obtain⟨c,a,rs,gT,rfl,_⟩:=h
  rfl
 ·have hu:=bq.hu;obtain⟨c,a,rs,gT,rfl,mx,Bz,fI,cy,CZ,C0,q⟩:=h;have C1:0<(gT:Int):=by omega
  have g4:((rs.map V.int).length:Int)=(rs.length:Int):=by simp
  have hX:0<((rs.map V.int).length:Int):=by omega
  refine⟨_,(bN (cB (i:=4) jF.nd rfl (Or.inl rfl) (cD fV (cD gd (pv 0) b0) b0))
     (bN (cB (i:=5) jF.nd rfl (Or.inl rfl) (cD fV (pv 4) (dI (fa K) (by rfl) T.f qap (br (pv 1) bB))))
     (bN (cB (i:=6) jF.nd rfl (Or.inl rfl) (cD fV (cD fX (pv 4) b0) (dI (fa K) (by rfl) T.f qap (br (pv 1) bB))))
     (bN (cB (i:=7) jF.nd rfl (Or.inl rfl) (c5 T.x2 (vu T) bq cp (br (cw (ixk K) (pv 1) (pv 5) (λ_ _=>rfl)) (br (cw (ixk K) (pv 1) (pv 6) (λ_ _=>rfl)) bB))))
     (bN (cB (i:=8) jF.nd rfl (Or.inl rfl) (cD (gn K) b0 (cD fV (cD fX (pv 4) b0) (pv 2))))
     (bN (mB (dS (dg nG (pv 2) b0 (dM _)) (b4 (cB (i:=8) jF.nd rfl (Or.inl rfl) (cD (gn K) b0 (cD fV (pv 0) (pv 2))))) dX))
     (bN (cB (i:=9) jF.nd rfl (Or.inl rfl) (cD fX (cD gd (pv 8) (cw (ixk K) (pv 1) (pv 6) (λ_ _=>rfl))) (pv 7)))
     (bN (cB (i:=10) jF.nd rfl (Or.inl rfl) (cD fX (cD gd (pv 8) (cw (ixk K) (pv 1) (pv 5) (λ_ _=>rfl))) (pv 7)))
     (bN (cB (i:=11) jF.nd rfl (Or.inl rfl) (cD fV (cD fX (pv 4) b0) b0))
     (bN (dS (PW.pt (hb (gJ (K:=K) rfl (pv 3) (λ_=>rfl)) (h7 (PW.pt (xX (dg o4 (pv 5) (pv 6) (dM _)) (xW (dg nG (cD fV (cD fX (pv 4) b0) b0) b0 (dM _)))))))) (b4 (cB (i:=11) jF.nd rfl (Or.inl rfl) (cD (gn K) (pv 11) (cD gd (pv 10) (cw (ixk K) (pv 1) (pv 6) (λ_ _=>rfl)))))) dX)
     (b4 (c0 (hA (br (pv 5) (br (pv 6) (br (pv 9) (br (pv 10) (br (pv 11) bB)))))))))))))))))),?_⟩
  try dsimp only[L2.cxX,L2.ZN,L2.Zl]
  walk_at "rds";have hx:0≤c*48271 % 2147483647:=by omega
  have fu:c*48271 % 2147483647<2147483647:=by omega
  generalize c*48271 % 2147483647=fO at*;have cm:=qbd fO (show((rs.map V.int).length:Int)≠0 by omega);have cY:=qbc fO hX;have gV:=qbd (fO / 7) (show((rs.map V.int).length:Int)≠0 by omega);have h9:=qbc (fO / 7) hX;generalize fO % ((rs.map V.int).length:Int)=g at*;generalize fO / 7 % ((rs.map V.int).length:Int)=t at*;rw[g4] at cY h9;have C2:∀{w:Int},0≤w→w<(rs.length:Int)→∃x:Nat,rs.getD w.toNat 0=(x:Int)∧1≤x∧x≤6:=λ{w} eU fU=>by
   have bA:rs.getD w.toNat 0∈rs:=by rw[el (by omega)];exact GM _
   obtain⟨dZ,e3⟩:=cy _ bA;exact⟨(rs.getD w.toNat 0).toNat,by omega,by omega,by omega⟩
  obtain⟨x,ex,x0,x1⟩:=C2 cm cY;obtain⟨y,eQ,j5,gh⟩:=C2 gV h9;have h1:=ZbI cm cY;have om:=ZbI gV h9;rw[ex] at h1;rw[eQ] at om;have Rf:=qbd (fO / 49) (show(gT:Int)≠0 by omega);have Rg:=qbc (fO / 49) C1;have Rh:=qbd c (show(gT:Int)≠0 by omega);have Ri:=qbc c C1;refine Rd.ZnA mx h1 ?_;walk_at "rds";refine⟨x,y,rfl,?_⟩;walk_at "rds";refine Rd.cut (λbW ae=>ae=H∧∃f:Nat,bW=[some (.int c),some (.ref a),some (.int gT),some (.bl true),some (.int fO),some (.int g),some (.int t),some (.int (Nat.gcd x y:Nat)),some (.int f),none,none,none]∧1≤f∧f≤10 ^ 20) ?k0 ?i0
  case i0=>
   walk_at "rds";refine Rd.ifD (λks=>?_) (λks=>?_)
   ·walk_at "rds";exact⟨rfl,(1+c % (gT:Int)).toNat,by rw[qaz (by omega)];rfl,by omega,by omega⟩
   ·walk_at "rds";exact⟨rfl,(1+fO / 49 % (gT:Int)).toNat,by rw[qaz (by omega)];rfl,by omega,by omega⟩
  case k0=>
  rintro bW ae ⟨rfl,f,rfl,dG,f1⟩;have dL:0<Nat.gcd x y:=qbA _ (by omega);have Rj:Nat.gcd x y≤x:=qbw (by omega) (qbr _ _);have Rk:Nat.gcd x y≤y:=qbw (by omega) (qa0 _ _);have ic:x≤f*x:=Nat.le_mul_of_pos_left x (by omega);have yE:y≤f*y:=Nat.le_mul_of_pos_left y (by omega);have Rl:f*x≤10 ^ 20*6:=Nat.mul_le_mul f1 x1;have Rm:f*y≤10 ^ 20*6:=Nat.mul_le_mul f1 gh;have dZ:1≤f*y / Nat.gcd x y:=qcn (by omega) dL;have e3:1≤f*x / Nat.gcd x y:=qcn (by omega) dL;have kX:f*x / Nat.gcd x y≤6*10 ^ 20:=qal (qa4 _ _) (by omega);have JQ:f*y / Nat.gcd x y≤6*10 ^ 20:=qal (qa4 _ _) (by omega);have Rn:IntMulOk (f:Int) (x:Int):=mulI (n:=80) (m:=10) (by omega) (by omega) (by decide);have Ro:IntMulOk (f:Int) (y:Int):=mulI (n:=80) (m:=10) (by omega) (by omega) (by decide);have Kq:0<((Nat.gcd x y:Nat):Int)∧((Nat.gcd x y:Nat):Int).natAbs.log2<9000:=⟨by omega,vn (by omega)⟩;walk_at "rds";have eF:(f:Int)*(y:Int) / ((Nat.gcd x y:Nat):Int)=((f*y / Nat.gcd x y:Nat):Int):=rfl;have dO:(f:Int)*(x:Int) / ((Nat.gcd x y:Nat):Int)=((f*x / Nat.gcd x y:Nat):Int):=rfl;rw[eF,dO];have jI:=ZnO (f:=f) (y:=y) x0;generalize f*y / Nat.gcd x y=cX at*;generalize f*x / Nat.gcd x y=bY at*;have Rp:IntMulOk (bY:Int) (y:Int):=mulI (n:=80) (m:=10) (by omega) (by omega) (by decide);have qw:0≤fO / 98 % 3∧fO / 98 % 3≤2:=by omega
  have Rq:0≤(bY:Int)*(y:Int):=Int.mul_nonneg (by omega) (by omega);walk_at "rds";refine⟨by show 5≤sizeLine;decide,λu gp=>?_⟩;exact q u _ ⟨g,t,cX,bY,fO / 98 % 3+(bY:Int)*(y:Int)⟩ gp (cK gp) Zd ⟨⟨cm,cY,gV,h9⟩,⟨by dsimp only;omega,by dsimp only;omega⟩,by dsimp only;omega,⟨by dsimp only;omega,by dsimp only;omega⟩⟩ (by dsimp only;rw[ex,eQ];exact_mod_cast jI) (by dsimp only;rw[eQ];omega)
end
inductive C3{K:Frag}{mg:Str→Option Value}(T:Tp K mg)(vs:List V)(H:Hp)(Q:VK)(cW:XK):Prop
 |mk (p:Addr) (jm:JM) (ad:List Addr) (cQ:vs=[.ref p]) (cH:YC T H p jm ad) (cI:∀r,H r=none→Q (.ref r) (upd H r (.lst (jm.inner.map V.int)))):C3 T vs H Q cW
section
variable {P:Program}{w:World}{K:Frag}{mg:Str→Option Value}{base:Heap}
theorem C4(T:Tp K mg):OkM P w mg base 1 T.aG (C3 T):=by
 have qx:=T.h;have qy:=T.l;refine T.aG.F.okX I5 (λvs H Q E h=>?_) (λcz A outer s H vs Q E bq h=>?_)
 ·obtain⟨p,jm,ad,rfl,_⟩:=h
  rfl
 ·have hu:=bq.hu;obtain⟨p,jm,ad,rfl,bC,q⟩:=h;obtain⟨bx,a,b,c,d,bs,rfl,bj,bp,bT,cy,dJ,db⟩:=bC;refine⟨_,(b4 (c0 (kE (mL (K:=K) rfl) (by rfl) T.j qaM (br (eK (K:=K) rfl (pv 0) rfl) bB)))),?_⟩
  try dsimp only[L2.cxX,L2.ZN,L2.Zl]
  walk_at "rds";refine Rd.UO (.of bp) (λr bq=>?_);walk_at "rds";exact q r bq
end
inductive C5{K:Frag}{mg:Str→Option Value}(T:Tp K mg)(vs:List V)(H:Hp)(Q:VK)(E:XK):Prop
 |mk (ez ba:Addr) (b2:List Str) (bs:List V) (ls:List B5) (cQ:vs=[.ref ez,.ref ba]) (cH:H ez=some (.lst (b2.map V.str))) (cI:H ba=some (.lst bs)) (dz:ek H bs ls) (en:Wc b2) (eP:ls.length≤1000) (fx:∀(p:Addr)(fp:List Addr)(ae:Hp),c2 T ae p ⟨b2,ls⟩ fp→(∀x∈fp,H x=none)→Ze H ae→Q (.ref p) ae):C5 T vs H Q E
section
variable {P:Program}{w:World}{K:Frag}{mg:Str→Option Value}{base:Heap}
theorem C6(T:Tp K mg):OkN P w base 3 T.aH (C5 T):=by
 have eZ:=T.a;have e0:=T.e;refine T.aH.F.okX rS (λvs H Q E h=>?_) (λcz A outer s H vs Q E bq h=>?_)
 ·obtain⟨ez,ba,b2,bs,ls,rfl,_⟩:=h
  rfl
 ·have hu:=bq.hu;obtain⟨ez,ba,b2,bs,ls,rfl,iV,sO,c9,⟨eE,g_,LP⟩,hz,q⟩:=h;have g6:=c9.length;refine⟨_,(bN (cB (i:=2) rS.nd rfl (Or.inl rfl) (y_ T.aC (BM T) bq T.ah cp))
     (bN (eB PassesOwn.leaving rfl (ey (K:=K) rfl (pv 0)) (cG (i:=3) rS.nd rfl (Or.inl rfl)) (b4 (eo (fG (pv 2) T.a T.x6 (si T) bq cp (br (pv 3) bB)))))
     (bN (eB PassesOwn.leaving rfl (ey (K:=K) rfl (pv 1)) (cG (i:=4) rS.nd rfl (Or.inl rfl)) (b4 (eo (fG (pv 2) T.a T.aB (BK T) bq cp (br (pv 4) bB)))))
     (b4 (c0 (pv 2)))))),?_⟩
  try dsimp only[L2.cxX,L2.ZN,L2.Zl]
  walk_at "rds";intro bD fp bn b6 bJ bV;have Rr:ez∉fp:=λz=>by rw[bJ ez z] at iV;cases iV
  have Rs:ba∉fp:=λz=>by rw[bJ ba z] at sO;cases sO
  have sP:=bV _ _ iV;walk_at "rds";refine Z5 (ew (SqL.of (pE (q:=ez) (o:= .lst (b2.map V.str))))) (λi af ae=>∃(dR:List Addr)(a1:Option V),af=[some (.ref ez),some (.ref ba),some (.ref bD),a1,none]∧c2 T ae bD ⟨b2.take i,[]⟩ dR∧Ze H ae∧(∀x∈dR,H x=none)) ⟨fp,_,rfl,by simpa using b6,bV,bJ⟩ ?_ ?_ ?_
  ·rintro i af ae ⟨_,_,_,_,h,_⟩;exact Ui (h _ _ iV)
  ·rintro i af bv hi ⟨m7,a1,rfl,e6,bU,oI⟩;have dN:i<b2.length:=by simpa using hi
   have c3:(b2.map V.str).getD i .non= .str b2[i]:=by simp[List.getD,dN]
   rw[c3];have hok:=g_ _ (GM dN);have kH:b2[i]∉b2.take i:=λz=>by
    obtain⟨j,bC,e⟩:=qao z;rw[qch] at e;have fZ:j<i:=by rw[qaO] at bC;omega
    have:=(qbO (xs:=b2) (h₀:=by omega) (h₁:=dN) eE).mp e;omega
   have j9:=qad dN;generalize b2[i]=x at*;walk_at "rds";refine VH e6 hok kH (by simp;omega) (λb9 qz gf jS LQ=>?_);refine⟨qz,_,rfl,by rw[j9];exact gf,λb o e=>jS.keep _ _ (bU _ _ e) (λz=>by rw[oI b z] at e;cases e),λx bo=>?_⟩;rcases LQ x bo with z|z
   ·exact oI x z
   ·exact eX bU z
  rintro af bv ⟨m7,a1,rfl,e6,bU,oI⟩;rw[GE,qax] at e6;have Rt:=bU _ _ sO;walk_at "rds";refine Z5 (ew (SqL.of (pE (q:=ba) (o:= .lst bs)))) (λi af ae=>∃(dR:List Addr)(a2:Option V),af=[some (.ref ez),some (.ref ba),some (.ref bD),a1,a2]∧c2 T ae bD ⟨b2,ls.take i⟩ dR∧Ze H ae∧(∀x∈dR,H x=none)) ⟨m7,_,rfl,by simpa using e6,bU,oI⟩ ?_ ?_ ?_
  ·rintro i af ae ⟨_,_,_,_,h,_⟩;exact Ui (h _ _ sO)
  ·rintro i af b9 hi ⟨qz,a2,rfl,gf,bS,kd⟩;have cs:i<ls.length:=by omega
   obtain⟨t,fP,eH⟩:=c9.at (GT cs);have cV:bs.getD i .non= .ref t:=by simp[List.getD,fP]
   rw[cV];have dO:=qad cs;generalize ls[i]=l at*;walk_at "rds";refine⟨bD,t,l,⟨b2,ls.take i⟩,qz,rfl,gf,bS _ _ eH,by simp;omega,λb7 sm iU qp LR=>?_⟩;refine⟨sm,_,rfl,by rw[dO];exact iU,λb o e=>qp.keep _ _ (bS _ _ e) (λz=>by rw[kd b z] at e;cases e),λx bo=>?_⟩;rcases LR x bo with z|z
   ·exact kd x z
   ·exact eX bS z
  rintro af b9 ⟨qz,a2,rfl,gf,bS,kd⟩;rw[g6,qax] at gf;walk_at "rds";exact q bD qz b9 gf kd bS
end
inductive C7{K:Frag}{mg:Str→Option Value}(T:Tp K mg)(vs:List V)(H:Hp)(Q:VK)(cW:XK):Prop
 |mk (p:Addr) (jm:JM) (ad:List Addr) (cQ:vs=[.ref p]) (cH:YC T H p jm ad) (cI:Wc jm.called) (dz:jm.rows.length≤60) (en:∀(h:Addr)(fp:List Addr)(ae:Hp),c2 T ae h ⟨jm.called,jm.rows⟩ fp→(∀x∈fp,H x=none)→Ze H ae→Q (.ref h) ae):C7 T vs H Q cW
section
variable {P:Program}{w:World}{K:Frag}{mg:Str→Option Value}{base:Heap}
theorem wv(T:Tp K mg):OkM P w mg base 4 T.av (C7 T):=by
 have qx:=T.h;have qy:=T.l;refine T.av.F.okX I6 (λvs H Q E h=>?_) (λcz A outer s H vs Q E bq h=>?_)
 ·obtain⟨p,jm,ad,rfl,_⟩:=h
  rfl
 ·have hu:=bq.hu;obtain⟨p,jm,ad,rfl,bC,bO,hz,q⟩:=h;obtain⟨bx,a,b,c,d,bs,rfl,bj,bp,bT,cy,dJ,db⟩:=bC;refine⟨_,(b4 (c0 (c5 T.aH (C6 T) bq cp (br (eK (K:=K) rfl (pv 0) rfl) (br (eK (K:=K) rfl (pv 0) rfl) bB))))),?_⟩
  try dsimp only[L2.cxX,L2.ZN,L2.Zl]
  walk_at "rds";exact⟨c,d,jm.called,bs,jm.rows,rfl,cy,dJ,db,bO,by omega,q⟩
end
noncomputable def C8 (b:B5) (s:Int):B5:=⟨b.giver,b.taker,b.give,b.take,s⟩
theorem ek.set{H:Hp}:∀{bs:List V}{ls:List B5}{t:Addr}{b:B5}(i:Nat),ek H bs ls→H t=some (.tup b.v)→ek H (bs.set i (.ref t)) (ls.set i b)
 |_,_,_,_,_,.nil,_=> .nil
 |_,_,_,_,0,.cons _ r,h=> .cons ⟨_,rfl,h⟩ r
 |_,_,_,_,i+1,.cons x r,h=> .cons x (ek.set i r h)
inductive C9{K:Frag}{mg:Str→Option Value}(T:Tp K mg)(vs:List V)(H:Hp)(Q:VK)(E:XK):Prop
 |mk (p:Addr) (i s:Int) (aj:HM) (fp:List Addr) (cQ:vs=[.ref p,.int i,.int s]) (cH:c2 T H p aj fp) (cI:(¬(0≤i∧i<aj.belts.length)→E (.ref T.E) none H)) (dz:((0≤i∧i<aj.belts.length)→¬0≤s→E (.ref T.F) none H)) (en:((0≤i∧i<aj.belts.length)→0≤s→∀(b:B5)(ae:Hp)(dR:List Addr),aj.belts[i.toNat]? =some b→c2 T ae p ⟨aj.names,aj.belts.set i.toNat (C8 b s)⟩ dR→c_ fp H ae→Vb fp dR H→Q (.bl (!decide (b.start=s))) ae)):C9 T vs H Q E
section
variable {P:Program}{w:World}{K:Frag}{mg:Str→Option Value}{base:Heap}
theorem LS(T:Tp K mg):OkM P w mg base 5 T.a0 (C9 T):=by
 have eZ:=T.a;have e0:=T.e;refine T.a0.F.okX AJ (λvs H Q E h=>?_) (λcz A outer s H vs Q E bq h=>?_)
 ·obtain⟨p,i,s,aj,fp,rfl,_⟩:=h
  rfl
 ·have hu:=bq.hu;obtain⟨p,i,st,aj,fp,rfl,b6,bG,bK,q⟩:=h;obtain⟨bx,a,bb,bs,rfl,bj,bp,bT,cy,f4,db⟩:=id b6;have h4:p≠bb:=fj bj cy (by intro z;cases z);have qb:bx≠bb:=fj bp cy (by intro z;cases z);have vy:=db.length;refine⟨_,(bN (eo (fG (pv 0) T.a T.aD (Co T) bq cp (br (pv 1) bB)))
     (bN (eo (c5 T.x9 (BH T) bq cp (br (pv 2) bB)))
     (bN (cB (i:=3) AJ.nd rfl (Or.inl rfl) (cw (ixk K) (eK (K:=K) rfl (pv 0) rfl) (pv 1) (λ_ _=>rfl)))
     (bN (h8 (cD (gn K) (q5 (rn (K:=K) rfl) (pv 3) q3 (q4 b0)) (hA (br (pv 2) bB))) (iB (eK (K:=K) rfl (pv 0) rfl) (pv 1) kF))
     (b4 (c0 (nH (ik (K:=K) rfl hu) (cw (ixk K) (pv 3) b0 (λ_ _=>rfl)) (pv 2) (dM _)))))))),?_⟩
  try dsimp only[L2.cxX,L2.ZN,L2.Zl]
  walk_at "rds";refine⟨p,i,aj,_,rfl,b6,bG,λi0 dx=>?_⟩;walk_at "rds";refine⟨st,rfl,λz=>bK ⟨i0,dx⟩ z,λqw=>?_⟩;have hi:i.toNat<aj.belts.length:=by omega
  have gi:=GT hi;obtain⟨t,fP,eH⟩:=db.at gi;have h1:atI bs i=some (.ref t):=by
   have:=gY fP
   rwa [qaz i0] at this
  generalize aj.belts[i.toNat]=b at*;dsimp only[B5.v] at eH;walk_at "rds";refine Rd.slT (.of eH) (by show ¬(HT.sIx 5 0 none=0∧HT.sIx 5 5 (some 4)=5);decide) (λu fw=>?_);have hJ:Ze H (upd H u (.tup (hB [V.int b.giver,V.int b.taker,V.int b.give,V.int b.take,V.int b.start] none (some 4)))):=cK fw;have gp:(upd H u (.tup (hB [V.int b.giver,V.int b.taker,V.int b.give,V.int b.take,V.int b.start] none (some 4)))) u=some (.tup [V.int b.giver,V.int b.taker,V.int b.give,V.int b.take]):=Zd;generalize upd H u (.tup (hB [V.int b.giver,V.int b.taker,V.int b.give,V.int b.take,V.int b.start] none (some 4)))=bn at*;walk_at "rds";refine(λi5 lH=>?_);have C_:Ze bn (upd bn i5 (.tup [V.int st])):=cK lH;have vR:(upd bn i5 (.tup [V.int st])) i5=some (.tup [V.int st]):=Zd;generalize upd bn i5 (.tup [V.int st])=bv at*;refine Rd.ZmR (.of (C_ _ _ gp)) (.of vR) (by simp) (by simp) (by show 5≤sizeLine;decide) (λiZ qd=>?_);have LU:Ze bv (upd bv iZ (.tup ([V.int b.giver,V.int b.taker,V.int b.give,V.int b.take]++ [V.int st]))):=cK qd;have vZ:(upd bv iZ (.tup ([V.int b.giver,V.int b.taker,V.int b.give,V.int b.take]++ [V.int st]))) iZ=some (.tup (C8 b st).v):=Zd;generalize upd bv iZ (.tup ([V.int b.giver,V.int b.taker,V.int b.give,V.int b.take]++ [V.int st]))=b9 at*;have bS:Ze H b9:=(hJ.trans C_).trans LU;have g1:=bS _ _ bj;have gZ:=bS _ _ cy;have Ru:i<(bs.length:Int):=by omega
  walk_at "rds";have LV:t≠bb:=fj eH cy (by intro z;cases z);have gQ:(upd b9 bb (.lst (bs.set i.toNat (.ref iZ)))) t=some (.tup [V.int b.giver,V.int b.taker,V.int b.give,V.int b.take,V.int b.start]):=by rw[b5 LV];exact bS _ _ eH
  walk_at "rds";have ej:c_ [p,bx,a,bb] H (upd b9 bb (.lst (bs.set i.toNat (.ref iZ)))):=bS.frame.trans (gl (by simp) gZ (by intro _ z;cases z));refine q ⟨i0,dx⟩ qw b _ [p,bx,a,bb] gi ⟨bx,a,bb,_,rfl,?_,?_,?_,Zd,f4,(db.keep ej.tups).set i.toNat ?_⟩ ej Vb.refl
  ·rw[b5 h4];exact g1
  ·rw[b5 qb];exact bS _ _ bp
  ·rw[b5 f4];exact bS _ _ bT
  ·have LW:iZ≠bb:=fj vZ gZ (by intro z;cases z);rw[b5 LW];exact vZ
end
inductive C'{K:Frag}{mg:Str→Option Value}(T:Tp K mg)(vs:List V)(H:Hp)(Q:VK)(E:XK):Prop
 |mk (p r:Addr) (jm:JM) (ad:List Addr) (cl:List Int) (cQ:vs=[.ref p,.ref r]) (cH:YC T H p jm ad) (cI:SqL K H r (cl.map V.int)) (dz:cl.length≤400) (en:jm.inner.length≤400) (eP:jm.kept.length≤30) (fx:((∃k∈cl,¬(0≤k∧k<(jm.kept.length:Int)))→∀ae,Ze H ae→E (.ref T.o) none ae)) (gw:((∀k∈cl,0≤k∧k<(jm.kept.length:Int))→∀(u:Addr)(ae:Hp),H u=none→Ze H ae→ae u=some (.lst ((jJ jm cl).map V.int))→Q (.ref u) ae)):C' T vs H Q E
section
variable {P:Program}{w:World}{K:Frag}{mg:Str→Option Value}{base:Heap}
theorem LX(T:Tp K mg):OkM P w mg base 4 T.a1 (C' T):=by
 have qx:=T.h;have qy:=T.l;refine T.a1.F.okX u4 (λvs H Q E h=>?_) (λcz A outer s H vs Q E bq h=>?_)
 ·obtain⟨p,r,jm,ad,cl,rfl,_⟩:=h
  rfl
 ·have hu:=bq.hu;obtain⟨p,r,jm,ad,cl,rfl,bC,fi,ni,LY,k_,bG,q⟩:=h;obtain⟨bx,a,b,c,d,bs,rfl,bj,bp,bT,cy,dJ,db⟩:=bC;refine⟨_,(bN (cB (i:=2) u4.nd rfl (Or.inl rfl) (fW bB))
     (bN (eB PassesOwn.leaving rfl (ey (K:=K) rfl (pv 1)) (cG (i:=3) u4.nd rfl (Or.inl rfl)) (bN (dS (hv (gJ (K:=K) rfl (c5 T.ap (vx T) bq cp (br (pv 3) (br (dI (fa K) (by rfl) T.f qap (br (eK (K:=K) rfl (pv 0) rfl) bB)) bB))) (λ_=>rfl))) (b4 (i7 T.x.g T.x.e qaB rfl (br YF bB))) dX)
     (b4 (dS (dg (ij (K:=K) rfl hu) (pv 3) (eK (K:=K) rfl (pv 0) rfl) (dM _)) (b4 (eo (fr (K:=K) rfl qah PySem.F.slot_list_extend PySem.F.type_list_extend Gi (pv 2) (br (eK (K:=K) rfl (pv 0) rfl) bB)))) (b4 (eo (fr (K:=K) rfl qah qas qat hg (pv 2) (br (cw (ixk K) (eK (K:=K) rfl (pv 0) rfl) (pv 3) (λ_ _=>rfl)) bB))))))))
     (b4 (c0 (pv 2))))),?_⟩
  try dsimp only[L2.cxX,L2.ZN,L2.Zl]
  walk_at "rds";refine⟨qau _,λu l4=>?_⟩;have bw:Ze H (upd H u (.lst [])):=cK l4;have fe:(upd H u (.lst [])) u=some (.lst []):=Zd;generalize upd H u (.lst [])=bn at*;have f6:=bw.seq fi;walk_at "rds";have LZ:((jm.kept.map λx:Nat=>(x:Int)).map V.int).length=jm.kept.length:=by simp
  refine Z5 (ew fi) (λi af ae=>Ze H ae∧(∃a3,af=[some (.ref p),some (.ref r),some (.ref u),a3])∧(∀k∈cl.take i,0≤k∧k<(jm.kept.length:Int))∧ae u=some (.lst ((jJ jm (cl.take i)).map V.int))) ⟨bw,⟨_,rfl⟩,by simp,fe⟩ (λi af ae h=>h.1) ?_ ?_
  ·rintro i af bv hi ⟨bU,⟨a3,rfl⟩,sQ,lH⟩;have cs:i<cl.length:=by rw[GE] at hi;exact hi
   have c3:(cl.map V.int).getD i .non=V.int cl[i]:=by simp[List.getD,cs]
   rw[c3];have gA:=qad cs;rw[gA];have eg:=Zgy (jm:=jm) (cl.take i);have Db:(cl.take i).length*(jm.inner.length+1)≤400*401:=Nat.mul_le_mul (by rw[qaO];omega) (by omega);have jB:=GM cs;generalize cl[i]=k at*;generalize cl.take i=kt at*;have Ba:=bU _ _ bj;have Dc:=bU _ _ bp;have L0:=bU _ _ bT;have Rv:=SqL.of (K:=K) Dc;have Rw:=SqL.of (K:=K) L0;walk_at "rds";rw[LZ];have kH:Ze bv bv:=Ze.refl bv
   by_cases bt:0≤k∧k<(jm.kept.length:Int)
   case neg=>
    rw[decide_eq_false bt,Bool.not_false];walk_at "rds";exact bG ⟨k,jB,bt⟩ _ bU
   rw[decide_eq_true bt,qb6];rw[Zj1];have Dd:∀x∈kt++ [k],0≤x∧x<(jm.kept.length:Int):=λx bo=>by
    rcases qaH.mp bo with z|z
    ·exact sQ x z
    ·rw[qac.mp z];exact bt
   have Rx:((jJ jm kt).map V.int).length<sizeLine:=by
    rw[GE];refine qaL (qal eg Db) ?_
    decide
   walk_at "rds"
   by_cases De:k=(jm.joined:Int)
   ·have bK:k7 jm k=jm.inner:=by unfold k7;rw[if_pos De]
    rw[bK,qaW];walk_at "rds";refine⟨u,a,_,_,rfl,rfl,lH,Dc,?_,?_⟩
    ·rw[GE,GE];refine qal (Nat.add_le_add (qal eg Db) LY) ?_
     decide
    walk_at "rds";exact⟨bU.new l4,⟨_,rfl⟩,Dd,Zd⟩
   ·have bK:k7 jm k=[((jm.kept.getD k.toNat 0:Nat):Int)]:=by unfold k7;rw[if_neg De]
    rw[bK,qaW];have d6:atI ((jm.kept.map λx:Nat=>(x:Int)).map V.int) k=some (.int ((jm.kept.getD k.toNat 0:Nat):Int)):=by
     obtain⟨j,rfl⟩:=qaP bt.1;have:j<jm.kept.length:=by omega
     exact gY (by simp[List.getD,this])
    generalize jm.kept.getD k.toNat 0=kw at*;walk_at "rds";exact⟨bU.new l4,⟨_,rfl⟩,Dd,Zd⟩
  ·rintro af bv ⟨bU,⟨a3,rfl⟩,sQ,lH⟩;rw[GE,qax] at sQ lH;walk_at "rds";exact q sQ u bv l4 bU lH
end
inductive Df{K:Frag}{mg:Str→Option Value}(T:Tp K mg)(vs:List V)(H:Hp)(Q:VK)(cW:XK):Prop
 |mk (p:Addr) (jm:JM) (ad:List Addr) (cQ:vs=[.ref p]) (cH:YC T H p jm ad) (cI:Q (.int jm.joined) H):Df T vs H Q cW
section
variable {P:Program}{w:World}{K:Frag}{mg:Str→Option Value}{base:Heap}
theorem Dg(T:Tp K mg):OkM P w mg base 1 T.aI (Df T):=by
 have qx:=T.h;have qy:=T.l;refine T.aI.F.okX I7 (λvs H Q E h=>?_) (λcz A outer s H vs Q E bq h=>?_)
 ·obtain⟨p,jm,ad,rfl,_⟩:=h
  rfl
 ·have hu:=bq.hu;obtain⟨p,jm,ad,rfl,bC,q⟩:=h;obtain⟨bx,a,b,c,d,bs,rfl,bj,bp,bT,cy,dJ,db⟩:=bC;refine⟨_,(b4 (c0 (eK (K:=K) rfl (pv 0) rfl))),?_⟩
  try dsimp only[L2.cxX,L2.ZN,L2.Zl]
  walk_at "rds";exact q
end
inductive Dh{K:Frag}{mg:Str→Option Value}(T:Tp K mg)(vs:List V)(H:Hp)(Q:VK)(E:XK):Prop
 |mk (p c:Addr) (aj:HM) (fp:List Addr) (cx:List Int) (cQ:vs=[.ref p,.ref c]) (cH:c2 T H p aj fp) (cI:SqL K H c (cx.map V.int)) (dz:cx.length≤1000) (en:Vx aj.names.length cx) (eP:Q .non H):Dh T vs H Q E
section
variable {P:Program}{w:World}{K:Frag}{mg:Str→Option Value}{base:Heap}
theorem L1(T:Tp K mg):OkN P w base 5 T.a2 (Dh T):=by
 have eZ:=T.a;have e0:=T.e;refine T.a2.F.okX AK (λvs H Q E h=>?_) (λcz A outer s H vs Q E bq h=>?_)
 ·obtain⟨p,c,aj,fp,cx,rfl,_⟩:=h
  rfl
 ·have hu:=bq.hu;obtain⟨p,c,aj,fp,cx,rfl,b6,bu,hz,bH,q⟩:=h;have cd:0<cx.length:=List.length_pos_iff.mpr bH.1;refine⟨_,(bN (dS (dg (ij (K:=K) rfl hu) (dI (fa K) (by rfl) T.f qap (br (pv 1) bB)) b0 (dM _)) (b4 yc) dX)
     (bN (eB PassesOwn.leaving rfl (ey (K:=K) rfl (pv 1)) (cG (i:=2) AK.nd rfl (Or.inl rfl)) (b4 (eo (fG (pv 0) T.a T.aa (qa T) bq cp (br (pv 2) bB)))))
     (b4 (dS (dg (ik (K:=K) rfl hu) (Hj rfl rfl (by rfl) T.f (by rfl) T.az (br (pv 1) bB)) (dI (fa K) (by rfl) T.f qap (br (pv 1) bB)) (dM _)) (b4 yc) dX)))),?_⟩
  try dsimp only[L2.cxX,L2.ZN,L2.Zl]
  have lf:¬((cx.map V.int).length:Int)=0:=by rw[GE];omega
  walk_at "rds";refine Z5 (ew bu) (λi af ae=>ae=H∧∃a2,af=[some (.ref p),some (.ref c),a2]) ⟨rfl,_,rfl⟩ (λi af ae h=>h.1▸Ze.refl H) ?_ ?_
  ·rintro i af ae hi ⟨rfl,a2,rfl⟩;have cs:i<cx.length:=by rw[GE] at hi;exact hi
   have c3:(cx.map V.int).getD i .non=V.int cx[i]:=by simp[List.getD,cs]
   rw[c3];have L3:=bH.2.2 cx[i] (GM cs);generalize cx[i]=g at*;walk_at "rds";refine⟨p,g,aj,fp,rfl,b6,λz=>absurd L3 z,λ_ _=>?_⟩;walk_at "rds";exact⟨rfl,_,rfl⟩
  ·rintro af ae ⟨rfl,a2,rfl⟩;walk_at "rds";refine⟨.ref c,rfl,c,cx,rfl,bu,by omega,λn bO=>?_⟩;have gs:=bO bH.2.1;have eR:((n:Nat):Int)=((cx.map V.int).length:Int):=by rw[GE,gs]
   walk_at "rds";exact q
end
inductive Dj{K:Frag}{mg:Str→Option Value}(T:Tp K mg)(vs:List V)(H:Hp)(Q:VK)(E:XK):Prop
 |mk (r c:Addr) (rs ms:List Int) (cQ:vs=[.ref r,.ref c]) (cH:SqL K H r (rs.map V.int)) (cI:SqL K H c (ms.map V.int)) (dz:ms≠[]) (en:ms.Nodup) (eP:ms.length≤1000) (fx:(∀m∈ms,0≤m∧m<(rs.length:Int))) (gw:(∀x∈rs,1≤x∧x≤1000)) (j8:∀(d:Addr)(ae:Hp),H d=none→Ze H ae→ae d=some (.dK (turnsK (turnV rs ms) ms))→Q (.ref d) ae):Dj T vs H Q E
section
variable {P:Program}{w:World}{K:Frag}{mg:Str→Option Value}{base:Heap}
theorem L4(T:Tp K mg):OkN P w base 2 T.a3 (Dj T):=by
 refine T.a3.F.okX n_ (λvs H Q E h=>?_) (λcz A outer s H vs Q E bq h=>?_)
 ·obtain⟨r,c,rs,ms,rfl,_⟩:=h
  rfl
 ·have hu:=bq.hu;obtain⟨r,c,rs,ms,rfl,l7,bu,bO,eE,hz,ox,lW,q⟩:=h;have d6:∀m∈ms,atI (rs.map V.int) m=some (.int (rs.getD m.toNat 0))∧1≤rs.getD m.toNat 0∧rs.getD m.toNat 0≤1000:=λm bA=>by
   obtain⟨cd,bj⟩:=ox m bA;obtain⟨k,rfl⟩:=qaP cd;have bt:k<rs.length:=by omega
   rw[qab];have e:rs.getD k 0=rs[k]:=by simp[List.getD,bt]
   rw[e];exact⟨gY (by simp[bt]),lW _ (GM bt)⟩
  refine⟨_,(bN (cB (i:=2) n_.nd rfl (Or.inl rfl) b0)
     (bN (eB PassesOwn.leaving rfl (ey (K:=K) rfl (pv 1)) (cG (i:=3) n_.nd rfl (Or.inl rfl)) (b4 (cB (i:=2) n_.nd rfl (Or.inl rfl) (c5 T.aq (v6 T) bq cp (br (pv 2) (br (cw (ixk K) (pv 0) (pv 3) (λ_ _=>rfl)) bB))))))
     (bN (cB (i:=4) n_.nd rfl (Or.inl rfl) pe)
     (bN (eB PassesOwn.leaving rfl (ey (K:=K) rfl (pv 1)) (cG (i:=3) n_.nd rfl (Or.inl rfl)) (b4 (h8 (cD fX (cw (ixk K) (pv 0) (pv 3) (λ_ _=>rfl)) (pv 2)) (iB (pv 4) (pv 3) (mM hu)))))
     (b4 (c0 (pv 4))))))),?_⟩
  try dsimp only[L2.cxX,L2.ZN,L2.Zl]
  walk_at "rds";refine Z5 (ew bu) (λi af ae=>ae=H∧∃(a4 a3:Option V),af=[some (.ref r),some (.ref c),some (.int (gcdM rs (ms.take i):Nat)),a3,a4]) ⟨rfl,_,_,rfl⟩ (λi af ae h=>h.1▸Ze.refl H) ?_ ?_
  ·rintro i af ae hi ⟨rfl,a4,a3,rfl⟩;have cs:i<ms.length:=by rw[GE] at hi;exact hi
   have c3:(ms.map V.int).getD i .non=V.int ms[i]:=by simp[List.getD,cs]
   rw[c3];obtain⟨bj,bp,bT⟩:=d6 ms[i] (GM cs);have eF:gcdM rs (ms.take (i+1))=Nat.gcd (gcdM rs (ms.take i)) (rs.getD ms[i].toNat 0).toNat:=by rw[qad cs,r7]
   rw[eF];generalize gcdM rs (ms.take i)=g at*;generalize ms[i]=m at*;obtain⟨v,b_⟩:∃v:Nat,rs.getD m.toNat 0=(v:Int):=⟨(rs.getD m.toNat 0).toNat,by omega⟩;rw[b_] at bj⊢;rw[qab];walk_at "rds";exact⟨rfl,_,_,rfl⟩
  ·rintro af ae ⟨rfl,a4,a3,rfl⟩;rw[GE,qax];have dL:=Zdx (rs:=rs) bO λm bA=>(by have:=(d6 m bA).2.1;omega);have g1:(gcdM rs ms:Int)≤1000:=by
    obtain⟨m,bA,h⟩:=ZhZ (rs:=rs) bO λm bA=>(by have:=(d6 m bA).2.1;omega);have:=(d6 m bA).2.2;omega
   have Ry:turnV rs ms=λm=>rs.getD m.toNat 0 / (gcdM rs ms:Int):=rfl;walk_at "rds";intro d hd;have bw:Ze ae (upd ae d (.dK [])):=cK hd;have fe:(upd ae d (.dK [])) d=some (.dK (turnsK (turnV rs ms) [])):=Zd;generalize upd ae d (.dK [])=bn at*;walk_at "rds";refine Z5 (ew bu) (λi af bv=>Ze ae bv∧bv d=some (.dK (turnsK (turnV rs ms) (ms.take i)))∧∃(a3:Option V),af=[some (.ref r),some (.ref c),some (.int (gcdM rs ms:Nat)),a3,some (.ref d)]) ⟨bw,fe,_,rfl⟩ (λi af bv h=>h.1) ?_ ?_
   ·rintro i af bv hi ⟨bU,hT,a3,rfl⟩;have cs:i<ms.length:=by rw[GE] at hi;exact hi
    have c3:(ms.map V.int).getD i .non=V.int ms[i]:=by simp[List.getD,cs]
    rw[c3];obtain⟨bj,bp,bT⟩:=d6 ms[i] (GM cs);have g_:ms[i]∉ms.take i:=λz=>by
     obtain⟨j,bC,m1⟩:=qao z;rw[qch] at m1;have Rz:j<i:=by rw[qaO] at bC;omega
     exact absurd ((qbO eE).mp m1) (by omega)
    have dO:turnsK (turnV rs ms) (ms.take (i+1))=e8 (turnsK (turnV rs ms) (ms.take i)) (Sum.inl ms[i]) (V.int (rs.getD ms[i].toNat 0 / (gcdM rs ms:Int))):=by
     rw[qad cs];exact(JK (f:=turnV rs ms) g_).symm
    rw[dO];have Kj:(turnsK (turnV rs ms) (ms.take i)).length<sizeLine:=by
     unfold turnsK;rw[GE,qaO];exact dj (by omega)
    generalize turnsK (turnV rs ms) (ms.take i)=kv at*;generalize ms[i]=m at*;generalize rs.getD m.toNat 0=v at*;have iS:=bU.seq l7;generalize gcdM rs ms=g at*;have hE:0<(g:Int)∧(g:Int).natAbs.log2<9000:=⟨by omega,Bh (by omega) (by omega)⟩;walk_at "rds";exact⟨bU.new hd,Zd,_,rfl⟩
   ·rintro af bv ⟨bU,hT,a3,rfl⟩;rw[GE,qax] at hT;walk_at "rds";exact q d bv hd bU hT
end
inductive Dk{K:Frag}{mg:Str→Option Value}(T:Tp K mg)(vs:List V)(H:Hp)(Q:VK)(E:XK):Prop
 |mk (p c:Addr) (aj:HM) (fp:List Addr) (ms:List Int) (cQ:vs=[.ref p,.ref c]) (cH:c2 T H p aj fp) (cI:H c=some (.lst (ms.map V.int))) (dz:Wc aj.names) (en:aj.belts.length≤60) (eP:ms.Nodup) (fx:ms.length≤30) (gw:(∀m∈ms,0≤m∧m<(aj.names.length:Int))) (j8:∀(gW:Addr)(dR:List Addr)(ae:Hp),c2 T ae gW ⟨ms.map λm=>aj.names.getD m.toNat "",ev aj.belts ms⟩ dR→(∀x∈dR,H x=none)→Ze H ae→Q (.ref gW) ae):Dk T vs H Q E
theorem Dl{b2:List Str}{ms:List Int}(h:Wc b2)(bO:ms.Nodup)(hz:ms.length≤30)(bA:∀m∈ms,0≤m∧m<(b2.length:Int)):Wc (ms.map λm=>b2.getD m.toNat ""):=by
 have at_:∀m∈ms,∃h:m.toNat<b2.length,b2.getD m.toNat "" =b2[m.toNat]:=λm h=>by
  obtain⟨cd,bj⟩:=bA m h;have:m.toNat<b2.length:=by omega
  exact⟨this,by simp[List.getD,this]⟩
 refine⟨?_,λx bo=>?_,by rw[GE];exact hz⟩
 ·rw[qaN,qbS];refine(qaN.mp bO).imp_of_mem λ{a b} bF a_ ne e=>?_;obtain⟨bj,bG⟩:=at_ a bF;obtain⟨bp,bK⟩:=at_ b a_;rw[bG,bK] at e;have:=(qbO h.1).mp e;have:=bA a bF;have:=bA b a_;omega
 ·obtain⟨m,gM,rfl⟩:=qam.mp bo;obtain⟨bj,bG⟩:=at_ m gM;rw[bG];exact h.2.1 _ (GM bj)
section
variable {P:Program}{w:World}{K:Frag}{mg:Str→Option Value}{base:Heap}
theorem L5(T:Tp K mg):OkN P w base 4 T.a4 (Dk T):=by
 have eZ:=T.a;have e0:=T.e;refine T.a4.F.okX rT (λvs H Q E h=>?_) (λcz A outer s H vs Q E bq h=>?_)
 ·obtain⟨p,c,aj,fp,ms,rfl,_⟩:=h
  rfl
 ·have hu:=bq.hu;obtain⟨p,c,aj,fp,ms,rfl,b6,bu,g_,kf,eE,oK,fR,q⟩:=h;refine⟨_,(bN (cB (i:=2) rT.nd rfl (Or.inr rfl) (fH (pv 0) T.a T.R (nc T) bq cp))
     (bN (cB (i:=3) rT.nd rfl (Or.inl rfl) (fW bB))
     (bN (eB PassesOwn.leaving rfl (ey (K:=K) rfl (fH (pv 0) T.a T.G (la T) bq cp)) (cG (i:=4) rT.nd rfl (Or.inl rfl)) (b4 (dS (PW.pt (xX (dg (pF (K:=K) rfl) (cw (ixk K) (pv 4) b0 (λ_ _=>rfl)) (pv 1) (by with_unfolding_all rfl)) (xW (dg (pF (K:=K) rfl) (cw (ixk K) (pv 4) b0 (λ_ _=>rfl)) (pv 1) (by with_unfolding_all rfl))))) (b4 (eo (fr (K:=K) rfl qah qas qat hg (pv 3) (br (cD (gn K) (hA (br (fr (K:=K) rfl qah qaY qaZ mZ (pv 1) (br (cw (ixk K) (pv 4) b0 (λ_ _=>rfl)) bB)) (br (fr (K:=K) rfl qah qaY qaZ mZ (pv 1) (br (cw (ixk K) (pv 4) b0 (λ_ _=>rfl)) bB)) bB))) (q5 (rn (K:=K) rfl) (pv 4) (q4 b0) q3)) bB)))) dX)))
     (b4 (c0 (c5 T.aH (C6 T) bq cp (br (jZ rfl (fq (x:="member") (zs:=["names"]) (ix:=[2]) (cu uT) ["hall","members","names","rows","row"] rfl rfl (by decide+kernel)) (ey (K:=K) rfl (pv 1)) (λck C s H fp=>⟨(cG (i:=0) (show(["member","names"]:List Str).Nodup by decide+kernel) rfl (Or.inl rfl)),gF,(cw (ixk K) (pv 1) (pv 0) (λ_ _=>rfl))⟩)) (br (pv 3) bB)))))))),?_⟩
  try dsimp only[L2.cxX,L2.ZN,L2.Zl]
  walk_at "rds";refine⟨p,aj,fp,rfl,b6,λez bn iV bw sP=>?_⟩;have h5:=b6.same bw;walk_at "rds";refine⟨qau _,λr f6=>?_⟩;have bU:Ze bn (upd bn r (.lst [])):=cK f6;have iW:(upd bn r (.lst [])) r=some (.lst []):=Zd;generalize upd bn r (.lst [])=bv at*;have e6:=h5.same bU;walk_at "rds"
  try refine Up e6 ?_
  intro bl b9 bs g6 bS oJ hK;have ww:=hK.length;have L6:=SqL.of (K:=K) oJ;walk_at "rds";have gR:=bw.trans (bU.trans bS);have hp:=bS _ _ iW;have Do:c≠r:=λz=>by rw[z] at bu;rw[bw _ _ bu] at f6;cases f6
  have L7:ez≠r:=λz=>by rw[z] at sP;rw[sP] at f6;cases f6
  refine Z5 (H0:=hid b9 r) (ew (SqL.of (K:=K) (show(hid b9 r) bl=some (.lst bs) by rw[Yy (λz=>by rw[z,iW] at g6;cases g6)];exact oJ))) (λi af ae=>Ze (hid b9 r) ae∧(∃a4,af=[some (.ref p),some (.ref c),some (.ref ez),some (.ref r),a4])∧∃fT,ae r=some (.lst fT)∧ek ae fT (ev (aj.belts.take i) ms)) ⟨j0,⟨_,rfl⟩,[],hp,.nil⟩ (λi af ae h=>h.1) ?_ ?_
  ·rintro i af b7 hi ⟨ca,⟨a4,rfl⟩,fT,ff,em⟩;have cs:i<aj.belts.length:=by omega
   obtain⟨t,dO,b3⟩:=hK.at (GT cs);have c3:bs.getD i .non= .ref t:=by simp[List.getD,dO]
   rw[c3];have gQ:=ca _ _ (y1 hp _ _ b3);dsimp only[B5.v] at gQ;have iY:b7 c=some (.lst (ms.map V.int)):=ca _ _ (by rw[Yy Do];exact gR _ _ bu);have Dp:=SqL.of (K:=K) iY;have j9:ev (aj.belts.take (i+1)) ms=ev (aj.belts.take i) ms++(if inT ms aj.belts[i]=true then[inB ms aj.belts[i]] else[]):=by
    unfold ev;rw[qad cs,qbQ,qaW]
    congr 1
    by_cases h:inT ms aj.belts[i]=true
    ·rw[if_pos h];simp[h]
    ·rw[if_neg h];simp[h]
   rw[j9];have eY:fT.length≤60:=by
    have bj:=em.length;have bp:(ev (aj.belts.take i) ms).length≤aj.belts.length:=by
     unfold ev;rw[GE];exact qal (qaK _ _) (by rw[qaO];omega)
    omega
   generalize aj.belts[i]=bb at*;walk_at "rds"
   by_cases bH:bb.giver∈ms
   case neg=>
    have e:inT ms bb=false:=by simp[inT,bH]
    rw[decide_eq_false bH,e];walk_at "rds";exact⟨ca,⟨_,rfl⟩,fT,ff,by simpa using em⟩
   rw[decide_eq_true bH];walk_at "rds"
   by_cases gA:bb.taker∈ms
   case neg=>
    have e:inT ms bb=false:=by simp[inT,gA]
    rw[decide_eq_false gA,e];walk_at "rds";exact⟨ca,⟨_,rfl⟩,fT,ff,by simpa using em⟩
   have e:inT ms bb=true:=by simp[inT,bH,gA]
   rw[decide_eq_true gA,e,if_pos rfl];walk_at "rds";obtain⟨g1,g2⟩:=je bH;obtain⟨k1,k2⟩:=je gA;refine⟨c,ms,_,_,rfl,rfl,iY,g1,g2,?_⟩;walk_at "rds";refine⟨c,ms,_,_,rfl,rfl,iY,k1,k2,?_⟩;refine⟨by show 2≤sizeLine;decide,λu fw=>?_⟩;have gi:(inB ms bb).v=[V.int (idxL ms bb.giver:Nat),V.int (idxL ms bb.taker:Nat)]++ [V.int bb.give,V.int bb.take,V.int bb.start]:=rfl;generalize idxL ms bb.giver=ig at*;generalize idxL ms bb.taker=it at*;have hJ:Ze b7 (upd b7 u (.tup [V.int ig,V.int it])):=cK fw;have gp:(upd b7 u (.tup [V.int ig,V.int it])) u=some (.tup [V.int ig,V.int it]):=Zd;generalize upd b7 u (.tup [V.int ig,V.int it])=b1 at*;have qg:=hJ _ _ gQ;walk_at "rds";refine Rd.slT (.of qg) (by show ¬(HT.sIx 5 0 (some 2)=0∧HT.sIx 5 5 none=5);decide) (λw k6=>?_);have Dq:Ze b1 (upd b1 w (.tup (hB [V.int bb.giver,V.int bb.taker,V.int bb.give,V.int bb.take,V.int bb.start] (some 2) none))):=cK k6;have kc:(upd b1 w (.tup (hB [V.int bb.giver,V.int bb.taker,V.int bb.give,V.int bb.take,V.int bb.start] (some 2) none))) w=some (.tup [.int bb.give,.int bb.take,.int bb.start]):=Zd;generalize upd b1 w (.tup (hB [V.int bb.giver,V.int bb.taker,V.int bb.give,V.int bb.take,V.int bb.start] (some 2) none))=cR at*;refine Rd.ZmR (.of (Dq _ _ gp)) (.of kc) (by simp) (by simp) (by show 5≤sizeLine;decide) (λiZ qd=>?_);rw[←gi];have L8:Ze cR (upd cR iZ (.tup (inB ms bb).v)):=cK qd;have L9:(upd cR iZ (.tup (inB ms bb).v)) iZ=some (.tup (inB ms bb).v):=Zd;generalize upd cR iZ (.tup (inB ms bb).v)=dt at*;have qv:=hJ.trans (Dq.trans L8);have nh:=qv _ _ ff;have lT:fT.length<sizeLine:=dj (by omega);walk_at "rds";have ej:c_ [r] dt (upd dt r (.lst (fT++ [V.ref iZ]))):=gl (by simp) nh (by intro _ z;cases z);exact⟨(ca.trans qv).new nW,⟨_,rfl⟩,_,Zd,((em.keep λb xs e=>qv _ _ e).keep ej.tups).snoc (ej.tups _ _ L9)⟩
  ·rintro af b7 ⟨ca,⟨a4,rfl⟩,fT,ff,em⟩;rw[ww,qax] at em;have iY:b7 c=some (.lst (ms.map V.int)):=ca _ _ (by rw[Yy Do];exact gR _ _ bu);have Dp:=SqL.of (K:=K) iY;have nb:b7 ez=some (.lst (aj.names.map V.str)):=ca _ _ (by rw[Yy L7];exact bS _ _ (bU _ _ sP));have L_:=SqL.of (K:=K) nb;walk_at "rds";refine Yo (ew Dp) (dj (by rw[GE];omega)) (λ_=>true) (λi=> .str (aj.names.getD (ms.getD i 0).toNat "")) (λi ae c4 hi bV k=>?_) (λi ae c4 hi _ bV k=>?_) (λd b1 hd bV kb=>?_)
   ·walk_at "rds";exact k ae (Ze.refl ae)
   ·have cs:i<ms.length:=by rw[GE] at hi;exact hi
    have c3:(ms.map V.int).getD i .non=V.int ms[i]:=by simp[List.getD,cs]
    have nq:ms.getD i 0=ms[i]:=by simp[List.getD,cs]
    rw[c3];rw[nq] at k;obtain⟨hx,fu⟩:=fR ms[i] (GM cs);generalize ms[i]=m at*;obtain⟨kA,rfl⟩:=qaP hx;have k_:kA<aj.names.length:=by omega
    rw[qab] at k;have d6:atI (aj.names.map V.str) (kA:Int)=some (.str (aj.names.getD kA "")):=gY (by simp[List.getD,k_]);have RA:=bV.seq L_;walk_at "rds";exact k ae (Ze.refl ae)
   ·have iO:((List.range (ms.map V.int).length).filter λ_=>true).map (λi=>V.str (aj.names.getD (ms.getD i 0).toNat ""))=(ms.map λm=>aj.names.getD m.toNat "").map V.str:=by
     rw[qaA.mpr λ_ _=>rfl,GE];refine qay (by simp) λi bj bp=>?_;have bT:i<ms.length:=by simpa using bj
     simp[List.getD,bT]
    rw[iO] at kb;have j_:=bV _ _ ff;have qi:=em.keep λb xs e=>bV _ _ e;have qw:Ze H b1:=λb o e=>bV _ _ (ca _ _ (by
     rw[Yy (λz=>by rw[z] at e;rw[bw _ _ e] at f6;cases f6)];exact gR _ _ e))
    walk_at "rds";refine⟨d,r,_,fT,ev aj.belts ms,rfl,kb,j_,qi,Dl g_ eE oK fR,?_,λgW dR ae lV qT bz=>?_⟩
    ·unfold ev;rw[GE];exact qal (qaK _ _) (by omega)
    ·exact q gW dR ae lV (λx bo=>eX qw (qT x bo)) (qw.trans bz)
end
inductive Dr{K:Frag}{mg:Str→Option Value}(T:Tp K mg)(vs:List V)(H:Hp)(Q:VK)(cW:XK):Prop
 |mk (p:Addr) (aj:HM) (fp:List Addr) (cQ:vs=[.ref p]) (cH:c2 T H p aj fp) (cI:aj.belts.length≤1000) (dz:∀(r:Addr)(ae:Hp),H r=none→Ze H ae→ae r=some (.lst ((hn aj.belts).map V.int))→Q (.ref r) ae):Dr T vs H Q cW
section
variable {P:Program}{w:World}{K:Frag}{mg:Str→Option Value}{base:Heap}
theorem L'(T:Tp K mg):OkN P w base 2 T.a5 (Dr T):=by
 have eZ:=T.a;have e0:=T.e;refine T.a5.F.okX I8 (λvs H Q E h=>?_) (λcz A outer s H vs Q E bq h=>?_)
 ·obtain⟨p,aj,fp,rfl,_⟩:=h
  rfl
 ·have hu:=bq.hu;obtain⟨p,aj,fp,rfl,b6,hz,q⟩:=h;refine⟨_,(b4 (c0 (jZ rfl (fq (x:="row") (zs:=[]) (ix:=[]) (cu uU) ["hall"] rfl rfl (by decide+kernel)) (ey (K:=K) rfl (fH (pv 0) T.a T.G (la T) bq cp)) (λck C s H fp=>⟨(cG (i:=0) (show(["row"]:List Str).Nodup by decide+kernel) rfl (Or.inl rfl)),gF,(cw (ixk K) (pv 0) b0 (λ_ _=>rfl))⟩)))),?_⟩
  try dsimp only[L2.cxX,L2.ZN,L2.Zl]
  walk_at "rds";intro u bn bs l4 h3 gp c9;have j2:=c9.length;have a_:bs.length<sizeLine:=dj (by rw[j2];exact hz);walk_at "rds";refine Yo (ew (SqL.of gp)) a_ (λ_=>true) (λi=> .int (aj.belts.getD i dB).start) (λi ae c4 hi bV k=>?_) (λi ae c4 hi _ bV k=>?_) (λr ae bq bV jk=>?_)
  ·walk_at "rds";exact k ae (Ze.refl ae)
  ·have cs:i<aj.belts.length:=by omega
   obtain⟨t,fP,eH⟩:=c9.getD (i:=i) cs;rw[fP];have h2:=bV _ _ eH;generalize aj.belts.getD i dB=bb at*;dsimp only[B5.v] at h2;walk_at "rds";exact k ae (Ze.refl ae)
  ·refine q r ae (eX h3 bq) (h3.trans bV) ?_;rw[jk,qaA.mpr (by simp),j2];unfold hn;refine congrArg (λz=>some (HO.lst z)) ?_;refine qay (by simp) λi bj bp=>?_;have:i<aj.belts.length:=by simpa using bj
   simp[List.getD,this]
end
inductive Ds{K:Frag}{mg:Str→Option Value}(T:Tp K mg)(vs:List V)(H:Hp)(Q:VK)(cW:XK):Prop
 |mk (a b:Addr) (hs:List Int) (l:List (Int×Int)) (xs:List V) (cQ:vs=[.ref a,.ref b]) (cH:SqL K H a (hs.map V.int)) (cI:SqL K H b xs) (dz:Vp H l xs) (en:(∀x∈l,0≤x.1∧x.1<hs.length)) (eP:l.length≤1000) (fx:∀ae,Ze H ae→Q (.bl (p6 hs l)) ae):Ds T vs H Q cW
section
variable {P:Program}{w:World}{K:Frag}{mg:Str→Option Value}{base:Heap}
theorem Dt(T:Tp K mg):OkN P w base 1 T.aJ (Ds T):=by
 refine T.aJ.F.okX I9 (λvs H Q E h=>?_) (λcz A outer s H vs Q E bq h=>?_)
 ·obtain⟨a,b,hs,l,xs,rfl,_⟩:=h
  rfl
 ·have hu:=bq.hu;obtain⟨a,b,hs,l,xs,rfl,bF,a_,bD,bq,hz,q⟩:=h;have Ma:l.length=xs.length:=Paired.length bD;refine⟨_,(b4 (c0 (dI (y7 (K:=K) rfl rfl) (by rfl) T.ax PyProof.Rows.boot_all (br (lF (xs:=["belt","take"]) rfl (fq (x:="belt") (zs:=["heaps"]) (ix:=[0]) (cu uV) ["heaps","takes"] rfl rfl (by decide+kernel)) (ey (K:=K) rfl (pv 1)) (λck C s H fp=>⟨(hY (K:=K) (n:=2) rfl rfl (d8 (cG (i:=0) (show(["belt","take","heaps"]:List Str).Nodup by decide+kernel) rfl (Or.inl rfl)) (d8 (cG (i:=1) (show(["belt","take","heaps"]:List Str).Nodup by decide+kernel) rfl (Or.inl rfl)) hN))),gF,(nH o4 (cw (ixk K) (pv 2) (pv 0) (λ_ _=>rfl)) (pv 1) (dM _))⟩)) bB)))),?_⟩
  try dsimp only[L2.cxX,L2.ZN,L2.Zl]
  walk_at "rds";refine YO (own:=2) (ew a_).y (dj (by omega)) (λi=>[some (.int (l.getD i (0,0)).1),some (.int (l.getD i (0,0)).2)]) (λ_=>rfl) (λ_=>true) (λi v _=>v= .bl (decide ((l.getD i (0,0)).2≤hs.getD (l.getD i (0,0)).1.toNat 0))) (λ_ _ _ _ _ z=>z) (λi dA ae v bv hD hi bV y ga k=>?_) (λi ae c4 hi bV k=>?_) (λkg i ae c4 hi bu hp0 iv bV k=>?_) (λr ae ys jk bV e' dk=>?_)
  ·obtain⟨rfl,rfl⟩:=y;obtain⟨x1,x2,rfl⟩:∃x1 x2,dA=[x1,x2]:=by
    match dA,ga with
    | [x1,x2],_=>exact⟨x1,x2,rfl⟩
   obtain⟨v,b_,t,rfl,b3⟩:=Paired.get bD (GT (show i<l.length by omega));have cV:xs.getD i .non= .ref t:=by simp[List.getD,b_]
   have io:l.getD i (0,0)=l[i]:=by simp[List.getD,show i<l.length by omega]
   rw[cV];rw[io] at k;refine Rd.Vu (.of (bV _ _ b3)) rfl ?_;walk_at "rds";exact k _ (Ze.refl _)
  ·walk_at "rds";exact k ae (Ze.refl ae)
  ·have io:l.getD i (0,0)=l[i]:=by simp[List.getD,show i<l.length by omega]
   obtain⟨ph,cm⟩:=bq _ (GM (show i<l.length by omega));rw[io] at k⊢;generalize l[i]=x at*;have RB:=bV.seq bF;have h1:=j4 ph cm;walk_at "rds";exact k _ ae (Ze.refl ae) rfl
  ·have e:ys=(l.map λx=>decide (x.2≤hs.getD x.1.toNat 0)).map V.bl:=by
    rw[ru (R:=λi v _=>v=V.bl (decide ((l.getD i (0,0)).2≤hs.getD (l.getD i (0,0)).1.toNat 0))) (H:=ae) (r:=λi=>V.bl (decide ((l.getD i (0,0)).2≤hs.getD (l.getD i (0,0)).1.toNat 0))) (λ_ _ z=>z) dk,qaA.mpr (by simp),←Ma];refine qay (by simp) λi bj bp=>?_;have hi:i<l.length:=by simpa using bj
    have io:l.getD i (0,0)=l[i]:=by simp[List.getD,hi]
    rw[qbf,qbf,qbf,List.getElem_range,io]
   rw[e] at e';walk_at "rds";have bK:(l.map λx=>decide (x.2≤hs.getD x.1.toNat 0)).all id=p6 hs l:=by rw[List.all_map];rfl
   rw[bK];exact q ae bV
end
inductive Du{K:Frag}{mg:Str→Option Value}(T:Tp K mg)(vs:List V)(H:Hp)(Q:VK)(E:XK):Prop
 |mk (p s:Addr) (ls:List B5) (rs st:List Int) (cQ:vs=[.ref p,.ref s]) (cH:m5 T H p ls rs) (cI:SqL K H s (st.map V.int)) (dz:st.length=ls.length) (en:ZI ls rs.length) (eP:ls.length≤1000) (fx:rs.length≤1000) (gw:(∀r∈rs,1≤r)) (j8:tot rs≤1000) (m_:∀(r:Addr)(ae:Hp)(ce:List Nat)(d:Nat→Nat),H r=none→Ze H ae→ae r=some (.lst (ce.map λw:Nat=>V.int w))→Fire.Wb (lO ls st rs) (λ_=>0) ce d→(∀w,¬hm ls st rs d w)→Q (.ref r) ae):Du T vs H Q E
section
variable {P:Program}{w:World}{K:Frag}{mg:Str→Option Value}{base:Heap}
theorem Mb(T:Tp K mg):OkM P w mg base 2 T.a6 (Du T):=by
 have Dv:=T.t;have Dw:=T.z;refine T.a6.F.okX jG (λvs H Q E h=>?_) (λcz A outer s H vs Q E bq h=>?_)
 ·obtain⟨p,s,ls,rs,st,rfl,_⟩:=h
  rfl
 ·have hu:=bq.hu;obtain⟨p,s,ls,rs,st,rfl,bu,hs,g4,cN,hz,bO,oh,RC,q⟩:=h;obtain⟨bx,a,b,c,RD,e,cn,og,g9,bs,bj,bp,bT,cy,dJ,db,iQ,m6,vh,p8⟩:=id bu;have Mc:∀v<rs.length,1≤f3 rs v:=λv b_=>by
   have:=oh rs[v] (GM b_);simp only[f3,List.getD,GT b_,Option.getD_some];omega
  refine⟨_,(bN (cB (i:=2) jG.nd rfl (Or.inr rfl) (kE (mL (K:=K) rfl) (by rfl) T.j qaM (br (pv 1) bB)))
     (bN (cB (i:=3) jG.nd rfl (Or.inl rfl) (kE (mL (K:=K) rfl) (by rfl) T.j qaM (br (eK (K:=K) rfl (pv 0) rfl) bB)))
     (bN (uv (j:=4) (xs:=["takes"]) rfl (fq (x:="takes") (zs:=["heaps"]) (ix:=[2]) (cu uW) ["self","starts","heaps","left","able","row","work","belt","take","give","other"] rfl rfl (by decide+kernel)) (ey (K:=K) rfl (eK (K:=K) rfl (pv 0) rfl)) (λck C s H fp=>⟨(cG (i:=0) (show(["takes","heaps"]:List Str).Nodup by decide+kernel) rfl (Or.inl rfl)),gF,(c5 T.aJ (Dt T) bq Ud (br (pv 1) (br (pv 0) bB)))⟩) jG.nd rfl (Or.inl rfl))
     (bN (cB (i:=5) jG.nd rfl (Or.inl rfl) (fW bB))
     (bN (qW PassesOwn.leaving (dg (pF (K:=K) rfl) Wa (pv 4) (by with_unfolding_all rfl)) (bN (cB (i:=6) jG.nd rfl (Or.inl rfl) (fr (K:=K) rfl qah qaY qaZ Hu (pv 4) (br Wa bB)))
     (bN (eo (fr (K:=K) rfl qah qas qat hg (pv 5) (br (pv 6) bB)))
     (bN (tw (pv 3) (pv 6) (ux (K:=K) rfl) b0 yh kF)
     (bN (eB PassesOwn.leaving rfl (ey (K:=K) rfl (cw (ixk K) (eK (K:=K) rfl (pv 0) rfl) (pv 6) (λ_ _=>rfl))) (hY (K:=K) (n:=2) rfl rfl (d8 (cG (i:=7) jG.nd rfl (Or.inl rfl)) (d8 (cG (i:=8) jG.nd rfl (Or.inl rfl)) hN))) (b4 (tw (pv 2) (pv 7) (ux (K:=K) rfl) (pv 8) yh kF)))
     (bN (eB PassesOwn.leaving rfl (ey (K:=K) rfl (cw (ixk K) (eK (K:=K) rfl (pv 0) rfl) (pv 6) (λ_ _=>rfl))) (hY (K:=K) (n:=2) rfl rfl (d8 (cG (i:=7) jG.nd rfl (Or.inl rfl)) (d8 (cG (i:=9) jG.nd rfl (Or.inl rfl)) hN))) (b4 (tw (pv 2) (pv 7) (ux (K:=K) rfl) (pv 9) yg kF)))
     (b4 (eB PassesOwn.leaving rfl (ey (K:=K) rfl (cw (ixk K) (eK (K:=K) rfl (pv 0) rfl) (pv 6) (λ_ _=>rfl))) (cG (i:=10) jG.nd rfl (Or.inl rfl)) (b4 (h8 (nB (nH nG (cw (ixk K) (pv 3) (pv 10) (λ_ _=>rfl)) b0 (dM _)) (oW (c5 T.aJ (Dt T) bq cp (br (pv 2) (br (cw (ixk K) (eK (K:=K) rfl (pv 0) rfl) (pv 10) (λ_ _=>rfl)) bB))))) (iB (pv 4) (pv 10) kF)))))))))))
     (b4 (c0 (pv 5)))))))),?_⟩
  try dsimp only[L2.cxX,L2.ZN,L2.Zl]
  walk_at "rds";refine Rd.UO hs (λh wx=>?_);have bw:Ze H (upd H h (.lst (st.map V.int))):=cK wx;have h5:(upd H h (.lst (st.map V.int))) h=some (.lst (st.map V.int)):=Zd;generalize upd H h (.lst (st.map V.int))=bn at*;have g1:=bw _ _ bj;have g2:=bw _ _ bp;walk_at "rds";refine Rd.UO (.of g2) (λl m3=>?_);have bU:Ze bn (upd bn l (.lst (rs.map V.int))):=cK m3;have f_:(upd bn l (.lst (rs.map V.int))) l=some (.lst (rs.map V.int)):=Zd;generalize upd bn l (.lst (rs.map V.int))=bv at*;have e6:=bU _ _ h5;have Md:H l=none:=eX bw m3;have fy:=bw.trans bU;have k1:=fy _ _ bj;have k5:=fy _ _ dJ;have ea:hG ls st (λ_=>0)=st:=by
   refine qay (by rw[iu g4,g4]) λj a1 a2=>?_;rw[m4 g4 (by omega)];unfold Fire.lie fB;simp
  have Me:cn.length=rs.length:=by rw[db.len];simp[p7]
  walk_at "rds";refine YO (own:=1) (ew (SqL.of k5)).y (dj (by rw[GE];omega)) (λi=>[some (.ref (cn.getD i 0))]) (λ_=>rfl) (λ_=>true) (λ(i:Nat) v _=>v= .bl (gO ls st rs (λ_=>0) i)) (λ_ _ _ _ _ z=>z) (λi dA ae v bv hD hi bV y ga k=>?_) (λi ae c4 hi bV k=>?_) (λkg i ae c4 hi bu hp0 hp1' bV k=>?_) (λab b9 ys hab0 bS Dx dk=>?_)
  ·obtain⟨rfl,rfl⟩:=y;obtain⟨x1,rfl⟩:∃x1,dA=[x1]:=by
    match dA,ga with
    | [x1],_=>exact⟨x1,rfl⟩
   have dN:i<cn.length:=by simpa using hi
   have c3:(cn.map V.ref).getD i .non= .ref (cn.getD i 0):=by simp[List.getD,dN]
   rw[c3];walk_at "rds";exact k _ (Ze.refl _)
  ·walk_at "rds";exact k ae (Ze.refl ae)
  ·have dN:i<rs.length:=by rw[GE] at hi;omega
   obtain⟨x,bG,vs,bK,de⟩:=Paired.get db (i:=i) (x:=g8 ls i) (by simp[p7,dN]);have ex:cn.getD i 0=x:=by simp[List.getD,bG]
   rw[ex];have Dy:=fy.trans bV;have dP:=ZcH (ls:=ls) (w:=i);walk_at "rds";refine⟨h,x,st,g8 ls i,vs,rfl,.of (bV _ _ e6),.of (Dy _ _ bK),de.keep λ_ _ z=>Dy _ _ z,A7 g4,by omega,λb1 cC=>?_⟩;refine k _ b1 cC ?_;rw[ZdP g4];unfold gO;rw[ea,decide_eq_true (show(λ_=>0) i<f3 rs i from Mc i dN),Bool.true_and]
  rw[qaA.mpr (by simp),GE,Me] at dk;have Mf:ys=(hZ ls st rs (λ_=>0)).map V.bl:=by
   have:∀{is:List Nat}{zs:List V},Paired (λ(i:Nat) v=>v=V.bl (gO ls st rs (λ_=>0) i)) is zs→zs=(is.map λi=>gO ls st rs (λ_=>0) i).map V.bl:=by
    intro is zs h
    induction h with
    |nil=>rfl
    |cons a _ bQ=>rw[a,bQ];rfl
   exact this dk
  subst Mf;have gf:=bS _ _ e6;have k8:=bS _ _ f_;walk_at "rds";refine⟨qau _,λr fi=>?_⟩;have ca:Ze b9 (upd b9 r (.lst [])):=cK fi;have ff:(upd b9 r (.lst [])) r=some (.lst []):=Zd;generalize upd b9 r (.lst [])=b7 at*;have f5:=fy.trans (bS.trans ca);have Mg:=ca _ _ Dx;have iU:=ca _ _ gf;have iL:=ca _ _ k8;have wy:h≠l:=dw h5 m3;have sR:h≠ab:=dw e6 hab0;have wz:l≠ab:=dw f_ hab0;have wA:h≠r:=dw gf fi;have sh:l≠r:=dw k8 fi;have wB:ab≠r:=dw Dx fi;have Dz:H ab=none:=eX fy hab0;have sN:H r=none:=eX (fy.trans bS) fi;have Mh:eM rs (λ_=>0)=rs:=by
   refine qay (by simp[eM]) λv a1 a2=>?_;have:=oh rs[v] (GM a2);simp[eM,f3,List.getD,a2];omega
  walk_at "rds";refine ZdW (λm af ae=>∃(ce:List Nat)(d:Nat→Nat)(a1 a2 a3 a4 a5:Option V),m=tot rs-ce.length∧af=[some (.ref p),some (.ref s),some (.ref h),some (.ref l),some (.ref ab),some (.ref r),a1,a2,a3,a4,a5]∧Ze H ae∧Fire.Wb (lO ls st rs) (λ_=>0) ce d∧ae h=some (.lst ((hG ls st d).map V.int))∧ae l=some (.lst ((eM rs d).map V.int))∧ae ab=some (.lst ((hZ ls st rs d).map V.bl))∧ae r=some (.lst (ce.map λw:Nat=>V.int w))) _ ⟨[],λ_=>0,_,_,_,_,_,rfl,rfl,f5,.nil _,by rw[ea];exact iU,by rw[Mh];exact iL,Mg,ff⟩ ?_;rintro m af b1 ⟨ce,d,a1,a2,a3,a4,a5,rfl,rfl,cC,hL,vB,Mi,wC,j_⟩;walk_at "rds";refine⟨ab,_,rfl,.inl (SqL.of wC),rfl,JH _,?_⟩;rw[if_neg (by decide),Bd];walk_at "rds";refine U7 (λc=>ZfM ?_) (λc=>?_)
  ·have d5:true∈hZ ls st rs d:=by simpa using c
   obtain⟨w,kc,DB⟩:=Be d5;have l9:w<rs.length:=by have:=(FM.mp kc).1;rw[JB] at this;exact this
   have DC:hm ls st rs d w:=by
    rw[ZgI l9] at kc;exact(vf g4 cN l9).mp (qan kc)
   have Mj:lO ls st rs d w:=⟨DC,λv b_=>by
    have:=DB v b_;rw[ZgI (by omega)] at this;exact(JA g4 cN (by omega)).mp (qan this)⟩
   have Ml:=hL.snoc Mj;have cJ:=ZlU (r6 hL) DC;have eU:(0:Int)≤(w:Int):=qaS w;have Br:(ce.map λw:Nat=>V.int w).length<sizeLine:=dj (by rw[GE];omega);have RE:(w:Int)<((eM rs d).map V.int).length:=by rw[GE,vg];omega
   walk_at "rds";refine Rd.Zmz wC kc DB ?_;walk_at "rds";have ef:Ze H (upd b1 r (.lst ((ce.map λw:Nat=>V.int w)++ [.int w]))):=cC.new sN;have wD:(upd b1 r (.lst ((ce.map λw:Nat=>V.int w)++ [.int w]))) r=some (.lst ((ce++ [w]).map λw:Nat=>V.int w)):=by rw[Zd];simp
   have oH:(upd b1 r (.lst ((ce.map λw:Nat=>V.int w)++ [.int w]))) h=some (.lst ((hG ls st d).map V.int)):=by rw[b5 wA];exact vB
   have Mm:(upd b1 r (.lst ((ce.map λw:Nat=>V.int w)++ [.int w]))) l=some (.lst ((eM rs d).map V.int)):=by rw[b5 sh];exact Mi
   have DD:(upd b1 r (.lst ((ce.map λw:Nat=>V.int w)++ [.int w]))) ab=some (.lst ((hZ ls st rs d).map V.bl)):=by rw[b5 wB];exact wC
   generalize upd b1 r (.lst ((ce.map λw:Nat=>V.int w)++ [.int w]))=cR at*;have wE:=j4 (ns:=eM rs d) eU (by rw[vg];omega);walk_at "rds";have sg:((eM rs d).map V.int).set (w:Int).toNat (V.int ((eM rs d).getD (w:Int).toNat 0-1))=(eM rs (Fire.bump d w)).map V.int:=by
    rw[qab,←Zil l9,qbK]
   rw[sg];have et:Ze H (upd cR l (.lst ((eM rs (Fire.bump d w)).map V.int))):=ef.new Md;have Mn:(upd cR l (.lst ((eM rs (Fire.bump d w)).map V.int))) l=some (.lst ((eM rs (Fire.bump d w)).map V.int)):=Zd;have nh:(upd cR l (.lst ((eM rs (Fire.bump d w)).map V.int))) r=_:=(b5 sh.symm).trans wD;have Mo:(upd cR l (.lst ((eM rs (Fire.bump d w)).map V.int))) h=_:=(b5 wy).trans oH;have Mp:(upd cR l (.lst ((eM rs (Fire.bump d w)).map V.int))) ab=_:=(b5 wz.symm).trans DD;generalize upd cR l (.lst ((eM rs (Fire.bump d w)).map V.int))=dt at*;clear wD oH DD Mm wE sg;obtain⟨x,vs,h1,bo,DE⟩:=db.at eU (l:=g8 ls w) (by simp[p7,l9]);obtain⟨y,sD,om,bR,DF⟩:=m6.at eU (l:=oe ls w) (by simp[A',l9]);obtain⟨ms,pS,DG⟩:=p8.2 w l9;have RF:atI (g9.map V.ref) (w:Int)=some (.ref (g9.getD w 0)):=gY (by rw[qaj,GT (show w<g9.length by rw[p8.1];exact l9)];simp[List.getD,show w<g9.length by rw[p8.1];exact l9]);have fu:=et _ _ bj;have r4:=et _ _ dJ;have fO:=et _ _ bo;have fo:vs.length=(eG ls w).length:=by rw[←Paired.length DE];unfold g8;simp
   have Mq:sD.length=(dW ls w).length:=by rw[←Paired.length DF];unfold oe;simp
   have lI:=iu (d:=d) g4;generalize Mr:hG ls st d=hs0 at*;walk_at "rds";refine Z5 (ew (SqL.of bo)) (λj af ae=>Ze H ae∧(∃a2 a3 a4 a5,af=[some (.ref p),some (.ref s),some (.ref h),some (.ref l),some (.ref ab),some (.ref r),some (.int w),a2,a3,a4,a5])∧ae l=some (.lst ((eM rs (Fire.bump d w)).map V.int))∧ae r=some (.lst ((ce++ [w]).map λw:Nat=>V.int w))∧ae ab=some (.lst ((hZ ls st rs d).map V.bl))∧ae h=some (.lst ((bump (λi=>-(ls.getD i dB).take) hs0 ((eG ls w).take j)).map V.int))) ⟨et,⟨_,_,_,_,rfl⟩,Mn,nh,Mp,Mo⟩ (λi af ae h=>h.1) ?_ ?_
   ·rintro j af eJ bC ⟨eV,⟨a2,a3,a4,a5,rfl⟩,wF,np,wG,li⟩;have fZ:j<(eG ls w).length:=by omega
    obtain⟨t,fP,eH⟩:=Zj5 DE fZ;have cJ:=ZbA (GM fZ);have nV:=Zfh (f:=λi=>-(ls.getD i dB).take) (hs:=hs0) fZ;rw[fP];refine Rd.Vu (.of (eV _ _ eH)) rfl ?_;generalize (eG ls w)[j]=m at*;have bl:=W7 (λi=>-(ls.getD i dB).take) ((eG ls w).take j) hs0;generalize bump (λi=>-(ls.getD i dB).take) hs0 ((eG ls w).take j)=us at*;have Ms:=j4 (ns:=us) (k:=(m:Int)) (qaS m) (by omega);have Mt:(m:Int)<((us.map V.int).length:Int):=by simp;omega
    walk_at "rds";refine⟨eV.new wx,⟨_,_,_,_,rfl⟩,by rw[b5 wy.symm];exact wF,by rw[b5 wA.symm];exact np,by rw[b5 sR.symm];exact wG,?_⟩;rw[Zd,nV,qbK]
    rfl
   ·rintro af eJ ⟨eV,⟨a2,a3,a4,a5,rfl⟩,wF,np,wG,li⟩;have RG:=eV _ _ bj;have RH:=eV _ _ iQ;have RI:=eV _ _ bR;rw[fo,qax] at li;walk_at "rds";have bl:=W7 (λi=>-(ls.getD i dB).take) (eG ls w) hs0;refine Z5 (ew (SqL.of bR)) (λj af ae=>Ze H ae∧(∃a2 a3 a4 a5,af=[some (.ref p),some (.ref s),some (.ref h),some (.ref l),some (.ref ab),some (.ref r),some (.int w),a2,a3,a4,a5])∧ae l=some (.lst ((eM rs (Fire.bump d w)).map V.int))∧ae r=some (.lst ((ce++ [w]).map λw:Nat=>V.int w))∧ae ab=some (.lst ((hZ ls st rs d).map V.bl))∧ae h=some (.lst ((bump (λi=>(ls.getD i dB).give) (bump (λi=>-(ls.getD i dB).take) hs0 (eG ls w)) ((dW ls w).take j)).map V.int))) ⟨eV,⟨_,_,_,_,rfl⟩,wF,np,wG,li⟩ (λi af ae h=>h.1) ?_ ?_
    ·rintro j af gI bC ⟨gH,⟨a2,a3,a4,a5,rfl⟩,sf,qt,wH,ll⟩;have fZ:j<(dW ls w).length:=by omega
     obtain⟨t,fP,eH⟩:=Zj5 DF fZ;have cJ:=Zak (GM fZ);have nV:=Zfh (f:=λi=>(ls.getD i dB).give) (hs:=bump (λi=>-(ls.getD i dB).take) hs0 (eG ls w)) fZ;rw[fP];refine Rd.Vu (.of (gH _ _ eH)) rfl ?_;generalize (dW ls w)[j]=m at*;have RJ:=W7 (λi=>(ls.getD i dB).give) ((dW ls w).take j) (bump (λi=>-(ls.getD i dB).take) hs0 (eG ls w));generalize bump (λi=>(ls.getD i dB).give) (bump (λi=>-(ls.getD i dB).take) hs0 (eG ls w)) ((dW ls w).take j)=us at*;have Ms:=j4 (ns:=us) (k:=(m:Int)) (qaS m) (by omega);have Mt:(m:Int)<((us.map V.int).length:Int):=by simp;omega
     walk_at "rds";refine⟨gH.new wx,⟨_,_,_,_,rfl⟩,by rw[b5 wy.symm];exact sf,by rw[b5 wA.symm];exact qt,by rw[b5 sR.symm];exact wH,?_⟩;rw[Zd,nV,qbK]
     rfl
    ·rintro af gI ⟨gH,⟨a2,a3,a4,a5,rfl⟩,sf,qt,wH,ll⟩;rw[Mq,qax,Jy lI] at ll;have RK:=gH _ _ bj;have RL:=gH _ _ dJ;have RM:=gH _ _ vh;have Km:=gH _ _ pS;walk_at "rds";rw[←Mr,JD g4 cN] at ll;have DH:=iu (d:=Fire.bump d w) g4;refine Z5 (ew (SqL.of pS)) (λj af ae=>Ze H ae∧(∃a2 a3 a4 a5,af=[some (.ref p),some (.ref s),some (.ref h),some (.ref l),some (.ref ab),some (.ref r),some (.int w),a2,a3,a4,a5])∧ae l=some (.lst ((eM rs (Fire.bump d w)).map V.int))∧ae r=some (.lst ((ce++ [w]).map λw:Nat=>V.int w))∧ae h=some (.lst ((hG ls st (Fire.bump d w)).map V.int))∧ae ab=some (.lst ((iR ls st rs d (Fire.bump d w) (ms.take j)).map V.bl))) ⟨gH,⟨_,_,_,_,rfl⟩,sf,qt,ll,by rw[List.take_zero,JI];exact wH⟩ (λi af ae h=>h.1) ?_ ?_
     ·rintro j af fY bC ⟨gc,⟨a2,a3,a4,a5,rfl⟩,qA,sT,lm,sU⟩;have fZ:j<ms.length:=by simpa using bC
      have c3:(ms.map V.int).getD j .non= .int ms[j]:=by simp[List.getD,fZ]
      have pL:=(DG.2 ms[j]).mp (GM fZ);have fR:0≤ms[j]∧ms[j]<(rs.length:Int):=by
       rcases pL with z|⟨i,hi,z⟩
       ·omega
       ·have cs:=Zak hi;have A_:=cN ls[i] (GM cs);rw[el cs] at z;omega
      obtain⟨v,b_⟩:∃v:Nat,ms[j]=(v:Int):=⟨ms[j].toNat,by omega⟩;have DI:v<rs.length:=by omega
      have j9:ms.take (j+1)=ms.take j++ [(v:Int)]:=by rw[qad fZ,b_]
      rw[c3,b_];obtain⟨x2,Mu,RN,jd,Mv⟩:=db.at (w:=(v:Int)) (qaS v) (l:=g8 ls v) (by simp[p7,DI]);have fI:=gc _ _ bj;have m':=gc _ _ dJ;have Mw:=gc _ _ jd;have dP:=ZcH (ls:=ls) (w:=v);have wE:=j4 (ns:=eM rs (Fire.bump d w)) (k:=(v:Int)) (qaS v) (by rw[vg];omega);rw[qab,A8 DI] at wE;have RO:(v:Int)<(((iR ls st rs d (Fire.bump d w) (ms.take j)).map V.bl).length:Int):=by simp[iR];omega
      walk_at "rds";refine U7 (λe4=>?_) (λe4=>?_)
      ·have Mx:Fire.bump d w v<f3 rs v:=by have:=of_decide_eq_true e4;omega
       walk_at "rds";refine⟨h,x2,hG ls st (Fire.bump d w),g8 ls v,Mu,rfl,.of lm,.of Mw,Mv.keep λ_ _ z=>gc _ _ z,A7 DH,by omega,λii jY=>?_⟩;rw[ZdP DH];have pT:WL ls (hG ls st (Fire.bump d w)) v=gO ls st rs (Fire.bump d w) v:=by unfold gO;rw[decide_eq_true Mx,Bool.true_and]
       rw[pT];have RP:=jY _ _ sU;have Mz:=jY _ _ qA;have MA:=jY _ _ sT;have oL:=jY _ _ lm;walk_at "rds";refine⟨(gc.trans jY).new Dz,⟨_,_,_,_,rfl⟩,by rw[b5 wz];exact Mz,by rw[b5 wB.symm];exact MA,by rw[b5 sR];exact oL,?_⟩;rw[Zd,j9,←Zfi,qbK]
       rfl
      ·have n4:¬Fire.bump d w v<f3 rs v:=by
        have:=of_decide_eq_false (by simpa using e4:decide (0<(f3 rs v:Int)-(Fire.bump d w v:Int))=false);omega
       have pT:gO ls st rs (Fire.bump d w) v=false:=by unfold gO;rw[decide_eq_false n4,Bool.false_and]
       walk_at "rds";refine⟨gc.new Dz,⟨_,_,_,_,rfl⟩,by rw[b5 wz];exact qA,by rw[b5 wB.symm];exact sT,by rw[b5 sR];exact lm,?_⟩;rw[Zd,j9,←Zfi,qbK,pT]
       rfl
     ·rintro af fY ⟨gc,⟨a2,a3,a4,a5,rfl⟩,qA,sT,lm,sU⟩;rw[GE,qax,JJ g4 cN DG] at sU;walk_at "rds";exact⟨tot rs-(ce++ [w]).length,by rw[qaT,List.length_singleton];omega,ce++ [w],Fire.bump d w,_,_,_,_,_,rfl,rfl,gc,Ml,lm,qA,sU,sT⟩
  ·walk_at "rds";exact q r b1 ce d sN cC j_ hL (JC g4 cN (by simpa using c))
end
inductive DJ{K:Frag}{mg:Str→Option Value}(T:Tp K mg)(vs:List V)(H:Hp)(Q:VK)(E:XK):Prop
 |mk (p:Addr) (w:Int) (aj:HM) (fp:List Addr) (cQ:vs=[.ref p,.int w]) (cH:c2 T H p aj fp) (cI:aj.belts.length≤1000) (dz:(¬(0≤w∧w<aj.names.length)→E (.ref T.o) none H)) (en:(0≤w→w<aj.names.length→∀r ae,H r=none→Ze H ae→ae r=some (.lst ((eG aj.belts w).map λi:Nat=>V.int i))→Q (.ref r) ae)):DJ T vs H Q E
section
variable {P:Program}{w:World}{K:Frag}{mg:Str→Option Value}{base:Heap}
theorem MB(T:Tp K mg):OkM P w mg base 5 T.a7 (DJ T):=by
 have eZ:=T.a;have e0:=T.e;refine T.a7.F.okX I_ (λvs H Q E h=>?_) (λcz A outer s H vs Q E bq h=>?_)
 ·obtain⟨p,w,aj,fp,rfl,_⟩:=h
  rfl
 ·have hu:=bq.hu;obtain⟨p,w,aj,fp,rfl,b6,hz,bG,q⟩:=h;obtain⟨bx,a,b,bs,rfl,bj,bp,bT,cy,f4,db⟩:=id b6;have a_:=db.length;refine⟨_,(bN (eo (fG (pv 0) T.a T.aa (qa T) bq cp (br (pv 1) bB)))
     (b4 (c0 (lF (xs:=["belt","row"]) rfl (fq (x:="belt") (zs:=["work"]) (ix:=[1]) (cu uX) ["self","work"] rfl rfl (by decide+kernel)) (pI (K:=K) rfl rfl T.k (br (eK (K:=K) rfl (pv 0) rfl) bB)) (λck C s H fp=>⟨(hY (K:=K) (n:=2) rfl rfl (d8 (cG (i:=0) (show(["belt","row","work"]:List Str).Nodup by decide+kernel) rfl (Or.inl rfl)) (d8 (cG (i:=1) (show(["belt","row","work"]:List Str).Nodup by decide+kernel) rfl (Or.inl rfl)) hN))),(nR (dg (ij (K:=K) rfl hu) (cw (ixk K) (pv 1) b0 (λ_ _=>rfl)) (pv 2) (dM _))),(pv 0)⟩))))),?_⟩
  try dsimp only[L2.cxX,L2.ZN,L2.Zl]
  walk_at "rds";refine⟨p,w,aj,_,rfl,b6,bG,λeU fU=>?_⟩;walk_at "rds";refine YO (own:=2) (pJ (SqL.of cy)) (dj (by omega)) (λi=>[some (.int i),some (bs.getD i .non)]) (λ_=>rfl) (λi=>decide ((aj.belts.getD i dB).taker=w)) (λi v _=>v= .int i) (λ_ _ _ _ _ z=>z) (λi dA ae v bv hD hi bV y bF k=>?_) (λi ae c4 hi bV k=>?_) (λkg i ae c4 hi bu hp0 iv bV k=>?_) (λr ae ys bq bV e' dk=>?_)
  ·obtain⟨t,b3,rfl,rfl⟩:=y;obtain⟨x1,x2,rfl⟩:∃x1 x2,dA=[x1,x2]:=by
    match dA,bF with
    | [x1,x2],_=>exact⟨x1,x2,rfl⟩
   refine Rd.Vu (.of Zd) rfl ?_;walk_at "rds";exact k _ (cK b3)
  ·obtain⟨t,fP,eH⟩:=db.getD (i:=i) (by omega);rw[fP];have h2:=bV _ _ eH;generalize aj.belts.getD i dB=bb at*;dsimp only[B5.v] at h2;walk_at "rds";exact k ae (Ze.refl ae)
  ·walk_at "rds";exact k _ ae (Ze.refl ae) rfl
  ·refine q eU fU r ae bq bV ?_;rw[e',ru (R:=λi v _=>v=V.int (i:Nat)) (H:=ae) (r:=λi:Nat=>V.int i) (λ_ _ z=>z) dk,a_]
   rfl
end
inductive DK{K:Frag}{mg:Str→Option Value}(T:Tp K mg)(vs:List V)(H:Hp)(Q:VK)(E:XK):Prop
 |mk (p:Addr) (w:Int) (aj:HM) (fp:List Addr) (cQ:vs=[.ref p,.int w]) (cH:c2 T H p aj fp) (cI:aj.belts.length≤1000) (dz:0≤w) (en:w<aj.names.length) (eP:∀r ae ys,H r=none→Ze H ae→ae r=some (.lst ys)→Vp ae (g8 aj.belts w) ys→Q (.ref r) ae):DK T vs H Q E
section
variable {P:Program}{w:World}{K:Frag}{mg:Str→Option Value}{base:Heap}
theorem MC(T:Tp K mg):OkN P w base 6 T.a8 (DK T):=by
 have eZ:=T.a;have e0:=T.e;refine T.a8.F.okX I' (λvs H Q E h=>?_) (λcz A outer s H vs Q E bq h=>?_)
 ·obtain⟨p,w,aj,fp,rfl,_⟩:=h
  rfl
 ·have hu:=bq.hu;obtain⟨p,w,aj,fp,rfl,b6,hz,eU,fU,q⟩:=h;refine⟨_,(b4 (c0 (lF (xs:=["belt"]) rfl (fq (x:="belt") (zs:=["hall"]) (ix:=[0]) (cu uY) ["hall","work"] rfl rfl (by decide+kernel)) (ey (K:=K) rfl (fG (pv 0) T.a T.a7 (MB T) bq cp (br (pv 1) bB))) (λck C s H fp=>⟨(cG (i:=0) (show(["belt","hall"]:List Str).Nodup by decide+kernel) rfl (Or.inl rfl)),gF,(hA (br (pv 0) (br (cw (ixk K) (fG (pv 1) T.a T.ak (sE T) bq Ud (br (pv 0) bB)) b0 (λ_ _=>rfl)) bB)))⟩)))),?_⟩
  try dsimp only[L2.cxX,L2.ZN,L2.Zl]
  walk_at "rds";refine⟨p,w,aj,fp,rfl,b6,hz,λz=>absurd ⟨eU,fU⟩ z,λ_ _ e bn bL bw lU=>?_⟩;have h5:=b6.same bw;have io:=ZdB (ls:=aj.belts) (w:=w);walk_at "rds";refine YO (own:=1) (ew (SqL.of lU)).y (dj (by rw[GE];omega)) (λi=>[some (.int ((eG aj.belts w).getD i 0:Nat))]) (λ_=>rfl) (λ_=>true) (λi v H=>∃t,v=V.ref t∧H t=some (.tup [.int ((eG aj.belts w).getD i 0:Nat),.int (aj.belts.getD ((eG aj.belts w).getD i 0) dB).take])) (λ_ _ _ _ e ⟨t,cH,cI⟩=>⟨t,cH,e _ _ cI⟩) (λi dA ae v bv hD hi bV y ga k=>?_) (λi ae c4 hi bV k=>?_) (λkg i ae c4 hi bu hp0 iv bV k=>?_) (λr ae ys jk bV e' dk=>?_)
  ·obtain⟨rfl,rfl⟩:=y;obtain⟨x1,rfl⟩:∃x1,dA=[x1]:=by
    match dA,ga with
    | [x1],_=>exact⟨x1,rfl⟩
   have dN:i<(eG aj.belts w).length:=by simpa using hi
   have c3:((eG aj.belts w).map λi:Nat=>V.int i).getD i .non= .int ((eG aj.belts w).getD i 0:Nat):=by simp[List.getD,dN]
   rw[c3];walk_at "rds";exact k _ (Ze.refl _)
  ·walk_at "rds";exact k ae (Ze.refl ae)
  ·have dN:i<(eG aj.belts w).length:=by simpa using hi
   have bA:(eG aj.belts w).getD i 0∈eG aj.belts w:=by
    have:(eG aj.belts w).getD i 0=(eG aj.belts w)[i]:=by simp[List.getD,dN]
    rw[this];exact GM dN
   have cJ:=ZbA bA;generalize (eG aj.belts w).getD i 0=j at*;have e6:=h5.same bV;walk_at "rds";refine⟨p,(j:Int),aj,fp,rfl,e6,λz=>absurd ⟨qaS j,by omega⟩ z,λ_ _ t b a_ b3=>?_⟩;have fJ:aj.belts[j]? =some b:=a_;have cV:aj.belts.getD j dB=b:=by simp[List.getD,fJ]
   rw[cV] at k;dsimp only[B5.v] at b3;walk_at "rds";refine⟨by show 2≤sizeLine;decide,λu fw=>?_⟩;exact k _ _ (cK fw) ⟨u,rfl,zf iv fw⟩
  ·refine q r ae ys ?_ (bw.trans bV) e' ?_
   ·cases e:H r with
    |none=>rfl
    |some o=>rw[bw _ _ e] at jk;cases jk
   ·exact(A6 dk).keep λb xs z=>j0 _ _ z
end
inductive DL{K:Frag}{mg:Str→Option Value}(T:Tp K mg)(vs:List V)(H:Hp)(Q:VK)(E:XK):Prop
 |mk (p:Addr) (w:Int) (aj:HM) (fp:List Addr) (cQ:vs=[.ref p,.int w]) (cH:c2 T H p aj fp) (cI:aj.belts.length≤1000) (dz:(¬(0≤w∧w<aj.names.length)→E (.ref T.o) none H)) (en:(0≤w→w<aj.names.length→∀r ae,H r=none→Ze H ae→ae r=some (.lst ((dW aj.belts w).map λi:Nat=>V.int i))→Q (.ref r) ae)):DL T vs H Q E
section
variable {P:Program}{w:World}{K:Frag}{mg:Str→Option Value}{base:Heap}
theorem DM(T:Tp K mg):OkM P w mg base 5 T.aK (DL T):=by
 have eZ:=T.a;have e0:=T.e;refine T.aK.F.okX Ja (λvs H Q E h=>?_) (λcz A outer s H vs Q E bq h=>?_)
 ·obtain⟨p,w,aj,fp,rfl,_⟩:=h
  rfl
 ·have hu:=bq.hu;obtain⟨p,w,aj,fp,rfl,b6,hz,bG,q⟩:=h;obtain⟨bx,a,b,bs,rfl,bj,bp,bT,cy,f4,db⟩:=id b6;have a_:=db.length;refine⟨_,(bN (eo (fG (pv 0) T.a T.aa (qa T) bq cp (br (pv 1) bB)))
     (b4 (c0 (lF (xs:=["belt","row"]) rfl (fq (x:="belt") (zs:=["work"]) (ix:=[1]) (cu uZ) ["self","work"] rfl rfl (by decide+kernel)) (pI (K:=K) rfl rfl T.k (br (eK (K:=K) rfl (pv 0) rfl) bB)) (λck C s H fp=>⟨(hY (K:=K) (n:=2) rfl rfl (d8 (cG (i:=0) (show(["belt","row","work"]:List Str).Nodup by decide+kernel) rfl (Or.inl rfl)) (d8 (cG (i:=1) (show(["belt","row","work"]:List Str).Nodup by decide+kernel) rfl (Or.inl rfl)) hN))),(nR (dg (ij (K:=K) rfl hu) (cw (ixk K) (pv 1) b0 (λ_ _=>rfl)) (pv 2) (dM _))),(pv 0)⟩))))),?_⟩
  try dsimp only[L2.cxX,L2.ZN,L2.Zl]
  walk_at "rds";refine⟨p,w,aj,_,rfl,b6,bG,λeU fU=>?_⟩;walk_at "rds";refine YO (own:=2) (pJ (SqL.of cy)) (dj (by omega)) (λi=>[some (.int i),some (bs.getD i .non)]) (λ_=>rfl) (λi=>decide ((aj.belts.getD i dB).giver=w)) (λi v _=>v= .int i) (λ_ _ _ _ _ z=>z) (λi dA ae v bv hD hi bV y bF k=>?_) (λi ae c4 hi bV k=>?_) (λkg i ae c4 hi bu hp0 iv bV k=>?_) (λr ae ys bq bV e' dk=>?_)
  ·obtain⟨t,b3,rfl,rfl⟩:=y;obtain⟨x1,x2,rfl⟩:∃x1 x2,dA=[x1,x2]:=by
    match dA,bF with
    | [x1,x2],_=>exact⟨x1,x2,rfl⟩
   refine Rd.Vu (.of Zd) rfl ?_;walk_at "rds";exact k _ (cK b3)
  ·obtain⟨t,fP,eH⟩:=db.getD (i:=i) (by omega);rw[fP];have h2:=bV _ _ eH;generalize aj.belts.getD i dB=bb at*;dsimp only[B5.v] at h2;walk_at "rds";exact k ae (Ze.refl ae)
  ·walk_at "rds";exact k _ ae (Ze.refl ae) rfl
  ·refine q eU fU r ae bq bV ?_;rw[e',ru (R:=λi v _=>v=V.int (i:Nat)) (H:=ae) (r:=λi:Nat=>V.int i) (λ_ _ z=>z) dk,a_]
   rfl
end
inductive DN{K:Frag}{mg:Str→Option Value}(T:Tp K mg)(vs:List V)(H:Hp)(Q:VK)(E:XK):Prop
 |mk (p:Addr) (w:Int) (aj:HM) (fp:List Addr) (cQ:vs=[.ref p,.int w]) (cH:c2 T H p aj fp) (cI:aj.belts.length≤1000) (dz:0≤w) (en:w<aj.names.length) (eP:∀r ae ys,H r=none→Ze H ae→ae r=some (.lst ys)→Vp ae (oe aj.belts w) ys→Q (.ref r) ae):DN T vs H Q E
section
variable {P:Program}{w:World}{K:Frag}{mg:Str→Option Value}{base:Heap}
theorem MD(T:Tp K mg):OkN P w base 6 T.a9 (DN T):=by
 have eZ:=T.a;have e0:=T.e;refine T.a9.F.okX Jb (λvs H Q E h=>?_) (λcz A outer s H vs Q E bq h=>?_)
 ·obtain⟨p,w,aj,fp,rfl,_⟩:=h
  rfl
 ·have hu:=bq.hu;obtain⟨p,w,aj,fp,rfl,b6,hz,eU,fU,q⟩:=h;refine⟨_,(b4 (c0 (lF (xs:=["belt"]) rfl (fq (x:="belt") (zs:=["hall"]) (ix:=[0]) (cu u0) ["hall","work"] rfl rfl (by decide+kernel)) (ey (K:=K) rfl (fG (pv 0) T.a T.aK (DM T) bq cp (br (pv 1) bB))) (λck C s H fp=>⟨(cG (i:=0) (show(["belt","hall"]:List Str).Nodup by decide+kernel) rfl (Or.inl rfl)),gF,(hA (br (pv 0) (br (cw (ixk K) (fG (pv 1) T.a T.ak (sE T) bq Ud (br (pv 0) bB)) b0 (λ_ _=>rfl)) bB)))⟩)))),?_⟩
  try dsimp only[L2.cxX,L2.ZN,L2.Zl]
  walk_at "rds";refine⟨p,w,aj,fp,rfl,b6,hz,λz=>absurd ⟨eU,fU⟩ z,λ_ _ e bn bL bw lU=>?_⟩;have h5:=b6.same bw;have io:=Zef (ls:=aj.belts) (w:=w);walk_at "rds";refine YO (own:=1) (ew (SqL.of lU)).y (dj (by rw[GE];omega)) (λi=>[some (.int ((dW aj.belts w).getD i 0:Nat))]) (λ_=>rfl) (λ_=>true) (λi v H=>∃t,v=V.ref t∧H t=some (.tup [.int ((dW aj.belts w).getD i 0:Nat),.int (aj.belts.getD ((dW aj.belts w).getD i 0) dB).give])) (λ_ _ _ _ e ⟨t,cH,cI⟩=>⟨t,cH,e _ _ cI⟩) (λi dA ae v bv hD hi bV y ga k=>?_) (λi ae c4 hi bV k=>?_) (λkg i ae c4 hi bu hp0 iv bV k=>?_) (λr ae ys jk bV e' dk=>?_)
  ·obtain⟨rfl,rfl⟩:=y;obtain⟨x1,rfl⟩:∃x1,dA=[x1]:=by
    match dA,ga with
    | [x1],_=>exact⟨x1,rfl⟩
   have dN:i<(dW aj.belts w).length:=by simpa using hi
   have c3:((dW aj.belts w).map λi:Nat=>V.int i).getD i .non= .int ((dW aj.belts w).getD i 0:Nat):=by simp[List.getD,dN]
   rw[c3];walk_at "rds";exact k _ (Ze.refl _)
  ·walk_at "rds";exact k ae (Ze.refl ae)
  ·have dN:i<(dW aj.belts w).length:=by simpa using hi
   have bA:(dW aj.belts w).getD i 0∈dW aj.belts w:=by
    have:(dW aj.belts w).getD i 0=(dW aj.belts w)[i]:=by simp[List.getD,dN]
    rw[this];exact GM dN
   have cJ:=Zak bA;generalize (dW aj.belts w).getD i 0=j at*;have e6:=h5.same bV;walk_at "rds";refine⟨p,(j:Int),aj,fp,rfl,e6,λz=>absurd ⟨qaS j,by omega⟩ z,λ_ _ t b a_ b3=>?_⟩;have fJ:aj.belts[j]? =some b:=a_;have cV:aj.belts.getD j dB=b:=by simp[List.getD,fJ]
   rw[cV] at k;dsimp only[B5.v] at b3;walk_at "rds";refine⟨by show 2≤sizeLine;decide,λu fw=>?_⟩;exact k _ _ (cK fw) ⟨u,rfl,zf iv fw⟩
  ·refine q r ae ys ?_ (bw.trans bV) e' ?_
   ·cases e:H r with
    |none=>rfl
    |some o=>rw[bw _ _ e] at jk;cases jk
   ·exact(A6 dk).keep λb xs z=>j0 _ _ z
end
inductive DO{K:Frag}{mg:Str→Option Value}(T:Tp K mg)(vs:List V)(H:Hp)(Q:VK)(cW:XK):Prop
 |mk (p:Addr) (w:Int) (aj:HM) (fp:List Addr) (cQ:vs=[.ref p,.int w]) (cH:c2 T H p aj fp) (cI:aj.belts.length≤60) (dz:0≤w) (en:w<aj.names.length) (eP:∀(r:Addr)(ae:Hp)(ms:List Int),H r=none→Ze H ae→ae r=some (.lst (ms.map V.int))→ZaD aj.belts w ms→Q (.ref r) ae):DO T vs H Q cW
section
variable {P:Program}{w:World}{K:Frag}{mg:Str→Option Value}{base:Heap}
theorem ME(T:Tp K mg):OkN P w base 6 T.ba (DO T):=by
 have eZ:=T.a;have e0:=T.e;refine T.ba.F.okX Jc (λvs H Q E h=>?_) (λcz A outer s H vs Q E bq h=>?_)
 ·obtain⟨p,w,aj,fp,rfl,_⟩:=h
  rfl
 ·have hu:=bq.hu;obtain⟨p,w,aj,fp,rfl,b6,hz,eU,fU,q⟩:=h;refine⟨_,(b4 (c0 (Ii (K:=K) rfl rfl (by rfl) T.D (by rfl) T.az (br (cD (gn K) (fW (br (pv 1) bB)) (jZ rfl (fq (x:="belt") (zs:=["hall"]) (ix:=[0]) (cu UV) ["hall","work"] rfl rfl (by decide+kernel)) (ey (K:=K) rfl (fG (pv 0) T.a T.aK (DM T) bq cp (br (pv 1) bB))) (λck C s H fp=>⟨(cG (i:=0) (show(["belt","hall"]:List Str).Nodup by decide+kernel) rfl (Or.inl rfl)),gF,(cw (ixk K) (fG (pv 1) T.a T.ak (sE T) bq Ud (br (pv 0) bB)) b0 (λ_ _=>rfl))⟩))) bB)))),?_⟩
  try dsimp only[L2.cxX,L2.ZN,L2.Zl]
  walk_at "rds";refine Rd.ZoQ ?_;walk_at "rds";intro a bF;have bw:Ze H (upd H a (.lst [V.int w])):=cK bF;have p':(upd H a (.lst [V.int w])) a=some (.lst [V.int w]):=Zd;generalize upd H a (.lst [V.int w])=bn at*;have h5:=b6.same bw;walk_at "rds";refine⟨p,w,aj,fp,rfl,h5,by omega,λz=>absurd ⟨eU,fU⟩ z,λ_ _ e bv bL bU kR=>?_⟩;have e6:=h5.same bU;have wI:=bU _ _ p';have io:=Zef (ls:=aj.belts) (w:=w);walk_at "rds";refine Yo (ew (SqL.of kR)) (dj (by rw[GE];omega)) (λ_=>true) (λi=> .int (aj.belts.getD ((dW aj.belts w).getD i 0) dB).taker) (λi ae c4 hi bV k=>?_) (λi ae c4 hi _ bV k=>?_) (λr ae bq bV jk=>?_)
  ·walk_at "rds";exact k ae (Ze.refl ae)
  ·have dN:i<(dW aj.belts w).length:=by simpa using hi
   have c3:((dW aj.belts w).map λi:Nat=>V.int i).getD i .non= .int ((dW aj.belts w).getD i 0:Nat):=by simp[List.getD,dN]
   rw[c3];have bA:(dW aj.belts w).getD i 0∈dW aj.belts w:=by
    have:(dW aj.belts w).getD i 0=(dW aj.belts w)[i]:=by simp[List.getD,dN]
    rw[this];exact GM dN
   have cJ:=Zak bA;generalize (dW aj.belts w).getD i 0=j at*;have gf:=e6.same bV;walk_at "rds";refine⟨p,(j:Int),aj,fp,rfl,gf,λz=>absurd ⟨qaS j,by omega⟩ z,λ_ _ t b a_ b3=>?_⟩;have fJ:aj.belts[j]? =some b:=a_;have cV:aj.belts.getD j dB=b:=by simp[List.getD,fJ]
   rw[cV] at k;dsimp only[B5.v] at b3;walk_at "rds";exact k ae (Ze.refl ae)
  ·have iS:ae r=some (.lst (((dW aj.belts w).map λi=>(aj.belts.getD i dB).taker).map V.int)):=by
    rw[jk,qaA.mpr (by simp)];refine congrArg (λz=>some (HO.lst z)) ?_;refine qay (by simp) λi bj bp=>?_;have:i<(dW aj.belts w).length:=by simpa using bp
    simp[List.getD,this]
   have Bw:=bV _ _ wI;refine Rd.Zkt Bw iS (qa2 (dj (by simp;omega))) (λu hu=>?_);have ca:Ze ae (upd ae u (.lst ([V.int w]++((dW aj.belts w).map λi=>(aj.belts.getD i dB).taker).map V.int))):=cK hu;have sv:(upd ae u (.lst ([V.int w]++((dW aj.belts w).map λi=>(aj.belts.getD i dB).taker).map V.int))) u=some (.lst ((w::(dW aj.belts w).map λi=>(aj.belts.getD i dB).taker).map V.int)):=Zd;generalize upd ae u (.lst ([V.int w]++((dW aj.belts w).map λi=>(aj.belts.getD i dB).taker).map V.int))=b7 at*;walk_at "rds";refine Rd.Zn0 (.of sv) (by simp;omega) (λx ms bo bD bA=>?_);have f5:=bw.trans (bU.trans (bV.trans ca));refine q x _ ms (eX f5 bo) (f5.trans (cK bo)) Zd ⟨bD,λy=>?_⟩;rw[bA y,qae,qam]
end
inductive wJ{K:Frag}{mg:Str→Option Value}(T:Tp K mg)(vs:List V)(H:Hp)(Q:VK)(E:XK):Prop
 |mk (p bx h t:Addr) (aj:HM) (fp:List Addr) (rs:List Int) (cQ:vs=[.ref p,.ref h,.ref t]) (cH:H p=some (.ins T.b bx [])) (cI:c2 T H h aj fp) (dz:H t=some (.lst (rs.map V.int))) (en:rs.length=aj.names.length) (eP:rs.length≤1000) (fx:aj.belts.length≤60) (gw:∀(ae:Hp),m5 T ae p aj.belts rs→(∀b o,H b=some o→b≠p→ae b=some o)→Q .non ae):wJ T vs H Q E
theorem Zet{K:Frag}{mg:Str→Option Value}{T:Tp K mg}{H:Hp}{h t:Addr}{aj:HM}{fp:List Addr}{rs:List Int}{Q:Addr→Hp→Prop}{E:XK}(b6:c2 T H h aj fp)(b3:H t=some (.lst (rs.map V.int)))(bO:rs.length=aj.names.length)(hz:rs.length≤1000)(a_:aj.belts.length≤60)
  (q:∀(p:Addr)(ae:Hp),m5 T ae p aj.belts rs→H p=none→Ze H ae→Q p ae):
  ∀x bx,H x=none→H bx=none→bx≠x→wJ T (.ref x::([.ref h,.ref t]++ [])) (upd (upd H bx (.own x)) x (.ins T.b bx [])) (λv bv=>v= .non∧Q x bv) E:=by
 intro x bx bo jg ne;have bV:Ze H (upd (upd H bx (.own x)) x (.ins T.b bx [])):=λb o e=>by rw[b5 (dw e bo),b5 (dw e jg)];exact e
 exact⟨x,bx,h,t,aj,fp,rs,rfl,Zd,b6.same bV,bV _ _ b3,bO,hz,a_,λae bu bt=>⟨rfl,q x ae bu bo (λb o e=>bt b o (bV b o e) (dw e bo))⟩⟩
section
variable {P:Program}{w:World}{K:Frag}{mg:Str→Option Value}{base:Heap}
theorem MF(T:Tp K mg):OkI P w mg base 7 T.bb (wJ T):=by
 have Dv:=T.t;have Dw:=T.z;have eZ:=T.a;have e0:=T.e;refine T.bb.F.okX Jd (λvs H Q E h=>?_) (λcz A outer s H vs Q E bq h=>?_)
 ·obtain⟨p,bx,h,t,aj,fp,rs,rfl,_⟩:=h
  rfl
 ·have hu:=bq.hu;obtain⟨p,bx,bF,t,aj,fp,rs,rfl,bD,b6,b3,bO,hz,kf,q⟩:=h;have l_:p∉fp:=by
   intro z;obtain⟨MG,a,b,bs,rfl,bj,bp,bT,cy,f4,db⟩:=b6;simp only[qae,qaG,or_false] at z;rcases z with rfl|rfl|rfl|rfl
   ·rw[bj] at bD
    injection bD with e
    injection e with bG bK de
    cases de
   ·rw[bp] at bD;cases bD
   ·rw[bT] at bD;cases bD
   ·rw[cy] at bD;cases bD
  have RQ:((rs.map V.int).length:Int)=rs.length:=by simp
  refine⟨_,(bN (i8 (K:=K) rfl (pv 0) (kE (mL (K:=K) rfl) (by rfl) T.j qaM (br (pv 2) bB)) rfl)
     (bN (i8 (K:=K) rfl (pv 0) (fH (pv 1) T.a T.G (la T) bq cp) rfl)
     (bN (i8 (K:=K) rfl (pv 0) (lF (xs:=["work"]) rfl (fq (x:="work") (zs:=["hall"]) (ix:=[1]) (cu pW) ["self","hall","turns"] rfl rfl (by decide+kernel)) (iD rfl T.i (br (dI (fa K) (by rfl) T.f qap (br (pv 2) bB)) bB)) (λck C s H fp=>⟨(cG (i:=0) (show(["work","hall"]:List Str).Nodup by decide+kernel) rfl (Or.inl rfl)),gF,(c5 T.a8 (MC T) bq Ud (br (pv 1) (br (pv 0) bB)))⟩)) rfl)
     (bN (i8 (K:=K) rfl (pv 0) (lF (xs:=["work"]) rfl (fq (x:="work") (zs:=["hall"]) (ix:=[1]) (cu pW) ["self","hall","turns"] rfl rfl (by decide+kernel)) (iD rfl T.i (br (dI (fa K) (by rfl) T.f qap (br (pv 2) bB)) bB)) (λck C s H fp=>⟨(cG (i:=0) (show(["work","hall"]:List Str).Nodup by decide+kernel) rfl (Or.inl rfl)),gF,(c5 T.a9 (MD T) bq Ud (br (pv 1) (br (pv 0) bB)))⟩)) rfl)
     (b4 (i8 (K:=K) rfl (pv 0) (lF (xs:=["work"]) rfl (fq (x:="work") (zs:=["hall"]) (ix:=[1]) (cu pW) ["self","hall","turns"] rfl rfl (by decide+kernel)) (iD rfl T.i (br (dI (fa K) (by rfl) T.f qap (br (pv 2) bB)) bB)) (λck C s H fp=>⟨(cG (i:=0) (show(["work","hall"]:List Str).Nodup by decide+kernel) rfl (Or.inl rfl)),gF,(c5 T.ba (ME T) bq Ud (br (pv 1) (br (pv 0) bB)))⟩)) rfl)))))),?_⟩
  try dsimp only[L2.cxX,L2.ZN,L2.Zl]
  walk_at "rds";refine Rd.UO (.of b3) (λa qB=>?_);have iT:p≠a:=dw bD qB;have bw:Ze H (upd H a (.lst (rs.map V.int))):=cK qB;have p':(upd H a (.lst (rs.map V.int))) a=some (.lst (rs.map V.int)):=Zd;generalize upd H a (.lst (rs.map V.int))=bn at*;have iv:=bw _ _ bD;walk_at "rds";have f1:c_ [p] bn (upd bn p (.ins T.b bx [("turns",.ref a)])):=gl (by simp) iv (by intro _ z;cases z);have DP:c_ [p] H (upd bn p (.ins T.b bx [("turns",.ref a)])):=bw.frame.trans f1;have pd:(upd bn p (.ins T.b bx [("turns",.ref a)])) p=some (.ins T.b bx [("turns",.ref a)]):=Zd;have wI:=f1.keep _ _ p' (by simpa using iT.symm);generalize upd bn p (.ins T.b bx [("turns",.ref a)])=bv at*;have sV:t≠p:=fj b3 bD (by intro z;cases z);have e6:=b6.off DP (λx bo z=>l_ (by rw[←qac.mp z];exact bo));clear f1 iv p';walk_at "rds";intro b b9 bs jK bS mW hK;have qC:=bS _ _ pd;have h4:p≠b:=dw pd jK;walk_at "rds";have df:c_ [p] b9 (upd b9 p (.ins T.b bx [("turns",.ref a),("rows",.ref b)])):=gl (by simp) qC (by intro _ z;cases z);have wK:c_ [p] bv (upd b9 p (.ins T.b bx [("turns",.ref a),("rows",.ref b)])):=bS.frame.trans df;have oM:(upd b9 p (.ins T.b bx [("turns",.ref a),("rows",.ref b)])) p=some (.ins T.b bx [("turns",.ref a),("rows",.ref b)]):=Zd;have l8:=df.keep _ _ mW (by simpa using h4.symm);have em:=hK.keep df.tups;generalize upd b9 p (.ins T.b bx [("turns",.ref a),("rows",.ref b)])=b7 at*;have wL:=DP.trans wK;have gQ:=wL.keep _ _ b3 (by simpa using sV);have iU:=b6.off wL (λx bo z=>l_ (by rw[←qac.mp z];exact bo));clear df qC mW hK;walk_at "rds";refine YO (own:=1) WW.y (dj (by rw[GE];exact hz)) (λi=>[some (.int (0+(i:Int)))]) (λ_=>rfl) (λ_=>true) (λ(i:Nat) v bv=>∃x,v=V.ref x∧∃vs,b7 x=none∧bv x=some (.lst vs)∧Vp bv (g8 aj.belts (0+(i:Int))) vs) (λ_ _ _ _ e ⟨x,cQ,cH⟩=>⟨x,cQ,(let⟨vs,a1,a2,a3⟩:=cH;⟨vs,a1,e _ _ a2,a3.keep λ_ _ z=>e _ _ z⟩)⟩) (λi dA ae v bv hD hi bV y ga k=>?_) (λi ae c4 hi bV k=>?_) (λkg i ae c4 hi bu hp0 hp1' bV k=>?_) (λc b1 ys4 lf cC sy wM=>?_)
  ·obtain⟨rfl,rfl⟩:=y;obtain⟨x1,rfl⟩:∃x1,dA=[x1]:=by
    match dA,ga with
    | [x1],_=>exact⟨x1,rfl⟩
   walk_at "rds";exact k _ (Ze.refl _)
  ·walk_at "rds";exact k ae (Ze.refl ae)
  ·have dN:i<rs.length:=by simpa using hi
   walk_at "rds";refine⟨bF,0+(i:Int),aj,fp,rfl,iU.same bV,by omega,by omega,by omega,λx b1 vs bo cC hx5 dU=>?_⟩;exact k _ b1 cC ⟨x,rfl,vs,eX bV bo,uw hp1' bo hx5,dU.keep λb xs z=>ZfY hp1' cC z⟩
  ·rw[qaA.mpr (by simp),GE,qab] at wM;obtain⟨g9,rfl,MH,DQ⟩:=ZeS wM;have qD:=cC _ _ oM;have oN:p≠c:=dw oM lf;have DR:∀x∈g9,x≠p:=λx bo z=>by
    obtain⟨j,bC,e⟩:=qao bo;obtain⟨_,cQ,_⟩:=DQ j (by omega);rw[el bC,e,z,oM] at cQ;cases cQ
   walk_at "rds";have dV:c_ [p] b1 (upd b1 p (.ins T.b bx [("turns",.ref a),("rows",.ref b),("takes",.ref c)])):=gl (by simp) qD (by intro _ z;cases z);have wN:c_ [p] b7 (upd b1 p (.ins T.b bx [("turns",.ref a),("rows",.ref b),("takes",.ref c)])):=cC.frame.trans dV;have nr:(upd b1 p (.ins T.b bx [("turns",.ref a),("rows",.ref b),("takes",.ref c)])) p=some (.ins T.b bx [("turns",.ref a),("rows",.ref b),("takes",.ref c)]):=Zd;have v0:=dV.keep _ _ sy (by simpa using oN.symm);have MI:LL (upd b1 p (.ins T.b bx [("turns",.ref a),("rows",.ref b),("takes",.ref c)])) ((List.range rs.length).map λw:Nat=>g8 aj.belts w) g9:=by
    refine p5 (by simp[MH]) λj x y bG bK=>?_;have bC:j<rs.length:=by have:=(FM.mp bK).1;omega
    obtain⟨vs,_,cH,cI⟩:=DQ j bC;rw[qaj,List.getElem?_range bC] at bG;cases bG;have eQ:g9.getD j 0=y:=by simp[List.getD,bK]
    rw[eQ] at cH;rw[qa8] at cI;exact⟨vs,dV.keep _ _ (j0 _ _ cH) (by simpa using DR y (qar bK)),cI.keep λb xs z=>dV.tups _ _ (j0 _ _ z)⟩
   generalize upd b1 p (.ins T.b bx [("turns",.ref a),("rows",.ref b),("takes",.ref c)])=cR at*;have ln:=wL.trans wN;have vT:=ln.keep _ _ b3 (by simpa using sV);have oH:=b6.off ln (λx bo z=>l_ (by rw[←qac.mp z];exact bo));clear dV qD sy wM;walk_at "rds";refine YO (own:=1) WW.y (dj (by rw[GE];exact hz)) (λi=>[some (.int (0+(i:Int)))]) (λ_=>rfl) (λ_=>true) (λ(i:Nat) v bv=>∃x,v=V.ref x∧∃vs,cR x=none∧bv x=some (.lst vs)∧Vp bv (oe aj.belts (0+(i:Int))) vs) (λ_ _ _ _ e ⟨x,cQ,cH⟩=>⟨x,cQ,(let⟨vs,a1,a2,a3⟩:=cH;⟨vs,a1,e _ _ a2,a3.keep λ_ _ z=>e _ _ z⟩)⟩) (λi dA ae v bv hD hi bV y ga k=>?_) (λi ae c4 hi bV k=>?_) (λkg i ae c4 hi bu hp0 hp1' bV k=>?_) (λd dt ys6 nj et qE wO=>?_)
   ·obtain⟨rfl,rfl⟩:=y;obtain⟨x1,rfl⟩:∃x1,dA=[x1]:=by
     match dA,ga with
     | [x1],_=>exact⟨x1,rfl⟩
    walk_at "rds";exact k _ (Ze.refl _)
   ·walk_at "rds";exact k ae (Ze.refl ae)
   ·have dN:i<rs.length:=by simpa using hi
    walk_at "rds";refine⟨bF,0+(i:Int),aj,fp,rfl,oH.same bV,by omega,by omega,by omega,λx b1 vs bo cC hx5 dU=>?_⟩;exact k _ b1 cC ⟨x,rfl,vs,eX bV bo,uw hp1' bo hx5,dU.keep λb xs z=>ZfY hp1' cC z⟩
   ·rw[qaA.mpr (by simp),GE,qab] at wO;obtain⟨id,rfl,MJ,DS⟩:=ZeS wO;have qF:=et _ _ nr;have k9:p≠d:=dw nr nj;have DT:∀x∈id,x≠p:=λx bo z=>by
     obtain⟨j,bC,e⟩:=qao bo;obtain⟨_,cQ,_⟩:=DS j (by omega);rw[el bC,e,z,nr] at cQ;cases cQ
    walk_at "rds";have lp:c_ [p] dt (upd dt p (.ins T.b bx [("turns",.ref a),("rows",.ref b),("takes",.ref c),("gives",.ref d)])):=gl (by simp) qF (by intro _ z;cases z);have l':c_ [p] cR (upd dt p (.ins T.b bx [("turns",.ref a),("rows",.ref b),("takes",.ref c),("gives",.ref d)])):=et.frame.trans lp;have oO:(upd dt p (.ins T.b bx [("turns",.ref a),("rows",.ref b),("takes",.ref c),("gives",.ref d)])) p=some (.ins T.b bx [("turns",.ref a),("rows",.ref b),("takes",.ref c),("gives",.ref d)]):=Zd;have MK:=lp.keep _ _ qE (by simpa using k9.symm);have ML:LL (upd dt p (.ins T.b bx [("turns",.ref a),("rows",.ref b),("takes",.ref c),("gives",.ref d)])) ((List.range rs.length).map λw:Nat=>oe aj.belts w) id:=by
     refine p5 (by simp[MJ]) λj x y bG bK=>?_;have bC:j<rs.length:=by have:=(FM.mp bK).1;omega
     obtain⟨vs,_,cH,cI⟩:=DS j bC;rw[qaj,List.getElem?_range bC] at bG;cases bG;have eQ:id.getD j 0=y:=by simp[List.getD,bK]
     rw[eQ] at cH;rw[qa8] at cI;exact⟨vs,lp.keep _ _ (j0 _ _ cH) (by simpa using DT y (qar bK)),cI.keep λb xs z=>lp.tups _ _ (j0 _ _ z)⟩
    generalize upd dt p (.ins T.b bx [("turns",.ref a),("rows",.ref b),("takes",.ref c),("gives",.ref d)])=eJ at*;have qG:=ln.trans l';have B_:=qG.keep _ _ b3 (by simpa using sV);have li:=b6.off qG (λx bo z=>l_ (by rw[←qac.mp z];exact bo));clear lp qF qE wO;walk_at "rds";refine YO (own:=1) WW.y (dj (by rw[GE];exact hz)) (λi=>[some (.int (0+(i:Int)))]) (λ_=>rfl) (λ_=>true) (λ(i:Nat) v bv=>∃x,v=V.ref x∧∃ms:List Int,eJ x=none∧bv x=some (.lst (ms.map V.int))∧ZaD aj.belts i ms) (λ_ _ _ _ e ⟨x,cQ,cH⟩=>⟨x,cQ,(let⟨vs,a1,a2,a3⟩:=cH;⟨vs,a1,e _ _ a2,a3⟩)⟩) (λi dA ae v bv hD hi bV y ga k=>?_) (λi ae c4 hi bV k=>?_) (λkg i ae c4 hi bu hp0 hp1' bV k=>?_) (λe gI ys8 qr gH sM wP=>?_)
    ·obtain⟨rfl,rfl⟩:=y;obtain⟨x1,rfl⟩:∃x1,dA=[x1]:=by
      match dA,ga with
      | [x1],_=>exact⟨x1,rfl⟩
     walk_at "rds";exact k _ (Ze.refl _)
    ·walk_at "rds";exact k ae (Ze.refl ae)
    ·have dN:i<rs.length:=by simpa using hi
     walk_at "rds";refine⟨bF,0+(i:Int),aj,fp,rfl,li.same bV,by omega,by omega,by omega,λx b1 ms bo cC hx5 dU=>?_⟩;rw[qa8] at dU;exact k _ b1 cC ⟨x,rfl,ms,eX bV bo,uw hp1' bo hx5,dU⟩
    ·rw[qaA.mpr (by simp),GE,qab] at wP;obtain⟨wQ,rfl,MM,DU⟩:=ZeS wP;have oP:=gH _ _ oO;have MN:p≠e:=dw oO qr;have MO:∀x∈wQ,x≠p:=λx bo z=>by
      obtain⟨j,bC,e⟩:=qao bo;obtain⟨_,cQ,_⟩:=DU j (by omega);rw[el bC,e,z,oO] at cQ;cases cQ
     walk_at "rds";have ma:c_ [p] gI (upd gI p (.ins T.b bx [("turns",.ref a),("rows",.ref b),("takes",.ref c),("gives",.ref d),("touched",.ref e)])):=gl (by simp) oP (by intro _ z;cases z);have qH:c_ [p] eJ (upd gI p (.ins T.b bx [("turns",.ref a),("rows",.ref b),("takes",.ref c),("gives",.ref d),("touched",.ref e)])):=gH.frame.trans ma;have sW:(upd gI p (.ins T.b bx [("turns",.ref a),("rows",.ref b),("takes",.ref c),("gives",.ref d),("touched",.ref e)])) p=some (.ins T.b bx [("turns",.ref a),("rows",.ref b),("takes",.ref c),("gives",.ref d),("touched",.ref e)]):=Zd;have MP:=ma.keep _ _ sM (by simpa using MN.symm);have MQ:TL (upd gI p (.ins T.b bx [("turns",.ref a),("rows",.ref b),("takes",.ref c),("gives",.ref d),("touched",.ref e)])) aj.belts rs.length wQ:=⟨MM,λv b_=>by
      obtain⟨ms,_,cH,cI⟩:=DU v b_;exact⟨ms,ma.keep _ _ (j0 _ _ cH) (by rw[qac];exact MO _ (by rw[el (by omega)];exact GM _)),cI⟩⟩
     generalize upd gI p (.ins T.b bx [("turns",.ref a),("rows",.ref b),("takes",.ref c),("gives",.ref d),("touched",.ref e)])=fY at*;have wR:=qG.trans qH;have RS:=wR.keep _ _ b3 (by simpa using sV);have lm:=b6.off wR (λx bo z=>l_ (by rw[←qac.mp z];exact bo));clear ma oP sM wP;have RT:=wK.trans (wN.trans l');have wS:=wN.trans (l'.trans qH);have DV:=l'.trans qH;have DW:∀{sX:Hp}{cx:List (List (Int×Int))}{is:List Addr},c_ [p] sX fY→LL sX cx is→(∀x∈is,x≠p)→LL fY cx is:=λ{sX cx is} f l n=>l.keep f.tups λx bo=>by
      cases q:sX x with
      |none=>exact absurd q (l.dom x bo)
      |some o=>exact f.keep _ _ q (by simpa using n x bo)
     refine q fY ⟨bx,a,b,c,d,e,g9,id,wQ,bs,sW,(wK.trans wS).keep _ _ wI (by simpa using iT.symm),wS.keep _ _ l8 (by simpa using h4.symm),em.keep wS.tups,DV.keep _ _ v0 (by simpa using oN.symm),DW DV MI DR,qH.keep _ _ MK (by simpa using k9.symm),DW qH ML DT,MP,MQ⟩ (λx o bj bp=>wR.keep _ _ bj (by simpa using bp))
end
inductive DX{K:Frag}{mg:Str→Option Value}(T:Tp K mg)(vs:List V)(H:Hp)(Q:VK)(E:XK):Prop
 |mk (p d:Addr) (aj:HM) (fp:List Addr) (f:Int→Int) (ms:List Int) (cQ:vs=[.ref p,.ref d]) (cH:c2 T H p aj fp) (cI:Wc aj.names) (dz:aj.belts.length≤60) (en:H d=some (.dK (turnsK f ms))) (eP:ms.Nodup) (fx:ms.length≤30) (gw:(∀m∈ms,0≤m∧m<(aj.names.length:Int))) (j8:(∀m∈ms,1≤f m)) (m_:(ms.map f).sum≤1000) (on:∀(ce:List Nat)(d0:Nat→Nat),Fire.Wb (lO (ev aj.belts ms) (hn (ev aj.belts ms)) (ms.map f)) (λ_=>0) ce d0→(∀w,¬hm (ev aj.belts ms) (hn (ev aj.belts ms)) (ms.map f) d0 w)→((ce.length:Int)<(ms.map f).sum→∀ae,Ze H ae→E (.ref T.P) none ae)∧(¬(ce.length:Int)<(ms.map f).sum→∀(r:Addr)(ae:Hp),H r=none→Ze H ae→ae r=some (.lst (ce.map λw=>V.int (ms.getD w 0)))→Q (.ref r) ae)):DX T vs H Q E
section
variable {P:Program}{w:World}{K:Frag}{mg:Str→Option Value}{base:Heap}
theorem MR(T:Tp K mg):OkN P w base 9 T.bc (DX T):=by
 have Dv:=T.t;have Dw:=T.z;refine T.bc.F.okX rV (λvs H Q E h=>?_) (λcz A outer s H vs Q E bq h=>?_)
 ·obtain⟨p,d,aj,fp,f,ms,rfl,_⟩:=h
  rfl
 ·have hu:=bq.hu;obtain⟨p,d,aj,fp,f,ms,rfl,b6,g_,kf,hd,eE,oK,fR,jj,RU,q⟩:=h;refine⟨_,(bN (cB (i:=2) rV.nd rfl (Or.inr rfl) (kE (y' rfl) (by rfl) T.j qaM (br (pv 1) bB)))
     (bN (cB (i:=3) rV.nd rfl (Or.inl rfl) (c5 T.a4 (L5 T) bq cp (br (pv 0) (br (pv 2) bB))))
     (bN (cB (i:=4) rV.nd rfl (Or.inl rfl) (fG (y9 T.bb (MF T) bq T.ai cp (br (pv 3) (br (Io rfl (by rfl) T.j (pv 1)) bB))) T.t T.a6 (Mb T) bq cp (br (c5 T.a5 (L' T) bq cp (br (pv 3) bB)) bB)))
     (bN (dS (dg qX (dI (fa K) (by rfl) T.f qap (br (pv 4) bB)) (Iq rfl (by rfl) T.aA (pv 1)) (dM _)) (b4 (i7 T.Z.g T.Z.e qaB rfl (br YF bB))) dX)
     (b4 (c0 (jZ rfl (fq (x:="work") (zs:=["members"]) (ix:=[2]) (cu u1) ["hall","turns","members","inner","row"] rfl rfl (by decide+kernel)) (ey (K:=K) rfl (pv 4)) (λck C s H fp=>⟨(cG (i:=0) (show(["work","members"]:List Str).Nodup by decide+kernel) rfl (Or.inl rfl)),gF,(cw (ixk K) (pv 1) (pv 0) (λ_ _=>rfl))⟩)))))))),?_⟩
  try dsimp only[L2.cxX,L2.ZN,L2.Zl]
  walk_at "rds";intro hx ot;rw[Zho];have bw:Ze H (upd H hx (.lst (ms.map V.int))):=cK ot;have fe:(upd H hx (.lst (ms.map V.int))) hx=some (.lst (ms.map V.int)):=Zd;generalize upd H hx (.lst (ms.map V.int))=bn at*;walk_at "rds";refine⟨p,hx,aj,fp,ms,rfl,b6.same bw,fe,g_,kf,eE,oK,fR,λMS MT bv jC d5 bU=>?_⟩;have fy:=bw.trans bU;have hT:=fy _ _ hd;have cs:=Zij (ls:=aj.belts) (ms:=ms);have mJ:∀r∈ms.map f,1≤r:=λr bq=>by
   obtain⟨m,bA,rfl⟩:=qam.mp bq;exact jj m bA
  have MU:((tot (ms.map f):Nat):Int)=(ms.map f).sum:=Zh3 λr bq=>(by have:=mJ r bq;omega);walk_at "rds";refine⟨.ref d,rfl,d,_,rfl,.inl hT,λl f_=>?_⟩;rw[Bi];have bS:Ze bv (upd bv l (.lst ((ms.map f).map V.int))):=cK f_;have hI:(upd bv l (.lst ((ms.map f).map V.int))) l=some (.lst ((ms.map f).map V.int)):=Zd;generalize upd bv l (.lst ((ms.map f).map V.int))=b9 at*;have qI:=jC.same bS;walk_at "rds";refine Zet qI hI (by simp) (by simp;omega) (by dsimp only;omega) λco b7 iY Bo ca=>?_;dsimp only at iY;have sY:=qI.same ca;walk_at "rds";refine⟨MS,_,MT,rfl,sY,by dsimp only;omega,λst b1 hc cC DY=>?_⟩;dsimp only at DY;have nt:=bS.trans (ca.trans cC);have mb:=fy.trans nt;walk_at "rds";refine⟨co,st,ev aj.belts ms,ms.map f,hn (ev aj.belts ms),rfl,iY.same cC,SqL.of DY,by simp[hn],by rw[GE];exact ZeB,by omega,by simp;omega,mJ,by omega,λr cR ce d0 wD ef hr6' hL kh=>?_⟩;obtain⟨cg,c7⟩:=q ce d0 hL kh;have ow:=mb.trans ef;have iG:=(vj (r6 hL)).2.2;have RV:ce.length≤1000:=by omega
  have lg:=ow _ _ hd;have j6:(ce.map λw:Nat=>V.int w)=(ce.map λw:Nat=>(w:Int)).map V.int:=by rw[qa3];rfl
  rw[j6] at hr6';have MV:=SqL.of (K:=K) hr6';have pr:=(bU.trans (nt.trans ef)) _ _ fe;have MW:=SqL.of (K:=K) pr;walk_at "rds";refine⟨.ref d,rfl,d,_,ms.map f,rfl,.inl lg,Bi f ms,?_⟩;have lI:((ce.map λw:Nat=>(w:Int)).map V.int).length=ce.length:=by simp
  generalize (ms.map f).sum=qk at*
  by_cases cJ:(ce.length:Int)<qk
  ·have MX:(((ce.map λw:Nat=>(w:Int)).map V.int).length:Int)<qk:=by rw[lI];exact cJ
   walk_at "rds";exact cg cJ _ ow
  ·have MX:¬(((ce.map λw:Nat=>(w:Int)).map V.int).length:Int)<qk:=by rw[lI];exact cJ
   walk_at "rds";have MY:=Zlf (r6 hL);refine Yo (ew MV) (dj (by rw[lI];omega)) (λ_=>true) (λi=> .int (ms.getD (ce.getD i 0) 0)) (λi ae c4 hi bV k=>?_) (λi ae c4 hi _ bV k=>?_) (λjA dt hd2' bV qE=>?_)
   ·walk_at "rds";exact k ae (Ze.refl ae)
   ·have cs:i<ce.length:=by rw[lI] at hi;exact hi
    have c3:((ce.map λw:Nat=>(w:Int)).map V.int).getD i .non=V.int (ce[i]:Nat):=by simp[List.getD,cs]
    have nq:ce.getD i 0=ce[i]:=by simp[List.getD,cs]
    rw[c3];rw[nq] at k;have hw:=MY ce[i] (GM cs);rw[GE] at hw;generalize ce[i]=w at*;have d6:atI (ms.map V.int) (w:Int)=some (.int (ms.getD w 0)):=gY (by simp[List.getD,hw]);have gM:=bV.seq MW;walk_at "rds";exact k ae (Ze.refl ae)
   ·have iO:((List.range ((ce.map λw:Nat=>(w:Int)).map V.int).length).filter λ_=>true).map (λi=>V.int (ms.getD (ce.getD i 0) 0))=ce.map λw=>V.int (ms.getD w 0):=by
     rw[qaA.mpr λ_ _=>rfl,lI];refine qay (by simp) λi bj bp=>?_;have bT:i<ce.length:=by simpa using bj
     simp[List.getD,bT]
    rw[iO] at qE;exact c7 cJ jA dt (eX ow hd2') (ow.trans bV) qE
end
inductive DZ{K:Frag}{mg:Str→Option Value}(T:Tp K mg)(vs:List V)(H:Hp)(Q:VK)(E:XK):Prop
 |mk (p d e:Addr) (aj:HM) (fp:List Addr) (f:Int→Int) (ms:List Int) (kv:List (Key×V)) (pl:Int→Nat) (cQ:vs=[.ref p,.ref d,.ref e]) (cH:c2 T H p aj fp) (cI:aj.belts.length≤60) (dz:Rd H d (.dK (turnsK f ms))) (en:H e=some (.dK kv)) (eP:(∀b∈aj.belts,valV kv (Sum.inl b.giver)=some (V.int (pl b.giver))∧valV kv (Sum.inl b.taker)=some (V.int (pl b.taker)))) (fx:(∀b∈aj.belts,IntMulOk b.give (tvJ f ms b.giver)∧IntMulOk b.take (tvJ f ms b.taker))) (gw:∀(r:Addr)(ae:Hp)(bs:List V),H r=none→Ze H ae→ae r=some (.lst bs)→ek ae bs (fc f ms pl aj.belts)→Q (.ref r) ae):DZ T vs H Q E
section
variable {P:Program}{w:World}{K:Frag}{mg:Str→Option Value}{base:Heap}
theorem MZ(T:Tp K mg):OkN P w base 2 T.bd (DZ T):=by
 have eZ:=T.a;have e0:=T.e;refine T.bd.F.okX pZ (λvs H Q E h=>?_) (λcz A outer s H vs Q E bq h=>?_)
 ·obtain⟨p,d,e,aj,fp,f,ms,kv,pl,rfl,_⟩:=h
  rfl
 ·have hu:=bq.hu;obtain⟨p,d,e,aj,fp,f,ms,kv,pl,rfl,b6,kf,hd,bL,fh,M0,q⟩:=h;refine⟨_,(bN (cB (i:=3) pZ.nd rfl (Or.inl rfl) (fW bB))
     (bN (eB PassesOwn.leaving rfl (ey (K:=K) rfl (fH (pv 0) T.a T.G (la T) bq cp)) (cG (i:=4) pZ.nd rfl (Or.inl rfl)) (b4 (dS (PW.pt (hb (dg (pG hu) (cw (ixk K) (pv 4) b0 (λ_ _=>rfl)) (pv 1) (by with_unfolding_all rfl)) (h7 (dg (pG hu) (cw (ixk K) (pv 4) b0 (λ_ _=>rfl)) (pv 1) (by with_unfolding_all rfl))))) (bN (cB (i:=5) pZ.nd rfl (Or.inl rfl) (cD gd (cw (ixk K) (pv 4) b0 (λ_ _=>rfl)) (zW hu (pv 1) (cw (ixk K) (pv 4) b0 (λ_ _=>rfl)) b0 ⟨by rfl,by rfl,by rfl,by rfl⟩)))
     (bN (cB (i:=6) pZ.nd rfl (Or.inl rfl) (cD gd (cw (ixk K) (pv 4) b0 (λ_ _=>rfl)) (zW hu (pv 1) (cw (ixk K) (pv 4) b0 (λ_ _=>rfl)) b0 ⟨by rfl,by rfl,by rfl,by rfl⟩)))
     (b4 (eo (fr (K:=K) rfl qah qas qat hg (pv 3) (br (hA (br (cw (rq hu) (pv 2) (cw (ixk K) (pv 4) b0 (λ_ _=>rfl)) (λ_ _=>rfl)) (br (cw (rq hu) (pv 2) (cw (ixk K) (pv 4) b0 (λ_ _=>rfl)) (λ_ _=>rfl)) (br (pv 5) (br (pv 6) (br (cw (ixk K) (pv 4) b0 (λ_ _=>rfl)) bB)))))) bB)))))) dX)))
     (b4 (c0 (pv 3))))),?_⟩
  try dsimp only[L2.cxX,L2.ZN,L2.Zl]
  walk_at "rds";refine⟨qau _,λr f6=>?_⟩;have bU:Ze H (upd H r (.lst [])):=cK f6;have iW:(upd H r (.lst [])) r=some (.lst []):=Zd;generalize upd H r (.lst [])=bv at*;have e6:=b6.same bU;walk_at "rds"
  try refine Up e6 ?_
  intro bl b9 bs g6 bS oJ hK;have ww:=hK.length;have L6:=SqL.of (K:=K) oJ;walk_at "rds";have gR:=bU.trans bS;have hp:=bS _ _ iW;have qq:e≠r:=λz=>by rw[z] at bL;rw[bL] at f6;cases f6
  have D0:d≠r:=λz=>by
   rw[z] at hd;rcases hd with h|⟨o,h⟩<;>(rw[h] at f6;cases f6)
  refine Z5 (H0:=hid b9 r) (ew (SqL.of (K:=K) (show(hid b9 r) bl=some (.lst bs) by rw[Yy (λz=>by rw[z,iW] at g6;cases g6)];exact oJ))) (λi af ae=>Ze (hid b9 r) ae∧(∃a4 a5 a6,af=[some (.ref p),some (.ref d),some (.ref e),some (.ref r),a4,a5,a6])∧∃fT,ae r=some (.lst fT)∧ek ae fT (fc f ms pl (aj.belts.take i))) ⟨j0,⟨_,_,_,rfl⟩,[],hp,.nil⟩ (λi af ae h=>h.1) ?_ ?_
  ·rintro i af b7 hi ⟨ca,⟨a4,a5,a6,rfl⟩,fT,ff,em⟩;have cs:i<aj.belts.length:=by omega
   obtain⟨t,dO,b3⟩:=hK.at (GT cs);have c3:bs.getD i .non= .ref t:=by simp[List.getD,dO]
   rw[c3];have gQ:=ca _ _ (y1 hp _ _ b3);dsimp only[B5.v] at gQ;have lh:b7 e=some (.dK kv):=ca _ _ (by rw[Yy qq];exact gR _ _ bL);have hq:L2.Rd b7 d (.dK (turnsK f ms)):=hd.imp (λh=>ca _ _ (by rw[Yy D0];exact gR _ _ h)) λ⟨o,h⟩=>⟨o,ca _ _ (by rw[Yy D0];exact gR _ _ h)⟩;have j9:fc f ms pl (aj.belts.take (i+1))=fc f ms pl (aj.belts.take i)++(if inT ms aj.belts[i]=true then[] else[joB f ms pl aj.belts[i]]):=by
    unfold fc;rw[qad cs,qbQ,qaW]
    congr 1
    by_cases h:inT ms aj.belts[i]=true
    ·rw[if_pos h];simp[h]
    ·rw[if_neg h];simp[h]
   rw[j9];have eY:fT.length≤60:=by
    have bj:=em.length;have bp:(fc f ms pl (aj.belts.take i)).length≤aj.belts.length:=by
     unfold fc;rw[GE];exact qal (qaK _ _) (by rw[qaO];omega)
    omega
   have qn:=GM cs;obtain⟨dZ,e3⟩:=fh _ qn;obtain⟨fu,fA⟩:=M0 _ qn;generalize aj.belts[i]=bb at*;walk_at "rds";refine⟨d,_,rfl,.inl ⟨_,Sum.inl bb.giver,hq,rfl,rfl⟩,?_⟩;have M3:inT ms bb=true∨inT ms bb=false:=by cases inT ms bb<;>simp
   rcases M3 with d5|d5
   ·have bH:bb.giver∈ms∧bb.taker∈ms:=by simpa[inT] using d5
    rw[ZeE,decide_eq_true bH.1,qb6,d5];walk_at "rds";refine⟨d,_,rfl,.inl ⟨_,Sum.inl bb.taker,hq,rfl,rfl⟩,?_⟩;rw[ZeE,decide_eq_true bH.2,qb6];walk_at "rds";exact⟨ca,⟨_,_,_,rfl⟩,fT,ff,by simpa using em⟩
   have fe:(valV (turnsK f ms) (Sum.inl bb.giver)).getD (.int 1)= .int (tvJ f ms bb.giver):=by rw[ZkO];unfold tvJ;split<;>rfl
   have iW:(valV (turnsK f ms) (Sum.inl bb.taker)).getD (.int 1)= .int (tvJ f ms bb.taker):=by rw[ZkO];unfold tvJ;split<;>rfl
   rw[d5,if_neg (by decide)]
   by_cases bH:bb.giver∈ms
   case' pos=>
    have b3:bb.taker∉ms:=λz=>by simp[inT,bH,z] at d5
    rw[ZeE,decide_eq_true bH,qb6];walk_at "rds";refine⟨d,_,rfl,.inl ⟨_,Sum.inl bb.taker,hq,rfl,rfl⟩,?_⟩;rw[ZeE,decide_eq_false b3,Bool.not_false];walk_at "rds"
   case' neg=>
    rw[ZeE,decide_eq_false bH,Bool.not_false];walk_at "rds"
   all_goals
    refine⟨.ref d,rfl,d,rfl,.inl ⟨_,hq⟩,?_⟩;walk_at "rds";refine⟨_,.inl ⟨_,Sum.inl bb.giver,hq,rfl,rfl⟩,?_⟩;rw[fe];walk_at "rds";refine⟨.ref d,rfl,d,rfl,.inl ⟨_,hq⟩,?_⟩;walk_at "rds";refine⟨_,.inl ⟨_,Sum.inl bb.taker,hq,rfl,rfl⟩,?_⟩;rw[iW];walk_at "rds";refine⟨by show 5≤sizeLine;decide,λu gp=>?_⟩;have cC:Ze b7 (upd b7 u (.tup (joB f ms pl bb).v)):=cK gp;have wT:(upd b7 u (.tup (joB f ms pl bb).v)) u=some (.tup (joB f ms pl bb).v):=Zd
    change tNil _ (upd b7 u (.tup (joB f ms pl bb).v)) _
    generalize upd b7 u (.tup (joB f ms pl bb).v)=b1 at*;have j_:=cC _ _ ff;have lT:fT.length<sizeLine:=dj (by omega);walk_at "rds";have ej:c_ [r] b1 (upd b1 r (.lst (fT++ [V.ref u]))):=gl (by simp) j_ (by intro _ z;cases z);exact⟨(ca.trans cC).new nW,⟨_,_,_,rfl⟩,_,Zd,((em.keep λb xs e=>cC _ _ e).keep ej.tups).snoc (ej.tups _ _ wT)⟩
  ·rintro af b7 ⟨ca,⟨a4,a5,a6,rfl⟩,fT,ff,em⟩;rw[ww,qax] at em;walk_at "rds";refine q r b7 fT f6 (λb o a_=>ca _ _ ?_) ff em;rw[Yy (λz=>by rw[z,f6] at a_;cases a_)];exact gR _ _ a_
end
inductive D1{K:Frag}{mg:Str→Option Value}(T:Tp K mg)(vs:List V)(H:Hp)(Q:VK)(E:XK):Prop
 |mk (p:Addr) (aj:HM) (fp:List Addr) (z:Int→Nat) (cQ:vs=[.ref p]) (cH:c2 T H p aj fp) (cI:aj.names.length≤60) (dz:aj.belts.length≤1000) (en:ZI aj.belts aj.names.length) (eP:YS aj.belts) (fx:W9 aj.belts z) (gw:∀(r:Addr)(ae:Hp)(rs:List Int),Ze H ae→H r=none→ae r=some (.lst (rs.map V.int))→Rts aj.belts aj.names.length z rs→(rs.sum≤400→Q (.ref r) ae)∧(400<rs.sum→E (.ref T.A) none ae)):D1 T vs H Q E
section
variable {P:Program}{w:World}{K:Frag}{mg:Str→Option Value}{base:Heap}
theorem M4(T:Tp K mg):OkN P w base 9 T.be (D1 T):=by
 refine T.be.F.okX AL (λvs H Q E h=>?_) (λcz A outer s H vs Q E bq h=>?_)
 ·obtain⟨p,aj,fp,z,rfl,_⟩:=h
  rfl
 ·have hu:=bq.hu;obtain⟨p,aj,fp,z,rfl,b6,bO,hz,cN,hsz,l6,q⟩:=h;refine⟨_,(bN (cB (i:=1) AL.nd rfl (Or.inl rfl) (cw (ixk K) (c5 T.aE (CK T) bq cp (br (pv 0) bB)) b0 (λ_ _=>rfl)))
     (bN (dS (dg yp (pv 1) ZaT (dM _)) (b4 (i7 T.w.g T.w.e qaB rfl (br YF bB))) dX)
     (bN (dS (dg nG (dI (G7 (K:=K) rfl rfl) (by rfl) T.aA PyProof.Rows.boot_sum (br (pv 1) bB)) (qU (v:= .int 400) rfl T.O ⟨_,rfl⟩) (dM _)) (b4 (i7 T.L.g T.L.e qaB rfl (br YF bB))) dX)
     (b4 (c0 (pv 1)))))),?_⟩
  try dsimp only[L2.cxX,L2.ZN,L2.Zl]
  walk_at "rds";refine⟨p,aj,fp,z,rfl,b6,bO,hz,cN,hsz,l6,λt r ae rs F bw bq b3 f6 eY eO fM=>?_⟩;have l7:=Zdm cN bO eO eY fM;have dk:Rts aj.belts aj.names.length z rs:=⟨eY,λc bu=>(by obtain⟨k,a,b,_⟩:=l7.pos c bu;omega),λb a_=>(by
   obtain⟨i,hi,e⟩:=qao a_;have:=Uq l6 hsz cN eO eY fM hi;rw[el hi,e] at this;unfold lM at this;rw[Int.mul_comm b.give,Int.mul_comm b.take];omega),F,eO,fM⟩
  obtain⟨cg,c7⟩:=q r ae rs bw bq f6 dk;walk_at "rds";refine⟨rfl,?_⟩;walk_at "rds";refine Rd.Zou (.of f6) ?_;walk_at "rds";refine U7 (λc=>?_) (λc=>?_)
  ·walk_at "rds";exact c7 (by have:=of_decide_eq_true c;omega)
  ·walk_at "rds";exact cg (by
    by_cases y:400<rs.sum
    ·exact absurd (decide_eq_true y) c
    ·omega)
end
inductive D2{K:Frag}{mg:Str→Option Value}(T:Tp K mg)(vs:List V)(H:Hp)(Q:VK)(E:XK):Prop
 |mk (c d:Addr) (kept ms:List Int) (f:Int→Int) (mn:Int) (cQ:vs=[.ref c,.ref d]) (cH:SqL K H c (kept.map V.int)) (cI:kept.Nodup) (dz:kept.length≤100) (en:Rd H d (.dK (turnsK f ms))) (eP:ms.length≤100) (fx:mn∈ms) (gw:(∀m∈ms,mn≤m)) (j8:mn∈kept) (m_:(∀m∈ms,m≠mn→m∉kept)) (on:∀(e:Addr)(o:Obj)(ae:Hp)(kv:List (Key×V)),H e=none→Ze (upd H d (.frz o (.dK (turnsK f ms)))) ae→ae e=some (.dK kv)→(∀x,x∈kept∨x∈ms→valV kv (Sum.inl x)=some (V.int (placeN kept ms mn x)))→Q (.ref e) ae):D2 T vs H Q E
section
variable {P:Program}{w:World}{K:Frag}{mg:Str→Option Value}{base:Heap}
theorem M5(T:Tp K mg):OkN P w base 1 T.bf (D2 T):=by
 refine T.bf.F.okX p0 (λvs H Q E h=>?_) (λcz A outer s H vs Q E bq h=>?_)
 ·obtain⟨c,d,kept,ms,f,mn,rfl,_⟩:=h
  rfl
 ·have hu:=bq.hu;obtain⟨c,d,kept,ms,f,mn,rfl,bu,eE,ni,hd,oK,hH,lY,lZ,RW,q⟩:=h;refine⟨_,(bN (cB (i:=2) p0.nd rfl (Or.inl rfl) pe)
     (bN (eB PassesOwn.leaving rfl (pI (K:=K) rfl rfl T.k (br (pv 0) bB)) (hY (K:=K) (n:=2) rfl rfl (d8 (cG (i:=3) p0.nd rfl (Or.inl rfl)) (d8 (cG (i:=4) p0.nd rfl (Or.inl rfl)) hN))) (b4 (h8 (pv 3) (iB (pv 2) (pv 4) (mM hu)))))
     (bN (eB PassesOwn.leaving rfl (Iw (pv 1)) (cG (i:=5) p0.nd rfl (Or.inl rfl)) (b4 (h8 (cw (rq hu) (pv 2) (dI (zU rfl) (by rfl) T.ag PyProof.Rows.boot_min (br (pv 1) bB)) (λ_ _=>rfl)) (iB (pv 2) (pv 5) (mM hu)))))
     (b4 (c0 (pv 2)))))),?_⟩
  try dsimp only[L2.cxX,L2.ZN,L2.Zl]
  walk_at "rds";intro e bL;have bw:Ze H (upd H e (.dK [])):=cK bL;have fe:(upd H e (.dK [])) e=some (.dK []):=Zd;have jL:d≠e:=λz=>by
   rw[z] at hd;rcases hd with h|⟨o,h⟩<;>(rw[h] at bL;cases bL)
  generalize upd H e (.dK [])=bn at*;have se:=bw.seq bu;walk_at "rds";refine WF (pJ bu) (λi af ae=>Ze H ae∧(∃a3 a4,af=[some (.ref c),some (.ref d),some (.ref e),a3,a4,none])∧∃kv,ae e=some (.dK kv)∧kv.length≤i∧∀x∈kept.take i,valV kv (Sum.inl x)=some (V.int (idxL kept x:Nat))) ⟨bw,⟨_,_,rfl⟩,[],fe,qau _,by simp⟩ (λi af ae h=>h.1) ?_ ?_
  ·rintro i af bv v b9 hi ⟨bU,⟨a3,a4,rfl⟩,kv,kR,gL,iz⟩ ⟨t,b3,rfl,rfl⟩;have cs:i<kept.length:=by rw[GE] at hi;exact hi
   have c3:(kept.map V.int).getD i .non=V.int kept[i]:=by simp[List.getD,cs]
   rw[c3];have bS:Ze bv (upd bv t (.tup [.int i,V.int kept[i]])):=cK b3;have hI:(upd bv t (.tup [.int i,V.int kept[i]])) t=some (.tup [.int i,V.int kept[i]]):=Zd;generalize upd bv t (.tup [.int i,V.int kept[i]])=b9 at*;refine Rd.Vu (.of hI) rfl ?_;have v9:=bS _ _ kR;have vN:idxL kept kept[i]=i:=by
    have bj:=(je (GM cs)).1;have bp:=VT (GM cs);rw[GT bp] at bj;exact(qbO eE).mp (qan bj)
   have M6:kv.length<sizeLine:=dj (by omega);have gA:kept.take (i+1)=kept.take i++ [kept[i]]:=qad cs;rw[gA];generalize kept[i]=w at*;walk_at "rds";refine⟨(bU.trans bS).new bL,⟨_,_,rfl⟩,_,Zd,by have:=Vl kv (Sum.inl w:Key) (V.int i);omega,λx bo=>?_⟩;rw[pc]
   by_cases sZ:x=w
   ·rw[if_pos (by rw[sZ]),sZ,vN]
   ·rw[if_neg (λz=>sZ (qbU z))];rcases qaH.mp bo with z|z
    ·exact iz x z
    ·exact absurd (qac.mp z) sZ
  ·rintro af bv ⟨bU,⟨a3,a4,rfl⟩,kv,kR,gL,iz⟩;rw[GE,qax] at iz;rw[GE] at gL;have hT:L2.Rd bv d (.dK (turnsK f ms)):=hd.imp (λh=>bU _ _ h) λ⟨o,h⟩=>⟨o,bU _ _ h⟩;walk_at "rds";refine⟨.ref d,rfl,d,_,rfl,hT,λo=>?_⟩;have iH:(upd bv d (.frz o (.dK (turnsK f ms)))) d=some (.frz o (.dK (turnsK f ms))):=Zd;have M7:(upd bv d (.frz o (.dK (turnsK f ms)))) e=some (.dK kv):=by rw[b5 jL.symm];exact kR
   have M8:∀b cT,(upd H d (.frz o (.dK (turnsK f ms)))) b=some cT→(upd bv d (.frz o (.dK (turnsK f ms)))) b=some cT:=λb cT a_=>by
    by_cases z:b=d
    ·rw[z,Zd] at a_⊢;exact a_
    ·rw[b5 z] at a_⊢;exact bU _ _ a_
   generalize upd bv d (.frz o (.dK (turnsK f ms)))=b9 at*;have s0:(turnsK f ms).length=ms.length:=by unfold turnsK;rw[GE]
   have n6:(turnsK f ms).map (·.1)=ms.map Sum.inl:=by unfold turnsK;rw[qa3];rfl
   have ot:0<(turnsK f ms).length:=by rw[s0];exact List.length_pos_of_mem hH
   refine WF (H0:=hid b9 e) (Ix (H:=hid b9 e) (by rw[Yy jL];exact iH)) (λi af ae=>Ze (hid b9 e) ae∧(∃a5,af=[some (.ref c),some (.ref d),some (.ref e),a3,a4,a5])∧∃kv,ae e=some (.dK kv)∧kv.length≤100+i∧(∀x∈kept,x∉ms→valV kv (Sum.inl x)=some (V.int (idxL kept x:Nat)))∧valV kv (Sum.inl mn)=some (V.int (idxL kept mn:Nat))∧∀x∈ms.take i,valV kv (Sum.inl x)=some (V.int (idxL kept mn:Nat))) ⟨j0,⟨_,rfl⟩,kv,M7,by omega,λx bo _=>iz x bo,iz mn lZ,by simp⟩ (λi af ae h=>h.1) ?_ ?_
   ·rintro i af b7 v b1 hi ⟨ca,⟨a5,rfl⟩,s1,lh,l3,wU,qJ,l0⟩ ⟨rfl,M9,D3,rfl⟩;have cs:i<ms.length:=by omega
    have eS:M9=(Sum.inl ms[i],V.int (f ms[i])):=by
     have:(turnsK f ms)[i]? =some (Sum.inl ms[i],V.int (f ms[i])):=by unfold turnsK;simp[cs]
     rw[this] at D3;exact(qan D3).symm
    rw[eS];have hq:L2.Rd b1 d (.dK (turnsK f ms)):= .inr ⟨o,ca _ _ (by rw[Yy jL];exact iH)⟩;have gA:ms.take (i+1)=ms.take i++ [ms[i]]:=qad cs;have M_:=GM cs;rw[gA];generalize ms[i]=m at*;have M6:s1.length<sizeLine:=dj (by omega);show V9 5 (V.int m) _ _ _;walk_at "rds";refine Rd.Znn hq n6 ot λM my M'=>?_;obtain rfl:M=mn:=Int.le_antisymm (M' mn hH) (lY M my);refine Rd.Zlw lh qJ ?_;walk_at "rds";refine⟨ca.new nW,⟨_,rfl⟩,_,Zd,by have:=Vl s1 (Sum.inl m:Key) (V.int (idxL kept M:Nat));omega,λx bo mc=>?_,?_,λx bo=>?_⟩
    ·rw[pc,if_neg (λz=>mc (by rw[qbU z];exact M_))];exact wU x bo mc
    ·rw[pc]
     split
     ·rfl
     ·exact qJ
    ·rw[pc]
     split
     ·rfl
     ·rename_i eR;rcases qaH.mp bo with z|z
      ·exact l0 x z
      ·exact absurd (by rw[qac.mp z]) eR
   ·rintro af b7 ⟨ca,⟨a5,rfl⟩,s1,lh,l3,wU,qJ,l0⟩;rw[s0,qax] at l0;walk_at "rds";refine q e o b7 s1 bL (λb cT a_=>ca _ _ ?_) lh λx bo=>?_
    ·have kl:b≠e:=λz=>by
      rw[z,b5 jL.symm,bL] at a_;cases a_
     rw[Yy kl];exact M8 b cT a_
    ·unfold placeN
     by_cases mc:x∈ms
     ·rw[if_pos mc];exact l0 x mc
     ·rw[if_neg mc];exact wU x (bo.resolve_right mc) mc
end
inductive wV{K:Frag}{mg:Str→Option Value}(T:Tp K mg)(vs:List V)(H:Hp)(Q:VK)(E:XK):Prop
 |mk (p bx h g:Addr) (aj:HM) (fp:List Addr) (z:Int→Nat) (cx:List Int) (cQ:vs=[.ref p,.ref h,.ref g]) (cH:H p=some (.ins T.c bx [])) (cI:c2 T H h aj fp) (dz:H g=some (.lst (cx.map V.int))) (en:Vx aj.names.length cx) (eP:cx.length≤30) (fx:Wc aj.names) (gw:aj.belts.length≤60) (j8:ZI aj.belts aj.names.length) (m_:YS aj.belts) (on:W9 aj.belts z) (Kh:∀(rs:List Int),Rts aj.belts aj.names.length z rs→(400<rs.sum→∀ae,(∀b o,H b=some o→b≠p→ae b=some o)→E (.ref T.A) none ae)∧(rs.sum≤400→∀(ms:List Int),ms.Perm cx→ms.Pairwise (· ≤·)→∀(ce:List Nat)(d0:Nat→Nat),Fire.Wb (lO (ev aj.belts ms) (hn (ev aj.belts ms)) (ms.map (turnV rs ms))) (λ_=>0) ce d0→(∀w,¬hm (ev aj.belts ms) (hn (ev aj.belts ms)) (ms.map (turnV rs ms)) d0 w)→((ce.length:Int)<(ms.map (turnV rs ms)).sum→∀ae,(∀b o,H b=some o→b≠p→ae b=some o)→E (.ref T.P) none ae)∧(¬(ce.length:Int)<(ms.map (turnV rs ms)).sum→∀(ae:Hp)(ad:List Addr)(mn:Int),mn∈ms→(∀m∈ms,mn≤m)→YC T ae p (r8 aj rs ms mn ce) ad→(∀b o,H b=some o→b≠p→ae b=some o)→(∀x∈ad,x≠p→H x=none)→Q .non ae))):wV T vs H Q E
theorem ZfA{K:Frag}{mg:Str→Option Value}{T:Tp K mg}{H:Hp}{h g:Addr}{aj:HM}{fp:List Addr}{z:Int→Nat}{cx:List Int}{Q:Addr→Hp→Prop}{E:XK}(b6:c2 T H h aj fp)(bH:H g=some (.lst (cx.map V.int)))(hok:Vx aj.names.length cx)(oo:cx.length≤30)(g_:Wc aj.names)(kf:aj.belts.length≤60)(cN:ZI aj.belts aj.names.length)(hsz:YS aj.belts)(l6:W9 aj.belts z)
  (q:∀(rs:List Int),Rts aj.belts aj.names.length z rs→(400<rs.sum→∀ae,Ze H ae→E (.ref T.A) none ae)∧(rs.sum≤400→
  ∀(ms:List Int),ms.Perm cx→ms.Pairwise (· ≤·)→∀(ce:List Nat)(d0:Nat→Nat),Fire.Wb (lO (ev aj.belts ms) (hn (ev aj.belts ms)) (ms.map (turnV rs ms))) (λ_=>0) ce d0→(∀w,¬hm (ev aj.belts ms) (hn (ev aj.belts ms)) (ms.map (turnV rs ms)) d0 w)→
   ((ce.length:Int)<(ms.map (turnV rs ms)).sum→∀ae,Ze H ae→E (.ref T.P) none ae)∧(¬(ce.length:Int)<(ms.map (turnV rs ms)).sum→∀(p:Addr)(ae:Hp)(ad:List Addr)(mn:Int),mn∈ms→(∀m∈ms,mn≤m)→YC T ae p (r8 aj rs ms mn ce) ad→Ze H ae→(∀x∈ad,H x=none)→Q p ae))):
  ∀x bx,H x=none→H bx=none→bx≠x→wV T (.ref x::([.ref h,.ref g]++ [])) (upd (upd H bx (.own x)) x (.ins T.c bx [])) (λv bv=>v= .non∧Q x bv) E:=by
 intro x bx bo jg ne;have bV:Ze H (upd (upd H bx (.own x)) x (.ins T.c bx [])):=λb o e=>by rw[b5 (dw e bo),b5 (dw e jg)];exact e
 have sn:∀y,(upd (upd H bx (.own x)) x (.ins T.c bx [])) y=none→H y=none:=λy e=>by
  cases cf:H y with
  |none=>rfl
  |some o=>rw[bV _ _ cf] at e;cases e
 refine⟨x,bx,h,g,aj,fp,z,cx,rfl,Zd,b6.same bV,bV _ _ bH,hok,oo,g_,kf,cN,hsz,l6,λrs dk=>⟨λc ae k=>(q rs dk).1 c ae λb o e=>k b o (bV b o e) (dw e bo),λc ms bD hs ce d0 bj bp=>⟨λd ae k=>((q rs dk).2 c ms bD hs ce d0 bj bp).1 d ae λb o e=>k b o (bV b o e) (dw e bo),λd ae ad mn fu fA bC k bJ=>⟨rfl,((q rs dk).2 c ms bD hs ce d0 bj bp).2 d x ae ad mn fu fA bC (λb o e=>k b o (bV b o e) (dw e bo)) λy bR=>?_⟩⟩⟩⟩
 by_cases e:y=x
 ·rw[e];exact bo
 ·exact sn y (bJ y bR e)
section
variable {P:Program}{w:World}{K:Frag}{mg:Str→Option Value}{base:Heap}
theorem Na(T:Tp K mg):OkI P w mg base 10 T.bg (wV T):=by
 have eZ:=T.a;have e0:=T.e;have qx:=T.h;have qy:=T.l;refine T.bg.F.okX rW (λvs H Q E h=>?_) (λcz A outer s H vs Q E bq h=>?_)
 ·obtain⟨p,bx,h,g,aj,fp,z,cx,rfl,_⟩:=h
  rfl
 ·have hu:=bq.hu;obtain⟨p,bx,bF,g,aj,fp,z,cx,rfl,bD,b6,bH,hok,oo,g_,kf,cN,hsz,l6,q⟩:=h;have l_:p∉fp:=by
   intro z;obtain⟨MG,a,b,bs,rfl,bj,bp,bT,cy,f4,db⟩:=b6;simp only[qae,qaG,or_false] at z;rcases z with rfl|rfl|rfl|rfl
   ·rw[bj] at bD
    injection bD with e
    injection e with bG bK de
    cases de
   ·rw[bp] at bD;cases bD
   ·rw[bT] at bD;cases bD
   ·rw[cy] at bD;cases bD
  have LP:=g_.2.2;refine⟨_,(bN (eo (c5 T.a2 (L1 T) bq cp (br (pv 1) (br (pv 2) bB))))
     (bN (cB (i:=3) rW.nd rfl (Or.inr rfl) (c5 T.a3 (L4 T) bq cp (br (c5 T.be (M4 T) bq cp (br (pv 1) bB)) (br (dI (zY (K:=K) rfl) (by rfl) T.D qb4 (br (pv 2) bB)) bB))))
     (bN (cB (i:=4) rW.nd rfl (Or.inr rfl) (fH (pv 1) T.a T.R (nc T) bq cp))
     (bN (cB (i:=5) rW.nd rfl (Or.inr rfl) (dI (zU rfl) (by rfl) T.ag PyProof.Rows.boot_min (br (pv 3) bB)))
     (bN (i8 (K:=K) rfl (pv 0) (c5 T.bc (MR T) bq cp (br (pv 1) (br (pv 3) bB))) rfl)
     (bN (i8 (K:=K) rfl (pv 0) (jZ rfl (fq (x:="work") (zs:=["turns","first"]) (ix:=[3,5]) (cu rM) ["self","hall","group","turns","names","first"] rfl rfl (by decide+kernel)) (iD rfl T.i (br (dI (fa K) (by rfl) T.f qap (br (pv 4) bB)) bB)) (λck C s H fp=>⟨(cG (i:=0) (show(["work","turns","first"]:List Str).Nodup by decide+kernel) rfl (Or.inl rfl)),(nR (PW.pt (hb (dg (ij (K:=K) rfl hu) (pv 0) (pv 2) (dM _)) (h7 (dg (pG hu) (pv 0) (pv 1) (by with_unfolding_all rfl)))))),(pv 0)⟩)) rfl)
     (bN (i8 (K:=K) rfl (pv 0) (fr (K:=K) rfl qah qaY qaZ mZ (eK (K:=K) rfl (pv 0) rfl) (br (pv 5) bB)) rfl)
     (bN (i8 (K:=K) rfl (pv 0) (jZ rfl (fq (x:="work") (zs:=["names"]) (ix:=[4]) (cu rM) ["self","hall","group","turns","names","first"] rfl rfl (by decide+kernel)) (ey (K:=K) rfl (eK (K:=K) rfl (pv 0) rfl)) (λck C s H fp=>⟨(cG (i:=0) (show(["work","names"]:List Str).Nodup by decide+kernel) rfl (Or.inl rfl)),gF,(cw (ixk K) (pv 1) (pv 0) (λ_ _=>rfl))⟩)) rfl)
     (b4 (i8 (K:=K) rfl (pv 0) (c5 T.bd (MZ T) bq cp (br (pv 1) (br (pv 3) (br (c5 T.bf (M5 T) bq cp (br (eK (K:=K) rfl (pv 0) rfl) (br (pv 3) bB))) bB)))) rfl)))))))))),?_⟩
  try dsimp only[L2.cxX,L2.ZN,L2.Zl]
  walk_at "rds";refine⟨bF,g,aj,fp,cx,rfl,b6,.of bH,by omega,hok,?_⟩;walk_at "rds";refine⟨bF,aj,fp,z,rfl,b6,by omega,by omega,cN,hsz,l6,λr bn rs bw fi f6 dk=>?_⟩;refine⟨λqu=>?_,λNb=>(q rs dk).1 Nb bn λb o e _=>bw b o e⟩;walk_at "rds";refine Rd.ZlC (.of (bw _ _ bH)) (by omega) (λiy ms hso fK oq=>?_);have c7:=(q rs dk).2 qu ms fK oq;have bU:Ze bn (upd bn iy (.lst (ms.map V.int))):=cK hso;have D4:(upd bn iy (.lst (ms.map V.int))) iy=some (.lst (ms.map V.int)):=Zd;generalize upd bn iy (.lst (ms.map V.int))=bv at*;have eE:ms.Nodup:=fK.nodup_iff.mpr hok.2.1;have fR:∀m∈ms,0≤m∧m<(aj.names.length:Int):=λm bA=>hok.2.2 m (fK.mem_iff.mp bA);have lX:ms≠[]:=λe=>by rw[e] at fK;exact hok.1 fK.symm.eq_nil
  have oK:ms.length≤30:=by rw[fK.length_eq];exact oo
  have eY:=dk.len;have lW:=dk.pos;obtain⟨MU,wW⟩:=vk lW eE lX (by rw[eY];exact fR);have D5:∀x∈rs,1≤x∧x≤400:=λx bo=>⟨lW x bo,by have:=ZlV (λr bq=>(by have:=lW r bq;omega)) x bo;omega⟩;walk_at "rds";refine⟨r,iy,rs,ms,rfl,.of (bU _ _ f6),.of D4,lX,eE,by omega,by rw[eY];exact fR,λx bo=>(by have:=D5 x bo;omega),λd b9 nj bS v_=>?_⟩;have gR:=bw.trans (bU.trans bS);have gf:=b6.same gR;have qC:=gR _ _ bD;have Nc:∀m∈ms,turnV rs ms m≤400:=λm bA=>by
   obtain⟨bj,bp,_⟩:=wW m bA;obtain⟨bT,cy⟩:=fR m bA;have bt:m.toNat<rs.length:=by omega
   have e:rs.getD m.toNat 0=rs[m.toNat]:=by simp[List.getD,bt]
   have:=D5 _ (GM bt);omega
  have jj:∀m∈ms,1≤turnV rs ms m:=λm bA=>(wW m bA).1;have jM:∀mn ce,r8 aj rs ms mn ce=⟨ce.map λw=>ms.getD w 0,dm aj.names.length ms mn,idxL (cU aj.names.length ms mn) mn,(dm aj.names.length ms mn).map λw=>aj.names.getD w "",fc (turnV rs ms) ms (placeN (cU aj.names.length ms mn) ms mn) aj.belts⟩:=λ_ _=>rfl;generalize turnV rs ms=f at*;have s2:H d=none:=eX (bw.trans bU) nj;clear nj bw bU bS hso D4 fi f6 bn bv wW;walk_at "rds";refine⟨bF,aj,fp,rfl,gf,λez b7 iV ca nb=>?_⟩;have f5:=gR.trans ca;have iU:=b6.same f5;have hq:=ca _ _ v_;have oM:=f5 _ _ bD;have s0:(turnsK f ms).length=ms.length:=by unfold turnsK;rw[GE]
  have n6:(turnsK f ms).map (·.1)=ms.map Sum.inl:=by unfold turnsK;rw[qa3];rfl
  have ot:0<(turnsK f ms).length:=by rw[s0];exact List.length_pos_iff.mpr lX
  walk_at "rds";refine Rd.Znn (.inl hq) n6 ot λmn hH lY=>?_;walk_at "rds";refine⟨bF,d,aj,fp,f,ms,rfl,iU,g_,kf,hq,eE,oK,fR,jj,by omega,λce d0 hL kh=>?_⟩;obtain⟨fv,mm⟩:=c7 ce d0 hL kh;refine⟨λcJ ae cC=>fv cJ ae λb o e _=>cC _ _ (f5 _ _ e),λcJ a b1 qB cC D6=>?_⟩;replace mm:=mm cJ;clear c7 fv cJ hL kh;have mb:=f5.trans cC;have qD:=mb _ _ bD;have iT:p≠a:=dw oM qB;have k9:p≠d:=dw bD s2;have D7:p≠ez:=dw qC iV;have kb:=cC _ _ hq;have ss:=cC _ _ nb;have Nd:H a=none:=eX f5 qB;show ZgX 0 _ _ _;walk_at "rds";have f1:c_ [p] b1 (upd b1 p (.ins T.c bx [("inner_row",.ref a)])):=gl (by simp) qD (by intro _ z;cases z);have ln:c_ [p] H (upd b1 p (.ins T.c bx [("inner_row",.ref a)])):=mb.frame.trans f1;have nr:(upd b1 p (.ins T.c bx [("inner_row",.ref a)])) p=some (.ins T.c bx [("inner_row",.ref a)]):=Zd;have wX:=f1.keep _ _ D6 (by simpa using iT.symm);have lg:=f1.keep _ _ kb (by simpa using k9.symm);have ka:=f1.keep _ _ ss (by simpa using D7.symm);generalize upd b1 p (.ins T.c bx [("inner_row",.ref a)])=cR at*;clear f1 qD D6 kb ss qC oM hq nb gf iU cC ca mb f5 gR;have Nf:=SqL.of (K:=K) ka;have gs:((aj.names.map V.str).length:Int)=(aj.names.length:Int):=by simp
  walk_at "rds";refine Yo WW (dj (by simp;omega)) (λi=>j7 ms mn i) (λi=> .int (i:Int)) (λi ae c4 hi bV k=>?_) (λi ae c4 hi _ bV k=>?_) (λb dt jK et sw=>?_)
  ·have hr:=bV _ _ lg;rw[qa8];unfold j7 at k;walk_at "rds"
   by_cases hw:(i:Int)=mn
   ·rw[decide_eq_true hw,Bool.true_or] at k;walk_at "rds";exact k ae (Ze.refl ae)
   ·rw[decide_eq_false hw,Bool.false_or] at k;walk_at "rds";rw[ZeE];exact k ae (Ze.refl ae)
  ·rw[qa8];walk_at "rds";exact k ae (Ze.refl ae)
  have vF:((List.range (((aj.names.map V.str).length:Nat):Int).toNat).filter λi=>j7 ms mn i).map (λi:Nat=>V.int (i:Int))=(cU aj.names.length ms mn).map V.int:=by
   unfold cU dm;rw[qab,GE,qa3]
   rfl
  rw[vF] at sw;have qF:=et _ _ nr;have h4:p≠b:=dw nr jK;have Ng:H b=none:=by
   cases e:H b with
   |none=>rfl
   |some o=>
    by_cases z:b=p
    ·exact absurd z h4.symm
    ·rw[ln.keep _ _ e (by simpa using z)] at jK;cases jK
  have f4:a≠b:=dw wX jK;walk_at "rds";have lp:c_ [p] dt (upd dt p (.ins T.c bx [("inner_row",.ref a),("kept",.ref b)])):=gl (by simp) qF (by intro _ z;cases z);have l':c_ [p] cR (upd dt p (.ins T.c bx [("inner_row",.ref a),("kept",.ref b)])):=et.frame.trans lp;have oO:(upd dt p (.ins T.c bx [("inner_row",.ref a),("kept",.ref b)])) p=some (.ins T.c bx [("inner_row",.ref a),("kept",.ref b)]):=Zd;have wY:=lp.keep _ _ sw (by simpa using h4.symm);generalize upd dt p (.ins T.c bx [("inner_row",.ref a),("kept",.ref b)])=eJ at*;have qG:=ln.trans l';have lZ:mn∈cU aj.names.length ms mn:=YV.mpr ⟨fR mn hH,.inl rfl⟩;obtain⟨dx,eh⟩:=je lZ;clear lp qF sw et;walk_at "rds";refine⟨b,_,mn,_,rfl,rfl,wY,dx,eh,?_⟩;generalize uy:idxL (cU aj.names.length ms mn) mn=jn at*;walk_at "rds";have ma:c_ [p] eJ (upd eJ p (.ins T.c bx [("inner_row",.ref a),("kept",.ref b),("joined",.int jn)])):=gl (by simp) oO (by intro _ z;cases z);have s3:c_ [p] cR (upd eJ p (.ins T.c bx [("inner_row",.ref a),("kept",.ref b),("joined",.int jn)])):=l'.trans ma;have oP:(upd eJ p (.ins T.c bx [("inner_row",.ref a),("kept",.ref b),("joined",.int jn)])) p=some (.ins T.c bx [("inner_row",.ref a),("kept",.ref b),("joined",.int jn)]):=Zd;have wZ:=ma.keep _ _ wY (by simpa using h4.symm);generalize upd eJ p (.ins T.c bx [("inner_row",.ref a),("kept",.ref b),("joined",.int jn)])=gI at*;have D8:=SqL.of (K:=K) wZ;have D9:=SqL.of (K:=K) (s3.keep _ _ ka (by simpa using D7.symm));have gL:=Zag (n:=aj.names.length) (ms:=ms) (mn:=mn);have BQ:((cU aj.names.length ms mn).map V.int).length=(dm aj.names.length ms mn).length:=by unfold cU;simp
  clear ma l' oO wY;walk_at "rds";refine Yo (ew D8) (dj (by omega)) (λ_=>true) (λi=> .str (aj.names.getD ((dm aj.names.length ms mn).getD i 0) "")) (λi ae c4 hi bV k=>?_) (λi ae c4 hi _ bV k=>?_) (λc fY lf gc w0=>?_)
  ·walk_at "rds";exact k ae (Ze.refl ae)
  ·have cs:i<(dm aj.names.length ms mn).length:=by omega
   have c3:((cU aj.names.length ms mn).map V.int).getD i .non=V.int ((dm aj.names.length ms mn)[i]:Nat):=by unfold cU;simp[List.getD,cs]
   have nq:(dm aj.names.length ms mn).getD i 0=(dm aj.names.length ms mn)[i]:=by simp[List.getD,cs]
   rw[c3];rw[nq] at k;have hw:=qaw.mp (qaC.mp (GM cs)).1;generalize (dm aj.names.length ms mn)[i]=w at*;have d6:atI (aj.names.map V.str) (w:Int)=some (.str (aj.names.getD w "")):=gY (by simp[List.getD,hw]);have gM:=bV.seq D9;walk_at "rds";exact k ae (Ze.refl ae)
  have iO:((List.range ((cU aj.names.length ms mn).map V.int).length).filter λ_=>true).map (λi=>V.str (aj.names.getD ((dm aj.names.length ms mn).getD i 0) ""))=((dm aj.names.length ms mn).map λw=>aj.names.getD w "").map V.str:=by
   rw[qaA.mpr λ_ _=>rfl,BQ];refine qay (by simp) λi bj bp=>?_;have bT:i<(dm aj.names.length ms mn).length:=by simpa using bj
   simp[List.getD,bT]
  rw[iO] at w0;have sW:=gc _ _ oP;have oN:p≠c:=dw oP lf;have D_:=ln.trans s3;have Nh:H c=none:=by
   cases e:H c with
   |none=>rfl
   |some o=>
    rw[D_.keep _ _ e (by simpa using oN.symm)] at lf;cases lf
  walk_at "rds";have w1:c_ [p] fY (upd fY p (.ins T.c bx [("inner_row",.ref a),("kept",.ref b),("joined",.int jn),("called",.ref c)])):=gl (by simp) sW (by intro _ z;cases z);have w2:c_ [p] gI (upd fY p (.ins T.c bx [("inner_row",.ref a),("kept",.ref b),("joined",.int jn),("called",.ref c)])):=gc.frame.trans w1;have Ni:(upd fY p (.ins T.c bx [("inner_row",.ref a),("kept",.ref b),("joined",.int jn),("called",.ref c)])) p=some (.ins T.c bx [("inner_row",.ref a),("kept",.ref b),("joined",.int jn),("called",.ref c)]):=Zd;have D':=w1.keep _ _ w0 (by simpa using oN.symm);generalize upd fY p (.ins T.c bx [("inner_row",.ref a),("kept",.ref b),("joined",.int jn),("called",.ref c)])=ii at*;have w3:=w2.keep _ _ wZ (by simpa using h4.symm);have w4:=s3.trans w2;have w5:=w4.keep _ _ lg (by simpa using k9.symm);have Ea:=w4.keep _ _ wX (by simpa using iT.symm);have Eb:=ln.trans w4;have oL:=b6.off Eb (λx bo z=>l_ (by rw[←qac.mp z];exact bo));clear w1 sW w0 gc w2 s3 D_ oP wZ D8 D9 ln qG nr wX lg ka Nf iO;walk_at "rds";have Ec:∀x:Int,0≤x→x<(aj.names.length:Int)→x∈cU aj.names.length ms mn∨x∈ms:=λx cd bj=>by
   by_cases z:x∈ms
   ·exact .inr z
   ·exact .inl (YV.mpr ⟨⟨cd,bj⟩,.inr z⟩)
  have RX:(cU aj.names.length ms mn).length=(dm aj.names.length ms mn).length:=by unfold cU;simp
  refine⟨b,d,cU aj.names.length ms mn,ms,f,mn,rfl,.of w3,r9,by omega,.inl w5,by omega,hH,lY,lZ,λm bA ne bt=>((YV.mp bt).2.elim ne λz=>z bA),λe o H12 kv qr ji Nj iz=>?_⟩;have fd:c_ [d] ii (upd ii d (.frz o (.dK (turnsK f ms)))):=gl (by simp) w5 (by intro _ z;cases z);have Ci:(upd ii d (.frz o (.dK (turnsK f ms)))) d=some (.frz o (.dK (turnsK f ms))):=Zd;have qK:c_ [d] ii H12:=fd.trans ji.frame;have Nk:=ji _ _ Ci;have jL:∀{x:Addr}{cT:HO},ii x=some cT→(∀kv,cT≠ .dK kv)→x≠d:=λ{x cT} bj bp z=>by
   rw[z,w5] at bj;exact bp _ (qan bj).symm
  have Ed:=qK.keep _ _ Ni (by simpa using k9);have Nl:=qK.keep _ _ Ea (by simpa using jL Ea (by intro _ z;cases z));have CQ:=qK.keep _ _ w3 (by simpa using jL w3 (by intro _ z;cases z));have Nn:=qK.keep _ _ D' (by simpa using jL D' (by intro _ z;cases z));have w6:c_ [p,d] H H12:=(Eb.mono (by simp)).trans (qK.mono (by simp));have No:=b6.off w6 (λx bo z=>by
   simp only[qae,qaG,or_false] at z;rcases z with z|z
   ·exact l_ (z▸bo)
   ·exact b6.dom d (z▸bo) s2)
  have Np:∀bb∈aj.belts,IntMulOk bb.give (tvJ f ms bb.giver)∧IntMulOk bb.take (tvJ f ms bb.taker):=λbb _=>by
   have cP:∀x,IntMulOk bb.give (tvJ f ms x)∧IntMulOk bb.take (tvJ f ms x):=λx=>by
    have bj:0≤tvJ f ms x∧tvJ f ms x≤400:=by
     unfold tvJ
     split
     ·rename_i bo;have:=jj x bo;have:=Nc x bo;omega
     ·omega
    have bp:Builtin.Int.intBits (tvJ f ms x)≤64:=intBits_le_64 (by omega) (by omega);exact⟨.of_right bp,.of_right bp⟩
   exact⟨(cP _).1,(cP _).2⟩
  walk_at "rds";refine⟨bF,d,e,aj,fp,f,ms,kv,placeN (cU aj.names.length ms mn) ms mn,rfl,No,kf,.inr ⟨o,Nk⟩,Nj,λbb tU=>?_,Np,λr H13 bs fi ke Nq Nr=>?_⟩
  ·obtain⟨bj,bp,bT,cy⟩:=cN bb tU;exact⟨iz _ (Ec _ bj bp),iz _ (Ec _ bT cy)⟩
  have Nt:=ke _ _ Ed;have Nu:p≠r:=dw Ed fi;walk_at "rds";have w7:c_ [p] H13 (upd H13 p (.ins T.c bx [("inner_row",.ref a),("kept",.ref b),("joined",.int jn),("called",.ref c),("rows",.ref r)])):=gl (by simp) Nt (by intro _ z;cases z);have s4:c_ [p] H12 (upd H13 p (.ins T.c bx [("inner_row",.ref a),("kept",.ref b),("joined",.int jn),("called",.ref c),("rows",.ref r)])):=ke.frame.trans w7;have Nv:(upd H13 p (.ins T.c bx [("inner_row",.ref a),("kept",.ref b),("joined",.int jn),("called",.ref c),("rows",.ref r)])) p=some (.ins T.c bx [("inner_row",.ref a),("kept",.ref b),("joined",.int jn),("called",.ref c),("rows",.ref r)]):=Zd;have Nw:=w7.keep _ _ Nq (by simpa using Nu.symm);have s5:=Nr.keep w7.tups;have Nx:c_ [p,d] H (upd H13 p (.ins T.c bx [("inner_row",.ref a),("kept",.ref b),("joined",.int jn),("called",.ref c),("rows",.ref r)])):=w6.trans (s4.mono (by simp));refine mm _ [p,a,b,c,r] mn hH lY ⟨bx,a,b,c,r,bs,rfl,?_,by rw[jM];dsimp only;rw[qa3];exact s4.keep _ _ Nl (by simpa using iT.symm),s4.keep _ _ CQ (by simpa using h4.symm),s4.keep _ _ Nn (by simpa using oN.symm),Nw,by rw[jM];exact s5⟩ (λx cT bo s6=>Nx.keep _ _ bo (by
   simp only[qae,qaG,or_false];rintro(z|z)
   ·exact s6 z
   ·rw[z,s2] at bo;cases bo)) (λx bo s6=>?_)
  ·rw[jM,uy];exact Nv
  simp only[qae,qaG,or_false] at bo;rcases bo with rfl|rfl|rfl|rfl|rfl
  ·exact absurd rfl s6
  ·exact Nd
  ·exact Ng
  ·exact Nh
  ·cases ea:H x with
   |none=>rfl
   |some cT=>
    rw[w6.keep _ _ ea (by
     simp only[qae,qaG,or_false];rintro(z|z)
     ·exact s6 z
     ·rw[z,s2] at ea;cases ea)] at fi
    cases fi
end
theorem Ee{f:Nat→Int}:∀{is:List Nat}{ys:List V},Paired (λi v=>v=V.int (f i)) is ys→ys=(is.map f).map V.int
 |_,_,.nil=>rfl
 |_,_,.cons a r=>by rw[a,Ee r];rfl
theorem Zmv{rs:List Int}(h:∀r∈rs,r≤6):rs.sum≤6*(rs.length:Int):=by
 induction rs with
 |nil=>simp
 |cons x rs bQ=>
  have bj:=h x (by simp);have bp:=bQ λr bq=>h r (by simp[bq]);simp only[qcl,List.length_cons];omega
theorem Zjy{ls:List B5}{n:Nat}(h:∀l∈ls,Bel n l):YS ls:=λi hi=>by
 rw[el hi];have b:=h _ (GM hi);obtain⟨cH,cI⟩:=b.sz;obtain⟨f1,f2⟩:=b.few;generalize ls[i]=l at*;exact⟨l.give.toNat,l.take.toNat,by omega,by omega,by omega,by omega,by omega,by omega⟩
noncomputable def ki (rs:List Int) (w:Int):Nat:=if 0<(rs.getD w.toNat 0).toNat then(rs.getD w.toNat 0).toNat else 1
theorem ZbB{ls:List B5}{rs:List Int}(cN:ZI ls rs.length)(hsz:YS ls)(oh:∀r∈rs,1≤r)(a_:Zap ls rs):W9 ls (ki rs):=by
 have hz:∀w:Int,0≤w→w<(rs.length:Int)→((ki rs w:Nat):Int)=rs.getD w.toNat 0:=λw a b=>by
  have bj:1≤rs.getD w.toNat 0:=by rw[el (by omega)];exact oh _ (GM _)
  unfold ki;rw[if_pos (by omega)];omega
 refine⟨λw=>by unfold ki;split<;>omega,λi hi=>?_⟩;obtain⟨cX,bY,dL,fL,fS,dP,eF,dO⟩:=hsz i hi;obtain⟨eb,eT,gP,gv⟩:=cN.at hi;have bj:=a_ (ls.getD i dB) (by rw[el hi];exact GM hi);rw[←hz _ eb eT,←hz _ gP gv,eF,dO] at bj;rw[eF,dO,qab,qab];have:((cX*ki rs (ls.getD i dB).giver:Nat):Int)=((bY*ki rs (ls.getD i dB).taker:Nat):Int):=by rw[qcb,qcb];exact bj
 exact Int.ofNat.inj this
theorem Zk9{ms:List Int}(bO:ms.Nodup){i:Nat}(hi:i<ms.length):idxL ms ms[i]=i:=by
 have bj:=(je (GM hi)).1;have bp:=VT (GM hi);rw[GT bp] at bj;exact(qbO bO).mp (qan bj)
theorem Ny{ms:List Int}{f:Int→Int}{x:Int}(bo:x∈ms):(ms.map f).getD (idxL ms x) 0=f x:=by
 obtain⟨a1,a2⟩:=FM.mp (je bo).1;rw[el (by rw[GE];exact a1),qbf,a2]
theorem ZjO{ls:List B5}{ms:List Int}{b:B5}(h:b∈ev ls ms):∃cS∈ls,cS.giver∈ms∧cS.taker∈ms∧b=inB ms cS:=by
 obtain⟨cS,cd,rfl⟩:=qam.mp h;obtain⟨bj,bp⟩:=qaC.mp cd;unfold inT at bp;simp only[qaR,decide_eq_true_eq] at bp;exact⟨cS,bj,bp.1,bp.2,rfl⟩
section
variable {n:Nat}{ls:List B5}{L cx ms:List Int}{mn:Int}
structure Gr(n:Nat)(L cx ms:List Int)(mn:Int):Prop where
 ok:Vx n cx
 perm:ms.Perm cx
 mem:mn∈ms
 len:L.length=n
 pos:∀r∈L,1≤r
theorem Gr.rg(h:Gr n L cx ms mn):∀x∈ms,0≤x∧x<(n:Int):=λx bo=>h.ok.2.2 x (h.perm.mem_iff.mp bo)
theorem Gr.turn(h:Gr n L cx ms mn):(ms.map (turnV L ms)).sum≤L.sum∧∀x∈ms,1≤turnV L ms x∧turnV L ms x≤L.getD x.toNat 0∧turnV L ms x*(gcdM L ms:Int)=L.getD x.toNat 0:=
 vk h.pos (h.perm.nodup_iff.mpr h.ok.2.1) (λe=>by have:=h.mem;rw[e] at this;cases this) (by rw[h.len];exact h.rg)
theorem Gr.at(h:Gr n L cx ms mn){x:Int}(cd:0≤x)(bj:x<(n:Int)):1≤L.getD x.toNat 0:=by
 rw[el (by rw[h.len];omega)];exact h.pos _ (GM _)
theorem Gr.kept(h:Gr n L cx ms mn){x:Int}(cd:0≤x)(bj:x<(n:Int)):(if x∈ms then mn else x)∈cU n ms mn:=by
 split
 ·exact YV.mpr ⟨h.rg mn h.mem,.inl rfl⟩
 ·exact YV.mpr ⟨⟨cd,bj⟩,.inr (by assumption)⟩
theorem qL(e1:List Int)(x:Int):placeN e1 ms mn x=idxL e1 (if x∈ms then mn else x):=by unfold placeN;split<;>rfl
theorem s7:(cU n ms mn).length=(dm n ms mn).length:=by unfold cU;simp
theorem Gr.place_lt(h:Gr n L cx ms mn){x:Int}(cd:0≤x)(bj:x<(n:Int)):placeN (cU n ms mn) ms mn x<(dm n ms mn).length:=by
 rw[qL,←s7];exact VT (h.kept cd bj)
theorem Gr.due_at(h:Gr n L cx ms mn){x:Int}(cd:0≤x)(bj:x<(n:Int)):(fQ n L ms mn).getD (placeN (cU n ms mn) ms mn x) 0=if x∈ms then(gcdM L ms:Int) else L.getD x.toNat 0:=by
 have cJ:=h.place_lt cd bj;have bt:=(je (h.kept cd bj)).1;rw[←qL] at bt;generalize placeN (cU n ms mn) ms mn x=kg at*;unfold cU at bt;rw[qaj,GT cJ,qca] at bt;replace bt:=qan bt;unfold fQ;rw[el (by rw[GE];exact cJ),qbf]
 by_cases bo:x∈ms
 ·rw[if_pos bo] at bt⊢;rw[if_pos bt]
 ·rw[if_neg bo] at bt⊢;rw[if_neg (λz=>bo (by rw[←bt,z];exact h.mem))]
  congr 1
  omega
theorem Gr.tv_due(h:Gr n L cx ms mn){x:Int}(cd:0≤x)(bj:x<(n:Int)):tvJ (turnV L ms) ms x*(fQ n L ms mn).getD (placeN (cU n ms mn) ms mn x) 0=L.getD x.toNat 0:=by
 rw[h.due_at cd bj];unfold tvJ
 split
 ·exact(h.turn.2 x (by assumption)).2.2
 ·rw[Int.one_mul]
theorem Gr.tv_pos(h:Gr n L cx ms mn){x:Int}(cd:0≤x)(bj:x<(n:Int)):1≤tvJ (turnV L ms) ms x∧tvJ (turnV L ms) ms x≤L.getD x.toNat 0:=by
 have bp:=h.at cd bj;unfold tvJ
 split
 ·have:=h.turn.2 x (by assumption);omega
 ·omega
theorem w8:(fQ n L ms mn).length=(dm n ms mn).length:=by unfold fQ;simp
theorem Gr.due_pos(h:Gr n L cx ms mn):∀r∈fQ n L ms mn,1≤r:=λr bq=>by
 unfold fQ at bq;obtain⟨w,hw,rfl⟩:=qam.mp bq;have k6:=qaw.mp (qaC.mp hw).1
 split
 ·obtain⟨hW,_,jb⟩:=h.turn.2 mn h.mem;have bp:=h.at (h.rg mn h.mem).1 (h.rg mn h.mem).2
  by_cases z:(gcdM L ms:Int)≤0
  ·have:(gcdM L ms:Int)=0:=by omega
   rw[this] at jb;omega
  ·omega
 ·have:=h.at (x:=(w:Int)) (by omega) (by omega)
  rwa [qab] at this
theorem Zdu{b:B5}(h:b∈fc (turnV L ms) ms (placeN (cU n ms mn) ms mn) ls):∃cS∈ls,¬(cS.giver∈ms∧cS.taker∈ms)∧b=joB (turnV L ms) ms (placeN (cU n ms mn) ms mn) cS:=by
 obtain⟨cS,cd,rfl⟩:=qam.mp h;obtain⟨bj,bp⟩:=qaC.mp cd;refine⟨cS,bj,λz=>?_,rfl⟩;unfold inT at bp;simp[z.1,z.2] at bp
theorem Ef:(fc (turnV L ms) ms (placeN (cU n ms mn) ms mn) ls).length≤ls.length:=by
 unfold fc;rw[GE];exact qaK _ _
theorem Gr.join_bt(h:Gr n L cx ms mn)(cN:ZI ls n):ZI (fc (turnV L ms) ms (placeN (cU n ms mn) ms mn) ls) (dm n ms mn).length:=λb a_=>by
 obtain⟨cS,cd,_,rfl⟩:=Zdu a_;obtain⟨eb,eT,gP,gv⟩:=cN cS cd;have dZ:=h.place_lt eb eT;have e3:=h.place_lt gP gv;unfold joB;dsimp only;omega
theorem Gr.join_sized(h:Gr n L cx ms mn)(cN:ZI ls n)(db:∀r∈L,r≤6)(hs:∀b∈ls,1≤b.give∧1≤b.take∧b.give≤10 ^ 24∧b.take≤10 ^ 24):YS (fc (turnV L ms) ms (placeN (cU n ms mn) ms mn) ls):=λi hi=>by
 rw[el hi];obtain⟨cS,cd,_,ea⟩:=Zdu (GM hi);rw[ea];obtain⟨eb,eT,gP,gv⟩:=cN cS cd;obtain⟨bw,bU,bS,ca⟩:=hs cS cd;have eW:∀(x:Int)(y:Int),0≤x→x<(n:Int)→1≤y→y≤10 ^ 24→∃k:Nat,y*tvJ (turnV L ms) ms x=(k:Int)∧0<k∧k<2 ^ 110:=λx y cd bj j5 gh=>by
  obtain⟨hW,dh⟩:=h.tv_pos cd bj;have jb:L.getD x.toNat 0≤6:=by rw[el (by rw[h.len];omega)];exact db _ (GM _)
  have fu:=Int.mul_le_mul gh (show tvJ (turnV L ms) ms x≤6 by omega) (by omega) (by decide);have fA:=Int.mul_le_mul j5 hW (by decide) (by omega);exact⟨(y*tvJ (turnV L ms) ms x).toNat,by omega,by omega,by omega⟩
 obtain⟨k1,bG,dZ,cg⟩:=eW _ _ eb eT bw bS;obtain⟨k2,bK,e3,c7⟩:=eW _ _ gP gv bU ca;exact⟨k1,k2,dZ,e3,cg,c7,bG,bK⟩
theorem Gr.join_bal(h:Gr n L cx ms mn)(cN:ZI ls n)(a_:Zap ls L):Zap (fc (turnV L ms) ms (placeN (cU n ms mn) ms mn) ls) (fQ n L ms mn):=λb bA=>by
 obtain⟨cS,cd,_,rfl⟩:=Zdu bA;obtain⟨eb,eT,gP,gv⟩:=cN cS cd;show cS.give*tvJ (turnV L ms) ms cS.giver*(fQ n L ms mn).getD ((placeN (cU n ms mn) ms mn cS.giver:Nat):Int).toNat 0=cS.take*tvJ (turnV L ms) ms cS.taker*(fQ n L ms mn).getD ((placeN (cU n ms mn) ms mn cS.taker:Nat):Int).toNat 0;rw[qab,qab,Int.mul_assoc,Int.mul_assoc,h.tv_due eb eT,h.tv_due gP gv];exact a_ cS cd
theorem Gr.join_least(h:Gr n L cx ms mn)(cN:ZI ls n)(aj:Vz ls n L):Vz (fc (turnV L ms) ms (placeN (cU n ms mn) ms mn) ls) (dm n ms mn).length (fQ n L ms mn):=by
 intro f ys dG f1 bJ bu;have Eg:f.toNat<(cU n ms mn).length:=by rw[s7];omega
 have Nz:=GM Eg;obtain⟨⟨eU,fU⟩,kq⟩:=YV.mp Nz;have NA:placeN (cU n ms mn) ms mn (cU n ms mn)[f.toNat]=f.toNat:=by
  rw[qL];have e:(if(cU n ms mn)[f.toNat]∈ms then mn else(cU n ms mn)[f.toNat])=(cU n ms mn)[f.toNat]:=by
   split
   ·rcases kq with z|z
    ·exact z.symm
    ·exact absurd (by assumption) z
   ·rfl
  rw[e];exact Zk9 r9 Eg
 have d5:∀x:Int,x∈((List.range n).map λv:Nat=>(v:Int)).filter (λv=>decide (((placeN (cU n ms mn) ms mn v:Nat):Int)∈ys))↔(0≤x∧x<(n:Int))∧((placeN (cU n ms mn) ms mn x:Nat):Int)∈ys:=λx=>by
  rw[qaC,qam,decide_eq_true_eq]
  constructor
  ·rintro⟨⟨v,b_,rfl⟩,k⟩;have:=qaw.mp b_;exact⟨⟨by omega,by omega⟩,k⟩
  ·rintro⟨⟨a,b⟩,k⟩;exact⟨⟨x.toNat,qaw.mpr (by omega),by omega⟩,k⟩
 have bj:=aj _ _ eU fU ((d5 _).mpr ⟨⟨eU,fU⟩,by rw[NA,qaz dG];exact bJ⟩) λj bC=>by
  rw[el bC];obtain⟨eb,eT,gP,gv⟩:=cN _ (GM bC);rw[d5,d5]
  suffices k:((placeN (cU n ms mn) ms mn ls[j].giver:Nat):Int)∈ys↔((placeN (cU n ms mn) ms mn ls[j].taker:Nat):Int)∈ys from⟨λz=>⟨⟨gP,gv⟩,k.mp z.2⟩,λz=>⟨⟨eb,eT⟩,k.mpr z.2⟩⟩
  by_cases z:ls[j].giver∈ms∧ls[j].taker∈ms
  ·rw[qL,qL,if_pos z.1,if_pos z.2]
  ·have bA:joB (turnV L ms) ms (placeN (cU n ms mn) ms mn) ls[j]∈fc (turnV L ms) ms (placeN (cU n ms mn) ms mn) ls:=qam.mpr ⟨_,qaC.mpr ⟨GM bC,by rw[show inT ms ls[j]=false from Bool.eq_false_iff.mpr λy=>z (by simpa[inT] using y)];rfl⟩,rfl⟩;obtain⟨i,hi,gi⟩:=qao bA;have:=bu i hi;rw[el hi,gi] at this;exact this
 have bp:lR (fQ n L ms mn) ys ∣ lR L (((List.range n).map λv:Nat=>(v:Int)).filter (λv=>decide (((placeN (cU n ms mn) ms mn v:Nat):Int)∈ys))):=by
  have eW:∀(xs:List Int)(d c:Nat),d ∣ c→(∀w∈xs,d ∣ (L.getD w.toNat 0).toNat)→d ∣ xs.foldl (λc w=>Nat.gcd c (L.getD w.toNat 0).toNat) c:=by
   intro xs
   induction xs with
   |nil=>exact λd c h _=>h
   |cons y ys bQ=>exact λd c h k=>bQ d _ (Nat.dvd_gcd h (k y (by simp))) λw hw=>k w (by simp[hw])
  refine eW _ _ 0 (Nat.dvd_zero _) λw hw=>?_;obtain⟨⟨a,b⟩,k⟩:=(d5 w).mp hw;have bT:=(r_ (fQ n L ms mn) ys 0).2 _ k;rw[qab] at bT;refine qbL bT ?_;have cy:=h.tv_due a b;obtain⟨hW,_⟩:=h.tv_pos a b;obtain⟨u,sJ⟩:∃u:Nat,tvJ (turnV L ms) ms w=(u:Int):=⟨_,(qaz (by omega)).symm⟩;have dJ:1≤(fQ n L ms mn).getD (placeN (cU n ms mn) ms mn w) 0:=by
   rw[el (by rw[w8];exact h.place_lt a b)];exact h.due_pos _ (GM _)
  rw[←cy,sJ,Int.toNat_mul (by omega) (by omega)];exact Nat.dvd_mul_left _ _
 rw[bj] at bp;exact Nat.dvd_one.mp bp
theorem Gr.join_is(h:Gr n L cx ms mn)(cN:ZI ls n)(a_:Zap ls L)(aj:Vz ls n L)(hsz:YS (fc (turnV L ms) ms (placeN (cU n ms mn) ms mn) ls)){z:Int→Nat}{rs:List Int}(dk:Rts (fc (turnV L ms) ms (placeN (cU n ms mn) ms mn) ls) (dm n ms mn).length z rs):rs=fQ n L ms mn:=
 Zeh (h.join_bt cN) hsz w8 dk.len h.due_pos dk.pos (h.join_bal cN a_) dk.bal (h.join_least cN aj) dk.least
theorem Gr.names(h:Gr n L cx ms mn){b2:List Str}(bO:Wc b2)(e:b2.length=n):Wc ((dm n ms mn).map λw=>b2.getD w ""):=by
 have bj:=Dl bO (r9 (n:=n) (ms:=ms) (mn:=mn)) (by rw[s7];have:=Zag (n:=n) (ms:=ms) (mn:=mn);have:=bO.2.2;omega) λx bo=>by rw[e];exact(YV.mp bo).1
 unfold cU at bj;rw[qa3] at bj;exact bj
theorem Gr.full(h:Gr n L cx ms mn)(bF:∀b∈ls,b.take*L.getD b.taker.toNat 0≤b.start∧0≤b.give∧0≤b.take){ce:List Nat}{d0:Nat→Nat}(hL:Fire.Wb (lO (ev ls ms) (hn (ev ls ms)) (ms.map (turnV L ms))) (λ_=>0) ce d0)(kh:∀w,¬hm (ev ls ms) (hn (ev ls ms)) (ms.map (turnV L ms)) d0 w):(ce.length:Int)=(ms.map (turnV L ms)).sum:=by
 have g4:(hn (ev ls ms)).length=(ev ls ms).length:=by simp[hn]
 obtain⟨qu,iG,_⟩:=vj (r6 hL);have iv:∀r∈ms.map (turnV L ms),1≤r:=λr bq=>by obtain⟨x,bo,rfl⟩:=qam.mp bq;exact(h.turn.2 x bo).1
 have hall:∀v,v<(ms.map (turnV L ms)).length→d0 v=f3 (ms.map (turnV L ms)) v:=by
  intro v b_;refine Classical.byContradiction λeR=>kh v ⟨b_,by have:=qu v b_;omega,λb a_ b3=>?_⟩;obtain⟨j,bC,rfl⟩:=ZhQ g4 a_;obtain⟨cS,cd,bj,bp,ea⟩:=ZjO (GM bC);have NB:(hn (ev ls ms))[j]=cS.start:=by
   have:(hn (ev ls ms))[j]=((ev ls ms)[j]).start:=by simp[hn]
   rw[this,ea];rfl
  rw[NB];rw[ea] at b3⊢;have c3:idxL ms cS.taker=v:=by
   have:((idxL ms cS.taker:Nat):Int).toNat=v:=b3;omega
  obtain⟨a1,a2,a3⟩:=bF cS cd;show cS.take≤cS.start+cS.give*(d0 ((idxL ms cS.giver:Nat):Int).toNat:Int)-cS.take*(d0 ((idxL ms cS.taker:Nat):Int).toNat:Int);rw[qab,qab,c3];have cJ:(d0 v:Int)+1≤L.getD cS.taker.toNat 0:=by
   have dJ:d0 v<f3 (ms.map (turnV L ms)) v:=by have:=qu v b_;omega
   have db:=ZjD iv b_;rw[←c3,Ny bp,c3] at db;have:=(h.turn.2 _ bp).2.1;omega
  have:=qby cJ a3;rw[Int.mul_add,Int.mul_one] at this;have:=Int.mul_nonneg a2 (qaS (d0 (idxL ms cS.giver)));omega
 have iQ:ce.length=tot (ms.map (turnV L ms)):=by
  rw[iG];unfold tot;exact Nat.le_antisymm (r5 λv b_=>by rw[hall v b_];exact qaa _) (r5 λv b_=>by rw[hall v b_];exact qaa _)
 rw[iQ];exact Zh3 λr bq=>by have:=iv r bq;omega
end
theorem Eh{xs:List V}{v:V}(h:xs[0]? =some v):atI xs 0=some v:=gY h
theorem Zf9{xs:List V}{v:V}:hB (xs++ [v]) none (some (-1))=xs:=by
 have bK:∀d,HT.sIx (xs++ [v]).length d (some (-1))=xs.length:=λd=>by
  simp only[HT.sIx];rw[if_pos (by omega)];simp;omega
 unfold hB;rw[bK];show(_:List V)=xs;simp[HT.sIx]
theorem Ze3{xs:List Str}{i:Nat}(h:i<xs.length):(xs.map V.str).getD i .non= .str (xs.getD i ""):=by simp[List.getD,h]
structure ZbC{K:Frag}{mg:Str→Option Value}(T:Tp K mg)(H0 H:Hp)(j:Addr)(jm:JM)(ad:List Addr)(bD:Addr)(aj:HM)(fp:List Addr)(f:Addr)(xs:List V):Prop where
 jt:YC T H j jm ad
 hall:c2 T H bD aj fp
 nd:∀x∈ad,x∉fp
 base:Ze H0 H
 new:∀x∈fp,H0 x=none
 lst:H f=some (.lst xs)
 nf:f∉fp
section
variable {K:Frag}{mg:Str→Option Value}{T:Tp K mg}{H0 H ae:Hp}{j bD f:Addr}{jm:JM}{ad fp dR:List Addr}{aj e':HM}{xs:List V}
theorem ZbC.same(o:ZbC T H0 H j jm ad bD aj fp f xs)(s:Ze H ae):ZbC T H0 ae j jm ad bD aj fp f xs:=⟨o.jt.same s,o.hall.same s,o.nd,o.base.trans s,o.new,s _ _ o.lst,o.nf⟩
theorem ZbC.step(o:ZbC T H0 H j jm ad bD aj fp f xs)(h:c2 T ae bD e' dR)(ej:c_ fp H ae)(gr:Vb fp dR H):ZbC T H0 ae j jm ad bD e' dR f xs:=
 have n:=VN o.base o.new ej gr
 ⟨o.jt.off ej o.nd,h,λx bo z=>(gr x z).elim (o.nd x bo) (o.jt.dom x bo),n.1,n.2,ej.keep _ _ o.lst o.nf,λz=>(gr f z).elim o.nf λy=>by have:=o.lst;rw[y] at this;cases this⟩
end
section
variable {P:Program}{w:World}{K:Frag}{mg:Str→Option Value}{base:Heap}
theorem Zmw(T:Tp K mg):OkN P w base 12 T.aL (Jg T):=by
 have sk:YT P w K mg base (CXX P w) 11 T.p T.q ["self","giver","taker","give","take","start"] (qc T):=(BL T).mono (by decide);have eZ:=T.a;have e0:=T.e;have qx:=T.h;have qy:=T.l;refine T.aL.F.okX gg (λvs H Q E h=>?_) (λcz A outer s H vs Q E bq h=>?_)
 ·obtain⟨a,ns,rfl,_⟩:=h
  rfl
 ·have hu:=bq.hu;obtain⟨p,ns,rfl,di,eg,k⟩:=h;refine⟨_,(bN (cB (i:=1) gg.nd rfl (Or.inl rfl) (c5 T.x0 (p_ T) bq cp (br (pv 0) (br b0 bB))))
     (bN (cB (i:=2) gg.nd rfl (Or.inl rfl) (cD (gn K) b0 (cD fV (pv 1) b0)))
     (bN (uv (j:=3) (xs:=["_law_k"]) rfl (fq (x:="_law_k") (zs:=["_law_script"]) (ix:=[0]) (cu rN) ["_law_script","_law_first","_law_many","_law_rates","_law_top","_law_names_here","_law_belts","_law_k","_law_group","_law_hall","_law_handed","_law_joint","_law_inner","_law_late","_law_called","_law_tied","_law_due","_law_place","_law_made_here","_law_found"] rfl rfl (by decide+kernel)) (iD rfl T.i (br (pv 2) bB)) (λck C s H fp=>⟨(cG (i:=0) (show(["_law_k","_law_script"]:List Str).Nodup by decide+kernel) rfl (Or.inl rfl)),gF,(cD (gn K) b0 (cD fV (c5 T.x0 (p_ T) bq Ud (br (pv 1) (br (cD (gn K) b0 (pv 0)) bB))) b0))⟩) gg.nd rfl (Or.inl rfl))
     (bN (cB (i:=4) gg.nd rfl (Or.inl rfl) (cw (ixk K) (fW (br b0 (br b0 (br b0 (br (cD FQ b0 b0) bB))))) (cD fV (cD fX (pv 1) b0) b0) (λ_ _=>rfl)))
     (bN (cB (i:=5) gg.nd rfl (Or.inr rfl) (c5 T.x1 (JR T) bq cp (br (c5 T.x0 (p_ T) bq cp (br (pv 0) (br b0 bB))) (br (pv 2) bB))))
     (bN (cB (i:=6) gg.nd rfl (Or.inl rfl) (fW bB))
     (bN (eB PassesOwn.leaving rfl (iD rfl T.i (br (cD fV (cD fX (pv 1) b0) b0) bB)) (cG (i:=7) gg.nd rfl (Or.inl rfl)) (b4 (eo (fr (K:=K) rfl qah qas qat hg (pv 6) (br (c5 T.aZ (LO T) bq cp (br (c5 T.x0 (p_ T) bq cp (br (pv 0) (br (cD (gn K) b0 (pv 7)) bB))) (br (pv 3) (br (pv 4) (br Wa bB))))) bB)))))
     (bN (cB (i:=3) gg.nd rfl (Or.inl rfl) (c5 T.x3 (JX T) bq cp (br (pv 3) (br (pv 6) bB))))
     (bN (cB (i:=8) gg.nd rfl (Or.inl rfl) (c5 T.x4 (J0 T) bq cp (br (c5 T.x0 (p_ T) bq cp (br (pv 0) (br b0 bB))) (br (pv 2) bB))))
     (bN (cB (i:=9) gg.nd rfl (Or.inl rfl) (c5 T.aN (Kd T) bq cp (br (pv 5) (br (pv 6) bB))))
     (bN (cB (i:=10) gg.nd rfl (Or.inl rfl) (kE (mL (K:=K) rfl) (by rfl) T.j qaM (br (pv 8) bB)))
     (bN (cB (i:=11) gg.nd rfl (Or.inl rfl) (y9 T.bg (Na T) bq T.ao cp (br (pv 9) (br (pv 10) bB))))
     (bN (eo (fr (K:=K) rfl qah qas qat hg (pv 10) (br b0 bB)))
     (bN (cB (i:=12) gg.nd rfl (Or.inl rfl) (fH (pv 11) T.h T.aG (C4 T) bq cp))
     (bN (eo (fr (K:=K) rfl qah qas qat hg (pv 12) (br (pv 2) bB)))
     (bN (mB (dS (dg (ik (K:=K) rfl hu) (pv 6) (fW bB) (dM _)) (b4 (eo (fG (pv 9) T.a T.a0 (LS T) bq cp (br b0 (br (cD (gn K) (cw (ixk K) (cw (ixk K) (pv 6) b0 (λ_ _=>rfl)) b0 (λ_ _=>rfl)) b0) bB))))) dX))
     (bN (eo (qY (pv 9) T.a T.r sk bq T.B .nil cp (br b0 (br b0 (br b0 (br b0 (br b0 bB)))))))
     (bN (cB (i:=13) gg.nd rfl (Or.inl rfl) (cw (ixk K) (jZ rfl (fq (x:="_law_name") (zs:=["_law_names_here"]) (ix:=[5]) (cu rN) ["_law_script","_law_first","_law_many","_law_rates","_law_top","_law_names_here","_law_belts","_law_k","_law_group","_law_hall","_law_handed","_law_joint","_law_inner","_law_late","_law_called","_law_tied","_law_due","_law_place","_law_made_here","_law_found"] rfl rfl (by decide+kernel)) (ey (K:=K) rfl (fW (br YF (br YF bB)))) (λck C s H fp=>⟨(cG (i:=0) (show(["_law_name","_law_names_here"]:List Str).Nodup by decide+kernel) rfl (Or.inl rfl)),(nR (dg (rp (K:=K) rfl) (pv 0) (pv 1) (by with_unfolding_all rfl))),(pv 0)⟩)) b0 (λ_ _=>rfl)))
     (bN (eo (fG (pv 9) T.a T.x6 (si T) bq cp (br (pv 13) bB)))
     (bN (h8 (c5 T.aO (Ki T) bq cp (br (pv 5) (br (pv 6) (br (pv 3) (br (pv 8) bB))))) (hY (K:=K) (n:=4) rfl rfl (d8 (cG (i:=14) gg.nd rfl (Or.inl rfl)) (d8 (cG (i:=15) gg.nd rfl (Or.inl rfl)) (d8 (cG (i:=16) gg.nd rfl (Or.inl rfl)) (d8 (cG (i:=17) gg.nd rfl (Or.inl rfl)) hN))))))
     (bN (cB (i:=18) gg.nd rfl (Or.inl rfl) (fH (pv 11) T.h T.av (wv T) bq cp))
     (bN (dS (hv (gJ (K:=K) rfl (c5 T.aF (CP T) bq cp (br (pv 18) (br (pv 14) (br (pv 15) bB)))) (λ_=>rfl))) (b4 (c0 Wa)) dX)
     (bN (eo (qY (pv 18) T.a T.r sk bq T.H T.I cp (br (pv 17) (br (pv 17) (br b0 (br b0 bB))))))
     (bN (eo (fG (pv 18) T.a T.x6 (si T) bq cp (br (pv 13) bB)))
     (bN (dS (PW.pt (hb (dg (ik (K:=K) rfl hu) (fH (pv 9) T.a T.R (nc T) bq cp) (cD (gn K) (pv 5) (fW (br (pv 13) bB))) (dM _)) (h7 (dg (ik (K:=K) rfl hu) (fH (pv 18) T.a T.R (nc T) bq cp) (cD (gn K) (pv 14) (fW (br (pv 13) bB))) (dM _))))) (b4 (c0 Wa)) dX)
     (bN (dS (PW.pt (hb (dg (ik (K:=K) rfl hu) (fH (pv 11) T.h T.aG (C4 T) bq cp) (q5 (rn (K:=K) rfl) (pv 12) q3 (q4 (yl yn b0))) (dM _)) (h7 (dg (ik (K:=K) rfl hu) (fG (pv 11) T.h T.a1 (LX T) bq cp (br (fW (br (pv 17) (br (pv 17) bB))) bB)) (cD gd (q5 (rn (K:=K) rfl) (pv 12) q3 (q4 (yl yn b0))) b0) (dM _))))) (b4 (c0 Wa)) dX)
     (bN (cB (i:=19) gg.nd rfl (Or.inl rfl) (c5 T.aE (CK T) bq cp (br (fH (pv 11) T.h T.av (wv T) bq cp) bB)))
     (bN (dS (PW.pt (hb (hv (gJ (K:=K) rfl (dI (kP (K:=K) rfl) (by rfl) T.g qaJ (br (pv 19) (br (kr (v:= .ty "tuple") (by rfl) T.X PyProof.Rows.boot_tuple rfl) bB))) (λ_=>rfl))) (hb (dg (ik (K:=K) rfl hu) (dI (fa K) (by rfl) T.f qap (br (pv 19) bB)) b0 (dM _)) (h7 (dg FT (cw (ixk K) (pv 19) b0 (λ_ _=>rfl)) ZaT (dM _)))))) (b4 (c0 Wa)) dX)
     (bN (dS (PW.pt (hb (hv (gJ (K:=K) rfl (c5 T.au (ws T) bq cp (br (fW (br (fH (pv 11) T.h T.aI (Dg T) bq cp) bB)) bB)) (λ_=>rfl))) (h7 (dg (ik (K:=K) rfl hu) (fH (pv 11) T.h T.aI (Dg T) bq cp) (pv 17) (dM _))))) (b4 (c0 Wa)) dX)
     (b4 (c0 (nB (c5 T.au (ws T) bq cp (br (cw (ixk K) (pv 19) b0 (λ_ _=>rfl)) bB)) (nB (nH (ij (K:=K) rfl hu) (cw (ixk K) (pv 19) b0 (λ_ _=>rfl)) (pv 16) (dM _)) (oW (c5 T.aF (CP T) bq cp (br (fH (pv 11) T.h T.av (wv T) bq cp) (br (pv 14) (br (pv 15) bB)))))))))))))))))))))))))))))))))))))),?_⟩
  try dsimp only[L2.cxX,L2.ZN,L2.Zl]
  walk_at "rds";have dG:1≤1+cellX ns 0 % 7∧1+cellX ns 0 % 7≤7:=by omega
  generalize cellX ns 0=kj at*;obtain⟨m,bA⟩:∃m:Nat,1+kj % 7=(m:Int):=⟨(1+kj % 7).toNat,by omega⟩;rw[bA] at dG⊢;refine YO (own:=1) WW.y (dj (by omega)) (λj=>[some (.int (0+(j:Int)))]) (λ_=>rfl) (λ_=>true) (λj v _=>v= .int (1+cellX ns (3+(0+(j:Int))) % 6)) (λ_ _ _ _ _ z=>z) (λj dA ae v b9 hD hi bV y ga k=>?_) (λj ae c4 hi bV k=>?_) (λkg j ae c4 hi i6 hp0 iv bV k=>?_) (λjh bn zs vC bw w9 dk=>?_)
  ·obtain⟨rfl,rfl⟩:=y;obtain⟨x1,rfl⟩:∃x1,dA=[x1]:=by
    match dA,ga with
    | [x1],_=>exact⟨x1,rfl⟩
   walk_at "rds";exact k _ (Ze.refl _)
  ·walk_at "rds";exact k ae (Ze.refl ae)
  ·have mT:=bV.seq di;have bC:j<m:=by omega
   walk_at "rds";exact k _ ae (Ze.refl ae) rfl
  rw[qaA.mpr (by simp),show((m:Nat):Int).toNat=m from rfl] at dk;have eQ:=Ee dk;have m8:∀r∈(List.range m).map (λj:Nat=>1+cellX ns (3+(0+(j:Int))) % 6),1≤r∧r≤6:=λr bq=>by
   obtain⟨j,_,rfl⟩:=qam.mp bq;omega
  have eY:((List.range m).map (λj:Nat=>1+cellX ns (3+(0+(j:Int))) % 6)).length=m:=by simp
  generalize (List.range m).map (λj:Nat=>1+cellX ns (3+(0+(j:Int))) % 6)=rs at*;subst eQ;have w_:=SqL.of (K:=K) w9;have n1:=bw.seq di;walk_at "rds";refine⟨by show 4≤sizeLine;decide,λfF se=>?_⟩;have NC:(10:Int) ^ Int.toNat 20=((10 ^ 20:Nat):Int):=rfl;rw[NC];have b8:Ze bn (upd bn fF (.lst [V.int 2,V.int 2,V.int 2,V.int ((10 ^ 20:Nat):Int)])):=cK se;have vc:(upd bn fF (.lst [V.int 2,V.int 2,V.int 2,V.int ((10 ^ 20:Nat):Int)])) fF=some (.lst [V.int 2,V.int 2,V.int 2,V.int ((10 ^ 20:Nat):Int)]):=Zd;generalize upd bn fF (.lst [V.int 2,V.int 2,V.int 2,V.int ((10 ^ 20:Nat):Int)])=Hc at*;obtain⟨gT,RY,CZ,C0⟩:∃gT:Nat,atI [V.int 2,V.int 2,V.int 2,V.int ((10 ^ 20:Nat):Int)] (kj / 7 % 4)=some (.int (gT:Int))∧0<gT∧gT≤10 ^ 20:=by
   rcases(by omega:kj / 7 % 4=0∨kj / 7 % 4=1∨kj / 7 % 4=2∨kj / 7 % 4=3) with z|z|z|z<;>rw[z]
   ·exact⟨2,rfl,by decide,by decide⟩
   ·exact⟨2,rfl,by decide,by decide⟩
   ·exact⟨2,rfl,by decide,by decide⟩
   ·exact⟨10 ^ 20,rfl,by decide,by decide⟩
  have ND:=SqL.of (K:=K) vc;replace bw:=bw.trans b8;have Ei:=b8 _ _ w9;replace w_:=SqL.of (K:=K) Ei;have n1:=bw.seq di;clear w9 b8 vc;walk_at "rds";refine⟨_,m,rfl,by omega,λez bv b2 iV bU Ej w' eE gs NE=>?_⟩;have fy:=bw.trans bU;have mY:=fy.seq di;have xa:=bU.seq w_;walk_at "rds";refine⟨qau _,λb a_=>?_⟩;have bS:Ze bv (upd bv b (.lst [])):=cK a_;have hI:(upd bv b (.lst [])) b=some (.lst []):=Zd;generalize upd bv b (.lst [])=b9 at*;walk_at "rds";refine Vy (n:=(kj / 28 % 11).toNat) (λi af ae=>∃(bs:List V)(ls:List B5)(a7:Option V),af=[some (.ref p),some (.int kj),some (.int m),some (.ref jh),some (.int gT),some (.ref ez),some (.ref b),a7,none,none,none,none,none,none,none,none,none,none,none,none]∧Ze bv ae∧ae b=some (.lst bs)∧ek ae bs ls∧ls.length=i∧(∀l∈ls,Bel m l)∧Zap ls rs∧∀l∈ls,l.take*rs.getD l.taker.toNat 0≤l.start) ⟨[],[],_,rfl,bS,hI,.nil,rfl,by simp,λb a_=>(by cases a_),by simp⟩ ?_ ?_
  ·rintro i af b7 hi ⟨bs,ls,a7,rfl,ca,l8,em,iL,md,s8,s9⟩;have zM:=ca.seq mY;have s_:=ca.seq xa;have g6:=em.length;have kf:bs.length<sizeLine:=dj (by omega);walk_at "rds";refine⟨_,jh,rs,gT,rfl,s_,by omega,by omega,m8,CZ,C0,λu b1 bb hu cC wT hBb hWb NF=>?_⟩;have NG:=cC _ _ l8;walk_at "rds";have hQ:c_ [b] b1 (upd b1 b (.lst (bs++ [.ref u]))):=gl (by simp) NG (by intro _ z;cases z);refine⟨bs++ [.ref u],ls++ [bb],_,rfl,(ca.trans cC).new a_,Zd,((em.keep λb xs e=>cC _ _ e).keep hQ.tups).snoc (hQ.tups _ _ wT),by simp[iL],λl aj=>?_,λl aj=>?_,λl aj=>?_⟩
   ·rcases qaH.mp aj with z|z
    ·exact md l z
    ·rw[qac.mp z,←eY];exact hBb
   ·rcases qaH.mp aj with z|z
    ·exact s8 l z
    ·rw[qac.mp z];exact hWb
   ·rcases qaH.mp aj with z|z
    ·exact s9 l z
    ·rw[qac.mp z];exact NF
  rintro af b7 ⟨bs,ls,a7,rfl,ca,l8,em,iL,md,s8,s9⟩;have qA:ls.length≤10:=by omega
  have f5:=fy.trans ca;have s_:=ca.seq xa;have cN:ZI ls rs.length:=λl aj=>by rw[eY];exact(md l aj).rg
  have hsz:=Zjy md;have jV:=Zll cN (λr bq=>(m8 r bq).1) s8;have m9:=jV.len;walk_at "rds";refine⟨jh,b,bs,ls,rs,rfl,s_,l8,em,cN,by omega,λr bq=>(by have:=m8 r bq;omega),λfT b1 Bu cC Ek=>?_⟩;have xb:∀r∈leastL ls rs,r≤6:=λr bq=>by
   obtain⟨i,hi,rfl⟩:=qao bq;have bj:=jV.le i (by omega);rw[el hi,el (by omega)] at bj;have:=(m8 _ (GM (show i<rs.length by omega))).2;omega
  have El:∀l∈ls,l.take*(leastL ls rs).getD l.taker.toNat 0≤l.start∧0≤l.give∧0≤l.take:=λl aj=>by
   have bj:=s9 l aj;obtain⟨cH,cI⟩:=(md l aj).sz;obtain⟨eb,eT,gP,gv⟩:=cN l aj;have bp:=jV.le l.taker.toNat (by omega);have:=qby bp (show 0≤l.take by omega);exact⟨by omega,by omega,by omega⟩
  have RZ:(leastL ls rs).sum≤400:=by
   have:=Zmv xb;omega
  have xc:=jV.pos;have NH:=ZbB (m9.symm▸cN) hsz xc jV.bal;have Em:=jV.bal;have En:=jV.least;have Eo:∀{z:Int→Nat}{rs':List Int},Rts ls rs.length z rs'→rs'=leastL ls rs:=λ{z rs'} dk=>Zla jV cN hsz dk;generalize leastL ls rs=L at*;clear jV;have mb:=f5.trans cC;have NI:=mb.seq di;walk_at "rds";refine⟨_,m,rfl,by omega,by omega,λEp cR cx hga ef Er hok hE=>?_⟩;have Es:Wc b2:=⟨eE,w',by omega⟩;have j':Ze b7 cR:=cC.trans ef;have xf:=j' _ _ l8;have qj:=em.keep λb xs e=>j' _ _ e;have ka:=j' _ _ (ca _ _ Ej);have NJ:=ef _ _ Ek;rw[eY] at cN Eo En;rw[eY] at m9;clear bw bU bS ca cC fy f5 mb NI mY n1 s_ xa w_ Ek s8 Ei dk m8 di j' l8 em Ej s9 ef ND;walk_at "rds";refine⟨ez,b,b2,bs,ls,rfl,.of ka,w',eE,by omega,by omega,xf,qj,by rw[gs];exact md,by omega,λbD fp eJ li NK eV=>?_⟩;have NL:=eV _ _ Er;walk_at "rds";refine Rd.UO (.of NL) (λgS xg=>?_);have gH:Ze eJ (upd eJ gS (.lst (cx.map V.int))):=cK xg;have s':(upd eJ gS (.lst (cx.map V.int))) gS=some (.lst (cx.map V.int)):=Zd;generalize upd eJ gS (.lst (cx.map V.int))=gI at*;have ll:=li.same gH;have Et:=eV.trans gH;walk_at "rds";refine ZfA (z:=ki L) ll s' (by rw[gs];exact hok) (by omega) Es (by dsimp only;omega) (by rw[gs];exact cN) hsz NH (λrs' dk=>?_);dsimp only at dk⊢;rw[gs] at dk;obtain rfl:=Eo dk;refine⟨λc=>absurd c (by omega),λ_ ms fK oq ce d0 hL kh=>?_⟩;have xh:∀mn∈ms,Gr m rs' cx ms mn:=λmn hH=>⟨hok,fK,hH,m9,xc⟩;refine⟨λc=>(by
   have eR:ms≠[]:=λe=>by rw[e] at fK;exact hok.1 fK.symm.eq_nil
   obtain⟨x,bo⟩:=List.exists_mem_of_ne_nil _ eR;have:=(xh x bo).full El hL kh;omega),λ_ j fY ad mn hH lY bC gc Eu=>?_⟩
  have gN:=xh mn hH;have NM:=gN.full El hL kh;have vX:=gN.turn.1;clear xh;obtain⟨jm,jM⟩:∃jm,r8 ⟨b2,ls⟩ rs' ms mn ce=jm:=⟨_,rfl⟩;have ta:jm.called=(dm m ms mn).map λw=>b2.getD w "" :=by rw[←jM,←gs];rfl
  have nu:jm.rows=fc (turnV rs' ms) ms (placeN (cU m ms mn) ms mn) ls:=by rw[←jM,←gs];rfl
  have Ev:jm.joined=idxL (cU m ms mn) mn:=by rw[←jM,←gs];rfl
  have Ew:jm.kept=dm m ms mn:=by rw[←jM,←gs];rfl
  have cs:jm.inner.length≤400:=by
   rw[←jM];show(ce.map λw=>ms.getD w 0).length≤400;rw[GE];omega
  rw[jM] at bC;clear jM hL kh NM vX;have Ey:=gc _ _ s';have lm:=ll.same gc;have NN:cR gS=none:=eX eV xg;have Ez:∀x∈ad,x≠gS:=λx bo z=>by have:=Eu x bo;rw[z,s'] at this;cases this
  have EA:gS∉fp:=λz=>li.dom gS z xg;have NO:∀x∈ad,x∉fp:=λx bo z=>ll.dom x z (Eu x bo);have oo:(cx.map V.int).length<sizeLine:=dj (by rw[GE];omega);walk_at "rds";have xi:c_ [gS] fY (upd fY gS (.lst (cx.map V.int++ [.int 0]))):=gl (by simp) Ey (by intro _ z;cases z);have jY:Ze cR (upd fY gS (.lst (cx.map V.int++ [.int 0]))):=(Et.trans gc).new NN;have xj:=bC.off xi (λx bo z=>Ez x bo (qac.mp z));have oL:=lm.off xi (λx bo z=>EA (qac.mp z▸bo));generalize upd fY gS (.lst (cx.map V.int++ [.int 0]))=ii at*;clear xi bC lm ll li Ey s' gc Et gH Ez EA;walk_at "rds";refine⟨j,jm,ad,rfl,xj,λf1 jj=>?_⟩;have ji:Ze ii (upd ii f1 (.lst (jm.inner.map V.int))):=cK jj;have NP:(upd ii f1 (.lst (jm.inner.map V.int))) f1=some (.lst (jm.inner.map V.int)):=Zd;generalize upd ii f1 (.lst (jm.inner.map V.int))=H12 at*;have R0:(jm.inner.map V.int).length<sizeLine:=dj (by rw[GE];omega);walk_at "rds";have ke:Ze ii (upd H12 f1 (.lst (jm.inner.map V.int++ [.int m]))):=ji.new jj;have EB:ZbC T cR (upd H12 f1 (.lst (jm.inner.map V.int++ [.int m]))) j jm ad bD ⟨b2,ls⟩ fp f1 (jm.inner.map V.int++ [.int m]):=⟨xj.same ke,oL.same ke,NO,jY.trans ke,NK,Zd,λz=>oL.dom f1 z jj⟩;generalize upd H12 f1 (.lst (jm.inner.map V.int++ [.int m]))=H13 at*;clear ji ke NP xj oL jY jj;refine Rd.cut (λbW ae=>∃(dR:List Addr)(bl:List B5),bW=[some (.ref p),some (.int kj),some (.int m),some (.ref fT),some (.int gT),some (.ref ez),some (.ref b),a7,some (.ref Ep),some (.ref bD),some (.ref gS),some (.ref j),some (.ref f1),none,none,none,none,none,none,none]∧ZbC T cR ae j jm ad bD ⟨b2,bl⟩ dR f1 (jm.inner.map V.int++ [.int m])∧bl.length=ls.length) ?k1 ?dx
  case dx=>
   have NQ:=EB.base _ _ xf;have NR:=SqL.of (K:=K) NQ;walk_at "rds";refine⟨qau _,λe bL=>?_⟩;have EC:Ze H13 (upd H13 e (.lst [])):=cK bL;have NS:(upd H13 e (.lst [])) e=some (.lst []):=Zd;generalize upd H13 e (.lst [])=H14 at*;have me:=EB.same EC;have s5:=qj.keep λb xs e=>me.base _ _ e;have NT:=EC.seq NR;refine Rd.Zgq (.lst NT (AS s5)) (.lst (.of NS) .nil) (Jk ls) (by decide) (Jl ls) ?_
   by_cases xk:ls=[]
   ·rw[show PyData.eqv (.list (ls.map B5.d)) (.list [])=true by rw[xk];rfl];walk_at "rds";exact⟨fp,ls,rfl,me,rfl⟩
   ·obtain⟨cS,lt,ea⟩:=List.exists_cons_of_ne_nil xk;rw[show PyData.eqv (.list (ls.map B5.d)) (.list [])=false by rw[ea];rfl];have cd:0<ls.length:=List.length_pos_iff.mpr xk;obtain⟨fL,dO,b3⟩:=s5.at (GT cd);have R1:atI bs 0=some (.ref fL):=gY dO;have R3:=(md _ (GM cd)).st;generalize ls[0]=eb at*;dsimp only[B5.v] at b3;have tb:=me.hall;walk_at "rds";refine⟨bD,0,_,⟨b2,ls⟩,fp,rfl,tb,λz=>absurd ⟨by omega,by dsimp only;omega⟩ z,λ_ z=>absurd (show 0≤eb.start+1 by omega) z,λ_ _ eT qM ED _ tc fr15 td=>?_⟩;walk_at "rds";exact⟨ED,_,rfl,me.step tc fr15 td,by simp⟩
  case k1=>
  rintro bW H14 ⟨R4,bl,rfl,me,R5⟩;have tb:=me.hall;walk_at "rds";refine U6 tb (by omega) (by dsimp only;omega) (by omega) (by dsimp only;omega) (by omega) (by omega) (by omega) (by dsimp only;omega) (λqM ED tc fr15 td=>?_);have EE:=me.step tc fr15 td;clear fr15 td tb tc;walk_at "rds";refine⟨by show 2≤sizeLine;decide,λe4 nJ=>?_⟩;have EF:Ze qM (upd qM e4 (.lst [V.str "late",V.str "later"])):=cK nJ;have EG:(upd qM e4 (.lst [V.str "late",V.str "later"])) e4=some (.lst (([("late" :Str),("later" :Str)]).map V.str)):=Zd;generalize upd qM e4 (.lst [V.str "late",V.str "later"])=H16 at*;have xl:=EE.same EF;have EH:=SqL.of (K:=K) EG;have EI:=SqL.of (K:=K) (xl.base _ _ ka);walk_at "rds";refine Yo (ew EH) (dj (by simp)) (λi=>!decide (([("late" :Str),("later" :Str)]).getD i "" ∈b2)) (λi=> .str (([("late" :Str),("later" :Str)]).getD i "")) (λi ae c4 hi bV k=>?_) (λi ae c4 hi _ bV k=>?_) (λR6 H17 hla s17 xm=>?_)
  ·have cs:i<([("late" :Str),("later" :Str)]).length:=by simpa using hi
   rw[Ze3 cs];have qT:=bV.seq EI;walk_at "rds";exact k ae (Ze.refl ae)
  ·have cs:i<([("late" :Str),("later" :Str)]).length:=by simpa using hi
   rw[Ze3 cs];walk_at "rds";exact k ae (Ze.refl ae)
  have EJ:List.range (([("late" :Str),("later" :Str)]).map V.str).length=[0,1]:=rfl;rw[EJ] at xm;obtain⟨fz,R7,xn,EK⟩:∃fz:Str,atI ((([0,1]:List Nat).filter λi=>!decide (([("late" :Str),("later" :Str)]).getD i "" ∈b2)).map λi=>V.str (([("late" :Str),("later" :Str)]).getD i "")) 0=some (.str fz)∧f0 fz=true∧fz∉b2:=by
   have dL:([("late" :Str),("later" :Str)]).getD 0 "" ="late" :=rfl;have g1:([("late" :Str),("later" :Str)]).getD 1 "" ="later" :=rfl;rw[List.filter_cons,List.filter_cons,dL,g1]
   by_cases z:("late" :Str)∈b2
   ·have cI:("later" :Str)∉b2:=λy=>by
     obtain⟨gu,EL⟩:=NE;have:=(EL _ z).trans (EL _ y).symm
     revert this
     decide+kernel
    rw[decide_eq_true z,decide_eq_false cI];exact⟨"later",Eh rfl,by decide+kernel,cI⟩
   ·rw[decide_eq_false z];exact⟨"late",Eh rfl,by decide+kernel,z⟩
  have NU:=SqL.of (K:=K) xm;have xo:=xl.same s17;have EM:=xo.hall;clear me EE xl EG EH EI EF s17 EJ;walk_at "rds";refine VH EM xn EK (by dsimp only;omega) (λR8 fp18 hh18 fr18 EN=>?_);have nv:=xo.step hh18 fr18 EN;clear fr18 EN EM hh18 xo xm NU;have EO:=nv.base _ _ xf;have EQ:=qj.keep λb xs e=>nv.base _ _ e;walk_at "rds";refine⟨ez,b,fT,Ep,b2,bs,ls,rs',cx,rfl,.of (nv.base _ _ ka),.of EO,EQ,.of (nv.base _ _ NJ),by omega,λr bq=>⟨xc r bq,by have:=xb r bq;omega⟩,.of (nv.base _ _ Er),by rw[gs];exact hok,by omega,by omega,by omega,by rw[gs];exact cN,λR9 mn2 hpm2 hsr2 hmn2 hmin2 t jD bX iw eL H19 s19 ht19 qN ER hTa19 ES=>?_⟩;obtain rfl:=ZjL oq hsr2 (fK.trans hpm2.symm);obtain rfl:mn=mn2:=by have:=lY mn2 hmn2;have:=hmin2 mn hH;omega
  rw[gs] at ht19 qN hTa19 ES;rw[←ta] at qN;rw[←nu] at hTa19;rw[←Ev] at ht19;have qO:=nv.same s19;clear nv EO EQ;refine Rd.Vu (.of ht19) rfl ?_;have ET:=qO.jt;have oQ:Wc jm.called:=by rw[ta];exact gN.names Es gs
  have eu:jm.called.length=(dm m ms mn).length:=by rw[ta,GE]
  have gL:=Zag (n:=m) (ms:=ms) (mn:=mn);have lT:jm.rows.length≤60:=by rw[nu];exact qal Ef (by omega)
  have fh:jm.joined<jm.called.length:=by rw[eu,Ev,←s7];exact VT (YV.mpr ⟨gN.rg mn hH,.inl rfl⟩)
  have NV:fz∉jm.called:=λz=>by
   rw[ta] at z;obtain⟨w,hw,e⟩:=qam.mp z;have k6:=qaw.mp (qaC.mp hw).1;rw[el (by omega)] at e;exact EK (e▸GM _)
  walk_at "rds";refine⟨j,jm,ad,rfl,ET,oQ,lT,λEU fm H20 xp hfm qP=>?_⟩;walk_at "rds";refine⟨EU,jD,bX,⟨jm.called,jm.rows⟩,fm,eL,rfl,xp,oQ.2.1,.of (qP _ _ qN),.of (qP _ _ ER),hTa19.keep (λb xs e=>qP _ _ e),lT,λR_ xq=>?_⟩;have EV:=xp.same xq;have EW:=qP.trans xq;walk_at "rds";refine U6 EV (by omega) (by dsimp only;omega) (by omega) (by dsimp only;omega) (by omega) (by omega) (by omega) (by dsimp only;rw[nu];exact qaL Ef (by omega)) (λR' fm22 hm22 fr22 EX=>?_);obtain⟨EY,EZ⟩:=VN EW hfm fr22 EX;walk_at "rds";refine VH hm22 xn NV (by dsimp only;omega) (λSa fm23 hm23 fr23 E1=>?_);obtain⟨xr,NW⟩:=VN EY EZ fr23 E1;clear fr22 EX fr23 E1 hm22 EV xp EW EY qP xq EZ;have xt:=qO.same xr;have E2:=xt.hall;walk_at "rds";refine⟨bD,_,_,rfl,E2,λfI H24 vA xu E3=>?_⟩;walk_at "rds";intro fl ia;have nt:Ze H24 (upd H24 fl (.lst [V.str fz])):=cK ia;have E4:(upd H24 fl (.lst [V.str fz])) fl=some (.lst [V.str fz]):=Zd;generalize upd H24 fl (.lst [V.str fz])=H25 at*;refine Rd.Zkt (nt _ _ (xu _ _ (xt.base _ _ ka))) E4 (qa2 (dj (by simp;omega))) (λi4 E5=>?_);have xv:Ze H25 (upd H25 i4 (.lst (b2.map V.str++ [V.str fz]))):=cK E5;have E6:(upd H25 i4 (.lst (b2.map V.str++ [V.str fz]))) i4=some (.lst ((b2++ [fz]).map V.str)):=by rw[Zd];simp
  generalize upd H25 i4 (.lst (b2.map V.str++ [V.str fz]))=H26 at*;have E7:∀(l:List Str),(∀n∈l,f0 n=true)→∀n∈l++ [fz],PyData.strOk n=true:=λl h n bO=>ZhD (by
   rcases qaH.mp bO with z|z
   ·exact h n z
   ·rw[qac.mp z];exact xn)
  refine Zgt (ns:=b2++ [fz]) (E7 b2 w') (.of (xv _ _ (nt _ _ E3))) (.of E6) ?_;have xw:=xu.trans (nt.trans xv);have E8:=hm23.same xw;walk_at "rds";refine⟨EU,_,_,rfl,E8,λnX H27 qJ s27 E9=>?_⟩;have xx:=xr.trans (xw.trans s27);walk_at "rds";intro m' sx;have te:Ze H27 (upd H27 m' (.lst [V.str fz])):=cK sx;have E_:(upd H27 m' (.lst [V.str fz])) m'=some (.lst [V.str fz]):=Zd;generalize upd H27 m' (.lst [V.str fz])=H28 at*;refine Rd.Zkt (te _ _ (xx _ _ qN)) E_ (qa2 (dj (by simp;omega))) (λtf E'=>?_);have xy:Ze H28 (upd H28 tf (.lst (jm.called.map V.str++ [V.str fz]))):=cK E';have Fa:(upd H28 tf (.lst (jm.called.map V.str++ [V.str fz]))) tf=some (.lst ((jm.called++ [fz]).map V.str)):=by rw[Zd];simp
  generalize upd H28 tf (.lst (jm.called.map V.str++ [V.str fz]))=H29 at*;refine Zgt (ns:=jm.called++ [fz]) (E7 _ oQ.2.1) (.of (xy _ _ (te _ _ E9))) (.of Fa) ?_;have xA:=xx.trans (te.trans xy);have tg:=qO.same xA;have Fb:=tg.jt;clear xu nt xv s27 te xy xw E8 hm23 E3 E9 E4 E6 E_ Fa vA ia E5 qJ sx E' xr xx xt E2 ET hfm NW;walk_at "rds";refine⟨j,jm,ad,rfl,Fb,λdx Fc=>?_⟩;have th:Ze H29 (upd H29 dx (.lst (jm.inner.map V.int))):=cK Fc;have Fd:(upd H29 dx (.lst (jm.inner.map V.int))) dx=some (.lst (jm.inner.map V.int)):=Zd;generalize upd H29 dx (.lst (jm.inner.map V.int))=H30 at*;have Fe:=SqL.of (K:=K) (th _ _ tg.lst);walk_at "rds";refine Rd.slL Fe (λeh jC=>?_);rw[Zf9];have tj:Ze H30 (upd H30 eh (.lst (jm.inner.map V.int))):=cK jC;have Ff:(upd H30 eh (.lst (jm.inner.map V.int))) eh=some (.lst (jm.inner.map V.int)):=Zd;generalize upd H30 eh (.lst (jm.inner.map V.int))=H31 at*;refine Rd.Zgq (e_.ints (SqL.of (tj _ _ Fd))) (e_.ints (SqL.of Ff)) (lD _) (lD _) (rm _) ?_;rw[Za0,decide_eq_true rfl];have xB:=(tg.same th).same tj;have NX:=xB.jt;walk_at "rds";refine⟨by show 2≤sizeLine;decide,λna qI=>?_⟩;have xC:Ze H31 (upd H31 na (.lst [V.int (jm.joined:Int),V.int (jm.joined:Int)])):=cK qI;have Fg:(upd H31 na (.lst [V.int (jm.joined:Int),V.int (jm.joined:Int)])) na=some (.lst (([(jm.joined:Int),(jm.joined:Int)]).map V.int)):=Zd;generalize upd H31 na (.lst [V.int (jm.joined:Int),V.int (jm.joined:Int)])=H32 at*;have xD:=xB.same xC;have Fh:=xD.jt;clear NX xB Fe Fd Ff Fb;walk_at "rds";refine⟨j,na,jm,ad,_,rfl,Fh,.of Fg,by simp,cs,by rw[Ew];omega,λ⟨x,bo,bu⟩=>absurd (by
   simp only[qae,qaG,or_false] at bo;rw[Ew];omega) bu,λ_ u H33 hu s33 xE=>?_⟩
  have NY:jJ jm [(jm.joined:Int),(jm.joined:Int)]=jm.inner++jm.inner:=by
   unfold jJ k7;simp[List.flatMap]
  rw[NY] at xE;have Fi:=xD.same s33;have Fj:=SqL.of (K:=K) Fi.lst;walk_at "rds";refine Rd.slL Fj (λov sY=>?_);rw[Zf9];have xF:Ze H33 (upd H33 ov (.lst (jm.inner.map V.int))):=cK sY;have Fk:(upd H33 ov (.lst (jm.inner.map V.int))) ov=some (.lst (jm.inner.map V.int)):=Zd;generalize upd H33 ov (.lst (jm.inner.map V.int))=H34 at*;walk_at "rds";refine Rd.rep Fk (by omega) (by omega) (qa2 (dj (by rw[GE];show jm.inner.length*2≤1000;omega))) (λtk Fl=>?_);have NZ:(List.replicate (2:Int).toNat (jm.inner.map V.int)).flatten=(jm.inner++jm.inner).map V.int:=by
   show(List.replicate 2 (jm.inner.map V.int)).flatten=_;simp[List.replicate]
  rw[NZ];have xG:Ze H34 (upd H34 tk (.lst ((jm.inner++jm.inner).map V.int))):=cK Fl;have Fm:(upd H34 tk (.lst ((jm.inner++jm.inner).map V.int))) tk=some (.lst ((jm.inner++jm.inner).map V.int)):=Zd;generalize upd H34 tk (.lst ((jm.inner++jm.inner).map V.int))=H35 at*;refine Rd.Zgq (e_.ints (SqL.of (xG _ _ (xF _ _ xE)))) (e_.ints (SqL.of Fm)) (lD _) (lD _) (rm _) ?_;rw[Za0,decide_eq_true rfl];have Fn:=xA.trans (th.trans (tj.trans (xC.trans (s33.trans (xF.trans xG)))));clear th tj xC s33 xF xG Fg Fk Fm xE Fc jC qI sY Fl hu tg xD Fi Fj Fh xA;have N0:=qO.same Fn;have N1:=N0.jt;walk_at "rds";refine⟨j,jm,ad,rfl,N1,oQ,lT,λfA N2 H36 N3 _ N4=>?_⟩;have qQ:YS jm.rows:=by rw[nu];exact gN.join_sized cN xb λb a_=>(by have h:=md b a_;exact⟨h.sz.1,h.sz.2,h.few.1,h.few.2⟩)
  have tl:ZI jm.rows jm.called.length:=by rw[nu,eu];exact gN.join_bt cN
  have lJ:(fQ m rs' ms mn).length=jm.called.length:=by rw[w8,eu]
  have xH:W9 jm.rows (ki (fQ m rs' ms mn)):=ZbB (by rw[lJ];exact tl) qQ gN.due_pos (by rw[nu];exact gN.join_bal cN Em);walk_at "rds";refine⟨fA,⟨jm.called,jm.rows⟩,N2,ki (fQ m rs' ms mn),rfl,N3,by dsimp only;omega,by dsimp only;omega,tl,qQ,xH,λdh cY H37 nC F s37 hr20 ht37 N5 tm eO fM=>?_⟩;dsimp only at tm eO fM;have l7:=Zdm tl (by omega) eO tm fM;have tn:Rts jm.rows jm.called.length (ki (fQ m rs' ms mn)) nC:=⟨tm,λc bu=>(by obtain⟨k,a,b,_⟩:=l7.pos c bu;omega),λb a_=>(by
   obtain⟨i,hi,e⟩:=qao a_;have:=Uq xH qQ tl eO tm fM hi;rw[el hi,e] at this;unfold lM at this;rw[Int.mul_comm b.give,Int.mul_comm b.take];omega),F,eO,fM⟩
  have N6:nC=fQ m rs' ms mn:=by
   rw[nu] at tn qQ;rw[eu] at tn;exact gN.join_is cN Em En qQ tn
  subst N6;clear tn l7 xH fM eO;have Fp:=Fn.trans (N4.trans s37);have N7:=qO.same Fp;have Fq:=N7.jt;have N8:=SqT.of (K:=K) ht37;walk_at "rds";refine⟨rfl,?_⟩;walk_at "rds";refine⟨j,jm,ad,rfl,Fq,?_⟩;walk_at "rds";intro mX qf;have tp:Ze H37 (upd H37 mX (.lst [V.int (jm.joined:Int)])):=cK qf;have Fs:(upd H37 mX (.lst [V.int (jm.joined:Int)])) mX=some (.lst (([(jm.joined:Int)]).map V.int)):=Zd;generalize upd H37 mX (.lst [V.int (jm.joined:Int)])=H38 at*;have Ft:=Fq.same tp;have Sb:=tp.seqT N8;have xI:=tp _ _ N5;have Fu:=Fp.trans tp;walk_at "rds";refine⟨mX,_,rfl,.of Fs,Fs,?_⟩;walk_at "rds";refine⟨j,jm,ad,rfl,Ft,?_⟩;walk_at "rds";refine⟨cY,_,rfl,.of xI,xI,?_⟩;walk_at "rds";refine Rd.ZmJ (e_.ints (SqL.of xI)) (e_.ints (SqL.of (Fu _ _ ES))) (lD _) (lD _) (rm _) ?_;rw[Za0,decide_eq_true rfl];walk_at "rds";refine⟨j,jm,ad,rfl,Ft,oQ,lT,λp9 N9 H39 N_ _ N'=>?_⟩;have xJ:=Fu.trans N';walk_at "rds";refine⟨p9,jD,bX,⟨jm.called,jm.rows⟩,N9,eL,rfl,N_,oQ.2.1,.of (xJ _ _ qN),.of (xJ _ _ ER),hTa19.keep (λb xs e=>xJ _ _ e),lT,λSc Sd=>?_⟩;walk_at "rds";exact k _
end
theorem walk{l:PySem.W.OpenLaw}{q:Program}{nK:List Str}{nL:(Str→Option Value)→Heap→Prop}{ly:World→Heap→Prop}{d:DefRec}{K:Params→Frag}(bO:l.most=some 63)(iH:d.params.defaults=[])(oz:d.name="law")
  (tW:∀(w:World)(h:Heap),ly w h→(K w.params).In h)
  (F:∀(w:World)(mg:Str→Option Value)(h:Heap),(K w.params).In h→h.Ns mainGlobals mg→∃T:Tp (K w.params) mg,True):
  PySem.W.WalkO q nK nL ly l.row.toRowW d [] (λf vs=>PySem.call f vs):=by
 refine L2.Zl3 (n:=63) (k:=12) (x:="_law_script") (CX:=λw=>CXX l.prog w) (sp:=λw=>Zlr (K w.params)) bO (by decide) iH ⟨rfl,by decide,by decide⟩ tW (λw mg hV h eD G nN=>?_) (λ_ _ a ns aj _ di=>⟨a,ns,rfl,di,aj,λ_=>rfl⟩) ?_
 ·obtain⟨T,_⟩:=F w mg h eD G;rw[oz,T.aL.m] at nN;cases nN;exact⟨T.aL.d,T.aM,λbase _ _=>Zmw T⟩
 ·intro w H s e bz z;obtain⟨_,_,_,_,_,_,_,_,_,_,_,_,_,z⟩:=z;exact z
end Nm
namespace PySem.W.Fast
noncomputable def tw18319723152078269206:=0
noncomputable def tw7515181635030690656:=0
noncomputable def tw10980058560456226594:=0
noncomputable def tw15907410587210407364:=0
noncomputable def tw16779720130837350459:=0
noncomputable def tw14704966963672358053:=0
noncomputable def tw8787664353384045573:=0
noncomputable def tw3942063050051699217:=0
noncomputable def tw9255570213318893528:=0
noncomputable def tw13302336958474481607:=0
noncomputable def tw15238560288674699849:=0
noncomputable def tw3012587543775649187:=0
noncomputable def tw1963224673808762330:=0
noncomputable def tw4702949709318279739:=0
noncomputable def tw17509722213832786005:=0
noncomputable def tw15503966455119118120:=0
noncomputable def tw3928139528875772215:=0
noncomputable def tw16972190768039041462:=0
noncomputable def tw15799506963877157036:=0
noncomputable def tw156500327693494987:=0
noncomputable def tw3370679321902727909:=0
noncomputable def tw6746138411253598321:=0
noncomputable def tw9664707682840448294:=0
noncomputable def tw12565735038686924957:=0
noncomputable def tw4483089810176455943:=0
noncomputable def tw16673309284922350745:=0
noncomputable def tw1133549994588948222:=0
noncomputable def tw10856253602370495111:=0
noncomputable def tw12586958876861827724:=0
noncomputable def tw14766402380935912260:=0
noncomputable def tw15601424517284590005:=0
noncomputable def tw4646746827704540582:=0
noncomputable def tw1035991777309415250:=0
noncomputable def tw1769742208937979679:=0
noncomputable def tw3741730180045132912:=0
noncomputable def tw15727675781892045688:=0
noncomputable def tw6926611784386447320:=0
noncomputable def tw14834934922697371368:=0
noncomputable def tw6191864323534986775:=0
noncomputable def tw4473850716066303861:=0
noncomputable def tw7985917494603033473:=0
noncomputable def tw12819172931034934262:=0
noncomputable def tw17583273871025018133:=0
noncomputable def tw11009662428994613778:=0
noncomputable def tw484019293655623582:=0
noncomputable def tw794559579731337114:=0
noncomputable def tw6746988576490825229:=0
noncomputable def tw7404226616580937253:=0
noncomputable def tw14547081107987257835:=0
noncomputable def tw140958393376432265:=0
noncomputable def tw7900316088936683849:=0
noncomputable def tw12561558668895855696:=0
noncomputable def tw224252720274953985:=0
noncomputable def tw11320789407697488398:=0
noncomputable def tw15156489567391182202:=0
noncomputable def tw5372713764841320094:=0
noncomputable def tw3993498796886323478:=0
noncomputable def tw18081190366632588707:=0
noncomputable def tw15498383197838289050:=0
noncomputable def tw4444847866539872267:=0
noncomputable def tw6299669752663522669:=0
noncomputable def tw7411712511965142311:=0
noncomputable def tw3721990003972402026:=0
noncomputable def tw11770798269883675924:=0
noncomputable def tw7870459912217810116:=0
noncomputable def tw5303117915808557345:=0
noncomputable def tw15826409382977565172:=0
noncomputable def tw12966301006043209077:=0
noncomputable def tw14468158304015624634:=0
noncomputable def tw4553955215405659273:=0
noncomputable def tw9178254923856226725:=0
noncomputable def tw7539383151451327293:=0
noncomputable def tw1780855861485133227:=0
noncomputable def tw2788516042663799636:=0
noncomputable def tw13250979230720591760:=0
noncomputable def tw10202082598546283903:=0
noncomputable def tw11299267461855461346:=0
noncomputable def tw17518613753220718060:=0
noncomputable def tw5080497542097626775:=0
noncomputable def tw13940120978240094948:=0
noncomputable def tw7380709499970243673:=0
noncomputable def tw4007535552042669898:=0
noncomputable def tw12198318159476451712:=0
noncomputable def tw14552107768511398248:=0
noncomputable def tw3030602935214230940:=0
noncomputable def tw2068031721882001083:=0
noncomputable def tw5621122842346688016:=0
noncomputable def tw6177193168272183049:=0
noncomputable def tw10179958170787435018:=0
noncomputable def tw8758956221596744708:=0
noncomputable def tw14743877778801255613:=0
noncomputable def tw16504579502692777405:=0
noncomputable def tw7266517429215985664:=0
noncomputable def tw12371070141882780910:=0
noncomputable def tw13811884452040735080:=0
noncomputable def tw6383594893921769833:=0
noncomputable def tw16006212268195192646:=0
noncomputable def tw5318126338051263931:=0
noncomputable def tw8183411120672508391:=0
noncomputable def tw14349480118344272369:=0
noncomputable def tw9415950696437770383:=0
noncomputable def tw7781637282965425369:=0
noncomputable def tw12027784903119531091:=0
noncomputable def tw6720193000576273632:=0
noncomputable def tw6583126135404833280:=0
noncomputable def tw9409252610290695428:=0
noncomputable def tw16954538484572846787:=0
noncomputable def tw13258903612064937143:=0
noncomputable def tw5815115704797344449:=0
noncomputable def tw6771057465715078852:=0
noncomputable def tw3035871193433065030:=0
noncomputable def tw4726616378571991457:=0
noncomputable def tw12647881545910149393:=0
noncomputable def tw8153718455847666359:=0
noncomputable def tw5197735855860877890:=0
noncomputable def tw1121376595117144077:=0
noncomputable def tw11528855969769600728:=0
noncomputable def tw11427566361601731637:=0
noncomputable def tw4501206423996699632:=0
noncomputable def tw16987568248723001741:=0
noncomputable def tw430428408179744756:=0
noncomputable def tw15392781393829103182:=0
noncomputable def tw13163177083247380030:=0
noncomputable def tw16318543074808631745:=0
noncomputable def tw16005487000749895171:=0
noncomputable def tw1496837825689740757:=0
noncomputable def tw9934176849813217389:=0
noncomputable def tw14226323800271189180:=0
noncomputable def tw11744765100095590272:=0
noncomputable def tw73235082067863654:=0
noncomputable def tw5853766319536830715:=0
noncomputable def tw4575469401439792117:=0
noncomputable def tw15307252159450916639:=0
noncomputable def tw3769733415170751120:=0
noncomputable def tw6379877077585496769:=0
noncomputable def tw2753188770636019496:=0
noncomputable def tw15185318983572495586:=0
noncomputable def tw2262944519558180321:=0
noncomputable def tw16414872353633552260:=0
noncomputable def tw9112816052591956804:=0
noncomputable def tw15168765665664715429:=0
noncomputable def tw13591893754978915794:=0
noncomputable def tw7928755452393734309:=0
noncomputable def tw13103777321882530550:=0
noncomputable def tw6780931393888090533:=0
noncomputable def tw11509631006479894542:=0
noncomputable def tw10101838286354298160:=0
noncomputable def tw14440234484746036374:=0
noncomputable def tw16892950237003001364:=0
noncomputable def tw14561855563045284238:=0
noncomputable def tw3278208757051527886:=0
noncomputable def tw11571950411351876826:=0
noncomputable def tw17379655247829062674:=0
noncomputable def tw6804164650001250276:=0
noncomputable def tw879039802168076801:=0
noncomputable def tw6971923021779958951:=0
noncomputable def tw5993558451317126926:=0
noncomputable def tw2333760685190862846:=0
noncomputable def tw1540801422167663258:=0
noncomputable def tw7504540625256203694:=0
noncomputable def tw18274053057261959714:=0
noncomputable def tw17387586789886408678:=0
noncomputable def tw1207898107382310041:=0
noncomputable def tw5136670111926915294:=0
noncomputable def tw18362220945216060818:=0
noncomputable def tw5587828832569908507:=0
noncomputable def tw14782221385549378594:=0
noncomputable def tw5641464608549158944:=0
noncomputable def tw10786853811004261247:=0
noncomputable def tw10009154040833558269:=0
noncomputable def tw1069461038679805557:=0
noncomputable def tw12450740666184111859:=0
noncomputable def tw11267060662964215765:=0
noncomputable def tw17809368224812209732:=0
noncomputable def tw4054338845197329986:=0
noncomputable def tw3117876789804055479:=0
noncomputable def tw6430148876982280040:=0
noncomputable def tw14039770363094924656:=0
noncomputable def tw7314036908124754260:=0
noncomputable def tw1341831619025270398:=0
noncomputable def tw6947311177288889283:=0
noncomputable def tw15841214392844781511:=0
noncomputable def tw16547407415031295079:=0
noncomputable def tw13222350438540222316:=0
noncomputable def tw15683925009920596817:=0
noncomputable def tw16026687846824845141:=0
noncomputable def tw16742654508893982497:=0
noncomputable def tw10862299747449858031:=0
noncomputable def tw5584787358253198817:=0
noncomputable def tw14544534740720416148:=0
noncomputable def tw13209865752641590013:=0
noncomputable def tw12858031052409020469:=0
noncomputable def tw13805873334337215467:=0
noncomputable def tw7162892588697296436:=0
noncomputable def tw16167359759826626016:=0
noncomputable def tw18209984211735936738:=0
noncomputable def tw14861814636456937514:=0
noncomputable def tw16063497028814534905:=0
noncomputable def tw15938283472152205058:=0
noncomputable def tw16469968427540623188:=0
noncomputable def tw8017319207164974814:=0
noncomputable def tw16902839142023905846:=0
noncomputable def tw6151806017418604498:=0
noncomputable def tw9499079542588007126:=0
noncomputable def tw3654713004333995069:=0
noncomputable def tw4348781129147497033:=0
noncomputable def tw2078221918924691516:=0
noncomputable def tw4485188146244626006:=0
noncomputable def tw6860005973269269434:=0
noncomputable def tw14215523851209440837:=0
noncomputable def tw1440445702870836197:=0
noncomputable def tw2365959413621026630:=0
noncomputable def tw6813055777750051379:=0
noncomputable def tw7548392786458987605:=0
noncomputable def tw9883241223907045680:=0
noncomputable def tw13875156878065026754:=0
noncomputable def tw7343268752383412757:=0
noncomputable def tw17547121436047655077:=0
noncomputable def tw4794471301394942419:=0
noncomputable def tw2674932421916377244:=0
noncomputable def tw8779559620673432557:=0
noncomputable def tw1636294909779160938:=0
noncomputable def tw15014656786730145071:=0
noncomputable def tw12045687554208613785:=0
noncomputable def tw4750372535893558248:=0
noncomputable def tw14446889921289171967:=0
noncomputable def tw3026974886004340542:=0
noncomputable def tw10259456481502063733:=0
noncomputable def tw7216285305576236988:=0
noncomputable def tw9427707324649778139:=0
noncomputable def tw4919420835721240297:=0
noncomputable def tw1929051231481359197:=0
noncomputable def tw5919568347009700617:=0
noncomputable def tw16008577638418755501:=0
noncomputable def tw16018173644500535507:=0
noncomputable def tw9143288735760387336:=0
noncomputable def tw6344740294480480347:=0
noncomputable def tw10820689856752429809:=0
noncomputable def tw1688900416884658310:=0
noncomputable def tw342627630633686347:=0
noncomputable def tw6682834194053057390:=0
noncomputable def tw904700679164887468:=0
noncomputable def tw15286016160494054022:=0
noncomputable def tw1921521355083503560:=0
noncomputable def tw8875704492356520043:=0
noncomputable def tw17158498591503855211:=0
noncomputable def tw11959140413693318325:=0
noncomputable def tw3953801614479857906:=0
noncomputable def tw14093027705770561460:=0
noncomputable def tw13678800421603821742:=0
noncomputable def tw17072287187995764495:=0
noncomputable def tw6216019802521865495:=0
noncomputable def tw12549891175512296020:=0
noncomputable def tw6412926305118128572:=0
noncomputable def tw699885869238217298:=0
noncomputable def tw2396124536967069902:=0
noncomputable def tw12095233292457085652:=0
noncomputable def tw14105658864730480447:=0
noncomputable def tw2168809166434563998:=0
noncomputable def tw9645415924567051514:=0
noncomputable def tw2349391073813456962:=0
noncomputable def tw13271906532477634360:=0
noncomputable def tw4541562439421889972:=0
noncomputable def tw13455008865256669997:=0
noncomputable def tw8039922354979649969:=0
noncomputable def tw16354320449107294043:=0
noncomputable def tw14682148202264242054:=0
noncomputable def tw14230237927081449064:=0
noncomputable def tw16228546722542134916:=0
noncomputable def tw6248262865384446638:=0
noncomputable def tw12882725297594068205:=0
noncomputable def tw10416547880744309772:=0
noncomputable def tw9073529317580292059:=0
noncomputable def tw11681997634990404633:=0
noncomputable def tw3845858559725053980:=0
noncomputable def tw9222930264894444057:=0
noncomputable def tw10010476896219074766:=0
noncomputable def tw3796761841204099867:=0
noncomputable def tw12605636473900859618:=0
noncomputable def tw8351722288243878645:=0
noncomputable def tw1520126607721818112:=0
noncomputable def tw15748688716655669332:=0
noncomputable def tw4617231552464855007:=0
noncomputable def tw5650243272548119527:=0
noncomputable def tw10233697847252976428:=0
noncomputable def tw9780232235822103811:=0
noncomputable def tw4742214005412671033:=0
noncomputable def tw13426120451222973635:=0
noncomputable def tw18080183023412071460:=0
noncomputable def tw16178701252535462539:=0
noncomputable def tw8941051065918884139:=0
noncomputable def tw1631528738366521735:=0
noncomputable def tw17383677062821430048:=0
noncomputable def tw1318491411394264183:=0
noncomputable def tw2908794464820237806:=0
noncomputable def tw11607571091343217316:=0
noncomputable def tw16460108965882056969:=0
noncomputable def tw1577394830658334081:=0
noncomputable def tw4150129706059378516:=0
noncomputable def tw1307397420692908237:=0
noncomputable def tw8498224420840446366:=0
noncomputable def tw10649757837914101677:=0
noncomputable def tw14492130746028941678:=0
noncomputable def tw96622775306553162:=0
noncomputable def tw11474354527414763458:=0
noncomputable def tw2714118153497866190:=0
noncomputable def tw10457024655085938732:=0
noncomputable def tw15865145861322664084:=0
noncomputable def tw975603666568112914:=0
noncomputable def tw14706373570561280564:=0
noncomputable def tw10596330996000993663:=0
noncomputable def tw12115677926826487651:=0
noncomputable def tw11805095956621885306:=0
noncomputable def tw3578266290839061523:=0
noncomputable def tw16069467731819734766:=0
noncomputable def tw5337520422491400243:=0
noncomputable def tw5705150656712832173:=0
noncomputable def tw10900612134272185296:=0
noncomputable def tw15949632100322145453:=0
noncomputable def tw7008413378024983292:=0
noncomputable def tw11519818637871275062:=0
noncomputable def tw5206811706079737515:=0
noncomputable def tw95380432389214655:=0
noncomputable def tw2563822888960790901:=0
noncomputable def tw11740158395064566128:=0
noncomputable def tw5261978208560086303:=0
noncomputable def tw5756246980477274786:=0
noncomputable def tw15877804068443149471:=0
noncomputable def tw6545069859950431434:=0
noncomputable def tw16164318154338525173:=0
noncomputable def tw8360223076043766558:=0
noncomputable def tw14204751362869160942:=0
noncomputable def tw12783126387995856396:=0
noncomputable def tw11452799440724529541:=0
noncomputable def tw1632138963072412543:=0
noncomputable def tw16674505773908450454:=0
noncomputable def tw145737218979701424:=0
noncomputable def tw11196576211290212920:=0
noncomputable def tw12610021574756858651:=0
noncomputable def tw1760887451110579552:=0
noncomputable def tw12569403797188257058:=0
noncomputable def tw8154596109767139492:=0
noncomputable def tw1700961563244225169:=0
noncomputable def tw12750071994816552410:=0
noncomputable def tw3953983453493845904:=0
noncomputable def tw16461131160617491076:=0
noncomputable def tw18045181642299103897:=0
noncomputable def tw15804601057448629779:=0
noncomputable def tw15163691060613773719:=0
noncomputable def tw13174727373343592695:=0
noncomputable def tw5428483806739877402:=0
noncomputable def tw14621558803184837879:=0
noncomputable def tw3313136128635458249:=0
noncomputable def tw14567758486865327085:=0
noncomputable def tw14480775007280087103:=0
noncomputable def tw4594594618009861046:=0
noncomputable def tw4471595931109712:=0
noncomputable def tw5361921588708071475:=0
noncomputable def tw3420589082384576279:=0
noncomputable def tw12910478021129342043:=0
noncomputable def tw3005074183642461010:=0
noncomputable def tw17982632581007349490:=0
noncomputable def tw11677999109315008533:=0
noncomputable def tw4981345687400404099:=0
noncomputable def tw8492695471227164189:=0
noncomputable def tw18050594628584206457:=0
noncomputable def tw10557781312605088040:=0
noncomputable def tw17730374457649607564:=0
noncomputable def tw1750137360351195884:=0
noncomputable def tw694641955976290817:=0
noncomputable def tw7562992248104944006:=0
noncomputable def tw13209909615577438668:=0
noncomputable def tw6661695827969199641:=0
noncomputable def tw5445652428034049480:=0
noncomputable def tw11628169124181736218:=0
noncomputable def tw12713474656232135093:=0
noncomputable def tw9082547480607593692:=0
noncomputable def tw5236467544972033864:=0
noncomputable def tw12755853218907593354:=0
noncomputable def tw5779807693218237117:=0
noncomputable def tw1173915034291495061:=0
noncomputable def tw1379819711499894447:=0
noncomputable def tw12024052974647851815:=0
noncomputable def tw11455304401886324557:=0
noncomputable def tw8959049691579539363:=0
noncomputable def tw16857874770376780312:=0
noncomputable def tw2615225815643683748:=0
noncomputable def tw2763948350111076317:=0
noncomputable def tw1711551886321876400:=0
noncomputable def tw8694418197188867275:=0
noncomputable def tw16509422761857165964:=0
noncomputable def tw9227739190325600577:=0
noncomputable def tw1782986887752727282:=0
noncomputable def tw3999494996776864881:=0
noncomputable def tw2740938534389032747:=0
noncomputable def tw15342694525744801394:=0
noncomputable def tw16377322756614737321:=0
noncomputable def tw5220365054837143106:=0
noncomputable def tw4525035975968344886:=0
noncomputable def tw14487225071462926998:=0
noncomputable def tw10107253061102527878:=0
noncomputable def tw6595326909074280585:=0
noncomputable def tw8412808582591480684:=0
noncomputable def tw10467547392029036514:=0
noncomputable def tw14837500090653875177:=0
noncomputable def tw8886548031198724438:=0
noncomputable def tw15936267908355012547:=0
noncomputable def tw4345419457721792268:=0
noncomputable def tw5158985913405472568:=0
noncomputable def tw2761740619651554051:=0
noncomputable def tw2270867906320716093:=0
noncomputable def tw1203092555886150556:=0
noncomputable def tw16031802621698480722:=0
noncomputable def tw15956808668199558494:=0
noncomputable def tw11655752947959519828:=0
noncomputable def tw22770443082338375:=0
noncomputable def tw3939213812386941702:=0
noncomputable def tw9296652615783768635:=0
noncomputable def tw11318720705224715836:=0
noncomputable def tw12640039149752082317:=0
noncomputable def tw5948911378048054513:=0
noncomputable def tw10069679330798477471:=0
noncomputable def tw2597835075636532167:=0
noncomputable def tw10879049270418931671:=0
noncomputable def tw8734374983914360050:=0
noncomputable def tw9612501922665687664:=0
noncomputable def tw1746691661504117414:=0
noncomputable def tw15737299264046761620:=0
noncomputable def tw10673785997899696317:=0
noncomputable def tw2334823584000870752:=0
noncomputable def tw12895290704440047658:=0
noncomputable def tw8880221894797833543:=0
noncomputable def tw15269681836064918744:=0
noncomputable def tw7317976632167283318:=0
noncomputable def tw14166306648495280335:=0
noncomputable def tw3482596711124622332:=0
noncomputable def tw5198491551064242785:=0
noncomputable def tw10647212829402437109:=0
noncomputable def tw9247934765185286569:=0
noncomputable def tw15911034643522716437:=0
noncomputable def tw8541635048890555876:=0
noncomputable def tw17137381723160658158:=0
noncomputable def tw15621152600213872692:=0
noncomputable def tw6106544099514612380:=0
noncomputable def tw14866750424869906819:=0
noncomputable def tw6029549916961933788:=0
noncomputable def tw9621991448934417173:=0
noncomputable def tw4602144283063646432:=0
noncomputable def tw11026676922041430842:=0
noncomputable def tw12097457047636086818:=0
noncomputable def tw7200035162296377973:=0
noncomputable def tw4077155474599359870:=0
noncomputable def tw1359683239468158799:=0
noncomputable def tw8116386714009785923:=0
noncomputable def tw16103006133368224477:=0
noncomputable def tw12596930424080965229:=0
noncomputable def tw3143963581460294928:=0
noncomputable def tw8510471213642052582:=0
noncomputable def tw15773226518417826024:=0
noncomputable def tw8407328341228086160:=0
noncomputable def tw14178168157880483326:=0
noncomputable def tw17060178714905924249:=0
noncomputable def tw6279404569132212835:=0
noncomputable def tw7328480855423678508:=0
noncomputable def tw14572884493113430928:=0
noncomputable def tw2972689881520253417:=0
noncomputable def tw10257249915877144506:=0
noncomputable def tw18376620492002993813:=0
noncomputable def tw10714323112186569839:=0
noncomputable def tw9601561209593194870:=0
noncomputable def tw7948252591895461919:=0
noncomputable def tw2826996415822915552:=0
noncomputable def tw14923764304363489763:=0
noncomputable def tw5862727210319180147:=0
noncomputable def tw617931529710787736:=0
noncomputable def tw1451217721516117501:=0
noncomputable def tw14198748084634048835:=0
noncomputable def tw1137333760282572224:=0
noncomputable def tw8287150595309615017:=0
noncomputable def tw1023125203640825393:=0
end PySem.W.Fast
open PySem PySem.W PyProof.Rows
local macro_rules| `(tactic|walk_at "dn")=>`(tactic|(refine' L2.Dn.of (by assumption) (by assumption) ?a ?l ?c ?k ?b;(case a=>k_is);(case l=>k_is);(case c=>k_is);(case k=>k_is);(case b=>(repeat refine L2.lenS λ_=>?_);exact L2.ZkM λ_ _ _ _ _ _=>rfl)))
local macro_rules| `(tactic|walk_at "dm")=>`(tactic|(refine' L2.Dm.of ?a ?i ?l ?c ?k ?b;(case a=>k_is);(case i=>k_is);(case l=>k_is);(case c=>k_is);(case k=>k_is);(case b=>(repeat refine L2.lenS λ_=>?_);exact L2.ZkM λ_ _ _ _ _ _=>rfl)))
local macro_rules| `(tactic|walk_at "di")=>`(tactic|(refine' L2.Di.of ?z ?y ?a ?i ?l ?c ?k ?b;(case z=>k_is);(case y=>k_is);(case a=>k_is);(case i=>k_is);(case l=>k_is);(case c=>k_is);(case k=>k_is);(case b=>(repeat refine L2.lenS λ_=>?_);exact L2.ZkM λ_ _ _ _ _ _=>rfl)))
local macro_rules| `(tactic|walk_at "na")=>`(tactic|((repeat refine L2.ZlY (by k_is) ?_);exact L2.ZmG))
local macro_rules| `(tactic|walk_at "ex")=>`(tactic|(refine' ⟨?g,mg_of (by assumption) (by assumption) ?m,?e⟩;(case g=>k_is);(case m=>k_is);(case e=>k_exc)))
set_option maxRecDepth 100000 in
set_option maxHeartbeats 0 in
theorem PySem.Challenge.cw_ratehall_k22_joined_hall_holds : PySem.Challenge.rw_ratehall_k22_joined_hall.Holds := by
 w_on;o_law;k_head;(case hw=>w_witness2)
 k_fill
 refine Nm.walk (l:=PySem.Challenge.rw_ratehall_k22_joined_hall) rfl rfl rfl (λw h Y=>kIn_of Y) ?F
 case F=>
  intro w mg h eD G
  refine' ⟨Nm.Tp.mk (mg_of eD G ?Oa) ⟨?Ob,?Oc,?Od,?Oe⟩ ?Of (mg_of eD G ?Og) ⟨?Oh,?Oi,?Oj,?Ol⟩ ?Om (mg_of eD G ?On) ⟨?Oo,?Op,?Oq,?Ot⟩ ?Ou ?Ov ?Ow ?Ox ?Oy ?Oz ?OA ?OB ?OC ?OD ?OE ?OF ?OG ?OH ⟨?OI,?OJ,?OK⟩ (L2.ZlO ?OL ?OM ?ON) (L2.ZnB ?OO) ?OP ?OQ (.cons ⟨_,rfl⟩ .nil) ?OR ?OS ?OT ?OU ?OV ?OW ?OX ?OY ?OZ ?O0 ?O1 ?O2 ?O3 ?O4 ?O5 ?O6 ?O7 ?O8 ?O9 ?O_ ?Pa ?Pb ?Pd ?Pe ?Pf ?Pg ?Ph ?Pj ?Pk ?Pl ?Pm ?Pn ?Po ?Pp ?Pq ?Pr ?Ps ?Pu ?Pw ?Px ?Py ?Pz ?PB ?PD ?PF ?PH ?PJ ?PL ?PM (mg_none_of eD G ?PN) (mg_none_of eD G ?PP) (mg_none_of eD G ?PQ) (mg_none_of eD G ?PR) (mg_none_of eD G ?PU) (mg_none_of eD G ?PV) (mg_none_of eD G ?PX) (mg_none_of eD G ?PY) (mg_none_of eD G ?PZ) (mg_none_of eD G ?P0) (mg_none_of eD G ?P1) (mg_none_of eD G ?P2) (mg_none_of eD G ?P4) (mg_none_of eD G ?P5) (mg_none_of eD G ?P6) (mg_none_of eD G ?P7) ?P8 ?P9 ?P_ ?P' ?Qa ?Qb ?Qc ?Qd ?Qe (mg_of eD G ?Qf) (mg_of eD G ?Qg) (mg_of eD G ?Qh) (mg_of eD G ?Qi) ?Qj,trivial⟩
  case Oa|Ob|Oc|Od|Oe=>k_is
  case Of=>walk_at "na"
  case Og|Oh|Oi|Oj|Ol=>k_is
  case Om=>walk_at "na"
  case On|Oo|Op|Oq|Ot=>k_is
  case Ou=>walk_at "na"
  case Ov|Ow|Ox|Oy|Oz|OA=>walk_at "dn"
  case OB=>walk_at "dm"
  case OC|OD|OE|OF=>walk_at "dn"
  case OG|OH=>walk_at "dm"
  case OI|OJ|OK|OL|OM|ON|OO=>k_is
  case OP=>exact λs us X aj=>(match us,(show us.length=6 by simpa using aj) with| [_,_,_,_,_,_],_=>binds_K X rfl (by k_is) rfl rfl rfl)
  case OQ=>exact λs us X aj=>(match us,(show us.length=5 by simpa using aj) with| [_,_,_,_,_],_=>binds_K X rfl (by k_is) rfl rfl rfl)
  case OR=>walk_at "di"
  case OS|OT=>walk_at "dn"
  case OU|OV=>walk_at "dm"
  case OW|OX|OY|OZ|O0|O1|O2=>walk_at "dn"
  case O3|O4=>walk_at "dm"
  case O5|O6|O7|O8|O9|O_|Pa|Pb|Pd|Pe|Pf=>walk_at "dn"
  case Pg=>walk_at "dm"
  case Ph=>walk_at "dn"
  case Pj|Pk|Pl|Pm=>walk_at "dm"
  case Pn|Po|Pp|Pq|Pr=>walk_at "dn"
  case Ps|Pu=>walk_at "dm"
  case Pw=>walk_at "dn"
  case Px=>walk_at "dm"
  case Py|Pz=>walk_at "dn"
  case PB=>walk_at "di"
  case PD|PF|PH|PJ=>walk_at "dn"
  case PL=>walk_at "di"
  case PM=>walk_at "dn"
  case PN|PP|PQ|PR|PU|PV|PX|PY|PZ|P0|P1|P2|P4|P5|P6|P7=>k_is
  case P8|P9|P_|P'|Qa|Qb|Qc|Qd|Qe=>walk_at "ex"
  case Qf|Qg|Qh|Qi=>k_is
  case Qj=>exact λs v=> .of_eq rfl
#print axioms PySem.Challenge.cw_ratehall_k22_joined_hall_holds
