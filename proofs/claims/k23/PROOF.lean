import PyProof.Rows.All
import Wide.All
import OpenK.AllK
import Wide.FinOn
import Lean
import PyProof.EqAt
import PyProof.EqKinds
import PyProof.TupleCall
import PyProof.FactsAll.set
import PySem.Challenge.RW_ratehall_k23_inner_row
set_option maxHeartbeats 4000000
set_option compiler.extract_closed false
set_option bootstrap.genMatcherCode false
local macro_rules| `(tactic|omega)=>`(tactic|with_reducible first|exact RB _|lia|fail)
set_option Elab.async false
set_option linter.all false
set_option maxRecDepth 100000
open PySem.W (instObj methodObj hideAll hideAll_get of_hideAll lookIn plainGet hasDictIn handedIn plainGet_of isFn plainOver takerIn makesIn typeIn emptyDict keepIn methodCall_KW kitx_list kitx_dict callWith_K callWith_K0 cellsFrom_some fnOf codeIn nsIn excIn mg_of kdl_call exmOne kIn_of mg_none_of binds_K)
abbrev QM:=@List.length_map
abbrev QN:=@List.getElem?_eq_getElem
abbrev QO:=@List.getElem_mem
abbrev QP:=@List.getElem?_eq_some_iff
abbrev QQ:=@Nat.le_refl
abbrev QR:=@List.take_succ_eq_append_getElem
abbrev QS:=@List.mem_singleton
abbrev QT:=@Int.toNat_natCast
abbrev QU:=@Nat.lt_of_lt_of_le
abbrev QV:=@List.size_toArray
abbrev QW:=@List.mem_cons
abbrev QX:=@List.getElem?_map
abbrev QY:=@Bool.false_ne_true
abbrev QZ:=@Nat.le_trans
abbrev Q0:=@Nat.ne_of_lt
abbrev Q1:=@PySem.F.plainAttrs_list
abbrev Q2:=@Option.some.inj
abbrev Q3:=@List.mem_map
abbrev Q4:=@List.getElem_of_mem
abbrev Q5:=@Nat.zero_le
abbrev Q6:=@List.mem_of_getElem?
abbrev Q7:=@List.mem_cons_of_mem
abbrev Q8:=@PySem.boot_len
abbrev Q9:=@List.mem_append_right
abbrev GE:=@List.take_length
abbrev GM:=@List.ext_getElem
abbrev GT:=@PySem.F.slot_list_append
abbrev fm:=@PySem.F.type_list_append
abbrev FM:=@List.length_take
abbrev Ra:=@List.filter_eq_self
abbrev Rb:=@PySem.F.excBase_ValueError
abbrev Rc:=@List.mem_range
abbrev Re:=@Nat.pow_le_pow_right
abbrev Rf:=@Nat.mul_left_comm
abbrev Rg:=@PyProof.Rows.callWith_type1
abbrev Rh:=@Nat.mul_assoc
abbrev Ri:=@Int.eq_ofNat_of_zero_le
abbrev Rj:=@List.length_append
abbrev Rk:=@List.mem_append
abbrev Rl:=@List.nodup_iff_pairwise_ne
abbrev Rm:=@List.length_filter_le
abbrev Rn:=@List.getElem?_eq_none
abbrev Ro:=@List.mem_filter
abbrev Rp:=@Nat.lt_of_le_of_lt
abbrev Rq:=@PyProof.Rows.boot_isinstance
abbrev Rr:=@Array.getElem?_eq_getElem
abbrev Rs:=@Int.toNat_of_nonneg
abbrev Rt:=@List.map_map
abbrev Ru:=@List.not_mem_nil
abbrev Rv:=@List.map_append
abbrev Rw:=@List.getElem?_append_right
abbrev Rx:=@Array.length_toList
abbrev Ry:=@List.getElem?_append_left
abbrev Rz:=@Bool.and_eq_true
abbrev RA:=@PyProof.Rows.boot_list
abbrev RB:=@Int.natCast_nonneg
abbrev RC:=@List.all_eq_true
abbrev RD:=@Nat.gcd_dvd_right
abbrev RE:=@List.getElem?_set_self
abbrev RF:=@Nat.div_le_self
abbrev RG:=@List.lookup_cons
abbrev RH:=@Nat.lt_succ_iff_lt_or_eq
abbrev RI:=@Nat.le_of_ble_eq_true
abbrev RJ:=@Array.getElem?_toList
abbrev RK:=@Nat.eq_zero_or_pos
abbrev RL:=@List.getD_eq_getElem?_getD
abbrev RM:=@List.getElem?_of_mem
abbrev RN:=@PySem.W.kia_one
abbrev RO:=@Nat.mul_comm
abbrev RP:=@List.take_of_length_le
abbrev RQ:=@List.pairwise_iff_getElem
abbrev RS:=@Nat.lt_succ_of_lt
abbrev RT:=@List.length_replicate
abbrev RU:=@Nat.lt_irrefl
abbrev RV:=@PySem.F.slot_dict_values
abbrev RW:=@Nat.le_of_lt
abbrev RX:=@Nat.not_lt_zero
abbrev RY:=@Int.emod_nonneg
abbrev RZ:=@Int.zero_add
abbrev R0:=@List.mem_cons_self
abbrev R1:=@Int.emod_lt_of_pos
abbrev R3:=@List.mem_append_left
abbrev R4:=@List.getElem?_set_ne
abbrev R5:=@PySem.F.plainAttrs_dict
abbrev R6:=@List.mem_iff_getElem
abbrev R7:=@Nat.gcd_dvd_left
abbrev R8:=@List.length_range
abbrev R9:=@Bool.eq_iff_iff
abbrev qaa:=@List.range_succ
abbrev qab:=@Nat.eq_of_mul_eq_mul_left
abbrev qac:=@Nat.lt_succ_self
abbrev qad:=@PyProof.Rows.callWith_builtin1
abbrev qae:=@List.filter_append
abbrev qaf:=@Nat.le_of_dvd
abbrev qag:=@List.nodup_append
abbrev qah:=@Nat.gcd_pos_of_pos_left
abbrev qai:=@List.length_set
abbrev qaj:=@List.find?_cons
abbrev qak:=@PySem.mem_of_lookup
abbrev qal:=@List.map_set
abbrev qam:=@List.getElem_inj
abbrev qan:=@Nat.div_mul_cancel
abbrev qao:=@Ne.symm
abbrev qap:=@Nat.lt_or_ge
abbrev qaq:=@Option.isSome_iff_exists
abbrev qar:=@PyProof.Rows.slot_tuple_getitem
abbrev qas:=@List.replicate_succ
abbrev qat:=@List.map_congr_left
abbrev qau:=@List.any_eq_true
abbrev qav:=@List.getElem_map
abbrev qaw:=@PySem.F.slot_list_index
abbrev qax:=@PySem.F.type_list_index
abbrev qay:=@Sum.inl.inj
abbrev qaz:=@Nat.ne_of_gt
abbrev qaA:=@Bool.false_eq_true
abbrev qaB:=@List.append_nil
abbrev qaC:=@Nat.dvd_trans
abbrev qaD:=@List.getElem_take
abbrev qaE:=@List.pairwise_map
abbrev qaF:=@List.foldl_append
abbrev qaG:=@Int.fmod_eq_emod_of_nonneg
abbrev qaH:=@Nat.le_succ
abbrev qaI:=@PySem.F.args_dict_values_1
abbrev qaJ:=@List.length_drop
abbrev qaK:=@PySem.F.entry_dict_values
abbrev qaL:=@PySem.F.plain_extend_loop
abbrev qaM:=@PySem.evalArgs_none
abbrev qaN:=@Nat.mul_le_mul_left
abbrev qaO:=@PySem.F.type_dict_values
abbrev qaP:=@Bool.not_true
abbrev qaQ:=@PyProof.Rows.boot_sorted
abbrev qaR:=@Nat.gcd_pos_of_pos_right
abbrev qaS:=@List.nodup_cons
abbrev qaT:=@List.of_mem_zip
abbrev qaU:=@Int.natCast_mul
abbrev qaV:=@Int.natAbs_natCast
abbrev qaW:=@Nat.mul_right_comm
abbrev qaX:=@Nat.log2_lt
abbrev qaY:=@List.flatten_cons
abbrev qaZ:=@List.append_assoc
abbrev qa0:=@List.getElem_set
abbrev qa1:=@List.all_cons
abbrev qa2:=@List.any_cons
abbrev qa3:=@List.sum_cons
abbrev qa4:=@Bool.true_and
abbrev qa5:=@Nat.mul_pos
abbrev qa6:=@Nat.div_pos
open PySem.W (Frag)
namespace L2
open PySem PySem.Spec PyProof.Rows
noncomputable abbrev Key:=Sum Int Str
noncomputable def m9:Key→Value→Bool
 | .inl k,v=>Value.isInt k v
 | .inr x,v=>Value.isStrOf x v
noncomputable def Zoi (w:World):Key→Int
 | .inl k=>hashInt k
 | .inr x=>hashStr w x
theorem jZ:∀{k:Key}{v:Value},m9 k v=true→(∃i t,k=Sum.inl i∧v=Value.int i t)∨(∃x t,k=Sum.inr x∧v=Value.str x t)
 | .inl i,v,h=>by
  obtain⟨t,e⟩:=Value.isInt_shape (k:=i) (v:=v) h;exact .inl ⟨i,t,rfl,e⟩
 | .inr x,v,h=>by
  obtain⟨t,e⟩:=Value.isStrOf_shape (x:=x) (v:=v) h;exact .inr ⟨x,t,rfl,e⟩
theorem Zjl(i:Int)(t:Tok):m9 (.inl i) (.int i t)=true:=by simp[m9,Value.isInt]
theorem Zi9(x:Str)(t:Tok):m9 (.inr x) (.str x t)=true:=by simp[m9,Value.isStrOf]
theorem Zng(a b:Int):decide ((Sum.inl a:Key)=Sum.inl b)=(a==b):=by
 by_cases e:a=b
 ·subst e;simp
 ·have h:¬(Sum.inl a:Key)=Sum.inl b:=λq=>e (qay q);rw[decide_eq_false h];exact(beq_eq_false_iff_ne.mpr e).symm
theorem ZmU(a b:Str):decide ((Sum.inr a:Key)=Sum.inr b)=decide (a=b):=by
 by_cases e:a=b
 ·subst e;simp
 ·have h:¬(Sum.inr a:Key)=Sum.inr b:=λq=>e (Sum.inr.inj q);rw[decide_eq_false h,decide_eq_false e]
theorem Zmh(a:Int)(b:Str):decide ((Sum.inl a:Key)=Sum.inr b)=false:=decide_eq_false (λq=>nomatch q)
theorem Zmo(a:Str)(b:Int):decide ((Sum.inr a:Key)=Sum.inl b)=false:=decide_eq_false (λq=>nomatch q)
noncomputable def dZ (prog:Program) (w:World):PySem.KeyKind prog w Key where
 is:=m9
 hash:=Zoi w
 inj:=λv a b bB ao=>by
  rcases jZ bB with⟨i,t,rfl,rfl⟩|⟨x,t,rfl,rfl⟩
  ·rcases jZ ao with⟨j,u,rfl,e⟩|⟨y,u,rfl,e⟩
   ·injection e with bD _;rw[bD]
   ·exact nomatch e
  ·rcases jZ ao with⟨j,u,rfl,e⟩|⟨y,u,rfl,e⟩
   ·exact nomatch e
   ·injection e with bD _;rw[bD]
 byValue:=λk v h=>by
  rcases jZ h with⟨i,t,rfl,rfl⟩|⟨x,t,rfl,rfl⟩<;>rfl
 pyHash:=λb8 h=>by
  rcases jZ b8 with⟨i,t,rfl,rfl⟩|⟨x,t,rfl,rfl⟩
  ·exact wpAny_pyHash_int h
  ·exact wpAny_pyHash_str h
 eqBool:=λhu b8 h=>by
  rcases jZ hu with⟨i,t,rfl,rfl⟩|⟨x,t,rfl,rfl⟩
  ·rcases jZ b8 with⟨j,u,rfl,rfl⟩|⟨y,u,rfl,rfl⟩
   ·rw[Zng] at h;exact wpAny_eqBool_int h
   ·rw[Zmh] at h;exact SeqAt.EqAt.int_str i t y u _ _ _ _ h
  ·rcases jZ b8 with⟨j,u,rfl,rfl⟩|⟨y,u,rfl,rfl⟩
   ·rw[Zmo] at h;exact SeqAt.EqAt.str_int x t j u _ _ _ _ h
   ·rw[ZmU] at h;exact wpAny_eqBool_str h
 «strs»:=λk x t v h=>by
  rcases jZ h with⟨i,u,rfl,e⟩|⟨y,u,rfl,e⟩
  ·exact nomatch e
  ·injection e with bD _
   subst bD;cases v<;>rfl
theorem Zgz(prog:Program)(w:World)(i:Int)(t:Tok):(dZ prog w).is (.inl i) (.int i t)=true:=Zjl i t
theorem Zgs(prog:Program)(w:World)(x:Str)(t:Tok):(dZ prog w).is (.inr x) (.str x t)=true:=Zi9 x t
inductive V where
 |non|bl (b:Bool)|int (i:Int)|str (x:Str)|byt (b:Array UInt8)|flt (b:UInt64)|ref (a:Addr)|ty (n:String)
 deriving DecidableEq
noncomputable def cA:V→Value→Prop
 | .non,u=>u=Value.none
 | .bl b,u=>u=Value.bool b
 | .int i,u=>∃t,u=Value.int i t
 | .str x,u=>∃t,u=Value.str x t
 | .byt b,u=>∃t,u=Value.bytes b t
 | .flt b,u=>∃t,u=Value.float b t
 | .ref a,u=>u=Value.ref a
 | .ty n,u=>u=Value.type n
noncomputable abbrev cH:List V→List Value→Prop:=Paired cA
theorem cH.length{xs:List V}{us:List Value}(r:cH xs us):xs.length=us.length:=Paired.length r
theorem cH.get:∀{xs:List V}{us:List Value}{i:Nat}{x:V},cH xs us→xs[i]? =some x→∃u,us[i]? =some u∧cA x u
 |_,_,_,_,.nil,e=>by simp at e
 |_,_,0,_,.cons r _,e=>by simp at e;subst e;exact⟨_,rfl,r⟩
 |_,_,i+1,x,.cons _ t,e=>by
  obtain⟨u,ap,a'⟩:=cH.get (i:=i) (x:=x) t (by simpa using e);exact⟨u,by simpa using ap,a'⟩
theorem cH.set{x:V}{u:Value}(r:cA x u):∀{xs:List V}{us:List Value}(i:Nat),cH xs us→cH (xs.set i x) (us.set i u)
 |_,_,_,.nil=> .nil
 |_,_,0,.cons _ t=> .cons r t
 |_,_,i+1,.cons q t=> .cons q (cH.set r i t)
theorem cH.append:∀{xs ys:List V}{us bV:List Value},cH xs us→cH ys bV→cH (xs++ys) (us++bV)
 |_,_,_,_,.nil,s=>s
 |_,_,_,_,.cons r t,s=> .cons r (cH.append t s)
theorem cH.take:∀{xs:List V}{us:List Value}(n:Nat),cH xs us→cH (xs.take n) (us.take n)
 |_,_,0,_=> .nil
 |_,_,_+1,.nil=> .nil
 |_,_,n+1,.cons r t=> .cons r (cH.take n t)
theorem cH.drop:∀{xs:List V}{us:List Value}(n:Nat),cH xs us→cH (xs.drop n) (us.drop n)
 |_,_,0,r=>r
 |_,_,_+1,.nil=> .nil
 |_,_,n+1,.cons _ t=>cH.drop n t
noncomputable def gC:Option V→Option Value→Prop
 |some v,some u=>cA v u
 |none,none=>True
 |_,_=>False
noncomputable def KV {dt:Type}:List (dt×V)→List (dt×Value)→Prop:=Paired λ(p:dt×V) (q:dt×Value)=>p.1=q.1∧cA p.2 q.2
noncomputable def kV:Key→V
 | .inl i=> .int i
 | .inr x=> .str x
inductive HO where
 |lst (xs:List V)
 |tup (xs:List V)
 |dK (kvs:List (Key×V))|dT (kvs:List (List Key×V))
 |set (S:Int→Bool) (n:Nat)
 |ins (C bu:Addr) (fs:List (Str×V))
 |own (x:Addr)
 |xd (fs:List (Str×V))
 |met (f x:Addr)
 |rng (lo hi:Int)
 |frz (o:Obj) (u:HO)
 |tbl (b1:Array Value)
 |ext (lX:Heap→Prop)
noncomputable abbrev Hp:=Addr→Option HO
noncomputable def upd (H:Hp) (a:Addr) (o:HO):Hp:=λb=>if b=a then some o else H b
theorem Zd{H:Hp}{a:Addr}{o:HO}:upd H a o a=some o:=by unfold upd;rw[if_pos rfl]
theorem bW{H:Hp}{a b:Addr}{o:HO}(h:b≠a):upd H a o b=H b:=by unfold upd;rw[if_neg h]
theorem fc{H:Hp}{a b:Addr}{o u:HO}(h:H a=some o)(h':H b=some u)(d:o≠u):a≠b:=by
 intro e;subst e;rw[h] at h';exact d (Q2 h')
theorem cT{H:Hp}{a b:Addr}{o:HO}(h:H a=some o)(h':H b=none):a≠b:=by
 intro e;subst e;rw[h] at h';cases h'
section
variable (P:Program)(w:World)
noncomputable def ZW (H:Hp) (h:Heap) (a:Addr):HO→Prop
 | .lst xs=>xs.length≤sizeLine∧∃(its:List Value)(n:Nat),cH xs its∧h.get? a=some {cls:= .type "list",data:= .seq its.toArray n}
 | .tup xs=>xs.length≤sizeLine∧∃its:List Value,cH xs its∧IsTup h a its.toArray
 | .dK kvs=>kvs.length≤sizeLine∧(a==sysModules)=false∧∃vs,KV kvs vs∧h.DictOf (dZ P w) a vs
 | .dT kvs=>kvs.length≤sizeLine∧(a==sysModules)=false∧∃xs:List (List Key×Addr×Value),
   Paired (λ(p:List Key×V) (q:List Key×Addr×Value)=>p.1=q.1∧H q.2.1=some (.tup (p.1.map kV))∧cA p.2 q.2.2) kvs xs∧
   ∃o bx ep,h.get? a=some o∧o.ExactDict∧o.data= .dict bx ep∧bx.toList=xs.map (entryOfKey (tupleKind (dZ P w)))∧(xs.map (·.1)).Nodup
 | .set S n=>h.SetOf (intKind P w) a S n
 | .ins C bu fs=>H bu=some (.own a)∧fs.length≤1000∧bu≠a∧h.get? a=some (instObj C bu)∧
   ∃dN,h.Ns1 bu dN∧(∀f,gC (fs.lookup f) (dN f))∧PySem.Within dN (fs.map (·.1))
 | .own _=>∃o,h.get? a=some o
 | .xd fs=>∃dN,h.Ns1 a dN∧∀f,gC (fs.lookup f) (dN f)
 | .rng lo hi=>∃t u v,h.get? a=some {cls:= .type "range",data:= .fields #[.int lo t,.int hi u,.int 1 v]}
 | .frz o u=>h.get? a=some o∧ZW H h a u
 | .tbl b1=>h.get? a=some {cls:= .none,data:= .fields b1}
 | .met f x=>h.get? a=some (methodObj (.ref f) (.ref x))
 | .ext lX=>lX h∧(∃o,h.get? a=some o)∧∀ap a':Heap,lX ap→(∀o,ap.get? a=some o→a'.get? a=some o)→lX a'
def HOk(H:Hp)(h:Heap):Prop:=∀a o,H a=some o→ZW P w H h a o
end
section
variable {P:Program}{w:World}{H ae:Hp}{h h':Heap}{a:Addr}{o:HO}
theorem ZW.lt(x:ZW P w H h a o):a<h.objs.size:=by
 cases o with
 |lst xs=>obtain⟨_,_,_,_,e⟩:=x;exact Heap.lt_size e
 |tup xs=>obtain⟨_,_,_,p⟩:=x;exact p.lt
 |dK kvs=>obtain⟨_,_,_,_,o,_,_,e,_⟩:=x;exact Heap.lt_size e
 |dT kvs=>obtain⟨_,_,_,_,o,_,_,e,_⟩:=x;exact Heap.lt_size e
 |set S n=>obtain⟨o,_,_,_,e,_⟩:=x;exact Heap.lt_size e
 |ins C bu fs=>obtain⟨_,_,_,e,_⟩:=x;exact Heap.lt_size e
 |own y=>obtain⟨_,e⟩:=x;exact Heap.lt_size e
 |xd fs=>obtain⟨_,⟨_,_,_,e,_⟩,_⟩:=x;exact Heap.lt_size e
 |rng lo hi=>obtain⟨_,_,_,e⟩:=x;exact Heap.lt_size e
 |frz cx u=>obtain⟨e,_⟩:=x;exact Heap.lt_size e
 |tbl b1=>exact Heap.lt_size (show h.get? a=some _ from x)
 |met f y=>exact Heap.lt_size (show h.get? a=some _ from x)
 |ext lX=>obtain⟨_,⟨_,e⟩,_⟩:=x;exact Heap.lt_size e
theorem Paired.mapP{cJ fX:Type}{F G:cJ→fX→Prop}:∀{w0:List cJ}{l₂:List fX},Paired F w0 l₂→(∀a b,F a b→G a b)→Paired G w0 l₂
 |_,_,.nil,_=> .nil
 |_,_,.cons r t,f=> .cons (f _ _ r) (Paired.mapP t f)
theorem ZW.stay(x:ZW P w H h a o)(k:∀b u,(b=a∨H b=some (.own a))→h.get? b=some u→h'.get? b=some u)
  (bC:∀b,H b=some (.own a)→ae b=some (.own a)) (b3:∀b xs,H b=some (.tup xs)→ae b=some (.tup xs)):ZW P w ae h' a o:=by
 induction o with
 |lst xs=>obtain⟨z,its,n,r,e⟩:=x;exact⟨z,its,n,r,k _ _ (.inl rfl) e⟩
 |tup xs=>obtain⟨z,its,r,cx,e,c⟩:=x;exact⟨z,its,r,cx,k _ _ (.inl rfl) e,c⟩
 |dK kvs=>obtain⟨z,y,vs,r,cx,bx,ep,e,c⟩:=x;exact⟨z,y,vs,r,cx,bx,ep,k _ _ (.inl rfl) e,c⟩
 |dT kvs=>
  obtain⟨z,y,xs,r,cx,bx,ep,e,c⟩:=x;exact⟨z,y,xs,Paired.mapP r λp q z=>⟨z.1,b3 _ _ z.2.1,z.2.2⟩,cx,bx,ep,k _ _ (.inl rfl) e,c⟩
 |set S n=>obtain⟨cx,bx,ep,t,e,c⟩:=x;exact⟨cx,bx,ep,t,k _ _ (.inl rfl) e,c⟩
 |ins C bu fs=>
  obtain⟨d,z,ne,e,dN,⟨dO,bx,ep,bI,c⟩,r⟩:=x;exact⟨bC _ d,z,ne,k _ _ (.inl rfl) e,dN,⟨dO,bx,ep,k _ _ (.inr d) bI,c⟩,r⟩
 |own y=>obtain⟨cx,e⟩:=x;exact⟨cx,k _ _ (.inl rfl) e⟩
 |xd fs=>obtain⟨dN,⟨dO,bx,ep,e,c⟩,r⟩:=x;exact⟨dN,⟨dO,bx,ep,k _ _ (.inl rfl) e,c⟩,r⟩
 |rng lo hi=>obtain⟨t,u,v,e⟩:=x;exact⟨t,u,v,k _ _ (.inl rfl) e⟩
 |frz cx u bM=>obtain⟨e,q⟩:=x;exact⟨k _ _ (.inl rfl) e,bM q⟩
 |tbl b1=>
  have e:h.get? a=some {cls:= .none,data:= .fields b1}:=x;show h'.get? a=some {cls:= .none,data:= .fields b1};exact k a _ (.inl rfl) e
 |met f y=>
  have e:h.get? a=some (methodObj (.ref f) (.ref y)):=x;show h'.get? a=some (methodObj (.ref f) (.ref y));exact k a _ (.inl rfl) e
 |ext lX=>obtain⟨p,⟨o,e⟩,st⟩:=x;exact⟨st _ _ p λo q=>k _ _ (.inl rfl) q,⟨o,k _ _ (.inl rfl) e⟩,st⟩
theorem HOk.lt(x:HOk P w H h)(e:H a=some o):a<h.objs.size:=(x a o e).lt
theorem HOk.fresh(x:HOk P w H h)(e:h.objs.size≤a):H a=none:=by
 cases q:H a with
 |none=>rfl
 |some u=>exact absurd (QU (x.lt q) e) (RU _)
theorem HOk.kept(x:HOk P w H h)(k:∀b u,h.get? b=some u→h'.get? b=some u):HOk P w H h':=λa o e=>
 (x a o e).stay (λb u _ q=>k b u q) (λ_ q=>q) λ_ _ q=>q
theorem HOk.laid(x:HOk P w H h)(k:∀b u,h.get? b=some u→h'.get? b=some u)(bz:h.objs.size≤a)(new:ZW P w (upd H a o) h' a o):HOk P w (upd H a o) h':=λb u e=>by
 have bG:=x.fresh bz
 by_cases ao:b=a
 ·subst ao;rw[Zd] at e;cases e;exact new
 ·rw[bW ao] at e;exact(x b u e).stay (λc v _ q=>k c v q) (λc q=>by rw[bW (cT q bG)];exact q) λc xs q=>by rw[bW (cT q bG)];exact q
end
def Rd(H:Hp)(a:Addr)(u:HO):Prop:=H a=some u∨∃o,H a=some (.frz o u)
theorem Rd.ok{P:Program}{w:World}{H:Hp}{h:Heap}{a:Addr}{u:HO}(r:Rd H a u)(x:HOk P w H h):ZW P w H h a u:=by
 rcases r with r|⟨o,r⟩
 ·exact x a u r
 ·obtain⟨_,q⟩:=x a _ r;exact q
noncomputable def Mut:Option HO→Prop
 |some (.lst _)=>True
 |some (.dK _)=>True
 |some (.dT _)=>True
 |some (.set _ _)=>True
 |some (.ins _ _ _)=>True
 |some (.ext _)=>True
 |_=>False
section
variable {P:Program}{w:World}{H:Hp}{h h':Heap}{x e:Addr}{ci:HO}
theorem HOk.write(ok:HOk P w H h)(hM:Mut (H x))(bH:e=x∨H e=some (.own x))(k:∀b u,b≠e→h.get? b=some u→h'.get? b=some u)(j0:∃u,h'.get? e=some u)
  (new:ZW P w (upd H x ci) h' x ci):HOk P w (upd H x ci) h':=λb u q=>by
 have w1:∀c y,H c=some (.own y)→c≠x:=λc y r z=>by subst z;rw[r] at hM;exact hM
 have CV:∀c xs,H c=some (.tup xs)→c≠x:=λc xs r z=>by subst z;rw[r] at hM;exact hM
 by_cases ao:b=x
 ·subst ao;rw[Zd] at q;cases q;exact new
 ·rw[bW ao] at q
  by_cases j1:b=e
  ·have g7:H b=some (.own x):=by
    rcases bH with z|z
    ·exact absurd (j1.trans z) ao
    ·rw[j1];exact z
   rw[q] at g7;cases g7;obtain⟨v,b8⟩:=j0;exact⟨v,by rw[j1];exact b8⟩
  ·refine(ok b u q).stay (λc v br r=>k c v ?_ r) (λc r=>by rw[bW (w1 c b r)];exact r) λc xs r=>by rw[bW (CV c xs r)];exact r
   rcases br with rfl|br
   ·exact j1
   ·rintro rfl;rcases bH with z|z
    ·exact w1 c b br z
    ·rw[br] at z;cases z;exact ao rfl
end
structure Un(fs ex:List Addr)(H ae:Hp)(h h':Heap):Prop where
 keep:∀b o,h.get? b=some o→H b=none→b∉fs→b∉ex→h'.get? b=some o
 slot:∀b o,h.get? b=some o→H b=none→b∈fs→b∉ex→∃sl,h'.get? b=some {o with slots:=sl}
 free:∀b o,h.get? b=some o→H b=none→b∉ex→ae b=none
 there:∀b o,h.get? b=some o→b∉ex→∃ci,h'.get? b=some ci
 tups:∀b xs,H b=some (.tup xs)→ae b=some (.tup xs)
 frzs:∀b o u,H b=some (.frz o u)→ae b=some (.frz o u)
 tbls:∀b b1,H b=some (.tbl b1)→∃more,ae b=some (.tbl (b1++more))
section
variable {fs qR ex OI:List Addr}{H ax bo:Hp}{h ap a' h':Heap}{a x e:Addr}{o:HO}
theorem Un.any(u:Un fs ex H ax h ap){b:Addr}{cx:Obj}(q:h.get? b=some cx)(n:H b=none)(a_:b∉ex):∃sl,ap.get? b=some {cx with slots:=sl}:=by
 by_cases ao:b∈fs
 ·exact u.slot b cx q n ao a_
 ·exact⟨cx.slots,u.keep b cx q n ao a_⟩
theorem Un.kept(k:∀b u,h.get? b=some u→h'.get? b=some u):Un fs ex H H h h':=
 ⟨λb cx q _ _ _=>k b cx q,λb cx q _ _ _=>⟨cx.slots,k b cx q⟩,λ_ _ _ n _=>n,λb cx q _=>⟨cx,k b cx q⟩,λ_ _ q=>q,λ_ _ _ q=>q,λ_ b1 q=>⟨#[],by rw[q];simp⟩⟩
theorem Un.refl:Un fs ex H H h h:=Un.kept λ_ _ q=>q
theorem Un.laid(k:∀b u,h.get? b=some u→h'.get? b=some u)(bz:h.objs.size≤a)(bG:H a=none):Un fs ex H (upd H a o) h h' where
 keep:=λb u q _ _ _=>k b u q
 slot:=λb u q _ _ _=>⟨u.slots,k b u q⟩
 free:=λb u q n _=>by rw[bW (Q0 (QU (Heap.lt_size q) bz))];exact n
 there:=λb u q _=>⟨u,k b u q⟩
 tups:=λb xs q=>by rw[bW (cT q bG)];exact q
 frzs:=λb u xs q=>by rw[bW (cT q bG)];exact q
 tbls:=λb b1 q=>⟨#[],by rw[bW (cT q bG),q];simp⟩
theorem Un.write(hM:Mut (H x))(bH:e=x∨H e=some (.own x))(k:∀b u,b≠e→h.get? b=some u→h'.get? b=some u)(j0:∃u,h'.get? e=some u):Un fs ex H (upd H x o) h h':=by
 have a_:∀b,H b=none→b≠x:=λb n z=>by subst z;rw[n] at hM;exact hM
 have ao:∀b,H b=none→b≠e:=λb n z=>by
  subst z;rcases bH with r|r
  ·exact a_ b n r
  ·rw[n] at r;cases r
 have bv:∀b u,H b=some u→¬Mut (some u)→b≠x:=λb u q nm z=>by subst z;rw[q] at hM;exact nm hM
 refine⟨λb u q n _ _=>k b u (ao b n) q,λb u q n _ _=>⟨u.slots,k b u (ao b n) q⟩,λb u q n _=>by rw[bW (a_ b n)];exact n,λb u q _=>?_,
  λb xs q=>by rw[bW (bv b _ q λz=>z)];exact q,λb u xs q=>by rw[bW (bv b _ q λz=>z)];exact q,λb b1 q=>⟨#[],by rw[bW (bv b _ q λz=>z),q];simp⟩⟩
 by_cases j1:b=e
 ·subst j1;exact j0
 ·exact⟨u,k b u j1 q⟩
end
noncomputable def trk (h:Heap) (H:Hp):List Addr:=(List.range h.objs.size).filter λa=>(H a).isSome
noncomputable def j2 (h:Heap) (H:Hp):Heap:=hideAll h (trk h H)
theorem CW(h:Heap)(H:Hp):(j2 h H).objs.size=h.objs.size:=PySem.W.hideAll_size _ _
theorem ZkJ{h:Heap}{H:Hp}{b:Addr}{o:Obj}(e:h.get? b=some o)(n:H b=none):(j2 h H).get? b=some o:=
 hideAll_get _ e λbv=>by
  have q:(H b).isSome=true:=(Ro.mp bv).2;rw[n] at q;simp at q
theorem Zl2{h:Heap}{H:Hp}{b:Addr}{o:Obj}(e:(j2 h H).get? b=some o):h.get? b=some o∧H b=none:=by
 have b6:h.get? b=some o:=of_hideAll (trk h H) e;refine⟨b6,?_⟩;cases q:H b with
 |none=>rfl
 |some x=>
  have bv:b∈trk h H:=Ro.mpr ⟨Rc.mpr (Heap.lt_size b6),by simp[q]⟩;have z:(j2 h H).get? b=none:=PySem.W.hideAll_none (trk h H) bv;rw[z] at e;cases e
structure Mod(K:Frag)(mg:Str→Option Value)(base:Heap):Prop where
 kin:K.In base
 glob:base.Ns mainGlobals mg
 blt:∃iK,base.Ns builtinsNs iK∧∀x:Str,x≠"__name__" →iK x=bootBuiltins x
 nolimit:base.NoLimit
structure Cx where
 prog:Program
 w:World
 K:Frag
 mg:Str→Option Value
 base:Heap
 A:Around
 N:List Str
 s₀:Shared
 H₀:Hp
 env:Env
 outer:List Env
 stack:List Env
 ex:List Addr
 fn:Str→Bool
 calm:Bool
 pn:List (Addr×Obj)
 xe:Value→Shared→Prop
noncomputable def frs (l:List Env):List Addr:=l.filterMap (·.frame)
noncomputable abbrev Cx.fs (X:Cx):List Addr:=frs X.outer
def Vis(b4:Scope)(x:Str):Prop:=b4.names.lookup x=some .local∨b4.names.lookup x=some .cell∨b4.names.lookup x=some .free
def Loc(b4:Scope)(x:Str):Prop:=b4.names.lookup x=some .local∨b4.names.lookup x=some .cell
def ZmY(env:Env)(h:Heap)(m:Str→Option Value)(x:Str)(u:Value):Prop:=
 (env.kindOf x=some .local∧m x=some u)∨((env.kindOf x=some .cell∨env.kindOf x=some .free)∧∃c,env.cells.lookup x=some c∧h.IsCell c (some u))
structure Cx.Ok(X:Cx):Prop where
 mod:Mod X.K X.mg X.base
 kind:X.env.scope.kind= .function
 glob:X.env.globals=mainGlobals
 blt:X.env.builtins=builtinsNs
 above:X.s₀.heap.objs.size≤X.env.locals
 inj:∀x y c,X.env.cells.lookup x=some c→X.env.cells.lookup y=some c→x=y
 has:∀x,(X.env.kindOf x=some .cell∨X.env.kindOf x=some .free)→∃c,X.env.cells.lookup x=some c
 cab:∀x c,X.fn x=true→X.env.cells.lookup x=some c→X.s₀.heap.objs.size≤c
 hd:X.calm=true→X.A.handled=none
 frames:X.A.frames=some X.stack
 stk:X.stack=X.outer∨(X.stack=X.env::X.outer∧X.env.frame=some X.env.locals)
 exf:∀b∈X.ex,b≠X.env.locals∧∀x c,X.env.cells.lookup x=some c→c≠b
 bs:∀b o,X.base.get? b=some o→X.s₀.heap.get? b=some o∧X.H₀ b=none
 bsz:X.base.objs.size≤X.s₀.heap.objs.size
 noex:∀b o,X.base.get? b=some o→b∉X.ex
 exfs:∀b∈X.ex,b∉X.fs
 funs:X.s₀.heap.FunFrames X.base X.outer
 frf:∀b∈X.fs,X.H₀ b=none
structure Inv(X:Cx)(ah:List (Addr×Obj))(af:List (Option V))(H:Hp)(s:Shared):Prop where
 ok:X.Ok
 os:s.os=X.s₀.os
 bare:AllBare s.gens
 base:Un X.fs X.ex X.H₀ H X.s₀.heap s.heap
 loc:∃m,s.heap.Ns X.env.locals m∧∀(i:Nat)(x:Str)(v:V),X.N[i]? =some x→af[i]? =some (some v)→Vis X.env.scope x→∃u,cA v u∧ZmY X.env s.heap m x u
 cell:∀x c,X.env.cells.lookup x=some c→∃v,s.heap.IsCell c v
 free:H X.env.locals=none
 freeC:∀x c,X.env.cells.lookup x=some c→H c=none
 pin:∀p∈X.pn++ah,s.heap.get? p.1=some p.2∧H p.1=none∧p.1≠X.env.locals∧p.1∉X.fs∧∀v,p.2.data≠ .cell v
 hok:HOk X.prog X.w H s.heap
 len:af.length=X.N.length
section
variable {X:Cx}{ah:List (Addr×Obj)}{af:List (Option V)}{H ae:Hp}{s:Shared}{h':Heap}
theorem Cx.Ok.nofr(ok:X.Ok){b:Addr}{o:Obj}(e:X.base.get? b=some o):b∉X.fs:=λao=>by
 have:=(ok.funs.mem ao).1;rw[e] at this;cases this
theorem Inv.bs(I:Inv X ah af H s):∀b o,X.base.get? b=some o→s.heap.get? b=some o∧H b=none:=λb o e=>
 ⟨I.base.keep b o (I.ok.bs b o e).1 (I.ok.bs b o e).2 (I.ok.nofr e) (I.ok.noex b o e),I.base.free b o (I.ok.bs b o e).1 (I.ok.bs b o e).2 (I.ok.noex b o e)⟩
theorem Inv.bk(I:Inv X ah af H s):∀b o,X.base.get? b=some o→s.heap.get? b=some o:=λb o e=>(I.bs b o e).1
theorem Inv.mod(I:Inv X ah af H s):Mod X.K X.mg X.base:=I.ok.mod
theorem Inv.kIn(I:Inv X ah af H s):X.K.In s.heap:=I.ok.mod.kin.keeps I.bk
theorem Inv.lt(I:Inv X ah af H s):X.env.locals<s.heap.objs.size:=let⟨_,bG,_⟩:=I.loc;bG.lt
theorem Inv.sz(I:Inv X ah af H s):X.s₀.heap.objs.size≤s.heap.objs.size:=QZ I.ok.above (RW I.lt)
theorem Inv.nofs(I:Inv X ah af H s){a:Addr}(h:s.heap.objs.size≤a):a∉X.fs:=λao=>by
 obtain⟨_,o,bC,_⟩:=I.ok.funs.mem ao;exact absurd (QU (Heap.lt_size bC) (QZ I.sz h)) (RU _)
theorem Inv.cne(I:Inv X ah af H s):∀x c,X.env.cells.lookup x=some c→c≠X.env.locals:=λx c e z=>by
 obtain⟨v,o,bC,hd⟩:=I.cell x c e;obtain⟨m,⟨ci,bx,ep,j3,gD,_⟩,_⟩:=I.loc;rw[z,j3] at bC;cases bC;rw[gD] at hd;cases hd
theorem Inv.funs(I:Inv X ah af H s):s.heap.FunFrames X.base X.outer:=by
 have all:∀(l:List Env),(∀b∈frs l,b∈X.fs)→X.s₀.heap.FunFrames X.base l→s.heap.FunFrames X.base l:=by
  intro l
  induction l with
  |nil=>intro _ _;trivial
  |cons env r bM=>
   intro hs ag;obtain⟨bp,⟨L,o,bE,bG,bC,hd⟩,bn⟩:=ag;have hN:L∈X.fs:=hs L (by unfold frs;rw[List.filterMap_cons,bE];exact R0);obtain⟨sl,e⟩:=I.base.slot L o bC (I.ok.frf L hN) hN λz=>I.ok.exfs L z hN;exact⟨bp,⟨L,_,bE,bG,e,hd⟩,bM (λb ao=>hs b (by unfold frs;rw[List.filterMap_cons,bE];exact Q7 _ ao)) bn⟩
 exact all X.outer (λ_ ao=>ao) I.ok.funs
theorem Inv.stack(I:Inv X ah af H s):s.heap.FunFrames X.base X.stack:=by
 rcases I.ok.stk with e|⟨e,bE⟩
 ·rw[e];exact I.funs
 ·rw[e];obtain⟨m,bG,_⟩:=I.loc;refine .cons (by rw[I.ok.kind];decide) bE bG ?_ I.funs;exact Heap.get?_none_of_le (QZ I.ok.bsz I.ok.above)
theorem Inv.stkSub(I:Inv X ah af H s):∀b∈frs X.stack,b∈X.env.locals::X.fs:=λb ao=>by
 rcases I.ok.stk with e|⟨e,bE⟩
 ·rw[e] at ao;exact Q7 _ ao
 ·rw[e] at ao;unfold frs at ao;rw[List.filterMap_cons,bE] at ao;exact ao
theorem Inv.stkFree(I:Inv X ah af H s):∀b∈frs X.stack,H b=none:=λb ao=>by
 rcases QW.mp (I.stkSub b ao) with e|ao
 ·rw[e];exact I.free
 ·obtain⟨_,o,bC,_⟩:=I.ok.funs.mem ao;exact I.base.free b o bC (I.ok.frf b ao) λz=>I.ok.exfs b z ao
theorem Inv.step{g':Array GenState}{t':Nat}{d':Drawn}{ch:List Addr}(I:Inv X ah af H s)
  (jz:∀b∈ch,(b∈X.ex∨X.s₀.heap.objs.size≤b)∧b≠X.env.locals∧(∀x c,X.env.cells.lookup x=some c→c≠b)∧∀p∈X.pn++ah,p.1≠b)
  (keep:∀b o,b≠X.env.locals→b∉X.fs→b∉ch→s.heap.get? b=some o→H b=none→h'.get? b=some o)
  (slot:∀b o,b≠X.env.locals→b∈X.fs→b∉ch→s.heap.get? b=some o→H b=none→∃sl,h'.get? b=some {o with slots:=sl}) (free:∀b o,b∉ch→s.heap.get? b=some o→H b=none→ae b=none)
  (there:∀b o,b∉ch→s.heap.get? b=some o→∃ci,h'.get? b=some ci)
  (tups:∀b xs,H b=some (.tup xs)→ae b=some (.tup xs)) (frzs:∀b o u,H b=some (.frz o u)→ae b=some (.frz o u)) (tbls:∀b b1,H b=some (.tbl b1)→∃more,ae b=some (.tbl (b1++more)))
  (ns:∀m,s.heap.Ns X.env.locals m→h'.Ns X.env.locals m) (hok:HOk X.prog X.w ae h') (bF:AllBare g'):
  Inv X ah af ae {s with heap:=h',gens:=g',drawn:=d',toks:=t'}:=by
 have m_:∀b o,X.s₀.heap.get? b=some o→b≠X.env.locals:=λb o e=>Q0 (QU (Heap.lt_size e) I.ok.above);have qS:∀b o,X.s₀.heap.get? b=some o→b∉X.ex→b∉ch:=λb o e a_ ao=>by
  rcases(jz b ao).1 with z|z
  ·exact a_ z
  ·exact absurd (QU (Heap.lt_size e) z) (RU _)
 have w2:∀x c,X.env.cells.lookup x=some c→∀v,s.heap.IsCell c v→h'.IsCell c v:=λx c e v ⟨o,bC,hd⟩=>by
  have ow:c∉ch:=λz=>(jz c z).2.2.1 x c e rfl
  by_cases br:c∈X.fs
  ·obtain⟨sl,q⟩:=slot c o (I.cne x c e) br ow bC (I.freeC x c e);exact⟨_,q,hd⟩
  ·exact⟨o,keep c o (I.cne x c e) br ow bC (I.freeC x c e),hd⟩
 refine⟨I.ok,I.os,bF,⟨λb o e n ao a_=>?_,λb o e n ao a_=>?_,λb o e n a_=>?_,λb o e a_=>?_,λb xs e=>tups b xs (I.base.tups b xs e),λb o xs e=>frzs b o xs (I.base.frzs b o xs e),λb b1 e=>?_⟩,?_,λx c e=>?_,?_,λx c e=>?_,λp bz=>?_,hok,I.len⟩
 ·exact keep b o (m_ b o e) ao (qS b o e a_) (I.base.keep b o e n ao a_) (I.base.free b o e n a_)
 ·obtain⟨sl,bD⟩:=I.base.slot b o e n ao a_;obtain⟨ox,bI⟩:=slot b _ (m_ b o e) ao (qS b o e a_) bD (I.base.free b o e n a_);exact⟨ox,bI⟩
 ·obtain⟨ci,bD⟩:=I.base.there b o e a_;exact free b ci (qS b o e a_) bD (I.base.free b o e n a_)
 ·obtain⟨ci,bD⟩:=I.base.there b o e a_;exact there b ci (qS b o e a_) bD
 ·obtain⟨fe,bD⟩:=I.base.tbls b b1 e;obtain⟨fY,bI⟩:=tbls b _ bD;exact⟨fe++fY,by rw[bI,Array.append_assoc]⟩
 ·obtain⟨m,bG,ag⟩:=I.loc;refine⟨m,ns m bG,λi x v bD bI c6=>?_⟩;obtain⟨u,r,l⟩:=ag i x v bD bI c6;refine⟨u,r,?_⟩;rcases l with l|⟨k,c,e,z⟩
  ·exact .inl l
  ·exact .inr ⟨k,c,e,w2 x c e _ z⟩
 ·obtain⟨v,z⟩:=I.cell x c e;exact⟨v,w2 x c e v z⟩
 ·obtain⟨m,⟨o,_,_,bC,_⟩,_⟩:=I.loc;exact free _ o (λz=>(jz _ z).2.1 rfl) bC I.free
 ·obtain⟨v,o,bC,hd⟩:=I.cell x c e;exact free c o (λz=>(jz c z).2.2.1 x c e rfl) bC (I.freeC x c e)
 ·obtain⟨e,n,ne,kW,d⟩:=I.pin p bz;have ow:p.1∉ch:=λz=>(jz p.1 z).2.2.2 p bz rfl;exact⟨keep p.1 p.2 ne kW ow e n,free p.1 p.2 ow e n,ne,kW,d⟩
theorem Inv.un{t':Nat}(I:Inv X ah af H s)(u:Un X.fs [] H ae s.heap h')(hok:HOk X.prog X.w ae h'):Inv X ah af ae {s with heap:=h',toks:=t'}:=by
 obtain⟨m,⟨o,bx,ep,bC,r⟩,_⟩:=id I.loc;obtain⟨sl,hN⟩:=u.any bC I.free (by simp);exact I.step (g':=s.gens) (d':=s.drawn) (ch:=[]) (λ_ z=>nomatch z) (λb o _ ao _ e n=>u.keep b o e n ao (by simp)) (λb o _ ao _ e n=>u.slot b o e n ao (by simp)) (λb o _ e n=>u.free b o e n (by simp)) (λb o _ e=>u.there b o e (by simp)) u.tups u.frzs u.tbls (λcn bv=>by
  obtain⟨ci,s1,s2,j3,cY⟩:=bv;rw[bC] at j3;cases j3;exact⟨_,s1,s2,hN,cY⟩) hok I.bare
theorem Inv.call{g':Array GenState}{t':Nat}{d':Drawn}{ch:List Addr}(I:Inv X ah af H s)(u:Un (frs X.stack) ch H ae s.heap h')(hok:HOk X.prog X.w ae h')(bF:AllBare g')
  (jz:∀b∈ch,(b∈X.ex∨X.s₀.heap.objs.size≤b)∧b≠X.env.locals∧(∀x c,X.env.cells.lookup x=some c→c≠b)∧∀p∈X.pn++ah,p.1≠b):
  Inv X ah af ae {s with heap:=h',gens:=g',drawn:=d',toks:=t'}:=by
 obtain⟨m,⟨o,bx,ep,bC,r⟩,_⟩:=id I.loc;obtain⟨sl,hN⟩:=u.any bC I.free λz=>(jz _ z).2.1 rfl;exact I.step (ch:=ch) jz (λb o hN ao br e n=>u.keep b o e n (λz=>(QW.mp (I.stkSub b z)).elim hN ao) br) (λb o _ _ br e n=>u.any e n br) (λb o br e n=>u.free b o e n br) (λb o br e=>u.there b o e br) u.tups u.frzs u.tbls (λcn bv=>by
  obtain⟨ci,s1,s2,j3,cY⟩:=bv;rw[bC] at j3;cases j3;exact⟨_,s1,s2,hN,cY⟩) hok bF
theorem Inv.turned{t':Nat}{it:Addr}(I:Inv X ah af H s)(k:∀b o,b≠it→s.heap.get? b=some o→h'.get? b=some o)(bG:H it=none)(hN:it≠X.env.locals)
  (ap:it∈X.ex∨X.s₀.heap.objs.size≤it) (a':∀x c,X.env.cells.lookup x=some c→c≠it) (bU:∀p∈X.pn++ah,p.1≠it):Inv X ah af H {s with heap:=h',toks:=t'}:=by
 have oy:∀b u,H b=some u→b≠it:=λb u e z=>by rw[z,bG] at e;cases e
 refine I.step (g':=s.gens) (d':=s.drawn) (ch:=[it]) (λb ao=>?_) (λb o _ _ br e _=>k b o (λz=>br (by simp[z])) e) (λb o _ _ br e _=>⟨o.slots,k b o (λz=>br (by simp[z])) e⟩) (λ_ _ _ _ n=>n)
  (λb o br e=>⟨o,k b o (λz=>br (by simp[z])) e⟩) (λ_ _ e=>e) (λ_ _ _ e=>e) (λb b1 e=>⟨#[],by rw[e];simp⟩) (λm bv=>?_) (λb u e=>?_) I.bare
 ·have e:b=it:=by simpa using ao
  subst e;exact⟨ap,hN,a',bU⟩
 ·obtain⟨o,bx,ep,bC,r⟩:=bv;exact⟨o,bx,ep,k _ o (qao hN) bC,r⟩
 ·refine(I.hok b u e).stay (λc v br q=>k c v ?_ q) (λ_ q=>q) λ_ _ q=>q;rcases br with z|z
  ·rw[z];exact oy b u e
  ·exact oy c _ z
theorem Inv.tok(I:Inv X ah af H s)(t:Nat):Inv X ah af H {s with toks:=t}:=I.un (h':=s.heap) (t':=t) Un.refl I.hok
theorem Inv.kept{t':Nat}(I:Inv X ah af H s)(k:∀b u,s.heap.get? b=some u→h'.get? b=some u):Inv X ah af H {s with heap:=h',toks:=t'}:=I.un (Un.kept k) (I.hok.kept k)
theorem Inv.laid{a:Addr}{o:HO}{t':Nat}(I:Inv X ah af H s)(k:∀b u,s.heap.get? b=some u→h'.get? b=some u)(bz:s.heap.objs.size≤a)(new:ZW X.prog X.w (upd H a o) h' a o):
  Inv X ah af (upd H a o) {s with heap:=h',toks:=t'}:=I.un (Un.laid k bz (I.hok.fresh bz)) (I.hok.laid k bz new)
theorem Inv.write{x e:Addr}{o:HO}{t':Nat}(I:Inv X ah af H s)(hM:Mut (H x))(bH:e=x∨H e=some (.own x))(k:∀b u,b≠e→s.heap.get? b=some u→h'.get? b=some u)(j0:∃u,h'.get? e=some u)
  (new:ZW X.prog X.w (upd H x o) h' x o):Inv X ah af (upd H x o) {s with heap:=h',toks:=t'}:=I.un (Un.write hM bH k j0) (I.hok.write hM bH k j0 new)
theorem Inv.pins_of{m':List (Addr×Obj)}(I:Inv X ah af H s)(h:∀p∈m',s.heap.get? p.1=some p.2∧H p.1=none∧p.1≠X.env.locals∧p.1∉X.fs∧∀v,p.2.data≠ .cell v):Inv X m' af H s:=
 ⟨I.ok,I.os,I.bare,I.base,I.loc,I.cell,I.free,I.freeC,λp bz=>(Rk.mp bz).elim (λz=>I.pin p (R3 _ z)) (h p),I.hok,I.len⟩
theorem s3{N:List Str}(dx:N.Nodup){i j:Nat}{x:Str}(a:N[i]? =some x)(b:N[j]? =some x):i=j:=by
 obtain⟨ap,bD⟩:=QP.mp a;obtain⟨a',bI⟩:=QP.mp b;exact(qam dx).mp (bD.trans bI.symm)
theorem s4{M:Model}{A:Around}{E:Value→Shared→Prop}{i:Nat}{x:Str}{v:V}{u:Value}{Q:Unit→Shared→Prop}(I:Inv X ah af H s)(dx:X.N.Nodup)(hi:X.N[i]? =some x)(a_:Loc X.env.scope x)(r:cA v u)
  (h:∀s',Inv X ah (af.set i (some v)) H s'→(∃a,Heap.SameBut a s.heap s'.heap∧(a=X.env.locals∨X.env.cells.lookup x=some a))→Q () s') (bE:X.fn x=true∨X.env.scope.names.lookup x=some .local:=by first|exact .inl rfl|exact .inr rfl|assumption):wpAny M A (storeName X.env x u) Q E s:=by
 obtain⟨m,bG,ag⟩:=id I.loc;have s5:(X.env.scope.kind== .class||(X.env.scope.kind== .module&&X.env.locals != X.env.globals))=false:=by rw[I.ok.kind];rfl
 have w3:i<af.length:=by rw[I.len];exact(QP.mp hi).1
 have cne:=I.cne;have w4:∀{a:Addr}{h':Heap},(∃o,s.heap.get? a=some o∧H a=none)→Heap.SameBut a s.heap h'→HOk X.prog X.w H h':=λ{a h'} bB hs b cx e=>by
  obtain⟨_,_,w5⟩:=bB;refine(I.hok b cx e).stay (λc dP br q=>(hs.2 c ?_).trans q) (λ_ q=>q) λ_ _ q=>q;rintro rfl;rcases br with rfl|br
  ·rw[w5] at e;cases e
  ·rw[w5] at br;cases br
 rcases a_ with bp|bp
 ·refine wpAny_storeName_local bp bG (λh' s6 hs=>?_) s5;obtain⟨CY,_,_,j4,_⟩:=id bG;refine h _ ⟨I.ok,I.os,I.bare,⟨λb o e n ao a_=>?_,λb o e n ao a_=>?_,I.base.free,λb o e a_=>?_,I.base.tups,I.base.frzs,I.base.tbls⟩,⟨_,s6,λj y jA bD bI c6=>?_⟩,λy c e=>?_,I.free,I.freeC,λp bz=>?_,w4 ⟨CY,j4,I.free⟩ hs,by simpa using I.len⟩ ⟨_,hs,.inl rfl⟩
  ·exact(hs.2 b (Q0 (QU (Heap.lt_size e) I.ok.above))).trans (I.base.keep b o e n ao a_)
  ·obtain⟨sl,bD⟩:=I.base.slot b o e n ao a_;exact⟨sl,(hs.2 b (Q0 (QU (Heap.lt_size e) I.ok.above))).trans bD⟩
  ·obtain⟨ci,bD⟩:=I.base.there b o e a_;exact⟨ci,(hs.2 b (Q0 (QU (Heap.lt_size e) I.ok.above))).trans bD⟩
  ·by_cases bw:j=i
   ·subst bw;rw[hi] at bD;cases bD;rw[RE w3] at bI;cases bI;exact⟨u,r,.inl ⟨bp,by simp⟩⟩
   ·rw[R4 (qao bw)] at bI;obtain⟨jB,cY,q⟩:=ag j y jA bD bI c6;refine⟨jB,cY,?_⟩;rcases q with⟨k,e⟩|⟨k,c,e,z⟩
    ·refine .inl ⟨k,?_⟩;have:y≠x:=λe=>bw (s3 dx bD (e▸hi));simp[this,e]
    ·exact .inr ⟨k,c,e,z.sameBut hs (cne y c e)⟩
  ·obtain⟨dP,z⟩:=I.cell y c e;exact⟨dP,z.sameBut hs (cne y c e)⟩
  ·obtain⟨e,n,ne,kW,d⟩:=I.pin p bz;exact⟨(hs.2 p.1 ne).trans e,n,ne,kW,d⟩
 ·have oz:X.fn x=true:=by
   rcases bE with z|z
   ·exact z
   ·rw[z] at bp;cases bp
  obtain⟨c,br⟩:=I.ok.has x (.inl bp);obtain⟨dP,z⟩:=I.cell x c br;refine wpAny_storeName_cell I.ok.kind bp br z (λh' jC hs=>?_);obtain⟨eO,w6,CZ⟩:=id z;refine h {s with heap:=h'} ⟨I.ok,I.os,I.bare,⟨λb o e n ao a_=>?_,λb o e n ao a_=>?_,I.base.free,λb o e a_=>?_,I.base.tups,I.base.frzs,I.base.tbls⟩,⟨m,bG.sameBut hs (qao (cne x c br)),λj y jA bD bI c6=>?_⟩,λy cR e=>?_,I.free,I.freeC,λp bz=>?_,w4 ⟨eO,w6,I.freeC x c br⟩ hs,by simpa using I.len⟩ ⟨c,hs,.inr br⟩
  ·exact(hs.2 b (Q0 (QU (Heap.lt_size e) (I.ok.cab x c oz br)))).trans (I.base.keep b o e n ao a_)
  ·obtain⟨sl,bD⟩:=I.base.slot b o e n ao a_;exact⟨sl,(hs.2 b (Q0 (QU (Heap.lt_size e) (I.ok.cab x c oz br)))).trans bD⟩
  ·obtain⟨ci,bD⟩:=I.base.there b o e a_;exact⟨ci,(hs.2 b (Q0 (QU (Heap.lt_size e) (I.ok.cab x c oz br)))).trans bD⟩
  ·by_cases bw:j=i
   ·subst bw;rw[hi] at bD;cases bD;rw[RE w3] at bI;cases bI;exact⟨u,r,.inr ⟨.inl bp,c,br,jC⟩⟩
   ·rw[R4 (qao bw)] at bI;obtain⟨jB,cY,q⟩:=ag j y jA bD bI c6;refine⟨jB,cY,?_⟩;rcases q with q|⟨k,cR,e,fZ⟩
    ·exact .inl q
    ·refine .inr ⟨k,cR,e,fZ.sameBut hs ?_⟩;rintro rfl;exact bw (s3 dx bD (I.ok.inj _ _ _ e br▸hi))
  ·by_cases na:cR=c
   ·subst na;exact⟨_,jC⟩
   ·obtain⟨gd,ff⟩:=I.cell y cR e;exact⟨gd,ff.sameBut hs na⟩
  ·obtain⟨e,n,ne,kW,d⟩:=I.pin p bz;refine⟨(hs.2 p.1 ?_).trans e,n,ne,kW,d⟩;intro q;rw[q,w6] at e;have g7:eO=p.2:=Q2 e;exact d dP (by rw[←g7];exact CZ)
theorem oG{M:Model}{A:Around}{E:Value→Shared→Prop}{i:Nat}{x:Str}{v:V}{u:Value}{Q:Unit→Shared→Prop}(I:Inv X ah af H s)(dx:X.N.Nodup)(hi:X.N[i]? =some x)(a_:Loc X.env.scope x)(r:cA v u)
  (h:∀s',Inv X ah (af.set i (some v)) H s'→Q () s') (bE:X.fn x=true∨X.env.scope.names.lookup x=some .local:=by first|exact .inl rfl|exact .inr rfl|assumption):wpAny M A (storeName X.env x u) Q E s:=
 s4 I dx hi a_ r (λs' d0 _=>h s' d0) bE
theorem Inv.call'{s':Shared}{ch:List Addr}(I:Inv X ah af H s)(bC:s'.os=s.os)(u:Un (frs X.stack) ch H ae s.heap s'.heap)(hok:HOk X.prog X.w ae s'.heap)(bF:AllBare s'.gens)
  (jz:∀b∈ch,(b∈X.ex∨X.s₀.heap.objs.size≤b)∧b≠X.env.locals∧(∀x c,X.env.cells.lookup x=some c→c≠b)∧∀p∈X.pn++ah,p.1≠b):Inv X ah af ae s':=by
 obtain⟨h',g',d',t',ci⟩:=s';have e:ci=s.os:=bC;subst e;exact I.call (g':=g') (t':=t') (d':=d') u hok bF jz
end
noncomputable abbrev XK:=Value→Option Addr→Hp→Prop
noncomputable abbrev St:=List (Option V)
noncomputable abbrev VK:=V→Hp→Prop
noncomputable abbrev TE:=St→Hp→VK→Prop
noncomputable abbrev TT:=St→Hp→(Bool→Hp→Prop)→Prop
noncomputable abbrev TA:=St→Hp→(List V→Hp→Prop)→Prop
structure W6 where
 nx:St→Hp→Prop
 rt:VK
 bk:St→Hp→Prop:=λ_ _=>False
 ct:St→Hp→Prop:=λ_ _=>False
noncomputable abbrev TS:=W6→St→Hp→Prop
def EP(X:Cx)(ah:List (Addr×Obj))(af:St)(Q:VK)(u:Value)(s':Shared):Prop:=∃v ae,Inv X ah af ae s'∧cA v u∧Q v ae
def TP(X:Cx)(ah:List (Addr×Obj))(af:St)(Q:Bool→Hp→Prop)(b:Bool)(s':Shared):Prop:=∃ae,Inv X ah af ae s'∧Q b ae
def AP(X:Cx)(ah:List (Addr×Obj))(af:St)(Q:List V→Hp→Prop)(us:List Value)(s':Shared):Prop:=∃vs ae,Inv X ah af ae s'∧cH vs us∧Q vs ae
def SP(X:Cx)(ah:List (Addr×Obj))(D:W6)(f:Flow)(s':Shared):Prop:=
 match f with
 | .next=>∃bQ ae,Inv X ah bQ ae s'∧D.nx bQ ae
 | .brk=>∃bQ ae,Inv X ah bQ ae s'∧D.bk bQ ae
 | .cont=>∃bQ ae,Inv X ah bQ ae s'∧D.ct bQ ae
 | .ret u=>∃v bQ ae,Inv X ah bQ ae s'∧cA v u∧D.rt v ae
def PE(X:Cx)(e:Expr)(t:TE):Prop:=
 ∀(ah:List (Addr×Obj))(s:Shared)(af:St)(H:Hp)(Q:VK),Inv X ah af H s→t af H Q→wpAny (model X.prog X.w) X.A (eval e X.env) (EP X ah af Q) X.xe s
def PT(X:Cx)(e:Expr)(t:TT):Prop:=
 ∀(ah:List (Addr×Obj))(s:Shared)(af:St)(H:Hp)(Q:Bool→Hp→Prop),Inv X ah af H s→t af H Q→wpAny (model X.prog X.w) X.A (isTrue e X.env (eval e X.env)) (TP X ah af Q) X.xe s
def PW(X:Cx)(e:Expr)(t:TT):Prop:=
 ∀(lY:Sem Value)(ah:List (Addr×Obj))(s:Shared)(af:St)(H:Hp)(Q:Bool→Hp→Prop),Inv X ah af H s→t af H Q→wpAny (model X.prog X.w) X.A (isTrue e X.env lY) (TP X ah af Q) X.xe s
theorem PW.pt{X:Cx}{e:Expr}{t:TT}(h:PW X e t):PT X e t:=h _
def PA(X:Cx)(bx:List Expr)(t:TA):Prop:=
 ∀(pos:Pos)(ah:List (Addr×Obj))(s:Shared)(af:St)(H:Hp)(Q:List V→Hp→Prop),Inv X ah af H s→t af H Q→wpAny (model X.prog X.w) X.A (spliced (backTo pos (starEach bx X.env))) (AP X ah af Q) X.xe s
def PS(X:Cx)(st:Stmt)(t:TS):Prop:=
 ∀(ah:List (Addr×Obj))(s:Shared)(af:St)(H:Hp)(D:W6),Inv X ah af H s→t D af H→wpAny (model X.prog X.w) X.A (exec st X.env) (SP X ah D) X.xe s
def PSs(X:Cx)(st:List Stmt)(t:TS):Prop:=
 ∀(ah:List (Addr×Obj))(s:Shared)(af:St)(H:Hp)(D:W6),Inv X ah af H s→t D af H→wpAny (model X.prog X.w) X.A (execs st X.env) (SP X ah D) X.xe s
theorem thn{cJ:Type}{t:Sem cJ}{Q oH:cJ→Shared→Prop}{M:Model}{A:Around}{E:Value→Shared→Prop}{s:Shared}(h:wpAny M A t Q E s)(e9:∀a s,Q a s→oH a s):wpAny M A t oH E s:=wpAny_mono h e9 λ_ _ x=>x
section
variable {X:Cx}
theorem bin{a b:Expr}{b0 cz:TE}(bB:PE X a b0)(ao:PE X b cz){ah:List (Addr×Obj)}{s:Shared}{af:St}{H:Hp}{R:V→V→Hp→Prop}(I:Inv X ah af H s)(h:b0 af H λx ax=>cz af ax λy bo=>R x y bo)
  {cJ:Type} {Q:cJ→Shared→Prop} {f:Value→Value→Sem cJ}
  (bE:∀v u bJ x y bo,Inv X ah af bo bJ→cA x v→cA y u→R x y bo→wpAny (model X.prog X.w) X.A (f v u) Q X.xe bJ):
  wpAny (model X.prog X.w) X.A (eval a X.env) (λv da=>wpAny (model X.prog X.w) X.A (eval b X.env) (λu jD=>wpAny (model X.prog X.w) X.A (f v u) Q X.xe jD) X.xe da) X.xe s:=by
 refine thn (bB ah s af H _ I h) λv bq ⟨x,ax,bK,cj,b_⟩=>?_;refine thn (ao ah bq af ax _ bK b_) λu bJ ⟨y,bo,cB,cM,cO⟩=>?_;exact bE v u bJ x y bo cB cj cM cO
noncomputable def Zfa (i:Nat):TE:=λaf H Q=>∃v,af[i]? =some (some v)∧Q v H
noncomputable def tC (v:V):TE:=λ_ H Q=>Q v H
theorem Znu{i:Nat}{x:Str}{pos:Pos}(dx:X.N[i]? =some x)(b8:Vis X.env.scope x)(hd:(x==("__debug__" :Str))=false:=by decide)(ic:(x==("__classdict__" :Str))=false:=by decide):PE X (.Name x pos) (Zfa i):=by
 intro ah s af H Q I h;obtain⟨v,e,h⟩:=h;obtain⟨m,bG,ag⟩:=I.loc;obtain⟨u,r,l⟩:=ag i x v dx e b8;have dQ:EP X ah af Q u s:=⟨v,H,I,r,h⟩;rcases l with⟨bp,bv⟩|⟨bp,c,br,kX⟩
 ·exact wpAny_Name (wpAny_loadName_local I.ok.kind bp bG bv dQ) hd
 ·rcases bp with bp|bp
  ·exact wpAny_Name (wpAny_loadName_cell I.ok.kind bp br kX dQ) hd
  ·exact wpAny_Name (wpAny_loadName_free I.ok.kind bp br kX dQ ic) hd
theorem b5{i j pos}:PE X (.Constant (.int i) j pos) (tC (.int i)):=λ_ _ _ H _ I h=>wpAny_Constant_int ⟨.int i,H,I.tok _,⟨_,rfl⟩,h⟩
theorem WJ{b j pos}:PE X (.Constant (.bool b) j pos) (tC (.bl b)):=λ_ _ _ H _ I h=>Constant_bool ⟨.bl b,H,I,rfl,h⟩
theorem Vz{j pos}:PE X (.Constant .none j pos) (tC .non):=λ_ _ _ H _ I h=>Constant_none ⟨.non,H,I,rfl,h⟩
theorem YW{x j pos}:PE X (.Constant (.str x) j pos) (tC (.str x)):=λ_ _ _ H _ I h=>Calls.Constant_str ⟨.str x,H,I.tok _,⟨_,rfl⟩,h⟩
def Gl(X:Cx)(x:Str):Prop:=X.env.kindOf x=some .globalImplicit
theorem lZ{E:Value→Shared→Prop}{ah:List (Addr×Obj)}{s:Shared}{af:St}{H:Hp}{x:Str}{u:Value}{pos:Pos}{Q:Value→Shared→Prop}(I:Inv X ah af H s)(bF:Gl X x)(bv:X.mg x=some u)(h:Q u s)
  (hd:(x==("__debug__" :Str))=false:=by decide):wpAny (model X.prog X.w) X.A (eval (.Name x pos) X.env) Q E s:=
 Calls.Name_function_global I.ok.kind bF (Calls.loadGlobal_global (by rw[I.ok.glob];exact I.mod.glob.keeps I.bk) bv h) hd
theorem hn{E:Value→Shared→Prop}{ah:List (Addr×Obj)}{s:Shared}{af:St}{H:Hp}{x:Str}{u:Value}{pos:Pos}{Q:Value→Shared→Prop}(I:Inv X ah af H s)(bF:Gl X x)(bv:X.mg x=none)(b8:bootBuiltins x=some u)(h:Q u s)
  (bG:x≠"__name__" :=by decide) (hd:(x==("__debug__" :Str))=false:=by decide):wpAny (model X.prog X.w) X.A (eval (.Name x pos) X.env) Q E s:=by
 obtain⟨iK,ap,a'⟩:=I.mod.blt;exact Calls.Name_function_global I.ok.kind bF (Calls.loadGlobal_builtin (by rw[I.ok.glob];exact I.mod.glob.keeps I.bk) bv (by rw[I.ok.blt];exact ap.keeps I.bk) ((a' x bG).trans b8) h) hd
theorem oI{x:Str}{v:V}{u:Value}{pos:Pos}(bF:Gl X x)(bv:X.mg x=some u)(r:cA v u)(hd:(x==("__debug__" :Str))=false:=by decide):PE X (.Name x pos) (tC v):=
 λ_ _ _ H _ I h=>lZ I bF bv ⟨v,H,I,r,h⟩ hd
theorem l0{x:Str}{v:V}{u:Value}{pos:Pos}(bF:Gl X x)(bv:X.mg x=none)(b8:bootBuiltins x=some u)(r:cA v u)(bG:x≠"__name__" :=by decide)(hd:(x==("__debug__" :Str))=false:=by decide):PE X (.Name x pos) (tC v):=
 λ_ _ _ H _ I h=>hn I bF bv b8 ⟨v,H,I,r,h⟩ bG hd
variable {a b:Expr}{b0 cz:TE}{pos:Pos}
variable {fH qT:TT}{rest:List Expr}
noncomputable def w7 (t u:TT):TT:=λaf H Q=>t af H λc ax=>if c=true then u af ax Q else Q false ax
noncomputable def tOr (t u:TT):TT:=λaf H Q=>t af H λc ax=>if c=true then Q true ax else u af ax Q
noncomputable def w8 (t:TT):TT:=λaf H Q=>t af H λc ax=>Q (!c) ax
theorem oJ(bB:PT X a fH):PW X (.BoolOp .And [a] pos) fH:=by
 intro oK ah s af H Q I h;refine isTrue_and (thn (bB ah s af H Q I h) λc bq e=>?_);cases c with
 |true=>exact isTrue_and_nil e
 |false=>exact e
theorem kY(bB:PT X a fH):PW X (.BoolOp .Or [a] pos) fH:=by
 intro oK ah s af H Q I h;refine isTrue_or (thn (bB ah s af H Q I h) λc bq e=>?_);cases c with
 |false=>exact isTrue_or_nil e
 |true=>exact e
theorem oL(bB:PT X a fH)(ao:PW X (.BoolOp .And (b::rest) pos) qT):PW X (.BoolOp .And (a::b::rest) pos) (w7 fH qT):=by
 intro oK ah s af H Q I h;refine isTrue_and (thn (bB ah s af H _ I h) λc bq ⟨ax,bK,b_⟩=>?_);cases c with
 |true=>exact ao oK ah bq af ax Q bK b_
 |false=>exact⟨ax,bK,b_⟩
theorem kZ(bB:PT X a fH)(ao:PW X (.BoolOp .Or (b::rest) pos) qT):PW X (.BoolOp .Or (a::b::rest) pos) (tOr fH qT):=by
 intro oK ah s af H Q I h;refine isTrue_or (thn (bB ah s af H _ I h) λc bq ⟨ax,bK,b_⟩=>?_);cases c with
 |true=>exact⟨ax,bK,b_⟩
 |false=>exact ao oK ah bq af ax Q bK b_
theorem i6(bB:PT X a fH):PT X (.UnaryOp .Not a pos) (w8 fH):=by
 intro ah s af H Q I h;exact isTrue_not (bB ah s af H (λc ax=>Q (!c) ax) I h)
noncomputable def w9 (b0 cz:TE):TE:=λaf H Q=>b0 af H λx ax=>∃c,x= .bl c∧if c=true then cz af ax Q else Q (.bl false) ax
noncomputable def w_ (b0:TE):TE:=λaf H Q=>b0 af H λx ax=>∃c,x= .bl c∧Q (.bl (!c)) ax
theorem nb{op}{t:TE}(h:PE X a t):PE X (.BoolOp op [a] pos) t:=λah s af H Q I hw=>BoolOp_one (h ah s af H Q I hw)
theorem nc(bB:PE X a b0)(ao:PE X (.BoolOp .And (b::rest) pos) cz):PE X (.BoolOp .And (a::b::rest) pos) (w9 b0 cz):=by
 intro ah s af H Q I h;refine BoolOp_and (thn (bB ah s af H _ I h) λv bq ⟨x,ax,bK,cj,b_⟩=>?_);obtain⟨c,rfl,b_⟩:=b_;cases cj;refine wpAny_truthy_bool ?_;cases c with
 |true=>exact ao ah bq af ax Q bK b_
 |false=>exact⟨.bl false,ax,bK,rfl,b_⟩
theorem C0(bB:PE X a b0):PE X (.UnaryOp .Not a pos) (w_ b0):=by
 intro ah s af H Q I h;refine UnaryOp_ (thn (bB ah s af H _ I h) λv bq ⟨x,ax,bK,cj,b_⟩=>?_);obtain⟨c,rfl,b_⟩:=b_;cases cj;exact not_of (wpAny_truthy_bool ⟨.bl (!c),ax,bK,rfl,b_⟩)
noncomputable def tIf (t:TT) (b0 cz:TE):TE:=λaf H Q=>t af H λc ax=>if c=true then b0 af ax Q else cz af ax Q
theorem C1{c:Expr}(br:PT X c fH)(bB:PE X a b0)(ao:PE X b cz):PE X (.IfExp c a b pos) (tIf fH b0 cz):=by
 intro ah s af H Q I h;refine wpAny_IfExp (thn (br ah s af H _ I h) λd bq ⟨ax,bK,b_⟩=>?_);cases d with
 |true=>exact bB ah bq af ax Q bK b_
 |false=>exact ao ah bq af ax Q bK b_
end
def SqL(K:Frag)(H:Hp)(a:Addr)(xs:List V):Prop:=
 Rd H a (.lst xs)∨
  ∃(o:Obj)(its:Array Value)(n:Nat),K.lookup a=some o∧o.cls= .type "list" ∧o.dict=none∧o.data= .seq its n∧its.size≤sizeLine∧cH xs its.toList
def SqT(K:Frag)(H:Hp)(a:Addr)(xs:List V):Prop:=
 Rd H a (.tup xs)∨
  ∃(o:Obj)(its:Array Value)(n:Nat),K.lookup a=some o∧o.cls= .type "tuple" ∧o.data= .seq its n∧its.size≤sizeLine∧cH xs its.toList
noncomputable def C2:Value→Option V
 | .none=>some .non
 | .bool b=>some (.bl b)
 | .int i _=>some (.int i)
 | .str x _=>some (.str x)
 | .bytes b _=>some (.byt b)
 | .float b _=>some (.flt b)
 | .ref a=>some (.ref a)
 | .type n=>some (.ty n)
 |_=>none
theorem cA.abs{x:V}{u:Value}(r:cA x u):C2 u=some x:=by
 cases x with
 |non=>cases r;rfl
 |bl _=>cases r;rfl
 |int _=>obtain⟨t,rfl⟩:=r;rfl
 |str _=>obtain⟨t,rfl⟩:=r;rfl
 |byt _=>obtain⟨t,rfl⟩:=r;rfl
 |flt _=>obtain⟨t,rfl⟩:=r;rfl
 |ref _=>cases r;rfl
 |ty _=>cases r;rfl
theorem cA.inj{x y:V}{u:Value}(r:cA x u)(q:cA y u):x=y:=Q2 (r.abs.symm.trans q.abs)
theorem cH.inj:∀{xs ys:List V}{us:List Value},cH xs us→cH ys us→xs=ys
 |_,_,_,.nil,.nil=>rfl
 |_,_,_,.cons r t,.cons cY t'=>by rw[r.inj cY,cH.inj t t']
section
variable {X:Cx}{ah:List (Addr×Obj)}{af:St}{H:Hp}{s:Shared}{a:Addr}{xs ys:List V}
theorem SqL.of{K:Frag}(h:H a=some (.lst xs)):SqL K H a xs:= .inl (.inl h)
theorem SqT.of{K:Frag}(h:H a=some (.tup xs)):SqT K H a xs:= .inl (.inl h)
theorem Inv.list(I:Inv X ah af H s)(h:SqL X.K H a xs):∃its:List Value,cH xs its∧PlainL s.heap a its.toArray∧xs.length≤sizeLine:=by
 rcases h with h|⟨o,its,n,bp,br,hd,hs,hz,r⟩
 ·obtain⟨z,its,n,r,e⟩:=h.ok I.hok;exact⟨its,r,⟨_,n,e,rfl,rfl,rfl⟩,z⟩
 ·refine⟨its.toList,r,⟨o,n,I.kIn a o bp,br,hd,by simpa using hs⟩,?_⟩;have e:=r.length;simp only[Rx] at e;omega
theorem Inv.tuple(I:Inv X ah af H s)(h:SqT X.K H a xs):∃its:List Value,cH xs its∧IsTup s.heap a its.toArray∧xs.length≤sizeLine:=by
 rcases h with h|⟨o,its,n,bp,br,hs,hz,r⟩
 ·obtain⟨z,its,r,p⟩:=h.ok I.hok;exact⟨its,r,p,z⟩
 ·refine⟨its.toList,r,⟨o,I.kIn a o bp,br,n,by simpa using hs⟩,?_⟩;have e:=r.length;simp only[Rx] at e;omega
theorem Inv.list_inj(I:Inv X ah af H s)(h:SqL X.K H a xs)(h':SqL X.K H a ys):xs=ys:=by
 obtain⟨its,r,⟨o,n,e,_,_,d⟩,_⟩:=I.list h;obtain⟨its',cY,⟨ci,e_,b6,_,_,d'⟩,_⟩:=I.list h';rw[e] at b6;cases b6;rw[d] at d'
 injection d' with l1 _
 have:its=its':=by simpa using congrArg Array.toList l1
 subst this;exact r.inj cY
end
section
variable {X:Cx}{ah:List (Addr×Obj)}{af:St}{H:Hp}{s:Shared}{E:Value→Shared→Prop}
end
section
variable {X:Cx}{st:Stmt}{rest:List Stmt}{t u:TS}{e:Expr}{cu:TE}{pos:Pos}
noncomputable def tNext:TS:=λD af H=>D.nx af H
noncomputable def s7 (t u:TS):TS:=λD af H=>t {D with nx:=u D} af H
theorem d4:PSs X [] tNext:=λ_ _ af H _ I h=>wpAny_execs_nil ⟨af,H,I,h⟩
theorem bN(ap:PS X st t)(a':PSs X rest u):PSs X (st::rest) (s7 t u):=by
 intro ah s af H D I h;refine wpAny_execs_cons (thn (ap ah s af H {D with nx:=u D} I h) λf bq q=>?_);cases f with
 |next=>
  obtain⟨bQ,ae,d0,q⟩:=q;exact a' ah bq bQ ae D d0 q
 |ret v=>exact q
 |brk=>exact q
 |cont=>exact q
theorem bZ(ap:PS X st t):PSs X [st] t:=by
 intro ah s af H D I h;refine wpAny_execs_cons (thn (ap ah s af H D I h) λf bq q=>?_);cases f with
 |next=>exact wpAny_execs_nil q
 |ret v=>exact q
 |brk=>exact q
 |cont=>exact q
theorem Inv.quiet{ah:List (Addr×Obj)}{af:St}{H:Hp}{s:Shared}(I:Inv X ah af H s):interactive X.env=false:=by simp[interactive,I.ok.kind]
noncomputable def w' (cu:TE):TS:=λD af H=>cu af H λ_ ax=>D.nx af ax
theorem eB(bH:PE X e cu)(hs:swapsWith e none pos.line X.env=pure false:=by rfl):PS X (.Expr e pos) (w' cu):=by
 intro ah s af H D I h;exact wpAny_Expr_any (thn (bH ah s af H _ I h) λv bq ⟨x,ax,bK,cj,b_⟩=>⟨af,ax,bK,b_⟩) I.quiet hs
noncomputable def xa (cu:TE):TS:=λD af H=>cu af H D.rt
theorem c3(bH:PE X e cu):PS X (.Return (some e) pos) (xa cu):=by
 intro ah s af H D I h;exact wpAny_Return_some (thn (bH ah s af H _ I h) λv bq ⟨x,ax,bK,cj,b_⟩=>⟨x,af,ax,bK,cj,b_⟩)
noncomputable def xb (c:TT) (t u:TS):TS:=λD af H=>c af H λb ax=>if b=true then t D af ax else u D af ax
theorem dW{c:Expr}{a b:List Stmt}{df:TT}(br:PT X c df)(bB:PSs X a t)(ao:PSs X b u):PS X (.If c a b pos) (xb df t u):=by
 intro ah s af H D I h;refine wpAny_If (thn (br ah s af H _ I h) λd bq ⟨ax,bK,b_⟩=>?_);cases d with
 |true=>exact bB ah bq af ax D bK b_
 |false=>exact ao ah bq af ax D bK b_
noncomputable def tNever:TS:=λ_ _ _=>False
theorem xc:PS X st tNever:=λ_ _ _ _ _ _ h=>h.elim
end
noncomputable abbrev TG:=V→St→Hp→(St→Hp→Prop)→Prop
noncomputable abbrev TGs:=List V→St→Hp→(St→Hp→Prop)→Prop
def PG(X:Cx)(target:Expr)(t:TG):Prop:=
 ∀(ah:List (Addr×Obj))(s:Shared)(af:St)(H:Hp)(v:V)(u:Value)(Q:St→Hp→Prop),Inv X ah af H s→cA v u→t v af H Q→
  wpAny (model X.prog X.w) X.A (assign target X.env u) (λ_ s'=>∃bQ ae,Inv X ah bQ ae s'∧Q bQ ae) X.xe s
def PGs(X:Cx)(fv:List Expr)(t:TGs):Prop:=
 ∀(ah:List (Addr×Obj))(s:Shared)(af:St)(H:Hp)(vs:List V)(us:List Value)(Q:St→Hp→Prop),Inv X ah af H s→cH vs us→t vs af H Q→
  wpAny (model X.prog X.w) X.A (assignInOrder ((assignEach fv X.env).map (·.2)) us) (λ_ s'=>∃bQ ae,Inv X ah bQ ae s'∧Q bQ ae) X.xe s
noncomputable abbrev ZcA:=V→V→V→Hp→(Hp→Prop)→Prop
def ZhT(X:Cx)(t:ZcA):Prop:=
 ∀(ah:List (Addr×Obj))(s:Shared)(af:St)(H:Hp)(o i v:V)(dg fg u:Value)(Q:Hp→Prop),Inv X ah af H s→cA o dg→cA i fg→cA v u→t o i v H Q→
  wpAny (model X.prog X.w) X.A (setItem dg fg u) (λ_ s'=>∃ae,Inv X ah af ae s'∧Q ae) X.xe s
noncomputable abbrev TIp:=V→V→Hp→VK→Prop
def PIp(X:Cx)(op:Operator)(t:TIp):Prop:=
 ∀(ah:List (Addr×Obj))(s:Shared)(af:St)(H:Hp)(x y:V)(v u:Value)(Q:VK),Inv X ah af H s→cA x v→cA y u→t x y H Q→
  wpAny (model X.prog X.w) X.A (inplaceOp op v u) (EP X ah af Q) X.xe s
section
variable {X:Cx}{pos:Pos}
noncomputable def Vf (i:Nat):TG:=λv af H Q=>Q (af.set i (some v)) H
theorem cK{i:Nat}{x:Str}(dx:X.N.Nodup)(hi:X.N[i]? =some x)(a_:Loc X.env.scope x)(bE:X.fn x=true∨X.env.scope.names.lookup x=some .local:=by first|exact .inl rfl|exact .inr rfl|assumption):PG X (.Name x pos) (Vf i):=by
 intro ah s af H v u Q I r h;exact wpAny_assign_Name (oG I dx hi a_ r (λs' d0=>⟨_,H,d0,h⟩) bE)
noncomputable def gNil:TGs:=λvs af H Q=>vs=[]∧Q af H
noncomputable def xf (t:TG) (u:TGs):TGs:=λvs af H Q=>∃v r,vs=v::r∧t v af H λbQ ae=>u r bQ ae Q
theorem hP:PGs X [] gNil:=by
 intro ah s af H vs us Q I r h;obtain⟨e,h⟩:=h;subst e;cases r;exact assignInOrder_nil ⟨af,H,I,h⟩
theorem en{e:Expr}{bx:List Expr}{t:TG}{u:TGs}(ap:PG X e t)(a':PGs X bx u)
  (hs:(assignEach (e::bx) X.env).map (·.2)=assign e X.env::(assignEach bx X.env).map (·.2):=by rfl):PGs X (e::bx) (xf t u):=by
 intro ah s af H vs us Q I r h;obtain⟨v,OJ,bD,h⟩:=h;subst bD;cases r with
 |cons r oM=>
  rw[hs];refine assignInOrder_cons (thn (ap ah s af H _ _ _ I r h) λ_ bq ⟨nf,ax,bK,b_⟩=>?_);exact a' ah bq nf ax _ _ Q bK oM b_
noncomputable def s8 (K:Frag) (n:Nat) (t:TGs):TG:=λv af H Q=>∃a xs,v= .ref a∧SqT K H a xs∧xs.length=n∧t xs af H Q
theorem Zmk{bx:List Expr}{k:Nat}{t:TGs}{n:Nat}(br:X.calm=true)(h:PGs X bx t)
  (bG:(assignEach bx X.env).length=n:=by rfl) (fw:(assignEach bx X.env).findIdx? (·.1)=none:=by rfl):PG X (.Tuple bx k pos) (s8 X.K n t):=by
 intro ah s af H v u Q I r hw;obtain⟨a,xs,bD,cq,ag,hw⟩:=hw;subst bD;cases r;obtain⟨its,cZ,b3,hz⟩:=I.tuple cq;refine assign_Tuple_tuple (I.ok.hd br) b3 (by simp[bG,←ag,cZ.length]) fw λh' a_=>?_;have bK:Inv X ah af H {s with heap:=h'}:=I.kept (t':=s.toks) λb o e=>a_ b o (Q0 (Heap.lt_size e)) e;exact h ah _ af H xs _ Q bK (by simpa using cZ) hw
noncomputable def xg (to fh:TE) (t:ZcA):TG:=λv af H Q=>to af H λo ax=>fh af ax λi bo=>t o i v bo λb2=>Q af b2
theorem ho{o i:Expr}{to fh:TE}{t:ZcA}(bC:PE X o to)(hi:PE X i fh)(hs:ZhT X t)
  (bB:∀v,assign (.Subscript o i pos) X.env v=(do
   let dg←holding [v] (eval o X.env)
   let fg←holding [v,dg] (eval i X.env)
   standAt pos
   holding [v,dg,fg] (setItem dg fg v)
   release [v,dg,fg] []):=by intro _;rfl):PG X (.Subscript o i pos) (xg to fh t):=by
 intro ah s af H v u Q I r h;rw[bB];refine wpAny_bind (wpAny_holding (thn (bC ah s af H _ I h) λdg bq ⟨x,ax,bK,cj,b_⟩=>?_));refine wpAny_bind (wpAny_holding (thn (hi ah bq af ax _ bK b_) λfg bJ ⟨y,bo,cB,cM,cO⟩=>?_));refine wpAny_bind (wpAny_standAt (wpAny_bind (wpAny_holding (thn (hs ah bJ af bo x y v dg fg u _ cB cj cM r cO) λ_ bO ⟨b2,dk,eP⟩=>?_))));exact wpAny_release ⟨af,b2,dk,eP⟩
noncomputable def oN (cu:TE) (g:TG):TS:=λD af H=>cu af H λx ax=>g x af ax D.nx
theorem hp{cN e:Expr}{cu:TE}{g:TG}(bH:PE X e cu)(bF:PG X cN g)(hs:swapsWithSole [cN] e pos.line X.env=pure false:=by rfl)(hw:swappedStores [cN] e X.env=pure none:=by rfl)
  (ap:(assignEach [cN] X.env).map (·.2)=[assign cN X.env]:=by rfl):PS X (.Assign [cN] e pos) (oN cu g):=by
 intro ah s af H D I h;refine wpAny_Assign_stores (thn (bH ah s af H _ I h) λv bq ⟨x,ax,bK,cj,b_⟩=>?_) hs hw;rw[ap];exact thn (bF ah bq af ax x v _ bK cj b_) λ_ bJ q=>q
theorem cy{i:Nat}{x:Str}{e:Expr}{cu:TE}{i7:Pos}(dx:X.N.Nodup)(hi:X.N[i]? =some x)(a_:Loc X.env.scope x)(bH:PE X e cu)(hs:swapsWith e (some (.Name x i7)) pos.line X.env=pure false:=by rfl)(bE:X.fn x=true∨X.env.scope.names.lookup x=some .local:=by first|exact .inl rfl|exact .inr rfl|assumption):
  PS X (.Assign [.Name x i7] e pos) (oN cu (Vf i)):=by
 intro ah s af H D I h;refine wpAny_Assign_Name (thn (bH ah s af H _ I h) λv bq ⟨y,ax,bK,cj,b_⟩=>?_) hs;exact oG bK dx hi a_ cj (λbJ cB=>⟨_,ax,cB,b_⟩) bE
noncomputable def C3 (i:Nat) (cu:TE) (fh:TIp):TS:=λD af H=>∃x,af[i]? =some (some x)∧cu af H λy ax=>fh x y ax λz bo=>D.nx (af.set i (some z)) bo
theorem C4{i:Nat}{x:Str}{e:Expr}{cu:TE}{op:Operator}{fh:TIp}{i7:Pos}(dx:X.N.Nodup)(hi:X.N[i]? =some x)(a_:Loc X.env.scope x)(bH:PE X e cu)(bC:PIp X op fh)(bE:X.fn x=true∨X.env.scope.names.lookup x=some .local:=by first|exact .inl rfl|exact .inr rfl|assumption):
  PS X (.AugAssign (.Name x i7) op e pos) (C3 i cu fh):=by
 intro ah s af H D I h;obtain⟨v,bD,h⟩:=h;obtain⟨m,bG,ag⟩:=I.loc;have C5:Vis X.env.scope x:=by rcases a_ with k|k;exact .inl k;exact .inr (.inl k)
 obtain⟨u,r,l⟩:=ag i x v hi bD C5;refine wpAny_AugAssign_Name ?_;have go:wpAny (model X.prog X.w) X.A (eval e X.env) (λw jD=>wpAny (model X.prog X.w) X.A (inplaceOp op u w) (λr ie=>wpAny (model X.prog X.w) X.A (storeName X.env x r) (λ_=>SP X ah D .next) X.xe ie) X.xe jD) X.xe s:=by
  refine thn (bH ah s af H _ I h) λw bq ⟨y,ax,bK,cj,b_⟩=>?_;refine thn (bC ah bq af ax v y u w _ bK r cj b_) λz bJ ⟨OK,bo,cB,cM,cO⟩=>?_;exact oG cB dx hi a_ cM (λbO dk=>⟨_,bo,dk,cO⟩) bE
 rcases l with⟨bp,bv⟩|⟨bp,c,br,kX⟩
 ·exact wpAny_loadName_local I.ok.kind bp bG bv go
 ·rcases bp with bp|bp
  ·exact wpAny_loadName_cell I.ok.kind bp br kX go
  ·rcases a_ with k|k
   ·have:X.env.scope.names.lookup x=some .free:=bp;rw[k] at this;cases this
   ·have:X.env.scope.names.lookup x=some .free:=bp;rw[k] at this;cases this
noncomputable def xh (to fh cu:TE) (l2:V→V→Hp→VK→Prop) (l3:TIp) (l4:ZcA):TS:=λD af H=>to af H λo ax=>fh af ax λi bo=>l2 o i bo λx b2=>cu af b2 λy b7=>l3 x y b7 λz bY=>l4 o i z bY λc5=>D.nx af c5
def Zj8(X:Cx)(t:V→V→Hp→VK→Prop):Prop:=
 ∀(ah:List (Addr×Obj))(s:Shared)(af:St)(H:Hp)(o i:V)(dg fg:Value)(Q:VK),Inv X ah af H s→cA o dg→cA i fg→t o i H Q→
  wpAny (model X.prog X.w) X.A (getItem dg fg) (EP X ah af Q) X.xe s
theorem s9{o i e:Expr}{to fh cu:TE}{l2:V→V→Hp→VK→Prop}{l3:TIp}{l4:ZcA}{op:Operator}{l5:Pos}(bC:PE X o to)(hi:PE X i fh)(bF:Zj8 X l2)(bH:PE X e cu)(bz:PIp X op l3)(hs:ZhT X l4)
  (bB:∀dg fg new,augStore i dg fg new=(do holding [new,dg,fg] (setItem dg fg new);release [new,dg,fg] [];pure .next):=by intros;rfl):PS X (.AugAssign (.Subscript o i l5) op e pos) (xh to fh cu l2 l3 l4):=by
 intro ah s af H D I h;refine wpAny_AugAssign_SubscriptAny (thn (bC ah s af H _ I h) λdg bq ⟨x1,ax,bK,cj,b_⟩=>?_) bB;refine thn (hi ah bq af ax _ bK b_) λfg bJ ⟨x2,bo,cB,cM,cO⟩=>?_;refine thn (bF ah bJ af bo x1 x2 dg fg _ cB cj cM cO) λhq bO ⟨x3,b2,dk,gE,eP⟩=>?_;refine thn (bH ah bO af b2 _ dk eP) λv b9 ⟨x4,b7,j5,hQ,l6⟩=>?_;refine thn (bz ah b9 af b7 x3 x4 hq v _ j5 gE hQ l6) λnew cC ⟨x5,bY,iL,oO,oP⟩=>?_;exact thn (hs ah cC af bY x1 x2 x5 dg fg new _ iL cj cM oO oP) λ_ du ⟨c5,gf,s_⟩=>⟨af,c5,gf,s_⟩
noncomputable def ipI (f:Int→Int→Int):TIp:=λx y H Q=>∃i j,x= .int i∧y= .int j∧Q (.int (f i j)) H
theorem xi:PIp X .Add (ipI λi j=>i+j):=by
 intro ah s af H x y v u Q I cj cM h;obtain⟨i,j,bD,bI,q⟩:=h;subst bD;subst bI;obtain⟨t,rfl⟩:=cj;obtain⟨t',rfl⟩:=cM;exact iadd_int ⟨.int _,H,I.tok _,⟨_,rfl⟩,q⟩
theorem xj:PIp X .Sub (ipI λi j=>i-j):=by
 intro ah s af H x y v u Q I cj cM h;obtain⟨i,j,bD,bI,q⟩:=h;subst bD;subst bI;obtain⟨t,rfl⟩:=cj;obtain⟨t',rfl⟩:=cM;exact isub_int ⟨.int _,H,I.tok _,⟨_,rfl⟩,q⟩
end
section
variable {X:Cx}{pos:Pos}
noncomputable def xk (c:TT) (cz:TS):TS:=λD af H=>∃W:Nat→St→Hp→Prop,(∃m,W m af H)∧∀m af H,W m af H→
 c af H λb ax=>if b=true then ∃N:St→Hp→Prop,(∀bQ ae,N bQ ae→∃cn,cn<m∧W cn bQ ae)∧cz {D with nx:=N,ct:=N,bk:=D.nx} af ax else D.nx af ax
theorem qU{c:Expr}{body:List Stmt}{df:TT}{cz:TS}(bz:PassesOwn (model X.prog X.w) X.A X.env X.xe)(br:PT X c df)(ao:PSs X body cz):PS X (.While c body [] pos) (xk df cz):=by
 intro ah s af H D I h;obtain⟨W,⟨g8,eQ⟩,turn⟩:=h;refine wpAny_While (codeAny_whileLoop (λn s'=>∃bQ ae,Inv X ah bQ ae s'∧W n bQ ae) ?_ g8 ⟨af,H,I,eQ⟩);rintro n bq ⟨nf,ax,bK,fI⟩;refine wpAny_passesOwn bz (thn (br ah bq nf ax _ bK (turn n nf ax fI)) λb bJ ⟨bo,cB,cO⟩=>?_);cases b with
 |true=>
  obtain⟨N,dx,cO⟩:=cO;rw[if_pos rfl];refine wpAny_passesOwn bz (thn (ao ah bJ nf bo _ cB cO) λf bO eP=>?_);cases f with
  |next=>
   obtain⟨i8,b2,dk,oQ⟩:=eP;obtain⟨cn,bv,l7⟩:=dx i8 b2 oQ;exact⟨cn,bv,i8,b2,dk,l7⟩
  |cont=>
   obtain⟨i8,b2,dk,oQ⟩:=eP;obtain⟨cn,bv,l7⟩:=dx i8 b2 oQ;exact⟨cn,bv,i8,b2,dk,l7⟩
  |brk=>exact eP
  |ret v=>exact eP
 |false=>
  rw[if_neg QY];exact wpAny_execs_nil ⟨nf,bo,cB,cO⟩
end
structure It where
 go:Nat→Hp→Prop
 yld:Nat→Hp→V→Hp→Prop
 stop:Nat→Hp→Prop
def gg(X:Cx)(ah:List (Addr×Obj))(H:Hp)(b:Addr):Prop:=
 H b=none∧b≠X.env.locals∧b∉X.fs∧(b∈X.ex∨X.s₀.heap.objs.size≤b)∧(∀x c,X.env.cells.lookup x=some c→c≠b)∧∀p∈X.pn++ah,p.1≠b
theorem Inv.fpOk{X:Cx}{ah:List (Addr×Obj)}{af:St}{H ae:Hp}{s:Shared}{b:Addr}(I:Inv X ah af H s)(ao:s.heap.objs.size≤b)(bG:ae b=none):gg X ah ae b:=by
 refine⟨bG,qaz (QU I.lt ao),I.nofs ao,.inr (QZ I.sz ao),λx c e z=>?_,λp bz z=>?_⟩
 ·obtain⟨v,q⟩:=I.cell x c e;exact absurd (QU q.lt (by rw[z];exact ao)) (RU _)
 ·exact absurd (QU (Heap.lt_size (I.pin p bz).1) (by rw[z];exact ao)) (RU _)
structure UF(P:Program)(w:World)(K:Frag)(cN:Expr)(J:It)(fp:List Addr)(it:Addr)(dI:Nat→Heap→Prop):Prop where
 mem:it∈fp
 obj:∀i h,dI i h→∀b∈fp,∃o,h.get? b=some o∧∀v,o.data≠ .cell v
 keep:∀i h h',dI i h→(∀b∈fp,∀o,h.get? b=some o→h'.get? b=some o)→dI i h'
 item:∀(X:Cx),X.prog=P→X.w=w→X.K=K→X.calm=true→∀(i:Nat)(ah:List (Addr×Obj))(s:Shared)(af:St)(H:Hp)(E:Value→Shared→Prop),Inv X ah af H s→(∀b∈fp,gg X ah H b)→dI i s.heap→J.go i H→
  wpAny (model P w) X.A (pyNext (.ref it)) (λr bq=>∃u,r=some u∧
   wpAny (model P w) X.A (letOwnedTupleGo cN (.ref it) u) (λ_ bJ=>∃x ae,Inv X ah af ae bJ∧cA x u∧J.yld i H x ae∧dI (i+1) bJ.heap∧∀b∈fp,ae b=none) E bq) E s
 done:∀(X:Cx),X.prog=P→X.w=w→X.K=K→X.calm=true→∀(i:Nat)(ah:List (Addr×Obj))(s:Shared)(af:St)(H:Hp)(E:Value→Shared→Prop),Inv X ah af H s→(∀b∈fp,gg X ah H b)→dI i s.heap→J.stop i H→
  wpAny (model P w) X.A (pyNext (.ref it)) (λr bq=>r=none∧Inv X ah af H bq) E s
 self:∀(A:Around)(i:Nat)(s:Shared)(Q:Value→Shared→Prop)(E:Value→Shared→Prop),dI i s.heap→Q (.ref it) s→wpAny (model P w) A (pyIter (.ref it)) Q E s
noncomputable abbrev TI:=St→Hp→(It→Hp→Prop)→Prop
def PIE(X:Cx)(ah:List (Addr×Obj))(af:St)(cN:Expr)(R:It→Hp→Prop)(ng:Value)(bJ:Shared):Prop:=
 ∃(it:Addr)(fp:List Addr)(dI:Nat→Heap→Prop)(J:It)(ae:Hp),ng= .ref it∧Inv X ah af ae bJ∧UF X.prog X.w X.K cN J fp it dI∧dI 0 bJ.heap∧(∀b∈fp,gg X ah ae b)∧R J ae
def PI(X:Cx)(cN d6:Expr)(ed:TI):Prop:=
 ∀(ah:List (Addr×Obj))(s:Shared)(af:St)(H:Hp)(R:It→Hp→Prop),Inv X ah af H s→ed af H R→
  wpAny (model X.prog X.w) X.A (eval d6 X.env) (λv bq=>wpAny (model X.prog X.w) X.A (pyIter v) (PIE X ah af cN R) X.xe bq) X.xe s
theorem oR{M:Model}{A:Around}{E:Value→Shared→Prop}{s:Shared}{cN:Expr}{it:Addr}{u:Value}{o:Obj}{n:String}{vs:Array Value}{Q:Unit→Shared→Prop}(bC:s.heap.get? it=some o)(br:o.cls= .type n)(hd:o.data= .fields vs)
  (bG:["enumerate","zip","dict_itemiterator","dict_reverseitemiterator","odict_iterator","itertools.zip_longest","itertools.pairwise"].contains n=false) (e9:Q () s):wpAny M A (letOwnedTupleGo cN (.ref it) u) Q E s:=by
 unfold letOwnedTupleGo;cases cN<;>first
  |exact wpAny_pure e9
  |(cases u<;>first
    |exact wpAny_pure e9
    |(refine wpAny_bind (wpAny_load bC ?_)
      rw[br,hd];show wpAny M A (if(["enumerate","zip","dict_itemiterator","dict_reverseitemiterator","odict_iterator","itertools.zip_longest","itertools.pairwise"].contains n&&vs[0]? ==some (rawInt _))=true then _ else _) Q E s;rw[if_neg (by intro h;rw[bG,Bool.false_and] at h;cases h)];exact wpAny_pure e9))
noncomputable def Itl (K:Frag) (a:Addr):It:=
 ⟨λi H=>∃xs x,SqL K H a xs∧xs[i]? =some x,λi H x ae=>ae=H∧∀xs,SqL K H a xs→xs[i]? =some x,λi H=>∃xs,SqL K H a xs∧xs.length≤i⟩
noncomputable def Itr (lo:Int) (n:Nat):It:=⟨λi _=>i<n,λi H x ae=>ae=H∧x= .int (lo+i),λi _=>n≤i⟩
theorem C6{P:Program}{w:World}{K:Frag}{cN:Expr}(a it:Addr):UF P w K cN (Itl K a) [it] it (λi h=>h.IsListIter it a i) where
 mem:=by simp
 obj:=λi h st b ao=>by
  have e:b=it:=by simpa using ao
  subst e;obtain⟨o,e,c,d⟩:=st;exact⟨o,e,λv z=>by rw[d] at z;cases z⟩
 keep:=λi h h' st k=>st.at λo e=>k it (by simp) o e
 item:=by
  intro X dR hw eb br i ah s af H E I bE st bF;subst dR hw eb;obtain⟨xs,x,cq,a_⟩:=bF;obtain⟨its,cZ,p,hz⟩:=I.list cq;obtain⟨u,hu,dX⟩:=cZ.get a_;obtain⟨dz,f1,f2,c7,d7,dS⟩:=bE it (by simp);refine wpAny_pyNext_list_item st p.isList (x:=u) (by simpa using hu) λh' hR hr=>?_;have bK:Inv X ah af H {s with heap:=h'}:=I.turned (t':=s.toks) (λb o ao e=>(hr.2 b ao).trans e) dz f1 c7 d7 dS;obtain⟨o,e,c,d⟩:=id hR;exact⟨u,rfl,oR (s:={s with heap:=h'}) e c d (by decide) ⟨x,H,bK,dX,⟨rfl,λys bP=>by rw[I.list_inj bP cq];exact a_⟩,hR,λb ao=>(bE b ao).1⟩⟩
 done:=by
  intro X dR hw eb br i ah s af H E I bE st bF;subst dR hw eb;obtain⟨xs,cq,a_⟩:=bF;obtain⟨its,cZ,p,hz⟩:=I.list cq;obtain⟨dz,f1,f2,c7,d7,dS⟩:=bE it (by simp);have ag:=cZ.length;exact wpAny_pyNext_list_end (I.ok.hd br) st p.isList (by simp;omega) λh' cP=>⟨rfl,I.turned (t':=s.toks) (λb o ao e=>cP b o ao e) dz f1 c7 d7 dS⟩
 self:=λ_ _ _ _ _ st h=>wpAny_pyIter_listiter st h
theorem C7{P:Program}{w:World}{K:Frag}{cN:Expr}(it:Addr)(lo:Int)(n:Nat):UF P w K cN (Itr lo n) [it] it (λi h=>IsRangeIter h it (lo+(i:Nat)*1) ((n:Int)-(i:Nat)) 1) where
 mem:=by simp
 obj:=λi h st b ao=>by
  have e:b=it:=by simpa using ao
  subst e;exact⟨_,st,λv z=>by
   have fZ:Data.fields _=Data.cell v:=z;cases fZ⟩
 keep:=λi h h' st k=>k it (by simp) _ st
 item:=by
  intro X dR hw eb br i ah s af H E I bE st bF;subst dR hw eb;obtain⟨dz,f1,f2,c7,d7,dS⟩:=bE it (by simp);have W:=Walks.range (prog:=X.prog) (w:=X.w) (I.ok.hd br) it lo 1 n;refine W.item i s _ _ bF st λv h' bT b8 hR j6=>?_;obtain⟨t,rfl⟩:=b8;have bK:Inv X ah af H {s with heap:=h',toks:=bT}:=I.turned (λb o ao e=>j6 b o (by simpa using ao) e) dz f1 c7 d7 dS;refine⟨_,rfl,oR (s:={s with heap:=h',toks:=bT}) (n:="range_iterator") hR rfl rfl (by decide) ⟨.int (lo+i),H,bK,⟨t,?_⟩,⟨rfl,rfl⟩,hR,λb ao=>(bE b ao).1⟩⟩;rw[Int.mul_one]
 done:=by
  intro X dR hw eb br i ah s af H E I bE st bF;subst dR hw eb;obtain⟨dz,f1,f2,c7,d7,dS⟩:=bE it (by simp);exact wpAny_pyNext_range_end (I.ok.hd br) st (by have:n≤i:=bF;omega) λh' cP=>⟨rfl,I.turned (t':=s.toks) (λb o ao e=>cP b o ao e) dz f1 c7 d7 dS⟩
 self:=λ_ _ _ _ _ st h=>wpAny_pyIter_rangeiter st h
section
variable {X:Cx}{cN:Expr}
noncomputable def ta (K:Frag) (dA:TE):TI:=λaf H R=>dA af H λx ax=>∃a,x= .ref a∧(∃xs,SqL K ax a xs)∧R (Itl K a) ax
theorem ZlA{l:Expr}{dA:TE}(ag:PE X l dA):PI X cN l (ta X.K dA):=by
 intro ah s af H R I h;refine thn (ag ah s af H _ I h) λv bq ⟨x,ax,bK,cj,b_⟩=>?_;obtain⟨a,e,⟨xs,cq⟩,q⟩:=b_;subst e;cases cj;obtain⟨its,cZ,p,hz⟩:=bK.list cq;refine wpAny_pyIter_list p.isList ?_;refine⟨bq.heap.objs.size,[bq.heap.objs.size],_,_,ax,rfl,bK.kept (t':=bq.toks) λb o e=>Heap.get?_push_of_some _ e,C6 a _,⟨_,Heap.get?_push_size _ rfl,rfl,rfl⟩,λb ao=>?_,q⟩;have e:b=bq.heap.objs.size:=by simpa using ao
 subst e;exact bK.fpOk (QQ _) (bK.hok.fresh (QQ _))
theorem C8{ah:List (Addr×Obj)}{af:St}{H:Hp}{s:Shared}{R:It→Hp→Prop}{E:Value→Shared→Prop}{lo hi:Int}{t u v:Tok}{bT:Nat}(I:Inv X ah af H s)(ap: -(2 ^ 62)≤lo)(a':lo<2 ^ 62)(bU: -(2 ^ 62)≤hi)(cD:hi<2 ^ 62)
  (q:R (Itr lo (hi-lo).toNat) H):wpAny (model X.prog X.w) X.A (pyIter (.ref s.heap.objs.size)) (PIE X ah af cN R) E {s with heap:=s.heap.push {cls:= .type "range",data:= .fields #[.int lo t,.int hi u,.int 1 v]},toks:=bT}:=by
 refine wpAny_pyIter_range (IsRange.new ..) (small_one ap a' bU cD) ?_;have bK:Inv X ah af H {s with heap:=s.heap.push {cls:= .type "range",data:= .fields #[.int lo t,.int hi u,.int 1 v]},toks:=bT}:=I.kept λb o e=>Heap.get?_push_of_some _ e;refine⟨(s.heap.push {cls:= .type "range",data:= .fields #[.int lo t,.int hi u,.int 1 v]}).objs.size,[(s.heap.push {cls:= .type "range",data:= .fields #[.int lo t,.int hi u,.int 1 v]}).objs.size],_,_,H,rfl,
  bK.kept (t':=bT) λb o e=>Heap.get?_push_of_some _ e,C7 _ lo (hi-lo).toNat,?_,λb ao=>?_,q⟩
 ·have bD:lo+((0:Nat):Int)*1=lo:=by simp
  have bI:(((hi-lo).toNat:Nat):Int)-((0:Nat):Int)=Builtin.Range.rangeSize lo hi 1:=by rw[rangeSize_one];split<;>omega
  show IsRangeIter _ _ (lo+((0:Nat):Int)*1) ((((hi-lo).toNat:Nat):Int)-((0:Nat):Int)) 1;rw[bD,bI];exact Heap.get?_push_size _ rfl
 ·have e:b=(s.heap.push {cls:= .type "range",data:= .fields #[.int lo t,.int hi u,.int 1 v]}).objs.size:=by simpa using ao
  subst e;exact bK.fpOk (QQ _) (bK.hok.fresh (QQ _))
noncomputable def xl (b0:TA):TI:=λaf H R=>b0 af H λvs ax=>∃j:Int,vs=[.int j]∧ -(2 ^ 62)≤j∧j<2 ^ 62∧R (Itr 0 j.toNat) ax
theorem ih{a:Expr}{b0:TA}{p pos:Pos}(bF:Gl X "range")(bv:X.mg "range" =none)(bB:PA X [a] b0)(hs:starEach [a] X.env=[(false,eval a X.env)]:=by rfl):PI X cN (.Call (.Name "range" p) [a] [] pos) (xl b0):=by
 intro ah s af H R I h;refine Call_ (hn I bF bv boot_range (Rg (thn (bB pos ah s af H _ I h) λus bq ⟨vs,ax,bK,cj,b_⟩=>?_) hs rfl));obtain⟨j,e,b_,cO,q⟩:=b_;subst e;cases cj with
 |cons r oM=>
  cases oM;obtain⟨t,rfl⟩:=r;exact call_range_1 (C8 bK (by omega) (by omega) b_ cO (by simpa using q))
noncomputable def xm (ed:TI) (g:TG) (cz:TS):TS:=λD af H=>ed af H λJ ax=>∃W:Nat→Nat→St→Hp→Prop,(∃m,W 0 m af ax)∧∀i m af H,W i m af H→
 (J.stop i H∧D.nx af H)∨(J.go i H∧∃N:St→Hp→Prop,(∀bQ ae,N bQ ae→∃cn,cn<m∧W (i+1) cn bQ ae)∧∀x ae,J.yld i H x ae→g x af ae λcs bo=>cz {D with nx:=N,ct:=N,bk:=D.nx} cs bo)
noncomputable def Zag (fp:List Addr) (h:Heap):List (Addr×Obj):=fp.filterMap λb=>(h.get? b).map λo=>(b,o)
theorem nh{fp:List Addr}{h:Heap}{b:Addr}{o:Obj}(ao:b∈fp)(e:h.get? b=some o):(b,o)∈Zag fp h:=List.mem_filterMap.mpr ⟨b,ao,by rw[e];rfl⟩
theorem Zju{fp:List Addr}{h:Heap}{p:Addr×Obj}(bz:p∈Zag fp h):p.1∈fp∧h.get? p.1=some p.2:=by
 obtain⟨b,ao,e⟩:=List.mem_filterMap.mp bz;cases q:h.get? b with
 |none=>rw[q] at e;cases e
 |some o=>
  rw[q] at e;have b6:(b,o)=p:=Q2 e;subst b6;exact⟨ao,q⟩
theorem Inv.pinned{ah:List (Addr×Obj)}{af:St}{H:Hp}{s:Shared}{fp:List Addr}(I:Inv X ah af H s)(bE:∀b∈fp,gg X ah H b)(bC:∀b∈fp,∃o,s.heap.get? b=some o∧∀v,o.data≠ .cell v):Inv X (ah++Zag fp s.heap) af H s:=
 I.pins_of λp bz=>(Rk.mp bz).elim (λz=>I.pin p (Q9 _ z)) λz=>by
  obtain⟨ao,e⟩:=Zju z;obtain⟨dz,f1,f2,_⟩:=bE p.1 ao;obtain⟨o,b6,d⟩:=bC p.1 ao;rw[e] at b6;cases b6;exact⟨e,dz,f1,f2,d⟩
theorem Inv.unpinned{ah pl:List (Addr×Obj)}{af:St}{H:Hp}{s:Shared}(I:Inv X (ah++pl) af H s):Inv X ah af H s:=I.pins_of λp bz=>I.pin p (Q9 _ (R3 _ bz))
theorem d8{d6:Expr}{body:List Stmt}{ed:TI}{g:TG}{cz:TS}{pos:Pos}(bz:PassesOwn (model X.prog X.w) X.A X.env X.xe)(br:X.calm=true)(hi:PI X cN d6 ed)(bF:PG X cN g)(ao:PSs X body cz)
  (hs:∀x,foldedSetIterable d6 X.env x=pure x:=by intro _;rfl):PS X (.For cN d6 body [] pos) (xm ed g cz):=by
 intro ah s af H D I h;refine wpAny_For (thn (hi ah s af H _ I h) λv bq ap=>thn ap λng bJ a'=>?_) hs;obtain⟨it,fp,dI,J,bo,e,cB,T,j7,f2,W,⟨g8,eQ⟩,turn⟩:=a';subst e;have tb:∀{ae:Hp},(∀b∈fp,ae b=none)→∀b∈fp,gg X ah ae b:=λbG b ao=>⟨bG b ao,(f2 b ao).2⟩;refine codeAny_forLoop_any (λn s'=>∃i bQ ae,Inv X ah bQ ae s'∧dI i s'.heap∧(∀b∈fp,ae b=none)∧W i n bQ ae) ?_ g8 ⟨0,af,bo,cB,j7,λb ao=>(f2 b ao).1,eQ⟩;rintro n bO ⟨i,i8,b2,dk,jE,jF,l7⟩;rcases turn i n i8 b2 l7 with⟨stop,l8⟩|⟨go,N,dx,step⟩
 ·refine wpAny_passesOwn bz (thn (T.done X rfl rfl rfl br i ah bO i8 b2 X.xe dk (tb jF) jE stop) λr b9 ⟨bn,j5⟩=>?_);subst bn;exact wpAny_execs_nil ⟨i8,b2,j5,l8⟩
 ·refine wpAny_passesOwn bz (thn (T.item X rfl rfl rfl br i ah bO i8 b2 X.xe dk (tb jF) jE go) λr b9 ⟨u,bn,cD⟩=>?_);subst bn;refine wpAny_passesOwn bz (thn cD λ_ cC ⟨x,bY,iL,oO,C9,j8,ht⟩=>?_);have C_:=iL.pinned (tb ht) (T.obj _ _ j8);refine wpAny_passesOwn bz (thn (bF _ cC i8 bY x u _ C_ oO (step x bY C9)) λ_ du ⟨C',c5,gf,s_⟩=>?_);refine wpAny_passesOwn bz (thn (ao _ du C' c5 _ gf s_) λf dn k4=>?_);have again:∀{i9:St}{dh:Hp},Inv X (ah++Zag fp cC.heap) i9 dh dn→N i9 dh→∃m,m<n∧∃i bQ ae,Inv X ah bQ ae dn∧dI i dn.heap∧(∀b∈fp,ae b=none)∧W i m bQ ae:=λ{i9 dh} gR oS=>by
   obtain⟨cn,bv,Db⟩:=dx i9 dh oS;refine⟨cn,bv,i+1,i9,dh,gR.unpinned,T.keep _ _ _ j8 λb ao o e=>(gR.pin (b,o) (Q9 _ (Q9 _ (nh ao e)))).1,λb ao=>?_,Db⟩;obtain⟨o,e,d⟩:=T.obj _ _ j8 b ao;exact(gR.pin (b,o) (Q9 _ (Q9 _ (nh ao e)))).2.1
  cases f with
  |next=>obtain⟨i9,dh,gR,oS⟩:=k4;exact again gR oS
  |cont=>obtain⟨i9,dh,gR,oS⟩:=k4;exact again gR oS
  |brk=>obtain⟨i9,dh,gR,k4⟩:=k4;exact⟨i9,dh,gR.unpinned,k4⟩
  |ret v=>obtain⟨x7,i9,dh,gR,k6,k4⟩:=k4;exact⟨x7,i9,dh,gR.unpinned,k6,k4⟩
end
theorem WU{lo:Int}{n:Nat}{g:TG}{cz:TS}{D:W6}{af:St}{H:Hp}(Pv:Nat→St→Hp→Prop)(cw:Pv 0 af H)
  (hs:∀i af H,i<n→Pv i af H→g (.int (lo+i)) af H λcs bo=>cz {D with nx:=Pv (i+1),ct:=Pv (i+1),bk:=D.nx} cs bo) (hd:∀af H,Pv n af H→D.nx af H):
  ∃W:Nat→Nat→St→Hp→Prop,(∃m,W 0 m af H)∧∀i m af H,W i m af H→
   ((Itr lo n).stop i H∧D.nx af H)∨((Itr lo n).go i H∧∃N:St→Hp→Prop,(∀bQ ae,N bQ ae→∃cn,cn<m∧W (i+1) cn bQ ae)∧∀x ae,(Itr lo n).yld i H x ae→g x af ae λcs bo=>cz {D with nx:=N,ct:=N,bk:=D.nx} cs bo):=by
 refine⟨λi m af H=>m=n-i∧i≤n∧Pv i af H,⟨n,by simp,Q5 _,cw⟩,?_⟩;rintro i m af H ⟨rfl,hi,p⟩
 by_cases cL:i<n
 ·refine .inr ⟨cL,Pv (i+1),λbQ ae f0=>⟨n-(i+1),by omega,rfl,cL,f0⟩,λx ae y=>?_⟩;obtain⟨e,y⟩:=y;subst e y;exact hs i af _ cL p
 ·have e:i=n:=by omega
  subst e;exact .inl ⟨QQ _,hd af H p⟩
noncomputable abbrev R2:=V→V→Hp→VK→Prop
def OpR(X:Cx)(f:Value→Value→Sem Value)(r:R2):Prop:=
 ∀(ah:List (Addr×Obj))(s:Shared)(af:St)(H:Hp)(x y:V)(v u:Value)(Q:VK),Inv X ah af H s→cA x v→cA y u→r x y H Q→
  wpAny (model X.prog X.w) X.A (f v u) (EP X ah af Q) X.xe s
def YJ(X:Cx)(f:Value)(r:List V→Hp→VK→Prop):Prop:=
 ∀(ah:List (Addr×Obj))(s:Shared)(af:St)(H:Hp)(xs:List V)(us:List Value)(Q:VK),Inv X ah af H s→cH xs us→r xs H Q→
  wpAny (model X.prog X.w) X.A (call f us) (EP X ah af Q) X.xe s
def ZoO(X:Cx)(r:V→Hp→(Bool→Hp→Prop)→Prop):Prop:=
 ∀(ah:List (Addr×Obj))(s:Shared)(af:St)(H:Hp)(x:V)(v:Value)(Q:Bool→Hp→Prop),Inv X ah af H s→cA x v→r x H Q→
  wpAny (model X.prog X.w) X.A (truthy v) (TP X ah af Q) X.xe s
noncomputable def tOp (r:R2) (b0 cz:TE):TE:=λaf H Q=>b0 af H λx ax=>cz af ax λy bo=>r x y bo Q
noncomputable def rI (C:Int→Int→Prop) (g:Int→Int→V):R2:=λx y H Q=>∃i j,x= .int i∧y= .int j∧C i j∧Q (g i j) H
noncomputable def rI0 (g:Int→Int→V):R2:=λx y H Q=>∃i j,x= .int i∧y= .int j∧Q (g i j) H
section
variable {X:Cx}{a b c:Expr}{b0 cz df:TE}{pos:Pos}
theorem tc(bB:PE X a b0)(ao:PE X b cz){ah:List (Addr×Obj)}{s:Shared}{af:St}{H:Hp}{R:V→V→Hp→Prop}(I:Inv X ah af H s)
  (h:b0 af H λx ax=>cz af ax λy bo=>R x y bo) {Q:Value→Shared→Prop} {f:Value→Value→Sem Value}
  (bE:∀v u bJ x y bo,Inv X ah af bo bJ→cA x v→cA y u→R x y bo→wpAny (model X.prog X.w) X.A (f v u) Q X.xe bJ):
  wpAny (model X.prog X.w) X.A (eval a X.env) (λv da=>wpAny (model X.prog X.w) X.A (eval b X.env) (λu jD=>wpAny (model X.prog X.w) X.A (f v u) Q X.xe jD) X.xe da) X.xe s:=by
 refine thn (bB ah s af H _ I h) λv bq ⟨x,ax,bK,cj,b_⟩=>?_;refine thn (ao ah bq af ax _ bK b_) λu bJ ⟨y,bo,cB,cM,cO⟩=>?_;exact bE v u bJ x y bo cB cj cM cO
theorem cI{op:Operator}{r:R2}(bC:OpR X (binaryOp op) r)(bB:PE X a b0)(ao:PE X b cz):PE X (.BinOp a op b pos) (tOp r b0 cz):=by
 intro ah s af H Q I h;exact wpAny_BinOp (tc bB ao I h λv u bJ x y bo cB bX b' q=>bC ah bJ af bo x y v u Q cB bX b' q)
theorem opI{f:Value→Value→Sem Value}{C:Int→Int→Prop}{g:Int→Int→Int}
  (rule:∀(i j:Int)(t u:Tok)(s:Shared)(Q:Value→Shared→Prop)(E:Value→Shared→Prop),C i j→Q (.int (g i j) s.toks) {s with toks:=s.toks+1}→wpAny (model X.prog X.w) X.A (f (.int i t) (.int j u)) Q E s):
  OpR X f (rI C λi j=> .int (g i j)):=by
 intro ah s af H x y v u Q I bX b' h;obtain⟨i,j,rfl,rfl,br,q⟩:=h;obtain⟨t,rfl⟩:=bX;obtain⟨t',rfl⟩:=b';exact rule i j t t' s _ _ br ⟨.int (g i j),H,I.tok _,⟨_,rfl⟩,q⟩
theorem Znn{f:Value→Value→Sem Value}{g:Int→Int→Int}
  (rule:∀(i j:Int)(t u:Tok)(s:Shared)(Q:Value→Shared→Prop)(E:Value→Shared→Prop),Q (.int (g i j) s.toks) {s with toks:=s.toks+1}→wpAny (model X.prog X.w) X.A (f (.int i t) (.int j u)) Q E s):
  OpR X f (rI0 λi j=> .int (g i j)):=by
 intro ah s af H x y v u Q I bX b' h;obtain⟨i,j,rfl,rfl,q⟩:=h;obtain⟨t,rfl⟩:=bX;obtain⟨t',rfl⟩:=b';exact rule i j t t' s _ _ ⟨.int (g i j),H,I.tok _,⟨_,rfl⟩,q⟩
theorem Zj3{f:Value→Value→Sem Value}{g:Int→Int→Bool}
  (rule:∀(i j:Int)(t u:Tok)(s:Shared)(Q:Value→Shared→Prop)(E:Value→Shared→Prop),Q (.bool (g i j)) s→wpAny (model X.prog X.w) X.A (f (.int i t) (.int j u)) Q E s):
  OpR X f (rI0 λi j=> .bl (g i j)):=by
 intro ah s af H x y v u Q I bX b' h;obtain⟨i,j,rfl,rfl,q⟩:=h;obtain⟨t,rfl⟩:=bX;obtain⟨t',rfl⟩:=b';exact rule i j t t' s _ _ ⟨.bl (g i j),H,I,rfl,q⟩
def Zhx(i j:Int):Prop:=(-(2 ^ 64)<i∧i<2 ^ 64)∨(-(2 ^ 64)<j∧j<2 ^ 64)
theorem Zhx.ok{i j:Int}(h:Zhx i j):IntMulOk i j:=by
 rcases h with⟨ap,a'⟩|⟨ap,a'⟩
 ·exact .of_left (intBits_le_64 ap a')
 ·exact .of_right (intBits_le_64 ap a')
theorem Dc:OpR X (binaryOp .Add) (rI0 λi j=> .int (i+j)):=Znn λ_ _ _ _ _ _ _ q=>add_int q
theorem qV:OpR X (binaryOp .Sub) (rI0 λi j=> .int (i-j)):=Znn λ_ _ _ _ _ _ _ q=>sub_int q
theorem fJ:OpR X (binaryOp .Mod) (rI (λ_ j=>0<j) λi j=> .int (i % j)):=opI λi j _ _ _ _ _ br q=>by
 have ap:(0:Int)<j:=br;exact mod_int' (by omega) (by rw[qaG i (by omega)];exact q)
end
noncomputable def xn:V→V→Bool
 | .non,.non=>true| .non,.int _=>true| .int _,.non=>true| .non,.bl _=>true| .bl _,.non=>true| .non,.str _=>true| .str _,.non=>true
 | .int _,.int _=>true| .bl _,.bl _=>true| .str _,.str _=>true| .byt _,.byt _=>true
 | .int _,.str _=>true| .str _,.int _=>true| .bl _,.str _=>true| .str _,.bl _=>true
 |_,_=>false
noncomputable def rEq:R2:=λx y H Q=>xn x y=true∧Q (.bl (decide (x=y))) H
noncomputable def rNe:R2:=λx y H Q=>xn x y=true∧Q (.bl (!decide (x=y))) H
theorem Zhi{i j:Int}:decide (V.int i=V.int j)=(i==j):=by
 rw[R9];simp
theorem Zi0{i j:Bool}:decide (V.bl i=V.bl j)=(i==j):=by
 rw[R9];simp
theorem Zhj{i j:Str}:decide (V.str i=V.str j)=(i==j):=by
 rw[R9];simp
theorem Zhk{i j:Array UInt8}:decide (V.byt i=V.byt j)=(i.toList==j.toList):=by
 rw[R9];cases i;cases j;simp
section
variable {X:Cx}{a b c:Expr}{b0 cz df:TE}{pos:Pos}
theorem et{ah:List (Addr×Obj)}{af:St}{H:Hp}{s:Shared}{Q:VK}{k k':Bool}(I:Inv X ah af H s)(q:Q (.bl k) H)(e:k=k'):EP X ah af Q (.bool k') s:=by
 subst e;exact⟨.bl k,H,I,rfl,q⟩
theorem Dd:OpR X (compareOp .Eq) rEq:=by
 intro ah s af H x y v u Q I bX b' h;obtain⟨hs,q⟩:=h;cases x with
 |non=>
  cases bX;cases y with
  |non=>cases b';exact PySem.EqNone.eq_none_none (et I q (by simp))
  |bl j=>cases b';exact PySem.EqNone.eq_none_bool (et I q (by simp))
  |int j=>obtain⟨t',rfl⟩:=b';exact PySem.EqNone.eq_none_int (et I q (by simp))
  |str j=>obtain⟨t',rfl⟩:=b';exact PySem.EqNone.eq_none_str (et I q (by simp))
  |_=>exact absurd (show false=true from hs) QY
 |bl i=>
  cases bX;cases y with
  |non=>cases b';exact PySem.EqNone.eq_bool_none (et I q (by simp))
  |bl j=>cases b';exact eq_bool (et I q Zi0)
  |str j=>obtain⟨t',rfl⟩:=b';exact PySem.EqMixed.eq_bool_str (et I q (by simp))
  |_=>exact absurd (show false=true from hs) QY
 |int i=>
  obtain⟨t,rfl⟩:=bX;cases y with
  |non=>cases b';exact PySem.EqNone.eq_int_none (et I q (by simp))
  |int j=>obtain⟨t',rfl⟩:=b';exact eq_int (et I q Zhi)
  |str j=>obtain⟨t',rfl⟩:=b';exact PySem.EqMixed.eq_int_str (et I q (by simp))
  |_=>exact absurd (show false=true from hs) QY
 |str i=>
  obtain⟨t,rfl⟩:=bX;cases y with
  |non=>cases b';exact PySem.EqNone.eq_str_none (et I q (by simp))
  |bl j=>cases b';exact PySem.EqMixed.eq_str_bool (et I q (by simp))
  |int j=>obtain⟨t',rfl⟩:=b';exact PySem.EqMixed.eq_str_int (et I q (by simp))
  |str j=>obtain⟨t',rfl⟩:=b';exact eq_str (et I q Zhj)
  |_=>exact absurd (show false=true from hs) QY
 |byt i=>
  obtain⟨t,rfl⟩:=bX;cases y with
  |byt j=>obtain⟨t',rfl⟩:=b';exact PySem.W.eq_bytes (et I q Zhk)
  |_=>exact absurd (show false=true from hs) QY
 |_=>cases y<;>exact absurd (show false=true from hs) QY
theorem De:OpR X (compareOp .NotEq) rNe:=by
 intro ah s af H x y v u Q I bX b' h;obtain⟨hs,q⟩:=h;cases x with
 |non=>
  cases bX;cases y with
  |non=>cases b';exact PySem.EqNone.ne_none_none (et I q (by simp))
  |bl j=>cases b';exact PySem.EqNone.ne_none_bool (et I q (by simp))
  |int j=>obtain⟨t',rfl⟩:=b';exact PySem.EqNone.ne_none_int (et I q (by simp))
  |str j=>obtain⟨t',rfl⟩:=b';exact PySem.EqNone.ne_none_str (et I q (by simp))
  |_=>exact absurd (show false=true from hs) QY
 |bl i=>
  cases bX;cases y with
  |non=>cases b';exact PySem.EqNone.ne_bool_none (et I q (by simp))
  |bl j=>cases b';exact ne_bool (et I q (congrArg not Zi0))
  |str j=>obtain⟨t',rfl⟩:=b';exact PySem.EqMixed.ne_bool_str (et I q (by simp))
  |_=>exact absurd (show false=true from hs) QY
 |int i=>
  obtain⟨t,rfl⟩:=bX;cases y with
  |non=>cases b';exact PySem.EqNone.ne_int_none (et I q (by simp))
  |int j=>obtain⟨t',rfl⟩:=b';exact ne_int (et I q (congrArg not Zhi))
  |str j=>obtain⟨t',rfl⟩:=b';exact PySem.EqMixed.ne_int_str (et I q (by simp))
  |_=>exact absurd (show false=true from hs) QY
 |str i=>
  obtain⟨t,rfl⟩:=bX;cases y with
  |non=>cases b';exact PySem.EqNone.ne_str_none (et I q (by simp))
  |bl j=>cases b';exact PySem.EqMixed.ne_str_bool (et I q (by simp))
  |int j=>obtain⟨t',rfl⟩:=b';exact PySem.EqMixed.ne_str_int (et I q (by simp))
  |str j=>obtain⟨t',rfl⟩:=b';exact ne_str (et I q (congrArg not Zhj))
  |_=>exact absurd (show false=true from hs) QY
 |byt i=>
  obtain⟨t,rfl⟩:=bX;cases y with
  |byt j=>obtain⟨t',rfl⟩:=b';exact PySem.W.ne_bytes (et I q (congrArg not Zhk))
  |_=>exact absurd (show false=true from hs) QY
 |_=>cases y<;>exact absurd (show false=true from hs) QY
theorem oT:OpR X (compareOp .Lt) (rI0 λi j=> .bl (decide (i<j))):=Zj3 λ_ _ _ _ _ _ _ q=>lt_int q
theorem ni:OpR X (compareOp .Gt) (rI0 λi j=> .bl (decide (j<i))):=Zj3 λ_ _ _ _ _ _ _ q=>gt_int q
theorem oU:OpR X (compareOp .GtE) (rI0 λi j=> .bl (decide (j≤i))):=Zj3 λ_ _ _ _ _ _ _ q=>ge_int q
theorem qW:OpR X (compareOp .Is) (λx y H Q=>y= .non∧Q (.bl (decide (x= .non))) H):=by
 intro ah s af H x y v u Q I bX b' h;obtain⟨rfl,q⟩:=h;cases b';refine is_none_gen (et I q ?_);cases x<;>first
  |(cases bX;rfl)
  |(obtain⟨t,rfl⟩:=bX;rfl)
theorem OpR.or{f:Value→Value→Sem Value}{r cY:R2}(h:OpR X f r)(h':OpR X f cY):OpR X f (λx y H Q=>r x y H Q∨cY x y H Q):=by
 intro ah s af H x y v u Q I bX b' q;rcases q with q|q
 ·exact h ah s af H x y v u Q I bX b' q
 ·exact h' ah s af H x y v u Q I bX b' q
theorem dF(b:Expr){op:CmpOp}(h:op≠ .In:=by decide)(a':op≠ .NotIn:=by decide):behindInMarks op b=false:=by
 have bD:(op==CmpOp.In)=false:=by cases op<;>first|rfl|exact absurd rfl h
 have bI:(op==CmpOp.NotIn)=false:=by cases op<;>first|rfl|exact absurd rfl a'
 cases b<;>simp[behindInMarks,bD,bI]
theorem l9{op:CmpOp}{r:R2}(bC:OpR X (compareOp op) r)(bB:PE X a b0)(ao:PE X b cz)(bv:behindInMarks op b=false):PE X (.Compare a [op] [b] pos) (tOp r b0 cz):=by
 intro ah s af H Q I h;exact wpAny_Compare1 (tc bB ao I h λv u bJ x y bo cB bX b' q=>bC ah bJ af bo x y v u Q cB bX b' q) bv
noncomputable def xo (t:TE):TT:=λaf H Q=>t af H λx ae=>∃k,x= .bl k∧Q k ae
theorem dw{op:CmpOp}{r:R2}(bC:OpR X (compareOp op) r)(bB:PE X a b0)(ao:PE X b cz)(bv:behindInMarks op b=false):PT X (.Compare a [op] [b] pos) (xo (tOp r b0 cz)):=by
 intro ah s af H Q I h;refine wpAny_isTrue_Compare1 (thn (bB ah s af H _ I h) λv bq ⟨x,ax,bK,cj,b_⟩=>thn (ao ah bq af ax _ bK b_) λu bJ ⟨y,bo,cB,cM,cO⟩=>
  thn (bC ah bJ af bo x y v u _ cB cj cM cO) λc bO ⟨z,b2,dk,gE,k,e,eP⟩=>?_) bv
 subst e;cases gE;exact wpAny_truthy_bool ⟨b2,dk,eP⟩
noncomputable def xp (r cY:R2) (b0 cz df:TE):TE:=λaf H Q=>b0 af H λx ax=>cz af ax λy bo=>r x y bo λz b2=>∃k,z= .bl k∧
 (if k=true then df af b2 λdP b7=>cY y dP b7 Q else Q (.bl false) b2)
theorem Df{op td:CmpOp}{r cY:R2}(bC:OpR X (compareOp op) r)(j3:OpR X (compareOp td) cY)(bB:PE X a b0)(ao:PE X b cz)(br:PE X c df)
  (bv:lastMarks [op,td] [b,c]=false:=by with_unfolding_all rfl):PE X (.Compare a [op,td] [b,c] pos) (xp r cY b0 cz df):=by
 intro ah s af H Q I h;refine Compare_chain (thn (bB ah s af H _ I h) λv bq ⟨x,ax,bK,cj,b_⟩=>chain_link (thn (ao ah bq af ax _ bK b_) λu bJ ⟨y,bo,cB,cM,cO⟩=>
  thn (bC ah bJ af bo x y v u _ cB cj cM cO) λd bO ⟨z,b2,dk,gE,k,e,eP⟩=>?_)) bv
 subst e;cases gE;refine wpAny_truthy_bool ?_;cases k with
 |false=>exact ite_ff ⟨.bl false,b2,dk,rfl,eP⟩
 |true=>exact ite_tt (chain_last (thn (br ah bO af b2 _ dk eP) λdP b9 ⟨fZ,b7,j5,hQ,l6⟩=>j3 ah b9 af b7 y fZ u dP Q j5 cM hQ l6))
def oV(K:Frag)(x:V)(H:Hp)(k:Bool):Prop:=
 match x with
 | .non=>k=false
 | .bl b=>k=b
 | .int i=>k=(i != 0)
 | .str y=>y.length≤sizeLine∧k=((y.length:Int) != 0)
 | .byt y=>y.size≤sizeLine∧k=((y.size:Int) != 0)
 | .ref p=>(∃xs,SqL K H p xs∧k= !xs.isEmpty)∨(∃xs,SqT K H p xs∧k= !xs.isEmpty)∨∃kvs,H p=some (.dK kvs)∧k= !kvs.isEmpty
 |_=>False
theorem Zh2{dt:Type}{kvs:List (dt×V)}{vs:List (dt×Value)}(r:KV kvs vs):(!vs.isEmpty)= !kvs.isEmpty:=by
 cases r<;>rfl
theorem Zdm{xs:List V}{its:List Value}(r:cH xs its):(!its.toArray.isEmpty)= !xs.isEmpty:=by
 cases r<;>simp
theorem j9:(sizeLine:Nat)<2 ^ 63:=by rw[sizeLine_eq];decide
theorem Dg:ZoO X (λx H Q=>∃k,oV X.K x H k∧Q k H):=by
 intro ah s af H x v Q I bX h;obtain⟨k,e,q⟩:=h;have ag:=j9;have hs:sizeLine=16777216:=sizeLine_eq;cases x with
 |non=>
  cases bX;have b6:k=false:=e;subst b6;exact truthy_none ⟨H,I,q⟩
 |bl b=>
  cases bX;have b6:k=b:=e;subst b6;exact wpAny_truthy_bool ⟨H,I,q⟩
 |int i=>
  obtain⟨t,rfl⟩:=bX;have b6:k=(i != 0):=e;subst b6;exact PySem.P.truthy_int ⟨H,I,q⟩
 |str y=>
  obtain⟨t,rfl⟩:=bX;obtain⟨bP,b6⟩:y.length≤sizeLine∧k=((y.length:Int) != 0):=e;subst b6;exact PySem.P.truthy_str (by omega) ⟨H,I.tok _,q⟩
 |byt y=>
  obtain⟨t,rfl⟩:=bX;obtain⟨bP,b6⟩:y.size≤sizeLine∧k=((y.size:Int) != 0):=e;subst b6;exact PySem.W.truthy_bytes (by omega) ⟨H,I.tok _,q⟩
 |ref p=>
  cases bX;have b6:(∃xs,SqL X.K H p xs∧k= !xs.isEmpty)∨(∃xs,SqT X.K H p xs∧k= !xs.isEmpty)∨∃kvs,H p=some (.dK kvs)∧k= !kvs.isEmpty:=e;rcases b6 with⟨xs,a_,b6⟩|⟨xs,a_,b6⟩|⟨kvs,a_,b6⟩
  ·subst b6;obtain⟨its,r,pl,hz⟩:=I.list a_;have d1:=r.length;exact wpAny_truthy_list pl.isList (by simp only[QV];omega) ⟨H,I.tok _,by rw[Zdm r];exact q⟩
  ·subst b6;obtain⟨its,r,pl,hz⟩:=I.tuple a_;have d1:=r.length;exact truthy_tuple pl (by simp only[QV];omega) ⟨H,I.tok _,by rw[Zdm r];exact q⟩
  ·subst b6;obtain⟨hz,db,vs,r,m⟩:kvs.length≤sizeLine∧(p==sysModules)=false∧∃vs,KV kvs vs∧s.heap.DictOf (dZ X.prog X.w) p vs:=I.hok p _ a_;have d1:kvs.length=vs.length:=Paired.length r;exact wpAny_truthy_dict db m (by omega) ⟨H,I.tok _,by rw[Zh2 r];exact q⟩
 |_=>exact(show False from e).elim
theorem ZkB(bB:PE X a b0)(bH:∀lY,isTrue a X.env lY=(do let v←lY;standAt a.pos;holding [v] (truthy v))):
  PT X a (λaf H Q=>b0 af H λx ae=>∃k,oV X.K x ae k∧Q k ae):=by
 intro ah s af H Q I h;exact isTrue_plain (thn (bB ah s af H _ I h) λv bq ⟨x,ax,bK,cj,b_⟩=>Dg ah bq af ax x v Q bK cj b_) (bH _)
theorem Dh:OpR X (binaryOp .Add) (λx y H Q=>∃i j,x= .str i∧y= .str j∧i.length+j.length≤sizeLine∧Q (.str (i++j)) H):=by
 intro ah s af H x y v u Q I bX b' h;obtain⟨i,j,rfl,rfl,hz,q⟩:=h;obtain⟨t,rfl⟩:=bX;obtain⟨t',rfl⟩:=b';exact add_str (λt' bT=>⟨.str (i++j),H,I.tok _,⟨_,rfl⟩,q⟩) hz
theorem Wd{x:V}{us:List Value}(r:cH [x] us):∃u,us=[u]∧cA x u:=by
 cases r with
 |cons cj cM=>cases cM;exact⟨_,rfl,cj⟩
theorem ZnQ{x y:V}{us:List Value}(r:cH [x,y] us):∃u dP,us=[u,dP]∧cA x u∧cA y dP:=by
 cases r with
 |cons cj cM=>
  cases cM with
  |cons gE hQ=>cases hQ;exact⟨_,_,rfl,cj,gE⟩
theorem Dj(br:X.calm=true):YJ X (.builtin "min") (λxs H Q=>∃i j,xs=[.int i,.int j]∧Q (.int (if j<i then j else i)) H):=by
 intro ah s af H xs us Q I r h;obtain⟨i,j,rfl,q⟩:=h;obtain⟨u,dP,rfl,⟨t,rfl⟩,⟨t',rfl⟩⟩:=ZnQ r;refine min_two_ints (I.ok.hd br) λh' bT k=>⟨_,H,I.kept k,?_,q⟩
 by_cases bw:j<i
 ·rw[if_pos bw,if_pos bw];exact⟨_,rfl⟩
 ·rw[if_neg bw,if_neg bw];exact⟨_,rfl⟩
def Zcj(K:Frag)(x:V)(H:Hp)(n:Nat):Prop:=
 match x with
 | .str y=>y.length≤sizeLine∧n=y.length
 | .byt y=>y.size≤sizeLine∧n=y.size
 | .ref p=>(∃xs,SqL K H p xs∧n=xs.length)∨∃xs,SqT K H p xs∧n=xs.length
 |_=>False
theorem Dk:YJ X (.builtin "len") (λxs H Q=>∃x n,xs=[x]∧Zcj X.K x H n∧Q (.int n) H):=by
 intro ah s af H xs us Q I r h;obtain⟨x,n,rfl,e,q⟩:=h;obtain⟨u,rfl,bX⟩:=Wd r;have ag:=j9;have hs:sizeLine=16777216:=sizeLine_eq;cases x with
 |str y=>
  obtain⟨t,rfl⟩:=bX;obtain⟨bP,b6⟩:y.length≤sizeLine∧n=y.length:=e;subst b6;exact len_str (by omega) ⟨.int _,H,I.tok _,⟨_,rfl⟩,q⟩
 |byt y=>
  obtain⟨t,rfl⟩:=bX;obtain⟨bP,b6⟩:y.size≤sizeLine∧n=y.size:=e;subst b6;exact PySem.W.len_bytes (by omega) ⟨.int _,H,I.tok _,⟨_,rfl⟩,q⟩
 |ref p=>
  cases bX;have b6:(∃xs,SqL X.K H p xs∧n=xs.length)∨∃xs,SqT X.K H p xs∧n=xs.length:=e;rcases b6 with⟨xs,a_,b6⟩|⟨xs,a_,b6⟩
  ·subst b6;obtain⟨its,cY,pl,hz⟩:=I.list a_;have d1:=cY.length;exact Calls.call_len_list pl.isList (by simp only[QV];omega) ⟨.int xs.length,H,I.tok _,⟨_,by simp only[QV];rw[d1]⟩,q⟩
  ·subst b6;obtain⟨its,cY,pl,hz⟩:=I.tuple a_;have d1:=cY.length;exact len_tuple pl (by simp only[QV];omega) ⟨.int xs.length,H,I.tok _,⟨_,by simp only[QV];rw[d1]⟩,q⟩
 |_=>exact(show False from e).elim
end
structure l_(h:Heap)(x bu C:Addr)(dN:Str→Option Value):Prop where
 obj:h.get? x=some (instObj C bu)
 ns:h.Ns1 bu dN
 ne:bu≠x
theorem ZiR{h:Heap}{bu:Addr}{dN:Str→Option Value}(n:h.Ns1 bu dN):∃dO,h.get? bu=some dO∧∀name,lookIn name dO=some (dN name):=by
 obtain⟨o,bx,ep,bC,hd,bp,_,bv⟩:=n;refine⟨o,bC,λname=>?_⟩;have e:=bv name;unfold nsFind findBy at e;rw[←Array.find?_toList] at e;unfold lookIn;rw[hd];dsimp only
 split
 ·rename_i y q;rw[q] at e;exact congrArg some e
 ·rename_i q;rw[q] at e;have a:bx.toList.any (·.refKey)=false:=by
   rw[List.any_eq_false];intro y bP;obtain⟨z,t,oW⟩:=bp y (Array.mem_toList_iff.mp bP);simp[DictEntry.refKey,oW]
  have dq:¬bx.toList.any (·.refKey)=true:=by rw[a];exact QY
  rw[if_neg dq];exact congrArg some e
theorem l_.look{h:Heap}{x bu C:Addr}{dN:Str→Option Value}(I:l_ h x bu C dN):∃dO,PySem.W.InstAt h x (instObj C bu) C (some dO)∧∀name,lookIn name dO=some (dN name):=
 let⟨dO,bC,ag⟩:=ZiR I.ns
 ⟨dO,⟨I.obj,rfl,rfl,bC⟩,ag⟩
section
variable {prog:Program}{w:World}{A:Around}{E:Value→Shared→Prop}{s:Shared}{K:Frag}{x bu C f:Addr}{dN:Str→Option Value}{name:Str}{v:Value}
theorem ZlM{Dl:Bool}{Q:Value→Shared→Prop}(X:K.In s.heap)(I:l_ s.heap x bu C dN)(bF:plainGet K C name=true)(bR:hasDictIn K C=true)
  (bB:PySem.W.findIn K (.ref C) name=some none) (b8:dN name=some v) (hv:handedIn v=true) (h:Q v {s with toks:=s.toks+1}):
  wpAny (model prog w) A (getAttr (.ref x) name Dl) Q E s:=by
 obtain⟨dO,J,ag⟩:=I.look;exact PySem.W.get_value X J (plainGet_of bF).1 (PySem.W.findObj_own bR bB rfl (by rw[ag,b8])) hv h
theorem Zkf{pl:Sem Bool}{Q:Value×List Value→Shared→Prop}(X:K.In s.heap)(I:l_ s.heap x bu C dN)(bF:plainGet K C name=true)
  (bE:PySem.W.findIn K (.ref C) name=some (some (.ref f))) (b3:isFn K (.ref f)=true) (b8:dN name=none) (h:Q (.ref f,[.ref x]) s):
  wpAny (model prog w) A (getMethod (.ref x) name pl) Q E s:=by
 obtain⟨dO,J,ag⟩:=I.look;exact PySem.W.method_fn X J (plainGet_of bF).1 (plainGet_of bF).2 bE (beq_iff_eq.mp b3) (by show(lookIn name dO).map (·.isSome)=some false;rw[ag,b8];rfl) h
theorem ZlV{ns:List Str}{Q:Unit→Shared→Prop}(X:K.In s.heap)(I:l_ s.heap x bu C dN)
  (hs:PySem.W.findIn K (.ref C) "__setattr__" =some (some (.builtin "object.__setattr__"))) (bz:plainOver K C=true) (b3:takerIn K C name=some none) (bR:hasDictIn K C=true)
  (hw:PySem.Within dN ns) (hsz:ns.length≤sizeLine)
  (h:∀h',l_ h' x bu C (λy=>if y=name then some v else dN y)→Heap.SameBut bu s.heap h'→Q () {s with heap:=h',toks:=s.toks+2}):
  wpAny (model prog w) A (setAttr (.ref x) name v) Q E s:=by
 obtain⟨dO,J,ag⟩:=I.look;refine PySem.W.set_plain X J hs (PySem.W.osa_open (s:={s with toks:=s.toks+1}) (r:=none) X J bz b3 λb=>?_);obtain⟨c0,br,gD⟩:=PySem.W.any_some bR;have a_:s.heap.get? x=some ⟨.ref C,some bu,.plain,#[]⟩:=I.obj;refine wpAny_bind (wpAny_pure (wpAny_bind (wpAny_bind (wpAny_loadPart a_ (wpAny_bind (PySem.W.Looks.here (s:={s with toks:=s.toks+1}) (PySem.W.looks_clsIn X br) ?_))))));rw[gD];refine wpAny_pure (a:=some bu) (wpAny_bind (wpAny_pure (wpAny_bind ?_)));refine wpAny_nsSet1 (s:={s with toks:=s.toks+1}) I.ns λh' i_ ii=>?_;obtain⟨oD,OL,OM,Do,Dp,j_⟩:=i_.count (PySem.Within.cons name v hw);refine wpAny_bind (wpAny_lookBehind Do (by rw[Dp];exact pastItsLine_dict (QZ j_ (by rw[List.length_cons];omega))) ?_);exact wpAny_pure (h _ ⟨(ii.2 _ (qao I.ne)).trans I.obj,i_,I.ne⟩ ii)
theorem xq{R:Result→Shared→Prop}{vs:List Value}{kw:List (Str×Value)}(X:K.In s.heap)(bv:makesIn K C=true)
  (hi:PySem.W.findIn K (.ref C) "__init__" =some (some (.ref f))) (bE:typeIn K (.ref f)=some (.type "function"))
  (h:codeAny (model prog w) (A.under (.builtin "type.__call__" ⟨.ref C::vs,kw⟩)) (.call (.ref f) ⟨.ref (s.heap.objs.size+1)::vs,kw⟩) (PySem.W.InitBack (s.heap.objs.size+1) R)
   {s with heap:=(s.heap.push emptyDict).push (instObj C s.heap.objs.size)}):
  codeAny (model prog w) A (.call (.ref C) ⟨vs,kw⟩) R s:=by
 obtain⟨bR,g,d,t,os⟩:=s;exact PySem.W.make_core (PySem.W.makes_of X bv) (PySem.W.looks_findIn X hi) (λself=>PySem.W.bind_fn X self bE) (.inl rfl) h
end
noncomputable def fi (f:Str) (v:V):List (Str×V)→List (Str×V)
 | []=>[(f,v)]
 |(g,x)::r=>if g=f then(g,v)::r else(g,x)::fi f v r
theorem Zb9(f g:Str)(v:V):∀fs:List (Str×V),(fi f v fs).lookup g=if g=f then some v else fs.lookup g
 | []=>by
  show List.lookup g [(f,v)]=_
  by_cases h:g=f
  ·have ao:(g==f)=true:=beq_iff_eq.mpr h;simp only[List.lookup,ao,if_pos h]
  ·have ao:(g==f)=false:=beq_eq_false_iff_ne.mpr h;simp only[List.lookup,ao,if_neg h]
 |(k,x)::r=>by
  have bM:=Zb9 f g v r;rw[show fi f v ((k,x)::r)=(if k=f then(k,v)::r else(k,x)::fi f v r) from rfl]
  by_cases bp:k=f
  ·rw[if_pos bp]
   by_cases h:g=k
   ·have ao:(g==k)=true:=beq_iff_eq.mpr h;simp only[List.lookup,ao,if_pos (h.trans bp)]
   ·have ao:(g==k)=false:=beq_eq_false_iff_ne.mpr h;simp only[List.lookup,ao,if_neg (λe:g=f=>h (e.trans bp.symm))]
  ·rw[if_neg bp]
   by_cases h:g=k
   ·have ao:(g==k)=true:=beq_iff_eq.mpr h;simp only[List.lookup,ao,if_neg (λe:g=f=>bp (h.symm.trans e))]
   ·have ao:(g==k)=false:=beq_eq_false_iff_ne.mpr h;simp only[List.lookup,ao];exact bM
theorem te(f:Str)(v:V):∀fs:List (Str×V),f∈(fi f v fs).map (·.1)∧∀g,g∈fs.map (·.1)→g∈(fi f v fs).map (·.1)
 | []=>⟨by simp[fi],λg h=>by simp at h⟩
 |(k,x)::r=>by
  obtain⟨g9,oX⟩:=te f v r;rw[show fi f v ((k,x)::r)=(if k=f then(k,v)::r else(k,x)::fi f v r) from rfl]
  by_cases bp:k=f
  ·rw[if_pos bp];subst bp;exact⟨by simp,λg h=>by simpa using h⟩
  ·rw[if_neg bp];refine⟨?_,λg h=>?_⟩
   ·rw[List.map_cons];exact Q7 _ g9
   ·rw[List.map_cons] at h⊢;rcases QW.mp h with e|e
    ·exact QW.mpr (.inl e)
    ·exact Q7 _ (oX g e)
theorem Zci(f:Str)(v:V):∀fs:List (Str×V),(fi f v fs).length≤fs.length+1
 | []=>by simp[fi]
 |(k,x)::r=>by
  have bM:=Zci f v r;rw[show fi f v ((k,x)::r)=(if k=f then(k,v)::r else(k,x)::fi f v r) from rfl]
  by_cases bp:k=f
  ·rw[if_pos bp,List.length_cons,List.length_cons];omega
  ·rw[if_neg bp,List.length_cons,List.length_cons];omega
theorem gC.some_of{v:V}{o:Option Value}(r:gC (some v) o):∃u,o=some u∧cA v u:=by
 cases o with
 |none=>exact(show False from r).elim
 |some u=>exact⟨u,rfl,r⟩
theorem gC.none_of{o:Option Value}(r:gC none o):o=none:=by
 cases o with
 |none=>rfl
 |some u=>exact(show False from r).elim
theorem Dq{v:V}{u:Value}(r:cA v u):handedIn u=true:=by
 cases v with
 |non=>cases (show u=Value.none from r);rfl
 |bl b=>cases (show u=Value.bool b from r);rfl
 |int i=>obtain⟨t,e⟩:=(show ∃t,u=Value.int i t from r);cases e;rfl
 |str x=>obtain⟨t,e⟩:=(show ∃t,u=Value.str x t from r);cases e;rfl
 |byt b=>obtain⟨t,e⟩:=(show ∃t,u=Value.bytes b t from r);cases e;rfl
 |flt b=>obtain⟨t,e⟩:=(show ∃t,u=Value.float b t from r);cases e;rfl
 |ref a=>cases (show u=Value.ref a from r);rfl
 |ty n=>cases (show u=Value.type n from r);rfl
section
variable {P:Program}{w:World}{H ae:Hp}{h h':Heap}{a C bu:Addr}{fs qR:List (Str×V)}
theorem ZbL(hok:HOk P w H h)(e:H a=some (.ins C bu fs)):∃dN,l_ h a bu C dN∧(∀f,gC (fs.lookup f) (dN f))∧PySem.Within dN (fs.map (·.1))∧fs.length≤1000∧H bu=some (.own a):=by
 obtain⟨d,z,ne,cx,dN,n,r,q⟩:=(show ZW P w H h a (.ins C bu fs) from hok a _ e);exact⟨dN,⟨cx,n,ne⟩,r,q,z,d⟩
end
structure Cls(K:Frag)(C:Addr):Prop where
 pg:plainGet K C Str.empty=true
 hd:hasDictIn K C=true
 po:plainOver K C=true
 sa:PySem.W.findIn K (.ref C) "__setattr__" =some (some (.builtin "object.__setattr__"))
theorem Cls.get{K:Frag}{C:Addr}(c:Cls K C)(f:Str):plainGet K C f=true:=c.pg
def hS(K:Frag)(C:Addr)(f:Str):Prop:=PySem.W.findIn K (.ref C) f=some none
theorem hS.taker{K:Frag}{C:Addr}{f:Str}(n:hS K C f):takerIn K C f=some none:=by
 unfold takerIn;rw[show PySem.W.findIn K (.ref C) f=some none from n]
 rfl
structure Zd3(K:Frag)(C:Addr)(m:Str)(f:Addr):Prop where
 at_:PySem.W.findIn K (.ref C) m=some (some (.ref f))
 fn:isFn K (.ref f)=true
 kp:keepIn K (.ref f)=true
section
variable {X:Cx}{ah:List (Addr×Obj)}{af:St}{H:Hp}{s:Shared}{a C bu:Addr}{fs:List (Str×V)}{f:Str}{v:V}{A:Around}{E:Value→Shared→Prop}
theorem ZhO{b:Bool}{Q:Value→Shared→Prop}(I:Inv X ah af H s)(e:H a=some (.ins C bu fs))(c:Cls X.K C)(n:hS X.K C f)(l:fs.lookup f=some v)
  (h:∀u s',Inv X ah af H s'→cA v u→Q u s'):wpAny (model X.prog X.w) A (getAttr (.ref a) f b) Q E s:=by
 obtain⟨dN,O,r,_,_,_⟩:=ZbL I.hok e;obtain⟨u,hu,dX⟩:=gC.some_of (v:=v) (o:=dN f) (by rw[←l];exact r f);exact ZlM I.kIn O (c.get f) c.hd n hu (Dq dX) (h u _ (I.tok _) dX)
theorem ZaJ{m:Str}{g:Addr}{pl:Sem Bool}{Q:Value×List Value→Shared→Prop}(I:Inv X ah af H s)(e:H a=some (.ins C bu fs))(c:Cls X.K C)(k:Zd3 X.K C m g)(l:fs.lookup m=none)
  (h:Q (.ref g,[.ref a]) s):wpAny (model X.prog X.w) A (getMethod (.ref a) m pl) Q E s:=by
 obtain⟨dN,O,r,_,_,_⟩:=ZbL I.hok e;have bG:dN m=none:=gC.none_of (by rw[←l];exact r m);exact Zkf I.kIn O (c.get m) k.at_ k.fn bG h
theorem Zhw{y:V}{u:Value}{Q:Unit→Shared→Prop}(I:Inv X ah af H s)(e:H a=some (.ins C bu fs))(c:Cls X.K C)(n:hS X.K C f)(ag:fs.length<1000)(b':cA y u)
  (h:∀s',Inv X ah af (upd H a (.ins C bu (fi f y fs))) s'→Q () s'):wpAny (model X.prog X.w) A (setAttr (.ref a) f u) Q E s:=by
 obtain⟨dN,O,r,ed,_,bC⟩:=ZbL I.hok e;have hz:(fs.map (·.1)).length≤sizeLine:=by rw[QM,sizeLine_eq];omega
 refine ZlV I.kIn O c.sa c.po n.taker c.hd ed hz λh' O' hr=>h _ ?_;have hd:∃o,h'.get? bu=some o:=let⟨o,_,_,b6,_⟩:=O'.ns;⟨o,b6⟩
 refine I.write (x:=a) (e:=bu) (by rw[e];exact True.intro) (.inr bC) (λb q ao z=>(hr.2 b ao).trans z) hd ?_;refine⟨by rw[bW O.ne];exact bC,?_,O.ne,O'.obj,_,O'.ns,λg=>?_,λg bF=>?_⟩
 ·have:=Zci f y fs;omega
 ·show gC ((fi f y fs).lookup g) (if g=f then some u else dN g);rw[Zb9]
  by_cases q:g=f
  ·rw[if_pos q,if_pos q];exact b'
  ·rw[if_neg q,if_neg q];exact r g
 ·by_cases q:g=f
  ·rw[q];exact(te f y fs).1
  ·refine(te f y fs).2 g (ed g λz=>bF ?_);show(if g=f then some u else dN g)=none;rw[if_neg q];exact z
theorem Inv.made(I:Inv X ah af H s):Inv X ah af (upd (upd H s.heap.objs.size (.own (s.heap.objs.size+1))) (s.heap.objs.size+1) (.ins C s.heap.objs.size []))
  {s with heap:=(s.heap.push emptyDict).push (instObj C s.heap.objs.size)}:=by
 have bD:(s.heap.push emptyDict).get? s.heap.objs.size=some emptyDict:=Heap.get?_push_size s.heap rfl;have bI:((s.heap.push emptyDict).push (instObj C s.heap.objs.size)).get? (s.heap.objs.size+1)=some (instObj C s.heap.objs.size):=by
  have:=Heap.get?_push_size (s.heap.push emptyDict) (o:=instObj C s.heap.objs.size) rfl
  rwa [Heap.size_push] at this
 have c6:(s.heap.push emptyDict).Ns s.heap.objs.size (λ_=>none):=⟨emptyDict,#[],_,bD,rfl,(λe bH=>absurd bH (by simp)),λ_=>rfl⟩;have bK:=I.laid (a:=s.heap.objs.size) (o:= .own (s.heap.objs.size+1)) (h':=s.heap.push emptyDict) (t':=s.toks) (λb u q=>Heap.get?_push_of_some _ q) (QQ _) ⟨_,bD⟩;refine bK.laid (a:=s.heap.objs.size+1) (o:= .ins C s.heap.objs.size []) (t':=s.toks) (λb u q=>Heap.get?_push_of_some _ q) (Nat.le_of_eq (Heap.size_push _ _)) ?_;have ne:s.heap.objs.size≠s.heap.objs.size+1:=Q0 (qac _);refine⟨by rw[bW ne,Zd],Q5 _,ne,bI,λ_=>none,(Heap.Ns1.of_empty c6).at λo q=>Heap.get?_push_of_some _ q,λ_=>True.intro,λy bP=>absurd rfl bP⟩
theorem Zl8{prog:Program}{w:World}{env:Env}{e:Expr}{f:Str}{pos:Pos}{s:Shared}{Q:Value→Shared→Prop}(ao:attributeBase e f env (eval e env)=eval e env)
  (h:wpAny (model prog w) A (eval e env) (λo da=>wpAny (model prog w) A (getAttr o f true) Q E da) E s):wpAny (model prog w) A (eval (.Attribute e f pos) env) Q E s:=
 Attribute_any_ h (by rw[arm_eval_Attribute,ao])
end
noncomputable def tf (K:Frag) (b0:TE) (f:Str):TE:=λaf H Q=>b0 af H λx ax=>∃a C bu fs v,x= .ref a∧ax a=some (.ins C bu fs)∧Cls K C∧hS K C f∧fs.lookup f=some v∧Q v ax
noncomputable def tg (K:Frag) (b0 g_:TE) (f:Str):TS:=λD af H=>g_ af H λy ax=>b0 af ax λx bo=>∃a C bu fs,x= .ref a∧bo a=some (.ins C bu fs)∧Cls K C∧hS K C f∧fs.length<1000∧
 D.nx af (upd bo a (.ins C bu (fi f y fs)))
section
variable {X:Cx}{o e value:Expr}{f:Str}{pos i7 l5:Pos}{b0 g_:TE}
theorem Zmi(bH:PE X e b0)(ao:attributeBase e f X.env (eval e X.env)=eval e X.env):PE X (.Attribute e f pos) (tf X.K b0 f):=by
 intro ah s af H Q I h;refine Zl8 ao (thn (bH ah s af H _ I h) λu bq ⟨x,ax,bK,bX,a,C,bu,fs,v,ex,cm,c,n,l,q⟩=>?_);subst ex;obtain rfl:u=Value.ref a:=bX;exact ZhO bK cm c n l λjB bJ cB dX=>⟨v,ax,cB,dX,q⟩
theorem Znh(bB:PE X o b0)(b8:PE X value g_)(hs:swapsWith value (some (.Attribute o f i7)) pos.line X.env=pure false):PS X (.Assign [.Attribute o f i7] value pos) (tg X.K b0 g_ f):=by
 intro ah s af H D I h;refine plainObj_wpAny_Assign_Attribute (thn (b8 ah s af H _ I h) λu bq ⟨y,ax,bK,b',q⟩=>thn (bB ah bq af ax _ bK q) λdg bJ ⟨x,bo,cB,bX,a,C,bu,fs,ex,cm,c,n,l,cO⟩=>?_) hs;subst ex;obtain rfl:dg=Value.ref a:=bX;exact Zhw cB cm c n l b' λbO dk=>⟨af,_,dk,cO⟩
theorem Zny{pl:Sem Bool}{m:Str}{di:Pos}{args:List Expr}{ah:List (Addr×Obj)}{s:Shared}{af:St}{H:Hp}{Q:Value→Shared→Prop}{cu:TE}(bH:PE X e cu)(I:Inv X ah af H s)
  (h:cu af H λx ax=>∃a C bu fs g,x= .ref a∧ax a=some (.ins C bu fs)∧Cls X.K C∧Zd3 X.K C m g∧fs.lookup m=none∧
   ∀bq,Inv X ah af ax bq→wpAny (model X.prog X.w) X.A (callWith pos (.ref g) [.ref a] (backTo pos (starEach args X.env)) (backToKw pos (keywordEach [] X.env))) Q X.xe bq)
  (b3:eval (.Call (.Attribute e m di) args [] pos) X.env=(do
   let dg←eval e X.env
   standAt di.atName
   let(f,first)←holding [dg] (getMethod dg m pl)
   callWith pos f first (backTo pos (starEach args X.env)) (backToKw pos (keywordEach [] X.env)))):
  wpAny (model X.prog X.w) X.A (eval (.Call (.Attribute e m di) args [] pos) X.env) Q X.xe s:=by
 refine methodCall_KW (pl:=pl) (thn (bH ah s af H _ I h) λu bq ⟨x,ax,bK,bX,a,C,bu,fs,g,ex,cm,c,k,l,q⟩=>?_) b3;subst ex;obtain rfl:u=Value.ref a:=bX;exact ZaJ bK cm c k l (q bq bK)
end
section
variable {X:Cx}{ah:List (Addr×Obj)}{af:St}{H:Hp}{s:Shared}{A:Around}{E:Value→Shared→Prop}{Q:Value→Shared→Prop}{c:Value}{b:Bool}
inductive Wq(K:Frag)(H:Hp):V→Value→Prop where
 |non:Wq K H .non (.type "NoneType")
 |bl (x:Bool):Wq K H (.bl x) (.type "bool")
 |int (i:Int):Wq K H (.int i) (.type "int")
 |str (x:Str):Wq K H (.str x) (.type "str")
 |flt (x:UInt64):Wq K H (.flt x) (.type "float")
 |lst {a:Addr} {xs:List V} (e:H a=some (.lst xs)):Wq K H (.ref a) (.type "list")
 |frz {a:Addr} {o:Obj} {xs:List V} (e:H a=some (.frz o (.lst xs))):Wq K H (.ref a) (.type "list")
 |tup {a:Addr} {xs:List V} (e:H a=some (.tup xs)):Wq K H (.ref a) (.type "tuple")
 |dK {a:Addr} {kvs:List (Key×V)} (e:H a=some (.dK kvs)):Wq K H (.ref a) (.type "dict")
 |dT {a:Addr} {kvs:List (List Key×V)} (e:H a=some (.dT kvs)):Wq K H (.ref a) (.type "dict")
 |ins {a C bu:Addr} {fs:List (Str×V)} (e:H a=some (.ins C bu fs)) (cl:Cls K C) (bB:PySem.W.findIn K (.ref C) "__class__" =some (some (.builtin "object.__class__")))
   (bG:PySem.W.specialIn K (.builtin "object.__class__") "__get__" =some (some (.builtin "getset_descriptor.__get__"))) (gh:PySem.W.takesIn K (.builtin "object.__class__")=some true)
   (bv:PySem.W.mroIn K C (.type "object")=some true):Wq K H (.ref a) (.ref C)
theorem Zjp{x:V}{u t:Value}(I:Inv X ah af H s)(bX:cA x u)(ty:Wq X.K H x t)(e:PySem.W.kitOne X.K t c=some b)(h:∀bT,Q (.bool b) {s with toks:=bT}):
  wpAny (model X.prog X.w) A (call (.builtin "isinstance") [u,c]) Q E s:=by
 cases ty with
 |non=>cases (show u=Value.none from bX);exact RN PySem.W.kitx_none I.kIn True.intro e (λz=>nomatch z) h
 |bl y=>cases (show u=Value.bool y from bX);exact RN PySem.W.kitx_bool I.kIn True.intro e (λz=>nomatch z) h
 |int i=>obtain⟨t,q⟩:=(show ∃t,u=Value.int i t from bX);cases q;exact RN PySem.W.kitx_int I.kIn True.intro e (λz=>nomatch z) h
 |str y=>obtain⟨t,q⟩:=(show ∃t,u=Value.str y t from bX);cases q;exact RN PySem.W.kitx_str I.kIn True.intro e (λz=>nomatch z) h
 |flt y=>obtain⟨t,q⟩:=(show ∃t,u=Value.float y t from bX);cases q;exact RN PySem.W.kitx_float I.kIn True.intro e (λz=>nomatch z) h
 | @lst a xs cm=>
  cases (show u=Value.ref a from bX);obtain⟨_,_,n,_,ap⟩:=(show ZW X.prog X.w H s.heap a (.lst xs) from I.hok a _ cm);exact RN kitx_list I.kIn ⟨_,ap,rfl⟩ e (λz=>nomatch z) h
 | @frz a cx xs cm=>
  cases (show u=Value.ref a from bX);obtain⟨_,_,_,n,_,ap⟩:=(show ZW X.prog X.w H s.heap a (.frz cx (.lst xs)) from I.hok a _ cm);exact RN kitx_list I.kIn ⟨_,ap,rfl⟩ e (λz=>nomatch z) h
 | @tup a xs cm=>
  cases (show u=Value.ref a from bX);obtain⟨_,_,_,p⟩:=(show ZW X.prog X.w H s.heap a (.tup xs) from I.hok a _ cm);obtain⟨o,ap,a',_⟩:=p;exact RN PySem.W.kitx_tuple I.kIn ⟨o,ap,a'⟩ e (λz=>nomatch z) h
 | @dK a kvs cm=>
  cases (show u=Value.ref a from bX);obtain⟨_,_,vs,_,p⟩:=(show ZW X.prog X.w H s.heap a (.dK kvs) from I.hok a _ cm);obtain⟨o,bx,ep,ap,a',_⟩:=p;exact RN kitx_dict I.kIn ⟨o,ap,a'.1⟩ e (λz=>nomatch z) h
 | @dT a kvs cm=>
  cases (show u=Value.ref a from bX);obtain⟨_,_,xs,_,o,bx,ep,ap,a',_⟩:=(show ZW X.prog X.w H s.heap a (.dT kvs) from I.hok a _ cm);exact RN kitx_dict I.kIn ⟨o,ap,a'.1⟩ e (λz=>nomatch z) h
 | @ins a C bu fs cm cl bB bG gh bv=>
  cases (show u=Value.ref a from bX);obtain⟨dN,O,_⟩:=ZbL I.hok cm;obtain⟨dO,J,_⟩:=O.look;exact RN (PySem.W.kitx_own (cl.get _) cl.hd bB bG gh bv) I.kIn J e (λz=>nomatch z) h
end
structure ef(k:Nat)(A:Around):Prop where
 hd:A.handled=none
 dp:A.depth+3*k+5<recursionLimit
 un:A.units+16*k+200<cLine
theorem ef.mono{j k:Nat}{A:Around}(r:ef k A)(h:j≤k):ef j A:=⟨r.hd,by have:=r.dp;omega,by have:=r.un;omega⟩
theorem ef.deeper{k:Nat}{A:Around}(r:ef (k+1) A)(env:Env):ef k (A.deeper env):=
 ⟨r.hd,by have:=r.dp;show A.depth+1+3*k+5<_;omega,by have:=r.un;show A.units+3+16*k+200<_;omega⟩
theorem ZhQ{A:Around}{C:Addr}{us:List Value}{kw:List (Str×Value)}:(A.under (.builtin "type.__call__" ⟨.ref C::us,kw⟩)).depth=A.depth+1:=by
 first|rfl|simp[Around.under,Code.weight,Code.isCreation,Code.isGuard,Code.isCaller,Code.frames,Code.isFrame,guardIds]
theorem Zit{A:Around}{C:Addr}{us:List Value}{kw:List (Str×Value)}:(A.under (.builtin "type.__call__" ⟨.ref C::us,kw⟩)).units=A.units+1:=by
 first|rfl|simp[Around.under,Code.cUnits,Code.frames,Code.isFrame]
theorem ef.make{k:Nat}{A:Around}(r:ef (k+1) A)(C:Addr)(us:List Value)(kw:List (Str×Value)):ef k (A.under (.builtin "type.__call__" ⟨.ref C::us,kw⟩)):=
 ⟨r.hd,by have:=r.dp;rw[ZhQ];omega,by have:=r.un;rw[Zit];omega⟩
theorem ef.depth{k:Nat}{A:Around}(r:ef k A):A.depth<recursionLimit:=by have:=r.dp;omega
theorem ef.units{k:Nat}{A:Around}(r:ef k A):A.units+64<cLine:=by have:=r.un;omega
noncomputable def tNil:TA:=λ_ H Q=>Q [] H
noncomputable def xr (b0:TE) (bL:TA):TA:=λaf H Q=>b0 af H λx ax=>bL af ax λxs bo=>Q (x::xs) bo
section
variable {X:Cx}{e:Expr}{bx:List Expr}{cu:TE}{t:TA}{pos:Pos}
theorem bA:PA X [] tNil:=λ_ _ _ _ H Q I h=>Calls.spliced_nil ⟨[],H,I,.nil,h⟩
theorem bt(bB:PE X e cu)(bn:PA X bx t)(hs:starEach (e::bx) X.env=(false,eval e X.env)::starEach bx X.env:=by rfl):PA X (e::bx) (xr cu t):=by
 intro pos ah s af H Q I h;rw[hs];show wpAny _ _ (spliced ((false,eval e X.env)::backTo pos (starEach bx X.env))) _ _ s;refine Calls.spliced_cons (thn (bB ah s af H _ I h) λu bq ⟨x,ax,bK,cj,b_⟩=>?_);exact thn (bn pos ah bq af ax _ bK b_) λus bJ ⟨xs,bo,cB,cM,cO⟩=>⟨x::xs,bo,cB,.cons cj cM,cO⟩
noncomputable def xt (t:TA):TE:=λaf H Q=>t af H λxs ax=>xs.length≤sizeLine∧∀p,ax p=none→Q (.ref p) (upd ax p (.tup xs))
noncomputable def ti (t:TA):TE:=λaf H Q=>t af H λxs ax=>xs.length≤sizeLine∧∀p,ax p=none→Q (.ref p) (upd ax p (.lst xs))
theorem ij{x1}(h:PA X bx t):PE X (.Tuple bx x1 pos) (xt t):=by
 intro ah s af H Q I cq;refine wpAny_Tuple_spliced (thn (h pos ah s af H _ I cq) λus bq ⟨xs,ax,bK,r,z,q⟩=>⟨by rw[←r.length];exact z,?_⟩);have bE:ax bq.heap.objs.size=none:=bK.hok.fresh (QQ _);refine⟨.ref bq.heap.objs.size,upd ax bq.heap.objs.size (.tup xs),bK.laid (t':=bq.toks) (λb u e=>Heap.get?_push_of_some _ e) (QQ _) ?_,rfl,q _ bE⟩;exact⟨z,us,r,⟨_,Heap.get?_push_size _ rfl,rfl,_,rfl⟩⟩
theorem gF(h:PA X bx t):PE X (.List bx pos) (ti t):=by
 intro ah s af H Q I cq;refine wpAny_List_spliced (thn (h pos ah s af H _ I cq) λus bq ⟨xs,ax,bK,r,z,q⟩=>⟨by rw[←r.length];exact z,?_⟩);have bE:ax bq.heap.objs.size=none:=bK.hok.fresh (QQ _);refine⟨.ref bq.heap.objs.size,upd ax bq.heap.objs.size (.lst xs),bK.laid (t':=bq.toks) (λb u e=>Heap.get?_push_of_some _ e) (QQ _) ?_,rfl,q _ bE⟩;exact⟨z,us,0,r,Heap.get?_push_size _ rfl⟩
end
noncomputable abbrev Sp:=List V→Hp→VK→XK→Prop
noncomputable abbrev CXT:=List Env→Hp→Shared→XK→Value→Shared→Prop
structure Zcy(P:Program)(w:World)(K:Frag)(mg:Str→Option Value)(base:Heap)(A:Around)(outer:List Env)(s:Shared)(H:Hp):Prop where
 frames:A.frames=some outer
 mod:Mod K mg base
 bs:∀b o,base.get? b=some o→s.heap.get? b=some o∧H b=none
 bsz:base.objs.size≤s.heap.objs.size
 funs:s.heap.FunFrames base outer
 frf:∀b∈frs outer,H b=none
 hok:HOk P w H s.heap
 bare:AllBare s.gens
def CE(outer:List Env)(P:Program)(w:World)(H:Hp)(s:Shared)(Q:VK)(u:Value)(s':Shared):Prop:=
 ∃v ae,s'.os=s.os∧AllBare s'.gens∧Un (frs outer) [] H ae s.heap s'.heap∧HOk P w ae s'.heap∧cA v u∧Q v ae
def CR(CX:CXT)(outer:List Env)(P:Program)(w:World)(H:Hp)(s:Shared)(Q:VK)(E:XK)(r:Result)(s':Shared):Prop:=
 match r with
 | .ok (.ret u)=>CE outer P w H s Q u s'
 | .ok _=>False
 | .error e=>CX outer H s E e s'
structure YN(P:Program)(w:World)(K:Frag)(mg:Str→Option Value)(base:Heap)(CX:CXT)(k:Nat)(f:Addr)(fd:FuncData)(b1:List Str)(sp:Sp):Prop where
 len:∀vs H Q E,sp vs H Q E→vs.length=b1.length
 run:∀(A:Around)(outer:List Env)(s:Shared)(H:Hp)(args:Args)(us:List Value)(vs:List V)(Q:VK)(E:XK),ef k A→Zcy P w K mg base A outer s H→BindsTo s fd args (b1.zip us)→cH vs us→sp vs H Q E→
  codeAny (model P w) A (.call (.ref f) args) (CR CX outer P w H s Q E) s
theorem YN.mono{P:Program}{w:World}{K:Frag}{mg:Str→Option Value}{base:Heap}{CX:CXT}{j k:Nat}{f:Addr}{fd:FuncData}{b1:List Str}{sp:Sp}(F:YN P w K mg base CX j f fd b1 sp)(h:j≤k):
  YN P w K mg base CX k f fd b1 sp:=⟨F.len,λA outer s H args us vs Q E bn=>F.run A outer s H args us vs Q E (bn.mono h)⟩
theorem Zcy.make{P:Program}{w:World}{K:Frag}{mg:Str→Option Value}{base:Heap}{A:Around}{outer:List Env}{s:Shared}{H:Hp}(e:Zcy P w K mg base A outer s H)(C:Addr)(us:List Value)(kw:List (Str×Value)):
  Zcy P w K mg base (A.under (.builtin "type.__call__" ⟨.ref C::us,kw⟩)) outer s H:=⟨by first|exact e.frames|(simpa[Around.under,Code.envs,Code.isFrame,pushEnvs] using e.frames),e.mod,e.bs,e.bsz,e.funs,e.frf,e.hok,e.bare⟩
section
variable {X:Cx}{ah:List (Addr×Obj)}{af:St}{H:Hp}{s s':Shared}
theorem Inv.env0(I:Inv X ah af H s):Zcy X.prog X.w X.K X.mg X.base X.A X.stack s H:=
 ⟨I.ok.frames,I.ok.mod,I.bs,QZ I.ok.bsz I.sz,I.stack,I.stkFree,I.hok,I.bare⟩
theorem Inv.after{Q:VK}{u:Value}(I:Inv X ah af H s)(h:CE X.stack X.prog X.w H s Q u s'):EP X ah af Q u s':=by
 obtain⟨v,ae,os,bare,un,hok,r,q⟩:=h;obtain⟨bR,g,d,t,tj⟩:=s';obtain rfl:tj=s.os:=os;exact⟨v,ae,I.call (h':=bR) (g':=g) (d':=d) (t':=t) (ch:=[]) un hok bare (λb z=>absurd z (by simp)),r,q⟩
end
noncomputable def tk (sp:Sp) (d2:List V) (E:XK) (t:TA):TE:=λaf H Q=>t af H λvs ax=>sp (vs++d2) ax Q E
noncomputable def oY (C:Addr) (m:Str) (sp:Sp) (d2:List V) (E:XK) (b0:TE) (t:TA):TE:=λaf H Q=>b0 af H λx ax=>∃a bu fs,x= .ref a∧ax a=some (.ins C bu fs)∧fs.lookup m=none∧
 t af ax λvs bo=>sp (x::(vs++d2)) bo Q E
noncomputable def oZ (C:Addr) (sp:Sp) (d2:List V) (E:XK) (t:TA):TE:=λaf H Q=>t af H λvs ax=>∀x bu,ax x=none→ax bu=none→bu≠x→
 sp (.ref x::(vs++d2)) (upd (upd ax bu (.own x)) x (.ins C bu [])) (λv bo=>v= .non∧Q (.ref x) bo) E
def Wz(K:Frag)(fd:FuncData)(b1:List Str)(cd:List Value):Prop:=
 ∀(s:Shared)(us:List Value),K.In s.heap→(us++cd).length=b1.length→BindsTo s fd ⟨us,[]⟩ (b1.zip (us++cd))
theorem Wz.all{K:Frag}{fd:FuncData}{b1:List Str}(h:∀us:List Value,us.length=b1.length→bindArgs fd ⟨us,[]⟩=pure (b1.zip us)):Wz K fd b1 []:=λs us _ ag=>by
 rw[qaB] at ag⊢;exact .of_eq (h us ag)
def We(CX:CXT)(X:Cx)(E:XK):Prop:=∀(ah:List (Addr×Obj))(af:St)(H:Hp)(s:Shared)(e:Value)(s':Shared),Inv X ah af H s→CX X.stack H s E e s'→X.xe e s'
section
variable {X:Cx}{CX:CXT}{k:Nat}{f C:Addr}{fd:FuncData}{b1:List Str}{sp:Sp}{d2:List V}{cd:List Value}{E:XK}{x m:Str}{p pos di:Pos}{e o:Expr}{bx:List Expr}{b0:TE}{t:TA}
theorem tl{ah:List (Addr×Obj)}{af:St}{H:Hp}{s:Shared}{Q:VK}{us:List Value}{vs:List V}(F:YN X.prog X.w X.K X.mg X.base CX k f fd b1 sp)(bn:ef k X.A)(ao:Wz X.K fd b1 cd)(hd:cH d2 cd)(a_:We CX X E)
  (I:Inv X ah af H s) (r:cH vs us) (h:sp (vs++d2) H Q E):wpAny (model X.prog X.w) X.A (call (.ref f) us) (EP X ah af Q) X.xe s:=by
 have cM:cH (vs++d2) (us++cd):=r.append hd;have ag:(us++cd).length=b1.length:=by rw[←cM.length];exact F.len _ _ _ _ h
 refine wpAny_call (codeAny_mono (F.run X.A X.stack s H ⟨us,[]⟩ (us++cd) (vs++d2) Q E bn I.env0 (ao s us I.kIn ag) cM h) λr s' cq=>?_);cases r with
 |error e=>exact a_ ah af H s e s' I cq
 |ok eG=>
  cases eG with
  |ret u=>exact I.after cq
  |next=>exact False.elim cq
  |brk=>exact False.elim cq
  |cont=>exact False.elim cq
theorem Zly(F:YN X.prog X.w X.K X.mg X.base CX k f fd b1 sp)(bn:ef k X.A)(bF:Gl X x)(bv:X.mg x=some (.ref f))(bp:keepIn X.K (.ref f)=true)(ao:Wz X.K fd b1 cd)(hd:cH d2 cd)(a_:We CX X E)
  (bB:PA X (e::bx) t) (eX:(x==("__debug__" :Str))=false:=by decide) (bH:starEach (e::bx) X.env=(false,eval e X.env)::starEach bx X.env:=by rfl) (fx:(backTo pos (starEach bx X.env)).any (·.1)=false:=by rfl):
  PE X (.Call (.Name x p) (e::bx) [] pos) (tk sp d2 E t):=by
 intro ah s af H Q I h;refine wpAny_Call_Name_kw (lZ I bF bv ?_ eX);refine callWith_K (h₀:=X.base) I.ok.mod.kin bp (thn (bB pos ah s af H _ I h) λus bq ⟨vs,ax,bK,r,q⟩=>⟨bK.kIn,?_⟩) bH fx;exact tl F bn ao hd a_ bK r q
theorem xu{pl:Sem Bool}(bH:PE X o b0)(c:Cls X.K C)(bv:Zd3 X.K C m f)(F:YN X.prog X.w X.K X.mg X.base CX k f fd b1 sp)(bn:ef k X.A)(ao:Wz X.K fd b1 cd)(hd:cH d2 cd)(a_:We CX X E)(bB:PA X (e::bx) t)
  (fw:starEach (e::bx) X.env=(false,eval e X.env)::starEach bx X.env:=by rfl) (fx:(backTo pos (starEach bx X.env)).any (·.1)=false:=by rfl)
  (b3:eval (.Call (.Attribute o m di) (e::bx) [] pos) X.env=(do
   let dg←eval o X.env
   standAt di.atName
   let(f,first)←holding [dg] (getMethod dg m pl)
   callWith pos f first (backTo pos (starEach (e::bx) X.env)) (backToKw pos (keywordEach [] X.env))):=by rfl):
  PE X (.Call (.Attribute o m di) (e::bx) [] pos) (oY C m sp d2 E b0 t):=by
 intro ah s af H Q I h;refine methodCall_KW (pl:=pl) (thn (bH ah s af H _ I h) λu bq ⟨x,ax,bK,bX,a,bu,fs,ex,cm,l,q⟩=>?_) b3;subst ex;obtain rfl:u=Value.ref a:=bX;refine ZaJ bK cm c bv l ?_;refine callWith_K (first:=[.ref a]) (h₀:=X.base) I.ok.mod.kin bv.kp (thn (bB pos ah bq af ax _ bK q) λus bJ ⟨vs,bo,cB,r,cO⟩=>⟨cB.kIn,?_⟩) fw fx;exact tl (us:= .ref a::us) (vs:= .ref a::vs) F bn ao hd a_ cB (.cons rfl r) cO
theorem Zkr{pl:Sem Bool}(bH:PE X o b0)(c:Cls X.K C)(bv:Zd3 X.K C m f)(F:YN X.prog X.w X.K X.mg X.base CX k f fd b1 sp)(bn:ef k X.A)(ao:Wz X.K fd b1 cd)(hd:cH d2 cd)(a_:We CX X E)
  (b3:eval (.Call (.Attribute o m di) [] [] pos) X.env=(do
   let dg←eval o X.env
   standAt di.atName
   let(f,first)←holding [dg] (getMethod dg m pl)
   callWith pos f first (backTo pos (starEach [] X.env)) (backToKw pos (keywordEach [] X.env))):=by rfl):
  PE X (.Call (.Attribute o m di) [] [] pos) (oY C m sp d2 E b0 tNil):=by
 intro ah s af H Q I h;refine methodCall_KW (pl:=pl) (thn (bH ah s af H _ I h) λu bq ⟨x,ax,bK,bX,a,bu,fs,ex,cm,l,q⟩=>?_) b3;subst ex;obtain rfl:u=Value.ref a:=bX;refine ZaJ bK cm c bv l ?_;exact callWith_K0 (first:=[.ref a]) bK.kIn bv.kp (tl (us:=[.ref a]) (vs:=[.ref a]) F bn ao hd a_ bK (.cons rfl .nil) q)
structure Mk(K:Frag)(C f:Addr):Prop where
 makes:makesIn K C=true
 init:PySem.W.findIn K (.ref C) "__init__" =some (some (.ref f))
 fn:isFn K (.ref f)=true
 kp:keepIn K (.ref C)=true
theorem xv{ah:List (Addr×Obj)}{af:St}{H:Hp}{s:Shared}{Q:VK}{us:List Value}{vs:List V}(M:Mk X.K C f)(F:YN X.prog X.w X.K X.mg X.base CX k f fd b1 sp)(bn:ef (k+1) X.A)(ao:Wz X.K fd b1 cd)(hd:cH d2 cd)
  (a_:We CX X E) (I:Inv X ah af H s) (r:cH vs us)
  (h:∀x bu,H x=none→H bu=none→bu≠x→sp (.ref x::(vs++d2)) (upd (upd H bu (.own x)) x (.ins C bu [])) (λv bo=>v= .non∧Q (.ref x) bo) E):
  wpAny (model X.prog X.w) X.A (call (.ref C) us) (EP X ah af Q) X.xe s:=by
 have cq:=h (s.heap.objs.size+1) s.heap.objs.size (I.hok.fresh (qaH _)) (I.hok.fresh (QQ _)) (Q0 (qac _));have cB:=Inv.made (C:=C) I;have cM:cH (V.ref (s.heap.objs.size+1)::(vs++d2)) (Value.ref (s.heap.objs.size+1)::(us++cd)):= .cons rfl (r.append hd);have ag:(Value.ref (s.heap.objs.size+1)::us++cd).length=b1.length:=by
  have e:=cM.length;rw[F.len _ _ _ _ cq] at e;exact e.symm
 refine wpAny_call (xq (f:=f) I.kIn M.makes M.init (beq_iff_eq.mp M.fn) (codeAny_mono (F.run _ X.stack _ _ ⟨Value.ref (s.heap.objs.size+1)::us,[]⟩ (Value.ref (s.heap.objs.size+1)::(us++cd)) _ _ E (bn.make C us [])
  (cB.env0.make C us []) (ao _ (Value.ref (s.heap.objs.size+1)::us) cB.kIn ag) cM cq) λr s' iM=>?_))
 cases r with
 |error e=>exact a_ ah af _ _ e s' cB iM
 |ok eG=>
  cases eG with
  |ret u=>
   obtain⟨v,ae,dk,cZ,cU,eP⟩:=cB.after iM;subst cU;exact⟨cZ,⟨V.ref (s.heap.objs.size+1),ae,dk,rfl,eP⟩⟩
  |next=>exact False.elim iM
  |brk=>exact False.elim iM
  |cont=>exact False.elim iM
theorem ZlT(M:Mk X.K C f)(F:YN X.prog X.w X.K X.mg X.base CX k f fd b1 sp)(bn:ef (k+1) X.A)(bF:Gl X x)(bv:X.mg x=some (.ref C))(ao:Wz X.K fd b1 cd)(hd:cH d2 cd)(a_:We CX X E)
  (bB:PA X (e::bx) t) (eX:(x==("__debug__" :Str))=false:=by decide) (bH:starEach (e::bx) X.env=(false,eval e X.env)::starEach bx X.env:=by rfl) (fx:(backTo pos (starEach bx X.env)).any (·.1)=false:=by rfl):
  PE X (.Call (.Name x p) (e::bx) [] pos) (oZ C sp d2 E t):=by
 intro ah s af H Q I h;refine wpAny_Call_Name_kw (lZ I bF bv ?_ eX);refine callWith_K (h₀:=X.base) I.ok.mod.kin M.kp (thn (bB pos ah s af H _ I h) λus bq ⟨vs,ax,bK,r,q⟩=>⟨bK.kIn,?_⟩) bH fx;exact xv M F bn ao hd a_ bK r q
theorem Zky(M:Mk X.K C f)(F:YN X.prog X.w X.K X.mg X.base CX k f fd b1 sp)(bn:ef (k+1) X.A)(bF:Gl X x)(bv:X.mg x=some (.ref C))(ao:Wz X.K fd b1 cd)(hd:cH d2 cd)(a_:We CX X E)
  (eX:(x==("__debug__" :Str))=false:=by decide):PE X (.Call (.Name x p) [] [] pos) (oZ C sp d2 E tNil):=by
 intro ah s af H Q I h;refine wpAny_Call_Name_kw (lZ I bF bv ?_ eX);exact callWith_K0 I.kIn M.kp (xv (us:=[]) M F bn ao hd a_ I .nil h)
end
section
variable {X:Cx}{CX:CXT}{k:Nat}{f C:Addr}{fd:FuncData}{b1 cf:List Str}{sp:Sp}{E:XK}{x m:Str}{p pos di ON:Pos}{e o:Expr}{bx:List Expr}{OO:List Keyword}{cu b0:TE}{t bT:TA}{nm:Option Str}
variable {g:List Value→List Value→List Value}{OP:List V→List V→List V}
end
structure Zr(N P:List Str)(b4:Scope):Prop where
 kind:b4.kind= .function
 co:b4.isCoroutine=false
 gen:b4.isGenerator=false
 nd:N.Nodup
 pre:N.take P.length=P
 par:∀x∈P,b4.names.lookup x=some .local∨b4.names.lookup x=some .cell
 nofree:∀y∈b4.names,y.2≠ .free
theorem Zeq{kindOf:Str→Option NameKind}{x:Str}:∀{binds:List (Str×Value)}{m:Str→Option Value},(∀v,(x,v)∉binds)→bindL kindOf binds m x=m x
 | [],_,_=>rfl
 |(n,v)::r,m,h=>by
  unfold bindL;rw[Zeq λw hw=>h w (Q7 _ hw)]
  split
  ·have:x≠n:=by rintro rfl;exact h v R0
   simp[this]
  ·rfl
theorem Zeu{kindOf:Str→Option NameKind}{x:Str}:∀{binds:List (Str×Value)}{m:Str→Option Value},(∀v,(x,v)∉binds)→bindC kindOf binds m x=m x
 | [],_,_=>rfl
 |(n,v)::r,m,h=>by
  unfold bindC;rw[Zeu λw hw=>h w (Q7 _ hw)]
  split
  ·rfl
  ·have:x≠n:=by rintro rfl;exact h v R0
   simp[this]
theorem xx{kindOf:Str→Option NameKind}{x:Str}{v:Value}:∀{P:List Str}{vs:List Value}{i:Nat}{m:Str→Option Value},P.Nodup→P[i]? =some x→vs[i]? =some v→kindOf x=some .local→
  bindL kindOf (P.zip vs) m x=some v
 | [],_,_,_,_,h,_,_=>by simp at h
 |_::_,[],_,_,_,_,h,_=>by simp at h
 |p::P,w::vs,0,m,nd,ap,a',bp=>by
  simp at ap a';subst ap;subst a';show bindL kindOf ((p,w)::P.zip vs) m p=_;unfold bindL;rw[Zeq λv b8=>(qaS.mp nd).1 (qaT b8).1,if_pos bp];simp
 |p::P,w::vs,i+1,m,nd,ap,a',bp=>by
  show bindL kindOf ((p,w)::P.zip vs) m x=_;unfold bindL;exact xx (i:=i) (qaS.mp nd).2 (by simpa using ap) (by simpa using a') bp
theorem Zet{kindOf:Str→Option NameKind}{x:Str}{v:Value}:∀{P:List Str}{vs:List Value}{i:Nat}{m:Str→Option Value},P.Nodup→P[i]? =some x→vs[i]? =some v→kindOf x≠some .local→
  bindC kindOf (P.zip vs) m x=some v
 | [],_,_,_,_,h,_,_=>by simp at h
 |_::_,[],_,_,_,_,h,_=>by simp at h
 |p::P,w::vs,0,m,nd,ap,a',bp=>by
  simp at ap a';subst ap;subst a';show bindC kindOf ((p,w)::P.zip vs) m p=_;unfold bindC;rw[Zeu λv b8=>(qaS.mp nd).1 (qaT b8).1,if_neg bp];simp
 |p::P,w::vs,i+1,m,nd,ap,a',bp=>by
  show bindC kindOf ((p,w)::P.zip vs) m x=_;unfold bindC;exact Zet (i:=i) (qaS.mp nd).2 (by simpa using ap) (by simpa using a') bp
noncomputable def start (N:List Str) (vs:List V):St:=vs.map some++List.replicate (N.length-vs.length) none
noncomputable def ZL (CX:CXT) (P:Program) (w:World) (K:Frag) (mg:Str→Option Value) (base:Heap) (N:List Str) (qual:Str) (scope:Scope) (f:Addr) (c0:Value) (A:Around) (outer:List Env) (s:Shared) (H:Hp) (E:XK):Cx where
 prog:=P
 w:=w
 K:=K
 mg:=mg
 base:=base
 A:=A.deeper (envOfC qual scope s.heap.objs.size f c0)
 N:=N
 s₀:=s
 H₀:=H
 env:=envOfC qual scope s.heap.objs.size f c0
 outer:=outer
 stack:=envOfC qual scope s.heap.objs.size f c0::outer
 ex:=[]
 calm:=true
 fn:=λ_=>true
 pn:=[]
 xe:=λe s'=>wpAny (model P w) (A.deeper (envOfC qual scope s.heap.objs.size f c0)) (leaving (envOfC qual scope s.heap.objs.size f c0) e) (λ_ j'=>CX outer H s E e j') (λb6 j'=>CX outer H s E b6 j') s'
theorem ZfP{b4:Scope}{n:Nat}{x:Str}(h:b4.names.lookup x=some .cell):∃c,(cellsFrom n b4.names []).lookup x=some c:=by
 have q:=cellsFrom_some b4.names n [] (.inl h);exact qaq.mp q
theorem ZiM{CX:CXT}{P:Program}{w:World}{K:Frag}{mg:Str→Option Value}{base:Heap}{N b1:List Str}{qual:Str}{scope:Scope}{f:Addr}{c0:Value}{A:Around}{outer:List Env}{s bq:Shared}{H:Hp}{E:XK}{us:List Value}{vs:List V}
  (S:Zr N b1 scope) (hd:A.handled=none) (eo:Zcy P w K mg base A outer s H) (ag:vs.length=b1.length) (r:cH vs us)
  (x:InCallC s s.heap.objs.size (bindL (envOfC qual scope s.heap.objs.size f c0).kindOf (b1.zip us) λ_=>none) (cellsFrom (s.heap.objs.size+1) scope.names []) (bindC (envOfC qual scope s.heap.objs.size f c0).kindOf (b1.zip us) λ_=>none) bq):
  Inv (ZL CX P w K mg base N qual scope f c0 A outer s H E) [] (start N vs) H bq:=by
 have fx:b1.length≤N.length:=by have:=congrArg List.length S.pre;rw[FM] at this;omega
 obtain⟨ap,bT,rfl,bp⟩:=x.done;have o0:∀b:Addr,b∉(ZL CX P w K mg base N qual scope f c0 A outer s H E).ex:=λb z=>absurd (show b∈([]:List Addr) from z) (by simp);refine⟨⟨eo.mod,S.kind,rfl,rfl,QQ _,λy z c ap a'=>?_,λy bP=>?_,λy c _ h=>?_,λ_=>hd,Around.frames_deeper eo.frames,.inr ⟨rfl,rfl⟩,λb z=>absurd z (o0 b),eo.bs,eo.bsz,λb _ _=>o0 b,λb z=>absurd z (o0 b),eo.funs,eo.frf⟩,
  rfl,eo.bare,Un.kept bp,⟨_,x.toInCall.ns,λi y v ap a' bU=>?_⟩,λy c h=>⟨_,x.cell y c h⟩,eo.hok.fresh (QQ _),λy c h=>?_,λp bz=>absurd (show p∈([]:List (Addr×Obj)) from bz) (by simp),eo.hok.kept bp,?_⟩
 ·exact name_of_addr x.apart (qak ap) (qak a')
 ·have bP:scope.names.lookup y=some .cell∨scope.names.lookup y=some .free:=bP;rcases bP with bP|bP
  ·exact ZfP bP
  ·exact absurd rfl (S.nofree _ (qak bP))
 ·exact RW (x.above y c (qak h))
 ·have hi:i<vs.length:=by
   unfold start at a'
   by_cases hi:i<vs.length
   ·exact hi
   ·rw[Rw (by simpa using hi)] at a';rw[List.getElem?_replicate] at a'
    split at a'<;>cases a'
  have bB:vs[i]? =some v:=by
   unfold start at a';rw[Ry (by simpa using hi),QX] at a';cases e:vs[i]? with
   |none=>rw[e] at a';cases a'
   |some a=>rw[e] at a';cases a';rfl
  obtain⟨u,hu,cZ⟩:=r.get bB;have bz:b1[i]? =some y:=by
   rw[←S.pre,List.getElem?_take_of_lt (by omega)];exact ap
  have xy:b1.Nodup:=by rw[←S.pre];exact S.nd.sublist (List.take_sublist _ _)
  refine⟨u,cZ,?_⟩;rcases S.par y (Q6 bz) with k|k
  ·exact .inl ⟨k,xx xy bz hu k⟩
  ·obtain⟨c,e⟩:=ZfP (n:=s.heap.objs.size+1) k;refine .inr ⟨.inl k,c,e,?_⟩;have q:=x.cell y c e;rw[Zet xy bz hu (by show scope.names.lookup y≠_;rw[k];decide)] at q;exact q
 ·exact eo.hok.fresh (RW (x.above y c (qak h)))
 ·unfold start;show _=N.length;rw[Rj,QM,RT];omega
theorem Zlq{CX:CXT}{P:Program}{w:World}{K:Frag}{mg:Str→Option Value}{base:Heap}{k:Nat}{f:Addr}{name qual:Str}{params:Arguments}{body:List Stmt}{scope:Scope}{qX kV eK d3 cv ct eO:Value}{an dO:Option Addr}
  {gi:Array (Option Value)} {N b1:List Str} {sp:Sp} (lk:K.lookup f=some ⟨eO,dO,.func (fnOf name qual params body scope qX kV eK d3 an cv ct),gi⟩) (ic:codeIn K cv qual=true) (S:Zr N b1 scope)
  (len:∀vs H Q E,sp vs H Q E→vs.length=b1.length)
  (o1:∀(A:Around)(outer:List Env)(s:Shared)(H:Hp)(vs:List V)(Q:VK)(E:XK),ef k (A.deeper (envOfC qual scope s.heap.objs.size f cv))→sp vs H Q E→
   ∃t,PSs (ZL CX P w K mg base N qual scope f cv A outer s H E) body t∧t {nx:=λ_ ae=>Q .non ae,rt:=Q} (start N vs) H):
  YN P w K mg base CX (k+1) f (fnOf name qual params body scope qX kV eK d3 an cv ct) b1 sp:=by
 refine⟨len,λA outer s H args us vs Q E bn eo ao r iN=>?_⟩;have ag:=len _ _ _ _ iN;have ek:K.In s.heap:=eo.mod.kin.keeps λb o e=>(eo.bs b o e).1;have Dr:s.heap.NoLimit:=eo.mod.nolimit.keeps λb o e=>(eo.bs b o e).1;have l':∀y∈b1.zip us,scope.names.lookup y.1=some .local∨(scope.names.lookup y.1=some .cell∧((cellsFrom (s.heap.objs.size+1) scope.names []).lookup y.1).isSome=true):=λ⟨n,v⟩ bP=>by
  rcases S.par n (qaT bP).1 with q|q
  ·exact .inl q
  ·exact .inr ⟨q,cellsFrom_some _ _ _ (.inl q)⟩
 refine codeAny_call_function bn.depth (ek _ _ lk) rfl S.co S.gen rfl (PySem.W.codeRec_of ek ic) (ao _ _ _ _ ?_);refine wpAny_newFunctionEnv_cells S.kind l' λenv bH bq x=>?_;subst bH;refine⟨Dr.keeps x.toInCall.keep,codeAny_func ?_⟩;obtain⟨t,b3,cq⟩:=o1 A outer s H vs Q E (bn.deeper _) iN;have I:Inv (ZL CX P w K mg base N qual scope f cv A outer s H E) [] (start N vs) H bq:=ZiM S bn.hd eo ag r x;refine wpAny_mono (b3 [] bq (start N vs) H _ I cq) (λeG s' hs=>?_) λe s' hs=>hs;have dQ:∀{bQ:St}{ae:Hp}{v:V}{u:Value},Inv (ZL CX P w K mg base N qual scope f cv A outer s H E) [] bQ ae s'→cA v u→Q v ae→CE outer P w H s Q u s':=
  λ{bQ ae v u} J cZ q=>⟨v,ae,J.os,J.bare,J.base,J.hok,cZ,q⟩
 cases eG with
 |ret u=>
  obtain⟨v,bQ,ae,J,cZ,q⟩:=hs;exact dQ J cZ q
 |next=>
  obtain⟨bQ,ae,J,q⟩:=hs;exact dQ (v:=V.non) (u:=Value.none) J rfl q
 |brk=>
  obtain⟨_,_,_,q⟩:=hs;exact False.elim q
 |cont=>
  obtain⟨_,_,_,q⟩:=hs;exact False.elim q
section
variable {X:Cx}{x:Str}{p pos:Pos}{e:Expr}{bx:List Expr}{t:TA}{id T:String}{r:List V→Hp→VK→Prop}
noncomputable def tCB (r:List V→Hp→VK→Prop) (t:TA):TE:=λaf H Q=>t af H λvs ax=>r vs ax Q
theorem dG(br:YJ X (.builtin id) r)(bF:Gl X x)(bv:X.mg x=none)(b8:bootBuiltins x=some (.builtin id))(bB:PA X (e::bx) t)(bG:x≠"__name__" :=by decide)(eX:(x==("__debug__" :Str))=false:=by decide)
  (bH:starEach (e::bx) X.env=(false,eval e X.env)::starEach bx X.env:=by rfl) (fx:(backTo pos (starEach bx X.env)).any (·.1)=false:=by rfl):PE X (.Call (.Name x p) (e::bx) [] pos) (tCB r t):=by
 intro ah s af H Q I h;refine wpAny_Call_Name_kw (hn I bF bv b8 ?_ bG eX);exact qad (thn (bB pos ah s af H _ I h) λus bq ⟨vs,ax,bK,cj,b_⟩=>br ah bq af ax vs us Q bK cj b_) bH fx
theorem k7(br:YJ X (.type T) r)(bF:Gl X x)(bv:X.mg x=none)(b8:bootBuiltins x=some (.type T))(bB:PA X (e::bx) t)(bG:x≠"__name__" :=by decide)(eX:(x==("__debug__" :Str))=false:=by decide)
  (bH:starEach (e::bx) X.env=(false,eval e X.env)::starEach bx X.env:=by rfl) (fx:(backTo pos (starEach bx X.env)).any (·.1)=false:=by rfl):PE X (.Call (.Name x p) (e::bx) [] pos) (tCB r t):=by
 intro ah s af H Q I h;refine wpAny_Call_Name_kw (hn I bF bv b8 ?_ bG eX);exact Rg (thn (bB pos ah s af H _ I h) λus bq ⟨vs,ax,bK,cj,b_⟩=>br ah bq af ax vs us Q bK cj b_) bH fx
end
end L2
namespace HT
open PySem PyProof.Rows
section
open PySem.SeqAt
open PySem.AutoSeq1 (wpAny_loadPart')
open PySem.MeetsSeq PySem.MeetsSeq2 PySem.MeetsSeq3
end
section
variable {prog:Program}{w:World}{A:Around}{E:Value→Shared→Prop}{s:Shared}
theorem ZlE{t b:Addr}{vs bV:List Value}{Q:Value→Shared→Prop}(b3:IsTup s.heap t vs.toArray)(ao:IsTup s.heap b bV.toArray)(b8:vs≠[])
  (ap:bV=[]→Q (.ref t) s) (a':bV≠[]→Q (.ref s.heap.objs.size) {s with heap:=s.heap.push {cls:= .type "tuple",data:= .seq (vs++bV).toArray}})
  (hsz:vs.length+bV.length≤sizeLine):wpAny (model prog w) A (binaryOp .Add (.ref t) (.ref b)) Q E s:=by
 obtain⟨⟨cls,dd,data,sl⟩,bC,br,n,hd⟩:=id b3;obtain⟨⟨OQ,qY,data2,xA⟩,nj,qZ,hx,hy⟩:=id ao;simp only at br hd qZ hy;subst br hd qZ hy;have e:vs.toArray++bV.toArray=(vs++bV).toArray:=by simp
 by_cases hw:bV=[]
 ·exact concat_meets ⟨_,bC,rfl⟩ ⟨_,nj,rfl⟩ noFill_tuple_add seq_tuple_add PySem.F.slot_tuple_add PySem.F.entry_tuple_add (PySem.F.args_tuple_add_2 _ _)
   (tuple_addW1 t b vs.toArray bV.toArray n hx dd qY sl xA (by simpa using b8) (by simp[hw])) ⟨bC,nj,ap hw⟩
 ·refine concat_meets ⟨_,bC,rfl⟩ ⟨_,nj,rfl⟩ noFill_tuple_add seq_tuple_add PySem.F.slot_tuple_add PySem.F.entry_tuple_add (PySem.F.args_tuple_add_2 _ _)
   (tuple_addW2 t b vs.toArray bV.toArray n hx dd qY sl xA (by simpa using b8) (by simpa using hw) (by rw[QV,QV];exact hsz)) ⟨bC,nj,?_⟩
  rw[e];exact a' hw
noncomputable def sIx (n d:Nat):Option Int→Nat
 |none=>d
 |some v=>if v<0 then(v+(n:Int)).toNat else min v.toNat n
theorem Znx(n d:Nat)(hd:d≤n)(o:Option Int):sIx n d o≤n:=by
 cases o with
 |none=>exact hd
 |some v=>
  show(if v<0 then(v+(n:Int)).toNat else min v.toNat n)≤n
  by_cases b8:v<0
  ·rw[if_pos b8];omega
  ·rw[if_neg b8];exact Nat.min_le_right _ _
theorem Zg4(v:Int)(n d:Nat):(if v<0 then max (v+(n:Int)) 0 else min v (n:Int))=((sIx n d (some v):Nat):Int):=by
 show(if v<0 then max (v+(n:Int)) 0 else min v (n:Int))=(((if v<0 then(v+(n:Int)).toNat else min v.toNat n):Nat):Int)
 by_cases b8:v<0
 ·simp only[if_pos b8];omega
 ·simp only[if_neg b8];omega
theorem Zib(lo hi:Option Int)(n:Nat):Builtin.Slice.sliceAdjust lo hi 1 (n:Int)=(((sIx n 0 lo:Nat):Int),((sIx n n hi:Nat):Int)):=by
 have ap:¬((1:Int)<0):=by omega
 unfold Builtin.Slice.sliceAdjust;simp only[ap,if_false];refine Prod.ext ?_ ?_
 ·cases lo with
  |none=>rfl
  |some v=>exact Zg4 v n 0
 ·cases hi with
  |none=>rfl
  |some v=>exact Zg4 v n n
theorem ZhW(i j:Nat):Builtin.Slice.slicePlaces (i:Int) (j:Int) 1=j-i:=by
 unfold Builtin.Slice.slicePlaces;have ap:(1:Int) > 0:=by omega
 simp only[ap,if_true,Int.ediv_one]
 split<;>omega
theorem xB{v:Value}{o:Option Int}{Q:Option Int→Shared→Prop}(p:IsPart v o)(h:Q o s):wpAny (model prog w) A (Builtin.Slice.slicePartIndex v) Q E s:=by
 cases p with
 |none=>exact slicePart_none h
 |int i t=>exact slicePart_int h
theorem Ds{sl:Addr}{eY fK:Value}{lo hi:Option Int}{n:Nat}{Q:Int×Int×Nat→Shared→Prop}(hs:s.heap.IsSliceOf sl eY fK .none)(pl:IsPart eY lo)(hA:IsPart fK hi)
  (h:Q (((sIx n 0 lo:Nat):Int),1,sIx n n hi-sIx n 0 lo) s):wpAny (model prog w) A (Builtin.Slice.sliceApplied (.ref sl) (pure (n:Int))) Q E s:=by
 obtain⟨os,o2,o3,jG⟩:=id hs;unfold Builtin.Slice.sliceApplied Builtin.Slice.sliceFields;refine wpAny_bind (wpAny_bind (wpAny_field o2 jG (x:=eY) rfl (wpAny_bind (wpAny_field o2 jG (x:=fK) rfl (wpAny_bind (wpAny_field o2 jG (x:= .none) rfl (wpAny_pure ?_)))))));refine wpAny_bind (slicePart_none ?_);show wpAny _ _ (if((1:Int)==0)=true then _ else _) _ _ s;rw[if_neg (by decide)];refine wpAny_bind (xB pl (wpAny_bind (xB hA (wpAny_bind (wpAny_pure ?_)))));show wpAny _ _ (match Builtin.Slice.sliceAdjust lo hi 1 (n:Int) with|(lo,hi)=>pure (lo,(1:Int),Builtin.Slice.slicePlaces lo hi 1)) _ _ s;rw[Zib lo hi n];show wpAny _ _ (pure (((sIx n 0 lo:Nat):Int),(1:Int),Builtin.Slice.slicePlaces ((sIx n 0 lo:Nat):Int) ((sIx n n hi:Nat):Int) 1)) _ _ s;rw[ZhW];exact wpAny_pure h
theorem Dt(xs:Array Value)(i k:Nat):((List.range k).filterMap λ(m:Nat)=>xs[((i:Int)+(m:Int)*1).toNat]?).toArray=((xs.toList.drop i).take k).toArray:=by
 have e:(λ(m:Nat)=>xs[((i:Int)+(m:Int)*1).toNat]?)=λm=>xs[i+m]? :=by
  funext m
  have:((i:Int)+(m:Int)*1).toNat=i+m:=by omega
  rw[this]
 rw[e];have:=pick_run xs i k;rw[List.filterMap_map] at this;have bI:((λx=>xs[x]?)∘λx=>i+x)=λm=>xs[i+m]? :=rfl;rw[bI] at this;rw[this]
theorem ZbV{t sl:Addr}{items:Array Value}{eY fK:Value}{lo hi:Option Int}{Q:Value→Shared→Prop}(b3:IsTup s.heap t items)(hs:s.heap.IsSliceOf sl eY fK .none)(pl:IsPart eY lo)(hA:IsPart fK hi)
  (hw:¬(sIx items.size 0 lo=0∧sIx items.size items.size hi=items.size))
  (h:Q (.ref s.heap.objs.size) {s with heap:=s.heap.push {cls:= .type "tuple",data:= .seq ((items.toList.drop (sIx items.size 0 lo)).take (sIx items.size items.size hi-sIx items.size 0 lo)).toArray}})
  (hsz:items.size≤sizeLine):wpAny (model prog w) A (getItem (.ref t) (.ref sl)) Q E s:=by
 have q0:sizeOk (.seq ((items.toList.drop (sIx items.size 0 lo)).take (sIx items.size items.size hi-sIx items.size 0 lo)).toArray):=by
  show((items.toList.drop (sIx items.size 0 lo)).take (sIx items.size items.size hi-sIx items.size 0 lo)).toArray.size≤sizeLine;rw[QV,FM,qaJ,Rx];omega
 have bw:sIx items.size items.size hi≤items.size:=Znx _ _ (QQ _) hi;obtain⟨os,o2,o3,jG⟩:=id hs;have Du:s.TypeIs (.ref sl) "slice" :=⟨os,o2,o3⟩;unfold getItem
 try with_reducible refine wpAny_holding ?_
 first|refine wpAny_bind (wpAny_pure ?_)|skip
 refine wpAny_bind (wpAny_sequenceKey b3.typeIs (by decide) ?_);refine wpAny_bind (wpAny_callSpecial?_slot (name:=Str.ofString "__getitem__") b3.typeIs qar
  (wpAny_call_entry qar b3.typeIs entry_tuple_getitem ?_ (args_tuple_getitem _ _)))
 show wpAny _ _ (Builtin.Tuple.tupleItemsOf (.ref t) >>= _) _ _ s;refine wpAny_bind (tupleItemsOf_ b3 ?_);refine wpAny_bind (wpAny_typeOf Du ?_);rw[if_pos (by decide)];refine wpAny_bind (Ds hs pl hA ?_);have ik:¬((((sIx items.size 0 lo:Nat):Int)==0&&(1:Int)==1&&(sIx items.size items.size hi-sIx items.size 0 lo)==items.size)=true):=by
  intro q;rw[Rz,Rz] at q;have b_:((sIx items.size 0 lo:Nat):Int)=0:=eq_of_beq q.1.1;have cO:sIx items.size items.size hi-sIx items.size 0 lo=items.size:=eq_of_beq q.2;exact hw ⟨by omega,by omega⟩
 show wpAny _ _ (if(((sIx items.size 0 lo:Nat):Int)==0&&(1:Int)==1&&(sIx items.size items.size hi-sIx items.size 0 lo)==items.size)=true then _ else _) _ _ s;rw[if_neg ik,Dt]
 first
  |exact wpAny_bind (m:=Builtin.Tuple.tupleExact _) (wpAny_newObj_type (wpAny_pure ⟨_,rfl,wpAny_pure h⟩) q0)
  |exact wpAny_bind (m:=Builtin.Tuple.tupleExact _) (wpAny_newObj_type (wpAny_bind (wpAny_pure (wpAny_pure ⟨_,rfl,wpAny_pure h⟩))) q0)
  |exact wpAny_bind (wpAny_bind (m:=Builtin.Tuple.tupleExact _) (wpAny_newObj_type (wpAny_pure (wpAny_pure ⟨_,rfl,wpAny_pure h⟩)) q0))
  |exact wpAny_bind (wpAny_bind (m:=Builtin.Tuple.tupleExact _) (wpAny_newObj_type (wpAny_pure ⟨_,rfl,wpAny_pure h⟩) q0))
end
end HT
namespace L2
open PySem PySem.Spec PyProof.Rows
noncomputable abbrev TO:=St→Hp→(Option Int→Hp→Prop)→Prop
def PO(X:Cx)(e:Option Expr)(t:TO):Prop:=
 ∀(ah:List (Addr×Obj))(s:Shared)(af:St)(H:Hp)(Q:Option Int→Hp→Prop),Inv X ah af H s→t af H Q→
  wpAny (model X.prog X.w) X.A (evalPart e X.env) (λu s'=>∃o ae,Inv X ah af ae s'∧IsPart u o∧Q o ae) X.xe s
noncomputable def tNoPart:TO:=λ_ H Q=>Q none H
noncomputable def xC (t:TE):TO:=λaf H Q=>t af H λx ax=>∃i,x= .int i∧Q (some i) ax
theorem Uo{ns:List Int}:∀{us:List Value},cH (ns.map V.int) us→IntsAre us ns:=by
 induction ns with
 |nil=>intro us r;rw[List.map_nil] at r;cases r;exact .nil
 |cons n ns bM=>
  intro us r;rw[List.map_cons] at r;cases r with
  |cons cj cM=>
   obtain⟨t,e⟩:=cj;subst e;exact .cons n t (bM cM)
section
variable {X:Cx}{e:Expr}{cu:TE}{lo hi:Option Expr}{dA th:TO}{pos iO:Pos}
theorem Dv:PO X none tNoPart:=by
 intro ah s af H Q I h;rw[evalPart_none];exact wpAny_pure ⟨none,H,I,.none,h⟩
theorem Dw(h:PE X e cu):PO X (some e) (xC cu):=by
 intro ah s af H Q I hw;rw[evalPart_some];refine thn (h ah s af H _ I hw) λu bq ⟨x,ax,bK,cj,b_⟩=>?_;obtain⟨i,rfl,q⟩:=b_;obtain⟨t,rfl⟩:=cj;exact⟨some i,ax,bK,.int i t,q⟩
def SlR(X:Cx)(r:V→Option Int→Option Int→Hp→VK→Prop):Prop:=
 ∀(ah:List (Addr×Obj))(s:Shared)(af:St)(H:Hp)(x:V)(v eY fK:Value)(lo hi:Option Int)(sl:Addr)(Q:VK),Inv X ah af H s→cA x v→s.heap.IsSliceOf sl eY fK .none→IsPart eY lo→IsPart fK hi→r x lo hi H Q→
  ∃T id,typeLookup (.type T) "__getitem__" =pure (some (.builtin id))∧s.TypeIs v T∧wpAny (model X.prog X.w) X.A (getItem v (.ref sl)) (EP X ah af Q) X.xe s
theorem SlR.or{r cY:V→Option Int→Option Int→Hp→VK→Prop}(h:SlR X r)(h':SlR X cY):SlR X (λx lo hi H Q=>r x lo hi H Q∨cY x lo hi H Q):=by
 intro ah s af H x v eY fK lo hi sl Q I bX hs pl hA q;rcases q with q|q
 ·exact h ah s af H x v eY fK lo hi sl Q I bX hs pl hA q
 ·exact h' ah s af H x v eY fK lo hi sl Q I bX hs pl hA q
noncomputable def tSl (r:V→Option Int→Option Int→Hp→VK→Prop) (cu:TE) (dA th:TO):TE:=λaf H Q=>cu af H λx ax=>dA af ax λl bo=>th af bo λu b2=>r x l u b2 Q
theorem Dx{r:V→Option Int→Option Int→Hp→VK→Prop}(bn:SlR X r)(bH:PE X e cu)(ag:PO X lo dA)(hu:PO X hi th):PE X (.Subscript e (.Slice lo hi none iO) pos) (tSl r cu dA th):=by
 intro ah s af H Q I h;refine Subscript_ (thn (bH ah s af H _ I h) λv bq ⟨x,ax,bK,cj,b_⟩=>?_);refine wpAny_Slice (thn (ag ah bq af ax _ bK b_) λeY bJ ⟨l,bo,cB,pl,cO⟩=>thn (hu ah bJ af bo _ cB cO) λfK bO ⟨u,b2,dk,hA,eP⟩=>?_);rw[evalPart_none];refine wpAny_pure ?_;have j5:Inv X ah af b2 {bO with heap:=bO.heap.push {cls:= .type "slice",data:= .fields #[eY,fK,.none]}}:=dk.kept (t':=bO.toks) λb cx q=>Heap.get?_push_of_some _ q;obtain⟨T,id,c1,b3,bF⟩:=bn ah {bO with heap:=bO.heap.push {cls:= .type "slice",data:= .fields #[eY,fK,.none]}} af b2 x v eY fK l u bO.heap.objs.size Q j5 cj (Heap.IsSliceOf.new ..) pl hA eP;show wpAny (model X.prog X.w) X.A (subscriptTail e (.Slice lo hi none iO) v (.ref bO.heap.objs.size)) (EP X ah af Q) X.xe {bO with heap:=bO.heap.push {cls:= .type "slice",data:= .fields #[eY,fK,.none]}};exact tail_any (ops:=[.ref bO.heap.objs.size,v]) b3 c1 bF (by with_unfolding_all rfl)
noncomputable def jH (xs:List V) (lo hi:Option Int):List V:=(xs.drop (HT.sIx xs.length 0 lo)).take (HT.sIx xs.length xs.length hi-HT.sIx xs.length 0 lo)
theorem xD(xs:List V)(lo hi:Option Int):(jH xs lo hi).length≤xs.length:=by
 unfold jH;rw[FM,qaJ];omega
noncomputable def xE (K:Frag):V→Option Int→Option Int→Hp→VK→Prop:=λx lo hi H Q=>∃a xs,x= .ref a∧SqT K H a xs∧
 ¬(HT.sIx xs.length 0 lo=0∧HT.sIx xs.length xs.length hi=xs.length)∧∀p,H p=none→Q (.ref p) (upd H p (.tup (jH xs lo hi)))
theorem Dy:SlR X (xE X.K):=by
 intro ah s af H x v eY fK lo hi sl Q I bX hs pl hA h;obtain⟨a,xs,rfl,a_,hw,q⟩:=h;cases bX;obtain⟨its,r,b3,hz⟩:=I.tuple a_;have d1:its.toArray.size=xs.length:=by rw[QV];exact r.length.symm
 refine⟨"tuple",_,qar.lookup,b3.typeIs,?_⟩;refine HT.ZbV b3 hs pl hA (by rw[d1];exact hw) ?_ (by rw[d1];exact hz);rw[d1];refine⟨.ref s.heap.objs.size,_,I.laid (t':=s.toks) (o:= .tup (jH xs lo hi)) (λb cx q=>Heap.get?_push_of_some _ q) (QQ _) ?_,rfl,q _ (I.hok.fresh (QQ _))⟩;exact⟨QZ (xD xs lo hi) hz,_,(r.drop (HT.sIx xs.length 0 lo)).take (HT.sIx xs.length xs.length hi-HT.sIx xs.length 0 lo),IsTup.new _ _⟩
noncomputable def o4 (K:Frag):R2:=λx y H Q=>∃a b xs ys,x= .ref a∧y= .ref b∧SqT K H a xs∧SqT K H b ys∧xs≠[]∧xs.length+ys.length≤sizeLine∧
 (ys=[]→Q (.ref a) H)∧(ys≠[]→∀p,H p=none→Q (.ref p) (upd H p (.tup (xs++ys))))
theorem cH.nil_iff{xs:List V}{us:List Value}(r:cH xs us):us=[]↔xs=[]:=by
 cases r with
 |nil=>simp
 |cons _ _=>simp
theorem Dz:OpR X (binaryOp .Add) (o4 X.K):=by
 intro ah s af H x y v u Q I bX b' h;obtain⟨a,b,xs,ys,rfl,rfl,bB,ao,a_,hz,b_,cO⟩:=h;cases bX;cases b';obtain⟨its,cj,eZ,_⟩:=I.tuple bB;obtain⟨k8,cM,iO,_⟩:=I.tuple ao;refine HT.ZlE eZ iO (λz=>a_ (cj.nil_iff.mp z)) (λz=>⟨.ref a,H,I,rfl,b_ (cM.nil_iff.mp z)⟩) (λz=>?_) (by rw[←cj.length,←cM.length];exact hz);refine⟨.ref s.heap.objs.size,_,I.laid (t':=s.toks) (o:= .tup (xs++ys)) (λb cx q=>Heap.get?_push_of_some _ q) (QQ _) ?_,rfl,cO (λw=>z (cM.nil_iff.mpr w)) _ (I.hok.fresh (QQ _))⟩;exact⟨by rw[Rj];exact hz,_,cj.append cM,IsTup.new _ _⟩
end
noncomputable def ixN (n:Nat) (i:Int):Option Nat:=if 0≤i then(if i<n then some i.toNat else none) else if -(n:Int)≤i then some (i+n).toNat else none
noncomputable def atI {cJ:Type} (xs:List cJ) (i:Int):Option cJ:=(ixN xs.length i).bind λj=>xs[j]?
theorem Zg6{n:Nat}{i:Int}{j:Nat}(h:ixN n i=some j):seqIndex? i n=some j∧j<n∧ -(n:Int)≤i∧i<n:=by
 unfold ixN at h
 by_cases cw:0≤i
 ·rw[if_pos cw] at h
  by_cases ap:i<n
  ·rw[if_pos ap] at h;have e:i.toNat=j:=Q2 h;exact⟨by rw[seqIndex_of cw ap,e],by omega,by omega,ap⟩
  ·rw[if_neg ap] at h;cases h
 ·rw[if_neg cw] at h
  by_cases ap: -(n:Int)≤i
  ·rw[if_pos ap] at h;have e:(i+n).toNat=j:=Q2 h;exact⟨by rw[seqIndex_neg (by omega) ap,e],by omega,ap,by omega⟩
  ·rw[if_neg ap] at h;cases h
theorem ZbH{cJ:Type}{xs:List cJ}{i:Int}{v:cJ}(h:atI xs i=some v):∃j,seqIndex? i xs.length=some j∧xs[j]? =some v∧j<xs.length∧ -(xs.length:Int)≤i∧i<xs.length:=by
 unfold atI at h;cases e:ixN xs.length i with
 |none=>rw[e] at h;cases h
 |some j=>
  rw[e] at h;obtain⟨ap,a',bU,cD⟩:=Zg6 e;exact⟨j,ap,h,a',bU,cD⟩
theorem gj{cJ:Type}{xs:List cJ}{j:Nat}{v:cJ}(h:xs[j]? =some v):atI xs (j:Int)=some v:=by
 have bw:j<xs.length:=(QP.mp h).1;have e:ixN xs.length (j:Int)=some j:=by
  unfold ixN;rw[if_pos (by omega),if_pos (by omega)];simp
 unfold atI;rw[e];exact h
def ZlL(b:Expr):Prop:=∀o i,subscripted b false o i=operate [o,i] (getItem o i)
def IxR(X:Cx)(r:R2):Prop:=
 ∀(value slice:Expr)(ah:List (Addr×Obj))(s:Shared)(af:St)(H:Hp)(x y:V)(v u:Value)(Q:VK),Inv X ah af H s→cA x v→cA y u→r x y H Q→
  subscripted slice false v u=operate [v,u] (getItem v u)→wpAny (model X.prog X.w) X.A (subscriptTail value slice v u) (EP X ah af Q) X.xe s
def MtR(X:Cx)(id:String)(r:V→List V→Hp→VK→Prop):Prop:=
 ∀(ah:List (Addr×Obj))(s:Shared)(af:St)(H:Hp)(x:V)(xs:List V)(v:Value)(us:List Value)(Q:VK),Inv X ah af H s→cA x v→cH xs us→r x xs H Q→
  wpAny (model X.prog X.w) X.A (call (.builtin id) (v::us)) (EP X ah af Q) X.xe s
section
variable {X:Cx}{a b:Expr}{b0 cz:TE}{pos:Pos}
theorem IxR.or{r cY:R2}(h:IxR X r)(h':IxR X cY):IxR X (λx y H Q=>r x y H Q∨cY x y H Q):=by
 intro value slice ah s af H x y v u Q I bX b' q hs;rcases q with q|q
 ·exact h value slice ah s af H x y v u Q I bX b' q hs
 ·exact h' value slice ah s af H x y v u Q I bX b' q hs
theorem cp{r:R2}(bn:IxR X r)(bB:PE X a b0)(ao:PE X b cz)(hs:ZlL b):PE X (.Subscript a b pos) (tOp r b0 cz):=by
 intro ah s af H Q I h;exact Subscript_ (tc bB ao I h λv u bJ x y bo cB bX b' q=>bn a b ah bJ af bo x y v u Q cB bX b' q (hs _ _))
noncomputable def ZdU (K:Frag):R2:=λx y H Q=>∃p xs i v,x= .ref p∧y= .int i∧SqL K H p xs∧atI xs i=some v∧Q v H
noncomputable def tm (K:Frag):R2:=λx y H Q=>∃p xs i v,x= .ref p∧y= .int i∧SqT K H p xs∧atI xs i=some v∧Q v H
noncomputable def rIxS:R2:=λx y H Q=>∃z i c,x= .str z∧y= .int i∧z.length≤sizeLine∧atI z.cps.toList i=some c∧Q (.str ⟨#[c]⟩) H
theorem DB:IxR X (ZdU X.K):=by
 intro value slice ah s af H x y v u Q I bX b' h hs;obtain⟨p,xs,i,z,rfl,rfl,cq,bH,q⟩:=h;cases bX;obtain⟨t,rfl⟩:=b';obtain⟨its,r,pl,hz⟩:=I.list cq;obtain⟨j,ap,a',bU,cD,dJ⟩:=ZbH bH;obtain⟨w,gl,il⟩:=r.get a';have ag:=r.length;have bG:=j9;have dQ:EP X ah af Q w s:=⟨z,H,I,il,q⟩
 by_cases cw:0≤i
 ·have bw:i.toNat=j:=by
   rw[seqIndex_of cw dJ] at ap;exact Q2 ap
  exact item_listR pl.isList cw (by omega) (by rw[bw];simpa using gl) dQ hs
 ·have bw:(i+(its.toArray.size:Int)).toNat=j:=by
   rw[seqIndex_neg (by omega) cD] at ap;rw[QV,←ag];exact Q2 ap
  exact subscriptTail_builtinR (x:=w) pl.isList.typeIs slot_list_getitem.lookup
   (wpAny_getItem_list_neg (Q:=λr s'=>r=w∧EP X ah af Q r s') pl.isList (by omega) (by rw[QV]<;>omega) (by omega) (by rw[bw];simpa using gl) ⟨rfl,dQ⟩) hs
theorem DC:IxR X (tm X.K):=by
 intro value slice ah s af H x y v u Q I bX b' h hs;obtain⟨p,xs,i,z,rfl,rfl,cq,bH,q⟩:=h;cases bX;obtain⟨t,rfl⟩:=b';obtain⟨its,r,pl,hz⟩:=I.tuple cq;obtain⟨j,ap,a',bU,cD,dJ⟩:=ZbH bH;obtain⟨w,gl,il⟩:=r.get a';have ag:=r.length;have bG:=j9;have dQ:EP X ah af Q w s:=⟨z,H,I,il,q⟩;exact subscriptTail_builtinR (x:=w) pl.typeIs slot_tuple_getitem.lookup
  (getItem_tuple (j:=j) (Q:=λr s'=>r=w∧EP X ah af Q r s') pl (by omega) (by omega) (by rw[QV,←ag];exact ap) (by simpa using gl) ⟨rfl,dQ⟩) hs
theorem DD:IxR X rIxS:=by
 intro value slice ah s af H x y v u Q I bX b' h hs;obtain⟨z,i,c,rfl,rfl,hz,bH,q⟩:=h;obtain⟨t,rfl⟩:=bX;obtain⟨t',rfl⟩:=b';obtain⟨j,ap,a',bU,cD,dJ⟩:=ZbH bH;have ag:z.cps.toList.length=z.length:=by simp[Str.length]
 rw[ag] at ap cD dJ;have bG:=j9;exact tail_any (typeIs_str s z t) slot_str_getitem.lookup (getItem_str (c:=c) (by
  have bD:decide (i< -(2 ^ 63:Int))=false:=decide_eq_false (by omega);have bI:decide (i≥2 ^ 63)=false:=decide_eq_false (by omega);rw[bD,bI,Bool.or_false]) (by rw[ap];simpa using a') ⟨.str ⟨#[c]⟩,H,I.tok _,⟨_,rfl⟩,q⟩) hs
noncomputable def rIx (K:Frag):R2:=λx y H Q=>ZdU K x y H Q∨tm K x y H Q∨rIxS x y H Q
theorem DE:IxR X (rIx X.K):=DB.or (DC.or DD)
theorem DF(its:List Value)(n j:Nat)(u:Value):Obj.mapSeq (·.setIfInBounds j u) {cls:= .type "list",data:= .seq its.toArray n}={cls:= .type "list",data:= .seq (its.set j u).toArray n}:=by
 simp[Obj.mapSeq]
theorem Inv.lst{ah:List (Addr×Obj)}{af:St}{H:Hp}{s:Shared}{p:Addr}{xs:List V}(I:Inv X ah af H s)(h:H p=some (.lst xs)):
  ∃(its:List Value)(n:Nat),cH xs its∧s.heap.get? p=some {cls:= .type "list",data:= .seq its.toArray n}∧xs.length≤sizeLine:=by
 obtain⟨z,its,n,r,e⟩:=I.hok p _ h;exact⟨its,n,r,e,z⟩
theorem Inv.lstUpd{ah:List (Addr×Obj)}{af:St}{H:Hp}{s:Shared}{p:Addr}{xs ys:List V}{its its':List Value}{n e_:Nat}{f:Obj→Obj}(I:Inv X ah af H s)(h:H p=some (.lst xs))
  (bC:s.heap.get? p=some {cls:= .type "list",data:= .seq its.toArray n}) (bE:f {cls:= .type "list",data:= .seq its.toArray n}={cls:= .type "list",data:= .seq its'.toArray e_}) (r:cH ys its') (hz:ys.length≤sizeLine) (t:Nat):
  Inv X ah af (upd H p (.lst ys)) {s with heap:=s.heap.update p f,toks:=t}:=by
 have e:(s.heap.update p f).get? p=some {cls:= .type "list",data:= .seq its'.toArray e_}:=by
  rw[Heap.get?_update_self f bC (by rw[bE]<;>rfl),bE]
 refine I.write (x:=p) (e:=p) (by rw[h];trivial) (.inl rfl) (λb u ao q=>(Heap.get?_update_other _ _ (qao ao)).trans q) ⟨_,e⟩ ?_;exact⟨hz,its',e_,r,e⟩
noncomputable def rSetL:V→V→V→Hp→(Hp→Prop)→Prop:=λo i v H Q=>∃p xs k j,o= .ref p∧i= .int k∧H p=some (.lst xs)∧ixN xs.length k=some j∧Q (upd H p (.lst (xs.set j v)))
theorem ka:ZhT X rSetL:=by
 intro ah s af H o i v dg fg u Q I ro ri cZ h;obtain⟨p,xs,k,j,rfl,rfl,bz,bw,q⟩:=h;cases ro;obtain⟨t,rfl⟩:=ri;obtain⟨its,n,r,bC,hz⟩:=I.lst bz;obtain⟨ap,a',bU,cD⟩:=Zg6 bw;have ag:=r.length;have bG:=j9;have d0:Inv X ah af (upd H p (.lst (xs.set j v))) {s with heap:=s.heap.update p (Obj.mapSeq (·.setIfInBounds j u))}:=
  I.lstUpd bz bC (DF its n j u) (r.set cZ j) (by rw[qai];exact hz) s.toks
 by_cases cw:0≤k
 ·have bp:k.toNat=j:=by
   rw[seqIndex_of cw cD] at ap;exact Q2 ap
  exact PySem.W.ki_setAt bC cw (by omega) (by rw[QV,←ag];exact cD) (by rw[bp];exact⟨_,d0,q⟩)
 ·have bp:(k+(its.toArray.size:Int)).toNat=j:=by
   rw[seqIndex_neg (by omega) bU] at ap;rw[QV,←ag];exact Q2 ap
  exact PySem.W.ki_setBack bC (by omega) (by rw[QV,←ag];exact bU) (by omega) (by rw[bp];exact⟨_,d0,q⟩)
theorem Zfy(lo hi:Option Int)(n:Nat):(sliceBounds lo hi none n).1=((HT.sIx n 0 lo:Nat):Int)∧(sliceBounds lo hi none n).2.1=((HT.sIx n n hi:Nat):Int)∧(sliceBounds lo hi none n).2.2=1:=by
 refine⟨?_,?_,rfl⟩
 ·cases lo with
  |none=>simp[sliceBounds,HT.sIx]
  |some i=>
   simp only[sliceBounds,HT.sIx,Option.getD_none,show(1:Int) > 0 by decide,if_true]
   by_cases h:i<0
   ·simp only[h,if_true]<;>omega
   ·simp only[h,if_false]<;>omega
 ·cases hi with
  |none=>simp[sliceBounds,HT.sIx]
  |some i=>
   simp only[sliceBounds,HT.sIx,Option.getD_none,show(1:Int) > 0 by decide,if_true]
   by_cases h:i<0
   ·simp only[h,if_true]<;>omega
   ·simp only[h,if_false]<;>omega
theorem ZeP(its:List Value)(lo hi:Option Int):slicePick its.toArray lo hi none=((its.drop (HT.sIx its.length 0 lo)).take (HT.sIx its.length its.length hi-HT.sIx its.length 0 lo)).toArray:=by
 obtain⟨ap,a',bU⟩:=Zfy lo hi its.toArray.size;unfold slicePick;rw[ap,a',bU];simp only[sliceRange_one,pick_run,QV]<;>rfl
noncomputable def xF (K:Frag):V→Option Int→Option Int→Hp→VK→Prop:=λx lo hi H Q=>∃a xs,x= .ref a∧SqL K H a xs∧∀p,H p=none→Q (.ref p) (upd H p (.lst (jH xs lo hi)))
theorem DG:SlR X (xF X.K):=by
 intro ah s af H x v eY fK lo hi sl Q I bX hs pl hA h;obtain⟨a,xs,rfl,a_,q⟩:=h;cases bX;obtain⟨its,r,b3,hz⟩:=I.list a_;have d1:=r.length;refine⟨"list",_,slot_list_getitem.lookup,b3.isList.typeIs,?_⟩;refine wpAny_getItem_list_slice b3.isList hs pl hA .none (by simp) ?_ (by rw[QV]<;>omega);rw[ZeP,←d1];refine⟨.ref s.heap.objs.size,_,I.laid (t':=s.toks) (o:= .lst (jH xs lo hi)) (λb cx q=>Heap.get?_push_of_some _ q) (QQ _) ?_,rfl,q _ (I.hok.fresh (QQ _))⟩;exact⟨QZ (xD xs lo hi) hz,_,0,(r.drop (HT.sIx xs.length 0 lo)).take (HT.sIx xs.length xs.length hi-HT.sIx xs.length 0 lo),Heap.get?_push_size _ rfl⟩
noncomputable def jI:V→Bool
 | .non=>true
 | .bl _=>true
 | .int _=>true
 | .str _=>true
 |_=>false
noncomputable def eqV:V→V→Bool
 | .non,.non=>true
 | .bl a,.bl b=>a==b
 | .bl a,.int b=>(if a then 1 else 0)==b
 | .int a,.bl b=>a==(if b then 1 else 0)
 | .int a,.int b=>a==b
 | .str a,.str b=>a==b
 |_,_=>false
theorem ZmX{A:Around}{s:Shared}{y x:V}{u v:Value}(b':cA y u)(bX:cA x v)(xG:jI y=true)(i':jI x=true):SeqAt.EqAt A s u v (eqV y x):=by
 cases y with
 |non=>
  cases b';cases x with
  |non=>cases bX;exact SeqAt.EqAt.same _
  |bl b=>cases bX;exact SeqAt.EqAt.none_bool b
  |int b=>obtain⟨t,rfl⟩:=bX;exact SeqAt.EqAt.none_int b t
  |str b=>obtain⟨t,rfl⟩:=bX;exact SeqAt.EqAt.none_str b t
  |_=>exact absurd (show false=true from i') QY
 |bl a=>
  cases b';cases x with
  |non=>cases bX;exact SeqAt.EqAt.bool_none a
  |bl b=>cases bX;exact SeqAt.EqAt.bool_bool a b
  |int b=>obtain⟨t,rfl⟩:=bX;exact SeqAt.EqAt.bool_int a b t
  |str b=>obtain⟨t,rfl⟩:=bX;exact SeqAt.EqAt.bool_str a b t
  |_=>exact absurd (show false=true from i') QY
 |int a=>
  obtain⟨t',rfl⟩:=b';cases x with
  |non=>cases bX;exact SeqAt.EqAt.int_none a t'
  |bl b=>cases bX;exact SeqAt.EqAt.int_bool a t' b
  |int b=>obtain⟨t,rfl⟩:=bX;exact SeqAt.EqAt.int_int a t' b t
  |str b=>obtain⟨t,rfl⟩:=bX;exact SeqAt.EqAt.int_str a t' b t
  |_=>exact absurd (show false=true from i') QY
 |str a=>
  obtain⟨t',rfl⟩:=b';cases x with
  |non=>cases bX;exact SeqAt.EqAt.str_none a t'
  |bl b=>cases bX;exact SeqAt.EqAt.str_bool a t' b
  |int b=>obtain⟨t,rfl⟩:=bX;exact SeqAt.EqAt.str_int a t' b t
  |str b=>obtain⟨t,rfl⟩:=bX;exact SeqAt.EqAt.str_str a t' b t
  |_=>exact absurd (show false=true from i') QY
 |_=>exact absurd (show false=true from xG) QY
noncomputable def eqU (x:V) (u:Value):Bool:=match u with
 | .none=>eqV .non x
 | .bool b=>eqV (.bl b) x
 | .int i _=>eqV (.int i) x
 | .str z _=>eqV (.str z) x
 |_=>false
theorem xH{x y:V}{u:Value}(r:cA y u)(f:jI y=true):eqU x u=eqV y x:=by
 cases y with
 |non=>cases r;rfl
 |bl b=>cases r;rfl
 |int i=>obtain⟨t,rfl⟩:=r;rfl
 |str z=>obtain⟨t,rfl⟩:=r;rfl
 |_=>exact absurd (show false=true from f) QY
theorem tn{x:V}:∀{xs:List V}{us:List Value},cH xs us→xs.all jI=true→us.any (eqU x)=xs.any λy=>eqV y x
 |_,_,.nil,_=>rfl
 |y::xs,u::us,.cons r t,f=>by
  rw[qa1,Rz] at f;rw[qa2,qa2,xH r f.1,tn t f.2]
theorem Zcz{A:Around}{s:Shared}{x:V}{v:Value}(bX:cA x v)(i':jI x=true):∀{xs:List V}{us:List Value},cH xs us→xs.all jI=true→∀u∈us,SeqAt.EqAt A s u v (eqU x u)
 |_,_,.nil,_=>λu hu=>by cases hu
 |y::xs,u::us,.cons r t,f=>λjB hu=>by
  rw[qa1,Rz] at f;rcases QW.mp hu with rfl|hu
  ·rw[xH r f.1];exact ZmX r bX f.1 i'
  ·exact Zcz bX i' t f.2 jB hu
noncomputable def inV (x:V) (xs:List V):Bool:=xs.any λy=>eqV y x
noncomputable def rIn (K:Frag) (neg:Bool):R2:=λx y H Q=>∃p xs,y= .ref p∧(SqL K H p xs∨SqT K H p xs)∧jI x=true∧xs.all jI=true∧Q (.bl (if neg then !inV x xs else inV x xs)) H
theorem DH:OpR X (compareOp .In) (rIn X.K false):=by
 intro ah s af H x y v u Q I bX b' h;obtain⟨p,xs,rfl,cq,i',fs,q⟩:=h;cases b';rcases cq with cq|cq
 ·obtain⟨its,r,pl,hz⟩:=I.list cq;refine SeqAt.in_listAt (eqU x) pl.isList (λw hw=>Zcz bX i' r fs w (by simpa using hw)) ⟨.bl _,H,I,rfl,?_⟩;rw[show its.toArray.any (eqU x)=its.any (eqU x) by simp,tn r fs];exact q
 ·obtain⟨its,r,pl,hz⟩:=I.tuple cq;refine SeqAt.in_tupleAt (eqU x) pl (λw hw=>Zcz bX i' r fs w (by simpa using hw)) ⟨.bl _,H,I,rfl,?_⟩;rw[show its.toArray.any (eqU x)=its.any (eqU x) by simp,tn r fs];exact q
theorem DI:YJ X (.type "list") (λxs H Q=>∃p ys,xs=[.ref p]∧(SqL X.K H p ys∨SqT X.K H p ys)∧∀l,H l=none→Q (.ref l) (upd H l (.lst ys))):=by
 intro ah s af H xs us Q I r h;obtain⟨p,ys,rfl,cq,q⟩:=h;obtain⟨u,rfl,bX⟩:=Wd r;cases bX;have dQ:∀(its:List Value),cH ys its→ys.length≤sizeLine→∀(h':Heap)(cR:Nat),(∀b ci,s.heap.get? b=some ci→h'.get? b=some ci)→
   h'.get? s.heap.objs.size=some {cls:= .type "list",dict:=none,data:= .seq its.toArray cR,slots:=#[]}→EP X ah af Q (.ref s.heap.objs.size) {s with heap:=h'}:=λits cY hz h' cR kp e=>
  ⟨.ref s.heap.objs.size,_,I.laid (t':=s.toks) kp (QQ _) (show ZW X.prog X.w _ h' _ (.lst ys) from⟨hz,its,cR,cY,e⟩),rfl,q _ (I.hok.fresh (QQ _))⟩
 rcases cq with cq|cq
 ·obtain⟨its,cY,pl,hz⟩:=I.list cq;have d1:=cY.length;obtain⟨o,bC,br,n,hd⟩:=pl.isList;exact call_list_seq p (.inl rfl) bC br hd (λh' cR kp e=>dQ its cY hz h' cR kp e) (by simp only[QV]<;>omega)
 ·obtain⟨its,cY,pl,hz⟩:=I.tuple cq;have d1:=cY.length;obtain⟨o,bC,br,n,hd⟩:=pl;exact call_list_seq p (.inr rfl) bC br hd (λh' cR kp e=>dQ its cY hz h' cR kp e) (by simp only[QV]<;>omega)
def tyV(K:Frag)(T:String)(x:V)(H:Hp):Prop:=match x with
 | .str _=>T="str"
 | .int _=>T="int"
 | .ref p=>(T="list" ∧∃xs,SqL K H p xs)∨(T="tuple" ∧∃o,K.lookup p=some o∧o.cls= .type "tuple" ∧o.dict=none)∨
   (T="dict" ∧((∃kvs,H p=some (.dK kvs))∨∃kvs,H p=some (.dT kvs)))∨(T="set" ∧∃S n,H p=some (.set S n))
 |_=>False
theorem Zm8{ah:List (Addr×Obj)}{af:St}{H:Hp}{s:Shared}{T:String}{x:V}{v:Value}(I:Inv X ah af H s)(r:cA x v)(ty:tyV X.K T x H):
  s.TypeIs v T∧∀a,v= .ref a→∃cx,s.heap.get? a=some cx∧cx.dict=none:=by
 cases x with
 |str z=>
  obtain⟨t,rfl⟩:=r;cases (show T="str" from ty);exact⟨typeIs_str s z t,λ_ e=>nomatch e⟩
 |int i=>
  obtain⟨t,rfl⟩:=r;cases (show T="int" from ty);exact⟨typeIs_int s i t,λ_ e=>nomatch e⟩
 |ref p=>
  cases r;rcases ty with⟨rfl,xs,cq⟩|⟨rfl,o,bp,br,hd⟩|⟨rfl,bp⟩|⟨rfl,S,n,bp⟩
  ·obtain⟨its,_,pl,_⟩:=I.list cq;refine⟨pl.isList.typeIs,λa e=>?_⟩;cases e;obtain⟨o,n,e,c,hd,_⟩:=pl;exact⟨o,e,hd⟩
  ·refine⟨⟨o,I.kIn p o bp,br⟩,λa e=>?_⟩;cases e;exact⟨o,I.kIn _ o bp,hd⟩
  ·have z:∃o,s.heap.get? p=some o∧o.ExactDict:=by
    rcases bp with⟨kvs,bp⟩|⟨kvs,bp⟩
    ·obtain⟨_,_,_,_,o,_,_,e,ex,_⟩:=I.hok p _ bp;exact⟨o,e,ex⟩
    ·obtain⟨_,_,_,_,o,_,_,e,ex,_⟩:=I.hok p _ bp;exact⟨o,e,ex⟩
   obtain⟨o,e,ex⟩:=z;refine⟨⟨o,e,ex.1⟩,λa bI=>?_⟩;cases bI;exact⟨o,e,ex.2.1⟩
  ·obtain⟨o,_,_,_,e,ex,_⟩:=I.hok p _ bp;refine⟨⟨o,e,ex.1⟩,λa bI=>?_⟩;cases bI;exact⟨o,e,ex.2.1⟩
 |_=>exact False.elim ty
noncomputable def tBM (K:Frag) (T:String) (r:V→List V→Hp→VK→Prop) (to:TE) (t:TA):TE:=λaf H Q=>to af H λx ax=>tyV K T x ax∧t af ax λxs bo=>r x xs bo Q
variable {o e:Expr}{bx:List Expr}{to:TE}{t:TA}{name:Str}{di dm:Pos}{T id:String}{r:V→List V→Hp→VK→Prop}
theorem ZnO(k9:PlainAttrs T)(slot:Slot T name id)(hT:typeOf (.builtin id)=pure (.type "method_descriptor"))(bv:MtR X id r)(bC:PE X o to)(bB:PA X (e::bx) t)
  (ja:attributeBase o name X.env (eval o X.env)=eval o X.env:=by rfl)
  (tp:((backTo dm (starEach (e::bx) X.env)).all (λx=>!x.1)&&(backToKw dm (keywordEach [] X.env)).all (λx=>x.1.isSome)
   &&decide ((e::bx).length+([]:List Keyword).length+(if([]:List Keyword).isEmpty then 0 else 1)<30))=true:=by rfl)
  (jb:(di.endLine==dm.line)=true:=by rfl) (hs:starEach (e::bx) X.env=(false,eval e X.env)::starEach bx X.env:=by rfl) (ma:(backTo dm (starEach bx X.env)).any (·.1)=false:=by rfl):
  PE X (.Call (.Attribute o name di) (e::bx) [] dm) (tBM X.K T r to t):=by
 intro ah s af H Q I h;refine wpAny_Call_method_late ja tp jb rfl (thn (bC ah s af H _ I h) λv bq ⟨x,ax,bK,cj,ty,b_⟩=>?_);obtain⟨ap,a'⟩:=Zm8 bK cj ty;refine⟨T,id,k9,slot,hT,ap,a',?_⟩;have mb:=bB dm ah bq af ax _ bK b_;rw[hs] at mb⊢;refine Calls.callWith_builtin (by show(false||(backTo dm (starEach bx X.env)).any (·.1))=false;rw[ma]<;>rfl) (Calls.evalArgs_plain ?_);exact thn mb λus bJ ⟨vs,bo,cB,cM,cO⟩=>bv ah bJ af bo x vs v us Q cB cj cM cO
end
def MtM(X:Cx)(id:String)(r:V→List V→Hp→VK→Prop):Prop:=
 ∀(ah:List (Addr×Obj))(s:Shared)(af:St)(H:Hp)(x:V)(xs:List V)(v:Value)(us:List Value)(Q:VK),Inv X ah af H s→cA x v→cH xs us→r x xs H Q→
  wpAny (model X.prog X.w) X.A (call (.builtin id) (v::us)) (EP X ah af Q) X.xe s
theorem cH.one:∀{x:V}{us:List Value},cH [x] us→∃u,us=[u]∧cA x u
 |_,_,.cons r .nil=>⟨_,rfl,r⟩
theorem cH.two:∀{x y:V}{us:List Value},cH [x,y] us→∃u v,us=[u,v]∧cA x u∧cA y v
 |_,_,_,.cons r (.cons q .nil)=>⟨_,_,rfl,r,q⟩
theorem cH.rep{xs:List V}{us:List Value}(h:cH xs us):∀k:Nat,cH (List.replicate k xs).flatten (List.replicate k us).flatten
 |0=> .nil
 |k+1=>by
  rw[qas,qas,qaY,qaY];exact cH.append h (cH.rep h k)
theorem Zei(its:List Value):∀(k:Nat)(cW:List Value),
  List.foldl (λx1 x2=>x1++x2) cW.toArray (List.replicate k its.toArray)=(cW++(List.replicate k its).flatten).toArray
 |0,cW=>by simp
 |k+1,cW=>by
  have e:cW.toArray++its.toArray=(cW++its).toArray:=by simp
  have bI:(cW++its)++(List.replicate k its).flatten=cW++(List.replicate (k+1) its).flatten:=by
   rw[qas,qaY,qaZ]
  rw[←bI,←Zei its k (cW++its),←e,qas,List.foldl_cons]
section
variable {X:Cx}{ah:List (Addr×Obj)}{af:St}{H:Hp}{s:Shared}{l b:Addr}{xs ys zs:List V}
theorem Inv.lset{its its':List Value}{n:Nat}{f:Array Value→Array Value}{t':Nat}(I:Inv X ah af H s)(gS:H l=some (.lst xs))
  (e:s.heap.get? l=some {cls:= .type "list",data:= .seq its.toArray n}) (bE:f its.toArray=its'.toArray) (b8:cH ys its') (hz:ys.length≤sizeLine):
  Inv X ah af (upd H l (.lst ys)) {s with heap:=s.heap.update l (Obj.mapSeq f),toks:=t'}:=by
 have q:=PySem.IsL.update e f;rw[bE] at q;refine I.write (x:=l) (e:=l) (by rw[gS];exact trivial) (.inl rfl) (λkb u ao hu=>(Heap.get?_update_other s.heap (Obj.mapSeq f) (qao ao)).trans hu) ⟨_,q⟩ ?_;exact⟨hz,its',_,b8,q⟩
theorem Inv.lnew{its:List Value}{t':Nat}(I:Inv X ah af H s)(b8:cH ys its)(hz:ys.length≤sizeLine):
  Inv X ah af (upd H s.heap.objs.size (.lst ys)) {s with heap:=s.heap.push {cls:= .type "list",data:= .seq its.toArray},toks:=t'}:=
 I.laid (λ_ _ q=>Heap.get?_push_of_some _ q) (QQ _) ⟨hz,its,0,b8,Heap.get?_push_size _ rfl⟩
theorem Inv.fresh(I:Inv X ah af H s):H s.heap.objs.size=none:=I.hok.fresh (QQ _)
theorem Inv.lstM(I:Inv X ah af H s)(gS:H l=some (.lst xs)):xs.length≤sizeLine∧∃(its:List Value)(n:Nat),cH xs its∧xs.length=its.length∧s.heap.get? l=some {cls:= .type "list",data:= .seq its.toArray n}:=by
 obtain⟨z,its,n,r,e⟩:=I.hok l _ gS;exact⟨z,its,n,r,r.length,e⟩
theorem Zfc{n:Nat}(h:n≤sizeLine):Builtin.List.listTooLong n=false:=by
 unfold Builtin.List.listTooLong;exact decide_eq_false (by omega)
end
section
variable {X:Cx}
noncomputable def rAppend:V→List V→Hp→VK→Prop:=λx vs H Q=>∃l xs y,x= .ref l∧vs=[y]∧H l=some (.lst xs)∧xs.length<sizeLine∧Q .non (upd H l (.lst (xs++ [y])))
theorem ha:MtM X "list.append" rAppend:=by
 intro ah s af H x vs v us Q I bX cZ h;obtain⟨l,xs,y,rfl,rfl,gS,hz,q⟩:=h;cases bX;obtain⟨u,rfl,dX⟩:=cZ.one;obtain⟨z,its,n,r,ag,e⟩:=I.lstM gS;refine call_meets F.slot_list_append ⟨_,e,rfl⟩ F.entry_list_append (F.args_list_append_2 _ _) (PySem.list_append l its.toArray n u (by rw[QV];omega)) ⟨e,?_⟩;refine⟨.non,_,I.lset (its':=its++ [u]) gS e (by simp) (r.append (.cons dX .nil)) ?_,rfl,q⟩;rw[Rj,List.length_singleton];omega
noncomputable def rExtend:V→List V→Hp→VK→Prop:=λx vs H Q=>∃l b xs zs,x= .ref l∧vs=[.ref b]∧H l=some (.lst xs)∧H b=some (.lst zs)∧xs.length+zs.length≤sizeLine∧Q .non (upd H l (.lst (xs++zs)))
theorem DJ:MtM X "list.extend" rExtend:=by
 intro ah s af H x vs v us Q I bX cZ h;obtain⟨l,b,xs,zs,rfl,rfl,gS,e',hz,q⟩:=h;cases bX;obtain⟨u,rfl,dX⟩:=cZ.one;cases dX;obtain⟨z,its,n,r,ag,e⟩:=I.lstM gS;obtain⟨ff,k8,hx,cM,fL,bI⟩:=I.lstM e';have hsz:its.toArray.size+k8.toArray.size≤sizeLine:=by rw[QV,QV];omega
 have tq:¬(!its.toArray.isEmpty&&Builtin.List.listTooLong (its.toArray.size+k8.toArray.size))=true:=by
  rw[Zfc hsz,Bool.and_false];exact QY
 refine call_meets F.slot_list_extend ⟨_,e,rfl⟩ F.entry_list_extend (F.args_list_extend_2 _ _)
  (AutoSeq1.list_extend_list_list_0 l its.toArray n b k8.toArray hx tq (by rw[QV];omega) (by omega)) ⟨e,bI,?_⟩
 refine⟨.non,_,I.lset (its':=its++k8) gS e (by simp) (r.append cM) ?_,rfl,q⟩;rw[Rj];omega
noncomputable def rCat:R2:=λx y H Q=>∃l b xs zs,x= .ref l∧y= .ref b∧H l=some (.lst xs)∧H b=some (.lst zs)∧xs.length+zs.length≤sizeLine∧∀p,H p=none→Q (.ref p) (upd H p (.lst (xs++zs)))
theorem DK:OpR X (binaryOp .Add) rCat:=by
 intro ah s af H x y v u Q I bX b' h;obtain⟨l,b,xs,zs,rfl,rfl,gS,e',hz,q⟩:=h;cases bX;cases b';obtain⟨z,its,n,r,ag,e⟩:=I.lstM gS;obtain⟨ff,k8,hx,cM,fL,bI⟩:=I.lstM e';refine PySem.P.add_list e bI ?_ (by rw[QV,QV];omega);have cm:its.toArray++k8.toArray=(its++k8).toArray:=by simp
 rw[cm];exact⟨.ref _,_,I.lnew (t':=s.toks) (r.append cM) (by rw[Rj];omega),rfl,q _ I.fresh⟩
noncomputable def rRep:R2:=λx y H Q=>∃l k xs,x= .ref l∧y= .int k∧H l=some (.lst xs)∧ -(2 ^ 63)≤k∧k<2 ^ 63∧xs.length*k.toNat≤sizeLine∧
 ∀p,H p=none→Q (.ref p) (upd H p (.lst (List.replicate k.toNat xs).flatten))
theorem ZlX{cJ:Type}(xs:List cJ)(k:Nat):(List.replicate k xs).flatten.length=k*xs.length:=by
 induction k with
 |zero=>simp
 |succ k bM=>rw[qas,qaY,Rj,bM,Nat.succ_mul,Nat.add_comm]
theorem DL:OpR X (binaryOp .Mult) rRep:=by
 intro ah s af H x y v u Q I bX b' h;obtain⟨l,k,xs,rfl,rfl,gS,ap,a',hz,q⟩:=h;cases bX;obtain⟨t,rfl⟩:=b';obtain⟨z,its,n,r,ag,e⟩:=I.lstM gS;have d1:its.toArray.size*k.toNat≤sizeLine:=by rw[QV,←ag];exact hz
 have DM:¬its.toArray.size*k.toNat > (2 ^ 63-1) / 8:=by
  have:(sizeLine:Nat)≤(2 ^ 63-1) / 8:=by decide
  omega
 have DN:¬(!Builtin.List.listFitsIndex k)=true:=by
  rw[fitsIndex_both ap a'];exact QY
 have tq:¬Builtin.List.listTooLong (its.toArray.size*k.toNat)=true:=by
  rw[Zfc d1];exact QY
 have kc:List.foldl (λx1 x2=>x1++x2) #[] (List.replicate (if its.toArray.isEmpty=true then 0 else k.toNat) its.toArray)=(List.replicate k.toNat its).flatten.toArray:=by
  have dz:∀m:Nat,List.foldl (λx1 x2=>x1++x2) #[] (List.replicate m its.toArray)=(List.replicate m its).flatten.toArray:=λm=>by
   have:=Zei its m [];rw[List.nil_append] at this;exact this
  rw[dz];cases its with
  |nil=>simp
  |cons a cY=>rw[if_neg (by simp)]
 refine wpAny_binaryOp_repeat_ref (T:="list") (U:="int") (by decide) ⟨_,e,rfl⟩ (λs'=>typeIs_int s' k t) noFill_list_mul F.fills_int_mul F.slot_int_rmul repeat_list F.slot_int_index.lookup
  (call_meets F.slot_int_rmul (typeIs_int s k t) F.entry_int_rmul (F.args_int_rmul_2 _ _) (int___rmul___int_list k t l its.toArray n)
   ⟨e,rfl,⟨_,e,rfl⟩,call_meets F.slot_list_mul ⟨_,e,rfl⟩ F.entry_list_mul (F.args_list_mul_2 _ _) (AutoListH.list___mul___list_int_3 l its.toArray n k t DN DM tq) ⟨e,?_⟩⟩)
 rw[kc];exact⟨.ref _,_,I.lnew (t':=s.toks) (r.rep k.toNat) (by rw[ZlX,RO];exact hz),rfl,q _ I.fresh⟩
end
section
variable {prog:Program}{w:World}{A:Around}{E:Value→Shared→Prop}{s:Shared}
end
section
variable {X:Cx}
end
end L2
namespace Att
open PySem PySem.W PySem.Calls PyProof.Rows
theorem DO{P:Params}{h:Heap}:∀(ns:List Int)(vs:List Value),WellAll P h vs (ns.map WData.int)→IntsAre vs ns:=by
 intro ns
 induction ns with
 |nil=>
  intro vs w;rw[List.map_nil] at w;cases w;exact .nil
 |cons n ns bM=>
  intro vs w;rw[List.map_cons] at w;cases w with
  |cons a b=>
   cases a;exact .cons _ _ (bM _ b)
theorem ZiO{l:OpenLaw}{n:Nat}(bG:l.most=some n){P:Params}{h:Heap}{args:List WData}{tr:List Value}
  (q1:l.row.toRowW.claim.pre args=true) (iP:WellAll P h tr args):
  ∃a vs ns,tr=[Value.ref a]∧args=[WData.list (ns.map WData.int)]∧h.get? a=some {cls:= .type "list",data:= .seq vs.toArray}∧IntsAre vs ns∧ns.length≤n:=by
 have jc:WShape.hasAll [] args [.list .int]=true:=(pre_splitW q1).1;have br:l.pre.holds [] {args:=args}=true:=(pre_splitW q1).2;obtain⟨d,r,rfl,ap,a'⟩:=hasAllW_cons jc;obtain rfl:=hasAllW_nil a';obtain⟨xs,rfl,bU⟩:=hasW_list ap;obtain⟨ns,rfl⟩:=items_int bU;have d1:ns.length≤n:=by
  unfold OpenLaw.pre at br;have cD:(WTm.not (.lt (.lit (.int (n:Int))) (.len (.arg 0)))).holds [] {args:=[.list (ns.map .int)]}=true:=by
   have cD:=(holds_andW br).1;rw[bG] at cD;exact cD
  have dJ:=condW_of cD (w_not (w_lt w_lit (w_len_list (w_arg rfl))));rw[QM] at dJ;refine Nat.le_of_not_lt λq=>?_;have g7:(n:Int)<((ns.length:Nat):Int):=by omega
  first
   |(rw[decide_eq_true g7] at dJ;exact absurd dJ (by decide))
   |(simp at dJ;omega)
 cases iP with
 |cons fI gd=>
  cases gd;cases fI with
  |list bC kd=>exact⟨_,_,ns,rfl,rfl,bC,DO ns _ kd,d1⟩
theorem DP(l:OpenLaw)(args:List WData):l.row.toRowW.claim.post args (.bool true) args=true:=
 postW_of (r:=l.row.toRowW) (X:=(true==true))
  (show WShape.has [] (.bool true) .bool=true by first|rfl|decide|simp[WShape.has,WShape.arms,WShape.armsAll])
  (show(WTm.eq .res (.lit (.bool true))).value [] {args:=args,res:=some (.bool true),after:=args}=some (.bool (true==true)) from w_eq_bool (w_res rfl) w_lit) rfl
theorem Zgf{l:OpenLaw}{n:Nat}{q:Program}{nk:List Str}{nl:(Str→Option Value)→Heap→Prop}{k_:World→Heap→Prop}{d:DefRec}
  (bG:l.most=some n) (im:d.params.defaults=[])
  (call:∀(w:World)(s₀ da:Shared)(mg iK:Str→Option Value)(hB:Addr)(o:Obj)(d3 c0 eK:Value)(a:Addr)(vs:List Value)(ns:List Int),
   Ground q nk [] nl w s₀ mg iK da.heap→k_ w da.heap→
   da.heap.get? hB=some o→o.data= .func (docDef d.name d.params d.body d.scope d3 c0 eK)→da.heap.CodeRec c0 d.name→mg d.name=some (.ref hB)→
   da.heap.get? a=some {cls:= .type "list",data:= .seq vs.toArray}→IntsAre vs ns→ns.length≤n→da.gens=#[]→
   codeAny (model l.prog w) callerA (.call (.ref hB) ⟨[.ref a],[]⟩) (λr s'=>r= .ok (.ret (.bool true))∧OldK da.heap s'.heap∧s'.os=da.os∧AllBare s'.gens) da):
  WalkO q nk nl k_ l.row.toRowW d [] (λf vs=>PySem.call f vs):=by
 intro w s₀ da mg iK G Y hB o d3 c0 eK qX kV bC hd ic nn np bF args tr as q1 hlay ts iP mc;obtain rfl:qX= .none:=Dflts.none nn im;obtain rfl:kV= .none:=Dflts.noKw nn;obtain⟨a,vs,ns,rfl,rfl,tt,tu,d1⟩:=ZiO bG q1 iP;refine enter_call (codeAny_mono (call w s₀ da mg iK hB o d3 c0 eK a vs ns G Y bC (fd_plain hd) ic np tt tu d1 bF) λr s' cq=>?_);obtain⟨rfl,a',bU,cD⟩:=cq;exact⟨.inl ⟨.bool true,.bool true,[],rfl,λ_=>rfl,.bool true,DP l _,λ_=>⟨List.Pairwise.nil,λ_ bv=>(nomatch bv)⟩⟩,a',bU,cD⟩
section
variable {prog:Program}{w:World}{A:Around}{E:Value→Shared→Prop}{s:Shared}{K:Frag}
end
end Att
namespace L2
open PySem PySem.Spec PyProof.Rows
theorem q2:∀{vs:List Value}{ns:List Int},IntsAre vs ns→cH (ns.map V.int) vs
 |_,_,.nil=> .nil
 |_,_,.cons n t h=> .cons ⟨t,rfl⟩ (q2 h)
def tv(H:Hp):Prop:=∀b,H b=none∨∃o xs,H b=some (.frz o (.lst xs))
theorem ZkK{P:Program}{w:World}{K:Frag}{mg iK:Str→Option Value}{CX:CXT}{k:Nat}{hB a:Addr}{fd:FuncData}{x:Str}{sp:Sp}{da:Shared}{vs:List Value}{ns:List Int}
  (ek:K.In da.heap) (ke:da.heap.Ns mainGlobals mg) (ao:da.heap.Ns builtinsNs iK) (tw:∀x:Str,x≠"__name__" →iK x=bootBuiltins x) (DQ:da.heap.NoLimit) (bF:da.gens=#[])
  (bB:da.heap.get? a=some {cls:= .type "list",data:= .seq vs.toArray}) (hi:IntsAre vs ns) (ag:ns.length≤sizeLine) (bn:ef k callerA)
  (F:∀base:Heap,K.In base→base.Ns mainGlobals mg→YN P w K mg base CX k hB fd [x] sp) (DR:∀(s:Shared)(u:Value),BindsTo s fd ⟨[u],[]⟩ [(x,u)])
  (iN:∀H:Hp,tv H→SqL K H a (ns.map V.int)→sp [.ref a] H (λv _=>v= .bl true) λ_ _ _=>False)
  (tx:∀H e s',CX [] H da (λ_ _ _=>False) e s'→False):
  codeAny (model P w) callerA (.call (.ref hB) ⟨[.ref a],[]⟩) (λr s'=>r= .ok (.ret (.bool true))∧OldK da.heap s'.heap∧s'.os=da.os∧AllBare s'.gens) da:=by
 have cZ:=q2 hi;have DS:=hi.length;have xI:∀H:Hp,tv H→SqL K H a (ns.map V.int)→HOk P w H da.heap→(∀b,H b≠none→b=a)→(H a≠none→K.lookup a=none)→
   codeAny (model P w) callerA (.call (.ref hB) ⟨[.ref a],[]⟩) (λr s'=>r= .ok (.ret (.bool true))∧OldK da.heap s'.heap∧s'.os=da.os∧AllBare s'.gens) da:=by
  intro H hO db hok mb eb;have xJ:∀{b:Addr}{o:Obj},da.heap.get? b=some o→H b=none→(j2 da.heap H).get? b=some o:=λe n=>ZkJ e n;have o0:∀{b:Addr}{o:Obj}{bx:Array DictEntry}{ep:Nat},da.heap.get? b=some o→o.data= .dict bx ep→H b=none:=λ{b o bx ep} e d=>by
   cases q:H b with
   |none=>rfl
   |some u=>
    have b6:b=a:=mb b (by rw[q];simp);subst b6;rw[bB] at e;cases e;have d':Data.seq vs.toArray _=Data.dict bx ep:=d;cases d'
  have q3:∀{b:Addr}{m:Str→Option Value},da.heap.Ns b m→(j2 da.heap H).Ns b m:=λ{b m} ⟨o,bx,ep,e,d,r⟩=>⟨o,bx,ep,xJ e (o0 e d),d,r⟩;have xK:K.In (j2 da.heap H):=λb o e=>xJ (ek b o e) (by
   cases q:H b with
   |none=>rfl
   |some u=>
    have b6:b=a:=mb b (by rw[q];simp);subst b6;rw[eb (by rw[q];simp)] at e;cases e)
  have md:Mod K mg (j2 da.heap H):=⟨xK,q3 ke,⟨iK,q3 ao,tw⟩,let⟨DT,ap,a'⟩:=DQ;⟨DT,q3 ap,a'⟩⟩;have eo:Zcy P w K mg (j2 da.heap H) callerA [] da H:=⟨rfl,md,λb o e=>Zl2 e,Nat.le_of_eq (CW _ _),trivial,λb ao=>absurd (show b∈([]:List Addr) from ao) (by simp),hok,.of_eq bF⟩;refine codeAny_mono ((F _ xK (q3 ke)).run callerA [] da H ⟨[.ref a],[]⟩ [.ref a] [.ref a] _ _ bn eo (DR da (.ref a)) (.cons rfl .nil) (iN H hO db)) λr s' h=>?_;cases r with
  |error e=>exact(tx H e s' h).elim
  |ok eG=>
   cases eG with
   |next=>exact False.elim h
   |brk=>exact False.elim h
   |cont=>exact False.elim h
   |ret u=>
    obtain⟨v,ae,os,bare,un,tz,cY,q⟩:=h;have g7:v= .bl true:=q;subst g7;obtain rfl:u=Value.bool true:=cY;refine⟨rfl,OldK.of_keep λb o e=>?_,os,bare⟩;cases q:H b with
    |none=>exact un.keep b o e q (by intro z;exact absurd (show b∈([]:List Addr) from z) (by simp)) (by simp)
    |some u=>
     rcases hO b with z|⟨cx,xs,z⟩
     ·rw[q] at z;cases z
     ·have ff:=un.frzs b cx _ z;obtain⟨bD,_⟩:=hok b _ z;obtain⟨bI,_⟩:=tz b _ ff;rw[e] at bD;cases bD;exact bI
 cases bp:K.lookup a with
 |some o=>
  have e:=ek a o bp;rw[bB] at e;cases e;refine xI (λ_=>none) (λ_=> .inl rfl) (.inr ⟨_,vs.toArray,_,bp,rfl,rfl,rfl,by rw[QV,DS];exact ag,by simpa using cZ⟩) (λb u z=>by have fZ:(none:Option HO)=some u:=z;cases fZ) (λb z=>absurd rfl z) λz=>absurd rfl z
 |none=>
  refine xI (λb=>if b=a then some (.frz {cls:= .type "list",data:= .seq vs.toArray} (.lst (ns.map V.int))) else none) (λb=>?_) (.inl (.inr ⟨{cls:= .type "list",data:= .seq vs.toArray},if_pos rfl⟩)) (λb u z=>?_) (λb z=>?_) λ_=>bp
  ·by_cases ao:b=a
   ·exact .inr ⟨_,_,if_pos ao⟩
   ·exact .inl (if_neg ao)
  ·by_cases ao:b=a
   ·have fZ:=(if_pos ao).symm.trans z;cases fZ;subst ao;exact⟨bB,by rw[QM];exact ag,vs,_,cZ,bB⟩
   ·have fZ:=(if_neg ao).symm.trans z;cases fZ
  ·by_cases ao:b=a
   ·exact ao
   ·exact absurd (if_neg ao) z
theorem ZlB{l:PySem.W.OpenLaw}{n k:Nat}{q:Program}{nk:List Str}{nl:(Str→Option Value)→Heap→Prop}{k_:World→Heap→Prop}{d:DefRec}{K:Params→Frag}{CX:World→CXT}{sp:World→Sp}{x:Str}
  (bG:l.most=some n) (i_:n≤sizeLine) (im:d.params.defaults=[]) (bn:ef k callerA)
  (o5:∀(w:World)(h:Heap),k_ w h→(K w.params).In h)
  (F:∀(w:World)(mg:Str→Option Value)(hB:Addr)(h:Heap),(K w.params).In h→h.Ns mainGlobals mg→mg d.name=some (.ref hB)→
   ∃fd:FuncData,(∀(s:Shared)(u:Value),BindsTo s fd ⟨[u],[]⟩ [(x,u)])∧
    ∀base:Heap,(K w.params).In base→base.Ns mainGlobals mg→YN l.prog w (K w.params) mg base (CX w) k hB fd [x] (sp w))
  (iN:∀(w:World)(H:Hp)(a:Addr)(ns:List Int),ns.length≤n→tv H→SqL (K w.params) H a (ns.map V.int)→sp w [.ref a] H (λv _=>v= .bl true) λ_ _ _=>False)
  (tx:∀(w:World)(H:Hp)(s:Shared)(e:Value)(s':Shared),CX w [] H s (λ_ _ _=>False) e s'→False):
  PySem.W.WalkO q nk nl k_ l.row.toRowW d [] (λf vs=>PySem.call f vs):=by
 refine Att.Zgf bG im λw s₀ da mg iK hB o d3 c0 eK a vs ns G Y bC hd ic np tt tu d1 bF=>?_;have ek:=o5 w _ Y;obtain⟨fd,ao,la⟩:=F w mg hB _ ek G.T.g np;exact ZkK ek G.T.g G.T.b G.T.builtins G.T.nolimit bF tt tu (QZ d1 i_) bn la ao (λH hO db=>iN w H a ns d1 hO db) λH e s'=>tx w H da e s'
noncomputable def Yv (s:Stmt) (j:Nat):Stmt:=match s with
 | .ClassDef _ _ _ body _ _ _ _ _ _ _=>body.getD j (.Pass ⟨0,0,0,0⟩)
 |_=> .Pass ⟨0,0,0,0⟩
noncomputable def jd (s:Stmt):Arguments:=match s with
 | .FunctionDef _ a _ _ _ _ _ _ _ _=>a
 |_=>{posonlyargs:=[],args:=[],vararg:=none,kwonlyargs:=[],kw_defaults:=[],kwarg:=none,defaults:=[]}
noncomputable def io (s:Stmt):List Stmt:=match s with
 | .FunctionDef _ _ b _ _ _ _ _ _ _=>b
 |_=>[]
noncomputable def cr (s:Stmt):Scope:=match s with
 | .FunctionDef _ _ _ _ _ _ b4 _ _ _=>b4
 |_=>{kind:= .function,names:=[],isGenerator:=false,isCoroutine:=false}
noncomputable abbrev E0:XK:=λ_ _ _=>False
structure Fun(K:Frag)(x qual:Str)(st:Stmt)(f:Addr)(fd:FuncData):Prop where
 ex:∃(eO:Value)(dO:Option Addr)(kV eK d3:Value)(an:Option Addr)(cv ct:Value)(gi:Array (Option Value)),
  fd=fnOf x qual (jd st) (io st) (cr st) .none kV eK d3 an cv ct∧K.lookup f=some ⟨eO,dO,.func fd,gi⟩∧codeIn K cv qual=true
 kp:keepIn K (.ref f)=true
section
variable {P:Program}{w:World}{K:Frag}{mg:Str→Option Value}{base:Heap}
theorem Fun.binds{x qual:Str}{st:Stmt}{f:Addr}{fd:FuncData}{b1:List Str}(F:Fun K x qual st f fd)
  (h:∀(kV eK d3:Value)(an:Option Addr)(cv ct:Value)(us:List Value),us.length=b1.length→bindArgs (fnOf x qual (jd st) (io st) (cr st) .none kV eK d3 an cv ct) ⟨us,[]⟩=pure (b1.zip us)):Wz K fd b1 []:=by
 obtain⟨eO,dO,kV,eK,d3,an,cv,ct,gi,rfl,lk,ic⟩:=F.ex;exact .all (h kV eK d3 an cv ct)
theorem nq{x qual:Str}{st:Stmt}{f:Addr}{eO:Value}{dO an:Option Addr}{gi:Array (Option Value)}{kV eK d3 cv ct:Value}(l:K.lookup f=some ⟨eO,dO,.func (fnOf x qual (jd st) (io st) (cr st) .none kV eK d3 an cv ct),gi⟩)
  (c:codeIn K cv qual=true) (k:keepIn K (.ref f)=true):Fun K x qual st f (fnOf x qual (jd st) (io st) (cr st) .none kV eK d3 an cv ct):=⟨⟨eO,dO,kV,eK,d3,an,cv,ct,gi,rfl,l,c⟩,k⟩
end
theorem dj{n:Nat}(h:n≤1000):n<sizeLine:=Rp h (by decide)
section
variable {X:Cx}
theorem pv(i:Nat){x:Str}{pos:Pos}(dx:X.N[i]? =some x:=by rfl)(b8:Vis X.env.scope x:=by first|exact Or.inl rfl|exact Or.inr (Or.inl rfl)|exact Or.inr (Or.inr rfl))(hd:(x==("__debug__" :Str))=false:=by decide)
  (ic:(x==("__classdict__" :Str))=false:=by decide):PE X (.Name x pos) (Zfa i):=Znu dx b8 hd ic
end
theorem ZfD{A B:Prop}(h:B):if false=true then A else B:=by
 rw[if_neg QY];exact h
theorem Zir{A B:Prop}(h:A):if true=true then A else B:=by
 rw[if_pos rfl];exact h
theorem V5{c A B:Prop}[Decidable c](ap:c→A)(a':¬c→B):if c then A else B:=by
 by_cases h:c
 ·rw[if_pos h];exact ap h
 ·rw[if_neg h];exact a' h
def Ze(H ae:Hp):Prop:=∀b o,H b=some o→ae b=some o
theorem Ze.refl(H:Hp):Ze H H:=λ_ _ h=>h
theorem Ze.trans{H ax bo:Hp}(a:Ze H ax)(b:Ze ax bo):Ze H bo:=λc o h=>b c o (a c o h)
theorem Ze.seq{K:Frag}{H ae:Hp}{a:Addr}{xs:List V}(e:Ze H ae)(h:SqL K H a xs):SqL K ae a xs:=by
 rcases h with(h|⟨o,h⟩)|h
 ·exact .inl (.inl (e _ _ h))
 ·exact .inl (.inr ⟨o,e _ _ h⟩)
 ·exact .inr h
section
variable {dt:Type}[DecidableEq dt]
noncomputable def valV (kvs:List (dt×V)) (k:dt):Option V:=(kvs.find? λkv=>decide (kv.1=k)).map (·.2)
noncomputable def ec (kvs:List (dt×V)) (k:dt) (v:V):List (dt×V):=
 if(kvs.any λkv=>decide (kv.1=k))=true then kvs.map (λkv=>if kv.1=k then(kv.1,v) else kv) else kvs++ [(k,v)]
theorem ip{p:dt×V}{r:List (dt×V)}{k:dt}(e:p.1=k):valV (p::r) k=some p.2:=by simp[valV,qaj,e]
theorem iq{p:dt×V}{r:List (dt×V)}{k:dt}(e:¬p.1=k):valV (p::r) k=valV r k:=by simp[valV,qaj,e]
theorem WW(k:dt):∀kvs:List (dt×V),(kvs.any λkv=>decide (kv.1=k))=(valV kvs k).isSome
 | []=>rfl
 |p::r=>by
  rw[qa2]
  by_cases e:p.1=k
  ·simp only[ip e,decide_eq_true e,Bool.true_or,Option.isSome_some]
  ·rw[iq e,decide_eq_false e,Bool.false_or];exact WW k r
theorem xL(k j:dt)(y:V):∀kvs:List (dt×V),valV (kvs.map λkv=>if kv.1=k then(kv.1,y) else kv) j=(valV kvs j).map λx=>if j=k then y else x
 | []=>rfl
 |p::r=>by
  have bM:=xL k j y r;rw[List.map_cons]
  by_cases h:p.1=k
  ·rw[if_pos h]
   by_cases e:p.1=j
   ·rw[ip (p:=(p.1,y)) e,ip e,Option.map_some,if_pos (e.symm.trans h)]
   ·rw[iq (p:=(p.1,y)) e,iq e,bM]
  ·rw[if_neg h]
   by_cases e:p.1=j
   ·rw[ip (p:=p) e,ip e,Option.map_some,if_neg (λz=>h (e.trans z))]
   ·rw[iq (p:=p) e,iq e,bM]
theorem Zej(k j:dt)(y:V):∀kvs:List (dt×V),valV kvs k=none→valV (kvs++ [(k,y)]) j=if j=k then some y else valV kvs j
 | [],_=>by
  by_cases e:k=j
  ·rw[if_pos e.symm];exact ip (p:=(k,y)) e
  ·rw[if_neg (λz=>e z.symm)];exact iq (p:=(k,y)) e
 |p::r,bG=>by
  rw[List.cons_append];have bp:¬p.1=k:=λz=>by rw[ip z] at bG;cases bG
  rw[iq bp] at bG;have bM:=Zej k j y r bG
  by_cases e:p.1=j
  ·rw[ip e,ip e,if_neg (λz=>bp (e.trans z))]
  ·rw[iq e,iq e,bM]
theorem o6(kvs:List (dt×V))(k j:dt)(y:V):valV (ec kvs k y) j=if j=k then some y else valV kvs j:=by
 unfold ec
 by_cases a:(kvs.any λkv=>decide (kv.1=k))=true
 ·rw[if_pos a,xL];rw[WW] at a
  by_cases e:j=k
  ·obtain⟨x,a_⟩:=qaq.mp a;rw[if_pos e,e,a_,Option.map_some,if_pos rfl]
  ·rw[if_neg e];cases valV kvs j with
   |none=>rfl
   |some x=>rw[Option.map_some,if_neg e]
 ·rw[if_neg a];refine Zej k j y kvs ?_;rw[WW] at a;cases q:valV kvs k with
  |none=>rfl
  |some x=>rw[q] at a;exact(a rfl).elim
theorem W8(kvs:List (dt×V))(k:dt)(v:V):(ec kvs k v).length≤kvs.length+1:=by
 unfold ec
 split
 ·rw[QM];omega
 ·rw[Rj,List.length_cons,List.length_nil];omega
theorem Zau{kvs:List (dt×V)}{k:dt}(v:V)(h:valV kvs k=none):ec kvs k v=kvs++ [(k,v)]:=by
 unfold ec;rw[WW,h];exact if_neg (by decide)
theorem gC.isSome_eq{o:Option V}{u:Option Value}(r:gC o u):o.isSome=u.isSome:=by
 cases o with
 |none=>cases u with
  |none=>rfl
  |some _=>exact(show False from r).elim
 |some _=>cases u with
  |none=>exact(show False from r).elim
  |some _=>rfl
theorem gC.getD{o:Option V}{u:Option Value}{d:V}{d':Value}(r:gC o u)(q4:cA d d'):cA (o.getD d) (u.getD d'):=by
 cases o with
 |none=>cases u with
  |none=>exact q4
  |some _=>exact(show False from r).elim
 |some _=>cases u with
  |none=>exact(show False from r).elim
  |some _=>exact r
theorem KV.val{kvs:List (dt×V)}{vs:List (dt×Value)}(r:KV kvs vs)(k:dt):gC (valV kvs k) (valueAt vs k):=by
 unfold KV at r
 induction r with
 |nil=>exact True.intro
 | @cons p q b1 qs h t bM=>
  obtain⟨ap,a'⟩:=h
  by_cases e:p.1=k
  ·have b6:q.1=k:=ap.symm.trans e;have b:valueAt (q::qs) k=some q.2:=by simp[valueAt,qaj,b6]
   rw[ip e,b];exact a'
  ·have b6:¬q.1=k:=λz=>e (ap.trans z);have b:valueAt (q::qs) k=valueAt qs k:=by simp[valueAt,qaj,b6]
   rw[iq e,b];exact bM
theorem KV.any{kvs:List (dt×V)}{vs:List (dt×Value)}(r:KV kvs vs)(k:dt):(kvs.any λkv=>decide (kv.1=k))=vs.any λkv=>decide (kv.1=k):=by
 unfold KV at r
 induction r with
 |nil=>rfl
 |cons h t bM=>rw[qa2,qa2,bM,h.1]
theorem KV.repl{kvs:List (dt×V)}{vs:List (dt×Value)}(r:KV kvs vs)(k:dt){y:V}{u:Value}(b':cA y u):
  KV (kvs.map λkv=>if kv.1=k then(kv.1,y) else kv) (vs.map λkv=>if kv.1=k then(kv.1,u) else kv):=by
 unfold KV at r⊢
 induction r with
 |nil=>exact .nil
 | @cons p q b1 qs h t bM=>
  rw[List.map_cons,List.map_cons];refine .cons ?_ bM;obtain⟨ap,a'⟩:=h
  by_cases e:p.1=k
  ·rw[if_pos e,if_pos (ap.symm.trans e)];exact⟨ap,b'⟩
  ·rw[if_neg e,if_neg (λz=>e (ap.trans z))];exact⟨ap,a'⟩
theorem KV.put{kvs:List (dt×V)}{vs:List (dt×Value)}(r:KV kvs vs)(k:dt){y:V}{u:Value}(b':cA y u):KV (ec kvs k y) (stored vs k u):=by
 unfold ec stored;rw[r.any k]
 by_cases e:(vs.any λkv=>decide (kv.1=k))=true
 ·rw[if_pos e,if_pos e];exact r.repl k b'
 ·rw[if_neg e,if_neg e];exact Paired.snoc r ⟨rfl,b'⟩
theorem KV.length{kvs:List (dt×V)}{vs:List (dt×Value)}(r:KV kvs vs):kvs.length=vs.length:=Paired.length r
end
theorem me{P:Program}{w:World}{k:Key}{u:Value}(r:cA (kV k) u):(dZ P w).is k u=true:=by
 cases k with
 |inl i=>obtain⟨t,e⟩:=(show ∃t,u=Value.int i t from r);subst e;exact Zgz P w i t
 |inr x=>obtain⟨t,e⟩:=(show ∃t,u=Value.str x t from r);subst e;exact Zgs P w x t
theorem DU{a b:Key}(e:kV a=kV b):a=b:=by
 cases a with
 |inl i=>cases b with
  |inl j=>have b6:V.int i=V.int j:=e;injection b6 with b6;rw[b6]
  |inr y=>exact nomatch (show V.int i=V.str y from e)
 |inr x=>cases b with
  |inl j=>exact nomatch (show V.str x=V.int j from e)
  |inr y=>have b6:V.str x=V.str y:=e;injection b6 with b6;rw[b6]
theorem xM{P:Program}{w:World}:∀{cf:List Key}{us:List Value},cH (cf.map kV) us→ItemsAre (dZ P w) cf us
 | [],_,r=>by rw[List.map_nil] at r;cases r;exact .nil
 |k::cf,_,r=>by
  rw[List.map_cons] at r;cases r with
  |cons h t=>exact .cons (me h) (xM t)
noncomputable abbrev KT (H:Hp):List (List Key×V)→List (List Key×Addr×Value)→Prop:=Paired λp q=>p.1=q.1∧H q.2.1=some (.tup (p.1.map kV))∧cA p.2 q.2.2
theorem KT.val{H:Hp}{kvs:List (List Key×V)}{xs:List (List Key×Addr×Value)}(r:KT H kvs xs)(k:List Key):gC (valV kvs k) ((atKey xs k).map (·.2)):=by
 induction r with
 |nil=>exact True.intro
 | @cons p q b1 qs h t bM=>
  obtain⟨ap,_,a'⟩:=h
  by_cases e:p.1=k
  ·have b6:q.1=k:=ap.symm.trans e;have b:atKey (q::qs) k=some q.2:=by simp[atKey,qaj,b6]
   rw[ip e,b];exact a'
  ·have b6:¬q.1=k:=λz=>e (ap.trans z);have b:atKey (q::qs) k=atKey qs k:=by simp[atKey,qaj,b6]
   rw[iq e,b];exact bM
theorem KT.repl{H:Hp}{kvs:List (List Key×V)}{xs:List (List Key×Addr×Value)}(r:KT H kvs xs)(k:List Key){y:V}{u:Value}(b':cA y u):
  KT H (kvs.map λkv=>if kv.1=k then(kv.1,y) else kv) (xs.map (putAt k u)):=by
 induction r with
 |nil=>exact .nil
 | @cons p q b1 qs h t bM=>
  rw[List.map_cons,List.map_cons];refine .cons ?_ bM;obtain⟨ap,a',bU⟩:=h;unfold putAt
  by_cases e:p.1=k
  ·rw[if_pos e,if_pos (ap.symm.trans e)];exact⟨ap,a',b'⟩
  ·rw[if_neg e,if_neg (λz=>e (ap.trans z))];exact⟨ap,a',bU⟩
theorem KT.put{H:Hp}{kvs:List (List Key×V)}{xs:List (List Key×Addr×Value)}(r:KT H kvs xs)(k:List Key){b:Addr}{y:V}{u:Value}(ao:H b=some (.tup (k.map kV)))(b':cA y u):
  KT H (ec kvs k y) (storedH xs k b u):=by
 have e:(kvs.any λkv=>decide (kv.1=k))=(atKey xs k).isSome:=by
  rw[WW,(r.val k).isSome_eq,Option.isSome_map]
 unfold ec storedH;rw[e]
 by_cases q:(atKey xs k).isSome=true
 ·rw[if_pos q,if_pos q];exact r.repl k b'
 ·rw[if_neg q,if_neg q];exact Paired.snoc r ⟨rfl,ao,b'⟩
theorem KT.keeps{H ae:Hp}{kvs:List (List Key×V)}{xs:List (List Key×Addr×Value)}(r:KT H kvs xs)(b3:∀b ys,H b=some (.tup ys)→ae b=some (.tup ys)):KT ae kvs xs:=
 Paired.mapP r λ_ _ z=>⟨z.1,b3 _ _ z.2.1,z.2.2⟩
section
variable {P:Program}{w:World}{H:Hp}{h:Heap}{a:Addr}
theorem Zle{u:HO}(ok:HOk P w H h)(e:Rd H a u):ZW P w H h a u:=e.ok ok
theorem WL{kvs:List (Key×V)}(ok:HOk P w H h)(e:Rd H a (.dK kvs)):kvs.length≤sizeLine∧(a==sysModules)=false∧∃vs,KV kvs vs∧h.DictOf (dZ P w) a vs:=
 show ZW P w H h a (.dK kvs) from Zle ok e
theorem ZbG{kvs:List (Key×V)}(ok:HOk P w H h)(e:H a=some (.dK kvs)):kvs.length≤sizeLine∧(a==sysModules)=false∧∃vs,KV kvs vs∧h.DictOf (dZ P w) a vs:=WL ok (.inl e)
theorem nr{cf:List Key}(ok:HOk P w H h)(e:H a=some (.tup (cf.map kV))):(tupleKind (dZ P w)).is h cf a:=by
 obtain⟨_,its,r,o,ap,a',n,bU⟩:=(show ZW P w H h a (.tup (cf.map kV)) from ok a _ e);exact⟨o,its.toArray,n,ap,a',bU,by simpa using xM r⟩
theorem Zar{kvs:List (List Key×V)}(ok:HOk P w H h)(e:Rd H a (.dT kvs)):kvs.length≤sizeLine∧(a==sysModules)=false∧
  ∃xs,KT H kvs xs∧h.DictOfH (tupleKind (dZ P w)) a xs:=by
 obtain⟨z,y,xs,r,o,bx,ep,ap,a',bU,cD,dJ⟩:=(show ZW P w H h a (.dT kvs) from Zle ok e);refine⟨z,y,xs,r,o,bx,ep,ap,a',bU,cD,λx a_=>?_,dJ⟩;have all:∀{l:List (List Key×V)}{m:List (List Key×Addr×Value)},KT H l m→∀x∈m,(tupleKind (dZ P w)).is h x.1 x.2.1:=by
  intro l m q
  induction q with
  |nil=>intro x a_;exact nomatch a_
  | @cons p q b1 qs cq t bM=>
   intro x a_;rcases QW.mp a_ with e|a_
   ·subst e;exact nr ok (by rw[←cq.1];exact cq.2.1)
   ·exact bM x a_
 exact all r x a_
theorem ZnE{kvs:List (List Key×V)}(ok:HOk P w H h)(e:H a=some (.dT kvs)):kvs.length≤sizeLine∧(a==sysModules)=false∧
  ∃xs,KT H kvs xs∧h.DictOfH (tupleKind (dZ P w)) a xs:=Zar ok (.inl e)
end
def hU(H:Hp)(a:Addr)(y:V)(r:Option V):Prop:=
 (∃kvs k,Rd H a (.dK kvs)∧y=kV k∧r=valV kvs k)∨∃kvs k b,Rd H a (.dT kvs)∧y= .ref b∧H b=some (.tup (k.map kV))∧r=valV kvs k
def ZdN(H:Hp)(a:Addr)(y v:V)(ae:Hp):Prop:=
 (∃kvs k,H a=some (.dK kvs)∧y=kV k∧kvs.length<sizeLine∧ae=upd H a (.dK (ec kvs k v)))∨
 ∃kvs k b,H a=some (.dT kvs)∧y= .ref b∧H b=some (.tup (k.map kV))∧kvs.length<sizeLine∧ae=upd H a (.dT (ec kvs k v))
theorem hU.k{H:Hp}{a:Addr}{kvs:List (Key×V)}{k:Key}(e:H a=some (.dK kvs)):hU H a (kV k) (valV kvs k):= .inl ⟨kvs,k,.inl e,rfl,rfl⟩
theorem ZdN.k{H:Hp}{a:Addr}{kvs:List (Key×V)}{k:Key}{v:V}(e:H a=some (.dK kvs))(ag:kvs.length<sizeLine):ZdN H a (kV k) v (upd H a (.dK (ec kvs k v))):= .inl ⟨kvs,k,e,rfl,ag,rfl⟩
section
variable {X:Cx}{ah:List (Addr×Obj)}{af:St}{H:Hp}{s:Shared}{a:Addr}{y v:V}{u r:Value}{o:Option V}{A:Around}{E:Value→Shared→Prop}
theorem Inv.big(I:Inv X ah af H s):sysModules<s.heap.objs.size:=by
 have h:mainGlobals<s.heap.objs.size:=(I.mod.glob.keeps I.bk).lt;exact Nat.lt_trans (by decide) h
theorem DV{Q:Value→Shared→Prop}(hu:A.units+1<cLine)(I:Inv X ah af H s)(g:hU H a y (some v))(b':cA y u)(h:∀dP s',Inv X ah af H s'→cA v dP→Q dP s'):
  wpAny (model X.prog X.w) A (getItem (.ref a) u) Q E s:=by
 rcases g with⟨kvs,k,e,ew,l⟩|⟨kvs,k,b,e,ew,cP,l⟩
 ·subst ew;obtain⟨z,hd,vs,rel,dd⟩:=WL I.hok e;obtain⟨dP,hw,il⟩:=gC.some_of (v:=v) (o:=valueAt vs k) (by rw[l];exact rel.val k);exact wpAny_getItem_of (me b') dd.mapOf hw (h dP _ (I.tok _) il)
 ·subst ew;cases (show u=Value.ref b from b');obtain⟨z,hd,xs,rel,dd⟩:=Zar I.hok e;obtain⟨dP,hw,il⟩:=gC.some_of (v:=v) (o:=(atKey xs k).map (·.2)) (by rw[l];exact rel.val k);obtain⟨p,bz,o7⟩:=Option.map_eq_some_iff.mp hw;refine wpAny_getItem_heap (tupleKind_room_in1 hu) (nr I.hok cP) dd bz ?_;rw[o7];exact h dP _ (I.tok _) il
theorem Zor{Q:Value→Shared→Prop}(hu:A.units+1<cLine)(I:Inv X ah af H s)(g:hU H a y o)(b':cA y u)(h:∀s',Inv X ah af H s'→Q (.bool o.isSome) s'):
  wpAny (model X.prog X.w) A (compareOp .In u (.ref a)) Q E s:=by
 rcases g with⟨kvs,k,e,ew,l⟩|⟨kvs,k,b,e,ew,cP,l⟩
 ·subst ew;obtain⟨z,hd,vs,rel,dd⟩:=WL I.hok e;refine wpAny_in_of (me b') hd dd.mapOf ?_;rw[←(rel.val k).isSome_eq,←l];exact h _ (I.tok _)
 ·subst ew;cases (show u=Value.ref b from b');obtain⟨z,hd,xs,rel,dd⟩:=Zar I.hok e;refine wpAny_in_heap (tupleKind_room_in1 hu) (nr I.hok cP) hd dd ?_;have q:=(rel.val k).isSome_eq;rw[Option.isSome_map] at q;rw[←q,←l];exact h _ (I.tok _)
theorem Zmd{Q:Value→Shared→Prop}(hu:A.units+1<cLine)(I:Inv X ah af H s)(g:hU H a y o)(b':cA y u)(h:∀s',Inv X ah af H s'→Q (.bool (!o.isSome)) s'):
  wpAny (model X.prog X.w) A (compareOp .NotIn u (.ref a)) Q E s:=by
 rcases g with⟨kvs,k,e,ew,l⟩|⟨kvs,k,b,e,ew,cP,l⟩
 ·subst ew;obtain⟨z,hd,vs,rel,dd⟩:=WL I.hok e;refine wpAny_notIn_of (me b') hd dd.mapOf ?_;rw[←(rel.val k).isSome_eq,←l];exact h _ (I.tok _)
 ·subst ew;cases (show u=Value.ref b from b');obtain⟨z,hd,xs,rel,dd⟩:=Zar I.hok e;refine wpAny_notIn_heap (tupleKind_room_in1 hu) (nr I.hok cP) hd dd ?_;have q:=(rel.val k).isSome_eq;rw[Option.isSome_map] at q;rw[←q,←l];exact h _ (I.tok _)
theorem q5{h':Heap}{t':Nat}{cx:HO}(I:Inv X ah af H s)(hM:Mut (H a))(hs:Heap.SameBut a s.heap h')(bH:∃q,h'.get? a=some q)(new:ZW X.prog X.w (upd H a cx) h' a cx):
  Inv X ah af (upd H a cx) {s with heap:=h',toks:=t'}:=
 I.write (x:=a) (e:=a) hM (.inl rfl) (λb q ao z=>(hs.2 b ao).trans z) bH new
theorem tA{P:Program}{w:World}{ae:Hp}{h':Heap}{kvs:List (Key×V)}{vs:List (Key×Value)}(z:kvs.length≤sizeLine)(hd:(a==sysModules)=false)(rel:KV kvs vs)(dd:h'.DictOf (dZ P w) a vs):
  ZW P w ae h' a (.dK kvs):=⟨z,hd,vs,rel,dd⟩
theorem ZiH{ae:Hp}{Q:Unit→Shared→Prop}(hu:A.units+1<cLine)(I:Inv X ah af H s)(g:ZdN H a y v ae)(b':cA y u)(cZ:cA v r)(h:∀s',Inv X ah af ae s'→Q () s'):
  wpAny (model X.prog X.w) A (setItem (.ref a) u r) Q E s:=by
 rcases g with⟨kvs,k,e,ew,l,tD⟩|⟨kvs,k,b,e,ew,cP,l,tD⟩
 ·subst ew tD;obtain⟨z,hd,vs,rel,dd⟩:=ZbG I.hok e;have hz:vs.length≤sizeLine:=by rw[←rel.length];exact z
  have ag:(ec kvs k v).length≤sizeLine:=by have:=W8 kvs k v;omega
  refine wpAny_setItem_pairs (hsz:=hz) (me b') dd λh' dd' hs=>h _ ?_;have bH:∃q,h'.get? a=some q:=let⟨q,_,_,cq,_⟩:=dd';⟨q,cq⟩
  exact q5 I (by rw[e];exact True.intro) hs bH (tA ag hd (rel.put k cZ) dd')
 ·subst ew tD;cases (show u=Value.ref b from b');obtain⟨z,hd,xs,rel,dd⟩:=ZnE I.hok e;have hz:xs.length≤sizeLine:=by rw[←Paired.length rel];exact z
  have ag:(ec kvs k v).length≤sizeLine:=by have:=W8 kvs k v;omega
  refine wpAny_setItem_heap (hsz:=hz) (tupleKind_room_in1 hu) (nr I.hok cP) dd λh' dd' hs=>h _ ?_;obtain⟨q,bx,ep,cq,a',bU,cD,_,dJ⟩:=dd';refine q5 I (by rw[e];exact True.intro) hs ⟨q,cq⟩ ⟨ag,hd,_,(rel.put k cP cZ).keeps λc ys iQ=>?_,q,bx,ep,cq,a',bU,cD,dJ⟩;rw[bW (fc iQ e (λz=>nomatch z))];exact iQ
end
section
variable {X:Cx}{ah:List (Addr×Obj)}{af:St}{H:Hp}{s:Shared}{a:Addr}{kvs:List (Key×V)}{k:Key}{u:Value}{A:Around}{E:Value→Shared→Prop}
theorem ZnN{Q:Value→Shared→Prop}(I:Inv X ah af H s)(e:Rd H a (.dK kvs))(h:∀t s',Inv X ah af H s'→Q (.int kvs.length t) s'):wpAny (model X.prog X.w) A (call (.builtin "len") [.ref a]) Q E s:=by
 obtain⟨z,hd,vs,rel,dd⟩:=WL I.hok e;refine call_len_dict hd dd (by rw[←rel.length];rw[sizeLine_eq] at z;omega) ?_;rw[←rel.length];exact h _ _ (I.tok _)
end
theorem DW{X:Cx}{ah:List (Addr×Obj)}{af:St}{H:Hp}{s:Shared}{a:Addr}{y:V}{o:Option V}(I:Inv X ah af H s)(g:hU H a y o):s.TypeIs (.ref a) "dict" :=by
 rcases g with⟨kvs,k,e,_,_⟩|⟨kvs,k,b,e,_,_,_⟩
 ·obtain⟨_,_,vs,_,dd⟩:=WL I.hok e;exact dd.typeIs
 ·obtain⟨_,_,xs,_,dd⟩:=Zar I.hok e;exact dd.typeIs
section
variable {X:Cx}{o i e value:Expr}{pos i7 l5:Pos}{dY ty g_:TE}
end
theorem xN{P:Program}{w:World}{H:Hp}(h:Heap)(ao:sysModules<h.objs.size):ZW P w H (h.push {cls:= .type "dict",data:= .dict #[]}) h.objs.size (.dK []):=
 ⟨Q5 _,beq_eq_false_iff_ne.mpr (qao (Q0 ao)),[],.nil,Heap.DictOf.new h⟩
noncomputable def tDNewK:TE:=λ_ H Q=>∀p,H p=none→Q (.ref p) (upd H p (.dK []))
section
variable {X:Cx}{pos:Pos}
theorem nt:PE X (.Dict [] [] pos) tDNewK:=λah s af H Q I h=>
 wpAny_Dict_empty ⟨.ref s.heap.objs.size,_,I.laid (a:=s.heap.objs.size) (o:= .dK []) (t':=s.toks) (λ_ _ q=>Heap.get?_push_of_some _ q) (QQ _) (xN s.heap I.big),rfl,h _ (I.hok.fresh (QQ _))⟩
end
noncomputable def q6:List (TE×TE)→St→Hp→(List (V×V)→Hp→Prop)→Prop
 | [],_,H,Q=>Q [] H
 |(bT,g_)::r,af,H,Q=>bT af H λx ax=>g_ af ax λy bo=>q6 r af bo λb1 b2=>Q ((x,y)::b1) b2
noncomputable abbrev VV:List (V×V)→List (Value×Value)→Prop:=Paired λp q=>cA p.1 q.1∧cA p.2 q.2
def PPs(X:Cx)(pos:Pos)(keys:List (Option Expr))(o8:List Expr)(kf:List (TE×TE)):Prop:=
 ∀(ah:List (Addr×Obj))(s:Shared)(af:St)(H:Hp)(Q:List (V×V)→Hp→Prop),Inv X ah af H s→q6 kf af H Q→
  wpAny (model X.prog X.w) X.A (evalPairs (pairTrees keys o8 X.env pos)) (λvs s'=>∃b1 ae,Inv X ah af ae s'∧VV b1 vs∧Q b1 ae) X.xe s
theorem ZlH{X:Cx}{pos:Pos}:PPs X pos [] [] []:=λah s af H Q I h=>pairTrees_nil_walk ⟨[],H,I,.nil,h⟩
theorem DX{X:Cx}{pos:Pos}{k v:Expr}{cf:List (Option Expr)}{vs:List Expr}{bT g_:TE}{kf:List (TE×TE)}(bp:PE X k bT)(b8:PE X v g_)(bn:PPs X pos cf vs kf):
  PPs X pos (some k::cf) (v::vs) ((bT,g_)::kf):=λah s af H Q I h=>
 pairTrees_cons_walk (thn (bp ah s af H _ I h) λu bq ⟨x,ax,bK,bX,b_⟩=>thn (b8 ah bq af ax _ bK b_) λgd bJ ⟨y,bo,cB,b',cO⟩=>
  thn (bn ah bJ af bo _ cB cO) λbV bO ⟨b1,b2,dk,rel,eP⟩=>⟨(x,y)::b1,b2,dk,.cons ⟨bX,b'⟩ rel,eP⟩)
noncomputable def fM (kvs more:List (Key×V)):List (Key×V):=more.foldl (λcW kv=>ec cW kv.1 kv.2) kvs
theorem KV.merge:∀{more:List (Key×V)}{rs:List (Key×Value)}{kvs:List (Key×V)}{vs:List (Key×Value)},KV more rs→KV kvs vs→KV (fM kvs more) (merged vs rs):=by
 intro more rs kvs vs r;unfold KV at r
 induction r generalizing kvs vs with
 |nil=>intro q;exact q
 | @cons p q b1 qs h t bM=>
  intro o9;have e:KV (ec kvs p.1 p.2) (stored vs q.1 q.2):=by
   have:=o9.put p.1 h.2;rw[←h.1];exact this
  exact bM e
theorem q7:∀(more kvs:List (Key×V)),(fM kvs more).length≤kvs.length+more.length
 | [],kvs=>by show kvs.length≤kvs.length+0;omega
 |p::r,kvs=>by
  have ap:=q7 r (ec kvs p.1 p.2);have a':=W8 kvs p.1 p.2;show(fM (ec kvs p.1 p.2) r).length≤_;rw[List.length_cons];omega
theorem Zds{P:Program}{w:World}:∀{kvs:List (Key×V)}{bV:List (Value×Value)},VV (kvs.map λkv=>(kV kv.1,kv.2)) bV→∃rs,Carries (dZ P w) bV rs∧KV kvs rs
 | [],_,r=>by rw[List.map_nil] at r;cases r;exact⟨[],True.intro,.nil⟩
 |p::kvs,_,r=>by
  rw[List.map_cons] at r;cases r with
  | @cons a b as bs h t=>
   obtain⟨rs,c,q⟩:=Zds (P:=P) (w:=w) t;obtain⟨fy,hV⟩:=b;exact⟨(p.1,hV)::rs,⟨me h.1,rfl,c⟩,.cons ⟨rfl,h.2⟩ q⟩
noncomputable def DY (kf:List (TE×TE)):TE:=λaf H Q=>∀p,H p=none→q6 kf af (upd H p (.dK [])) λb1 bo=>bo p=some (.dK [])∧∃kvs:List (Key×V),b1=kvs.map (λkv=>(kV kv.1,kv.2))∧kvs.length≤15∧Q (.ref p) (upd bo p (.dK (fM [] kvs)))
theorem DZ{X:Cx}{pos:Pos}{keys:List (Option Expr)}{o8:List Expr}{kf:List (TE×TE)}(h:PPs X pos keys o8 kf)(kd:keys.all (·.isSome)=true)(ag:keys.length=o8.length)(cw:keys≠[])
  (D0:keys.length≤15):PE X (.Dict keys o8 pos) (DY kf):=by
 intro ah s af H Q I q;have bG:=I.hok.fresh (QQ s.heap.objs.size);have bK:=I.laid (a:=s.heap.objs.size) (o:= .dK []) (h':=s.heap.push {cls:= .type "dict",data:= .dict #[]}) (t':=s.toks) (λ_ _ q=>Heap.get?_push_of_some _ q) (QQ _) (xN s.heap I.big);refine wpAny_Dict_walk (knd:=dZ X.prog X.w) kd ag cw D0 (thn (h ah _ af _ _ bK (q _ bG)) λbV bJ ⟨b1,bo,cB,rel,e,kvs,ep,lk,cO⟩=>?_);subst ep;obtain⟨rs,c,D1⟩:=Zds (P:=X.prog) (w:=X.w) rel;obtain⟨z,hd,OR,o9,dd⟩:=ZbG cB.hok e;cases o9;refine⟨rs,c,dd,λh' dd' hs=>⟨.ref s.heap.objs.size,_,?_,rfl,cO⟩⟩;have hz:(fM [] kvs).length≤sizeLine:=by
  have ap:=q7 kvs [];rw[List.length_nil] at ap;rw[sizeLine_eq];omega
 have bH:∃q,h'.get? s.heap.objs.size=some q:=let⟨q,_,_,cq,_⟩:=dd';⟨q,cq⟩
 exact q5 cB (by rw[e];exact True.intro) hs bH (tA hz hd (D1.merge .nil) dd')
structure M2(X:Cx)(o:Expr)(m:Str)(di:Pos)(e f:Expr)(dm:Pos):Prop where
 base:attributeBase o m X.env (eval o X.env)=eval o X.env
 few:((backTo dm (starEach [e,f] X.env)).all (λx=>!x.1)&&(backToKw dm (keywordEach [] X.env)).all (λx=>x.1.isSome)
  &&decide (([e,f]:List Expr).length+([]:List Keyword).length+(if([]:List Keyword).isEmpty then 0 else 1)<30))=true
 line:(di.endLine==dm.line)=true
 trees:backTo dm (starEach [e,f] X.env)=[(false,eval e X.env),(false,eval f X.env)]
def IsD(H:Hp)(a:Addr):Prop:=(∃kvs,Rd H a (.dK kvs))∨∃kvs,Rd H a (.dT kvs)
theorem ZmP{X:Cx}{ah:List (Addr×Obj)}{af:St}{H:Hp}{s:Shared}{a:Addr}(I:Inv X ah af H s)(d:IsD H a):
  s.TypeIs (.ref a) "dict" ∧(∀b,Value.ref a= .ref b→∃cx,s.heap.get? b=some cx∧cx.dict=none)∧(a==sysModules)=false:=by
 rcases d with⟨kvs,e⟩|⟨kvs,e⟩
 ·obtain⟨_,hd,vs,_,dd⟩:=WL I.hok e;refine⟨dd.typeIs,λb q=>?_,hd⟩;cases q;obtain⟨cx,_,_,ap,a',_⟩:=dd;exact⟨cx,ap,a'.2.1⟩
 ·obtain⟨_,hd,xs,_,dd⟩:=Zar I.hok e;refine⟨dd.typeIs,λb q=>?_,hd⟩;cases q;obtain⟨cx,_,_,ap,a',_⟩:=dd;exact⟨cx,ap,a'.2.1⟩
section
variable {X:Cx}{ah:List (Addr×Obj)}{af:St}{H:Hp}{s:Shared}{a:Addr}{y d:V}{u r:Value}{o:Option V}{A:Around}{E:Value→Shared→Prop}
theorem ZmW{Q:Value→Shared→Prop}(hu:A.units+1<cLine)(I:Inv X ah af H s)(g:hU H a y o)(b':cA y u)(q4:cA d r)(h:∀dP s',Inv X ah af H s'→cA (o.getD d) dP→Q dP s'):
  wpAny (model X.prog X.w) A (call (.builtin "dict.get") [.ref a,u,r]) Q E s:=by
 rcases g with⟨kvs,k,e,ew,l⟩|⟨kvs,k,b,e,ew,cP,l⟩
 ·subst ew;obtain⟨z,hd,vs,rel,dd⟩:=WL I.hok e;refine call_meetsIn PySem.F.slot_dict_get dd.typeIs PySem.F.entry_dict_get (PySem.F.args_dict_get_3 _ _ _) (meets_dict_get_default (dZ X.prog X.w) a (me b') hd r) ⟨_,dd.mapOf,h _ _ (I.tok _) ?_⟩;rw[l];exact(rel.val k).getD q4
 ·subst ew;cases (show u=Value.ref b from b');obtain⟨z,hd,xs,rel,dd⟩:=Zar I.hok e;refine call_meetsIn PySem.F.slot_dict_get dd.typeIs PySem.F.entry_dict_get (PySem.F.args_dict_get_3 _ _ _) (meetsH_dict_get_default (tupleKind (dZ X.prog X.w)) a b hd r) ⟨tupleKind_room_in1 hu,k,xs,nr I.hok cP,dd,h _ _ (I.tok _) ?_⟩;rw[l];exact(rel.val k).getD q4
end
noncomputable def xO (dY ty mf:TE):TE:=λaf H Q=>dY af H λx ax=>∃a,x= .ref a∧IsD ax a∧ty af ax λy bo=>mf af bo λz b2=>∃o,hU b2 a y o∧Q (o.getD z) b2
section
variable {X:Cx}{o e f:Expr}{di dm:Pos}{dY ty mf:TE}
theorem ZkT(hu:X.A.units+1<cLine)(bC:PE X o dY)(bH:PE X e ty)(bE:PE X f mf)(m:M2 X o "get" di e f dm):PE X (.Call (.Attribute o "get" di) [e,f] [] dm) (xO dY ty mf):=by
 intro ah s af H Q I h;refine wpAny_Call_method m.base m.few m.line R5 PySem.F.slot_dict_get PySem.F.type_dict_get (thn (bC ah s af H _ I h) λu bq ⟨x,ax,bK,bX,a,ex,d,b_⟩=>?_);subst ex;obtain rfl:u=Value.ref a:=bX;obtain⟨mh,dr,_⟩:=ZmP bK d;refine⟨mh,dr,?_⟩;rw[m.trees];refine Calls.callWith_builtin rfl (Calls.evalArgs_plain (Calls.spliced_cons (thn (bH ah bq af ax _ bK b_) λfg bJ ⟨y,bo,cB,b',cO⟩=>
  Calls.spliced_cons (thn (bE ah bJ af bo _ cB cO) λnu bO ⟨z,b2,dk,D2,dg,g,eP⟩=>Calls.spliced_nil ?_))))
 exact ZmW hu dk g b' D2 λdP b9 j5 il=>⟨_,b2,j5,il,eP⟩
end
section
variable {X:Cx}{ah:List (Addr×Obj)}{af:St}{H:Hp}{s:Shared}{a:Addr}{kvs:List (Key×V)}{A:Around}{E:Value→Shared→Prop}
end
section
variable {X:Cx}{ah:List (Addr×Obj)}{af:St}{H:Hp}{s:Shared}{a:Addr}{y:V}{u:Value}{A:Around}{E:Value→Shared→Prop}
end
section
variable {X:Cx}
theorem D3:YJ X (.builtin "len") (λxs H Q=>∃a kvs,xs=[V.ref a]∧H a=some (.dK kvs)∧Q (.int kvs.length) H):=by
 intro ah s af H xs us Q I r h;obtain⟨a,kvs,rfl,bB,q⟩:=h;obtain⟨u,rfl,dX⟩:=Wd r;cases dX;exact ZnN I (.inl bB) λt s' d0=>⟨.int kvs.length,H,d0,⟨t,rfl⟩,q⟩
end
section
variable {dt:Type}[DecidableEq dt]
end
namespace Rd
section
variable {af:St}{H:Hp}{Q:VK}{D:W6}{t u:TS}{b0 cz cu:TE}{r:R2}
theorem var{i:Nat}{v:V}(h:af[i]? =some (some v))(q:Q v H):Zfa i af H Q:=⟨v,h,q⟩
theorem con{v:V}(q:Q v H):tC v af H Q:=q
theorem op(h:b0 af H λx ax=>cz af ax λy bo=>r x y bo Q):tOp r b0 cz af H Q:=h
theorem i0{g:Int→Int→V}{i j:Int}(q:Q (g i j) H):rI0 g (.int i) (.int j) H Q:=⟨i,j,rfl,rfl,q⟩
theorem iC{C:Int→Int→Prop}{g:Int→Int→V}{i j:Int}(c:C i j)(q:Q (g i j) H):rI C g (.int i) (.int j) H Q:=⟨i,j,rfl,rfl,c,q⟩
theorem eqI{i j:Int}(q:Q (.bl (decide (i=j))) H):rEq (.int i) (.int j) H Q:=⟨rfl,by
 have e:decide (V.int i=V.int j)=decide (i=j):=by
  by_cases h:i=j
  ·rw[h];simp
  ·rw[decide_eq_false h,decide_eq_false (λz=>h (V.int.inj z))]
 rw[e];exact q⟩
theorem neI{i j:Int}(q:Q (.bl (!decide (i=j))) H):rNe (.int i) (.int j) H Q:=⟨rfl,by
 have e:decide (V.int i=V.int j)=decide (i=j):=by
  by_cases h:i=j
  ·rw[h];simp
  ·rw[decide_eq_false h,decide_eq_false (λz=>h (V.int.inj z))]
 rw[e];exact q⟩
theorem Zom{Q:Bool→Hp→Prop}(h:cu af H λx ae=>∃k,x= .bl k∧Q k ae):xo cu af H Q:=h
theorem bl{k:Bool}{Q:Bool→Prop}(q:Q k):∃k',V.bl k= .bl k'∧Q k':=⟨k,rfl,q⟩
theorem seq(h:t {D with nx:=u D} af H):s7 t u D af H:=h
theorem asg{g:TG}(h:cu af H λx ax=>g x af ax D.nx):oN cu g D af H:=h
theorem ifs{c:TT}(h:c af H λb ax=>if b=true then t D af ax else u D af ax):xb c t u D af H:=h
theorem ret(h:cu af H D.rt):xa cu D af H:=h
theorem next(h:D.nx af H):tNext D af H:=h
theorem drop(h:cu af H λ_ ax=>D.nx af ax):w' cu D af H:=h
theorem nil{Q:List V→Hp→Prop}(h:Q [] H):tNil af H Q:=h
theorem cons{bL:TA}{Q:List V→Hp→Prop}(h:b0 af H λx ax=>bL af ax λxs bo=>Q (x::xs) bo):xr b0 bL af H Q:=h
theorem call{sp:Sp}{d2:List V}{E:XK}{fv:TA}(h:fv af H λvs ax=>sp (vs++d2) ax Q E):tk sp d2 E fv af H Q:=h
theorem cb{r:List V→Hp→VK→Prop}{fv:TA}(h:fv af H λvs ax=>r vs ax Q):tCB r fv af H Q:=h
theorem tup{fv:TA}(h:fv af H λxs ax=>xs.length≤sizeLine∧∀p,ax p=none→Q (.ref p) (upd ax p (.tup xs))):xt fv af H Q:=h
theorem lst{fv:TA}(h:fv af H λxs ax=>xs.length≤sizeLine∧∀p,ax p=none→Q (.ref p) (upd ax p (.lst xs))):ti fv af H Q:=h
theorem ZoA{t u:TT}{Q:Bool→Hp→Prop}(h:t af H λc ax=>if c=true then u af ax Q else Q false ax):w7 t u af H Q:=h
theorem or_{t u:TT}{Q:Bool→Hp→Prop}(h:t af H λc ax=>if c=true then Q true ax else u af ax Q):tOr t u af H Q:=h
theorem Zov{t:TT}{Q:Bool→Hp→Prop}(h:t af H λc ax=>Q (!c) ax):w8 t af H Q:=h
theorem ZoM(h:b0 af H λx ax=>∃c,x= .bl c∧if c=true then cz af ax Q else Q (.bl false) ax):w9 b0 cz af H Q:=h
theorem Zot(h:b0 af H λx ax=>∃c,x= .bl c∧Q (.bl (!c)) ax):w_ b0 af H Q:=h
end
end Rd
section
variable {X:Cx}
theorem D4:OpR X (binaryOp .Mult) (rI (λi j=>IntMulOk i j) λi j=> .int (i*j)):=opI λ_ _ _ _ _ _ _ br q=>mul_int q br
theorem fN:OpR X (binaryOp .FloorDiv) (rI (λ_ j=>0<j∧j.natAbs.log2<9000) λi j=> .int (i / j)):=opI λi j _ _ _ _ _ br q=>by
 rw[←Int.fdiv_eq_ediv_of_nonneg i (Int.le_of_lt br.1)] at q;exact floordiv_int (by have:=br.1;omega) q (.inl (PyProof.noPylong_of_log2 br.2))
theorem D5:YJ X (.builtin "isinstance") (λxs H Q=>∃x n t b,xs=[x,.ty n]∧Wq X.K H x t∧PySem.W.kitOne X.K t (.type n)=some b∧Q (.bl b) H):=by
 intro ah s af H xs us Q I r h;obtain⟨x,n,t,b,rfl,ty,e,q⟩:=h;obtain⟨u,v,rfl,dX,cZ⟩:=r.two;obtain rfl:v=Value.type n:=cZ;exact Zjp I dX ty e λbT=>⟨.bl b,H,I.tok bT,rfl,q⟩
theorem Zdl{c:TT}{cz:TS}{D:W6}{af:St}{H:Hp}(W:Nat→St→Hp→Prop)(m:Nat)(cw:W m af H)
  (hs:∀m af H,W m af H→c af H λb ax=>if b=true then ∃N:St→Hp→Prop,(∀bQ ae,N bQ ae→∃cn,cn<m∧W cn bQ ae)∧cz {D with nx:=N,ct:=N,bk:=D.nx} af ax else D.nx af ax):xk c cz D af H:=
 ⟨W,⟨m,cw⟩,hs⟩
theorem ZeX{W:Nat→St→Hp→Prop}{m:Nat}{cz:TS}{D:W6}{af:St}{ax:Hp}
  (h:cz {D with nx:=λbQ ae=>∃cn,cn<m∧W cn bQ ae,ct:=λbQ ae=>∃cn,cn<m∧W cn bQ ae,bk:=D.nx} af ax):
  ∃N:St→Hp→Prop,(∀bQ ae,N bQ ae→∃cn,cn<m∧W cn bQ ae)∧cz {D with nx:=N,ct:=N,bk:=D.nx} af ax:=⟨_,λ_ _ z=>z,h⟩
noncomputable def xP (t:TS):TS:=λD af H=>∃J:St→Hp→Prop,(∀bQ ae,J bQ ae→D.nx bQ ae)∧t {D with nx:=J} af H
theorem o_{st:Stmt}{t:TS}(h:PS X st t):PS X st (xP t):=by
 intro ah s af H D I cq;obtain⟨J,mi,q⟩:=cq;refine thn (h ah s af H _ I q) λf bq b_=>?_;cases f with
 |next=>obtain⟨bQ,ae,d0,j⟩:=b_;exact⟨bQ,ae,d0,mi _ _ j⟩
 |brk=>exact b_
 |cont=>exact b_
 |ret v=>exact b_
end
namespace Rd
theorem Zlg{A B:Prop}(h:B):if(!true)=true then A else B:=ZfD h
theorem Zlk{A B:Prop}(h:A):if(!false)=true then A else B:=Zir h
section
variable {af:St}{H:Hp}{Q:VK}{D:W6}{t u:TS}{b0 cz cu:TE}
theorem cut(J:St→Hp→Prop)(mi:∀bQ ae,J bQ ae→D.nx bQ ae)(h:t {D with nx:=J} af H):xP t D af H:=⟨J,mi,h⟩
theorem Zoj{ed:TI}{g:TG}{cz:TS}(h:ed af H λJ ax=>∃W:Nat→Nat→St→Hp→Prop,(∃m,W 0 m af ax)∧∀i m af H,W i m af H→
  (J.stop i H∧D.nx af H)∨(J.go i H∧∃N:St→Hp→Prop,(∀bQ ae,N bQ ae→∃cn,cn<m∧W (i+1) cn bQ ae)∧∀x ae,J.yld i H x ae→g x af ae λcs bo=>cz {D with nx:=N,ct:=N,bk:=D.nx} cs bo)):xm ed g cz D af H:=h
theorem ZoP{fv:TA}{R:It→Hp→Prop}(h:fv af H λvs ax=>∃j:Int,vs=[.int j]∧ -(2 ^ 62)≤j∧j<2 ^ 62∧R (Itr 0 j.toNat) ax):xl fv af H R:=h
theorem Vs{K:Frag}{n:Nat}{fv:TGs}{a:Addr}{xs:List V}{Q:St→Hp→Prop}(hs:SqT K H a xs)(bG:xs.length=n)(h:fv xs af H Q):s8 K n fv (.ref a) af H Q:=⟨a,xs,rfl,hs,bG,h⟩
theorem ZoG{Q:St→Hp→Prop}(h:Q af H):gNil [] af H Q:=⟨rfl,h⟩
theorem ZnT{g:TG}{cG:TGs}{v:V}{r:List V}{Q:St→Hp→Prop}(h:g v af H λbQ ae=>cG r bQ ae Q):xf g cG (v::r) af H Q:=⟨v,r,rfl,h⟩
end
end Rd
theorem cV{H:Hp}{p:Addr}{o:HO}(bz:H p=none):Ze H (upd H p o):=λc u e=>by rw[bW (cT e bz)];exact e
theorem Ze.new{H ae:Hp}{q:Addr}{o:HO}(bS:Ze H ae)(cq:H q=none):Ze H (upd ae q o):=λc u e=>by rw[bW (cT e cq)];exact bS c u e
namespace Rd
section
variable {af:St}{H:Hp}{Q:VK}{D:W6}{K:Frag}
theorem ixt{p:Addr}{xs:List V}{i:Int}{v:V}(h:SqT K H p xs)(e:atI xs i=some v)(q:Q v H):tm K (.ref p) (.int i) H Q:=⟨p,xs,i,v,rfl,rfl,h,e,q⟩
theorem ixl{p:Addr}{xs:List V}{i:Int}{v:V}(h:SqL K H p xs)(e:atI xs i=some v)(q:Q v H):ZdU K (.ref p) (.int i) H Q:=⟨p,xs,i,v,rfl,rfl,h,e,q⟩
theorem bm{T:String}{r:V→List V→Hp→VK→Prop}{to:TE}{t:TA}(h:to af H λx ax=>tyV K T x ax∧t af ax λxs bo=>r x xs bo Q):tBM K T r to t af H Q:=h
theorem tyl{p:Addr}{xs:List V}{B:Prop}(h:H p=some (.lst xs))(q:B):tyV K "list" (.ref p) H∧B:=⟨.inl ⟨rfl,xs,.of h⟩,q⟩
theorem app{p:Addr}{xs:List V}{y:V}(h:H p=some (.lst xs))(ag:xs.length<sizeLine)(q:Q .non (upd H p (.lst (xs++ [y])))):rAppend (.ref p) [y] H Q:=⟨p,xs,y,rfl,rfl,h,ag,q⟩
end
end Rd
noncomputable def emb (ix:List Nat) (af:St):St:=none::ix.map λj=>(af[j]?).join
noncomputable def Zl (X:Cx) (b4:Scope) (cl:List (Str×Addr)) (C:Addr) (N:List Str) (s:Shared) (H:Hp) (fp:List Addr):Cx where
 prog:=X.prog
 w:=X.w
 K:=X.K
 mg:=X.mg
 base:=X.base
 A:=X.A
 N:=N
 s₀:=s
 H₀:=H
 env:=compEnvC b4 cl C X.env
 outer:=X.stack
 stack:=X.stack
 ex:=fp
 fn:=λ_=>false
 calm:=X.calm
 pn:=[]
 xe:=λ_ _=>False
structure YZ(X:Cx)(b4:Scope)(x:Str)(zs:List Str)(ix:List Nat):Prop where
 kind:b4.kind= .function
 nocell:∀y∈b4.names,y.2≠ .cell
 names:∀y∈b4.names,y.2= .local→b4.names.lookup y.1=some .local
 free:∀y∈b4.names,y.2= .free→X.env.kindOf y.1=some .cell∨X.env.kindOf y.1=some .free
 zfree:∀z∈zs,b4.names.lookup z=some .free
 at_:ix.map (λj=>X.N[j]?)=zs.map some
theorem Wk{env:Env}{x:Str}:∀{names:List (Str×NameKind)}{k:NameKind},
  (names.map λ(n,k)=>if(k==NameKind.free&&env.scope.kind== .function&&env.kindOf n==some .cell) then(n,NameKind.cell) else(n,k)).lookup x=some k→
  ∃k',names.lookup x=some k'∧(k=k'∨(k'= .free∧k= .cell))
 | [],_,h=>by simp at h
 |(n,j)::r,k,h=>by
  have h':List.lookup x ((if(j==NameKind.free&&env.scope.kind== .function&&env.kindOf n==some .cell)=true then(n,NameKind.cell) else(n,j))::(r.map λ(n,k)=>if(k==NameKind.free&&env.scope.kind== .function&&env.kindOf n==some .cell) then(n,NameKind.cell) else(n,k)))=some k:=h;cases a_:x==n with
  |true=>
   refine⟨j,by simp[RG,a_],?_⟩
   by_cases br:(j==NameKind.free&&env.scope.kind== .function&&env.kindOf n==some .cell)=true
   ·rw[if_pos br] at h';simp only[RG,a_] at h';cases h';simp only[Rz,beq_iff_eq] at br;exact .inr ⟨br.1.1,rfl⟩
   ·rw[if_neg br] at h';simp only[RG,a_] at h';cases h';exact .inl rfl
  |false=>
   have a':List.lookup x (r.map λ(n,k)=>if(k==NameKind.free&&env.scope.kind== .function&&env.kindOf n==some .cell) then(n,NameKind.cell) else(n,k))=some k:=by
    by_cases br:(j==NameKind.free&&env.scope.kind== .function&&env.kindOf n==some .cell)=true
    ·rw[if_pos br] at h';simpa only[RG,a_] using h'
    ·rw[if_neg br] at h';simpa only[RG,a_] using h'
   obtain⟨k',e,q⟩:=Wk a';exact⟨k',by simp only[RG,a_];exact e,q⟩
theorem lc{x:Str}{k:NameKind}:∀{names:List (Str×NameKind)},names.lookup x=some k→(x,k)∈names:=λh=>qak h
theorem ZaN(env:Env):∀(names:List (Str×NameKind))(cW:List (Str×Addr)),
  (∀y∈names,y.2= .free→∃c,env.cells.lookup y.1=some c)→(∀y c,cW.lookup y=some c→env.cells.lookup y=some c)→
  ∃cl:List (Str×Addr),(forIn names cW (λx (r:List (Str×Addr))=>if x.2==NameKind.free then(do let a←cellOf env x.1;pure (ForInStep.yield ((x.1,a)::r))) else pure (ForInStep.yield r)):Sem (List (Str×Addr)))=pure cl∧
   (∀y c,cl.lookup y=some c→env.cells.lookup y=some c)∧(∀y,(∃c,cW.lookup y=some c)∨(y,NameKind.free)∈names→∃c,cl.lookup y=some c)
 | [],cW,_,bB=>⟨cW,rfl,bB,λy h=>h.elim id λz=>absurd z (by simp)⟩
 |(n,k)::r,cW,bE,bB=>by
  have bn:∀y∈r,y.2= .free→∃c,env.cells.lookup y.1=some c:=λy bP=>bE y (Q7 _ bP)
  by_cases bp:k= .free
  ·subst bp;obtain⟨c,br⟩:=bE (n,.free) R0 rfl;have fO:∀y cR,((n,c)::cW).lookup y=some cR→env.cells.lookup y=some cR:=λy cR h=>by
    cases bP:y==n with
    |true=>
     simp only[RG,bP] at h;cases h;rw[beq_iff_eq.mp bP];exact br
    |false=>
     simp only[RG,bP] at h;exact bB y cR h
   obtain⟨cl,e,ap,a'⟩:=ZaN env r ((n,c)::cW) bn fO;refine⟨cl,?_,ap,λy h=>a' y ?_⟩
   ·rw[List.forIn_cons];have:cellOf env n=pure c:=by unfold cellOf;rw[br]
    simp only[beq_self_eq_true,if_true,this];exact e
   ·rcases h with⟨cR,h⟩|h
    ·cases bP:y==n with
     |true=>exact .inl ⟨c,by simp only[RG,bP]⟩
     |false=>exact .inl ⟨cR,by simp only[RG,bP];exact h⟩
    ·rcases QW.mp h with h|h
     ·cases h;exact .inl ⟨c,by simp⟩
     ·exact .inr h
  ·obtain⟨cl,e,ap,a'⟩:=ZaN env r cW bn bB;refine⟨cl,?_,ap,λy h=>a' y ?_⟩
   ·rw[List.forIn_cons];have ao:(k==NameKind.free)=false:=by simpa using bp
    simp only[ao,qaA,if_false];exact e
   ·rcases h with h|h
    ·exact .inl h
    ·rcases QW.mp h with h|h
     ·cases h;exact absurd rfl bp
     ·exact .inr h
def PIf(X:Cx)(ifs:List Expr)(t:TT):Prop:=
 ∀(ah:List (Addr×Obj))(s:Shared)(af:St)(H:Hp)(Q:Bool→Hp→Prop),Inv X ah af H s→t af H Q→
  wpAny (model X.prog X.w) X.A (forIn ifs true λc r=>if r=true then do let ok←isTrue c X.env (eval c X.env);pure (ForInStep.yield ok) else pure (ForInStep.yield r)) (TP X ah af Q) X.xe s
noncomputable def tAll:TT:=λ_ H Q=>Q true H
section
variable {X:Cx}
theorem gm:PIf X [] tAll:=λ_ _ _ H _ I h=>wpAny_pure ⟨H,I,h⟩
theorem nv{c:Expr}{t:TT}(br:PT X c t):PIf X [c] t:=by
 intro ah s af H Q I h;rw[List.forIn_cons];simp only[if_true];refine wpAny_bind (wpAny_bind (thn (br ah s af H _ I h) λb bq q=>wpAny_pure ?_));exact wpAny_pure q
end
section
variable {prog:Program}{w:World}{A:Around}{R:Result→Shared→Prop}{s:Shared}
theorem ZaZ{eL target d6:Expr}{ifs:List Expr}{scope:Scope}{pos:Pos}{it cW:Value}{env:Env}(I:Nat→Shared→Prop)
  (turn:∀n s,I n s→wpAny (model prog w) A (pyNext it) (λr da=>match r with
   |none=>R (.ok .next) da
   |some v=>wpAny (model prog w) A (letOwnedTupleGo target it v) (λ_ s₀=>wpAny (model prog w) A (assign target env v) (λ_ jD=>
     wpAny (model prog w) A (forIn ifs true λc r=>if r=true then do let ok←isTrue c env (eval c env);pure (ForInStep.yield ok) else pure (ForInStep.yield r)) (λok ie=>
      if ok=true then wpAny (model prog w) A (eval eL env) (λx nw=>
       wpAny (model prog w) A (call (.builtin "list.append") [cW,x]) (λ_ xQ=>∃m,m<n∧I m xQ) (λ_ _=>False) nw) (λ_ _=>False) ie
      else ∃m,m<n∧I m ie) (λ_ _=>False) jD) (λ_ _=>False) s₀) (λ_ _=>False) da) (λ_ _=>False) s)
  (n:Nat) (h:I n s):
  codeAny (model prog w) A (.compLoop (.ListComp eL [⟨target,d6,ifs,0⟩] scope pos) 0 it cW env) R s:=by
 refine codeAny_loop rfl I (λn s o'=>?_) n h;show wpAny _ A ((compTurn (.ListComp eL [⟨target,d6,ifs,0⟩] scope pos) 0 it cW env).onRaise (λx=>do noteFrame x env;theTreesLotGoes x)) _ _ s;refine wpAny_noted ?_;rw[compTurn_list];refine wpAny_bind (wpAny_standAt (wpAny_bind (wpAny_mono (turn n s o') (λr da h₁=>?_) λ_ _ z=>z.elim)));cases r with
 |none=>exact wpAny_pure h₁
 |some v=>
  refine wpAny_bind (wpAny_mono h₁ (λ_ s₀ h₀=>?_) λ_ _ z=>z.elim);refine wpAny_bind (wpAny_mono h₀ (λ_ jD tE=>wpAny_bind (wpAny_mono tE (λok ie xR=>?_) λ_ _ z=>z.elim)) λ_ _ z=>z.elim);cases ok with
  |false=>exact wpAny_pure ⟨rfl,xR⟩
  |true=>
   exact wpAny_bind (wpAny_bind (wpAny_mono xR (λx nw xS=>wpAny_bind (wpAny_mono xS (λ_ xQ tF=>wpAny_pure (wpAny_pure ⟨rfl,tF⟩)) λ_ _ z=>z.elim)) λ_ _ z=>z.elim))
end
noncomputable def tG (ix:List Nat) (ed:TI) (g:TG) (df:TT) (cu:TE):TE:=λaf H Q=>ed af H λJ ax=>∀p,ax p=none→
 ∃W:Nat→Nat→List V→St→Hp→Prop,(∃m,W 0 m [] (emb ix af) (upd ax p (.lst [])))∧∀i m ys bQ ae,W i m ys bQ ae→
  (J.stop i ae∧Q (.ref p) ae)∨(J.go i ae∧∀x bo,J.yld i ae x bo→g x bQ bo λcs b2=>df cs b2 λb b7=>
   if b=true then cu cs b7 λv bY=>bY p=some (.lst ys)∧ys.length<sizeLine∧∃cn,cn<m∧W (i+1) cn (ys++ [v]) cs (upd bY p (.lst (ys++ [v])))
   else ∃cn,cn<m∧W (i+1) cn ys cs b7)
section
variable {X:Cx}
theorem Zh6{ah:List (Addr×Obj)}{af:St}{H:Hp}{s:Shared}{b4:Scope}{x:Str}{zs:List Str}{ix:List Nat}{cl:List (Str×Addr)}{fp:List Addr}{h₁:Heap}{bT:Nat}
  (S:YZ X b4 x zs ix) (I:Inv X ah af H s) (ey:∀y c,cl.lookup y=some c→X.env.cells.lookup y=some c) (gT:∀y,(y,NameKind.free)∈b4.names→∃c,cl.lookup y=some c)
  (gG:∀b∈fp,gg X ah H b∧b<s.heap.objs.size) (ke:h₁.Ns s.heap.objs.size λ_=>none) (bp:∀b o,s.heap.get? b=some o→h₁.get? b=some o):
  Inv (Zl X b4 cl s.heap.objs.size (x::zs) s H fp) [] (emb ix af) H {s with heap:=h₁,toks:=bT}:=by
 have sub:∀b∈frs X.stack,b∈X.env.locals::X.fs:=I.stkSub;have tH:∀b∈fp,b∉frs X.stack:=λb ao z=>by
  obtain⟨⟨_,f1,f2,_⟩,_⟩:=gG b ao;rcases QW.mp (sub b z) with e|e
  ·exact f1 e
  ·exact f2 e
 have cut:∀y,(Zl X b4 cl s.heap.objs.size (x::zs) s H fp).env.kindOf y=some .cell∨(Zl X b4 cl s.heap.objs.size (x::zs) s H fp).env.kindOf y=some .free→∃c,cl.lookup y=some c:=λy bP=>by
  have q:∃k,(relabel b4 X.env).names.lookup y=some k∧(k= .cell∨k= .free):=by
   rcases bP with bP|bP
   ·exact⟨_,bP,.inl rfl⟩
   ·exact⟨_,bP,.inr rfl⟩
  obtain⟨k,e,bp⟩:=q;obtain⟨k',b6,q⟩:=Wk e;have:k'= .free:=by
   rcases q with q|⟨q,_⟩
   ·rcases bp with z|z
    ·exact absurd (q.symm.trans z) (S.nocell _ (lc b6))
    ·exact q.symm.trans z
   ·exact q
  subst this;exact gT y (lc b6)
 refine⟨⟨I.ok.mod,S.kind,I.ok.glob,I.ok.blt,QQ _,λy z c ap a'=>I.ok.inj y z c (ey _ _ ap) (ey _ _ a'),cut,λy c bE _=>?_,I.ok.hd,I.ok.frames,.inl rfl,λb ao=>?_,I.bs,QZ I.ok.bsz I.sz,λb o e ao=>?_,tH,I.stack,I.stkFree⟩,
  rfl,I.bare,Un.kept bp,⟨_,ke,λi y v ap a' bU=>?_⟩,λy c h=>?_,I.hok.fresh (QQ _),λy c h=>I.freeC y c (ey y c h),λp bz=>absurd (show p∈([]:List (Addr×Obj)) from bz) (by simp),I.hok.kept bp,?_⟩
 ·exact absurd (show false=true from bE) (by decide)
 ·obtain⟨⟨dz,f1,f2,c7,d7,dS⟩,ag⟩:=gG b ao;exact⟨Q0 ag,λy c h=>d7 y c (ey y c h)⟩
 ·obtain⟨⟨dz,f1,f2,c7,d7,dS⟩,ag⟩:=gG b ao;rcases c7 with z|z
  ·exact I.ok.noex b o e z
  ·exact absurd (QU (Heap.lt_size e) (QZ I.ok.bsz z)) (RU _)
 ·
  cases i with
  |zero=>
   have:(none:Option (Option V))=some (some v)∨(some none:Option (Option V))=some (some v):= .inr a';rcases this with z|z<;>cases z
  |succ i=>
   have lf:zs[i]? =some y:=ap;have gU:(ix.map λj=>(af[j]?).join)[i]? =some (some v):=a';have bB:(ix.map λj=>X.N[j]?)[i]? =some (some y):=by rw[S.at_,QX,lf];rfl
   rw[QX] at gU bB;cases e:ix[i]? with
   |none=>rw[e] at gU;cases gU
   |some j=>
    rw[e] at gU bB;have fO:X.N[j]? =some y:=Q2 bB;have bw:(af[j]?).join=some v:=Q2 gU;have tI:af[j]? =some (some v):=by
     cases q:af[j]? with
     |none=>rw[q] at bw;cases bw
     |some o=>rw[q] at bw;exact congrArg some bw
    obtain⟨m,bG,ag⟩:=I.loc;have e0:=S.zfree y (Q6 lf);have l':=S.free _ (lc e0) rfl;have b8:Vis X.env.scope y:=by
     rcases l' with z|z
     ·exact .inr (.inl z)
     ·exact .inr (.inr z)
    obtain⟨u,r,q⟩:=ag j y v fO tI b8;refine⟨u,r,?_⟩;rcases q with⟨tJ,_⟩|⟨_,c,br,kX⟩
    ·have pa:X.env.kindOf y=some .local:=tJ;rcases l' with z|z<;>(rw[z] at pa;cases pa)
    ·obtain⟨cR,jC⟩:=gT y (lc e0);have iQ:cR=c:=by have:=ey y cR jC;rw[br] at this;exact(Q2 this).symm
     subst iQ;refine .inr ⟨?_,cR,jC,?_⟩
     ·have tK:Vis (relabel b4 X.env) y:=bU;rcases tK with z|z|z
      ·obtain⟨k',b6,q⟩:=Wk z;rw[e0] at b6;cases b6;rcases q with q|⟨_,q⟩<;>cases q
      ·exact .inl z
      ·exact .inr z
     ·obtain⟨o,bC,hd⟩:=kX;exact⟨o,bp _ _ bC,hd⟩
 ·obtain⟨v,o,bC,hd⟩:=I.cell y c (ey y c h);exact⟨v,o,bp _ _ bC,hd⟩
 ·show(none::ix.map λj=>(af[j]?).join).length=(x::zs).length;have:=congrArg List.length S.at_;simp only[QM] at this;simp only[List.length_cons,QM,this]
structure Zk3(ok:Cx→Prop)(P:Program)(w:World)(K:Frag)(cN:Expr)(J:It)(fp:List Addr)(it:Addr)(dI:Nat→Heap→Prop):Prop where
 obj:∀i h,dI i h→∀b∈fp,∃o,h.get? b=some o∧∀v,o.data≠ .cell v
 keep:∀i h h',dI i h→(∀b∈fp,∀o,h.get? b=some o→h'.get? b=some o)→dI i h'
 item:∀(X:Cx),X.prog=P→X.w=w→X.K=K→ok X→∀(i:Nat)(ah:List (Addr×Obj))(s:Shared)(af:St)(H:Hp)(E:Value→Shared→Prop),Inv X ah af H s→(∀b∈fp,gg X ah H b)→dI i s.heap→J.go i H→
  wpAny (model P w) X.A (pyNext (.ref it)) (λr bq=>∃u,r=some u∧
   wpAny (model P w) X.A (letOwnedTupleGo cN (.ref it) u) (λ_ bJ=>∃x ae,Inv X ah af ae bJ∧cA x u∧J.yld i H x ae∧dI (i+1) bJ.heap∧∀b∈fp,ae b=none) E bq) E s
 done:∀(X:Cx),X.prog=P→X.w=w→X.K=K→ok X→∀(i:Nat)(ah:List (Addr×Obj))(s:Shared)(af:St)(H:Hp)(E:Value→Shared→Prop),Inv X ah af H s→(∀b∈fp,gg X ah H b)→dI i s.heap→J.stop i H→
  wpAny (model P w) X.A (pyNext (.ref it)) (λr bq=>r=none∧Inv X ah af H bq) E s
 self:∀(A:Around)(i:Nat)(s:Shared)(Q:Value→Shared→Prop)(E:Value→Shared→Prop),dI i s.heap→Q (.ref it) s→wpAny (model P w) A (pyIter (.ref it)) Q E s
theorem UF.c{P:Program}{w:World}{K:Frag}{cN:Expr}{J:It}{fp:List Addr}{it:Addr}{dI:Nat→Heap→Prop}(T:UF P w K cN J fp it dI):Zk3 (λX=>X.calm=true) P w K cN J fp it dI:=
 ⟨T.obj,T.keep,T.item,T.done,T.self⟩
def xT(X:Cx)(ah:List (Addr×Obj))(af:St)(Q:VK)(cW:Value)(C:Addr)(s':Shared):Prop:=
 ∃p ae m,cW=Value.ref p∧s'.heap.Ns C m∧Inv X ah af ae s'∧gg X ah ae C∧Q (.ref p) ae
theorem Zda{ah:List (Addr×Obj)}{af:St}{H:Hp}{s:Shared}{b4:Scope}{x:Str}{zs:List Str}{ix:List Nat}{cl:List (Str×Addr)}{fp:List Addr}{it:Addr}{dI:Nat→Heap→Prop}{J:It}
  {eL cN d6:Expr} {ifs:List Expr} {pos:Pos} {g:TG} {df:TT} {cu:TE} {Q:VK} {E:Value→Shared→Prop} {RR:Value→Addr→Result→Shared→Prop} {xU:Cx→Prop}
  (br:∀C N s H,xU (Zl X b4 cl C N s H fp)) (S:YZ X b4 x zs ix) (I:Inv X ah af H s) (ey:∀y c,cl.lookup y=some c→X.env.cells.lookup y=some c) (gT:∀y,(y,NameKind.free)∈b4.names→∃c,cl.lookup y=some c)
  (T:Zk3 xU X.prog X.w X.K cN J fp it dI) (st:dI 0 s.heap) (gG:∀b∈fp,gg X ah H b)
  (ez:∀C s H,PG (Zl X b4 cl C (x::zs) s H fp) cN g∧PIf (Zl X b4 cl C (x::zs) s H fp) ifs df∧PE (Zl X b4 cl C (x::zs) s H fp) eL cu)
  (cq:∀p,H p=none→∃W:Nat→Nat→List V→St→Hp→Prop,(∃m,W 0 m [] (emb ix af) (upd H p (.lst [])))∧∀i m ys bQ ae,W i m ys bQ ae→
   (J.stop i ae∧Q (.ref p) ae)∨(J.go i ae∧∀x bo,J.yld i ae x bo→g x bQ bo λcs b2=>df cs b2 λb b7=>
    if b=true then cu cs b7 λv bY=>bY p=some (.lst ys)∧ys.length<sizeLine∧∃cn,cn<m∧W (i+1) cn (ys++ [v]) cs (upd bY p (.lst (ys++ [v])))
    else ∃cn,cn<m∧W (i+1) cn ys cs b7))
  (de:∀cW C f s',xT X ah af Q cW C s'→RR cW C (.ok f) s'):
  wpAny (model X.prog X.w) X.A (newList []) (λcW ie=>wpAny (model X.prog X.w) X.A (newFunctionEnv b4 X.env.globals cl [] X.env.qual none .none (some X.env)) (λpb nw=>
   codeAny (model X.prog X.w) X.A (.compStart (.ListComp eL [⟨cN,d6,ifs,0⟩] b4 pos) 0 (.ref it) cW {pb with scope:=relabel b4 X.env}) (RR cW pb.locals) nw) E ie) E s:=by
 refine wpAny_newObj_type (wpAny_newFunctionEnv S.nocell (by intro y bP;simp at bP) (λh₁ hns₁ pc=>?_) S.kind);have dk:Inv X ah af (upd H s.heap.objs.size (.lst [])) {s with heap:=s.heap.push {cls:= .type "list",dict:=none,data:= .seq ([]:List Value).toArray}}:=I.lnew (its:=[]) (ys:=[]) (t':=s.toks) .nil (Q5 _);dsimp only at hns₁ pc⊢;obtain⟨W,⟨g8,eQ⟩,turn⟩:=cq s.heap.objs.size (I.hok.fresh (QQ _));have lt:∀b∈fp,b<s.heap.objs.size:=λb ao=>by
  obtain⟨o,e,_⟩:=T.obj 0 s.heap st b ao;exact Heap.lt_size e
 have ny:∀b∈fp,∀o,(upd H s.heap.objs.size o) b=H b:=λb ao o=>bW (Q0 (lt b ao));have kp:∀b o,(s.heap.push {cls:= .type "list",dict:=none,data:= .seq ([]:List Value).toArray}).get? b=some o→h₁.get? b=some o:=λb o e=>
  pc.extBut b o (Q0 (Heap.lt_size e)) (Heap.get?_push_of_some _ e)
 have c7:∀b∈fp,gg X ah (upd H s.heap.objs.size (.lst [])) b∧b<(s.heap.push {cls:= .type "list",dict:=none,data:= .seq ([]:List Value).toArray}).objs.size:=λb ao=>by
  obtain⟨tL,q⟩:=gG b ao;refine⟨⟨(ny b ao _).trans tL,q⟩,?_⟩;rw[Heap.size_push];exact RS (lt b ao)
 generalize jJ:({s with heap:=s.heap.push {cls:= .type "list",dict:=none,data:= .seq ([]:List Value).toArray}}:Shared)=bO at dk;have pd:s.heap.push {cls:= .type "list",dict:=none,data:= .seq ([]:List Value).toArray}=bO.heap:=by rw[←jJ]
 rw[pd] at kp c7 hns₁⊢;have jE:dI 0 h₁:=T.keep 0 _ _ st λb _ o e=>kp b o (by rw[←pd];exact Heap.get?_push_of_some _ e);have kg:Inv (Zl X b4 cl bO.heap.objs.size (x::zs) bO (upd H s.heap.objs.size (.lst [])) fp) [] (emb ix af) (upd H s.heap.objs.size (.lst [])) {bO with heap:=h₁,toks:=bO.toks}:=
  Zh6 S dk ey gT c7 hns₁ kp
 obtain⟨bF,tM,bH⟩:=ez bO.heap.objs.size bO (upd H s.heap.objs.size (.lst []));have mj:∀{ae:Hp},(∀b∈fp,ae b=none)→∀b∈fp,gg (Zl X b4 cl bO.heap.objs.size (x::zs) bO (upd H s.heap.objs.size (.lst [])) fp) [] ae b:=λ{ae} bG b ao=>
  ⟨bG b ao,(kg.ok.exf b ao).1,kg.ok.exfs b ao,.inl ao,(kg.ok.exf b ao).2,λp bz=>absurd (show p∈([]:List (Addr×Obj)) from bz) (by simp)⟩
 have pe:∀b9:Shared,b9={bO with heap:=h₁,toks:=bO.toks}→
   codeAny (model X.prog X.w) X.A (.compLoop (.ListComp eL [⟨cN,d6,ifs,0⟩] b4 pos) 0 (.ref it) (.ref s.heap.objs.size) (compEnvC b4 cl bO.heap.objs.size X.env)) (RR (.ref s.heap.objs.size) bO.heap.objs.size) b9:=by
  rintro b9 rfl;refine ZaZ (λn s'=>∃i ys bQ ae,Inv (Zl X b4 cl bO.heap.objs.size (x::zs) bO (upd H s.heap.objs.size (.lst [])) fp) [] bQ ae s'∧dI i s'.heap∧(∀b∈fp,ae b=none)∧W i n ys bQ ae) ?_ g8
   ⟨0,[],emb ix af,_,kg,jE,λb ao=>(c7 b ao).1.1,eQ⟩
  rintro n cC ⟨i,ys,kh,bY,iL,j8,ht,tN⟩;rcases turn i n ys kh bY tN with⟨stop,l8⟩|⟨go,step⟩
  ·refine thn (T.done (Zl X b4 cl bO.heap.objs.size (x::zs) bO (upd H s.heap.objs.size (.lst [])) fp) rfl rfl rfl (br _ _ _ _) i [] cC kh bY _ iL (mj ht) j8 stop) λr du ⟨bn,gf⟩=>?_;subst bn;obtain⟨tO,pf,_⟩:=gf.loc;refine de _ _ _ _ ⟨s.heap.objs.size,bY,tO,rfl,pf,?_,dk.fpOk (QQ _) gf.free,l8⟩;exact dk.call' gf.os gf.base gf.hok gf.bare λb ao=>by
    obtain⟨⟨dz,f1,f2,c7,d7,dS⟩,_⟩:=c7 b ao;exact⟨c7,f1,d7,dS⟩
  ·refine thn (T.item (Zl X b4 cl bO.heap.objs.size (x::zs) bO (upd H s.heap.objs.size (.lst [])) fp) rfl rfl rfl (br _ _ _ _) i [] cC kh bY _ iL (mj ht) j8 go) λr du ⟨u,bn,c'⟩=>?_;subst bn;refine thn c' λ_ dn ⟨x7,dh,gR,k6,tP,ml,ph⟩=>?_;have tQ:=gR.pinned (mj ph) (T.obj _ _ ml);refine thn (bF _ dn kh dh x7 u _ tQ k6 (step x7 dh tP)) λ_ er ⟨mm,dL,pi,tR⟩=>?_;refine thn (tM _ er mm dL _ pi tR) λb fj ⟨eC,pj,ki⟩=>?_;have again:∀{mo:List V}{bQ:St}{ae:Hp}{cn:Nat}{s':Shared},Inv (Zl X b4 cl bO.heap.objs.size (x::zs) bO (upd H s.heap.objs.size (.lst [])) fp) ([]++Zag fp dn.heap) bQ ae s'→W (i+1) cn mo bQ ae→cn<n→
     ∃m,m<n∧∃i ys bQ ae,Inv (Zl X b4 cl bO.heap.objs.size (x::zs) bO (upd H s.heap.objs.size (.lst [])) fp) [] bQ ae s'∧dI i s'.heap∧(∀b∈fp,ae b=none)∧W i m ys bQ ae:=λ{mo bQ ae cn s'} Iz je bv=>by
    refine⟨cn,bv,i+1,mo,bQ,ae,Iz.unpinned,T.keep _ _ _ ml λb ao o e=>(Iz.pin (b,o) (Q9 _ (Q9 _ (nh ao e)))).1,λb ao=>?_,je⟩;obtain⟨o,e,d⟩:=T.obj _ _ ml b ao;exact(Iz.pin (b,o) (Q9 _ (Q9 _ (nh ao e)))).2.1
   cases b with
   |false=>
    rw[if_neg QY] at ki⊢;obtain⟨cn,bv,je⟩:=ki;exact again pj je bv
   |true=>
    rw[if_pos rfl] at ki⊢;refine thn (bH _ fj mm eC _ pj ki) λv fP ⟨y,e1,tS,tT,ag,hz,cn,bv,je⟩=>?_;refine thn (ha _ fP mm e1 (.ref s.heap.objs.size) [y] (.ref s.heap.objs.size) [v] (λz ae=>z= .non∧ae=upd e1 s.heap.objs.size (.lst (ys++ [y]))) tS rfl (.cons tT .nil) ⟨_,ys,y,rfl,rfl,ag,hz,rfl,rfl⟩) λ_ jK ⟨z,fz,tU,_,_,tV⟩=>?_;subst tV;exact again tU je bv
 exact codeAny_compStart_list (pe _ (by subst jJ;rfl)) (T.self _ 0 _ _ _ jE (pe _ (by subst jJ;rfl)))
theorem Vx{b4:Scope}{x:Str}{zs:List Str}{ix:List Nat}(ok:X.Ok)(S:YZ X b4 x zs ix):
  ∃cl,closureFor b4 X.env=pure cl∧(∀y c,cl.lookup y=some c→X.env.cells.lookup y=some c)∧∀y,(y,NameKind.free)∈b4.names→∃c,cl.lookup y=some c:=by
 obtain⟨cl,e,ap,a'⟩:=ZaN X.env b4.names [] (λy bP bE=>ok.has y.1 (S.free y bP bE)) (λy c h=>by simp at h);refine⟨cl,?_,ap,λy bP=>a' y (.inr bP)⟩;unfold closureFor;simp only;rw[e]
 rfl
theorem jf{eL cN d6:Expr}{ifs:List Expr}{b4:Scope}{pos:Pos}{x:Str}{zs:List Str}{ix:List Nat}{ed:TI}{g:TG}{df:TT}{cu:TE}
  (br:X.calm=true) (S:YZ X b4 x zs ix) (hi:PI X cN d6 ed)
  (ez:∀cl C s H fp,PG (Zl X b4 cl C (x::zs) s H fp) cN g∧PIf (Zl X b4 cl C (x::zs) s H fp) ifs df∧PE (Zl X b4 cl C (x::zs) s H fp) eL cu)
  (hs:∀x,foldedSetIterable d6 X.env x=pure x:=by intro _;rfl):
  PE X (.ListComp eL [⟨cN,d6,ifs,0⟩] b4 pos) (tG ix ed g df cu):=by
 intro ah s af H Q I h;obtain⟨cl,mq,ey,gT⟩:=Vx I.ok S;rw[eval_ListComp];refine wpAny_comprehension_free (use:=none) rfl hs mq S.kind S.names (thn (hi ah s af H _ I h) λv bq ap=>thn ap λng bJ a'=>?_);obtain⟨it,fp,dI,J,bo,e,cB,T,j7,f2,cq⟩:=a';subst e;refine Zda (RR:=λcW C=>compPost (model X.prog X.w) X.A X.xe none (EP X ah af Q) cW C) (λ_ _ _ _=>br) S cB ey gT T.c j7 f2 (λC s H=>ez cl C s H fp) cq λcW C f s' h=>?_;obtain⟨p,ae,m,rfl,bv,d0,⟨dC,g1,g2,g3,hC,mu⟩,q⟩:=h;exact⟨m,bv,λh' ao=>⟨.ref p,ae,d0.turned (t':=s'.toks) (λb o eu e=>(ao.2 b eu).trans e) dC g1 g3 hC mu,rfl,q⟩⟩
theorem tW{eL cN d6:Expr}{ifs:List Expr}{b4:Scope}{pos py pk:Pos}{x y:Str}{zs:List Str}{ix:List Nat}{ed:TI}{g:TG}{df:TT}{cu:TE}{j:Nat}
  (br:X.calm=true) (S:YZ X b4 x zs ix) (hi:PI X cN d6 ed)
  (ez:∀cl C s H fp,PG (Zl X b4 cl C (x::zs) s H fp) cN g∧PIf (Zl X b4 cl C (x::zs) s H fp) ifs df∧PE (Zl X b4 cl C (x::zs) s H fp) eL cu)
  (dx:X.N.Nodup) (bw:X.N[j]? =some y) (bP:Loc X.env.scope y)
  (tX:swapsWith (.ListComp eL [⟨cN,d6,ifs,0⟩] b4 pos) (some (.Name y py)) pk.line X.env=pure true:=by rfl)
  (bE:X.fn y=true∨X.env.scope.names.lookup y=some .local:=by first|exact .inl rfl|exact .inr rfl|assumption)
  (hs:∀x,foldedSetIterable d6 X.env x=pure x:=by intro _;rfl):
  PS X (.Assign [.Name y py] (.ListComp eL [⟨cN,d6,ifs,0⟩] b4 pos) pk) (oN (tG ix ed g df cu) (Vf j)):=by
 intro ah s af H D I h;obtain⟨cl,mq,ey,gT⟩:=Vx I.ok S;rw[exec_Assign_Name_used _ _ _ _ tX];refine wpAny_bind (wpAny_standAt (wpAny_bind ?_));show wpAny _ X.A (do let _←comprehension (.ListComp eL [⟨cN,d6,ifs,0⟩] b4 pos) b4 X.env _ (newList []) false (eval d6 X.env) (some (assign (.Name y py) X.env))) _ _ s;refine wpAny_bind (wpAny_mono (wpAny_comprehension_free (use:=some (assign (.Name y py) X.env)) (Q:=λ_ s'=>SP X ah D .next s') rfl hs mq S.kind S.names
  (thn (hi ah s af H _ I h) λv bq ap=>thn ap λng bJ a'=>?_)) (λ_ s' cq=>wpAny_pure (wpAny_pure cq)) λ_ _ e=>e)
 obtain⟨it,fp,dI,J,bo,e,cB,T,j7,f2,cq⟩:=a';subst e;refine Zda (Q:=λx ax=>Vf j x af ax D.nx) (RR:=λcW C=>compPost (model X.prog X.w) X.A X.xe (some (assign (.Name y py) X.env)) (λ_ s'=>SP X ah D .next s') cW C) (λ_ _ _ _=>br) S cB ey gT T.c j7 f2 (λC s H=>ez cl C s H fp) cq λcW C f s' h=>?_;obtain⟨p,ae,m,rfl,bv,d0,⟨dC,g1,g2,g3,hC,mu⟩,q⟩:=h;show wpAny _ X.A (assign (.Name y py) X.env (.ref p)) _ _ _;refine wpAny_assign_Name (s4 d0 dx bw bP (show cA (.ref p) (.ref p) from rfl) (λj' I'' ⟨c,tY,na⟩=>?_) bE);have eu:C≠c:=by
  rcases na with z|z
  ·rw[z];exact g1
  ·exact qao (hC _ _ z)
 exact⟨m,bv.sameBut tY eu,λh' ao=>⟨_,ae,I''.turned (t':=j'.toks) (λb o eu e=>(ao.2 b eu).trans e) dC g1 g3 hC mu,q⟩⟩
end
def ZR(h:Heap)(e:Addr):Prop:=∃o vs,h.get? e=some o∧o.data= .fields vs∧vs[2]? =some Value.none
noncomputable def Kp (P:Heap→Prop) {cJ:Type}:Sem cJ→Prop
 | .pure _=>True
 | .raise _=>True
 | .unsupported _=>True
 | .finish _=>True
 | .rule _ k=>Kp P (k ())
 | .at _ k=>Kp P (k ())
 | .load _ _ k=>∀o,Kp P (k o)
 | .update a _ f k=>(∀h,P h→P (h.update a f))∧Kp P (k ())
 | .alloc o k=>(∀h,P h→P (h.push o))∧∀a,Kp P (k a)
 | .loadIfAlive _ k=>∀o,Kp P (k o)
 | .point _ k=>Kp P (k ())
 | .ask k=>∀x,Kp P (k x)
 | .stack k=>∀x,Kp P (k x)
 |_=>False
section
variable {cJ fX:Type}{P:Heap→Prop}{M:Model}{A:Around}{E:Value→Shared→Prop}{s:Shared}
theorem Kp.wp{q8:PySem.Ctx}{Q:cJ→Pos→Shared→Prop}{E:Value→Pos→Shared→Prop}(t:Sem cJ):∀(p:Pos)(s:Shared),Kp P t→P s.heap→Sem.wp M q8 t Q E p s→
  Sem.wp M q8 t (λa p s'=>Q a p s'∧P s'.heap) (λe p s'=>E e p s'∧P s'.heap) p s:=by
 induction t with
 |pure a=>exact λp s _ bz h=>⟨h,bz⟩
 |raise a=>exact λp s _ bz h=>⟨h,bz⟩
 |unsupported w=>exact λp s _ bz h=>h
 |finish w=>exact λp s _ bz h=>h
 |rule _ k bM=>exact λp s bp bz h=>bM () p s bp bz h
 | «at» f0 k bM=>exact λp s bp bz h=>bM () f0 s bp bz h
 |load _ _ k bM=>exact λp s bp bz ⟨o,e,h⟩=>⟨o,e,bM o p s (bp o) bz h⟩
 |update _ _ _ k bM=>exact λp s bp bz ⟨e,h⟩=>⟨e,bM () p _ bp.2 (bp.1 _ bz) h⟩
 |alloc _ k bM=>exact λp s bp bz h=>bM _ p _ (bp.2 _) (bp.1 _ bz) h
 |loadIfAlive _ k bM=>exact λp s bp bz h=>bM _ p s (bp _) bz h
 |point _ k bM=>exact λp s bp bz h=>bM () p s bp bz h
 |ask k bM=>exact λp s bp bz h=>bM _ p s (bp _) bz h
 |stack k bM=>exact λp s bp bz h=>bM _ p s (bp _) bz h
 |register=>exact λp s bp _ _=>False.elim bp
 |fresh=>exact λp s bp _ _=>False.elim bp
 |choose=>exact λp s bp _ _=>False.elim bp
 |os=>exact λp s bp _ _=>False.elim bp
 |call=>exact λp s bp _ _=>False.elim bp
 |handled=>exact λp s bp _ _=>False.elim bp
 |newGen=>exact λp s bp _ _=>False.elim bp
 |genState=>exact λp s bp _ _=>False.elim bp
 |resume=>exact λp s bp _ _=>False.elim bp
 |yield=>exact λp s bp _ _=>False.elim bp
 |fork=>exact λp s bp _ _=>False.elim bp
 |thread=>exact λp s bp _ _=>False.elim bp
 |await=>exact λp s bp _ _=>False.elim bp
theorem Kp.any{t:Sem cJ}{Q:cJ→Shared→Prop}(k:Kp P t)(bz:P s.heap)(h:wpAny M A t Q E s):wpAny M A t (λa s'=>Q a s'∧P s'.heap) (λe s'=>E e s'∧P s'.heap) s:=λq8 p D6=>Kp.wp t p s k bz (h q8 p D6)
theorem Kp.bind{f:cJ→Sem fX}(m:Sem cJ):Kp P m→(∀a,Kp P (f a))→Kp P (m.bind f):=by
 induction m with
 |pure a=>exact λ_ bE=>bE a
 |raise a=>exact λ_ _=>trivial
 |unsupported w=>exact λ_ _=>trivial
 |finish w=>exact λ_ _=>trivial
 |rule _ k bM=>exact λbp bE=>bM () bp bE
 | «at» _ k bM=>exact λbp bE=>bM () bp bE
 |load _ _ k bM=>exact λbp bE o=>bM o (bp o) bE
 |update _ _ _ k bM=>exact λbp bE=>⟨bp.1,bM () bp.2 bE⟩
 |alloc _ k bM=>exact λbp bE=>⟨bp.1,λa=>bM a (bp.2 a) bE⟩
 |loadIfAlive _ k bM=>exact λbp bE o=>bM o (bp o) bE
 |point _ k bM=>exact λbp bE=>bM () bp bE
 |ask k bM=>exact λbp bE o=>bM o (bp o) bE
 |stack k bM=>exact λbp bE o=>bM o (bp o) bE
 |register=>exact λbp _=>False.elim bp
 |fresh=>exact λbp _=>False.elim bp
 |choose=>exact λbp _=>False.elim bp
 |os=>exact λbp _=>False.elim bp
 |call=>exact λbp _=>False.elim bp
 |handled=>exact λbp _=>False.elim bp
 |newGen=>exact λbp _=>False.elim bp
 |genState=>exact λbp _=>False.elim bp
 |resume=>exact λbp _=>False.elim bp
 |yield=>exact λbp _=>False.elim bp
 |fork=>exact λbp _=>False.elim bp
 |thread=>exact λbp _=>False.elim bp
 |await=>exact λbp _=>False.elim bp
theorem Kp.bd{m:Sem cJ}{f:cJ→Sem fX}(bv:Kp P m)(bE:∀a,Kp P (f a)):Kp P (m >>= f):=Kp.bind m bv bE
theorem Kp.pure(a:cJ):Kp P (Pure.pure a:Sem cJ):=trivial
theorem Kp.uns(w:String):Kp P (PySem.unsupported w:Sem cJ):=trivial
theorem Kp.ite{c:Prop}[Decidable c]{a b:Sem cJ}(bB:Kp P a)(ao:Kp P b):Kp P (if c then a else b):=by split<;>assumption
end
section
variable {e:Addr}
theorem ZR.slots{h:Heap}{a:Addr}{g:Obj→Array (Option Value)}(x:ZR h e):ZR (h.update a λo=>{o with slots:=g o}) e:=by
 obtain⟨o,vs,bC,hd,a'⟩:=x
 by_cases bB:a=e
 ·subst bB;exact⟨_,vs,Heap.get?_update_self _ bC (Obj.isFreed_of_fields (vs:=vs) hd),hd,a'⟩
 ·exact⟨o,vs,(Heap.get?_update_other _ _ bB).trans bC,hd,a'⟩
theorem ZR.field{h:Heap}{a:Addr}{i:Nat}{v:Value}(hi:i≠2)(x:ZR h e):ZR (h.update a (Obj.mapFields (·.setIfInBounds i v))) e:=by
 obtain⟨o,vs,bC,hd,a'⟩:=x
 by_cases bB:a=e
 ·subst bB;exact⟨_,_,Heap.get?_update_self _ bC (Obj.isFreed_of_fields (Obj.data_mapFields hd _)),Obj.data_mapFields hd _,by rw[Array.getElem?_setIfInBounds_ne hi];exact a'⟩
 ·exact⟨o,vs,(Heap.get?_update_other _ _ bB).trans bC,hd,a'⟩
theorem ZR.push{h:Heap}{cx:Obj}(x:ZR h e):ZR (h.push cx) e:=
 let⟨o,vs,bC,r⟩:=x;⟨o,vs,Heap.get?_push_of_some _ bC,r⟩
theorem ZR.keeps{h h':Heap}(x:ZR h e)(k:∀o,h.get? e=some o→h'.get? e=some o):ZR h' e:=let⟨o,vs,bC,r⟩:=x;⟨o,vs,k _ bC,r⟩
theorem ZdX{a:Addr}:Kp (λh=>ZR h e) (load a):=λ_=>trivial
theorem Zgo{v:Value}:Kp (λh=>ZR h e) (fieldsOf v):=by
 unfold fieldsOf;cases v<;>first|exact Kp.uns _|skip
 refine Kp.bd ZdX λo=>?_
 split<;>trivial
theorem ZaI{v:Value}{i:Nat}:Kp (λh=>ZR h e) (field v i):=by
 unfold field;refine Kp.bd Zgo λo=>?_
 split<;>trivial
theorem ZdC{a:Addr}{i:Nat}{x:Value}(hi:i≠2):Kp (λh=>ZR h e) (updateField a i x):=by
 unfold updateField;refine Kp.bd ZdX λo=>?_
 split
 ·split
  ·exact⟨λ_ h=>h.field hi,trivial⟩
  ·trivial
 ·trivial
theorem tZ{v:Value}{i:Nat}{x:Value}(hi:i≠2):Kp (λh=>ZR h e) (setField v i x):=by
 unfold setField;cases v<;>first|exact Kp.uns _|exact ZdC hi
theorem ZiG{env:Env}{outer:List Env}:Kp (λh=>ZR h e) (behindIsImport env outer):=by
 unfold behindIsImport;refine Kp.ite (Kp.pure _) (Kp.ite (Kp.pure _) (Kp.bd ZaI λ_=>Kp.pure _))
theorem D7:Kp (λh=>ZR h e) underTheClaimsCaller:=by
 unfold underTheClaimsCaller;exact Kp.bd (λ_=>trivial) λ_=>Kp.pure _
theorem Zl9{env:Env}{xV:Bool}{outer:List Env}:Kp (λh=>ZR h e) (keptBack env xV outer):=by
 cases outer with
 |nil=>exact Kp.ite (Kp.pure _) (Kp.bd D7 λ_=>Kp.pure _)
 |cons c r=>exact Kp.pure _
theorem xW:∀l:List Env,Kp (λh=>ZR h e) (readyFrames l)
 | []=>Kp.pure _
 |env::outer=>by
  unfold readyFrames;cases env.frame with
  |none=>exact Kp.uns _
  |some f=>
   refine Kp.bd ZdX λo=>?_;refine Kp.ite (Kp.pure _) (Kp.bd ZiG λxV=>Kp.bd Zl9 λnz=>Kp.bd ⟨λ_ h=>h.slots,trivial⟩ λ_=>xW outer)
theorem ZhP{env:Env}:Kp (λh=>ZR h e) (PySem.frameOf env):=by
 unfold PySem.frameOf;refine Kp.bd (Kp.bd (λ_=>trivial) λ_=>Kp.pure _) λl=>Kp.bd ?_ λo=>?_
 ·generalize (l.dropWhile λx=>x.frame != env.frame)=k;cases k with
  |nil=>exact Kp.pure _
  |cons a r=>exact Kp.bd (xW _) λ_=>Kp.pure _
 ·cases o with
  |none=>exact Kp.uns _
  |some x=>exact Kp.pure _
theorem Ut{v:Value}{f:Option Addr}:Kp (λh=>ZR h e) (setFlight v f):=by
 unfold setFlight;refine Kp.bd ZaI λt=>?_;exact Kp.ite (tZ (by decide)) (Kp.pure _)
theorem ZjM{f:Addr}{b:Bool}:Kp (λh=>ZR h e) (entryPlaceOf f b):=by
 unfold entryPlaceOf;refine Kp.bd (λ_=>trivial) λOS=>?_
 split<;>exact Kp.pure _
theorem ZiV{ty:String}{vs:List Value}:Kp (λh=>ZR h e) (newFields ty vs):=by
 unfold newFields newObj;have q9:Kp (λh=>ZR h e) (newObjAsIs (.type ty) (.fields vs.toArray)):=⟨λ_ h=>h.push,λ_=>trivial⟩;dsimp only
 split
 ·exact Kp.uns _
 ·exact q9
theorem Zhn{v:Value}{env:Env}:Kp (λh=>ZR h e) (noteFrame v env):=by
 unfold noteFrame;cases env.frame with
 |none=>exact Kp.uns _
 |some f=>
  have q9:∀hd:Value,Kp (λh=>ZR h e) (do let x←PySem.frameOf env;let pl←entryPlaceOf f (hd != Value.none);let b←EntryCells.newEntry hd x .none (rawInt f) .none pl;setField v 1 b):=λhd=>
   Kp.bd ZhP λx=>Kp.bd ZjM λpl=>Kp.bd ZiV λb=>tZ (by decide)
  refine Kp.bd ZaI λhd=>?_;refine Kp.ite ?_ (q9 hd);refine Kp.bd ZaI λt=>Kp.ite (Kp.pure _) (Kp.bd (tZ (by decide)) λ_=>q9 hd)
theorem ZcQ{v:Value}{env:Env}:Kp (λh=>ZR h e) (leaving env v):=Kp.bd Zhn λ_=>Ut
section
variable {M:Model}{A:Around}{E:Value→Shared→Prop}{s:Shared}{base:Heap}{l outer:List Env}{env:Env}{L:Addr}{cls a0:Value}{Q:Unit→Shared→Prop}
theorem Kp.to{P R:Heap→Prop}{t:Sem Unit}(k:Kp P t)(bz:P s.heap)(h:wpAny M A t (λ_ s'=>∃h',s'={s with heap:=h'}∧R h') (λ_ _=>False) s)(e9:∀h',R h'→P h'→Q () {s with heap:=h'}):wpAny M A t Q E s:=
 wpAny_mono (k.any bz h) (λ_ _ ⟨⟨h',e,r⟩,p⟩=>by subst e;exact e9 h' r p) λ_ _ z=>z.1.elim
theorem Zh1(hD:ZR s.heap e)(e0:A.frames=some (env::outer))(bE:env.frame=some L)(kj:Heap.FlyingW base (env::outer) e cls a0 s.heap)
  (e9:∀h',Heap.FlyingW base outer e cls a0 h'→s.heap.UpToSlots h'→ZR h' e→Q () {s with heap:=h'}):wpAny M A (leaving env (.ref e)) Q E s:=
 ZcQ.to (R:=λh'=>Heap.FlyingW base outer e cls a0 h'∧s.heap.UpToSlots h') hD (wpAny_leaves_onW e0 bE kj λh' a b=>⟨h',rfl,a,b⟩) λh' r p=>e9 h' r.1 r.2 p
theorem Zfv{h:Heap}{args:List Value}(e0:A.frames=some (env::outer))(bE:env.frame=some L)(D8:base.StaysIn h)(ag:h.FunFrames base (env::outer))(a_:Heap.MadeExcOf h s.heap e cls args)
  (e9:∀h' t,Heap.FlyingW base outer e cls (.ref t) h'→h'.TupAt t args→base.get? t=none→s.heap.UpToSlots h'→ZR h' e→Q () {s with heap:=h'}):wpAny M A (leaving env (.ref e)) Q E s:=by
 have hD:ZR s.heap e:=by
  obtain⟨t,bH,_⟩:=a_.there;exact⟨_,_,bH,rfl,rfl⟩
 exact ZcQ.to (R:=λh'=>∃t,Heap.FlyingW base outer e cls (.ref t) h'∧h'.TupAt t args∧base.get? t=none∧s.heap.UpToSlots h') hD (wpAny_leaves_madeW e0 bE D8 ag a_ λh' t a b c d=>⟨h',rfl,t,a,b,c,d⟩) λh' ⟨t,a,b,c,d⟩ p=>e9 h' t a b c d p
theorem Ziz(hD:ZR s.heap e)(e0:A.frames=some (env::outer))(bE:env.frame=some L)(kj:Heap.FlyingW base (env::outer) e cls a0 s.heap)
  (e9:∀h',Heap.HeldW base (env::outer) e cls a0 L h'→s.heap.UpToSlots h'→ZR h' e→Q () {s with heap:=h'}):wpAny M A (noteFrame (.ref e) env) Q E s:=
 Zhn.to (R:=λh'=>Heap.HeldW base (env::outer) e cls a0 L h'∧s.heap.UpToSlots h') hD (wpAny_looks_onW e0 bE kj λh' a b=>⟨h',rfl,a,b⟩) λh' r p=>e9 h' r.1 r.2 p
theorem ZmV(hD:ZR s.heap e)(bR:Heap.HeldW base l e cls a0 L s.heap)(e9:∀h',Heap.FlyingW base l e cls a0 h'→s.heap.UpToSlots h'→ZR h' e→Q () {s with heap:=h'}):wpAny M A (setFlight (.ref e) none) Q E s:=
 Ut.to (R:=λh'=>Heap.FlyingW base l e cls a0 h'∧s.heap.UpToSlots h') hD (wpAny_landsW bR λh' a b=>⟨h',rfl,a,b⟩) λh' r p=>e9 h' r.1 r.2 p
theorem Zfd(hD:ZR s.heap e)(bR:Heap.FlyingW base l e cls a0 s.heap)(e9:∀h',Heap.FlyingW base l e cls a0 h'→s.heap.UpToSlots h'→ZR h' e→Q () {s with heap:=h'}):wpAny M A (setFlight (.ref e) none) Q E s:=
 Ut.to (R:=λh'=>Heap.FlyingW base l e cls a0 h'∧s.heap.UpToSlots h') hD (lands_againW bR λh' a b=>⟨h',rfl,a,b⟩) λh' r p=>e9 h' r.1 r.2 p
end
end
noncomputable def CXX (P:Program) (w:World):CXT:=λouter H s E e s'=>
 ∃(cm:Addr)(cls a0:Value)(ae:Hp)(B:Heap),e= .ref cm∧s'.os=s.os∧AllBare s'.gens∧Un (frs outer) [] H ae s.heap s'.heap∧HOk P w ae s'.heap∧
  Heap.FlyingW B outer cm cls a0 s'.heap∧(∀b o,s'.heap.get? b=some o→(ae b≠none∨((∃ci,s.heap.get? b=some ci)∧b∉frs outer))→B.get? b=some o)∧ZR s'.heap cm∧E cls none ae
theorem HOk.stays{P:Program}{w:World}{H:Hp}{h h' B:Heap}(ok:HOk P w H h)(e':∀b o,h.get? b=some o→H b≠none→B.get? b=some o)(st:B.StaysIn h'):HOk P w H h':=λa o e=>
 (ok a o e).stay (λb u ao q=>st b u (e' b u q (by
  rcases ao with rfl|ao
  ·rw[e];exact λz=>nomatch z
  ·rw[ao];exact λz=>nomatch z))) (λ_ q=>q) λ_ _ q=>q
theorem ZW.got{P:Program}{w:World}{H:Hp}{h:Heap}{a:Addr}{o:HO}(x:ZW P w H h a o):∃cx,h.get? a=some cx:=by
 cases o with
 |lst xs=>obtain⟨_,_,_,_,e⟩:=x;exact⟨_,e⟩
 |tup xs=>obtain⟨_,_,_,p⟩:=x;obtain⟨cx,e,_⟩:=p;exact⟨cx,e⟩
 |dK kvs=>obtain⟨_,_,_,_,o,_,_,e,_⟩:=x;exact⟨o,e⟩
 |dT kvs=>obtain⟨_,_,_,_,o,_,_,e,_⟩:=x;exact⟨o,e⟩
 |set S n=>obtain⟨o,_,_,_,e,_⟩:=x;exact⟨o,e⟩
 |ins C bu fs=>obtain⟨_,_,_,e,_⟩:=x;exact⟨_,e⟩
 |own y=>exact x
 |xd fs=>obtain⟨_,⟨o,_,_,e,_⟩,_⟩:=x;exact⟨o,e⟩
 |rng lo hi=>obtain⟨_,_,_,e⟩:=x;exact⟨_,e⟩
 |frz cx u=>obtain⟨e,_⟩:=x;exact⟨cx,e⟩
 |tbl b1=>exact⟨_,(show h.get? a=some _ from x)⟩
 |met f y=>exact⟨_,(show h.get? a=some _ from x)⟩
 |ext lX=>obtain⟨_,e,_⟩:=x;exact e
theorem Un.fly{fs:List Addr}{H ae:Hp}{h ap a' B:Heap}(u:Un fs [] H ae h ap)(e':∀b o,ap.get? b=some o→(ae b≠none∨((∃ci,h.get? b=some ci)∧b∉fs))→B.get? b=some o)
  (st:B.StaysIn a') (sl:ap.UpToSlots a') (bE:∀b∈fs,∀o,h.get? b=some o→∀vs,o.data≠ .fields vs) (oz:∀b∈fs,H b=none):Un fs [] H ae h a' where
 keep:=λb o e n ao a_=>st b o (e' b o (u.keep b o e n ao a_) (.inr ⟨⟨_,e⟩,ao⟩))
 slot:=λb o e n ao a_=>by
  obtain⟨bq,bD⟩:=u.slot b o e n ao a_;obtain⟨bJ,bI⟩:=sl b _ bD (bE b ao o e);exact⟨bJ,bI⟩
 free:=u.free
 there:=λb o e a_=>by
  by_cases ao:b∈fs
  ·obtain⟨bq,bD⟩:=u.slot b o e (oz b ao) ao a_;obtain⟨bJ,bI⟩:=sl b _ bD (bE b ao o e);exact⟨_,bI⟩
  ·obtain⟨ci,bD⟩:=u.there b o e a_;exact⟨ci,st b ci (e' b ci bD (.inr ⟨⟨_,e⟩,ao⟩))⟩
 tups:=u.tups
 frzs:=u.frzs
 tbls:=u.tbls
section
variable {P:Program}{w:World}{K:Frag}{mg:Str→Option Value}{base:Heap}{N:List Str}{qual:Str}{scope:Scope}{f:Addr}{c0:Value}{A:Around}{outer:List Env}{s₀:Shared}{H₀:Hp}{E:XK}
noncomputable abbrev cxX (P:Program) (w:World) (K:Frag) (mg:Str→Option Value) (base:Heap) (N:List Str) (qual:Str) (scope:Scope) (f:Addr) (c0:Value) (A:Around) (outer:List Env) (s₀:Shared) (H₀:Hp) (E:XK):Cx:=
 ZL (CXX P w) P w K mg base N qual scope f c0 A outer s₀ H₀ E
theorem ZkA{ah:List (Addr×Obj)}{af:St}{H ae:Hp}{s s':Shared}{cm:Addr}{cls a0:Value}{B:Heap}(I:Inv (cxX P w K mg base N qual scope f c0 A outer s₀ H₀ E) ah af H s)
  (os:s'.os=s.os) (bare:AllBare s'.gens) (u:Un (frs (cxX P w K mg base N qual scope f c0 A outer s₀ H₀ E).stack) [] H ae s.heap s'.heap) (ok:HOk P w ae s'.heap)
  (eG:Heap.FlyingW B (cxX P w K mg base N qual scope f c0 A outer s₀ H₀ E).stack cm cls a0 s'.heap)
  (e':∀b o,s'.heap.get? b=some o→(ae b≠none∨((∃ci,s.heap.get? b=some ci)∧b∉frs (cxX P w K mg base N qual scope f c0 A outer s₀ H₀ E).stack))→B.get? b=some o) (hD:ZR s'.heap cm) (q:E cls none ae):
  (cxX P w K mg base N qual scope f c0 A outer s₀ H₀ E).xe (.ref cm) s':=by
 have e0:(A.deeper (envOfC qual scope s₀.heap.objs.size f c0)).frames=some (envOfC qual scope s₀.heap.objs.size f c0::outer):=I.ok.frames;refine Zh1 hD (L:=s₀.heap.objs.size) e0 rfl eG λa' q_ sl D9=>?_;have below:∀b o,s₀.heap.get? b=some o→b∉frs outer→(∃ci,s.heap.get? b=some ci)∧b∉frs (cxX P w K mg base N qual scope f c0 A outer s₀ H₀ E).stack:=λb o e bG=>
  ⟨I.base.there b o e (by intro z;exact absurd (show b∈([]:List Addr) from z) (by simp)),λz=>by
   rcases QW.mp (I.stkSub b z) with q|q
   ·have ao:=Heap.lt_size e;have g7:b=s₀.heap.objs.size:=q;rw[g7] at ao;exact RU _ ao
   ·exact bG q⟩
 have xX:Un (frs outer) [] H₀ ae s₀.heap s'.heap:=by
  have eA:Un (frs outer) [] H₀ H s₀.heap s.heap:=I.base;refine⟨λb o e n ao a_=>?_,λb o e n ao a_=>?_,λb o e n a_=>?_,λb o e a_=>?_,λb xs e=>u.tups b xs (eA.tups b xs e),λb o v e=>u.frzs b o v (eA.frzs b o v e),λb b1 e=>?_⟩
  ·exact u.keep b o (eA.keep b o e n ao a_) (eA.free b o e n a_) (below b o e ao).2 a_
  ·obtain⟨bq,bD⟩:=eA.slot b o e n ao a_;obtain⟨bJ,bI⟩:=u.any bD (eA.free b o e n a_) a_;exact⟨bJ,bI⟩
  ·obtain⟨ci,bD⟩:=eA.there b o e a_;exact u.free b ci bD (eA.free b o e n a_) a_
  ·obtain⟨ci,bD⟩:=eA.there b o e a_;exact u.there b ci bD a_
  ·obtain⟨fe,bD⟩:=eA.tbls b b1 e;obtain⟨fY,bI⟩:=u.tbls b _ bD;exact⟨fe++fY,by rw[bI,Array.append_assoc]⟩
 have pm:∀b o,s'.heap.get? b=some o→(ae b≠none∨((∃ci,s₀.heap.get? b=some ci)∧b∉frs outer))→B.get? b=some o:=λb o e h=>e' b o e (h.imp id λ⟨⟨ci,z⟩,bG⟩=>below b ci z bG);have D_:HOk P w ae a':=ok.stays (λb o e n=>e' b o e (.inl n)) q_.1;refine⟨cm,cls,a0,ae,B,rfl,os.trans I.os,bare,xX.fly pm q_.1 sl (λb ao o e=>?_) (I.ok.frf),D_,q_,λb o e h=>?_,D9,q⟩
 ·obtain⟨_,ci,b6,d⟩:=I.ok.funs.mem ao;have pp:s₀.heap.get? b=some ci:=b6;rw[e] at pp;cases pp;exact d
 ·have ex:∃ci,s'.heap.get? b=some ci:=by
   rcases h with h|⟨h,bG⟩
   ·cases cO:ae b with
    |none=>exact absurd cO h
    |some v=>exact(ok b v cO).got
   ·obtain⟨t0,oP⟩:=h;exact xX.there b t0 oP (by simp)
  obtain⟨ci,b6⟩:=ex;have bI:=pm b ci b6 h;have c6:=q_.1 b ci bI;have gV:a'.get? b=some o:=e;rw[c6] at gV;cases gV;exact bI
theorem cF:We (CXX P w) (cxX P w K mg base N qual scope f c0 A outer s₀ H₀ E) E:=by
 intro ah af H s e s' I h;obtain⟨cm,cls,a0,ae,B,rfl,os,bare,u,ok,eG,e',hD,q⟩:=h;exact ZkA I os bare u ok eG e' hD q
noncomputable def t1 (cls:Value) (E:XK) (t:TA):TS:=λ_ af H=>t af H λvs ax=>vs.length≤sizeLine∧E cls none ax
theorem Zjk{ah:List (Addr×Obj)}{af:St}{H:Hp}{s:Shared}{h':Heap}{cm:Addr}{cls:Value}{us:List Value}(I:Inv (cxX P w K mg base N qual scope f c0 A outer s₀ H₀ E) ah af H s)
  (a_:Heap.MadeExcOf s.heap h' cm cls us) (q:E cls none H):(cxX P w K mg base N qual scope f c0 A outer s₀ H₀ E).xe (.ref cm) {s with heap:=h'}:=by
 have e0:(A.deeper (envOfC qual scope s₀.heap.objs.size f c0)).frames=some (envOfC qual scope s₀.heap.objs.size f c0::outer):=I.ok.frames;have ez:∀env∈(cxX P w K mg base N qual scope f c0 A outer s₀ H₀ E).stack,∀b,env.frame=some b→b∈frs (cxX P w K mg base N qual scope f c0 A outer s₀ H₀ E).stack:=λenv bH b ao=>List.mem_filterMap.mpr ⟨env,bH,ao⟩;have inB:∀b o,s.heap.get? b=some o→(H b≠none∨((∃ci,s₀.heap.get? b=some ci)∧b∉frs outer))→(hideAll s.heap (frs (cxX P w K mg base N qual scope f c0 A outer s₀ H₀ E).stack)).get? b=some o:=λb o e h=>
  hideAll_get _ e λz=>by
   rcases h with h|⟨⟨ci,b6⟩,bG⟩
   ·exact h (I.stkFree b z)
   ·rcases QW.mp (I.stkSub b z) with q|q
    ·have ao:=Heap.lt_size b6;have g7:b=s₀.heap.objs.size:=q;rw[g7] at ao;exact RU _ ao
    ·exact bG q
 refine Zfv (base:=hideAll s.heap (frs (cxX P w K mg base N qual scope f c0 A outer s₀ H₀ E).stack)) (h:=s.heap) (L:=s₀.heap.objs.size) e0 rfl (λb o e=>of_hideAll _ e) (PySem.W.funFrames_hide I.stack ez) a_ λbU t eG _ _ sl D'=>?_;have ox:s.heap.UpToSlots bU:=(Heap.UpToSlots.of_keeps a_.keeps).trans sl;have eA:Un (frs outer) [] H₀ H s₀.heap s.heap:=I.base;have Ea:HOk P w H bU:=I.hok.stays (λb o e n=>inB b o e (.inl n)) eG.1;refine⟨cm,cls,_,H,_,rfl,I.os,I.bare,eA.fly inB eG.1 ox (λb ao o e=>?_) I.ok.frf,Ea,eG,λb o e h=>?_,D',q⟩
 ·obtain⟨_,ci,b6,d⟩:=I.ok.funs.mem ao;have pp:s₀.heap.get? b=some ci:=b6;rw[e] at pp;cases pp;exact d
 ·have ex:∃ci,s.heap.get? b=some ci:=by
   rcases h with h|⟨⟨t0,oP⟩,_⟩
   ·cases cO:H b with
    |none=>exact absurd cO h
    |some v=>exact(I.hok b v cO).got
   ·exact eA.there b t0 oP (by simp)
  obtain⟨ci,b6⟩:=ex;have bI:=inB b ci b6 h;have c6:=eG.1 b ci bI;have gV:bU.get? b=some o:=e;rw[c6] at gV;cases gV;exact bI
theorem ZkG{x:Str}{f3 dm pos:Pos}{kk:Expr}{rest:List Expr}{t:TA}{C:Addr}{B lg t2:String}{bm:List Value}(O:OwnCls x C bm lg mg base)(FB:ExcBaseFacts B lg t2 bm)
  (bF:Gl (cxX P w K mg base N qual scope f c0 A outer s₀ H₀ E) x) (bB:PA (cxX P w K mg base N qual scope f c0 A outer s₀ H₀ E) (kk::rest) t)
  (bH:starEach (kk::rest) (cxX P w K mg base N qual scope f c0 A outer s₀ H₀ E).env=(false,eval kk (cxX P w K mg base N qual scope f c0 A outer s₀ H₀ E).env)::starEach rest (cxX P w K mg base N qual scope f c0 A outer s₀ H₀ E).env:=by rfl)
  (ma:(backTo dm (starEach rest (cxX P w K mg base N qual scope f c0 A outer s₀ H₀ E).env)).any (·.1)=false:=by rfl) (eX:(x==("__debug__" :Str))=false:=by decide):
  PS (cxX P w K mg base N qual scope f c0 A outer s₀ H₀ E) (.Raise (some (.Call (.Name x f3) (kk::rest) [] dm)) none pos) (t1 (.ref C) E t):=by
 intro ah s af H D I h;obtain⟨dA,Eb,nm,q,bs,hdct,sn,sub,ab,col,dd,k0,k1,k2,k3,k5,mN,lh,dx,q',T⟩:=O.obj;refine wpAny_Raise_call_subT (C:=C) (nm:=nm) (q:=q) (N:=Eb) (bs:=bs) (bm:=dA) (hdct:=hdct) (sn:=sn) (sub:=sub) (ab:=ab) (col:=col) (dd:=dd) (k0:=k0) (k1:=k1) (k2:=k2) (k3:=k3) (k5:=k5)
  FB (mN:=mN) (T.hasType FB.hasBase) (I.ok.hd rfl) (by rw[bH];show(false||(backTo dm (starEach rest (cxX P w K mg base N qual scope f c0 A outer s₀ H₀ E).env)).any (·.1))=false;rw[ma];rfl) q' (lZ I bF O.bound ⟨rfl,?_⟩ eX)
 have h':=bB dm ah s af H _ I h;rw[bH] at h'⊢;refine Calls.evalArgs_plain (thn h' λus bJ ⟨vs,bo,cB,r,hz,cO⟩=>⟨rfl,by rw[←r.length];exact hz,cB.bk _ _ lh,dx.keeps cB.bk,T.keeps cB.bk,λbU e bv=>Zjk cB bv cO⟩)
end
mutual
inductive eH(K:Frag)(H:Hp):V→PyData→Prop
 |non:eH K H .non .none
 |bl (b:Bool):eH K H (.bl b) (.bool b)
 |int (i:Int):eH K H (.int i) (.int i)
 |str (x:Str):eH K H (.str x) (.str x)
 |lst {a:Addr} {xs:List V} {cd:List PyData} (h:SqL K H a xs) (r:DRels K H xs cd):eH K H (.ref a) (.list cd)
 |tup {a:Addr} {xs:List V} {cd:List PyData} (h:SqT K H a xs) (r:DRels K H xs cd):eH K H (.ref a) (.tuple cd)
inductive DRels(K:Frag)(H:Hp):List V→List PyData→Prop
 |nil:DRels K H [] []
 |cons {x:V} {d:PyData} {xs:List V} {cd:List PyData} (h:eH K H x d) (r:DRels K H xs cd):DRels K H (x::xs) (d::cd)
end
theorem DRels.ints{K:Frag}{H:Hp}:∀ns:List Int,DRels K H (ns.map V.int) (ns.map PyData.int)
 | []=> .nil
 |n::ns=> .cons (.int n) (DRels.ints ns)
section
variable {X:Cx}{ah:List (Addr×Obj)}{af:St}{H:Hp}{s:Shared}
mutual
theorem eH.reads(I:Inv X ah af H s):∀{x:V}{d:PyData}{v:Value},eH X.K H x d→cA x v→∃as,Reads s.heap v d as
 |_,_,_,.non,r=>by cases (show _=Value.none from r);exact⟨_,.none⟩
 |_,_,_,.bl b,r=>by cases (show _=Value.bool b from r);exact⟨_,.bool b⟩
 |_,_,_,.int i,r=>by obtain⟨t,e⟩:=r;cases e;exact⟨_,.int i t⟩
 |_,_,_,.str x,r=>by obtain⟨t,e⟩:=r;cases e;exact⟨_,.str x t⟩
 |_,_,_,.lst (a:=a) h rs,r=>by
  cases (show _=Value.ref a from r);obtain⟨its,cZ,p,hz⟩:=I.list h;obtain⟨o,bC,br,n,hd⟩:=p.isList;obtain⟨as,q⟩:=DRels.reads I rs cZ;exact⟨_,.list bC br hd (by simpa using q)⟩
 |_,_,_,.tup (a:=a) h rs,r=>by
  cases (show _=Value.ref a from r);obtain⟨its,cZ,p,hz⟩:=I.tuple h;obtain⟨o,bC,br,n,hd⟩:=(show s.heap.IsTuple a its.toArray from p);obtain⟨as,q⟩:=DRels.reads I rs cZ;exact⟨_,.tuple bC br hd (by simpa using q)⟩
theorem DRels.reads(I:Inv X ah af H s):∀{xs:List V}{cd:List PyData}{vs:List Value},DRels X.K H xs cd→cH xs vs→∃as,ReadsAll s.heap vs cd as
 |_,_,_,.nil,.nil=>⟨_,.nil⟩
 |_,_,_,.cons h r,.cons q t=>by
  obtain⟨as,e⟩:=eH.reads I h q;obtain⟨bs,b6⟩:=DRels.reads I r t;exact⟨_,.cons e b6⟩
end
end
noncomputable def li (K:Frag) (neg:Bool):R2:=λx y H Q=>∃bu gH,eH K H x bu∧eH K H y gH∧bu.canLay0=true∧gH.canLay0=true∧bu.depth≤60∧Q (.bl (if neg then !PyData.eqv bu gH else PyData.eqv bu gH)) H
section
variable {X:Cx}
theorem Ec(hu:X.A.units+64<cLine):OpR X (compareOp .Eq) (li X.K false):=by
 intro ah s af H x y v u Q I bX b' h;obtain⟨bu,gH,ap,a',hb,fQ,dp,q⟩:=h;obtain⟨as,cj⟩:=ap.reads I bX;obtain⟨bs,cM⟩:=a'.reads I b';exact SeqAt.compareEq_reads cj cM hb fQ (by have:min bu.depth gH.depth≤bu.depth:=Nat.min_le_left _ _;omega) ⟨.bl _,H,I,rfl,q⟩
theorem Ed(hu:X.A.units+64<cLine):OpR X (compareOp .NotEq) (li X.K true):=by
 intro ah s af H x y v u Q I bX b' h;obtain⟨bu,gH,ap,a',hb,fQ,dp,q⟩:=h;obtain⟨as,cj⟩:=ap.reads I bX;obtain⟨bs,cM⟩:=a'.reads I b';exact SeqAt.compareNe_reads cj cM hb fQ (by have:min bu.depth gH.depth≤bu.depth:=Nat.min_le_left _ _;omega) ⟨.bl _,H,I,rfl,q⟩
end
section
variable {prog:Program}{w:World}{A:Around}{E:Value→Shared→Prop}
variable {s:Shared}
end
section
variable {X:Cx}{pos:Pos}
end
section
variable {P:Program}{w:World}{K:Frag}{mg:Str→Option Value}{base:Heap}
theorem Fun.okX{x qual:Str}{st:Stmt}{f:Addr}{fd:FuncData}{N b1:List Str}{k:Nat}{sp:Sp}(F:Fun K x qual st f fd)(S:Zr N b1 (cr st))(len:∀vs H Q E,sp vs H Q E→vs.length=b1.length)
  (o1:∀(cv:Value)(A:Around)(outer:List Env)(s:Shared)(H:Hp)(vs:List V)(Q:VK)(E:XK),ef k (A.deeper (envOfC qual (cr st) s.heap.objs.size f cv))→sp vs H Q E→
   ∃t,PSs (cxX P w K mg base N qual (cr st) f cv A outer s H E) (io st) t∧t {nx:=λ_ ae=>Q .non ae,rt:=Q} (start N vs) H):YN P w K mg base (CXX P w) (k+1) f fd b1 sp:=by
 obtain⟨eO,dO,kV,eK,d3,an,cv,ct,gi,rfl,lk,ic⟩:=F.ex;exact Zlq lk ic S len λA outer s H vs Q E bn iN=>o1 cv A outer s H vs Q E bn iN
theorem Vv{X:Cx}:We (CXX X.prog X.w) X E0:=by
 intro ah af H s e s' I h;obtain⟨cm,cls,a0,ae,B,_,_,_,_,_,_,_,_,z⟩:=h;exact z.elim
end
section
variable {X:Cx}
noncomputable def rOr (r cY:R2):R2:=λx y H Q=>r x y H Q∨cY x y H Q
noncomputable def Zc2:R2:=λx y H Q=>∃i j,x= .str i∧y= .str j∧i.length+j.length≤sizeLine∧Q (.str (i++j)) H
noncomputable def ra:R2:=rI0 λi j=> .int (i+j)
noncomputable def ZhV:R2:=rI (λi j=>IntMulOk i j) λi j=> .int (i*j)
theorem Ee:OpR X (binaryOp .Add) (rOr ra (rOr Zc2 (rOr rCat (o4 X.K)))):=Dc.or (Dh.or (DK.or Dz))
theorem gI:OpR X (binaryOp .Mult) (rOr ZhV rRep):=D4.or DL
theorem ZmI(hu:X.A.units+64<cLine):OpR X (compareOp .Eq) (rOr rEq (li X.K false)):=Dd.or (Ec hu)
theorem Zmn(hu:X.A.units+64<cLine):OpR X (compareOp .NotEq) (rOr rNe (li X.K true)):=De.or (Ed hu)
end
namespace Rd
section
variable {af:St}{H:Hp}{Q:VK}{D:W6}{K:Frag}{cY:R2}
theorem Zof{i j:Int}(q:Q (.int (i+j)) H):rOr ra cY (.int i) (.int j) H Q:= .inl ⟨i,j,rfl,rfl,q⟩
theorem Zmm{cj:R2}{i j:Str}(ag:i.length+j.length≤sizeLine)(q:Q (.str (i++j)) H):rOr cj (rOr Zc2 cY) (.str i) (.str j) H Q:= .inr (.inl ⟨i,j,rfl,rfl,ag,q⟩)
theorem ZoD{cj cM:R2}{a b:Addr}{xs ys:List V}(bB:H a=some (.lst xs))(ao:H b=some (.lst ys))(ag:xs.length+ys.length≤sizeLine)(q:∀p,H p=none→Q (.ref p) (upd H p (.lst (xs++ys)))):
  rOr cj (rOr cM (rOr rCat cY)) (.ref a) (.ref b) H Q:= .inr (.inr (.inl ⟨a,b,xs,ys,rfl,rfl,bB,ao,ag,q⟩))
theorem mulI{i j:Int}(c:IntMulOk i j)(q:Q (.int (i*j)) H):rOr ZhV cY (.int i) (.int j) H Q:= .inl ⟨i,j,rfl,rfl,c,q⟩
theorem Zoy{i j:Int}(q:Q (.bl (decide (i=j))) H):rOr rEq cY (.int i) (.int j) H Q:= .inl (eqI q)
theorem Zob{i j:Int}(q:Q (.bl (!decide (i=j))) H):rOr rNe cY (.int i) (.int j) H Q:= .inl (neI q)
theorem Zhy{x y:V}{bu gH:PyData}(a_:eH K H x bu)(bP:eH K H y gH)(pq:bu.canLay0=true)(t3:gH.canLay0=true)(dp:bu.depth≤60)(q:Q (.bl (PyData.eqv bu gH)) H):rOr rEq (li K false) x y H Q:=
 .inr ⟨bu,gH,a_,bP,pq,t3,dp,q⟩
theorem Zn8{x y:V}{bu gH:PyData}(a_:eH K H x bu)(bP:eH K H y gH)(pq:bu.canLay0=true)(t3:gH.canLay0=true)(dp:bu.depth≤60)(q:Q (.bl (!PyData.eqv bu gH)) H):rOr rNe (li K true) x y H Q:=
 .inr ⟨bu,gH,a_,bP,pq,t3,dp,q⟩
theorem Zmy{p:Addr}{xs:List V}{i:Int}{v:V}(h:SqL K H p xs)(e:atI xs i=some v)(q:Q v H):rIx K (.ref p) (.int i) H Q:= .inl (ixl h e q)
theorem Zoa{p:Addr}{xs:List V}{i:Int}{v:V}(h:SqT K H p xs)(e:atI xs i=some v)(q:Q v H):rIx K (.ref p) (.int i) H Q:= .inr (.inl (ixt h e q))
theorem ZoC{C:Nat→Prop}{p:Addr}{xs:List V}(h:SqL K H p xs)(q:C xs.length):∃x n,[V.ref p]=[x]∧Zcj K x H n∧C n:=⟨_,_,rfl,.inl ⟨xs,h,rfl⟩,q⟩
theorem lenS{C:Nat→Prop}{y:Str}(h:y.length≤sizeLine)(q:C y.length):∃x n,[V.str y]=[x]∧Zcj K x H n∧C n:=⟨_,_,rfl,⟨h,rfl⟩,q⟩
theorem ZnV{i:Nat}{v:V}{bQ:St}{Q:St→Hp→Prop}(e:af.set i (some v)=bQ)(h:Q bQ H):Vf i v af H Q:=by
 subst e;exact h
theorem ifP{c A B:Prop}[Decidable c](h:c)(a:A):if decide c=true then A else B:=by rw[decide_eq_true h];exact Zir a
theorem ifN{c A B:Prop}[Decidable c](h:¬c)(b:B):if decide c=true then A else B:=by rw[decide_eq_false h];exact ZfD b
theorem Zol{c A B:Prop}[Decidable c](h:c)(b:B):if(!decide c)=true then A else B:=by rw[decide_eq_true h];exact ZfD b
theorem ZoF{b:Bool}{C:Bool→Prop}(q:C b):∃k,oV K (.bl b) H k∧C k:=⟨b,rfl,q⟩
end
end Rd
namespace Rd
section
variable {H:Hp}{C:Bool→Prop}{K:Frag}
theorem Zh3{i:Int}(q:C true):∃x e_ t b,[V.int i,.ty "int"]=[x,.ty e_]∧Wq K H x t∧PySem.W.kitOne K t (.type e_)=some b∧C b:=⟨_,_,_,true,rfl,.int i,rfl,q⟩
theorem ZgS{i:Int}(q:C false):∃x e_ t b,[V.int i,.ty "bool"]=[x,.ty e_]∧Wq K H x t∧PySem.W.kitOne K t (.type e_)=some b∧C b:=⟨_,_,_,false,rfl,.int i,rfl,q⟩
theorem Zhq{i:Str}(q:C true):∃x e_ t b,[V.str i,.ty "str"]=[x,.ty e_]∧Wq K H x t∧PySem.W.kitOne K t (.type e_)=some b∧C b:=⟨_,_,_,true,rfl,.str i,rfl,q⟩
theorem ZgA{p:Addr}{xs:List V}(h:H p=some (.lst xs))(q:C true):∃x e_ t b,[V.ref p,.ty "list"]=[x,.ty e_]∧Wq K H x t∧PySem.W.kitOne K t (.type e_)=some b∧C b:=⟨_,_,_,true,rfl,.lst h,rfl,q⟩
end
end Rd
noncomputable def Zhd (pr b4:Scope) (N zs:List Str) (ix:List Nat):Bool:=
 decide (b4.kind= .function)&&(b4.names.all λy=>decide (y.2≠ .cell))&&(b4.names.all λy=>decide (y.2= .local→b4.names.lookup y.1=some .local))&&
 (b4.names.all λy=>decide (y.2= .free→pr.names.lookup y.1=some .cell∨pr.names.lookup y.1=some .free))&&(zs.all λz=>decide (b4.names.lookup z=some .free))&&decide (ix.map (λj=>N[j]?)=zs.map some)
theorem e2{X:Cx}{b4:Scope}{x:Str}{zs:List Str}{ix:List Nat}(pr:Scope)(N:List Str)(bD:X.env.scope=pr)(bI:X.N=N)(h:Zhd pr b4 N zs ix=true):YZ X b4 x zs ix:=by
 unfold Zhd at h;simp only[Rz,RC,decide_eq_true_eq] at h;obtain⟨⟨⟨⟨⟨ap,a'⟩,bU⟩,cD⟩,dJ⟩,c'⟩:=h;subst bD bI;exact⟨ap,a',bU,cD,dJ,c'⟩
def Zd0(CX:CXT)(X:Cx)(J:St→Prop)(E:XK):Prop:=∀(ah:List (Addr×Obj))(af:St)(H:Hp)(s:Shared)(e:Value)(s':Shared),J af→Inv X ah af H s→CX X.stack H s E e s'→X.xe e s'
noncomputable def Zgb (J:St→Prop) (C:Addr) (sp:Sp) (d2:List V) (E:XK) (t:TA):TE:=λaf H Q=>J af∧t af H λvs ax=>∀x bu,ax x=none→ax bu=none→bu≠x→
 sp (.ref x::(vs++d2)) (upd (upd ax bu (.own x)) x (.ins C bu [])) (λv bo=>v= .non∧Q (.ref x) bo) E
section
variable {X:Cx}{CX:CXT}{k:Nat}{f C:Addr}{fd:FuncData}{b1:List Str}{sp:Sp}{d2:List V}{cd:List Value}{E:XK}{J:St→Prop}{x m:Str}{p pos di:Pos}{e o:Expr}{bx:List Expr}{b0:TE}{t:TA}
def Znc(X:Cx)(body:List Stmt)(cz:(St→Prop)→XK→TS):Prop:=∀(J:St→Prop)(hc:XK)(pn:List (Addr×Obj))(kl:Value→Shared→Prop),PassesOwn (model X.prog X.w) X.A X.env kl→
 Zd0 (CXX X.prog X.w) {X with pn:=pn,xe:=kl} J hc→PSs {X with pn:=pn,xe:=kl} body (cz J hc)
def Zmq(X:Cx)(ll:List Stmt)(th:TS):Prop:=∀(fa:Around),PSs {X with A:=fa,calm:=false,xe:=λ_ _=>False} ll th
end
section
variable {K:Frag}{H:Hp}
theorem eH.ints{p:Addr}{ns:List Int}(h:SqL K H p (ns.map V.int)):eH K H (.ref p) (.list (ns.map PyData.int)):= .lst h (DRels.ints ns)
namespace Rd
variable {Q:VK}
end Rd
end
structure Walks(J:It)(n:Nat)(f:Nat→V)(H:Hp):Prop where
 go:∀ae i,Ze H ae→i<n→J.go i ae
 yld:∀ae i x bo,Ze H ae→i<n→J.yld i ae x bo→bo=ae∧x=f i
 stop:∀ae,Ze H ae→J.stop n ae
theorem Vk{lo:Int}{n:Nat}{H:Hp}:Walks (Itr lo n) n (λi=> .int (lo+i)) H:=⟨λ_ _ _ h=>h,λ_ _ _ _ _ _ h=>h,λ_ _=>QQ _⟩
theorem d9{K:Frag}{a:Addr}{xs:List V}{H:Hp}(h:SqL K H a xs):Walks (Itl K a) xs.length (λi=>xs.getD i .non) H:=
 ⟨λae i e hi=>⟨xs,xs[i],e.seq h,by simp[hi]⟩,λae i x bo e hi y=>⟨y.1,by
  have:=y.2 xs (e.seq h);simp[List.getD,this]⟩,λae e=>⟨xs,e.seq h,QQ _⟩⟩
theorem Z2{J:It}{n:Nat}{f:Nat→V}{H0:Hp}(w:Walks J n f H0){g:TG}{cz:TS}{D:W6}{af:St}{H:Hp}(Pv:Nat→St→Hp→Prop)(cw:Pv 0 af H)(bp:∀i af H,Pv i af H→Ze H0 H)
  (hs:∀i af H,i<n→Pv i af H→g (f i) af H λcs bo=>cz {D with nx:=Pv (i+1),ct:=Pv (i+1),bk:=D.nx} cs bo) (hd:∀af H,Pv n af H→D.nx af H):
  ∃W:Nat→Nat→St→Hp→Prop,(∃m,W 0 m af H)∧∀i m af H,W i m af H→
   (J.stop i H∧D.nx af H)∨(J.go i H∧∃N:St→Hp→Prop,(∀bQ ae,N bQ ae→∃cn,cn<m∧W (i+1) cn bQ ae)∧∀x ae,J.yld i H x ae→g x af ae λcs bo=>cz {D with nx:=N,ct:=N,bk:=D.nx} cs bo):=by
 refine⟨λi m af H=>m=n-i∧i≤n∧Pv i af H,⟨n,by simp,Q5 _,cw⟩,?_⟩;rintro i m af H ⟨rfl,hi,p⟩;have bS:=bp i af H p
 by_cases cL:i<n
 ·refine .inr ⟨w.go H i bS cL,Pv (i+1),λbQ ae f0=>⟨n-(i+1),by omega,rfl,cL,f0⟩,λx ae y=>?_⟩;obtain⟨rfl,rfl⟩:=w.yld H i x ae bS cL y;exact hs i af _ cL p
 ·have e:i=n:=by omega
  subst e;exact .inl ⟨w.stop H bS,hd af H p⟩
theorem Yg{ix:List Nat}{df:TT}{cu:TE}{Q:Addr→Hp→Prop}{af:St}{H:Hp}{J:It}{n:Nat}{f:Nat→V}(w:Walks J n f H)(bG:n<sizeLine)(c:Nat→Bool)(r:Nat→V)
  (br:∀i ae (c2:Bool→Hp→Prop),i<n→Ze H ae→(∀b7,Ze ae b7→c2 (c i) b7)→df (some (f i)::ix.map λj=>(af[j]?).join) ae c2)
  (bH:∀i ae (c2:VK),i<n→c i=true→Ze H ae→(∀bY,Ze ae bY→c2 (r i) bY)→cu (some (f i)::ix.map λj=>(af[j]?).join) ae c2)
  (q:∀p ae,H p=none→Ze H ae→ae p=some (.lst (((List.range n).filter c).map r))→Q p ae):
  ∀p,H p=none→∃W:Nat→Nat→List V→St→Hp→Prop,(∃m,W 0 m [] (emb ix af) (upd H p (.lst [])))∧∀i m ys bQ ae,W i m ys bQ ae→
   (J.stop i ae∧Q p ae)∨(J.go i ae∧∀x bo,J.yld i ae x bo→Vf 0 x bQ bo λcs b2=>df cs b2 λb b7=>
    if b=true then cu cs b7 λv bY=>bY p=some (.lst ys)∧ys.length<sizeLine∧∃cn,cn<m∧W (i+1) cn (ys++ [v]) cs (upd bY p (.lst (ys++ [v])))
    else ∃cn,cn<m∧W (i+1) cn ys cs b7):=by
 intro p bz;refine⟨λi m ys bQ ae=>m=n-i∧i≤n∧(∃a,bQ=a::ix.map λj=>(af[j]?).join)∧Ze H ae∧ae p=some (.lst ys)∧ys=((List.range i).filter c).map r,
  ⟨n,by simp,Q5 _,⟨none,rfl⟩,cV bz,Zd,rfl⟩,?_⟩
 rintro i m ys bQ ae ⟨rfl,hi,⟨a,rfl⟩,bS,bP,ag⟩
 by_cases cL:i<n
 ·refine .inr ⟨w.go ae i bS cL,λx bo y=>?_⟩;obtain⟨rfl,rfl⟩:=w.yld ae i x bo bS cL y;show df ((a::ix.map λj=>(af[j]?).join).set 0 (some (f i))) bo _;have d1:ys.length≤i:=by
   rw[ag,QM];exact QZ (Rm _ _) (by simp)
  refine br i bo _ cL bS λb7 b9=>?_;have mv:=bS.trans b9;have nA:=b9 _ _ bP;have step:(List.range (i+1)).filter c=(List.range i).filter c++(if c i=true then[i] else[]):=by
   rw[qaa,qae]
   congr 1
   by_cases h:c i=true<;>simp[h]
  by_cases iR:c i=true
  ·rw[iR,if_pos rfl];refine bH i b7 _ cL iR mv λbY cC=>⟨cC _ _ nA,by omega,n-(i+1),by omega,rfl,cL,⟨_,rfl⟩,(mv.trans cC).new bz,Zd,?_⟩;rw[step,if_pos iR,Rv,ag]
   rfl
  ·have ps:c i=false:=by simpa using iR
   rw[ps,if_neg QY];refine⟨n-(i+1),by omega,rfl,cL,⟨_,rfl⟩,mv,nA,?_⟩;rw[step,if_neg iR,qaB,ag]
 ·have e:i=n:=by omega
  subst e;exact .inl ⟨w.stop ae bS,q p ae bz bS (by rw[←ag];exact bP)⟩
structure cX(A:List Addr)(H ae:Hp):Prop where
 keep:∀b o,H b=some o→b∉A→ae b=some o
 tups:∀b xs,H b=some (.tup xs)→ae b=some (.tup xs)
theorem Ze.frame{A:List Addr}{H ae:Hp}(e:Ze H ae):cX A H ae:=⟨λb o h _=>e b o h,λb xs h=>e b _ h⟩
theorem cX.refl{A:List Addr}{H:Hp}:cX A H H:=(Ze.refl H).frame
theorem cX.trans{A:List Addr}{H ax bo:Hp}(a:cX A H ax)(b:cX A ax bo):cX A H bo:=⟨λc o h n=>b.keep c o (a.keep c o h n) n,λc xs h=>b.tups c xs (a.tups c xs h)⟩
theorem cX.mono{A B:List Addr}{H ae:Hp}(a:cX A H ae)(h:∀x∈A,x∈B):cX B H ae:=⟨λc o e n=>a.keep c o e λz=>n (h c z),a.tups⟩
theorem fR{A:List Addr}{H:Hp}{p:Addr}{o ci:HO}(bz:p∈A)(h:H p=some o)(b3:∀xs,o≠ .tup xs):cX A H (upd H p ci):=by
 refine⟨λb u e n=>?_,λb xs e=>?_⟩
 ·have z:b≠p:=λz=>n (by rw[z];exact bz);rw[bW z];exact e
 ·have z:b≠p:=λz=>b3 xs (by rw[z,h] at e;exact Q2 e);rw[bW z];exact e
def VW(A fa:List Addr)(H:Hp):Prop:=∀a∈fa,a∈A∨H a=none
theorem VW.refl{A:List Addr}{H:Hp}:VW A A H:=λ_ h=> .inl h
section
variable {K:Frag}{H ae:Hp}{A fa:List Addr}
namespace Rd
variable {Q:VK}
end Rd
end
noncomputable def Its (x:Str):It:=⟨λi _=>i<x.cps.size,λi H v ae=>ae=H∧∃c,x.cps[i]? =some c∧v= .str ⟨#[c]⟩,λi _=>x.cps.size≤i⟩
theorem Ef{P:Program}{w:World}{K:Frag}{cN:Expr}(it:Addr)(x:Str)(t:Tok)(ty:String)(hT:ty="str_ascii_iterator" ∨ty="str_iterator"):UF P w K cN (Its x) [it] it (λi h=>h.IsStrIter it ty x t i) where
 mem:=by simp
 obj:=λi h st b ao=>by
  have e:b=it:=by simpa using ao
  subst e;obtain⟨o,e,c,d⟩:=st;exact⟨o,e,λv z=>by rw[d] at z;cases z⟩
 keep:=λi h h' st k=>let⟨o,bC,r⟩:=st;⟨o,k it (by simp) o bC,r⟩
 item:=by
  intro X dR hw eb br i ah s af H E I bE st bF;subst dR hw eb;obtain⟨dz,f1,f2,c7,d7,dS⟩:=bE it (by simp);have hi:i<x.cps.size:=bF;have dQ:∀h':Heap,h'.IsStrIter it ty x t (i+1)→Heap.SameBut it s.heap h'→∃u,some (Value.str ⟨#[x.cps[i]]⟩ s.toks)=some u∧
    wpAny (model X.prog X.w) X.A (letOwnedTupleGo cN (.ref it) u) (λ_ bJ=>∃y ae,Inv X ah af ae bJ∧cA y u∧(Its x).yld i H y ae∧bJ.heap.IsStrIter it ty x t (i+1)∧∀b∈[it],ae b=none) E {s with heap:=h',toks:=s.toks+1}:=λh' hR hr=>by
   have bK:Inv X ah af H {s with heap:=h',toks:=s.toks+1}:=I.turned (t':=s.toks+1) (λb o ao e=>(hr.2 b ao).trans e) dz f1 c7 d7 dS;obtain⟨o,e,c,d⟩:=id hR;refine⟨_,rfl,oR (s:={s with heap:=h',toks:=s.toks+1}) e c d (by rcases hT with rfl|rfl<;>decide) ⟨.str ⟨#[x.cps[i]]⟩,H,bK,⟨_,rfl⟩,⟨rfl,x.cps[i],by simp[hi],rfl⟩,hR,λb ao=>(bE b ao).1⟩⟩
  rcases hT with rfl|rfl
  ·exact wpAny_pyNext_ascii_item st (c:=x.cps[i]) (by simp[hi]) dQ
  ·exact wpAny_pyNext_wide_item st (c:=x.cps[i]) (by simp[hi]) dQ
 done:=by
  intro X dR hw eb br i ah s af H E I bE st bF;subst dR hw eb;obtain⟨dz,f1,f2,c7,d7,dS⟩:=bE it (by simp);have hi:x.cps.size≤i:=bF;rcases hT with rfl|rfl
  ·exact wpAny_pyNext_ascii_end (I.ok.hd br) st (by simp[hi]) λh' cP=>⟨rfl,I.turned (t':=s.toks) (λb o ao e=>cP b o ao e) dz f1 c7 d7 dS⟩
  ·exact wpAny_pyNext_wide_end (I.ok.hd br) st (by simp[hi]) λh' cP=>⟨rfl,I.turned (t':=s.toks) (λb o ao e=>cP b o ao e) dz f1 c7 d7 dS⟩
 self:=λ_ _ _ _ _ st h=>by
  rcases hT with rfl|rfl
  ·exact wpAny_pyIter_striter_ascii st h
  ·exact wpAny_pyIter_striter_wide st h
section
variable {X:Cx}{cN:Expr}
noncomputable def xY (dA:TE):TI:=λaf H R=>dA af H λx ax=>∃y,x= .str y∧R (Its y) ax
theorem Eg{l:Expr}{dA:TE}(ag:PE X l dA):PI X cN l (xY dA):=by
 intro ah s af H R I h;refine thn (ag ah s af H _ I h) λv bq ⟨x,ax,bK,cj,b_⟩=>?_;obtain⟨y,e,q⟩:=b_;subst e;obtain⟨t,rfl⟩:=cj;have dQ:∀ty:String,(ty="str_ascii_iterator" ∨ty="str_iterator")→PIE X ah af cN R (.ref bq.heap.objs.size) {bq with heap:=bq.heap.push {cls:= .type ty,data:= .fields #[.str y t,.int 0 0]}}:=λty hT=>by
  refine⟨bq.heap.objs.size,[bq.heap.objs.size],_,_,ax,rfl,bK.kept (t':=bq.toks) λb o e=>Heap.get?_push_of_some _ e,Ef _ y t ty hT,⟨_,Heap.get?_push_size _ rfl,rfl,rfl⟩,λb ao=>?_,q⟩;have e:b=bq.heap.objs.size:=by simpa using ao
  subst e;exact bK.fpOk (QQ _) (bK.hok.fresh (QQ _))
 cases bB:y.cps.all (· <128)
 ·exact wpAny_pyIter_wide bB (dQ _ (.inr rfl))
 ·exact wpAny_pyIter_ascii bB (dQ _ (.inl rfl))
theorem ZiC{x:Str}{H:Hp}:Walks (Its x) x.cps.size (λi=> .str ⟨#[x.cps.getD i 0]⟩) H:=
 ⟨λ_ _ _ h=>h,λae i v bo _ hi ⟨e,c,br,b8⟩=>⟨e,by rw[b8];simp[Array.getD,hi] at br⊢;exact br.symm⟩,λ_ _=>QQ _⟩
noncomputable def rLeS:R2:=λx y H Q=>∃i j,x= .str i∧y= .str j∧Q (.bl (!decide (j.cps.toList<i.cps.toList))) H
theorem xZ:OpR X (compareOp .LtE) rLeS:=by
 intro ah s af H x y v u Q I bX b' h;obtain⟨i,j,rfl,rfl,q⟩:=h;obtain⟨t,rfl⟩:=bX;obtain⟨t',rfl⟩:=b';exact PySem.P.le_str ⟨.bl _,H,I,rfl,q⟩
theorem t4{s:Shared}:∀{bs:List Bool}{us:List Value},cH (bs.map V.bl) us→us=bs.map Value.bool
 | [],_,r=>by cases r;rfl
 |b::bs,_,r=>by
  cases r with
  |cons cj cM=>
   have e:_=Value.bool b:=cj;rw[e,t4 (s:=s) cM]
   rfl
theorem x_{s:Shared}{h':Heap}{o:Obj}(bp:∀b x,b∉[s.heap.objs.size]→(s.heap.push o).get? b=some x→h'.get? b=some x):∀b x,s.heap.get? b=some x→h'.get? b=some x:=
 λb x e=>bp b x (λbv=>by rw[QS.mp bv] at e;exact RU _ (Heap.lt_size e)) (Heap.get?_push_of_some _ e)
theorem Zhs(bs:List Bool):((List.range bs.length).all λi=>(bs[i]?).getD true)=bs.all id:=by
 rw[R9,RC,RC]
 constructor
 ·intro h b ao;obtain⟨i,hi,rfl⟩:=Q4 ao;have:=h i (Rc.mpr hi);simpa[QN hi] using this
 ·intro h i hi;have dy:=Rc.mp hi;simp only[QN dy,Option.getD_some];exact h _ (QO dy)
theorem Zjy(br:X.calm=true):YJ X (.builtin "all") (λxs H Q=>∃(p:Addr)(bs:List Bool),xs=[.ref p]∧SqL X.K H p (bs.map V.bl)∧Q (.bl (bs.all id)) H):=by
 intro ah s af H xs us Q I r h;obtain⟨p,bs,rfl,cq,q⟩:=h;obtain⟨u,rfl,bX⟩:=Wd r;cases bX;obtain⟨its,cZ,pl,hz⟩:=I.list cq;have cU:=t4 (s:=s) cZ;subst cU;have ag:=pl.isList;have cL:p<s.heap.objs.size:=by obtain⟨_,e,_⟩:=ag;exact Heap.lt_size e
 refine call_all_walk (wpAny_pyIter_list ag ?_);refine⟨s.heap.objs.size,[s.heap.objs.size,p],[s.heap.objs.size],(bs.map Value.bool).toArray.size,_,_,λi=>(bs[i]?).getD true,rfl,PySem.Walks.list (A:=X.A.in1) (I.ok.hd br) _ p (Q0 cL) (bs.map Value.bool).toArray,
  ⟨⟨_,Heap.get?_push_size _ rfl,rfl,rfl⟩,ag.push _⟩,λi v s' oH E' dR e9=>?_,λh' bT bp=>?_⟩
 ·have pu:(bs.map Value.bool)[i]? =some v:=by simpa using dR
  rw[QX] at pu;cases e:bs[i]? with
  |none=>rw[e] at pu;cases pu
  |some b=>
   rw[e] at pu;cases pu;have x':oH ((bs[i]?).getD true) s':=e9;rw[e] at x';exact wpAny_truthy_bool x'
 ·have e:((List.range (bs.map Value.bool).toArray.size).all λi=>(bs[i]?).getD true)=bs.all id:=by
   rw[QV,QM];exact Zhs bs
  rw[e];exact⟨.bl (bs.all id),H,I.kept (x_ bp),rfl,q⟩
theorem Zjo(br:X.calm=true):YJ X (.builtin "sum") (λxs H Q=>∃(p:Addr)(ns:List Int),xs=[.ref p]∧SqL X.K H p (ns.map V.int)∧Q (.int ns.sum) H):=by
 intro ah s af H xs us Q I r h;obtain⟨p,ns,rfl,cq,q⟩:=h;obtain⟨u,rfl,bX⟩:=Wd r;cases bX;obtain⟨its,cZ,pl,hz⟩:=I.list cq;have hi:=Uo cZ;obtain⟨xs,a_⟩:=hi.allInts.items;have fb:s.heap.IsList p (intItems xs):=a_▸pl.isList;refine sum_intListG (I.ok.hd br) fb λh' bT t' bp=>?_;have bD:ns=xs.toList.map (·.1):=by
  rw[←nums_intItems,←a_];exact(show numsOf its.toArray.toList=ns from hi.numsOf).symm
 have bI:preSum (numAt xs) xs.size=ns.sum:=by
  rw[preSum_eq,RP (by simp),bD]
 rw[bI];exact⟨.int ns.sum,H,I.kept bp,⟨_,rfl⟩,q⟩
end
structure Zis(K:Frag)(x qual:Str)(st:Stmt)(dT:Addr)(f:Addr)(fd:FuncData):Prop where
 ex:∃(eO:Value)(dO:Option Addr)(kV eK d3:Value)(an:Option Addr)(cv ct:Value)(gi:Array (Option Value)),
  fd=fnOf x qual (jd st) (io st) (cr st) (.ref dT) kV eK d3 an cv ct∧K.lookup f=some ⟨eO,dO,.func fd,gi⟩∧codeIn K cv qual=true
 kp:keepIn K (.ref f)=true
section
variable {P:Program}{w:World}{K:Frag}{mg:Str→Option Value}{base:Heap}
theorem Zis.okX{x qual:Str}{st:Stmt}{dT f:Addr}{fd:FuncData}{N b1:List Str}{k:Nat}{sp:Sp}(F:Zis K x qual st dT f fd)(S:Zr N b1 (cr st))(len:∀vs H Q E,sp vs H Q E→vs.length=b1.length)
  (o1:∀(cv:Value)(A:Around)(outer:List Env)(s:Shared)(H:Hp)(vs:List V)(Q:VK)(E:XK),ef k (A.deeper (envOfC qual (cr st) s.heap.objs.size f cv))→sp vs H Q E→
   ∃t,PSs (cxX P w K mg base N qual (cr st) f cv A outer s H E) (io st) t∧t {nx:=λ_ ae=>Q .non ae,rt:=Q} (start N vs) H):YN P w K mg base (CXX P w) (k+1) f fd b1 sp:=by
 obtain⟨eO,dO,kV,eK,d3,an,cv,ct,gi,rfl,lk,ic⟩:=F.ex;exact Zlq lk ic S len λA outer s H vs Q E bn iN=>o1 cv A outer s H vs Q E bn iN
theorem ZlP{x qual:Str}{st:Stmt}{dT f:Addr}{eO:Value}{dO an:Option Addr}{gi:Array (Option Value)}{kV eK d3 cv ct:Value}(l:K.lookup f=some ⟨eO,dO,.func (fnOf x qual (jd st) (io st) (cr st) (.ref dT) kV eK d3 an cv ct),gi⟩)
  (c:codeIn K cv qual=true) (k:keepIn K (.ref f)=true):Zis K x qual st dT f (fnOf x qual (jd st) (io st) (cr st) (.ref dT) kV eK d3 an cv ct):=⟨⟨eO,dO,kV,eK,d3,an,cv,ct,gi,rfl,l,c⟩,k⟩
theorem Eh{h₀:Heap}{x:Str}{C:Addr}{ya:List Value}{lg:String}(X:K.In h₀)(g:h₀.Ns mainGlobals mg)(e:nsIn K mainGlobals x=some (some (.ref C)))(q:excIn K C ya lg=true):OwnCls x C ya lg mg h₀:=by
 refine⟨mg_of X g e,?_⟩;unfold excIn at q
 split at q
 ·rename_i dd c0 sl bC
  split at q
  ·rename_i OT bm k0 k1 k2 k3 n k5 bv hs;simp only[Rz,beq_iff_eq,Bool.not_eq_true'] at q;obtain⟨⟨⟨⟨⟨rfl,rfl⟩,yb⟩,b3⟩,hok⟩,q'⟩:=q;obtain⟨nm,bs,mro,ns,l8,hd,sn,sub,ab,col,OU⟩:=c0;dsimp only at bv yb hok q';subst bv yb;have gW:sl=#[k0,k1,k2,k3,some (.builtin n),k5]:=by
    obtain⟨l⟩:=sl;simp only at hs;rw[hs]
   subst gW;exact⟨bm,ns,nm,l8,bs,hd,sn,sub,ab,col,dd,k0,k1,k2,k3,k5,_,X _ _ bC,.of_isNs (PySem.W.isNs_of_in X hok),PySem.W.nsMap_none_of_in X hok q',PySem.W.tail_of_in X b3⟩
  ·cases q
 ·cases q
section
variable {N:List Str}{qual:Str}{scope:Scope}{f:Addr}{c0:Value}{A:Around}{outer:List Env}{s₀:Shared}{H₀:Hp}{E:XK}
theorem iS{x:Str}{f3 dm pos:Pos}{kk:Expr}{rest:List Expr}{t:TA}{C:Addr}{B lg t2:String}{bm:List Value}(e:nsIn K mainGlobals x=some (some (.ref C)))(q:excIn K C bm lg=true)(FB:ExcBaseFacts B lg t2 bm)
  (bF:Gl (cxX P w K mg base N qual scope f c0 A outer s₀ H₀ E) x) (bB:PA (cxX P w K mg base N qual scope f c0 A outer s₀ H₀ E) (kk::rest) t)
  (bH:starEach (kk::rest) (cxX P w K mg base N qual scope f c0 A outer s₀ H₀ E).env=(false,eval kk (cxX P w K mg base N qual scope f c0 A outer s₀ H₀ E).env)::starEach rest (cxX P w K mg base N qual scope f c0 A outer s₀ H₀ E).env:=by rfl)
  (ma:(backTo dm (starEach rest (cxX P w K mg base N qual scope f c0 A outer s₀ H₀ E).env)).any (·.1)=false:=by rfl) (eX:(x==("__debug__" :Str))=false:=by decide):
  PS (cxX P w K mg base N qual scope f c0 A outer s₀ H₀ E) (.Raise (some (.Call (.Name x f3) (kk::rest) [] dm)) none pos) (t1 (.ref C) E t):=by
 intro ah s af H D I h;exact ZkG (Eh I.ok.mod.kin I.ok.mod.glob e q) FB bF bB bH ma eX ah s af H D I h
end
end
section
variable {X:Cx}
noncomputable def rSlS:V→Option Int→Option Int→Hp→VK→Prop:=λx lo hi H Q=>∃z,x= .str z∧z.length≤sizeLine∧Q (.str (Txt.slice z lo hi)) H
theorem Ei:SlR X rSlS:=by
 intro ah s af H x v eY fK lo hi sl Q I bX hs pl hA h;obtain⟨z,rfl,hz,q⟩:=h;obtain⟨t,rfl⟩:=bX;refine⟨"str",_,F.slot_str_getitem.lookup,typeIs_str _ _ _,?_⟩;have dQ:∀l u:Option (Int×Tok),l.map (·.1)=lo→u.map (·.1)=hi→partValue l=eY→partValue u=fK→wpAny (model X.prog X.w) X.A (getItem (.str z t) (.ref sl)) (EP X ah af Q) X.xe s:=λl u bD bI c6 gV=>by
  obtain⟨o,bC,br,hd⟩:=hs;subst bD bI c6 gV;exact wpAny_getItem_str_slice (l:=l) (u:=u) (st:=none) ⟨o,bC,br,hd⟩ rfl (post_val_or_str ⟨QZ (Txt.slice_le z _ _) hz,λt' k=>⟨.str _,H,I.tok k,⟨_,rfl⟩,q⟩⟩)
 cases pl with
 |none=>
  cases hA with
  |none=>exact dQ none none rfl rfl rfl rfl
  |int j t'=>exact dQ none (some (j,t')) rfl rfl rfl rfl
 |int i fh=>
  cases hA with
  |none=>exact dQ (some (i,fh)) none rfl rfl rfl rfl
  |int j t'=>exact dQ (some (i,fh)) (some (j,t')) rfl rfl rfl rfl
noncomputable def t5 (K:Frag):V→Option Int→Option Int→Hp→VK→Prop:=λx lo hi H Q=>xF K x lo hi H Q∨(xE K x lo hi H Q∨rSlS x lo hi H Q)
theorem Ej:SlR X (t5 X.K):=DG.or (Dy.or Ei)
end
structure W0(K:Frag)(C:Addr)(fs:List Str):Prop where
 out:∀f∈fs,hS K C f
theorem W0.get{K:Frag}{C:Addr}{fs:List Str}{f:Str}(h:W0 K C fs)(m:fs.contains f=true):hS K C f:=h.out f (by simpa using m)
namespace Rd
section
variable {af:St}{H:Hp}{Q:VK}{D:W6}{K:Frag}
theorem sl{r:V→Option Int→Option Int→Hp→VK→Prop}{cu:TE}{dA th:TO}(h:cu af H λx ax=>dA af ax λl bo=>th af bo λu b2=>r x l u b2 Q):tSl r cu dA th af H Q:=h
theorem ZmN{Q:Option Int→Hp→Prop}(h:Q none H):tNoPart af H Q:=h
theorem ZoE{cu:TE}{Q:Option Int→Hp→Prop}(h:cu af H λx ax=>∃i,x= .int i∧Q (some i) ax):xC cu af H Q:=h
theorem ZnK{i:Int}{C:Int→Prop}(h:C i):∃j,V.int i= .int j∧C j:=⟨i,rfl,h⟩
theorem Zog{b0:TE}{f:Str}(h:b0 af H λx ax=>∃a C bu fs v,x= .ref a∧ax a=some (.ins C bu fs)∧Cls K C∧hS K C f∧fs.lookup f=some v∧Q v ax):tf K b0 f af H Q:=h
theorem fld{a C bu:Addr}{fs:List (Str×V)}{f:Str}{v:V}{G:V→Prop}(h:H a=some (.ins C bu fs))(c:Cls K C)(n:hS K C f)(l:fs.lookup f=some v)(q:G v):
  ∃dq C bu fs v,V.ref a= .ref dq∧H dq=some (.ins C bu fs)∧Cls K C∧hS K C f∧fs.lookup f=some v∧G v:=⟨a,C,bu,fs,v,rfl,h,c,n,l,q⟩
theorem ZnP{C:Addr}{m:Str}{sp:Sp}{d2:List V}{E:XK}{b0:TE}{t:TA}(h:b0 af H λx ax=>∃a bu fs,x= .ref a∧ax a=some (.ins C bu fs)∧fs.lookup m=none∧t af ax λvs bo=>sp (x::(vs++d2)) bo Q E):oY C m sp d2 E b0 t af H Q:=h
theorem ZnW{C:Addr}{sp:Sp}{d2:List V}{E:XK}{t:TA}(h:t af H λvs ax=>∀x bu,ax x=none→ax bu=none→bu≠x→
  sp (.ref x::(vs++d2)) (upd (upd ax bu (.own x)) x (.ins C bu [])) (λv bo=>v= .non∧Q (.ref x) bo) E):oZ C sp d2 E t af H Q:=h
theorem Zok{b0 g_:TE}{f:Str}(h:g_ af H λy ax=>b0 af ax λx bo=>∃a C bu fs,x= .ref a∧bo a=some (.ins C bu fs)∧Cls K C∧hS K C f∧fs.length<1000∧D.nx af (upd bo a (.ins C bu (fi f y fs)))):tg K b0 g_ f D af H:=h
theorem ZnU{a C bu:Addr}{fs qR:List (Str×V)}{f:Str}{y:V}(h:H a=some (.ins C bu fs))(c:Cls K C)(n:hS K C f)(l:fs.length<1000)(e:fi f y fs=qR)(q:D.nx af (upd H a (.ins C bu qR))):
  ∃dq C bu fs,V.ref a= .ref dq∧H dq=some (.ins C bu fs)∧Cls K C∧hS K C f∧fs.length<1000∧D.nx af (upd H dq (.ins C bu (fi f y fs))):=⟨a,C,bu,fs,rfl,h,c,n,l,by rw[e];exact q⟩
theorem raise{cls:Value}{E:XK}{t:TA}(h:t af H λvs ax=>vs.length≤sizeLine∧E cls none ax):t1 cls E t D af H:=h
theorem ZmC{v:V}{G:Prop}(q:G):[v].length≤sizeLine∧G:=⟨by show 1≤sizeLine;decide,q⟩
theorem ZnX{cu:TE}{R:It→Hp→Prop}(h:cu af H λx ax=>∃a,x= .ref a∧(∃xs,SqL K ax a xs)∧R (Itl K a) ax):ta K cu af H R:=h
theorem Zn6{cu:TE}{R:It→Hp→Prop}(h:cu af H λx ax=>∃y,x= .str y∧R (Its y) ax):xY cu af H R:=h
theorem ZnI{y:Str}{G:Str→Prop}(h:G y):∃z,V.str y= .str z∧G z:=⟨y,rfl,h⟩
theorem ZnA{ix:List Nat}{ed:TI}{g:TG}{df:TT}{cu:TE}(h:ed af H λJ ax=>∀p,ax p=none→
 ∃W:Nat→Nat→List V→St→Hp→Prop,(∃m,W 0 m [] (emb ix af) (upd ax p (.lst [])))∧∀i m ys bQ ae,W i m ys bQ ae→
  (J.stop i ae∧Q (.ref p) ae)∨(J.go i ae∧∀x bo,J.yld i ae x bo→g x bQ bo λcs b2=>df cs b2 λb b7=>
   if b=true then cu cs b7 λv bY=>bY p=some (.lst ys)∧ys.length<sizeLine∧∃cn,cn<m∧W (i+1) cn (ys++ [v]) cs (upd bY p (.lst (ys++ [v])))
   else ∃cn,cn<m∧W (i+1) cn ys cs b7)):tG ix ed g df cu af H Q:=h
theorem Zoq{Q:Bool→Hp→Prop}(h:Q true H):tAll af H Q:=h
theorem lk0{f:Str}{v:V}{r:List (Str×V)}:((f,v)::r).lookup f=some v:=by simp
theorem lk1{f g:Str}{v:V}{o:Option V}{r:List (Str×V)}(n:(f==g)=false)(h:r.lookup f=o):((g,v)::r).lookup f=o:=by rw[RG,n];exact h
theorem lkN{f:Str}:([]:List (Str×V)).lookup f=none:=rfl
theorem pf1{f g:Str}{v x:V}{r cY:List (Str×V)}(n:(g==f)=false)(h:fi f v r=cY):fi f v ((g,x)::r)=(g,x)::cY:=by
 have:¬g=f:=by simpa using n
 simp[fi,this,h]
theorem pfN{f:Str}{v:V}:fi f v []=[(f,v)]:=rfl
end
end Rd
theorem ZlZ(x:Int)(ys:List Int):inV (.int x) (ys.map V.int)=decide (x∈ys):=by
 induction ys with
 |nil=>rfl
 |cons y ys bM=>
  have e:inV (.int x) ((y::ys).map V.int)=(eqV (.int y) (.int x)||inV (.int x) (ys.map V.int)):=rfl;rw[e,bM];show((y==x)||decide (x∈ys))=decide (x∈y::ys)
  by_cases h:x=y
  ·subst h;simp
  ·have:(y==x)=false:=by simpa using λz=>h z.symm
   rw[this];simp[h]
theorem Ek(ys:List Int):(ys.map V.int).all jI=true:=by
 rw[List.all_map,RC];intro _ _
 rfl
namespace Rd
section
variable {H:Hp}{Q:VK}{K:Frag}
theorem inI{p:Addr}{x:Int}{ys:List Int}(h:SqL K H p (ys.map V.int))(q:Q (.bl (decide (x∈ys))) H):rIn K false (.int x) (.ref p) H Q:=⟨p,_,rfl,.inl h,rfl,Ek ys,by rw[ZlZ];exact q⟩
theorem ifD{c A B:Prop}[Decidable c](a:c→A)(b:¬c→B):if decide c=true then A else B:=by
 by_cases h:c
 ·exact ifP h (a h)
 ·exact ifN h (b h)
theorem Zoo{p:Addr}{bs:List Bool}{G:List Bool→Prop}(h:SqL K H p (bs.map V.bl))(q:G bs):∃(f0:Addr)(nB:List Bool),[V.ref p]=[.ref f0]∧SqL K H f0 (nB.map V.bl)∧G nB:=⟨p,bs,rfl,h,q⟩
theorem leS{x y:Str}(q:Q (.bl (!decide (y.cps.toList<x.cps.toList))) H):rLeS (.str x) (.str y) H Q:=⟨x,y,rfl,rfl,q⟩
theorem Zn3{af:St}{r cY:R2}{b0 cz df:TE}(h:b0 af H λx ax=>cz af ax λy bo=>r x y bo λz b2=>∃k,z= .bl k∧(if k=true then df af b2 λdP b7=>cY y dP b7 Q else Q (.bl false) b2)):xp r cY b0 cz df af H Q:=h
end
end Rd
namespace Rd
section
variable {H:Hp}{Q:VK}{K:Frag}
theorem ZoH{z:Str}{i:Int}{c:Nat}(h:z.length≤sizeLine)(e:atI z.cps.toList i=some c)(q:Q (.str ⟨#[c]⟩) H):rIx K (.str z) (.int i) H Q:= .inr (.inr ⟨z,i,c,rfl,rfl,h,e,q⟩)
theorem Znl{a:Addr}{xs:List V}{G:Addr→Prop}(h:SqL K H a xs)(q:G a):∃dq,V.ref a= .ref dq∧(∃xs,SqL K H dq xs)∧G dq:=⟨a,rfl,⟨xs,h⟩,q⟩
theorem Zn5{j:Int}{G:Int→Prop}(ap: -(2 ^ 62)≤j)(a':j<2 ^ 62)(q:G j):∃k,[V.int j]=[.int k]∧ -(2 ^ 62)≤k∧k<2 ^ 62∧G k:=⟨j,rfl,ap,a',q⟩
theorem ZoK{i j:Int}{G:Int→Int→Prop}(q:G i j):∃rb rc,[V.int i,.int j]=[.int rb,.int rc]∧G rb rc:=⟨i,j,rfl,q⟩
end
end Rd
noncomputable def hid (H:Hp) (r:Addr):Hp:=λb=>if b=r then none else H b
theorem nC{H:Hp}{r:Addr}:hid H r r=none:=by unfold hid;rw[if_pos rfl]
theorem Yo{H:Hp}{r b:Addr}(h:b≠r):hid H r b=H b:=by unfold hid;rw[if_neg h]
theorem jL{H:Hp}{r:Addr}:Ze (hid H r) H:=λb o e=>by
 by_cases h:b=r
 ·rw[h,nC] at e;cases e
 ·rw[Yo h] at e;exact e
theorem yc{H:Hp}{r:Addr}{xs:List V}(h:H r=some (.lst xs)):∀b ys,H b=some (.tup ys)→L2.hid H r b=some (.tup ys):=λb ys e=>by rw[Yo (fc e h (by intro z;cases z))];exact e
theorem yd:∀ns:List Int,PyData.canLayAll0 (ns.map PyData.int)=true
 | []=>by simp[PyData.canLayAll0]
 |n::ns=>by
  have:=yd ns;simp[PyData.canLayAll0,PyData.canLay0] at this⊢;exact this
theorem jM(ns:List Int):(PyData.list (ns.map PyData.int)).canLay0=true:=by
 have:=yd ns;simp[PyData.canLay0];simpa using this
theorem ye:∀ns:List Int,PyData.depthAll (ns.map PyData.int)≤1
 | []=>by simp[PyData.depthAll]
 |n::ns=>by
  have:=ye ns;simp[PyData.depthAll,PyData.depth] at this⊢;exact this
theorem pw(ns:List Int):(PyData.list (ns.map PyData.int)).depth≤60:=by
 have:=ye ns;simp only[PyData.depth];omega
namespace Rd
section
variable {H:Hp}{Q:VK}{K:Frag}
end
end Rd
namespace Rd
section
variable {af:St}{H:Hp}{Q:VK}{K:Frag}{J:St→Prop}{E:XK}{sp:Sp}{d2:List V}{t:TA}{b0:TE}
theorem ZnM{C:Addr}(bw:J af)(h:t af H λvs ax=>∀x bu,ax x=none→ax bu=none→bu≠x→
  sp (.ref x::(vs++d2)) (upd (upd ax bu (.own x)) x (.ins C bu [])) (λv bo=>v= .non∧Q (.ref x) bo) E):Zgb J C sp d2 E t af H Q:=⟨bw,h⟩
end
end Rd
namespace Rd
section
variable {af:St}{H:Hp}
theorem Zos{to fh:TE}{t:ZcA}{v:V}{Q:St→Hp→Prop}(h:to af H λo ax=>fh af ax λi bo=>t o i v bo λb2=>Q af b2):xg to fh t v af H Q:=h
theorem ZmJ{p:Addr}{xs:List V}{k:Int}{v:V}{Q:Hp→Prop}(bz:H p=some (.lst xs))(cw:0≤k)(ap:k<xs.length)(q:Q (upd H p (.lst (xs.set k.toNat v)))):rSetL (.ref p) (.int k) v H Q:=
 ⟨p,xs,k,k.toNat,rfl,rfl,bz,by unfold ixN;rw[if_pos cw,if_pos ap],q⟩
end
end Rd
section
variable {X hs:List Int}{i:Nat}{v u:Int}
end
noncomputable def only(q:Addr) (o:HO):Hp:=λa=>if a=q then some o else none
theorem px{q:Addr}{o:HO}:only q o q=some o:=by unfold only;rw[if_pos rfl]
theorem V4{q:Addr}{o:HO}{H:Hp}(h:H q=some o):Ze (only q o) H:=λb x e=>by
 unfold only at e
 by_cases c:b=q
 ·rw[if_pos c] at e;rw[c];cases e;exact h
 ·rw[if_neg c] at e;cases e
section
variable {X:Cx}{K:Frag}
theorem Zlv(e:X.K=K):OpR X (binaryOp .Add) (rOr ra (rOr Zc2 (rOr rCat (o4 K)))):=e▸Ee
theorem gn(e:X.K=K)(hu:X.A.units+64<cLine):OpR X (compareOp .Eq) (rOr rEq (li K false)):=e▸ZmI hu
theorem rd(e:X.K=K)(hu:X.A.units+64<cLine):OpR X (compareOp .NotEq) (rOr rNe (li K true)):=e▸Zmn hu
theorem ZoQ(e:X.K=K):IxR X (rIx K):=e▸DE
theorem El(e:X.K=K):SlR X (t5 K):=e▸Ej
noncomputable def t6 (K:Frag):List V→Hp→VK→Prop:=λxs H Q=>∃x n,xs=[x]∧Zcj K x H n∧Q (.int n) H
theorem Znz(e:X.K=K):YJ X (.builtin "len") (t6 K):=e▸Dk
theorem pz(e:X.K=K):OpR X (compareOp .In) (rIn K false):=e▸DH
theorem eI{e:Expr}{b0:TE}{f:Str}{pos:Pos}(eD:X.K=K)(bH:PE X e b0)(ao:attributeBase e f X.env (eval e X.env)=eval e X.env):PE X (.Attribute e f pos) (tf K b0 f):=eD▸Zmi bH ao
theorem iT{o value:Expr}{b0 g_:TE}{f:Str}{pos i7:Pos}(eD:X.K=K)(bB:PE X o b0)(b8:PE X value g_)(hs:swapsWith value (some (.Attribute o f i7)) pos.line X.env=pure false):
  PS X (.Assign [.Attribute o f i7] value pos) (tg K b0 g_ f):=eD▸Znh bB b8 hs
theorem d_{cN l:Expr}{dA:TE}(eD:X.K=K)(ag:PE X l dA):PI X cN l (ta K dA):=eD▸ZlA ag
noncomputable def yf (K:Frag) (b0:TE):TT:=λaf H Q=>b0 af H λx ae=>∃k,oV K x ae k∧Q k ae
theorem he{a:Expr}{b0:TE}(eD:X.K=K)(bB:PE X a b0)(bH:∀lY,isTrue a X.env lY=(do let v←lY;standAt a.pos;holding [v] (truthy v))):PT X a (yf K b0):=eD▸ZkB bB bH
noncomputable def yg (K:Frag):List V→Hp→VK→Prop:=λxs H Q=>∃x n t b,xs=[x,.ty n]∧Wq K H x t∧PySem.W.kitOne K t (.type n)=some b∧Q (.bl b) H
theorem nD(e:X.K=K):YJ X (.builtin "isinstance") (yg K):=e▸D5
noncomputable def yh (K:Frag):List V→Hp→VK→Prop:=λxs H Q=>∃p ys,xs=[.ref p]∧(SqL K H p ys∨SqT K H p ys)∧∀l,H l=none→Q (.ref l) (upd H l (.lst ys))
theorem nE(e:X.K=K):YJ X (.type "list") (yh K):=e▸DI
noncomputable def yi (K:Frag):List V→Hp→VK→Prop:=λxs H Q=>∃(p:Addr)(bs:List Bool),xs=[.ref p]∧SqL K H p (bs.map V.bl)∧Q (.bl (bs.all id)) H
theorem yj(e:X.K=K)(br:X.calm=true):YJ X (.builtin "all") (yi K):=e▸Zjy br
noncomputable def yk (K:Frag):List V→Hp→VK→Prop:=λxs H Q=>∃(p:Addr)(ns:List Int),xs=[.ref p]∧SqL K H p (ns.map V.int)∧Q (.int ns.sum) H
theorem yl(e:X.K=K)(br:X.calm=true):YJ X (.builtin "sum") (yk K):=e▸Zjo br
theorem f4{o e:Expr}{bx:List Expr}{to:TE}{t:TA}{name:Str}{di dm:Pos}{T id:String}{r:V→List V→Hp→VK→Prop}(eD:X.K=K)(k9:PlainAttrs T)(slot:Slot T name id)(hT:typeOf (.builtin id)=pure (.type "method_descriptor"))(bv:MtR X id r)(bC:PE X o to)(bB:PA X (e::bx) t)
  (ja:attributeBase o name X.env (eval o X.env)=eval o X.env:=by rfl)
  (tp:((backTo dm (starEach (e::bx) X.env)).all (λx=>!x.1)&&(backToKw dm (keywordEach [] X.env)).all (λx=>x.1.isSome)
   &&decide ((e::bx).length+([]:List Keyword).length+(if([]:List Keyword).isEmpty then 0 else 1)<30))=true:=by rfl)
  (jb:(di.endLine==dm.line)=true:=by rfl) (hs:starEach (e::bx) X.env=(false,eval e X.env)::starEach bx X.env:=by rfl) (ma:(backTo dm (starEach bx X.env)).any (·.1)=false:=by rfl):
  PE X (.Call (.Attribute o name di) (e::bx) [] dm) (tBM K T r to t):=eD▸ZnO k9 slot hT bv bC bB ja tp jb hs ma
theorem hW{bx:List Expr}{k:Nat}{t:TGs}{n:Nat}{pos:Pos}(eD:X.K=K)(br:X.calm=true)(h:PGs X bx t)(bG:(assignEach bx X.env).length=n:=by rfl)(fw:(assignEach bx X.env).findIdx? (·.1)=none:=by rfl):
  PG X (.Tuple bx k pos) (s8 K n t):=eD▸Zmk br h bG fw
end
namespace Rd
section
variable {af:St}{H:Hp}{Q:VK}{K:Frag}
theorem tru{b0:TE}{Q:Bool→Hp→Prop}(h:b0 af H λx ae=>∃k,oV K x ae k∧Q k ae):yf K b0 af H Q:=h
theorem ZoJ{xs:List V}(h:∃x n,xs=[x]∧Zcj K x H n∧Q (.int n) H):t6 K xs H Q:=h
theorem Zoh{xs:List V}(h:∃x n t b,xs=[x,.ty n]∧Wq K H x t∧PySem.W.kitOne K t (.type n)=some b∧Q (.bl b) H):yg K xs H Q:=h
theorem Zod{xs:List V}(h:∃(p:Addr)(bs:List Bool),xs=[.ref p]∧SqL K H p (bs.map V.bl)∧Q (.bl (bs.all id)) H):yi K xs H Q:=h
theorem VM{p:Addr}{xs:List V}(h:SqL K H p xs)(q:∀l,H l=none→Q (.ref l) (upd H l (.lst xs))):yh K [.ref p] H Q:=⟨p,xs,rfl,.inl h,q⟩
theorem ZmM{p:Addr}{ns:List Int}(h:SqL K H p (ns.map V.int))(q:Q (.int ns.sum) H):yk K [.ref p] H Q:=⟨p,ns,rfl,h,q⟩
end
end Rd
def HU(A:Around):Prop:=A.units+64<cLine
theorem ef.hu{k:Nat}{A:Around}(h:ef k A):HU A:=h.units
theorem oA{i n a:Nat}(h:a=n)(k:i<n):i<a:=h▸k
theorem oB{n a m c:Nat}(h:a=n)(k:n≤m)(e:Nat.ble m c=true):a≤c:=h▸QZ k (RI e)
theorem oD{a m c:Nat}(k:a≤m)(e:Nat.ble m c=true):a≤c:=QZ k (RI e)
theorem oE{i n a:Nat}(h:a=n)(k:i<n):(i:Int)<(a:Int):=Int.ofNat_lt.mpr (h▸k)
theorem oF{i a:Nat}(k:i<a):(i:Int)<(a:Int):=Int.ofNat_lt.mpr k
theorem ixk{X:Cx}(K:Frag)(e:X.K=K:=by rfl):IxR X (rIx K):=ZoQ e
theorem hf{X:Cx}(K:Frag)(e:X.K=K:=by rfl):OpR X (binaryOp .Add) (rOr ra (rOr Zc2 (rOr rCat (o4 K)))):=Zlv e
theorem fk{X:Cx}(K:Frag)(e:X.K=K:=by rfl):YJ X (.builtin "len") (t6 K):=Znz e
structure Ex(K:Frag)(mg:Str→Option Value)(nm:Str)(X:Addr):Prop where
 g:nsIn K mainGlobals nm=some (some (.ref X))
 m:mg nm=some (.ref X)
 e:excIn K X [.type "ValueError",.type "Exception",.type "BaseException",.type "object"] "ValueError.__new__" =true
theorem scI{N P:List Str}{b4:Scope}(a:b4.kind= .function:=by rfl)(b:b4.isCoroutine=false:=by rfl)(c:b4.isGenerator=false:=by rfl)(d:N.Nodup:=by decide+kernel)(e:N.take P.length=P:=by rfl)(f:∀x∈P,b4.names.lookup x=some .local∨b4.names.lookup x=some .cell:=by decide+kernel)(g:∀y∈b4.names,y.2≠ .free:=by decide+kernel):Zr N P b4:=⟨a,b,c,d,e,f,g⟩
structure Dn(K:Frag)(mg:Str→Option Value)(nm q:Str)(s:Stmt)(b1:List Str) where
 f:Addr
 d:FuncData
 F:Fun K nm q s f d
 b:Wz K d b1 []
 m:mg nm=some (.ref f)
structure Dm(K:Frag)(C:Addr)(nm q:Str)(s:Stmt)(b1:List Str) where
 f:Addr
 d:FuncData
 F:Fun K nm q s f d
 b:Wz K d b1 []
 M:Zd3 K C nm f
structure Di(K:Frag)(C:Addr)(q:Str)(s:Stmt)(b1:List Str) where
 f:Addr
 d:FuncData
 F:Fun K "__init__" q s f d
 b:Wz K d b1 []
 M:Mk K C f
abbrev BOk(nm q:Str)(s:Stmt)(b1:List Str):Prop:=∀us:List Value,us.length=b1.length→∀(kV eK d3:Value)(an:Option Addr)(cv ct:Value),bindArgs (fnOf nm q (jd s) (io s) (cr s) .none kV eK d3 an cv ct) ⟨us,[]⟩=pure (b1.zip us)
section
variable {P:Program}{w:World}{K:Frag}{mg:Str→Option Value}{base h:Heap}{nm q:Str}{st:Stmt}{b1:List Str}{C f:Addr}{eO:Value}{dO an:Option Addr}{gi:Array (Option Value)}{kV dc d3 c0 ct:Value}
noncomputable def Dn.of (X:K.In h) (G:h.Ns mainGlobals mg) (a:nsIn K mainGlobals nm=some (some (.ref f))) (l:K.lookup f=some ⟨eO,dO,.func (fnOf nm q (jd st) (io st) (cr st) .none kV dc d3 an c0 ct),gi⟩) (c:codeIn K c0 q=true) (k:keepIn K (.ref f)=true)
  (ao:BOk nm q st b1):Dn K mg nm q st b1:=⟨f,_,nq l c k,(nq l c k).binds λa1 a2 a3 a4 a5 a6 us e=>ao us e a1 a2 a3 a4 a5 a6,mg_of X G a⟩
noncomputable def Dm.of (a:PySem.W.findIn K (.ref C) nm=some (some (.ref f))) (i:isFn K (.ref f)=true) (l:K.lookup f=some ⟨eO,dO,.func (fnOf nm q (jd st) (io st) (cr st) .none kV dc d3 an c0 ct),gi⟩) (c:codeIn K c0 q=true) (k:keepIn K (.ref f)=true)
  (ao:BOk nm q st b1):Dm K C nm q st b1:=⟨f,_,nq l c k,(nq l c k).binds λa1 a2 a3 a4 a5 a6 us e=>ao us e a1 a2 a3 a4 a5 a6,⟨a,i,k⟩⟩
noncomputable def Di.of (z:makesIn K C=true) (y:keepIn K (.ref C)=true) (a:PySem.W.findIn K (.ref C) "__init__" =some (some (.ref f))) (i:isFn K (.ref f)=true) (l:K.lookup f=some ⟨eO,dO,.func (fnOf "__init__" q (jd st) (io st) (cr st) .none kV dc d3 an c0 ct),gi⟩) (c:codeIn K c0 q=true) (k:keepIn K (.ref f)=true)
  (ao:BOk "__init__" q st b1):Di K C q st b1:=⟨f,_,nq l c k,(nq l c k).binds λa1 a2 a3 a4 a5 a6 us e=>ao us e a1 a2 a3 a4 a5 a6,⟨z,a,i,y⟩⟩
theorem ZjQ{cJ:Type _}{P:List cJ→Prop}(h:P [])(us:List cJ)(e:us.length=0):P us:=match us,e with| [],_=>h
theorem lenS{cJ:Type _}{n:Nat}{P:List cJ→Prop}(h:∀a (us:List cJ),us.length=n→P (a::us))(us:List cJ)(e:us.length=n+1):P us:=match us,e with|a::us,e=>h a us (Nat.succ.inj e)
theorem Zmg:W0 K C []:=⟨λ_ h=>nomatch h⟩
theorem ZlF{x:Str}{xs:List Str}(h:PySem.W.findIn K (.ref C) x=some none)(t:W0 K C xs):W0 K C (x::xs):=⟨λf bE=>by
 rcases QW.mp bE with e|e
 ·rw[e];exact h
 ·exact t.out f e⟩
theorem Znq{dT:Addr}{a:Array Value}{n:Nat}(h:K.lookup dT=some ⟨eO,dO,.seq a n,gi⟩):∃eO dO n sl,K.lookup dT=some ⟨eO,dO,.seq a n,sl⟩:=⟨_,_,_,_,h⟩
abbrev OkN(P:Program)(w:World)(base:Heap)(k:Nat)(D:Dn K mg nm q st b1)(sp:Sp):Prop:=YN P w K mg base (CXX P w) k D.f D.d b1 sp
abbrev OkM(P:Program)(w:World)(mg:Str→Option Value)(base:Heap)(k:Nat)(D:Dm K C nm q st b1)(sp:Sp):Prop:=YN P w K mg base (CXX P w) k D.f D.d b1 sp
abbrev OkI(P:Program)(w:World)(mg:Str→Option Value)(base:Heap)(k:Nat)(D:Di K C q st b1)(sp:Sp):Prop:=YN P w K mg base (CXX P w) k D.f D.d b1 sp
end
section
variable {X:Cx}{CX:CXT}{j k:Nat}{C:Addr}{b1:List Str}{sp:Sp}{E:XK}{x m q:Str}{st:Stmt}{p pos di:Pos}{e o:Expr}{bx:List Expr}{b0:TE}{t:TA}{J:St→Prop}
theorem c9(D:Dn X.K X.mg x q st b1)(F:YN X.prog X.w X.K X.mg X.base CX j D.f D.d b1 sp)(bn:ef k X.A)(a_:We CX X E)(bB:PA X (e::bx) t)(bw:Nat.ble j k=true:=by rfl)(bF:Gl X x:=by rfl)
  (eX:(x==("__debug__" :Str))=false:=by decide) (bH:starEach (e::bx) X.env=(false,eval e X.env)::starEach bx X.env:=by rfl) (fx:(backTo pos (starEach bx X.env)).any (·.1)=false:=by rfl):
  PE X (.Call (.Name x p) (e::bx) [] pos) (tk sp [] E t):=Zly (F.mono (RI bw)) bn bF D.m D.F.kp D.b .nil a_ bB eX bH fx
theorem gp{pl:Sem Bool}(bH:PE X o b0)(c:Cls X.K C)(D:Dm X.K C m q st b1)(F:YN X.prog X.w X.K X.mg X.base CX j D.f D.d b1 sp)(bn:ef k X.A)(a_:We CX X E)(bB:PA X (e::bx) t)(bw:Nat.ble j k=true:=by rfl)
  (fw:starEach (e::bx) X.env=(false,eval e X.env)::starEach bx X.env:=by rfl) (fx:(backTo pos (starEach bx X.env)).any (·.1)=false:=by rfl)
  (b3:eval (.Call (.Attribute o m di) (e::bx) [] pos) X.env=(do
   let dg←eval o X.env
   standAt di.atName
   let(f,first)←holding [dg] (getMethod dg m pl)
   callWith pos f first (backTo pos (starEach (e::bx) X.env)) (backToKw pos (keywordEach [] X.env))):=by rfl):
  PE X (.Call (.Attribute o m di) (e::bx) [] pos) (oY C m sp [] E b0 t):=xu bH c D.M (F.mono (RI bw)) bn D.b .nil a_ bB fw fx b3
theorem iU{pl:Sem Bool}(bH:PE X o b0)(c:Cls X.K C)(D:Dm X.K C m q st b1)(F:YN X.prog X.w X.K X.mg X.base CX j D.f D.d b1 sp)(bn:ef k X.A)(a_:We CX X E)(bw:Nat.ble j k=true:=by rfl)
  (b3:eval (.Call (.Attribute o m di) [] [] pos) X.env=(do
   let dg←eval o X.env
   standAt di.atName
   let(f,first)←holding [dg] (getMethod dg m pl)
   callWith pos f first (backTo pos (starEach [] X.env)) (backToKw pos (keywordEach [] X.env))):=by rfl):
  PE X (.Call (.Attribute o m di) [] [] pos) (oY C m sp [] E b0 tNil):=Zkr bH c D.M (F.mono (RI bw)) bn D.b .nil a_ b3
theorem Em(D:Di X.K C q st b1)(F:YN X.prog X.w X.K X.mg X.base CX j D.f D.d b1 sp)(bn:ef (k+1) X.A)(bv:X.mg x=some (.ref C))(a_:We CX X E)(bB:PA X (e::bx) t)(bw:Nat.ble j k=true:=by rfl)(bF:Gl X x:=by rfl)
  (eX:(x==("__debug__" :Str))=false:=by decide) (bH:starEach (e::bx) X.env=(false,eval e X.env)::starEach bx X.env:=by rfl) (fx:(backTo pos (starEach bx X.env)).any (·.1)=false:=by rfl):
  PE X (.Call (.Name x p) (e::bx) [] pos) (oZ C sp [] E t):=ZlT D.M (F.mono (RI bw)) bn bF bv D.b .nil a_ bB eX bH fx
theorem ym(D:Di X.K C q st b1)(F:YN X.prog X.w X.K X.mg X.base CX j D.f D.d b1 sp)(bn:ef (k+1) X.A)(bv:X.mg x=some (.ref C))(a_:We CX X E)(bw:Nat.ble j k=true:=by rfl)(bF:Gl X x:=by rfl)
  (eX:(x==("__debug__" :Str))=false:=by decide):PE X (.Call (.Name x p) [] [] pos) (oZ C sp [] E tNil):=Zky D.M (F.mono (RI bw)) bn bF bv D.b .nil a_ eX
end
section
variable {X:Cx}
noncomputable def rDIn:R2:=λy x H Q=>∃a o,x= .ref a∧hU H a y o∧Q (.bl o.isSome) H
noncomputable def rDNotIn:R2:=λy x H Q=>∃a o,x= .ref a∧hU H a y o∧Q (.bl (!o.isSome)) H
theorem En(hu:X.A.units+64<cLine):OpR X (compareOp .In) rDIn:=by
 intro ah s af H x y v u Q I bX b' h;obtain⟨a,o,rfl,g,q⟩:=h;cases b';exact Zor (by omega) I g bX λs' d0=>⟨.bl o.isSome,H,d0,rfl,q⟩
theorem pA(hu:X.A.units+64<cLine):OpR X (compareOp .NotIn) rDNotIn:=by
 intro ah s af H x y v u Q I bX b' h;obtain⟨a,o,rfl,g,q⟩:=h;cases b';exact Zmd (by omega) I g bX λs' d0=>⟨.bl (!o.isSome),H,d0,rfl,q⟩
noncomputable def rIxD:R2:=λx y H Q=>∃a v,x= .ref a∧hU H a y (some v)∧Q v H
theorem mw(hu:X.A.units+64<cLine):IxR X rIxD:=by
 intro value slice ah s af H x y v u Q I bX b' h hs;obtain⟨a,z,rfl,g,q⟩:=h;cases bX;exact tail_any (DW I g) PySem.F.slot_dict_getitem.lookup (DV (by omega) I g b' λdP s' d0 il=>⟨z,H,d0,il,q⟩) hs
noncomputable def rSetD:V→V→V→Hp→(Hp→Prop)→Prop:=λo i v H Q=>∃a b7,o= .ref a∧ZdN H a i v b7∧Q b7
theorem km(hu:X.A.units+64<cLine):ZhT X rSetD:=by
 intro ah s af H o i v dg fg u Q I ro ri cZ h;obtain⟨a,b7,rfl,g,q⟩:=h;cases ro;exact ZiH (by omega) I g ri cZ λs' d0=>⟨b7,d0,q⟩
theorem t7{P:Program}{w:World}{k:Key}{u:Value}(h:(dZ P w).is k u=true):cA (kV k) u:=by
 cases k with
 |inl i=>exact Value.isInt_shape h
 |inr x=>exact Value.isStrOf_shape h
theorem pB:∀{xs:List V}{us:List Value},us.length=xs.length→(∀(j:Nat)(v:V)(u:Value),xs[j]? =some v→us[j]? =some u→cA v u)→cH xs us
 | [],[],_,_=> .nil
 |x::xs,u::us,ag,h=> .cons (h 0 x u rfl rfl) (pB (by simpa using ag) λj v w bD bI=>h (j+1) v w (by simpa using bD) (by simpa using bI))
 | [],_::_,ag,_=>by simp at ag
 |_::_,[],ag,_=>by simp at ag
theorem KV.at{kvs:List (Key×V)}{vs:List (Key×Value)}(r:KV kvs vs):∀{j:Nat}{k:Key}{x:Value},vs[j]? =some (k,x)→∃v,kvs[j]? =some (k,v):=by
 unfold KV at r
 induction r with
 |nil=>intro j k x e;simp at e
 | @cons p q b1 qs h t bM=>
  intro j k x e;cases j with
  |zero=>
   simp at e;subst e;have ap:p.1=k:=h.1;exact⟨p.2,by simp[←ap]⟩
  |succ j=>
   obtain⟨v,z⟩:=bM (j:=j) (k:=k) (x:=x) (by simpa using e);exact⟨v,by simpa using z⟩
noncomputable def rListD:List V→Hp→VK→Prop:=λxs H Q=>∃a kvs,xs=[V.ref a]∧H a=some (.dK kvs)∧∀l,H l=none→Q (.ref l) (upd H l (.lst (kvs.map λkv=>kV kv.1)))
theorem yn(br:X.calm=true):YJ X (.type "list") rListD:=by
 intro ah s af H xs us Q I r h;obtain⟨a,kvs,rfl,bB,q⟩:=h;obtain⟨u,rfl,dX⟩:=Wd r;cases dX;obtain⟨z,hd,vs,rel,dd⟩:=ZbG I.hok bB;obtain⟨ep,dU⟩:=dd.dictAt;refine kdl_call (PySem.W.kdl_dict (knd:=dZ X.prog X.w) (kvs:=vs) (ep:=ep) hd) (I.ok.hd br) dU (by rw[←rel.length];exact z) λh' bT cW c bp nn gX=>?_;refine⟨.ref s.heap.objs.size,_,I.laid (a:=s.heap.objs.size) (o:= .lst (kvs.map λkv=>kV kv.1)) (t':=bT) bp (QQ _) ⟨by rw[QM];exact z,cW.toList,c,?_,by simpa using nn⟩,rfl,q _ (I.hok.fresh (QQ _))⟩;refine pB (by rw[Rx,gX.1,QM,rel.length]) λj v u bD bI=>?_;obtain⟨k,x,a_,kn⟩:=gX.2 j u (by rw[←RJ];exact bI);obtain⟨jA,hv⟩:=rel.at a_;rw[QX,hv] at bD;cases bD;exact t7 kn
end
section
variable {X:Cx}{ah:List (Addr×Obj)}{af:List (Option V)}{H ae:Hp}{s:Shared}{h':Heap}
theorem Inv.turnedL{t':Nat}{fp:List Addr}(I:Inv X ah af H s)(k:∀b o,b∉fp→s.heap.get? b=some o→h'.get? b=some o)(bE:∀b∈fp,gg X ah H b):Inv X ah af H {s with heap:=h',toks:=t'}:=by
 have oy:∀b u,H b=some u→b∉fp:=λb u e z=>by rw[(bE b z).1] at e;cases e
 refine I.step (g':=s.gens) (d':=s.drawn) (ch:=fp) (λb ao=>?_) (λb o _ _ br e _=>k b o br e) (λb o _ _ br e _=>⟨o.slots,k b o br e⟩) (λ_ _ _ _ n=>n)
  (λb o br e=>⟨o,k b o br e⟩) (λ_ _ e=>e) (λ_ _ _ e=>e) (λb b1 e=>⟨#[],by rw[e];simp⟩) (λm bv=>?_) (λb u e=>?_) I.bare
 ·obtain⟨dz,f1,f2,c7,d7,dS⟩:=bE b ao;exact⟨c7,f1,d7,dS⟩
 ·obtain⟨o,bx,ep,bC,r⟩:=bv;exact⟨o,bx,ep,k _ o (λz=>(bE _ z).2.1 rfl) bC,r⟩
 ·refine(I.hok b u e).stay (λc v br q=>k c v ?_ q) (λ_ q=>q) λ_ _ q=>q;rcases br with z|z
  ·rw[z];exact oy b u e
  ·exact oy c _ z
theorem Inv.turnedNew{t':Nat}{fp:List Addr}{T:Addr}{o:HO}(I:Inv X ah af H s)(k:∀b o,b∉fp→s.heap.get? b=some o→h'.get? b=some o)(bE:∀b∈fp,gg X ah H b)(bz:s.heap.objs.size≤T)(new:ZW X.prog X.w (upd H T o) h' T o):
  Inv X ah af (upd H T o) {s with heap:=h',toks:=t'}:=by
 have J:Inv X ah af H {s with heap:=h',toks:=t'}:=I.turnedL k bE;have bG:=I.hok.fresh bz;obtain⟨dz,f1,f2,c7,d7,dS⟩:=I.fpOk bz bG;refine Inv.step (s:={s with heap:=h',toks:=t'}) (h':=h') (g':=s.gens) (d':=s.drawn) (t':=t') (ch:=[T]) J (λb ao=>?_) (λb o _ _ br e _=>e) (λb o _ _ br e _=>⟨o.slots,e⟩) (λb o br e n=>?_)
  (λb o br e=>⟨o,e⟩) (λb xs e=>?_) (λb o u e=>?_) (λb b1 e=>⟨#[],?_⟩) (λm bv=>bv) (λb u e=>?_) I.bare
 ·have e:b=T:=by simpa using ao
  subst e;exact⟨c7,f1,d7,dS⟩
 ·rw[bW (λz=>br (by simp[z]))];exact n
 ·rw[bW (cT e bG)];exact e
 ·rw[bW (cT e bG)];exact e
 ·rw[bW (cT e bG)];simpa using e
 ·by_cases ao:b=T
  ·subst ao;rw[Zd] at e;cases e;exact new
  ·rw[bW ao] at e;exact(J.hok b u e).stay (λc v _ q=>q) (λc q=>by rw[bW (cT q bG)];exact q) λc xs q=>by rw[bW (cT q bG)];exact q
end
noncomputable def Ite (K:Frag) (a:Addr):It:=
 ⟨λi H=>∃xs x,SqL K H a xs∧xs[i]? =some x,λi H v ae=>∃t x,H t=none∧v= .ref t∧ae=upd H t (.tup [.int i,x])∧∀xs,SqL K H a xs→xs[i]? =some x,λi H=>∃xs,SqL K H a xs∧xs.length≤i⟩
theorem Eo{P:Program}{w:World}{K:Frag}{mx:List Expr}{k1:Nat}{pos:Pos}(a e it:Addr)(yo:e≠it):UF P w K (.Tuple mx k1 pos) (Ite K a) [e,it] e (λi h=>(∃hq,IsEnum h e it i hq)∧h.IsListIter it a i) where
 mem:=by simp
 obj:=λi h st b ao=>by
  obtain⟨⟨hq,bH⟩,o,ap,a',bU⟩:=st;rcases QW.mp ao with rfl|ao
  ·exact⟨_,bH,λv z=>by
    have fZ:Data.fields _=Data.cell v:=z;cases fZ⟩
  ·rw[QS.mp ao];exact⟨o,ap,λv z=>by rw[bU] at z;cases z⟩
 keep:=λi h h' st k=>⟨let⟨hq,bH⟩:=st.1;⟨hq,k e (by simp) _ bH⟩,st.2.at λo q=>k it (by simp) o q⟩
 item:=by
  intro X dR hw eb br i ah s af H E I bE st bF;subst dR hw eb;obtain⟨xs,x,cq,a_⟩:=bF;obtain⟨its,cZ,p,hz⟩:=I.list cq;obtain⟨u,hu,dX⟩:=cZ.get a_;obtain⟨⟨hq,bH⟩,dD⟩:=st;refine wpAny_pyNext_enum_item bH dD p.isList (x:=u) (by simpa using hu) yo λh' bC hit' c1 hsz bp=>?_;have e0:=I.hok.fresh (QQ s.heap.objs.size);have yp:e<s.heap.objs.size:=Heap.lt_size bH;have re:it<s.heap.objs.size:=by obtain⟨_,y,_⟩:=dD;exact Heap.lt_size y
  refine⟨_,rfl,wpAny_letOwnedTupleGo_enum bC λa' ko ii=>?_⟩;have rf:a'.get? s.heap.objs.size=some {cls:= .type "tuple",data:= .seq #[.int i s.toks,u]}:=ii.extBut _ _ (qaz yp) c1;have bK:Inv X ah af (upd H s.heap.objs.size (.tup [.int i,x])) {s with heap:=a',toks:=s.toks+1}:=
   I.turnedNew (fp:=[e,it]) (λb o ao q=>by
    have hE:b≠e:=λz=>ao (by simp[z]);have hx:b≠it:=λz=>ao (by simp[z]);exact ii.extBut b o hE (bp b o hE hx q)) bE (QQ _) ⟨by show 2≤sizeLine;decide,[.int i s.toks,u],.cons ⟨_,rfl⟩ (.cons dX .nil),_,rf,rfl,_,rfl⟩
  refine⟨.ref s.heap.objs.size,_,bK,rfl,⟨_,x,e0,rfl,rfl,λys bP=>by rw[I.list_inj bP cq];exact a_⟩,⟨⟨_,ko⟩,hit'.at λo q=>ii.extBut _ _ yo.symm q⟩,λb ao=>?_⟩;have pC:b≠s.heap.objs.size:=by
   rcases QW.mp ao with rfl|ao
   ·exact Q0 yp
   ·rw[QS.mp ao];exact Q0 re
  rw[bW pC];exact(bE b ao).1
 done:=by
  intro X dR hw eb br i ah s af H E I bE st bF;subst dR hw eb;obtain⟨xs,cq,a_⟩:=bF;obtain⟨its,cZ,p,hz⟩:=I.list cq;obtain⟨⟨hq,bH⟩,dD⟩:=st;have ag:=cZ.length;exact wpAny_pyNext_enum_end (I.ok.hd br) bH dD p.isList (by simp;omega) λh' cP=>⟨rfl,I.turnedL (t':=s.toks) (fp:=[e,it]) (λb o ao q=>cP b o (λz=>ao (by simp[z])) q) bE⟩
 self:=λ_ _ _ _ _ st h=>wpAny_pyIter_enum st.1.choose_spec h
section
variable {X:Cx}
noncomputable def yq (K:Frag) (b0:TA):TI:=λaf H R=>b0 af H λvs ax=>∃a,vs=[.ref a]∧(∃xs,SqL K ax a xs)∧R (Ite K a) ax
theorem my{K:Frag}{a:Expr}{b0:TA}{p pos l5:Pos}{mx:List Expr}{k1:Nat}(eD:X.K=K)(bF:Gl X "enumerate")(bv:X.mg "enumerate" =none)(bB:PA X [a] b0)(hs:starEach [a] X.env=[(false,eval a X.env)]:=by rfl):
  PI X (.Tuple mx k1 l5) (.Call (.Name "enumerate" p) [a] [] pos) (yq K b0):=by
 subst eD;intro ah s af H R I h;refine Call_ (hn I bF bv boot_enumerate (Rg (thn (bB pos ah s af H _ I h) λus bq ⟨vs,ax,bK,cj,b_⟩=>?_) hs rfl));obtain⟨b,rfl,⟨xs,cq⟩,q⟩:=b_;obtain⟨u,rfl,dX⟩:=Wd cj;cases dX;obtain⟨its,cZ,pl,hz⟩:=bK.list cq;refine call_enumerate_list pl.isList λh' bH dD hsz bp=>?_;refine wpAny_pyIter_enum bH ?_;have cB:Inv X ah af ax {bq with heap:=h'}:=bK.kept (t':=bq.toks) bp;refine⟨bq.heap.objs.size+1,[bq.heap.objs.size+1,bq.heap.objs.size],_,_,ax,rfl,cB,Eo b _ _ (Nat.succ_ne_self _),⟨⟨_,bH⟩,dD⟩,λc br=>?_,q⟩;rcases QW.mp br with rfl|br
 ·exact bK.fpOk (qaH _) (bK.hok.fresh (qaH _))
 ·rw[QS.mp br];exact bK.fpOk (QQ _) (bK.hok.fresh (QQ _))
end
noncomputable def rLenD:List V→Hp→VK→Prop:=λxs H Q=>∃a kvs,xs=[V.ref a]∧H a=some (.dK kvs)∧Q (.int kvs.length) H
theorem ZhU{X:Cx}:YJ X (.builtin "len") rLenD:=D3
noncomputable def lm (n:Nat) (ix:List Nat) (af:St):St:=List.replicate n none++ix.map λj=>(af[j]?).join
noncomputable def t8 (n:Nat) (ix:List Nat) (ed:TI) (g:TG) (df:TT) (cu:TE):TE:=λaf H Q=>ed af H λJ ax=>∀p,ax p=none→
 ∃W:Nat→Nat→List V→St→Hp→Prop,(∃m,W 0 m [] (lm n ix af) (upd ax p (.lst [])))∧∀i m ys bQ ae,W i m ys bQ ae→
  (J.stop i ae∧Q (.ref p) ae)∨(J.go i ae∧∀x bo,J.yld i ae x bo→g x bQ bo λcs b2=>df cs b2 λb b7=>
   if b=true then cu cs b7 λv bY=>bY p=some (.lst ys)∧ys.length<sizeLine∧∃cn,cn<m∧W (i+1) cn (ys++ [v]) cs (upd bY p (.lst (ys++ [v])))
   else ∃cn,cn<m∧W (i+1) cn ys cs b7)
section
variable {X:Cx}
theorem ZgE{ah:List (Addr×Obj)}{af:St}{H:Hp}{s:Shared}{b4:Scope}{x:Str}{xs:List Str}{zs:List Str}{ix:List Nat}{cl:List (Str×Addr)}{fp:List Addr}{h₁:Heap}{bT:Nat}
  (S:YZ X b4 x zs ix) (I:Inv X ah af H s) (ey:∀y c,cl.lookup y=some c→X.env.cells.lookup y=some c) (gT:∀y,(y,NameKind.free)∈b4.names→∃c,cl.lookup y=some c)
  (gG:∀b∈fp,gg X ah H b∧b<s.heap.objs.size) (ke:h₁.Ns s.heap.objs.size λ_=>none) (bp:∀b o,s.heap.get? b=some o→h₁.get? b=some o):
  Inv (Zl X b4 cl s.heap.objs.size (xs++zs) s H fp) [] (lm xs.length ix af) H {s with heap:=h₁,toks:=bT}:=by
 have sub:∀b∈frs X.stack,b∈X.env.locals::X.fs:=I.stkSub;have tH:∀b∈fp,b∉frs X.stack:=λb ao z=>by
  obtain⟨⟨_,f1,f2,_⟩,_⟩:=gG b ao;rcases QW.mp (sub b z) with e|e
  ·exact f1 e
  ·exact f2 e
 have cut:∀y,(Zl X b4 cl s.heap.objs.size (xs++zs) s H fp).env.kindOf y=some .cell∨(Zl X b4 cl s.heap.objs.size (xs++zs) s H fp).env.kindOf y=some .free→∃c,cl.lookup y=some c:=λy bP=>by
  have q:∃k,(relabel b4 X.env).names.lookup y=some k∧(k= .cell∨k= .free):=by
   rcases bP with bP|bP
   ·exact⟨_,bP,.inl rfl⟩
   ·exact⟨_,bP,.inr rfl⟩
  obtain⟨k,e,bp⟩:=q;obtain⟨k',b6,q⟩:=Wk e;have:k'= .free:=by
   rcases q with q|⟨q,_⟩
   ·rcases bp with z|z
    ·exact absurd (q.symm.trans z) (S.nocell _ (lc b6))
    ·exact q.symm.trans z
   ·exact q
  subst this;exact gT y (lc b6)
 refine⟨⟨I.ok.mod,S.kind,I.ok.glob,I.ok.blt,QQ _,λy z c ap a'=>I.ok.inj y z c (ey _ _ ap) (ey _ _ a'),cut,λy c bE _=>?_,I.ok.hd,I.ok.frames,.inl rfl,λb ao=>?_,I.bs,QZ I.ok.bsz I.sz,λb o e ao=>?_,tH,I.stack,I.stkFree⟩,
  rfl,I.bare,Un.kept bp,⟨_,ke,λi y v ap a' bU=>?_⟩,λy c h=>?_,I.hok.fresh (QQ _),λy c h=>I.freeC y c (ey y c h),λp bz=>absurd (show p∈([]:List (Addr×Obj)) from bz) (by simp),I.hok.kept bp,?_⟩
 ·exact absurd (show false=true from bE) (by decide)
 ·obtain⟨⟨dz,f1,f2,c7,d7,dS⟩,ag⟩:=gG b ao;exact⟨Q0 ag,λy c h=>d7 y c (ey y c h)⟩
 ·obtain⟨⟨dz,f1,f2,c7,d7,dS⟩,ag⟩:=gG b ao;rcases c7 with z|z
  ·exact I.ok.noex b o e z
  ·exact absurd (QU (Heap.lt_size e) (QZ I.ok.bsz z)) (RU _)
 ·
  have d1:xs.length≤i:=by
   rcases qap i xs.length with z|z
   ·have gU:(List.replicate xs.length none++ix.map λj=>(af[j]?).join)[i]? =some (some v):=a';rw[Ry (by rw[RT];exact z),List.getElem?_replicate,if_pos z] at gU;cases gU
   ·exact z
  ·obtain⟨i,rfl⟩:∃rb,i=xs.length+rb:=⟨i-xs.length,by omega⟩;have lf:zs[i]? =some y:=by
    have lf:(xs++zs)[xs.length+i]? =some y:=ap;rw[Rw (Nat.le_add_right _ _),Nat.add_sub_cancel_left] at lf;exact lf
   have gU:(ix.map λj=>(af[j]?).join)[i]? =some (some v):=by
    have gU:(List.replicate xs.length none++ix.map λj=>(af[j]?).join)[xs.length+i]? =some (some v):=a';rw[Rw (by rw[RT];exact Nat.le_add_right _ _),RT,Nat.add_sub_cancel_left] at gU;exact gU
   have bB:(ix.map λj=>X.N[j]?)[i]? =some (some y):=by rw[S.at_,QX,lf];rfl
   rw[QX] at gU bB;cases e:ix[i]? with
   |none=>rw[e] at gU;cases gU
   |some j=>
    rw[e] at gU bB;have fO:X.N[j]? =some y:=Q2 bB;have bw:(af[j]?).join=some v:=Q2 gU;have tI:af[j]? =some (some v):=by
     cases q:af[j]? with
     |none=>rw[q] at bw;cases bw
     |some o=>rw[q] at bw;exact congrArg some bw
    obtain⟨m,bG,ag⟩:=I.loc;have e0:=S.zfree y (Q6 lf);have l':=S.free _ (lc e0) rfl;have b8:Vis X.env.scope y:=by
     rcases l' with z|z
     ·exact .inr (.inl z)
     ·exact .inr (.inr z)
    obtain⟨u,r,q⟩:=ag j y v fO tI b8;refine⟨u,r,?_⟩;rcases q with⟨tJ,_⟩|⟨_,c,br,kX⟩
    ·have pa:X.env.kindOf y=some .local:=tJ;rcases l' with z|z<;>(rw[z] at pa;cases pa)
    ·obtain⟨cR,jC⟩:=gT y (lc e0);have iQ:cR=c:=by have:=ey y cR jC;rw[br] at this;exact(Q2 this).symm
     subst iQ;refine .inr ⟨?_,cR,jC,?_⟩
     ·have tK:Vis (relabel b4 X.env) y:=bU;rcases tK with z|z|z
      ·obtain⟨k',b6,q⟩:=Wk z;rw[e0] at b6;cases b6;rcases q with q|⟨_,q⟩<;>cases q
      ·exact .inl z
      ·exact .inr z
     ·obtain⟨o,bC,hd⟩:=kX;exact⟨o,bp _ _ bC,hd⟩
 ·obtain⟨v,o,bC,hd⟩:=I.cell y c (ey y c h);exact⟨v,o,bp _ _ bC,hd⟩
 ·show(List.replicate xs.length none++ix.map λj=>(af[j]?).join).length=(xs++zs).length;have:=congrArg List.length S.at_;simp only[QM] at this;simp only[Rj,RT,QM,this]
theorem Zce{ah:List (Addr×Obj)}{af:St}{H:Hp}{s:Shared}{b4:Scope}{x:Str}{xs:List Str}{zs:List Str}{ix:List Nat}{cl:List (Str×Addr)}{fp:List Addr}{it:Addr}{dI:Nat→Heap→Prop}{J:It}
  {eL cN d6:Expr} {ifs:List Expr} {pos:Pos} {g:TG} {df:TT} {cu:TE} {Q:VK} {E:Value→Shared→Prop} {RR:Value→Addr→Result→Shared→Prop}
  (br:X.calm=true) (S:YZ X b4 x zs ix) (I:Inv X ah af H s) (ey:∀y c,cl.lookup y=some c→X.env.cells.lookup y=some c) (gT:∀y,(y,NameKind.free)∈b4.names→∃c,cl.lookup y=some c)
  (T:UF X.prog X.w X.K cN J fp it dI) (st:dI 0 s.heap) (gG:∀b∈fp,gg X ah H b)
  (ez:∀C s H,PG (Zl X b4 cl C (xs++zs) s H fp) cN g∧PIf (Zl X b4 cl C (xs++zs) s H fp) ifs df∧PE (Zl X b4 cl C (xs++zs) s H fp) eL cu)
  (cq:∀p,H p=none→∃W:Nat→Nat→List V→St→Hp→Prop,(∃m,W 0 m [] (lm xs.length ix af) (upd H p (.lst [])))∧∀i m ys bQ ae,W i m ys bQ ae→
   (J.stop i ae∧Q (.ref p) ae)∨(J.go i ae∧∀x bo,J.yld i ae x bo→g x bQ bo λcs b2=>df cs b2 λb b7=>
    if b=true then cu cs b7 λv bY=>bY p=some (.lst ys)∧ys.length<sizeLine∧∃cn,cn<m∧W (i+1) cn (ys++ [v]) cs (upd bY p (.lst (ys++ [v])))
    else ∃cn,cn<m∧W (i+1) cn ys cs b7))
  (de:∀cW C f s',xT X ah af Q cW C s'→RR cW C (.ok f) s'):
  wpAny (model X.prog X.w) X.A (newList []) (λcW ie=>wpAny (model X.prog X.w) X.A (newFunctionEnv b4 X.env.globals cl [] X.env.qual none .none (some X.env)) (λpb nw=>
   codeAny (model X.prog X.w) X.A (.compStart (.ListComp eL [⟨cN,d6,ifs,0⟩] b4 pos) 0 (.ref it) cW {pb with scope:=relabel b4 X.env}) (RR cW pb.locals) nw) E ie) E s:=by
 refine wpAny_newObj_type (wpAny_newFunctionEnv S.nocell (by intro y bP;simp at bP) (λh₁ hns₁ pc=>?_) S.kind);have dk:Inv X ah af (upd H s.heap.objs.size (.lst [])) {s with heap:=s.heap.push {cls:= .type "list",dict:=none,data:= .seq ([]:List Value).toArray}}:=I.lnew (its:=[]) (ys:=[]) (t':=s.toks) .nil (Q5 _);dsimp only at hns₁ pc⊢;obtain⟨W,⟨g8,eQ⟩,turn⟩:=cq s.heap.objs.size (I.hok.fresh (QQ _));have lt:∀b∈fp,b<s.heap.objs.size:=λb ao=>by
  obtain⟨o,e,_⟩:=T.obj 0 s.heap st b ao;exact Heap.lt_size e
 have ny:∀b∈fp,∀o,(upd H s.heap.objs.size o) b=H b:=λb ao o=>bW (Q0 (lt b ao));have kp:∀b o,(s.heap.push {cls:= .type "list",dict:=none,data:= .seq ([]:List Value).toArray}).get? b=some o→h₁.get? b=some o:=λb o e=>
  pc.extBut b o (Q0 (Heap.lt_size e)) (Heap.get?_push_of_some _ e)
 have c7:∀b∈fp,gg X ah (upd H s.heap.objs.size (.lst [])) b∧b<(s.heap.push {cls:= .type "list",dict:=none,data:= .seq ([]:List Value).toArray}).objs.size:=λb ao=>by
  obtain⟨tL,q⟩:=gG b ao;refine⟨⟨(ny b ao _).trans tL,q⟩,?_⟩;rw[Heap.size_push];exact RS (lt b ao)
 generalize jJ:({s with heap:=s.heap.push {cls:= .type "list",dict:=none,data:= .seq ([]:List Value).toArray}}:Shared)=bO at dk;have pd:s.heap.push {cls:= .type "list",dict:=none,data:= .seq ([]:List Value).toArray}=bO.heap:=by rw[←jJ]
 rw[pd] at kp c7 hns₁⊢;have jE:dI 0 h₁:=T.keep 0 _ _ st λb _ o e=>kp b o (by rw[←pd];exact Heap.get?_push_of_some _ e);have kg:Inv (Zl X b4 cl bO.heap.objs.size (xs++zs) bO (upd H s.heap.objs.size (.lst [])) fp) [] (lm xs.length ix af) (upd H s.heap.objs.size (.lst [])) {bO with heap:=h₁,toks:=bO.toks}:=
  ZgE S dk ey gT c7 hns₁ kp
 obtain⟨bF,tM,bH⟩:=ez bO.heap.objs.size bO (upd H s.heap.objs.size (.lst []));have mj:∀{ae:Hp},(∀b∈fp,ae b=none)→∀b∈fp,gg (Zl X b4 cl bO.heap.objs.size (xs++zs) bO (upd H s.heap.objs.size (.lst [])) fp) [] ae b:=λ{ae} bG b ao=>
  ⟨bG b ao,(kg.ok.exf b ao).1,kg.ok.exfs b ao,.inl ao,(kg.ok.exf b ao).2,λp bz=>absurd (show p∈([]:List (Addr×Obj)) from bz) (by simp)⟩
 have pe:∀b9:Shared,b9={bO with heap:=h₁,toks:=bO.toks}→
   codeAny (model X.prog X.w) X.A (.compLoop (.ListComp eL [⟨cN,d6,ifs,0⟩] b4 pos) 0 (.ref it) (.ref s.heap.objs.size) (compEnvC b4 cl bO.heap.objs.size X.env)) (RR (.ref s.heap.objs.size) bO.heap.objs.size) b9:=by
  rintro b9 rfl;refine ZaZ (λn s'=>∃i ys bQ ae,Inv (Zl X b4 cl bO.heap.objs.size (xs++zs) bO (upd H s.heap.objs.size (.lst [])) fp) [] bQ ae s'∧dI i s'.heap∧(∀b∈fp,ae b=none)∧W i n ys bQ ae) ?_ g8
   ⟨0,[],lm xs.length ix af,_,kg,jE,λb ao=>(c7 b ao).1.1,eQ⟩
  rintro n cC ⟨i,ys,kh,bY,iL,j8,ht,tN⟩;rcases turn i n ys kh bY tN with⟨stop,l8⟩|⟨go,step⟩
  ·refine thn (T.done (Zl X b4 cl bO.heap.objs.size (xs++zs) bO (upd H s.heap.objs.size (.lst [])) fp) rfl rfl rfl br i [] cC kh bY _ iL (mj ht) j8 stop) λr du ⟨bn,gf⟩=>?_;subst bn;obtain⟨tO,pf,_⟩:=gf.loc;refine de _ _ _ _ ⟨s.heap.objs.size,bY,tO,rfl,pf,?_,dk.fpOk (QQ _) gf.free,l8⟩;exact dk.call' gf.os gf.base gf.hok gf.bare λb ao=>by
    obtain⟨⟨dz,f1,f2,c7,d7,dS⟩,_⟩:=c7 b ao;exact⟨c7,f1,d7,dS⟩
  ·refine thn (T.item (Zl X b4 cl bO.heap.objs.size (xs++zs) bO (upd H s.heap.objs.size (.lst [])) fp) rfl rfl rfl br i [] cC kh bY _ iL (mj ht) j8 go) λr du ⟨u,bn,c'⟩=>?_;subst bn;refine thn c' λ_ dn ⟨x7,dh,gR,k6,tP,ml,ph⟩=>?_;have tQ:=gR.pinned (mj ph) (T.obj _ _ ml);refine thn (bF _ dn kh dh x7 u _ tQ k6 (step x7 dh tP)) λ_ er ⟨mm,dL,pi,tR⟩=>?_;refine thn (tM _ er mm dL _ pi tR) λb fj ⟨eC,pj,ki⟩=>?_;have again:∀{mo:List V}{bQ:St}{ae:Hp}{cn:Nat}{s':Shared},Inv (Zl X b4 cl bO.heap.objs.size (xs++zs) bO (upd H s.heap.objs.size (.lst [])) fp) ([]++Zag fp dn.heap) bQ ae s'→W (i+1) cn mo bQ ae→cn<n→
     ∃m,m<n∧∃i ys bQ ae,Inv (Zl X b4 cl bO.heap.objs.size (xs++zs) bO (upd H s.heap.objs.size (.lst [])) fp) [] bQ ae s'∧dI i s'.heap∧(∀b∈fp,ae b=none)∧W i m ys bQ ae:=λ{mo bQ ae cn s'} Iz je bv=>by
    refine⟨cn,bv,i+1,mo,bQ,ae,Iz.unpinned,T.keep _ _ _ ml λb ao o e=>(Iz.pin (b,o) (Q9 _ (Q9 _ (nh ao e)))).1,λb ao=>?_,je⟩;obtain⟨o,e,d⟩:=T.obj _ _ ml b ao;exact(Iz.pin (b,o) (Q9 _ (Q9 _ (nh ao e)))).2.1
   cases b with
   |false=>
    rw[if_neg QY] at ki⊢;obtain⟨cn,bv,je⟩:=ki;exact again pj je bv
   |true=>
    rw[if_pos rfl] at ki⊢;refine thn (bH _ fj mm eC _ pj ki) λv fP ⟨y,e1,tS,tT,ag,hz,cn,bv,je⟩=>?_;refine thn (ha _ fP mm e1 (.ref s.heap.objs.size) [y] (.ref s.heap.objs.size) [v] (λz ae=>z= .non∧ae=upd e1 s.heap.objs.size (.lst (ys++ [y]))) tS rfl (.cons tT .nil) ⟨_,ys,y,rfl,rfl,ag,hz,rfl,rfl⟩) λ_ jK ⟨z,fz,tU,_,_,tV⟩=>?_;subst tV;exact again tU je bv
 exact codeAny_compStart_list (pe _ (by subst jJ;rfl)) (T.self _ 0 _ _ _ jE (pe _ (by subst jJ;rfl)))
theorem ln{eL cN d6:Expr}{ifs:List Expr}{b4:Scope}{pos:Pos}{x:Str}{xs:List Str}{zs:List Str}{ix:List Nat}{ed:TI}{g:TG}{df:TT}{cu:TE}
  (br:X.calm=true) (S:YZ X b4 x zs ix) (hi:PI X cN d6 ed)
  (ez:∀cl C s H fp,PG (Zl X b4 cl C (xs++zs) s H fp) cN g∧PIf (Zl X b4 cl C (xs++zs) s H fp) ifs df∧PE (Zl X b4 cl C (xs++zs) s H fp) eL cu)
  (hs:∀x,foldedSetIterable d6 X.env x=pure x:=by intro _;rfl):
  PE X (.ListComp eL [⟨cN,d6,ifs,0⟩] b4 pos) (t8 xs.length ix ed g df cu):=by
 intro ah s af H Q I h;obtain⟨cl,mq,ey,gT⟩:=Vx I.ok S;rw[eval_ListComp];refine wpAny_comprehension_free (use:=none) rfl hs mq S.kind S.names (thn (hi ah s af H _ I h) λv bq ap=>thn ap λng bJ a'=>?_);obtain⟨it,fp,dI,J,bo,e,cB,T,j7,f2,cq⟩:=a';subst e;refine Zce (RR:=λcW C=>compPost (model X.prog X.w) X.A X.xe none (EP X ah af Q) cW C) br S cB ey gT T j7 f2 (λC s H=>ez cl C s H fp) cq λcW C f s' h=>?_;obtain⟨p,ae,m,rfl,bv,d0,⟨dC,g1,g2,g3,hC,mu⟩,q⟩:=h;exact⟨m,bv,λh' ao=>⟨.ref p,ae,d0.turned (t':=s'.toks) (λb o eu e=>(ao.2 b eu).trans e) dC g1 g3 hC mu,rfl,q⟩⟩
theorem t9{eL cN d6:Expr}{ifs:List Expr}{b4:Scope}{pos py pk:Pos}{x y:Str}{xs:List Str}{zs:List Str}{ix:List Nat}{ed:TI}{g:TG}{df:TT}{cu:TE}{j:Nat}
  (br:X.calm=true) (S:YZ X b4 x zs ix) (hi:PI X cN d6 ed)
  (ez:∀cl C s H fp,PG (Zl X b4 cl C (xs++zs) s H fp) cN g∧PIf (Zl X b4 cl C (xs++zs) s H fp) ifs df∧PE (Zl X b4 cl C (xs++zs) s H fp) eL cu)
  (dx:X.N.Nodup) (bw:X.N[j]? =some y) (bP:Loc X.env.scope y)
  (tX:swapsWith (.ListComp eL [⟨cN,d6,ifs,0⟩] b4 pos) (some (.Name y py)) pk.line X.env=pure true:=by rfl)
  (bE:X.fn y=true∨X.env.scope.names.lookup y=some .local:=by first|exact .inl rfl|exact .inr rfl|assumption)
  (hs:∀x,foldedSetIterable d6 X.env x=pure x:=by intro _;rfl):
  PS X (.Assign [.Name y py] (.ListComp eL [⟨cN,d6,ifs,0⟩] b4 pos) pk) (oN (t8 xs.length ix ed g df cu) (Vf j)):=by
 intro ah s af H D I h;obtain⟨cl,mq,ey,gT⟩:=Vx I.ok S;rw[exec_Assign_Name_used _ _ _ _ tX];refine wpAny_bind (wpAny_standAt (wpAny_bind ?_));show wpAny _ X.A (do let _←comprehension (.ListComp eL [⟨cN,d6,ifs,0⟩] b4 pos) b4 X.env _ (newList []) false (eval d6 X.env) (some (assign (.Name y py) X.env))) _ _ s;refine wpAny_bind (wpAny_mono (wpAny_comprehension_free (use:=some (assign (.Name y py) X.env)) (Q:=λ_ s'=>SP X ah D .next s') rfl hs mq S.kind S.names
  (thn (hi ah s af H _ I h) λv bq ap=>thn ap λng bJ a'=>?_)) (λ_ s' cq=>wpAny_pure (wpAny_pure cq)) λ_ _ e=>e)
 obtain⟨it,fp,dI,J,bo,e,cB,T,j7,f2,cq⟩:=a';subst e;refine Zce (Q:=λx ax=>Vf j x af ax D.nx) (RR:=λcW C=>compPost (model X.prog X.w) X.A X.xe (some (assign (.Name y py) X.env)) (λ_ s'=>SP X ah D .next s') cW C) br S cB ey gT T j7 f2 (λC s H=>ez cl C s H fp) cq λcW C f s' h=>?_;obtain⟨p,ae,m,rfl,bv,d0,⟨dC,g1,g2,g3,hC,mu⟩,q⟩:=h;show wpAny _ X.A (assign (.Name y py) X.env (.ref p)) _ _ _;refine wpAny_assign_Name (s4 d0 dx bw bP (show cA (.ref p) (.ref p) from rfl) (λj' I'' ⟨c,tY,na⟩=>?_) bE);have eu:C≠c:=by
  rcases na with z|z
  ·rw[z];exact g1
  ·exact qao (hC _ _ z)
 exact⟨m,bv.sameBut tY eu,λh' ao=>⟨_,ae,I''.turned (t':=j'.toks) (λb o eu e=>(ao.2 b eu).trans e) dC g1 g3 hC mu,q⟩⟩
end
structure V0(J:It)(n:Nat)(y:Nat→Hp→V→Hp→Prop)(H:Hp):Prop where
 go:∀ae i,Ze H ae→i<n→J.go i ae
 yld:∀ae i x bo,Ze H ae→i<n→J.yld i ae x bo→y i ae x bo
 stop:∀ae,Ze H ae→J.stop n ae
theorem Walks.y{J:It}{n:Nat}{f:Nat→V}{H:Hp}(w:Walks J n f H):V0 J n (λi ae v bo=>bo=ae∧v=f i) H:=⟨w.go,w.yld,w.stop⟩
theorem mz{K:Frag}{a:Addr}{xs:List V}{H:Hp}(h:SqL K H a xs):V0 (Ite K a) xs.length (λi ae v bo=>∃t,ae t=none∧v= .ref t∧bo=upd ae t (.tup [.int i,xs.getD i .non])) H:=
 ⟨λae i e hi=>⟨xs,xs[i],e.seq h,by simp[hi]⟩,λae i x bo e hi ⟨t,z,b3,b8,a',hz⟩=>⟨t,b3,b8,by
  have:=hz xs (e.seq h);rw[a'];simp[List.getD,this]⟩,λae e=>⟨xs,e.seq h,QQ _⟩⟩
theorem YH{own:Nat}{ix:List Nat}{g:TG}{df:TT}{cu:TE}{Q:Addr→Hp→Prop}{af:St}{H:Hp}{J:It}{n:Nat}{y:Nat→Hp→V→Hp→Prop}(w:V0 J n y H)(bG:n<sizeLine)(s:Nat→List (Option V))(hs:∀i,(s i).length=own)(c:Nat→Bool)(R:Nat→V→Hp→Prop)
  (mono:∀i v ax bo,Ze ax bo→R i v ax→R i v bo)
  (bF:∀i a ae v bo (hg:St→Hp→Prop),i<n→Ze H ae→y i ae v bo→a.length=own→(∀b2,Ze ae b2→hg (s i++ix.map λj=>(af[j]?).join) b2)→g v (a++ix.map λj=>(af[j]?).join) bo hg)
  (br:∀i ae (c2:Bool→Hp→Prop),i<n→Ze H ae→(∀b7,Ze ae b7→c2 (c i) b7)→df (s i++ix.map λj=>(af[j]?).join) ae c2)
  (bH:∀p i ae (c2:VK),i<n→c i=true→H p=none→(∃ys,ae p=some (.lst ys))→Ze H ae→(∀v bY,Ze ae bY→R i v (hid bY p)→c2 v bY)→cu (s i++ix.map λj=>(af[j]?).join) ae c2)
  (q:∀p ae ys,H p=none→Ze H ae→ae p=some (.lst ys)→Paired (λi v=>R i v (hid ae p)) ((List.range n).filter c) ys→Q p ae):
  ∀p,H p=none→∃W:Nat→Nat→List V→St→Hp→Prop,(∃m,W 0 m [] (lm own ix af) (upd H p (.lst [])))∧∀i m ys bQ ae,W i m ys bQ ae→
   (J.stop i ae∧Q p ae)∨(J.go i ae∧∀x bo,J.yld i ae x bo→g x bQ bo λcs b2=>df cs b2 λb b7=>
    if b=true then cu cs b7 λv bY=>bY p=some (.lst ys)∧ys.length<sizeLine∧∃cn,cn<m∧W (i+1) cn (ys++ [v]) cs (upd bY p (.lst (ys++ [v])))
    else ∃cn,cn<m∧W (i+1) cn ys cs b7):=by
 intro p bz;have yr:∀{ax bo:Hp},Ze ax bo→Ze (hid ax p) (hid bo p):=λ{ax bo} e b o z=>by
  by_cases h:b=p
  ·rw[h,nC] at z;cases z
  ·rw[Yo h] at z⊢;exact e b o z
 have yt:∀{ax:Hp}{o:HO},Ze (hid ax p) (hid (upd ax p o) p):=λ{ax o} b u z=>by
  by_cases h:b=p
  ·rw[h,nC] at z;cases z
  ·rw[Yo h] at z⊢;rw[bW h];exact z
 refine⟨λi m ys bQ ae=>m=n-i∧i≤n∧(∃a,a.length=own∧bQ=a++ix.map λj=>(af[j]?).join)∧Ze H ae∧ae p=some (.lst ys)∧Paired (λi v=>R i v (hid ae p)) ((List.range i).filter c) ys,
  ⟨n,by simp,Q5 _,⟨List.replicate own none,RT,rfl⟩,cV bz,Zd,.nil⟩,?_⟩
 rintro i m ys bQ ae ⟨rfl,hi,⟨a,bB,rfl⟩,bS,bP,ag⟩
 by_cases cL:i<n
 ·refine .inr ⟨w.go ae i bS cL,λx bo pD=>?_⟩;have d1:ys.length≤i:=by
   rw[←Paired.length ag];exact QZ (Rm _ _) (by simp)
  refine bF i a ae x bo _ cL bS (w.yld ae i x bo bS cL pD) bB λb2 bO=>?_;refine br i b2 _ cL (bS.trans bO) λb7 b9=>?_;have mv:=(bS.trans bO).trans b9;have nA:=b9 _ _ (bO _ _ bP);have step:(List.range (i+1)).filter c=(List.range i).filter c++(if c i=true then[i] else[]):=by
   rw[qaa,qae]
   congr 1
   by_cases h:c i=true<;>simp[h]
  have iu:Paired (λi v=>R i v (hid b7 p)) ((List.range i).filter c) ys:=Paired.mapP ag λ_ _ z=>mono _ _ _ _ (yr (bO.trans b9)) z
  by_cases iR:c i=true
  ·rw[iR,if_pos rfl];refine bH p i b7 _ cL iR bz ⟨ys,nA⟩ mv λv bY cC oO=>⟨cC _ _ nA,by omega,n-(i+1),by omega,rfl,cL,⟨s i,hs i,rfl⟩,(mv.trans cC).new bz,Zd,?_⟩;rw[step,if_pos iR];exact Paired.snoc (Paired.mapP iu λ_ _ z=>mono _ _ _ _ ((yr cC).trans yt) z) (mono _ _ _ _ yt oO)
  ·have ps:c i=false:=by simpa using iR
   rw[ps,if_neg QY];refine⟨n-(i+1),by omega,rfl,cL,⟨s i,hs i,rfl⟩,mv,nA,?_⟩;rw[step,if_neg iR,qaB];exact iu
 ·have e:i=n:=by omega
  subst e;exact .inl ⟨w.stop ae bS,q p ae ys bz bS bP ag⟩
theorem yu{H:Hp}{p u:Addr}{o:HO}(h:∃ys,H p=some (.lst ys))(hu:H u=none):hid (upd H u o) p u=some o:=by
 have n:u≠p:=λz=>by
  obtain⟨ys,e⟩:=h;rw[←z,hu] at e;cases e
 rw[Yo n,Zd]
theorem t_{H ae:Hp}{p u:Addr}{o:HO}(h:∃ys,H p=some (.lst ys))(hu:H u=none)(fA:ae u=some o):hid ae p u=some o:=by
 have n:u≠p:=λz=>by
  obtain⟨ys,e⟩:=h;rw[←z,hu] at e;cases e
 rw[Yo n,fA]
theorem Ze8{H ae:Hp}{p b:Addr}{xs:List V}(h:∃ys,H p=some (.lst ys))(s:Ze H ae)(e:ae b=some (.tup xs)):hid ae p b=some (.tup xs):=by
 have n:b≠p:=λz=>by
  obtain⟨ys,b6⟩:=h;rw[z,s _ _ b6] at e;cases e
 rw[Yo n,e]
theorem rh{R:Nat→V→Hp→Prop}{H:Hp}{r:Nat→V}(h:∀i v,R i v H→v=r i):∀{is:List Nat}{ys:List V},Paired (λi v=>R i v H) is ys→ys=is.map r
 |_,_,.nil=>rfl
 |_,_,.cons a t=>by rw[h _ _ a,rh h t];rfl
theorem Wc{J:It}{n:Nat}{y:Nat→Hp→V→Hp→Prop}{H0:Hp}(w:V0 J n y H0){g:TG}{cz:TS}{D:W6}{af:St}{H:Hp}(Pv:Nat→St→Hp→Prop)(cw:Pv 0 af H)(bp:∀i af H,Pv i af H→Ze H0 H)
  (hs:∀i af H v ae,i<n→Pv i af H→y i H v ae→g v af ae λcs bo=>cz {D with nx:=Pv (i+1),ct:=Pv (i+1),bk:=D.nx} cs bo) (hd:∀af H,Pv n af H→D.nx af H):
  ∃W:Nat→Nat→St→Hp→Prop,(∃m,W 0 m af H)∧∀i m af H,W i m af H→
   (J.stop i H∧D.nx af H)∨(J.go i H∧∃N:St→Hp→Prop,(∀bQ ae,N bQ ae→∃cn,cn<m∧W (i+1) cn bQ ae)∧∀x ae,J.yld i H x ae→g x af ae λcs bo=>cz {D with nx:=N,ct:=N,bk:=D.nx} cs bo):=by
 refine⟨λi m af H=>m=n-i∧i≤n∧Pv i af H,⟨n,by simp,Q5 _,cw⟩,?_⟩;rintro i m af H ⟨rfl,hi,p⟩;have bS:=bp i af H p
 by_cases cL:i<n
 ·exact .inr ⟨w.go H i bS cL,Pv (i+1),λbQ ae f0=>⟨n-(i+1),by omega,rfl,cL,f0⟩,λx ae pD=>hs i af H x ae cL p (w.yld H i x ae bS cL pD)⟩
 ·have e:i=n:=by omega
  subst e;exact .inl ⟨w.stop H bS,hd af H p⟩
namespace Rd
section
variable {af:St}{H:Hp}{Q:VK}{D:W6}{K:Frag}
theorem Znw{n:Nat}{ix:List Nat}{ed:TI}{g:TG}{df:TT}{cu:TE}(h:ed af H λJ ax=>∀p,ax p=none→
 ∃W:Nat→Nat→List V→St→Hp→Prop,(∃m,W 0 m [] (lm n ix af) (upd ax p (.lst [])))∧∀i m ys bQ ae,W i m ys bQ ae→
  (J.stop i ae∧Q (.ref p) ae)∨(J.go i ae∧∀x bo,J.yld i ae x bo→g x bQ bo λcs b2=>df cs b2 λb b7=>
   if b=true then cu cs b7 λv bY=>bY p=some (.lst ys)∧ys.length<sizeLine∧∃cn,cn<m∧W (i+1) cn (ys++ [v]) cs (upd bY p (.lst (ys++ [v])))
   else ∃cn,cn<m∧W (i+1) cn ys cs b7)):t8 n ix ed g df cu af H Q:=h
theorem Zn4{fv:TA}{R:It→Hp→Prop}(h:fv af H λvs ax=>∃a,vs=[.ref a]∧(∃xs,SqL K ax a xs)∧R (Ite K a) ax):yq K fv af H R:=h
theorem Zmj{a:Addr}{xs:List V}{G:Addr→Prop}(h:SqL K H a xs)(q:G a):∃dq,[V.ref a]=[.ref dq]∧(∃xs,SqL K H dq xs)∧G dq:=⟨a,rfl,⟨xs,h⟩,q⟩
theorem Zoz(h:∀p,H p=none→Q (.ref p) (upd H p (.dK []))):tDNewK af H Q:=h
theorem Zn9{a:Addr}{kvs:List (Key×V)}{x:Str}(h:H a=some (.dK kvs))(q:Q (.bl (valV kvs (Sum.inr x)).isSome) H):rDIn (.str x) (.ref a) H Q:=⟨a,_,rfl,hU.k (k:=Sum.inr x) h,q⟩
theorem ZnY{a:Addr}{kvs:List (Key×V)}{x:Int}(h:H a=some (.dK kvs))(q:Q (.bl (!(valV kvs (Sum.inl x)).isSome)) H):rDNotIn (.int x) (.ref a) H Q:=⟨a,_,rfl,hU.k (k:=Sum.inl x) h,q⟩
theorem Zlj{a:Addr}{kvs:List (Key×V)}{x:Int}{v:V}(h:H a=some (.dK kvs))(e:valV kvs (Sum.inl x)=some v)(q:Q v H):rIxD (.ref a) (.int x) H Q:=⟨a,v,rfl,by rw[←e];exact hU.k (k:=Sum.inl x) h,q⟩
theorem ZnS{a:Addr}{kvs:List (Key×V)}{x:Str}{v:V}{Q:Hp→Prop}(h:H a=some (.dK kvs))(ag:kvs.length<sizeLine)(q:Q (upd H a (.dK (ec kvs (Sum.inr x) v)))):rSetD (.ref a) (.str x) v H Q:=⟨a,_,rfl,ZdN.k (k:=Sum.inr x) h ag,q⟩
theorem ZnR{a:Addr}{kvs:List (Key×V)}{x:Int}{v:V}{Q:Hp→Prop}(h:H a=some (.dK kvs))(ag:kvs.length<sizeLine)(q:Q (upd H a (.dK (ec kvs (Sum.inl x) v)))):rSetD (.ref a) (.int x) v H Q:=⟨a,_,rfl,ZdN.k (k:=Sum.inl x) h ag,q⟩
theorem Zou{a:Addr}{kvs:List (Key×V)}(h:H a=some (.dK kvs))(q:Q (.int kvs.length) H):rLenD [.ref a] H Q:=⟨a,kvs,rfl,h,q⟩
theorem ZnB{a:Addr}{kvs:List (Key×V)}(h:H a=some (.dK kvs))(q:∀l,H l=none→Q (.ref l) (upd H l (.lst (kvs.map λkv=>kV kv.1)))):rListD [.ref a] H Q:=⟨a,kvs,rfl,h,q⟩
theorem slT{a:Addr}{xs:List V}{lo hi:Option Int}(h:SqT K H a xs)(hw:¬(HT.sIx xs.length 0 lo=0∧HT.sIx xs.length xs.length hi=xs.length))(q:∀p,H p=none→Q (.ref p) (upd H p (.tup (jH xs lo hi)))):t5 K (.ref a) lo hi H Q:= .inr (.inl ⟨a,xs,rfl,h,hw,q⟩)
theorem ZoS{cj cM gE:R2}{a b:Addr}{xs ys:List V}(bB:SqT K H a xs)(ao:SqT K H b ys)(ap:xs≠[])(a':ys≠[])(ag:xs.length+ys.length≤sizeLine)(q:∀p,H p=none→Q (.ref p) (upd H p (.tup (xs++ys)))):
  rOr cj (rOr cM (rOr gE (o4 K))) (.ref a) (.ref b) H Q:= .inr (.inr (.inr ⟨a,b,xs,ys,rfl,rfl,bB,ao,ap,ag,λz=>absurd z a',λ_=>q⟩))
theorem Zoe{to fh cu:TE}{l2:V→V→Hp→VK→Prop}{l3:TIp}{l4:ZcA}(h:to af H λo ax=>fh af ax λi bo=>l2 o i bo λx b2=>cu af b2 λy b7=>l3 x y b7 λz bY=>l4 o i z bY λc5=>D.nx af c5):xh to fh cu l2 l3 l4 D af H:=h
theorem ipi{f:Int→Int→Int}{i j:Int}(q:Q (.int (f i j)) H):ipI f (.int i) (.int j) H Q:=⟨i,j,rfl,rfl,q⟩
end
end Rd
section
variable {X:Cx}
theorem Ep:Zj8 X (ZdU X.K):=by
 intro ah s af H o i dg fg Q I ro ri h;obtain⟨p,xs,k,z,rfl,rfl,cq,bH,q⟩:=h;cases ro;obtain⟨t,rfl⟩:=ri;obtain⟨its,r,pl,hz⟩:=I.list cq;obtain⟨j,ap,a',bU,cD,dJ⟩:=ZbH bH;obtain⟨w,gl,il⟩:=r.get a';have ag:=r.length;have bG:=j9;have dQ:EP X ah af Q w s:=⟨z,H,I,il,q⟩
 by_cases cw:0≤k
 ·have bw:k.toNat=j:=by
   rw[seqIndex_of cw dJ] at ap;exact Q2 ap
  exact wpAny_getItem_list pl.isList cw (by omega) (by rw[bw];simpa using gl) dQ
 ·have bw:(k+(its.toArray.size:Int)).toNat=j:=by
   rw[seqIndex_neg (by omega) cD] at ap;rw[QV,←ag];exact Q2 ap
  exact wpAny_getItem_list_neg pl.isList (by omega) (by rw[QV]<;>omega) (by omega) (by rw[bw];simpa using gl) dQ
theorem ua{K:Frag}(e:X.K=K):Zj8 X (ZdU K):=e▸Ep
end
section
variable {X:Cx}{K:Frag}
noncomputable def yv (b0:TA):TE:=λaf H Q=>b0 af H λvs ax=>∃n:Nat,vs=[.int n]∧n≤2 ^ 24∧∀l,ax l=none→Q (.ref l) (upd ax l (.lst ((List.range n).map λi:Nat=>V.int i)))
theorem Er{a:Expr}{b0:TA}{p eZ pos mA:Pos}(br:X.calm=true)(gY:Gl X "list")(iV:X.mg "list" =none)(bF:Gl X "range")(bv:X.mg "range" =none)(bB:PA X [a] b0)
  (hs:starEach [a] X.env=[(false,eval a X.env)]:=by rfl)
  (bH:starEach [Expr.Call (.Name "range" p) [a] [] pos] X.env=(false,eval (.Call (.Name "range" p) [a] [] pos) X.env)::starEach [] X.env:=by rfl):
  PE X (.Call (.Name "list" eZ) [.Call (.Name "range" p) [a] [] pos] [] mA) (yv b0):=by
 intro ah s af H Q I h;refine wpAny_Call_Name_kw (hn I gY iV boot_list ?_);refine Rg ?_ bH rfl;rw[bH];show wpAny _ _ (spliced ((false,eval (.Call (.Name "range" p) [a] [] pos) X.env):: [])) _ _ s;refine Calls.spliced_cons (Call_ (hn I bF bv boot_range (Rg (thn (bB pos ah s af H _ I h) λus bq ⟨vs,ax,bK,cj,b_⟩=>?_) hs rfl)));obtain⟨n,e,bG,q⟩:=b_;subst e;obtain⟨u,rfl,t,rfl⟩:=Wd cj;refine call_range_1 (Calls.spliced_nil ?_);refine call_list_range (bK.ok.hd br) (IsRange.new ..) (small_one (by omega) (by omega) (by omega) (by omega)) (n:=n) (by rw[rangeSize_one];split<;>omega) bG λh' bT cW cR bp db gX=>?_;have cB:Inv X ah af ax {bq with heap:=bq.heap.push {cls:= .type "range",data:= .fields #[.int 0 bq.toks,.int n t,.int 1 (bq.toks+1)]},toks:=bq.toks+1+1}:=bK.kept λb o e=>Heap.get?_push_of_some _ e;have hz:((List.range n).map λi:Nat=>V.int i).length≤sizeLine:=by
  rw[QM,R8,sizeLine_eq];omega
 refine⟨.ref (bq.heap.push {cls:= .type "range",data:= .fields #[.int 0 bq.toks,.int n t,.int 1 (bq.toks+1)]}).objs.size,_,cB.laid (a:=(bq.heap.push {cls:= .type "range",data:= .fields #[.int 0 bq.toks,.int n t,.int 1 (bq.toks+1)]}).objs.size) (o:= .lst ((List.range n).map λi:Nat=>V.int i)) (t':=bT) bp (QQ _) ⟨hz,cW.toList,cR,?_,by simpa using db⟩,rfl,q _ (cB.hok.fresh (QQ _))⟩;refine pB (by rw[Rx,gX.1,QM,R8]) λj v u bD bI=>?_;obtain⟨Es,bw⟩:=gX.2 j u (by rw[←RJ];exact bI);have ub:j<n:=by
  have:=(QP.mp bD).1;simpa using this
 rw[QX,List.getElem?_range ub] at bD;cases bD;rw[bw];exact⟨Es,by simp⟩
end
namespace Rd
section
variable {af:St}{H:Hp}{Q:VK}{K:Frag}
theorem Zon{b0:TA}(h:b0 af H λvs ax=>∃n:Nat,vs=[.int n]∧n≤2 ^ 24∧∀l,ax l=none→Q (.ref l) (upd ax l (.lst ((List.range n).map λi:Nat=>V.int i)))):yv b0 af H Q:=h
end
end Rd
theorem Uu(ns ms:List Int):PyData.eqv (.list (ns.map PyData.int)) (.list (ms.map PyData.int))=decide (ns=ms):=by
 have h:∀ns ms:List Int,PyData.eqvAll (ns.map PyData.int) (ms.map PyData.int)=decide (ns=ms):=by
  intro ns
  induction ns with
  |nil=>intro ms;cases ms<;>simp[PyData.eqvAll]
  |cons n ns bM=>
   intro ms;cases ms with
   |nil=>simp[PyData.eqvAll]
   |cons m ms=>
    simp only[List.map_cons,PyData.eqvAll,PyData.eqv,bM]
    by_cases e:n=m
    ·subst e;simp
    ·simp[e]
 simp only[PyData.eqv];exact h ns ms
section
variable {X:Cx}
noncomputable def rUpdD:V→List V→Hp→VK→Prop:=λx vs H Q=>∃a b kvs more,x= .ref a∧vs=[.ref b]∧a≠b∧H a=some (.dK kvs)∧H b=some (.dK more)∧kvs.length+more.length≤sizeLine∧Q .non (upd H a (.dK (fM kvs more)))
theorem Et:MtR X "dict.update" rUpdD:=by
 intro ah s af H x xs v us Q I bX rs h;obtain⟨a,b,kvs,more,rfl,rfl,ne,bB,ao,ag,q⟩:=h;cases bX;obtain⟨u,rfl,dX⟩:=Wd rs;cases dX;obtain⟨z,hd,vs,rel,dd⟩:=ZbG I.hok bB;obtain⟨ff,hy,Eu,yw,qY⟩:=ZbG I.hok ao;refine call_meetsIn PySem.F.slot_dict_update dd.typeIs PySem.F.entry_dict_update (PySem.F.args_dict_update_2 _ _) (meets_dict_update (dZ X.prog X.w) a b ne hy) ⟨vs,Eu,dd,qY,by rw[←rel.length,←yw.length];exact ag,λh' dd' _ hs=>?_⟩;have bv:=q7 more kvs;have bH:∃q,h'.get? a=some q:=let⟨q,_,_,cq,_⟩:=dd';⟨q,cq⟩
 exact⟨.non,_,q5 (t':=s.toks) I (by rw[bB];exact True.intro) hs bH (tA (by omega) hd (yw.merge rel) dd'),rfl,q⟩
end
section
variable {X:Cx}
end
theorem ZhL{own:Nat}{ix:List Nat}{g:TG}{df:TT}{Q:Addr→Hp→Prop}{af:St}{H:Hp}{J:It}{n:Nat}{y:Nat→Hp→V→Hp→Prop}(w:V0 J n y H)(bG:n<sizeLine)(s:Nat→List (Option V))(hs:∀i,(s i).length=own)
  (bF:∀i a ae v bo (hg:St→Hp→Prop),i<n→Ze H ae→y i ae v bo→a.length=own→(∀b2,Ze ae b2→hg (s i++ix.map λj=>(af[j]?).join) b2)→g v (a++ix.map λj=>(af[j]?).join) bo hg)
  (br:∀i ae (c2:Bool→Hp→Prop),i<n→Ze H ae→c2 true ae→df (s i++ix.map λj=>(af[j]?).join) ae c2)
  (q:∀p ae (ck:List Addr),H p=none→Ze H ae→ae p=some (.lst (ck.map V.ref))→ck.length=n→ck.Nodup→(∀x∈ck,H x=none∧x≠p∧ae x=some (.lst []))→Q p ae):
  ∀p,H p=none→∃W:Nat→Nat→List V→St→Hp→Prop,(∃m,W 0 m [] (lm own ix af) (upd H p (.lst [])))∧∀i m ys bQ ae,W i m ys bQ ae→
   (J.stop i ae∧Q p ae)∨(J.go i ae∧∀x bo,J.yld i ae x bo→g x bQ bo λcs b2=>df cs b2 λb b7=>
    if b=true then ti tNil cs b7 λv bY=>bY p=some (.lst ys)∧ys.length<sizeLine∧∃cn,cn<m∧W (i+1) cn (ys++ [v]) cs (upd bY p (.lst (ys++ [v])))
    else ∃cn,cn<m∧W (i+1) cn ys cs b7):=by
 intro p bz;refine⟨λi m ys bQ ae=>m=n-i∧i≤n∧(∃a,a.length=own∧bQ=a++ix.map λj=>(af[j]?).join)∧Ze H ae∧∃ck:List Addr,ys=ck.map V.ref∧ae p=some (.lst (ck.map V.ref))∧ck.length=i∧ck.Nodup∧∀x∈ck,H x=none∧x≠p∧ae x=some (.lst []),
  ⟨n,by simp,Q5 _,⟨List.replicate own none,RT,rfl⟩,cV bz,[],rfl,Zd,rfl,.nil,by simp⟩,?_⟩
 rintro i m ys bQ ae ⟨rfl,hi,⟨a,bB,rfl⟩,bS,ck,rfl,bP,ce,dM,kq⟩
 by_cases cL:i<n
 ·refine .inr ⟨w.go ae i bS cL,λx bo pD=>?_⟩;refine bF i a ae x bo _ cL bS (w.yld ae i x bo bS cL pD) bB λb2 bO=>?_;refine br i b2 _ cL (bS.trans bO) ?_;rw[if_pos rfl];show(0:Nat)≤sizeLine∧_;refine⟨Q5 _,λu hu=>?_⟩;have yx:=bS.trans bO;have yy:=bO _ _ bP;have yz:u≠p:=λz=>by rw[z,yy] at hu;cases hu
  have b9:Ze b2 (upd b2 u (.lst [])):=cV hu;refine⟨b9 _ _ yy,by rw[QM];omega,n-(i+1),by omega,rfl,cL,⟨s i,hs i,rfl⟩,(yx.trans b9).new bz,ck++ [u],by simp,by rw[Zd];simp,by simp[ce],?_,λx a_=>?_⟩
  ·refine qag.mpr ⟨dM,by simp,λx a_ z hz=>?_⟩;rw[QS.mp hz];intro e;have:=bO _ _ (kq x a_).2.2;rw[e,hu] at this;cases this
  ·rcases Rk.mp a_ with z|z
   ·obtain⟨ap,a',bU⟩:=kq x z;exact⟨ap,a',by rw[bW a'];exact b9 _ _ (bO _ _ bU)⟩
   ·rw[QS.mp z];refine⟨?_,yz,by rw[bW yz,Zd]⟩;cases e:H u with
    |none=>rfl
    |some o=>rw[yx _ _ e] at hu;cases hu
 ·have e:i=n:=by omega
  subst e;exact .inl ⟨w.stop ae bS,q p ae ck bz bS bP ce dM kq⟩
namespace Rd
section
variable {H:Hp}{Q:VK}
theorem Zop{a b:Addr}{kvs more:List (Key×V)}(ne:a≠b)(bB:H a=some (.dK kvs))(ao:H b=some (.dK more))(ag:kvs.length+more.length≤sizeLine)(q:Q .non (upd H a (.dK (fM kvs more)))):rUpdD (.ref a) [.ref b] H Q:=⟨a,b,kvs,more,rfl,rfl,ne,bB,ao,ag,q⟩
end
end Rd
section
variable {X:Cx}{ah:List (Addr×Obj)}{af:St}{H:Hp}{s:Shared}
theorem Inv.freeze{a:Addr}{kvs:List (Key×V)}(I:Inv X ah af H s)(e:Rd H a (.dK kvs)):∃o,s.heap.get? a=some o∧Inv X ah af (upd H a (.frz o (.dK kvs))) s:=by
 have ok:ZW X.prog X.w H s.heap a (.dK kvs):=e.ok I.hok;rcases e with e|⟨o,e⟩
 ·obtain⟨_,_,vs,_,dd⟩:=ZbG I.hok e;obtain⟨ep,dU⟩:=dd.dictAt;obtain⟨o,bx,bC,_⟩:=id dU;exact⟨o,bC,I.write (x:=a) (e:=a) (o:= .frz o (.dK kvs)) (t':=s.toks) (by rw[e];exact True.intro) (.inl rfl) (λb u _ q=>q) ⟨o,bC⟩ ⟨bC,ok⟩⟩
 ·have a_:upd H a (.frz o (.dK kvs))=H:=by
   funext b
   by_cases z:b=a
   ·rw[z,Zd,e]
   ·rw[bW z]
  exact⟨o,(show ZW X.prog X.w H s.heap a (.frz o (.dK kvs)) from I.hok a _ e).1,by rw[a_];exact I⟩
theorem KV.fwd{kvs:List (Key×V)}{vs:List (Key×Value)}(r:KV kvs vs):∀{j:Nat}{kv:Key×V},kvs[j]? =some kv→∃u,vs[j]? =some (kv.1,u)∧cA kv.2 u:=by
 unfold KV at r
 induction r with
 |nil=>intro j kv e;simp at e
 | @cons p q b1 qs h t bM=>
  intro j kv e;cases j with
  |zero=>
   simp at e;subst e;obtain⟨b_,cO⟩:=q;exact⟨cO,by simp[h.1],h.2⟩
  |succ j=>
   obtain⟨u,ap,a'⟩:=bM (j:=j) (kv:=kv) (by simpa using e);exact⟨u,by simpa using ap,a'⟩
end
noncomputable def Itv (d:Addr) (o:Obj) (kvs:List (Key×V)):It:=
 ⟨λi H=>H d=some (.frz o (.dK kvs))∧i<kvs.length,λi H x ae=>ae=H∧∃kv,kvs[i]? =some kv∧x=kv.2,λi H=>H d=some (.frz o (.dK kvs))∧kvs.length≤i⟩
noncomputable def Itp (d:Addr) (o:Obj) (kvs:List (Key×V)):It:=
 ⟨λi H=>H d=some (.frz o (.dK kvs))∧i<kvs.length,λi H x ae=>∃t kv,kvs[i]? =some kv∧H t=none∧x= .ref t∧ae=upd H t (.tup [kV kv.1,kv.2]),λi H=>H d=some (.frz o (.dK kvs))∧kvs.length≤i⟩
theorem Ev:entryFor table "dict_itemiterator.__iter__" =some Builtin.«dict_keyiterator.__iter__»:=entryFor_alias (id':="dict_keyiterator.__iter__") (by kernel_rfl) rfl (by decide+kernel) (by kernel_rfl)
theorem ZeW{P:Program}{w:World}{A:Around}{E:Value→Shared→Prop}{s:Shared}{it d:Addr}{i n ep:Nat}{ok dg:Value}{Q:Value→Shared→Prop}(dD:IsItemIter s.heap it d i n ep ok dg)(h:Q (.ref it) s):wpAny (model P w) A (pyIter (.ref it)) Q E s:=by
 have ty:s.TypeIs (.ref it) "dict_itemiterator" :=⟨_,dD,rfl⟩;refine wpAny_pyIter_slot ty PySem.F.slot_dict_itemiterator_iter (wpAny_call_entry PySem.F.slot_dict_itemiterator_iter ty Ev (show wpAny _ _ (ret (Value.ref it)) _ _ s from wpAny_pure ⟨_,rfl,"dict_itemiterator",_,ty,PySem.F.slot_dict_itemiterator_next.lookup,h⟩) (PySem.F.args_dict_itemiterator_iter_1 _))
section
variable {P:Program}{w:World}{K:Frag}
theorem Ew{cN:Expr}(d it:Addr)(o:Obj)(kvs:List (Key×V))(vs:List (Key×Value))(ep:Nat)(rel:KV kvs vs)(hd:∀h:Heap,h.get? d=some o→h.DictAt (dZ P w) d vs ep):UF P w K cN (Itv d o kvs) [it] it (λi h=>h.IsValIter it d i vs.length ep) where
 mem:=by simp
 obj:=λi h st b ao=>by
  have e:b=it:=by simpa using ao
  subst e;obtain⟨o,e,c,dd⟩:=st;exact⟨o,e,λv z=>by rw[dd] at z;cases z⟩
 keep:=λi h h' st k=>st.at λo q=>k it (by simp) o q
 item:=by
  intro X dR hw eb br i ah s af H E I bE st bF;subst dR hw eb;obtain⟨bH,hi⟩:=bF;have bC:=(show ZW X.prog X.w H s.heap d (.frz o (.dK kvs)) from I.hok d _ bH).1;obtain⟨dz,f1,f2,c7,d7,dS⟩:=bE it (by simp);obtain⟨u,hu,dX⟩:=rel.fwd (QN hi);refine wpAny_pyNext_values_item st (hd _ bC) hu λh' hR hr=>?_;have bK:Inv X ah af H {s with heap:=h',toks:=s.toks}:=I.turned (t':=s.toks) (λb q ao e=>(hr.2 b ao).trans e) dz f1 c7 d7 dS;obtain⟨q,e,c,dd⟩:=id hR;exact⟨_,rfl,oR (s:={s with heap:=h',toks:=s.toks}) e c dd (by decide) ⟨_,H,bK,dX,⟨rfl,kvs[i],QN hi,rfl⟩,hR,λb ao=>(bE b ao).1⟩⟩
 done:=by
  intro X dR hw eb br i ah s af H E I bE st bF;subst dR hw eb;obtain⟨bH,hi⟩:=bF;have bC:=(show ZW X.prog X.w H s.heap d (.frz o (.dK kvs)) from I.hok d _ bH).1;obtain⟨dz,f1,f2,c7,d7,dS⟩:=bE it (by simp);exact wpAny_pyNext_values_end (I.ok.hd br) st (hd _ bC) (Rn (by rw[←rel.length];exact hi)) λh' cP=>⟨rfl,I.turned (t':=s.toks) (λb q ao e=>cP b q ao e) dz f1 c7 d7 dS⟩
 self:=λ_ _ _ _ _ st h=>wpAny_pyIter_valiter st h
theorem Ey{mx:List Expr}{k1:Nat}{pos:Pos}(d it:Addr)(o:Obj)(kvs:List (Key×V))(vs:List (Key×Value))(ep:Nat)(rel:KV kvs vs)(hd:∀h:Heap,h.get? d=some o→h.DictAt (dZ P w) d vs ep):
  UF P w K (.Tuple mx k1 pos) (Itp d o kvs) [it] it (λi h=>∃ok dg,IsItemIter h it d i vs.length ep ok dg) where
 mem:=by simp
 obj:=λi h st b ao=>by
  obtain⟨ok,dg,e⟩:=st;rw[QS.mp ao];exact⟨_,e,λv z=>by
   have fZ:Data.fields _=Data.cell v:=z;cases fZ⟩
 keep:=λi h h' st k=>let⟨ok,dg,e⟩:=st;⟨ok,dg,k it (by simp) _ e⟩
 item:=by
  intro X dR hw eb br i ah s af H E I bE st bF;subst dR hw eb;obtain⟨bH,hi⟩:=bF;obtain⟨ok,dg,dD⟩:=st;have bC:=(show ZW X.prog X.w H s.heap d (.frz o (.dK kvs)) from I.hok d _ bH).1;obtain⟨u,hu,dX⟩:=rel.fwd (QN hi);refine wpAny_pyNext_items_item dD (hd _ bC) hu λeR h' oW hout c1 hsz bp=>?_;have e0:=I.hok.fresh (QQ s.heap.objs.size);have re:it<s.heap.objs.size:=Heap.lt_size dD;refine⟨_,rfl,wpAny_letOwnedTupleGo_items hout λa' ko ii=>?_⟩;have rf:a'.get? s.heap.objs.size=some {cls:= .type "tuple",data:= .seq #[eR,u]}:=ii.extBut _ _ (qaz re) c1;have bK:Inv X ah af (upd H s.heap.objs.size (.tup [kV kvs[i].1,kvs[i].2])) {s with heap:=a',toks:=s.toks}:=
   I.turnedNew (fp:=[it]) (λb q ao e=>by
    have hE:b≠it:=λz=>ao (by simp[z]);exact ii.extBut b q hE (bp b q hE e)) bE (QQ _) ⟨by show 2≤sizeLine;decide,[eR,u],.cons (t7 oW) (.cons dX .nil),_,rf,rfl,_,rfl⟩
  refine⟨.ref s.heap.objs.size,_,bK,rfl,⟨_,kvs[i],QN hi,e0,rfl,rfl⟩,⟨_,_,ko⟩,λb ao=>?_⟩;have pC:b≠s.heap.objs.size:=by rw[QS.mp ao];exact Q0 re
  rw[bW pC];exact(bE b ao).1
 done:=by
  intro X dR hw eb br i ah s af H E I bE st bF;subst dR hw eb;obtain⟨bH,hi⟩:=bF;obtain⟨ok,dg,dD⟩:=st;have bC:=(show ZW X.prog X.w H s.heap d (.frz o (.dK kvs)) from I.hok d _ bH).1;obtain⟨dz,f1,f2,c7,d7,dS⟩:=bE it (by simp);exact wpAny_pyNext_items_end (I.ok.hd br) dD (hd _ bC) (Rn (by rw[←rel.length];exact hi)) λh' cP=>⟨rfl,I.turned (t':=s.toks) (λb q ao e=>cP b q ao e) dz f1 c7 d7 dS⟩
 self:=λ_ _ _ _ _ st h=>by
  obtain⟨ok,dg,e⟩:=st;exact ZeW e h
end
section
variable {X:Cx}{cN:Expr}
noncomputable def yA (dY:TE):TI:=λaf H R=>dY af H λx ax=>∃a kvs,x= .ref a∧Rd ax a (.dK kvs)∧∀o,R (Itv a o kvs) (upd ax a (.frz o (.dK kvs)))
noncomputable def yB (dY:TE):TI:=λaf H R=>dY af H λx ax=>∃a kvs,x= .ref a∧Rd ax a (.dK kvs)∧∀o,R (Itp a o kvs) (upd ax a (.frz o (.dK kvs)))
theorem Ez{d:Expr}{dY:TE}{di dm:Pos}(hd:PE X d dY)(ja:attributeBase d "values" X.env (eval d X.env)=eval d X.env:=by rfl)(jb:(di.endLine==dm.line)=true:=by rfl):
  PI X cN (.Call (.Attribute d "values" di) [] [] dm) (yA dY):=by
 intro ah s af H R I h;refine wpAny_Call_method0_late ja jb (thn (hd ah s af H _ I h) λv bq ⟨x,ax,bK,cj,b_⟩=>?_);obtain⟨a,kvs,rfl,bn,q⟩:=b_;cases cj;obtain⟨z,iv,vs,rel,dd⟩:=WL bK.hok bn;obtain⟨ep,dU⟩:=dd.dictAt;obtain⟨o,bC,cB⟩:=bK.freeze bn;have mB:∀h:Heap,h.get? a=some o→h.DictAt (dZ X.prog X.w) a vs ep:=λh e=>dU.at' λci b6=>by rw[bC] at b6;cases b6;exact e
 refine⟨"dict","dict.values",R5,RV,qaO,dd.typeIs,dd.mapOf.noDict,Calls.callWith_builtin rfl (qaM ?_)⟩;refine call_meetsIn RV dd.typeIs qaK (qaI _) (meets_dict_values (dZ X.prog X.w) a iv) ⟨⟨vs,dd⟩,?_⟩;refine wpAny_pyIter_values (knd:=dZ X.prog X.w) (d:=a) (kvs:=vs) (ep:=ep) ⟨_,Heap.get?_push_size _ rfl,rfl,rfl⟩ (mB _ (Heap.get?_push_of_some _ bC)) ?_;have dk:Inv X ah af (upd ax a (.frz o (.dK kvs))) {bq with heap:=bq.heap.push {cls:= .type "dict_values",data:= .fields #[.ref a]}}:=cB.kept (t':=bq.toks) λb o e=>Heap.get?_push_of_some _ e;refine⟨(bq.heap.push {cls:= .type "dict_values",data:= .fields #[.ref a]}).objs.size,[(bq.heap.push {cls:= .type "dict_values",data:= .fields #[.ref a]}).objs.size],_,_,_,rfl,dk.kept (t':=bq.toks) λb o e=>Heap.get?_push_of_some _ e,Ew a _ o kvs vs ep rel mB,⟨_,Heap.get?_push_size _ rfl,rfl,rfl⟩,λb ao=>?_,q o⟩;rw[QS.mp ao];exact dk.fpOk (QQ _) (dk.hok.fresh (QQ _))
theorem yC{mx:List Expr}{k1:Nat}{l5:Pos}{d:Expr}{dY:TE}{di dm:Pos}(hd:PE X d dY)(ja:attributeBase d "items" X.env (eval d X.env)=eval d X.env:=by rfl)(jb:(di.endLine==dm.line)=true:=by rfl):
  PI X (.Tuple mx k1 l5) (.Call (.Attribute d "items" di) [] [] dm) (yB dY):=by
 intro ah s af H R I h;refine wpAny_Call_method0_late ja jb (thn (hd ah s af H _ I h) λv bq ⟨x,ax,bK,cj,b_⟩=>?_);obtain⟨a,kvs,rfl,bn,q⟩:=b_;cases cj;obtain⟨z,iv,vs,rel,dd⟩:=WL bK.hok bn;obtain⟨ep,dU⟩:=dd.dictAt;obtain⟨o,bC,cB⟩:=bK.freeze bn;have mB:∀h:Heap,h.get? a=some o→h.DictAt (dZ X.prog X.w) a vs ep:=λh e=>dU.at' λci b6=>by rw[bC] at b6;cases b6;exact e
 refine⟨"dict","dict.items",R5,PySem.F.slot_dict_items,PySem.F.type_dict_items,dd.typeIs,dd.mapOf.noDict,Calls.callWith_builtin rfl (qaM ?_)⟩;refine call_meetsIn PySem.F.slot_dict_items dd.typeIs PySem.F.entry_dict_items (PySem.F.args_dict_items_1 _) (meets_dict_items (dZ X.prog X.w) a iv) ⟨⟨vs,dd⟩,?_⟩;refine wpAny_pyIter_items (knd:=dZ X.prog X.w) (d:=a) (kvs:=vs) (ep:=ep) ⟨_,Heap.get?_push_size _ rfl,rfl,rfl⟩ (mB _ (Heap.get?_push_of_some _ bC)) ?_;have dk:Inv X ah af (upd ax a (.frz o (.dK kvs))) {bq with heap:=bq.heap.push {cls:= .type "dict_items",data:= .fields #[.ref a]}}:=cB.kept (t':=bq.toks) λb o e=>Heap.get?_push_of_some _ e;refine⟨(bq.heap.push {cls:= .type "dict_items",data:= .fields #[.ref a]}).objs.size,[(bq.heap.push {cls:= .type "dict_items",data:= .fields #[.ref a]}).objs.size],_,_,_,rfl,dk.kept (t':=bq.toks) λb o e=>Heap.get?_push_of_some _ e,Ey a _ o kvs vs ep rel mB,⟨_,_,Heap.get?_push_size _ rfl⟩,λb ao=>?_,q o⟩;rw[QS.mp ao];exact dk.fpOk (QQ _) (dk.hok.fresh (QQ _))
end
namespace Rd
section
variable {af:St}{H:Hp}{Q:VK}
theorem ZnZ{dY:TE}{R:It→Hp→Prop}(h:dY af H λx ax=>∃a kvs,x= .ref a∧L2.Rd ax a (.dK kvs)∧∀o,R (Itv a o kvs) (upd ax a (.frz o (.dK kvs)))):yA dY af H R:=h
theorem ZjJ{dY:TE}{R:It→Hp→Prop}(h:dY af H λx ax=>∃a kvs,x= .ref a∧L2.Rd ax a (.dK kvs)∧∀o,R (Itp a o kvs) (upd ax a (.frz o (.dK kvs)))):yB dY af H R:=h
end
end Rd
theorem EA{d:Addr}{o:Obj}{kvs:List (Key×V)}{H:Hp}(h:H d=some (.frz o (.dK kvs))):V0 (Itv d o kvs) kvs.length (λi ae v bo=>bo=ae∧∃kv,kvs[i]? =some kv∧v=kv.2) H:=
 ⟨λae i s hi=>⟨s _ _ h,hi⟩,λ_ _ _ _ _ _ y=>y,λae s=>⟨s _ _ h,QQ _⟩⟩
theorem yD{d:Addr}{o:Obj}{kvs:List (Key×V)}{H:Hp}(h:H d=some (.frz o (.dK kvs))):V0 (Itp d o kvs) kvs.length (λi ae v bo=>∃t kv,kvs[i]? =some kv∧ae t=none∧v= .ref t∧bo=upd ae t (.tup [kV kv.1,kv.2])) H:=
 ⟨λae i s hi=>⟨s _ _ h,hi⟩,λ_ _ _ _ _ _ y=>y,λae s=>⟨s _ _ h,QQ _⟩⟩
section
variable {X:Cx}
end
namespace Rd
end Rd
section
variable {X:Cx}{K:Frag}
noncomputable def Zho (K:Frag):V→Hp→(Nat→Prop)→Prop:=λx H R=>∃(l:Addr)(ns:List Int),x= .ref l∧SqL K H l (ns.map V.int)∧ns.length+1<4096∧∀n,(ns.Nodup→n=ns.length)→R n
noncomputable def yE (K:Frag) (b0:TA):TE:=λaf H Q=>b0 af H λvs ax=>∃x,vs=[x]∧Zho K x ax λn=>Q (.int (n:Nat)) ax
theorem yF(ns:List Int)(h:ns.Nodup):∀i,i≤ns.length→firstMet (λi=>ns.getD i 0) i=ns.take i
 |0,_=>rfl
 |i+1,hi=>by
  have ce:i<ns.length:=by omega
  rw[firstMet_succ,yF ns h i (by omega),QR ce];have e:ns.getD i 0=ns[i]:=by simp[List.getD,ce]
  unfold step_dedup;rw[e];have bG:((ns.take i).any (· ==ns[i]))=false:=by
   rw[List.any_eq_false];intro x a_;have dM:=h;rw[←List.take_append_drop (i+1) ns,QR ce] at dM;have bU:=(qag.mp (qag.mp dM).1).2.2 x a_ ns[i] (by simp);simpa using bU
  rw[bG]
  rfl
theorem EB{a:Expr}{b0:TA}{p eZ pos mA:Pos}(eb:X.K=K)(br:X.calm=true)(gY:Gl X "len")(iV:X.mg "len" =none)(bF:Gl X "set")(bv:X.mg "set" =none)(bB:PA X [a] b0)
  (hs:starEach [a] X.env=[(false,eval a X.env)]:=by rfl)
  (bH:starEach [Expr.Call (.Name "set" p) [a] [] pos] X.env=(false,eval (.Call (.Name "set" p) [a] [] pos) X.env)::starEach [] X.env:=by rfl):
  PE X (.Call (.Name "len" eZ) [.Call (.Name "set" p) [a] [] pos] [] mA) (yE K b0):=by
 subst eb;intro ah s af H Q I h;refine Call_ (hn I gY iV Q8 ?_);refine qad ?_ bH;rw[bH];show wpAny _ _ (spliced ((false,eval (.Call (.Name "set" p) [a] [] pos) X.env):: [])) _ _ s;refine Calls.spliced_cons (Call_ (hn I bF bv boot_set (Rg (thn (bB pos ah s af H _ I h) λus bq ⟨vs,ax,bK,cj,b_⟩=>?_) hs rfl)));obtain⟨x,e,l,ns,rfl,cq,ao,q⟩:=b_;subst e;obtain⟨u,rfl,bX⟩:=Wd cj;cases bX;obtain⟨its,cZ,pl,hz⟩:=bK.list cq;have hi:=Uo cZ;have hsz:its.toArray.size=ns.length:=by have:=cZ.length;simpa using this.symm
 refine call_set_list (bK.ok.hd br) pl.isList hi (by rw[hsz];exact ao) λh' bT db bp=>?_;refine Calls.spliced_nil ?_;obtain⟨o,bx,ep,t,bC,iw,hd,_,_,cL,bE,bG⟩:=db;refine call_len_set bC iw hd bE (by unfold scanBound at cL;omega) ?_;refine⟨.int bx.size,ax,?_,⟨_,rfl⟩,q _ λdM=>?_⟩
 ·exact bK.kept λb o e=>bp b o (Heap.lt_size e) e
 ·rw[bG,hsz,yF ns dM _ (QQ _),GE]
end
namespace Rd
section
variable {K:Frag}{af:St}{H:Hp}{Q:VK}
theorem lset{b0:TA}(h:b0 af H λvs ax=>∃x,vs=[x]∧Zho K x ax λn=>Q (.int (n:Nat)) ax):yE K b0 af H Q:=h
end
end Rd
section
variable {X:Cx}
end
namespace Rd
section
variable {K:Frag}{af:St}{H:Hp}
end
end Rd
section
variable {X:Cx}{K:Frag}
noncomputable def rIndexB:V→List V→Hp→VK→Prop:=λx vs H Q=>∃(l:Addr)(bs:List Bool)(j:Nat),x= .ref l∧vs=[.bl true]∧H l=some (.lst (bs.map V.bl))∧bs[j]? =some true∧(∀m<j,bs[m]? =some false)∧Q (.int j) H
theorem EC:MtM X "list.index" rIndexB:=by
 intro ah s af H x vs v us Q I bX cZ h;obtain⟨l,bs,j,rfl,rfl,gS,bw,ik,q⟩:=h;cases bX;obtain⟨u,rfl,dX⟩:=Wd cZ;obtain rfl:u=Value.bool true:=dX;obtain⟨z,its,n,r,ag,e⟩:=I.lstM gS;have cU:=t4 (s:=s) r;have hX:=(QP.mp bw).1;have hz:its.toArray.size=bs.length:=by rw[cU];simp
 have at_:∀(m:Nat)(bv:m<its.toArray.size),its.toArray[m]=Value.bool (bs[m]'(by omega)):=λm bv=>by
  subst cU;simp
 have bG:=j9;refine call_meets F.slot_list_index ⟨_,e,rfl⟩ F.entry_list_index (F.args_list_index_2 _ _) (PySem.SeqAt.list_indexAt l its.toArray n _ _ (.bool true) (λy=>y==Value.bool true) j (by omega) (by rw[QM] at z;omega) ?_ ?_) ⟨e,λy bP=>?_,?_⟩
 ·rw[at_ j (by omega)];have:=(QP.mp bw).2;rw[this]
  rfl
 ·intro m bv pE;rw[at_ m bv];have:=(QP.mp (ik m pE)).2;rw[this]
  rfl
 ·subst cU;obtain⟨b,_,rfl⟩:=Q3.mp (List.mem_toArray.mp bP);have bH:(Value.bool b==Value.bool true)=(b==true):=by cases b<;>rfl
  rw[bH];exact PySem.SeqAt.EqAt.bool_bool b true
 ·exact⟨.int j,H,I.tok _,⟨_,rfl⟩,q⟩
end
namespace Rd
theorem ZmT{H:Hp}{Q:VK}{l:Addr}{bs:List Bool}{j:Nat}(h:H l=some (.lst (bs.map V.bl)))(bw:bs[j]? =some true)(bG:∀m<j,bs[m]? =some false)(q:Q (.int j) H):rIndexB (.ref l) [.bl true] H Q:=⟨l,bs,j,rfl,rfl,h,bw,bG,q⟩
end Rd
section
variable {X:Cx}{K:Frag}
theorem ED:typeLookup (.type "list_reverseiterator") "__len__" =pure none:=by rw[typeLookup_type,builtinLookup_eq_fast];kernel_rfl
theorem EE:typeLookup (.type "list_reverseiterator") "__length_hint__" =pure (some (.builtin "list_reverseiterator.__length_hint__")):=by rw[typeLookup_type,builtinLookup_eq_fast];kernel_rfl
theorem EF{prog:Program}{w:World}{A:Around}{E:Value→Shared→Prop}{s:Shared}{r:Addr}{Q:Bool→Shared→Prop}(c1:s.TypeIs (.ref r) "list_reverseiterator")(h:Q false s):wpAny (model prog w) A (Builtin.List.listLengthHint (.ref r)) Q E s:=by
 unfold Builtin.List.listLengthHint;refine wpAny_bind (wpAny_specialOf c1 ED ?_);show wpAny _ A (specialOf (Value.ref r) (Str.ofString "__length_hint__") >>= _) _ _ _;refine wpAny_bind (wpAny_specialOf c1 EE ?_);generalize hid:("list_reverseiterator.__length_hint__" :String)=id0
 wp_delta
 rw[show splitId id0=some ("list_reverseiterator","__length_hint__") from by subst hid;decide+kernel];subst hid;refine wpAny_bind (wpAny_isInstance (T:="list_reverseiterator") (b:=true) c1 (by rw[isSubtype_type];kernel_rfl) ?_);refine wpAny_ite_split (λkr=>absurd kr (by decide)) (λ_=>?_);refine wpAny_ite_split (λ_=>?_) (λkr=>absurd (by decide+kernel) kr);refine wpAny_ite_split (λkr=>absurd kr (by decide+kernel)) (λ_=>?_);exact wpAny_pure h
section
variable {prog:Program}{w:World}{A:Around}{E:Value→Shared→Prop}{s:Shared}{I l:Addr}{items:Array Value}
theorem Zid{R:Result→Shared→Prop}(bR:A.handled=none)(eu:l≠I)(dD:s.heap.IsRevIter I l ((items.size:Int)-1-((0:Nat):Int)))(ag:s.heap.IsList l items)(S:Addr)(pF:S≠I)(rj:S≠l)(res:Value)(yG:Nat)
  (db:s.heap.get? S=some {cls:= .type "list",data:= .seq #[] yG})
  (de:∀h' bT acc' cR,(∀b o,b≠S→b≠I→s.heap.get? b=some o→h'.get? b=some o)→h'.get? S=some {cls:= .type "list",dict:=none,data:= .seq acc' cR,slots:=#[]}→ItemsOf (λi v=>items[items.size-1-i]? =some v) acc' items.size→R (.ok (.ret res)) {s with heap:=h',toks:=bT}) (bG:items.size≤sizeLine):
  wpAny (model prog w) A.in1 (Builtin.List.listExtendWith (.ref S) (.ref I) res)
   (λdQ s'=>match dQ with| .done f=>R (.ok f) s'| .again cR=>cR.quiet=true∧codeAny (model prog w) A cR R s') (λe s'=>R (.error e) s') s:=by
 have mC:S∉[I,l]:=by simp only[QW,Ru,or_false,not_or];exact⟨pF,rj⟩
 have W:=PySem.Walks.listRev (prog:=prog) (w:=w) (A:=A.in1) bR I l eu items;unfold Builtin.List.listExtendWith;refine wpAny_bind (wpAny_typeOf dD.typeIs ?_);have ap:Builtin.List.listSameRef (.ref S) (.ref I)=false:=by simp[Builtin.List.listSameRef,pF]
 have a':(Value.type "list_reverseiterator" ==Value.type "list")=false:=by decide
 have bU:(Value.type "list_reverseiterator" ==Value.type "tuple")=false:=by decide
 simp only[ap,a',bU,Bool.or_false,qaA,if_false];refine wpAny_bind (wpAny_pyIter_revIter dD ?_);refine wpAny_bind (wpAny_holding (EF dD.typeIs ?_));refine wpAny_ite_split (λkr=>absurd kr (by decide+kernel)) (λ_=>wpAny_pure ⟨plainId_quiet qaL _,?_⟩);refine codeAny_extend_loopS W.toS bG S mC res items.size 0 _ #[] yG rfl (Q5 _) ⟨Q5 _,dD,ag⟩ db (ItemsOf.nil _) λs' acc' cR bv mD gX=>?_;rw[Moved.eq_with bv];refine de s'.heap s'.toks acc' cR (λb o ao jg e=>bv.heap b o (λjh=>?_) e) mD gX;rcases QW.mp jh with b6|jh
 ·exact ao b6
 ·exact jg (QS.mp jh)
theorem EG{R:Result→Shared→Prop}(bR:A.handled=none)(eu:l≠I)(dD:s.heap.IsRevIter I l ((items.size:Int)-1-((0:Nat):Int)))(ag:s.heap.IsList l items)(S:Addr)(pF:S≠I)(rj:S≠l)
  (db:s.heap.get? S=some {cls:= .type "list",data:= .seq #[]})
  (de:∀h' bT acc' cR,(∀b o,b≠S→b≠I→s.heap.get? b=some o→h'.get? b=some o)→h'.get? S=some {cls:= .type "list",dict:=none,data:= .seq acc' cR,slots:=#[]}→ItemsOf (λi v=>items[items.size-1-i]? =some v) acc' items.size→R (.ok (.ret .none)) {s with heap:=h',toks:=bT}) (bG:items.size≤sizeLine):
  wpAny (model prog w) A.in1 (Builtin.«list.__init__» ⟨[.ref S,.ref I],[]⟩)
   (λdQ s'=>match dQ with| .done f=>R (.ok f) s'| .again cR=>cR.quiet=true∧codeAny (model prog w) A cR R s') (λe s'=>R (.error e) s') s:=by
 show wpAny _ _ (do let hq←Builtin.List.listItems (.ref S);Builtin.List.listUpdate (.ref S) (λ_=>#[]);letGo hq.toList.reverse;Builtin.List.listExtendWith (.ref S) (.ref I) .none) _ _ s;refine wpAny_bind ?_;unfold Builtin.List.listItems;refine wpAny_bind (wpAny_seqItems db rfl (wpAny_pure ?_));show wpAny _ _ (updateSeq S (λ_=>#[]) >>= λ_=>letGo (#[]:Array Value).toList.reverse >>= λ_=>Builtin.List.listExtendWith (.ref S) (.ref I) .none) _ _ s;refine wpAny_bind (wpAny_updateSeq db rfl ?_);have EH:=Heap.get?_update_self (Obj.mapSeq (λ_=>(#[]:Array Value))) db rfl;have nF:∀b o,b≠S→s.heap.get? b=some o→(s.heap.update S (Obj.mapSeq (λ_=>(#[]:Array Value)))).get? b=some o:=
  λb o ao e=>(Heap.get?_update_other _ _ (qao ao)).trans e
 refine wpAny_bind (wpAny_letGo ?_);refine Zid bR eu (dD.at λo e=>nF _ o (qao pF) e) (ag.at λo e=>nF _ o (qao rj) e) S pF rj .none _ EH (λh' bT acc' cR bp mD gX=>?_) bG;exact de h' bT acc' cR (λb o ao jg e=>bp b o ao jg (nF b o ao e)) mD gX
theorem ZeN{Q:Value→Shared→Prop}(bR:A.handled=none)(eu:l≠I)(dD:s.heap.IsRevIter I l ((items.size:Int)-1-((0:Nat):Int)))(ag:s.heap.IsList l items)(bG:items.size≤sizeLine)
  (e9:∀h' bT acc' cR,(∀b o,b≠I→s.heap.get? b=some o→h'.get? b=some o)→h'.get? s.heap.objs.size=some {cls:= .type "list",dict:=none,data:= .seq acc' cR,slots:=#[]}→ItemsOf (λi v=>items[items.size-1-i]? =some v) acc' items.size→Q (.ref s.heap.objs.size) {s with heap:=h',toks:=bT}):
  wpAny (model prog w) A (call (.type "list") [.ref I]) Q E s:=by
 refine callType_codes (Q₁:=λobj da=>obj= .ref s.heap.objs.size∧da={s with heap:=s.heap.push {cls:= .type "list",data:= .seq #[]}}) PySem.F.called_list (PySem.F.typeCall_list_1 _) PySem.F.entry_list_init
  (code_list_new _ ⟨rfl,rfl⟩) λobj da h₁=>?_
 obtain⟨rfl,rfl⟩:=h₁;have db:(s.heap.push {cls:= .type "list",data:= .seq #[]}).get? s.heap.objs.size=some {cls:= .type "list",data:= .seq #[]}:=Heap.get?_push_size _ rfl;have hE:s.heap.objs.size≠I:=by
  obtain⟨o,bC,_⟩:=dD;exact qaz (Heap.lt_size bC)
 have hx:s.heap.objs.size≠l:=by
  obtain⟨o,bC,_⟩:=ag;exact qaz (Heap.lt_size bC)
 refine⟨⟨_,db,rfl⟩,PySem.F.args_list_init_2 _ _,EG (A:=A.in1) bR eu (dD.at λo e=>Heap.get?_push_of_some _ e) (ag.at λo e=>Heap.get?_push_of_some _ e) _ hE hx db (λh' bT acc' cR bp mD gX=>?_) bG⟩;exact⟨rfl,e9 h' bT acc' cR (λb o ao e=>bp b o (Q0 (Heap.lt_size e)) ao (Heap.get?_push_of_some _ e)) mD gX⟩
end
noncomputable def yH (K:Frag) (b0:TA):TE:=λaf H Q=>b0 af H λvs ax=>∃a xs,vs=[.ref a]∧SqL K ax a xs∧∀l,ax l=none→Q (.ref l) (upd ax l (.lst xs.reverse))
theorem EI{a:Expr}{b0:TA}{p eZ pos mA:Pos}(eD:X.K=K)(br:X.calm=true)(gY:Gl X "list")(iV:X.mg "list" =none)(bF:Gl X "reversed")(bv:X.mg "reversed" =none)(bB:PA X [a] b0)
  (hs:starEach [a] X.env=[(false,eval a X.env)]:=by rfl)
  (bH:starEach [Expr.Call (.Name "reversed" p) [a] [] pos] X.env=(false,eval (.Call (.Name "reversed" p) [a] [] pos) X.env)::starEach [] X.env:=by rfl):
  PE X (.Call (.Name "list" eZ) [.Call (.Name "reversed" p) [a] [] pos] [] mA) (yH K b0):=by
 subst eD;intro ah s af H Q I h;refine wpAny_Call_Name_kw (hn I gY iV boot_list ?_);refine Rg ?_ bH rfl;rw[bH];show wpAny _ _ (spliced ((false,eval (.Call (.Name "reversed" p) [a] [] pos) X.env):: [])) _ _ s;refine Calls.spliced_cons (Call_ (hn I bF bv boot_reversed (Rg (thn (bB pos ah s af H _ I h) λus bq ⟨vs,ax,bK,cj,b_⟩=>?_) hs rfl)));obtain⟨b,xs,rfl,cq,q⟩:=b_;obtain⟨u,rfl,dX⟩:=Wd cj;cases dX;obtain⟨its,cZ,pl,hz⟩:=bK.list cq;have ag:=cZ.length;refine call_reversed_list pl.isList (Calls.spliced_nil ?_);have dD:(bq.heap.push (revObj b (((its.toArray.size:Nat):Int)-1))).IsRevIter bq.heap.objs.size b (((its.toArray.size:Nat):Int)-1-((0:Nat):Int)):=by
  refine⟨_,Heap.get?_push_size _ rfl,rfl,?_⟩;show Data.fields #[Value.ref b,rawInt (((its.toArray.size:Nat):Int)-1)]=_;simp
 have gq:b≠bq.heap.objs.size:=by
  obtain⟨o,bC,_⟩:=pl.isList;exact Q0 (Heap.lt_size bC)
 have cB:Inv X ah af ax {bq with heap:=bq.heap.push (revObj b (((its.toArray.size:Nat):Int)-1))}:=bK.kept (t':=bq.toks) λb o e=>Heap.get?_push_of_some _ e;have pG:its.toArray.size≤sizeLine:=by rw[QV,←ag];exact hz
 refine ZeN (bK.ok.hd br) gq dD (pl.isList.at λo e=>Heap.get?_push_of_some _ e) pG λh' bT cW cR bp db gX=>?_;have kn:∀b o,bq.heap.get? b=some o→h'.get? b=some o:=λb o e=>bp b o (Q0 (Heap.lt_size e)) (Heap.get?_push_of_some _ e);have hsz:bq.heap.objs.size≤(bq.heap.push (revObj b (((its.toArray.size:Nat):Int)-1))).objs.size:=by rw[Heap.size_push];omega
 refine⟨.ref (bq.heap.push (revObj b (((its.toArray.size:Nat):Int)-1))).objs.size,_,bK.laid (a:=(bq.heap.push (revObj b (((its.toArray.size:Nat):Int)-1))).objs.size) (o:= .lst xs.reverse) (t':=bT) kn hsz ⟨by rw[List.length_reverse];exact hz,cW.toList,cR,?_,by simpa using db⟩,rfl,q _ (bK.hok.fresh hsz)⟩;refine pB (by rw[Rx,gX.1,List.length_reverse,QV,ag]) λj v u bD bI=>?_;have a':=gX.2 j u (by rw[←RJ];exact bI);have bw:j<xs.length:=by
  have:=(QP.mp bD).1;simpa using this
 rw[List.getElem?_reverse bw] at bD;obtain⟨jB,fA,cY⟩:=cZ.get bD;have c6:its.toArray[its.toArray.size-1-j]? =some jB:=by rw[QV,←ag];simpa using fA
 rw[c6] at a';cases a';exact cY
end
namespace Rd
theorem ZoN{af:St}{H:Hp}{Q:VK}{K:Frag}{b0:TA}(h:b0 af H λvs ax=>∃a xs,vs=[.ref a]∧SqL K ax a xs∧∀l,ax l=none→Q (.ref l) (upd ax l (.lst xs.reverse))):yH K b0 af H Q:=h
end Rd
section
variable {X:Cx}
end
namespace Rd
end Rd
end L2
namespace L2
open PySem PySem.Spec PySem.W PyProof.Rows Builtin Builtin.ObjectAttr Builtin.Getset_descriptor
def mE(x C:Addr)(h:Heap):Prop:=∃o,h.get? x=some o∧o.cls= .ref C
theorem mE.type{M:Model}{h:Heap}{x C:Addr}(I:mE x C h):Looks M h (typeOf (.ref x)) (.ref C):=by
 obtain⟨o,ap,a'⟩:=I;exact a'▸(Looks.ld ap).andThen .now
structure Vw(K:Frag)(C:Addr):Prop where
 cl:(clsIn K C).isSome=true
 ga:findIn K (.ref C) "__getattribute__" =some (some (.builtin "BaseException.__getattribute__"))
 gk:findIn K (.ref C) "__getattr__" =some none
 ca:findIn K (.ref C) "__class__" =some (some (.builtin "object.__class__"))
 cg:specialIn K (.builtin "object.__class__") "__get__" =some (some (.builtin "getset_descriptor.__get__"))
 ct:takesIn K (.builtin "object.__class__")=some true
 sub:subIn K (.ref C) (.type "BaseException")=some true
 mr:mroIn K C (.type "object")=some true
section
variable {prog:Program}{w:World}{A:Around}{E:Value→Shared→Prop}{s:Shared}{K:Frag}{x C:Addr}
theorem Zkl{M:Model}{h:Heap}(X:K.In h)(c:Vw K C):Looks M h (Builtin.ObjectAttr.find (.ref x) (.ref C) "__class__") (.bind (.builtin "getset_descriptor.__get__") (.builtin "object.__class__")):=by
 have rk:=looks_findIn (M:=M) X c.ca;have L2:Looks M h (Builtin.ObjectAttr.getOf (some (.builtin "object.__class__"))) (some (.builtin "getset_descriptor.__get__")):=looks_specialIn X c.cg;have uc:=looks_takesIn (M:=M) X c.ct;exact rk.andThen (L2.andThen ((show Looks M h (Builtin.ObjectAttr.dataDescriptor? (some (.builtin "object.__class__")) (some (.builtin "getset_descriptor.__get__"))) (some (.builtin "getset_descriptor.__get__",.builtin "object.__class__")) from uc.andThen .now).andThen (Looks.tag .now)))
theorem EJ{hh:Value}{R:Result→Shared→Prop}(X:K.In s.heap)(I:mE x C s.heap)(c:Vw K C)(h:R (.ok (.ret (.ref C))) s):codeAny (model prog w) A (.call (.builtin "getset_descriptor.__get__") ⟨[.builtin "object.__class__",.ref x,hh],[]⟩) R s:=by
 obtain⟨bR,g,ud,t,os⟩:=s;have pH:=I.type (M:=model prog w);have rk:=looks_mroIn (M:=model prog w) X c.mr;refine codeAny_call_builtin KF.slot_gs.plain KF.entry_gs (KF.slot_gs.check _ _ _ _ _ _ _ _ KF.type_class (KF.args_gs _ _ _) ?_);unfold Builtin.«getset_descriptor.__get__» descrGet;rw[dga_obj];refine wpAny_bind (wpAny_pure ?_);unfold descrGetter descrCheckInstance descrNameAndClass isInstance;simp only[KF.owner_class]
 repeat lk
 refine⟨Code.quiet_builtin _ (by decide+kernel),codeAny_builtin KF.entry_class ?_⟩;unfold Builtin.«object.__class__» shownTypeOf
 repeat lk
 exact h
theorem Zi4{bT:Tok}{Q:Fin→Shared→Prop}(X:K.In s.heap)(I:mE x C s.heap)(c:Vw K C)
  (h:Q (.done (.ret (.ref C))) s):wpAny (model prog w) A (Builtin.«object.__getattribute__» ⟨[.ref x,.str "__class__" bT],[]⟩) Q E s:=by
 obtain⟨bR,g,d,t,os⟩:=s;have pH:=I.type (M:=model prog w);have uc:=Zkl (M:=model prog w) (x:=x) X c;show wpAny _ _ (typeOf (.ref x) >>= _) _ _ _;refine wpAny_bind (pH.at (wpAny_bind (uc.at ?_)));show wpAny _ _ (holding [Value.builtin "object.__class__"] (call (.builtin "getset_descriptor.__get__") [.builtin "object.__class__",.ref x,.ref C]) >>= ret) _ _ _;exact wpAny_bind (wpAny_holding (wpAny_call (EJ (s:=⟨bR,g,d,t,os⟩) X I c (wpAny_pure h))))
theorem Zi6{Q:Option Value→Shared→Prop}(X:K.In s.heap)(I:mE x C s.heap)(c:Vw K C)(h:Q (some (.ref C)) {s with toks:=s.toks+1}):wpAny (model prog w) A (getAttr? (.ref x) "__class__") Q E s:=by
 obtain⟨bR,g,d,t,os⟩:=s;have pH:=I.type (M:=model prog w);have rk:=looks_findIn (M:=model prog w) X c.ga;have L2:=looks_findIn (M:=model prog w) X c.gk;have EK:Looks (model prog w) bR (isSubtype (.ref C) (.type "BaseException")) true:=looks_subIn X c.sub;have EL:Looks (model prog w) bR (isInstance (.ref x) (.type "BaseException")) true:=pH.andThen EK;unfold getAttr? getAttrBy? getAttrBy;refine wpAny_bind (wpAny_mkText (wpAny_bind (wpAny_attempt (wpAny_holding (wpAny_bind (pH.at (wpAny_bind (rk.at ?_))))))));show wpAny _ _ (getAttrByItsOwn _ _ _ _ _ _) _ _ _;unfold getAttrByItsOwn hookBefore;refine wpAny_bind (L2.at (wpAny_bind (wpAny_attempt (wpAny_holding ?_))));show wpAny _ _ (bindSpecial _ _ >>= _) _ _ _;rw[F.excAttr_ValueError.ga.bind (.ref x)];refine wpAny_bind (wpAny_pure (wpAny_call (codeAny_call_builtin F.excAttr_ValueError.ga.plain F.entry_bexc_ga ?_)));have bp:builtinKind "BaseException.__getattribute__" =some .slot:=by decide+kernel
 have iN:splitId "BaseException.__getattribute__" =some ("BaseException","__getattribute__"):=by decide+kernel
 have bB:=F.args_bexc_ga (.ref x) (.str "__class__" t);have EM:∀(Q:Unit→Shared→Prop)(E:Value→Shared→Prop),Q () ⟨bR,g,d,t+1,os⟩→wpAny (model prog w) A.in1 (checkBuiltinCall "BaseException.__getattribute__" ⟨[.ref x,.str "__class__" t],[]⟩) Q E ⟨bR,g,d,t+1,os⟩:=λQ E e9=>by
  simp only[checkBuiltinCall,bp,iN];refine wpAny_bind (EL.at ?_);simp only[qaP,qaA,if_false];cases EN:Manifest.signature? "BaseException.__getattribute__" with
  |none=>exact wpAny_pure e9
  |some sig=>
   simp only[argsOk,EN] at bB;have a':Bind.checkArgs "BaseException.__getattribute__" sig ⟨[.ref x,.str "__class__" t],[]⟩=pure ():=bB;show wpAny _ _ (Bind.checkArgs "BaseException.__getattribute__" sig ⟨[.ref x,.str "__class__" t],[]⟩) Q E _;rw[a'];exact wpAny_pure e9
 refine EM _ _ ?_;refine Zi4 (s:=⟨bR,g,d,t+1,os⟩) (A:=A.in1) X I c ?_;exact handed_on rfl (wpAny_pure h)
theorem EO(c:Vw K C):KitX K (.ref x) (.ref C) (mE x C) where
 ty:=λ_ _ _ I=>I.type
 it:=λ_ _ X _=>by
  obtain⟨EQ,j_⟩:=qaq.mp c.cl;unfold clsIn at j_
  split at j_
  ·rename_i cR d' cd' ox bC;intro fa oH E' s' k q;unfold isType loadHead;exact wpAny_bind (wpAny_loadPart (k _ _ (X _ _ bC)) (wpAny_pure q))
  ·cases j_
 ne:=λh hh dd its n sl X ER=>by
  obtain⟨EQ,j_⟩:=qaq.mp c.cl;refine Bool.eq_false_iff.mpr λq=>?_;have e:C=hh:=Value.ref.inj (beq_iff_eq.mp q);subst e;unfold clsIn at j_
  split at j_
  ·rename_i cR d' cd' ox bC;have z:=(X _ _ bC).symm.trans ER;cases z
  ·cases j_
 ca:=λX I k=>Zi6 X I c k
end
noncomputable def ji (x C:Addr):HO:= .ext λh=>mE x C h∧ZR h x
section
variable {X:Cx}
noncomputable def uf (K:Frag):List V→Hp→VK→Prop:=λxs H Q=>∃(x C:Addr)(c:V)(u:Value)(b:Bool),xs=[.ref x,c]∧H x=some (ji x C)∧Vw K C∧(∀v,cA c v→v=u)∧kitOne K (.ref C) u=some b∧Q (.bl b) H
theorem yI{K:Frag}(e:X.K=K):YJ X (.builtin "isinstance") (uf K):=by
 subst e;intro ah s af H xs us Q I r h;obtain⟨x,C,c,u,b,rfl,a_,iQ,hu,bp,q⟩:=h;cases r with
 |cons cj oM=>
  obtain⟨v,rfl,cZ⟩:=Wd oM;cases (show _=Value.ref x from cj);have cU:=hu v cZ;subst cU;obtain⟨⟨ES,_⟩,_,_⟩:=(show ZW X.prog X.w H s.heap x (ji x C) from I.hok x _ a_);exact kia_one (EO iQ) I.kIn ES bp (λz=>nomatch z) λbT=>⟨.bl b,H,I.tok bT,rfl,q⟩
end
end L2
namespace L2
open PySem PySem.Spec PyProof.Rows
section
variable {X:Cx}{ah:List (Addr×Obj)}{af:List (Option V)}{H:Hp}{s:Shared}
theorem Inv.track{cm:Addr}{o:HO}(I:Inv X ah af H s)(cw:∀cx,X.s₀.heap.get? cm=some cx→cm∈X.ex)(hN:cm≠X.env.locals)(br:∀x c,X.env.cells.lookup x=some c→c≠cm)(bz:∀p∈X.pn++ah,p.1≠cm)(bG:H cm=none)
  (new:ZW X.prog X.w (upd H cm o) s.heap cm o):Inv X ah af (upd H cm o) s:=by
 refine⟨I.ok,I.os,I.bare,⟨I.base.keep,I.base.slot,λb cx e n a_=>?_,I.base.there,λb xs e=>?_,λb cx u e=>?_,λb b1 e=>?_⟩,I.loc,I.cell,?_,λx c e=>?_,λp rl=>?_,λb u e=>?_,I.len⟩
 ·rw[bW (λz=>a_ (by rw[z];exact cw cx (by rw[←z];exact e)))];exact I.base.free b cx e n a_
 ·rw[bW (cT (I.base.tups b xs e) bG)];exact I.base.tups b xs e
 ·rw[bW (cT (I.base.frzs b cx u e) bG)];exact I.base.frzs b cx u e
 ·obtain⟨more,q⟩:=I.base.tbls b b1 e;exact⟨more,by rw[bW (cT q bG)];exact q⟩
 ·rw[bW (qao hN)];exact I.free
 ·rw[bW (br x c e)];exact I.freeC x c e
 ·obtain⟨a,b,r⟩:=I.pin p rl;exact⟨a,by rw[bW (bz p rl)];exact b,r⟩
 ·by_cases ao:b=cm
  ·subst ao;rw[Zd] at e;cases e;exact new
  ·rw[bW ao] at e;exact(I.hok b u e).stay (λc v _ q=>q) (λc q=>by rw[bW (cT q bG)];exact q) λc xs q=>by rw[bW (cT q bG)];exact q
theorem Inv.dropName{h':Heap}{t':Nat}{j:Nat}{n:Str}{m:Str→Option Value}{v:Option Value}(I:Inv X ah af H s)(dx:X.N.Nodup)(bw:X.N[j]? =some n)(hs:Heap.SameBut X.env.locals s.heap h')
  (bv:∀(i:Nat) x w,X.N[i]? =some x→af[i]? =some (some w)→Vis X.env.scope x→∃u,cA w u∧ZmY X.env s.heap m x u) (bG:h'.Ns X.env.locals (λx=>if x=n then v else m x)):Inv X ah (af.set j none) H {s with heap:=h',toks:=t'}:=by
 have m_:∀b o,X.s₀.heap.get? b=some o→b≠X.env.locals:=λb o e=>Q0 (QU (Heap.lt_size e) I.ok.above);have k:∀b o,b≠X.env.locals→s.heap.get? b=some o→h'.get? b=some o:=λb o ao e=>(hs.2 b ao).trans e;refine⟨I.ok,I.os,I.bare,⟨λb o e e_ ao a_=>k b o (m_ b o e) (I.base.keep b o e e_ ao a_),λb o e e_ ao a_=>?_,I.base.free,λb o e a_=>?_,I.base.tups,I.base.frzs,I.base.tbls⟩,⟨_,bG,λi x w bD bI c6=>?_⟩,λx c e=>?_,I.free,I.freeC,λp bz=>?_,λb u e=>?_,by rw[qai];exact I.len⟩
 ·obtain⟨sl,q⟩:=I.base.slot b o e e_ ao a_;exact⟨sl,k b _ (m_ b o e) q⟩
 ·obtain⟨ci,q⟩:=I.base.there b o e a_;exact⟨ci,k b ci (m_ b o e) q⟩
 ·by_cases ug:i=j
  ·subst ug;have:(af.set i none)[i]? =some none∨(af.set i none)[i]? =none:=by
    rcases qap i af.length with z|z
    ·exact .inl (by rw[RE z])
    ·exact .inr (Rn (by rw[qai];exact z))
   rcases this with z|z<;>(rw[z] at bI;cases bI)
  ·rw[R4 (λz=>ug z.symm)] at bI;obtain⟨u,r,l⟩:=bv i x w bD bI c6;have nx:x≠n:=λz=>ug (s3 dx (by rw[bD,z]) bw);refine⟨u,r,?_⟩;rcases l with⟨a,b⟩|⟨a,c,e,o,bC,hd⟩
   ·exact .inl ⟨a,by simp only[if_neg nx];exact b⟩
   ·exact .inr ⟨a,c,e,o,k c o (I.cne x c e) bC,hd⟩
 ·obtain⟨w,o,bC,hd⟩:=I.cell x c e;exact⟨w,o,k c o (I.cne x c e) bC,hd⟩
 ·obtain⟨a,b,c,r⟩:=I.pin p bz;exact⟨k _ _ c a,b,c,r⟩
 ·refine(I.hok b u e).stay (λc jA br q=>k c jA ?_ q) (λ_ q=>q) λ_ _ q=>q;rcases br with z|z
  ·rw[z];exact cT e I.free
  ·exact cT z I.free
end
section
variable {X:Cx}
noncomputable def ET (K:Frag) (c:Value) (j:Nat) (cz:(St→Prop)→XK→TS) (th:Addr→TS):TS:=λD af H=>∃(J:St→Prop)(hc:XK),cz J hc D af H∧∀bQ cls ae,J bQ→hc cls none ae→exmOne K cls c=some true∧∃C,cls= .ref C∧∀cm,ae cm=none→
 th cm {D with nx:=λcs bo=>D.nx (cs.set j none) bo,bk:=λcs bo=>D.bk (cs.set j none) bo,ct:=λcs bo=>D.ct (cs.set j none) bo} (bQ.set j (some (.ref cm))) (upd ae cm (ji cm C))
noncomputable def yJ (K:Frag) (c:Value) (j:Nat) (cz:(St→Prop)→XK→TS) (th:TS):TS:=λD af H=>∃(J:St→Prop)(hc:XK),cz J hc D af H∧∀bQ cls ae,J bQ→hc cls none ae→exmOne K cls c=some true∧∃C,cls= .ref C∧∀cm,ae cm=none→
 th {D with nx:=λcs bo=>D.nx (cs.set j none) bo,bk:=λcs bo=>D.bk (cs.set j none) bo,ct:=λcs bo=>D.ct (cs.set j none) bo} (bQ.set j (some (.ref cm))) (upd ae cm (ji cm C))
theorem ZjD{n:Str}{j:Nat}{body:List Stmt}{nG:Stmt}{ll:List Stmt}{x:Str}{f3 jj pos:Pos}{cz:(St→Prop)→XK→TS}{th:Addr→TS}{C:Addr}
  (fw:X.stack=X.env::X.outer) (e0:X.env.frame=some X.env.locals) (bF:Gl X x) (bv:X.mg x=some (.ref C)) (ao:Znc X body cz) (hs:∀cm,PSs {X with A:=X.A.mark (some (.ref cm)),calm:=false,xe:=λ_ _=>False} (nG::ll) (th cm)) (dx:X.N.Nodup) (bw:X.N[j]? =some n) (lp:X.env.scope.names.lookup n=some .local) (eX:(x==("__debug__" :Str))=false:=by decide):
  PS X (.Try body [.ExceptHandler (some (.Name x f3)) (some n) (nG::ll) jj] [] [] pos) (ET X.K (.ref C) j cz th):=by
 intro ah s af H D I h;obtain⟨J,hc,f5,bR⟩:=h;have EU:X.A.frames=some (X.env::X.outer):=by rw[I.ok.frames,fw]
 refine wpAny_Try_except ?_
 let kl:Value→Shared→Prop:=λe da=>wpAny (model X.prog X.w) X.A (noteFrame e X.env) (λ_ jD=>wpAny (model X.prog X.w) X.A (setFlight e none) (λ_ ie=>wpAny (model X.prog X.w) X.A (handleBy e X.env [.ExceptHandler (some (.Name x f3)) (some n) (nG::ll) jj]) (SP X ah D) X.xe ie) X.xe jD) X.xe da
 have own:PassesOwn (model X.prog X.w) X.A X.env kl:=PassesOwn.looking;have nz:∀{xe:Value→Shared→Prop}{m':List (Addr×Obj)}{bQ:St}{ae:Hp}{s':Shared},Inv {X with pn:=X.pn++ah,xe:=xe} m' bQ ae s'→Inv X ah bQ ae s':=λ{xe m' bQ ae s'} J=>by
  have o:=J.ok;exact⟨⟨o.mod,o.kind,o.glob,o.blt,o.above,o.inj,o.has,o.cab,o.hd,o.frames,o.stk,o.exf,o.bs,o.bsz,o.noex,o.exfs,o.funs,o.frf⟩,J.os,J.bare,J.base,J.loc,J.cell,J.free,J.freeC,λp bz=>J.pin p (R3 _ bz),J.hok,J.len⟩
 have EV:Inv {X with pn:=X.pn++ah,xe:=kl} [] af H s:=by
  have o:=I.ok;exact⟨⟨o.mod,o.kind,o.glob,o.blt,o.above,o.inj,o.has,o.cab,o.hd,o.frames,o.stk,o.exf,o.bs,o.bsz,o.noex,o.exfs,o.funs,o.frf⟩,I.os,I.bare,I.base,I.loc,I.cell,I.free,I.freeC,λp bz=>I.pin p (by simpa using bz),I.hok,I.len⟩
 have EW:Zd0 (CXX X.prog X.w) {X with pn:=X.pn++ah,xe:=kl} J hc:=by
  intro m' bQ ax bq e s' mi bK hcx;obtain⟨cm,cls,a0,ae,B,rfl,os,bare,un,ok,eG,e',hD,q⟩:=hcx;have d0:=nz bK;obtain⟨EX,rm,rfl,EY⟩:=bR bQ cls ae mi q;have EZ:Heap.FlyingW B (X.env::X.outer) cm (.ref rm) a0 s'.heap:=by rw[←fw];exact eG
  show wpAny _ _ _ _ _ _;refine Ziz hD EU e0 EZ λxS held₄ sl₄ E1=>?_;refine ZmV E1 held₄ λtF fl₅ sl₅ E2=>?_;have there:∀{c':Heap},Heap.FlyingW B (X.env::X.outer) cm (.ref rm) a0 c'→s'.heap.UpToSlots c'→Inv X ah bQ ae {s' with heap:=c'}:=λ{c'} f6 sl=>by
   have E3:Un (frs X.stack) [] ax ae bq.heap c':=un.fly e' f6.1 sl (λb ao o e=>by
    obtain⟨_,ci,b6,d⟩:=d0.stack.mem ao;rw[e] at b6;cases b6;exact d) d0.stkFree
   exact d0.call' (s':={s' with heap:=c'}) os E3 (ok.stays (λb o e n=>e' b o e (.inl n)) f6.1) bare (λb z=>absurd z (by simp))
  have yK:∀{du:Shared},Inv X ah bQ ae du→Inv {X with A:=X.A.mark (some (.ref cm)),calm:=false,xe:=λ_ _=>False} ah bQ ae du:=λ{du} J=>by
   have o:=J.ok;exact⟨⟨o.mod,o.kind,o.glob,o.blt,o.above,o.inj,o.has,o.cab,λz=>absurd (show false=true from z) QY,o.frames,o.stk,o.exf,o.bs,o.bsz,o.noex,o.exfs,o.funs,o.frf⟩,J.os,J.bare,J.base,J.loc,J.cell,J.free,J.freeC,J.pin,J.hok,J.len⟩
  have iL:=yK (there fl₅ (sl₄.trans sl₅));refine wpAny_handleBy_cons (codeAny_handlers_test ?_) (by intro q;cases q);refine lZ iL bF bv ?_ eX;obtain⟨cx,E4,E5⟩:=fl₅.there;have LT:PySem.W.Looks (model X.prog X.w) tF (typeOf (.ref cm)) (.ref rm):=by
   exact E5▸(PySem.W.Looks.ld E4).andThen .now
  refine(PySem.W.exm_one iL.kIn LT EX).here ?_;refine codeAny_handlers_suite_as ?_;refine Zfd E2 fl₅ λOV fl₆ sl₆ E6=>?_;have gf:=yK (there fl₆ ((sl₄.trans sl₅).trans sl₆));obtain⟨yL,j0,OW⟩:=eG.there;have hq:∀b o,bq.heap.get? b=some o→b≠cm:=λb o e z=>by
   subst z
   by_cases bE:b∈frs X.stack
   ·obtain⟨_,ci,b6,d⟩:=d0.stack.mem bE;obtain⟨sl,g7⟩:=un.any b6 (d0.stkFree b bE) (by simp);obtain⟨OX,vs,nH,_,E7,_⟩:=eG.first;rw[g7] at nH;cases nH;exact d vs E7
   ·have:=e' b yL j0 (.inr ⟨⟨o,e⟩,bE⟩);rw[eG.2.1] at this;cases this
  have eu:ae cm=none:=by
   cases e:ae cm with
   |none=>rfl
   |some o=>
    have:=e' cm yL j0 (.inl (by rw[e];simp));rw[eG.2.1] at this;cases this
  have cw:∀cx,X.s₀.heap.get? cm=some cx→cm∈X.ex:=λcx e=>by
   by_cases a_:cm∈X.ex
   ·exact a_
   ·obtain⟨ci,g7⟩:=d0.base.there cm cx e a_;exact absurd rfl (hq cm ci g7)
  obtain⟨yM,yN,E8⟩:=fl₆.there;have gR:=Inv.track (o:=ji cm rm) gf cw (λz=>by
   obtain⟨m,⟨o,bx,ep,bC,_⟩,_⟩:=d0.loc;exact hq _ o bC z.symm) (λy c e=>by
   obtain⟨v,o,bC,_⟩:=d0.cell y c e;exact hq c o bC) (λf0 rl=>hq _ _ (d0.pin f0 rl).1) eu ⟨⟨⟨yM,yN,E8⟩,E6⟩,⟨yM,yN⟩,λap a' ⟨⟨o,a1,a2⟩,n⟩ k=>⟨⟨o,k o a1,a2⟩,n.keeps k⟩⟩
  refine oG (X:={X with A:=X.A.mark (some (.ref cm)),calm:=false,xe:=λ_ _=>False}) gR dx bw (.inl lp) (show cA (.ref cm) (.ref cm) from rfl) (λdn pi=>?_) (.inr lp);refine wpAny_mono (hs cm ah dn _ _ _ pi (EY cm eu)) (λf bJ a'=>?_) λ_ _ z=>False.elim z;have rn:∀{cs:St}{bo:Hp}{bJ:Shared},Inv {X with A:=X.A.mark (some (.ref cm)),calm:=false,xe:=λ_ _=>False} ah cs bo bJ→Inv X ah cs bo bJ:=λ{cs bo bJ} J=>by
   have o:=J.ok;exact⟨⟨o.mod,o.kind,o.glob,o.blt,o.above,o.inj,o.has,o.cab,I.ok.hd,I.ok.frames,o.stk,o.exf,o.bs,o.bsz,o.noex,o.exfs,o.funs,o.frf⟩,J.os,J.bare,J.base,J.loc,J.cell,J.free,J.freeC,J.pin,J.hok,J.len⟩
  have rp:∀{cs:St}{bo:Hp}{bJ:Shared}{Q:Unit→Shared→Prop},Inv X ah cs bo bJ→(∀bO,Inv X ah (cs.set j none) bo bO→Q () bO)→wpAny (model X.prog X.w) X.A (do bindName X.env n .none;unbindBehindTheSuite X.env n jj) Q X.xe bJ:=λ{cs bo bJ Q} J cq=>by
   refine wpAny_bind (wpAny_bindName (oG (u:= .none) J dx bw (.inl lp) (show cA .non .none from rfl) (λbO jk=>?_) (.inr lp)));obtain⟨m,bG,ag⟩:=jk.loc;have s5:(X.env.scope.kind== .class||(X.env.scope.kind== .module&&X.env.locals != X.env.globals))=false:=by rw[jk.ok.kind];rfl
   have yO:X.env.kindOf n=some .local:=lp;unfold unbindBehindTheSuite;refine wpAny_onRaise ?_;unfold unbindName;refine wpAny_bind (wpAny_point (wpAny_bind ?_));unfold deleteName;simp only[yO,s5];rw[if_neg (by decide)];refine wpAny_bind (wpAny_nsDel_keeps bG λtE v hn₂ E9=>?_);have yP:Inv X ah ((cs.set j (some .non)).set j none) bo {bO with heap:=tE,toks:=bO.toks}:=jk.dropName dx bw E9 ag hn₂;rw[List.set_set] at yP;have hX:j<cs.length:=by rw[J.len];exact(QP.mp bw).1
   have lq:(m n).isSome=true:=by
    obtain⟨u,r,l⟩:=ag j n .non bw (by rw[RE hX]) (.inl lp);rcases l with⟨_,b⟩|⟨a,_⟩
    ·rw[b];rfl
    ·rcases a with a|a<;>(rw[yO] at a;cases a)
   rw[lq];simp only[if_true,qaP,qaA,if_false];exact wpAny_pure (wpAny_point (cq _ yP))
  show wpAny (model X.prog X.w) X.A (do bindName X.env n .none;unbindBehindTheSuite X.env n jj) (λ_ ie=>SP X ah D f ie) X.xe bJ;cases f with
  |next=>obtain⟨cs,bo,hF,cO⟩:=a';exact rp (rn hF) λbO jk=>⟨_,bo,jk,cO⟩
  |brk=>obtain⟨cs,bo,hF,cO⟩:=a';exact rp (rn hF) λbO jk=>⟨_,bo,jk,cO⟩
  |cont=>obtain⟨cs,bo,hF,cO⟩:=a';exact rp (rn hF) λbO jk=>⟨_,bo,jk,cO⟩
  |ret u=>obtain⟨v,cs,bo,hF,cM,cO⟩:=a';exact rp (rn hF) λbO jk=>⟨v,_,bo,jk,cM,cO⟩
 refine wpAny_mono (ao J hc (X.pn++ah) kl own EW [] s af H D EV f5) (λf bq ap=>?_) λe bq ap=>ap;cases f with
 |next=>
  obtain⟨cs,bo,hF,cO⟩:=ap;show wpAny _ _ (execs [] X.env) _ _ _;exact wpAny_pure ⟨cs,bo,nz hF,cO⟩
 |brk=>obtain⟨cs,bo,hF,cO⟩:=ap;exact⟨cs,bo,nz hF,cO⟩
 |cont=>obtain⟨cs,bo,hF,cO⟩:=ap;exact⟨cs,bo,nz hF,cO⟩
 |ret u=>obtain⟨v,cs,bo,hF,cM,cO⟩:=ap;exact⟨v,cs,bo,nz hF,cM,cO⟩
theorem E_{n:Str}{j:Nat}{body:List Stmt}{nG:Stmt}{ll:List Stmt}{x:Str}{f3 jj pos:Pos}{cz:(St→Prop)→XK→TS}{th:TS}{C:Addr}
  (fw:X.stack=X.env::X.outer) (e0:X.env.frame=some X.env.locals) (bF:Gl X x) (bv:X.mg x=some (.ref C)) (ao:Znc X body cz) (hs:Zmq X (nG::ll) th) (dx:X.N.Nodup) (bw:X.N[j]? =some n) (lp:X.env.scope.names.lookup n=some .local) (eX:(x==("__debug__" :Str))=false:=by decide):
  PS X (.Try body [.ExceptHandler (some (.Name x f3)) (some n) (nG::ll) jj] [] [] pos) (yJ X.K (.ref C) j cz th):=
 ZjD (th:=λ_=>th) fw e0 bF bv ao (λcm=>hs _) dx bw lp eX
end
namespace Rd
section
variable {af:St}{H:Hp}{Q:VK}{K:Frag}
theorem Zk7{c:Value}{j:Nat}{cz:(St→Prop)→XK→TS}{th:TS}{D:W6}(hc:XK)(ao:cz (λs=>s=af) hc D af H)(bR:∀cls ae,hc cls none ae→exmOne K cls c=some true∧∃C,cls= .ref C∧∀cm,ae cm=none→
  th {D with nx:=λcs bo=>D.nx (cs.set j none) bo,bk:=λcs bo=>D.bk (cs.set j none) bo,ct:=λcs bo=>D.ct (cs.set j none) bo} (af.set j (some (.ref cm))) (upd ae cm (ji cm C))):yJ K c j cz th D af H:=
 ⟨λs=>s=af,hc,ao,λ_ cls ae e h=>e▸bR cls ae h⟩
theorem Zoc{x C B:Addr}{b:Bool}(h:H x=some (ji x C))(iQ:Vw K C)(k:PySem.W.kitOne K (.ref C) (.ref B)=some b)(q:Q (.bl b) H):uf K [.ref x,.ref B] H Q:=⟨x,C,.ref B,.ref B,b,rfl,h,iQ,λv r=>r,k,q⟩
theorem Zn7{x C:Addr}{n:String}{b:Bool}(h:H x=some (ji x C))(iQ:Vw K C)(k:PySem.W.kitOne K (.ref C) (.type n)=some b)(q:Q (.bl b) H):uf K [.ref x,.ty n] H Q:=⟨x,C,.ty n,.type n,b,rfl,h,iQ,λv r=>r,k,q⟩
end
section
variable {af:St}{H:Hp}{K:Frag}
end
end Rd
theorem ZiI{K:Frag}{C:Addr}{bm:List Value}{n:String}(h:excIn K C bm n=true):(PySem.W.clsIn K C).isSome=true:=by
 unfold excIn at h
 split at h
 ·rename_i dd c0 sl bC;unfold PySem.W.clsIn;rw[bC]
  rfl
 ·cases h
section
variable {X:Cx}
end
end L2
namespace HT
open PySem PyProof.Rows
section
open PySem.SeqAt
open PySem.MeetsSeq PySem.MeetsSeq2 PySem.MeetsSeq3
variable {prog:Program}{w:World}{A:Around}{E:Value→Shared→Prop}{s:Shared}
end
end HT
namespace L2
section
variable {X:Cx}{K:Frag}
open PySem PySem.Spec PyProof.Rows
end
namespace Rd
open PySem PySem.Spec PyProof.Rows
end Rd
end L2
namespace L2
open PySem PySem.Spec PyProof.Rows
section
def VE(p:Array Nat):Prop:=p.toList.Pairwise (· < ·)
theorem VE.lt{p:Array Nat}(h:VE p){i j:Nat}(rq:i<j)(bw:j<p.size):p[i]'(Nat.lt_trans rq bw)<p[j]:=by
 have:=RQ.mp h i j (by simpa using Nat.lt_trans rq bw) (by simpa using bw) rq;simpa using this
theorem Zcp{p:Array Nat}{j:Nat}(bn:VE p):∀(f lo hi:Nat),lo≤hi→hi≤p.size→hi-lo≤f→(∀i (h:i<p.size),i<lo→p[i]<j)→(∀i (h:i<p.size),hi≤i→j≤p[i])→
  SetTable.below.go p j f lo hi≤p.size∧(∀i (h:i<p.size),i<SetTable.below.go p j f lo hi→p[i]<j)∧∀i (h:i<p.size),SetTable.below.go p j f lo hi≤i→j≤p[i]
 |0,lo,hi,ap,a',bU,cD,dJ=>by
  have e:lo=hi:=by omega
  subst e;exact⟨a',cD,dJ⟩
 |f+1,lo,hi,ap,a',bU,cD,dJ=>by
  unfold SetTable.below.go
  by_cases ag:lo<hi
  ·rw[if_pos ag];have bv:(lo+hi) / 2<p.size:=by omega
   have eg:p.getD ((lo+hi) / 2) j=p[(lo+hi) / 2]:=by simp[Array.getD,bv]
   dsimp only;rw[eg]
   by_cases br:p[(lo+hi) / 2]<j
   ·rw[if_pos br];refine Zcp bn f _ _ (by omega) a' (by omega) (λi h dy=>?_) dJ;rcases qap i ((lo+hi) / 2) with z|z
    ·exact Nat.lt_trans (bn.lt z bv) br
    ·have:i=(lo+hi) / 2:=by omega
     subst this;exact br
   ·rw[if_neg br];refine Zcp bn f _ _ (by omega) (by omega) (by omega) cD λi h dy=>?_;rcases qap ((lo+hi) / 2) i with z|z
    ·have:=bn.lt z h;omega
    ·have:i=(lo+hi) / 2:=by omega
     subst this;omega
  ·rw[if_neg ag];have e:lo=hi:=by omega
   subst e;exact⟨a',cD,dJ⟩
theorem Zco{p:Array Nat}(bn:VE p)(j:Nat):SetTable.below p j≤p.size∧(∀i (h:i<p.size),i<SetTable.below p j→p[i]<j)∧∀i (h:i<p.size),SetTable.below p j≤i→j≤p[i]:=
 Zcp bn p.size 0 p.size (Q5 _) (QQ _) (QQ _) (λ_ _ h=>absurd h (RX _)) λi h z=>absurd h (Nat.not_lt.mpr z)
theorem Fa{p:Array Nat}(bn:VE p){i:Nat}(hi:i<p.size):SetTable.below p (p[i]+1)=i+1:=by
 obtain⟨ap,a',bU⟩:=Zco bn (p[i]+1);rcases Nat.lt_trichotomy (SetTable.below p (p[i]+1)) (i+1) with z|z|z
 ·have:=bU i hi (by omega);omega
 ·exact z
 ·have ag:i+1<p.size:=by omega
  have:=a' (i+1) ag z;have:=bn.lt (i:=i) (j:=i+1) (qac i) ag;omega
theorem Zim{p:Array Nat}(bn:VE p):SetTable.below p 0=0:=by
 obtain⟨ap,a',bU⟩:=Zco bn 0;rcases RK (SetTable.below p 0) with z|z
 ·exact z
 ·have:=a' 0 (by omega) z;omega
theorem VE.insert{p:Array Nat}(bn:VE p){j:Nat}(bG:p[SetTable.below p j]? ≠some j):VE (SetTable.insertAt p (SetTable.below p j) j):=by
 obtain⟨ap,a',bU⟩:=Zco bn j;unfold VE;rw[SetTable.toList_insertAt];generalize SetTable.below p j=b at*;refine List.pairwise_append.mpr ⟨bn.sublist (List.take_sublist _ _),List.pairwise_cons.mpr ⟨λy bP=>?_,bn.sublist (List.drop_sublist _ _)⟩,λx a_ y bP=>?_⟩
 ·obtain⟨k,bp,rfl⟩:=R6.mp bP;rw[List.getElem_drop];rw[qaJ,Rx] at bp;have ao:b<p.size:=by omega
  have fl:j<p[b]:=Nat.lt_of_le_of_ne (bU b ao (QQ _)) λe=>bG (by rw[Rr ao,e]);rcases RK k with rfl|OY
  ·simpa using fl
  ·have:=bn.lt (i:=b) (j:=b+k) (by omega) (by omega);simpa using Nat.lt_trans fl this
 ·have iy:x<j:=by
   obtain⟨k,bp,rfl⟩:=R6.mp a_;rw[FM,Rx] at bp;rw[qaD];simpa using a' k (by omega) (by omega)
  rcases QW.mp bP with rfl|bP
  ·exact iy
  ·obtain⟨k,bp,rfl⟩:=R6.mp bP;rw[qaJ,Rx] at bp;rw[List.getElem_drop];have:=bU (b+k) (by omega) (by omega);have cD:x<p[b+k]:=QU iy this;simpa using cD
theorem Fb(n:Nat):VE (Array.range n):=by
 unfold VE;rw[Array.toList_range];exact List.pairwise_lt_range
structure Z3(led:Bool)(t:SetTable):Prop where
 rise:VE t.place
 dum:t.dummies=#[]
 led:t.led=led
variable {led:Bool}{t:SetTable}
theorem Z3.fresh:Z3 led (.fresh 0 0 led):=⟨List.Pairwise.nil,rfl,rfl⟩
theorem Z3.standIn(g:Z3 led t)(n:Nat):Z3 led (t.standIn n):=⟨Fb n,rfl,g.led⟩
theorem Z3.orStandIn(g:Z3 led t)(n:Nat):Z3 led (t.orStandIn n):=by
 unfold SetTable.orStandIn
 split
 ·exact g
 ·exact g.standIn n
theorem Z3.noDummy(g:Z3 led t)(j:Nat):SetTable.has t.dummies j=false:=by
 rw[g.dum];simp[SetTable.has]
theorem Z3.slot_empty(g:Z3 led t){j:Nat}(h:t.slot j= .empty):t.place[SetTable.below t.place j]? ≠some j:=by
 intro e;unfold SetTable.slot at h;dsimp only at h;rw[e] at h;simp at h
theorem ZcH(g:Z3 led t){bB:Nat→Int}{h:Int}:∀(f:Nat)(p:SetTable.Probe)(j:Nat)(d:Option Nat),p.dummy=none→SetTable.probe.go t bB h f p=some (.empty j d)→d=none∧t.slot j= .empty
 |0,p,j,d,bz,e=>by cases e
 |f+1,p,j,d,bz,e=>by
  have Fc:∀q:SetTable.Probe,(t.advance q).dummy=q.dummy:=λq=>by
   unfold SetTable.advance
   split<;>rfl
  unfold SetTable.probe.go at e;cases hs:t.slot p.j with
  |empty=>rw[hs] at e;cases e;exact⟨bz,hs⟩
  |dummy=>
   exfalso;unfold SetTable.slot at hs;dsimp only at hs;rw[g.noDummy] at hs
   split at hs<;>simp at hs
  |live i=>
   rw[hs] at e;dsimp only at e
   split at e
   ·cases e
   ·exact ZcH g f _ j d (by rw[Fc,bz]) e
theorem Z3.put(g:Z3 led t){j:Nat}(h:t.slot j= .empty):Z3 led (t.put j).1:=by
 refine⟨g.rise.insert (g.slot_empty h),?_,g.led⟩;show(if SetTable.has t.dummies j then _ else t.dummies)=#[];rw[g.noDummy];exact g.dum
theorem Z3.layNew(g:Z3 led t)(bx:Array (Int×Value))(h:Int)(x:Value):Z3 led (layNew t bx h x).2.1:=by
 unfold PySem.layNew
 split
 ·rename_i slot was e;dsimp only;refine Z3.orStandIn (g.put ?_) _;unfold SetTable.freeSlot at e
  split at e
  ·rename_i j d bI;obtain⟨rfl,hs⟩:=ZcH g _ _ j d rfl bI;cases e;exact hs
  ·cases e
 ·exact g.standIn _
theorem Z3.laid{yQ finger Fd:Nat}{pl:Bool}{hs:Array Int}{r:SetTable×Array Nat}(e:SetTable.laid yQ finger Fd led pl hs=some r):Z3 led r.1:=by
 unfold SetTable.laid at e;cases bC:SetTable.layClean yQ hs with
 |none=>rw[bC] at e;cases e
 |some owner=>
  rw[bC] at e;cases e;refine⟨?_,rfl,rfl⟩;show List.Pairwise _ _;simp only[List.toList_toArray];rw[qaE];refine List.Pairwise.filterMap _ (R:=(· < ·)) (λa b kr c br d hd=>?_) List.pairwise_lt_range;cases bD:owner.getD a none with
  |none=>rw[bD] at br;cases br
  |some x=>
   cases bI:owner.getD b none with
   |none=>rw[bI] at hd;cases hd
   |some y=>rw[bD] at br;rw[bI] at hd;cases br;cases hd;exact kr
theorem Z3.relayAll(g:Z3 led t)(bx:Array (Int×Value))(n:Nat):Z3 led (relayAll t bx n).2.1:=by
 unfold PySem.relayAll
 split
 ·rename_i t' order e;dsimp only
  split
  ·unfold SetTable.relaid at e;rw[g.led] at e;exact Z3.laid e
  ·exact g.standIn _
 ·exact g.standIn _
end
section
noncomputable def keyI:Int×Value→Int
 |(_,.int n _)=>n
 |_=>0
def UJ(led:Bool)(cf:List Int)(o:Obj):Prop:=o.ExactSet∧∃bx ep t,o.data= .set bx ep t∧(∀e∈bx.toList,∃n bT,e=(hashInt n,Value.int n bT))∧bx.size<scanBound∧t.fits bx.size=true∧Z3 led t∧(bx.toList.map keyI).Perm cf
variable {prog:Program}{w:World}{A:Around}{E:Value→Shared→Prop}{s:Shared}{led:Bool}
theorem uh{l:List (Int×Value)}(h:∀e∈l,∃n bT,e=(hashInt n,Value.int n bT)):ElemsOf (intKind prog w) l:=λe bH=>by
 obtain⟨n,bT,rfl⟩:=h e bH;exact⟨⟨n,intKind_is _ _ _ _,rfl⟩,rfl⟩
theorem ui{l:List (Int×Value)}(h:∀e∈l,∃n bT,e=(hashInt n,Value.int n bT)){n:Int}:(∃e∈l,(intKind prog w).is n e.2=true)↔n∈l.map keyI:=by
 constructor
 ·rintro⟨e,bH,hi⟩;obtain⟨m,bT,rfl⟩:=h e bH;have:n=m:=(intKind prog w).inj _ n m hi (intKind_is _ _ _ _);subst this;exact Q3.mpr ⟨_,bH,rfl⟩
 ·intro bv;obtain⟨e,bH,bp⟩:=Q3.mp bv;obtain⟨m,bT,rfl⟩:=h e bH;cases bp;exact⟨_,bH,intKind_is _ _ _ _⟩
theorem yR{g:Bool→Sem Unit}(bF:∀(b:Bool)(bq:Shared)(hY:Unit→Shared→Prop),hY () bq→wpAny (model prog w) A (g b) hY E bq){a:Addr}{o:Obj}{bx:Array (Int×Value)}{ep:Nat}{t:SetTable}{cf:List Int}{eM:Array (Int×Value)}{dr:SetTable}{was:Bool}{R:Option Bool→Shared→Prop}
  (bC:s.heap.get? a=some o) (iw:o.ExactSet) (hd:o.data= .set bx ep t) (mF:∀e∈eM.toList,∃n bT,e=(hashInt n,Value.int n bT)) (k1:(eM.toList.map keyI).Perm cf) (f5:eM.size<scanBound) (f2:dr.fits eM.size=true) (g2:Z3 led dr)
  (q:∀h' ci,Heap.SameBut a s.heap h'→h'.get? a=some ci→UJ led cf ci→R (some true) {s with heap:=h'}):
  wpAny (model prog w) A (storeSet a eM dr >>= λ_=>if(!was&&dr.tooFull)=true then g (relayAll dr eM (SetTable.grown eM.size)).2.2 >>= λ_=>storeSet a (relayAll dr eM (SetTable.grown eM.size)).1 (relayAll dr eM (SetTable.grown eM.size)).2.1 >>= λ_=>pure (some true) else pure (some true)) R E s:=by
 refine wpAny_bind (wpAny_storeSet_of bC hd ?_ (fits_of_scanBound f5));have hr:=Heap.SameBut.update s.heap a (Obj.putSet eM dr);obtain⟨ks,_⟩:=SetOf_store (knd:=intKind prog w) (S':=λk=>decide (k∈cf)) bC iw hd (uh mF) (λk=>by rw[ui mF,k1.mem_iff];simp) f5 f2
 split
 ·have ku:=relayAll_perm dr eM (SetTable.grown eM.size);have c7:=relayAll_fits dr eM (SetTable.grown eM.size);have g3:=g2.relayAll eM (SetTable.grown eM.size);generalize relayAll dr eM (SetTable.grown eM.size)=R at ku c7 g3⊢;obtain⟨pI,kx,OZ⟩:=R;dsimp only at ku c7 g3⊢;have uj:pI.size=eM.size:=by have:=ku.length_eq;simpa using this
  have jN:pI.size<scanBound:=by rw[uj];exact f5
  have uk:∀e∈pI.toList,∃n bT,e=(hashInt n,Value.int n bT):=λe bH=>mF e (ku.mem_iff.mp bH);have k3:(pI.toList.map keyI).Perm cf:=(ku.map keyI).trans k1;refine wpAny_bind (bF _ _ _ ?_);refine wpAny_bind (wpAny_storeSet_of ks rfl ?_ (fits_of_scanBound jN));obtain⟨Fe,_⟩:=SetOf_store (knd:=intKind prog w) (S':=λk=>decide (k∈cf)) ks iw rfl (uh uk) (λk=>by rw[ui uk,k3.mem_iff];simp) jN c7;exact wpAny_pure (q _ _ (hr.trans (Heap.SameBut.update _ a _)) Fe ⟨iw,pI,_,kx,rfl,uk,jN,c7,g3,k3⟩)
 ·exact wpAny_pure (q _ _ hr ks ⟨iw,eM,_,dr,rfl,mF,f5,f2,g2,k1⟩)
theorem ZkP{a:Addr}{o:Obj}{cf:List Int}{n:Int}{bT:Tok}{Q:Bool→Shared→Prop}(bC:s.heap.get? a=some o)(db:UJ led cf o)(O0:cf.length+1<scanBound)
  (q:∀h' ci,Heap.SameBut a s.heap h'→h'.get? a=some ci→UJ led (step_dedup cf n) ci→∀b,Q b {s with heap:=h'}):wpAny (model prog w) A (setAddHashed a (.int n bT) (hashInt n)) Q E s:=by
 obtain⟨iw,bx,ep,t,hd,nI,ao,bE,bF,bz⟩:=db;have f7:ElemsOf (intKind prog w) bx.toList:=uh nI;have lr:bx.size=cf.length:=by have:=bz.length_eq;simpa using this
 have jh:(∃e∈bx.toList,(intKind prog w).is n e.2=true)↔n∈cf:=(ui nI).trans bz.mem_iff;unfold setAddHashed setAddHashedIn;refine wpAny_holding (wpAny_bind (wpAny_setState_of bC hd bE ?_));dsimp only;rw[byScan_of (x:= .int n bT) rfl ao f7,if_pos rfl];refine wpAny_bind ?_;unfold setAddByScan;refine wpAny_bind (wpAny_rule (wpAny_bind (wpAny_setScan_of (knd:=intKind prog w) (k:=n) (intKind_is _ _ _ _) bC hd bE f7 ?_)));cases bn:bx.toList.findIdx? (λe=>(intKind prog w).is n e.2) with
 |some j=>
  dsimp only;obtain⟨bw,Ff,_⟩:=List.findIdx?_eq_some_iff_getElem.mp bn;have ez:n∈cf:=jh.mp ⟨_,QO bw,Ff⟩;have e:step_dedup cf n=cf:=by
   unfold step_dedup;rw[if_pos (by simpa using ez)]
  refine wpAny_pure (wpAny_pure ?_);exact q s.heap o (Heap.SameBut.refl a s.heap) bC (by rw[e];exact⟨iw,bx,ep,t,hd,nI,ao,bE,bF,bz⟩) false
 |none=>
  dsimp only;have Fg:n∉cf:=λz=>by
   obtain⟨e,bH,hi⟩:=jh.mpr z;have:=List.findIdx?_eq_none_iff.mp bn e bH;rw[hi] at this;cases this
  have e:step_dedup cf n=cf++ [n]:=by
   unfold step_dedup;rw[if_neg (by simpa using Fg)]
  have eZ:=layNew_perm t bx (hashInt n) (.int n bT);have f1:=layNew_fits t bx (hashInt n) (.int n bT);have g1:=bF.layNew bx (hashInt n) (.int n bT);generalize layNew t bx (hashInt n) (Value.int n bT)=L at eZ f1 g1⊢;obtain⟨eM,mh,was,O1⟩:=L;dsimp only at eZ f1 g1⊢;rw[Array.toList_push] at eZ;have mF:∀e∈eM.toList,∃n bT,e=(hashInt n,Value.int n bT):=λe bH=>by
   rcases Rk.mp (eZ.mem_iff.mp bH) with z|z
   ·exact nI e z
   ·exact⟨n,bT,QS.mp z⟩
  have k1:(eM.toList.map keyI).Perm (cf++ [n]):=(eZ.map keyI).trans (by rw[Rv];exact bz.append_right _);have fo:eM.size=cf.length+1:=by have:=k1.length_eq;simpa using this
  have f5:eM.size<scanBound:=by omega
  have ul:∀(b:Bool)(bq:Shared)(hY:Unit→Shared→Prop),hY () bq→wpAny (model prog w) A (match b with|true=>rule "set.scan.the-table-gave-way" |false=>pure ()) hY E bq:=λb bq hY ap=>by
   cases b
   ·exact wpAny_pure ap
   ·exact wpAny_rule ap
  refine wpAny_bind (ul _ _ _ ?_);have dQ:∀h' ci,Heap.SameBut a s.heap h'→h'.get? a=some ci→UJ led (cf++ [n]) ci→wpAny (model prog w) A (pure true) Q E {s with heap:=h'}:=λh' ci x y z=>wpAny_pure (q h' ci x y (by rw[e];exact z) true)
  split
  ·refine wpAny_bind ?_;rw[hashByValue_scannable 8 (x:= .int n bT) rfl];refine wpAny_pure (yR (g:=_) ?_ bC iw hd mF k1 f5 f1 g1 dQ);exact ul
  ·refine wpAny_bind (wpAny_pure (yR (g:=_) ?_ bC iw hd mF k1 f5 f1 g1 dQ));exact ul
end
section
variable {prog:Program}{w:World}{A:Around}{led:Bool}
theorem ZiL(val:Nat→Int)(i:Nat):(firstMet val i).length≤i:=firstMet_length_le val i
theorem Zks{R:Result→Shared→Prop}{I S:Addr}{fp pJ:List Addr}{G:Array GenState→Array GenState→Prop}{n:Nat}{P:Nat→Value→Prop}{St:Nat→Shared→Prop}(W:WalksS prog w A.in1 I fp pJ G n P St)(mC:S∉fp)(val:Nat→Int)(yS:∀i v,P i v→∃t,v= .int (val i) t)(ao:n+1<scanBound):
  ∀(k i:Nat)(s:Shared)(o:Obj),n-i=k→i≤n→St i s→s.heap.get? S=some o→UJ led (firstMet val i) o→
   (∀s' ci,Moved (S::pJ) G s s'→s'.heap.get? S=some ci→UJ led (firstMet val n) ci→R (.ok (.ret .none)) s')→codeAny (model prog w) A (.builtin "set.update.loop" ⟨[.ref S,.ref I],[]⟩) R s:=by
 have yT:S∉pJ:=λz=>mC (W.sub _ z);have ny:∀b∈pJ,b∈S::pJ:=λb z=>Q7 _ z;intro k
 induction k with
 |zero=>
  intro i s o bp hi st db sS q;obtain rfl:i=n:=by omega
  refine codeAny_builtin F.entry_set_update_loop ?_;rw[Around.under_plainId F.plain_set_update_loop];refine wpAny_bind (W.done s _ _ st λbq hZ=>?_);exact wpAny_pure (q bq o (hZ.mono ny) (hZ.heap S o yT db) sS)
 |succ k bM=>
  intro i s o bp hi st db sS q;have cL:i<n:=by omega
  refine codeAny_builtin F.entry_set_update_loop ?_;rw[Around.under_plainId F.plain_set_update_loop];refine wpAny_bind (W.item i s _ _ cL st λv bq dR Fh hZ=>?_);obtain⟨t,rfl⟩:=yS i v dR;have pK:=hZ.heap S o yT db;refine wpAny_bind (wpAny_holding ?_);unfold setAdd;refine wpAny_holding (wpAny_bind ((intKind prog w).pyHash (k:=val i) (intKind_is _ _ _ _) ?_));have bn:(firstMet val i).length+1<scanBound:=by have:=ZiL val i;omega
  refine ZkP (s:={bq with toks:=bq.toks+1}) pK sS bn λa' gs hr h2o bJ b=>?_;rw[←firstMet_succ] at bJ;refine wpAny_pure ⟨plainId_quiet F.plain_set_update_loop _,bM (i+1) _ gs (by omega) cL (W.frame _ bq _ _ Fh (qaH _) λc br gu c6=>?_) h2o bJ λbO gu mv3 bU g3=>?_⟩
  ·rw[hr.2 c λz=>mC (z▸br)];exact c6
  ·refine q bO gu (Moved.trans W.gtrans ((hZ.mono ny).then_heap (qaH _) λc rr br gV=>?_) mv3) bU g3;rw[hr.2 c λz=>br (z▸R0)];exact gV
theorem Fi{E:Value→Shared→Prop}{s:Shared}(a:Value){Q:Value→Shared→Prop}
  (h:Q (.ref s.heap.objs.size) {s with heap:=s.heap.push {cls:= .type "set",dict:=none,data:= .set #[] 0 (.fresh 0 0 (!w.params.followText "set-order"))}}):
  codeAny (model prog w) A (.call (.builtin "set.__new__") ⟨[.type "set",a],[]⟩) (wants Q E) s:=by
 refine codeAny_of_tree ?_;refine wpAny_bind (wpAny_of_eq (F.newCall_set_1 a) (wpAny_pure ⟨plainId_quiet F.plain_set_new _,codeAny_builtin F.entry_set_new ?_⟩));rw[Around.under_plainId F.plain_set_new _];unfold Builtin.«set.__new__» Builtin.Frozenset.newClass;have Fj:=sub_set_self;obtain⟨bz,g,d,bT,os⟩:=s;dsimp only
 wp_walk
 refine wpAny_askSetting (wpAny_pure ?_);dsimp only;simp only[newObj];exact wpAny_bind (wpAny_alloc (wpAny_pure (wpAny_pure h)))
end
section
variable {prog:Program}{w:World}{A:Around}
theorem Zkj{E:Value→Shared→Prop}{s:Shared}{l:Addr}{items:Array Value}{ns:List Int}{Q:Value→Shared→Prop}(bR:A.handled=none)(ag:s.heap.IsList l items)(hi:IntsAre items.toList ns)(ao:items.size+1<scanBound)
  (q:∀(h':Heap)(bT:Nat)(o:Obj),h'.get? s.heap.objs.size=some o→UJ (!w.params.followText "set-order") (firstMet (λi=>ns.getD i 0) items.size) o→
   (∀b o,b<s.heap.objs.size→s.heap.get? b=some o→h'.get? b=some o)→Q (.ref s.heap.objs.size) {s with heap:=h',toks:=bT}):
  wpAny (model prog w) A (call (.type "set") [.ref l]) Q E s:=by
 obtain⟨c,dA,O2⟩:=F.called_set.mro;have O3:=F.called_set.made;have Fj:=F.called_set.sub;refine wpAny_call (codeAny_of_tree ?_);refine wpAny_pure ⟨Code.quiet_builtin _ (by decide+kernel),codeAny_builtin F.entry_type_call ?_⟩;rw[Around.under_plain (weight_type_call_type "set" [.ref l] []) rfl];have hb:=F.called_set.notType;have fQ:=F.called_set.canCreate;have Fk:=F.typeCall_set_1 (.ref l)
 repeat (any_goals (first|assumption|wp_step))
 clear fQ Fk;refine codeAny_mono (Fi (.ref l) (E:=E) (Q:=λv bq=>v= .ref s.heap.objs.size∧bq={s with heap:=s.heap.push {cls:= .type "set",dict:=none,data:= .set #[] 0 (.fresh 0 0 (!w.params.followText "set-order"))}}) ⟨rfl,rfl⟩) λr bq bn=>?_;rcases r with e|eG
 ·exact bn
 cases eG with
 |ret v=>
  obtain⟨rfl,rfl⟩:=bn;generalize dx:({cls:= .type "set",dict:=none,data:= .set #[] 0 (.fresh 0 0 (!w.params.followText "set-order"))}:Obj)=N;have Fl:N.cls= .type "set" :=by rw[←dx]
  have Fm:UJ (!w.params.followText "set-order") [] N:=by
   rw[←dx];exact⟨⟨rfl,rfl,rfl⟩,#[],0,_,rfl,by simp,by decide,by rfl,Z3.fresh,by simp⟩
  have db:(s.heap.push N).get? s.heap.objs.size=some N:=Heap.get?_push_size _ (by rw[←dx];rfl);have c1:Shared.TypeIs {s with heap:=s.heap.push N} (.ref s.heap.objs.size) "set" :=⟨_,db,Fl⟩;have Fn:=F.called_set.init.lookup;have bi:=F.called_set.init.bind (.ref s.heap.objs.size)
  repeat (any_goals (first|assumption|wp_step))
  refine codeAny_mono (codeAny_call_builtin (R:=wants (λr bJ=>r= .none∧∃h' bT o,bJ={s with heap:=h',toks:=bT}∧h'.get? s.heap.objs.size=some o∧UJ (!w.params.followText "set-order") (firstMet (λi=>ns.getD i 0) items.size) o∧(∀b o,b<s.heap.objs.size→s.heap.get? b=some o→h'.get? b=some o)) E) F.called_set.init.plain F.entry_set_init (check_set_init_1 c1 ?_)) λr bJ bn=>?_
  ·have jO:(s.heap.push N).IsList l items:=ag.push _;obtain⟨ru,yU,ey,Fp,nJ⟩:=ag;obtain⟨O4,Fq,O5,Fs⟩:=ru;simp only at ey nJ;subst ey nJ;have yV:(s.heap.push N).get? l=some {cls:= .type "list",dict:=Fq,data:= .seq items Fp,slots:=Fs}:=Heap.get?_push_of_some _ yU;have x1:=F.sub_list_set;have x2:=F.sub_list_frozenset;have x3:(Value.type "list" ==Value.type "dict")=false:=by decide
   have mD:=db;rw[←dx] at db c1 yV⊢;unfold Builtin.«set.__init__» noKeywords Builtin.Frozenset.updateFrom;generalize Ft:pyIter=PI
   wp_walk
   subst Ft;rw[dx] at yV db c1⊢;refine wpAny_pyIter_list jO ?_;refine wpAny_bind (wpAny_runValue ?_);have yW:l<s.heap.objs.size:=Heap.lt_size yU;have f8:A.in1.in1.in1.handled=none:=by simp[bR]
   have Fu:l≠(s.heap.push N).objs.size:=by
    rw[Heap.size_push];exact Q0 (RS yW)
   have kW:s.heap.objs.size∉[(s.heap.push N).objs.size,l]:=by
    rw[Heap.size_push];simp only[QW,Ru,or_false,not_or];exact⟨Q0 (qac _),qaz yW⟩
   refine Zks ((Walks.list f8 _ l Fu items).toS) kW (λi=>ns.getD i 0) (λi v b8=>IntsAre.int_at hi i v (by rw[RJ];exact b8)) ao (items.size-0) 0 _ N (by omega) (Q5 _) ⟨⟨_,Heap.get?_push_size _ rfl,rfl,rfl⟩,jO.push _⟩ (Heap.get?_push_of_some _ db) Fm λbO gu hZ bU g3=>?_;obtain⟨h',g',d',Fv,tj⟩:=bO;obtain rfl:g'=s.gens:=hZ.gens;obtain rfl:d'=s.drawn:=hZ.drawn;obtain rfl:tj=s.os:=hZ.os;show wpAny _ _ _ _ _ _;refine wpAny_pure ?_;show wpAny _ _ (ret Value.none) _ _ _;refine wpAny_pure ⟨rfl,h',Fv,gu,rfl,bU,g3,λb o fl e=>hZ.heap b o ?_ (Heap.get?_push_of_some _ (Heap.get?_push_of_some _ e))⟩;rw[Heap.size_push];simp only[QW,Ru,or_false,not_or];exact⟨Q0 fl,Q0 (RS fl)⟩
  ·rcases r with e|eG
   ·exact bn
   cases eG with
   |ret v=>
    obtain⟨rfl,h',bT,o,rfl,ap,a',bU⟩:=bn
    repeat (any_goals (first|assumption|wp_step))
    exact q _ _ _ ap a' bU
   |_=>exact bn.elim
 |_=>exact bn.elim
end
section
theorem pL:Slot "set_iterator" "__next__" "set_iterator.__next__" := .of (owner:="set_iterator") (n:="__next__") (by rw[typeLookup_type,builtinLookup_eq_fast];kernel_rfl) (by decide+kernel) (by decide+kernel) (by decide+kernel) (by first|exact .inl (by decide+kernel)|exact .inr (by decide+kernel)) (by rw[isSubtype_type];kernel_rfl)
theorem yX:Slot "set_iterator" "__iter__" "set_iterator.__iter__" := .of (owner:="set_iterator") (n:="__iter__") (by rw[typeLookup_type,builtinLookup_eq_fast];kernel_rfl) (by decide+kernel) (by decide+kernel) (by decide+kernel) (by first|exact .inl (by decide+kernel)|exact .inr (by decide+kernel)) (by rw[isSubtype_type];kernel_rfl)
theorem Fw:entryFor table "set_iterator.__next__" =some Builtin.«set_iterator.__next__»:=entryFor_of_tree (by kernel_rfl)
theorem Fx:entryFor table "set_iterator.__iter__" =some Builtin.«dict_keyiterator.__iter__»:=entryFor_alias (id':="dict_keyiterator.__iter__") (by kernel_rfl) rfl (by decide+kernel) (by kernel_rfl)
theorem Fy:entryFor table "set.__iter__" =some Builtin.«frozenset.__iter__»:=entryFor_alias (id':="frozenset.__iter__") (by kernel_rfl) rfl (by decide+kernel) (by kernel_rfl)
theorem yY:Manifest.owners.lookup (String.ofList "set_iterator".toList.reverse.reverse)=some Manifest.sig_set_iterator:=by kernel_rfl
theorem Fz(a:Value):argsOk "set_iterator.__next__" ⟨[a],[]⟩:=by
 unfold argsOk;rw[signature?_of (id:="set_iterator.__next__") (n:=['_','_','t','x','e','n','_','_']) (o:="set_iterator".toList.reverse) (by kernel_rfl) yY]
 kernel_rfl
theorem FA(a:Value):argsOk "set_iterator.__iter__" ⟨[a],[]⟩:=by
 unfold argsOk;rw[signature?_of (id:="set_iterator.__iter__") (n:=['_','_','r','e','t','i','_','_']) (o:="set_iterator".toList.reverse) (by kernel_rfl) yY]
 kernel_rfl
noncomputable def iW (first:Value) (i:Nat) (a:Addr) (n ep:Nat):Obj:={cls:= .type "set_iterator",dict:=none,data:= .fields #[first,.int i 0,.ref a,.int n 0,.int ep 0],slots:=#[]}
variable {prog:Program}{w:World}{A:Around}{E:Value→Shared→Prop}{s:Shared}
theorem FC{FD:Source}{n:Nat}{Q:Nat→Shared→Prop}(bG:n≠0)(h:∀i d,i<n→Q i {s with drawn:=d}):wpAny (model prog w) A (choose FD n) Q E s:=
 λ_ _ _=>⟨bG,h _ _ (Nat.mod_lt _ (Nat.pos_of_ne_zero bG))⟩
theorem um{cJ:Type}:∀{l:List cJ}{i:Nat}(h:i<l.length),(l[i]::l.eraseIdx i).Perm l
 |x::l,0,_=>by simp
 |x::l,i+1,h=>by
  rw[List.getElem_cons_succ,List.eraseIdx_cons_succ];exact(List.Perm.swap _ _ _).trans ((um (by simpa using h)).cons x)
theorem yZ{cJ:Type}:∀(xs:List cJ)(s:Shared)(Q:List cJ→Shared→Prop),(∀ys d,ys.Perm xs→Q ys {s with drawn:=d})→wpAny (model prog w) A (drawOrder xs.length xs) Q E s
 | [],s,Q,h=>wpAny_pure (h [] s.drawn .rfl)
 |x::xs,s,Q,h=>by
  show wpAny _ _ (choose .order (x::xs).length >>= _) _ _ _;refine wpAny_bind (FC (by simp) λi d hi=>?_);rw[QN hi];have bz:=um (l:=x::xs) hi;generalize (x::xs)[i]=y at bz⊢;have d1:xs.length=((x::xs).eraseIdx i).length:=by rw[List.length_eraseIdx_of_lt hi];rfl
  show wpAny _ _ (drawOrder xs.length ((x::xs).eraseIdx i) >>= _) _ _ _;generalize (x::xs).eraseIdx i=zs at bz d1⊢;rw[d1];refine wpAny_bind (yZ zs _ _ λys h0 bP=>?_);exact wpAny_pure (h (y::ys) h0 ((bP.cons y).trans bz))
 termination_by xs=>xs.length
 decreasing_by simp_wf;omega
theorem y0{cJ:Type}(next:Nat→Nat):∀(f k:Nat)(l:List cJ)(out:Array cJ),f=l.length→(pickOrder.go next f k l out).toList.Perm (out.toList++l)
 |0,k,l,out,e=>by
  obtain rfl:l=[]:=List.eq_nil_of_length_eq_zero e.symm;simp[pickOrder.go]
 |f+1,k,l,out,e=>by
  have hi:next k % l.length<l.length:=Nat.mod_lt _ (by omega);unfold pickOrder.go;rw[QN hi];refine(y0 next f (k+1) _ _ (by rw[List.length_eraseIdx_of_lt hi];omega)).trans ?_;rw[Array.toList_push,qaZ];exact(um hi).append_left _
theorem uo{cJ:Type}(next:Nat→Nat)(xs:Array cJ):(pickOrder next xs).toList.Perm xs.toList:=by
 have:=y0 next xs.size 0 xs.toList #[] (by simp);simpa[pickOrder] using this
theorem y1{fa:Around}{it:Addr}{Q:Option Value→Shared→Prop}(bR:A.handled=none){ap:Heap}(ao:Heap.SameBut it s.heap ap)(q:∀h',Heap.ExtBut it s.heap h'→Q none {s with heap:=h'}):
  wpAny (model prog w) A (newExc (.type "StopIteration") [] >>= λe=>(raiseNew e:Sem Fin)) (λ_ _=>False) (λe s'=>wpAny (model prog w) fa (isInstance e (.type "StopIteration") >>= λb=>if b=true then pure none else throw e) Q E s') {s with heap:=ap}:=by
 refine wpAny_bind ?_;simp only[newExc,newTuple];refine wpAny_bind (wpAny_newObj_type ?_ (by size_fits));refine wpAny_bind (m:=firstArgMember _ _) (wpAny_of_eq (a:=Value.none) (by first|rfl|(simp only[firstArgMember];rfl)) ?_);refine wpAny_newObj_type ?_ (by size_fits);simp only[raiseNew];refine wpAny_bind (wpAny_handled ?_);rw[bR];refine wpAny_bind (wpAny_pure (wpAny_throw ?_));exact wpAny_bind (wpAny_isInstance (T:="StopIteration") (b:=true) ⟨_,Heap.get?_push_size _ rfl,rfl⟩ isSubtype_stop (wpAny_pure (q _ ((ao.extBut.push _).push _))))
variable {it a:Addr}{o:Obj}{bx:Array (Int×Value)}{ep i:Nat}{t:SetTable}{Q:Option Value→Shared→Prop}
theorem ZeZ{first:Value}(dD:s.heap.get? it=some (iW first i a bx.size ep))(h:wpAny (model prog w) A.in1 (Builtin.«set_iterator.__next__» ⟨[.ref it],[]⟩) (λdQ s'=>∃x,dQ= .done (.ret x)∧Q (some x) s') (λe s'=>wpAny (model prog w) A (isInstance e (.type "StopIteration") >>= λb=>if b=true then pure none else throw e) Q E s') s):wpAny (model prog w) A (pyNext (.ref it)) Q E s:=by
 have c1:s.TypeIs (.ref it) "set_iterator" :=⟨_,dD,rfl⟩;unfold pyNext;refine wpAny_bind (wpAny_attempt (wpAny_callSpecial?_slot (name:=Str.ofString "__next__") c1 pL (wpAny_call_entry pL c1 Fw ?_ (Fz _))));refine wpAny_mono h (λdQ s' z=>?_) λe s' z=>?_
 ·obtain⟨x,rfl,q⟩:=z;exact⟨x,rfl,wpAny_pure q⟩
 ·exact z
theorem Zg1{sl nx:Nat}{v:Value}(dD:s.heap.get? it=some (iW (.int sl 0) i a bx.size ep))(bC:s.heap.get? a=some o)(hd:o.data= .set bx ep t)(bE:t.fits bx.size=true)
  (a_:∀{A:Around}{E:Value→Shared→Prop}(Q:Option (Value×Nat)→Shared→Prop),Q (some (v,nx)) s→wpAny (model prog w) A (setNext a sl i ep) Q E s)
  (q:∀h',h'.get? it=some (iW (.int nx 0) (i+1) a bx.size ep)→Heap.SameBut it s.heap h'→Q (some v) {s with heap:=h'}):wpAny (model prog w) A (pyNext (.ref it)) Q E s:=by
 refine ZeZ dD ?_;unfold Builtin.«set_iterator.__next__»;refine wpAny_bind (m:=slotArgs _ _ _) (wpAny_pure (wpAny_bind (wpAny_fieldsOf dD rfl ?_)));show wpAny _ _ (setEntries a >>= _) _ _ _;refine wpAny_bind (wpAny_setEntries_of bC hd bE ?_);rw[if_neg (by simp)];show wpAny _ _ (setNext a _ _ _ >>= _) _ _ _;simp only[QT];refine wpAny_bind (a_ _ ?_);refine wpAny_bind (wpAny_setField_rec dD (by simp) λap bD fy=>?_);refine wpAny_bind (wpAny_setField_rec (s:={s with heap:=ap}) bD (by simp) λa' bI hV=>?_);exact wpAny_pure ⟨v,rfl,q a' bI (fy.trans hV)⟩
theorem ZiU{sl:Nat}(bR:A.handled=none)(dD:s.heap.get? it=some (iW (.int sl 0) i a bx.size ep))(bC:s.heap.get? a=some o)(hd:o.data= .set bx ep t)(bE:t.fits bx.size=true)
  (a_:∀{A:Around}{E:Value→Shared→Prop}(Q:Option (Value×Nat)→Shared→Prop),Q none s→wpAny (model prog w) A (setNext a sl i ep) Q E s)
  (q:∀h',Heap.ExtBut it s.heap h'→Q none {s with heap:=h'}):wpAny (model prog w) A (pyNext (.ref it)) Q E s:=by
 refine ZeZ dD ?_;unfold Builtin.«set_iterator.__next__»;refine wpAny_bind (m:=slotArgs _ _ _) (wpAny_pure (wpAny_bind (wpAny_fieldsOf dD rfl ?_)));show wpAny _ _ (setEntries a >>= _) _ _ _;refine wpAny_bind (wpAny_setEntries_of bC hd bE ?_);rw[if_neg (by simp)];show wpAny _ _ (setNext a _ _ _ >>= _) _ _ _;simp only[QT];refine wpAny_bind (a_ _ ?_);refine wpAny_bind (wpAny_setField_rec dD (by simp) λap bD fy=>?_);exact wpAny_mono (y1 (A:=A.in1) bR fy q) (λ_ _ z=>False.elim z) λ_ _ z=>z
theorem Zl4{T:Addr}{items:Array Value}{pl:Nat}{k:Int}{v:Value}(dD:s.heap.get? it=some (iW (.ref T) i a bx.size ep))(c1:s.heap.IsTuple T items)(hi:items[i]? =some (.int pl 0))(b8:bx[pl]? =some (k,v))(bC:s.heap.get? a=some o)(hd:o.data= .set bx ep t)(bE:t.fits bx.size=true)
  (q:∀h',h'.get? it=some (iW (.ref T) (i+1) a bx.size ep)→Heap.SameBut it s.heap h'→Q (some v) {s with heap:=h'}):wpAny (model prog w) A (pyNext (.ref it)) Q E s:=by
 obtain⟨nK,up,FE,FF,uq⟩:=c1;refine ZeZ dD ?_;unfold Builtin.«set_iterator.__next__»;refine wpAny_bind (m:=slotArgs _ _ _) (wpAny_pure (wpAny_bind (wpAny_fieldsOf dD rfl ?_)));show wpAny _ _ (setEntries a >>= _) _ _ _;refine wpAny_bind (wpAny_setEntries_of bC hd bE ?_);rw[if_neg (by simp)];show wpAny _ _ (seqItems? (.ref T) >>= _) _ _ _;refine wpAny_bind (wpAny_seqItems up uq ?_);simp only[QT,hi];unfold setNextDrawn;refine wpAny_bind (wpAny_bind (wpAny_setState_of bC hd bE ?_));dsimp only;rw[if_neg (by simp),b8];refine wpAny_pure ?_;refine wpAny_bind (wpAny_setField_rec dD (by simp) λa' bI hV=>?_);exact wpAny_pure ⟨v,rfl,q a' bI hV⟩
theorem Zmt{T:Addr}{items:Array Value}(bR:A.handled=none)(dD:s.heap.get? it=some (iW (.ref T) i a bx.size ep))(c1:s.heap.IsTuple T items)(hi:items[i]? =none)(bC:s.heap.get? a=some o)(hd:o.data= .set bx ep t)(bE:t.fits bx.size=true)
  (q:∀h',Heap.ExtBut it s.heap h'→Q none {s with heap:=h'}):wpAny (model prog w) A (pyNext (.ref it)) Q E s:=by
 obtain⟨nK,up,FE,FF,uq⟩:=c1;refine ZeZ dD ?_;unfold Builtin.«set_iterator.__next__»;refine wpAny_bind (m:=slotArgs _ _ _) (wpAny_pure (wpAny_bind (wpAny_fieldsOf dD rfl ?_)));show wpAny _ _ (setEntries a >>= _) _ _ _;refine wpAny_bind (wpAny_setEntries_of bC hd bE ?_);rw[if_neg (by simp)];show wpAny _ _ (seqItems? (.ref T) >>= _) _ _ _;refine wpAny_bind (wpAny_seqItems up uq ?_);simp only[QT,hi];refine wpAny_bind (wpAny_setField_rec dD (by simp) λcw eo eA=>?_);refine wpAny_bind (wpAny_setField_rec (s:={s with heap:=cw}) eo (by simp) λap bD fy=>?_);exact wpAny_mono (y1 (A:=A.in1) (s:=s) bR (eA.trans fy) q) (λ_ _ z=>False.elim z) λ_ _ z=>z
theorem Zev{sl:Nat}(hw:w.params.followText "set-order" =true)(bC:s.heap.get? a=some o)(hd:o.data= .set bx ep t)(bE:t.fits bx.size=true)(Q:Option (Value×Nat)→Shared→Prop)(q:Q (((pickOrder (w.params.setOrder a ep) bx)[i]?).map λe=>(e.2,sl)) s):wpAny (model prog w) A (setNext a sl i ep) Q E s:=by
 unfold setNext setsByText;refine wpAny_bind (wpAny_setState_of bC hd bE ?_);dsimp only;refine wpAny_bind (wpAny_bind (wpAny_askSetting (wpAny_pure ?_)));show wpAny _ _ (if w.params.followText "set-order" =true then _ else _) _ _ _;rw[if_pos hw,if_neg (by simp)];unfold setWalk setsByText;refine wpAny_bind (wpAny_bind (wpAny_setState_of bC hd bE ?_));dsimp only;refine wpAny_bind (wpAny_bind (wpAny_askSetting (wpAny_pure ?_)));show wpAny _ _ (if w.params.followText "set-order" =true then _ else _) _ _ _;rw[if_pos hw];exact wpAny_bind (wpAny_askSetting (wpAny_pure (wpAny_pure q)))
theorem ZcL{sl:Nat}(hw:w.params.followText "set-order" =false)(bC:s.heap.get? a=some o)(hd:o.data= .set bx ep t)(bE:t.fits bx.size=true)(bz:(!t.plain&&decide (bx.size > 1))=false)(ag:t.led=true)(Q:Option (Value×Nat)→Shared→Prop)
  (q:Q (match bx[SetTable.below t.place sl]?,t.place[SetTable.below t.place sl]? with|some (_,x),some j=>some (x,j+1)|_,_=>none) s):wpAny (model prog w) A (setNext a sl i ep) Q E s:=by
 unfold setNext setsByText;refine wpAny_bind (wpAny_setState_of bC hd bE ?_);dsimp only;refine wpAny_bind (wpAny_bind (wpAny_askSetting (wpAny_pure ?_)));show wpAny _ _ (if w.params.followText "set-order" =true then _ else _) _ _ _;rw[if_neg (by rw[hw];simp)];show wpAny _ _ (if(!t.plain&&decide (bx.size > 1))=true then _ else _) _ _ _;rw[if_neg (by rw[bz];simp)];refine wpAny_bind ?_;show wpAny _ _ (if(!t.led&& !bx.isEmpty)=true then _ else _) _ _ _;rw[if_neg (by rw[ag];simp)];exact wpAny_pure (wpAny_pure q)
end
section
variable {prog:Program}{w:World}{A:Around}{E:Value→Shared→Prop}{s:Shared}{it a:Addr}{o:Obj}{bx:Array (Int×Value)}{ep i:Nat}{t:SetTable}
theorem ZdT{first:Value}{n:Nat}{Q:Value→Shared→Prop}(dD:s.heap.get? it=some (iW first i a n ep))(q:Q (.ref it) s):wpAny (model prog w) A (pyIter (.ref it)) Q E s:=by
 have c1:s.TypeIs (.ref it) "set_iterator" :=⟨_,dD,rfl⟩;refine wpAny_pyIter_slot c1 yX (wpAny_call_entry yX c1 Fx ?_ (FA _));show wpAny _ _ (ret (.ref it)) _ _ s;exact wpAny_pure ⟨_,rfl,"set_iterator",_,c1,pL.lookup,q⟩
theorem Zh9(bR:A.handled=none)(I:Addr)(eu:a≠I)(hw:w.params.followText "set-order" =true)(hd:o.data= .set bx ep t)(bE:t.fits bx.size=true):
  PySem.Walks prog w A I [I,a] [I] bx.size (λi v=>((pickOrder (w.params.setOrder a ep) bx).toList.map (·.2))[i]? =some v) (λi h=>h.get? I=some (iW (.int (0:Nat) 0) i a bx.size ep)∧h.get? a=some o) where
 sub:=λb ao=>by simp at ao;simp[ao]
 frame:=λ_ _ _ st bp=>⟨bp I (by simp) _ st.1,bp a (by simp) _ st.2⟩
 item:=λi s Q E hi st q=>by
  have hz:(pickOrder (w.params.setOrder a ep) bx).size=bx.size:=by have:=(uo (w.params.setOrder a ep) bx).length_eq;simpa using this
  have dy:i<(pickOrder (w.params.setOrder a ep) bx).size:=by rw[hz];exact hi
  refine Zg1 (nx:=0) (v:=((pickOrder (w.params.setOrder a ep) bx)[i]).2) st.1 st.2 hd bE (λhY b_=>Zev hw st.2 hd bE hY (by rw[Rr dy];exact b_)) λh' e b=>?_;exact q _ h' s.toks (by rw[QX,RJ,Rr dy];rfl) ⟨e,b.extBut a _ eu st.2⟩ λkb ci ao b6=>b.extBut kb ci (λz=>ao (by simp[z])) b6
 done:=λs Q E st q=>by
  have hz:(pickOrder (w.params.setOrder a ep) bx).size=bx.size:=by have:=(uo (w.params.setOrder a ep) bx).length_eq;simpa using this
  refine ZiU bR st.1 st.2 hd bE (λhY b_=>Zev hw st.2 hd bE hY (by rw[Array.getElem?_eq_none (by omega)];exact b_)) λh' e=>q h' s.toks λb ci ao b6=>e b ci (λz=>ao (by simp[z])) b6
 self:=λ_ _ _ _ st q=>ZdT st.1 q
noncomputable def nL (t:SetTable) (i:Nat):Nat:=if i=0 then 0 else t.place.getD (i-1) 0+1
theorem Zbw{led:Bool}(g:Z3 led t){n:Nat}(hz:t.place.size=n)(hi:i≤n):SetTable.below t.place (nL t i)=i:=by
 unfold nL
 split
 ·rename_i e;rw[e];exact Zim g.rise
 ·have ap:i-1<t.place.size:=by omega
  have e:t.place.getD (i-1) 0=t.place[i-1]:=by simp[Array.getD,ap]
  rw[e,Fa g.rise ap];omega
theorem ZgU{led:Bool}(bR:A.handled=none)(I:Addr)(eu:a≠I)(hw:w.params.followText "set-order" =false)(hd:o.data= .set bx ep t)(bE:t.fits bx.size=true)(bz:(!t.plain&&decide (bx.size > 1))=false)(ag:t.led=true)(g:Z3 led t):
  PySem.Walks prog w A I [I,a] [I] bx.size (λi v=>(bx.toList.map (·.2))[i]? =some v) (λi h=>h.get? I=some (iW (.int (nL t i:Nat) 0) i a bx.size ep)∧h.get? a=some o) where
 sub:=λb ao=>by simp at ao;simp[ao]
 frame:=λ_ _ _ st bp=>⟨bp I (by simp) _ st.1,bp a (by simp) _ st.2⟩
 item:=λi s Q E hi st q=>by
  have hz:t.place.size=bx.size:=by simp only[SetTable.fits,Rz,beq_iff_eq] at bE;exact bE.1
  have lu:i<t.place.size:=by omega
  have ao:=Zbw (i:=i) g hz (by omega);refine Zg1 (nx:=nL t (i+1)) (v:=(bx[i]).2) st.1 st.2 hd bE (λhY b_=>ZcL hw st.2 hd bE bz ag hY ?_) λh' e b=>?_
  ·rw[ao,Rr hi,Rr lu];have e:nL t (i+1)=t.place[i]+1:=by
    unfold nL;rw[if_neg (by omega)];simp[Array.getD,lu]
   rw[e] at b_;exact b_
  ·exact q _ h' s.toks (by rw[QX,RJ,Rr hi];rfl) ⟨e,b.extBut a _ eu st.2⟩ λkb ci ao b6=>b.extBut kb ci (λz=>ao (by simp[z])) b6
 done:=λs Q E st q=>by
  have hz:t.place.size=bx.size:=by simp only[SetTable.fits,Rz,beq_iff_eq] at bE;exact bE.1
  have ao:=Zbw (i:=bx.size) g hz (QQ _);refine ZiU bR st.1 st.2 hd bE (λhY b_=>ZcL hw st.2 hd bE bz ag hY ?_) λh' e=>q h' s.toks λb ci ao b6=>e b ci (λz=>ao (by simp[z])) b6;rw[ao,Array.getElem?_eq_none (QQ _)];exact b_
 self:=λ_ _ _ _ st q=>ZdT st.1 q
theorem ZgF(bR:A.handled=none)(I T:Addr)(eu:a≠I)(FG:T≠I)(hd:o.data= .set bx ep t)(bE:t.fits bx.size=true)(ord:List Nat)(bz:ord.Perm (List.range bx.size)):
  PySem.Walks prog w A I [I,a,T] [I] bx.size (λi v=>(ord.map λj=>(bx.getD j (0,.none)).2)[i]? =some v) (λi h=>h.get? I=some (iW (.ref T) i a bx.size ep)∧h.get? a=some o∧h.IsTuple T (ord.map λ(j:Nat)=>Value.int j 0).toArray) where
 sub:=λb ao=>by simp at ao;simp[ao]
 frame:=λ_ _ _ st bp=>⟨bp I (by simp) _ st.1,bp a (by simp) _ st.2.1,let⟨x,e,r⟩:=st.2.2;⟨x,bp T (by simp) _ e,r⟩⟩
 item:=λi s Q E hi st q=>by
  have ag:ord.length=bx.size:=by have:=bz.length_eq;simpa using this
  have lu:i<ord.length:=by omega
  have bw:ord[i]<bx.size:=by have:=bz.mem_iff.mp (QO lu);simpa using this
  have cU:(bx.getD ord[i] (0,Value.none))=bx[ord[i]]:=by simp[Array.getD,bw]
  refine Zl4 (pl:=ord[i]) (k:=(bx[ord[i]]).1) (v:=(bx[ord[i]]).2) st.1 st.2.2 (by simp[lu]) (by rw[Rr bw]) st.2.1 hd bE λh' e b=>?_;exact q _ h' s.toks (by rw[QX,QN lu];exact congrArg (λx=>some x.2) cU) ⟨e,b.extBut a _ eu st.2.1,let⟨x,e,r⟩:=st.2.2;⟨x,b.extBut T _ FG e,r⟩⟩ λkb ci ao b6=>b.extBut kb ci (λz=>ao (by simp[z])) b6
 done:=λs Q E st q=>by
  have ag:ord.length=bx.size:=by have:=bz.length_eq;simpa using this
  exact Zmt bR st.1 st.2.2 (by simp[ag]) st.2.1 hd bE λh' e=>q h' s.toks λb ci ao b6=>e b ci (λz=>ao (by simp[z])) b6
 self:=λ_ _ _ _ st q=>ZdT st.1 q
end
section
variable {prog:Program}{w:World}{A:Around}{E:Value→Shared→Prop}{s:Shared}{a:Addr}{o:Obj}
theorem FH{cf:List Int}{Q:Value→Shared→Prop}(bC:s.heap.get? a=some o)(db:UJ (!w.params.followText "set-order") cf o)
  (q:∀(I:Addr)(L:List Value)(s':Shared)(fp:List Addr)(St:Nat→Heap→Prop)(n:Nat),n=L.length→(∃ns:List Int,IntsAre L ns∧ns.Perm cf)→(∀b o,s.heap.get? b=some o→s'.heap.get? b=some o)→s'.gens=s.gens→s'.os=s.os→s'.toks=s.toks→
   (∀fa:Around,fa.handled=none→PySem.Walks prog w fa I fp [I] n (λi v=>L[i]? =some v) St)→St 0 s'.heap→s.heap.objs.size≤I→(∀b∈fp,b=a∨s.heap.objs.size≤b)→Q (.ref I) s'):wpAny (model prog w) A (pyIter (.ref a)) Q E s:=by
 obtain⟨iw,bx,ep,t,hd,nI,ao,bE,bF,bz⟩:=db;have c1:s.TypeIs (.ref a) "set" :=⟨_,bC,iw.1⟩;have cL:a<s.heap.objs.size:=Heap.lt_size bC;have ur:∀l:List (Int×Value),l.Perm bx.toList→∃ns:List Int,IntsAre (l.map (·.2)) ns∧ns.Perm cf:=λl pl=>by
  refine⟨l.map keyI,?_,(pl.map keyI).trans bz⟩;have ag:∀e∈l,∃n bT,e=(hashInt n,Value.int n bT):=λe bH=>nI e (pl.mem_iff.mp bH);clear pl
  induction l with
  |nil=>exact .nil
  |cons x l bM=>
   obtain⟨n,bT,rfl⟩:=ag x (by simp);exact .cons n bT (bM λe bH=>ag e (by simp[bH]))
 refine wpAny_pyIter_slot c1 F.slot_set_iter (wpAny_call_entry F.slot_set_iter c1 Fy ?_ (F.args_set_iter_1 _));unfold Builtin.«frozenset.__iter__» Builtin.Frozenset.sizeOf;refine wpAny_bind (m:=Builtin.Frozenset.slot0 _ _) (wpAny_pure ?_);refine wpAny_bind (wpAny_bind (wpAny_setEntries_of bC hd bE (wpAny_pure ?_)));unfold setDrawn setsByText;refine wpAny_bind (wpAny_bind (wpAny_setState_of bC hd bE ?_));dsimp only;refine wpAny_bind (wpAny_bind (wpAny_askSetting (wpAny_pure (wpAny_pure ?_))));show wpAny _ _ (if(!w.params.followText "set-order" &&(!t.plain&&decide (bx.size > 1)))=true then _ else _) _ _ _
 by_cases br:(!w.params.followText "set-order" &&(!t.plain&&decide (bx.size > 1)))=true
 ·rw[if_pos br];refine wpAny_bind ?_;have bn:(List.range bx.size).length=bx.size:=R8;have ud:=yZ (prog:=prog) (w:=w) (A:=A.in1) (E:=E) (List.range bx.size) s;rw[bn] at ud;refine ud _ λord d d3=>?_;refine wpAny_bind ?_;simp only[newTuple];have ru:ord.length=bx.size:=by have:=d3.length_eq;simpa using this
  refine wpAny_newObj_type ?_ ?_
  ·refine wpAny_bind (wpAny_setEpoch_of (Heap.get?_push_of_some _ bC) hd bE ?_);refine wpAny_bind (wpAny_newObj_type (wpAny_pure ⟨_,rfl,"set_iterator",_,⟨_,Heap.get?_push_size _ rfl,rfl⟩,pL.lookup,?_⟩));generalize ut:({cls:= .type "tuple",data:= .seq (List.map (λ(i:Nat)=>rawInt i) ord).toArray 0}:Obj)=nK;have rv:(List.map (λj=>bx.getD j (0,Value.none)) ord).Perm bx.toList:=by
    refine(d3.map _).trans ?_;have:(List.range bx.size).map (λj=>bx.getD j (0,Value.none))=bx.toList:=by
     refine GM (by simp) λi ap a'=>?_;have bU:i<bx.size:=by simpa using a'
     simp[Array.getD,bU]
    rw[this]
   have FI:∀fa:Around,fa.handled=none→_:=λfa bR=>ZgF (prog:=prog) (w:=w) (A:=fa) (a:=a) (o:=o) (ep:=ep) bR (s.heap.objs.size+1) s.heap.objs.size (Q0 (RS cL)) (Q0 (qac _)) hd bE ord d3;have pM:bx.size=(ord.map λj=>(bx.getD j (0,.none)).2).length:=by simp[ru]
   rw[show(s.heap.push nK).objs.size=s.heap.objs.size+1 from Heap.size_push ..];refine q _ (ord.map λj=>(bx.getD j (0,.none)).2) _ [s.heap.objs.size+1,a,s.heap.objs.size] _ _ pM (by have:=ur _ rv;rw[Rt] at this;exact this) (λb o e=>Heap.get?_push_of_some _ (Heap.get?_push_of_some _ e)) rfl rfl rfl (λfa bR=>FI fa bR) ⟨?_,Heap.get?_push_of_some _ (Heap.get?_push_of_some _ bC),?_⟩ (qaH _) (λb ao=>?_)
   ·have:=Heap.get?_push_size (o:=iW (.ref s.heap.objs.size) 0 a bx.size ep) (s.heap.push nK) rfl;rw[show(s.heap.push nK).objs.size=s.heap.objs.size+1 from Heap.size_push ..] at this;exact this
   ·exact⟨nK,Heap.get?_push_of_some _ (Heap.get?_push_size _ (by rw[←ut];rfl)),by rw[←ut],0,by rw[←ut];rfl⟩
   ·simp only[QW,Ru,or_false] at ao;rcases ao with rfl|rfl|rfl
    ·exact .inr (qaH _)
    ·exact .inl rfl
    ·exact .inr (QQ _)
  ·show(List.map _ ord).toArray.size≤sizeLine;rw[QV,QM,ru];exact fits_of_scanBound ao
 ·rw[if_neg br];refine wpAny_bind (wpAny_pure ?_);refine wpAny_bind (wpAny_setEpoch_of bC hd bE ?_);refine wpAny_bind (wpAny_newObj_type (wpAny_pure ⟨_,rfl,"set_iterator",_,⟨_,Heap.get?_push_size _ rfl,rfl⟩,pL.lookup,?_⟩));have gG:∀b∈[s.heap.objs.size,a],b=a∨s.heap.objs.size≤b:=λb ao=>by
   simp only[QW,Ru,or_false] at ao;rcases ao with rfl|rfl
   ·exact .inr (QQ _)
   ·exact .inl rfl
  cases hw:w.params.followText "set-order" with
  |true=>
   have rv:=uo (w.params.setOrder a ep) bx;have pM:bx.size=((pickOrder (w.params.setOrder a ep) bx).toList.map (·.2)).length:=by have:=rv.length_eq;simpa using this.symm
   exact q _ _ _ _ _ _ pM (ur _ rv) (λb o e=>Heap.get?_push_of_some _ e) rfl rfl rfl (λfa bR=>Zh9 bR _ (Q0 cL) hw hd bE) ⟨Heap.get?_push_size _ rfl,Heap.get?_push_of_some _ bC⟩ (QQ _) gG
  |false=>
   rw[hw] at br bF;have pM:bx.size=(bx.toList.map (·.2)).length:=by simp
   exact q _ _ _ _ _ _ pM (ur _ .rfl) (λb o e=>Heap.get?_push_of_some _ e) rfl rfl rfl (λfa bR=>ZgU bR _ (Q0 cL) hw hd bE (by simpa using br) bF.led bF) ⟨Heap.get?_push_size _ rfl,Heap.get?_push_of_some _ bC⟩ (QQ _) gG
end
section
variable {prog:Program}{w:World}{A:Around}{E:Value→Shared→Prop}{s:Shared}{a:Addr}{o:Obj}
theorem FJ{Q:Bool→Shared→Prop}(c1:s.TypeIs (.ref a) "set")(q:Q false s):wpAny (model prog w) A (Builtin.List.listLengthHint (.ref a)) Q E s:=by
 unfold Builtin.List.listLengthHint;refine wpAny_bind (wpAny_specialOf c1 F.slot_set_len.lookup ?_);generalize hid:("set.__len__" :String)=id0
 wp_delta
 rw[show splitId id0=some ("set","__len__") from by subst hid;decide+kernel];subst hid;refine wpAny_bind (wpAny_isInstance (T:="set") (b:=true) c1 sub_set_self ?_);refine wpAny_ite_split (λz=>absurd z (by decide)) (λ_=>wpAny_ite_split (λ_=>?_) (λz=>absurd (by decide+kernel) z));exact wpAny_bind (wpAny_typeOf c1 (wpAny_pure q))
theorem FK{cf:List Int}{R:List Value→Shared→Prop}(bR:A.handled=none)(bC:s.heap.get? a=some o)(db:UJ (!w.params.followText "set-order") cf o)(bp:cf.length≤sizeLine)
  (q:∀(s':Shared)(L:List Value)(ns:List Int),IntsAre L ns→ns.Perm cf→(∀b o,s.heap.get? b=some o→s'.heap.get? b=some o)→s'.gens=s.gens→s'.os=s.os→R L s'):wpAny (model prog w) A (collect (.ref a)) R E s:=by
 have cL:a<s.heap.objs.size:=Heap.lt_size bC;generalize dx:({cls:= .type "list",data:= .seq ([]:List Value).toArray}:Obj)=N;have ks:(s.heap.push N).get? a=some o:=Heap.get?_push_of_some _ bC;have pK:(s.heap.push N).get? s.heap.objs.size=some N:=Heap.get?_push_size _ (by rw[←dx];rfl);have FL:Shared.TypeIs {s with heap:=s.heap.push N} (.ref a) "set" :=⟨_,ks,db.1.1⟩;unfold collect;refine wpAny_bind (wpAny_runValue (codeAny_builtin PySem.F.entry_proto_collect ?_));rw[Around.under_plainId PySem.F.plain_proto_collect _];refine wpAny_bind (m:=newList []) (wpAny_newObj_type ?_);refine wpAny_pure ⟨plainId_quiet PySem.F.plain_list_iadd _,codeAny_builtin PySem.F.entry_list_iadd ?_⟩;rw[Around.under_plainId PySem.F.plain_list_iadd _,dx];show wpAny _ A.in1 (Builtin.List.listExtendWith (.ref s.heap.objs.size) (.ref a) (.ref s.heap.objs.size)) _ _ _;unfold Builtin.List.listExtendWith;refine wpAny_bind (wpAny_typeOf FL ?_);have hE:Builtin.List.listSameRef (.ref s.heap.objs.size) (.ref a)=false:=by simp[Builtin.List.listSameRef];exact qaz cL
 have hx:(Value.type "set" ==Value.type "list")=false:=by decide
 have oQ:(Value.type "set" ==Value.type "tuple")=false:=by decide
 simp only[hE,hx,oQ,Bool.or_false,qaA,if_false];refine wpAny_bind (FH ks db λI L bJ fp St n jl o' kp eg FN dE W st nM gG=>?_);obtain⟨ns,hi,bz⟩:=o';have mG:=kp _ _ pK;refine wpAny_bind (wpAny_holding (FJ (a:=a) ⟨_,kp _ _ ks,db.1.1⟩ ?_));have mC:s.heap.objs.size∉fp:=λz=>by
  rcases gG _ z with e|e
  ·exact qaz cL e
  ·rw[Heap.size_push] at e;exact absurd e (Nat.not_succ_le_self _)
 have O6:s.heap.objs.size≠I:=λz=>by rw[←z,Heap.size_push] at nM;exact absurd nM (Nat.not_succ_le_self _)
 have FO:=(W A.in1 bR).toS;have jP:n≤sizeLine:=by
  have ap:L.length=ns.length:=IntsAre.length hi;rw[jl,ap,bz.length_eq];exact bp
 have eR:∀(bU:Heap)(c:Nat),St 0 bU→(∀b o,s.heap.get? b=some o→bU.get? b=some o)→bU.get? s.heap.objs.size=some {cls:= .type "list",data:= .seq #[] c}→codeAny (model prog w) A (.builtin "list.extend.loop" ⟨[.ref s.heap.objs.size,.ref I,.ref s.heap.objs.size],[]⟩) (λr s'=>match r with| .ok (.ret v)=>v= .ref s.heap.objs.size∧∃cW cR,s'.heap.get? s.heap.objs.size=some {cls:= .type "list",data:= .seq cW cR}∧cW.toList=L∧(∀b o,s.heap.get? b=some o→s'.heap.get? b=some o)∧s'.gens=s.gens∧s'.os=s.os|_=>False) {bJ with heap:=bU}:=by
  intro bU c jE FP c6;refine codeAny_extend_loopS FO jP _ mC _ n 0 _ #[] c rfl (Q5 _) jE c6 (ItemsOf.nil _) λb9 cW FQ hZ gV its=>⟨rfl,cW,FQ,gV,?_,λb ci e=>hZ.heap b ci (λz=>?_) (FP b ci e),hZ.gens.trans eg,hZ.os.trans FN⟩
  ·refine List.ext_getElem? λj=>?_
   by_cases bw:j<n
   ·have fC:j<cW.size:=by rw[its.1];exact bw
    rw[RJ,its.2 j _ (Rr fC),Rr fC]
   ·rw[Rn (by rw[Rx,its.1];omega),Rn (by rw[←jl];omega)]
  ·have ao:=Heap.lt_size e;rcases QW.mp z with z|z
   ·exact RU _ (z▸ao)
   ·rw[QS.mp z] at ao;exact absurd (QZ (Nat.le_of_succ_le (by rw[Heap.size_push] at nM;exact nM)) (QQ I)) (Nat.not_le_of_gt ao)
 refine wpAny_ite_split (λ_=>?_) (λ_=>wpAny_pure ⟨plainId_quiet qaL _,codeAny_mono (eR _ 0 st (λb o e=>kp b o (Heap.get?_push_of_some _ e)) (by rw[mG,←dx])) λr s' z=>?dQ⟩)
 case dQ=>
  rcases r with e|f
  ·exact z.elim
  cases f with
  |ret v=>
   obtain⟨rfl,cW,cR,gV,h1,pN,hC,rr⟩:=z;refine wpAny_bind (wpAny_load gV (wpAny_pure ?_));rw[h1];exact q s' L ns hi bz pN hC rr
  |_=>exact z.elim
 refine wpAny_bind (wpAny_rule (wpAny_bind ?_));show wpAny _ _ (updateSeq s.heap.objs.size (·.push .none) >>= λ_=>updateSeq s.heap.objs.size (·.pop)) _ _ _;rw[←dx] at mG;refine wpAny_bind (wpAny_updateSeq mG rfl ?_);have jJ:=Heap.get?_update_self (Obj.mapSeq (·.push Value.none)) mG rfl;refine wpAny_updateSeq (hz:=by seq_fits) jJ rfl ?_;have y2:=Heap.get?_update_self (Obj.mapSeq (·.pop)) jJ rfl;have nF:∀b o,b≠s.heap.objs.size→bJ.heap.get? b=some o→((bJ.heap.update s.heap.objs.size (Obj.mapSeq (·.push Value.none))).update s.heap.objs.size (Obj.mapSeq (·.pop))).get? b=some o:=λb o ao e=>
  (Heap.get?_update_other _ _ (qao ao)).trans ((Heap.get?_update_other _ _ (qao ao)).trans e)
 refine wpAny_pure ⟨plainId_quiet qaL _,codeAny_mono (eR _ _ ((W A bR).frame 0 _ _ st λb ao o e=>nF b o (λz=>mC (z▸ao)) e) (λb o e=>nF b o (Q0 (Heap.lt_size e)) (kp b o (Heap.get?_push_of_some _ e))) y2) λr s' z=>?_⟩;rcases r with e|f
 ·exact z.elim
 cases f with
 |ret v=>
  obtain⟨rfl,cW,cR,gV,h1,pN,hC,rr⟩:=z;refine wpAny_bind (wpAny_load gV (wpAny_pure ?_));rw[h1];exact q s' L ns hi bz pN hC rr
 |_=>exact z.elim
end
section
theorem Ziu{l:List Int}{v:Int}(h:l.Nodup):(step_dedup l v).Nodup:=by
 unfold step_dedup
 split
 ·exact h
 ·rename_i z;refine qag.mpr ⟨h,by simp,λa bB b ao e=>?_⟩;rw[QS.mp ao] at e;exact z (by rw[qau];exact⟨a,bB,by simp[e]⟩)
theorem y3(val:Nat→Int):∀i,(firstMet val i).Nodup
 |0=>by rw[firstMet_zero];exact .nil
 |i+1=>by rw[firstMet_succ];exact Ziu (y3 val i)
theorem Zl3(ns:List Int){x:Int}:x∈firstMet (λi=>ns.getD i 0) ns.length↔x∈ns:=by
 have h:=firstMet_any (λi=>ns.getD i 0) ns.length x;have e:(List.range ns.length).map (λi=>ns.getD i 0)=ns:=by
  refine GM (by simp) λi ap a'=>?_;simp[List.getD,a']
 rw[e] at h;have a1:∀l:List Int,(l.any (· ==x))=true↔x∈l:=λl=>by simp
 rw[←a1,h,a1]
theorem FR{l:List Int}(h:l.Pairwise (· ≤·))(n:l.Nodup):l.Pairwise (· < ·):=by
 refine(List.pairwise_and_iff.mpr ⟨h,n⟩:l.Pairwise λa b=>a≤b∧a≠b).imp λz=>?_;omega
variable {X:Cx}{K:Frag}
def Few(ns:List Int):Prop:=ns.length<64∨(ns.length≤1000∧∀l:List Int,l.Nodup→(∀x∈l,x∈ns)→l.length<64)
noncomputable def ZcD (K:Frag):V→Hp→VK→Prop:=λx H Q=>∃(l:Addr)(ns:List Int),x= .ref l∧SqL K H l (ns.map V.int)∧Few ns∧∀(p:Addr)(ms:List Int),H p=none→ms.Pairwise (· < ·)→(∀x,x∈ms↔x∈ns)→Q (.ref p) (upd H p (.lst (ms.map V.int)))
noncomputable def y4 (K:Frag) (b0:TA):TE:=λaf H Q=>b0 af H λvs ax=>∃x,vs=[x]∧ZcD K x ax Q
theorem FS{a:Expr}{b0:TA}{p eZ pos mA:Pos}(eb:X.K=K)(br:X.calm=true)(gY:Gl X "sorted")(iV:X.mg "sorted" =none)(bF:Gl X "set")(bv:X.mg "set" =none)(bB:PA X [a] b0)
  (hs:starEach [a] X.env=[(false,eval a X.env)]:=by rfl)
  (bH:starEach [Expr.Call (.Name "set" p) [a] [] pos] X.env=(false,eval (.Call (.Name "set" p) [a] [] pos) X.env)::starEach [] X.env:=by rfl):
  PE X (.Call (.Name "sorted" eZ) [.Call (.Name "set" p) [a] [] pos] [] mA) (y4 K b0):=by
 subst eb;intro ah s af H Q I h;refine Call_ (hn I gY iV qaQ ?_);refine qad ?_ bH;rw[bH];show wpAny _ _ (spliced ((false,eval (.Call (.Name "set" p) [a] [] pos) X.env):: [])) _ _ s;refine Calls.spliced_cons (Call_ (hn I bF bv boot_set (Rg (thn (bB pos ah s af H _ I h) λus bq ⟨vs,ax,bK,cj,b_⟩=>?_) hs rfl)));obtain⟨x,e,l,ns,rfl,cq,ao,q⟩:=b_;subst e;obtain⟨u,rfl,bX⟩:=Wd cj;cases bX;obtain⟨its,cZ,pl,hz⟩:=bK.list cq;have hi:=Uo cZ;have hsz:its.toArray.size=ns.length:=by have:=cZ.length;simpa using this.symm
 have fl:its.toArray.size+1<scanBound:=by rw[hsz];unfold scanBound;rcases ao with z|⟨z,_⟩<;>omega
 refine Zkj (bK.ok.hd br) pl.isList hi fl λh' bT o bC db bp=>?_;rw[hsz] at db;refine Calls.spliced_nil ?_;have k1:∀b o,bq.heap.get? b=some o→h'.get? b=some o:=λb o e=>bp b o (Heap.lt_size e) e;have cB:Inv X ah af ax {bq with heap:=h',toks:=bT}:=bK.kept k1;generalize md:firstMet (λi=>ns.getD i 0) ns.length=M at db;have y5:M.Nodup:=by rw[←md];exact y3 _ _
 have y6:∀x,x∈M↔x∈ns:=λx=>by rw[←md];exact Zl3 ns
 have FT:M.length<64:=by
  rcases ao with z|⟨_,z⟩
  ·have:M.length≤ns.length:=by rw[←md];exact ZiL _ _
   omega
  ·exact z M y5 λx a_=>(y6 x).mp a_
 refine Calls.call_function_entry kind_sorted plain_sorted entry_sorted (args_sorted1 _) ?_;unfold Builtin.«sorted»;refine wpAny_bind (m:=checkCount "sorted" 1 1 _) (wpAny_pure ?_);refine wpAny_bind (FK (A:=X.A.in1) (I.ok.hd br) bC db (RW (dj (n:=M.length) (by omega))) λbO L ms pO eE k3 g3 gu=>?_);obtain⟨bU,rx,FU,y7,O7⟩:=bO;dsimp only at k3 g3 gu⊢;subst g3 gu;have y8:∀b o,bq.heap.get? b=some o→bU.get? b=some o:=λb o e=>k3 b o (k1 b o e);have dk:Inv X ah af ax {bq with heap:=bU,gens:=bq.gens,drawn:=FU,toks:=y7}:=bK.call (ch:=[]) (Un.kept y8) (bK.hok.kept y8) bK.bare (λ_ z=>nomatch z);have ag:L.length=ms.length:=IntsAre.length pO;have fL:ms.length<64:=by rw[eE.length_eq];exact FT
 refine wpAny_bind (wpAny_newList ?_ (RW (dj (n:=L.length) (by omega))));have j4:(bU.push (seqObj "list" L.toArray 0)).get? bU.objs.size=some (seqObj "list" L.toArray 0):=Heap.get?_push_size _ rfl;refine wpAny_bind (wpAny_holding (wpAny_call_entry slot_list_sort ⟨_,j4,rfl⟩ entry_list_sort (list_sort_tree j4 pO (by omega) λout nN a1 a2 a3=>⟨_,rfl,?_⟩) (args_list_sort _)));refine wpAny_pure ⟨_,rfl,?_⟩;obtain⟨e,FV⟩:=sortedHeap_at (out:=out) j4;have hv:=q2 a1;have d3:nN.Perm M:=a2.trans eE;refine⟨.ref bU.objs.size,_,dk.laid (a:=bU.objs.size) (o:= .lst (nN.map V.int)) (t':=y7) (λb o fl=>?_) (QQ _) ⟨by rw[QM,a2.length_eq];exact RW (dj (n:=ms.length) (by omega)),out.toList,e,hv,by simpa using FV⟩,rfl,q _ nN (dk.hok.fresh (QQ _)) (FR a3 (d3.nodup_iff.mpr y5)) λx=>d3.mem_iff.trans (y6 x)⟩;have cL:=Heap.lt_size fl;rw[sortedHeap_old (Q0 cL) (by rw[size_push'];exact RS cL)];exact Heap.get?_push_of_some _ fl
end
namespace Rd
section
variable {K:Frag}{af:St}{H:Hp}{Q:VK}
theorem ZoB{b0:TA}(h:b0 af H λvs ax=>∃x,vs=[x]∧ZcD K x ax Q):y4 K b0 af H Q:=h
theorem Zn0{l:Addr}{ns:List Int}(h:SqL K H l (ns.map V.int))(ag:ns.length<64)(q:∀(p:Addr)(ms:List Int),H p=none→ms.Pairwise (· < ·)→(∀x,x∈ms↔x∈ns)→Q (.ref p) (upd H p (.lst (ms.map V.int)))):∃x,[V.ref l]=[x]∧ZcD K x H Q:=⟨_,rfl,l,ns,rfl,h,.inl ag,q⟩
end
end Rd
section
variable {X:Cx}{K:Frag}
noncomputable def rMinD:List V→Hp→VK→Prop:=λxs H Q=>∃(a:Addr)(kvs:List (Key×V))(cf:List Int),xs=[V.ref a]∧Rd H a (.dK kvs)∧kvs.map (·.1)=cf.map Sum.inl∧0<kvs.length∧∀M,M∈cf→(∀b∈cf,M≤b)→Q (.int M) H
theorem Zjg(br:X.calm=true):YJ X (.builtin "min") rMinD:=by
 intro ah s af H xs us Q I r h;obtain⟨a,kvs,cf,rfl,bB,nO,cw,q⟩:=h;obtain⟨u,rfl,dX⟩:=Wd r;cases dX;obtain⟨z,hd,vs,rel,dd⟩:=WL I.hok bB;obtain⟨ep,dU⟩:=dd.dictAt;have fq:kvs.length=cf.length:=by have:=congrArg List.length nO;simpa using this
 have pP:vs.length=cf.length:=by rw[←rel.length,fq]
 have cL:a<s.heap.objs.size:=dU.lt_size;have eR:∀(j:Nat)(v:Value),(∃k x,vs[j]? =some (k,x)∧(dZ X.prog X.w).is k v=true)→∃t,v= .int (cf.getD j 0) t:=by
  rintro j v ⟨k,x,a_,b8⟩;obtain⟨jA,hv⟩:=rel.at a_;have bw:(kvs.map (·.1))[j]? =some k:=by rw[QX,hv];rfl
  rw[nO,QX] at bw;cases e:cf[j]? with
  |none=>rw[e] at bw;cases bw
  |some n=>
   rw[e] at bw;cases bw;have jl:cf.getD j 0=n:=by simp[List.getD,e]
   rw[jl];exact Value.isInt_shape b8
 refine call_min_walk (wpAny_pyIter_dict hd dU ?_);refine⟨s.heap.objs.size,[s.heap.objs.size,a],[s.heap.objs.size],_,_,_,_,rfl,PySem.Walks.dictKeys (A:=X.A.in1) (knd:=dZ X.prog X.w) (I.ok.hd br) _ a (Q0 cL) vs ep,⟨⟨_,Heap.get?_push_size _ rfl,rfl,rfl⟩,dU.push _⟩,λb ao=>?_,by omega,CmpOf.ints_lt (λi=>cf.getD i 0) eR,λv h' bT dR bp=>?_⟩
 ·show b<(s.heap.push _).objs.size;rw[Heap.size_push];rcases QW.mp ao with rfl|ao
  ·exact qac _
  ·rw[QS.mp ao];exact RS cL
 ·obtain⟨t,rfl⟩:=eR _ _ dR;obtain⟨ap,a'⟩:=argBest_lt (λi=>cf.getD i 0) (vs.length-1);refine⟨.int _,H,I.kept (x_ bp),⟨t,rfl⟩,q _ ?_ λb ao=>?_⟩
  ·have fL:argBest (λi j=>decide (cf.getD i 0<cf.getD j 0)) (vs.length-1)<cf.length:=by omega
   rw[RL,QN fL];exact QO fL
  ·obtain⟨j,bw,rfl⟩:=Q4 ao;have:=a' j (by omega);have e:cf.getD j 0=cf[j]:=by simp[List.getD,bw]
   rw[←e];exact this
theorem y9(br:X.calm=true):YJ X (.builtin "min") rMinD:=Zjg br
end
namespace Rd
section
variable {H:Hp}{Q:VK}
theorem Zmz{a:Addr}{kvs:List (Key×V)}{cf:List Int}(h:L2.Rd H a (.dK kvs))(e:kvs.map (·.1)=cf.map Sum.inl)(cw:0<kvs.length)(q:∀M,M∈cf→(∀b∈cf,M≤b)→Q (.int M) H):rMinD [.ref a] H Q:=⟨a,kvs,cf,rfl,h,e,cw,q⟩
end
end Rd
section
variable {X:Cx}
noncomputable def rIndexI:V→List V→Hp→VK→Prop:=λx vs H Q=>∃(l:Addr)(ns:List Int)(n:Int)(j:Nat),x= .ref l∧vs=[.int n]∧H l=some (.lst (ns.map V.int))∧ns[j]? =some n∧(∀m<j,ns[m]? ≠some n)∧Q (.int j) H
theorem uu:MtM X "list.index" rIndexI:=by
 intro ah s af H x vs v us Q I bX cZ h;obtain⟨l,ns,n,j,rfl,rfl,gS,bw,ik,q⟩:=h;cases bX;obtain⟨u,rfl,dI,rfl⟩:=Wd cZ;obtain⟨z,its,c,r,ag,e⟩:=I.lstM gS;have hX:=(QP.mp bw).1;have d1:=r.length;rw[QM] at d1;have at_:∀(m:Nat)(bv:m<its.toArray.size),∃t,its.toArray[m]=Value.int (ns[m]'(by simp at bv;omega)) t:=λm bv=>by
  have f9:m<ns.length:=by simp at bv;omega
  obtain⟨u,hu,t,b3⟩:=r.get (show(ns.map V.int)[m]? =some (V.int ns[m]) by simp[f9]);refine⟨t,?_⟩;have:=(QP.mp hu).2;simp only[List.getElem_toArray,this,b3]
 have bG:=j9;refine call_meets F.slot_list_index ⟨_,e,rfl⟩ F.entry_list_index (F.args_list_index_2 _ _) (PySem.SeqAt.list_indexAt l its.toArray c _ _ (.int n dI) (λy=>match y with| .int i _=>i==n|_=>false) j (by simp;omega) (by rw[QM] at z;omega) ?_ ?_) ⟨e,λy bP=>?_,?_⟩
 ·obtain⟨t,b3⟩:=at_ j (by simp;omega);rw[b3];have:=(QP.mp bw).2;simp[this]
 ·intro m bv pE;obtain⟨t,b3⟩:=at_ m bv;rw[b3];have f9:m<ns.length:=by simp at bv;omega
  have:=ik m pE;rw[QN f9] at this;simpa using this
 ·obtain⟨m,bv,mH⟩:=Q4 (List.mem_toArray.mp bP);obtain⟨t,b3⟩:=at_ m (by simpa using bv);have:y=Value.int (ns[m]'(by omega)) t:=by rw[←mH,←b3];simp
  rw[this];exact PySem.SeqAt.EqAt.int_int _ _ _ _
 ·exact⟨.int j,H,I.tok _,⟨_,rfl⟩,q⟩
noncomputable def FW (dY:TE):TE:=λaf H Q=>dY af H λx ax=>∃a kvs,x= .ref a∧Rd ax a (.dK kvs)∧∀l,ax l=none→Q (.ref l) (upd ax l (.lst (kvs.map (·.2))))
theorem FX{d:Expr}{dY:TE}{p pos di dm:Pos}(br:X.calm=true)(gY:Gl X "list")(iV:X.mg "list" =none)(hd:PE X d dY)(ja:attributeBase d "values" X.env (eval d X.env)=eval d X.env:=by rfl)(jb:(di.endLine==dm.line)=true:=by rfl)
  (bH:starEach [Expr.Call (.Attribute d "values" di) [] [] dm] X.env=(false,eval (.Call (.Attribute d "values" di) [] [] dm) X.env)::starEach [] X.env:=by rfl):
  PE X (.Call (.Name "list" p) [.Call (.Attribute d "values" di) [] [] dm] [] pos) (FW dY):=by
 intro ah s af H Q I h;refine wpAny_Call_Name_kw (hn I gY iV boot_list ?_);refine Rg ?_ bH rfl;rw[bH];show wpAny _ _ (spliced ((false,eval (.Call (.Attribute d "values" di) [] [] dm) X.env):: [])) _ _ s;refine Calls.spliced_cons (wpAny_Call_method0_late ja jb (thn (hd ah s af H _ I h) λv bq ⟨x,ax,bK,cj,b_⟩=>?_));obtain⟨a,kvs,rfl,bn,q⟩:=b_;cases cj;obtain⟨z,iv,vs,rel,dd⟩:=WL bK.hok bn;obtain⟨ep,dU⟩:=dd.dictAt;refine⟨"dict","dict.values",R5,RV,qaO,dd.typeIs,dd.mapOf.noDict,Calls.callWith_builtin rfl (qaM ?_)⟩;refine call_meetsIn RV dd.typeIs qaK (qaI _) (meets_dict_values (dZ X.prog X.w) a iv) ⟨⟨vs,dd⟩,?_⟩;refine Calls.spliced_nil ?_;refine kdl_call (PySem.W.kdl_values (knd:=dZ X.prog X.w) (d:=a) (kvs:=vs) (ep:=ep)) (bK.ok.hd br) ⟨⟨_,Heap.get?_push_size _ rfl,rfl,rfl⟩,dU.push _⟩ (by rw[←rel.length];exact z) λh' bT cW c bp nn gX=>?_;have cB:Inv X ah af ax {bq with heap:=bq.heap.push {cls:= .type "dict_values",data:= .fields #[.ref a]}}:=bK.kept (t':=bq.toks) λb o e=>Heap.get?_push_of_some _ e;refine⟨.ref (bq.heap.push {cls:= .type "dict_values",data:= .fields #[.ref a]}).objs.size,_,cB.laid (a:=(bq.heap.push {cls:= .type "dict_values",data:= .fields #[.ref a]}).objs.size) (o:= .lst (kvs.map (·.2))) (t':=bT) bp (QQ _) ⟨by rw[QM];exact z,cW.toList,c,?_,by simpa using nn⟩,rfl,q _ (cB.hok.fresh (QQ _))⟩;refine pB (by rw[Rx,gX.1,QM,rel.length]) λj v u bD bI=>?_;obtain⟨k,a_⟩:=gX.2 j u (by rw[←RJ];exact bI);rw[QX] at bD;cases eD:kvs[j]? with
 |none=>rw[eD] at bD;cases bD
 |some kv=>
  rw[eD] at bD;cases bD;obtain⟨jB,fA,dX⟩:=rel.fwd eD;rw[a_] at fA;cases fA;exact dX
theorem y_(ns:List Int):∀j≤ns.length,preSum (λi=>ns.getD i 0) j=(ns.take j).sum
 |0,_=>by simp[preSum]
 |j+1,h=>by
  have bw:j<ns.length:=h;rw[preSum,y_ ns j (by omega),QR bw,List.sum_append];simp[List.getD,bw]
noncomputable def FY (dY:TE):TE:=λaf H Q=>dY af H λx ax=>∃(a:Addr)(kvs:List (Key×V))(ns:List Int),x= .ref a∧Rd ax a (.dK kvs)∧kvs.map (·.2)=ns.map V.int∧Q (.int ns.sum) ax
theorem FZ{d:Expr}{dY:TE}{p pos di dm:Pos}(br:X.calm=true)(gY:Gl X "sum")(iV:X.mg "sum" =none)(hd:PE X d dY)(ja:attributeBase d "values" X.env (eval d X.env)=eval d X.env:=by rfl)(jb:(di.endLine==dm.line)=true:=by rfl)
  (bH:starEach [Expr.Call (.Attribute d "values" di) [] [] dm] X.env=(false,eval (.Call (.Attribute d "values" di) [] [] dm) X.env)::starEach [] X.env:=by rfl):
  PE X (.Call (.Name "sum" p) [.Call (.Attribute d "values" di) [] [] dm] [] pos) (FY dY):=by
 intro ah s af H Q I h;refine wpAny_Call_Name_kw (hn I gY iV boot_sum ?_);refine qad ?_ bH rfl;rw[bH];show wpAny _ _ (spliced ((false,eval (.Call (.Attribute d "values" di) [] [] dm) X.env):: [])) _ _ s;refine Calls.spliced_cons (wpAny_Call_method0_late ja jb (thn (hd ah s af H _ I h) λv bq ⟨x,ax,bK,cj,b_⟩=>?_));obtain⟨a,kvs,ns,rfl,bn,ke,q⟩:=b_;cases cj;obtain⟨z,iv,vs,rel,dd⟩:=WL bK.hok bn;obtain⟨ep,dU⟩:=dd.dictAt;refine⟨"dict","dict.values",R5,RV,qaO,dd.typeIs,dd.mapOf.noDict,Calls.callWith_builtin rfl (qaM ?_)⟩;refine call_meetsIn RV dd.typeIs qaK (qaI _) (meets_dict_values (dZ X.prog X.w) a iv) ⟨⟨vs,dd⟩,?_⟩;refine Calls.spliced_nil ?_;have cB:Inv X ah af ax {bq with heap:=bq.heap.push {cls:= .type "dict_values",data:= .fields #[.ref a]}}:=bK.kept (t':=bq.toks) λb o e=>Heap.get?_push_of_some _ e;have cL:a<(bq.heap.push {cls:= .type "dict_values",data:= .fields #[.ref a]}).objs.size:=(dU.push _).lt_size;refine call_sum_walkG (wpAny_pyIter_values (knd:=dZ X.prog X.w) (d:=a) (kvs:=vs) (ep:=ep) ⟨_,Heap.get?_push_size _ rfl,rfl,rfl⟩ (dU.push _) ?_);have ag:=rel.length;have jP:ns.length=vs.length:=by have:=congrArg List.length ke;simp at this;omega
 refine⟨_,_,_,vs.length,_,_,λi=>ns.getD i 0,rfl,PySem.Walks.dictValues (A:=X.A.in1) (bK.ok.hd br) _ a (Q0 cL) vs ep,⟨⟨_,Heap.get?_push_size _ rfl,rfl,rfl⟩,(dU.push _).push _⟩,λb ao=>?_,λi v ⟨k,bp⟩=>?_,λh' bT t' bp=>?_⟩
 ·rw[Heap.size_push];rcases QW.mp ao with e|ao
  ·rw[e];exact qac _
  ·rw[QS.mp ao];exact RS cL
 ·obtain⟨jA,hv⟩:=rel.at bp;have hi:i<ns.length:=by have:=(QP.mp bp).1;omega
  have bD:(kvs.map (·.2))[i]? =some jA:=by rw[QX,hv];rfl
  rw[ke,QX,QN hi] at bD;obtain⟨jB,fA,dX⟩:=rel.fwd hv;rw[bp] at fA;cases fA;have bI:V.int ns[i]=jA:=Q2 bD;have F0:cA (V.int ns[i]) v:=by rw[bI];exact dX
  obtain⟨t,rfl⟩:=F0;exact⟨t,by simp[List.getD,hi]⟩
 ·have bx:preSum (λi=>ns.getD i 0) vs.length=ns.sum:=by
   rw[←jP,y_ ns ns.length (QQ _),GE]
  rw[bx];refine⟨.int ns.sum,ax,cB.kept (t':=bT) (λb o e=>bp b o (λbv=>?_) (Heap.get?_push_of_some _ e)),⟨_,rfl⟩,q⟩;rw[QS.mp bv] at e;exact RU _ (Heap.lt_size e)
end
noncomputable def Itk (d:Addr) (o:Obj) (kvs:List (Key×V)):It:=
 ⟨λi H=>H d=some (.frz o (.dK kvs))∧i<kvs.length,λi H x ae=>ae=H∧∃kv,kvs[i]? =some kv∧x=kV kv.1,λi H=>H d=some (.frz o (.dK kvs))∧kvs.length≤i⟩
section
variable {P:Program}{w:World}{K:Frag}
theorem F1{cN:Expr}(d it:Addr)(o:Obj)(kvs:List (Key×V))(vs:List (Key×Value))(ep:Nat)(rel:KV kvs vs)(hd:∀h:Heap,h.get? d=some o→h.DictAt (dZ P w) d vs ep):UF P w K cN (Itk d o kvs) [it] it (λi h=>h.IsKeyIter it d i vs.length ep) where
 mem:=by simp
 obj:=λi h st b ao=>by
  have e:b=it:=by simpa using ao
  subst e;obtain⟨o,e,c,dd⟩:=st;exact⟨o,e,λv z=>by rw[dd] at z;cases z⟩
 keep:=λi h h' st k=>st.at λo q=>k it (by simp) o q
 item:=by
  intro X dR hw eb br i ah s af H E I bE st bF;subst dR hw eb;obtain⟨bH,hi⟩:=bF;have bC:=(show ZW X.prog X.w H s.heap d (.frz o (.dK kvs)) from I.hok d _ bH).1;obtain⟨dz,f1,f2,c7,d7,dS⟩:=bE it (by simp);obtain⟨u,hu,dX⟩:=rel.fwd (QN hi);refine wpAny_pyNext_dict_item st (hd _ bC) hu λeR h' oW hR hr=>?_;have bK:Inv X ah af H {s with heap:=h',toks:=s.toks}:=I.turned (t':=s.toks) (λb q ao e=>(hr.2 b ao).trans e) dz f1 c7 d7 dS;obtain⟨q,e,c,dd⟩:=id hR;exact⟨_,rfl,oR (s:={s with heap:=h',toks:=s.toks}) e c dd (by decide) ⟨_,H,bK,t7 oW,⟨rfl,kvs[i],QN hi,rfl⟩,hR,λb ao=>(bE b ao).1⟩⟩
 done:=by
  intro X dR hw eb br i ah s af H E I bE st bF;subst dR hw eb;obtain⟨bH,hi⟩:=bF;have bC:=(show ZW X.prog X.w H s.heap d (.frz o (.dK kvs)) from I.hok d _ bH).1;obtain⟨dz,f1,f2,c7,d7,dS⟩:=bE it (by simp);exact wpAny_pyNext_dict_end (I.ok.hd br) st (hd _ bC) (Rn (by rw[←rel.length];exact hi)) λh' cP=>⟨rfl,I.turned (t':=s.toks) (λb q ao e=>cP b q ao e) dz f1 c7 d7 dS⟩
 self:=λ_ _ _ _ _ st h=>wpAny_pyIter_keyiter st h
end
section
variable {X:Cx}{cN:Expr}
noncomputable def F2 (dY:TE):TI:=λaf H R=>dY af H λx ax=>∃a kvs,x= .ref a∧Rd ax a (.dK kvs)∧∀o,R (Itk a o kvs) (upd ax a (.frz o (.dK kvs)))
theorem F3{d:Expr}{dY:TE}(hd:PE X d dY):PI X cN d (F2 dY):=by
 intro ah s af H R I h;refine thn (hd ah s af H _ I h) λv bq ⟨x,ax,bK,cj,b_⟩=>?_;obtain⟨a,kvs,rfl,bn,q⟩:=b_;cases cj;obtain⟨z,iv,vs,rel,dd⟩:=WL bK.hok bn;obtain⟨ep,dU⟩:=dd.dictAt;obtain⟨o,bC,cB⟩:=bK.freeze bn;have mB:∀h:Heap,h.get? a=some o→h.DictAt (dZ X.prog X.w) a vs ep:=λh e=>dU.at' λci b6=>by rw[bC] at b6;cases b6;exact e
 refine wpAny_pyIter_dict (knd:=dZ X.prog X.w) iv dU ?_;refine⟨bq.heap.objs.size,[bq.heap.objs.size],_,_,_,rfl,cB.kept (t':=bq.toks) λb o e=>Heap.get?_push_of_some _ e,F1 a _ o kvs vs ep rel mB,⟨_,Heap.get?_push_size _ rfl,rfl,rfl⟩,λb ao=>?_,q o⟩;rw[QS.mp ao];exact cB.fpOk (QQ _) (cB.hok.fresh (QQ _))
theorem F4{d:Addr}{o:Obj}{kvs:List (Key×V)}{H:Hp}(h:H d=some (.frz o (.dK kvs))):V0 (Itk d o kvs) kvs.length (λi ae v bo=>bo=ae∧∃kv,kvs[i]? =some kv∧v=kV kv.1) H:=
 ⟨λae i e hi=>⟨e _ _ h,hi⟩,λae i x bo e hi y=>y,λae e=>⟨e _ _ h,QQ _⟩⟩
theorem y'{o e f:Expr}{di dm:Pos}{dY ty mf:TE}(hu:HU X.A)(bC:PE X o dY)(bH:PE X e ty)(bE:PE X f mf)(m:M2 X o "get" di e f dm):PE X (.Call (.Attribute o "get" di) [e,f] [] dm) (xO dY ty mf):=
 ZkT (by have:X.A.units+64<cLine:=hu;omega) bC bH bE m
end
section
variable {X:Cx}
noncomputable def za (K:Frag):List V→Hp→VK→Prop:=λxs H Q=>∃(a:Addr)(cf:List Int),xs=[V.ref a]∧SqL K H a (cf.map V.int)∧cf.length<64∧∀(l:Addr)(ns:List Int),H l=none→ns.Perm cf→ns.Pairwise (· ≤·)→Q (.ref l) (upd H l (.lst (ns.map V.int)))
theorem zb{K:Frag}(eb:X.K=K):YJ X (.builtin "sorted") (za K):=by
 subst eb;intro ah s af H xs us Q I r h;obtain⟨a,cf,rfl,bB,F5,q⟩:=h;obtain⟨u,rfl,dX⟩:=Wd r;cases dX;obtain⟨its,cZ,pl,hz⟩:=I.list bB;have o':=Uo cZ;have ag:its.length=cf.length:=by have:=cZ.length;simpa using this.symm
 obtain⟨o,bC,ey,n,F6⟩:=pl.isList;have uv:cf.length≤sizeLine:=RW (dj (n:=cf.length) (by omega));refine Calls.call_function_entry kind_sorted plain_sorted entry_sorted (args_sorted1 _) ?_;unfold Builtin.«sorted»;refine wpAny_bind (m:=checkCount "sorted" 1 1 _) (wpAny_pure ?_);refine wpAny_bind (wpAny_collect_seq a (.inl rfl) bC ey F6 (λh' bp=>?_) (by rw[QV,ag];exact uv));rw[List.toList_toArray];refine wpAny_bind (wpAny_newList ?_ (by rw[ag];exact uv));have j4:(h'.push (seqObj "list" its.toArray 0)).get? h'.objs.size=some (seqObj "list" its.toArray 0):=Heap.get?_push_size _ rfl;have bK:Inv X ah af H {s with heap:=h'}:=I.kept bp;refine wpAny_bind (wpAny_holding (wpAny_call_entry slot_list_sort ⟨_,j4,rfl⟩ entry_list_sort (list_sort_tree j4 o' (by rw[ag];exact F5) λout nN a1 a2 a3=>⟨_,rfl,?_⟩) (args_list_sort _)));refine wpAny_pure ⟨_,rfl,?_⟩;obtain⟨e,bH⟩:=sortedHeap_at (out:=out) j4;have hv:=q2 a1;refine⟨.ref h'.objs.size,_,bK.laid (a:=h'.objs.size) (o:= .lst (nN.map V.int)) (t':=s.toks) (λb o fl=>?_) (QQ _) ⟨by rw[QM,a2.length_eq];exact uv,out.toList,e,hv,by simpa using bH⟩,rfl,q _ nN (bK.hok.fresh (QQ _)) a2 a3⟩;have cL:=Heap.lt_size fl;rw[sortedHeap_old (Q0 cL) (by rw[size_push'];exact RS cL)];exact Heap.get?_push_of_some _ fl
end
namespace Rd
section
variable {K:Frag}{H:Hp}{Q:VK}
theorem Zla{a:Addr}{cf:List Int}(h:SqL K H a (cf.map V.int))(ag:cf.length<64)(q:∀(l:Addr)(ns:List Int),H l=none→ns.Perm cf→ns.Pairwise (· ≤·)→Q (.ref l) (upd H l (.lst (ns.map V.int)))):za K [V.ref a] H Q:=⟨a,cf,rfl,h,ag,q⟩
end
end Rd
section
variable {prog:Program}{w:World}{A:Around}{E:Value→Shared→Prop}{s:Shared}
end
section
variable {X:Cx}{cm:Addr}
end
section
variable {P:Program}{w:World}{K:Frag}{mg:Str→Option Value}{base:Heap}{N b1:List Str}{qual:Str}{scope:Scope}{f:Addr}{c0:Value}{A:Around}{outer:List Env}{s bq:Shared}{H:Hp}{E:XK}{us:List Value}{vs:List V}
end
section
variable {X:Cx}{CX:CXT}{j k:Nat}{b1:List Str}{sp:Addr→Sp}{E:XK}{x q:Str}{st:Stmt}{p pos:Pos}{e:Expr}{bx:List Expr}{t:TA}{cm:Addr}
end
section
variable {X:Cx}{CX:CXT}{j k:Nat}{C:Addr}{b1:List Str}{sp:Sp}{E:XK}{x q:Str}{st:Stmt}{p pos:Pos}{e:Expr}{bx:List Expr}{t:TA}{J:St→Prop}
theorem F7(D:Di X.K C q st b1)(F:YN X.prog X.w X.K X.mg X.base CX j D.f D.d b1 sp)(bn:ef (k+1) X.A)(bv:X.mg x=some (.ref C))(a_:Zd0 CX X J E)(bB:PA X (e::bx) t)(bw:Nat.ble j k=true:=by rfl)(bF:Gl X x:=by rfl)
  (eX:(x==("__debug__" :Str))=false:=by decide) (bH:starEach (e::bx) X.env=(false,eval e X.env)::starEach bx X.env:=by rfl) (fx:(backTo pos (starEach bx X.env)).any (·.1)=false:=by rfl):
  PE X (.Call (.Name x p) (e::bx) [] pos) (Zgb J C sp [] E t):=by
 intro ah s af H Q I h;obtain⟨mi,h⟩:=h;have zc:=F.mono (RI bw);refine wpAny_Call_Name_kw (lZ I bF bv ?_ eX);refine callWith_K (h₀:=X.base) I.ok.mod.kin D.M.kp (thn (bB pos ah s af H _ I h) λus bq ⟨vs,ax,bK,r,h⟩=>⟨bK.kIn,?_⟩) bH fx;have cq:=h (bq.heap.objs.size+1) bq.heap.objs.size (bK.hok.fresh (qaH _)) (bK.hok.fresh (QQ _)) (Q0 (qac _));have cB:=Inv.made (C:=C) bK;have cM:cH (V.ref (bq.heap.objs.size+1)::(vs++ [])) (Value.ref (bq.heap.objs.size+1)::(us++ [])):= .cons rfl (r.append .nil);have ag:(Value.ref (bq.heap.objs.size+1)::us++ []).length=b1.length:=by
  have e:=cM.length;rw[zc.len _ _ _ _ cq] at e;exact e.symm
 have ao:=D.b {bq with heap:=(bq.heap.push emptyDict).push (instObj C bq.heap.objs.size)} (Value.ref (bq.heap.objs.size+1)::us) cB.kIn ag;rw[List.cons_append] at ao;refine wpAny_call (xq (f:=D.f) bK.kIn D.M.makes D.M.init (beq_iff_eq.mp D.M.fn) (codeAny_mono (zc.run _ X.stack _ _ ⟨Value.ref (bq.heap.objs.size+1)::us,[]⟩ (Value.ref (bq.heap.objs.size+1)::(us++ [])) _ _ E (bn.make C us [])
  (cB.env0.make C us []) ao cM cq) λr s' iM=>?_))
 cases r with
 |error e=>exact a_ ah af _ _ e s' mi cB iM
 |ok eG=>
  cases eG with
  |ret u=>
   obtain⟨v,ae,dk,cZ,cU,eP⟩:=cB.after iM;subst cU;exact⟨cZ,⟨V.ref (bq.heap.objs.size+1),ae,dk,rfl,eP⟩⟩
  |next=>exact False.elim iM
  |brk=>exact False.elim iM
  |cont=>exact False.elim iM
end
end L2
namespace My
@[irreducible] noncomputable def G (a b:Int):Int:=((Int.gcd a b:Nat):Int)
theorem ZcP(n m:Nat):G (n:Int) (m:Int)=((Nat.gcd n m:Nat):Int):=by
 unfold G
 rfl
theorem Zjw{a b:Int}(bB:0≤a)(ao:b=0):G a b=a:=by
 subst ao;obtain⟨n,rfl⟩:=Ri bB;have:=ZcP n 0;rw[Nat.gcd_zero_right] at this;exact this
theorem Zm7{a b:Int}(bB:0≤a)(ao:0<b):G b (Int.fmod a b)=G a b:=by
 obtain⟨n,rfl⟩:=Ri bB;obtain⟨m,rfl⟩:=Ri (Int.le_of_lt ao);rw[qaG _ (RB m),←Int.natCast_emod,ZcP,ZcP,Nat.gcd_comm n m,Nat.gcd_rec m n,Nat.gcd_comm]
structure S(k:Nat)(x:Int):Prop where
 lo:0≤x
 hi:x.toNat<2 ^ (2048*2 ^ k)
theorem F8{j k:Nat}(h:j≤k):2 ^ (2048*2 ^ j)≤2 ^ (2048*2 ^ k):=
 Re (by decide) (qaN _ (Re (by decide) h))
theorem S.mono{j k:Nat}{x:Int}(h:S j x)(bw:j≤k):S k x:=⟨h.lo,QU h.hi (F8 bw)⟩
end My
namespace Fo
noncomputable abbrev Trip:=Int×Int×Bool
noncomputable abbrev ZP:=List (Int×Option Trip)
noncomputable def keys (bL:ZP):List Int:=bL.map (·.1)
theorem UN(bL:ZP)(w:Int)(s:Option Trip):keys (bL++ [(w,s)])=keys bL++ [w]:=by simp[keys]
theorem Zcu{bL:ZP}{i:Nat}{w:Int}{s:Option Trip}(h:bL[i]? =some (w,s)):w∈keys bL:=Q3.mpr ⟨(w,s),Q6 h,rfl⟩
theorem ZbF{bL:ZP}{w:Int}(h:w∈keys bL):∃(i:Nat)(s:Option Trip),bL[i]? =some (w,s):=by
 obtain⟨⟨dP,s⟩,bv,rfl⟩:=Q3.mp h;obtain⟨i,hi⟩:=RM bv;exact⟨i,s,hi⟩
structure YX(ds:Int→List Trip)(first:Int)(bL:ZP):Prop where
 head:bL[0]? =some (first,none)
 nodup:(keys bL).Nodup
 steps:∀(i:Nat)(w p b:Int)(al:Bool),bL[i]? =some (w,some (p,b,al))→(w,b,al)∈ds p∧∃(j:Nat)(s:Option Trip),j<i∧bL[j]? =some (p,s)
 only:∀(i:Nat)(w:Int),bL[i]? =some (w,none)→i=0
def V6(ds:Int→List Trip)(bL:ZP)(d:Nat):Prop:=∀(j:Nat)(w:Int)(s:Option Trip),j<d→bL[j]? =some (w,s)→∀t∈ds w,t.1∈keys bL
section
variable {ds:Int→List Trip}{first:Int}{bL:ZP}
theorem ZiB:YX ds first [(first,none)]:=by
 refine⟨rfl,by simp[keys],λi w p b al h=>?_,λi w h=>?_⟩
 ·cases i with
  |zero=>simp at h
  |succ i=>simp at h
 ·cases i with
  |zero=>rfl
  |succ i=>simp at h
theorem ZdS{bL:ZP}{x y:Int×Option Trip}{i:Nat}(h:(bL++ [x])[i]? =some y):bL[i]? =some y∨(i=bL.length∧y=x):=by
 rcases qap i bL.length with c|c
 ·rw[Ry c] at h;exact .inl h
 ·rw[Rw c] at h;have:i-bL.length=0:=by
   rcases RK (i-bL.length) with z|z
   ·exact z
   ·rw[Rn (by simp;omega)] at h;cases h
  rw[this] at h;simp at h;exact .inr ⟨by omega,h.symm⟩
theorem ZbM{bL:ZP}{x y:Int×Option Trip}{i:Nat}(h:bL[i]? =some y):(bL++ [x])[i]? =some y:=by
 rw[Ry (QP.mp h).1];exact h
theorem YX.snoc(g:YX ds first bL){w p b:Int}{al:Bool}{j:Nat}{s:Option Trip}(bz:bL[j]? =some (p,s))(hw:(w,b,al)∈ds p)(bG:w∉keys bL):YX ds first (bL++ [(w,some (p,b,al))]):=by
 have bw:=(QP.mp bz).1;refine⟨ZbM g.head,?_,λi dP f0 kb al' h=>?_,λi dP h=>?_⟩
 ·rw[UN];refine qag.mpr ⟨g.nodup,by simp,λx a_ y bP=>?_⟩;rw[QS.mp bP];intro e;exact bG (e▸a_)
 ·rcases ZdS h with z|⟨rfl,z⟩
  ·obtain⟨ap,rc,s',a',bU⟩:=g.steps i dP f0 kb al' z;exact⟨ap,rc,s',a',ZbM bU⟩
  ·cases z;exact⟨hw,j,s,bw,ZbM bz⟩
 ·rcases ZdS h with z|⟨rfl,z⟩
  ·exact g.only i dP z
  ·cases z
theorem V6.snoc{d:Nat}(h:V6 ds bL d)(hd:d≤bL.length)(w:Int)(s:Option Trip):V6 ds (bL++ [(w,s)]) d:=λj dP s' bw e t b3=>by
 rw[UN];refine R3 _ ?_;rcases ZdS e with z|⟨rfl,_⟩
 ·exact h j dP s' bw z t b3
 ·omega
theorem V6.next{d:Nat}{w:Int}{s:Option Trip}(h:V6 ds bL d)(e:bL[d]? =some (w,s))(all:∀t∈ds w,t.1∈keys bL):V6 ds bL (d+1):=λj dP s' bw b6 t b3=>by
 rcases RH.mp bw with z|rfl
 ·exact h j dP s' z b6 t b3
 ·rw[e] at b6;cases b6;exact all t b3
inductive Wo(ds:Int→List Trip)(a:Int):Int→Prop
 |refl:Wo ds a a
 |step {b c:Int} {t:Int} {al:Bool}:Wo ds a b→(c,t,al)∈ds b→Wo ds a c
theorem Wo.trans{a b c:Int}(h:Wo ds a b)(k:Wo ds b c):Wo ds a c:=by
 induction k with
 |refl=>exact h
 |step _ e bM=>exact .step bM e
def ZkM(ds:Int→List Trip):Prop:=∀(a b t:Int)(al:Bool),(b,t,al)∈ds a→(a,t,!al)∈ds b
theorem Wo.symm(ao:ZkM ds){a b:Int}(h:Wo ds a b):Wo ds b a:=by
 induction h with
 |refl=>exact .refl
 |step _ e bM=>exact(Wo.step .refl (ao _ _ _ _ e)).trans bM
theorem YX.hang(g:YX ds first bL):∀(i:Nat)(w:Int)(s:Option Trip),bL[i]? =some (w,s)→Wo ds first w:=by
 intro i
 induction i using Nat.strongRecOn with
 |_ i bM=>
  intro w s h;cases s with
  |none=>
   have:=g.only i w h;subst this;rw[g.head] at h;cases h;exact .refl
  |some x=>
   obtain⟨p,b,al⟩:=x;obtain⟨ap,j,s',a',bU⟩:=g.steps i w p b al h;exact .step (bM j a' p s' bU) ap
theorem YX.keys_iff(g:YX ds first bL)(c:V6 ds bL bL.length)(w:Int):w∈keys bL↔Wo ds first w:=by
 constructor
 ·intro h;obtain⟨i,s,hi⟩:=ZbF h;exact g.hang i w s hi
 ·intro h
  induction h with
  |refl=>exact Zcu g.head
  |step _ e bM=>
   obtain⟨i,s,hi⟩:=ZbF bM;exact c i _ s (QP.mp hi).1 hi _ e
theorem YX.rg(g:YX ds first bL){n:Int}(cw:0≤first∧first<n)(hw:∀a,∀t∈ds a,0≤t.1∧t.1<n):∀w∈keys bL,0≤w∧w<n:=by
 intro w h;obtain⟨i,s,hi⟩:=ZbF h;have:=g.hang i w s hi;cases this with
 |refl=>exact cw
 |step _ e=>exact hw _ _ e
theorem ZaV{cf:List Int}{n:Nat}(nd:cf.Nodup)(h:∀w∈cf,0≤w∧w<(n:Int)):cf.length≤n:=by
 have ap:=nd.length_le_of_subset (l₂:=(List.range n).map λi:Nat=>(i:Int)) (λw hw=>by
  obtain⟨a,b⟩:=h w hw;exact Q3.mpr ⟨w.toNat,Rc.mpr (by omega),by omega⟩)
 simpa using ap
end
structure W4(ds:Int→List Trip)(n:Nat)(F:List (Int×ZP))(i:Nat):Prop where
 tree:∀x∈F,YX ds x.1 x.2∧V6 ds x.2 x.2.length∧0≤x.1∧x.1<(i:Int)
 all:∀w:Int,0≤w→w<(i:Int)→∃x∈F,w∈keys x.2
 rise:F.Pairwise λx y=>x.1<y.1
 least:∀x∈F,∀w∈keys x.2,x.1≤w
section
variable {ds:Int→List Trip}{n i:Nat}{F:List (Int×ZP)}
theorem Zko:W4 ds n [] 0:=⟨by simp,λw cw ap=>by omega,.nil,by simp⟩
theorem W4.skip(h:W4 ds n F i)(hi:∃x∈F,(i:Int)∈keys x.2):W4 ds n F (i+1):=
 ⟨λx a_=>by obtain⟨a,b,c,d⟩:=h.tree x a_;exact⟨a,b,c,by omega⟩,λw cw ap=>by
  by_cases e:w=(i:Int)
  ·rw[e];exact hi
  ·exact h.all w cw (by omega),h.rise,h.least⟩
theorem W4.grow(ao:ZkM ds)(hw:∀a,∀t∈ds a,0≤t.1∧t.1<(n:Int))(ez:i<n)(h:W4 ds n F i)(hi:∀x∈F,(i:Int)∉keys x.2){bL:ZP}(g:YX ds i bL)(c:V6 ds bL bL.length):W4 ds n (F++ [((i:Int),bL)]) (i+1):=by
 refine⟨λx a_=>?_,λw cw ap=>?_,List.pairwise_append.mpr ⟨h.rise,by simp,λx a_ y bP=>?_⟩,λx a_=>?_⟩
 ·rcases Rk.mp a_ with z|z
  ·obtain⟨a,b,c,d⟩:=h.tree x z;exact⟨a,b,c,by omega⟩
  ·rw[QS.mp z];exact⟨g,c,by simp,by simp;omega⟩
 ·by_cases e:w=(i:Int)
  ·exact⟨_,Q9 _ (QS.mpr rfl),by rw[e];exact Zcu g.head⟩
  ·obtain⟨x,a_,bp⟩:=h.all w cw (by omega);exact⟨x,R3 _ a_,bp⟩
 ·rw[QS.mp bP];exact(h.tree x a_).2.2.2
 ·rcases Rk.mp a_ with z|z
  ·exact h.least x z
  ·rw[QS.mp z];intro w bp;rcases Int.lt_or_le w (i:Int) with y|y
   ·exfalso;have bn:=g.rg ⟨by omega,by omega⟩ hw w bp;obtain⟨eJ,iy,kn⟩:=h.all w bn.1 y;obtain⟨g',cR,_,_⟩:=h.tree eJ iy;have ap:=(g'.keys_iff cR w).mp kn;have a':=((g.keys_iff c w).mp bp).symm ao;exact hi eJ iy ((g'.keys_iff cR _).mpr (ap.trans a'))
   ·exact y
end
end Fo
namespace Fire
noncomputable def bump (c:Nat→Nat) (w:Nat):Nat→Nat:=λv=>if v=w then c v+1 else c v
theorem V1(c:Nat→Nat)(w:Nat):bump c w w=c w+1:=by simp[bump]
theorem VH(c:Nat→Nat){v w:Nat}(h:v≠w):bump c w v=c v:=by simp[bump,h]
inductive YM(R:(Nat→Nat)→Nat→Prop):(Nat→Nat)→List Nat→(Nat→Nat)→Prop
 |nil (c:Nat→Nat):YM R c [] c
 |cons {c d:Nat→Nat} {w:Nat} {bV:List Nat}:R c w→YM R (bump c w) bV d→YM R c (w::bV) d
variable {R:(Nat→Nat)→Nat→Prop}
theorem YM.app{c d e:Nat→Nat}{bV ry:List Nat}(h:YM R c bV d)(h':YM R d ry e):YM R c (bV++ry) e:=by
 induction h with
 |nil c=>exact h'
 |cons r _ bM=>exact .cons r (bM h')
theorem YM.snoc{c d:Nat→Nat}{bV:List Nat}{w:Nat}(h:YM R c bV d)(r:R d w):YM R c (bV++ [w]) (bump d w):=h.app (.cons r (.nil _))
structure Belt where
 giver:Nat
 taker:Nat
 give:Int
 take:Int
 start:Int
noncomputable def lie (b:Belt) (c:Nat→Nat):Int:=b.start+b.give*(c b.giver:Int)-b.take*(c b.taker:Int)
def Zn1(bs:List Belt)(c:Nat→Nat)(w:Nat):Prop:=∀b∈bs,b.taker=w→b.take≤lie b c
def May(bs:List Belt)(n:Nat)(F9:Nat→Nat)(c:Nat→Nat)(w:Nat):Prop:=w<n∧c w<F9 w∧Zn1 bs c w
end Fire
namespace Pc
inductive Z8(E:List (Nat×Nat)):Nat→Nat→Prop where
 |refl (a:Nat):Z8 E a a
 |fwd {a b c:Nat}:Z8 E a b→(b,c)∈E→Z8 E a c
 |bwd {a b c:Nat}:Z8 E a b→(c,b)∈E→Z8 E a c
theorem Z8.trans{E:List (Nat×Nat)}{a b c:Nat}(h:Z8 E a b)(k:Z8 E b c):Z8 E a c:=by
 induction k with
 |refl=>exact h
 |fwd _ e bM=>exact .fwd bM e
 |bwd _ e bM=>exact .bwd bM e
theorem Z8.symm{E:List (Nat×Nat)}{a b:Nat}(h:Z8 E a b):Z8 E b a:=by
 induction h with
 |refl=>exact .refl _
 |fwd _ e bM=>exact(Z8.bwd (.refl _) e).trans bM
 |bwd _ e bM=>exact(Z8.fwd (.refl _) e).trans bM
theorem Z8.lt{E:List (Nat×Nat)}{n a b:Nat}(f7:∀e∈E,e.1<n∧e.2<n)(h:Z8 E a b)(bB:a<n):b<n:=by
 induction h with
 |refl=>exact bB
 |fwd _ e bM=>exact(f7 _ e).2
 |bwd _ e bM=>exact(f7 _ e).1
noncomputable def step (l:Nat→Nat) (e:Nat×Nat):Nat→Nat:=λw=>if w=e.1∨w=e.2 then min (l e.1) (l e.2) else l w
noncomputable def lap (E:List (Nat×Nat)) (l:Nat→Nat):Nat→Nat:=E.foldl step l
noncomputable def Z9 (E:List (Nat×Nat)):Nat→(Nat→Nat)→Nat→Nat
 |0,l=>l
 |k+1,l=>lap E (Z9 E k l)
theorem uw(l:Nat→Nat)(e:Nat×Nat)(w:Nat):step l e w≤l w:=by
 unfold step
 split
 ·rename_i h;rcases h with rfl|rfl
  ·exact Nat.min_le_left _ _
  ·exact Nat.min_le_right _ _
 ·exact QQ _
theorem rz(F:List (Nat×Nat)):∀(l:Nat→Nat)(w:Nat),F.foldl step l w≤l w:=by
 induction F with
 |nil=>intro l w;exact QQ _
 |cons e F bM=>intro l w;exact QZ (bM (step l e) w) (uw l e w)
theorem zd(F:List (Nat×Nat)):∀(l:Nat→Nat)(e:Nat×Nat),e∈F→F.foldl step l e.1≤l e.2∧F.foldl step l e.2≤l e.1:=by
 induction F with
 |nil=>intro l e h;cases h
 |cons f F bM=>
  intro l e h;rcases QW.mp h with rfl|h
  ·have a:=rz F (step l e) e.1;have b:=rz F (step l e) e.2;have c:step l e e.1≤l e.2:=by unfold step;rw[if_pos (.inl rfl)];exact Nat.min_le_right _ _
   have d:step l e e.2≤l e.1:=by unfold step;rw[if_pos (.inr rfl)];exact Nat.min_le_left _ _
   exact⟨QZ a c,QZ b d⟩
  ·have:=bM (step l f) e h;exact⟨QZ this.1 (uw l f e.2),QZ this.2 (uw l f e.1)⟩
def ky(E:List (Nat×Nat))(l:Nat→Nat):Prop:=∀w,Z8 E w (l w)
theorem F_{E:List (Nat×Nat)}{l:Nat→Nat}{e:Nat×Nat}(h:ky E l)(bH:e∈E):ky E (step l e):=by
 intro w;unfold step
 split
 ·rename_i hw;have ab:Z8 E e.1 e.2:= .fwd (.refl _) bH;have wa:Z8 E w e.1:=by
   rcases hw with rfl|rfl
   ·exact .refl _
   ·exact ab.symm
  rcases Nat.le_total (l e.1) (l e.2) with q|q
  ·rw[Nat.min_eq_left q];exact wa.trans (h e.1)
  ·rw[Nat.min_eq_right q];exact(wa.trans ab).trans (h e.2)
 ·exact h w
theorem ZgH{E:List (Nat×Nat)}(F:List (Nat×Nat)):∀(l:Nat→Nat),ky E l→(∀e∈F,e∈E)→ky E (F.foldl step l):=by
 induction F with
 |nil=>intro l h _;exact h
 |cons e F bM=>intro l h k;exact bM _ (F_ h (k e R0)) λx a_=>k x (Q7 _ a_)
theorem rA{E:List (Nat×Nat)}{l:Nat→Nat}(h:ky E l):∀k,ky E (Z9 E k l)
 |0=>h
 |k+1=>ZgH E _ (rA h k) λ_ x=>x
theorem Zfr{p q:Nat→Bool}:∀{xs:List Nat}{a:Nat},(∀x∈xs,p x=true→q x=true)→a∈xs→p a=false→q a=true→xs.countP p+1≤xs.countP q
 | [],_,_,h,_,_=>by cases h
 |x::xs,a,s,h,k9,rB=>by
  have mono:xs.countP p≤xs.countP q:=List.countP_mono_left λy bP=>s y (Q7 _ bP);rw[List.countP_cons,List.countP_cons];rcases QW.mp h with rfl|h'
  ·rw[k9,rB];simp;omega
  ·have bM:=Zfr (λy bP=>s y (Q7 _ bP)) h' k9 rB
   by_cases pQ:p x=true
   ·rw[pQ,s x R0 pQ];simp;omega
   ·have rC:p x=false:=by simpa using pQ
    rw[rC];simp;omega
theorem Zm3{E:List (Nat×Nat)}{m w:Nat}{p:Nat→Bool}(h:Z8 E m w)(bv:p m=true)(hw:p w=false):
  ∃a b,Z8 E m a∧p a=true∧p b=false∧((a,b)∈E∨(b,a)∈E):=by
 induction h with
 |refl=>rw[bv] at hw;cases hw
 | @fwd b c ao e bM=>
  by_cases q:p b=true
  ·exact⟨b,c,ao,q,hw,.inl e⟩
  ·exact bM (by simpa using q)
 | @bwd b c ao e bM=>
  by_cases q:p b=true
  ·exact⟨b,c,ao,q,hw,.inr e⟩
  ·exact bM (by simpa using q)
theorem Zls{E:List (Nat×Nat)}{n m:Nat}(f7:∀e∈E,e.1<n∧e.2<n)(bv:m<n)(least:∀v,Z8 E m v→m≤v):
  ∀k,(∀w,Z8 E m w→Z9 E k (λi=>i) w=m)∨k+1≤(List.range n).countP (λw=>Z9 E k (λi=>i) w==m)
 |0=>by
  right
  show 0+1≤(List.range n).countP (λw=>w==m);exact List.countP_pos_iff.mpr ⟨m,Rc.mpr bv,by simp⟩
 |k+1=>by
  have F':ky E (Z9 E k (λi=>i)):=rA (λw=> .refl w) k;have ze:ky E (Z9 E (k+1) (λi=>i)):=rA (λw=> .refl w) (k+1);have Ga:∀w,Z9 E (k+1) (λi=>i) w≤Z9 E k (λi=>i) w:=λw=>rz E _ w;have stays:∀w,Z8 E m w→Z9 E k (λi=>i) w=m→Z9 E (k+1) (λi=>i) w=m:=λw hw e=>by
   have a:=Ga w;have b:=least _ (hw.trans (ze w));omega
  have self:∀k,Z9 E k (λi=>i) m=m:=λk=>by
   have bJ:ky E (Z9 E k (λi=>i)):=rA (λw=> .refl w) k;have b:=least _ (bJ m);have c:∀j,Z9 E j (λi=>i) m≤m:=λj=>by
    induction j with
    |zero=>exact QQ _
    |succ j bM=>exact QZ (rz E _ m) bM
   have:=c k;omega
  rcases Zls f7 bv least k with h|h
  ·left
   exact λw hw=>stays w hw (h w hw)
  ·by_cases all:∀w,Z8 E m w→Z9 E k (λi=>i) w=m
   ·left
    exact λw hw=>stays w hw (all w hw)
   ·right
    obtain⟨w,hw⟩:=Classical.not_forall.mp all;obtain⟨Gb,Gc⟩:=Classical.not_imp.mp hw;obtain⟨a,b,ca,k9,Gd,e⟩:=Zm3 (p:=λw=>Z9 E k (λi=>i) w==m) Gb (by simp[self k]) (by simpa using Gc);have O8:Z9 E k (λi=>i) a=m:=by simpa using k9
    have cb:Z8 E m b:=by
     rcases e with e|e
     ·exact .fwd ca e
     ·exact .bwd ca e
    have pC:Z9 E (k+1) (λi=>i) b=m:=by
     have jo:=least _ (cb.trans (ze b));have nP:Z9 E (k+1) (λi=>i) b≤Z9 E k (λi=>i) a:=by
      rcases e with e|e
      ·exact(zd E _ (a,b) e).2
      ·exact(zd E _ (b,a) e).1
     omega
    have ao:b<n:=cb.lt f7 bv;have:=Zfr (p:=λw=>Z9 E k (λi=>i) w==m) (q:=λw=>Z9 E (k+1) (λi=>i) w==m) (xs:=List.range n) (a:=b)
     (λx a_ pQ=>?_) (Rc.mpr ao) Gd (by simp[pC])
    ·omega
    ·have rC:Z9 E k (λi=>i) x=m:=by simpa using pQ
     have pq:Z8 E m x:=by have:=F' x;rw[rC] at this;exact this.symm
     simp[stays x pq rC]
theorem Zeg{E:List (Nat×Nat)}:∀(k w:Nat),w≤k→∃m,Z8 E w m∧∀v,Z8 E w v→m≤v
 |0,w,h=>⟨w,.refl w,λv _=>by omega⟩
 |k+1,w,h=>by
  by_cases q:∃v,Z8 E w v∧v<w
  ·obtain⟨v,nQ,O9⟩:=q;obtain⟨m,nR,rD⟩:=Zeg (E:=E) k v (by omega);exact⟨m,nQ.trans nR,λu Ge=>rD u (nQ.symm.trans Ge)⟩
  ·exact⟨w,.refl w,λv nQ=>by
    by_cases b8:v<w
    ·exact absurd ⟨v,nQ,b8⟩ q
    ·omega⟩
theorem Uj{E:List (Nat×Nat)}{n:Nat}(f7:∀e∈E,e.1<n∧e.2<n){w:Nat}(hw:w<n):
  Z8 E w (Z9 E n (λi=>i) w)∧∀v,Z8 E w v→Z9 E n (λi=>i) w≤v:=by
 obtain⟨m,nR,rD⟩:=Zeg (E:=E) w w (QQ _);have bv:m<n:=nR.lt f7 hw;have least:∀v,Z8 E m v→m≤v:=λv nQ=>rD v (nR.trans nQ);rcases Zls f7 bv least n with h|h
 ·have e:=h w nR.symm;rw[e];exact⟨nR,rD⟩
 ·have:=List.countP_le_length (p:=λw=>Z9 E n (λi=>i) w==m) (l:=List.range n);rw[R8] at this;omega
end Pc
set_option Elab.async false
set_option linter.all false
set_option maxRecDepth 100000
set_option maxHeartbeats 4000000
local macro_rules| `(tactic|omega)=>`(tactic|with_reducible first|exact RB _|exact L2.oA (by assumption) (by assumption)|exact L2.oB (by assumption) (by assumption) rfl|exact L2.oC (by assumption) (by assumption) rfl|exact L2.oD (by assumption) rfl|exact L2.oE (by assumption) (by assumption)|exact L2.oF (by assumption)|lia|fail)
local macro_rules| `(tactic|walk_at "mul")=>`(tactic|k_dflt (first|with_reducible assumption|exact L2.Zhx.ok (Or.inr ⟨by omega,by omega⟩)|exact L2.Zhx.ok (Or.inl ⟨by omega,by omega⟩)))
local macro_rules| `(tactic|walk_at "lk")=>`(tactic|first|exact L2.Rd.lk0|exact L2.Rd.lkN|(refine L2.Rd.lk1 (by decide+kernel) ?_;walk_at "lk"))
local macro_rules| `(tactic|walk_at "pf")=>`(tactic|first|exact L2.Rd.pfN|(apply L2.Rd.pf1;(decide+kernel);walk_at "pf"))
local macro_rules| `(tactic|walk_at "na")=>`(tactic|exact L2.W0.get (by with_reducible assumption) (by decide+kernel))
local macro_rules| `(tactic|walk_at "cond")=>`(tactic|k_dflt (first|with_reducible assumption|decide|omega|(simp;done)|(simp only[List.length_cons,List.length_nil,QM,Rj];omega)))
local macro_rules| `(tactic|walk_at "rdis")=>`(tactic|((with_reducible show ∃x n t b,_=_∧L2.Wq _ _ x t∧_);first|with_reducible apply L2.Rd.Zh3|with_reducible apply L2.Rd.ZgS|with_reducible apply L2.Rd.is_int_str|with_reducible apply L2.Rd.is_int_list|with_reducible apply L2.Rd.is_int_tuple|with_reducible apply L2.Rd.is_int_dict|with_reducible apply L2.Rd.is_bl_int|with_reducible apply L2.Rd.is_bl_bool|with_reducible apply L2.Rd.is_bl_str|with_reducible apply L2.Rd.is_bl_list|with_reducible apply L2.Rd.is_bl_tuple|with_reducible apply L2.Rd.is_bl_dict|with_reducible apply L2.Rd.is_str_int|with_reducible apply L2.Rd.is_str_bool|with_reducible apply L2.Rd.Zhq|with_reducible apply L2.Rd.is_str_list|with_reducible apply L2.Rd.is_str_tuple|with_reducible apply L2.Rd.is_str_dict|with_reducible apply L2.Rd.is_non_int|with_reducible apply L2.Rd.is_non_bool|with_reducible apply L2.Rd.is_non_str|with_reducible apply L2.Rd.is_non_list|with_reducible apply L2.Rd.is_non_tuple|with_reducible apply L2.Rd.is_non_dict|with_reducible refine L2.Rd.is_lst_int (by with_reducible assumption) ?_|with_reducible refine L2.Rd.is_lst_bool (by with_reducible assumption) ?_|with_reducible refine L2.Rd.is_lst_str (by with_reducible assumption) ?_|with_reducible refine L2.Rd.ZgA (by with_reducible assumption) ?_|with_reducible refine L2.Rd.is_lst_tuple (by with_reducible assumption) ?_|with_reducible refine L2.Rd.is_lst_dict (by with_reducible assumption) ?_|with_reducible refine L2.Rd.is_tup_int (by with_reducible assumption) ?_|with_reducible refine L2.Rd.is_tup_bool (by with_reducible assumption) ?_|with_reducible refine L2.Rd.is_tup_str (by with_reducible assumption) ?_|with_reducible refine L2.Rd.is_tup_list (by with_reducible assumption) ?_|with_reducible refine L2.Rd.is_tup_tuple (by with_reducible assumption) ?_|with_reducible refine L2.Rd.is_tup_dict (by with_reducible assumption) ?_|with_reducible refine L2.Rd.is_dK_int (by with_reducible assumption) ?_|with_reducible refine L2.Rd.is_dK_bool (by with_reducible assumption) ?_|with_reducible refine L2.Rd.is_dK_str (by with_reducible assumption) ?_|with_reducible refine L2.Rd.is_dK_list (by with_reducible assumption) ?_|with_reducible refine L2.Rd.is_dK_tuple (by with_reducible assumption) ?_|with_reducible refine L2.Rd.is_dK_dict (by with_reducible assumption) ?_))
local macro_rules| `(tactic|walk_at "side")=>`(tactic|k_dflt (first|with_reducible assumption|decide|(dsimp only;decide)|(dsimp only[L2.CPow];decide)|omega|(dsimp only;omega)))
local macro_rules| `(tactic|walk_at "hp")=>`(tactic|with_reducible (first|assumption|((show L2.SqL _ _ _ _);(first|exact L2.SqL.of (by assumption)|exact L2.OffL.sq (by assumption)|exact L2.Ze.seq (by assumption) (by assumption)))|((show L2.SqT _ _ _ _);(first|exact L2.SqT.of (by assumption)|exact L2.OffT.sq (by assumption)|exact L2.Ze.seqT (by assumption) (by assumption)))))
local macro_rules| `(tactic|walk_at "rd")=>`(tactic|first|with_reducible (first|apply L2.Rd.seq|apply L2.Rd.asg|apply L2.Rd.ret|apply L2.Rd.ifs|apply L2.Rd.next|apply L2.Rd.drop|apply L2.Rd.op|apply L2.Rd.Zom|apply L2.Rd.con|(show L2.Zfa _ _ _ _;refine L2.Rd.var (by k_dflt rfl) ?_)|(show L2.Vf _ _ _ _ _;refine L2.Rd.ZnV (by k_dflt (dsimp only[L2.start,List.map_cons,List.map_nil,List.cons_append,List.nil_append,List.length_cons,List.length_nil,Nat.reduceAdd,Nat.reduceSub,List.replicate,List.set];(try rfl))) ?_)|apply L2.Rd.call|apply L2.Rd.cons|apply L2.Rd.nil|apply L2.Rd.cb|apply L2.Rd.tup|apply L2.Rd.lst|apply L2.Rd.ZoA|apply L2.Rd.or_|apply L2.Rd.Zov|apply L2.Rd.ZoM|apply L2.Rd.Zot|apply L2.Rd.i0|(show L2.rI _ _ _ _ _ _;refine L2.Rd.iC (by walk_at "side") ?_)|apply L2.Rd.bl|apply L2.Rd.Zof|(show L2.rOr L2.ZhV _ _ _ _ _;refine L2.Rd.mulI (by walk_at "mul") ?_)|apply L2.Rd.Zoy|apply L2.Rd.Zob|(show L2.rOr _ (L2.rOr L2.Zc2 _) (L2.V.str _) (L2.V.str _) _ _;refine L2.Rd.Zmm (by walk_at "side") ?_)|(show L2.rIx _ _ _ _ _;refine L2.Rd.Zoa (by walk_at "hp") (by k_dflt rfl) ?_)|(show L2.rIx _ _ _ _ _;refine L2.Rd.Zmy (by walk_at "hp") (by k_dflt (first|rfl|with_reducible assumption)) ?_)|(show ∃a,L2.V.ref _=L2.V.ref a∧(∃xs,L2.SqL _ _ a xs)∧_;refine L2.Rd.Znl (by walk_at "hp") ?_)|(show ∃k,[L2.V.int _]=[L2.V.int k]∧_;refine L2.Rd.Zn5 (by k_dflt omega) (by k_dflt omega) ?_)|apply L2.Rd.ZoK|(show ∃x n,_=_∧L2.Zcj _ x _ n∧_;refine L2.Rd.ZoC (by walk_at "hp") ?_)|(show ∃x n,_=_∧L2.Zcj _ x _ n∧_;refine L2.Rd.lenS (by walk_at "side") ?_))|walk_at "rdis" |with_reducible (first|apply L2.Rd.ZoF|apply L2.Rd.tru|apply L2.Rd.ZoJ|apply L2.Rd.Zoh|apply L2.Rd.Zod|apply L2.Rd.bm|(show L2.tyV _ _ _ _∧_;refine L2.Rd.tyl (by with_reducible assumption) ?_)|(show L2.rAppend _ _ _ _;refine L2.Rd.app (by with_reducible assumption) (by walk_at "side") ?_)|apply L2.Zir|apply L2.ZfD|apply L2.Rd.Zlg|apply L2.Rd.Zlk|(show if decide _=true then _ else _;refine L2.Rd.ifP (by walk_at "cond") ?_)|(show if decide _=true then _ else _;refine L2.Rd.ifN (by walk_at "cond") ?_)|(show if(!decide _)=true then _ else _;refine L2.Rd.Zol (by walk_at "cond") ?_)|apply L2.Rd.sl|apply L2.Rd.ZmN|apply L2.Rd.ZoE|apply L2.Rd.ZnK|apply L2.Rd.Zog|(show ∃a C bu fs v,L2.V.ref _=L2.V.ref a∧_=some (L2.HO.ins C bu fs)∧L2.Cls _ C∧_;refine L2.Rd.fld (by with_reducible assumption) (by with_reducible assumption) (by k_dflt (walk_at "na")) (by k_dflt (walk_at "lk")) ?_)|(show L2.Zgb _ _ _ _ _ _ _ _ _;refine L2.Rd.ZnM (by k_dflt rfl) ?_)|apply L2.Rd.Zos|(show L2.rSetL _ _ _ _ _;refine L2.Rd.ZmJ (by with_reducible assumption) (by k_dflt omega) (by walk_at "cond") ?_)|apply L2.Rd.ZnP|apply L2.Rd.ZnW|apply L2.Rd.Zok|(show ∃a C bu fs,L2.V.ref _=L2.V.ref a∧_=some (L2.HO.ins C bu fs)∧L2.Cls _ C∧_;refine L2.Rd.ZnU (by with_reducible (first|assumption|exact L2.Zd)) (by with_reducible assumption) (by k_dflt (walk_at "na")) (by k_dflt (simp only[List.length_cons,List.length_nil];decide)) (by k_dflt (walk_at "pf")) ?_)|apply L2.Rd.raise|apply L2.Rd.ZmC|apply L2.Rd.ZnX|apply L2.Rd.Zn6|apply L2.Rd.ZnI|apply L2.Rd.Zoq|apply L2.Rd.ZnA|(show L2.rIn _ _ _ _ _ _;refine L2.Rd.inI (by walk_at "hp") ?_)|(show ∃p bs,[L2.V.ref _]=[L2.V.ref p]∧L2.SqL _ _ p (List.map L2.V.bl bs)∧_;refine L2.Rd.Zoo (by walk_at "hp") ?_)|apply L2.Rd.leS|apply L2.Rd.Zn3)|((with_reducible show if(!(_==_))=true then _ else _);first|refine L2.Rd.Zlg ?_|refine L2.Rd.Zlk ?_)|((with_reducible show if(_==_)=true then _ else _);first|refine L2.Zir ?_|refine L2.ZfD ?_)|with_reducible (first|apply L2.Rd.Znw|apply L2.Rd.Zn4|(show ∃a,_=_∧(∃xs,L2.SqL _ _ a xs)∧_;refine L2.Rd.Zmj (by walk_at "hp") ?_)|apply L2.Rd.lset|apply L2.Rd.Zoz)|((with_reducible show L2.rDIn _ _ _ _);first|with_reducible refine L2.Rd.Zn9 (by with_reducible assumption) ?_|with_reducible refine L2.Rd.dinI (by with_reducible assumption) ?_)|((with_reducible show L2.rDNotIn _ _ _ _);first|with_reducible refine L2.Rd.dninS (by with_reducible assumption) ?_|with_reducible refine L2.Rd.ZnY (by with_reducible assumption) ?_)|((with_reducible show L2.rIxD _ _ _ _);first|with_reducible refine L2.Rd.dgetS (by with_reducible assumption) (by with_reducible assumption) ?_|with_reducible refine L2.Rd.Zlj (by with_reducible assumption) (by with_reducible assumption) ?_)|((with_reducible show L2.rSetD _ _ _ _ _);first|with_reducible refine L2.Rd.ZnS (by with_reducible assumption) (by walk_at "side") ?_|with_reducible refine L2.Rd.ZnR (by with_reducible assumption) (by walk_at "side") ?_)|with_reducible (first|(show L2.rLenD _ _ _;refine L2.Rd.Zou (by with_reducible assumption) ?_)|(show L2.rListD _ _ _;refine L2.Rd.ZnB (by with_reducible assumption) ?_)|apply L2.Rd.Zoe|apply L2.Rd.ipi|(show L2.ZdU _ _ _ _ _;refine L2.Rd.ixl (by walk_at "hp") (by k_dflt (first|rfl|with_reducible assumption)) ?_)|apply L2.Rd.Zoj|apply L2.Rd.ZoP|apply L2.Rd.ZoG|apply L2.Rd.ZnT))
local macro_rules| `(tactic|walk_at "rds")=>`(tactic|repeat' (walk_at "rd"))
namespace Nm
open PySem L2
noncomputable def top (i:Nat):Stmt:=PySem.Challenge.pw_ratehall_k23_inner_row.main.body.getD i (.Pass ⟨0,0,0,0⟩)
noncomputable abbrev zf:Stmt:=top 61
noncomputable abbrev zg:Stmt:=top 62
noncomputable abbrev zh:Stmt:=top 63
noncomputable abbrev zi:Stmt:=top 65
noncomputable abbrev ux:Stmt:=top 67
noncomputable abbrev zj:Stmt:=top 69
noncomputable abbrev zk:Stmt:=top 68
noncomputable abbrev nS:Stmt:=top 71
noncomputable abbrev uy:Stmt:=top 14
noncomputable abbrev zl:Stmt:=Yv (top 26) 1
noncomputable abbrev zm:Stmt:=top 20
noncomputable abbrev zn:Stmt:=top 21
noncomputable abbrev zo:Stmt:=top 28
noncomputable abbrev zp:Stmt:=top 22
noncomputable abbrev zq:Stmt:=Yv (top 26) 11
noncomputable abbrev zr:Stmt:=Yv (top 26) 3
noncomputable abbrev zt:Stmt:=Yv (top 26) 2
noncomputable abbrev zu:Stmt:=Yv (top 26) 0
noncomputable abbrev zv:Stmt:=top 66
noncomputable abbrev zw:Stmt:=top 64
noncomputable abbrev zx:Stmt:=top 70
noncomputable abbrev zy:Stmt:=Yv (top 53) 3
noncomputable abbrev zz:Stmt:=Yv (top 53) 4
noncomputable abbrev zA:Stmt:=top 54
noncomputable abbrev zB:Stmt:=top 16
noncomputable abbrev zC:Stmt:=top 55
noncomputable abbrev zD:Stmt:=top 27
noncomputable abbrev zE:Stmt:=Yv (top 26) 5
noncomputable abbrev zF:Stmt:=Yv (top 26) 7
noncomputable abbrev uz:Stmt:=top 57
noncomputable abbrev uA:Stmt:=top 49
noncomputable abbrev uB:Stmt:=top 32
noncomputable abbrev uC:Stmt:=Yv (top 50) 2
noncomputable abbrev uD:Stmt:=Yv (top 26) 9
noncomputable abbrev zG:Stmt:=Yv (top 26) 12
noncomputable abbrev zH:Stmt:=Yv (top 26) 8
noncomputable abbrev uE:Stmt:=top 30
noncomputable abbrev uF:Stmt:=Yv (top 26) 10
noncomputable abbrev uG:Stmt:=top 31
noncomputable abbrev uH:Stmt:=top 51
noncomputable abbrev pR:Stmt:=Yv (top 50) 0
noncomputable abbrev uI:Stmt:=top 56
noncomputable abbrev zI:Stmt:=top 59
noncomputable abbrev uJ:Stmt:=top 35
noncomputable abbrev zJ:Stmt:=top 36
noncomputable abbrev zK:Stmt:=top 34
noncomputable abbrev zL:Stmt:=top 18
noncomputable abbrev zM:Stmt:=top 19
noncomputable abbrev zN:Stmt:=top 43
noncomputable abbrev zO:Stmt:=top 42
noncomputable abbrev zP:Stmt:=top 17
noncomputable abbrev uK:Stmt:=top 41
noncomputable abbrev UV:Stmt:=top 39
noncomputable abbrev Gf:Stmt:=top 37
noncomputable abbrev Gg:Stmt:=top 45
noncomputable abbrev zQ:Stmt:=top 44
noncomputable abbrev zR:Stmt:=top 40
noncomputable abbrev zS:Stmt:=top 48
noncomputable abbrev zT:Stmt:=top 58
noncomputable abbrev rE:Stmt:=Yv (top 53) 0
noncomputable abbrev uL:Stmt:=top 72
theorem uM:Zr ["_law_script","_law_k","_law_lap","_law_cell"] ["_law_script","_law_k"] (cr zf):=scI
theorem jp:Zr ["_law_cell","_law_many","_law_letters","_law_long","_law_at","_law_some","_law_k","_law_word","_law_place","_law_turn"] ["_law_cell","_law_many"] (cr zg):=scI
theorem rF:Zr ["_law_one","_law_other","_law_rest"] ["_law_one","_law_other"] (cr zh):=scI
theorem jQ:Zr ["_law_rates","_law_belts","_law_label","_law_turn","_law_belt","_law_low","_law_found","_law_work","_law_both","_law_other"] ["_law_rates","_law_belts"] (cr zi):=scI
theorem pS:Zr ["_law_cell","_law_many","_law_mix","_law_group"] ["_law_cell","_law_many"] (cr ux):=scI
theorem uN:Zr ["_law_belts","_law_lying","_law_work","_law_k","_law_belt"] ["_law_belts","_law_lying","_law_work"] (cr zj):=scI
theorem uO:Zr ["_law_belts","_law_lying","_law_work","_law_k","_law_belt"] ["_law_belts","_law_lying","_law_work"] (cr zk):=scI
theorem iX:Zr ["_law_belts","_law_rates","_law_group","_law_members","_law_common_here","_law_work","_law_left","_law_within","_law_lying","_law_row","_law_step","_law_some"] ["_law_belts","_law_rates","_law_group"] (cr nS):=scI
theorem Gh:Zr ["thing"] ["thing"] (cr uy):=scI
theorem zU:Zr ["self","name","number"] ["self","name"] (cr zl):=scI
theorem Gi:Zr ["thing"] ["thing"] (cr zm):=scI
theorem Gj:Zr ["thing","least"] ["thing","least"] (cr zn):=scI
theorem Gk:Zr ["start"] ["start"] (cr zo):=scI
theorem Gm:Zr ["thing","bound"] ["thing","bound"] (cr zp):=scI
theorem Gn:Zr ["self","work"] ["self","work"] (cr zq):=scI
theorem Go:Zr ["self","row"] ["self","row"] (cr zr):=scI
theorem Gp:Zr ["self","giver","taker","give","take","start"] ["self","giver","taker","give","take","start"] (cr zt):=scI
theorem Gq:Zr ["self"] ["self"] (cr zu):=scI
theorem lv:Zr ["_law_names_here","_law_belts","_law_hall","_law_name","_law_giver","_law_taker","_law_give","_law_take","_law_start"] ["_law_names_here","_law_belts"] (cr zv):=scI
theorem jR:Zr ["_law_cell","_law_rates","_law_top","_law_ample","_law_mix","_law_giver","_law_taker","_law_both","_law_times_by","_law_give","_law_take","_law_start"] ["_law_cell","_law_rates","_law_top","_law_ample"] (cr zw):=scI
theorem zV:Zr ["_law_found","_law_number"] ["_law_found"] (cr zx):=scI
theorem Gr:Zr ["self"] ["self"] (cr zy):=scI
theorem uP:Zr ["self","row","works","work"] ["self","row"] (cr zz):=scI
theorem zW:Zr ["hall","group","work"] ["hall","group"] (cr zA):=scI
theorem rG:Zr ["one","other","rest"] ["one","other"] (cr zB):=scI
theorem nT:Zr ["rates","members","common","member","turns"] ["rates","members"] (cr zC):=scI
theorem rH:Zr ["names","rows","hall","name","row"] ["names","rows"] (cr zD):=scI
theorem Gs:Zr ["self"] ["self"] (cr zE):=scI
theorem Gu:Zr ["self"] ["self"] (cr zF):=scI
theorem rJ:Zr ["hall","members","names","rows","row"] ["hall","members"] (cr uz):=scI
theorem Gv:Zr ["hall"] ["hall"] (cr uA):=scI
theorem Gw:Zr ["heaps","takes"] ["heaps","takes"] (cr uB):=scI
theorem jq:Zr ["self","starts","heaps","left","able","row","work","belt","take","give","other"] ["self","starts"] (cr uC):=scI
theorem Gx:Zr ["self","work"] ["self","work"] (cr uD):=scI
theorem Gy:Zr ["self","belt"] ["self","belt"] (cr zG):=scI
theorem Gz:Zr ["self","belt"] ["self","belt"] (cr zH):=scI
theorem GA:Zr ["hall","work"] ["hall","work"] (cr uE):=scI
theorem GB:Zr ["self","work"] ["self","work"] (cr uF):=scI
theorem GC:Zr ["hall","work"] ["hall","work"] (cr uG):=scI
theorem GD:Zr ["hall","work"] ["hall","work"] (cr uH):=scI
theorem GF:Zr ["self","hall","turns"] ["self","hall","turns"] (cr pR):=scI
theorem rK:Zr ["hall","turns","members","inner","row"] ["hall","turns"] (cr uI):=scI
theorem pT:Zr ["hall","turns","places","rows","row","give","take"] ["hall","turns","places"] (cr zI):=scI
theorem rL:Zr ["hall","ways","belt","row"] ["hall"] (cr uJ):=scI
theorem kz:Zr ["ways","first","tree","reached","done","work","other","belt","along"] ["ways","first"] (cr zJ):=scI
theorem nU:Zr ["hall","ways","seen","forest","work","tree"] ["hall"] (cr zK):=scI
theorem zX:Zr ["top","bottom","common"] ["top","bottom"] (cr zL):=scI
theorem GG:Zr ["one","other"] ["one","other"] (cr zM):=scI
theorem GH:Zr ["row","along"] ["row","along"] (cr zN):=scI
theorem rM:Zr ["hall","tree","shares","work","step"] ["hall","tree"] (cr zO):=scI
theorem GI:Zr ["one","other"] ["one","other"] (cr zP):=scI
theorem kA:Zr ["hall","forest","rates","tree","shares","common","share","work"] ["hall","forest"] (cr uK):=scI
theorem GJ:Zr ["hall","counts"] ["hall","counts"] (cr UV):=scI
theorem GK:Zr ["hall","forest","belt","row","tree","to_giver","to_taker","shared","back"] ["hall","forest","belt"] (cr zQ):=scI
theorem pU:Zr ["hall","forest","rates","belt","change"] ["hall"] (cr zR):=scI
theorem zY:Zr ["hall","rates"] ["hall"] (cr zS):=scI
theorem pV:Zr ["kept","turns","places","number","work","member"] ["kept","turns"] (cr zT):=scI
theorem rN:Zr ["self","hall","group","turns","names","first"] ["self","hall","group"] (cr rE):=scI
theorem gZ:Zr ["_law_script","_law_first","_law_many","_law_rates","_law_names_here","_law_belts","_law_k","_law_group","_law_due","_law_hall","_law_refused","_law_joint","e","_law_found"] ["_law_script"] (cr uL):=scI
set_option genInjectivity false
set_option genSizeOf false
set_option genSizeOfSpec false
set_option genInjectivity false in
set_option genSizeOf false in
structure Tp(K:Frag)(mg:Str→Option Value) where
 {m:Addr}
 ak:mg "Hall" =some (.ref m)
 a:Cls K m
 e:W0 K m ["numbers","rows"]
 {b:Addr}
 al:mg "Course" =some (.ref b)
 q:Cls K b
 z:W0 K b ["turns","rows","takes","gives","touched"]
 {c:Addr}
 ay:mg "Joint" =some (.ref c)
 k:Cls K c
 w:W0 K c ["inner_row","kept","joined","called","rows"]
 x0:Dn K mg "_law_cell_at" "_law_cell_at" zf ["_law_script","_law_k"]
 x1:Dn K mg "_law_names" "_law_names" zg ["_law_cell","_law_many"]
 x2:Dn K mg "_law_common" "_law_common" zh ["_law_one","_law_other"]
 x3:Dn K mg "_law_least" "_law_least" zi ["_law_rates","_law_belts"]
 x4:Dn K mg "_law_group_by" "_law_group_by" ux ["_law_cell","_law_many"]
 x5:Dn K mg "_law_turned" "_law_turned" zj ["_law_belts","_law_lying","_law_work"]
 x6:Dn K mg "_law_ready" "_law_ready" zk ["_law_belts","_law_lying","_law_work"]
 x7:Dn K mg "_law_inner" "_law_inner" nS ["_law_belts","_law_rates","_law_group"]
 x8:Dn K mg "is_name" "is_name" uy ["thing"]
 x9:Dm K m "work" "Hall.work" zl ["self","name"]
 aN:Dn K mg "is_whole" "is_whole" zm ["thing"]
 am:Dn K mg "is_from" "is_from" zn ["thing","least"]
 aO:Dn K mg "need_start" "need_start" zo ["start"]
 az:Dn K mg "is_number_below" "is_number_below" zp ["thing","bound"]
 ac:Dm K m "need_work" "Hall.need_work" zq ["self","work"]
 aG:Dm K m "lay" "Hall.lay" zr ["self","row"]
 {B:Addr}
 {C:FuncData}
 {an:Addr}
 {ad:Tok}
 O:Zd3 K m "belt" B
 P:Zis K "belt" "Hall.belt" zt an B C
 O_:∃eO dO n sl,K.lookup an=some ⟨eO,dO,.seq #[.int 0 ad] n,sl⟩
 Q:Wz K C ["self","giver","taker","give","take","start"] []
 Pa:Wz K C ["self","giver","taker","give","take","start"] [.int 0 ad]
 Pb:cH [.int 0] [.int 0 ad]
 aH:Di K m "Hall.__init__" zu ["self"]
 aP:Dn K mg "_law_made" "_law_made" zv ["_law_names_here","_law_belts"]
 aQ:Dn K mg "_law_belt_by" "_law_belt_by" zw ["_law_cell","_law_rates","_law_top","_law_ample"]
 aR:Dn K mg "_law_wholes" "_law_wholes" zx ["_law_found"]
 aI:Dm K c "inner" "Joint.inner" zy ["self"]
 aS:Dm K c "unfolded" "Joint.unfolded" zz ["self","row"]
 aT:Dn K mg "need_group" "need_group" zA ["hall","group"]
 aA:Dn K mg "divisor" "divisor" zB ["one","other"]
 aU:Dn K mg "turns_of" "turns_of" zC ["rates","members"]
 aV:Dn K mg "hall_of" "hall_of" zD ["names","rows"]
 aq:Dm K m "names" "Hall.names" zE ["self"]
 Y:Dm K m "belts" "Hall.belts" zF ["self"]
 aW:Dn K mg "inner_hall" "inner_hall" uz ["hall","members"]
 aX:Dn K mg "starts_of" "starts_of" uA ["hall"]
 aJ:Dn K mg "enough" "enough" uB ["heaps","takes"]
 aY:Dm K b "row_from" "Course.row_from" uC ["self","starts"]
 aZ:Dm K m "entering" "Hall.entering" uD ["self","work"]
 a0:Dm K m "need_belt" "Hall.need_belt" zG ["self","belt"]
 ar:Dm K m "belt_at" "Hall.belt_at" zH ["self","belt"]
 a1:Dn K mg "takes_of" "takes_of" uE ["hall","work"]
 aK:Dm K m "leaving" "Hall.leaving" uF ["self","work"]
 a2:Dn K mg "gives_of" "gives_of" uG ["hall","work"]
 a3:Dn K mg "touched_by" "touched_by" uH ["hall","work"]
 a4:Di K b "Course.__init__" pR ["self","hall","turns"]
 a5:Dn K mg "inner_row_of" "inner_row_of" uI ["hall","turns"]
 a6:Dn K mg "joined_rows" "joined_rows" zI ["hall","turns","places"]
 a7:Dn K mg "ways_of" "ways_of" uJ ["hall"]
 a8:Dn K mg "tree_from" "tree_from" zJ ["ways","first"]
 a9:Dn K mg "forest_of" "forest_of" zK ["hall"]
 aB:Dn K mg "ratio" "ratio" zL ["top","bottom"]
 ba:Dn K mg "times" "times" zM ["one","other"]
 bb:Dn K mg "gain" "gain" zN ["row","along"]
 bc:Dn K mg "shares_of" "shares_of" zO ["hall","tree"]
 bd:Dn K mg "multiple" "multiple" zP ["one","other"]
 be:Dn K mg "rates_by" "rates_by" uK ["hall","forest"]
 bf:Dn K mg "change_of" "change_of" UV ["hall","counts"]
 bm:Dn K mg "way_to" "way_to" Gf ["tree","work"]
 Pd:Dn K mg "shared_steps" "shared_steps" Gg ["one","other"]
 bg:Dn K mg "ring_through" "ring_through" zQ ["hall","forest","belt"]
 bh:Dn K mg "rates_of" "rates_of" zR ["hall"]
 bi:Dn K mg "round_rates" "round_rates" zS ["hall"]
 bj:Dn K mg "places_of" "places_of" zT ["kept","turns"]
 bk:Di K c "Joint.__init__" rE ["self","hall","group"]
 aL:Dn K mg "law" "law" uL ["_law_script"]
 G:mg "ValueError" =none
 aD:mg "all" =none
 au:mg "bool" =none
 i:mg "enumerate" =none
 aE:mg "int" =none
 g:mg "isinstance" =none
 f:mg "len" =none
 j:mg "list" =none
 ai:mg "min" =none
 h:mg "range" =none
 Z:mg "reversed" =none
 aF:mg "set" =none
 F:mg "sorted" =none
 bl:mg "str" =none
 aj:mg "sum" =none
 {R:Addr}
 S:Ex K mg "RateError" R
 {av:Addr}
 T:Ex K mg "NoName" av
 {aC:Addr}
 ab:Ex K mg "Twice" aC
 {H:Addr}
 r:Ex K mg "TooMuch" H
 {p:Addr}
 x:Ex K mg "NoWork" p
 {U:Addr}
 V:Ex K mg "NoBelt" U
 {X:Addr}
 y:Ex K mg "NoRate" X
 {GL:Addr}
 u:Ex K mg "NotBalanced" GL
 {A:Addr}
 I:Ex K mg "TooLong" A
 {l:Addr}
 N:Ex K mg "Stuck" l
 D:exmOne K (.ref l) (.ref l)=some true
 aw:Vw K l
 t:PySem.W.kitOne K (.ref l) (.ref R)=some true
 o:PySem.W.kitOne K (.ref l) (.type "ValueError")=some true
 {aa:Tok}
 E:mg "MOST_LETTERS" =some (.int 8 aa)
 {GN:Tok}
 J:mg "MOST_WORKS" =some (.int 30 GN)
 {GO:Tok}
 L:mg "MOST_BELTS" =some (.int 60 GO)
 {GP:Tok}
 M:mg "MOST_TURNS" =some (.int 400 GP)
 aM:∀(s:Shared)(v:Value),BindsTo s aL.d ⟨[v],[]⟩ [("_law_script",v)]
set_option genInjectivity true
set_option genSizeOf true
set_option genSizeOfSpec true
theorem zZ{a b:Int}(bB:0≤a)(ao:0<b):My.G b (a % b)=My.G a b:=by
 rw[←qaG _ (Int.le_of_lt ao)];exact My.Zm7 bB ao
theorem ZoU{k:Nat}{x:Int}(h:My.S k x):Builtin.Int.intBits x≤2048*2 ^ k:=by
 unfold Builtin.Int.intBits
 split
 ·exact Q5 _
 ·rename_i hz;have cw:x.natAbs≠0:=by
   intro e;apply hz;have:x=0:=by omega
   rw[this]
   rfl
  have e:x.natAbs=x.toNat:=by have:=h.lo;omega
  have:=(qaX cw).mpr (by rw[e];exact h.hi);omega
theorem ZoT{k:Nat}{x:Int}(h:My.S k x)(bp:k≤2):x.natAbs.log2<9000:=by
 by_cases cw:x.natAbs=0
 ·rw[cw];decide+kernel
 ·have e:x.natAbs=x.toNat:=by have:=h.lo;omega
  have l:=(qaX cw).mpr (by rw[e];exact(h.mono bp).hi);omega
def Zlc(K:Frag):Sp:=λvs H Q _=>∃(a:Addr)(ns:List Int),vs=[.ref a]∧SqL K H a (ns.map V.int)∧ns.length≤63∧∀ae,Q (.bl true) ae
def GQ{K:Frag}{mg:Str→Option Value}(T:Tp K mg):Sp:=Zlc K
noncomputable def gJ (x:Str):Bool:=decide (1≤x.length)&&decide (x.length≤8)&&x.cps.toList.all λc=>decide (97≤c)&&decide (c≤122)
structure B5 where
 giver:Int
 taker:Int
 give:Int
 take:Int
 start:Int
noncomputable def B5.v (b:B5):List V:=[.int b.giver,.int b.taker,.int b.give,.int b.take,.int b.start]
structure HM where
 names:List Str
 belts:List B5
noncomputable def d5 (H:Hp):List V→List B5→Prop:=Paired λv b=>∃t,v= .ref t∧H t=some (.tup b.v)
noncomputable def numsOf (ns:List Str):List (Key×V):=ns.zipIdx.map λp=>(Sum.inr p.1,V.int p.2)
theorem Uh(ns:List Str):(numsOf ns).length=ns.length:=by unfold numsOf;simp
theorem GR(ns:List Str)(x:Str):numsOf (ns++ [x])=numsOf ns++ [(Sum.inr x,.int ns.length)]:=by
 unfold numsOf;rw[List.zipIdx_append];simp
theorem Zch(ns:List Str):((numsOf ns).map λkv=>kV kv.1)=ns.map V.str:=by
 unfold numsOf;rw[Rt];have:((λkv:Key×V=>kV kv.1)∘λp:Str×Nat=>((Sum.inr p.1:Key),V.int p.2))=(V.str∘λp:Str×Nat=>p.1):=rfl;rw[this,←Rt,List.zipIdx_map_fst]
theorem Zd8(ns:List Str)(x:Str):(valV (numsOf ns) (Sum.inr x)).isSome=decide (x∈ns):=by
 rw[←WW];rw[R9,qau,decide_eq_true_eq];have e:x∈ns↔V.str x∈ns.map V.str:=by
  constructor
  ·exact List.mem_map_of_mem
  ·intro h;obtain⟨y,bP,e⟩:=Q3.mp h;cases e;exact bP
 rw[e,←Zch,Q3]
 constructor
 ·rintro⟨p,bz,h⟩;exact⟨p,bz,by rw[of_decide_eq_true h];rfl⟩
 ·rintro⟨p,bz,h⟩;exact⟨p,bz,decide_eq_true (DU h)⟩
theorem GS{ns:List Str}{x:Str}(h:x∉ns):valV (numsOf ns) (Sum.inr x)=none:=by
 have:=Zd8 ns x;rw[decide_eq_false h] at this;cases e:valV (numsOf ns) (Sum.inr x) with
 |none=>rfl
 |some v=>rw[e] at this;cases this
theorem GU{ns:List Str}{x:Str}(h:x∉ns):ec (numsOf ns) (Sum.inr x) (.int ns.length)=numsOf (ns++ [x]):=by
 rw[Zau _ (GS h),GR]
def c8{K:Frag}{mg:Str→Option Value}(T:Tp K mg)(H:Hp)(p:Addr)(ag:HM)(fp:List Addr):Prop:=
 ∃(bu a b:Addr)(bs:List V),fp=[p,bu,a,b]∧H p=some (.ins T.m bu [("numbers",.ref a),("rows",.ref b)])∧H bu=some (.own p)∧H a=some (.dK (numsOf ag.names))∧H b=some (.lst bs)∧a≠b∧d5 H bs ag.belts
theorem d5.keep{H ae:Hp}(t:∀b xs,H b=some (.tup xs)→ae b=some (.tup xs)):∀{bs:List V}{ls:List B5},d5 H bs ls→d5 ae bs ls
 |_,_,.nil=> .nil
 |_,_,.cons ⟨a,e,h⟩ r=> .cons ⟨a,e,t _ _ h⟩ (d5.keep t r)
theorem d5.length{H:Hp}{bs:List V}{ls:List B5}(h:d5 H bs ls):bs.length=ls.length:=Paired.length h
theorem d5.snoc{H:Hp}:∀{bs:List V}{ls:List B5}{t:Addr}{b:B5},d5 H bs ls→H t=some (.tup b.v)→d5 H (bs++ [.ref t]) (ls++ [b])
 |_,_,_,_,.nil,h=> .cons ⟨_,rfl,h⟩ .nil
 |_,_,_,_,.cons x r,h=> .cons x (d5.snoc r h)
theorem d5.at{H:Hp}:∀{bs:List V}{ls:List B5}{i:Nat}{b:B5},d5 H bs ls→ls[i]? =some b→∃t,bs[i]? =some (.ref t)∧H t=some (.tup b.v)
 |_,_,_,_,.nil,e=>by simp at e
 |_,_,0,_,.cons ⟨t,bD,h⟩ _,e=>by simp at e;subst e;exact⟨t,by simp[bD],h⟩
 |_,_,i+1,b,.cons _ r,e=>by
  obtain⟨t,ap,a'⟩:=d5.at (i:=i) (b:=b) r (by simpa using e);exact⟨t,by simpa using ap,a'⟩
section
variable {K:Frag}{mg:Str→Option Value}{T:Tp K mg}{H ae:Hp}{p:Addr}{ag:HM}{fp:List Addr}
theorem c8.dom(h:c8 T H p ag fp):∀x∈fp,H x≠none:=by
 obtain⟨bu,a,b,bs,rfl,ap,a',bU,cD,_⟩:=h;intro x a_;simp only[QW,Ru,or_false] at a_;rcases a_ with rfl|rfl|rfl|rfl
 ·rw[ap];simp
 ·rw[a'];simp
 ·rw[bU];simp
 ·rw[cD];simp
theorem c8.keep(h:c8 T H p ag fp)(k:∀x∈fp,ae x=H x)(t:∀b xs,H b=some (.tup xs)→ae b=some (.tup xs)):c8 T ae p ag fp:=by
 obtain⟨bu,a,b,bs,rfl,ap,a',bU,cD,dJ,c'⟩:=h;exact⟨bu,a,b,bs,rfl,(k p (by simp)).trans ap,(k bu (by simp)).trans a',(k a (by simp)).trans bU,(k b (by simp)).trans cD,dJ,c'.keep t⟩
theorem c8.off{A:List Addr}(h:c8 T H p ag fp)(f:cX A H ae)(d:∀x∈fp,x∉A):c8 T ae p ag fp:=by
 refine h.keep (λx a_=>?_) f.tups;cases q:H x with
 |none=>exact absurd q (h.dom x a_)
 |some o=>exact f.keep x o q (d x a_)
theorem Zi1{m:Str}{G:Prop}(h:c8 T H p ag fp)(fe:(m== "numbers")=false)(fY:(m== "rows")=false)(q:G):∃a bu fs,V.ref p= .ref a∧H a=some (.ins T.m bu fs)∧fs.lookup m=none∧G:=by
 obtain⟨bu,a,b,bs,rfl,ap,_⟩:=h;exact⟨p,bu,_,rfl,ap,Rd.lk1 fe (Rd.lk1 fY Rd.lkN),q⟩
theorem c8.same(h:c8 T H p ag fp)(e:Ze H ae):c8 T ae p ag fp:=h.off (A:=[]) e.frame (by simp)
end
noncomputable def dB:B5:=⟨0,0,0,0,0⟩
noncomputable def eh (ls:List B5) (w:Int):List Nat:=(List.range ls.length).filter λi=>decide ((ls.getD i dB).taker=w)
noncomputable def dH (ls:List B5) (w:Int):List Nat:=(List.range ls.length).filter λi=>decide ((ls.getD i dB).giver=w)
theorem d5.getD{H:Hp}{bs:List V}{ls:List B5}{i:Nat}(h:d5 H bs ls)(hi:i<ls.length):∃t,bs.getD i .non= .ref t∧H t=some (.tup (ls.getD i dB).v):=by
 obtain⟨t,ap,a'⟩:=h.at (QN hi);exact⟨t,by simp[List.getD,ap],by simpa[List.getD,hi] using a'⟩
theorem uQ{n:Nat}(h:n≤10000):n<sizeLine:=Rp h (by decide)
noncomputable def mI (ls:List B5) (i:Nat) (w:Int):List Fo.Trip:=(if(ls.getD i dB).giver=w then[((ls.getD i dB).taker,(i:Int),true)] else[])++(if(ls.getD i dB).taker=w then[((ls.getD i dB).giver,(i:Int),false)] else[])
noncomputable def jr (ls:List B5) (k:Nat) (w:Int):List Fo.Trip:=(List.range k).flatMap λi=>mI ls i w
noncomputable def e3 (ls:List B5):Int→List Fo.Trip:=jr ls ls.length
theorem Zgn(ls:List B5)(k:Nat)(w:Int):jr ls (k+1) w=jr ls k w++mI ls k w:=by
 unfold jr;rw[qaa,List.flatMap_append];simp
theorem pW{cJ:Type}{xs:List cJ}(nd:xs.Nodup){i j:Nat}(hi:i<xs.length)(bw:j<xs.length)(e:xs[i]=xs[j]):i=j:=by
 rcases Nat.lt_trichotomy i j with h|h|h
 ·exact absurd e (RQ.mp nd i j hi bw h)
 ·exact h
 ·exact absurd e.symm (RQ.mp nd j i bw hi h)
theorem ev{H ae:Hp}{x:Addr}(s:Ze H ae)(h:ae x=none):H x=none:=by
 cases e:H x with
 |none=>rfl
 |some o=>rw[s _ _ e] at h;cases h
theorem eS{cJ:Type}{xs:List cJ}{i:Nat}{d:cJ}(h:i<xs.length):xs.getD i d=xs[i]:=by simp[List.getD,h]
theorem VO{ls:List B5}{w:Int}{t:Fo.Trip}(h:t∈e3 ls w):∃(i:Nat)(hi:i<ls.length),t∈mI ls i w:=by
 unfold e3 jr at h;obtain⟨i,hi,b3⟩:=List.mem_flatMap.mp h;exact⟨i,Rc.mp hi,b3⟩
theorem nV{ls:List B5}{w:Int}{t:Fo.Trip}{i:Nat}(hi:i<ls.length)(h:t∈mI ls i w):t∈e3 ls w:=by
 unfold e3 jr;exact List.mem_flatMap.mpr ⟨i,Rc.mpr hi,h⟩
theorem YQ{ls:List B5}{i:Nat}{w:Int}{t:Fo.Trip}:t∈mI ls i w↔((ls.getD i dB).giver=w∧t=((ls.getD i dB).taker,(i:Int),true))∨((ls.getD i dB).taker=w∧t=((ls.getD i dB).giver,(i:Int),false)):=by
 unfold mI;rw[Rk]
 by_cases ap:(ls.getD i dB).giver=w<;>by_cases a':(ls.getD i dB).taker=w<;>simp[ap,a']
theorem rO(ls:List B5):Fo.ZkM (e3 ls):=by
 intro a b t al h;obtain⟨i,hi,b3⟩:=VO h;refine nV hi ?_;rw[YQ] at b3⊢;rcases b3 with⟨ap,a'⟩|⟨ap,a'⟩
 ·injection a' with bD bI
  injection bI with bI c6
  exact .inr ⟨bD.symm,by rw[←ap,bI,c6];rfl⟩
 ·injection a' with bD bI
  injection bI with bI c6
  exact .inl ⟨bD.symm,by rw[←ap,bI,c6];rfl⟩
def ZN(ls:List B5)(n:Nat):Prop:=∀b∈ls,0≤b.giver∧b.giver<(n:Int)∧0≤b.taker∧b.taker<(n:Int)
theorem ZN.at{ls:List B5}{n i:Nat}(h:ZN ls n)(hi:i<ls.length):0≤(ls.getD i dB).giver∧(ls.getD i dB).giver<(n:Int)∧0≤(ls.getD i dB).taker∧(ls.getD i dB).taker<(n:Int):=by
 rw[eS hi];exact h _ (QO hi)
theorem nW{ls:List B5}{n:Nat}(h:ZN ls n):∀a,∀t∈e3 ls a,0≤t.1∧t.1<(n:Int):=by
 intro a t b3;obtain⟨i,hi,bv⟩:=VO b3;have:=h.at hi;rw[YQ] at bv;rcases bv with⟨_,rfl⟩|⟨_,rfl⟩<;>(dsimp only;omega)
noncomputable def h2 (H:Hp):List Fo.Trip→List V→Prop:=Paired λx v=>∃t,v= .ref t∧H t=some (.tup [.int x.1,.int x.2.1,.bl x.2.2])
theorem h2.keep{H ae:Hp}(t:∀b xs,H b=some (.tup xs)→ae b=some (.tup xs)){vs:List V}{l:List Fo.Trip}(h:h2 H l vs):h2 ae l vs:=Paired.mapP h λ_ _ ⟨a,e,z⟩=>⟨a,e,t _ _ z⟩
theorem h2.snoc{H:Hp}:∀{l:List Fo.Trip}{vs:List V}{x:Fo.Trip}{t:Addr},h2 H l vs→H t=some (.tup [.int x.1,.int x.2.1,.bl x.2.2])→h2 H (l++ [x]) (vs++ [.ref t])
 |_,_,_,_,.nil,h=> .cons ⟨_,rfl,h⟩ .nil
 |_,_,_,_,.cons y r,h=> .cons y (h2.snoc r h)
theorem h2.length{H:Hp}{l:List Fo.Trip}{vs:List V}(h:h2 H l vs):l.length=vs.length:=Paired.length h
theorem h2.at{H:Hp}:∀{l:List Fo.Trip}{vs:List V}{i:Nat}{x:Fo.Trip},h2 H l vs→l[i]? =some x→∃t,vs[i]? =some (.ref t)∧H t=some (.tup [.int x.1,.int x.2.1,.bl x.2.2])
 |_,_,_,_,.nil,e=>by simp at e
 |_,_,0,_,.cons ⟨t,bD,h⟩ _,e=>by simp at e;subst e;exact⟨t,by simp[bD],h⟩
 |_,_,i+1,b,.cons _ r,e=>by
  obtain⟨t,ap,a'⟩:=h2.at (i:=i) (x:=b) r (by simpa using e);exact⟨t,by simpa using ap,a'⟩
def WA(H:Hp)(ck:List Addr)(W:Int→List Fo.Trip):Prop:=∀(j:Nat)(h:j<ck.length),∃vs,H ck[j]=some (.lst vs)∧h2 H (W (j:Int)) vs
theorem WA.same{H ae:Hp}{ck:List Addr}{W:Int→List Fo.Trip}(h:WA H ck W)(s:Ze H ae):WA ae ck W:=λj bw=>by
 obtain⟨vs,ap,a'⟩:=h j bw;exact⟨vs,s _ _ ap,a'.keep λ_ _ e=>s _ _ e⟩
theorem WA.add{H:Hp}{ck:List Addr}{W:Int→List Fo.Trip}(h:WA H ck W)(nd:ck.Nodup){g:Nat}(bF:g<ck.length){vs:List V}(b8:H ck[g]=some (.lst vs))(b3:h2 H (W (g:Int)) vs){t:Addr}{x:Fo.Trip}(GV:H t=some (.tup [.int x.1,.int x.2.1,.bl x.2.2])):
  WA (upd H ck[g] (.lst (vs++ [.ref t]))) ck (λj=>W j++(if(g:Int)=j then[x] else[])):=by
 have fD:∀b xs,H b=some (.tup xs)→(upd H ck[g] (.lst (vs++ [.ref t]))) b=some (.tup xs):=λb xs e=>by rw[bW (fc e b8 (by intro z;cases z))];exact e
 intro j bw
 by_cases e:j=g
 ·subst e;refine⟨vs++ [.ref t],Zd,?_⟩;dsimp only;rw[if_pos rfl];exact(b3.keep fD).snoc (fD _ _ GV)
 ·obtain⟨us,ap,a'⟩:=h j bw;have ne:ck[j]≠ck[g]:=λz=>e (pW nd bw bF z);refine⟨us,by rw[bW ne];exact ap,?_⟩;dsimp only;rw[if_neg (by omega),qaB];exact a'.keep fD
structure ZbC(H:Hp)(r:Addr)(ck:List Addr)(n:Nat)(W:Int→List Fo.Trip):Prop where
 at_:H r=some (.lst (ck.map V.ref))
 len:ck.length=n
 nd:ck.Nodup
 wa:WA H ck W
theorem ZbC.same{H ae:Hp}{r:Addr}{ck:List Addr}{n:Nat}{W:Int→List Fo.Trip}(h:ZbC H r ck n W)(s:Ze H ae):ZbC ae r ck n W:=⟨s _ _ h.at_,h.len,h.nd,h.wa.same s⟩
theorem ZdW{ck:List Addr}{g:Int}(cw:0≤g)(ap:g.toNat<ck.length):atI (ck.map V.ref) g=some (.ref ck[g.toNat]):=by
 have:=gj (xs:=ck.map V.ref) (j:=g.toNat) (v:= .ref ck[g.toNat]) (by simp[ap])
 rwa [Rs cw] at this
noncomputable def nX (H:Hp) (v:V):Option Fo.Trip→Prop
 |none=>v= .non
 |some (p,b,al)=>∃t,v= .ref t∧H t=some (.tup [.int p,.int b,.bl al])
theorem nX.keep{H ae:Hp}(t:∀b xs,H b=some (.tup xs)→ae b=some (.tup xs)){v:V}:∀{s:Option Fo.Trip},nX H v s→nX ae v s
 |none,h=>h
 |some (_,_,_),⟨a,e,z⟩=>⟨a,e,t _ _ z⟩
noncomputable def Ent (H:Hp):List (Key×V)→Fo.ZP→Prop:=Paired λkv x=>kv.1=Sum.inl x.1∧nX H kv.2 x.2
theorem Ent.keep{H ae:Hp}(t:∀b xs,H b=some (.tup xs)→ae b=some (.tup xs)){kvs:List (Key×V)}{bL:Fo.ZP}(h:Ent H kvs bL):Ent ae kvs bL:=Paired.mapP h λ_ _ ⟨a,z⟩=>⟨a,z.keep t⟩
theorem Ent.snoc{H:Hp}:∀{kvs:List (Key×V)}{bL:Fo.ZP}{w:Int}{v:V}{s:Option Fo.Trip},Ent H kvs bL→nX H v s→Ent H (kvs++ [(Sum.inl w,v)]) (bL++ [(w,s)])
 |_,_,_,_,_,.nil,h=> .cons ⟨rfl,h⟩ .nil
 |_,_,_,_,_,.cons y r,h=> .cons y (Ent.snoc r h)
theorem Ent.length{H:Hp}{kvs:List (Key×V)}{bL:Fo.ZP}(h:Ent H kvs bL):kvs.length=bL.length:=Paired.length h
theorem Ent.keys{H:Hp}:∀{kvs:List (Key×V)}{bL:Fo.ZP},Ent H kvs bL→kvs.map (·.1)=(Fo.keys bL).map Sum.inl
 |_,_,.nil=>rfl
 |_,_,.cons ⟨a,_⟩ r=>by
  have:=Ent.keys r;unfold Fo.keys at this⊢;rw[List.map_cons,List.map_cons,List.map_cons,a,this]
theorem Ent.some{H:Hp}:∀{kvs:List (Key×V)}{bL:Fo.ZP}{w:Int},Ent H kvs bL→((valV kvs (Sum.inl w)).isSome=true↔w∈Fo.keys bL):=by
 intro kvs bL w h;rw[←WW,qau];have bp:=h.keys
 constructor
 ·rintro⟨kv,bv,e⟩;have bD:kv.1=Sum.inl w:=of_decide_eq_true e;have:kv.1∈kvs.map (·.1):=List.mem_map_of_mem bv;rw[bp,bD] at this;obtain⟨dP,mJ,bI⟩:=Q3.mp this;cases bI;exact mJ
 ·intro hw;have:(Sum.inl w:Key)∈(Fo.keys bL).map Sum.inl:=List.mem_map_of_mem hw;rw[←bp] at this;obtain⟨kv,bv,e⟩:=Q3.mp this;exact⟨kv,bv,decide_eq_true e⟩
def Va(H:Hp)(d:Addr)(bL:Fo.ZP):Prop:=∃kvs,H d=some (.dK kvs)∧Ent H kvs bL
theorem Va.same{H ae:Hp}{d:Addr}{bL:Fo.ZP}(h:Va H d bL)(s:Ze H ae):Va ae d bL:=by
 obtain⟨kvs,ap,a'⟩:=h;exact⟨kvs,s _ _ ap,a'.keep λ_ _ e=>s _ _ e⟩
theorem z0:∀(more kvs:List (Key×V))(k:Key),(valV (fM kvs more) k).isSome=((valV kvs k).isSome||(valV more k).isSome)
 | [],kvs,k=>by
  show(valV kvs k).isSome=((valV kvs k).isSome||(valV ([]:List (Key×V)) k).isSome);have:valV ([]:List (Key×V)) k=none:=rfl;rw[this,Option.isSome_none,Bool.or_false]
 |(j,v)::r,kvs,k=>by
  show(valV (fM (ec kvs j v) r) k).isSome=_;rw[z0 r (ec kvs j v) k,o6]
  by_cases e:j=k
  ·subst e;rw[if_pos rfl,ip rfl];simp
  ·rw[if_neg (λz=>e z.symm),iq e]
theorem Paired.get'{cJ fX:Type}{P:cJ→fX→Prop}:∀{xs:List cJ}{ys:List fX}{i:Nat}{x:cJ},Paired P xs ys→xs[i]? =some x→∃y,ys[i]? =some y∧P x y
 |_,_,_,_,.nil,e=>by simp at e
 |_,_,0,_,.cons h _,e=>by simp at e;subst e;exact⟨_,rfl,h⟩
 |_,_,i+1,x,.cons _ r,e=>by
  obtain⟨y,ap,a'⟩:=Paired.get' (i:=i) (x:=x) r (by simpa using e);exact⟨y,by simpa using ap,a'⟩
noncomputable def gK (H:Hp):List Addr→List (Int×Fo.ZP)→Prop:=Paired λd x=>Va H d x.2
theorem gK.same{H ae:Hp}{cd:List Addr}{F:List (Int×Fo.ZP)}(h:gK H cd F)(s:Ze H ae):gK ae cd F:=Paired.mapP h λ_ _ z=>z.same s
theorem gK.snoc{H:Hp}:∀{cd:List Addr}{F:List (Int×Fo.ZP)}{d:Addr}{x:Int×Fo.ZP},gK H cd F→Va H d x.2→gK H (cd++ [d]) (F++ [x])
 |_,_,_,_,.nil,h=> .cons h .nil
 |_,_,_,_,.cons y r,h=> .cons y (gK.snoc r h)
theorem gK.keep{H ae:Hp}(t:∀b xs,H b=some (.tup xs)→ae b=some (.tup xs)):∀{cd:List Addr}{F:List (Int×Fo.ZP)},gK H cd F→(∀d∈cd,∀kvs,H d=some (.dK kvs)→ae d=some (.dK kvs))→gK ae cd F
 |_,_,.nil,_=> .nil
 |_,_,.cons ⟨kvs,ap,a'⟩ r,k=> .cons ⟨kvs,k _ (by simp) _ ap,a'.keep t⟩ (gK.keep t r λd hd=>k d (Q7 _ hd))
theorem gK.length{H:Hp}{cd:List Addr}{F:List (Int×Fo.ZP)}(h:gK H cd F):cd.length=F.length:=Paired.length h
structure Zkn(H:Hp)(f:Addr)(cd:List Addr)(F:List (Int×Fo.ZP)):Prop where
 at_:H f=some (.lst (cd.map V.ref))
 trees:gK H cd F
theorem Vp{ns:List Int}{k:Int}(cw:0≤k)(ap:k<ns.length):atI (ns.map V.int) k=some (.int (ns.getD k.toNat 0)):=by
 obtain⟨n,rfl⟩:=Ri cw;have bG:n<ns.length:=by omega
 refine gj ?_;simp[List.getD,bG]
theorem Zk9{n a:Nat}(h:a<2 ^ n):Builtin.Int.intBits (a:Int)≤n:=by
 unfold Builtin.Int.intBits
 split
 ·exact Q5 _
 ·rename_i hz;have cw:(a:Int).natAbs≠0:=by
   intro e;apply hz;have:(a:Int)=0:=by omega
   rw[this]
   rfl
  have e:(a:Int).natAbs=a:=qaV a;have:=(qaX cw).mpr (by rw[e];exact h);omega
theorem ZdA{n m a b:Nat}(bB:a<2 ^ n)(ao:b<2 ^ m)(h:n+m≤10000000):IntMulOk (a:Int) (b:Int):=by
 have fy:=Zk9 bB;have hV:=Zk9 ao;have k:Builtin.Int.intTooBig ((Builtin.Int.intBits (a:Int):Int)+(Builtin.Int.intBits (b:Int):Int))=false:=by
  unfold Builtin.Int.intTooBig;rw[PySem.bitsLine_eq];exact decide_eq_false (by omega)
 unfold IntMulOk;rw[k];simp
theorem GW{a:Nat}(h:a<2 ^ 8000):(a:Int).natAbs.log2<9000:=by
 rw[qaV]
 by_cases cw:a=0
 ·rw[cw];decide+kernel
 ·have:=(qaX cw).mpr h;omega
theorem ZjN{a b:Nat}(ao:0<b)(h:b<2 ^ 8000):0<(b:Int)∧(b:Int).natAbs.log2<9000:=⟨by omega,GW h⟩
theorem pX{a b n m:Nat}(bB:a<2 ^ n)(ao:b<2 ^ m):a*b<2 ^ (n+m):=by
 rw[Nat.pow_add];exact Nat.mul_lt_mul'' bB ao
def Bal(B:B5)(al:Bool)(x y:Nat×Nat):Prop:=if al=true then x.1*y.2*B.take.toNat=y.1*x.2*B.give.toNat else x.1*y.2*B.give.toNat=y.1*x.2*B.take.toNat
structure iz(ls:List B5)(bL:Fo.ZP)(zs:List (Int×(Nat×Nat)))(d:Nat):Prop where
 keys:zs.map (·.1)=(Fo.keys bL).take d
 pos:∀x∈zs,0<x.2.1∧0<x.2.2∧Nat.gcd x.2.1 x.2.2=1
 size:∀(i:Nat) x,zs[i]? =some x→x.2.1<2 ^ (110*i+1)∧x.2.2<2 ^ (110*i+1)
 first:∀(i:Nat)(w:Int),i<d→bL[i]? =some (w,none)→zs[i]? =some (w,(1,1))
 step:∀(i:Nat)(w p b:Int)(al:Bool),i<d→bL[i]? =some (w,some (p,b,al))→∃(j:Nat)(x y:Nat×Nat),j<i∧zs[i]? =some (w,x)∧zs[j]? =some (p,y)∧Bal (ls.getD b.toNat dB) al x y
theorem GX{ls:List B5}{bL:Fo.ZP}:iz ls bL [] 0:=⟨rfl,by simp,by simp,λi w h=>absurd h (RX _),λi w p b al h=>absurd h (RX _)⟩
theorem iz.len{ls:List B5}{bL:Fo.ZP}{zs:List (Int×(Nat×Nat))}{d:Nat}(h:iz ls bL zs d)(hd:d≤bL.length):zs.length=d:=by
 have:=congrArg List.length h.keys;rw[QM,FM] at this;simp[Fo.keys] at this;omega
theorem ZjY{cJ:Type}{zs:List cJ}{x y:cJ}{i:Nat}(h:(zs++ [x])[i]? =some y):zs[i]? =some y∨(i=zs.length∧y=x):=by
 rcases qap i zs.length with c|c
 ·rw[Ry c] at h;exact .inl h
 ·rw[Rw c] at h;have:i-zs.length=0:=by
   rcases RK (i-zs.length) with z|z
   ·exact z
   ·rw[Rn (by simp;omega)] at h;cases h
  rw[this] at h;simp at h;exact .inr ⟨by omega,h.symm⟩
theorem rP{cJ:Type}{zs:List cJ}{x y:cJ}{i:Nat}(h:zs[i]? =some y):(zs++ [x])[i]? =some y:=by
 rw[Ry (QP.mp h).1];exact h
theorem Zdo{cJ:Type}{zs:List cJ}{x:cJ}:(zs++ [x])[zs.length]? =some x:=by rw[Rw (QQ _),Nat.sub_self];rfl
theorem iz.more{ls:List B5}{bL:Fo.ZP}{zs:List (Int×(Nat×Nat))}{d:Nat}(h:iz ls bL zs d)(hd:d<bL.length){w:Int}{st:Option Fo.Trip}(e:bL[d]? =some (w,st)){x:Nat×Nat}(bz:0<x.1∧0<x.2∧Nat.gcd x.1 x.2=1)(hs:x.1<2 ^ (110*d+1)∧x.2<2 ^ (110*d+1))
  (bG:st=none→x=(1,1)) (fw:∀p b al,st=some (p,b,al)→∃(j:Nat)(y:Nat×Nat),zs[j]? =some (p,y)∧Bal (ls.getD b.toNat dB) al x y):iz ls bL (zs++ [(w,x)]) (d+1):=by
 have ag:=h.len (RW hd);have bp:(Fo.keys bL)[d]? =some w:=by unfold Fo.keys;rw[QX,e];rfl
 refine⟨?_,λy bP=>?_,λi y bP=>?_,λi dP hi b6=>?_,λi dP p b al hi b6=>?_⟩
 ·rw[Rv,h.keys,List.take_succ,bp];rfl
 ·rcases Rk.mp bP with z|z
  ·exact h.pos y z
  ·rw[QS.mp z];exact bz
 ·rcases ZjY bP with z|⟨fo,ff⟩
  ·exact h.size i y z
  ·rw[ff,fo,ag];exact hs
 ·rcases RH.mp hi with z|z
  ·exact rP (h.first i dP z b6)
  ·subst z;rw[e] at b6;cases b6;rw[bG rfl,←ag];exact Zdo
 ·rcases RH.mp hi with z|z
  ·obtain⟨j,eJ,hj,ap,a',bU,cD⟩:=h.step i dP p b al z b6;exact⟨j,eJ,hj,ap,rP a',rP bU,cD⟩
  ·subst z;rw[e] at b6;cases b6;obtain⟨j,y,ap,a'⟩:=fw p b al rfl;have bw:=(QP.mp ap).1;refine⟨j,x,y,by omega,?_,rP ap,a'⟩;rw[←ag];exact Zdo
noncomputable def ShE (H:Hp):List (Key×V)→List (Int×(Nat×Nat))→Prop:=Paired λkv x=>kv.1=Sum.inl x.1∧∃t,kv.2= .ref t∧H t=some (.tup [.int (x.2.1:Nat),.int (x.2.2:Nat)])
theorem ShE.keep{H ae:Hp}(t:∀b xs,H b=some (.tup xs)→ae b=some (.tup xs)){kvs:List (Key×V)}{zs:List (Int×(Nat×Nat))}(h:ShE H kvs zs):ShE ae kvs zs:=Paired.mapP h λ_ _ ⟨a,c,e,z⟩=>⟨a,c,e,t _ _ z⟩
theorem ShE.snoc{H:Hp}:∀{kvs:List (Key×V)}{zs:List (Int×(Nat×Nat))}{w:Int}{t:Addr}{x:Nat×Nat},ShE H kvs zs→H t=some (.tup [.int (x.1:Nat),.int (x.2:Nat)])→ShE H (kvs++ [(Sum.inl w,.ref t)]) (zs++ [(w,x)])
 |_,_,_,_,_,.nil,h=> .cons ⟨rfl,_,rfl,h⟩ .nil
 |_,_,_,_,_,.cons y r,h=> .cons y (ShE.snoc r h)
theorem ShE.length{H:Hp}{kvs:List (Key×V)}{zs:List (Int×(Nat×Nat))}(h:ShE H kvs zs):kvs.length=zs.length:=Paired.length h
theorem ShE.get{H:Hp}:∀{kvs:List (Key×V)}{zs:List (Int×(Nat×Nat))}{p:Int},ShE H kvs zs→p∈zs.map (·.1)→∃(y:Nat×Nat)(t:Addr),(p,y)∈zs∧valV kvs (Sum.inl p)=some (.ref t)∧H t=some (.tup [.int (y.1:Nat),.int (y.2:Nat)])
 |_,_,_,.nil,h=>by simp at h
 |_,_,p,.cons (a:=kv) (b:=z) ⟨a,t,e,b3⟩ r,h=>by
  obtain⟨k,v⟩:=kv;obtain⟨w,x⟩:=z;dsimp only at a e b3;subst a e
  by_cases c:w=p
  ·subst c;exact⟨x,t,by simp,ip rfl,b3⟩
  ·have h':p∈_:=(QW.mp h).resolve_left (λy=>c y.symm);obtain⟨y,t',ap,a',bU⟩:=ShE.get r h';exact⟨y,t',Q7 _ ap,by rw[iq (λy=>c (qay y))];exact a',bU⟩
theorem ShE.none{H:Hp}{kvs:List (Key×V)}{zs:List (Int×(Nat×Nat))}{p:Int}(h:ShE H kvs zs)(bz:p∉zs.map (·.1)):valV kvs (Sum.inl p)=none:=by
 cases e:valV kvs (Sum.inl p) with
 |none=>rfl
 |some v=>
  exfalso;have:(valV kvs (Sum.inl p)).isSome=true:=by rw[e];rfl
  rw[←WW,qau] at this;obtain⟨kv,bv,bI⟩:=this;obtain⟨i,hi,rfl⟩:=Q4 bv;obtain⟨z,hz,a,_⟩:=Paired.get' h (QN hi);have c6:kvs[i].1=Sum.inl p:=of_decide_eq_true bI;rw[a] at c6;have:z.1=p:=qay c6;exact bz (Q3.mpr ⟨z,Q6 hz,this⟩)
theorem ZhH{y u:Nat×Nat}{x:Nat×Nat}{cQ bT G n:Nat}(lw:0<y.1)(h3:0<y.2)(dC:0<cQ)(fS:0<bT)(hu:u.1=cQ / G)(b8:u.2=bT / G)(kB:G=Nat.gcd cQ bT)(a_:x.1=y.1*u.1 / Nat.gcd (y.1*u.1) (y.2*u.2))(iY:x.2=y.2*u.2 / Nat.gcd (y.1*u.1) (y.2*u.2)):
  (0<x.1∧0<x.2∧Nat.gcd x.1 x.2=1)∧x.1*y.2*bT=y.1*x.2*cQ∧x.1≤y.1*cQ∧x.2≤y.2*bT:=by
 have Pe:0<G:=by rw[kB];exact qah _ dC
 have l1:G ∣ cQ:=by rw[kB];exact R7 _ _
 have h0:G ∣ bT:=by rw[kB];exact RD _ _
 have bD:cQ=u.1*G:=by rw[hu,qan l1]
 have bI:bT=u.2*G:=by rw[b8,qan h0]
 have GY:0<u.1:=by rcases RK u.1 with z|z;rw[z,Nat.zero_mul] at bD;omega;exact z
 have lx:0<u.2:=by rcases RK u.2 with z|z;rw[z,Nat.zero_mul] at bI;omega;exact z
 have uR:0<y.1*u.1:=qa5 lw GY;have GZ:0<y.2*u.2:=qa5 h3 lx;have nY:0<Nat.gcd (y.1*u.1) (y.2*u.2):=qah _ uR;have hb:x.1*Nat.gcd (y.1*u.1) (y.2*u.2)=y.1*u.1:=by rw[a_,qan (R7 _ _)]
 have fQ:x.2*Nat.gcd (y.1*u.1) (y.2*u.2)=y.2*u.2:=by rw[iY,qan (RD _ _)]
 refine⟨⟨?_,?_,?_⟩,?_,?_,?_⟩
 ·rw[a_];exact qa6 (qaf uR (R7 _ _)) nY
 ·rw[iY];exact qa6 (qaf GZ (RD _ _)) nY
 ·rw[a_,iY];exact Nat.gcd_div_gcd_div_gcd_of_pos_left uR
 ·generalize Nat.gcd (y.1*u.1) (y.2*u.2)=g at*;have k:x.1*(y.2*u.2)=(y.1*u.1)*x.2:=by rw[←fQ,←hb,RO x.2 g,Rh]
  calc x.1*y.2*bT=x.1*(y.2*u.2)*G:=by rw[bI];simp only[Rh]
   _=(y.1*u.1)*x.2*G:=by rw[k]
   _=y.1*x.2*cQ:=by rw[bD,qaW y.1 u.1 x.2,Rh (y.1*x.2)]
 ·have ap:x.1≤y.1*u.1:=by rw[a_];exact RF _ _
  have a':u.1≤cQ:=by rw[hu];exact RF _ _
  exact QZ ap (qaN _ a')
 ·have ap:x.2≤y.2*u.2:=by rw[iY];exact RF _ _
  have a':u.2≤bT:=by rw[b8];exact RF _ _
  exact QZ ap (qaN _ a')
theorem Zmf{H:Hp}{kvs:List (Key×V)}{bL:Fo.ZP}{i:Nat}{kv:Key×V}(h:Ent H kvs bL)(e:kvs[i]? =some kv):∃w st,bL[i]? =some (w,st)∧kv.1=Sum.inl w∧nX H kv.2 st:=by
 obtain⟨⟨w,st⟩,ap,a',bU⟩:=Paired.get' h e;exact⟨w,st,ap,a',bU⟩
theorem Zd2{H:Hp}{a:Addr}{u:HO}(h:L2.Rd H a u):H a≠none:=by
 rcases h with h|⟨o,h⟩<;>(rw[h];simp)
theorem pY{H:Hp}{d:Addr}{kvs:List (Key×V)}{o:Obj}(h:L2.Rd H d (.dK kvs)):cX [d] H (upd H d (.frz o (.dK kvs))):=by
 refine⟨λb x e n=>?_,λb xs e=>?_⟩
 ·rw[bW (λz=>n (by simp[z]))];exact e
 ·have:b≠d:=λz=>by
   rw[z] at e;rcases h with h|⟨ci,h⟩<;>(rw[h] at e;cases e)
  rw[bW this];exact e
def Wh(ls:List B5):Prop:=∀i<ls.length,∃cQ bT,0<cQ∧0<bT∧cQ<2 ^ 110∧bT<2 ^ 110∧(ls.getD i dB).give=((cQ:Nat):Int)∧(ls.getD i dB).take=((bT:Nat):Int)
theorem G0{ls:List B5}{n:Nat}{F:List (Int×Fo.ZP)}(ao:ZN ls n)(hw:Fo.W4 (e3 ls) n F n){i j:Nat}{x y:Int×Fo.ZP}(hi:F[i]? =some x)(bw:F[j]? =some y)(ne:i≠j):∀w∈Fo.keys x.2,w∉Fo.keys y.2:=by
 intro w ap a';obtain⟨g1,hb,_,_⟩:=hw.tree x (Q6 hi);obtain⟨g2,fQ,_,_⟩:=hw.tree y (Q6 bw);have a1:=(g1.keys_iff hb w).mp ap;have a2:=(g2.keys_iff fQ w).mp a';have bD:=hw.least x (Q6 hi) y.1 ((g1.keys_iff hb _).mpr (a1.trans (a2.symm (rO ls))));have bI:=hw.least y (Q6 bw) x.1 ((g2.keys_iff fQ _).mpr (a2.trans (a1.symm (rO ls))));obtain⟨dy,hk⟩:=QP.mp hi;obtain⟨fC,jS⟩:=QP.mp bw;rcases Nat.lt_or_gt_of_ne ne with z|z
 ·have:=RQ.mp hw.rise i j dy fC z;rw[hk,jS] at this;omega
 ·have:=RQ.mp hw.rise j i fC dy z;rw[hk,jS] at this;omega
theorem rQ{cJ fX:Type}{P z1:cJ→fX→Prop}:∀{xs:List cJ}{ys:List fX},Paired P xs ys→(∀x y,x∈xs→P x y→z1 x y)→Paired z1 xs ys
 |_,_,.nil,_=> .nil
 |_,_,.cons h r,f=> .cons (f _ _ (by simp) h) (rQ r λx y a_=>f x y (Q7 _ a_))
noncomputable def Y5 (H:Hp):List Addr→List (Int×Fo.ZP)→Prop:=Paired λd x=>∃kvs,L2.Rd H d (.dK kvs)∧Ent H kvs x.2
theorem gK.r{H:Hp}{cd:List Addr}{F:List (Int×Fo.ZP)}(h:gK H cd F):Y5 H cd F:=Paired.mapP h λ_ _ ⟨kvs,a,b⟩=>⟨kvs,.inl a,b⟩
theorem Y5.same{H ae:Hp}{cd:List Addr}{F:List (Int×Fo.ZP)}(h:Y5 H cd F)(s:Ze H ae):Y5 ae cd F:=Paired.mapP h λ_ _ ⟨kvs,a,b⟩=>⟨kvs,a.imp (s _ _) (λ⟨o,z⟩=>⟨o,s _ _ z⟩),b.keep λ_ _ e=>s _ _ e⟩
theorem Y5.length{H:Hp}{cd:List Addr}{F:List (Int×Fo.ZP)}(h:Y5 H cd F):cd.length=F.length:=Paired.length h
theorem Znb{H:Hp}{d:Addr}{k1 k2:List (Key×V)}(ap:L2.Rd H d (.dK k1))(a':L2.Rd H d (.dK k2)):k1=k2:=by
 rcases ap with a|⟨nZ,a⟩<;>rcases a' with b|⟨gs,b⟩<;>(rw[a] at b;cases b)<;>rfl
theorem Y5.frz{H:Hp}{cd:List Addr}{F:List (Int×Fo.ZP)}(h:Y5 H cd F){d:Addr}{kvs:List (Key×V)}{o:Obj}(hd:L2.Rd H d (.dK kvs)):Y5 (upd H d (.frz o (.dK kvs))) cd F:=Paired.mapP h λd' _ ⟨k,a,b⟩=>by
 refine⟨k,?_,b.keep (pY hd).tups⟩
 by_cases z:d'=d
 ·subst z;rw[Znb a hd];exact .inr ⟨o,Zd⟩
 ·rcases a with a|⟨ci,a⟩
  ·exact .inl (by rw[bW z];exact a)
  ·exact .inr ⟨ci,by rw[bW z];exact a⟩
noncomputable def lcmL (zs:List (Int×(Nat×Nat))):Nat:=zs.foldl (λc x=>Nat.lcm c x.2.2) 1
theorem G1(zs:List (Int×(Nat×Nat)))(x:Int×(Nat×Nat)):lcmL (zs++ [x])=Nat.lcm (lcmL zs) x.2.2:=by unfold lcmL;rw[qaF];rfl
theorem Zkc{a b:Nat}:a / Nat.gcd a b*b=Nat.lcm a b:=by
 unfold Nat.lcm;rw[Nat.div_mul_right_comm (R7 a b)]
theorem z2{a b n m:Nat}(bB:a<2 ^ n)(ao:b<2 ^ m):Nat.lcm a b<2 ^ (n+m):=by
 unfold Nat.lcm;exact Rp (RF _ _) (pX bB ao)
def mK(ls:List B5)(x:Int×Fo.ZP)(rs:List Int):Prop:=∃zs,iz ls x.2 zs x.2.length∧∀y∈zs,rs[y.1.toNat]? =some ((lcmL zs / y.2.2*y.2.1:Nat):Int)
noncomputable def mL (g0:List Int) (b:B5):Int:=g0.getD b.giver.toNat 0*b.give-g0.getD b.taker.toNat 0*b.take
structure Zn2(ls:List B5)(n:Nat)(rs:List Int):Prop where
 len:rs.length=n
 pos:∀c∈rs,∃k:Nat,c=(k:Int)∧0<k∧k<2 ^ 420000
theorem z3:∀(zs:List (Int×(Nat×Nat)))(c:Nat),c ∣ zs.foldl (λc x=>Nat.lcm c x.2.2) c∧∀y∈zs,y.2.2 ∣ zs.foldl (λc x=>Nat.lcm c x.2.2) c
 | [],c=>⟨Nat.dvd_refl _,by simp⟩
 |z::zs,c=>by
  obtain⟨ap,a'⟩:=z3 zs (Nat.lcm c z.2.2);refine⟨qaC (Nat.dvd_lcm_left _ _) ap,λy bP=>?_⟩;rcases QW.mp bP with rfl|bP
  ·exact qaC (Nat.dvd_lcm_right _ _) ap
  ·exact a' y bP
theorem z4:∀(zs:List (Int×(Nat×Nat)))(c m:Nat),c ∣ m→(∀y∈zs,y.2.2 ∣ m)→zs.foldl (λc x=>Nat.lcm c x.2.2) c ∣ m
 | [],_,_,h,_=>h
 |z::zs,c,m,h,k=>z4 zs _ m (Nat.lcm_dvd h (k z (by simp))) λy bP=>k y (Q7 _ bP)
theorem uS{zs:List (Int×(Nat×Nat))}{y:Int×(Nat×Nat)}(h:y∈zs):y.2.2 ∣ lcmL zs:=(z3 zs 1).2 y h
theorem Zj1{zs:List (Int×(Nat×Nat))}{m:Nat}(h:∀y∈zs,y.2.2 ∣ m):lcmL zs ∣ m:=z4 zs 1 m (Nat.one_dvd m) h
theorem z5{zs:List (Int×(Nat×Nat))}(h:∀y∈zs,0<y.2.2):0<lcmL zs:=by
 unfold lcmL;have eR:∀(zs:List (Int×(Nat×Nat)))(c:Nat),0<c→(∀y∈zs,0<y.2.2)→0<zs.foldl (λc x=>Nat.lcm c x.2.2) c:=by
  intro zs
  induction zs with
  |nil=>intro c br _;exact br
  |cons z zs bM=>intro c br k;exact bM _ (Nat.lcm_pos br (k z (by simp))) λy bP=>k y (Q7 _ bP)
 exact eR zs 1 (by decide) h
theorem ZgK{ls:List B5}{bL:Fo.ZP}{first:Int}{ds:Int→List Fo.Trip}{zs:List (Int×(Nat×Nat))}(bF:Fo.YX ds first bL)(h:iz ls bL zs bL.length){k:Nat}(bp:∀y∈zs,k ∣ lcmL zs / y.2.2*y.2.1):k=1:=by
 have pZ:0<bL.length:=(QP.mp bF.head).1;have cw:=Q6 (h.first 0 first pZ bF.head);have G3:k ∣ lcmL zs:=by
  have:=bp _ cw;simpa using this
 have Pf:0<lcmL zs:=z5 λy bP=>(h.pos y bP).2.1;obtain⟨c,br⟩:=G3;have k0:0<k:=by
  rcases RK k with z|z
  ·rw[z,Nat.zero_mul] at br;omega
  ·exact z
 have all:∀y∈zs,y.2.2 ∣ c:=by
  intro y bP;obtain⟨eZ,iO,ku⟩:=h.pos y bP;obtain⟨m,bv⟩:=bp y bP;have bD:lcmL zs / y.2.2*y.2.2=lcmL zs:=qan (uS bP);have bI:k*(c*y.2.1)=k*(y.2.2*m):=by
   calc k*(c*y.2.1)=lcmL zs*y.2.1:=by rw[br,Rh]
    _=(lcmL zs / y.2.2*y.2.1)*y.2.2:=by
     conv=>lhs;rw[←bD]
     rw[qaW]
    _=k*m*y.2.2:=by rw[bv]
    _=k*(y.2.2*m):=by rw[Rh,RO m]
  have c6:=qab k0 bI;have d:y.2.2 ∣ c*y.2.1:=⟨m,c6⟩;exact Nat.Coprime.dvd_of_dvd_mul_right (show Nat.gcd y.2.2 y.2.1=1 by rw[Nat.gcd_comm];exact ku) d
 have hd:=Zj1 all;rw[br] at hd;have G4:0<c:=by
  rcases RK c with z|z
  ·rw[z,Nat.mul_zero] at br;omega
  ·exact z
 have:=qaf G4 hd;rcases qap k 2 with z|z
 ·omega
 ·have:2*c≤k*c:=Nat.mul_le_mul_right c z;omega
structure Vl(ls:List B5)(z:Int→Nat):Prop where
 pos:∀w,0<z w
 bal:∀i<ls.length,(ls.getD i dB).give.toNat*z (ls.getD i dB).giver=(ls.getD i dB).take.toNat*z (ls.getD i dB).taker
theorem ZfX{ls:List B5}{z:Int→Nat}(hz:Vl ls z)(hsz:Wh ls){bL:Fo.ZP}{first:Int}{zs:List (Int×(Nat×Nat))}(bF:Fo.YX (e3 ls) first bL)(h:iz ls bL zs bL.length):
  ∀(i:Nat)(y:Int×(Nat×Nat)),zs[i]? =some y→y.2.1*z first=y.2.2*z y.1:=by
 have uT:=h.len (QQ _);intro i
 induction i using Nat.strongRecOn with
 |_ i bM=>
  intro y bP;have hi:i<bL.length:=by have:=(QP.mp bP).1;omega
  obtain⟨⟨w,st⟩,e⟩:∃x,bL[i]? =some x:=⟨bL[i],QN hi⟩;cases st with
  |none=>
   have ap:=h.first i w hi e;rw[bP] at ap;cases ap;have G5:=bF.only i w e;subst G5;rw[bF.head] at e;cases e;simp
  |some x=>
   obtain⟨p,b,al⟩:=x;obtain⟨j,eJ,hj,bw,ap,a',ao⟩:=h.step i w p b al hi e;rw[bP] at ap;cases ap;have uU:=bM j bw _ a';obtain⟨hw,_⟩:=bF.steps i w p b al e;obtain⟨bi,rR,bv⟩:=VO hw;obtain⟨_,h3,_⟩:=h.pos _ (Q6 a');obtain⟨cQ,bT,dC,fS,_,_,eg,dE⟩:=hsz bi rR;have js:=hz.bal bi rR;rw[YQ] at bv;unfold Bal at ao;dsimp only at uU h3⊢;rcases bv with⟨fe,fY⟩|⟨fe,fY⟩
   ·injection fY with bD bI
    injection bI with bI c6
    subst c6;rw[if_pos rfl,bI,QT,eg,dE,QT,QT] at ao;rw[eg,dE,QT,QT,fe,←bD] at js;refine qab (qa5 h3 fS) ?_
    calc hj.2*bT*(eJ.1*z first)=eJ.1*hj.2*bT*z first:=by simp only[RO,Rf,Rh]
     _=hj.1*eJ.2*cQ*z first:=by rw[ao]
     _=eJ.2*cQ*(hj.1*z first):=by simp only[RO,Rf,Rh]
     _=eJ.2*hj.2*(cQ*z p):=by rw[uU];simp only[RO,Rf,Rh]
     _=hj.2*bT*(eJ.2*z w):=by rw[js];simp only[RO,Rf,Rh]
   ·injection fY with bD bI
    injection bI with bI c6
    subst c6;rw[if_neg (by decide),bI,QT,eg,dE,QT,QT] at ao;rw[eg,dE,QT,QT,fe,←bD] at js;refine qab (qa5 h3 dC) ?_
    calc hj.2*cQ*(eJ.1*z first)=eJ.1*hj.2*cQ*z first:=by simp only[RO,Rf,Rh]
     _=hj.1*eJ.2*bT*z first:=by rw[ao]
     _=eJ.2*bT*(hj.1*z first):=by simp only[RO,Rf,Rh]
     _=eJ.2*hj.2*(bT*z p):=by rw[uU];simp only[RO,Rf,Rh]
     _=hj.2*cQ*(eJ.2*z w):=by rw[←js];simp only[RO,Rf,Rh]
theorem Zb8{ls:List B5}{z:Int→Nat}(hz:Vl ls z)(hsz:Wh ls){bL:Fo.ZP}{first:Int}{zs:List (Int×(Nat×Nat))}(bF:Fo.YX (e3 ls) first bL)(h:iz ls bL zs bL.length){y:Int×(Nat×Nat)}(bP:y∈zs):
  lcmL zs / y.2.2*y.2.1*z first=lcmL zs*z y.1:=by
 obtain⟨i,hi⟩:=RM bP;have e:=ZfX hz hsz bF h i y hi
 calc lcmL zs / y.2.2*y.2.1*z first=lcmL zs / y.2.2*(y.2.1*z first):=by rw[Rh]
  _=lcmL zs / y.2.2*y.2.2*z y.1:=by rw[e,Rh]
  _=lcmL zs*z y.1:=by rw[qan (uS bP)]
theorem Zl7{zs:List (Int×(Nat×Nat))}(h:∀y∈zs,y.2.2<2 ^ 6700):lcmL zs<2 ^ (6700*zs.length+1):=by
 have eR:∀(zs:List (Int×(Nat×Nat)))(c n:Nat),c<2 ^ n→(∀y∈zs,y.2.2<2 ^ 6700)→zs.foldl (λc x=>Nat.lcm c x.2.2) c<2 ^ (n+6700*zs.length):=by
  intro zs
  induction zs with
  |nil=>intro c n br _;simpa using br
  |cons z zs bM=>
   intro c n br k;have:=bM (Nat.lcm c z.2.2) (n+6700) (z2 br (k z (by simp))) λy bP=>k y (Q7 _ bP);have e:n+6700+6700*zs.length=n+6700*(z::zs).length:=by simp[Nat.mul_succ];omega
   rw[e] at this;exact this
 have:=eR zs 1 1 (by decide) h;rw[Nat.add_comm];exact this
section
variable {ls:List B5}{n:Nat}{F:List (Int×Fo.ZP)}{rs:List Int}
theorem Ze4{x:Int×Fo.ZP}{zs:List (Int×(Nat×Nat))}(h:iz ls x.2 zs x.2.length){w:Int}(hw:w∈Fo.keys x.2):∃y∈zs,y.1=w:=by
 have ap:=h.keys;have a':(Fo.keys x.2).take x.2.length=Fo.keys x.2:=RP (by simp[Fo.keys]);rw[a'] at ap;rw[←ap] at hw;obtain⟨y,bP,e⟩:=Q3.mp hw;exact⟨y,bP,e⟩
theorem Zgc(c_:ZN ls n)(bG:n≤60)(eT:Fo.W4 (e3 ls) n F n)(el:rs.length=n)(fT:∀x∈F,mK ls x rs):Zn2 ls n rs:=by
 refine⟨el,λc br=>?_⟩;obtain⟨i,hi,rfl⟩:=Q4 br;obtain⟨x,a_,bp⟩:=eT.all (i:Int) (by omega) (by omega);obtain⟨zs,bF,hz⟩:=fT x a_;obtain⟨y,bP,ew⟩:=Ze4 bF bp;have ap:=hz y bP;rw[ew,QT,QN hi] at ap;obtain⟨g,uV,dC,g1⟩:=eT.tree x a_;have rS:x.2.length≤60:=by
  have:=Fo.ZaV (n:=n) g.nodup (g.rg ⟨dC,g1⟩ (nW c_));simp[Fo.keys] at this;omega
 have uT:=bF.len (QQ _);have sz:∀y∈zs,y.2.1<2 ^ 6700∧y.2.2<2 ^ 6700:=λy bP=>by
  obtain⟨j,bw⟩:=RM bP;have hX:=(QP.mp bw).1;obtain⟨a,b⟩:=bF.size j y bw;have e:(2:Nat) ^ (110*j+1)≤2 ^ 6700:=Re (by decide) (by omega);exact⟨QU a e,QU b e⟩
 have lh:=Zl7 λy bP=>(sz y bP).2;obtain⟨eZ,iO,_⟩:=bF.pos y bP;refine⟨_,Q2 ap,qa5 (qa6 (qaf (z5 λy bP=>(bF.pos y bP).2.1) (uS bP)) iO) eZ,?_⟩;refine QU (pX (Rp (RF _ _) lh) (sz y bP).1) (Re (by decide) ?_);have:6700*zs.length≤6700*60:=qaN _ (by omega);omega
theorem ZaS{z:Int→Nat}(hz:Vl ls z)(hsz:Wh ls)(c_:ZN ls n)(eT:Fo.W4 (e3 ls) n F n)(el:rs.length=n)(fT:∀x∈F,mK ls x rs){i:Nat}(hi:i<ls.length):mL rs (ls.getD i dB)=0:=by
 obtain⟨a0,a1,eA,fy⟩:=c_.at hi;obtain⟨cQ,bT,dC,fS,_,_,eg,dE⟩:=hsz i hi;have js:=hz.bal i hi;rw[eg,dE,QT,QT] at js;obtain⟨x,a_,bp⟩:=eT.all (ls.getD i dB).giver a0 a1;obtain⟨g,uV,x0,x1⟩:=eT.tree x a_;have uW:(ls.getD i dB).taker∈Fo.keys x.2:=by
  obtain⟨j,s,bw⟩:=Fo.ZbF bp;exact uV j _ s (QP.mp bw).1 bw ((ls.getD i dB).taker,(i:Int),true) (nV hi (YQ.mpr (.inl ⟨rfl,rfl⟩)))
 obtain⟨zs,bF,hs⟩:=fT x a_;obtain⟨n0,z6,G6⟩:=Ze4 bF bp;obtain⟨p0,z7,G7⟩:=Ze4 bF uW;have cj:=hs n0 z6;have cM:=hs p0 z7;have fI:=Zb8 hz hsz g bF z6;have gd:=Zb8 hz hsz g bF z7;rw[G6] at cj fI;rw[G7] at cM gd;have bD:rs.getD (ls.getD i dB).giver.toNat 0=((lcmL zs / n0.2.2*n0.2.1:Nat):Int):=by rw[RL,cj];rfl
 have bI:rs.getD (ls.getD i dB).taker.toNat 0=((lcmL zs / p0.2.2*p0.2.1:Nat):Int):=by rw[RL,cM];rfl
 generalize lcmL zs / n0.2.2*n0.2.1=A at*;generalize lcmL zs / p0.2.2*p0.2.1=B at*;have eR:A*cQ=B*bT:=by
  refine Nat.eq_of_mul_eq_mul_right (hz.pos x.1) ?_
  calc A*cQ*z x.1=A*z x.1*cQ:=qaW _ _ _
   _=lcmL zs*z (ls.getD i dB).giver*cQ:=by rw[fI]
   _=lcmL zs*(cQ*z (ls.getD i dB).giver):=by simp only[RO,Rf,Rh]
   _=lcmL zs*z (ls.getD i dB).taker*bT:=by rw[js];simp only[RO,Rf,Rh]
   _=B*z x.1*bT:=by rw[gd]
   _=B*bT*z x.1:=qaW _ _ _
 unfold mL;rw[bD,bI,eg,dE];have k2:(A:Int)*(cQ:Int)=(B:Int)*(bT:Int):=by
  rw[←qaU,←qaU,eR]
 omega
end
theorem Paired.get{cJ fX:Type}{P:cJ→fX→Prop}:∀{xs:List cJ}{ys:List fX}{i:Nat}{x:cJ},Paired P xs ys→xs[i]? =some x→∃y,ys[i]? =some y∧P x y
 |_,_,_,_,.nil,e=>by simp at e
 |_,_,0,_,.cons h _,e=>by simp at e;subst e;exact⟨_,rfl,h⟩
 |_,_,i+1,x,.cons _ r,e=>by
  obtain⟨y,ap,a'⟩:=Paired.get (i:=i) (x:=x) r (by simpa using e);exact⟨y,by simpa using ap,a'⟩
theorem p1{cJ fX:Type}{P:cJ→fX→Prop}:∀{xs:List cJ}{ys:List fX},xs.length=ys.length→(∀(i:Nat) x y,xs[i]? =some x→ys[i]? =some y→P x y)→Paired P xs ys
 | [],[],_,_=> .nil
 |x::xs,y::ys,ag,h=> .cons (h 0 x y rfl rfl) (p1 (by simpa using ag) λi a b bD bI=>h (i+1) a b (by simpa using bD) (by simpa using bI))
 | [],_::_,ag,_=>by simp at ag
 |_::_,[],ag,_=>by simp at ag
theorem ZfU{fX uX:Type}{S:uX→fX→Prop}{L:List uX}{d:uX}{ys:List fX}(h:Paired (λi v=>S (L.getD i d) v) ((List.range L.length).filter λ_=>true) ys):Paired S L ys:=by
 rw[Ra.mpr (by simp)] at h;refine p1 (by rw[←Paired.length h,R8]) λi x y bD bI=>?_;have hi:i<L.length:=(QP.mp bD).1;obtain⟨hj,ap,a'⟩:=Paired.get (i:=i) (x:=i) h (by simp[hi]);rw[bI] at ap;cases ap;simpa[List.getD,bD] using a'
noncomputable def Ve (H:Hp):List (Int×Int)→List V→Prop:=Paired λx v=>∃t,v= .ref t∧H t=some (.tup [.int x.1,.int x.2])
theorem Ve.keep{H ae:Hp}(t:∀b xs,H b=some (.tup xs)→ae b=some (.tup xs)){vs:List V}{l:List (Int×Int)}(h:Ve H l vs):Ve ae l vs:=Paired.mapP h λ_ _ ⟨a,e,z⟩=>⟨a,e,t _ _ z⟩
noncomputable def LL (H:Hp):List (List (Int×Int))→List Addr→Prop:=Paired λl a=>∃vs,H a=some (.lst vs)∧Ve H l vs
theorem LL.dom{H:Hp}:∀{ls:List (List (Int×Int))}{as:List Addr},LL H ls as→∀x∈as,H x≠none
 |_,_,.nil,_,a_=>by simp at a_
 |_,_,.cons ⟨vs,h,_⟩ r,x,a_=>by
  rcases QW.mp a_ with rfl|a_
  ·rw[h];simp
  ·exact LL.dom r x a_
theorem LL.keep{H ae:Hp}(t:∀b xs,H b=some (.tup xs)→ae b=some (.tup xs)):∀{ls:List (List (Int×Int))}{as:List Addr},LL H ls as→(∀x∈as,ae x=H x)→LL ae ls as
 |_,_,.nil,_=> .nil
 |_,_,.cons ⟨vs,h,p⟩ r,k=> .cons ⟨vs,(k _ (by simp)).trans h,p.keep t⟩ (LL.keep t r λx a_=>k x (Q7 _ a_))
noncomputable def gL (ls:List B5) (w:Int):List (Int×Int):=(eh ls w).map λi:Nat=>((i:Int),(ls.getD i dB).take)
noncomputable def n1 (ls:List B5) (w:Int):List (Int×Int):=(dH ls w).map λi:Nat=>((i:Int),(ls.getD i dB).give)
noncomputable def g4 (rows:List B5) (hs:List Int) (w:Int):Bool:=(rows.zip hs).all λx=>!(decide (x.1.taker=w))||decide (x.1.take≤x.2)
theorem uY{w:Int}:∀{rows:List B5}{hs:List Int},(∀(i:Nat)(r:B5)(h:Int),rows[i]? =some r→hs[i]? =some h→r.taker=w→r.take≤h)→g4 rows hs w=true
 | [],_,_=>by simp[g4]
 |_::_,[],_=>by simp[g4]
 |r::rs,h::hs,q=>by
  have e:=uY (rows:=rs) (hs:=hs) (w:=w) λi cY h' a b=>q (i+1) cY h' (by simpa using a) (by simpa using b);unfold g4 at e⊢;rw[List.zip_cons_cons,qa1,e,Bool.and_true]
  by_cases c:r.taker=w
  ·rw[decide_eq_true (q 0 r h rfl rfl c),Bool.or_true]
  ·rw[decide_eq_false c];rfl
theorem uZ{w:Int}:∀{rows:List B5}{hs:List Int}(i:Nat){r:B5}{h:Int},rows[i]? =some r→hs[i]? =some h→r.taker=w→h<r.take→g4 rows hs w=false
 | [],_,_,_,_,a,_,_,_=>by simp at a
 |_::_,[],_,_,_,_,a,_,_=>by simp at a
 |r::rs,h::hs,0,cY,h',a,b,c,d=>by
  simp only[List.getElem?_cons_zero,Option.some.injEq] at a b;subst a b;unfold g4;rw[List.zip_cons_cons,qa1,decide_eq_true c,decide_eq_false (show ¬r.take≤h by omega)]
  rfl
 |r::rs,h::hs,i+1,cY,h',a,b,c,d=>by
  have e:=uZ (rows:=rs) (hs:=hs) (w:=w) i (r:=cY) (h:=h') (by simpa using a) (by simpa using b) c d;unfold g4 at e⊢;rw[List.zip_cons_cons,qa1,e,Bool.and_false]
noncomputable def e4 (rows:List B5) (hs:List Int) (w:Int):List Int:=(rows.zip hs).map λx=>x.2-(if x.1.taker=w then x.1.take else 0)+(if x.1.giver=w then x.1.give else 0)
theorem rT{rows:List B5}{hs:List Int}{w:Int}(h:hs.length=rows.length):(e4 rows hs w).length=hs.length:=by unfold e4;simp;omega
theorem Za5{rows:List B5}{hs:List Int}{w:Int}{i:Nat}(ap:i<rows.length)(a':i<hs.length)(bU:i<(e4 rows hs w).length):(e4 rows hs w)[i]=hs[i]-(if rows[i].taker=w then rows[i].take else 0)+(if rows[i].giver=w then rows[i].give else 0):=by
 have e:(e4 rows hs w)[i]? =some (hs[i]-(if rows[i].taker=w then rows[i].take else 0)+(if rows[i].giver=w then rows[i].give else 0)):=by
  unfold e4;rw[QX,QN (by rw[List.length_zip];omega)];simp
 rw[QN bU] at e;exact Q2 e
noncomputable def p2 (hs:List Int) (l:List (Int×Int)):Bool:=l.all λx=>decide (x.2≤hs.getD x.1.toNat 0)
theorem Zc5{rows:List B5}{hs:List Int}{w:Int}(h:hs.length=rows.length):p2 hs (gL rows w)=g4 rows hs w:=by
 cases e:p2 hs (gL rows w) with
 |true=>
  refine(uY λi r x a b c=>?_).symm;have hi:i<rows.length:=(QP.mp a).1;have h4:rows.getD i dB=r:=by simp[List.getD,a]
  have m:((i:Int),r.take)∈gL rows w:=by
   unfold gL eh;refine Q3.mpr ⟨i,Ro.mpr ⟨Rc.mpr hi,decide_eq_true (by rw[h4];exact c)⟩,by rw[h4]⟩
  have:=of_decide_eq_true (RC.mp e _ m);simpa[List.getD,b] using this
 |false=>
  unfold p2 at e;rw[List.all_eq_false] at e;obtain⟨x,a_,d⟩:=e;unfold gL eh at a_;obtain⟨i,hi,rfl⟩:=Q3.mp a_;obtain⟨ap,a'⟩:=Ro.mp hi;have bn:=Rc.mp ap;have hk:=QN bn;have p3:=QN (show i<hs.length by omega);have h4:rows.getD i dB=rows[i]:=by simp[List.getD,hk]
  rw[h4] at a' d;refine(uZ i hk p3 (of_decide_eq_true a') ?_).symm;have d':¬rows[i].take≤hs.getD (i:Int).toNat 0:=λz=>d (decide_eq_true z);have eg:hs.getD (i:Int).toNat 0=hs[i]:=by simp[List.getD,p3]
  rw[eg] at d';omega
theorem Zby{ls:List B5}{w:Int}{i:Nat}(h:i∈eh ls w):i<ls.length:=Rc.mp (Ro.mp h).1
theorem US{ls:List B5}{w:Int}{i:Nat}(h:i∈dH ls w):i<ls.length:=Rc.mp (Ro.mp h).1
theorem Zdp{ls:List B5}{w:Int}:(eh ls w).length≤ls.length:=QZ (Rm _ _) (by simp)
theorem Zdj{ls:List B5}{w:Int}:(dH ls w).length≤ls.length:=QZ (Rm _ _) (by simp)
noncomputable def bump (f:Nat→Int) (hs:List Int) (is:List Nat):List Int:=is.foldl (λhs i=>hs.set i (hs.getD i 0+f i)) hs
theorem WP(f:Nat→Int):∀(is:List Nat)(hs:List Int),(bump f hs is).length=hs.length
 | [],_=>rfl
 |i::is,hs=>by
  show(bump f (hs.set i _) is).length=_;rw[WP f is,qai]
theorem u0(f:Nat→Int):∀(is:List Nat)(hs:List Int)(j:Nat),is.Nodup→j<hs.length→(bump f hs is).getD j 0=hs.getD j 0+if j∈is then f j else 0
 | [],hs,j,_,_=>by simp[bump]
 |i::is,hs,j,nd,bw=>by
  obtain⟨hE,hx⟩:=qaS.mp nd;show(bump f (hs.set i (hs.getD i 0+f i)) is).getD j 0=_;rw[u0 f is _ j hx (by rw[qai];exact bw)]
  by_cases e:i=j
  ·subst e;have bD:(hs.set i (hs.getD i 0+f i)).getD i 0=hs.getD i 0+f i:=by rw[RL,RE bw];rfl
   rw[bD,if_neg hE,if_pos R0,Int.add_zero]
  ·have bD:(hs.set i (hs.getD i 0+f i)).getD j 0=hs.getD j 0:=by rw[RL,R4 e,RL]
   rw[bD];have:(j∈i::is)↔j∈is:=by simp[qao e]
   simp only[this]
theorem z8(n:Nat)(c:Nat→Bool):((List.range n).filter c).Nodup:=List.nodup_range.filter c
theorem G8{rows:List B5}{hs:List Int}{w:Int}(h:hs.length=rows.length):
  bump (λi=>(rows.getD i dB).give) (bump (λi=>-(rows.getD i dB).take) hs (eh rows w)) (dH rows w)=e4 rows hs w:=by
 have jo:=WP (λi=>-(rows.getD i dB).take) (eh rows w) hs;refine GM (by rw[WP,jo,rT h]) λi ap a'=>?_;rw[WP,jo] at ap;have bn:i<rows.length:=by omega
 rw[Za5 bn ap a'];have eo:∀(xs:List Int)(a_:i<xs.length),xs[i]=xs.getD i 0:=λxs a_=>by simp[List.getD,a_]
 rw[eo _ (by rw[WP,jo];exact ap),u0 _ (dH rows w) _ _ (z8 _ _) (by rw[jo];exact ap),u0 _ (eh rows w) _ _ (z8 _ _) ap,←eo hs ap];have h4:rows.getD i dB=rows[i]:=by simp[List.getD,bn]
 have fe:i∈eh rows w↔rows[i].taker=w:=by
  unfold eh;rw[Ro,Rc,h4,decide_eq_true_eq];exact⟨λz=>z.2,λz=>⟨bn,z⟩⟩
 have fY:i∈dH rows w↔rows[i].giver=w:=by
  unfold dH;rw[Ro,Rc,h4,decide_eq_true_eq];exact⟨λz=>z.2,λz=>⟨bn,z⟩⟩
 simp only[fe,fY,h4]
 split<;>split<;>omega
theorem LL.at{H:Hp}{ls:List (List (Int×Int))}{ck:List Addr}{w:Int}{l:List (Int×Int)}(h:LL H ls ck)(cw:0≤w)(e:ls[w.toNat]? =some l):∃x vs,atI (ck.map V.ref) w=some (.ref x)∧H x=some (.lst vs)∧Ve H l vs:=by
 obtain⟨x,ap,vs,a',bU⟩:=Paired.get h e;refine⟨x,vs,?_,a',bU⟩;have:=gj (xs:=ck.map V.ref) (j:=w.toNat) (v:= .ref x) (by rw[QX,ap];rfl)
 rwa [Rs cw] at this
theorem LL.len{H:Hp}{ls:List (List (Int×Int))}{ck:List Addr}(h:LL H ls ck):ck.length=ls.length:=(Paired.length h).symm
theorem z9{H:Hp}{h5:List Nat}{f:Nat→Int}{ys:List V}(h:Paired (λi v=>∃t,v=V.ref t∧H t=some (.tup [.int (h5.getD i 0:Nat),.int (f (h5.getD i 0))])) ((List.range (h5.map λi:Nat=>V.int i).length).filter λ_=>true) ys):Ve H (h5.map λi:Nat=>((i:Int),f i)) ys:=by
 rw[QM] at h;have ap:Paired (λ(j:Nat) v=>∃t,v=V.ref t∧H t=some (.tup [.int (j:Nat),.int (f j)])) h5 ys:=ZfU (L:=h5) (d:=0) h;refine p1 (by rw[QM];exact Paired.length ap) λi x y bD bI=>?_;rw[QX] at bD;cases e:h5[i]? with
 |none=>rw[e] at bD;cases bD
 |some j=>
  rw[e] at bD;cases bD;obtain⟨hj,c6,bU⟩:=Paired.get ap e;rw[bI] at c6;cases c6;exact bU
theorem z_{ls:List B5}{w:Int}{n:Nat}(h:n=ls.length):∀x∈gL ls w,0≤x.1∧x.1<n:=by
 intro x a_;obtain⟨i,hi,rfl⟩:=Q3.mp a_;have:=Zby hi;show 0≤(i:Int)∧(i:Int)<n;omega
theorem ZbZ{ls:List B5}{w:Int}:(gL ls w).length≤ls.length:=by unfold gL;rw[QM];exact Zdp
theorem Zed{f:Nat→Int}{hs:List Int}{is:List Nat}{i:Nat}(h:i<is.length):bump f hs (is.take (i+1))=(bump f hs (is.take i)).set is[i] ((bump f hs (is.take i)).getD is[i] 0+f is[i]):=by
 unfold bump;rw[QR h,qaF]
 rfl
theorem Zjx{h5:List Nat}{f:Nat→Int}{H:Hp}{vs:List V}{i:Nat}(h:Ve H (h5.map λi:Nat=>((i:Int),f i)) vs)(hi:i<h5.length):∃t,vs.getD i .non= .ref t∧H t=some (.tup [.int (h5[i]:Nat),.int (f h5[i])]):=by
 obtain⟨v,b8,t,rfl,b3⟩:=Paired.get h (i:=i) (x:=((h5[i]:Int),f h5[i])) (by rw[QX,QN hi];rfl);exact⟨t,by simp[List.getD,b8],b3⟩
noncomputable def fB (b:B5) (s:Int):Fire.Belt:=⟨b.giver.toNat,b.taker.toNat,b.give,b.take,s⟩
noncomputable def fBs (ls:List B5) (st:List Int):List Fire.Belt:=(ls.zip st).map λx=>fB x.1 x.2
noncomputable def lieL (ls:List B5) (st:List Int) (d:Nat→Nat):List Int:=(fBs ls st).map λb=>Fire.lie b d
noncomputable def f_ (rs:List Int) (v:Nat):Nat:=(rs.getD v 0).toNat
noncomputable def eN (ls:List B5) (st rs:List Int) (d:Nat→Nat) (v:Nat):Bool:=decide (d v<f_ rs v)&&g4 ls (lieL ls st d) v
noncomputable def hG (ls:List B5) (st rs:List Int) (d:Nat→Nat):List Bool:=(List.range rs.length).map λv=>eN ls st rs d v
noncomputable def em (rs:List Int) (d:Nat→Nat):List Int:=(List.range rs.length).map λv=>(f_ rs v:Int)-(d v:Int)
noncomputable abbrev f' (ls:List B5) (st rs:List Int):(Nat→Nat)→Nat→Prop:=Fire.May (fBs ls st) rs.length (f_ rs)
def iA(ls:List B5)(st rs:List Int)(d:Nat→Nat)(w:Nat):Prop:=f' ls st rs d w∧∀v<w,¬f' ls st rs d v
theorem hl{ls:List B5}{st:List Int}{d:Nat→Nat}(h:st.length=ls.length):(lieL ls st d).length=ls.length:=by simp[lieL,fBs,h]
theorem mM{ls:List B5}{st:List Int}{d:Nat→Nat}{j:Nat}(h:st.length=ls.length)(bw:j<ls.length):(lieL ls st d)[j]'(by rw[hl h];exact bw)=Fire.lie (fB ls[j] (st[j]'(by omega))) d:=by simp[lieL,fBs]
theorem Zma{ls:List B5}{st:List Int}(h:st.length=ls.length){b:Fire.Belt}(ao:b∈fBs ls st):∃(j:Nat)(bw:j<ls.length),b=fB ls[j] (st[j]'(by omega)):=by
 obtain⟨j,bw,rfl⟩:=R6.mp ao;have fC:j<ls.length:=by simp[fBs,h] at bw;exact bw
 exact⟨j,fC,by simp[fBs]⟩
theorem G9{ls:List B5}{st:List Int}(h:st.length=ls.length){j:Nat}(bw:j<ls.length):fB ls[j] (st[j]'(by omega))∈fBs ls st:=
 Q3.mpr ⟨(ls[j],st[j]'(by omega)),R6.mpr ⟨j,by simp[h,bw],by simp⟩,rfl⟩
theorem u1{ls:List B5}{hs:List Int}{w:Int}(h:hs.length=ls.length):g4 ls hs w=true↔∀(j:Nat)(bw:j<ls.length),ls[j].taker=w→ls[j].take≤hs[j]'(by omega):=by
 unfold g4;rw[RC]
 constructor
 ·intro q j bw e;have:=q (ls[j],hs[j]'(by omega)) (R6.mpr ⟨j,by simp[h,bw],by simp⟩);simpa[e] using this
 ·intro q x a_;obtain⟨j,bw,rfl⟩:=R6.mp a_;have fC:j<ls.length:=by simp[h] at bw;exact bw
  by_cases e:ls[j].taker=w
  ·have:=q j fC e;simp[e,this]
  ·simp[e]
section
variable {ls:List B5}{st rs:List Int}{d:Nat→Nat}{n:Nat}
theorem p4(h:st.length=ls.length)(ao:ZN ls n){v:Nat}(b8:v<rs.length):eN ls st rs d v=true↔f' ls st rs d v:=by
 unfold eN;rw[Rz,decide_eq_true_eq,u1 (hl h)]
 constructor
 ·rintro⟨ap,a'⟩;refine⟨b8,ap,λb bv b3=>?_⟩;obtain⟨j,bw,rfl⟩:=Zma h bv;have:=a' j bw (by have:=ao ls[j] (QO bw);have rV:ls[j].taker.toNat=v:=b3;omega);rw[mM h bw] at this;exact this
 ·rintro⟨_,ap,a'⟩;refine⟨ap,λj bw e=>?_⟩;rw[mM h bw];exact a' _ (G9 h bw) (by show ls[j].taker.toNat=v;omega)
theorem z'(h:st.length=ls.length)(ao:ZN ls n){v:Nat}(b8:v<rs.length):eN ls st rs d v=false↔¬f' ls st rs d v:=by
 rw[←p4 h ao b8];simp
theorem ZfG{v:Nat}(b8:v<rs.length):(hG ls st rs d)[v]? =some (eN ls st rs d v):=by simp[hG,b8]
theorem G_:(hG ls st rs d).length=rs.length:=by simp[hG]
theorem u2:(em rs d).length=rs.length:=by simp[em]
theorem Aa{v:Nat}(b8:v<rs.length):(em rs d).getD v 0=(f_ rs v:Int)-(d v:Int):=by simp[em,List.getD,b8]
theorem G'(h:st.length=ls.length)(ao:ZN ls n)(q:true∉hG ls st rs d):∀w,¬f' ls st rs d w:=λw r=>q (by
 have:=(p4 h ao r.1).mpr r;rw[←this];exact Q3.mpr ⟨w,by simpa using r.1,rfl⟩)
theorem Ab{b:Fire.Belt}{w:Nat}:Fire.lie b (Fire.bump d w)=Fire.lie b d-(if b.taker=w then b.take else 0)+(if b.giver=w then b.give else 0):=by
 unfold Fire.lie
 by_cases bD:b.giver=w<;>by_cases bI:b.taker=w<;>simp only[bD,bI,if_true,if_false,Fire.V1,Fire.VH,ne_eq,not_false_eq_true,Int.natCast_add,Int.mul_add,Int.natCast_one,Int.mul_one]<;>omega
theorem Ac(h:st.length=ls.length)(ao:ZN ls n)(w:Nat):e4 ls (lieL ls st d) w=lieL ls st (Fire.bump d w):=by
 refine GM (by rw[rT (hl h),hl h,hl h]) λj ap a'=>?_;have bw:j<ls.length:=by rw[hl h] at a';exact a'
 rw[Za5 bw (by rw[hl h];exact bw) ap,mM h bw,mM h bw,Ab];have Ad:=ao ls[j] (QO bw);have bD:(ls[j].taker=(w:Int))↔((fB ls[j] (st[j]'(by omega))).taker=w):=by show _↔ls[j].taker.toNat=w;omega
 have bI:(ls[j].giver=(w:Int))↔((fB ls[j] (st[j]'(by omega))).giver=w):=by show _↔ls[j].giver.toNat=w;omega
 simp only[bD,bI]
 rfl
def Zac(ls:List B5)(w:Int)(ms:List Int):Prop:=ms.Pairwise (· < ·)∧∀x,x∈ms↔x=w∨∃i∈dH ls w,(ls.getD i dB).taker=x
theorem Ha(h:st.length=ls.length)(ao:ZN ls n){w v:Nat}{ms:List Int}(b3:Zac ls w ms)(b8:(v:Int)∉ms):eN ls st rs (Fire.bump d w) v=eN ls st rs d v:=by
 have hv:=mt (b3.2 v).mpr b8;have Hb:v≠w:=λe=>hv (.inl (by rw[e]));unfold eN;rw[Fire.VH d Hb]
 congr 1
 rw[R9,u1 (hl h),u1 (hl h)];have eR:∀(j:Nat)(bw:j<ls.length),ls[j].taker=(v:Int)→(lieL ls st (Fire.bump d w))[j]'(by rw[hl h];exact bw)=(lieL ls st d)[j]'(by rw[hl h];exact bw):=λj bw e=>by
  have Ad:=ao ls[j] (QO bw);rw[mM h bw,mM h bw,Ab,if_neg (by show ¬ls[j].taker.toNat=w;omega),if_neg ?_]
  ·omega
  ·intro z;have fZ:ls[j].giver.toNat=w:=z;refine hv (.inr ⟨j,?_,?_⟩)
   ·unfold dH;rw[Ro];exact⟨by simpa using bw,by simp[List.getD,bw];omega⟩
   ·simp[List.getD,bw,e]
 constructor
 ·intro q j bw e;rw[←eR j bw e];exact q j bw e
 ·intro q j bw e;rw[eR j bw e];exact q j bw e
end
noncomputable def es (ls:List B5):List Int:=ls.map B5.start
def TL(H:Hp)(ls:List B5)(n:Nat)(gM:List Addr):Prop:=gM.length=n∧∀v<n,∃ms:List Int,H (gM.getD v 0)=some (.lst (ms.map V.int))∧Zac ls v ms
noncomputable def p5 (ls:List B5) (n:Nat):List (List (Int×Int)):=(List.range n).map λw:Nat=>gL ls w
noncomputable def Ae (ls:List B5) (n:Nat):List (List (Int×Int)):=(List.range n).map λw:Nat=>n1 ls w
def mO{K:Frag}{mg:Str→Option Value}(T:Tp K mg)(H:Hp)(p:Addr)(ls:List B5)(rs:List Int):Prop:=
 ∃(bu a b c d e:Addr)(ck n2 gM:List Addr)(bs:List V),H p=some (.ins T.b bu [("turns",.ref a),("rows",.ref b),("takes",.ref c),("gives",.ref d),("touched",.ref e)])∧H a=some (.lst (rs.map V.int))∧H b=some (.lst bs)∧d5 H bs ls∧
  H c=some (.lst (ck.map V.ref))∧LL H (p5 ls rs.length) ck∧H d=some (.lst (n2.map V.ref))∧LL H (Ae ls rs.length) n2∧H e=some (.lst (gM.map V.ref))∧TL H ls rs.length gM
theorem mO.same{K:Frag}{mg:Str→Option Value}{T:Tp K mg}{H ae:Hp}{p:Addr}{ls:List B5}{rs:List Int}(h:mO T H p ls rs)(s:Ze H ae):mO T ae p ls rs:=by
 obtain⟨bu,a,b,c,d,e,ck,n2,gM,bs,ap,bU,cD,dJ,c',jt,mP,u3,p6,Hc,Af⟩:=h;have j6:∀{cG:List (List (Int×Int))}{is:List Addr},LL H cG is→LL ae cG is:=λ{cG is} l=>l.keep (λb xs z=>s _ _ z) λx a_=>by
  cases q:H x with
  |none=>exact absurd q (l.dom x a_)
  |some o=>exact s _ _ q
 exact⟨bu,a,b,c,d,e,ck,n2,gM,bs,s _ _ ap,s _ _ bU,s _ _ cD,dJ.keep λb xs z=>s _ _ z,s _ _ c',j6 jt,s _ _ mP,j6 u3,s _ _ p6,Hc,λv b8=>(let⟨ms,x,y⟩:=Af v b8;⟨ms,s _ _ x,y⟩)⟩
theorem Zgq{K:Frag}{mg:Str→Option Value}{T:Tp K mg}{H:Hp}{p:Addr}{ls:List B5}{rs:List Int}{m:Str}{G:Prop}(h:mO T H p ls rs)(fe:(m== "turns")=false)(fY:(m== "rows")=false)(u4:(m== "takes")=false)(u5:(m== "gives")=false)(rW:(m== "touched")=false)(q:G):∃a bu fs,V.ref p= .ref a∧H a=some (.ins T.b bu fs)∧fs.lookup m=none∧G:=by
 obtain⟨bu,a,b,c,d,e,ck,n2,gM,bs,ap,_⟩:=h;exact⟨p,bu,_,rfl,ap,Rd.lk1 fe (Rd.lk1 fY (Rd.lk1 u4 (Rd.lk1 u5 (Rd.lk1 rW Rd.lkN)))),q⟩
theorem Zdy{n:Nat}{P:Nat→Addr→Prop}{ys:List V}(h:Paired (λ(i:Nat) v=>∃x,v=V.ref x∧P i x) (List.range n) ys):∃ck:List Addr,ys=ck.map V.ref∧ck.length=n∧∀i<n,P i (ck.getD i 0):=by
 have ag:n=ys.length:=by have:=Paired.length h;simpa using this
 have a_:∀i:Nat,i<n→∃x,ys[i]? =some (V.ref x)∧P i x:=λi hi=>by
  obtain⟨y,ap,x,rfl,a_⟩:=Paired.get h (i:=i) (x:=i) (by simp[hi]);exact⟨x,ap,a_⟩
 refine⟨(List.range n).map λi=>if hi:i<n then(a_ i hi).choose else 0,List.ext_getElem? λi=>?_,by simp,λi hi=>?_⟩
 ·by_cases hi:i<n
  ·rw[(a_ i hi).choose_spec.1];simp[hi]
  ·rw[Rn (by omega),Rn (by simp;omega)]
 ·have:=(a_ i hi).choose_spec.2;simpa[List.getD,hi] using this
noncomputable def hH (f:Nat→Nat) (n:Nat):Nat:=((List.range n).map f).sum
theorem ly(f:Nat→Nat)(n:Nat):hH f (n+1)=hH f n+f n:=by simp[hH,qaa]
theorem Ag(c:Nat→Nat){w:Nat}:∀{n:Nat},w<n→hH (Fire.bump c w) n=hH c n+1
 |0,h=>absurd h (RX _)
 |n+1,h=>by
  rw[ly,ly];rcases qap w n with z|z
  ·rw[Ag c z,Fire.VH c (by omega)];omega
  ·obtain rfl:w=n:=by omega
   have:∀k,k≤w→hH (Fire.bump c w) k=hH c k:=by
    intro k
    induction k with
    |zero=>intro _;rfl
    |succ k bM=>intro bp;rw[ly,ly,bM (by omega),Fire.VH c (by omega)]
   rw[this w (QQ _),Fire.V1];omega
theorem Ah{f g:Nat→Nat}:∀{n:Nat},(∀v<n,f v≤g v)→hH f n≤hH g n
 |0,_=>QQ _
 |n+1,h=>by
  rw[ly,ly];exact Nat.add_le_add (Ah λv b8=>h v (by omega)) (h n (by omega))
noncomputable def tot (rs:List Int):Nat:=hH (f_ rs) rs.length
theorem ZdP{rs:List Int}(h:∀r∈rs,0≤r):(tot rs:Int)=rs.sum:=by
 unfold tot;have:∀k,k≤rs.length→(hH (f_ rs) k:Int)=(rs.take k).sum:=by
  intro k
  induction k with
  |zero=>intro _;rfl
  |succ k bM=>
   intro bp;have kn:k<rs.length:=by omega
   rw[ly,QR kn,List.sum_append,Int.natCast_add,bM (by omega)];have:=h rs[k] (QO kn);have e:f_ rs k=rs[k].toNat:=by simp[f_,List.getD,kn]
   rw[e];simp;omega
 rw[this rs.length (QQ _),GE]
section
variable {ls:List B5}{st rs:List Int}{d:Nat→Nat}{bV:List Nat}
theorem rX{c:Nat→Nat}(h:Fire.YM (iA ls st rs) c bV d):Fire.YM (f' ls st rs) c bV d:=by
 induction h with
 |nil c=>exact .nil c
 |cons r _ bM=>exact .cons r.1 bM
theorem Zmc{c:Nat→Nat}(h:Fire.YM (f' ls st rs) c bV d)(cw:∀v<rs.length,c v≤f_ rs v):(∀v<rs.length,d v≤f_ rs v)∧hH d rs.length=hH c rs.length+bV.length:=by
 induction h with
 |nil c=>exact⟨cw,rfl⟩
 | @cons c d w bV r _ bM=>
  obtain⟨a,b⟩:=bM λv b8=>by
   by_cases e:v=w
   ·subst e;rw[Fire.V1];exact r.2.1
   ·rw[Fire.VH c e];exact cw v b8
  refine⟨a,?_⟩;rw[b,Ag c r.1,List.length_cons];omega
theorem Ai:∀n,hH (λ_=>0) n=0
 |0=>rfl
 |n+1=>by rw[ly,Ai n]
theorem Aj(h:Fire.YM (f' ls st rs) (λ_=>0) bV d):(∀v<rs.length,d v≤f_ rs v)∧bV.length=hH d rs.length∧bV.length≤tot rs:=by
 obtain⟨a,b⟩:=Zmc h λ_ _=>Q5 _;rw[Ai,Nat.zero_add] at b;exact⟨a,b.symm,by rw[←b];exact Ah a⟩
theorem Zg7(h:Fire.YM (f' ls st rs) (λ_=>0) bV d){w:Nat}(r:f' ls st rs d w):bV.length<tot rs:=by
 have:=(Aj (h.snoc r)).2.2;rw[Rj,List.length_singleton] at this;omega
end
theorem Ak:∀ys:List Bool,inV (.bl true) (ys.map V.bl)=decide (true∈ys)
 | []=>rfl
 |y::ys=>by
  have e:inV (.bl true) ((y::ys).map V.bl)=(eqV (.bl y) (.bl true)||inV (.bl true) (ys.map V.bl)):=rfl;rw[e,Ak ys];cases y<;>simp[eqV]
theorem Hd(ys:List Bool):(ys.map V.bl).all jI=true:=by
 rw[List.all_map,RC];intro _ _
 rfl
theorem Al:∀{bs:List Bool},true∈bs→∃j:Nat,bs[j]? =some true∧∀m<j,bs[m]? =some false
 |true::bs,_=>⟨0,rfl,λm h=>absurd h (RX m)⟩
 |false::bs,h=>by
  obtain⟨j,ap,a'⟩:=Al (bs:=bs) (by simpa using h);exact⟨j+1,by simpa using ap,λm bv=>by
   cases m with
   |zero=>rfl
   |succ m=>simpa using a' m (by omega)⟩
theorem ZhY{rs:List Int}{d:Nat→Nat}{w:Nat}(hw:w<rs.length):(em rs d).set w ((em rs d).getD w 0-1)=em rs (Fire.bump d w):=by
 refine GM (by simp[em]) λv ap a'=>?_;have b8:v<rs.length:=by simpa[em] using a'
 have eo:=Aa (d:=d) hw;generalize (em rs d).getD w 0=y at*;subst eo;rw[qa0]
 by_cases e:w=v
 ·subst e;simp[em,Fire.V1];omega
 ·rw[if_neg e];simp[em,Fire.VH d (qao e)]
noncomputable def iB (ls:List B5) (st rs:List Int) (d d':Nat→Nat) (ms:List Int):List Bool:=(List.range rs.length).map λv:Nat=>if(v:Int)∈ms then eN ls st rs d' v else eN ls st rs d v
theorem He{ls:List B5}{st rs:List Int}{d d':Nat→Nat}:iB ls st rs d d' []=hG ls st rs d:=by simp[iB,hG]
theorem Hf{ls:List B5}{st rs:List Int}{d:Nat→Nat}{n w:Nat}{ms:List Int}(h:st.length=ls.length)(ao:ZN ls n)(b3:Zac ls w ms):iB ls st rs d (Fire.bump d w) ms=hG ls st rs (Fire.bump d w):=by
 unfold iB hG;refine qat λv _=>?_
 split
 ·rfl
 ·rename_i z;exact(Ha h ao b3 z).symm
theorem Zex{ls:List B5}{st rs:List Int}{d d':Nat→Nat}{ms:List Int}{v:Nat}:(iB ls st rs d d' ms).set v (eN ls st rs d' v)=iB ls st rs d d' (ms++ [(v:Int)]):=by
 refine GM (by simp[iB]) λi ap a'=>?_;have hi:i<rs.length:=by simpa[iB] using a'
 rw[qa0]
 by_cases e:v=i
 ·subst e;simp[iB]
 ·rw[if_neg e];have:¬((i:Int)=(v:Int)):=λz=>e (by omega);simp[iB,this,qao e]
section
variable {ls:List B5}{rs st g0:List Int}{ys:List Nat}{w:Int}{pl:List (Key×V)}
end
def Zcs(ls:List B5)(rs:List Int):Prop:=∀b∈ls,b.give*rs.getD b.giver.toNat 0=b.take*rs.getD b.taker.toNat 0
section
variable {ls:List B5}{rs st:List Int}{d:Nat→Nat}
end
structure Rts(ls:List B5)(n:Nat)(z:Int→Nat)(rs:List Int):Prop where
 len:rs.length=n
 pos:∀r∈rs,1≤r
 bal:Zcs ls rs
 wood:∃F,Fo.W4 (e3 ls) n F n∧∀x∈F,mK ls x rs
def Vm(cE:List Str):Prop:=cE.Nodup∧(∀x∈cE,gJ x=true)∧cE.length≤30
def WZ(n:Nat)(cG:List Int):Prop:=cG≠[]∧cG.Nodup∧∀g∈cG,0≤g∧g<(n:Int)
noncomputable def gcdM (rs ms:List Int):Nat:=ms.foldl (λa m=>Nat.gcd a (rs.getD m.toNat 0).toNat) 0
noncomputable def turnV (rs ms:List Int) (m:Int):Int:=rs.getD m.toNat 0 / (gcdM rs ms:Int)
noncomputable def turnsK (f:Int→Int) (ms:List Int):List (Key×V):=ms.map λm=>(Sum.inl m,V.int (f m))
theorem rY(rs ms:List Int)(m:Int):gcdM rs (ms++ [m])=Nat.gcd (gcdM rs ms) (rs.getD m.toNat 0).toNat:=by unfold gcdM;rw[qaF];rfl
theorem Zct{rs:List Int}:∀{ms:List Int},ms≠[]→(∀m∈ms,0<rs.getD m.toNat 0)→0<gcdM rs ms:=λ{ms} bG bz=>by
 obtain⟨lz,m,rfl⟩:∃lz m,ms=lz++ [m]:=⟨ms.dropLast,ms.getLast bG,(List.dropLast_concat_getLast bG).symm⟩;rw[rY];refine qaR _ ?_;have:=bz m (by simp);omega
theorem Zhe{rs:List Int}:∀{ms:List Int},ms≠[]→(∀m∈ms,0<rs.getD m.toNat 0)→∃m∈ms,(gcdM rs ms:Int)≤rs.getD m.toNat 0:=λ{ms} bG bz=>by
 obtain⟨lz,m,rfl⟩:∃lz m,ms=lz++ [m]:=⟨ms.dropLast,ms.getLast bG,(List.dropLast_concat_getLast bG).symm⟩;have ap:=bz m (by simp);refine⟨m,by simp,?_⟩;rw[rY];have:=Nat.gcd_le_right (gcdM rs lz) (show 0<(rs.getD m.toNat 0).toNat by omega);omega
theorem p7{f:Int→Int}:∀{ms:List Int}{m:Int},m∈ms→valV (turnsK f ms) (Sum.inl m)=some (V.int (f m))
 |x::ms,m,h=>by
  unfold turnsK valV;rw[List.map_cons,qaj]
  by_cases e:x=m
  ·simp[e]
  ·have bv:m∈ms:=by
    rcases QW.mp h with z|z
    ·exact absurd z.symm e
    ·exact z
   have bM:=p7 (f:=f) bv;unfold turnsK valV at bM;simp only[show decide ((Sum.inl x:Key)=Sum.inl m)=false from decide_eq_false (λz=>e (qay z))];exact bM
theorem Am{f:Int→Int}:∀{ms:List Int}{m:Int},m∉ms→valV (turnsK f ms) (Sum.inl m)=none
 | [],m,_=>rfl
 |x::ms,m,h=>by
  have e:x≠m:=λz=>h (by simp[z]);have bM:=Am (f:=f) (ms:=ms) (m:=m) (λz=>h (by simp[z]));unfold turnsK valV at bM⊢;rw[List.map_cons,qaj];simp only[show decide ((Sum.inl x:Key)=Sum.inl m)=false from decide_eq_false (λz=>e (qay z))];exact bM
theorem An{f:Int→Int}{ms:List Int}{m:Int}(h:m∉ms):ec (turnsK f ms) (Sum.inl m) (V.int (f m))=turnsK f (ms++ [m]):=by
 unfold ec;rw[if_neg]
 ·unfold turnsK;simp
 ·intro z;rw[qau] at z;obtain⟨kv,bp,e⟩:=z;unfold turnsK at bp;obtain⟨x,a_,rfl⟩:=Q3.mp bp;exact h (by rw[←qay (of_decide_eq_true e)];exact a_)
theorem u6{x:Int}(cw:0≤x)(ap:x≤100000):x.natAbs.log2<9000:=by
 obtain⟨n,rfl⟩:=Ri cw;rw[qaV]
 by_cases cw:n=0
 ·rw[cw];decide+kernel
 ·have:=(qaX cw).mpr (show n<2 ^ 30 by omega);omega
noncomputable def idxL:List Int→Int→Nat
 | [],_=>0
 |y::ys,x=>if y=x then 0 else idxL ys x+1
theorem lA:∀{ms:List Int}{x:Int},x∈ms→ms[idxL ms x]? =some x∧∀m<idxL ms x,ms[m]? ≠some x
 |y::ys,x,h=>by
  unfold idxL
  by_cases e:y=x
  ·rw[if_pos e];exact⟨by simp[e],λm bv=>absurd bv (RX _)⟩
  ·rw[if_neg e];have a_:x∈ys:=by
    rcases QW.mp h with z|z
    ·exact absurd z.symm e
    ·exact z
   obtain⟨ap,a'⟩:=lA a_;refine⟨by simpa using ap,λm bv=>?_⟩;cases m with
   |zero=>simpa using e
   |succ m=>simpa using a' m (by omega)
theorem ZbN{ms:List Int}{x:Int}(h:x∈ms):idxL ms x<ms.length:=(QP.mp (lA h).1).1
noncomputable def inB (ms:List Int) (b:B5):B5:=⟨idxL ms b.giver,idxL ms b.taker,b.give,b.take,b.start⟩
noncomputable def inT (ms:List Int) (b:B5):Bool:=decide (b.giver∈ms)&&decide (b.taker∈ms)
noncomputable def c4 (ls:List B5) (ms:List Int):List B5:=(ls.filter (inT ms)).map (inB ms)
theorem Zai{ls:List B5}{ms:List Int}:ZN (c4 ls ms) ms.length:=λb ao=>by
 obtain⟨x,a_,rfl⟩:=Q3.mp ao;have h:=(Ro.mp a_).2;unfold inT at h;rw[Rz,decide_eq_true_eq,decide_eq_true_eq] at h;have ap:=ZbN h.1;have a':=ZbN h.2;show 0≤((idxL ms x.giver:Nat):Int)∧((idxL ms x.giver:Nat):Int)<ms.length∧0≤((idxL ms x.taker:Nat):Int)∧((idxL ms x.taker:Nat):Int)<ms.length;omega
theorem Ziv{ls:List B5}{ms:List Int}:(c4 ls ms).length≤ls.length:=by
 unfold c4;rw[QM];exact Rm _ _
theorem Ao(f:Int→Int)(ms:List Int):(turnsK f ms).map (·.2)=(ms.map f).map V.int:=by unfold turnsK;rw[Rt,Rt];rfl
theorem ZgL(f:Int→Int)(ms:List Int):(turnsK f ms).map (λkv=>kV kv.1)=ms.map V.int:=by unfold turnsK;rw[Rt];rfl
theorem ZjU{ls:List B5}{st rs:List Int}{c d:Nat→Nat}{bV:List Nat}(h:Fire.YM (f' ls st rs) c bV d):∀w∈bV,w<rs.length:=by
 induction h with
 |nil c=>intro w hw;cases hw
 | @cons c d w bV de bn bM=>
  intro v b8;rcases QW.mp b8 with z|z
  ·rw[z];exact de.1
  ·exact bM v z
noncomputable def p8 (kept ms:List Int) (mn x:Int):Nat:=if x∈ms then idxL kept mn else idxL kept x
noncomputable def tvJ (f:Int→Int) (ms:List Int) (x:Int):Int:=if x∈ms then f x else 1
noncomputable def joB (f:Int→Int) (ms:List Int) (pl:Int→Nat) (b:B5):B5:=⟨pl b.giver,pl b.taker,b.give*tvJ f ms b.giver,b.take*tvJ f ms b.taker,b.start⟩
noncomputable def kC (f:Int→Int) (ms:List Int) (pl:Int→Nat) (ls:List B5):List B5:=(ls.filter λb=>!inT ms b).map (joB f ms pl)
theorem Zki(f:Int→Int)(ms:List Int)(x:Int):valV (turnsK f ms) (Sum.inl x)=if x∈ms then some (V.int (f x)) else none:=by
 by_cases h:x∈ms
 ·rw[if_pos h,p7 h]
 ·rw[if_neg h,Am h]
theorem Zdz(f:Int→Int)(ms:List Int)(x:Int):(valV (turnsK f ms) (Sum.inl x)).isSome=decide (x∈ms):=by
 rw[Zki]
 split<;>simp[*]
structure JM where
 inner:List Int
 kept:List Nat
 joined:Nat
 called:List Str
 rows:List B5
def Y0{K:Frag}{mg:Str→Option Value}(T:Tp K mg)(H:Hp)(p:Addr)(jm:JM)(ad:List Addr):Prop:=
 ∃(bu a b c d:Addr)(bs:List V),ad=[p,a,b,c,d]∧H p=some (.ins T.c bu [("inner_row",.ref a),("kept",.ref b),("joined",.int jm.joined),("called",.ref c),("rows",.ref d)])∧H a=some (.lst (jm.inner.map V.int))∧H b=some (.lst ((jm.kept.map λx:Nat=>(x:Int)).map V.int))∧H c=some (.lst (jm.called.map V.str))∧H d=some (.lst bs)∧d5 H bs jm.rows
theorem Y0.off{K:Frag}{mg:Str→Option Value}{T:Tp K mg}{H ae:Hp}{p:Addr}{jm:JM}{ad A:List Addr}(h:Y0 T H p jm ad)(f:cX A H ae)(o:∀x∈ad,x∉A):Y0 T ae p jm ad:=by
 obtain⟨bu,a,b,c,d,bs,rfl,ap,a',bU,cD,dJ,c'⟩:=h;exact⟨bu,a,b,c,d,bs,rfl,f.keep _ _ ap (o _ (by simp)),f.keep _ _ a' (o _ (by simp)),f.keep _ _ bU (o _ (by simp)),f.keep _ _ cD (o _ (by simp)),f.keep _ _ dJ (o _ (by simp)),c'.keep f.tups⟩
theorem Y0.same{K:Frag}{mg:Str→Option Value}{T:Tp K mg}{H ae:Hp}{p:Addr}{jm:JM}{ad:List Addr}(h:Y0 T H p jm ad)(s:Ze H ae):Y0 T ae p jm ad:=h.off (A:=[]) s.frame (by simp)
theorem Y0.dom{K:Frag}{mg:Str→Option Value}{T:Tp K mg}{H:Hp}{p:Addr}{jm:JM}{ad:List Addr}(h:Y0 T H p jm ad):∀x∈ad,H x≠none:=by
 obtain⟨bu,a,b,c,d,bs,rfl,ap,a',bU,cD,dJ,c'⟩:=h;intro x a_ z;simp only[QW,Ru,or_false] at a_;rcases a_ with rfl|rfl|rfl|rfl|rfl<;>simp_all
theorem Zia{K:Frag}{mg:Str→Option Value}{T:Tp K mg}{H:Hp}{p:Addr}{jm:JM}{ad:List Addr}{m:Str}{G:Prop}(h:Y0 T H p jm ad)(fe:(m== "inner_row")=false)(fY:(m== "kept")=false)(u4:(m== "joined")=false)(u5:(m== "called")=false)(rW:(m== "rows")=false)(q:G):∃a bu fs,V.ref p= .ref a∧H a=some (.ins T.c bu fs)∧fs.lookup m=none∧G:=by
 obtain⟨bu,a,b,c,d,bs,_,ap,_⟩:=h;exact⟨p,bu,_,rfl,ap,Rd.lk1 fe (Rd.lk1 fY (Rd.lk1 u4 (Rd.lk1 u5 (Rd.lk1 rW Rd.lkN)))),q⟩
noncomputable def mQ (ms:List Int) (mn:Int) (w:Nat):Bool:=decide ((w:Int)=mn)|| !decide ((w:Int)∈ms)
noncomputable def fU (n:Nat) (ms:List Int) (mn:Int):List Nat:=(List.range n).filter (mQ ms mn)
noncomputable def fE (n:Nat) (ms:List Int) (mn:Int):List Int:=(fU n ms mn).map λx:Nat=>(x:Int)
noncomputable def jmOf (ag:HM) (rs ms:List Int) (mn:Int) (bV:List Nat):JM:=
 ⟨bV.map λw=>ms.getD w 0,fU ag.names.length ms mn,idxL (fE ag.names.length ms mn) mn,(fU ag.names.length ms mn).map λw=>ag.names.getD w "",kC (turnV rs ms) ms (p8 (fE ag.names.length ms mn) ms mn) ag.belts⟩
theorem Zbq{n:Nat}{ms:List Int}{mn x:Int}:x∈fE n ms mn↔(0≤x∧x<(n:Int))∧(x=mn∨x∉ms):=by
 unfold fE fU;rw[Q3]
 constructor
 ·rintro⟨w,hw,rfl⟩;obtain⟨ap,a'⟩:=Ro.mp hw;have:=Rc.mp ap;refine⟨by omega,?_⟩;unfold mQ at a';simpa using a'
 ·rintro⟨⟨cw,ap⟩,a'⟩;obtain⟨w,rfl⟩:=Ri cw;refine⟨w,Ro.mpr ⟨Rc.mpr (by omega),?_⟩,rfl⟩;unfold mQ;simpa using a'
theorem Hg{n:Nat}{ms:List Int}{mn:Int}:(fE n ms mn).Nodup:=by
 unfold fE fU;rw[Rl,qaE];exact(Rl.mp ((List.nodup_range (n:=n)).filter (mQ ms mn))).imp λh z=>h (by omega)
theorem Zeo{n:Nat}{ms:List Int}{mn:Int}:(fU n ms mn).length≤n:=by
 unfold fU;exact QZ (Rm _ _) (by rw[R8];exact QQ _)
theorem ZdK{g:Nat→Nat}:∀(n:Nat){ms:List Nat},ms.Nodup→(∀m∈ms,m<n)→(ms.map g).sum≤((List.range n).map g).sum
 |0,ms,_,h=>by
  obtain rfl:ms=[]:=List.eq_nil_iff_forall_not_mem.mpr λm bv=>absurd (h m bv) (RX _);exact QQ _
 |n+1,ms,nd,h=>by
  rw[qaa,Rv,List.sum_append]
  by_cases bG:n∈ms
  ·have e:(ms.map g).sum=g n+((ms.erase n).map g).sum:=by rw[((List.perm_cons_erase bG).map g).sum_nat];simp
   have bM:=ZdK (g:=g) n (nd.erase n) λm bv=>by
    obtain⟨ap,a'⟩:=(nd.mem_erase_iff).mp bv;have:=h m a';omega
   rw[e];simp;omega
  ·have bM:=ZdK (g:=g) n nd λm bv=>by
    have:=h m bv;have:m≠n:=λz=>bG (z▸bv);omega
   omega
theorem ZiD(rs:List Int)(h:∀r∈rs,0≤r):(((List.range rs.length).map λi=>(rs.getD i 0).toNat).sum:Int)=rs.sum:=by
 have e:(List.range rs.length).map (λi=>(rs.getD i 0).toNat)=rs.map Int.toNat:=by
  refine GM (by simp) λi ap a'=>?_;have:i<rs.length:=by simpa using ap
  simp[List.getD,this]
 rw[e];clear e
 induction rs with
 |nil=>rfl
 |cons r rs bM=>
  have ap:=h r (by simp);have a':=bM λx a_=>h x (by simp[a_]);simp only[List.map_cons,qa3] at*;omega
theorem rZ{rs ms:List Int}(bz:∀r∈rs,1≤r)(bG:ms.Nodup)(eu:ms≠[])(bv:∀m∈ms,0≤m∧m<(rs.length:Int)):(ms.map (turnV rs ms)).sum≤rs.sum∧∀m∈ms,1≤turnV rs ms m∧turnV rs ms m≤rs.getD m.toNat 0∧turnV rs ms m*(gcdM rs ms:Int)=rs.getD m.toNat 0:=by
 have at_:∀m∈ms,1≤rs.getD m.toNat 0:=λm h=>by
  obtain⟨cw,ap⟩:=bv m h;have:m.toNat<rs.length:=by omega
  have e:rs.getD m.toNat 0=rs[m.toNat]:=by simp[List.getD,this]
  rw[e];exact bz _ (QO this)
 have Ap:∀m∈ms,((gcdM rs ms:Nat):Int) ∣ rs.getD m.toNat 0:=λm h=>by
  have eR:∀(l:List Int)(a:Nat),(l.foldl (λa m=>Nat.gcd a (rs.getD m.toNat 0).toNat) a ∣ a)∧∀m∈l,l.foldl (λa m=>Nat.gcd a (rs.getD m.toNat 0).toNat) a ∣ (rs.getD m.toNat 0).toNat:=by
   intro l
   induction l with
   |nil=>exact λa=>⟨Nat.dvd_refl _,by simp⟩
   |cons x l bM=>
    intro a;obtain⟨ap,a'⟩:=bM (Nat.gcd a (rs.getD x.toNat 0).toNat);refine⟨qaC ap (R7 _ _),λm bv=>?_⟩;rcases QW.mp bv with rfl|z
    ·exact qaC ap (RD _ _)
    ·exact a' m z
  have bU:=(eR ms 0).2 m h;have cD:=Int.ofNat_dvd.mpr bU;have:=at_ m h;rw[Rs (by omega)] at cD;exact cD
 have dC:=Zct (rs:=rs) eu λm h=>(by have:=at_ m h;omega);have lB:∀m∈ms,1≤turnV rs ms m∧turnV rs ms m≤rs.getD m.toNat 0∧turnV rs ms m*(gcdM rs ms:Int)=rs.getD m.toNat 0:=λm h=>by
  have ap:=at_ m h;have e:turnV rs ms m*(gcdM rs ms:Int)=rs.getD m.toNat 0:=Int.ediv_mul_cancel (Ap m h);have eZ:1≤turnV rs ms m:=by
   by_cases z:turnV rs ms m≤0
   ·have:=Int.mul_le_mul_of_nonneg_right z (show(0:Int)≤(gcdM rs ms:Int) by omega);omega
   ·omega
  refine⟨eZ,?_,e⟩;have:=Int.mul_le_mul_of_nonneg_left (show(1:Int)≤(gcdM rs ms:Int) by omega) (show(0:Int)≤turnV rs ms m by omega);omega
 refine⟨?_,lB⟩;have bq:=ZdK (g:=λi=>(rs.getD i 0).toNat) rs.length (ms:=ms.map Int.toNat) (by
  rw[Rl,qaE];refine(Rl.mp bG).imp_of_mem λ{a b} bB ao ne e=>ne ?_;have:=bv a bB;have:=bv b ao;omega) (λm h=>by
  obtain⟨x,a_,rfl⟩:=Q3.mp h;have:=bv x a_;omega)
 have bJ:=ZiD rs λr bn=>(by have:=bz r bn;omega);have bO:∀l:List Int,(∀m∈l,m∈ms)→(l.map (turnV rs ms)).sum≤((((l.map Int.toNat).map λi=>(rs.getD i 0).toNat).sum:Nat):Int):=by
  intro l
  induction l with
  |nil=>intro _;simp
  |cons x l bM=>
   intro ag;have ap:=bM λm h=>ag m (by simp[h]);have a':=lB x (ag x (by simp));have bU:=at_ x (ag x (by simp));simp only[List.map_cons,qa3] at*;omega
 have:=bO ms λ_ h=>h;omega
theorem Zha{rs:List Int}(h:∀r∈rs,0≤r):∀r∈rs,r≤rs.sum:=by
 induction rs with
 |nil=>simp
 |cons x rs bM=>
  intro r bn;have cw:=h x (by simp);have ap:0≤rs.sum:=by
   clear bM bn
   induction rs with
   |nil=>simp
   |cons y rs Hh=>
    have:=h y (by simp);have:=Hh (λr bn=>h r (by simp only[QW] at *;rcases bn with z|z<;>simp[z]));simp only[qa3];omega
  rw[qa3];rcases QW.mp bn with rfl|z
  ·omega
  ·have:=bM (λr bn=>h r (by simp[bn])) r z;omega
noncomputable def lC (jm:JM) (k:Int):List Int:=if k=(jm.joined:Int) then jm.inner else[((jm.kept.getD k.toNat 0:Nat):Int)]
noncomputable def jT (jm:JM) (cf:List Int):List Int:=cf.flatMap (lC jm)
theorem ZkY{jm:JM}{k:Int}:(lC jm k).length≤jm.inner.length+1:=by
 unfold lC
 split
 ·omega
 ·simp
theorem Zfm{jm:JM}:∀cf:List Int,(jT jm cf).length≤cf.length*(jm.inner.length+1)
 | []=>by simp[jT]
 |k::cf=>by
  have ap:=Zfm (jm:=jm) cf;have a':=ZkY (jm:=jm) (k:=k);unfold jT at*;rw[List.flatMap_cons,Rj,List.length_cons,Nat.succ_mul];omega
theorem ZjG{jm:JM}{cf:List Int}{k:Int}:jT jm (cf++ [k])=jT jm cf++lC jm k:=by
 unfold jT;rw[List.flatMap_append];simp
theorem Zbx{ns:List Int}{k:Int}(cw:0≤k)(ap:k<ns.length):atI (ns.map V.int) k=some (.int (ns.getD k.toNat 0)):=Vp cw ap
theorem u7{n:Nat}{a:Int}(h:a.natAbs<2 ^ n):Builtin.Int.intBits a≤n:=by
 unfold Builtin.Int.intBits
 split
 ·exact Q5 _
 ·rename_i hz;have cw:a.natAbs≠0:=by
   intro e;apply hz;have:a=0:=by omega
   rw[this]
   rfl
  have:=(qaX cw).mpr h;omega
theorem mulI{n m:Nat}{a b:Int}(bB:a.natAbs<2 ^ n)(ao:b.natAbs<2 ^ m)(h:n+m≤10000000):IntMulOk a b:=by
 have fy:=u7 bB;have hV:=u7 ao;have k:Builtin.Int.intTooBig ((Builtin.Int.intBits a:Int)+(Builtin.Int.intBits b:Int))=false:=by
  unfold Builtin.Int.intTooBig;rw[PySem.bitsLine_eq];exact decide_eq_false (by omega)
 unfold IntMulOk;rw[k];simp
theorem Hi:∀i<26,("abcdefghijklmnopqrstuvwxyz" :Str).cps.toList[i]? =some (97+i):=by decide+kernel
theorem Hj:("abcdefghijklmnopqrstuvwxyz" :Str).length≤sizeLine:=by decide+kernel
theorem Hk{i:Int}(cw:0≤i)(ap:i<26):atI ("abcdefghijklmnopqrstuvwxyz" :Str).cps.toList i=some (97+i.toNat):=by
 have:=gj (Hi i.toNat (by omega))
 rwa [Rs cw] at this
theorem Zht(x:Str):gJ x=true↔1≤x.length∧x.length≤8∧∀c∈x.cps.toList,97≤c∧c≤122:=by
 unfold gJ;simp only[Rz,decide_eq_true_eq,RC];exact⟨λh=>⟨h.1.1,h.1.2,h.2⟩,λh=>⟨⟨h.1,h.2.1⟩,h.2.2⟩⟩
theorem ZhG(x y:Str):(x++y).cps.toList=x.cps.toList++y.cps.toList:=by
 show(x.cps++y.cps).toList=_;simp
theorem u8(x:Str):x.length=x.cps.toList.length:=by simp[Str.length]
noncomputable def cellX (ns:List Int) (k:Int):Int:=if(ns.length:Int)=0 then 0 else if k / ns.length=0 then ns.getD (k % ns.length).toNat 0 else ns.getD (k % ns.length).toNat 0*(2*(k / ns.length)+1) % 1000003+31*(k / ns.length)
theorem u9{n:Nat}(h:n≤100000000):(n:Int).natAbs.log2<9000:=by
 rw[qaV]
 by_cases cw:n=0
 ·rw[cw];decide+kernel
 ·have:=(qaX cw).mpr (show n<2 ^ 30 by omega);omega
theorem Aq{x:Int}(cw:0≤x)(ap:x≤100000000):x.natAbs.log2<9000:=by
 obtain⟨n,rfl⟩:=Ri cw;exact u9 (by omega)
structure Bel(n:Nat)(b:B5):Prop where
 rg:0≤b.giver∧b.giver<(n:Int)∧0≤b.taker∧b.taker<(n:Int)
 sz:1≤b.give∧1≤b.take
 st:0≤b.start
 few:b.give≤10 ^ 24∧b.take≤10 ^ 24
def Znf(rs:List Int):Prop:=∀r∈rs,1≤r∧r≤6
theorem Zns{f x y:Nat}(a_:1≤x):f*y / Nat.gcd x y*x=f*x / Nat.gcd x y*y:=by
 have dC:0<Nat.gcd x y:=qah _ a_;obtain⟨a,bB⟩:=R7 x y;obtain⟨b,ao⟩:=RD x y;generalize Nat.gcd x y=g at*;subst bB ao;have bD:f*(g*b) / g=f*b:=by rw[Rf];exact Nat.mul_div_cancel_left _ dC
 have bI:f*(g*a) / g=f*a:=by rw[Rf];exact Nat.mul_div_cancel_left _ dC
 rw[bD,bI];simp only[Rh,Rf,RO]
theorem ZcV{H ax bo:Hp}{fp mR:List Addr}(s:Ze H ax)(n:∀x∈fp,H x=none)(fD:cX fp ax bo)(gr:VW fp mR ax):Ze H bo∧∀x∈mR,H x=none:=by
 refine⟨λb o e=>fD.keep _ _ (s _ _ e) (λz=>by have:=n b z;rw[e] at this;cases this),λx a_=>?_⟩;rcases gr x a_ with z|z
 ·exact n x z
 ·exact ev s z
noncomputable def chN (c at_:Int) (k p:Nat):Nat:=97+((if(p:Int)=at_ then c / 64+3*(k:Int) else c / (64+(p:Int))) % 26).toNat
theorem ZmR(c at_:Int)(k p:Nat):97≤chN c at_ k p∧chN c at_ k p≤122:=by unfold chN;omega
theorem ZmG{c at_:Int}{k k' p:Nat}(bz:(p:Int)=at_)(h:k<8)(h':k'<8)(n:k≠k'):chN c at_ k p≠chN c at_ k' p:=by
 unfold chN;rw[if_pos bz,if_pos bz];omega
structure U5(c at_:Int)(gv:Nat)(cE:List Str):Prop where
 cps:∀k x,cE[k]? =some x→x.cps.toList=(List.range gv).map (chN c at_ k)
theorem U5.name{c at_:Int}{gv:Nat}{cE:List Str}(h:U5 c at_ gv cE)(ap:1≤gv)(a':gv≤8):∀n∈cE,gJ n=true:=λn bG=>by
 obtain⟨k,bp⟩:=RM bG;have e:=h.cps k n bp;rw[Zht,u8,e];refine⟨by simpa using ap,by simpa using a',λx a_=>?_⟩;obtain⟨i,_,rfl⟩:=Q3.mp a_;exact ZmR c at_ k i
theorem U5.nodup{c at_:Int}{gv:Nat}{cE:List Str}(h:U5 c at_ gv cE)(ag:cE.length≤8)(cw:0≤at_)(ap:at_<(gv:Int)):cE.Nodup:=by
 rw[Rl,RQ];intro i j hi bw rq e;have bD:=h.cps i _ (QN hi);have bI:=h.cps j _ (QN bw);rw[e,bI] at bD;have bz:at_.toNat<gv:=by omega
 have c6:=congrArg (λl=>l[at_.toNat]?) bD;simp[bz] at c6;exact ZmG (c:=c) (at_:=at_) (k:=j) (k':=i) (p:=at_.toNat) (by omega) (by omega) (by omega) (by omega) c6
noncomputable def labT (E:List (Nat×Nat)) (n w:Nat):Nat:=Pc.Z9 E n (λi=>i) w
noncomputable def dv (ls:List B5):List (Nat×Nat):=ls.map λb=>(b.giver.toNat,b.taker.toNat)
theorem ZfS{ls:List B5}{n:Nat}(h:ZN ls n):∀e∈dv ls,e.1<n∧e.2<n:=by
 intro e bH;obtain⟨b,ao,rfl⟩:=Q3.mp bH;have:=h b ao;dsimp only;omega
theorem ZjA{ls:List B5}{n:Nat}(ao:ZN ls n){a b:Nat}(h:Pc.Z8 (dv ls) a b):Fo.Wo (e3 ls) (a:Int) (b:Int):=by
 induction h with
 |refl=>exact .refl
 |fwd _ e bM=>
  obtain⟨x,a_,bI⟩:=Q3.mp e;obtain⟨i,hi,rfl⟩:=Q4 a_;have bn:=ao _ a_
  injection bI with c6 gV
  refine .step (t:=(i:Int)) (al:=true) bM (nV hi ?_);rw[YQ,eS hi];exact .inl ⟨by omega,by congr 1;omega⟩
 |bwd _ e bM=>
  obtain⟨x,a_,bI⟩:=Q3.mp e;obtain⟨i,hi,rfl⟩:=Q4 a_;have bn:=ao _ a_
  injection bI with c6 gV
  refine .step (t:=(i:Int)) (al:=false) bM (nV hi ?_);rw[YQ,eS hi];exact .inr ⟨by omega,by congr 1;omega⟩
theorem Zme{E:List (Nat×Nat)}{n:Nat}(f7:∀e∈E,e.1<n∧e.2<n){a b:Nat}(bB:a<n)(ao:b<n)(h:Pc.Z8 E a b):labT E n a=labT E n b:=by
 obtain⟨hb,jo⟩:=Pc.Uj f7 bB;obtain⟨fQ,nP⟩:=Pc.Uj f7 ao;have ap:=jo _ (h.trans fQ);have a':=nP _ (h.symm.trans hb);unfold labT;omega
theorem Zeh{xs ys:List Int}(ap:xs.Pairwise (· ≤·))(a':ys.Pairwise (· ≤·))(p:xs.Perm ys):xs=ys:=List.Perm.eq_of_pairwise (le:=(· ≤·)) (λa b _ _ h k=>Int.le_antisymm h k) ap a' p
noncomputable def fr (f:Nat→Nat) (m:Nat):List Int:=(List.range m).map λw=>((f w:Nat):Int)
theorem ZkW(f:Nat→Nat)(m:Nat):(fr f m).length=m:=by simp[fr]
theorem ZbK{f:Nat→Nat}{m g:Nat}(h:g<m):atI ((fr f m).map V.int) (g:Int)=some (.int (f g:Nat)):=gj (by simp[fr,h])
theorem Zjc{f:Nat→Nat}{m:Nat}{e:Nat×Nat}(ap:e.1<m)(a':e.2<m):((fr f m).set e.1 ((min (f e.1) (f e.2):Nat):Int)).set e.2 ((min (f e.1) (f e.2):Nat):Int)=fr (Pc.step f e) m:=by
 refine GM (by simp[fr]) λj a1 a2=>?_;have bw:j<m:=by simpa[fr] using a2
 rw[qa0,qa0];simp only[fr,qav,List.getElem_range,Pc.step]
 by_cases fQ:e.2=j
 ·rw[if_pos fQ,if_pos (.inr fQ.symm)]
 ·rw[if_neg fQ]
  by_cases hb:e.1=j
  ·rw[if_pos hb,if_pos (.inl hb.symm)]
  ·rw[if_neg hb,if_neg (λz=>z.elim (λy=>hb y.symm) (λy=>fQ y.symm))]
theorem Zg3{ls:List B5}{ys:List Int}(br:∀j<ls.length,((ls.getD j dB).giver∈ys↔(ls.getD j dB).taker∈ys)){a w:Int}(h:Fo.Wo (e3 ls) a w)(bB:a∈ys):w∈ys:=by
 induction h with
 |refl=>exact bB
 |step _ m bM=>
  obtain⟨i,hi,bv⟩:=VO m;rcases YQ.mp bv with⟨bD,bI⟩|⟨bD,bI⟩
  ·have c6:=congrArg Prod.fst bI;dsimp only at c6;rw[c6];exact(br i hi).mp (bD▸bM)
  ·have c6:=congrArg Prod.fst bI;dsimp only at c6;rw[c6];exact(br i hi).mpr (bD▸bM)
noncomputable def n3 (rs:List Int) (ys:List Int):Nat:=ys.foldl (λc w=>Nat.gcd c (rs.getD w.toNat 0).toNat) 0
theorem u_(rs:List Int):∀(ys:List Int)(c:Nat),ys.foldl (λc w=>Nat.gcd c (rs.getD w.toNat 0).toNat) c ∣ c∧∀w∈ys,ys.foldl (λc w=>Nat.gcd c (rs.getD w.toNat 0).toNat) c ∣ (rs.getD w.toNat 0).toNat
 | [],c=>⟨Nat.dvd_refl c,by simp⟩
 |w::ys,c=>by
  obtain⟨ap,a'⟩:=u_ rs ys (Nat.gcd c (rs.getD w.toNat 0).toNat);refine⟨qaC ap (R7 _ _),λv b8=>?_⟩;rcases QW.mp b8 with z|z
  ·rw[z];exact qaC ap (RD _ _)
  ·exact a' v z
def Zaf(ls:List B5)(n:Nat)(rs:List Int):Prop:=∀(f:Int)(ys:List Int),0≤f→f<(n:Int)→f∈ys→(∀j<ls.length,((ls.getD j dB).giver∈ys↔(ls.getD j dB).taker∈ys))→n3 rs ys=1
theorem ZkC{ls:List B5}{n:Nat}{F:List (Int×Fo.ZP)}{rs:List Int}(eT:Fo.W4 (e3 ls) n F n)(fT:∀x∈F,mK ls x rs):Zaf ls n rs:=by
 intro f ys dz f1 bE br;obtain⟨x,a_,bp⟩:=eT.all f dz f1;obtain⟨bF,iZ,_,_⟩:=eT.tree x a_;obtain⟨zs,hz,mS⟩:=fT x a_;refine ZgK bF hz λy bP=>?_;have r0:y.1∈Fo.keys x.2:=by
  have ap:=hz.keys;have a':(Fo.keys x.2).take x.2.length=Fo.keys x.2:=RP (by simp[Fo.keys]);rw[a'] at ap;rw[←ap];exact Q3.mpr ⟨y,bP,rfl⟩
 have bU:=(bF.keys_iff iZ y.1).mp r0;have cD:=(bF.keys_iff iZ f).mp bp;have dJ:y.1∈ys:=Zg3 br (Fo.Wo.trans (Fo.Wo.symm (rO ls) cD) bU) bE;have c':=(u_ rs ys 0).2 _ dJ;have jt:=mS y bP;have mP:rs.getD y.1.toNat 0=((lcmL zs / y.2.2*y.2.1:Nat):Int):=by rw[List.getD,jt];rfl
 rw[mP,QT] at c';exact c'
section
variable {ls:List B5}{n:Nat}{rs rs':List Int}
theorem ZfV{rs rs':List Int}{a b:Nat}:∀(ys:List Int)(c e:Nat),c*b=a*e→(∀v∈ys,(rs.getD v.toNat 0).toNat*b=a*(rs'.getD v.toNat 0).toNat)→ys.foldl (λc w=>Nat.gcd c (rs.getD w.toNat 0).toNat) c*b=a*ys.foldl (λc w=>Nat.gcd c (rs'.getD w.toNat 0).toNat) e
 | [],c,e,h,_=>h
 |v::ys,c,e,h,q=>by
  refine ZfV ys _ _ ?_ λw hw=>q w (by simp[hw]);rw[←Nat.gcd_mul_right,h,q v (by simp),Nat.gcd_mul_left]
theorem ZhS(c_:ZN ls n)(hsz:Wh ls)(ag:rs.length=n)(fb:rs'.length=n)(b_:∀r∈rs,1≤r)(cO:∀r∈rs',1≤r)(k1:Zcs ls rs)(k2:Zcs ls rs')(jo:Zaf ls n rs)(nP:Zaf ls n rs'):rs'=rs:=by
 have bz:∀{xs:List Int},xs.length=n→(∀r∈xs,1≤r)→∀v:Nat,v<n→1≤xs.getD v 0:=λ{xs} e q v b8=>by
  rw[eS (by rw[e];exact b8)];exact q _ (QO _)
 refine GM (by rw[ag,fb]) λw a1 a2=>?_;have hw:w<n:=by rw[←ag];exact a2
 rw[←eS (d:=0) a1,←eS (d:=0) a2]
 classical
 obtain⟨ys,r1⟩:∃ys:List Int,∀v:Int,v∈ys↔(0≤v∧v<(n:Int))∧Fo.Wo (e3 ls) w v:=by
  refine⟨((List.range n).map λv:Nat=>(v:Int)).filter λv=>decide (Fo.Wo (e3 ls) (w:Int) v),λv=>?_⟩;simp only[Ro,Q3,Rc,decide_eq_true_eq]
  constructor
  ·rintro⟨⟨u,hu,rfl⟩,bR⟩;exact⟨⟨by omega,by omega⟩,bR⟩
  ·rintro⟨⟨a,b⟩,bR⟩;exact⟨⟨v.toNat,by omega,by omega⟩,bR⟩
 have cl:∀j<ls.length,((ls.getD j dB).giver∈ys↔(ls.getD j dB).taker∈ys):=λj bw=>by
  obtain⟨fy,hV,mT,n4⟩:=c_.at bw;rw[r1,r1]
  constructor
  ·rintro⟨_,bR⟩;exact⟨⟨mT,n4⟩,.step bR (nV bw (YQ.mpr (.inl ⟨rfl,rfl⟩)))⟩
  ·rintro⟨_,bR⟩;exact⟨⟨fy,hV⟩,.step bR (nV bw (YQ.mpr (.inr ⟨rfl,rfl⟩)))⟩
 have Ar:(w:Int)∈ys:=(r1 _).mpr ⟨⟨by omega,by omega⟩,.refl⟩;have g1:=jo (w:Int) ys (by omega) (by omega) Ar cl;have g2:=nP (w:Int) ys (by omega) (by omega) Ar cl;have eR:∀v,Fo.Wo (e3 ls) (w:Int) v→(rs.getD v.toNat 0).toNat*(rs'.getD w 0).toNat=(rs.getD w 0).toNat*(rs'.getD v.toNat 0).toNat:=by
  intro v b8
  induction b8 with
  |refl=>rw[QT]
  | @step b c t al _ m bM=>
   obtain⟨i,hi,bv⟩:=VO m;have e':=k1 (ls.getD i dB) (by rw[eS hi];exact QO hi);have As:=k2 (ls.getD i dB) (by rw[eS hi];exact QO hi);obtain⟨cQ,bT,dC,fS,_,_,eg,dE⟩:=hsz i hi;obtain⟨fy,hV,mT,n4⟩:=c_.at hi;have f9:=YQ.mp bv;generalize ls.getD i dB=bb at*;have eZ:=bz ag b_ bb.giver.toNat (by omega);have iO:=bz ag b_ bb.taker.toNat (by omega);have ku:=bz fb cO bb.giver.toNat (by omega);have Hl:=bz fb cO bb.taker.toNat (by omega);obtain⟨A,u'⟩:∃A:Nat,rs.getD bb.giver.toNat 0=(A:Int):=⟨(rs.getD bb.giver.toNat 0).toNat,by omega⟩;obtain⟨B,n5⟩:∃B:Nat,rs.getD bb.taker.toNat 0=(B:Int):=⟨(rs.getD bb.taker.toNat 0).toNat,by omega⟩;obtain⟨fa,va⟩:∃A:Nat,rs'.getD bb.giver.toNat 0=(A:Int):=⟨(rs'.getD bb.giver.toNat 0).toNat,by omega⟩;obtain⟨r2,vb⟩:∃B:Nat,rs'.getD bb.taker.toNat 0=(B:Int):=⟨(rs'.getD bb.taker.toNat 0).toNat,by omega⟩;rw[u',n5,eg,dE] at e';rw[va,vb,eg,dE] at As;have At:cQ*A=bT*B:=by exact_mod_cast e'
   have pm:cQ*fa=bT*r2:=by exact_mod_cast As
   generalize (rs'.getD w 0).toNat=R at*;generalize (rs.getD w 0).toNat=S at*;rcases f9 with⟨x1,x2⟩|⟨x1,x2⟩
   ·have x3:=congrArg Prod.fst x2;dsimp only at x3;rw[←x1,u',va] at bM;rw[x3,n5,vb];simp only[QT] at bM⊢;refine qab fS ?_
    calc bT*(B*R)=cQ*A*R:=by rw[At,Rh]
     _=cQ*(A*R):=Rh _ _ _
     _=cQ*(S*fa):=by rw[bM]
     _=S*(cQ*fa):=Rf _ _ _
     _=bT*(S*r2):=by rw[pm,Rf]
   ·have x3:=congrArg Prod.fst x2;dsimp only at x3;rw[←x1,n5,vb] at bM;rw[x3,u',va];simp only[QT] at bM⊢;refine qab dC ?_
    calc cQ*(A*R)=bT*B*R:=by rw[←At,Rh]
     _=bT*(B*R):=Rh _ _ _
     _=bT*(S*r2):=by rw[bM]
     _=S*(bT*r2):=Rf _ _ _
     _=cQ*(S*fa):=by rw[←pm,Rf]
 have a':=ZfV (rs:=rs) (rs':=rs') ys 0 0 (by simp) λv b8=>eR v ((r1 v).mp b8).2;have bU:n3 rs ys*(rs'.getD w 0).toNat=(rs.getD w 0).toNat*n3 rs' ys:=a';rw[g1,g2,Nat.one_mul,Nat.mul_one] at bU;have eZ:=bz ag b_ w hw;have iO:=bz fb cO w hw;omega
end
theorem Rts.least{ls:List B5}{n:Nat}{z:Int→Nat}{rs:List Int}(h:Rts ls n z rs):Zaf ls n rs:=let⟨_,a,b⟩:=h.wood;ZkC a b
noncomputable def gcdC (rs:List Int) (lb:Nat→Nat) (w k:Nat):Nat:=(List.range k).foldl (λa o=>if lb o=lb w then Nat.gcd a (rs.getD o 0).toNat else a) 0
noncomputable def leastL (ls:List B5) (rs:List Int):List Int:=(List.range rs.length).map λw=>rs.getD w 0 / (gcdC rs (labT (dv ls) rs.length) w rs.length:Int)
theorem vd(rs:List Int)(lb:Nat→Nat)(w k:Nat):gcdC rs lb w (k+1)=if lb k=lb w then Nat.gcd (gcdC rs lb w k) (rs.getD k 0).toNat else gcdC rs lb w k:=by
 unfold gcdC;rw[qaa,qaF]
 rfl
theorem r3{rs:List Int}{lb:Nat→Nat}{w:Nat}:∀{k o:Nat},o<k→lb o=lb w→gcdC rs lb w k ∣ (rs.getD o 0).toNat
 |k+1,o,h,e=>by
  rw[vd];rcases RH.mp h with z|rfl
  ·have bM:=r3 (rs:=rs) (lb:=lb) (w:=w) z e
   split
   ·exact qaC (R7 _ _) bM
   ·exact bM
  ·rw[if_pos e];exact RD _ _
theorem ZgY{rs:List Int}{lb:Nat→Nat}{w D:Nat}:∀{k:Nat},(∀o<k,lb o=lb w→D ∣ (rs.getD o 0).toNat)→D ∣ gcdC rs lb w k
 |0,_=>Nat.dvd_zero _
 |k+1,h=>by
  rw[vd];have bM:=ZgY (rs:=rs) (lb:=lb) (w:=w) (D:=D) (k:=k) λo bC e=>h o (by omega) e
  split
  ·rename_i e;exact Nat.dvd_gcd bM (h k (by omega) e)
  ·exact bM
structure ZgZ(ls:List B5)(rs L:List Int):Prop where
 len:L.length=rs.length
 pos:∀r∈L,1≤r
 le:∀w<rs.length,L.getD w 0≤rs.getD w 0
 bal:Zcs ls L
 least:Zaf ls rs.length L
theorem Zea{ls:List B5}{rs:List Int}{w:Nat}(hw:w<rs.length):(leastL ls rs).getD w 0=rs.getD w 0 / (gcdC rs (labT (dv ls) rs.length) w rs.length:Int):=by
 unfold leastL;simp[List.getD,hw]
theorem Zdi{rs:List Int}{lb:Nat→Nat}{w v k:Nat}(e:lb w=lb v):gcdC rs lb w k=gcdC rs lb v k:=by unfold gcdC;rw[e]
theorem Zj7{ls:List B5}{rs:List Int}(c_:ZN ls rs.length)(bz:∀r∈rs,1≤r)(ao:Zcs ls rs):ZgZ ls rs (leastL ls rs):=by
 have f7:=ZfS c_;have h6:∀w<rs.length,1≤rs.getD w 0:=λw hw=>by rw[eS hw];exact bz _ (QO hw)
 have dC:∀w<rs.length,0<gcdC rs (labT (dv ls) rs.length) w rs.length:=λw hw=>by
  have ap:=r3 (rs:=rs) (lb:=labT (dv ls) rs.length) (w:=w) hw rfl;have:=h6 w hw;exact Nat.pos_of_dvd_of_pos ap (by omega)
 have lB:∀w<rs.length,(leastL ls rs).getD w 0*(gcdC rs (labT (dv ls) rs.length) w rs.length:Int)=rs.getD w 0:=λw hw=>by
  rw[Zea hw];refine Int.ediv_mul_cancel ?_;have ap:=Int.ofNat_dvd.mpr (r3 (rs:=rs) (lb:=labT (dv ls) rs.length) (w:=w) hw rfl);have:=h6 w hw
  rwa [Rs (by omega)] at ap
 have pos:∀w<rs.length,1≤(leastL ls rs).getD w 0:=λw hw=>by
  have ap:=lB w hw;have a':=h6 w hw
  by_cases z:(leastL ls rs).getD w 0≤0
  ·have:=Int.mul_le_mul_of_nonneg_right z (show(0:Int)≤(gcdC rs (labT (dv ls) rs.length) w rs.length:Int) by omega);omega
  ·omega
 have len:(leastL ls rs).length=rs.length:=by simp[leastL]
 refine⟨len,λr bn=>?_,λw hw=>?_,λb fl=>?_,λf ys dz f1 bE br=>?_⟩
 ·obtain⟨i,hi,rfl⟩:=Q4 bn;rw[←eS (d:=0) hi];exact pos i (by omega)
 ·have ap:=lB w hw;have a':=pos w hw;have bU:=dC w hw;have:=Int.mul_le_mul_of_nonneg_left (show(1:Int)≤(gcdC rs (labT (dv ls) rs.length) w rs.length:Int) by omega) (show(0:Int)≤(leastL ls rs).getD w 0 by omega);omega
 ·obtain⟨fy,hV,mT,n4⟩:=c_ b fl;have cw:=ao b fl;have bF:b.giver.toNat<rs.length:=by omega
  have b3:b.taker.toNat<rs.length:=by omega
  have bv:(b.giver.toNat,b.taker.toNat)∈dv ls:=Q3.mpr ⟨b,fl,rfl⟩;have ag:=Zme f7 bF b3 (.fwd (.refl _) bv);have bD:=lB _ bF;have bI:=lB _ b3;rw[←Zdi (rs:=rs) (k:=rs.length) ag] at bI;rw[←bD,←bI,←Int.mul_assoc,←Int.mul_assoc] at cw;exact Int.eq_of_mul_eq_mul_right (by have:=dC _ bF;omega) cw
 ·have kj:f.toNat<rs.length:=by omega
  have ap:=(u_ (leastL ls rs) ys 0).2
  change ∀w∈ys,n3 (leastL ls rs) ys ∣ _ at ap
  have a':n3 (leastL ls rs) ys*gcdC rs (labT (dv ls) rs.length) f.toNat rs.length ∣ gcdC rs (labT (dv ls) rs.length) f.toNat rs.length:=ZgY λo bC e=>by
   have ps:=(Pc.Uj f7 kj).1;have Au:=(Pc.Uj f7 bC).1;have Av:Pc.Z8 (dv ls) f.toNat o:=ps.trans (by
    have hs:=Au.symm;unfold labT at e;rw[e] at hs;exact hs)
   have bR:=ZjA c_ Av;rw[Rs dz] at bR;have bv:=Zg3 br bR bE;have bU:=ap _ bv;rw[QT] at bU;have cD:=lB o bC;rw[Zdi (rs:=rs) (k:=rs.length) e] at cD;have dJ:(rs.getD o 0).toNat=((leastL ls rs).getD o 0).toNat*gcdC rs (labT (dv ls) rs.length) f.toNat rs.length:=by
    rw[←cD];have:=pos o bC;obtain⟨q,cq⟩:∃q:Nat,(leastL ls rs).getD o 0=(q:Int):=⟨((leastL ls rs).getD o 0).toNat,by omega⟩;rw[cq,←qaU,QT,QT]
   rw[dJ];exact Nat.mul_dvd_mul_right bU _
  have g:=dC _ kj;have bU:n3 (leastL ls rs) ys ∣ 1:=by
   refine Nat.dvd_of_mul_dvd_mul_right g ?_;rw[Nat.one_mul];exact a'
  exact Nat.eq_one_of_dvd_one bU
theorem Zj2{ls:List B5}{rs L:List Int}(h:ZgZ ls rs L)(c_:ZN ls rs.length)(hsz:Wh ls){z:Int→Nat}{rs':List Int}(de:Rts ls rs.length z rs'):rs'=L:=
 ZhS c_ hsz h.len de.len h.pos de.pos h.bal de.bal h.least de.least
noncomputable def p9 (H:Hp) (a:Addr):Hp:=λb=>if b=a then H a else none
theorem Zl0{H:Hp}{a:Addr}:p9 H a a=H a:=by unfold p9;rw[if_pos rfl]
theorem Zjv{H ae:Hp}{a:Addr}(h:ae a=H a):Ze (p9 H a) ae:=λb o e=>by
 unfold p9 at e
 split at e
 ·next z=>rw[z,h,e]
 ·cases e
theorem ve{ms:List Int}(bG:ms.Nodup){i:Nat}(hi:i<ms.length):idxL ms ms[i]=i:=by
 have ap:=(lA (QO hi)).1;have a':=ZbN (QO hi);rw[QN a'] at ap;exact(qam bG).mp (Q2 ap)
theorem r4{ms:List Int}(bG:ms.Nodup){i:Nat}(hi:i<ms.length){x:Int}(a_:x∈ms):((idxL ms x:Nat):Int)=(i:Int)↔x=ms[i]:=by
 constructor
 ·intro e;have ap:=(lA a_).1;have b6:idxL ms x=i:=by omega
  rw[b6,QN hi] at ap;exact(Q2 ap).symm
 ·rintro rfl;rw[ve bG hi]
theorem Hm{ms:List Int}(bG:ms.Nodup){i:Nat}(hi:i<ms.length){gw:List B5}{hs:List Int}(h:∀b∈gw,inT ms b=true):g4 (gw.map (inB ms)) hs (i:Int)=g4 gw hs ms[i]:=by
 unfold g4;rw[List.zip_map_left,List.all_map];rw[R9,RC,RC];refine forall_congr' λx=>forall_congr' λa_=>?_;have bv:=h x.1 (qaT a_).1;have b3:x.1.taker∈ms:=by unfold inT at bv;simp at bv;exact bv.2
 have e:decide ((inB ms x.1).taker=(i:Int))=decide (x.1.taker=ms[i]):=by
  rw[decide_eq_decide];exact r4 bG hi b3
 show(!decide ((inB ms x.1).taker=(i:Int))||decide ((inB ms x.1).take≤x.2))=true↔_;rw[e]
 rfl
theorem Hn{ms:List Int}(bG:ms.Nodup){i:Nat}(hi:i<ms.length){gw:List B5}{hs:List Int}(h:∀b∈gw,inT ms b=true):e4 (gw.map (inB ms)) hs (i:Int)=e4 gw hs ms[i]:=by
 unfold e4;rw[List.zip_map_left,Rt];refine qat λx a_=>?_;have bv:=h x.1 (qaT a_).1;have f9:x.1.giver∈ms∧x.1.taker∈ms:=by unfold inT at bv;simpa using bv
 have bD:=r4 bG hi f9.2;have bI:=r4 bG hi f9.1;show x.2-(if((idxL ms x.1.taker:Nat):Int)=(i:Int) then x.1.take else 0)+(if((idxL ms x.1.giver:Nat):Int)=(i:Int) then x.1.give else 0)=_;simp only[bD,bI]
theorem Zkg{g:Int→Int}{ms:List Int}{m v:Int}(bv:m∈ms):ec (turnsK g ms) (Sum.inl m) (V.int v)=turnsK (λx=>if x=m then v else g x) ms:=by
 unfold ec;rw[if_pos]
 ·unfold turnsK;rw[Rt];refine qat λx _=>?_
  by_cases e:x=m
  ·simp[e]
  ·have:¬(Sum.inl x:Key)=Sum.inl m:=λz=>e (qay z);simp[e]
 ·rw[qau];exact⟨(Sum.inl m,V.int (g m)),Q3.mpr ⟨m,bv,rfl⟩,by simp⟩
theorem Zcb{p:Nat→Bool}:∀{n:Nat},(List.range n).filter p≠[]→∃w,((List.range n).filter p)[0]? =some w∧w<n∧p w=true∧∀v<w,p v=false
 |0,h=>absurd rfl h
 |n+1,h=>by
  rw[qaa,qae] at h⊢
  by_cases z:(List.range n).filter p=[]
  ·rw[z] at h⊢;have bz:p n=true:=by
    by_cases y:p n=true
    ·exact y
    ·simp[y] at h
   refine⟨n,by simp[bz],by omega,bz,λv b8=>?_⟩;have:=List.filter_eq_nil_iff.mp z v (Rc.mpr b8);simpa using this
  ·obtain⟨w,ap,a',bU,cD⟩:=Zcb z;refine⟨w,?_,by omega,bU,cD⟩;rw[Ry (List.length_pos_iff.mpr z)];exact ap
theorem Ho{ls:List B5}:lieL ls (es ls) (λ_=>0)=es ls:=by
 unfold lieL fBs es;rw[Rt];refine GM (by simp) λj ap a'=>?_;simp[Fire.lie,fB]
theorem Zfz{ls:List B5}{ms:List Int}:es (c4 ls ms)=(ls.filter (inT ms)).map (·.start):=by
 unfold es c4;rw[Rt]
 rfl
theorem Hq{H:Hp}{p:B5→Bool}:∀{bs:List V}{ls:List B5},d5 H bs ls→d5 H (((List.range bs.length).filter λi=>p (ls.getD i dB)).map λi=>bs.getD i .non) (ls.filter p):=by
 intro bs ls h;have eR:∀k≤bs.length,d5 H (((List.range k).filter λi=>p (ls.getD i dB)).map λi=>bs.getD i .non) ((ls.take k).filter p):=by
  intro k
  induction k with
  |zero=>intro _;exact .nil
  |succ k bM=>
   intro bp;have ag:=h.length;have fq:k<ls.length:=by omega
   have g9:=bM (by omega);rw[qaa,qae,Rv,QR fq,qae];obtain⟨t,e5,ei⟩:=h.getD (i:=k) fq;have e:ls.getD k dB=ls[k]:=eS fq
   by_cases z:p ls[k]=true
   ·simp only[List.filter_cons,e,z,if_true,List.filter_nil,List.map_cons,List.map_nil,e5];rw[e] at ei;exact g9.snoc ei
   ·simp only[List.filter_cons,e,z,List.filter_nil,List.map_nil,qaB];simpa using g9
 have:=eR bs.length (QQ _)
 rwa [h.length,GE,←h.length] at this
theorem Aw{f:Nat→Int}:∀{is:List Nat}{ys:List V},Paired (λi v=>v=V.int (f i)) is ys→ys=(is.map f).map V.int
 |_,_,.nil=>rfl
 |_,_,.cons a r=>by rw[a,Aw r];rfl
theorem Zeb{ls:List B5}{st rs:List Int}{c d h0:Nat→Nat}{bV:List Nat}(h:Fire.YM (iA ls st rs) c bV d)(hs:∀w,¬f' ls st rs d w)(ii:∀w,¬f' ls st rs h0 w):∀{r5:List Nat},Fire.YM (iA ls st rs) c r5 h0→bV=r5:=by
 induction h with
 |nil c=>
  intro r5 a';cases a' with
  |nil=>rfl
  |cons r _=>exact absurd r.1 (hs _)
 | @cons c d w bV r _ bM=>
  intro r5 a';cases a' with
  |nil=>exact absurd r.1 (ii _)
  | @cons _ _ gd _ cM bU=>
   have e:w=gd:=by
    rcases Nat.lt_trichotomy w gd with z|z|z
    ·exact absurd r.1 (cM.2 w z)
    ·exact z
    ·exact absurd cM.1 (r.2 gd z)
   subst e;rw[bM hs bU]
theorem ZhN{ls:List B5}{st rs:List Int}{bV:List Nat}{d:Nat→Nat}(bz:∀r∈rs,0≤r)(h:Fire.YM (iA ls st rs) (λ_=>0) bV d)(ag:(bV.length:Int)=rs.sum):∀w,¬f' ls st rs d w:=λw hw=>by
 have:=Zg7 (rX h) hw;have:=ZdP bz;omega
theorem Zlw{rs:List Int}(h:∀r∈rs,r≤6):rs.sum≤6*(rs.length:Int):=by
 induction rs with
 |nil=>simp
 |cons x rs bM=>
  have ap:=h x (by simp);have a':=bM λr bn=>h r (by simp[bn]);simp only[qa3,List.length_cons];omega
theorem Zje{ls:List B5}{n:Nat}(h:∀l∈ls,Bel n l):Wh ls:=λi hi=>by
 rw[eS hi];have b:=h _ (QO hi);obtain⟨fo,ff⟩:=b.sz;obtain⟨f1,f2⟩:=b.few;generalize ls[i]=l at*;exact⟨l.give.toNat,l.take.toNat,by omega,by omega,by omega,by omega,by omega,by omega⟩
noncomputable def lD (rs:List Int) (w:Int):Nat:=if 0<(rs.getD w.toNat 0).toNat then(rs.getD w.toNat 0).toNat else 1
theorem Zfp{ls:List B5}{rs:List Int}(c_:ZN ls rs.length)(hsz:Wh ls)(jj:∀r∈rs,1≤r)(ao:Zcs ls rs):Vl ls (lD rs):=by
 have hz:∀w:Int,0≤w→w<(rs.length:Int)→((lD rs w:Nat):Int)=rs.getD w.toNat 0:=λw a b=>by
  have ap:1≤rs.getD w.toNat 0:=by rw[eS (by omega)];exact jj _ (QO _)
  unfold lD;rw[if_pos (by omega)];omega
 refine⟨λw=>by unfold lD;split<;>omega,λi hi=>?_⟩;obtain⟨cQ,bT,dC,fS,ft,dA,eg,dE⟩:=hsz i hi;obtain⟨fy,hV,mT,n4⟩:=c_.at hi;have ap:=ao (ls.getD i dB) (by rw[eS hi];exact QO hi);rw[←hz _ fy hV,←hz _ mT n4,eg,dE] at ap;rw[eg,dE,QT,QT];have:((cQ*lD rs (ls.getD i dB).giver:Nat):Int)=((bT*lD rs (ls.getD i dB).taker:Nat):Int):=by rw[qaU,qaU];exact ap
 exact Int.ofNat.inj this
local macro_rules| `(tactic|walk_at "rd")=>`(tactic|first|with_reducible (first|(show ∃a bu fs,L2.V.ref _=L2.V.ref a∧_∧List.lookup _ fs=none∧_;refine Nm.Zi1 (by with_reducible assumption) (by k_dflt (decide+kernel)) (by k_dflt (decide+kernel)) ?_)|(show ∃a bu fs,L2.V.ref _=L2.V.ref a∧_∧List.lookup _ fs=none∧_;refine Nm.Zgq (by with_reducible assumption) (by k_dflt (decide+kernel)) (by k_dflt (decide+kernel)) (by k_dflt (decide+kernel)) (by k_dflt (decide+kernel)) (by k_dflt (decide+kernel)) ?_)|(show ∃a bu fs,L2.V.ref _=L2.V.ref a∧_∧List.lookup _ fs=none∧_;refine Nm.Zia (by with_reducible assumption) (by k_dflt (decide+kernel)) (by k_dflt (decide+kernel)) (by k_dflt (decide+kernel)) (by k_dflt (decide+kernel)) (by k_dflt (decide+kernel)) ?_)|refine L2.Rd.Zoc (by with_reducible assumption) (by with_reducible assumption) (by with_reducible assumption) ?_|refine L2.Rd.Zn7 (by with_reducible assumption) (by with_reducible assumption) (by with_reducible assumption) ?_)|fail "none here")
def UG{K:Frag}{mg:Str→Option Value}(T:Tp K mg):Sp:=λvs H Q _=>∃(p:Addr)(ns:List Int)(k:Int),vs=[.ref p,.int k]∧SqL K H p (ns.map V.int)∧ns.length≤63∧0≤k∧k≤100000∧Q (.int (cellX ns k)) H
theorem Zfu{K:Frag}{mg:Str→Option Value}{T:Tp K mg}{H:Hp}{Q:VK}{E:XK}{p:Addr}{ns:List Int}{k:Int}(db:SqL K H p (ns.map V.int))(ag:ns.length≤63)(bp:0≤k∧k≤100000)(q:Q (.int (cellX ns k)) H):UG T ([.ref p,.int k]++ []) H Q E:=⟨p,ns,k,rfl,db,ag,bp.1,bp.2,q⟩
local macro_rules| `(tactic|walk_at "rd")=>`(tactic|first|((with_reducible show Nm.UG _ _ _ _ _);with_reducible refine Nm.Zfu (by walk_at "hp") (by assumption) (by omega) ?_)|fail "none here")
section
variable {P:Program}{w:World}{K:Frag}{mg:Str→Option Value}{base:Heap}
theorem p_(T:Tp K mg):OkN P w base 1 T.x0 (UG T):=by
 refine T.x0.F.okX uM (λvs H Q E h=>?_) (λcv A outer s H vs Q E bn h=>?_)
 ·obtain⟨p,ns,k,rfl,_⟩:=h
  rfl
 ·have hu:=bn.hu;obtain⟨p,ns,k,rfl,db,d1,k0,k1,q⟩:=h;unfold cellX at q;refine⟨_,(bN (dW (dw (gn (K:=K) rfl hu) (dG (fk K) (by rfl) T.f Q8 (bt (pv 0) bA)) b5 (dF _)) (bZ (c3 b5)) d4)
     (bN (cy (i:=2) uM.nd rfl (Or.inl rfl) (cI fN (pv 1) (dG (fk K) (by rfl) T.f Q8 (bt (pv 0) bA))))
     (bN (cy (i:=3) uM.nd rfl (Or.inl rfl) (cp (ixk K) (pv 0) (cI fJ (pv 1) (dG (fk K) (by rfl) T.f Q8 (bt (pv 0) bA))) (λ_ _=>rfl)))
     (bN (dW (dw (gn (K:=K) rfl hu) (pv 2) b5 (dF _)) (bZ (c3 (pv 3))) d4)
     (bZ (c3 (cI (hf K) (cI fJ (cI gI (pv 3) (cI (hf K) (cI gI b5 (pv 2)) b5)) b5) (cI gI b5 (pv 2))))))))),?_⟩
  try dsimp only[L2.cxX,L2.ZL,L2.Zl]
  walk_at "rds";refine Rd.ifD (λd=>?_) (λd=>?_)
  ·have d':(ns.length:Int)=0:=by simpa using d
   rw[if_pos d'] at q;walk_at "rds";exact q
  ·have d':¬(ns.length:Int)=0:=by simpa using d
   rw[if_neg d'] at q;have e:((ns.map V.int).length:Int)=ns.length:=by simp
   have Pg:0<((ns.map V.int).length:Int):=by omega
   have r6:((ns.map V.int).length:Int).natAbs.log2<9000:=u9 (by rw[QM];omega);have bB:=Zbx (ns:=ns) (k:=k % (ns.map V.int).length) (RY _ (by omega)) (by rw[e];exact R1 _ (by omega));have p':0≤k / ((ns.map V.int).length:Int):=Int.ediv_nonneg k0 (by omega);have vf:k / ((ns.map V.int).length:Int)≤k:=Int.ediv_le_self _ k0;have Ax:IntMulOk (ns.getD (k % ((ns.map V.int).length:Int)).toNat 0) (2*(k / ((ns.map V.int).length:Int))+1):=IntMulOk.of_right (QZ (u7 (n:=30) (by omega)) (by decide));rw[←e] at q;walk_at "rds";refine Rd.ifD (λh0=>?_) (λh0=>?_)
   ·rw[if_pos h0] at q;walk_at "rds";exact q
   ·rw[if_neg h0] at q;walk_at "rds";exact q
end
def Hr{K:Frag}{mg:Str→Option Value}(T:Tp K mg):Sp:=λvs H Q _=>∃(c:Int)(m:Nat),vs=[.int c,.int m]∧m≤8∧
 ∀(r:Addr)(ae:Hp)(cE:List Str),H r=none→Ze H ae→ae r=some (.lst (cE.map V.str))→(∀n∈cE,gJ n=true)→cE.Nodup→cE.length=m→(∃gv:Nat,∀n∈cE,n.length=gv)→Q (.ref r) ae
section
variable {P:Program}{w:World}{K:Frag}{mg:Str→Option Value}{base:Heap}
theorem Hs(T:Tp K mg):OkN P w base 1 T.x1 (Hr T):=by
 refine T.x1.F.okX jp (λvs H Q E h=>?_) (λcv A outer s H vs Q E bn h=>?_)
 ·obtain⟨c,m,rfl,_⟩:=h
  rfl
 ·have hu:=bn.hu;obtain⟨c,m,rfl,bv,q⟩:=h;have al:=Hj;refine⟨_,(bN (cy (i:=2) jp.nd rfl (Or.inl rfl) YW)
     (bN (cy (i:=3) jp.nd rfl (Or.inl rfl) (cI (hf K) b5 (cI fJ (pv 0) b5)))
     (bN (cy (i:=4) jp.nd rfl (Or.inl rfl) (cI fJ (cI fN (pv 0) b5) (pv 3)))
     (bN (cy (i:=5) jp.nd rfl (Or.inl rfl) (gF bA))
     (bN (d8 PassesOwn.leaving rfl (ih rfl T.h (bt (pv 1) bA)) (cK (i:=6) jp.nd rfl (Or.inl rfl)) (bN (cy (i:=7) jp.nd rfl (Or.inl rfl) YW)
     (bN (d8 PassesOwn.leaving rfl (ih rfl T.h (bt (pv 3) bA)) (cK (i:=8) jp.nd rfl (Or.inl rfl)) (bN (cy (i:=9) jp.nd rfl (Or.inl rfl) (cI fN (pv 0) (cI (hf K) b5 (pv 8))))
     (bN (o_ (dW (dw (gn (K:=K) rfl hu) (pv 8) (pv 4) (dF _)) (bZ (cy (i:=9) jp.nd rfl (Or.inl rfl) (cI (hf K) (cI fN (pv 0) b5) (cI gI b5 (pv 6))))) d4))
     (bZ (cy (i:=7) jp.nd rfl (Or.inl rfl) (cI (hf K) (pv 7) (cp (ixk K) (pv 2) (cI fJ (pv 9) b5) (λ_ _=>rfl))))))))
     (bZ (eB (f4 (K:=K) rfl Q1 GT fm ha (pv 5) (bt (pv 7) bA)))))))
     (bZ (c3 (pv 5)))))))),?_⟩
  try dsimp only[L2.cxX,L2.ZL,L2.Zl]
  have e6:0<1+c % 8:=by omega
  walk_at "rds";have a0:=RY (c / 8) (show 1+c % 8≠0 by omega);have a1:=R1 (c / 8) e6;generalize c / 8 % (1+c % 8)=at_ at*;obtain⟨gv,Ht⟩:∃l:Nat,1+c % 8=(l:Int):=⟨(1+c % 8).toNat,by omega⟩;rw[Ht] at a1⊢;have Hu:1≤gv:=by omega
  have Hv:gv≤8:=by omega
  refine⟨Q5 _,λr bn=>?_⟩;have bq:Ze H (upd H r (.lst [])):=cV bn;have hI:(upd H r (.lst [])) r=some (.lst (([]:List Str).map V.str)):=Zd;generalize upd H r (.lst [])=ax at*;walk_at "rds";refine WU (n:=m) (λi af ae=>∃(cE:List Str)(a6 a7 a8 a9:Option V),af=[some (.int c),some (.int m),some (.str "abcdefghijklmnopqrstuvwxyz"),some (.int gv),some (.int at_),some (.ref r),a6,a7,a8,a9]∧Ze H ae∧ae r=some (.lst (cE.map V.str))∧cE.length=i∧U5 c at_ gv cE) ⟨[],_,_,_,_,rfl,bq,hI,rfl,⟨λk x e=>by simp at e⟩⟩ ?_ ?_
  ·rintro i af bo hi ⟨cE,a6,a7,a8,a9,rfl,bJ,h7,fL,i_⟩;have hz:(cE.map V.str).length<sizeLine:=dj (by rw[QM];omega);walk_at "rds";refine WU (n:=gv) (λj af ae=>ae=bo∧∃(w:Str)(a8 a9:Option V),af=[some (.int c),some (.int m),some (.str "abcdefghijklmnopqrstuvwxyz"),some (.int gv),some (.int at_),some (.ref r),some (.int (0+(i:Int))),some (.str w),a8,a9]∧w.cps.toList=(List.range j).map (chN c at_ i)) ⟨rfl,"",_,_,rfl,rfl⟩ ?_ ?_
   ·rintro j af ae bw ⟨rfl,w,Hw,Hx,rfl,hw⟩;have l1:0<64+(0+(j:Int))∧(64+(0+(j:Int))).natAbs.log2<9000:=⟨by omega,Aq (by omega) (by omega)⟩;walk_at "rds";refine Rd.cut (λbQ bo=>bo=ae∧∃t:Int,bQ=[some (.int c),some (.int m),some (.str "abcdefghijklmnopqrstuvwxyz"),some (.int gv),some (.int at_),some (.ref r),some (.int (0+(i:Int))),some (.str w),some (.int (0+(j:Int))),some (.int t)]∧chN c at_ i j=97+(t % 26).toNat) ?k1 ?g9
    case g9=>
     walk_at "rds";refine Rd.ifD (λz=>?_) (λz=>?_)
     ·walk_at "rds";refine⟨rfl,_,rfl,?_⟩;unfold chN;rw[if_pos (by omega),RZ]
     ·walk_at "rds";refine⟨rfl,_,rfl,?_⟩;unfold chN;rw[if_neg (by omega),RZ]
    case k1=>
     rintro bQ b2 ⟨rfl,t,rfl,b3⟩;walk_at "rds";have fS:0≤t % 26:=by omega
     have mh:t % 26<26:=by omega
     refine Rd.ZoH al (Hk fS mh) ?_;rw[←b3];have gw:w.length=j:=by rw[u8,hw];simp
     refine Rd.Zmm (RW (dj (by rw[gw];show j+1≤1000;omega))) ?_;walk_at "rds";refine⟨rfl,_,_,_,rfl,?_⟩;rw[ZhG,hw,qaa,Rv]
     rfl
   ·rintro af ae ⟨rfl,w,Hw,Hx,rfl,hw⟩;walk_at "rds";refine⟨cE++ [w],_,_,_,_,rfl,bJ.new bn,by rw[Zd,Rv];rfl,by simp[fL],⟨λk x e=>?_⟩⟩;rcases qap k cE.length with z|z
    ·rw[Ry z] at e;exact i_.cps k x e
    ·rw[Rw z] at e;have bp:k-cE.length=0:=by
      rcases RK (k-cE.length) with y|y
      ·exact y
      ·rw[Rn (by simp;omega)] at e;cases e
     rw[bp] at e;obtain rfl:w=x:=by simpa using e
     have:k=i:=by omega
     rw[this];exact hw
  ·rintro af bo ⟨cE,a6,a7,a8,a9,rfl,bJ,h7,fL,i_⟩;walk_at "rds";exact q r bo cE bn bJ h7 (i_.name Hu Hv) (i_.nodup (by omega) a0 a1) fL ⟨_,λn bG=>by
    obtain⟨k,bp⟩:=RM bG;rw[u8,i_.cps k n bp,QM,R8]⟩
end
def Hy{K:Frag}{mg:Str→Option Value}(T:Tp K mg):Sp:=λvs H Q _=>∃a b:Nat,vs=[.int a,.int b]∧Q (.int (Nat.gcd a b:Nat)) H
section
variable {P:Program}{w:World}{K:Frag}{mg:Str→Option Value}{base:Heap}
theorem vg(T:Tp K mg):OkN P w base 1 T.x2 (Hy T):=by
 refine T.x2.F.okX rF (λvs H Q E h=>?_) (λcv A outer s H vs Q E bn h=>?_)
 ·obtain⟨a,b,rfl,_⟩:=h
  rfl
 ·have hu:=bn.hu;obtain⟨a0,eA,rfl,q⟩:=h;rw[←My.ZcP] at q;refine⟨_,(bN (qU PassesOwn.leaving (dw (rd (K:=K) rfl hu) (pv 1) b5 (dF _)) (bN (cy (i:=2) rF.nd rfl (Or.inl rfl) (cI fJ (pv 0) (pv 1)))
     (bN (cy (i:=0) rF.nd rfl (Or.inl rfl) (pv 1))
     (bZ (cy (i:=1) rF.nd rfl (Or.inl rfl) (pv 2))))))
     (bZ (c3 (pv 0)))),?_⟩
  try dsimp only[L2.cxX,L2.ZL,L2.Zl]
  walk_at "rd";refine Zdl (λm af ae=>ae=H∧∃(x y:Int)(r:Option V),m=y.toNat∧af=[some (.int x),some (.int y),r]∧0≤x∧0≤y∧My.G x y=My.G a0 eA) _ ⟨rfl,a0,eA,none,rfl,rfl,by omega,by omega,rfl⟩ ?_;rintro m af ae ⟨rfl,x,y,r,rfl,rfl,a_,bP,kB⟩;walk_at "rds";refine V5 (λc=>ZeX ?_) (λc=>?_)
  ·have lE:0<y:=by
    have:¬y=0:=by simpa using c
    omega
   walk_at "rds";exact⟨_,(by have:=RY x (show y≠0 by omega);have:=R1 x lE;omega),rfl,y,x % y,some (.int (x % y)),rfl,rfl,bP,RY x (by omega),(zZ a_ lE).trans kB⟩
  ·have lE:y=0:=by simpa using c
   have e:x=My.G a0 eA:=by rw[←kB,My.Zjw a_ lE]
   walk_at "rds";rw[e];exact q
end
def Hz{K:Frag}{mg:Str→Option Value}(T:Tp K mg):Sp:=λvs H Q _=>∃(a e6:Addr)(bs:List V)(ls:List B5)(rs:List Int),vs=[.ref a,.ref e6]∧SqL K H a (rs.map V.int)∧H e6=some (.lst bs)∧d5 H bs ls∧ZN ls rs.length∧rs.length≤30∧(∀r∈rs,1≤r∧r≤1000)∧
 ∀(r:Addr)(ae:Hp),H r=none→Ze H ae→ae r=some (.lst ((leastL ls rs).map V.int))→Q (.ref r) ae
section
variable {P:Program}{w:World}{K:Frag}{mg:Str→Option Value}{base:Heap}
theorem HA(T:Tp K mg):OkN P w base 2 T.x3 (Hz T):=by
 refine T.x3.F.okX jQ (λvs H Q E h=>?_) (λcv A outer s H vs Q E bn h=>?_)
 ·obtain⟨a,e6,bs,ls,rs,rfl,_⟩:=h
  rfl
 ·have hu:=bn.hu;obtain⟨a,e6,bs,ls,rs,rfl,bB,kD,c1,c_,bv,Ay,q⟩:=h;have gq:=c1.length;have f7:=ZfS c_;generalize f9:rs.length=m at*;refine⟨_,(bN (cy (i:=2) jQ.nd rfl (Or.inl rfl) (Er rfl (by rfl) T.j (by rfl) T.h (bt (dG (fk K) (by rfl) T.f Q8 (bt (pv 0) bA)) bA)))
     (bN (d8 PassesOwn.leaving rfl (d_ (K:=K) rfl (pv 0)) (cK (i:=3) jQ.nd rfl (Or.inl rfl)) (bZ (d8 PassesOwn.leaving rfl (d_ (K:=K) rfl (pv 1)) (cK (i:=4) jQ.nd rfl (Or.inl rfl)) (bN (cy (i:=5) jQ.nd rfl (Or.inl rfl) (dG (Dj rfl) (by rfl) T.ai PyProof.Rows.boot_min (bt (cp (ixk K) (pv 2) (cp (ixk K) (pv 4) b5 (λ_ _=>rfl)) (λ_ _=>rfl)) (bt (cp (ixk K) (pv 2) (cp (ixk K) (pv 4) b5 (λ_ _=>rfl)) (λ_ _=>rfl)) bA))))
     (bN (hp (pv 5) (ho (pv 2) (cp (ixk K) (pv 4) b5 (λ_ _=>rfl)) ka))
     (bZ (hp (pv 5) (ho (pv 2) (cp (ixk K) (pv 4) b5 (λ_ _=>rfl)) ka))))))))
     (bN (cy (i:=6) jQ.nd rfl (Or.inl rfl) (gF bA))
     (bN (d8 PassesOwn.leaving rfl (ih rfl T.h (bt (dG (fk K) (by rfl) T.f Q8 (bt (pv 0) bA)) bA)) (cK (i:=7) jQ.nd rfl (Or.inl rfl)) (bN (cy (i:=8) jQ.nd rfl (Or.inl rfl) b5)
     (bN (d8 PassesOwn.leaving rfl (ih rfl T.h (bt (dG (fk K) (by rfl) T.f Q8 (bt (pv 0) bA)) bA)) (cK (i:=9) jQ.nd rfl (Or.inl rfl)) (bZ (dW (dw (gn (K:=K) rfl hu) (cp (ixk K) (pv 2) (pv 9) (λ_ _=>rfl)) (cp (ixk K) (pv 2) (pv 7) (λ_ _=>rfl)) (dF _)) (bZ (cy (i:=8) jQ.nd rfl (Or.inl rfl) (c9 T.x2 (vg T) bn cF (bt (pv 8) (bt (cp (ixk K) (pv 0) (pv 9) (λ_ _=>rfl)) bA))))) d4)))
     (bZ (eB (f4 (K:=K) rfl Q1 GT fm ha (pv 6) (bt (cI fN (cp (ixk K) (pv 0) (pv 7) (λ_ _=>rfl)) (pv 8)) bA)))))))
     (bZ (c3 (pv 6))))))),?_⟩
  try dsimp only[L2.cxX,L2.ZL,L2.Zl]
  have el:((rs.map V.int).length:Int)=(m:Int):=by simp[f9]
  walk_at "rds";refine Rd.Zon ?_;walk_at "rds";refine⟨m,by rw[el],by omega,λl ag=>?_⟩;have r7:((List.range m).map λi:Nat=>V.int i)=(fr (Pc.Z9 (dv ls) 0 λi=>i) m).map V.int:=by unfold fr;rw[Rt];rfl
  rw[r7];have jO:(upd H l (.lst ((fr (Pc.Z9 (dv ls) 0 λi=>i) m).map V.int))) l=some (.lst ((fr (Pc.Z9 (dv ls) 0 λi=>i) m).map V.int)):=Zd;have bq:Ze H (upd H l (.lst ((fr (Pc.Z9 (dv ls) 0 λi=>i) m).map V.int))):=cV ag;generalize upd H l (.lst ((fr (Pc.Z9 (dv ls) 0 λi=>i) m).map V.int))=ax at*;have p':=bq _ _ kD;have qa:=bq.seq bB;walk_at "rds";refine Z2 (d9 bB) (λi af ae=>Ze H ae∧(∃a1 a2 a3,af=[some (.ref a),some (.ref e6),some (.ref l),a1,a2,a3,none,none,none,none])∧ae l=some (.lst ((fr (Pc.Z9 (dv ls) i λi=>i) m).map V.int))) ⟨bq,⟨_,_,_,rfl⟩,jO⟩ (λi af ae h=>h.1) ?_ ?_
  ·rintro i af bo hi ⟨bJ,⟨a1,a2,a3,rfl⟩,fL⟩;have vf:=bJ _ _ kD;generalize (rs.map V.int).getD i .non=hI at*;walk_at "rds";refine Z2 (d9 (SqL.of kD)) (λj af ae=>Ze H ae∧(∃a2 a3,af=[some (.ref a),some (.ref e6),some (.ref l),some hI,a2,a3,none,none,none,none])∧ae l=some (.lst ((fr (((dv ls).take j).foldl Pc.step (Pc.Z9 (dv ls) i λi=>i)) m).map V.int))) ⟨bJ,⟨_,_,rfl⟩,fL⟩ (λj af ae h=>h.1) ?_ ?_
   ·rintro j af b2 bw ⟨bO,⟨a2,a3,rfl⟩,kE⟩;have hX:j<ls.length:=by omega
    obtain⟨t,HB,b3⟩:=c1.at (QN hX);have cP:bs.getD j .non= .ref t:=by simp[List.getD,HB]
    rw[cP];have Az:j<(dv ls).length:=by simp[dv,hX]
    have ep:(dv ls)[j]=(ls[j].giver.toNat,ls[j].taker.toNat):=by simp[dv]
    obtain⟨bD,bI⟩:=f7 _ (QO Az);obtain⟨fy,hV,mT,n4⟩:=c_ _ (QO hX);have dE:((dv ls).take (j+1)).foldl Pc.step (Pc.Z9 (dv ls) i λi=>i)=Pc.step (((dv ls).take j).foldl Pc.step (Pc.Z9 (dv ls) i λi=>i)) (dv ls)[j]:=by
     rw[QR Az,qaF];rfl
    rw[dE];generalize ((dv ls).take j).foldl Pc.step (Pc.Z9 (dv ls) i λi=>i)=f at*;rw[ep] at bD bI⊢;have gx:=bO _ _ b3;generalize ls[j]=bb at*;have h6:=ZbK (f:=f) bD;have lF:=ZbK (f:=f) bI;have fw:=Zjc (f:=f) bD bI;have lG:=ZkW f m;dsimp only[B5.v] at gx h6 lF fw bD bI;rw[Rs fy] at h6;rw[Rs mT] at lF;have Ph:=SqL.of (K:=K) kE;walk_at "rds";have HC:(if((f bb.taker.toNat:Nat):Int)<((f bb.giver.toNat:Nat):Int) then((f bb.taker.toNat:Nat):Int) else((f bb.giver.toNat:Nat):Int))=((min (f bb.giver.toNat) (f bb.taker.toNat):Nat):Int):=by split<;>omega
    rw[HC];walk_at "rds";have iu:(upd b2 l (.lst (((fr f m).map V.int).set bb.giver.toNat (.int ((min (f bb.giver.toNat) (f bb.taker.toNat):Nat):Int))))) l=some (.lst (((fr f m).map V.int).set bb.giver.toNat (.int ((min (f bb.giver.toNat) (f bb.taker.toNat):Nat):Int)))):=Zd;have b9:Ze H (upd b2 l (.lst (((fr f m).map V.int).set bb.giver.toNat (.int ((min (f bb.giver.toNat) (f bb.taker.toNat):Nat):Int))))):=bO.new ag;generalize upd b2 l (.lst (((fr f m).map V.int).set bb.giver.toNat (.int ((min (f bb.giver.toNat) (f bb.taker.toNat):Nat):Int))))=b7 at*;have hJ:=b9 _ _ b3;dsimp only[B5.v] at hJ;walk_at "rds";refine Rd.ZmJ iu (by omega) (by rw[qai,QM,lG];omega) ?_;walk_at "rds";refine⟨b9.new ag,⟨_,_,rfl⟩,?_⟩;rw[Zd,←fw,qal,qal]
   ·rintro af b2 ⟨bO,⟨a2,a3,rfl⟩,kE⟩;have fx:(dv ls).length=bs.length:=by simp[dv];omega
    rw[←fx,GE] at kE;walk_at "rds";exact⟨bO,⟨_,_,_,rfl⟩,kE⟩
  ·rintro af bo ⟨bJ,⟨a1,a2,a3,rfl⟩,fL⟩;rw[QM,f9] at fL
   change bo l=some (.lst ((fr (labT (dv ls) m) m).map V.int)) at fL
   walk_at "rds";refine⟨Q5 _,λr bn=>?_⟩;have bO:Ze bo (upd bo r (.lst [])):=cV bn;have g5:(upd bo r (.lst [])) r=some (.lst []):=Zd;have eF:H r=none:=ev bJ bn;have kE:=bO _ _ fL;have mU:l≠r:=cT fL bn;generalize upd bo r (.lst [])=b2 at*;have fV:=bJ.trans bO;have AA:=fV.seq bB;walk_at "rds";rw[QM,f9];have dU:∀w<m,atI (rs.map V.int) (w:Int)=some (.int (rs.getD w 0))∧1≤rs.getD w 0∧rs.getD w 0≤1000:=λw hw=>by
    have mJ:w<rs.length:=by omega
    have e:rs.getD w 0=rs[w]:=by simp[List.getD,mJ]
    rw[e];exact⟨gj (by simp[mJ]),Ay _ (QO mJ)⟩
   refine WU (n:=m) (λi af ae=>Ze H ae∧(∃a4 a5 a6,af=[some (.ref a),some (.ref e6),some (.ref l),a1,a2,a3,some (.ref r),a4,a5,a6])∧ae l=some (.lst ((fr (labT (dv ls) m) m).map V.int))∧ae r=some (.lst (((leastL ls rs).take i).map V.int))) ⟨fV,⟨_,_,_,rfl⟩,kE,g5⟩ ?_ ?_
   ·rintro i af b7 hi ⟨b9,⟨a4,a5,a6,rfl⟩,iu,e7⟩;have Pj:=b9.seq bB;have Pk:=SqL.of (K:=K) iu;walk_at "rds";rw[QM,f9];refine WU (n:=m) (λj af ae=>ae=b7∧(∃a6,af=[some (.ref a),some (.ref e6),some (.ref l),a1,a2,a3,some (.ref r),some (.int (0+(i:Int))),some (.int (gcdC rs (labT (dv ls) m) i j:Nat)),a6])) ⟨rfl,_,rfl⟩ ?_ ?_
    ·rintro j af bY bw ⟨rfl,a6,rfl⟩;rw[RZ,RZ,vd];have h6:=ZbK (f:=labT (dv ls) m) (m:=m) bw;have lF:=ZbK (f:=labT (dv ls) m) (m:=m) hi;obtain⟨ap,a',bU⟩:=dU j bw;generalize labT (dv ls) m j=lj at*;generalize labT (dv ls) m i=Fn at*;generalize gcdC rs (labT (dv ls) m) i j=g at*;obtain⟨v,b8⟩:∃v:Nat,rs.getD j 0=(v:Int):=⟨(rs.getD j 0).toNat,by omega⟩;rw[b8] at ap⊢;rw[QT];walk_at "rds";refine Rd.ifD (λc=>?_) (λc=>?_)
     ·rw[if_pos (by omega)];walk_at "rds";refine⟨g,v,rfl,?_⟩;walk_at "rds";exact⟨rfl,_,rfl⟩
     ·rw[if_neg (by omega)];walk_at "rds";exact⟨rfl,_,rfl⟩
    ·rintro af bY ⟨rfl,a6,rfl⟩;obtain⟨ap,a',bU⟩:=dU i hi;have AB:=Zea (ls:=ls) (rs:=rs) (w:=i) (by omega);rw[f9] at AB;have lG:(leastL ls rs).length=m:=by simp[leastL,f9]
     have gh:(leastL ls rs).take (i+1)=(leastL ls rs).take i++ [rs.getD i 0 / (gcdC rs (labT (dv ls) m) i m:Int)]:=by
      rw[QR (by omega),←eS (d:=0) (by omega),AB]
     rw[gh];have g1:=r3 (rs:=rs) (lb:=labT (dv ls) m) (w:=i) hi rfl;have g2:0<gcdC rs (labT (dv ls) m) i m:=Nat.pos_of_dvd_of_pos g1 (by omega);have g3:=qaf (by omega) g1;generalize gcdC rs (labT (dv ls) m) i m=g at*;have gY:0<(g:Int)∧(g:Int).natAbs.log2<9000:=⟨by omega,u6 (by omega) (by omega)⟩;rw[RZ];have vh:(((leastL ls rs).take i).map V.int).length<sizeLine:=dj (by rw[QM,FM];omega);generalize (leastL ls rs).take i=X at*;generalize rs.getD i 0=v at*;walk_at "rds";refine⟨b9.new eF,⟨_,_,_,rfl⟩,by rw[bW mU];exact iu,?_⟩;rw[Zd,Rv]
     rfl
   ·rintro af b7 ⟨b9,⟨a4,a5,a6,rfl⟩,iu,e7⟩;rw[RP (by simp[leastL,f9])] at e7;walk_at "rds";exact q r b7 eF b9 e7
end
def HD{K:Frag}{mg:Str→Option Value}(T:Tp K mg):Sp:=λvs H Q _=>∃(c:Int)(n:Nat),vs=[.int c,.int n]∧0<n∧n≤30∧
 ∀(r:Addr)(ae:Hp)(cG:List Int),H r=none→Ze H ae→ae r=some (.lst (cG.map V.int))→WZ n cG→cG.length≤n→Q (.ref r) ae
section
variable {P:Program}{w:World}{K:Frag}{mg:Str→Option Value}{base:Heap}
theorem HE(T:Tp K mg):OkN P w base 1 T.x4 (HD T):=by
 refine T.x4.F.okX pS (λvs H Q E h=>?_) (λcv A outer s H vs Q E bn h=>?_)
 ·obtain⟨c,n,rfl,_⟩:=h
  rfl
 ·have hu:=bn.hu;obtain⟨c,n,rfl,AC,hE,q⟩:=h;have f3:0<(n:Int):=by omega
  refine⟨_,(bN (cy (i:=2) pS.nd rfl (Or.inr rfl) (cI fJ (cI gI (pv 0) b5) b5))
     (bN (tW (j:=3) rfl (e2 (x:="_law_work") (zs:=["_law_mix"]) (ix:=[2]) (cr ux) ["_law_cell","_law_many","_law_mix","_law_group"] rfl rfl (by decide+kernel)) (ih rfl T.h (bt (pv 1) bA)) (λcl C s H fp=>⟨(cK (i:=0) (show(["_law_work","_law_mix"]:List Str).Nodup by decide+kernel) rfl (Or.inl rfl)),(nv (dw (gn (K:=K) rfl hu) (cI fJ (cI fN (pv 1) (cI (hf K) b5 (cI gI b5 (pv 0)))) b5) b5 (dF _))),(pv 0)⟩) pS.nd rfl (Or.inl rfl))
     (bN (o_ (dW (dw (gn (K:=K) rfl hu) (pv 3) (gF bA) (dF _)) (bZ (cy (i:=3) pS.nd rfl (Or.inl rfl) (gF (bt (cI fJ (pv 2) (pv 1)) bA)))) d4))
     (bN (o_ (dW (dw (gn (K:=K) rfl hu) (cI fJ (cI fN (pv 2) b5) b5) b5 (dF _)) (bZ (cy (i:=3) pS.nd rfl (Or.inl rfl) (EI (K:=K) rfl rfl (by rfl) T.j (by rfl) T.Z (bt (pv 3) bA)))) d4))
     (bZ (c3 (pv 3))))))),?_⟩
  try dsimp only[L2.cxX,L2.ZL,L2.Zl]
  walk_at "rds";generalize c*48271 % 2147483647=e8 at*;refine Yg Vk (dj (by omega)) (λi=>decide (e8 / (3+2*(i:Int)) % 2=1)) (λi=> .int (i:Int)) (λi ae c2 hi bS k=>?_) (λi ae c2 hi _ bS k=>?_) (λg ax bF bq AD=>?_)
  ·rw[RZ];have ce:i<n:=by omega
   have l1:0<3+2*(i:Int)∧(3+2*(i:Int)).natAbs.log2<9000:=⟨by omega,Aq (by omega) (by omega)⟩;walk_at "rds";exact k ae (Ze.refl ae)
  ·rw[RZ];walk_at "rds";exact k ae (Ze.refl ae)
  obtain⟨cG,HF,HG,HH,gY⟩:∃cG:List Int,((List.range (n:Int).toNat).filter λi:Nat=>decide (e8 / (3+2*(i:Int)) % 2=1)).map (λi:Nat=>V.int (i:Int))=cG.map V.int∧(∀x∈cG,0≤x∧x<(n:Int))∧cG.Nodup∧cG.length≤n:=by
   refine⟨((List.range n).filter λi:Nat=>decide (e8 / (3+2*(i:Int)) % 2=1)).map λi:Nat=>(i:Int),by rw[QT,Rt];rfl,λx a_=>?_,?_,?_⟩
   ·obtain⟨w,hw,rfl⟩:=Q3.mp a_;have:=Rc.mp (Ro.mp hw).1;omega
   ·rw[Rl,qaE];exact(Rl.mp ((List.nodup_range (n:=n)).filter _)).imp λh z=>h (by omega)
   ·rw[QM];exact QZ (Rm _ _) (by rw[R8];exact QQ _)
  rw[HF] at AD;walk_at "rds";refine Rd.cut (λbQ ae=>∃(g:Addr)(cG:List Int),bQ=[some (.int c),some (.int n),some (.int e8),some (.ref g)]∧Ze H ae∧H g=none∧ae g=some (.lst (cG.map V.int))∧WZ n cG∧cG.length≤n) ?k1 ?g9
  case g9=>
   walk_at "rds";refine⟨Q5 _,λe bH=>?_⟩;have gb:Ze ax (upd ax e (.lst [])):=cV bH;have lH:(upd ax e (.lst [])) e=some (.lst (([]:List Int).map V.int)):=Zd;have AE:=gb _ _ AD;generalize upd ax e (.lst [])=bo at*;have gy:=bq.trans gb;refine Rd.Zhy (eH.ints (SqL.of AE)) (eH.ints (SqL.of lH)) (jM _) (jM _) (pw _) ?_;rw[Uu];refine Rd.bl ?_
   by_cases z:cG=[]
   ·rw[decide_eq_true z];walk_at "rds";intro u gc;have cj:=RY e8 (show(n:Int)≠0 by omega);have cM:=R1 e8 f3;exact⟨u,[e8 % (n:Int)],rfl,gy.trans (cV gc),ev gy gc,Zd,⟨by simp,by simp,by simp;omega⟩,by simp;omega⟩
   ·rw[decide_eq_false z];walk_at "rds";exact⟨g,cG,rfl,gy,bF,AE,⟨z,HH,HG⟩,gY⟩
  case k1=>
   rintro bQ b2 ⟨g3,rx,rfl,bO,HI,AF,hok,AG⟩;walk_at "rds";refine Rd.cut (λbQ ae=>∃(g:Addr)(cG:List Int),bQ=[some (.int c),some (.int n),some (.int e8),some (.ref g)]∧Ze H ae∧H g=none∧ae g=some (.lst (cG.map V.int))∧WZ n cG∧cG.length≤n) ?k2 ?oX
   case oX=>
    walk_at "rds";refine Rd.ifD (λd=>?_) (λd=>?_)
    ·walk_at "rds";refine Rd.ZoN ?_;walk_at "rds";refine⟨g3,_,rfl,.of AF,λu gc=>?_⟩;rw[←List.map_reverse];exact⟨u,rx.reverse,rfl,bO.trans (cV gc),ev bO gc,Zd,⟨by simpa using hok.1,(List.reverse_perm rx).nodup_iff.mpr hok.2.1,λx a_=>hok.2.2 x (List.mem_reverse.mp a_)⟩,by simpa using AG⟩
    ·walk_at "rds";exact⟨g3,rx,rfl,bO,HI,AF,hok,AG⟩
   case k2=>
    rintro bQ b7 ⟨hC,HJ,rfl,b9,HK,HL,HN,HP⟩;walk_at "rds";exact q hC b7 HJ HK b9 HL HN HP
end
def HQ{K:Frag}{mg:Str→Option Value}(T:Tp K mg):Sp:=λvs H Q _=>∃(a b:Addr)(w:Int)(bs:List V)(rows:List B5)(hs:List Int),vs=[.ref a,.ref b,.int w]∧H a=some (.lst bs)∧a≠b∧d5 H bs rows∧H b=some (.lst (hs.map V.int))∧hs.length=rows.length∧rows.length≤1000∧
 ∀ae,cX [b] H ae→ae b=some (.lst ((e4 rows hs w).map V.int))→Q .non ae
section
variable {P:Program}{w:World}{K:Frag}{mg:Str→Option Value}{base:Heap}
theorem HR(T:Tp K mg):OkN P w base 1 T.x5 (HQ T):=by
 refine T.x5.F.okX uN (λvs H Q E h=>?_) (λcv A outer s H vs Q E bn h=>?_)
 ·obtain⟨a,b,w,bs,rows,hs,rfl,_⟩:=h
  rfl
 ·have hu:=bn.hu;obtain⟨a,b,w,bs,rows,hs,rfl,bB,fW,c1,ao,ag,hz,q⟩:=h;have gq:=c1.length;refine⟨_,(bZ (d8 PassesOwn.leaving rfl (my (K:=K) rfl rfl T.i (bt (pv 0) bA)) (hW (K:=K) (n:=2) rfl rfl (en (cK (i:=3) uN.nd rfl (Or.inl rfl)) (en (cK (i:=4) uN.nd rfl (Or.inl rfl)) hP))) (bN (o_ (dW (dw (gn (K:=K) rfl hu) (cp (ixk K) (pv 4) b5 (λ_ _=>rfl)) (pv 2) (dF _)) (bZ (hp (cI qV (cp (ixk K) (pv 1) (pv 3) (λ_ _=>rfl)) (cp (ixk K) (pv 4) b5 (λ_ _=>rfl))) (ho (pv 1) (pv 3) ka))) d4))
     (bZ (dW (dw (gn (K:=K) rfl hu) (cp (ixk K) (pv 4) b5 (λ_ _=>rfl)) (pv 2) (dF _)) (bZ (hp (cI (hf K) (cp (ixk K) (pv 1) (pv 3) (λ_ _=>rfl)) (cp (ixk K) (pv 4) b5 (λ_ _=>rfl))) (ho (pv 1) (pv 3) ka))) d4))))),?_⟩
  try dsimp only[L2.cxX,L2.ZL,L2.Zl]
  walk_at "rds";refine Wc (H0:=p9 H a) (mz (xs:=bs) ?_) (λi af ae=>cX [b] H ae∧(∃a1 a2,af=[some (.ref a),some (.ref b),some (.int w),a1,a2])∧ae b=some (.lst (((e4 rows hs w).take i++hs.drop i).map V.int))) ⟨cX.refl,⟨_,_,rfl⟩,by simpa using ao⟩ (λi af ae h=>Zjv ?_) ?_ ?_
  ·exact SqL.of (by rw[Zl0];exact bB)
  ·rw[h.1.keep _ _ bB (by simpa using fW),bB]
  ·rintro i af ax v bo hi ⟨f1,⟨a1,a2,rfl⟩,f5⟩ ⟨t,b3,rfl,rfl⟩;have ce:i<rows.length:=by omega
   have n6:i<hs.length:=by omega
   obtain⟨u,gc,kF⟩:=c1.at (QN ce);have cP:bs.getD i .non= .ref u:=by simp[List.getD,gc]
   rw[cP];refine Rd.Vs (.of Zd) rfl ?_;have bJ:Ze ax (upd ax t (.tup [.int i,.ref u])):=cV b3;have Pl:b≠t:=cT f5 b3;generalize upd ax t (.tup [.int i,.ref u])=bo at*;have jg:=bJ _ _ f5;have mV:=bJ _ _ (f1.tups _ _ kF);have f2:cX [b] H bo:=f1.trans bJ.frame;have gW:=rT (rows:=rows) (hs:=hs) (w:=w) ag;have AH:=Za5 (w:=w) ce n6 (by omega);have vi:((e4 rows hs w).take i++hs.drop i)[i]? =some hs[i]:=by
    rw[Rw (by rw[FM];omega),FM,show i-min i (e4 rows hs w).length=0 by omega,List.getElem?_drop];simp[n6]
   have fT:∀z,((e4 rows hs w).take i++hs.drop i).set i z=(e4 rows hs w).take i++z::hs.drop (i+1):=λz=>by
    rw[List.set_append_right _ _ (by rw[FM];omega),FM,show i-min i (e4 rows hs w).length=0 by omega,List.drop_eq_getElem_cons n6]
    rfl
   have AI:(e4 rows hs w).take (i+1)++hs.drop (i+1)=(e4 rows hs w).take i++(e4 rows hs w)[i]'(by omega)::hs.drop (i+1):=by
    rw[QR (by omega),qaZ]
    rfl
   rw[AI,AH];clear AI AH;have HS:((e4 rows hs w).take i++hs.drop i).length=hs.length:=by rw[Rj,FM,qaJ];omega
   generalize (e4 rows hs w).take i++hs.drop i=X at f5 jg HS vi fT;have lF:atI (X.map V.int) (i:Int)=some (.int hs[i]):=gj (by rw[QX,vi];rfl);have Pm:=SqL.of (K:=K) jg;generalize rows[i]=r at*;generalize hs[i]=bR at*;dsimp only[B5.v] at mV;have Pn:(i:Int)<((X.map V.int).length:Int):=by rw[QM];omega
   walk_at "rds";have HV:X.set i bR=X:=List.ext_getElem? λj=>by
    by_cases e:i=j
    ·subst e;rw[RE (by omega),vi]
    ·rw[R4 e]
   refine Rd.cut (λbQ ae=>cX [b] H ae∧bQ=[some (.ref a),some (.ref b),some (.int w),some (.int i),some (.ref u)]∧ae b=some (.lst ((X.set i (bR-(if r.taker=w then r.take else 0))).map V.int))) ?k1 ?g9
   case g9=>
    walk_at "rds";refine Rd.ifD (λc=>?_) (λc=>?_)
    ·walk_at "rds";rw[if_pos c];exact⟨f2.trans (fR (by simp) jg (by intro _ z;cases z)),rfl,by rw[Zd,qal];rfl⟩
    ·walk_at "rds";rw[if_neg c,Int.sub_zero,HV];exact⟨f2,rfl,jg⟩
   case k1=>
    rintro bQ b2 ⟨c7,rfl,jN⟩;have qb:b2 u=some (.tup [.int r.giver,.int r.taker,.int r.give,.int r.take,.int r.start]):=c7.tups _ _ kF;have Po:=SqL.of (K:=K) jN;have Pp:(X.set i (bR-(if r.taker=w then r.take else 0))).length=X.length:=qai;have AJ:atI ((X.set i (bR-(if r.taker=w then r.take else 0))).map V.int) (i:Int)=some (.int (bR-(if r.taker=w then r.take else 0))):=gj (by rw[QX,RE (by omega)];rfl);have Pq:(i:Int)<(((X.set i (bR-(if r.taker=w then r.take else 0))).map V.int).length:Int):=by rw[QM];omega
    have HW:∀z,(X.set i (bR-(if r.taker=w then r.take else 0))).set i z=X.set i z:=λz=>List.set_set ..;have AK:X.set i (bR-(if r.taker=w then r.take else 0))=X.set i (bR-(if r.taker=w then r.take else 0)):=rfl;generalize o5:X.set i (bR-(if r.taker=w then r.take else 0))=Y at*;walk_at "rds";refine Rd.ifD (λc=>?_) (λc=>?_)
    ·walk_at "rds";refine⟨c7.trans (fR (by simp) jN (by intro _ z;cases z)),⟨_,_,rfl⟩,?_⟩;rw[Zd,if_pos c,←fT,←HW,qal]
     rfl
    ·walk_at "rds";refine⟨c7,⟨_,_,rfl⟩,?_⟩;rw[jN,if_neg c,Int.add_zero,←fT,o5]
  ·rintro af ax ⟨f1,⟨a1,a2,rfl⟩,f5⟩;walk_at "rds";have bD:(e4 rows hs w).take bs.length=e4 rows hs w:=RP (by rw[rT ag];omega);have bI:hs.drop bs.length=[]:=List.drop_of_length_le (by omega);rw[bD,bI,qaB] at f5;exact q ax f1 f5
end
def HX{K:Frag}{mg:Str→Option Value}(T:Tp K mg):Sp:=λvs H Q _=>∃(a b:Addr)(w:Int)(bs:List V)(rows:List B5)(hs:List Int),vs=[.ref a,.ref b,.int w]∧SqL K H a bs∧d5 H bs rows∧SqL K H b (hs.map V.int)∧hs.length=rows.length∧rows.length≤1000∧
 ∀ae,Ze H ae→Q (.bl (g4 rows hs w)) ae
section
variable {P:Program}{w:World}{K:Frag}{mg:Str→Option Value}{base:Heap}
theorem HY(T:Tp K mg):OkN P w base 1 T.x6 (HX T):=by
 refine T.x6.F.okX uO (λvs H Q E h=>?_) (λcv A outer s H vs Q E bn h=>?_)
 ·obtain⟨a,b,w,bs,rows,hs,rfl,_⟩:=h
  rfl
 ·have hu:=bn.hu;obtain⟨a,b,w,bs,rows,hs,rfl,bB,c1,ao,ag,hz,q⟩:=h;have gq:=c1.length;refine⟨_,(bN (d8 PassesOwn.leaving rfl (my (K:=K) rfl rfl T.i (bt (pv 0) bA)) (hW (K:=K) (n:=2) rfl rfl (en (cK (i:=3) uO.nd rfl (Or.inl rfl)) (en (cK (i:=4) uO.nd rfl (Or.inl rfl)) hP))) (bZ (dW (PW.pt (oL (dw (gn (K:=K) rfl hu) (cp (ixk K) (pv 4) b5 (λ_ _=>rfl)) (pv 2) (dF _)) (oJ (dw oT (cp (ixk K) (pv 1) (pv 3) (λ_ _=>rfl)) (cp (ixk K) (pv 4) b5 (λ_ _=>rfl)) (dF _))))) (bZ (c3 WJ)) d4)))
     (bZ (c3 WJ))),?_⟩
  try dsimp only[L2.cxX,L2.ZL,L2.Zl]
  walk_at "rds";refine Wc (mz bB) (λi af ae=>Ze H ae∧(∃a1 a2,af=[some (.ref a),some (.ref b),some (.int w),a1,a2])∧∀j r h,j<i→rows[j]? =some r→hs[j]? =some h→r.taker=w→r.take≤h) ⟨Ze.refl H,⟨_,_,rfl⟩,by intro j r h z;omega⟩ (λi af ae h=>h.1) ?_ ?_
  ·rintro i af ax v bo hi ⟨bq,⟨a1,a2,rfl⟩,bz⟩ ⟨t,b3,rfl,rfl⟩;have ce:i<rows.length:=by omega
   have n6:i<hs.length:=by omega
   have h4:rows[i]? =some rows[i]:=QN ce;have p3:hs[i]? =some hs[i]:=QN n6;obtain⟨u,gc,kF⟩:=c1.at h4;have cP:bs.getD i .non= .ref u:=by simp[List.getD,gc]
   have lF:atI (hs.map V.int) (i:Int)=some (.int hs[i]):=gj (by simp[n6]);rw[cP];refine Rd.Vs (.of Zd) rfl ?_;have bJ:Ze H (upd ax t (.tup [.int i,.ref u])):=bq.trans (cV b3);generalize upd ax t (.tup [.int i,.ref u])=bo at*;have jg:=bJ.seq ao;have mV:=bJ _ _ kF;generalize rows[i]=r at*;generalize hs[i]=bR at*;dsimp only[B5.v] at mV;have step:(r.taker=w→r.take≤bR)→∀(j:Nat)(r:B5)(h:Int),j<i+1→rows[j]? =some r→hs[j]? =some h→r.taker=w→r.take≤h:=λg j cY h' bw a b=>by
    rcases RH.mp bw with z|rfl
    ·exact bz j cY h' z a b
    ·rw[h4] at a;rw[p3] at b;cases a;cases b;exact g
   walk_at "rds";refine Rd.ifD (λc=>?_) (λc=>?_)
   ·walk_at "rds";refine Rd.ifD (λd=>?_) (λd=>?_)
    ·walk_at "rds";rw[←uZ i h4 p3 c d];exact q _ bJ
    ·walk_at "rds";exact⟨bJ,⟨_,_,rfl⟩,step (λ_=>by omega)⟩
   ·walk_at "rds";exact⟨bJ,⟨_,_,rfl⟩,step (λz=>absurd z c)⟩
  ·rintro af ae ⟨bq,⟨a1,a2,rfl⟩,bz⟩;walk_at "rds";rw[←uY (rows:=rows) (hs:=hs) (w:=w) λj r h a b=>bz j r h (by have:=(QP.mp a).1;omega) a b];exact q _ bq
end
def HZ{K:Frag}{mg:Str→Option Value}(T:Tp K mg):Sp:=λvs H Q _=>∃(e6 ju ga:Addr)(bs:List V)(ls:List B5)(rs cG:List Int),vs=[.ref e6,.ref ju,.ref ga]∧H e6=some (.lst bs)∧d5 H bs ls∧ls.length≤60∧SqL K H ju (rs.map V.int)∧(∀r∈rs,1≤r)∧rs.sum≤400∧SqL K H ga (cG.map V.int)∧WZ rs.length cG∧cG.length≤30∧
 ∀ms:List Int,ms.Perm cG→ms.Pairwise (· ≤·)→∀(bV:List Nat)(cS:Nat→Nat),Fire.YM (iA (c4 ls ms) (es (c4 ls ms)) (ms.map (turnV rs ms))) (λ_=>0) bV cS→
  ((∀w,¬f' (c4 ls ms) (es (c4 ls ms)) (ms.map (turnV rs ms)) cS w)→(bV.length:Int)<(ms.map (turnV rs ms)).sum→∀ae,Ze H ae→Q .non ae)∧((bV.length:Int)=(ms.map (turnV rs ms)).sum→∀(r:Addr)(ae:Hp),H r=none→Ze H ae→ae r=some (.lst (bV.map λw=>V.int (ms.getD w 0)))→Q (.ref r) ae)
section
variable {P:Program}{w:World}{K:Frag}{mg:Str→Option Value}{base:Heap}
theorem H1(T:Tp K mg):OkN P w base 2 T.x7 (HZ T):=by
 refine T.x7.F.okX iX (λvs H Q E h=>?_) (λcv A outer s H vs Q E bn h=>?_)
 ·obtain⟨e6,ju,ga,bs,ls,rs,cG,rfl,_⟩:=h
  rfl
 ·have hu:=bn.hu;obtain⟨e6,ju,ga,bs,ls,rs,cG,rfl,kD,c1,AL,AM,jU,e7,AN,hok,qc,q⟩:=h;have gq:=c1.length;refine⟨_,(bN (cy (i:=3) iX.nd rfl (Or.inr rfl) (dG (zb (K:=K) rfl) (by rfl) T.F qaQ (bt (pv 2) bA)))
     (bN (cy (i:=4) iX.nd rfl (Or.inl rfl) b5)
     (bN (d8 PassesOwn.leaving rfl (d_ (K:=K) rfl (pv 3)) (cK (i:=5) iX.nd rfl (Or.inl rfl)) (bZ (cy (i:=4) iX.nd rfl (Or.inl rfl) (c9 T.x2 (vg T) bn cF (bt (pv 4) (bt (cp (ixk K) (pv 1) (pv 5) (λ_ _=>rfl)) bA))))))
     (bN (cy (i:=6) iX.nd rfl (Or.inr rfl) nt)
     (bN (d8 PassesOwn.leaving rfl (d_ (K:=K) rfl (pv 3)) (cK (i:=5) iX.nd rfl (Or.inl rfl)) (bZ (hp (cI fN (cp (ixk K) (pv 1) (pv 5) (λ_ _=>rfl)) (pv 4)) (ho (pv 6) (pv 5) (km hu)))))
     (bN (cy (i:=7) iX.nd rfl (Or.inr rfl) (jf rfl (e2 (x:="_law_belt") (zs:=["_law_members"]) (ix:=[3]) (cr nS) ["_law_belts","_law_rates","_law_group","_law_members","_law_common_here","_law_work","_law_left","_law_within","_law_lying","_law_row","_law_step","_law_some"] rfl rfl (by decide+kernel)) (d_ (K:=K) rfl (pv 0)) (λcl C s H fp=>⟨(cK (i:=0) (show(["_law_belt","_law_members"]:List Str).Nodup by decide+kernel) rfl (Or.inl rfl)),(nv (PW.pt (oL (dw (pz (K:=K) rfl) (cp (ixk K) (pv 0) b5 (λ_ _=>rfl)) (pv 1) (by with_unfolding_all rfl)) (oJ (dw (pz (K:=K) rfl) (cp (ixk K) (pv 0) b5 (λ_ _=>rfl)) (pv 1) (by with_unfolding_all rfl)))))),(pv 0)⟩)))
     (bN (cy (i:=8) iX.nd rfl (Or.inr rfl) (jf rfl (e2 (x:="_law_belt") (zs:=[]) (ix:=[]) (cr nS) ["_law_belts","_law_rates","_law_group","_law_members","_law_common_here","_law_work","_law_left","_law_within","_law_lying","_law_row","_law_step","_law_some"] rfl rfl (by decide+kernel)) (d_ (K:=K) rfl (pv 7)) (λcl C s H fp=>⟨(cK (i:=0) (show(["_law_belt"]:List Str).Nodup by decide+kernel) rfl (Or.inl rfl)),gm,(cp (ixk K) (pv 0) b5 (λ_ _=>rfl))⟩)))
     (bN (cy (i:=9) iX.nd rfl (Or.inl rfl) (gF bA))
     (bN (d8 PassesOwn.leaving rfl (ih rfl T.h (bt (dG (yl (K:=K) rfl rfl) (by rfl) T.aj PyProof.Rows.boot_sum (bt (jf rfl (e2 (x:="_law_work") (zs:=["_law_left"]) (ix:=[6]) (cr nS) ["_law_belts","_law_rates","_law_group","_law_members","_law_common_here","_law_work","_law_left","_law_within","_law_lying","_law_row","_law_step","_law_some"] rfl rfl (by decide+kernel)) (d_ (K:=K) rfl (pv 3)) (λcl C s H fp=>⟨(cK (i:=0) (show(["_law_work","_law_left"]:List Str).Nodup by decide+kernel) rfl (Or.inl rfl)),gm,(cp (mw hu) (pv 1) (pv 0) (λ_ _=>rfl))⟩)) bA)) bA)) (cK (i:=10) iX.nd rfl (Or.inl rfl)) (bN (tW (j:=11) rfl (e2 (x:="_law_work") (zs:=["_law_left","_law_within","_law_lying"]) (ix:=[6,7,8]) (cr nS) ["_law_belts","_law_rates","_law_group","_law_members","_law_common_here","_law_work","_law_left","_law_within","_law_lying","_law_row","_law_step","_law_some"] rfl rfl (by decide+kernel)) (d_ (K:=K) rfl (pv 3)) (λcl C s H fp=>⟨(cK (i:=0) (show(["_law_work","_law_left","_law_within","_law_lying"]:List Str).Nodup by decide+kernel) rfl (Or.inl rfl)),(nv (PW.pt (oL (dw ni (cp (mw hu) (pv 1) (pv 0) (λ_ _=>rfl)) b5 (dF _)) (oJ (he (K:=K) rfl (c9 T.x6 (HY T) bn Vv (bt (pv 2) (bt (pv 3) (bt (pv 0) bA)))) (λ_=>rfl)))))),(pv 0)⟩) iX.nd rfl (Or.inl rfl))
     (bN (dW (dw (gn (K:=K) rfl hu) (pv 11) (gF bA) (dF _)) (bZ (c3 Vz)) d4)
     (bN (eB (c9 T.x5 (HR T) bn cF (bt (pv 7) (bt (pv 8) (bt (cp (ixk K) (pv 11) b5 (λ_ _=>rfl)) bA)))))
     (bN (hp (cI qV (cp (mw hu) (pv 6) (cp (ixk K) (pv 11) b5 (λ_ _=>rfl)) (λ_ _=>rfl)) b5) (ho (pv 6) (cp (ixk K) (pv 11) b5 (λ_ _=>rfl)) (km hu)))
     (bZ (eB (f4 (K:=K) rfl Q1 GT fm ha (pv 9) (bt (cp (ixk K) (pv 11) b5 (λ_ _=>rfl)) bA)))))))))
     (bZ (c3 (pv 9)))))))))))),?_⟩
  try dsimp only[L2.cxX,L2.ZL,L2.Zl]
  walk_at "rds";refine Rd.Zla AN (by omega) (λg6 ms hso eE n7=>?_);replace q:=q ms eE n7;have bq:Ze H (upd H g6 (.lst (ms.map V.int))):=cV hso;have vj:(upd H g6 (.lst (ms.map V.int))) g6=some (.lst (ms.map V.int)):=Zd;generalize upd H g6 (.lst (ms.map V.int))=ax at*;have dM:ms.Nodup:=eE.nodup_iff.mpr hok.2.1;have h8:∀m∈ms,0≤m∧m<(rs.length:Int):=λm bv=>hok.2.2 m (eE.mem_iff.mp bv);have mW:ms≠[]:=λe=>by rw[e] at eE;exact hok.1 eE.symm.eq_nil
  have mX:ms.length≤30:=by rw[eE.length_eq];exact qc
  obtain⟨AO,n8⟩:=rZ jU dM mW h8;have qd:∀x∈rs,1≤x∧x≤400:=λx a_=>⟨jU x a_,by have:=Zha (λr bn=>(by have:=jU r bn;omega)) x a_;omega⟩;have dU:∀m∈ms,atI (rs.map V.int) m=some (.int (rs.getD m.toNat 0))∧1≤rs.getD m.toNat 0∧rs.getD m.toNat 0≤400:=λm bv=>by
   obtain⟨cw,ap⟩:=h8 m bv;obtain⟨k,rfl⟩:=Ri cw;have bp:k<rs.length:=by omega
   rw[QT];have e:rs.getD k 0=rs[k]:=by simp[List.getD,bp]
   rw[e];exact⟨gj (by simp[bp]),qd _ (QO bp)⟩
  have vk:=SqL.of (K:=K) vj;have qe:=bq.seq AM;walk_at "rds";refine Z2 (d9 vk) (λi af ae=>ae=ax∧∃(a5:Option V),af=[some (.ref e6),some (.ref ju),some (.ref ga),some (.ref g6),some (.int (gcdM rs (ms.take i):Nat)),a5,none,none,none,none,none,none]) ⟨rfl,_,rfl⟩ (λi af ae h=>h.1▸Ze.refl ax) ?_ ?_
  ·rintro i af ae hi ⟨rfl,a5,rfl⟩;have ce:i<ms.length:=by rw[QM] at hi;exact hi
   have cU:(ms.map V.int).getD i .non=V.int ms[i]:=by simp[List.getD,ce]
   rw[cU];obtain⟨ap,a',bU⟩:=dU ms[i] (QO ce);have eg:gcdM rs (ms.take (i+1))=Nat.gcd (gcdM rs (ms.take i)) (rs.getD ms[i].toNat 0).toNat:=by rw[QR ce,rY]
   rw[eg];generalize gcdM rs (ms.take i)=g at*;generalize ms[i]=m at*;obtain⟨v,b8⟩:∃v:Nat,rs.getD m.toNat 0=(v:Int):=⟨(rs.getD m.toNat 0).toNat,by omega⟩;rw[b8] at ap⊢;rw[QT];walk_at "rds";refine⟨g,v,rfl,?_⟩;walk_at "rds";exact⟨rfl,_,rfl⟩
  rintro af ax ⟨rfl,a5,rfl⟩;rw[QM,GE];have dC:=Zct (rs:=rs) mW λm bv=>(by have:=(dU m bv).2.1;omega);have g1:(gcdM rs ms:Int)≤400:=by
   obtain⟨m,bv,h⟩:=Zhe (rs:=rs) mW λm bv=>(by have:=(dU m bv).2.1;omega);have:=(dU m bv).2.2;omega
  walk_at "rds";intro d hd;have bJ:Ze ax (upd ax d (.dK [])):=cV hd;have jV:(upd ax d (.dK [])) d=some (.dK (turnsK (turnV rs ms) [])):=Zd;generalize upd ax d (.dK [])=bo at*;have qf:=bJ _ _ vj;have H2:=SqL.of (K:=K) qf;walk_at "rds";refine Z2 (d9 vk) (λi af ae=>Ze ax ae∧ae d=some (.dK (turnsK (turnV rs ms) (ms.take i)))∧∃(a5:Option V),af=[some (.ref e6),some (.ref ju),some (.ref ga),some (.ref g6),some (.int (gcdM rs ms:Nat)),a5,some (.ref d),none,none,none,none,none]) ⟨bJ,jV,_,rfl⟩ (λi af ae h=>h.1) ?_ ?_
  ·rintro i af b2 hi ⟨bO,lI,a5,rfl⟩;have ce:i<ms.length:=by rw[QM] at hi;exact hi
   have cU:(ms.map V.int).getD i .non=V.int ms[i]:=by simp[List.getD,ce]
   rw[cU];obtain⟨ap,a',bU⟩:=dU ms[i] (QO ce);have gN:ms[i]∉ms.take i:=λz=>by
    obtain⟨j,bw,jS⟩:=Q4 z;rw[qaD] at jS;have H3:j<i:=by rw[FM] at bw;omega
    exact absurd ((qam dM).mp jS) (by omega)
   have dE:turnsK (turnV rs ms) (ms.take (i+1))=ec (turnsK (turnV rs ms) (ms.take i)) (Sum.inl ms[i]) (V.int (rs.getD ms[i].toNat 0 / (gcdM rs ms:Int))):=by
    rw[QR ce];exact(An (f:=turnV rs ms) gN).symm
   rw[dE];have Pr:(turnsK (turnV rs ms) (ms.take i)).length<sizeLine:=by
    unfold turnsK;rw[QM,FM];exact dj (by omega)
   generalize turnsK (turnV rs ms) (ms.take i)=kv at*;generalize ms[i]=m at*;generalize rs.getD m.toNat 0=v at*;have h7:=bO.seq qe;generalize gcdM rs ms=g at*;have gY:0<(g:Int)∧(g:Int).natAbs.log2<9000:=⟨by omega,u6 (by omega) (by omega)⟩;walk_at "rds";exact⟨bO.new hd,Zd,_,rfl⟩
  rintro af b2 ⟨bO,lI,a5,rfl⟩;rw[QM,GE] at lI;have h9:∀m∈ms,1≤turnV rs ms m:=λm bv=>(n8 m bv).1;have kG:H d=none:=ev bq hd;generalize turnV rs ms=f at*;generalize gcdM rs ms=g at*;clear n8 dU qe vk H2 bJ jV qf qd jU;have fV:=bq.trans bO;have AQ:=fV _ _ kD;have gO:=c1.keep λb xs e=>fV _ _ e;have vl:=bO _ _ vj;have AR:=SqL.of (K:=K) AQ;walk_at "rds";refine Yg (d9 AR) (dj (by omega)) (λi=>inT ms (ls.getD i dB)) (λi=>bs.getD i .non) (λi ae c2 hi bS k=>?_) (λi ae c2 hi _ bS k=>?_) (λmY b7 kH b9 qg=>?_)
  ·obtain⟨t,e5,ei⟩:=gO.getD (i:=i) (by omega);rw[e5];have gx:=bS _ _ ei;have Ps:=SqL.of (K:=K) (bS _ _ vl);unfold inT at k;generalize ls.getD i dB=bb at*;dsimp only[B5.v] at gx;walk_at "rds"
   by_cases bF:bb.giver∈ms
   ·rw[decide_eq_true bF] at k⊢;rw[qa4] at k;walk_at "rds";exact k ae (Ze.refl ae)
   ·rw[decide_eq_false bF] at k⊢;rw[Bool.false_and] at k;walk_at "rds";exact k ae (Ze.refl ae)
  ·walk_at "rds";exact k ae (Ze.refl ae)
  have r8:d5 b7 (((List.range bs.length).filter λi=>inT ms (ls.getD i dB)).map λi=>bs.getD i .non) (ls.filter (inT ms)):=(Hq gO).keep λb xs e=>b9 _ _ e;generalize H4:((List.range bs.length).filter λi=>inT ms (ls.getD i dB)).map (λi=>bs.getD i .non)=r9 at*;have iP:(ls.filter (inT ms)).length≤60:=QZ (Rm _ _) AL;have jv:∀b∈ls.filter (inT ms),inT ms b=true:=λb ao=>(Ro.mp ao).2;have H5:=Zfz (ls:=ls) (ms:=ms);have n9:c4 ls ms=(ls.filter (inT ms)).map (inB ms):=rfl;have r_:=Zai (ls:=ls) (ms:=ms);generalize ls.filter (inT ms)=gw at*;have H6:=r8.length;have H7:=SqL.of (K:=K) qg;have gP:=fV.trans b9;have r':=b9 _ _ vl;have fu:=b9 _ _ lI;clear H4 gO AR AQ vl lI bO kD c1 gq;walk_at "rds";refine Yg (d9 H7) (dj (by omega)) (λ_=>true) (λi=> .int (gw.getD i dB).start) (λi ae c2 hi bS k=>?_) (λi ae c2 hi _ bS k=>?_) (λi1 bY hly cC AS=>?_)
  ·walk_at "rds";exact k ae (Ze.refl ae)
  ·obtain⟨t,e5,ei⟩:=r8.getD (i:=i) (by omega);rw[e5];have gx:=bS _ _ ei;generalize gw.getD i dB=bb at*;dsimp only[B5.v] at gx;walk_at "rds";exact k ae (Ze.refl ae)
  have vm:bY i1=some (.lst ((lieL (c4 ls ms) (es (c4 ls ms)) (λ_=>0)).map V.int)):=by
   rw[AS,Ho,H5,Ra.mpr λ_ _=>rfl,H6];refine congrArg (λz=>some (HO.lst z)) ?_;refine GM (by simp) λi ap a'=>?_;have:i<gw.length:=by simpa using ap
   simp[List.getD,this]
  have i2:=gP.trans cC;have vn:=cC _ _ r';have h_:=cC _ _ fu;have vo:=cC _ _ qg;have AT:=r8.keep λb xs e=>cC _ _ e;have H8:H i1=none:=ev gP hly;have AU:d≠i1:=cT fu hly;have AV:mY≠i1:=cT qg hly;have H9:g6≠i1:=cT r' hly;have qh:d≠g6:=fc fu r' (by intro z;cases z);have H_:d≠mY:=fc fu qg (by intro z;cases z);clear AS r8 qg r' fu;walk_at "rds";refine⟨Q5 _,λr bn=>?_⟩;have du:Ze bY (upd bY r (.lst [])):=cV bn;have n_:(upd bY r (.lst [])) r=some (.lst []):=Zd;generalize upd bY r (.lst [])=c5 at*;have mZ:=i2.trans du;have vp:=du _ _ vn;have iD:=du _ _ h_;have AW:=du _ _ vo;have AX:=du _ _ vm;have AY:=AT.keep λb xs e=>du _ _ e;have eF:H r=none:=ev i2 bn;have qi:d≠r:=cT h_ bn;have H':mY≠r:=cT vo bn;have Ia:g6≠r:=cT vn bn;have mU:i1≠r:=cT vm bn;have AZ:=SqL.of (K:=K) vp;clear vn h_ vo vm AT i2 gP cC b9 fV du;walk_at "rds";refine Yg (d9 AZ) (dj (by rw[QM];omega)) (λ_=>true) (λi=> .int (f (ms.getD i 0))) (λi ae c2 hi bS k=>?_) (λi ae c2 hi _ bS k=>?_) (λhm dh hsu dn A0=>?_)
  ·walk_at "rds";exact k ae (Ze.refl ae)
  ·have ce:i<ms.length:=by rw[QM] at hi;exact hi
   have cU:(ms.map V.int).getD i .non=V.int ms[i]:=by simp[List.getD,ce]
   have m0:ms.getD i 0=ms[i]:=by simp[List.getD,ce]
   rw[cU];rw[m0] at k;have b8:=p7 (f:=f) (QO ce);have gD:=bS _ _ iD;generalize ms[i]=m at*;walk_at "rds";exact k ae (Ze.refl ae)
  have A1:dh hm=some (.lst ((ms.map f).map V.int)):=by
   rw[A0,Ra.mpr λ_ _=>rfl,QM];refine congrArg (λz=>some (HO.lst z)) ?_;refine GM (by simp) λi ap a'=>?_;have:i<ms.length:=by simpa using ap
   simp[List.getD,this]
  have A2:=SqL.of (K:=K) A1;have A3:=mZ.trans dn;have A4:=dn _ _ vp;have kI:=dn _ _ iD;have A5:=dn _ _ AW;have m1:=dn _ _ AX;have i3:=dn _ _ n_;have A6:=AY.keep λb xs e=>dn _ _ e;clear A0 vp AZ iD AW AX n_ AY mZ dn;have vq:((tot (ms.map f):Nat):Int)=(ms.map f).sum:=ZdP λr bn=>(by
   obtain⟨m,bv,rfl⟩:=Q3.mp bn;have:=h9 m bv;omega)
  have Ib:(ms.map f).sum≤400:=by omega
  walk_at "rds";refine Rd.ZmM A2 ?_;rw[←vq];rw[←vq] at Ib;have A7:turnsK f ms=turnsK (λm=>f m-(((λ_=>0:Nat→Nat) (idxL ms m):Nat):Int)) ms:=by
   unfold turnsK;refine qat λx _=>?_;simp
  rw[A7] at kI;clear A7;have el:(ms.map f).length=ms.length:=QM _;have n':(es (c4 ls ms)).length=(c4 ls ms).length:=by simp[es]
  have A8:(c4 ls ms).length=gw.length:=by rw[n9,QM]
  walk_at "rds";refine WU (n:=tot (ms.map f)) (λi af ae=>∃(bV:List Nat)(cS:Nat→Nat)(vr vt:Option V),af=[some (.ref e6),some (.ref ju),some (.ref ga),some (.ref g6),some (.int g),a5,some (.ref d),some (.ref mY),some (.ref i1),some (.ref r),vr,vt]∧Ze H ae∧ae g6=some (.lst (ms.map V.int))∧ae d=some (.dK (turnsK (λm=>f m-((cS (idxL ms m):Nat):Int)) ms))∧ae mY=some (.lst r9)∧d5 ae r9 gw∧ae i1=some (.lst ((lieL (c4 ls ms) (es (c4 ls ms)) cS).map V.int))∧ae r=some (.lst (bV.map λw=>V.int (ms.getD w 0)))∧bV.length=i∧Fire.YM (iA (c4 ls ms) (es (c4 ls ms)) (ms.map f)) (λ_=>0) bV cS) ⟨[],λ_=>0,_,_,rfl,A3,A4,kI,A5,A6,m1,i3,rfl,.nil _⟩ ?_ ?_
  ·clear kI A5 A6 m1 i3 A4 A2 A1 A3;rintro i af dL hi ⟨bV,cS,vr,vt,rfl,er,vu,oa,sb,sc,m1,ia,A9,gA⟩;have Ic:=SqL.of (K:=K) vu;obtain⟨b_,_⟩:=q bV cS gA;walk_at "rds";refine Yg (d9 Ic) (dj (by rw[QM];omega)) (λv=>eN (c4 ls ms) (es (c4 ls ms)) (ms.map f) cS v) (λv=> .int (ms.getD v 0)) (λv ae c2 b8 bS k=>?_) (λv ae c2 b8 _ bS k=>?_) (λvv eC iv fj A_=>?_)
   ·have ce:v<ms.length:=by rw[QM] at b8;exact b8
    have cU:(ms.map V.int).getD v .non=V.int ms[v]:=by simp[List.getD,ce]
    rw[cU];have pP:=p7 (f:=λm=>f m-((cS (idxL ms m):Nat):Int)) (QO ce);rw[ve dM ce] at pP;have gD:=bS _ _ oa;have Pu:=h9 _ (QO ce);have Ie:f_ (ms.map f) v=(f ms[v]).toNat:=by simp[f_,List.getD,ce]
    have mH:eN (c4 ls ms) (es (c4 ls ms)) (ms.map f) cS v=(decide (0<f ms[v]-(cS v:Int))&&g4 gw (lieL (c4 ls ms) (es (c4 ls ms)) cS) ms[v]):=by
     unfold eN;rw[Ie,n9,Hm dM ce jv]
     congr 1
     rw[decide_eq_decide];omega
    rw[mH] at k;have qj:=hl (d:=cS) n';rw[A8] at qj;generalize lieL (c4 ls ms) (es (c4 ls ms)) cS=hs at*;generalize turnsK (λm=>f m-((cS (idxL ms m):Nat):Int)) ms=kv at*;generalize ms[v]=m at*;walk_at "rds";refine V5 (λc=>?_) (λc=>?_)
    ·rw[c,qa4] at k;walk_at "rds";refine⟨mY,i1,m,r9,gw,hs,rfl,.of (bS _ _ sb),sc.keep (λb xs e=>bS _ _ e),.of (bS _ _ m1),qj,by omega,λIg j'=>?_⟩;walk_at "rds";exact k Ig j'
    ·rw[Bool.not_eq_true] at c;rw[c,Bool.false_and] at k;walk_at "rds";exact k ae (Ze.refl ae)
   ·have ce:v<ms.length:=by rw[QM] at b8;exact b8
    have cU:(ms.map V.int).getD v .non=V.int (ms.getD v 0):=by simp[List.getD,ce]
    rw[cU];walk_at "rds";exact k ae (Ze.refl ae)
   have A':((List.range (ms.map V.int).length).filter λv=>eN (c4 ls ms) (es (c4 ls ms)) (ms.map f) cS v).map (λv=>V.int (ms.getD v 0))=(((List.range ms.length).filter λv=>eN (c4 ls ms) (es (c4 ls ms)) (ms.map f) cS v).map λv=>ms.getD v 0).map V.int:=by rw[Rt,QM];rfl
   rw[A'] at A_;clear A';have Pw:=er.trans fj;walk_at "rds";refine⟨Q5 _,λo bC=>?_⟩;have fP:Ze eC (upd eC o (.lst [])):=cV bC;have Ih:(upd eC o (.lst [])) o=some (.lst (([]:List Int).map V.int)):=Zd;generalize upd eC o (.lst [])=e1 at*;have vw:=fP _ _ A_;have ob:=fj.trans fP;have Ba:=er.trans ob;refine Rd.Zhy (eH.ints (SqL.of vw)) (eH.ints (SqL.of Ih)) (jM _) (jM _) (pw _) ?_;rw[Uu];refine Rd.bl ?_
   by_cases hz:(List.range ms.length).filter (λv=>eN (c4 ls ms) (es (c4 ls ms)) (ms.map f) cS v)=[]
   ·rw[hz];rw[decide_eq_true (by rfl)];walk_at "rds";refine b_ (λw hw=>?_) (by omega) e1 Ba;have Bb:w<ms.length:=by have:=hw.1;rwa [el] at this
    have:=List.filter_eq_nil_iff.mp hz w (Rc.mpr Bb);exact this ((p4 n' r_ (by rw[el];exact Bb)).mpr hw)
   ·obtain⟨w,fI,gd,l7,Ii⟩:=Zcb hz;rw[decide_eq_false (λz=>hz (List.map_eq_nil_iff.mp z))];have bE:iA (c4 ls ms) (es (c4 ls ms)) (ms.map f) cS w:=⟨(p4 n' r_ (by rw[el];exact gd)).mp l7,λv b8=>(z' n' r_ (by rw[el];omega)).mp (Ii v b8)⟩;have m2:=gA.snoc bE;have Px:atI ((((List.range ms.length).filter λv=>eN (c4 ls ms) (es (c4 ls ms)) (ms.map f) cS v).map λv=>ms.getD v 0).map V.int) 0=some (.int ms[w]):=gj (j:=0) (by rw[QX,QX,fI];simp[List.getD,gd]);generalize ((List.range ms.length).filter λv=>eN (c4 ls ms) (es (c4 ls ms)) (ms.map f) cS v).map (λv=>ms.getD v 0)=SL at*;have Py:=SqL.of (K:=K) vw;have Ij:=ob _ _ sb;have Ik:=ob _ _ m1;have qj:=hl (d:=cS) n';rw[A8] at qj;have jc:=Ac (d:=cS) n' r_ w;rw[n9,Hn dM gd jv,←n9] at jc;walk_at "rds";refine⟨mY,i1,ms[w],r9,gw,_,rfl,Ij,AV,sc.keep (λb xs e=>ob _ _ e),Ik,qj,by omega,λfz f11 Bc=>?_⟩;rw[jc] at Bc;have Il:vv≠i1:=(cT m1 iv).symm;have Im:vv≠d:=(cT oa iv).symm;have Pz:vv≠r:=(cT ia iv).symm;have kp:∀{x:Addr}{cx:HO},dL x=some cx→x≠i1→fz x=some cx:=λ{x cx} ap a'=>f11.keep _ _ (ob _ _ ap) (by simpa using a');have Bd:=f11.keep _ _ vw (by simpa using Il);have qk:=kp oa AU;have oc:=kp ia mU.symm;have Io:=kp vu H9;have Ip:=kp sb AV;have Iq:=sc.keep λb xs e=>f11.tups _ _ (ob _ _ e);have Ir:Ze H fz:=λb o e=>f11.keep _ _ (Ba _ _ e) (by
     intro z;rw[QS.mp z,H8] at e;cases e)
    have PB:=SqL.of (K:=K) Bd;have Be:=QO gd;have pP:=p7 (f:=λm=>f m-((cS (idxL ms m):Nat):Int)) Be;have Bf:=Zkg (g:=λm=>f m-((cS (idxL ms m):Nat):Int)) (v:=f ms[w]-((cS (idxL ms ms[w]):Nat):Int)-1) Be;have Iu:turnsK (λx=>if x=ms[w] then f ms[w]-((cS (idxL ms ms[w]):Nat):Int)-1 else f x-((cS (idxL ms x):Nat):Int)) ms=turnsK (λm=>f m-((Fire.bump cS w (idxL ms m):Nat):Int)) ms:=by
     unfold turnsK;refine qat λx a_=>?_;dsimp only
     by_cases e:x=ms[w]
     ·rw[if_pos e,e,ve dM gd,Fire.V1]
      congr 2
      omega
     ·rw[if_neg e,Fire.VH];exact λz=>e ((r4 dM gd a_).mp (by omega))
    have lJ:(turnsK (λm=>f m-((cS (idxL ms m):Nat):Int)) ms).length<sizeLine:=by
     unfold turnsK;rw[QM];exact dj (by omega)
    have vh:(bV.map λw=>V.int (ms.getD w 0)).length<sizeLine:=dj (by rw[QM];omega);have Iv:ms.getD w 0=ms[w]:=by simp[List.getD,gd]
    have erw:(bV++ [w]).map (λw=>V.int (ms.getD w 0))=(bV.map λw=>V.int (ms.getD w 0))++ [V.int ms[w]]:=by rw[Rv,←Iv];rfl
    rw[Iu] at Bf;generalize turnsK (λm=>f m-((cS (idxL ms m):Nat):Int)) ms=kv at*;generalize f ms[w]-((cS (idxL ms ms[w]):Nat):Int)=nu at*;generalize ql:ms[w]=xw at*;show s7 _ _ _ _ _;walk_at "rds";have vx:(upd fz d (.dK (ec kv (Sum.inl xw) (V.int (nu-1))))) d=some (.dK (turnsK (λm=>f m-((Fire.bump cS w (idxL ms m):Nat):Int)) ms)):=by rw[Zd,Bf]
    have qm:∀{x:Addr}{cx:HO},fz x=some cx→x≠d→(upd fz d (.dK (ec kv (Sum.inl xw) (V.int (nu-1))))) x=some cx:=λ{x cx} ap a'=>by rw[bW a'];exact ap
    have Iw:Ze H (upd fz d (.dK (ec kv (Sum.inl xw) (V.int (nu-1))))):=Ir.new kG;have sd:cX [d] fz (upd fz d (.dK (ec kv (Sum.inl xw) (V.int (nu-1))))):=fR (by simp) qk (by intro _ z;cases z);have Ix:=qm Bd Im;have vy:=qm oc qi.symm;have Iy:=qm Io qh.symm;have IA:=qm Ip H_.symm;have IB:=qm Bc AU.symm;have IC:=Iq.keep sd.tups;generalize upd fz d (.dK (ec kv (Sum.inl xw) (V.int (nu-1))))=H12 at*;have PD:=SqL.of (K:=K) Ix;walk_at "rds";have qn:cX [r] H12 (upd H12 r (.lst ((bV.map λw=>V.int (ms.getD w 0))++ [V.int xw]))):=fR (by simp) vy (by intro _ z;cases z);refine⟨bV++ [w],Fire.bump cS w,_,_,rfl,Iw.new eF,by rw[bW Ia];exact Iy,by rw[bW qi];exact vx,by rw[bW H'];exact IA,IC.keep qn.tups,by rw[bW mU];exact IB,?_,by rw[Rj,A9];rfl,m2⟩;rw[Zd,erw]
  ·rintro af dL ⟨bV,cS,vr,vt,rfl,er,vu,oa,sb,sc,m1,ia,A9,gA⟩;walk_at "rds";exact(q bV cS gA).2 (by omega) r dL eF er ia
end
def ID{K:Frag}{mg:Str→Option Value}(T:Tp K mg):Sp:=λvs H Q _=>∃x:Str,vs=[.str x]∧x.length≤sizeLine∧∀ae,Ze H ae→Q (.bl (gJ x)) ae
noncomputable def letter (c:Nat):Bool:=decide (97≤c)&&decide (c≤122)
theorem Bg(c d:Nat):decide ((⟨#[c]⟩:Str).cps.toList<(⟨#[d]⟩:Str).cps.toList)=decide (c<d):=by
 show decide ([c]< [d])=decide (c<d);have e:([c]< [d])↔c<d:=by
  constructor
  ·intro h;cases h with
   |rel h=>exact h
   |cons h=>cases h
  ·exact λh=> .rel h
 by_cases h:c<d
 ·rw[decide_eq_true h,decide_eq_true (e.mpr h)]
 ·rw[decide_eq_false h,decide_eq_false (λz=>h (e.mp z))]
theorem IE:("a" :Str)=⟨#[97]⟩:=by decide+kernel
theorem IF:("z" :Str)=⟨#[122]⟩:=by decide+kernel
theorem Zic(x:Str):(((List.range x.cps.size).map λi=>letter (x.cps.getD i 0)).all id)=x.cps.toList.all letter:=by
 rw[List.all_map,R9,RC,RC]
 constructor
 ·intro h c br;obtain⟨i,hi,rfl⟩:=Q4 br;have dy:i<x.cps.size:=by simpa using hi
  have:=h i (Rc.mpr dy);simpa[Array.getD,dy] using this
 ·intro h i hi;have dy:=Rc.mp hi;have:=h x.cps[i] (by simp);simpa[Array.getD,dy] using this
theorem Zbc(x:Str):gJ x=(decide (1≤x.length)&&decide (x.length≤8)&&x.cps.toList.all letter):=rfl
section
variable {P:Program}{w:World}{K:Frag}{mg:Str→Option Value}{base:Heap}
theorem IG(T:Tp K mg):OkN P w base 1 T.x8 (ID T):=by
 refine T.x8.F.okX Gh (λvs H Q E h=>?_) (λcv A outer s H vs Q E bn h=>?_)
 ·obtain⟨x,rfl,_⟩:=h
  rfl
 ·have hu:=bn.hu;obtain⟨x,rfl,a_,q⟩:=h;refine⟨_,(bN (dW (i6 (he (K:=K) rfl (dG (nD (K:=K) rfl) (by rfl) T.g Rq (bt (pv 0) (bt (l0 (v:= .ty "str") (by rfl) T.bl PyProof.Rows.boot_str rfl) bA))) (λ_=>rfl))) (bZ (c3 WJ)) d4)
     (bN (dW (PW.pt (kZ (dw oT (dG (fk K) (by rfl) T.f Q8 (bt (pv 0) bA)) b5 (dF _)) (kY (dw ni (dG (fk K) (by rfl) T.f Q8 (bt (pv 0) bA)) (oI (v:= .int 8) rfl T.E ⟨_,rfl⟩) (dF _))))) (bZ (c3 WJ)) d4)
     (bZ (c3 (dG (yj (K:=K) rfl rfl) (by rfl) T.aD PyProof.Rows.boot_all (bt (jf rfl (e2 (x:="sign") (zs:=[]) (ix:=[]) (cr uy) ["thing"] rfl rfl (by decide+kernel)) (Eg (pv 0)) (λcl C s H fp=>⟨(cK (i:=0) (show(["sign"]:List Str).Nodup by decide+kernel) rfl (Or.inl rfl)),gm,(Df xZ xZ YW (pv 0) YW)⟩)) bA)))))),?_⟩
  try dsimp only[L2.cxX,L2.ZL,L2.Zl]
  walk_at "rds";refine V5 (λc=>?_) (λc=>?_)
  ·have cR:¬1≤x.length:=by simp at c;omega
   walk_at "rds";have e:gJ x=false:=by rw[Zbc,decide_eq_false cR];rfl
   rw[←e];exact q H (Ze.refl H)
  ·have cR:1≤x.length:=by simp at c;omega
   walk_at "rds";refine V5 (λd=>?_) (λd=>?_)
   ·have d':¬x.length≤8:=by simp at d;omega
    walk_at "rds";have e:gJ x=false:=by rw[Zbc,decide_eq_false d',Bool.and_false];rfl
    rw[←e];exact q H (Ze.refl H)
   ·have d':x.length≤8:=by simp at d;omega
    have bG:x.cps.size<sizeLine:=dj (by have:x.cps.size=x.length:=rfl;omega);walk_at "rds";refine Yg ZiC bG (λ_=>true) (λi=> .bl (letter (x.cps.getD i 0))) (λi ae c2 hi bS k=>?_) (λi ae c2 hi _ bS k=>?_) (λp ae bz bS ag=>?_)
    ·walk_at "rds";exact k ae (Ze.refl ae)
    ·walk_at "rds";rw[IE,IF,Bg];generalize x.cps.getD i 0=cc at k⊢;refine V5 (λz=>?_) (λz=>?_)
     ·walk_at "rds";have e:(!decide (122<cc))=letter cc:=by
       have fZ:97≤cc:=by simpa using z
       unfold letter;rw[decide_eq_true fZ,qa4]
       by_cases y:cc≤122
       ·rw[decide_eq_true y,decide_eq_false (by omega)];rfl
       ·rw[decide_eq_false y,decide_eq_true (by omega)];rfl
      rw[Bg,e];exact k ae (Ze.refl ae)
     ·have e:false=letter cc:=by
       have fZ:¬97≤cc:=by simpa using z
       unfold letter;rw[decide_eq_false fZ];rfl
      rw[e];exact k ae (Ze.refl ae)
    ·have fb:ae p=some (.lst (((List.range x.cps.size).map λi=>letter (x.cps.getD i 0)).map V.bl)):=by
      rw[ag,Ra.mpr (by simp),Rt];rfl
     walk_at "rds";rw[Zic];have e:x.cps.toList.all letter=gJ x:=by rw[Zbc,decide_eq_true cR,decide_eq_true d'];rfl
     rw[e];exact q ae bS
end
def Bh{K:Frag}{mg:Str→Option Value}(T:Tp K mg):Sp:=λvs H Q E=>∃(p:Addr)(x:Str)(ag:HM)(fp:List Addr),vs=[.ref p,.str x]∧c8 T H p ag fp∧x.length≤sizeLine∧ag.names.length≤1000∧
 (gJ x=false→∀ae,Ze H ae→E (.ref T.av) none ae)∧(gJ x=true→x∈ag.names→∀ae,Ze H ae→E (.ref T.aC) none ae)∧
 (gJ x=true→x∉ag.names→30≤ag.names.length→∀ae,Ze H ae→E (.ref T.H) none ae)∧
 (gJ x=true→x∉ag.names→ag.names.length<30→∀(ae:Hp)(ea:List Addr),c8 T ae p ⟨ag.names++ [x],ag.belts⟩ ea→cX fp H ae→VW fp ea H→Q (.int ag.names.length) ae)
theorem ZaY{K:Frag}{mg:Str→Option Value}{T:Tp K mg}{H:Hp}{Q:VK}{E:XK}{p:Addr}{x:Str}{ag:HM}{fp:List Addr}(h:c8 T H p ag fp)(bG:gJ x=true)(a_:x∉ag.names)(d1:ag.names.length<30)
  (q:∀(ae:Hp)(ea:List Addr),c8 T ae p ⟨ag.names++ [x],ag.belts⟩ ea→cX fp H ae→VW fp ea H→Q (.int ag.names.length) ae):Bh T (.ref p::([.str x]++ [])) H Q E:=by
 have IH:x.length≤sizeLine:=by
  have:x.length≤8:=by
   have e:=bG;unfold gJ at e;simp only[Rz,decide_eq_true_eq] at e;exact e.1.2
  exact RW (dj (by omega))
 exact⟨p,x,ag,fp,rfl,h,IH,by omega,λz=>(by rw[bG] at z;cases z),λ_ z=>absurd z a_,λ_ _ z=>absurd z (by omega),λ_ _ _=>q⟩
section
variable {P:Program}{w:World}{K:Frag}{mg:Str→Option Value}{base:Heap}
theorem Bi(T:Tp K mg):OkM P w mg base 2 T.x9 (Bh T):=by
 have eU:=T.a;have eV:=T.e;refine T.x9.F.okX zU (λvs H Q E h=>?_) (λcv A outer s H vs Q E bn h=>?_)
 ·obtain⟨p,x,ag,fp,rfl,_⟩:=h
  rfl
 ·have hu:=bn.hu;obtain⟨p,x,ag,fp,rfl,bR,a_,hz,bD,bI,c6,q⟩:=h;obtain⟨bu,a,b,bs,rfl,ap,a',bU,cD,fW,c'⟩:=id bR;have iE:p≠a:=fc ap bU (by intro z;cases z);have vz:bu≠a:=fc a' bU (by intro z;cases z);refine⟨_,(bN (dW (i6 (he (K:=K) rfl (c9 T.x8 (IG T) bn cF (bt (pv 1) bA)) (λ_=>rfl))) (bZ (iS T.T.g T.T.e Rb rfl (bt YW bA))) d4)
     (bN (dW (dw (En hu) (pv 1) (eI (K:=K) rfl (pv 0) rfl) (by with_unfolding_all rfl)) (bZ (iS T.ab.g T.ab.e Rb rfl (bt YW bA))) d4)
     (bN (dW (dw oU (dG ZhU (by rfl) T.f Q8 (bt (eI (K:=K) rfl (pv 0) rfl) bA)) (oI (v:= .int 30) rfl T.J ⟨_,rfl⟩) (dF _)) (bZ (iS T.r.g T.r.e Rb rfl (bt YW bA))) d4)
     (bN (cy (i:=2) zU.nd rfl (Or.inl rfl) (dG ZhU (by rfl) T.f Q8 (bt (eI (K:=K) rfl (pv 0) rfl) bA)))
     (bN (hp (pv 2) (ho (eI (K:=K) rfl (pv 0) rfl) (pv 1) (km hu)))
     (bZ (c3 (pv 2)))))))),?_⟩
  try dsimp only[L2.cxX,L2.ZL,L2.Zl]
  walk_at "rds";refine⟨x,rfl,a_,λax hK=>?_⟩;have g1:=hK _ _ ap;have g3:=hK _ _ bU;have pG:(numsOf ag.names).length<sizeLine:=dj (by rw[Uh];exact hz);walk_at "rds";cases bG:gJ x with
  |false=>
   walk_at "rds";exact bD bG ax hK
  |true=>
   walk_at "rds";rw[Zd8];refine V5 (λc=>?_) (λc=>?_)
   ·walk_at "rds";exact bI bG (of_decide_eq_true c) ax hK
   ·have cR:x∉ag.names:=λz=>c (decide_eq_true z);walk_at "rds";rw[Uh];refine V5 (λd=>?_) (λd=>?_)
    ·have d':30≤ag.names.length:=by simp at d;omega
     walk_at "rds";exact c6 bG cR d' ax hK
    ·have d':ag.names.length<30:=by simp at d;omega
     walk_at "rds";rw[Uh,GU cR];have fD:cX [p,bu,a,b] H (upd ax a (.dK (numsOf (ag.names++ [x])))):=hK.frame.trans (fR (by simp) g3 (by intro _ z;cases z));refine q bG cR d' _ [p,bu,a,b] ⟨bu,a,b,bs,rfl,?_,?_,Zd,?_,fW,c'.keep fD.tups⟩ fD VW.refl
     ·rw[bW iE];exact g1
     ·rw[bW vz];exact hK _ _ a'
     ·rw[bW fW.symm];exact hK _ _ cD
end
def U1{K:Frag}{mg:Str→Option Value}(T:Tp K mg):Sp:=λvs H Q _=>∃i:Int,vs=[.int i]∧Q (.bl true) H
theorem Zgh{K:Frag}{mg:Str→Option Value}{T:Tp K mg}{H:Hp}{Q:VK}{E:XK}{i:Int}(q:Q (.bl true) H):U1 T ([.int i]++ []) H Q E:=⟨i,rfl,q⟩
local macro_rules| `(tactic|walk_at "rd")=>`(tactic|first|((with_reducible show Nm.U1 _ _ _ _ _);with_reducible refine Nm.Zgh ?_)|fail "none here")
section
variable {P:Program}{w:World}{K:Frag}{mg:Str→Option Value}{base:Heap}
theorem II(T:Tp K mg):OkN P w base 1 T.aN (U1 T):=by
 refine T.aN.F.okX Gi (λvs H Q E h=>?_) (λcv A outer s H vs Q E bn h=>?_)
 ·obtain⟨i,rfl,_⟩:=h
  rfl
 ·have hu:=bn.hu;obtain⟨i,rfl,q⟩:=h;refine⟨_,(bZ (c3 (nc (dG (nD (K:=K) rfl) (by rfl) T.g Rq (bt (pv 0) (bt (l0 (v:= .ty "int") (by rfl) T.aE PyProof.Rows.boot_int rfl) bA))) (nb (C0 (dG (nD (K:=K) rfl) (by rfl) T.g Rq (bt (pv 0) (bt (l0 (v:= .ty "bool") (by rfl) T.au PyProof.Rows.boot_bool rfl) bA)))))))),?_⟩
  try dsimp only[L2.cxX,L2.ZL,L2.Zl]
  walk_at "rds";exact q
end
def Zas{K:Frag}{mg:Str→Option Value}(T:Tp K mg):Sp:=λvs H Q _=>∃i l:Int,vs=[.int i,.int l]∧Q (.bl (decide (l≤i))) H
theorem Zhv{K:Frag}{mg:Str→Option Value}{T:Tp K mg}{H:Hp}{Q:VK}{E:XK}{i l:Int}(q:Q (.bl (decide (l≤i))) H):Zas T ([.int i,.int l]++ []) H Q E:=⟨i,l,rfl,q⟩
local macro_rules| `(tactic|walk_at "rd")=>`(tactic|first|((with_reducible show Nm.Zas _ _ _ _ _);with_reducible refine Nm.Zhv ?_)|fail "none here")
section
variable {P:Program}{w:World}{K:Frag}{mg:Str→Option Value}{base:Heap}
theorem se(T:Tp K mg):OkN P w base 2 T.am (Zas T):=by
 refine T.am.F.okX Gj (λvs H Q E h=>?_) (λcv A outer s H vs Q E bn h=>?_)
 ·obtain⟨i,l,rfl,_⟩:=h
  rfl
 ·have hu:=bn.hu;obtain⟨i,l,rfl,q⟩:=h;refine⟨_,(bZ (c3 (nc (c9 T.aN (II T) bn cF (bt (pv 0) bA)) (nb (l9 oU (pv 0) (pv 1) (dF _)))))),?_⟩
  try dsimp only[L2.cxX,L2.ZL,L2.Zl]
  walk_at "rds";exact q
end
def IJ{K:Frag}{mg:Str→Option Value}(T:Tp K mg):Sp:=λvs H Q E=>∃i:Int,vs=[.int i]∧(¬0≤i→E (.ref T.X) none H)∧(0≤i→Q .non H)
section
variable {P:Program}{w:World}{K:Frag}{mg:Str→Option Value}{base:Heap}
theorem IK(T:Tp K mg):OkN P w base 3 T.aO (IJ T):=by
 refine T.aO.F.okX Gk (λvs H Q E h=>?_) (λcv A outer s H vs Q E bn h=>?_)
 ·obtain⟨i,rfl,_⟩:=h
  rfl
 ·have hu:=bn.hu;obtain⟨i,rfl,bD,q⟩:=h;refine⟨_,(bZ (dW (i6 (he (K:=K) rfl (c9 T.am (se T) bn cF (bt (pv 0) (bt b5 bA))) (λ_=>rfl))) (bZ (iS T.y.g T.y.e Rb rfl (bt YW bA))) d4)),?_⟩
  try dsimp only[L2.cxX,L2.ZL,L2.Zl]
  walk_at "rds"
  by_cases c:0≤i
  ·rw[decide_eq_true c];walk_at "rds";exact q c
  ·rw[decide_eq_false c];walk_at "rds";exact bD c
end
def WQ{K:Frag}{mg:Str→Option Value}(T:Tp K mg):Sp:=λvs H Q _=>∃i b:Int,vs=[.int i,.int b]∧Q (.bl (decide (0≤i∧i<b))) H
theorem Zbz{K:Frag}{mg:Str→Option Value}{T:Tp K mg}{H:Hp}{Q:VK}{E:XK}{i b:Int}(q:Q (.bl (decide (0≤i∧i<b))) H):WQ T ([.int i,.int b]++ []) H Q E:=⟨i,b,rfl,q⟩
local macro_rules| `(tactic|walk_at "rd")=>`(tactic|first|((with_reducible show Nm.WQ _ _ _ _ _);with_reducible refine Nm.Zbz ?_)|fail "none here")
section
variable {P:Program}{w:World}{K:Frag}{mg:Str→Option Value}{base:Heap}
theorem vA(T:Tp K mg):OkN P w base 3 T.az (WQ T):=by
 refine T.az.F.okX Gm (λvs H Q E h=>?_) (λcv A outer s H vs Q E bn h=>?_)
 ·obtain⟨i,b,rfl,_⟩:=h
  rfl
 ·have hu:=bn.hu;obtain⟨i,b,rfl,q⟩:=h;refine⟨_,(bZ (c3 (nc (c9 T.am (se T) bn cF (bt (pv 0) (bt b5 bA))) (nb (l9 oT (pv 0) (pv 1) (dF _)))))),?_⟩
  try dsimp only[L2.cxX,L2.ZL,L2.Zl]
  walk_at "rds";refine V5 (λc=>?_) (λc=>?_)
  ·have cR:0≤i:=of_decide_eq_true c;walk_at "rds";have e:decide (i<b)=decide (0≤i∧i<b):=by rw[decide_eq_decide];exact⟨λz=>⟨cR,z⟩,λz=>z.2⟩
   rw[e];exact q
  ·have cR:¬0≤i:=λz=>c (decide_eq_true z);walk_at "rds";have e:false=decide (0≤i∧i<b):=(decide_eq_false (λz=>cR z.1)).symm;rw[e];exact q
end
def IL{K:Frag}{mg:Str→Option Value}(T:Tp K mg):Sp:=λvs H Q E=>∃(p:Addr)(i:Int)(ag:HM)(fp:List Addr),vs=[.ref p,.int i]∧c8 T H p ag fp∧
 (¬(0≤i∧i<ag.names.length)→E (.ref T.p) none H)∧(0≤i→i<ag.names.length→Q .non H)
section
variable {P:Program}{w:World}{K:Frag}{mg:Str→Option Value}{base:Heap}
theorem qo(T:Tp K mg):OkM P w mg base 4 T.ac (IL T):=by
 have eU:=T.a;have eV:=T.e;refine T.ac.F.okX Gn (λvs H Q E h=>?_) (λcv A outer s H vs Q E bn h=>?_)
 ·obtain⟨p,i,ag,fp,rfl,_⟩:=h
  rfl
 ·have hu:=bn.hu;obtain⟨p,i,ag,fp,rfl,bR,bD,q⟩:=h;obtain⟨bu,a,b,bs,rfl,ap,a',bU,cD,fW,c'⟩:=id bR;refine⟨_,(bZ (dW (i6 (he (K:=K) rfl (c9 T.az (vA T) bn cF (bt (pv 1) (bt (dG ZhU (by rfl) T.f Q8 (bt (eI (K:=K) rfl (pv 0) rfl) bA)) bA))) (λ_=>rfl))) (bZ (iS T.x.g T.x.e Rb rfl (bt YW bA))) d4)),?_⟩
  try dsimp only[L2.cxX,L2.ZL,L2.Zl]
  walk_at "rds";rw[Uh]
  by_cases c:0≤i∧i<ag.names.length
  ·rw[decide_eq_true c];walk_at "rds";exact q c.1 c.2
  ·rw[decide_eq_false c];walk_at "rds";exact bD c
end
def IM{K:Frag}{mg:Str→Option Value}(T:Tp K mg):Sp:=λvs H Q E=>∃(p u:Addr)(b:B5)(ag:HM)(fp:List Addr),vs=[.ref p,.ref u]∧c8 T H p ag fp∧H u=some (.tup b.v)∧ag.belts.length≤1000∧
 ∀(ae:Hp)(ea:List Addr),c8 T ae p ⟨ag.names,ag.belts++ [b]⟩ ea→cX fp H ae→VW fp ea H→Q (.int ag.belts.length) ae
section
variable {P:Program}{w:World}{K:Frag}{mg:Str→Option Value}{base:Heap}
theorem Bj(T:Tp K mg):OkM P w mg base 1 T.aG (IM T):=by
 have eU:=T.a;have eV:=T.e;refine T.aG.F.okX Go (λvs H Q E h=>?_) (λcv A outer s H vs Q E bn h=>?_)
 ·obtain⟨p,u,b,ag,fp,rfl,_⟩:=h
  rfl
 ·have hu:=bn.hu;obtain⟨p,u,b,ag,fp,rfl,bR,fA,hz,q⟩:=h;obtain⟨bu,a,bb,bs,rfl,ap,a',bU,cD,fW,c'⟩:=id bR;have iF:p≠bb:=fc ap cD (by intro z;cases z);have vB:bu≠bb:=fc a' cD (by intro z;cases z);have PF:u≠bb:=fc fA cD (by intro z;cases z);have pG:bs.length<sizeLine:=dj (by rw[c'.length];exact hz);have Bk:=c'.length;refine⟨_,(bN (eB (f4 (K:=K) rfl Q1 GT fm ha (eI (K:=K) rfl (pv 0) rfl) (bt (pv 1) bA)))
     (bZ (c3 (cI qV (dG (fk K) (by rfl) T.f Q8 (bt (eI (K:=K) rfl (pv 0) rfl) bA)) b5)))),?_⟩
  try dsimp only[L2.cxX,L2.ZL,L2.Zl]
  walk_at "rds";have k1:(upd H bb (.lst (bs++ [.ref u]))) p=some (.ins T.m bu [("numbers",.ref a),("rows",.ref bb)]):=by rw[bW iF];exact ap
  have pN:(upd H bb (.lst (bs++ [.ref u]))) bb=some (.lst (bs++ [.ref u])):=Zd;walk_at "rds";have h1:((bs++ [V.ref u]).length:Int)-1=ag.belts.length:=by simp[Bk]
  rw[h1];have fD:cX [p,bu,a,bb] H (upd H bb (.lst (bs++ [.ref u]))):=fR (by simp) cD (by intro _ z;cases z);refine q _ [p,bu,a,bb] ⟨bu,a,bb,_,rfl,k1,?_,?_,pN,fW,(c'.keep fD.tups).snoc (fD.tups _ _ fA)⟩ fD VW.refl
  ·rw[bW vB];exact a'
  ·rw[bW fW];exact bU
end
def vC{K:Frag}{mg:Str→Option Value}(T:Tp K mg):Sp:=λvs H Q E=>∃(p:Addr)(b:B5)(ag:HM)(fp:List Addr),vs= .ref p::b.v∧c8 T H p ag fp∧ag.belts.length≤1000∧
 (¬(0≤b.giver∧b.giver<ag.names.length∧0≤b.taker∧b.taker<ag.names.length)→∀ae,Ze H ae→E (.ref T.p) none ae)∧
 ((0≤b.giver∧b.giver<ag.names.length∧0≤b.taker∧b.taker<ag.names.length)→¬(1≤b.give∧1≤b.take∧0≤b.start)→∀ae,Ze H ae→E (.ref T.X) none ae)∧
 ((0≤b.giver∧b.giver<ag.names.length∧0≤b.taker∧b.taker<ag.names.length)→(1≤b.give∧1≤b.take∧0≤b.start)→60≤ag.belts.length→∀ae,Ze H ae→E (.ref T.H) none ae)∧
 ((0≤b.giver∧b.giver<ag.names.length∧0≤b.taker∧b.taker<ag.names.length)→(1≤b.give∧1≤b.take∧0≤b.start)→ag.belts.length<60→∀(ae:Hp)(ea:List Addr),c8 T ae p ⟨ag.names,ag.belts++ [b]⟩ ea→cX fp H ae→VW fp ea H→Q (.int ag.belts.length) ae)
theorem Zfk{K:Frag}{mg:Str→Option Value}{T:Tp K mg}{H:Hp}{Q:VK}{E:XK}{p:Addr}{g t cQ bT st:Int}{ag:HM}{fp:List Addr}(h:c8 T H p ag fp)
  (ap:0≤g) (a':g<ag.names.length) (bU:0≤t) (cD:t<ag.names.length) (dJ:1≤cQ) (c':1≤bT) (jt:0≤st) (d1:ag.belts.length<60)
  (q:∀(ae:Hp)(ea:List Addr),c8 T ae p ⟨ag.names,ag.belts++ [⟨g,t,cQ,bT,st⟩]⟩ ea→cX fp H ae→VW fp ea H→Q (.int ag.belts.length) ae):vC T [.ref p,.int g,.int t,.int cQ,.int bT,.int st] H Q E:=
 ⟨p,⟨g,t,cQ,bT,st⟩,ag,fp,rfl,h,by omega,λz=>absurd ⟨ap,a',bU,cD⟩ z,λ_ z=>absurd ⟨dJ,c',jt⟩ z,λ_ _ z=>absurd z (by omega),λ_ _ _=>q⟩
section
variable {P:Program}{w:World}{K:Frag}{mg:Str→Option Value}{base:Heap}
theorem IN(T:Tp K mg):YN P w K mg base (CXX P w) 5 T.B T.C ["self","giver","taker","give","take","start"] (vC T):=by
 have eU:=T.a;have eV:=T.e;refine T.P.okX Gp (λvs H Q E h=>?_) (λcv A outer s H vs Q E bn h=>?_)
 ·obtain⟨p,b,ag,fp,rfl,_⟩:=h
  rfl
 ·have hu:=bn.hu;obtain⟨p,b,ag,fp,rfl,bR,hz,bD,bI,c6,q⟩:=h;obtain⟨bu,a,bb,bs,rfl,ap,a',bU,cD,fW,c'⟩:=id bR;obtain⟨g,t,cQ,bT,st⟩:=b;have Bk:=c'.length;refine⟨_,(bN (eB (gp (pv 0) T.a T.ac (qo T) bn cF (bt (pv 1) bA)))
     (bN (eB (gp (pv 0) T.a T.ac (qo T) bn cF (bt (pv 2) bA)))
     (bN (dW (PW.pt (kZ (i6 (he (K:=K) rfl (c9 T.am (se T) bn cF (bt (pv 3) (bt b5 bA))) (λ_=>rfl))) (kY (i6 (he (K:=K) rfl (c9 T.am (se T) bn cF (bt (pv 4) (bt b5 bA))) (λ_=>rfl)))))) (bZ (iS T.y.g T.y.e Rb rfl (bt YW bA))) d4)
     (bN (eB (c9 T.aO (IK T) bn cF (bt (pv 5) bA)))
     (bN (dW (dw oU (dG (fk K) (by rfl) T.f Q8 (bt (eI (K:=K) rfl (pv 0) rfl) bA)) (oI (v:= .int 60) rfl T.L ⟨_,rfl⟩) (dF _)) (bZ (iS T.r.g T.r.e Rb rfl (bt YW bA))) d4)
     (bZ (c3 (gp (pv 0) T.a T.aG (Bj T) bn cF (bt (ij (bt (pv 1) (bt (pv 2) (bt (pv 3) (bt (pv 4) (bt (pv 5) bA)))))) bA))))))))),?_⟩
  try dsimp only[L2.cxX,L2.ZL,L2.Zl]
  dsimp only[B5.v] at*;walk_at "rds";refine⟨p,g,ag,_,rfl,bR,λz=>bD (by omega) H (Ze.refl H),λdC g1=>?_⟩;walk_at "rds";refine⟨p,t,ag,_,rfl,bR,λz=>bD (by omega) H (Ze.refl H),λfS mh=>?_⟩;have bV:0≤g∧g<ag.names.length∧0≤t∧t<ag.names.length:=⟨dC,g1,fS,mh⟩;walk_at "rds"
  by_cases c:1≤cQ
  ·rw[decide_eq_true c];walk_at "rds"
   by_cases d:1≤bT
   ·rw[decide_eq_true d];walk_at "rds";refine⟨st,rfl,λz=>bI bV (by omega) H (Ze.refl H),λf=>?_⟩;walk_at "rds";refine Rd.ifD (λl=>?_) (λl=>?_)
    ·walk_at "rds";exact c6 bV (by omega) (by omega) H (Ze.refl H)
    walk_at "rds";refine⟨by show 5≤sizeLine;decide,λu fA=>?_⟩;have sn:Ze H (upd H u (.tup [.int g,.int t,.int cQ,.int bT,.int st])):=cV fA;have lK:=bR.same sn;walk_at "rds";refine⟨p,u,⟨g,t,cQ,bT,st⟩,ag,_,rfl,lK,Zd,hz,λae ea eW fD gr=>?_⟩;refine q bV (by omega) (by omega) ae ea eW (sn.frame.trans fD) (λx a_=>?_);rcases gr x a_ with z|z
    ·exact .inl z
    ·refine .inr ?_;cases e:H x with
     |none=>rfl
     |some o=>rw[sn _ _ e] at z;cases z
   ·rw[decide_eq_false d];walk_at "rds";exact bI bV (by omega) H (Ze.refl H)
  ·rw[decide_eq_false c];walk_at "rds";exact bI bV (by omega) H (Ze.refl H)
end
def Bl{K:Frag}{mg:Str→Option Value}(T:Tp K mg):Sp:=λvs H Q _=>∃p bu:Addr,vs=[.ref p]∧H p=some (.ins T.m bu [])∧H bu=some (.own p)∧
 ∀(ae:Hp)(fp:List Addr),c8 T ae p ⟨[],[]⟩ fp→(∀x∈fp,x=p∨x=bu∨H x=none)→(∀b o,H b=some o→b≠p→ae b=some o)→Q .non ae
theorem Zf2{K:Frag}{mg:Str→Option Value}{T:Tp K mg}{H:Hp}{Q:Addr→Hp→Prop}{E:XK}
  (q:∀(p:Addr)(fp:List Addr)(ae:Hp),c8 T ae p ⟨[],[]⟩ fp→(∀x∈fp,H x=none)→Ze H ae→Q p ae):
  ∀x bu,H x=none→H bu=none→bu≠x→Bl T (.ref x::([]++ [])) (upd (upd H bu (.own x)) x (.ins T.m bu [])) (λv bo=>v= .non∧Q x bo) E:=by
 intro x bu a_ i4 ne;refine⟨x,bu,rfl,Zd,by rw[bW ne,Zd],λae fp bR bE bp=>⟨rfl,q x fp ae bR (λy bP=>?_) (λb o e=>bp b o ?_ (cT e a_))⟩⟩
 ·rcases bE y bP with rfl|rfl|h
  ·exact a_
  ·exact i4
  ·by_cases ap:y=x
   ·rw[ap];exact a_
   ·by_cases a':y=bu
    ·rw[a'];exact i4
    ·rw[bW ap,bW a'] at h;exact h
 ·rw[bW (cT e a_),bW (cT e i4)];exact e
local macro_rules| `(tactic|walk_at "rd")=>`(tactic|first|with_reducible refine Nm.Zf2 ?_|fail "none here")
section
variable {P:Program}{w:World}{K:Frag}{mg:Str→Option Value}{base:Heap}
theorem Bm(T:Tp K mg):OkI P w mg base 1 T.aH (Bl T):=by
 have eU:=T.a;have eV:=T.e;refine T.aH.F.okX Gq (λvs H Q E h=>?_) (λcv A outer s H vs Q E bn h=>?_)
 ·obtain⟨p,bu,rfl,_⟩:=h
  rfl
 ·have hu:=bn.hu;obtain⟨p,bu,rfl,bz,i4,q⟩:=h;refine⟨_,(bN (iT (K:=K) rfl (pv 0) nt rfl)
     (bZ (iT (K:=K) rfl (pv 0) (gF bA) rfl))),?_⟩
  try dsimp only[L2.cxX,L2.ZL,L2.Zl]
  walk_at "rds";intro a bB;have iE:p≠a:=cT bz bB;have vz:bu≠a:=cT i4 bB;have kJ:p≠bu:=fc bz i4 (by intro z;cases z);have jw:(upd H a (.dK [])) p=some (.ins T.m bu []):=by rw[bW iE];exact bz
  walk_at "rds";refine⟨Q5 _,λb ao=>?_⟩;have jx:H b=none:=by
   by_cases ap:b=p
   ·rw[ap,Zd] at ao;cases ao
   ·by_cases a':b=a
    ·rw[a'];exact bB
    ·rw[bW ap,bW a'] at ao;exact ao
  have iF:p≠b:=cT bz jx;have vB:bu≠b:=cT i4 jx;have fW:a≠b:=by
   intro z;rw[←z,bW iE.symm,Zd] at ao;cases ao
  have o7:(upd (upd (upd H a (.dK [])) p (.ins T.m bu [("numbers",.ref a)])) b (.lst [])) p=some (.ins T.m bu [("numbers",.ref a)]):=by rw[bW iF,Zd]
  walk_at "rds";refine q _ [p,bu,a,b] ⟨bu,a,b,[],rfl,Zd,?_,?_,?_,fW,.nil⟩ (λx a_=>?_) (λc o e br=>?_)
  ·rw[bW kJ.symm,bW vB,bW kJ.symm,bW vz];exact i4
  ·rw[bW iE.symm,bW fW,bW iE.symm,Zd];rfl
  ·rw[bW iF.symm,Zd]
  ·simp only[QW,Ru,or_false] at a_;rcases a_ with rfl|rfl|rfl|rfl
   ·exact .inl rfl
   ·exact .inr (.inl rfl)
   ·exact .inr (.inr bB)
   ·exact .inr (.inr jx)
  ·rw[bW br,bW (cT e jx),bW br,bW (cT e bB)];exact e
end
def IP{K:Frag}{mg:Str→Option Value}(T:Tp K mg):Sp:=λvs H Q _=>∃(f3 e6:Addr)(cE:List Str)(bs:List V)(ls:List B5),vs=[.ref f3,.ref e6]∧SqL K H f3 (cE.map V.str)∧(∀n∈cE,gJ n=true)∧cE.Nodup∧0<cE.length∧cE.length≤30∧H e6=some (.lst bs)∧d5 H bs ls∧(∀l∈ls,Bel cE.length l)∧ls.length≤60∧
 ∀(p:Addr)(fp:List Addr)(ae:Hp),c8 T ae p ⟨cE,ls⟩ fp→(∀x∈fp,H x=none)→Ze H ae→Q (.ref p) ae
section
variable {P:Program}{w:World}{K:Frag}{mg:Str→Option Value}{base:Heap}
theorem IQ(T:Tp K mg):OkN P w base 6 T.aP (IP T):=by
 have IR:YN P w K mg base (CXX P w) 5 T.B T.C ["self","giver","taker","give","take","start"] (vC T):=(IN T).mono (by decide);have eU:=T.a;have eV:=T.e;refine T.aP.F.okX lv (λvs H Q E h=>?_) (λcv A outer s H vs Q E bn h=>?_)
 ·obtain⟨f3,e6,cE,bs,ls,rfl,_⟩:=h
  rfl
 ·have hu:=bn.hu;obtain⟨f3,e6,cE,bs,ls,rfl,Bn,gN,dM,AC,hE,kD,c1,IS,lG,q⟩:=h;have gq:=c1.length;refine⟨_,(bN (cy (i:=2) lv.nd rfl (Or.inl rfl) (ym T.aH (Bm T) bn T.ak cF))
     (bN (d8 PassesOwn.leaving rfl (d_ (K:=K) rfl (pv 0)) (cK (i:=3) lv.nd rfl (Or.inl rfl)) (bZ (eB (gp (pv 2) T.a T.x9 (Bi T) bn cF (bt (pv 3) bA)))))
     (bN (d8 PassesOwn.leaving rfl (d_ (K:=K) rfl (pv 1)) (hW (K:=K) (n:=5) rfl rfl (en (cK (i:=4) lv.nd rfl (Or.inl rfl)) (en (cK (i:=5) lv.nd rfl (Or.inl rfl)) (en (cK (i:=6) lv.nd rfl (Or.inl rfl)) (en (cK (i:=7) lv.nd rfl (Or.inl rfl)) (en (cK (i:=8) lv.nd rfl (Or.inl rfl)) hP)))))) (bZ (eB (xu (pv 2) T.a T.O IR bn T.Q .nil cF (bt (pv 4) (bt (pv 5) (bt (pv 6) (bt (pv 7) (bt (pv 8) bA)))))))))
     (bZ (c3 (pv 2)))))),?_⟩
  try dsimp only[L2.cxX,L2.ZL,L2.Zl]
  walk_at "rds";intro bz fp b7 bR bE bS;have PH:=bS.seq Bn;walk_at "rds";refine Z2 (d9 Bn) (λi af ae=>∃ea k0,af=[some (.ref f3),some (.ref e6),some (.ref bz),k0,none,none,none,none,none]∧c8 T ae bz ⟨cE.take i,[]⟩ ea∧Ze H ae∧∀x∈ea,H x=none) ⟨fp,_,rfl,bR,bS,bE⟩ (λi af ae ⟨_,_,_,_,s,_⟩=>s) ?_ ?_
  ·rintro i af ae hi ⟨ea,k0,rfl,lK,s',e_⟩;have ce:i<cE.length:=by rw[QM] at hi;exact hi
   have cU:(cE.map V.str).getD i .non= .str cE[i]:=by simp[List.getD,ce]
   rw[cU];walk_at "rds";have kc:cE[i]∉cE.take i:=by
    have a':=dM;rw[←List.take_append_drop (i+1) cE,QR ce] at a';exact λz=>(qag.mp (qag.mp a').1).2.2 _ z _ (by simp) rfl
   refine ZaY lK (gN _ (QO ce)) kc (by simp;omega) (λbo mR eW fD gr=>?_);obtain⟨bJ,hx⟩:=ZcV s' e_ fD gr;refine⟨mR,_,rfl,?_,bJ,hx⟩;rw[QR ce];exact eW
  ·rintro af ae ⟨ea,k0,rfl,lK,s',e_⟩;rw[QM,GE] at lK;have iM:=s' _ _ kD;walk_at "rds";refine Z2 (d9 (SqL.of kD)) (λi af ae=>∃(ea:List Addr)(a1 a2 a3 a4 a5:Option V),af=[some (.ref f3),some (.ref e6),some (.ref bz),k0,a1,a2,a3,a4,a5]∧c8 T ae bz ⟨cE,ls.take i⟩ ea∧Ze H ae∧∀x∈ea,H x=none)
    ⟨ea,_,_,_,_,_,rfl,lK,s',e_⟩ (λi af ae ⟨_,_,_,_,_,_,_,_,s,_⟩=>s) ?_ ?_
   ·rintro i af b7 hi ⟨sf,a1,a2,a3,a4,a5,rfl,iG,b9,vD⟩;have ce:i<ls.length:=by omega
    obtain⟨t,e5,ei⟩:=c1.at (QN ce);have cP:bs.getD i .non= .ref t:=by simp[List.getD,e5]
    rw[cP];have bv:=IS _ (QO ce);have dE:=QR ce;have hJ:=b9 _ _ ei;generalize ls[i]=l at*;obtain⟨cj,cM,gE,hQ⟩:=bv.rg;obtain⟨fo,uj⟩:=bv.sz;dsimp only[B5.v] at hJ;refine Rd.Vs (.of hJ) rfl ?_;walk_at "rds";refine Zfk iG cj (by simp;omega) gE (by simp;omega) fo uj bv.st (by simp;omega) (λbY IT vE ht IU=>?_);obtain⟨cC,Bo⟩:=ZcV b9 vD ht IU;refine⟨IT,_,_,_,_,_,rfl,?_,cC,Bo⟩;rw[dE];exact vE
   ·rintro af b7 ⟨sf,a1,a2,a3,a4,a5,rfl,iG,b9,vD⟩;rw[gq,GE] at iG;walk_at "rds";exact q bz sf b7 iG vD b9
end
def IV{K:Frag}{mg:Str→Option Value}(T:Tp K mg):Sp:=λvs H Q _=>∃(c:Int)(a:Addr)(rs:List Int)(hh:Nat)(am:Bool),vs=[.int c,.ref a,.int hh,.bl am]∧SqL K H a (rs.map V.int)∧0<rs.length∧rs.length≤30∧Znf rs∧0<hh∧hh≤10∧
 ∀(u:Addr)(ae:Hp)(b:B5),H u=none→Ze H ae→ae u=some (.tup b.v)→Bel rs.length b→b.give*rs.getD b.giver.toNat 0=b.take*rs.getD b.taker.toNat 0→Q (.ref u) ae
section
variable {P:Program}{w:World}{K:Frag}{mg:Str→Option Value}{base:Heap}
theorem IW(T:Tp K mg):OkN P w base 2 T.aQ (IV T):=by
 refine T.aQ.F.okX jR (λvs H Q E h=>?_) (λcv A outer s H vs Q E bn h=>?_)
 ·obtain⟨c,a,rs,hh,am,rfl,_⟩:=h
  rfl
 ·have hu:=bn.hu;obtain⟨c,a,rs,hh,am,rfl,mb,AC,hE,cD,PJ,PL,q⟩:=h;have IX:0<(hh:Int):=by omega
  have gW:((rs.map V.int).length:Int)=(rs.length:Int):=by simp
  have f3:0<((rs.map V.int).length:Int):=by omega
  refine⟨_,(bN (cy (i:=4) jR.nd rfl (Or.inl rfl) (cI fJ (cI gI (pv 0) b5) b5))
     (bN (cy (i:=5) jR.nd rfl (Or.inl rfl) (cI fJ (pv 4) (dG (fk K) (by rfl) T.f Q8 (bt (pv 1) bA))))
     (bN (cy (i:=6) jR.nd rfl (Or.inl rfl) (cI fJ (cI fN (pv 4) b5) (dG (fk K) (by rfl) T.f Q8 (bt (pv 1) bA))))
     (bN (cy (i:=7) jR.nd rfl (Or.inl rfl) (c9 T.x2 (vg T) bn cF (bt (cp (ixk K) (pv 1) (pv 5) (λ_ _=>rfl)) (bt (cp (ixk K) (pv 1) (pv 6) (λ_ _=>rfl)) bA))))
     (bN (cy (i:=8) jR.nd rfl (Or.inl rfl) (cI (hf K) b5 (cI fJ (cI fN (pv 4) b5) (pv 2))))
     (bN (cy (i:=9) jR.nd rfl (Or.inl rfl) (cI fN (cI gI (pv 8) (cp (ixk K) (pv 1) (pv 6) (λ_ _=>rfl))) (pv 7)))
     (bN (cy (i:=10) jR.nd rfl (Or.inl rfl) (cI fN (cI gI (pv 8) (cp (ixk K) (pv 1) (pv 5) (λ_ _=>rfl))) (pv 7)))
     (bN (cy (i:=11) jR.nd rfl (Or.inl rfl) (cI fJ (cI fN (pv 4) b5) b5))
     (bN (o_ (dW (PW.pt (kZ (he (K:=K) rfl (pv 3) (λ_=>rfl)) (kY (PW.pt (oL (dw oU (pv 5) (pv 6) (dF _)) (oJ (dw ni (cI fJ (cI fN (pv 4) b5) b5) b5 (dF _)))))))) (bZ (cy (i:=11) jR.nd rfl (Or.inl rfl) (cI (hf K) (pv 11) (cI gI (pv 10) (cp (ixk K) (pv 1) (pv 6) (λ_ _=>rfl)))))) d4))
     (bZ (c3 (ij (bt (pv 5) (bt (pv 6) (bt (pv 9) (bt (pv 10) (bt (pv 11) bA))))))))))))))))),?_⟩
  try dsimp only[L2.cxX,L2.ZL,L2.Zl]
  walk_at "rds";have g8:0≤c*48271 % 2147483647:=by omega
  have fe:c*48271 % 2147483647<2147483647:=by omega
  generalize c*48271 % 2147483647=e8 at*;have cj:=RY e8 (show((rs.map V.int).length:Int)≠0 by omega);have cM:=R1 e8 f3;have gE:=RY (e8 / 7) (show((rs.map V.int).length:Int)≠0 by omega);have hQ:=R1 (e8 / 7) f3;generalize e8 % ((rs.map V.int).length:Int)=g at*;generalize e8 / 7 % ((rs.map V.int).length:Int)=t at*;rw[gW] at cM hQ;have Bp:∀{w:Int},0≤w→w<(rs.length:Int)→∃x:Nat,rs.getD w.toNat 0=(x:Int)∧1≤x∧x≤6:=λ{w} eQ fI=>by
   have bv:rs.getD w.toNat 0∈rs:=by rw[eS (by omega)];exact QO _
   obtain⟨eZ,iO⟩:=cD _ bv;exact⟨(rs.getD w.toNat 0).toNat,by omega,by omega,by omega⟩
  obtain⟨x,ex,x0,x1⟩:=Bp cj cM;obtain⟨y,ew,lw,h3⟩:=Bp gE hQ;have h6:=Zbx cj cM;have lF:=Zbx gE hQ;rw[ex] at h6;rw[ew] at lF;have PM:=RY (e8 / 49) (show(hh:Int)≠0 by omega);have PN:=R1 (e8 / 49) IX;obtain⟨f,IY⟩:∃f:Nat,1+e8 / 49 % (hh:Int)=(f:Int):=⟨(1+e8 / 49 % (hh:Int)).toNat,by omega⟩;have dz:1≤f:=by omega
  have f1:f≤10:=by omega
  have dC:0<Nat.gcd x y:=qah _ (by omega);have PP:Nat.gcd x y≤x:=qaf (by omega) (R7 _ _);have PQ:Nat.gcd x y≤y:=qaf (by omega) (RD _ _);have i':x≤f*x:=Nat.le_mul_of_pos_left x (by omega);have xG:y≤f*y:=Nat.le_mul_of_pos_left y (by omega);have PR:f*x≤10*6:=Nat.mul_le_mul f1 x1;have PU:f*y≤10*6:=Nat.mul_le_mul f1 h3;have eZ:1≤f*y / Nat.gcd x y:=qa6 (by omega) dC;have iO:1≤f*x / Nat.gcd x y:=qa6 (by omega) dC;have ku:f*x / Nat.gcd x y≤60:=QZ (RF _ _) (by omega);have Hl:f*y / Nat.gcd x y≤60:=QZ (RF _ _) (by omega);have PV:IntMulOk (1+e8 / 49 % (hh:Int)) (x:Int):=mulI (n:=10) (m:=10) (by omega) (by omega) (by decide);have PX:IntMulOk (1+e8 / 49 % (hh:Int)) (y:Int):=mulI (n:=10) (m:=10) (by omega) (by omega) (by decide);have PY:0<((Nat.gcd x y:Nat):Int)∧((Nat.gcd x y:Nat):Int).natAbs.log2<9000:=⟨by omega,u9 (by omega)⟩;refine Rd.Zmy mb h6 ?_;walk_at "rds";refine⟨x,y,rfl,?_⟩;walk_at "rds";rw[IY];have eg:(f:Int)*(y:Int) / ((Nat.gcd x y:Nat):Int)=((f*y / Nat.gcd x y:Nat):Int):=rfl;have dE:(f:Int)*(x:Int) / ((Nat.gcd x y:Nat):Int)=((f*x / Nat.gcd x y:Nat):Int):=rfl;rw[eg,dE];have js:=Zns (f:=f) (y:=y) x0;generalize f*y / Nat.gcd x y=cQ at*;generalize f*x / Nat.gcd x y=bT at*;have PZ:IntMulOk (bT:Int) (y:Int):=mulI (n:=10) (m:=10) (by omega) (by omega) (by decide);have vF:0≤e8 / 98 % 3∧e8 / 98 % 3≤2:=by omega
  have ty:(bT:Int)*(y:Int)≤60*6:=Int.mul_le_mul (by omega) (by omega) (by omega) (by omega);have P0:0≤(bT:Int)*(y:Int):=Int.mul_nonneg (by omega) (by omega);refine Rd.cut (λbQ ae=>ae=H∧∃st:Int,bQ=[some (.int c),some (.ref a),some (.int hh),some (.bl am),some (.int e8),some (.int g),some (.int t),some (.int (Nat.gcd x y:Nat)),some (.int f),some (.int cQ),some (.int bT),some (.int st)]∧0≤st) ?k1 ?g9
  case g9=>
   cases am with
   |true=>
    walk_at "rds";exact⟨rfl,_,rfl,by omega⟩
   |false=>
    walk_at "rds";refine Rd.ifD (λl1=>?_) (λl1=>?_)
    ·walk_at "rds";refine Rd.ifD (λh0=>?_) (λh0=>?_)
     ·walk_at "rds";exact⟨rfl,_,rfl,by omega⟩
     ·walk_at "rds";exact⟨rfl,_,rfl,by omega⟩
    ·walk_at "rds";exact⟨rfl,_,rfl,by omega⟩
  case k1=>
   rintro bQ ae ⟨rfl,st,rfl,IZ⟩;walk_at "rds";refine⟨by show 5≤sizeLine;decide,λu gc=>?_⟩;exact q u _ ⟨g,t,cQ,bT,st⟩ gc (cV gc) Zd ⟨⟨cj,cM,gE,hQ⟩,⟨by dsimp only;omega,by dsimp only;omega⟩,IZ,⟨by dsimp only;omega,by dsimp only;omega⟩⟩ (by dsimp only;rw[ex,ew];exact_mod_cast js)
end
def I0{K:Frag}{mg:Str→Option Value}(T:Tp K mg):Sp:=λvs H Q _=>∃(c:Addr)(xs:List Int),vs=[.ref c]∧SqL K H c (xs.map V.int)∧H c=some (.lst (xs.map V.int))∧Q (.bl true) H
section
variable {P:Program}{w:World}{K:Frag}{mg:Str→Option Value}{base:Heap}
theorem I1(T:Tp K mg):OkN P w base 1 T.aR (I0 T):=by
 refine T.aR.F.okX zV (λvs H Q E h=>?_) (λcv A outer s H vs Q E bn h=>?_)
 ·obtain⟨c,xs,rfl,_⟩:=h
  rfl
 ·have hu:=bn.hu;obtain⟨c,xs,rfl,br,jC,q⟩:=h;refine⟨_,(bN (dW (i6 (he (K:=K) rfl (dG (nD (K:=K) rfl) (by rfl) T.g Rq (bt (pv 0) (bt (l0 (v:= .ty "list") (by rfl) T.j RA rfl) bA))) (λ_=>rfl))) (bZ (c3 WJ)) d4)
     (bN (d8 PassesOwn.leaving rfl (d_ (K:=K) rfl (pv 0)) (cK (i:=1) zV.nd rfl (Or.inl rfl)) (bZ (dW (PW.pt (kZ (i6 (he (K:=K) rfl (dG (nD (K:=K) rfl) (by rfl) T.g Rq (bt (pv 1) (bt (l0 (v:= .ty "int") (by rfl) T.aE PyProof.Rows.boot_int rfl) bA))) (λ_=>rfl))) (kY (he (K:=K) rfl (dG (nD (K:=K) rfl) (by rfl) T.g Rq (bt (pv 1) (bt (l0 (v:= .ty "bool") (by rfl) T.au PyProof.Rows.boot_bool rfl) bA))) (λ_=>rfl))))) (bZ (c3 WJ)) d4)))
     (bZ (c3 WJ)))),?_⟩
  try dsimp only[L2.cxX,L2.ZL,L2.Zl]
  walk_at "rds";refine Z2 (d9 br) (λi af ae=>ae=H∧∃a1:Option V,af=[some (.ref c),a1]) ⟨rfl,_,rfl⟩ (λi af ae h=>h.1▸Ze.refl H) ?_ ?_
  ·rintro i af ae hi ⟨rfl,a1,rfl⟩;have ce:i<xs.length:=by rw[QM] at hi;exact hi
   have cU:(xs.map V.int).getD i .non=V.int xs[i]:=by simp[List.getD,ce]
   rw[cU];walk_at "rds";exact⟨rfl,_,rfl⟩
  ·rintro af ae ⟨rfl,a1,rfl⟩;walk_at "rds";exact q
end
def I2{K:Frag}{mg:Str→Option Value}(T:Tp K mg):Sp:=λvs H Q _=>∃(p:Addr)(jm:JM)(ad:List Addr),vs=[.ref p]∧Y0 T H p jm ad∧∀r,H r=none→Q (.ref r) (upd H r (.lst (jm.inner.map V.int)))
section
variable {P:Program}{w:World}{K:Frag}{mg:Str→Option Value}{base:Heap}
theorem Bq(T:Tp K mg):OkM P w mg base 1 T.aI (I2 T):=by
 have vG:=T.k;have vH:=T.w;refine T.aI.F.okX Gr (λvs H Q E h=>?_) (λcv A outer s H vs Q E bn h=>?_)
 ·obtain⟨p,jm,ad,rfl,_⟩:=h
  rfl
 ·have hu:=bn.hu;obtain⟨p,jm,ad,rfl,bw,q⟩:=h;obtain⟨bu,a,b,c,d,bs,rfl,ap,a',bU,cD,dJ,c'⟩:=bw;refine⟨_,(bZ (c3 (k7 (nE (K:=K) rfl) (by rfl) T.j RA (bt (eI (K:=K) rfl (pv 0) rfl) bA)))),?_⟩
  try dsimp only[L2.cxX,L2.ZL,L2.Zl]
  walk_at "rds";refine Rd.VM (.of a') (λr bn=>?_);walk_at "rds";exact q r bn
end
def I3{K:Frag}{mg:Str→Option Value}(T:Tp K mg):Sp:=λvs H Q E=>∃(p r:Addr)(jm:JM)(ad:List Addr)(cf:List Int),vs=[.ref p,.ref r]∧Y0 T H p jm ad∧SqL K H r (cf.map V.int)∧cf.length≤400∧jm.inner.length≤400∧jm.kept.length≤30∧
 ((∃k∈cf,¬(0≤k∧k<(jm.kept.length:Int)))→∀ae,Ze H ae→E (.ref T.p) none ae)∧((∀k∈cf,0≤k∧k<(jm.kept.length:Int))→∀(u:Addr)(ae:Hp),H u=none→Ze H ae→ae u=some (.lst ((jT jm cf).map V.int))→Q (.ref u) ae)
section
variable {P:Program}{w:World}{K:Frag}{mg:Str→Option Value}{base:Heap}
theorem I4(T:Tp K mg):OkM P w mg base 4 T.aS (I3 T):=by
 have vG:=T.k;have vH:=T.w;refine T.aS.F.okX uP (λvs H Q E h=>?_) (λcv A outer s H vs Q E bn h=>?_)
 ·obtain⟨p,r,jm,ad,cf,rfl,_⟩:=h
  rfl
 ·have hu:=bn.hu;obtain⟨p,r,jm,ad,cf,rfl,bw,eF,lJ,I5,vI,bD,q⟩:=h;obtain⟨bu,a,b,c,d,bs,rfl,ap,a',bU,cD,dJ,c'⟩:=bw;refine⟨_,(bN (cy (i:=2) uP.nd rfl (Or.inl rfl) (gF bA))
     (bN (d8 PassesOwn.leaving rfl (d_ (K:=K) rfl (pv 1)) (cK (i:=3) uP.nd rfl (Or.inl rfl)) (bN (dW (i6 (he (K:=K) rfl (c9 T.az (vA T) bn cF (bt (pv 3) (bt (dG (fk K) (by rfl) T.f Q8 (bt (eI (K:=K) rfl (pv 0) rfl) bA)) bA))) (λ_=>rfl))) (bZ (iS T.x.g T.x.e Rb rfl (bt YW bA))) d4)
     (bZ (dW (dw (gn (K:=K) rfl hu) (pv 3) (eI (K:=K) rfl (pv 0) rfl) (dF _)) (bZ (eB (f4 (K:=K) rfl Q1 PySem.F.slot_list_extend PySem.F.type_list_extend DJ (pv 2) (bt (eI (K:=K) rfl (pv 0) rfl) bA)))) (bZ (eB (f4 (K:=K) rfl Q1 GT fm ha (pv 2) (bt (cp (ixk K) (eI (K:=K) rfl (pv 0) rfl) (pv 3) (λ_ _=>rfl)) bA))))))))
     (bZ (c3 (pv 2))))),?_⟩
  try dsimp only[L2.cxX,L2.ZL,L2.Zl]
  walk_at "rds";refine⟨Q5 _,λu lL=>?_⟩;have bq:Ze H (upd H u (.lst [])):=cV lL;have hI:(upd H u (.lst [])) u=some (.lst []):=Zd;generalize upd H u (.lst [])=ax at*;have fF:=bq.seq eF;walk_at "rds";have I6:((jm.kept.map λx:Nat=>(x:Int)).map V.int).length=jm.kept.length:=by simp
  refine Z2 (d9 eF) (λi af ae=>Ze H ae∧(∃a3,af=[some (.ref p),some (.ref r),some (.ref u),a3])∧(∀k∈cf.take i,0≤k∧k<(jm.kept.length:Int))∧ae u=some (.lst ((jT jm (cf.take i)).map V.int))) ⟨bq,⟨_,rfl⟩,by simp,hI⟩ (λi af ae h=>h.1) ?_ ?_
  ·rintro i af bo hi ⟨bJ,⟨a3,rfl⟩,sg,kF⟩;have ce:i<cf.length:=by rw[QM] at hi;exact hi
   have cU:(cf.map V.int).getD i .non=V.int cf[i]:=by simp[List.getD,ce]
   rw[cU];have gh:=QR ce;rw[gh];have d1:=Zfm (jm:=jm) (cf.take i);have Br:(cf.take i).length*(jm.inner.length+1)≤400*401:=Nat.mul_le_mul (by rw[FM];omega) (by omega);have jh:=QO ce;generalize cf[i]=k at*;generalize cf.take i=kt at*;have Af:=bJ _ _ ap;have Bs:=bJ _ _ a';have I7:=bJ _ _ bU;have P1:=SqL.of (K:=K) Bs;have P2:=SqL.of (K:=K) I7;walk_at "rds";rw[I6];have kc:Ze bo bo:=Ze.refl bo
   by_cases bp:0≤k∧k<(jm.kept.length:Int)
   case neg=>
    rw[decide_eq_false bp,Bool.not_false];walk_at "rds";exact bD ⟨k,jh,bp⟩ _ bJ
   rw[decide_eq_true bp,qaP];rw[ZjG];have Bt:∀x∈kt++ [k],0≤x∧x<(jm.kept.length:Int):=λx a_=>by
    rcases Rk.mp a_ with z|z
    ·exact sg x z
    ·rw[QS.mp z];exact bp
   have P4:((jT jm kt).map V.int).length<sizeLine:=by
    rw[QM];refine Rp (QZ d1 Br) ?_
    decide
   walk_at "rds"
   by_cases Bu:k=(jm.joined:Int)
   ·have bI:lC jm k=jm.inner:=by unfold lC;rw[if_pos Bu]
    rw[bI,Rv];walk_at "rds";refine⟨u,a,_,_,rfl,rfl,kF,Bs,?_,?_⟩
    ·rw[QM,QM];refine QZ (Nat.add_le_add (QZ d1 Br) I5) ?_
     decide
    walk_at "rds";exact⟨bJ.new lL,⟨_,rfl⟩,Bt,Zd⟩
   ·have bI:lC jm k=[((jm.kept.getD k.toNat 0:Nat):Int)]:=by unfold lC;rw[if_neg Bu]
    rw[bI,Rv];have dU:atI ((jm.kept.map λx:Nat=>(x:Int)).map V.int) k=some (.int ((jm.kept.getD k.toNat 0:Nat):Int)):=by
     obtain⟨j,rfl⟩:=Ri bp.1;have:j<jm.kept.length:=by omega
     exact gj (by simp[List.getD,this])
    generalize jm.kept.getD k.toNat 0=kw at*;walk_at "rds";exact⟨bJ.new lL,⟨_,rfl⟩,Bt,Zd⟩
  ·rintro af bo ⟨bJ,⟨a3,rfl⟩,sg,kF⟩;rw[QM,GE] at sg kF;walk_at "rds";exact q sg u bo lL bJ kF
end
def I8{K:Frag}{mg:Str→Option Value}(T:Tp K mg):Sp:=λvs H Q E=>∃(p c:Addr)(ag:HM)(fp:List Addr)(cG:List Int),vs=[.ref p,.ref c]∧c8 T H p ag fp∧SqL K H c (cG.map V.int)∧cG.length≤1000∧WZ ag.names.length cG∧Q .non H
section
variable {P:Program}{w:World}{K:Frag}{mg:Str→Option Value}{base:Heap}
theorem I9(T:Tp K mg):OkN P w base 5 T.aT (I8 T):=by
 have eU:=T.a;have eV:=T.e;refine T.aT.F.okX zW (λvs H Q E h=>?_) (λcv A outer s H vs Q E bn h=>?_)
 ·obtain⟨p,c,ag,fp,cG,rfl,_⟩:=h
  rfl
 ·have hu:=bn.hu;obtain⟨p,c,ag,fp,cG,rfl,bR,br,hz,bF,q⟩:=h;have cw:0<cG.length:=List.length_pos_iff.mpr bF.1;refine⟨_,(bN (dW (dw (gn (K:=K) rfl hu) (dG (fk K) (by rfl) T.f Q8 (bt (pv 1) bA)) b5 (dF _)) (bZ xc) d4)
     (bN (d8 PassesOwn.leaving rfl (d_ (K:=K) rfl (pv 1)) (cK (i:=2) zW.nd rfl (Or.inl rfl)) (bZ (eB (gp (pv 0) T.a T.ac (qo T) bn cF (bt (pv 2) bA)))))
     (bZ (dW (dw (rd (K:=K) rfl hu) (EB rfl rfl (by rfl) T.f (by rfl) T.aF (bt (pv 1) bA)) (dG (fk K) (by rfl) T.f Q8 (bt (pv 1) bA)) (dF _)) (bZ xc) d4)))),?_⟩
  try dsimp only[L2.cxX,L2.ZL,L2.Zl]
  have kK:¬((cG.map V.int).length:Int)=0:=by rw[QM];omega
  walk_at "rds";refine Z2 (d9 br) (λi af ae=>ae=H∧∃a2,af=[some (.ref p),some (.ref c),a2]) ⟨rfl,_,rfl⟩ (λi af ae h=>h.1▸Ze.refl H) ?_ ?_
  ·rintro i af ae hi ⟨rfl,a2,rfl⟩;have ce:i<cG.length:=by rw[QM] at hi;exact hi
   have cU:(cG.map V.int).getD i .non=V.int cG[i]:=by simp[List.getD,ce]
   rw[cU];have I_:=bF.2.2 cG[i] (QO ce);generalize cG[i]=g at*;walk_at "rds";refine⟨p,g,ag,fp,rfl,bR,λz=>absurd I_ z,λ_ _=>?_⟩;walk_at "rds";exact⟨rfl,_,rfl⟩
  ·rintro af ae ⟨rfl,a2,rfl⟩;walk_at "rds";refine⟨.ref c,rfl,c,cG,rfl,br,by omega,λn bG=>?_⟩;have jP:=bG bF.2.1;have eu:((n:Nat):Int)=((cG.map V.int).length:Int):=by rw[QM,jP]
   walk_at "rds";exact q
end
def Zav{K:Frag}{mg:Str→Option Value}(T:Tp K mg):Sp:=λvs H Q _=>∃a b:Nat,vs=[.int a,.int b]∧Q (.int (Nat.gcd a b:Nat)) H
theorem Zie{K:Frag}{mg:Str→Option Value}{T:Tp K mg}{H:Hp}{Q:VK}{E:XK}{a b:Nat}(q:Q (.int (Nat.gcd a b:Nat)) H):Zav T ([.int a,.int b]++ []) H Q E:=⟨a,b,rfl,q⟩
local macro_rules| `(tactic|walk_at "rd")=>`(tactic|first|((with_reducible show Nm.Zav _ _ _ _ _);with_reducible refine Nm.Zie ?_)|fail "none here")
section
variable {P:Program}{w:World}{K:Frag}{mg:Str→Option Value}{base:Heap}
theorem vJ(T:Tp K mg):OkN P w base 1 T.aA (Zav T):=by
 refine T.aA.F.okX rG (λvs H Q E h=>?_) (λcv A outer s H vs Q E bn h=>?_)
 ·obtain⟨a,b,rfl,_⟩:=h
  rfl
 ·have hu:=bn.hu;obtain⟨a0,eA,rfl,q⟩:=h;rw[←My.ZcP] at q;refine⟨_,(bN (qU PassesOwn.leaving (dw ni (pv 1) b5 (dF _)) (bN (cy (i:=2) rG.nd rfl (Or.inl rfl) (cI fJ (pv 0) (pv 1)))
     (bN (cy (i:=0) rG.nd rfl (Or.inl rfl) (pv 1))
     (bZ (cy (i:=1) rG.nd rfl (Or.inl rfl) (pv 2))))))
     (bZ (c3 (pv 0)))),?_⟩
  try dsimp only[L2.cxX,L2.ZL,L2.Zl]
  walk_at "rd";refine Zdl (λm af ae=>ae=H∧∃(x y:Int)(r:Option V),m=y.toNat∧af=[some (.int x),some (.int y),r]∧0≤x∧0≤y∧My.G x y=My.G a0 eA) _ ⟨rfl,a0,eA,none,rfl,rfl,by omega,by omega,rfl⟩ ?_;rintro m af ae ⟨rfl,x,y,r,rfl,rfl,a_,bP,kB⟩;walk_at "rds";refine V5 (λc=>ZeX ?_) (λc=>?_)
  ·have lE:0<y:=of_decide_eq_true c;walk_at "rds";exact⟨_,(by have:=RY x (show y≠0 by omega);have:=R1 x lE;omega),rfl,y,x % y,some (.int (x % y)),rfl,rfl,bP,RY x (by omega),(zZ a_ lE).trans kB⟩
  ·have lE:¬0<y:=λz=>c (decide_eq_true z);have e:x=My.G a0 eA:=by rw[←kB,My.Zjw a_ (show y=0 by omega)]
   walk_at "rds";rw[e];exact q
end
def I'{K:Frag}{mg:Str→Option Value}(T:Tp K mg):Sp:=λvs H Q E=>∃(r c:Addr)(rs ms:List Int),vs=[.ref r,.ref c]∧SqL K H r (rs.map V.int)∧SqL K H c (ms.map V.int)∧ms≠[]∧ms.Nodup∧ms.length≤1000∧(∀m∈ms,0≤m∧m<(rs.length:Int))∧(∀x∈rs,1≤x∧x≤1000)∧
 ∀(d:Addr)(ae:Hp),H d=none→Ze H ae→ae d=some (.dK (turnsK (turnV rs ms) ms))→Q (.ref d) ae
section
variable {P:Program}{w:World}{K:Frag}{mg:Str→Option Value}{base:Heap}
theorem Ja(T:Tp K mg):OkN P w base 2 T.aU (I' T):=by
 refine T.aU.F.okX nT (λvs H Q E h=>?_) (λcv A outer s H vs Q E bn h=>?_)
 ·obtain⟨r,c,rs,ms,rfl,_⟩:=h
  rfl
 ·have hu:=bn.hu;obtain⟨r,c,rs,ms,rfl,qp,br,bG,dM,hz,od,jU,q⟩:=h;have dU:∀m∈ms,atI (rs.map V.int) m=some (.int (rs.getD m.toNat 0))∧1≤rs.getD m.toNat 0∧rs.getD m.toNat 0≤1000:=λm bv=>by
   obtain⟨cw,ap⟩:=od m bv;obtain⟨k,rfl⟩:=Ri cw;have bp:k<rs.length:=by omega
   rw[QT];have e:rs.getD k 0=rs[k]:=by simp[List.getD,bp]
   rw[e];exact⟨gj (by simp[bp]),jU _ (QO bp)⟩
  refine⟨_,(bN (cy (i:=2) nT.nd rfl (Or.inl rfl) b5)
     (bN (d8 PassesOwn.leaving rfl (d_ (K:=K) rfl (pv 1)) (cK (i:=3) nT.nd rfl (Or.inl rfl)) (bZ (cy (i:=2) nT.nd rfl (Or.inl rfl) (c9 T.aA (vJ T) bn cF (bt (pv 2) (bt (cp (ixk K) (pv 0) (pv 3) (λ_ _=>rfl)) bA))))))
     (bN (cy (i:=4) nT.nd rfl (Or.inl rfl) nt)
     (bN (d8 PassesOwn.leaving rfl (d_ (K:=K) rfl (pv 1)) (cK (i:=3) nT.nd rfl (Or.inl rfl)) (bZ (hp (cI fN (cp (ixk K) (pv 0) (pv 3) (λ_ _=>rfl)) (pv 2)) (ho (pv 4) (pv 3) (km hu)))))
     (bZ (c3 (pv 4))))))),?_⟩
  try dsimp only[L2.cxX,L2.ZL,L2.Zl]
  walk_at "rds";refine Z2 (d9 br) (λi af ae=>ae=H∧∃(a4 a3:Option V),af=[some (.ref r),some (.ref c),some (.int (gcdM rs (ms.take i):Nat)),a3,a4]) ⟨rfl,_,_,rfl⟩ (λi af ae h=>h.1▸Ze.refl H) ?_ ?_
  ·rintro i af ae hi ⟨rfl,a4,a3,rfl⟩;have ce:i<ms.length:=by rw[QM] at hi;exact hi
   have cU:(ms.map V.int).getD i .non=V.int ms[i]:=by simp[List.getD,ce]
   rw[cU];obtain⟨ap,a',bU⟩:=dU ms[i] (QO ce);have eg:gcdM rs (ms.take (i+1))=Nat.gcd (gcdM rs (ms.take i)) (rs.getD ms[i].toNat 0).toNat:=by rw[QR ce,rY]
   rw[eg];generalize gcdM rs (ms.take i)=g at*;generalize ms[i]=m at*;obtain⟨v,b8⟩:∃v:Nat,rs.getD m.toNat 0=(v:Int):=⟨(rs.getD m.toNat 0).toNat,by omega⟩;rw[b8] at ap⊢;rw[QT];walk_at "rds";exact⟨rfl,_,_,rfl⟩
  ·rintro af ae ⟨rfl,a4,a3,rfl⟩;rw[QM,GE];have dC:=Zct (rs:=rs) bG λm bv=>(by have:=(dU m bv).2.1;omega);have g1:(gcdM rs ms:Int)≤1000:=by
    obtain⟨m,bv,h⟩:=Zhe (rs:=rs) bG λm bv=>(by have:=(dU m bv).2.1;omega);have:=(dU m bv).2.2;omega
   have P5:turnV rs ms=λm=>rs.getD m.toNat 0 / (gcdM rs ms:Int):=rfl;walk_at "rds";intro d hd;have bq:Ze ae (upd ae d (.dK [])):=cV hd;have hI:(upd ae d (.dK [])) d=some (.dK (turnsK (turnV rs ms) [])):=Zd;generalize upd ae d (.dK [])=ax at*;walk_at "rds";refine Z2 (d9 br) (λi af bo=>Ze ae bo∧bo d=some (.dK (turnsK (turnV rs ms) (ms.take i)))∧∃(a3:Option V),af=[some (.ref r),some (.ref c),some (.int (gcdM rs ms:Nat)),a3,some (.ref d)]) ⟨bq,hI,_,rfl⟩ (λi af bo h=>h.1) ?_ ?_
   ·rintro i af bo hi ⟨bJ,hy,a3,rfl⟩;have ce:i<ms.length:=by rw[QM] at hi;exact hi
    have cU:(ms.map V.int).getD i .non=V.int ms[i]:=by simp[List.getD,ce]
    rw[cU];obtain⟨ap,a',bU⟩:=dU ms[i] (QO ce);have gN:ms[i]∉ms.take i:=λz=>by
     obtain⟨j,bw,jS⟩:=Q4 z;rw[qaD] at jS;have H3:j<i:=by rw[FM] at bw;omega
     exact absurd ((qam dM).mp jS) (by omega)
    have dE:turnsK (turnV rs ms) (ms.take (i+1))=ec (turnsK (turnV rs ms) (ms.take i)) (Sum.inl ms[i]) (V.int (rs.getD ms[i].toNat 0 / (gcdM rs ms:Int))):=by
     rw[QR ce];exact(An (f:=turnV rs ms) gN).symm
    rw[dE];have AL:(turnsK (turnV rs ms) (ms.take i)).length<sizeLine:=by
     unfold turnsK;rw[QM,FM];exact dj (by omega)
    generalize turnsK (turnV rs ms) (ms.take i)=kv at*;generalize ms[i]=m at*;generalize rs.getD m.toNat 0=v at*;have h7:=bJ.seq qp;generalize gcdM rs ms=g at*;have gY:0<(g:Int)∧(g:Int).natAbs.log2<9000:=⟨by omega,u6 (by omega) (by omega)⟩;walk_at "rds";exact⟨bJ.new hd,Zd,_,rfl⟩
   ·rintro af bo ⟨bJ,hy,a3,rfl⟩;rw[QM,GE] at hy;walk_at "rds";exact q d bo hd bJ hy
end
def Jb{K:Frag}{mg:Str→Option Value}(T:Tp K mg):Sp:=λvs H Q E=>∃(gB ba:Addr)(cE:List Str)(bs:List V)(ls:List B5),vs=[.ref gB,.ref ba]∧H gB=some (.lst (cE.map V.str))∧H ba=some (.lst bs)∧d5 H bs ls∧Vm cE∧ls.length≤1000∧
 ∀(p:Addr)(fp:List Addr)(ae:Hp),c8 T ae p ⟨cE,ls⟩ fp→(∀x∈fp,H x=none)→Ze H ae→Q (.ref p) ae
section
variable {P:Program}{w:World}{K:Frag}{mg:Str→Option Value}{base:Heap}
theorem Jc(T:Tp K mg):OkN P w base 3 T.aV (Jb T):=by
 have eU:=T.a;have eV:=T.e;refine T.aV.F.okX rH (λvs H Q E h=>?_) (λcv A outer s H vs Q E bn h=>?_)
 ·obtain⟨gB,ba,cE,bs,ls,rfl,_⟩:=h
  rfl
 ·have hu:=bn.hu;obtain⟨gB,ba,cE,bs,ls,rfl,kL,sh,c1,⟨dM,gN,Jd⟩,hz,q⟩:=h;have gq:=c1.length;refine⟨_,(bN (cy (i:=2) rH.nd rfl (Or.inl rfl) (ym T.aH (Bm T) bn T.ak cF))
     (bN (d8 PassesOwn.leaving rfl (d_ (K:=K) rfl (pv 0)) (cK (i:=3) rH.nd rfl (Or.inl rfl)) (bZ (eB (gp (pv 2) T.a T.x9 (Bi T) bn cF (bt (pv 3) bA)))))
     (bN (d8 PassesOwn.leaving rfl (d_ (K:=K) rfl (pv 1)) (cK (i:=4) rH.nd rfl (Or.inl rfl)) (bZ (eB (gp (pv 2) T.a T.aG (Bj T) bn cF (bt (pv 4) bA)))))
     (bZ (c3 (pv 2)))))),?_⟩
  try dsimp only[L2.cxX,L2.ZL,L2.Zl]
  walk_at "rds";intro bz fp ax bR bE bS;have P6:gB∉fp:=λz=>by rw[bE gB z] at kL;cases kL
  have P7:ba∉fp:=λz=>by rw[bE ba z] at sh;cases sh
  have si:=bS _ _ kL;walk_at "rds";refine Z2 (d9 (SqL.of (px (q:=gB) (o:= .lst (cE.map V.str))))) (λi af ae=>∃(ea:List Addr)(a1:Option V),af=[some (.ref gB),some (.ref ba),some (.ref bz),a1,none]∧c8 T ae bz ⟨cE.take i,[]⟩ ea∧Ze H ae∧(∀x∈ea,H x=none)) ⟨fp,_,rfl,by simpa using bR,bS,bE⟩ ?_ ?_ ?_
  ·rintro i af ae ⟨_,_,_,_,h,_⟩;exact V4 (h _ _ kL)
  ·rintro i af bo hi ⟨mR,a1,rfl,eW,bJ,lM⟩;have dy:i<cE.length:=by simpa using hi
   have cU:(cE.map V.str).getD i .non= .str cE[i]:=by simp[List.getD,dy]
   rw[cU];have hok:=gN _ (QO dy);have kc:cE[i]∉cE.take i:=λz=>by
    obtain⟨j,bw,e⟩:=Q4 z;rw[qaD] at e;have fC:j<i:=by rw[FM] at bw;omega
    have:=(qam (xs:=cE) (h₀:=by omega) (h₁:=dy) dM).mp e;omega
   have lN:=QR dy;generalize cE[i]=x at*;walk_at "rds";refine ZaY eW hok kc (by simp;omega) (λb2 qq f8 jF Je=>?_);refine⟨qq,_,rfl,by rw[lN];exact f8,λb o e=>jF.keep _ _ (bJ _ _ e) (λz=>by rw[lM b z] at e;cases e),λx a_=>?_⟩;rcases Je x a_ with z|z
   ·exact lM x z
   ·exact ev bJ z
  rintro af bo ⟨mR,a1,rfl,eW,bJ,lM⟩;rw[QM,GE] at eW;have P8:=bJ _ _ sh;walk_at "rds";refine Z2 (d9 (SqL.of (px (q:=ba) (o:= .lst bs)))) (λi af ae=>∃(ea:List Addr)(a2:Option V),af=[some (.ref gB),some (.ref ba),some (.ref bz),a1,a2]∧c8 T ae bz ⟨cE,ls.take i⟩ ea∧Ze H ae∧(∀x∈ea,H x=none)) ⟨mR,_,rfl,by simpa using eW,bJ,lM⟩ ?_ ?_ ?_
  ·rintro i af ae ⟨_,_,_,_,h,_⟩;exact V4 (h _ _ sh)
  ·rintro i af b2 hi ⟨qq,a2,rfl,f8,bO,jW⟩;have ce:i<ls.length:=by omega
   obtain⟨t,e5,ei⟩:=c1.at (QN ce);have cP:bs.getD i .non= .ref t:=by simp[List.getD,e5]
   rw[cP];have dE:=QR ce;generalize ls[i]=l at*;walk_at "rds";refine⟨bz,t,l,⟨cE,ls.take i⟩,qq,rfl,f8,bO _ _ ei,by simp;omega,λb7 sf iG qr Jf=>?_⟩;refine⟨sf,_,rfl,by rw[dE];exact iG,λb o e=>qr.keep _ _ (bO _ _ e) (λz=>by rw[jW b z] at e;cases e),λx a_=>?_⟩;rcases Jf x a_ with z|z
   ·exact jW x z
   ·exact ev bO z
  rintro af b2 ⟨qq,a2,rfl,f8,bO,jW⟩;rw[gq,GE] at f8;walk_at "rds";exact q bz qq b2 f8 jW bO
end
def Jg{K:Frag}{mg:Str→Option Value}(T:Tp K mg):Sp:=λvs H Q E=>∃(p:Addr)(ag:HM)(fp:List Addr),vs=[.ref p]∧c8 T H p ag fp∧
 ∀r ae,H r=none→Ze H ae→ae r=some (.lst (ag.names.map V.str))→Q (.ref r) ae
section
variable {P:Program}{w:World}{K:Frag}{mg:Str→Option Value}{base:Heap}
theorem sj(T:Tp K mg):OkM P w mg base 1 T.aq (Jg T):=by
 have eU:=T.a;have eV:=T.e;refine T.aq.F.okX Gs (λvs H Q E h=>?_) (λcv A outer s H vs Q E bn h=>?_)
 ·obtain⟨p,ag,fp,rfl,_⟩:=h
  rfl
 ·have hu:=bn.hu;obtain⟨p,ag,fp,rfl,bR,q⟩:=h;obtain⟨bu,a,b,bs,rfl,ap,a',bU,cD,fW,c'⟩:=id bR;refine⟨_,(bZ (c3 (k7 (yn rfl) (by rfl) T.j RA (bt (eI (K:=K) rfl (pv 0) rfl) bA)))),?_⟩
  try dsimp only[L2.cxX,L2.ZL,L2.Zl]
  walk_at "rds";intro l fb;rw[Zch];exact q l _ fb (cV fb) Zd
end
def V9{K:Frag}{mg:Str→Option Value}(T:Tp K mg):Sp:=λvs H Q _=>∃(p:Addr)(ag:HM)(fp:List Addr),vs=[.ref p]∧c8 T H p ag fp∧
 ∀(q:Addr)(ae:Hp)(bs:List V),H q=none→Ze H ae→ae q=some (.lst bs)→d5 ae bs ag.belts→Q (.ref q) ae
theorem V8{K:Frag}{mg:Str→Option Value}{T:Tp K mg}{H:Hp}{Q:VK}{E:XK}{p:Addr}{ag:HM}{fp:List Addr}(h:c8 T H p ag fp)
  (q:∀(q:Addr)(ae:Hp)(bs:List V),H q=none→Ze H ae→ae q=some (.lst bs)→d5 ae bs ag.belts→Q (.ref q) ae):V9 T (.ref p::([]++ [])) H Q E:=⟨p,ag,fp,rfl,h,q⟩
local macro_rules| `(tactic|walk_at "rd")=>`(tactic|first|((with_reducible show Nm.V9 _ _ _ _ _);with_reducible refine Nm.V8 (by with_reducible assumption) ?_)|fail "none here")
section
variable {P:Program}{w:World}{K:Frag}{mg:Str→Option Value}{base:Heap}
theorem oe(T:Tp K mg):OkM P w mg base 1 T.Y (V9 T):=by
 have eU:=T.a;have eV:=T.e;refine T.Y.F.okX Gu (λvs H Q E h=>?_) (λcv A outer s H vs Q E bn h=>?_)
 ·obtain⟨p,ag,fp,rfl,_⟩:=h
  rfl
 ·have hu:=bn.hu;obtain⟨p,ag,fp,rfl,bR,q⟩:=h;obtain⟨bu,a,b,bs,rfl,ap,a',bU,cD,fW,c'⟩:=id bR;refine⟨_,(bZ (c3 (k7 (nE (K:=K) rfl) (by rfl) T.j RA (bt (eI (K:=K) rfl (pv 0) rfl) bA)))),?_⟩
  try dsimp only[L2.cxX,L2.ZL,L2.Zl]
  walk_at "rds";refine Rd.VM (.of cD) (λl fb=>?_);exact q l _ bs fb (cV fb) Zd (c'.keep ((cV fb).frame (A:=[])).tups)
end
def Jh{K:Frag}{mg:Str→Option Value}(T:Tp K mg):Sp:=λvs H Q E=>∃(p c:Addr)(ag:HM)(fp:List Addr)(ms:List Int),vs=[.ref p,.ref c]∧c8 T H p ag fp∧H c=some (.lst (ms.map V.int))∧Vm ag.names∧ag.belts.length≤60∧ms.Nodup∧ms.length≤30∧(∀m∈ms,0≤m∧m<(ag.names.length:Int))∧
 ∀(f0:Addr)(ea:List Addr)(ae:Hp),c8 T ae f0 ⟨ms.map λm=>ag.names.getD m.toNat "",c4 ag.belts ms⟩ ea→(∀x∈ea,H x=none)→Ze H ae→Q (.ref f0) ae
theorem Ji{cE:List Str}{ms:List Int}(h:Vm cE)(bG:ms.Nodup)(hz:ms.length≤30)(bv:∀m∈ms,0≤m∧m<(cE.length:Int)):Vm (ms.map λm=>cE.getD m.toNat ""):=by
 have at_:∀m∈ms,∃h:m.toNat<cE.length,cE.getD m.toNat "" =cE[m.toNat]:=λm h=>by
  obtain⟨cw,ap⟩:=bv m h;have:m.toNat<cE.length:=by omega
  exact⟨this,by simp[List.getD,this]⟩
 refine⟨?_,λx a_=>?_,by rw[QM];exact hz⟩
 ·rw[Rl,qaE];refine(Rl.mp bG).imp_of_mem λ{a b} bB ao ne e=>?_;obtain⟨ap,bD⟩:=at_ a bB;obtain⟨a',bI⟩:=at_ b ao;rw[bD,bI] at e;have:=(qam h.1).mp e;have:=bv a bB;have:=bv b ao;omega
 ·obtain⟨m,f9,rfl⟩:=Q3.mp a_;obtain⟨ap,bD⟩:=at_ m f9;rw[bD];exact h.2.1 _ (QO ap)
section
variable {P:Program}{w:World}{K:Frag}{mg:Str→Option Value}{base:Heap}
theorem Jj(T:Tp K mg):OkN P w base 4 T.aW (Jh T):=by
 have eU:=T.a;have eV:=T.e;refine T.aW.F.okX rJ (λvs H Q E h=>?_) (λcv A outer s H vs Q E bn h=>?_)
 ·obtain⟨p,c,ag,fp,ms,rfl,_⟩:=h
  rfl
 ·have hu:=bn.hu;obtain⟨p,c,ag,fp,ms,rfl,bR,br,gN,jX,dM,mX,h8,q⟩:=h;refine⟨_,(bN (cy (i:=2) rJ.nd rfl (Or.inr rfl) (iU (pv 0) T.a T.aq (sj T) bn cF))
     (bN (cy (i:=3) rJ.nd rfl (Or.inl rfl) (gF bA))
     (bN (d8 PassesOwn.leaving rfl (d_ (K:=K) rfl (iU (pv 0) T.a T.Y (oe T) bn cF)) (cK (i:=4) rJ.nd rfl (Or.inl rfl)) (bZ (dW (PW.pt (oL (dw (pz (K:=K) rfl) (cp (ixk K) (pv 4) b5 (λ_ _=>rfl)) (pv 1) (by with_unfolding_all rfl)) (oJ (dw (pz (K:=K) rfl) (cp (ixk K) (pv 4) b5 (λ_ _=>rfl)) (pv 1) (by with_unfolding_all rfl))))) (bZ (eB (f4 (K:=K) rfl Q1 GT fm ha (pv 3) (bt (cI (hf K) (ij (bt (f4 (K:=K) rfl Q1 qaw qax uu (pv 1) (bt (cp (ixk K) (pv 4) b5 (λ_ _=>rfl)) bA)) (bt (f4 (K:=K) rfl Q1 qaw qax uu (pv 1) (bt (cp (ixk K) (pv 4) b5 (λ_ _=>rfl)) bA)) bA))) (Dx (El (K:=K) rfl) (pv 4) (Dw b5) Dv)) bA)))) d4)))
     (bZ (c3 (c9 T.aV (Jc T) bn cF (bt (jf rfl (e2 (x:="member") (zs:=["names"]) (ix:=[2]) (cr uz) ["hall","members","names","rows","row"] rfl rfl (by decide+kernel)) (d_ (K:=K) rfl (pv 1)) (λcl C s H fp=>⟨(cK (i:=0) (show(["member","names"]:List Str).Nodup by decide+kernel) rfl (Or.inl rfl)),gm,(cp (ixk K) (pv 1) (pv 0) (λ_ _=>rfl))⟩)) (bt (pv 3) bA)))))))),?_⟩
  try dsimp only[L2.cxX,L2.ZL,L2.Zl]
  walk_at "rds";refine⟨p,ag,fp,rfl,bR,λgB ax kL bq si=>?_⟩;have iH:=bR.same bq;walk_at "rds";refine⟨Q5 _,λr fF=>?_⟩;have bJ:Ze ax (upd ax r (.lst [])):=cV fF;have jV:(upd ax r (.lst [])) r=some (.lst []):=Zd;generalize upd ax r (.lst [])=bo at*;have eW:=iH.same bJ;walk_at "rds"
  try refine V8 eW ?_
  intro bl b2 bs gq bO hbl3 gO;have vK:=gO.length;have Jk:=SqL.of (K:=K) hbl3;walk_at "rds";have fV:=bq.trans (bJ.trans bO);have g5:=bO _ _ jV;have Bv:c≠r:=λz=>by rw[z] at br;rw[bq _ _ br] at fF;cases fF
  have Jl:gB≠r:=λz=>by rw[z] at si;rw[si] at fF;cases fF
  refine Z2 (H0:=hid b2 r) (d9 (SqL.of (K:=K) (show(hid b2 r) bl=some (.lst bs) by rw[Yo (λz=>by rw[z,jV] at gq;cases gq)];exact hbl3))) (λi af ae=>Ze (hid b2 r) ae∧(∃a4,af=[some (.ref p),some (.ref c),some (.ref gB),some (.ref r),a4])∧∃fG,ae r=some (.lst fG)∧d5 ae fG (c4 (ag.belts.take i) ms)) ⟨jL,⟨_,rfl⟩,[],g5,.nil⟩ (λi af ae h=>h.1) ?_ ?_
  ·rintro i af b7 hi ⟨b9,⟨a4,rfl⟩,fG,e7,ej⟩;have ce:i<ag.belts.length:=by omega
   obtain⟨t,dE,b3⟩:=gO.at (QN ce);have cU:bs.getD i .non= .ref t:=by simp[List.getD,dE]
   rw[cU];have hJ:=b9 _ _ (yc g5 _ _ b3);dsimp only[B5.v] at hJ;have iI:b7 c=some (.lst (ms.map V.int)):=b9 _ _ (by rw[Yo Bv];exact fV _ _ br);have Bw:=SqL.of (K:=K) iI;have lN:c4 (ag.belts.take (i+1)) ms=c4 (ag.belts.take i) ms++(if inT ms ag.belts[i]=true then[inB ms ag.belts[i]] else[]):=by
    unfold c4;rw[QR ce,qae,Rv]
    congr 1
    by_cases h:inT ms ag.belts[i]=true
    ·rw[if_pos h];simp[h]
    ·rw[if_neg h];simp[h]
   rw[lN];have el:fG.length≤60:=by
    have ap:=ej.length;have a':(c4 (ag.belts.take i) ms).length≤ag.belts.length:=by
     unfold c4;rw[QM];exact QZ (Rm _ _) (by rw[FM];omega)
    omega
   generalize ag.belts[i]=bb at*;walk_at "rds"
   by_cases bF:bb.giver∈ms
   case neg=>
    have e:inT ms bb=false:=by simp[inT,bF]
    rw[decide_eq_false bF,e];walk_at "rds";exact⟨b9,⟨_,rfl⟩,fG,e7,by simpa using ej⟩
   rw[decide_eq_true bF];walk_at "rds"
   by_cases gh:bb.taker∈ms
   case neg=>
    have e:inT ms bb=false:=by simp[inT,gh]
    rw[decide_eq_false gh,e];walk_at "rds";exact⟨b9,⟨_,rfl⟩,fG,e7,by simpa using ej⟩
   have e:inT ms bb=true:=by simp[inT,bF,gh]
   rw[decide_eq_true gh,e,if_pos rfl];walk_at "rds";obtain⟨g1,g2⟩:=lA bF;obtain⟨k1,k2⟩:=lA gh;refine⟨c,ms,_,_,rfl,rfl,iI,g1,g2,?_⟩;walk_at "rds";refine⟨c,ms,_,_,rfl,rfl,iI,k1,k2,?_⟩;refine⟨by show 2≤sizeLine;decide,λu fA=>?_⟩;have hk:(inB ms bb).v=[V.int (idxL ms bb.giver:Nat),V.int (idxL ms bb.taker:Nat)]++ [V.int bb.give,V.int bb.take,V.int bb.start]:=rfl;generalize idxL ms bb.giver=ig at*;generalize idxL ms bb.taker=it at*;have hm:Ze b7 (upd b7 u (.tup [V.int ig,V.int it])):=cV fA;have gc:(upd b7 u (.tup [V.int ig,V.int it])) u=some (.tup [V.int ig,V.int it]):=Zd;generalize upd b7 u (.tup [V.int ig,V.int it])=bY at*;have qt:=hm _ _ hJ;walk_at "rds";refine Rd.slT (.of qt) (by show ¬(HT.sIx 5 0 (some 2)=0∧HT.sIx 5 5 none=5);decide) (λw mJ=>?_);have Bx:Ze bY (upd bY w (.tup (jH [V.int bb.giver,V.int bb.taker,V.int bb.give,V.int bb.take,V.int bb.start] (some 2) none))):=cV mJ;have jY:(upd bY w (.tup (jH [V.int bb.giver,V.int bb.taker,V.int bb.give,V.int bb.take,V.int bb.start] (some 2) none))) w=some (.tup [.int bb.give,.int bb.take,.int bb.start]):=Zd;generalize upd bY w (.tup (jH [V.int bb.giver,V.int bb.taker,V.int bb.give,V.int bb.take,V.int bb.start] (some 2) none))=c5 at*;refine Rd.ZoS (.of (Bx _ _ gc)) (.of jY) (by simp) (by simp) (by show 5≤sizeLine;decide) (λqu mV=>?_);rw[←hk];have Jm:Ze c5 (upd c5 qu (.tup (inB ms bb).v)):=cV mV;have Jn:(upd c5 qu (.tup (inB ms bb).v)) qu=some (.tup (inB ms bb).v):=Zd;generalize upd c5 qu (.tup (inB ms bb).v)=dh at*;have vL:=hm.trans (Bx.trans Jm);have i3:=vL _ _ e7;have vh:fG.length<sizeLine:=dj (by omega);walk_at "rds";have fD:cX [r] dh (upd dh r (.lst (fG++ [V.ref qu]))):=fR (by simp) i3 (by intro _ z;cases z);exact⟨(b9.trans vL).new nC,⟨_,rfl⟩,_,Zd,((ej.keep λb xs e=>vL _ _ e).keep fD.tups).snoc (fD.tups _ _ Jn)⟩
  ·rintro af b7 ⟨b9,⟨a4,rfl⟩,fG,e7,ej⟩;rw[vK,GE] at ej;have iI:b7 c=some (.lst (ms.map V.int)):=b9 _ _ (by rw[Yo Bv];exact fV _ _ br);have Bw:=SqL.of (K:=K) iI;have sk:b7 gB=some (.lst (ag.names.map V.str)):=b9 _ _ (by rw[Yo Jl];exact bO _ _ (bJ _ _ si));have Jo:=SqL.of (K:=K) sk;walk_at "rds";refine Yg (d9 Bw) (dj (by rw[QM];omega)) (λ_=>true) (λi=> .str (ag.names.getD (ms.getD i 0).toNat "")) (λi ae c2 hi bS k=>?_) (λi ae c2 hi _ bS k=>?_) (λd bY hd bS h_=>?_)
   ·walk_at "rds";exact k ae (Ze.refl ae)
   ·have ce:i<ms.length:=by rw[QM] at hi;exact hi
    have cU:(ms.map V.int).getD i .non=V.int ms[i]:=by simp[List.getD,ce]
    have m0:ms.getD i 0=ms[i]:=by simp[List.getD,ce]
    rw[cU];rw[m0] at k;obtain⟨g8,fe⟩:=h8 ms[i] (QO ce);generalize ms[i]=m at*;obtain⟨j6,rfl⟩:=Ri g8;have vI:j6<ag.names.length:=by omega
    rw[QT] at k;have dU:atI (ag.names.map V.str) (j6:Int)=some (.str (ag.names.getD j6 "")):=gj (by simp[List.getD,vI]);have P9:=bS.seq Jo;walk_at "rds";exact k ae (Ze.refl ae)
   ·have jl:((List.range (ms.map V.int).length).filter λ_=>true).map (λi=>V.str (ag.names.getD (ms.getD i 0).toNat ""))=(ms.map λm=>ag.names.getD m.toNat "").map V.str:=by
     rw[Ra.mpr λ_ _=>rfl,QM];refine GM (by simp) λi ap a'=>?_;have bU:i<ms.length:=by simpa using ap
     simp[List.getD,bU]
    rw[jl] at h_;have kM:=bS _ _ e7;have qv:=ej.keep λb xs e=>bS _ _ e;have vF:Ze H bY:=λb o e=>bS _ _ (b9 _ _ (by
     rw[Yo (λz=>by rw[z] at e;rw[bq _ _ e] at fF;cases fF)];exact fV _ _ e))
    walk_at "rds";refine⟨d,r,_,fG,c4 ag.belts ms,rfl,h_,kM,qv,Ji gN dM mX h8,?_,λf0 ea ae lK s6 s'=>?_⟩
    ·unfold c4;rw[QM];exact QZ (Rm _ _) (by omega)
    ·exact q f0 ea ae lK (λx a_=>ev vF (s6 x a_)) (vF.trans s')
end
def Jp{K:Frag}{mg:Str→Option Value}(T:Tp K mg):Sp:=λvs H Q _=>∃(p:Addr)(ag:HM)(fp:List Addr),vs=[.ref p]∧c8 T H p ag fp∧ag.belts.length≤1000∧
 ∀(r:Addr)(ae:Hp),H r=none→Ze H ae→ae r=some (.lst ((es ag.belts).map V.int))→Q (.ref r) ae
section
variable {P:Program}{w:World}{K:Frag}{mg:Str→Option Value}{base:Heap}
theorem Jq(T:Tp K mg):OkN P w base 2 T.aX (Jp T):=by
 have eU:=T.a;have eV:=T.e;refine T.aX.F.okX Gv (λvs H Q E h=>?_) (λcv A outer s H vs Q E bn h=>?_)
 ·obtain⟨p,ag,fp,rfl,_⟩:=h
  rfl
 ·have hu:=bn.hu;obtain⟨p,ag,fp,rfl,bR,hz,q⟩:=h;refine⟨_,(bZ (c3 (jf rfl (e2 (x:="row") (zs:=[]) (ix:=[]) (cr uA) ["hall"] rfl rfl (by decide+kernel)) (d_ (K:=K) rfl (iU (pv 0) T.a T.Y (oe T) bn cF)) (λcl C s H fp=>⟨(cK (i:=0) (show(["row"]:List Str).Nodup by decide+kernel) rfl (Or.inl rfl)),gm,(cp (ixk K) (pv 0) b5 (λ_ _=>rfl))⟩)))),?_⟩
  try dsimp only[L2.cxX,L2.ZL,L2.Zl]
  walk_at "rds";intro u ax bs lL hK gc c1;have jO:=c1.length;have ao:bs.length<sizeLine:=dj (by rw[jO];exact hz);walk_at "rds";refine Yg (d9 (SqL.of gc)) ao (λ_=>true) (λi=> .int (ag.belts.getD i dB).start) (λi ae c2 hi bS k=>?_) (λi ae c2 hi _ bS k=>?_) (λr ae bn bS i5=>?_)
  ·walk_at "rds";exact k ae (Ze.refl ae)
  ·have ce:i<ag.belts.length:=by omega
   obtain⟨t,e5,ei⟩:=c1.getD (i:=i) ce;rw[e5];have gx:=bS _ _ ei;generalize ag.belts.getD i dB=bb at*;dsimp only[B5.v] at gx;walk_at "rds";exact k ae (Ze.refl ae)
  ·refine q r ae (ev hK bn) (hK.trans bS) ?_;rw[i5,Ra.mpr (by simp),jO];unfold es;refine congrArg (λz=>some (HO.lst z)) ?_;refine GM (by simp) λi ap a'=>?_;have:i<ag.belts.length:=by simpa using ap
   simp[List.getD,this]
end
def Jr{K:Frag}{mg:Str→Option Value}(T:Tp K mg):Sp:=λvs H Q _=>∃(a b:Addr)(hs:List Int)(l:List (Int×Int))(xs:List V),vs=[.ref a,.ref b]∧SqL K H a (hs.map V.int)∧SqL K H b xs∧Ve H l xs∧(∀x∈l,0≤x.1∧x.1<hs.length)∧l.length≤1000∧∀ae,Ze H ae→Q (.bl (p2 hs l)) ae
section
variable {P:Program}{w:World}{K:Frag}{mg:Str→Option Value}{base:Heap}
theorem By(T:Tp K mg):OkN P w base 1 T.aJ (Jr T):=by
 refine T.aJ.F.okX Gw (λvs H Q E h=>?_) (λcv A outer s H vs Q E bn h=>?_)
 ·obtain⟨a,b,hs,l,xs,rfl,_⟩:=h
  rfl
 ·have hu:=bn.hu;obtain⟨a,b,hs,l,xs,rfl,bB,ao,bz,bn,hz,q⟩:=h;have Js:l.length=xs.length:=Paired.length bz;refine⟨_,(bZ (c3 (dG (yj (K:=K) rfl rfl) (by rfl) T.aD PyProof.Rows.boot_all (bt (ln (xs:=["belt","take"]) rfl (e2 (x:="belt") (zs:=["heaps"]) (ix:=[0]) (cr uB) ["heaps","takes"] rfl rfl (by decide+kernel)) (d_ (K:=K) rfl (pv 1)) (λcl C s H fp=>⟨(hW (K:=K) (n:=2) rfl rfl (en (cK (i:=0) (show(["belt","take","heaps"]:List Str).Nodup by decide+kernel) rfl (Or.inl rfl)) (en (cK (i:=1) (show(["belt","take","heaps"]:List Str).Nodup by decide+kernel) rfl (Or.inl rfl)) hP))),gm,(l9 oU (cp (ixk K) (pv 2) (pv 0) (λ_ _=>rfl)) (pv 1) (dF _))⟩)) bA)))),?_⟩
  try dsimp only[L2.cxX,L2.ZL,L2.Zl]
  walk_at "rds";refine YH (own:=2) (d9 ao).y (dj (by omega)) (λi=>[some (.int (l.getD i (0,0)).1),some (.int (l.getD i (0,0)).2)]) (λ_=>rfl) (λ_=>true) (λi v _=>v= .bl (decide ((l.getD i (0,0)).2≤hs.getD (l.getD i (0,0)).1.toNat 0))) (λ_ _ _ _ _ z=>z) (λi dq ae v bo hg hi bS y fO k=>?_) (λi ae c2 hi bS k=>?_) (λkN i ae c2 hi br hp0 jw bS k=>?_) (λr ae ys i5 bS fb de=>?_)
  ·obtain⟨rfl,rfl⟩:=y;obtain⟨x1,x2,rfl⟩:∃x1 x2,dq=[x1,x2]:=by
    match dq,fO with
    | [x1,x2],_=>exact⟨x1,x2,rfl⟩
   obtain⟨v,b8,t,rfl,b3⟩:=Paired.get bz (QN (show i<l.length by omega));have cP:xs.getD i .non= .ref t:=by simp[List.getD,b8]
   have h1:l.getD i (0,0)=l[i]:=by simp[List.getD,show i<l.length by omega]
   rw[cP];rw[h1] at k;refine Rd.Vs (.of (bS _ _ b3)) rfl ?_;walk_at "rds";exact k _ (Ze.refl _)
  ·walk_at "rds";exact k ae (Ze.refl ae)
  ·have h1:l.getD i (0,0)=l[i]:=by simp[List.getD,show i<l.length by omega]
   obtain⟨o9,cj⟩:=bn _ (QO (show i<l.length by omega));rw[h1] at k⊢;generalize l[i]=x at*;have P_:=bS.seq bB;have h6:=Vp o9 cj;walk_at "rds";exact k _ ae (Ze.refl ae) rfl
  ·have e:ys=(l.map λx=>decide (x.2≤hs.getD x.1.toNat 0)).map V.bl:=by
    rw[rh (R:=λi v _=>v=V.bl (decide ((l.getD i (0,0)).2≤hs.getD (l.getD i (0,0)).1.toNat 0))) (H:=ae) (r:=λi=>V.bl (decide ((l.getD i (0,0)).2≤hs.getD (l.getD i (0,0)).1.toNat 0))) (λ_ _ z=>z) de,Ra.mpr (by simp),←Js];refine GM (by simp) λi ap a'=>?_;have hi:i<l.length:=by simpa using ap
    have h1:l.getD i (0,0)=l[i]:=by simp[List.getD,hi]
    rw[qav,qav,qav,List.getElem_range,h1]
   rw[e] at fb;walk_at "rds";have bI:(l.map λx=>decide (x.2≤hs.getD x.1.toNat 0)).all id=p2 hs l:=by rw[List.all_map];rfl
   rw[bI];exact q ae bS
end
def Jt{K:Frag}{mg:Str→Option Value}(T:Tp K mg):Sp:=λvs H Q E=>∃(p s:Addr)(ls:List B5)(rs st:List Int),vs=[.ref p,.ref s]∧mO T H p ls rs∧SqL K H s (st.map V.int)∧st.length=ls.length∧ZN ls rs.length∧ls.length≤1000∧rs.length≤1000∧(∀r∈rs,1≤r)∧tot rs≤1000∧
 ∀(r:Addr)(ae:Hp)(bV:List Nat)(d:Nat→Nat),H r=none→Ze H ae→ae r=some (.lst (bV.map λw:Nat=>V.int w))→Fire.YM (iA ls st rs) (λ_=>0) bV d→(∀w,¬f' ls st rs d w)→Q (.ref r) ae
section
variable {P:Program}{w:World}{K:Frag}{mg:Str→Option Value}{base:Heap}
theorem Ju(T:Tp K mg):OkM P w mg base 2 T.aY (Jt T):=by
 have Bz:=T.q;have BA:=T.z;refine T.aY.F.okX jq (λvs H Q E h=>?_) (λcv A outer s H vs Q E bn h=>?_)
 ·obtain⟨p,s,ls,rs,st,rfl,_⟩:=h
  rfl
 ·have hu:=bn.hu;obtain⟨p,s,ls,rs,st,rfl,br,hs,gW,c_,hz,bG,jj,vq,q⟩:=h;obtain⟨bu,a,b,c,P',e,ck,n2,gM,bs,ap,a',bU,cD,dJ,c',jt,mP,u3,p6⟩:=id br;have Jv:∀v<rs.length,1≤f_ rs v:=λv b8=>by
   have:=jj rs[v] (QO b8);simp only[f_,List.getD,QN b8,Option.getD_some];omega
  refine⟨_,(bN (cy (i:=2) jq.nd rfl (Or.inr rfl) (k7 (nE (K:=K) rfl) (by rfl) T.j RA (bt (pv 1) bA)))
     (bN (cy (i:=3) jq.nd rfl (Or.inl rfl) (k7 (nE (K:=K) rfl) (by rfl) T.j RA (bt (eI (K:=K) rfl (pv 0) rfl) bA)))
     (bN (t9 (j:=4) (xs:=["takes"]) rfl (e2 (x:="takes") (zs:=["heaps"]) (ix:=[2]) (cr uC) ["self","starts","heaps","left","able","row","work","belt","take","give","other"] rfl rfl (by decide+kernel)) (d_ (K:=K) rfl (eI (K:=K) rfl (pv 0) rfl)) (λcl C s H fp=>⟨(cK (i:=0) (show(["takes","heaps"]:List Str).Nodup by decide+kernel) rfl (Or.inl rfl)),gm,(c9 T.aJ (By T) bn Vv (bt (pv 1) (bt (pv 0) bA)))⟩) jq.nd rfl (Or.inl rfl))
     (bN (cy (i:=5) jq.nd rfl (Or.inl rfl) (gF bA))
     (bN (qU PassesOwn.leaving (dw (pz (K:=K) rfl) WJ (pv 4) (by with_unfolding_all rfl)) (bN (cy (i:=6) jq.nd rfl (Or.inl rfl) (f4 (K:=K) rfl Q1 qaw qax EC (pv 4) (bt WJ bA)))
     (bN (eB (f4 (K:=K) rfl Q1 GT fm ha (pv 5) (bt (pv 6) bA)))
     (bN (s9 (pv 3) (pv 6) (ua (K:=K) rfl) b5 xj ka)
     (bN (d8 PassesOwn.leaving rfl (d_ (K:=K) rfl (cp (ixk K) (eI (K:=K) rfl (pv 0) rfl) (pv 6) (λ_ _=>rfl))) (hW (K:=K) (n:=2) rfl rfl (en (cK (i:=7) jq.nd rfl (Or.inl rfl)) (en (cK (i:=8) jq.nd rfl (Or.inl rfl)) hP))) (bZ (s9 (pv 2) (pv 7) (ua (K:=K) rfl) (pv 8) xj ka)))
     (bN (d8 PassesOwn.leaving rfl (d_ (K:=K) rfl (cp (ixk K) (eI (K:=K) rfl (pv 0) rfl) (pv 6) (λ_ _=>rfl))) (hW (K:=K) (n:=2) rfl rfl (en (cK (i:=7) jq.nd rfl (Or.inl rfl)) (en (cK (i:=9) jq.nd rfl (Or.inl rfl)) hP))) (bZ (s9 (pv 2) (pv 7) (ua (K:=K) rfl) (pv 9) xi ka)))
     (bZ (d8 PassesOwn.leaving rfl (d_ (K:=K) rfl (cp (ixk K) (eI (K:=K) rfl (pv 0) rfl) (pv 6) (λ_ _=>rfl))) (cK (i:=10) jq.nd rfl (Or.inl rfl)) (bZ (hp (nc (l9 ni (cp (ixk K) (pv 3) (pv 10) (λ_ _=>rfl)) b5 (dF _)) (nb (c9 T.aJ (By T) bn cF (bt (pv 2) (bt (cp (ixk K) (eI (K:=K) rfl (pv 0) rfl) (pv 10) (λ_ _=>rfl)) bA))))) (ho (pv 4) (pv 10) ka)))))))))))
     (bZ (c3 (pv 5)))))))),?_⟩
  try dsimp only[L2.cxX,L2.ZL,L2.Zl]
  walk_at "rds";refine Rd.VM hs (λh vM=>?_);have bq:Ze H (upd H h (.lst (st.map V.int))):=cV vM;have iH:(upd H h (.lst (st.map V.int))) h=some (.lst (st.map V.int)):=Zd;generalize upd H h (.lst (st.map V.int))=ax at*;have g1:=bq _ _ ap;have g2:=bq _ _ a';walk_at "rds";refine Rd.VM (.of g2) (λl pZ=>?_);have bJ:Ze ax (upd ax l (.lst (rs.map V.int))):=cV pZ;have fL:(upd ax l (.lst (rs.map V.int))) l=some (.lst (rs.map V.int)):=Zd;generalize upd ax l (.lst (rs.map V.int))=bo at*;have eW:=bJ _ _ iH;have Jw:H l=none:=ev bq pZ;have gy:=bq.trans bJ;have k1:=gy _ _ ap;have k5:=gy _ _ dJ;have eo:lieL ls st (λ_=>0)=st:=by
   refine GM (by rw[hl gW,gW]) λj a1 a2=>?_;rw[mM gW (by omega)];unfold Fire.lie fB;simp
  have Jx:ck.length=rs.length:=by rw[c'.len];simp[p5]
  walk_at "rds";refine YH (own:=1) (d9 (SqL.of k5)).y (dj (by rw[QM];omega)) (λi=>[some (.ref (ck.getD i 0))]) (λ_=>rfl) (λ_=>true) (λ(i:Nat) v _=>v= .bl (eN ls st rs (λ_=>0) i)) (λ_ _ _ _ _ z=>z) (λi dq ae v bo hg hi bS y fO k=>?_) (λi ae c2 hi bS k=>?_) (λkN i ae c2 hi br hp0 hp1' bS k=>?_) (λab b2 ys hab0 bO BB de=>?_)
  ·obtain⟨rfl,rfl⟩:=y;obtain⟨x1,rfl⟩:∃x1,dq=[x1]:=by
    match dq,fO with
    | [x1],_=>exact⟨x1,rfl⟩
   have dy:i<ck.length:=by simpa using hi
   have cU:(ck.map V.ref).getD i .non= .ref (ck.getD i 0):=by simp[List.getD,dy]
   rw[cU];walk_at "rds";exact k _ (Ze.refl _)
  ·walk_at "rds";exact k ae (Ze.refl ae)
  ·have dy:i<rs.length:=by rw[QM] at hi;omega
   obtain⟨x,bD,vs,bI,c6⟩:=Paired.get c' (i:=i) (x:=gL ls i) (by simp[p5,dy]);have ex:ck.getD i 0=x:=by simp[List.getD,bD]
   rw[ex];have BC:=gy.trans bS;have dA:=ZbZ (ls:=ls) (w:=i);walk_at "rds";refine⟨h,x,st,gL ls i,vs,rfl,.of (bS _ _ eW),.of (BC _ _ bI),c6.keep λ_ _ z=>BC _ _ z,z_ gW,by omega,λbY cC=>?_⟩;refine k _ bY cC ?_;rw[Zc5 gW];unfold eN;rw[eo,decide_eq_true (show(λ_=>0) i<f_ rs i from Jv i dy),qa4]
  rw[Ra.mpr (by simp),QM,Jx] at de;have Jy:ys=(hG ls st rs (λ_=>0)).map V.bl:=by
   have:∀{is:List Nat}{zs:List V},Paired (λ(i:Nat) v=>v=V.bl (eN ls st rs (λ_=>0) i)) is zs→zs=(is.map λi=>eN ls st rs (λ_=>0) i).map V.bl:=by
    intro is zs h
    induction h with
    |nil=>rfl
    |cons a _ bM=>rw[a,bM];rfl
   exact this de
  subst Jy;have f8:=bO _ _ eW;have kE:=bO _ _ fL;walk_at "rds";refine⟨Q5 _,λr eF=>?_⟩;have b9:Ze b2 (upd b2 r (.lst [])):=cV eF;have e7:(upd b2 r (.lst [])) r=some (.lst []):=Zd;generalize upd b2 r (.lst [])=b7 at*;have gP:=gy.trans (bO.trans b9);have Jz:=b9 _ _ BB;have iG:=b9 _ _ f8;have iu:=b9 _ _ kE;have vN:h≠l:=cT iH pZ;have sm:h≠ab:=cT eW hab0;have vO:l≠ab:=cT fL hab0;have vP:h≠r:=cT f8 eF;have mU:l≠r:=cT kE eF;have vQ:ab≠r:=cT BB eF;have BD:H ab=none:=ev gy hab0;have so:H r=none:=ev (gy.trans bO) eF;have JA:em rs (λ_=>0)=rs:=by
   refine GM (by simp[em]) λv a1 a2=>?_;have:=jj rs[v] (QO a2);simp[em,f_,List.getD,a2];omega
  walk_at "rds";refine Zdl (λm af ae=>∃(bV:List Nat)(d:Nat→Nat)(a1 a2 a3 a4 a5:Option V),m=tot rs-bV.length∧af=[some (.ref p),some (.ref s),some (.ref h),some (.ref l),some (.ref ab),some (.ref r),a1,a2,a3,a4,a5]∧Ze H ae∧Fire.YM (iA ls st rs) (λ_=>0) bV d∧ae h=some (.lst ((lieL ls st d).map V.int))∧ae l=some (.lst ((em rs d).map V.int))∧ae ab=some (.lst ((hG ls st rs d).map V.bl))∧ae r=some (.lst (bV.map λw:Nat=>V.int w))) _ ⟨[],λ_=>0,_,_,_,_,_,rfl,rfl,gP,.nil _,by rw[eo];exact iG,by rw[JA];exact iu,Jz,e7⟩ ?_;rintro m af bY ⟨bV,d,a1,a2,a3,a4,a5,rfl,rfl,cC,gA,vE,JB,vR,kM⟩;walk_at "rds";refine⟨ab,_,rfl,.inl (SqL.of vR),rfl,Hd _,?_⟩;rw[if_neg (by decide),Ak];walk_at "rds";refine V5 (λc=>ZeX ?_) (λc=>?_)
  ·have ez:true∈hG ls st rs d:=by simpa using c
   obtain⟨w,jY,BE⟩:=Al ez;have kH:w<rs.length:=by have:=(QP.mp jY).1;rw[G_] at this;exact this
   have BF:f' ls st rs d w:=by
    rw[ZfG kH] at jY;exact(p4 gW c_ kH).mp (Q2 jY)
   have JC:iA ls st rs d w:=⟨BF,λv b8=>by
    have:=BE v b8;rw[ZfG (by omega)] at this;exact(z' gW c_ (by omega)).mp (Q2 this)⟩
   have m2:=gA.snoc JC;have cL:=Zg7 (rX gA) BF;have eQ:(0:Int)≤(w:Int):=RB w;have gw:(bV.map λw:Nat=>V.int w).length<sizeLine:=dj (by rw[QM];omega);have Qa:(w:Int)<((em rs d).map V.int).length:=by rw[QM,u2];omega
   walk_at "rds";refine Rd.ZmT vR jY BE ?_;walk_at "rds";have du:Ze H (upd bY r (.lst ((bV.map λw:Nat=>V.int w)++ [.int w]))):=cC.new so;have n_:(upd bY r (.lst ((bV.map λw:Nat=>V.int w)++ [.int w]))) r=some (.lst ((bV++ [w]).map λw:Nat=>V.int w)):=by rw[Zd];simp
   have og:(upd bY r (.lst ((bV.map λw:Nat=>V.int w)++ [.int w]))) h=some (.lst ((lieL ls st d).map V.int)):=by rw[bW vP];exact vE
   have JD:(upd bY r (.lst ((bV.map λw:Nat=>V.int w)++ [.int w]))) l=some (.lst ((em rs d).map V.int)):=by rw[bW mU];exact JB
   have BG:(upd bY r (.lst ((bV.map λw:Nat=>V.int w)++ [.int w]))) ab=some (.lst ((hG ls st rs d).map V.bl)):=by rw[bW vQ];exact vR
   generalize upd bY r (.lst ((bV.map λw:Nat=>V.int w)++ [.int w]))=c5 at*;have vS:=Vp (ns:=em rs d) eQ (by rw[u2];omega);walk_at "rds";have r7:((em rs d).map V.int).set (w:Int).toNat (V.int ((em rs d).getD (w:Int).toNat 0-1))=(em rs (Fire.bump d w)).map V.int:=by
    rw[QT,←ZhY kH,qal]
   rw[r7];have dn:Ze H (upd c5 l (.lst ((em rs (Fire.bump d w)).map V.int))):=du.new Jw;have JE:(upd c5 l (.lst ((em rs (Fire.bump d w)).map V.int))) l=some (.lst ((em rs (Fire.bump d w)).map V.int)):=Zd;have i3:(upd c5 l (.lst ((em rs (Fire.bump d w)).map V.int))) r=_:=(bW mU.symm).trans n_;have JF:(upd c5 l (.lst ((em rs (Fire.bump d w)).map V.int))) h=_:=(bW vN).trans og;have JG:(upd c5 l (.lst ((em rs (Fire.bump d w)).map V.int))) ab=_:=(bW vO.symm).trans BG;generalize upd c5 l (.lst ((em rs (Fire.bump d w)).map V.int))=dh at*;clear n_ og BG JD vS r7;obtain⟨x,vs,h6,a_,BH⟩:=c'.at eQ (l:=gL ls w) (by simp[p5,kH]);obtain⟨y,sr,lF,bP,BI⟩:=mP.at eQ (l:=n1 ls w) (by simp[Ae,kH]);obtain⟨ms,pO,BJ⟩:=p6.2 w kH;have Qb:atI (gM.map V.ref) (w:Int)=some (.ref (gM.getD w 0)):=gj (by rw[QX,QN (show w<gM.length by rw[p6.1];exact kH)];simp[List.getD,show w<gM.length by rw[p6.1];exact kH]);have fe:=dn _ _ ap;have rW:=dn _ _ dJ;have e8:=dn _ _ a_;have eY:vs.length=(eh ls w).length:=by rw[←Paired.length BH];unfold gL;simp
   have JH:sr.length=(dH ls w).length:=by rw[←Paired.length BI];unfold n1;simp
   have lr:=hl (d:=d) gW;generalize JI:lieL ls st d=hs0 at*;walk_at "rds";refine Z2 (d9 (SqL.of a_)) (λj af ae=>Ze H ae∧(∃a2 a3 a4 a5,af=[some (.ref p),some (.ref s),some (.ref h),some (.ref l),some (.ref ab),some (.ref r),some (.int w),a2,a3,a4,a5])∧ae l=some (.lst ((em rs (Fire.bump d w)).map V.int))∧ae r=some (.lst ((bV++ [w]).map λw:Nat=>V.int w))∧ae ab=some (.lst ((hG ls st rs d).map V.bl))∧ae h=some (.lst ((bump (λi=>-(ls.getD i dB).take) hs0 ((eh ls w).take j)).map V.int))) ⟨dn,⟨_,_,_,_,rfl⟩,JE,i3,JG,JF⟩ (λi af ae h=>h.1) ?_ ?_
   ·rintro j af dL bw ⟨er,⟨a2,a3,a4,a5,rfl⟩,ss,ia,vT,kO⟩;have fC:j<(eh ls w).length:=by omega
    obtain⟨t,e5,ei⟩:=Zjx BH fC;have cL:=Zby (QO fC);have nB:=Zed (f:=λi=>-(ls.getD i dB).take) (hs:=hs0) fC;rw[e5];refine Rd.Vs (.of (er _ _ ei)) rfl ?_;generalize (eh ls w)[j]=m at*;have bl:=WP (λi=>-(ls.getD i dB).take) ((eh ls w).take j) hs0;generalize bump (λi=>-(ls.getD i dB).take) hs0 ((eh ls w).take j)=us at*;have AJ:=Vp (ns:=us) (k:=(m:Int)) (RB m) (by omega);have JJ:(m:Int)<((us.map V.int).length:Int):=by simp;omega
    walk_at "rds";refine⟨er.new vM,⟨_,_,_,_,rfl⟩,by rw[bW vN.symm];exact ss,by rw[bW vP.symm];exact ia,by rw[bW sm.symm];exact vT,?_⟩;rw[Zd,nB,qal]
    rfl
   ·rintro af dL ⟨er,⟨a2,a3,a4,a5,rfl⟩,ss,ia,vT,kO⟩;have Qc:=er _ _ ap;have Qd:=er _ _ jt;have Qe:=er _ _ bP;rw[eY,GE] at kO;walk_at "rds";have bl:=WP (λi=>-(ls.getD i dB).take) (eh ls w) hs0;refine Z2 (d9 (SqL.of bP)) (λj af ae=>Ze H ae∧(∃a2 a3 a4 a5,af=[some (.ref p),some (.ref s),some (.ref h),some (.ref l),some (.ref ab),some (.ref r),some (.int w),a2,a3,a4,a5])∧ae l=some (.lst ((em rs (Fire.bump d w)).map V.int))∧ae r=some (.lst ((bV++ [w]).map λw:Nat=>V.int w))∧ae ab=some (.lst ((hG ls st rs d).map V.bl))∧ae h=some (.lst ((bump (λi=>(ls.getD i dB).give) (bump (λi=>-(ls.getD i dB).take) hs0 (eh ls w)) ((dH ls w).take j)).map V.int))) ⟨er,⟨_,_,_,_,rfl⟩,ss,ia,vT,kO⟩ (λi af ae h=>h.1) ?_ ?_
    ·rintro j af eC bw ⟨fj,⟨a2,a3,a4,a5,rfl⟩,r6,m3,vU,lO⟩;have fC:j<(dH ls w).length:=by omega
     obtain⟨t,e5,ei⟩:=Zjx BI fC;have cL:=US (QO fC);have nB:=Zed (f:=λi=>(ls.getD i dB).give) (hs:=bump (λi=>-(ls.getD i dB).take) hs0 (eh ls w)) fC;rw[e5];refine Rd.Vs (.of (fj _ _ ei)) rfl ?_;generalize (dH ls w)[j]=m at*;have Qf:=WP (λi=>(ls.getD i dB).give) ((dH ls w).take j) (bump (λi=>-(ls.getD i dB).take) hs0 (eh ls w));generalize bump (λi=>(ls.getD i dB).give) (bump (λi=>-(ls.getD i dB).take) hs0 (eh ls w)) ((dH ls w).take j)=us at*;have AJ:=Vp (ns:=us) (k:=(m:Int)) (RB m) (by omega);have JJ:(m:Int)<((us.map V.int).length:Int):=by simp;omega
     walk_at "rds";refine⟨fj.new vM,⟨_,_,_,_,rfl⟩,by rw[bW vN.symm];exact r6,by rw[bW vP.symm];exact m3,by rw[bW sm.symm];exact vU,?_⟩;rw[Zd,nB,qal]
     rfl
    ·rintro af eC ⟨fj,⟨a2,a3,a4,a5,rfl⟩,r6,m3,vU,lO⟩;rw[JH,GE,G8 lr] at lO;have Qg:=fj _ _ ap;have Qh:=fj _ _ dJ;have Qi:=fj _ _ u3;have Qj:=fj _ _ pO;walk_at "rds";rw[←JI,Ac gW c_] at lO;have BK:=hl (d:=Fire.bump d w) gW;refine Z2 (d9 (SqL.of pO)) (λj af ae=>Ze H ae∧(∃a2 a3 a4 a5,af=[some (.ref p),some (.ref s),some (.ref h),some (.ref l),some (.ref ab),some (.ref r),some (.int w),a2,a3,a4,a5])∧ae l=some (.lst ((em rs (Fire.bump d w)).map V.int))∧ae r=some (.lst ((bV++ [w]).map λw:Nat=>V.int w))∧ae h=some (.lst ((lieL ls st (Fire.bump d w)).map V.int))∧ae ab=some (.lst ((iB ls st rs d (Fire.bump d w) (ms.take j)).map V.bl))) ⟨fj,⟨_,_,_,_,rfl⟩,r6,m3,lO,by rw[List.take_zero,He];exact vU⟩ (λi af ae h=>h.1) ?_ ?_
     ·rintro j af e1 bw ⟨fP,⟨a2,a3,a4,a5,rfl⟩,su,lP,oh,sv⟩;have fC:j<ms.length:=by simpa using bw
      have cU:(ms.map V.int).getD j .non= .int ms[j]:=by simp[List.getD,fC]
      have pE:=(BJ.2 ms[j]).mp (QO fC);have h8:0≤ms[j]∧ms[j]<(rs.length:Int):=by
       rcases pE with z|⟨i,hi,z⟩
       ·omega
       ·have ce:=US hi;have Ad:=c_ ls[i] (QO ce);rw[eS ce] at z;omega
      obtain⟨v,b8⟩:∃v:Nat,ms[j]=(v:Int):=⟨ms[j].toNat,by omega⟩;have BL:v<rs.length:=by omega
      have lN:ms.take (j+1)=ms.take j++ [(v:Int)]:=by rw[QR fC,b8]
      rw[cU,b8];obtain⟨x2,JK,Qk,iY,JL⟩:=c'.at (w:=(v:Int)) (RB v) (l:=gL ls v) (by simp[p5,BL]);have hE:=fP _ _ ap;have Bo:=fP _ _ dJ;have JN:=fP _ _ iY;have dA:=ZbZ (ls:=ls) (w:=v);have vS:=Vp (ns:=em rs (Fire.bump d w)) (k:=(v:Int)) (RB v) (by rw[u2];omega);rw[QT,Aa BL] at vS;have Ql:(v:Int)<(((iB ls st rs d (Fire.bump d w) (ms.take j)).map V.bl).length:Int):=by simp[iB];omega
      walk_at "rds";refine V5 (λfQ=>?_) (λfQ=>?_)
      ·have JO:Fire.bump d w v<f_ rs v:=by have:=of_decide_eq_true fQ;omega
       walk_at "rds";refine⟨h,x2,lieL ls st (Fire.bump d w),gL ls v,JK,rfl,.of oh,.of JN,JL.keep λ_ _ z=>fP _ _ z,z_ BK,by omega,λfz jK=>?_⟩;rw[Zc5 BK];have mH:g4 ls (lieL ls st (Fire.bump d w)) v=eN ls st rs (Fire.bump d w) v:=by unfold eN;rw[decide_eq_true JO,qa4]
       rw[mH];have Qm:=jK _ _ sv;have JP:=jK _ _ su;have oc:=jK _ _ lP;have BM:=jK _ _ oh;walk_at "rds";refine⟨(fP.trans jK).new BD,⟨_,_,_,_,rfl⟩,by rw[bW vO];exact JP,by rw[bW vQ.symm];exact oc,by rw[bW sm];exact BM,?_⟩;rw[Zd,lN,←Zex,qal]
       rfl
      ·have nM:¬Fire.bump d w v<f_ rs v:=by
        have:=of_decide_eq_false (by simpa using fQ:decide (0<(f_ rs v:Int)-(Fire.bump d w v:Int))=false);omega
       have mH:eN ls st rs (Fire.bump d w) v=false:=by unfold eN;rw[decide_eq_false nM,Bool.false_and]
       walk_at "rds";refine⟨fP.new BD,⟨_,_,_,_,rfl⟩,by rw[bW vO];exact su,by rw[bW vQ.symm];exact lP,by rw[bW sm];exact oh,?_⟩;rw[Zd,lN,←Zex,qal,mH]
       rfl
     ·rintro af e1 ⟨fP,⟨a2,a3,a4,a5,rfl⟩,su,lP,oh,sv⟩;rw[QM,GE,Hf gW c_ BJ] at sv;walk_at "rds";exact⟨tot rs-(bV++ [w]).length,by rw[Rj,List.length_singleton];omega,bV++ [w],Fire.bump d w,_,_,_,_,_,rfl,rfl,fP,m2,oh,su,sv,lP⟩
  ·walk_at "rds";exact q r bY bV d so cC kM gA (G' gW c_ (by simpa using c))
end
def JQ{K:Frag}{mg:Str→Option Value}(T:Tp K mg):Sp:=λvs H Q E=>∃(p:Addr)(w:Int)(ag:HM)(fp:List Addr),vs=[.ref p,.int w]∧c8 T H p ag fp∧ag.belts.length≤1000∧
 (¬(0≤w∧w<ag.names.length)→E (.ref T.p) none H)∧(0≤w→w<ag.names.length→∀r ae,H r=none→Ze H ae→ae r=some (.lst ((eh ag.belts w).map λi:Nat=>V.int i))→Q (.ref r) ae)
section
variable {P:Program}{w:World}{K:Frag}{mg:Str→Option Value}{base:Heap}
theorem JR(T:Tp K mg):OkM P w mg base 5 T.aZ (JQ T):=by
 have eU:=T.a;have eV:=T.e;refine T.aZ.F.okX Gx (λvs H Q E h=>?_) (λcv A outer s H vs Q E bn h=>?_)
 ·obtain⟨p,w,ag,fp,rfl,_⟩:=h
  rfl
 ·have hu:=bn.hu;obtain⟨p,w,ag,fp,rfl,bR,hz,bD,q⟩:=h;obtain⟨bu,a,b,bs,rfl,ap,a',bU,cD,fW,c'⟩:=id bR;have ao:=c'.length;refine⟨_,(bN (eB (gp (pv 0) T.a T.ac (qo T) bn cF (bt (pv 1) bA)))
     (bZ (c3 (ln (xs:=["belt","row"]) rfl (e2 (x:="belt") (zs:=["work"]) (ix:=[1]) (cr uD) ["self","work"] rfl rfl (by decide+kernel)) (my (K:=K) rfl rfl T.i (bt (eI (K:=K) rfl (pv 0) rfl) bA)) (λcl C s H fp=>⟨(hW (K:=K) (n:=2) rfl rfl (en (cK (i:=0) (show(["belt","row","work"]:List Str).Nodup by decide+kernel) rfl (Or.inl rfl)) (en (cK (i:=1) (show(["belt","row","work"]:List Str).Nodup by decide+kernel) rfl (Or.inl rfl)) hP))),(nv (dw (gn (K:=K) rfl hu) (cp (ixk K) (pv 1) b5 (λ_ _=>rfl)) (pv 2) (dF _))),(pv 0)⟩))))),?_⟩
  try dsimp only[L2.cxX,L2.ZL,L2.Zl]
  walk_at "rds";refine⟨p,w,ag,_,rfl,bR,bD,λeQ fI=>?_⟩;walk_at "rds";refine YH (own:=2) (mz (SqL.of cD)) (dj (by omega)) (λi=>[some (.int i),some (bs.getD i .non)]) (λ_=>rfl) (λi=>decide ((ag.belts.getD i dB).taker=w)) (λi v _=>v= .int i) (λ_ _ _ _ _ z=>z) (λi dq ae v bo hg hi bS y bB k=>?_) (λi ae c2 hi bS k=>?_) (λkN i ae c2 hi br hp0 jw bS k=>?_) (λr ae ys bn bS fb de=>?_)
  ·obtain⟨t,b3,rfl,rfl⟩:=y;obtain⟨x1,x2,rfl⟩:∃x1 x2,dq=[x1,x2]:=by
    match dq,bB with
    | [x1,x2],_=>exact⟨x1,x2,rfl⟩
   refine Rd.Vs (.of Zd) rfl ?_;walk_at "rds";exact k _ (cV b3)
  ·obtain⟨t,e5,ei⟩:=c'.getD (i:=i) (by omega);rw[e5];have gx:=bS _ _ ei;generalize ag.belts.getD i dB=bb at*;dsimp only[B5.v] at gx;walk_at "rds";exact k ae (Ze.refl ae)
  ·walk_at "rds";exact k _ ae (Ze.refl ae) rfl
  ·refine q eQ fI r ae bn bS ?_;rw[fb,rh (R:=λi v _=>v=V.int (i:Nat)) (H:=ae) (r:=λi:Nat=>V.int i) (λ_ _ z=>z) de,ao]
   rfl
end
def JS{K:Frag}{mg:Str→Option Value}(T:Tp K mg):Sp:=λvs H Q E=>∃(p:Addr)(i:Int)(ag:HM)(fp:List Addr),vs=[.ref p,.int i]∧c8 T H p ag fp∧
 (¬(0≤i∧i<ag.belts.length)→E (.ref T.U) none H)∧(0≤i→i<ag.belts.length→Q .non H)
section
variable {P:Program}{w:World}{K:Frag}{mg:Str→Option Value}{base:Heap}
theorem JT(T:Tp K mg):OkM P w mg base 4 T.a0 (JS T):=by
 have eU:=T.a;have eV:=T.e;refine T.a0.F.okX Gy (λvs H Q E h=>?_) (λcv A outer s H vs Q E bn h=>?_)
 ·obtain⟨p,i,ag,fp,rfl,_⟩:=h
  rfl
 ·have hu:=bn.hu;obtain⟨p,i,ag,fp,rfl,bR,bD,q⟩:=h;obtain⟨bu,a,b,bs,rfl,ap,a',bU,cD,fW,c'⟩:=id bR;refine⟨_,(bZ (dW (i6 (he (K:=K) rfl (c9 T.az (vA T) bn cF (bt (pv 1) (bt (dG (fk K) (by rfl) T.f Q8 (bt (eI (K:=K) rfl (pv 0) rfl) bA)) bA))) (λ_=>rfl))) (bZ (iS T.V.g T.V.e Rb rfl (bt YW bA))) d4)),?_⟩
  try dsimp only[L2.cxX,L2.ZL,L2.Zl]
  walk_at "rds";rw[c'.length]
  by_cases c:0≤i∧i<ag.belts.length
  ·rw[decide_eq_true c];walk_at "rds";exact q c.1 c.2
  ·rw[decide_eq_false c];walk_at "rds";exact bD c
end
def JU{K:Frag}{mg:Str→Option Value}(T:Tp K mg):Sp:=λvs H Q E=>∃(p:Addr)(i:Int)(ag:HM)(fp:List Addr),vs=[.ref p,.int i]∧c8 T H p ag fp∧
 (¬(0≤i∧i<ag.belts.length)→E (.ref T.U) none H)∧(0≤i→i<ag.belts.length→∀(t:Addr)(b:B5),ag.belts[i.toNat]? =some b→H t=some (.tup b.v)→Q (.ref t) H)
section
variable {P:Program}{w:World}{K:Frag}{mg:Str→Option Value}{base:Heap}
theorem sw(T:Tp K mg):OkM P w mg base 5 T.ar (JU T):=by
 have eU:=T.a;have eV:=T.e;refine T.ar.F.okX Gz (λvs H Q E h=>?_) (λcv A outer s H vs Q E bn h=>?_)
 ·obtain⟨p,i,ag,fp,rfl,_⟩:=h
  rfl
 ·have hu:=bn.hu;obtain⟨p,i,ag,fp,rfl,bR,bD,q⟩:=h;obtain⟨bu,a,b,bs,rfl,ap,a',bU,cD,fW,c'⟩:=id bR;refine⟨_,(bN (eB (gp (pv 0) T.a T.a0 (JT T) bn cF (bt (pv 1) bA)))
     (bZ (c3 (cp (ixk K) (eI (K:=K) rfl (pv 0) rfl) (pv 1) (λ_ _=>rfl))))),?_⟩
  try dsimp only[L2.cxX,L2.ZL,L2.Zl]
  walk_at "rds";refine⟨p,i,ag,_,rfl,bR,bD,λi0 g9=>?_⟩;have hi:i.toNat<ag.belts.length:=by omega
  have hk:=QN hi;obtain⟨t,e5,ei⟩:=c'.at hk;have h6:atI bs i=some (.ref t):=by
   have:=gj e5
   rwa [Rs i0] at this
  walk_at "rds";exact q i0 g9 t _ hk ei
end
def JV{K:Frag}{mg:Str→Option Value}(T:Tp K mg):Sp:=λvs H Q E=>∃(p:Addr)(w:Int)(ag:HM)(fp:List Addr),vs=[.ref p,.int w]∧c8 T H p ag fp∧ag.belts.length≤1000∧0≤w∧w<ag.names.length∧
 ∀r ae ys,H r=none→Ze H ae→ae r=some (.lst ys)→Ve ae (gL ag.belts w) ys→Q (.ref r) ae
section
variable {P:Program}{w:World}{K:Frag}{mg:Str→Option Value}{base:Heap}
theorem JW(T:Tp K mg):OkN P w base 6 T.a1 (JV T):=by
 have eU:=T.a;have eV:=T.e;refine T.a1.F.okX GA (λvs H Q E h=>?_) (λcv A outer s H vs Q E bn h=>?_)
 ·obtain⟨p,w,ag,fp,rfl,_⟩:=h
  rfl
 ·have hu:=bn.hu;obtain⟨p,w,ag,fp,rfl,bR,hz,eQ,fI,q⟩:=h;refine⟨_,(bZ (c3 (ln (xs:=["belt"]) rfl (e2 (x:="belt") (zs:=["hall"]) (ix:=[0]) (cr uE) ["hall","work"] rfl rfl (by decide+kernel)) (d_ (K:=K) rfl (gp (pv 0) T.a T.aZ (JR T) bn cF (bt (pv 1) bA))) (λcl C s H fp=>⟨(cK (i:=0) (show(["belt","hall"]:List Str).Nodup by decide+kernel) rfl (Or.inl rfl)),gm,(ij (bt (pv 0) (bt (cp (ixk K) (gp (pv 1) T.a T.ar (sw T) bn Vv (bt (pv 0) bA)) b5 (λ_ _=>rfl)) bA)))⟩)))),?_⟩
  try dsimp only[L2.cxX,L2.ZL,L2.Zl]
  walk_at "rds";refine⟨p,w,ag,fp,rfl,bR,hz,λz=>absurd ⟨eQ,fI⟩ z,λ_ _ e ax bH bq lH=>?_⟩;have iH:=bR.same bq;have h1:=Zdp (ls:=ag.belts) (w:=w);walk_at "rds";refine YH (own:=1) (d9 (SqL.of lH)).y (dj (by rw[QM];omega)) (λi=>[some (.int ((eh ag.belts w).getD i 0:Nat))]) (λ_=>rfl) (λ_=>true) (λi v H=>∃t,v=V.ref t∧H t=some (.tup [.int ((eh ag.belts w).getD i 0:Nat),.int (ag.belts.getD ((eh ag.belts w).getD i 0) dB).take])) (λ_ _ _ _ e ⟨t,fo,ff⟩=>⟨t,fo,e _ _ ff⟩) (λi dq ae v bo hg hi bS y fO k=>?_) (λi ae c2 hi bS k=>?_) (λkN i ae c2 hi br hp0 jw bS k=>?_) (λr ae ys i5 bS fb de=>?_)
  ·obtain⟨rfl,rfl⟩:=y;obtain⟨x1,rfl⟩:∃x1,dq=[x1]:=by
    match dq,fO with
    | [x1],_=>exact⟨x1,rfl⟩
   have dy:i<(eh ag.belts w).length:=by simpa using hi
   have cU:((eh ag.belts w).map λi:Nat=>V.int i).getD i .non= .int ((eh ag.belts w).getD i 0:Nat):=by simp[List.getD,dy]
   rw[cU];walk_at "rds";exact k _ (Ze.refl _)
  ·walk_at "rds";exact k ae (Ze.refl ae)
  ·have dy:i<(eh ag.belts w).length:=by simpa using hi
   have bv:(eh ag.belts w).getD i 0∈eh ag.belts w:=by
    have:(eh ag.belts w).getD i 0=(eh ag.belts w)[i]:=by simp[List.getD,dy]
    rw[this];exact QO dy
   have cL:=Zby bv;generalize (eh ag.belts w).getD i 0=j at*;have eW:=iH.same bS;walk_at "rds";refine⟨p,(j:Int),ag,fp,rfl,eW,λz=>absurd ⟨RB j,by omega⟩ z,λ_ _ t b ao b3=>?_⟩;have fl:ag.belts[j]? =some b:=ao;have cP:ag.belts.getD j dB=b:=by simp[List.getD,fl]
   rw[cP] at k;dsimp only[B5.v] at b3;walk_at "rds";refine⟨by show 2≤sizeLine;decide,λu fA=>?_⟩;exact k _ _ (cV fA) ⟨u,rfl,yu jw fA⟩
  ·refine q r ae ys ?_ (bq.trans bS) fb ?_
   ·cases e:H r with
    |none=>rfl
    |some o=>rw[bq _ _ e] at i5;cases i5
   ·exact(z9 de).keep λb xs z=>jL _ _ z
end
def JX{K:Frag}{mg:Str→Option Value}(T:Tp K mg):Sp:=λvs H Q E=>∃(p:Addr)(w:Int)(ag:HM)(fp:List Addr),vs=[.ref p,.int w]∧c8 T H p ag fp∧ag.belts.length≤1000∧
 (¬(0≤w∧w<ag.names.length)→E (.ref T.p) none H)∧(0≤w→w<ag.names.length→∀r ae,H r=none→Ze H ae→ae r=some (.lst ((dH ag.belts w).map λi:Nat=>V.int i))→Q (.ref r) ae)
section
variable {P:Program}{w:World}{K:Frag}{mg:Str→Option Value}{base:Heap}
theorem BN(T:Tp K mg):OkM P w mg base 5 T.aK (JX T):=by
 have eU:=T.a;have eV:=T.e;refine T.aK.F.okX GB (λvs H Q E h=>?_) (λcv A outer s H vs Q E bn h=>?_)
 ·obtain⟨p,w,ag,fp,rfl,_⟩:=h
  rfl
 ·have hu:=bn.hu;obtain⟨p,w,ag,fp,rfl,bR,hz,bD,q⟩:=h;obtain⟨bu,a,b,bs,rfl,ap,a',bU,cD,fW,c'⟩:=id bR;have ao:=c'.length;refine⟨_,(bN (eB (gp (pv 0) T.a T.ac (qo T) bn cF (bt (pv 1) bA)))
     (bZ (c3 (ln (xs:=["belt","row"]) rfl (e2 (x:="belt") (zs:=["work"]) (ix:=[1]) (cr uF) ["self","work"] rfl rfl (by decide+kernel)) (my (K:=K) rfl rfl T.i (bt (eI (K:=K) rfl (pv 0) rfl) bA)) (λcl C s H fp=>⟨(hW (K:=K) (n:=2) rfl rfl (en (cK (i:=0) (show(["belt","row","work"]:List Str).Nodup by decide+kernel) rfl (Or.inl rfl)) (en (cK (i:=1) (show(["belt","row","work"]:List Str).Nodup by decide+kernel) rfl (Or.inl rfl)) hP))),(nv (dw (gn (K:=K) rfl hu) (cp (ixk K) (pv 1) b5 (λ_ _=>rfl)) (pv 2) (dF _))),(pv 0)⟩))))),?_⟩
  try dsimp only[L2.cxX,L2.ZL,L2.Zl]
  walk_at "rds";refine⟨p,w,ag,_,rfl,bR,bD,λeQ fI=>?_⟩;walk_at "rds";refine YH (own:=2) (mz (SqL.of cD)) (dj (by omega)) (λi=>[some (.int i),some (bs.getD i .non)]) (λ_=>rfl) (λi=>decide ((ag.belts.getD i dB).giver=w)) (λi v _=>v= .int i) (λ_ _ _ _ _ z=>z) (λi dq ae v bo hg hi bS y bB k=>?_) (λi ae c2 hi bS k=>?_) (λkN i ae c2 hi br hp0 jw bS k=>?_) (λr ae ys bn bS fb de=>?_)
  ·obtain⟨t,b3,rfl,rfl⟩:=y;obtain⟨x1,x2,rfl⟩:∃x1 x2,dq=[x1,x2]:=by
    match dq,bB with
    | [x1,x2],_=>exact⟨x1,x2,rfl⟩
   refine Rd.Vs (.of Zd) rfl ?_;walk_at "rds";exact k _ (cV b3)
  ·obtain⟨t,e5,ei⟩:=c'.getD (i:=i) (by omega);rw[e5];have gx:=bS _ _ ei;generalize ag.belts.getD i dB=bb at*;dsimp only[B5.v] at gx;walk_at "rds";exact k ae (Ze.refl ae)
  ·walk_at "rds";exact k _ ae (Ze.refl ae) rfl
  ·refine q eQ fI r ae bn bS ?_;rw[fb,rh (R:=λi v _=>v=V.int (i:Nat)) (H:=ae) (r:=λi:Nat=>V.int i) (λ_ _ z=>z) de,ao]
   rfl
end
def JY{K:Frag}{mg:Str→Option Value}(T:Tp K mg):Sp:=λvs H Q E=>∃(p:Addr)(w:Int)(ag:HM)(fp:List Addr),vs=[.ref p,.int w]∧c8 T H p ag fp∧ag.belts.length≤1000∧0≤w∧w<ag.names.length∧
 ∀r ae ys,H r=none→Ze H ae→ae r=some (.lst ys)→Ve ae (n1 ag.belts w) ys→Q (.ref r) ae
section
variable {P:Program}{w:World}{K:Frag}{mg:Str→Option Value}{base:Heap}
theorem JZ(T:Tp K mg):OkN P w base 6 T.a2 (JY T):=by
 have eU:=T.a;have eV:=T.e;refine T.a2.F.okX GC (λvs H Q E h=>?_) (λcv A outer s H vs Q E bn h=>?_)
 ·obtain⟨p,w,ag,fp,rfl,_⟩:=h
  rfl
 ·have hu:=bn.hu;obtain⟨p,w,ag,fp,rfl,bR,hz,eQ,fI,q⟩:=h;refine⟨_,(bZ (c3 (ln (xs:=["belt"]) rfl (e2 (x:="belt") (zs:=["hall"]) (ix:=[0]) (cr uG) ["hall","work"] rfl rfl (by decide+kernel)) (d_ (K:=K) rfl (gp (pv 0) T.a T.aK (BN T) bn cF (bt (pv 1) bA))) (λcl C s H fp=>⟨(cK (i:=0) (show(["belt","hall"]:List Str).Nodup by decide+kernel) rfl (Or.inl rfl)),gm,(ij (bt (pv 0) (bt (cp (ixk K) (gp (pv 1) T.a T.ar (sw T) bn Vv (bt (pv 0) bA)) b5 (λ_ _=>rfl)) bA)))⟩)))),?_⟩
  try dsimp only[L2.cxX,L2.ZL,L2.Zl]
  walk_at "rds";refine⟨p,w,ag,fp,rfl,bR,hz,λz=>absurd ⟨eQ,fI⟩ z,λ_ _ e ax bH bq lH=>?_⟩;have iH:=bR.same bq;have h1:=Zdj (ls:=ag.belts) (w:=w);walk_at "rds";refine YH (own:=1) (d9 (SqL.of lH)).y (dj (by rw[QM];omega)) (λi=>[some (.int ((dH ag.belts w).getD i 0:Nat))]) (λ_=>rfl) (λ_=>true) (λi v H=>∃t,v=V.ref t∧H t=some (.tup [.int ((dH ag.belts w).getD i 0:Nat),.int (ag.belts.getD ((dH ag.belts w).getD i 0) dB).give])) (λ_ _ _ _ e ⟨t,fo,ff⟩=>⟨t,fo,e _ _ ff⟩) (λi dq ae v bo hg hi bS y fO k=>?_) (λi ae c2 hi bS k=>?_) (λkN i ae c2 hi br hp0 jw bS k=>?_) (λr ae ys i5 bS fb de=>?_)
  ·obtain⟨rfl,rfl⟩:=y;obtain⟨x1,rfl⟩:∃x1,dq=[x1]:=by
    match dq,fO with
    | [x1],_=>exact⟨x1,rfl⟩
   have dy:i<(dH ag.belts w).length:=by simpa using hi
   have cU:((dH ag.belts w).map λi:Nat=>V.int i).getD i .non= .int ((dH ag.belts w).getD i 0:Nat):=by simp[List.getD,dy]
   rw[cU];walk_at "rds";exact k _ (Ze.refl _)
  ·walk_at "rds";exact k ae (Ze.refl ae)
  ·have dy:i<(dH ag.belts w).length:=by simpa using hi
   have bv:(dH ag.belts w).getD i 0∈dH ag.belts w:=by
    have:(dH ag.belts w).getD i 0=(dH ag.belts w)[i]:=by simp[List.getD,dy]
    rw[this];exact QO dy
   have cL:=US bv;generalize (dH ag.belts w).getD i 0=j at*;have eW:=iH.same bS;walk_at "rds";refine⟨p,(j:Int),ag,fp,rfl,eW,λz=>absurd ⟨RB j,by omega⟩ z,λ_ _ t b ao b3=>?_⟩;have fl:ag.belts[j]? =some b:=ao;have cP:ag.belts.getD j dB=b:=by simp[List.getD,fl]
   rw[cP] at k;dsimp only[B5.v] at b3;walk_at "rds";refine⟨by show 2≤sizeLine;decide,λu fA=>?_⟩;exact k _ _ (cV fA) ⟨u,rfl,yu jw fA⟩
  ·refine q r ae ys ?_ (bq.trans bS) fb ?_
   ·cases e:H r with
    |none=>rfl
    |some o=>rw[bq _ _ e] at i5;cases i5
   ·exact(z9 de).keep λb xs z=>jL _ _ z
end
def J0{K:Frag}{mg:Str→Option Value}(T:Tp K mg):Sp:=λvs H Q _=>∃(p:Addr)(w:Int)(ag:HM)(fp:List Addr),vs=[.ref p,.int w]∧c8 T H p ag fp∧ag.belts.length≤60∧0≤w∧w<ag.names.length∧
 ∀(r:Addr)(ae:Hp)(ms:List Int),H r=none→Ze H ae→ae r=some (.lst (ms.map V.int))→Zac ag.belts w ms→Q (.ref r) ae
section
variable {P:Program}{w:World}{K:Frag}{mg:Str→Option Value}{base:Heap}
theorem J1(T:Tp K mg):OkN P w base 6 T.a3 (J0 T):=by
 have eU:=T.a;have eV:=T.e;refine T.a3.F.okX GD (λvs H Q E h=>?_) (λcv A outer s H vs Q E bn h=>?_)
 ·obtain⟨p,w,ag,fp,rfl,_⟩:=h
  rfl
 ·have hu:=bn.hu;obtain⟨p,w,ag,fp,rfl,bR,hz,eQ,fI,q⟩:=h;refine⟨_,(bZ (c3 (FS (K:=K) rfl rfl (by rfl) T.F (by rfl) T.aF (bt (cI (hf K) (gF (bt (pv 1) bA)) (jf rfl (e2 (x:="belt") (zs:=["hall"]) (ix:=[0]) (cr uH) ["hall","work"] rfl rfl (by decide+kernel)) (d_ (K:=K) rfl (gp (pv 0) T.a T.aK (BN T) bn cF (bt (pv 1) bA))) (λcl C s H fp=>⟨(cK (i:=0) (show(["belt","hall"]:List Str).Nodup by decide+kernel) rfl (Or.inl rfl)),gm,(cp (ixk K) (gp (pv 1) T.a T.ar (sw T) bn Vv (bt (pv 0) bA)) b5 (λ_ _=>rfl))⟩))) bA)))),?_⟩
  try dsimp only[L2.cxX,L2.ZL,L2.Zl]
  walk_at "rds";refine Rd.ZoB ?_;walk_at "rds";intro a bB;have bq:Ze H (upd H a (.lst [V.int w])):=cV bB;have qa:(upd H a (.lst [V.int w])) a=some (.lst [V.int w]):=Zd;generalize upd H a (.lst [V.int w])=ax at*;have iH:=bR.same bq;walk_at "rds";refine⟨p,w,ag,fp,rfl,iH,by omega,λz=>absurd ⟨eQ,fI⟩ z,λ_ _ e bo bH bJ ko=>?_⟩;have eW:=iH.same bJ;have vV:=bJ _ _ qa;have h1:=Zdj (ls:=ag.belts) (w:=w);walk_at "rds";refine Yg (d9 (SqL.of ko)) (dj (by rw[QM];omega)) (λ_=>true) (λi=> .int (ag.belts.getD ((dH ag.belts w).getD i 0) dB).taker) (λi ae c2 hi bS k=>?_) (λi ae c2 hi _ bS k=>?_) (λr ae bn bS i5=>?_)
  ·walk_at "rds";exact k ae (Ze.refl ae)
  ·have dy:i<(dH ag.belts w).length:=by simpa using hi
   have cU:((dH ag.belts w).map λi:Nat=>V.int i).getD i .non= .int ((dH ag.belts w).getD i 0:Nat):=by simp[List.getD,dy]
   rw[cU];have bv:(dH ag.belts w).getD i 0∈dH ag.belts w:=by
    have:(dH ag.belts w).getD i 0=(dH ag.belts w)[i]:=by simp[List.getD,dy]
    rw[this];exact QO dy
   have cL:=US bv;generalize (dH ag.belts w).getD i 0=j at*;have f8:=eW.same bS;walk_at "rds";refine⟨p,(j:Int),ag,fp,rfl,f8,λz=>absurd ⟨RB j,by omega⟩ z,λ_ _ t b ao b3=>?_⟩;have fl:ag.belts[j]? =some b:=ao;have cP:ag.belts.getD j dB=b:=by simp[List.getD,fl]
   rw[cP] at k;dsimp only[B5.v] at b3;walk_at "rds";exact k ae (Ze.refl ae)
  ·have h7:ae r=some (.lst (((dH ag.belts w).map λi=>(ag.belts.getD i dB).taker).map V.int)):=by
    rw[i5,Ra.mpr (by simp)];refine congrArg (λz=>some (HO.lst z)) ?_;refine GM (by simp) λi ap a'=>?_;have:i<(dH ag.belts w).length:=by simpa using a'
    simp[List.getD,this]
   have AA:=bS _ _ vV;refine Rd.ZoD AA h7 (RW (dj (by simp;omega))) (λu hu=>?_);have b9:Ze ae (upd ae u (.lst ([V.int w]++((dH ag.belts w).map λi=>(ag.belts.getD i dB).taker).map V.int))):=cV hu;have qb:(upd ae u (.lst ([V.int w]++((dH ag.belts w).map λi=>(ag.belts.getD i dB).taker).map V.int))) u=some (.lst ((w::(dH ag.belts w).map λi=>(ag.belts.getD i dB).taker).map V.int)):=Zd;generalize upd ae u (.lst ([V.int w]++((dH ag.belts w).map λi=>(ag.belts.getD i dB).taker).map V.int))=b7 at*;walk_at "rds";refine Rd.Zn0 (.of qb) (by simp;omega) (λx ms a_ bz bv=>?_);have gP:=bq.trans (bJ.trans (bS.trans b9));refine q x _ ms (ev gP a_) (gP.trans (cV a_)) Zd ⟨bz,λy=>?_⟩;rw[bv y,QW,Q3]
end
def BO{K:Frag}{mg:Str→Option Value}(T:Tp K mg):Sp:=λvs H Q E=>∃(p bu h t:Addr)(ag:HM)(fp:List Addr)(rs:List Int),vs=[.ref p,.ref h,.ref t]∧H p=some (.ins T.b bu [])∧c8 T H h ag fp∧H t=some (.lst (rs.map V.int))∧rs.length=ag.names.length∧rs.length≤1000∧ag.belts.length≤60∧
 ∀(ae:Hp),mO T ae p ag.belts rs→(∀b o,H b=some o→b≠p→ae b=some o)→Q .non ae
theorem ZdG{K:Frag}{mg:Str→Option Value}{T:Tp K mg}{H:Hp}{h t:Addr}{ag:HM}{fp:List Addr}{rs:List Int}{Q:Addr→Hp→Prop}{E:XK}(bR:c8 T H h ag fp)(b3:H t=some (.lst (rs.map V.int)))(bG:rs.length=ag.names.length)(hz:rs.length≤1000)(ao:ag.belts.length≤60)
  (q:∀(p:Addr)(ae:Hp),mO T ae p ag.belts rs→H p=none→Ze H ae→Q p ae):
  ∀x bu,H x=none→H bu=none→bu≠x→BO T (.ref x::([.ref h,.ref t]++ [])) (upd (upd H bu (.own x)) x (.ins T.b bu [])) (λv bo=>v= .non∧Q x bo) E:=by
 intro x bu a_ i4 ne;have bS:Ze H (upd (upd H bu (.own x)) x (.ins T.b bu [])):=λb o e=>by rw[bW (cT e a_),bW (cT e i4)];exact e
 exact⟨x,bu,h,t,ag,fp,rs,rfl,Zd,bR.same bS,bS _ _ b3,bG,hz,ao,λae br bp=>⟨rfl,q x ae br a_ (λb o e=>bp b o (bS b o e) (cT e a_))⟩⟩
section
variable {P:Program}{w:World}{K:Frag}{mg:Str→Option Value}{base:Heap}
theorem J2(T:Tp K mg):OkI P w mg base 7 T.a4 (BO T):=by
 have Bz:=T.q;have BA:=T.z;have eU:=T.a;have eV:=T.e;refine T.a4.F.okX GF (λvs H Q E h=>?_) (λcv A outer s H vs Q E bn h=>?_)
 ·obtain⟨p,bu,h,t,ag,fp,rs,rfl,_⟩:=h
  rfl
 ·have hu:=bn.hu;obtain⟨p,bu,bB,t,ag,fp,rs,rfl,bz,bR,b3,bG,hz,jX,q⟩:=h;have lQ:p∉fp:=by
   intro z;obtain⟨J3,a,b,bs,rfl,ap,a',bU,cD,fW,c'⟩:=bR;simp only[QW,Ru,or_false] at z;rcases z with rfl|rfl|rfl|rfl
   ·rw[ap] at bz
    injection bz with e
    injection e with bD bI c6
    cases c6
   ·rw[a'] at bz;cases bz
   ·rw[bU] at bz;cases bz
   ·rw[cD] at bz;cases bz
  have Qn:((rs.map V.int).length:Int)=rs.length:=by simp
  refine⟨_,(bN (iT (K:=K) rfl (pv 0) (k7 (nE (K:=K) rfl) (by rfl) T.j RA (bt (pv 2) bA)) rfl)
     (bN (iT (K:=K) rfl (pv 0) (iU (pv 1) T.a T.Y (oe T) bn cF) rfl)
     (bN (iT (K:=K) rfl (pv 0) (ln (xs:=["work"]) rfl (e2 (x:="work") (zs:=["hall"]) (ix:=[1]) (cr pR) ["self","hall","turns"] rfl rfl (by decide+kernel)) (ih rfl T.h (bt (dG (fk K) (by rfl) T.f Q8 (bt (pv 2) bA)) bA)) (λcl C s H fp=>⟨(cK (i:=0) (show(["work","hall"]:List Str).Nodup by decide+kernel) rfl (Or.inl rfl)),gm,(c9 T.a1 (JW T) bn Vv (bt (pv 1) (bt (pv 0) bA)))⟩)) rfl)
     (bN (iT (K:=K) rfl (pv 0) (ln (xs:=["work"]) rfl (e2 (x:="work") (zs:=["hall"]) (ix:=[1]) (cr pR) ["self","hall","turns"] rfl rfl (by decide+kernel)) (ih rfl T.h (bt (dG (fk K) (by rfl) T.f Q8 (bt (pv 2) bA)) bA)) (λcl C s H fp=>⟨(cK (i:=0) (show(["work","hall"]:List Str).Nodup by decide+kernel) rfl (Or.inl rfl)),gm,(c9 T.a2 (JZ T) bn Vv (bt (pv 1) (bt (pv 0) bA)))⟩)) rfl)
     (bZ (iT (K:=K) rfl (pv 0) (ln (xs:=["work"]) rfl (e2 (x:="work") (zs:=["hall"]) (ix:=[1]) (cr pR) ["self","hall","turns"] rfl rfl (by decide+kernel)) (ih rfl T.h (bt (dG (fk K) (by rfl) T.f Q8 (bt (pv 2) bA)) bA)) (λcl C s H fp=>⟨(cK (i:=0) (show(["work","hall"]:List Str).Nodup by decide+kernel) rfl (Or.inl rfl)),gm,(c9 T.a3 (J1 T) bn Vv (bt (pv 1) (bt (pv 0) bA)))⟩)) rfl)))))),?_⟩
  try dsimp only[L2.cxX,L2.ZL,L2.Zl]
  walk_at "rds";refine Rd.VM (.of b3) (λa qw=>?_);have iE:p≠a:=cT bz qw;have bq:Ze H (upd H a (.lst (rs.map V.int))):=cV qw;have qa:(upd H a (.lst (rs.map V.int))) a=some (.lst (rs.map V.int)):=Zd;generalize upd H a (.lst (rs.map V.int))=ax at*;have jw:=bq _ _ bz;walk_at "rds";have f1:cX [p] ax (upd ax p (.ins T.b bu [("turns",.ref a)])):=fR (by simp) jw (by intro _ z;cases z);have BP:cX [p] H (upd ax p (.ins T.b bu [("turns",.ref a)])):=bq.frame.trans f1;have o7:(upd ax p (.ins T.b bu [("turns",.ref a)])) p=some (.ins T.b bu [("turns",.ref a)]):=Zd;have vV:=f1.keep _ _ qa (by simpa using iE.symm);generalize upd ax p (.ins T.b bu [("turns",.ref a)])=bo at*;have sx:t≠p:=fc b3 bz (by intro z;cases z);have eW:=bR.off BP (λx a_ z=>lQ (by rw[←QS.mp z];exact a_));clear f1 jw qa;walk_at "rds";intro b b2 bs jx bO jN gO;have qx:=bO _ _ o7;have iF:p≠b:=cT o7 jx;walk_at "rds";have c7:cX [p] b2 (upd b2 p (.ins T.b bu [("turns",.ref a),("rows",.ref b)])):=fR (by simp) qx (by intro _ z;cases z);have vW:cX [p] bo (upd b2 p (.ins T.b bu [("turns",.ref a),("rows",.ref b)])):=bO.frame.trans c7;have oi:(upd b2 p (.ins T.b bu [("turns",.ref a),("rows",.ref b)])) p=some (.ins T.b bu [("turns",.ref a),("rows",.ref b)]):=Zd;have oj:=c7.keep _ _ jN (by simpa using iF.symm);have ej:=gO.keep c7.tups;generalize upd b2 p (.ins T.b bu [("turns",.ref a),("rows",.ref b)])=b7 at*;have vX:=BP.trans vW;have hJ:=vX.keep _ _ b3 (by simpa using sx);have iG:=bR.off vX (λx a_ z=>lQ (by rw[←QS.mp z];exact a_));clear c7 qx jN gO;walk_at "rds";refine YH (own:=1) Vk.y (dj (by rw[QM];exact hz)) (λi=>[some (.int (0+(i:Int)))]) (λ_=>rfl) (λ_=>true) (λ(i:Nat) v bo=>∃x,v=V.ref x∧∃vs,b7 x=none∧bo x=some (.lst vs)∧Ve bo (gL ag.belts (0+(i:Int))) vs) (λ_ _ _ _ e ⟨x,hL,fo⟩=>⟨x,hL,(let⟨vs,a1,a2,a3⟩:=fo;⟨vs,a1,e _ _ a2,a3.keep λ_ _ z=>e _ _ z⟩)⟩) (λi dq ae v bo hg hi bS y fO k=>?_) (λi ae c2 hi bS k=>?_) (λkN i ae c2 hi br hp0 hp1' bS k=>?_) (λc bY ys4 kK cC sy vY=>?_)
  ·obtain⟨rfl,rfl⟩:=y;obtain⟨x1,rfl⟩:∃x1,dq=[x1]:=by
    match dq,fO with
    | [x1],_=>exact⟨x1,rfl⟩
   walk_at "rds";exact k _ (Ze.refl _)
  ·walk_at "rds";exact k ae (Ze.refl ae)
  ·have dy:i<rs.length:=by simpa using hi
   walk_at "rds";refine⟨bB,0+(i:Int),ag,fp,rfl,iG.same bS,by omega,by omega,by omega,λx bY vs a_ cC hx5 dR=>?_⟩;exact k _ bY cC ⟨x,rfl,vs,ev bS a_,t_ hp1' a_ hx5,dR.keep λb xs z=>Ze8 hp1' cC z⟩
  ·rw[Ra.mpr (by simp),QM,QT] at vY;obtain⟨gM,rfl,J4,BQ⟩:=Zdy vY;have qy:=cC _ _ oi;have ol:p≠c:=cT oi kK;have BR:∀x∈gM,x≠p:=λx a_ z=>by
    obtain⟨j,bw,e⟩:=Q4 a_;obtain⟨_,hL,_⟩:=BQ j (by omega);rw[eS bw,e,z,oi] at hL;cases hL
   walk_at "rds";have dS:cX [p] bY (upd bY p (.ins T.b bu [("turns",.ref a),("rows",.ref b),("takes",.ref c)])):=fR (by simp) qy (by intro _ z;cases z);have vZ:cX [p] b7 (upd bY p (.ins T.b bu [("turns",.ref a),("rows",.ref b),("takes",.ref c)])):=cC.frame.trans dS;have m4:(upd bY p (.ins T.b bu [("turns",.ref a),("rows",.ref b),("takes",.ref c)])) p=some (.ins T.b bu [("turns",.ref a),("rows",.ref b),("takes",.ref c)]):=Zd;have v0:=dS.keep _ _ sy (by simpa using ol.symm);have J5:LL (upd bY p (.ins T.b bu [("turns",.ref a),("rows",.ref b),("takes",.ref c)])) ((List.range rs.length).map λw:Nat=>gL ag.belts w) gM:=by
    refine p1 (by simp[J4]) λj x y bD bI=>?_;have bw:j<rs.length:=by have:=(QP.mp bI).1;omega
    obtain⟨vs,_,fo,ff⟩:=BQ j bw;rw[QX,List.getElem?_range bw] at bD;cases bD;have ew:gM.getD j 0=y:=by simp[List.getD,bI]
    rw[ew] at fo;rw[RZ] at ff;exact⟨vs,dS.keep _ _ (jL _ _ fo) (by simpa using BR y (Q6 bI)),ff.keep λb xs z=>dS.tups _ _ (jL _ _ z)⟩
   generalize upd bY p (.ins T.b bu [("turns",.ref a),("rows",.ref b),("takes",.ref c)])=c5 at*;have kP:=vX.trans vZ;have v1:=kP.keep _ _ b3 (by simpa using sx);have og:=bR.off kP (λx a_ z=>lQ (by rw[←QS.mp z];exact a_));clear dS qy sy vY;walk_at "rds";refine YH (own:=1) Vk.y (dj (by rw[QM];exact hz)) (λi=>[some (.int (0+(i:Int)))]) (λ_=>rfl) (λ_=>true) (λ(i:Nat) v bo=>∃x,v=V.ref x∧∃vs,c5 x=none∧bo x=some (.lst vs)∧Ve bo (n1 ag.belts (0+(i:Int))) vs) (λ_ _ _ _ e ⟨x,hL,fo⟩=>⟨x,hL,(let⟨vs,a1,a2,a3⟩:=fo;⟨vs,a1,e _ _ a2,a3.keep λ_ _ z=>e _ _ z⟩)⟩) (λi dq ae v bo hg hi bS y fO k=>?_) (λi ae c2 hi bS k=>?_) (λkN i ae c2 hi br hp0 hp1' bS k=>?_) (λd dh ys6 kG dn kI v2=>?_)
   ·obtain⟨rfl,rfl⟩:=y;obtain⟨x1,rfl⟩:∃x1,dq=[x1]:=by
     match dq,fO with
     | [x1],_=>exact⟨x1,rfl⟩
    walk_at "rds";exact k _ (Ze.refl _)
   ·walk_at "rds";exact k ae (Ze.refl ae)
   ·have dy:i<rs.length:=by simpa using hi
    walk_at "rds";refine⟨bB,0+(i:Int),ag,fp,rfl,og.same bS,by omega,by omega,by omega,λx bY vs a_ cC hx5 dR=>?_⟩;exact k _ bY cC ⟨x,rfl,vs,ev bS a_,t_ hp1' a_ hx5,dR.keep λb xs z=>Ze8 hp1' cC z⟩
   ·rw[Ra.mpr (by simp),QM,QT] at v2;obtain⟨id,rfl,J6,BS⟩:=Zdy v2;have qz:=dn _ _ m4;have kJ:p≠d:=cT m4 kG;have BU:∀x∈id,x≠p:=λx a_ z=>by
     obtain⟨j,bw,e⟩:=Q4 a_;obtain⟨_,hL,_⟩:=BS j (by omega);rw[eS bw,e,z,m4] at hL;cases hL
    walk_at "rds";have kQ:cX [p] dh (upd dh p (.ins T.b bu [("turns",.ref a),("rows",.ref b),("takes",.ref c),("gives",.ref d)])):=fR (by simp) qz (by intro _ z;cases z);have lR:cX [p] c5 (upd dh p (.ins T.b bu [("turns",.ref a),("rows",.ref b),("takes",.ref c),("gives",.ref d)])):=dn.frame.trans kQ;have om:(upd dh p (.ins T.b bu [("turns",.ref a),("rows",.ref b),("takes",.ref c),("gives",.ref d)])) p=some (.ins T.b bu [("turns",.ref a),("rows",.ref b),("takes",.ref c),("gives",.ref d)]):=Zd;have oa:=kQ.keep _ _ kI (by simpa using kJ.symm);have J7:LL (upd dh p (.ins T.b bu [("turns",.ref a),("rows",.ref b),("takes",.ref c),("gives",.ref d)])) ((List.range rs.length).map λw:Nat=>n1 ag.belts w) id:=by
     refine p1 (by simp[J6]) λj x y bD bI=>?_;have bw:j<rs.length:=by have:=(QP.mp bI).1;omega
     obtain⟨vs,_,fo,ff⟩:=BS j bw;rw[QX,List.getElem?_range bw] at bD;cases bD;have ew:id.getD j 0=y:=by simp[List.getD,bI]
     rw[ew] at fo;rw[RZ] at ff;exact⟨vs,kQ.keep _ _ (jL _ _ fo) (by simpa using BU y (Q6 bI)),ff.keep λb xs z=>kQ.tups _ _ (jL _ _ z)⟩
    generalize upd dh p (.ins T.b bu [("turns",.ref a),("rows",.ref b),("takes",.ref c),("gives",.ref d)])=dL at*;have qA:=kP.trans lR;have BV:=qA.keep _ _ b3 (by simpa using sx);have kO:=bR.off qA (λx a_ z=>lQ (by rw[←QS.mp z];exact a_));clear kQ qz kI v2;walk_at "rds";refine YH (own:=1) Vk.y (dj (by rw[QM];exact hz)) (λi=>[some (.int (0+(i:Int)))]) (λ_=>rfl) (λ_=>true) (λ(i:Nat) v bo=>∃x,v=V.ref x∧∃ms:List Int,dL x=none∧bo x=some (.lst (ms.map V.int))∧Zac ag.belts i ms) (λ_ _ _ _ e ⟨x,hL,fo⟩=>⟨x,hL,(let⟨vs,a1,a2,a3⟩:=fo;⟨vs,a1,e _ _ a2,a3⟩)⟩) (λi dq ae v bo hg hi bS y fO k=>?_) (λi ae c2 hi bS k=>?_) (λkN i ae c2 hi br hp0 hp1' bS k=>?_) (λe eC ys8 qB fj sA v3=>?_)
    ·obtain⟨rfl,rfl⟩:=y;obtain⟨x1,rfl⟩:∃x1,dq=[x1]:=by
      match dq,fO with
      | [x1],_=>exact⟨x1,rfl⟩
     walk_at "rds";exact k _ (Ze.refl _)
    ·walk_at "rds";exact k ae (Ze.refl ae)
    ·have dy:i<rs.length:=by simpa using hi
     walk_at "rds";refine⟨bB,0+(i:Int),ag,fp,rfl,kO.same bS,by omega,by omega,by omega,λx bY ms a_ cC hx5 dR=>?_⟩;rw[RZ] at dR;exact k _ bY cC ⟨x,rfl,ms,ev bS a_,t_ hp1' a_ hx5,dR⟩
    ·rw[Ra.mpr (by simp),QM,QT] at v3;obtain⟨v4,rfl,J8,BW⟩:=Zdy v3;have on:=fj _ _ om;have J9:p≠e:=cT om qB;have J_:∀x∈v4,x≠p:=λx a_ z=>by
      obtain⟨j,bw,e⟩:=Q4 a_;obtain⟨_,hL,_⟩:=BW j (by omega);rw[eS bw,e,z,om] at hL;cases hL
     walk_at "rds";have lS:cX [p] eC (upd eC p (.ins T.b bu [("turns",.ref a),("rows",.ref b),("takes",.ref c),("gives",.ref d),("touched",.ref e)])):=fR (by simp) on (by intro _ z;cases z);have qC:cX [p] dL (upd eC p (.ins T.b bu [("turns",.ref a),("rows",.ref b),("takes",.ref c),("gives",.ref d),("touched",.ref e)])):=fj.frame.trans lS;have sB:(upd eC p (.ins T.b bu [("turns",.ref a),("rows",.ref b),("takes",.ref c),("gives",.ref d),("touched",.ref e)])) p=some (.ins T.b bu [("turns",.ref a),("rows",.ref b),("takes",.ref c),("gives",.ref d),("touched",.ref e)]):=Zd;have J':=lS.keep _ _ sA (by simpa using J9.symm);have Ka:TL (upd eC p (.ins T.b bu [("turns",.ref a),("rows",.ref b),("takes",.ref c),("gives",.ref d),("touched",.ref e)])) ag.belts rs.length v4:=⟨J8,λv b8=>by
      obtain⟨ms,_,fo,ff⟩:=BW v b8;exact⟨ms,lS.keep _ _ (jL _ _ fo) (by rw[QS];exact J_ _ (by rw[eS (by omega)];exact QO _)),ff⟩⟩
     generalize upd eC p (.ins T.b bu [("turns",.ref a),("rows",.ref b),("takes",.ref c),("gives",.ref d),("touched",.ref e)])=e1 at*;have v5:=qA.trans qC;have Qo:=v5.keep _ _ b3 (by simpa using sx);have oh:=bR.off v5 (λx a_ z=>lQ (by rw[←QS.mp z];exact a_));clear lS on sA v3;have Qp:=vW.trans (vZ.trans lR);have v6:=vZ.trans (lR.trans qC);have BX:=lR.trans qC;have BY:∀{sC:Hp}{cG:List (List (Int×Int))}{is:List Addr},cX [p] sC e1→LL sC cG is→(∀x∈is,x≠p)→LL e1 cG is:=λ{sC cG is} f l n=>l.keep f.tups λx a_=>by
      cases q:sC x with
      |none=>exact absurd q (l.dom x a_)
      |some o=>exact f.keep _ _ q (by simpa using n x a_)
     refine q e1 ⟨bu,a,b,c,d,e,gM,id,v4,bs,sB,(vW.trans v6).keep _ _ vV (by simpa using iE.symm),v6.keep _ _ oj (by simpa using iF.symm),ej.keep v6.tups,BX.keep _ _ v0 (by simpa using ol.symm),BY BX J5 BR,qC.keep _ _ oa (by simpa using kJ.symm),BY qC J7 BU,J',Ka⟩ (λx o ap a'=>v5.keep _ _ ap (by simpa using a'))
end
def Kb{K:Frag}{mg:Str→Option Value}(T:Tp K mg):Sp:=λvs H Q E=>∃(p d:Addr)(ag:HM)(fp:List Addr)(f:Int→Int)(ms:List Int),vs=[.ref p,.ref d]∧c8 T H p ag fp∧Vm ag.names∧ag.belts.length≤60∧H d=some (.dK (turnsK f ms))∧ms.Nodup∧ms.length≤30∧(∀m∈ms,0≤m∧m<(ag.names.length:Int))∧(∀m∈ms,1≤f m)∧(ms.map f).sum≤1000∧
 ∀(bV:List Nat)(cS:Nat→Nat),Fire.YM (iA (c4 ag.belts ms) (es (c4 ag.belts ms)) (ms.map f)) (λ_=>0) bV cS→(∀w,¬f' (c4 ag.belts ms) (es (c4 ag.belts ms)) (ms.map f) cS w)→
  ((bV.length:Int)<(ms.map f).sum→∀ae,Ze H ae→E (.ref T.l) none ae)∧(¬(bV.length:Int)<(ms.map f).sum→∀(r:Addr)(ae:Hp),H r=none→Ze H ae→ae r=some (.lst (bV.map λw=>V.int (ms.getD w 0)))→Q (.ref r) ae)
section
variable {P:Program}{w:World}{K:Frag}{mg:Str→Option Value}{base:Heap}
theorem Kc(T:Tp K mg):OkN P w base 9 T.a5 (Kb T):=by
 have Bz:=T.q;have BA:=T.z;refine T.a5.F.okX rK (λvs H Q E h=>?_) (λcv A outer s H vs Q E bn h=>?_)
 ·obtain⟨p,d,ag,fp,f,ms,rfl,_⟩:=h
  rfl
 ·have hu:=bn.hu;obtain⟨p,d,ag,fp,f,ms,rfl,bR,gN,jX,hd,dM,mX,h8,h9,Qq,q⟩:=h;refine⟨_,(bN (cy (i:=2) rK.nd rfl (Or.inr rfl) (k7 (yn rfl) (by rfl) T.j RA (bt (pv 1) bA)))
     (bN (cy (i:=3) rK.nd rfl (Or.inl rfl) (c9 T.aW (Jj T) bn cF (bt (pv 0) (bt (pv 2) bA))))
     (bN (cy (i:=4) rK.nd rfl (Or.inl rfl) (gp (Em T.a4 (J2 T) bn T.al cF (bt (pv 3) (bt (FX rfl (by rfl) T.j (pv 1)) bA))) T.q T.aY (Ju T) bn cF (bt (c9 T.aX (Jq T) bn cF (bt (pv 3) bA)) bA)))
     (bN (dW (dw oT (dG (fk K) (by rfl) T.f Q8 (bt (pv 4) bA)) (FZ rfl (by rfl) T.aj (pv 1)) (dF _)) (bZ (iS T.N.g T.N.e Rb rfl (bt YW bA))) d4)
     (bZ (c3 (jf rfl (e2 (x:="work") (zs:=["members"]) (ix:=[2]) (cr uI) ["hall","turns","members","inner","row"] rfl rfl (by decide+kernel)) (d_ (K:=K) rfl (pv 4)) (λcl C s H fp=>⟨(cK (i:=0) (show(["work","members"]:List Str).Nodup by decide+kernel) rfl (Or.inl rfl)),gm,(cp (ixk K) (pv 1) (pv 0) (λ_ _=>rfl))⟩)))))))),?_⟩
  try dsimp only[L2.cxX,L2.ZL,L2.Zl]
  walk_at "rds";intro g8 qD;rw[ZgL];have bq:Ze H (upd H g8 (.lst (ms.map V.int))):=cV qD;have hI:(upd H g8 (.lst (ms.map V.int))) g8=some (.lst (ms.map V.int)):=Zd;generalize upd H g8 (.lst (ms.map V.int))=ax at*;walk_at "rds";refine⟨p,g8,ag,fp,ms,rfl,bR.same bq,hI,gN,jX,dM,mX,h8,λKd Ke bo lu ez bJ=>?_⟩;have gy:=bq.trans bJ;have hy:=gy _ _ hd;have ce:=Ziv (ls:=ag.belts) (ms:=ms);have kj:∀r∈ms.map f,1≤r:=λr bn=>by
   obtain⟨m,bv,rfl⟩:=Q3.mp bn;exact h9 m bv
  have AO:((tot (ms.map f):Nat):Int)=(ms.map f).sum:=ZdP λr bn=>(by have:=kj r bn;omega);walk_at "rds";refine⟨.ref d,rfl,d,_,rfl,.inl hy,λl fL=>?_⟩;rw[Ao];have bO:Ze bo (upd bo l (.lst ((ms.map f).map V.int))):=cV fL;have qE:(upd bo l (.lst ((ms.map f).map V.int))) l=some (.lst ((ms.map f).map V.int)):=Zd;generalize upd bo l (.lst ((ms.map f).map V.int))=b2 at*;have BZ:=lu.same bO;walk_at "rds";refine ZdG BZ qE (by simp) (by simp;omega) (by dsimp only;omega) λco b7 iI Au b9=>?_;dsimp only at iI;have Kf:=BZ.same b9;walk_at "rds";refine⟨Kd,_,Ke,rfl,Kf,by dsimp only;omega,λst bY fw cC B0=>?_⟩;dsimp only at B0;have B1:=bO.trans (b9.trans cC);have i2:=gy.trans B1;walk_at "rds";refine⟨co,st,c4 ag.belts ms,ms.map f,es (c4 ag.belts ms),rfl,iI.same cC,SqL.of B0,by simp[es],by rw[QM];exact Zai,by omega,by simp;omega,kj,by omega,λr c5 bV cS n_ du hr6' gA lT=>?_⟩;obtain⟨b_,cO⟩:=q bV cS gA lT;have mZ:=i2.trans du;have iP:=(Aj (rX gA)).2.2;have Qr:bV.length≤1000:=by omega
  have iD:=mZ _ _ hd;have h4:(bV.map λw:Nat=>V.int w)=(bV.map λw:Nat=>(w:Int)).map V.int:=by rw[Rt];rfl
  rw[h4] at hr6';have Kg:=SqL.of (K:=K) hr6';have pf:=(bJ.trans (B1.trans du)) _ _ hI;have Kh:=SqL.of (K:=K) pf;walk_at "rds";refine⟨.ref d,rfl,d,_,ms.map f,rfl,.inl iD,Ao f ms,?_⟩;have lr:((bV.map λw:Nat=>(w:Int)).map V.int).length=bV.length:=by simp
  generalize (ms.map f).sum=qF at*
  by_cases cL:(bV.length:Int)<qF
  ·have Ki:(((bV.map λw:Nat=>(w:Int)).map V.int).length:Int)<qF:=by rw[lr];exact cL
   walk_at "rds";exact b_ cL _ mZ
  ·have Ki:¬(((bV.map λw:Nat=>(w:Int)).map V.int).length:Int)<qF:=by rw[lr];exact cL
   walk_at "rds";have Kj:=ZjU (rX gA);refine Yg (d9 Kg) (dj (by rw[lr];omega)) (λ_=>true) (λi=> .int (ms.getD (bV.getD i 0) 0)) (λi ae c2 hi bS k=>?_) (λi ae c2 hi _ bS k=>?_) (λh0 dh hd2' bS kI=>?_)
   ·walk_at "rds";exact k ae (Ze.refl ae)
   ·have ce:i<bV.length:=by rw[lr] at hi;exact hi
    have cU:((bV.map λw:Nat=>(w:Int)).map V.int).getD i .non=V.int (bV[i]:Nat):=by simp[List.getD,ce]
    have m0:bV.getD i 0=bV[i]:=by simp[List.getD,ce]
    rw[cU];rw[m0] at k;have hw:=Kj bV[i] (QO ce);rw[QM] at hw;generalize bV[i]=w at*;have dU:atI (ms.map V.int) (w:Int)=some (.int (ms.getD w 0)):=gj (by simp[List.getD,hw]);have f9:=bS.seq Kh;walk_at "rds";exact k ae (Ze.refl ae)
   ·have jl:((List.range ((bV.map λw:Nat=>(w:Int)).map V.int).length).filter λ_=>true).map (λi=>V.int (ms.getD (bV.getD i 0) 0))=bV.map λw=>V.int (ms.getD w 0):=by
     rw[Ra.mpr λ_ _=>rfl,lr];refine GM (by simp) λi ap a'=>?_;have bU:i<bV.length:=by simpa using ap
     simp[List.getD,bU]
    rw[jl] at kI;exact cO cL h0 dh (ev mZ hd2') (mZ.trans bS) kI
end
def Kk{K:Frag}{mg:Str→Option Value}(T:Tp K mg):Sp:=λvs H Q E=>∃(p d e:Addr)(ag:HM)(fp:List Addr)(f:Int→Int)(ms:List Int)(kv:List (Key×V))(pl:Int→Nat),vs=[.ref p,.ref d,.ref e]∧c8 T H p ag fp∧ag.belts.length≤60∧Rd H d (.dK (turnsK f ms))∧H e=some (.dK kv)∧(∀b∈ag.belts,valV kv (Sum.inl b.giver)=some (V.int (pl b.giver))∧valV kv (Sum.inl b.taker)=some (V.int (pl b.taker)))∧(∀b∈ag.belts,IntMulOk b.give (tvJ f ms b.giver)∧IntMulOk b.take (tvJ f ms b.taker))∧
 ∀(r:Addr)(ae:Hp)(bs:List V),H r=none→Ze H ae→ae r=some (.lst bs)→d5 ae bs (kC f ms pl ag.belts)→Q (.ref r) ae
section
variable {P:Program}{w:World}{K:Frag}{mg:Str→Option Value}{base:Heap}
theorem Kl(T:Tp K mg):OkN P w base 2 T.a6 (Kk T):=by
 have eU:=T.a;have eV:=T.e;refine T.a6.F.okX pT (λvs H Q E h=>?_) (λcv A outer s H vs Q E bn h=>?_)
 ·obtain⟨p,d,e,ag,fp,f,ms,kv,pl,rfl,_⟩:=h
  rfl
 ·have hu:=bn.hu;obtain⟨p,d,e,ag,fp,f,ms,kv,pl,rfl,bR,jX,hd,bH,fx,Km,q⟩:=h;refine⟨_,(bN (cy (i:=3) pT.nd rfl (Or.inl rfl) (gF bA))
     (bN (d8 PassesOwn.leaving rfl (d_ (K:=K) rfl (iU (pv 0) T.a T.Y (oe T) bn cF)) (cK (i:=4) pT.nd rfl (Or.inl rfl)) (bZ (dW (PW.pt (kZ (dw (pA hu) (cp (ixk K) (pv 4) b5 (λ_ _=>rfl)) (pv 1) (by with_unfolding_all rfl)) (kY (dw (pA hu) (cp (ixk K) (pv 4) b5 (λ_ _=>rfl)) (pv 1) (by with_unfolding_all rfl))))) (bN (cy (i:=5) pT.nd rfl (Or.inl rfl) (cI gI (cp (ixk K) (pv 4) b5 (λ_ _=>rfl)) (y' hu (pv 1) (cp (ixk K) (pv 4) b5 (λ_ _=>rfl)) b5 ⟨by rfl,by rfl,by rfl,by rfl⟩)))
     (bN (cy (i:=6) pT.nd rfl (Or.inl rfl) (cI gI (cp (ixk K) (pv 4) b5 (λ_ _=>rfl)) (y' hu (pv 1) (cp (ixk K) (pv 4) b5 (λ_ _=>rfl)) b5 ⟨by rfl,by rfl,by rfl,by rfl⟩)))
     (bZ (eB (f4 (K:=K) rfl Q1 GT fm ha (pv 3) (bt (ij (bt (cp (mw hu) (pv 2) (cp (ixk K) (pv 4) b5 (λ_ _=>rfl)) (λ_ _=>rfl)) (bt (cp (mw hu) (pv 2) (cp (ixk K) (pv 4) b5 (λ_ _=>rfl)) (λ_ _=>rfl)) (bt (pv 5) (bt (pv 6) (bt (cp (ixk K) (pv 4) b5 (λ_ _=>rfl)) bA)))))) bA)))))) d4)))
     (bZ (c3 (pv 3))))),?_⟩
  try dsimp only[L2.cxX,L2.ZL,L2.Zl]
  walk_at "rds";refine⟨Q5 _,λr fF=>?_⟩;have bJ:Ze H (upd H r (.lst [])):=cV fF;have jV:(upd H r (.lst [])) r=some (.lst []):=Zd;generalize upd H r (.lst [])=bo at*;have eW:=bR.same bJ;walk_at "rds"
  try refine V8 eW ?_
  intro bl b2 bs gq bO hbl3 gO;have vK:=gO.length;have Jk:=SqL.of (K:=K) hbl3;walk_at "rds";have fV:=bJ.trans bO;have g5:=bO _ _ jV;have qG:e≠r:=λz=>by rw[z] at bH;rw[bH] at fF;cases fF
  have qi:d≠r:=λz=>by
   rw[z] at hd;rcases hd with h|⟨o,h⟩<;>(rw[h] at fF;cases fF)
  refine Z2 (H0:=hid b2 r) (d9 (SqL.of (K:=K) (show(hid b2 r) bl=some (.lst bs) by rw[Yo (λz=>by rw[z,jV] at gq;cases gq)];exact hbl3))) (λi af ae=>Ze (hid b2 r) ae∧(∃a4 a5 a6,af=[some (.ref p),some (.ref d),some (.ref e),some (.ref r),a4,a5,a6])∧∃fG,ae r=some (.lst fG)∧d5 ae fG (kC f ms pl (ag.belts.take i))) ⟨jL,⟨_,_,_,rfl⟩,[],g5,.nil⟩ (λi af ae h=>h.1) ?_ ?_
  ·rintro i af b7 hi ⟨b9,⟨a4,a5,a6,rfl⟩,fG,e7,ej⟩;have ce:i<ag.belts.length:=by omega
   obtain⟨t,dE,b3⟩:=gO.at (QN ce);have cU:bs.getD i .non= .ref t:=by simp[List.getD,dE]
   rw[cU];have hJ:=b9 _ _ (yc g5 _ _ b3);dsimp only[B5.v] at hJ;have kR:b7 e=some (.dK kv):=b9 _ _ (by rw[Yo qG];exact fV _ _ bH);have fu:L2.Rd b7 d (.dK (turnsK f ms)):=hd.imp (λh=>b9 _ _ (by rw[Yo qi];exact fV _ _ h)) λ⟨o,h⟩=>⟨o,b9 _ _ (by rw[Yo qi];exact fV _ _ h)⟩;have lN:kC f ms pl (ag.belts.take (i+1))=kC f ms pl (ag.belts.take i)++(if inT ms ag.belts[i]=true then[] else[joB f ms pl ag.belts[i]]):=by
    unfold kC;rw[QR ce,qae,Rv]
    congr 1
    by_cases h:inT ms ag.belts[i]=true
    ·rw[if_pos h];simp[h]
    ·rw[if_neg h];simp[h]
   rw[lN];have el:fG.length≤60:=by
    have ap:=ej.length;have a':(kC f ms pl (ag.belts.take i)).length≤ag.belts.length:=by
     unfold kC;rw[QM];exact QZ (Rm _ _) (by rw[FM];omega)
    omega
   have qH:=QO ce;obtain⟨eZ,iO⟩:=fx _ qH;obtain⟨fe,fY⟩:=Km _ qH;generalize ag.belts[i]=bb at*;walk_at "rds";refine⟨d,_,rfl,.inl ⟨_,Sum.inl bb.giver,fu,rfl,rfl⟩,?_⟩;have Kn:inT ms bb=true∨inT ms bb=false:=by cases inT ms bb<;>simp
   rcases Kn with ez|ez
   ·have bF:bb.giver∈ms∧bb.taker∈ms:=by simpa[inT] using ez
    rw[Zdz,decide_eq_true bF.1,qaP,ez];walk_at "rds";refine⟨d,_,rfl,.inl ⟨_,Sum.inl bb.taker,fu,rfl,rfl⟩,?_⟩;rw[Zdz,decide_eq_true bF.2,qaP];walk_at "rds";exact⟨b9,⟨_,_,_,rfl⟩,fG,e7,by simpa using ej⟩
   have hI:(valV (turnsK f ms) (Sum.inl bb.giver)).getD (.int 1)= .int (tvJ f ms bb.giver):=by rw[Zki];unfold tvJ;split<;>rfl
   have jV:(valV (turnsK f ms) (Sum.inl bb.taker)).getD (.int 1)= .int (tvJ f ms bb.taker):=by rw[Zki];unfold tvJ;split<;>rfl
   rw[ez,if_neg (by decide)]
   by_cases bF:bb.giver∈ms
   case' pos=>
    have b3:bb.taker∉ms:=λz=>by simp[inT,bF,z] at ez
    rw[Zdz,decide_eq_true bF,qaP];walk_at "rds";refine⟨d,_,rfl,.inl ⟨_,Sum.inl bb.taker,fu,rfl,rfl⟩,?_⟩;rw[Zdz,decide_eq_false b3,Bool.not_false];walk_at "rds"
   case' neg=>
    rw[Zdz,decide_eq_false bF,Bool.not_false];walk_at "rds"
   all_goals
    refine⟨.ref d,rfl,d,rfl,.inl ⟨_,fu⟩,?_⟩;walk_at "rds";refine⟨_,.inl ⟨_,Sum.inl bb.giver,fu,rfl,rfl⟩,?_⟩;rw[hI];walk_at "rds";refine⟨.ref d,rfl,d,rfl,.inl ⟨_,fu⟩,?_⟩;walk_at "rds";refine⟨_,.inl ⟨_,Sum.inl bb.taker,fu,rfl,rfl⟩,?_⟩;rw[jV];walk_at "rds";refine⟨by show 5≤sizeLine;decide,λu gc=>?_⟩;have cC:Ze b7 (upd b7 u (.tup (joB f ms pl bb).v)):=cV gc;have v7:(upd b7 u (.tup (joB f ms pl bb).v)) u=some (.tup (joB f ms pl bb).v):=Zd
    change tNil _ (upd b7 u (.tup (joB f ms pl bb).v)) _
    generalize upd b7 u (.tup (joB f ms pl bb).v)=bY at*;have kM:=cC _ _ e7;have vh:fG.length<sizeLine:=dj (by omega);walk_at "rds";have fD:cX [r] bY (upd bY r (.lst (fG++ [V.ref u]))):=fR (by simp) kM (by intro _ z;cases z);exact⟨(b9.trans cC).new nC,⟨_,_,_,rfl⟩,_,Zd,((ej.keep λb xs e=>cC _ _ e).keep fD.tups).snoc (fD.tups _ _ v7)⟩
  ·rintro af b7 ⟨b9,⟨a4,a5,a6,rfl⟩,fG,e7,ej⟩;rw[vK,GE] at ej;walk_at "rds";refine q r b7 fG fF (λb o ao=>b9 _ _ ?_) e7 ej;rw[Yo (λz=>by rw[z,fF] at ao;cases ao)];exact fV _ _ ao
end
def Ko{K:Frag}{mg:Str→Option Value}(T:Tp K mg):Sp:=λvs H Q _=>∃(p:Addr)(ag:HM)(fp:List Addr),vs=[.ref p]∧c8 T H p ag fp∧ag.names.length≤1000∧ag.belts.length≤1000∧ZN ag.belts ag.names.length∧
 ∀(r:Addr)(ck:List Addr)(ae:Hp),H r=none→Ze H ae→ZbC ae r ck ag.names.length (e3 ag.belts)→Q (.ref r) ae
section
variable {P:Program}{w:World}{K:Frag}{mg:Str→Option Value}{base:Heap}
theorem Kq(T:Tp K mg):OkN P w base 2 T.a7 (Ko T):=by
 have eU:=T.a;have eV:=T.e;refine T.a7.F.okX rL (λvs H Q E h=>?_) (λcv A outer s H vs Q E bn h=>?_)
 ·obtain⟨p,ag,fp,rfl,_⟩:=h
  rfl
 ·have hu:=bn.hu;obtain⟨p,ag,fp,rfl,bR,bG,hz,c_,q⟩:=h;refine⟨_,(bN (t9 (j:=1) (xs:=["name"]) rfl (e2 (x:="name") (zs:=[]) (ix:=[]) (cr uJ) ["hall","ways","belt","row"] rfl rfl (by decide+kernel)) (d_ (K:=K) rfl (iU (pv 0) T.a T.aq (sj T) bn cF)) (λcl C s H fp=>⟨(cK (i:=0) (show(["name"]:List Str).Nodup by decide+kernel) rfl (Or.inl rfl)),gm,(gF bA)⟩) rL.nd rfl (Or.inl rfl))
     (bN (d8 PassesOwn.leaving rfl (my (K:=K) rfl rfl T.i (bt (iU (pv 0) T.a T.Y (oe T) bn cF) bA)) (hW (K:=K) (n:=2) rfl rfl (en (cK (i:=2) rL.nd rfl (Or.inl rfl)) (en (cK (i:=3) rL.nd rfl (Or.inl rfl)) hP))) (bN (eB (f4 (K:=K) rfl Q1 GT fm ha (cp (ixk K) (pv 1) (cp (ixk K) (pv 3) b5 (λ_ _=>rfl)) (λ_ _=>rfl)) (bt (ij (bt (cp (ixk K) (pv 3) b5 (λ_ _=>rfl)) (bt (pv 2) (bt WJ bA)))) bA)))
     (bZ (eB (f4 (K:=K) rfl Q1 GT fm ha (cp (ixk K) (pv 1) (cp (ixk K) (pv 3) b5 (λ_ _=>rfl)) (λ_ _=>rfl)) (bt (ij (bt (cp (ixk K) (pv 3) b5 (λ_ _=>rfl)) (bt (pv 2) (bt WJ bA)))) bA))))))
     (bZ (c3 (pv 1))))),?_⟩
  try dsimp only[L2.cxX,L2.ZL,L2.Zl]
  walk_at "rds";refine⟨p,ag,fp,rfl,bR,λnm ax gN bq v8=>?_⟩;walk_at "rds";refine ZhL (own:=1) (d9 (SqL.of v8)).y (dj (by rw[QM];exact bG)) (λi=>[some ((ag.names.map V.str).getD i .non)]) (λ_=>rfl) (λi dq ae v bo hg hi bS y Kr k=>?_) (λi ae c2 hi bS k=>?_) (λr bo ck bn bJ h7 ce dM kq=>?_)
  ·obtain⟨rfl,rfl⟩:=y;obtain⟨x1,rfl⟩:∃x1,dq=[x1]:=by
    match dq,Kr with
    | [x1],_=>exact⟨x1,rfl⟩
   walk_at "rds";exact k _ (Ze.refl _)
  ·exact k
  rw[QM] at ce;have kS:=bq.trans bJ;have eW:=bR.same kS;have eF:H r=none:=ev bq bn;have B2:∀x∈ck,H x=none:=λx a_=>ev bq (kq x a_).1;have B3:∀x∈ck,r≠x:=λx a_ z=>(kq x a_).2.1 z.symm;walk_at "rds";intro u b2 bs lL bO mV c1;have gq:=c1.length;have B4:∀x∈ck,u≠x:=λx a_ z=>by
   have:=(kq x a_).2.2;rw[←z,lL] at this;cases this
  walk_at "rds";refine Wc (mz (SqL.of (px (q:=u) (o:= .lst bs)))) (λk af ae=>∃(a1 a2:Option V),af=[some (.ref p),some (.ref r),a1,a2]∧Ze H ae∧ae u=some (.lst bs)∧ae r=some (.lst (ck.map V.ref))∧d5 ae bs ag.belts∧WA ae ck (jr ag.belts k)∧∀(j:Nat)(h:j<ck.length) vs,ae ck[j]=some (.lst vs)→vs.length≤2*k)
   ⟨_,_,rfl,kS.trans bO,mV,bO _ _ h7,c1,λj bw=>⟨[],bO _ _ (kq _ (QO bw)).2.2,.nil⟩,λj bw vs e=>?_⟩ ?_ ?_ ?_
  ·rw[bO _ _ (kq _ (QO bw)).2.2] at e;cases e;exact Q5 _
  ·rintro k af ae ⟨_,_,_,_,h,_⟩;exact V4 h
  ·rintro k af b7 v bY bp ⟨a1,a2,rfl,b9,qb,e7,ej,qI,hsz⟩ ⟨t,b3,rfl,rfl⟩;have fq:k<ag.belts.length:=by omega
   obtain⟨dC,g1,fS,mh⟩:=c_.at fq;obtain⟨cz,f5,jg⟩:=ej.getD fq;rw[f5];refine Rd.Vs (.of Zd) rfl ?_;have cC:Ze b7 (upd b7 t (.tup [.int k,.ref cz])):=cV b3;generalize upd b7 t (.tup [.int k,.ref cz])=bY at*;have Ks:∀j:Int,jr ag.belts (k+1) j=(jr ag.belts k j++(if(ag.belts.getD k dB).giver=j then[((ag.belts.getD k dB).taker,(k:Int),true)] else[]))++(if(ag.belts.getD k dB).taker=j then[((ag.belts.getD k dB).giver,(k:Int),false)] else[]):=λj=>by
    rw[Zgn,mI,qaZ]
   generalize ag.belts.getD k dB=b at*;have B6:=cC _ _ jg;dsimp only[B5.v] at B6;have kM:=cC _ _ e7;have v9:=qI.same cC;have ft:b.giver.toNat<ck.length:=by omega
   have dA:b.taker.toNat<ck.length:=by omega
   have Qs:=ZdW dC ft;have Qt:=ZdW fS dA;have eg:((b.giver.toNat:Nat):Int)=b.giver:=Rs dC;have dE:((b.taker.toNat:Nat):Int)=b.taker:=Rs fS;obtain⟨vs,m5,Kt⟩:=v9 b.giver.toNat ft;have v_:∀(j:Nat)(h:j<ck.length) vs,bY ck[j]=some (.lst vs)→vs.length≤2*k:=λj bw us e=>by
    obtain⟨B7,ap,_⟩:=qI j bw;have:=cC _ _ ap;rw[e] at this;cases this;exact hsz j bw _ ap
   have Qu:vs.length<sizeLine:=uQ (by have:=v_ _ ft _ m5;omega);walk_at "rds";refine⟨by show 3≤sizeLine;decide,λdr ei=>?_⟩;have du:Ze bY (upd bY dr (.tup [.int b.taker,.int k,.bl true])):=cV ei;have v1:(upd bY dr (.tup [.int b.taker,.int k,.bl true])) dr=some (.tup [.int b.taker,.int k,.bl true]):=Zd;generalize upd bY dr (.tup [.int b.taker,.int k,.bl true])=c5 at*;have B8:=du _ _ m5;walk_at "rds";have v':=(v9.same du).add dM ft B8 (Kt.keep λ_ _ e=>du _ _ e) (x:=(b.taker,(k:Int),true)) v1;have Ku:r≠ck[b.giver.toNat]:=B3 _ (QO ft);have Kv:u≠ck[b.giver.toNat]:=B4 _ (QO ft);have i3:(upd c5 ck[b.giver.toNat] (.lst (vs++ [.ref dr]))) r=some (.lst (ck.map V.ref)):=by rw[bW Ku];exact du _ _ kM
   have Kw:(upd c5 ck[b.giver.toNat] (.lst (vs++ [.ref dr]))) u=some (.lst bs):=by rw[bW Kv];exact du _ _ (cC _ _ qb)
   have kT:∀c xs,c5 c=some (.tup xs)→(upd c5 ck[b.giver.toNat] (.lst (vs++ [.ref dr]))) c=some (.tup xs):=λc xs e=>by rw[bW (fc e B8 (by intro z;cases z))];exact e
   have sD:=kT _ _ (du _ _ B6);have wb:d5 (upd c5 ck[b.giver.toNat] (.lst (vs++ [.ref dr]))) bs ag.belts:=((ej.keep λ_ _ e=>cC _ _ e).keep λ_ _ e=>du _ _ e).keep kT;have Kx:Ze H (upd c5 ck[b.giver.toNat] (.lst (vs++ [.ref dr]))):=((b9.trans cC).trans du).new (B2 _ (QO ft));have wc:∀(j:Nat)(h:j<ck.length) us,(upd c5 ck[b.giver.toNat] (.lst (vs++ [.ref dr]))) ck[j]=some (.lst us)→us.length≤2*k+1:=λj bw us e=>by
    by_cases z:j=b.giver.toNat
    ·subst z;rw[Zd] at e;cases e;have:=v_ _ ft _ m5;simp;omega
    ·have ne:ck[j]≠ck[b.giver.toNat]:=λy=>z (pW dM bw ft y);rw[bW ne] at e;obtain⟨B7,ap,_⟩:=v9 j bw;have:=du _ _ ap;rw[e] at this;cases this;have:=v_ j bw _ ap;omega
   generalize upd c5 ck[b.giver.toNat] (.lst (vs++ [.ref dr]))=dh at*;obtain⟨us,p',vf⟩:=v' b.taker.toNat dA;have Qv:us.length<sizeLine:=uQ (by have:=wc _ dA _ p';omega);walk_at "rds";refine⟨by show 3≤sizeLine;decide,λkx gx=>?_⟩;have er:Ze dh (upd dh kx (.tup [.int b.giver,.int k,.bl false])):=cV gx;have BV:(upd dh kx (.tup [.int b.giver,.int k,.bl false])) kx=some (.tup [.int b.giver,.int k,.bl false]):=Zd;generalize upd dh kx (.tup [.int b.giver,.int k,.bl false])=dL at*;have B9:=er _ _ p';walk_at "rds";have B_:=(v'.same er).add dM dA B9 (vf.keep λ_ _ e=>er _ _ e) (x:=(b.giver,(k:Int),false)) BV;have Ky:r≠ck[b.taker.toNat]:=B3 _ (QO dA);have Kz:u≠ck[b.taker.toNat]:=B4 _ (QO dA);have KA:∀c xs,dL c=some (.tup xs)→(upd dL ck[b.taker.toNat] (.lst (us++ [.ref kx]))) c=some (.tup xs):=λc xs e=>by rw[bW (fc e B9 (by intro z;cases z))];exact e
   refine⟨_,_,rfl,(Kx.trans er).new (B2 _ (QO dA)),by rw[bW Kz];exact er _ _ Kw,by rw[bW Ky];exact er _ _ i3,(wb.keep λ_ _ e=>er _ _ e).keep KA,?_,λj bw bV e=>?_⟩
   ·have KC:(λj=>(λj=>jr ag.belts k j++(if((b.giver.toNat:Nat):Int)=j then[(b.taker,(k:Int),true)] else[])) j++(if((b.taker.toNat:Nat):Int)=j then[(b.giver,(k:Int),false)] else[]))=jr ag.belts (k+1):=by
     funext j
     rw[Ks j,eg,dE]
    rw[KC] at B_;exact B_
   ·by_cases z:j=b.taker.toNat
    ·subst z;rw[Zd] at e;cases e;have:=wc _ dA _ p';simp;omega
    ·have ne:ck[j]≠ck[b.taker.toNat]:=λy=>z (pW dM bw dA y);rw[bW ne] at e;obtain⟨B7,ap,_⟩:=v' j bw;have:=er _ _ ap;rw[e] at this;cases this;have:=wc j bw _ ap;omega
  ·rintro af b7 ⟨a1,a2,rfl,b9,qb,e7,ej,qI,hsz⟩;rw[gq] at qI;walk_at "rds";exact q r ck b7 eF b9 ⟨e7,ce,dM,qI⟩
end
def KD{K:Frag}{mg:Str→Option Value}(T:Tp K mg):Sp:=λvs H Q _=>∃(r:Addr)(ck:List Addr)(n:Nat)(W:Int→List Fo.Trip)(first:Int),vs=[.ref r,.int first]∧ZbC H r ck n W∧n≤1000∧(∀a,∀t∈W a,0≤t.1∧t.1<(n:Int))∧0≤first∧first<(n:Int)∧
 ∀(d:Addr)(ae:Hp)(bL:Fo.ZP),H d=none→Ze H ae→Va ae d bL→Fo.YX W first bL→Fo.V6 W bL bL.length→Q (.ref d) ae
section
variable {P:Program}{w:World}{K:Frag}{mg:Str→Option Value}{base:Heap}
theorem KE(T:Tp K mg):OkN P w base 1 T.a8 (KD T):=by
 refine T.a8.F.okX kz (λvs H Q E h=>?_) (λcv A outer s H vs Q E bn h=>?_)
 ·obtain⟨r,ck,n,W,first,rfl,_⟩:=h
  rfl
 ·have hu:=bn.hu;obtain⟨r,ck,n,W,first,rfl,hw,bG,od,dz,f1,q⟩:=h;have ce:=hw.len;refine⟨_,(bN (cy (i:=2) kz.nd rfl (Or.inl rfl) (DZ (DX (pv 1) Vz ZlH) rfl rfl (by simp) (by decide)))
     (bN (cy (i:=3) kz.nd rfl (Or.inl rfl) (gF (bt (pv 1) bA)))
     (bN (cy (i:=4) kz.nd rfl (Or.inl rfl) b5)
     (bN (qU PassesOwn.leaving (dw oT (pv 4) (dG (fk K) (by rfl) T.f Q8 (bt (pv 3) bA)) (dF _)) (bN (cy (i:=5) kz.nd rfl (Or.inl rfl) (cp (ixk K) (pv 3) (pv 4) (λ_ _=>rfl)))
     (bN (C4 (i:=4) kz.nd rfl (Or.inl rfl) b5 xi)
     (bZ (d8 PassesOwn.leaving rfl (d_ (K:=K) rfl (cp (ixk K) (pv 0) (pv 5) (λ_ _=>rfl))) (hW (K:=K) (n:=3) rfl rfl (en (cK (i:=6) kz.nd rfl (Or.inl rfl)) (en (cK (i:=7) kz.nd rfl (Or.inl rfl)) (en (cK (i:=8) kz.nd rfl (Or.inl rfl)) hP)))) (bZ (dW (dw (pA hu) (pv 6) (pv 2) (by with_unfolding_all rfl)) (bN (hp (ij (bt (pv 5) (bt (pv 7) (bt (pv 8) bA)))) (ho (pv 2) (pv 6) (km hu)))
     (bZ (eB (f4 (K:=K) rfl Q1 GT fm ha (pv 3) (bt (pv 6) bA))))) d4)))))))
     (bZ (c3 (pv 2))))))),?_⟩
  try dsimp only[L2.cxX,L2.ZL,L2.Zl]
  walk_at "rds";intro d hd;dsimp only[q6];walk_at "rds";refine⟨Zd,[(Sum.inl first,.non)],rfl,by simp,?_⟩;have oo:(upd (upd H d (.dK [])) d (.dK (fM [] [(Sum.inl first,.non)]))) d=some (.dK [(Sum.inl first,.non)]):=Zd;have bq:Ze H (upd (upd H d (.dK [])) d (.dK (fM [] [(Sum.inl first,.non)]))):=(cV hd).new hd;generalize upd (upd H d (.dK [])) d (.dK (fM [] [(Sum.inl first,.non)]))=ax at*;walk_at "rds";refine(λc br=>?_);have bJ:Ze ax (upd ax c (.lst [V.int first])):=cV br;have qZ:(upd ax c (.lst [V.int first])) c=some (.lst ((Fo.keys [(first,none)]).map V.int)):=Zd;have hy:=bJ _ _ oo;have kK:H c=none:=ev bq br;have B':c≠d:=λz=>by rw[z,oo] at br;cases br
  generalize upd ax c (.lst [V.int first])=bo at*;have gy:=bq.trans bJ;have ei:Va bo d [(first,none)]:=⟨_,hy,.cons ⟨rfl,rfl⟩ .nil⟩;clear oo hy bq bJ br;walk_at "rds";refine Zdl (λm af ae=>∃(bL:Fo.ZP)(cS:Nat)(a1 a2 a3 a4:Option V),af=[some (.ref r),some (.int first),some (.ref d),some (.ref c),some (.int cS),a1,a2,a3,a4]∧Ze H ae∧Va ae d bL∧ae c=some (.lst ((Fo.keys bL).map V.int))∧cS≤bL.length∧Fo.YX W first bL∧Fo.V6 W bL cS∧m=n+1-cS) (n+1)
   ⟨[(first,none)],0,_,_,_,_,rfl,gy,ei,qZ,Q5 _,Fo.ZiB,λj w s bw=>absurd bw (RX _),rfl⟩ ?_
  rintro m af b2 ⟨bL,cS,a1,a2,a3,a4,rfl,bO,gx,wd,oq,bF,iZ,rfl⟩;have fq:((Fo.keys bL).map V.int).length=bL.length:=by simp[Fo.keys]
  have KG:bL.length≤n:=by
   have:=Fo.ZaV (n:=n) bF.nodup (bF.rg ⟨dz,f1⟩ od);simpa[Fo.keys] using this
  walk_at "rds";rw[fq];refine Rd.ifD (λz=>?_) (λz=>?_)
  ·have nJ:cS<bL.length:=by omega
   obtain⟨⟨w,st⟩,gl⟩:∃x,bL[cS]? =some x:=⟨bL[cS],QN nJ⟩;have KH:=Fo.Zcu gl;obtain⟨eQ,fI⟩:=bF.rg ⟨dz,f1⟩ od w KH;have h6:atI ((Fo.keys bL).map V.int) (cS:Int)=some (.int w):=gj (by rw[QX];unfold Fo.keys;rw[QX,gl];rfl);have iP:w.toNat<ck.length:=by omega
   have Qw:=ZdW eQ iP;have we:=hw.same bO;have KI:=we.at_;obtain⟨vs,Ca,m5⟩:=hw.wa w.toNat iP;rw[Rs eQ] at m5;have Qx:=bO _ _ Ca;have pP:=m5.length;refine ZeX ?_;walk_at "rds";refine⟨_,rfl,?_⟩;walk_at "rds";refine Z2 (d9 (SqL.of Ca)) (λj af ae=>∃(bL:Fo.ZP)(a2 a3 a4:Option V),af=[some (.ref r),some (.int first),some (.ref d),some (.ref c),some (.int (cS+1)),some (.int w),a2,a3,a4]∧Ze H ae∧Va ae d bL∧ae c=some (.lst ((Fo.keys bL).map V.int))∧Fo.YX W first bL∧Fo.V6 W bL cS∧bL[cS]? =some (w,st)∧∀t∈(W w).take j,t.1∈Fo.keys bL)
    ⟨bL,_,_,_,rfl,bO,gx,wd,bF,iZ,gl,by simp⟩ (λj af ae ⟨_,_,_,_,_,s,_⟩=>s) ?_ ?_
   ·rintro j af b7 bw ⟨bL,a2,a3,a4,rfl,b9,⟨kvs,fu,iJ⟩,iI,bF,iZ,gl,kd⟩;have hX:j<(W w).length:=by omega
    obtain⟨t,e5,hJ⟩:=m5.at (QN hX);have cP:vs.getD j .non= .ref t:=by simp[List.getD,e5]
    rw[cP];have jh:(W w)[j]∈W w:=QO hX;have gh:(W w).take (j+1)=(W w).take j++ [(W w)[j]]:=QR hX;have qt:=b9 _ _ hJ;have Qy:=od w _ jh;generalize (W w)[j]=x at*;obtain⟨o,b,al⟩:=x;refine Rd.Vs (.of qt) rfl ?_;dsimp only at*;have KG:bL.length≤n:=by
     have:=Fo.ZaV (n:=n) bF.nodup (bF.rg ⟨dz,f1⟩ od);simpa[Fo.keys] using this
    have lJ:kvs.length<sizeLine:=dj (by rw[iJ.length];omega);have Qz:((Fo.keys bL).map V.int).length<sizeLine:=dj (by simp[Fo.keys];omega);walk_at "rds";have hs:=iJ.some (w:=o)
    by_cases bC:o∈Fo.keys bL
    ·rw[hs.mpr bC];walk_at "rds";refine⟨bL,_,_,_,rfl,b9,⟨kvs,fu,iJ⟩,iI,bF,iZ,gl,?_⟩;rw[gh];intro t' rV;rcases Rk.mp rV with y|y
     ·exact kd t' y
     ·rw[QS.mp y];exact bC
    ·have ik:valV kvs (Sum.inl o)=none:=by
      cases e:valV kvs (Sum.inl o) with
      |none=>rfl
      |some v=>exact absurd (hs.mp (by rw[e];rfl)) bC
     rw[ik,Option.isSome_none];walk_at "rds";refine⟨by show 3≤sizeLine;decide,λdr ei=>?_⟩;have cC:Ze b7 (upd b7 dr (.tup [.int w,.int b,.bl al])):=cV ei;have KJ:(upd b7 dr (.tup [.int w,.int b,.bl al])) dr=some (.tup [.int w,.int b,.bl al]):=Zd;have h_:=cC _ _ fu;have sy:=cC _ _ iI;have KL:Ent (upd b7 dr (.tup [.int w,.int b,.bl al])) kvs bL:=iJ.keep λ_ _ e=>cC _ _ e;generalize upd b7 dr (.tup [.int w,.int b,.bl al])=bY at*;walk_at "rds";rw[Zau _ ik];have qJ:∀a xs,bY a=some (.tup xs)→(upd bY d (.dK (kvs++ [(Sum.inl o,.ref dr)]))) a=some (.tup xs):=λa xs e=>by rw[bW (fc e h_ (by intro z;cases z))];exact e
     have v0:(upd bY d (.dK (kvs++ [(Sum.inl o,.ref dr)]))) c=some (.lst ((Fo.keys bL).map V.int)):=by rw[bW B'];exact sy
     have iD:(upd bY d (.dK (kvs++ [(Sum.inl o,.ref dr)]))) d=some (.dK (kvs++ [(Sum.inl o,.ref dr)])):=Zd;have wf:=(KL.keep qJ).snoc (w:=o) (v:= .ref dr) (s:=some (w,b,al)) ⟨dr,rfl,qJ _ _ KJ⟩;have du:Ze H (upd bY d (.dK (kvs++ [(Sum.inl o,.ref dr)]))):=(b9.trans cC).new hd;generalize upd bY d (.dK (kvs++ [(Sum.inl o,.ref dr)]))=c5 at*;walk_at "rds";have Cb:=(QP.mp gl).1;refine⟨bL++ [(o,some (w,b,al))],_,_,_,rfl,du.new kK,⟨_,by rw[bW B'.symm];exact iD,wf.keep λa xs e=>by rw[bW (fc e v0 (by intro z;cases z))];exact e⟩,?_,bF.snoc gl jh bC,iZ.snoc (by omega) _ _,Fo.ZbM gl,?_⟩
     ·rw[Zd,Fo.UN,Rv];rfl
     ·rw[gh,Fo.UN];intro t' rV;rcases Rk.mp rV with y|y
      ·exact R3 _ (kd t' y)
      ·rw[QS.mp y];exact Q9 _ (QS.mpr rfl)
   ·rintro af b7 ⟨bL,a2,a3,a4,rfl,b9,hJ,iI,bF,iZ,gl,kd⟩;rw[←pP,GE] at kd;have Cb:=(QP.mp gl).1;walk_at "rds";exact⟨n+1-(cS+1),by omega,bL,cS+1,_,_,_,_,rfl,b9,hJ,iI,Cb,bF,iZ.next gl kd,rfl⟩
  ·have e:cS=bL.length:=by omega
   subst e;walk_at "rds";exact q d b2 bL hd bO gx bF iZ
end
def KN{K:Frag}{mg:Str→Option Value}(T:Tp K mg):Sp:=λvs H Q _=>∃(p:Addr)(ag:HM)(fp:List Addr),vs=[.ref p]∧c8 T H p ag fp∧ag.names.length≤60∧ag.belts.length≤1000∧ZN ag.belts ag.names.length∧
 ∀(f:Addr)(cd:List Addr)(ae:Hp)(F:List (Int×Fo.ZP)),H f=none→Ze H ae→Zkn ae f cd F→(∀d∈cd,H d=none)→Fo.W4 (e3 ag.belts) ag.names.length F ag.names.length→F.length≤ag.names.length→Q (.ref f) ae
section
variable {P:Program}{w:World}{K:Frag}{mg:Str→Option Value}{base:Heap}
theorem KO(T:Tp K mg):OkN P w base 3 T.a9 (KN T):=by
 refine T.a9.F.okX nU (λvs H Q E h=>?_) (λcv A outer s H vs Q E bn h=>?_)
 ·obtain⟨p,ag,fp,rfl,_⟩:=h
  rfl
 ·have hu:=bn.hu;obtain⟨p,ag,fp,rfl,bR,bG,hz,c_,q⟩:=h;refine⟨_,(bN (cy (i:=1) nU.nd rfl (Or.inl rfl) (c9 T.a7 (Kq T) bn cF (bt (pv 0) bA)))
     (bN (cy (i:=2) nU.nd rfl (Or.inl rfl) nt)
     (bN (cy (i:=3) nU.nd rfl (Or.inl rfl) (gF bA))
     (bN (d8 PassesOwn.leaving rfl (ih rfl T.h (bt (dG (fk K) (by rfl) T.f Q8 (bt (pv 1) bA)) bA)) (cK (i:=4) nU.nd rfl (Or.inl rfl)) (bZ (dW (dw (pA hu) (pv 4) (pv 2) (by with_unfolding_all rfl)) (bN (cy (i:=5) nU.nd rfl (Or.inl rfl) (c9 T.a8 (KE T) bn cF (bt (pv 1) (bt (pv 4) bA))))
     (bN (eB (f4 (K:=K) rfl R5 PySem.F.slot_dict_update PySem.F.type_dict_update Et (pv 2) (bt (pv 5) bA)))
     (bZ (eB (f4 (K:=K) rfl Q1 GT fm ha (pv 3) (bt (pv 5) bA)))))) d4)))
     (bZ (c3 (pv 3))))))),?_⟩
  try dsimp only[L2.cxX,L2.ZL,L2.Zl]
  walk_at "rds";refine⟨p,ag,fp,rfl,bR,by omega,hz,c_,λr ck ax bn bq jY=>?_⟩;walk_at "rds";intro gb hse;have bJ:Ze ax (upd ax gb (.dK [])):=cV hse;have ii:(upd ax gb (.dK [])) gb=some (.dK []):=Zd;have QA:H gb=none:=ev bq hse;generalize upd ax gb (.dK [])=bo at*;walk_at "rds";refine⟨Q5 _,λf bE=>?_⟩;have bO:Ze bo (upd bo f (.lst [])):=cV bE;have jW:(upd bo f (.lst [])) f=some (.lst (([]:List Addr).map V.ref)):=Zd;have KP:=bO _ _ ii;have h9:ax f=none:=ev bJ bE;have Cc:H f=none:=ev bq h9;generalize upd bo f (.lst [])=b2 at*;have lU:=bJ.trans bO;have we:=jY.same lU;have KI:=we.at_;have iP:((ck.map V.ref).length:Int)=(ag.names.length:Int):=by rw[QM,jY.len]
  walk_at "rds";rw[iP];refine WU (n:=ag.names.length) (λi af ae=>∃(kvs:List (Key×V))(cd:List Addr)(F:List (Int×Fo.ZP))(a1 a2:Option V),af=[some (.ref p),some (.ref r),some (.ref gb),some (.ref f),a1,a2]∧Ze ax ae∧ae gb=some (.dK kvs)∧ae f=some (.lst (cd.map V.ref))∧gK ae cd F∧
   (∀d∈cd,d≠gb∧H d=none)∧kvs.length≤60*i∧(∀w:Int,(valV kvs (Sum.inl w)).isSome=true↔∃x∈F,w∈Fo.keys x.2)∧Fo.W4 (e3 ag.belts) ag.names.length F i∧F.length≤i)
   ⟨[],[],[],_,_,rfl,lU,KP,jW,.nil,by simp,Q5 _,λw=>⟨λz=>(by cases z),λ⟨x,a_,_⟩=>(by cases a_)⟩,Fo.Zko,QQ _⟩ ?_ ?_
  ·rintro i af b7 hi ⟨kvs,cd,F,a1,a2,rfl,b9,sE,ot,ej,jG,fq,ez,eT,wg⟩;rw[RZ];walk_at "rds";have hs:=ez (i:Int)
   by_cases a_:∃x∈F,(i:Int)∈Fo.keys x.2
   ·rw[hs.mpr a_];walk_at "rds";exact⟨kvs,cd,F,_,_,rfl,b9,sE,ot,ej,jG,by omega,ez,eT.skip a_,by omega⟩
   ·have ik:(valV kvs (Sum.inl (i:Int))).isSome=false:=by
     cases e:(valV kvs (Sum.inl (i:Int))).isSome with
     |false=>rfl
     |true=>exact absurd (hs.mp e) a_
    rw[ik];walk_at "rds";refine⟨r,ck,ag.names.length,e3 ag.belts,(i:Int),rfl,jY.same b9,by omega,nW c_,by omega,by omega,λd bY bL kG cC qt bF iZ=>?_⟩;obtain⟨more,h_,iJ⟩:=id qt;have qh:gb≠d:=cT sE kG;have sF:=cC _ _ sE;have sG:=cC _ _ ot;have qv:=ej.same cC;have KQ:=bF.rg (n:=(ag.names.length:Int)) ⟨by omega,by omega⟩ (nW c_);have rS:bL.length≤ag.names.length:=by
     have:=Fo.ZaV (n:=ag.names.length) bF.nodup KQ;simpa[Fo.keys] using this
    have iV:more.length≤60:=by rw[iJ.length];omega
    walk_at "rds";refine⟨.inr (.inr (.inl ⟨rfl,.inl ⟨_,sF⟩⟩)),?_⟩;walk_at "rds";refine Rd.Zop qh sF h_ (RW (uQ (by omega))) ?_;have KR:=z0 more kvs;have qK:=q7 more kvs;have qJ:∀a xs,bY a=some (.tup xs)→(upd bY gb (.dK (fM kvs more))) a=some (.tup xs):=λa xs e=>by rw[bW (fc e sF (by intro z;cases z))];exact e
    have KS:(upd bY gb (.dK (fM kvs more))) gb=some (.dK (fM kvs more)):=Zd;have Cd:(upd bY gb (.dK (fM kvs more))) f=some (.lst (cd.map V.ref)):=by rw[bW (fc sG sF (by intro z;cases z))];exact sG
    have iD:Va (upd bY gb (.dK (fM kvs more))) d bL:=⟨more,by rw[bW qh.symm];exact h_,iJ.keep qJ⟩;have qL:gK (upd bY gb (.dK (fM kvs more))) cd F:=qv.keep qJ (λd' gD cf e=>by rw[bW (jG d' gD).1];exact e);have du:Ze ax (upd bY gb (.dK (fM kvs more))):=(b9.trans cC).new hse;generalize upd bY gb (.dK (fM kvs more))=c5 at*;have Ce:(cd.map V.ref).length<sizeLine:=dj (by rw[QM,ej.length];omega);walk_at "rds";have kT:∀a xs,c5 a=some (.tup xs)→(upd c5 f (.lst (cd.map V.ref++ [.ref d]))) a=some (.tup xs):=λa xs e=>by rw[bW (fc e Cd (by intro z;cases z))];exact e
    have wh:∀a cf,c5 a=some (.dK cf)→(upd c5 f (.lst (cd.map V.ref++ [.ref d]))) a=some (.dK cf):=λa cf e=>by rw[bW (fc e Cd (by intro z;cases z))];exact e
    obtain⟨KU,KW,wf⟩:=iD;refine⟨fM kvs more,cd++ [d],F++ [((i:Int),bL)],_,_,rfl,du.new h9,wh _ _ KS,by rw[Zd,Rv];rfl,(qL.keep kT λd' _ cf e=>wh _ _ e).snoc ⟨KU,wh _ _ KW,wf.keep kT⟩,λd' gD=>?_,by omega,λw=>?_,eT.grow (rO _) (nW c_) hi (λx iy bp=>a_ ⟨x,iy,bp⟩) bF iZ,by simp;omega⟩
    ·rcases Rk.mp gD with z|z
     ·exact jG d' z
     ·rw[QS.mp z];exact⟨qh.symm,ev (bq.trans b9) kG⟩
    ·rw[KR,Bool.or_eq_true,ez w,iJ.some]
     constructor
     ·rintro(⟨x,nH,iY⟩|z)
      ·exact⟨x,R3 _ nH,iY⟩
      ·exact⟨_,Q9 _ (QS.mpr rfl),z⟩
     ·rintro⟨x,nH,iY⟩;rcases Rk.mp nH with z|z
      ·exact .inl ⟨x,z,iY⟩
      ·rw[QS.mp z] at iY;exact .inr iY
  ·rintro af b7 ⟨kvs,cd,F,a1,a2,rfl,b9,sE,ot,ej,jG,fq,ez,eT,wg⟩;walk_at "rds";exact q f cd b7 F Cc (bq.trans b9) ⟨ot,ej⟩ (λd hd=>(jG d hd).2) eT wg
end
def KX{K:Frag}{mg:Str→Option Value}(T:Tp K mg):Sp:=λvs H Q _=>∃a b:Nat,vs=[.int a,.int b]∧0<b∧b<2 ^ 8000∧∀(p:Addr)(ae:Hp),H p=none→Ze H ae→ae p=some (.tup [.int (a / Nat.gcd a b:Nat),.int (b / Nat.gcd a b:Nat)])→Q (.ref p) ae
section
variable {P:Program}{w:World}{K:Frag}{mg:Str→Option Value}{base:Heap}
theorem wi(T:Tp K mg):OkN P w base 2 T.aB (KX T):=by
 refine T.aB.F.okX zX (λvs H Q E h=>?_) (λcv A outer s H vs Q E bn h=>?_)
 ·obtain⟨a,b,rfl,_⟩:=h
  rfl
 ·have hu:=bn.hu;obtain⟨a,b,rfl,eA,fy,q⟩:=h;have nY:0<Nat.gcd a b:=qaR _ eA;have ft:Nat.gcd a b<2 ^ 8000:=Rp (qaf eA (RD a b)) fy;have KY:=ZjN (a:=a) nY ft;refine⟨_,(bN (cy (i:=2) zX.nd rfl (Or.inl rfl) (c9 T.aA (vJ T) bn cF (bt (pv 0) (bt (pv 1) bA))))
     (bZ (c3 (ij (bt (cI fN (pv 0) (pv 2)) (bt (cI fN (pv 1) (pv 2)) bA)))))),?_⟩
  try dsimp only[L2.cxX,L2.ZL,L2.Zl]
  walk_at "rds";refine⟨by show 2≤sizeLine;decide,λp bz=>?_⟩;exact q p _ bz (cV bz) Zd
end
def KZ{K:Frag}{mg:Str→Option Value}(T:Tp K mg):Sp:=λvs H Q _=>∃(p q:Addr)(x y u v n m:Nat),vs=[.ref p,.ref q]∧H p=some (.tup [.int x,.int y])∧H q=some (.tup [.int u,.int v])∧0<y∧0<v∧x<2 ^ n∧y<2 ^ n∧u<2 ^ m∧v<2 ^ m∧n+m≤8000∧
 ∀(r:Addr)(ae:Hp),H r=none→Ze H ae→ae r=some (.tup [.int (x*u / Nat.gcd (x*u) (y*v):Nat),.int (y*v / Nat.gcd (x*u) (y*v):Nat)])→Q (.ref r) ae
section
variable {P:Program}{w:World}{K:Frag}{mg:Str→Option Value}{base:Heap}
theorem K0(T:Tp K mg):OkN P w base 3 T.ba (KZ T):=by
 refine T.ba.F.okX GG (λvs H Q E h=>?_) (λcv A outer s H vs Q E bn h=>?_)
 ·obtain⟨p,q,x,y,u,v,n,m,rfl,_⟩:=h
  rfl
 ·have hu:=bn.hu;obtain⟨p,q,x,y,u,v,n,m,rfl,ap,a',lw,lx,xs,ys,us,sr,nm,k⟩:=h;have fe:=ZdA xs us (by omega);have fY:=ZdA ys sr (by omega);refine⟨_,(bZ (c3 (c9 T.aB (wi T) bn cF (bt (cI gI (cp (ixk K) (pv 0) b5 (λ_ _=>rfl)) (cp (ixk K) (pv 1) b5 (λ_ _=>rfl))) (bt (cI gI (cp (ixk K) (pv 0) b5 (λ_ _=>rfl)) (cp (ixk K) (pv 1) b5 (λ_ _=>rfl))) bA))))),?_⟩
  try dsimp only[L2.cxX,L2.ZL,L2.Zl]
  walk_at "rds";exact⟨x*u,y*v,rfl,qa5 lw lx,QU (pX ys sr) (Re (by decide) nm),k⟩
end
structure ZnJ(b:B5)(cQ bT:Nat):Prop where
 g:b.give=(cQ:Int)
 t:b.take=(bT:Int)
 dC:0<cQ
 fS:0<bT
 ft:cQ<2 ^ 110
 dA:bT<2 ^ 110
def K1{K:Frag}{mg:Str→Option Value}(T:Tp K mg):Sp:=λvs H Q _=>∃(t:Addr)(b:B5)(al:Bool)(cQ bT:Nat),vs=[.ref t,.bl al]∧H t=some (.tup b.v)∧ZnJ b cQ bT∧
 ∀(p:Addr)(ae:Hp)(x y:Nat),H p=none→Ze H ae→ae p=some (.tup [.int x,.int y])→(if al=true then x=cQ / Nat.gcd cQ bT∧y=bT / Nat.gcd cQ bT else x=bT / Nat.gcd bT cQ∧y=cQ / Nat.gcd bT cQ)→Q (.ref p) ae
section
variable {P:Program}{w:World}{K:Frag}{mg:Str→Option Value}{base:Heap}
theorem K2(T:Tp K mg):OkN P w base 3 T.bb (K1 T):=by
 refine T.bb.F.okX GH (λvs H Q E h=>?_) (λcv A outer s H vs Q E bn h=>?_)
 ·obtain⟨t,b,al,cQ,bT,rfl,_⟩:=h
  rfl
 ·have hu:=bn.hu;obtain⟨t,b,al,cQ,bT,rfl,b3,sz,q⟩:=h;obtain⟨g,qF,dC,fS,ft,dA⟩:=sz;dsimp only[B5.v] at b3;rw[g,qF] at b3;have big:(2:Nat) ^ 110≤2 ^ 8000:=Re (by decide) (by decide);refine⟨_,(bZ (c3 (C1 (he (K:=K) rfl (pv 1) (λ_=>rfl)) (c9 T.aB (wi T) bn cF (bt (cp (ixk K) (pv 0) b5 (λ_ _=>rfl)) (bt (cp (ixk K) (pv 0) b5 (λ_ _=>rfl)) bA))) (c9 T.aB (wi T) bn cF (bt (cp (ixk K) (pv 0) b5 (λ_ _=>rfl)) (bt (cp (ixk K) (pv 0) b5 (λ_ _=>rfl)) bA)))))),?_⟩
  try dsimp only[L2.cxX,L2.ZL,L2.Zl]
  walk_at "rds";unfold tIf;walk_at "rds";cases al with
  |true=>
   walk_at "rds";exact⟨cQ,bT,rfl,fS,QU dA big,λp ae bz s h=>q p ae _ _ bz s h ⟨rfl,rfl⟩⟩
  |false=>
   walk_at "rds";exact⟨bT,cQ,rfl,dC,QU ft big,λp ae bz s h=>q p ae _ _ bz s h ⟨rfl,rfl⟩⟩
end
def K3{K:Frag}{mg:Str→Option Value}(T:Tp K mg):Sp:=λvs H Q _=>∃(p d:Addr)(ag:HM)(fp:List Addr)(kvs:List (Key×V))(bL:Fo.ZP)(first:Int),vs=[.ref p,.ref d]∧c8 T H p ag fp∧d∉fp∧L2.Rd H d (.dK kvs)∧Ent H kvs bL∧Fo.YX (e3 ag.belts) first bL∧bL.length≤60∧Wh ag.belts∧
 ∀(e:Addr)(o:Obj)(ae:Hp)(dV:List (Key×V))(zs:List (Int×(Nat×Nat))),H e=none→Ze (upd H d (.frz o (.dK kvs))) ae→ae e=some (.dK dV)→ShE ae dV zs→iz ag.belts bL zs bL.length→Q (.ref e) ae
section
variable {P:Program}{w:World}{K:Frag}{mg:Str→Option Value}{base:Heap}
theorem K4(T:Tp K mg):OkN P w base 6 T.bc (K3 T):=by
 have eU:=T.a;have eV:=T.e;refine T.bc.F.okX rM (λvs H Q E h=>?_) (λcv A outer s H vs Q E bn h=>?_)
 ·obtain⟨p,d,ag,fp,kvs,bL,first,rfl,_⟩:=h
  rfl
 ·have hu:=bn.hu;obtain⟨p,d,ag,fp,kvs,bL,first,rfl,bR,K5,hd,iJ,bF,rS,hsz,q⟩:=h;have fq:=iJ.length;refine⟨_,(bN (cy (i:=2) rM.nd rfl (Or.inl rfl) nt)
     (bN (d8 PassesOwn.leaving rfl (yC (pv 1)) (hW (K:=K) (n:=2) rfl rfl (en (cK (i:=3) rM.nd rfl (Or.inl rfl)) (en (cK (i:=4) rM.nd rfl (Or.inl rfl)) hP))) (bZ (dW (dw qW (pv 4) Vz (dF _)) (bZ (hp (ij (bt b5 (bt b5 bA))) (ho (pv 2) (pv 3) (km hu)))) (bZ (hp (c9 T.ba (K0 T) bn cF (bt (cp (mw hu) (pv 2) (cp (ixk K) (pv 4) b5 (λ_ _=>rfl)) (λ_ _=>rfl)) (bt (c9 T.bb (K2 T) bn cF (bt (gp (pv 0) T.a T.ar (sw T) bn cF (bt (cp (ixk K) (pv 4) b5 (λ_ _=>rfl)) bA)) (bt (cp (ixk K) (pv 4) b5 (λ_ _=>rfl)) bA))) bA))) (ho (pv 2) (pv 3) (km hu)))))))
     (bZ (c3 (pv 2))))),?_⟩
  try dsimp only[L2.cxX,L2.ZL,L2.Zl]
  walk_at "rds";intro e bH;have jy:d≠e:=λz=>Zd2 hd (by rw[z];exact bH);have bq:Ze H (upd H e (.dK [])):=cV bH;have lH:(upd H e (.dK [])) e=some (.dK []):=Zd;have oo:L2.Rd (upd H e (.dK [])) d (.dK kvs):=by
   rcases hd with h|⟨o,h⟩
   ·exact .inl (bq _ _ h)
   ·exact .inr ⟨o,bq _ _ h⟩
  generalize upd H e (.dK [])=ax at*;walk_at "rds";refine Rd.ZjJ ?_;walk_at "rds";refine⟨d,kvs,rfl,oo,λo=>?_⟩;have wj:=pY (o:=o) hd;have f8:c8 T (upd H d (.frz o (.dK kvs))) p ag fp:=bR.off wj (λx a_ z=>K5 (by rw[←QS.mp z];exact a_));have K6:Ent (upd H d (.frz o (.dK kvs))) kvs bL:=iJ.keep wj.tups;have wk:(upd H d (.frz o (.dK kvs))) e=none:=by rw[bW jy.symm];exact bH
  have bO:Ze (upd H d (.frz o (.dK kvs))) (upd ax d (.frz o (.dK kvs))):=λb x cP=>by
   by_cases z:b=d
   ·rw[z,Zd] at cP⊢;exact cP
   ·rw[bW z] at cP⊢;exact bq _ _ cP
  have lI:(upd H d (.frz o (.dK kvs))) d=some (.frz o (.dK kvs)):=Zd;have kR:(upd ax d (.frz o (.dK kvs))) e=some (.dK []):=by rw[bW jy.symm];exact lH
  have K7:=λae dV zs=>q e o ae dV zs bH;generalize upd ax d (.frz o (.dK kvs))=b7 at*;generalize upd H d (.frz o (.dK kvs))=b2 at*;clear q oo lH bq wj;refine Wc (yD lI) (λi af ae=>∃(dV:List (Key×V))(zs:List (Int×(Nat×Nat)))(a1 a2:Option V),af=[some (.ref p),some (.ref d),some (.ref e),a1,a2]∧Ze b2 ae∧ae e=some (.dK dV)∧ShE ae dV zs∧iz ag.belts bL zs i∧dV.length≤i)
   ⟨[],[],_,_,rfl,bO,kR,.nil,GX,QQ _⟩ (λi af ae ⟨_,_,_,_,_,s,_⟩=>s) ?_ ?_
  ·rintro i af bY v c5 hi ⟨dV,zs,a1,a2,rfl,cC,m6,jc,gQ,uW⟩ ⟨t,kv,ib,b3,rfl,rfl⟩;obtain⟨w,st,qM,eD,fw⟩:=Zmf K6 ib;have ce:i<bL.length:=(QP.mp qM).1;have uT:=gQ.len (RW ce);have K8:w∉zs.map (·.1):=by
    rw[gQ.keys];intro bv;obtain⟨j,bw,bI⟩:=Q4 bv;rw[qaD] at bI;have hX:j<i:=by rw[FM] at bw;omega
    have K9:j<(Fo.keys bL).length:=by rw[FM] at bw;omega
    have Cf:i<(Fo.keys bL).length:=by simp[Fo.keys];exact ce
    have hk:(Fo.keys bL)[i]=w:=by
     have:(Fo.keys bL)[i]? =some w:=by unfold Fo.keys;rw[QX,qM];rfl
     rw[QN Cf] at this;exact Q2 this
    have:=pW bF.nodup K9 Cf (bI.trans hk.symm);omega
   obtain⟨k,val⟩:=kv;dsimp only at eD fw;subst eD;refine Rd.Vs (.of Zd) rfl ?_;have hm:Ze bY (upd bY t (.tup [kV (Sum.inl w),val])):=cV b3;have du:=cC.trans hm;have Cg:=hm _ _ m6;have sH:ShE (upd bY t (.tup [kV (Sum.inl w),val])) dV zs:=jc.keep λ_ _ e=>hm _ _ e;generalize upd bY t (.tup [kV (Sum.inl w),val])=c5 at*;have wl:kV (Sum.inl w)= .int w:=rfl;rw[wl];have lJ:dV.length<sizeLine:=dj (by omega);have ik:=sH.none K8;walk_at "rds";refine⟨rfl,?_⟩;cases st with
   |none=>
    have cU:val= .non:=fw;subst cU;walk_at "rds";refine⟨by show 2≤sizeLine;decide,λdr ei=>?_⟩;have dn:Ze c5 (upd c5 dr (.tup [.int 1,.int 1])):=cV ei;have jt:(upd c5 dr (.tup [.int 1,.int 1])) dr=some (.tup [.int 1,.int 1]):=Zd;have wm:=dn _ _ Cg;have wn:ShE (upd c5 dr (.tup [.int 1,.int 1])) dV zs:=sH.keep λ_ _ e=>dn _ _ e;generalize upd c5 dr (.tup [.int 1,.int 1])=dh at*;walk_at "rds";rw[Zau _ ik];have qN:∀a xs,dh a=some (.tup xs)→(upd dh e (.dK (dV++ [(Sum.inl w,.ref dr)]))) a=some (.tup xs):=λa xs cm=>by rw[bW (fc cm wm (by intro z;cases z))];exact cm
    refine⟨_,zs++ [(w,(1,1))],_,_,rfl,(du.trans dn).new wk,Zd,(wn.keep qN).snoc (x:=(1,1)) (qN _ _ jt),gQ.more ce qM ⟨by decide,by decide,by decide⟩ ⟨?_,?_⟩ (λ_=>rfl) (λp b al z=>by cases z),by simp;omega⟩
    ·exact QU (by decide:(1:Nat)<2 ^ 1) (Re (by decide) (by omega))
    ·exact QU (by decide:(1:Nat)<2 ^ 1) (Re (by decide) (by omega))
   |some x=>
    obtain⟨sI,b,al⟩:=x;obtain⟨dr,cU,ei⟩:=fw;subst cU;have v1:=du _ _ ei;obtain⟨K_,j,QB,bw,K'⟩:=bF.steps i w sI b al qM;have eE:sI∈zs.map (·.1):=by
     rw[gQ.keys];have bp:(Fo.keys bL)[j]? =some sI:=by unfold Fo.keys;rw[QX,K'];rfl
     have:((Fo.keys bL).take i)[j]? =some sI:=by rw[List.getElem?_take,if_pos bw];exact bp
     exact Q6 this
    obtain⟨y,ty,Ch,yS,hT⟩:=sH.get eE;obtain⟨sJ,wo⟩:=RM Ch;have hX:=(QP.mp wo).1;obtain⟨lw,h3,n0⟩:=gQ.pos _ Ch;obtain⟨sK,m7⟩:=gQ.size sJ _ wo;obtain⟨bi,rR,qH⟩:=VO K_;have cP:b=(bi:Int):=by
     rw[YQ] at qH;rcases qH with⟨_,z⟩|⟨_,z⟩<;>(injection z with _ ff;injection ff)
    obtain⟨cQ,bT,dC,fS,ft,dA,eg,dE⟩:=hsz bi rR;have og:=f8.same du;have La:decide (V.ref dr=V.non)=false:=decide_eq_false (by intro z;cases z);rw[La];walk_at "rds";refine⟨p,b,ag,fp,rfl,og,λz=>absurd ⟨by omega,by omega⟩ z,λ_ _ cz B e' Lb=>?_⟩;have n5:ag.belts.getD bi dB=B:=by
     rw[cP,QT] at e';simp[List.getD,e']
    rw[n5] at eg dE;walk_at "rds";refine⟨cz,B,al,cQ,bT,rfl,Lb,⟨eg,dE,dC,fS,ft,dA⟩,λkx dh u v gx dn jt m8=>?_⟩;have bG:110*sJ+1+110≤110*i+1:=by omega
    have Lc:∃Ld G2 M,Ld=Nat.gcd M G2∧True:=⟨_,0,0,rfl,trivial⟩;have eR:∃lV fH:Nat,0<lV∧0<fH∧lV<2 ^ 110∧fH<2 ^ 110∧u=lV / Nat.gcd lV fH∧v=fH / Nat.gcd lV fH∧(∀x:Nat×Nat,x.1*y.2*fH=y.1*x.2*lV→Bal B al x y):=by
     cases al with
     |true=>
      rw[if_pos rfl] at m8;refine⟨cQ,bT,dC,fS,ft,dA,m8.1,m8.2,λx a_=>?_⟩;unfold Bal;rw[if_pos rfl,eg,dE,QT,QT];exact a_
     |false=>
      rw[if_neg (by decide)] at m8;refine⟨bT,cQ,fS,dC,dA,ft,m8.1,m8.2,λx a_=>?_⟩;unfold Bal;rw[if_neg (by decide),eg,dE,QT,QT];exact a_
    clear m8 Lc;obtain⟨lV,fH,Ci,Cj,Ck,Cm,Cn,cU,js⟩:=eR;have Le:u<2 ^ 110:=by rw[Cn];exact Rp (RF _ _) Ck
    have eY:v<2 ^ 110:=by rw[cU];exact Rp (RF _ _) Cm
    have lx:0<v:=by
     rw[cU];exact qa6 (qaf Cj (RD _ _)) (qah _ Ci)
    walk_at "rds";refine⟨ty,kx,y.1,y.2,u,v,110*sJ+1,110,rfl,dn _ _ hT,jt,h3,lx,sK,m7,Le,eY,by omega,λLf dL hJ er mP=>?_⟩;obtain⟨bz,f5,Lg,Lh⟩:=ZhH (y:=y) (u:=(u,v)) (x:=(y.1*u / Nat.gcd (y.1*u) (y.2*v),y.2*v / Nat.gcd (y.1*u) (y.2*v))) (n:=0) lw h3 Ci Cj Cn cU rfl rfl rfl;have wq:=dn.trans er;have sL:=wq _ _ Cg;have qO:ShE dL dV zs:=sH.keep λ_ _ e=>wq _ _ e;walk_at "rds";rw[Zau _ ik];have qN:∀a xs,dL a=some (.tup xs)→(upd dL e (.dK (dV++ [(Sum.inl w,.ref Lf)]))) a=some (.tup xs):=λa xs cm=>by rw[bW (fc cm sL (by intro z;cases z))];exact cm
    have Li:y.1*lV<2 ^ (110*i+1):=QU (pX sK Ck) (Re (by decide) bG);have Lj:y.2*fH<2 ^ (110*i+1):=QU (pX m7 Cm) (Re (by decide) bG);refine⟨_,zs++ [(w,(y.1*u / Nat.gcd (y.1*u) (y.2*v),y.2*v / Nat.gcd (y.1*u) (y.2*v)))],_,_,rfl,(du.trans wq).new wk,Zd,(qO.keep qN).snoc (qN _ _ mP),gQ.more ce qM bz ⟨Rp Lg Li,Rp Lh Lj⟩ (λz=>by cases z) (λf0 kb al' z=>?_),by simp;omega⟩;cases z;refine⟨sJ,y,wo,?_⟩;rw[cP,QT,n5];exact js _ f5
  ·rintro af bY ⟨dV,zs,a1,a2,rfl,cC,m6,jc,gQ,uW⟩;rw[fq] at gQ;walk_at "rds";exact K7 bY dV zs cC m6 jc gQ
end
def Lk{K:Frag}{mg:Str→Option Value}(T:Tp K mg):Sp:=λvs H Q _=>∃a b n:Nat,vs=[.int a,.int b]∧0<b∧b<2 ^ 8000∧a<2 ^ n∧n≤1000000∧Q (.int (a / Nat.gcd a b*b:Nat)) H
section
variable {P:Program}{w:World}{K:Frag}{mg:Str→Option Value}{base:Heap}
theorem Ll(T:Tp K mg):OkN P w base 2 T.bd (Lk T):=by
 refine T.bd.F.okX GI (λvs H Q E h=>?_) (λcv A outer s H vs Q E bn h=>?_)
 ·obtain⟨a,b,n,rfl,_⟩:=h
  rfl
 ·have hu:=bn.hu;obtain⟨a,b,n,rfl,eA,fy,bG,i_,q⟩:=h;have nY:0<Nat.gcd a b:=qaR _ eA;have ft:Nat.gcd a b<2 ^ 8000:=Rp (qaf eA (RD a b)) fy;have KY:=ZjN (a:=a) nY ft;have Lm:a / Nat.gcd a b<2 ^ n:=Rp (RF _ _) bG;have Ax:IntMulOk ((a:Int) / (Nat.gcd a b:Nat)) (b:Int):=ZdA (a:=a / Nat.gcd a b) Lm fy (by omega);refine⟨_,(bZ (c3 (cI gI (cI fN (pv 0) (c9 T.aA (vJ T) bn cF (bt (pv 0) (bt (pv 1) bA)))) (pv 1)))),?_⟩
  try dsimp only[L2.cxX,L2.ZL,L2.Zl]
  walk_at "rds";exact q
end
def Ln{K:Frag}{mg:Str→Option Value}(T:Tp K mg):Sp:=λvs H Q _=>∃(p f:Addr)(ag:HM)(fp cd:List Addr)(F:List (Int×Fo.ZP)),vs=[.ref p,.ref f]∧c8 T H p ag fp∧H f=some (.lst (cd.map V.ref))∧Y5 H cd F∧(∀d∈cd,d∉fp)∧(∀d∈cd,d≠f)∧Fo.W4 (e3 ag.belts) ag.names.length F ag.names.length∧ZN ag.belts ag.names.length∧ag.names.length≤60∧Wh ag.belts∧
 ∀(r:Addr)(ae:Hp)(rs:List Int),H r=none→cX cd H ae→Y5 ae cd F→ae r=some (.lst (rs.map V.int))→rs.length=ag.names.length→(∀x∈F,mK ag.belts x rs)→Q (.ref r) ae
section
variable {P:Program}{w:World}{K:Frag}{mg:Str→Option Value}{base:Heap}
theorem Lo(T:Tp K mg):OkN P w base 7 T.be (Ln T):=by
 have eU:=T.a;have eV:=T.e;refine T.be.F.okX kA (λvs H Q E h=>?_) (λcv A outer s H vs Q E bn h=>?_)
 ·obtain⟨p,f,ag,fp,cd,F,rfl,_⟩:=h
  rfl
 ·have hu:=bn.hu;obtain⟨p,f,ag,fp,cd,F,rfl,bR,bE,c1,im,oq,eT,c_,bG,hsz,q⟩:=h;have nJ:=c1.length;refine⟨_,(bN (tW (j:=2) rfl (e2 (x:="name") (zs:=[]) (ix:=[]) (cr uK) ["hall","forest","rates","tree","shares","common","share","work"] rfl rfl (by decide+kernel)) (d_ (K:=K) rfl (iU (pv 0) T.a T.aq (sj T) bn cF)) (λcl C s H fp=>⟨(cK (i:=0) (show(["name"]:List Str).Nodup by decide+kernel) rfl (Or.inl rfl)),gm,b5⟩) kA.nd rfl (Or.inl rfl))
     (bN (d8 PassesOwn.leaving rfl (d_ (K:=K) rfl (pv 1)) (cK (i:=3) kA.nd rfl (Or.inl rfl)) (bN (cy (i:=4) kA.nd rfl (Or.inl rfl) (c9 T.bc (K4 T) bn cF (bt (pv 0) (bt (pv 3) bA))))
     (bN (cy (i:=5) kA.nd rfl (Or.inl rfl) b5)
     (bN (d8 PassesOwn.leaving rfl (Ez (pv 4)) (cK (i:=6) kA.nd rfl (Or.inl rfl)) (bZ (cy (i:=5) kA.nd rfl (Or.inl rfl) (c9 T.bd (Ll T) bn cF (bt (pv 5) (bt (cp (ixk K) (pv 6) b5 (λ_ _=>rfl)) bA))))))
     (bZ (d8 PassesOwn.leaving rfl (yC (pv 4)) (hW (K:=K) (n:=2) rfl rfl (en (cK (i:=7) kA.nd rfl (Or.inl rfl)) (en (cK (i:=6) kA.nd rfl (Or.inl rfl)) hP))) (bZ (hp (cI gI (cI fN (pv 5) (cp (ixk K) (pv 6) b5 (λ_ _=>rfl))) (cp (ixk K) (pv 6) b5 (λ_ _=>rfl))) (ho (pv 2) (pv 7) ka)))))))))
     (bZ (c3 (pv 2))))),?_⟩
  try dsimp only[L2.cxX,L2.ZL,L2.Zl]
  walk_at "rds";refine⟨p,ag,fp,rfl,bR,λnm ax gN bq v8=>?_⟩;walk_at "rds";refine Yg (d9 (SqL.of v8)) (dj (by rw[QM];omega)) (λ_=>true) (λ_=> .int 1) (λi ae c2 hi bS k=>?_) (λi ae c2 hi _ bS k=>?_) (λr bo bn bJ h7=>?_)
  ·walk_at "rds";exact k ae (Ze.refl ae)
  ·walk_at "rds";exact k ae (Ze.refl ae)
  have g5:bo r=some (.lst ((List.replicate ag.names.length (1:Int)).map V.int)):=by
   rw[h7,Ra.mpr (by simp),QM];refine congrArg (λz=>some (HO.lst z)) ?_;refine GM (by simp) λi ap a'=>?_;simp
  clear h7;have kS:=bq.trans bJ;have eF:H r=none:=ev bq bn;have lM:=kS _ _ bE;have ts:∀d∈cd,r≠d:=λd hd z=>by
   obtain⟨i,hi,rfl⟩:=Q4 hd;obtain⟨x,_,kvs,a,_⟩:=Paired.get' c1 (QN hi);exact Zd2 a (by rw[←z];exact eF)
  have Lp:f≠r:=cT bE eF;walk_at "rds";refine Z2 (d9 (SqL.of (px (q:=f) (o:= .lst (cd.map V.ref))))) (λi af ae=>∃(rs:List Int)(a1 a2 a3 a4 a5:Option V),af=[some (.ref p),some (.ref f),some (.ref r),a1,a2,a3,a4,a5]∧cX cd H ae∧Y5 ae cd F∧ae f=some (.lst (cd.map V.ref))∧ae r=some (.lst (rs.map V.int))∧rs.length=ag.names.length∧∀(k:Nat) x,k<i→F[k]? =some x→mK ag.belts x rs)
   ⟨_,_,_,_,_,_,rfl,kS.frame,c1.same kS,lM,g5,by simp,λk x bp=>absurd bp (RX _)⟩ ?_ ?_ ?_
  ·rintro i af ae ⟨_,_,_,_,_,_,_,_,_,h,_⟩;exact V4 h
  ·rintro i af b2 hi ⟨rs,a1,a2,a3,a4,a5,rfl,jF,gO,jW,g5,el,fT⟩;have dy:i<cd.length:=by simpa using hi
   have hk:(cd.map V.ref).getD i .non= .ref cd[i]:=by simp[List.getD,dy]
   rw[hk];obtain⟨x,a_,kvs,hd,iJ⟩:=Paired.get' gO (QN dy);have wr:=QO dy;generalize cd[i]=d at*;obtain⟨g,uV,dC,g1⟩:=eT.tree x (Q6 a_);have ws:=g.rg ⟨dC,g1⟩ (nW c_);have rS:x.2.length≤60:=by
    have:=Fo.ZaV (n:=ag.names.length) g.nodup ws;simp[Fo.keys] at this;omega
   have f8:=bR.off jF (λy bP z=>im y z bP);walk_at "rds";refine⟨p,d,ag,fp,kvs,x.2,x.1,rfl,f8,im d wr,hd,iJ,g,rS,hsz,λe o b7 dV zs bH b9 kR jc gQ=>?_⟩;have qr:cX cd H b7:=jF.trans (((pY (o:=o) hd).mono (by intro y bP;rw[QS.mp bP];exact wr)).trans b9.frame);have ej:=(gO.frz (o:=o) hd).same b9;have ot:b7 f=some (.lst (cd.map V.ref)):=qr.keep _ _ bE (λz=>oq f z rfl);have Lq:=ts d wr;have e7:b7 r=some (.lst (rs.map V.int)):=b9 _ _ (by rw[bW Lq];exact g5);have wt:∀d'∈cd,e≠d':=λd' gD z=>by
    obtain⟨j,bw,rfl⟩:=Q4 gD;obtain⟨eJ,_,k',a,_⟩:=Paired.get' gO (QN bw);exact Zd2 a (by rw[←z];exact bH)
   have qG:r≠e:=λz=>by rw[z,bH] at g5;cases g5
   have Co:f≠e:=λz=>by rw[z,bH] at jW;cases jW
   have qB:H e=none:=by
    cases ee:H e with
    |none=>rfl
    |some ci=>
     by_cases z:e∈cd
     ·exact absurd rfl (wt e z)
     ·rw[jF.keep _ _ ee z] at bH;cases bH
   have uT:=gQ.len (QQ _);have fq:=jc.length;walk_at "rds";refine Rd.ZnZ ?_;walk_at "rds";refine⟨e,dV,rfl,.inl kR,λgs=>?_⟩;have m6:(upd b7 e (.frz gs (.dK dV))) e=some (.frz gs (.dK dV)):=Zd;have wu:∀a xs,b7 a=some (.tup xs)→(upd b7 e (.frz gs (.dK dV))) a=some (.tup xs):=(pY (o:=gs) (.inl kR)).tups;have Cp:=jc.keep wu;have kM:(upd b7 e (.frz gs (.dK dV))) r=some (.lst (rs.map V.int)):=by rw[bW qG];exact e7
   have sG:(upd b7 e (.frz gs (.dK dV))) f=some (.lst (cd.map V.ref)):=by rw[bW Co];exact ot
   have ht:cX cd H (upd b7 e (.frz gs (.dK dV))):=⟨λb y cP n=>by rw[bW (λz=>by rw[z,qB] at cP;cases cP)];exact qr.keep _ _ cP n,λb xs cP=>wu _ _ (qr.tups _ _ cP)⟩;have qv:Y5 (upd b7 e (.frz gs (.dK dV))) cd F:=by
    refine rQ ej λd' eJ gD ⟨k,a,b⟩=>⟨k,?_,b.keep wu⟩;have:=(wt d' gD).symm;rcases a with a|⟨ci,a⟩
    ·exact .inl (by rw[bW this];exact a)
    ·exact .inr ⟨ci,by rw[bW this];exact a⟩
   generalize upd b7 e (.frz gs (.dK dV))=bY at*;refine Wc (EA m6) (λk af ae=>ae=bY∧∃(C:Nat)(a4:Option V),af=[some (.ref p),some (.ref f),some (.ref r),some (.ref d),some (.ref e),some (.int C),a4,a5]∧C=lcmL (zs.take k)∧C<2 ^ (6700*k+1)) ⟨rfl,1,_,rfl,rfl,by decide⟩ (λi af ae h=>h.1▸Ze.refl bY) ?_ ?_
   ·rintro k af c5 v dh bp ⟨rfl,C,a4,rfl,lh,sM⟩ ⟨rfl,kv,ib,rfl⟩;obtain⟨y,bP,_,t,dE,b3⟩:=Paired.get' Cp ib;rw[dE];have lJ:k<zs.length:=(QP.mp bP).1;obtain⟨lw,h3,_⟩:=gQ.pos y (Q6 bP);have Lr:=(gQ.size k y bP).2;have m7:y.2.2<2 ^ 6700:=QU Lr (Re (by decide) (by omega));have Ls:zs.take (k+1)=zs.take k++ [y]:=by rw[List.take_succ,bP];rfl
    walk_at "rds";refine⟨C,y.2.2,6700*k+1,rfl,h3,QU m7 (Re (by decide) (by decide)),sM,by omega,?_⟩;rw[Zkc];refine⟨rfl,_,_,rfl,by rw[Ls,G1,lh],?_⟩;have:=z2 sM m7;have c6:6700*(k+1)+1=6700*k+1+6700:=by omega
    rw[c6];exact this
   ·rintro af c5 ⟨rfl,C,a4,rfl,lh,sM⟩;rw[fq,GE] at lh;walk_at "rds";refine Rd.ZjJ ?_;walk_at "rds";refine⟨e,dV,rfl,.inr ⟨gs,m6⟩,λgu=>?_⟩;have wm:(upd c5 e (.frz gu (.dK dV))) e=some (.frz gu (.dK dV)):=Zd;have kT:∀a xs,c5 a=some (.tup xs)→(upd c5 e (.frz gu (.dK dV))) a=some (.tup xs):=(pY (o:=gu) (.inr ⟨gs,m6⟩)).tups;have wn:=Cp.keep kT;have i3:(upd c5 e (.frz gu (.dK dV))) r=some (.lst (rs.map V.int)):=by rw[bW qG];exact kM
    have Lu:(upd c5 e (.frz gu (.dK dV))) f=some (.lst (cd.map V.ref)):=by rw[bW Co];exact sG
    have ph:cX cd H (upd c5 e (.frz gu (.dK dV))):=⟨λb y cP n=>by rw[bW (λz=>by rw[z,qB] at cP;cases cP)];exact ht.keep _ _ cP n,λb xs cP=>kT _ _ (ht.tups _ _ cP)⟩;have wb:Y5 (upd c5 e (.frz gu (.dK dV))) cd F:=by
     refine rQ qv λd' eJ gD ⟨k,a,b⟩=>⟨k,?_,b.keep kT⟩;have:=(wt d' gD).symm;rcases a with a|⟨ci,a⟩
     ·exact .inl (by rw[bW this];exact a)
     ·exact .inr ⟨ci,by rw[bW this];exact a⟩
    generalize upd c5 e (.frz gu (.dK dV))=dh at*;have lJ:zs.map (·.1)=Fo.keys x.2:=by
     have ap:=gQ.keys;have a':(Fo.keys x.2).take x.2.length=Fo.keys x.2:=RP (by simp[Fo.keys]);rw[ap,a']
    have wv:∀(j:Nat) y,zs[j]? =some y→y.1∈Fo.keys x.2:=λj y bP=>by rw[←lJ];exact Q3.mpr ⟨y,Q6 bP,rfl⟩
    have Lv:∀(j k:Nat) y z,zs[j]? =some y→zs[k]? =some z→j≠k→y.1≠z.1:=λj k y z bP hz ne ee=>by
     have nd:(zs.map (·.1)).Nodup:=by rw[lJ];exact g.nodup
     obtain⟨bw,jS⟩:=QP.mp bP;obtain⟨bp,eD⟩:=QP.mp hz;refine ne (pW nd (by simpa using bw) (by simpa using bp) ?_);rw[qav,qav,jS,eD];exact ee
    refine Wc (yD (px (q:=e) (o:= .frz gu (.dK dV)))) (λk af ae=>∃(rs':List Int)(a6 a7:Option V),af=[some (.ref p),some (.ref f),some (.ref r),some (.ref d),some (.ref e),some (.int C),a6,a7]∧cX cd H ae∧Y5 ae cd F∧ae e=some (.frz gu (.dK dV))∧ae f=some (.lst (cd.map V.ref))∧ae r=some (.lst (rs'.map V.int))∧rs'.length=ag.names.length∧ShE ae dV zs∧
     (∀(j:Nat) y,j<k→zs[j]? =some y→rs'[y.1.toNat]? =some ((C / y.2.2*y.2.1:Nat):Int))∧∀v:Int,0≤v→v∉Fo.keys x.2→rs'[v.toNat]? =rs[v.toNat]?)
     ⟨rs,_,_,rfl,ph,wb,wm,Lu,i3,el,wn,λj y bw=>absurd bw (RX _),λ_ _ _=>rfl⟩ ?_ ?_ ?_
    ·rintro k af ae ⟨_,_,_,_,_,_,h,_⟩;exact V4 h
    ·rintro k af dL v eC bp ⟨rs',a6,a7,rfl,ww,wx,sL,wy,ia,wz,qO,wA,wB⟩ ⟨t,kv,ib,b3,rfl,rfl⟩;obtain⟨y,bP,eD,ty,dE,hT⟩:=Paired.get' qO ib;obtain⟨j6,QC⟩:=kv;dsimp only at eD dE;subst eD dE;refine Rd.Vs (.of Zd) rfl ?_;have hm:Ze dL (upd dL t (.tup [kV (Sum.inl y.1),.ref ty])):=cV b3;have m3:=hm _ _ ia;have QD:=hm _ _ hT;have Cq:cX cd H (upd dL t (.tup [kV (Sum.inl y.1),.ref ty])):=ww.trans hm.frame;have Lw:=wx.same hm;have sA:=hm _ _ sL;have Lx:=hm _ _ wy;have Ly:ShE (upd dL t (.tup [kV (Sum.inl y.1),.ref ty])) dV zs:=qO.keep λ_ _ e=>hm _ _ e;generalize upd dL t (.tup [kV (Sum.inl y.1),.ref ty])=eC at*;have wl:kV (Sum.inl y.1)= .int y.1:=rfl;rw[wl];obtain⟨lw,h3,_⟩:=gQ.pos y (Q6 bP);obtain⟨Lz,LA⟩:=gQ.size k y bP;have vI:k<zs.length:=(QP.mp bP).1;have sK:y.2.1<2 ^ 6700:=QU Lz (Re (by decide) (by omega));have m7:y.2.2<2 ^ 6700:=QU LA (Re (by decide) (by omega));have Ap:=ZjN (a:=0) h3 (QU m7 (Re (by decide) (by decide)));have Ax:IntMulOk ((C:Int) / (y.2.2:Nat)) ((y.2.1:Nat):Int):=ZdA (a:=C / y.2.2) (Rp (RF _ _) sM) sK (by omega);obtain⟨eQ,fI⟩:=ws y.1 (wv k y bP);walk_at "rds";have cU:(C:Int) / ((y.2.2:Nat):Int)*((y.2.1:Nat):Int)=((C / y.2.2*y.2.1:Nat):Int):=rfl;rw[cU];have wC:∀a xs,eC a=some (.tup xs)→(upd eC r (.lst ((rs'.map V.int).set y.1.toNat (.int ((C / y.2.2*y.2.1:Nat):Int))))) a=some (.tup xs):=λa xs cm=>by rw[bW (fc cm m3 (by intro z;cases z))];exact cm
     have iP:y.1.toNat<rs'.length:=by omega
     walk_at "rds";refine⟨rs'.set y.1.toNat ((C / y.2.2*y.2.1:Nat):Int),_,_,rfl,⟨λb z cP n=>by rw[bW (λc=>by rw[c,eF] at cP;cases cP)];exact Cq.keep _ _ cP n,λb xs cP=>wC _ _ (Cq.tups _ _ cP)⟩,?_,by rw[bW qG.symm];exact sA,by rw[bW Lp];exact Lx,by rw[Zd,qal],by rw[qai];exact wz,Ly.keep wC,λj z bw hz=>?_,λv lx b8=>?_⟩
     ·refine rQ Lw λd' eJ gD ⟨k',a,b⟩=>⟨k',?_,b.keep wC⟩;have:=(ts d' gD).symm;rcases a with a|⟨ci,a⟩
      ·exact .inl (by rw[bW this];exact a)
      ·exact .inr ⟨ci,by rw[bW this];exact a⟩
     ·rcases RH.mp bw with c|c
      ·have ne:=Lv j k z y hz bP (by omega);obtain⟨hL,_⟩:=ws z.1 (wv j z hz);rw[R4 (by omega)];exact wA j z c hz
      ·subst c;rw[bP] at hz;cases hz;rw[RE iP]
     ·have ne:v≠y.1:=λc=>b8 (by rw[c];exact wv k y bP);rw[R4 (by omega)];exact wB v lx b8
    ·rintro af dL ⟨rs',a6,a7,rfl,ww,wx,sL,wy,ia,wz,qO,wA,wB⟩;refine⟨rs',_,_,_,_,_,rfl,ww,wx,wy,ia,wz,λk eJ bp iy=>?_⟩;rcases RH.mp bp with c|c
     ·obtain⟨LB,Cr,pG⟩:=fT k eJ c iy;refine⟨LB,Cr,λy bP=>?_⟩;obtain⟨g',QE,LC,LD⟩:=eT.tree eJ (Q6 iy);have r0:y.1∈Fo.keys eJ.2:=by
       have ap:=Cr.keys;have a':(Fo.keys eJ.2).take eJ.2.length=Fo.keys eJ.2:=RP (by simp[Fo.keys]);rw[a'] at ap;rw[←ap];exact Q3.mpr ⟨y,bP,rfl⟩
      rw[wB y.1 (g'.rg ⟨LC,LD⟩ (nW c_) _ r0).1 (G0 c_ eT iy a_ (by omega) _ r0)];exact pG y bP
     ·subst c;rw[a_] at iy;cases iy;refine⟨zs,gQ,λy bP=>?_⟩;obtain⟨j,bw⟩:=RM bP;rw[←lh];exact wA j y (by rw[fq];exact(QP.mp bw).1) bw
  ·rintro af b2 ⟨rs,a1,a2,a3,a4,a5,rfl,jF,gO,jW,g5,el,fT⟩;walk_at "rds";refine q r b2 rs eF jF gO g5 el (λx a_=>?_);obtain⟨k,bp⟩:=RM a_;have:=(QP.mp bp).1;exact fT k x (by rw[QM,nJ];exact this) bp
end
def LF{K:Frag}{mg:Str→Option Value}(T:Tp K mg):Sp:=λvs H Q _=>∃(p c:Addr)(ag:HM)(fp:List Addr)(g0:List Int),vs=[.ref p,.ref c]∧c8 T H p ag fp∧ag.belts.length≤1000∧SqL K H c (g0.map V.int)∧ZN ag.belts g0.length∧Wh ag.belts∧(∀c∈g0,∃k:Nat,c=(k:Int)∧k<2 ^ 420000)∧
 ∀(r:Addr)(ae:Hp),H r=none→Ze H ae→ae r=some (.lst ((ag.belts.map (mL g0)).map V.int))→Q (.ref r) ae
section
variable {P:Program}{w:World}{K:Frag}{mg:Str→Option Value}{base:Heap}
theorem LG(T:Tp K mg):OkN P w base 2 T.bf (LF T):=by
 have eU:=T.a;have eV:=T.e;refine T.bf.F.okX GJ (λvs H Q E h=>?_) (λcv A outer s H vs Q E bn h=>?_)
 ·obtain⟨p,c,ag,fp,g0,rfl,_⟩:=h
  rfl
 ·have hu:=bn.hu;obtain⟨p,rB,ag,fp,g0,rfl,bR,hz,br,c_,hsz,o3,q⟩:=h;refine⟨_,(bZ (c3 (jf rfl (e2 (x:="row") (zs:=["counts"]) (ix:=[1]) (cr UV) ["hall","counts"] rfl rfl (by decide+kernel)) (d_ (K:=K) rfl (iU (pv 0) T.a T.Y (oe T) bn cF)) (λcl C s H fp=>⟨(cK (i:=0) (show(["row","counts"]:List Str).Nodup by decide+kernel) rfl (Or.inl rfl)),gm,(cI qV (cI gI (cp (ixk K) (pv 1) (cp (ixk K) (pv 0) b5 (λ_ _=>rfl)) (λ_ _=>rfl)) (cp (ixk K) (pv 0) b5 (λ_ _=>rfl))) (cI gI (cp (ixk K) (pv 1) (cp (ixk K) (pv 0) b5 (λ_ _=>rfl)) (λ_ _=>rfl)) (cp (ixk K) (pv 0) b5 (λ_ _=>rfl))))⟩)))),?_⟩
  try dsimp only[L2.cxX,L2.ZL,L2.Zl]
  walk_at "rds";intro u ax bs lL hK gc c1;have jO:=c1.length;have ao:bs.length<sizeLine:=dj (by rw[jO];exact hz);walk_at "rds";refine Yg (d9 (SqL.of gc)) ao (λ_=>true) (λi=> .int (mL g0 (ag.belts.getD i dB))) (λi ae c2 hi bS k=>?_) (λi ae c2 hi _ bS k=>?_) (λr ae bn bS i5=>?_)
  ·walk_at "rds";exact k ae (Ze.refl ae)
  ·have ce:i<ag.belts.length:=by omega
   obtain⟨t,e5,ei⟩:=c1.getD (i:=i) ce;rw[e5];obtain⟨cj,cM,gE,hQ⟩:=c_.at ce;obtain⟨cQ,bT,dC,fS,ft,dA,eg,dE⟩:=hsz i ce;have gx:=bS _ _ ei;unfold mL at k;generalize ag.belts.getD i dB=bb at*;have Cs:∀{v:Int},0≤v→v<g0.length→g0.getD v.toNat 0∈g0:=λ{v} lx hI=>by rw[eS (by omega)];exact QO _
   obtain⟨k1,bD,jo⟩:=o3 _ (Cs cj cM);obtain⟨k2,bI,nP⟩:=o3 _ (Cs gE hQ);have fe:IntMulOk (g0.getD bb.giver.toNat 0) bb.give:=by rw[bD,eg];exact ZdA jo ft (by decide)
   have fY:IntMulOk (g0.getD bb.taker.toNat 0) bb.take:=by rw[bI,dE];exact ZdA nP dA (by decide)
   have jC:SqL K ae rB (g0.map V.int):=(hK.trans bS).seq br;have a1:=Vp cj cM;have a2:=Vp gE hQ;dsimp only[B5.v] at gx;walk_at "rds";exact k ae (Ze.refl ae)
  ·refine q r ae (ev hK bn) (hK.trans bS) ?_;rw[i5,Ra.mpr (by simp),jO];refine congrArg (λz=>some (HO.lst z)) ?_;refine GM (by simp) λi ap a'=>?_;have:i<ag.belts.length:=by simpa using ap
   simp[List.getD,this]
end
section
variable {P:Program}{w:World}{K:Frag}{mg:Str→Option Value}{base:Heap}
end
section
variable {P:Program}{w:World}{K:Frag}{mg:Str→Option Value}{base:Heap}
end
def LH{K:Frag}{mg:Str→Option Value}(T:Tp K mg):Sp:=λvs _ _ _=>∃a b c:V,vs=[a,b,c]∧False
section
variable {P:Program}{w:World}{K:Frag}{mg:Str→Option Value}{base:Heap}
theorem LI(T:Tp K mg):OkN P w base 6 T.bg (LH T):=by
 have eU:=T.a;have eV:=T.e;refine T.bg.F.okX GK (λvs H Q E h=>?_) (λcv A outer s H vs Q E bn h=>?_)
 ·obtain⟨a,b,c,rfl,_⟩:=h
  rfl
 ·have hu:=bn.hu;obtain⟨_,_,_,_,la⟩:=h;exact la.elim
end
def LJ{K:Frag}{mg:Str→Option Value}(T:Tp K mg):Sp:=λvs H Q _=>∃(p:Addr)(ag:HM)(fp:List Addr)(z:Int→Nat),vs=[.ref p]∧c8 T H p ag fp∧ag.names.length≤60∧ag.belts.length≤1000∧ZN ag.belts ag.names.length∧Wh ag.belts∧Vl ag.belts z∧
 ∀(t r:Addr)(ae:Hp)(rs:List Int)(F:List (Int×Fo.ZP)),Ze H ae→H r=none→ae t=some (.tup [.ref r,.non])→ae r=some (.lst (rs.map V.int))→rs.length=ag.names.length→Fo.W4 (e3 ag.belts) ag.names.length F ag.names.length→(∀x∈F,mK ag.belts x rs)→Q (.ref t) ae
section
variable {P:Program}{w:World}{K:Frag}{mg:Str→Option Value}{base:Heap}
theorem LK(T:Tp K mg):OkN P w base 8 T.bh (LJ T):=by
 refine T.bh.F.okX pU (λvs H Q E h=>?_) (λcv A outer s H vs Q E bn h=>?_)
 ·obtain⟨p,ag,fp,z,rfl,_⟩:=h
  rfl
 ·have hu:=bn.hu;obtain⟨p,ag,fp,z,rfl,bR,bG,hz,c_,hsz,jv,q⟩:=h;refine⟨_,(bN (cy (i:=1) pU.nd rfl (Or.inl rfl) (c9 T.a9 (KO T) bn cF (bt (pv 0) bA)))
     (bN (cy (i:=2) pU.nd rfl (Or.inl rfl) (c9 T.be (Lo T) bn cF (bt (pv 0) (bt (pv 1) bA))))
     (bN (d8 PassesOwn.leaving rfl (my (K:=K) rfl rfl T.i (bt (c9 T.bf (LG T) bn cF (bt (pv 0) (bt (pv 2) bA))) bA)) (hW (K:=K) (n:=2) rfl rfl (en (cK (i:=3) pU.nd rfl (Or.inl rfl)) (en (cK (i:=4) pU.nd rfl (Or.inl rfl)) hP))) (bZ (dW (dw (rd (K:=K) rfl hu) (pv 4) b5 (dF _)) (bZ (c3 (ij (bt Vz (bt (c9 T.bg (LI T) bn cF (bt (pv 0) (bt (pv 1) (bt (pv 3) bA)))) bA))))) d4)))
     (bZ (c3 (ij (bt (pv 2) (bt Vz bA)))))))),?_⟩
  try dsimp only[L2.cxX,L2.ZL,L2.Zl]
  walk_at "rds";refine⟨p,ag,fp,rfl,bR,bG,hz,c_,λf cd ax F Cc bq la kc eT wg=>?_⟩;have iH:=bR.same bq;have im:∀d∈cd,d∉fp:=λd hd y=>bR.dom d y (kc d hd);have oq:∀d∈cd,d≠f:=λd hd y=>by
   obtain⟨i,hi,e⟩:=Q4 hd;obtain⟨x,_,kvs,a,_⟩:=Paired.get' la.trees (QN hi);rw[e,y,la.at_] at a;cases a
  walk_at "rds";refine⟨p,f,ag,fp,cd,F,rfl,iH,la.at_,la.trees.r,im,oq,eT,c_,bG,hsz,λr bo rs eF fr2 rf h7 el fT=>?_⟩;have bJ:Ze H bo:=λb o e=>fr2.keep _ _ (bq _ _ e) (λy=>by have:=kc b y;rw[e] at this;cases this);have eW:=bR.same bJ;have so:H r=none:=ev bq eF;have qp:=Zgc c_ bG eT el fT;walk_at "rds";refine⟨p,r,ag,fp,rs,rfl,eW,hz,.of h7,by rw[el];exact c_,hsz,λc br=>(by obtain⟨k,a,_,b⟩:=qp.pos c br;exact⟨k,a,b⟩),λc b2 kK bO wd=>?_⟩;have g5:=bO _ _ h7;have LM:=bJ.trans bO;walk_at "rds";refine Wc (mz (SqL.of wd)) (λi af ae=>Ze b2 ae∧∃a1 a2,af=[some (.ref p),some (.ref f),some (.ref r),a1,a2]) ⟨Ze.refl b2,_,_,rfl⟩ (λi af ae h=>h.1) ?_ ?_
  ·rintro i af b7 v bY hi ⟨b9,a1,a2,rfl⟩ ⟨t,b3,rfl,rfl⟩;have ce:i<ag.belts.length:=by simpa using hi
   have hk:((ag.belts.map (mL rs)).map V.int).getD i .non= .int 0:=by
    have:=ZaS jv hsz c_ eT el fT ce;rw[eS ce] at this;simp[List.getD,ce,this]
   rw[hk];refine Rd.Vs (.of Zd) rfl ?_;walk_at "rds";exact⟨b9.trans (cV b3),_,_,rfl⟩
  ·rintro af b7 ⟨b9,a1,a2,rfl⟩;have e7:=b9 _ _ g5;walk_at "rds";refine⟨by show 2≤sizeLine;decide,λt b3=>?_⟩;exact q t r _ rs F ((LM.trans b9).trans (cV b3)) so Zd (cV b3 _ _ e7) el eT fT
end
def LN{K:Frag}{mg:Str→Option Value}(T:Tp K mg):Sp:=λvs H Q E=>∃(p:Addr)(ag:HM)(fp:List Addr)(z:Int→Nat),vs=[.ref p]∧c8 T H p ag fp∧ag.names.length≤60∧ag.belts.length≤1000∧ZN ag.belts ag.names.length∧Wh ag.belts∧Vl ag.belts z∧
 ∀(r:Addr)(ae:Hp)(rs:List Int),Ze H ae→H r=none→ae r=some (.lst (rs.map V.int))→Rts ag.belts ag.names.length z rs→(rs.sum≤400→Q (.ref r) ae)∧(400<rs.sum→E (.ref T.A) none ae)
section
variable {P:Program}{w:World}{K:Frag}{mg:Str→Option Value}{base:Heap}
theorem LO(T:Tp K mg):OkN P w base 9 T.bi (LN T):=by
 refine T.bi.F.okX zY (λvs H Q E h=>?_) (λcv A outer s H vs Q E bn h=>?_)
 ·obtain⟨p,ag,fp,z,rfl,_⟩:=h
  rfl
 ·have hu:=bn.hu;obtain⟨p,ag,fp,z,rfl,bR,bG,hz,c_,hsz,jv,q⟩:=h;refine⟨_,(bN (cy (i:=1) zY.nd rfl (Or.inl rfl) (cp (ixk K) (c9 T.bh (LK T) bn cF (bt (pv 0) bA)) b5 (λ_ _=>rfl)))
     (bN (dW (dw qW (pv 1) Vz (dF _)) (bZ (iS T.u.g T.u.e Rb rfl (bt YW bA))) d4)
     (bN (dW (dw ni (dG (yl (K:=K) rfl rfl) (by rfl) T.aj PyProof.Rows.boot_sum (bt (pv 1) bA)) (oI (v:= .int 400) rfl T.M ⟨_,rfl⟩) (dF _)) (bZ (iS T.I.g T.I.e Rb rfl (bt YW bA))) d4)
     (bZ (c3 (pv 1)))))),?_⟩
  try dsimp only[L2.cxX,L2.ZL,L2.Zl]
  walk_at "rds";refine⟨p,ag,fp,z,rfl,bR,bG,hz,c_,hsz,jv,λt r ae rs F bq bn b3 fF el eT fT=>?_⟩;have qp:=Zgc c_ bG eT el fT;have de:Rts ag.belts ag.names.length z rs:=⟨el,λc br=>(by obtain⟨k,a,b,_⟩:=qp.pos c br;omega),λb ao=>(by
   obtain⟨i,hi,e⟩:=Q4 ao;have:=ZaS jv hsz c_ eT el fT hi;rw[eS hi,e] at this;unfold mL at this;rw[Int.mul_comm b.give,Int.mul_comm b.take];omega),F,eT,fT⟩
  obtain⟨b_,cO⟩:=q r ae rs bq bn fF de;walk_at "rds";refine⟨rfl,?_⟩;walk_at "rds";refine Rd.ZmM (.of fF) ?_;walk_at "rds";refine V5 (λc=>?_) (λc=>?_)
  ·walk_at "rds";exact cO (by have:=of_decide_eq_true c;omega)
  ·walk_at "rds";exact b_ (by
    by_cases y:400<rs.sum
    ·exact absurd (decide_eq_true y) c
    ·omega)
end
def LP{K:Frag}{mg:Str→Option Value}(T:Tp K mg):Sp:=λvs H Q E=>∃(c d:Addr)(kept ms:List Int)(f:Int→Int)(mn:Int),vs=[.ref c,.ref d]∧SqL K H c (kept.map V.int)∧kept.Nodup∧kept.length≤100∧Rd H d (.dK (turnsK f ms))∧ms.length≤100∧mn∈ms∧(∀m∈ms,mn≤m)∧mn∈kept∧(∀m∈ms,m≠mn→m∉kept)∧
 ∀(e:Addr)(o:Obj)(ae:Hp)(kv:List (Key×V)),H e=none→Ze (upd H d (.frz o (.dK (turnsK f ms)))) ae→ae e=some (.dK kv)→(∀x,x∈kept∨x∈ms→valV kv (Sum.inl x)=some (V.int (p8 kept ms mn x)))→Q (.ref e) ae
section
variable {P:Program}{w:World}{K:Frag}{mg:Str→Option Value}{base:Heap}
theorem LQ(T:Tp K mg):OkN P w base 1 T.bj (LP T):=by
 refine T.bj.F.okX pV (λvs H Q E h=>?_) (λcv A outer s H vs Q E bn h=>?_)
 ·obtain⟨c,d,kept,ms,f,mn,rfl,_⟩:=h
  rfl
 ·have hu:=bn.hu;obtain⟨c,d,kept,ms,f,mn,rfl,br,dM,lJ,hd,mX,lq,sN,qK,QF,q⟩:=h;refine⟨_,(bN (cy (i:=2) pV.nd rfl (Or.inl rfl) nt)
     (bN (d8 PassesOwn.leaving rfl (my (K:=K) rfl rfl T.i (bt (pv 0) bA)) (hW (K:=K) (n:=2) rfl rfl (en (cK (i:=3) pV.nd rfl (Or.inl rfl)) (en (cK (i:=4) pV.nd rfl (Or.inl rfl)) hP))) (bZ (hp (pv 3) (ho (pv 2) (pv 4) (km hu)))))
     (bN (d8 PassesOwn.leaving rfl (F3 (pv 1)) (cK (i:=5) pV.nd rfl (Or.inl rfl)) (bZ (hp (cp (mw hu) (pv 2) (dG (y9 rfl) (by rfl) T.ai PyProof.Rows.boot_min (bt (pv 1) bA)) (λ_ _=>rfl)) (ho (pv 2) (pv 5) (km hu)))))
     (bZ (c3 (pv 2)))))),?_⟩
  try dsimp only[L2.cxX,L2.ZL,L2.Zl]
  walk_at "rds";intro e bH;have bq:Ze H (upd H e (.dK [])):=cV bH;have hI:(upd H e (.dK [])) e=some (.dK []):=Zd;have jy:d≠e:=λz=>by
   rw[z] at hd;rcases hd with h|⟨o,h⟩<;>(rw[h] at bH;cases bH)
  generalize upd H e (.dK [])=ax at*;have Av:=bq.seq br;walk_at "rds";refine Wc (mz br) (λi af ae=>Ze H ae∧(∃a3 a4,af=[some (.ref c),some (.ref d),some (.ref e),a3,a4,none])∧∃kv,ae e=some (.dK kv)∧kv.length≤i∧∀x∈kept.take i,valV kv (Sum.inl x)=some (V.int (idxL kept x:Nat))) ⟨bq,⟨_,_,rfl⟩,[],hI,Q5 _,by simp⟩ (λi af ae h=>h.1) ?_ ?_
  ·rintro i af bo v b2 hi ⟨bJ,⟨a3,a4,rfl⟩,kv,ko,fq,ib⟩ ⟨t,b3,rfl,rfl⟩;have ce:i<kept.length:=by rw[QM] at hi;exact hi
   have cU:(kept.map V.int).getD i .non=V.int kept[i]:=by simp[List.getD,ce]
   rw[cU];have bO:Ze bo (upd bo t (.tup [.int i,V.int kept[i]])):=cV b3;have qE:(upd bo t (.tup [.int i,V.int kept[i]])) t=some (.tup [.int i,V.int kept[i]]):=Zd;generalize upd bo t (.tup [.int i,V.int kept[i]])=b2 at*;refine Rd.Vs (.of qE) rfl ?_;have wk:=bO _ _ ko;have LR:idxL kept kept[i]=i:=by
    have ap:=(lA (QO ce)).1;have a':=ZbN (QO ce);rw[QN a'] at ap;exact(qam dM).mp (Q2 ap)
   have LS:kv.length<sizeLine:=dj (by omega);have gh:kept.take (i+1)=kept.take i++ [kept[i]]:=QR ce;rw[gh];generalize kept[i]=w at*;walk_at "rds";refine⟨(bJ.trans bO).new bH,⟨_,_,rfl⟩,_,Zd,by have:=W8 kv (Sum.inl w:Key) (V.int i);omega,λx a_=>?_⟩;rw[o6]
   by_cases ql:x=w
   ·rw[if_pos (by rw[ql]),ql,LR]
   ·rw[if_neg (λz=>ql (qay z))];rcases Rk.mp a_ with z|z
    ·exact ib x z
    ·exact absurd (QS.mp z) ql
  ·rintro af bo ⟨bJ,⟨a3,a4,rfl⟩,kv,ko,fq,ib⟩;rw[QM,GE] at ib;rw[QM] at fq;have hy:L2.Rd bo d (.dK (turnsK f ms)):=hd.imp (λh=>bJ _ _ h) λ⟨o,h⟩=>⟨o,bJ _ _ h⟩;walk_at "rds";refine⟨.ref d,rfl,d,_,rfl,hy,λo=>?_⟩;have im:(upd bo d (.frz o (.dK (turnsK f ms)))) d=some (.frz o (.dK (turnsK f ms))):=Zd;have LU:(upd bo d (.frz o (.dK (turnsK f ms)))) e=some (.dK kv):=by rw[bW jy.symm];exact ko
   have LV:∀b cx,(upd H d (.frz o (.dK (turnsK f ms)))) b=some cx→(upd bo d (.frz o (.dK (turnsK f ms)))) b=some cx:=λb cx ao=>by
    by_cases z:b=d
    ·rw[z,Zd] at ao⊢;exact ao
    ·rw[bW z] at ao⊢;exact bJ _ _ ao
   generalize upd bo d (.frz o (.dK (turnsK f ms)))=b2 at*;have sO:(turnsK f ms).length=ms.length:=by unfold turnsK;rw[QM]
   have nO:(turnsK f ms).map (·.1)=ms.map Sum.inl:=by unfold turnsK;rw[Rt];rfl
   have qD:0<(turnsK f ms).length:=by rw[sO];exact List.length_pos_of_mem lq
   refine Wc (H0:=hid b2 e) (F4 (H:=hid b2 e) (by rw[Yo jy];exact im)) (λi af ae=>Ze (hid b2 e) ae∧(∃a5,af=[some (.ref c),some (.ref d),some (.ref e),a3,a4,a5])∧∃kv,ae e=some (.dK kv)∧kv.length≤100+i∧(∀x∈kept,x∉ms→valV kv (Sum.inl x)=some (V.int (idxL kept x:Nat)))∧valV kv (Sum.inl mn)=some (V.int (idxL kept mn:Nat))∧∀x∈ms.take i,valV kv (Sum.inl x)=some (V.int (idxL kept mn:Nat))) ⟨jL,⟨_,rfl⟩,kv,LU,by omega,λx a_ _=>ib x a_,ib mn qK,by simp⟩ (λi af ae h=>h.1) ?_ ?_
   ·rintro i af b7 v bY hi ⟨b9,⟨a5,rfl⟩,sP,kR,LW,wD,wE,sQ⟩ ⟨rfl,LX,Ct,rfl⟩;have ce:i<ms.length:=by omega
    have eD:LX=(Sum.inl ms[i],V.int (f ms[i])):=by
     have:(turnsK f ms)[i]? =some (Sum.inl ms[i],V.int (f ms[i])):=by unfold turnsK;simp[ce]
     rw[this] at Ct;exact(Q2 Ct).symm
    rw[eD];have fu:L2.Rd bY d (.dK (turnsK f ms)):= .inr ⟨o,b9 _ _ (by rw[Yo jy];exact im)⟩;have gh:ms.take (i+1)=ms.take i++ [ms[i]]:=QR ce;have LY:=QO ce;rw[gh];generalize ms[i]=m at*;have LS:sP.length<sizeLine:=dj (by omega);show Vf 5 (V.int m) _ _ _;walk_at "rds";refine Rd.Zmz fu nO qD λM md LZ=>?_;obtain rfl:M=mn:=Int.le_antisymm (LZ mn lq) (sN M md);refine Rd.Zlj kR wE ?_;walk_at "rds";refine⟨b9.new nC,⟨_,rfl⟩,_,Zd,by have:=W8 sP (Sum.inl m:Key) (V.int (idxL kept M:Nat));omega,λx a_ lW=>?_,?_,λx a_=>?_⟩
    ·rw[o6,if_neg (λz=>lW (by rw[qay z];exact LY))];exact wD x a_ lW
    ·rw[o6]
     split
     ·rfl
     ·exact wE
    ·rw[o6]
     split
     ·rfl
     ·rename_i eu;rcases Rk.mp a_ with z|z
      ·exact sQ x z
      ·exact absurd (by rw[QS.mp z]) eu
   ·rintro af b7 ⟨b9,⟨a5,rfl⟩,sP,kR,LW,wD,wE,sQ⟩;rw[sO,GE] at sQ;walk_at "rds";refine q e o b7 sP bH (λb cx ao=>b9 _ _ ?_) kR λx a_=>?_
    ·have j1:b≠e:=λz=>by
      rw[z,bW jy.symm,bH] at ao;cases ao
     rw[Yo j1];exact LV b cx ao
    ·unfold p8
     by_cases lW:x∈ms
     ·rw[if_pos lW];exact sQ x lW
     ·rw[if_neg lW];exact wD x (a_.resolve_right lW) lW
end
def Cu{K:Frag}{mg:Str→Option Value}(T:Tp K mg):Sp:=λvs H Q E=>∃(p bu h g:Addr)(ag:HM)(fp:List Addr)(z:Int→Nat)(cG:List Int),vs=[.ref p,.ref h,.ref g]∧H p=some (.ins T.c bu [])∧c8 T H h ag fp∧H g=some (.lst (cG.map V.int))∧WZ ag.names.length cG∧cG.length≤30∧Vm ag.names∧ag.belts.length≤60∧ZN ag.belts ag.names.length∧Wh ag.belts∧Vl ag.belts z∧
 ∀(rs:List Int),Rts ag.belts ag.names.length z rs→(400<rs.sum→∀ae,(∀b o,H b=some o→b≠p→ae b=some o)→E (.ref T.A) none ae)∧(rs.sum≤400→
  ∀(ms:List Int),ms.Perm cG→ms.Pairwise (· ≤·)→∀(bV:List Nat)(cS:Nat→Nat),Fire.YM (iA (c4 ag.belts ms) (es (c4 ag.belts ms)) (ms.map (turnV rs ms))) (λ_=>0) bV cS→(∀w,¬f' (c4 ag.belts ms) (es (c4 ag.belts ms)) (ms.map (turnV rs ms)) cS w)→
   ((bV.length:Int)<(ms.map (turnV rs ms)).sum→∀ae,(∀b o,H b=some o→b≠p→ae b=some o)→E (.ref T.l) none ae)∧(¬(bV.length:Int)<(ms.map (turnV rs ms)).sum→∀(ae:Hp)(ad:List Addr)(mn:Int),mn∈ms→(∀m∈ms,mn≤m)→Y0 T ae p (jmOf ag rs ms mn bV) ad→(∀b o,H b=some o→b≠p→ae b=some o)→(∀x∈ad,x≠p→H x=none)→Q .non ae))
theorem ZaU{K:Frag}{mg:Str→Option Value}{T:Tp K mg}{H:Hp}{h g:Addr}{ag:HM}{fp:List Addr}{z:Int→Nat}{cG:List Int}{Q:Addr→Hp→Prop}{E:XK}(bR:c8 T H h ag fp)(bF:H g=some (.lst (cG.map V.int)))(hok:WZ ag.names.length cG)(qc:cG.length≤30)(gN:Vm ag.names)(jX:ag.belts.length≤60)(c_:ZN ag.belts ag.names.length)(hsz:Wh ag.belts)(jv:Vl ag.belts z)
  (q:∀(rs:List Int),Rts ag.belts ag.names.length z rs→(400<rs.sum→∀ae,Ze H ae→E (.ref T.A) none ae)∧(rs.sum≤400→
  ∀(ms:List Int),ms.Perm cG→ms.Pairwise (· ≤·)→∀(bV:List Nat)(cS:Nat→Nat),Fire.YM (iA (c4 ag.belts ms) (es (c4 ag.belts ms)) (ms.map (turnV rs ms))) (λ_=>0) bV cS→(∀w,¬f' (c4 ag.belts ms) (es (c4 ag.belts ms)) (ms.map (turnV rs ms)) cS w)→
   ((bV.length:Int)<(ms.map (turnV rs ms)).sum→∀ae,Ze H ae→E (.ref T.l) none ae)∧(¬(bV.length:Int)<(ms.map (turnV rs ms)).sum→∀(p:Addr)(ae:Hp)(ad:List Addr)(mn:Int),mn∈ms→(∀m∈ms,mn≤m)→Y0 T ae p (jmOf ag rs ms mn bV) ad→Ze H ae→(∀x∈ad,H x=none)→Q p ae))):
  ∀x bu,H x=none→H bu=none→bu≠x→Cu T (.ref x::([.ref h,.ref g]++ [])) (upd (upd H bu (.own x)) x (.ins T.c bu [])) (λv bo=>v= .non∧Q x bo) E:=by
 intro x bu a_ i4 ne;have bS:Ze H (upd (upd H bu (.own x)) x (.ins T.c bu [])):=λb o e=>by rw[bW (cT e a_),bW (cT e i4)];exact e
 have sn:∀y,(upd (upd H bu (.own x)) x (.ins T.c bu [])) y=none→H y=none:=λy e=>by
  cases b6:H y with
  |none=>rfl
  |some o=>rw[bS _ _ b6] at e;cases e
 refine⟨x,bu,h,g,ag,fp,z,cG,rfl,Zd,bR.same bS,bS _ _ bF,hok,qc,gN,jX,c_,hsz,jv,λrs de=>⟨λc ae k=>(q rs de).1 c ae λb o e=>k b o (bS b o e) (cT e a_),λc ms bz hs bV cS ap a'=>⟨λd ae k=>((q rs de).2 c ms bz hs bV cS ap a').1 d ae λb o e=>k b o (bS b o e) (cT e a_),λd ae ad mn fe fY bw k bE=>⟨rfl,((q rs de).2 c ms bz hs bV cS ap a').2 d x ae ad mn fe fY bw (λb o e=>k b o (bS b o e) (cT e a_)) λy bP=>?_⟩⟩⟩⟩
 by_cases e:y=x
 ·rw[e];exact a_
 ·exact sn y (bE y bP e)
section
variable {P:Program}{w:World}{K:Frag}{mg:Str→Option Value}{base:Heap}
theorem L0(T:Tp K mg):OkI P w mg base 10 T.bk (Cu T):=by
 have eU:=T.a;have eV:=T.e;have vG:=T.k;have vH:=T.w;refine T.bk.F.okX rN (λvs H Q E h=>?_) (λcv A outer s H vs Q E bn h=>?_)
 ·obtain⟨p,bu,h,g,ag,fp,z,cG,rfl,_⟩:=h
  rfl
 ·have hu:=bn.hu;obtain⟨p,bu,bB,g,ag,fp,z,cG,rfl,bz,bR,bF,hok,qc,gN,jX,c_,hsz,jv,q⟩:=h;have lQ:p∉fp:=by
   intro z;obtain⟨J3,a,b,bs,rfl,ap,a',bU,cD,fW,c'⟩:=bR;simp only[QW,Ru,or_false] at z;rcases z with rfl|rfl|rfl|rfl
   ·rw[ap] at bz
    injection bz with e
    injection e with bD bI c6
    cases c6
   ·rw[a'] at bz;cases bz
   ·rw[bU] at bz;cases bz
   ·rw[cD] at bz;cases bz
  have Jd:=gN.2.2;refine⟨_,(bN (eB (c9 T.aT (I9 T) bn cF (bt (pv 1) (bt (pv 2) bA))))
     (bN (cy (i:=3) rN.nd rfl (Or.inr rfl) (c9 T.aU (Ja T) bn cF (bt (c9 T.bi (LO T) bn cF (bt (pv 1) bA)) (bt (dG (zb (K:=K) rfl) (by rfl) T.F qaQ (bt (pv 2) bA)) bA))))
     (bN (cy (i:=4) rN.nd rfl (Or.inr rfl) (iU (pv 1) T.a T.aq (sj T) bn cF))
     (bN (cy (i:=5) rN.nd rfl (Or.inr rfl) (dG (y9 rfl) (by rfl) T.ai PyProof.Rows.boot_min (bt (pv 3) bA)))
     (bN (iT (K:=K) rfl (pv 0) (c9 T.a5 (Kc T) bn cF (bt (pv 1) (bt (pv 3) bA))) rfl)
     (bN (iT (K:=K) rfl (pv 0) (jf rfl (e2 (x:="work") (zs:=["turns","first"]) (ix:=[3,5]) (cr rE) ["self","hall","group","turns","names","first"] rfl rfl (by decide+kernel)) (ih rfl T.h (bt (dG (fk K) (by rfl) T.f Q8 (bt (pv 4) bA)) bA)) (λcl C s H fp=>⟨(cK (i:=0) (show(["work","turns","first"]:List Str).Nodup by decide+kernel) rfl (Or.inl rfl)),(nv (PW.pt (kZ (dw (gn (K:=K) rfl hu) (pv 0) (pv 2) (dF _)) (kY (dw (pA hu) (pv 0) (pv 1) (by with_unfolding_all rfl)))))),(pv 0)⟩)) rfl)
     (bN (iT (K:=K) rfl (pv 0) (f4 (K:=K) rfl Q1 qaw qax uu (eI (K:=K) rfl (pv 0) rfl) (bt (pv 5) bA)) rfl)
     (bN (iT (K:=K) rfl (pv 0) (jf rfl (e2 (x:="work") (zs:=["names"]) (ix:=[4]) (cr rE) ["self","hall","group","turns","names","first"] rfl rfl (by decide+kernel)) (d_ (K:=K) rfl (eI (K:=K) rfl (pv 0) rfl)) (λcl C s H fp=>⟨(cK (i:=0) (show(["work","names"]:List Str).Nodup by decide+kernel) rfl (Or.inl rfl)),gm,(cp (ixk K) (pv 1) (pv 0) (λ_ _=>rfl))⟩)) rfl)
     (bZ (iT (K:=K) rfl (pv 0) (c9 T.a6 (Kl T) bn cF (bt (pv 1) (bt (pv 3) (bt (c9 T.bj (LQ T) bn cF (bt (eI (K:=K) rfl (pv 0) rfl) (bt (pv 3) bA))) bA)))) rfl)))))))))),?_⟩
  try dsimp only[L2.cxX,L2.ZL,L2.Zl]
  walk_at "rds";refine⟨bB,g,ag,fp,cG,rfl,bR,.of bF,by omega,hok,?_⟩;walk_at "rds";refine⟨bB,ag,fp,z,rfl,bR,by omega,by omega,c_,hsz,jv,λr ax rs bq eF fF de=>?_⟩;refine⟨λL1=>?_,λL3=>(q rs de).1 L3 ax λb o e _=>bq b o e⟩;walk_at "rds";refine Rd.Zla (.of (bq _ _ bF)) (by omega) (λg6 ms hso eE n7=>?_);have cO:=(q rs de).2 L1 ms eE n7;have bJ:Ze ax (upd ax g6 (.lst (ms.map V.int))):=cV hso;have qf:(upd ax g6 (.lst (ms.map V.int))) g6=some (.lst (ms.map V.int)):=Zd;generalize upd ax g6 (.lst (ms.map V.int))=bo at*;have dM:ms.Nodup:=eE.nodup_iff.mpr hok.2.1;have h8:∀m∈ms,0≤m∧m<(ag.names.length:Int):=λm bv=>hok.2.2 m (eE.mem_iff.mp bv);have mW:ms≠[]:=λe=>by rw[e] at eE;exact hok.1 eE.symm.eq_nil
  have mX:ms.length≤30:=by rw[eE.length_eq];exact qc
  have el:=de.len;have jU:=de.pos;obtain⟨AO,n8⟩:=rZ jU dM mW (by rw[el];exact h8);have qd:∀x∈rs,1≤x∧x≤400:=λx a_=>⟨jU x a_,by have:=Zha (λr bn=>(by have:=jU r bn;omega)) x a_;omega⟩;walk_at "rds";refine⟨r,g6,rs,ms,rfl,.of (bJ _ _ fF),.of qf,mW,dM,by omega,by rw[el];exact h8,λx a_=>(by have:=qd x a_;omega),λd b2 kG bO lI=>?_⟩;have fV:=bq.trans (bJ.trans bO);have f8:=bR.same fV;have qx:=fV _ _ bz;have L4:∀m∈ms,turnV rs ms m≤400:=λm bv=>by
   obtain⟨ap,a',_⟩:=n8 m bv;obtain⟨bU,cD⟩:=h8 m bv;have bp:m.toNat<rs.length:=by omega
   have e:rs.getD m.toNat 0=rs[m.toNat]:=by simp[List.getD,bp]
   have:=qd _ (QO bp);omega
  have h9:∀m∈ms,1≤turnV rs ms m:=λm bv=>(n8 m bv).1;have wF:∀mn bV,jmOf ag rs ms mn bV=⟨bV.map λw=>ms.getD w 0,fU ag.names.length ms mn,idxL (fE ag.names.length ms mn) mn,(fU ag.names.length ms mn).map λw=>ag.names.getD w "",kC (turnV rs ms) ms (p8 (fE ag.names.length ms mn) ms mn) ag.belts⟩:=λ_ _=>rfl;generalize turnV rs ms=f at*;have sR:H d=none:=ev (bq.trans bJ) kG;clear kG bq bJ bO hso qf eF fF ax bo n8;walk_at "rds";refine⟨bB,ag,fp,rfl,f8,λgB b7 kL b9 sk=>?_⟩;have gP:=fV.trans b9;have iG:=bR.same gP;have fu:=b9 _ _ lI;have oi:=gP _ _ bz;have sO:(turnsK f ms).length=ms.length:=by unfold turnsK;rw[QM]
  have nO:(turnsK f ms).map (·.1)=ms.map Sum.inl:=by unfold turnsK;rw[Rt];rfl
  have qD:0<(turnsK f ms).length:=by rw[sO];exact List.length_pos_iff.mpr mW
  walk_at "rds";refine Rd.Zmz (.inl fu) nO qD λmn lq sN=>?_;walk_at "rds";refine⟨bB,d,ag,fp,f,ms,rfl,iG,gN,jX,fu,dM,mX,h8,h9,by omega,λbV cS gA lT=>?_⟩;obtain⟨eP,l6⟩:=cO bV cS gA lT;refine⟨λcL ae cC=>eP cL ae λb o e _=>cC _ _ (gP _ _ e),λcL a bY qw cC Cv=>?_⟩;replace l6:=l6 cL;clear cO eP cL gA lT;have i2:=gP.trans cC;have qy:=i2 _ _ bz;have iE:p≠a:=cT oi qw;have kJ:p≠d:=cT bz sR;have Cw:p≠gB:=cT qx kL;have h_:=cC _ _ fu;have Cy:=cC _ _ sk;have L5:H a=none:=ev gP qw;show Zfa 0 _ _ _;walk_at "rds";have f1:cX [p] bY (upd bY p (.ins T.c bu [("inner_row",.ref a)])):=fR (by simp) qy (by intro _ z;cases z);have kP:cX [p] H (upd bY p (.ins T.c bu [("inner_row",.ref a)])):=i2.frame.trans f1;have m4:(upd bY p (.ins T.c bu [("inner_row",.ref a)])) p=some (.ins T.c bu [("inner_row",.ref a)]):=Zd;have wG:=f1.keep _ _ Cv (by simpa using iE.symm);have iD:=f1.keep _ _ h_ (by simpa using kJ.symm);have ou:=f1.keep _ _ Cy (by simpa using Cw.symm);generalize upd bY p (.ins T.c bu [("inner_row",.ref a)])=c5 at*;clear f1 qy Cv h_ Cy qx oi fu sk f8 iG cC b9 i2 gP fV;have L6:=SqL.of (K:=K) ou;have jP:((ag.names.map V.str).length:Int)=(ag.names.length:Int):=by simp
  walk_at "rds";refine Yg Vk (dj (by simp;omega)) (λi=>mQ ms mn i) (λi=> .int (i:Int)) (λi ae c2 hi bS k=>?_) (λi ae c2 hi _ bS k=>?_) (λb dh jx dn sD=>?_)
  ·have gD:=bS _ _ iD;rw[RZ];unfold mQ at k;walk_at "rds"
   by_cases hw:(i:Int)=mn
   ·rw[decide_eq_true hw,Bool.true_or] at k;walk_at "rds";exact k ae (Ze.refl ae)
   ·rw[decide_eq_false hw,Bool.false_or] at k;walk_at "rds";rw[Zdz];exact k ae (Ze.refl ae)
  ·rw[RZ];walk_at "rds";exact k ae (Ze.refl ae)
  have L7:((List.range (((ag.names.map V.str).length:Nat):Int).toNat).filter λi=>mQ ms mn i).map (λi:Nat=>V.int (i:Int))=(fE ag.names.length ms mn).map V.int:=by
   unfold fE fU;rw[QT,QM,Rt]
   rfl
  rw[L7] at sD;have qz:=dn _ _ m4;have iF:p≠b:=cT m4 jx;have L8:H b=none:=by
   cases e:H b with
   |none=>rfl
   |some o=>
    by_cases z:b=p
    ·exact absurd z iF.symm
    ·rw[kP.keep _ _ e (by simpa using z)] at jx;cases jx
  have fW:a≠b:=cT wG jx;walk_at "rds";have kQ:cX [p] dh (upd dh p (.ins T.c bu [("inner_row",.ref a),("kept",.ref b)])):=fR (by simp) qz (by intro _ z;cases z);have lR:cX [p] c5 (upd dh p (.ins T.c bu [("inner_row",.ref a),("kept",.ref b)])):=dn.frame.trans kQ;have om:(upd dh p (.ins T.c bu [("inner_row",.ref a),("kept",.ref b)])) p=some (.ins T.c bu [("inner_row",.ref a),("kept",.ref b)]):=Zd;have wH:=kQ.keep _ _ sD (by simpa using iF.symm);generalize upd dh p (.ins T.c bu [("inner_row",.ref a),("kept",.ref b)])=dL at*;have qA:=kP.trans lR;have qK:mn∈fE ag.names.length ms mn:=Zbq.mpr ⟨h8 mn lq,.inl rfl⟩;obtain⟨g9,oX⟩:=lA qK;clear kQ qz sD dn;walk_at "rds";refine⟨b,_,mn,_,rfl,rfl,wH,g9,oX,?_⟩;generalize ub:idxL (fE ag.names.length ms mn) mn=jn at*;walk_at "rds";have lS:cX [p] dL (upd dL p (.ins T.c bu [("inner_row",.ref a),("kept",.ref b),("joined",.int jn)])):=fR (by simp) om (by intro _ z;cases z);have sT:cX [p] c5 (upd dL p (.ins T.c bu [("inner_row",.ref a),("kept",.ref b),("joined",.int jn)])):=lR.trans lS;have on:(upd dL p (.ins T.c bu [("inner_row",.ref a),("kept",.ref b),("joined",.int jn)])) p=some (.ins T.c bu [("inner_row",.ref a),("kept",.ref b),("joined",.int jn)]):=Zd;have wI:=lS.keep _ _ wH (by simpa using iF.symm);generalize upd dL p (.ins T.c bu [("inner_row",.ref a),("kept",.ref b),("joined",.int jn)])=eC at*;have Cz:=SqL.of (K:=K) wI;have CA:=SqL.of (K:=K) (sT.keep _ _ ou (by simpa using Cw.symm));have fq:=Zeo (n:=ag.names.length) (ms:=ms) (mn:=mn);have L9:((fE ag.names.length ms mn).map V.int).length=(fU ag.names.length ms mn).length:=by unfold fE;simp
  clear lS lR om wH;walk_at "rds";refine Yg (d9 Cz) (dj (by omega)) (λ_=>true) (λi=> .str (ag.names.getD ((fU ag.names.length ms mn).getD i 0) "")) (λi ae c2 hi bS k=>?_) (λi ae c2 hi _ bS k=>?_) (λc e1 kK fP wJ=>?_)
  ·walk_at "rds";exact k ae (Ze.refl ae)
  ·have ce:i<(fU ag.names.length ms mn).length:=by omega
   have cU:((fE ag.names.length ms mn).map V.int).getD i .non=V.int ((fU ag.names.length ms mn)[i]:Nat):=by unfold fE;simp[List.getD,ce]
   have m0:(fU ag.names.length ms mn).getD i 0=(fU ag.names.length ms mn)[i]:=by simp[List.getD,ce]
   rw[cU];rw[m0] at k;have hw:=Rc.mp (Ro.mp (QO ce)).1;generalize (fU ag.names.length ms mn)[i]=w at*;have dU:atI (ag.names.map V.str) (w:Int)=some (.str (ag.names.getD w "")):=gj (by simp[List.getD,hw]);have f9:=bS.seq CA;walk_at "rds";exact k ae (Ze.refl ae)
  have jl:((List.range ((fE ag.names.length ms mn).map V.int).length).filter λ_=>true).map (λi=>V.str (ag.names.getD ((fU ag.names.length ms mn).getD i 0) ""))=((fU ag.names.length ms mn).map λw=>ag.names.getD w "").map V.str:=by
   rw[Ra.mpr λ_ _=>rfl,L9];refine GM (by simp) λi ap a'=>?_;have bU:i<(fU ag.names.length ms mn).length:=by simpa using ap
   simp[List.getD,bU]
  rw[jl] at wJ;have sB:=fP _ _ on;have ol:p≠c:=cT on kK;have CB:=kP.trans sT;have L_:H c=none:=by
   cases e:H c with
   |none=>rfl
   |some o=>
    rw[CB.keep _ _ e (by simpa using ol.symm)] at kK;cases kK
  walk_at "rds";have wK:cX [p] e1 (upd e1 p (.ins T.c bu [("inner_row",.ref a),("kept",.ref b),("joined",.int jn),("called",.ref c)])):=fR (by simp) sB (by intro _ z;cases z);have wL:cX [p] eC (upd e1 p (.ins T.c bu [("inner_row",.ref a),("kept",.ref b),("joined",.int jn),("called",.ref c)])):=fP.frame.trans wK;have L':(upd e1 p (.ins T.c bu [("inner_row",.ref a),("kept",.ref b),("joined",.int jn),("called",.ref c)])) p=some (.ins T.c bu [("inner_row",.ref a),("kept",.ref b),("joined",.int jn),("called",.ref c)]):=Zd;have CC:=wK.keep _ _ wJ (by simpa using ol.symm);generalize upd e1 p (.ins T.c bu [("inner_row",.ref a),("kept",.ref b),("joined",.int jn),("called",.ref c)])=fz at*;have wM:=wL.keep _ _ wI (by simpa using iF.symm);have wN:=sT.trans wL;have qk:=wN.keep _ _ iD (by simpa using kJ.symm);have CD:=wN.keep _ _ wG (by simpa using iE.symm);have CF:=kP.trans wN;have BM:=bR.off CF (λx a_ z=>lQ (by rw[←QS.mp z];exact a_));clear wK sB wJ fP wL sT CB on wI Cz CA kP qA m4 wG iD ou L6 jl;walk_at "rds";have CG:∀x:Int,0≤x→x<(ag.names.length:Int)→x∈fE ag.names.length ms mn∨x∈ms:=λx cw ap=>by
   by_cases z:x∈ms
   ·exact .inr z
   ·exact .inl (Zbq.mpr ⟨⟨cw,ap⟩,.inr z⟩)
  have QG:(fE ag.names.length ms mn).length=(fU ag.names.length ms mn).length:=by unfold fE;simp
  refine⟨b,d,fE ag.names.length ms mn,ms,f,mn,rfl,.of wM,Hg,by omega,.inl qk,by omega,lq,sN,qK,λm bv ne bp=>((Zbq.mp bp).2.elim ne λz=>z bv),λe o H12 kv qB kS Ma ib=>?_⟩;have fd:cX [d] fz (upd fz d (.frz o (.dK (turnsK f ms)))):=fR (by simp) qk (by intro _ z;cases z);have Ce:(upd fz d (.frz o (.dK (turnsK f ms)))) d=some (.frz o (.dK (turnsK f ms))):=Zd;have qP:cX [d] fz H12:=fd.trans kS.frame;have vx:=kS _ _ Ce;have jy:∀{x:Addr}{cx:HO},fz x=some cx→(∀kv,cx≠ .dK kv)→x≠d:=λ{x cx} ap a' z=>by
   rw[z,qk] at ap;exact a' _ (Q2 ap).symm
  have CH:=qP.keep _ _ L' (by simpa using kJ);have Mb:=qP.keep _ _ CD (by simpa using jy CD (by intro _ z;cases z));have Mc:=qP.keep _ _ wM (by simpa using jy wM (by intro _ z;cases z));have Md:=qP.keep _ _ CC (by simpa using jy CC (by intro _ z;cases z));have wO:cX [p,d] H H12:=(CF.mono (by simp)).trans (qP.mono (by simp));have Me:=bR.off wO (λx a_ z=>by
   simp only[QW,Ru,or_false] at z;rcases z with z|z
   ·exact lQ (z▸a_)
   ·exact bR.dom d (z▸a_) sR)
  have AK:∀bb∈ag.belts,IntMulOk bb.give (tvJ f ms bb.giver)∧IntMulOk bb.take (tvJ f ms bb.taker):=λbb _=>by
   have cz:∀x,IntMulOk bb.give (tvJ f ms x)∧IntMulOk bb.take (tvJ f ms x):=λx=>by
    have ap:0≤tvJ f ms x∧tvJ f ms x≤400:=by
     unfold tvJ
     split
     ·rename_i a_;have:=h9 x a_;have:=L4 x a_;omega
     ·omega
    have a':Builtin.Int.intBits (tvJ f ms x)≤64:=intBits_le_64 (by omega) (by omega);exact⟨.of_right a',.of_right a'⟩
   exact⟨(cz _).1,(cz _).2⟩
  walk_at "rds";refine⟨bB,d,e,ag,fp,f,ms,kv,p8 (fE ag.names.length ms mn) ms mn,rfl,Me,jX,.inr ⟨o,vx⟩,Ma,λbb tw=>?_,AK,λr H13 bs eF lU wP Mf=>?_⟩
  ·obtain⟨ap,a',bU,cD⟩:=c_ bb tw;exact⟨ib _ (CG _ ap a'),ib _ (CG _ bU cD)⟩
  have Mg:=lU _ _ CH;have Mh:p≠r:=cT CH eF;walk_at "rds";have qn:cX [p] H13 (upd H13 p (.ins T.c bu [("inner_row",.ref a),("kept",.ref b),("joined",.int jn),("called",.ref c),("rows",.ref r)])):=fR (by simp) Mg (by intro _ z;cases z);have sU:cX [p] H12 (upd H13 p (.ins T.c bu [("inner_row",.ref a),("kept",.ref b),("joined",.int jn),("called",.ref c),("rows",.ref r)])):=lU.frame.trans qn;have Mi:(upd H13 p (.ins T.c bu [("inner_row",.ref a),("kept",.ref b),("joined",.int jn),("called",.ref c),("rows",.ref r)])) p=some (.ins T.c bu [("inner_row",.ref a),("kept",.ref b),("joined",.int jn),("called",.ref c),("rows",.ref r)]):=Zd;have Mj:=qn.keep _ _ wP (by simpa using Mh.symm);have Ml:=Mf.keep qn.tups;have Mm:cX [p,d] H (upd H13 p (.ins T.c bu [("inner_row",.ref a),("kept",.ref b),("joined",.int jn),("called",.ref c),("rows",.ref r)])):=wO.trans (sU.mono (by simp));refine l6 _ [p,a,b,c,r] mn lq sN ⟨bu,a,b,c,r,bs,rfl,?_,by rw[wF];dsimp only;rw[Rt];exact sU.keep _ _ Mb (by simpa using iE.symm),sU.keep _ _ Mc (by simpa using iF.symm),sU.keep _ _ Md (by simpa using ol.symm),Mj,by rw[wF];exact Ml⟩ (λx cx a_ sV=>Mm.keep _ _ a_ (by
   simp only[QW,Ru,or_false];rintro(z|z)
   ·exact sV z
   ·rw[z,sR] at a_;cases a_)) (λx a_ sV=>?_)
  ·rw[wF,ub];exact Mi
  simp only[QW,Ru,or_false] at a_;rcases a_ with rfl|rfl|rfl|rfl|rfl
  ·exact absurd rfl sV
  ·exact L5
  ·exact L8
  ·exact L_
  ·cases eo:H x with
   |none=>rfl
   |some cx=>
    rw[wO.keep _ _ eo (by
     simp only[QW,Ru,or_false];rintro(z|z)
     ·exact sV z
     ·rw[z,sR] at eo;cases eo)] at eF
    cases eF
end
section
variable {P:Program}{w:World}{K:Frag}{mg:Str→Option Value}{base:Heap}
theorem ZmO(T:Tp K mg):OkN P w base 12 T.aL (GQ T):=by
 have vG:=T.k;have vH:=T.w;refine T.aL.F.okX gZ (λvs H Q E h=>?_) (λcv A outer s H vs Q E bn h=>?_)
 ·obtain⟨a,ns,rfl,_⟩:=h
  rfl
 ·have hu:=bn.hu;obtain⟨p,ns,rfl,db,d1,k⟩:=h;have x2:=T.aw;have QH:=T.t;have QI:=T.o;refine⟨_,(bN (cy (i:=1) gZ.nd rfl (Or.inl rfl) (c9 T.x0 (p_ T) bn cF (bt (pv 0) (bt b5 bA))))
     (bN (cy (i:=2) gZ.nd rfl (Or.inl rfl) (cI (hf K) b5 (cI fJ (pv 1) b5)))
     (bN (t9 (j:=3) (xs:=["_law_k"]) rfl (e2 (x:="_law_k") (zs:=["_law_script"]) (ix:=[0]) (cr uL) ["_law_script","_law_first","_law_many","_law_rates","_law_names_here","_law_belts","_law_k","_law_group","_law_due","_law_hall","_law_refused","_law_joint","e","_law_found"] rfl rfl (by decide+kernel)) (ih rfl T.h (bt (pv 2) bA)) (λcl C s H fp=>⟨(cK (i:=0) (show(["_law_k","_law_script"]:List Str).Nodup by decide+kernel) rfl (Or.inl rfl)),gm,(cI (hf K) b5 (cI fJ (c9 T.x0 (p_ T) bn Vv (bt (pv 1) (bt (cI (hf K) b5 (pv 0)) bA))) b5))⟩) gZ.nd rfl (Or.inl rfl))
     (bN (cy (i:=4) gZ.nd rfl (Or.inl rfl) (c9 T.x1 (Hs T) bn cF (bt (c9 T.x0 (p_ T) bn cF (bt (pv 0) (bt b5 bA))) (bt (pv 2) bA))))
     (bN (cy (i:=5) gZ.nd rfl (Or.inl rfl) (gF bA))
     (bN (d8 PassesOwn.leaving rfl (ih rfl T.h (bt (cI fJ (cI fN (pv 1) b5) b5) bA)) (cK (i:=6) gZ.nd rfl (Or.inl rfl)) (bZ (eB (f4 (K:=K) rfl Q1 GT fm ha (pv 5) (bt (c9 T.aQ (IW T) bn cF (bt (c9 T.x0 (p_ T) bn cF (bt (pv 0) (bt (cI (hf K) b5 (pv 6)) bA))) (bt (pv 3) (bt b5 (bt (l9 (gn (K:=K) rfl hu) (cI fJ (cI fN (pv 1) b5) b5) b5 (dF _)) bA))))) bA)))))
     (bN (cy (i:=3) gZ.nd rfl (Or.inl rfl) (c9 T.x3 (HA T) bn cF (bt (pv 3) (bt (pv 5) bA))))
     (bN (cy (i:=7) gZ.nd rfl (Or.inl rfl) (c9 T.x4 (HE T) bn cF (bt (c9 T.x0 (p_ T) bn cF (bt (pv 0) (bt b5 bA))) (bt (pv 2) bA))))
     (bN (cy (i:=8) gZ.nd rfl (Or.inl rfl) (c9 T.x7 (H1 T) bn cF (bt (pv 5) (bt (pv 3) (bt (pv 7) bA)))))
     (bN (cy (i:=9) gZ.nd rfl (Or.inl rfl) (c9 T.aP (IQ T) bn cF (bt (pv 4) (bt (pv 5) bA))))
     (bN (cy (i:=10) gZ.nd rfl (Or.inl rfl) WJ)
     (bN (cy (i:=11) gZ.nd rfl (Or.inl rfl) Vz)
     (bN (E_ (j:=12) rfl rfl rfl T.N.m (λJ hc pn kl ownT Mn=>(bZ (cy (i:=11) gZ.nd rfl (Or.inl rfl) (F7 T.bk (L0 T) bn T.ay Mn (bt (pv 9) (bt (k7 (nE (K:=K) rfl) (by rfl) T.j RA (bt (pv 7) bA)) bA)))))) (λfa=>(bZ (cy (i:=10) gZ.nd rfl (Or.inl rfl) (nc (dG (yI (K:=K) rfl) (by rfl) T.g Rq (bt (pv 12) (bt (oI (v:= .ref T.R) rfl T.S.m rfl) bA))) (nb (dG (yI (K:=K) rfl) (by rfl) T.g Rq (bt (pv 12) (bt (l0 (v:= .ty "ValueError") (by rfl) T.G (by first|rfl|decide+kernel) rfl) bA)))))))) gZ.nd rfl rfl)
     (bN (dW (dw qW (pv 8) Vz (dF _)) (bZ (c3 (pv 10))) d4)
     (bN (dW (PW.pt (kZ (he (K:=K) rfl (pv 10) (λ_=>rfl)) (kY (dw qW (pv 11) Vz (dF _))))) (bZ (c3 WJ)) d4)
     (bN (cy (i:=13) gZ.nd rfl (Or.inl rfl) (iU (pv 11) T.k T.aI (Bq T) bn cF))
     (bN (dW (PW.pt (kZ (i6 (he (K:=K) rfl (c9 T.aR (I1 T) bn cF (bt (pv 13) bA)) (λ_=>rfl))) (kY (dw (rd (K:=K) rfl hu) (pv 13) (pv 8) (dF _))))) (bZ (c3 WJ)) d4)
     (bN (eB (f4 (K:=K) rfl Q1 GT fm ha (pv 13) (bt b5 bA)))
     (bZ (c3 (nc (l9 (gn (K:=K) rfl hu) (iU (pv 11) T.k T.aI (Bq T) bn cF) (pv 8) (dF _)) (nb (l9 (gn (K:=K) rfl hu) (gp (pv 11) T.k T.aS (I4 T) bn cF (bt (gF bA) bA)) (gF bA) (dF _)))))))))))))))))))))))),?_⟩
  try dsimp only[L2.cxX,L2.ZL,L2.Zl]
  walk_at "rds";have dz:1≤1+cellX ns 0 % 6∧1+cellX ns 0 % 6≤6:=by omega
  generalize cellX ns 0=sW at*;obtain⟨m,bv⟩:∃m:Nat,1+sW % 6=(m:Int):=⟨(1+sW % 6).toNat,by omega⟩;rw[bv] at dz⊢;refine YH (own:=1) Vk.y (dj (by omega)) (λj=>[some (.int (0+(j:Int)))]) (λ_=>rfl) (λ_=>true) (λj v _=>v= .int (1+cellX ns (3+(0+(j:Int))) % 6)) (λ_ _ _ _ _ z=>z) (λj dq ae v b2 hg hi bS y fO k=>?_) (λj ae c2 hi bS k=>?_) (λkN j ae c2 hi iR hp0 jw bS k=>?_) (λju ax zs AM bq qe de=>?_)
  ·obtain⟨rfl,rfl⟩:=y;obtain⟨x1,rfl⟩:∃x1,dq=[x1]:=by
    match dq,fO with
    | [x1],_=>exact⟨x1,rfl⟩
   walk_at "rds";exact k _ (Ze.refl _)
  ·walk_at "rds";exact k ae (Ze.refl ae)
  ·have mD:=bS.seq db;have bw:j<m:=by omega
   walk_at "rds";exact k _ ae (Ze.refl ae) rfl
  rw[Ra.mpr (by simp),show((m:Nat):Int).toNat=m from rfl] at de;have ew:=Aw de;have mS:∀r∈(List.range m).map (λj:Nat=>1+cellX ns (3+(0+(j:Int))) % 6),1≤r∧r≤6:=λr bn=>by
   obtain⟨j,_,rfl⟩:=Q3.mp bn;omega
  have el:((List.range m).map (λj:Nat=>1+cellX ns (3+(0+(j:Int))) % 6)).length=m:=by simp
  generalize (List.range m).map (λj:Nat=>1+cellX ns (3+(0+(j:Int))) % 6)=rs at*;subst ew;have CI:=SqL.of (K:=K) qe;have pK:=bq.seq db;walk_at "rds";refine⟨_,m,rfl,by omega,λgB bo cE kL bJ CJ wQ dM jP _=>?_⟩;have gy:=bq.trans bJ;have mG:=gy.seq db;have wR:=bJ.seq CI;walk_at "rds";refine⟨Q5 _,λb ao=>?_⟩;have bO:Ze bo (upd bo b (.lst [])):=cV ao;have qE:(upd bo b (.lst [])) b=some (.lst []):=Zd;generalize upd bo b (.lst [])=b2 at*;walk_at "rds";refine WU (n:=(sW / 6 % 9).toNat) (λi af ae=>∃(bs:List V)(ls:List B5)(a6:Option V),af=[some (.ref p),some (.int sW),some (.int m),some (.ref ju),some (.ref gB),some (.ref b),a6,none,none,none,none,none,none,none]∧Ze bo ae∧ae b=some (.lst bs)∧d5 ae bs ls∧ls.length=i∧(∀l∈ls,Bel m l)∧Zcs ls rs) ⟨[],[],_,rfl,bO,qE,.nil,rfl,by simp,λb ao=>(by cases ao)⟩ ?_ ?_
  ·rintro i af b7 hi ⟨bs,ls,a6,rfl,b9,oj,ej,iu,ov,sX⟩;have y2:=b9.seq mG;have sY:=b9.seq wR;have gq:=ej.length;have jX:bs.length<sizeLine:=dj (by omega);walk_at "rds";refine⟨_,ju,rs,2,_,rfl,sY,by omega,by omega,mS,by omega,by omega,λu bY bb hu cC v7 hBb Mo=>?_⟩;have Mp:=cC _ _ oj;walk_at "rds";have ht:cX [b] bY (upd bY b (.lst (bs++ [.ref u]))):=fR (by simp) Mp (by intro _ z;cases z);refine⟨bs++ [.ref u],ls++ [bb],_,rfl,(b9.trans cC).new ao,Zd,((ej.keep λb xs e=>cC _ _ e).keep ht.tups).snoc (ht.tups _ _ v7),by simp[iu],λl ag=>?_,λl ag=>?_⟩
   ·rcases Rk.mp ag with z|z
    ·exact ov l z
    ·rw[QS.mp z,←el];exact hBb
   ·rcases Rk.mp ag with z|z
    ·exact sX l z
    ·rw[QS.mp z];exact Mo
  rintro af b7 ⟨bs,ls,a6,rfl,b9,oj,ej,iu,ov,sX⟩;have ss:ls.length≤8:=by omega
  have gP:=gy.trans b9;have sY:=b9.seq wR;have c_:ZN ls rs.length:=λl ag=>by rw[el];exact(ov l ag).rg
  have hsz:=Zje ov;have mc:=Zj7 c_ (λr bn=>(mS r bn).1) sX;have lG:=mc.len;walk_at "rds";refine⟨ju,b,bs,ls,rs,rfl,sY,oj,ej,c_,by omega,λr bn=>(by have:=mS r bn;omega),λfG bY Ay cC CK=>?_⟩;have CL:∀r∈leastL ls rs,r≤6:=λr bn=>by
   obtain⟨i,hi,rfl⟩:=Q4 bn;have ap:=mc.le i (by omega);rw[eS hi,eS (by omega)] at ap;have:=(mS _ (QO (show i<rs.length by omega))).2;omega
  have Mq:(leastL ls rs).sum≤400:=by
   have:=Zlw CL;omega
  have sZ:=mc.pos;have CM:=Zfp (lG.symm▸c_) hsz sZ mc.bal;have CN:∀{z:Int→Nat}{rs':List Int},Rts ls rs.length z rs'→rs'=leastL ls rs:=λ{z rs'} de=>Zj2 mc c_ hsz de;generalize leastL ls rs=L at*;clear mc;have i2:=gP.trans cC;have Mr:=i2.seq db;have CO:=SqL.of (K:=K) CK;walk_at "rds";refine⟨_,m,rfl,by omega,by omega,λga c5 cG AN du wS hok gY=>?_⟩;have wT:=du _ _ (cC _ _ oj);have qL:=ej.keep λb xs e=>du _ _ (cC _ _ e);have Ms:=SqL.of (K:=K) wS;walk_at "rds";refine⟨b,fG,ga,bs,ls,L,cG,rfl,wT,qL,by omega,du.seq CO,sZ,Mq,Ms,by rw[lG,el];exact hok,by omega,λms eE n7 bV cS gA=>?_⟩;have gG:∀r∈ms.map (turnV L ms),0≤r:=λr bn=>by
   have tz:WZ L.length cG:=by rw[lG,el];exact hok
   obtain⟨x,a_,rfl⟩:=Q3.mp bn;have:=((rZ sZ (eE.nodup_iff.mpr hok.2.1) (λe=>by rw[e] at eE;exact hok.1 eE.symm.eq_nil) (λm bv=>tz.2.2 m (eE.mem_iff.mp bv))).2 x a_).1;omega
  have CP:Vm cE:=⟨dM,wQ,by omega⟩;have CQ:Ze b7 c5:=cC.trans du;have ou:=SqL.of (K:=K) (CQ _ _ (b9 _ _ CJ));have wU:∀l∈ls,Bel cE.length l:=by rw[jP];exact ov
  have CS:ZN ls cE.length:=λl ag=>(wU l ag).rg;have qQ:WZ cE.length cG:=by rw[jP];exact hok
  have CT:∀{z:Int→Nat}{rs':List Int},Rts ls cE.length z rs'→rs'=L:=λ{z rs'} de=>CN (z:=z) (by rw[el,←jP];exact de);clear CN c_ ov hok bq bJ bO b9 cC du gy gP i2 Mr mG pK sY wR CI CK CO sX CQ CJ kL qe de lG mS CL ao db;refine⟨λlT cL dh dn=>?_,λMt k6 dh hr70 dn i3=>?_⟩
  ·show Vf 8 V.non _ _ _;walk_at "rds";refine⟨gB,b,cE,bs,ls,rfl,dn.seq ou,wQ,dM,by omega,by omega,dn _ _ wT,qL.keep (λb xs e=>dn _ _ e),wU,by omega,λbz fp dL kO hfp8 er=>?_⟩;have wV:=er _ _ (dn _ _ wS);have wW:=SqL.of (K:=K) wV;walk_at "rds";refine L2.Rd.Zk7 (λcls _ ae=>cls= .ref T.l) ?_ ?_
   ·walk_at "rds";refine Rd.VM wW (λkU wX=>?_);have fj:Ze dL (upd dL kU (.lst (cG.map V.int))):=cV wX;have wY:(upd dL kU (.lst (cG.map V.int))) kU=some (.lst (cG.map V.int)):=Zd;generalize upd dL kU (.lst (cG.map V.int))=eC at*;have lO:=kO.same fj;walk_at "rds";refine ZaU (z:=lD L) lO wY qQ (by omega) CP (by dsimp only;omega) CS hsz CM (λrs' de=>?_);dsimp only at de⊢;obtain rfl:=CT de;refine⟨λc=>absurd c (by omega),λ_ lz hpm' hsr' ry dn' m2 wZ=>?_⟩;obtain rfl:=Zeh n7 hsr' (eE.trans hpm'.symm);obtain rfl:=Zeb gA lT wZ m2;exact⟨λ_ _ _=>rfl,λc=>absurd cL c⟩
   ·rintro cls eC rfl;refine⟨T.D,_,rfl,λcm QJ=>?_⟩;have iw:(upd eC cm (ji cm T.l)) cm=some (ji cm T.l):=Zd;generalize upd eC cm (ji cm T.l)=e1 at*;walk_at "rds";refine⟨rfl,?_⟩;walk_at "rds";exact k _
  ·show Vf 8 (V.ref k6) _ _ _;have lT:=ZhN gG gA Mt;walk_at "rds";refine⟨gB,b,cE,bs,ls,rfl,dn.seq ou,wQ,dM,by omega,by omega,dn _ _ wT,qL.keep (λb xs e=>dn _ _ e),wU,by omega,λbz fp dL kO hfp8 er=>?_⟩;have wV:=er _ _ (dn _ _ wS);have wW:=SqL.of (K:=K) wV;have ia:=er _ _ i3;walk_at "rds";refine L2.Rd.Zk7 (λcls _ ae=>False) ?_ ?_
   ·walk_at "rds";refine Rd.VM wW (λkU wX=>?_);have fj:Ze dL (upd dL kU (.lst (cG.map V.int))):=cV wX;have wY:(upd dL kU (.lst (cG.map V.int))) kU=some (.lst (cG.map V.int)):=Zd;generalize upd dL kU (.lst (cG.map V.int))=eC at*;have lO:=kO.same fj;have m3:=fj _ _ ia;walk_at "rds";refine ZaU (z:=lD L) lO wY qQ (by omega) CP (by dsimp only;omega) CS hsz CM (λrs' de=>?_);dsimp only at de⊢;obtain rfl:=CT de;refine⟨λc=>absurd c (by omega),λ_ lz hpm' hsr' ry dn' m2 wZ=>?_⟩;obtain rfl:=Zeh n7 hsr' (eE.trans hpm'.symm);obtain rfl:=Zeb gA lT wZ m2;refine⟨λc=>absurd c (by omega),λ_ j e1 ad mn _ _ bw fP QK=>?_⟩;have lP:=fP _ _ m3;walk_at "rds";refine⟨rfl,?_⟩;walk_at "rds";refine⟨rfl,?_⟩;walk_at "rds";have Mu:(jmOf ⟨cE,ls⟩ rs' ms mn bV).inner.map V.int=bV.map λw=>V.int (ms.getD w 0):=by
     unfold jmOf;rw[Rt]
     rfl
    have n9:(jmOf ⟨cE,ls⟩ rs' ms mn bV).inner=bV.map λw=>ms.getD w 0:=rfl;rw[←Mu] at lP;have ce:(jmOf ⟨cE,ls⟩ rs' ms mn bV).inner.length≤400:=by
     rw[n9,QM];have:=(rZ sZ (eE.nodup_iff.mpr qQ.2.1) (λe=>by rw[e] at eE;exact qQ.1 eE.symm.eq_nil) (λm bv=>by
      have:=qQ.2.2 m (eE.mem_iff.mp bv);have:=de.len;omega)).1
     omega
    have fq:(jmOf ⟨cE,ls⟩ rs' ms mn bV).kept.length≤30:=QZ Zeo (by dsimp only;omega);generalize jmOf ⟨cE,ls⟩ rs' ms mn bV=jm at*;refine⟨j,jm,ad,rfl,bw,λf1 h9=>?_⟩;have jK:Ze e1 (upd e1 f1 (.lst (jm.inner.map V.int))):=cV h9;have s0:(upd e1 f1 (.lst (jm.inner.map V.int))) f1=some (.lst (jm.inner.map V.int)):=Zd;have Mv:k6≠f1:=cT lP h9;have Mw:∀x∈ad,x≠f1:=λx a_ z=>bw.dom x a_ (by rw[z];exact h9);generalize upd e1 f1 (.lst (jm.inner.map V.int))=fz at*;have oc:=jK _ _ lP;have Mx:=bw.same jK;walk_at "rds";refine⟨f1,jm.inner,rfl,.of s0,s0,?_⟩;walk_at "rds";refine Rd.Zn8 (eH.ints (SqL.of s0)) (eH.ints (SqL.of oc)) (jM _) (jM _) (pw _) ?_;rw[Uu,decide_eq_true rfl];have QL:(jm.inner.map V.int).length<sizeLine:=dj (by rw[QM];omega);walk_at "rds";have sd:cX [f1] fz (upd fz f1 (.lst (jm.inner.map V.int++ [.int 0]))):=fR (by simp) s0 (by intro _ z;cases z);have vy:=sd.keep _ _ oc (by simpa using Mv);have CU:=Mx.off sd (λx a_ z=>Mw x a_ (QS.mp z));generalize upd fz f1 (.lst (jm.inner.map V.int++ [.int 0]))=H12 at*;walk_at "rds";refine⟨j,jm,ad,rfl,CU,λf2 lM=>?_⟩;have lU:Ze H12 (upd H12 f2 (.lst (jm.inner.map V.int))):=cV lM;have Mz:(upd H12 f2 (.lst (jm.inner.map V.int))) f2=some (.lst (jm.inner.map V.int)):=Zd;generalize upd H12 f2 (.lst (jm.inner.map V.int))=H13 at*;have wP:=lU _ _ vy;have MA:=CU.same lU;walk_at "rds";refine Rd.Zhy (eH.ints (SqL.of Mz)) (eH.ints (SqL.of wP)) (jM _) (jM _) (pw _) ?_;rw[Uu,decide_eq_true rfl];walk_at "rds";refine⟨Q5 _,λnZ ks=>?_⟩;have MB:Ze H13 (upd H13 nZ (.lst [])):=cV ks;have MC:(upd H13 nZ (.lst [])) nZ=some (.lst (([]:List Int).map V.int)):=Zd;generalize upd H13 nZ (.lst [])=H14 at*;walk_at "rds";refine⟨j,nZ,jm,ad,[],rfl,MA.same MB,.of MC,by simp,ce,fq,λ⟨k,bp,_⟩=>absurd bp (by simp),λ_ u H15 hu15 s15 MD=>?_⟩;walk_at "rds";refine⟨Q5 _,λgs nj=>?_⟩;have ME:Ze H15 (upd H15 gs (.lst [])):=cV nj;have MF:(upd H15 gs (.lst [])) gs=some (.lst (([]:List Int).map V.int)):=Zd;have MG:=ME _ _ MD;generalize upd H15 gs (.lst [])=H16 at*;refine Rd.Zhy (eH.ints (SqL.of MG)) (eH.ints (SqL.of MF)) (jM _) (jM _) (pw _) ?_;rw[Uu,decide_eq_true (show jT jm []=[] from rfl)];exact k _
   ·rintro cls eC h;exact h.elim
end
theorem walk{l:PySem.W.OpenLaw}{q:Program}{nk:List Str}{nl:(Str→Option Value)→Heap→Prop}{k_:World→Heap→Prop}{d:DefRec}{K:Params→Frag}(bG:l.most=some 63)(im:d.params.defaults=[])(oq:d.name="law")
  (o5:∀(w:World)(h:Heap),k_ w h→(K w.params).In h)
  (F:∀(w:World)(mg:Str→Option Value)(h:Heap),(K w.params).In h→h.Ns mainGlobals mg→∃T:Tp (K w.params) mg,True):
  PySem.W.WalkO q nk nl k_ l.row.toRowW d [] (λf vs=>PySem.call f vs):=by
 refine L2.ZlB (n:=63) (k:=12) (x:="_law_script") (CX:=λw=>CXX l.prog w) (sp:=λw=>Zlc (K w.params)) bG (by decide) im ⟨rfl,by decide,by decide⟩ o5 (λw mg hB h ek G np=>?_) (λ_ _ a ns ag _ db=>⟨a,ns,rfl,db,ag,λ_=>rfl⟩) ?_
 ·obtain⟨T,_⟩:=F w mg h ek G;rw[oq,T.aL.m] at np;cases np;exact⟨T.aL.d,T.aM,λbase _ _=>ZmO T⟩
 ·intro w H s e s' z;obtain⟨_,_,_,_,_,_,_,_,_,_,_,_,_,z⟩:=z;exact z
end Nm
namespace PySem.W.Fast
def tw15091368272006420745:=0
def tw14293143317443659074:=0
def tw10810206023638481040:=0
def tw17827239376096276358:=0
def tw13986777592506546425:=0
def tw7662199900713261031:=0
def tw8718825903895727559:=0
def tw2595138483886307619:=0
def tw3026567559071850954:=0
def tw3559223775043660293:=0
def tw10301688571669142571:=0
def tw11982398037815402129:=0
def tw7603149334679878344:=0
def tw6333412822951853817:=0
def tw16490183626414042679:=0
def tw16237206800531632698:=0
def tw11766264853171026590:=0
def tw613223581321125031:=0
def tw5435750392142571113:=0
def tw16629446581074282755:=0
def tw17029794308139025892:=0
def tw12217178819158759727:=0
def tw15524890517479225797:=0
def tw1754198517716943835:=0
def tw12932777593577902348:=0
def tw6336594474889004869:=0
def tw17756131169100111870:=0
def tw10377982558119934078:=0
def tw11399052023292935253:=0
def tw4506312816372501766:=0
def tw10506364421606023703:=0
def tw6982927016303756304:=0
def tw2235194541619245618:=0
def tw14550244900780962185:=0
def tw7861392984787745621:=0
def tw16504085895187521514:=0
def tw5978367295388723658:=0
def tw7029269549885216634:=0
def tw2118852442127705525:=0
def tw1054751246391063895:=0
def tw11684592871935758323:=0
def tw2563291551900668436:=0
def tw16789553136866793847:=0
def tw1771627909231322540:=0
def tw17720563778674398288:=0
def tw6894117456142563080:=0
def tw1666511890633350783:=0
def tw13103106729776247019:=0
def tw7944528227213418889:=0
def tw5502633352052737835:=0
def tw6389685666436260370:=0
def tw9221129971855362407:=0
def tw15963584661787643763:=0
def tw9260204971076525820:=0
def tw7861108824899508456:=0
def tw17482326403309565100:=0
def tw7882822095347857204:=0
def tw1533553595523511953:=0
def tw14153699124912375816:=0
def tw15354429861726180905:=0
def tw17555489531160794975:=0
def tw10326778046581639928:=0
def tw7793527746167268086:=0
def tw1532050098570789651:=0
def tw10153779452263599750:=0
def tw13704350769036326743:=0
def tw320295490610492072:=0
def tw11211525848146773223:=0
def tw1066736516741098731:=0
def tw5847034244785700431:=0
def tw2897518082660680649:=0
def tw14588059967018538934:=0
def tw13065609337152433874:=0
def tw7974103238253777165:=0
def tw17811747049221790592:=0
def tw11059425826464123486:=0
def tw9514547052243873333:=0
def tw2436096875314599462:=0
def tw2741983803471227419:=0
def tw13793167514528524632:=0
def tw9006299024175440354:=0
def tw3384867058583341562:=0
def tw13999798770561843374:=0
def tw1654630781259118457:=0
def tw4951061855043747154:=0
def tw7192343626947061611:=0
def tw18148803428259092888:=0
def tw6395911949525768006:=0
def tw13607727919389364175:=0
def tw6015268335052517583:=0
def tw18400679040467848290:=0
def tw1886289483193696348:=0
def tw2553686732518416890:=0
def tw16818043483001835979:=0
def tw14123742556830352388:=0
def tw10175894391490322041:=0
def tw6980574939140487845:=0
def tw7428609298662233731:=0
def tw2725021594723097597:=0
def tw14658601853728407195:=0
def tw16163906954296459233:=0
def tw2922637464786800322:=0
def tw10082020213672976994:=0
def tw8891071901031387206:=0
def tw12586733402549861297:=0
def tw5475834310149094101:=0
def tw8733200933377440705:=0
def tw325072045345687731:=0
def tw12202770692968111238:=0
def tw13277725381894698756:=0
def tw8538312535814133651:=0
def tw12275136096697425955:=0
def tw5252490214714465493:=0
def tw15343587657004891232:=0
def tw5609887430510820479:=0
def tw3080417334223596978:=0
def tw10081946017522294271:=0
def tw3754218985147195852:=0
def tw6284355572509903460:=0
def tw14127173227541829718:=0
def tw3291274878657319356:=0
def tw14059509489425927198:=0
def tw5206051692433817523:=0
def tw17798474061734907249:=0
def tw14204427186185679799:=0
def tw17284870564264611423:=0
def tw6118487410897783118:=0
def tw13615471527717368633:=0
def tw17698455560313449943:=0
def tw2238319297351402157:=0
def tw2739234733691724242:=0
def tw5439006221276561587:=0
def tw16372945096321608250:=0
def tw3349674892329329940:=0
def tw13013765768373748864:=0
def tw1615745205535247955:=0
def tw17256552807625832134:=0
def tw12139734404037338374:=0
def tw14993796611961698791:=0
def tw3194488253442246288:=0
def tw8812216759376212967:=0
def tw2870561808261551973:=0
def tw5222567449302356220:=0
def tw1849846789790348519:=0
def tw3041903325104438386:=0
def tw11281363150553005748:=0
def tw3938729921588121590:=0
def tw15570969771708481148:=0
def tw11256113908691764796:=0
def tw8866806125548745160:=0
def tw2020236103489331792:=0
def tw10115839174300437286:=0
def tw12419525875719566963:=0
def tw5273379939609092837:=0
def tw12102651840771165180:=0
def tw1277550272760272396:=0
def tw5046544795817545224:=0
def tw13799485691840574108:=0
def tw5158205986809138240:=0
def tw7377101600632358436:=0
def tw16922923176447765467:=0
def tw11717958799206362220:=0
def tw2186603647398093776:=0
def tw12858591593873933145:=0
def tw7392754056598564994:=0
def tw7336725400078012992:=0
def tw10988471204872579853:=0
def tw5010495942634727311:=0
def tw13713962294871306327:=0
def tw8536981018925349303:=0
def tw2178708098678462615:=0
def tw3754402703444649162:=0
def tw9485511316002596870:=0
def tw14550201606386770016:=0
def tw3182018996910984661:=0
def tw16394287803284794362:=0
def tw8464661156699980594:=0
def tw17424175883072487862:=0
def tw10077224407388298380:=0
def tw12204563590171745573:=0
def tw16094621882484055217:=0
def tw3041025683871097349:=0
def tw7755185916822373342:=0
def tw2187979292259880931:=0
def tw5251926321354087699:=0
def tw15647694762923025719:=0
def tw13982328286798683357:=0
def tw13001899877709418067:=0
def tw5756452728691073910:=0
def tw13525918181464955791:=0
def tw16500470566145175433:=0
def tw18058965555215623319:=0
def tw11324761538743722006:=0
def tw8346191823148911554:=0
def tw9238484457073357440:=0
def tw4355315278839934520:=0
def tw961655430826592315:=0
def tw11091993792765586080:=0
def tw7581568907820004972:=0
def tw11988700305891371684:=0
def tw3585440923171732450:=0
def tw6971012866953385428:=0
def tw7936868993046256784:=0
def tw3209800693170219636:=0
def tw6103427479111926260:=0
def tw1693360812179524225:=0
def tw14546357702203673423:=0
def tw13384906157802945579:=0
def tw5921122522575257806:=0
def tw15220505862447071400:=0
def tw13785719887527331207:=0
def tw16475243895902696871:=0
def tw2187597409378270273:=0
def tw9347027154641581060:=0
def tw11410169156869853751:=0
def tw2515802140422357106:=0
def tw6745953002011419872:=0
def tw10292514437220203127:=0
def tw14881481411336106983:=0
def tw62651018624907182:=0
def tw9605672076618772833:=0
def tw10913018937541138168:=0
def tw17124269690682322399:=0
def tw185928693800637597:=0
def tw441502887224451291:=0
def tw4414474748817438412:=0
def tw10799506451966628439:=0
def tw15993367990921509773:=0
def tw6925033287746230394:=0
def tw18421335048550573209:=0
def tw17721102331502145614:=0
def tw2541016270280505163:=0
def tw3539558729123226475:=0
def tw15235894940981905505:=0
def tw7971321956962238063:=0
def tw10301177108508399897:=0
def tw10591833267160103322:=0
def tw9522572412818756639:=0
def tw15534983946761376452:=0
def tw9146476691145886595:=0
def tw17297419933708603625:=0
def tw3801115045245715164:=0
def tw10203624810185440158:=0
def tw9749891430295926980:=0
def tw9101245059126128346:=0
def tw10019576025765255177:=0
def tw10140957727464612361:=0
def tw9337375157222425879:=0
def tw4216028007036845488:=0
def tw16601776746551360918:=0
def tw1775270106453980572:=0
def tw10001464578728915581:=0
def tw9898910581148176054:=0
def tw14612224898819202638:=0
def tw11049110040007892149:=0
def tw18434205573371229968:=0
def tw9112252340619483196:=0
def tw17603913322229109686:=0
def tw14337787253071356726:=0
def tw17477274470665643341:=0
def tw12329516354182354348:=0
def tw18148513754481566824:=0
def tw8841176708435383594:=0
def tw3415868032320614294:=0
def tw10761470063266705135:=0
def tw1449568684793047725:=0
def tw12575358072899107743:=0
def tw17536784364583300291:=0
def tw4683509659790509081:=0
def tw13513436834580600260:=0
def tw4827156483098331898:=0
def tw10529891065414484422:=0
def tw17119265224945492892:=0
def tw4127482149714504190:=0
def tw17091358425397995231:=0
def tw14317393684906201241:=0
def tw17560994508185569115:=0
def tw12948218454328490798:=0
def tw9848187124077869403:=0
def tw6517164715719067708:=0
def tw3537391401205372249:=0
def tw1969522936061341824:=0
def tw4721403805931320418:=0
def tw12923362041338718390:=0
def tw11800874969618631149:=0
def tw18117964168857917655:=0
def tw15086805025536976158:=0
def tw778677112118667259:=0
def tw14454375223275076017:=0
def tw15876730770189685873:=0
def tw10812577183557632165:=0
def tw1306202227829183045:=0
def tw8703222611013153254:=0
def tw14788961554083317577:=0
def tw6675826708725911721:=0
def tw18033376724060984194:=0
def tw14307893936717871125:=0
def tw15198080954776531046:=0
def tw715989471884954972:=0
def tw17254912640044897643:=0
def tw1698237252633726451:=0
def tw4619556068801221558:=0
def tw8679830234095449791:=0
def tw183902866066514860:=0
def tw1267375448753519647:=0
def tw17003807626955255004:=0
def tw12909240865097052640:=0
def tw10353827584807975256:=0
def tw1352424851481830204:=0
def tw3888210891731228190:=0
def tw7895560449530736976:=0
def tw15234243381560388214:=0
def tw4527442149231220326:=0
def tw5014147578901292753:=0
def tw6364771810365746445:=0
def tw11237093914907664929:=0
def tw17765055754661946972:=0
def tw7665593905806093714:=0
def tw11049222703224229441:=0
def tw15699768770053338399:=0
def tw4762142444118275359:=0
def tw5536734252278395311:=0
def tw7637948189291617806:=0
def tw1214876131885973298:=0
def tw9139521963261179853:=0
def tw14482893436139981780:=0
def tw7429558914489152343:=0
def tw17410599789169283264:=0
def tw14399767180906999853:=0
def tw6784826468774976685:=0
def tw9154041586799294935:=0
def tw17973402051561811244:=0
def tw6312794068784717528:=0
def tw1964693993501947740:=0
def tw10678980169155620862:=0
def tw7808916117630338070:=0
def tw2095650327096816397:=0
def tw13486713349032133447:=0
def tw10893635638375626420:=0
def tw12101260473804434474:=0
def tw12358679696409632242:=0
def tw4361939975854331225:=0
def tw15218808500890575682:=0
def tw13242876377308476006:=0
def tw10583283320724748096:=0
def tw656781317216162649:=0
def tw8624070298421090723:=0
def tw10023633774983713480:=0
def tw10093649373829588690:=0
def tw544745835046571462:=0
def tw8798498876566877659:=0
def tw13843896683066785825:=0
def tw15086078416429331765:=0
def tw4302621910413523093:=0
def tw2368352214679489928:=0
def tw15923789050994570389:=0
def tw3220336929964816555:=0
def tw13505456744298526175:=0
def tw16200166594530385485:=0
def tw5660927434197817172:=0
def tw1991820031617506769:=0
def tw11751162758142978741:=0
def tw11245139995506399248:=0
def tw9071511799575293872:=0
def tw2024590742839303287:=0
def tw8052384926466903025:=0
def tw4199611396767710895:=0
def tw11802452069483334587:=0
def tw5984120509436774458:=0
def tw3802890264689358206:=0
def tw4219757038727891806:=0
def tw13368172460854734451:=0
def tw4348755413501262788:=0
def tw6205783208243740222:=0
def tw2856947794622152027:=0
def tw5818189358462734554:=0
def tw12793588131519752727:=0
def tw12767510225599956616:=0
def tw10716781966671735150:=0
def tw14124191505282052698:=0
def tw1454563880593184280:=0
def tw7170867141834435023:=0
def tw17979570485560555767:=0
def tw10832289107211277853:=0
def tw10038653760908648001:=0
def tw14687762012338963218:=0
def tw6333196132319218021:=0
def tw17244917862695034175:=0
def tw12667150034549181585:=0
def tw13001970100230084234:=0
def tw15601917162271501670:=0
def tw9166301793494087254:=0
def tw5521831095222278386:=0
def tw390758376690015337:=0
def tw5799420807047917363:=0
def tw14057064186342676606:=0
def tw2650366573019845891:=0
def tw14979760350081059760:=0
def tw9606466363210971465:=0
def tw9651006918910495536:=0
end PySem.W.Fast
open PySem PySem.W PyProof.Rows
local macro_rules| `(tactic|walk_at "dn")=>`(tactic|(refine' L2.Dn.of (by assumption) (by assumption) ?a ?l ?c ?k ?b;(case a=>k_is);(case l=>k_is);(case c=>k_is);(case k=>k_is);(case b=>(repeat refine L2.lenS λ_=>?_);exact L2.ZjQ λ_ _ _ _ _ _=>rfl)))
local macro_rules| `(tactic|walk_at "dm")=>`(tactic|(refine' L2.Dm.of ?a ?i ?l ?c ?k ?b;(case a=>k_is);(case i=>k_is);(case l=>k_is);(case c=>k_is);(case k=>k_is);(case b=>(repeat refine L2.lenS λ_=>?_);exact L2.ZjQ λ_ _ _ _ _ _=>rfl)))
local macro_rules| `(tactic|walk_at "di")=>`(tactic|(refine' L2.Di.of ?z ?y ?a ?i ?l ?c ?k ?b;(case z=>k_is);(case y=>k_is);(case a=>k_is);(case i=>k_is);(case l=>k_is);(case c=>k_is);(case k=>k_is);(case b=>(repeat refine L2.lenS λ_=>?_);exact L2.ZjQ λ_ _ _ _ _ _=>rfl)))
local macro_rules| `(tactic|walk_at "na")=>`(tactic|((repeat refine L2.ZlF (by k_is) ?_);exact L2.Zmg))
local macro_rules| `(tactic|walk_at "ex")=>`(tactic|(refine' ⟨?g,mg_of (by assumption) (by assumption) ?m,?e⟩;(case g=>k_is);(case m=>k_is);(case e=>k_exc)))
local macro_rules| `(tactic|walk_at "xc")=>`(tactic|exact⟨L2.ZiI (show excIn _ _ [.type "ValueError",.type "Exception",.type "BaseException",.type "object"] "ValueError.__new__" =true by k_exc),by k_is,by k_is,by k_is,by k_is,by k_is,by k_is,by k_is⟩)
set_option maxRecDepth 100000 in
set_option maxHeartbeats 0 in
theorem PySem.Challenge.cw_ratehall_k23_inner_row_holds : PySem.Challenge.rw_ratehall_k23_inner_row.Holds := by
 w_on;o_law;k_head;(case hw=>w_witness2)
 k_fill
 refine Nm.walk (l:=PySem.Challenge.rw_ratehall_k23_inner_row) rfl rfl rfl (λw h Y=>kIn_of Y) ?F
 case F=>
  intro w mg h ek G
  refine' ⟨Nm.Tp.mk (mg_of ek G ?MH) ⟨?MI,?MJ,?MK,?ML⟩ ?MM (mg_of ek G ?MN) ⟨?MO,?MP,?MQ,?MR⟩ ?MS (mg_of ek G ?MT) ⟨?MU,?MV,?MW,?MX⟩ ?MY ?MZ ?M0 ?M3 ?M4 ?M5 ?M6 ?M7 ?M8 ?M9 ?M_ ?M' ?Na ?Nb ?Nc ?Nd ?Nf ⟨?Ng,?Nh,?Ni⟩ (L2.ZlP ?Nj ?Nk ?Nl) (L2.Znq ?Nn) ?No ?Np (.cons ⟨_,rfl⟩ .nil) ?Nq ?Nr ?Nt ?Nu ?Nv ?Nw ?Nx ?Ny ?Nz ?NA ?NB ?NC ?ND ?NE ?NF ?NG ?NH ?NI ?NJ ?NK ?NL ?NM ?NN ?NO ?NP ?NQ ?NR ?NS ?NT ?NU ?NV ?NW ?NX ?NY ?NZ ?N0 ?N1 ?N2 ?N3 ?N4 ?N5 ?N6 ?N7 ?N8 (mg_none_of ek G ?N9) (mg_none_of ek G ?N_) (mg_none_of ek G ?N') (mg_none_of ek G ?Oa) (mg_none_of ek G ?Ob) (mg_none_of ek G ?Oc) (mg_none_of ek G ?Od) (mg_none_of ek G ?Oe) (mg_none_of ek G ?Of) (mg_none_of ek G ?Og) (mg_none_of ek G ?Oh) (mg_none_of ek G ?Oi) (mg_none_of ek G ?Oj) (mg_none_of ek G ?Ol) (mg_none_of ek G ?Om) ?On ?Oo ?Op ?Oq ?Ot ?Ou ?Ov ?Ow ?Ox ?Oy ?Oz ?OA ?OB ?OC (mg_of ek G ?OD) (mg_of ek G ?OE) (mg_of ek G ?OF) (mg_of ek G ?OG) ?OH,trivial⟩
  case MH|MI|MJ|MK|ML=>k_is
  case MM=>walk_at "na"
  case MN|MO|MP|MQ|MR=>k_is
  case MS=>walk_at "na"
  case MT|MU|MV|MW|MX=>k_is
  case MY=>walk_at "na"
  case MZ|M0|M3|M4|M5|M6|M7|M8|M9=>walk_at "dn"
  case M_=>walk_at "dm"
  case M'|Na|Nb|Nc=>walk_at "dn"
  case Nd|Nf=>walk_at "dm"
  case Ng|Nh|Ni|Nj|Nk|Nl|Nn=>k_is
  case No=>exact λs us X ag=>(match us,(show us.length=6 by simpa using ag) with| [_,_,_,_,_,_],_=>binds_K X rfl (by k_is) rfl rfl rfl)
  case Np=>exact λs us X ag=>(match us,(show us.length=5 by simpa using ag) with| [_,_,_,_,_],_=>binds_K X rfl (by k_is) rfl rfl rfl)
  case Nq=>walk_at "di"
  case Nr|Nt|Nu=>walk_at "dn"
  case Nv|Nw=>walk_at "dm"
  case Nx|Ny|Nz|NA=>walk_at "dn"
  case NB|NC=>walk_at "dm"
  case ND|NE|NF=>walk_at "dn"
  case NG|NH|NI|NJ=>walk_at "dm"
  case NK=>walk_at "dn"
  case NL=>walk_at "dm"
  case NM|NN=>walk_at "dn"
  case NO=>walk_at "di"
  case NP|NQ|NR|NS|NT|NU|NV|NW|NX|NY|NZ|N0|N1|N2|N3|N4|N5|N6=>walk_at "dn"
  case N7=>walk_at "di"
  case N8=>walk_at "dn"
  case N9|N_|N'|Oa|Ob|Oc|Od|Oe|Of|Og|Oh|Oi|Oj|Ol|Om=>k_is
  case On|Oo|Op|Oq|Ot|Ou|Ov|Ow|Ox|Oy=>walk_at "ex"
  case Oz=>kts_exm
  case OA=>walk_at "xc"
  case OB|OC=>kit_is
  case OD|OE|OF|OG=>k_is
  case OH=>exact λs v=> .of_eq rfl
#print axioms PySem.Challenge.cw_ratehall_k23_inner_row_holds
