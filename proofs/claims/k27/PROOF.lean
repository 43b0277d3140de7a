import PyProof.Rows.All
import Wide.All
import OpenK.AllK
import Wide.FinOn
import Lean
import PyProof.EqAt
import PyProof.EqKinds
import PyProof.TupleCall
import PySem.Challenge.RW_ratehall_k27_mill_rows
set_option maxHeartbeats 4000000
set_option compiler.extract_closed false
set_option bootstrap.genMatcherCode false
local macro_rules| `(tactic|omega)=>`(tactic|with_reducible first|exact Q3 _|lia|fail)
set_option Elab.async false
set_option linter.all false
set_option maxRecDepth 100000
open PySem.W (instObj methodObj hideAll hideAll_get of_hideAll lookIn plainGet hasDictIn handedIn plainGet_of isFn plainOver takerIn makesIn typeIn emptyDict keepIn methodCall_KW kitx_list kitx_dict callWith_K callWith_K0 cellsFrom_some fnOf codeIn codeRec_of nsIn excIn mg_of exmOne kIn_of mg_none_of binds_K)
abbrev Qa:=@List.getElem?_eq_getElem
abbrev Qb:=@List.length_map
abbrev Qc:=@Nat.le_refl
abbrev Qd:=@List.size_toArray
abbrev Qe:=@List.mem_cons
abbrev Qf:=@List.getElem_mem
abbrev Qg:=@List.length_append
abbrev Qh:=@Bool.false_ne_true
abbrev Qi:=@PySem.F.excBase_ValueError
abbrev Qj:=@List.getElem?_eq_some_iff
abbrev Qk:=@List.mem_append_right
abbrev Ql:=@List.filter_eq_self
abbrev Qm:=@List.mem_singleton
abbrev Qn:=@PySem.boot_len
abbrev Qo:=@PySem.F.plainAttrs_list
abbrev Qp:=@List.getElem?_map
abbrev Qq:=@Option.some.inj
abbrev Qr:=@PyProof.Rows.boot_isinstance
abbrev Qs:=@Nat.ne_of_lt
abbrev Qt:=@List.take_succ_eq_append_getElem
abbrev Qu:=@Nat.lt_of_lt_of_le
abbrev Qv:=@Nat.le_trans
abbrev Qw:=@PyProof.Rows.boot_list
abbrev Qx:=@Nat.zero_le
abbrev Qy:=@List.getD_eq_getElem?_getD
abbrev Qz:=@PySem.F.slot_list_append
abbrev QA:=@PySem.F.type_list_append
abbrev QB:=@List.mem_cons_of_mem
abbrev QC:=@List.mem_filter
abbrev QD:=@List.mem_append
abbrev QE:=@Int.eq_ofNat_of_zero_le
abbrev QF:=@List.mem_range
abbrev QG:=@List.length_take
abbrev QH:=@Int.toNat_natCast
abbrev QI:=@Nat.le_of_ble_eq_true
abbrev QJ:=@List.getElem_of_mem
abbrev QK:=@List.length_drop
abbrev QL:=@List.length_set
abbrev QM:=@List.mem_cons_self
abbrev QN:=@Int.emod_lt_of_pos
abbrev QO:=@PyProof.Rows.slot_tuple_getitem
abbrev QP:=@Int.toNat_of_nonneg
abbrev QQ:=@List.map_append
abbrev QR:=@List.not_mem_nil
abbrev QS:=@List.take_of_length_le
abbrev QT:=@Int.emod_nonneg
abbrev QU:=@Nat.lt_irrefl
abbrev QV:=@List.lookup_cons
abbrev QW:=@Nat.le_of_lt
abbrev QX:=@List.mem_append_left
abbrev QY:=@PySem.W.kia_one
abbrev QZ:=@List.getElem?_set_self
abbrev Q0:=@List.length_replicate
abbrev Q1:=@PyProof.Rows.boot_sum
abbrev Q2:=@List.map_map
abbrev Q3:=@Int.natCast_nonneg
abbrev Q4:=@List.take_length
abbrev Q5:=@List.append_nil
abbrev Q6:=@List.filter_append
abbrev Q7:=@List.ext_getElem
abbrev Q8:=@List.getElem?_set_ne
abbrev Q9:=@List.mem_of_getElem?
abbrev GE:=@Ne.symm
abbrev GM:=@PySem.mem_of_lookup
abbrev GT:=@PyProof.Rows.callWith_type1
abbrev fm:=@Bool.and_eq_true
abbrev Ra:=@List.all_eq_true
abbrev Rb:=@List.getElem?_append_right
abbrev Rc:=@List.length_filter_le
abbrev Re:=@List.getElem?_append_left
abbrev Rf:=@Bool.eq_iff_iff
abbrev Rg:=@List.mem_map
abbrev Rh:=@List.replicate_succ
abbrev Ri:=@List.getElem?_range
abbrev Rj:=@List.find?_cons
abbrev Rk:=@List.range_succ
abbrev Rl:=@PyProof.Rows.boot_all
abbrev Rm:=@PyProof.Rows.boot_int
abbrev Rn:=@Int.fmod_eq_emod_of_nonneg
abbrev Ro:=@List.mem_of_mem_take
abbrev Rp:=@Nat.lt_succ_self
abbrev Rq:=@List.filter_cons
abbrev Rr:=@List.getElem_map
abbrev Rs:=@List.mem_or_eq_of_mem_set
abbrev Rt:=@Array.length_toList
abbrev Ru:=@Option.isSome_iff_exists
abbrev Rv:=@PySem.F.args_tuple_add_2
abbrev Rw:=@Nat.lt_succ_iff_lt_or_eq
abbrev Rx:=@List.map_drop
abbrev Ry:=@List.nodup_cons
abbrev Rz:=@Nat.not_lt_zero
abbrev RA:=@Nat.min_eq_left
abbrev RB:=@List.sum_append
abbrev RC:=@PySem.F.entry_tuple_add
abbrev RD:=@PyProof.Rows.boot_tuple
abbrev RE:=@PySem.F.slot_tuple_add
abbrev RF:=@List.flatten_cons
abbrev RG:=@Nat.lt_succ_of_lt
abbrev RH:=@Nat.lt_or_ge
abbrev RI:=@List.take_append_drop
abbrev RJ:=@List.getElem_set_self
abbrev RK:=@List.sum_cons
abbrev RL:=@List.map_take
abbrev RM:=@List.length_dropLast
abbrev RN:=@List.of_mem_zip
open PySem.W (Frag)
namespace L2
open PySem PySem.Spec PyProof.Rows
noncomputable abbrev Key:=Sum Int Str
noncomputable def mO:Key→Value→Bool
 | .inl k,v=>Value.isInt k v
 | .inr x,v=>Value.isStrOf x v
noncomputable def ZkP (w:World):Key→Int
 | .inl k=>hashInt k
 | .inr x=>hashStr w x
theorem jR:∀{k:Key}{v:Value},mO k v=true→(∃i t,k=Sum.inl i∧v=Value.int i t)∨(∃x t,k=Sum.inr x∧v=Value.str x t)
 | .inl i,v,h=>by
  obtain⟨t,e⟩:=Value.isInt_shape (k:=i) (v:=v) h;exact .inl ⟨i,t,rfl,e⟩
 | .inr x,v,h=>by
  obtain⟨t,e⟩:=Value.isStrOf_shape (x:=x) (v:=v) h;exact .inr ⟨x,t,rfl,e⟩
theorem Zgj(i:Int)(t:Tok):mO (.inl i) (.int i t)=true:=by simp[mO,Value.isInt]
theorem Zgw(x:Str)(t:Tok):mO (.inr x) (.str x t)=true:=by simp[mO,Value.isStrOf]
theorem ZjC(a b:Int):decide ((Sum.inl a:Key)=Sum.inl b)=(a==b):=by
 by_cases e:a=b
 ·subst e;simp
 ·have h:¬(Sum.inl a:Key)=Sum.inl b:=λq=>e (Sum.inl.inj q);rw[decide_eq_false h];exact(beq_eq_false_iff_ne.mpr e).symm
theorem ZjN(a b:Str):decide ((Sum.inr a:Key)=Sum.inr b)=decide (a=b):=by
 by_cases e:a=b
 ·subst e;simp
 ·have h:¬(Sum.inr a:Key)=Sum.inr b:=λq=>e (Sum.inr.inj q);rw[decide_eq_false h,decide_eq_false e]
theorem ZjF(a:Int)(b:Str):decide ((Sum.inl a:Key)=Sum.inr b)=false:=decide_eq_false (λq=>nomatch q)
theorem Zkg(a:Str)(b:Int):decide ((Sum.inr a:Key)=Sum.inl b)=false:=decide_eq_false (λq=>nomatch q)
noncomputable def g5 (prog:Program) (w:World):PySem.KeyKind prog w Key where
 is:=mO
 hash:=ZkP w
 inj:=λv a b aS am=>by
  rcases jR aS with⟨i,t,rfl,rfl⟩|⟨x,t,rfl,rfl⟩
  ·rcases jR am with⟨j,u,rfl,e⟩|⟨y,u,rfl,e⟩
   ·injection e with aV _;rw[aV]
   ·exact nomatch e
  ·rcases jR am with⟨j,u,rfl,e⟩|⟨y,u,rfl,e⟩
   ·exact nomatch e
   ·injection e with aV _;rw[aV]
 byValue:=λk v h=>by
  rcases jR h with⟨i,t,rfl,rfl⟩|⟨x,t,rfl,rfl⟩<;>rfl
 pyHash:=λcH h=>by
  rcases jR cH with⟨i,t,rfl,rfl⟩|⟨x,t,rfl,rfl⟩
  ·exact wpAny_pyHash_int h
  ·exact wpAny_pyHash_str h
 eqBool:=λhu cH h=>by
  rcases jR hu with⟨i,t,rfl,rfl⟩|⟨x,t,rfl,rfl⟩
  ·rcases jR cH with⟨j,u,rfl,rfl⟩|⟨y,u,rfl,rfl⟩
   ·rw[ZjC] at h;exact wpAny_eqBool_int h
   ·rw[ZjF] at h;exact SeqAt.EqAt.int_str i t y u _ _ _ _ h
  ·rcases jR cH with⟨j,u,rfl,rfl⟩|⟨y,u,rfl,rfl⟩
   ·rw[Zkg] at h;exact SeqAt.EqAt.str_int x t j u _ _ _ _ h
   ·rw[ZjN] at h;exact wpAny_eqBool_str h
 «strs»:=λk x t v h=>by
  rcases jR h with⟨i,u,rfl,e⟩|⟨y,u,rfl,e⟩
  ·exact nomatch e
  ·injection e with aV _
   subst aV;cases v<;>rfl
theorem ZeP(prog:Program)(w:World)(i:Int)(t:Tok):(g5 prog w).is (.inl i) (.int i t)=true:=Zgj i t
theorem ZeC(prog:Program)(w:World)(x:Str)(t:Tok):(g5 prog w).is (.inr x) (.str x t)=true:=Zgw x t
inductive V where
 |non|bl (b:Bool)|int (i:Int)|str (x:Str)|byt (b:Array UInt8)|flt (b:UInt64)|ref (a:Addr)|ty (n:String)
 deriving DecidableEq
noncomputable def cO:V→Value→Prop
 | .non,u=>u=Value.none
 | .bl b,u=>u=Value.bool b
 | .int i,u=>∃t,u=Value.int i t
 | .str x,u=>∃t,u=Value.str x t
 | .byt b,u=>∃t,u=Value.bytes b t
 | .flt b,u=>∃t,u=Value.float b t
 | .ref a,u=>u=Value.ref a
 | .ty n,u=>u=Value.type n
noncomputable abbrev cD:List V→List Value→Prop:=Paired cO
theorem cD.length{xs:List V}{us:List Value}(r:cD xs us):xs.length=us.length:=Paired.length r
theorem cD.get:∀{xs:List V}{us:List Value}{i:Nat}{x:V},cD xs us→xs[i]? =some x→∃u,us[i]? =some u∧cO x u
 |_,_,_,_,.nil,e=>by simp at e
 |_,_,0,_,.cons r _,e=>by simp at e;subst e;exact⟨_,rfl,r⟩
 |_,_,i+1,x,.cons _ t,e=>by
  obtain⟨u,aq,av⟩:=cD.get (i:=i) (x:=x) t (by simpa using e);exact⟨u,by simpa using aq,av⟩
theorem cD.set{x:V}{u:Value}(r:cO x u):∀{xs:List V}{us:List Value}(i:Nat),cD xs us→cD (xs.set i x) (us.set i u)
 |_,_,_,.nil=> .nil
 |_,_,0,.cons _ t=> .cons r t
 |_,_,i+1,.cons q t=> .cons q (cD.set r i t)
theorem cD.append:∀{xs ys:List V}{us ws:List Value},cD xs us→cD ys ws→cD (xs++ys) (us++ws)
 |_,_,_,_,.nil,s=>s
 |_,_,_,_,.cons r t,s=> .cons r (cD.append t s)
theorem cD.take:∀{xs:List V}{us:List Value}(n:Nat),cD xs us→cD (xs.take n) (us.take n)
 |_,_,0,_=> .nil
 |_,_,_+1,.nil=> .nil
 |_,_,n+1,.cons r t=> .cons r (cD.take n t)
theorem cD.drop:∀{xs:List V}{us:List Value}(n:Nat),cD xs us→cD (xs.drop n) (us.drop n)
 |_,_,0,r=>r
 |_,_,_+1,.nil=> .nil
 |_,_,n+1,.cons _ t=>cD.drop n t
noncomputable def hI:Option V→Option Value→Prop
 |some v,some u=>cO v u
 |none,none=>True
 |_,_=>False
noncomputable def KV {dU:Type}:List (dU×V)→List (dU×Value)→Prop:=Paired λ(p:dU×V) (q:dU×Value)=>p.1=q.1∧cO p.2 q.2
noncomputable def kV:Key→V
 | .inl i=> .int i
 | .inr x=> .str x
inductive HO where
 |lst (xs:List V)
 |tup (xs:List V)
 |dK (kvs:List (Key×V))|dT (kvs:List (List Key×V))
 |set (S:Int→Bool) (n:Nat)
 |ins (C ap:Addr) (fs:List (Str×V))
 |own (x:Addr)
 |xd (fs:List (Str×V))
 |met (f x:Addr)
 |rng (lo hi:Int)
 |frz (o:Obj) (u:HO)
 |tbl (a5:Array Value)
 |ext (lB:Heap→Prop)
noncomputable abbrev Hp:=Addr→Option HO
noncomputable def upd (H:Hp) (a:Addr) (o:HO):Hp:=λb=>if b=a then some o else H b
theorem Ze{H:Hp}{a:Addr}{o:HO}:upd H a o a=some o:=by unfold upd;rw[if_pos rfl]
theorem bJ{H:Hp}{a b:Addr}{o:HO}(h:b≠a):upd H a o b=H b:=by unfold upd;rw[if_neg h]
theorem hJ{H:Hp}{a b:Addr}{o u:HO}(h:H a=some o)(h':H b=some u)(d:o≠u):a≠b:=by
 intro e;subst e;rw[h] at h';exact d (Qq h')
theorem dG{H:Hp}{a b:Addr}{o:HO}(h:H a=some o)(h':H b=none):a≠b:=by
 intro e;subst e;rw[h] at h';cases h'
section
variable (P:Program)(w:World)
noncomputable def ZW (H:Hp) (h:Heap) (a:Addr):HO→Prop
 | .lst xs=>xs.length≤sizeLine∧∃(its:List Value)(n:Nat),cD xs its∧h.get? a=some {cls:= .type "list",data:= .seq its.toArray n}
 | .tup xs=>xs.length≤sizeLine∧∃its:List Value,cD xs its∧IsTup h a its.toArray
 | .dK kvs=>kvs.length≤sizeLine∧(a==sysModules)=false∧∃vs,KV kvs vs∧h.DictOf (g5 P w) a vs
 | .dT kvs=>kvs.length≤sizeLine∧(a==sysModules)=false∧∃xs:List (List Key×Addr×Value),
   Paired (λ(p:List Key×V) (q:List Key×Addr×Value)=>p.1=q.1∧H q.2.1=some (.tup (p.1.map kV))∧cO p.2 q.2.2) kvs xs∧
   ∃o a' ep,h.get? a=some o∧o.ExactDict∧o.data= .dict a' ep∧a'.toList=xs.map (entryOfKey (tupleKind (g5 P w)))∧(xs.map (·.1)).Nodup
 | .set S n=>h.SetOf (intKind P w) a S n
 | .ins C ap fs=>H ap=some (.own a)∧fs.length≤1000∧ap≠a∧h.get? a=some (instObj C ap)∧
   ∃d2,h.Ns1 ap d2∧(∀f,hI (fs.lookup f) (d2 f))∧PySem.Within d2 (fs.map (·.1))
 | .own _=>∃o,h.get? a=some o
 | .xd fs=>∃d2,h.Ns1 a d2∧∀f,hI (fs.lookup f) (d2 f)
 | .rng lo hi=>∃t u v,h.get? a=some {cls:= .type "range",data:= .fields #[.int lo t,.int hi u,.int 1 v]}
 | .frz o u=>h.get? a=some o∧ZW H h a u
 | .tbl a5=>h.get? a=some {cls:= .none,data:= .fields a5}
 | .met f x=>h.get? a=some (methodObj (.ref f) (.ref x))
 | .ext lB=>lB h∧(∃o,h.get? a=some o)∧∀aq av:Heap,lB aq→(∀o,aq.get? a=some o→av.get? a=some o)→lB av
def HOk(H:Hp)(h:Heap):Prop:=∀a o,H a=some o→ZW P w H h a o
end
section
variable {P:Program}{w:World}{H H':Hp}{h h':Heap}{a:Addr}{o:HO}
theorem ZW.lt(x:ZW P w H h a o):a<h.objs.size:=by
 cases o with
 |lst xs=>obtain⟨_,_,_,_,e⟩:=x;exact Heap.lt_size e
 |tup xs=>obtain⟨_,_,_,p⟩:=x;exact p.lt
 |dK kvs=>obtain⟨_,_,_,_,o,_,_,e,_⟩:=x;exact Heap.lt_size e
 |dT kvs=>obtain⟨_,_,_,_,o,_,_,e,_⟩:=x;exact Heap.lt_size e
 |set S n=>obtain⟨o,_,_,_,e,_⟩:=x;exact Heap.lt_size e
 |ins C ap fs=>obtain⟨_,_,_,e,_⟩:=x;exact Heap.lt_size e
 |own y=>obtain⟨_,e⟩:=x;exact Heap.lt_size e
 |xd fs=>obtain⟨_,⟨_,_,_,e,_⟩,_⟩:=x;exact Heap.lt_size e
 |rng lo hi=>obtain⟨_,_,_,e⟩:=x;exact Heap.lt_size e
 |frz c4 u=>obtain⟨e,_⟩:=x;exact Heap.lt_size e
 |tbl a5=>exact Heap.lt_size (show h.get? a=some _ from x)
 |met f y=>exact Heap.lt_size (show h.get? a=some _ from x)
 |ext lB=>obtain⟨_,⟨_,e⟩,_⟩:=x;exact Heap.lt_size e
theorem Paired.mapP{cG eH:Type}{F G:cG→eH→Prop}:∀{v0:List cG}{v1:List eH},Paired F v0 v1→(∀a b,F a b→G a b)→Paired G v0 v1
 |_,_,.nil,_=> .nil
 |_,_,.cons r t,f=> .cons (f _ _ r) (Paired.mapP t f)
theorem ZW.stay(x:ZW P w H h a o)(k:∀b u,(b=a∨H b=some (.own a))→h.get? b=some u→h'.get? b=some u)
  (a_:∀b,H b=some (.own a)→H' b=some (.own a)) (aT:∀b xs,H b=some (.tup xs)→H' b=some (.tup xs)):ZW P w H' h' a o:=by
 induction o with
 |lst xs=>obtain⟨z,its,n,r,e⟩:=x;exact⟨z,its,n,r,k _ _ (.inl rfl) e⟩
 |tup xs=>obtain⟨z,its,r,c4,e,c⟩:=x;exact⟨z,its,r,c4,k _ _ (.inl rfl) e,c⟩
 |dK kvs=>obtain⟨z,y,vs,r,c4,a',ep,e,c⟩:=x;exact⟨z,y,vs,r,c4,a',ep,k _ _ (.inl rfl) e,c⟩
 |dT kvs=>
  obtain⟨z,y,xs,r,c4,a',ep,e,c⟩:=x;exact⟨z,y,xs,Paired.mapP r λp q z=>⟨z.1,aT _ _ z.2.1,z.2.2⟩,c4,a',ep,k _ _ (.inl rfl) e,c⟩
 |set S n=>obtain⟨c4,a',ep,t,e,c⟩:=x;exact⟨c4,a',ep,t,k _ _ (.inl rfl) e,c⟩
 |ins C ap fs=>
  obtain⟨d,z,ne,e,d2,⟨dY,a',ep,a8,c⟩,r⟩:=x;exact⟨a_ _ d,z,ne,k _ _ (.inl rfl) e,d2,⟨dY,a',ep,k _ _ (.inr d) a8,c⟩,r⟩
 |own y=>obtain⟨c4,e⟩:=x;exact⟨c4,k _ _ (.inl rfl) e⟩
 |xd fs=>obtain⟨d2,⟨dY,a',ep,e,c⟩,r⟩:=x;exact⟨d2,⟨dY,a',ep,k _ _ (.inl rfl) e,c⟩,r⟩
 |rng lo hi=>obtain⟨t,u,v,e⟩:=x;exact⟨t,u,v,k _ _ (.inl rfl) e⟩
 |frz c4 u cI=>obtain⟨e,q⟩:=x;exact⟨k _ _ (.inl rfl) e,cI q⟩
 |tbl a5=>
  have e:h.get? a=some {cls:= .none,data:= .fields a5}:=x;show h'.get? a=some {cls:= .none,data:= .fields a5};exact k a _ (.inl rfl) e
 |met f y=>
  have e:h.get? a=some (methodObj (.ref f) (.ref y)):=x;show h'.get? a=some (methodObj (.ref f) (.ref y));exact k a _ (.inl rfl) e
 |ext lB=>obtain⟨p,⟨o,e⟩,st⟩:=x;exact⟨st _ _ p λo q=>k _ _ (.inl rfl) q,⟨o,k _ _ (.inl rfl) e⟩,st⟩
theorem HOk.lt(x:HOk P w H h)(e:H a=some o):a<h.objs.size:=(x a o e).lt
theorem HOk.fresh(x:HOk P w H h)(e:h.objs.size≤a):H a=none:=by
 cases q:H a with
 |none=>rfl
 |some u=>exact absurd (Qu (x.lt q) e) (QU _)
theorem HOk.kept(x:HOk P w H h)(k:∀b u,h.get? b=some u→h'.get? b=some u):HOk P w H h':=λa o e=>
 (x a o e).stay (λb u _ q=>k b u q) (λ_ q=>q) λ_ _ q=>q
theorem HOk.laid(x:HOk P w H h)(k:∀b u,h.get? b=some u→h'.get? b=some u)(a1:h.objs.size≤a)(new:ZW P w (upd H a o) h' a o):HOk P w (upd H a o) h':=λb u e=>by
 have bL:=x.fresh a1
 by_cases am:b=a
 ·subst am;rw[Ze] at e;cases e;exact new
 ·rw[bJ am] at e;exact(x b u e).stay (λc v _ q=>k c v q) (λc q=>by rw[bJ (dG q bL)];exact q) λc xs q=>by rw[bJ (dG q bL)];exact q
end
def Rd(H:Hp)(a:Addr)(u:HO):Prop:=H a=some u∨∃o,H a=some (.frz o u)
theorem Rd.ok{P:Program}{w:World}{H:Hp}{h:Heap}{a:Addr}{u:HO}(r:Rd H a u)(x:HOk P w H h):ZW P w H h a u:=by
 rcases r with r|⟨o,r⟩
 ·exact x a u r
 ·obtain⟨_,q⟩:=x a _ r;exact q
noncomputable def Mut:Option HO→Prop
 |some (.lst _)=>True
 |some (.dK _)=>True
 |some (.dT _)=>True
 |some (.set _ _)=>True
 |some (.ins _ _ _)=>True
 |some (.ext _)=>True
 |_=>False
section
variable {P:Program}{w:World}{H:Hp}{h h':Heap}{x e:Addr}{cS:HO}
theorem HOk.write(ok:HOk P w H h)(hL:Mut (H x))(b':e=x∨H e=some (.own x))(k:∀b u,b≠e→h.get? b=some u→h'.get? b=some u)(jS:∃u,h'.get? e=some u)
  (new:ZW P w (upd H x cS) h' x cS):HOk P w (upd H x cS) h':=λb u q=>by
 have v2:∀c y,H c=some (.own y)→c≠x:=λc y r z=>by subst z;rw[r] at hL;exact hL
 have Bx:∀c xs,H c=some (.tup xs)→c≠x:=λc xs r z=>by subst z;rw[r] at hL;exact hL
 by_cases am:b=x
 ·subst am;rw[Ze] at q;cases q;exact new
 ·rw[bJ am] at q
  by_cases lC:b=e
  ·have g6:H b=some (.own x):=by
    rcases b' with z|z
    ·exact absurd (lC.trans z) am
    ·rw[lC];exact z
   rw[q] at g6;cases g6;obtain⟨v,cH⟩:=jS;exact⟨v,by rw[lC];exact cH⟩
  ·refine(ok b u q).stay (λc v aG r=>k c v ?_ r) (λc r=>by rw[bJ (v2 c b r)];exact r) λc xs r=>by rw[bJ (Bx c xs r)];exact r
   rcases aG with rfl|aG
   ·exact lC
   ·rintro rfl;rcases b' with z|z
    ·exact v2 c b aG z
    ·rw[aG] at z;cases z;exact am rfl
end
structure Un(fs ex:List Addr)(H H':Hp)(h h':Heap):Prop where
 keep:∀b o,h.get? b=some o→H b=none→b∉fs→b∉ex→h'.get? b=some o
 slot:∀b o,h.get? b=some o→H b=none→b∈fs→b∉ex→∃sl,h'.get? b=some {o with slots:=sl}
 free:∀b o,h.get? b=some o→H b=none→b∉ex→H' b=none
 there:∀b o,h.get? b=some o→b∉ex→∃cS,h'.get? b=some cS
 tups:∀b xs,H b=some (.tup xs)→H' b=some (.tup xs)
 frzs:∀b o u,H b=some (.frz o u)→H' b=some (.frz o u)
 tbls:∀b a5,H b=some (.tbl a5)→∃more,H' b=some (.tbl (a5++more))
section
variable {fs jT ex Nh:List Addr}{H ao ar:Hp}{h aq av h':Heap}{a x e:Addr}{o:HO}
theorem Un.any(u:Un fs ex H ao h aq){b:Addr}{c4:Obj}(q:h.get? b=some c4)(n:H b=none)(al:b∉ex):∃sl,aq.get? b=some {c4 with slots:=sl}:=by
 by_cases am:b∈fs
 ·exact u.slot b c4 q n am al
 ·exact⟨c4.slots,u.keep b c4 q n am al⟩
theorem Un.kept(k:∀b u,h.get? b=some u→h'.get? b=some u):Un fs ex H H h h':=
 ⟨λb c4 q _ _ _=>k b c4 q,λb c4 q _ _ _=>⟨c4.slots,k b c4 q⟩,λ_ _ _ n _=>n,λb c4 q _=>⟨c4,k b c4 q⟩,λ_ _ q=>q,λ_ _ _ q=>q,λ_ a5 q=>⟨#[],by rw[q];simp⟩⟩
theorem Un.refl:Un fs ex H H h h:=Un.kept λ_ _ q=>q
theorem Un.laid(k:∀b u,h.get? b=some u→h'.get? b=some u)(a1:h.objs.size≤a)(bL:H a=none):Un fs ex H (upd H a o) h h' where
 keep:=λb u q _ _ _=>k b u q
 slot:=λb u q _ _ _=>⟨u.slots,k b u q⟩
 free:=λb u q n _=>by rw[bJ (Qs (Qu (Heap.lt_size q) a1))];exact n
 there:=λb u q _=>⟨u,k b u q⟩
 tups:=λb xs q=>by rw[bJ (dG q bL)];exact q
 frzs:=λb u xs q=>by rw[bJ (dG q bL)];exact q
 tbls:=λb a5 q=>⟨#[],by rw[bJ (dG q bL),q];simp⟩
theorem Un.write(hL:Mut (H x))(b':e=x∨H e=some (.own x))(k:∀b u,b≠e→h.get? b=some u→h'.get? b=some u)(jS:∃u,h'.get? e=some u):Un fs ex H (upd H x o) h h':=by
 have al:∀b,H b=none→b≠x:=λb n z=>by subst z;rw[n] at hL;exact hL
 have am:∀b,H b=none→b≠e:=λb n z=>by
  subst z;rcases b' with r|r
  ·exact al b n r
  ·rw[n] at r;cases r
 have a4:∀b u,H b=some u→¬Mut (some u)→b≠x:=λb u q nm z=>by subst z;rw[q] at hL;exact nm hL
 refine⟨λb u q n _ _=>k b u (am b n) q,λb u q n _ _=>⟨u.slots,k b u (am b n) q⟩,λb u q n _=>by rw[bJ (al b n)];exact n,λb u q _=>?_,
  λb xs q=>by rw[bJ (a4 b _ q λz=>z)];exact q,λb u xs q=>by rw[bJ (a4 b _ q λz=>z)];exact q,λb a5 q=>⟨#[],by rw[bJ (a4 b _ q λz=>z),q];simp⟩⟩
 by_cases lC:b=e
 ·subst lC;exact jS
 ·exact⟨u,k b u lC q⟩
end
noncomputable def trk (h:Heap) (H:Hp):List Addr:=(List.range h.objs.size).filter λa=>(H a).isSome
noncomputable def jU (h:Heap) (H:Hp):Heap:=hideAll h (trk h H)
theorem By(h:Heap)(H:Hp):(jU h H).objs.size=h.objs.size:=PySem.W.hideAll_size _ _
theorem Zhy{h:Heap}{H:Hp}{b:Addr}{o:Obj}(e:h.get? b=some o)(n:H b=none):(jU h H).get? b=some o:=
 hideAll_get _ e λa4=>by
  have q:(H b).isSome=true:=(QC.mp a4).2;rw[n] at q;simp at q
theorem ZiR{h:Heap}{H:Hp}{b:Addr}{o:Obj}(e:(jU h H).get? b=some o):h.get? b=some o∧H b=none:=by
 have cm:h.get? b=some o:=of_hideAll (trk h H) e;refine⟨cm,?_⟩;cases q:H b with
 |none=>rfl
 |some x=>
  have a4:b∈trk h H:=QC.mpr ⟨QF.mpr (Heap.lt_size cm),by simp[q]⟩;have z:(jU h H).get? b=none:=PySem.W.hideAll_none (trk h H) a4;rw[z] at e;cases e
structure Mod(K:Frag)(mg:Str→Option Value)(base:Heap):Prop where
 kin:K.In base
 glob:base.Ns mainGlobals mg
 blt:∃io,base.Ns builtinsNs io∧∀x:Str,x≠"__name__" →io x=bootBuiltins x
 nolimit:base.NoLimit
structure Cx where
 prog:Program
 w:World
 K:Frag
 mg:Str→Option Value
 base:Heap
 A:Around
 N:List Str
 s₀:Shared
 H₀:Hp
 env:Env
 outer:List Env
 stack:List Env
 ex:List Addr
 fn:Str→Bool
 calm:Bool
 pn:List (Addr×Obj)
 xe:Value→Shared→Prop
noncomputable def frs (l:List Env):List Addr:=l.filterMap (·.frame)
noncomputable abbrev Cx.fs (X:Cx):List Addr:=frs X.outer
def Vis(bo:Scope)(x:Str):Prop:=bo.names.lookup x=some .local∨bo.names.lookup x=some .cell∨bo.names.lookup x=some .free
def Loc(bo:Scope)(x:Str):Prop:=bo.names.lookup x=some .local∨bo.names.lookup x=some .cell
def Zji(env:Env)(h:Heap)(m:Str→Option Value)(x:Str)(u:Value):Prop:=
 (env.kindOf x=some .local∧m x=some u)∨((env.kindOf x=some .cell∨env.kindOf x=some .free)∧∃c,env.cells.lookup x=some c∧h.IsCell c (some u))
structure Cx.Ok(X:Cx):Prop where
 mod:Mod X.K X.mg X.base
 kind:X.env.scope.kind= .function
 glob:X.env.globals=mainGlobals
 blt:X.env.builtins=builtinsNs
 above:X.s₀.heap.objs.size≤X.env.locals
 inj:∀x y c,X.env.cells.lookup x=some c→X.env.cells.lookup y=some c→x=y
 has:∀x,(X.env.kindOf x=some .cell∨X.env.kindOf x=some .free)→∃c,X.env.cells.lookup x=some c
 cab:∀x c,X.fn x=true→X.env.cells.lookup x=some c→X.s₀.heap.objs.size≤c
 hd:X.calm=true→X.A.handled=none
 frames:X.A.frames=some X.stack
 stk:X.stack=X.outer∨(X.stack=X.env::X.outer∧X.env.frame=some X.env.locals)
 exf:∀b∈X.ex,b≠X.env.locals∧∀x c,X.env.cells.lookup x=some c→c≠b
 bs:∀b o,X.base.get? b=some o→X.s₀.heap.get? b=some o∧X.H₀ b=none
 bsz:X.base.objs.size≤X.s₀.heap.objs.size
 noex:∀b o,X.base.get? b=some o→b∉X.ex
 exfs:∀b∈X.ex,b∉X.fs
 funs:X.s₀.heap.FunFrames X.base X.outer
 frf:∀b∈X.fs,X.H₀ b=none
structure Inv(X:Cx)(ah:List (Addr×Obj))(σ:List (Option V))(H:Hp)(s:Shared):Prop where
 ok:X.Ok
 os:s.os=X.s₀.os
 bare:AllBare s.gens
 base:Un X.fs X.ex X.H₀ H X.s₀.heap s.heap
 loc:∃m,s.heap.Ns X.env.locals m∧∀(i:Nat)(x:Str)(v:V),X.N[i]? =some x→σ[i]? =some (some v)→Vis X.env.scope x→∃u,cO v u∧Zji X.env s.heap m x u
 cell:∀x c,X.env.cells.lookup x=some c→∃v,s.heap.IsCell c v
 free:H X.env.locals=none
 freeC:∀x c,X.env.cells.lookup x=some c→H c=none
 pin:∀p∈X.pn++ah,s.heap.get? p.1=some p.2∧H p.1=none∧p.1≠X.env.locals∧p.1∉X.fs∧∀v,p.2.data≠ .cell v
 hok:HOk X.prog X.w H s.heap
 len:σ.length=X.N.length
section
variable {X:Cx}{ah:List (Addr×Obj)}{σ:List (Option V)}{H H':Hp}{s:Shared}{h':Heap}
theorem Cx.Ok.nofr(ok:X.Ok){b:Addr}{o:Obj}(e:X.base.get? b=some o):b∉X.fs:=λam=>by
 have:=(ok.funs.mem am).1;rw[e] at this;cases this
theorem Inv.bs(I:Inv X ah σ H s):∀b o,X.base.get? b=some o→s.heap.get? b=some o∧H b=none:=λb o e=>
 ⟨I.base.keep b o (I.ok.bs b o e).1 (I.ok.bs b o e).2 (I.ok.nofr e) (I.ok.noex b o e),I.base.free b o (I.ok.bs b o e).1 (I.ok.bs b o e).2 (I.ok.noex b o e)⟩
theorem Inv.bk(I:Inv X ah σ H s):∀b o,X.base.get? b=some o→s.heap.get? b=some o:=λb o e=>(I.bs b o e).1
theorem Inv.mod(I:Inv X ah σ H s):Mod X.K X.mg X.base:=I.ok.mod
theorem Inv.kIn(I:Inv X ah σ H s):X.K.In s.heap:=I.ok.mod.kin.keeps I.bk
theorem Inv.lt(I:Inv X ah σ H s):X.env.locals<s.heap.objs.size:=let⟨_,bL,_⟩:=I.loc;bL.lt
theorem Inv.sz(I:Inv X ah σ H s):X.s₀.heap.objs.size≤s.heap.objs.size:=Qv I.ok.above (QW I.lt)
theorem Inv.nofs(I:Inv X ah σ H s){a:Addr}(h:s.heap.objs.size≤a):a∉X.fs:=λam=>by
 obtain⟨_,o,a_,_⟩:=I.ok.funs.mem am;exact absurd (Qu (Heap.lt_size a_) (Qv I.sz h)) (QU _)
theorem Inv.cne(I:Inv X ah σ H s):∀x c,X.env.cells.lookup x=some c→c≠X.env.locals:=λx c e z=>by
 obtain⟨v,o,a_,hd⟩:=I.cell x c e;obtain⟨m,⟨cS,a',ep,jV,mP,_⟩,_⟩:=I.loc;rw[z,jV] at a_;cases a_;rw[mP] at hd;cases hd
theorem Inv.funs(I:Inv X ah σ H s):s.heap.FunFrames X.base X.outer:=by
 have all:∀(l:List Env),(∀b∈frs l,b∈X.fs)→X.s₀.heap.FunFrames X.base l→s.heap.FunFrames X.base l:=by
  intro l
  induction l with
  |nil=>intro _ _;trivial
  |cons env r cI=>
   intro hs ai;obtain⟨aA,⟨L,o,aX,bL,a_,hd⟩,au⟩:=ai;have eI:L∈X.fs:=hs L (by unfold frs;rw[List.filterMap_cons,aX];exact QM);obtain⟨sl,e⟩:=I.base.slot L o a_ (I.ok.frf L eI) eI λz=>I.ok.exfs L z eI;exact⟨aA,⟨L,_,aX,bL,e,hd⟩,cI (λb am=>hs b (by unfold frs;rw[List.filterMap_cons,aX];exact QB _ am)) au⟩
 exact all X.outer (λ_ am=>am) I.ok.funs
theorem Inv.stack(I:Inv X ah σ H s):s.heap.FunFrames X.base X.stack:=by
 rcases I.ok.stk with e|⟨e,aX⟩
 ·rw[e];exact I.funs
 ·rw[e];obtain⟨m,bL,_⟩:=I.loc;refine .cons (by rw[I.ok.kind];decide) aX bL ?_ I.funs;exact Heap.get?_none_of_le (Qv I.ok.bsz I.ok.above)
theorem Inv.stkSub(I:Inv X ah σ H s):∀b∈frs X.stack,b∈X.env.locals::X.fs:=λb am=>by
 rcases I.ok.stk with e|⟨e,aX⟩
 ·rw[e] at am;exact QB _ am
 ·rw[e] at am;unfold frs at am;rw[List.filterMap_cons,aX] at am;exact am
theorem Inv.stkFree(I:Inv X ah σ H s):∀b∈frs X.stack,H b=none:=λb am=>by
 rcases Qe.mp (I.stkSub b am) with e|am
 ·rw[e];exact I.free
 ·obtain⟨_,o,a_,_⟩:=I.ok.funs.mem am;exact I.base.free b o a_ (I.ok.frf b am) λz=>I.ok.exfs b z am
theorem Inv.step{g':Array GenState}{t':Nat}{d':Drawn}{ch:List Addr}(I:Inv X ah σ H s)
  (jp:∀b∈ch,(b∈X.ex∨X.s₀.heap.objs.size≤b)∧b≠X.env.locals∧(∀x c,X.env.cells.lookup x=some c→c≠b)∧∀p∈X.pn++ah,p.1≠b)
  (keep:∀b o,b≠X.env.locals→b∉X.fs→b∉ch→s.heap.get? b=some o→H b=none→h'.get? b=some o)
  (slot:∀b o,b≠X.env.locals→b∈X.fs→b∉ch→s.heap.get? b=some o→H b=none→∃sl,h'.get? b=some {o with slots:=sl}) (free:∀b o,b∉ch→s.heap.get? b=some o→H b=none→H' b=none)
  (there:∀b o,b∉ch→s.heap.get? b=some o→∃cS,h'.get? b=some cS)
  (tups:∀b xs,H b=some (.tup xs)→H' b=some (.tup xs)) (frzs:∀b o u,H b=some (.frz o u)→H' b=some (.frz o u)) (tbls:∀b a5,H b=some (.tbl a5)→∃more,H' b=some (.tbl (a5++more)))
  (ns:∀m,s.heap.Ns X.env.locals m→h'.Ns X.env.locals m) (hok:HOk X.prog X.w H' h') (ci:AllBare g'):
  Inv X ah σ H' {s with heap:=h',gens:=g',drawn:=d',toks:=t'}:=by
 have mQ:∀b o,X.s₀.heap.get? b=some o→b≠X.env.locals:=λb o e=>Qs (Qu (Heap.lt_size e) I.ok.above);have p4:∀b o,X.s₀.heap.get? b=some o→b∉X.ex→b∉ch:=λb o e al am=>by
  rcases(jp b am).1 with z|z
  ·exact al z
  ·exact absurd (Qu (Heap.lt_size e) z) (QU _)
 have v3:∀x c,X.env.cells.lookup x=some c→∀v,s.heap.IsCell c v→h'.IsCell c v:=λx c e v ⟨o,a_,hd⟩=>by
  have ob:c∉ch:=λz=>(jp c z).2.2.1 x c e rfl
  by_cases aG:c∈X.fs
  ·obtain⟨sl,q⟩:=slot c o (I.cne x c e) aG ob a_ (I.freeC x c e);exact⟨_,q,hd⟩
  ·exact⟨o,keep c o (I.cne x c e) aG ob a_ (I.freeC x c e),hd⟩
 refine⟨I.ok,I.os,ci,⟨λb o e n am al=>?_,λb o e n am al=>?_,λb o e n al=>?_,λb o e al=>?_,λb xs e=>tups b xs (I.base.tups b xs e),λb o xs e=>frzs b o xs (I.base.frzs b o xs e),λb a5 e=>?_⟩,?_,λx c e=>?_,?_,λx c e=>?_,λp a1=>?_,hok,I.len⟩
 ·exact keep b o (mQ b o e) am (p4 b o e al) (I.base.keep b o e n am al) (I.base.free b o e n al)
 ·obtain⟨sl,aV⟩:=I.base.slot b o e n am al;obtain⟨oc,a8⟩:=slot b _ (mQ b o e) am (p4 b o e al) aV (I.base.free b o e n al);exact⟨oc,a8⟩
 ·obtain⟨cS,aV⟩:=I.base.there b o e al;exact free b cS (p4 b o e al) aV (I.base.free b o e n al)
 ·obtain⟨cS,aV⟩:=I.base.there b o e al;exact there b cS (p4 b o e al) aV
 ·obtain⟨g7,aV⟩:=I.base.tbls b a5 e;obtain⟨h3,a8⟩:=tbls b _ aV;exact⟨g7++h3,by rw[a8,Array.append_assoc]⟩
 ·obtain⟨m,bL,ai⟩:=I.loc;refine⟨m,ns m bL,λi x v aV a8 eP=>?_⟩;obtain⟨u,r,l⟩:=ai i x v aV a8 eP;refine⟨u,r,?_⟩;rcases l with l|⟨k,c,e,z⟩
  ·exact .inl l
  ·exact .inr ⟨k,c,e,v3 x c e _ z⟩
 ·obtain⟨v,z⟩:=I.cell x c e;exact⟨v,v3 x c e v z⟩
 ·obtain⟨m,⟨o,_,_,a_,_⟩,_⟩:=I.loc;exact free _ o (λz=>(jp _ z).2.1 rfl) a_ I.free
 ·obtain⟨v,o,a_,hd⟩:=I.cell x c e;exact free c o (λz=>(jp c z).2.2.1 x c e rfl) a_ (I.freeC x c e)
 ·obtain⟨e,n,ne,f4,d⟩:=I.pin p a1;have ob:p.1∉ch:=λz=>(jp p.1 z).2.2.2 p a1 rfl;exact⟨keep p.1 p.2 ne f4 ob e n,free p.1 p.2 ob e n,ne,f4,d⟩
theorem Inv.un{t':Nat}(I:Inv X ah σ H s)(u:Un X.fs [] H H' s.heap h')(hok:HOk X.prog X.w H' h'):Inv X ah σ H' {s with heap:=h',toks:=t'}:=by
 obtain⟨m,⟨o,a',ep,a_,r⟩,_⟩:=id I.loc;obtain⟨sl,eI⟩:=u.any a_ I.free (by simp);exact I.step (g':=s.gens) (d':=s.drawn) (ch:=[]) (λ_ z=>nomatch z) (λb o _ am _ e n=>u.keep b o e n am (by simp)) (λb o _ am _ e n=>u.slot b o e n am (by simp)) (λb o _ e n=>u.free b o e n (by simp)) (λb o _ e=>u.there b o e (by simp)) u.tups u.frzs u.tbls (λcn a4=>by
  obtain⟨cS,r8,r9,jV,c0⟩:=a4;rw[a_] at jV;cases jV;exact⟨_,r8,r9,eI,c0⟩) hok I.bare
theorem Inv.call{g':Array GenState}{t':Nat}{d':Drawn}{ch:List Addr}(I:Inv X ah σ H s)(u:Un (frs X.stack) ch H H' s.heap h')(hok:HOk X.prog X.w H' h')(ci:AllBare g')
  (jp:∀b∈ch,(b∈X.ex∨X.s₀.heap.objs.size≤b)∧b≠X.env.locals∧(∀x c,X.env.cells.lookup x=some c→c≠b)∧∀p∈X.pn++ah,p.1≠b):
  Inv X ah σ H' {s with heap:=h',gens:=g',drawn:=d',toks:=t'}:=by
 obtain⟨m,⟨o,a',ep,a_,r⟩,_⟩:=id I.loc;obtain⟨sl,eI⟩:=u.any a_ I.free λz=>(jp _ z).2.1 rfl;exact I.step (ch:=ch) jp (λb o eI am aG e n=>u.keep b o e n (λz=>(Qe.mp (I.stkSub b z)).elim eI am) aG) (λb o _ _ aG e n=>u.any e n aG) (λb o aG e n=>u.free b o e n aG) (λb o aG e=>u.there b o e aG) u.tups u.frzs u.tbls (λcn a4=>by
  obtain⟨cS,r8,r9,jV,c0⟩:=a4;rw[a_] at jV;cases jV;exact⟨_,r8,r9,eI,c0⟩) hok ci
theorem Inv.turned{t':Nat}{it:Addr}(I:Inv X ah σ H s)(k:∀b o,b≠it→s.heap.get? b=some o→h'.get? b=some o)(bL:H it=none)(eI:it≠X.env.locals)
  (aq:it∈X.ex∨X.s₀.heap.objs.size≤it) (av:∀x c,X.env.cells.lookup x=some c→c≠it) (b_:∀p∈X.pn++ah,p.1≠it):Inv X ah σ H {s with heap:=h',toks:=t'}:=by
 have od:∀b u,H b=some u→b≠it:=λb u e z=>by rw[z,bL] at e;cases e
 refine I.step (g':=s.gens) (d':=s.drawn) (ch:=[it]) (λb am=>?_) (λb o _ _ aG e _=>k b o (λz=>aG (by simp[z])) e) (λb o _ _ aG e _=>⟨o.slots,k b o (λz=>aG (by simp[z])) e⟩) (λ_ _ _ _ n=>n)
  (λb o aG e=>⟨o,k b o (λz=>aG (by simp[z])) e⟩) (λ_ _ e=>e) (λ_ _ _ e=>e) (λb a5 e=>⟨#[],by rw[e];simp⟩) (λm a4=>?_) (λb u e=>?_) I.bare
 ·have e:b=it:=by simpa using am
  subst e;exact⟨aq,eI,av,b_⟩
 ·obtain⟨o,a',ep,a_,r⟩:=a4;exact⟨o,a',ep,k _ o (GE eI) a_,r⟩
 ·refine(I.hok b u e).stay (λc v aG q=>k c v ?_ q) (λ_ q=>q) λ_ _ q=>q;rcases aG with z|z
  ·rw[z];exact od b u e
  ·exact od c _ z
theorem Inv.tok(I:Inv X ah σ H s)(t:Nat):Inv X ah σ H {s with toks:=t}:=I.un (h':=s.heap) (t':=t) Un.refl I.hok
theorem Inv.kept{t':Nat}(I:Inv X ah σ H s)(k:∀b u,s.heap.get? b=some u→h'.get? b=some u):Inv X ah σ H {s with heap:=h',toks:=t'}:=I.un (Un.kept k) (I.hok.kept k)
theorem Inv.laid{a:Addr}{o:HO}{t':Nat}(I:Inv X ah σ H s)(k:∀b u,s.heap.get? b=some u→h'.get? b=some u)(a1:s.heap.objs.size≤a)(new:ZW X.prog X.w (upd H a o) h' a o):
  Inv X ah σ (upd H a o) {s with heap:=h',toks:=t'}:=I.un (Un.laid k a1 (I.hok.fresh a1)) (I.hok.laid k a1 new)
theorem Inv.write{x e:Addr}{o:HO}{t':Nat}(I:Inv X ah σ H s)(hL:Mut (H x))(b':e=x∨H e=some (.own x))(k:∀b u,b≠e→s.heap.get? b=some u→h'.get? b=some u)(jS:∃u,h'.get? e=some u)
  (new:ZW X.prog X.w (upd H x o) h' x o):Inv X ah σ (upd H x o) {s with heap:=h',toks:=t'}:=I.un (Un.write hL b' k jS) (I.hok.write hL b' k jS new)
theorem Inv.pins_of{mR:List (Addr×Obj)}(I:Inv X ah σ H s)(h:∀p∈mR,s.heap.get? p.1=some p.2∧H p.1=none∧p.1≠X.env.locals∧p.1∉X.fs∧∀v,p.2.data≠ .cell v):Inv X mR σ H s:=
 ⟨I.ok,I.os,I.bare,I.base,I.loc,I.cell,I.free,I.freeC,λp a1=>(QD.mp a1).elim (λz=>I.pin p (QX _ z)) (h p),I.hok,I.len⟩
theorem r_{N:List Str}(eu:N.Nodup){i j:Nat}{x:Str}(a:N[i]? =some x)(b:N[j]? =some x):i=j:=by
 obtain⟨aq,aV⟩:=Qj.mp a;obtain⟨av,a8⟩:=Qj.mp b;exact(List.getElem_inj eu).mp (aV.trans a8.symm)
theorem v4{M:Model}{A:Around}{E:Value→Shared→Prop}{i:Nat}{x:Str}{v:V}{u:Value}{Q:Unit→Shared→Prop}(I:Inv X ah σ H s)(eu:X.N.Nodup)(hi:X.N[i]? =some x)(al:Loc X.env.scope x)(r:cO v u)
  (h:∀s',Inv X ah (σ.set i (some v)) H s'→(∃a,Heap.SameBut a s.heap s'.heap∧(a=X.env.locals∨X.env.cells.lookup x=some a))→Q () s') (aX:X.fn x=true∨X.env.scope.names.lookup x=some .local:=by first|exact .inl rfl|exact .inr rfl|assumption):wpAny M A (storeName X.env x u) Q E s:=by
 obtain⟨m,bL,ai⟩:=id I.loc;have r':(X.env.scope.kind== .class||(X.env.scope.kind== .module&&X.env.locals != X.env.globals))=false:=by rw[I.ok.kind];rfl
 have v5:i<σ.length:=by rw[I.len];exact(Qj.mp hi).1
 have cne:=I.cne;have v6:∀{a:Addr}{h':Heap},(∃o,s.heap.get? a=some o∧H a=none)→Heap.SameBut a s.heap h'→HOk X.prog X.w H h':=λ{a h'} aS hs b c4 e=>by
  obtain⟨_,_,v7⟩:=aS;refine(I.hok b c4 e).stay (λc hM aG q=>(hs.2 c ?_).trans q) (λ_ q=>q) λ_ _ q=>q;rintro rfl;rcases aG with rfl|aG
  ·rw[v7] at e;cases e
  ·rw[v7] at aG;cases aG
 rcases al with aA|aA
 ·refine wpAny_storeName_local aA bL (λh' Bz hs=>?_) r';obtain⟨BA,_,_,BB,_⟩:=id bL;refine h _ ⟨I.ok,I.os,I.bare,⟨λb o e n am al=>?_,λb o e n am al=>?_,I.base.free,λb o e al=>?_,I.base.tups,I.base.frzs,I.base.tbls⟩,⟨_,Bz,λj y mS aV a8 eP=>?_⟩,λy c e=>?_,I.free,I.freeC,λp a1=>?_,v6 ⟨BA,BB,I.free⟩ hs,by simpa using I.len⟩ ⟨_,hs,.inl rfl⟩
  ·exact(hs.2 b (Qs (Qu (Heap.lt_size e) I.ok.above))).trans (I.base.keep b o e n am al)
  ·obtain⟨sl,aV⟩:=I.base.slot b o e n am al;exact⟨sl,(hs.2 b (Qs (Qu (Heap.lt_size e) I.ok.above))).trans aV⟩
  ·obtain⟨cS,aV⟩:=I.base.there b o e al;exact⟨cS,(hs.2 b (Qs (Qu (Heap.lt_size e) I.ok.above))).trans aV⟩
  ·by_cases aU:j=i
   ·subst aU;rw[hi] at aV;cases aV;rw[QZ v5] at a8;cases a8;exact⟨u,r,.inl ⟨aA,by simp⟩⟩
   ·rw[Q8 (GE aU)] at a8;obtain⟨p5,c0,q⟩:=ai j y mS aV a8 eP;refine⟨p5,c0,?_⟩;rcases q with⟨k,e⟩|⟨k,c,e,z⟩
    ·refine .inl ⟨k,?_⟩;have:y≠x:=λe=>aU (r_ eu aV (e▸hi));simp[this,e]
    ·exact .inr ⟨k,c,e,z.sameBut hs (cne y c e)⟩
  ·obtain⟨hM,z⟩:=I.cell y c e;exact⟨hM,z.sameBut hs (cne y c e)⟩
  ·obtain⟨e,n,ne,f4,d⟩:=I.pin p a1;exact⟨(hs.2 p.1 ne).trans e,n,ne,f4,d⟩
 ·have jW:X.fn x=true:=by
   rcases aX with z|z
   ·exact z
   ·rw[z] at aA;cases aA
  obtain⟨c,aG⟩:=I.ok.has x (.inl aA);obtain⟨hM,z⟩:=I.cell x c aG;refine wpAny_storeName_cell I.ok.kind aA aG z (λh' jX hs=>?_);obtain⟨e_,v8,BC⟩:=id z;refine h {s with heap:=h'} ⟨I.ok,I.os,I.bare,⟨λb o e n am al=>?_,λb o e n am al=>?_,I.base.free,λb o e al=>?_,I.base.tups,I.base.frzs,I.base.tbls⟩,⟨m,bL.sameBut hs (GE (cne x c aG)),λj y mS aV a8 eP=>?_⟩,λy dZ e=>?_,I.free,I.freeC,λp a1=>?_,v6 ⟨e_,v8,I.freeC x c aG⟩ hs,by simpa using I.len⟩ ⟨c,hs,.inr aG⟩
  ·exact(hs.2 b (Qs (Qu (Heap.lt_size e) (I.ok.cab x c jW aG)))).trans (I.base.keep b o e n am al)
  ·obtain⟨sl,aV⟩:=I.base.slot b o e n am al;exact⟨sl,(hs.2 b (Qs (Qu (Heap.lt_size e) (I.ok.cab x c jW aG)))).trans aV⟩
  ·obtain⟨cS,aV⟩:=I.base.there b o e al;exact⟨cS,(hs.2 b (Qs (Qu (Heap.lt_size e) (I.ok.cab x c jW aG)))).trans aV⟩
  ·by_cases aU:j=i
   ·subst aU;rw[hi] at aV;cases aV;rw[QZ v5] at a8;cases a8;exact⟨u,r,.inr ⟨.inl aA,c,aG,jX⟩⟩
   ·rw[Q8 (GE aU)] at a8;obtain⟨p5,c0,q⟩:=ai j y mS aV a8 eP;refine⟨p5,c0,?_⟩;rcases q with q|⟨k,dZ,e,fP⟩
    ·exact .inl q
    ·refine .inr ⟨k,dZ,e,fP.sameBut hs ?_⟩;rintro rfl;exact aU (r_ eu aV (I.ok.inj _ _ _ e aG▸hi))
  ·by_cases p6:dZ=c
   ·subst p6;exact⟨_,jX⟩
   ·obtain⟨lD,d_⟩:=I.cell y dZ e;exact⟨lD,d_.sameBut hs p6⟩
  ·obtain⟨e,n,ne,f4,d⟩:=I.pin p a1;refine⟨(hs.2 p.1 ?_).trans e,n,ne,f4,d⟩;intro q;rw[q,v8] at e;have g6:e_=p.2:=Qq e;exact d hM (by rw[←g6];exact BC)
theorem oe{M:Model}{A:Around}{E:Value→Shared→Prop}{i:Nat}{x:Str}{v:V}{u:Value}{Q:Unit→Shared→Prop}(I:Inv X ah σ H s)(eu:X.N.Nodup)(hi:X.N[i]? =some x)(al:Loc X.env.scope x)(r:cO v u)
  (h:∀s',Inv X ah (σ.set i (some v)) H s'→Q () s') (aX:X.fn x=true∨X.env.scope.names.lookup x=some .local:=by first|exact .inl rfl|exact .inr rfl|assumption):wpAny M A (storeName X.env x u) Q E s:=
 v4 I eu hi al r (λs' eA _=>h s' eA) aX
theorem Inv.call'{s':Shared}{ch:List Addr}(I:Inv X ah σ H s)(a_:s'.os=s.os)(u:Un (frs X.stack) ch H H' s.heap s'.heap)(hok:HOk X.prog X.w H' s'.heap)(ci:AllBare s'.gens)
  (jp:∀b∈ch,(b∈X.ex∨X.s₀.heap.objs.size≤b)∧b≠X.env.locals∧(∀x c,X.env.cells.lookup x=some c→c≠b)∧∀p∈X.pn++ah,p.1≠b):Inv X ah σ H' s':=by
 obtain⟨h',g',d',t',cS⟩:=s';have e:cS=s.os:=a_;subst e;exact I.call (g':=g') (t':=t') (d':=d') u hok ci jp
end
noncomputable abbrev XK:=Value→Option Addr→Hp→Prop
noncomputable abbrev St:=List (Option V)
noncomputable abbrev VK:=V→Hp→Prop
noncomputable abbrev TE:=St→Hp→VK→Prop
noncomputable abbrev TT:=St→Hp→(Bool→Hp→Prop)→Prop
noncomputable abbrev TA:=St→Hp→(List V→Hp→Prop)→Prop
structure WP where
 nx:St→Hp→Prop
 rt:VK
 bk:St→Hp→Prop:=λ_ _=>False
 ct:St→Hp→Prop:=λ_ _=>False
noncomputable abbrev TS:=WP→St→Hp→Prop
def EP(X:Cx)(ah:List (Addr×Obj))(σ:St)(Q:VK)(u:Value)(s':Shared):Prop:=∃v H',Inv X ah σ H' s'∧cO v u∧Q v H'
def TP(X:Cx)(ah:List (Addr×Obj))(σ:St)(Q:Bool→Hp→Prop)(b:Bool)(s':Shared):Prop:=∃H',Inv X ah σ H' s'∧Q b H'
def AP(X:Cx)(ah:List (Addr×Obj))(σ:St)(Q:List V→Hp→Prop)(us:List Value)(s':Shared):Prop:=∃vs H',Inv X ah σ H' s'∧cD vs us∧Q vs H'
def SP(X:Cx)(ah:List (Addr×Obj))(D:WP)(f:Flow)(s':Shared):Prop:=
 match f with
 | .next=>∃aW H',Inv X ah aW H' s'∧D.nx aW H'
 | .brk=>∃aW H',Inv X ah aW H' s'∧D.bk aW H'
 | .cont=>∃aW H',Inv X ah aW H' s'∧D.ct aW H'
 | .ret u=>∃v aW H',Inv X ah aW H' s'∧cO v u∧D.rt v H'
def PE(X:Cx)(e:Expr)(t:TE):Prop:=
 ∀(ah:List (Addr×Obj))(s:Shared)(σ:St)(H:Hp)(Q:VK),Inv X ah σ H s→t σ H Q→wpAny (model X.prog X.w) X.A (eval e X.env) (EP X ah σ Q) X.xe s
def PT(X:Cx)(e:Expr)(t:TT):Prop:=
 ∀(ah:List (Addr×Obj))(s:Shared)(σ:St)(H:Hp)(Q:Bool→Hp→Prop),Inv X ah σ H s→t σ H Q→wpAny (model X.prog X.w) X.A (isTrue e X.env (eval e X.env)) (TP X ah σ Q) X.xe s
def PW(X:Cx)(e:Expr)(t:TT):Prop:=
 ∀(lE:Sem Value)(ah:List (Addr×Obj))(s:Shared)(σ:St)(H:Hp)(Q:Bool→Hp→Prop),Inv X ah σ H s→t σ H Q→wpAny (model X.prog X.w) X.A (isTrue e X.env lE) (TP X ah σ Q) X.xe s
theorem PW.pt{X:Cx}{e:Expr}{t:TT}(h:PW X e t):PT X e t:=h _
def PA(X:Cx)(a':List Expr)(t:TA):Prop:=
 ∀(pos:Pos)(ah:List (Addr×Obj))(s:Shared)(σ:St)(H:Hp)(Q:List V→Hp→Prop),Inv X ah σ H s→t σ H Q→wpAny (model X.prog X.w) X.A (spliced (backTo pos (starEach a' X.env))) (AP X ah σ Q) X.xe s
def PS(X:Cx)(st:Stmt)(t:TS):Prop:=
 ∀(ah:List (Addr×Obj))(s:Shared)(σ:St)(H:Hp)(D:WP),Inv X ah σ H s→t D σ H→wpAny (model X.prog X.w) X.A (exec st X.env) (SP X ah D) X.xe s
def PSs(X:Cx)(st:List Stmt)(t:TS):Prop:=
 ∀(ah:List (Addr×Obj))(s:Shared)(σ:St)(H:Hp)(D:WP),Inv X ah σ H s→t D σ H→wpAny (model X.prog X.w) X.A (execs st X.env) (SP X ah D) X.xe s
theorem thn{cG:Type}{t:Sem cG}{Q og:cG→Shared→Prop}{M:Model}{A:Around}{E:Value→Shared→Prop}{s:Shared}(h:wpAny M A t Q E s)(eX:∀a s,Q a s→og a s):wpAny M A t og E s:=wpAny_mono h eX λ_ _ x=>x
section
variable {X:Cx}
theorem bin{a b:Expr}{bn cQ:TE}(aS:PE X a bn)(am:PE X b cQ){ah:List (Addr×Obj)}{s:Shared}{σ:St}{H:Hp}{R:V→V→Hp→Prop}(I:Inv X ah σ H s)(h:bn σ H λx ao=>cQ σ ao λy ar=>R x y ar)
  {cG:Type} {Q:cG→Shared→Prop} {f:Value→Value→Sem cG}
  (aX:∀v u bc x y ar,Inv X ah σ ar bc→cO x v→cO y u→R x y ar→wpAny (model X.prog X.w) X.A (f v u) Q X.xe bc):
  wpAny (model X.prog X.w) X.A (eval a X.env) (λv dr=>wpAny (model X.prog X.w) X.A (eval b X.env) (λu iQ=>wpAny (model X.prog X.w) X.A (f v u) Q X.xe iQ) X.xe dr) X.xe s:=by
 refine thn (aS ah s σ H _ I h) λv aB ⟨x,ao,a0,cy,cz⟩=>?_;refine thn (am ah aB σ ao _ a0 cz) λu bc ⟨y,ar,cR,cU,c6⟩=>?_;exact aX v u bc x y ar cR cy cU c6
noncomputable def Zed (i:Nat):TE:=λσ H Q=>∃v,σ[i]? =some (some v)∧Q v H
noncomputable def tC (v:V):TE:=λ_ H Q=>Q v H
theorem Zjy{i:Nat}{x:Str}{pos:Pos}(eu:X.N[i]? =some x)(cH:Vis X.env.scope x)(hd:(x==("__debug__" :Str))=false:=by decide)(ho:(x==("__classdict__" :Str))=false:=by decide):PE X (.Name x pos) (Zed i):=by
 intro ah s σ H Q I h;obtain⟨v,e,h⟩:=h;obtain⟨m,bL,ai⟩:=I.loc;obtain⟨u,r,l⟩:=ai i x v eu e cH;have eQ:EP X ah σ Q u s:=⟨v,H,I,r,h⟩;rcases l with⟨aA,a4⟩|⟨aA,c,aG,kt⟩
 ·exact wpAny_Name (wpAny_loadName_local I.ok.kind aA bL a4 eQ) hd
 ·rcases aA with aA|aA
  ·exact wpAny_Name (wpAny_loadName_cell I.ok.kind aA aG kt eQ) hd
  ·exact wpAny_Name (wpAny_loadName_free I.ok.kind aA aG kt eQ ho) hd
theorem Zg{i j pos}:PE X (.Constant (.int i) j pos) (tC (.int i)):=λ_ _ _ H _ I h=>wpAny_Constant_int ⟨.int i,H,I.tok _,⟨_,rfl⟩,h⟩
theorem WB{b j pos}:PE X (.Constant (.bool b) j pos) (tC (.bl b)):=λ_ _ _ H _ I h=>Constant_bool ⟨.bl b,H,I,rfl,h⟩
theorem Wj{j pos}:PE X (.Constant .none j pos) (tC .non):=λ_ _ _ H _ I h=>Constant_none ⟨.non,H,I,rfl,h⟩
theorem Yl{x j pos}:PE X (.Constant (.str x) j pos) (tC (.str x)):=λ_ _ _ H _ I h=>Calls.Constant_str ⟨.str x,H,I.tok _,⟨_,rfl⟩,h⟩
def Gl(X:Cx)(x:Str):Prop:=X.env.kindOf x=some .globalImplicit
theorem ku{E:Value→Shared→Prop}{ah:List (Addr×Obj)}{s:Shared}{σ:St}{H:Hp}{x:Str}{u:Value}{pos:Pos}{Q:Value→Shared→Prop}(I:Inv X ah σ H s)(ci:Gl X x)(a4:X.mg x=some u)(h:Q u s)
  (hd:(x==("__debug__" :Str))=false:=by decide):wpAny (model X.prog X.w) X.A (eval (.Name x pos) X.env) Q E s:=
 Calls.Name_function_global I.ok.kind ci (Calls.loadGlobal_global (by rw[I.ok.glob];exact I.mod.glob.keeps I.bk) a4 h) hd
theorem mT{E:Value→Shared→Prop}{ah:List (Addr×Obj)}{s:Shared}{σ:St}{H:Hp}{x:Str}{u:Value}{pos:Pos}{Q:Value→Shared→Prop}(I:Inv X ah σ H s)(ci:Gl X x)(a4:X.mg x=none)(cH:bootBuiltins x=some u)(h:Q u s)
  (bL:x≠"__name__" :=by decide) (hd:(x==("__debug__" :Str))=false:=by decide):wpAny (model X.prog X.w) X.A (eval (.Name x pos) X.env) Q E s:=by
 obtain⟨io,aq,av⟩:=I.mod.blt;exact Calls.Name_function_global I.ok.kind ci (Calls.loadGlobal_builtin (by rw[I.ok.glob];exact I.mod.glob.keeps I.bk) a4 (by rw[I.ok.blt];exact aq.keeps I.bk) ((av x bL).trans cH) h) hd
theorem lF{x:Str}{v:V}{u:Value}{pos:Pos}(ci:Gl X x)(a4:X.mg x=some u)(r:cO v u)(hd:(x==("__debug__" :Str))=false:=by decide):PE X (.Name x pos) (tC v):=
 λ_ _ _ H _ I h=>ku I ci a4 ⟨v,H,I,r,h⟩ hd
theorem kv{x:Str}{v:V}{u:Value}{pos:Pos}(ci:Gl X x)(a4:X.mg x=none)(cH:bootBuiltins x=some u)(r:cO v u)(bL:x≠"__name__" :=by decide)(hd:(x==("__debug__" :Str))=false:=by decide):PE X (.Name x pos) (tC v):=
 λ_ _ _ H _ I h=>mT I ci a4 cH ⟨v,H,I,r,h⟩ bL hd
variable {a b:Expr}{bn cQ:TE}{pos:Pos}
variable {jq p7:TT}{rest:List Expr}
noncomputable def v9 (t u:TT):TT:=λσ H Q=>t σ H λc ao=>if c=true then u σ ao Q else Q false ao
noncomputable def tOr (t u:TT):TT:=λσ H Q=>t σ H λc ao=>if c=true then Q true ao else u σ ao Q
noncomputable def v_ (t:TT):TT:=λσ H Q=>t σ H λc ao=>Q (!c) ao
theorem p8(aS:PT X a jq):PW X (.BoolOp .And [a] pos) jq:=by
 intro oh ah s σ H Q I h;refine isTrue_and (thn (aS ah s σ H Q I h) λc aB e=>?_);cases c with
 |true=>exact isTrue_and_nil e
 |false=>exact e
theorem ip(aS:PT X a jq):PW X (.BoolOp .Or [a] pos) jq:=by
 intro oh ah s σ H Q I h;refine isTrue_or (thn (aS ah s σ H Q I h) λc aB e=>?_);cases c with
 |false=>exact isTrue_or_nil e
 |true=>exact e
theorem p9(aS:PT X a jq)(am:PW X (.BoolOp .And (b::rest) pos) p7):PW X (.BoolOp .And (a::b::rest) pos) (v9 jq p7):=by
 intro oh ah s σ H Q I h;refine isTrue_and (thn (aS ah s σ H _ I h) λc aB ⟨ao,a0,cz⟩=>?_);cases c with
 |true=>exact am oh ah aB σ ao Q a0 cz
 |false=>exact⟨ao,a0,cz⟩
theorem h4(aS:PT X a jq)(am:PW X (.BoolOp .Or (b::rest) pos) p7):PW X (.BoolOp .Or (a::b::rest) pos) (tOr jq p7):=by
 intro oh ah s σ H Q I h;refine isTrue_or (thn (aS ah s σ H _ I h) λc aB ⟨ao,a0,cz⟩=>?_);cases c with
 |true=>exact⟨ao,a0,cz⟩
 |false=>exact am oh ah aB σ ao Q a0 cz
theorem gD(aS:PT X a jq):PT X (.UnaryOp .Not a pos) (v_ jq):=by
 intro ah s σ H Q I h;exact isTrue_not (aS ah s σ H (λc ao=>Q (!c) ao) I h)
noncomputable def v' (bn cQ:TE):TE:=λσ H Q=>bn σ H λx ao=>∃c,x= .bl c∧if c=true then cQ σ ao Q else Q (.bl false) ao
noncomputable def wa (bn:TE):TE:=λσ H Q=>bn σ H λx ao=>∃c,x= .bl c∧Q (.bl (!c)) ao
theorem p_{op}{t:TE}(h:PE X a t):PE X (.BoolOp op [a] pos) t:=λah s σ H Q I hw=>BoolOp_one (h ah s σ H Q I hw)
theorem p'(aS:PE X a bn)(am:PE X (.BoolOp .And (b::rest) pos) cQ):PE X (.BoolOp .And (a::b::rest) pos) (v' bn cQ):=by
 intro ah s σ H Q I h;refine BoolOp_and (thn (aS ah s σ H _ I h) λv aB ⟨x,ao,a0,cy,cz⟩=>?_);obtain⟨c,rfl,cz⟩:=cz;cases cy;refine wpAny_truthy_bool ?_;cases c with
 |true=>exact am ah aB σ ao Q a0 cz
 |false=>exact⟨.bl false,ao,a0,rfl,cz⟩
theorem BD(aS:PE X a bn):PE X (.UnaryOp .Not a pos) (wa bn):=by
 intro ah s σ H Q I h;refine UnaryOp_ (thn (aS ah s σ H _ I h) λv aB ⟨x,ao,a0,cy,cz⟩=>?_);obtain⟨c,rfl,cz⟩:=cz;cases cy;exact not_of (wpAny_truthy_bool ⟨.bl (!c),ao,a0,rfl,cz⟩)
end
def SqL(K:Frag)(H:Hp)(a:Addr)(xs:List V):Prop:=
 Rd H a (.lst xs)∨
  ∃(o:Obj)(its:Array Value)(n:Nat),K.lookup a=some o∧o.cls= .type "list" ∧o.dict=none∧o.data= .seq its n∧its.size≤sizeLine∧cD xs its.toList
def SqT(K:Frag)(H:Hp)(a:Addr)(xs:List V):Prop:=
 Rd H a (.tup xs)∨
  ∃(o:Obj)(its:Array Value)(n:Nat),K.lookup a=some o∧o.cls= .type "tuple" ∧o.data= .seq its n∧its.size≤sizeLine∧cD xs its.toList
noncomputable def BE:Value→Option V
 | .none=>some .non
 | .bool b=>some (.bl b)
 | .int i _=>some (.int i)
 | .str x _=>some (.str x)
 | .bytes b _=>some (.byt b)
 | .float b _=>some (.flt b)
 | .ref a=>some (.ref a)
 | .type n=>some (.ty n)
 |_=>none
theorem cO.abs{x:V}{u:Value}(r:cO x u):BE u=some x:=by
 cases x with
 |non=>cases r;rfl
 |bl _=>cases r;rfl
 |int _=>obtain⟨t,rfl⟩:=r;rfl
 |str _=>obtain⟨t,rfl⟩:=r;rfl
 |byt _=>obtain⟨t,rfl⟩:=r;rfl
 |flt _=>obtain⟨t,rfl⟩:=r;rfl
 |ref _=>cases r;rfl
 |ty _=>cases r;rfl
theorem cO.inj{x y:V}{u:Value}(r:cO x u)(q:cO y u):x=y:=Qq (r.abs.symm.trans q.abs)
theorem cD.inj:∀{xs ys:List V}{us:List Value},cD xs us→cD ys us→xs=ys
 |_,_,_,.nil,.nil=>rfl
 |_,_,_,.cons r t,.cons c0 t'=>by rw[r.inj c0,cD.inj t t']
section
variable {X:Cx}{ah:List (Addr×Obj)}{σ:St}{H:Hp}{s:Shared}{a:Addr}{xs ys:List V}
theorem SqL.of{K:Frag}(h:H a=some (.lst xs)):SqL K H a xs:= .inl (.inl h)
theorem SqT.of{K:Frag}(h:H a=some (.tup xs)):SqT K H a xs:= .inl (.inl h)
theorem Inv.list(I:Inv X ah σ H s)(h:SqL X.K H a xs):∃its:List Value,cD xs its∧PlainL s.heap a its.toArray∧xs.length≤sizeLine:=by
 rcases h with h|⟨o,its,n,aA,aG,hd,hs,bh,r⟩
 ·obtain⟨z,its,n,r,e⟩:=h.ok I.hok;exact⟨its,r,⟨_,n,e,rfl,rfl,rfl⟩,z⟩
 ·refine⟨its.toList,r,⟨o,n,I.kIn a o aA,aG,hd,by simpa using hs⟩,?_⟩;have e:=r.length;simp only[Rt] at e;omega
theorem Inv.tuple(I:Inv X ah σ H s)(h:SqT X.K H a xs):∃its:List Value,cD xs its∧IsTup s.heap a its.toArray∧xs.length≤sizeLine:=by
 rcases h with h|⟨o,its,n,aA,aG,hs,bh,r⟩
 ·obtain⟨z,its,r,p⟩:=h.ok I.hok;exact⟨its,r,p,z⟩
 ·refine⟨its.toList,r,⟨o,I.kIn a o aA,aG,n,by simpa using hs⟩,?_⟩;have e:=r.length;simp only[Rt] at e;omega
theorem Inv.list_inj(I:Inv X ah σ H s)(h:SqL X.K H a xs)(h':SqL X.K H a ys):xs=ys:=by
 obtain⟨its,r,⟨o,n,e,_,_,d⟩,_⟩:=I.list h;obtain⟨its',c0,⟨cS,ec,cm,_,_,d'⟩,_⟩:=I.list h';rw[e] at cm;cases cm;rw[d] at d'
 injection d' with jY _
 have:its=its':=by simpa using congrArg Array.toList jY
 subst this;exact r.inj c0
theorem Inv.tuple_inj(I:Inv X ah σ H s)(h:SqT X.K H a xs)(h':SqT X.K H a ys):xs=ys:=by
 obtain⟨its,r,⟨o,e,_,n,d⟩,_⟩:=I.tuple h;obtain⟨its',c0,⟨cS,cm,_,ec,d'⟩,_⟩:=I.tuple h';rw[e] at cm;cases cm;rw[d] at d'
 injection d' with jY _
 have:its=its':=by simpa using congrArg Array.toList jY
 subst this;exact r.inj c0
end
section
variable {X:Cx}{ah:List (Addr×Obj)}{σ:St}{H:Hp}{s:Shared}{E:Value→Shared→Prop}
end
section
variable {X:Cx}{st:Stmt}{rest:List Stmt}{t u:TS}{e:Expr}{cr:TE}{pos:Pos}
noncomputable def tNext:TS:=λD σ H=>D.nx σ H
noncomputable def sb (t u:TS):TS:=λD σ H=>t {D with nx:=u D} σ H
theorem d5:PSs X [] tNext:=λ_ _ σ H _ I h=>wpAny_execs_nil ⟨σ,H,I,h⟩
theorem bg(aq:PS X st t)(av:PSs X rest u):PSs X (st::rest) (sb t u):=by
 intro ah s σ H D I h;refine wpAny_execs_cons (thn (aq ah s σ H {D with nx:=u D} I h) λf aB q=>?_);cases f with
 |next=>
  obtain⟨aW,H',eA,q⟩:=q;exact av ah aB aW H' D eA q
 |ret v=>exact q
 |brk=>exact q
 |cont=>exact q
theorem bq(aq:PS X st t):PSs X [st] t:=by
 intro ah s σ H D I h;refine wpAny_execs_cons (thn (aq ah s σ H D I h) λf aB q=>?_);cases f with
 |next=>exact wpAny_execs_nil q
 |ret v=>exact q
 |brk=>exact q
 |cont=>exact q
theorem Inv.quiet{ah:List (Addr×Obj)}{σ:St}{H:Hp}{s:Shared}(I:Inv X ah σ H s):interactive X.env=false:=by simp[interactive,I.ok.kind]
noncomputable def wb (cr:TE):TS:=λD σ H=>cr σ H λ_ ao=>D.nx σ ao
theorem eK(b':PE X e cr)(hs:swapsWith e none pos.line X.env=pure false:=by rfl):PS X (.Expr e pos) (wb cr):=by
 intro ah s σ H D I h;exact wpAny_Expr_any (thn (b' ah s σ H _ I h) λv aB ⟨x,ao,a0,cy,cz⟩=>⟨σ,ao,a0,cz⟩) I.quiet hs
noncomputable def wc (cr:TE):TS:=λD σ H=>cr σ H D.rt
theorem c'(b':PE X e cr):PS X (.Return (some e) pos) (wc cr):=by
 intro ah s σ H D I h;exact wpAny_Return_some (thn (b' ah s σ H _ I h) λv aB ⟨x,ao,a0,cy,cz⟩=>⟨x,σ,ao,a0,cy,cz⟩)
noncomputable def wd (c:TT) (t u:TS):TS:=λD σ H=>c σ H λb ao=>if b=true then t D σ ao else u D σ ao
theorem dM{c:Expr}{a b:List Stmt}{di:TT}(aG:PT X c di)(aS:PSs X a t)(am:PSs X b u):PS X (.If c a b pos) (wd di t u):=by
 intro ah s σ H D I h;refine wpAny_If (thn (aG ah s σ H _ I h) λd aB ⟨ao,a0,cz⟩=>?_);cases d with
 |true=>exact aS ah aB σ ao D a0 cz
 |false=>exact am ah aB σ ao D a0 cz
end
noncomputable abbrev TG:=V→St→Hp→(St→Hp→Prop)→Prop
noncomputable abbrev TGs:=List V→St→Hp→(St→Hp→Prop)→Prop
def PG(X:Cx)(target:Expr)(t:TG):Prop:=
 ∀(ah:List (Addr×Obj))(s:Shared)(σ:St)(H:Hp)(v:V)(u:Value)(Q:St→Hp→Prop),Inv X ah σ H s→cO v u→t v σ H Q→
  wpAny (model X.prog X.w) X.A (assign target X.env u) (λ_ s'=>∃aW H',Inv X ah aW H' s'∧Q aW H') X.xe s
def PGs(X:Cx)(cJ:List Expr)(t:TGs):Prop:=
 ∀(ah:List (Addr×Obj))(s:Shared)(σ:St)(H:Hp)(vs:List V)(us:List Value)(Q:St→Hp→Prop),Inv X ah σ H s→cD vs us→t vs σ H Q→
  wpAny (model X.prog X.w) X.A (assignInOrder ((assignEach cJ X.env).map (·.2)) us) (λ_ s'=>∃aW H',Inv X ah aW H' s'∧Q aW H') X.xe s
noncomputable abbrev Zbk:=V→V→V→Hp→(Hp→Prop)→Prop
def Zgg(X:Cx)(t:Zbk):Prop:=
 ∀(ah:List (Addr×Obj))(s:Shared)(σ:St)(H:Hp)(o i v:V)(de fQ u:Value)(Q:Hp→Prop),Inv X ah σ H s→cO o de→cO i fQ→cO v u→t o i v H Q→
  wpAny (model X.prog X.w) X.A (setItem de fQ u) (λ_ s'=>∃H',Inv X ah σ H' s'∧Q H') X.xe s
noncomputable abbrev TIp:=V→V→Hp→VK→Prop
def PIp(X:Cx)(op:Operator)(t:TIp):Prop:=
 ∀(ah:List (Addr×Obj))(s:Shared)(σ:St)(H:Hp)(x y:V)(v u:Value)(Q:VK),Inv X ah σ H s→cO x v→cO y u→t x y H Q→
  wpAny (model X.prog X.w) X.A (inplaceOp op v u) (EP X ah σ Q) X.xe s
section
variable {X:Cx}{pos:Pos}
noncomputable def VZ (i:Nat):TG:=λv σ H Q=>Q (σ.set i (some v)) H
theorem cP{i:Nat}{x:Str}(eu:X.N.Nodup)(hi:X.N[i]? =some x)(al:Loc X.env.scope x)(aX:X.fn x=true∨X.env.scope.names.lookup x=some .local:=by first|exact .inl rfl|exact .inr rfl|assumption):PG X (.Name x pos) (VZ i):=by
 intro ah s σ H v u Q I r h;exact wpAny_assign_Name (oe I eu hi al r (λs' eA=>⟨_,H,eA,h⟩) aX)
noncomputable def gNil:TGs:=λvs σ H Q=>vs=[]∧Q σ H
noncomputable def we (t:TG) (u:TGs):TGs:=λvs σ H Q=>∃v r,vs=v::r∧t v σ H λaW H'=>u r aW H' Q
theorem gj:PGs X [] gNil:=by
 intro ah s σ H vs us Q I r h;obtain⟨e,h⟩:=h;subst e;cases r;exact assignInOrder_nil ⟨σ,H,I,h⟩
theorem d0{e:Expr}{a':List Expr}{t:TG}{u:TGs}(aq:PG X e t)(av:PGs X a' u)
  (hs:(assignEach (e::a') X.env).map (·.2)=assign e X.env::(assignEach a' X.env).map (·.2):=by rfl):PGs X (e::a') (we t u):=by
 intro ah s σ H vs us Q I r h;obtain⟨v,Ni,aV,h⟩:=h;subst aV;cases r with
 |cons r gE=>
  rw[hs];refine assignInOrder_cons (thn (aq ah s σ H _ _ _ I r h) λ_ aB ⟨mU,ao,a0,cz⟩=>?_);exact av ah aB mU ao _ _ Q a0 gE cz
noncomputable def sc (K:Frag) (n:Nat) (t:TGs):TG:=λv σ H Q=>∃a xs,v= .ref a∧SqT K H a xs∧xs.length=n∧t xs σ H Q
theorem Zjc{a':List Expr}{k:Nat}{t:TGs}{n:Nat}(aG:X.calm=true)(h:PGs X a' t)
  (bL:(assignEach a' X.env).length=n:=by rfl) (ed:(assignEach a' X.env).findIdx? (·.1)=none:=by rfl):PG X (.Tuple a' k pos) (sc X.K n t):=by
 intro ah s σ H v u Q I r hw;obtain⟨a,xs,aV,cj,ai,hw⟩:=hw;subst aV;cases r;obtain⟨its,cW,aT,bh⟩:=I.tuple cj;refine assign_Tuple_tuple (I.ok.hd aG) aT (by simp[bL,←ai,cW.length]) ed λh' al=>?_;have a0:Inv X ah σ H {s with heap:=h'}:=I.kept (t':=s.toks) λb o e=>al b o (Qs (Heap.lt_size e)) e;exact h ah _ σ H xs _ Q a0 (by simpa using cW) hw
noncomputable def wf (to ti:TE) (t:Zbk):TG:=λv σ H Q=>to σ H λo ao=>ti σ ao λi ar=>t o i v ar λa2=>Q σ a2
theorem oi{o i:Expr}{to ti:TE}{t:Zbk}(a_:PE X o to)(hi:PE X i ti)(hs:Zgg X t)
  (aS:∀v,assign (.Subscript o i pos) X.env v=(do
   let de←holding [v] (eval o X.env)
   let fQ←holding [v,de] (eval i X.env)
   standAt pos
   holding [v,de,fQ] (setItem de fQ v)
   release [v,de,fQ] []):=by intro _;rfl):PG X (.Subscript o i pos) (wf to ti t):=by
 intro ah s σ H v u Q I r h;rw[aS];refine wpAny_bind (wpAny_holding (thn (a_ ah s σ H _ I h) λde aB ⟨x,ao,a0,cy,cz⟩=>?_));refine wpAny_bind (wpAny_holding (thn (hi ah aB σ ao _ a0 cz) λfQ bc ⟨y,ar,cR,cU,c6⟩=>?_));refine wpAny_bind (wpAny_standAt (wpAny_bind (wpAny_holding (thn (hs ah bc σ ar x y v de fQ u _ cR cy cU r c6) λ_ be ⟨a2,ef,fV⟩=>?_))));exact wpAny_release ⟨σ,a2,ef,fV⟩
noncomputable def oj (cr:TE) (g:TG):TS:=λD σ H=>cr σ H λx ao=>g x σ ao D.nx
theorem mV{cM e:Expr}{cr:TE}{g:TG}(b':PE X e cr)(ci:PG X cM g)(hs:swapsWithSole [cM] e pos.line X.env=pure false:=by rfl)(hw:swappedStores [cM] e X.env=pure none:=by rfl)
  (aq:(assignEach [cM] X.env).map (·.2)=[assign cM X.env]:=by rfl):PS X (.Assign [cM] e pos) (oj cr g):=by
 intro ah s σ H D I h;refine wpAny_Assign_stores (thn (b' ah s σ H _ I h) λv aB ⟨x,ao,a0,cy,cz⟩=>?_) hs hw;rw[aq];exact thn (ci ah aB σ ao x v _ a0 cy cz) λ_ bc q=>q
theorem cN{i:Nat}{x:Str}{e:Expr}{cr:TE}{iR:Pos}(eu:X.N.Nodup)(hi:X.N[i]? =some x)(al:Loc X.env.scope x)(b':PE X e cr)(hs:swapsWith e (some (.Name x iR)) pos.line X.env=pure false:=by rfl)(aX:X.fn x=true∨X.env.scope.names.lookup x=some .local:=by first|exact .inl rfl|exact .inr rfl|assumption):
  PS X (.Assign [.Name x iR] e pos) (oj cr (VZ i)):=by
 intro ah s σ H D I h;refine wpAny_Assign_Name (thn (b' ah s σ H _ I h) λv aB ⟨y,ao,a0,cy,cz⟩=>?_) hs;exact oe a0 eu hi al cy (λbc cR=>⟨_,ao,cR,cz⟩) aX
noncomputable def BF (i:Nat) (cr:TE) (ti:TIp):TS:=λD σ H=>∃x,σ[i]? =some (some x)∧cr σ H λy ao=>ti x y ao λz ar=>D.nx (σ.set i (some z)) ar
theorem BG{i:Nat}{x:Str}{e:Expr}{cr:TE}{op:Operator}{ti:TIp}{iR:Pos}(eu:X.N.Nodup)(hi:X.N[i]? =some x)(al:Loc X.env.scope x)(b':PE X e cr)(a_:PIp X op ti)(aX:X.fn x=true∨X.env.scope.names.lookup x=some .local:=by first|exact .inl rfl|exact .inr rfl|assumption):
  PS X (.AugAssign (.Name x iR) op e pos) (BF i cr ti):=by
 intro ah s σ H D I h;obtain⟨v,aV,h⟩:=h;obtain⟨m,bL,ai⟩:=I.loc;have BH:Vis X.env.scope x:=by rcases al with k|k;exact .inl k;exact .inr (.inl k)
 obtain⟨u,r,l⟩:=ai i x v hi aV BH;refine wpAny_AugAssign_Name ?_;have go:wpAny (model X.prog X.w) X.A (eval e X.env) (λw iQ=>wpAny (model X.prog X.w) X.A (inplaceOp op u w) (λr h5=>wpAny (model X.prog X.w) X.A (storeName X.env x r) (λ_=>SP X ah D .next) X.xe h5) X.xe iQ) X.xe s:=by
  refine thn (b' ah s σ H _ I h) λw aB ⟨y,ao,a0,cy,cz⟩=>?_;refine thn (a_ ah aB σ ao v y u w _ a0 r cy cz) λz bc ⟨Nj,ar,cR,cU,c6⟩=>?_;exact oe cR eu hi al cU (λbe ef=>⟨_,ar,ef,c6⟩) aX
 rcases l with⟨aA,a4⟩|⟨aA,c,aG,kt⟩
 ·exact wpAny_loadName_local I.ok.kind aA bL a4 go
 ·rcases aA with aA|aA
  ·exact wpAny_loadName_cell I.ok.kind aA aG kt go
  ·rcases al with k|k
   ·have:X.env.scope.names.lookup x=some .free:=aA;rw[k] at this;cases this
   ·have:X.env.scope.names.lookup x=some .free:=aA;rw[k] at this;cases this
noncomputable def wg (to ti cr:TE) (lG:V→V→Hp→VK→Prop) (lH:TIp) (lI:Zbk):TS:=λD σ H=>to σ H λo ao=>ti σ ao λi ar=>lG o i ar λx a2=>cr σ a2 λy a3=>lH x y a3 λz bH=>lI o i z bH λdf=>D.nx σ df
def Zha(X:Cx)(t:V→V→Hp→VK→Prop):Prop:=
 ∀(ah:List (Addr×Obj))(s:Shared)(σ:St)(H:Hp)(o i:V)(de fQ:Value)(Q:VK),Inv X ah σ H s→cO o de→cO i fQ→t o i H Q→
  wpAny (model X.prog X.w) X.A (getItem de fQ) (EP X ah σ Q) X.xe s
theorem wh{o i e:Expr}{to ti cr:TE}{lG:V→V→Hp→VK→Prop}{lH:TIp}{lI:Zbk}{op:Operator}{jr:Pos}(a_:PE X o to)(hi:PE X i ti)(ci:Zha X lG)(b':PE X e cr)(a1:PIp X op lH)(hs:Zgg X lI)
  (aS:∀de fQ new,augStore i de fQ new=(do holding [new,de,fQ] (setItem de fQ new);release [new,de,fQ] [];pure .next):=by intros;rfl):PS X (.AugAssign (.Subscript o i jr) op e pos) (wg to ti cr lG lH lI):=by
 intro ah s σ H D I h;refine wpAny_AugAssign_SubscriptAny (thn (a_ ah s σ H _ I h) λde aB ⟨x1,ao,a0,cy,cz⟩=>?_) aS;refine thn (hi ah aB σ ao _ a0 cz) λfQ bc ⟨x2,ar,cR,cU,c6⟩=>?_;refine thn (ci ah bc σ ar x1 x2 de fQ _ cR cy cU c6) λh6 be ⟨x3,a2,ef,hp,fV⟩=>?_;refine thn (b' ah be σ a2 _ ef fV) λv cp ⟨x4,a3,jZ,iS,ol⟩=>?_;refine thn (a1 ah cp σ a3 x3 x4 h6 v _ jZ hp iS ol) λnew cK ⟨x5,bH,hN,lJ,om⟩=>?_;exact thn (hs ah cK σ bH x1 x2 x5 de fQ new _ hN cy cU lJ om) λ_ d3 ⟨df,gl,sd⟩=>⟨σ,df,gl,sd⟩
noncomputable def ipI (f:Int→Int→Int):TIp:=λx y H Q=>∃i j,x= .int i∧y= .int j∧Q (.int (f i j)) H
theorem wi:PIp X .Add (ipI λi j=>i+j):=by
 intro ah s σ H x y v u Q I cy cU h;obtain⟨i,j,aV,a8,q⟩:=h;subst aV;subst a8;obtain⟨t,rfl⟩:=cy;obtain⟨t',rfl⟩:=cU;exact iadd_int ⟨.int _,H,I.tok _,⟨_,rfl⟩,q⟩
theorem BI:PIp X .Sub (ipI λi j=>i-j):=by
 intro ah s σ H x y v u Q I cy cU h;obtain⟨i,j,aV,a8,q⟩:=h;subst aV;subst a8;obtain⟨t,rfl⟩:=cy;obtain⟨t',rfl⟩:=cU;exact isub_int ⟨.int _,H,I.tok _,⟨_,rfl⟩,q⟩
end
section
variable {X:Cx}{pos:Pos}
noncomputable def wj (c:TT) (cQ:TS):TS:=λD σ H=>∃W:Nat→St→Hp→Prop,(∃m,W m σ H)∧∀m σ H,W m σ H→
 c σ H λb ao=>if b=true then ∃N:St→Hp→Prop,(∀aW H',N aW H'→∃cn,cn<m∧W cn aW H')∧cQ {D with nx:=N,ct:=N,bk:=D.nx} σ ao else D.nx σ ao
theorem BJ{c:Expr}{body:List Stmt}{di:TT}{cQ:TS}(a1:PassesOwn (model X.prog X.w) X.A X.env X.xe)(aG:PT X c di)(am:PSs X body cQ):PS X (.While c body [] pos) (wj di cQ):=by
 intro ah s σ H D I h;obtain⟨W,⟨j0,dD⟩,turn⟩:=h;refine wpAny_While (codeAny_whileLoop (λn s'=>∃aW H',Inv X ah aW H' s'∧W n aW H') ?_ j0 ⟨σ,H,I,dD⟩);rintro n aB ⟨mU,ao,a0,er⟩;refine wpAny_passesOwn a1 (thn (aG ah aB mU ao _ a0 (turn n mU ao er)) λb bc ⟨ar,cR,c6⟩=>?_);cases b with
 |true=>
  obtain⟨N,eu,c6⟩:=c6;rw[if_pos rfl];refine wpAny_passesOwn a1 (thn (am ah bc mU ar _ cR c6) λf be fV=>?_);cases f with
  |next=>
   obtain⟨iT,a2,ef,lK⟩:=fV;obtain⟨cn,a4,j1⟩:=eu iT a2 lK;exact⟨cn,a4,iT,a2,ef,j1⟩
  |cont=>
   obtain⟨iT,a2,ef,lK⟩:=fV;obtain⟨cn,a4,j1⟩:=eu iT a2 lK;exact⟨cn,a4,iT,a2,ef,j1⟩
  |brk=>exact fV
  |ret v=>exact fV
 |false=>
  rw[if_neg Qh];exact wpAny_execs_nil ⟨mU,ar,cR,c6⟩
end
structure It where
 go:Nat→Hp→Prop
 yld:Nat→Hp→V→Hp→Prop
 stop:Nat→Hp→Prop
def f5(X:Cx)(ah:List (Addr×Obj))(H:Hp)(b:Addr):Prop:=
 H b=none∧b≠X.env.locals∧b∉X.fs∧(b∈X.ex∨X.s₀.heap.objs.size≤b)∧(∀x c,X.env.cells.lookup x=some c→c≠b)∧∀p∈X.pn++ah,p.1≠b
theorem Inv.fpOk{X:Cx}{ah:List (Addr×Obj)}{σ:St}{H H':Hp}{s:Shared}{b:Addr}(I:Inv X ah σ H s)(am:s.heap.objs.size≤b)(bL:H' b=none):f5 X ah H' b:=by
 refine⟨bL,Nat.ne_of_gt (Qu I.lt am),I.nofs am,.inr (Qv I.sz am),λx c e z=>?_,λp a1 z=>?_⟩
 ·obtain⟨v,q⟩:=I.cell x c e;exact absurd (Qu q.lt (by rw[z];exact am)) (QU _)
 ·exact absurd (Qu (Heap.lt_size (I.pin p a1).1) (by rw[z];exact am)) (QU _)
structure V1(P:Program)(w:World)(K:Frag)(cM:Expr)(J:It)(fp:List Addr)(it:Addr)(dQ:Nat→Heap→Prop):Prop where
 mem:it∈fp
 obj:∀i h,dQ i h→∀b∈fp,∃o,h.get? b=some o∧∀v,o.data≠ .cell v
 keep:∀i h h',dQ i h→(∀b∈fp,∀o,h.get? b=some o→h'.get? b=some o)→dQ i h'
 item:∀(X:Cx),X.prog=P→X.w=w→X.K=K→X.calm=true→∀(i:Nat)(ah:List (Addr×Obj))(s:Shared)(σ:St)(H:Hp)(E:Value→Shared→Prop),Inv X ah σ H s→(∀b∈fp,f5 X ah H b)→dQ i s.heap→J.go i H→
  wpAny (model P w) X.A (pyNext (.ref it)) (λr aB=>∃u,r=some u∧
   wpAny (model P w) X.A (letOwnedTupleGo cM (.ref it) u) (λ_ bc=>∃x H',Inv X ah σ H' bc∧cO x u∧J.yld i H x H'∧dQ (i+1) bc.heap∧∀b∈fp,H' b=none) E aB) E s
 done:∀(X:Cx),X.prog=P→X.w=w→X.K=K→X.calm=true→∀(i:Nat)(ah:List (Addr×Obj))(s:Shared)(σ:St)(H:Hp)(E:Value→Shared→Prop),Inv X ah σ H s→(∀b∈fp,f5 X ah H b)→dQ i s.heap→J.stop i H→
  wpAny (model P w) X.A (pyNext (.ref it)) (λr aB=>r=none∧Inv X ah σ H aB) E s
 self:∀(A:Around)(i:Nat)(s:Shared)(Q:Value→Shared→Prop)(E:Value→Shared→Prop),dQ i s.heap→Q (.ref it) s→wpAny (model P w) A (pyIter (.ref it)) Q E s
noncomputable abbrev TI:=St→Hp→(It→Hp→Prop)→Prop
def PIE(X:Cx)(ah:List (Addr×Obj))(σ:St)(cM:Expr)(R:It→Hp→Prop)(kx:Value)(bc:Shared):Prop:=
 ∃(it:Addr)(fp:List Addr)(dQ:Nat→Heap→Prop)(J:It)(H':Hp),kx= .ref it∧Inv X ah σ H' bc∧V1 X.prog X.w X.K cM J fp it dQ∧dQ 0 bc.heap∧(∀b∈fp,f5 X ah H' b)∧R J H'
def PI(X:Cx)(cM ev:Expr)(eg:TI):Prop:=
 ∀(ah:List (Addr×Obj))(s:Shared)(σ:St)(H:Hp)(R:It→Hp→Prop),Inv X ah σ H s→eg σ H R→
  wpAny (model X.prog X.w) X.A (eval ev X.env) (λv aB=>wpAny (model X.prog X.w) X.A (pyIter v) (PIE X ah σ cM R) X.xe aB) X.xe s
theorem on{M:Model}{A:Around}{E:Value→Shared→Prop}{s:Shared}{cM:Expr}{it:Addr}{u:Value}{o:Obj}{n:String}{vs:Array Value}{Q:Unit→Shared→Prop}(a_:s.heap.get? it=some o)(aG:o.cls= .type n)(hd:o.data= .fields vs)
  (bL:["enumerate","zip","dict_itemiterator","dict_reverseitemiterator","odict_iterator","itertools.zip_longest","itertools.pairwise"].contains n=false) (eX:Q () s):wpAny M A (letOwnedTupleGo cM (.ref it) u) Q E s:=by
 unfold letOwnedTupleGo;cases cM<;>first
  |exact wpAny_pure eX
  |(cases u<;>first
    |exact wpAny_pure eX
    |(refine wpAny_bind (wpAny_load a_ ?_)
      rw[aG,hd];show wpAny M A (if(["enumerate","zip","dict_itemiterator","dict_reverseitemiterator","odict_iterator","itertools.zip_longest","itertools.pairwise"].contains n&&vs[0]? ==some (rawInt _))=true then _ else _) Q E s;rw[if_neg (by intro h;rw[bL,Bool.false_and] at h;cases h)];exact wpAny_pure eX))
noncomputable def Itl (K:Frag) (a:Addr):It:=
 ⟨λi H=>∃xs x,SqL K H a xs∧xs[i]? =some x,λi H x H'=>H'=H∧∀xs,SqL K H a xs→xs[i]? =some x,λi H=>∃xs,SqL K H a xs∧xs.length≤i⟩
noncomputable def Itt (K:Frag) (a:Addr):It:=
 ⟨λi H=>∃xs x,SqT K H a xs∧xs[i]? =some x,λi H x H'=>H'=H∧∀xs,SqT K H a xs→xs[i]? =some x,λi H=>∃xs,SqT K H a xs∧xs.length≤i⟩
noncomputable def Itr (lo:Int) (n:Nat):It:=⟨λi _=>i<n,λi H x H'=>H'=H∧x= .int (lo+i),λi _=>n≤i⟩
theorem BK{P:Program}{w:World}{K:Frag}{cM:Expr}(a it:Addr):V1 P w K cM (Itl K a) [it] it (λi h=>h.IsListIter it a i) where
 mem:=by simp
 obj:=λi h st b am=>by
  have e:b=it:=by simpa using am
  subst e;obtain⟨o,e,c,d⟩:=st;exact⟨o,e,λv z=>by rw[d] at z;cases z⟩
 keep:=λi h h' st k=>st.at λo e=>k it (by simp) o e
 item:=by
  intro X dH hw hK aG i ah s σ H E I aX st ci;subst dH hw hK;obtain⟨xs,x,cj,al⟩:=ci;obtain⟨its,cW,p,bh⟩:=I.list cj;obtain⟨u,hu,eY⟩:=cW.get al;obtain⟨ew,f1,f2,cX,c9,d1⟩:=aX it (by simp);refine wpAny_pyNext_list_item st p.isList (x:=u) (by simpa using hu) λh' gN j2=>?_;have a0:Inv X ah σ H {s with heap:=h'}:=I.turned (t':=s.toks) (λb o am e=>(j2.2 b am).trans e) ew f1 cX c9 d1;obtain⟨o,e,c,d⟩:=id gN;exact⟨u,rfl,on (s:={s with heap:=h'}) e c d (by decide) ⟨x,H,a0,eY,⟨rfl,λys cx=>by rw[I.list_inj cx cj];exact al⟩,gN,λb am=>(aX b am).1⟩⟩
 done:=by
  intro X dH hw hK aG i ah s σ H E I aX st ci;subst dH hw hK;obtain⟨xs,cj,al⟩:=ci;obtain⟨its,cW,p,bh⟩:=I.list cj;obtain⟨ew,f1,f2,cX,c9,d1⟩:=aX it (by simp);have ai:=cW.length;exact wpAny_pyNext_list_end (I.ok.hd aG) st p.isList (by simp;omega) λh' eB=>⟨rfl,I.turned (t':=s.toks) (λb o am e=>eB b o am e) ew f1 cX c9 d1⟩
 self:=λ_ _ _ _ _ st h=>wpAny_pyIter_listiter st h
theorem BL{P:Program}{w:World}{K:Frag}{cM:Expr}(a it:Addr):V1 P w K cM (Itt K a) [it] it (λi h=>h.IsTupleIter it a i) where
 mem:=by simp
 obj:=λi h st b am=>by
  have e:b=it:=by simpa using am
  subst e;obtain⟨o,e,c,d⟩:=st;exact⟨o,e,λv z=>by rw[d] at z;cases z⟩
 keep:=λi h h' st k=>st.at λo e=>k it (by simp) o e
 item:=by
  intro X dH hw hK aG i ah s σ H E I aX st ci;subst dH hw hK;obtain⟨xs,x,cj,al⟩:=ci;obtain⟨its,cW,p,bh⟩:=I.tuple cj;obtain⟨u,hu,eY⟩:=cW.get al;obtain⟨ew,f1,f2,cX,c9,d1⟩:=aX it (by simp);refine wpAny_pyNext_tuple_item st (show s.heap.IsTuple a its.toArray from p) (x:=u) (by simpa using hu) λh' gN j2=>?_;have a0:Inv X ah σ H {s with heap:=h'}:=I.turned (t':=s.toks) (λb o am e=>(j2.2 b am).trans e) ew f1 cX c9 d1;obtain⟨o,e,c,d⟩:=id gN;exact⟨u,rfl,on (s:={s with heap:=h'}) e c d (by decide) ⟨x,H,a0,eY,⟨rfl,λys cx=>by rw[I.tuple_inj cx cj];exact al⟩,gN,λb am=>(aX b am).1⟩⟩
 done:=by
  intro X dH hw hK aG i ah s σ H E I aX st ci;subst dH hw hK;obtain⟨xs,cj,al⟩:=ci;obtain⟨its,cW,p,bh⟩:=I.tuple cj;obtain⟨ew,f1,f2,cX,c9,d1⟩:=aX it (by simp);have ai:=cW.length;exact wpAny_pyNext_tuple_end (I.ok.hd aG) st (show s.heap.IsTuple a its.toArray from p) (by simp;omega) λh' eB=>⟨rfl,I.turned (t':=s.toks) (λb o am e=>eB b o am e) ew f1 cX c9 d1⟩
 self:=λ_ _ _ _ _ st h=>wpAny_pyIter_tupleiter st h
theorem BM{P:Program}{w:World}{K:Frag}{cM:Expr}(it:Addr)(lo:Int)(n:Nat):V1 P w K cM (Itr lo n) [it] it (λi h=>IsRangeIter h it (lo+(i:Nat)*1) ((n:Int)-(i:Nat)) 1) where
 mem:=by simp
 obj:=λi h st b am=>by
  have e:b=it:=by simpa using am
  subst e;exact⟨_,st,λv z=>by
   have fP:Data.fields _=Data.cell v:=z;cases fP⟩
 keep:=λi h h' st k=>k it (by simp) _ st
 item:=by
  intro X dH hw hK aG i ah s σ H E I aX st ci;subst dH hw hK;obtain⟨ew,f1,f2,cX,c9,d1⟩:=aX it (by simp);have W:=Walks.range (prog:=X.prog) (w:=X.w) (I.ok.hd aG) it lo 1 n;refine W.item i s _ _ ci st λv h' dI cH gN hq=>?_;obtain⟨t,rfl⟩:=cH;have a0:Inv X ah σ H {s with heap:=h',toks:=dI}:=I.turned (λb o am e=>hq b o (by simpa using am) e) ew f1 cX c9 d1;refine⟨_,rfl,on (s:={s with heap:=h',toks:=dI}) (n:="range_iterator") gN rfl rfl (by decide) ⟨.int (lo+i),H,a0,⟨t,?_⟩,⟨rfl,rfl⟩,gN,λb am=>(aX b am).1⟩⟩;rw[Int.mul_one]
 done:=by
  intro X dH hw hK aG i ah s σ H E I aX st ci;subst dH hw hK;obtain⟨ew,f1,f2,cX,c9,d1⟩:=aX it (by simp);exact wpAny_pyNext_range_end (I.ok.hd aG) st (by have:n≤i:=ci;omega) λh' eB=>⟨rfl,I.turned (t':=s.toks) (λb o am e=>eB b o am e) ew f1 cX c9 d1⟩
 self:=λ_ _ _ _ _ st h=>wpAny_pyIter_rangeiter st h
section
variable {X:Cx}{cM:Expr}
noncomputable def se (K:Frag) (es:TE):TI:=λσ H R=>es σ H λx ao=>∃a,x= .ref a∧(∃xs,SqL K ao a xs)∧R (Itl K a) ao
noncomputable def ky (K:Frag) (es:TE):TI:=λσ H R=>es σ H λx ao=>∃a,x= .ref a∧(∃xs,SqT K ao a xs)∧R (Itt K a) ao
theorem ZiV{l:Expr}{es:TE}(ai:PE X l es):PI X cM l (se X.K es):=by
 intro ah s σ H R I h;refine thn (ai ah s σ H _ I h) λv aB ⟨x,ao,a0,cy,cz⟩=>?_;obtain⟨a,e,⟨xs,cj⟩,q⟩:=cz;subst e;cases cy;obtain⟨its,cW,p,bh⟩:=a0.list cj;refine wpAny_pyIter_list p.isList ?_;refine⟨aB.heap.objs.size,[aB.heap.objs.size],_,_,ao,rfl,a0.kept (t':=aB.toks) λb o e=>Heap.get?_push_of_some _ e,BK a _,⟨_,Heap.get?_push_size _ rfl,rfl,rfl⟩,λb am=>?_,q⟩;have e:b=aB.heap.objs.size:=by simpa using am
 subst e;exact a0.fpOk (Qc _) (a0.hok.fresh (Qc _))
theorem Zjm{l:Expr}{es:TE}(ai:PE X l es):PI X cM l (ky X.K es):=by
 intro ah s σ H R I h;refine thn (ai ah s σ H _ I h) λv aB ⟨x,ao,a0,cy,cz⟩=>?_;obtain⟨a,e,⟨xs,cj⟩,q⟩:=cz;subst e;cases cy;obtain⟨its,cW,p,bh⟩:=a0.tuple cj;refine wpAny_pyIter_tuple (show aB.heap.IsTuple a its.toArray from p) ?_;refine⟨aB.heap.objs.size,[aB.heap.objs.size],_,_,ao,rfl,a0.kept (t':=aB.toks) λb o e=>Heap.get?_push_of_some _ e,BL a _,⟨_,Heap.get?_push_size _ rfl,rfl,rfl⟩,λb am=>?_,q⟩;have e:b=aB.heap.objs.size:=by simpa using am
 subst e;exact a0.fpOk (Qc _) (a0.hok.fresh (Qc _))
theorem BN{ah:List (Addr×Obj)}{σ:St}{H:Hp}{s:Shared}{R:It→Hp→Prop}{E:Value→Shared→Prop}{lo hi:Int}{t u v:Tok}{dI:Nat}(I:Inv X ah σ H s)(aq: -(2 ^ 62)≤lo)(av:lo<2 ^ 62)(b_: -(2 ^ 62)≤hi)(cA:hi<2 ^ 62)
  (q:R (Itr lo (hi-lo).toNat) H):wpAny (model X.prog X.w) X.A (pyIter (.ref s.heap.objs.size)) (PIE X ah σ cM R) E {s with heap:=s.heap.push {cls:= .type "range",data:= .fields #[.int lo t,.int hi u,.int 1 v]},toks:=dI}:=by
 refine wpAny_pyIter_range (IsRange.new ..) (small_one aq av b_ cA) ?_;have a0:Inv X ah σ H {s with heap:=s.heap.push {cls:= .type "range",data:= .fields #[.int lo t,.int hi u,.int 1 v]},toks:=dI}:=I.kept λb o e=>Heap.get?_push_of_some _ e;refine⟨(s.heap.push {cls:= .type "range",data:= .fields #[.int lo t,.int hi u,.int 1 v]}).objs.size,[(s.heap.push {cls:= .type "range",data:= .fields #[.int lo t,.int hi u,.int 1 v]}).objs.size],_,_,H,rfl,
  a0.kept (t':=dI) λb o e=>Heap.get?_push_of_some _ e,BM _ lo (hi-lo).toNat,?_,λb am=>?_,q⟩
 ·have aV:lo+((0:Nat):Int)*1=lo:=by simp
  have a8:(((hi-lo).toNat:Nat):Int)-((0:Nat):Int)=Builtin.Range.rangeSize lo hi 1:=by rw[rangeSize_one];split<;>omega
  show IsRangeIter _ _ (lo+((0:Nat):Int)*1) ((((hi-lo).toNat:Nat):Int)-((0:Nat):Int)) 1;rw[aV,a8];exact Heap.get?_push_size _ rfl
 ·have e:b=(s.heap.push {cls:= .type "range",data:= .fields #[.int lo t,.int hi u,.int 1 v]}).objs.size:=by simpa using am
  subst e;exact a0.fpOk (Qc _) (a0.hok.fresh (Qc _))
noncomputable def wk (bn:TA):TI:=λσ H R=>bn σ H λvs ao=>∃j:Int,vs=[.int j]∧ -(2 ^ 62)≤j∧j<2 ^ 62∧R (Itr 0 j.toNat) ao
theorem js{a:Expr}{bn:TA}{p pos:Pos}(ci:Gl X "range")(a4:X.mg "range" =none)(aS:PA X [a] bn)(hs:starEach [a] X.env=[(false,eval a X.env)]:=by rfl):PI X cM (.Call (.Name "range" p) [a] [] pos) (wk bn):=by
 intro ah s σ H R I h;refine Call_ (mT I ci a4 boot_range (GT (thn (aS pos ah s σ H _ I h) λus aB ⟨vs,ao,a0,cy,cz⟩=>?_) hs rfl));obtain⟨j,e,cz,c6,q⟩:=cz;subst e;cases cy with
 |cons r gE=>
  cases gE;obtain⟨t,rfl⟩:=r;exact call_range_1 (BN a0 (by omega) (by omega) cz c6 (by simpa using q))
noncomputable def wl (eg:TI) (g:TG) (cQ:TS):TS:=λD σ H=>eg σ H λJ ao=>∃W:Nat→Nat→St→Hp→Prop,(∃m,W 0 m σ ao)∧∀i m σ H,W i m σ H→
 (J.stop i H∧D.nx σ H)∨(J.go i H∧∃N:St→Hp→Prop,(∀aW H',N aW H'→∃cn,cn<m∧W (i+1) cn aW H')∧∀x H',J.yld i H x H'→g x σ H' λcB ar=>cQ {D with nx:=N,ct:=N,bk:=D.nx} cB ar)
noncomputable def Ud (fp:List Addr) (h:Heap):List (Addr×Obj):=fp.filterMap λb=>(h.get? b).map λo=>(b,o)
theorem mW{fp:List Addr}{h:Heap}{b:Addr}{o:Obj}(am:b∈fp)(e:h.get? b=some o):(b,o)∈Ud fp h:=List.mem_filterMap.mpr ⟨b,am,by rw[e];rfl⟩
theorem ZgV{fp:List Addr}{h:Heap}{p:Addr×Obj}(a1:p∈Ud fp h):p.1∈fp∧h.get? p.1=some p.2:=by
 obtain⟨b,am,e⟩:=List.mem_filterMap.mp a1;cases q:h.get? b with
 |none=>rw[q] at e;cases e
 |some o=>
  rw[q] at e;have cm:(b,o)=p:=Qq e;subst cm;exact⟨am,q⟩
theorem Inv.pinned{ah:List (Addr×Obj)}{σ:St}{H:Hp}{s:Shared}{fp:List Addr}(I:Inv X ah σ H s)(aX:∀b∈fp,f5 X ah H b)(a_:∀b∈fp,∃o,s.heap.get? b=some o∧∀v,o.data≠ .cell v):Inv X (ah++Ud fp s.heap) σ H s:=
 I.pins_of λp a1=>(QD.mp a1).elim (λz=>I.pin p (Qk _ z)) λz=>by
  obtain⟨am,e⟩:=ZgV z;obtain⟨ew,f1,f2,_⟩:=aX p.1 am;obtain⟨o,cm,d⟩:=a_ p.1 am;rw[e] at cm;cases cm;exact⟨e,ew,f1,f2,d⟩
theorem Inv.unpinned{ah pl:List (Addr×Obj)}{σ:St}{H:Hp}{s:Shared}(I:Inv X (ah++pl) σ H s):Inv X ah σ H s:=I.pins_of λp a1=>I.pin p (Qk _ (QX _ a1))
theorem fz{ev:Expr}{body:List Stmt}{eg:TI}{g:TG}{cQ:TS}{pos:Pos}(a1:PassesOwn (model X.prog X.w) X.A X.env X.xe)(aG:X.calm=true)(hi:PI X cM ev eg)(ci:PG X cM g)(am:PSs X body cQ)
  (hs:∀x,foldedSetIterable ev X.env x=pure x:=by intro _;rfl):PS X (.For cM ev body [] pos) (wl eg g cQ):=by
 intro ah s σ H D I h;refine wpAny_For (thn (hi ah s σ H _ I h) λv aB aq=>thn aq λkx bc av=>?_) hs;obtain⟨it,fp,dQ,J,ar,e,cR,T,e',f2,W,⟨j0,dD⟩,turn⟩:=av;subst e;have sf:∀{H':Hp},(∀b∈fp,H' b=none)→∀b∈fp,f5 X ah H' b:=λbL b am=>⟨bL b am,(f2 b am).2⟩;refine codeAny_forLoop_any (λn s'=>∃i aW H',Inv X ah aW H' s'∧dQ i s'.heap∧(∀b∈fp,H' b=none)∧W i n aW H') ?_ j0 ⟨0,σ,ar,cR,e',λb am=>(f2 b am).1,dD⟩;rintro n be ⟨i,iT,a2,ef,kz,iU,j1⟩;rcases turn i n iT a2 j1 with⟨stop,lL⟩|⟨go,N,eu,step⟩
 ·refine wpAny_passesOwn a1 (thn (T.done X rfl rfl rfl aG i ah be iT a2 X.xe ef (sf iU) kz stop) λr cp ⟨au,jZ⟩=>?_);subst au;exact wpAny_execs_nil ⟨iT,a2,jZ,lL⟩
 ·refine wpAny_passesOwn a1 (thn (T.item X rfl rfl rfl aG i ah be iT a2 X.xe ef (sf iU) kz go) λr cp ⟨u,au,cA⟩=>?_);subst au;refine wpAny_passesOwn a1 (thn cA λ_ cK ⟨x,bH,hN,lJ,BO,j3,hP⟩=>?_);have BP:=hN.pinned (sf hP) (T.obj _ _ j3);refine wpAny_passesOwn a1 (thn (ci _ cK iT bH x u _ BP lJ (step x bH BO)) λ_ d3 ⟨BQ,df,gl,sd⟩=>?_);refine wpAny_passesOwn a1 (thn (am _ d3 BQ df _ gl sd) λf d6 kA=>?_);have again:∀{iV:St}{c8:Hp},Inv X (ah++Ud fp cK.heap) iV c8 d6→N iV c8→∃m,m<n∧∃i aW H',Inv X ah aW H' d6∧dQ i d6.heap∧(∀b∈fp,H' b=none)∧W i m aW H':=λ{iV c8} gO oo=>by
   obtain⟨cn,a4,BR⟩:=eu iV c8 oo;refine⟨cn,a4,i+1,iV,c8,gO.unpinned,T.keep _ _ _ j3 λb am o e=>(gO.pin (b,o) (Qk _ (Qk _ (mW am e)))).1,λb am=>?_,BR⟩;obtain⟨o,e,d⟩:=T.obj _ _ j3 b am;exact(gO.pin (b,o) (Qk _ (Qk _ (mW am e)))).2.1
  cases f with
  |next=>obtain⟨iV,c8,gO,oo⟩:=kA;exact again gO oo
  |cont=>obtain⟨iV,c8,gO,oo⟩:=kA;exact again gO oo
  |brk=>obtain⟨iV,c8,gO,kA⟩:=kA;exact⟨iV,c8,gO.unpinned,kA⟩
  |ret v=>obtain⟨x7,iV,c8,gO,oq,kA⟩:=kA;exact⟨x7,iV,c8,gO.unpinned,oq,kA⟩
end
theorem WF{lo:Int}{n:Nat}{g:TG}{cQ:TS}{D:WP}{σ:St}{H:Hp}(Pv:Nat→St→Hp→Prop)(c7:Pv 0 σ H)
  (hs:∀i σ H,i<n→Pv i σ H→g (.int (lo+i)) σ H λcB ar=>cQ {D with nx:=Pv (i+1),ct:=Pv (i+1),bk:=D.nx} cB ar) (hd:∀σ H,Pv n σ H→D.nx σ H):
  ∃W:Nat→Nat→St→Hp→Prop,(∃m,W 0 m σ H)∧∀i m σ H,W i m σ H→
   ((Itr lo n).stop i H∧D.nx σ H)∨((Itr lo n).go i H∧∃N:St→Hp→Prop,(∀aW H',N aW H'→∃cn,cn<m∧W (i+1) cn aW H')∧∀x H',(Itr lo n).yld i H x H'→g x σ H' λcB ar=>cQ {D with nx:=N,ct:=N,bk:=D.nx} cB ar):=by
 refine⟨λi m σ H=>m=n-i∧i≤n∧Pv i σ H,⟨n,by simp,Qx _,c7⟩,?_⟩;rintro i m σ H ⟨rfl,hi,p⟩
 by_cases dx:i<n
 ·refine .inr ⟨dx,Pv (i+1),λaW H' iq=>⟨n-(i+1),by omega,rfl,dx,iq⟩,λx H' y=>?_⟩;obtain⟨e,y⟩:=y;subst e y;exact hs i σ _ dx p
 ·have e:i=n:=by omega
  subst e;exact .inl ⟨Qc _,hd σ H p⟩
noncomputable abbrev R2:=V→V→Hp→VK→Prop
def OpR(X:Cx)(f:Value→Value→Sem Value)(r:R2):Prop:=
 ∀(ah:List (Addr×Obj))(s:Shared)(σ:St)(H:Hp)(x y:V)(v u:Value)(Q:VK),Inv X ah σ H s→cO x v→cO y u→r x y H Q→
  wpAny (model X.prog X.w) X.A (f v u) (EP X ah σ Q) X.xe s
def UnR(X:Cx)(f:Value→Sem Value)(r:V→Hp→VK→Prop):Prop:=
 ∀(ah:List (Addr×Obj))(s:Shared)(σ:St)(H:Hp)(x:V)(v:Value)(Q:VK),Inv X ah σ H s→cO x v→r x H Q→
  wpAny (model X.prog X.w) X.A (f v) (EP X ah σ Q) X.xe s
def Yv(X:Cx)(f:Value)(r:List V→Hp→VK→Prop):Prop:=
 ∀(ah:List (Addr×Obj))(s:Shared)(σ:St)(H:Hp)(xs:List V)(us:List Value)(Q:VK),Inv X ah σ H s→cD xs us→r xs H Q→
  wpAny (model X.prog X.w) X.A (call f us) (EP X ah σ Q) X.xe s
def Zk1(X:Cx)(r:V→Hp→(Bool→Hp→Prop)→Prop):Prop:=
 ∀(ah:List (Addr×Obj))(s:Shared)(σ:St)(H:Hp)(x:V)(v:Value)(Q:Bool→Hp→Prop),Inv X ah σ H s→cO x v→r x H Q→
  wpAny (model X.prog X.w) X.A (truthy v) (TP X ah σ Q) X.xe s
noncomputable def tOp (r:R2) (bn cQ:TE):TE:=λσ H Q=>bn σ H λx ao=>cQ σ ao λy ar=>r x y ar Q
noncomputable def tUn (r:V→Hp→VK→Prop) (bn:TE):TE:=λσ H Q=>bn σ H λx ao=>r x ao Q
noncomputable def rI (C:Int→Int→Prop) (g:Int→Int→V):R2:=λx y H Q=>∃i j,x= .int i∧y= .int j∧C i j∧Q (g i j) H
noncomputable def rI0 (g:Int→Int→V):R2:=λx y H Q=>∃i j,x= .int i∧y= .int j∧Q (g i j) H
noncomputable def rU (g:Int→V):V→Hp→VK→Prop:=λx H Q=>∃i,x= .int i∧Q (g i) H
section
variable {X:Cx}{a b c:Expr}{bn cQ di:TE}{pos:Pos}
theorem sg(aS:PE X a bn)(am:PE X b cQ){ah:List (Addr×Obj)}{s:Shared}{σ:St}{H:Hp}{R:V→V→Hp→Prop}(I:Inv X ah σ H s)
  (h:bn σ H λx ao=>cQ σ ao λy ar=>R x y ar) {Q:Value→Shared→Prop} {f:Value→Value→Sem Value}
  (aX:∀v u bc x y ar,Inv X ah σ ar bc→cO x v→cO y u→R x y ar→wpAny (model X.prog X.w) X.A (f v u) Q X.xe bc):
  wpAny (model X.prog X.w) X.A (eval a X.env) (λv dr=>wpAny (model X.prog X.w) X.A (eval b X.env) (λu iQ=>wpAny (model X.prog X.w) X.A (f v u) Q X.xe iQ) X.xe dr) X.xe s:=by
 refine thn (aS ah s σ H _ I h) λv aB ⟨x,ao,a0,cy,cz⟩=>?_;refine thn (am ah aB σ ao _ a0 cz) λu bc ⟨y,ar,cR,cU,c6⟩=>?_;exact aX v u bc x y ar cR cy cU c6
theorem ck{op:Operator}{r:R2}(a_:OpR X (binaryOp op) r)(aS:PE X a bn)(am:PE X b cQ):PE X (.BinOp a op b pos) (tOp r bn cQ):=by
 intro ah s σ H Q I h;exact wpAny_BinOp (sg aS am I h λv u bc x y ar cR bI cv q=>a_ ah bc σ ar x y v u Q cR bI cv q)
theorem qa{op:UnaryOp}{r:V→Hp→VK→Prop}(a_:UnR X (unaryOp op) r)(aS:PE X a bn):PE X (.UnaryOp op a pos) (tUn r bn):=by
 intro ah s σ H Q I h;exact UnaryOp_ (thn (aS ah s σ H _ I h) λv aB ⟨x,ao,a0,cy,cz⟩=>a_ ah aB σ ao x v Q a0 cy cz)
theorem opI{f:Value→Value→Sem Value}{C:Int→Int→Prop}{g:Int→Int→Int}
  (rule:∀(i j:Int)(t u:Tok)(s:Shared)(Q:Value→Shared→Prop)(E:Value→Shared→Prop),C i j→Q (.int (g i j) s.toks) {s with toks:=s.toks+1}→wpAny (model X.prog X.w) X.A (f (.int i t) (.int j u)) Q E s):
  OpR X f (rI C λi j=> .int (g i j)):=by
 intro ah s σ H x y v u Q I bI cv h;obtain⟨i,j,rfl,rfl,aG,q⟩:=h;obtain⟨t,rfl⟩:=bI;obtain⟨t',rfl⟩:=cv;exact rule i j t t' s _ _ aG ⟨.int (g i j),H,I.tok _,⟨_,rfl⟩,q⟩
theorem Zj2{f:Value→Value→Sem Value}{g:Int→Int→Int}
  (rule:∀(i j:Int)(t u:Tok)(s:Shared)(Q:Value→Shared→Prop)(E:Value→Shared→Prop),Q (.int (g i j) s.toks) {s with toks:=s.toks+1}→wpAny (model X.prog X.w) X.A (f (.int i t) (.int j u)) Q E s):
  OpR X f (rI0 λi j=> .int (g i j)):=by
 intro ah s σ H x y v u Q I bI cv h;obtain⟨i,j,rfl,rfl,q⟩:=h;obtain⟨t,rfl⟩:=bI;obtain⟨t',rfl⟩:=cv;exact rule i j t t' s _ _ ⟨.int (g i j),H,I.tok _,⟨_,rfl⟩,q⟩
theorem ZhQ{f:Value→Value→Sem Value}{g:Int→Int→Bool}
  (rule:∀(i j:Int)(t u:Tok)(s:Shared)(Q:Value→Shared→Prop)(E:Value→Shared→Prop),Q (.bool (g i j)) s→wpAny (model X.prog X.w) X.A (f (.int i t) (.int j u)) Q E s):
  OpR X f (rI0 λi j=> .bl (g i j)):=by
 intro ah s σ H x y v u Q I bI cv h;obtain⟨i,j,rfl,rfl,q⟩:=h;obtain⟨t,rfl⟩:=bI;obtain⟨t',rfl⟩:=cv;exact rule i j t t' s _ _ ⟨.bl (g i j),H,I,rfl,q⟩
def Zj1(i j:Int):Prop:=0≤j∧j≤1000000∧i.natAbs<2 ^ 64
def ZfE(i j:Int):Prop:=(-(2 ^ 64)<i∧i<2 ^ 64)∨(-(2 ^ 64)<j∧j<2 ^ 64)
theorem ZfE.ok{i j:Int}(h:ZfE i j):IntMulOk i j:=by
 rcases h with⟨aq,av⟩|⟨aq,av⟩
 ·exact .of_left (intBits_le_64 aq av)
 ·exact .of_right (intBits_le_64 aq av)
theorem BS:OpR X (binaryOp .Add) (rI0 λi j=> .int (i+j)):=Zj2 λ_ _ _ _ _ _ _ q=>add_int q
theorem lM:OpR X (binaryOp .Sub) (rI0 λi j=> .int (i-j)):=Zj2 λ_ _ _ _ _ _ _ q=>sub_int q
theorem eh:OpR X (binaryOp .Mod) (rI (λ_ j=>0<j) λi j=> .int (i % j)):=opI λi j _ _ _ _ _ aG q=>by
 have aq:(0:Int)<j:=aG;exact mod_int' (by omega) (by rw[Rn i (by omega)];exact q)
theorem kB:OpR X (binaryOp .Pow) (rI Zj1 λi j=> .int (i ^ j.toNat)):=opI λ_ _ _ _ _ _ _ aG q=>pow_int_small aG.1 aG.2.1 aG.2.2 q
theorem unI{f:Value→Sem Value}{g:Int→Int}
  (rule:∀(i:Int)(t:Tok)(s:Shared)(Q:Value→Shared→Prop)(E:Value→Shared→Prop),Q (.int (g i) s.toks) {s with toks:=s.toks+1}→wpAny (model X.prog X.w) X.A (f (.int i t)) Q E s):
  UnR X f (rU λi=> .int (g i)):=by
 intro ah s σ H x v Q I bI h;obtain⟨i,rfl,q⟩:=h;obtain⟨t,rfl⟩:=bI;exact rule i t s _ _ ⟨.int (g i),H,I.tok _,⟨_,rfl⟩,q⟩
theorem qb:UnR X (unaryOp .USub) (rU λi=> .int (-i)):=unI λ_ _ _ _ _ q=>neg_int q
end
noncomputable def wm:V→V→Bool
 | .non,.non=>true| .non,.int _=>true| .int _,.non=>true| .non,.bl _=>true| .bl _,.non=>true| .non,.str _=>true| .str _,.non=>true
 | .int _,.int _=>true| .bl _,.bl _=>true| .str _,.str _=>true| .byt _,.byt _=>true
 | .int _,.str _=>true| .str _,.int _=>true| .bl _,.str _=>true| .str _,.bl _=>true
 |_,_=>false
noncomputable def rEq:R2:=λx y H Q=>wm x y=true∧Q (.bl (decide (x=y))) H
noncomputable def rNe:R2:=λx y H Q=>wm x y=true∧Q (.bl (!decide (x=y))) H
theorem Ze5{i j:Int}:decide (V.int i=V.int j)=(i==j):=by
 rw[Rf];simp
theorem ZgA{i j:Bool}:decide (V.bl i=V.bl j)=(i==j):=by
 rw[Rf];simp
theorem Ze7{i j:Str}:decide (V.str i=V.str j)=(i==j):=by
 rw[Rf];simp
theorem ZeZ{i j:Array UInt8}:decide (V.byt i=V.byt j)=(i.toList==j.toList):=by
 rw[Rf];cases i;cases j;simp
section
variable {X:Cx}{a b c:Expr}{bn cQ di:TE}{pos:Pos}
theorem eL{ah:List (Addr×Obj)}{σ:St}{H:Hp}{s:Shared}{Q:VK}{k k':Bool}(I:Inv X ah σ H s)(q:Q (.bl k) H)(e:k=k'):EP X ah σ Q (.bool k') s:=by
 subst e;exact⟨.bl k,H,I,rfl,q⟩
theorem BU:OpR X (compareOp .Eq) rEq:=by
 intro ah s σ H x y v u Q I bI cv h;obtain⟨hs,q⟩:=h;cases x with
 |non=>
  cases bI;cases y with
  |non=>cases cv;exact PySem.EqNone.eq_none_none (eL I q (by simp))
  |bl j=>cases cv;exact PySem.EqNone.eq_none_bool (eL I q (by simp))
  |int j=>obtain⟨t',rfl⟩:=cv;exact PySem.EqNone.eq_none_int (eL I q (by simp))
  |str j=>obtain⟨t',rfl⟩:=cv;exact PySem.EqNone.eq_none_str (eL I q (by simp))
  |_=>exact absurd (show false=true from hs) Qh
 |bl i=>
  cases bI;cases y with
  |non=>cases cv;exact PySem.EqNone.eq_bool_none (eL I q (by simp))
  |bl j=>cases cv;exact eq_bool (eL I q ZgA)
  |str j=>obtain⟨t',rfl⟩:=cv;exact PySem.EqMixed.eq_bool_str (eL I q (by simp))
  |_=>exact absurd (show false=true from hs) Qh
 |int i=>
  obtain⟨t,rfl⟩:=bI;cases y with
  |non=>cases cv;exact PySem.EqNone.eq_int_none (eL I q (by simp))
  |int j=>obtain⟨t',rfl⟩:=cv;exact eq_int (eL I q Ze5)
  |str j=>obtain⟨t',rfl⟩:=cv;exact PySem.EqMixed.eq_int_str (eL I q (by simp))
  |_=>exact absurd (show false=true from hs) Qh
 |str i=>
  obtain⟨t,rfl⟩:=bI;cases y with
  |non=>cases cv;exact PySem.EqNone.eq_str_none (eL I q (by simp))
  |bl j=>cases cv;exact PySem.EqMixed.eq_str_bool (eL I q (by simp))
  |int j=>obtain⟨t',rfl⟩:=cv;exact PySem.EqMixed.eq_str_int (eL I q (by simp))
  |str j=>obtain⟨t',rfl⟩:=cv;exact eq_str (eL I q Ze7)
  |_=>exact absurd (show false=true from hs) Qh
 |byt i=>
  obtain⟨t,rfl⟩:=bI;cases y with
  |byt j=>obtain⟨t',rfl⟩:=cv;exact PySem.W.eq_bytes (eL I q ZeZ)
  |_=>exact absurd (show false=true from hs) Qh
 |_=>cases y<;>exact absurd (show false=true from hs) Qh
theorem BV:OpR X (compareOp .NotEq) rNe:=by
 intro ah s σ H x y v u Q I bI cv h;obtain⟨hs,q⟩:=h;cases x with
 |non=>
  cases bI;cases y with
  |non=>cases cv;exact PySem.EqNone.ne_none_none (eL I q (by simp))
  |bl j=>cases cv;exact PySem.EqNone.ne_none_bool (eL I q (by simp))
  |int j=>obtain⟨t',rfl⟩:=cv;exact PySem.EqNone.ne_none_int (eL I q (by simp))
  |str j=>obtain⟨t',rfl⟩:=cv;exact PySem.EqNone.ne_none_str (eL I q (by simp))
  |_=>exact absurd (show false=true from hs) Qh
 |bl i=>
  cases bI;cases y with
  |non=>cases cv;exact PySem.EqNone.ne_bool_none (eL I q (by simp))
  |bl j=>cases cv;exact ne_bool (eL I q (congrArg not ZgA))
  |str j=>obtain⟨t',rfl⟩:=cv;exact PySem.EqMixed.ne_bool_str (eL I q (by simp))
  |_=>exact absurd (show false=true from hs) Qh
 |int i=>
  obtain⟨t,rfl⟩:=bI;cases y with
  |non=>cases cv;exact PySem.EqNone.ne_int_none (eL I q (by simp))
  |int j=>obtain⟨t',rfl⟩:=cv;exact ne_int (eL I q (congrArg not Ze5))
  |str j=>obtain⟨t',rfl⟩:=cv;exact PySem.EqMixed.ne_int_str (eL I q (by simp))
  |_=>exact absurd (show false=true from hs) Qh
 |str i=>
  obtain⟨t,rfl⟩:=bI;cases y with
  |non=>cases cv;exact PySem.EqNone.ne_str_none (eL I q (by simp))
  |bl j=>cases cv;exact PySem.EqMixed.ne_str_bool (eL I q (by simp))
  |int j=>obtain⟨t',rfl⟩:=cv;exact PySem.EqMixed.ne_str_int (eL I q (by simp))
  |str j=>obtain⟨t',rfl⟩:=cv;exact ne_str (eL I q (congrArg not Ze7))
  |_=>exact absurd (show false=true from hs) Qh
 |byt i=>
  obtain⟨t,rfl⟩:=bI;cases y with
  |byt j=>obtain⟨t',rfl⟩:=cv;exact PySem.W.ne_bytes (eL I q (congrArg not ZeZ))
  |_=>exact absurd (show false=true from hs) Qh
 |_=>cases y<;>exact absurd (show false=true from hs) Qh
theorem sh:OpR X (compareOp .Lt) (rI0 λi j=> .bl (decide (i<j))):=ZhQ λ_ _ _ _ _ _ _ q=>lt_int q
theorem si:OpR X (compareOp .Gt) (rI0 λi j=> .bl (decide (j<i))):=ZhQ λ_ _ _ _ _ _ _ q=>gt_int q
theorem mX:OpR X (compareOp .GtE) (rI0 λi j=> .bl (decide (j≤i))):=ZhQ λ_ _ _ _ _ _ _ q=>ge_int q
theorem qc:OpR X (compareOp .Is) (λx y H Q=>y= .non∧Q (.bl (decide (x= .non))) H):=by
 intro ah s σ H x y v u Q I bI cv h;obtain⟨rfl,q⟩:=h;cases cv;refine is_none_gen (eL I q ?_);cases x<;>first
  |(cases bI;rfl)
  |(obtain⟨t,rfl⟩:=bI;rfl)
theorem wn:OpR X (compareOp .IsNot) (λx y H Q=>y= .non∧Q (.bl (!decide (x= .non))) H):=by
 intro ah s σ H x y v u Q I bI cv h;obtain⟨rfl,q⟩:=h;cases cv;refine isnot_none_gen (eL I q ?_);cases x<;>first
  |(cases bI;rfl)
  |(obtain⟨t,rfl⟩:=bI;rfl)
theorem OpR.or{f:Value→Value→Sem Value}{r c0:R2}(h:OpR X f r)(h':OpR X f c0):OpR X f (λx y H Q=>r x y H Q∨c0 x y H Q):=by
 intro ah s σ H x y v u Q I bI cv q;rcases q with q|q
 ·exact h ah s σ H x y v u Q I bI cv q
 ·exact h' ah s σ H x y v u Q I bI cv q
theorem da(b:Expr){op:CmpOp}(h:op≠ .In:=by decide)(av:op≠ .NotIn:=by decide):behindInMarks op b=false:=by
 have aV:(op==CmpOp.In)=false:=by cases op<;>first|rfl|exact absurd rfl h
 have a8:(op==CmpOp.NotIn)=false:=by cases op<;>first|rfl|exact absurd rfl av
 cases b<;>simp[behindInMarks,aV,a8]
theorem jt{op:CmpOp}{r:R2}(a_:OpR X (compareOp op) r)(aS:PE X a bn)(am:PE X b cQ)(a4:behindInMarks op b=false):PE X (.Compare a [op] [b] pos) (tOp r bn cQ):=by
 intro ah s σ H Q I h;exact wpAny_Compare1 (sg aS am I h λv u bc x y ar cR bI cv q=>a_ ah bc σ ar x y v u Q cR bI cv q) a4
noncomputable def wo (t:TE):TT:=λσ H Q=>t σ H λx H'=>∃k,x= .bl k∧Q k H'
theorem dJ{op:CmpOp}{r:R2}(a_:OpR X (compareOp op) r)(aS:PE X a bn)(am:PE X b cQ)(a4:behindInMarks op b=false):PT X (.Compare a [op] [b] pos) (wo (tOp r bn cQ)):=by
 intro ah s σ H Q I h;refine wpAny_isTrue_Compare1 (thn (aS ah s σ H _ I h) λv aB ⟨x,ao,a0,cy,cz⟩=>thn (am ah aB σ ao _ a0 cz) λu bc ⟨y,ar,cR,cU,c6⟩=>
  thn (a_ ah bc σ ar x y v u _ cR cy cU c6) λc be ⟨z,a2,ef,hp,k,e,fV⟩=>?_) a4
 subst e;cases hp;exact wpAny_truthy_bool ⟨a2,ef,fV⟩
noncomputable def wq (r c0:R2) (bn cQ di:TE):TE:=λσ H Q=>bn σ H λx ao=>cQ σ ao λy ar=>r x y ar λz a2=>∃k,z= .bl k∧
 (if k=true then di σ a2 λhM a3=>c0 y hM a3 Q else Q (.bl false) a2)
theorem BW{op sj:CmpOp}{r c0:R2}(a_:OpR X (compareOp op) r)(jV:OpR X (compareOp sj) c0)(aS:PE X a bn)(am:PE X b cQ)(aG:PE X c di)
  (a4:lastMarks [op,sj] [b,c]=false:=by with_unfolding_all rfl):PE X (.Compare a [op,sj] [b,c] pos) (wq r c0 bn cQ di):=by
 intro ah s σ H Q I h;refine Compare_chain (thn (aS ah s σ H _ I h) λv aB ⟨x,ao,a0,cy,cz⟩=>chain_link (thn (am ah aB σ ao _ a0 cz) λu bc ⟨y,ar,cR,cU,c6⟩=>
  thn (a_ ah bc σ ar x y v u _ cR cy cU c6) λd be ⟨z,a2,ef,hp,k,e,fV⟩=>?_)) a4
 subst e;cases hp;refine wpAny_truthy_bool ?_;cases k with
 |false=>exact ite_ff ⟨.bl false,a2,ef,rfl,fV⟩
 |true=>exact ite_tt (chain_last (thn (aG ah be σ a2 _ ef fV) λhM cp ⟨fP,a3,jZ,iS,ol⟩=>jV ah cp σ a3 y fP u hM Q jZ cU iS ol))
def ot(K:Frag)(x:V)(H:Hp)(k:Bool):Prop:=
 match x with
 | .non=>k=false
 | .bl b=>k=b
 | .int i=>k=(i != 0)
 | .str y=>y.length≤sizeLine∧k=((y.length:Int) != 0)
 | .byt y=>y.size≤sizeLine∧k=((y.size:Int) != 0)
 | .ref p=>(∃xs,SqL K H p xs∧k= !xs.isEmpty)∨(∃xs,SqT K H p xs∧k= !xs.isEmpty)∨∃kvs,H p=some (.dK kvs)∧k= !kvs.isEmpty
 |_=>False
theorem Zgb{dU:Type}{kvs:List (dU×V)}{vs:List (dU×Value)}(r:KV kvs vs):(!vs.isEmpty)= !kvs.isEmpty:=by
 cases r<;>rfl
theorem ZbT{xs:List V}{its:List Value}(r:cD xs its):(!its.toArray.isEmpty)= !xs.isEmpty:=by
 cases r<;>simp
theorem kD:(sizeLine:Nat)<2 ^ 63:=by rw[sizeLine_eq];decide
theorem BX:Zk1 X (λx H Q=>∃k,ot X.K x H k∧Q k H):=by
 intro ah s σ H x v Q I bI h;obtain⟨k,e,q⟩:=h;have ai:=kD;have hs:sizeLine=16777216:=sizeLine_eq;cases x with
 |non=>
  cases bI;have cm:k=false:=e;subst cm;exact truthy_none ⟨H,I,q⟩
 |bl b=>
  cases bI;have cm:k=b:=e;subst cm;exact wpAny_truthy_bool ⟨H,I,q⟩
 |int i=>
  obtain⟨t,rfl⟩:=bI;have cm:k=(i != 0):=e;subst cm;exact PySem.P.truthy_int ⟨H,I,q⟩
 |str y=>
  obtain⟨t,rfl⟩:=bI;obtain⟨cx,cm⟩:y.length≤sizeLine∧k=((y.length:Int) != 0):=e;subst cm;exact PySem.P.truthy_str (by omega) ⟨H,I.tok _,q⟩
 |byt y=>
  obtain⟨t,rfl⟩:=bI;obtain⟨cx,cm⟩:y.size≤sizeLine∧k=((y.size:Int) != 0):=e;subst cm;exact PySem.W.truthy_bytes (by omega) ⟨H,I.tok _,q⟩
 |ref p=>
  cases bI;have cm:(∃xs,SqL X.K H p xs∧k= !xs.isEmpty)∨(∃xs,SqT X.K H p xs∧k= !xs.isEmpty)∨∃kvs,H p=some (.dK kvs)∧k= !kvs.isEmpty:=e;rcases cm with⟨xs,al,cm⟩|⟨xs,al,cm⟩|⟨kvs,al,cm⟩
  ·subst cm;obtain⟨its,r,pl,bh⟩:=I.list al;have dg:=r.length;exact wpAny_truthy_list pl.isList (by simp only[Qd];omega) ⟨H,I.tok _,by rw[ZbT r];exact q⟩
  ·subst cm;obtain⟨its,r,pl,bh⟩:=I.tuple al;have dg:=r.length;exact truthy_tuple pl (by simp only[Qd];omega) ⟨H,I.tok _,by rw[ZbT r];exact q⟩
  ·subst cm;obtain⟨bh,fH,vs,r,m⟩:kvs.length≤sizeLine∧(p==sysModules)=false∧∃vs,KV kvs vs∧s.heap.DictOf (g5 X.prog X.w) p vs:=I.hok p _ al;have dg:kvs.length=vs.length:=Paired.length r;exact wpAny_truthy_dict fH m (by omega) ⟨H,I.tok _,by rw[Zgb r];exact q⟩
 |_=>exact(show False from e).elim
theorem ZhV(aS:PE X a bn)(b':∀lE,isTrue a X.env lE=(do let v←lE;standAt a.pos;holding [v] (truthy v))):
  PT X a (λσ H Q=>bn σ H λx H'=>∃k,ot X.K x H' k∧Q k H'):=by
 intro ah s σ H Q I h;exact isTrue_plain (thn (aS ah s σ H _ I h) λv aB ⟨x,ao,a0,cy,cz⟩=>BX ah aB σ ao x v Q a0 cy cz) (b' _)
theorem BY:OpR X (binaryOp .Add) (λx y H Q=>∃i j,x= .str i∧y= .str j∧i.length+j.length≤sizeLine∧Q (.str (i++j)) H):=by
 intro ah s σ H x y v u Q I bI cv h;obtain⟨i,j,rfl,rfl,bh,q⟩:=h;obtain⟨t,rfl⟩:=bI;obtain⟨t',rfl⟩:=cv;exact add_str (λt' dI=>⟨.str (i++j),H,I.tok _,⟨_,rfl⟩,q⟩) bh
theorem WL{x:V}{us:List Value}(r:cD [x] us):∃u,us=[u]∧cO x u:=by
 cases r with
 |cons cy cU=>cases cU;exact⟨_,rfl,cy⟩
theorem Zil{x y:V}{us:List Value}(r:cD [x,y] us):∃u hM,us=[u,hM]∧cO x u∧cO y hM:=by
 cases r with
 |cons cy cU=>
  cases cU with
  |cons hp iS=>cases iS;exact⟨_,_,rfl,cy,hp⟩
theorem BZ(aG:X.calm=true):Yv X (.builtin "min") (λxs H Q=>∃i j,xs=[.int i,.int j]∧Q (.int (if j<i then j else i)) H):=by
 intro ah s σ H xs us Q I r h;obtain⟨i,j,rfl,q⟩:=h;obtain⟨u,hM,rfl,⟨t,rfl⟩,⟨t',rfl⟩⟩:=Zil r;refine min_two_ints (I.ok.hd aG) λh' dI k=>⟨_,H,I.kept k,?_,q⟩
 by_cases aU:j<i
 ·rw[if_pos aU,if_pos aU];exact⟨_,rfl⟩
 ·rw[if_neg aU,if_neg aU];exact⟨_,rfl⟩
theorem wr:Yv X (.type "int") (λxs H Q=>(∃i,xs=[.int i]∧Q (.int i) H)∨∃k,xs=[.bl k]∧Q (.int (if k then 1 else 0)) H):=by
 intro ah s σ H xs us Q I r h;rcases h with⟨i,rfl,q⟩|⟨k,rfl,q⟩
 ·obtain⟨u,rfl,t,rfl⟩:=WL r;exact call_int_int ⟨.int i,H,I,⟨_,rfl⟩,q⟩
 ·obtain⟨u,rfl,cy⟩:=WL r;cases cy;exact call_int_bool ⟨.int (if k then 1 else 0),H,I.tok _,⟨_,rfl⟩,q⟩
def Uy(K:Frag)(x:V)(H:Hp)(n:Nat):Prop:=
 match x with
 | .str y=>y.length≤sizeLine∧n=y.length
 | .byt y=>y.size≤sizeLine∧n=y.size
 | .ref p=>(∃xs,SqL K H p xs∧n=xs.length)∨∃xs,SqT K H p xs∧n=xs.length
 |_=>False
theorem B0:Yv X (.builtin "len") (λxs H Q=>∃x n,xs=[x]∧Uy X.K x H n∧Q (.int n) H):=by
 intro ah s σ H xs us Q I r h;obtain⟨x,n,rfl,e,q⟩:=h;obtain⟨u,rfl,bI⟩:=WL r;have ai:=kD;have hs:sizeLine=16777216:=sizeLine_eq;cases x with
 |str y=>
  obtain⟨t,rfl⟩:=bI;obtain⟨cx,cm⟩:y.length≤sizeLine∧n=y.length:=e;subst cm;exact len_str (by omega) ⟨.int _,H,I.tok _,⟨_,rfl⟩,q⟩
 |byt y=>
  obtain⟨t,rfl⟩:=bI;obtain⟨cx,cm⟩:y.size≤sizeLine∧n=y.size:=e;subst cm;exact PySem.W.len_bytes (by omega) ⟨.int _,H,I.tok _,⟨_,rfl⟩,q⟩
 |ref p=>
  cases bI;have cm:(∃xs,SqL X.K H p xs∧n=xs.length)∨∃xs,SqT X.K H p xs∧n=xs.length:=e;rcases cm with⟨xs,al,cm⟩|⟨xs,al,cm⟩
  ·subst cm;obtain⟨its,c0,pl,bh⟩:=I.list al;have dg:=c0.length;exact Calls.call_len_list pl.isList (by simp only[Qd];omega) ⟨.int xs.length,H,I.tok _,⟨_,by simp only[Qd];rw[dg]⟩,q⟩
  ·subst cm;obtain⟨its,c0,pl,bh⟩:=I.tuple al;have dg:=c0.length;exact len_tuple pl (by simp only[Qd];omega) ⟨.int xs.length,H,I.tok _,⟨_,by simp only[Qd];rw[dg]⟩,q⟩
 |_=>exact(show False from e).elim
end
structure lN(h:Heap)(x ap C:Addr)(d2:Str→Option Value):Prop where
 obj:h.get? x=some (instObj C ap)
 ns:h.Ns1 ap d2
 ne:ap≠x
theorem Zgx{h:Heap}{ap:Addr}{d2:Str→Option Value}(n:h.Ns1 ap d2):∃dY,h.get? ap=some dY∧∀name,lookIn name dY=some (d2 name):=by
 obtain⟨o,a',ep,a_,hd,aA,_,a4⟩:=n;refine⟨o,a_,λname=>?_⟩;have e:=a4 name;unfold nsFind findBy at e;rw[←Array.find?_toList] at e;unfold lookIn;rw[hd];dsimp only
 split
 ·rename_i y q;rw[q] at e;exact congrArg some e
 ·rename_i q;rw[q] at e;have a:a'.toList.any (·.refKey)=false:=by
   rw[List.any_eq_false];intro y cx;obtain⟨z,t,B1⟩:=aA y (Array.mem_toList_iff.mp cx);simp[DictEntry.refKey,B1]
  have cE:¬a'.toList.any (·.refKey)=true:=by rw[a];exact Qh
  rw[if_neg cE];exact congrArg some e
theorem lN.look{h:Heap}{x ap C:Addr}{d2:Str→Option Value}(I:lN h x ap C d2):∃dY,PySem.W.InstAt h x (instObj C ap) C (some dY)∧∀name,lookIn name dY=some (d2 name):=
 let⟨dY,a_,ai⟩:=Zgx I.ns
 ⟨dY,⟨I.obj,rfl,rfl,a_⟩,ai⟩
section
variable {prog:Program}{w:World}{A:Around}{E:Value→Shared→Prop}{s:Shared}{K:Frag}{x ap C f:Addr}{d2:Str→Option Value}{name:Str}{v:Value}
theorem Ziv{B2:Bool}{Q:Value→Shared→Prop}(X:K.In s.heap)(I:lN s.heap x ap C d2)(ci:plainGet K C name=true)(cu:hasDictIn K C=true)
  (aS:PySem.W.findIn K (.ref C) name=some none) (cH:d2 name=some v) (sk:handedIn v=true) (h:Q v {s with toks:=s.toks+1}):
  wpAny (model prog w) A (getAttr (.ref x) name B2) Q E s:=by
 obtain⟨dY,J,ai⟩:=I.look;exact PySem.W.get_value X J (plainGet_of ci).1 (PySem.W.findObj_own cu aS rfl (by rw[ai,cH])) sk h
theorem ZhN{pl:Sem Bool}{Q:Value×List Value→Shared→Prop}(X:K.In s.heap)(I:lN s.heap x ap C d2)(ci:plainGet K C name=true)
  (aX:PySem.W.findIn K (.ref C) name=some (some (.ref f))) (aT:isFn K (.ref f)=true) (cH:d2 name=none) (h:Q (.ref f,[.ref x]) s):
  wpAny (model prog w) A (getMethod (.ref x) name pl) Q E s:=by
 obtain⟨dY,J,ai⟩:=I.look;exact PySem.W.method_fn X J (plainGet_of ci).1 (plainGet_of ci).2 aX (beq_iff_eq.mp aT) (by show(lookIn name dY).map (·.isSome)=some false;rw[ai,cH];rfl) h
theorem ZiG{ns:List Str}{Q:Unit→Shared→Prop}(X:K.In s.heap)(I:lN s.heap x ap C d2)
  (hs:PySem.W.findIn K (.ref C) "__setattr__" =some (some (.builtin "object.__setattr__"))) (a1:plainOver K C=true) (aT:takerIn K C name=some none) (cu:hasDictIn K C=true)
  (hw:PySem.Within d2 ns) (hsz:ns.length≤sizeLine)
  (h:∀h',lN h' x ap C (λy=>if y=name then some v else d2 y)→Heap.SameBut ap s.heap h'→Q () {s with heap:=h',toks:=s.toks+2}):
  wpAny (model prog w) A (setAttr (.ref x) name v) Q E s:=by
 obtain⟨dY,J,ai⟩:=I.look;refine PySem.W.set_plain X J hs (PySem.W.osa_open (s:={s with toks:=s.toks+1}) (r:=none) X J a1 aT λb=>?_);obtain⟨cd,aG,mP⟩:=PySem.W.any_some cu;have al:s.heap.get? x=some ⟨.ref C,some ap,.plain,#[]⟩:=I.obj;refine wpAny_bind (wpAny_pure (wpAny_bind (wpAny_bind (wpAny_loadPart al (wpAny_bind (PySem.W.Looks.here (s:={s with toks:=s.toks+1}) (PySem.W.looks_clsIn X aG) ?_))))));rw[mP];refine wpAny_pure (a:=some ap) (wpAny_bind (wpAny_pure (wpAny_bind ?_)));refine wpAny_nsSet1 (s:={s with toks:=s.toks+1}) I.ns λh' hQ eR=>?_;obtain⟨oD,Nk,Nl,B3,B4,j4⟩:=hQ.count (PySem.Within.cons name v hw);refine wpAny_bind (wpAny_lookBehind B3 (by rw[B4];exact pastItsLine_dict (Qv j4 (by rw[List.length_cons];omega))) ?_);exact wpAny_pure (h _ ⟨(eR.2 _ (GE I.ne)).trans I.obj,hQ,I.ne⟩ eR)
theorem wt{R:Result→Shared→Prop}{vs:List Value}{kw:List (Str×Value)}(X:K.In s.heap)(a4:makesIn K C=true)
  (hi:PySem.W.findIn K (.ref C) "__init__" =some (some (.ref f))) (aX:typeIn K (.ref f)=some (.type "function"))
  (h:codeAny (model prog w) (A.under (.builtin "type.__call__" ⟨.ref C::vs,kw⟩)) (.call (.ref f) ⟨.ref (s.heap.objs.size+1)::vs,kw⟩) (PySem.W.InitBack (s.heap.objs.size+1) R)
   {s with heap:=(s.heap.push emptyDict).push (instObj C s.heap.objs.size)}):
  codeAny (model prog w) A (.call (.ref C) ⟨vs,kw⟩) R s:=by
 obtain⟨cu,g,d,t,os⟩:=s;exact PySem.W.make_core (PySem.W.makes_of X a4) (PySem.W.looks_findIn X hi) (λself=>PySem.W.bind_fn X self aX) (.inl rfl) h
end
noncomputable def fl (f:Str) (v:V):List (Str×V)→List (Str×V)
 | []=>[(f,v)]
 |(g,x)::r=>if g=f then(g,v)::r else(g,x)::fl f v r
theorem Za6(f g:Str)(v:V):∀fs:List (Str×V),(fl f v fs).lookup g=if g=f then some v else fs.lookup g
 | []=>by
  show List.lookup g [(f,v)]=_
  by_cases h:g=f
  ·have am:(g==f)=true:=beq_iff_eq.mpr h;simp only[List.lookup,am,if_pos h]
  ·have am:(g==f)=false:=beq_eq_false_iff_ne.mpr h;simp only[List.lookup,am,if_neg h]
 |(k,x)::r=>by
  have cI:=Za6 f g v r;rw[show fl f v ((k,x)::r)=(if k=f then(k,v)::r else(k,x)::fl f v r) from rfl]
  by_cases aA:k=f
  ·rw[if_pos aA]
   by_cases h:g=k
   ·have am:(g==k)=true:=beq_iff_eq.mpr h;simp only[List.lookup,am,if_pos (h.trans aA)]
   ·have am:(g==k)=false:=beq_eq_false_iff_ne.mpr h;simp only[List.lookup,am,if_neg (λe:g=f=>h (e.trans aA.symm))]
  ·rw[if_neg aA]
   by_cases h:g=k
   ·have am:(g==k)=true:=beq_iff_eq.mpr h;simp only[List.lookup,am,if_neg (λe:g=f=>aA (h.symm.trans e))]
   ·have am:(g==k)=false:=beq_eq_false_iff_ne.mpr h;simp only[List.lookup,am];exact cI
theorem sm(f:Str)(v:V):∀fs:List (Str×V),f∈(fl f v fs).map (·.1)∧∀g,g∈fs.map (·.1)→g∈(fl f v fs).map (·.1)
 | []=>⟨by simp[fl],λg h=>by simp at h⟩
 |(k,x)::r=>by
  obtain⟨eC,fo⟩:=sm f v r;rw[show fl f v ((k,x)::r)=(if k=f then(k,v)::r else(k,x)::fl f v r) from rfl]
  by_cases aA:k=f
  ·rw[if_pos aA];subst aA;exact⟨by simp,λg h=>by simpa using h⟩
  ·rw[if_neg aA];refine⟨?_,λg h=>?_⟩
   ·rw[List.map_cons];exact QB _ eC
   ·rw[List.map_cons] at h⊢;rcases Qe.mp h with e|e
    ·exact Qe.mpr (.inl e)
    ·exact QB _ (fo g e)
theorem ZaS(f:Str)(v:V):∀fs:List (Str×V),(fl f v fs).length≤fs.length+1
 | []=>by simp[fl]
 |(k,x)::r=>by
  have cI:=ZaS f v r;rw[show fl f v ((k,x)::r)=(if k=f then(k,v)::r else(k,x)::fl f v r) from rfl]
  by_cases aA:k=f
  ·rw[if_pos aA,List.length_cons,List.length_cons];omega
  ·rw[if_neg aA,List.length_cons,List.length_cons];omega
theorem hI.some_of{v:V}{o:Option Value}(r:hI (some v) o):∃u,o=some u∧cO v u:=by
 cases o with
 |none=>exact(show False from r).elim
 |some u=>exact⟨u,rfl,r⟩
theorem hI.none_of{o:Option Value}(r:hI none o):o=none:=by
 cases o with
 |none=>rfl
 |some u=>exact(show False from r).elim
theorem B6{v:V}{u:Value}(r:cO v u):handedIn u=true:=by
 cases v with
 |non=>cases (show u=Value.none from r);rfl
 |bl b=>cases (show u=Value.bool b from r);rfl
 |int i=>obtain⟨t,e⟩:=(show ∃t,u=Value.int i t from r);cases e;rfl
 |str x=>obtain⟨t,e⟩:=(show ∃t,u=Value.str x t from r);cases e;rfl
 |byt b=>obtain⟨t,e⟩:=(show ∃t,u=Value.bytes b t from r);cases e;rfl
 |flt b=>obtain⟨t,e⟩:=(show ∃t,u=Value.float b t from r);cases e;rfl
 |ref a=>cases (show u=Value.ref a from r);rfl
 |ty n=>cases (show u=Value.type n from r);rfl
section
variable {P:Program}{w:World}{H H':Hp}{h h':Heap}{a C ap:Addr}{fs jT:List (Str×V)}
theorem Zaz(hok:HOk P w H h)(e:H a=some (.ins C ap fs)):∃d2,lN h a ap C d2∧(∀f,hI (fs.lookup f) (d2 f))∧PySem.Within d2 (fs.map (·.1))∧fs.length≤1000∧H ap=some (.own a):=by
 obtain⟨d,z,ne,c4,d2,n,r,q⟩:=(show ZW P w H h a (.ins C ap fs) from hok a _ e);exact⟨d2,⟨c4,n,ne⟩,r,q,z,d⟩
end
structure Cls(K:Frag)(C:Addr):Prop where
 pg:plainGet K C Str.empty=true
 hd:hasDictIn K C=true
 po:plainOver K C=true
 sa:PySem.W.findIn K (.ref C) "__setattr__" =some (some (.builtin "object.__setattr__"))
theorem Cls.get{K:Frag}{C:Addr}(c:Cls K C)(f:Str):plainGet K C f=true:=c.pg
def hr(K:Frag)(C:Addr)(f:Str):Prop:=PySem.W.findIn K (.ref C) f=some none
theorem hr.taker{K:Frag}{C:Addr}{f:Str}(n:hr K C f):takerIn K C f=some none:=by
 unfold takerIn;rw[show PySem.W.findIn K (.ref C) f=some none from n]
 rfl
structure Zba(K:Frag)(C:Addr)(m:Str)(f:Addr):Prop where
 at_:PySem.W.findIn K (.ref C) m=some (some (.ref f))
 fn:isFn K (.ref f)=true
 kp:keepIn K (.ref f)=true
section
variable {X:Cx}{ah:List (Addr×Obj)}{σ:St}{H:Hp}{s:Shared}{a C ap:Addr}{fs:List (Str×V)}{f:Str}{v:V}{A:Around}{E:Value→Shared→Prop}
theorem ZbZ{b:Bool}{Q:Value→Shared→Prop}(I:Inv X ah σ H s)(e:H a=some (.ins C ap fs))(c:Cls X.K C)(n:hr X.K C f)(l:fs.lookup f=some v)
  (h:∀u s',Inv X ah σ H s'→cO v u→Q u s'):wpAny (model X.prog X.w) A (getAttr (.ref a) f b) Q E s:=by
 obtain⟨d2,O,r,_,_,_⟩:=Zaz I.hok e;obtain⟨u,hu,eY⟩:=hI.some_of (v:=v) (o:=d2 f) (by rw[←l];exact r f);exact Ziv I.kIn O (c.get f) c.hd n hu (B6 eY) (h u _ (I.tok _) eY)
theorem VB{m:Str}{g:Addr}{pl:Sem Bool}{Q:Value×List Value→Shared→Prop}(I:Inv X ah σ H s)(e:H a=some (.ins C ap fs))(c:Cls X.K C)(k:Zba X.K C m g)(l:fs.lookup m=none)
  (h:Q (.ref g,[.ref a]) s):wpAny (model X.prog X.w) A (getMethod (.ref a) m pl) Q E s:=by
 obtain⟨d2,O,r,_,_,_⟩:=Zaz I.hok e;have bL:d2 m=none:=hI.none_of (by rw[←l];exact r m);exact ZhN I.kIn O (c.get m) k.at_ k.fn bL h
theorem Zbu{y:V}{u:Value}{Q:Unit→Shared→Prop}(I:Inv X ah σ H s)(e:H a=some (.ins C ap fs))(c:Cls X.K C)(n:hr X.K C f)(ai:fs.length<1000)(cv:cO y u)
  (h:∀s',Inv X ah σ (upd H a (.ins C ap (fl f y fs))) s'→Q () s'):wpAny (model X.prog X.w) A (setAttr (.ref a) f u) Q E s:=by
 obtain⟨d2,O,r,eg,_,a_⟩:=Zaz I.hok e;have bh:(fs.map (·.1)).length≤sizeLine:=by rw[Qb,sizeLine_eq];omega
 refine ZiG I.kIn O c.sa c.po n.taker c.hd eg bh λh' O' j2=>h _ ?_;have hd:∃o,h'.get? ap=some o:=let⟨o,_,_,cm,_⟩:=O'.ns;⟨o,cm⟩
 refine I.write (x:=a) (e:=ap) (by rw[e];exact True.intro) (.inr a_) (λb q am z=>(j2.2 b am).trans z) hd ?_;refine⟨by rw[bJ O.ne];exact a_,?_,O.ne,O'.obj,_,O'.ns,λg=>?_,λg ci=>?_⟩
 ·have:=ZaS f y fs;omega
 ·show hI ((fl f y fs).lookup g) (if g=f then some u else d2 g);rw[Za6]
  by_cases q:g=f
  ·rw[if_pos q,if_pos q];exact cv
  ·rw[if_neg q,if_neg q];exact r g
 ·by_cases q:g=f
  ·rw[q];exact(sm f y fs).1
  ·refine(sm f y fs).2 g (eg g λz=>ci ?_);show(if g=f then some u else d2 g)=none;rw[if_neg q];exact z
theorem Inv.made(I:Inv X ah σ H s):Inv X ah σ (upd (upd H s.heap.objs.size (.own (s.heap.objs.size+1))) (s.heap.objs.size+1) (.ins C s.heap.objs.size []))
  {s with heap:=(s.heap.push emptyDict).push (instObj C s.heap.objs.size)}:=by
 have aV:(s.heap.push emptyDict).get? s.heap.objs.size=some emptyDict:=Heap.get?_push_size s.heap rfl;have a8:((s.heap.push emptyDict).push (instObj C s.heap.objs.size)).get? (s.heap.objs.size+1)=some (instObj C s.heap.objs.size):=by
  have:=Heap.get?_push_size (s.heap.push emptyDict) (o:=instObj C s.heap.objs.size) rfl
  rwa [Heap.size_push] at this
 have eP:(s.heap.push emptyDict).Ns s.heap.objs.size (λ_=>none):=⟨emptyDict,#[],_,aV,rfl,(λe b'=>absurd b' (by simp)),λ_=>rfl⟩;have a0:=I.laid (a:=s.heap.objs.size) (o:= .own (s.heap.objs.size+1)) (h':=s.heap.push emptyDict) (t':=s.toks) (λb u q=>Heap.get?_push_of_some _ q) (Qc _) ⟨_,aV⟩;refine a0.laid (a:=s.heap.objs.size+1) (o:= .ins C s.heap.objs.size []) (t':=s.toks) (λb u q=>Heap.get?_push_of_some _ q) (Nat.le_of_eq (Heap.size_push _ _)) ?_;have ne:s.heap.objs.size≠s.heap.objs.size+1:=Qs (Rp _);refine⟨by rw[bJ ne,Ze],Qx _,ne,a8,λ_=>none,(Heap.Ns1.of_empty eP).at λo q=>Heap.get?_push_of_some _ q,λ_=>True.intro,λy cx=>absurd rfl cx⟩
theorem ZiO{prog:Program}{w:World}{env:Env}{e:Expr}{f:Str}{pos:Pos}{s:Shared}{Q:Value→Shared→Prop}(am:attributeBase e f env (eval e env)=eval e env)
  (h:wpAny (model prog w) A (eval e env) (λo dr=>wpAny (model prog w) A (getAttr o f true) Q E dr) E s):wpAny (model prog w) A (eval (.Attribute e f pos) env) Q E s:=
 Attribute_any_ h (by rw[arm_eval_Attribute,am])
end
noncomputable def so (K:Frag) (bn:TE) (f:Str):TE:=λσ H Q=>bn σ H λx ao=>∃a C ap fs v,x= .ref a∧ao a=some (.ins C ap fs)∧Cls K C∧hr K C f∧fs.lookup f=some v∧Q v ao
noncomputable def sr (K:Frag) (bn gF:TE) (f:Str):TS:=λD σ H=>gF σ H λy ao=>bn σ ao λx ar=>∃a C ap fs,x= .ref a∧ar a=some (.ins C ap fs)∧Cls K C∧hr K C f∧fs.length<1000∧
 D.nx σ (upd ar a (.ins C ap (fl f y fs)))
def Zh0(X:Cx)(op:Operator)(j5:V→V→Hp→VK→Prop):Prop:=
 ∀(ah:List (Addr×Obj))(s:Shared)(σ:St)(H:Hp)(x y:V)(u v:Value)(Q:VK),Inv X ah σ H s→cO x u→cO y v→j5 x y H Q→wpAny (model X.prog X.w) X.A (inplaceOp op u v) (EP X ah σ Q) X.xe s
noncomputable def ss (K:Frag) (bn gF:TE) (j5:V→V→Hp→VK→Prop) (f:Str):TS:=λD σ H=>bn σ H λx ao=>∃a C ap fs v,x= .ref a∧ao a=some (.ins C ap fs)∧Cls K C∧hr K C f∧fs.lookup f=some v∧
 gF σ ao λy ar=>j5 v y ar λz a2=>∃qd jT,a2 a=some (.ins C qd jT)∧jT.length<1000∧D.nx σ (upd a2 a (.ins C qd (fl f z jT)))
section
variable {X:Cx}{o e value:Expr}{f:Str}{pos iR jr:Pos}{bn gF:TE}
theorem ZjX(b':PE X e bn)(am:attributeBase e f X.env (eval e X.env)=eval e X.env):PE X (.Attribute e f pos) (so X.K bn f):=by
 intro ah s σ H Q I h;refine ZiO am (thn (b' ah s σ H _ I h) λu aB ⟨x,ao,a0,bI,a,C,ap,fs,v,ex,ea,c,n,l,q⟩=>?_);subst ex;obtain rfl:u=Value.ref a:=bI;exact ZbZ a0 ea c n l λp5 bc cR eY=>⟨v,ao,cR,eY,q⟩
theorem ZjG(aS:PE X o bn)(cH:PE X value gF)(hs:swapsWith value (some (.Attribute o f iR)) pos.line X.env=pure false):PS X (.Assign [.Attribute o f iR] value pos) (sr X.K bn gF f):=by
 intro ah s σ H D I h;refine plainObj_wpAny_Assign_Attribute (thn (cH ah s σ H _ I h) λu aB ⟨y,ao,a0,cv,q⟩=>thn (aS ah aB σ ao _ a0 q) λde bc ⟨x,ar,cR,bI,a,C,ap,fs,ex,ea,c,n,l,c6⟩=>?_) hs;subst ex;obtain rfl:de=Value.ref a:=bI;exact Zbu cR ea c n l cv λbe ef=>⟨σ,_,ef,c6⟩
theorem Zg1{op:Operator}{j5:V→V→Hp→VK→Prop}(aS:PE X o bn)(cH:PE X value gF)(su:Zh0 X op j5):PS X (.AugAssign (.Attribute o f jr) op value pos) (ss X.K bn gF j5 f):=by
 intro ah s σ H D I h;refine wpAny_AugAssign_AttributeAny (thn (aS ah s σ H _ I h) λde aB ⟨x,ao,a0,bI,a,C,ap,fs,v,ex,ea,c,n,l,q⟩=>?_);subst ex;obtain rfl:de=Value.ref a:=bI;refine ZbZ a0 ea c n l λu bc cR eY=>thn (cH ah bc σ ao _ cR q) λj1 be ⟨y,ar,ef,cv,fV⟩=>thn (su ah be σ ar v y u j1 _ ef eY cv fV) λwu cp ⟨z,a2,jZ,B7,qd,jT,ou,B8,ol⟩=>?_;exact Zbu jZ ou c n B8 B7 λcK hN=>⟨σ,_,hN,ol⟩
noncomputable def rAdd:V→V→Hp→VK→Prop:=λx y H Q=>∃i j,x= .int i∧y= .int j∧Q (.int (i+j)) H
theorem B9:Zh0 X .Add rAdd:=by
 rintro ah s σ H x y u v Q I bI cv ⟨i,j,rfl,rfl,q⟩;obtain⟨t,rfl⟩:=(show ∃t,u=Value.int i t from bI);obtain⟨t',rfl⟩:=(show ∃t',v=Value.int j t' from cv);exact PyProof.Rows.iadd_int ⟨.int (i+j),H,I.tok _,⟨_,rfl⟩,q⟩
theorem Zki{pl:Sem Bool}{m:Str}{ei:Pos}{args:List Expr}{ah:List (Addr×Obj)}{s:Shared}{σ:St}{H:Hp}{Q:Value→Shared→Prop}{cr:TE}(b':PE X e cr)(I:Inv X ah σ H s)
  (h:cr σ H λx ao=>∃a C ap fs g,x= .ref a∧ao a=some (.ins C ap fs)∧Cls X.K C∧Zba X.K C m g∧fs.lookup m=none∧
   ∀aB,Inv X ah σ ao aB→wpAny (model X.prog X.w) X.A (callWith pos (.ref g) [.ref a] (backTo pos (starEach args X.env)) (backToKw pos (keywordEach [] X.env))) Q X.xe aB)
  (aT:eval (.Call (.Attribute e m ei) args [] pos) X.env=(do
   let de←eval e X.env
   standAt ei.atName
   let(f,first)←holding [de] (getMethod de m pl)
   callWith pos f first (backTo pos (starEach args X.env)) (backToKw pos (keywordEach [] X.env)))):
  wpAny (model X.prog X.w) X.A (eval (.Call (.Attribute e m ei) args [] pos) X.env) Q X.xe s:=by
 refine methodCall_KW (pl:=pl) (thn (b' ah s σ H _ I h) λu aB ⟨x,ao,a0,bI,a,C,ap,fs,g,ex,ea,c,k,l,q⟩=>?_) aT;subst ex;obtain rfl:u=Value.ref a:=bI;exact VB a0 ea c k l (q aB a0)
end
section
variable {X:Cx}{ah:List (Addr×Obj)}{σ:St}{H:Hp}{s:Shared}{A:Around}{E:Value→Shared→Prop}{Q:Value→Shared→Prop}{c:Value}{b:Bool}
inductive Wm(K:Frag)(H:Hp):V→Value→Prop where
 |non:Wm K H .non (.type "NoneType")
 |bl (x:Bool):Wm K H (.bl x) (.type "bool")
 |int (i:Int):Wm K H (.int i) (.type "int")
 |str (x:Str):Wm K H (.str x) (.type "str")
 |flt (x:UInt64):Wm K H (.flt x) (.type "float")
 |lst {a:Addr} {xs:List V} (e:H a=some (.lst xs)):Wm K H (.ref a) (.type "list")
 |frz {a:Addr} {o:Obj} {xs:List V} (e:H a=some (.frz o (.lst xs))):Wm K H (.ref a) (.type "list")
 |tup {a:Addr} {xs:List V} (e:H a=some (.tup xs)):Wm K H (.ref a) (.type "tuple")
 |dK {a:Addr} {kvs:List (Key×V)} (e:H a=some (.dK kvs)):Wm K H (.ref a) (.type "dict")
 |dT {a:Addr} {kvs:List (List Key×V)} (e:H a=some (.dT kvs)):Wm K H (.ref a) (.type "dict")
 |ins {a C ap:Addr} {fs:List (Str×V)} (e:H a=some (.ins C ap fs)) (cl:Cls K C) (aS:PySem.W.findIn K (.ref C) "__class__" =some (some (.builtin "object.__class__")))
   (bL:PySem.W.specialIn K (.builtin "object.__class__") "__get__" =some (some (.builtin "getset_descriptor.__get__"))) (ju:PySem.W.takesIn K (.builtin "object.__class__")=some true)
   (a4:PySem.W.mroIn K C (.type "object")=some true):Wm K H (.ref a) (.ref C)
theorem Zgr{x:V}{u t:Value}(I:Inv X ah σ H s)(bI:cO x u)(ty:Wm X.K H x t)(e:PySem.W.kitOne X.K t c=some b)(h:∀dI,Q (.bool b) {s with toks:=dI}):
  wpAny (model X.prog X.w) A (call (.builtin "isinstance") [u,c]) Q E s:=by
 cases ty with
 |non=>cases (show u=Value.none from bI);exact QY PySem.W.kitx_none I.kIn True.intro e (λz=>nomatch z) h
 |bl y=>cases (show u=Value.bool y from bI);exact QY PySem.W.kitx_bool I.kIn True.intro e (λz=>nomatch z) h
 |int i=>obtain⟨t,q⟩:=(show ∃t,u=Value.int i t from bI);cases q;exact QY PySem.W.kitx_int I.kIn True.intro e (λz=>nomatch z) h
 |str y=>obtain⟨t,q⟩:=(show ∃t,u=Value.str y t from bI);cases q;exact QY PySem.W.kitx_str I.kIn True.intro e (λz=>nomatch z) h
 |flt y=>obtain⟨t,q⟩:=(show ∃t,u=Value.float y t from bI);cases q;exact QY PySem.W.kitx_float I.kIn True.intro e (λz=>nomatch z) h
 | @lst a xs ea=>
  cases (show u=Value.ref a from bI);obtain⟨_,_,n,_,aq⟩:=(show ZW X.prog X.w H s.heap a (.lst xs) from I.hok a _ ea);exact QY kitx_list I.kIn ⟨_,aq,rfl⟩ e (λz=>nomatch z) h
 | @frz a c4 xs ea=>
  cases (show u=Value.ref a from bI);obtain⟨_,_,_,n,_,aq⟩:=(show ZW X.prog X.w H s.heap a (.frz c4 (.lst xs)) from I.hok a _ ea);exact QY kitx_list I.kIn ⟨_,aq,rfl⟩ e (λz=>nomatch z) h
 | @tup a xs ea=>
  cases (show u=Value.ref a from bI);obtain⟨_,_,_,p⟩:=(show ZW X.prog X.w H s.heap a (.tup xs) from I.hok a _ ea);obtain⟨o,aq,av,_⟩:=p;exact QY PySem.W.kitx_tuple I.kIn ⟨o,aq,av⟩ e (λz=>nomatch z) h
 | @dK a kvs ea=>
  cases (show u=Value.ref a from bI);obtain⟨_,_,vs,_,p⟩:=(show ZW X.prog X.w H s.heap a (.dK kvs) from I.hok a _ ea);obtain⟨o,a',ep,aq,av,_⟩:=p;exact QY kitx_dict I.kIn ⟨o,aq,av.1⟩ e (λz=>nomatch z) h
 | @dT a kvs ea=>
  cases (show u=Value.ref a from bI);obtain⟨_,_,xs,_,o,a',ep,aq,av,_⟩:=(show ZW X.prog X.w H s.heap a (.dT kvs) from I.hok a _ ea);exact QY kitx_dict I.kIn ⟨o,aq,av.1⟩ e (λz=>nomatch z) h
 | @ins a C ap fs ea cl aS bL ju a4=>
  cases (show u=Value.ref a from bI);obtain⟨d2,O,_⟩:=Zaz I.hok ea;obtain⟨dY,J,_⟩:=O.look;exact QY (PySem.W.kitx_own (cl.get _) cl.hd aS bL ju a4) I.kIn J e (λz=>nomatch z) h
end
structure d7(k:Nat)(A:Around):Prop where
 hd:A.handled=none
 dp:A.depth+3*k+5<recursionLimit
 un:A.units+16*k+200<cLine
theorem d7.mono{j k:Nat}{A:Around}(r:d7 k A)(h:j≤k):d7 j A:=⟨r.hd,by have:=r.dp;omega,by have:=r.un;omega⟩
theorem d7.deeper{k:Nat}{A:Around}(r:d7 (k+1) A)(env:Env):d7 k (A.deeper env):=
 ⟨r.hd,by have:=r.dp;show A.depth+1+3*k+5<_;omega,by have:=r.un;show A.units+3+16*k+200<_;omega⟩
theorem ZfG{A:Around}{C:Addr}{us:List Value}{kw:List (Str×Value)}:(A.under (.builtin "type.__call__" ⟨.ref C::us,kw⟩)).depth=A.depth+1:=by
 first|rfl|simp[Around.under,Code.weight,Code.isCreation,Code.isGuard,Code.isCaller,Code.frames,Code.isFrame,guardIds]
theorem Zfm{A:Around}{C:Addr}{us:List Value}{kw:List (Str×Value)}:(A.under (.builtin "type.__call__" ⟨.ref C::us,kw⟩)).units=A.units+1:=by
 first|rfl|simp[Around.under,Code.cUnits,Code.frames,Code.isFrame]
theorem d7.make{k:Nat}{A:Around}(r:d7 (k+1) A)(C:Addr)(us:List Value)(kw:List (Str×Value)):d7 k (A.under (.builtin "type.__call__" ⟨.ref C::us,kw⟩)):=
 ⟨r.hd,by have:=r.dp;rw[ZfG];omega,by have:=r.un;rw[Zfm];omega⟩
theorem d7.depth{k:Nat}{A:Around}(r:d7 k A):A.depth<recursionLimit:=by have:=r.dp;omega
theorem d7.units{k:Nat}{A:Around}(r:d7 k A):A.units+64<cLine:=by have:=r.un;omega
noncomputable def tNil:TA:=λ_ H Q=>Q [] H
noncomputable def wv (bn:TE) (iW:TA):TA:=λσ H Q=>bn σ H λx ao=>iW σ ao λxs ar=>Q (x::xs) ar
section
variable {X:Cx}{e:Expr}{a':List Expr}{cr:TE}{t:TA}{pos:Pos}
theorem aH:PA X [] tNil:=λ_ _ _ _ H Q I h=>Calls.spliced_nil ⟨[],H,I,.nil,h⟩
theorem ay(aS:PE X e cr)(au:PA X a' t)(hs:starEach (e::a') X.env=(false,eval e X.env)::starEach a' X.env:=by rfl):PA X (e::a') (wv cr t):=by
 intro pos ah s σ H Q I h;rw[hs];show wpAny _ _ (spliced ((false,eval e X.env)::backTo pos (starEach a' X.env))) _ _ s;refine Calls.spliced_cons (thn (aS ah s σ H _ I h) λu aB ⟨x,ao,a0,cy,cz⟩=>?_);exact thn (au pos ah aB σ ao _ a0 cz) λus bc ⟨xs,ar,cR,cU,c6⟩=>⟨x::xs,ar,cR,.cons cy cU,c6⟩
noncomputable def ww (t:TA):TE:=λσ H Q=>t σ H λxs ao=>xs.length≤sizeLine∧∀p,ao p=none→Q (.ref p) (upd ao p (.tup xs))
noncomputable def wx (t:TA):TE:=λσ H Q=>t σ H λxs ao=>xs.length≤sizeLine∧∀p,ao p=none→Q (.ref p) (upd ao p (.lst xs))
theorem g8{x1}(h:PA X a' t):PE X (.Tuple a' x1 pos) (ww t):=by
 intro ah s σ H Q I cj;refine wpAny_Tuple_spliced (thn (h pos ah s σ H _ I cj) λus aB ⟨xs,ao,a0,r,z,q⟩=>⟨by rw[←r.length];exact z,?_⟩);have aX:ao aB.heap.objs.size=none:=a0.hok.fresh (Qc _);refine⟨.ref aB.heap.objs.size,upd ao aB.heap.objs.size (.tup xs),a0.laid (t':=aB.toks) (λb u e=>Heap.get?_push_of_some _ e) (Qc _) ?_,rfl,q _ aX⟩;exact⟨z,us,r,⟨_,Heap.get?_push_size _ rfl,rfl,_,rfl⟩⟩
theorem f6(h:PA X a' t):PE X (.List a' pos) (wx t):=by
 intro ah s σ H Q I cj;refine wpAny_List_spliced (thn (h pos ah s σ H _ I cj) λus aB ⟨xs,ao,a0,r,z,q⟩=>⟨by rw[←r.length];exact z,?_⟩);have aX:ao aB.heap.objs.size=none:=a0.hok.fresh (Qc _);refine⟨.ref aB.heap.objs.size,upd ao aB.heap.objs.size (.lst xs),a0.laid (t':=aB.toks) (λb u e=>Heap.get?_push_of_some _ e) (Qc _) ?_,rfl,q _ aX⟩;exact⟨z,us,0,r,Heap.get?_push_size _ rfl⟩
end
noncomputable abbrev Sp:=List V→Hp→VK→XK→Prop
noncomputable abbrev CXT:=List Env→Hp→Shared→XK→Value→Shared→Prop
structure V8(P:Program)(w:World)(K:Frag)(mg:Str→Option Value)(base:Heap)(A:Around)(outer:List Env)(s:Shared)(H:Hp):Prop where
 frames:A.frames=some outer
 mod:Mod K mg base
 bs:∀b o,base.get? b=some o→s.heap.get? b=some o∧H b=none
 bsz:base.objs.size≤s.heap.objs.size
 funs:s.heap.FunFrames base outer
 frf:∀b∈frs outer,H b=none
 hok:HOk P w H s.heap
 bare:AllBare s.gens
def CE(outer:List Env)(P:Program)(w:World)(H:Hp)(s:Shared)(Q:VK)(u:Value)(s':Shared):Prop:=
 ∃v H',s'.os=s.os∧AllBare s'.gens∧Un (frs outer) [] H H' s.heap s'.heap∧HOk P w H' s'.heap∧cO v u∧Q v H'
def CR(CX:CXT)(outer:List Env)(P:Program)(w:World)(H:Hp)(s:Shared)(Q:VK)(E:XK)(r:Result)(s':Shared):Prop:=
 match r with
 | .ok (.ret u)=>CE outer P w H s Q u s'
 | .ok _=>False
 | .error e=>CX outer H s E e s'
structure Yo(P:Program)(w:World)(K:Frag)(mg:Str→Option Value)(base:Heap)(CX:CXT)(k:Nat)(f:Addr)(fd:FuncData)(a5:List Str)(sp:Sp):Prop where
 len:∀vs H Q E,sp vs H Q E→vs.length=a5.length
 run:∀(A:Around)(outer:List Env)(s:Shared)(H:Hp)(args:Args)(us:List Value)(vs:List V)(Q:VK)(E:XK),d7 k A→V8 P w K mg base A outer s H→BindsTo s fd args (a5.zip us)→cD vs us→sp vs H Q E→
  codeAny (model P w) A (.call (.ref f) args) (CR CX outer P w H s Q E) s
theorem Yo.mono{P:Program}{w:World}{K:Frag}{mg:Str→Option Value}{base:Heap}{CX:CXT}{j k:Nat}{f:Addr}{fd:FuncData}{a5:List Str}{sp:Sp}(F:Yo P w K mg base CX j f fd a5 sp)(h:j≤k):
  Yo P w K mg base CX k f fd a5 sp:=⟨F.len,λA outer s H args us vs Q E au=>F.run A outer s H args us vs Q E (au.mono h)⟩
theorem V8.make{P:Program}{w:World}{K:Frag}{mg:Str→Option Value}{base:Heap}{A:Around}{outer:List Env}{s:Shared}{H:Hp}(e:V8 P w K mg base A outer s H)(C:Addr)(us:List Value)(kw:List (Str×Value)):
  V8 P w K mg base (A.under (.builtin "type.__call__" ⟨.ref C::us,kw⟩)) outer s H:=⟨by first|exact e.frames|(simpa[Around.under,Code.envs,Code.isFrame,pushEnvs] using e.frames),e.mod,e.bs,e.bsz,e.funs,e.frf,e.hok,e.bare⟩
section
variable {X:Cx}{ah:List (Addr×Obj)}{σ:St}{H:Hp}{s s':Shared}
theorem Inv.env0(I:Inv X ah σ H s):V8 X.prog X.w X.K X.mg X.base X.A X.stack s H:=
 ⟨I.ok.frames,I.ok.mod,I.bs,Qv I.ok.bsz I.sz,I.stack,I.stkFree,I.hok,I.bare⟩
theorem Inv.after{Q:VK}{u:Value}(I:Inv X ah σ H s)(h:CE X.stack X.prog X.w H s Q u s'):EP X ah σ Q u s':=by
 obtain⟨v,H',os,bare,un,hok,r,q⟩:=h;obtain⟨cu,g,d,t,B_⟩:=s';obtain rfl:B_=s.os:=os;exact⟨v,H',I.call (h':=cu) (g':=g) (d':=d) (t':=t) (ch:=[]) un hok bare (λb z=>absurd z (by simp)),r,q⟩
end
noncomputable def qe (sp:Sp) (dy:List V) (E:XK) (t:TA):TE:=λσ H Q=>t σ H λvs ao=>sp (vs++dy) ao Q E
noncomputable def ov (C:Addr) (m:Str) (sp:Sp) (dy:List V) (E:XK) (bn:TE) (t:TA):TE:=λσ H Q=>bn σ H λx ao=>∃a ap fs,x= .ref a∧ao a=some (.ins C ap fs)∧fs.lookup m=none∧
 t σ ao λvs ar=>sp (x::(vs++dy)) ar Q E
noncomputable def ow (C:Addr) (sp:Sp) (dy:List V) (E:XK) (t:TA):TE:=λσ H Q=>t σ H λvs ao=>∀x ap,ao x=none→ao ap=none→ap≠x→
 sp (.ref x::(vs++dy)) (upd (upd ao ap (.own x)) x (.ins C ap [])) (λv ar=>v= .non∧Q (.ref x) ar) E
def Y8(K:Frag)(fd:FuncData)(a5:List Str)(dS:List Value):Prop:=
 ∀(s:Shared)(us:List Value),K.In s.heap→(us++dS).length=a5.length→BindsTo s fd ⟨us,[]⟩ (a5.zip (us++dS))
theorem Y8.all{K:Frag}{fd:FuncData}{a5:List Str}(h:∀us:List Value,us.length=a5.length→bindArgs fd ⟨us,[]⟩=pure (a5.zip us)):Y8 K fd a5 []:=λs us _ ai=>by
 rw[Q5] at ai⊢;exact .of_eq (h us ai)
def YZ(CX:CXT)(X:Cx)(E:XK):Prop:=∀(ah:List (Addr×Obj))(σ:St)(H:Hp)(s:Shared)(e:Value)(s':Shared),Inv X ah σ H s→CX X.stack H s E e s'→X.xe e s'
section
variable {X:Cx}{CX:CXT}{k:Nat}{f C:Addr}{fd:FuncData}{a5:List Str}{sp:Sp}{dy:List V}{dS:List Value}{E:XK}{x m:Str}{p pos ei:Pos}{e o:Expr}{a':List Expr}{bn:TE}{t:TA}
theorem sv{ah:List (Addr×Obj)}{σ:St}{H:Hp}{s:Shared}{Q:VK}{us:List Value}{vs:List V}(F:Yo X.prog X.w X.K X.mg X.base CX k f fd a5 sp)(au:d7 k X.A)(am:Y8 X.K fd a5 dS)(hd:cD dy dS)(al:YZ CX X E)
  (I:Inv X ah σ H s) (r:cD vs us) (h:sp (vs++dy) H Q E):wpAny (model X.prog X.w) X.A (call (.ref f) us) (EP X ah σ Q) X.xe s:=by
 have cU:cD (vs++dy) (us++dS):=r.append hd;have ai:(us++dS).length=a5.length:=by rw[←cU.length];exact F.len _ _ _ _ h
 refine wpAny_call (codeAny_mono (F.run X.A X.stack s H ⟨us,[]⟩ (us++dS) (vs++dy) Q E au I.env0 (am s us I.kIn ai) cU h) λr s' cj=>?_);cases r with
 |error e=>exact al ah σ H s e s' I cj
 |ok az=>
  cases az with
  |ret u=>exact I.after cj
  |next=>exact False.elim cj
  |brk=>exact False.elim cj
  |cont=>exact False.elim cj
theorem ZiE(F:Yo X.prog X.w X.K X.mg X.base CX k f fd a5 sp)(au:d7 k X.A)(ci:Gl X x)(a4:X.mg x=some (.ref f))(aA:keepIn X.K (.ref f)=true)(am:Y8 X.K fd a5 dS)(hd:cD dy dS)(al:YZ CX X E)
  (aS:PA X (e::a') t) (fA:(x==("__debug__" :Str))=false:=by decide) (b':starEach (e::a') X.env=(false,eval e X.env)::starEach a' X.env:=by rfl) (fa:(backTo pos (starEach a' X.env)).any (·.1)=false:=by rfl):
  PE X (.Call (.Name x p) (e::a') [] pos) (qe sp dy E t):=by
 intro ah s σ H Q I h;refine wpAny_Call_Name_kw (ku I ci a4 ?_ fA);refine callWith_K (h₀:=X.base) I.ok.mod.kin aA (thn (aS pos ah s σ H _ I h) λus aB ⟨vs,ao,a0,r,q⟩=>⟨a0.kIn,?_⟩) b' fa;exact sv F au am hd al a0 r q
theorem wy{pl:Sem Bool}(b':PE X o bn)(c:Cls X.K C)(a4:Zba X.K C m f)(F:Yo X.prog X.w X.K X.mg X.base CX k f fd a5 sp)(au:d7 k X.A)(am:Y8 X.K fd a5 dS)(hd:cD dy dS)(al:YZ CX X E)(aS:PA X (e::a') t)
  (ed:starEach (e::a') X.env=(false,eval e X.env)::starEach a' X.env:=by rfl) (fa:(backTo pos (starEach a' X.env)).any (·.1)=false:=by rfl)
  (aT:eval (.Call (.Attribute o m ei) (e::a') [] pos) X.env=(do
   let de←eval o X.env
   standAt ei.atName
   let(f,first)←holding [de] (getMethod de m pl)
   callWith pos f first (backTo pos (starEach (e::a') X.env)) (backToKw pos (keywordEach [] X.env))):=by rfl):
  PE X (.Call (.Attribute o m ei) (e::a') [] pos) (ov C m sp dy E bn t):=by
 intro ah s σ H Q I h;refine methodCall_KW (pl:=pl) (thn (b' ah s σ H _ I h) λu aB ⟨x,ao,a0,bI,a,ap,fs,ex,ea,l,q⟩=>?_) aT;subst ex;obtain rfl:u=Value.ref a:=bI;refine VB a0 ea c a4 l ?_;refine callWith_K (first:=[.ref a]) (h₀:=X.base) I.ok.mod.kin a4.kp (thn (aS pos ah aB σ ao _ a0 q) λus bc ⟨vs,ar,cR,r,c6⟩=>⟨cR.kIn,?_⟩) ed fa;exact sv (us:= .ref a::us) (vs:= .ref a::vs) F au am hd al cR (.cons rfl r) c6
theorem ZhW{pl:Sem Bool}(b':PE X o bn)(c:Cls X.K C)(a4:Zba X.K C m f)(F:Yo X.prog X.w X.K X.mg X.base CX k f fd a5 sp)(au:d7 k X.A)(am:Y8 X.K fd a5 dS)(hd:cD dy dS)(al:YZ CX X E)
  (aT:eval (.Call (.Attribute o m ei) [] [] pos) X.env=(do
   let de←eval o X.env
   standAt ei.atName
   let(f,first)←holding [de] (getMethod de m pl)
   callWith pos f first (backTo pos (starEach [] X.env)) (backToKw pos (keywordEach [] X.env))):=by rfl):
  PE X (.Call (.Attribute o m ei) [] [] pos) (ov C m sp dy E bn tNil):=by
 intro ah s σ H Q I h;refine methodCall_KW (pl:=pl) (thn (b' ah s σ H _ I h) λu aB ⟨x,ao,a0,bI,a,ap,fs,ex,ea,l,q⟩=>?_) aT;subst ex;obtain rfl:u=Value.ref a:=bI;refine VB a0 ea c a4 l ?_;exact callWith_K0 (first:=[.ref a]) a0.kIn a4.kp (sv (us:=[.ref a]) (vs:=[.ref a]) F au am hd al a0 (.cons rfl .nil) q)
structure Mk(K:Frag)(C f:Addr):Prop where
 makes:makesIn K C=true
 init:PySem.W.findIn K (.ref C) "__init__" =some (some (.ref f))
 fn:isFn K (.ref f)=true
 kp:keepIn K (.ref C)=true
theorem wz{ah:List (Addr×Obj)}{σ:St}{H:Hp}{s:Shared}{Q:VK}{us:List Value}{vs:List V}(M:Mk X.K C f)(F:Yo X.prog X.w X.K X.mg X.base CX k f fd a5 sp)(au:d7 (k+1) X.A)(am:Y8 X.K fd a5 dS)(hd:cD dy dS)
  (al:YZ CX X E) (I:Inv X ah σ H s) (r:cD vs us)
  (h:∀x ap,H x=none→H ap=none→ap≠x→sp (.ref x::(vs++dy)) (upd (upd H ap (.own x)) x (.ins C ap [])) (λv ar=>v= .non∧Q (.ref x) ar) E):
  wpAny (model X.prog X.w) X.A (call (.ref C) us) (EP X ah σ Q) X.xe s:=by
 have cj:=h (s.heap.objs.size+1) s.heap.objs.size (I.hok.fresh (Nat.le_succ _)) (I.hok.fresh (Qc _)) (Qs (Rp _));have cR:=Inv.made (C:=C) I;have cU:cD (V.ref (s.heap.objs.size+1)::(vs++dy)) (Value.ref (s.heap.objs.size+1)::(us++dS)):= .cons rfl (r.append hd);have ai:(Value.ref (s.heap.objs.size+1)::us++dS).length=a5.length:=by
  have e:=cU.length;rw[F.len _ _ _ _ cj] at e;exact e.symm
 refine wpAny_call (wt (f:=f) I.kIn M.makes M.init (beq_iff_eq.mp M.fn) (codeAny_mono (F.run _ X.stack _ _ ⟨Value.ref (s.heap.objs.size+1)::us,[]⟩ (Value.ref (s.heap.objs.size+1)::(us++dS)) _ _ E (au.make C us [])
  (cR.env0.make C us []) (am _ (Value.ref (s.heap.objs.size+1)::us) cR.kIn ai) cU cj) λr s' iu=>?_))
 cases r with
 |error e=>exact al ah σ _ _ e s' cR iu
 |ok az=>
  cases az with
  |ret u=>
   obtain⟨v,H',ef,cW,fb,fV⟩:=cR.after iu;subst fb;exact⟨cW,⟨V.ref (s.heap.objs.size+1),H',ef,rfl,fV⟩⟩
  |next=>exact False.elim iu
  |brk=>exact False.elim iu
  |cont=>exact False.elim iu
theorem ZiU(M:Mk X.K C f)(F:Yo X.prog X.w X.K X.mg X.base CX k f fd a5 sp)(au:d7 (k+1) X.A)(ci:Gl X x)(a4:X.mg x=some (.ref C))(am:Y8 X.K fd a5 dS)(hd:cD dy dS)(al:YZ CX X E)
  (aS:PA X (e::a') t) (fA:(x==("__debug__" :Str))=false:=by decide) (b':starEach (e::a') X.env=(false,eval e X.env)::starEach a' X.env:=by rfl) (fa:(backTo pos (starEach a' X.env)).any (·.1)=false:=by rfl):
  PE X (.Call (.Name x p) (e::a') [] pos) (ow C sp dy E t):=by
 intro ah s σ H Q I h;refine wpAny_Call_Name_kw (ku I ci a4 ?_ fA);refine callWith_K (h₀:=X.base) I.ok.mod.kin M.kp (thn (aS pos ah s σ H _ I h) λus aB ⟨vs,ao,a0,r,q⟩=>⟨a0.kIn,?_⟩) b' fa;exact wz M F au am hd al a0 r q
theorem Zhp(M:Mk X.K C f)(F:Yo X.prog X.w X.K X.mg X.base CX k f fd a5 sp)(au:d7 (k+1) X.A)(ci:Gl X x)(a4:X.mg x=some (.ref C))(am:Y8 X.K fd a5 dS)(hd:cD dy dS)(al:YZ CX X E)
  (fA:(x==("__debug__" :Str))=false:=by decide):PE X (.Call (.Name x p) [] [] pos) (ow C sp dy E tNil):=by
 intro ah s σ H Q I h;refine wpAny_Call_Name_kw (ku I ci a4 ?_ fA);exact callWith_K0 I.kIn M.kp (wz (us:=[]) M F au am hd al I .nil h)
end
section
variable {X:Cx}{CX:CXT}{k:Nat}{f C:Addr}{fd:FuncData}{a5 kE:List Str}{sp:Sp}{E:XK}{x m:Str}{p pos ei Nn:Pos}{e o:Expr}{a':List Expr}{No:List Keyword}{cr bn:TE}{t dI:TA}{nm:Option Str}
variable {g:List Value→List Value→List Value}{Np:List V→List V→List V}
end
structure Zq(N P:List Str)(bo:Scope):Prop where
 kind:bo.kind= .function
 co:bo.isCoroutine=false
 gen:bo.isGenerator=false
 nd:N.Nodup
 pre:N.take P.length=P
 par:∀x∈P,bo.names.lookup x=some .local∨bo.names.lookup x=some .cell
 nofree:∀y∈bo.names,y.2≠ .free
theorem ZcT{kindOf:Str→Option NameKind}{x:Str}:∀{binds:List (Str×Value)}{m:Str→Option Value},(∀v,(x,v)∉binds)→bindL kindOf binds m x=m x
 | [],_,_=>rfl
 |(n,v)::r,m,h=>by
  unfold bindL;rw[ZcT λw hw=>h w (QB _ hw)]
  split
  ·have:x≠n:=by rintro rfl;exact h v QM
   simp[this]
  ·rfl
theorem Zcw{kindOf:Str→Option NameKind}{x:Str}:∀{binds:List (Str×Value)}{m:Str→Option Value},(∀v,(x,v)∉binds)→bindC kindOf binds m x=m x
 | [],_,_=>rfl
 |(n,v)::r,m,h=>by
  unfold bindC;rw[Zcw λw hw=>h w (QB _ hw)]
  split
  ·rfl
  ·have:x≠n:=by rintro rfl;exact h v QM
   simp[this]
theorem wA{kindOf:Str→Option NameKind}{x:Str}{v:Value}:∀{P:List Str}{vs:List Value}{i:Nat}{m:Str→Option Value},P.Nodup→P[i]? =some x→vs[i]? =some v→kindOf x=some .local→
  bindL kindOf (P.zip vs) m x=some v
 | [],_,_,_,_,h,_,_=>by simp at h
 |_::_,[],_,_,_,_,h,_=>by simp at h
 |p::P,w::vs,0,m,nd,aq,av,aA=>by
  simp at aq av;subst aq;subst av;show bindL kindOf ((p,w)::P.zip vs) m p=_;unfold bindL;rw[ZcT λv cH=>(Ry.mp nd).1 (RN cH).1,if_pos aA];simp
 |p::P,w::vs,i+1,m,nd,aq,av,aA=>by
  show bindL kindOf ((p,w)::P.zip vs) m x=_;unfold bindL;exact wA (i:=i) (Ry.mp nd).2 (by simpa using aq) (by simpa using av) aA
theorem ZcI{kindOf:Str→Option NameKind}{x:Str}{v:Value}:∀{P:List Str}{vs:List Value}{i:Nat}{m:Str→Option Value},P.Nodup→P[i]? =some x→vs[i]? =some v→kindOf x≠some .local→
  bindC kindOf (P.zip vs) m x=some v
 | [],_,_,_,_,h,_,_=>by simp at h
 |_::_,[],_,_,_,_,h,_=>by simp at h
 |p::P,w::vs,0,m,nd,aq,av,aA=>by
  simp at aq av;subst aq;subst av;show bindC kindOf ((p,w)::P.zip vs) m p=_;unfold bindC;rw[Zcw λv cH=>(Ry.mp nd).1 (RN cH).1,if_neg aA];simp
 |p::P,w::vs,i+1,m,nd,aq,av,aA=>by
  show bindC kindOf ((p,w)::P.zip vs) m x=_;unfold bindC;exact ZcI (i:=i) (Ry.mp nd).2 (by simpa using aq) (by simpa using av) aA
noncomputable def start (N:List Str) (vs:List V):St:=vs.map some++List.replicate (N.length-vs.length) none
noncomputable def ZL (CX:CXT) (P:Program) (w:World) (K:Frag) (mg:Str→Option Value) (base:Heap) (N:List Str) (qual:Str) (scope:Scope) (f:Addr) (cd:Value) (A:Around) (outer:List Env) (s:Shared) (H:Hp) (E:XK):Cx where
 prog:=P
 w:=w
 K:=K
 mg:=mg
 base:=base
 A:=A.deeper (envOfC qual scope s.heap.objs.size f cd)
 N:=N
 s₀:=s
 H₀:=H
 env:=envOfC qual scope s.heap.objs.size f cd
 outer:=outer
 stack:=envOfC qual scope s.heap.objs.size f cd::outer
 ex:=[]
 calm:=true
 fn:=λ_=>true
 pn:=[]
 xe:=λe s'=>wpAny (model P w) (A.deeper (envOfC qual scope s.heap.objs.size f cd)) (leaving (envOfC qual scope s.heap.objs.size f cd) e) (λ_ ox=>CX outer H s E e ox) (λcm ox=>CX outer H s E cm ox) s'
theorem Zep{bo:Scope}{n:Nat}{x:Str}(h:bo.names.lookup x=some .cell):∃c,(cellsFrom n bo.names []).lookup x=some c:=by
 have q:=cellsFrom_some bo.names n [] (.inl h);exact Ru.mp q
theorem ZcO{CX:CXT}{P:Program}{w:World}{K:Frag}{mg:Str→Option Value}{base:Heap}{N a5:List Str}{qual:Str}{scope:Scope}{f:Addr}{cd:Value}{A:Around}{outer:List Env}{s aB:Shared}{H:Hp}{E:XK}{us:List Value}{vs:List V}
  (S:Zq N a5 scope) (hd:A.handled=none) (dV:V8 P w K mg base A outer s H) (ai:vs.length=a5.length) (r:cD vs us)
  (x:InCallC s s.heap.objs.size (bindL (envOfC qual scope s.heap.objs.size f cd).kindOf (a5.zip us) λ_=>none) (cellsFrom (s.heap.objs.size+1) scope.names []) (bindC (envOfC qual scope s.heap.objs.size f cd).kindOf (a5.zip us) λ_=>none) aB):
  Inv (ZL CX P w K mg base N qual scope f cd A outer s H E) [] (start N vs) H aB:=by
 have fa:a5.length≤N.length:=by have:=congrArg List.length S.pre;rw[QG] at this;omega
 obtain⟨aq,dI,rfl,aA⟩:=x.done;have oy:∀b:Addr,b∉(ZL CX P w K mg base N qual scope f cd A outer s H E).ex:=λb z=>absurd (show b∈([]:List Addr) from z) (by simp);refine⟨⟨dV.mod,S.kind,rfl,rfl,Qc _,λy z c aq av=>?_,λy cx=>?_,λy c _ h=>?_,λ_=>hd,Around.frames_deeper dV.frames,.inr ⟨rfl,rfl⟩,λb z=>absurd z (oy b),dV.bs,dV.bsz,λb _ _=>oy b,λb z=>absurd z (oy b),dV.funs,dV.frf⟩,
  rfl,dV.bare,Un.kept aA,⟨_,x.toInCall.ns,λi y v aq av b_=>?_⟩,λy c h=>⟨_,x.cell y c h⟩,dV.hok.fresh (Qc _),λy c h=>?_,λp a1=>absurd (show p∈([]:List (Addr×Obj)) from a1) (by simp),dV.hok.kept aA,?_⟩
 ·exact name_of_addr x.apart (GM aq) (GM av)
 ·have cx:scope.names.lookup y=some .cell∨scope.names.lookup y=some .free:=cx;rcases cx with cx|cx
  ·exact Zep cx
  ·exact absurd rfl (S.nofree _ (GM cx))
 ·exact QW (x.above y c (GM h))
 ·have hi:i<vs.length:=by
   unfold start at av
   by_cases hi:i<vs.length
   ·exact hi
   ·rw[Rb (by simpa using hi)] at av;rw[List.getElem?_replicate] at av
    split at av<;>cases av
  have aS:vs[i]? =some v:=by
   unfold start at av;rw[Re (by simpa using hi),Qp] at av;cases e:vs[i]? with
   |none=>rw[e] at av;cases av
   |some a=>rw[e] at av;cases av;rfl
  obtain⟨u,hu,cW⟩:=r.get aS;have a1:a5[i]? =some y:=by
   rw[←S.pre,List.getElem?_take_of_lt (by omega)];exact aq
  have wB:a5.Nodup:=by rw[←S.pre];exact S.nd.sublist (List.take_sublist _ _)
  refine⟨u,cW,?_⟩;rcases S.par y (Q9 a1) with k|k
  ·exact .inl ⟨k,wA wB a1 hu k⟩
  ·obtain⟨c,e⟩:=Zep (n:=s.heap.objs.size+1) k;refine .inr ⟨.inl k,c,e,?_⟩;have q:=x.cell y c e;rw[ZcI wB a1 hu (by show scope.names.lookup y≠_;rw[k];decide)] at q;exact q
 ·exact dV.hok.fresh (QW (x.above y c (GM h)))
 ·unfold start;show _=N.length;rw[Qg,Qb,Q0];omega
theorem Zh5{CX:CXT}{P:Program}{w:World}{K:Frag}{mg:Str→Option Value}{base:Heap}{k:Nat}{f:Addr}{name qual:Str}{params:Arguments}{body:List Stmt}{scope:Scope}{qf kV e5 eM cw ct e_:Value}{an dY:Option Addr}
  {f7:Array (Option Value)} {N a5:List Str} {sp:Sp} (lk:K.lookup f=some ⟨e_,dY,.func (fnOf name qual params body scope qf kV e5 eM an cw ct),f7⟩) (ho:codeIn K cw qual=true) (S:Zq N a5 scope)
  (len:∀vs H Q E,sp vs H Q E→vs.length=a5.length)
  (lO:∀(A:Around)(outer:List Env)(s:Shared)(H:Hp)(vs:List V)(Q:VK)(E:XK),d7 k (A.deeper (envOfC qual scope s.heap.objs.size f cw))→sp vs H Q E→
   ∃t,PSs (ZL CX P w K mg base N qual scope f cw A outer s H E) body t∧t {nx:=λ_ H'=>Q .non H',rt:=Q} (start N vs) H):
  Yo P w K mg base CX (k+1) f (fnOf name qual params body scope qf kV e5 eM an cw ct) a5 sp:=by
 refine⟨len,λA outer s H args us vs Q E au dV am r ht=>?_⟩;have ai:=len _ _ _ _ ht;have ey:K.In s.heap:=dV.mod.kin.keeps λb o e=>(dV.bs b o e).1;have sw:s.heap.NoLimit:=dV.mod.nolimit.keeps λb o e=>(dV.bs b o e).1;have j6:∀y∈a5.zip us,scope.names.lookup y.1=some .local∨(scope.names.lookup y.1=some .cell∧((cellsFrom (s.heap.objs.size+1) scope.names []).lookup y.1).isSome=true):=λ⟨n,v⟩ cx=>by
  rcases S.par n (RN cx).1 with q|q
  ·exact .inl q
  ·exact .inr ⟨q,cellsFrom_some _ _ _ (.inl q)⟩
 refine codeAny_call_function au.depth (ey _ _ lk) rfl S.co S.gen rfl (codeRec_of ey ho) (am _ _ _ _ ?_);refine wpAny_newFunctionEnv_cells S.kind j6 λenv b' aB x=>?_;subst b';refine⟨sw.keeps x.toInCall.keep,codeAny_func ?_⟩;obtain⟨t,aT,cj⟩:=lO A outer s H vs Q E (au.deeper _) ht;have I:Inv (ZL CX P w K mg base N qual scope f cw A outer s H E) [] (start N vs) H aB:=ZcO S au.hd dV ai r x;refine wpAny_mono (aT [] aB (start N vs) H _ I cj) (λaz s' hs=>?_) λe s' hs=>hs;have eQ:∀{aW:St}{H':Hp}{v:V}{u:Value},Inv (ZL CX P w K mg base N qual scope f cw A outer s H E) [] aW H' s'→cO v u→Q v H'→CE outer P w H s Q u s':=
  λ{aW H' v u} J cW q=>⟨v,H',J.os,J.bare,J.base,J.hok,cW,q⟩
 cases az with
 |ret u=>
  obtain⟨v,aW,H',J,cW,q⟩:=hs;exact eQ J cW q
 |next=>
  obtain⟨aW,H',J,q⟩:=hs;exact eQ (v:=V.non) (u:=Value.none) J rfl q
 |brk=>
  obtain⟨_,_,_,q⟩:=hs;exact False.elim q
 |cont=>
  obtain⟨_,_,_,q⟩:=hs;exact False.elim q
section
variable {X:Cx}{x:Str}{p pos:Pos}{e:Expr}{a':List Expr}{t:TA}{id T:String}{r:List V→Hp→VK→Prop}
noncomputable def tCB (r:List V→Hp→VK→Prop) (t:TA):TE:=λσ H Q=>t σ H λvs ao=>r vs ao Q
theorem dj(aG:Yv X (.builtin id) r)(ci:Gl X x)(a4:X.mg x=none)(cH:bootBuiltins x=some (.builtin id))(aS:PA X (e::a') t)(bL:x≠"__name__" :=by decide)(fA:(x==("__debug__" :Str))=false:=by decide)
  (b':starEach (e::a') X.env=(false,eval e X.env)::starEach a' X.env:=by rfl) (fa:(backTo pos (starEach a' X.env)).any (·.1)=false:=by rfl):PE X (.Call (.Name x p) (e::a') [] pos) (tCB r t):=by
 intro ah s σ H Q I h;refine wpAny_Call_Name_kw (mT I ci a4 cH ?_ bL fA);exact PyProof.Rows.callWith_builtin1 (thn (aS pos ah s σ H _ I h) λus aB ⟨vs,ao,a0,cy,cz⟩=>aG ah aB σ ao vs us Q a0 cy cz) b' fa
theorem gP(aG:Yv X (.type T) r)(ci:Gl X x)(a4:X.mg x=none)(cH:bootBuiltins x=some (.type T))(aS:PA X (e::a') t)(bL:x≠"__name__" :=by decide)(fA:(x==("__debug__" :Str))=false:=by decide)
  (b':starEach (e::a') X.env=(false,eval e X.env)::starEach a' X.env:=by rfl) (fa:(backTo pos (starEach a' X.env)).any (·.1)=false:=by rfl):PE X (.Call (.Name x p) (e::a') [] pos) (tCB r t):=by
 intro ah s σ H Q I h;refine wpAny_Call_Name_kw (mT I ci a4 cH ?_ bL fA);exact GT (thn (aS pos ah s σ H _ I h) λus aB ⟨vs,ao,a0,cy,cz⟩=>aG ah aB σ ao vs us Q a0 cy cz) b' fa
end
end L2
namespace HT
open PySem PyProof.Rows
section
open PySem.SeqAt
open PySem.AutoSeq1 (wpAny_loadPart')
open PySem.MeetsSeq PySem.MeetsSeq2 PySem.MeetsSeq3
end
section
variable {prog:Program}{w:World}{A:Around}{E:Value→Shared→Prop}{s:Shared}
theorem ZiK{t b:Addr}{vs ws:List Value}{Q:Value→Shared→Prop}(aT:IsTup s.heap t vs.toArray)(am:IsTup s.heap b ws.toArray)(cH:vs≠[])
  (aq:ws=[]→Q (.ref t) s) (av:ws≠[]→Q (.ref s.heap.objs.size) {s with heap:=s.heap.push {cls:= .type "tuple",data:= .seq (vs++ws).toArray}})
  (hsz:vs.length+ws.length≤sizeLine):wpAny (model prog w) A (binaryOp .Add (.ref t) (.ref b)) Q E s:=by
 obtain⟨⟨cls,dd,data,sl⟩,a_,aG,n,hd⟩:=id aT;obtain⟨⟨B',qg,data2,qh⟩,lP,oz,eD,jv⟩:=id am;simp only at aG hd oz jv;subst aG hd oz jv;have e:vs.toArray++ws.toArray=(vs++ws).toArray:=by simp
 by_cases hw:ws=[]
 ·exact concat_meets ⟨_,a_,rfl⟩ ⟨_,lP,rfl⟩ noFill_tuple_add seq_tuple_add RE RC (Rv _ _)
   (tuple_addW1 t b vs.toArray ws.toArray n eD dd qg sl qh (by simpa using cH) (by simp[hw])) ⟨a_,lP,aq hw⟩
 ·refine concat_meets ⟨_,a_,rfl⟩ ⟨_,lP,rfl⟩ noFill_tuple_add seq_tuple_add RE RC (Rv _ _)
   (tuple_addW2 t b vs.toArray ws.toArray n eD dd qg sl qh (by simpa using cH) (by simpa using hw) (by rw[Qd,Qd];exact hsz)) ⟨a_,lP,?_⟩
  rw[e];exact av hw
noncomputable def sIx (n d:Nat):Option Int→Nat
 |none=>d
 |some v=>if v<0 then(v+(n:Int)).toNat else min v.toNat n
theorem Zjo(n d:Nat)(hd:d≤n)(o:Option Int):sIx n d o≤n:=by
 cases o with
 |none=>exact hd
 |some v=>
  show(if v<0 then(v+(n:Int)).toNat else min v.toNat n)≤n
  by_cases cH:v<0
  ·rw[if_pos cH];omega
  ·rw[if_neg cH];exact Nat.min_le_right _ _
theorem Zfh(v:Int)(n d:Nat):(if v<0 then max (v+(n:Int)) 0 else min v (n:Int))=((sIx n d (some v):Nat):Int):=by
 show(if v<0 then max (v+(n:Int)) 0 else min v (n:Int))=(((if v<0 then(v+(n:Int)).toNat else min v.toNat n):Nat):Int)
 by_cases cH:v<0
 ·simp only[if_pos cH];omega
 ·simp only[if_neg cH];omega
theorem Zf8(lo hi:Option Int)(n:Nat):Builtin.Slice.sliceAdjust lo hi 1 (n:Int)=(((sIx n 0 lo:Nat):Int),((sIx n n hi:Nat):Int)):=by
 have aq:¬((1:Int)<0):=by omega
 unfold Builtin.Slice.sliceAdjust;simp only[aq,if_false];refine Prod.ext ?_ ?_
 ·cases lo with
  |none=>rfl
  |some v=>exact Zfh v n 0
 ·cases hi with
  |none=>rfl
  |some v=>exact Zfh v n n
theorem Zf4(i j:Nat):Builtin.Slice.slicePlaces (i:Int) (j:Int) 1=j-i:=by
 unfold Builtin.Slice.slicePlaces;have aq:(1:Int) > 0:=by omega
 simp only[aq,if_true,Int.ediv_one]
 split<;>omega
theorem wC{v:Value}{o:Option Int}{Q:Option Int→Shared→Prop}(p:IsPart v o)(h:Q o s):wpAny (model prog w) A (Builtin.Slice.slicePartIndex v) Q E s:=by
 cases p with
 |none=>exact slicePart_none h
 |int i t=>exact slicePart_int h
theorem wD{sl:Addr}{e6 fq:Value}{lo hi:Option Int}{n:Nat}{Q:Int×Int×Nat→Shared→Prop}(hs:s.heap.IsSliceOf sl e6 fq .none)(pl:IsPart e6 lo)(f8:IsPart fq hi)
  (h:Q (((sIx n 0 lo:Nat):Int),1,sIx n n hi-sIx n 0 lo) s):wpAny (model prog w) A (Builtin.Slice.sliceApplied (.ref sl) (pure (n:Int))) Q E s:=by
 obtain⟨os,lQ,qi,g9⟩:=id hs;unfold Builtin.Slice.sliceApplied Builtin.Slice.sliceFields;refine wpAny_bind (wpAny_bind (wpAny_field lQ g9 (x:=e6) rfl (wpAny_bind (wpAny_field lQ g9 (x:=fq) rfl (wpAny_bind (wpAny_field lQ g9 (x:= .none) rfl (wpAny_pure ?_)))))));refine wpAny_bind (slicePart_none ?_);show wpAny _ _ (if((1:Int)==0)=true then _ else _) _ _ s;rw[if_neg (by decide)];refine wpAny_bind (wC pl (wpAny_bind (wC f8 (wpAny_bind (wpAny_pure ?_)))));show wpAny _ _ (match Builtin.Slice.sliceAdjust lo hi 1 (n:Int) with|(lo,hi)=>pure (lo,(1:Int),Builtin.Slice.slicePlaces lo hi 1)) _ _ s;rw[Zf8 lo hi n];show wpAny _ _ (pure (((sIx n 0 lo:Nat):Int),(1:Int),Builtin.Slice.slicePlaces ((sIx n 0 lo:Nat):Int) ((sIx n n hi:Nat):Int) 1)) _ _ s;rw[Zf4];exact wpAny_pure h
theorem Ca(xs:Array Value)(i k:Nat):((List.range k).filterMap λ(m:Nat)=>xs[((i:Int)+(m:Int)*1).toNat]?).toArray=((xs.toList.drop i).take k).toArray:=by
 have e:(λ(m:Nat)=>xs[((i:Int)+(m:Int)*1).toNat]?)=λm=>xs[i+m]? :=by
  funext m
  have:((i:Int)+(m:Int)*1).toNat=i+m:=by omega
  rw[this]
 rw[e];have:=pick_run xs i k;rw[List.filterMap_map] at this;have a8:((λx=>xs[x]?)∘λx=>i+x)=λm=>xs[i+m]? :=rfl;rw[a8] at this;rw[this]
theorem ZaG{t sl:Addr}{items:Array Value}{e6 fq:Value}{lo hi:Option Int}{Q:Value→Shared→Prop}(aT:IsTup s.heap t items)(hs:s.heap.IsSliceOf sl e6 fq .none)(pl:IsPart e6 lo)(f8:IsPart fq hi)
  (hw:¬(sIx items.size 0 lo=0∧sIx items.size items.size hi=items.size))
  (h:Q (.ref s.heap.objs.size) {s with heap:=s.heap.push {cls:= .type "tuple",data:= .seq ((items.toList.drop (sIx items.size 0 lo)).take (sIx items.size items.size hi-sIx items.size 0 lo)).toArray}})
  (hsz:items.size≤sizeLine):wpAny (model prog w) A (getItem (.ref t) (.ref sl)) Q E s:=by
 have qj:sizeOk (.seq ((items.toList.drop (sIx items.size 0 lo)).take (sIx items.size items.size hi-sIx items.size 0 lo)).toArray):=by
  show((items.toList.drop (sIx items.size 0 lo)).take (sIx items.size items.size hi-sIx items.size 0 lo)).toArray.size≤sizeLine;rw[Qd,QG,QK,Rt];omega
 have aU:sIx items.size items.size hi≤items.size:=Zjo _ _ (Qc _) hi;obtain⟨os,lQ,qi,g9⟩:=id hs;have sx:s.TypeIs (.ref sl) "slice" :=⟨os,lQ,qi⟩;unfold getItem
 try with_reducible refine wpAny_holding ?_
 first|refine wpAny_bind (wpAny_pure ?_)|skip
 refine wpAny_bind (wpAny_sequenceKey aT.typeIs (by decide) ?_);refine wpAny_bind (wpAny_callSpecial?_slot (name:=Str.ofString "__getitem__") aT.typeIs QO
  (wpAny_call_entry QO aT.typeIs entry_tuple_getitem ?_ (args_tuple_getitem _ _)))
 show wpAny _ _ (Builtin.Tuple.tupleItemsOf (.ref t) >>= _) _ _ s;refine wpAny_bind (tupleItemsOf_ aT ?_);refine wpAny_bind (wpAny_typeOf sx ?_);rw[if_pos (by decide)];refine wpAny_bind (wD hs pl f8 ?_);have lR:¬((((sIx items.size 0 lo:Nat):Int)==0&&(1:Int)==1&&(sIx items.size items.size hi-sIx items.size 0 lo)==items.size)=true):=by
  intro q;rw[fm,fm] at q;have cz:((sIx items.size 0 lo:Nat):Int)=0:=eq_of_beq q.1.1;have c6:sIx items.size items.size hi-sIx items.size 0 lo=items.size:=eq_of_beq q.2;exact hw ⟨by omega,by omega⟩
 show wpAny _ _ (if(((sIx items.size 0 lo:Nat):Int)==0&&(1:Int)==1&&(sIx items.size items.size hi-sIx items.size 0 lo)==items.size)=true then _ else _) _ _ s;rw[if_neg lR,Ca]
 first
  |exact wpAny_bind (m:=Builtin.Tuple.tupleExact _) (wpAny_newObj_type (wpAny_pure ⟨_,rfl,wpAny_pure h⟩) qj)
  |exact wpAny_bind (m:=Builtin.Tuple.tupleExact _) (wpAny_newObj_type (wpAny_bind (wpAny_pure (wpAny_pure ⟨_,rfl,wpAny_pure h⟩))) qj)
  |exact wpAny_bind (wpAny_bind (m:=Builtin.Tuple.tupleExact _) (wpAny_newObj_type (wpAny_pure (wpAny_pure ⟨_,rfl,wpAny_pure h⟩)) qj))
  |exact wpAny_bind (wpAny_bind (m:=Builtin.Tuple.tupleExact _) (wpAny_newObj_type (wpAny_pure ⟨_,rfl,wpAny_pure h⟩) qj))
end
end HT
namespace L2
open PySem PySem.Spec PyProof.Rows
noncomputable abbrev TO:=St→Hp→(Option Int→Hp→Prop)→Prop
def PO(X:Cx)(e:Option Expr)(t:TO):Prop:=
 ∀(ah:List (Addr×Obj))(s:Shared)(σ:St)(H:Hp)(Q:Option Int→Hp→Prop),Inv X ah σ H s→t σ H Q→
  wpAny (model X.prog X.w) X.A (evalPart e X.env) (λu s'=>∃o H',Inv X ah σ H' s'∧IsPart u o∧Q o H') X.xe s
noncomputable def tNoPart:TO:=λ_ H Q=>Q none H
noncomputable def wE (t:TE):TO:=λσ H Q=>t σ H λx ao=>∃i,x= .int i∧Q (some i) ao
theorem ZbW{ns:List Int}:∀{us:List Value},cD (ns.map V.int) us→IntsAre us ns:=by
 induction ns with
 |nil=>intro us r;rw[List.map_nil] at r;cases r;exact .nil
 |cons n ns cI=>
  intro us r;rw[List.map_cons] at r;cases r with
  |cons cy cU=>
   obtain⟨t,e⟩:=cy;subst e;exact .cons n t (cI cU)
section
variable {X:Cx}{e:Expr}{cr:TE}{lo hi:Option Expr}{es hv:TO}{pos fI:Pos}
theorem sy:PO X none tNoPart:=by
 intro ah s σ H Q I h;rw[evalPart_none];exact wpAny_pure ⟨none,H,I,.none,h⟩
theorem iX(h:PE X e cr):PO X (some e) (wE cr):=by
 intro ah s σ H Q I hw;rw[evalPart_some];refine thn (h ah s σ H _ I hw) λu aB ⟨x,ao,a0,cy,cz⟩=>?_;obtain⟨i,rfl,q⟩:=cz;obtain⟨t,rfl⟩:=cy;exact⟨some i,ao,a0,.int i t,q⟩
def SlR(X:Cx)(r:V→Option Int→Option Int→Hp→VK→Prop):Prop:=
 ∀(ah:List (Addr×Obj))(s:Shared)(σ:St)(H:Hp)(x:V)(v e6 fq:Value)(lo hi:Option Int)(sl:Addr)(Q:VK),Inv X ah σ H s→cO x v→s.heap.IsSliceOf sl e6 fq .none→IsPart e6 lo→IsPart fq hi→r x lo hi H Q→
  ∃T id,typeLookup (.type T) "__getitem__" =pure (some (.builtin id))∧s.TypeIs v T∧wpAny (model X.prog X.w) X.A (getItem v (.ref sl)) (EP X ah σ Q) X.xe s
theorem SlR.or{r c0:V→Option Int→Option Int→Hp→VK→Prop}(h:SlR X r)(h':SlR X c0):SlR X (λx lo hi H Q=>r x lo hi H Q∨c0 x lo hi H Q):=by
 intro ah s σ H x v e6 fq lo hi sl Q I bI hs pl f8 q;rcases q with q|q
 ·exact h ah s σ H x v e6 fq lo hi sl Q I bI hs pl f8 q
 ·exact h' ah s σ H x v e6 fq lo hi sl Q I bI hs pl f8 q
noncomputable def tSl (r:V→Option Int→Option Int→Hp→VK→Prop) (cr:TE) (es hv:TO):TE:=λσ H Q=>cr σ H λx ao=>es σ ao λl ar=>hv σ ar λu a2=>r x l u a2 Q
theorem lS{r:V→Option Int→Option Int→Hp→VK→Prop}(au:SlR X r)(b':PE X e cr)(ai:PO X lo es)(hu:PO X hi hv):PE X (.Subscript e (.Slice lo hi none fI) pos) (tSl r cr es hv):=by
 intro ah s σ H Q I h;refine Subscript_ (thn (b' ah s σ H _ I h) λv aB ⟨x,ao,a0,cy,cz⟩=>?_);refine wpAny_Slice (thn (ai ah aB σ ao _ a0 cz) λe6 bc ⟨l,ar,cR,pl,c6⟩=>thn (hu ah bc σ ar _ cR c6) λfq be ⟨u,a2,ef,f8,fV⟩=>?_);rw[evalPart_none];refine wpAny_pure ?_;have jZ:Inv X ah σ a2 {be with heap:=be.heap.push {cls:= .type "slice",data:= .fields #[e6,fq,.none]}}:=ef.kept (t':=be.toks) λb c4 q=>Heap.get?_push_of_some _ q;obtain⟨T,id,du,aT,ci⟩:=au ah {be with heap:=be.heap.push {cls:= .type "slice",data:= .fields #[e6,fq,.none]}} σ a2 x v e6 fq l u be.heap.objs.size Q jZ cy (Heap.IsSliceOf.new ..) pl f8 fV;show wpAny (model X.prog X.w) X.A (subscriptTail e (.Slice lo hi none fI) v (.ref be.heap.objs.size)) (EP X ah σ Q) X.xe {be with heap:=be.heap.push {cls:= .type "slice",data:= .fields #[e6,fq,.none]}};exact tail_any (ops:=[.ref be.heap.objs.size,v]) aT du ci (by with_unfolding_all rfl)
noncomputable def gm (xs:List V) (lo hi:Option Int):List V:=(xs.drop (HT.sIx xs.length 0 lo)).take (HT.sIx xs.length xs.length hi-HT.sIx xs.length 0 lo)
theorem wF(xs:List V)(lo hi:Option Int):(gm xs lo hi).length≤xs.length:=by
 unfold gm;rw[QG,QK];omega
noncomputable def wG (K:Frag):V→Option Int→Option Int→Hp→VK→Prop:=λx lo hi H Q=>∃a xs,x= .ref a∧SqT K H a xs∧
 ¬(HT.sIx xs.length 0 lo=0∧HT.sIx xs.length xs.length hi=xs.length)∧∀p,H p=none→Q (.ref p) (upd H p (.tup (gm xs lo hi)))
theorem wH:SlR X (wG X.K):=by
 intro ah s σ H x v e6 fq lo hi sl Q I bI hs pl f8 h;obtain⟨a,xs,rfl,al,hw,q⟩:=h;cases bI;obtain⟨its,r,aT,bh⟩:=I.tuple al;have dg:its.toArray.size=xs.length:=by rw[Qd];exact r.length.symm
 refine⟨"tuple",_,QO.lookup,aT.typeIs,?_⟩;refine HT.ZaG aT hs pl f8 (by rw[dg];exact hw) ?_ (by rw[dg];exact bh);rw[dg];refine⟨.ref s.heap.objs.size,_,I.laid (t':=s.toks) (o:= .tup (gm xs lo hi)) (λb c4 q=>Heap.get?_push_of_some _ q) (Qc _) ?_,rfl,q _ (I.hok.fresh (Qc _))⟩;exact⟨Qv (wF xs lo hi) bh,_,(r.drop (HT.sIx xs.length 0 lo)).take (HT.sIx xs.length xs.length hi-HT.sIx xs.length 0 lo),IsTup.new _ _⟩
noncomputable def qk (K:Frag):R2:=λx y H Q=>∃a b xs ys,x= .ref a∧y= .ref b∧SqT K H a xs∧SqT K H b ys∧xs≠[]∧xs.length+ys.length≤sizeLine∧
 (ys=[]→Q (.ref a) H)∧(ys≠[]→∀p,H p=none→Q (.ref p) (upd H p (.tup (xs++ys))))
theorem cD.nil_iff{xs:List V}{us:List Value}(r:cD xs us):us=[]↔xs=[]:=by
 cases r with
 |nil=>simp
 |cons _ _=>simp
theorem wI:OpR X (binaryOp .Add) (qk X.K):=by
 intro ah s σ H x y v u Q I bI cv h;obtain⟨a,b,xs,ys,rfl,rfl,aS,am,al,bh,cz,c6⟩:=h;cases bI;cases cv;obtain⟨its,cy,gp,_⟩:=I.tuple aS;obtain⟨h7,cU,fI,_⟩:=I.tuple am;refine HT.ZiK gp fI (λz=>al (cy.nil_iff.mp z)) (λz=>⟨.ref a,H,I,rfl,cz (cU.nil_iff.mp z)⟩) (λz=>?_) (by rw[←cy.length,←cU.length];exact bh);refine⟨.ref s.heap.objs.size,_,I.laid (t':=s.toks) (o:= .tup (xs++ys)) (λb c4 q=>Heap.get?_push_of_some _ q) (Qc _) ?_,rfl,c6 (λw=>z (cU.nil_iff.mpr w)) _ (I.hok.fresh (Qc _))⟩;exact⟨by rw[Qg];exact bh,_,cy.append cU,IsTup.new _ _⟩
end
noncomputable def ixN (n:Nat) (i:Int):Option Nat:=if 0≤i then(if i<n then some i.toNat else none) else if -(n:Int)≤i then some (i+n).toNat else none
noncomputable def atI {cG:Type} (xs:List cG) (i:Int):Option cG:=(ixN xs.length i).bind λj=>xs[j]?
theorem Zfd{n:Nat}{i:Int}{j:Nat}(h:ixN n i=some j):seqIndex? i n=some j∧j<n∧ -(n:Int)≤i∧i<n:=by
 unfold ixN at h
 by_cases c7:0≤i
 ·rw[if_pos c7] at h
  by_cases aq:i<n
  ·rw[if_pos aq] at h;have e:i.toNat=j:=Qq h;exact⟨by rw[seqIndex_of c7 aq,e],by omega,by omega,aq⟩
  ·rw[if_neg aq] at h;cases h
 ·rw[if_neg c7] at h
  by_cases aq: -(n:Int)≤i
  ·rw[if_pos aq] at h;have e:(i+n).toNat=j:=Qq h;exact⟨by rw[seqIndex_neg (by omega) aq,e],by omega,aq,by omega⟩
  ·rw[if_neg aq] at h;cases h
theorem ZaD{cG:Type}{xs:List cG}{i:Int}{v:cG}(h:atI xs i=some v):∃j,seqIndex? i xs.length=some j∧xs[j]? =some v∧j<xs.length∧ -(xs.length:Int)≤i∧i<xs.length:=by
 unfold atI at h;cases e:ixN xs.length i with
 |none=>rw[e] at h;cases h
 |some j=>
  rw[e] at h;obtain⟨aq,av,b_,cA⟩:=Zfd e;exact⟨j,aq,h,av,b_,cA⟩
theorem gQ{cG:Type}{xs:List cG}{j:Nat}{v:cG}(h:xs[j]? =some v):atI xs (j:Int)=some v:=by
 have aU:j<xs.length:=(Qj.mp h).1;have e:ixN xs.length (j:Int)=some j:=by
  unfold ixN;rw[if_pos (by omega),if_pos (by omega)];simp
 unfold atI;rw[e];exact h
def ZiJ(b:Expr):Prop:=∀o i,subscripted b false o i=operate [o,i] (getItem o i)
def IxR(X:Cx)(r:R2):Prop:=
 ∀(value slice:Expr)(ah:List (Addr×Obj))(s:Shared)(σ:St)(H:Hp)(x y:V)(v u:Value)(Q:VK),Inv X ah σ H s→cO x v→cO y u→r x y H Q→
  subscripted slice false v u=operate [v,u] (getItem v u)→wpAny (model X.prog X.w) X.A (subscriptTail value slice v u) (EP X ah σ Q) X.xe s
def MtR(X:Cx)(id:String)(r:V→List V→Hp→VK→Prop):Prop:=
 ∀(ah:List (Addr×Obj))(s:Shared)(σ:St)(H:Hp)(x:V)(xs:List V)(v:Value)(us:List Value)(Q:VK),Inv X ah σ H s→cO x v→cD xs us→r x xs H Q→
  wpAny (model X.prog X.w) X.A (call (.builtin id) (v::us)) (EP X ah σ Q) X.xe s
section
variable {X:Cx}{a b:Expr}{bn cQ:TE}{pos:Pos}
theorem IxR.or{r c0:R2}(h:IxR X r)(h':IxR X c0):IxR X (λx y H Q=>r x y H Q∨c0 x y H Q):=by
 intro value slice ah s σ H x y v u Q I bI cv q hs;rcases q with q|q
 ·exact h value slice ah s σ H x y v u Q I bI cv q hs
 ·exact h' value slice ah s σ H x y v u Q I bI cv q hs
theorem c_{r:R2}(au:IxR X r)(aS:PE X a bn)(am:PE X b cQ)(hs:ZiJ b):PE X (.Subscript a b pos) (tOp r bn cQ):=by
 intro ah s σ H Q I h;exact Subscript_ (sg aS am I h λv u bc x y ar cR bI cv q=>au a b ah bc σ ar x y v u Q cR bI cv q (hs _ _))
noncomputable def Zcg (K:Frag):R2:=λx y H Q=>∃p xs i v,x= .ref p∧y= .int i∧SqL K H p xs∧atI xs i=some v∧Q v H
noncomputable def sA (K:Frag):R2:=λx y H Q=>∃p xs i v,x= .ref p∧y= .int i∧SqT K H p xs∧atI xs i=some v∧Q v H
noncomputable def rIxS:R2:=λx y H Q=>∃z i c,x= .str z∧y= .int i∧z.length≤sizeLine∧atI z.cps.toList i=some c∧Q (.str ⟨#[c]⟩) H
theorem Cb:IxR X (Zcg X.K):=by
 intro value slice ah s σ H x y v u Q I bI cv h hs;obtain⟨p,xs,i,z,rfl,rfl,cj,b',q⟩:=h;cases bI;obtain⟨t,rfl⟩:=cv;obtain⟨its,r,pl,bh⟩:=I.list cj;obtain⟨j,aq,av,b_,cA,dt⟩:=ZaD b';obtain⟨w,jw,oG⟩:=r.get av;have ai:=r.length;have bL:=kD;have eQ:EP X ah σ Q w s:=⟨z,H,I,oG,q⟩
 by_cases c7:0≤i
 ·have aU:i.toNat=j:=by
   rw[seqIndex_of c7 dt] at aq;exact Qq aq
  exact item_listR pl.isList c7 (by omega) (by rw[aU];simpa using jw) eQ hs
 ·have aU:(i+(its.toArray.size:Int)).toNat=j:=by
   rw[seqIndex_neg (by omega) cA] at aq;rw[Qd,←ai];exact Qq aq
  exact subscriptTail_builtinR (x:=w) pl.isList.typeIs slot_list_getitem.lookup
   (wpAny_getItem_list_neg (Q:=λr s'=>r=w∧EP X ah σ Q r s') pl.isList (by omega) (by rw[Qd]<;>omega) (by omega) (by rw[aU];simpa using jw) ⟨rfl,eQ⟩) hs
theorem Cc:IxR X (sA X.K):=by
 intro value slice ah s σ H x y v u Q I bI cv h hs;obtain⟨p,xs,i,z,rfl,rfl,cj,b',q⟩:=h;cases bI;obtain⟨t,rfl⟩:=cv;obtain⟨its,r,pl,bh⟩:=I.tuple cj;obtain⟨j,aq,av,b_,cA,dt⟩:=ZaD b';obtain⟨w,jw,oG⟩:=r.get av;have ai:=r.length;have bL:=kD;have eQ:EP X ah σ Q w s:=⟨z,H,I,oG,q⟩;exact subscriptTail_builtinR (x:=w) pl.typeIs slot_tuple_getitem.lookup
  (getItem_tuple (j:=j) (Q:=λr s'=>r=w∧EP X ah σ Q r s') pl (by omega) (by omega) (by rw[Qd,←ai];exact aq) (by simpa using jw) ⟨rfl,eQ⟩) hs
theorem Cd:IxR X rIxS:=by
 intro value slice ah s σ H x y v u Q I bI cv h hs;obtain⟨z,i,c,rfl,rfl,bh,b',q⟩:=h;obtain⟨t,rfl⟩:=bI;obtain⟨t',rfl⟩:=cv;obtain⟨j,aq,av,b_,cA,dt⟩:=ZaD b';have ai:z.cps.toList.length=z.length:=by simp[Str.length]
 rw[ai] at aq cA dt;have bL:=kD;exact tail_any (typeIs_str s z t) slot_str_getitem.lookup (getItem_str (c:=c) (by
  have aV:decide (i< -(2 ^ 63:Int))=false:=decide_eq_false (by omega);have a8:decide (i≥2 ^ 63)=false:=decide_eq_false (by omega);rw[aV,a8,Bool.or_false]) (by rw[aq];simpa using av) ⟨.str ⟨#[c]⟩,H,I.tok _,⟨_,rfl⟩,q⟩) hs
noncomputable def rIx (K:Frag):R2:=λx y H Q=>Zcg K x y H Q∨sA K x y H Q∨rIxS x y H Q
theorem Ce:IxR X (rIx X.K):=Cb.or (Cc.or Cd)
theorem Cf(its:List Value)(n j:Nat)(u:Value):Obj.mapSeq (·.setIfInBounds j u) {cls:= .type "list",data:= .seq its.toArray n}={cls:= .type "list",data:= .seq (its.set j u).toArray n}:=by
 simp[Obj.mapSeq]
theorem Inv.lst{ah:List (Addr×Obj)}{σ:St}{H:Hp}{s:Shared}{p:Addr}{xs:List V}(I:Inv X ah σ H s)(h:H p=some (.lst xs)):
  ∃(its:List Value)(n:Nat),cD xs its∧s.heap.get? p=some {cls:= .type "list",data:= .seq its.toArray n}∧xs.length≤sizeLine:=by
 obtain⟨z,its,n,r,e⟩:=I.hok p _ h;exact⟨its,n,r,e,z⟩
theorem Inv.lstUpd{ah:List (Addr×Obj)}{σ:St}{H:Hp}{s:Shared}{p:Addr}{xs ys:List V}{its its':List Value}{n ec:Nat}{f:Obj→Obj}(I:Inv X ah σ H s)(h:H p=some (.lst xs))
  (a_:s.heap.get? p=some {cls:= .type "list",data:= .seq its.toArray n}) (aX:f {cls:= .type "list",data:= .seq its.toArray n}={cls:= .type "list",data:= .seq its'.toArray ec}) (r:cD ys its') (bh:ys.length≤sizeLine) (t:Nat):
  Inv X ah σ (upd H p (.lst ys)) {s with heap:=s.heap.update p f,toks:=t}:=by
 have e:(s.heap.update p f).get? p=some {cls:= .type "list",data:= .seq its'.toArray ec}:=by
  rw[Heap.get?_update_self f a_ (by rw[aX]<;>rfl),aX]
 refine I.write (x:=p) (e:=p) (by rw[h];trivial) (.inl rfl) (λb u am q=>(Heap.get?_update_other _ _ (GE am)).trans q) ⟨_,e⟩ ?_;exact⟨bh,its',ec,r,e⟩
noncomputable def rSetL:V→V→V→Hp→(Hp→Prop)→Prop:=λo i v H Q=>∃p xs k j,o= .ref p∧i= .int k∧H p=some (.lst xs)∧ixN xs.length k=some j∧Q (upd H p (.lst (xs.set j v)))
theorem mY:Zgg X rSetL:=by
 intro ah s σ H o i v de fQ u Q I ro ri cW h;obtain⟨p,xs,k,j,rfl,rfl,a1,aU,q⟩:=h;cases ro;obtain⟨t,rfl⟩:=ri;obtain⟨its,n,r,a_,bh⟩:=I.lst a1;obtain⟨aq,av,b_,cA⟩:=Zfd aU;have ai:=r.length;have bL:=kD;have eA:Inv X ah σ (upd H p (.lst (xs.set j v))) {s with heap:=s.heap.update p (Obj.mapSeq (·.setIfInBounds j u))}:=
  I.lstUpd a1 a_ (Cf its n j u) (r.set cW j) (by rw[QL];exact bh) s.toks
 by_cases c7:0≤k
 ·have aA:k.toNat=j:=by
   rw[seqIndex_of c7 cA] at aq;exact Qq aq
  exact PySem.W.ki_setAt a_ c7 (by omega) (by rw[Qd,←ai];exact cA) (by rw[aA];exact⟨_,eA,q⟩)
 ·have aA:(k+(its.toArray.size:Int)).toNat=j:=by
   rw[seqIndex_neg (by omega) b_] at aq;rw[Qd,←ai];exact Qq aq
  exact PySem.W.ki_setBack a_ (by omega) (by rw[Qd,←ai];exact b_) (by omega) (by rw[aA];exact⟨_,eA,q⟩)
theorem ZdU(lo hi:Option Int)(n:Nat):(sliceBounds lo hi none n).1=((HT.sIx n 0 lo:Nat):Int)∧(sliceBounds lo hi none n).2.1=((HT.sIx n n hi:Nat):Int)∧(sliceBounds lo hi none n).2.2=1:=by
 refine⟨?_,?_,rfl⟩
 ·cases lo with
  |none=>simp[sliceBounds,HT.sIx]
  |some i=>
   simp only[sliceBounds,HT.sIx,Option.getD_none,show(1:Int) > 0 by decide,if_true]
   by_cases h:i<0
   ·simp only[h,if_true]<;>omega
   ·simp only[h,if_false]<;>omega
 ·cases hi with
  |none=>simp[sliceBounds,HT.sIx]
  |some i=>
   simp only[sliceBounds,HT.sIx,Option.getD_none,show(1:Int) > 0 by decide,if_true]
   by_cases h:i<0
   ·simp only[h,if_true]<;>omega
   ·simp only[h,if_false]<;>omega
theorem Zc4(its:List Value)(lo hi:Option Int):slicePick its.toArray lo hi none=((its.drop (HT.sIx its.length 0 lo)).take (HT.sIx its.length its.length hi-HT.sIx its.length 0 lo)).toArray:=by
 obtain⟨aq,av,b_⟩:=ZdU lo hi its.toArray.size;unfold slicePick;rw[aq,av,b_];simp only[sliceRange_one,pick_run,Qd]<;>rfl
noncomputable def wJ (K:Frag):V→Option Int→Option Int→Hp→VK→Prop:=λx lo hi H Q=>∃a xs,x= .ref a∧SqL K H a xs∧∀p,H p=none→Q (.ref p) (upd H p (.lst (gm xs lo hi)))
theorem Cg:SlR X (wJ X.K):=by
 intro ah s σ H x v e6 fq lo hi sl Q I bI hs pl f8 h;obtain⟨a,xs,rfl,al,q⟩:=h;cases bI;obtain⟨its,r,aT,bh⟩:=I.list al;have dg:=r.length;refine⟨"list",_,slot_list_getitem.lookup,aT.isList.typeIs,?_⟩;refine wpAny_getItem_list_slice aT.isList hs pl f8 .none (by simp) ?_ (by rw[Qd]<;>omega);rw[Zc4,←dg];refine⟨.ref s.heap.objs.size,_,I.laid (t':=s.toks) (o:= .lst (gm xs lo hi)) (λb c4 q=>Heap.get?_push_of_some _ q) (Qc _) ?_,rfl,q _ (I.hok.fresh (Qc _))⟩;exact⟨Qv (wF xs lo hi) bh,_,0,(r.drop (HT.sIx xs.length 0 lo)).take (HT.sIx xs.length xs.length hi-HT.sIx xs.length 0 lo),Heap.get?_push_size _ rfl⟩
theorem Ch:Yv X (.type "list") (λxs H Q=>∃p ys,xs=[.ref p]∧(SqL X.K H p ys∨SqT X.K H p ys)∧∀l,H l=none→Q (.ref l) (upd H l (.lst ys))):=by
 intro ah s σ H xs us Q I r h;obtain⟨p,ys,rfl,cj,q⟩:=h;obtain⟨u,rfl,bI⟩:=WL r;cases bI;have eQ:∀(its:List Value),cD ys its→ys.length≤sizeLine→∀(h':Heap)(dZ:Nat),(∀b cS,s.heap.get? b=some cS→h'.get? b=some cS)→
   h'.get? s.heap.objs.size=some {cls:= .type "list",dict:=none,data:= .seq its.toArray dZ,slots:=#[]}→EP X ah σ Q (.ref s.heap.objs.size) {s with heap:=h'}:=λits c0 bh h' dZ kp e=>
  ⟨.ref s.heap.objs.size,_,I.laid (t':=s.toks) kp (Qc _) (show ZW X.prog X.w _ h' _ (.lst ys) from⟨bh,its,dZ,c0,e⟩),rfl,q _ (I.hok.fresh (Qc _))⟩
 rcases cj with cj|cj
 ·obtain⟨its,c0,pl,bh⟩:=I.list cj;have dg:=c0.length;obtain⟨o,a_,aG,n,hd⟩:=pl.isList;exact call_list_seq p (.inl rfl) a_ aG hd (λh' dZ kp e=>eQ its c0 bh h' dZ kp e) (by simp only[Qd]<;>omega)
 ·obtain⟨its,c0,pl,bh⟩:=I.tuple cj;have dg:=c0.length;obtain⟨o,a_,aG,n,hd⟩:=pl;exact call_list_seq p (.inr rfl) a_ aG hd (λh' dZ kp e=>eQ its c0 bh h' dZ kp e) (by simp only[Qd]<;>omega)
theorem Ci:Yv X (.type "tuple") (λxs H Q=>∃p ys,xs=[.ref p]∧((SqL X.K H p ys∧∀l,H l=none→Q (.ref l) (upd H l (.tup ys)))∨(SqT X.K H p ys∧Q (.ref p) H))):=by
 intro ah s σ H xs us Q I r h;obtain⟨p,ys,rfl,h⟩:=h;obtain⟨u,rfl,bI⟩:=WL r;cases bI;rcases h with⟨cj,q⟩|⟨cj,q⟩
 ·obtain⟨its,c0,pl,bh⟩:=I.list cj;have dg:=c0.length;refine call_tuple_list pl.isList (λh' kp=>?_) (by simp only[Qd]<;>omega);have a0:Inv X ah σ H {s with heap:=h'}:=I.kept (t':=s.toks) kp;have cR:Inv X ah σ (upd H h'.objs.size (.tup ys)) {s with heap:=h'.push {cls:= .type "tuple",data:= .seq its.toArray}}:=
   a0.laid (t':=s.toks) (λb o e=>Heap.get?_push_of_some _ e) (Qc _) (show ZW X.prog X.w _ _ _ (.tup ys) from⟨bh,its,c0,IsTup.new _ _⟩)
  exact⟨.ref h'.objs.size,_,cR,rfl,q _ (a0.hok.fresh (Qc _))⟩
 ·obtain⟨its,c0,pl,bh⟩:=I.tuple cj;exact call_tuple_same pl ⟨.ref p,H,I,rfl,q⟩
def tyV(K:Frag)(T:String)(x:V)(H:Hp):Prop:=match x with
 | .str _=>T="str"
 | .int _=>T="int"
 | .ref p=>(T="list" ∧∃xs,SqL K H p xs)∨(T="tuple" ∧∃o,K.lookup p=some o∧o.cls= .type "tuple" ∧o.dict=none)∨
   (T="dict" ∧((∃kvs,H p=some (.dK kvs))∨∃kvs,H p=some (.dT kvs)))∨(T="set" ∧∃S n,H p=some (.set S n))
 |_=>False
theorem Zg5{ah:List (Addr×Obj)}{σ:St}{H:Hp}{s:Shared}{T:String}{x:V}{v:Value}(I:Inv X ah σ H s)(r:cO x v)(ty:tyV X.K T x H):
  s.TypeIs v T∧∀a,v= .ref a→∃c4,s.heap.get? a=some c4∧c4.dict=none:=by
 cases x with
 |str z=>
  obtain⟨t,rfl⟩:=r;cases (show T="str" from ty);exact⟨typeIs_str s z t,λ_ e=>nomatch e⟩
 |int i=>
  obtain⟨t,rfl⟩:=r;cases (show T="int" from ty);exact⟨typeIs_int s i t,λ_ e=>nomatch e⟩
 |ref p=>
  cases r;rcases ty with⟨rfl,xs,cj⟩|⟨rfl,o,aA,aG,hd⟩|⟨rfl,aA⟩|⟨rfl,S,n,aA⟩
  ·obtain⟨its,_,pl,_⟩:=I.list cj;refine⟨pl.isList.typeIs,λa e=>?_⟩;cases e;obtain⟨o,n,e,c,hd,_⟩:=pl;exact⟨o,e,hd⟩
  ·refine⟨⟨o,I.kIn p o aA,aG⟩,λa e=>?_⟩;cases e;exact⟨o,I.kIn _ o aA,hd⟩
  ·have z:∃o,s.heap.get? p=some o∧o.ExactDict:=by
    rcases aA with⟨kvs,aA⟩|⟨kvs,aA⟩
    ·obtain⟨_,_,_,_,o,_,_,e,ex,_⟩:=I.hok p _ aA;exact⟨o,e,ex⟩
    ·obtain⟨_,_,_,_,o,_,_,e,ex,_⟩:=I.hok p _ aA;exact⟨o,e,ex⟩
   obtain⟨o,e,ex⟩:=z;refine⟨⟨o,e,ex.1⟩,λa a8=>?_⟩;cases a8;exact⟨o,e,ex.2.1⟩
  ·obtain⟨o,_,_,_,e,ex,_⟩:=I.hok p _ aA;refine⟨⟨o,e,ex.1⟩,λa a8=>?_⟩;cases a8;exact⟨o,e,ex.2.1⟩
 |_=>exact False.elim ty
noncomputable def sB (K:Frag) (T:String) (r:V→List V→Hp→VK→Prop) (to:TE):TE:=λσ H Q=>to σ H λx ao=>tyV K T x ao∧r x [] ao Q
noncomputable def tBM (K:Frag) (T:String) (r:V→List V→Hp→VK→Prop) (to:TE) (t:TA):TE:=λσ H Q=>to σ H λx ao=>tyV K T x ao∧t σ ao λxs ar=>r x xs ar Q
variable {o e:Expr}{a':List Expr}{to:TE}{t:TA}{name:Str}{ei fc:Pos}{T id:String}{r:V→List V→Hp→VK→Prop}
theorem ZjI(lT:PlainAttrs T)(slot:Slot T name id)(hR:typeOf (.builtin id)=pure (.type "method_descriptor"))(a4:MtR X id r)(a_:PE X o to)
  (lU:attributeBase o name X.env (eval o X.env)=eval o X.env:=by rfl) (lV:(ei.endLine==fc.line)=true:=by rfl):PE X (.Call (.Attribute o name ei) [] [] fc) (sB X.K T r to):=by
 intro ah s σ H Q I h;refine wpAny_Call_method0_late lU lV (thn (a_ ah s σ H _ I h) λv aB ⟨x,ao,a0,cy,ty,cz⟩=>?_);obtain⟨aq,av⟩:=Zg5 a0 cy ty;exact⟨T,id,lT,slot,hR,aq,av,Calls.callWith_builtin rfl (PySem.evalArgs_none (a4 ah aB σ ao x [] v [] Q a0 cy .nil cz))⟩
theorem ZkN(lT:PlainAttrs T)(slot:Slot T name id)(hR:typeOf (.builtin id)=pure (.type "method_descriptor"))(a4:MtR X id r)(a_:PE X o to)(aS:PA X (e::a') t)
  (lU:attributeBase o name X.env (eval o X.env)=eval o X.env:=by rfl)
  (g_:((backTo fc (starEach (e::a') X.env)).all (λx=>!x.1)&&(backToKw fc (keywordEach [] X.env)).all (λx=>x.1.isSome)
   &&decide ((e::a').length+([]:List Keyword).length+(if([]:List Keyword).isEmpty then 0 else 1)<30))=true:=by rfl)
  (lV:(ei.endLine==fc.line)=true:=by rfl) (hs:starEach (e::a') X.env=(false,eval e X.env)::starEach a' X.env:=by rfl) (lW:(backTo fc (starEach a' X.env)).any (·.1)=false:=by rfl):
  PE X (.Call (.Attribute o name ei) (e::a') [] fc) (tBM X.K T r to t):=by
 intro ah s σ H Q I h;refine wpAny_Call_method_late lU g_ lV rfl (thn (a_ ah s σ H _ I h) λv aB ⟨x,ao,a0,cy,ty,cz⟩=>?_);obtain⟨aq,av⟩:=Zg5 a0 cy ty;refine⟨T,id,lT,slot,hR,aq,av,?_⟩;have et:=aS fc ah aB σ ao _ a0 cz;rw[hs] at et⊢;refine Calls.callWith_builtin (by show(false||(backTo fc (starEach a' X.env)).any (·.1))=false;rw[lW]<;>rfl) (Calls.evalArgs_plain ?_);exact thn et λus bc ⟨vs,ar,cR,cU,c6⟩=>a4 ah bc σ ar x vs v us Q cR cy cU c6
end
def MtM(X:Cx)(id:String)(r:V→List V→Hp→VK→Prop):Prop:=
 ∀(ah:List (Addr×Obj))(s:Shared)(σ:St)(H:Hp)(x:V)(xs:List V)(v:Value)(us:List Value)(Q:VK),Inv X ah σ H s→cO x v→cD xs us→r x xs H Q→
  wpAny (model X.prog X.w) X.A (call (.builtin id) (v::us)) (EP X ah σ Q) X.xe s
theorem cD.one:∀{x:V}{us:List Value},cD [x] us→∃u,us=[u]∧cO x u
 |_,_,.cons r .nil=>⟨_,rfl,r⟩
theorem cD.two:∀{x y:V}{us:List Value},cD [x,y] us→∃u v,us=[u,v]∧cO x u∧cO y v
 |_,_,_,.cons r (.cons q .nil)=>⟨_,_,rfl,r,q⟩
theorem cD.zero:∀{us:List Value},cD [] us→us=[]
 |_,.nil=>rfl
theorem cD.dropLast{xs:List V}{us:List Value}(h:cD xs us):cD xs.dropLast us.dropLast:=by
 induction h with
 |nil=>exact .nil
 |cons r t cI=>
  cases t with
  |nil=>exact .nil
  |cons q t'=>exact .cons r cI
theorem cD.rep{xs:List V}{us:List Value}(h:cD xs us):∀k:Nat,cD (List.replicate k xs).flatten (List.replicate k us).flatten
 |0=> .nil
 |k+1=>by
  rw[Rh,Rh,RF,RF];exact cD.append h (cD.rep h k)
theorem Cj{cG:Type}(l:List cG):l.eraseIdx (l.length-1)=l.dropLast:=by
 induction l with
 |nil=>rfl
 |cons a r cI=>
  cases r with
  |nil=>rfl
  |cons b r=>
   have e:(a::b::r).length-1=((b::r).length-1)+1:=by
    have aq:(a::b::r).length=r.length+2:=rfl;have av:(b::r).length=r.length+1:=rfl;omega
   rw[e,List.eraseIdx_cons_succ,cI]
   all_goals rfl
theorem ZcN(its:List Value):∀(k:Nat)(ds:List Value),
  List.foldl (λx1 x2=>x1++x2) ds.toArray (List.replicate k its.toArray)=(ds++(List.replicate k its).flatten).toArray
 |0,ds=>by simp
 |k+1,ds=>by
  have e:ds.toArray++its.toArray=(ds++its).toArray:=by simp
  have a8:(ds++its)++(List.replicate k its).flatten=ds++(List.replicate (k+1) its).flatten:=by
   rw[Rh,RF,List.append_assoc]
  rw[←a8,←ZcN its k (ds++its),←e,Rh,List.foldl_cons]
section
variable {X:Cx}{ah:List (Addr×Obj)}{σ:St}{H:Hp}{s:Shared}{l b:Addr}{xs ys zs:List V}
theorem Inv.lset{its its':List Value}{n:Nat}{f:Array Value→Array Value}{t':Nat}(I:Inv X ah σ H s)(gG:H l=some (.lst xs))
  (e:s.heap.get? l=some {cls:= .type "list",data:= .seq its.toArray n}) (aX:f its.toArray=its'.toArray) (cH:cD ys its') (bh:ys.length≤sizeLine):
  Inv X ah σ (upd H l (.lst ys)) {s with heap:=s.heap.update l (Obj.mapSeq f),toks:=t'}:=by
 have q:=PySem.IsL.update e f;rw[aX] at q;refine I.write (x:=l) (e:=l) (by rw[gG];exact trivial) (.inl rfl) (λql u am hu=>(Heap.get?_update_other s.heap (Obj.mapSeq f) (GE am)).trans hu) ⟨_,q⟩ ?_;exact⟨bh,its',_,cH,q⟩
theorem Inv.lnew{its:List Value}{t':Nat}(I:Inv X ah σ H s)(cH:cD ys its)(bh:ys.length≤sizeLine):
  Inv X ah σ (upd H s.heap.objs.size (.lst ys)) {s with heap:=s.heap.push {cls:= .type "list",data:= .seq its.toArray},toks:=t'}:=
 I.laid (λ_ _ q=>Heap.get?_push_of_some _ q) (Qc _) ⟨bh,its,0,cH,Heap.get?_push_size _ rfl⟩
theorem Inv.fresh(I:Inv X ah σ H s):H s.heap.objs.size=none:=I.hok.fresh (Qc _)
theorem Inv.lstM(I:Inv X ah σ H s)(gG:H l=some (.lst xs)):xs.length≤sizeLine∧∃(its:List Value)(n:Nat),cD xs its∧xs.length=its.length∧s.heap.get? l=some {cls:= .type "list",data:= .seq its.toArray n}:=by
 obtain⟨z,its,n,r,e⟩:=I.hok l _ gG;exact⟨z,its,n,r,r.length,e⟩
theorem Zd0{n:Nat}(h:n≤sizeLine):Builtin.List.listTooLong n=false:=by
 unfold Builtin.List.listTooLong;exact decide_eq_false (by omega)
end
section
variable {X:Cx}
noncomputable def rAppend:V→List V→Hp→VK→Prop:=λx vs H Q=>∃l xs y,x= .ref l∧vs=[y]∧H l=some (.lst xs)∧xs.length<sizeLine∧Q .non (upd H l (.lst (xs++ [y])))
theorem hS:MtM X "list.append" rAppend:=by
 intro ah s σ H x vs v us Q I bI cW h;obtain⟨l,xs,y,rfl,rfl,gG,bh,q⟩:=h;cases bI;obtain⟨u,rfl,eY⟩:=cW.one;obtain⟨z,its,n,r,ai,e⟩:=I.lstM gG;refine call_meets F.slot_list_append ⟨_,e,rfl⟩ F.entry_list_append (F.args_list_append_2 _ _) (PySem.list_append l its.toArray n u (by rw[Qd];omega)) ⟨e,?_⟩;refine⟨.non,_,I.lset (its':=its++ [u]) gG e (by simp) (r.append (.cons eY .nil)) ?_,rfl,q⟩;rw[Qg,List.length_singleton];omega
noncomputable def rExtend:V→List V→Hp→VK→Prop:=λx vs H Q=>∃l b xs zs,x= .ref l∧vs=[.ref b]∧H l=some (.lst xs)∧H b=some (.lst zs)∧xs.length+zs.length≤sizeLine∧Q .non (upd H l (.lst (xs++zs)))
theorem wK:MtM X "list.extend" rExtend:=by
 intro ah s σ H x vs v us Q I bI cW h;obtain⟨l,b,xs,zs,rfl,rfl,gG,gH,bh,q⟩:=h;cases bI;obtain⟨u,rfl,eY⟩:=cW.one;cases eY;obtain⟨z,its,n,r,ai,e⟩:=I.lstM gG;obtain⟨d_,h7,eD,cU,fL,a8⟩:=I.lstM gH;have hsz:its.toArray.size+h7.toArray.size≤sizeLine:=by rw[Qd,Qd];omega
 have sC:¬(!its.toArray.isEmpty&&Builtin.List.listTooLong (its.toArray.size+h7.toArray.size))=true:=by
  rw[Zd0 hsz,Bool.and_false];exact Qh
 refine call_meets F.slot_list_extend ⟨_,e,rfl⟩ F.entry_list_extend (F.args_list_extend_2 _ _)
  (AutoSeq1.list_extend_list_list_0 l its.toArray n b h7.toArray eD sC (by rw[Qd];omega) (by omega)) ⟨e,a8,?_⟩
 refine⟨.non,_,I.lset (its':=its++h7) gG e (by simp) (r.append cU) ?_,rfl,q⟩;rw[Qg];omega
noncomputable def rPop:V→List V→Hp→VK→Prop:=λx vs H Q=>∃l xs y,x= .ref l∧vs=[]∧H l=some (.lst xs)∧xs[xs.length-1]? =some y∧Q y (upd H l (.lst xs.dropLast))
theorem Ck:MtM X "list.pop" rPop:=by
 intro ah s σ H x vs v us Q I bI cW h;obtain⟨l,xs,y,rfl,rfl,gG,cx,q⟩:=h;cases bI;have Cm:=cW.zero;subst Cm;obtain⟨z,its,n,r,ai,e⟩:=I.lstM gG;obtain⟨u,hu,eY⟩:=r.get cx;have Cn:its.toArray[its.toArray.size-1]? =some u:=by
  show its.toArray[its.length-1]? =some u;rw[←Array.getElem?_toList,←ai];exact hu
 refine call_meets F.slot_list_pop ⟨_,e,rfl⟩ F.entry_list_pop (F.args_list_pop_1 _) (MeetsSeq.list_pop_last l its.toArray n u Cn (by rw[Qd];omega)) ⟨e,?_⟩;refine⟨y,_,I.lset (its':=its.dropLast) gG e ?_ r.dropLast ?_,eY,q⟩
 ·show its.toArray.eraseIdxIfInBounds (its.toArray.size-1)=its.dropLast.toArray;rw[Qd,List.eraseIdxIfInBounds_toArray,Cj]
 ·rw[RM];omega
noncomputable def rCat:R2:=λx y H Q=>∃l b xs zs,x= .ref l∧y= .ref b∧H l=some (.lst xs)∧H b=some (.lst zs)∧xs.length+zs.length≤sizeLine∧∀p,H p=none→Q (.ref p) (upd H p (.lst (xs++zs)))
theorem Co:OpR X (binaryOp .Add) rCat:=by
 intro ah s σ H x y v u Q I bI cv h;obtain⟨l,b,xs,zs,rfl,rfl,gG,gH,bh,q⟩:=h;cases bI;cases cv;obtain⟨z,its,n,r,ai,e⟩:=I.lstM gG;obtain⟨d_,h7,eD,cU,fL,a8⟩:=I.lstM gH;refine PySem.P.add_list e a8 ?_ (by rw[Qd,Qd];omega);have ea:its.toArray++h7.toArray=(its++h7).toArray:=by simp
 rw[ea];exact⟨.ref _,_,I.lnew (t':=s.toks) (r.append cU) (by rw[Qg];omega),rfl,q _ I.fresh⟩
noncomputable def rRep:R2:=λx y H Q=>∃l k xs,x= .ref l∧y= .int k∧H l=some (.lst xs)∧ -(2 ^ 63)≤k∧k<2 ^ 63∧xs.length*k.toNat≤sizeLine∧
 ∀p,H p=none→Q (.ref p) (upd H p (.lst (List.replicate k.toNat xs).flatten))
theorem ZiA{cG:Type}(xs:List cG)(k:Nat):(List.replicate k xs).flatten.length=k*xs.length:=by
 induction k with
 |zero=>simp
 |succ k cI=>rw[Rh,RF,Qg,cI,Nat.succ_mul,Nat.add_comm]
theorem Cp:OpR X (binaryOp .Mult) rRep:=by
 intro ah s σ H x y v u Q I bI cv h;obtain⟨l,k,xs,rfl,rfl,gG,aq,av,bh,q⟩:=h;cases bI;obtain⟨t,rfl⟩:=cv;obtain⟨z,its,n,r,ai,e⟩:=I.lstM gG;have dg:its.toArray.size*k.toNat≤sizeLine:=by rw[Qd,←ai];exact bh
 have Cq:¬its.toArray.size*k.toNat > (2 ^ 63-1) / 8:=by
  have:(sizeLine:Nat)≤(2 ^ 63-1) / 8:=by decide
  omega
 have Cr:¬(!Builtin.List.listFitsIndex k)=true:=by
  rw[fitsIndex_both aq av];exact Qh
 have sC:¬Builtin.List.listTooLong (its.toArray.size*k.toNat)=true:=by
  rw[Zd0 dg];exact Qh
 have sD:List.foldl (λx1 x2=>x1++x2) #[] (List.replicate (if its.toArray.isEmpty=true then 0 else k.toNat) its.toArray)=(List.replicate k.toNat its).flatten.toArray:=by
  have ew:∀m:Nat,List.foldl (λx1 x2=>x1++x2) #[] (List.replicate m its.toArray)=(List.replicate m its).flatten.toArray:=λm=>by
   have:=ZcN its m [];rw[List.nil_append] at this;exact this
  rw[ew];cases its with
  |nil=>simp
  |cons a c0=>rw[if_neg (by simp)]
 refine wpAny_binaryOp_repeat_ref (T:="list") (U:="int") (by decide) ⟨_,e,rfl⟩ (λs'=>typeIs_int s' k t) noFill_list_mul F.fills_int_mul F.slot_int_rmul repeat_list F.slot_int_index.lookup
  (call_meets F.slot_int_rmul (typeIs_int s k t) F.entry_int_rmul (F.args_int_rmul_2 _ _) (int___rmul___int_list k t l its.toArray n)
   ⟨e,rfl,⟨_,e,rfl⟩,call_meets F.slot_list_mul ⟨_,e,rfl⟩ F.entry_list_mul (F.args_list_mul_2 _ _) (AutoListH.list___mul___list_int_3 l its.toArray n k t Cr Cq sC) ⟨e,?_⟩⟩)
 rw[sD];exact⟨.ref _,_,I.lnew (t':=s.toks) (r.rep k.toNat) (by rw[ZiA,Nat.mul_comm];exact bh),rfl,q _ I.fresh⟩
end
section
variable {prog:Program}{w:World}{A:Around}{E:Value→Shared→Prop}{s:Shared}
end
section
variable {X:Cx}
end
end L2
namespace Att
open PySem PySem.W PySem.Calls PyProof.Rows
theorem Cs{P:Params}{h:Heap}:∀(ns:List Int)(vs:List Value),WellAll P h vs (ns.map WData.int)→IntsAre vs ns:=by
 intro ns
 induction ns with
 |nil=>
  intro vs w;rw[List.map_nil] at w;cases w;exact .nil
 |cons n ns cI=>
  intro vs w;rw[List.map_cons] at w;cases w with
  |cons a b=>
   cases a;exact .cons _ _ (cI _ b)
theorem ZgM{l:OpenLaw}{n:Nat}(bL:l.most=some n){P:Params}{h:Heap}{args:List WData}{sE:List Value}
  (qm:l.row.toRowW.claim.pre args=true) (hx:WellAll P h sE args):
  ∃a vs ns,sE=[Value.ref a]∧args=[WData.list (ns.map WData.int)]∧h.get? a=some {cls:= .type "list",data:= .seq vs.toArray}∧IntsAre vs ns∧ns.length≤n:=by
 have Ct:WShape.hasAll [] args [.list .int]=true:=(pre_splitW qm).1;have aG:l.pre.holds [] {args:=args}=true:=(pre_splitW qm).2;obtain⟨d,r,rfl,aq,av⟩:=hasAllW_cons Ct;obtain rfl:=hasAllW_nil av;obtain⟨xs,rfl,b_⟩:=hasW_list aq;obtain⟨ns,rfl⟩:=items_int b_;have dg:ns.length≤n:=by
  unfold OpenLaw.pre at aG;have cA:(WTm.not (.lt (.lit (.int (n:Int))) (.len (.arg 0)))).holds [] {args:=[.list (ns.map .int)]}=true:=by
   have cA:=(holds_andW aG).1;rw[bL] at cA;exact cA
  have dt:=condW_of cA (w_not (w_lt w_lit (w_len_list (w_arg rfl))));rw[Qb] at dt;refine Nat.le_of_not_lt λq=>?_;have g6:(n:Int)<((ns.length:Nat):Int):=by omega
  first
   |(rw[decide_eq_true g6] at dt;exact absurd dt (by decide))
   |(simp at dt;omega)
 cases hx with
 |cons er lD=>
  cases lD;cases er with
  |list a_ j7=>exact⟨_,_,ns,rfl,rfl,a_,Cs ns _ j7,dg⟩
theorem Cu(l:OpenLaw)(args:List WData):l.row.toRowW.claim.post args (.bool true) args=true:=
 postW_of (r:=l.row.toRowW) (X:=(true==true))
  (show WShape.has [] (.bool true) .bool=true by first|rfl|decide|simp[WShape.has,WShape.arms,WShape.armsAll])
  (show(WTm.eq .res (.lit (.bool true))).value [] {args:=args,res:=some (.bool true),after:=args}=some (.bool (true==true)) from w_eq_bool (w_res rfl) w_lit) rfl
theorem ZeX{l:OpenLaw}{n:Nat}{q:Program}{mZ:List Str}{m0:(Str→Option Value)→Heap→Prop}{kF:World→Heap→Prop}{d:DefRec}
  (bL:l.most=some n) (oH:d.params.defaults=[])
  (call:∀(w:World)(s₀ dr:Shared)(mg io:Str→Option Value)(dW:Addr)(o:Obj)(eM cd e5:Value)(a:Addr)(vs:List Value)(ns:List Int),
   Ground q mZ [] m0 w s₀ mg io dr.heap→kF w dr.heap→
   dr.heap.get? dW=some o→o.data= .func (docDef d.name d.params d.body d.scope eM cd e5)→dr.heap.CodeRec cd d.name→mg d.name=some (.ref dW)→
   dr.heap.get? a=some {cls:= .type "list",data:= .seq vs.toArray}→IntsAre vs ns→ns.length≤n→dr.gens=#[]→
   codeAny (model l.prog w) callerA (.call (.ref dW) ⟨[.ref a],[]⟩) (λr s'=>r= .ok (.ret (.bool true))∧OldK dr.heap s'.heap∧s'.os=dr.os∧AllBare s'.gens) dr):
  WalkO q mZ m0 kF l.row.toRowW d [] (λf vs=>PySem.call f vs):=by
 intro w s₀ dr mg io G Y dW o eM cd e5 qf kV a_ hd ho lX m1 ci args sE as qm hlay j8 hx oI;obtain rfl:qf= .none:=Dflts.none lX oH;obtain rfl:kV= .none:=Dflts.noKw lX;obtain⟨a,vs,ns,rfl,rfl,sF,sG,dg⟩:=ZgM bL qm hx;refine enter_call (codeAny_mono (call w s₀ dr mg io dW o eM cd e5 a vs ns G Y a_ (fd_plain hd) ho m1 sF sG dg ci) λr s' cj=>?_);obtain⟨rfl,av,b_,cA⟩:=cj;exact⟨.inl ⟨.bool true,.bool true,[],rfl,λ_=>rfl,.bool true,Cu l _,λ_=>⟨List.Pairwise.nil,λ_ a4=>(nomatch a4)⟩⟩,av,b_,cA⟩
section
variable {prog:Program}{w:World}{A:Around}{E:Value→Shared→Prop}{s:Shared}{K:Frag}
end
end Att
namespace L2
open PySem PySem.Spec PyProof.Rows
theorem wL:∀{vs:List Value}{ns:List Int},IntsAre vs ns→cD (ns.map V.int) vs
 |_,_,.nil=> .nil
 |_,_,.cons n t h=> .cons ⟨t,rfl⟩ (wL h)
def sH(H:Hp):Prop:=∀b,H b=none∨∃o xs,H b=some (.frz o (.lst xs))
theorem ZhO{P:Program}{w:World}{K:Frag}{mg io:Str→Option Value}{CX:CXT}{k:Nat}{dW a:Addr}{fd:FuncData}{x:Str}{sp:Sp}{dr:Shared}{vs:List Value}{ns:List Int}
  (ey:K.In dr.heap) (m2:dr.heap.Ns mainGlobals mg) (am:dr.heap.Ns builtinsNs io) (Cv:∀x:Str,x≠"__name__" →io x=bootBuiltins x) (Cw:dr.heap.NoLimit) (ci:dr.gens=#[])
  (aS:dr.heap.get? a=some {cls:= .type "list",data:= .seq vs.toArray}) (hi:IntsAre vs ns) (ai:ns.length≤sizeLine) (au:d7 k callerA)
  (F:∀base:Heap,K.In base→base.Ns mainGlobals mg→Yo P w K mg base CX k dW fd [x] sp) (Cy:∀(s:Shared)(u:Value),BindsTo s fd ⟨[u],[]⟩ [(x,u)])
  (ht:∀H:Hp,sH H→SqL K H a (ns.map V.int)→sp [.ref a] H (λv _=>v= .bl true) λ_ _ _=>False)
  (sI:∀H e s',CX [] H dr (λ_ _ _=>False) e s'→False):
  codeAny (model P w) callerA (.call (.ref dW) ⟨[.ref a],[]⟩) (λr s'=>r= .ok (.ret (.bool true))∧OldK dr.heap s'.heap∧s'.os=dr.os∧AllBare s'.gens) dr:=by
 have cW:=wL hi;have Cz:=hi.length;have wM:∀H:Hp,sH H→SqL K H a (ns.map V.int)→HOk P w H dr.heap→(∀b,H b≠none→b=a)→(H a≠none→K.lookup a=none)→
   codeAny (model P w) callerA (.call (.ref dW) ⟨[.ref a],[]⟩) (λr s'=>r= .ok (.ret (.bool true))∧OldK dr.heap s'.heap∧s'.os=dr.os∧AllBare s'.gens) dr:=by
  intro H hO fH hok et hK;have wN:∀{b:Addr}{o:Obj},dr.heap.get? b=some o→H b=none→(jU dr.heap H).get? b=some o:=λe n=>Zhy e n;have oy:∀{b:Addr}{o:Obj}{a':Array DictEntry}{ep:Nat},dr.heap.get? b=some o→o.data= .dict a' ep→H b=none:=λ{b o a' ep} e d=>by
   cases q:H b with
   |none=>rfl
   |some u=>
    have cm:b=a:=et b (by rw[q];simp);subst cm;rw[aS] at e;cases e;have d':Data.seq vs.toArray _=Data.dict a' ep:=d;cases d'
  have qn:∀{b:Addr}{m:Str→Option Value},dr.heap.Ns b m→(jU dr.heap H).Ns b m:=λ{b m} ⟨o,a',ep,e,d,r⟩=>⟨o,a',ep,wN e (oy e d),d,r⟩;have wO:K.In (jU dr.heap H):=λb o e=>wN (ey b o e) (by
   cases q:H b with
   |none=>rfl
   |some u=>
    have cm:b=a:=et b (by rw[q];simp);subst cm;rw[hK (by rw[q];simp)] at e;cases e)
  have CA:Mod K mg (jU dr.heap H):=⟨wO,qn m2,⟨io,qn am,Cv⟩,let⟨CB,aq,av⟩:=Cw;⟨CB,qn aq,av⟩⟩;have dV:V8 P w K mg (jU dr.heap H) callerA [] dr H:=⟨rfl,CA,λb o e=>ZiR e,Nat.le_of_eq (By _ _),trivial,λb am=>absurd (show b∈([]:List Addr) from am) (by simp),hok,.of_eq ci⟩;refine codeAny_mono ((F _ wO (qn m2)).run callerA [] dr H ⟨[.ref a],[]⟩ [.ref a] [.ref a] _ _ au dV (Cy dr (.ref a)) (.cons rfl .nil) (ht H hO fH)) λr s' h=>?_;cases r with
  |error e=>exact(sI H e s' h).elim
  |ok az=>
   cases az with
   |next=>exact False.elim h
   |brk=>exact False.elim h
   |cont=>exact False.elim h
   |ret u=>
    obtain⟨v,H',os,bare,un,oJ,c0,q⟩:=h;have g6:v= .bl true:=q;subst g6;obtain rfl:u=Value.bool true:=c0;refine⟨rfl,OldK.of_keep λb o e=>?_,os,bare⟩;cases q:H b with
    |none=>exact un.keep b o e q (by intro z;exact absurd (show b∈([]:List Addr) from z) (by simp)) (by simp)
    |some u=>
     rcases hO b with z|⟨c4,xs,z⟩
     ·rw[q] at z;cases z
     ·have d_:=un.frzs b c4 _ z;obtain⟨aV,_⟩:=hok b _ z;obtain⟨a8,_⟩:=oJ b _ d_;rw[e] at aV;cases aV;exact a8
 cases aA:K.lookup a with
 |some o=>
  have e:=ey a o aA;rw[aS] at e;cases e;refine wM (λ_=>none) (λ_=> .inl rfl) (.inr ⟨_,vs.toArray,_,aA,rfl,rfl,rfl,by rw[Qd,Cz];exact ai,by simpa using cW⟩) (λb u z=>by have fP:(none:Option HO)=some u:=z;cases fP) (λb z=>absurd rfl z) λz=>absurd rfl z
 |none=>
  refine wM (λb=>if b=a then some (.frz {cls:= .type "list",data:= .seq vs.toArray} (.lst (ns.map V.int))) else none) (λb=>?_) (.inl (.inr ⟨{cls:= .type "list",data:= .seq vs.toArray},if_pos rfl⟩)) (λb u z=>?_) (λb z=>?_) λ_=>aA
  ·by_cases am:b=a
   ·exact .inr ⟨_,_,if_pos am⟩
   ·exact .inl (if_neg am)
  ·by_cases am:b=a
   ·have fP:=(if_pos am).symm.trans z;cases fP;subst am;exact⟨aS,by rw[Qb];exact ai,vs,_,cW,aS⟩
   ·have fP:=(if_neg am).symm.trans z;cases fP
  ·by_cases am:b=a
   ·exact am
   ·exact absurd (if_neg am) z
theorem Ziw{l:PySem.W.OpenLaw}{n k:Nat}{q:Program}{mZ:List Str}{m0:(Str→Option Value)→Heap→Prop}{kF:World→Heap→Prop}{d:DefRec}{K:Params→Frag}{CX:World→CXT}{sp:World→Sp}{x:Str}
  (bL:l.most=some n) (hQ:n≤sizeLine) (oH:d.params.defaults=[]) (au:d7 k callerA)
  (sJ:∀(w:World)(h:Heap),kF w h→(K w.params).In h)
  (F:∀(w:World)(mg:Str→Option Value)(dW:Addr)(h:Heap),(K w.params).In h→h.Ns mainGlobals mg→mg d.name=some (.ref dW)→
   ∃fd:FuncData,(∀(s:Shared)(u:Value),BindsTo s fd ⟨[u],[]⟩ [(x,u)])∧
    ∀base:Heap,(K w.params).In base→base.Ns mainGlobals mg→Yo l.prog w (K w.params) mg base (CX w) k dW fd [x] (sp w))
  (ht:∀(w:World)(H:Hp)(a:Addr)(ns:List Int),ns.length≤n→sH H→SqL (K w.params) H a (ns.map V.int)→sp w [.ref a] H (λv _=>v= .bl true) λ_ _ _=>False)
  (sI:∀(w:World)(H:Hp)(s:Shared)(e:Value)(s':Shared),CX w [] H s (λ_ _ _=>False) e s'→False):
  PySem.W.WalkO q mZ m0 kF l.row.toRowW d [] (λf vs=>PySem.call f vs):=by
 refine Att.ZeX bL oH λw s₀ dr mg io dW o eM cd e5 a vs ns G Y a_ hd ho m1 sF sG dg ci=>?_;have ey:=sJ w _ Y;obtain⟨fd,am,fB⟩:=F w mg dW _ ey G.T.g m1;exact ZhO ey G.T.g G.T.b G.T.builtins G.T.nolimit ci sF sG (Qv dg hQ) au fB am (λH hO fH=>ht w H a ns dg hO fH) λH e s'=>sI w H dr e s'
noncomputable def ZY (s:Stmt) (j:Nat):Stmt:=match s with
 | .ClassDef _ _ _ body _ _ _ _ _ _ _=>body.getD j (.Pass ⟨0,0,0,0⟩)
 |_=> .Pass ⟨0,0,0,0⟩
noncomputable def iY (s:Stmt):Arguments:=match s with
 | .FunctionDef _ a _ _ _ _ _ _ _ _=>a
 |_=>{posonlyargs:=[],args:=[],vararg:=none,kwonlyargs:=[],kw_defaults:=[],kwarg:=none,defaults:=[]}
noncomputable def hT (s:Stmt):List Stmt:=match s with
 | .FunctionDef _ _ b _ _ _ _ _ _ _=>b
 |_=>[]
noncomputable def cq (s:Stmt):Scope:=match s with
 | .FunctionDef _ _ _ _ _ _ bo _ _ _=>bo
 |_=>{kind:= .function,names:=[],isGenerator:=false,isCoroutine:=false}
noncomputable abbrev E0:XK:=λ_ _ _=>False
structure Fun(K:Frag)(x qual:Str)(st:Stmt)(f:Addr)(fd:FuncData):Prop where
 ex:∃(e_:Value)(dY:Option Addr)(kV e5 eM:Value)(an:Option Addr)(cw ct:Value)(f7:Array (Option Value)),
  fd=fnOf x qual (iY st) (hT st) (cq st) .none kV e5 eM an cw ct∧K.lookup f=some ⟨e_,dY,.func fd,f7⟩∧codeIn K cw qual=true
 kp:keepIn K (.ref f)=true
section
variable {P:Program}{w:World}{K:Frag}{mg:Str→Option Value}{base:Heap}
theorem Fun.binds{x qual:Str}{st:Stmt}{f:Addr}{fd:FuncData}{a5:List Str}(F:Fun K x qual st f fd)
  (h:∀(kV e5 eM:Value)(an:Option Addr)(cw ct:Value)(us:List Value),us.length=a5.length→bindArgs (fnOf x qual (iY st) (hT st) (cq st) .none kV e5 eM an cw ct) ⟨us,[]⟩=pure (a5.zip us)):Y8 K fd a5 []:=by
 obtain⟨e_,dY,kV,e5,eM,an,cw,ct,f7,rfl,lk,ho⟩:=F.ex;exact .all (h kV e5 eM an cw ct)
theorem m3{x qual:Str}{st:Stmt}{f:Addr}{e_:Value}{dY an:Option Addr}{f7:Array (Option Value)}{kV e5 eM cw ct:Value}(l:K.lookup f=some ⟨e_,dY,.func (fnOf x qual (iY st) (hT st) (cq st) .none kV e5 eM an cw ct),f7⟩)
  (c:codeIn K cw qual=true) (k:keepIn K (.ref f)=true):Fun K x qual st f (fnOf x qual (iY st) (hT st) (cq st) .none kV e5 eM an cw ct):=⟨⟨e_,dY,kV,e5,eM,an,cw,ct,f7,rfl,l,c⟩,k⟩
end
theorem ej{n:Nat}(h:n≤1000):n<sizeLine:=Nat.lt_of_le_of_lt h (by decide)
section
variable {X:Cx}
theorem pv(i:Nat){x:Str}{pos:Pos}(eu:X.N[i]? =some x:=by rfl)(cH:Vis X.env.scope x:=by first|exact Or.inl rfl|exact Or.inr (Or.inl rfl)|exact Or.inr (Or.inr rfl))(hd:(x==("__debug__" :Str))=false:=by decide)
  (ho:(x==("__classdict__" :Str))=false:=by decide):PE X (.Name x pos) (Zed i):=Zjy eu cH hd ho
end
theorem ZdD{A B:Prop}(h:B):if false=true then A else B:=by
 rw[if_neg Qh];exact h
theorem ZdI{A B:Prop}(h:A):if true=true then A else B:=by
 rw[if_pos rfl];exact h
theorem Zbf{c A B:Prop}[Decidable c](aq:c→A)(av:¬c→B):if c then A else B:=by
 by_cases h:c
 ·rw[if_pos h];exact aq h
 ·rw[if_neg h];exact av h
def Zc(H H':Hp):Prop:=∀b o,H b=some o→H' b=some o
theorem Zc.refl(H:Hp):Zc H H:=λ_ _ h=>h
theorem Zc.trans{H ao ar:Hp}(a:Zc H ao)(b:Zc ao ar):Zc H ar:=λc o h=>b c o (a c o h)
theorem Zc.seq{K:Frag}{H H':Hp}{a:Addr}{xs:List V}(e:Zc H H')(h:SqL K H a xs):SqL K H' a xs:=by
 rcases h with(h|⟨o,h⟩)|h
 ·exact .inl (.inl (e _ _ h))
 ·exact .inl (.inr ⟨o,e _ _ h⟩)
 ·exact .inr h
section
variable {dU:Type}[DecidableEq dU]
noncomputable def ha (kvs:List (dU×V)) (k:dU):Option V:=(kvs.find? λd8=>decide (d8.1=k)).map (·.2)
noncomputable def hy (kvs:List (dU×V)) (k:dU) (v:V):List (dU×V):=
 if(kvs.any λd8=>decide (d8.1=k))=true then kvs.map (λd8=>if d8.1=k then(d8.1,v) else d8) else kvs++ [(k,v)]
theorem Zbl{p:dU×V}{r:List (dU×V)}{k:dU}(e:p.1=k):ha (p::r) k=some p.2:=by simp[ha,Rj,e]
theorem Za9{p:dU×V}{r:List (dU×V)}{k:dU}(e:¬p.1=k):ha (p::r) k=ha r k:=by simp[ha,Rj,e]
theorem UJ(k:dU):∀kvs:List (dU×V),(kvs.any λd8=>decide (d8.1=k))=(ha kvs k).isSome
 | []=>rfl
 |p::r=>by
  rw[List.any_cons]
  by_cases e:p.1=k
  ·simp only[Zbl e,decide_eq_true e,Bool.true_or,Option.isSome_some]
  ·rw[Za9 e,decide_eq_false e,Bool.false_or];exact UJ k r
theorem ZaY(kvs:List (dU×V))(k:dU)(v:V):(hy kvs k v).length≤kvs.length+1:=by
 unfold hy
 split
 ·rw[Qb];omega
 ·rw[Qg,List.length_cons,List.length_nil];omega
theorem Zhi{kvs:List (dU×V)}{k:dU}(v:V)(h:ha kvs k=none):hy kvs k v=kvs++ [(k,v)]:=by
 unfold hy;rw[UJ,h];exact if_neg (by decide)
theorem hI.isSome_eq{o:Option V}{u:Option Value}(r:hI o u):o.isSome=u.isSome:=by
 cases o with
 |none=>cases u with
  |none=>rfl
  |some _=>exact(show False from r).elim
 |some _=>cases u with
  |none=>exact(show False from r).elim
  |some _=>rfl
theorem KV.val{kvs:List (dU×V)}{vs:List (dU×Value)}(r:KV kvs vs)(k:dU):hI (ha kvs k) (valueAt vs k):=by
 unfold KV at r
 induction r with
 |nil=>exact True.intro
 | @cons p q a5 qs h t cI=>
  obtain⟨aq,av⟩:=h
  by_cases e:p.1=k
  ·have cm:q.1=k:=aq.symm.trans e;have b:valueAt (q::qs) k=some q.2:=by simp[valueAt,Rj,cm]
   rw[Zbl e,b];exact av
  ·have cm:¬q.1=k:=λz=>e (aq.trans z);have b:valueAt (q::qs) k=valueAt qs k:=by simp[valueAt,Rj,cm]
   rw[Za9 e,b];exact cI
theorem KV.any{kvs:List (dU×V)}{vs:List (dU×Value)}(r:KV kvs vs)(k:dU):(kvs.any λd8=>decide (d8.1=k))=vs.any λd8=>decide (d8.1=k):=by
 unfold KV at r
 induction r with
 |nil=>rfl
 |cons h t cI=>rw[List.any_cons,List.any_cons,cI,h.1]
theorem KV.repl{kvs:List (dU×V)}{vs:List (dU×Value)}(r:KV kvs vs)(k:dU){y:V}{u:Value}(cv:cO y u):
  KV (kvs.map λd8=>if d8.1=k then(d8.1,y) else d8) (vs.map λd8=>if d8.1=k then(d8.1,u) else d8):=by
 unfold KV at r⊢
 induction r with
 |nil=>exact .nil
 | @cons p q a5 qs h t cI=>
  rw[List.map_cons,List.map_cons];refine .cons ?_ cI;obtain⟨aq,av⟩:=h
  by_cases e:p.1=k
  ·rw[if_pos e,if_pos (aq.symm.trans e)];exact⟨aq,cv⟩
  ·rw[if_neg e,if_neg (λz=>e (aq.trans z))];exact⟨aq,av⟩
theorem KV.put{kvs:List (dU×V)}{vs:List (dU×Value)}(r:KV kvs vs)(k:dU){y:V}{u:Value}(cv:cO y u):KV (hy kvs k y) (stored vs k u):=by
 unfold hy stored;rw[r.any k]
 by_cases e:(vs.any λd8=>decide (d8.1=k))=true
 ·rw[if_pos e,if_pos e];exact r.repl k cv
 ·rw[if_neg e,if_neg e];exact Paired.snoc r ⟨rfl,cv⟩
theorem KV.length{kvs:List (dU×V)}{vs:List (dU×Value)}(r:KV kvs vs):kvs.length=vs.length:=Paired.length r
end
theorem sK{P:Program}{w:World}{k:Key}{u:Value}(r:cO (kV k) u):(g5 P w).is k u=true:=by
 cases k with
 |inl i=>obtain⟨t,e⟩:=(show ∃t,u=Value.int i t from r);subst e;exact ZeP P w i t
 |inr x=>obtain⟨t,e⟩:=(show ∃t,u=Value.str x t from r);subst e;exact ZeC P w x t
theorem CC{a b:Key}(e:kV a=kV b):a=b:=by
 cases a with
 |inl i=>cases b with
  |inl j=>have cm:V.int i=V.int j:=e;injection cm with cm;rw[cm]
  |inr y=>exact nomatch (show V.int i=V.str y from e)
 |inr x=>cases b with
  |inl j=>exact nomatch (show V.str x=V.int j from e)
  |inr y=>have cm:V.str x=V.str y:=e;injection cm with cm;rw[cm]
theorem wP{P:Program}{w:World}:∀{kE:List Key}{us:List Value},cD (kE.map kV) us→ItemsAre (g5 P w) kE us
 | [],_,r=>by rw[List.map_nil] at r;cases r;exact .nil
 |k::kE,_,r=>by
  rw[List.map_cons] at r;cases r with
  |cons h t=>exact .cons (sK h) (wP t)
noncomputable abbrev KT (H:Hp):List (List Key×V)→List (List Key×Addr×Value)→Prop:=Paired λp q=>p.1=q.1∧H q.2.1=some (.tup (p.1.map kV))∧cO p.2 q.2.2
theorem KT.val{H:Hp}{kvs:List (List Key×V)}{xs:List (List Key×Addr×Value)}(r:KT H kvs xs)(k:List Key):hI (ha kvs k) ((atKey xs k).map (·.2)):=by
 induction r with
 |nil=>exact True.intro
 | @cons p q a5 qs h t cI=>
  obtain⟨aq,_,av⟩:=h
  by_cases e:p.1=k
  ·have cm:q.1=k:=aq.symm.trans e;have b:atKey (q::qs) k=some q.2:=by simp[atKey,Rj,cm]
   rw[Zbl e,b];exact av
  ·have cm:¬q.1=k:=λz=>e (aq.trans z);have b:atKey (q::qs) k=atKey qs k:=by simp[atKey,Rj,cm]
   rw[Za9 e,b];exact cI
theorem KT.repl{H:Hp}{kvs:List (List Key×V)}{xs:List (List Key×Addr×Value)}(r:KT H kvs xs)(k:List Key){y:V}{u:Value}(cv:cO y u):
  KT H (kvs.map λd8=>if d8.1=k then(d8.1,y) else d8) (xs.map (putAt k u)):=by
 induction r with
 |nil=>exact .nil
 | @cons p q a5 qs h t cI=>
  rw[List.map_cons,List.map_cons];refine .cons ?_ cI;obtain⟨aq,av,b_⟩:=h;unfold putAt
  by_cases e:p.1=k
  ·rw[if_pos e,if_pos (aq.symm.trans e)];exact⟨aq,av,cv⟩
  ·rw[if_neg e,if_neg (λz=>e (aq.trans z))];exact⟨aq,av,b_⟩
theorem KT.put{H:Hp}{kvs:List (List Key×V)}{xs:List (List Key×Addr×Value)}(r:KT H kvs xs)(k:List Key){b:Addr}{y:V}{u:Value}(am:H b=some (.tup (k.map kV)))(cv:cO y u):
  KT H (hy kvs k y) (storedH xs k b u):=by
 have e:(kvs.any λd8=>decide (d8.1=k))=(atKey xs k).isSome:=by
  rw[UJ,(r.val k).isSome_eq,Option.isSome_map]
 unfold hy storedH;rw[e]
 by_cases q:(atKey xs k).isSome=true
 ·rw[if_pos q,if_pos q];exact r.repl k cv
 ·rw[if_neg q,if_neg q];exact Paired.snoc r ⟨rfl,am,cv⟩
theorem KT.keeps{H H':Hp}{kvs:List (List Key×V)}{xs:List (List Key×Addr×Value)}(r:KT H kvs xs)(aT:∀b ys,H b=some (.tup ys)→H' b=some (.tup ys)):KT H' kvs xs:=
 Paired.mapP r λ_ _ z=>⟨z.1,aT _ _ z.2.1,z.2.2⟩
section
variable {P:Program}{w:World}{H:Hp}{h:Heap}{a:Addr}
theorem Zik{u:HO}(ok:HOk P w H h)(e:Rd H a u):ZW P w H h a u:=e.ok ok
theorem Zf9{kvs:List (Key×V)}(ok:HOk P w H h)(e:Rd H a (.dK kvs)):kvs.length≤sizeLine∧(a==sysModules)=false∧∃vs,KV kvs vs∧h.DictOf (g5 P w) a vs:=
 show ZW P w H h a (.dK kvs) from Zik ok e
theorem Zip{kvs:List (Key×V)}(ok:HOk P w H h)(e:H a=some (.dK kvs)):kvs.length≤sizeLine∧(a==sysModules)=false∧∃vs,KV kvs vs∧h.DictOf (g5 P w) a vs:=Zf9 ok (.inl e)
theorem sL{kE:List Key}(ok:HOk P w H h)(e:H a=some (.tup (kE.map kV))):(tupleKind (g5 P w)).is h kE a:=by
 obtain⟨_,its,r,o,aq,av,n,b_⟩:=(show ZW P w H h a (.tup (kE.map kV)) from ok a _ e);exact⟨o,its.toArray,n,aq,av,b_,by simpa using wP r⟩
theorem Ziu{kvs:List (List Key×V)}(ok:HOk P w H h)(e:Rd H a (.dT kvs)):kvs.length≤sizeLine∧(a==sysModules)=false∧
  ∃xs,KT H kvs xs∧h.DictOfH (tupleKind (g5 P w)) a xs:=by
 obtain⟨z,y,xs,r,o,a',ep,aq,av,b_,cA,dt⟩:=(show ZW P w H h a (.dT kvs) from Zik ok e);refine⟨z,y,xs,r,o,a',ep,aq,av,b_,cA,λx al=>?_,dt⟩;have all:∀{l:List (List Key×V)}{m:List (List Key×Addr×Value)},KT H l m→∀x∈m,(tupleKind (g5 P w)).is h x.1 x.2.1:=by
  intro l m q
  induction q with
  |nil=>intro x al;exact nomatch al
  | @cons p q a5 qs cj t cI=>
   intro x al;rcases Qe.mp al with e|al
   ·subst e;exact sL ok (by rw[←cj.1];exact cj.2.1)
   ·exact cI x al
 exact all r x al
theorem Zkr{kvs:List (List Key×V)}(ok:HOk P w H h)(e:H a=some (.dT kvs)):kvs.length≤sizeLine∧(a==sysModules)=false∧
  ∃xs,KT H kvs xs∧h.DictOfH (tupleKind (g5 P w)) a xs:=Ziu ok (.inl e)
end
def Zeo(H:Hp)(a:Addr)(y:V)(r:Option V):Prop:=
 (∃kvs k,Rd H a (.dK kvs)∧y=kV k∧r=ha kvs k)∨∃kvs k b,Rd H a (.dT kvs)∧y= .ref b∧H b=some (.tup (k.map kV))∧r=ha kvs k
def ZdP(H:Hp)(a:Addr)(y v:V)(H':Hp):Prop:=
 (∃kvs k,H a=some (.dK kvs)∧y=kV k∧kvs.length<sizeLine∧H'=upd H a (.dK (hy kvs k v)))∨
 ∃kvs k b,H a=some (.dT kvs)∧y= .ref b∧H b=some (.tup (k.map kV))∧kvs.length<sizeLine∧H'=upd H a (.dT (hy kvs k v))
theorem Zeo.k{H:Hp}{a:Addr}{kvs:List (Key×V)}{k:Key}(e:H a=some (.dK kvs)):Zeo H a (kV k) (ha kvs k):= .inl ⟨kvs,k,.inl e,rfl,rfl⟩
theorem ZdP.k{H:Hp}{a:Addr}{kvs:List (Key×V)}{k:Key}{v:V}(e:H a=some (.dK kvs))(ai:kvs.length<sizeLine):ZdP H a (kV k) v (upd H a (.dK (hy kvs k v))):= .inl ⟨kvs,k,e,rfl,ai,rfl⟩
section
variable {X:Cx}{ah:List (Addr×Obj)}{σ:St}{H:Hp}{s:Shared}{a:Addr}{y v:V}{u r:Value}{o:Option V}{A:Around}{E:Value→Shared→Prop}
theorem Inv.big(I:Inv X ah σ H s):sysModules<s.heap.objs.size:=by
 have h:mainGlobals<s.heap.objs.size:=(I.mod.glob.keeps I.bk).lt;exact Nat.lt_trans (by decide) h
theorem Zlt{Q:Value→Shared→Prop}(hu:A.units+1<cLine)(I:Inv X ah σ H s)(g:Zeo H a y o)(cv:cO y u)(h:∀s',Inv X ah σ H s'→Q (.bool o.isSome) s'):
  wpAny (model X.prog X.w) A (compareOp .In u (.ref a)) Q E s:=by
 rcases g with⟨kvs,k,e,ez,l⟩|⟨kvs,k,b,e,ez,eB,l⟩
 ·subst ez;obtain⟨z,hd,vs,rel,dd⟩:=Zf9 I.hok e;refine wpAny_in_of (sK cv) hd dd.mapOf ?_;rw[←(rel.val k).isSome_eq,←l];exact h _ (I.tok _)
 ·subst ez;cases (show u=Value.ref b from cv);obtain⟨z,hd,xs,rel,dd⟩:=Ziu I.hok e;refine wpAny_in_heap (tupleKind_room_in1 hu) (sL I.hok eB) hd dd ?_;have q:=(rel.val k).isSome_eq;rw[Option.isSome_map] at q;rw[←q,←l];exact h _ (I.tok _)
theorem Ze6{h':Heap}{t':Nat}{c4:HO}(I:Inv X ah σ H s)(hL:Mut (H a))(hs:Heap.SameBut a s.heap h')(b':∃q,h'.get? a=some q)(new:ZW X.prog X.w (upd H a c4) h' a c4):
  Inv X ah σ (upd H a c4) {s with heap:=h',toks:=t'}:=
 I.write (x:=a) (e:=a) hL (.inl rfl) (λb q am z=>(hs.2 b am).trans z) b' new
theorem CD{P:Program}{w:World}{H':Hp}{h':Heap}{kvs:List (Key×V)}{vs:List (Key×Value)}(z:kvs.length≤sizeLine)(hd:(a==sysModules)=false)(rel:KV kvs vs)(dd:h'.DictOf (g5 P w) a vs):
  ZW P w H' h' a (.dK kvs):=⟨z,hd,vs,rel,dd⟩
theorem Zg7{H':Hp}{Q:Unit→Shared→Prop}(hu:A.units+1<cLine)(I:Inv X ah σ H s)(g:ZdP H a y v H')(cv:cO y u)(cW:cO v r)(h:∀s',Inv X ah σ H' s'→Q () s'):
  wpAny (model X.prog X.w) A (setItem (.ref a) u r) Q E s:=by
 rcases g with⟨kvs,k,e,ez,l,sM⟩|⟨kvs,k,b,e,ez,eB,l,sM⟩
 ·subst ez sM;obtain⟨z,hd,vs,rel,dd⟩:=Zip I.hok e;have bh:vs.length≤sizeLine:=by rw[←rel.length];exact z
  have ai:(hy kvs k v).length≤sizeLine:=by have:=ZaY kvs k v;omega
  refine wpAny_setItem_pairs (hsz:=bh) (sK cv) dd λh' dd' hs=>h _ ?_;have b':∃q,h'.get? a=some q:=let⟨q,_,_,cj,_⟩:=dd';⟨q,cj⟩
  exact Ze6 I (by rw[e];exact True.intro) hs b' (CD ai hd (rel.put k cW) dd')
 ·subst ez sM;cases (show u=Value.ref b from cv);obtain⟨z,hd,xs,rel,dd⟩:=Zkr I.hok e;have bh:xs.length≤sizeLine:=by rw[←Paired.length rel];exact z
  have ai:(hy kvs k v).length≤sizeLine:=by have:=ZaY kvs k v;omega
  refine wpAny_setItem_heap (hsz:=bh) (tupleKind_room_in1 hu) (sL I.hok eB) dd λh' dd' hs=>h _ ?_;obtain⟨q,a',ep,cj,av,b_,cA,_,dt⟩:=dd';refine Ze6 I (by rw[e];exact True.intro) hs ⟨q,cj⟩ ⟨ai,hd,_,(rel.put k eB cW).keeps λc ys iv=>?_,q,a',ep,cj,av,b_,cA,dt⟩;rw[bJ (hJ iv e (λz=>nomatch z))];exact iv
end
section
variable {X:Cx}{ah:List (Addr×Obj)}{σ:St}{H:Hp}{s:Shared}{a:Addr}{kvs:List (Key×V)}{k:Key}{u:Value}{A:Around}{E:Value→Shared→Prop}
theorem ZkG{Q:Value→Shared→Prop}(I:Inv X ah σ H s)(e:Rd H a (.dK kvs))(h:∀t s',Inv X ah σ H s'→Q (.int kvs.length t) s'):wpAny (model X.prog X.w) A (call (.builtin "len") [.ref a]) Q E s:=by
 obtain⟨z,hd,vs,rel,dd⟩:=Zf9 I.hok e;refine call_len_dict hd dd (by rw[←rel.length];rw[sizeLine_eq] at z;omega) ?_;rw[←rel.length];exact h _ _ (I.tok _)
end
section
variable {X:Cx}{o i e value:Expr}{pos iR jr:Pos}{CF ty gF:TE}
end
theorem CG{P:Program}{w:World}{H:Hp}(h:Heap)(am:sysModules<h.objs.size):ZW P w H (h.push {cls:= .type "dict",data:= .dict #[]}) h.objs.size (.dK []):=
 ⟨Qx _,beq_eq_false_iff_ne.mpr (GE (Qs am)),[],.nil,Heap.DictOf.new h⟩
noncomputable def tDNewK:TE:=λ_ H Q=>∀p,H p=none→Q (.ref p) (upd H p (.dK []))
section
variable {X:Cx}{pos:Pos}
theorem CH:PE X (.Dict [] [] pos) tDNewK:=λah s σ H Q I h=>
 wpAny_Dict_empty ⟨.ref s.heap.objs.size,_,I.laid (a:=s.heap.objs.size) (o:= .dK []) (t':=s.toks) (λ_ _ q=>Heap.get?_push_of_some _ q) (Qc _) (CG s.heap I.big),rfl,h _ (I.hok.fresh (Qc _))⟩
end
section
variable {X:Cx}{ah:List (Addr×Obj)}{σ:St}{H:Hp}{s:Shared}{a:Addr}{y d:V}{u r:Value}{o:Option V}{A:Around}{E:Value→Shared→Prop}
end
section
variable {X:Cx}{o e f:Expr}{ei fc:Pos}{CF ty Nq:TE}
end
section
variable {X:Cx}{ah:List (Addr×Obj)}{σ:St}{H:Hp}{s:Shared}{a:Addr}{kvs:List (Key×V)}{A:Around}{E:Value→Shared→Prop}
end
section
variable {X:Cx}{ah:List (Addr×Obj)}{σ:St}{H:Hp}{s:Shared}{a:Addr}{y:V}{u:Value}{A:Around}{E:Value→Shared→Prop}
end
section
variable {X:Cx}
theorem CI:Yv X (.builtin "len") (λxs H Q=>∃a kvs,xs=[V.ref a]∧H a=some (.dK kvs)∧Q (.int kvs.length) H):=by
 intro ah s σ H xs us Q I r h;obtain⟨a,kvs,rfl,aS,q⟩:=h;obtain⟨u,rfl,eY⟩:=WL r;cases eY;exact ZkG I (.inl aS) λt s' eA=>⟨.int kvs.length,H,eA,⟨t,rfl⟩,q⟩
end
section
variable {dU:Type}[DecidableEq dU]
end
namespace Rd
section
variable {σ:St}{H:Hp}{Q:VK}{D:WP}{t u:TS}{bn cQ cr:TE}{r:R2}
theorem var{i:Nat}{v:V}(h:σ[i]? =some (some v))(q:Q v H):Zed i σ H Q:=⟨v,h,q⟩
theorem con{v:V}(q:Q v H):tC v σ H Q:=q
theorem op(h:bn σ H λx ao=>cQ σ ao λy ar=>r x y ar Q):tOp r bn cQ σ H Q:=h
theorem un{r:V→Hp→VK→Prop}(h:bn σ H λx ao=>r x ao Q):tUn r bn σ H Q:=h
theorem i0{g:Int→Int→V}{i j:Int}(q:Q (g i j) H):rI0 g (.int i) (.int j) H Q:=⟨i,j,rfl,rfl,q⟩
theorem iC{C:Int→Int→Prop}{g:Int→Int→V}{i j:Int}(c:C i j)(q:Q (g i j) H):rI C g (.int i) (.int j) H Q:=⟨i,j,rfl,rfl,c,q⟩
theorem eqI{i j:Int}(q:Q (.bl (decide (i=j))) H):rEq (.int i) (.int j) H Q:=⟨rfl,by
 have e:decide (V.int i=V.int j)=decide (i=j):=by
  by_cases h:i=j
  ·rw[h];simp
  ·rw[decide_eq_false h,decide_eq_false (λz=>h (V.int.inj z))]
 rw[e];exact q⟩
theorem neI{i j:Int}(q:Q (.bl (!decide (i=j))) H):rNe (.int i) (.int j) H Q:=⟨rfl,by
 have e:decide (V.int i=V.int j)=decide (i=j):=by
  by_cases h:i=j
  ·rw[h];simp
  ·rw[decide_eq_false h,decide_eq_false (λz=>h (V.int.inj z))]
 rw[e];exact q⟩
theorem Zk7{Q:Bool→Hp→Prop}(h:cr σ H λx H'=>∃k,x= .bl k∧Q k H'):wo cr σ H Q:=h
theorem bl{k:Bool}{Q:Bool→Prop}(q:Q k):∃k',V.bl k= .bl k'∧Q k':=⟨k,rfl,q⟩
theorem seq(h:t {D with nx:=u D} σ H):sb t u D σ H:=h
theorem asg{g:TG}(h:cr σ H λx ao=>g x σ ao D.nx):oj cr g D σ H:=h
theorem ifs{c:TT}(h:c σ H λb ao=>if b=true then t D σ ao else u D σ ao):wd c t u D σ H:=h
theorem ret(h:cr σ H D.rt):wc cr D σ H:=h
theorem next(h:D.nx σ H):tNext D σ H:=h
theorem drop(h:cr σ H λ_ ao=>D.nx σ ao):wb cr D σ H:=h
theorem nil{Q:List V→Hp→Prop}(h:Q [] H):tNil σ H Q:=h
theorem cons{iW:TA}{Q:List V→Hp→Prop}(h:bn σ H λx ao=>iW σ ao λxs ar=>Q (x::xs) ar):wv bn iW σ H Q:=h
theorem call{sp:Sp}{dy:List V}{E:XK}{cJ:TA}(h:cJ σ H λvs ao=>sp (vs++dy) ao Q E):qe sp dy E cJ σ H Q:=h
theorem cb{r:List V→Hp→VK→Prop}{cJ:TA}(h:cJ σ H λvs ao=>r vs ao Q):tCB r cJ σ H Q:=h
theorem tup{cJ:TA}(h:cJ σ H λxs ao=>xs.length≤sizeLine∧∀p,ao p=none→Q (.ref p) (upd ao p (.tup xs))):ww cJ σ H Q:=h
theorem lst{cJ:TA}(h:cJ σ H λxs ao=>xs.length≤sizeLine∧∀p,ao p=none→Q (.ref p) (upd ao p (.lst xs))):wx cJ σ H Q:=h
theorem Zla{t u:TT}{Q:Bool→Hp→Prop}(h:t σ H λc ao=>if c=true then u σ ao Q else Q false ao):v9 t u σ H Q:=h
theorem or_{t u:TT}{Q:Bool→Hp→Prop}(h:t σ H λc ao=>if c=true then Q true ao else u σ ao Q):tOr t u σ H Q:=h
theorem Zlx{t:TT}{Q:Bool→Hp→Prop}(h:t σ H λc ao=>Q (!c) ao):v_ t σ H Q:=h
theorem Zln(h:bn σ H λx ao=>∃c,x= .bl c∧if c=true then cQ σ ao Q else Q (.bl false) ao):v' bn cQ σ H Q:=h
theorem Zlf(h:bn σ H λx ao=>∃c,x= .bl c∧Q (.bl (!c)) ao):wa bn σ H Q:=h
end
end Rd
section
variable {X:Cx}
theorem CJ:OpR X (binaryOp .Mult) (rI (λi j=>IntMulOk i j) λi j=> .int (i*j)):=opI λ_ _ _ _ _ _ _ aG q=>mul_int q aG
theorem fJ:OpR X (binaryOp .FloorDiv) (rI (λ_ j=>0<j∧j.natAbs.log2<9000) λi j=> .int (i / j)):=opI λi j _ _ _ _ _ aG q=>by
 rw[←Int.fdiv_eq_ediv_of_nonneg i (Int.le_of_lt aG.1)] at q;exact floordiv_int (by have:=aG.1;omega) q (.inl (PyProof.noPylong_of_log2 aG.2))
theorem CK:Yv X (.builtin "isinstance") (λxs H Q=>∃x n t b,xs=[x,.ty n]∧Wm X.K H x t∧PySem.W.kitOne X.K t (.type n)=some b∧Q (.bl b) H):=by
 intro ah s σ H xs us Q I r h;obtain⟨x,n,t,b,rfl,ty,e,q⟩:=h;obtain⟨u,v,rfl,eY,cW⟩:=r.two;obtain rfl:v=Value.type n:=cW;exact Zgr I eY ty e λdI=>⟨.bl b,H,I.tok dI,rfl,q⟩
theorem ZjM{c:TT}{cQ:TS}{D:WP}{σ:St}{H:Hp}(W:Nat→St→Hp→Prop)(m:Nat)(c7:W m σ H)
  (hs:∀m σ H,W m σ H→c σ H λb ao=>if b=true then ∃N:St→Hp→Prop,(∀aW H',N aW H'→∃cn,cn<m∧W cn aW H')∧cQ {D with nx:=N,ct:=N,bk:=D.nx} σ ao else D.nx σ ao):wj c cQ D σ H:=
 ⟨W,⟨m,c7⟩,hs⟩
theorem Zkv{W:Nat→St→Hp→Prop}{m:Nat}{cQ:TS}{D:WP}{σ:St}{ao:Hp}
  (h:cQ {D with nx:=λaW H'=>∃cn,cn<m∧W cn aW H',ct:=λaW H'=>∃cn,cn<m∧W cn aW H',bk:=D.nx} σ ao):
  ∃N:St→Hp→Prop,(∀aW H',N aW H'→∃cn,cn<m∧W cn aW H')∧cQ {D with nx:=N,ct:=N,bk:=D.nx} σ ao:=⟨_,λ_ _ z=>z,h⟩
noncomputable def wQ (t:TS):TS:=λD σ H=>∃J:St→Hp→Prop,(∀aW H',J aW H'→D.nx aW H')∧t {D with nx:=J} σ H
theorem lY{st:Stmt}{t:TS}(h:PS X st t):PS X st (wQ t):=by
 intro ah s σ H D I cj;obtain⟨J,j9,q⟩:=cj;refine thn (h ah s σ H _ I q) λf aB cz=>?_;cases f with
 |next=>obtain⟨aW,H',eA,j⟩:=cz;exact⟨aW,H',eA,j9 _ _ j⟩
 |brk=>exact cz
 |cont=>exact cz
 |ret v=>exact cz
end
namespace Rd
theorem Zij{A B:Prop}(h:B):if(!true)=true then A else B:=ZdD h
theorem Zh8{A B:Prop}(h:A):if(!false)=true then A else B:=ZdI h
section
variable {σ:St}{H:Hp}{Q:VK}{D:WP}{t u:TS}{bn cQ cr:TE}
theorem cut(J:St→Hp→Prop)(j9:∀aW H',J aW H'→D.nx aW H')(h:t {D with nx:=J} σ H):wQ t D σ H:=⟨J,j9,h⟩
theorem Zk4{eg:TI}{g:TG}{cQ:TS}(h:eg σ H λJ ao=>∃W:Nat→Nat→St→Hp→Prop,(∃m,W 0 m σ ao)∧∀i m σ H,W i m σ H→
  (J.stop i H∧D.nx σ H)∨(J.go i H∧∃N:St→Hp→Prop,(∀aW H',N aW H'→∃cn,cn<m∧W (i+1) cn aW H')∧∀x H',J.yld i H x H'→g x σ H' λcB ar=>cQ {D with nx:=N,ct:=N,bk:=D.nx} cB ar)):wl eg g cQ D σ H:=h
theorem Zll{cJ:TA}{R:It→Hp→Prop}(h:cJ σ H λvs ao=>∃j:Int,vs=[.int j]∧ -(2 ^ 62)≤j∧j<2 ^ 62∧R (Itr 0 j.toNat) ao):wk cJ σ H R:=h
theorem Wu{K:Frag}{n:Nat}{cJ:TGs}{a:Addr}{xs:List V}{Q:St→Hp→Prop}(hs:SqT K H a xs)(bL:xs.length=n)(h:cJ xs σ H Q):sc K n cJ (.ref a) σ H Q:=⟨a,xs,rfl,hs,bL,h⟩
theorem Zlv{Q:St→Hp→Prop}(h:Q σ H):gNil [] σ H Q:=⟨rfl,h⟩
theorem ZkM{g:TG}{hb:TGs}{v:V}{r:List V}{Q:St→Hp→Prop}(h:g v σ H λaW H'=>hb r aW H' Q):we g hb (v::r) σ H Q:=⟨v,r,rfl,h⟩
end
end Rd
theorem cF{H:Hp}{p:Addr}{o:HO}(a1:H p=none):Zc H (upd H p o):=λc u e=>by rw[bJ (dG e a1)];exact e
theorem Zc.new{H H':Hp}{q:Addr}{o:HO}(aI:Zc H H')(cj:H q=none):Zc H (upd H' q o):=λc u e=>by rw[bJ (dG e cj)];exact aI c u e
theorem Zc.seqT{K:Frag}{H H':Hp}{a:Addr}{xs:List V}(e:Zc H H')(h:SqT K H a xs):SqT K H' a xs:=by
 rcases h with(h|⟨o,h⟩)|h
 ·exact .inl (.inl (e _ _ h))
 ·exact .inl (.inr ⟨o,e _ _ h⟩)
 ·exact .inr h
namespace Rd
section
variable {σ:St}{H:Hp}{Q:VK}{D:WP}{K:Frag}
theorem ixt{p:Addr}{xs:List V}{i:Int}{v:V}(h:SqT K H p xs)(e:atI xs i=some v)(q:Q v H):sA K (.ref p) (.int i) H Q:=⟨p,xs,i,v,rfl,rfl,h,e,q⟩
theorem ixl{p:Addr}{xs:List V}{i:Int}{v:V}(h:SqL K H p xs)(e:atI xs i=some v)(q:Q v H):Zcg K (.ref p) (.int i) H Q:=⟨p,xs,i,v,rfl,rfl,h,e,q⟩
theorem bm{T:String}{r:V→List V→Hp→VK→Prop}{to:TE}{t:TA}(h:to σ H λx ao=>tyV K T x ao∧t σ ao λxs ar=>r x xs ar Q):tBM K T r to t σ H Q:=h
theorem bm0{T:String}{r:V→List V→Hp→VK→Prop}{to:TE}(h:to σ H λx ao=>tyV K T x ao∧r x [] ao Q):sB K T r to σ H Q:=h
theorem tyl{p:Addr}{xs:List V}{B:Prop}(h:H p=some (.lst xs))(q:B):tyV K "list" (.ref p) H∧B:=⟨.inl ⟨rfl,xs,.of h⟩,q⟩
theorem app{p:Addr}{xs:List V}{y:V}(h:H p=some (.lst xs))(ai:xs.length<sizeLine)(q:Q .non (upd H p (.lst (xs++ [y])))):rAppend (.ref p) [y] H Q:=⟨p,xs,y,rfl,rfl,h,ai,q⟩
end
end Rd
noncomputable def emb (ix:List Nat) (σ:St):St:=none::ix.map λj=>(σ[j]?).join
noncomputable def Zl (X:Cx) (bo:Scope) (cl:List (Str×Addr)) (C:Addr) (N:List Str) (s:Shared) (H:Hp) (fp:List Addr):Cx where
 prog:=X.prog
 w:=X.w
 K:=X.K
 mg:=X.mg
 base:=X.base
 A:=X.A
 N:=N
 s₀:=s
 H₀:=H
 env:=compEnvC bo cl C X.env
 outer:=X.stack
 stack:=X.stack
 ex:=fp
 fn:=λ_=>false
 calm:=X.calm
 pn:=[]
 xe:=λ_ _=>False
structure YR(X:Cx)(bo:Scope)(x:Str)(zs:List Str)(ix:List Nat):Prop where
 kind:bo.kind= .function
 nocell:∀y∈bo.names,y.2≠ .cell
 names:∀y∈bo.names,y.2= .local→bo.names.lookup y.1=some .local
 free:∀y∈bo.names,y.2= .free→X.env.kindOf y.1=some .cell∨X.env.kindOf y.1=some .free
 zfree:∀z∈zs,bo.names.lookup z=some .free
 at_:ix.map (λj=>X.N[j]?)=zs.map some
theorem Wp{env:Env}{x:Str}:∀{names:List (Str×NameKind)}{k:NameKind},
  (names.map λ(n,k)=>if(k==NameKind.free&&env.scope.kind== .function&&env.kindOf n==some .cell) then(n,NameKind.cell) else(n,k)).lookup x=some k→
  ∃k',names.lookup x=some k'∧(k=k'∨(k'= .free∧k= .cell))
 | [],_,h=>by simp at h
 |(n,j)::r,k,h=>by
  have h':List.lookup x ((if(j==NameKind.free&&env.scope.kind== .function&&env.kindOf n==some .cell)=true then(n,NameKind.cell) else(n,j))::(r.map λ(n,k)=>if(k==NameKind.free&&env.scope.kind== .function&&env.kindOf n==some .cell) then(n,NameKind.cell) else(n,k)))=some k:=h;cases al:x==n with
  |true=>
   refine⟨j,by simp[QV,al],?_⟩
   by_cases aG:(j==NameKind.free&&env.scope.kind== .function&&env.kindOf n==some .cell)=true
   ·rw[if_pos aG] at h';simp only[QV,al] at h';cases h';simp only[fm,beq_iff_eq] at aG;exact .inr ⟨aG.1.1,rfl⟩
   ·rw[if_neg aG] at h';simp only[QV,al] at h';cases h';exact .inl rfl
  |false=>
   have av:List.lookup x (r.map λ(n,k)=>if(k==NameKind.free&&env.scope.kind== .function&&env.kindOf n==some .cell) then(n,NameKind.cell) else(n,k))=some k:=by
    by_cases aG:(j==NameKind.free&&env.scope.kind== .function&&env.kindOf n==some .cell)=true
    ·rw[if_pos aG] at h';simpa only[QV,al] using h'
    ·rw[if_neg aG] at h';simpa only[QV,al] using h'
   obtain⟨k',e,q⟩:=Wp av;exact⟨k',by simp only[QV,al];exact e,q⟩
theorem kG{x:Str}{k:NameKind}:∀{names:List (Str×NameKind)},names.lookup x=some k→(x,k)∈names:=λh=>GM h
theorem Ut(env:Env):∀(names:List (Str×NameKind))(ds:List (Str×Addr)),
  (∀y∈names,y.2= .free→∃c,env.cells.lookup y.1=some c)→(∀y c,ds.lookup y=some c→env.cells.lookup y=some c)→
  ∃cl:List (Str×Addr),(forIn names ds (λx (r:List (Str×Addr))=>if x.2==NameKind.free then(do let a←cellOf env x.1;pure (ForInStep.yield ((x.1,a)::r))) else pure (ForInStep.yield r)):Sem (List (Str×Addr)))=pure cl∧
   (∀y c,cl.lookup y=some c→env.cells.lookup y=some c)∧(∀y,(∃c,ds.lookup y=some c)∨(y,NameKind.free)∈names→∃c,cl.lookup y=some c)
 | [],ds,_,aS=>⟨ds,rfl,aS,λy h=>h.elim id λz=>absurd z (by simp)⟩
 |(n,k)::r,ds,aX,aS=>by
  have au:∀y∈r,y.2= .free→∃c,env.cells.lookup y.1=some c:=λy cx=>aX y (QB _ cx)
  by_cases aA:k= .free
  ·subst aA;obtain⟨c,aG⟩:=aX (n,.free) QM rfl;have dE:∀y dZ,((n,c)::ds).lookup y=some dZ→env.cells.lookup y=some dZ:=λy dZ h=>by
    cases cx:y==n with
    |true=>
     simp only[QV,cx] at h;cases h;rw[beq_iff_eq.mp cx];exact aG
    |false=>
     simp only[QV,cx] at h;exact aS y dZ h
   obtain⟨cl,e,aq,av⟩:=Ut env r ((n,c)::ds) au dE;refine⟨cl,?_,aq,λy h=>av y ?_⟩
   ·rw[List.forIn_cons];have:cellOf env n=pure c:=by unfold cellOf;rw[aG]
    simp only[beq_self_eq_true,if_true,this];exact e
   ·rcases h with⟨dZ,h⟩|h
    ·cases cx:y==n with
     |true=>exact .inl ⟨c,by simp only[QV,cx]⟩
     |false=>exact .inl ⟨dZ,by simp only[QV,cx];exact h⟩
    ·rcases Qe.mp h with h|h
     ·cases h;exact .inl ⟨c,by simp⟩
     ·exact .inr h
  ·obtain⟨cl,e,aq,av⟩:=Ut env r ds au aS;refine⟨cl,?_,aq,λy h=>av y ?_⟩
   ·rw[List.forIn_cons];have am:(k==NameKind.free)=false:=by simpa using aA
    simp only[am,Bool.false_eq_true,if_false];exact e
   ·rcases h with h|h
    ·exact .inl h
    ·rcases Qe.mp h with h|h
     ·cases h;exact absurd rfl aA
     ·exact .inr h
def PIf(X:Cx)(ifs:List Expr)(t:TT):Prop:=
 ∀(ah:List (Addr×Obj))(s:Shared)(σ:St)(H:Hp)(Q:Bool→Hp→Prop),Inv X ah σ H s→t σ H Q→
  wpAny (model X.prog X.w) X.A (forIn ifs true λc r=>if r=true then do let ok←isTrue c X.env (eval c X.env);pure (ForInStep.yield ok) else pure (ForInStep.yield r)) (TP X ah σ Q) X.xe s
noncomputable def tAll:TT:=λ_ H Q=>Q true H
section
variable {X:Cx}
theorem fR:PIf X [] tAll:=λ_ _ _ H _ I h=>wpAny_pure ⟨H,I,h⟩
theorem oK{c:Expr}{t:TT}(aG:PT X c t):PIf X [c] t:=by
 intro ah s σ H Q I h;rw[List.forIn_cons];simp only[if_true];refine wpAny_bind (wpAny_bind (thn (aG ah s σ H _ I h) λb aB q=>wpAny_pure ?_));exact wpAny_pure q
end
section
variable {prog:Program}{w:World}{A:Around}{R:Result→Shared→Prop}{s:Shared}
theorem UZ{fC target ev:Expr}{ifs:List Expr}{scope:Scope}{pos:Pos}{it ds:Value}{env:Env}(I:Nat→Shared→Prop)
  (turn:∀n s,I n s→wpAny (model prog w) A (pyNext it) (λr dr=>match r with
   |none=>R (.ok .next) dr
   |some v=>wpAny (model prog w) A (letOwnedTupleGo target it v) (λ_ s₀=>wpAny (model prog w) A (assign target env v) (λ_ iQ=>
     wpAny (model prog w) A (forIn ifs true λc r=>if r=true then do let ok←isTrue c env (eval c env);pure (ForInStep.yield ok) else pure (ForInStep.yield r)) (λok h5=>
      if ok=true then wpAny (model prog w) A (eval fC env) (λx m4=>
       wpAny (model prog w) A (call (.builtin "list.append") [ds,x]) (λ_ wR=>∃m,m<n∧I m wR) (λ_ _=>False) m4) (λ_ _=>False) h5
      else ∃m,m<n∧I m h5) (λ_ _=>False) iQ) (λ_ _=>False) s₀) (λ_ _=>False) dr) (λ_ _=>False) s)
  (n:Nat) (h:I n s):
  codeAny (model prog w) A (.compLoop (.ListComp fC [⟨target,ev,ifs,0⟩] scope pos) 0 it ds env) R s:=by
 refine codeAny_loop rfl I (λn s CL=>?_) n h;show wpAny _ A ((compTurn (.ListComp fC [⟨target,ev,ifs,0⟩] scope pos) 0 it ds env).onRaise (λx=>do noteFrame x env;theTreesLotGoes x)) _ _ s;refine wpAny_noted ?_;rw[compTurn_list];refine wpAny_bind (wpAny_standAt (wpAny_bind (wpAny_mono (turn n s CL) (λr dr h₁=>?_) λ_ _ z=>z.elim)));cases r with
 |none=>exact wpAny_pure h₁
 |some v=>
  refine wpAny_bind (wpAny_mono h₁ (λ_ s₀ h₀=>?_) λ_ _ z=>z.elim);refine wpAny_bind (wpAny_mono h₀ (λ_ iQ sN=>wpAny_bind (wpAny_mono sN (λok h5 wS=>?_) λ_ _ z=>z.elim)) λ_ _ z=>z.elim);cases ok with
  |false=>exact wpAny_pure ⟨rfl,wS⟩
  |true=>
   exact wpAny_bind (wpAny_bind (wpAny_mono wS (λx m4 wT=>wpAny_bind (wpAny_mono wT (λ_ wR sO=>wpAny_pure (wpAny_pure ⟨rfl,sO⟩)) λ_ _ z=>z.elim)) λ_ _ z=>z.elim))
end
noncomputable def qo (ix:List Nat) (eg:TI) (g:TG) (di:TT) (cr:TE):TE:=λσ H Q=>eg σ H λJ ao=>∀p,ao p=none→
 ∃W:Nat→Nat→List V→St→Hp→Prop,(∃m,W 0 m [] (emb ix σ) (upd ao p (.lst [])))∧∀i m ys aW H',W i m ys aW H'→
  (J.stop i H'∧Q (.ref p) H')∨(J.go i H'∧∀x ar,J.yld i H' x ar→g x aW ar λcB a2=>di cB a2 λb a3=>
   if b=true then cr cB a3 λv bH=>bH p=some (.lst ys)∧ys.length<sizeLine∧∃cn,cn<m∧W (i+1) cn (ys++ [v]) cB (upd bH p (.lst (ys++ [v])))
   else ∃cn,cn<m∧W (i+1) cn ys cB a3)
section
variable {X:Cx}
theorem ZfB{ah:List (Addr×Obj)}{σ:St}{H:Hp}{s:Shared}{bo:Scope}{x:Str}{zs:List Str}{ix:List Nat}{cl:List (Str×Addr)}{fp:List Addr}{h₁:Heap}{dI:Nat}
  (S:YR X bo x zs ix) (I:Inv X ah σ H s) (fr:∀y c,cl.lookup y=some c→X.env.cells.lookup y=some c) (gR:∀y,(y,NameKind.free)∈bo.names→∃c,cl.lookup y=some c)
  (gS:∀b∈fp,f5 X ah H b∧b<s.heap.objs.size) (m2:h₁.Ns s.heap.objs.size λ_=>none) (aA:∀b o,s.heap.get? b=some o→h₁.get? b=some o):
  Inv (Zl X bo cl s.heap.objs.size (x::zs) s H fp) [] (emb ix σ) H {s with heap:=h₁,toks:=dI}:=by
 have sub:∀b∈frs X.stack,b∈X.env.locals::X.fs:=I.stkSub;have sP:∀b∈fp,b∉frs X.stack:=λb am z=>by
  obtain⟨⟨_,f1,f2,_⟩,_⟩:=gS b am;rcases Qe.mp (sub b z) with e|e
  ·exact f1 e
  ·exact f2 e
 have cut:∀y,(Zl X bo cl s.heap.objs.size (x::zs) s H fp).env.kindOf y=some .cell∨(Zl X bo cl s.heap.objs.size (x::zs) s H fp).env.kindOf y=some .free→∃c,cl.lookup y=some c:=λy cx=>by
  have q:∃k,(relabel bo X.env).names.lookup y=some k∧(k= .cell∨k= .free):=by
   rcases cx with cx|cx
   ·exact⟨_,cx,.inl rfl⟩
   ·exact⟨_,cx,.inr rfl⟩
  obtain⟨k,e,aA⟩:=q;obtain⟨k',cm,q⟩:=Wp e;have:k'= .free:=by
   rcases q with q|⟨q,_⟩
   ·rcases aA with z|z
    ·exact absurd (q.symm.trans z) (S.nocell _ (kG cm))
    ·exact q.symm.trans z
   ·exact q
  subst this;exact gR y (kG cm)
 refine⟨⟨I.ok.mod,S.kind,I.ok.glob,I.ok.blt,Qc _,λy z c aq av=>I.ok.inj y z c (fr _ _ aq) (fr _ _ av),cut,λy c aX _=>?_,I.ok.hd,I.ok.frames,.inl rfl,λb am=>?_,I.bs,Qv I.ok.bsz I.sz,λb o e am=>?_,sP,I.stack,I.stkFree⟩,
  rfl,I.bare,Un.kept aA,⟨_,m2,λi y v aq av b_=>?_⟩,λy c h=>?_,I.hok.fresh (Qc _),λy c h=>I.freeC y c (fr y c h),λp a1=>absurd (show p∈([]:List (Addr×Obj)) from a1) (by simp),I.hok.kept aA,?_⟩
 ·exact absurd (show false=true from aX) (by decide)
 ·obtain⟨⟨ew,f1,f2,cX,c9,d1⟩,ai⟩:=gS b am;exact⟨Qs ai,λy c h=>c9 y c (fr y c h)⟩
 ·obtain⟨⟨ew,f1,f2,cX,c9,d1⟩,ai⟩:=gS b am;rcases cX with z|z
  ·exact I.ok.noex b o e z
  ·exact absurd (Qu (Heap.lt_size e) (Qv I.ok.bsz z)) (QU _)
 ·
  cases i with
  |zero=>
   have:(none:Option (Option V))=some (some v)∨(some none:Option (Option V))=some (some v):= .inr av;rcases this with z|z<;>cases z
  |succ i=>
   have jx:zs[i]? =some y:=aq;have gq:(ix.map λj=>(σ[j]?).join)[i]? =some (some v):=av;have aS:(ix.map λj=>X.N[j]?)[i]? =some (some y):=by rw[S.at_,Qp,jx];rfl
   rw[Qp] at gq aS;cases e:ix[i]? with
   |none=>rw[e] at gq;cases gq
   |some j=>
    rw[e] at gq aS;have dE:X.N[j]? =some y:=Qq aS;have aU:(σ[j]?).join=some v:=Qq gq;have oL:σ[j]? =some (some v):=by
     cases q:σ[j]? with
     |none=>rw[q] at aU;cases aU
     |some o=>rw[q] at aU;exact congrArg some aU
    obtain⟨m,bL,ai⟩:=I.loc;have e3:=S.zfree y (Q9 jx);have j6:=S.free _ (kG e3) rfl;have cH:Vis X.env.scope y:=by
     rcases j6 with z|z
     ·exact .inr (.inl z)
     ·exact .inr (.inr z)
    obtain⟨u,r,q⟩:=ai j y v dE oL cH;refine⟨u,r,?_⟩;rcases q with⟨sQ,_⟩|⟨_,c,aG,kt⟩
    ·have oM:X.env.kindOf y=some .local:=sQ;rcases j6 with z|z<;>(rw[z] at oM;cases oM)
    ·obtain⟨dZ,jX⟩:=gR y (kG e3);have iv:dZ=c:=by have:=fr y dZ jX;rw[aG] at this;exact(Qq this).symm
     subst iv;refine .inr ⟨?_,dZ,jX,?_⟩
     ·have sR:Vis (relabel bo X.env) y:=b_;rcases sR with z|z|z
      ·obtain⟨k',cm,q⟩:=Wp z;rw[e3] at cm;cases cm;rcases q with q|⟨_,q⟩<;>cases q
      ·exact .inl z
      ·exact .inr z
     ·obtain⟨o,a_,hd⟩:=kt;exact⟨o,aA _ _ a_,hd⟩
 ·obtain⟨v,o,a_,hd⟩:=I.cell y c (fr y c h);exact⟨v,o,aA _ _ a_,hd⟩
 ·show(none::ix.map λj=>(σ[j]?).join).length=(x::zs).length;have:=congrArg List.length S.at_;simp only[Qb] at this;simp only[List.length_cons,Qb,this]
structure Zdq(ok:Cx→Prop)(P:Program)(w:World)(K:Frag)(cM:Expr)(J:It)(fp:List Addr)(it:Addr)(dQ:Nat→Heap→Prop):Prop where
 obj:∀i h,dQ i h→∀b∈fp,∃o,h.get? b=some o∧∀v,o.data≠ .cell v
 keep:∀i h h',dQ i h→(∀b∈fp,∀o,h.get? b=some o→h'.get? b=some o)→dQ i h'
 item:∀(X:Cx),X.prog=P→X.w=w→X.K=K→ok X→∀(i:Nat)(ah:List (Addr×Obj))(s:Shared)(σ:St)(H:Hp)(E:Value→Shared→Prop),Inv X ah σ H s→(∀b∈fp,f5 X ah H b)→dQ i s.heap→J.go i H→
  wpAny (model P w) X.A (pyNext (.ref it)) (λr aB=>∃u,r=some u∧
   wpAny (model P w) X.A (letOwnedTupleGo cM (.ref it) u) (λ_ bc=>∃x H',Inv X ah σ H' bc∧cO x u∧J.yld i H x H'∧dQ (i+1) bc.heap∧∀b∈fp,H' b=none) E aB) E s
 done:∀(X:Cx),X.prog=P→X.w=w→X.K=K→ok X→∀(i:Nat)(ah:List (Addr×Obj))(s:Shared)(σ:St)(H:Hp)(E:Value→Shared→Prop),Inv X ah σ H s→(∀b∈fp,f5 X ah H b)→dQ i s.heap→J.stop i H→
  wpAny (model P w) X.A (pyNext (.ref it)) (λr aB=>r=none∧Inv X ah σ H aB) E s
 self:∀(A:Around)(i:Nat)(s:Shared)(Q:Value→Shared→Prop)(E:Value→Shared→Prop),dQ i s.heap→Q (.ref it) s→wpAny (model P w) A (pyIter (.ref it)) Q E s
theorem V1.c{P:Program}{w:World}{K:Frag}{cM:Expr}{J:It}{fp:List Addr}{it:Addr}{dQ:Nat→Heap→Prop}(T:V1 P w K cM J fp it dQ):Zdq (λX=>X.calm=true) P w K cM J fp it dQ:=
 ⟨T.obj,T.keep,T.item,T.done,T.self⟩
def wU(X:Cx)(ah:List (Addr×Obj))(σ:St)(Q:VK)(ds:Value)(C:Addr)(s':Shared):Prop:=
 ∃p H' m,ds=Value.ref p∧s'.heap.Ns C m∧Inv X ah σ H' s'∧f5 X ah H' C∧Q (.ref p) H'
theorem ZbM{ah:List (Addr×Obj)}{σ:St}{H:Hp}{s:Shared}{bo:Scope}{x:Str}{zs:List Str}{ix:List Nat}{cl:List (Str×Addr)}{fp:List Addr}{it:Addr}{dQ:Nat→Heap→Prop}{J:It}
  {fC cM ev:Expr} {ifs:List Expr} {pos:Pos} {g:TG} {di:TT} {cr:TE} {Q:VK} {E:Value→Shared→Prop} {RR:Value→Addr→Result→Shared→Prop} {wV:Cx→Prop}
  (aG:∀C N s H,wV (Zl X bo cl C N s H fp)) (S:YR X bo x zs ix) (I:Inv X ah σ H s) (fr:∀y c,cl.lookup y=some c→X.env.cells.lookup y=some c) (gR:∀y,(y,NameKind.free)∈bo.names→∃c,cl.lookup y=some c)
  (T:Zdq wV X.prog X.w X.K cM J fp it dQ) (st:dQ 0 s.heap) (gS:∀b∈fp,f5 X ah H b)
  (h8:∀C s H,PG (Zl X bo cl C (x::zs) s H fp) cM g∧PIf (Zl X bo cl C (x::zs) s H fp) ifs di∧PE (Zl X bo cl C (x::zs) s H fp) fC cr)
  (cj:∀p,H p=none→∃W:Nat→Nat→List V→St→Hp→Prop,(∃m,W 0 m [] (emb ix σ) (upd H p (.lst [])))∧∀i m ys aW H',W i m ys aW H'→
   (J.stop i H'∧Q (.ref p) H')∨(J.go i H'∧∀x ar,J.yld i H' x ar→g x aW ar λcB a2=>di cB a2 λb a3=>
    if b=true then cr cB a3 λv bH=>bH p=some (.lst ys)∧ys.length<sizeLine∧∃cn,cn<m∧W (i+1) cn (ys++ [v]) cB (upd bH p (.lst (ys++ [v])))
    else ∃cn,cn<m∧W (i+1) cn ys cB a3))
  (c2:∀ds C f s',wU X ah σ Q ds C s'→RR ds C (.ok f) s'):
  wpAny (model X.prog X.w) X.A (newList []) (λds h5=>wpAny (model X.prog X.w) X.A (newFunctionEnv bo X.env.globals cl [] X.env.qual none .none (some X.env)) (λoN m4=>
   codeAny (model X.prog X.w) X.A (.compStart (.ListComp fC [⟨cM,ev,ifs,0⟩] bo pos) 0 (.ref it) ds {oN with scope:=relabel bo X.env}) (RR ds oN.locals) m4) E h5) E s:=by
 refine wpAny_newObj_type (wpAny_newFunctionEnv S.nocell (by intro y cx;simp at cx) (λh₁ hns₁ oO=>?_) S.kind);have ef:Inv X ah σ (upd H s.heap.objs.size (.lst [])) {s with heap:=s.heap.push {cls:= .type "list",dict:=none,data:= .seq ([]:List Value).toArray}}:=I.lnew (its:=[]) (ys:=[]) (t':=s.toks) .nil (Qx _);dsimp only at hns₁ oO⊢;obtain⟨W,⟨j0,dD⟩,turn⟩:=cj s.heap.objs.size (I.hok.fresh (Qc _));have lt:∀b∈fp,b<s.heap.objs.size:=λb am=>by
  obtain⟨o,e,_⟩:=T.obj 0 s.heap st b am;exact Heap.lt_size e
 have sS:∀b∈fp,∀o,(upd H s.heap.objs.size o) b=H b:=λb am o=>bJ (Qs (lt b am));have kp:∀b o,(s.heap.push {cls:= .type "list",dict:=none,data:= .seq ([]:List Value).toArray}).get? b=some o→h₁.get? b=some o:=λb o e=>
  oO.extBut b o (Qs (Heap.lt_size e)) (Heap.get?_push_of_some _ e)
 have cX:∀b∈fp,f5 X ah (upd H s.heap.objs.size (.lst [])) b∧b<(s.heap.push {cls:= .type "list",dict:=none,data:= .seq ([]:List Value).toArray}).objs.size:=λb am=>by
  obtain⟨oP,q⟩:=gS b am;refine⟨⟨(sS b am _).trans oP,q⟩,?_⟩;rw[Heap.size_push];exact RG (lt b am)
 generalize kH:({s with heap:=s.heap.push {cls:= .type "list",dict:=none,data:= .seq ([]:List Value).toArray}}:Shared)=be at ef;have oQ:s.heap.push {cls:= .type "list",dict:=none,data:= .seq ([]:List Value).toArray}=be.heap:=by rw[←kH]
 rw[oQ] at kp cX hns₁⊢;have kz:dQ 0 h₁:=T.keep 0 _ _ st λb _ o e=>kp b o (by rw[←oQ];exact Heap.get?_push_of_some _ e);have j_:Inv (Zl X bo cl be.heap.objs.size (x::zs) be (upd H s.heap.objs.size (.lst [])) fp) [] (emb ix σ) (upd H s.heap.objs.size (.lst [])) {be with heap:=h₁,toks:=be.toks}:=
  ZfB S ef fr gR cX hns₁ kp
 obtain⟨ci,sT,b'⟩:=h8 be.heap.objs.size be (upd H s.heap.objs.size (.lst []));have lZ:∀{H':Hp},(∀b∈fp,H' b=none)→∀b∈fp,f5 (Zl X bo cl be.heap.objs.size (x::zs) be (upd H s.heap.objs.size (.lst [])) fp) [] H' b:=λ{H'} bL b am=>
  ⟨bL b am,(j_.ok.exf b am).1,j_.ok.exfs b am,.inl am,(j_.ok.exf b am).2,λp a1=>absurd (show p∈([]:List (Addr×Obj)) from a1) (by simp)⟩
 have oR:∀cp:Shared,cp={be with heap:=h₁,toks:=be.toks}→
   codeAny (model X.prog X.w) X.A (.compLoop (.ListComp fC [⟨cM,ev,ifs,0⟩] bo pos) 0 (.ref it) (.ref s.heap.objs.size) (compEnvC bo cl be.heap.objs.size X.env)) (RR (.ref s.heap.objs.size) be.heap.objs.size) cp:=by
  rintro cp rfl;refine UZ (λn s'=>∃i ys aW H',Inv (Zl X bo cl be.heap.objs.size (x::zs) be (upd H s.heap.objs.size (.lst [])) fp) [] aW H' s'∧dQ i s'.heap∧(∀b∈fp,H' b=none)∧W i n ys aW H') ?_ j0
   ⟨0,[],emb ix σ,_,j_,kz,λb am=>(cX b am).1.1,dD⟩
  rintro n cK ⟨i,ys,j',bH,hN,j3,hP,oS⟩;rcases turn i n ys j' bH oS with⟨stop,lL⟩|⟨go,step⟩
  ·refine thn (T.done (Zl X bo cl be.heap.objs.size (x::zs) be (upd H s.heap.objs.size (.lst [])) fp) rfl rfl rfl (aG _ _ _ _) i [] cK j' bH _ hN (lZ hP) j3 stop) λr d3 ⟨au,gl⟩=>?_;subst au;obtain⟨sU,sV,_⟩:=gl.loc;refine c2 _ _ _ _ ⟨s.heap.objs.size,bH,sU,rfl,sV,?_,ef.fpOk (Qc _) gl.free,lL⟩;exact ef.call' gl.os gl.base gl.hok gl.bare λb am=>by
    obtain⟨⟨ew,f1,f2,cX,c9,d1⟩,_⟩:=cX b am;exact⟨cX,f1,c9,d1⟩
  ·refine thn (T.item (Zl X bo cl be.heap.objs.size (x::zs) be (upd H s.heap.objs.size (.lst [])) fp) rfl rfl rfl (aG _ _ _ _) i [] cK j' bH _ hN (lZ hP) j3 go) λr d3 ⟨u,au,cY⟩=>?_;subst au;refine thn cY λ_ d6 ⟨x7,c8,gO,oq,sW,l0,sX⟩=>?_;have sY:=gO.pinned (lZ sX) (T.obj _ _ l0);refine thn (ci _ d6 j' c8 x7 u _ sY oq (step x7 c8 sW)) λ_ fS ⟨l3,fM,oT,sZ⟩=>?_;refine thn (sT _ fS l3 fM _ oT sZ) λb gI ⟨iw,oU,ka⟩=>?_;have again:∀{fD:List V}{aW:St}{H':Hp}{cn:Nat}{s':Shared},Inv (Zl X bo cl be.heap.objs.size (x::zs) be (upd H s.heap.objs.size (.lst [])) fp) ([]++Ud fp d6.heap) aW H' s'→W (i+1) cn fD aW H'→cn<n→
     ∃m,m<n∧∃i ys aW H',Inv (Zl X bo cl be.heap.objs.size (x::zs) be (upd H s.heap.objs.size (.lst [])) fp) [] aW H' s'∧dQ i s'.heap∧(∀b∈fp,H' b=none)∧W i m ys aW H':=λ{fD aW H' cn s'} Iz iZ a4=>by
    refine⟨cn,a4,i+1,fD,aW,H',Iz.unpinned,T.keep _ _ _ l0 λb am o e=>(Iz.pin (b,o) (Qk _ (Qk _ (mW am e)))).1,λb am=>?_,iZ⟩;obtain⟨o,e,d⟩:=T.obj _ _ l0 b am;exact(Iz.pin (b,o) (Qk _ (Qk _ (mW am e)))).2.1
   cases b with
   |false=>
    rw[if_neg Qh] at ka⊢;obtain⟨cn,a4,iZ⟩:=ka;exact again oU iZ a4
   |true=>
    rw[if_pos rfl] at ka⊢;refine thn (b' _ gI l3 iw _ oU ka) λv h9 ⟨y,kI,s0,s1,ai,bh,cn,a4,iZ⟩=>?_;refine thn (hS _ h9 l3 kI (.ref s.heap.objs.size) [y] (.ref s.heap.objs.size) [v] (λz H'=>z= .non∧H'=upd kI s.heap.objs.size (.lst (ys++ [y]))) s0 rfl (.cons s1 .nil) ⟨_,ys,y,rfl,rfl,ai,bh,rfl,rfl⟩) λ_ oV ⟨z,m5,s2,_,_,s3⟩=>?_;subst s3;exact again s2 iZ a4
 exact codeAny_compStart_list (oR _ (by subst kH;rfl)) (T.self _ 0 _ _ _ kz (oR _ (by subst kH;rfl)))
theorem Va{bo:Scope}{x:Str}{zs:List Str}{ix:List Nat}(ok:X.Ok)(S:YR X bo x zs ix):
  ∃cl,closureFor bo X.env=pure cl∧(∀y c,cl.lookup y=some c→X.env.cells.lookup y=some c)∧∀y,(y,NameKind.free)∈bo.names→∃c,cl.lookup y=some c:=by
 obtain⟨cl,e,aq,av⟩:=Ut X.env bo.names [] (λy cx aX=>ok.has y.1 (S.free y cx aX)) (λy c h=>by simp at h);refine⟨cl,?_,aq,λy cx=>av y (.inr cx)⟩;unfold closureFor;simp only;rw[e]
 rfl
theorem s4{fC cM ev:Expr}{ifs:List Expr}{bo:Scope}{pos:Pos}{x:Str}{zs:List Str}{ix:List Nat}{eg:TI}{g:TG}{di:TT}{cr:TE}
  (aG:X.calm=true) (S:YR X bo x zs ix) (hi:PI X cM ev eg)
  (h8:∀cl C s H fp,PG (Zl X bo cl C (x::zs) s H fp) cM g∧PIf (Zl X bo cl C (x::zs) s H fp) ifs di∧PE (Zl X bo cl C (x::zs) s H fp) fC cr)
  (hs:∀x,foldedSetIterable ev X.env x=pure x:=by intro _;rfl):
  PE X (.ListComp fC [⟨cM,ev,ifs,0⟩] bo pos) (qo ix eg g di cr):=by
 intro ah s σ H Q I h;obtain⟨cl,l4,fr,gR⟩:=Va I.ok S;rw[eval_ListComp];refine wpAny_comprehension_free (use:=none) rfl hs l4 S.kind S.names (thn (hi ah s σ H _ I h) λv aB aq=>thn aq λkx bc av=>?_);obtain⟨it,fp,dQ,J,ar,e,cR,T,e',f2,cj⟩:=av;subst e;refine ZbM (RR:=λds C=>compPost (model X.prog X.w) X.A X.xe none (EP X ah σ Q) ds C) (λ_ _ _ _=>aG) S cR fr gR T.c e' f2 (λC s H=>h8 cl C s H fp) cj λds C f s' h=>?_;obtain⟨p,H',m,rfl,a4,eA,⟨iy,g1,g2,g3,i1,kJ⟩,q⟩:=h;exact⟨m,a4,λh' am=>⟨.ref p,H',eA.turned (t':=s'.toks) (λb o hU e=>(am.2 b hU).trans e) iy g1 g3 i1 kJ,rfl,q⟩⟩
end
def ZM(h:Heap)(e:Addr):Prop:=∃o vs,h.get? e=some o∧o.data= .fields vs∧vs[2]? =some Value.none
noncomputable def Kp (P:Heap→Prop) {cG:Type}:Sem cG→Prop
 | .pure _=>True
 | .raise _=>True
 | .unsupported _=>True
 | .finish _=>True
 | .rule _ k=>Kp P (k ())
 | .at _ k=>Kp P (k ())
 | .load _ _ k=>∀o,Kp P (k o)
 | .update a _ f k=>(∀h,P h→P (h.update a f))∧Kp P (k ())
 | .alloc o k=>(∀h,P h→P (h.push o))∧∀a,Kp P (k a)
 | .loadIfAlive _ k=>∀o,Kp P (k o)
 | .point _ k=>Kp P (k ())
 | .ask k=>∀x,Kp P (k x)
 | .stack k=>∀x,Kp P (k x)
 |_=>False
section
variable {cG eH:Type}{P:Heap→Prop}{M:Model}{A:Around}{E:Value→Shared→Prop}{s:Shared}
theorem Kp.wp{qp:PySem.Ctx}{Q:cG→Pos→Shared→Prop}{E:Value→Pos→Shared→Prop}(t:Sem cG):∀(p:Pos)(s:Shared),Kp P t→P s.heap→Sem.wp M qp t Q E p s→
  Sem.wp M qp t (λa p s'=>Q a p s'∧P s'.heap) (λe p s'=>E e p s'∧P s'.heap) p s:=by
 induction t with
 |pure a=>exact λp s _ a1 h=>⟨h,a1⟩
 |raise a=>exact λp s _ a1 h=>⟨h,a1⟩
 |unsupported w=>exact λp s _ a1 h=>h
 |finish w=>exact λp s _ a1 h=>h
 |rule _ k cI=>exact λp s aA a1 h=>cI () p s aA a1 h
 | «at» iq k cI=>exact λp s aA a1 h=>cI () iq s aA a1 h
 |load _ _ k cI=>exact λp s aA a1 ⟨o,e,h⟩=>⟨o,e,cI o p s (aA o) a1 h⟩
 |update _ _ _ k cI=>exact λp s aA a1 ⟨e,h⟩=>⟨e,cI () p _ aA.2 (aA.1 _ a1) h⟩
 |alloc _ k cI=>exact λp s aA a1 h=>cI _ p _ (aA.2 _) (aA.1 _ a1) h
 |loadIfAlive _ k cI=>exact λp s aA a1 h=>cI _ p s (aA _) a1 h
 |point _ k cI=>exact λp s aA a1 h=>cI () p s aA a1 h
 |ask k cI=>exact λp s aA a1 h=>cI _ p s (aA _) a1 h
 |stack k cI=>exact λp s aA a1 h=>cI _ p s (aA _) a1 h
 |register=>exact λp s aA _ _=>False.elim aA
 |fresh=>exact λp s aA _ _=>False.elim aA
 |choose=>exact λp s aA _ _=>False.elim aA
 |os=>exact λp s aA _ _=>False.elim aA
 |call=>exact λp s aA _ _=>False.elim aA
 |handled=>exact λp s aA _ _=>False.elim aA
 |newGen=>exact λp s aA _ _=>False.elim aA
 |genState=>exact λp s aA _ _=>False.elim aA
 |resume=>exact λp s aA _ _=>False.elim aA
 |yield=>exact λp s aA _ _=>False.elim aA
 |fork=>exact λp s aA _ _=>False.elim aA
 |thread=>exact λp s aA _ _=>False.elim aA
 |await=>exact λp s aA _ _=>False.elim aA
theorem Kp.any{t:Sem cG}{Q:cG→Shared→Prop}(k:Kp P t)(a1:P s.heap)(h:wpAny M A t Q E s):wpAny M A t (λa s'=>Q a s'∧P s'.heap) (λe s'=>E e s'∧P s'.heap) s:=λqp p CM=>Kp.wp t p s k a1 (h qp p CM)
theorem Kp.bind{f:cG→Sem eH}(m:Sem cG):Kp P m→(∀a,Kp P (f a))→Kp P (m.bind f):=by
 induction m with
 |pure a=>exact λ_ aX=>aX a
 |raise a=>exact λ_ _=>trivial
 |unsupported w=>exact λ_ _=>trivial
 |finish w=>exact λ_ _=>trivial
 |rule _ k cI=>exact λaA aX=>cI () aA aX
 | «at» _ k cI=>exact λaA aX=>cI () aA aX
 |load _ _ k cI=>exact λaA aX o=>cI o (aA o) aX
 |update _ _ _ k cI=>exact λaA aX=>⟨aA.1,cI () aA.2 aX⟩
 |alloc _ k cI=>exact λaA aX=>⟨aA.1,λa=>cI a (aA.2 a) aX⟩
 |loadIfAlive _ k cI=>exact λaA aX o=>cI o (aA o) aX
 |point _ k cI=>exact λaA aX=>cI () aA aX
 |ask k cI=>exact λaA aX o=>cI o (aA o) aX
 |stack k cI=>exact λaA aX o=>cI o (aA o) aX
 |register=>exact λaA _=>False.elim aA
 |fresh=>exact λaA _=>False.elim aA
 |choose=>exact λaA _=>False.elim aA
 |os=>exact λaA _=>False.elim aA
 |call=>exact λaA _=>False.elim aA
 |handled=>exact λaA _=>False.elim aA
 |newGen=>exact λaA _=>False.elim aA
 |genState=>exact λaA _=>False.elim aA
 |resume=>exact λaA _=>False.elim aA
 |yield=>exact λaA _=>False.elim aA
 |fork=>exact λaA _=>False.elim aA
 |thread=>exact λaA _=>False.elim aA
 |await=>exact λaA _=>False.elim aA
theorem Kp.bd{m:Sem cG}{f:cG→Sem eH}(a4:Kp P m)(aX:∀a,Kp P (f a)):Kp P (m >>= f):=Kp.bind m a4 aX
theorem Kp.pure(a:cG):Kp P (Pure.pure a:Sem cG):=trivial
theorem Kp.uns(w:String):Kp P (PySem.unsupported w:Sem cG):=trivial
theorem Kp.ite{c:Prop}[Decidable c]{a b:Sem cG}(aS:Kp P a)(am:Kp P b):Kp P (if c then a else b):=by split<;>assumption
end
section
variable {e:Addr}
theorem ZM.slots{h:Heap}{a:Addr}{g:Obj→Array (Option Value)}(x:ZM h e):ZM (h.update a λo=>{o with slots:=g o}) e:=by
 obtain⟨o,vs,a_,hd,av⟩:=x
 by_cases aS:a=e
 ·subst aS;exact⟨_,vs,Heap.get?_update_self _ a_ (Obj.isFreed_of_fields (vs:=vs) hd),hd,av⟩
 ·exact⟨o,vs,(Heap.get?_update_other _ _ aS).trans a_,hd,av⟩
theorem ZM.field{h:Heap}{a:Addr}{i:Nat}{v:Value}(hi:i≠2)(x:ZM h e):ZM (h.update a (Obj.mapFields (·.setIfInBounds i v))) e:=by
 obtain⟨o,vs,a_,hd,av⟩:=x
 by_cases aS:a=e
 ·subst aS;exact⟨_,_,Heap.get?_update_self _ a_ (Obj.isFreed_of_fields (Obj.data_mapFields hd _)),Obj.data_mapFields hd _,by rw[Array.getElem?_setIfInBounds_ne hi];exact av⟩
 ·exact⟨o,vs,(Heap.get?_update_other _ _ aS).trans a_,hd,av⟩
theorem ZM.push{h:Heap}{c4:Obj}(x:ZM h e):ZM (h.push c4) e:=
 let⟨o,vs,a_,r⟩:=x;⟨o,vs,Heap.get?_push_of_some _ a_,r⟩
theorem ZM.keeps{h h':Heap}(x:ZM h e)(k:∀o,h.get? e=some o→h'.get? e=some o):ZM h' e:=let⟨o,vs,a_,r⟩:=x;⟨o,vs,k _ a_,r⟩
theorem Zb9{a:Addr}:Kp (λh=>ZM h e) (load a):=λ_=>trivial
theorem ZeF{v:Value}:Kp (λh=>ZM h e) (fieldsOf v):=by
 unfold fieldsOf;cases v<;>first|exact Kp.uns _|skip
 refine Kp.bd Zb9 λo=>?_
 split<;>trivial
theorem UB{v:Value}{i:Nat}:Kp (λh=>ZM h e) (field v i):=by
 unfold field;refine Kp.bd ZeF λo=>?_
 split<;>trivial
theorem Zb7{a:Addr}{i:Nat}{x:Value}(hi:i≠2):Kp (λh=>ZM h e) (updateField a i x):=by
 unfold updateField;refine Kp.bd Zb9 λo=>?_
 split
 ·split
  ·exact⟨λ_ h=>h.field hi,trivial⟩
  ·trivial
 ·trivial
theorem s5{v:Value}{i:Nat}{x:Value}(hi:i≠2):Kp (λh=>ZM h e) (setField v i x):=by
 unfold setField;cases v<;>first|exact Kp.uns _|exact Zb7 hi
theorem ZgS{env:Env}{outer:List Env}:Kp (λh=>ZM h e) (behindIsImport env outer):=by
 unfold behindIsImport;refine Kp.ite (Kp.pure _) (Kp.ite (Kp.pure _) (Kp.bd UB λ_=>Kp.pure _))
theorem CN:Kp (λh=>ZM h e) underTheClaimsCaller:=by
 unfold underTheClaimsCaller;exact Kp.bd (λ_=>trivial) λ_=>Kp.pure _
theorem ZiI{env:Env}{wW:Bool}{outer:List Env}:Kp (λh=>ZM h e) (keptBack env wW outer):=by
 cases outer with
 |nil=>exact Kp.ite (Kp.pure _) (Kp.bd CN λ_=>Kp.pure _)
 |cons c r=>exact Kp.pure _
theorem wX:∀l:List Env,Kp (λh=>ZM h e) (readyFrames l)
 | []=>Kp.pure _
 |env::outer=>by
  unfold readyFrames;cases env.frame with
  |none=>exact Kp.uns _
  |some f=>
   refine Kp.bd Zb9 λo=>?_;refine Kp.ite (Kp.pure _) (Kp.bd ZgS λwW=>Kp.bd ZiI λm6=>Kp.bd ⟨λ_ h=>h.slots,trivial⟩ λ_=>wX outer)
theorem ZfI{env:Env}:Kp (λh=>ZM h e) (PySem.frameOf env):=by
 unfold PySem.frameOf;refine Kp.bd (Kp.bd (λ_=>trivial) λ_=>Kp.pure _) λl=>Kp.bd ?_ λo=>?_
 ·generalize (l.dropWhile λx=>x.frame != env.frame)=k;cases k with
  |nil=>exact Kp.pure _
  |cons a r=>exact Kp.bd (wX _) λ_=>Kp.pure _
 ·cases o with
  |none=>exact Kp.uns _
  |some x=>exact Kp.pure _
theorem VQ{v:Value}{f:Option Addr}:Kp (λh=>ZM h e) (setFlight v f):=by
 unfold setFlight;refine Kp.bd UB λt=>?_;exact Kp.ite (s5 (by decide)) (Kp.pure _)
theorem Zhc{f:Addr}{b:Bool}:Kp (λh=>ZM h e) (entryPlaceOf f b):=by
 unfold entryPlaceOf;refine Kp.bd (λ_=>trivial) λNr=>?_
 split<;>exact Kp.pure _
theorem ZgN{ty:String}{vs:List Value}:Kp (λh=>ZM h e) (newFields ty vs):=by
 unfold newFields newObj;have qq:Kp (λh=>ZM h e) (newObjAsIs (.type ty) (.fields vs.toArray)):=⟨λ_ h=>h.push,λ_=>trivial⟩;dsimp only
 split
 ·exact Kp.uns _
 ·exact qq
theorem Zfi{v:Value}{env:Env}:Kp (λh=>ZM h e) (noteFrame v env):=by
 unfold noteFrame;cases env.frame with
 |none=>exact Kp.uns _
 |some f=>
  have qq:∀hd:Value,Kp (λh=>ZM h e) (do let x←PySem.frameOf env;let pl←entryPlaceOf f (hd != Value.none);let b←EntryCells.newEntry hd x .none (rawInt f) .none pl;setField v 1 b):=λhd=>
   Kp.bd ZfI λx=>Kp.bd Zhc λpl=>Kp.bd ZgN λb=>s5 (by decide)
  refine Kp.bd UB λhd=>?_;refine Kp.ite ?_ (qq hd);refine Kp.bd UB λt=>Kp.ite (Kp.pure _) (Kp.bd (s5 (by decide)) λ_=>qq hd)
theorem ZbD{v:Value}{env:Env}:Kp (λh=>ZM h e) (leaving env v):=Kp.bd Zfi λ_=>VQ
section
variable {M:Model}{A:Around}{E:Value→Shared→Prop}{s:Shared}{base:Heap}{l outer:List Env}{env:Env}{L:Addr}{cls dv:Value}{Q:Unit→Shared→Prop}
theorem Kp.to{P R:Heap→Prop}{t:Sem Unit}(k:Kp P t)(a1:P s.heap)(h:wpAny M A t (λ_ s'=>∃h',s'={s with heap:=h'}∧R h') (λ_ _=>False) s)(eX:∀h',R h'→P h'→Q () {s with heap:=h'}):wpAny M A t Q E s:=
 wpAny_mono (k.any a1 h) (λ_ _ ⟨⟨h',e,r⟩,p⟩=>by subst e;exact eX h' r p) λ_ _ z=>z.1.elim
theorem Zfl(fe:ZM s.heap e)(e3:A.frames=some (env::outer))(aX:env.frame=some L)(i2:Heap.FlyingW base (env::outer) e cls dv s.heap)
  (eX:∀h',Heap.FlyingW base outer e cls dv h'→s.heap.UpToSlots h'→ZM h' e→Q () {s with heap:=h'}):wpAny M A (leaving env (.ref e)) Q E s:=
 ZbD.to (R:=λh'=>Heap.FlyingW base outer e cls dv h'∧s.heap.UpToSlots h') fe (wpAny_leaves_onW e3 aX i2 λh' a b=>⟨h',rfl,a,b⟩) λh' r p=>eX h' r.1 r.2 p
theorem Zdu{h:Heap}{args:List Value}(e3:A.frames=some (env::outer))(aX:env.frame=some L)(CO:base.StaysIn h)(ai:h.FunFrames base (env::outer))(al:Heap.MadeExcOf h s.heap e cls args)
  (eX:∀h' t,Heap.FlyingW base outer e cls (.ref t) h'→h'.TupAt t args→base.get? t=none→s.heap.UpToSlots h'→ZM h' e→Q () {s with heap:=h'}):wpAny M A (leaving env (.ref e)) Q E s:=by
 have fe:ZM s.heap e:=by
  obtain⟨t,b',_⟩:=al.there;exact⟨_,_,b',rfl,rfl⟩
 exact ZbD.to (R:=λh'=>∃t,Heap.FlyingW base outer e cls (.ref t) h'∧h'.TupAt t args∧base.get? t=none∧s.heap.UpToSlots h') fe (wpAny_leaves_madeW e3 aX CO ai al λh' t a b c d=>⟨h',rfl,t,a,b,c,d⟩) λh' ⟨t,a,b,c,d⟩ p=>eX h' t a b c d p
theorem Zg8(fe:ZM s.heap e)(e3:A.frames=some (env::outer))(aX:env.frame=some L)(i2:Heap.FlyingW base (env::outer) e cls dv s.heap)
  (eX:∀h',Heap.HeldW base (env::outer) e cls dv L h'→s.heap.UpToSlots h'→ZM h' e→Q () {s with heap:=h'}):wpAny M A (noteFrame (.ref e) env) Q E s:=
 Zfi.to (R:=λh'=>Heap.HeldW base (env::outer) e cls dv L h'∧s.heap.UpToSlots h') fe (wpAny_looks_onW e3 aX i2 λh' a b=>⟨h',rfl,a,b⟩) λh' r p=>eX h' r.1 r.2 p
theorem Zj8(fe:ZM s.heap e)(cu:Heap.HeldW base l e cls dv L s.heap)(eX:∀h',Heap.FlyingW base l e cls dv h'→s.heap.UpToSlots h'→ZM h' e→Q () {s with heap:=h'}):wpAny M A (setFlight (.ref e) none) Q E s:=
 VQ.to (R:=λh'=>Heap.FlyingW base l e cls dv h'∧s.heap.UpToSlots h') fe (wpAny_landsW cu λh' a b=>⟨h',rfl,a,b⟩) λh' r p=>eX h' r.1 r.2 p
theorem Zea(fe:ZM s.heap e)(cu:Heap.FlyingW base l e cls dv s.heap)(eX:∀h',Heap.FlyingW base l e cls dv h'→s.heap.UpToSlots h'→ZM h' e→Q () {s with heap:=h'}):wpAny M A (setFlight (.ref e) none) Q E s:=
 VQ.to (R:=λh'=>Heap.FlyingW base l e cls dv h'∧s.heap.UpToSlots h') fe (lands_againW cu λh' a b=>⟨h',rfl,a,b⟩) λh' r p=>eX h' r.1 r.2 p
end
end
noncomputable def CXX (P:Program) (w:World):CXT:=λouter H s E e s'=>
 ∃(ea:Addr)(cls dv:Value)(H':Hp)(B:Heap),e= .ref ea∧s'.os=s.os∧AllBare s'.gens∧Un (frs outer) [] H H' s.heap s'.heap∧HOk P w H' s'.heap∧
  Heap.FlyingW B outer ea cls dv s'.heap∧(∀b o,s'.heap.get? b=some o→(H' b≠none∨((∃cS,s.heap.get? b=some cS)∧b∉frs outer))→B.get? b=some o)∧ZM s'.heap ea∧E cls none H'
theorem HOk.stays{P:Program}{w:World}{H:Hp}{h h' B:Heap}(ok:HOk P w H h)(gH:∀b o,h.get? b=some o→H b≠none→B.get? b=some o)(st:B.StaysIn h'):HOk P w H h':=λa o e=>
 (ok a o e).stay (λb u am q=>st b u (gH b u q (by
  rcases am with rfl|am
  ·rw[e];exact λz=>nomatch z
  ·rw[am];exact λz=>nomatch z))) (λ_ q=>q) λ_ _ q=>q
theorem ZW.got{P:Program}{w:World}{H:Hp}{h:Heap}{a:Addr}{o:HO}(x:ZW P w H h a o):∃c4,h.get? a=some c4:=by
 cases o with
 |lst xs=>obtain⟨_,_,_,_,e⟩:=x;exact⟨_,e⟩
 |tup xs=>obtain⟨_,_,_,p⟩:=x;obtain⟨c4,e,_⟩:=p;exact⟨c4,e⟩
 |dK kvs=>obtain⟨_,_,_,_,o,_,_,e,_⟩:=x;exact⟨o,e⟩
 |dT kvs=>obtain⟨_,_,_,_,o,_,_,e,_⟩:=x;exact⟨o,e⟩
 |set S n=>obtain⟨o,_,_,_,e,_⟩:=x;exact⟨o,e⟩
 |ins C ap fs=>obtain⟨_,_,_,e,_⟩:=x;exact⟨_,e⟩
 |own y=>exact x
 |xd fs=>obtain⟨_,⟨o,_,_,e,_⟩,_⟩:=x;exact⟨o,e⟩
 |rng lo hi=>obtain⟨_,_,_,e⟩:=x;exact⟨_,e⟩
 |frz c4 u=>obtain⟨e,_⟩:=x;exact⟨c4,e⟩
 |tbl a5=>exact⟨_,(show h.get? a=some _ from x)⟩
 |met f y=>exact⟨_,(show h.get? a=some _ from x)⟩
 |ext lB=>obtain⟨_,e,_⟩:=x;exact e
theorem Un.fly{fs:List Addr}{H H':Hp}{h aq av B:Heap}(u:Un fs [] H H' h aq)(gH:∀b o,aq.get? b=some o→(H' b≠none∨((∃cS,h.get? b=some cS)∧b∉fs))→B.get? b=some o)
  (st:B.StaysIn av) (sl:aq.UpToSlots av) (aX:∀b∈fs,∀o,h.get? b=some o→∀vs,o.data≠ .fields vs) (jW:∀b∈fs,H b=none):Un fs [] H H' h av where
 keep:=λb o e n am al=>st b o (gH b o (u.keep b o e n am al) (.inr ⟨⟨_,e⟩,am⟩))
 slot:=λb o e n am al=>by
  obtain⟨aB,aV⟩:=u.slot b o e n am al;obtain⟨bc,a8⟩:=sl b _ aV (aX b am o e);exact⟨bc,a8⟩
 free:=u.free
 there:=λb o e al=>by
  by_cases am:b∈fs
  ·obtain⟨aB,aV⟩:=u.slot b o e (jW b am) am al;obtain⟨bc,a8⟩:=sl b _ aV (aX b am o e);exact⟨_,a8⟩
  ·obtain⟨cS,aV⟩:=u.there b o e al;exact⟨cS,st b cS (gH b cS aV (.inr ⟨⟨_,e⟩,am⟩))⟩
 tups:=u.tups
 frzs:=u.frzs
 tbls:=u.tbls
section
variable {P:Program}{w:World}{K:Frag}{mg:Str→Option Value}{base:Heap}{N:List Str}{qual:Str}{scope:Scope}{f:Addr}{cd:Value}{A:Around}{outer:List Env}{s₀:Shared}{H₀:Hp}{E:XK}
noncomputable abbrev cxX (P:Program) (w:World) (K:Frag) (mg:Str→Option Value) (base:Heap) (N:List Str) (qual:Str) (scope:Scope) (f:Addr) (cd:Value) (A:Around) (outer:List Env) (s₀:Shared) (H₀:Hp) (E:XK):Cx:=
 ZL (CXX P w) P w K mg base N qual scope f cd A outer s₀ H₀ E
theorem Zhv{ah:List (Addr×Obj)}{σ:St}{H H':Hp}{s s':Shared}{ea:Addr}{cls dv:Value}{B:Heap}(I:Inv (cxX P w K mg base N qual scope f cd A outer s₀ H₀ E) ah σ H s)
  (os:s'.os=s.os) (bare:AllBare s'.gens) (u:Un (frs (cxX P w K mg base N qual scope f cd A outer s₀ H₀ E).stack) [] H H' s.heap s'.heap) (ok:HOk P w H' s'.heap)
  (az:Heap.FlyingW B (cxX P w K mg base N qual scope f cd A outer s₀ H₀ E).stack ea cls dv s'.heap)
  (gH:∀b o,s'.heap.get? b=some o→(H' b≠none∨((∃cS,s.heap.get? b=some cS)∧b∉frs (cxX P w K mg base N qual scope f cd A outer s₀ H₀ E).stack))→B.get? b=some o) (fe:ZM s'.heap ea) (q:E cls none H'):
  (cxX P w K mg base N qual scope f cd A outer s₀ H₀ E).xe (.ref ea) s':=by
 have e3:(A.deeper (envOfC qual scope s₀.heap.objs.size f cd)).frames=some (envOfC qual scope s₀.heap.objs.size f cd::outer):=I.ok.frames;refine Zfl fe (L:=s₀.heap.objs.size) e3 rfl az λav qr sl s6=>?_;have wY:∀b o,s₀.heap.get? b=some o→b∉frs outer→(∃cS,s.heap.get? b=some cS)∧b∉frs (cxX P w K mg base N qual scope f cd A outer s₀ H₀ E).stack:=λb o e bL=>
  ⟨I.base.there b o e (by intro z;exact absurd (show b∈([]:List Addr) from z) (by simp)),λz=>by
   rcases Qe.mp (I.stkSub b z) with q|q
   ·have am:=Heap.lt_size e;have g6:b=s₀.heap.objs.size:=q;rw[g6] at am;exact QU _ am
   ·exact bL q⟩
 have d9:Un (frs outer) [] H₀ H' s₀.heap s'.heap:=by
  have b0:Un (frs outer) [] H₀ H s₀.heap s.heap:=I.base;refine⟨λb o e n am al=>?_,λb o e n am al=>?_,λb o e n al=>?_,λb o e al=>?_,λb xs e=>u.tups b xs (b0.tups b xs e),λb o v e=>u.frzs b o v (b0.frzs b o v e),λb a5 e=>?_⟩
  ·exact u.keep b o (b0.keep b o e n am al) (b0.free b o e n al) (wY b o e am).2 al
  ·obtain⟨aB,aV⟩:=b0.slot b o e n am al;obtain⟨bc,a8⟩:=u.any aV (b0.free b o e n al) al;exact⟨bc,a8⟩
  ·obtain⟨cS,aV⟩:=b0.there b o e al;exact u.free b cS aV (b0.free b o e n al) al
  ·obtain⟨cS,aV⟩:=b0.there b o e al;exact u.there b cS aV al
  ·obtain⟨g7,aV⟩:=b0.tbls b a5 e;obtain⟨h3,a8⟩:=u.tbls b _ aV;exact⟨g7++h3,by rw[a8,Array.append_assoc]⟩
 have wZ:∀b o,s'.heap.get? b=some o→(H' b≠none∨((∃cS,s₀.heap.get? b=some cS)∧b∉frs outer))→B.get? b=some o:=λb o e h=>gH b o e (h.imp id λ⟨⟨cS,z⟩,bL⟩=>wY b cS z bL);have CP:HOk P w H' av:=ok.stays (λb o e n=>gH b o e (.inl n)) qr.1;refine⟨ea,cls,dv,H',B,rfl,os.trans I.os,bare,d9.fly wZ qr.1 sl (λb am o e=>?_) (I.ok.frf),CP,qr,λb o e h=>?_,s6,q⟩
 ·obtain⟨_,cS,cm,d⟩:=I.ok.funs.mem am;have oW:s₀.heap.get? b=some cS:=cm;rw[e] at oW;cases oW;exact d
 ·have ex:∃cS,s'.heap.get? b=some cS:=by
   rcases h with h|⟨h,bL⟩
   ·cases c6:H' b with
    |none=>exact absurd c6 h
    |some v=>exact(ok b v c6).got
   ·obtain⟨s7,om⟩:=h;exact d9.there b s7 om (by simp)
  obtain⟨cS,cm⟩:=ex;have a8:=wZ b cS cm h;have eP:=qr.1 b cS a8;have i3:av.get? b=some o:=e;rw[eP] at i3;cases i3;exact a8
theorem cT:YZ (CXX P w) (cxX P w K mg base N qual scope f cd A outer s₀ H₀ E) E:=by
 intro ah σ H s e s' I h;obtain⟨ea,cls,dv,H',B,rfl,os,bare,u,ok,az,gH,fe,q⟩:=h;exact Zhv I os bare u ok az gH fe q
noncomputable def s8 (cls:Value) (E:XK) (t:TA):TS:=λ_ σ H=>t σ H λvs ao=>vs.length≤sizeLine∧E cls none ao
theorem ZgB{ah:List (Addr×Obj)}{σ:St}{H:Hp}{s:Shared}{h':Heap}{ea:Addr}{cls:Value}{us:List Value}(I:Inv (cxX P w K mg base N qual scope f cd A outer s₀ H₀ E) ah σ H s)
  (al:Heap.MadeExcOf s.heap h' ea cls us) (q:E cls none H):(cxX P w K mg base N qual scope f cd A outer s₀ H₀ E).xe (.ref ea) {s with heap:=h'}:=by
 have e3:(A.deeper (envOfC qual scope s₀.heap.objs.size f cd)).frames=some (envOfC qual scope s₀.heap.objs.size f cd::outer):=I.ok.frames;have h8:∀env∈(cxX P w K mg base N qual scope f cd A outer s₀ H₀ E).stack,∀b,env.frame=some b→b∈frs (cxX P w K mg base N qual scope f cd A outer s₀ H₀ E).stack:=λenv b' b am=>List.mem_filterMap.mpr ⟨env,b',am⟩;have s9:∀b o,s.heap.get? b=some o→(H b≠none∨((∃cS,s₀.heap.get? b=some cS)∧b∉frs outer))→(hideAll s.heap (frs (cxX P w K mg base N qual scope f cd A outer s₀ H₀ E).stack)).get? b=some o:=λb o e h=>
  hideAll_get _ e λz=>by
   rcases h with h|⟨⟨cS,cm⟩,bL⟩
   ·exact h (I.stkFree b z)
   ·rcases Qe.mp (I.stkSub b z) with q|q
    ·have am:=Heap.lt_size cm;have g6:b=s₀.heap.objs.size:=q;rw[g6] at am;exact QU _ am
    ·exact bL q
 refine Zdu (base:=hideAll s.heap (frs (cxX P w K mg base N qual scope f cd A outer s₀ H₀ E).stack)) (h:=s.heap) (L:=s₀.heap.objs.size) e3 rfl (λb o e=>of_hideAll _ e) (PySem.W.funFrames_hide I.stack h8) al λb_ t az _ _ sl CQ=>?_;have oc:s.heap.UpToSlots b_:=(Heap.UpToSlots.of_keeps al.keeps).trans sl;have b0:Un (frs outer) [] H₀ H s₀.heap s.heap:=I.base;have CS:HOk P w H b_:=I.hok.stays (λb o e n=>s9 b o e (.inl n)) az.1;refine⟨ea,cls,_,H,_,rfl,I.os,I.bare,b0.fly s9 az.1 oc (λb am o e=>?_) I.ok.frf,CS,az,λb o e h=>?_,CQ,q⟩
 ·obtain⟨_,cS,cm,d⟩:=I.ok.funs.mem am;have oW:s₀.heap.get? b=some cS:=cm;rw[e] at oW;cases oW;exact d
 ·have ex:∃cS,s.heap.get? b=some cS:=by
   rcases h with h|⟨⟨s7,om⟩,_⟩
   ·cases c6:H b with
    |none=>exact absurd c6 h
    |some v=>exact(I.hok b v c6).got
   ·exact b0.there b s7 om (by simp)
  obtain⟨cS,cm⟩:=ex;have a8:=s9 b cS cm h;have eP:=az.1 b cS a8;have i3:b_.get? b=some o:=e;rw[eP] at i3;cases i3;exact a8
theorem ZhT{x:Str}{ff fc pos:Pos}{kb:Expr}{rest:List Expr}{t:TA}{C:Addr}{B kK s_:String}{bm:List Value}(O:OwnCls x C bm kK mg base)(FB:ExcBaseFacts B kK s_ bm)
  (ci:Gl (cxX P w K mg base N qual scope f cd A outer s₀ H₀ E) x) (aS:PA (cxX P w K mg base N qual scope f cd A outer s₀ H₀ E) (kb::rest) t)
  (b':starEach (kb::rest) (cxX P w K mg base N qual scope f cd A outer s₀ H₀ E).env=(false,eval kb (cxX P w K mg base N qual scope f cd A outer s₀ H₀ E).env)::starEach rest (cxX P w K mg base N qual scope f cd A outer s₀ H₀ E).env:=by rfl)
  (lW:(backTo fc (starEach rest (cxX P w K mg base N qual scope f cd A outer s₀ H₀ E).env)).any (·.1)=false:=by rfl) (fA:(x==("__debug__" :Str))=false:=by decide):
  PS (cxX P w K mg base N qual scope f cd A outer s₀ H₀ E) (.Raise (some (.Call (.Name x ff) (kb::rest) [] fc)) none pos) (s8 (.ref C) E t):=by
 intro ah s σ H D I h;obtain⟨es,CT,nm,q,bs,hdct,sn,sub,ab,col,dd,k0,k1,k2,k3,k5,mN,CU,eu,qt,T⟩:=O.obj;refine wpAny_Raise_call_subT (C:=C) (nm:=nm) (q:=q) (N:=CT) (bs:=bs) (bm:=es) (hdct:=hdct) (sn:=sn) (sub:=sub) (ab:=ab) (col:=col) (dd:=dd) (k0:=k0) (k1:=k1) (k2:=k2) (k3:=k3) (k5:=k5)
  FB (mN:=mN) (T.hasType FB.hasBase) (I.ok.hd rfl) (by rw[b'];show(false||(backTo fc (starEach rest (cxX P w K mg base N qual scope f cd A outer s₀ H₀ E).env)).any (·.1))=false;rw[lW];rfl) qt (ku I ci O.bound ⟨rfl,?_⟩ fA)
 have h':=aS fc ah s σ H _ I h;rw[b'] at h'⊢;refine Calls.evalArgs_plain (thn h' λus bc ⟨vs,ar,cR,r,bh,c6⟩=>⟨rfl,by rw[←r.length];exact bh,cR.bk _ _ CU,eu.keeps cR.bk,T.keeps cR.bk,λb_ e a4=>ZgB cR a4 c6⟩)
end
mutual
inductive e4(K:Frag)(H:Hp):V→PyData→Prop
 |non:e4 K H .non .none
 |bl (b:Bool):e4 K H (.bl b) (.bool b)
 |int (i:Int):e4 K H (.int i) (.int i)
 |str (x:Str):e4 K H (.str x) (.str x)
 |lst {a:Addr} {xs:List V} {dS:List PyData} (h:SqL K H a xs) (r:DRels K H xs dS):e4 K H (.ref a) (.list dS)
 |tup {a:Addr} {xs:List V} {dS:List PyData} (h:SqT K H a xs) (r:DRels K H xs dS):e4 K H (.ref a) (.tuple dS)
inductive DRels(K:Frag)(H:Hp):List V→List PyData→Prop
 |nil:DRels K H [] []
 |cons {x:V} {d:PyData} {xs:List V} {dS:List PyData} (h:e4 K H x d) (r:DRels K H xs dS):DRels K H (x::xs) (d::dS)
end
theorem DRels.ints{K:Frag}{H:Hp}:∀ns:List Int,DRels K H (ns.map V.int) (ns.map PyData.int)
 | []=> .nil
 |n::ns=> .cons (.int n) (DRels.ints ns)
section
variable {X:Cx}{ah:List (Addr×Obj)}{σ:St}{H:Hp}{s:Shared}
mutual
theorem e4.reads(I:Inv X ah σ H s):∀{x:V}{d:PyData}{v:Value},e4 X.K H x d→cO x v→∃as,Reads s.heap v d as
 |_,_,_,.non,r=>by cases (show _=Value.none from r);exact⟨_,.none⟩
 |_,_,_,.bl b,r=>by cases (show _=Value.bool b from r);exact⟨_,.bool b⟩
 |_,_,_,.int i,r=>by obtain⟨t,e⟩:=r;cases e;exact⟨_,.int i t⟩
 |_,_,_,.str x,r=>by obtain⟨t,e⟩:=r;cases e;exact⟨_,.str x t⟩
 |_,_,_,.lst (a:=a) h eZ,r=>by
  cases (show _=Value.ref a from r);obtain⟨its,cW,p,bh⟩:=I.list h;obtain⟨o,a_,aG,n,hd⟩:=p.isList;obtain⟨as,q⟩:=DRels.reads I eZ cW;exact⟨_,.list a_ aG hd (by simpa using q)⟩
 |_,_,_,.tup (a:=a) h eZ,r=>by
  cases (show _=Value.ref a from r);obtain⟨its,cW,p,bh⟩:=I.tuple h;obtain⟨o,a_,aG,n,hd⟩:=(show s.heap.IsTuple a its.toArray from p);obtain⟨as,q⟩:=DRels.reads I eZ cW;exact⟨_,.tuple a_ aG hd (by simpa using q)⟩
theorem DRels.reads(I:Inv X ah σ H s):∀{xs:List V}{dS:List PyData}{vs:List Value},DRels X.K H xs dS→cD xs vs→∃as,ReadsAll s.heap vs dS as
 |_,_,_,.nil,.nil=>⟨_,.nil⟩
 |_,_,_,.cons h r,.cons q t=>by
  obtain⟨as,e⟩:=e4.reads I h q;obtain⟨bs,cm⟩:=DRels.reads I r t;exact⟨_,.cons e cm⟩
end
end
noncomputable def kL (K:Frag) (neg:Bool):R2:=λx y H Q=>∃ap gJ,e4 K H x ap∧e4 K H y gJ∧ap.canLay0=true∧gJ.canLay0=true∧ap.depth≤60∧Q (.bl (if neg then !PyData.eqv ap gJ else PyData.eqv ap gJ)) H
section
variable {X:Cx}
theorem CV(hu:X.A.units+64<cLine):OpR X (compareOp .Eq) (kL X.K false):=by
 intro ah s σ H x y v u Q I bI cv h;obtain⟨ap,gJ,aq,av,oX,kc,dp,q⟩:=h;obtain⟨as,cy⟩:=aq.reads I bI;obtain⟨bs,cU⟩:=av.reads I cv;exact SeqAt.compareEq_reads cy cU oX kc (by have:min ap.depth gJ.depth≤ap.depth:=Nat.min_le_left _ _;omega) ⟨.bl _,H,I,rfl,q⟩
theorem CW(hu:X.A.units+64<cLine):OpR X (compareOp .NotEq) (kL X.K true):=by
 intro ah s σ H x y v u Q I bI cv h;obtain⟨ap,gJ,aq,av,oX,kc,dp,q⟩:=h;obtain⟨as,cy⟩:=aq.reads I bI;obtain⟨bs,cU⟩:=av.reads I cv;exact SeqAt.compareNe_reads cy cU oX kc (by have:min ap.depth gJ.depth≤ap.depth:=Nat.min_le_left _ _;omega) ⟨.bl _,H,I,rfl,q⟩
end
section
variable {prog:Program}{w:World}{A:Around}{E:Value→Shared→Prop}
variable {s:Shared}
end
section
variable {X:Cx}{pos:Pos}
end
section
variable {P:Program}{w:World}{K:Frag}{mg:Str→Option Value}{base:Heap}
theorem Fun.okX{x qual:Str}{st:Stmt}{f:Addr}{fd:FuncData}{N a5:List Str}{k:Nat}{sp:Sp}(F:Fun K x qual st f fd)(S:Zq N a5 (cq st))(len:∀vs H Q E,sp vs H Q E→vs.length=a5.length)
  (lO:∀(cw:Value)(A:Around)(outer:List Env)(s:Shared)(H:Hp)(vs:List V)(Q:VK)(E:XK),d7 k (A.deeper (envOfC qual (cq st) s.heap.objs.size f cw))→sp vs H Q E→
   ∃t,PSs (cxX P w K mg base N qual (cq st) f cw A outer s H E) (hT st) t∧t {nx:=λ_ H'=>Q .non H',rt:=Q} (start N vs) H):Yo P w K mg base (CXX P w) (k+1) f fd a5 sp:=by
 obtain⟨e_,dY,kV,e5,eM,an,cw,ct,f7,rfl,lk,ho⟩:=F.ex;exact Zh5 lk ho S len λA outer s H vs Q E au ht=>lO cw A outer s H vs Q E au ht
theorem Wy{X:Cx}:YZ (CXX X.prog X.w) X E0:=by
 intro ah σ H s e s' I h;obtain⟨ea,cls,dv,H',B,_,_,_,_,_,_,_,_,z⟩:=h;exact z.elim
end
section
variable {X:Cx}
noncomputable def rOr (r c0:R2):R2:=λx y H Q=>r x y H Q∨c0 x y H Q
noncomputable def ZbX:R2:=λx y H Q=>∃i j,x= .str i∧y= .str j∧i.length+j.length≤sizeLine∧Q (.str (i++j)) H
noncomputable def qu:R2:=rI0 λi j=> .int (i+j)
noncomputable def ZfS:R2:=rI (λi j=>IntMulOk i j) λi j=> .int (i*j)
theorem CY:OpR X (binaryOp .Add) (rOr qu (rOr ZbX (rOr rCat (qk X.K)))):=BS.or (BY.or (Co.or wI))
theorem gK:OpR X (binaryOp .Mult) (rOr ZfS rRep):=CJ.or Cp
theorem ZjD(hu:X.A.units+64<cLine):OpR X (compareOp .Eq) (rOr rEq (kL X.K false)):=BU.or (CV hu)
theorem ZjA(hu:X.A.units+64<cLine):OpR X (compareOp .NotEq) (rOr rNe (kL X.K true)):=BV.or (CW hu)
end
namespace Rd
section
variable {σ:St}{H:Hp}{Q:VK}{D:WP}{K:Frag}{c0:R2}
theorem Zld{i j:Int}(q:Q (.int (i+j)) H):rOr qu c0 (.int i) (.int j) H Q:= .inl ⟨i,j,rfl,rfl,q⟩
theorem Zjp{cy:R2}{i j:Str}(ai:i.length+j.length≤sizeLine)(q:Q (.str (i++j)) H):rOr cy (rOr ZbX c0) (.str i) (.str j) H Q:= .inr (.inl ⟨i,j,rfl,rfl,ai,q⟩)
theorem mulI{i j:Int}(c:IntMulOk i j)(q:Q (.int (i*j)) H):rOr ZfS c0 (.int i) (.int j) H Q:= .inl ⟨i,j,rfl,rfl,c,q⟩
theorem Zlm{i j:Int}(q:Q (.bl (decide (i=j))) H):rOr rEq c0 (.int i) (.int j) H Q:= .inl (eqI q)
theorem Zlc{i j:Int}(q:Q (.bl (!decide (i=j))) H):rOr rNe c0 (.int i) (.int j) H Q:= .inl (neI q)
theorem Zfz{x y:V}{ap gJ:PyData}(al:e4 K H x ap)(cx:e4 K H y gJ)(m7:ap.canLay0=true)(ta:gJ.canLay0=true)(dp:ap.depth≤60)(q:Q (.bl (PyData.eqv ap gJ)) H):rOr rEq (kL K false) x y H Q:=
 .inr ⟨ap,gJ,al,cx,m7,ta,dp,q⟩
theorem Zau{x y:V}{ap gJ:PyData}(al:e4 K H x ap)(cx:e4 K H y gJ)(m7:ap.canLay0=true)(ta:gJ.canLay0=true)(dp:ap.depth≤60)(q:Q (.bl (!PyData.eqv ap gJ)) H):rOr rNe (kL K true) x y H Q:=
 .inr ⟨ap,gJ,al,cx,m7,ta,dp,q⟩
theorem Zi3{p:Addr}{xs:List V}{i:Int}{v:V}(h:SqL K H p xs)(e:atI xs i=some v)(q:Q v H):rIx K (.ref p) (.int i) H Q:= .inl (ixl h e q)
theorem Zlj{p:Addr}{xs:List V}{i:Int}{v:V}(h:SqT K H p xs)(e:atI xs i=some v)(q:Q v H):rIx K (.ref p) (.int i) H Q:= .inr (.inl (ixt h e q))
theorem ZkX{C:Nat→Prop}{p:Addr}{xs:List V}(h:SqL K H p xs)(q:C xs.length):∃x n,[V.ref p]=[x]∧Uy K x H n∧C n:=⟨_,_,rfl,.inl ⟨xs,h,rfl⟩,q⟩
theorem ZkK{C:Nat→Prop}{p:Addr}{xs:List V}(h:SqT K H p xs)(q:C xs.length):∃x n,[V.ref p]=[x]∧Uy K x H n∧C n:=⟨_,_,rfl,.inr ⟨xs,h,rfl⟩,q⟩
theorem lenS{C:Nat→Prop}{y:Str}(h:y.length≤sizeLine)(q:C y.length):∃x n,[V.str y]=[x]∧Uy K x H n∧C n:=⟨_,_,rfl,⟨h,rfl⟩,q⟩
theorem Zkm{i:Nat}{v:V}{aW:St}{Q:St→Hp→Prop}(e:σ.set i (some v)=aW)(h:Q aW H):VZ i v σ H Q:=by
 subst e;exact h
theorem ifP{c A B:Prop}[Decidable c](h:c)(a:A):if decide c=true then A else B:=by rw[decide_eq_true h];exact ZdI a
theorem ifN{c A B:Prop}[Decidable c](h:¬c)(b:B):if decide c=true then A else B:=by rw[decide_eq_false h];exact ZdD b
theorem Zlr{c A B:Prop}[Decidable c](h:c)(b:B):if(!decide c)=true then A else B:=by rw[decide_eq_true h];exact ZdD b
theorem ZkZ{c A B:Prop}[Decidable c](h:¬c)(a:A):if(!decide c)=true then A else B:=by rw[decide_eq_false h];exact ZdI a
theorem Zlu{b:Bool}{C:Bool→Prop}(q:C b):∃k,ot K (.bl b) H k∧C k:=⟨b,rfl,q⟩
end
end Rd
namespace Rd
section
variable {H:Hp}{C:Bool→Prop}{K:Frag}
theorem ZfO{i:Int}(q:C true):∃x ec t b,[V.int i,.ty "int"]=[x,.ty ec]∧Wm K H x t∧PySem.W.kitOne K t (.type ec)=some b∧C b:=⟨_,_,_,true,rfl,.int i,rfl,q⟩
theorem Zey{i:Int}(q:C false):∃x ec t b,[V.int i,.ty "bool"]=[x,.ty ec]∧Wm K H x t∧PySem.W.kitOne K t (.type ec)=some b∧C b:=⟨_,_,_,false,rfl,.int i,rfl,q⟩
theorem Zfq{i:Str}(q:C true):∃x ec t b,[V.str i,.ty "str"]=[x,.ty ec]∧Wm K H x t∧PySem.W.kitOne K t (.type ec)=some b∧C b:=⟨_,_,_,true,rfl,.str i,rfl,q⟩
theorem ZeH{p:Addr}{xs:List V}(h:H p=some (.lst xs))(q:C true):∃x ec t b,[V.ref p,.ty "list"]=[x,.ty ec]∧Wm K H x t∧PySem.W.kitOne K t (.type ec)=some b∧C b:=⟨_,_,_,true,rfl,.lst h,rfl,q⟩
end
end Rd
noncomputable def Ze0 (oY bo:Scope) (N zs:List Str) (ix:List Nat):Bool:=
 decide (bo.kind= .function)&&(bo.names.all λy=>decide (y.2≠ .cell))&&(bo.names.all λy=>decide (y.2= .local→bo.names.lookup y.1=some .local))&&
 (bo.names.all λy=>decide (y.2= .free→oY.names.lookup y.1=some .cell∨oY.names.lookup y.1=some .free))&&(zs.all λz=>decide (bo.names.lookup z=some .free))&&decide (ix.map (λj=>N[j]?)=zs.map some)
theorem fg{X:Cx}{bo:Scope}{x:Str}{zs:List Str}{ix:List Nat}(oY:Scope)(N:List Str)(aV:X.env.scope=oY)(a8:X.N=N)(h:Ze0 oY bo N zs ix=true):YR X bo x zs ix:=by
 unfold Ze0 at h;simp only[fm,Ra,decide_eq_true_eq] at h;obtain⟨⟨⟨⟨⟨aq,av⟩,b_⟩,cA⟩,dt⟩,cY⟩:=h;subst aV a8;exact⟨aq,av,b_,cA,dt,cY⟩
def Uj(CX:CXT)(X:Cx)(J:St→Prop)(E:XK):Prop:=∀(ah:List (Addr×Obj))(σ:St)(H:Hp)(s:Shared)(e:Value)(s':Shared),J σ→Inv X ah σ H s→CX X.stack H s E e s'→X.xe e s'
noncomputable def Zbo (J:St→Prop) (C:Addr) (m:Str) (sp:Sp) (dy:List V) (E:XK) (bn:TE) (t:TA):TE:=λσ H Q=>J σ∧bn σ H λx ao=>∃a ap fs,x= .ref a∧ao a=some (.ins C ap fs)∧fs.lookup m=none∧
 t σ ao λvs ar=>sp (x::(vs++dy)) ar Q E
noncomputable def Zd6 (J:St→Prop) (C:Addr) (sp:Sp) (dy:List V) (E:XK) (t:TA):TE:=λσ H Q=>J σ∧t σ H λvs ao=>∀x ap,ao x=none→ao ap=none→ap≠x→
 sp (.ref x::(vs++dy)) (upd (upd ao ap (.own x)) x (.ins C ap [])) (λv ar=>v= .non∧Q (.ref x) ar) E
section
variable {X:Cx}{CX:CXT}{k:Nat}{f C:Addr}{fd:FuncData}{a5:List Str}{sp:Sp}{dy:List V}{dS:List Value}{E:XK}{J:St→Prop}{x m:Str}{p pos ei:Pos}{e o:Expr}{a':List Expr}{bn:TE}{t:TA}
def Zi4(CX:CXT)(X:Cx)(σ:St)(E:XK):Prop:=∀(ah:List (Addr×Obj))(H:Hp)(s:Shared)(e:Value)(s':Shared),Inv X ah σ H s→CX X.stack H s E e s'→X.xe e s'
theorem Zlp{ah:List (Addr×Obj)}{σ:St}{H:Hp}{s:Shared}{Q:VK}{us:List Value}{vs:List V}(F:Yo X.prog X.w X.K X.mg X.base CX k f fd a5 sp)(au:d7 k X.A)(am:Y8 X.K fd a5 dS)(hd:cD dy dS)(al:Zi4 CX X σ E)
  (I:Inv X ah σ H s) (r:cD vs us) (h:sp (vs++dy) H Q E):wpAny (model X.prog X.w) X.A (call (.ref f) us) (EP X ah σ Q) X.xe s:=by
 have cU:cD (vs++dy) (us++dS):=r.append hd;have ai:(us++dS).length=a5.length:=by rw[←cU.length];exact F.len _ _ _ _ h
 refine wpAny_call (codeAny_mono (F.run X.A X.stack s H ⟨us,[]⟩ (us++dS) (vs++dy) Q E au I.env0 (am s us I.kIn ai) cU h) λr s' cj=>?_);cases r with
 |error e=>exact al ah H s e s' I cj
 |ok az=>
  cases az with
  |ret u=>exact I.after cj
  |next=>exact False.elim cj
  |brk=>exact False.elim cj
  |cont=>exact False.elim cj
theorem Zho{pl:Sem Bool}(b':PE X o bn)(c:Cls X.K C)(a4:Zba X.K C m f)(F:Yo X.prog X.w X.K X.mg X.base CX k f fd a5 sp)(au:d7 k X.A)(am:Y8 X.K fd a5 dS)(hd:cD dy dS)(al:Uj CX X J E)(aS:PA X (e::a') t)
  (ed:starEach (e::a') X.env=(false,eval e X.env)::starEach a' X.env:=by rfl) (fa:(backTo pos (starEach a' X.env)).any (·.1)=false:=by rfl)
  (aT:eval (.Call (.Attribute o m ei) (e::a') [] pos) X.env=(do
   let de←eval o X.env
   standAt ei.atName
   let(f,first)←holding [de] (getMethod de m pl)
   callWith pos f first (backTo pos (starEach (e::a') X.env)) (backToKw pos (keywordEach [] X.env))):=by rfl):
  PE X (.Call (.Attribute o m ei) (e::a') [] pos) (Zbo J C m sp dy E bn t):=by
 intro ah s σ H Q I h;obtain⟨j9,h⟩:=h;refine methodCall_KW (pl:=pl) (thn (b' ah s σ H _ I h) λu aB ⟨x,ao,a0,bI,a,ap,fs,ex,ea,l,q⟩=>?_) aT;subst ex;obtain rfl:u=Value.ref a:=bI;refine VB a0 ea c a4 l ?_;refine callWith_K (first:=[.ref a]) (h₀:=X.base) I.ok.mod.kin a4.kp (thn (aS pos ah aB σ ao _ a0 q) λus bc ⟨vs,ar,cR,r,c6⟩=>⟨cR.kIn,?_⟩) ed fa;exact Zlp (us:= .ref a::us) (vs:= .ref a::vs) F au am hd (λah H s e s'=>al ah σ H s e s' j9) cR (.cons rfl r) c6
def Zls(X:Cx)(body:List Stmt)(cQ:(St→Prop)→XK→TS):Prop:=∀(J:St→Prop)(hV:XK)(pn:List (Addr×Obj))(jy:Value→Shared→Prop),PassesOwn (model X.prog X.w) X.A X.env jy→
 Uj (CXX X.prog X.w) {X with pn:=pn,xe:=jy} J hV→PSs {X with pn:=pn,xe:=jy} body (cQ J hV)
end
section
variable {K:Frag}{H:Hp}
theorem e4.ints{p:Addr}{ns:List Int}(h:SqL K H p (ns.map V.int)):e4 K H (.ref p) (.list (ns.map PyData.int)):= .lst h (DRels.ints ns)
namespace Rd
variable {Q:VK}
end Rd
end
structure Walks(J:It)(n:Nat)(f:Nat→V)(H:Hp):Prop where
 go:∀H' i,Zc H H'→i<n→J.go i H'
 yld:∀H' i x ar,Zc H H'→i<n→J.yld i H' x ar→ar=H'∧x=f i
 stop:∀H',Zc H H'→J.stop n H'
theorem U2{lo:Int}{n:Nat}{H:Hp}:Walks (Itr lo n) n (λi=> .int (lo+i)) H:=⟨λ_ _ _ h=>h,λ_ _ _ _ _ _ h=>h,λ_ _=>Qc _⟩
theorem e7{K:Frag}{a:Addr}{xs:List V}{H:Hp}(h:SqL K H a xs):Walks (Itl K a) xs.length (λi=>xs.getD i .non) H:=
 ⟨λH' i e hi=>⟨xs,xs[i],e.seq h,by simp[hi]⟩,λH' i x ar e hi y=>⟨y.1,by
  have:=y.2 xs (e.seq h);simp[List.getD,this]⟩,λH' e=>⟨xs,e.seq h,Qc _⟩⟩
theorem m8{K:Frag}{a:Addr}{xs:List V}{H:Hp}(h:SqT K H a xs):Walks (Itt K a) xs.length (λi=>xs.getD i .non) H:=
 ⟨λH' i e hi=>⟨xs,xs[i],e.seqT h,by simp[hi]⟩,λH' i x ar e hi y=>⟨y.1,by
  have:=y.2 xs (e.seqT h);simp[List.getD,this]⟩,λH' e=>⟨xs,e.seqT h,Qc _⟩⟩
theorem Ym{J:It}{n:Nat}{f:Nat→V}{H0:Hp}(w:Walks J n f H0){g:TG}{cQ:TS}{D:WP}{σ:St}{H:Hp}(Pv:Nat→St→Hp→Prop)(c7:Pv 0 σ H)(aA:∀i σ H,Pv i σ H→Zc H0 H)
  (hs:∀i σ H,i<n→Pv i σ H→g (f i) σ H λcB ar=>cQ {D with nx:=Pv (i+1),ct:=Pv (i+1),bk:=D.nx} cB ar) (hd:∀σ H,Pv n σ H→D.nx σ H):
  ∃W:Nat→Nat→St→Hp→Prop,(∃m,W 0 m σ H)∧∀i m σ H,W i m σ H→
   (J.stop i H∧D.nx σ H)∨(J.go i H∧∃N:St→Hp→Prop,(∀aW H',N aW H'→∃cn,cn<m∧W (i+1) cn aW H')∧∀x H',J.yld i H x H'→g x σ H' λcB ar=>cQ {D with nx:=N,ct:=N,bk:=D.nx} cB ar):=by
 refine⟨λi m σ H=>m=n-i∧i≤n∧Pv i σ H,⟨n,by simp,Qx _,c7⟩,?_⟩;rintro i m σ H ⟨rfl,hi,p⟩;have aI:=aA i σ H p
 by_cases dx:i<n
 ·refine .inr ⟨w.go H i aI dx,Pv (i+1),λaW H' iq=>⟨n-(i+1),by omega,rfl,dx,iq⟩,λx H' y=>?_⟩;obtain⟨rfl,rfl⟩:=w.yld H i x H' aI dx y;exact hs i σ _ dx p
 ·have e:i=n:=by omega
  subst e;exact .inl ⟨w.stop H aI,hd σ H p⟩
theorem VW{ix:List Nat}{di:TT}{cr:TE}{Q:Addr→Hp→Prop}{σ:St}{H:Hp}{J:It}{n:Nat}{f:Nat→V}(w:Walks J n f H)(bL:n<sizeLine)(c:Nat→Bool)(r:Nat→V)
  (aG:∀i H' (cL:Bool→Hp→Prop),i<n→Zc H H'→(∀a3,Zc H' a3→cL (c i) a3)→di (some (f i)::ix.map λj=>(σ[j]?).join) H' cL)
  (b':∀i H' (cL:VK),i<n→c i=true→Zc H H'→(∀bH,Zc H' bH→cL (r i) bH)→cr (some (f i)::ix.map λj=>(σ[j]?).join) H' cL)
  (q:∀p H',H p=none→Zc H H'→H' p=some (.lst (((List.range n).filter c).map r))→Q p H'):
  ∀p,H p=none→∃W:Nat→Nat→List V→St→Hp→Prop,(∃m,W 0 m [] (emb ix σ) (upd H p (.lst [])))∧∀i m ys aW H',W i m ys aW H'→
   (J.stop i H'∧Q p H')∨(J.go i H'∧∀x ar,J.yld i H' x ar→VZ 0 x aW ar λcB a2=>di cB a2 λb a3=>
    if b=true then cr cB a3 λv bH=>bH p=some (.lst ys)∧ys.length<sizeLine∧∃cn,cn<m∧W (i+1) cn (ys++ [v]) cB (upd bH p (.lst (ys++ [v])))
    else ∃cn,cn<m∧W (i+1) cn ys cB a3):=by
 intro p a1;refine⟨λi m ys aW H'=>m=n-i∧i≤n∧(∃a,aW=a::ix.map λj=>(σ[j]?).join)∧Zc H H'∧H' p=some (.lst ys)∧ys=((List.range i).filter c).map r,
  ⟨n,by simp,Qx _,⟨none,rfl⟩,cF a1,Ze,rfl⟩,?_⟩
 rintro i m ys aW H' ⟨rfl,hi,⟨a,rfl⟩,aI,cx,ai⟩
 by_cases dx:i<n
 ·refine .inr ⟨w.go H' i aI dx,λx ar y=>?_⟩;obtain⟨rfl,rfl⟩:=w.yld H' i x ar aI dx y;show di ((a::ix.map λj=>(σ[j]?).join).set 0 (some (f i))) ar _;have dg:ys.length≤i:=by
   rw[ai,Qb];exact Qv (Rc _ _) (by simp)
  refine aG i ar _ dx aI λa3 cp=>?_;have i4:=aI.trans cp;have i5:=cp _ _ cx;have step:(List.range (i+1)).filter c=(List.range i).filter c++(if c i=true then[i] else[]):=by
   rw[Rk,Q6]
   congr 1
   by_cases h:c i=true<;>simp[h]
  by_cases ft:c i=true
  ·rw[ft,if_pos rfl];refine b' i a3 _ dx ft i4 λbH cK=>⟨cK _ _ i5,by omega,n-(i+1),by omega,rfl,dx,⟨_,rfl⟩,(i4.trans cK).new a1,Ze,?_⟩;rw[step,if_pos ft,QQ,ai]
   rfl
  ·have tb:c i=false:=by simpa using ft
   rw[tb,if_neg Qh];refine⟨n-(i+1),by omega,rfl,dx,⟨_,rfl⟩,i4,i5,?_⟩;rw[step,if_neg ft,Q5,ai]
 ·have e:i=n:=by omega
  subst e;exact .inl ⟨w.stop H' aI,q p H' a1 aI (by rw[←ai];exact cx)⟩
structure Zr(A:List Addr)(H H':Hp):Prop where
 keep:∀b o,H b=some o→b∉A→H' b=some o
 tups:∀b xs,H b=some (.tup xs)→H' b=some (.tup xs)
theorem Zc.frame{A:List Addr}{H H':Hp}(e:Zc H H'):Zr A H H':=⟨λb o h _=>e b o h,λb xs h=>e b _ h⟩
theorem Zr.refl{A:List Addr}{H:Hp}:Zr A H H:=(Zc.refl H).frame
theorem Zr.trans{A:List Addr}{H ao ar:Hp}(a:Zr A H ao)(b:Zr A ao ar):Zr A H ar:=⟨λc o h n=>b.keep c o (a.keep c o h n) n,λc xs h=>b.tups c xs (a.tups c xs h)⟩
theorem Zr.mono{A B:List Addr}{H H':Hp}(a:Zr A H H')(h:∀x∈A,x∈B):Zr B H H':=⟨λc o e n=>a.keep c o e λz=>n (h c z),a.tups⟩
theorem fu{A:List Addr}{H:Hp}{p:Addr}{o cS:HO}(a1:p∈A)(h:H p=some o)(aT:∀xs,o≠ .tup xs):Zr A H (upd H p cS):=by
 refine⟨λb u e n=>?_,λb xs e=>?_⟩
 ·have z:b≠p:=λz=>n (by rw[z];exact a1);rw[bJ z];exact e
 ·have z:b≠p:=λz=>aT xs (by rw[z,h] at e;exact Qq e);rw[bJ z];exact e
def ZV(A m9:List Addr)(H:Hp):Prop:=∀a∈m9,a∈A∨H a=none
theorem ZV.refl{A:List Addr}{H:Hp}:ZV A A H:=λ_ h=> .inl h
section
variable {K:Frag}{H H':Hp}{A m9:List Addr}
namespace Rd
variable {Q:VK}
end Rd
end
noncomputable def Its (x:Str):It:=⟨λi _=>i<x.cps.size,λi H v H'=>H'=H∧∃c,x.cps[i]? =some c∧v= .str ⟨#[c]⟩,λi _=>x.cps.size≤i⟩
theorem CZ{P:Program}{w:World}{K:Frag}{cM:Expr}(it:Addr)(x:Str)(t:Tok)(ty:String)(hR:ty="str_ascii_iterator" ∨ty="str_iterator"):V1 P w K cM (Its x) [it] it (λi h=>h.IsStrIter it ty x t i) where
 mem:=by simp
 obj:=λi h st b am=>by
  have e:b=it:=by simpa using am
  subst e;obtain⟨o,e,c,d⟩:=st;exact⟨o,e,λv z=>by rw[d] at z;cases z⟩
 keep:=λi h h' st k=>let⟨o,a_,r⟩:=st;⟨o,k it (by simp) o a_,r⟩
 item:=by
  intro X dH hw hK aG i ah s σ H E I aX st ci;subst dH hw hK;obtain⟨ew,f1,f2,cX,c9,d1⟩:=aX it (by simp);have hi:i<x.cps.size:=ci;have eQ:∀h':Heap,h'.IsStrIter it ty x t (i+1)→Heap.SameBut it s.heap h'→∃u,some (Value.str ⟨#[x.cps[i]]⟩ s.toks)=some u∧
    wpAny (model X.prog X.w) X.A (letOwnedTupleGo cM (.ref it) u) (λ_ bc=>∃y H',Inv X ah σ H' bc∧cO y u∧(Its x).yld i H y H'∧bc.heap.IsStrIter it ty x t (i+1)∧∀b∈[it],H' b=none) E {s with heap:=h',toks:=s.toks+1}:=λh' gN j2=>by
   have a0:Inv X ah σ H {s with heap:=h',toks:=s.toks+1}:=I.turned (t':=s.toks+1) (λb o am e=>(j2.2 b am).trans e) ew f1 cX c9 d1;obtain⟨o,e,c,d⟩:=id gN;refine⟨_,rfl,on (s:={s with heap:=h',toks:=s.toks+1}) e c d (by rcases hR with rfl|rfl<;>decide) ⟨.str ⟨#[x.cps[i]]⟩,H,a0,⟨_,rfl⟩,⟨rfl,x.cps[i],by simp[hi],rfl⟩,gN,λb am=>(aX b am).1⟩⟩
  rcases hR with rfl|rfl
  ·exact wpAny_pyNext_ascii_item st (c:=x.cps[i]) (by simp[hi]) eQ
  ·exact wpAny_pyNext_wide_item st (c:=x.cps[i]) (by simp[hi]) eQ
 done:=by
  intro X dH hw hK aG i ah s σ H E I aX st ci;subst dH hw hK;obtain⟨ew,f1,f2,cX,c9,d1⟩:=aX it (by simp);have hi:x.cps.size≤i:=ci;rcases hR with rfl|rfl
  ·exact wpAny_pyNext_ascii_end (I.ok.hd aG) st (by simp[hi]) λh' eB=>⟨rfl,I.turned (t':=s.toks) (λb o am e=>eB b o am e) ew f1 cX c9 d1⟩
  ·exact wpAny_pyNext_wide_end (I.ok.hd aG) st (by simp[hi]) λh' eB=>⟨rfl,I.turned (t':=s.toks) (λb o am e=>eB b o am e) ew f1 cX c9 d1⟩
 self:=λ_ _ _ _ _ st h=>by
  rcases hR with rfl|rfl
  ·exact wpAny_pyIter_striter_ascii st h
  ·exact wpAny_pyIter_striter_wide st h
section
variable {X:Cx}{cM:Expr}
noncomputable def w0 (es:TE):TI:=λσ H R=>es σ H λx ao=>∃y,x= .str y∧R (Its y) ao
theorem C0{l:Expr}{es:TE}(ai:PE X l es):PI X cM l (w0 es):=by
 intro ah s σ H R I h;refine thn (ai ah s σ H _ I h) λv aB ⟨x,ao,a0,cy,cz⟩=>?_;obtain⟨y,e,q⟩:=cz;subst e;obtain⟨t,rfl⟩:=cy;have eQ:∀ty:String,(ty="str_ascii_iterator" ∨ty="str_iterator")→PIE X ah σ cM R (.ref aB.heap.objs.size) {aB with heap:=aB.heap.push {cls:= .type ty,data:= .fields #[.str y t,.int 0 0]}}:=λty hR=>by
  refine⟨aB.heap.objs.size,[aB.heap.objs.size],_,_,ao,rfl,a0.kept (t':=aB.toks) λb o e=>Heap.get?_push_of_some _ e,CZ _ y t ty hR,⟨_,Heap.get?_push_size _ rfl,rfl,rfl⟩,λb am=>?_,q⟩;have e:b=aB.heap.objs.size:=by simpa using am
  subst e;exact a0.fpOk (Qc _) (a0.hok.fresh (Qc _))
 cases aS:y.cps.all (· <128)
 ·exact wpAny_pyIter_wide aS (eQ _ (.inr rfl))
 ·exact wpAny_pyIter_ascii aS (eQ _ (.inl rfl))
theorem ZgE{x:Str}{H:Hp}:Walks (Its x) x.cps.size (λi=> .str ⟨#[x.cps.getD i 0]⟩) H:=
 ⟨λ_ _ _ h=>h,λH' i v ar _ hi ⟨e,c,aG,cH⟩=>⟨e,by rw[cH];simp[Array.getD,hi] at aG⊢;exact aG.symm⟩,λ_ _=>Qc _⟩
noncomputable def rLeS:R2:=λx y H Q=>∃i j,x= .str i∧y= .str j∧Q (.bl (!decide (j.cps.toList<i.cps.toList))) H
theorem w1:OpR X (compareOp .LtE) rLeS:=by
 intro ah s σ H x y v u Q I bI cv h;obtain⟨i,j,rfl,rfl,q⟩:=h;obtain⟨t,rfl⟩:=bI;obtain⟨t',rfl⟩:=cv;exact PySem.P.le_str ⟨.bl _,H,I,rfl,q⟩
theorem tc{s:Shared}:∀{bs:List Bool}{us:List Value},cD (bs.map V.bl) us→us=bs.map Value.bool
 | [],_,r=>by cases r;rfl
 |b::bs,_,r=>by
  cases r with
  |cons cy cU=>
   have e:_=Value.bool b:=cy;rw[e,tc (s:=s) cU]
   rfl
theorem C1{s:Shared}{h':Heap}{o:Obj}(aA:∀b x,b∉[s.heap.objs.size]→(s.heap.push o).get? b=some x→h'.get? b=some x):∀b x,s.heap.get? b=some x→h'.get? b=some x:=
 λb x e=>aA b x (λa4=>by rw[Qm.mp a4] at e;exact QU _ (Heap.lt_size e)) (Heap.get?_push_of_some _ e)
theorem ZfK(bs:List Bool):((List.range bs.length).all λi=>(bs[i]?).getD true)=bs.all id:=by
 rw[Rf,Ra,Ra]
 constructor
 ·intro h b am;obtain⟨i,hi,rfl⟩:=QJ am;have:=h i (QF.mpr hi);simpa[Qa hi] using this
 ·intro h i hi;have eN:=QF.mp hi;simp only[Qa eN,Option.getD_some];exact h _ (Qf eN)
theorem Zgn(aG:X.calm=true):Yv X (.builtin "all") (λxs H Q=>∃(p:Addr)(bs:List Bool),xs=[.ref p]∧SqL X.K H p (bs.map V.bl)∧Q (.bl (bs.all id)) H):=by
 intro ah s σ H xs us Q I r h;obtain⟨p,bs,rfl,cj,q⟩:=h;obtain⟨u,rfl,bI⟩:=WL r;cases bI;obtain⟨its,cW,pl,bh⟩:=I.list cj;have fb:=tc (s:=s) cW;subst fb;have ai:=pl.isList;have dx:p<s.heap.objs.size:=by obtain⟨_,e,_⟩:=ai;exact Heap.lt_size e
 refine call_all_walk (wpAny_pyIter_list ai ?_);refine⟨s.heap.objs.size,[s.heap.objs.size,p],[s.heap.objs.size],(bs.map Value.bool).toArray.size,_,_,λi=>(bs[i]?).getD true,rfl,PySem.Walks.list (A:=X.A.in1) (I.ok.hd aG) _ p (Qs dx) (bs.map Value.bool).toArray,
  ⟨⟨_,Heap.get?_push_size _ rfl,rfl,rfl⟩,ai.push _⟩,λi v s' og E' dH eX=>?_,λh' dI aA=>?_⟩
 ·have oZ:(bs.map Value.bool)[i]? =some v:=by simpa using dH
  rw[Qp] at oZ;cases e:bs[i]? with
  |none=>rw[e] at oZ;cases oZ
  |some b=>
   rw[e] at oZ;cases oZ;have w2:og ((bs[i]?).getD true) s':=eX;rw[e] at w2;exact wpAny_truthy_bool w2
 ·have e:((List.range (bs.map Value.bool).toArray.size).all λi=>(bs[i]?).getD true)=bs.all id:=by
   rw[Qd,Qb];exact ZfK bs
  rw[e];exact⟨.bl (bs.all id),H,I.kept (C1 aA),rfl,q⟩
theorem Zg2(aG:X.calm=true):Yv X (.builtin "sum") (λxs H Q=>∃(p:Addr)(ns:List Int),xs=[.ref p]∧SqL X.K H p (ns.map V.int)∧Q (.int ns.sum) H):=by
 intro ah s σ H xs us Q I r h;obtain⟨p,ns,rfl,cj,q⟩:=h;obtain⟨u,rfl,bI⟩:=WL r;cases bI;obtain⟨its,cW,pl,bh⟩:=I.list cj;have hi:=ZbW cW;obtain⟨xs,al⟩:=hi.allInts.items;have dX:s.heap.IsList p (intItems xs):=al▸pl.isList;refine sum_intListG (I.ok.hd aG) dX λh' dI t' aA=>?_;have aV:ns=xs.toList.map (·.1):=by
  rw[←nums_intItems,←al];exact(show numsOf its.toArray.toList=ns from hi.numsOf).symm
 have a8:preSum (numAt xs) xs.size=ns.sum:=by
  rw[preSum_eq,QS (by simp),aV]
 rw[a8];exact⟨.int ns.sum,H,I.kept aA,⟨_,rfl⟩,q⟩
end
structure ZfU(K:Frag)(x qual:Str)(st:Stmt)(dT:Addr)(f:Addr)(fd:FuncData):Prop where
 ex:∃(e_:Value)(dY:Option Addr)(kV e5 eM:Value)(an:Option Addr)(cw ct:Value)(f7:Array (Option Value)),
  fd=fnOf x qual (iY st) (hT st) (cq st) (.ref dT) kV e5 eM an cw ct∧K.lookup f=some ⟨e_,dY,.func fd,f7⟩∧codeIn K cw qual=true
 kp:keepIn K (.ref f)=true
section
variable {P:Program}{w:World}{K:Frag}{mg:Str→Option Value}{base:Heap}
theorem ZfU.okX{x qual:Str}{st:Stmt}{dT f:Addr}{fd:FuncData}{N a5:List Str}{k:Nat}{sp:Sp}(F:ZfU K x qual st dT f fd)(S:Zq N a5 (cq st))(len:∀vs H Q E,sp vs H Q E→vs.length=a5.length)
  (lO:∀(cw:Value)(A:Around)(outer:List Env)(s:Shared)(H:Hp)(vs:List V)(Q:VK)(E:XK),d7 k (A.deeper (envOfC qual (cq st) s.heap.objs.size f cw))→sp vs H Q E→
   ∃t,PSs (cxX P w K mg base N qual (cq st) f cw A outer s H E) (hT st) t∧t {nx:=λ_ H'=>Q .non H',rt:=Q} (start N vs) H):Yo P w K mg base (CXX P w) (k+1) f fd a5 sp:=by
 obtain⟨e_,dY,kV,e5,eM,an,cw,ct,f7,rfl,lk,ho⟩:=F.ex;exact Zh5 lk ho S len λA outer s H vs Q E au ht=>lO cw A outer s H vs Q E au ht
theorem ZiC{x qual:Str}{st:Stmt}{dT f:Addr}{e_:Value}{dY an:Option Addr}{f7:Array (Option Value)}{kV e5 eM cw ct:Value}(l:K.lookup f=some ⟨e_,dY,.func (fnOf x qual (iY st) (hT st) (cq st) (.ref dT) kV e5 eM an cw ct),f7⟩)
  (c:codeIn K cw qual=true) (k:keepIn K (.ref f)=true):ZfU K x qual st dT f (fnOf x qual (iY st) (hT st) (cq st) (.ref dT) kV e5 eM an cw ct):=⟨⟨e_,dY,kV,e5,eM,an,cw,ct,f7,rfl,l,c⟩,k⟩
theorem C2{h₀:Heap}{x:Str}{C:Addr}{w3:List Value}{kK:String}(X:K.In h₀)(g:h₀.Ns mainGlobals mg)(e:nsIn K mainGlobals x=some (some (.ref C)))(q:excIn K C w3 kK=true):OwnCls x C w3 kK mg h₀:=by
 refine⟨mg_of X g e,?_⟩;unfold excIn at q
 split at q
 ·rename_i dd cd sl a_
  split at q
  ·rename_i Nt bm k0 k1 k2 k3 n k5 a4 hs;simp only[fm,beq_iff_eq,Bool.not_eq_true'] at q;obtain⟨⟨⟨⟨⟨rfl,rfl⟩,w4⟩,aT⟩,hok⟩,qt⟩:=q;obtain⟨nm,bs,Nu,ns,lL,hd,sn,sub,ab,col,Nv⟩:=cd;dsimp only at a4 w4 hok qt;subst a4 w4;have m_:sl=#[k0,k1,k2,k3,some (.builtin n),k5]:=by
    obtain⟨l⟩:=sl;simp only at hs;rw[hs]
   subst m_;exact⟨bm,ns,nm,lL,bs,hd,sn,sub,ab,col,dd,k0,k1,k2,k3,k5,_,X _ _ a_,.of_isNs (PySem.W.isNs_of_in X hok),PySem.W.nsMap_none_of_in X hok qt,PySem.W.tail_of_in X aT⟩
  ·cases q
 ·cases q
section
variable {N:List Str}{qual:Str}{scope:Scope}{f:Addr}{cd:Value}{A:Around}{outer:List Env}{s₀:Shared}{H₀:Hp}{E:XK}
theorem hz{x:Str}{ff fc pos:Pos}{kb:Expr}{rest:List Expr}{t:TA}{C:Addr}{B kK s_:String}{bm:List Value}(e:nsIn K mainGlobals x=some (some (.ref C)))(q:excIn K C bm kK=true)(FB:ExcBaseFacts B kK s_ bm)
  (ci:Gl (cxX P w K mg base N qual scope f cd A outer s₀ H₀ E) x) (aS:PA (cxX P w K mg base N qual scope f cd A outer s₀ H₀ E) (kb::rest) t)
  (b':starEach (kb::rest) (cxX P w K mg base N qual scope f cd A outer s₀ H₀ E).env=(false,eval kb (cxX P w K mg base N qual scope f cd A outer s₀ H₀ E).env)::starEach rest (cxX P w K mg base N qual scope f cd A outer s₀ H₀ E).env:=by rfl)
  (lW:(backTo fc (starEach rest (cxX P w K mg base N qual scope f cd A outer s₀ H₀ E).env)).any (·.1)=false:=by rfl) (fA:(x==("__debug__" :Str))=false:=by decide):
  PS (cxX P w K mg base N qual scope f cd A outer s₀ H₀ E) (.Raise (some (.Call (.Name x ff) (kb::rest) [] fc)) none pos) (s8 (.ref C) E t):=by
 intro ah s σ H D I h;exact ZhT (C2 I.ok.mod.kin I.ok.mod.glob e q) FB ci aS b' lW fA ah s σ H D I h
end
end
section
variable {X:Cx}
noncomputable def rSlS:V→Option Int→Option Int→Hp→VK→Prop:=λx lo hi H Q=>∃z,x= .str z∧z.length≤sizeLine∧Q (.str (Txt.slice z lo hi)) H
theorem C3:SlR X rSlS:=by
 intro ah s σ H x v e6 fq lo hi sl Q I bI hs pl f8 h;obtain⟨z,rfl,bh,q⟩:=h;obtain⟨t,rfl⟩:=bI;refine⟨"str",_,F.slot_str_getitem.lookup,typeIs_str _ _ _,?_⟩;have eQ:∀l u:Option (Int×Tok),l.map (·.1)=lo→u.map (·.1)=hi→partValue l=e6→partValue u=fq→wpAny (model X.prog X.w) X.A (getItem (.str z t) (.ref sl)) (EP X ah σ Q) X.xe s:=λl u aV a8 eP i3=>by
  obtain⟨o,a_,aG,hd⟩:=hs;subst aV a8 eP i3;exact wpAny_getItem_str_slice (l:=l) (u:=u) (st:=none) ⟨o,a_,aG,hd⟩ rfl (post_val_or_str ⟨Qv (Txt.slice_le z _ _) bh,λt' k=>⟨.str _,H,I.tok k,⟨_,rfl⟩,q⟩⟩)
 cases pl with
 |none=>
  cases f8 with
  |none=>exact eQ none none rfl rfl rfl rfl
  |int j t'=>exact eQ none (some (j,t')) rfl rfl rfl rfl
 |int i ti=>
  cases f8 with
  |none=>exact eQ (some (i,ti)) none rfl rfl rfl rfl
  |int j t'=>exact eQ (some (i,ti)) (some (j,t')) rfl rfl rfl rfl
noncomputable def td (K:Frag):V→Option Int→Option Int→Hp→VK→Prop:=λx lo hi H Q=>wJ K x lo hi H Q∨(wG K x lo hi H Q∨rSlS x lo hi H Q)
theorem C4:SlR X (td X.K):=Cg.or (wH.or C3)
end
structure Wl(K:Frag)(C:Addr)(fs:List Str):Prop where
 out:∀f∈fs,hr K C f
theorem Wl.get{K:Frag}{C:Addr}{fs:List Str}{f:Str}(h:Wl K C fs)(m:fs.contains f=true):hr K C f:=h.out f (by simpa using m)
namespace Rd
section
variable {σ:St}{H:Hp}{Q:VK}{D:WP}{K:Frag}
theorem slL{a:Addr}{xs:List V}{lo hi:Option Int}(h:SqL K H a xs)(q:∀p,H p=none→Q (.ref p) (upd H p (.lst (gm xs lo hi)))):td K (.ref a) lo hi H Q:= .inl ⟨a,xs,rfl,h,q⟩
theorem sl{r:V→Option Int→Option Int→Hp→VK→Prop}{cr:TE}{es hv:TO}(h:cr σ H λx ao=>es σ ao λl ar=>hv σ ar λu a2=>r x l u a2 Q):tSl r cr es hv σ H Q:=h
theorem ZjT{Q:Option Int→Hp→Prop}(h:Q none H):tNoPart σ H Q:=h
theorem Zk0{cr:TE}{Q:Option Int→Hp→Prop}(h:cr σ H λx ao=>∃i,x= .int i∧Q (some i) ao):wE cr σ H Q:=h
theorem ZkC{i:Int}{C:Int→Prop}(h:C i):∃j,V.int i= .int j∧C j:=⟨i,rfl,h⟩
theorem Zlq{bn:TE}{f:Str}(h:bn σ H λx ao=>∃a C ap fs v,x= .ref a∧ao a=some (.ins C ap fs)∧Cls K C∧hr K C f∧fs.lookup f=some v∧Q v ao):so K bn f σ H Q:=h
theorem fld{a C ap:Addr}{fs:List (Str×V)}{f:Str}{v:V}{G:V→Prop}(h:H a=some (.ins C ap fs))(c:Cls K C)(n:hr K C f)(l:fs.lookup f=some v)(q:G v):
  ∃cE C ap fs v,V.ref a= .ref cE∧H cE=some (.ins C ap fs)∧Cls K C∧hr K C f∧fs.lookup f=some v∧G v:=⟨a,C,ap,fs,v,rfl,h,c,n,l,q⟩
theorem Zkl{C:Addr}{m:Str}{sp:Sp}{dy:List V}{E:XK}{bn:TE}{t:TA}(h:bn σ H λx ao=>∃a ap fs,x= .ref a∧ao a=some (.ins C ap fs)∧fs.lookup m=none∧t σ ao λvs ar=>sp (x::(vs++dy)) ar Q E):ov C m sp dy E bn t σ H Q:=h
theorem Zk6{a C ap:Addr}{fs:List (Str×V)}{m:Str}{G:Prop}(h:H a=some (.ins C ap fs))(l:fs.lookup m=none)(q:G):∃cE ap fs,V.ref a= .ref cE∧H cE=some (.ins C ap fs)∧fs.lookup m=none∧G:=⟨a,ap,fs,rfl,h,l,q⟩
theorem Zkt{C:Addr}{sp:Sp}{dy:List V}{E:XK}{t:TA}(h:t σ H λvs ao=>∀x ap,ao x=none→ao ap=none→ap≠x→
  sp (.ref x::(vs++dy)) (upd (upd ao ap (.own x)) x (.ins C ap [])) (λv ar=>v= .non∧Q (.ref x) ar) E):ow C sp dy E t σ H Q:=h
theorem Zk9{bn gF:TE}{f:Str}(h:gF σ H λy ao=>bn σ ao λx ar=>∃a C ap fs,x= .ref a∧ar a=some (.ins C ap fs)∧Cls K C∧hr K C f∧fs.length<1000∧D.nx σ (upd ar a (.ins C ap (fl f y fs)))):sr K bn gF f D σ H:=h
theorem ZkH{a C ap:Addr}{fs jT:List (Str×V)}{f:Str}{y:V}(h:H a=some (.ins C ap fs))(c:Cls K C)(n:hr K C f)(l:fs.length<1000)(e:fl f y fs=jT)(q:D.nx σ (upd H a (.ins C ap jT))):
  ∃cE C ap fs,V.ref a= .ref cE∧H cE=some (.ins C ap fs)∧Cls K C∧hr K C f∧fs.length<1000∧D.nx σ (upd H cE (.ins C ap (fl f y fs))):=⟨a,C,ap,fs,rfl,h,c,n,l,by rw[e];exact q⟩
theorem raise{cls:Value}{E:XK}{t:TA}(h:t σ H λvs ao=>vs.length≤sizeLine∧E cls none ao):s8 cls E t D σ H:=h
theorem ZjR{v:V}{G:Prop}(q:G):[v].length≤sizeLine∧G:=⟨by show 1≤sizeLine;decide,q⟩
theorem Zkx{cr:TE}{R:It→Hp→Prop}(h:cr σ H λx ao=>∃a,x= .ref a∧(∃xs,SqL K ao a xs)∧R (Itl K a) ao):se K cr σ H R:=h
theorem ZkR{cr:TE}{R:It→Hp→Prop}(h:cr σ H λx ao=>∃y,x= .str y∧R (Its y) ao):w0 cr σ H R:=h
theorem ZkE{y:Str}{G:Str→Prop}(h:G y):∃z,V.str y= .str z∧G z:=⟨y,rfl,h⟩
theorem Zkn{ix:List Nat}{eg:TI}{g:TG}{di:TT}{cr:TE}(h:eg σ H λJ ao=>∀p,ao p=none→
 ∃W:Nat→Nat→List V→St→Hp→Prop,(∃m,W 0 m [] (emb ix σ) (upd ao p (.lst [])))∧∀i m ys aW H',W i m ys aW H'→
  (J.stop i H'∧Q (.ref p) H')∨(J.go i H'∧∀x ar,J.yld i H' x ar→g x aW ar λcB a2=>di cB a2 λb a3=>
   if b=true then cr cB a3 λv bH=>bH p=some (.lst ys)∧ys.length<sizeLine∧∃cn,cn<m∧W (i+1) cn (ys++ [v]) cB (upd bH p (.lst (ys++ [v])))
   else ∃cn,cn<m∧W (i+1) cn ys cB a3)):qo ix eg g di cr σ H Q:=h
theorem Zly{Q:Bool→Hp→Prop}(h:Q true H):tAll σ H Q:=h
theorem lk0{f:Str}{v:V}{r:List (Str×V)}:((f,v)::r).lookup f=some v:=by simp
theorem lk1{f g:Str}{v:V}{o:Option V}{r:List (Str×V)}(n:(f==g)=false)(h:r.lookup f=o):((g,v)::r).lookup f=o:=by rw[QV,n];exact h
theorem lkN{f:Str}:([]:List (Str×V)).lookup f=none:=rfl
theorem pf0{f:Str}{v x:V}{r:List (Str×V)}:fl f v ((f,x)::r)=(f,v)::r:=by simp[fl]
theorem pf1{f g:Str}{v x:V}{r c0:List (Str×V)}(n:(g==f)=false)(h:fl f v r=c0):fl f v ((g,x)::r)=(g,x)::c0:=by
 have:¬g=f:=by simpa using n
 simp[fl,this,h]
theorem pfN{f:Str}{v:V}:fl f v []=[(f,v)]:=rfl
end
end Rd
namespace Rd
section
variable {H:Hp}{Q:VK}{K:Frag}
theorem ifD{c A B:Prop}[Decidable c](a:c→A)(b:¬c→B):if decide c=true then A else B:=by
 by_cases h:c
 ·exact ifP h (a h)
 ·exact ifN h (b h)
theorem Zk2{p:Addr}{bs:List Bool}{G:List Bool→Prop}(h:SqL K H p (bs.map V.bl))(q:G bs):∃(iq:Addr)(m':List Bool),[V.ref p]=[.ref iq]∧SqL K H iq (m'.map V.bl)∧G m':=⟨p,bs,rfl,h,q⟩
theorem leS{x y:Str}(q:Q (.bl (!decide (y.cps.toList<x.cps.toList))) H):rLeS (.str x) (.str y) H Q:=⟨x,y,rfl,rfl,q⟩
theorem ZkA{σ:St}{r c0:R2}{bn cQ di:TE}(h:bn σ H λx ao=>cQ σ ao λy ar=>r x y ar λz a2=>∃k,z= .bl k∧(if k=true then di σ a2 λhM a3=>c0 y hM a3 Q else Q (.bl false) a2)):wq r c0 bn cQ di σ H Q:=h
end
end Rd
theorem ZV.off{A m9:List Addr}{H:Hp}{q:Addr}(g:ZV A m9 H)(n:q∉A)(h:H q≠none):q∉m9:=λz=>(g q z).elim n h
namespace Rd
section
variable {H:Hp}{Q:VK}{K:Frag}
theorem un1{g:Int→V}{i:Int}(q:Q (g i) H):rU g (.int i) H Q:=⟨i,rfl,q⟩
theorem Zk8{z:Str}{i:Int}{c:Nat}(h:z.length≤sizeLine)(e:atI z.cps.toList i=some c)(q:Q (.str ⟨#[c]⟩) H):rIx K (.str z) (.int i) H Q:= .inr (.inr ⟨z,i,c,rfl,rfl,h,e,q⟩)
theorem Zjg{a:Addr}{xs:List V}{G:Addr→Prop}(h:SqL K H a xs)(q:G a):∃cE,V.ref a= .ref cE∧(∃xs,SqL K H cE xs)∧G cE:=⟨a,rfl,⟨xs,h⟩,q⟩
theorem Zkw{j:Int}{G:Int→Prop}(aq: -(2 ^ 62)≤j)(av:j<2 ^ 62)(q:G j):∃k,[V.int j]=[.int k]∧ -(2 ^ 62)≤k∧k<2 ^ 62∧G k:=⟨j,rfl,aq,av,q⟩
theorem Zlo{i j:Int}{G:Int→Int→Prop}(q:G i j):∃qv na,[V.int i,.int j]=[.int qv,.int na]∧G qv na:=⟨i,j,rfl,q⟩
end
end Rd
noncomputable def hid (H:Hp) (r:Addr):Hp:=λb=>if b=r then none else H b
theorem jz{H:Hp}{r:Addr}:hid H r r=none:=by unfold hid;rw[if_pos rfl]
theorem Y5{H:Hp}{r b:Addr}(h:b≠r):hid H r b=H b:=by unfold hid;rw[if_neg h]
theorem iz{H:Hp}{r:Addr}:Zc (hid H r) H:=λb o e=>by
 by_cases h:b=r
 ·rw[h,jz] at e;cases e
 ·rw[Y5 h] at e;exact e
theorem w5:∀ns:List Int,PyData.canLayAll0 (ns.map PyData.int)=true
 | []=>by simp[PyData.canLayAll0]
 |n::ns=>by
  have:=w5 ns;simp[PyData.canLayAll0,PyData.canLay0] at this⊢;exact this
theorem kd(ns:List Int):(PyData.list (ns.map PyData.int)).canLay0=true:=by
 have:=w5 ns;simp[PyData.canLay0];simpa using this
theorem te:∀ns:List Int,PyData.depthAll (ns.map PyData.int)≤1
 | []=>by simp[PyData.depthAll]
 |n::ns=>by
  have:=te ns;simp[PyData.depthAll,PyData.depth] at this⊢;exact this
theorem qw(ns:List Int):(PyData.list (ns.map PyData.int)).depth≤60:=by
 have:=te ns;simp only[PyData.depth];omega
namespace Rd
section
variable {H:Hp}{Q:VK}{K:Frag}
end
end Rd
namespace Rd
section
variable {σ:St}{H:Hp}{Q:VK}{K:Frag}{J:St→Prop}{E:XK}{sp:Sp}{dy:List V}{t:TA}{bn:TE}
theorem ZkI{C:Addr}{m:Str}(aU:J σ)(h:bn σ H λx ao=>∃a ap fs,x= .ref a∧ao a=some (.ins C ap fs)∧fs.lookup m=none∧t σ ao λvs ar=>sp (x::(vs++dy)) ar Q E):Zbo J C m sp dy E bn t σ H Q:=⟨aU,h⟩
theorem Zkk{C:Addr}(aU:J σ)(h:t σ H λvs ao=>∀x ap,ao x=none→ao ap=none→ap≠x→
  sp (.ref x::(vs++dy)) (upd (upd ao ap (.own x)) x (.ins C ap [])) (λv ar=>v= .non∧Q (.ref x) ar) E):Zd6 J C sp dy E t σ H Q:=⟨aU,h⟩
end
end Rd
namespace Rd
section
variable {σ:St}{H:Hp}
theorem ZkU{to ti:TE}{t:Zbk}{v:V}{Q:St→Hp→Prop}(h:to σ H λo ao=>ti σ ao λi ar=>t o i v ar λa2=>Q σ a2):wf to ti t v σ H Q:=h
theorem ZkQ{p:Addr}{xs:List V}{k:Int}{v:V}{Q:Hp→Prop}(a1:H p=some (.lst xs))(c7:0≤k)(aq:k<xs.length)(q:Q (upd H p (.lst (xs.set k.toNat v)))):rSetL (.ref p) (.int k) v H Q:=
 ⟨p,xs,k,k.toNat,rfl,rfl,a1,by unfold ixN;rw[if_pos c7,if_pos aq],q⟩
end
end Rd
section
variable {X hs:List Int}{i:Nat}{v u:Int}
end
section
variable {X:Cx}{K:Frag}
theorem ZiS(e:X.K=K):OpR X (binaryOp .Add) (rOr qu (rOr ZbX (rOr rCat (qk K)))):=e▸CY
theorem fN(e:X.K=K)(hu:X.A.units+64<cLine):OpR X (compareOp .Eq) (rOr rEq (kL K false)):=e▸ZjD hu
theorem hW(e:X.K=K)(hu:X.A.units+64<cLine):OpR X (compareOp .NotEq) (rOr rNe (kL K true)):=e▸ZjA hu
theorem Zlh(e:X.K=K):IxR X (rIx K):=e▸Ce
theorem nb(e:X.K=K):SlR X (td K):=e▸C4
noncomputable def tf (K:Frag):List V→Hp→VK→Prop:=λxs H Q=>∃x n,xs=[x]∧Uy K x H n∧Q (.int n) H
theorem ZkB(e:X.K=K):Yv X (.builtin "len") (tf K):=e▸B0
theorem ek{e:Expr}{bn:TE}{f:Str}{pos:Pos}(fE:X.K=K)(b':PE X e bn)(am:attributeBase e f X.env (eval e X.env)=eval e X.env):PE X (.Attribute e f pos) (so K bn f):=fE▸ZjX b' am
theorem h_{o value:Expr}{bn gF:TE}{f:Str}{pos iR:Pos}(fE:X.K=K)(aS:PE X o bn)(cH:PE X value gF)(hs:swapsWith value (some (.Attribute o f iR)) pos.line X.env=pure false):
  PS X (.Assign [.Attribute o f iR] value pos) (sr K bn gF f):=fE▸ZjG aS cH hs
theorem fh{cM l:Expr}{es:TE}(fE:X.K=K)(ai:PE X l es):PI X cM l (se K es):=fE▸ZiV ai
theorem nc{cM l:Expr}{es:TE}(fE:X.K=K)(ai:PE X l es):PI X cM l (ky K es):=fE▸Zjm ai
noncomputable def w6 (K:Frag) (bn:TE):TT:=λσ H Q=>bn σ H λx H'=>∃k,ot K x H' k∧Q k H'
theorem fW{a:Expr}{bn:TE}(fE:X.K=K)(aS:PE X a bn)(b':∀lE,isTrue a X.env lE=(do let v←lE;standAt a.pos;holding [v] (truthy v))):PT X a (w6 K bn):=fE▸ZhV aS b'
noncomputable def w7 (K:Frag):List V→Hp→VK→Prop:=λxs H Q=>∃x n t b,xs=[x,.ty n]∧Wm K H x t∧PySem.W.kitOne K t (.type n)=some b∧Q (.bl b) H
theorem l5(e:X.K=K):Yv X (.builtin "isinstance") (w7 K):=e▸CK
noncomputable def w8 (K:Frag):List V→Hp→VK→Prop:=λxs H Q=>∃p ys,xs=[.ref p]∧(SqL K H p ys∨SqT K H p ys)∧∀l,H l=none→Q (.ref l) (upd H l (.lst ys))
theorem i6(e:X.K=K):Yv X (.type "list") (w8 K):=e▸Ch
noncomputable def C5 (K:Frag):List V→Hp→VK→Prop:=λxs H Q=>∃p ys,xs=[.ref p]∧((SqL K H p ys∧∀l,H l=none→Q (.ref l) (upd H l (.tup ys)))∨(SqT K H p ys∧Q (.ref p) H))
theorem tg(e:X.K=K):Yv X (.type "tuple") (C5 K):=e▸Ci
noncomputable def w9 (K:Frag):List V→Hp→VK→Prop:=λxs H Q=>∃(p:Addr)(bs:List Bool),xs=[.ref p]∧SqL K H p (bs.map V.bl)∧Q (.bl (bs.all id)) H
theorem qx(e:X.K=K)(aG:X.calm=true):Yv X (.builtin "all") (w9 K):=e▸Zgn aG
noncomputable def C6 (K:Frag):List V→Hp→VK→Prop:=λxs H Q=>∃(p:Addr)(ns:List Int),xs=[.ref p]∧SqL K H p (ns.map V.int)∧Q (.int ns.sum) H
theorem nf(e:X.K=K)(aG:X.calm=true):Yv X (.builtin "sum") (C6 K):=e▸Zg2 aG
theorem C7{o:Expr}{to:TE}{name:Str}{ei fc:Pos}{T id:String}{r:V→List V→Hp→VK→Prop}(fE:X.K=K)(lT:PlainAttrs T)(slot:Slot T name id)(hR:typeOf (.builtin id)=pure (.type "method_descriptor"))(a4:MtR X id r)(a_:PE X o to)
  (lU:attributeBase o name X.env (eval o X.env)=eval o X.env:=by rfl) (lV:(ei.endLine==fc.line)=true:=by rfl):PE X (.Call (.Attribute o name ei) [] [] fc) (sB K T r to):=fE▸ZjI lT slot hR a4 a_ lU lV
theorem hA{o e:Expr}{a':List Expr}{to:TE}{t:TA}{name:Str}{ei fc:Pos}{T id:String}{r:V→List V→Hp→VK→Prop}(fE:X.K=K)(lT:PlainAttrs T)(slot:Slot T name id)(hR:typeOf (.builtin id)=pure (.type "method_descriptor"))(a4:MtR X id r)(a_:PE X o to)(aS:PA X (e::a') t)
  (lU:attributeBase o name X.env (eval o X.env)=eval o X.env:=by rfl)
  (g_:((backTo fc (starEach (e::a') X.env)).all (λx=>!x.1)&&(backToKw fc (keywordEach [] X.env)).all (λx=>x.1.isSome)
   &&decide ((e::a').length+([]:List Keyword).length+(if([]:List Keyword).isEmpty then 0 else 1)<30))=true:=by rfl)
  (lV:(ei.endLine==fc.line)=true:=by rfl) (hs:starEach (e::a') X.env=(false,eval e X.env)::starEach a' X.env:=by rfl) (lW:(backTo fc (starEach a' X.env)).any (·.1)=false:=by rfl):
  PE X (.Call (.Attribute o name ei) (e::a') [] fc) (tBM K T r to t):=fE▸ZkN lT slot hR a4 a_ aS lU g_ lV hs lW
theorem gs{a':List Expr}{k:Nat}{t:TGs}{n:Nat}{pos:Pos}(fE:X.K=K)(aG:X.calm=true)(h:PGs X a' t)(bL:(assignEach a' X.env).length=n:=by rfl)(ed:(assignEach a' X.env).findIdx? (·.1)=none:=by rfl):
  PG X (.Tuple a' k pos) (sc K n t):=fE▸Zjc aG h bL ed
end
namespace Rd
section
variable {σ:St}{H:Hp}{Q:VK}{K:Frag}
theorem tru{bn:TE}{Q:Bool→Hp→Prop}(h:bn σ H λx H'=>∃k,ot K x H' k∧Q k H'):w6 K bn σ H Q:=h
theorem Zlb{xs:List V}(h:∃x n,xs=[x]∧Uy K x H n∧Q (.int n) H):tf K xs H Q:=h
theorem ZkS{xs:List V}(h:∃x n t b,xs=[x,.ty n]∧Wm K H x t∧PySem.W.kitOne K t (.type n)=some b∧Q (.bl b) H):w7 K xs H Q:=h
theorem Zk3{xs:List V}(h:∃(p:Addr)(bs:List Bool),xs=[.ref p]∧SqL K H p (bs.map V.bl)∧Q (.bl (bs.all id)) H):w9 K xs H Q:=h
theorem Zb5{p:Addr}{xs:List V}(h:SqL K H p xs)(q:∀l,H l=none→Q (.ref l) (upd H l (.lst xs))):w8 K [.ref p] H Q:=⟨p,xs,rfl,.inl h,q⟩
end
end Rd
def HU(A:Around):Prop:=A.units+64<cLine
theorem d7.hu{k:Nat}{A:Around}(h:d7 k A):HU A:=h.units
theorem oA{i n a:Nat}(h:a=n)(k:i<n):i<a:=h▸k
theorem oB{n a m c:Nat}(h:a=n)(k:n≤m)(e:Nat.ble m c=true):a≤c:=h▸Qv k (QI e)
theorem oD{a m c:Nat}(k:a≤m)(e:Nat.ble m c=true):a≤c:=Qv k (QI e)
theorem oE{i n a:Nat}(h:a=n)(k:i<n):(i:Int)<(a:Int):=Int.ofNat_lt.mpr (h▸k)
theorem oF{i a:Nat}(k:i<a):(i:Int)<(a:Int):=Int.ofNat_lt.mpr k
theorem ixk{X:Cx}(K:Frag)(e:X.K=K:=by rfl):IxR X (rIx K):=Zlh e
theorem fi{X:Cx}(K:Frag)(e:X.K=K:=by rfl):OpR X (binaryOp .Add) (rOr qu (rOr ZbX (rOr rCat (qk K)))):=ZiS e
theorem fF{X:Cx}(K:Frag)(e:X.K=K:=by rfl):Yv X (.builtin "len") (tf K):=ZkB e
structure Ex(K:Frag)(mg:Str→Option Value)(nm:Str)(X:Addr):Prop where
 g:nsIn K mainGlobals nm=some (some (.ref X))
 m:mg nm=some (.ref X)
 e:excIn K X [.type "ValueError",.type "Exception",.type "BaseException",.type "object"] "ValueError.__new__" =true
theorem scI{N P:List Str}{bo:Scope}(a:bo.kind= .function:=by rfl)(b:bo.isCoroutine=false:=by rfl)(c:bo.isGenerator=false:=by rfl)(d:N.Nodup:=by decide+kernel)(e:N.take P.length=P:=by rfl)(f:∀x∈P,bo.names.lookup x=some .local∨bo.names.lookup x=some .cell:=by decide+kernel)(g:∀y∈bo.names,y.2≠ .free:=by decide+kernel):Zq N P bo:=⟨a,b,c,d,e,f,g⟩
structure Dn(K:Frag)(mg:Str→Option Value)(nm q:Str)(s:Stmt)(a5:List Str) where
 f:Addr
 d:FuncData
 F:Fun K nm q s f d
 b:Y8 K d a5 []
 m:mg nm=some (.ref f)
structure Dm(K:Frag)(C:Addr)(nm q:Str)(s:Stmt)(a5:List Str) where
 f:Addr
 d:FuncData
 F:Fun K nm q s f d
 b:Y8 K d a5 []
 M:Zba K C nm f
structure Di(K:Frag)(C:Addr)(q:Str)(s:Stmt)(a5:List Str) where
 f:Addr
 d:FuncData
 F:Fun K "__init__" q s f d
 b:Y8 K d a5 []
 M:Mk K C f
abbrev BOk(nm q:Str)(s:Stmt)(a5:List Str):Prop:=∀us:List Value,us.length=a5.length→∀(kV e5 eM:Value)(an:Option Addr)(cw ct:Value),bindArgs (fnOf nm q (iY s) (hT s) (cq s) .none kV e5 eM an cw ct) ⟨us,[]⟩=pure (a5.zip us)
section
variable {P:Program}{w:World}{K:Frag}{mg:Str→Option Value}{base h:Heap}{nm q:Str}{st:Stmt}{a5:List Str}{C f:Addr}{e_:Value}{dY an:Option Addr}{f7:Array (Option Value)}{kV dc eM cd ct:Value}
noncomputable def Dn.of (X:K.In h) (G:h.Ns mainGlobals mg) (a:nsIn K mainGlobals nm=some (some (.ref f))) (l:K.lookup f=some ⟨e_,dY,.func (fnOf nm q (iY st) (hT st) (cq st) .none kV dc eM an cd ct),f7⟩) (c:codeIn K cd q=true) (k:keepIn K (.ref f)=true)
  (am:BOk nm q st a5):Dn K mg nm q st a5:=⟨f,_,m3 l c k,(m3 l c k).binds λdk dm d4 eE eb a6 us e=>am us e dk dm d4 eE eb a6,mg_of X G a⟩
noncomputable def Dm.of (a:PySem.W.findIn K (.ref C) nm=some (some (.ref f))) (i:isFn K (.ref f)=true) (l:K.lookup f=some ⟨e_,dY,.func (fnOf nm q (iY st) (hT st) (cq st) .none kV dc eM an cd ct),f7⟩) (c:codeIn K cd q=true) (k:keepIn K (.ref f)=true)
  (am:BOk nm q st a5):Dm K C nm q st a5:=⟨f,_,m3 l c k,(m3 l c k).binds λdk dm d4 eE eb a6 us e=>am us e dk dm d4 eE eb a6,⟨a,i,k⟩⟩
noncomputable def Di.of (z:makesIn K C=true) (y:keepIn K (.ref C)=true) (a:PySem.W.findIn K (.ref C) "__init__" =some (some (.ref f))) (i:isFn K (.ref f)=true) (l:K.lookup f=some ⟨e_,dY,.func (fnOf "__init__" q (iY st) (hT st) (cq st) .none kV dc eM an cd ct),f7⟩) (c:codeIn K cd q=true) (k:keepIn K (.ref f)=true)
  (am:BOk "__init__" q st a5):Di K C q st a5:=⟨f,_,m3 l c k,(m3 l c k).binds λdk dm d4 eE eb a6 us e=>am us e dk dm d4 eE eb a6,⟨z,a,i,y⟩⟩
theorem Zhd{cG:Type _}{P:List cG→Prop}(h:P [])(us:List cG)(e:us.length=0):P us:=match us,e with| [],_=>h
theorem lenS{cG:Type _}{n:Nat}{P:List cG→Prop}(h:∀a (us:List cG),us.length=n→P (a::us))(us:List cG)(e:us.length=n+1):P us:=match us,e with|a::us,e=>h a us (Nat.succ.inj e)
theorem ZjY:Wl K C []:=⟨λ_ h=>nomatch h⟩
theorem ZiQ{x:Str}{xs:List Str}(h:PySem.W.findIn K (.ref C) x=some none)(t:Wl K C xs):Wl K C (x::xs):=⟨λf aX=>by
 rcases Qe.mp aX with e|e
 ·rw[e];exact h
 ·exact t.out f e⟩
theorem ZjE{dT:Addr}{a:Array Value}{n:Nat}(h:K.lookup dT=some ⟨e_,dY,.seq a n,f7⟩):∃e_ dY n sl,K.lookup dT=some ⟨e_,dY,.seq a n,sl⟩:=⟨_,_,_,_,h⟩
abbrev OkN(P:Program)(w:World)(base:Heap)(k:Nat)(D:Dn K mg nm q st a5)(sp:Sp):Prop:=Yo P w K mg base (CXX P w) k D.f D.d a5 sp
abbrev OkM(P:Program)(w:World)(mg:Str→Option Value)(base:Heap)(k:Nat)(D:Dm K C nm q st a5)(sp:Sp):Prop:=Yo P w K mg base (CXX P w) k D.f D.d a5 sp
abbrev OkI(P:Program)(w:World)(mg:Str→Option Value)(base:Heap)(k:Nat)(D:Di K C q st a5)(sp:Sp):Prop:=Yo P w K mg base (CXX P w) k D.f D.d a5 sp
end
section
variable {X:Cx}{CX:CXT}{j k:Nat}{C:Addr}{a5:List Str}{sp:Sp}{E:XK}{x m q:Str}{st:Stmt}{p pos ei:Pos}{e o:Expr}{a':List Expr}{bn:TE}{t:TA}{J:St→Prop}
theorem dq(D:Dn X.K X.mg x q st a5)(F:Yo X.prog X.w X.K X.mg X.base CX j D.f D.d a5 sp)(au:d7 k X.A)(al:YZ CX X E)(aS:PA X (e::a') t)(aU:Nat.ble j k=true:=by rfl)(ci:Gl X x:=by rfl)
  (fA:(x==("__debug__" :Str))=false:=by decide) (b':starEach (e::a') X.env=(false,eval e X.env)::starEach a' X.env:=by rfl) (fa:(backTo pos (starEach a' X.env)).any (·.1)=false:=by rfl):
  PE X (.Call (.Name x p) (e::a') [] pos) (qe sp [] E t):=ZiE (F.mono (QI aU)) au ci D.m D.F.kp D.b .nil al aS fA b' fa
theorem hc{pl:Sem Bool}(b':PE X o bn)(c:Cls X.K C)(D:Dm X.K C m q st a5)(F:Yo X.prog X.w X.K X.mg X.base CX j D.f D.d a5 sp)(au:d7 k X.A)(al:YZ CX X E)(aS:PA X (e::a') t)(aU:Nat.ble j k=true:=by rfl)
  (ed:starEach (e::a') X.env=(false,eval e X.env)::starEach a' X.env:=by rfl) (fa:(backTo pos (starEach a' X.env)).any (·.1)=false:=by rfl)
  (aT:eval (.Call (.Attribute o m ei) (e::a') [] pos) X.env=(do
   let de←eval o X.env
   standAt ei.atName
   let(f,first)←holding [de] (getMethod de m pl)
   callWith pos f first (backTo pos (starEach (e::a') X.env)) (backToKw pos (keywordEach [] X.env))):=by rfl):
  PE X (.Call (.Attribute o m ei) (e::a') [] pos) (ov C m sp [] E bn t):=wy b' c D.M (F.mono (QI aU)) au D.b .nil al aS ed fa aT
theorem ke{pl:Sem Bool}(b':PE X o bn)(c:Cls X.K C)(D:Dm X.K C m q st a5)(F:Yo X.prog X.w X.K X.mg X.base CX j D.f D.d a5 sp)(au:d7 k X.A)(al:YZ CX X E)(aU:Nat.ble j k=true:=by rfl)
  (aT:eval (.Call (.Attribute o m ei) [] [] pos) X.env=(do
   let de←eval o X.env
   standAt ei.atName
   let(f,first)←holding [de] (getMethod de m pl)
   callWith pos f first (backTo pos (starEach [] X.env)) (backToKw pos (keywordEach [] X.env))):=by rfl):
  PE X (.Call (.Attribute o m ei) [] [] pos) (ov C m sp [] E bn tNil):=ZhW b' c D.M (F.mono (QI aU)) au D.b .nil al aT
theorem w_{pl:Sem Bool}(b':PE X o bn)(c:Cls X.K C)(D:Dm X.K C m q st a5)(F:Yo X.prog X.w X.K X.mg X.base CX j D.f D.d a5 sp)(au:d7 k X.A)(al:Uj CX X J E)(aS:PA X (e::a') t)(aU:Nat.ble j k=true:=by rfl)
  (ed:starEach (e::a') X.env=(false,eval e X.env)::starEach a' X.env:=by rfl) (fa:(backTo pos (starEach a' X.env)).any (·.1)=false:=by rfl)
  (aT:eval (.Call (.Attribute o m ei) (e::a') [] pos) X.env=(do
   let de←eval o X.env
   standAt ei.atName
   let(f,first)←holding [de] (getMethod de m pl)
   callWith pos f first (backTo pos (starEach (e::a') X.env)) (backToKw pos (keywordEach [] X.env))):=by rfl):
  PE X (.Call (.Attribute o m ei) (e::a') [] pos) (Zbo J C m sp [] E bn t):=Zho b' c D.M (F.mono (QI aU)) au D.b .nil al aS ed fa aT
theorem th(D:Di X.K C q st a5)(F:Yo X.prog X.w X.K X.mg X.base CX j D.f D.d a5 sp)(au:d7 (k+1) X.A)(a4:X.mg x=some (.ref C))(al:YZ CX X E)(aS:PA X (e::a') t)(aU:Nat.ble j k=true:=by rfl)(ci:Gl X x:=by rfl)
  (fA:(x==("__debug__" :Str))=false:=by decide) (b':starEach (e::a') X.env=(false,eval e X.env)::starEach a' X.env:=by rfl) (fa:(backTo pos (starEach a' X.env)).any (·.1)=false:=by rfl):
  PE X (.Call (.Name x p) (e::a') [] pos) (ow C sp [] E t):=ZiU D.M (F.mono (QI aU)) au ci a4 D.b .nil al aS fA b' fa
theorem C8(D:Di X.K C q st a5)(F:Yo X.prog X.w X.K X.mg X.base CX j D.f D.d a5 sp)(au:d7 (k+1) X.A)(a4:X.mg x=some (.ref C))(al:YZ CX X E)(aU:Nat.ble j k=true:=by rfl)(ci:Gl X x:=by rfl)
  (fA:(x==("__debug__" :Str))=false:=by decide):PE X (.Call (.Name x p) [] [] pos) (ow C sp [] E tNil):=Zhp D.M (F.mono (QI aU)) au ci a4 D.b .nil al fA
end
section
variable {X:Cx}
noncomputable def rDIn:R2:=λy x H Q=>∃a o,x= .ref a∧Zeo H a y o∧Q (.bl o.isSome) H
theorem C9(hu:X.A.units+64<cLine):OpR X (compareOp .In) rDIn:=by
 intro ah s σ H x y v u Q I bI cv h;obtain⟨a,o,rfl,g,q⟩:=h;cases cv;exact Zlt (by omega) I g bI λs' eA=>⟨.bl o.isSome,H,eA,rfl,q⟩
noncomputable def rSetD:V→V→V→Hp→(Hp→Prop)→Prop:=λo i v H Q=>∃a a3,o= .ref a∧ZdP H a i v a3∧Q a3
theorem C_(hu:X.A.units+64<cLine):Zgg X rSetD:=by
 intro ah s σ H o i v de fQ u Q I ro ri cW h;obtain⟨a,a3,rfl,g,q⟩:=h;cases ro;exact Zg7 (by omega) I g ri cW λs' eA=>⟨a3,eA,q⟩
theorem Zko{P:Program}{w:World}{k:Key}{u:Value}(h:(g5 P w).is k u=true):cO (kV k) u:=by
 cases k with
 |inl i=>exact Value.isInt_shape h
 |inr x=>exact Value.isStrOf_shape h
theorem w':∀{xs:List V}{us:List Value},us.length=xs.length→(∀(j:Nat)(v:V)(u:Value),xs[j]? =some v→us[j]? =some u→cO v u)→cD xs us
 | [],[],_,_=> .nil
 |x::xs,u::us,ai,h=> .cons (h 0 x u rfl rfl) (w' (by simpa using ai) λj v w aV a8=>h (j+1) v w (by simpa using aV) (by simpa using a8))
 | [],_::_,ai,_=>by simp at ai
 |_::_,[],ai,_=>by simp at ai
theorem KV.at{kvs:List (Key×V)}{vs:List (Key×Value)}(r:KV kvs vs):∀{j:Nat}{k:Key}{x:Value},vs[j]? =some (k,x)→∃v,kvs[j]? =some (k,v):=by
 unfold KV at r
 induction r with
 |nil=>intro j k x e;simp at e
 | @cons p q a5 qs h t cI=>
  intro j k x e;cases j with
  |zero=>
   simp at e;subst e;have aq:p.1=k:=h.1;exact⟨p.2,by simp[←aq]⟩
  |succ j=>
   obtain⟨v,z⟩:=cI (j:=j) (k:=k) (x:=x) (by simpa using e);exact⟨v,by simpa using z⟩
noncomputable def rListD:List V→Hp→VK→Prop:=λxs H Q=>∃a kvs,xs=[V.ref a]∧H a=some (.dK kvs)∧∀l,H l=none→Q (.ref l) (upd H l (.lst (kvs.map λd8=>kV d8.1)))
theorem C'(aG:X.calm=true):Yv X (.type "list") rListD:=by
 intro ah s σ H xs us Q I r h;obtain⟨a,kvs,rfl,aS,q⟩:=h;obtain⟨u,rfl,eY⟩:=WL r;cases eY;obtain⟨z,hd,vs,rel,dd⟩:=Zip I.hok aS;obtain⟨ep,kM⟩:=dd.dictAt;refine PySem.W.kdl_call (PySem.W.kdl_dict (knd:=g5 X.prog X.w) (kvs:=vs) (ep:=ep) hd) (I.ok.hd aG) kM (by rw[←rel.length];exact z) λh' dI ds c aA lX xa=>?_;refine⟨.ref s.heap.objs.size,_,I.laid (a:=s.heap.objs.size) (o:= .lst (kvs.map λd8=>kV d8.1)) (t':=dI) aA (Qc _) ⟨by rw[Qb];exact z,ds.toList,c,?_,by simpa using lX⟩,rfl,q _ (I.hok.fresh (Qc _))⟩;refine w' (by rw[Rt,xa.1,Qb,rel.length]) λj v u aV a8=>?_;obtain⟨k,x,al,el⟩:=xa.2 j u (by rw[←Array.getElem?_toList];exact a8);obtain⟨mS,sk⟩:=rel.at al;rw[Qp,sk] at aV;cases aV;exact Zko el
end
section
variable {X:Cx}{ah:List (Addr×Obj)}{σ:List (Option V)}{H H':Hp}{s:Shared}{h':Heap}
theorem Inv.turnedL{t':Nat}{fp:List Addr}(I:Inv X ah σ H s)(k:∀b o,b∉fp→s.heap.get? b=some o→h'.get? b=some o)(aX:∀b∈fp,f5 X ah H b):Inv X ah σ H {s with heap:=h',toks:=t'}:=by
 have od:∀b u,H b=some u→b∉fp:=λb u e z=>by rw[(aX b z).1] at e;cases e
 refine I.step (g':=s.gens) (d':=s.drawn) (ch:=fp) (λb am=>?_) (λb o _ _ aG e _=>k b o aG e) (λb o _ _ aG e _=>⟨o.slots,k b o aG e⟩) (λ_ _ _ _ n=>n)
  (λb o aG e=>⟨o,k b o aG e⟩) (λ_ _ e=>e) (λ_ _ _ e=>e) (λb a5 e=>⟨#[],by rw[e];simp⟩) (λm a4=>?_) (λb u e=>?_) I.bare
 ·obtain⟨ew,f1,f2,cX,c9,d1⟩:=aX b am;exact⟨cX,f1,c9,d1⟩
 ·obtain⟨o,a',ep,a_,r⟩:=a4;exact⟨o,a',ep,k _ o (λz=>(aX _ z).2.1 rfl) a_,r⟩
 ·refine(I.hok b u e).stay (λc v aG q=>k c v ?_ q) (λ_ q=>q) λ_ _ q=>q;rcases aG with z|z
  ·rw[z];exact od b u e
  ·exact od c _ z
theorem Inv.turnedNew{t':Nat}{fp:List Addr}{T:Addr}{o:HO}(I:Inv X ah σ H s)(k:∀b o,b∉fp→s.heap.get? b=some o→h'.get? b=some o)(aX:∀b∈fp,f5 X ah H b)(a1:s.heap.objs.size≤T)(new:ZW X.prog X.w (upd H T o) h' T o):
  Inv X ah σ (upd H T o) {s with heap:=h',toks:=t'}:=by
 have J:Inv X ah σ H {s with heap:=h',toks:=t'}:=I.turnedL k aX;have bL:=I.hok.fresh a1;obtain⟨ew,f1,f2,cX,c9,d1⟩:=I.fpOk a1 bL;refine Inv.step (s:={s with heap:=h',toks:=t'}) (h':=h') (g':=s.gens) (d':=s.drawn) (t':=t') (ch:=[T]) J (λb am=>?_) (λb o _ _ aG e _=>e) (λb o _ _ aG e _=>⟨o.slots,e⟩) (λb o aG e n=>?_)
  (λb o aG e=>⟨o,e⟩) (λb xs e=>?_) (λb o u e=>?_) (λb a5 e=>⟨#[],?_⟩) (λm a4=>a4) (λb u e=>?_) I.bare
 ·have e:b=T:=by simpa using am
  subst e;exact⟨cX,f1,c9,d1⟩
 ·rw[bJ (λz=>aG (by simp[z]))];exact n
 ·rw[bJ (dG e bL)];exact e
 ·rw[bJ (dG e bL)];exact e
 ·rw[bJ (dG e bL)];simpa using e
 ·by_cases am:b=T
  ·subst am;rw[Ze] at e;cases e;exact new
  ·rw[bJ am] at e;exact(J.hok b u e).stay (λc v _ q=>q) (λc q=>by rw[bJ (dG q bL)];exact q) λc xs q=>by rw[bJ (dG q bL)];exact q
end
noncomputable def Ite (K:Frag) (a:Addr):It:=
 ⟨λi H=>∃xs x,SqL K H a xs∧xs[i]? =some x,λi H v H'=>∃t x,H t=none∧v= .ref t∧H'=upd H t (.tup [.int i,x])∧∀xs,SqL K H a xs→xs[i]? =some x,λi H=>∃xs,SqL K H a xs∧xs.length≤i⟩
theorem Db{P:Program}{w:World}{K:Frag}{l6:List Expr}{k1:Nat}{pos:Pos}(a e it:Addr)(xb:e≠it):V1 P w K (.Tuple l6 k1 pos) (Ite K a) [e,it] e (λi h=>(∃h6,IsEnum h e it i h6)∧h.IsListIter it a i) where
 mem:=by simp
 obj:=λi h st b am=>by
  obtain⟨⟨h6,b'⟩,o,aq,av,b_⟩:=st;rcases Qe.mp am with rfl|am
  ·exact⟨_,b',λv z=>by
    have fP:Data.fields _=Data.cell v:=z;cases fP⟩
  ·rw[Qm.mp am];exact⟨o,aq,λv z=>by rw[b_] at z;cases z⟩
 keep:=λi h h' st k=>⟨let⟨h6,b'⟩:=st.1;⟨h6,k e (by simp) _ b'⟩,st.2.at λo q=>k it (by simp) o q⟩
 item:=by
  intro X dH hw hK aG i ah s σ H E I aX st ci;subst dH hw hK;obtain⟨xs,x,cj,al⟩:=ci;obtain⟨its,cW,p,bh⟩:=I.list cj;obtain⟨u,hu,eY⟩:=cW.get al;obtain⟨⟨h6,b'⟩,iA⟩:=st;refine wpAny_pyNext_enum_item b' iA p.isList (x:=u) (by simpa using hu) xb λh' a_ tj du hsz aA=>?_;have e3:=I.hok.fresh (Qc s.heap.objs.size);have xc:e<s.heap.objs.size:=Heap.lt_size b';have Dc:it<s.heap.objs.size:=by obtain⟨_,y,_⟩:=iA;exact Heap.lt_size y
  refine⟨_,rfl,wpAny_letOwnedTupleGo_enum a_ λav Dd eR=>?_⟩;have tk:av.get? s.heap.objs.size=some {cls:= .type "tuple",data:= .seq #[.int i s.toks,u]}:=eR.extBut _ _ (Nat.ne_of_gt xc) du;have a0:Inv X ah σ (upd H s.heap.objs.size (.tup [.int i,x])) {s with heap:=av,toks:=s.toks+1}:=
   I.turnedNew (fp:=[e,it]) (λb o am q=>by
    have eS:b≠e:=λz=>am (by simp[z]);have eD:b≠it:=λz=>am (by simp[z]);exact eR.extBut b o eS (aA b o eS eD q)) aX (Qc _) ⟨by show 2≤sizeLine;decide,[.int i s.toks,u],.cons ⟨_,rfl⟩ (.cons eY .nil),_,tk,rfl,_,rfl⟩
  refine⟨.ref s.heap.objs.size,_,a0,rfl,⟨_,x,e3,rfl,rfl,λys cx=>by rw[I.list_inj cx cj];exact al⟩,⟨⟨_,Dd⟩,tj.at λo q=>eR.extBut _ _ xb.symm q⟩,λb am=>?_⟩;have kf:b≠s.heap.objs.size:=by
   rcases Qe.mp am with rfl|am
   ·exact Qs xc
   ·rw[Qm.mp am];exact Qs Dc
  rw[bJ kf];exact(aX b am).1
 done:=by
  intro X dH hw hK aG i ah s σ H E I aX st ci;subst dH hw hK;obtain⟨xs,cj,al⟩:=ci;obtain⟨its,cW,p,bh⟩:=I.list cj;obtain⟨⟨h6,b'⟩,iA⟩:=st;have ai:=cW.length;exact wpAny_pyNext_enum_end (I.ok.hd aG) b' iA p.isList (by simp;omega) λh' eB=>⟨rfl,I.turnedL (t':=s.toks) (fp:=[e,it]) (λb o am q=>eB b o (λz=>am (by simp[z])) q) aX⟩
 self:=λ_ _ _ _ _ st h=>wpAny_pyIter_enum st.1.choose_spec h
section
variable {X:Cx}
noncomputable def xf (K:Frag) (bn:TA):TI:=λσ H R=>bn σ H λvs ao=>∃a,vs=[.ref a]∧(∃xs,SqL K ao a xs)∧R (Ite K a) ao
theorem ng{K:Frag}{a:Expr}{bn:TA}{p pos jr:Pos}{l6:List Expr}{k1:Nat}(fE:X.K=K)(ci:Gl X "enumerate")(a4:X.mg "enumerate" =none)(aS:PA X [a] bn)(hs:starEach [a] X.env=[(false,eval a X.env)]:=by rfl):
  PI X (.Tuple l6 k1 jr) (.Call (.Name "enumerate" p) [a] [] pos) (xf K bn):=by
 subst fE;intro ah s σ H R I h;refine Call_ (mT I ci a4 boot_enumerate (GT (thn (aS pos ah s σ H _ I h) λus aB ⟨vs,ao,a0,cy,cz⟩=>?_) hs rfl));obtain⟨b,rfl,⟨xs,cj⟩,q⟩:=cz;obtain⟨u,rfl,eY⟩:=WL cy;cases eY;obtain⟨its,cW,pl,bh⟩:=a0.list cj;refine call_enumerate_list pl.isList λh' b' iA hsz aA=>?_;refine wpAny_pyIter_enum b' ?_;have cR:Inv X ah σ ao {aB with heap:=h'}:=a0.kept (t':=aB.toks) aA;refine⟨aB.heap.objs.size+1,[aB.heap.objs.size+1,aB.heap.objs.size],_,_,ao,rfl,cR,Db b _ _ (Nat.succ_ne_self _),⟨⟨_,b'⟩,iA⟩,λc aG=>?_,q⟩;rcases Qe.mp aG with rfl|aG
 ·exact a0.fpOk (Nat.le_succ _) (a0.hok.fresh (Nat.le_succ _))
 ·rw[Qm.mp aG];exact a0.fpOk (Qc _) (a0.hok.fresh (Qc _))
end
noncomputable def rLenD:List V→Hp→VK→Prop:=λxs H Q=>∃a kvs,xs=[V.ref a]∧H a=some (.dK kvs)∧Q (.int kvs.length) H
theorem ZfM{X:Cx}:Yv X (.builtin "len") rLenD:=CI
noncomputable def kN (n:Nat) (ix:List Nat) (σ:St):St:=List.replicate n none++ix.map λj=>(σ[j]?).join
noncomputable def tl (n:Nat) (ix:List Nat) (eg:TI) (g:TG) (di:TT) (cr:TE):TE:=λσ H Q=>eg σ H λJ ao=>∀p,ao p=none→
 ∃W:Nat→Nat→List V→St→Hp→Prop,(∃m,W 0 m [] (kN n ix σ) (upd ao p (.lst [])))∧∀i m ys aW H',W i m ys aW H'→
  (J.stop i H'∧Q (.ref p) H')∨(J.go i H'∧∀x ar,J.yld i H' x ar→g x aW ar λcB a2=>di cB a2 λb a3=>
   if b=true then cr cB a3 λv bH=>bH p=some (.lst ys)∧ys.length<sizeLine∧∃cn,cn<m∧W (i+1) cn (ys++ [v]) cB (upd bH p (.lst (ys++ [v])))
   else ∃cn,cn<m∧W (i+1) cn ys cB a3)
section
variable {X:Cx}
theorem Zew{ah:List (Addr×Obj)}{σ:St}{H:Hp}{s:Shared}{bo:Scope}{x:Str}{xs:List Str}{zs:List Str}{ix:List Nat}{cl:List (Str×Addr)}{fp:List Addr}{h₁:Heap}{dI:Nat}
  (S:YR X bo x zs ix) (I:Inv X ah σ H s) (fr:∀y c,cl.lookup y=some c→X.env.cells.lookup y=some c) (gR:∀y,(y,NameKind.free)∈bo.names→∃c,cl.lookup y=some c)
  (gS:∀b∈fp,f5 X ah H b∧b<s.heap.objs.size) (m2:h₁.Ns s.heap.objs.size λ_=>none) (aA:∀b o,s.heap.get? b=some o→h₁.get? b=some o):
  Inv (Zl X bo cl s.heap.objs.size (xs++zs) s H fp) [] (kN xs.length ix σ) H {s with heap:=h₁,toks:=dI}:=by
 have sub:∀b∈frs X.stack,b∈X.env.locals::X.fs:=I.stkSub;have sP:∀b∈fp,b∉frs X.stack:=λb am z=>by
  obtain⟨⟨_,f1,f2,_⟩,_⟩:=gS b am;rcases Qe.mp (sub b z) with e|e
  ·exact f1 e
  ·exact f2 e
 have cut:∀y,(Zl X bo cl s.heap.objs.size (xs++zs) s H fp).env.kindOf y=some .cell∨(Zl X bo cl s.heap.objs.size (xs++zs) s H fp).env.kindOf y=some .free→∃c,cl.lookup y=some c:=λy cx=>by
  have q:∃k,(relabel bo X.env).names.lookup y=some k∧(k= .cell∨k= .free):=by
   rcases cx with cx|cx
   ·exact⟨_,cx,.inl rfl⟩
   ·exact⟨_,cx,.inr rfl⟩
  obtain⟨k,e,aA⟩:=q;obtain⟨k',cm,q⟩:=Wp e;have:k'= .free:=by
   rcases q with q|⟨q,_⟩
   ·rcases aA with z|z
    ·exact absurd (q.symm.trans z) (S.nocell _ (kG cm))
    ·exact q.symm.trans z
   ·exact q
  subst this;exact gR y (kG cm)
 refine⟨⟨I.ok.mod,S.kind,I.ok.glob,I.ok.blt,Qc _,λy z c aq av=>I.ok.inj y z c (fr _ _ aq) (fr _ _ av),cut,λy c aX _=>?_,I.ok.hd,I.ok.frames,.inl rfl,λb am=>?_,I.bs,Qv I.ok.bsz I.sz,λb o e am=>?_,sP,I.stack,I.stkFree⟩,
  rfl,I.bare,Un.kept aA,⟨_,m2,λi y v aq av b_=>?_⟩,λy c h=>?_,I.hok.fresh (Qc _),λy c h=>I.freeC y c (fr y c h),λp a1=>absurd (show p∈([]:List (Addr×Obj)) from a1) (by simp),I.hok.kept aA,?_⟩
 ·exact absurd (show false=true from aX) (by decide)
 ·obtain⟨⟨ew,f1,f2,cX,c9,d1⟩,ai⟩:=gS b am;exact⟨Qs ai,λy c h=>c9 y c (fr y c h)⟩
 ·obtain⟨⟨ew,f1,f2,cX,c9,d1⟩,ai⟩:=gS b am;rcases cX with z|z
  ·exact I.ok.noex b o e z
  ·exact absurd (Qu (Heap.lt_size e) (Qv I.ok.bsz z)) (QU _)
 ·
  have dg:xs.length≤i:=by
   rcases RH i xs.length with z|z
   ·have gq:(List.replicate xs.length none++ix.map λj=>(σ[j]?).join)[i]? =some (some v):=av;rw[Re (by rw[Q0];exact z),List.getElem?_replicate,if_pos z] at gq;cases gq
   ·exact z
  ·obtain⟨i,rfl⟩:∃qv,i=xs.length+qv:=⟨i-xs.length,by omega⟩;have jx:zs[i]? =some y:=by
    have jx:(xs++zs)[xs.length+i]? =some y:=aq;rw[Rb (Nat.le_add_right _ _),Nat.add_sub_cancel_left] at jx;exact jx
   have gq:(ix.map λj=>(σ[j]?).join)[i]? =some (some v):=by
    have gq:(List.replicate xs.length none++ix.map λj=>(σ[j]?).join)[xs.length+i]? =some (some v):=av;rw[Rb (by rw[Q0];exact Nat.le_add_right _ _),Q0,Nat.add_sub_cancel_left] at gq;exact gq
   have aS:(ix.map λj=>X.N[j]?)[i]? =some (some y):=by rw[S.at_,Qp,jx];rfl
   rw[Qp] at gq aS;cases e:ix[i]? with
   |none=>rw[e] at gq;cases gq
   |some j=>
    rw[e] at gq aS;have dE:X.N[j]? =some y:=Qq aS;have aU:(σ[j]?).join=some v:=Qq gq;have oL:σ[j]? =some (some v):=by
     cases q:σ[j]? with
     |none=>rw[q] at aU;cases aU
     |some o=>rw[q] at aU;exact congrArg some aU
    obtain⟨m,bL,ai⟩:=I.loc;have e3:=S.zfree y (Q9 jx);have j6:=S.free _ (kG e3) rfl;have cH:Vis X.env.scope y:=by
     rcases j6 with z|z
     ·exact .inr (.inl z)
     ·exact .inr (.inr z)
    obtain⟨u,r,q⟩:=ai j y v dE oL cH;refine⟨u,r,?_⟩;rcases q with⟨sQ,_⟩|⟨_,c,aG,kt⟩
    ·have oM:X.env.kindOf y=some .local:=sQ;rcases j6 with z|z<;>(rw[z] at oM;cases oM)
    ·obtain⟨dZ,jX⟩:=gR y (kG e3);have iv:dZ=c:=by have:=fr y dZ jX;rw[aG] at this;exact(Qq this).symm
     subst iv;refine .inr ⟨?_,dZ,jX,?_⟩
     ·have sR:Vis (relabel bo X.env) y:=b_;rcases sR with z|z|z
      ·obtain⟨k',cm,q⟩:=Wp z;rw[e3] at cm;cases cm;rcases q with q|⟨_,q⟩<;>cases q
      ·exact .inl z
      ·exact .inr z
     ·obtain⟨o,a_,hd⟩:=kt;exact⟨o,aA _ _ a_,hd⟩
 ·obtain⟨v,o,a_,hd⟩:=I.cell y c (fr y c h);exact⟨v,o,aA _ _ a_,hd⟩
 ·show(List.replicate xs.length none++ix.map λj=>(σ[j]?).join).length=(xs++zs).length;have:=congrArg List.length S.at_;simp only[Qb] at this;simp only[Qg,Q0,Qb,this]
theorem ZaQ{ah:List (Addr×Obj)}{σ:St}{H:Hp}{s:Shared}{bo:Scope}{x:Str}{xs:List Str}{zs:List Str}{ix:List Nat}{cl:List (Str×Addr)}{fp:List Addr}{it:Addr}{dQ:Nat→Heap→Prop}{J:It}
  {fC cM ev:Expr} {ifs:List Expr} {pos:Pos} {g:TG} {di:TT} {cr:TE} {Q:VK} {E:Value→Shared→Prop} {RR:Value→Addr→Result→Shared→Prop}
  (aG:X.calm=true) (S:YR X bo x zs ix) (I:Inv X ah σ H s) (fr:∀y c,cl.lookup y=some c→X.env.cells.lookup y=some c) (gR:∀y,(y,NameKind.free)∈bo.names→∃c,cl.lookup y=some c)
  (T:V1 X.prog X.w X.K cM J fp it dQ) (st:dQ 0 s.heap) (gS:∀b∈fp,f5 X ah H b)
  (h8:∀C s H,PG (Zl X bo cl C (xs++zs) s H fp) cM g∧PIf (Zl X bo cl C (xs++zs) s H fp) ifs di∧PE (Zl X bo cl C (xs++zs) s H fp) fC cr)
  (cj:∀p,H p=none→∃W:Nat→Nat→List V→St→Hp→Prop,(∃m,W 0 m [] (kN xs.length ix σ) (upd H p (.lst [])))∧∀i m ys aW H',W i m ys aW H'→
   (J.stop i H'∧Q (.ref p) H')∨(J.go i H'∧∀x ar,J.yld i H' x ar→g x aW ar λcB a2=>di cB a2 λb a3=>
    if b=true then cr cB a3 λv bH=>bH p=some (.lst ys)∧ys.length<sizeLine∧∃cn,cn<m∧W (i+1) cn (ys++ [v]) cB (upd bH p (.lst (ys++ [v])))
    else ∃cn,cn<m∧W (i+1) cn ys cB a3))
  (c2:∀ds C f s',wU X ah σ Q ds C s'→RR ds C (.ok f) s'):
  wpAny (model X.prog X.w) X.A (newList []) (λds h5=>wpAny (model X.prog X.w) X.A (newFunctionEnv bo X.env.globals cl [] X.env.qual none .none (some X.env)) (λoN m4=>
   codeAny (model X.prog X.w) X.A (.compStart (.ListComp fC [⟨cM,ev,ifs,0⟩] bo pos) 0 (.ref it) ds {oN with scope:=relabel bo X.env}) (RR ds oN.locals) m4) E h5) E s:=by
 refine wpAny_newObj_type (wpAny_newFunctionEnv S.nocell (by intro y cx;simp at cx) (λh₁ hns₁ oO=>?_) S.kind);have ef:Inv X ah σ (upd H s.heap.objs.size (.lst [])) {s with heap:=s.heap.push {cls:= .type "list",dict:=none,data:= .seq ([]:List Value).toArray}}:=I.lnew (its:=[]) (ys:=[]) (t':=s.toks) .nil (Qx _);dsimp only at hns₁ oO⊢;obtain⟨W,⟨j0,dD⟩,turn⟩:=cj s.heap.objs.size (I.hok.fresh (Qc _));have lt:∀b∈fp,b<s.heap.objs.size:=λb am=>by
  obtain⟨o,e,_⟩:=T.obj 0 s.heap st b am;exact Heap.lt_size e
 have sS:∀b∈fp,∀o,(upd H s.heap.objs.size o) b=H b:=λb am o=>bJ (Qs (lt b am));have kp:∀b o,(s.heap.push {cls:= .type "list",dict:=none,data:= .seq ([]:List Value).toArray}).get? b=some o→h₁.get? b=some o:=λb o e=>
  oO.extBut b o (Qs (Heap.lt_size e)) (Heap.get?_push_of_some _ e)
 have cX:∀b∈fp,f5 X ah (upd H s.heap.objs.size (.lst [])) b∧b<(s.heap.push {cls:= .type "list",dict:=none,data:= .seq ([]:List Value).toArray}).objs.size:=λb am=>by
  obtain⟨oP,q⟩:=gS b am;refine⟨⟨(sS b am _).trans oP,q⟩,?_⟩;rw[Heap.size_push];exact RG (lt b am)
 generalize kH:({s with heap:=s.heap.push {cls:= .type "list",dict:=none,data:= .seq ([]:List Value).toArray}}:Shared)=be at ef;have oQ:s.heap.push {cls:= .type "list",dict:=none,data:= .seq ([]:List Value).toArray}=be.heap:=by rw[←kH]
 rw[oQ] at kp cX hns₁⊢;have kz:dQ 0 h₁:=T.keep 0 _ _ st λb _ o e=>kp b o (by rw[←oQ];exact Heap.get?_push_of_some _ e);have j_:Inv (Zl X bo cl be.heap.objs.size (xs++zs) be (upd H s.heap.objs.size (.lst [])) fp) [] (kN xs.length ix σ) (upd H s.heap.objs.size (.lst [])) {be with heap:=h₁,toks:=be.toks}:=
  Zew S ef fr gR cX hns₁ kp
 obtain⟨ci,sT,b'⟩:=h8 be.heap.objs.size be (upd H s.heap.objs.size (.lst []));have lZ:∀{H':Hp},(∀b∈fp,H' b=none)→∀b∈fp,f5 (Zl X bo cl be.heap.objs.size (xs++zs) be (upd H s.heap.objs.size (.lst [])) fp) [] H' b:=λ{H'} bL b am=>
  ⟨bL b am,(j_.ok.exf b am).1,j_.ok.exfs b am,.inl am,(j_.ok.exf b am).2,λp a1=>absurd (show p∈([]:List (Addr×Obj)) from a1) (by simp)⟩
 have oR:∀cp:Shared,cp={be with heap:=h₁,toks:=be.toks}→
   codeAny (model X.prog X.w) X.A (.compLoop (.ListComp fC [⟨cM,ev,ifs,0⟩] bo pos) 0 (.ref it) (.ref s.heap.objs.size) (compEnvC bo cl be.heap.objs.size X.env)) (RR (.ref s.heap.objs.size) be.heap.objs.size) cp:=by
  rintro cp rfl;refine UZ (λn s'=>∃i ys aW H',Inv (Zl X bo cl be.heap.objs.size (xs++zs) be (upd H s.heap.objs.size (.lst [])) fp) [] aW H' s'∧dQ i s'.heap∧(∀b∈fp,H' b=none)∧W i n ys aW H') ?_ j0
   ⟨0,[],kN xs.length ix σ,_,j_,kz,λb am=>(cX b am).1.1,dD⟩
  rintro n cK ⟨i,ys,j',bH,hN,j3,hP,oS⟩;rcases turn i n ys j' bH oS with⟨stop,lL⟩|⟨go,step⟩
  ·refine thn (T.done (Zl X bo cl be.heap.objs.size (xs++zs) be (upd H s.heap.objs.size (.lst [])) fp) rfl rfl rfl aG i [] cK j' bH _ hN (lZ hP) j3 stop) λr d3 ⟨au,gl⟩=>?_;subst au;obtain⟨sU,sV,_⟩:=gl.loc;refine c2 _ _ _ _ ⟨s.heap.objs.size,bH,sU,rfl,sV,?_,ef.fpOk (Qc _) gl.free,lL⟩;exact ef.call' gl.os gl.base gl.hok gl.bare λb am=>by
    obtain⟨⟨ew,f1,f2,cX,c9,d1⟩,_⟩:=cX b am;exact⟨cX,f1,c9,d1⟩
  ·refine thn (T.item (Zl X bo cl be.heap.objs.size (xs++zs) be (upd H s.heap.objs.size (.lst [])) fp) rfl rfl rfl aG i [] cK j' bH _ hN (lZ hP) j3 go) λr d3 ⟨u,au,cY⟩=>?_;subst au;refine thn cY λ_ d6 ⟨x7,c8,gO,oq,sW,l0,sX⟩=>?_;have sY:=gO.pinned (lZ sX) (T.obj _ _ l0);refine thn (ci _ d6 j' c8 x7 u _ sY oq (step x7 c8 sW)) λ_ fS ⟨l3,fM,oT,sZ⟩=>?_;refine thn (sT _ fS l3 fM _ oT sZ) λb gI ⟨iw,oU,ka⟩=>?_;have again:∀{fD:List V}{aW:St}{H':Hp}{cn:Nat}{s':Shared},Inv (Zl X bo cl be.heap.objs.size (xs++zs) be (upd H s.heap.objs.size (.lst [])) fp) ([]++Ud fp d6.heap) aW H' s'→W (i+1) cn fD aW H'→cn<n→
     ∃m,m<n∧∃i ys aW H',Inv (Zl X bo cl be.heap.objs.size (xs++zs) be (upd H s.heap.objs.size (.lst [])) fp) [] aW H' s'∧dQ i s'.heap∧(∀b∈fp,H' b=none)∧W i m ys aW H':=λ{fD aW H' cn s'} Iz iZ a4=>by
    refine⟨cn,a4,i+1,fD,aW,H',Iz.unpinned,T.keep _ _ _ l0 λb am o e=>(Iz.pin (b,o) (Qk _ (Qk _ (mW am e)))).1,λb am=>?_,iZ⟩;obtain⟨o,e,d⟩:=T.obj _ _ l0 b am;exact(Iz.pin (b,o) (Qk _ (Qk _ (mW am e)))).2.1
   cases b with
   |false=>
    rw[if_neg Qh] at ka⊢;obtain⟨cn,a4,iZ⟩:=ka;exact again oU iZ a4
   |true=>
    rw[if_pos rfl] at ka⊢;refine thn (b' _ gI l3 iw _ oU ka) λv h9 ⟨y,kI,s0,s1,ai,bh,cn,a4,iZ⟩=>?_;refine thn (hS _ h9 l3 kI (.ref s.heap.objs.size) [y] (.ref s.heap.objs.size) [v] (λz H'=>z= .non∧H'=upd kI s.heap.objs.size (.lst (ys++ [y]))) s0 rfl (.cons s1 .nil) ⟨_,ys,y,rfl,rfl,ai,bh,rfl,rfl⟩) λ_ oV ⟨z,m5,s2,_,_,s3⟩=>?_;subst s3;exact again s2 iZ a4
 exact codeAny_compStart_list (oR _ (by subst kH;rfl)) (T.self _ 0 _ _ _ kz (oR _ (by subst kH;rfl)))
theorem gu{fC cM ev:Expr}{ifs:List Expr}{bo:Scope}{pos:Pos}{x:Str}{xs:List Str}{zs:List Str}{ix:List Nat}{eg:TI}{g:TG}{di:TT}{cr:TE}
  (aG:X.calm=true) (S:YR X bo x zs ix) (hi:PI X cM ev eg)
  (h8:∀cl C s H fp,PG (Zl X bo cl C (xs++zs) s H fp) cM g∧PIf (Zl X bo cl C (xs++zs) s H fp) ifs di∧PE (Zl X bo cl C (xs++zs) s H fp) fC cr)
  (hs:∀x,foldedSetIterable ev X.env x=pure x:=by intro _;rfl):
  PE X (.ListComp fC [⟨cM,ev,ifs,0⟩] bo pos) (tl xs.length ix eg g di cr):=by
 intro ah s σ H Q I h;obtain⟨cl,l4,fr,gR⟩:=Va I.ok S;rw[eval_ListComp];refine wpAny_comprehension_free (use:=none) rfl hs l4 S.kind S.names (thn (hi ah s σ H _ I h) λv aB aq=>thn aq λkx bc av=>?_);obtain⟨it,fp,dQ,J,ar,e,cR,T,e',f2,cj⟩:=av;subst e;refine ZaQ (RR:=λds C=>compPost (model X.prog X.w) X.A X.xe none (EP X ah σ Q) ds C) aG S cR fr gR T e' f2 (λC s H=>h8 cl C s H fp) cj λds C f s' h=>?_;obtain⟨p,H',m,rfl,a4,eA,⟨iy,g1,g2,g3,i1,kJ⟩,q⟩:=h;exact⟨m,a4,λh' am=>⟨.ref p,H',eA.turned (t':=s'.toks) (λb o hU e=>(am.2 b hU).trans e) iy g1 g3 i1 kJ,rfl,q⟩⟩
theorem qy{fC cM ev:Expr}{ifs:List Expr}{bo:Scope}{pos py xg:Pos}{x y:Str}{xs:List Str}{zs:List Str}{ix:List Nat}{eg:TI}{g:TG}{di:TT}{cr:TE}{j:Nat}
  (aG:X.calm=true) (S:YR X bo x zs ix) (hi:PI X cM ev eg)
  (h8:∀cl C s H fp,PG (Zl X bo cl C (xs++zs) s H fp) cM g∧PIf (Zl X bo cl C (xs++zs) s H fp) ifs di∧PE (Zl X bo cl C (xs++zs) s H fp) fC cr)
  (eu:X.N.Nodup) (aU:X.N[j]? =some y) (cx:Loc X.env.scope y)
  (De:swapsWith (.ListComp fC [⟨cM,ev,ifs,0⟩] bo pos) (some (.Name y py)) xg.line X.env=pure true:=by rfl)
  (aX:X.fn y=true∨X.env.scope.names.lookup y=some .local:=by first|exact .inl rfl|exact .inr rfl|assumption)
  (hs:∀x,foldedSetIterable ev X.env x=pure x:=by intro _;rfl):
  PS X (.Assign [.Name y py] (.ListComp fC [⟨cM,ev,ifs,0⟩] bo pos) xg) (oj (tl xs.length ix eg g di cr) (VZ j)):=by
 intro ah s σ H D I h;obtain⟨cl,l4,fr,gR⟩:=Va I.ok S;rw[exec_Assign_Name_used _ _ _ _ De];refine wpAny_bind (wpAny_standAt (wpAny_bind ?_));show wpAny _ X.A (do let _←comprehension (.ListComp fC [⟨cM,ev,ifs,0⟩] bo pos) bo X.env _ (newList []) false (eval ev X.env) (some (assign (.Name y py) X.env))) _ _ s;refine wpAny_bind (wpAny_mono (wpAny_comprehension_free (use:=some (assign (.Name y py) X.env)) (Q:=λ_ s'=>SP X ah D .next s') rfl hs l4 S.kind S.names
  (thn (hi ah s σ H _ I h) λv aB aq=>thn aq λkx bc av=>?_)) (λ_ s' cj=>wpAny_pure (wpAny_pure cj)) λ_ _ e=>e)
 obtain⟨it,fp,dQ,J,ar,e,cR,T,e',f2,cj⟩:=av;subst e;refine ZaQ (Q:=λx ao=>VZ j x σ ao D.nx) (RR:=λds C=>compPost (model X.prog X.w) X.A X.xe (some (assign (.Name y py) X.env)) (λ_ s'=>SP X ah D .next s') ds C) aG S cR fr gR T e' f2 (λC s H=>h8 cl C s H fp) cj λds C f s' h=>?_;obtain⟨p,H',m,rfl,a4,eA,⟨iy,g1,g2,g3,i1,kJ⟩,q⟩:=h;show wpAny _ X.A (assign (.Name y py) X.env (.ref p)) _ _ _;refine wpAny_assign_Name (v4 eA eu aU cx (show cO (.ref p) (.ref p) from rfl) (λox I'' ⟨c,Df,p6⟩=>?_) aX);have hU:C≠c:=by
  rcases p6 with z|z
  ·rw[z];exact g1
  ·exact GE (i1 _ _ z)
 exact⟨m,a4.sameBut Df hU,λh' am=>⟨_,H',I''.turned (t':=ox.toks) (λb o hU e=>(am.2 b hU).trans e) iy g1 g3 i1 kJ,q⟩⟩
end
structure Uh(J:It)(n:Nat)(y:Nat→Hp→V→Hp→Prop)(H:Hp):Prop where
 go:∀H' i,Zc H H'→i<n→J.go i H'
 yld:∀H' i x ar,Zc H H'→i<n→J.yld i H' x ar→y i H' x ar
 stop:∀H',Zc H H'→J.stop n H'
theorem Walks.y{J:It}{n:Nat}{f:Nat→V}{H:Hp}(w:Walks J n f H):Uh J n (λi H' v ar=>ar=H'∧v=f i) H:=⟨w.go,w.yld,w.stop⟩
theorem nh{K:Frag}{a:Addr}{xs:List V}{H:Hp}(h:SqL K H a xs):Uh (Ite K a) xs.length (λi H' v ar=>∃t,H' t=none∧v= .ref t∧ar=upd H' t (.tup [.int i,xs.getD i .non])) H:=
 ⟨λH' i e hi=>⟨xs,xs[i],e.seq h,by simp[hi]⟩,λH' i x ar e hi ⟨t,z,aT,cH,av,bh⟩=>⟨t,aT,cH,by
  have:=bh xs (e.seq h);rw[av];simp[List.getD,this]⟩,λH' e=>⟨xs,e.seq h,Qc _⟩⟩
theorem ZP{own:Nat}{ix:List Nat}{g:TG}{di:TT}{cr:TE}{Q:Addr→Hp→Prop}{σ:St}{H:Hp}{J:It}{n:Nat}{y:Nat→Hp→V→Hp→Prop}(w:Uh J n y H)(bL:n<sizeLine)(s:Nat→List (Option V))(hs:∀i,(s i).length=own)(c:Nat→Bool)(R:Nat→V→Hp→Prop)
  (mono:∀i v ao ar,Zc ao ar→R i v ao→R i v ar)
  (ci:∀i a H' v ar (e8:St→Hp→Prop),i<n→Zc H H'→y i H' v ar→a.length=own→(∀a2,Zc H' a2→e8 (s i++ix.map λj=>(σ[j]?).join) a2)→g v (a++ix.map λj=>(σ[j]?).join) ar e8)
  (aG:∀i H' (cL:Bool→Hp→Prop),i<n→Zc H H'→(∀a3,Zc H' a3→cL (c i) a3)→di (s i++ix.map λj=>(σ[j]?).join) H' cL)
  (b':∀p i H' (cL:VK),i<n→c i=true→H p=none→(∃ys,H' p=some (.lst ys))→Zc H H'→(∀v bH,Zc H' bH→R i v (hid bH p)→cL v bH)→cr (s i++ix.map λj=>(σ[j]?).join) H' cL)
  (q:∀p H' ys,H p=none→Zc H H'→H' p=some (.lst ys)→Paired (λi v=>R i v (hid H' p)) ((List.range n).filter c) ys→Q p H'):
  ∀p,H p=none→∃W:Nat→Nat→List V→St→Hp→Prop,(∃m,W 0 m [] (kN own ix σ) (upd H p (.lst [])))∧∀i m ys aW H',W i m ys aW H'→
   (J.stop i H'∧Q p H')∨(J.go i H'∧∀x ar,J.yld i H' x ar→g x aW ar λcB a2=>di cB a2 λb a3=>
    if b=true then cr cB a3 λv bH=>bH p=some (.lst ys)∧ys.length<sizeLine∧∃cn,cn<m∧W (i+1) cn (ys++ [v]) cB (upd bH p (.lst (ys++ [v])))
    else ∃cn,cn<m∧W (i+1) cn ys cB a3):=by
 intro p a1;have qz:∀{ao ar:Hp},Zc ao ar→Zc (hid ao p) (hid ar p):=λ{ao ar} e b o z=>by
  by_cases h:b=p
  ·rw[h,jz] at z;cases z
  ·rw[Y5 h] at z⊢;exact e b o z
 have o0:∀{ao:Hp}{o:HO},Zc (hid ao p) (hid (upd ao p o) p):=λ{ao o} b u z=>by
  by_cases h:b=p
  ·rw[h,jz] at z;cases z
  ·rw[Y5 h] at z⊢;rw[bJ h];exact z
 refine⟨λi m ys aW H'=>m=n-i∧i≤n∧(∃a,a.length=own∧aW=a++ix.map λj=>(σ[j]?).join)∧Zc H H'∧H' p=some (.lst ys)∧Paired (λi v=>R i v (hid H' p)) ((List.range i).filter c) ys,
  ⟨n,by simp,Qx _,⟨List.replicate own none,Q0,rfl⟩,cF a1,Ze,.nil⟩,?_⟩
 rintro i m ys aW H' ⟨rfl,hi,⟨a,aS,rfl⟩,aI,cx,ai⟩
 by_cases dx:i<n
 ·refine .inr ⟨w.go H' i aI dx,λx ar o1=>?_⟩;have dg:ys.length≤i:=by
   rw[←Paired.length ai];exact Qv (Rc _ _) (by simp)
  refine ci i a H' x ar _ dx aI (w.yld H' i x ar aI dx o1) aS λa2 be=>?_;refine aG i a2 _ dx (aI.trans be) λa3 cp=>?_;have i4:=(aI.trans be).trans cp;have i5:=cp _ _ (be _ _ cx);have step:(List.range (i+1)).filter c=(List.range i).filter c++(if c i=true then[i] else[]):=by
   rw[Rk,Q6]
   congr 1
   by_cases h:c i=true<;>simp[h]
  have kO:Paired (λi v=>R i v (hid a3 p)) ((List.range i).filter c) ys:=Paired.mapP ai λ_ _ z=>mono _ _ _ _ (qz (be.trans cp)) z
  by_cases ft:c i=true
  ·rw[ft,if_pos rfl];refine b' p i a3 _ dx ft a1 ⟨ys,i5⟩ i4 λv bH cK lJ=>⟨cK _ _ i5,by omega,n-(i+1),by omega,rfl,dx,⟨s i,hs i,rfl⟩,(i4.trans cK).new a1,Ze,?_⟩;rw[step,if_pos ft];exact Paired.snoc (Paired.mapP kO λ_ _ z=>mono _ _ _ _ ((qz cK).trans o0) z) (mono _ _ _ _ o0 lJ)
  ·have tb:c i=false:=by simpa using ft
   rw[tb,if_neg Qh];refine⟨n-(i+1),by omega,rfl,dx,⟨s i,hs i,rfl⟩,i4,i5,?_⟩;rw[step,if_neg ft,Q5];exact kO
 ·have e:i=n:=by omega
  subst e;exact .inl ⟨w.stop H' aI,q p H' ys a1 aI cx ai⟩
theorem o2{H:Hp}{p u:Addr}{o:HO}(h:∃ys,H p=some (.lst ys))(hu:H u=none):hid (upd H u o) p u=some o:=by
 have n:u≠p:=λz=>by
  obtain⟨ys,e⟩:=h;rw[←z,hu] at e;cases e
 rw[Y5 n,Ze]
theorem xh{H H':Hp}{p u:Addr}{o:HO}(h:∃ys,H p=some (.lst ys))(hu:H u=none)(iB:H' u=some o):hid H' p u=some o:=by
 have n:u≠p:=λz=>by
  obtain⟨ys,e⟩:=h;rw[←z,hu] at e;cases e
 rw[Y5 n,iB]
theorem Zd8{H H':Hp}{p b:Addr}{xs:List V}(h:∃ys,H p=some (.lst ys))(s:Zc H H')(e:H' b=some (.tup xs)):hid H' p b=some (.tup xs):=by
 have n:b≠p:=λz=>by
  obtain⟨ys,cm⟩:=h;rw[z,s _ _ cm] at e;cases e
 rw[Y5 n,e]
theorem qA{R:Nat→V→Hp→Prop}{H:Hp}{r:Nat→V}(h:∀i v,R i v H→v=r i):∀{is:List Nat}{ys:List V},Paired (λi v=>R i v H) is ys→ys=is.map r
 |_,_,.nil=>rfl
 |_,_,.cons a t=>by rw[h _ _ a,qA h t];rfl
theorem V0{J:It}{n:Nat}{y:Nat→Hp→V→Hp→Prop}{H0:Hp}(w:Uh J n y H0){g:TG}{cQ:TS}{D:WP}{σ:St}{H:Hp}(Pv:Nat→St→Hp→Prop)(c7:Pv 0 σ H)(aA:∀i σ H,Pv i σ H→Zc H0 H)
  (hs:∀i σ H v H',i<n→Pv i σ H→y i H v H'→g v σ H' λcB ar=>cQ {D with nx:=Pv (i+1),ct:=Pv (i+1),bk:=D.nx} cB ar) (hd:∀σ H,Pv n σ H→D.nx σ H):
  ∃W:Nat→Nat→St→Hp→Prop,(∃m,W 0 m σ H)∧∀i m σ H,W i m σ H→
   (J.stop i H∧D.nx σ H)∨(J.go i H∧∃N:St→Hp→Prop,(∀aW H',N aW H'→∃cn,cn<m∧W (i+1) cn aW H')∧∀x H',J.yld i H x H'→g x σ H' λcB ar=>cQ {D with nx:=N,ct:=N,bk:=D.nx} cB ar):=by
 refine⟨λi m σ H=>m=n-i∧i≤n∧Pv i σ H,⟨n,by simp,Qx _,c7⟩,?_⟩;rintro i m σ H ⟨rfl,hi,p⟩;have aI:=aA i σ H p
 by_cases dx:i<n
 ·exact .inr ⟨w.go H i aI dx,Pv (i+1),λaW H' iq=>⟨n-(i+1),by omega,rfl,dx,iq⟩,λx H' o1=>hs i σ H x H' dx p (w.yld H i x H' aI dx o1)⟩
 ·have e:i=n:=by omega
  subst e;exact .inl ⟨w.stop H aI,hd σ H p⟩
namespace Rd
section
variable {σ:St}{H:Hp}{Q:VK}{D:WP}{K:Frag}
theorem ZjO{n:Nat}{ix:List Nat}{eg:TI}{g:TG}{di:TT}{cr:TE}(h:eg σ H λJ ao=>∀p,ao p=none→
 ∃W:Nat→Nat→List V→St→Hp→Prop,(∃m,W 0 m [] (kN n ix σ) (upd ao p (.lst [])))∧∀i m ys aW H',W i m ys aW H'→
  (J.stop i H'∧Q (.ref p) H')∨(J.go i H'∧∀x ar,J.yld i H' x ar→g x aW ar λcB a2=>di cB a2 λb a3=>
   if b=true then cr cB a3 λv bH=>bH p=some (.lst ys)∧ys.length<sizeLine∧∃cn,cn<m∧W (i+1) cn (ys++ [v]) cB (upd bH p (.lst (ys++ [v])))
   else ∃cn,cn<m∧W (i+1) cn ys cB a3)):tl n ix eg g di cr σ H Q:=h
theorem ZkJ{cJ:TA}{R:It→Hp→Prop}(h:cJ σ H λvs ao=>∃a,vs=[.ref a]∧(∃xs,SqL K ao a xs)∧R (Ite K a) ao):xf K cJ σ H R:=h
theorem Zjd{a:Addr}{xs:List V}{G:Addr→Prop}(h:SqL K H a xs)(q:G a):∃cE,[V.ref a]=[.ref cE]∧(∃xs,SqL K H cE xs)∧G cE:=⟨a,rfl,⟨xs,h⟩,q⟩
theorem Zlw(h:∀p,H p=none→Q (.ref p) (upd H p (.dK []))):tDNewK σ H Q:=h
theorem Zle{a:Addr}{kvs:List (Key×V)}{x:Str}(h:H a=some (.dK kvs))(q:Q (.bl (ha kvs (Sum.inr x)).isSome) H):rDIn (.str x) (.ref a) H Q:=⟨a,_,rfl,Zeo.k (k:=Sum.inr x) h,q⟩
theorem ZkF{a:Addr}{kvs:List (Key×V)}{x:Str}{v:V}{Q:Hp→Prop}(h:H a=some (.dK kvs))(ai:kvs.length<sizeLine)(q:Q (upd H a (.dK (hy kvs (Sum.inr x) v)))):rSetD (.ref a) (.str x) v H Q:=⟨a,_,rfl,ZdP.k (k:=Sum.inr x) h ai,q⟩
theorem ZkV{a:Addr}{kvs:List (Key×V)}(h:H a=some (.dK kvs))(q:Q (.int kvs.length) H):rLenD [.ref a] H Q:=⟨a,kvs,rfl,h,q⟩
theorem ZkO{a:Addr}{kvs:List (Key×V)}(h:H a=some (.dK kvs))(q:∀l,H l=none→Q (.ref l) (upd H l (.lst (kvs.map λd8=>kV d8.1)))):rListD [.ref a] H Q:=⟨a,kvs,rfl,h,q⟩
theorem Zk5{to ti cr:TE}{lG:V→V→Hp→VK→Prop}{lH:TIp}{lI:Zbk}(h:to σ H λo ao=>ti σ ao λi ar=>lG o i ar λx a2=>cr σ a2 λy a3=>lH x y a3 λz bH=>lI o i z bH λdf=>D.nx σ df):wg to ti cr lG lH lI D σ H:=h
theorem ipi{f:Int→Int→Int}{i j:Int}(q:Q (.int (f i j)) H):ipI f (.int i) (.int j) H Q:=⟨i,j,rfl,rfl,q⟩
end
end Rd
section
variable {X:Cx}
theorem Dg:Zha X (Zcg X.K):=by
 intro ah s σ H o i de fQ Q I ro ri h;obtain⟨p,xs,k,z,rfl,rfl,cj,b',q⟩:=h;cases ro;obtain⟨t,rfl⟩:=ri;obtain⟨its,r,pl,bh⟩:=I.list cj;obtain⟨j,aq,av,b_,cA,dt⟩:=ZaD b';obtain⟨w,jw,oG⟩:=r.get av;have ai:=r.length;have bL:=kD;have eQ:EP X ah σ Q w s:=⟨z,H,I,oG,q⟩
 by_cases c7:0≤k
 ·have aU:k.toNat=j:=by
   rw[seqIndex_of c7 dt] at aq;exact Qq aq
  exact wpAny_getItem_list pl.isList c7 (by omega) (by rw[aU];simpa using jw) eQ
 ·have aU:(k+(its.toArray.size:Int)).toNat=j:=by
   rw[seqIndex_neg (by omega) cA] at aq;rw[Qd,←ai];exact Qq aq
  exact wpAny_getItem_list_neg pl.isList (by omega) (by rw[Qd]<;>omega) (by omega) (by rw[aU];simpa using jw) eQ
theorem xi{K:Frag}(e:X.K=K):Zha X (Zcg K):=e▸Dg
end
section
variable {X:Cx}
end
namespace Rd
end Rd
end L2
namespace L2
open PySem PySem.Spec PySem.W PyProof.Rows Builtin Builtin.ObjectAttr Builtin.Getset_descriptor
def l7(x C:Addr)(h:Heap):Prop:=∃o,h.get? x=some o∧o.cls= .ref C
theorem l7.type{M:Model}{h:Heap}{x C:Addr}(I:l7 x C h):Looks M h (typeOf (.ref x)) (.ref C):=by
 obtain⟨o,aq,av⟩:=I;exact av▸(Looks.ld aq).andThen .now
structure YH(K:Frag)(C:Addr):Prop where
 cl:(clsIn K C).isSome=true
 ga:findIn K (.ref C) "__getattribute__" =some (some (.builtin "BaseException.__getattribute__"))
 gk:findIn K (.ref C) "__getattr__" =some none
 ca:findIn K (.ref C) "__class__" =some (some (.builtin "object.__class__"))
 cg:specialIn K (.builtin "object.__class__") "__get__" =some (some (.builtin "getset_descriptor.__get__"))
 ct:takesIn K (.builtin "object.__class__")=some true
 sub:subIn K (.ref C) (.type "BaseException")=some true
 mr:mroIn K C (.type "object")=some true
section
variable {prog:Program}{w:World}{A:Around}{E:Value→Shared→Prop}{s:Shared}{K:Frag}{x C:Addr}
theorem Zhe{M:Model}{h:Heap}(X:K.In h)(c:YH K C):Looks M h (Builtin.ObjectAttr.find (.ref x) (.ref C) "__class__") (.bind (.builtin "getset_descriptor.__get__") (.builtin "object.__class__")):=by
 have qB:=looks_findIn (M:=M) X c.ca;have L2:Looks M h (Builtin.ObjectAttr.getOf (some (.builtin "object.__class__"))) (some (.builtin "getset_descriptor.__get__")):=looks_specialIn X c.cg;have tm:=looks_takesIn (M:=M) X c.ct;exact qB.andThen (L2.andThen ((show Looks M h (Builtin.ObjectAttr.dataDescriptor? (some (.builtin "object.__class__")) (some (.builtin "getset_descriptor.__get__"))) (some (.builtin "getset_descriptor.__get__",.builtin "object.__class__")) from tm.andThen .now).andThen (Looks.tag .now)))
theorem Dh{he:Value}{R:Result→Shared→Prop}(X:K.In s.heap)(I:l7 x C s.heap)(c:YH K C)(h:R (.ok (.ret (.ref C))) s):codeAny (model prog w) A (.call (.builtin "getset_descriptor.__get__") ⟨[.builtin "object.__class__",.ref x,he],[]⟩) R s:=by
 obtain⟨cu,g,Nw,t,os⟩:=s;have o3:=I.type (M:=model prog w);have qB:=looks_mroIn (M:=model prog w) X c.mr;refine codeAny_call_builtin KF.slot_gs.plain KF.entry_gs (KF.slot_gs.check _ _ _ _ _ _ _ _ KF.type_class (KF.args_gs _ _ _) ?_);unfold Builtin.«getset_descriptor.__get__» descrGet;rw[dga_obj];refine wpAny_bind (wpAny_pure ?_);unfold descrGetter descrCheckInstance descrNameAndClass isInstance;simp only[KF.owner_class]
 repeat lk
 refine⟨Code.quiet_builtin _ (by decide+kernel),codeAny_builtin KF.entry_class ?_⟩;unfold Builtin.«object.__class__» shownTypeOf
 repeat lk
 exact h
theorem Zgo{dI:Tok}{Q:Fin→Shared→Prop}(X:K.In s.heap)(I:l7 x C s.heap)(c:YH K C)
  (h:Q (.done (.ret (.ref C))) s):wpAny (model prog w) A (Builtin.«object.__getattribute__» ⟨[.ref x,.str "__class__" dI],[]⟩) Q E s:=by
 obtain⟨cu,g,d,t,os⟩:=s;have o3:=I.type (M:=model prog w);have tm:=Zhe (M:=model prog w) (x:=x) X c;show wpAny _ _ (typeOf (.ref x) >>= _) _ _ _;refine wpAny_bind (o3.at (wpAny_bind (tm.at ?_)));show wpAny _ _ (holding [Value.builtin "object.__class__"] (call (.builtin "getset_descriptor.__get__") [.builtin "object.__class__",.ref x,.ref C]) >>= ret) _ _ _;exact wpAny_bind (wpAny_holding (wpAny_call (Dh (s:=⟨cu,g,d,t,os⟩) X I c (wpAny_pure h))))
theorem ZgT{Q:Option Value→Shared→Prop}(X:K.In s.heap)(I:l7 x C s.heap)(c:YH K C)(h:Q (some (.ref C)) {s with toks:=s.toks+1}):wpAny (model prog w) A (getAttr? (.ref x) "__class__") Q E s:=by
 obtain⟨cu,g,d,t,os⟩:=s;have o3:=I.type (M:=model prog w);have qB:=looks_findIn (M:=model prog w) X c.ga;have L2:=looks_findIn (M:=model prog w) X c.gk;have Dj:Looks (model prog w) cu (isSubtype (.ref C) (.type "BaseException")) true:=looks_subIn X c.sub;have Dk:Looks (model prog w) cu (isInstance (.ref x) (.type "BaseException")) true:=o3.andThen Dj;unfold getAttr? getAttrBy? getAttrBy;refine wpAny_bind (wpAny_mkText (wpAny_bind (wpAny_attempt (wpAny_holding (wpAny_bind (o3.at (wpAny_bind (qB.at ?_))))))));show wpAny _ _ (getAttrByItsOwn _ _ _ _ _ _) _ _ _;unfold getAttrByItsOwn hookBefore;refine wpAny_bind (L2.at (wpAny_bind (wpAny_attempt (wpAny_holding ?_))));show wpAny _ _ (bindSpecial _ _ >>= _) _ _ _;rw[F.excAttr_ValueError.ga.bind (.ref x)];refine wpAny_bind (wpAny_pure (wpAny_call (codeAny_call_builtin F.excAttr_ValueError.ga.plain F.entry_bexc_ga ?_)));have aA:builtinKind "BaseException.__getattribute__" =some .slot:=by decide+kernel
 have ht:splitId "BaseException.__getattribute__" =some ("BaseException","__getattribute__"):=by decide+kernel
 have aS:=F.args_bexc_ga (.ref x) (.str "__class__" t);have Dl:∀(Q:Unit→Shared→Prop)(E:Value→Shared→Prop),Q () ⟨cu,g,d,t+1,os⟩→wpAny (model prog w) A.in1 (checkBuiltinCall "BaseException.__getattribute__" ⟨[.ref x,.str "__class__" t],[]⟩) Q E ⟨cu,g,d,t+1,os⟩:=λQ E eX=>by
  simp only[checkBuiltinCall,aA,ht];refine wpAny_bind (Dk.at ?_);simp only[Bool.not_true,Bool.false_eq_true,if_false];cases Do:Manifest.signature? "BaseException.__getattribute__" with
  |none=>exact wpAny_pure eX
  |some sig=>
   simp only[argsOk,Do] at aS;have av:Bind.checkArgs "BaseException.__getattribute__" sig ⟨[.ref x,.str "__class__" t],[]⟩=pure ():=aS;show wpAny _ _ (Bind.checkArgs "BaseException.__getattribute__" sig ⟨[.ref x,.str "__class__" t],[]⟩) Q E _;rw[av];exact wpAny_pure eX
 refine Dl _ _ ?_;refine Zgo (s:=⟨cu,g,d,t+1,os⟩) (A:=A.in1) X I c ?_;exact handed_on rfl (wpAny_pure h)
theorem Dp(c:YH K C):KitX K (.ref x) (.ref C) (l7 x C) where
 ty:=λ_ _ _ I=>I.type
 it:=λ_ _ X _=>by
  obtain⟨Dq,j4⟩:=Ru.mp c.cl;unfold clsIn at j4
  split at j4
  ·rename_i dZ d' cd' oc a_;intro m9 og E' s' k q;unfold isType loadHead;exact wpAny_bind (wpAny_loadPart (k _ _ (X _ _ a_)) (wpAny_pure q))
  ·cases j4
 ne:=λh he dd its n sl X Dr=>by
  obtain⟨Dq,j4⟩:=Ru.mp c.cl;refine Bool.eq_false_iff.mpr λq=>?_;have e:C=he:=Value.ref.inj (beq_iff_eq.mp q);subst e;unfold clsIn at j4
  split at j4
  ·rename_i dZ d' cd' oc a_;have z:=(X _ _ a_).symm.trans Dr;cases z
  ·cases j4
 ca:=λX I k=>ZgT X I c k
end
noncomputable def fv (x C:Addr):HO:= .ext λh=>l7 x C h∧ZM h x
section
variable {X:Cx}
noncomputable def tn (K:Frag):List V→Hp→VK→Prop:=λxs H Q=>∃(x C:Addr)(c:V)(u:Value)(b:Bool),xs=[.ref x,c]∧H x=some (fv x C)∧YH K C∧(∀v,cO c v→v=u)∧kitOne K (.ref C) u=some b∧Q (.bl b) H
theorem o4{K:Frag}(e:X.K=K):Yv X (.builtin "isinstance") (tn K):=by
 subst e;intro ah s σ H xs us Q I r h;obtain⟨x,C,c,u,b,rfl,al,iv,hu,aA,q⟩:=h;cases r with
 |cons cy gE=>
  obtain⟨v,rfl,cW⟩:=WL gE;cases (show _=Value.ref x from cy);have fb:=hu v cW;subst fb;obtain⟨⟨Ds,_⟩,_,_⟩:=(show ZW X.prog X.w H s.heap x (fv x C) from I.hok x _ al);exact kia_one (Dp iv) I.kIn Ds aA (λz=>nomatch z) λdI=>⟨.bl b,H,I.tok dI,rfl,q⟩
end
end L2
namespace L2
open PySem PySem.Spec PyProof.Rows
section
variable {X:Cx}{ah:List (Addr×Obj)}{σ:List (Option V)}{H:Hp}{s:Shared}
theorem Inv.track{ea:Addr}{o:HO}(I:Inv X ah σ H s)(c7:∀c4,X.s₀.heap.get? ea=some c4→ea∈X.ex)(eI:ea≠X.env.locals)(aG:∀x c,X.env.cells.lookup x=some c→c≠ea)(a1:∀p∈X.pn++ah,p.1≠ea)(bL:H ea=none)
  (new:ZW X.prog X.w (upd H ea o) s.heap ea o):Inv X ah σ (upd H ea o) s:=by
 refine⟨I.ok,I.os,I.bare,⟨I.base.keep,I.base.slot,λb c4 e n al=>?_,I.base.there,λb xs e=>?_,λb c4 u e=>?_,λb a5 e=>?_⟩,I.loc,I.cell,?_,λx c e=>?_,λp qC=>?_,λb u e=>?_,I.len⟩
 ·rw[bJ (λz=>al (by rw[z];exact c7 c4 (by rw[←z];exact e)))];exact I.base.free b c4 e n al
 ·rw[bJ (dG (I.base.tups b xs e) bL)];exact I.base.tups b xs e
 ·rw[bJ (dG (I.base.frzs b c4 u e) bL)];exact I.base.frzs b c4 u e
 ·obtain⟨more,q⟩:=I.base.tbls b a5 e;exact⟨more,by rw[bJ (dG q bL)];exact q⟩
 ·rw[bJ (GE eI)];exact I.free
 ·rw[bJ (aG x c e)];exact I.freeC x c e
 ·obtain⟨a,b,r⟩:=I.pin p qC;exact⟨a,by rw[bJ (a1 p qC)];exact b,r⟩
 ·by_cases am:b=ea
  ·subst am;rw[Ze] at e;cases e;exact new
  ·rw[bJ am] at e;exact(I.hok b u e).stay (λc v _ q=>q) (λc q=>by rw[bJ (dG q bL)];exact q) λc xs q=>by rw[bJ (dG q bL)];exact q
theorem Inv.dropName{h':Heap}{t':Nat}{j:Nat}{n:Str}{m:Str→Option Value}{v:Option Value}(I:Inv X ah σ H s)(eu:X.N.Nodup)(aU:X.N[j]? =some n)(hs:Heap.SameBut X.env.locals s.heap h')
  (a4:∀(i:Nat) x w,X.N[i]? =some x→σ[i]? =some (some w)→Vis X.env.scope x→∃u,cO w u∧Zji X.env s.heap m x u) (bL:h'.Ns X.env.locals (λx=>if x=n then v else m x)):Inv X ah (σ.set j none) H {s with heap:=h',toks:=t'}:=by
 have mQ:∀b o,X.s₀.heap.get? b=some o→b≠X.env.locals:=λb o e=>Qs (Qu (Heap.lt_size e) I.ok.above);have k:∀b o,b≠X.env.locals→s.heap.get? b=some o→h'.get? b=some o:=λb o am e=>(hs.2 b am).trans e;refine⟨I.ok,I.os,I.bare,⟨λb o e ec am al=>k b o (mQ b o e) (I.base.keep b o e ec am al),λb o e ec am al=>?_,I.base.free,λb o e al=>?_,I.base.tups,I.base.frzs,I.base.tbls⟩,⟨_,bL,λi x w aV a8 eP=>?_⟩,λx c e=>?_,I.free,I.freeC,λp a1=>?_,λb u e=>?_,by rw[QL];exact I.len⟩
 ·obtain⟨sl,q⟩:=I.base.slot b o e ec am al;exact⟨sl,k b _ (mQ b o e) q⟩
 ·obtain⟨cS,q⟩:=I.base.there b o e al;exact⟨cS,k b cS (mQ b o e) q⟩
 ·by_cases tp:i=j
  ·subst tp;have:(σ.set i none)[i]? =some none∨(σ.set i none)[i]? =none:=by
    rcases RH i σ.length with z|z
    ·exact .inl (by rw[QZ z])
    ·exact .inr (List.getElem?_eq_none (by rw[QL];exact z))
   rcases this with z|z<;>(rw[z] at a8;cases a8)
  ·rw[Q8 (λz=>tp z.symm)] at a8;obtain⟨u,r,l⟩:=a4 i x w aV a8 eP;have nx:x≠n:=λz=>tp (r_ eu (by rw[aV,z]) aU);refine⟨u,r,?_⟩;rcases l with⟨a,b⟩|⟨a,c,e,o,a_,hd⟩
   ·exact .inl ⟨a,by simp only[if_neg nx];exact b⟩
   ·exact .inr ⟨a,c,e,o,k c o (I.cne x c e) a_,hd⟩
 ·obtain⟨w,o,a_,hd⟩:=I.cell x c e;exact⟨w,o,k c o (I.cne x c e) a_,hd⟩
 ·obtain⟨a,b,c,r⟩:=I.pin p a1;exact⟨k _ _ c a,b,c,r⟩
 ·refine(I.hok b u e).stay (λc mS aG q=>k c mS ?_ q) (λ_ q=>q) λ_ _ q=>q;rcases aG with z|z
  ·rw[z];exact dG e I.free
  ·exact dG z I.free
end
section
variable {X:Cx}
noncomputable def xj (K:Frag) (c:Value) (j:Nat) (cQ:(St→Prop)→XK→TS) (hv:Addr→TS):TS:=λD σ H=>∃(J:St→Prop)(hV:XK),cQ J hV D σ H∧∀aW cls H',J aW→hV cls none H'→exmOne K cls c=some true∧∃C,cls= .ref C∧∀ea,H' ea=none→
 hv ea {D with nx:=λcB ar=>D.nx (cB.set j none) ar,bk:=λcB ar=>D.bk (cB.set j none) ar,ct:=λcB ar=>D.ct (cB.set j none) ar} (aW.set j (some (.ref ea))) (upd H' ea (fv ea C))
theorem xk{n:Str}{j:Nat}{body:List Stmt}{tq:Stmt}{tr:List Stmt}{x:Str}{ff hpos pos:Pos}{cQ:(St→Prop)→XK→TS}{hv:Addr→TS}{C:Addr}
  (ed:X.stack=X.env::X.outer) (e3:X.env.frame=some X.env.locals) (ci:Gl X x) (a4:X.mg x=some (.ref C)) (am:Zls X body cQ) (hs:∀ea,PSs {X with A:=X.A.mark (some (.ref ea)),calm:=false,xe:=λ_ _=>False} (tq::tr) (hv ea)) (eu:X.N.Nodup) (aU:X.N[j]? =some n) (ni:X.env.scope.names.lookup n=some .local) (fA:(x==("__debug__" :Str))=false:=by decide):
  PS X (.Try body [.ExceptHandler (some (.Name x ff)) (some n) (tq::tr) hpos] [] [] pos) (xj X.K (.ref C) j cQ hv):=by
 intro ah s σ H D I h;obtain⟨J,hV,Dt,cu⟩:=h;have Du:X.A.frames=some (X.env::X.outer):=by rw[I.ok.frames,ed]
 refine wpAny_Try_except ?_
 let jy:Value→Shared→Prop:=λe dr=>wpAny (model X.prog X.w) X.A (noteFrame e X.env) (λ_ iQ=>wpAny (model X.prog X.w) X.A (setFlight e none) (λ_ h5=>wpAny (model X.prog X.w) X.A (handleBy e X.env [.ExceptHandler (some (.Name x ff)) (some n) (tq::tr) hpos]) (SP X ah D) X.xe h5) X.xe iQ) X.xe dr
 have own:PassesOwn (model X.prog X.w) X.A X.env jy:=PassesOwn.looking;have m6:∀{xe:Value→Shared→Prop}{mR:List (Addr×Obj)}{aW:St}{H':Hp}{s':Shared},Inv {X with pn:=X.pn++ah,xe:=xe} mR aW H' s'→Inv X ah aW H' s':=λ{xe mR aW H' s'} J=>by
  have o:=J.ok;exact⟨⟨o.mod,o.kind,o.glob,o.blt,o.above,o.inj,o.has,o.cab,o.hd,o.frames,o.stk,o.exf,o.bs,o.bsz,o.noex,o.exfs,o.funs,o.frf⟩,J.os,J.bare,J.base,J.loc,J.cell,J.free,J.freeC,λp a1=>J.pin p (QX _ a1),J.hok,J.len⟩
 have Dv:Inv {X with pn:=X.pn++ah,xe:=jy} [] σ H s:=by
  have o:=I.ok;exact⟨⟨o.mod,o.kind,o.glob,o.blt,o.above,o.inj,o.has,o.cab,o.hd,o.frames,o.stk,o.exf,o.bs,o.bsz,o.noex,o.exfs,o.funs,o.frf⟩,I.os,I.bare,I.base,I.loc,I.cell,I.free,I.freeC,λp a1=>I.pin p (by simpa using a1),I.hok,I.len⟩
 have Dw:Uj (CXX X.prog X.w) {X with pn:=X.pn++ah,xe:=jy} J hV:=by
  intro mR aW ao aB e s' j9 a0 hcx;obtain⟨ea,cls,dv,H',B,rfl,os,bare,un,ok,az,gH,fe,q⟩:=hcx;have eA:=m6 a0;obtain⟨Dx,qD,rfl,Dy⟩:=cu aW cls H' j9 q;have Dz:Heap.FlyingW B (X.env::X.outer) ea (.ref qD) dv s'.heap:=by rw[←ed];exact az
  show wpAny _ _ _ _ _ _;refine Zg8 fe Du e3 Dz λwT held₄ sl₄ DB=>?_;refine Zj8 DB held₄ λsO fl₅ sl₅ DC=>?_;have there:∀{cY:Heap},Heap.FlyingW B (X.env::X.outer) ea (.ref qD) dv cY→s'.heap.UpToSlots cY→Inv X ah aW H' {s' with heap:=cY}:=λ{cY} kg sl=>by
   have DD:Un (frs X.stack) [] ao H' aB.heap cY:=un.fly gH kg.1 sl (λb am o e=>by
    obtain⟨_,cS,cm,d⟩:=eA.stack.mem am;rw[e] at cm;cases cm;exact d) eA.stkFree
   exact eA.call' (s':={s' with heap:=cY}) os DD (ok.stays (λb o e n=>gH b o e (.inl n)) kg.1) bare (λb z=>absurd z (by simp))
  have held:∀{d3:Shared},Inv X ah aW H' d3→Inv {X with A:=X.A.mark (some (.ref ea)),calm:=false,xe:=λ_ _=>False} ah aW H' d3:=λ{d3} J=>by
   have o:=J.ok;exact⟨⟨o.mod,o.kind,o.glob,o.blt,o.above,o.inj,o.has,o.cab,λz=>absurd (show false=true from z) Qh,o.frames,o.stk,o.exf,o.bs,o.bsz,o.noex,o.exfs,o.funs,o.frf⟩,J.os,J.bare,J.base,J.loc,J.cell,J.free,J.freeC,J.pin,J.hok,J.len⟩
  have hN:=held (there fl₅ (sl₄.trans sl₅));refine wpAny_handleBy_cons (codeAny_handlers_test ?_) (by intro q;cases q);refine ku hN ci a4 ?_ fA;obtain⟨c4,DE,DF⟩:=fl₅.there;have LT:PySem.W.Looks (model X.prog X.w) sO (typeOf (.ref ea)) (.ref qD):=by
   exact DF▸(PySem.W.Looks.ld DE).andThen .now
  refine(PySem.W.exm_one hN.kIn LT Dx).here ?_;refine codeAny_handlers_suite_as ?_;refine Zea DC fl₅ λNx fl₆ sl₆ DG=>?_;have gl:=held (there fl₆ ((sl₄.trans sl₅).trans sl₆));obtain⟨xl,jS,Ny⟩:=az.there;have h6:∀b o,aB.heap.get? b=some o→b≠ea:=λb o e z=>by
   subst z
   by_cases aX:b∈frs X.stack
   ·obtain⟨_,cS,cm,d⟩:=eA.stack.mem aX;obtain⟨sl,g6⟩:=un.any cm (eA.stkFree b aX) (by simp);obtain⟨Nz,vs,xm,_,o5,_⟩:=az.first;rw[g6] at xm;cases xm;exact d vs o5
   ·have:=gH b xl jS (.inr ⟨⟨o,e⟩,aX⟩);rw[az.2.1] at this;cases this
  have hU:H' ea=none:=by
   cases e:H' ea with
   |none=>rfl
   |some o=>
    have:=gH ea xl jS (.inl (by rw[e];simp));rw[az.2.1] at this;cases this
  have c7:∀c4,X.s₀.heap.get? ea=some c4→ea∈X.ex:=λc4 e=>by
   by_cases al:ea∈X.ex
   ·exact al
   ·obtain⟨cS,g6⟩:=eA.base.there ea c4 e al;exact absurd rfl (h6 ea cS g6)
  obtain⟨xn,xo,DH⟩:=fl₆.there;have gO:=Inv.track (o:=fv ea qD) gl c7 (λz=>by
   obtain⟨m,⟨o,a',ep,a_,_⟩,_⟩:=eA.loc;exact h6 _ o a_ z.symm) (λy c e=>by
   obtain⟨v,o,a_,_⟩:=eA.cell y c e;exact h6 c o a_) (λiq qC=>h6 _ _ (eA.pin iq qC).1) hU ⟨⟨⟨xn,xo,DH⟩,DG⟩,⟨xn,xo⟩,λaq av ⟨⟨o,dk,dm⟩,n⟩ k=>⟨⟨o,k o dk,dm⟩,n.keeps k⟩⟩
  refine oe (X:={X with A:=X.A.mark (some (.ref ea)),calm:=false,xe:=λ_ _=>False}) gO eu aU (.inl ni) (show cO (.ref ea) (.ref ea) from rfl) (λd6 oT=>?_) (.inr ni);refine wpAny_mono (hs ea ah d6 _ _ _ oT (Dy ea hU)) (λf bc av=>?_) λ_ _ z=>False.elim z;have qE:∀{cB:St}{ar:Hp}{bc:Shared},Inv {X with A:=X.A.mark (some (.ref ea)),calm:=false,xe:=λ_ _=>False} ah cB ar bc→Inv X ah cB ar bc:=λ{cB ar bc} J=>by
   have o:=J.ok;exact⟨⟨o.mod,o.kind,o.glob,o.blt,o.above,o.inj,o.has,o.cab,I.ok.hd,I.ok.frames,o.stk,o.exf,o.bs,o.bsz,o.noex,o.exfs,o.funs,o.frf⟩,J.os,J.bare,J.base,J.loc,J.cell,J.free,J.freeC,J.pin,J.hok,J.len⟩
  have qF:∀{cB:St}{ar:Hp}{bc:Shared}{Q:Unit→Shared→Prop},Inv X ah cB ar bc→(∀be,Inv X ah (cB.set j none) ar be→Q () be)→wpAny (model X.prog X.w) X.A (do bindName X.env n .none;unbindBehindTheSuite X.env n hpos) Q X.xe bc:=λ{cB ar bc Q} J cj=>by
   refine wpAny_bind (wpAny_bindName (oe (u:= .none) J eu aU (.inl ni) (show cO .non .none from rfl) (λbe i7=>?_) (.inr ni)));obtain⟨m,bL,ai⟩:=i7.loc;have r':(X.env.scope.kind== .class||(X.env.scope.kind== .module&&X.env.locals != X.env.globals))=false:=by rw[i7.ok.kind];rfl
   have xp:X.env.kindOf n=some .local:=ni;unfold unbindBehindTheSuite;refine wpAny_onRaise ?_;unfold unbindName;refine wpAny_bind (wpAny_point (wpAny_bind ?_));unfold deleteName;simp only[xp,r'];rw[if_neg (by decide)];refine wpAny_bind (wpAny_nsDel_keeps bL λsN v hn₂ DI=>?_);have xq:Inv X ah ((cB.set j (some .non)).set j none) ar {be with heap:=sN,toks:=be.toks}:=i7.dropName eu aU DI ai hn₂;rw[List.set_set] at xq;have xr:j<cB.length:=by rw[J.len];exact(Qj.mp aU).1
   have qG:(m n).isSome=true:=by
    obtain⟨u,r,l⟩:=ai j n .non aU (by rw[QZ xr]) (.inl ni);rcases l with⟨_,b⟩|⟨a,_⟩
    ·rw[b];rfl
    ·rcases a with a|a<;>(rw[xp] at a;cases a)
   rw[qG];simp only[if_true,Bool.not_true,Bool.false_eq_true,if_false];exact wpAny_pure (wpAny_point (cj _ xq))
  show wpAny (model X.prog X.w) X.A (do bindName X.env n .none;unbindBehindTheSuite X.env n hpos) (λ_ h5=>SP X ah D f h5) X.xe bc;cases f with
  |next=>obtain⟨cB,ar,hB,c6⟩:=av;exact qF (qE hB) λbe i7=>⟨_,ar,i7,c6⟩
  |brk=>obtain⟨cB,ar,hB,c6⟩:=av;exact qF (qE hB) λbe i7=>⟨_,ar,i7,c6⟩
  |cont=>obtain⟨cB,ar,hB,c6⟩:=av;exact qF (qE hB) λbe i7=>⟨_,ar,i7,c6⟩
  |ret u=>obtain⟨v,cB,ar,hB,cU,c6⟩:=av;exact qF (qE hB) λbe i7=>⟨v,_,ar,i7,cU,c6⟩
 refine wpAny_mono (am J hV (X.pn++ah) jy own Dw [] s σ H D Dv Dt) (λf aB aq=>?_) λe aB aq=>aq;cases f with
 |next=>
  obtain⟨cB,ar,hB,c6⟩:=aq;show wpAny _ _ (execs [] X.env) _ _ _;exact wpAny_pure ⟨cB,ar,m6 hB,c6⟩
 |brk=>obtain⟨cB,ar,hB,c6⟩:=aq;exact⟨cB,ar,m6 hB,c6⟩
 |cont=>obtain⟨cB,ar,hB,c6⟩:=aq;exact⟨cB,ar,m6 hB,c6⟩
 |ret u=>obtain⟨v,cB,ar,hB,cU,c6⟩:=aq;exact⟨v,cB,ar,m6 hB,cU,c6⟩
end
namespace Rd
section
variable {σ:St}{H:Hp}{Q:VK}{K:Frag}
theorem Zlg{x C B:Addr}{b:Bool}(h:H x=some (fv x C))(iv:YH K C)(k:PySem.W.kitOne K (.ref C) (.ref B)=some b)(q:Q (.bl b) H):tn K [.ref x,.ref B] H Q:=⟨x,C,.ref B,.ref B,b,rfl,h,iv,λv r=>r,k,q⟩
theorem ZkT{x C:Addr}{n:String}{b:Bool}(h:H x=some (fv x C))(iv:YH K C)(k:PySem.W.kitOne K (.ref C) (.type n)=some b)(q:Q (.bl b) H):tn K [.ref x,.ty n] H Q:=⟨x,C,.ty n,.type n,b,rfl,h,iv,λv r=>r,k,q⟩
end
section
variable {σ:St}{H:Hp}{K:Frag}
theorem ZgL{c:Value}{j:Nat}{cQ:(St→Prop)→XK→TS}{hv:Addr→TS}{D:WP}(hV:XK)(am:cQ (λs=>s=σ) hV D σ H)(cu:∀cls H',hV cls none H'→exmOne K cls c=some true∧∃C,cls= .ref C∧∀ea,H' ea=none→
  hv ea {D with nx:=λcB ar=>D.nx (cB.set j none) ar,bk:=λcB ar=>D.bk (cB.set j none) ar,ct:=λcB ar=>D.ct (cB.set j none) ar} (σ.set j (some (.ref ea))) (upd H' ea (fv ea C))):xj K c j cQ hv D σ H:=
 ⟨λs=>s=σ,hV,am,λ_ cls H' e h=>e▸cu cls H' h⟩
end
end Rd
theorem ZgY{K:Frag}{C:Addr}{bm:List Value}{n:String}(h:excIn K C bm n=true):(PySem.W.clsIn K C).isSome=true:=by
 unfold excIn at h
 split at h
 ·rename_i dd cd sl a_;unfold PySem.W.clsIn;rw[a_]
  rfl
 ·cases h
theorem DJ:entryFor table "proto.unchain" =some Builtin.«proto.unchain»:=entryFor_of_tree (by kernel_rfl)
section
variable {prog:Program}{w:World}{A:Around}{E:Value→Shared→Prop}{s:Shared}
theorem DK{a ea:Addr}{Q:Value→Shared→Prop}(fe:ZM s.heap ea)(h:Q .none s):wpAny (model prog w) A (runValue (.builtin "proto.unchain" ⟨[.ref a,.ref ea,.ref ea,.bool false],[]⟩)) Q E s:=by
 obtain⟨o,vs,a_,hd,av⟩:=fe;refine wpAny_runValue (codeAny_builtin DJ ?_);unfold Builtin.«proto.unchain»;refine wpAny_bind (wpAny_field a_ hd av ?_);rw[if_pos (show(Value.none==Value.none)=true from by decide)];exact λ_ _ _=>h
theorem Zcz{it l ea:Addr}{i:Nat}{items}{Q:Option Value→Shared→Prop}(cu:A.handled=some (.ref ea))(fe:ZM s.heap ea)
  (iA:s.heap.IsListIter it l i) (ai:s.heap.IsList l items) (al:items[i]? =none)
  (eX:∀h',Heap.ExtBut it s.heap h'→Q none {s with heap:=h'}):wpAny (model prog w) A (pyNext (.ref it)) Q E s:=by
 obtain⟨o,a_,aG,hd⟩:=id iA;obtain⟨NA,DL,_,ts,DM⟩:=ai;have lt:ea<s.heap.objs.size:=by obtain⟨_,_,e,_⟩:=fe;exact Heap.lt_size e
 unfold pyNext;refine wpAny_bind (wpAny_attempt (wpAny_callSpecial?_slot (name:=Str.ofString "__next__") iA.typeIs slot_listiter_next
  (wpAny_call_entry slot_listiter_next iA.typeIs entry_listiter_next ?_ (args_listiter_next _))))
 show wpAny _ _ (field (.ref it) 0 >>= _) _ _ s;refine wpAny_bind (wpAny_field a_ hd (x:= .ref l) rfl ?_);show wpAny _ _ (if(Value.ref l==Value.none)=true then _ else _) _ _ s;rw[if_neg (show ¬((Value.ref l==Value.none)=true) from Qh)];show wpAny _ _ (field (.ref it) 1 >>= _) _ _ s;refine wpAny_bind (wpAny_field a_ hd (x:= .int i 0) rfl ?_);show wpAny _ _ (seqItems? (.ref l) >>= _) _ _ s;refine wpAny_bind (wpAny_seqItems DL DM ?_);simp only[QH,al];refine wpAny_bind (wpAny_rule (wpAny_bind (wpAny_setField a_ hd (by simp) ?_)));have DN:ZM (s.heap.update it (Obj.mapFields (·.setIfInBounds 0 Value.none))) ea:=fe.field (by decide);have sz:(s.heap.update it (Obj.mapFields (·.setIfInBounds 0 Value.none))).objs.size=s.heap.objs.size:=by simp[Heap.update]
 have eB:Heap.ExtBut it s.heap (s.heap.update it (Obj.mapFields (·.setIfInBounds 0 Value.none))):=(Heap.SameBut.update ..).extBut;generalize s.heap.update it (Obj.mapFields (·.setIfInBounds 0 Value.none))=aq at*;show wpAny _ _ (newExc (.type "StopIteration") [] >>= _) _ _ _;refine wpAny_bind ?_;simp only[newExc,newTuple];refine wpAny_bind (wpAny_newObj_type ?_ (by size_fits));refine wpAny_bind (m:=firstArgMember _ _) (wpAny_of_eq (a:=Value.none) (by first|rfl|(simp only[firstArgMember];rfl)) ?_);refine wpAny_newObj_type ?_ (by size_fits);simp only[raiseNew];refine wpAny_bind (wpAny_handled ?_);rw[show A.in1.handled=some (.ref ea) from cu];dsimp only;generalize hC:aq.push {cls:= .type "tuple",dict:=none,data:= .seq ([]:List Value).toArray}=av;have ne:(Value.ref ea != Value.ref av.objs.size)=true:=by
  rw[←hC,Heap.size_push,sz];simp only[bne_iff_ne,ne_eq,Value.ref.injEq];exact Qs (RG lt)
 rw[if_pos ne];have xt:Heap.ExtBut it s.heap av:=by rw[←hC];exact eB.push _
 have s6:ZM av ea:=by rw[←hC];exact DN.push
 refine wpAny_bind (wpAny_holding (DK s6.push ?_));have b':=Heap.get?_push_size av (o:={cls:= .type "StopIteration",data:= .fields (#[Value.ref aq.objs.size,Value.none,Value.none,Value.none,Value.bool false,Value.none]++ownMembersOf (Value.type "StopIteration") [])}) rfl;refine wpAny_bind (show wpAny _ _ (setField (.ref av.objs.size) 2 (.ref ea)) _ _ _ from wpAny_setField b' rfl (by simp;omega) (wpAny_throw ?_));refine wpAny_bind (wpAny_isInstance (T:="StopIteration") (b:=true) ⟨_,Heap.get?_update_self _ b' rfl,rfl⟩ isSubtype_stop ?_);refine wpAny_pure (eX _ λb o am e=>?_);rw[Heap.get?_update_other _ _ (GE (Qs (Heap.lt_size (xt b o am e))))];exact Heap.get?_push_of_some _ (xt b o am e)
theorem DO{it l ea:Addr}(cu:A.handled=some (.ref ea))(hU:l≠it)(o6:ea≠it)(items:Array Value):
  PySem.Walks prog w A it [it,l,ea] [it] items.size (λi v=>items[i]? =some v) (λi h=>(h.IsListIter it l i∧h.IsList l items)∧ZM h ea) where
 sub:=λb am=>by simp at am;simp[am]
 frame:=λ_ _ _ st aA=>⟨⟨st.1.1.at λo e=>aA it (by simp) o e,st.1.2.at λo e=>aA l (by simp) o e⟩,st.2.keeps λo e=>aA ea (by simp) o e⟩
 item:=λi s Q E hi st eX=>by
  refine wpAny_pyNext_list_item st.1.1 st.1.2 (x:=items[i]) (by simp[hi]) λh' tj c1=>?_;exact eX _ h' s.toks (by simp[hi]) ⟨⟨tj,st.1.2.extBut c1.extBut hU⟩,st.2.keeps λo e=>c1.extBut ea o o6 e⟩ λb o am e=>c1.extBut b o (λh=>am (by simp[h])) e
 done:=λs Q E st eX=>Zcz cu st.2 st.1.1 st.1.2 (by simp) λh' DP=>eX h' s.toks λb o am e=>DP b o (λh=>am (by simp[h])) e
 self:=λ_ _ _ _ st eX=>wpAny_pyIter_listiter st.1.1 eX
theorem Zg3{l ea:Addr}{xs:Array (Int×Tok)}{Q:Value→Shared→Prop}(cu:A.handled=some (.ref ea))(fe:ZM s.heap ea)(ai:s.heap.IsList l (intItems xs))
  (h:∀h' dI t',(∀b o,s.heap.get? b=some o→h'.get? b=some o)→Q (.int (preSum (numAt xs) xs.size) t') {s with heap:=h',toks:=dI}):
  wpAny (model prog w) A (call (.builtin "sum") [.ref l]) Q E s:=by
 have lt:ea<s.heap.objs.size:=by obtain⟨_,_,e,_⟩:=fe;exact Heap.lt_size e
 refine call_sum_walkG (iter_intList ai λiQ e st gS DQ=>?_);subst e;refine⟨_,_,_,_,_,_,numAt xs,rfl,DO (A:=A.in1) (l:=l) cu DQ (Qs lt) (intItems xs),⟨st,fe.push⟩,λb am=>?_,(λ_ _=>intItems_at),λh' dI t' aA=>?_⟩
 ·rcases Qe.mp am with e|am
  ·exact gS b (by simp[e])
  ·rcases Qe.mp am with e|am
   ·exact gS b (by simp[e])
   ·rw[Qm.mp am];show ea<(s.heap.push _).objs.size;rw[Heap.size_push];exact RG lt
 ·have:=h h' dI t' (old_kept aA);simpa[intItems] using this
end
section
variable {X:Cx}{ea:Addr}
noncomputable def tt (K:Frag) (a ea:Addr):It:=⟨(Itl K a).go,(Itl K a).yld,λi H=>(Itl K a).stop i H∧∃C,H ea=some (fv ea C)⟩
theorem DR{P:Program}{w:World}{K:Frag}{cM:Expr}(a it:Addr):Zdq (λX=>X.A.handled=some (.ref ea)) P w K cM (tt K a ea) [it] it (λi h=>h.IsListIter it a i) where
 obj:=λi h st b am=>by
  have e:b=it:=by simpa using am
  subst e;obtain⟨o,e,c,d⟩:=st;exact⟨o,e,λv z=>by rw[d] at z;cases z⟩
 keep:=λi h h' st k=>st.at λo e=>k it (by simp) o e
 item:=by
  intro X dH hw hK aG i ah s σ H E I aX st ci;subst dH hw hK;obtain⟨xs,x,cj,al⟩:=ci;obtain⟨its,cW,p,bh⟩:=I.list cj;obtain⟨u,hu,eY⟩:=cW.get al;obtain⟨ew,f1,f2,cX,c9,d1⟩:=aX it (by simp);refine wpAny_pyNext_list_item st p.isList (x:=u) (by simpa using hu) λh' gN j2=>?_;have a0:Inv X ah σ H {s with heap:=h'}:=I.turned (t':=s.toks) (λb o am e=>(j2.2 b am).trans e) ew f1 cX c9 d1;obtain⟨o,e,c,d⟩:=id gN;exact⟨u,rfl,on (s:={s with heap:=h'}) e c d (by decide) ⟨x,H,a0,eY,⟨rfl,λys cx=>by rw[I.list_inj cx cj];exact al⟩,gN,λb am=>(aX b am).1⟩⟩
 done:=by
  intro X dH hw hK aG i ah s σ H E I aX st ci;subst dH hw hK;obtain⟨⟨xs,cj,al⟩,C,fG⟩:=ci;obtain⟨its,cW,p,bh⟩:=I.list cj;obtain⟨ew,f1,f2,cX,c9,d1⟩:=aX it (by simp);obtain⟨⟨_,fe⟩,_,_⟩:=(show ZW X.prog X.w H s.heap ea (fv ea C) from I.hok ea _ fG);have ai:=cW.length;exact Zcz aG fe st p.isList (by simp;omega) λh' eB=>⟨rfl,I.turned (t':=s.toks) (λb o am e=>eB b o am e) ew f1 cX c9 d1⟩
 self:=λ_ _ _ _ _ st h=>wpAny_pyIter_listiter st h
def PIH(X:Cx)(ea:Addr)(cM ev:Expr)(eg:TI):Prop:=
 ∀(ah:List (Addr×Obj))(s:Shared)(σ:St)(H:Hp)(R:It→Hp→Prop),Inv X ah σ H s→eg σ H R→
  wpAny (model X.prog X.w) X.A (eval ev X.env) (λv aB=>wpAny (model X.prog X.w) X.A (pyIter v) (λkx bc=>∃(it:Addr)(fp:List Addr)(dQ:Nat→Heap→Prop)(J:It)(H':Hp),kx= .ref it∧Inv X ah σ H' bc∧Zdq (λX=>X.A.handled=some (.ref ea)) X.prog X.w X.K cM J fp it dQ∧dQ 0 bc.heap∧(∀b∈fp,f5 X ah H' b)∧R J H') X.xe aB) X.xe s
noncomputable def xu (K:Frag) (ea:Addr) (es:TE):TI:=λσ H R=>es σ H λx ao=>∃a,x= .ref a∧(∃xs,SqL K ao a xs)∧R (tt K a ea) ao
theorem DS{K:Frag}{cM l:Expr}{es:TE}(fE:X.K=K)(ai:PE X l es):PIH X ea cM l (xu K ea es):=by
 subst fE;intro ah s σ H R I h;refine thn (ai ah s σ H _ I h) λv aB ⟨x,ao,a0,cy,cz⟩=>?_;obtain⟨a,e,⟨xs,cj⟩,q⟩:=cz;subst e;cases cy;obtain⟨its,cW,p,bh⟩:=a0.list cj;refine wpAny_pyIter_list p.isList ?_;refine⟨aB.heap.objs.size,[aB.heap.objs.size],_,_,ao,rfl,a0.kept (t':=aB.toks) λb o e=>Heap.get?_push_of_some _ e,DR a _,⟨_,Heap.get?_push_size _ rfl,rfl,rfl⟩,λb am=>?_,q⟩;have e:b=aB.heap.objs.size:=by simpa using am
 subst e;exact a0.fpOk (Qc _) (a0.hok.fresh (Qc _))
theorem DT{fC cM ev:Expr}{ifs:List Expr}{bo:Scope}{pos:Pos}{x:Str}{zs:List Str}{ix:List Nat}{eg:TI}{g:TG}{di:TT}{cr:TE}
  (aG:X.A.handled=some (.ref ea)) (S:YR X bo x zs ix) (hi:PIH X ea cM ev eg)
  (h8:∀cl C s H fp,PG (Zl X bo cl C (x::zs) s H fp) cM g∧PIf (Zl X bo cl C (x::zs) s H fp) ifs di∧PE (Zl X bo cl C (x::zs) s H fp) fC cr)
  (hs:∀x,foldedSetIterable ev X.env x=pure x:=by intro _;rfl):
  PE X (.ListComp fC [⟨cM,ev,ifs,0⟩] bo pos) (qo ix eg g di cr):=by
 intro ah s σ H Q I h;obtain⟨cl,l4,fr,gR⟩:=Va I.ok S;rw[eval_ListComp];refine wpAny_comprehension_free (use:=none) rfl hs l4 S.kind S.names (thn (hi ah s σ H _ I h) λv aB aq=>thn aq λkx bc av=>?_);obtain⟨it,fp,dQ,J,ar,e,cR,T,e',f2,cj⟩:=av;subst e;refine ZbM (RR:=λds C=>compPost (model X.prog X.w) X.A X.xe none (EP X ah σ Q) ds C) (λ_ _ _ _=>aG) S cR fr gR T e' f2 (λC s H=>h8 cl C s H fp) cj λds C f s' h=>?_;obtain⟨p,H',m,rfl,a4,eA,⟨iy,g1,g2,g3,i1,kJ⟩,q⟩:=h;exact⟨m,a4,λh' am=>⟨.ref p,H',eA.turned (t':=s'.toks) (λb o hU e=>(am.2 b hU).trans e) iy g1 g3 i1 kJ,rfl,q⟩⟩
theorem DU{K:Frag}{a C:Addr}{xs:List V}{H:Hp}(h:SqL K H a xs)(fG:H ea=some (fv ea C)):Walks (tt K a ea) xs.length (λi=>xs.getD i .non) H:=
 let W:=e7 h;⟨W.go,W.yld,λH' e=>⟨W.stop H' e,C,e _ _ fG⟩⟩
noncomputable def xv (K:Frag) (ea:Addr):List V→Hp→VK→Prop:=λxs H Q=>∃(p:Addr)(ns:List Int)(C:Addr),xs=[.ref p]∧SqL K H p (ns.map V.int)∧H ea=some (fv ea C)∧Q (.int ns.sum) H
theorem DV{K:Frag}(fE:X.K=K)(cu:X.A.handled=some (.ref ea)):Yv X (.builtin "sum") (xv K ea):=by
 subst fE;intro ah s σ H xs us Q I r h;obtain⟨p,ns,C,rfl,cj,fG,q⟩:=h;obtain⟨u,rfl,bI⟩:=WL r;cases bI;obtain⟨its,cW,pl,bh⟩:=I.list cj;obtain⟨⟨_,fe⟩,_,_⟩:=(show ZW X.prog X.w H s.heap ea (fv ea C) from I.hok ea _ fG);have hi:=ZbW cW;obtain⟨xs,al⟩:=hi.allInts.items;have dX:s.heap.IsList p (intItems xs):=al▸pl.isList;refine Zg3 cu fe dX λh' dI t' aA=>?_;have aV:ns=xs.toList.map (·.1):=by
  rw[←nums_intItems,←al];exact(show numsOf its.toArray.toList=ns from hi.numsOf).symm
 have a8:preSum (numAt xs) xs.size=ns.sum:=by
  rw[preSum_eq,QS (by simp),aV]
 rw[a8];exact⟨.int ns.sum,H,I.kept aA,⟨_,rfl⟩,q⟩
end
structure l8(k:Nat)(A:Around)(ea:Addr):Prop where
 hd:A.handled=some (.ref ea)
 dp:A.depth+3*k+5<recursionLimit
 un:A.units+16*k+200<cLine
theorem d7.held{k:Nat}{A:Around}(r:d7 k A)(ea:Addr):l8 k (A.mark (some (.ref ea))) ea:=⟨rfl,r.dp,r.un⟩
theorem l8.hu{k:Nat}{A:Around}{ea:Addr}(r:l8 k A ea):HU A:=by have:=r.un;exact(show A.units+64<cLine by omega)
structure ZfJ(P:Program)(w:World)(K:Frag)(mg:Str→Option Value)(base:Heap)(CX:CXT)(k:Nat)(f:Addr)(fd:FuncData)(a5:List Str)(sp:Addr→Sp):Prop where
 len:∀ea vs H Q E,sp ea vs H Q E→vs.length=a5.length
 run:∀(ea:Addr)(A:Around)(outer:List Env)(s:Shared)(H:Hp)(args:Args)(us:List Value)(vs:List V)(Q:VK)(E:XK),l8 k A ea→V8 P w K mg base A outer s H→BindsTo s fd args (a5.zip us)→cD vs us→sp ea vs H Q E→
  codeAny (model P w) A (.call (.ref f) args) (CR CX outer P w H s Q E) s
noncomputable abbrev cxH (P:Program) (w:World) (K:Frag) (mg:Str→Option Value) (base:Heap) (N:List Str) (qual:Str) (scope:Scope) (f:Addr) (cd:Value) (A:Around) (outer:List Env) (s₀:Shared) (H₀:Hp) (E:XK):Cx:=
 {cxX P w K mg base N qual scope f cd A outer s₀ H₀ E with calm:=false}
section
variable {P:Program}{w:World}{K:Frag}{mg:Str→Option Value}{base:Heap}{N a5:List Str}{qual:Str}{scope:Scope}{f:Addr}{cd:Value}{A:Around}{outer:List Env}{s aB:Shared}{H:Hp}{E:XK}{us:List Value}{vs:List V}
theorem ZfV(S:Zq N a5 scope)(dV:V8 P w K mg base A outer s H)(ai:vs.length=a5.length)(r:cD vs us)
  (x:InCallC s s.heap.objs.size (bindL (envOfC qual scope s.heap.objs.size f cd).kindOf (a5.zip us) λ_=>none) (cellsFrom (s.heap.objs.size+1) scope.names []) (bindC (envOfC qual scope s.heap.objs.size f cd).kindOf (a5.zip us) λ_=>none) aB):
  Inv (cxH P w K mg base N qual scope f cd A outer s H E) [] (start N vs) H aB:=by
 have aV:V8 P w K mg base {A with handled:=none} outer s H:=⟨dV.frames,dV.mod,dV.bs,dV.bsz,dV.funs,dV.frf,dV.hok,dV.bare⟩;have J:Inv (cxX P w K mg base N qual scope f cd {A with handled:=none} outer s H E) [] (start N vs) H aB:=ZcO S rfl aV ai r x;have o:=J.ok;exact⟨⟨o.mod,o.kind,o.glob,o.blt,o.above,o.inj,o.has,o.cab,λz=>absurd (show false=true from z) Qh,Around.frames_deeper dV.frames,o.stk,o.exf,o.bs,o.bsz,o.noex,o.exfs,o.funs,o.frf⟩,J.os,J.bare,J.base,J.loc,J.cell,J.free,J.freeC,J.pin,J.hok,J.len⟩
theorem Fun.okH{x:Str}{st:Stmt}{fd:FuncData}{k:Nat}{sp:Addr→Sp}(F:Fun K x qual st f fd)(S:Zq N a5 (cq st))(len:∀ea vs H Q E,sp ea vs H Q E→vs.length=a5.length)
  (lO:∀(ea:Addr)(cw:Value)(A:Around)(outer:List Env)(s:Shared)(H:Hp)(vs:List V)(Q:VK)(E:XK),l8 k (A.deeper (envOfC qual (cq st) s.heap.objs.size f cw)) ea→sp ea vs H Q E→
   ∃t,PSs (cxH P w K mg base N qual (cq st) f cw A outer s H E) (hT st) t∧t {nx:=λ_ H'=>Q .non H',rt:=Q} (start N vs) H):ZfJ P w K mg base (CXX P w) (k+1) f fd a5 sp:=by
 obtain⟨e_,dY,kV,e5,eM,an,cw,ct,f7,rfl,lk,ho⟩:=F.ex;refine⟨len,λea A outer s H args us vs Q E au dV am r ht=>?_⟩;have ai:=len _ _ _ _ _ ht;have ey:K.In s.heap:=dV.mod.kin.keeps λb o e=>(dV.bs b o e).1;have sw:s.heap.NoLimit:=dV.mod.nolimit.keeps λb o e=>(dV.bs b o e).1;have j6:∀y∈a5.zip us,(cq st).names.lookup y.1=some .local∨((cq st).names.lookup y.1=some .cell∧((cellsFrom (s.heap.objs.size+1) (cq st).names []).lookup y.1).isSome=true):=λ⟨n,v⟩ cx=>by
  rcases S.par n (RN cx).1 with q|q
  ·exact .inl q
  ·exact .inr ⟨q,cellsFrom_some _ _ _ (.inl q)⟩
 refine codeAny_call_function (by have:=au.dp;omega) (ey _ _ lk) rfl S.co S.gen rfl (codeRec_of ey ho) (am _ _ _ _ ?_);refine wpAny_newFunctionEnv_cells S.kind j6 λenv b' aB x=>?_;subst b';refine⟨sw.keeps x.toInCall.keep,codeAny_func ?_⟩;have hX:l8 k (A.deeper (envOfC qual (cq st) s.heap.objs.size f cw)) ea:=⟨au.hd,by have:=au.dp;show A.depth+1+3*k+5<_;omega,by have:=au.un;show A.units+3+16*k+200<_;omega⟩;obtain⟨t,aT,cj⟩:=lO ea cw A outer s H vs Q E hX ht;have I:Inv (cxH P w K mg base N qual (cq st) f cw A outer s H E) [] (start N vs) H aB:=ZfV S dV ai r x;refine wpAny_mono (aT [] aB (start N vs) H _ I cj) (λaz s' hs=>?_) λe s' hs=>hs;have eQ:∀{aW:St}{H':Hp}{v:V}{u:Value},Inv (cxH P w K mg base N qual (cq st) f cw A outer s H E) [] aW H' s'→cO v u→Q v H'→CE outer P w H s Q u s':=
  λ{aW H' v u} J cW q=>⟨v,H',J.os,J.bare,J.base,J.hok,cW,q⟩
 cases az with
 |ret u=>
  obtain⟨v,aW,H',J,cW,q⟩:=hs;exact eQ J cW q
 |next=>
  obtain⟨aW,H',J,q⟩:=hs;exact eQ (v:=V.non) (u:=Value.none) J rfl q
 |brk=>
  obtain⟨_,_,_,q⟩:=hs;exact False.elim q
 |cont=>
  obtain⟨_,_,_,q⟩:=hs;exact False.elim q
end
abbrev OkH{K:Frag}{mg:Str→Option Value}{nm q:Str}{st:Stmt}{a5:List Str}(P:Program)(w:World)(base:Heap)(k:Nat)(D:Dn K mg nm q st a5)(sp:Addr→Sp):Prop:=ZfJ P w K mg base (CXX P w) k D.f D.d a5 sp
section
variable {X:Cx}{CX:CXT}{j k:Nat}{a5:List Str}{sp:Addr→Sp}{E:XK}{x q:Str}{st:Stmt}{p pos:Pos}{e:Expr}{a':List Expr}{t:TA}{ea:Addr}
theorem xw(D:Dn X.K X.mg x q st a5)(F:ZfJ X.prog X.w X.K X.mg X.base CX j D.f D.d a5 sp)(au:l8 k X.A ea)(al:YZ CX X E)(aS:PA X (e::a') t)(aU:Nat.ble j k=true:=by rfl)(ci:Gl X x:=by rfl)
  (fA:(x==("__debug__" :Str))=false:=by decide) (b':starEach (e::a') X.env=(false,eval e X.env)::starEach a' X.env:=by rfl) (fa:(backTo pos (starEach a' X.env)).any (·.1)=false:=by rfl):
  PE X (.Call (.Name x p) (e::a') [] pos) (qe (sp ea) [] E t):=by
 intro ah s σ H Q I h;refine wpAny_Call_Name_kw (ku I ci D.m ?_ fA);refine callWith_K (h₀:=X.base) I.ok.mod.kin D.F.kp (thn (aS pos ah s σ H _ I h) λus aB ⟨vs,ao,a0,r,q⟩=>⟨a0.kIn,?_⟩) b' fa;dsimp only at q;rw[Q5] at q;have ai:us.length=a5.length:=by rw[←r.length];exact F.len _ _ _ _ _ q
 have am:=D.b aB us a0.kIn (by rw[Q5];exact ai);rw[Q5] at am;have xx:j≤k:=QI aU;refine wpAny_call (codeAny_mono (F.run ea X.A X.stack aB ao ⟨us,[]⟩ us vs Q E ⟨au.hd,by have:=au.dp;omega,by have:=au.un;omega⟩ a0.env0 am r q) λr s' cj=>?_);cases r with
 |error e=>exact al ah σ ao aB e s' a0 cj
 |ok az=>
  cases az with
  |ret u=>exact a0.after cj
  |next=>exact False.elim cj
  |brk=>exact False.elim cj
  |cont=>exact False.elim cj
end
theorem Rd.kinds{K:Frag}{ea a C:Addr}{σ:St}{H:Hp}{bs:List Bool}{j:Nat}{ix:List Nat}{cr:TE}{R:VK}(oL:σ[j]? =some (some (.ref a)))(h:H a=some (.lst (bs.map V.bl)))(fG:H ea=some (fv ea C))(bh:bs.length<sizeLine)
  (b':∀(b:Bool)(H':Hp)(cL:VK),cL (.int (if b then 1 else 0)) H'→cr (some (.bl b)::ix.map λj=>(σ[j]?).join) H' cL)
  (q:∀H',Zc H H'→R (.int ((bs.map λb=>if b then(1:Int) else 0).sum)) H'):qo ix (xu K ea (Zed j)) (VZ 0) tAll cr σ H λx H'=>tNil σ H' λxs ar=>xv K ea (x::xs) ar R:=by
 refine⟨.ref a,oL,a,rfl,⟨_,.of h⟩,?_⟩;refine VW (ix:=ix) (σ:=σ) (DU (.of h) fG) (by rw[Qb];exact bh) (λ_=>true) (λi=> .int (if bs.getD i false then 1 else 0)) (λi H' cL hi aI k=>k H' (Zc.refl H')) (λi H' cL hi _ aI k=>?_) (λd ar hd aI mP=>?_)
 ·have eN:i<bs.length:=by rw[Qb] at hi;exact hi
  have fb:(bs.map V.bl).getD i .non= .bl (bs.getD i false):=by simp[List.getD,eN]
  rw[fb];exact b' _ H' cL (k H' (Zc.refl H'))
 ·have ia:((List.range (bs.map V.bl).length).filter λ_=>true).map (λi=>V.int (if bs.getD i false then 1 else 0))=(bs.map λb=>if b then(1:Int) else 0).map V.int:=by
   rw[Ql.mpr λ_ _=>rfl];refine Q7 (by simp) λi aq av=>?_;have b_:i<bs.length:=by simpa using av
   simp[List.getD,b_]
  rw[ia] at mP;exact⟨d,_,C,rfl,.of mP,aI _ _ fG,q ar aI⟩
section
variable {X:Cx}{CX:CXT}{j k:Nat}{C:Addr}{a5:List Str}{sp:Sp}{E:XK}{x q:Str}{st:Stmt}{p pos:Pos}{e:Expr}{a':List Expr}{t:TA}{J:St→Prop}
theorem DW(D:Di X.K C q st a5)(F:Yo X.prog X.w X.K X.mg X.base CX j D.f D.d a5 sp)(au:d7 (k+1) X.A)(a4:X.mg x=some (.ref C))(al:Uj CX X J E)(aS:PA X (e::a') t)(aU:Nat.ble j k=true:=by rfl)(ci:Gl X x:=by rfl)
  (fA:(x==("__debug__" :Str))=false:=by decide) (b':starEach (e::a') X.env=(false,eval e X.env)::starEach a' X.env:=by rfl) (fa:(backTo pos (starEach a' X.env)).any (·.1)=false:=by rfl):
  PE X (.Call (.Name x p) (e::a') [] pos) (Zd6 J C sp [] E t):=by
 intro ah s σ H Q I h;obtain⟨j9,h⟩:=h;have xy:=F.mono (QI aU);refine wpAny_Call_Name_kw (ku I ci a4 ?_ fA);refine callWith_K (h₀:=X.base) I.ok.mod.kin D.M.kp (thn (aS pos ah s σ H _ I h) λus aB ⟨vs,ao,a0,r,h⟩=>⟨a0.kIn,?_⟩) b' fa;have cj:=h (aB.heap.objs.size+1) aB.heap.objs.size (a0.hok.fresh (Nat.le_succ _)) (a0.hok.fresh (Qc _)) (Qs (Rp _));have cR:=Inv.made (C:=C) a0;have cU:cD (V.ref (aB.heap.objs.size+1)::(vs++ [])) (Value.ref (aB.heap.objs.size+1)::(us++ [])):= .cons rfl (r.append .nil);have ai:(Value.ref (aB.heap.objs.size+1)::us++ []).length=a5.length:=by
  have e:=cU.length;rw[xy.len _ _ _ _ cj] at e;exact e.symm
 have am:=D.b {aB with heap:=(aB.heap.push emptyDict).push (instObj C aB.heap.objs.size)} (Value.ref (aB.heap.objs.size+1)::us) cR.kIn ai;rw[List.cons_append] at am;refine wpAny_call (wt (f:=D.f) a0.kIn D.M.makes D.M.init (beq_iff_eq.mp D.M.fn) (codeAny_mono (xy.run _ X.stack _ _ ⟨Value.ref (aB.heap.objs.size+1)::us,[]⟩ (Value.ref (aB.heap.objs.size+1)::(us++ [])) _ _ E (au.make C us [])
  (cR.env0.make C us []) am cU cj) λr s' iu=>?_))
 cases r with
 |error e=>exact al ah σ _ _ e s' j9 cR iu
 |ok az=>
  cases az with
  |ret u=>
   obtain⟨v,H',ef,cW,fb,fV⟩:=cR.after iu;subst fb;exact⟨cW,⟨V.ref (aB.heap.objs.size+1),H',ef,rfl,fV⟩⟩
  |next=>exact False.elim iu
  |brk=>exact False.elim iu
  |cont=>exact False.elim iu
noncomputable def tEi (a b:TE):TE:=λσ H Q=>a σ H Q∨b σ H Q
theorem DX{a b:TE}(aS:PE X e a)(am:PE X e b):PE X e (tEi a b):=λah s σ H Q I h=>h.elim (aS ah s σ H Q I) (am ah s σ H Q I)
end
section
variable {X:Cx}{K:Frag}
end
namespace Rd
section
variable {σ:St}{H:Hp}{Q:VK}{K:Frag}
end
end Rd
noncomputable def dN (H:Hp):List V→List (List Int)→Prop:=Paired λv xs=>∃t,v= .ref t∧H t=some (.lst (xs.map V.int))
theorem dN.same{H H':Hp}{ys:List V}{aR:List (List Int)}(h:dN H ys aR)(e:Zc H H'):dN H' ys aR:=Paired.mapP h λ_ _ ⟨t,a,b⟩=>⟨t,a,e _ _ b⟩
theorem dN.length{H:Hp}{ys:List V}{aR:List (List Int)}(h:dN H ys aR):ys.length=aR.length:=Paired.length h
theorem dN.at{H:Hp}:∀{ys:List V}{aR:List (List Int)}{i:Nat}{xs:List Int},dN H ys aR→aR[i]? =some xs→∃t,ys[i]? =some (.ref t)∧H t=some (.lst (xs.map V.int))
 |_,_,_,_,.nil,e=>by simp at e
 |_,_,0,_,.cons ⟨t,aV,h⟩ _,e=>by simp at e;subst e;exact⟨t,by simp[aV],h⟩
 |_,_,i+1,b,.cons _ r,e=>by
  obtain⟨t,aq,av⟩:=dN.at (i:=i) (xs:=b) r (by simpa using e);exact⟨t,by simpa using aq,av⟩
theorem dN.snoc{H:Hp}:∀{ys:List V}{aR:List (List Int)}{t:Addr}{xs:List Int},dN H ys aR→H t=some (.lst (xs.map V.int))→dN H (ys++ [.ref t]) (aR++ [xs])
 |_,_,_,_,.nil,h=> .cons ⟨_,rfl,h⟩ .nil
 |_,_,_,_,.cons x r,h=> .cons x (dN.snoc r h)
theorem xA{H H':Hp}{p:Addr}(e:Zc H H'):Zc (hid H p) (hid H' p):=λb o z=>by
 by_cases h:b=p
 ·rw[h,jz] at z;cases z
 ·rw[Y5 h] at z⊢;exact e b o z
theorem Zix{H:Hp}{p:Addr}{o:HO}:Zc (hid H p) (hid (upd H p o) p):=λb u z=>by
 by_cases h:b=p
 ·rw[h,jz] at z;cases z
 ·rw[Y5 h] at z⊢;rw[bJ h];exact z
theorem ZhU(ns i8:List Int):PyData.eqv (.list (ns.map PyData.int)) (.list (i8.map PyData.int))=decide (ns=i8):=by
 have h:∀ns i8:List Int,PyData.eqvAll (ns.map PyData.int) (i8.map PyData.int)=decide (ns=i8):=by
  intro ns
  induction ns with
  |nil=>intro i8;cases i8<;>simp[PyData.eqvAll]
  |cons n ns cI=>
   intro i8;cases i8 with
   |nil=>simp[PyData.eqvAll]
   |cons m i8=>
    simp only[List.map_cons,PyData.eqvAll,PyData.eqv,cI]
    by_cases e:n=m
    ·subst e;simp
    ·simp[e]
 simp only[PyData.eqv];exact h ns i8
noncomputable def Itz (K:Frag) (a b:Addr):It:=
 ⟨λi H=>∃xs x ys y,SqL K H a xs∧xs[i]? =some x∧SqL K H b ys∧ys[i]? =some y,λi H v H'=>∃t x y,H t=none∧v= .ref t∧H'=upd H t (.tup [x,y])∧(∀xs,SqL K H a xs→xs[i]? =some x)∧∀ys,SqL K H b ys→ys[i]? =some y,λi H=>∃xs ys,SqL K H a xs∧SqL K H b ys∧(xs.length≤i∨ys.length≤i)⟩
theorem kP{h:Heap}{l b:Addr}{xs:Array Value}{o:Obj}(ai:h.IsList l xs)(a_:h.get? b=some o)(aG:o.cls≠ .type "list"):l≠b:=λz=>by
 subst z;obtain⟨cS,aq,av,_⟩:=ai;rw[a_] at aq;cases aq;exact aG av
structure Zf1(h:Heap)(z TI TO eC fo a b:Addr)(i:Nat):Prop where
 zip:IsZip h z TI TO .none
 ti:IsPair h TI (.ref eC) (.ref fo)
 to:∃x y,IsPair h TO x y
 l1:h.IsListIter eC a i
 l2:h.IsListIter fo b i
structure ZdF(z TI TO eC fo:Addr):Prop where
 TIz:TI≠z
 TOz:TO≠z
 i1z:eC≠z
 i2z:fo≠z
 TITO:TI≠TO
 TIi1:TI≠eC
 TIi2:TI≠fo
 TOi1:TO≠eC
 TOi2:TO≠fo
 i12:eC≠fo
theorem DY(n:Nat):ZdF (n+4) (n+2) (n+3) n (n+1):=⟨show n+2≠n+4 by omega,show n+3≠n+4 by omega,show n≠n+4 by omega,show n+1≠n+4 by omega,show n+2≠n+3 by omega,show n+2≠n by omega,show n+2≠n+1 by omega,show n+3≠n by omega,show n+3≠n+1 by omega,show n≠n+1 by omega⟩
theorem Zf1.apart{h:Heap}{z TI TO eC fo a b:Addr}{i:Nat}{xs ys:Array Value}(D:ZdF z TI TO eC fo)(st:Zf1 h z TI TO eC fo a b i)(aS:h.IsList a xs)(am:h.IsList b ys):ZipApart z TI TO eC fo a b:=by
 obtain⟨x,y,i9⟩:=st.to;obtain⟨tu,gp,oX,_⟩:=st.l1;obtain⟨tv,fI,kc,_⟩:=st.l2;have eS:tu.cls≠ .type "list" :=by rw[oX];decide
 have eD:tv.cls≠ .type "list" :=by rw[kc];decide
 exact⟨D.TIz,D.TOz,D.i1z,D.i2z,D.TITO,D.TIi1,D.TIi2,D.TOi1,D.TOi2,D.i12,kP aS st.zip (show Value.type "zip" ≠Value.type "list" by decide),kP aS i9 (show Value.type "tuple" ≠Value.type "list" by decide),kP aS gp eS,kP aS fI eD,kP am st.zip (show Value.type "zip" ≠Value.type "list" by decide),kP am i9 (show Value.type "tuple" ≠Value.type "list" by decide),kP am gp eS,kP am fI eD⟩
theorem DZ{P:Program}{w:World}{K:Frag}{l6:List Expr}{k1:Nat}{pos:Pos}(a b z TI TO eC fo:Addr)(D:ZdF z TI TO eC fo):V1 P w K (.Tuple l6 k1 pos) (Itz K a b) [z,TI,TO,eC,fo] z (λi h=>Zf1 h z TI TO eC fo a b i) where
 mem:=by simp
 obj:=λi h st c aG=>by
  obtain⟨x,y,i9⟩:=st.to;obtain⟨tu,gp,_,jY⟩:=st.l1;obtain⟨tv,fI,_,jA⟩:=st.l2;simp only[Qe,QR,or_false] at aG;rcases aG with rfl|rfl|rfl|rfl|rfl
  ·exact⟨_,st.zip,λv q=>by cases (show Data.fields _=Data.cell v from q)⟩
  ·exact⟨_,st.ti,λv q=>by cases (show Data.seq _ _=Data.cell v from q)⟩
  ·exact⟨_,i9,λv q=>by cases (show Data.seq _ _=Data.cell v from q)⟩
  ·exact⟨tu,gp,λv q=>by rw[jY] at q;cases q⟩
  ·exact⟨tv,fI,λv q=>by rw[jA] at q;cases q⟩
 keep:=λi h h' st k=>by
  obtain⟨x,y,i9⟩:=st.to;exact⟨k z (by simp) _ st.zip,k TI (by simp) _ st.ti,⟨x,y,k TO (by simp) _ i9⟩,st.l1.at λo q=>k eC (by simp) o q,st.l2.at λo q=>k fo (by simp) o q⟩
 item:=by
  intro X dH hw hK aG i ah s σ H E I aX st ci;subst dH hw hK;obtain⟨xs,x,ys,y,iD,al,l9,cx⟩:=ci;obtain⟨xB,qH,gp,xC⟩:=I.list iD;obtain⟨h7,qI,fI,kQ⟩:=I.list l9;obtain⟨gL,eF,tw⟩:=qH.get al;obtain⟨d9,gT,tx⟩:=qI.get cx;obtain⟨dv,b0,i9⟩:=st.to;refine wpAny_pyNext_zip_item (st.apart D gp.isList fI.isList) st.zip st.ti i9 st.l1 st.l2 gp.isList fI.isList (x:=gL) (y:=d9) (by simpa using eF) (by simpa using gT) λh' o7 D0 jx gq du hsz aA=>?_;have e3:=I.hok.fresh (Qc s.heap.objs.size);have lt:∀{c:Addr}{o:Obj},s.heap.get? c=some o→c<s.heap.objs.size:=λe=>Heap.lt_size e;have xD:=lt st.zip;have D1:eC<s.heap.objs.size:=by obtain⟨_,q,_⟩:=st.l1;exact lt q
  have D2:fo<s.heap.objs.size:=by obtain⟨_,q,_⟩:=st.l2;exact lt q
  refine⟨_,rfl,wpAny_letOwnedTupleGo_zip o7 λav D3 eR=>?_⟩;have tk:IsPair av s.heap.objs.size gL d9:=eR.extBut _ _ (Nat.ne_of_gt xD) du;have a0:Inv X ah σ (upd H s.heap.objs.size (.tup [x,y])) {s with heap:=av}:=
   I.turnedNew (t':=s.toks) (fp:=[z,TI,TO,eC,fo]) (λc o aG q=>by
    have eS:c≠z:=λe=>aG (by simp[e]);have eD:c≠TO:=λe=>aG (by simp[e]);have lK:c≠eC:=λe=>aG (by simp[e]);have o8:c≠fo:=λe=>aG (by simp[e]);exact eR.extBut c o eS (aA c o eS eD lK o8 q)) aX (Qc _) ⟨by show 2≤sizeLine;decide,[gL,d9],.cons tw (.cons tx .nil),_,tk,rfl,_,rfl⟩
  refine⟨.ref s.heap.objs.size,_,a0,rfl,⟨_,x,y,e3,rfl,rfl,λzs bh=>by rw[I.list_inj bh iD];exact al,λzs bh=>by rw[I.list_inj bh l9];exact cx⟩,⟨D3,eR.extBut _ _ D.TIz (aA _ _ D.TIz D.TITO D.TIi1 D.TIi2 st.ti),⟨_,_,eR.extBut _ _ D.TOz D0⟩,jx.at λo q=>eR.extBut _ _ D.i1z q,gq.at λo q=>eR.extBut _ _ D.i2z q⟩,λc aG=>?_⟩;have kf:c≠s.heap.objs.size:=by
   simp only[Qe,QR,or_false] at aG;rcases aG with rfl|rfl|rfl|rfl|rfl
   ·exact Qs xD
   ·exact Qs (lt st.ti)
   ·exact Qs (lt i9)
   ·exact Qs D1
   ·exact Qs D2
  rw[bJ kf];exact(aX c aG).1
 done:=by
  intro X dH hw hK aG i ah s σ H E I aX st ci;subst dH hw hK;obtain⟨xs,ys,iD,l9,al⟩:=ci;obtain⟨xB,qH,gp,xC⟩:=I.list iD;obtain⟨h7,qI,fI,kQ⟩:=I.list l9;obtain⟨dv,b0,i9⟩:=st.to;have aV:=qH.length;have a8:=qI.length;exact wpAny_pyNext_zip_end (I.ok.hd aG) (st.apart D gp.isList fI.isList) st.zip st.ti i9 st.l1 st.l2 gp.isList fI.isList (by rcases al with q|q;exact .inl (by simp;omega);exact .inr (by simp;omega)) λh' eB=>⟨rfl,I.turnedL (t':=s.toks) (fp:=[z,TI,TO,eC,fo]) (λc o aG q=>eB c o (λe=>aG (by simp[e])) (λe=>aG (by simp[e])) (λe=>aG (by simp[e])) (λe=>aG (by simp[e])) q) aX⟩
 self:=λ_ _ _ _ _ st h=>wpAny_pyIter_zip st.zip h
section
variable {X:Cx}
noncomputable def xE (K:Frag) (bn:TA):TI:=λσ H R=>bn σ H λvs ao=>∃a b,vs=[.ref a,.ref b]∧(∃xs,SqL K ao a xs)∧(∃ys,SqL K ao b ys)∧R (Itz K a b) ao
theorem D4{K:Frag}{a b:Expr}{bn:TA}{p pos jr:Pos}{l6:List Expr}{k1:Nat}(fE:X.K=K)(ci:Gl X "zip")(a4:X.mg "zip" =none)(aS:PA X [a,b] bn)(hs:starEach [a,b] X.env=(false,eval a X.env)::starEach [b] X.env:=by rfl)(fa:(backTo pos (starEach [b] X.env)).any (·.1)=false:=by rfl):
  PI X (.Tuple l6 k1 jr) (.Call (.Name "zip" p) [a,b] [] pos) (xE K bn):=by
 subst fE;intro ah s σ H R I h;refine Call_ (mT I ci a4 boot_zip (GT (thn (aS pos ah s σ H _ I h) λus aB ⟨vs,ao,a0,cy,cz⟩=>?_) hs fa));obtain⟨b1,b2,rfl,⟨xs,iD⟩,⟨ys,l9⟩,q⟩:=cz;obtain⟨gL,d9,rfl,tw,tx⟩:=Zil cy;cases tw;cases tx;obtain⟨xB,qH,gp,xC⟩:=a0.list iD;obtain⟨h7,qI,fI,kQ⟩:=a0.list l9;refine call_zip_2 gp.isList fI.isList λh' bh D5 D6 aq av hsz aA=>?_;refine wpAny_pyIter_zip bh ?_;have cR:Inv X ah σ ao {aB with heap:=h'}:=a0.kept (t':=aB.toks) aA;have db:∀k:Nat,aB.heap.objs.size≤aB.heap.objs.size+k:=λk=>Nat.le_add_right _ _;refine⟨aB.heap.objs.size+4,[aB.heap.objs.size+4,aB.heap.objs.size+2,aB.heap.objs.size+3,aB.heap.objs.size,aB.heap.objs.size+1],_,_,ao,rfl,cR,DZ b1 b2 _ _ _ _ _ (DY _),⟨bh,D5,⟨_,_,D6⟩,aq,av⟩,λc aG=>?_,q⟩;simp only[Qe,QR,or_false] at aG;rcases aG with rfl|rfl|rfl|rfl|rfl
 ·exact a0.fpOk (db 4) (a0.hok.fresh (db 4))
 ·exact a0.fpOk (db 2) (a0.hok.fresh (db 2))
 ·exact a0.fpOk (db 3) (a0.hok.fresh (db 3))
 ·exact a0.fpOk (Qc _) (a0.hok.fresh (Qc _))
 ·exact a0.fpOk (db 1) (a0.hok.fresh (db 1))
end
theorem D7{K:Frag}{a b:Addr}{xs ys:List V}{H:Hp}(aq:SqL K H a xs)(av:SqL K H b ys)(ai:xs.length=ys.length):Uh (Itz K a b) xs.length (λi H' v ar=>∃t,H' t=none∧v= .ref t∧ar=upd H' t (.tup [xs.getD i .non,ys.getD i .non])) H:=
 ⟨λH' i e hi=>⟨xs,xs[i],ys,ys[i],e.seq aq,by simp[hi],e.seq av,by simp⟩,λH' i x ar e hi ⟨t,z,fP,aT,cH,hu,bh,o7⟩=>⟨t,aT,cH,by
  have aV:=bh xs (e.seq aq);have a8:=o7 ys (e.seq av);rw[hu];simp[List.getD,aV,a8]⟩,λH' e=>⟨xs,ys,e.seq aq,e.seq av,.inl (Qc _)⟩⟩
namespace Rd
section
variable {K:Frag}{σ:St}{H:Hp}
theorem Zlk{cJ:TA}{R:It→Hp→Prop}(h:cJ σ H λvs ao=>∃a b,vs=[.ref a,.ref b]∧(∃xs,SqL K ao a xs)∧(∃ys,SqL K ao b ys)∧R (Itz K a b) ao):xE K cJ σ H R:=h
end
end Rd
section
variable {X:Cx}{K:Frag}
theorem D8{o value:Expr}{bn gF:TE}{f:Str}{jr pos:Pos}{op:Operator}{j5:V→V→Hp→VK→Prop}(fE:X.K=K)(aS:PE X o bn)(cH:PE X value gF)(su:Zh0 X op j5):PS X (.AugAssign (.Attribute o f jr) op value pos) (ss K bn gF j5 f):=fE▸Zg1 aS cH su
noncomputable def rIndexB:V→List V→Hp→VK→Prop:=λx vs H Q=>∃(l:Addr)(bs:List Bool)(j:Nat),x= .ref l∧vs=[.bl true]∧H l=some (.lst (bs.map V.bl))∧bs[j]? =some true∧(∀m<j,bs[m]? =some false)∧Q (.int j) H
theorem D9:MtM X "list.index" rIndexB:=by
 intro ah s σ H x vs v us Q I bI cW h;obtain⟨l,bs,j,rfl,rfl,gG,aU,lR,q⟩:=h;cases bI;obtain⟨u,rfl,eY⟩:=WL cW;obtain rfl:u=Value.bool true:=eY;obtain⟨z,its,n,r,ai,e⟩:=I.lstM gG;have fb:=tc (s:=s) r;have xr:=(Qj.mp aU).1;have bh:its.toArray.size=bs.length:=by rw[fb];simp
 have at_:∀(m:Nat)(a4:m<its.toArray.size),its.toArray[m]=Value.bool (bs[m]'(by omega)):=λm a4=>by
  subst fb;simp
 have bL:=kD;refine call_meets F.slot_list_index ⟨_,e,rfl⟩ F.entry_list_index (F.args_list_index_2 _ _) (PySem.SeqAt.list_indexAt l its.toArray n _ _ (.bool true) (λy=>y==Value.bool true) j (by omega) (by rw[Qb] at z;omega) ?_ ?_) ⟨e,λy cx=>?_,?_⟩
 ·rw[at_ j (by omega)];have:=(Qj.mp aU).2;rw[this]
  rfl
 ·intro m a4 hmj;rw[at_ m a4];have:=(Qj.mp (lR m hmj)).2;rw[this]
  rfl
 ·subst fb;obtain⟨b,_,rfl⟩:=Rg.mp (List.mem_toArray.mp cx);have b':(Value.bool b==Value.bool true)=(b==true):=by cases b<;>rfl
  rw[b'];exact PySem.SeqAt.EqAt.bool_bool b true
 ·exact⟨.int j,H,I.tok _,⟨_,rfl⟩,q⟩
end
namespace Rd
theorem Zbw{H:Hp}{Q:VK}{l:Addr}{bs:List Bool}{j:Nat}(h:H l=some (.lst (bs.map V.bl)))(aU:bs[j]? =some true)(bL:∀m<j,bs[m]? =some false)(q:Q (.int j) H):rIndexB (.ref l) [.bl true] H Q:=⟨l,bs,j,rfl,rfl,h,aU,bL,q⟩
end Rd
section
variable {X:Cx}{K:Frag}
section
variable {prog:Program}{w:World}{A:Around}{E:Value→Shared→Prop}{s:Shared}{I l:Addr}{items:Array Value}
end
theorem ZfW{own:Nat}{ix:List Nat}{g:TG}{di:TT}{cr:TE}{Q:Addr→Hp→Prop}{σ:St}{H:Hp}{J:It}{n:Nat}{y:Nat→Hp→V→Hp→Prop}(w:Uh J n y H)(bL:n<sizeLine)(s:Nat→List (Option V))(hs:∀i,(s i).length=own)(R:Nat→V→List Addr→Hp→Prop)
  (mono:∀i v fp ao ar,Zc ao ar→R i v fp ao→R i v fp ar) (dom:∀i v fp ao,R i v fp ao→∀x∈fp,ao x≠none)
  (ci:∀i a H' v ar (e8:St→Hp→Prop),i<n→Zc H H'→y i H' v ar→a.length=own→(∀a2,Zc H' a2→e8 (s i++ix.map λj=>(σ[j]?).join) a2)→g v (a++ix.map λj=>(σ[j]?).join) ar e8)
  (aG:∀i H' (cL:Bool→Hp→Prop),i<n→Zc H H'→(∀a3,Zc H' a3→cL true a3)→di (s i++ix.map λj=>(σ[j]?).join) H' cL)
  (b':∀p i H' (cL:VK),i<n→H p=none→(∃ys,H' p=some (.lst ys))→Zc H H'→(∀v fp bH,Zc H' bH→R i v fp (hid bH p)→(∀x∈fp,H' x=none)→cL v bH)→cr (s i++ix.map λj=>(σ[j]?).join) H' cL)
  (q:∀p H' (ys:List V) (fs:List (List Addr)),H p=none→Zc H H'→H' p=some (.lst ys)→ys.length=n→fs.length=n→(∀i<n,R i (ys.getD i .non) (fs.getD i []) (hid H' p))→(∀i j,i<j→j<n→∀x∈fs.getD i [],x∉fs.getD j [])→(∀i<n,∀x∈fs.getD i [],H x=none∧x≠p)→Q p H'):
  ∀p,H p=none→∃W:Nat→Nat→List V→St→Hp→Prop,(∃m,W 0 m [] (kN own ix σ) (upd H p (.lst [])))∧∀i m ys aW H',W i m ys aW H'→
   (J.stop i H'∧Q p H')∨(J.go i H'∧∀x ar,J.yld i H' x ar→g x aW ar λcB a2=>di cB a2 λb a3=>
    if b=true then cr cB a3 λv bH=>bH p=some (.lst ys)∧ys.length<sizeLine∧∃cn,cn<m∧W (i+1) cn (ys++ [v]) cB (upd bH p (.lst (ys++ [v])))
    else ∃cn,cn<m∧W (i+1) cn ys cB a3):=by
 intro p a1;have qz:∀{ao ar:Hp},Zc ao ar→Zc (hid ao p) (hid ar p):=λ{ao ar} e b o z=>by
  by_cases h:b=p
  ·rw[h,jz] at z;cases z
  ·rw[Y5 h] at z⊢;exact e b o z
 have o0:∀{ao:Hp}{o:HO},Zc (hid ao p) (hid (upd ao p o) p):=λ{ao o} b u z=>by
  by_cases h:b=p
  ·rw[h,jz] at z;cases z
  ·rw[Y5 h] at z⊢;rw[bJ h];exact z
 have o9:∀{cG:Type}{l:List cG}{x d:cG}{i:Nat},i<l.length→(l++ [x]).getD i d=l.getD i d:=λ{cG l x d i} h=>by simp[List.getD,Re h]
 have ge:∀{cG:Type}{l:List cG}{x d:cG},(l++ [x]).getD l.length d=x:=λ{cG l x d}=>by simp[List.getD]
 refine⟨λi m ys aW H'=>m=n-i∧i≤n∧(∃a,a.length=own∧aW=a++ix.map λj=>(σ[j]?).join)∧Zc H H'∧H' p=some (.lst ys)∧ys.length=i∧∃fs:List (List Addr),fs.length=i∧(∀j<i,R j (ys.getD j .non) (fs.getD j []) (hid H' p))∧(∀j k,j<k→k<i→∀x∈fs.getD j [],x∉fs.getD k [])∧(∀j<i,∀x∈fs.getD j [],H x=none∧x≠p),
  ⟨n,by simp,Qx _,⟨List.replicate own none,Q0,rfl⟩,cF a1,Ze,rfl,[],rfl,λj aU=>absurd aU (Rz _),λj k _ aA=>absurd aA (Rz _),λj aU=>absurd aU (Rz _)⟩,?_⟩
 rintro i m ys aW H' ⟨rfl,hi,⟨a,aS,rfl⟩,aI,cx,f9,fs,i2,c2,lX,eu⟩
 by_cases dx:i<n
 ·refine .inr ⟨w.go H' i aI dx,λx ar o1=>?_⟩;refine ci i a H' x ar _ dx aI (w.yld H' i x ar aI dx o1) aS λa2 be=>?_;refine aG i a2 _ dx (aI.trans be) λa3 cp=>?_;have i4:=(aI.trans be).trans cp;have i5:=cp _ _ (be _ _ cx);rw[if_pos rfl];refine b' p i a3 _ dx a1 ⟨ys,i5⟩ i4 λv fp bH cK lJ xF=>⟨cK _ _ i5,by omega,n-(i+1),by omega,rfl,dx,⟨s i,hs i,rfl⟩,(i4.trans cK).new a1,Ze,by simp[f9],fs++ [fp],by simp[i2],λj aU=>?_,λj k xx aA x al=>?_,λj aU x al=>?_⟩
  ·by_cases e:j=i
   ·subst e;have aV:(ys++ [v]).getD j .non=v:=by rw[←f9];exact ge
    have a8:(fs++ [fp]).getD j []=fp:=by rw[←i2];exact ge
    rw[aV,a8];exact mono _ _ _ _ _ o0 lJ
   ·have hf:j<i:=by omega
    rw[o9 (by omega),o9 (by omega)];exact mono _ _ _ _ _ ((qz ((be.trans cp).trans cK)).trans o0) (c2 j hf)
  ·have hf:j<i:=by omega
   rw[o9 (by omega)] at al
   by_cases e:k=i
   ·subst e;have a8:(fs++ [fp]).getD k []=fp:=by rw[←i2];exact ge
    rw[a8];intro z;have aq:=dom _ _ _ _ (c2 j hf) x al;have ff:=(eu j hf x al).2;rw[Y5 ff] at aq;cases cz:H' x with
    |none=>exact aq cz
    |some o=>have:=xF x z;rw[cp _ _ (be _ _ cz)] at this;cases this
   ·rw[o9 (by omega)];exact lX j k xx (by omega) x al
  ·by_cases e:j=i
   ·subst e;have a8:(fs++ [fp]).getD j []=fp:=by rw[←i2];exact ge
    rw[a8] at al;have cA:=xF x al;refine⟨?_,λz=>by rw[z,i5] at cA;cases cA⟩;cases cz:H x with
    |none=>rfl
    |some o=>rw[i4 _ _ cz] at cA;cases cA
   ·rw[o9 (by omega)] at al;exact eu j (by omega) x al
 ·have e:i=n:=by omega
  subst e;exact .inl ⟨w.stop H' aI,q p H' ys fs a1 aI cx f9 i2 c2 lX eu⟩
end
namespace Rd
end Rd
section
variable {X:Cx}
end
end L2
namespace HT
open PySem PyProof.Rows
section
open PySem.SeqAt
open PySem.MeetsSeq PySem.MeetsSeq2 PySem.MeetsSeq3
variable {prog:Program}{w:World}{A:Around}{E:Value→Shared→Prop}{s:Shared}
theorem ZaJ{t sl:Addr}{items:Array Value}{e6 fq:Value}{lo hi:Option Int}{Q:Value→Shared→Prop}(aT:IsTup s.heap t items)(hs:s.heap.IsSliceOf sl e6 fq .none)(pl:IsPart e6 lo)(f8:IsPart fq hi)
  (hw:sIx items.size 0 lo=0∧sIx items.size items.size hi=items.size) (h:Q (.ref t) s):wpAny (model prog w) A (getItem (.ref t) (.ref sl)) Q E s:=by
 obtain⟨os,lQ,qi,g9⟩:=id hs;have sx:s.TypeIs (.ref sl) "slice" :=⟨os,lQ,qi⟩;unfold getItem
 try with_reducible refine wpAny_holding ?_
 first|refine wpAny_bind (wpAny_pure ?_)|skip
 refine wpAny_bind (wpAny_sequenceKey aT.typeIs (by decide) ?_);refine wpAny_bind (wpAny_callSpecial?_slot (name:=Str.ofString "__getitem__") aT.typeIs QO
  (wpAny_call_entry QO aT.typeIs entry_tuple_getitem ?_ (args_tuple_getitem _ _)))
 show wpAny _ _ (Builtin.Tuple.tupleItemsOf (.ref t) >>= _) _ _ s;refine wpAny_bind (tupleItemsOf_ aT ?_);refine wpAny_bind (wpAny_typeOf sx ?_);rw[if_pos (by decide)];refine wpAny_bind (wD hs pl f8 ?_);have D_:((((sIx items.size 0 lo:Nat):Int)==0&&(1:Int)==1&&(sIx items.size items.size hi-sIx items.size 0 lo)==items.size)=true):=by
  rw[hw.1,hw.2];simp
 show wpAny _ _ (if(((sIx items.size 0 lo:Nat):Int)==0&&(1:Int)==1&&(sIx items.size items.size hi-sIx items.size 0 lo)==items.size)=true then _ else _) _ _ s;rw[if_pos D_];unfold Builtin.Tuple.tupleIsExact;refine wpAny_bind (wpAny_bind (wpAny_typeOf aT.typeIs (wpAny_pure ?_)));rw[if_pos (by decide)];refine wpAny_bind (wpAny_rule ?_)
 first
  |exact wpAny_pure ⟨_,rfl,wpAny_pure h⟩
  |exact wpAny_bind (wpAny_pure (wpAny_pure ⟨_,rfl,wpAny_pure h⟩))
end
end HT
namespace L2
section
variable {X:Cx}{K:Frag}
open PySem PySem.Spec PyProof.Rows
noncomputable def xG (K:Frag):V→Option Int→Option Int→Hp→VK→Prop:=λx lo hi H Q=>∃a xs,x= .ref a∧SqT K H a xs∧((gm xs lo hi=xs→Q (.ref a) H)∧∀p,H p=none→Q (.ref p) (upd H p (.tup (gm xs lo hi))))
theorem D'(e:X.K=K):SlR X (xG K):=by
 subst e;intro ah s σ H x v e6 fq lo hi sl Q I bI hs pl f8 h;obtain⟨a,xs,rfl,al,cz,c6⟩:=h
 by_cases hw:HT.sIx xs.length 0 lo=0∧HT.sIx xs.length xs.length hi=xs.length
 ·cases bI;obtain⟨its,r,aT,bh⟩:=I.tuple al;have dg:its.toArray.size=xs.length:=by rw[Qd];exact r.length.symm
  refine⟨"tuple",_,QO.lookup,aT.typeIs,?_⟩;refine HT.ZaJ aT hs pl f8 (by rw[dg];exact hw) ⟨.ref a,H,I,rfl,cz ?_⟩;unfold gm;rw[hw.1,hw.2];simp
 ·exact wH ah s σ H _ v e6 fq lo hi sl Q I bI hs pl f8 ⟨a,xs,rfl,al,hw,c6⟩
end
namespace Rd
open PySem PySem.Spec PyProof.Rows
theorem Zli{K:Frag}{H:Hp}{Q:VK}{a:Addr}{xs ys:List V}{lo hi:Option Int}(h:H a=some (.tup xs))(e:gm xs lo hi=ys)(main:∀bn bH,Zc H bH→bH bn=some (.tup ys)→Q (.ref bn) bH):xG K (.ref a) lo hi H Q:=
 ⟨a,xs,rfl,.of h,λz=>main a H (Zc.refl _) (by rw[←e,z];exact h),λp a1=>main p _ (cF a1) (by rw[←e];exact Ze)⟩
end Rd
end L2
namespace L2
open PySem PySem.Spec PyProof.Rows
section
variable {X:Cx}
noncomputable def Ea (K:Frag):R2:=λx y H Q=>∃a b xs ys,x= .ref a∧y= .ref b∧SqT K H a xs∧SqT K H b ys∧xs.length+ys.length≤sizeLine∧
 (xs=[]→Q (.ref b) H)∧(xs≠[]→ys=[]→Q (.ref a) H)∧(xs≠[]→ys≠[]→∀p,H p=none→Q (.ref p) (upd H p (.tup (xs++ys))))
theorem Eb{K:Frag}(e:X.K=K):OpR X (binaryOp .Add) (Ea K):=by
 subst e;intro ah s σ H x y v u Q I bI cv h;obtain⟨a,b,xs,ys,rfl,rfl,aS,am,bh,oP,cz,c6⟩:=h
 by_cases al:xs=[]
 ·cases bI;cases cv;obtain⟨its,cy,gp,_⟩:=I.tuple aS;obtain⟨h7,cU,fI,_⟩:=I.tuple am;have b':its=[]:=cy.nil_iff.mpr al;obtain⟨⟨cls,dd,data,sl⟩,a_,aG,n,hd⟩:=id gp;obtain⟨⟨B',qg,data2,qh⟩,lP,oz,eD,jv⟩:=id fI;simp only at aG hd oz jv;subst aG hd oz jv;exact concat_meets ⟨_,a_,rfl⟩ ⟨_,lP,rfl⟩ noFill_tuple_add seq_tuple_add RE RC (Rv _ _)
   (tuple_addW0 a b its.toArray h7.toArray n eD dd qg sl qh (by simp[b'])) ⟨a_,lP,⟨.ref b,H,I,rfl,oP al⟩⟩
 ·exact wI ah s σ H _ _ _ _ Q I bI cv ⟨a,b,xs,ys,rfl,rfl,aS,am,al,bh,cz al,c6 al⟩
end
end L2
namespace My
@[irreducible] noncomputable def G (a b:Int):Int:=((Int.gcd a b:Nat):Int)
theorem Zdp(n m:Nat):G (n:Int) (m:Int)=((Nat.gcd n m:Nat):Int):=by
 unfold G
 rfl
theorem ZjW{a b:Int}(aS:0≤a)(am:b=0):G a b=a:=by
 subst am;obtain⟨n,rfl⟩:=QE aS;have:=Zdp n 0;rw[Nat.gcd_zero_right] at this;exact this
theorem Zkd{a b:Int}(aS:0≤a)(am:0<b):G b (Int.fmod a b)=G a b:=by
 obtain⟨n,rfl⟩:=QE aS;obtain⟨m,rfl⟩:=QE (Int.le_of_lt am);rw[Rn _ (Q3 m),←Int.natCast_emod,Zdp,Zdp,Nat.gcd_comm n m,Nat.gcd_rec m n,Nat.gcd_comm]
structure S(k:Nat)(x:Int):Prop where
 lo:0≤x
 hi:x.toNat<2 ^ (2048*2 ^ k)
theorem Ec{j k:Nat}(h:j≤k):2 ^ (2048*2 ^ j)≤2 ^ (2048*2 ^ k):=
 Nat.pow_le_pow_right (by decide) (Nat.mul_le_mul_left _ (Nat.pow_le_pow_right (by decide) h))
theorem S.mono{j k:Nat}{x:Int}(h:S j x)(aU:j≤k):S k x:=⟨h.lo,Qu h.hi (Ec aU)⟩
end My
namespace MM
structure Sys where
 n:Nat
 taker:Nat→Int
 giver:Nat→Int
 take:Nat→Nat
 out:Nat→List Int→List Int
noncomputable def slots (S:Sys) (st:Nat→List Int) (w:Int):List Int:=((List.range S.n).filter λi=>decide (S.taker i=w)).flatMap λi=>(st i).take (S.take i)
noncomputable def step (S:Sys) (st:Nat→List Int) (w:Int):Nat→List Int:=λi=>
 if i<S.n then(if S.taker i=w then(st i).drop (S.take i) else st i)++(if S.giver i=w then S.out i (slots S st w) else[]) else st i
def ok(S:Sys)(st:Nat→List Int)(w:Int):Prop:=∀i<S.n,S.taker i=w→S.take i≤(st i).length
noncomputable def run (S:Sys) (st:Nat→List Int):List Int→Nat→List Int
 | []=>st
 |w::ws=>run S (step S st w) ws
noncomputable def Ok (S:Sys) (st:Nat→List Int):List Int→Prop
 | []=>True
 |w::ws=>ok S st w∧Ok S (step S st w) ws
variable {S:Sys}{st:Nat→List Int}
theorem Zbm:∀{ws:List Int}{st:Nat→List Int}{w:Int},run S st (ws++ [w])=step S (run S st ws) w
 | [],_,_=>rfl
 |_::ws,_,_=>Zbm (ws:=ws)
theorem Ze1:∀{ws:List Int}{st:Nat→List Int}{i:Nat}{w:Int},Ok S st ws→ws[i]? =some w→ok S (run S st (ws.take i)) w
 | [],_,_,_,_,e=>by simp at e
 |x::ws,st,0,w,⟨h,_⟩,e=>by simp at e;subst e;exact h
 |x::ws,st,i+1,w,⟨_,h⟩,e=>Ze1 (ws:=ws) (i:=i) h (by simpa using e)
end MM
set_option Elab.async false
set_option linter.all false
set_option maxRecDepth 100000
set_option maxHeartbeats 4000000
local macro_rules| `(tactic|omega)=>`(tactic|with_reducible first|exact Q3 _|exact L2.oA (by assumption) (by assumption)|exact L2.oB (by assumption) (by assumption) rfl|exact L2.oC (by assumption) (by assumption) rfl|exact L2.oD (by assumption) rfl|exact L2.oE (by assumption) (by assumption)|exact L2.oF (by assumption)|lia|fail)
local macro_rules| `(tactic|walk_at "mul")=>`(tactic|k_dflt (first|with_reducible assumption|exact L2.ZfE.ok (Or.inr ⟨by omega,by omega⟩)|exact L2.ZfE.ok (Or.inl ⟨by omega,by omega⟩)))
local macro_rules| `(tactic|walk_at "lk")=>`(tactic|first|exact L2.Rd.lk0|exact L2.Rd.lkN|(refine L2.Rd.lk1 (by decide+kernel) ?_;walk_at "lk"))
local macro_rules| `(tactic|walk_at "pf")=>`(tactic|first|exact L2.Rd.pf0|exact L2.Rd.pfN|(apply L2.Rd.pf1;(decide+kernel);walk_at "pf"))
local macro_rules| `(tactic|walk_at "na")=>`(tactic|exact L2.Wl.get (by with_reducible assumption) (by decide+kernel))
local macro_rules| `(tactic|walk_at "cond")=>`(tactic|k_dflt (first|with_reducible assumption|decide|omega|(simp;done)|(simp only[List.length_cons,List.length_nil,Qb,Qg];omega)))
local macro_rules| `(tactic|walk_at "rdis")=>`(tactic|((with_reducible show ∃x n t b,_=_∧L2.Wm _ _ x t∧_);first|with_reducible apply L2.Rd.ZfO|with_reducible apply L2.Rd.Zey|with_reducible apply L2.Rd.is_int_str|with_reducible apply L2.Rd.is_int_list|with_reducible apply L2.Rd.is_int_tuple|with_reducible apply L2.Rd.is_int_dict|with_reducible apply L2.Rd.is_bl_int|with_reducible apply L2.Rd.is_bl_bool|with_reducible apply L2.Rd.is_bl_str|with_reducible apply L2.Rd.is_bl_list|with_reducible apply L2.Rd.is_bl_tuple|with_reducible apply L2.Rd.is_bl_dict|with_reducible apply L2.Rd.is_str_int|with_reducible apply L2.Rd.is_str_bool|with_reducible apply L2.Rd.Zfq|with_reducible apply L2.Rd.is_str_list|with_reducible apply L2.Rd.is_str_tuple|with_reducible apply L2.Rd.is_str_dict|with_reducible apply L2.Rd.is_non_int|with_reducible apply L2.Rd.is_non_bool|with_reducible apply L2.Rd.is_non_str|with_reducible apply L2.Rd.is_non_list|with_reducible apply L2.Rd.is_non_tuple|with_reducible apply L2.Rd.is_non_dict|with_reducible refine L2.Rd.is_lst_int (by with_reducible assumption) ?_|with_reducible refine L2.Rd.is_lst_bool (by with_reducible assumption) ?_|with_reducible refine L2.Rd.is_lst_str (by with_reducible assumption) ?_|with_reducible refine L2.Rd.ZeH (by with_reducible assumption) ?_|with_reducible refine L2.Rd.is_lst_tuple (by with_reducible assumption) ?_|with_reducible refine L2.Rd.is_lst_dict (by with_reducible assumption) ?_|with_reducible refine L2.Rd.is_tup_int (by with_reducible assumption) ?_|with_reducible refine L2.Rd.is_tup_bool (by with_reducible assumption) ?_|with_reducible refine L2.Rd.is_tup_str (by with_reducible assumption) ?_|with_reducible refine L2.Rd.is_tup_list (by with_reducible assumption) ?_|with_reducible refine L2.Rd.is_tup_tuple (by with_reducible assumption) ?_|with_reducible refine L2.Rd.is_tup_dict (by with_reducible assumption) ?_|with_reducible refine L2.Rd.is_dK_int (by with_reducible assumption) ?_|with_reducible refine L2.Rd.is_dK_bool (by with_reducible assumption) ?_|with_reducible refine L2.Rd.is_dK_str (by with_reducible assumption) ?_|with_reducible refine L2.Rd.is_dK_list (by with_reducible assumption) ?_|with_reducible refine L2.Rd.is_dK_tuple (by with_reducible assumption) ?_|with_reducible refine L2.Rd.is_dK_dict (by with_reducible assumption) ?_))
local macro_rules| `(tactic|walk_at "side")=>`(tactic|k_dflt (first|with_reducible assumption|decide|(dsimp only;decide)|(dsimp only[L2.Zj1];decide)|omega|(dsimp only;omega)))
local macro_rules| `(tactic|walk_at "hp")=>`(tactic|with_reducible (first|assumption|((show L2.SqL _ _ _ _);(first|exact L2.SqL.of (by assumption)|exact L2.OffL.sq (by assumption)|exact L2.Zc.seq (by assumption) (by assumption)))|((show L2.SqT _ _ _ _);(first|exact L2.SqT.of (by assumption)|exact L2.OffT.sq (by assumption)|exact L2.Zc.seqT (by assumption) (by assumption)))))
local macro_rules| `(tactic|walk_at "rd")=>`(tactic|first|with_reducible (first|apply L2.Rd.seq|apply L2.Rd.asg|apply L2.Rd.ret|apply L2.Rd.ifs|apply L2.Rd.next|apply L2.Rd.drop|apply L2.Rd.op|apply L2.Rd.un|apply L2.Rd.Zk7|apply L2.Rd.con|(show L2.Zed _ _ _ _;refine L2.Rd.var (by k_dflt rfl) ?_)|(show L2.VZ _ _ _ _ _;refine L2.Rd.Zkm (by k_dflt (dsimp only[L2.start,List.map_cons,List.map_nil,List.cons_append,List.nil_append,List.length_cons,List.length_nil,Nat.reduceAdd,Nat.reduceSub,List.replicate,List.set];(try rfl))) ?_)|apply L2.Rd.call|apply L2.Rd.cons|apply L2.Rd.nil|apply L2.Rd.cb|apply L2.Rd.tup|apply L2.Rd.lst|apply L2.Rd.Zla|apply L2.Rd.or_|apply L2.Rd.Zlx|apply L2.Rd.Zln|apply L2.Rd.Zlf|apply L2.Rd.i0|(show L2.rI _ _ _ _ _ _;refine L2.Rd.iC (by walk_at "side") ?_)|apply L2.Rd.bl|apply L2.Rd.Zld|(show L2.rOr L2.ZfS _ _ _ _ _;refine L2.Rd.mulI (by walk_at "mul") ?_)|apply L2.Rd.Zlm|apply L2.Rd.Zlc|(show L2.rOr _ (L2.rOr L2.ZbX _) (L2.V.str _) (L2.V.str _) _ _;refine L2.Rd.Zjp (by walk_at "side") ?_)|(show L2.rIx _ _ _ _ _;refine L2.Rd.Zlj (by walk_at "hp") (by k_dflt rfl) ?_)|(show L2.rIx _ _ _ _ _;refine L2.Rd.Zi3 (by walk_at "hp") (by k_dflt (first|rfl|with_reducible assumption)) ?_)|apply L2.Rd.un1|(show ∃a,L2.V.ref _=L2.V.ref a∧(∃xs,L2.SqL _ _ a xs)∧_;refine L2.Rd.Zjg (by walk_at "hp") ?_)|(show ∃k,[L2.V.int _]=[L2.V.int k]∧_;refine L2.Rd.Zkw (by k_dflt omega) (by k_dflt omega) ?_)|apply L2.Rd.Zlo|(show ∃x n,_=_∧L2.Uy _ x _ n∧_;refine L2.Rd.ZkK (by walk_at "hp") ?_)|(show ∃x n,_=_∧L2.Uy _ x _ n∧_;refine L2.Rd.ZkX (by walk_at "hp") ?_)|(show ∃x n,_=_∧L2.Uy _ x _ n∧_;refine L2.Rd.lenS (by walk_at "side") ?_))|walk_at "rdis" |with_reducible (first|apply L2.Rd.Zlu|apply L2.Rd.tru|apply L2.Rd.Zlb|apply L2.Rd.ZkS|apply L2.Rd.Zk3|apply L2.Rd.bm|apply L2.Rd.bm0|(show L2.tyV _ _ _ _∧_;refine L2.Rd.tyl (by with_reducible assumption) ?_)|(show L2.rAppend _ _ _ _;refine L2.Rd.app (by with_reducible assumption) (by walk_at "side") ?_)|apply L2.ZdI|apply L2.ZdD|apply L2.Rd.Zij|apply L2.Rd.Zh8|(show if decide _=true then _ else _;refine L2.Rd.ifP (by walk_at "cond") ?_)|(show if decide _=true then _ else _;refine L2.Rd.ifN (by walk_at "cond") ?_)|(show if(!decide _)=true then _ else _;refine L2.Rd.Zlr (by walk_at "cond") ?_)|(show if(!decide _)=true then _ else _;refine L2.Rd.ZkZ (by walk_at "cond") ?_)|apply L2.Rd.sl|apply L2.Rd.ZjT|apply L2.Rd.Zk0|apply L2.Rd.ZkC|apply L2.Rd.Zlq|(show ∃a C ap fs v,L2.V.ref _=L2.V.ref a∧_=some (L2.HO.ins C ap fs)∧L2.Cls _ C∧_;refine L2.Rd.fld (by with_reducible assumption) (by with_reducible assumption) (by k_dflt (walk_at "na")) (by k_dflt (walk_at "lk")) ?_)|(show L2.Zbo _ _ _ _ _ _ _ _ _ _ _;refine L2.Rd.ZkI (by k_dflt rfl) ?_)|(show L2.Zd6 _ _ _ _ _ _ _ _ _;refine L2.Rd.Zkk (by k_dflt rfl) ?_)|apply L2.Rd.ZkU|(show L2.rSetL _ _ _ _ _;refine L2.Rd.ZkQ (by with_reducible assumption) (by k_dflt omega) (by walk_at "cond") ?_)|apply L2.Rd.Zkl|(show ∃a ap fs,L2.V.ref _=L2.V.ref a∧_∧List.lookup _ fs=none∧_;refine L2.Rd.Zk6 (by with_reducible assumption) (by k_dflt (walk_at "lk")) ?_)|apply L2.Rd.Zkt|apply L2.Rd.Zk9|(show ∃a C ap fs,L2.V.ref _=L2.V.ref a∧_=some (L2.HO.ins C ap fs)∧L2.Cls _ C∧_;refine L2.Rd.ZkH (by with_reducible (first|assumption|exact L2.Ze)) (by with_reducible assumption) (by k_dflt (walk_at "na")) (by k_dflt (simp only[List.length_cons,List.length_nil];decide)) (by k_dflt (walk_at "pf")) ?_)|apply L2.Rd.raise|apply L2.Rd.ZjR|apply L2.Rd.Zkx|apply L2.Rd.ZkR|apply L2.Rd.ZkE|apply L2.Rd.Zly|apply L2.Rd.Zkn|(show ∃p bs,[L2.V.ref _]=[L2.V.ref p]∧L2.SqL _ _ p (List.map L2.V.bl bs)∧_;refine L2.Rd.Zk2 (by walk_at "hp") ?_)|apply L2.Rd.leS|apply L2.Rd.ZkA)|((with_reducible show if(!(_==_))=true then _ else _);first|refine L2.Rd.Zij ?_|refine L2.Rd.Zh8 ?_)|((with_reducible show if(_==_)=true then _ else _);first|refine L2.ZdI ?_|refine L2.ZdD ?_)|with_reducible (first|apply L2.Rd.ZjO|apply L2.Rd.ZkJ|(show ∃a,_=_∧(∃xs,L2.SqL _ _ a xs)∧_;refine L2.Rd.Zjd (by walk_at "hp") ?_)|apply L2.Rd.Zlk|apply L2.Rd.Zlw)|((with_reducible show L2.rDIn _ _ _ _);first|with_reducible refine L2.Rd.Zle (by with_reducible assumption) ?_|with_reducible refine L2.Rd.dinI (by with_reducible assumption) ?_)|((with_reducible show L2.rSetD _ _ _ _ _);first|with_reducible refine L2.Rd.ZkF (by with_reducible assumption) (by walk_at "side") ?_|with_reducible refine L2.Rd.dsetI (by with_reducible assumption) (by walk_at "side") ?_)|with_reducible (first|(show L2.rLenD _ _ _;refine L2.Rd.ZkV (by with_reducible assumption) ?_)|(show L2.rListD _ _ _;refine L2.Rd.ZkO (by with_reducible assumption) ?_)|apply L2.Rd.Zk5|apply L2.Rd.ipi|(show L2.Zcg _ _ _ _ _;refine L2.Rd.ixl (by walk_at "hp") (by k_dflt (first|rfl|with_reducible assumption)) ?_)|apply L2.Rd.Zk4|apply L2.Rd.Zll|apply L2.Rd.Zlv|apply L2.Rd.ZkM))
local macro_rules| `(tactic|walk_at "rds")=>`(tactic|repeat' (walk_at "rd"))
namespace Nm
open PySem L2
noncomputable def top (i:Nat):Stmt:=PySem.Challenge.pw_ratehall_k27_mill_rows.main.body.getD i (.Pass ⟨0,0,0,0⟩)
noncomputable abbrev xH:Stmt:=top 40
noncomputable abbrev xI:Stmt:=top 46
noncomputable abbrev qJ:Stmt:=top 47
noncomputable abbrev xJ:Stmt:=top 48
noncomputable abbrev tz:Stmt:=top 33
noncomputable abbrev xK:Stmt:=ZY (top 37) 1
noncomputable abbrev xL:Stmt:=top 13
noncomputable abbrev xM:Stmt:=top 14
noncomputable abbrev xN:Stmt:=top 38
noncomputable abbrev xO:Stmt:=top 15
noncomputable abbrev xP:Stmt:=ZY (top 37) 11
noncomputable abbrev xQ:Stmt:=ZY (top 37) 3
noncomputable abbrev xR:Stmt:=ZY (top 37) 2
noncomputable abbrev xS:Stmt:=ZY (top 37) 0
noncomputable abbrev xT:Stmt:=top 45
noncomputable abbrev tA:Stmt:=top 53
noncomputable abbrev tD:Stmt:=ZY (top 37) 10
noncomputable abbrev xU:Stmt:=ZY (top 37) 12
noncomputable abbrev xV:Stmt:=ZY (top 37) 8
noncomputable abbrev tE:Stmt:=top 19
noncomputable abbrev tF:Stmt:=top 27
noncomputable abbrev tG:Stmt:=ZY (top 37) 9
noncomputable abbrev tH:Stmt:=top 18
noncomputable abbrev qK:Stmt:=top 26
noncomputable abbrev xW:Stmt:=ZY (top 37) 5
noncomputable abbrev xX:Stmt:=top 25
noncomputable abbrev xY:Stmt:=ZY (top 37) 7
noncomputable abbrev tI:Stmt:=top 22
noncomputable abbrev tJ:Stmt:=top 28
noncomputable abbrev o_:Stmt:=ZY (top 17) 0
noncomputable abbrev xZ:Stmt:=ZY (top 30) 0
noncomputable abbrev tK:Stmt:=ZY (top 29) 0
noncomputable abbrev x_:Stmt:=top 54
noncomputable abbrev x':Stmt:=top 41
noncomputable abbrev tL:Stmt:=top 56
noncomputable abbrev tM:Stmt:=top 57
noncomputable abbrev ya:Stmt:=top 52
noncomputable abbrev yb:Stmt:=top 42
noncomputable abbrev yc:Stmt:=top 43
noncomputable abbrev tN:Stmt:=top 20
noncomputable abbrev yd:Stmt:=ZY (top 17) 5
noncomputable abbrev ye:Stmt:=ZY (top 17) 3
noncomputable abbrev tO:Stmt:=top 24
noncomputable abbrev yf:Stmt:=ZY (top 30) 2
noncomputable abbrev yg:Stmt:=ZY (top 30) 3
noncomputable abbrev yh:Stmt:=ZY (top 30) 1
noncomputable abbrev tP:Stmt:=ZY (top 29) 4
noncomputable abbrev yi:Stmt:=ZY (top 29) 2
noncomputable abbrev yj:Stmt:=top 55
noncomputable abbrev yk:Stmt:=top 51
noncomputable abbrev yl:Stmt:=top 49
noncomputable abbrev tQ:Stmt:=top 50
noncomputable abbrev UV:Stmt:=ZY (top 17) 4
noncomputable abbrev tR:Stmt:=ZY (top 29) 3
noncomputable abbrev o':Stmt:=top 58
theorem tS:Zq ["_law_script","_law_k","_law_lap","_law_cell"] ["_law_script","_law_k"] (cq xH):=scI
theorem nj:Zq ["_law_cell","_law_slots","_law_great","_law_mix","_law_constant","_law_terms","_law_k"] ["_law_cell","_law_slots","_law_great"] (cq xI):=scI
theorem kR:Zq ["_law_script","_law_at","_law_belts","_law_many","_law_great","_law_forms","_law_work","_law_slots","_law_given","_law_some","_law_k"] ["_law_script","_law_at","_law_belts","_law_many","_law_great"] (cq qJ):=scI
theorem nk:Zq ["_law_script","_law_at","_law_belts","_law_pieces","_law_belt","_law_some","_law_k"] ["_law_script","_law_at","_law_belts"] (cq xJ):=scI
theorem Ed:Zq ["thing"] ["thing"] (cq tz):=scI
theorem ym:Zq ["self","name","number"] ["self","name"] (cq xK):=scI
theorem Ee:Zq ["thing"] ["thing"] (cq xL):=scI
theorem Ef:Zq ["thing","least"] ["thing","least"] (cq xM):=scI
theorem Eg:Zq ["start"] ["start"] (cq xN):=scI
theorem Eh:Zq ["thing","bound"] ["thing","bound"] (cq xO):=scI
theorem Ei:Zq ["self","work"] ["self","work"] (cq xP):=scI
theorem Ej:Zq ["self","row"] ["self","row"] (cq xQ):=scI
theorem Ek:Zq ["self","giver","taker","give","take","start"] ["self","giver","taker","give","take","start"] (cq xR):=scI
theorem El:Zq ["self"] ["self"] (cq xS):=scI
theorem kS:Zq ["_law_names_here","_law_belts","_law_hall","_law_name","_law_giver","_law_taker","_law_give","_law_take","_law_start"] ["_law_names_here","_law_belts"] (cq xT):=scI
theorem yn:Zq ["_law_e","_law_some"] ["_law_e"] (cq tA):=scI
theorem Em:Zq ["self","work"] ["self","work"] (cq tD):=scI
theorem En:Zq ["self","belt"] ["self","belt"] (cq xU):=scI
theorem Eo:Zq ["self","belt"] ["self","belt"] (cq xV):=scI
theorem Ep:Zq ["hall","work"] ["hall","work"] (cq tE):=scI
theorem Er:Zq ["hall","work"] ["hall","work"] (cq tF):=scI
theorem Es:Zq ["self","work"] ["self","work"] (cq tG):=scI
theorem Et:Zq ["hall","work"] ["hall","work"] (cq tH):=scI
theorem tT:Zq ["hall","work","forms","slots","form"] ["hall","work","forms"] (cq qK):=scI
theorem Eu:Zq ["self"] ["self"] (cq xW):=scI
theorem tU:Zq ["hall","forms","work","work_forms"] ["hall","forms"] (cq xX):=scI
theorem Ev:Zq ["self"] ["self"] (cq xY):=scI
theorem Ew:Zq ["hall"] ["hall"] (cq tI):=scI
theorem yo:Zq ["hall","pieces","starts"] ["hall","pieces"] (cq tJ):=scI
theorem yp:Zq ["self","hall","works"] ["self","hall"] (cq o_):=scI
theorem Ey:Zq ["self","pieces"] ["self","pieces"] (cq xZ):=scI
theorem Ez:Zq ["self","hall","forms","pieces"] ["self","hall","forms","pieces"] (cq tK):=scI
theorem nl:Zq ["_law_hall","_law_forms","_law_pieces","_law_mill","_law_kind_here","_law_e"] ["_law_hall","_law_forms","_law_pieces"] (cq x_):=scI
theorem i_:Zq ["_law_cell","_law_many","_law_letters","_law_long","_law_at","_law_some","_law_k","_law_word","_law_place","_law_turn"] ["_law_cell","_law_many"] (cq x'):=scI
theorem l_:Zq ["_law_forms","_law_cell","_law_belts","_law_work","_law_some","_law_way","_law_slots","_law_at","_law_slot","_law_found"] ["_law_forms","_law_cell","_law_belts","_law_work"] (cq tL):=scI
theorem tV:Zq ["_law_hall","_law_forms","_law_pieces","_law_belts","_law_cell","_law_many","_law_bad","_law_less"] ["_law_hall","_law_forms","_law_pieces","_law_belts","_law_cell","_law_many"] (cq tM):=scI
theorem tW:Zq ["_law_found","_law_due","_law_row","_law_piece"] ["_law_found","_law_due"] (cq ya):=scI
theorem qL:Zq ["_law_one","_law_other","_law_rest"] ["_law_one","_law_other"] (cq yb):=scI
theorem jB:Zq ["_law_cell","_law_rates","_law_top","_law_ample","_law_mix","_law_giver","_law_taker","_law_both","_law_times_by","_law_give","_law_take","_law_start"] ["_law_cell","_law_rates","_law_top","_law_ample"] (cq yc):=scI
theorem EA:Zq ["heaps","takes"] ["heaps","takes"] (cq tN):=scI
theorem EB:Zq ["self","work"] ["self","work"] (cq yd):=scI
theorem l':Zq ["self","row","heaps","work","belt","take","give"] ["self","row"] (cq ye):=scI
theorem EC:Zq ["form","pieces"] ["form","pieces"] (cq tO):=scI
theorem ED:Zq ["self","pieces"] ["self","pieces"] (cq yf):=scI
theorem EE:Zq ["self"] ["self"] (cq yg):=scI
theorem yq:Zq ["self","many","taken"] ["self","many"] (cq yh):=scI
theorem kh:Zq ["self","work","slots","belt","take","given","done","give"] ["self","work"] (cq tP):=scI
theorem yr:Zq ["self","row","work"] ["self","row"] (cq yi):=scI
theorem qM:Zq ["_law_thing","_law_row","_law_kind_here","_law_e"] ["_law_thing","_law_row"] (cq yj):=scI
theorem tX:Zq ["_law_belts","_law_loads_here","_law_work","_law_k","_law_belt"] ["_law_belts","_law_loads_here","_law_work"] (cq yk):=scI
theorem pa:Zq ["_law_form","_law_slots","_law_come","_law_slot","_law_factor"] ["_law_form","_law_slots"] (cq yl):=scI
theorem ki:Zq ["_law_belts","_law_forms","_law_loads_here","_law_work","_law_slots","_law_k","_law_belt","_law_at"] ["_law_belts","_law_forms","_law_loads_here","_law_work"] (cq tQ):=scI
theorem EF:Zq ["self"] ["self"] (cq UV):=scI
theorem EG:Zq ["self"] ["self"] (cq tR):=scI
theorem fX:Zq ["_law_script","_law_first","_law_many","_law_rates","_law_belts","_law_k","_law_forms","_law_pieces","_law_hall","_law_mill","_law_kind_here","_law_floor","_law_row","_law_due","_law_loads_here","_law_cell","_law_work","_law_handed"] ["_law_script"] (cq o'):=scI
set_option genInjectivity false
set_option genSizeOf false
set_option genSizeOfSpec false
set_option genInjectivity false in
set_option genSizeOf false in
structure Tp(K:Frag)(mg:Str→Option Value) where
 {b:Addr}
 a6:mg "Floor" =some (.ref b)
 g:Cls K b
 o:Wl K b ["takes","gives","heaps"]
 {h:Addr}
 br:mg "Mill" =some (.ref h)
 m:Cls K h
 z:Wl K h ["floor","forms","lanes"]
 {j:Addr}
 bs:mg "Lane" =some (.ref j)
 i:Cls K j
 w:Wl K j ["laid","gone"]
 {B:Addr}
 bt:mg "Hall" =some (.ref B)
 a:Cls K B
 f:Wl K B ["numbers","rows"]
 x0:Dn K mg "_law_cell_at" "_law_cell_at" xH ["_law_script","_law_k"]
 x1:Dn K mg "_law_form_by" "_law_form_by" xI ["_law_cell","_law_slots","_law_great"]
 x2:Dn K mg "_law_forms_by" "_law_forms_by" qJ ["_law_script","_law_at","_law_belts","_law_many","_law_great"]
 x3:Dn K mg "_law_pieces_by" "_law_pieces_by" xJ ["_law_script","_law_at","_law_belts"]
 x4:Dn K mg "is_name" "is_name" tz ["thing"]
 x5:Dm K B "work" "Hall.work" xK ["self","name"]
 x6:Dn K mg "is_whole" "is_whole" xL ["thing"]
 x7:Dn K mg "is_from" "is_from" xM ["thing","least"]
 x8:Dn K mg "need_start" "need_start" xN ["start"]
 x9:Dn K mg "is_number_below" "is_number_below" xO ["thing","bound"]
 bf:Dm K B "need_work" "Hall.need_work" xP ["self","work"]
 bM:Dm K B "lay" "Hall.lay" xQ ["self","row"]
 {ae:Addr}
 {af:FuncData}
 {yt:Addr}
 {tY:Tok}
 aJ:Zba K B "belt" ae
 aK:ZfU K "belt" "Hall.belt" xR yt ae af
 NB:∃e_ dY n sl,K.lookup yt=some ⟨e_,dY,.seq #[.int 0 tY] n,sl⟩
 aL:Y8 K af ["self","giver","taker","give","take","start"] []
 NC:Y8 K af ["self","giver","taker","give","take","start"] [.int 0 tY]
 bi:cD [.int 0] [.int 0 tY]
 bN:Di K B "Hall.__init__" xS ["self"]
 bO:Dn K mg "_law_made" "_law_made" xT ["_law_names_here","_law_belts"]
 bu:Dn K mg "_law_kind" "_law_kind" tA ["_law_e"]
 bP:Dm K B "leaving" "Hall.leaving" tD ["self","work"]
 bQ:Dm K B "need_belt" "Hall.need_belt" xU ["self","belt"]
 bv:Dm K B "belt_at" "Hall.belt_at" xV ["self","belt"]
 bw:Dn K mg "gives_of" "gives_of" tE ["hall","work"]
 bR:Dn K mg "given_by" "given_by" tF ["hall","work"]
 bS:Dm K B "entering" "Hall.entering" tG ["self","work"]
 bx:Dn K mg "takes_of" "takes_of" tH ["hall","work"]
 bT:Dn K mg "need_work_forms" "need_work_forms" qK ["hall","work","forms"]
 bz:Dm K B "names" "Hall.names" xW ["self"]
 bU:Dn K mg "need_forms" "need_forms" xX ["hall","forms"]
 bA:Dm K B "belts" "Hall.belts" xY ["self"]
 bV:Dn K mg "starts_of" "starts_of" tI ["hall"]
 bW:Dn K mg "need_pieces" "need_pieces" tJ ["hall","pieces"]
 bB:Di K b "Floor.__init__" o_ ["self","hall"]
 bX:Di K j "Lane.__init__" xZ ["self","pieces"]
 bY:Di K h "Mill.__init__" tK ["self","hall","forms","pieces"]
 bj:Dn K mg "_law_made_of" "_law_made_of" x_ ["_law_hall","_law_forms","_law_pieces"]
 bZ:Dn K mg "_law_names" "_law_names" x' ["_law_cell","_law_many"]
 b0:Dn K mg "_law_spoilt" "_law_spoilt" tL ["_law_forms","_law_cell","_law_belts","_law_work"]
 b1:Dn K mg "_law_refusals_good" "_law_refusals_good" tM ["_law_hall","_law_forms","_law_pieces","_law_belts","_law_cell","_law_many"]
 bC:Dn K mg "_law_loads" "_law_loads" ya ["_law_found","_law_due"]
 b2:Dn K mg "_law_common" "_law_common" yb ["_law_one","_law_other"]
 b3:Dn K mg "_law_belt_by" "_law_belt_by" yc ["_law_cell","_law_rates","_law_top","_law_ample"]
 b4:Dn K mg "enough" "enough" tN ["heaps","takes"]
 b5:Dm K b "need_work" "Floor.need_work" yd ["self","work"]
 bD:Dm K b "go" "Floor.go" ye ["self","row"]
 b6:Dn K mg "form_value" "form_value" tO ["form","pieces"]
 b7:Dm K j "lay_behind" "Lane.lay_behind" yf ["self","pieces"]
 bE:Dm K j "lying" "Lane.lying" yg ["self"]
 b8:Dm K j "drawn_off" "Lane.drawn_off" yh ["self","many"]
 b9:Dm K h "pass_on" "Mill.pass_on" tP ["self","work"]
 ca:Dm K h "go" "Mill.go" yi ["self","row"]
 a9:Dn K mg "_law_gone" "_law_gone" yj ["_law_thing","_law_row"]
 cb:Dn K mg "_law_can" "_law_can" yk ["_law_belts","_law_loads_here","_law_work"]
 cc:Dn K mg "_law_worth" "_law_worth" yl ["_law_form","_law_slots"]
 cd:Dn K mg "_law_milled" "_law_milled" tQ ["_law_belts","_law_forms","_law_loads_here","_law_work"]
 ce:Dm K b "lying" "Floor.lying" UV ["self"]
 bF:Dm K h "lying" "Mill.lying" tR ["self"]
 bG:Dn K mg "law" "law" o' ["_law_script"]
 aw:mg "ValueError" =none
 aY:mg "all" =none
 bk:mg "bool" =none
 p:mg "enumerate" =none
 aZ:mg "int" =none
 c:mg "isinstance" =none
 e:mg "len" =none
 k:mg "list" =none
 cf:mg "min" =none
 q:mg "range" =none
 cg:mg "str" =none
 Z:mg "sum" =none
 aE:mg "tuple" =none
 ch:mg "zip" =none
 {iE:Addr}
 ag:Ex K mg "RateError" iE
 {bl:Addr}
 aN:Ex K mg "NoName" bl
 {bp:Addr}
 a7:Ex K mg "Twice" bp
 {ax:Addr}
 J:Ex K mg "TooMuch" ax
 {l:Addr}
 I:Ex K mg "NoWork" l
 {aO:Addr}
 aP:Ex K mg "NoBelt" aO
 {aQ:Addr}
 T:Ex K mg "NoRate" aQ
 {S:Addr}
 aF:Ex K mg "Empty" S
 {t:Addr}
 u:Ex K mg "NoForm" t
 {r:Addr}
 x:Ex K mg "NoPieces" r
 ND:exmOne K (.ref iE) (.ref iE)=some true
 NE:exmOne K (.ref bl) (.ref iE)=some true
 NF:exmOne K (.ref bp) (.ref iE)=some true
 yu:exmOne K (.ref ax) (.ref iE)=some true
 F:exmOne K (.ref l) (.ref iE)=some true
 NG:exmOne K (.ref aO) (.ref iE)=some true
 NH:exmOne K (.ref aQ) (.ref iE)=some true
 L:exmOne K (.ref S) (.ref iE)=some true
 G:exmOne K (.ref t) (.ref iE)=some true
 A:exmOne K (.ref r) (.ref iE)=some true
 NI:YH K bl
 NJ:YH K bp
 NK:YH K ax
 ba:YH K l
 NL:YH K aO
 NM:YH K aQ
 bm:YH K S
 bb:YH K t
 aM:YH K r
 NN:PySem.W.kitOne K (.ref bl) (.ref t)=some false
 NO:PySem.W.kitOne K (.ref bl) (.ref r)=some false
 NP:PySem.W.kitOne K (.ref bl) (.ref l)=some false
 dv:PySem.W.kitOne K (.ref bl) (.ref S)=some false
 nn:PySem.W.kitOne K (.ref bl) (.type "ValueError")=some true
 dk:PySem.W.kitOne K (.ref bp) (.ref t)=some false
 NQ:PySem.W.kitOne K (.ref bp) (.ref r)=some false
 dm:PySem.W.kitOne K (.ref bp) (.ref l)=some false
 hD:PySem.W.kitOne K (.ref bp) (.ref S)=some false
 NR:PySem.W.kitOne K (.ref bp) (.type "ValueError")=some true
 NS:PySem.W.kitOne K (.ref ax) (.ref t)=some false
 NT:PySem.W.kitOne K (.ref ax) (.ref r)=some false
 NU:PySem.W.kitOne K (.ref ax) (.ref l)=some false
 NV:PySem.W.kitOne K (.ref ax) (.ref S)=some false
 NW:PySem.W.kitOne K (.ref ax) (.type "ValueError")=some true
 U:PySem.W.kitOne K (.ref l) (.ref t)=some false
 M:PySem.W.kitOne K (.ref l) (.ref r)=some false
 V:PySem.W.kitOne K (.ref l) (.ref l)=some true
 aa:PySem.W.kitOne K (.ref l) (.ref S)=some false
 C:PySem.W.kitOne K (.ref l) (.type "ValueError")=some true
 NX:PySem.W.kitOne K (.ref aO) (.ref t)=some false
 NY:PySem.W.kitOne K (.ref aO) (.ref r)=some false
 NZ:PySem.W.kitOne K (.ref aO) (.ref l)=some false
 d4:PySem.W.kitOne K (.ref aO) (.ref S)=some false
 an:PySem.W.kitOne K (.ref aO) (.type "ValueError")=some true
 N0:PySem.W.kitOne K (.ref aQ) (.ref t)=some false
 N1:PySem.W.kitOne K (.ref aQ) (.ref r)=some false
 N2:PySem.W.kitOne K (.ref aQ) (.ref l)=some false
 eE:PySem.W.kitOne K (.ref aQ) (.ref S)=some false
 N3:PySem.W.kitOne K (.ref aQ) (.type "ValueError")=some true
 ab:PySem.W.kitOne K (.ref S) (.ref t)=some false
 Q:PySem.W.kitOne K (.ref S) (.ref r)=some false
 ac:PySem.W.kitOne K (.ref S) (.ref l)=some false
 aj:PySem.W.kitOne K (.ref S) (.ref S)=some true
 H:PySem.W.kitOne K (.ref S) (.type "ValueError")=some true
 X:PySem.W.kitOne K (.ref t) (.ref t)=some true
 N:PySem.W.kitOne K (.ref t) (.ref r)=some false
 Y:PySem.W.kitOne K (.ref t) (.ref l)=some false
 ad:PySem.W.kitOne K (.ref t) (.ref S)=some false
 D:PySem.W.kitOne K (.ref t) (.type "ValueError")=some true
 O:PySem.W.kitOne K (.ref r) (.ref t)=some false
 E:PySem.W.kitOne K (.ref r) (.ref r)=some true
 P:PySem.W.kitOne K (.ref r) (.ref l)=some false
 R:PySem.W.kitOne K (.ref r) (.ref S)=some false
 y:PySem.W.kitOne K (.ref r) (.type "ValueError")=some true
 {eb:Tok}
 ak:mg "MOST_LETTERS" =some (.int 8 eb)
 {bd:Tok}
 aC:mg "MOST_WORKS" =some (.int 30 bd)
 {EH:Tok}
 aD:mg "MOST_BELTS" =some (.int 60 EH)
 bK:∀(s:Shared)(v:Value),BindsTo s bG.d ⟨[v],[]⟩ [("_law_script",v)]
set_option genInjectivity true
set_option genSizeOf true
set_option genSizeOfSpec true
theorem EI{a b:Int}(aS:0≤a)(am:0<b):My.G b (a % b)=My.G a b:=by
 rw[←Rn _ (Int.le_of_lt am)];exact My.Zkd aS am
theorem ZlB{k:Nat}{x:Int}(h:My.S k x):Builtin.Int.intBits x≤2048*2 ^ k:=by
 unfold Builtin.Int.intBits
 split
 ·exact Qx _
 ·rename_i bh;have c7:x.natAbs≠0:=by
   intro e;apply bh;have:x=0:=by omega
   rw[this]
   rfl
  have e:x.natAbs=x.toNat:=by have:=h.lo;omega
  have:=(Nat.log2_lt c7).mpr (by rw[e];exact h.hi);omega
theorem ZlA{k:Nat}{x:Int}(h:My.S k x)(aA:k≤2):x.natAbs.log2<9000:=by
 by_cases c7:x.natAbs=0
 ·rw[c7];decide+kernel
 ·have e:x.natAbs=x.toNat:=by have:=h.lo;omega
  have l:=(Nat.log2_lt c7).mpr (by rw[e];exact(h.mono aA).hi);omega
def Zii(K:Frag):Sp:=λvs H Q _=>∃(a:Addr)(ns:List Int),vs=[.ref a]∧SqL K H a (ns.map V.int)∧ns.length≤63∧∀H',Q (.bl true) H'
def EJ{K:Frag}{mg:Str→Option Value}(T:Tp K mg):Sp:=Zii K
noncomputable def gU (x:Str):Bool:=decide (1≤x.length)&&decide (x.length≤8)&&x.cps.toList.all λc=>decide (97≤c)&&decide (c≤122)
structure B5 where
 giver:Int
 taker:Int
 give:Int
 take:Int
 start:Int
noncomputable def B5.v (b:B5):List V:=[.int b.giver,.int b.taker,.int b.give,.int b.take,.int b.start]
noncomputable def B5.d (b:B5):PyData:= .tuple [.int b.giver,.int b.taker,.int b.give,.int b.take,.int b.start]
structure HM where
 names:List Str
 belts:List B5
noncomputable def fj (H:Hp):List V→List B5→Prop:=Paired λv b=>∃t,v= .ref t∧H t=some (.tup b.v)
noncomputable def numsOf (ns:List Str):List (Key×V):=ns.zipIdx.map λp=>(Sum.inr p.1,V.int p.2)
theorem Vv(ns:List Str):(numsOf ns).length=ns.length:=by unfold numsOf;simp
theorem EK(ns:List Str)(x:Str):numsOf (ns++ [x])=numsOf ns++ [(Sum.inr x,.int ns.length)]:=by
 unfold numsOf;rw[List.zipIdx_append];simp
theorem ZaW(ns:List Str):((numsOf ns).map λd8=>kV d8.1)=ns.map V.str:=by
 unfold numsOf;rw[Q2];have:((λd8:Key×V=>kV d8.1)∘λp:Str×Nat=>((Sum.inr p.1:Key),V.int p.2))=(V.str∘λp:Str×Nat=>p.1):=rfl;rw[this,←Q2,List.zipIdx_map_fst]
theorem ZcU(ns:List Str)(x:Str):(ha (numsOf ns) (Sum.inr x)).isSome=decide (x∈ns):=by
 rw[←UJ];rw[Rf,List.any_eq_true,decide_eq_true_eq];have e:x∈ns↔V.str x∈ns.map V.str:=by
  constructor
  ·exact List.mem_map_of_mem
  ·intro h;obtain⟨y,cx,e⟩:=Rg.mp h;cases e;exact cx
 rw[e,←ZaW,Rg]
 constructor
 ·rintro⟨p,a1,h⟩;exact⟨p,a1,by rw[of_decide_eq_true h];rfl⟩
 ·rintro⟨p,a1,h⟩;exact⟨p,a1,decide_eq_true (CC h)⟩
theorem EL{ns:List Str}{x:Str}(h:x∉ns):ha (numsOf ns) (Sum.inr x)=none:=by
 have:=ZcU ns x;rw[decide_eq_false h] at this;cases e:ha (numsOf ns) (Sum.inr x) with
 |none=>rfl
 |some v=>rw[e] at this;cases this
theorem EM{ns:List Str}{x:Str}(h:x∉ns):hy (numsOf ns) (Sum.inr x) (.int ns.length)=numsOf (ns++ [x]):=by
 rw[Zhi _ (EL h),EK]
def dz{K:Frag}{mg:Str→Option Value}(T:Tp K mg)(H:Hp)(p:Addr)(ai:HM)(fp:List Addr):Prop:=
 ∃(ap a b:Addr)(bs:List V),fp=[p,ap,a,b]∧H p=some (.ins T.B ap [("numbers",.ref a),("rows",.ref b)])∧H ap=some (.own p)∧H a=some (.dK (numsOf ai.names))∧H b=some (.lst bs)∧a≠b∧fj H bs ai.belts
theorem fj.keep{H H':Hp}(t:∀b xs,H b=some (.tup xs)→H' b=some (.tup xs)):∀{bs:List V}{ls:List B5},fj H bs ls→fj H' bs ls
 |_,_,.nil=> .nil
 |_,_,.cons ⟨a,e,h⟩ r=> .cons ⟨a,e,t _ _ h⟩ (fj.keep t r)
theorem fj.length{H:Hp}{bs:List V}{ls:List B5}(h:fj H bs ls):bs.length=ls.length:=Paired.length h
theorem fj.snoc{H:Hp}:∀{bs:List V}{ls:List B5}{t:Addr}{b:B5},fj H bs ls→H t=some (.tup b.v)→fj H (bs++ [.ref t]) (ls++ [b])
 |_,_,_,_,.nil,h=> .cons ⟨_,rfl,h⟩ .nil
 |_,_,_,_,.cons x r,h=> .cons x (fj.snoc r h)
theorem fj.at{H:Hp}:∀{bs:List V}{ls:List B5}{i:Nat}{b:B5},fj H bs ls→ls[i]? =some b→∃t,bs[i]? =some (.ref t)∧H t=some (.tup b.v)
 |_,_,_,_,.nil,e=>by simp at e
 |_,_,0,_,.cons ⟨t,aV,h⟩ _,e=>by simp at e;subst e;exact⟨t,by simp[aV],h⟩
 |_,_,i+1,b,.cons _ r,e=>by
  obtain⟨t,aq,av⟩:=fj.at (i:=i) (b:=b) r (by simpa using e);exact⟨t,by simpa using aq,av⟩
section
variable {K:Frag}{mg:Str→Option Value}{T:Tp K mg}{H H':Hp}{p:Addr}{ai:HM}{fp:List Addr}
theorem dz.dom(h:dz T H p ai fp):∀x∈fp,H x≠none:=by
 obtain⟨ap,a,b,bs,rfl,aq,av,b_,cA,_⟩:=h;intro x al;simp only[Qe,QR,or_false] at al;rcases al with rfl|rfl|rfl|rfl
 ·rw[aq];simp
 ·rw[av];simp
 ·rw[b_];simp
 ·rw[cA];simp
theorem dz.keep(h:dz T H p ai fp)(k:∀x∈fp,H' x=H x)(t:∀b xs,H b=some (.tup xs)→H' b=some (.tup xs)):dz T H' p ai fp:=by
 obtain⟨ap,a,b,bs,rfl,aq,av,b_,cA,dt,cY⟩:=h;exact⟨ap,a,b,bs,rfl,(k p (by simp)).trans aq,(k ap (by simp)).trans av,(k a (by simp)).trans b_,(k b (by simp)).trans cA,dt,cY.keep t⟩
theorem dz.off{A:List Addr}(h:dz T H p ai fp)(f:Zr A H H')(d:∀x∈fp,x∉A):dz T H' p ai fp:=by
 refine h.keep (λx al=>?_) f.tups;cases q:H x with
 |none=>exact absurd q (h.dom x al)
 |some o=>exact f.keep x o q (d x al)
theorem ZgD{m:Str}{G:Prop}(h:dz T H p ai fp)(g7:(m== "numbers")=false)(h3:(m== "rows")=false)(q:G):∃a ap fs,V.ref p= .ref a∧H a=some (.ins T.B ap fs)∧fs.lookup m=none∧G:=by
 obtain⟨ap,a,b,bs,rfl,aq,_⟩:=h;exact⟨p,ap,_,rfl,aq,Rd.lk1 g7 (Rd.lk1 h3 Rd.lkN),q⟩
theorem dz.same(h:dz T H p ai fp)(e:Zc H H'):dz T H' p ai fp:=h.off (A:=[]) e.frame (by simp)
end
noncomputable def dB:B5:=⟨0,0,0,0,0⟩
noncomputable def dF (ls:List B5) (w:Int):List Nat:=(List.range ls.length).filter λi=>decide ((ls.getD i dB).taker=w)
noncomputable def leaveL (ls:List B5) (w:Int):List Nat:=(List.range ls.length).filter λi=>decide ((ls.getD i dB).giver=w)
theorem fj.getD{H:Hp}{bs:List V}{ls:List B5}{i:Nat}(h:fj H bs ls)(hi:i<ls.length):∃t,bs.getD i .non= .ref t∧H t=some (.tup (ls.getD i dB).v):=by
 obtain⟨t,aq,av⟩:=h.at (Qa hi);exact⟨t,by simp[List.getD,aq],by simpa[List.getD,hi] using av⟩
theorem iF{H H':Hp}{x:Addr}(s:Zc H H')(h:H' x=none):H x=none:=by
 cases e:H x with
 |none=>rfl
 |some o=>rw[s _ _ e] at h;cases h
theorem dh{cG:Type}{xs:List cG}{i:Nat}{d:cG}(h:i<xs.length):xs.getD i d=xs[i]:=by simp[List.getD,h]
theorem WY{ns:List Int}{k:Int}(c7:0≤k)(aq:k<ns.length):atI (ns.map V.int) k=some (.int (ns.getD k.toNat 0)):=by
 obtain⟨n,rfl⟩:=QE c7;have bL:n<ns.length:=by omega
 refine gQ ?_;simp[List.getD,bL]
theorem Paired.get{cG eH:Type}{P:cG→eH→Prop}:∀{xs:List cG}{ys:List eH}{i:Nat}{x:cG},Paired P xs ys→xs[i]? =some x→∃y,ys[i]? =some y∧P x y
 |_,_,_,_,.nil,e=>by simp at e
 |_,_,0,_,.cons h _,e=>by simp at e;subst e;exact⟨_,rfl,h⟩
 |_,_,i+1,x,.cons _ r,e=>by
  obtain⟨y,aq,av⟩:=Paired.get (i:=i) (x:=x) r (by simpa using e);exact⟨y,by simpa using aq,av⟩
theorem np{cG eH:Type}{P:cG→eH→Prop}:∀{xs:List cG}{ys:List eH},xs.length=ys.length→(∀(i:Nat) x y,xs[i]? =some x→ys[i]? =some y→P x y)→Paired P xs ys
 | [],[],_,_=> .nil
 |x::xs,y::ys,ai,h=> .cons (h 0 x y rfl rfl) (np (by simpa using ai) λi a b aV a8=>h (i+1) a b (by simpa using aV) (by simpa using a8))
 | [],_::_,ai,_=>by simp at ai
 |_::_,[],ai,_=>by simp at ai
theorem ZdQ{eH tZ:Type}{S:tZ→eH→Prop}{L:List tZ}{d:tZ}{ys:List eH}(h:Paired (λi v=>S (L.getD i d) v) ((List.range L.length).filter λ_=>true) ys):Paired S L ys:=by
 rw[Ql.mpr (by simp)] at h;refine np (by rw[←Paired.length h,List.length_range]) λi x y aV a8=>?_;have hi:i<L.length:=(Qj.mp aV).1;obtain⟨EN,aq,av⟩:=Paired.get (i:=i) (x:=i) h (by simp[hi]);rw[a8] at aq;cases aq;simpa[List.getD,aV] using av
noncomputable def gV (H:Hp):List (Int×Int)→List V→Prop:=Paired λx v=>∃t,v= .ref t∧H t=some (.tup [.int x.1,.int x.2])
theorem gV.keep{H H':Hp}(t:∀b xs,H b=some (.tup xs)→H' b=some (.tup xs)){vs:List V}{l:List (Int×Int)}(h:gV H l vs):gV H' l vs:=Paired.mapP h λ_ _ ⟨a,e,z⟩=>⟨a,e,t _ _ z⟩
noncomputable def LL (H:Hp):List (List (Int×Int))→List Addr→Prop:=Paired λl a=>∃vs,H a=some (.lst vs)∧gV H l vs
theorem LL.dom{H:Hp}:∀{ls:List (List (Int×Int))}{as:List Addr},LL H ls as→∀x∈as,H x≠none
 |_,_,.nil,_,al=>by simp at al
 |_,_,.cons ⟨vs,h,_⟩ r,x,al=>by
  rcases Qe.mp al with rfl|al
  ·rw[h];simp
  ·exact LL.dom r x al
theorem LL.keep{H H':Hp}(t:∀b xs,H b=some (.tup xs)→H' b=some (.tup xs)):∀{ls:List (List (Int×Int))}{as:List Addr},LL H ls as→(∀x∈as,H' x=H x)→LL H' ls as
 |_,_,.nil,_=> .nil
 |_,_,.cons ⟨vs,h,p⟩ r,k=> .cons ⟨vs,(k _ (by simp)).trans h,p.keep t⟩ (LL.keep t r λx al=>k x (QB _ al))
noncomputable def takeRow (ls:List B5) (w:Int):List (Int×Int):=(dF ls w).map λi:Nat=>((i:Int),(ls.getD i dB).take)
noncomputable def giveRow (ls:List B5) (w:Int):List (Int×Int):=(leaveL ls w).map λi:Nat=>((i:Int),(ls.getD i dB).give)
structure FM where
 many:Int
 rows:List B5
 heaps:List Int
noncomputable def qN (az:FM):List (List (Int×Int)):=(List.range az.many.toNat).map λw:Nat=>takeRow az.rows w
noncomputable def t0 (az:FM):List (List (Int×Int)):=(List.range az.many.toNat).map λw:Nat=>giveRow az.rows w
def gv{K:Frag}{mg:Str→Option Value}(T:Tp K mg)(H:Hp)(p:Addr)(az:FM)(fp:List Addr):Prop:=
 ∃(ap a b c:Addr)(em fY:List Addr),fp=p::ap::a::b::c::(em++fY)∧H p=some (.ins T.b ap [("takes",.ref a),("gives",.ref b),("heaps",.ref c)])∧H ap=some (.own p)∧H a=some (.lst (em.map V.ref))∧H b=some (.lst (fY.map V.ref))∧
  H c=some (.lst (az.heaps.map V.int))∧LL H (qN az) em∧LL H (t0 az) fY∧az.heaps.length=az.rows.length∧0≤az.many
section
variable {K:Frag}{mg:Str→Option Value}{T:Tp K mg}{H H':Hp}{p:Addr}{az:FM}{fp:List Addr}
theorem gv.dom(h:gv T H p az fp):∀x∈fp,H x≠none:=by
 obtain⟨ap,a,b,c,em,fY,rfl,aq,av,b_,cA,dt,cY,fZ,gw,gx⟩:=h;intro x al;simp only[Qe,QD] at al;rcases al with rfl|rfl|rfl|rfl|rfl|al|al
 ·rw[aq];simp
 ·rw[av];simp
 ·rw[b_];simp
 ·rw[cA];simp
 ·rw[dt];simp
 ·exact cY.dom x al
 ·exact fZ.dom x al
theorem gv.off{A:List Addr}(h:gv T H p az fp)(f:Zr A H H')(d:∀x∈fp,x∉A):gv T H' p az fp:=by
 have k:∀x∈fp,H' x=H x:=λx al=>by
  cases q:H x with
  |none=>exact absurd q (h.dom x al)
  |some o=>exact f.keep x o q (d x al)
 obtain⟨ap,a,b,c,em,fY,rfl,aq,av,b_,cA,dt,cY,fZ,gw,gx⟩:=h;exact⟨ap,a,b,c,em,fY,rfl,(k p (by simp)).trans aq,(k ap (by simp)).trans av,(k a (by simp)).trans b_,(k b (by simp)).trans cA,(k c (by simp)).trans dt,
  cY.keep f.tups (λx al=>k x (by simp[al])),fZ.keep f.tups (λx al=>k x (by simp[al])),gw,gx⟩
theorem gv.same(h:gv T H p az fp)(e:Zc H H'):gv T H' p az fp:=h.off (A:=[]) e.frame (by simp)
theorem Zf3{m:Str}{G:Prop}(h:gv T H p az fp)(g7:(m== "takes")=false)(h3:(m== "gives")=false)(t1:(m== "heaps")=false)(q:G):∃a ap fs,V.ref p= .ref a∧H a=some (.ins T.b ap fs)∧fs.lookup m=none∧G:=by
 obtain⟨ap,a,b,c,em,fY,rfl,aq,_⟩:=h;exact⟨p,ap,_,rfl,aq,Rd.lk1 g7 (Rd.lk1 h3 (Rd.lk1 t1 Rd.lkN)),q⟩
end
noncomputable def iG (rows:List B5) (hs:List Int) (w:Int):Bool:=(rows.zip hs).all λx=>!(decide (x.1.taker=w))||decide (x.1.take≤x.2)
theorem t2{w:Int}:∀{rows:List B5}{hs:List Int},(∀(i:Nat)(r:B5)(h:Int),rows[i]? =some r→hs[i]? =some h→r.taker=w→r.take≤h)→iG rows hs w=true
 | [],_,_=>by simp[iG]
 |_::_,[],_=>by simp[iG]
 |r::eZ,h::hs,q=>by
  have e:=t2 (rows:=eZ) (hs:=hs) (w:=w) λi c0 h' a b=>q (i+1) c0 h' (by simpa using a) (by simpa using b);unfold iG at e⊢;rw[List.zip_cons_cons,List.all_cons,e,Bool.and_true]
  by_cases c:r.taker=w
  ·rw[decide_eq_true (q 0 r h rfl rfl c),Bool.or_true]
  ·rw[decide_eq_false c];rfl
theorem qO{w:Int}:∀{rows:List B5}{hs:List Int}(i:Nat){r:B5}{h:Int},rows[i]? =some r→hs[i]? =some h→r.taker=w→h<r.take→iG rows hs w=false
 | [],_,_,_,_,a,_,_,_=>by simp at a
 |_::_,[],_,_,_,_,a,_,_=>by simp at a
 |r::eZ,h::hs,0,c0,h',a,b,c,d=>by
  simp only[List.getElem?_cons_zero,Option.some.injEq] at a b;subst a b;unfold iG;rw[List.zip_cons_cons,List.all_cons,decide_eq_true c,decide_eq_false (show ¬r.take≤h by omega)]
  rfl
 |r::eZ,h::hs,i+1,c0,h',a,b,c,d=>by
  have e:=qO (rows:=eZ) (hs:=hs) (w:=w) i (r:=c0) (h:=h') (by simpa using a) (by simpa using b) c d;unfold iG at e⊢;rw[List.zip_cons_cons,List.all_cons,e,Bool.and_false]
noncomputable def i' (rows:List B5) (hs:List Int) (w:Int):List Int:=(rows.zip hs).map λx=>x.2-(if x.1.taker=w then x.1.take else 0)+(if x.1.giver=w then x.1.give else 0)
theorem qP{rows:List B5}{hs:List Int}{w:Int}(h:hs.length=rows.length):(i' rows hs w).length=hs.length:=by unfold i';simp;omega
theorem yv{rows:List B5}{hs:List Int}{w:Int}{i:Nat}(aq:i<rows.length)(av:i<hs.length)(b_:i<(i' rows hs w).length):(i' rows hs w)[i]=hs[i]-(if rows[i].taker=w then rows[i].take else 0)+(if rows[i].giver=w then rows[i].give else 0):=by
 have e:(i' rows hs w)[i]? =some (hs[i]-(if rows[i].taker=w then rows[i].take else 0)+(if rows[i].giver=w then rows[i].give else 0)):=by
  unfold i';rw[Qp,Qa (by rw[List.length_zip];omega)];simp
 rw[Qa b_] at e;exact Qq e
noncomputable def pb (hs:List Int) (l:List (Int×Int)):Bool:=l.all λx=>decide (x.2≤hs.getD x.1.toNat 0)
theorem ZfR{rows:List B5}{hs:List Int}{w:Int}(h:hs.length=rows.length):pb hs (takeRow rows w)=iG rows hs w:=by
 cases e:pb hs (takeRow rows w) with
 |true=>
  refine(t2 λi r x a b c=>?_).symm;have hi:i<rows.length:=(Qj.mp a).1;have iH:rows.getD i dB=r:=by simp[List.getD,a]
  have m:((i:Int),r.take)∈takeRow rows w:=by
   unfold takeRow dF;refine Rg.mpr ⟨i,QC.mpr ⟨QF.mpr hi,decide_eq_true (by rw[iH];exact c)⟩,by rw[iH]⟩
  have:=of_decide_eq_true (Ra.mp e _ m);simpa[List.getD,b] using this
 |false=>
  unfold pb at e;rw[List.all_eq_false] at e;obtain⟨x,al,d⟩:=e;unfold takeRow dF at al;obtain⟨i,hi,rfl⟩:=Rg.mp al;obtain⟨aq,av⟩:=QC.mp hi;have au:=QF.mp aq;have kT:=Qa au;have pc:=Qa (show i<hs.length by omega);have iH:rows.getD i dB=rows[i]:=by simp[List.getD,kT]
  rw[iH] at av d;refine(qO i kT pc (of_decide_eq_true av) ?_).symm;have d':¬rows[i].take≤hs.getD (i:Int).toNat 0:=λz=>d (decide_eq_true z);have t3:hs.getD (i:Int).toNat 0=hs[i]:=by simp[List.getD,pc]
  rw[t3] at d';omega
theorem kU{ls:List B5}{w:Int}{i:Nat}(h:i∈dF ls w):i<ls.length:=QF.mp (QC.mp h).1
theorem ma{ls:List B5}{w:Int}{i:Nat}(h:i∈leaveL ls w):i<ls.length:=QF.mp (QC.mp h).1
theorem W5{ls:List B5}{w:Int}:(dF ls w).length≤ls.length:=Qv (Rc _ _) (by simp)
theorem Vz{ls:List B5}{w:Int}:(leaveL ls w).length≤ls.length:=Qv (Rc _ _) (by simp)
noncomputable def bump (f:Nat→Int) (hs:List Int) (is:List Nat):List Int:=is.foldl (λhs i=>hs.set i (hs.getD i 0+f i)) hs
theorem WK(f:Nat→Int):∀(is:List Nat)(hs:List Int),(bump f hs is).length=hs.length
 | [],_=>rfl
 |i::is,hs=>by
  show(bump f (hs.set i _) is).length=_;rw[WK f is,QL]
theorem t4(f:Nat→Int):∀(is:List Nat)(hs:List Int)(j:Nat),is.Nodup→j<hs.length→(bump f hs is).getD j 0=hs.getD j 0+if j∈is then f j else 0
 | [],hs,j,_,_=>by simp[bump]
 |i::is,hs,j,nd,aU=>by
  obtain⟨eS,eD⟩:=Ry.mp nd;show(bump f (hs.set i (hs.getD i 0+f i)) is).getD j 0=_;rw[t4 f is _ j eD (by rw[QL];exact aU)]
  by_cases e:i=j
  ·subst e;have aV:(hs.set i (hs.getD i 0+f i)).getD i 0=hs.getD i 0+f i:=by rw[Qy,QZ aU];rfl
   rw[aV,if_neg eS,if_pos QM,Int.add_zero]
  ·have aV:(hs.set i (hs.getD i 0+f i)).getD j 0=hs.getD j 0:=by rw[Qy,Q8 e,Qy]
   rw[aV];have:(j∈i::is)↔j∈is:=by simp[GE e]
   simp only[this]
theorem qQ(n:Nat)(c:Nat→Bool):((List.range n).filter c).Nodup:=List.nodup_range.filter c
theorem EO{rows:List B5}{hs:List Int}{w:Int}(h:hs.length=rows.length):
  bump (λi=>(rows.getD i dB).give) (bump (λi=>-(rows.getD i dB).take) hs (dF rows w)) (leaveL rows w)=i' rows hs w:=by
 have l1:=WK (λi=>-(rows.getD i dB).take) (dF rows w) hs;refine Q7 (by rw[WK,l1,qP h]) λi aq av=>?_;rw[WK,l1] at aq;have au:i<rows.length:=by omega
 rw[yv au aq av];have dV:∀(xs:List Int)(al:i<xs.length),xs[i]=xs.getD i 0:=λxs al=>by simp[List.getD,al]
 rw[dV _ (by rw[WK,l1];exact aq),t4 _ (leaveL rows w) _ _ (qQ _ _) (by rw[l1];exact aq),t4 _ (dF rows w) _ _ (qQ _ _) aq,←dV hs aq];have iH:rows.getD i dB=rows[i]:=by simp[List.getD,au]
 have g7:i∈dF rows w↔rows[i].taker=w:=by
  unfold dF;rw[QC,QF,iH,decide_eq_true_eq];exact⟨λz=>z.2,λz=>⟨au,z⟩⟩
 have h3:i∈leaveL rows w↔rows[i].giver=w:=by
  unfold leaveL;rw[QC,QF,iH,decide_eq_true_eq];exact⟨λz=>z.2,λz=>⟨au,z⟩⟩
 simp only[g7,h3,iH]
 split<;>split<;>omega
noncomputable def turnR (many:Int) (rows:List B5) (hs:List Int) (w:Int):Except Bool (List Int):=if 0≤w∧w<many then(if iG rows hs w=true then .ok (i' rows hs w) else .error false) else .error true
noncomputable def goR (many:Int) (rows:List B5):List Int→List Int→Except Bool (List Int)
 |hs,[]=> .ok hs
 |hs,w::ws=>match turnR many rows hs w with
  | .ok c1=>goR many rows c1 ws
  | .error e=> .error e
theorem UH{many:Int}{rows:List B5}:∀{xs:List Int}{hs c1:List Int}{ys:List Int},goR many rows hs xs= .ok c1→goR many rows hs (xs++ys)=goR many rows c1 ys
 | [],hs,c1,ys,h=>by
  have:hs=c1:=by simpa[goR] using h
  rw[this];rfl
 |x::xs,hs,c1,ys,h=>by
  show(match turnR many rows hs x with| .ok c1=>goR many rows c1 (xs++ys)| .error e=> .error e)=_;have h':(match turnR many rows hs x with| .ok c1=>goR many rows c1 xs| .error e=> .error e)= .ok c1:=h;cases e:turnR many rows hs x with
  |ok aq=>
   rw[e] at h';exact UH (xs:=xs) h'
  |error b=>rw[e] at h';cases h'
theorem qR{many:Int}{rows:List B5}:∀{xs:List Int}{hs:List Int}{b:Bool}{ys:List Int},goR many rows hs xs= .error b→goR many rows hs (xs++ys)= .error b
 | [],hs,b,ys,h=>by cases h
 |x::xs,hs,b,ys,h=>by
  show(match turnR many rows hs x with| .ok c1=>goR many rows c1 (xs++ys)| .error e=> .error e)=_;have h':(match turnR many rows hs x with| .ok c1=>goR many rows c1 xs| .error e=> .error e)= .error b:=h;cases e:turnR many rows hs x with
  |ok aq=>
   rw[e] at h';exact qR (xs:=xs) h'
  |error c=>rw[e] at h';exact h'
theorem yw{many:Int}{rows:List B5}{hY hs:List Int}{ws:List Int}{i:Nat}{w:Int}(h:goR many rows hY (ws.take i)= .ok hs)(e:ws[i]? =some w):goR many rows hY (ws.take (i+1))=turnR many rows hs w:=by
 have hi:=(Qj.mp e);rw[List.take_succ,e];show goR many rows hY (ws.take i++ [w])=_;rw[UH h];show(match turnR many rows hs w with| .ok c1=>goR many rows c1 []| .error e=> .error e)=_;cases turnR many rows hs w<;>rfl
theorem ZhJ{many:Int}{rows:List B5}{hY hs:List Int}{ws:List Int}{i:Nat}{w:Int}{b:Bool}(h:goR many rows hY (ws.take i)= .ok hs)(e:ws[i]? =some w)(t:turnR many rows hs w= .error b):goR many rows hY ws= .error b:=by
 have:=qR (ys:=ws.drop (i+1)) ((yw h e).trans t)
 rwa [RI] at this
theorem EQ{many:Int}{rows:List B5}{hs c1:List Int}{w:Int}(h:hs.length=rows.length)(e:turnR many rows hs w= .ok c1):c1.length=rows.length:=by
 unfold turnR at e
 split at e
 ·split at e
  ·cases e;rw[qP h,h]
  ·cases e
 ·cases e
theorem t5{many:Int}{rows:List B5}:∀{ws:List Int}{hs c1:List Int},hs.length=rows.length→goR many rows hs ws= .ok c1→c1.length=rows.length
 | [],hs,c1,h,e=>by
  have:hs=c1:=by simpa[goR] using e
  rw[←this];exact h
 |w::ws,hs,c1,h,e=>by
  have cm:(match turnR many rows hs w with| .ok c1=>goR many rows c1 ws| .error e=> .error e)= .ok c1:=e;cases q:turnR many rows hs w with
  |ok aq=>
   rw[q] at cm;exact t5 (EQ h q) cm
  |error b=>rw[q] at cm;cases cm
theorem yx{az:FM}{w:Int}(c7:0≤w)(aq:w<az.many):(qN az)[w.toNat]? =some (takeRow az.rows w):=by
 unfold qN;have:w.toNat<az.many.toNat:=by omega
 rw[Qp,Ri this];show some (takeRow az.rows (w.toNat:Int))=_;rw[QP c7]
theorem yy{az:FM}{w:Int}(c7:0≤w)(aq:w<az.many):(t0 az)[w.toNat]? =some (giveRow az.rows w):=by
 unfold t0;have:w.toNat<az.many.toNat:=by omega
 rw[Qp,Ri this];show some (giveRow az.rows (w.toNat:Int))=_;rw[QP c7]
theorem LL.at{H:Hp}{ls:List (List (Int×Int))}{em:List Addr}{w:Int}{l:List (Int×Int)}(h:LL H ls em)(c7:0≤w)(e:ls[w.toNat]? =some l):∃x vs,atI (em.map V.ref) w=some (.ref x)∧H x=some (.lst vs)∧gV H l vs:=by
 obtain⟨x,aq,vs,av,b_⟩:=Paired.get h e;refine⟨x,vs,?_,av,b_⟩;have:=gQ (xs:=em.map V.ref) (j:=w.toNat) (v:= .ref x) (by rw[Qp,aq];rfl)
 rwa [QP c7] at this
theorem LL.len{H:Hp}{ls:List (List (Int×Int))}{em:List Addr}(h:LL H ls em):em.length=ls.length:=(Paired.length h).symm
theorem yz{H:Hp}{f0:List Nat}{f:Nat→Int}{ys:List V}(h:Paired (λi v=>∃t,v=V.ref t∧H t=some (.tup [.int (f0.getD i 0:Nat),.int (f (f0.getD i 0))])) ((List.range (f0.map λi:Nat=>V.int i).length).filter λ_=>true) ys):gV H (f0.map λi:Nat=>((i:Int),f i)) ys:=by
 rw[Qb] at h;have aq:Paired (λ(j:Nat) v=>∃t,v=V.ref t∧H t=some (.tup [.int (j:Nat),.int (f j)])) f0 ys:=ZdQ (L:=f0) (d:=0) h;refine np (by rw[Qb];exact Paired.length aq) λi x y aV a8=>?_;rw[Qp] at aV;cases e:f0[i]? with
 |none=>rw[e] at aV;cases aV
 |some j=>
  rw[e] at aV;cases aV;obtain⟨EN,eP,b_⟩:=Paired.get aq e;rw[a8] at eP;cases eP;exact b_
theorem ER{ls:List B5}{w:Int}{n:Nat}(h:n=ls.length):∀x∈takeRow ls w,0≤x.1∧x.1<n:=by
 intro x al;obtain⟨i,hi,rfl⟩:=Rg.mp al;have:=kU hi;show 0≤(i:Int)∧(i:Int)<n;omega
theorem ZaN{ls:List B5}{w:Int}:(takeRow ls w).length≤ls.length:=by unfold takeRow;rw[Qb];exact W5
noncomputable def startsL (ls:List B5):List Int:=ls.map (·.start)
theorem t6{f:Nat→Bool}:∀{is:List Nat}{ys:List V},Paired (λi v=>v=V.bl (f i)) is ys→ys=(is.map f).map V.bl
 |_,_,.nil=>rfl
 |_,_,.cons a r=>by rw[a,t6 r];rfl
theorem Zaf{n:Nat}{P:Nat→Prop}[∀i,Decidable (P i)]:(((List.range n).map λi=>decide (P i)).all id)=true↔∀i<n,P i:=by
 simp
def hZ(aR:List (List Int))(iI:List Int):Prop:=aR.length=iI.length∧∀i<aR.length,((aR.getD i []).length:Int)=iI.getD i 0
theorem Wd{H:Hp}{ys:List V}{aR:List (List Int)}{i:Nat}(h:dN H ys aR)(hi:i<aR.length):∃t,ys.getD i .non= .ref t∧H t=some (.lst ((aR.getD i []).map V.int)):=by
 obtain⟨t,aq,av⟩:=h.at (Qa hi);exact⟨t,by simp[List.getD,aq],by rw[dh hi];exact av⟩
theorem jC{n:Nat}(h:n≤1000000):n<sizeLine:=Nat.lt_of_le_of_lt h (by decide)
theorem qS{xs:List V}{a b:Int}(c7:0≤a)(aq:0≤b):gm xs (some a) (some (a+b))=(xs.drop a.toNat).take b.toNat:=by
 obtain⟨m,rfl⟩:=QE c7;obtain⟨k,rfl⟩:=QE aq;have aV:HT.sIx xs.length 0 (some (m:Int))=min m xs.length:=by
  simp only[HT.sIx];rw[if_neg (by omega)];simp
 have a8:HT.sIx xs.length xs.length (some ((m:Int)+(k:Int)))=min (m+k) xs.length:=by
  simp only[HT.sIx];rw[if_neg (by omega)];have:((m:Int)+(k:Int)).toNat=m+k:=by omega
  rw[this]
 unfold gm;rw[aV,a8,QH,QH];rcases RH m xs.length with c|c
 ·rw[RA (QW c)];rcases RH (m+k) xs.length with kc|kc
  ·rw[RA (QW kc)]
   congr 1
   omega
  ·rw[Nat.min_eq_right kc,QS (by rw[QK];omega),QS (by rw[QK];omega)]
 ·rw[Nat.min_eq_right c,List.drop_eq_nil_of_le (Qc _),List.drop_eq_nil_of_le c];simp
theorem nq{H0 H:Hp}{f:Nat→List Int}:∀{is:List Nat}{ys:List V},Paired (λi v=>∃t,v=V.ref t∧H0 t=none∧H t=some (.lst ((f i).map V.int))) is ys→dN H ys (is.map f)∧∀v∈ys,∃t,v=V.ref t∧H0 t=none
 |_,_,.nil=>⟨.nil,by simp⟩
 |_,_,.cons ⟨t,e,c7,h⟩ r=>by
  obtain⟨aq,av⟩:=nq r;refine⟨.cons ⟨t,e,h⟩ aq,λv cH=>?_⟩;rcases Qe.mp cH with rfl|cH
  ·exact⟨t,e,c7⟩
  ·exact av v cH
theorem pd{n:Nat}{a:Int}(h:a.natAbs<2 ^ n):Builtin.Int.intBits a≤n:=by
 unfold Builtin.Int.intBits
 split
 ·exact Qx _
 ·rename_i bh;have c7:a.natAbs≠0:=by
   intro e;apply bh;have:a=0:=by omega
   rw[this]
   rfl
  have:=(Nat.log2_lt c7).mpr h;omega
theorem mulI{n m:Nat}{a b:Int}(aS:a.natAbs<2 ^ n)(am:b.natAbs<2 ^ m)(h:n+m≤10000000):IntMulOk a b:=by
 have b1:=pd aS;have b2:=pd am;have k:Builtin.Int.intTooBig ((Builtin.Int.intBits a:Int)+(Builtin.Int.intBits b:Int))=false:=by
  unfold Builtin.Int.intTooBig;rw[PySem.bitsLine_eq];exact decide_eq_false (by omega)
 unfold IntMulOk;rw[k];simp
noncomputable def f_ (H:Hp):List V→List (Int×Int)→Prop:=Paired λv t=>∃a,v= .ref a∧H a=some (.tup [.int t.1,.int t.2])
theorem f_.keep{H H':Hp}(k:∀b xs,H b=some (.tup xs)→H' b=some (.tup xs)){vs:List V}{l:List (Int×Int)}(h:f_ H vs l):f_ H' vs l:=Paired.mapP h λ_ _ ⟨a,e,z⟩=>⟨a,e,k _ _ z⟩
theorem f_.length{H:Hp}{vs:List V}{l:List (Int×Int)}(h:f_ H vs l):vs.length=l.length:=Paired.length h
theorem f_.snoc{H:Hp}:∀{vs:List V}{l:List (Int×Int)}{x:Int×Int}{t:Addr},f_ H vs l→H t=some (.tup [.int x.1,.int x.2])→f_ H (vs++ [.ref t]) (l++ [x])
 |_,_,_,_,.nil,h=> .cons ⟨_,rfl,h⟩ .nil
 |_,_,_,_,.cons y r,h=> .cons y (f_.snoc r h)
theorem f_.getD{H:Hp}:∀{vs:List V}{l:List (Int×Int)}{i:Nat},f_ H vs l→i<l.length→∃t,vs.getD i .non= .ref t∧H t=some (.tup [.int (l.getD i (0,0)).1,.int (l.getD i (0,0)).2])
 |_,_,_,.nil,e=>by simp at e
 |_,_,0,.cons ⟨t,aV,h⟩ _,_=>⟨t,by simp[aV],h⟩
 |_,_,i+1,.cons _ r,e=>by
  obtain⟨t,aq,av⟩:=f_.getD (i:=i) r (by simpa using e);exact⟨t,by simpa using aq,by simpa using av⟩
noncomputable def formV (k:Int) (cJ:List (Int×Int)) (xs:List Int):Int:=k+(cJ.map λt=>t.2*xs.getD t.1.toNat 0).sum
theorem ja{f:Nat→Int}:∀{is:List Nat}{ys:List V},Paired (λi v=>v=V.int (f i)) is ys→ys=(is.map f).map V.int
 |_,_,.nil=>rfl
 |_,_,.cons a r=>by rw[a,ja r];rfl
theorem kW{cG eH:Type}(f:cG→eH)(l:List cG)(d:cG):((List.range l.length).map λi=>f (l.getD i d))=l.map f:=by
 refine Q7 (by simp) λi aq av=>?_;have hi:i<l.length:=by simpa using av
 simp[List.getD,hi]
theorem ES:∀i<26,("abcdefghijklmnopqrstuvwxyz" :Str).cps.toList[i]? =some (97+i):=by decide+kernel
theorem ET:("abcdefghijklmnopqrstuvwxyz" :Str).length≤sizeLine:=by decide+kernel
theorem EU{i:Int}(c7:0≤i)(aq:i<26):atI ("abcdefghijklmnopqrstuvwxyz" :Str).cps.toList i=some (97+i.toNat):=by
 have:=gQ (ES i.toNat (by omega))
 rwa [QP c7] at this
theorem Zf0(x:Str):gU x=true↔1≤x.length∧x.length≤8∧∀c∈x.cps.toList,97≤c∧c≤122:=by
 unfold gU;simp only[fm,decide_eq_true_eq,Ra];exact⟨λh=>⟨h.1.1,h.1.2,h.2⟩,λh=>⟨⟨h.1,h.2.1⟩,h.2.2⟩⟩
theorem ZfL(x y:Str):(x++y).cps.toList=x.cps.toList++y.cps.toList:=by
 show(x.cps++y.cps).toList=_;simp
theorem t7(x:Str):x.length=x.cps.toList.length:=by simp[Str.length]
noncomputable def cellX (ns:List Int) (k:Int):Int:=if(ns.length:Int)=0 then 0 else if k / ns.length=0 then ns.getD (k % ns.length).toNat 0 else ns.getD (k % ns.length).toNat 0*(2*(k / ns.length)+1) % 1000003+31*(k / ns.length)
theorem t8{n:Nat}(h:n≤100000000):(n:Int).natAbs.log2<9000:=by
 rw[Int.natAbs_natCast]
 by_cases c7:n=0
 ·rw[c7];decide+kernel
 ·have:=(Nat.log2_lt c7).mpr (show n<2 ^ 30 by omega);omega
theorem qT{x:Int}(c7:0≤x)(aq:x≤100000000):x.natAbs.log2<9000:=by
 obtain⟨n,rfl⟩:=QE c7;exact t8 (by omega)
structure Bel(n:Nat)(b:B5):Prop where
 rg:0≤b.giver∧b.giver<(n:Int)∧0≤b.taker∧b.taker<(n:Int)
 sz:1≤b.give∧1≤b.take
 st:0≤b.start∧b.start≤1000
 few:b.give≤40∧b.take≤40
def ZjP(eZ:List Int):Prop:=∀r∈eZ,1≤r∧r≤4
theorem Zbq{H ao ar:Hp}{fp kX:List Addr}(s:Zc H ao)(n:∀x∈fp,H x=none)(db:Zr fp ao ar)(gr:ZV fp kX ao):Zc H ar∧∀x∈kX,H x=none:=by
 refine⟨λb o e=>db.keep _ _ (s _ _ e) (λz=>by have:=n b z;rw[e] at this;cases this),λx al=>?_⟩;rcases gr x al with z|z
 ·exact n x z
 ·exact iF s z
def t9(xs:List Int):Prop:=∀x∈xs,x.natAbs≤10 ^ 31
theorem EV{H:Hp}{ys:List V}{aR:List (List Int)}{t:Addr}{xs:List Int}(h:dN H ys aR)(aT:H t=some (.lst (xs.map V.int))):dN H (ys++ [.ref t]) (aR++ [xs]):=dN.snoc h aT
noncomputable def chN (c at_:Int) (k p:Nat):Nat:=97+((if(p:Int)=at_ then c / 64+3*(k:Int) else c / (64+(p:Int))) % 26).toNat
theorem Zjx(c at_:Int)(k p:Nat):97≤chN c at_ k p∧chN c at_ k p≤122:=by unfold chN;omega
theorem Zjv{c at_:Int}{k k' p:Nat}(a1:(p:Int)=at_)(h:k<8)(h':k'<8)(n:k≠k'):chN c at_ k p≠chN c at_ k' p:=by
 unfold chN;rw[if_pos a1,if_pos a1];omega
structure Ub(c at_:Int)(gy:Nat)(dw:List Str):Prop where
 cps:∀k x,dw[k]? =some x→x.cps.toList=(List.range gy).map (chN c at_ k)
theorem Ub.name{c at_:Int}{gy:Nat}{dw:List Str}(h:Ub c at_ gy dw)(aq:1≤gy)(av:gy≤8):∀n∈dw,gU n=true:=λn bL=>by
 obtain⟨k,aA⟩:=List.getElem?_of_mem bL;have e:=h.cps k n aA;rw[Zf0,t7,e];refine⟨by simpa using aq,by simpa using av,λx al=>?_⟩;obtain⟨i,_,rfl⟩:=Rg.mp al;exact Zjx c at_ k i
theorem Ub.nodup{c at_:Int}{gy:Nat}{dw:List Str}(h:Ub c at_ gy dw)(ai:dw.length≤8)(c7:0≤at_)(aq:at_<(gy:Int)):dw.Nodup:=by
 rw[List.nodup_iff_pairwise_ne,List.pairwise_iff_getElem];intro i j hi aU hij e;have aV:=h.cps i _ (Qa hi);have a8:=h.cps j _ (Qa aU);rw[e,a8] at aV;have a1:at_.toNat<gy:=by omega
 have eP:=congrArg (λl=>l[at_.toNat]?) aV;simp[a1] at eP;exact Zjv (c:=c) (at_:=at_) (k:=j) (k':=i) (p:=at_.toNat) (by omega) (by omega) (by omega) (by omega) eP
theorem Zcm{ns:List Int}{k:Int}(c7:0≤k)(aq:k<ns.length):atI (ns.map V.int) k=some (.int (ns.getD k.toNat 0)):=WY c7 aq
theorem Zhu{xs:List V}{k:Nat}(h:k≤xs.length):gm xs (some (k:Int)) none=xs.drop k:=by
 have aV:HT.sIx xs.length 0 (some (k:Int))=k:=by
  simp only[HT.sIx];rw[if_neg (by omega)];simp;omega
 have a8:HT.sIx xs.length xs.length none=xs.length:=by simp[HT.sIx]
 unfold gm;rw[aV,a8,QS (by rw[QK];exact Qc _)]
def fT{K:Frag}{mg:Str→Option Value}(T:Tp K mg)(H:Hp)(a:Addr)(xs:List Int)(fp:List Addr):Prop:=
 ∃(ap l:Addr)(laid:List Int)(g:Nat),fp=[a,ap,l]∧H a=some (.ins T.j ap [("laid",.ref l),("gone",.int g)])∧H ap=some (.own a)∧H l=some (.lst (laid.map V.int))∧g≤laid.length∧laid.drop g=xs∧laid.length≤2*xs.length
section
variable {K:Frag}{mg:Str→Option Value}{T:Tp K mg}{H H':Hp}{p:Addr}{xs:List Int}{fp:List Addr}
theorem fT.dom(h:fT T H p xs fp):∀x∈fp,H x≠none:=by
 obtain⟨ap,l,laid,g,rfl,aq,av,b_,_⟩:=h;intro x al;simp only[Qe,QR,or_false] at al;rcases al with rfl|rfl|rfl
 ·rw[aq];simp
 ·rw[av];simp
 ·rw[b_];simp
theorem fT.off{A:List Addr}(h:fT T H p xs fp)(f:Zr A H H')(d:∀x∈fp,x∉A):fT T H' p xs fp:=by
 obtain⟨ap,l,laid,g,rfl,aq,av,b_,cA,dt,cY⟩:=h;exact⟨ap,l,laid,g,rfl,f.keep _ _ aq (d p (by simp)),f.keep _ _ av (d ap (by simp)),f.keep _ _ b_ (d l (by simp)),cA,dt,cY⟩
theorem fT.same(h:fT T H p xs fp)(e:Zc H H'):fT T H' p xs fp:=h.off (A:=[]) e.frame (by simp)
theorem Zgp{m:Str}{G:Prop}(h:fT T H p xs fp)(g7:(m== "laid")=false)(h3:(m== "gone")=false)(q:G):∃a ap fs,V.ref p= .ref a∧H a=some (.ins T.j ap fs)∧fs.lookup m=none∧G:=by
 obtain⟨ap,l,laid,g,rfl,aq,_⟩:=h;exact⟨p,ap,_,rfl,aq,Rd.lk1 g7 (Rd.lk1 h3 Rd.lkN),q⟩
end
theorem UI{H:Hp}:∀{l:List (Int×Int)}{vs:List V}{i:Nat},gV H l vs→i<l.length→∃t,vs.getD i .non= .ref t∧H t=some (.tup [.int (l.getD i (0,0)).1,.int (l.getD i (0,0)).2])
 |_,_,_,.nil,e=>by simp at e
 |_,_,0,.cons ⟨t,aV,h⟩ _,_=>⟨t,by simp[aV],h⟩
 |_,_,i+1,.cons _ r,e=>by
  obtain⟨t,aq,av⟩:=UI (i:=i) r (by simpa using e);exact⟨t,by simpa using aq,by simpa using av⟩
noncomputable abbrev cV:=Int×List (Int×Int)
def gW(H:Hp)(v:V)(f:cV):Prop:=∃a fk dO,v= .ref a∧H a=some (.tup [.int f.1,.ref fk])∧H fk=some (.tup dO)∧f_ H dO f.2
theorem gW.keep{H H':Hp}(k:∀b xs,H b=some (.tup xs)→H' b=some (.tup xs)){v:V}{f:cV}(h:gW H v f):gW H' v f:=by
 obtain⟨a,fk,dO,e,aq,av,b_⟩:=h;exact⟨a,fk,dO,e,k _ _ aq,k _ _ av,b_.keep k⟩
def kY(H:Hp)(v:V)(fs:List cV):Prop:=∃a vs,v= .ref a∧H a=some (.tup vs)∧Paired (gW H) vs fs
theorem kY.keep{H H':Hp}(k:∀b xs,H b=some (.tup xs)→H' b=some (.tup xs)){v:V}{f:List cV}(h:kY H v f):kY H' v f:=by
 obtain⟨a,vs,e,aq,av⟩:=h;exact⟨a,vs,e,k _ _ aq,Paired.mapP av λ_ _ z=>z.keep k⟩
def f'(H:Hp)(vs:List V)(fss:List (List cV)):Prop:=Paired (kY H) vs fss
theorem f'.keep{H H':Hp}(k:∀b xs,H b=some (.tup xs)→H' b=some (.tup xs)){vs:List V}{f:List (List cV)}(h:f' H vs f):f' H' vs f:=Paired.mapP h λ_ _ z=>z.keep k
theorem kj{cG eH:Type}{P:cG→eH→Prop}{d:cG}{e:eH}:∀{xs:List cG}{ys:List eH}{i:Nat},Paired P xs ys→i<ys.length→P (xs.getD i d) (ys.getD i e)
 |_,_,_,.nil,h=>by simp at h
 |_,_,0,.cons h _,_=>by simpa using h
 |_,_,i+1,.cons _ r,h=>by simpa using kj (i:=i) r (by simpa using h)
noncomputable def slotN (rows:List B5) (w:Int):Int:=((takeRow rows w).map (·.2)).sum
noncomputable def Wb (rows:List B5) (w:Int):Int:=((giveRow rows w).map (·.2)).sum
structure qU(n:Int)(f:cV):Prop where
 few:f.2.length≤1000
 ter:∀t∈f.2,0≤t.1∧t.1<n∧t.2.natAbs≤4
structure t_(rows:List B5)(w:Int)(fs:List cV):Prop where
 len:(fs.length:Int)=Wb rows w
 few:fs.length≤100000
 ok:∀f∈fs,qU (slotN rows w) f
theorem yA:∀{l:List Nat}{k:Nat},l.Pairwise (· < ·)→(aA:k<l.length)→l.filter (λx=>decide (x<l[k]))=l.take k
 | [],_,_,aA=>by simp at aA
 |a::l,0,h,_=>by
  obtain⟨aq,av⟩:=List.pairwise_cons.mp h;show(a::l).filter (λx=>decide (x<a))=[];refine List.filter_eq_nil_iff.mpr λx al=>?_;rcases Qe.mp al with rfl|al
  ·simp
  ·have:=aq x al;simp;omega
 |a::l,k+1,h,aA=>by
  obtain⟨aq,av⟩:=List.pairwise_cons.mp h;have el:k<l.length:=by simpa using aA
  have e:=yA av el;have aS:=aq _ (Qf el);show(a::l).filter (λx=>decide (x<l[k]))=a::l.take k;rw[Rq,if_pos (decide_eq_true aS),e]
noncomputable def fK (rows:List B5) (w:Int) (i:Nat):Int:=(((leaveL rows w).filter λj=>decide (j<i)).map λj=>(rows.getD j dB).give).sum
theorem Ze9{rows:List B5}{w:Int}{k:Nat}(aA:k<(leaveL rows w).length):fK rows w (leaveL rows w)[k]=(((leaveL rows w).take k).map λj=>(rows.getD j dB).give).sum:=by
 have hs:(leaveL rows w).Pairwise (· < ·):=List.pairwise_lt_range.filter _;unfold fK;rw[yA hs aA]
noncomputable def c5 (rows:List B5) (fss:List (List cV)):MM.Sys:=⟨rows.length,λi=>(rows.getD i dB).taker,λi=>(rows.getD i dB).giver,λi=>(rows.getD i dB).take.toNat,λi xs=>(((fss.getD (rows.getD i dB).giver.toNat []).map λf=>formV f.1 f.2 xs).drop (fK rows (rows.getD i dB).giver i).toNat).take (rows.getD i dB).give.toNat⟩
noncomputable def jD (H:Hp) (a:Addr):Hp:=λb=>if b=a then H a else none
theorem VC{H:Hp}{a:Addr}:jD H a a=H a:=by unfold jD;rw[if_pos rfl]
theorem WZ{H H':Hp}{a:Addr}(h:H' a=H a):Zc (jD H a) H':=λb o e=>by
 unfold jD at e
 split at e
 ·next z=>rw[z,h,e]
 ·cases e
theorem Zr.grow{A B:List Addr}{H ao ar:Hp}(f:Zr A H ao)(g:ZV A B H)(f2:Zr B ao ar):Zr A H ar:=
 ⟨λc o h n=>f2.keep c o (f.keep c o h n) λz=>(g c z).elim n λe=>(by rw[h] at e;cases e),λc xs h=>f2.tups c xs (f.tups c xs h)⟩
theorem ZV.grow{A B C:List Addr}{H ao:Hp}(g:ZV A B H)(f:Zr A H ao)(g2:ZV B C ao):ZV A C H:=λx al=>by
 rcases g2 x al with h|h
 ·exact g x h
 ·cases e:H x with
  |none=>exact .inr rfl
  |some o=>
   by_cases z:x∈A
   ·exact .inl z
   ·rw[f.keep x o e z] at h;cases h
def hE{K:Frag}{mg:Str→Option Value}(T:Tp K mg)(H:Hp)(as:List Addr)(st:Nat→List Int)(dP:Nat→List Addr):Prop:=
 (∀i<as.length,fT T H (as.getD i 0) (st i) (dP i))∧∀i j,i<as.length→j<as.length→i≠j→∀x∈dP i,x∉dP j
noncomputable def gX (n:Nat) (dP:Nat→List Addr):List Addr:=(List.range n).flatMap dP
theorem W0{n:Nat}{dP:Nat→List Addr}{x:Addr}:x∈gX n dP↔∃i<n,x∈dP i:=by
 unfold gX;rw[List.mem_flatMap];exact⟨λ⟨i,aq,av⟩=>⟨i,QF.mp aq,av⟩,λ⟨i,aq,av⟩=>⟨i,QF.mpr aq,av⟩⟩
section
variable {K:Frag}{mg:Str→Option Value}{T:Tp K mg}{H H':Hp}{as:List Addr}{st:Nat→List Int}{dP:Nat→List Addr}
theorem hE.put{k:Nat}{xs:List Int}{cC:List Addr}(h:hE T H as st dP)(aA:k<as.length)(ai:fT T H' (as.getD k 0) xs cC)(f:Zr (dP k) H H')(g:ZV (dP k) cC H):
  hE T H' as (λi=>if i=k then xs else st i) (λi=>if i=k then cC else dP i):=by
 have off:∀i<as.length,i≠k→∀x∈dP i,x∉cC:=λi hi n x al z=>by
  rcases g x z with q|q
  ·exact h.2 i k hi aA n x al q
  ·exact(h.1 i hi).dom x al q
 refine⟨λi hi=>?_,λi j hi aU n x al=>?_⟩
 ·by_cases e:i=k
  ·subst e;simpa using ai
  ·simp only[if_neg e];exact(h.1 i hi).off f (h.2 i k hi aA e)
 ·by_cases aV:i=k
  ·by_cases a8:j=k
   ·exact absurd (aV.trans a8.symm) n
   ·simp only[if_pos aV,if_neg a8] at al⊢;exact λz=>off j aU a8 x z al
  ·by_cases a8:j=k
   ·simp only[if_neg aV,if_pos a8] at al⊢;exact off i hi aV x al
   ·simp only[if_neg aV,if_neg a8] at al⊢;exact h.2 i j hi aU n x al
theorem hE.off{A:List Addr}(h:hE T H as st dP)(f:Zr A H H')(d:∀i<as.length,∀x∈dP i,x∉A):hE T H' as st dP:=⟨λi hi=>(h.1 i hi).off f (d i hi),h.2⟩
theorem hE.congr{gN:Nat→List Int}(h:hE T H as st dP)(e:∀i<as.length,st i=gN i):hE T H as gN dP:=⟨λi hi=>e i hi▸h.1 i hi,h.2⟩
theorem hE.ix(i:Nat)(hi:i<as.length):atI (as.map V.ref) (i:Int)=some (.ref (as.getD i 0)):=gQ (by rw[Qp];simp[List.getD,hi])
end
def fU{K:Frag}{mg:Str→Option Value}(T:Tp K mg)(H:Hp)(p:Addr)(az:FM)(fss:List (List cV))(st:Nat→List Int)(fp:List Addr):Prop:=
 ∃(ap f c eo:Addr)(dA:List Addr)(fw:List V)(as:List Addr)(dP:Nat→List Addr),fp=(p::ap::c::eo::dA)++gX as.length dP∧
  H p=some (.ins T.h ap [("floor",.ref f),("forms",.ref c),("lanes",.ref eo)])∧H ap=some (.own p)∧gv T H f az dA∧H c=some (.lst fw)∧f' H fw fss∧H eo=some (.lst (as.map V.ref))∧as.length=az.rows.length∧
  hE T H as st dP∧(∀i<as.length,∀x∈dP i,x∉p::ap::c::eo::dA)∧∀x∈dA,x∉[p,ap,c,eo]
section
variable {K:Frag}{mg:Str→Option Value}{T:Tp K mg}{H H':Hp}{p:Addr}{az:FM}{fss:List (List cV)}{st:Nat→List Int}{fp:List Addr}
theorem fU.dom(h:fU T H p az fss st fp):∀x∈fp,H x≠none:=by
 obtain⟨ap,f,c,eo,dA,fw,as,dP,rfl,aq,av,b_,cA,dt,cY,fZ,gw,gx,mb⟩:=h;intro x al;rcases QD.mp al with al|al
 ·simp only[Qe] at al;rcases al with rfl|rfl|rfl|rfl|al
  ·rw[aq];simp
  ·rw[av];simp
  ·rw[cA];simp
  ·rw[cY];simp
  ·exact b_.dom x al
 ·obtain⟨i,hi,al⟩:=W0.mp al;exact(gw.1 i hi).dom x al
theorem fU.off{A:List Addr}(h:fU T H p az fss st fp)(db:Zr A H H')(d:∀x∈fp,x∉A):fU T H' p az fss st fp:=by
 obtain⟨ap,f,c,eo,dA,fw,as,dP,rfl,aq,av,b_,cA,dt,cY,fZ,gw,gx,mb⟩:=h;exact⟨ap,f,c,eo,dA,fw,as,dP,rfl,db.keep _ _ aq (d p (by simp)),db.keep _ _ av (d ap (by simp)),b_.off db (λx al=>d x (by simp[al])),db.keep _ _ cA (d c (by simp)),dt.keep db.tups,db.keep _ _ cY (d eo (by simp)),fZ,
  gw.off db (λi hi x al=>d x (Qk _ (W0.mpr ⟨i,hi,al⟩))),gx,mb⟩
theorem fU.same(h:fU T H p az fss st fp)(e:Zc H H'):fU T H' p az fss st fp:=h.off (A:=[]) e.frame (by simp)
theorem Zg0{m:Str}{G:Prop}(h:fU T H p az fss st fp)(g7:(m== "floor")=false)(h3:(m== "forms")=false)(t1:(m== "lanes")=false)(q:G):∃a ap fs,V.ref p= .ref a∧H a=some (.ins T.h ap fs)∧fs.lookup m=none∧G:=by
 obtain⟨ap,f,c,eo,dA,fw,as,dP,rfl,aq,_⟩:=h;exact⟨p,ap,_,rfl,aq,Rd.lk1 g7 (Rd.lk1 h3 (Rd.lk1 t1 Rd.lkN)),q⟩
end
structure YU(rows:List B5):Prop where
 few:rows.length≤100
 rg:∀r∈rows,0≤r.take∧r.take≤1000∧0≤r.give∧r.give≤1000
theorem YU.at{rows:List B5}(h:YU rows){i:Nat}(hi:i<rows.length):0≤(rows.getD i dB).take∧(rows.getD i dB).take≤1000∧0≤(rows.getD i dB).give∧(rows.getD i dB).give≤1000:=h.rg _ (by rw[dh hi];exact Qf _)
theorem Zig{f0:List Nat}{f:Nat→Int}{H:Hp}{vs:List V}{i:Nat}(h:gV H (f0.map λi:Nat=>((i:Int),f i)) vs)(hi:i<f0.length):∃t,vs.getD i .non= .ref t∧H t=some (.tup [.int (f0[i]:Nat),.int (f f0[i])]):=by
 obtain⟨v,cH,t,rfl,aT⟩:=Paired.get h (i:=i) (x:=((f0[i]:Int),f f0[i])) (by rw[Qp,Qa hi];rfl);exact⟨t,by simp[List.getD,cH],aT⟩
theorem ua{A:List Addr}{H H':Hp}{r:Addr}{o:HO}(f:Zr A H H')(au:H r=none):Zr A H (upd H' r o):=
 ⟨λb z e n=>by rw[bJ (dG e au)];exact f.keep b z e n,λb xs e=>by rw[bJ (dG e au)];exact f.tups b xs e⟩
theorem Zeg{is:List Nat}(nd:is.Nodup){k:Nat}(aA:k<is.length):is[k]∉is.take k:=λz=>by
 obtain⟨j,aU,e⟩:=QJ z;rw[QG] at aU;rw[List.getElem_take] at e;have:=(List.getElem_inj (h₀:=by omega) (h₁:=aA) nd).mp e;omega
theorem UL{is:List Nat}{k:Nat}(aA:k<is.length){j:Nat}:j∈is.take (k+1)↔j∈is.take k∨j=is[k]:=by
 rw[Qt aA,QD,Qm]
theorem Zgk{S:MM.Sys}{st:Nat→List Int}{w:Int}(h:MM.ok S st w):(MM.slots S st w).length=(((List.range S.n).filter λi=>decide (S.taker i=w)).map S.take).sum:=by
 unfold MM.slots;rw[List.length_flatMap]
 congr 1
 refine List.map_congr_left λi hi=>?_;obtain⟨aq,av⟩:=QC.mp hi;rw[QG];exact RA (h i (QF.mp aq) (of_decide_eq_true av))
theorem nr:∀{is:List Nat}{f:Nat→Int},(∀i∈is,0≤f i)→(is.map f).sum=(((is.map λi=>(f i).toNat).sum:Nat):Int)
 | [],_,_=>rfl
 |i::is,f,h=>by
  have:=nr (is:=is) (f:=f) λj aU=>h j (QB _ aU);have:=h i QM;simp only[List.map_cons,RK];omega
theorem Zfc{rows:List B5}{fss:List (List cV)}{st:Nat→List Int}{w:Int}(am:YU rows)(h:MM.ok (c5 rows fss) st w):((MM.slots (c5 rows fss) st w).length:Int)=slotN rows w:=by
 rw[Zgk h];unfold slotN takeRow;rw[Q2];exact(nr (is:=dF rows w) (f:=λi=>(rows.getD i dB).take) λi hi=>(am.at (kU hi)).1).symm
structure YY(many:Int)(rows:List B5)(fss:List (List cV)):Prop where
 len:fss.length=many.toNat
 ok:∀w,0≤w→w<many→t_ rows w (fss.getD w.toNat [])
def jE(rows:List B5)(hs:List Int)(st:Nat→List Int):Prop:=hs.length=rows.length∧∀i<rows.length,((st i).length:Int)=hs.getD i 0
theorem ZiB{many:Int}{rows:List B5}{fss:List (List cV)}{w:Int}{xs:List Int}{i:Nat}(am:YU rows)(aS:YY many rows fss)(dD:0≤w)(er:w<many)(hi:i<rows.length)(ci:(rows.getD i dB).giver=w):((c5 rows fss).out i xs).length=(rows.getD i dB).give.toNat:=by
 show((((fss.getD (rows.getD i dB).giver.toNat []).map λf=>formV f.1 f.2 xs).drop (fK rows (rows.getD i dB).giver i).toNat).take (rows.getD i dB).give.toNat).length=_;rw[ci,QG,QK,Qb];have ai:=(aS.ok w dD er).len;have yB:Wb rows w=((leaveL rows w).map λi=>(rows.getD i dB).give).sum:=by
  unfold Wb giveRow;rw[Q2];rfl
 have a4:i∈leaveL rows w:=QC.mpr ⟨QF.mpr hi,decide_eq_true ci⟩;obtain⟨k,aA,rfl⟩:=QJ a4;rw[Ze9 aA];have kZ:∀j∈leaveL rows w,0≤(rows.getD j dB).give:=λj aU=>(am.at (ma aU)).2.2.1;generalize leaveL rows w=lv at*;have aV:(lv.map λi=>(rows.getD i dB).give).sum=((lv.take k).map λi=>(rows.getD i dB).give).sum+(rows.getD lv[k] dB).give+((lv.drop (k+1)).map λi=>(rows.getD i dB).give).sum:=by
  conv=>lhs;rw[←RI (k+1) lv,Qt aA]
  rw[QQ,QQ,RB,RB];simp
 have a8:0≤((lv.drop (k+1)).map λi=>(rows.getD i dB).give).sum:=by
  rw[nr λj aU=>kZ j (List.mem_of_mem_drop aU)];omega
 have eP:0≤((lv.take k).map λi=>(rows.getD i dB).give).sum:=by
  rw[nr λj aU=>kZ j (Ro aU)];omega
 have i3:=kZ _ (Qf aA);omega
theorem ZcF{many:Int}{rows:List B5}{fss:List (List cV)}{hs c1:List Int}{st:Nat→List Int}{w:Int}(am:YU rows)(aS:YY many rows fss)(eI:jE rows hs st)(aT:turnR many rows hs w= .ok c1):(0≤w∧w<many)∧MM.ok (c5 rows fss) st w∧jE rows c1 (MM.step (c5 rows fss) st w):=by
 unfold turnR at aT
 split at aT
 ·next hw=>
  split at aT
  ·next au=>
   cases aT;have hok:MM.ok (c5 rows fss) st w:=λi hi aA=>by
    have eN:i<rows.length:=hi;have dx:i<hs.length:=by rw[eI.1];exact eN
    show(rows.getD i dB).take.toNat≤(st i).length;have el:(rows.getD i dB).taker=w:=aA;have e:=eI.2 i eN
    by_cases c:hs.getD i 0<(rows.getD i dB).take
    ·rw[qO (w:=w) i (r:=rows[i]) (h:=hs[i]) (Qa eN) (Qa dx) (by rw[←dh (d:=dB) eN];exact el) (by rw[←dh (d:=dB) eN,←dh (d:=0) dx];exact c)] at au;cases au
    ·omega
   refine⟨hw,hok,by rw[qP eI.1,eI.1],λi hi=>?_⟩;have dx:i<hs.length:=by rw[eI.1];exact hi
   have b_:i<(i' rows hs w).length:=by rw[qP eI.1];exact dx
   rw[dh b_,yv hi dx b_,←dh (d:=dB) hi,←dh (d:=0) dx,←eI.2 i hi];show((if i<rows.length then(if(rows.getD i dB).taker=w then(st i).drop (rows.getD i dB).take.toNat else st i)++(if(rows.getD i dB).giver=w then(c5 rows fss).out i (MM.slots (c5 rows fss) st w) else[]) else st i).length:Int)=_;rw[if_pos hi,Qg];have hg:=am.at hi;have l1:(((if(rows.getD i dB).taker=w then(st i).drop (rows.getD i dB).take.toNat else st i).length:Nat):Int)=((st i).length:Int)-(if(rows.getD i dB).taker=w then(rows.getD i dB).take else 0):=by
    split
    ·next e=>
     have:=hok i hi e;have N4:(rows.getD i dB).take.toNat≤(st i).length:=this;rw[QK];omega
    ·omega
   have l2:(((if(rows.getD i dB).giver=w then(c5 rows fss).out i (MM.slots (c5 rows fss) st w) else[]).length:Nat):Int)=(if(rows.getD i dB).giver=w then(rows.getD i dB).give else 0):=by
    split
    ·next e=>rw[ZiB am aS hw.1 hw.2 hi e];omega
    ·rfl
   rw[←l1] at*
   push_cast
   rw[l1,l2]
  ·cases aT
 ·cases aT
theorem Zeq{many:Int}{rows:List B5}{fss:List (List cV)}(am:YU rows)(aS:YY many rows fss):∀{ws:List Int}{hs c1:List Int}{st:Nat→List Int},jE rows hs st→goR many rows hs ws= .ok c1→(∀w∈ws,0≤w∧w<many)∧MM.Ok (c5 rows fss) st ws∧jE rows c1 (MM.run (c5 rows fss) st ws)
 | [],hs,c1,st,eI,e=>by
  have:hs=c1:=by simpa[goR] using e
  subst this;exact⟨by simp,trivial,eI⟩
 |w::ws,hs,c1,st,eI,e=>by
  have cm:(match turnR many rows hs w with| .ok c1=>goR many rows c1 ws| .error e=> .error e)= .ok c1:=e;cases q:turnR many rows hs w with
  |ok aq=>
   rw[q] at cm;obtain⟨dk,dm,d4⟩:=ZcF am aS eI q;obtain⟨b1,b2,b3⟩:=Zeq am aS (ws:=ws) d4 cm;refine⟨λx al=>?_,⟨dm,b2⟩,b3⟩;rcases Qe.mp al with rfl|al
   ·exact dk
   ·exact b1 x al
  |error b=>rw[q] at cm;cases cm
theorem Zg6{rows:List B5}{fss:List (List cV)}(am:YU rows){st:Nat→List Int}{w:Int}{i:Nat}(hi:i<rows.length):(MM.step (c5 rows fss) st w i).length≤(st i).length+1000:=by
 show(if i<rows.length then(if(rows.getD i dB).taker=w then(st i).drop (rows.getD i dB).take.toNat else st i)++(if(rows.getD i dB).giver=w then(c5 rows fss).out i (MM.slots (c5 rows fss) st w) else[]) else st i).length≤_;have hg:=am.at hi;have l2:(if(rows.getD i dB).giver=w then(c5 rows fss).out i (MM.slots (c5 rows fss) st w) else[]).length≤1000:=by
  split
  ·show((((fss.getD (rows.getD i dB).giver.toNat []).map λf=>formV f.1 f.2 (MM.slots (c5 rows fss) st w)).drop (fK rows (rows.getD i dB).giver i).toNat).take (rows.getD i dB).give.toNat).length≤_;rw[QG];omega
  ·simp
 have l1:(if(rows.getD i dB).taker=w then(st i).drop (rows.getD i dB).take.toNat else st i).length≤(st i).length:=by
  split
  ·rw[QK];omega
  ·omega
 rw[if_pos hi,Qg];omega
theorem UD{rows:List B5}{fss:List (List cV)}(am:YU rows){i:Nat}(hi:i<rows.length):∀{ws:List Int}{st:Nat→List Int},(MM.run (c5 rows fss) st ws i).length≤(st i).length+1000*ws.length
 | [],st=>by show(st i).length≤_;omega
 |w::ws,st=>by
  have aq:=UD am hi (ws:=ws) (st:=MM.step (c5 rows fss) st w) (fss:=fss);have av:=Zg6 am hi (st:=st) (w:=w) (fss:=fss);show(MM.run (c5 rows fss) (MM.step (c5 rows fss) st w) ws i).length≤_;rw[List.length_cons];omega
theorem fT.hid'{K:Frag}{mg:Str→Option Value}{T:Tp K mg}{H:Hp}{p r:Addr}{xs:List Int}{fp:List Addr}(h:fT T H p xs fp)(n:r∉fp):fT T (hid H r) p xs fp:=by
 obtain⟨ap,l,laid,g,rfl,aq,av,b_,cA⟩:=h;simp only[Qe,QR,or_false,not_or] at n;obtain⟨eS,eD,lK⟩:=n;exact⟨ap,l,laid,g,rfl,by rw[Y5 (GE eS)];exact aq,by rw[Y5 (GE eD)];exact av,by rw[Y5 (GE lK)];exact b_,cA⟩
theorem ZiX{ys:List V}{n:Nat}(ai:ys.length=n)(h:∀i<n,∃a,ys.getD i .non= .ref a):∃as:List Addr,ys=as.map V.ref∧as.length=n:=by
 induction ys generalizing n with
 |nil=>exact⟨[],rfl,by simpa using ai⟩
 |cons y ys cI=>
  cases n with
  |zero=>simp at ai
  |succ n=>
   obtain⟨as,e,l⟩:=cI (n:=n) (by simpa using ai) λi hi=>by
    obtain⟨a,e⟩:=h (i+1) (by omega);exact⟨a,by simpa using e⟩
   obtain⟨a,ea⟩:=h 0 (by omega);have ou:y= .ref a:=by simpa using ea
   exact⟨a::as,by rw[ou,e];rfl,by simp[l]⟩
noncomputable def kk (aR:List (List Int)):List PyData:=aR.map λxs=> .list (xs.map PyData.int)
theorem yC:∀aR:List (List Int),PyData.canLayAll0 (kk aR)=true
 | []=>by simp[kk,PyData.canLayAll0]
 |xs::aR=>by
  have aq:=yC aR;have av:=kd xs;unfold kk at aq⊢;rw[List.map_cons,PyData.canLayAll0,av,aq]
  rfl
theorem ub(aR:List (List Int)):(PyData.list (kk aR)).canLay0=true:=by
 rw[PyData.canLay0];exact yC aR
theorem yD:∀aR:List (List Int),PyData.depthAll (kk aR)≤3
 | []=>by simp[kk,PyData.depthAll]
 |xs::aR=>by
  have aq:=yD aR;have av:=te xs;unfold kk at aq⊢;simp only[List.map_cons,PyData.depthAll,PyData.depth] at aq⊢;omega
theorem EW(aR:List (List Int)):(PyData.list (kk aR)).depth≤60:=by
 have:=yD aR;simp only[PyData.depth];omega
theorem uc{K:Frag}{H:Hp}:∀{ys:List V}{aR:List (List Int)},dN H ys aR→DRels K H ys (kk aR)
 |_,_,.nil=> .nil
 |_,_,.cons ⟨t,e,h⟩ r=>by rw[e];exact .cons (e4.ints (.of h)) (uc r)
theorem EX{xs:List V}{k:Nat}:gm xs (some (k:Int)) none=xs.drop (min k xs.length):=by
 have aV:HT.sIx xs.length 0 (some (k:Int))=min k xs.length:=by
  simp only[HT.sIx];rw[if_neg (by omega)];simp
 have a8:HT.sIx xs.length xs.length none=xs.length:=by simp[HT.sIx]
 unfold gm;rw[aV,a8,QS (by rw[QK];exact Qc _)]
theorem Zke{xs:List V}{b:Int}(h:0≤b):gm xs none (some b)=xs.take b.toNat:=by
 obtain⟨m,rfl⟩:=QE h;have aV:HT.sIx xs.length 0 none=0:=by simp[HT.sIx]
 have a8:HT.sIx xs.length xs.length (some (m:Int))=min m xs.length:=by
  simp only[HT.sIx];rw[if_neg (by omega)];simp
 unfold gm;rw[aV,a8,List.drop_zero,Nat.sub_zero,QH];rcases RH m xs.length with c|c
 ·rw[RA (QW c)]
 ·rw[Nat.min_eq_right c,QS (Qc _),QS c]
def pe(H H':Hp)(lo:Addr)(ys fD:List V)(st:Nat→List Int)(i:Nat):Prop:=∃t,fD.getD i .non= .ref t∧t≠lo∧H' t=some (.lst ((st i).map V.int))∧(V.ref t∈ys∨H t=none)
def mc(rows:List B5)(w:Int)(fs:List cV):Prop:=(fs.length:Int)=Wb rows w∧∀f∈fs,∀t∈f.2,0≤t.1∧t.1<slotN rows w
def gA(n:Nat)(rows:List B5)(fss:List (List cV)):Prop:=fss.length=n∧∀i<fss.length,mc rows i (fss.getD i [])
def Za7(fss:List (List cV)):Prop:=∀fs∈fss,fs.length≤200000∧∀f∈fs,f.2.length≤2000
theorem YY.good{n:Nat}{rows:List B5}{fss:List (List cV)}(h:YY n rows fss):gA n rows fss∧Za7 fss:=by
 have ai:=h.len;refine⟨⟨by omega,λi hi=>?_⟩,λfs aX=>?_⟩
 ·have:=h.ok i (by omega) (by omega);rw[QH] at this;exact⟨this.len,λf aX t aT=>⟨((this.ok f aX).ter t aT).1,((this.ok f aX).ter t aT).2.1⟩⟩
 ·obtain⟨i,hi,rfl⟩:=QJ aX;have:=h.ok i (by omega) (by omega);rw[QH,dh hi] at this;exact⟨by have:=this.few;omega,λf aX=>by have:=(this.ok f aX).few;omega⟩
noncomputable def md (t:Int×Int):PyData:= .tuple [.int t.1,.int t.2]
noncomputable def jb (f:cV):PyData:= .tuple [.int f.1,.tuple (f.2.map md)]
theorem yE{K:Frag}{H:Hp}:∀{vs:List V}{cJ:List (Int×Int)},f_ H vs cJ→DRels K H vs (cJ.map md)
 |_,_,.nil=> .nil
 |_,_,.cons ⟨a,e,h⟩ r=>by rw[e];exact .cons (.tup (.of h) (.cons (.int _) (.cons (.int _) .nil))) (yE r)
theorem EY{K:Frag}{H:Hp}{v:V}{f:cV}(h:gW H v f):e4 K H v (jb f):=by
 obtain⟨a,fk,dO,rfl,aq,av,b_⟩:=h;exact .tup (.of aq) (.cons (.int _) (.cons (.tup (.of av) (yE b_)) .nil))
theorem yF{K:Frag}{H:Hp}:∀{vs:List V}{fs:List cV},Paired (gW H) vs fs→DRels K H vs (fs.map jb)
 |_,_,.nil=> .nil
 |_,_,.cons h r=> .cons (EY h) (yF r)
theorem yG:∀cJ:List (Int×Int),PyData.canLayAll0 (cJ.map md)=true
 | []=>by simp[PyData.canLayAll0]
 |t::cJ=>by
  have:=yG cJ;simp only[List.map_cons,PyData.canLayAll0,this,Bool.and_true];simp[md,PyData.canLay0,PyData.canLayAll0]
theorem EZ(f:cV):(jb f).canLay0=true:=by
 have:=yG f.2;simp only[jb,PyData.canLay0,PyData.canLayAll0,this,Bool.and_true]
theorem yH:∀fs:List cV,PyData.canLayAll0 (fs.map jb)=true
 | []=>by simp[PyData.canLayAll0]
 |f::fs=>by
  have:=yH fs;simp only[List.map_cons,PyData.canLayAll0,this,EZ f,Bool.and_true]
theorem E1(fs:List cV):(PyData.list (fs.map jb)).canLay0=true:=by
 have:=yH fs;simp only[PyData.canLay0,this]
theorem yI:∀cJ:List (Int×Int),PyData.depthAll (cJ.map md)≤3
 | []=>by simp[PyData.depthAll]
 |t::cJ=>by
  have aq:=yI cJ;have av:(md t).depth≤2:=by simp[md,PyData.depth,PyData.depthAll]
  simp only[List.map_cons,PyData.depthAll];omega
theorem Zge(f:cV):(jb f).depth≤5:=by
 have:=yI f.2;simp only[jb,PyData.depth,PyData.depthAll];omega
theorem yJ:∀fs:List cV,PyData.depthAll (fs.map jb)≤6
 | []=>by simp[PyData.depthAll]
 |f::fs=>by
  have aq:=yJ fs;have av:=Zge f;simp only[List.map_cons,PyData.depthAll];omega
theorem E2(fs:List cV):(PyData.list (fs.map jb)).depth≤60:=by
 have:=yJ fs;simp only[PyData.depth];omega
theorem Zc5(fs:List cV):PyData.eqv (.list (fs.map jb)) (.list [])=decide (fs=[]):=by cases fs<;>simp[PyData.eqv,PyData.eqvAll]
theorem qV{cG eH:Type}{P:cG→eH→Prop}:∀{xs:List cG}{ys:List eH}(k:Nat){x:cG}{y:eH},Paired P xs ys→P x y→Paired P (xs.set k x) (ys.set k y)
 |_,_,_,_,_,.nil,_=> .nil
 |_,_,0,_,_,.cons _ r,h=> .cons h r
 |_,_,k+1,_,_,.cons z r,h=> .cons z (qV k r h)
theorem yK{cG eH:Type}{P:cG→eH→Prop}:∀{xs:List cG}{ys:List eH},Paired P xs ys→Paired P xs.dropLast ys.dropLast
 |_,_,.nil=> .nil
 |_,_,.cons _ .nil=> .nil
 |_,_,.cons h (.cons av r)=> .cons h (yK (.cons av r))
theorem yL{H:Hp}:∀{ys:List V}{fs:List cV}{v:V}{f:cV},Paired (gW H) ys fs→gW H v f→Paired (gW H) (ys++ [v]) (fs++ [f])
 |_,_,_,_,.nil,h=> .cons h .nil
 |_,_,_,_,.cons x r,h=> .cons x (yL r h)
theorem yM{H:Hp}:∀{vs:List V}{l:List (Int×Int)}{x:Int×Int}{t:Addr},f_ H vs l→H t=some (.tup [.int x.1,.int x.2])→f_ H (vs++ [.ref t]) (l++ [x]):=f_.snoc
theorem yN{H:Hp}:∀{ys:List V}{fss:List (List cV)}{v:V}{fs:List cV},f' H ys fss→kY H v fs→f' H (ys++ [v]) (fss++ [fs])
 |_,_,_,_,.nil,h=> .cons h .nil
 |_,_,_,_,.cons x r,h=> .cons x (yN r h)
theorem E3(b:B5):b.d.canLay0=true:=by simp[B5.d,PyData.canLay0,PyData.canLayAll0]
theorem Zh2(b:B5):b.d.depth≤2:=by simp[B5.d,PyData.depth,PyData.depthAll]
theorem yO:∀ls:List B5,PyData.canLayAll0 (ls.map B5.d)=true
 | []=>by simp[PyData.canLayAll0]
 |b::ls=>by
  have:=yO ls;simp only[List.map_cons,PyData.canLayAll0,E3 b,Bool.true_and];exact this
theorem E4(ls:List B5):(PyData.list (ls.map B5.d)).canLay0=true:=by
 have:=yO ls;simp[PyData.canLay0];simpa using this
theorem yP:∀ls:List B5,PyData.depthAll (ls.map B5.d)≤3
 | []=>by simp[PyData.depthAll]
 |b::ls=>by
  have aq:=yP ls;have av:=Zh2 b;simp only[List.map_cons,PyData.depthAll];omega
theorem E5(ls:List B5):(PyData.list (ls.map B5.d)).depth≤60:=by
 have:=yP ls;simp only[PyData.depth];omega
theorem E6{K:Frag}{H:Hp}{t:Addr}{b:B5}(h:H t=some (.tup b.v)):e4 K H (.ref t) b.d:= .tup (.of h) (.cons (.int _) (.cons (.int _) (.cons (.int _) (.cons (.int _) (.cons (.int _) .nil)))))
theorem yQ{K:Frag}{H:Hp}:∀{bs:List V}{ls:List B5},fj H bs ls→DRels K H bs (ls.map B5.d)
 |_,_,.nil=> .nil
 |_,_,.cons ⟨t,e,h⟩ r=>by rw[e];exact .cons (E6 h) (yQ r)
local macro_rules| `(tactic|walk_at "rd")=>`(tactic|first|with_reducible (first|(show ∃a ap fs,L2.V.ref _=L2.V.ref a∧_∧List.lookup _ fs=none∧_;refine Nm.ZgD (by with_reducible assumption) (by k_dflt (decide+kernel)) (by k_dflt (decide+kernel)) ?_)|refine L2.Rd.Zlg (by with_reducible assumption) (by with_reducible assumption) (by with_reducible assumption) ?_|refine L2.Rd.ZkT (by with_reducible assumption) (by with_reducible assumption) (by with_reducible assumption) ?_|(show ∃a ap fs,L2.V.ref _=L2.V.ref a∧_∧List.lookup _ fs=none∧_;refine Nm.Zf3 (by with_reducible assumption) (by k_dflt (decide+kernel)) (by k_dflt (decide+kernel)) (by k_dflt (decide+kernel)) ?_)|(show ∃a ap fs,L2.V.ref _=L2.V.ref a∧_∧List.lookup _ fs=none∧_;refine Nm.Zgp (by with_reducible assumption) (by k_dflt (decide+kernel)) (by k_dflt (decide+kernel)) ?_)|(show ∃a ap fs,L2.V.ref _=L2.V.ref a∧_∧List.lookup _ fs=none∧_;refine Nm.Zg0 (by with_reducible assumption) (by k_dflt (decide+kernel)) (by k_dflt (decide+kernel)) (by k_dflt (decide+kernel)) ?_))|fail "none here")
def VS{K:Frag}{mg:Str→Option Value}(T:Tp K mg):Sp:=λvs H Q _=>∃(p:Addr)(ns:List Int)(k:Int),vs=[.ref p,.int k]∧SqL K H p (ns.map V.int)∧ns.length≤63∧0≤k∧k≤100000∧Q (.int (cellX ns k)) H
theorem Zdz{K:Frag}{mg:Str→Option Value}{T:Tp K mg}{H:Hp}{Q:VK}{E:XK}{p:Addr}{ns:List Int}{k:Int}(fH:SqL K H p (ns.map V.int))(ai:ns.length≤63)(aA:0≤k∧k≤100000)(q:Q (.int (cellX ns k)) H):VS T ([.ref p,.int k]++ []) H Q E:=⟨p,ns,k,rfl,fH,ai,aA.1,aA.2,q⟩
local macro_rules| `(tactic|walk_at "rd")=>`(tactic|first|((with_reducible show Nm.VS _ _ _ _ _);with_reducible refine Nm.Zdz (by walk_at "hp") (by assumption) (by omega) ?_)|fail "none here")
section
variable {P:Program}{w:World}{K:Frag}{mg:Str→Option Value}{base:Heap}
theorem me(T:Tp K mg):OkN P w base 1 T.x0 (VS T):=by
 refine T.x0.F.okX tS (λvs H Q E h=>?_) (λcw A outer s H vs Q E au h=>?_)
 ·obtain⟨p,ns,k,rfl,_⟩:=h
  rfl
 ·have hu:=au.hu;obtain⟨p,ns,k,rfl,fH,dg,k0,k1,q⟩:=h;unfold cellX at q;refine⟨_,(bg (dM (dJ (fN (K:=K) rfl hu) (dj (fF K) (by rfl) T.e Qn (ay (pv 0) aH)) Zg (da _)) (bq (c' Zg)) d5)
     (bg (cN (i:=2) tS.nd rfl (Or.inl rfl) (ck fJ (pv 1) (dj (fF K) (by rfl) T.e Qn (ay (pv 0) aH))))
     (bg (cN (i:=3) tS.nd rfl (Or.inl rfl) (c_ (ixk K) (pv 0) (ck eh (pv 1) (dj (fF K) (by rfl) T.e Qn (ay (pv 0) aH))) (λ_ _=>rfl)))
     (bg (dM (dJ (fN (K:=K) rfl hu) (pv 2) Zg (da _)) (bq (c' (pv 3))) d5)
     (bq (c' (ck (fi K) (ck eh (ck gK (pv 3) (ck (fi K) (ck gK Zg (pv 2)) Zg)) Zg) (ck gK Zg (pv 2))))))))),?_⟩
  try dsimp only[L2.cxX,L2.ZL,L2.Zl]
  walk_at "rds";refine Rd.ifD (λd=>?_) (λd=>?_)
  ·have d':(ns.length:Int)=0:=by simpa using d
   rw[if_pos d'] at q;walk_at "rds";exact q
  ·have d':¬(ns.length:Int)=0:=by simpa using d
   rw[if_neg d'] at q;have e:((ns.map V.int).length:Int)=ns.length:=by simp
   have N5:0<((ns.map V.int).length:Int):=by omega
   have N6:((ns.map V.int).length:Int).natAbs.log2<9000:=t8 (by rw[Qb];omega);have aS:=WY (ns:=ns) (k:=k % (ns.map V.int).length) (QT _ (by omega)) (by rw[e];exact QN _ (by omega));have iD:0≤k / ((ns.map V.int).length:Int):=Int.ediv_nonneg k0 (by omega);have l9:k / ((ns.map V.int).length:Int)≤k:=Int.ediv_le_self _ k0;have ud:IntMulOk (ns.getD (k % ((ns.map V.int).length:Int)).toNat 0) (2*(k / ((ns.map V.int).length:Int))+1):=IntMulOk.of_right (Qv (pd (n:=30) (by omega)) (by decide));rw[←e] at q;walk_at "rds";refine Rd.ifD (λjA=>?_) (λjA=>?_)
   ·rw[if_pos jA] at q;walk_at "rds";exact q
   ·rw[if_neg jA] at q;walk_at "rds";exact q
end
def E7{K:Frag}{mg:Str→Option Value}(T:Tp K mg):Sp:=λvs H Q _=>∃(c sl:Int)(gr:Bool),vs=[.int c,.int sl,.bl gr]∧0≤sl∧sl≤100000∧
 ∀(r:Addr)(H':Hp)(f:cV),Zc H H'→gW H' (.ref r) f→qU sl f→Q (.ref r) H'
section
variable {P:Program}{w:World}{K:Frag}{mg:Str→Option Value}{base:Heap}
theorem E8(T:Tp K mg):OkN P w base 1 T.x1 (E7 T):=by
 refine T.x1.F.okX nj (λvs H Q E h=>?_) (λcw A outer s H vs Q E au h=>?_)
 ·obtain⟨c,sl,gr,rfl,_⟩:=h
  rfl
 ·have hu:=au.hu;obtain⟨c,sl,gr,rfl,E9,E_,q⟩:=h;have k4:(10:Int) ^ Int.toNat 29=100000000000000000000000000000:=rfl;refine⟨_,(bg (cN (i:=3) nj.nd rfl (Or.inl rfl) (ck eh (ck gK (pv 0) Zg) Zg))
     (bg (cN (i:=4) nj.nd rfl (Or.inl rfl) (ck lM (ck eh (pv 3) Zg) Zg))
     (bg (lY (dM (fW (K:=K) rfl (pv 2) (λ_=>rfl)) (bq (cN (i:=4) nj.nd rfl (Or.inl rfl) (ck lM (ck eh (pv 0) (ck gK Zg (ck kB Zg Zg))) (ck kB Zg Zg)))) d5))
     (bg (cN (i:=5) nj.nd rfl (Or.inl rfl) (f6 aH))
     (bg (fz PassesOwn.leaving rfl (js rfl T.q (ay (ck gK (ck eh (ck fJ (pv 3) Zg) Zg) (dj (BZ rfl) (by rfl) T.cf PyProof.Rows.boot_min (ay (pv 1) (ay Zg aH)))) aH)) (cP (i:=6) nj.nd rfl (Or.inl rfl)) (bq (eK (hA (K:=K) rfl Qo Qz QA hS (pv 5) (ay (g8 (ay (ck eh (ck fJ (pv 3) (ck (fi K) Zg (ck gK Zg (pv 6)))) (pv 1)) (ay (ck lM (ck eh (ck fJ (pv 3) (ck (fi K) Zg (ck gK Zg (pv 6)))) Zg) Zg) aH))) aH)))))
     (bq (c' (g8 (ay (pv 4) (ay (gP (tg (K:=K) rfl) (by rfl) T.aE RD (ay (pv 5) aH)) aH)))))))))),?_⟩
  try dsimp only[L2.cxX,L2.ZL,L2.Zl]
  walk_at "rds";have j0:0≤c*48271 % 2147483647:=by omega
  have g7:c*48271 % 2147483647<2147483647:=by omega
  generalize c*48271 % 2147483647=e9 at*;refine Rd.cut (λaW H'=>H'=H∧∃k6:Int,aW=[some (.int c),some (.int sl),some (.bl gr),some (.int e9),some (.int k6),none,none]) ?k1 ?eC
  case eC=>
   cases gr with
   |true=>
    walk_at "rds";exact⟨rfl,_,rfl⟩
   |false=>
    walk_at "rds";exact⟨rfl,_,rfl⟩
  case k1=>
   rintro aW H' ⟨rfl,k6,rfl⟩;walk_at "rds";refine⟨Qx _,λt aT=>?_⟩;have be:Zc H' (upd H' t (.lst [])):=cF aT;have gB:(upd H' t (.lst [])) t=some (.lst []):=Ze;generalize upd H' t (.lst [])=a2 at*;have uf:(0≤(if 1<sl then 1 else sl)∧(if 1<sl then 1 else sl)≤1):=by split<;>omega
   have ud:IntMulOk (e9 / 41 % 4) ((if 1<sl then 1 else sl)):=mulI (n:=10) (m:=10) (by omega) (by have:=uf.1;have:=uf.2;generalize (if 1<sl then 1 else sl)=z at *;omega) (by decide);have Fa:0<(if 1<sl then 1 else sl)→0<sl:=by split<;>omega
   have ug:0≤e9 / 41 % 4*(if 1<sl then 1 else sl):=Int.mul_nonneg (by omega) (by omega);have cy:e9 / 41 % 4*(if 1<sl then 1 else sl)≤3*1:=Int.mul_le_mul (by omega) (by omega) (by omega) (by omega);have cU:0<e9 / 41 % 4*(if 1<sl then 1 else sl)→0<(if 1<sl then 1 else sl):=λz=>by
    rcases(Int.le_iff_lt_or_eq.mp uf.1).symm.imp Eq.symm id with e|e
    ·rw[e,Int.mul_zero] at z;omega
    ·exact e
   walk_at "rds";generalize (if 1<sl then 1 else sl)=mm at*;generalize e9 / 41 % 4*mm=jF at*;refine WF (n:=jF.toNat) (λj σ a3=>∃(dO:List V)(cJ:List (Int×Int))(a6:Option V),σ=[some (.int c),some (.int sl),some (.bl gr),some (.int e9),some (.int k6),some (.ref t),a6]∧Zc H' a3∧a3 t=some (.lst dO)∧f_ a3 dO cJ∧cJ.length=j∧∀x∈cJ,0≤x.1∧x.1<sl∧x.2.natAbs≤4) ⟨[],[],_,rfl,be,gB,.nil,rfl,by simp⟩ ?_ ?_
   ·rintro j σ a3 aU ⟨dO,cJ,b6,rfl,cp,mf,ib,kO,ic⟩;have N7:j<4:=by omega
    have ff:0<sl:=Fa (cU (by omega));have jY:0<164+5*(0+(j:Int))∧(164+5*(0+(j:Int))).natAbs.log2<9000:=⟨by omega,qT (by omega) (by omega)⟩;have jA:0<7+2*(0+(j:Int))∧(7+2*(0+(j:Int))).natAbs.log2<9000:=⟨by omega,qT (by omega) (by omega)⟩;have N8:0<sl∧sl.natAbs.log2<9000:=⟨by omega,qT (by omega) (by omega)⟩;have nt:dO.length<sizeLine:=ej (by have:=ib.length;omega);walk_at "rds";have er:=QT (e9 / (164+5*(0+(j:Int)))) (show sl≠0 by omega);have lD:=QN (e9 / (164+5*(0+(j:Int)))) ff;have j1:(e9 / (7+2*(0+(j:Int))) % 9-4).natAbs≤4:=by omega
    generalize e9 / (164+5*(0+(j:Int))) % sl=x1 at*;generalize e9 / (7+2*(0+(j:Int))) % 9-4=x2 at*;refine⟨by show 2≤sizeLine;decide,λu eF=>?_⟩;have cK:Zc a3 (upd a3 u (.tup [V.int x1,V.int x2])):=cF eF;have gb:(upd a3 u (.tup [V.int x1,V.int x2])) u=some (.tup [V.int x1,V.int x2]):=Ze;generalize upd a3 u (.tup [V.int x1,V.int x2])=bH at*;have Fb:=cK _ _ mf;walk_at "rds";have nu:Zr [t] bH (upd bH t (.lst (dO++ [.ref u]))):=fu (by simp) Fb (by intro _ z;cases z);refine⟨dO++ [.ref u],cJ++ [(x1,x2)],_,rfl,(cp.trans cK).new aT,Ze,((ib.keep λb xs e=>cK _ _ e).keep nu.tups).snoc (x:=(x1,x2)) (nu.tups _ _ gb),by simp[kO],λx al=>?_⟩;rcases QD.mp al with z|z
    ·exact ic x z
    ·rw[Qm.mp z];exact⟨er,lD,j1⟩
   ·rintro σ a3 ⟨dO,cJ,b6,rfl,cp,mf,ib,kO,ic⟩;have k7:=SqL.of (K:=K) mf;walk_at "rds";refine⟨t,dO,rfl,.inl ⟨k7,λw hw=>?_⟩⟩;have cK:Zc a3 (upd a3 w (.tup dO)):=cF hw;have gb:(upd a3 w (.tup dO)) w=some (.tup dO):=Ze;generalize upd a3 w (.tup dO)=bH at*;walk_at "rds";refine⟨by show 2≤sizeLine;decide,λu eF=>?_⟩;have d3:Zc bH (upd bH u (.tup [V.int k6,V.ref w])):=cF eF;have jc:(upd bH u (.tup [V.int k6,V.ref w])) u=some (.tup [V.int k6,V.ref w]):=Ze;generalize upd bH u (.tup [V.int k6,V.ref w])=df at*;have h0:=cK.trans d3;exact q u df (k6,cJ) (cp.trans h0) ⟨u,w,dO,rfl,jc,d3 _ _ gb,ib.keep λb xs e=>h0 _ _ e⟩ ⟨by show cJ.length≤1000;omega,ic⟩
end
def Fc{K:Frag}{mg:Str→Option Value}(T:Tp K mg):Sp:=λvs H Q _=>∃(p dC:Addr)(ns:List Int)(bs:List V)(ls:List B5)(dv:Int)(m:Nat)(gr:Bool),vs=[.ref p,.int dv,.ref dC,.int m,.bl gr]∧SqL K H p (ns.map V.int)∧ns.length≤63∧H dC=some (.lst bs)∧fj H bs ls∧ls.length≤20∧(∀l∈ls,Bel m l)∧0≤dv∧dv≤1000∧m≤10∧
 ∀(r:Addr)(H':Hp)(ys:List V)(fss:List (List cV)),H r=none→Zc H H'→H' r=some (.lst ys)→f' H' ys fss→YY m ls fss→Q (.ref r) H'
theorem yR{H:Hp}:∀{ys:List V}{fss:List (List cV)}{v:V}{fs:List cV},f' H ys fss→kY H v fs→f' H (ys++ [v]) (fss++ [fs])
 |_,_,_,_,.nil,h=> .cons h .nil
 |_,_,_,_,.cons x r,h=> .cons x (yR r h)
theorem yS{H:Hp}:∀{ys:List V}{fs:List cV}{v:V}{f:cV},Paired (gW H) ys fs→gW H v f→Paired (gW H) (ys++ [v]) (fs++ [f])
 |_,_,_,_,.nil,h=> .cons h .nil
 |_,_,_,_,.cons x r,h=> .cons x (yS r h)
theorem ZdT{is:List Nat}{f:Nat→Int}(h:∀i∈is,0≤f i∧f i≤40):0≤(is.map f).sum∧(is.map f).sum≤40*is.length:=by
 induction is with
 |nil=>simp
 |cons i is cI=>
  have dk:=cI λj aU=>h j (QB _ aU);have dm:=h i QM;simp only[List.map_cons,RK,List.length_cons];omega
section
variable {P:Program}{w:World}{K:Frag}{mg:Str→Option Value}{base:Heap}
theorem Fd(T:Tp K mg):OkN P w base 2 T.x2 (Fc T):=by
 refine T.x2.F.okX kR (λvs H Q E h=>?_) (λcw A outer s H vs Q E au h=>?_)
 ·obtain⟨p,dC,ns,bs,ls,dv,m,gr,rfl,_⟩:=h
  rfl
 ·have hu:=au.hu;obtain⟨p,dC,ns,bs,ls,dv,m,gr,rfl,fH,dg,gc,du,uh,ed,mh,eT,a4,q⟩:=h;have ie:=du.length;have kM:∀i<ls.length,Bel m (ls.getD i dB):=λi hi=>ed _ (by rw[dh hi];exact Qf _);refine⟨_,(bg (cN (i:=5) kR.nd rfl (Or.inl rfl) (f6 aH))
     (bg (fz PassesOwn.leaving rfl (js rfl T.q (ay (pv 3) aH)) (cP (i:=6) kR.nd rfl (Or.inr rfl)) (bg (cN (i:=7) kR.nd rfl (Or.inl rfl) (dj (nf (K:=K) rfl rfl) (by rfl) T.Z Q1 (ay (gu (xs:=["_law_belt"]) rfl (fg (x:="_law_belt") (zs:=["_law_work"]) (ix:=[6]) (cq qJ) ["_law_script","_law_at","_law_belts","_law_many","_law_great","_law_forms","_law_work","_law_slots","_law_given","_law_some","_law_k"] rfl rfl (by decide+kernel)) (fh (K:=K) rfl (pv 2)) (λcl C s H fp=>⟨(cP (i:=0) (show(["_law_belt","_law_work"]:List Str).Nodup by decide+kernel) rfl (Or.inl rfl)),(oK (dJ (fN (K:=K) rfl hu) (c_ (ixk K) (pv 0) Zg (λ_ _=>rfl)) (pv 1) (da _))),(c_ (ixk K) (pv 0) Zg (λ_ _=>rfl))⟩)) aH)))
     (bg (cN (i:=8) kR.nd rfl (Or.inl rfl) (dj (nf (K:=K) rfl rfl) (by rfl) T.Z Q1 (ay (gu (xs:=["_law_belt"]) rfl (fg (x:="_law_belt") (zs:=["_law_work"]) (ix:=[6]) (cq qJ) ["_law_script","_law_at","_law_belts","_law_many","_law_great","_law_forms","_law_work","_law_slots","_law_given","_law_some","_law_k"] rfl rfl (by decide+kernel)) (fh (K:=K) rfl (pv 2)) (λcl C s H fp=>⟨(cP (i:=0) (show(["_law_belt","_law_work"]:List Str).Nodup by decide+kernel) rfl (Or.inl rfl)),(oK (dJ (fN (K:=K) rfl hu) (c_ (ixk K) (pv 0) Zg (λ_ _=>rfl)) (pv 1) (da _))),(c_ (ixk K) (pv 0) Zg (λ_ _=>rfl))⟩)) aH)))
     (bg (cN (i:=9) kR.nd rfl (Or.inl rfl) (f6 aH))
     (bg (fz PassesOwn.leaving rfl (js rfl T.q (ay (pv 8) aH)) (cP (i:=10) kR.nd rfl (Or.inl rfl)) (bg (eK (hA (K:=K) rfl Qo Qz QA hS (pv 9) (ay (dq T.x1 (E8 T) au cT (ay (dq T.x0 (me T) au cT (ay (pv 0) (ay (pv 1) aH))) (ay (pv 7) (ay (pv 4) aH)))) aH)))
     (bq (cN (i:=1) kR.nd rfl (Or.inl rfl) (ck (fi K) (pv 1) Zg)))))
     (bq (eK (hA (K:=K) rfl Qo Qz QA hS (pv 5) (ay (gP (tg (K:=K) rfl) (by rfl) T.aE RD (ay (pv 9) aH)) aH)))))))))
     (bq (c' (pv 5))))),?_⟩
  try dsimp only[L2.cxX,L2.ZL,L2.Zl]
  walk_at "rds";refine⟨Qx _,λr au=>?_⟩;have aB:Zc H (upd H r (.lst [])):=cF au;have eU:(upd H r (.lst [])) r=some (.lst []):=Ze;generalize upd H r (.lst [])=ao at*;walk_at "rds";refine WF (n:=m) (λi σ H'=>∃(ys:List V)(fss:List (List cV))(a6 a7 hD a9 nv:Option V)(at_:Int),σ=[some (.ref p),some (.int at_),some (.ref dC),some (.int m),some (.bl gr),some (.ref r),a6,a7,hD,a9,nv]∧Zc H H'∧H' r=some (.lst ys)∧f' H' ys fss∧fss.length=i∧(∀j<i,t_ ls j (fss.getD j []))∧dv≤at_∧at_≤dv+1000*i) ⟨[],[],_,_,_,_,_,dv,rfl,aB,eU,.nil,rfl,λj aU=>absurd aU (Rz _),by omega,by omega⟩ ?_ ?_
  ·rintro i σ ar hi ⟨ys,fss,a6,a7,hD,a9,nv,at_,rfl,bc,fx,qW,fL,ui,b0,b1⟩;have pf:=bc _ _ gc;have yT:=SqL.of (K:=K) pf;have kT:(0:Int)+(i:Int)=(i:Int):=by omega
   walk_at "rds";refine ZP (own:=1) (e7 yT).y (ej (by omega)) (λj=>[some (bs.getD j .non)]) (λ_=>rfl) (λj=>decide ((ls.getD j dB).taker=0+(i:Int))) (λj v _=>v= .int (ls.getD j dB).take) (λ_ _ _ _ _ z=>z) (λj cE H' v a2 e8 hi aI y dE k=>?_) (λj H' cL hi aI k=>?_) (λfO j H' cL hi ft hp0 eV aI k=>?_) (λd a2 zs hd aI dX c2=>?_)
   ·obtain⟨rfl,rfl⟩:=y;obtain⟨x1,rfl⟩:∃x1,cE=[x1]:=by
     match cE,dE with
     | [x1],_=>exact⟨x1,rfl⟩
    walk_at "rds";exact k _ (Zc.refl _)
   ·obtain⟨t,cZ,aT⟩:=du.getD (show j<ls.length by omega);rw[cZ];have hF:=aI _ _ (bc _ _ aT);dsimp only[B5.v] at hF;walk_at "rds";exact k H' (Zc.refl H')
   ·obtain⟨t,cZ,aT⟩:=du.getD (show j<ls.length by omega);rw[cZ];have hF:=aI _ _ (bc _ _ aT);dsimp only[B5.v] at hF;walk_at "rds";exact k _ H' (Zc.refl H') rfl
   ·rw[ie] at c2;have ez:=ja c2;have uj:(((List.range ls.length).filter λj=>decide ((ls.getD j dB).taker=0+(i:Int))).map λj=>(ls.getD j dB).take).sum=slotN ls i:=by
     unfold slotN takeRow dF;rw[Q2,kT];rfl
    have N9:0≤slotN ls i∧slotN ls i≤800:=by
     have aq:=ZdT (is:=dF ls i) (f:=λj=>(ls.getD j dB).take) λj aU=>by
      have:=(kM j (kU aU)).few;have:=(kM j (kU aU)).sz;omega
     have av:=W5 (ls:=ls) (w:=(i:Int));have b_:slotN ls i=((dF ls i).map λj=>(ls.getD j dB).take).sum:=by unfold slotN takeRow;rw[Q2];rfl
     rw[b_];omega
    have g9:=SqL.of (K:=K) (ez▸dX);have gC:=bc.trans aI;have Fe:=gC _ _ gc;have Ff:=SqL.of (K:=K) Fe;walk_at "rds";refine⟨d,_,rfl,g9,?_⟩;rw[uj];generalize qX:slotN ls (i:Int)=sn at*;walk_at "rds";refine ZP (own:=1) (e7 Ff).y (ej (by omega)) (λj=>[some (bs.getD j .non)]) (λ_=>rfl) (λj=>decide ((ls.getD j dB).giver=0+(i:Int))) (λj v _=>v= .int (ls.getD j dB).give) (λ_ _ _ _ _ z=>z) (λj cE H' v a2 e8 hi aI y dE k=>?_) (λj H' cL hi aI k=>?_) (λfO j H' cL hi ft hp0 eV aI k=>?_) (λjA a3 zs2 jv sm2 hl2' gY=>?_)
    ·obtain⟨rfl,rfl⟩:=y;obtain⟨x1,rfl⟩:∃x1,cE=[x1]:=by
      match cE,dE with
      | [x1],_=>exact⟨x1,rfl⟩
     walk_at "rds";exact k _ (Zc.refl _)
    ·obtain⟨t,cZ,aT⟩:=du.getD (show j<ls.length by omega);rw[cZ];have hF:=aI _ _ (gC _ _ aT);dsimp only[B5.v] at hF;walk_at "rds";exact k H' (Zc.refl H')
    ·obtain⟨t,cZ,aT⟩:=du.getD (show j<ls.length by omega);rw[cZ];have hF:=aI _ _ (gC _ _ aT);dsimp only[B5.v] at hF;walk_at "rds";exact k _ H' (Zc.refl H') rfl
    ·rw[ie] at gY;have Fg:=ja gY;have Fh:(((List.range ls.length).filter λj=>decide ((ls.getD j dB).giver=0+(i:Int))).map λj=>(ls.getD j dB).give).sum=Wb ls i:=by
      unfold Wb giveRow leaveL;rw[Q2,kT];rfl
     have N_:0≤Wb ls i∧Wb ls i≤800:=by
      have aq:=ZdT (is:=leaveL ls i) (f:=λj=>(ls.getD j dB).give) λj aU=>by
       have:=(kM j (ma aU)).few;have:=(kM j (ma aU)).sz;omega
      have av:=Vz (ls:=ls) (w:=(i:Int));have b_:Wb ls i=((leaveL ls i).map λj=>(ls.getD j dB).give).sum:=by unfold Wb giveRow;rw[Q2];rfl
      rw[b_];omega
     have Fi:=SqL.of (K:=K) (Fg▸hl2');have gd:=gC.trans sm2;walk_at "rds";refine⟨jA,_,rfl,Fi,?_⟩;rw[Fh];have nw:Wb ls (i:Int)=Wb ls (i:Int):=rfl;generalize ig:Wb ls (i:Int)=gn at*;walk_at "rds";refine⟨Qx _,λo a_=>?_⟩;have cK:Zc a3 (upd a3 o (.lst [])):=cF a_;have gb:(upd a3 o (.lst [])) o=some (.lst []):=Ze;have qY:H o=none:=iF gd a_;generalize upd a3 o (.lst [])=bH at*;have yU:Zc ar bH:=(aI.trans sm2).trans cK;walk_at "rds";refine WF (n:=gn.toNat) (λj σ H'=>∃(vs:List V)(fs:List cV)(nv:Option V),σ=[some (.ref p),some (.int (at_+j)),some (.ref dC),some (.int m),some (.bl gr),some (.ref r),some (.int (0+(i:Int))),some (.int sn),some (.int gn),some (.ref o),nv]∧Zc a3 H'∧H' o=some (.lst vs)∧Paired (gW H') vs fs∧fs.length=j∧∀f∈fs,qU sn f) ⟨[],[],nv,by simp,cK,gb,.nil,rfl,by simp⟩ ?_ ?_
     ·rintro j σ df aU ⟨vs,fs,Fj,rfl,d3,uk,qZ,k8,ul⟩;have jG:=gd.trans d3;have yV:=jG.seq fH;have q0:=Paired.length qZ;have Fk:vs.length<sizeLine:=ej (by omega);walk_at "rds";refine⟨_,sn,gr,rfl,by omega,by omega,λu c8 f d6 aX iJ=>?_⟩;have Fl:=d6 _ _ uk;walk_at "rds";have ny:Zr [o] c8 (upd c8 o (.lst (vs++ [.ref u]))):=fu (by simp) Fl (by intro _ z;cases z);have kl:at_+(j:Int)+1=at_+((j+1:Nat):Int):=by omega
      refine⟨vs++ [.ref u],fs++ [f],_,by rw[kl],(d3.trans d6).new a_,Ze,yS (Paired.mapP qZ λ_ _ z=>(z.keep λb xs e=>d6 _ _ e).keep ny.tups) (aX.keep ny.tups),by simp[k8],λx al=>?_⟩;rcases QD.mp al with z|z
      ·exact ul x z
      ·rw[Qm.mp z];exact iJ
     ·rintro σ df ⟨vs,fs,Fj,rfl,d3,uk,qZ,k8,ul⟩;have yW:=SqL.of (K:=K) uk;have nz:Zc ar df:=(aI.trans sm2).trans d3;have Fm:=nz _ _ fx;have f9:=Paired.length qW;have q1:ys.length<sizeLine:=ej (by omega);walk_at "rds";refine⟨o,vs,rfl,.inl ⟨yW,λeJ hw=>?_⟩⟩;have d6:Zc df (upd df eJ (.tup vs)):=cF hw;have ph:(upd df eJ (.tup vs)) eJ=some (.tup vs):=Ze;generalize upd df eJ (.tup vs)=c8 at*;have Fn:=d6 _ _ Fm;walk_at "rds";have ny:Zr [r] c8 (upd c8 r (.lst (ys++ [.ref eJ]))):=fu (by simp) Fn (by intro _ z;cases z);refine⟨ys++ [.ref eJ],fss++ [fs],_,_,_,_,_,_,rfl,(bc.trans (nz.trans d6)).new au,Ze,yR ((qW.keep λb xs e=>d6 _ _ (nz _ _ e)).keep ny.tups) ⟨eJ,vs,rfl,ny.tups _ _ ph,Paired.mapP qZ λ_ _ z=>(z.keep λb xs e=>d6 _ _ e).keep ny.tups⟩,by simp[fL],λj aU=>?_,by omega,by omega⟩;rcases Rw.mp aU with z|z
      ·have:=ui j z;rw[dh (by rw[Qg];omega),List.getElem_append_left (by omega)];rw[dh (by omega)] at this;exact this
      ·subst z;rw[dh (by rw[Qg];simp;omega),List.getElem_append_right (by omega)];simp only[fL,Nat.sub_self,List.getElem_cons_zero];refine⟨by rw[ig];omega,by omega,?_⟩;rw[qX];exact ul
  ·rintro σ ar ⟨ys,fss,a6,a7,hD,a9,nv,at_,rfl,bc,fx,qW,fL,ui,b0,b1⟩;walk_at "rds";refine q r ar ys fss au bc fx qW ⟨by omega,λw dD er=>?_⟩;have:=ui w.toNat (by omega)
   rwa [QP dD] at this
end
def Fo{K:Frag}{mg:Str→Option Value}(T:Tp K mg):Sp:=λvs H Q _=>∃(p dC:Addr)(ns:List Int)(bs:List V)(ls:List B5)(dv:Int),vs=[.ref p,.int dv,.ref dC]∧SqL K H p (ns.map V.int)∧ns.length≤63∧H dC=some (.lst bs)∧fj H bs ls∧ls.length≤20∧(∀l∈ls,0≤l.start∧l.start≤1000)∧0≤dv∧dv≤1000∧
 ∀(r:Addr)(H':Hp)(ys:List V)(aR:List (List Int)),H r=none→Zc H H'→H' r=some (.lst ys)→dN (hid H' r) ys aR→(∀v∈ys,∃t,v= .ref t∧H t=none)→aR.length=ls.length→(∀i<ls.length,((aR.getD i []).length:Int)=(ls.getD i dB).start)→(∀xs∈aR,t9 xs)→Q (.ref r) H'
section
variable {P:Program}{w:World}{K:Frag}{mg:Str→Option Value}{base:Heap}
theorem Fp(T:Tp K mg):OkN P w base 2 T.x3 (Fo T):=by
 refine T.x3.F.okX nk (λvs H Q E h=>?_) (λcw A outer s H vs Q E au h=>?_)
 ·obtain⟨p,dC,ns,bs,ls,dv,rfl,_⟩:=h
  rfl
 ·have hu:=au.hu;obtain⟨p,dC,ns,bs,ls,dv,rfl,fH,dg,gc,du,uh,ed,mh,eT,q⟩:=h;have k4:(10:Int) ^ Int.toNat 29=100000000000000000000000000000:=rfl;have ie:=du.length;refine⟨_,(bg (cN (i:=3) nk.nd rfl (Or.inl rfl) (f6 aH))
     (bg (fz PassesOwn.leaving rfl (fh (K:=K) rfl (pv 2)) (cP (i:=4) nk.nd rfl (Or.inl rfl)) (bg (cN (i:=5) nk.nd rfl (Or.inl rfl) (f6 aH))
     (bg (fz PassesOwn.leaving rfl (js rfl T.q (ay (c_ (ixk K) (pv 4) Zg (λ_ _=>rfl)) aH)) (cP (i:=6) nk.nd rfl (Or.inl rfl)) (bg (eK (hA (K:=K) rfl Qo Qz QA hS (pv 5) (ay (ck lM (ck eh (dq T.x0 (me T) au cT (ay (pv 0) (ay (pv 1) aH))) (ck gK Zg (ck kB Zg Zg))) (ck gK (ck kB Zg Zg) (ck eh (pv 6) Zg))) aH)))
     (bq (cN (i:=1) nk.nd rfl (Or.inl rfl) (ck (fi K) (pv 1) Zg)))))
     (bq (eK (hA (K:=K) rfl Qo Qz QA hS (pv 3) (ay (pv 5) aH)))))))
     (bq (c' (pv 3))))),?_⟩
  try dsimp only[L2.cxX,L2.ZL,L2.Zl]
  walk_at "rds";refine⟨Qx _,λr au=>?_⟩;have aB:Zc H (upd H r (.lst [])):=cF au;have eU:(upd H r (.lst [])) r=some (.lst []):=Ze;generalize upd H r (.lst [])=ao at*;have q2:=aB _ _ gc;walk_at "rds";refine Ym (e7 (SqL.of gc)) (λi σ H'=>∃(ys:List V)(aR:List (List Int))(eE eb a6:Option V)(at_:Int),σ=[some (.ref p),some (.int at_),some (.ref dC),some (.ref r),eE,eb,a6]∧Zc H H'∧H' r=some (.lst ys)∧dN (hid H' r) ys aR∧(∀v∈ys,∃t,v=V.ref t∧H t=none)∧aR.length=i∧(∀j<i,((aR.getD j []).length:Int)=(ls.getD j dB).start)∧(∀xs∈aR,t9 xs)∧dv≤at_∧at_≤dv+1000*i) ⟨[],[],_,_,_,dv,rfl,aB,eU,.nil,by simp,rfl,λj aU=>absurd aU (Rz _),by simp,by omega,by omega⟩ (λi σ H' ⟨_,_,_,_,_,_,_,s,_⟩=>s) ?_ ?_
  ·rintro i σ ar hi ⟨ys,aR,eE,eb,a6,at_,rfl,bc,fx,gY,hQ,fL,eR,nA,b0,b1⟩;have eG:i<ls.length:=by omega
   obtain⟨t,cZ,aT⟩:=du.getD eG;rw[cZ];have a4:ls.getD i dB∈ls:=by rw[dh eG];exact Qf _
   obtain⟨iK,jH⟩:=ed _ a4;have gf:=bc _ _ aT;dsimp only[B5.v] at gf;walk_at "rds";refine⟨Qx _,λo a_=>?_⟩;have be:Zc ar (upd ar o (.lst [])):=cF a_;have gB:(upd ar o (.lst [])) o=some (.lst (([]:List Int).map V.int)):=Ze;have qY:H o=none:=iF bc a_;generalize upd ar o (.lst [])=a2 at*;have k9:=be _ _ gf;walk_at "rds";generalize Fq:(ls.getD i dB).start=st at*;refine WF (n:=st.toNat) (λj σ H'=>∃(xs:List Int)(a6:Option V),σ=[some (.ref p),some (.int (at_+j)),some (.ref dC),some (.ref r),some (.ref t),some (.ref o),a6]∧Zc ar H'∧H' o=some (.lst (xs.map V.int))∧xs.length=j∧t9 xs) ⟨[],a6,by simp,be,gB,rfl,by intro x al;cases al⟩ ?_ ?_
   ·rintro j σ a3 aU ⟨xs,b6,rfl,cp,jd,kO,ic⟩;have um:=(bc.trans cp).seq fH;have bh:(xs.map V.int).length<sizeLine:=ej (by rw[Qb];omega);walk_at "rds";rw[k4];have kl:at_+(j:Int)+1=at_+((j+1:Nat):Int):=by omega
    rw[kl];generalize cellX ns (at_+(j:Int))=m7 at*;have cH:(m7 % (2*100000000000000000000000000000)-100000000000000000000000000000*((0+(j:Int)) % 2)).natAbs≤10 ^ 31:=by
     rcases(by omega:(0+(j:Int)) % 2=0∨(0+(j:Int)) % 2=1) with z|z
     ·rw[z];omega
     ·rw[z];omega
    generalize m7 % (2*100000000000000000000000000000)-100000000000000000000000000000*((0+(j:Int)) % 2)=vv at*;refine⟨xs++ [vv],_,rfl,cp.new a_,by rw[Ze,QQ];rfl,by simp[kO],λx al=>?_⟩;rcases QD.mp al with z|z
    ·exact ic x z
    ·rw[Qm.mp z];exact cH
   ·rintro σ a3 ⟨xs,b6,rfl,cp,jd,kO,ic⟩;have q3:=cp _ _ fx;have f9:=gY.length;have q1:ys.length<sizeLine:=ej (by omega);walk_at "rds";have yX:o≠r:=λz=>by rw[z,fx] at a_;cases a_
    have Fs:Zc (hid ar r) (hid (upd a3 r (.lst (ys++ [.ref o]))) r):=λb w e=>by
     unfold hid at e⊢
     split at e
     ·cases e
     ·rename_i am;rw[if_neg am,bJ am];exact cp _ _ e
    have uo:hid (upd a3 r (.lst (ys++ [.ref o]))) r o=some (.lst (xs.map V.int)):=by
     unfold hid;rw[if_neg yX,bJ yX];exact jd
    refine⟨ys++ [.ref o],aR++ [xs],_,_,_,_,rfl,(bc.trans cp).new au,Ze,EV (gY.same Fs) uo,λv cH=>?_,by simp[fL],λj aU=>?_,λx al=>?_,by omega,by omega⟩
    ·rcases QD.mp cH with z|z
     ·exact hQ v z
     ·exact⟨o,Qm.mp z,qY⟩
    ·rcases Rw.mp aU with z|z
     ·have:=eR j z;rw[dh (by rw[Qg];omega),List.getElem_append_left (by omega)];rw[dh (by omega)] at this;exact this
     ·subst z;rw[Fq,dh (by rw[Qg];simp;omega),List.getElem_append_right (by omega)];simp only[fL,Nat.sub_self,List.getElem_cons_zero];omega
    ·rcases QD.mp al with z|z
     ·exact nA x z
     ·rw[Qm.mp z];exact ic
  ·rintro σ ar ⟨ys,aR,eE,eb,a6,at_,rfl,bc,fx,gY,hQ,fL,eR,nA,b0,b1⟩;walk_at "rds";exact q r ar ys aR au bc fx gY hQ (by omega) (λj aU=>eR j (by omega)) nA
end
def Ft{K:Frag}{mg:Str→Option Value}(T:Tp K mg):Sp:=λvs H Q _=>∃x:Str,vs=[.str x]∧x.length≤sizeLine∧∀H',Zc H H'→Q (.bl (gU x)) H'
noncomputable def letter (c:Nat):Bool:=decide (97≤c)&&decide (c≤122)
theorem yY(c d:Nat):decide ((⟨#[c]⟩:Str).cps.toList<(⟨#[d]⟩:Str).cps.toList)=decide (c<d):=by
 show decide ([c]< [d])=decide (c<d);have e:([c]< [d])↔c<d:=by
  constructor
  ·intro h;cases h with
   |rel h=>exact h
   |cons h=>cases h
  ·exact λh=> .rel h
 by_cases h:c<d
 ·rw[decide_eq_true h,decide_eq_true (e.mpr h)]
 ·rw[decide_eq_false h,decide_eq_false (λz=>h (e.mp z))]
theorem Fu:("a" :Str)=⟨#[97]⟩:=by decide+kernel
theorem Fv:("z" :Str)=⟨#[122]⟩:=by decide+kernel
theorem ZfH(x:Str):(((List.range x.cps.size).map λi=>letter (x.cps.getD i 0)).all id)=x.cps.toList.all letter:=by
 rw[List.all_map,Rf,Ra,Ra]
 constructor
 ·intro h c aG;obtain⟨i,hi,rfl⟩:=QJ aG;have eN:i<x.cps.size:=by simpa using hi
  have:=h i (QF.mpr eN);simpa[Array.getD,eN] using this
 ·intro h i hi;have eN:=QF.mp hi;have:=h x.cps[i] (by simp);simpa[Array.getD,eN] using this
theorem U5(x:Str):gU x=(decide (1≤x.length)&&decide (x.length≤8)&&x.cps.toList.all letter):=rfl
section
variable {P:Program}{w:World}{K:Frag}{mg:Str→Option Value}{base:Heap}
theorem Fw(T:Tp K mg):OkN P w base 1 T.x4 (Ft T):=by
 refine T.x4.F.okX Ed (λvs H Q E h=>?_) (λcw A outer s H vs Q E au h=>?_)
 ·obtain⟨x,rfl,_⟩:=h
  rfl
 ·have hu:=au.hu;obtain⟨x,rfl,al,q⟩:=h;refine⟨_,(bg (dM (gD (fW (K:=K) rfl (dj (l5 (K:=K) rfl) (by rfl) T.c Qr (ay (pv 0) (ay (kv (v:= .ty "str") (by rfl) T.cg PyProof.Rows.boot_str rfl) aH))) (λ_=>rfl))) (bq (c' WB)) d5)
     (bg (dM (PW.pt (h4 (dJ sh (dj (fF K) (by rfl) T.e Qn (ay (pv 0) aH)) Zg (da _)) (ip (dJ si (dj (fF K) (by rfl) T.e Qn (ay (pv 0) aH)) (lF (v:= .int 8) rfl T.ak ⟨_,rfl⟩) (da _))))) (bq (c' WB)) d5)
     (bq (c' (dj (qx (K:=K) rfl rfl) (by rfl) T.aY Rl (ay (s4 rfl (fg (x:="sign") (zs:=[]) (ix:=[]) (cq tz) ["thing"] rfl rfl (by decide+kernel)) (C0 (pv 0)) (λcl C s H fp=>⟨(cP (i:=0) (show(["sign"]:List Str).Nodup by decide+kernel) rfl (Or.inl rfl)),fR,(BW w1 w1 Yl (pv 0) Yl)⟩)) aH)))))),?_⟩
  try dsimp only[L2.cxX,L2.ZL,L2.Zl]
  walk_at "rds";refine Zbf (λc=>?_) (λc=>?_)
  ·have dZ:¬1≤x.length:=by simp at c;omega
   walk_at "rds";have e:gU x=false:=by rw[U5,decide_eq_false dZ];rfl
   rw[←e];exact q H (Zc.refl H)
  ·have dZ:1≤x.length:=by simp at c;omega
   walk_at "rds";refine Zbf (λd=>?_) (λd=>?_)
   ·have d':¬x.length≤8:=by simp at d;omega
    walk_at "rds";have e:gU x=false:=by rw[U5,decide_eq_false d',Bool.and_false];rfl
    rw[←e];exact q H (Zc.refl H)
   ·have d':x.length≤8:=by simp at d;omega
    have bL:x.cps.size<sizeLine:=ej (by have:x.cps.size=x.length:=rfl;omega);walk_at "rds";refine VW ZgE bL (λ_=>true) (λi=> .bl (letter (x.cps.getD i 0))) (λi H' cL hi aI k=>?_) (λi H' cL hi _ aI k=>?_) (λp H' a1 aI ai=>?_)
    ·walk_at "rds";exact k H' (Zc.refl H')
    ·walk_at "rds";rw[Fu,Fv,yY];generalize x.cps.getD i 0=cc at k⊢;refine Zbf (λz=>?_) (λz=>?_)
     ·walk_at "rds";have e:(!decide (122<cc))=letter cc:=by
       have fP:97≤cc:=by simpa using z
       unfold letter;rw[decide_eq_true fP,Bool.true_and]
       by_cases y:cc≤122
       ·rw[decide_eq_true y,decide_eq_false (by omega)];rfl
       ·rw[decide_eq_false y,decide_eq_true (by omega)];rfl
      rw[yY,e];exact k H' (Zc.refl H')
     ·have e:false=letter cc:=by
       have fP:¬97≤cc:=by simpa using z
       unfold letter;rw[decide_eq_false fP];rfl
      rw[e];exact k H' (Zc.refl H')
    ·have dX:H' p=some (.lst (((List.range x.cps.size).map λi=>letter (x.cps.getD i 0)).map V.bl)):=by
      rw[ai,Ql.mpr (by simp),Q2];rfl
     walk_at "rds";rw[ZfH];have e:x.cps.toList.all letter=gU x:=by rw[U5,decide_eq_true dZ,decide_eq_true d'];rfl
     rw[e];exact q H' aI
end
def yZ{K:Frag}{mg:Str→Option Value}(T:Tp K mg):Sp:=λvs H Q E=>∃(p:Addr)(x:Str)(ai:HM)(fp:List Addr),vs=[.ref p,.str x]∧dz T H p ai fp∧x.length≤sizeLine∧ai.names.length≤1000∧
 (gU x=false→∀H',Zc H H'→E (.ref T.bl) none H')∧(gU x=true→x∈ai.names→∀H',Zc H H'→E (.ref T.bp) none H')∧
 (gU x=true→x∉ai.names→30≤ai.names.length→∀H',Zc H H'→E (.ref T.ax) none H')∧
 (gU x=true→x∉ai.names→ai.names.length<30→∀(H':Hp)(cC:List Addr),dz T H' p ⟨ai.names++ [x],ai.belts⟩ cC→Zr fp H H'→ZV fp cC H→Q (.int ai.names.length) H')
theorem ZdG{K:Frag}{mg:Str→Option Value}{T:Tp K mg}{H:Hp}{Q:VK}{E:XK}{p:Addr}{x:Str}{ai:HM}{fp:List Addr}(h:dz T H p ai fp)(bL:gU x=true)(al:x∉ai.names)(dg:ai.names.length<30)
  (q:∀(H':Hp)(cC:List Addr),dz T H' p ⟨ai.names++ [x],ai.belts⟩ cC→Zr fp H H'→ZV fp cC H→Q (.int ai.names.length) H'):yZ T (.ref p::([.str x]++ [])) H Q E:=by
 have Fx:x.length≤sizeLine:=by
  have:x.length≤8:=by
   have e:=bL;unfold gU at e;simp only[fm,decide_eq_true_eq] at e;exact e.1.2
  exact QW (ej (by omega))
 exact⟨p,x,ai,fp,rfl,h,Fx,by omega,λz=>(by rw[bL] at z;cases z),λ_ z=>absurd z al,λ_ _ z=>absurd z (by omega),λ_ _ _=>q⟩
section
variable {P:Program}{w:World}{K:Frag}{mg:Str→Option Value}{base:Heap}
theorem Fy(T:Tp K mg):OkM P w mg base 2 T.x5 (yZ T):=by
 have hh:=T.a;have hj:=T.f;refine T.x5.F.okX ym (λvs H Q E h=>?_) (λcw A outer s H vs Q E au h=>?_)
 ·obtain⟨p,x,ai,fp,rfl,_⟩:=h
  rfl
 ·have hu:=au.hu;obtain⟨p,x,ai,fp,rfl,cu,al,bh,aV,a8,eP,q⟩:=h;obtain⟨ap,a,b,bs,rfl,aq,av,b_,cA,gZ,cY⟩:=id cu;have nB:p≠a:=hJ aq b_ (by intro z;cases z);have up:ap≠a:=hJ av b_ (by intro z;cases z);refine⟨_,(bg (dM (gD (fW (K:=K) rfl (dq T.x4 (Fw T) au cT (ay (pv 1) aH)) (λ_=>rfl))) (bq (hz T.aN.g T.aN.e Qi rfl (ay Yl aH))) d5)
     (bg (dM (dJ (C9 hu) (pv 1) (ek (K:=K) rfl (pv 0) rfl) (by with_unfolding_all rfl)) (bq (hz T.a7.g T.a7.e Qi rfl (ay Yl aH))) d5)
     (bg (dM (dJ mX (dj ZfM (by rfl) T.e Qn (ay (ek (K:=K) rfl (pv 0) rfl) aH)) (lF (v:= .int 30) rfl T.aC ⟨_,rfl⟩) (da _)) (bq (hz T.J.g T.J.e Qi rfl (ay Yl aH))) d5)
     (bg (cN (i:=2) ym.nd rfl (Or.inl rfl) (dj ZfM (by rfl) T.e Qn (ay (ek (K:=K) rfl (pv 0) rfl) aH)))
     (bg (mV (pv 2) (oi (ek (K:=K) rfl (pv 0) rfl) (pv 1) (C_ hu)))
     (bq (c' (pv 2)))))))),?_⟩
  try dsimp only[L2.cxX,L2.ZL,L2.Zl]
  walk_at "rds";refine⟨x,rfl,al,λao je=>?_⟩;have g1:=je _ _ aq;have g3:=je _ _ b_;have o7:(numsOf ai.names).length<sizeLine:=ej (by rw[Vv];exact bh);walk_at "rds";cases bL:gU x with
  |false=>
   walk_at "rds";exact aV bL ao je
  |true=>
   walk_at "rds";rw[ZcU];refine Zbf (λc=>?_) (λc=>?_)
   ·walk_at "rds";exact a8 bL (of_decide_eq_true c) ao je
   ·have dZ:x∉ai.names:=λz=>c (decide_eq_true z);walk_at "rds";rw[Vv];refine Zbf (λd=>?_) (λd=>?_)
    ·have d':30≤ai.names.length:=by simp at d;omega
     walk_at "rds";exact eP bL dZ d' ao je
    ·have d':ai.names.length<30:=by simp at d;omega
     walk_at "rds";rw[Vv,EM dZ];have db:Zr [p,ap,a,b] H (upd ao a (.dK (numsOf (ai.names++ [x])))):=je.frame.trans (fu (by simp) g3 (by intro _ z;cases z));refine q bL dZ d' _ [p,ap,a,b] ⟨ap,a,b,bs,rfl,?_,?_,Ze,?_,gZ,cY.keep db.tups⟩ db ZV.refl
     ·rw[bJ nB];exact g1
     ·rw[bJ up];exact je _ _ av
     ·rw[bJ gZ.symm];exact je _ _ cA
end
def V9{K:Frag}{mg:Str→Option Value}(T:Tp K mg):Sp:=λvs H Q _=>∃i:Int,vs=[.int i]∧Q (.bl true) H
theorem ZeR{K:Frag}{mg:Str→Option Value}{T:Tp K mg}{H:Hp}{Q:VK}{E:XK}{i:Int}(q:Q (.bl true) H):V9 T ([.int i]++ []) H Q E:=⟨i,rfl,q⟩
local macro_rules| `(tactic|walk_at "rd")=>`(tactic|first|((with_reducible show Nm.V9 _ _ _ _ _);with_reducible refine Nm.ZeR ?_)|fail "none here")
section
variable {P:Program}{w:World}{K:Frag}{mg:Str→Option Value}{base:Heap}
theorem Fz(T:Tp K mg):OkN P w base 1 T.x6 (V9 T):=by
 refine T.x6.F.okX Ee (λvs H Q E h=>?_) (λcw A outer s H vs Q E au h=>?_)
 ·obtain⟨i,rfl,_⟩:=h
  rfl
 ·have hu:=au.hu;obtain⟨i,rfl,q⟩:=h;refine⟨_,(bq (c' (p' (dj (l5 (K:=K) rfl) (by rfl) T.c Qr (ay (pv 0) (ay (kv (v:= .ty "int") (by rfl) T.aZ Rm rfl) aH))) (p_ (BD (dj (l5 (K:=K) rfl) (by rfl) T.c Qr (ay (pv 0) (ay (kv (v:= .ty "bool") (by rfl) T.bk PyProof.Rows.boot_bool rfl) aH)))))))),?_⟩
  try dsimp only[L2.cxX,L2.ZL,L2.Zl]
  walk_at "rds";exact q
end
def UG{K:Frag}{mg:Str→Option Value}(T:Tp K mg):Sp:=λvs H Q _=>∃i l:Int,vs=[.int i,.int l]∧Q (.bl (decide (l≤i))) H
theorem Zfn{K:Frag}{mg:Str→Option Value}{T:Tp K mg}{H:Hp}{Q:VK}{E:XK}{i l:Int}(q:Q (.bl (decide (l≤i))) H):UG T ([.int i,.int l]++ []) H Q E:=⟨i,l,rfl,q⟩
local macro_rules| `(tactic|walk_at "rd")=>`(tactic|first|((with_reducible show Nm.UG _ _ _ _ _);with_reducible refine Nm.Zfn ?_)|fail "none here")
section
variable {P:Program}{w:World}{K:Frag}{mg:Str→Option Value}{base:Heap}
theorem q4(T:Tp K mg):OkN P w base 2 T.x7 (UG T):=by
 refine T.x7.F.okX Ef (λvs H Q E h=>?_) (λcw A outer s H vs Q E au h=>?_)
 ·obtain⟨i,l,rfl,_⟩:=h
  rfl
 ·have hu:=au.hu;obtain⟨i,l,rfl,q⟩:=h;refine⟨_,(bq (c' (p' (dq T.x6 (Fz T) au cT (ay (pv 0) aH)) (p_ (jt mX (pv 0) (pv 1) (da _)))))),?_⟩
  try dsimp only[L2.cxX,L2.ZL,L2.Zl]
  walk_at "rds";exact q
end
def FA{K:Frag}{mg:Str→Option Value}(T:Tp K mg):Sp:=λvs H Q E=>∃i:Int,vs=[.int i]∧(¬0≤i→E (.ref T.aQ) none H)∧(0≤i→Q .non H)
section
variable {P:Program}{w:World}{K:Frag}{mg:Str→Option Value}{base:Heap}
theorem FC(T:Tp K mg):OkN P w base 3 T.x8 (FA T):=by
 refine T.x8.F.okX Eg (λvs H Q E h=>?_) (λcw A outer s H vs Q E au h=>?_)
 ·obtain⟨i,rfl,_⟩:=h
  rfl
 ·have hu:=au.hu;obtain⟨i,rfl,aV,q⟩:=h;refine⟨_,(bq (dM (gD (fW (K:=K) rfl (dq T.x7 (q4 T) au cT (ay (pv 0) (ay Zg aH))) (λ_=>rfl))) (bq (hz T.T.g T.T.e Qi rfl (ay Yl aH))) d5)),?_⟩
  try dsimp only[L2.cxX,L2.ZL,L2.Zl]
  walk_at "rds"
  by_cases c:0≤i
  ·rw[decide_eq_true c];walk_at "rds";exact q c
  ·rw[decide_eq_false c];walk_at "rds";exact aV c
end
def WD{K:Frag}{mg:Str→Option Value}(T:Tp K mg):Sp:=λvs H Q _=>∃i b:Int,vs=[.int i,.int b]∧Q (.bl (decide (0≤i∧i<b))) H
theorem U4{K:Frag}{mg:Str→Option Value}{T:Tp K mg}{H:Hp}{Q:VK}{E:XK}{i b:Int}(q:Q (.bl (decide (0≤i∧i<b))) H):WD T ([.int i,.int b]++ []) H Q E:=⟨i,b,rfl,q⟩
local macro_rules| `(tactic|walk_at "rd")=>`(tactic|first|((with_reducible show Nm.WD _ _ _ _ _);with_reducible refine Nm.U4 ?_)|fail "none here")
section
variable {P:Program}{w:World}{K:Frag}{mg:Str→Option Value}{base:Heap}
theorem q5(T:Tp K mg):OkN P w base 3 T.x9 (WD T):=by
 refine T.x9.F.okX Eh (λvs H Q E h=>?_) (λcw A outer s H vs Q E au h=>?_)
 ·obtain⟨i,b,rfl,_⟩:=h
  rfl
 ·have hu:=au.hu;obtain⟨i,b,rfl,q⟩:=h;refine⟨_,(bq (c' (p' (dq T.x7 (q4 T) au cT (ay (pv 0) (ay Zg aH))) (p_ (jt sh (pv 0) (pv 1) (da _)))))),?_⟩
  try dsimp only[L2.cxX,L2.ZL,L2.Zl]
  walk_at "rds";refine Zbf (λc=>?_) (λc=>?_)
  ·have dZ:0≤i:=of_decide_eq_true c;walk_at "rds";have e:decide (i<b)=decide (0≤i∧i<b):=by rw[decide_eq_decide];exact⟨λz=>⟨dZ,z⟩,λz=>z.2⟩
   rw[e];exact q
  ·have dZ:¬0≤i:=λz=>c (decide_eq_true z);walk_at "rds";have e:false=decide (0≤i∧i<b):=(decide_eq_false (λz=>dZ z.1)).symm;rw[e];exact q
end
def FD{K:Frag}{mg:Str→Option Value}(T:Tp K mg):Sp:=λvs H Q E=>∃(p:Addr)(i:Int)(ai:HM)(fp:List Addr),vs=[.ref p,.int i]∧dz T H p ai fp∧
 (¬(0≤i∧i<ai.names.length)→E (.ref T.l) none H)∧(0≤i→i<ai.names.length→Q .non H)
section
variable {P:Program}{w:World}{K:Frag}{mg:Str→Option Value}{base:Heap}
theorem q6(T:Tp K mg):OkM P w mg base 4 T.bf (FD T):=by
 have hh:=T.a;have hj:=T.f;refine T.bf.F.okX Ei (λvs H Q E h=>?_) (λcw A outer s H vs Q E au h=>?_)
 ·obtain⟨p,i,ai,fp,rfl,_⟩:=h
  rfl
 ·have hu:=au.hu;obtain⟨p,i,ai,fp,rfl,cu,aV,q⟩:=h;obtain⟨ap,a,b,bs,rfl,aq,av,b_,cA,gZ,cY⟩:=id cu;refine⟨_,(bq (dM (gD (fW (K:=K) rfl (dq T.x9 (q5 T) au cT (ay (pv 1) (ay (dj ZfM (by rfl) T.e Qn (ay (ek (K:=K) rfl (pv 0) rfl) aH)) aH))) (λ_=>rfl))) (bq (hz T.I.g T.I.e Qi rfl (ay Yl aH))) d5)),?_⟩
  try dsimp only[L2.cxX,L2.ZL,L2.Zl]
  walk_at "rds";rw[Vv]
  by_cases c:0≤i∧i<ai.names.length
  ·rw[decide_eq_true c];walk_at "rds";exact q c.1 c.2
  ·rw[decide_eq_false c];walk_at "rds";exact aV c
end
def FE{K:Frag}{mg:Str→Option Value}(T:Tp K mg):Sp:=λvs H Q E=>∃(p u:Addr)(b:B5)(ai:HM)(fp:List Addr),vs=[.ref p,.ref u]∧dz T H p ai fp∧H u=some (.tup b.v)∧ai.belts.length≤1000∧
 ∀(H':Hp)(cC:List Addr),dz T H' p ⟨ai.names,ai.belts++ [b]⟩ cC→Zr fp H H'→ZV fp cC H→Q (.int ai.belts.length) H'
section
variable {P:Program}{w:World}{K:Frag}{mg:Str→Option Value}{base:Heap}
theorem FF(T:Tp K mg):OkM P w mg base 1 T.bM (FE T):=by
 have hh:=T.a;have hj:=T.f;refine T.bM.F.okX Ej (λvs H Q E h=>?_) (λcw A outer s H vs Q E au h=>?_)
 ·obtain⟨p,u,b,ai,fp,rfl,_⟩:=h
  rfl
 ·have hu:=au.hu;obtain⟨p,u,b,ai,fp,rfl,cu,iB,bh,q⟩:=h;obtain⟨ap,a,bb,bs,rfl,aq,av,b_,cA,gZ,cY⟩:=id cu;have q7:p≠bb:=hJ aq cA (by intro z;cases z);have uq:ap≠bb:=hJ av cA (by intro z;cases z);have N':u≠bb:=hJ iB cA (by intro z;cases z);have o7:bs.length<sizeLine:=ej (by rw[cY.length];exact bh);have y0:=cY.length;refine⟨_,(bg (eK (hA (K:=K) rfl Qo Qz QA hS (ek (K:=K) rfl (pv 0) rfl) (ay (pv 1) aH)))
     (bq (c' (ck lM (dj (fF K) (by rfl) T.e Qn (ay (ek (K:=K) rfl (pv 0) rfl) aH)) Zg)))),?_⟩
  try dsimp only[L2.cxX,L2.ZL,L2.Zl]
  walk_at "rds";have k1:(upd H bb (.lst (bs++ [.ref u]))) p=some (.ins T.B ap [("numbers",.ref a),("rows",.ref bb)]):=by rw[bJ q7];exact aq
  have q8:(upd H bb (.lst (bs++ [.ref u]))) bb=some (.lst (bs++ [.ref u])):=Ze;walk_at "rds";have ia:((bs++ [V.ref u]).length:Int)-1=ai.belts.length:=by simp[y0]
  rw[ia];have db:Zr [p,ap,a,bb] H (upd H bb (.lst (bs++ [.ref u]))):=fu (by simp) cA (by intro _ z;cases z);refine q _ [p,ap,a,bb] ⟨ap,a,bb,_,rfl,k1,?_,?_,q8,gZ,(cY.keep db.tups).snoc (db.tups _ _ iB)⟩ db ZV.refl
  ·rw[bJ uq];exact av
  ·rw[bJ gZ];exact b_
end
def ur{K:Frag}{mg:Str→Option Value}(T:Tp K mg):Sp:=λvs H Q E=>∃(p:Addr)(b:B5)(ai:HM)(fp:List Addr),vs= .ref p::b.v∧dz T H p ai fp∧ai.belts.length≤1000∧
 (¬(0≤b.giver∧b.giver<ai.names.length∧0≤b.taker∧b.taker<ai.names.length)→∀H',Zc H H'→E (.ref T.l) none H')∧
 ((0≤b.giver∧b.giver<ai.names.length∧0≤b.taker∧b.taker<ai.names.length)→¬(1≤b.give∧1≤b.take∧0≤b.start)→∀H',Zc H H'→E (.ref T.aQ) none H')∧
 ((0≤b.giver∧b.giver<ai.names.length∧0≤b.taker∧b.taker<ai.names.length)→(1≤b.give∧1≤b.take∧0≤b.start)→60≤ai.belts.length→∀H',Zc H H'→E (.ref T.ax) none H')∧
 ((0≤b.giver∧b.giver<ai.names.length∧0≤b.taker∧b.taker<ai.names.length)→(1≤b.give∧1≤b.take∧0≤b.start)→ai.belts.length<60→∀(H':Hp)(cC:List Addr),dz T H' p ⟨ai.names,ai.belts++ [b]⟩ cC→Zr fp H H'→ZV fp cC H→Q (.int ai.belts.length) H')
theorem Zd5{K:Frag}{mg:Str→Option Value}{T:Tp K mg}{H:Hp}{Q:VK}{E:XK}{p:Addr}{g t gg dI st:Int}{ai:HM}{fp:List Addr}(h:dz T H p ai fp)
  (aq:0≤g) (av:g<ai.names.length) (b_:0≤t) (cA:t<ai.names.length) (dt:1≤gg) (cY:1≤dI) (fZ:0≤st) (dg:ai.belts.length<60)
  (q:∀(H':Hp)(cC:List Addr),dz T H' p ⟨ai.names,ai.belts++ [⟨g,t,gg,dI,st⟩]⟩ cC→Zr fp H H'→ZV fp cC H→Q (.int ai.belts.length) H'):ur T [.ref p,.int g,.int t,.int gg,.int dI,.int st] H Q E:=
 ⟨p,⟨g,t,gg,dI,st⟩,ai,fp,rfl,h,by omega,λz=>absurd ⟨aq,av,b_,cA⟩ z,λ_ z=>absurd ⟨dt,cY,fZ⟩ z,λ_ _ z=>absurd z (by omega),λ_ _ _=>q⟩
section
variable {P:Program}{w:World}{K:Frag}{mg:Str→Option Value}{base:Heap}
theorem FG(T:Tp K mg):Yo P w K mg base (CXX P w) 5 T.ae T.af ["self","giver","taker","give","take","start"] (ur T):=by
 have hh:=T.a;have hj:=T.f;refine T.aK.okX Ek (λvs H Q E h=>?_) (λcw A outer s H vs Q E au h=>?_)
 ·obtain⟨p,b,ai,fp,rfl,_⟩:=h
  rfl
 ·have hu:=au.hu;obtain⟨p,b,ai,fp,rfl,cu,bh,aV,a8,eP,q⟩:=h;obtain⟨ap,a,bb,bs,rfl,aq,av,b_,cA,gZ,cY⟩:=id cu;obtain⟨g,t,gg,dI,st⟩:=b;have y0:=cY.length;refine⟨_,(bg (eK (hc (pv 0) T.a T.bf (q6 T) au cT (ay (pv 1) aH)))
     (bg (eK (hc (pv 0) T.a T.bf (q6 T) au cT (ay (pv 2) aH)))
     (bg (dM (PW.pt (h4 (gD (fW (K:=K) rfl (dq T.x7 (q4 T) au cT (ay (pv 3) (ay Zg aH))) (λ_=>rfl))) (ip (gD (fW (K:=K) rfl (dq T.x7 (q4 T) au cT (ay (pv 4) (ay Zg aH))) (λ_=>rfl)))))) (bq (hz T.T.g T.T.e Qi rfl (ay Yl aH))) d5)
     (bg (eK (dq T.x8 (FC T) au cT (ay (pv 5) aH)))
     (bg (dM (dJ mX (dj (fF K) (by rfl) T.e Qn (ay (ek (K:=K) rfl (pv 0) rfl) aH)) (lF (v:= .int 60) rfl T.aD ⟨_,rfl⟩) (da _)) (bq (hz T.J.g T.J.e Qi rfl (ay Yl aH))) d5)
     (bq (c' (hc (pv 0) T.a T.bM (FF T) au cT (ay (g8 (ay (pv 1) (ay (pv 2) (ay (pv 3) (ay (pv 4) (ay (pv 5) aH)))))) aH))))))))),?_⟩
  try dsimp only[L2.cxX,L2.ZL,L2.Zl]
  dsimp only[B5.v] at*;walk_at "rds";refine⟨p,g,ai,_,rfl,cu,λz=>aV (by omega) H (Zc.refl H),λiy g1=>?_⟩;walk_at "rds";refine⟨p,t,ai,_,rfl,cu,λz=>aV (by omega) H (Zc.refl H),λiK jH=>?_⟩;have ws:0≤g∧g<ai.names.length∧0≤t∧t<ai.names.length:=⟨iy,g1,iK,jH⟩;walk_at "rds"
  by_cases c:1≤gg
  ·rw[decide_eq_true c];walk_at "rds"
   by_cases d:1≤dI
   ·rw[decide_eq_true d];walk_at "rds";refine⟨st,rfl,λz=>a8 ws (by omega) H (Zc.refl H),λf=>?_⟩;walk_at "rds";refine Rd.ifD (λl=>?_) (λl=>?_)
    ·walk_at "rds";exact eP ws (by omega) (by omega) H (Zc.refl H)
    walk_at "rds";refine⟨by show 5≤sizeLine;decide,λu iB=>?_⟩;have sn:Zc H (upd H u (.tup [.int g,.int t,.int gg,.int dI,.int st])):=cF iB;have nC:=cu.same sn;walk_at "rds";refine⟨p,u,⟨g,t,gg,dI,st⟩,ai,_,rfl,nC,Ze,bh,λH' cC hC db gr=>?_⟩;refine q ws (by omega) (by omega) H' cC hC (sn.frame.trans db) (λx al=>?_);rcases gr x al with z|z
    ·exact .inl z
    ·refine .inr ?_;cases e:H x with
     |none=>rfl
     |some o=>rw[sn _ _ e] at z;cases z
   ·rw[decide_eq_false d];walk_at "rds";exact a8 ws (by omega) H (Zc.refl H)
  ·rw[decide_eq_false c];walk_at "rds";exact a8 ws (by omega) H (Zc.refl H)
end
def y1{K:Frag}{mg:Str→Option Value}(T:Tp K mg):Sp:=λvs H Q _=>∃p ap:Addr,vs=[.ref p]∧H p=some (.ins T.B ap [])∧H ap=some (.own p)∧
 ∀(H':Hp)(fp:List Addr),dz T H' p ⟨[],[]⟩ fp→(∀x∈fp,x=p∨x=ap∨H x=none)→(∀b o,H b=some o→b≠p→H' b=some o)→Q .non H'
theorem ZdC{K:Frag}{mg:Str→Option Value}{T:Tp K mg}{H:Hp}{Q:Addr→Hp→Prop}{E:XK}
  (q:∀(p:Addr)(fp:List Addr)(H':Hp),dz T H' p ⟨[],[]⟩ fp→(∀x∈fp,H x=none)→Zc H H'→Q p H'):
  ∀x ap,H x=none→H ap=none→ap≠x→y1 T (.ref x::([]++ [])) (upd (upd H ap (.own x)) x (.ins T.B ap [])) (λv ar=>v= .non∧Q x ar) E:=by
 intro x ap al eW ne;refine⟨x,ap,rfl,Ze,by rw[bJ ne,Ze],λH' fp cu aX aA=>⟨rfl,q x fp H' cu (λy cx=>?_) (λb o e=>aA b o ?_ (dG e al))⟩⟩
 ·rcases aX y cx with rfl|rfl|h
  ·exact al
  ·exact eW
  ·by_cases aq:y=x
   ·rw[aq];exact al
   ·by_cases av:y=ap
    ·rw[av];exact eW
    ·rw[bJ aq,bJ av] at h;exact h
 ·rw[bJ (dG e al),bJ (dG e eW)];exact e
local macro_rules| `(tactic|walk_at "rd")=>`(tactic|first|with_reducible refine Nm.ZdC ?_|fail "none here")
section
variable {P:Program}{w:World}{K:Frag}{mg:Str→Option Value}{base:Heap}
theorem FH(T:Tp K mg):OkI P w mg base 1 T.bN (y1 T):=by
 have hh:=T.a;have hj:=T.f;refine T.bN.F.okX El (λvs H Q E h=>?_) (λcw A outer s H vs Q E au h=>?_)
 ·obtain⟨p,ap,rfl,_⟩:=h
  rfl
 ·have hu:=au.hu;obtain⟨p,ap,rfl,a1,eW,q⟩:=h;refine⟨_,(bg (h_ (K:=K) rfl (pv 0) CH rfl)
     (bq (h_ (K:=K) rfl (pv 0) (f6 aH) rfl))),?_⟩
  try dsimp only[L2.cxX,L2.ZL,L2.Zl]
  walk_at "rds";intro a aS;have nB:p≠a:=dG a1 aS;have up:ap≠a:=dG eW aS;have nD:p≠ap:=hJ a1 eW (by intro z;cases z);have eV:(upd H a (.dK [])) p=some (.ins T.B ap []):=by rw[bJ nB];exact a1
  walk_at "rds";refine⟨Qx _,λb am=>?_⟩;have jI:H b=none:=by
   by_cases aq:b=p
   ·rw[aq,Ze] at am;cases am
   ·by_cases av:b=a
    ·rw[av];exact aS
    ·rw[bJ aq,bJ av] at am;exact am
  have q7:p≠b:=dG a1 jI;have uq:ap≠b:=dG eW jI;have gZ:a≠b:=by
   intro z;rw[←z,bJ nB.symm,Ze] at am;cases am
  have nE:(upd (upd (upd H a (.dK [])) p (.ins T.B ap [("numbers",.ref a)])) b (.lst [])) p=some (.ins T.B ap [("numbers",.ref a)]):=by rw[bJ q7,Ze]
  walk_at "rds";refine q _ [p,ap,a,b] ⟨ap,a,b,[],rfl,Ze,?_,?_,?_,gZ,.nil⟩ (λx al=>?_) (λc o e aG=>?_)
  ·rw[bJ nD.symm,bJ uq,bJ nD.symm,bJ up];exact eW
  ·rw[bJ nB.symm,bJ gZ,bJ nB.symm,Ze];rfl
  ·rw[bJ q7.symm,Ze]
  ·simp only[Qe,QR,or_false] at al;rcases al with rfl|rfl|rfl|rfl
   ·exact .inl rfl
   ·exact .inr (.inl rfl)
   ·exact .inr (.inr aS)
   ·exact .inr (.inr jI)
  ·rw[bJ aG,bJ (dG e jI),bJ aG,bJ (dG e aS)];exact e
end
def FI{K:Frag}{mg:Str→Option Value}(T:Tp K mg):Sp:=λvs H Q _=>∃(ff dC:Addr)(dw:List Str)(bs:List V)(ls:List B5),vs=[.ref ff,.ref dC]∧SqL K H ff (dw.map V.str)∧(∀n∈dw,gU n=true)∧dw.Nodup∧0<dw.length∧dw.length≤30∧H dC=some (.lst bs)∧fj H bs ls∧(∀l∈ls,Bel dw.length l)∧ls.length≤60∧
 ∀(p:Addr)(fp:List Addr)(H':Hp),dz T H' p ⟨dw,ls⟩ fp→(∀x∈fp,H x=none)→Zc H H'→Q (.ref p) H'
section
variable {P:Program}{w:World}{K:Frag}{mg:Str→Option Value}{base:Heap}
theorem FJ(T:Tp K mg):OkN P w base 6 T.bO (FI T):=by
 have FK:Yo P w K mg base (CXX P w) 5 T.ae T.af ["self","giver","taker","give","take","start"] (ur T):=(FG T).mono (by decide);have hh:=T.a;have hj:=T.f;refine T.bO.F.okX kS (λvs H Q E h=>?_) (λcw A outer s H vs Q E au h=>?_)
 ·obtain⟨ff,dC,dw,bs,ls,rfl,_⟩:=h
  rfl
 ·have hu:=au.hu;obtain⟨ff,dC,dw,bs,ls,rfl,q9,k_,FL,y2,eS,gc,du,FN,uh,q⟩:=h;have ie:=du.length;refine⟨_,(bg (cN (i:=2) kS.nd rfl (Or.inl rfl) (C8 T.bN (FH T) au T.bt cT))
     (bg (fz PassesOwn.leaving rfl (fh (K:=K) rfl (pv 0)) (cP (i:=3) kS.nd rfl (Or.inl rfl)) (bq (eK (hc (pv 2) T.a T.x5 (Fy T) au cT (ay (pv 3) aH)))))
     (bg (fz PassesOwn.leaving rfl (fh (K:=K) rfl (pv 1)) (gs (K:=K) (n:=5) rfl rfl (d0 (cP (i:=4) kS.nd rfl (Or.inl rfl)) (d0 (cP (i:=5) kS.nd rfl (Or.inl rfl)) (d0 (cP (i:=6) kS.nd rfl (Or.inl rfl)) (d0 (cP (i:=7) kS.nd rfl (Or.inl rfl)) (d0 (cP (i:=8) kS.nd rfl (Or.inl rfl)) gj)))))) (bq (eK (wy (pv 2) T.a T.aJ FK au T.aL .nil cT (ay (pv 4) (ay (pv 5) (ay (pv 6) (ay (pv 7) (ay (pv 8) aH)))))))))
     (bq (c' (pv 2)))))),?_⟩
  try dsimp only[L2.cxX,L2.ZL,L2.Zl]
  walk_at "rds";intro a1 fp a3 cu aX aI;have Oa:=aI.seq q9;walk_at "rds";refine Ym (e7 q9) (λi σ H'=>∃cC k0,σ=[some (.ref ff),some (.ref dC),some (.ref a1),k0,none,none,none,none,none]∧dz T H' a1 ⟨dw.take i,[]⟩ cC∧Zc H H'∧∀x∈cC,H x=none) ⟨fp,_,rfl,cu,aI,aX⟩ (λi σ H' ⟨_,_,_,_,s,_⟩=>s) ?_ ?_
  ·rintro i σ H' hi ⟨cC,k0,rfl,nC,s',ec⟩;have eG:i<dw.length:=by rw[Qb] at hi;exact hi
   have fb:(dw.map V.str).getD i .non= .str dw[i]:=by simp[List.getD,eG]
   rw[fb];walk_at "rds";have sD:dw[i]∉dw.take i:=by
    have av:=FL;rw[←RI (i+1) dw,Qt eG] at av;exact λz=>(List.nodup_append.mp (List.nodup_append.mp av).1).2.2 _ z _ (by simp) rfl
   refine ZdG nC (k_ _ (Qf eG)) sD (by simp;omega) (λar kX hC db gr=>?_);obtain⟨bc,eD⟩:=Zbq s' ec db gr;refine⟨kX,_,rfl,?_,bc,eD⟩;rw[Qt eG];exact hC
  ·rintro σ H' ⟨cC,k0,rfl,nC,s',ec⟩;rw[Qb,Q4] at nC;have iu:=s' _ _ gc;walk_at "rds";refine Ym (e7 (SqL.of gc)) (λi σ H'=>∃(cC:List Addr)(dk dm d4 eE eb:Option V),σ=[some (.ref ff),some (.ref dC),some (.ref a1),k0,dk,dm,d4,eE,eb]∧dz T H' a1 ⟨dw,ls.take i⟩ cC∧Zc H H'∧∀x∈cC,H x=none)
    ⟨cC,_,_,_,_,_,rfl,nC,s',ec⟩ (λi σ H' ⟨_,_,_,_,_,_,_,_,s,_⟩=>s) ?_ ?_
   ·rintro i σ a3 hi ⟨y3,dk,dm,d4,eE,eb,rfl,nF,cp,o8⟩;have eG:i<ls.length:=by omega
    obtain⟨t,hG,gf⟩:=du.at (Qa eG);have eB:bs.getD i .non= .ref t:=by simp[List.getD,hG]
    rw[eB];have a4:=FN _ (Qf eG);have cZ:=Qt eG;have mf:=cp _ _ gf;generalize ls[i]=l at*;obtain⟨cy,cU,hp,iS⟩:=a4.rg;obtain⟨eT,la⟩:=a4.sz;dsimp only[B5.v] at mf;refine Rd.Wu (.of mf) rfl ?_;walk_at "rds";refine Zd5 nF cy (by simp;omega) hp (by simp;omega) eT la a4.st.1 (by simp;omega) (λbH FO y4 hP FP=>?_);obtain⟨cK,FQ⟩:=Zbq cp o8 hP FP;refine⟨FO,_,_,_,_,_,rfl,?_,cK,FQ⟩;rw[cZ];exact y4
   ·rintro σ a3 ⟨y3,dk,dm,d4,eE,eb,rfl,nF,cp,o8⟩;rw[ie,Q4] at nF;walk_at "rds";exact q a1 y3 a3 nF o8 cp
end
noncomputable def kC {K:Frag} {mg:Str→Option Value} (T:Tp K mg):Nat→Addr
 |0=>T.t
 |1=>T.r
 |2=>T.l
 |_=>T.S
def FR{K:Frag}{mg:Str→Option Value}(T:Tp K mg)(ea:Addr):Sp:=λvs H Q _=>∃(i:Nat),vs=[.ref ea]∧i<4∧H ea=some (fv ea (kC T i))∧∀H',Zc H H'→Q (.int i) H'
section
variable {P:Program}{w:World}{K:Frag}{mg:Str→Option Value}{base:Heap}
theorem y5(T:Tp K mg):OkH P w base 1 T.bu (FR T):=by
 refine T.bu.F.okH yn (λea vs H Q E h=>?_) (λea cw A outer s H vs Q E au h=>?_)
 ·obtain⟨i,rfl,_⟩:=h
  rfl
 ·have hu:=au.hu;obtain⟨i,rfl,hi,fG,q⟩:=h;have Ob:=T.bb;have Oc:=T.aM;have Od:=T.ba;have Oe:=T.bm;have Of:=T.X;have Og:=T.N;have Oh:=T.Y;have Oi:=T.ad;have Oj:=T.D;have Ol:=T.O;have Om:=T.E;have On:=T.P;have Oo:=T.R;have Op:=T.y;have Oq:=T.U;have Ot:=T.M;have Ou:=T.V;have Ov:=T.aa;have Ow:=T.C;have Ox:=T.ab;have Oy:=T.Q;have Oz:=T.ac;have OA:=T.aj;have OB:=T.H;refine⟨_,(bg (cN (i:=1) yn.nd rfl (Or.inl rfl) (f6 (ay (dj (o4 (K:=K) rfl) (by rfl) T.c Qr (ay (pv 0) (ay (lF (v:= .ref T.t) rfl T.u.m rfl) aH))) (ay (dj (o4 (K:=K) rfl) (by rfl) T.c Qr (ay (pv 0) (ay (lF (v:= .ref T.r) rfl T.x.m rfl) aH))) (ay (dj (o4 (K:=K) rfl) (by rfl) T.c Qr (ay (pv 0) (ay (lF (v:= .ref T.l) rfl T.I.m rfl) aH))) (ay (dj (o4 (K:=K) rfl) (by rfl) T.c Qr (ay (pv 0) (ay (lF (v:= .ref T.S) rfl T.aF.m rfl) aH))) aH))))))
     (bg (dM (PW.pt (h4 (dJ (hW (K:=K) rfl hu) (dj (DV (K:=K) (ea:=ea) rfl au.hd) (by rfl) T.Z Q1 (ay (DT (ea:=ea) au.hd (fg (x:="_law_one") (zs:=[]) (ix:=[]) (cq tA) ["_law_e","_law_some"] rfl rfl (by decide+kernel)) (DS (K:=K) rfl (pv 1)) (λcl C s H fp=>⟨(cP (i:=0) (show(["_law_one"]:List Str).Nodup by decide+kernel) rfl (Or.inl rfl)),fR,(gP wr (by rfl) T.aZ Rm (ay (pv 0) aH))⟩)) aH)) Zg (da _)) (ip (gD (fW (K:=K) rfl (dj (o4 (K:=K) rfl) (by rfl) T.c Qr (ay (pv 0) (ay (kv (v:= .ty "ValueError") (by rfl) T.aw (by first|rfl|decide+kernel) rfl) aH))) (λ_=>rfl)))))) (bq (c' (qa qb Zg))) d5)
     (bq (c' (hA (K:=K) rfl Qo PySem.F.slot_list_index PySem.F.type_list_index D9 (pv 1) (ay WB aH)))))),?_⟩
  try dsimp only[L2.cxH,L2.cxX,L2.ZL,L2.Zl]
  match i,hi with
  |0,_=>
   replace fG:H ea=some (fv ea T.t):=fG;walk_at "rds";refine⟨by show 4≤sizeLine;decide,λu eF=>?_⟩;have aB:Zc H (upd H u (.lst [V.bl true,V.bl false,V.bl false,V.bl false])):=cF eF;have eU:(upd H u (.lst [V.bl true,V.bl false,V.bl false,V.bl false])) u=some (.lst (([true,false,false,false]:List Bool).map V.bl)):=Ze;generalize upd H u (.lst [V.bl true,V.bl false,V.bl false,V.bl false])=ao at*;have jf:=aB _ _ fG;walk_at "rds";refine Rd.kinds (bs:=([true,false,false,false]:List Bool)) rfl eU jf (by show 4<sizeLine;decide) (λb H' cL k=>?_) λar aI=>?_
   ·walk_at "rds";exact .inr ⟨_,rfl,k⟩
   ·have ut:=aI _ _ jf;have gh:=aI _ _ eU;walk_at "rds";refine Rd.Zbw (j:=0) gh rfl (by decide) ?_;exact q ar (aB.trans aI)
  |1,_=>
   replace fG:H ea=some (fv ea T.r):=fG;walk_at "rds";refine⟨by show 4≤sizeLine;decide,λu eF=>?_⟩;have aB:Zc H (upd H u (.lst [V.bl false,V.bl true,V.bl false,V.bl false])):=cF eF;have eU:(upd H u (.lst [V.bl false,V.bl true,V.bl false,V.bl false])) u=some (.lst (([false,true,false,false]:List Bool).map V.bl)):=Ze;generalize upd H u (.lst [V.bl false,V.bl true,V.bl false,V.bl false])=ao at*;have jf:=aB _ _ fG;walk_at "rds";refine Rd.kinds (bs:=([false,true,false,false]:List Bool)) rfl eU jf (by show 4<sizeLine;decide) (λb H' cL k=>?_) λar aI=>?_
   ·walk_at "rds";exact .inr ⟨_,rfl,k⟩
   ·have ut:=aI _ _ jf;have gh:=aI _ _ eU;walk_at "rds";refine Rd.Zbw (j:=1) gh rfl (by decide) ?_;exact q ar (aB.trans aI)
  |2,_=>
   replace fG:H ea=some (fv ea T.l):=fG;walk_at "rds";refine⟨by show 4≤sizeLine;decide,λu eF=>?_⟩;have aB:Zc H (upd H u (.lst [V.bl false,V.bl false,V.bl true,V.bl false])):=cF eF;have eU:(upd H u (.lst [V.bl false,V.bl false,V.bl true,V.bl false])) u=some (.lst (([false,false,true,false]:List Bool).map V.bl)):=Ze;generalize upd H u (.lst [V.bl false,V.bl false,V.bl true,V.bl false])=ao at*;have jf:=aB _ _ fG;walk_at "rds";refine Rd.kinds (bs:=([false,false,true,false]:List Bool)) rfl eU jf (by show 4<sizeLine;decide) (λb H' cL k=>?_) λar aI=>?_
   ·walk_at "rds";exact .inr ⟨_,rfl,k⟩
   ·have ut:=aI _ _ jf;have gh:=aI _ _ eU;walk_at "rds";refine Rd.Zbw (j:=2) gh rfl (by decide) ?_;exact q ar (aB.trans aI)
  |3,_=>
   replace fG:H ea=some (fv ea T.S):=fG;walk_at "rds";refine⟨by show 4≤sizeLine;decide,λu eF=>?_⟩;have aB:Zc H (upd H u (.lst [V.bl false,V.bl false,V.bl false,V.bl true])):=cF eF;have eU:(upd H u (.lst [V.bl false,V.bl false,V.bl false,V.bl true])) u=some (.lst (([false,false,false,true]:List Bool).map V.bl)):=Ze;generalize upd H u (.lst [V.bl false,V.bl false,V.bl false,V.bl true])=ao at*;have jf:=aB _ _ fG;walk_at "rds";refine Rd.kinds (bs:=([false,false,false,true]:List Bool)) rfl eU jf (by show 4<sizeLine;decide) (λb H' cL k=>?_) λar aI=>?_
   ·walk_at "rds";exact .inr ⟨_,rfl,k⟩
   ·have ut:=aI _ _ jf;have gh:=aI _ _ eU;walk_at "rds";refine Rd.Zbw (j:=3) gh rfl (by decide) ?_;exact q ar (aB.trans aI)
end
def FS{K:Frag}{mg:Str→Option Value}(T:Tp K mg):Sp:=λvs H Q E=>∃(p:Addr)(w:Int)(ai:HM)(fp:List Addr),vs=[.ref p,.int w]∧dz T H p ai fp∧ai.belts.length≤1000∧
 (¬(0≤w∧w<ai.names.length)→E (.ref T.l) none H)∧(0≤w→w<ai.names.length→∀r H',H r=none→Zc H H'→H' r=some (.lst ((leaveL ai.belts w).map λi:Nat=>V.int i))→Q (.ref r) H')
section
variable {P:Program}{w:World}{K:Frag}{mg:Str→Option Value}{base:Heap}
theorem FT(T:Tp K mg):OkM P w mg base 5 T.bP (FS T):=by
 have hh:=T.a;have hj:=T.f;refine T.bP.F.okX Em (λvs H Q E h=>?_) (λcw A outer s H vs Q E au h=>?_)
 ·obtain⟨p,w,ai,fp,rfl,_⟩:=h
  rfl
 ·have hu:=au.hu;obtain⟨p,w,ai,fp,rfl,cu,bh,aV,q⟩:=h;obtain⟨ap,a,b,bs,rfl,aq,av,b_,cA,gZ,cY⟩:=id cu;have am:=cY.length;refine⟨_,(bg (eK (hc (pv 0) T.a T.bf (q6 T) au cT (ay (pv 1) aH)))
     (bq (c' (gu (xs:=["belt","row"]) rfl (fg (x:="belt") (zs:=["work"]) (ix:=[1]) (cq tD) ["self","work"] rfl rfl (by decide+kernel)) (ng (K:=K) rfl rfl T.p (ay (ek (K:=K) rfl (pv 0) rfl) aH)) (λcl C s H fp=>⟨(gs (K:=K) (n:=2) rfl rfl (d0 (cP (i:=0) (show(["belt","row","work"]:List Str).Nodup by decide+kernel) rfl (Or.inl rfl)) (d0 (cP (i:=1) (show(["belt","row","work"]:List Str).Nodup by decide+kernel) rfl (Or.inl rfl)) gj))),(oK (dJ (fN (K:=K) rfl hu) (c_ (ixk K) (pv 1) Zg (λ_ _=>rfl)) (pv 2) (da _))),(pv 0)⟩))))),?_⟩
  try dsimp only[L2.cxX,L2.ZL,L2.Zl]
  walk_at "rds";refine⟨p,w,ai,_,rfl,cu,aV,λdD er=>?_⟩;walk_at "rds";refine ZP (own:=2) (nh (SqL.of cA)) (ej (by omega)) (λi=>[some (.int i),some (bs.getD i .non)]) (λ_=>rfl) (λi=>decide ((ai.belts.getD i dB).giver=w)) (λi v _=>v= .int i) (λ_ _ _ _ _ z=>z) (λi cE H' v ar e8 hi aI y aS k=>?_) (λi H' cL hi aI k=>?_) (λfO i H' cL hi aG hp0 eV aI k=>?_) (λr H' ys au aI dX c2=>?_)
  ·obtain⟨t,aT,rfl,rfl⟩:=y;obtain⟨x1,x2,rfl⟩:∃x1 x2,cE=[x1,x2]:=by
    match cE,aS with
    | [x1,x2],_=>exact⟨x1,x2,rfl⟩
   refine Rd.Wu (.of Ze) rfl ?_;walk_at "rds";exact k _ (cF aT)
  ·obtain⟨t,hG,gf⟩:=cY.getD (i:=i) (by omega);rw[hG];have k9:=aI _ _ gf;generalize ai.belts.getD i dB=bb at*;dsimp only[B5.v] at k9;walk_at "rds";exact k H' (Zc.refl H')
  ·walk_at "rds";exact k _ H' (Zc.refl H') rfl
  ·refine q dD er r H' au aI ?_;rw[dX,qA (R:=λi v _=>v=V.int (i:Nat)) (H:=H') (r:=λi:Nat=>V.int i) (λ_ _ z=>z) c2,am]
   rfl
end
def FU{K:Frag}{mg:Str→Option Value}(T:Tp K mg):Sp:=λvs H Q E=>∃(p:Addr)(i:Int)(ai:HM)(fp:List Addr),vs=[.ref p,.int i]∧dz T H p ai fp∧
 (¬(0≤i∧i<ai.belts.length)→E (.ref T.aO) none H)∧(0≤i→i<ai.belts.length→Q .non H)
section
variable {P:Program}{w:World}{K:Frag}{mg:Str→Option Value}{base:Heap}
theorem FV(T:Tp K mg):OkM P w mg base 4 T.bQ (FU T):=by
 have hh:=T.a;have hj:=T.f;refine T.bQ.F.okX En (λvs H Q E h=>?_) (λcw A outer s H vs Q E au h=>?_)
 ·obtain⟨p,i,ai,fp,rfl,_⟩:=h
  rfl
 ·have hu:=au.hu;obtain⟨p,i,ai,fp,rfl,cu,aV,q⟩:=h;obtain⟨ap,a,b,bs,rfl,aq,av,b_,cA,gZ,cY⟩:=id cu;refine⟨_,(bq (dM (gD (fW (K:=K) rfl (dq T.x9 (q5 T) au cT (ay (pv 1) (ay (dj (fF K) (by rfl) T.e Qn (ay (ek (K:=K) rfl (pv 0) rfl) aH)) aH))) (λ_=>rfl))) (bq (hz T.aP.g T.aP.e Qi rfl (ay Yl aH))) d5)),?_⟩
  try dsimp only[L2.cxX,L2.ZL,L2.Zl]
  walk_at "rds";rw[cY.length]
  by_cases c:0≤i∧i<ai.belts.length
  ·rw[decide_eq_true c];walk_at "rds";exact q c.1 c.2
  ·rw[decide_eq_false c];walk_at "rds";exact aV c
end
def FW{K:Frag}{mg:Str→Option Value}(T:Tp K mg):Sp:=λvs H Q E=>∃(p:Addr)(i:Int)(ai:HM)(fp:List Addr),vs=[.ref p,.int i]∧dz T H p ai fp∧
 (¬(0≤i∧i<ai.belts.length)→E (.ref T.aO) none H)∧(0≤i→i<ai.belts.length→∀(t:Addr)(b:B5),ai.belts[i.toNat]? =some b→H t=some (.tup b.v)→Q (.ref t) H)
section
variable {P:Program}{w:World}{K:Frag}{mg:Str→Option Value}{base:Heap}
theorem VV(T:Tp K mg):OkM P w mg base 5 T.bv (FW T):=by
 have hh:=T.a;have hj:=T.f;refine T.bv.F.okX Eo (λvs H Q E h=>?_) (λcw A outer s H vs Q E au h=>?_)
 ·obtain⟨p,i,ai,fp,rfl,_⟩:=h
  rfl
 ·have hu:=au.hu;obtain⟨p,i,ai,fp,rfl,cu,aV,q⟩:=h;obtain⟨ap,a,b,bs,rfl,aq,av,b_,cA,gZ,cY⟩:=id cu;refine⟨_,(bg (eK (hc (pv 0) T.a T.bQ (FV T) au cT (ay (pv 1) aH)))
     (bq (c' (c_ (ixk K) (ek (K:=K) rfl (pv 0) rfl) (pv 1) (λ_ _=>rfl))))),?_⟩
  try dsimp only[L2.cxX,L2.ZL,L2.Zl]
  walk_at "rds";refine⟨p,i,ai,_,rfl,cu,aV,λi0 eC=>?_⟩;have hi:i.toNat<ai.belts.length:=by omega
  have kT:=Qa hi;obtain⟨t,hG,gf⟩:=cY.at kT;have mi:atI bs i=some (.ref t):=by
   have:=gQ hG
   rwa [QP i0] at this
  walk_at "rds";exact q i0 eC t _ kT gf
end
def FX{K:Frag}{mg:Str→Option Value}(T:Tp K mg):Sp:=λvs H Q E=>∃(p:Addr)(w:Int)(ai:HM)(fp:List Addr),vs=[.ref p,.int w]∧dz T H p ai fp∧ai.belts.length≤1000∧0≤w∧w<ai.names.length∧
 ∀r H' ys,H r=none→Zc H H'→H' r=some (.lst ys)→gV H' (giveRow ai.belts w) ys→Q (.ref r) H'
section
variable {P:Program}{w:World}{K:Frag}{mg:Str→Option Value}{base:Heap}
theorem y6(T:Tp K mg):OkN P w base 6 T.bw (FX T):=by
 have hh:=T.a;have hj:=T.f;refine T.bw.F.okX Ep (λvs H Q E h=>?_) (λcw A outer s H vs Q E au h=>?_)
 ·obtain⟨p,w,ai,fp,rfl,_⟩:=h
  rfl
 ·have hu:=au.hu;obtain⟨p,w,ai,fp,rfl,cu,bh,dD,er,q⟩:=h;refine⟨_,(bq (c' (gu (xs:=["belt"]) rfl (fg (x:="belt") (zs:=["hall"]) (ix:=[0]) (cq tE) ["hall","work"] rfl rfl (by decide+kernel)) (fh (K:=K) rfl (hc (pv 0) T.a T.bP (FT T) au cT (ay (pv 1) aH))) (λcl C s H fp=>⟨(cP (i:=0) (show(["belt","hall"]:List Str).Nodup by decide+kernel) rfl (Or.inl rfl)),fR,(g8 (ay (pv 0) (ay (c_ (ixk K) (hc (pv 1) T.a T.bv (VV T) au Wy (ay (pv 0) aH)) Zg (λ_ _=>rfl)) aH)))⟩)))),?_⟩
  try dsimp only[L2.cxX,L2.ZL,L2.Zl]
  walk_at "rds";refine⟨p,w,ai,fp,rfl,cu,bh,λz=>absurd ⟨dD,er⟩ z,λ_ _ e ao b' aB uu=>?_⟩;have lb:=cu.same aB;have ia:=Vz (ls:=ai.belts) (w:=w);walk_at "rds";refine ZP (own:=1) (e7 (SqL.of uu)).y (ej (by rw[Qb];omega)) (λi=>[some (.int ((leaveL ai.belts w).getD i 0:Nat))]) (λ_=>rfl) (λ_=>true) (λi v H=>∃t,v=V.ref t∧H t=some (.tup [.int ((leaveL ai.belts w).getD i 0:Nat),.int (ai.belts.getD ((leaveL ai.belts w).getD i 0) dB).give])) (λ_ _ _ _ e ⟨t,eT,d_⟩=>⟨t,eT,e _ _ d_⟩) (λi cE H' v ar e8 hi aI y dE k=>?_) (λi H' cL hi aI k=>?_) (λfO i H' cL hi aG hp0 eV aI k=>?_) (λr H' ys lc aI dX c2=>?_)
  ·obtain⟨rfl,rfl⟩:=y;obtain⟨x1,rfl⟩:∃x1,cE=[x1]:=by
    match cE,dE with
    | [x1],_=>exact⟨x1,rfl⟩
   have eN:i<(leaveL ai.belts w).length:=by simpa using hi
   have fb:((leaveL ai.belts w).map λi:Nat=>V.int i).getD i .non= .int ((leaveL ai.belts w).getD i 0:Nat):=by simp[List.getD,eN]
   rw[fb];walk_at "rds";exact k _ (Zc.refl _)
  ·walk_at "rds";exact k H' (Zc.refl H')
  ·have eN:i<(leaveL ai.belts w).length:=by simpa using hi
   have a4:(leaveL ai.belts w).getD i 0∈leaveL ai.belts w:=by
    have:(leaveL ai.belts w).getD i 0=(leaveL ai.belts w)[i]:=by simp[List.getD,eN]
    rw[this];exact Qf eN
   have dx:=ma a4;generalize (leaveL ai.belts w).getD i 0=j at*;have hC:=lb.same aI;walk_at "rds";refine⟨p,(j:Int),ai,fp,rfl,hC,λz=>absurd ⟨Q3 j,by omega⟩ z,λ_ _ t b am aT=>?_⟩;have uv:ai.belts[j]? =some b:=am;have eB:ai.belts.getD j dB=b:=by simp[List.getD,uv]
   rw[eB] at k;dsimp only[B5.v] at aT;walk_at "rds";refine⟨by show 2≤sizeLine;decide,λu iB=>?_⟩;exact k _ _ (cF iB) ⟨u,rfl,o2 eV iB⟩
  ·refine q r H' ys ?_ (aB.trans aI) dX ?_
   ·cases e:H r with
    |none=>rfl
    |some o=>rw[aB _ _ e] at lc;cases lc
   ·exact(yz c2).keep λb xs z=>iz _ _ z
end
def FY{K:Frag}{mg:Str→Option Value}(T:Tp K mg):Sp:=λvs H Q _=>∃(p:Addr)(w:Int)(ai:HM)(fp:List Addr),vs=[.ref p,.int w]∧dz T H p ai fp∧ai.belts.length≤1000∧0≤w∧w<ai.names.length∧∀H',Zc H H'→Q (.int ((giveRow ai.belts w).map (·.2)).sum) H'
section
variable {P:Program}{w:World}{K:Frag}{mg:Str→Option Value}{base:Heap}
theorem FZ(T:Tp K mg):OkN P w base 7 T.bR (FY T):=by
 refine T.bR.F.okX Er (λvs H Q E h=>?_) (λcw A outer s H vs Q E au h=>?_)
 ·obtain⟨p,w,ai,fp,rfl,_⟩:=h
  rfl
 ·have hu:=au.hu;obtain⟨p,w,ai,fp,rfl,cu,bh,dD,er,q⟩:=h;refine⟨_,(bq (c' (dj (nf (K:=K) rfl rfl) (by rfl) T.Z Q1 (ay (gu (xs:=["belt","give"]) rfl (fg (x:="belt") (zs:=[]) (ix:=[]) (cq tF) ["hall","work"] rfl rfl (by decide+kernel)) (fh (K:=K) rfl (dq T.bw (y6 T) au cT (ay (pv 0) (ay (pv 1) aH)))) (λcl C s H fp=>⟨(gs (K:=K) (n:=2) rfl rfl (d0 (cP (i:=0) (show(["belt","give"]:List Str).Nodup by decide+kernel) rfl (Or.inl rfl)) (d0 (cP (i:=1) (show(["belt","give"]:List Str).Nodup by decide+kernel) rfl (Or.inl rfl)) gj))),fR,(pv 1)⟩)) aH)))),?_⟩
  try dsimp only[L2.cxX,L2.ZL,L2.Zl]
  walk_at "rds";refine⟨p,w,ai,fp,rfl,cu,bh,dD,er,λr ao ys au aB hX dH=>?_⟩;have f9:ys.length=(giveRow ai.belts w).length:=(Paired.length dH).symm;have F0:(giveRow ai.belts w).length≤1000:=by unfold giveRow;rw[Qb];exact Qv Vz bh
  generalize giveRow ai.belts w=gr at*;have nG:=SqL.of (K:=K) hX;walk_at "rds";refine ZP (own:=2) (e7 nG).y (ej (by omega)) (λi=>[some (.int (gr.getD i (0,0)).1),some (.int (gr.getD i (0,0)).2)]) (λ_=>rfl) (λ_=>true) (λi v _=>v= .int (gr.getD i (0,0)).2) (λ_ _ _ _ _ z=>z) (λi cE H' v a2 e8 hi aI y dE k=>?_) (λi H' cL hi aI k=>?_) (λfO i H' cL hi ft hp0 eV aI k=>?_) (λd a2 zs hd aI dX c2=>?_)
  ·obtain⟨rfl,rfl⟩:=y;obtain⟨x1,x2,rfl⟩:∃x1 x2,cE=[x1,x2]:=by
    match cE,dE with
    | [x1,x2],_=>exact⟨x1,x2,rfl⟩
   obtain⟨t,cZ,aT⟩:=UI dH (i:=i) (by omega);rw[cZ];refine Rd.Wu (.of (aI _ _ aT)) rfl ?_;walk_at "rds";exact k _ (Zc.refl _)
  ·walk_at "rds";exact k H' (Zc.refl H')
  ·walk_at "rds";exact k _ H' (Zc.refl H') rfl
  ·rw[Ql.mpr (by simp),f9] at c2;have ez:=ja c2;rw[kW (λt:Int×Int=>t.2)] at ez;have g9:=SqL.of (K:=K) (ez▸dX);walk_at "rds";refine⟨d,_,rfl,g9,?_⟩;exact q a2 (aB.trans aI)
end
def F1{K:Frag}{mg:Str→Option Value}(T:Tp K mg):Sp:=λvs H Q E=>∃(p:Addr)(w:Int)(ai:HM)(fp:List Addr),vs=[.ref p,.int w]∧dz T H p ai fp∧ai.belts.length≤1000∧
 (¬(0≤w∧w<ai.names.length)→E (.ref T.l) none H)∧(0≤w→w<ai.names.length→∀r H',H r=none→Zc H H'→H' r=some (.lst ((dF ai.belts w).map λi:Nat=>V.int i))→Q (.ref r) H')
section
variable {P:Program}{w:World}{K:Frag}{mg:Str→Option Value}{base:Heap}
theorem F2(T:Tp K mg):OkM P w mg base 5 T.bS (F1 T):=by
 have hh:=T.a;have hj:=T.f;refine T.bS.F.okX Es (λvs H Q E h=>?_) (λcw A outer s H vs Q E au h=>?_)
 ·obtain⟨p,w,ai,fp,rfl,_⟩:=h
  rfl
 ·have hu:=au.hu;obtain⟨p,w,ai,fp,rfl,cu,bh,aV,q⟩:=h;obtain⟨ap,a,b,bs,rfl,aq,av,b_,cA,gZ,cY⟩:=id cu;have am:=cY.length;refine⟨_,(bg (eK (hc (pv 0) T.a T.bf (q6 T) au cT (ay (pv 1) aH)))
     (bq (c' (gu (xs:=["belt","row"]) rfl (fg (x:="belt") (zs:=["work"]) (ix:=[1]) (cq tG) ["self","work"] rfl rfl (by decide+kernel)) (ng (K:=K) rfl rfl T.p (ay (ek (K:=K) rfl (pv 0) rfl) aH)) (λcl C s H fp=>⟨(gs (K:=K) (n:=2) rfl rfl (d0 (cP (i:=0) (show(["belt","row","work"]:List Str).Nodup by decide+kernel) rfl (Or.inl rfl)) (d0 (cP (i:=1) (show(["belt","row","work"]:List Str).Nodup by decide+kernel) rfl (Or.inl rfl)) gj))),(oK (dJ (fN (K:=K) rfl hu) (c_ (ixk K) (pv 1) Zg (λ_ _=>rfl)) (pv 2) (da _))),(pv 0)⟩))))),?_⟩
  try dsimp only[L2.cxX,L2.ZL,L2.Zl]
  walk_at "rds";refine⟨p,w,ai,_,rfl,cu,aV,λdD er=>?_⟩;walk_at "rds";refine ZP (own:=2) (nh (SqL.of cA)) (ej (by omega)) (λi=>[some (.int i),some (bs.getD i .non)]) (λ_=>rfl) (λi=>decide ((ai.belts.getD i dB).taker=w)) (λi v _=>v= .int i) (λ_ _ _ _ _ z=>z) (λi cE H' v ar e8 hi aI y aS k=>?_) (λi H' cL hi aI k=>?_) (λfO i H' cL hi aG hp0 eV aI k=>?_) (λr H' ys au aI dX c2=>?_)
  ·obtain⟨t,aT,rfl,rfl⟩:=y;obtain⟨x1,x2,rfl⟩:∃x1 x2,cE=[x1,x2]:=by
    match cE,aS with
    | [x1,x2],_=>exact⟨x1,x2,rfl⟩
   refine Rd.Wu (.of Ze) rfl ?_;walk_at "rds";exact k _ (cF aT)
  ·obtain⟨t,hG,gf⟩:=cY.getD (i:=i) (by omega);rw[hG];have k9:=aI _ _ gf;generalize ai.belts.getD i dB=bb at*;dsimp only[B5.v] at k9;walk_at "rds";exact k H' (Zc.refl H')
  ·walk_at "rds";exact k _ H' (Zc.refl H') rfl
  ·refine q dD er r H' au aI ?_;rw[dX,qA (R:=λi v _=>v=V.int (i:Nat)) (H:=H') (r:=λi:Nat=>V.int i) (λ_ _ z=>z) c2,am]
   rfl
end
def F3{K:Frag}{mg:Str→Option Value}(T:Tp K mg):Sp:=λvs H Q E=>∃(p:Addr)(w:Int)(ai:HM)(fp:List Addr),vs=[.ref p,.int w]∧dz T H p ai fp∧ai.belts.length≤1000∧0≤w∧w<ai.names.length∧
 ∀r H' ys,H r=none→Zc H H'→H' r=some (.lst ys)→gV H' (takeRow ai.belts w) ys→Q (.ref r) H'
section
variable {P:Program}{w:World}{K:Frag}{mg:Str→Option Value}{base:Heap}
theorem y7(T:Tp K mg):OkN P w base 6 T.bx (F3 T):=by
 have hh:=T.a;have hj:=T.f;refine T.bx.F.okX Et (λvs H Q E h=>?_) (λcw A outer s H vs Q E au h=>?_)
 ·obtain⟨p,w,ai,fp,rfl,_⟩:=h
  rfl
 ·have hu:=au.hu;obtain⟨p,w,ai,fp,rfl,cu,bh,dD,er,q⟩:=h;refine⟨_,(bq (c' (gu (xs:=["belt"]) rfl (fg (x:="belt") (zs:=["hall"]) (ix:=[0]) (cq tH) ["hall","work"] rfl rfl (by decide+kernel)) (fh (K:=K) rfl (hc (pv 0) T.a T.bS (F2 T) au cT (ay (pv 1) aH))) (λcl C s H fp=>⟨(cP (i:=0) (show(["belt","hall"]:List Str).Nodup by decide+kernel) rfl (Or.inl rfl)),fR,(g8 (ay (pv 0) (ay (c_ (ixk K) (hc (pv 1) T.a T.bv (VV T) au Wy (ay (pv 0) aH)) Zg (λ_ _=>rfl)) aH)))⟩)))),?_⟩
  try dsimp only[L2.cxX,L2.ZL,L2.Zl]
  walk_at "rds";refine⟨p,w,ai,fp,rfl,cu,bh,λz=>absurd ⟨dD,er⟩ z,λ_ _ e ao b' aB uu=>?_⟩;have lb:=cu.same aB;have ia:=W5 (ls:=ai.belts) (w:=w);walk_at "rds";refine ZP (own:=1) (e7 (SqL.of uu)).y (ej (by rw[Qb];omega)) (λi=>[some (.int ((dF ai.belts w).getD i 0:Nat))]) (λ_=>rfl) (λ_=>true) (λi v H=>∃t,v=V.ref t∧H t=some (.tup [.int ((dF ai.belts w).getD i 0:Nat),.int (ai.belts.getD ((dF ai.belts w).getD i 0) dB).take])) (λ_ _ _ _ e ⟨t,eT,d_⟩=>⟨t,eT,e _ _ d_⟩) (λi cE H' v ar e8 hi aI y dE k=>?_) (λi H' cL hi aI k=>?_) (λfO i H' cL hi aG hp0 eV aI k=>?_) (λr H' ys lc aI dX c2=>?_)
  ·obtain⟨rfl,rfl⟩:=y;obtain⟨x1,rfl⟩:∃x1,cE=[x1]:=by
    match cE,dE with
    | [x1],_=>exact⟨x1,rfl⟩
   have eN:i<(dF ai.belts w).length:=by simpa using hi
   have fb:((dF ai.belts w).map λi:Nat=>V.int i).getD i .non= .int ((dF ai.belts w).getD i 0:Nat):=by simp[List.getD,eN]
   rw[fb];walk_at "rds";exact k _ (Zc.refl _)
  ·walk_at "rds";exact k H' (Zc.refl H')
  ·have eN:i<(dF ai.belts w).length:=by simpa using hi
   have a4:(dF ai.belts w).getD i 0∈dF ai.belts w:=by
    have:(dF ai.belts w).getD i 0=(dF ai.belts w)[i]:=by simp[List.getD,eN]
    rw[this];exact Qf eN
   have dx:=kU a4;generalize (dF ai.belts w).getD i 0=j at*;have hC:=lb.same aI;walk_at "rds";refine⟨p,(j:Int),ai,fp,rfl,hC,λz=>absurd ⟨Q3 j,by omega⟩ z,λ_ _ t b am aT=>?_⟩;have uv:ai.belts[j]? =some b:=am;have eB:ai.belts.getD j dB=b:=by simp[List.getD,uv]
   rw[eB] at k;dsimp only[B5.v] at aT;walk_at "rds";refine⟨by show 2≤sizeLine;decide,λu iB=>?_⟩;exact k _ _ (cF iB) ⟨u,rfl,o2 eV iB⟩
  ·refine q r H' ys ?_ (aB.trans aI) dX ?_
   ·cases e:H r with
    |none=>rfl
    |some o=>rw[aB _ _ e] at lc;cases lc
   ·exact(yz c2).keep λb xs z=>iz _ _ z
end
def F4{K:Frag}{mg:Str→Option Value}(T:Tp K mg):Sp:=λvs H Q E=>∃(p:Addr)(w:Int)(v:V)(ai:HM)(fp:List Addr)(fs:List cV),vs=[.ref p,.int w,v]∧dz T H p ai fp∧ai.belts.length≤1000∧0≤w∧w<ai.names.length∧kY H v fs∧fs.length≤200000∧(∀f∈fs,f.2.length≤2000)∧
 (¬mc ai.belts w fs→∀H',Zc H H'→E (.ref T.t) none H')∧(mc ai.belts w fs→∀H',Zc H H'→Q .non H')
section
variable {P:Program}{w:World}{K:Frag}{mg:Str→Option Value}{base:Heap}
theorem F5(T:Tp K mg):OkN P w base 8 T.bT (F4 T):=by
 refine T.bT.F.okX tT (λvs H Q E h=>?_) (λcw A outer s H vs Q E au h=>?_)
 ·obtain⟨p,w,v,ai,fp,fs,rfl,_⟩:=h
  rfl
 ·have hu:=au.hu;obtain⟨p,w,v,ai,fp,fs,rfl,cu,bh,dD,er,F6,mj,nt,ml,q⟩:=h;obtain⟨a,vs,rfl,aS,fB⟩:=F6;have q0:=Paired.length fB;have OC:=SqT.of (K:=K) aS;refine⟨_,(bg (dM (dJ (hW (K:=K) rfl hu) (dj (fF K) (by rfl) T.e Qn (ay (pv 2) aH)) (dq T.bR (FZ T) au cT (ay (pv 0) (ay (pv 1) aH))) (da _)) (bq (hz T.u.g T.u.e Qi rfl (ay Yl aH))) d5)
     (bg (cN (i:=3) tT.nd rfl (Or.inr rfl) (dj (nf (K:=K) rfl rfl) (by rfl) T.Z Q1 (ay (gu (xs:=["belt","take"]) rfl (fg (x:="belt") (zs:=[]) (ix:=[]) (cq qK) ["hall","work","forms","slots","form"] rfl rfl (by decide+kernel)) (fh (K:=K) rfl (dq T.bx (y7 T) au cT (ay (pv 0) (ay (pv 1) aH)))) (λcl C s H fp=>⟨(gs (K:=K) (n:=2) rfl rfl (d0 (cP (i:=0) (show(["belt","take"]:List Str).Nodup by decide+kernel) rfl (Or.inl rfl)) (d0 (cP (i:=1) (show(["belt","take"]:List Str).Nodup by decide+kernel) rfl (Or.inl rfl)) gj))),fR,(pv 1)⟩)) aH)))
     (bq (fz PassesOwn.leaving rfl (nc (K:=K) rfl (pv 2)) (cP (i:=4) tT.nd rfl (Or.inl rfl)) (bq (dM (gD (fW (K:=K) rfl (dj (qx (K:=K) rfl rfl) (by rfl) T.aY Rl (ay (gu (xs:=["slot","factor"]) rfl (fg (x:="slot") (zs:=["slots"]) (ix:=[3]) (cq qK) ["hall","work","forms","slots","form"] rfl rfl (by decide+kernel)) (nc (K:=K) rfl (c_ (ixk K) (pv 4) Zg (λ_ _=>rfl))) (λcl C s H fp=>⟨(gs (K:=K) (n:=2) rfl rfl (d0 (cP (i:=0) (show(["slot","factor","slots"]:List Str).Nodup by decide+kernel) rfl (Or.inl rfl)) (d0 (cP (i:=1) (show(["slot","factor","slots"]:List Str).Nodup by decide+kernel) rfl (Or.inl rfl)) gj))),fR,(dq T.x9 (q5 T) au Wy (ay (pv 0) (ay (pv 2) aH)))⟩)) aH)) (λ_=>rfl))) (bq (hz T.u.g T.u.e Qi rfl (ay Yl aH))) d5)))))),?_⟩
  try dsimp only[L2.cxX,L2.ZL,L2.Zl]
  walk_at "rds";refine⟨p,w,ai,fp,rfl,cu,bh,dD,er,λao aB=>?_⟩;have nw:Wb ai.belts w=((giveRow ai.belts w).map (·.2)).sum:=rfl;have F7:slotN ai.belts w=((takeRow ai.belts w).map (·.2)).sum:=rfl;have F8:mc ai.belts w fs↔((vs.length:Int)=Wb ai.belts w∧∀f∈fs,∀t∈f.2,0≤t.1∧t.1<slotN ai.belts w):=by rw[q0];exact Iff.rfl
  rw[F8] at ml q;rw[nw] at ml q;generalize ((giveRow ai.belts w).map (·.2)).sum=gn at*;have lb:=cu.same aB;walk_at "rds"
  by_cases dg:(vs.length:Int)=gn
  case neg=>
   walk_at "rds";exact ml (λz=>dg z.1) _ aB
  walk_at "rds";refine⟨p,w,ai,fp,rfl,lb,bh,dD,er,λr ar ys au bc hX dH=>?_⟩;have f9:ys.length=(takeRow ai.belts w).length:=(Paired.length dH).symm;have F0:(takeRow ai.belts w).length≤1000:=Qv ZaN bh;generalize takeRow ai.belts w=gr at*;have nG:=SqL.of (K:=K) hX;walk_at "rds";refine ZP (own:=2) (e7 nG).y (ej (by omega)) (λi=>[some (.int (gr.getD i (0,0)).1),some (.int (gr.getD i (0,0)).2)]) (λ_=>rfl) (λ_=>true) (λi v _=>v= .int (gr.getD i (0,0)).2) (λ_ _ _ _ _ z=>z) (λi cE H' v a2 e8 hi aI y dE k=>?_) (λi H' cL hi aI k=>?_) (λfO i H' cL hi ft hp0 eV aI k=>?_) (λd a2 zs hd aI dX c2=>?_)
  ·obtain⟨rfl,rfl⟩:=y;obtain⟨x1,x2,rfl⟩:∃x1 x2,cE=[x1,x2]:=by
    match cE,dE with
    | [x1,x2],_=>exact⟨x1,x2,rfl⟩
   obtain⟨t,cZ,aT⟩:=UI dH (i:=i) (by omega);rw[cZ];refine Rd.Wu (.of (aI _ _ aT)) rfl ?_;walk_at "rds";exact k _ (Zc.refl _)
  ·walk_at "rds";exact k H' (Zc.refl H')
  ·walk_at "rds";exact k _ H' (Zc.refl H') rfl
  ·rw[Ql.mpr (by simp),f9] at c2;have ez:=ja c2;rw[kW (λt:Int×Int=>t.2)] at ez;have g9:=SqL.of (K:=K) (ez▸dX);walk_at "rds";refine⟨d,_,rfl,g9,?_⟩;rw[←F7];generalize slotN ai.belts w=sn at*;have gM:=aB.trans (bc.trans aI);have F9:=gM _ _ aS;have y8:=SqT.of (K:=K) F9;walk_at "rds";unfold ky;walk_at "rds";refine⟨a,rfl,⟨_,y8⟩,?_⟩;refine Ym (m8 y8) (λi σ H'=>Zc a2 H'∧(∃dk,σ=[some (.ref p),some (.int w),some (.ref a),some (.int sn),dk])∧∀j<i,∀t∈(fs.getD j (0,[])).2,0≤t.1∧t.1<sn) ⟨Zc.refl _,⟨_,rfl⟩,λj aU=>absurd aU (by omega)⟩ (λi σ H' h=>h.1) ?_ ?_
   ·rintro i σ a3 hi ⟨cp,⟨dk,rfl⟩,mn⟩;have eG:i<fs.length:=by omega
    obtain⟨dW,fk,dO,ea,mo,jg,du⟩:=kj (d:=V.non) (e:=((0,[]):cV)) fB eG;rw[ea];have y9:fs.getD i (0,[])∈fs:=by rw[dh eG];exact Qf _
    have g_:=nt _ y9;have F_:(∀t∈(fs.getD i (0,[])).2,0≤t.1∧t.1<sn)→∀j<i+1,∀t∈(fs.getD j (0,[])).2,0≤t.1∧t.1<sn:=λz j aU=>by
     by_cases uw:j=i
     ·rw[uw];exact z
     ·exact mn j (by omega)
    generalize fs.getD i (0,[])=f at*;have gd:=gM.trans cp;have OD:=gd _ _ mo;have F':=gd _ _ jg;have y_:=SqT.of (K:=K) F';have nH:=du.length;walk_at "rds"
    try unfold ky
    try walk_at "rds"
    refine⟨fk,rfl,⟨_,y_⟩,?_⟩;refine ZP (own:=2) (m8 y_).y (jC (by omega)) (λi=>[some (.int (f.2.getD i (0,0)).1),some (.int (f.2.getD i (0,0)).2)]) (λ_=>rfl) (λ_=>true) (λi v _=>v= .bl (decide (0≤(f.2.getD i (0,0)).1∧(f.2.getD i (0,0)).1<sn))) (λ_ _ _ _ _ z=>z) (λi cE H' v a2 e8 hi aI y dE k=>?_) (λi H' cL hi aI k=>?_) (λfO i H' cL hi ft hp0 eV aI k=>?_) (λd bH zs hd sm5 ux y'=>?_)
    ·obtain⟨rfl,rfl⟩:=y;obtain⟨x1,x2,rfl⟩:∃x1 x2,cE=[x1,x2]:=by
      match cE,dE with
      | [x1,x2],_=>exact⟨x1,x2,rfl⟩
     obtain⟨t,cZ,aT⟩:=du.getD (i:=i) (by omega);rw[cZ];refine Rd.Wu (.of (aI _ _ (gd _ _ aT))) rfl ?_;walk_at "rds";exact k _ (Zc.refl _)
    ·walk_at "rds";exact k H' (Zc.refl H')
    ·walk_at "rds";exact k _ H' (Zc.refl H') rfl
    ·rw[Ql.mpr (by simp),nH] at y';have Ga:=t6 y';have OE:=SqL.of (K:=K) (Ga▸ux);have j7:(((List.range f.2.length).map λi=>decide (0≤(f.2.getD i (0,0)).1∧(f.2.getD i (0,0)).1<sn)).all id)=true↔∀t∈f.2,0≤t.1∧t.1<sn:=by
      rw[Zaf]
      constructor
      ·intro h t aT;obtain⟨i,hi,rfl⟩:=QJ aT;have:=h i hi;rw[dh hi] at this;exact this
      ·intro h i hi;exact h _ (by rw[dh hi];exact Qf _)
     generalize (List.range f.2.length).map (λi=>decide (0≤(f.2.getD i (0,0)).1∧(f.2.getD i (0,0)).1<sn))=bs at*;walk_at "rds"
     by_cases dL:∀t∈f.2,0≤t.1∧t.1<sn
     ·rw[j7.mpr dL];walk_at "rds";exact⟨cp.trans sm5,⟨_,rfl⟩,F_ dL⟩
     ·rw[show bs.all id=false from Bool.eq_false_iff.mpr λz=>dL (j7.mp z)];walk_at "rds";exact ml (λz=>dL (z.2 f y9)) _ ((gM.trans cp).trans sm5)
   ·rintro σ a3 ⟨cp,⟨dk,rfl⟩,mn⟩;walk_at "rds";refine q ⟨dg,λf aX t aT=>?_⟩ a3 (gM.trans cp);obtain⟨i,hi,rfl⟩:=QJ aX;have:=mn i (by omega) t;rw[dh hi] at this;exact this aT
end
def Gb{K:Frag}{mg:Str→Option Value}(T:Tp K mg):Sp:=λvs H Q E=>∃(p:Addr)(ai:HM)(fp:List Addr),vs=[.ref p]∧dz T H p ai fp∧
 ∀r H',H r=none→Zc H H'→H' r=some (.lst (ai.names.map V.str))→Q (.ref r) H'
section
variable {P:Program}{w:World}{K:Frag}{mg:Str→Option Value}{base:Heap}
theorem za(T:Tp K mg):OkM P w mg base 1 T.bz (Gb T):=by
 have hh:=T.a;have hj:=T.f;refine T.bz.F.okX Eu (λvs H Q E h=>?_) (λcw A outer s H vs Q E au h=>?_)
 ·obtain⟨p,ai,fp,rfl,_⟩:=h
  rfl
 ·have hu:=au.hu;obtain⟨p,ai,fp,rfl,cu,q⟩:=h;obtain⟨ap,a,b,bs,rfl,aq,av,b_,cA,gZ,cY⟩:=id cu;refine⟨_,(bq (c' (gP (C' rfl) (by rfl) T.k Qw (ay (ek (K:=K) rfl (pv 0) rfl) aH)))),?_⟩
  try dsimp only[L2.cxX,L2.ZL,L2.Zl]
  walk_at "rds";intro l dX;rw[ZaW];exact q l _ dX (cF dX) Ze
end
def Gc{K:Frag}{mg:Str→Option Value}(T:Tp K mg):Sp:=λvs H Q E=>∃(p c:Addr)(ai:HM)(fp:List Addr)(c3:List V)(fss:List (List cV)),vs=[.ref p,.ref c]∧dz T H p ai fp∧ai.belts.length≤1000∧ai.names.length≤1000∧SqL K H c c3∧f' H c3 fss∧fss.length≤1000∧Za7 fss∧
 (¬gA ai.names.length ai.belts fss→∀H',Zc H H'→E (.ref T.t) none H')∧(gA ai.names.length ai.belts fss→∀H',Zc H H'→Q .non H')
section
variable {P:Program}{w:World}{K:Frag}{mg:Str→Option Value}{base:Heap}
theorem Gd(T:Tp K mg):OkN P w base 9 T.bU (Gc T):=by
 have hh:=T.a;have hj:=T.f;refine T.bU.F.okX tU (λvs H Q E h=>?_) (λcw A outer s H vs Q E au h=>?_)
 ·obtain⟨p,c,ai,fp,c3,fss,rfl,_⟩:=h
  rfl
 ·have hu:=au.hu;obtain⟨p,c,ai,fp,c3,fss,rfl,cu,bh,pi,aG,fB,mj,g_,ml,q⟩:=h;have q0:=Paired.length fB;refine⟨_,(bg (dM (dJ (hW (K:=K) rfl hu) (dj (fF K) (by rfl) T.e Qn (ay (pv 1) aH)) (dj (fF K) (by rfl) T.e Qn (ay (ke (pv 0) T.a T.bz (za T) au cT) aH)) (da _)) (bq (hz T.u.g T.u.e Qi rfl (ay Yl aH))) d5)
     (bq (fz PassesOwn.leaving rfl (ng (K:=K) rfl rfl T.p (ay (pv 1) aH)) (gs (K:=K) (n:=2) rfl rfl (d0 (cP (i:=2) tU.nd rfl (Or.inl rfl)) (d0 (cP (i:=3) tU.nd rfl (Or.inl rfl)) gj))) (bq (eK (dq T.bT (F5 T) au cT (ay (pv 0) (ay (pv 2) (ay (pv 3) aH))))))))),?_⟩
  try dsimp only[L2.cxX,L2.ZL,L2.Zl]
  walk_at "rds";refine⟨p,ai,fp,rfl,cu,λr ao au aB hX=>?_⟩;have OF:=SqL.of (K:=K) hX;have q_:=aB.seq aG;walk_at "rds"
  by_cases dg:fss.length=ai.names.length
  case neg=>
   have nI:¬(c3.length:Int)=((ai.names.map V.str).length:Int):=by rw[Qb];omega
   walk_at "rds";exact ml (λz=>dg z.1) _ aB
  have nI:(c3.length:Int)=((ai.names.map V.str).length:Int):=by rw[Qb];omega
  walk_at "rds";refine V0 (nh q_) (λi σ H'=>Zc ao H'∧(∃dk dm,σ=[some (.ref p),some (.ref c),dk,dm])∧∀j<i,mc ai.belts j (fss.getD j [])) ⟨Zc.refl _,⟨_,_,rfl⟩,λj aU=>absurd aU (by omega)⟩ (λi σ H' h=>h.1) ?_ ?_
  ·rintro i σ ar v a2 hi ⟨bc,⟨dk,dm,rfl⟩,mn⟩ ⟨t,aT,rfl,rfl⟩;have be:Zc ar (upd ar t (.tup [.int i,c3.getD i .non])):=cF aT;have gB:(upd ar t (.tup [.int i,c3.getD i .non])) t=some (.tup [.int i,c3.getD i .non]):=Ze;generalize upd ar t (.tup [.int i,c3.getD i .non])=a2 at*;have gC:=aB.trans (bc.trans be);refine Rd.Wu (.of gB) rfl ?_;have hw:=(kj (d:=V.non) (e:=([]:List cV)) fB (i:=i) (by omega)).keep (λb xs e=>gC _ _ e);generalize c3.getD i .non=u at*;walk_at "rds";refine⟨p,i,u,ai,fp,_,rfl,cu.same gC,bh,by omega,by omega,hw,(g_ _ (by rw[dh (by omega)];exact Qf _)).1,(g_ _ (by rw[dh (by omega)];exact Qf _)).2,λz a3 cp=>ml (λy=>z (y.2 i (by omega))) _ (gC.trans cp),λz a3 cp=>?_⟩;walk_at "rds";refine⟨bc.trans (be.trans cp),⟨_,_,rfl⟩,λj aU=>?_⟩
   by_cases uw:j=i
   ·rw[uw];exact z
   ·exact mn j (by omega)
  ·rintro σ ar ⟨bc,⟨dk,dm,rfl⟩,mn⟩;walk_at "rds";exact q ⟨dg,λi hi=>mn i (by omega)⟩ ar (aB.trans bc)
end
def Vo{K:Frag}{mg:Str→Option Value}(T:Tp K mg):Sp:=λvs H Q _=>∃(p:Addr)(ai:HM)(fp:List Addr),vs=[.ref p]∧dz T H p ai fp∧
 ∀(q:Addr)(H':Hp)(bs:List V),H q=none→Zc H H'→H' q=some (.lst bs)→fj H' bs ai.belts→Q (.ref q) H'
theorem Zdh{K:Frag}{mg:Str→Option Value}{T:Tp K mg}{H:Hp}{Q:VK}{E:XK}{p:Addr}{ai:HM}{fp:List Addr}(h:dz T H p ai fp)
  (q:∀(q:Addr)(H':Hp)(bs:List V),H q=none→Zc H H'→H' q=some (.lst bs)→fj H' bs ai.belts→Q (.ref q) H'):Vo T (.ref p::([]++ [])) H Q E:=⟨p,ai,fp,rfl,h,q⟩
local macro_rules| `(tactic|walk_at "rd")=>`(tactic|first|((with_reducible show Nm.Vo _ _ _ _ _);with_reducible refine Nm.Zdh (by with_reducible assumption) ?_)|fail "none here")
section
variable {P:Program}{w:World}{K:Frag}{mg:Str→Option Value}{base:Heap}
theorem zb(T:Tp K mg):OkM P w mg base 1 T.bA (Vo T):=by
 have hh:=T.a;have hj:=T.f;refine T.bA.F.okX Ev (λvs H Q E h=>?_) (λcw A outer s H vs Q E au h=>?_)
 ·obtain⟨p,ai,fp,rfl,_⟩:=h
  rfl
 ·have hu:=au.hu;obtain⟨p,ai,fp,rfl,cu,q⟩:=h;obtain⟨ap,a,b,bs,rfl,aq,av,b_,cA,gZ,cY⟩:=id cu;refine⟨_,(bq (c' (gP (i6 (K:=K) rfl) (by rfl) T.k Qw (ay (ek (K:=K) rfl (pv 0) rfl) aH)))),?_⟩
  try dsimp only[L2.cxX,L2.ZL,L2.Zl]
  walk_at "rds";refine Rd.Zb5 (.of cA) (λl dX=>?_);exact q l _ bs dX (cF dX) Ze (cY.keep ((cF dX).frame (A:=[])).tups)
end
def Ge{K:Frag}{mg:Str→Option Value}(T:Tp K mg):Sp:=λvs H Q _=>∃(p:Addr)(ai:HM)(fp:List Addr),vs=[.ref p]∧dz T H p ai fp∧ai.belts.length≤1000∧
 ∀(r:Addr)(H':Hp),H r=none→Zc H H'→H' r=some (.lst ((startsL ai.belts).map V.int))→Q (.ref r) H'
section
variable {P:Program}{w:World}{K:Frag}{mg:Str→Option Value}{base:Heap}
theorem Gf(T:Tp K mg):OkN P w base 2 T.bV (Ge T):=by
 have hh:=T.a;have hj:=T.f;refine T.bV.F.okX Ew (λvs H Q E h=>?_) (λcw A outer s H vs Q E au h=>?_)
 ·obtain⟨p,ai,fp,rfl,_⟩:=h
  rfl
 ·have hu:=au.hu;obtain⟨p,ai,fp,rfl,cu,bh,q⟩:=h;refine⟨_,(bq (c' (s4 rfl (fg (x:="row") (zs:=[]) (ix:=[]) (cq tI) ["hall"] rfl rfl (by decide+kernel)) (fh (K:=K) rfl (ke (pv 0) T.a T.bA (zb T) au cT)) (λcl C s H fp=>⟨(cP (i:=0) (show(["row"]:List Str).Nodup by decide+kernel) rfl (Or.inl rfl)),fR,(c_ (ixk K) (pv 0) Zg (λ_ _=>rfl))⟩)))),?_⟩
  try dsimp only[L2.cxX,L2.ZL,L2.Zl]
  walk_at "rds";intro u ao bs uy je eF du;have uz:=du.length;have am:bs.length<sizeLine:=ej (by rw[uz];exact bh);walk_at "rds";refine VW (e7 (SqL.of eF)) am (λ_=>true) (λi=> .int (ai.belts.getD i dB).start) (λi H' cL hi aI k=>?_) (λi H' cL hi _ aI k=>?_) (λr H' au aI lc=>?_)
  ·walk_at "rds";exact k H' (Zc.refl H')
  ·have eG:i<ai.belts.length:=by omega
   obtain⟨t,hG,gf⟩:=du.getD (i:=i) eG;rw[hG];have k9:=aI _ _ gf;generalize ai.belts.getD i dB=bb at*;dsimp only[B5.v] at k9;walk_at "rds";exact k H' (Zc.refl H')
  ·refine q r H' (iF je au) (je.trans aI) ?_;rw[lc,Ql.mpr (by simp),uz];unfold startsL;refine congrArg (λz=>some (HO.lst z)) ?_;refine Q7 (by simp) λi aq av=>?_;have:i<ai.belts.length:=by simpa using aq
   simp[List.getD,this]
end
def Gg{K:Frag}{mg:Str→Option Value}(T:Tp K mg):Sp:=λvs H Q E=>∃(p c:Addr)(ai:HM)(fp:List Addr)(ys:List V)(aR:List (List Int)),vs=[.ref p,.ref c]∧dz T H p ai fp∧ai.belts.length≤1000∧H c=some (.lst ys)∧dN H ys aR∧aR.length≤1000∧
 (¬hZ aR (startsL ai.belts)→∀H',Zc H H'→E (.ref T.r) none H')∧(hZ aR (startsL ai.belts)→∀H',Zc H H'→Q .non H')
section
variable {P:Program}{w:World}{K:Frag}{mg:Str→Option Value}{base:Heap}
theorem Gh(T:Tp K mg):OkN P w base 3 T.bW (Gg T):=by
 refine T.bW.F.okX yo (λvs H Q E h=>?_) (λcw A outer s H vs Q E au h=>?_)
 ·obtain⟨p,c,ai,fp,ys,aR,rfl,_⟩:=h
  rfl
 ·have hu:=au.hu;obtain⟨p,c,ai,fp,ys,aR,rfl,cu,bh,aG,c2,hk,aV,q⟩:=h;have f9:=c2.length;refine⟨_,(bg (cN (i:=2) yo.nd rfl (Or.inl rfl) (dq T.bV (Gf T) au cT (ay (pv 0) aH)))
     (bg (dM (dJ (hW (K:=K) rfl hu) (dj (fF K) (by rfl) T.e Qn (ay (pv 1) aH)) (dj (fF K) (by rfl) T.e Qn (ay (pv 2) aH)) (da _)) (bq (hz T.x.g T.x.e Qi rfl (ay Yl aH))) d5)
     (bq (dM (gD (fW (K:=K) rfl (dj (qx (K:=K) rfl rfl) (by rfl) T.aY Rl (ay (gu (xs:=["lying","start"]) rfl (fg (x:="lying") (zs:=[]) (ix:=[]) (cq tJ) ["hall","pieces","starts"] rfl rfl (by decide+kernel)) (D4 (K:=K) rfl rfl T.ch (ay (pv 1) (ay (pv 2) aH))) (λcl C s H fp=>⟨(gs (K:=K) (n:=2) rfl rfl (d0 (cP (i:=0) (show(["lying","start"]:List Str).Nodup by decide+kernel) rfl (Or.inl rfl)) (d0 (cP (i:=1) (show(["lying","start"]:List Str).Nodup by decide+kernel) rfl (Or.inl rfl)) gj))),fR,(jt (fN (K:=K) rfl hu) (dj (fF K) (by rfl) T.e Qn (ay (pv 0) aH)) (pv 1) (da _))⟩)) aH)) (λ_=>rfl))) (bq (hz T.x.g T.x.e Qi rfl (ay Yl aH))) d5)))),?_⟩
  try dsimp only[L2.cxX,L2.ZL,L2.Zl]
  walk_at "rds";refine⟨p,ai,fp,rfl,cu,bh,λr ao au aB hX=>?_⟩;have q_:=SqL.of (K:=K) (aB _ _ aG);have q':=SqL.of (K:=K) hX;have Gi:=c2.same aB;generalize startsL ai.belts=iI at*;walk_at "rds"
  by_cases dg:aR.length=iI.length
  ·rw[if_neg (by simp;omega)];walk_at "rds";refine⟨c,r,rfl,⟨_,q_⟩,⟨_,q'⟩,?_⟩;refine ZP (own:=2) (D7 q_ q' (by simp;omega)) (ej (by omega)) (λi=>[some (ys.getD i .non),some (.int (iI.getD i 0))]) (λ_=>rfl) (λ_=>true) (λi v _=>v= .bl (decide (((aR.getD i []).length:Int)=iI.getD i 0))) (λ_ _ _ _ _ z=>z) (λi cE H' v a2 e8 hi aI y dE k=>?_) (λi H' cL hi aI k=>?_) (λfO i H' cL hi ft hp0 eV aI k=>?_) (λd a2 zs hd aI dX iL=>?_)
   ·obtain⟨t,aT,rfl,rfl⟩:=y;obtain⟨x1,x2,rfl⟩:∃x1 x2,cE=[x1,x2]:=by
     match cE,dE with
     | [x1,x2],_=>exact⟨x1,x2,rfl⟩
    have jJ:i<iI.length:=by omega
    have Gj:(iI.map V.int).getD i .non= .int (iI.getD i 0):=by rw[dh jJ];simp[List.getD,jJ]
    rw[Gj];refine Rd.Wu (.of Ze) rfl ?_;walk_at "rds";exact k _ (cF aT)
   ·walk_at "rds";exact k H' (Zc.refl H')
   ·obtain⟨t,cZ,aT⟩:=Wd Gi (i:=i) (by omega);rw[cZ];have ra:=SqL.of (K:=K) (aI _ _ aT);walk_at "rds";refine k _ H' (Zc.refl H') ?_;rw[Qb]
   ·rw[Ql.mpr (by simp),f9] at iL;have ez:=t6 iL;have g9:=SqL.of (K:=K) (ez▸dX);have gC:=aB.trans aI;walk_at "rds"
    by_cases j7:hZ aR iI
    ·rw[Zaf.mpr j7.2];walk_at "rds";exact q j7 _ gC
    ·have aX:(((List.range aR.length).map λi=>decide (((aR.getD i []).length:Int)=iI.getD i 0)).all id)=false:=by
      cases e:(((List.range aR.length).map λi=>decide (((aR.getD i []).length:Int)=iI.getD i 0)).all id) with
      |false=>rfl
      |true=>exact absurd ⟨dg,Zaf.mp e⟩ j7
     rw[aX];walk_at "rds";exact aV j7 _ gC
  ·rw[if_pos (by simp;omega)];walk_at "rds";exact aV (λz=>dg z.1) _ aB
end
def zc{K:Frag}{mg:Str→Option Value}(T:Tp K mg):Sp:=λvs H Q E=>∃(p ap h:Addr)(ai:HM)(fp:List Addr),vs=[.ref p,.ref h]∧H p=some (.ins T.b ap [])∧H ap=some (.own p)∧dz T H h ai fp∧ai.names.length≤1000∧ai.belts.length≤1000∧
 ∀(H':Hp)(cC:List Addr),gv T H' p ⟨ai.names.length,ai.belts,ai.belts.map B5.start⟩ cC→(∀x∈cC,x=p∨x=ap∨H x=none)→(∀b o,H b=some o→b≠p→H' b=some o)→Q .non H'
theorem UR{K:Frag}{mg:Str→Option Value}{T:Tp K mg}{H:Hp}{h:Addr}{ai:HM}{fp:List Addr}{Q:Addr→Hp→Prop}{E:XK}(cu:dz T H h ai fp)(bL:ai.names.length≤1000)(am:ai.belts.length≤1000)
  (q:∀(p:Addr)(cC:List Addr)(H':Hp),gv T H' p ⟨ai.names.length,ai.belts,ai.belts.map B5.start⟩ cC→(∀x∈cC,H x=none)→Zc H H'→Q p H'):
  ∀x ap,H x=none→H ap=none→ap≠x→zc T (.ref x::([.ref h]++ [])) (upd (upd H ap (.own x)) x (.ins T.b ap [])) (λv ar=>v= .non∧Q x ar) E:=by
 intro x ap al eW ne;have aI:Zc H (upd (upd H ap (.own x)) x (.ins T.b ap [])):=λb o e=>by rw[bJ (dG e al),bJ (dG e eW)];exact e
 refine⟨x,ap,h,ai,fp,rfl,Ze,by rw[bJ ne,Ze],cu.same aI,bL,am,λH' cC cu aX aA=>⟨rfl,q x cC H' cu (λy cx=>?_) (λb o e=>aA b o (aI b o e) (dG e al))⟩⟩;rcases aX y cx with rfl|rfl|h
 ·exact al
 ·exact eW
 ·by_cases aq:y=x
  ·rw[aq];exact al
  ·by_cases av:y=ap
   ·rw[av];exact eW
   ·rw[bJ aq,bJ av] at h;exact h
theorem Ziq{H0 H:Hp}{n:Nat}{r:Addr}{f:Int→List (Int×Int)}{ys:List V}(h:Paired (λ(i:Nat) v=>∃x vs,v=V.ref x∧H0 x=none∧(hid H r) x=some (.lst vs)∧gV (hid H r) (f (0+(i:Int))) vs) ((List.range n).filter λ_=>true) ys):
  ∃em:List Addr,ys=em.map V.ref∧(∀x∈em,H0 x=none∧x≠r)∧LL H ((List.range n).map λw:Nat=>f w) em:=by
 rw[Ql.mpr (by simp)] at h;generalize List.range n=is at h
 induction h with
 |nil=>exact⟨[],rfl,by simp,.nil⟩
 | @cons i v is ys cu t cI=>
  obtain⟨em,e,d,l⟩:=cI;obtain⟨x,vs,rfl,c7,aq,av⟩:=cu;rw[Int.zero_add] at av;have nx:x≠r:=λz=>by rw[z,jz] at aq;cases aq
  refine⟨x::em,by rw[e];rfl,λy cx=>?_,.cons ⟨vs,iz _ _ aq,av.keep λb xs z=>iz _ _ z⟩ l⟩;rcases Qe.mp cx with rfl|cx
  ·exact⟨c7,nx⟩
  ·exact d y cx
section
variable {P:Program}{w:World}{K:Frag}{mg:Str→Option Value}{base:Heap}
theorem zd(T:Tp K mg):OkI P w mg base 7 T.bB (zc T):=by
 have lf:=T.g;have lg:=T.o;have hh:=T.a;have hj:=T.f;refine T.bB.F.okX yp (λvs H Q E h=>?_) (λcw A outer s H vs Q E au h=>?_)
 ·obtain⟨p,ap,h,ai,fp,rfl,_⟩:=h
  rfl
 ·have hu:=au.hu;obtain⟨p,ap,aS,ai,fp,rfl,a1,eW,cu,bL,jK,q⟩:=h;have ze:p∉fp:=by
   intro z;obtain⟨qd,a,b,bs,rfl,aq,av,b_,cA,gZ,cY⟩:=cu;simp only[Qe,QR,or_false] at z;rcases z with rfl|rfl|rfl|rfl
   ·rw[aq] at a1
    injection a1 with e
    injection e with aV a8 eP
    cases eP
   ·rw[av] at a1;cases a1
   ·rw[b_] at a1;cases a1
   ·rw[cA] at a1;cases a1
  refine⟨_,(bg (cN (i:=2) yp.nd rfl (Or.inl rfl) (dj (fF K) (by rfl) T.e Qn (ay (ke (pv 1) T.a T.bz (za T) au cT) aH)))
     (bg (h_ (K:=K) rfl (pv 0) (gu (xs:=["work"]) rfl (fg (x:="work") (zs:=["hall"]) (ix:=[1]) (cq o_) ["self","hall","works"] rfl rfl (by decide+kernel)) (js rfl T.q (ay (pv 2) aH)) (λcl C s H fp=>⟨(cP (i:=0) (show(["work","hall"]:List Str).Nodup by decide+kernel) rfl (Or.inl rfl)),fR,(dq T.bx (y7 T) au Wy (ay (pv 1) (ay (pv 0) aH)))⟩)) rfl)
     (bg (h_ (K:=K) rfl (pv 0) (gu (xs:=["work"]) rfl (fg (x:="work") (zs:=["hall"]) (ix:=[1]) (cq o_) ["self","hall","works"] rfl rfl (by decide+kernel)) (js rfl T.q (ay (pv 2) aH)) (λcl C s H fp=>⟨(cP (i:=0) (show(["work","hall"]:List Str).Nodup by decide+kernel) rfl (Or.inl rfl)),fR,(dq T.bw (y6 T) au Wy (ay (pv 1) (ay (pv 0) aH)))⟩)) rfl)
     (bq (h_ (K:=K) rfl (pv 0) (s4 rfl (fg (x:="row") (zs:=[]) (ix:=[]) (cq o_) ["self","hall","works"] rfl rfl (by decide+kernel)) (fh (K:=K) rfl (ke (pv 1) T.a T.bA (zb T) au cT)) (λcl C s H fp=>⟨(cP (i:=0) (show(["row"]:List Str).Nodup by decide+kernel) rfl (Or.inl rfl)),fR,(c_ (ixk K) (pv 0) Zg (λ_ _=>rfl))⟩)) rfl))))),?_⟩
  try dsimp only[L2.cxX,L2.ZL,L2.Zl]
  walk_at "rds";refine⟨aS,ai,fp,rfl,cu,λnm ao k_ aB OG=>?_⟩;have lb:=cu.same aB;have eV:=aB _ _ a1;have Gk:=aB _ _ eW;have rb:(ai.names.map V.str).length=ai.names.length:=by simp
  walk_at "rds";refine ZP (own:=1) U2.y (ej (by rw[rb];exact bL)) (λi=>[some (.int (0+(i:Int)))]) (λ_=>rfl) (λ_=>true) (λ(i:Nat) v ar=>∃x vs,v=V.ref x∧ao x=none∧ar x=some (.lst vs)∧gV ar (takeRow ai.belts (0+(i:Int))) vs) (λ_ _ _ _ e ⟨x,vs,eT,d_,la,uA⟩=>⟨x,vs,eT,d_,e _ _ la,uA.keep λ_ _ z=>e _ _ z⟩) (λi cE H' v ar e8 hi aI y dE k=>?_) (λi H' cL hi aI k=>?_) (λfO i H' cL hi aG hp0 hp1' aI k=>?_) (λfy ar ys hra bc zf c2=>?_)
  ·obtain⟨rfl,rfl⟩:=y;obtain⟨x1,rfl⟩:∃x1,cE=[x1]:=by
    match cE,dE with
    | [x1],_=>exact⟨x1,rfl⟩
   walk_at "rds";exact k _ (Zc.refl _)
  ·walk_at "rds";exact k H' (Zc.refl H')
  ·walk_at "rds";refine⟨aS,0+(i:Int),ai,fp,rfl,lb.same aI,jK,by omega,by omega,λx a2 vs al be o5 dH=>?_⟩;refine k _ a2 be ⟨x,vs,rfl,?_,xh hp1' al o5,dH.keep λb xs z=>Zd8 hp1' be z⟩;cases e:ao x with
   |none=>rfl
   |some o=>rw[aI _ _ e] at al;cases al
  obtain⟨em,rfl,g0,zg⟩:=Ziq c2;rw[rb,QH] at zg;have nE:=bc _ _ eV;have jv:=bc _ _ Gk;have hC:=lb.same bc;have nD:p≠ap:=hJ a1 eW (by intro z;cases z);have uB:p≠fy:=hJ nE zf (by intro z;cases z);have zh:∀{x:Addr},ao x=none→H x=none:=λ{x} al=>by
   cases e:H x with
   |none=>rfl
   |some o=>rw[aB _ _ e] at al;cases al
  walk_at "rds";have cX:Zr [p] ar (upd ar p (.ins T.b ap [("takes",.ref fy)])):=fu (by simp) nE (by intro _ z;cases z);have pj:(upd ar p (.ins T.b ap [("takes",.ref fy)])) p=some (.ins T.b ap [("takes",.ref fy)]):=Ze;have pk:=cX.keep _ _ jv (by simpa using nD.symm);have uC:=cX.keep _ _ zf (by simpa using uB.symm);have zi:=hC.off cX (λx al z=>ze (by rw[←Qm.mp z];exact al));have uD:∀x∈em,x≠p:=λx al z=>by
   have:=(g0 x al).1;rw[z,eV] at this;cases this
  have zj:LL (upd ar p (.ins T.b ap [("takes",.ref fy)])) _ em:=zg.keep cX.tups (λx al=>bJ (uD x al));have k3:∀b o,H b=some o→b≠p→(upd ar p (.ins T.b ap [("takes",.ref fy)])) b=some o:=λb o e n=>cX.keep _ _ (bc _ _ (aB _ _ e)) (by simpa using n);generalize upd ar p (.ins T.b ap [("takes",.ref fy)])=a2 at*;clear cX;walk_at "rds";refine ZP (own:=1) U2.y (ej (by rw[rb];exact bL)) (λi=>[some (.int (0+(i:Int)))]) (λ_=>rfl) (λ_=>true) (λ(i:Nat) v ar=>∃x vs,v=V.ref x∧a2 x=none∧ar x=some (.lst vs)∧gV ar (giveRow ai.belts (0+(i:Int))) vs) (λ_ _ _ _ e ⟨x,vs,eT,d_,la,uA⟩=>⟨x,vs,eT,d_,e _ _ la,uA.keep λ_ _ z=>e _ _ z⟩) (λi cE H' v ar e8 hi aI y dE k=>?_) (λi H' cL hi aI k=>?_) (λfO i H' cL hi aG hp0 hp1' aI k=>?_) (λh1 a3 ys hrb cp zk lh=>?_)
  ·obtain⟨rfl,rfl⟩:=y;obtain⟨x1,rfl⟩:∃x1,cE=[x1]:=by
    match cE,dE with
    | [x1],_=>exact⟨x1,rfl⟩
   walk_at "rds";exact k _ (Zc.refl _)
  ·walk_at "rds";exact k H' (Zc.refl H')
  ·walk_at "rds";refine⟨aS,0+(i:Int),ai,fp,rfl,zi.same aI,jK,by omega,by omega,λx bH vs al cK hx5 dH=>?_⟩;refine k _ bH cK ⟨x,vs,rfl,?_,xh hp1' al hx5,dH.keep λb xs z=>Zd8 hp1' cK z⟩;cases e:a2 x with
   |none=>rfl
   |some o=>rw[aI _ _ e] at al;cases al
  obtain⟨fY,rfl,zl,zm⟩:=Ziq lh;rw[rb,QH] at zm;have zn:=cp _ _ pj;have Gm:=cp _ _ pk;have Gn:=cp _ _ uC;have nF:=zi.same cp;have Go:LL a3 _ em:=zj.keep (λb xs z=>cp _ _ z) (λx al=>by
   cases e:a2 x with
   |none=>exact absurd e (zj.dom x al)
   |some o=>exact cp _ _ e)
  have zo:p≠h1:=hJ zn zk (by intro z;cases z);have iU:∀{x:Addr},a2 x=none→H x=none:=λ{x} al=>by
   cases e:H x with
   |none=>rfl
   |some o=>
    by_cases n:x=p
    ·rw[n,pj] at al;cases al
    ·rw[k3 _ _ e n] at al;cases al
  walk_at "rds";have d1:Zr [p] a3 (upd a3 p (.ins T.b ap [("takes",.ref fy),("gives",.ref h1)])):=fu (by simp) zn (by intro _ z;cases z);have zp:(upd a3 p (.ins T.b ap [("takes",.ref fy),("gives",.ref h1)])) p=some (.ins T.b ap [("takes",.ref fy),("gives",.ref h1)]):=Ze;have zq:=d1.keep _ _ Gm (by simpa using nD.symm);have zr:=d1.keep _ _ Gn (by simpa using uB.symm);have zt:=d1.keep _ _ zk (by simpa using zo.symm);have y4:=nF.off d1 (λx al z=>ze (by rw[←Qm.mp z];exact al));have zu:∀x∈fY,x≠p:=λx al z=>by
   have:=(zl x al).1;rw[z,pj] at this;cases this
  have zv:LL (upd a3 p (.ins T.b ap [("takes",.ref fy),("gives",.ref h1)])) _ em:=Go.keep d1.tups (λx al=>bJ (uD x al));have zw:LL (upd a3 p (.ins T.b ap [("takes",.ref fy),("gives",.ref h1)])) _ fY:=zm.keep d1.tups (λx al=>bJ (zu x al));have k5:∀b o,H b=some o→b≠p→(upd a3 p (.ins T.b ap [("takes",.ref fy),("gives",.ref h1)])) b=some o:=λb o e n=>d1.keep _ _ (cp _ _ (k3 _ _ e n)) (by simpa using n);generalize upd a3 p (.ins T.b ap [("takes",.ref fy),("gives",.ref h1)])=bH at*;clear d1;walk_at "rds";intro u df bs uy d3 hu6 du;have k8:=du.length;have Gp:bs.length<sizeLine:=ej (by rw[k8];exact jK);walk_at "rds";refine VW (e7 (SqL.of hu6)) Gp (λ_=>true) (λi=> .int ((ai.belts.map B5.start).getD i 0)) (λi H' cL hi aI k=>?_) (λi H' cL hi _ aI k=>?_) (λjh c8 hrc d6 Gq=>?_)
  ·walk_at "rds";exact k H' (Zc.refl H')
  ·have eG:i<ai.belts.length:=by omega
   obtain⟨t,hG,gf⟩:=du.at (Qa eG);have eB:bs.getD i .non= .ref t:=by simp[List.getD,hG]
   have Gr:(ai.belts.map B5.start).getD i 0=ai.belts[i].start:=by simp[List.getD,eG]
   rw[eB];rw[Gr] at k;have k9:=aI _ _ gf;generalize ai.belts[i]=bb at*;dsimp only[B5.v] at k9;walk_at "rds";exact k H' (Zc.refl H')
  have zx:c8 jh=some (.lst ((ai.belts.map B5.start).map V.int)):=by
   rw[Gq,Ql.mpr (by simp),k8]
   congr 2
   refine Q7 (by simp) λi aq av=>?_;have:i<ai.belts.length:=by simpa using aq
   simp[List.getD,this]
  have rc:=d3.trans d6;have zy:=rc _ _ zp;have Gs:p≠jh:=hJ zy zx (by intro z;cases z);walk_at "rds";have ih:Zr [p] c8 (upd c8 p (.ins T.b ap [("takes",.ref fy),("gives",.ref h1),("heaps",.ref jh)])):=fu (by simp) zy (by intro _ z;cases z);have hq:∀x,x≠p→bH x≠none→(upd c8 p (.ins T.b ap [("takes",.ref fy),("gives",.ref h1),("heaps",.ref jh)])) x=bH x:=λx n d=>by
   rw[bJ n];cases e:bH x with
   |none=>exact absurd e d
   |some o=>exact rc _ _ e
  have mq:∀b xs,bH b=some (.tup xs)→(upd c8 p (.ins T.b ap [("takes",.ref fy),("gives",.ref h1),("heaps",.ref jh)])) b=some (.tup xs):=λb xs z=>ih.tups _ _ (rc _ _ z);have Gu:∀b o,H b=some o→b≠p→(upd c8 p (.ins T.b ap [("takes",.ref fy),("gives",.ref h1),("heaps",.ref jh)])) b=some o:=λb o e n=>ih.keep _ _ (rc _ _ (k5 _ _ e n)) (by simpa using n);have hP:∀{x:Addr},bH x=none→H x=none:=λ{x} al=>by
   cases e:H x with
   |none=>rfl
   |some o=>
    by_cases n:x=p
    ·rw[n,zp] at al;cases al
    ·rw[k5 _ _ e n] at al;cases al
  have nu:df jh=none→H jh=none:=λal=>hP (by
   cases e:bH jh with
   |none=>rfl
   |some o=>rw[d3 _ _ e] at al;cases al)
  refine q _ (p::ap::fy::h1::jh::(em++fY)) ⟨ap,fy,h1,jh,em,fY,rfl,Ze,?_,?_,?_,?_,zv.keep mq (λx al=>hq x (uD x al) (zv.dom x al)),zw.keep mq (λx al=>hq x (zu x al) (zw.dom x al)),by simp,Q3 _⟩ (λx al=>?_) Gu
  ·exact(hq _ nD.symm (by rw[zq];simp)).trans zq
  ·exact(hq _ uB.symm (by rw[zr];simp)).trans zr
  ·exact(hq _ zo.symm (by rw[zt];simp)).trans zt
  ·rw[bJ Gs.symm];exact zx
  ·simp only[Qe,QD] at al;rcases al with rfl|rfl|rfl|rfl|rfl|al|al
   ·exact .inl rfl
   ·exact .inr (.inl rfl)
   ·exact .inr (.inr (zh hra))
   ·exact .inr (.inr (iU hrb))
   ·exact .inr (.inr (nu hrc))
   ·exact .inr (.inr (zh (g0 x al).1))
   ·exact .inr (.inr (iU (zl x al).1))
end
def zz{K:Frag}{mg:Str→Option Value}(T:Tp K mg):Sp:=λvs H Q E=>∃(p ap c:Addr)(xs:List Int),vs=[.ref p,.ref c]∧H p=some (.ins T.j ap [])∧H ap=some (.own p)∧SqL K H c (xs.map V.int)∧xs.length≤1000000∧
 ∀(H':Hp)(cC:List Addr),fT T H' p xs cC→(∀x∈cC,x=p∨x=ap∨H x=none)→(∀b o,H b=some o→b≠p→H' b=some o)→Q .non H'
section
variable {P:Program}{w:World}{K:Frag}{mg:Str→Option Value}{base:Heap}
theorem Gv(T:Tp K mg):OkI P w mg base 1 T.bX (zz T):=by
 have li:=T.i;have lj:=T.w;refine T.bX.F.okX Ey (λvs H Q E h=>?_) (λcw A outer s H vs Q E au h=>?_)
 ·obtain⟨p,ap,c,xs,rfl,_⟩:=h
  rfl
 ·have hu:=au.hu;obtain⟨p,ap,c,xs,rfl,a1,eW,aG,hk,q⟩:=h;refine⟨_,(bg (h_ (K:=K) rfl (pv 0) (gP (i6 (K:=K) rfl) (by rfl) T.k Qw (ay (pv 1) aH)) rfl)
     (bq (h_ (K:=K) rfl (pv 0) Zg rfl))),?_⟩
  try dsimp only[L2.cxX,L2.ZL,L2.Zl]
  walk_at "rds";refine⟨c,_,rfl,.inl aG,λl ai=>?_⟩;have aB:Zc H (upd H l (.lst (xs.map V.int))):=cF ai;have eU:(upd H l (.lst (xs.map V.int))) l=some (.lst (xs.map V.int)):=Ze;generalize upd H l (.lst (xs.map V.int))=ao at*;have eV:=aB _ _ a1;have Gw:=aB _ _ eW;have eS:ap≠p:=λz=>by rw[z,a1] at eW;cases eW
  have eD:l≠p:=λz=>by rw[z,a1] at ai;cases ai
  walk_at "rds";refine q _ [p,ap,l] ⟨ap,l,xs,0,rfl,Ze,by rw[bJ eS,bJ eS];exact Gw,by rw[bJ eD,bJ eD];exact eU,Qx _,rfl,by omega⟩ (λx al=>?_) (λb o e kf=>by rw[bJ kf,bJ kf];exact aB _ _ e);simp only[Qe,QR,or_false] at al;rcases al with rfl|rfl|rfl
  ·exact .inl rfl
  ·exact .inr (.inl rfl)
  ·exact .inr (.inr ai)
end
theorem ZdR{K:Frag}{mg:Str→Option Value}{T:Tp K mg}{H:Hp}{c:Addr}{xs:List Int}{Q:Addr→Hp→Prop}{E:XK}(aG:SqL K H c (xs.map V.int))(bh:xs.length≤1000000)
  (q:∀(p:Addr)(cC:List Addr)(H':Hp),fT T H' p xs cC→(∀x∈cC,H x=none)→Zc H H'→Q p H'):
  ∀x ap,H x=none→H ap=none→ap≠x→zz T (.ref x::([.ref c]++ [])) (upd (upd H ap (.own x)) x (.ins T.j ap [])) (λv ar=>v= .non∧Q x ar) E:=by
 intro x ap al eW ne;have aI:Zc H (upd (upd H ap (.own x)) x (.ins T.j ap [])):=λb o e=>by rw[bJ (dG e al),bJ (dG e eW)];exact e
 refine⟨x,ap,c,xs,rfl,Ze,by rw[bJ ne,Ze],aI.seq aG,bh,λH' cC cu aX aA=>⟨rfl,q x cC H' cu (λy cx=>?_) (λb o e=>aA b o (aI b o e) (dG e al))⟩⟩;rcases aX y cx with rfl|rfl|h
 ·exact al
 ·exact eW
 ·by_cases aq:y=x
  ·rw[aq];exact al
  ·by_cases av:y=ap
   ·rw[av];exact eW
   ·rw[bJ aq,bJ av] at h;exact h
def zA{K:Frag}{mg:Str→Option Value}(T:Tp K mg):Sp:=λvs H Q E=>∃(p ap h c d:Addr)(ai:HM)(fp:List Addr)(c3:List V)(fss:List (List cV))(ys:List V)(aR:List (List Int)),vs=[.ref p,.ref h,.ref c,.ref d]∧H p=some (.ins T.h ap [])∧H ap=some (.own p)∧dz T H h ai fp∧ai.belts.length≤1000∧ai.names.length≤1000∧H c=some (.lst c3)∧f' H c3 fss∧fss.length≤1000∧Za7 fss∧H d=some (.lst ys)∧dN H ys aR∧aR.length≤1000∧(∀i<aR.length,(aR.getD i []).length≤100000)∧
 (¬gA ai.names.length ai.belts fss→∀H',Zc H H'→E (.ref T.t) none H')∧(gA ai.names.length ai.belts fss→¬hZ aR (startsL ai.belts)→∀H',Zc H H'→E (.ref T.r) none H')∧
 (gA ai.names.length ai.belts fss→hZ aR (startsL ai.belts)→∀(H':Hp)(cC:List Addr),fU T H' p ⟨ai.names.length,ai.belts,ai.belts.map B5.start⟩ fss (λi=>aR.getD i []) cC→(∀x∈cC,x=p∨x=ap∨H x=none)→(∀b o,H b=some o→b≠p→H' b=some o)→Q .non H')
theorem ZdV{K:Frag}{mg:Str→Option Value}{T:Tp K mg}{H:Hp}{h c d:Addr}{ai:HM}{fp:List Addr}{c3:List V}{fss:List (List cV)}{ys:List V}{aR:List (List Int)}{Q:Addr→Hp→Prop}{E:XK}(cu:dz T H h ai fp)(am:ai.belts.length≤1000)(bL:ai.names.length≤1000)(aG:H c=some (.lst c3))(fB:f' H c3 fss)(mj:fss.length≤1000)(g_:Za7 fss)(hd:H d=some (.lst ys))(c2:dN H ys aR)(hk:aR.length≤1000)(bh:∀i<aR.length,(aR.getD i []).length≤100000)
  (aV:¬gA ai.names.length ai.belts fss→∀H',Zc H H'→E (.ref T.t) none H') (a8:gA ai.names.length ai.belts fss→¬hZ aR (startsL ai.belts)→∀H',Zc H H'→E (.ref T.r) none H')
  (q:gA ai.names.length ai.belts fss→hZ aR (startsL ai.belts)→∀(p:Addr)(cC:List Addr)(H':Hp),fU T H' p ⟨ai.names.length,ai.belts,ai.belts.map B5.start⟩ fss (λi=>aR.getD i []) cC→(∀x∈cC,H x=none)→Zc H H'→Q p H'):
  ∀x ap,H x=none→H ap=none→ap≠x→zA T (.ref x::([.ref h,.ref c,.ref d]++ [])) (upd (upd H ap (.own x)) x (.ins T.h ap [])) (λv ar=>v= .non∧Q x ar) E:=by
 intro x ap al eW ne;have aI:Zc H (upd (upd H ap (.own x)) x (.ins T.h ap [])):=λb o e=>by rw[bJ (dG e al),bJ (dG e eW)];exact e
 refine⟨x,ap,h,c,d,ai,fp,c3,fss,ys,aR,rfl,Ze,by rw[bJ ne,Ze],cu.same aI,am,bL,aI _ _ aG,fB.keep (λb xs e=>aI _ _ e),mj,g_,aI _ _ hd,c2.same aI,hk,bh,λz H' s=>aV z H' (aI.trans s),λeT d_ H' s=>a8 eT d_ H' (aI.trans s),λeT d_ H' cC cu aX aA=>⟨rfl,q eT d_ x cC H' cu (λy cx=>?_) (λb o e=>aA b o (aI b o e) (dG e al))⟩⟩;rcases aX y cx with rfl|rfl|h
 ·exact al
 ·exact eW
 ·by_cases aq:y=x
  ·rw[aq];exact al
  ·by_cases av:y=ap
   ·rw[av];exact eW
   ·rw[bJ aq,bJ av] at h;exact h
section
variable {P:Program}{w:World}{K:Frag}{mg:Str→Option Value}{base:Heap}
theorem Gx(T:Tp K mg):OkI P w mg base 10 T.bY (zA T):=by
 have lf:=T.g;have lg:=T.o;have li:=T.i;have lj:=T.w;have nJ:=T.m;have nK:=T.z;refine T.bY.F.okX Ez (λvs H Q E h=>?_) (λcw A outer s H vs Q E au h=>?_)
 ·obtain⟨p,ap,h,c,d,ai,fp,c3,fss,ys,aR,rfl,_⟩:=h
  rfl
 ·have hu:=au.hu;obtain⟨p,ap,h,c,d,ai,fp,c3,fss,ys,aR,rfl,a1,eW,cu,jK,pi,aG,fB,mj,g_,hd,c2,OH,hk,aV,a8,q⟩:=h;refine⟨_,(bg (eK (dq T.bU (Gd T) au cT (ay (pv 1) (ay (pv 2) aH))))
     (bg (eK (dq T.bW (Gh T) au cT (ay (pv 1) (ay (pv 3) aH))))
     (bg (h_ (K:=K) rfl (pv 0) (th T.bB (zd T) au T.a6 cT (ay (pv 1) aH)) rfl)
     (bg (h_ (K:=K) rfl (pv 0) (gP (i6 (K:=K) rfl) (by rfl) T.k Qw (ay (pv 2) aH)) rfl)
     (bq (h_ (K:=K) rfl (pv 0) (gu (xs:=["lying"]) rfl (fg (x:="lying") (zs:=[]) (ix:=[]) (cq tK) ["self","hall","forms","pieces"] rfl rfl (by decide+kernel)) (fh (K:=K) rfl (pv 3)) (λcl C s H fp=>⟨(cP (i:=0) (show(["lying"]:List Str).Nodup by decide+kernel) rfl (Or.inl rfl)),fR,(th T.bX (Gv T) au T.bs Wy (ay (pv 0) aH))⟩)) rfl)))))),?_⟩
  try dsimp only[L2.cxX,L2.ZL,L2.Zl]
  walk_at "rds";refine⟨h,c,ai,fp,c3,fss,rfl,cu,jK,pi,SqL.of aG,fB,mj,g_,aV,λig ao aB=>?_⟩;walk_at "rds";refine⟨h,d,ai,fp,ys,aR,rfl,cu.same aB,jK,aB _ _ hd,c2.same aB,by omega,λz ar bc=>a8 ig z ar (aB.trans bc),λdH ar bc=>?_⟩;have ms:aR.length=ai.belts.length:=by rw[dH.1];simp[startsL]
  replace q:=q ig dH;have ll:=aB.trans bc;have hC:=cu.same ll;have nE:=ll _ _ a1;have zB:=ll _ _ eW;walk_at "rds";refine UR hC pi jK λdW dA a2 hF3 mu be=>?_;have gC:=ll.trans be;have pj:=be _ _ nE;have Gy:=be _ _ zB;have Gz:=gC _ _ aG;have pk:=gC _ _ hd;walk_at "rds";have GA:c≠p:=λz=>by rw[z,a1] at aG;cases aG
  have GB:d≠p:=λz=>by rw[z,a1] at hd;cases hd
  have zC:ap≠p:=λz=>by rw[z,a1] at eW;cases eW
  have rd:p∉dA:=λz=>by have:=mu p z;rw[nE] at this;cases this
  have zD:ap∉dA:=λz=>by have:=mu ap z;rw[zB] at this;cases this
  have q8:∀b o,a2 b=some o→b≠p→(upd a2 p (.ins T.h ap [("floor",.ref dW)])) b=some o:=λb o e n=>by rw[bJ n];exact e
  have re:(upd a2 p (.ins T.h ap [("floor",.ref dW)])) p=some (.ins T.h ap [("floor",.ref dW)]):=Ze;have c9:Zr [p] a2 (upd a2 p (.ins T.h ap [("floor",.ref dW)])):=fu (by simp) pj (by intro _ z;cases z);generalize upd a2 p (.ins T.h ap [("floor",.ref dW)])=a3 at*;have GC:=q8 _ _ Gz GA;refine⟨c,_,rfl,.inl (SqL.of GC),λl dX=>?_⟩;have cK:Zc a3 (upd a3 l (.lst c3)):=cF dX;have gb:(upd a3 l (.lst c3)) l=some (.lst c3):=Ze;generalize upd a3 l (.lst c3)=bH at*;have GD:=cK _ _ re;have pm:l≠p:=λz=>by rw[z,re] at dX;cases dX
  walk_at "rds";have rf:(upd bH p (.ins T.h ap [("floor",.ref dW),("forms",.ref l)])) p=some (.ins T.h ap [("floor",.ref dW),("forms",.ref l)]):=Ze;have kg:Zr [p] bH (upd bH p (.ins T.h ap [("floor",.ref dW),("forms",.ref l)])):=fu (by simp) GD (by intro _ z;cases z);generalize upd bH p (.ins T.h ap [("floor",.ref dW),("forms",.ref l)])=df at*;have mv:Zr [p] a2 df:=(c9.trans cK.frame).trans kg;have GF:=mv.keep _ _ pk (by simpa using GB);have zE:=SqL.of (K:=K) GF;have f9:=c2.length;have lm:∀i<aR.length,∃t,ys.getD i .non= .ref t∧df t=some (.lst ((aR.getD i []).map V.int)):=λi hi=>by
   obtain⟨t,e,aT⟩:=Wd c2 hi;exact⟨t,e,mv.keep _ _ (gC _ _ aT) (by
    rw[Qm];intro z;rw[z,a1] at aT;cases aT)⟩
  have uE:=kg.keep _ _ gb (by simpa using pm);have uF:=mv.keep _ _ Gy (by simpa using zC);have pp:=hF3.off mv (λx al=>by
   rw[Qm];intro z;rw[z] at al;exact rd al)
  have uG:l∉dA:=λz=>(hF3.off c9 (λx al=>by
   rw[Qm];intro z;rw[z] at al;exact rd al)).dom l z dX
  have zF:a2 l=none:=by
   cases e:a2 l with
   |none=>rfl
   |some o=>rw[q8 l o e pm] at dX;cases dX
  refine⟨d,rfl,⟨_,zE⟩,?_⟩;refine ZfW (own:=1) (e7 zE).y (ej (by omega)) (λi=>[some (ys.getD i .non)]) (λ_=>rfl) (λi v cC H'=>∃a,v=V.ref a∧fT T H' a (aR.getD i []) cC) (λi v cC G1 G2 e ⟨a,eT,d_⟩=>⟨a,eT,d_.same e⟩) (λi v cC G1 ⟨a,eT,d_⟩=>d_.dom) (λi cE H' v a2 e8 hi aI y dE k=>?_) (λi H' cL hi aI k=>?_) (λfO i H' cL hi hp0 eV aI k=>?_) (λeo c8 zs fs iM d6 GG rh i2 hLs hDs zG=>?_)
  ·obtain⟨rfl,rfl⟩:=y;obtain⟨x1,rfl⟩:∃x1,cE=[x1]:=by
    match cE,dE with
    | [x1],_=>exact⟨x1,rfl⟩
   walk_at "rds";exact k _ (Zc.refl _)
  ·walk_at "rds";exact k H' (Zc.refl H')
  ·have rj:i<aR.length:=by omega
   obtain⟨t,cZ,aT⟩:=lm i rj;rw[cZ];walk_at "rds";refine ZdR (SqL.of (aI _ _ aT)) (by have:=hk i rj;omega) λa GH fM hla8 hna fS=>?_;exact k _ GH fM fS ⟨a,rfl,hla8.hid' (λz=>by
    obtain⟨zs,e⟩:=eV;have:=hna fO z;rw[e] at this;cases this)⟩ hna
  ·obtain⟨as,rfl,has⟩:=ZiX rh λi hi=>(by obtain⟨a,e,_⟩:=hLs i hi;exact⟨a,e⟩);have GI:=d6 _ _ rf;have gc:eo≠p:=λz=>by rw[z,rf] at iM;cases iM
   have OI:eo≠ap:=λz=>by rw[z,uF] at iM;cases iM
   have uh:eo≠l:=λz=>by rw[z,uE] at iM;cases iM
   have GJ:eo∉dA:=λz=>pp.dom eo z iM;have nI:as.length=ai.belts.length:=by omega
   walk_at "rds";have ih:Zr [p] c8 (upd c8 p (.ins T.h ap [("floor",.ref dW),("forms",.ref l),("lanes",.ref eo)])):=fu (by simp) GI (by intro _ z;cases z);have ff:∀i<as.length,∀x∈fs.getD i [],x∉p::ap::l::eo::dA:=λi hi x al z=>by
    obtain⟨aV,a8⟩:=zG i (by omega) x al;simp only[Qe] at z;rcases z with z|z|z|z|z
    ·rw[z,rf] at aV;cases aV
    ·rw[z,uF] at aV;cases aV
    ·rw[z,uE] at aV;cases aV
    ·exact a8 z
    ·exact pp.dom x z aV
   have hd:∀x∈dA,x∉[p,ap,l,eo]:=λx al z=>by
    simp only[Qe,QR,or_false] at z;rcases z with rfl|rfl|rfl|rfl
    ·exact rd al
    ·exact zD al
    ·exact uG al
    ·exact GJ al
   have jF:∀x:Addr,x≠p→x∉[p]:=λx z=>by simpa using z
   have GK:∀x,a2 x=none→H x=none:=λx e=>iF gC e;have zH:∀x,df x=none→H x=none:=λx e=>by
    cases a8:H x with
    |none=>rfl
    |some o=>
     by_cases z:x=p
     ·rw[z,rf] at e;cases e
     ·rw[mv.keep _ _ (gC _ _ a8) (jF x z)] at e;cases e
   refine q _ ((p::ap::l::eo::dA)++gX as.length λi=>fs.getD i []) ⟨ap,dW,l,eo,dA,c3,as,λi=>fs.getD i [],rfl,Ze,ih.keep _ _ (d6 _ _ uF) (jF _ zC),(pp.same d6).off ih (λx al=>jF x (λz=>rd (z▸al))),ih.keep _ _ (d6 _ _ uE) (jF _ pm),((fB.keep (λb xs e=>gC _ _ e)).keep mv.tups).keep (λb xs e=>ih.tups _ _ (d6 _ _ e)),ih.keep _ _ GG (jF _ gc),nI,⟨λi hi=>?_,λi j hi aU nij x al=>?_⟩,ff,hd⟩ (λx al=>?_) (λb o e kf=>?_)
   ·obtain⟨a,ea,iM⟩:=hLs i (by omega);have ou:(as.map V.ref).getD i .non= .ref (as.getD i 0):=by simp[List.getD,hi]
    rw[ou] at ea;cases ea;exact(iM.same iz).off ih (λx al=>jF x (λz=>ff i hi x al (by simp[z])))
   ·rcases Nat.lt_or_gt_of_ne nij with z|z
    ·exact hDs i j z (by omega) x al
    ·exact λy=>hDs j i z (by omega) x y al
   ·rcases QD.mp al with al|al
    ·simp only[Qe] at al;rcases al with rfl|rfl|rfl|rfl|al
     ·exact .inl rfl
     ·exact .inr (.inl rfl)
     ·exact .inr (.inr (GK _ zF))
     ·exact .inr (.inr (zH _ iM))
     ·exact .inr (.inr (iF ll (mu x al)))
    ·obtain⟨i,hi,al⟩:=W0.mp al;exact .inr (.inr (zH _ (zG i (by omega) x al).1))
   ·exact ih.keep _ _ (d6 _ _ (mv.keep _ _ (gC _ _ e) (jF b kf))) (jF b kf)
end
def GL{K:Frag}{mg:Str→Option Value}(T:Tp K mg):Sp:=λvs H Q E=>∃(h c d:Addr)(ai:HM)(fp:List Addr)(c3:List V)(fss:List (List cV))(ys:List V)(aR:List (List Int)),vs=[.ref h,.ref c,.ref d]∧dz T H h ai fp∧ai.belts.length≤1000∧ai.names.length≤1000∧H c=some (.lst c3)∧f' H c3 fss∧fss.length≤1000∧Za7 fss∧H d=some (.lst ys)∧dN H ys aR∧aR.length≤1000∧(∀i<aR.length,(aR.getD i []).length≤100000)∧
 (¬gA ai.names.length ai.belts fss→∀u H',Zc H H'→H' u=some (.tup [.non,.int 0])→Q (.ref u) H')∧(gA ai.names.length ai.belts fss→¬hZ aR (startsL ai.belts)→∀u H',Zc H H'→H' u=some (.tup [.non,.int 1])→Q (.ref u) H')∧
 (gA ai.names.length ai.belts fss→hZ aR (startsL ai.belts)→∀(p u:Addr)(cC:List Addr)(H':Hp),fU T H' p ⟨ai.names.length,ai.belts,ai.belts.map B5.start⟩ fss (λi=>aR.getD i []) cC→(∀x∈cC,H x=none)→Zc H H'→H' u=some (.tup [.ref p,.non])→Q (.ref u) H')
section
variable {P:Program}{w:World}{K:Frag}{mg:Str→Option Value}{base:Heap}
theorem rk(T:Tp K mg):OkN P w base 12 T.bj (GL T):=by
 have nJ:=T.m;have nK:=T.z;refine T.bj.F.okX nl (λvs H Q E h=>?_) (λcw A outer s H vs Q E au h=>?_)
 ·obtain⟨h,c,d,ai,fp,c3,fss,ys,aR,rfl,_⟩:=h
  rfl
 ·have hu:=au.hu;obtain⟨h,c,d,ai,fp,c3,fss,ys,aR,rfl,cu,jK,pi,aG,fB,mj,g_,hd,c2,hk,bh,aV,a8,q⟩:=h;refine⟨_,(bg (cN (i:=3) nl.nd rfl (Or.inl rfl) Wj)
     (bg (cN (i:=4) nl.nd rfl (Or.inl rfl) Wj)
     (bg (xk (j:=5) rfl rfl rfl T.ag.m (λJ hV pn jy ownT rl=>(bq (cN (i:=3) nl.nd rfl (Or.inl rfl) (DW T.bY (Gx T) au T.br rl (ay (pv 0) (ay (pv 1) (ay (pv 2) aH))))))) (λea=>(bq (cN (i:=4) nl.nd rfl (Or.inl rfl) (xw T.bu (y5 T) (au.held ea) Wy (ay (pv 5) aH))))) nl.nd rfl rfl)
     (bq (c' (g8 (ay (pv 3) (ay (pv 4) aH)))))))),?_⟩
  try dsimp only[L2.cxX,L2.ZL,L2.Zl]
  walk_at "rds";refine L2.Rd.ZgL (λcls _ H'=>Zc H H'∧∃i:Nat,i<2∧cls= .ref (kC T i)∧(i=0→¬gA ai.names.length ai.belts fss)∧(i=1→gA ai.names.length ai.belts fss∧¬hZ aR (startsL ai.belts))) ?_ ?_
  ·walk_at "rds";refine ZdV cu jK pi aG fB mj g_ hd c2 hk bh (λz H' s=>⟨s,0,by omega,rfl,λ_=>z,λy=>(by cases y)⟩) (λeT d_ H' s=>⟨s,1,by omega,rfl,λy=>(by cases y),λ_=>⟨eT,d_⟩⟩) λeT d_ p cC ao a4 bL aB=>?_;walk_at "rds";refine⟨by show 2≤sizeLine;decide,λu eF=>?_⟩;exact q eT d_ p u cC _ (a4.same (cF eF)) bL (aB.trans (cF eF)) Ze
  ·rintro cls ao ⟨aB,i,hi,rfl,zI,nL⟩;refine⟨by match i,hi with|0,_=>exact T.G|1,_=>exact T.A,_,rfl,λea o6=>?_⟩;have bc:Zc ao (upd ao ea (fv ea (kC T i))):=cF o6;have fG:(upd ao ea (fv ea (kC T i))) ea=some (fv ea (kC T i)):=Ze;generalize upd ao ea (fv ea (kC T i))=ar at*;walk_at "rds";refine⟨i,rfl,by omega,fG,λa2 be=>?_⟩;walk_at "rds";refine⟨by show 2≤sizeLine;decide,λu eF=>?_⟩;have cp:=((aB.trans bc).trans be).trans (cF eF (o:= .tup [.non,.int i]))
   match i,hi with
   |0,_=>exact aV (zI rfl) u _ cp Ze
   |1,_=>exact a8 (nL rfl).1 (nL rfl).2 u _ cp Ze
end
def GN{K:Frag}{mg:Str→Option Value}(T:Tp K mg):Sp:=λvs H Q _=>∃(c:Int)(m:Nat),vs=[.int c,.int m]∧m≤8∧
 ∀(r:Addr)(H':Hp)(dw:List Str),H r=none→Zc H H'→H' r=some (.lst (dw.map V.str))→(∀n∈dw,gU n=true)→dw.Nodup→dw.length=m→(∃gy:Nat,∀n∈dw,n.length=gy)→Q (.ref r) H'
section
variable {P:Program}{w:World}{K:Frag}{mg:Str→Option Value}{base:Heap}
theorem GO(T:Tp K mg):OkN P w base 1 T.bZ (GN T):=by
 refine T.bZ.F.okX i_ (λvs H Q E h=>?_) (λcw A outer s H vs Q E au h=>?_)
 ·obtain⟨c,m,rfl,_⟩:=h
  rfl
 ·have hu:=au.hu;obtain⟨c,m,rfl,a4,q⟩:=h;have yu:=ET;refine⟨_,(bg (cN (i:=2) i_.nd rfl (Or.inl rfl) Yl)
     (bg (cN (i:=3) i_.nd rfl (Or.inl rfl) (ck (fi K) Zg (ck eh (pv 0) Zg)))
     (bg (cN (i:=4) i_.nd rfl (Or.inl rfl) (ck eh (ck fJ (pv 0) Zg) (pv 3)))
     (bg (cN (i:=5) i_.nd rfl (Or.inl rfl) (f6 aH))
     (bg (fz PassesOwn.leaving rfl (js rfl T.q (ay (pv 1) aH)) (cP (i:=6) i_.nd rfl (Or.inl rfl)) (bg (cN (i:=7) i_.nd rfl (Or.inl rfl) Yl)
     (bg (fz PassesOwn.leaving rfl (js rfl T.q (ay (pv 3) aH)) (cP (i:=8) i_.nd rfl (Or.inl rfl)) (bg (cN (i:=9) i_.nd rfl (Or.inl rfl) (ck fJ (pv 0) (ck (fi K) Zg (pv 8))))
     (bg (lY (dM (dJ (fN (K:=K) rfl hu) (pv 8) (pv 4) (da _)) (bq (cN (i:=9) i_.nd rfl (Or.inl rfl) (ck (fi K) (ck fJ (pv 0) Zg) (ck gK Zg (pv 6))))) d5))
     (bq (cN (i:=7) i_.nd rfl (Or.inl rfl) (ck (fi K) (pv 7) (c_ (ixk K) (pv 2) (ck eh (pv 9) Zg) (λ_ _=>rfl))))))))
     (bq (eK (hA (K:=K) rfl Qo Qz QA hS (pv 5) (ay (pv 7) aH)))))))
     (bq (c' (pv 5)))))))),?_⟩
  try dsimp only[L2.cxX,L2.ZL,L2.Zl]
  have dC:0<1+c % 8:=by omega
  walk_at "rds";have dv:=QT (c / 8) (show 1+c % 8≠0 by omega);have dk:=QN (c / 8) dC;generalize c / 8 % (1+c % 8)=at_ at*;obtain⟨gy,GP⟩:∃l:Nat,1+c % 8=(l:Int):=⟨(1+c % 8).toNat,by omega⟩;rw[GP] at dk⊢;have GQ:1≤gy:=by omega
  have GR:gy≤8:=by omega
  refine⟨Qx _,λr au=>?_⟩;have aB:Zc H (upd H r (.lst [])):=cF au;have eU:(upd H r (.lst [])) r=some (.lst (([]:List Str).map V.str)):=Ze;generalize upd H r (.lst [])=ao at*;walk_at "rds";refine WF (n:=m) (λi σ H'=>∃(dw:List Str)(a6 a7 hD a9:Option V),σ=[some (.int c),some (.int m),some (.str "abcdefghijklmnopqrstuvwxyz"),some (.int gy),some (.int at_),some (.ref r),a6,a7,hD,a9]∧Zc H H'∧H' r=some (.lst (dw.map V.str))∧dw.length=i∧Ub c at_ gy dw) ⟨[],_,_,_,_,rfl,aB,eU,rfl,⟨λk x e=>by simp at e⟩⟩ ?_ ?_
  ·rintro i σ ar hi ⟨dw,a6,a7,hD,a9,rfl,bc,fx,fL,hQ⟩;have bh:(dw.map V.str).length<sizeLine:=ej (by rw[Qb];omega);walk_at "rds";refine WF (n:=gy) (λj σ H'=>H'=ar∧∃(w:Str)(hD a9:Option V),σ=[some (.int c),some (.int m),some (.str "abcdefghijklmnopqrstuvwxyz"),some (.int gy),some (.int at_),some (.ref r),some (.int (0+(i:Int))),some (.str w),hD,a9]∧w.cps.toList=(List.range j).map (chN c at_ i)) ⟨rfl,"",_,_,rfl,rfl⟩ ?_ ?_
   ·rintro j σ H' aU ⟨rfl,w,b8,b9,rfl,hw⟩;have jY:0<64+(0+(j:Int))∧(64+(0+(j:Int))).natAbs.log2<9000:=⟨by omega,qT (by omega) (by omega)⟩;walk_at "rds";refine Rd.cut (λaW ar=>ar=H'∧∃t:Int,aW=[some (.int c),some (.int m),some (.str "abcdefghijklmnopqrstuvwxyz"),some (.int gy),some (.int at_),some (.ref r),some (.int (0+(i:Int))),some (.str w),some (.int (0+(j:Int))),some (.int t)]∧chN c at_ i j=97+(t % 26).toNat) ?k1 ?eC
    case eC=>
     walk_at "rds";refine Rd.ifD (λz=>?_) (λz=>?_)
     ·walk_at "rds";refine⟨rfl,_,rfl,?_⟩;unfold chN;rw[if_pos (by omega),Int.zero_add]
     ·walk_at "rds";refine⟨rfl,_,rfl,?_⟩;unfold chN;rw[if_neg (by omega),Int.zero_add]
    case k1=>
     rintro aW a2 ⟨rfl,t,rfl,aT⟩;walk_at "rds";have iK:0≤t % 26:=by omega
     have jH:t % 26<26:=by omega
     refine Rd.Zk8 yu (EU iK jH) ?_;rw[←aT];have GS:w.length=j:=by rw[t7,hw];simp
     refine Rd.Zjp (QW (ej (by rw[GS];show j+1≤1000;omega))) ?_;walk_at "rds";refine⟨rfl,_,_,_,rfl,?_⟩;rw[ZfL,hw,Rk,QQ]
     rfl
   ·rintro σ H' ⟨rfl,w,b8,b9,rfl,hw⟩;walk_at "rds";refine⟨dw++ [w],_,_,_,_,rfl,bc.new au,by rw[Ze,QQ];rfl,by simp[fL],⟨λk x e=>?_⟩⟩;rcases RH k dw.length with z|z
    ·rw[Re z] at e;exact hQ.cps k x e
    ·rw[Rb z] at e;have aA:k-dw.length=0:=by
      rcases Nat.eq_zero_or_pos (k-dw.length) with y|y
      ·exact y
      ·rw[List.getElem?_eq_none (by simp;omega)] at e;cases e
     rw[aA] at e;obtain rfl:w=x:=by simpa using e
     have:k=i:=by omega
     rw[this];exact hw
  ·rintro σ ar ⟨dw,a6,a7,hD,a9,rfl,bc,fx,fL,hQ⟩;walk_at "rds";exact q r ar dw au bc fx (hQ.name GQ GR) (hQ.nodup (by omega) dv dk) fL ⟨_,λn bL=>by
    obtain⟨k,aA⟩:=List.getElem?_of_mem bL;rw[t7,hQ.cps k n aA,Qb,List.length_range]⟩
end
def GU{K:Frag}{mg:Str→Option Value}(T:Tp K mg):Sp:=λvs H Q E=>∃(c dC:Addr)(c3:List V)(fss:List (List cV))(bs:List V)(rows:List B5)(cell:Int)(w n:Nat),vs=[.ref c,.int cell,.ref dC,.int w]∧H c=some (.lst c3)∧f' H c3 fss∧YY n rows fss∧w<n∧n≤100∧H dC=some (.lst bs)∧fj H bs rows∧rows.length≤100∧0≤slotN rows w∧slotN rows w≤1000∧
 ∀(u:Addr)(H':Hp)(us:List V)(iN:List (List cV)),Zc H H'→H' u=some (.lst us)→f' H' us iN→iN.length≤1000→Za7 iN→¬gA n rows iN→Q (.ref u) H'
section
variable {P:Program}{w:World}{K:Frag}{mg:Str→Option Value}{base:Heap}
theorem GV(T:Tp K mg):OkN P w base 1 T.b0 (GU T):=by
 refine T.b0.F.okX l_ (λvs H Q E h=>?_) (λcw A outer s H vs Q E au h=>?_)
 ·obtain⟨c,dC,c3,fss,bs,rows,cell,w,n,rfl,_⟩:=h
  rfl
 ·have hu:=au.hu;obtain⟨c,dC,c3,fss,bs,rows,cell,w,n,rfl,aG,fB,et,hw,bL,gc,du,OJ,E9,E_,q⟩:=h;have k4:(10:Int) ^ Int.toNat 29=100000000000000000000000000000:=rfl;have ie:=du.length;have q0:=Paired.length fB;have zJ:=et.len;have ln:=et.good;have hx:w<fss.length:=by omega
  obtain⟨a,gi,ea,aS,dH⟩:=kj (d:=V.non) (e:=([]:List cV)) fB hx;have kM:atI c3 (w:Int)=some (.ref a):=by
   refine gQ ?_;rw[←ea,Qa (by omega),dh (by omega)]
  have OK:fss.getD w []∈fss:=by rw[dh hx];exact Qf _
  have zK:=ln.1.2 w hx;have ji:=et.ok w (by omega) (by omega);rw[QH] at ji;generalize fss.getD w []=fs at*;have fa:=Paired.length dH;have zL:=SqL.of (K:=K) aG;have GW:=SqT.of (K:=K) aS;refine⟨_,(bg (cN (i:=4) l_.nd rfl (Or.inl rfl) (gP (i6 (K:=K) rfl) (by rfl) T.k Qw (ay (c_ (ixk K) (pv 0) (pv 3) (λ_ _=>rfl)) aH)))
     (bg (cN (i:=5) l_.nd rfl (Or.inl rfl) (ck eh (pv 1) Zg))
     (bg (cN (i:=6) l_.nd rfl (Or.inl rfl) (dj (nf (K:=K) rfl rfl) (by rfl) T.Z Q1 (ay (gu (xs:=["_law_belt"]) rfl (fg (x:="_law_belt") (zs:=["_law_work"]) (ix:=[3]) (cq tL) ["_law_forms","_law_cell","_law_belts","_law_work","_law_some","_law_way","_law_slots","_law_at","_law_slot","_law_found"] rfl rfl (by decide+kernel)) (fh (K:=K) rfl (pv 2)) (λcl C s H fp=>⟨(cP (i:=0) (show(["_law_belt","_law_work"]:List Str).Nodup by decide+kernel) rfl (Or.inl rfl)),(oK (dJ (fN (K:=K) rfl hu) (c_ (ixk K) (pv 0) Zg (λ_ _=>rfl)) (pv 1) (da _))),(c_ (ixk K) (pv 0) Zg (λ_ _=>rfl))⟩)) aH)))
     (bg (lY (dM (PW.pt (h4 (dJ (fN (K:=K) rfl hu) (pv 5) Zg (da _)) (ip (dJ (fN (K:=K) rfl hu) (pv 4) (f6 aH) (da _))))) (bq (eK (hA (K:=K) rfl Qo Qz QA hS (pv 4) (ay (g8 (ay (ck eh (pv 1) (ck kB Zg Zg)) (ay (g8 aH) aH))) aH)))) (bq (dM (dJ (fN (K:=K) rfl hu) (pv 5) Zg (da _)) (bq (eK (C7 (K:=K) rfl Qo PySem.F.slot_list_pop PySem.F.type_list_pop Ck (pv 4)))) (bg (cN (i:=7) l_.nd rfl (Or.inl rfl) (ck eh (ck fJ (pv 1) Zg) (dj (fF K) (by rfl) T.e Qn (ay (pv 4) aH))))
     (bg (cN (i:=8) l_.nd rfl (Or.inl rfl) (c_ (ixk K) (f6 (ay (ck (fi K) (pv 6) (ck eh (ck fJ (pv 1) Zg) (ck kB Zg Zg))) (ay (ck lM (qa qb Zg) (ck eh (ck fJ (pv 1) Zg) (ck kB Zg Zg))) aH))) (ck lM (pv 5) Zg) (λ_ _=>rfl)))
     (bq (mV (g8 (ay (c_ (ixk K) (c_ (ixk K) (pv 4) (pv 7) (λ_ _=>rfl)) Zg (λ_ _=>rfl)) (ay (ck (Eb (K:=K) rfl) (c_ (ixk K) (c_ (ixk K) (pv 4) (pv 7) (λ_ _=>rfl)) Zg (λ_ _=>rfl)) (g8 (ay (g8 (ay (pv 8) (ay Zg aH))) aH))) aH))) (oi (pv 4) (pv 7) mY)))))))))
     (bg (cN (i:=9) l_.nd rfl (Or.inl rfl) (gP (i6 (K:=K) rfl) (by rfl) T.k Qw (ay (pv 0) aH)))
     (bg (mV (gP (tg (K:=K) rfl) (by rfl) T.aE RD (ay (pv 4) aH)) (oi (pv 9) (pv 3) mY))
     (bg (dM (dJ (fN (K:=K) rfl hu) (ck eh (ck fJ (pv 1) Zg) Zg) Zg (da _)) (bq (c' (ck (fi K) (gP (i6 (K:=K) rfl) (by rfl) T.k Qw (ay (pv 0) aH)) (f6 (ay (g8 aH) aH))))) d5)
     (bq (c' (pv 9)))))))))),?_⟩
  try dsimp only[L2.cxX,L2.ZL,L2.Zl]
  walk_at "rds";refine⟨a,_,rfl,.inr GW,λx al=>?_⟩;have aB:Zc H (upd H x (.lst gi)):=cF al;have eU:(upd H x (.lst gi)) x=some (.lst gi):=Ze;generalize upd H x (.lst gi)=ao at*;have GX:=SqL.of (K:=K) (aB _ _ gc);walk_at "rds";refine ZP (own:=1) (e7 GX).y (ej (by omega)) (λj=>[some (bs.getD j .non)]) (λ_=>rfl) (λj=>decide ((rows.getD j dB).taker=(w:Int))) (λj v _=>v= .int (rows.getD j dB).take) (λ_ _ _ _ _ z=>z) (λj cE H' v a2 e8 hi aI y dE k=>?_) (λj H' cL hi aI k=>?_) (λfO j H' cL hi ft hp0 eV aI k=>?_) (λd ar zs hd aI dX c2=>?_)
  ·obtain⟨rfl,rfl⟩:=y;obtain⟨x1,rfl⟩:∃x1,cE=[x1]:=by
    match cE,dE with
    | [x1],_=>exact⟨x1,rfl⟩
   walk_at "rds";exact k _ (Zc.refl _)
  ·obtain⟨t,cZ,aT⟩:=du.getD (show j<rows.length by omega);rw[cZ];have hF:=aI _ _ (aB _ _ aT);dsimp only[B5.v] at hF;walk_at "rds";exact k H' (Zc.refl H')
  ·obtain⟨t,cZ,aT⟩:=du.getD (show j<rows.length by omega);rw[cZ];have hF:=aI _ _ (aB _ _ aT);dsimp only[B5.v] at hF;walk_at "rds";exact k _ H' (Zc.refl H') rfl
  ·rw[ie] at c2;have ez:=ja c2;have uj:(((List.range rows.length).filter λj=>decide ((rows.getD j dB).taker=(w:Int))).map λj=>(rows.getD j dB).take).sum=slotN rows w:=by
    unfold slotN takeRow dF;rw[Q2];rfl
   have g9:=SqL.of (K:=K) (ez▸dX);have ll:=aB.trans aI;have nA:=aI _ _ eU;walk_at "rds";refine⟨d,_,rfl,g9,?_⟩;rw[uj];generalize qX:slotN rows w=sn at*;walk_at "rds";have Fk:gi.length<sizeLine:=jC (by have:=ji.few;omega);have zM:∀(e0:Int)(u e:Addr)(a3:Hp),Zc H a3→a3 x=some (.lst gi)→a3 u=some (.tup [V.int e0,V.ref e])→a3 e=some (.tup [])→∃(a7 hD:Option V)(zs:List V)(hb:List cV),[some (.ref c),some (.int cell),some (.ref dC),some (.int w),some (.ref x),some (.int (cell % 4)),some (.int sn),none,none,none]=[some (.ref c),some (.int cell),some (.ref dC),some (.int w),some (.ref x),some (.int (cell % 4)),some (.int sn),a7,hD,none]∧Zc H (upd a3 x (.lst (gi++ [V.ref u])))∧(upd a3 x (.lst (gi++ [V.ref u]))) x=some (.lst zs)∧Paired (gW (upd a3 x (.lst (gi++ [V.ref u])))) zs hb∧¬mc rows w hb∧hb.length≤200000∧∀f∈hb,f.2.length≤2000:=λe0 u e a3 cp ic nM GY=>by
    have db:Zr [x] a3 (upd a3 x (.lst (gi++ [V.ref u]))):=fu (by simp) ic (by intro _ z;cases z);refine⟨_,_,_,fs++ [(e0,[])],rfl,cp.new al,Ze,yL (Paired.mapP dH λ_ _ z=>(z.keep λb xs e=>cp _ _ e).keep db.tups) ⟨u,e,[],rfl,db.tups _ _ nM,db.tups _ _ GY,.nil⟩,λz=>?_,by rw[Qg];have:=ji.few;simp;omega,λf aX=>?_⟩
    ·have aq:=z.1;have av:=zK.1;rw[Qg] at aq;simp at aq;omega
    ·rcases QD.mp aX with y|y
     ·have:=(ji.ok f y).few;omega
     ·rw[Qm.mp y];simp
   refine Rd.cut (λaW H'=>∃(a7 hD:Option V)(zs:List V)(hb:List cV),aW=[some (.ref c),some (.int cell),some (.ref dC),some (.int w),some (.ref x),some (.int (cell % 4)),some (.int sn),a7,hD,none]∧Zc H H'∧H' x=some (.lst zs)∧Paired (gW H') zs hb∧¬mc rows w hb∧hb.length≤200000∧∀f∈hb,f.2.length≤2000) ?k1 ?eC
   case eC=>
    walk_at "rds"
    by_cases cA:cell % 4=0
    ·rw[decide_eq_true cA];walk_at "rds";refine⟨by show 0≤sizeLine;decide,λe b'=>?_⟩;have be:Zc ar (upd ar e (.tup [])):=cF b';have gB:(upd ar e (.tup [])) e=some (.tup []):=Ze;generalize upd ar e (.tup [])=a2 at*;walk_at "rds";refine⟨by show 2≤sizeLine;decide,λu eF=>?_⟩;rw[k4];generalize cell % 100000000000000000000000000000=e0 at*;have cp:Zc a2 (upd a2 u (.tup [V.int e0,V.ref e])):=cF eF;have ii:(upd a2 u (.tup [V.int e0,V.ref e])) u=some (.tup [V.int e0,V.ref e]):=Ze;generalize upd a2 u (.tup [V.int e0,V.ref e])=a3 at*;have ic:=cp _ _ (be _ _ nA);walk_at "rds";exact zM e0 u e a3 (ll.trans (be.trans cp)) ic ii (cp _ _ gB)
    ·rw[decide_eq_false cA];walk_at "rds";refine⟨Qx _,λdV GZ=>?_⟩;have rm:Zc ar (upd ar dV (.lst [])):=cF GZ;have G0:(upd ar dV (.lst [])) dV=some (.lst []):=Ze;generalize upd ar dV (.lst [])=H20 at*;have pq:=ll.trans rm;have mw:=rm _ _ nA;have pr:=Paired.mapP dH λ_ _ z=>z.keep (H':=H20) λb xs e=>pq _ _ e;refine Rd.Zfz (.lst (SqL.of mw) (yF pr)) (.lst (SqL.of G0) .nil) (E1 _) rfl (E2 _) ?_;rw[Zc5];refine Rd.bl ?_
     by_cases rn:fs=[]
     ·rw[decide_eq_true rn];walk_at "rds";refine⟨by show 0≤sizeLine;decide,λe b'=>?_⟩;have be:Zc H20 (upd H20 e (.tup [])):=cF b';have gB:(upd H20 e (.tup [])) e=some (.tup []):=Ze;generalize upd H20 e (.tup [])=a2 at*;walk_at "rds";refine⟨by show 2≤sizeLine;decide,λu eF=>?_⟩;rw[k4];generalize cell % 100000000000000000000000000000=e0 at*;have cp:Zc a2 (upd a2 u (.tup [V.int e0,V.ref e])):=cF eF;have ii:(upd a2 u (.tup [V.int e0,V.ref e])) u=some (.tup [V.int e0,V.ref e]):=Ze;generalize upd a2 u (.tup [V.int e0,V.ref e])=a3 at*;have ic:=cp _ _ (be _ _ mw);walk_at "rds";exact zM e0 u e a3 (pq.trans (be.trans cp)) ic ii (cp _ _ gB)
     ·rw[decide_eq_false rn];have OL:0<fs.length:=List.length_pos_iff.mpr rn;walk_at "rds"
      by_cases zN:cell % 4=1
      ·rw[decide_eq_true zN];walk_at "rds";refine⟨x,gi,gi[gi.length-1]'(by omega),rfl,rfl,mw,Qa _,?_⟩;have db:Zr [x] H20 (upd H20 x (.lst gi.dropLast)):=fu (by simp) mw (by intro _ z;cases z);refine⟨_,_,_,fs.dropLast,rfl,pq.new al,Ze,yK (Paired.mapP pr λ_ _ z=>z.keep db.tups),λz=>?_,by rw[RM];have:=ji.few;omega,λf aX=>?_⟩
       ·have aq:=z.1;have av:=zK.1;rw[RM] at aq;omega
       ·have:=(ji.ok f (List.dropLast_subset _ aX)).few;omega
      ·rw[decide_eq_false zN];have jI:0<(gi.length:Int):=by omega
       walk_at "rds";rw[k4];refine⟨by show 2≤sizeLine;decide,λl ai=>?_⟩;have ug:0≤cell / 9 % 100000000000000000000000000000:=by omega
       generalize cell / 9 % 100000000000000000000000000000=gE at*;have nN:Zc H20 (upd H20 l (.lst [V.int (sn+gE),V.int (-1-gE)])):=cF ai;have G3:(upd H20 l (.lst [V.int (sn+gE),V.int (-1-gE)])) l=some (.lst [V.int (sn+gE),V.int (-1-gE)]):=Ze;generalize upd H20 l (.lst [V.int (sn+gE),V.int (-1-gE)])=H21 at*;obtain⟨e1,OM,zO⟩:∃e1:Int,atI [V.int (sn+gE),V.int (-1-gE)] (cell % 4-2)=some (.int e1)∧¬(0≤e1∧e1<sn):=by
        have G4:cell % 4-2=0∨cell % 4-2=1:=by omega
        rcases G4 with z|z
        ·rw[z];exact⟨sn+gE,gQ (j:=0) rfl,by omega⟩
        ·rw[z];exact⟨-1-gE,gQ (j:=1) rfl,by omega⟩
       have ON:=SqL.of (K:=K) G3;walk_at "rds";have k0:=QT (cell / 4) (show(gi.length:Int)≠0 by omega);have k1:=QN (cell / 4) jI;generalize cell / 4 % (gi.length:Int)=hq at*;obtain⟨k,rfl⟩:=QE k0;have zP:k<fs.length:=by omega
       obtain⟨dW,fk,dO,G5,mo,jg,uH⟩:=kj (d:=V.non) (e:=((0,[]):cV)) pr zP;have OO:=(ji.ok (fs.getD k (0,[])) (by rw[dh zP];exact Qf _)).few;generalize fs.getD k (0,[])=f at*;have nH:=uH.length;have OP:atI gi (k:Int)=some (.ref dW):=by
        refine gQ ?_;rw[←G5,Qa (by omega),dh (by omega)]
       have OQ:=SqL.of (K:=K) (nN _ _ mw);have OR:=nN _ _ mo;walk_at "rds";refine⟨by show 2≤sizeLine;decide,λit iA=>?_⟩;have cK:Zc H21 (upd H21 it (.tup [V.int e1,V.int 1])):=cF iA;have gb:(upd H21 it (.tup [V.int e1,V.int 1])) it=some (.tup [V.int e1,V.int 1]):=Ze;generalize upd H21 it (.tup [V.int e1,V.int 1])=bH at*;walk_at "rds";intro jj hot;have d3:Zc bH (upd bH jj (.tup [V.ref it])):=cF hot;have jc:(upd bH jj (.tup [V.ref it])) jj=some (.tup [V.ref it]):=Ze;generalize upd bH jj (.tup [V.ref it])=df at*;have uI:=nN.trans (cK.trans d3);refine⟨fk,jj,dO,[V.ref it],rfl,rfl,SqT.of (uI _ _ jg),SqT.of jc,QW (jC (by simp;omega)),λz=>?_,λ_ z=>absurd z (by simp),λeT d_ jL G6=>?_⟩
       ·subst z;have uJ:=d3 _ _ gb;have mx:df jj=some (.tup (([]:List V)++ [V.ref it])):=jc;have uK:=uI;have uL:=mx;clear jc;walk_at "rds";refine⟨by show 2≤sizeLine;decide,λf4 mu=>?_⟩;have fS:Zc df (upd df f4 (.tup [V.int f.1,V.ref jj])):=cF mu;have my:(upd df f4 (.tup [V.int f.1,V.ref jj])) f4=some (.tup [V.int f.1,V.ref jj]):=Ze;generalize upd df f4 (.tup [V.int f.1,V.ref jj])=fM at*;have km:=uK.trans fS;have uM:=km _ _ mw;walk_at "rds";have db:Zr [x] fM (upd fM x (.lst (gi.set k (V.ref f4)))):=fu (by simp) uM (by intro _ z;cases z);refine⟨_,_,_,fs.set k (f.1,f.2++ [(e1,1)]),rfl,(pq.trans km).new al,Ze,qV k (Paired.mapP pr λ_ _ z=>(z.keep λb xs e=>km _ _ e).keep db.tups) ⟨f4,jj,[]++ [V.ref it],rfl,db.tups _ _ my,db.tups _ _ (fS _ _ uL),yM ((uH.keep λb xs e=>km _ _ e).keep db.tups) (x:=(e1,1)) (db.tups _ _ (fS _ _ uJ))⟩,λz=>?_,by rw[QL];have:=ji.few;omega,λg ci=>?_⟩
        ·have:=z.2 (f.1,f.2++ [(e1,1)]) (List.mem_iff_getElem.mpr ⟨k,by rw[QL];omega,RJ _⟩) (e1,1) (by simp);rw[qX] at this;exact zO this
        ·rcases Rs ci with y|y
         ·have:=(ji.ok g y).few;omega
         ·rw[y];show(f.2++ [(e1,1)]).length≤2000;rw[Qg];simp;omega
       ·have zQ:Zc df (upd df jL (.tup (dO++ [V.ref it]))):=cF G6;have mx:(upd df jL (.tup (dO++ [V.ref it]))) jL=some (.tup (dO++ [V.ref it])):=Ze;generalize upd df jL (.tup (dO++ [V.ref it]))=c8 at*;have uK:=uI.trans zQ;have uJ:=zQ _ _ (d3 _ _ gb);have uL:c8 jL=some (.tup (dO++ [V.ref it])):=mx;walk_at "rds";refine⟨by show 2≤sizeLine;decide,λf4 mu=>?_⟩;have fS:Zc c8 (upd c8 f4 (.tup [V.int f.1,V.ref jL])):=cF mu;have my:(upd c8 f4 (.tup [V.int f.1,V.ref jL])) f4=some (.tup [V.int f.1,V.ref jL]):=Ze;generalize upd c8 f4 (.tup [V.int f.1,V.ref jL])=fM at*;have km:=uK.trans fS;have uM:=km _ _ mw;walk_at "rds";have db:Zr [x] fM (upd fM x (.lst (gi.set k (V.ref f4)))):=fu (by simp) uM (by intro _ z;cases z);refine⟨_,_,_,fs.set k (f.1,f.2++ [(e1,1)]),rfl,(pq.trans km).new al,Ze,qV k (Paired.mapP pr λ_ _ z=>(z.keep λb xs e=>km _ _ e).keep db.tups) ⟨f4,jL,dO++ [V.ref it],rfl,db.tups _ _ my,db.tups _ _ (fS _ _ uL),yM ((uH.keep λb xs e=>km _ _ e).keep db.tups) (x:=(e1,1)) (db.tups _ _ (fS _ _ uJ))⟩,λz=>?_,by rw[QL];have:=ji.few;omega,λg ci=>?_⟩
        ·have:=z.2 (f.1,f.2++ [(e1,1)]) (List.mem_iff_getElem.mpr ⟨k,by rw[QL];omega,RJ _⟩) (e1,1) (by simp);rw[qX] at this;exact zO this
        ·rcases Rs ci with y|y
         ·have:=(ji.ok g y).few;omega
         ·rw[y];show(f.2++ [(e1,1)]).length≤2000;rw[Qg];simp;omega
   case k1=>
    rintro aW a2 ⟨a7,hD,zs,hb,rfl,be,o5,G7,G8,nO,G9⟩;have G_:=be.seq zL;have G':=SqL.of (K:=K) o5;walk_at "rds";refine⟨c,_,rfl,.inl G_,λe2 iJ=>?_⟩;have cp:Zc a2 (upd a2 e2 (.lst c3)):=cF iJ;have ii:(upd a2 e2 (.lst c3)) e2=some (.lst c3):=Ze;generalize upd a2 e2 (.lst c3)=a3 at*;have Ha:=cp.seq G';walk_at "rds";refine⟨x,zs,rfl,.inl ⟨Ha,λiO rp=>?_⟩⟩;have cK:Zc a3 (upd a3 iO (.tup zs)):=cF rp;have gb:(upd a3 iO (.tup zs)) iO=some (.tup zs):=Ze;generalize upd a3 iO (.tup zs)=bH at*;have nP:=cK _ _ ii;have jM:=cp.trans cK;have rq:(w:Int)<(c3.length:Int):=by omega
    walk_at "rds";rw[QH];have db:Zr [e2] bH (upd bH e2 (.lst (c3.set w (V.ref iO)))):=fu (by simp) nP (by intro _ z;cases z);have Hb:H e2=none:=iF be iJ;have jG:Zc H (upd bH e2 (.lst (c3.set w (V.ref iO)))):=(be.trans jM).new Hb;have jc:(upd bH e2 (.lst (c3.set w (V.ref iO)))) e2=some (.lst (c3.set w (V.ref iO))):=Ze;have pp:f' (upd bH e2 (.lst (c3.set w (V.ref iO)))) (c3.set w (V.ref iO)) (fss.set w hb):=qV w ((fB.keep λb xs e=>jM _ _ (be _ _ e)).keep db.tups) ⟨iO,zs,rfl,db.tups _ _ gb,Paired.mapP G7 λ_ _ z=>(z.keep λb xs e=>jM _ _ e).keep db.tups⟩;have zR:∀iN:List (List cV),(∀g∈iN,g∈fss∨g=hb∨g=[])→Za7 iN:=λiN h g ci=>by
     rcases h g ci with z|z|z
     ·exact ln.2 g z
     ·rw[z];exact⟨nO,G9⟩
     ·rw[z];exact⟨by simp,by simp⟩
    have Hc:¬gA n rows (fss.set w hb):=λz=>by
     have:=z.2 w (by rw[QL];exact hx);rw[dh (by rw[QL];exact hx),RJ] at this;exact G8 this
    generalize upd bH e2 (.lst (c3.set w (V.ref iO)))=df at*
    by_cases zS:cell / 8 % 5=4
    ·rw[decide_eq_true zS];have Hd:=jG.seq zL;walk_at "rds";refine⟨c,_,rfl,.inl Hd,λg1 He=>?_⟩;have d6:Zc df (upd df g1 (.lst c3)):=cF He;have ph:(upd df g1 (.lst c3)) g1=some (.lst c3):=Ze;generalize upd df g1 (.lst c3)=c8 at*;walk_at "rds";refine⟨by show 0≤sizeLine;decide,λcZ Hf=>?_⟩;have fS:Zc c8 (upd c8 cZ (.tup [])):=cF Hf;have my:(upd c8 cZ (.tup [])) cZ=some (.tup []):=Ze;generalize upd c8 cZ (.tup [])=fM at*;walk_at "rds";intro g2 hg2;have gI:Zc fM (upd fM g2 (.lst [V.ref cZ])):=cF hg2;have Hg:(upd fM g2 (.lst [V.ref cZ])) g2=some (.lst [V.ref cZ]):=Ze;generalize upd fM g2 (.lst [V.ref cZ])=iw at*;refine .inr (.inr (.inl ⟨g1,g2,_,_,rfl,rfl,gI _ _ (fS _ _ ph),Hg,QW (jC (by simp;omega)),λg3 zT=>?_⟩));have h9:=jG.trans (d6.trans (fS.trans (gI.trans (cF zT (o:= .lst (c3++ [V.ref cZ]))))));refine q g3 _ _ (fss++ [[]]) h9 Ze ?_ (by simp;omega) (zR _ λg ci=>?_) λz=>?_
     ·have Hh:f' (upd iw g3 (.lst (c3++ [V.ref cZ]))) c3 fss:=fB.keep λb xs e=>h9 _ _ e;have Hi:kY (upd iw g3 (.lst (c3++ [V.ref cZ]))) (V.ref cZ) []:=⟨cZ,[],rfl,cF zT _ _ (gI _ _ my),.nil⟩;exact yN Hh Hi
     ·rcases QD.mp ci with y|y
      ·exact .inl y
      ·exact .inr (.inr (Qm.mp y))
     ·have:=z.1;rw[Qg] at this;simp at this;omega
    ·rw[decide_eq_false zS];walk_at "rds";exact q e2 df _ _ jG jc pp (by rw[QL];omega) (zR _ λg ci=>(Rs ci).elim .inl λy=> .inr (.inl y)) Hc
end
theorem ZeV(ls:List B5):PyData.eqv (.list (ls.map B5.d)) (.list [])=decide (ls=[]):=by cases ls<;>simp[PyData.eqv,PyData.eqvAll]
def Hj{K:Frag}{mg:Str→Option Value}(T:Tp K mg):Sp:=λvs H Q _=>∃(h c d dC:Addr)(ai:HM)(fp:List Addr)(c3:List V)(fss:List (List cV))(ys:List V)(aR:List (List Int))(bs:List V)(cell:Int)(n:Nat),vs=[.ref h,.ref c,.ref d,.ref dC,.int cell,.int n]∧dz T H h ai fp∧ai.names.length=n∧0<n∧n≤100∧
 H c=some (.lst c3)∧f' H c3 fss∧YY n ai.belts fss∧H d=some (.lst ys)∧dN H ys aR∧hZ aR (startsL ai.belts)∧(∀i<aR.length,((aR.getD i []).length:Int)≤10000)∧H dC=some (.lst bs)∧fj H bs ai.belts∧ai.belts.length≤20∧(∀w:Nat,w<n→0≤slotN ai.belts w∧slotN ai.belts w≤1000)∧∀H',Zc H H'→Q (.bl true) H'
section
variable {P:Program}{w:World}{K:Frag}{mg:Str→Option Value}{base:Heap}
theorem Hk(T:Tp K mg):OkN P w base 13 T.b1 (Hj T):=by
 refine T.b1.F.okX tV (λvs H Q E h=>?_) (λcw A outer s H vs Q E au h=>?_)
 ·obtain⟨h,c,d,dC,ai,fp,c3,fss,ys,aR,bs,cell,n,rfl,_⟩:=h
  rfl
 ·have hu:=au.hu;obtain⟨h,c,d,dC,ai,fp,c3,fss,ys,aR,bs,cell,n,rfl,cu,nI,y2,eS,aG,fB,et,hd,c2,zU,kn,gc,du,bh,jN,q⟩:=h;have k4:(10:Int) ^ Int.toNat 29=100000000000000000000000000000:=rfl;have m_:(startsL ai.belts).length=ai.belts.length:=by simp[startsL]
  have ms:=zU.1;have OS:=du.length;have zJ:=et.len;have ln:=et.good;have ff:0<(n:Int):=by omega
  refine⟨_,(bg (cN (i:=6) tV.nd rfl (Or.inl rfl) (dq T.b0 (GV T) au cT (ay (pv 1) (ay (pv 4) (ay (pv 3) (ay (ck eh (ck fJ (pv 4) Zg) (pv 5)) aH))))))
     (bg (qy (j:=7) (xs:=["_law_row"]) rfl (fg (x:="_law_row") (zs:=[]) (ix:=[]) (cq tM) ["_law_hall","_law_forms","_law_pieces","_law_belts","_law_cell","_law_many","_law_bad","_law_less"] rfl rfl (by decide+kernel)) (fh (K:=K) rfl (pv 2)) (λcl C s H fp=>⟨(cP (i:=0) (show(["_law_row"]:List Str).Nodup by decide+kernel) rfl (Or.inl rfl)),fR,(gP (i6 (K:=K) rfl) (by rfl) T.k Qw (ay (pv 0) aH))⟩) tV.nd rfl (Or.inl rfl))
     (bg (lY (dM (PW.pt (h4 (dJ (fN (K:=K) rfl hu) (pv 3) (f6 aH) (da _)) (ip (dJ (fN (K:=K) rfl hu) (ck eh (ck fJ (pv 4) Zg) Zg) Zg (da _))))) (bq (eK (hA (K:=K) rfl Qo Qz QA hS (pv 7) (ay (f6 aH) aH)))) (bq (eK (hA (K:=K) rfl Qo Qz QA hS (c_ (ixk K) (pv 7) (ck eh (ck fJ (pv 4) Zg) (dj (fF K) (by rfl) T.e Qn (ay (pv 3) aH))) (λ_ _=>rfl)) (ay (ck eh (pv 4) (ck kB Zg Zg)) aH))))))
     (bg (dM (PW.pt (h4 (dJ (hW (K:=K) rfl hu) (dq T.bj (rk T) au cT (ay (pv 0) (ay (pv 6) (ay (pv 2) aH)))) (g8 (ay Wj (ay Zg aH))) (da _)) (ip (dJ (hW (K:=K) rfl hu) (dq T.bj (rk T) au cT (ay (pv 0) (ay (pv 6) (ay (pv 7) aH)))) (g8 (ay Wj (ay Zg aH))) (da _))))) (bq (c' WB)) d5)
     (bq (c' (jt (fN (K:=K) rfl hu) (dq T.bj (rk T) au cT (ay (pv 0) (ay (pv 1) (ay (pv 7) aH)))) (g8 (ay Wj (ay Zg aH))) (da _)))))))),?_⟩
  try dsimp only[L2.cxX,L2.ZL,L2.Zl]
  walk_at "rds";have dD:=QT (cell / 16) (show(n:Int)≠0 by omega);have er:=QN (cell / 16) ff;generalize cell / 16 % (n:Int)=eg at*;obtain⟨w,rfl⟩:=QE dD;refine⟨c,dC,c3,fss,bs,ai.belts,cell,w,n,rfl,aG,fB,et,by omega,eS,gc,du,by omega,(jN w (by omega)).1,(jN w (by omega)).2,λba ar us iN bc zV hFb nO zW Hl=>?_⟩;have jv:=bc _ _ hd;have Hm:=SqL.of (K:=K) jv;have gY:=c2.same bc;have f9:=gY.length;walk_at "rds";refine ZP (own:=1) (e7 Hm).y (ej (by omega)) (λj=>[some (ys.getD j .non)]) (λ_=>rfl) (λ_=>true) (λj v H'=>∃t,v=V.ref t∧ar t=none∧H' t=some (.lst ((aR.getD j []).map V.int))) (λ_ _ _ _ e ⟨t,eT,mh,d_⟩=>⟨t,eT,mh,e _ _ d_⟩) (λj cE H' v a2 e8 hi aI y dE k=>?_) (λj H' cL hi aI k=>?_) (λfO j H' cL hi ft hp0 eV aI k=>?_) (λo a2 zs a_ be zX iL=>?_)
  ·obtain⟨rfl,rfl⟩:=y;obtain⟨x1,rfl⟩:∃x1,cE=[x1]:=by
    match cE,dE with
    | [x1],_=>exact⟨x1,rfl⟩
   walk_at "rds";exact k _ (Zc.refl _)
  ·walk_at "rds";exact k H' (Zc.refl H')
  ·obtain⟨t,cZ,aT⟩:=Wd gY (i:=j) (by omega);rw[cZ];have k7:=SqL.of (K:=K) (aI _ _ aT);walk_at "rds";refine⟨t,_,rfl,.inl k7,λl ai=>?_⟩;exact k _ _ (cF ai) ⟨l,rfl,iF aI ai,o2 eV ai⟩
  ·rw[Ql.mpr (by simp),f9] at iL;have uN:=(nq iL).1;have Hn:=(nq iL).2;rw[show(List.range aR.length).map (λj=>aR.getD j [])=aR by rw[kW (λx:List Int=>x)];simp] at uN;have rh:=uN.length;walk_at "rds";refine Rd.cut (λaW H'=>∃(ps:List V)(lp:List (List Int)),aW=[some (.ref h),some (.ref c),some (.ref d),some (.ref dC),some (.int cell),some (.int n),some (.ref ba),some (.ref o)]∧Zc ar H'∧H' o=some (.lst ps)∧dN H' ps lp∧lp.length≤100∧(∀i<lp.length,(lp.getD i []).length≤100000)∧¬hZ lp (startsL ai.belts)) ?k2 ?fo
   case fo=>
    walk_at "rds";refine⟨Qx _,λe b'=>?_⟩;have cp:Zc a2 (upd a2 e (.lst [])):=cF b';have ii:(upd a2 e (.lst [])) e=some (.lst []):=Ze;have OT:o≠e:=dG zX b';generalize upd a2 e (.lst [])=a3 at*;have pu:=be.trans cp;have gd:=bc.trans pu;have jd:=cp _ _ zX;have Ho:=gd _ _ gc;have ib:=du.keep λb xs e=>gd _ _ e;have lh:=uN.same (xA (p:=o) cp);have OU:zs.length<sizeLine:=ej (by omega);have fin2:∀(u:Addr)(bH:Hp),a3 u=none→Zc a3 bH→bH u=some (.lst [])→Zc ar (upd bH o (.lst (zs++ [V.ref u])))∧(upd bH o (.lst (zs++ [V.ref u]))) o=some (.lst (zs++ [V.ref u]))∧dN (upd bH o (.lst (zs++ [V.ref u]))) (zs++ [V.ref u]) (aR++ [[]])∧(aR++ [[]]).length≤100∧(∀i<(aR++ [[]]).length,((aR++ [[]]).getD i []).length≤100000)∧¬hZ (aR++ [[]]) (startsL ai.belts):=λu bH jO cK Hq=>by
     have Hr:u≠o:=(dG jd jO).symm;refine⟨(pu.trans cK).new a_,Ze,dN.snoc ((lh.same (xA (p:=o) cK)).same (Zix.trans iz)) (by rw[bJ Hr];exact Hq),by simp;omega,λi hi=>?_,λz=>by have:=z.1;simp at this;omega⟩
     by_cases jJ:i<aR.length
     ·rw[show List.getD (aR++ [([]:List Int)]) i []=aR.getD i [] by simp[List.getD,List.getElem?_append,jJ]];have:=kn i jJ;omega
     ·rw[show List.getD (aR++ [([]:List Int)]) i []=([]:List Int) by simp[List.getD,List.getElem?_append,jJ];cases i-aR.length<;>simp];simp
    refine Rd.Zfz (.lst (SqL.of Ho) (yQ ib)) (.lst (SqL.of ii) .nil) (E4 _) rfl (E5 _) ?_;rw[ZeV];refine Rd.bl ?_
    by_cases bL:ai.belts=[]
    ·rw[decide_eq_true bL];walk_at "rds";refine⟨Qx _,λu jO=>?_⟩;have cK:Zc a3 (upd a3 u (.lst [])):=cF jO;have gb:(upd a3 u (.lst [])) u=some (.lst []):=Ze;generalize upd a3 u (.lst [])=bH at*;have Hs:=cK _ _ jd;walk_at "rds";exact⟨_,_,rfl,fin2 u bH jO cK gb⟩
    ·rw[decide_eq_false bL];have rn:0<ai.belts.length:=List.length_pos_iff.mpr bL;walk_at "rds"
     by_cases b_:cell / 32 % 3=0
     ·rw[decide_eq_true b_];walk_at "rds";refine⟨Qx _,λu jO=>?_⟩;have cK:Zc a3 (upd a3 u (.lst [])):=cF jO;have gb:(upd a3 u (.lst [])) u=some (.lst []):=Ze;generalize upd a3 u (.lst [])=bH at*;have Hs:=cK _ _ jd;walk_at "rds";exact⟨_,_,rfl,fin2 u bH jO cK gb⟩
     ·rw[decide_eq_false b_];have jI:0<(bs.length:Int):=by omega
      walk_at "rds";have k0:=QT (cell / 96) (show(bs.length:Int)≠0 by omega);have k1:=QN (cell / 96) jI;generalize cell / 96 % (bs.length:Int)=hq at*;obtain⟨k,rfl⟩:=QE k0;have ko:k<aR.length:=by omega
      obtain⟨t,cZ,aT⟩:=dN.at lh (Qa ko);have kM:=gQ cZ;have yW:=SqL.of (K:=K) jd;have Ht:t≠o:=λz=>by rw[z,jz] at aT;cases aT
      have mf:=iz _ _ aT;have nt:(aR[k].map V.int).length<sizeLine:=by
       rw[Qb];have:=kn k ko;rw[dh ko] at this;exact jC (by omega)
      walk_at "rds";rw[k4];generalize cell % 100000000000000000000000000000=e0;have gf:ar t=none:=by
       obtain⟨t',cm,fP⟩:=Hn (.ref t) (Q9 cZ);cases cm;exact fP
      refine⟨zs,(List.range aR.length).map λj=>if zs.getD j .non= .ref t then aR[k]++ [e0] else aR.getD j [],rfl,pu.new gf,by rw[bJ Ht.symm];exact jd,?_,by simp;omega,λi hi=>?_,λz=>?_⟩
      ·refine np (by simp;omega) λi x y aV a8=>?_;have hi:i<aR.length:=by have:=(Qj.mp aV).1;omega
       rw[Qp,Ri hi] at a8;have nQ:(if zs.getD i .non= .ref t then aR[k]++ [e0] else aR.getD i [])=y:=Qq a8;obtain⟨t',h2,hF⟩:=dN.at lh (Qa hi);rw[aV] at h2;have ex:=Qq h2;have zY:zs.getD i .non=x:=by simp[List.getD,aV]
       refine⟨t',ex,?_⟩
       by_cases uO:t'=t
       ·rw[←nQ,zY,ex,uO,if_pos rfl,Ze];simp
       ·rw[←nQ,zY,ex,if_neg (by intro z;exact uO (V.ref.inj z)),bJ uO,dh hi];exact iz _ _ hF
      ·have eN:i<aR.length:=by simpa using hi
       rw[show((List.range aR.length).map λj=>if zs.getD j .non= .ref t then aR[k]++ [e0] else aR.getD j []).getD i []=if zs.getD i .non= .ref t then aR[k]++ [e0] else aR.getD i [] by simp[List.getD,eN]];have dk:=kn i eN;have dm:=kn k ko;rw[dh ko] at dm
       split
       ·rw[Qg];simp;omega
       ·omega
      ·have kQ:=z.2 k (by simpa using ko);rw[show((List.range aR.length).map λj=>if zs.getD j .non= .ref t then aR[k]++ [e0] else aR.getD j []).getD k []=aR[k]++ [e0] by simp[List.getD,ko,cZ]] at kQ;have:=zU.2 k ko;rw[dh ko] at this;rw[Qg,show([e0]:List Int).length=1 from rfl] at kQ;omega
   case k2=>
    rintro aW a3 ⟨ps,lp,rfl,cp,jd,lh,i5,q1,q9⟩;have gd:=bc.trans cp;have Hu:∀i<aR.length,(aR.getD i []).length≤100000:=λi hi=>by have:=kn i hi;omega
    have kq:∀n:Int,(PyData.tuple [.none,.int n]).canLay0=true:=λn=>by simp[PyData.canLay0,PyData.canLayAll0]
    have uP:∀n:Int,(PyData.tuple [.none,.int n]).depth≤60:=λn=>by simp[PyData.depth,PyData.depthAll]
    have rr:¬gA ai.names.length ai.belts iN:=by rw[nI];exact Hl
    have Hv:gA ai.names.length ai.belts fss:=by rw[nI];exact ln.1
    walk_at "rds";refine⟨h,ba,d,ai,fp,us,iN,ys,aR,rfl,cu.same gd,by omega,by omega,cp _ _ zV,hFb.keep (λb xs e=>cp _ _ e),nO,zW,gd _ _ hd,c2.same gd,by omega,Hu,λ_ u bH cK jO=>?_,λz=>absurd z rr,λz=>absurd z rr⟩;walk_at "rds";refine⟨by show 2≤sizeLine;decide,λv cH=>?_⟩;have d3:Zc bH (upd bH v (.tup [V.non,V.int 0])):=cF cH;have jc:(upd bH v (.tup [V.non,V.int 0])) v=some (.tup [V.non,V.int 0]):=Ze;generalize upd bH v (.tup [V.non,V.int 0])=df at*;refine Rd.Zau (.tup (.of (d3 _ _ jO)) (.cons .non (.cons (.int 0) .nil))) (.tup (.of jc) (.cons .non (.cons (.int 0) .nil))) (kq 0) (kq 0) (uP 0) ?_;rw[SeqAt.eqv_refl _ (kq 0)];have h0:=cK.trans d3;have jG:=gd.trans h0;walk_at "rds";refine⟨h,ba,o,ai,fp,us,iN,ps,lp,rfl,cu.same jG,by omega,by omega,h0 _ _ (cp _ _ zV),hFb.keep (λb xs e=>h0 _ _ (cp _ _ e)),nO,zW,h0 _ _ jd,lh.same h0,by omega,q1,λ_ d9 c8 d6 uQ=>?_,λz=>absurd z rr,λz=>absurd z rr⟩;walk_at "rds";refine⟨by show 2≤sizeLine;decide,λgh Hw=>?_⟩;have fS:Zc c8 (upd c8 gh (.tup [V.non,V.int 0])):=cF Hw;have my:(upd c8 gh (.tup [V.non,V.int 0])) gh=some (.tup [V.non,V.int 0]):=Ze;generalize upd c8 gh (.tup [V.non,V.int 0])=fM at*;refine Rd.Zau (.tup (.of (fS _ _ uQ)) (.cons .non (.cons (.int 0) .nil))) (.tup (.of my) (.cons .non (.cons (.int 0) .nil))) (kq 0) (kq 0) (uP 0) ?_;rw[SeqAt.eqv_refl _ (kq 0)];have uR:=h0.trans (d6.trans fS);have mz:=gd.trans uR;walk_at "rds";refine⟨h,c,o,ai,fp,c3,fss,ps,lp,rfl,cu.same mz,by omega,by omega,mz _ _ aG,fB.keep (λb xs e=>mz _ _ e),by omega,ln.2,uR _ _ jd,lh.same uR,by omega,q1,λz=>absurd Hv z,λ_ _ g4 iw gI Hx=>?_,λ_ z=>absurd z q9⟩;walk_at "rds";refine⟨by show 2≤sizeLine;decide,λgB Hy=>?_⟩;have h9:Zc iw (upd iw gB (.tup [V.non,V.int 1])):=cF Hy;have Hz:(upd iw gB (.tup [V.non,V.int 1])) gB=some (.tup [V.non,V.int 1]):=Ze;generalize upd iw gB (.tup [V.non,V.int 1])=kI at*;refine Rd.Zfz (.tup (.of (h9 _ _ Hx)) (.cons .non (.cons (.int 1) .nil))) (.tup (.of Hz) (.cons .non (.cons (.int 1) .nil))) (kq 1) (kq 1) (uP 1) ?_;rw[SeqAt.eqv_refl _ (kq 1)];walk_at "rds";exact q kI (mz.trans (gI.trans h9))
end
def HA{K:Frag}{mg:Str→Option Value}(T:Tp K mg):Sp:=λvs H Q E=>∃(a b:Addr)(ys zs:List V)(aR:List (List Int)),vs=[.ref a,.ref b]∧H a=some (.lst ys)∧dN H ys aR∧H b=some (.lst zs)∧dN H zs aR∧aR.length≤1000∧Q (.bl true) H
section
variable {P:Program}{w:World}{K:Frag}{mg:Str→Option Value}{base:Heap}
theorem zZ(T:Tp K mg):OkN P w base 1 T.bC (HA T):=by
 refine T.bC.F.okX tW (λvs H Q E h=>?_) (λcw A outer s H vs Q E au h=>?_)
 ·obtain⟨a,b,ys,zs,aR,rfl,_⟩:=h
  rfl
 ·have hu:=au.hu;obtain⟨a,b,ys,zs,aR,rfl,aS,c2,am,fH,bh,q⟩:=h;have f9:=c2.length;have rh:=fH.length;have z0:=SqL.of (K:=K) aS;have uS:=SqL.of (K:=K) am;refine⟨_,(bg (dM (PW.pt (h4 (gD (fW (K:=K) rfl (dj (l5 (K:=K) rfl) (by rfl) T.c Qr (ay (pv 0) (ay (kv (v:= .ty "list") (by rfl) T.k Qw rfl) aH))) (λ_=>rfl))) (ip (dJ (hW (K:=K) rfl hu) (dj (fF K) (by rfl) T.e Qn (ay (pv 0) aH)) (dj (fF K) (by rfl) T.e Qn (ay (pv 1) aH)) (da _))))) (bq (c' WB)) d5)
     (bg (fz PassesOwn.leaving rfl (fh (K:=K) rfl (pv 0)) (cP (i:=2) tW.nd rfl (Or.inl rfl)) (bg (dM (gD (fW (K:=K) rfl (dj (l5 (K:=K) rfl) (by rfl) T.c Qr (ay (pv 2) (ay (kv (v:= .ty "list") (by rfl) T.k Qw rfl) aH))) (λ_=>rfl))) (bq (c' WB)) d5)
     (bq (fz PassesOwn.leaving rfl (fh (K:=K) rfl (pv 2)) (cP (i:=3) tW.nd rfl (Or.inl rfl)) (bq (dM (PW.pt (h4 (gD (fW (K:=K) rfl (dj (l5 (K:=K) rfl) (by rfl) T.c Qr (ay (pv 3) (ay (kv (v:= .ty "int") (by rfl) T.aZ Rm rfl) aH))) (λ_=>rfl))) (ip (fW (K:=K) rfl (dj (l5 (K:=K) rfl) (by rfl) T.c Qr (ay (pv 3) (ay (kv (v:= .ty "bool") (by rfl) T.bk PyProof.Rows.boot_bool rfl) aH))) (λ_=>rfl))))) (bq (c' WB)) d5))))))
     (bq (c' (jt (fN (K:=K) rfl hu) (pv 0) (pv 1) (da _)))))),?_⟩
  try dsimp only[L2.cxX,L2.ZL,L2.Zl]
  walk_at "rds";refine Ym (e7 z0) (λi σ H'=>H'=H∧∃dm d4,σ=[some (.ref a),some (.ref b),dm,d4]) ⟨rfl,_,_,rfl⟩ (λi σ H' h=>h.1▸Zc.refl _) ?_ ?_
  ·rintro i σ H' hi ⟨rfl,dm,d4,rfl⟩;obtain⟨t,cZ,aT⟩:=Wd c2 (i:=i) (by omega);rw[cZ];have k7:=SqL.of (K:=K) aT;walk_at "rds";refine Ym (e7 k7) (λj σ ar=>ar=H'∧∃d4,σ=[some (.ref a),some (.ref b),some (.ref t),d4]) ⟨rfl,_,rfl⟩ (λi σ H' h=>h.1▸Zc.refl _) ?_ ?_
   ·rintro j σ ar aU ⟨rfl,d4,rfl⟩;have hf:j<(aR.getD i []).length:=by simpa using aU
    have fb:∀l:List Int,j<l.length→(l.map V.int).getD j .non= .int (l.getD j 0):=λl ai=>by rw[dh ai];simp[List.getD,ai]
    rw[fb _ hf];walk_at "rds";exact⟨rfl,_,rfl⟩
   ·rintro σ ar ⟨rfl,d4,rfl⟩;exact⟨rfl,_,_,rfl⟩
  ·rintro σ H' ⟨rfl,dm,d4,rfl⟩;walk_at "rds";refine Rd.Zfz (.lst z0 (uc c2)) (.lst uS (uc fH)) (ub _) (ub _) (EW _) ?_;rw[SeqAt.eqv_refl _ (ub _)];exact q
end
def HB{K:Frag}{mg:Str→Option Value}(T:Tp K mg):Sp:=λvs H Q _=>∃a b:Nat,vs=[.int a,.int b]∧Q (.int (Nat.gcd a b:Nat)) H
section
variable {P:Program}{w:World}{K:Frag}{mg:Str→Option Value}{base:Heap}
theorem HC(T:Tp K mg):OkN P w base 1 T.b2 (HB T):=by
 refine T.b2.F.okX qL (λvs H Q E h=>?_) (λcw A outer s H vs Q E au h=>?_)
 ·obtain⟨a,b,rfl,_⟩:=h
  rfl
 ·have hu:=au.hu;obtain⟨dv,b0,rfl,q⟩:=h;rw[←My.Zdp] at q;refine⟨_,(bg (BJ PassesOwn.leaving (dJ (hW (K:=K) rfl hu) (pv 1) Zg (da _)) (bg (cN (i:=2) qL.nd rfl (Or.inl rfl) (ck eh (pv 0) (pv 1)))
     (bg (cN (i:=0) qL.nd rfl (Or.inl rfl) (pv 1))
     (bq (cN (i:=1) qL.nd rfl (Or.inl rfl) (pv 2))))))
     (bq (c' (pv 0)))),?_⟩
  try dsimp only[L2.cxX,L2.ZL,L2.Zl]
  walk_at "rd";refine ZjM (λm σ H'=>H'=H∧∃(x y:Int)(r:Option V),m=y.toNat∧σ=[some (.int x),some (.int y),r]∧0≤x∧0≤y∧My.G x y=My.G dv b0) _ ⟨rfl,dv,b0,none,rfl,rfl,by omega,by omega,rfl⟩ ?_;rintro m σ H' ⟨rfl,x,y,r,rfl,rfl,al,cx,ig⟩;walk_at "rds";refine Zbf (λc=>Zkv ?_) (λc=>?_)
  ·have rs:0<y:=by
    have:¬y=0:=by simpa using c
    omega
   walk_at "rds";exact⟨_,(by have:=QT x (show y≠0 by omega);have:=QN x rs;omega),rfl,y,x % y,some (.int (x % y)),rfl,rfl,cx,QT x (by omega),(EI al rs).trans ig⟩
  ·have rs:y=0:=by simpa using c
   have e:x=My.G dv b0:=by rw[←ig,My.ZjW al rs]
   walk_at "rds";rw[e];exact q
end
def HD{K:Frag}{mg:Str→Option Value}(T:Tp K mg):Sp:=λvs H Q _=>∃(c:Int)(a:Addr)(eZ:List Int)(he:Nat)(nn:Bool),vs=[.int c,.ref a,.int he,.bl nn]∧SqL K H a (eZ.map V.int)∧0<eZ.length∧eZ.length≤30∧ZjP eZ∧0<he∧he≤10∧
 ∀(u:Addr)(H':Hp)(b:B5),H u=none→Zc H H'→H' u=some (.tup b.v)→Bel eZ.length b→Q (.ref u) H'
section
variable {P:Program}{w:World}{K:Frag}{mg:Str→Option Value}{base:Heap}
theorem HE(T:Tp K mg):OkN P w base 2 T.b3 (HD T):=by
 refine T.b3.F.okX jB (λvs H Q E h=>?_) (λcw A outer s H vs Q E au h=>?_)
 ·obtain⟨c,a,eZ,he,nn,rfl,_⟩:=h
  rfl
 ·have hu:=au.hu;obtain⟨c,a,eZ,he,nn,rfl,et,y2,eS,cA,OV,OW,q⟩:=h;have HF:0<(he:Int):=by omega
  have m_:((eZ.map V.int).length:Int)=(eZ.length:Int):=by simp
  have ff:0<((eZ.map V.int).length:Int):=by omega
  refine⟨_,(bg (cN (i:=4) jB.nd rfl (Or.inl rfl) (ck eh (ck gK (pv 0) Zg) Zg))
     (bg (cN (i:=5) jB.nd rfl (Or.inl rfl) (ck eh (pv 4) (dj (fF K) (by rfl) T.e Qn (ay (pv 1) aH))))
     (bg (cN (i:=6) jB.nd rfl (Or.inl rfl) (ck eh (ck fJ (pv 4) Zg) (dj (fF K) (by rfl) T.e Qn (ay (pv 1) aH))))
     (bg (cN (i:=7) jB.nd rfl (Or.inl rfl) (dq T.b2 (HC T) au cT (ay (c_ (ixk K) (pv 1) (pv 5) (λ_ _=>rfl)) (ay (c_ (ixk K) (pv 1) (pv 6) (λ_ _=>rfl)) aH))))
     (bg (cN (i:=8) jB.nd rfl (Or.inl rfl) (ck (fi K) Zg (ck eh (ck fJ (pv 4) Zg) (pv 2))))
     (bg (cN (i:=9) jB.nd rfl (Or.inl rfl) (ck fJ (ck gK (pv 8) (c_ (ixk K) (pv 1) (pv 6) (λ_ _=>rfl))) (pv 7)))
     (bg (cN (i:=10) jB.nd rfl (Or.inl rfl) (ck fJ (ck gK (pv 8) (c_ (ixk K) (pv 1) (pv 5) (λ_ _=>rfl))) (pv 7)))
     (bg (cN (i:=11) jB.nd rfl (Or.inl rfl) (ck eh (ck fJ (pv 4) Zg) Zg))
     (bg (lY (dM (PW.pt (h4 (fW (K:=K) rfl (pv 3) (λ_=>rfl)) (ip (PW.pt (p9 (dJ mX (pv 5) (pv 6) (da _)) (p8 (dJ si (ck eh (ck fJ (pv 4) Zg) Zg) Zg (da _)))))))) (bq (cN (i:=11) jB.nd rfl (Or.inl rfl) (ck (fi K) (pv 11) (ck gK (pv 10) (c_ (ixk K) (pv 1) (pv 6) (λ_ _=>rfl)))))) d5))
     (bq (c' (g8 (ay (pv 5) (ay (pv 6) (ay (pv 9) (ay (pv 10) (ay (pv 11) aH))))))))))))))))),?_⟩
  try dsimp only[L2.cxX,L2.ZL,L2.Zl]
  walk_at "rds";have j0:0≤c*48271 % 2147483647:=by omega
  have g7:c*48271 % 2147483647<2147483647:=by omega
  generalize c*48271 % 2147483647=e9 at*;have cy:=QT e9 (show((eZ.map V.int).length:Int)≠0 by omega);have cU:=QN e9 ff;have hp:=QT (e9 / 7) (show((eZ.map V.int).length:Int)≠0 by omega);have iS:=QN (e9 / 7) ff;generalize e9 % ((eZ.map V.int).length:Int)=g at*;generalize e9 / 7 % ((eZ.map V.int).length:Int)=t at*;rw[m_] at cU iS;have z1:∀{w:Int},0≤w→w<(eZ.length:Int)→∃x:Nat,eZ.getD w.toNat 0=(x:Int)∧1≤x∧x≤4:=λ{w} dD er=>by
   have a4:eZ.getD w.toNat 0∈eZ:=by rw[dh (by omega)];exact Qf _
   obtain⟨gp,fI⟩:=cA _ a4;exact⟨(eZ.getD w.toNat 0).toNat,by omega,by omega,by omega⟩
  obtain⟨x,ex,x0,x1⟩:=z1 cy cU;obtain⟨y,ez,zI,nL⟩:=z1 hp iS;have mi:=WY cy cU;have pw:=WY hp iS;rw[ex] at mi;rw[ez] at pw;have OX:=QT (e9 / 49) (show(he:Int)≠0 by omega);have OY:=QN (e9 / 49) HF;obtain⟨f,px⟩:∃f:Nat,1+e9 / 49 % (he:Int)=(f:Int):=⟨(1+e9 / 49 % (he:Int)).toNat,by omega⟩;have ew:1≤f:=by omega
  have f1:f≤10:=by omega
  have iy:0<Nat.gcd x y:=Nat.gcd_pos_of_pos_left _ (by omega);have z2:Nat.gcd x y≤x:=Nat.le_of_dvd (by omega) (Nat.gcd_dvd_left _ _);have HG:Nat.gcd x y≤y:=Nat.le_of_dvd (by omega) (Nat.gcd_dvd_right _ _);have OZ:x≤f*x:=Nat.le_mul_of_pos_left x (by omega);have O0:y≤f*y:=Nat.le_mul_of_pos_left y (by omega);have O1:f*x≤10*4:=Nat.mul_le_mul f1 x1;have O2:f*y≤10*4:=Nat.mul_le_mul f1 nL;have gp:1≤f*y / Nat.gcd x y:=Nat.div_pos (by omega) iy;have fI:1≤f*x / Nat.gcd x y:=Nat.div_pos (by omega) iy;have HH:f*x / Nat.gcd x y≤40:=Qv (Nat.div_le_self _ _) (by omega);have re:f*y / Nat.gcd x y≤40:=Qv (Nat.div_le_self _ _) (by omega);have O3:IntMulOk (1+e9 / 49 % (he:Int)) (x:Int):=mulI (n:=10) (m:=10) (by omega) (by omega) (by decide);have O4:IntMulOk (1+e9 / 49 % (he:Int)) (y:Int):=mulI (n:=10) (m:=10) (by omega) (by omega) (by decide);have O5:0<((Nat.gcd x y:Nat):Int)∧((Nat.gcd x y:Nat):Int).natAbs.log2<9000:=⟨by omega,t8 (by omega)⟩;refine Rd.Zi3 et mi ?_;walk_at "rds";refine⟨x,y,rfl,?_⟩;walk_at "rds";rw[px];have t3:(f:Int)*(y:Int) / ((Nat.gcd x y:Nat):Int)=((f*y / Nat.gcd x y:Nat):Int):=rfl;have cZ:(f:Int)*(x:Int) / ((Nat.gcd x y:Nat):Int)=((f*x / Nat.gcd x y:Nat):Int):=rfl;rw[t3,cZ];generalize f*y / Nat.gcd x y=gg at*;generalize f*x / Nat.gcd x y=dI at*;have O6:IntMulOk (dI:Int) (y:Int):=mulI (n:=10) (m:=10) (by omega) (by omega) (by decide);have mA:0≤e9 / 98 % 3∧e9 / 98 % 3≤2:=by omega
  have ty:(dI:Int)*(y:Int)≤40*4:=Int.mul_le_mul (by omega) (by omega) (by omega) (by omega);have O7:0≤(dI:Int)*(y:Int):=Int.mul_nonneg (by omega) (by omega);refine Rd.cut (λaW H'=>H'=H∧∃st:Int,aW=[some (.int c),some (.ref a),some (.int he),some (.bl nn),some (.int e9),some (.int g),some (.int t),some (.int (Nat.gcd x y:Nat)),some (.int f),some (.int gg),some (.int dI),some (.int st)]∧0≤st∧st≤1000) ?k1 ?eC
  case eC=>
   cases nn with
   |true=>
    walk_at "rds";exact⟨rfl,_,rfl,by omega,by omega⟩
   |false=>
    walk_at "rds";refine Rd.ifD (λjY=>?_) (λjY=>?_)
    ·walk_at "rds";refine Rd.ifD (λjA=>?_) (λjA=>?_)
     ·walk_at "rds";exact⟨rfl,_,rfl,by omega,by omega⟩
     ·walk_at "rds";exact⟨rfl,_,rfl,by omega,by omega⟩
    ·walk_at "rds";exact⟨rfl,_,rfl,by omega,by omega⟩
  case k1=>
   rintro aW H' ⟨rfl,st,rfl,HI,kr⟩;walk_at "rds";refine⟨by show 5≤sizeLine;decide,λu eF=>?_⟩;exact q u _ ⟨g,t,gg,dI,st⟩ eF (cF eF) Ze ⟨⟨cy,cU,hp,iS⟩,⟨by dsimp only;omega,by dsimp only;omega⟩,⟨HI,kr⟩,⟨by dsimp only;omega,by dsimp only;omega⟩⟩
end
def HJ{K:Frag}{mg:Str→Option Value}(T:Tp K mg):Sp:=λvs H Q _=>∃(a b:Addr)(hs:List Int)(l:List (Int×Int))(xs:List V),vs=[.ref a,.ref b]∧SqL K H a (hs.map V.int)∧SqL K H b xs∧gV H l xs∧(∀x∈l,0≤x.1∧x.1<hs.length)∧l.length≤1000∧∀H',Zc H H'→Q (.bl (pb hs l)) H'
section
variable {P:Program}{w:World}{K:Frag}{mg:Str→Option Value}{base:Heap}
theorem HK(T:Tp K mg):OkN P w base 1 T.b4 (HJ T):=by
 refine T.b4.F.okX EA (λvs H Q E h=>?_) (λcw A outer s H vs Q E au h=>?_)
 ·obtain⟨a,b,hs,l,xs,rfl,_⟩:=h
  rfl
 ·have hu:=au.hu;obtain⟨a,b,hs,l,xs,rfl,aS,am,a1,au,bh,q⟩:=h;have ms:l.length=xs.length:=Paired.length a1;refine⟨_,(bq (c' (dj (qx (K:=K) rfl rfl) (by rfl) T.aY Rl (ay (gu (xs:=["belt","take"]) rfl (fg (x:="belt") (zs:=["heaps"]) (ix:=[0]) (cq tN) ["heaps","takes"] rfl rfl (by decide+kernel)) (fh (K:=K) rfl (pv 1)) (λcl C s H fp=>⟨(gs (K:=K) (n:=2) rfl rfl (d0 (cP (i:=0) (show(["belt","take","heaps"]:List Str).Nodup by decide+kernel) rfl (Or.inl rfl)) (d0 (cP (i:=1) (show(["belt","take","heaps"]:List Str).Nodup by decide+kernel) rfl (Or.inl rfl)) gj))),fR,(jt mX (c_ (ixk K) (pv 2) (pv 0) (λ_ _=>rfl)) (pv 1) (da _))⟩)) aH)))),?_⟩
  try dsimp only[L2.cxX,L2.ZL,L2.Zl]
  walk_at "rds";refine ZP (own:=2) (e7 am).y (ej (by omega)) (λi=>[some (.int (l.getD i (0,0)).1),some (.int (l.getD i (0,0)).2)]) (λ_=>rfl) (λ_=>true) (λi v _=>v= .bl (decide ((l.getD i (0,0)).2≤hs.getD (l.getD i (0,0)).1.toNat 0))) (λ_ _ _ _ _ z=>z) (λi cE H' v ar e8 hi aI y dE k=>?_) (λi H' cL hi aI k=>?_) (λfO i H' cL hi aG hp0 eV aI k=>?_) (λr H' ys lc aI dX c2=>?_)
  ·obtain⟨rfl,rfl⟩:=y;obtain⟨x1,x2,rfl⟩:∃x1 x2,cE=[x1,x2]:=by
    match cE,dE with
    | [x1,x2],_=>exact⟨x1,x2,rfl⟩
   obtain⟨v,cH,t,rfl,aT⟩:=Paired.get a1 (Qa (show i<l.length by omega));have eB:xs.getD i .non= .ref t:=by simp[List.getD,cH]
   have ia:l.getD i (0,0)=l[i]:=by simp[List.getD,show i<l.length by omega]
   rw[eB];rw[ia] at k;refine Rd.Wu (.of (aI _ _ aT)) rfl ?_;walk_at "rds";exact k _ (Zc.refl _)
  ·walk_at "rds";exact k H' (Zc.refl H')
  ·have ia:l.getD i (0,0)=l[i]:=by simp[List.getD,show i<l.length by omega]
   obtain⟨ug,cy⟩:=au _ (Qf (show i<l.length by omega));rw[ia] at k⊢;generalize l[i]=x at*;have c1:=aI.seq aS;have mi:=Zcm ug cy;walk_at "rds";exact k _ H' (Zc.refl H') rfl
  ·have e:ys=(l.map λx=>decide (x.2≤hs.getD x.1.toNat 0)).map V.bl:=by
    rw[qA (R:=λi v _=>v=V.bl (decide ((l.getD i (0,0)).2≤hs.getD (l.getD i (0,0)).1.toNat 0))) (H:=H') (r:=λi=>V.bl (decide ((l.getD i (0,0)).2≤hs.getD (l.getD i (0,0)).1.toNat 0))) (λ_ _ z=>z) c2,Ql.mpr (by simp),←ms];refine Q7 (by simp) λi aq av=>?_;have hi:i<l.length:=by simpa using aq
    have ia:l.getD i (0,0)=l[i]:=by simp[List.getD,hi]
    rw[Rr,Rr,Rr,List.getElem_range,ia]
   rw[e] at dX;walk_at "rds";have a8:(l.map λx=>decide (x.2≤hs.getD x.1.toNat 0)).all id=pb hs l:=by rw[List.all_map];rfl
   rw[a8];exact q H' aI
end
def HL{K:Frag}{mg:Str→Option Value}(T:Tp K mg):Sp:=λvs H Q E=>∃(p:Addr)(w:Int)(az:FM)(fp:List Addr),vs=[.ref p,.int w]∧gv T H p az fp∧
 (¬(0≤w∧w<az.many)→E (.ref T.l) none H)∧(0≤w→w<az.many→Q .non H)
section
variable {P:Program}{w:World}{K:Frag}{mg:Str→Option Value}{base:Heap}
theorem HN(T:Tp K mg):OkM P w mg base 4 T.b5 (HL T):=by
 have lf:=T.g;have lg:=T.o;refine T.b5.F.okX EB (λvs H Q E h=>?_) (λcw A outer s H vs Q E au h=>?_)
 ·obtain⟨p,w,az,fp,rfl,_⟩:=h
  rfl
 ·have hu:=au.hu;obtain⟨p,w,az,fp,rfl,aX,aV,q⟩:=h;obtain⟨ap,a,b,c,em,fY,rfl,aq,av,b_,cA,dt,cY,fZ,gw,gx⟩:=id aX;refine⟨_,(bq (dM (gD (fW (K:=K) rfl (dq T.x9 (q5 T) au cT (ay (pv 1) (ay (dj (fF K) (by rfl) T.e Qn (ay (ek (K:=K) rfl (pv 0) rfl) aH)) aH))) (λ_=>rfl))) (bq (hz T.I.g T.I.e Qi rfl (ay Yl aH))) d5)),?_⟩
  try dsimp only[L2.cxX,L2.ZL,L2.Zl]
  walk_at "rds";have ia:((em.map V.ref).length:Int)=az.many:=by
   rw[Qb,cY.len];unfold qN;simp only[Qb,List.length_range];omega
  rw[ia]
  by_cases c:0≤w∧w<az.many
  ·rw[decide_eq_true c];walk_at "rds";exact q c.1 c.2
  ·rw[decide_eq_false c];walk_at "rds";exact aV c
end
def HP{K:Frag}{mg:Str→Option Value}(T:Tp K mg):Sp:=λvs H Q E=>∃(p q:Addr)(ws:List Int)(az:FM)(fp:List Addr),vs=[.ref p,.ref q]∧gv T H p az fp∧SqL K H q (ws.map V.int)∧az.rows.length≤1000∧
 (goR az.many az.rows az.heaps ws= .error true→∀H',Zc H H'→E (.ref T.l) none H')∧(goR az.many az.rows az.heaps ws= .error false→∀H',Zc H H'→E (.ref T.S) none H')∧
 (∀hs,goR az.many az.rows az.heaps ws= .ok hs→∀(H':Hp)(cC:List Addr),gv T H' p ⟨az.many,az.rows,hs⟩ cC→Zr fp H H'→ZV fp cC H→Q .non H')
theorem ZcP{f:Nat→Int}{hs:List Int}{is:List Nat}{i:Nat}(h:i<is.length):bump f hs (is.take (i+1))=(bump f hs (is.take i)).set is[i] ((bump f hs (is.take i)).getD is[i] 0+f is[i]):=by
 unfold bump;rw[Qt h,List.foldl_append]
 rfl
theorem Zgy{f0:List Nat}{f:Nat→Int}{H:Hp}{vs:List V}{i:Nat}(h:gV H (f0.map λi:Nat=>((i:Int),f i)) vs)(hi:i<f0.length):∃t,vs.getD i .non= .ref t∧H t=some (.tup [.int (f0[i]:Nat),.int (f f0[i])]):=by
 obtain⟨v,cH,t,rfl,aT⟩:=Paired.get h (i:=i) (x:=((f0[i]:Int),f f0[i])) (by rw[Qp,Qa hi];rfl);exact⟨t,by simp[List.getD,cH],aT⟩
section
variable {P:Program}{w:World}{K:Frag}{mg:Str→Option Value}{base:Heap}
theorem z3(T:Tp K mg):OkM P w mg base 5 T.bD (HP T):=by
 have lf:=T.g;have lg:=T.o;refine T.bD.F.okX l' (λvs H Q E h=>?_) (λcw A outer s H vs Q E au h=>?_)
 ·obtain⟨p,q,ws,az,fp,rfl,_⟩:=h
  rfl
 ·have hu:=au.hu;obtain⟨p,hl,ws,az,fp,rfl,aX,cj,bh,aV,a8,q⟩:=h;obtain⟨ap,a,b,c,em,fY,rfl,aq,av,b_,cA,dt,cY,fZ,gw,gx⟩:=id aX;refine⟨_,(bg (cN (i:=2) l'.nd rfl (Or.inl rfl) (gP (i6 (K:=K) rfl) (by rfl) T.k Qw (ay (ek (K:=K) rfl (pv 0) rfl) aH)))
     (bg (fz PassesOwn.leaving rfl (fh (K:=K) rfl (pv 1)) (cP (i:=3) l'.nd rfl (Or.inl rfl)) (bg (eK (hc (pv 0) T.g T.b5 (HN T) au cT (ay (pv 3) aH)))
     (bg (dM (gD (fW (K:=K) rfl (dq T.b4 (HK T) au cT (ay (pv 2) (ay (c_ (ixk K) (ek (K:=K) rfl (pv 0) rfl) (pv 3) (λ_ _=>rfl)) aH))) (λ_=>rfl))) (bq (hz T.aF.g T.aF.e Qi rfl (ay Yl aH))) d5)
     (bg (fz PassesOwn.leaving rfl (fh (K:=K) rfl (c_ (ixk K) (ek (K:=K) rfl (pv 0) rfl) (pv 3) (λ_ _=>rfl))) (gs (K:=K) (n:=2) rfl rfl (d0 (cP (i:=4) l'.nd rfl (Or.inl rfl)) (d0 (cP (i:=5) l'.nd rfl (Or.inl rfl)) gj))) (bq (wh (pv 2) (pv 4) (xi (K:=K) rfl) (pv 5) BI mY)))
     (bq (fz PassesOwn.leaving rfl (fh (K:=K) rfl (c_ (ixk K) (ek (K:=K) rfl (pv 0) rfl) (pv 3) (λ_ _=>rfl))) (gs (K:=K) (n:=2) rfl rfl (d0 (cP (i:=4) l'.nd rfl (Or.inl rfl)) (d0 (cP (i:=6) l'.nd rfl (Or.inl rfl)) gj))) (bq (wh (pv 2) (pv 4) (xi (K:=K) rfl) (pv 6) wi mY))))))))
     (bq (h_ (K:=K) rfl (pv 0) (pv 2) rfl)))),?_⟩
  try dsimp only[L2.cxX,L2.ZL,L2.Zl]
  walk_at "rds";refine Rd.Zb5 (.of dt) (λr au=>?_);have aB:Zc H (upd H r (.lst (az.heaps.map V.int))):=cF au;have hX:(upd H r (.lst (az.heaps.map V.int))) r=some (.lst (az.heaps.map V.int)):=Ze;generalize upd H r (.lst (az.heaps.map V.int))=ao at*;have iD:=aB.seq cj;walk_at "rds";refine Ym (e7 cj) (λi σ H'=>Zc H H'∧(∃dk dm d4 eE,σ=[some (.ref p),some (.ref hl),some (.ref r),dk,dm,d4,eE])∧∃hs,goR az.many az.rows az.heaps (ws.take i)= .ok hs∧H' r=some (.lst (hs.map V.int))) ⟨aB,⟨_,_,_,_,rfl⟩,az.heaps,rfl,hX⟩ (λi σ H' h=>h.1) ?_ ?_
  ·rintro i σ ar hi ⟨bc,⟨dk,dm,d4,eE,rfl⟩,hs,ci,fx⟩;have z4:i<ws.length:=by simpa using hi
   have jw:=Qa z4;have fb:(ws.map V.int).getD i .non= .int ws[i]:=by simp[List.getD,z4]
   rw[fb];have yB:=yw ci jw;have ed:=λb=>ZhJ (b:=b) ci jw;generalize ws[i]=w at*;have HQ:=aX.same bc;have dg:hs.length=az.rows.length:=t5 gw ci;walk_at "rds";refine⟨p,w,az,_,rfl,HQ,λz=>aV (ed true (by unfold turnR;rw[if_neg z])) ar bc,λdD er=>?_⟩;have g1:=bc _ _ aq;have g3:=bc _ _ b_;have i1:=bc _ _ cA;obtain⟨x,vs,mi,al,uT⟩:=cY.at dD (yx dD er);obtain⟨y,c3,pw,cx,z5⟩:=fZ.at dD (yy dD er);have z2:=bc _ _ al;have HG:=bc _ _ cx;have es:=ZaN (ls:=az.rows) (w:=w);walk_at "rds";refine⟨r,x,hs,takeRow az.rows w,vs,rfl,.of fx,.of z2,uT.keep λ_ _ z=>bc _ _ z,ER dg,by omega,λa2 be=>?_⟩;rw[ZfR dg];cases j8:iG az.rows hs w with
   |false=>
    walk_at "rds";exact a8 (ed false (by unfold turnR;rw[if_pos ⟨dD,er⟩,j8];rfl)) a2 (bc.trans be)
   |true=>
    have hok:goR az.many az.rows az.heaps (ws.take (i+1))= .ok (i' az.rows hs w):=by
     rw[yB];unfold turnR;rw[if_pos ⟨dD,er⟩,j8,if_pos rfl]
    have gM:=bc.trans be;have k1:=gM _ _ aq;have k3:=gM _ _ b_;have O8:=gM _ _ al;have nR:=be _ _ fx;have O9:x≠r:=dG al au;have O_:y≠r:=dG cx au;have e6:vs.length=(dF az.rows w).length:=by rw[←Paired.length uT];unfold takeRow;simp
    have HR:c3.length=(leaveL az.rows w).length:=by rw[←Paired.length z5];unfold giveRow;simp
    walk_at "rds";refine Ym (e7 (SqL.of al)) (λj σ H'=>Zc H H'∧(∃dm d4 eE,σ=[some (.ref p),some (.ref hl),some (.ref r),some (.int w),dm,d4,eE])∧H' r=some (.lst ((bump (λi=>-(az.rows.getD i dB).take) hs ((dF az.rows w).take j)).map V.int))) ⟨gM,⟨_,_,_,rfl⟩,nR⟩ (λi σ H' h=>h.1) ?_ ?_
    ·rintro j σ a3 aU ⟨cp,⟨dm,d4,eE,rfl⟩,q3⟩;have hf:j<(dF az.rows w).length:=by omega
     obtain⟨t,hG,gf⟩:=Zgy uT hf;have dx:=kU (Qf hf);have m':=ZcP (f:=λi=>-(az.rows.getD i dB).take) (hs:=hs) hf;rw[hG];refine Rd.Wu (.of (cp _ _ gf)) rfl ?_;generalize (dF az.rows w)[j]=m at*;have bl:=WK (λi=>-(az.rows.getD i dB).take) ((dF az.rows w).take j) hs;generalize bump (λi=>-(az.rows.getD i dB).take) hs ((dF az.rows w).take j)=us at*;have HS:=Zcm (ns:=us) (k:=(m:Int)) (Q3 m) (by omega);have HV:(m:Int)<((us.map V.int).length:Int):=by simp;omega
     walk_at "rds";refine⟨cp.new au,⟨_,_,_,rfl⟩,?_⟩;rw[Ze,m',List.map_set]
     rfl
    ·rintro σ a3 ⟨cp,⟨dm,d4,eE,rfl⟩,q3⟩;have g7:=cp _ _ aq;have Pa:=cp _ _ cA;have Pb:=cp _ _ cx;rw[e6,Q4] at q3;walk_at "rds";have bl:=WK (λi=>-(az.rows.getD i dB).take) (dF az.rows w) hs;refine Ym (e7 (SqL.of cx)) (λj σ H'=>Zc H H'∧(∃dm d4 eE,σ=[some (.ref p),some (.ref hl),some (.ref r),some (.int w),dm,d4,eE])∧H' r=some (.lst ((bump (λi=>(az.rows.getD i dB).give) (bump (λi=>-(az.rows.getD i dB).take) hs (dF az.rows w)) ((leaveL az.rows w).take j)).map V.int))) ⟨cp,⟨_,_,_,rfl⟩,q3⟩ (λi σ H' h=>h.1) ?_ ?_
     ·rintro j σ bH aU ⟨cK,⟨dm,d4,eE,rfl⟩,uU⟩;have hf:j<(leaveL az.rows w).length:=by omega
      obtain⟨t,hG,gf⟩:=Zgy z5 hf;have dx:=ma (Qf hf);have m':=ZcP (f:=λi=>(az.rows.getD i dB).give) (hs:=bump (λi=>-(az.rows.getD i dB).take) hs (dF az.rows w)) hf;rw[hG];refine Rd.Wu (.of (cK _ _ gf)) rfl ?_;generalize (leaveL az.rows w)[j]=m at*;have Pc:=WK (λi=>(az.rows.getD i dB).give) ((leaveL az.rows w).take j) (bump (λi=>-(az.rows.getD i dB).take) hs (dF az.rows w));generalize bump (λi=>(az.rows.getD i dB).give) (bump (λi=>-(az.rows.getD i dB).take) hs (dF az.rows w)) ((leaveL az.rows w).take j)=us at*;have HS:=Zcm (ns:=us) (k:=(m:Int)) (Q3 m) (by omega);have HV:(m:Int)<((us.map V.int).length:Int):=by simp;omega
      walk_at "rds";refine⟨cK.new au,⟨_,_,_,rfl⟩,?_⟩;rw[Ze,m',List.map_set]
      rfl
     ·rintro σ bH ⟨cK,⟨dm,d4,eE,rfl⟩,uU⟩;rw[HR,Q4,EO dg] at uU;walk_at "rds";exact⟨cK,⟨_,_,_,_,rfl⟩,_,hok,uU⟩
  ·rintro σ ar ⟨bc,⟨dk,dm,d4,eE,rfl⟩,hs,ci,fx⟩;rw[Qb,Q4] at ci;have g1:=bc _ _ aq;have HW:p≠r:=dG aq au;walk_at "rds";have cX:Zr [p] ar (upd ar p (.ins T.b ap [("takes",.ref a),("gives",.ref b),("heaps",.ref r)])):=fu (by simp) g1 (by intro _ z;cases z);have hq:∀x,x≠p→H x≠none→(upd ar p (.ins T.b ap [("takes",.ref a),("gives",.ref b),("heaps",.ref r)])) x=H x:=λx n d=>by
    rw[bJ n];cases e:H x with
    |none=>exact absurd e d
    |some o=>exact bc _ _ e
   have mq:∀ql xs,H ql=some (.tup xs)→(upd ar p (.ins T.b ap [("takes",.ref a),("gives",.ref b),("heaps",.ref r)])) ql=some (.tup xs):=λql xs z=>cX.tups _ _ (bc _ _ z);have ts:∀{ls:List (List (Int×Int))}{is:List Addr},LL H ls is→∀x∈is,x≠p:=λ{ls is} l x al z=>by
    obtain⟨i,hi,rfl⟩:=QJ al;have jJ:i<ls.length:=by rw[←l.len];exact hi
    obtain⟨y,eP,vs,i3,_⟩:=Paired.get l (Qa jJ);rw[Qa hi] at eP;cases eP;rw[z,aq] at i3;cases i3
   have uV:Zr (p::ap::a::b::c::(em++fY)) H (upd ar p (.ins T.b ap [("takes",.ref a),("gives",.ref b),("heaps",.ref r)])):=bc.frame.trans (cX.mono (by simp));refine q hs ci _ (p::ap::a::b::r::(em++fY)) ⟨ap,a,b,r,em,fY,rfl,Ze,?_,?_,?_,?_,cY.keep mq (λx al=>hq x (ts cY x al) (cY.dom x al)),fZ.keep mq (λx al=>hq x (ts fZ x al) (fZ.dom x al)),t5 gw ci,gx⟩ uV (λx al=>?_)
   ·exact(hq _ (hJ av aq (by intro z;cases z)) (by rw[av];simp)).trans av
   ·exact(hq _ (hJ b_ aq (by intro z;cases z)) (by rw[b_];simp)).trans b_
   ·exact(hq _ (hJ cA aq (by intro z;cases z)) (by rw[cA];simp)).trans cA
   ·rw[bJ HW.symm];exact fx
   ·simp only[Qe,QD] at al⊢;rcases al with rfl|rfl|rfl|rfl|rfl|al|al
    ·exact .inl (.inl rfl)
    ·exact .inl (.inr (.inl rfl))
    ·exact .inl (.inr (.inr (.inl rfl)))
    ·exact .inl (.inr (.inr (.inr (.inl rfl))))
    ·exact .inr au
    ·exact .inl (.inr (.inr (.inr (.inr (.inr (.inl al))))))
    ·exact .inl (.inr (.inr (.inr (.inr (.inr (.inr al))))))
end
def HX{K:Frag}{mg:Str→Option Value}(T:Tp K mg):Sp:=λvs H Q _=>∃(f fk c:Addr)(k:Int)(dO:List V)(cJ:List (Int×Int))(xs:List Int),vs=[.ref f,.ref c]∧H f=some (.tup [.int k,.ref fk])∧H fk=some (.tup dO)∧f_ H dO cJ∧SqL K H c (xs.map V.int)∧cJ.length≤1000∧(∀t∈cJ,0≤t.1∧t.1<(xs.length:Int)∧IntMulOk t.2 (xs.getD t.1.toNat 0))∧
 ∀H':Hp,Zc H H'→Q (.int (formV k cJ xs)) H'
section
variable {P:Program}{w:World}{K:Frag}{mg:Str→Option Value}{base:Heap}
theorem HY(T:Tp K mg):OkN P w base 1 T.b6 (HX T):=by
 refine T.b6.F.okX EC (λvs H Q E h=>?_) (λcw A outer s H vs Q E au h=>?_)
 ·obtain⟨f,fk,c,k,dO,cJ,xs,rfl,_⟩:=h
  rfl
 ·have hu:=au.hu;obtain⟨f,fk,c,k,dO,cJ,xs,rfl,aX,jg,du,aG,nt,ra,q⟩:=h;have nH:=du.length;have ed:SqT K H fk dO:= .of jg;refine⟨_,(bq (c' (ck (fi K) (c_ (ixk K) (pv 0) Zg (λ_ _=>rfl)) (dj (nf (K:=K) rfl rfl) (by rfl) T.Z Q1 (ay (gu (xs:=["slot","factor"]) rfl (fg (x:="slot") (zs:=["pieces"]) (ix:=[1]) (cq tO) ["form","pieces"] rfl rfl (by decide+kernel)) (nc (K:=K) rfl (c_ (ixk K) (pv 0) Zg (λ_ _=>rfl))) (λcl C s H fp=>⟨(gs (K:=K) (n:=2) rfl rfl (d0 (cP (i:=0) (show(["slot","factor","pieces"]:List Str).Nodup by decide+kernel) rfl (Or.inl rfl)) (d0 (cP (i:=1) (show(["slot","factor","pieces"]:List Str).Nodup by decide+kernel) rfl (Or.inl rfl)) gj))),fR,(ck gK (pv 1) (c_ (ixk K) (pv 2) (pv 0) (λ_ _=>rfl)))⟩)) aH))))),?_⟩
  try dsimp only[L2.cxX,L2.ZL,L2.Zl]
  walk_at "rds";unfold ky;walk_at "rds";refine⟨fk,rfl,⟨_,ed⟩,?_⟩;refine ZP (own:=2) (m8 ed).y (ej (by omega)) (λi=>[some (.int (cJ.getD i (0,0)).1),some (.int (cJ.getD i (0,0)).2)]) (λ_=>rfl) (λ_=>true) (λi v _=>v= .int ((cJ.getD i (0,0)).2*xs.getD (cJ.getD i (0,0)).1.toNat 0)) (λ_ _ _ _ _ z=>z) (λi cE H' v a2 e8 hi aI y dE k=>?_) (λi H' cL hi aI k=>?_) (λfO i H' cL hi ft hp0 eV aI k=>?_) (λd a2 zs hd aI dX c2=>?_)
  ·obtain⟨rfl,rfl⟩:=y;obtain⟨x1,x2,rfl⟩:∃x1 x2,cE=[x1,x2]:=by
    match cE,dE with
    | [x1,x2],_=>exact⟨x1,x2,rfl⟩
   obtain⟨t,cZ,aT⟩:=du.getD (i:=i) (by omega);rw[cZ];refine Rd.Wu (.of (aI _ _ aT)) rfl ?_;walk_at "rds";exact k _ (Zc.refl _)
  ·walk_at "rds";exact k H' (Zc.refl H')
  ·have eG:i<cJ.length:=by omega
   have a4:cJ.getD i (0,0)∈cJ:=by rw[dh eG];exact Qf _
   obtain⟨iK,jH,ud⟩:=ra _ a4;generalize cJ.getD i (0,0)=mq at*;have jX:=aI.seq aG;have mi:=WY iK jH;walk_at "rds";exact k _ H' (Zc.refl H') rfl
  ·rw[Ql.mpr (by simp),nH] at c2;have ez:=ja c2;rw[kW (λt:Int×Int=>t.2*xs.getD t.1.toNat 0)] at ez;have g9:=SqL.of (K:=K) (ez▸dX);walk_at "rds";refine⟨d,_,rfl,g9,?_⟩;walk_at "rds";exact q a2 aI
end
def HZ{K:Frag}{mg:Str→Option Value}(T:Tp K mg):Sp:=λvs H Q E=>∃(p c:Addr)(xs a5:List Int)(fp:List Addr),vs=[.ref p,.ref c]∧fT T H p xs fp∧H c=some (.lst (a5.map V.int))∧c∉fp∧a5.length≤1000∧xs.length≤100000∧∀H' cC,fT T H' p (xs++a5) cC→Zr fp H H'→ZV fp cC H→Q .non H'
section
variable {P:Program}{w:World}{K:Frag}{mg:Str→Option Value}{base:Heap}
theorem H1(T:Tp K mg):OkM P w mg base 1 T.b7 (HZ T):=by
 have li:=T.i;have lj:=T.w;refine T.b7.F.okX ED (λvs H Q E h=>?_) (λcw A outer s H vs Q E au h=>?_)
 ·obtain⟨p,c,xs,a5,fp,rfl,_⟩:=h
  rfl
 ·have hu:=au.hu;obtain⟨p,c,xs,a5,fp,rfl,ai,aG,Pd,Pe,hk,q⟩:=h;obtain⟨ap,l,laid,g,rfl,aq,av,b_,cA,dt,cY⟩:=id ai;have eS:p≠l:=λz=>by rw[z,b_] at aq;cases aq
  have eD:ap≠l:=λz=>by rw[z,b_] at av;cases av
  refine⟨_,(bq (eK (hA (K:=K) rfl Qo PySem.F.slot_list_extend PySem.F.type_list_extend wK (ek (K:=K) rfl (pv 0) rfl) (ay (pv 1) aH)))),?_⟩
  try dsimp only[L2.cxX,L2.ZL,L2.Zl]
  walk_at "rds";refine⟨l,c,_,_,rfl,rfl,b_,aG,QW (jC (by simp only[Qb];omega)),?_⟩;refine q _ [p,ap,l] ⟨ap,l,laid++a5,g,rfl,by rw[bJ eS];exact aq,by rw[bJ eD];exact av,by rw[Ze,QQ],by rw[Qg];omega,by rw[List.drop_append_of_le_length cA,dt],by rw[Qg,Qg];omega⟩ (fu (by simp) b_ (by intro _ z;cases z)) ZV.refl
end
def z6{K:Frag}{mg:Str→Option Value}(T:Tp K mg):Sp:=λvs H Q E=>∃(p ap l:Addr)(laid:List Int)(g:Nat),vs=[.ref p]∧H p=some (.ins T.j ap [("laid",.ref l),("gone",.int g)])∧H ap=some (.own p)∧H l=some (.lst (laid.map V.int))∧g≤laid.length∧∀r,H r=none→Q (.ref r) (upd H r (.lst ((laid.drop g).map V.int)))
theorem Zc7{K:Frag}{mg:Str→Option Value}{T:Tp K mg}{H:Hp}{p:Addr}{xs:List Int}{fp:List Addr}{Q:VK}{E:XK}(h:fT T H p xs fp)(q:∀r,H r=none→Q (.ref r) (upd H r (.lst (xs.map V.int)))):z6 T ([.ref p]++ []) H Q E:=by
 obtain⟨ap,l,laid,g,rfl,aq,av,b_,cA,dt,cY⟩:=h;exact⟨p,ap,l,laid,g,rfl,aq,av,b_,cA,dt▸q⟩
section
variable {P:Program}{w:World}{K:Frag}{mg:Str→Option Value}{base:Heap}
theorem z7(T:Tp K mg):OkM P w mg base 1 T.bE (z6 T):=by
 have li:=T.i;have lj:=T.w;refine T.bE.F.okX EE (λvs H Q E h=>?_) (λcw A outer s H vs Q E au h=>?_)
 ·obtain⟨p,ap,l,laid,g,rfl,_⟩:=h
  rfl
 ·have hu:=au.hu;obtain⟨p,ap,l,laid,g,rfl,aq,av,b_,cA,q⟩:=h;have uW:=SqL.of (K:=K) b_;refine⟨_,(bq (c' (lS (nb (K:=K) rfl) (ek (K:=K) rfl (pv 0) rfl) (iX (ek (K:=K) rfl (pv 0) rfl)) sy))),?_⟩
  try dsimp only[L2.cxX,L2.ZL,L2.Zl]
  walk_at "rds";refine Rd.slL uW ?_;intro r au;rw[Zhu (by rw[Qb];exact cA),←Rx];exact q r au
end
def H2{K:Frag}{mg:Str→Option Value}(T:Tp K mg):Sp:=λvs H Q E=>∃(p:Addr)(m:Nat)(xs:List Int)(fp:List Addr),vs=[.ref p,.int m]∧fT T H p xs fp∧m≤xs.length∧xs.length≤100000∧
 ∀r H' cC,H r=none→fT T H' p (xs.drop m) cC→H' r=some (.lst ((xs.take m).map V.int))→r∉cC→Zr fp H H'→ZV fp cC H→Q (.ref r) H'
section
variable {P:Program}{w:World}{K:Frag}{mg:Str→Option Value}{base:Heap}
theorem H3(T:Tp K mg):OkM P w mg base 2 T.b8 (H2 T):=by
 have li:=T.i;have lj:=T.w;refine T.b8.F.okX yq (λvs H Q E h=>?_) (λcw A outer s H vs Q E au h=>?_)
 ·obtain⟨p,m,xs,fp,rfl,_⟩:=h
  rfl
 ·have hu:=au.hu;obtain⟨p,m,xs,fp,rfl,ai,a4,bh,q⟩:=h;obtain⟨ap,l,laid,g,rfl,aq,av,b_,cA,dt,cY⟩:=id ai;have uW:=SqL.of (K:=K) b_;refine⟨_,(bg (cN (i:=2) yq.nd rfl (Or.inl rfl) (lS (nb (K:=K) rfl) (ek (K:=K) rfl (pv 0) rfl) (iX (ek (K:=K) rfl (pv 0) rfl)) (iX (ck (fi K) (ek (K:=K) rfl (pv 0) rfl) (pv 1)))))
     (bg (D8 (K:=K) rfl (pv 0) (pv 1) B9)
     (bg (dM (dJ si (ck gK (ek (K:=K) rfl (pv 0) rfl) Zg) (dj (fF K) (by rfl) T.e Qn (ay (ek (K:=K) rfl (pv 0) rfl) aH)) (da _)) (bg (h_ (K:=K) rfl (pv 0) (ke (pv 0) T.i T.bE (z7 T) au cT) rfl)
     (bq (h_ (K:=K) rfl (pv 0) Zg rfl))) d5)
     (bq (c' (pv 2)))))),?_⟩
  try dsimp only[L2.cxX,L2.ZL,L2.Zl]
  walk_at "rds";refine Rd.slL uW ?_;intro r au;rw[qS (by omega) (by omega),←Rx,←RL,show((g:Int)).toNat=g from rfl,show((m:Int)).toNat=m from rfl,dt];have aB:Zc H (upd H r (.lst ((xs.take m).map V.int))):=cF au;have hX:(upd H r (.lst ((xs.take m).map V.int))) r=some (.lst ((xs.take m).map V.int)):=Ze;have uz:=ai.same aB;generalize upd H r (.lst ((xs.take m).map V.int))=ao at*;have pz:=aB _ _ aq;have uX:=aB _ _ av;have uY:=aB _ _ b_;walk_at "rds";unfold ss;walk_at "rds";refine⟨p,_,ap,_,_,rfl,pz,li,Wl.get lj (by decide+kernel),Rd.lk1 (by decide+kernel) Rd.lk0,?_⟩;walk_at "rds";refine⟨g,m,rfl,rfl,?_⟩;refine⟨ap,_,pz,by simp only[List.length_cons,List.length_nil];decide,?_⟩;have ff:l≠p:=λz=>by rw[z,pz] at uY;cases uY
  have nd:ap≠p:=λz=>by rw[z,pz] at uX;cases uX
  have pA:r≠p:=λz=>by rw[z,aq] at au;cases au
  have H4:r≠l:=λz=>by rw[z,b_] at au;cases au
  have z8:r≠ap:=λz=>by rw[z,av] at au;cases au
  have eU:(upd ao p (.ins T.j ap [("laid",.ref l),("gone",.int ((g:Int)+m))])) p=some (.ins T.j ap [("laid",.ref l),("gone",.int ((g:Int)+m))]):=Ze;have gh:(upd ao p (.ins T.j ap [("laid",.ref l),("gone",.int ((g:Int)+m))])) ap=some (.own p):=by rw[bJ nd];exact uX
  have gB:(upd ao p (.ins T.j ap [("laid",.ref l),("gone",.int ((g:Int)+m))])) l=some (.lst (laid.map V.int)):=by rw[bJ ff];exact uY
  have ii:(upd ao p (.ins T.j ap [("laid",.ref l),("gone",.int ((g:Int)+m))])) r=some (.lst ((xs.take m).map V.int)):=by rw[bJ pA];exact hX
  have f1:Zr [p,ap,l] H (upd ao p (.ins T.j ap [("laid",.ref l),("gone",.int ((g:Int)+m))])):=aB.frame.trans (fu (by simp) pz (by intro _ z;cases z));show sb _ _ _ _ (upd ao p (.ins T.j ap [("laid",.ref l),("gone",.int ((g:Int)+m))]));generalize upd ao p (.ins T.j ap [("laid",.ref l),("gone",.int ((g:Int)+m))])=ar at*;have Pf:=SqL.of (K:=K) gB;have H5:((g:Int)+m)=((g+m:Nat):Int):=by omega
  have dg:xs.length=laid.length-g:=by rw[←dt,QK]
  have uZ:laid.drop (g+m)=xs.drop m:=by rw[←dt,List.drop_drop]
  rw[H5] at eU
  by_cases c:(laid.length:Int)<((g:Int)+m)*2
  ·walk_at "rds";refine⟨p,ap,l,laid,g+m,rfl,eU,gh,gB,by omega,λu hu=>?_⟩;have u0:u≠p:=λz=>by rw[z,eU] at hu;cases hu
   have H6:u≠ap:=λz=>by rw[z,gh] at hu;cases hu
   have H7:u≠l:=λz=>by rw[z,gB] at hu;cases hu
   have H8:r≠u:=λz=>by rw[←z,ii] at hu;cases hu
   have uy:H u=none:=by
    cases e:H u with
    |none=>rfl
    |some o=>rw[f1.keep u o e (by simp[u0,H6,H7])] at hu;cases hu
   have be:Zc ar (upd ar u (.lst ((laid.drop (g+m)).map V.int))):=cF hu;have oS:(upd ar u (.lst ((laid.drop (g+m)).map V.int))) u=some (.lst ((laid.drop (g+m)).map V.int)):=Ze;generalize upd ar u (.lst ((laid.drop (g+m)).map V.int))=a2 at*;have er:=be _ _ eU;have lD:=be _ _ gh;have wu:=be _ _ ii;walk_at "rds";refine q r _ [p,ap,u] au ⟨ap,u,laid.drop (g+m),0,rfl,Ze,by rw[bJ nd,bJ nd];exact lD,by rw[bJ u0,bJ u0];exact oS,Qx _,uZ,by rw[uZ];omega⟩ (by rw[bJ pA,bJ pA];exact wu) (by simp[pA,z8,H8]) ((f1.trans be.frame).trans ((fu (by simp) er (by intro _ z;cases z)).trans (fu (by simp) Ze (by intro _ z;cases z)))) (λx al=>?_);simp only[Qe,QR,or_false] at al;rcases al with rfl|rfl|rfl
   ·exact .inl (by simp)
   ·exact .inl (by simp)
   ·exact .inr uy
  ·walk_at "rds";exact q r _ [p,ap,l] au ⟨ap,l,laid,g+m,rfl,eU,gh,gB,by omega,uZ,by rw[QK];omega⟩ ii (by simp[pA,z8,H4]) f1 ZV.refl
end
def H9{K:Frag}{mg:Str→Option Value}(T:Tp K mg):Sp:=λvs H Q E=>∃(p:Addr)(w:Int)(az:FM)(fss:List (List cV))(st:Nat→List Int)(fp:List Addr),vs=[.ref p,.int w]∧fU T H p az fss st fp∧0≤w∧w<az.many∧fss.length=az.many.toNat∧t_ az.rows w (fss.getD w.toNat [])∧YU az.rows∧MM.ok (c5 az.rows fss) st w∧(∀i<az.rows.length,(st i).length≤50000)∧
 ∀H' cC,fU T H' p az fss (MM.step (c5 az.rows fss) st w) cC→Zr fp H H'→ZV fp cC H→Q .non H'
section
variable {P:Program}{w:World}{K:Frag}{mg:Str→Option Value}{base:Heap}
theorem H_(T:Tp K mg):OkM P w mg base 3 T.b9 (H9 T):=by
 have li:=T.i;have lj:=T.w;have nJ:=T.m;have nK:=T.z;refine T.b9.F.okX kh (λvs H Q E h=>?_) (λcw A outer s H vs Q E au h=>?_)
 ·obtain⟨p,w,az,fss,st,fp,rfl,_⟩:=h
  rfl
 ·have hu:=au.hu;obtain⟨p,w,az,fss,st,fp,rfl,a4,dD,er,i2,iJ,am,hok,ed,q⟩:=h;obtain⟨ap,f,c,eo,dA,fw,as,dP,rfl,aq,av,b_,cA,dt,cY,fZ,gw,gx,mb⟩:=id a4;obtain⟨Pg,dW,Ia,Ph,em,fY,pB,g1,g2,g3,i1,kJ,Ib,Ic,Pj,Pk⟩:=id b_;obtain⟨bn,ru,dO,z9,z_⟩:=Paired.get Ib (yx dD er);obtain⟨ga,z',u1,Aa,Ab⟩:=Paired.get Ic (yy dD er);have Pl:atI (em.map V.ref) w=some (.ref bn):=by
   have:=gQ (xs:=em.map V.ref) (j:=w.toNat) (v:= .ref bn) (by rw[Qp,ru];rfl)
   rwa [QP dD] at this
  have Pm:atI (fY.map V.ref) w=some (.ref ga):=by
   have:=gQ (xs:=fY.map V.ref) (j:=w.toNat) (v:= .ref ga) (by rw[Qp,z'];rfl)
   rwa [QP dD] at this
  have Ac:bn∈dA:=by rw[pB];simp[Q9 ru]
  have Ad:ga∈dA:=by rw[pB];simp[Q9 z']
  have Ae:f∈dA:=by rw[pB];simp
  have Ie:dW∈dA:=by rw[pB];simp
  have Ig:Ia∈dA:=by rw[pB];simp
  have f3:∀x∈p::ap::c::eo::dA,x∉gX as.length dP:=λx al z=>by
   obtain⟨i,hi,z⟩:=W0.mp z;exact gx i hi x z al
  have pC:w.toNat<fss.length:=by omega
  obtain⟨nS,rv,rq,u2,pD⟩:=kj (d:=V.non) (e:=([]:List cV)) dt pC;have Ih:atI fw w=some (.ref nS):=by
   have cH:w.toNat<fw.length:=by rw[Paired.length dt];exact pC
   have:=gQ (xs:=fw) (j:=w.toNat) (v:= .ref nS) (by rw[Qa cH];rw[←rq,Qy,Qa cH];rfl)
   rwa [QP dD] at this
  have g_:=am.few;refine⟨_,(bg (cN (i:=2) kh.nd rfl (Or.inr rfl) (f6 aH))
     (bg (fz PassesOwn.leaving rfl (fh (K:=K) rfl (c_ (ixk K) (ek (K:=K) rfl (ek (K:=K) rfl (pv 0) rfl) rfl) (pv 1) (λ_ _=>rfl))) (gs (K:=K) (n:=2) rfl rfl (d0 (cP (i:=3) kh.nd rfl (Or.inl rfl)) (d0 (cP (i:=4) kh.nd rfl (Or.inl rfl)) gj))) (bq (eK (hA (K:=K) rfl Qo PySem.F.slot_list_extend PySem.F.type_list_extend wK (pv 2) (ay (hc (c_ (ixk K) (ek (K:=K) rfl (pv 0) rfl) (pv 3) (λ_ _=>rfl)) T.i T.b8 (H3 T) au cT (ay (pv 4) aH)) aH)))))
     (bg (qy (j:=5) (xs:=["form"]) rfl (fg (x:="form") (zs:=["slots"]) (ix:=[2]) (cq tP) ["self","work","slots","belt","take","given","done","give"] rfl rfl (by decide+kernel)) (nc (K:=K) rfl (c_ (ixk K) (ek (K:=K) rfl (pv 0) rfl) (pv 1) (λ_ _=>rfl))) (λcl C s H fp=>⟨(cP (i:=0) (show(["form","slots"]:List Str).Nodup by decide+kernel) rfl (Or.inl rfl)),fR,(dq T.b6 (HY T) au Wy (ay (pv 0) (ay (pv 1) aH)))⟩) kh.nd rfl (Or.inl rfl))
     (bg (cN (i:=6) kh.nd rfl (Or.inl rfl) Zg)
     (bq (fz PassesOwn.leaving rfl (fh (K:=K) rfl (c_ (ixk K) (ek (K:=K) rfl (ek (K:=K) rfl (pv 0) rfl) rfl) (pv 1) (λ_ _=>rfl))) (gs (K:=K) (n:=2) rfl rfl (d0 (cP (i:=3) kh.nd rfl (Or.inl rfl)) (d0 (cP (i:=7) kh.nd rfl (Or.inl rfl)) gj))) (bg (eK (hc (c_ (ixk K) (ek (K:=K) rfl (pv 0) rfl) (pv 3) (λ_ _=>rfl)) T.i T.b7 (H1 T) au cT (ay (lS (nb (K:=K) rfl) (pv 5) (iX (pv 6)) (iX (ck (fi K) (pv 6) (pv 7)))) aH)))
     (bq (BG (i:=6) kh.nd rfl (Or.inl rfl) (pv 7) wi))))))))),?_⟩
  try dsimp only[L2.cxX,L2.ZL,L2.Zl]
  walk_at "rds";refine⟨by show 0≤sizeLine;decide,λr au=>?_⟩;have f1:Zr (gX as.length dP) H (upd H r (.lst [])):=ua Zr.refl au;have eU:(upd H r (.lst [])) r=some (.lst []):=Ze;have aB:Zc H (upd H r (.lst [])):=cF au;generalize upd H r (.lst [])=ao at*;have gp:=f1.keep _ _ aq (f3 _ (by simp));have pf1:=f1.keep _ _ g1 (f3 _ (by simp[Ae]));have Ii:=f1.keep _ _ g3 (f3 _ (by simp[Ie]));have u3:=f1.keep _ _ z9 (f3 _ (by simp[Ac]));have Pn:=SqL.of (K:=K) Ii;have Po:=SqL.of (K:=K) u3;have lf:=T.g;have lg:=T.o;walk_at "rds";have Af:=qQ az.rows.length (λi=>decide ((az.rows.getD i dB).taker=w))
  change (dF az.rows w).Nodup at Af
  have u4:∀i∈dF az.rows w,i<az.rows.length∧(az.rows.getD i dB).taker=w:=λi hi=>⟨kU hi,of_decide_eq_true (QC.mp hi).2⟩;have Ij:dO.length=(dF az.rows w).length:=by rw[←Paired.length z_];unfold takeRow;rw[Qb]
  have Pp:=W5 (ls:=az.rows) (w:=w);have Ik:gV H ((dF az.rows w).map λi:Nat=>((i:Int),(az.rows.getD i dB).take)) dO:=z_;have u5:MM.slots (c5 az.rows fss) st w=(dF az.rows w).flatMap λi=>(st i).take (az.rows.getD i dB).take.toNat:=rfl;generalize Il:dF az.rows w=en at*;have m_:∀k,((en.take k).flatMap λi=>(st i).take (az.rows.getD i dB).take.toNat).length≤1000*en.length:=λk=>by
   rw[List.length_flatMap];have c7:∀is:List Nat,(∀i∈is,i∈en)→(is.map λi=>((st i).take (az.rows.getD i dB).take.toNat).length).sum≤1000*is.length:=by
    intro is
    induction is with
    |nil=>intro _;simp
    |cons i is cI=>
     intro hs;have dk:=cI λj aU=>hs j (QB _ aU);have dm:=(am.at (u4 i (hs i QM)).1).2.1;simp only[List.map_cons,RK,List.length_cons,QG] at dk⊢;omega
   have:=c7 (en.take k) λi hi=>Ro hi;have:(en.take k).length≤en.length:=by rw[QG];omega
   omega
  refine Ym (H0:=jD ao bn) (e7 (xs:=dO) (SqL.of (by rw[VC];exact u3))) (λk σ H'=>Zr (gX as.length dP) H H'∧(∃mB:Nat→List Addr,hE T H' as (λi=>if i∈en.take k then(st i).drop (az.rows.getD i dB).take.toNat else st i) mB∧(∀i<as.length,ZV (gX as.length dP) (mB i) H)∧∀i<as.length,r∉mB i)∧∃dk dm d4 eE eb,σ=[some (.ref p),some (.int w),some (.ref r),dk,dm,d4,eE,eb]∧H' r=some (.lst (((en.take k).flatMap λi=>(st i).take (az.rows.getD i dB).take.toNat).map V.int))) ⟨f1,⟨dP,(gw.off (A:=[]) aB.frame (by simp)).congr (λi hi=>by simp),λi hi x al=> .inl (W0.mpr ⟨i,hi,al⟩),λi hi z=>(gw.1 i hi).dom r z au⟩,_,_,_,_,_,rfl,eU⟩ (λi σ H' h=>WZ ((h.1.keep _ _ z9 (f3 _ (by simp[Ac]))).trans u3.symm)) ?_ ?_
  ·rintro k σ ar aA ⟨f2,⟨pE,eI,ig,u6⟩,dk,dm,d4,eE,eb,rfl,fx⟩;have el:k<en.length:=by omega
   obtain⟨t,cZ,aT⟩:=Zig Ik el;have hm:en[k]∈en:=Qf el;obtain⟨nT,it⟩:=u4 _ hm;have g0:en[k]<as.length:=by omega
   have hg:=am.at nT;have oJ:(az.rows.getD en[k] dB).take.toNat≤(st en[k]).length:=hok en[k] nT it;have mx:=Zeg Af el;have ju:∀j,j∈en.take (k+1)↔j∈en.take k∨j=en[k]:=λj=>UL el;have u7:(en.take (k+1)).flatMap (λi=>(st i).take (az.rows.getD i dB).take.toNat)=(en.take k).flatMap (λi=>(st i).take (az.rows.getD i dB).take.toNat)++(st en[k]).take (az.rows.getD en[k] dB).take.toNat:=by
    rw[Qt el,List.flatMap_append];simp
   have hsz:=m_ k;have q':=ed en[k] nT;rw[cZ];rw[u7];generalize (en.take k).flatMap (λi=>(st i).take (az.rows.getD i dB).take.toNat)=sl at*;generalize en[k]=i at*;have u8:(az.rows.getD i dB).take=(((az.rows.getD i dB).take.toNat:Nat):Int):=by omega
   rw[u8] at aT;have nt:(az.rows.getD i dB).take.toNat≤1000:=by omega
   have pF:=eI.1 i g0;simp only[if_neg mx] at pF;have fI:=f2.keep _ _ aq (f3 _ (by simp));have Im:=f2.keep _ _ cY (f3 _ (by simp));have Pq:=SqL.of (K:=K) Im;have rj:=hE.ix i g0;refine Rd.Wu (.of (f2.tups _ _ aT)) rfl ?_;walk_at "rds";refine⟨as.getD i 0,_,st i,pE i,rfl,pF,oJ,by omega,λd a2 rx hd ry pk zD iU pG=>?_⟩;have Ag:r∉pE i:=u6 i g0;have nR:=iU.keep _ _ fx Ag;walk_at "rds";refine⟨r,d,_,_,rfl,rfl,nR,pk,QW (jC (by simp only[Qb,QG];omega)),?_⟩;have cX:=Nm.Zr.grow f2 (ig i g0) iU;have Io:=eI.put g0 ry iU pG;have Ip:r∉rx:=pG.off Ag (by rw[fx];simp);have Ah:∀j<as.length,r∉(if j=i then rx else pE j):=λj aU=>by
    by_cases e:j=i
    ·rw[if_pos e];exact Ip
    ·rw[if_neg e];exact u6 j aU
   refine⟨ua cX au,⟨_,(Io.off (fu (A:=[r]) (by simp) nR (by intro _ z;cases z)) (λj aU x al=>by
    rw[Qm];intro z;rw[z] at al;exact Ah j aU al)).congr (λj aU=>?_),λj aU=>?_,Ah⟩,_,_,_,_,_,rfl,by rw[Ze,QQ]⟩
   ·by_cases e:j=i
    ·subst e;rw[if_pos rfl,if_pos ((ju j).mpr (.inr rfl))]
    ·rw[if_neg e]
     by_cases a8:j∈en.take k
     ·rw[if_pos a8,if_pos ((ju j).mpr (.inl a8))]
     ·rw[if_neg a8,if_neg (λz=>((ju j).mp z).elim a8 e)]
   ·by_cases e:j=i
    ·simp only[if_pos e];exact Nm.ZV.grow (ig i g0) f2 pG
    ·simp only[if_neg e];exact ig j aU
  ·rintro σ ar ⟨f2,⟨pE,eI,ig,u6⟩,dk,dm,d4,eE,eb,rfl,fx⟩;rw[Ij,Q4] at eI fx;have fI:=f2.keep _ _ aq (f3 _ (by simp));have Iq:=f2.keep _ _ cA (f3 _ (by simp));have Pr:=SqL.of (K:=K) Iq;have Ir:=f2.tups _ _ u2;have Ai:=SqT.of (K:=K) Ir;have Aj:=SqL.of (K:=K) fx;have Iu:=Zfc am hok;rw[←u5] at fx Aj;have hx:=Paired.length pD;have Iv:=iJ.few;walk_at "rds";unfold ky;walk_at "rds";refine⟨nS,rfl,⟨_,Ai⟩,?_⟩;have Iw:=iJ.ok;have Ps:=iJ.len;have Pu:Wb az.rows w=((leaveL az.rows w).map λi=>(az.rows.getD i dB).give).sum:=by
    unfold Wb giveRow;rw[Q2];rfl
   generalize Ak:fss.getD w.toNat []=fs at*;generalize Al:MM.slots (c5 az.rows fss) st w=sl at*;refine ZP (own:=1) (m8 Ai).y (jC (by omega)) (λi=>[some (rv.getD i .non)]) (λ_=>rfl) (λ_=>true) (λi v _=>v= .int (formV (fs.getD i (0,[])).1 (fs.getD i (0,[])).2 sl)) (λ_ _ _ _ _ z=>z) (λi cE H' v a2 e8 hi aI y dE k=>?_) (λi H' cL hi aI k=>?_) (λfO i H' cL hi ft hp0 eV aI k=>?_) (λgg a2 zs rz aI Am c2=>?_)
   ·obtain⟨rfl,rfl⟩:=y;obtain⟨x1,rfl⟩:∃x1,cE=[x1]:=by
     match cE,dE with
     | [x1],_=>exact⟨x1,rfl⟩
    walk_at "rds";exact k _ (Zc.refl _)
   ·walk_at "rds";exact k H' (Zc.refl H')
   ·have eG:i<fs.length:=by omega
    obtain⟨u9,fk,u_,ea,mo,jg,du⟩:=kj (d:=V.non) (e:=((0,[]):cV)) pD eG;rw[ea];have aX:=Iw (fs.getD i (0,[])) (by rw[dh eG];exact Qf _);generalize fs.getD i (0,[])=pH at*;have Ix:=aI.seq Aj;walk_at "rds";refine⟨u9,fk,r,pH.1,u_,pH.2,sl,rfl,aI _ _ (f2.tups _ _ mo),aI _ _ (f2.tups _ _ jg),(du.keep f2.tups).keep (λb xs e=>aI _ _ e),Ix,aX.few,λt aT=>?_,λbH cK=>k _ bH cK rfl⟩;obtain⟨iK,jH,Iy⟩:=aX.ter t aT;exact⟨iK,by omega,IntMulOk.of_left (Qv (pd (n:=3) (by omega)) (by decide))⟩
   ·rw[Ql.mpr (by simp),hx] at c2;have ez:=ja c2;rw[kW (λf:cV=>formV f.1 f.2 sl)] at ez;subst ez;have Pw:=SqL.of (K:=K) Am;have HH:=aI _ _ fI;have Px:=aI _ _ (f2.keep _ _ g1 (f3 _ (by simp[Ae])));have IA:=aI _ _ (f2.keep _ _ i1 (f3 _ (by simp[Ig])));have u':=aI _ _ (f2.keep _ _ Aa (f3 _ (by simp[Ad])));have Py:=SqL.of (K:=K) IA;have Pz:=SqL.of (K:=K) u';walk_at "rds";have An:=qQ az.rows.length (λi=>decide ((az.rows.getD i dB).giver=w))
    change (leaveL az.rows w).Nodup at An
    have kZ:∀i∈leaveL az.rows w,i<az.rows.length∧(az.rows.getD i dB).giver=w:=λi hi=>⟨ma hi,of_decide_eq_true (QC.mp hi).2⟩;have IB:∀i<az.rows.length,(az.rows.getD i dB).giver=w→i∈leaveL az.rows w:=λi hi e=>QC.mpr ⟨QF.mpr hi,decide_eq_true e⟩;have IC:∀i<az.rows.length,(az.rows.getD i dB).taker=w→i∈en:=λi hi e=>by rw[←Il];exact QC.mpr ⟨QF.mpr hi,decide_eq_true e⟩
    have ID:u1.length=(leaveL az.rows w).length:=by rw[←Paired.length Ab];unfold giveRow;rw[Qb]
    have IE:gV H ((leaveL az.rows w).map λi:Nat=>((i:Int),(az.rows.getD i dB).give)) u1:=Ab;have pI:=λk aA=>Ze9 (rows:=az.rows) (w:=w) (k:=k) aA;have PB:=Vz (ls:=az.rows) (w:=w);have va:∀i∈leaveL az.rows w,(c5 az.rows fss).out i sl=((fs.map λf=>formV f.1 f.2 sl).drop (fK az.rows w i).toNat).take (az.rows.getD i dB).give.toNat:=λi hi=>by
     show(((fss.getD (az.rows.getD i dB).giver.toNat []).map λf=>formV f.1 f.2 sl).drop (fK az.rows (az.rows.getD i dB).giver i).toNat).take (az.rows.getD i dB).give.toNat=_;rw[(kZ i hi).2,Ak]
    generalize PD:leaveL az.rows w=lv at*;have vb:∀k,0≤((lv.take k).map λj=>(az.rows.getD j dB).give).sum:=λk=>by
     rw[nr λj aU=>(am.at (kZ j (Ro aU)).1).2.2.1];omega
    have cX:=f2.trans aI.frame;have nR:=aI _ _ fx;have PF:r≠gg:=λz=>by rw[←z,fx] at rz;cases rz
    refine Ym (H0:=jD a2 ga) (e7 (xs:=u1) (SqL.of (by rw[VC];exact u'))) (λk σ H'=>Zr (gX as.length dP) H H'∧(∃mB:Nat→List Addr,hE T H' as (λi=>(if i∈en then(st i).drop (az.rows.getD i dB).take.toNat else st i)++if i∈lv.take k then(c5 az.rows fss).out i sl else[]) mB∧(∀i<as.length,ZV (gX as.length dP) (mB i) H)∧∀i<as.length,gg∉mB i)∧∃dk dm eb,σ=[some (.ref p),some (.int w),some (.ref r),dk,dm,some (.ref gg),some (.int ((lv.take k).map λj=>(az.rows.getD j dB).give).sum),eb]∧H' gg=some (.lst ((fs.map λf=>formV f.1 f.2 sl).map V.int))) ⟨cX,⟨pE,(eI.off (A:=[]) aI.frame (by simp)).congr (λi hi=>by simp),ig,λi hi z=>(eI.1 i hi).dom gg z rz⟩,_,_,_,rfl,Am⟩ (λi σ H' h=>WZ ((h.1.keep _ _ Aa (f3 _ (by simp[Ad]))).trans u'.symm)) ?_ ?_
    ·rintro k σ a3 aA ⟨c9,⟨mC,nU,nV,nw⟩,dk,dm,eb,rfl,rA⟩;have el:k<lv.length:=by omega
     obtain⟨t,cZ,aT⟩:=Zig IE el;have hm:lv[k]∈lv:=Qf el;obtain⟨nT,it⟩:=kZ _ hm;have g0:lv[k]<as.length:=by omega
     have hg:=am.at nT;have mx:=Zeg An el;have ju:∀j,j∈lv.take (k+1)↔j∈lv.take k∨j=lv[k]:=λj=>UL el;have a_:=va _ hm;rw[pI k el] at a_;have u7:((lv.take (k+1)).map λj=>(az.rows.getD j dB).give).sum=((lv.take k).map λj=>(az.rows.getD j dB).give).sum+(az.rows.getD lv[k] dB).give:=by
      rw[Qt el,QQ,RB];simp
     have IF:=vb k;have q':=ed lv[k] nT;rw[cZ];rw[u7];generalize ((lv.take k).map λj=>(az.rows.getD j dB).give).sum=dn at*;generalize lv[k]=i at*;have pF:=nU.1 i g0;simp only[if_neg mx,Q5] at pF;have Ao:(if i∈en then(st i).drop (az.rows.getD i dB).take.toNat else st i).length≤100000:=by
      split
      ·rw[QK];omega
      ·omega
     have re:=c9.keep _ _ aq (f3 _ (by simp));have IG:=c9.keep _ _ cY (f3 _ (by simp));have PH:=SqL.of (K:=K) IG;have IH:=SqL.of (K:=K) rA;have rj:=hE.ix i g0;refine Rd.Wu (.of (c9.tups _ _ aT)) rfl ?_;walk_at "rds";refine Rd.slL IH ?_;intro u hu;rw[qS IF hg.2.2.1,←Rx,←RL,←a_];have cK:Zc a3 (upd a3 u (.lst (((c5 az.rows fss).out i sl).map V.int))):=cF hu;have gb:(upd a3 u (.lst (((c5 az.rows fss).out i sl).map V.int))) u=some (.lst (((c5 az.rows fss).out i sl).map V.int)):=Ze;generalize upd a3 u (.lst (((c5 az.rows fss).out i sl).map V.int))=bH at*;have II:((c5 az.rows fss).out i sl).length≤1000:=by rw[a_,QG];omega
     walk_at "rds";refine⟨as.getD i 0,u,_,(c5 az.rows fss).out i sl,mC i,rfl,pF.same cK,gb,λz=>(nU.1 i g0).dom u z hu,II,Ao,λdf fp6 k8 nu IJ=>?_⟩;have vd:ZV (mC i) fp6 a3:=λx al=>(IJ x al).imp id λe=>iF cK e;have ve:Zr (mC i) a3 df:=cK.frame.trans nu;have kg:=Nm.Zr.grow c9 (nV i g0) ve;have IK:=nU.put g0 k8 ve vd;have Ap:=nw i g0;have vf:=ve.keep _ _ rA Ap;have IL:gg∉fp6:=vd.off Ap (by rw[rA];simp);walk_at "rds";refine⟨.int dn,rfl,?_⟩;walk_at "rds"
     try refine⟨_,_,rfl,rfl,?_⟩
     refine⟨kg,⟨_,IK.congr (λj aU=>?_),λj aU=>?_,λj aU=>?_⟩,_,_,_,rfl,vf⟩
     ·by_cases e:j=i
      ·subst e;simp only[if_pos ((ju j).mpr (.inr rfl)),if_true]
      ·simp only[if_neg e]
       by_cases a8:j∈lv.take k
       ·rw[if_pos a8,if_pos ((ju j).mpr (.inl a8))]
       ·rw[if_neg a8,if_neg (λz=>((ju j).mp z).elim a8 e)]
     ·by_cases e:j=i
      ·simp only[if_pos e];exact Nm.ZV.grow (nV i g0) c9 vd
      ·simp only[if_neg e];exact nV j aU
     ·by_cases e:j=i
      ·simp only[if_pos e];exact IL
      ·simp only[if_neg e];exact nw j aU
    ·rintro σ a3 ⟨c9,⟨mC,nU,nV,nw⟩,dk,dm,eb,rfl,rA⟩;rw[ID,Q4] at nU;walk_at "rds";have IM:∀i<as.length,∀x∈mC i,x∉p::ap::c::eo::dA:=λi hi x al z=>by
      rcases nV i hi x al with e|e
      ·exact f3 x z e
      ·exact a4.dom x (QX _ z) e
     refine q a3 ((p::ap::c::eo::dA)++gX as.length mC) ⟨ap,f,c,eo,dA,fw,as,mC,rfl,c9.keep _ _ aq (f3 _ (by simp)),c9.keep _ _ av (f3 _ (by simp)),b_.off c9 (λx al=>f3 x (by simp[al])),c9.keep _ _ cA (f3 _ (by simp)),dt.keep c9.tups,c9.keep _ _ cY (f3 _ (by simp)),fZ,nU.congr (λi hi=>?_),IM,mb⟩ (c9.mono λx al=>Qk _ al) (λx al=>?_)
     ·have eN:i<az.rows.length:=by omega
      show _=(if i<az.rows.length then(if(az.rows.getD i dB).taker=w then(st i).drop (az.rows.getD i dB).take.toNat else st i)++(if(az.rows.getD i dB).giver=w then(c5 az.rows fss).out i (MM.slots (c5 az.rows fss) st w) else[]) else st i);rw[if_pos eN,Al]
      congr 1
      ·by_cases e:(az.rows.getD i dB).taker=w
       ·rw[if_pos e,if_pos (IC i eN e)]
       ·rw[if_neg e,if_neg (λz=>e (u4 i z).2)]
      ·by_cases e:(az.rows.getD i dB).giver=w
       ·rw[if_pos e,if_pos (IB i eN e)]
       ·rw[if_neg e,if_neg (λz=>e (kZ i z).2)]
     ·rcases QD.mp al with al|al
      ·exact .inl (QX _ al)
      ·obtain⟨i,hi,al⟩:=W0.mp al;exact(nV i hi x al).imp (λz=>Qk _ z) id
end
def IN{K:Frag}{mg:Str→Option Value}(T:Tp K mg):Sp:=λvs H Q E=>∃(p q:Addr)(ws:List Int)(az:FM)(fss:List (List cV))(st:Nat→List Int)(fp:List Addr),vs=[.ref p,.ref q]∧fU T H p az fss st fp∧H q=some (.lst (ws.map V.int))∧q∉fp∧YY az.many az.rows fss∧YU az.rows∧jE az.rows az.heaps st∧(∀i<az.rows.length,(st i).length+1000*ws.length≤50000)∧
 (goR az.many az.rows az.heaps ws= .error true→∀H',Zc H H'→E (.ref T.l) none H')∧(goR az.many az.rows az.heaps ws= .error false→∀H',Zc H H'→E (.ref T.S) none H')∧
 (∀hs,goR az.many az.rows az.heaps ws= .ok hs→∀H' cC,fU T H' p ⟨az.many,az.rows,hs⟩ fss (MM.run (c5 az.rows fss) st ws) cC→jE az.rows hs (MM.run (c5 az.rows fss) st ws)→Zr fp H H'→ZV fp cC H→Q .non H')
section
variable {P:Program}{w:World}{K:Frag}{mg:Str→Option Value}{base:Heap}
theorem IP(T:Tp K mg):OkM P w mg base 6 T.ca (IN T):=by
 have lf:=T.g;have lg:=T.o;have nJ:=T.m;have nK:=T.z;refine T.ca.F.okX yr (λvs H Q E h=>?_) (λcw A outer s H vs Q E au h=>?_)
 ·obtain⟨p,q,ws,az,fss,st,fp,rfl,_⟩:=h
  rfl
 ·have hu:=au.hu;obtain⟨p,hl,ws,az,fss,st,fp,rfl,a4,cj,rB,et,am,jk,bh,aV,a8,q⟩:=h;obtain⟨ap,f,c,eo,dA,fw,as,dP,rfl,aq,av,b_,cA,dt,cY,fZ,gw,gx,mb⟩:=id a4;have vg:=SqL.of (K:=K) cj;have g_:=am.few;refine⟨_,(bg (eK (hc (ek (K:=K) rfl (pv 0) rfl) T.g T.bD (z3 T) au cT (ay (pv 1) aH)))
     (bq (fz PassesOwn.leaving rfl (fh (K:=K) rfl (pv 1)) (cP (i:=2) yr.nd rfl (Or.inl rfl)) (bq (eK (hc (pv 0) T.m T.b9 (H_ T) au cT (ay (pv 2) aH))))))),?_⟩
  try dsimp only[L2.cxX,L2.ZL,L2.Zl]
  walk_at "rds";refine⟨f,hl,ws,az,dA,rfl,b_,vg,by omega,aV,a8,λhs ci ao pJ IQ f1 vh=>?_⟩;have pK:∀x∈[p,ap,c,eo],x∉dA:=λx al z=>mb x z al;have IR:∀x∈[p,ap,c,eo],x∉pJ:=λx al=>vh.off (pK x al) (a4.dom x (QX _ (by
   simp only[Qe,QR,or_false] at al;rcases al with rfl|rfl|rfl|rfl<;>simp)))
  have IS:hl∉dA:=λz=>rB (QX _ (by simp[z]));have IT:fU T ao p ⟨az.many,az.rows,hs⟩ fss st ((p::ap::c::eo::pJ)++gX as.length dP):=⟨ap,f,c,eo,pJ,fw,as,dP,rfl,f1.keep _ _ aq (pK _ (by simp)),f1.keep _ _ av (pK _ (by simp)),IQ,f1.keep _ _ cA (pK _ (by simp)),dt.keep f1.tups,f1.keep _ _ cY (pK _ (by simp)),fZ,
   gw.off f1 (λi hi x al z=>gx i hi x al (by simp[z])),λi hi x al z=>(by
    simp only[Qe] at z;rcases z with z|z|z|z|z
    ·exact gx i hi x al (by simp[z])
    ·exact gx i hi x al (by simp[z])
    ·exact gx i hi x al (by simp[z])
    ·exact gx i hi x al (by simp[z])
    ·rcases vh x z with z|z
     ·exact gx i hi x al (by simp[z])
     ·exact(gw.1 i hi).dom x al z),λx al z=>IR x z al⟩
  have IU:Zr ((p::ap::c::eo::dA)++gX as.length dP) H ao:=f1.mono λx al=>QX _ (by simp[al]);have IV:ZV ((p::ap::c::eo::dA)++gX as.length dP) ((p::ap::c::eo::pJ)++gX as.length dP) H:=λx al=>by
   rcases QD.mp al with al|al
   ·simp only[Qe] at al;rcases al with z|z|z|z|z
    ·exact .inl (by simp[z])
    ·exact .inl (by simp[z])
    ·exact .inl (by simp[z])
    ·exact .inl (by simp[z])
    ·exact(vh x z).imp (λz=>by simp[z]) id
   ·exact .inl (Qk _ al)
  obtain⟨IW,IX,pL⟩:=Zeq am et jk ci;have iD:=f1.keep _ _ cj IS;have PJ:=SqL.of (K:=K) iD;generalize (p::ap::c::eo::dA)++gX as.length dP=fp0 at*;generalize (p::ap::c::eo::pJ)++gX as.length dP=uV at*;walk_at "rds";refine Ym (H0:=jD ao hl) (e7 (xs:=ws.map V.int) (SqL.of (by rw[VC];exact iD))) (λk σ H'=>Zr fp0 H H'∧(∃cC,fU T H' p ⟨az.many,az.rows,hs⟩ fss (MM.run (c5 az.rows fss) st (ws.take k)) cC∧ZV fp0 cC H)∧∃dk,σ=[some (.ref p),some (.ref hl),dk]) ⟨IU,⟨uV,IT,IV⟩,_,rfl⟩ (λi σ H' h=>WZ ((h.1.keep _ _ cj rB).trans iD.symm)) ?_ ?_
  ·rintro k σ ar aA ⟨f2,⟨kX,rC,g2⟩,dk,rfl⟩;have el:k<ws.length:=by simpa using aA
   have fb:(ws.map V.int).getD k .non= .int ws[k]:=by simp[List.getD,el]
   rw[fb];have hw:=IW ws[k] (Qf el);have hok:=MM.Ze1 IX (Qa el);have IY:MM.run (c5 az.rows fss) st (ws.take (k+1))=MM.step (c5 az.rows fss) (MM.run (c5 az.rows fss) st (ws.take k)) ws[k]:=by
    rw[Qt el,MM.Zbm]
   rw[IY];have dg:∀i<az.rows.length,(MM.run (c5 az.rows fss) st (ws.take k) i).length≤50000:=λi hi=>by
    have:=UD am hi (ws:=ws.take k) (st:=st) (fss:=fss);have:=bh i hi;rw[QG] at*;omega
   generalize MM.run (c5 az.rows fss) st (ws.take k)=stk at*;generalize ws[k]=w at*;walk_at "rds";refine⟨p,w,_,fss,stk,kX,rfl,rC,hw.1,hw.2,et.len,et.ok w hw.1 hw.2,am,hok,dg,λa2 rx IZ iU pG=>?_⟩;walk_at "rds";exact⟨Nm.Zr.grow f2 g2 iU,⟨rx,IZ,Nm.ZV.grow g2 f2 pG⟩,_,rfl⟩
  ·rintro σ ar ⟨f2,⟨kX,rC,g2⟩,dk,rfl⟩;rw[Qb,Q4] at rC;walk_at "rds";exact q hs ci ar kX rC pL f2 g2
end
def I0{K:Frag}{mg:Str→Option Value}(T:Tp K mg):Sp:=λvs H Q E=>∃(p hl:Addr)(ws:List Int),vs=[.ref p,.ref hl]∧H hl=some (.lst (ws.map V.int))∧
 ((∃(az:FM)(fss:List (List cV))(st:Nat→List Int)(fp:List Addr),fU T H p az fss st fp∧hl∉fp∧YY az.many az.rows fss∧YU az.rows∧jE az.rows az.heaps st∧(∀i<az.rows.length,(st i).length+1000*ws.length≤50000)∧
  (goR az.many az.rows az.heaps ws= .error true→∀H',Zc H H'→Q (.int 2) H')∧(goR az.many az.rows az.heaps ws= .error false→∀H',Zc H H'→Q (.int 3) H')∧
  (∀hs,goR az.many az.rows az.heaps ws= .ok hs→∀H' cC,fU T H' p ⟨az.many,az.rows,hs⟩ fss (MM.run (c5 az.rows fss) st ws) cC→jE az.rows hs (MM.run (c5 az.rows fss) st ws)→Zr fp H H'→ZV fp cC H→Q .non H'))∨
 (∃(az:FM)(fp:List Addr),gv T H p az fp∧az.rows.length≤1000∧
  (goR az.many az.rows az.heaps ws= .error true→∀H',Zc H H'→Q (.int 2) H')∧(goR az.many az.rows az.heaps ws= .error false→∀H',Zc H H'→Q (.int 3) H')∧
  (∀hs,goR az.many az.rows az.heaps ws= .ok hs→∀(H':Hp)(cC:List Addr),gv T H' p ⟨az.many,az.rows,hs⟩ cC→Zr fp H H'→ZV fp cC H→Q .non H')))
section
variable {P:Program}{w:World}{K:Frag}{mg:Str→Option Value}{base:Heap}
theorem pM(T:Tp K mg):OkN P w base 7 T.a9 (I0 T):=by
 have lf:=T.g;have lg:=T.o;have nJ:=T.m;have nK:=T.z;refine T.a9.F.okX qM (λvs H Q E h=>?_) (λcw A outer s H vs Q E au h=>?_)
 ·obtain⟨p,hl,ws,rfl,_⟩:=h
  rfl
 ·have hu:=au.hu;obtain⟨p,hl,ws,rfl,cj,aG⟩:=h;have vg:=SqL.of (K:=K) cj;refine⟨_,(bg (cN (i:=2) qM.nd rfl (Or.inl rfl) Wj)
     (bg (xk (j:=3) rfl rfl rfl T.ag.m (λJ hV pn jy ownT rl=>(bq (eK (DX (w_ (pv 0) T.m T.ca (IP T) au rl (ay (pv 1) aH)) (w_ (pv 0) T.g T.bD (z3 T) au rl (ay (pv 1) aH)))))) (λea=>(bq (cN (i:=2) qM.nd rfl (Or.inl rfl) (xw T.bu (y5 T) (au.held ea) Wy (ay (pv 3) aH))))) qM.nd rfl rfl)
     (bq (c' (pv 2))))),?_⟩
  try dsimp only[L2.cxX,L2.ZL,L2.Zl]
  walk_at "rds";refine L2.Rd.ZgL (λcls _ H'=>Zc H H'∧∃i:Nat,i<4∧2≤i∧cls= .ref (kC T i)∧∀Aq,Zc H Aq→Q (.int i) Aq) ?_ ?_
  ·rcases aG with⟨az,fss,st,fp,a4,rB,et,am,jk,bh,aV,a8,q⟩|⟨az,fp,aX,bh,aV,a8,q⟩
   ·refine Or.inl ?_;walk_at "rds";refine⟨p,hl,ws,az,fss,st,fp,rfl,a4,cj,rB,et,am,jk,bh,λz H' s=>⟨s,2,by omega,by omega,rfl,aV z⟩,λz H' s=>⟨s,3,by omega,by omega,rfl,a8 z⟩,λhs z H' cC hm' hL' db gr=>?_⟩;walk_at "rds";exact q hs z H' cC hm' hL' db gr
   ·refine Or.inr ?_;walk_at "rds";refine⟨p,hl,ws,az,fp,rfl,aX,vg,bh,λz H' s=>⟨s,2,by omega,by omega,rfl,aV z⟩,λz H' s=>⟨s,3,by omega,by omega,rfl,a8 z⟩,λhs z H' cC hf' db gr=>?_⟩;walk_at "rds";exact q hs z H' cC hf' db gr
  ·rintro cls ao ⟨aB,i,hi,jJ,rfl,q⟩;refine⟨by match i,hi,jJ with|2,_,_=>exact T.F|3,_,_=>exact T.L,_,rfl,λea o6=>?_⟩;have bc:Zc ao (upd ao ea (fv ea (kC T i))):=cF o6;have fG:(upd ao ea (fv ea (kC T i))) ea=some (fv ea (kC T i)):=Ze;generalize upd ao ea (fv ea (kC T i))=ar at*;walk_at "rds";refine⟨i,rfl,hi,fG,λa2 be=>?_⟩;walk_at "rds";exact q a2 ((aB.trans bc).trans be)
end
def I1{K:Frag}{mg:Str→Option Value}(T:Tp K mg):Sp:=λvs H Q _=>∃(a b:Addr)(w:Int)(bs ys:List V)(rows:List B5)(aR:List (List Int)),vs=[.ref a,.ref b,.int w]∧SqL K H a bs∧fj H bs rows∧SqL K H b ys∧dN H ys aR∧aR.length=rows.length∧rows.length≤1000∧
 ∀H',Zc H H'→Q (.bl (iG rows (aR.map λxs=>(xs.length:Int)) w)) H'
section
variable {P:Program}{w:World}{K:Frag}{mg:Str→Option Value}{base:Heap}
theorem I2(T:Tp K mg):OkN P w base 1 T.cb (I1 T):=by
 refine T.cb.F.okX tX (λvs H Q E h=>?_) (λcw A outer s H vs Q E au h=>?_)
 ·obtain⟨a,b,w,bs,ys,rows,aR,rfl,_⟩:=h
  rfl
 ·have hu:=au.hu;obtain⟨a,b,w,bs,ys,rows,aR,rfl,aS,du,am,c2,ai,bh,q⟩:=h;have ie:=du.length;have f9:=c2.length;refine⟨_,(bg (fz PassesOwn.leaving rfl (ng (K:=K) rfl rfl T.p (ay (pv 0) aH)) (gs (K:=K) (n:=2) rfl rfl (d0 (cP (i:=3) tX.nd rfl (Or.inl rfl)) (d0 (cP (i:=4) tX.nd rfl (Or.inl rfl)) gj))) (bq (dM (PW.pt (p9 (dJ (fN (K:=K) rfl hu) (c_ (ixk K) (pv 4) Zg (λ_ _=>rfl)) (pv 2) (da _)) (p8 (dJ sh (dj (fF K) (by rfl) T.e Qn (ay (c_ (ixk K) (pv 1) (pv 3) (λ_ _=>rfl)) aH)) (c_ (ixk K) (pv 4) Zg (λ_ _=>rfl)) (da _))))) (bq (c' WB)) d5)))
     (bq (c' WB))),?_⟩
  try dsimp only[L2.cxX,L2.ZL,L2.Zl]
  walk_at "rds";refine V0 (nh aS) (λi σ H'=>Zc H H'∧(∃dk dm,σ=[some (.ref a),some (.ref b),some (.int w),dk,dm])∧∀j r h,j<i→rows[j]? =some r→(aR.map λxs=>(xs.length:Int))[j]? =some h→r.taker=w→r.take≤h) ⟨Zc.refl H,⟨_,_,rfl⟩,by intro j r h z;omega⟩ (λi σ H' h=>h.1) ?_ ?_
  ·rintro i σ ao v ar hi ⟨aB,⟨dk,dm,rfl⟩,a1⟩ ⟨t,aT,rfl,rfl⟩;have eG:i<rows.length:=by omega
   have vi:i<aR.length:=by omega
   have iH:rows[i]? =some rows[i]:=Qa eG;have pc:(aR.map λxs=>(xs.length:Int))[i]? =some ((aR.getD i []).length:Int):=by rw[Qp,dh vi];simp[vi]
   obtain⟨u,eF,gT⟩:=du.at iH;have eB:bs.getD i .non= .ref u:=by simp[List.getD,eF]
   obtain⟨iW,pN,jP⟩:=Wd c2 vi;have pw:atI ys (i:Int)=some (.ref iW):=gQ (by
    have lq:i<ys.length:=by omega
    rw[Qa lq,←dh (d:= .non) lq,pN])
   rw[eB];refine Rd.Wu (.of Ze) rfl ?_;have bc:Zc H (upd ao t (.tup [.int i,.ref u])):=aB.trans (cF aT);generalize upd ao t (.tup [.int i,.ref u])=ar at*;have PL:=bc.seq am;have PM:=SqL.of (K:=K) (bc _ _ jP);have mD:=bc _ _ gT;have Ao:(((aR.getD i []).map V.int).length:Int)=((aR.getD i []).length:Int):=by simp
   generalize rows[i]=r at*;dsimp only[B5.v] at mD;have step:(r.taker=w→r.take≤((aR.getD i []).length:Int))→∀(j:Nat)(r:B5)(h:Int),j<i+1→rows[j]? =some r→(aR.map λxs=>(xs.length:Int))[j]? =some h→r.taker=w→r.take≤h:=λg j c0 h' aU a b=>by
    rcases Rw.mp aU with z|rfl
    ·exact a1 j c0 h' z a b
    ·rw[iH] at a;rw[pc] at b;cases a;cases b;exact g
   walk_at "rds";refine Rd.ifD (λc=>?_) (λc=>?_)
   ·walk_at "rds";refine Rd.ifD (λd=>?_) (λd=>?_)
    ·walk_at "rds";rw[←qO i iH pc c (by omega)];exact q _ bc
    ·walk_at "rds";exact⟨bc,⟨_,_,rfl⟩,step (λ_=>by omega)⟩
   ·walk_at "rds";exact⟨bc,⟨_,_,rfl⟩,step (λz=>absurd z c)⟩
  ·rintro σ H' ⟨aB,⟨dk,dm,rfl⟩,a1⟩;walk_at "rds";rw[←t2 (rows:=rows) (hs:=aR.map λxs=>(xs.length:Int)) (w:=w) λj r h a b=>a1 j r h (by have:=(Qj.mp a).1;omega) a b];exact q _ aB
end
def I3{K:Frag}{mg:Str→Option Value}(T:Tp K mg):Sp:=λvs H Q _=>∃(f fk c:Addr)(k:Int)(dO:List V)(cJ:List (Int×Int))(xs:List Int),vs=[.ref f,.ref c]∧H f=some (.tup [.int k,.ref fk])∧H fk=some (.tup dO)∧f_ H dO cJ∧SqL K H c (xs.map V.int)∧cJ.length≤1000∧(∀t∈cJ,0≤t.1∧t.1<(xs.length:Int)∧IntMulOk t.2 (xs.getD t.1.toNat 0))∧
 Q (.int (formV k cJ xs)) H
section
variable {P:Program}{w:World}{K:Frag}{mg:Str→Option Value}{base:Heap}
theorem I4(T:Tp K mg):OkN P w base 1 T.cc (I3 T):=by
 refine T.cc.F.okX pa (λvs H Q E h=>?_) (λcw A outer s H vs Q E au h=>?_)
 ·obtain⟨f,fk,c,k,dO,cJ,xs,rfl,_⟩:=h
  rfl
 ·have hu:=au.hu;obtain⟨f,fk,c,k,dO,cJ,xs,rfl,aX,jg,du,aG,nt,ra,q⟩:=h;have nH:=du.length;have ed:SqT K H fk dO:= .of jg;refine⟨_,(bg (cN (i:=2) pa.nd rfl (Or.inl rfl) (c_ (ixk K) (pv 0) Zg (λ_ _=>rfl)))
     (bg (fz PassesOwn.leaving rfl (nc (K:=K) rfl (c_ (ixk K) (pv 0) Zg (λ_ _=>rfl))) (gs (K:=K) (n:=2) rfl rfl (d0 (cP (i:=3) pa.nd rfl (Or.inl rfl)) (d0 (cP (i:=4) pa.nd rfl (Or.inl rfl)) gj))) (bq (cN (i:=2) pa.nd rfl (Or.inl rfl) (ck (fi K) (pv 2) (ck gK (pv 4) (c_ (ixk K) (pv 1) (pv 3) (λ_ _=>rfl)))))))
     (bq (c' (pv 2))))),?_⟩
  try dsimp only[L2.cxX,L2.ZL,L2.Zl]
  walk_at "rds"
  try unfold ky
  try walk_at "rds"
  refine⟨fk,rfl,⟨_,ed⟩,?_⟩;refine Ym (m8 ed) (λi σ H'=>H'=H∧∃d4 eE,σ=[some (.ref f),some (.ref c),some (.int (formV k (cJ.take i) xs)),d4,eE]) ⟨rfl,_,_,by rw[show formV k (cJ.take 0) xs=k by simp[formV]];rfl⟩ (λi σ H' h=>h.1▸Zc.refl _) ?_ ?_
  ·rintro i σ H' hi ⟨rfl,d4,eE,rfl⟩;have eG:i<cJ.length:=by omega
   obtain⟨t,cZ,aT⟩:=du.getD (i:=i) eG;rw[cZ];have a4:cJ.getD i (0,0)∈cJ:=by rw[dh eG];exact Qf _
   obtain⟨iK,jH,ud⟩:=ra _ a4;have I5:formV k (cJ.take (i+1)) xs=formV k (cJ.take i) xs+(cJ.getD i (0,0)).2*xs.getD (cJ.getD i (0,0)).1.toNat 0:=by
    unfold formV;rw[Qt eG,QQ,RB,dh eG];simp;omega
   rw[I5];generalize formV k (cJ.take i) xs=cur at*;generalize cJ.getD i (0,0)=mq at*;have mi:=WY iK jH;refine Rd.Wu (.of aT) rfl ?_;walk_at "rds";exact⟨rfl,_,_,rfl⟩
  ·rintro σ H' ⟨rfl,d4,eE,rfl⟩;rw[nH,Q4];walk_at "rds";exact q
end
def I6{K:Frag}{mg:Str→Option Value}(T:Tp K mg):Sp:=λvs H Q E=>∃(dC e2 lo:Addr)(w:Int)(bs fw ys:List V)(ls:List B5)(fss:List (List cV))(st:Nat→List Int)(m:Int),vs=[.ref dC,.ref e2,.ref lo,.int w]∧H dC=some (.lst bs)∧fj H bs ls∧H e2=some (.lst fw)∧f' H fw fss∧H lo=some (.lst ys)∧lo≠dC∧lo≠e2∧ys.length=ls.length∧(∀i<ls.length,pe H H lo ys ys st i)∧YU ls∧YY m ls fss∧0≤w∧w<m∧MM.ok (c5 ls fss) st w∧(∀i<ls.length,(st i).length≤50000)∧
 ∀H' fD,Zr [lo] H H'→H' lo=some (.lst fD)→fD.length=ls.length→(∀i<ls.length,pe H H' lo ys fD (MM.step (c5 ls fss) st w) i)→Q .non H'
theorem Paired.drop{cG eH:Type}{P:cG→eH→Prop}:∀{xs:List cG}{ys:List eH}(a:Nat),Paired P xs ys→Paired P (xs.drop a) (ys.drop a)
 |_,_,0,h=>h
 |_,_,_+1,.nil=> .nil
 |_,_,a+1,.cons _ r=>Paired.drop a r
theorem Paired.take{cG eH:Type}{P:cG→eH→Prop}:∀{xs:List cG}{ys:List eH}(a:Nat),Paired P xs ys→Paired P (xs.take a) (ys.take a)
 |_,_,0,_=> .nil
 |_,_,_+1,.nil=> .nil
 |_,_,a+1,.cons h r=> .cons h (Paired.take a r)
theorem vj{ls:List B5}{w:Int}{k:Nat}(aA:k≤ls.length):(leaveL ls w).filter (λj=>decide (j<k))=(List.range k).filter λj=>decide ((ls.getD j dB).giver=w):=by
 unfold leaveL;obtain⟨d,hd⟩:∃d,ls.length=k+d:=⟨ls.length-k,by omega⟩;rw[hd,List.range_add,Q6,Q6];have aV:((List.range k).filter λi=>decide ((ls.getD i dB).giver=w)).filter (λj=>decide (j<k))=(List.range k).filter λi=>decide ((ls.getD i dB).giver=w):=Ql.mpr λj aU=>decide_eq_true (QF.mp (QC.mp aU).1);have a8:(((List.range d).map (k+ ·)).filter λi=>decide ((ls.getD i dB).giver=w)).filter (λj=>decide (j<k))=[]:=List.filter_eq_nil_iff.mpr λj aU=>by
  obtain⟨x,_,rfl⟩:=Rg.mp (QC.mp aU).1;simp
 rw[aV,a8,Q5]
theorem ZhB{ls:List B5}{w:Int}:fK ls w 0=0:=by
 unfold fK;rw[vj (Qx _)]
 rfl
theorem Zh4{ls:List B5}{w:Int}{k:Nat}(aA:k<ls.length):fK ls w (k+1)=fK ls w k+(if(ls.getD k dB).giver=w then(ls.getD k dB).give else 0):=by
 unfold fK;rw[vj (Nat.succ_le_of_lt aA),vj (QW aA),Rk,Q6,QQ,RB]
 congr 1
 by_cases c:(ls.getD k dB).giver=w
 ·rw[if_pos c,Rq,if_pos (decide_eq_true c)];simp
 ·rw[if_neg c,Rq,if_neg (by rw[decide_eq_false c];decide)]
  rfl
section
variable {P:Program}{w:World}{K:Frag}{mg:Str→Option Value}{base:Heap}
theorem I7(T:Tp K mg):OkN P w base 2 T.cd (I6 T):=by
 refine T.cd.F.okX ki (λvs H Q E h=>?_) (λcw A outer s H vs Q E au h=>?_)
 ·obtain⟨dC,e2,lo,w,bs,fw,ys,ls,fss,st,m,rfl,_⟩:=h
  rfl
 ·have hu:=au.hu;obtain⟨dC,e2,lo,w,bs,fw,ys,ls,fss,st,m,rfl,gc,du,iJ,fB,oI,pm,uG,f9,c2,am,et,dD,er,hok,ed,q⟩:=h;have ie:=du.length;have g_:=am.few;refine⟨_,(bg (cN (i:=4) ki.nd rfl (Or.inr rfl) (f6 aH))
     (bg (fz PassesOwn.leaving rfl (ng (K:=K) rfl rfl T.p (ay (pv 0) aH)) (gs (K:=K) (n:=2) rfl rfl (d0 (cP (i:=5) ki.nd rfl (Or.inl rfl)) (d0 (cP (i:=6) ki.nd rfl (Or.inl rfl)) gj))) (bq (dM (dJ (fN (K:=K) rfl hu) (c_ (ixk K) (pv 6) Zg (λ_ _=>rfl)) (pv 3) (da _)) (bg (cN (i:=4) ki.nd rfl (Or.inr rfl) (ck (fi K) (pv 4) (lS (nb (K:=K) rfl) (c_ (ixk K) (pv 2) (pv 5) (λ_ _=>rfl)) sy (iX (c_ (ixk K) (pv 6) Zg (λ_ _=>rfl))))))
     (bq (mV (lS (nb (K:=K) rfl) (c_ (ixk K) (pv 2) (pv 5) (λ_ _=>rfl)) (iX (c_ (ixk K) (pv 6) Zg (λ_ _=>rfl))) sy) (oi (pv 2) (pv 5) mY)))) d5)))
     (bg (cN (i:=7) ki.nd rfl (Or.inl rfl) Zg)
     (bq (fz PassesOwn.leaving rfl (ng (K:=K) rfl rfl T.p (ay (pv 0) aH)) (gs (K:=K) (n:=2) rfl rfl (d0 (cP (i:=5) ki.nd rfl (Or.inl rfl)) (d0 (cP (i:=6) ki.nd rfl (Or.inl rfl)) gj))) (bq (dM (dJ (fN (K:=K) rfl hu) (c_ (ixk K) (pv 6) Zg (λ_ _=>rfl)) (pv 3) (da _)) (bg (mV (ck (fi K) (c_ (ixk K) (pv 2) (pv 5) (λ_ _=>rfl)) (gu (xs:=["_law_form"]) rfl (fg (x:="_law_form") (zs:=["_law_slots"]) (ix:=[4]) (cq tQ) ["_law_belts","_law_forms","_law_loads_here","_law_work","_law_slots","_law_k","_law_belt","_law_at"] rfl rfl (by decide+kernel)) (nc (K:=K) rfl (lS (D' (K:=K) rfl) (c_ (ixk K) (pv 1) (pv 3) (λ_ _=>rfl)) (iX (pv 7)) (iX (ck (fi K) (pv 7) (c_ (ixk K) (pv 6) Zg (λ_ _=>rfl)))))) (λcl C s H fp=>⟨(cP (i:=0) (show(["_law_form","_law_slots"]:List Str).Nodup by decide+kernel) rfl (Or.inl rfl)),fR,(dq T.cc (I4 T) au Wy (ay (pv 0) (ay (pv 1) aH)))⟩))) (oi (pv 2) (pv 5) mY))
     (bq (cN (i:=7) ki.nd rfl (Or.inl rfl) (ck (fi K) (pv 7) (c_ (ixk K) (pv 6) Zg (λ_ _=>rfl)))))) d5))))))),?_⟩
  try dsimp only[L2.cxX,L2.ZL,L2.Zl]
  walk_at "rds";refine⟨Qx _,λmA hY=>?_⟩;have f1:Zr [lo] H (upd H mA (.lst [])):=ua Zr.refl hY;have eU:(upd H mA (.lst [])) mA=some (.lst (([]:List Int).map V.int)):=Ze;have aB:Zc H (upd H mA (.lst [])):=cF hY;generalize upd H mA (.lst [])=ao at*;have q2:=aB _ _ gc;have PN:=SqL.of (K:=K) q2;have vk:dC∉[lo]:=by simpa using GE pm
  have I8:e2∉[lo]:=by simpa using GE uG
  walk_at "rds";refine V0 (H0:=jD ao dC) (nh (xs:=bs) (SqL.of (by rw[VC];exact q2))) (λk σ H'=>Zr [lo] H H'∧(∃fD,H' lo=some (.lst fD)∧fD.length=ls.length∧∀i<ls.length,pe H H' lo ys fD (λi=>if i<k∧(ls.getD i dB).taker=w then(st i).drop (ls.getD i dB).take.toNat else st i) i)∧∃sl eb a6 a7,σ=[some (.ref dC),some (.ref e2),some (.ref lo),some (.int w),some (.ref sl),eb,a6,a7]∧H sl=none∧H' sl=some (.lst ((((List.range k).filter λi=>decide ((ls.getD i dB).taker=w)).flatMap λi=>(st i).take (ls.getD i dB).take.toNat).map V.int))) ⟨f1,⟨ys,aB _ _ oI,f9,λi hi=>by obtain⟨t,e,n,h,m⟩:=c2 i hi;exact⟨t,e,n,by simpa using aB _ _ h,m⟩⟩,mA,_,_,_,rfl,hY,eU⟩ (λi σ H' h=>WZ ((h.1.keep _ _ gc vk).trans q2.symm)) ?_ ?_
  ·rintro k σ ar v a2 aA ⟨f2,⟨eO,vl,jl,gY⟩,sl,eb,a6,a7,rfl,jN,pO⟩ ⟨t,aT,rfl,rfl⟩;have el:k<ls.length:=by omega
   obtain⟨u,vm,hu⟩:=du.getD el;rw[vm];refine Rd.Wu (.of Ze) rfl ?_;have be:Zc ar (upd ar t (.tup [.int k,.ref u])):=cF aT;generalize upd ar t (.tup [.int k,.ref u])=a2 at*;have cX:Zr [lo] H a2:=f2.trans be.frame;have mD:=cX.tups _ _ hu;dsimp only[B5.v] at mD;have lr:=be _ _ vl;have PP:=SqL.of (K:=K) lr;have nW:=be _ _ pO;have PQ:=SqL.of (K:=K) nW;have hg:=am.at el;obtain⟨iW,pN,I9,jP,I_⟩:=gY k el;simp only[QU,false_and,if_false] at jP;have u8:(ls.getD k dB).take=(((ls.getD k dB).take.toNat:Nat):Int):=by omega
   have Ar:=be _ _ jP;have I':=SqL.of (K:=K) Ar;have pw:atI eO (k:Int)=some (.ref iW):=gQ (by
    have lq:k<eO.length:=by omega
    rw[Qa lq,←dh (d:= .non) lq,pN])
   walk_at "rds";refine Rd.ifD (λc=>?_) (λc=>?_)
   ·have oJ:(ls.getD k dB).take.toNat≤(st k).length:=hok k el c;have Ja:=ed k el;have PR:(((List.range k).filter λi=>decide ((ls.getD i dB).taker=w)).flatMap λi=>(st i).take (ls.getD i dB).take.toNat).length≤1000*k:=by
     rw[List.length_flatMap];have c7:∀is:List Nat,(∀i∈is,i<ls.length)→(is.map λi=>((st i).take (ls.getD i dB).take.toNat).length).sum≤1000*is.length:=by
      intro is
      induction is with
      |nil=>intro _;simp
      |cons i is cI=>
       intro hs;have dk:=cI λj aU=>hs j (QB _ aU);have dm:=(am.at (hs i QM)).2.1;simp only[List.map_cons,RK,List.length_cons,QG] at dk⊢;omega
     have aq:=c7 ((List.range k).filter λi=>decide ((ls.getD i dB).taker=w)) λi hi=>by
      have:=QF.mp (QC.mp hi).1;omega
     have av:((List.range k).filter λi=>decide ((ls.getD i dB).taker=w)).length≤k:=Qv (Rc _ _) (by simp);omega
    have Jb:((List.range (k+1)).filter λi=>decide ((ls.getD i dB).taker=w)).flatMap (λi=>(st i).take (ls.getD i dB).take.toNat)=(((List.range k).filter λi=>decide ((ls.getD i dB).taker=w)).flatMap λi=>(st i).take (ls.getD i dB).take.toNat)++(st k).take (ls.getD k dB).take.toNat:=by
     have px:[k].filter (λi=>decide ((ls.getD i dB).taker=w))=[k]:=by
      rw[Rq,if_pos (decide_eq_true c)];rfl
     rw[Rk,Q6,List.flatMap_append,px];simp
    rw[Jb];generalize ((List.range k).filter λi=>decide ((ls.getD i dB).taker=w)).flatMap (λi=>(st i).take (ls.getD i dB).take.toNat)=rD at*;walk_at "rds";refine Rd.slL I' ?_;intro gL eF;rw[Zke hg.1,←RL];have cp:Zc a2 (upd a2 gL (.lst (((st k).take (ls.getD k dB).take.toNat).map V.int))):=cF eF;have ii:(upd a2 gL (.lst (((st k).take (ls.getD k dB).take.toNat).map V.int))) gL=some (.lst (((st k).take (ls.getD k dB).take.toNat).map V.int)):=Ze;generalize upd a2 gL (.lst (((st k).take (ls.getD k dB).take.toNat).map V.int))=a3 at*;refine .inr (.inr (.inl ⟨sl,gL,_,_,rfl,rfl,cp _ _ nW,ii,QW (jC (by simp only[Qb,QG];omega)),λd9 gT=>?_⟩));rw[←QQ];have cK:Zc a3 (upd a3 d9 (.lst ((rD++(st k).take (ls.getD k dB).take.toNat).map V.int))):=cF gT;have gb:(upd a3 d9 (.lst ((rD++(st k).take (ls.getD k dB).take.toNat).map V.int))) d9=some (.lst ((rD++(st k).take (ls.getD k dB).take.toNat).map V.int)):=Ze;generalize upd a3 d9 (.lst ((rD++(st k).take (ls.getD k dB).take.toNat).map V.int))=bH at*;have jM:=cp.trans cK;have Jc:=jM _ _ Ar;have Jd:=SqL.of (K:=K) Jc;have jO:=jM _ _ mD;have vn:=jM _ _ lr;have PU:=SqL.of (K:=K) vn;walk_at "rds";refine Rd.slL Jd ?_;intro g4 hu3';rw[u8,EX,←Rx];have Je:(st k).drop (min (ls.getD k dB).take.toNat ((st k).map V.int).length)=(st k).drop (ls.getD k dB).take.toNat:=by rw[Qb,RA oJ]
    rw[Je];have d3:Zc bH (upd bH g4 (.lst (((st k).drop (ls.getD k dB).take.toNat).map V.int))):=cF hu3';have jc:(upd bH g4 (.lst (((st k).drop (ls.getD k dB).take.toNat).map V.int))) g4=some (.lst (((st k).drop (ls.getD k dB).take.toNat).map V.int)):=Ze;generalize upd bH g4 (.lst (((st k).drop (ls.getD k dB).take.toNat).map V.int))=df at*;have rE:=d3 _ _ vn;have Jf:(k:Int)<(eO.length:Int):=by omega
    walk_at "rds";have kg:Zr [lo] H df:=(cX.trans jM.frame).trans d3.frame;have vo:Zr [lo] df (upd df lo (.lst (eO.set ((k:Int)).toNat (.ref g4)))):=fu (by simp) rE (by intro _ z;cases z);have vp:g4≠lo:=λz=>by rw[z,vn] at hu3';cases hu3'
    have nX:d9≠lo:=λz=>by rw[z,cp _ _ lr] at gT;cases gT
    have la:∀x,x≠lo→bH x=none→H x=none:=λx nx e=>by
     cases cz:H x with
     |none=>rfl
     |some o=>rw[(cX.trans jM.frame).keep _ _ cz (by simpa using nx)] at e;cases e
    have d_:H d9=none:=by
     cases cz:H d9 with
     |none=>rfl
     |some o=>rw[(cX.trans cp.frame).keep _ _ cz (by simpa using nX)] at gT;cases gT
    refine⟨kg.trans vo,⟨_,Ze,by rw[QL];exact jl,λi hi=>?_⟩,d9,_,_,_,rfl,d_,by rw[bJ nX];exact d3 _ _ gb⟩
    by_cases z:i=k
    ·subst z;refine⟨g4,?_,vp,?_,.inr (la g4 vp hu3')⟩
     ·rw[QH,Qy,QZ (by omega)];rfl
     ·rw[bJ vp,jc];dsimp only;rw[if_pos ⟨Rp _,c⟩]
    ·obtain⟨t',cm,ec,h',cn⟩:=gY i hi;refine⟨t',?_,ec,?_,cn⟩
     ·rw[QH,Qy,Q8 (GE z),←Qy];exact cm
     ·rw[bJ ec,d3 _ _ (jM _ _ (be _ _ h'))];have:(i<k+1∧(ls.getD i dB).taker=w)↔(i<k∧(ls.getD i dB).taker=w):=by omega
      simp only[this]
   ·walk_at "rds";refine⟨cX,⟨eO,lr,jl,λi hi=>?_⟩,sl,_,_,_,rfl,jN,?_⟩
    ·obtain⟨t',cm,ec,h',cn⟩:=gY i hi;refine⟨t',cm,ec,?_,cn⟩;rw[be _ _ h']
     by_cases z:i=k
     ·subst z;dsimp only;rw[if_neg (λz=>absurd z.1 (QU _)),if_neg (λz=>c z.2)]
     ·have:(i<k+1∧(ls.getD i dB).taker=w)↔(i<k∧(ls.getD i dB).taker=w):=by omega
      simp only[this]
    ·have px:[k].filter (λi=>decide ((ls.getD i dB).taker=w))=[]:=by
      rw[Rq,if_neg (by rw[decide_eq_false c];decide)];rfl
     rw[nW,Rk,Q6,List.flatMap_append,px];simp
  ·rintro σ ar ⟨f2,⟨eO,vl,jl,gY⟩,sl,eb,a6,a7,rfl,jN,pO⟩;rw[ie] at gY pO;have u5:MM.slots (c5 ls fss) st w=((List.range ls.length).filter λi=>decide ((ls.getD i dB).taker=w)).flatMap λi=>(st i).take (ls.getD i dB).take.toNat:=rfl;rw[←u5] at pO;have Iu:=Zfc am hok;have pC:w.toNat<fss.length:=by rw[et.len];omega
   have Jg:=et.ok w dD er;obtain⟨nS,rv,rq,u2,pD⟩:=kj (d:=V.non) (e:=([]:List cV)) fB pC;have Ih:atI fw w=some (.ref nS):=by
    have cH:w.toNat<fw.length:=by rw[Paired.length fB];exact pC
    have:=gQ (xs:=fw) (j:=w.toNat) (v:= .ref nS) (by rw[Qa cH];rw[←rq,Qy,Qa cH];rfl)
    rwa [QP dD] at this
   have va:∀i<ls.length,(ls.getD i dB).giver=w→(c5 ls fss).out i (MM.slots (c5 ls fss) st w)=(((fss.getD w.toNat []).map λf=>formV f.1 f.2 (MM.slots (c5 ls fss) st w)).drop (fK ls w i).toNat).take (ls.getD i dB).give.toNat:=λi hi e=>by
    show(((fss.getD (ls.getD i dB).giver.toNat []).map λf=>formV f.1 f.2 (MM.slots (c5 ls fss) st w)).drop (fK ls (ls.getD i dB).giver i).toNat).take (ls.getD i dB).give.toNat=_;rw[e]
   have Jh:∀k,0≤fK ls w k:=λk=>by
    unfold fK;rw[nr λj aU=>(am.at (ma (QC.mp aU).1)).2.2.1];omega
   have As:∀i<ls.length,MM.step (c5 ls fss) st w i=(if i<ls.length∧(ls.getD i dB).taker=w then(st i).drop (ls.getD i dB).take.toNat else st i)++(if i<ls.length∧(ls.getD i dB).giver=w then(c5 ls fss).out i (MM.slots (c5 ls fss) st w) else[]):=λi hi=>by
    show(if i<ls.length then(if(ls.getD i dB).taker=w then(st i).drop (ls.getD i dB).take.toNat else st i)++(if(ls.getD i dB).giver=w then(c5 ls fss).out i (MM.slots (c5 ls fss) st w) else[]) else st i)=_;rw[if_pos hi];simp only[hi,true_and]
   generalize Al:MM.slots (c5 ls fss) st w=e1 at*;generalize Ak:fss.getD w.toNat []=fs at*;have hx:=Paired.length pD;have rF:sl≠lo:=λz=>by rw[z,oI] at jN;cases jN
   have pf:=f2.keep _ _ gc vk;have yT:=SqL.of (K:=K) pf;have At:∀i<ls.length,(if i<ls.length∧(ls.getD i dB).taker=w then(st i).drop (ls.getD i dB).take.toNat else st i).length≤50000:=λi hi=>by
    have:=ed i hi
    split
    ·rw[QK];omega
    ·omega
   generalize Ji:(λi=>if i<ls.length∧(ls.getD i dB).taker=w then(st i).drop (ls.getD i dB).take.toNat else st i)=kr at*;have Jj:∀i,(if i<ls.length∧(ls.getD i dB).taker=w then(st i).drop (ls.getD i dB).take.toNat else st i)=kr i:=λi=>by rw[←Ji]
   simp only[Jj] at At As;walk_at "rds";refine V0 (H0:=jD ar dC) (nh (xs:=bs) (SqL.of (by rw[VC];exact pf))) (λk σ H'=>Zr [lo] H H'∧(∃fD,H' lo=some (.lst fD)∧fD.length=ls.length∧∀i<ls.length,pe H H' lo ys fD (λi=>kr i++(if i<k∧(ls.getD i dB).giver=w then(c5 ls fss).out i e1 else[])) i)∧(∃eb a6,σ=[some (.ref dC),some (.ref e2),some (.ref lo),some (.int w),some (.ref sl),eb,a6,some (.int (fK ls w k))])∧H' sl=some (.lst (e1.map V.int))) ⟨f2,⟨eO,vl,jl,λi hi=>by obtain⟨t,e,n,h,m⟩:=gY i hi;exact⟨t,e,n,by rw[h];simp,m⟩⟩,⟨_,_,by rw[ZhB]⟩,pO⟩ (λi σ H' h=>WZ ((h.1.keep _ _ gc vk).trans pf.symm)) ?_ ?_
   ·rintro k σ a2 v a3 aA ⟨cX,⟨hH,lr,nY,iL⟩,⟨eb,a6,rfl⟩,nW⟩ ⟨t,aT,rfl,rfl⟩;have el:k<ls.length:=by omega
    obtain⟨u,vm,hu⟩:=du.getD el;rw[vm];refine Rd.Wu (.of Ze) rfl ?_;have cp:Zc a2 (upd a2 t (.tup [.int k,.ref u])):=cF aT;generalize upd a2 t (.tup [.int k,.ref u])=a3 at*;have c9:Zr [lo] H a3:=cX.trans cp.frame;have nM:=c9.tups _ _ hu;dsimp only[B5.v] at nM;have rG:=cp _ _ lr;have PV:=SqL.of (K:=K) rG;have rH:=cp _ _ nW;have PX:=SqL.of (K:=K) rH;have Jk:=c9.keep _ _ iJ I8;have PY:=SqL.of (K:=K) Jk;have Au:=c9.tups _ _ u2;have PZ:=SqT.of (K:=K) Au;have hg:=am.at el;obtain⟨iW,pN,I9,jP,I_⟩:=iL k el;simp only[QU,false_and,if_false,Q5] at jP;have Av:=cp _ _ jP;have P0:=SqL.of (K:=K) Av;have pw:atI hH (k:Int)=some (.ref iW):=gQ (by
     have lq:k<hH.length:=by omega
     rw[Qa lq,←dh (d:= .non) lq,pN])
    have rJ:=Zh4 (w:=w) el;have qY:=Jh k;walk_at "rds";refine Rd.ifD (λc=>?_) (λc=>?_)
    ·rw[if_pos c] at rJ;rw[rJ];have uo:=va k el c;have Ja:=At k el;walk_at "rds"
     try unfold ky
     try walk_at "rds"
     refine Rd.Zli Au (qS qY hg.2.2.1) λbn bH cK ru=>?_;have Aw:Paired (gW bH) ((rv.drop (fK ls w k).toNat).take (ls.getD k dB).give.toNat) ((fs.drop (fK ls w k).toNat).take (ls.getD k dB).give.toNat):=Paired.take _ (Paired.drop _ (Paired.mapP pD λ_ _ z=>(z.keep c9.tups).keep λb xs e=>cK _ _ e));have Jl:(c5 ls fss).out k e1=((fs.drop (fK ls w k).toNat).take (ls.getD k dB).give.toNat).map λf=>formV f.1 f.2 e1:=by rw[uo,RL,Rx]
     have nP:∀f∈(fs.drop (fK ls w k).toNat).take (ls.getD k dB).give.toNat,qU (slotN ls w) f:=λf aX=>Jg.ok f (List.mem_of_mem_drop (Ro aX));have nO:((fs.drop (fK ls w k).toNat).take (ls.getD k dB).give.toNat).length≤1000:=by rw[QG];omega
     generalize (rv.drop (fK ls w k).toNat).take (ls.getD k dB).give.toNat=wv5 at*;generalize (fs.drop (fK ls w k).toNat).take (ls.getD k dB).give.toNat=fs5 at*;have ux:=Paired.length Aw;have Ax:=SqT.of (K:=K) ru;have Jm:=SqL.of (K:=K) (cK _ _ rH)
     try walk_at "rds"
     refine⟨bn,rfl,⟨_,Ax⟩,?_⟩;refine ZP (own:=1) (m8 Ax).y (ej (by omega)) (λi=>[some (wv5.getD i .non)]) (λ_=>rfl) (λ_=>true) (λi v _=>v= .int (formV (fs5.getD i (0,[])).1 (fs5.getD i (0,[])).2 e1)) (λ_ _ _ _ _ z=>z) (λi cE H' v a2 e8 hi aI y dE k=>?_) (λi H' cL hi aI k=>?_) (λfO i H' cL hi ft hp0 eV aI k=>?_) (λgg df zs rz d3 vf lm=>?_)
     ·obtain⟨rfl,rfl⟩:=y;obtain⟨x1,rfl⟩:∃x1,cE=[x1]:=by
       match cE,dE with
       | [x1],_=>exact⟨x1,rfl⟩
      walk_at "rds";exact k _ (Zc.refl _)
     ·walk_at "rds";exact k H' (Zc.refl H')
     ·have eG:i<fs5.length:=by omega
      obtain⟨u9,fk,u_,ea,mo,jg,rK⟩:=kj (d:=V.non) (e:=((0,[]):cV)) Aw eG;rw[ea];have aX:=nP (fs5.getD i (0,[])) (by rw[dh eG];exact Qf _);generalize fs5.getD i (0,[])=pH at*;walk_at "rds";refine⟨u9,fk,sl,pH.1,u_,pH.2,e1,rfl,aI _ _ mo,aI _ _ jg,rK.keep (λb xs e=>aI _ _ e),aI.seq Jm,aX.few,λt aT=>?_,k _ H' (Zc.refl _) rfl⟩;obtain⟨iK,jH,Iy⟩:=aX.ter t aT;exact⟨iK,by omega,IntMulOk.of_left (Qv (pd (n:=3) (by omega)) (by decide))⟩
     ·rw[Ql.mpr (by simp),ux] at lm;have ez:=ja lm;rw[kW (λf:cV=>formV f.1 f.2 e1)] at ez;subst ez;have h0:=cK.trans d3;have P1:(fs5.map λf=>formV f.1 f.2 e1).length≤1000:=by rw[Qb];exact nO
      generalize (fs5.map λf=>formV f.1 f.2 e1)=de at*;refine .inr (.inr (.inl ⟨iW,gg,_,_,rfl,rfl,h0 _ _ Av,vf,QW (jC (by simp only[Qb];omega)),λd9 gT=>?_⟩));rw[←QQ];have d6:Zc df (upd df d9 (.lst ((kr k++de).map V.int))):=cF gT;have ph:(upd df d9 (.lst ((kr k++de).map V.int))) d9=some (.lst ((kr k++de).map V.int)):=Ze;generalize upd df d9 (.lst ((kr k++de).map V.int))=c8 at*;have pP:=h0.trans d6;have Jn:=pP _ _ rG;have uQ:=pP _ _ nM;have Jf:(k:Int)<(hH.length:Int):=by omega
      walk_at "rds";have nX:d9≠lo:=λz=>by rw[z,h0 _ _ rG] at gT;cases gT
      have vo:Zr [lo] H c8:=c9.trans pP.frame;have ih:Zr [lo] c8 (upd c8 lo (.lst (hH.set ((k:Int)).toNat (.ref d9)))):=fu (by simp) Jn (by intro _ z;cases z);have P2:(upd c8 lo (.lst (hH.set ((k:Int)).toNat (.ref d9)))) u=some (.tup [.int (ls.getD k dB).giver,.int (ls.getD k dB).taker,.int (ls.getD k dB).give,.int (ls.getD k dB).take,.int (ls.getD k dB).start]):=ih.tups _ _ uQ;have d_:H d9=none:=by
       cases cz:H d9 with
       |none=>rfl
       |some o=>rw[(c9.trans h0.frame).keep _ _ cz (by simpa using nX)] at gT;cases gT
      have Jo:(∃fD,(upd c8 lo (.lst (hH.set ((k:Int)).toNat (.ref d9)))) lo=some (.lst fD)∧fD.length=ls.length∧∀i<ls.length,pe H (upd c8 lo (.lst (hH.set ((k:Int)).toNat (.ref d9)))) lo ys fD (λi=>kr i++(if i<k+1∧(ls.getD i dB).giver=w then(c5 ls fss).out i e1 else[])) i):=by
       refine⟨_,Ze,by rw[QL];exact nY,λi hi=>?_⟩
       by_cases z:i=k
       ·subst z;refine⟨d9,?_,nX,?_,.inr d_⟩
        ·rw[QH,Qy,QZ (by omega)];rfl
        ·rw[bJ nX,ph];dsimp only;rw[if_pos ⟨Rp _,c⟩,Jl]
       ·obtain⟨t',cm,ec,h',cn⟩:=iL i hi;refine⟨t',?_,ec,?_,cn⟩
        ·rw[QH,Qy,Q8 (GE z),←Qy];exact cm
        ·rw[bJ ec,pP _ _ (cp _ _ h')];have:(i<k+1∧(ls.getD i dB).giver=w)↔(i<k∧(ls.getD i dB).giver=w):=by omega
         simp only[this]
      have Jp:(upd c8 lo (.lst (hH.set ((k:Int)).toNat (.ref d9)))) sl=some (.lst (e1.map V.int)):=by rw[bJ rF];exact pP _ _ rH
      have Jq:=vo.trans ih
      try change oj _ _ _ _ (upd c8 lo (.lst (hH.set ((k:Int)).toNat (.ref d9))))
      generalize upd c8 lo (.lst (hH.set ((k:Int)).toNat (.ref d9)))=fM at*;walk_at "rds";exact⟨Jq,Jo,⟨_,_,rfl⟩,Jp⟩
    ·rw[if_neg c,Int.add_zero] at rJ;rw[rJ];walk_at "rds";refine⟨c9,⟨hH,rG,nY,λi hi=>?_⟩,⟨_,_,rfl⟩,rH⟩;obtain⟨t',cm,ec,h',cn⟩:=iL i hi;refine⟨t',cm,ec,?_,cn⟩;rw[cp _ _ h']
     by_cases z:i=k
     ·subst z;dsimp only;rw[if_neg (λz=>absurd z.1 (QU _)),if_neg (λz=>c z.2)]
     ·have:(i<k+1∧(ls.getD i dB).giver=w)↔(i<k∧(ls.getD i dB).giver=w):=by omega
      simp only[this]
   ·rintro σ a2 ⟨cX,⟨hH,lr,nY,iL⟩,⟨eb,a6,rfl⟩,nW⟩;walk_at "rds";refine q a2 hH cX lr nY λi hi=>?_;obtain⟨t',cm,ec,h',cn⟩:=iL i hi;exact⟨t',cm,ec,by rw[h',As i hi,ie],cn⟩
end
def Jr{K:Frag}{mg:Str→Option Value}(T:Tp K mg):Sp:=λvs H Q E=>∃(p:Addr)(az:FM)(fp:List Addr),vs=[.ref p]∧gv T H p az fp∧
 ∀r H',H r=none→Zc H H'→H' r=some (.lst (az.heaps.map V.int))→Q (.ref r) H'
section
variable {P:Program}{w:World}{K:Frag}{mg:Str→Option Value}{base:Heap}
theorem Js(T:Tp K mg):OkM P w mg base 1 T.ce (Jr T):=by
 have lf:=T.g;have lg:=T.o;refine T.ce.F.okX EF (λvs H Q E h=>?_) (λcw A outer s H vs Q E au h=>?_)
 ·obtain⟨p,az,fp,rfl,_⟩:=h
  rfl
 ·have hu:=au.hu;obtain⟨p,az,fp,rfl,aX,q⟩:=h;obtain⟨ap,a,b,c,em,fY,rfl,aq,av,b_,cA,dt,cY,fZ,gw,gx⟩:=id aX;refine⟨_,(bq (c' (gP (i6 (K:=K) rfl) (by rfl) T.k Qw (ay (ek (K:=K) rfl (pv 0) rfl) aH)))),?_⟩
  try dsimp only[L2.cxX,L2.ZL,L2.Zl]
  walk_at "rds";refine Rd.Zb5 (.of dt) (λr au=>?_);exact q r _ au (cF au) Ze
end
def Jt{K:Frag}{mg:Str→Option Value}(T:Tp K mg):Sp:=λvs H Q E=>∃(p:Addr)(az:FM)(fss:List (List cV))(st:Nat→List Int)(fp:List Addr),vs=[.ref p]∧fU T H p az fss st fp∧az.rows.length≤1000∧
 ∀r H' ys,H r=none→Zc H H'→H' r=some (.lst ys)→dN (hid H' r) ys ((List.range az.rows.length).map st)→(∀v∈ys,∃t,v= .ref t∧H t=none)→Q (.ref r) H'
section
variable {P:Program}{w:World}{K:Frag}{mg:Str→Option Value}{base:Heap}
theorem Ay(T:Tp K mg):OkM P w mg base 2 T.bF (Jt T):=by
 have li:=T.i;have lj:=T.w;have nJ:=T.m;have nK:=T.z;refine T.bF.F.okX EG (λvs H Q E h=>?_) (λcw A outer s H vs Q E au h=>?_)
 ·obtain⟨p,az,fss,st,fp,rfl,_⟩:=h
  rfl
 ·have hu:=au.hu;obtain⟨p,az,fss,st,fp,rfl,a4,bh,q⟩:=h;obtain⟨ap,f,c,eo,dA,fw,as,dP,rfl,aq,av,b_,cA,dt,cY,fZ,gw,gx,mb⟩:=id a4;have Ju:=SqL.of (K:=K) cY;refine⟨_,(bq (c' (gu (xs:=["lane"]) rfl (fg (x:="lane") (zs:=[]) (ix:=[]) (cq tR) ["self"] rfl rfl (by decide+kernel)) (fh (K:=K) rfl (ek (K:=K) rfl (pv 0) rfl)) (λcl C s H fp=>⟨(cP (i:=0) (show(["lane"]:List Str).Nodup by decide+kernel) rfl (Or.inl rfl)),fR,(ke (pv 0) T.i T.bE (z7 T) au Wy)⟩)))),?_⟩
  try dsimp only[L2.cxX,L2.ZL,L2.Zl]
  walk_at "rds";refine ZP (own:=1) (e7 Ju).y (ej (by simp;omega)) (λi=>[some (.ref (as.getD i 0))]) (λ_=>rfl) (λ_=>true) (λi v ao=>∃t,v=V.ref t∧H t=none∧ao t=some (.lst ((st i).map V.int))) (λ_ _ _ _ e ⟨t,eT,mh,d_⟩=>⟨t,eT,mh,e _ _ d_⟩) (λi cE H' v a3 e8 hi aI y dE k=>?_) (λi H' cL hi aI k=>?_) (λfO i H' cL hi ft hp0 eV aI k=>?_) (λr a3 zs au aI dX c2=>?_)
  ·obtain⟨rfl,rfl⟩:=y;obtain⟨x1,rfl⟩:∃x1,cE=[x1]:=by
    match cE,dE with
    | [x1],_=>exact⟨x1,rfl⟩
   have vq:i<as.length:=by simpa using hi
   have Jv:(as.map V.ref).getD i .non= .ref (as.getD i 0):=by simp[List.getD,vq]
   rw[Jv];walk_at "rds";exact k _ (Zc.refl _)
  ·walk_at "rds";exact k H' (Zc.refl H')
  ·have vq:i<as.length:=by simpa using hi
   have iM:=(gw.1 i vq).same aI;walk_at "rds";refine Zc7 iM λu hu=>?_;exact k _ _ (cF hu) ⟨u,rfl,iF aI hu,o2 eV hu⟩
  ·rw[Ql.mpr (by simp),Qb,fZ] at c2;obtain⟨eT,d_⟩:=nq c2;exact q r a3 zs au aI dX eT d_
end
def Zky(m:Int)(ls:List B5)(hY ws:List Int)(ij:V):Prop:=(∃hs,goR m ls hY ws= .ok hs∧ij= .non)∨(goR m ls hY ws= .error true∧ij= .int 2)∨(goR m ls hY ws= .error false∧ij= .int 3)
theorem vr{H:Hp}:∀{ys:List V}{aR:List (List Int)}{t:Addr},dN H ys aR→V.ref t∈ys→H t≠none
 |_,_,_,.nil,h=>by cases h
 |_,_,t,.cons ⟨u,e,hu⟩ r,h=>by
  rcases Qe.mp h with z|z
  ·rw[e] at z;cases z;rw[hu];exact λz=>nomatch z
  ·exact vr r z
theorem nZ{A:List Addr}{H H':Hp}(f:Zr A H H'):∀{ys:List V}{aR:List (List Int)},dN H ys aR→(∀t,V.ref t∈ys→t∉A)→dN H' ys aR
 |_,_,.nil,_=> .nil
 |_,_,.cons ⟨t,e,h⟩ r,n=> .cons ⟨t,e,f.keep _ _ h (n t (by rw[e];exact QM))⟩ (nZ f r λt aT=>n t (QB _ aT))
theorem ZhZ{is:List Nat}{f:Nat→Int}(h:∀i∈is,0≤f i∧f i≤40):0≤(is.map f).sum∧(is.map f).sum≤40*is.length:=by
 induction is with
 |nil=>simp
 |cons i is cI=>
  have dk:=cI λj aU=>h j (QB _ aU);have dm:=h i QM;simp only[List.map_cons,RK,List.length_cons];omega
section
variable {P:Program}{w:World}{K:Frag}{mg:Str→Option Value}{base:Heap}
theorem Zjk(T:Tp K mg):OkN P w base 14 T.bG (EJ T):=by
 have lf:=T.g;have lg:=T.o;have li:=T.i;have lj:=T.w;have nJ:=T.m;have nK:=T.z;refine T.bG.F.okX fX (λvs H Q E h=>?_) (λcw A outer s H vs Q E au h=>?_)
 ·obtain⟨a,ns,rfl,_⟩:=h
  rfl
 ·have hu:=au.hu;obtain⟨p,ns,rfl,fH,dg,k⟩:=h;refine⟨_,(bg (cN (i:=1) fX.nd rfl (Or.inl rfl) (dq T.x0 (me T) au cT (ay (pv 0) (ay Zg aH))))
     (bg (cN (i:=2) fX.nd rfl (Or.inl rfl) (ck (fi K) Zg (ck eh (pv 1) Zg)))
     (bg (qy (j:=3) (xs:=["_law_k"]) rfl (fg (x:="_law_k") (zs:=["_law_script"]) (ix:=[0]) (cq o') ["_law_script","_law_first","_law_many","_law_rates","_law_belts","_law_k","_law_forms","_law_pieces","_law_hall","_law_mill","_law_kind_here","_law_floor","_law_row","_law_due","_law_loads_here","_law_cell","_law_work","_law_handed"] rfl rfl (by decide+kernel)) (js rfl T.q (ay (pv 2) aH)) (λcl C s H fp=>⟨(cP (i:=0) (show(["_law_k","_law_script"]:List Str).Nodup by decide+kernel) rfl (Or.inl rfl)),fR,(ck (fi K) Zg (ck eh (dq T.x0 (me T) au Wy (ay (pv 1) (ay (ck (fi K) Zg (pv 0)) aH))) Zg))⟩) fX.nd rfl (Or.inl rfl))
     (bg (cN (i:=4) fX.nd rfl (Or.inl rfl) (f6 aH))
     (bg (fz PassesOwn.leaving rfl (js rfl T.q (ay (ck eh (ck fJ (pv 1) Zg) Zg) aH)) (cP (i:=5) fX.nd rfl (Or.inl rfl)) (bq (eK (hA (K:=K) rfl Qo Qz QA hS (pv 4) (ay (dq T.b3 (HE T) au cT (ay (dq T.x0 (me T) au cT (ay (pv 0) (ay (ck (fi K) Zg (pv 5)) aH))) (ay (pv 3) (ay Zg (ay (jt (fN (K:=K) rfl hu) (ck eh (ck fJ (pv 1) Zg) Zg) Zg (da _)) aH))))) aH)))))
     (bg (cN (i:=6) fX.nd rfl (Or.inl rfl) (dq T.x2 (Fd T) au cT (ay (pv 0) (ay Zg (ay (pv 4) (ay (pv 2) (ay (jt (fN (K:=K) rfl hu) (ck eh (ck fJ (pv 1) Zg) Zg) Zg (da _)) aH)))))))
     (bg (cN (i:=7) fX.nd rfl (Or.inl rfl) (dq T.x3 (Fp T) au cT (ay (pv 0) (ay Zg (ay (pv 4) aH)))))
     (bg (cN (i:=8) fX.nd rfl (Or.inl rfl) (dq T.bO (FJ T) au cT (ay (dq T.bZ (GO T) au cT (ay (dq T.x0 (me T) au cT (ay (pv 0) (ay Zg aH))) (ay (pv 2) aH))) (ay (pv 4) aH))))
     (bg (dM (gD (fW (K:=K) rfl (dq T.b1 (Hk T) au cT (ay (pv 8) (ay (pv 6) (ay (pv 7) (ay (pv 4) (ay (dq T.x0 (me T) au cT (ay (pv 0) (ay Zg aH))) (ay (pv 2) aH))))))) (λ_=>rfl))) (bq (c' WB)) d5)
     (bg (mV (dq T.bj (rk T) au cT (ay (pv 8) (ay (pv 6) (ay (pv 7) aH)))) (gs (K:=K) (n:=2) rfl rfl (d0 (cP (i:=9) fX.nd rfl (Or.inl rfl)) (d0 (cP (i:=10) fX.nd rfl (Or.inl rfl)) gj))))
     (bg (cN (i:=11) fX.nd rfl (Or.inl rfl) (th T.bB (zd T) au T.a6 cT (ay (pv 8) aH)))
     (bg (dM (dJ wn (pv 10) Wj (da _)) (bq (c' WB)) d5)
     (bg (cN (i:=12) fX.nd rfl (Or.inl rfl) (f6 aH))
     (bg (cN (i:=13) fX.nd rfl (Or.inl rfl) Wj)
     (bg (qy (j:=14) (xs:=["_law_some"]) rfl (fg (x:="_law_some") (zs:=[]) (ix:=[]) (cq o') ["_law_script","_law_first","_law_many","_law_rates","_law_belts","_law_k","_law_forms","_law_pieces","_law_hall","_law_mill","_law_kind_here","_law_floor","_law_row","_law_due","_law_loads_here","_law_cell","_law_work","_law_handed"] rfl rfl (by decide+kernel)) (fh (K:=K) rfl (pv 7)) (λcl C s H fp=>⟨(cP (i:=0) (show(["_law_some"]:List Str).Nodup by decide+kernel) rfl (Or.inl rfl)),fR,(gP (i6 (K:=K) rfl) (by rfl) T.k Qw (ay (pv 0) aH))⟩) fX.nd rfl (Or.inl rfl))
     (bg (fz PassesOwn.leaving rfl (fh (K:=K) rfl (lS (nb (K:=K) rfl) (pv 0) (iX Zg) (iX Zg))) (cP (i:=15) fX.nd rfl (Or.inl rfl)) (bg (cN (i:=16) fX.nd rfl (Or.inl rfl) (ck eh (pv 15) (ck (fi K) (pv 2) (gP wr (by rfl) T.aZ Rm (ay (jt (fN (K:=K) rfl hu) (ck eh (ck fJ (pv 15) Zg) Zg) Zg (da _)) aH)))))
     (bg (eK (hA (K:=K) rfl Qo Qz QA hS (pv 12) (ay (pv 16) aH)))
     (bq (dM (PW.pt (p9 (dJ qc (pv 13) Wj (da _)) (p8 (dJ mX (pv 16) (pv 2) (da _))))) (bq (cN (i:=13) fX.nd rfl (Or.inl rfl) Zg)) (bq (dM (PW.pt (p9 (dJ qc (pv 13) Wj (da _)) (p8 (gD (fW (K:=K) rfl (dq T.cb (I2 T) au cT (ay (pv 4) (ay (pv 14) (ay (pv 16) aH)))) (λ_=>rfl)))))) (bq (cN (i:=13) fX.nd rfl (Or.inl rfl) Zg)) (bq (dM (dJ qc (pv 13) Wj (da _)) (bq (eK (dq T.cd (I7 T) au cT (ay (pv 4) (ay (pv 6) (ay (pv 14) (ay (pv 16) aH))))))) d5)))))))))
     (bg (cN (i:=17) fX.nd rfl (Or.inl rfl) (gP (i6 (K:=K) rfl) (by rfl) T.k Qw (ay (pv 12) aH)))
     (bg (lY (dM (PW.pt (h4 (dJ (hW (K:=K) rfl hu) (dq T.a9 (pM T) au cT (ay (pv 9) (ay (pv 17) aH))) (pv 13) (da _)) (h4 (dJ (hW (K:=K) rfl hu) (pv 17) (pv 12) (da _)) (ip (dJ (hW (K:=K) rfl hu) (dq T.a9 (pM T) au cT (ay (pv 11) (ay (pv 12) aH))) (pv 13) (da _)))))) (bq (c' WB)) d5))
     (bg (lY (dM (dJ wn (pv 13) Wj (da _)) (bq (cN (i:=14) fX.nd rfl (Or.inl rfl) (pv 7))) d5))
     (bg (dM (PW.pt (h4 (gD (fW (K:=K) rfl (dq T.bC (zZ T) au cT (ay (ke (pv 9) T.m T.bF (Ay T) au cT) (ay (pv 14) aH))) (λ_=>rfl))) (ip (dJ (hW (K:=K) rfl hu) (ke (pv 11) T.g T.ce (Js T) au cT) (gu (xs:=["_law_some"]) rfl (fg (x:="_law_some") (zs:=[]) (ix:=[]) (cq o') ["_law_script","_law_first","_law_many","_law_rates","_law_belts","_law_k","_law_forms","_law_pieces","_law_hall","_law_mill","_law_kind_here","_law_floor","_law_row","_law_due","_law_loads_here","_law_cell","_law_work","_law_handed"] rfl rfl (by decide+kernel)) (fh (K:=K) rfl (pv 14)) (λcl C s H fp=>⟨(cP (i:=0) (show(["_law_some"]:List Str).Nodup by decide+kernel) rfl (Or.inl rfl)),fR,(dj (fF K) (by rfl) T.e Qn (ay (pv 0) aH))⟩)) (da _))))) (bq (c' WB)) d5)
     (bg (dM (PW.pt (h4 (dJ (hW (K:=K) rfl hu) (dq T.a9 (pM T) au cT (ay (pv 9) (ay (f6 (ay (qa qb Zg) aH)) aH))) Zg (da _)) (ip (dJ (hW (K:=K) rfl hu) (dq T.a9 (pM T) au cT (ay (pv 11) (ay (f6 (ay (qa qb Zg) aH)) aH))) Zg (da _))))) (bq (c' WB)) d5)
     (bq (c' (p' (jt qc (dq T.a9 (pM T) au cT (ay (pv 9) (ay (f6 aH) aH))) Wj (da _)) (p_ (dq T.bC (zZ T) au cT (ay (ke (pv 9) T.m T.bF (Ay T) au cT) (ay (pv 14) aH)))))))))))))))))))))))))))),?_⟩
  try dsimp only[L2.cxX,L2.ZL,L2.Zl]
  walk_at "rds";have ew:1≤1+cellX ns 0 % 4∧1+cellX ns 0 % 4≤4:=by omega
  generalize cellX ns 0=mE at*;obtain⟨m,a4⟩:∃m:Nat,1+mE % 4=(m:Int):=⟨(1+mE % 4).toNat,by omega⟩;rw[a4] at ew⊢;refine ZP (own:=1) U2.y (ej (by omega)) (λj=>[some (.int (0+(j:Int)))]) (λ_=>rfl) (λ_=>true) (λj v _=>v= .int (1+cellX ns (2+(0+(j:Int))) % 4)) (λ_ _ _ _ _ z=>z) (λj cE H' v a2 e8 hi aI y dE k=>?_) (λj H' cL hi aI k=>?_) (λfO j H' cL hi ft hp0 eV aI k=>?_) (λfy ao zs hra aB hra1 c2=>?_)
  ·obtain⟨rfl,rfl⟩:=y;obtain⟨x1,rfl⟩:∃x1,cE=[x1]:=by
    match cE,dE with
    | [x1],_=>exact⟨x1,rfl⟩
   walk_at "rds";exact k _ (Zc.refl _)
  ·walk_at "rds";exact k H' (Zc.refl H')
  ·have P4:=aI.seq fH;have aU:j<m:=by omega
   walk_at "rds";exact k _ H' (Zc.refl H') rfl
  ·rw[Ql.mpr (by simp),show((m:Nat):Int).toNat=m from rfl] at c2;have ez:=ja c2;have Az:∀r∈(List.range m).map (λj:Nat=>1+cellX ns (2+(0+(j:Int))) % 4),1≤r∧r≤4:=λr au=>by
    obtain⟨j,_,rfl⟩:=Rg.mp au;omega
   have AA:((List.range m).map (λj:Nat=>1+cellX ns (2+(0+(j:Int))) % 4)).length=m:=by simp
   generalize (List.range m).map (λj:Nat=>1+cellX ns (2+(0+(j:Int))) % 4)=Jw at*;subst ez;have AB:=SqL.of (K:=K) hra1;have AC:=aB.seq fH;walk_at "rds";refine⟨Qx _,λb am=>?_⟩;have bc:Zc ao (upd ao b (.lst [])):=cF am;have gh:(upd ao b (.lst [])) b=some (.lst []):=Ze;have jI:H b=none:=iF aB am;generalize upd ao b (.lst [])=ar at*;walk_at "rds";refine WF (n:=(mE / 4 % 6).toNat) (λi σ H'=>∃(bs:List V)(ls:List B5)(eb:Option V),σ=[some (.ref p),some (.int mE),some (.int m),some (.ref fy),some (.ref b),eb,none,none,none,none,none,none,none,none,none,none,none,none]∧Zc ao H'∧H' b=some (.lst bs)∧fj H' bs ls∧ls.length=i∧∀l∈ls,Bel m l) ⟨[],[],_,rfl,bc,gh,.nil,rfl,by simp⟩ ?_ ?_
   ·rintro i σ a2 hi ⟨bs,ls,eb,rfl,be,Jx,AD,ry,Jy⟩;have kH:=be.seq AC;have uC:=be.seq AB;have ie:=AD.length;have jK:bs.length<sizeLine:=ej (by omega);walk_at "rds";refine⟨_,fy,Jw,2,_,rfl,uC,by omega,by omega,λr au=>(by have:=Az r au;omega),by omega,by omega,λu a3 bb hu cp nM Jz=>?_⟩;have hg:=cp _ _ Jx;walk_at "rds";have hP:Zr [b] a3 (upd a3 b (.lst (bs++ [.ref u]))):=fu (by simp) hg (by intro _ z;cases z);refine⟨bs++ [.ref u],ls++ [bb],_,rfl,(be.trans cp).new am,Ze,((AD.keep λb xs e=>cp _ _ e).keep hP.tups).snoc (hP.tups _ _ nM),by simp[ry],λl ai=>?_⟩;rcases QD.mp ai with z|z
    ·exact Jy l z
    ·rw[Qm.mp z,←AA];exact Jz
   ·rintro σ a2 ⟨bs,ls,eb,rfl,cp,hg,ib,ry,n0⟩;have k8:ls.length≤5:=by omega
    have ie:=ib.length;have gd:=aB.trans cp;have um:=gd.seq fH;walk_at "rds";refine⟨p,b,ns,bs,ls,13,m,_,rfl,um,dg,hg,ib,by omega,n0,by omega,by omega,by omega,λe2 bH fw fss iJ cK nP hF5 et=>?_⟩;have vt:=gd.trans cK;have AE:=vt.seq fH;have AF:=cK _ _ hg;have rK:=ib.keep λb xs e=>cK _ _ e;walk_at "rds";refine⟨p,b,ns,bs,ls,20,rfl,AE,dg,AF,rK,by omega,λl ai=>(n0 l ai).st,by omega,by omega,λlo df ys aR oI d3 rE lm hnw6 ms kn _=>?_⟩;have jG:=vt.trans d3;have AG:dN df ys aR:=lm.same iz;have f9:=lm.length;have yV:=jG.seq fH;walk_at "rds";refine⟨_,m,rfl,by omega,λnm c8 dw k_ d6 hnm7 AH AI pQ JA=>?_⟩;have vu:=cK.trans (d3.trans d6);walk_at "rds";refine⟨nm,b,dw,bs,ls,rfl,SqL.of hnm7,AH,AI,by omega,by omega,vu _ _ hg,ib.keep (λb xs e=>vu _ _ e),by rw[pQ];exact n0,by omega,λaS gS fM vw hhn fS=>?_⟩;have rL:Zc df fM:=d6.trans fS;have rM:Zc bH fM:=d3.trans rL;have rN:Zc a2 fM:=cK.trans rM;have mz:=gd.trans rN;have AJ:=mz.seq fH;have AK:hZ aR (startsL ls):=⟨by rw[ms];simp[startsL],λi hi=>by
     rw[ms] at hi;rw[kn i hi];simp[startsL,List.getD,hi]⟩
    have hk:∀i<aR.length,(aR.getD i []).length≤1000:=λi hi=>by
     have:=kn i (by omega);have:=(n0 (ls.getD i dB) (by rw[dh (by omega)];exact Qf _)).st;omega
    have jQ:YU ls:=⟨by omega,λl ai=>by
     have B:=n0 l ai;have:=B.few;have:=B.sz;omega⟩
    have jk:jE ls (ls.map B5.start) (λi=>aR.getD i []):=⟨by simp,λi hi=>by
     rw[kn i hi];simp[List.getD,hi]⟩
    have jN:∀w:Nat,w<m→0≤slotN ls w∧slotN ls w≤1000:=λw hw=>by
     have aq:=ZhZ (is:=dF ls w) (f:=λj=>(ls.getD j dB).take) λj aU=>by
      have B:=n0 (ls.getD j dB) (by rw[dh (kU aU)];exact Qf _);have:=B.few;have:=B.sz;omega
     have av:=W5 (ls:=ls) (w:=(w:Int));have b_:slotN ls w=((dF ls w).map λj=>(ls.getD j dB).take).sum:=by unfold slotN takeRow;rw[Q2];rfl
     rw[b_];omega
    have n1:=rN _ _ hg;have vx:=ib.keep λb xs e=>rN _ _ e;have mF:=rM _ _ nP;have rO:=hF5.keep λb xs e=>rM _ _ e;have lu:=rL _ _ rE;have n2:=AG.same rL;have zJ:=et.len;have ln:=et.good;have AL:∀i<aR.length,((aR.getD i []).length:Int)≤10000:=λi hi=>by have:=hk i hi;omega
    have AM:∀i<aR.length,(aR.getD i []).length≤100000:=λi hi=>by have:=hk i hi;omega
    walk_at "rds";refine⟨aS,e2,lo,b,⟨dw,ls⟩,gS,fw,fss,ys,aR,bs,_,m,rfl,vw,pQ,by omega,by omega,mF,rO,et,lu,n2,AK,AL,n1,vx,by dsimp only;omega,jN,λiw gI=>?_⟩;have vy:=vw.same gI;walk_at "rds";have AN:gA dw.length ls fss:=by rw[pQ];exact ln.1
    refine⟨aS,e2,lo,⟨dw,ls⟩,gS,fw,fss,ys,aR,rfl,vy,by dsimp only;omega,by dsimp only;omega,gI _ _ mF,rO.keep (λb xs e=>gI _ _ e),by omega,ln.2,gI _ _ lu,n2.same gI,by omega,AM,λz=>absurd AN z,λ_ z=>absurd AK z,λ_ _ hm u ik kI hm10 qG h9 AO=>?_⟩;dsimp only at hm10;rw[pQ] at hm10;have vz:=gI.trans h9;refine Rd.Wu (.of AO) rfl ?_;walk_at "rds";refine UR (vy.same h9) (by dsimp only;omega) (by dsimp only;omega) λdW dA m5 hf11 jW oV=>?_;dsimp only at hf11;rw[pQ] at hf11;have vA:=hm10.same oV;have n3:=vz.trans oV;walk_at "rds";refine⟨rfl,?_⟩;rw[show(!decide (V.non=V.non))=false from by rw[decide_eq_true rfl];rfl];walk_at "rds";refine⟨Qx _,λr au=>?_⟩;have n4:Zc m5 (upd m5 r (.lst [])):=cF au;have pR:(upd m5 r (.lst [])) r=some (.lst (([]:List Int).map V.int)):=Ze;generalize upd m5 r (.lst [])=il at*;have vB:=vA.same n4;have vC:=hf11.same n4;have mG:=n3.trans n4;have vD:=mG _ _ lu;have AQ:=SqL.of (K:=K) vD;have vE:=n2.same mG;walk_at "rds";refine ZP (own:=1) (e7 AQ).y (ej (by omega)) (λj=>[some (ys.getD j .non)]) (λ_=>rfl) (λ_=>true) (λj v H'=>∃t,v=V.ref t∧il t=none∧H' t=some (.lst ((aR.getD j []).map V.int))) (λ_ _ _ _ e ⟨t,eT,mh,d_⟩=>⟨t,eT,mh,e _ _ d_⟩) (λj cE H' v a2 e8 hi aI y dE k=>?_) (λj H' cL hi aI k=>?_) (λfO j H' cL hi ft hp0 eV aI k=>?_) (λl2 H13 zs fL gM vF rP=>?_)
    ·obtain⟨rfl,rfl⟩:=y;obtain⟨x1,rfl⟩:∃x1,cE=[x1]:=by
      match cE,dE with
      | [x1],_=>exact⟨x1,rfl⟩
     walk_at "rds";exact k _ (Zc.refl _)
    ·walk_at "rds";exact k H' (Zc.refl H')
    ·obtain⟨t,cZ,aT⟩:=Wd vE (i:=j) (by omega);rw[cZ];have k7:=SqL.of (K:=K) (aI _ _ aT);walk_at "rds";refine⟨t,_,rfl,.inl k7,λl ai=>?_⟩;exact k _ _ (cF ai) ⟨l,rfl,iF aI ai,o2 eV ai⟩
    ·rw[Ql.mpr (by simp),f9] at rP;have rQ:=(nq rP).1;have AR:=(nq rP).2;rw[show(List.range aR.length).map (λj=>aR.getD j [])=aR by rw[kW (λx:List Int=>x)];simp] at rQ;have rh:=rQ.length;have AS:∀j<ls.length,∃t,zs.getD j .non= .ref t∧t≠l2∧il t=none∧H13 t=some (.lst ((aR.getD j []).map V.int)):=λj aU=>by
      obtain⟨t,cZ,aT⟩:=Wd rQ (i:=j) (by omega);obtain⟨t',h2,hF⟩:=AR (zs.getD j .non) (by rw[dh (by omega)];exact Qf _);rw[cZ] at h2;cases h2;exact⟨t,cZ,λz=>(by rw[z,jz] at aT;cases aT),hF,iz _ _ aT⟩
     have vG:=gM _ _ pR;have vH:=mG _ _ n1;have AT:=n2.same n3;have AU:=mG _ _ mF;have AV:b≠r:=λz=>by rw[z] at n1;rw[n3 _ _ n1] at au;cases au
     have JB:e2≠r:=λz=>by rw[z] at mF;rw[n3 _ _ mF] at au;cases au
     have JC:lo≠r:=λz=>by rw[z] at lu;rw[n3 _ _ lu] at au;cases au
     have JD:=mG _ _ lu;have n5:=mG.trans gM;have AW:=vB.same gM;have AX:=vC.same gM;have AY:=n5.seq AJ;have AZ:=n5 _ _ n1;have A0:=vx.keep λb xs e=>n5 _ _ e;have A1:=n5 _ _ mF;have A2:=rO.keep λb xs e=>n5 _ _ e;have A3:=gM _ _ vD;have A4:=vE.same gM;have A5:r≠l2:=λz=>by rw[z] at pR;rw[pR] at fL;cases fL
     have mH:∀x∈ik,il x≠none∧x≠r:=λx al=>⟨vB.dom x al,λz=>by rw[z] at al;exact vA.dom r al au⟩;have e3:∀x∈dA,il x≠none∧x≠r:=λx al=>⟨vC.dom x al,λz=>by rw[z] at al;exact hf11.dom r al au⟩;have vI:∀x o,fM x=some o→x∉ik∧x∉dA:=λx o e=>⟨λz=>(by have:=qG x z;rw[gI _ _ e] at this;cases this),λz=>(by have:=jW x z;rw[vz _ _ e] at this;cases this)⟩;have rR:∀t,V.ref t∈ys→t∉ik∧t∉dA:=λt aT=>by
      obtain⟨j,aU,kl⟩:=QJ aT;obtain⟨t',h2,h'⟩:=Wd n2 (i:=j) (by omega);rw[dh aU,kl] at h2;cases h2;exact vI t _ h'
     have rS:=vI lo _ lu;have pS:∀x∈ik,x∉dA:=λx al z=>hm10.dom x al (jW x z);clear hm10 vA vB hf11 vC qG jW AR rP rQ vE vD AQ n2 lu rO mF vx n1 AJ vw vy AO gI h9 oV vz n3 mG n5 mz rN rM rL vu jG vt yV AE AF rK AG lm hnw6 hF5 nP rE oI iJ cK d3 d6 fS ib hg cp gd um hhn hnm7 k_ AH AI JA jN AN AL AM hra AB hra1 aB am jI bc gh AC Az AA;walk_at "rds";refine Rd.slL AY ?_;intro bo hsc;rw[show(37:Int)=7+30 from rfl,qS (by decide) (by decide),←Rx,←RL];have fr:((ns.drop (Int.toNat 7)).take (Int.toNat 30)).length≤30:=by rw[QG];exact Nat.min_le_left _ _
     generalize (ns.drop (Int.toNat 7)).take (Int.toNat 30)=cs at*;have iP:Zc H13 (upd H13 bo (.lst (cs.map V.int))):=cF hsc;have rT:(upd H13 bo (.lst (cs.map V.int))) bo=some (.lst (cs.map V.int)):=Ze;have A6:r≠bo:=dG vG hsc;have rF:l2≠bo:=dG vF hsc;generalize upd H13 bo (.lst (cs.map V.int))=H14 at*;walk_at "rds";have vJ:=gM.trans iP;have A7:=AW.same iP;have A8:=AX.same iP;have vK:=iP _ _ AZ;have vL:=A0.keep λb xs e=>iP _ _ e;have A9:=iP _ _ A1;have A_:=A2.keep λb xs e=>iP _ _ e;have A':=iP _ _ A3;have JE:=A4.same iP;have Ba:=iP _ _ vG;have Bb:=iP _ _ vF;have Bc:∀j<ls.length,∃t,zs.getD j .non= .ref t∧t≠l2∧il t=none∧H14 t=some (.lst ((aR.getD j []).map V.int)):=λj aU=>by
      obtain⟨t,e,eS,eD,aT⟩:=AS j aU;exact⟨t,e,eS,eD,iP _ _ aT⟩
     have lw:∀x o,il x=some o→x≠r→x∉[r,l2]:=λx o e n z=>by
      rcases Qe.mp z with z|z
      ·exact n z
      ·rw[Qm.mp z,fL] at e;cases e
     clear AW AX AZ A0 A1 A2 A3 A4 vG AS AY gM;refine Ym (H0:=jD H14 bo) (e7 (xs:=cs.map V.int) (SqL.of (by rw[VC];exact rT))) (λi σ H'=>Zr [r,l2] H14 H'∧∃(ws:List Int)(ij:V)(eO:List V)(st:Nat→List Int)(pT pU:Option V),σ=[some (.ref p),some (.int mE),some (.int m),some (.ref fy),some (.ref b),eb,some (.ref e2),some (.ref lo),some (.ref aS),some (.ref hm),some .non,some (.ref dW),some (.ref r),some ij,some (.ref l2),pT,pU,none]∧ws.length=i∧H' r=some (.lst (ws.map V.int))∧H' l2=some (.lst eO)∧eO.length=ls.length∧(∀j<ls.length,∃t,eO.getD j .non= .ref t∧t≠l2∧il t=none∧H' t=some (.lst ((st j).map V.int)))∧Zky m ls (ls.map B5.start) ws ij∧(ij= .non→st=MM.run (c5 ls fss) (λi=>aR.getD i []) ws)) ⟨Zr.refl,[],.non,zs,λi=>aR.getD i [],_,_,rfl,rfl,Ba,Bb,by omega,Bc,.inl ⟨_,rfl,rfl⟩,λ_=>rfl⟩ (λi σ H' h=>WZ ((h.1.keep _ _ rT (by simp[GE A6,GE rF])).trans rT.symm)) ?_ ?_
     ·rintro i σ H15 hi ⟨lx,ws,ij,eO,st,pT,pU,rfl,hx,n6,pV,jl,n7,rV,ed⟩;have JF:i<cs.length:=by rw[Qb] at hi;exact hi
      have fb:(cs.map V.int).getD i .non=V.int cs[i]:=by simp[List.getD,JF]
      rw[fb];generalize cs[i]=e0;have Iv:(ws.map V.int).length<sizeLine:=by rw[Qb];exact ej (by omega)
      walk_at "rds";refine .inr ⟨_,rfl,?_⟩;have P5:(0:Int)≤(if decide (e0 / 7 % 13=2)=true then 1 else 0)∧(if decide (e0 / 7 % 13=2)=true then(1:Int) else 0)≤1:=by split<;>omega
      generalize (if decide (e0 / 7 % 13=2)=true then(1:Int) else 0)=bz at*;have JG:0<(m:Int)+bz:=by omega
      walk_at "rds";have dD:=QT e0 (show(m:Int)+bz≠0 by omega);have er:=QN e0 JG;generalize e0 % ((m:Int)+bz)=eJ at*;rw[show ws.map V.int++ [V.int eJ]=(ws++ [eJ]).map V.int by simp];have n8:Zr [r,l2] H14 (upd H15 r (.lst ((ws++ [eJ]).map V.int))):=lx.trans (fu (by simp) n6 (by intro _ z;cases z));have jm:(upd H15 r (.lst ((ws++ [eJ]).map V.int))) r=some (.lst ((ws++ [eJ]).map V.int)):=Ze;have jn:(upd H15 r (.lst ((ws++ [eJ]).map V.int))) l2=some (.lst eO):=by rw[bJ A5.symm];exact pV
      have pW:∀j<ls.length,∃t,eO.getD j .non= .ref t∧t≠l2∧il t=none∧(upd H15 r (.lst ((ws++ [eJ]).map V.int))) t=some (.lst ((st j).map V.int)):=λj aU=>by
       obtain⟨t,e,eS,eD,aT⟩:=n7 j aU;refine⟨t,e,eS,eD,?_⟩;rw[bJ (λz=>by rw[z,pR] at eD;cases eD)];exact aT
      generalize upd H15 r (.lst ((ws++ [eJ]).map V.int))=H16 at*;clear n7 n6 pV lx;have pX:(ws++ [eJ]).length=i+1:=by rw[Qg];simp;omega
      rcases rV with⟨hs,dL,rfl⟩|⟨dL,rfl⟩|⟨dL,rfl⟩
      ·have n9:=ed rfl;have vM:goR m ls (ls.map B5.start) (ws++ [eJ])=turnR m ls hs eJ:=by
        rw[UH dL];show(match turnR m ls hs eJ with| .ok c1=>goR m ls c1 []| .error e=> .error e)=_;cases turnR m ls hs eJ<;>rfl
       obtain⟨_,_,pL⟩:=Zeq jQ et jk dL;walk_at "rds";refine⟨rfl,?_⟩;rw[show decide (V.non=V.non)=true from decide_eq_true rfl];walk_at "rds"
       by_cases Bd:(m:Int)≤eJ
       ·rw[decide_eq_true Bd];walk_at "rds";refine⟨n8,ws++ [eJ],.int 2,eO,st,_,_,rfl,pX,jm,jn,jl,pW,.inr (.inl ⟨?_,rfl⟩),λz=>(nomatch z)⟩;rw[vM];unfold turnR;rw[if_neg (by omega)]
       ·rw[decide_eq_false Bd];walk_at "rds";refine⟨rfl,?_⟩;rw[show decide (V.non=V.non)=true from decide_eq_true rfl];walk_at "rds";have uS:=SqL.of (K:=K) (n8.keep _ _ vK (lw _ _ vH AV));have JH:=SqL.of (K:=K) jn;have JI:=vL.keep n8.tups;have rW:dN H16 eO ((List.range ls.length).map st):=np (by simp;omega) λj x y aV a8=>by
         have aU:j<ls.length:=by have:=(Qj.mp aV).1;omega
         obtain⟨t,cZ,_,_,aT⟩:=pW j aU;have ex:eO.getD j .non=x:=by simp[List.getD,aV]
         rw[Qp,Ri aU] at a8;have nQ:st j=y:=Qq a8;exact⟨t,by rw[←ex,cZ],by rw[←nQ];exact aT⟩
        have JJ:((List.range ls.length).map st).map (λxs=>(xs.length:Int))=hs:=by
         rw[Q2];refine Q7 (by simp;exact pL.1.symm) λj aq av=>?_;have aU:j<ls.length:=by simpa using aq
         rw[Rr,List.getElem_range];have:=pL.2 j aU;rw[←n9,dh av] at this;exact this
        refine⟨b,l2,eJ,bs,eO,ls,(List.range ls.length).map st,rfl,uS,JI,JH,rW,by simp,by omega,λks hn=>?_⟩;rw[JJ];have mI:=n8.trans hn.frame;have n_:=hn _ _ jm;have n':=hn _ _ jn;have vN:∀j<ls.length,∃t,eO.getD j .non= .ref t∧t≠l2∧il t=none∧ks t=some (.lst ((st j).map V.int)):=λj aU=>by
         obtain⟨t,e,eS,eD,aT⟩:=pW j aU;exact⟨t,e,eS,eD,hn _ _ aT⟩
        by_cases j8:iG ls hs eJ=true
        ·rw[j8];walk_at "rds";refine⟨rfl,?_⟩;rw[show decide (V.non=V.non)=true from decide_eq_true rfl];walk_at "rds";have rp:turnR m ls hs eJ= .ok (i' ls hs eJ):=by unfold turnR;rw[if_pos ⟨dD,by omega⟩,if_pos j8]
         obtain⟨_,hok,_⟩:=ZcF jQ et pL rp;rw[←n9] at hok;have hsz:∀j<ls.length,(st j).length≤50000:=λj aU=>by
          have:=UD jQ aU (ws:=ws) (st:=λi=>aR.getD i []) (fss:=fss);have:=hk j (by omega);rw[n9];omega
         refine⟨b,e2,l2,eJ,bs,fw,eO,ls,fss,st,m,rfl,mI.keep _ _ vK (lw _ _ vH AV),vL.keep mI.tups,mI.keep _ _ A9 (lw _ _ AU JB),A_.keep mI.tups,n',(λz=>by rw[z,vH] at fL;cases fL),(λz=>by rw[z,AU] at fL;cases fL),jl,λj aU=>?_,jQ,et,dD,by omega,hok,hsz,λpY hH f18 JK nY JL=>?_⟩
         ·obtain⟨t,e,eS,eD,aT⟩:=vN j aU;exact⟨t,e,eS,aT,.inl (by rw[←e,dh (by omega)];exact Qf _)⟩
         ·have JM:Zr [r,l2] ks pY:=f18.mono (by simp);walk_at "rds";refine⟨mI.trans JM,ws++ [eJ],.non,hH,MM.step (c5 ls fss) st eJ,_,_,rfl,pX,f18.keep _ _ n_ (by simpa using A5),JK,nY,λj aU=>?_,.inl ⟨_,by rw[vM,rp],rfl⟩,λ_=>by rw[MM.Zbm,←n9]⟩;obtain⟨t,e,eS,aT,JN⟩:=JL j aU;refine⟨t,e,eS,?_,aT⟩;rcases JN with z|z
          ·obtain⟨na,hf,kl⟩:=QJ z;obtain⟨t',h2,_,vO,_⟩:=vN na (by omega);rw[dh (by omega),kl] at h2;cases h2;exact vO
          ·cases Be:il t with
           |none=>rfl
           |some o=>
            by_cases jP:t=r
            ·rw[jP,n_] at z;cases z
            ·rw[mI.keep _ _ (vJ _ _ Be) (lw _ _ Be jP)] at z;cases z
        ·rw[Bool.not_eq_true] at j8;rw[j8];walk_at "rds";refine⟨mI,ws++ [eJ],.int 3,eO,st,_,_,rfl,pX,n_,n',jl,vN,.inr (.inr ⟨?_,rfl⟩),λz=>(nomatch z)⟩;rw[vM];unfold turnR;rw[if_pos ⟨dD,by omega⟩,if_neg (by rw[j8];decide)]
      ·walk_at "rds";refine⟨rfl,?_⟩;rw[show decide (V.int 2=V.non)=false from decide_eq_false (λz=>nomatch z)];walk_at "rds";refine⟨rfl,?_⟩;rw[show decide (V.int 2=V.non)=false from decide_eq_false (λz=>nomatch z)];walk_at "rds";refine⟨rfl,?_⟩;rw[show decide (V.int 2=V.non)=false from decide_eq_false (λz=>nomatch z)];walk_at "rds";exact⟨n8,ws++ [eJ],.int 2,eO,st,_,_,rfl,pX,jm,jn,jl,pW,.inr (.inl ⟨qR dL,rfl⟩),λz=>(nomatch z)⟩
      ·walk_at "rds";refine⟨rfl,?_⟩;rw[show decide (V.int 3=V.non)=false from decide_eq_false (λz=>nomatch z)];walk_at "rds";refine⟨rfl,?_⟩;rw[show decide (V.int 3=V.non)=false from decide_eq_false (λz=>nomatch z)];walk_at "rds";refine⟨rfl,?_⟩;rw[show decide (V.int 3=V.non)=false from decide_eq_false (λz=>nomatch z)];walk_at "rds";exact⟨n8,ws++ [eJ],.int 3,eO,st,_,_,rfl,pX,jm,jn,jl,pW,.inr (.inr ⟨qR dL,rfl⟩),λz=>(nomatch z)⟩
     ·rintro σ H15 ⟨lx,ws,ij,eO,st,pT,pU,rfl,hx,n6,pV,jl,n7,rV,ed⟩;rw[Qb] at hx;have pI:∀x,il x≠none→x≠r→x∉[r,l2]:=λx h n z=>by
       cases e:il x with
       |none=>exact h e
       |some o=>exact lw x o e n z
      have vP:=A7.off lx λx al=>pI x (mH x al).1 (mH x al).2;have vQ:=A8.off lx λx al=>pI x (e3 x al).1 (e3 x al).2;have Bf:=lx.keep _ _ A' (lw _ _ JD JC);have Bg:dN H15 ys aR:=Paired.mapP AT λ_ _ ⟨t,e,h⟩=>⟨t,e,lx.keep _ _ (vJ _ _ (n4 _ _ h)) (lw _ _ (n4 _ _ h) (λz=>by rw[z,au] at h;cases h))⟩;have rW:dN H15 eO ((List.range ls.length).map st):=np (by simp;omega) λj x y aV a8=>by
       have aU:j<ls.length:=by have:=(Qj.mp aV).1;omega
       obtain⟨t,cZ,_,_,aT⟩:=n7 j aU;have ex:eO.getD j .non=x:=by simp[List.getD,aV]
       rw[Qp,Ri aU] at a8;have nQ:st j=y:=Qq a8;exact⟨t,by rw[←ex,cZ],by rw[←nQ];exact aT⟩
      have lR:∀x∈ik,x≠l2:=λx al z=>by rw[z] at al;exact(mH l2 al).1 fL
      have Bh:∀x∈dA,x≠l2:=λx al z=>by rw[z] at al;exact(e3 l2 al).1 fL
      have rX:∀t,V.ref t∈eO→il t=none:=λt aT=>by
       obtain⟨na,hf,kl⟩:=QJ aT;obtain⟨t',h2,_,vO,_⟩:=n7 na (by omega);rw[dh (by omega),kl] at h2;cases h2;exact vO
      clear A7 A8 vK vL A9 A_ A' JE Ba Bb Bc lx n7 lw vF rT hsc A6 rF;have nG:=SqL.of (K:=K) n6;walk_at "rds";refine⟨r,_,rfl,.inl nG,λhd vR=>?_⟩;have ly:Zc H15 (upd H15 hd (.lst (ws.map V.int))):=cF vR;have mJ:(upd H15 hd (.lst (ws.map V.int))) hd=some (.lst (ws.map V.int)):=Ze;generalize upd H15 hd (.lst (ws.map V.int))=H16 at*;have oa:=vP.same ly;have mK:=vQ.same ly;have pZ:hd∉ik:=λz=>vP.dom hd z vR;have JO:hd∉dA:=λz=>vQ.dom hd z vR;have rY:∀j<ls.length,(aR.getD j []).length+1000*ws.length≤50000:=λj aU=>by have:=hk j (by omega);omega
      have jm:=ly _ _ n6;have jn:=ly _ _ pV;have p0:=ly _ _ Bf;have p1:=Bg.same ly;have vS:=rW.same ly;have p2:∀x,(x=lo∨x=l2∨V.ref x∈ys∨V.ref x∈eO)→x∉ik∧H16 x≠none:=λx al=>by
       rcases al with z|z|z|z
       ·rw[z];exact⟨rS.1,by rw[p0];exact λz=>nomatch z⟩
       ·rw[z];exact⟨λy=>lR _ y rfl,by rw[jn];exact λz=>nomatch z⟩
       ·exact⟨(rR x z).1,vr p1 z⟩
       ·exact⟨λy=>(mH x y).1 (rX x z),vr vS z⟩
      have rZ:∀l:List Int,(!(PyData.list (l.map PyData.int)).eqv (PyData.list (l.map PyData.int)))=false:=λl=>by rw[ZhU];simp
      have Bi:(List.range ls.length).map (λj=>aR.getD j [])=aR:=by rw[←ms,kW (λx:List Int=>x)];simp
      walk_at "rds";refine Rd.cut (λaW H'=>aW=[some (.ref p),some (.int mE),some (.int m),some (.ref fy),some (.ref b),eb,some (.ref e2),some (.ref lo),some (.ref aS),some (.ref hm),some .non,some (.ref dW),some (.ref r),some ij,some (.ref l2),pT,pU,some (.ref hd)]∧∃(eR:List Int)(e':Nat→List Int)(im mL:List Addr),fU T H' hm ⟨m,ls,eR⟩ fss e' im∧gv T H' dW ⟨m,ls,eR⟩ mL∧(∀x∈im,x∉mL)∧jE ls eR e'∧(∀j<ls.length,(e' j).length≤40000)∧H' lo=some (.lst ys)∧dN H' ys aR∧H' l2=some (.lst eO)∧(∀x,(x=lo∨x=l2∨V.ref x∈ys∨V.ref x∈eO)→x∉im)∧(ij= .non→dN H' eO ((List.range ls.length).map e'))∧(ij≠ .non→(List.range ls.length).map e'=aR)) ?k1 ?eC
      case eC=>
       rcases rV with⟨hs,dL,rfl⟩|⟨dL,rfl⟩|⟨dL,rfl⟩
       ·have n9:=ed rfl;have P6:PyData.none.canLay0=true:=rfl;walk_at "rds";refine⟨hm,hd,ws,rfl,mJ,.inl ⟨_,fss,_,ik,oa,pZ,et,jQ,jk,rY,λz=>(by rw[show goR m ls (ls.map B5.start) ws= .error true from z] at dL;cases dL),λz=>(by rw[show goR m ls (ls.map B5.start) ws= .error false from z] at dL;cases dL),λc1 z ks im p3 JP fr17 Bj=>?_⟩⟩;obtain rfl:hs=c1:=by
         rw[show goR m ls (ls.map B5.start) ws= .ok c1 from z] at dL;cases dL
         rfl
        have JQ:r∉ik:=λz=>(mH r z).2 rfl;have n_:=fr17.keep _ _ jm JQ;have JR:=fr17.keep _ _ mJ pZ;have r0:=mK.off fr17 λx al z=>pS x z al;have n':=fr17.keep _ _ jn (λz=>lR l2 z rfl);have r1:=fr17.keep _ _ p0 rS.1;have r2:=nZ fr17 p1 λt aT=>(rR t aT).1;have JS:=nZ fr17 vS λt aT z=>(mH t z).1 (rX t aT);walk_at "rds";refine Rd.Zau .non .non rfl rfl (by decide) ?_;rw[show(!PyData.none.eqv PyData.none)=false from rfl];walk_at "rds";refine Rd.Zau (e4.ints (SqL.of JR)) (e4.ints (SqL.of n_)) (kd _) (kd _) (qw _) ?_;rw[rZ];walk_at "rds";refine⟨dW,r,ws,rfl,n_,.inr ⟨_,dA,r0,by dsimp only;omega,λz=>(by rw[show goR m ls (ls.map B5.start) ws= .error true from z] at dL;cases dL),λz=>(by rw[show goR m ls (ls.map B5.start) ws= .error false from z] at dL;cases dL),λBk fP pY mL JT fr18 JU=>?_⟩⟩;obtain rfl:hs=Bk:=by
         rw[show goR m ls (ls.map B5.start) ws= .ok Bk from fP] at dL;cases dL
         rfl
        walk_at "rds";refine Rd.Zau .non .non rfl rfl (by decide) ?_;rw[show(!PyData.none.eqv PyData.none)=false from rfl];walk_at "rds";have Bl:∀x∈im,x∉dA:=λx al z=>by
         rcases Bj x al with y|y
         ·exact pS x y z
         ·exact mK.dom x z y
        refine⟨rfl,hs,MM.run (c5 ls fss) (λi=>aR.getD i []) ws,im,mL,p3.off fr18 Bl,JT,λx al z=>?_,JP,λj aU=>?_,fr18.keep _ _ r1 rS.2,nZ fr18 r2 (λt aT=>(rR t aT).2),fr18.keep _ _ n' (λz=>Bh l2 z rfl),λx al z=>(Bj x z).elim (p2 x al).1 (p2 x al).2,λ_=>?_,λz=>absurd rfl z⟩
        ·rcases JU x z with y|y
         ·exact Bl x al y
         ·exact p3.dom x al y
        ·have:=UD jQ aU (ws:=ws) (st:=λi=>aR.getD i []) (fss:=fss);have:=hk j (by omega);omega
        ·rw[←n9];exact nZ fr18 JS λt aT z=>(e3 t z).1 (rX t aT)
       ·walk_at "rds";refine⟨hm,hd,ws,rfl,mJ,.inl ⟨_,fss,_,ik,oa,pZ,et,jQ,jk,rY,λ_ ks hn=>?_,λz=>(by rw[show goR m ls (ls.map B5.start) ws= .error false from z] at dL;cases dL),λc1 z=>(by rw[show goR m ls (ls.map B5.start) ws= .ok c1 from z] at dL;cases dL)⟩⟩;walk_at "rds";refine Rd.Zau (e4.ints (SqL.of (hn _ _ mJ))) (e4.ints (SqL.of (hn _ _ jm))) (kd _) (kd _) (qw _) ?_;rw[rZ];walk_at "rds";refine⟨dW,r,ws,rfl,hn _ _ jm,.inr ⟨_,dA,mK.same hn,by dsimp only;omega,λ_ pY vT=>?_,λz=>(by rw[show goR m ls (ls.map B5.start) ws= .error false from z] at dL;cases dL),λc1 z=>(by rw[show goR m ls (ls.map B5.start) ws= .ok c1 from z] at dL;cases dL)⟩⟩;have jo:=hn.trans vT;walk_at "rds";exact⟨rfl,_,_,ik,dA,oa.same jo,mK.same jo,pS,jk,λj aU=>(by have:=hk j (by omega);omega),jo _ _ p0,p1.same jo,jo _ _ jn,λx al=>(p2 x al).1,λz=>(nomatch z),λ_=>Bi⟩
       ·walk_at "rds";refine⟨hm,hd,ws,rfl,mJ,.inl ⟨_,fss,_,ik,oa,pZ,et,jQ,jk,rY,λz=>(by rw[show goR m ls (ls.map B5.start) ws= .error true from z] at dL;cases dL),λ_ ks hn=>?_,λc1 z=>(by rw[show goR m ls (ls.map B5.start) ws= .ok c1 from z] at dL;cases dL)⟩⟩;walk_at "rds";refine Rd.Zau (e4.ints (SqL.of (hn _ _ mJ))) (e4.ints (SqL.of (hn _ _ jm))) (kd _) (kd _) (qw _) ?_;rw[rZ];walk_at "rds";refine⟨dW,r,ws,rfl,hn _ _ jm,.inr ⟨_,dA,mK.same hn,by dsimp only;omega,λz=>(by rw[show goR m ls (ls.map B5.start) ws= .error true from z] at dL;cases dL),λ_ pY vT=>?_,λc1 z=>(by rw[show goR m ls (ls.map B5.start) ws= .ok c1 from z] at dL;cases dL)⟩⟩;have jo:=hn.trans vT;walk_at "rds";exact⟨rfl,_,_,ik,dA,oa.same jo,mK.same jo,pS,jk,λj aU=>(by have:=hk j (by omega);omega),jo _ _ p0,p1.same jo,jo _ _ jn,λx al=>(p2 x al).1,λz=>(nomatch z),λ_=>Bi⟩
      case k1=>
       rintro aW ks ⟨rfl,eR,e',im,mL,p3,r0,P7,r3,kQ,r1,r2,n',k_,JV,Bm⟩;clear p2 oa mK vP vQ jm jn p0 p1 vS rW Bg Bf nG ly mJ pZ JO rY AT n6 pV vJ pR n4 mH e3 pS lR Bh rR vI rS rX pI jk;walk_at "rds";refine Rd.cut (λaW H'=>H'=ks∧∃(mM:Addr)(lz:List V),aW=[some (.ref p),some (.int mE),some (.int m),some (.ref fy),some (.ref b),eb,some (.ref e2),some (.ref lo),some (.ref aS),some (.ref hm),some .non,some (.ref dW),some (.ref r),some ij,some (.ref mM),pT,pU,some (.ref hd)]∧ks mM=some (.lst lz)∧(∀t,(t=mM∨V.ref t∈lz)→t∉im)∧dN ks lz ((List.range ls.length).map e')) ?k2 ?fo
       case fo=>
        rcases rV with⟨hs,dL,rfl⟩|⟨dL,rfl⟩|⟨dL,rfl⟩
        ·walk_at "rds";refine⟨rfl,?_⟩;rw[show(!decide (V.non=V.non))=false from by rw[decide_eq_true rfl];rfl];walk_at "rds";exact⟨rfl,l2,eO,rfl,n',λt aT=>k_ t (aT.elim (λz=> .inr (.inl z)) λz=> .inr (.inr (.inr z))),JV rfl⟩
        ·walk_at "rds";refine⟨rfl,?_⟩;rw[show(!decide (V.int 2=V.non))=true from by rw[decide_eq_false (λz=>nomatch z)];rfl];walk_at "rds";exact⟨rfl,lo,ys,rfl,r1,λt aT=>k_ t (aT.elim .inl λz=> .inr (.inr (.inl z))),by rw[Bm (λz=>nomatch z)];exact r2⟩
        ·walk_at "rds";refine⟨rfl,?_⟩;rw[show(!decide (V.int 3=V.non))=true from by rw[decide_eq_false (λz=>nomatch z)];rfl];walk_at "rds";exact⟨rfl,lo,ys,rfl,r1,λt aT=>k_ t (aT.elim .inl λz=> .inr (.inr (.inl z))),by rw[Bm (λz=>nomatch z)];exact r2⟩
       case k2=>
        rintro aW pY ⟨rfl,mM,lz,rfl,vU,Bn,r4⟩;have vV:((List.range ls.length).map e').length≤1000:=by simp;omega
        have vW:=r4.length;have lA:goR m ls eR [-1]= .error true:=by
         show(match turnR m ls eR (-1) with| .ok c1=>goR m ls c1 []| .error e=> .error e)=_;unfold turnR;rw[if_neg (by omega)]
        walk_at "rds";refine⟨hm,_,fss,e',im,rfl,p3,by dsimp only;omega,λcy H19 nL hX r5 JW hR19 P8=>?_⟩;dsimp only at hR19;walk_at "rds";refine⟨cy,mM,nL,lz,(List.range ls.length).map e',rfl,JW,hR19.same iz,r5 _ _ vU,r4.same r5,vV,?_⟩;have JX:=r0.same r5;walk_at "rds";refine⟨dW,_,mL,rfl,JX,λcU H20 fx rm Bo=>?_⟩;dsimp only at Bo;have vX:=r5.trans rm;have JY:=SqL.of (K:=K) (vX _ _ vU);have JZ:=r4.same vX;walk_at "rds";refine ZP (own:=1) (e7 JY).y (ej (by rw[vW];exact vV)) (λj=>[some (lz.getD j .non)]) (λ_=>rfl) (λ_=>true) (λj v _=>v= .int ((e' j).length:Int)) (λ_ _ _ _ _ z=>z) (λj cE H' v a2 e8 hi aI y dE k=>?_) (λj H' cL hi aI k=>?_) (λfO j H' cL hi ft hp0 eV aI k=>?_) (λzF H21 la hl3' nN hl21 Bp=>?_)
        ·obtain⟨rfl,rfl⟩:=y;obtain⟨x1,rfl⟩:∃x1,cE=[x1]:=by
          match cE,dE with
          | [x1],_=>exact⟨x1,rfl⟩
         walk_at "rds";exact k _ (Zc.refl _)
        ·walk_at "rds";exact k H' (Zc.refl H')
        ·have aU:j<ls.length:=by rw[vW] at hi;simpa using hi
         obtain⟨t,cZ,aT⟩:=Wd JZ (i:=j) (by simpa using aU);rw[show((List.range ls.length).map e').getD j []=e' j by simp[List.getD,aU]] at aT;rw[cZ];have k7:=SqL.of (K:=K) (aI _ _ aT);walk_at "rds";exact k _ H' (Zc.refl H') (by rw[Qb])
        ·rw[Ql.mpr (by simp),show lz.length=ls.length by rw[vW];simp] at Bp;have ez:=ja Bp;have J0:(List.range ls.length).map (λj=>((e' j).length:Int))=eR:=by
          refine Q7 (by simp;exact r3.1.symm) λj aq av=>?_;have aU:j<ls.length:=by simpa using aq
          rw[Rr,List.getElem_range];have:=r3.2 j aU;rw[dh av] at this;exact this
         rw[J0] at ez;subst ez;refine Rd.Zau (e4.ints (SqL.of (nN _ _ Bo))) (e4.ints (SqL.of hl21)) (kd _) (kd _) (qw _) ?_;rw[rZ];have vY:=vX.trans nN;have vZ:=p3.same vY;have J1:=r0.same vY;walk_at "rds";intro gL eF;have Bq:Zc H21 (upd H21 gL (.lst [V.int (-1)])):=cF eF;have J2:(upd H21 gL (.lst [V.int (-1)])) gL=some (.lst (([-1]:List Int).map V.int)):=Ze;generalize upd H21 gL (.lst [V.int (-1)])=H22 at*;have J3:gL∉im:=λz=>vZ.dom gL z eF;walk_at "rds";refine⟨hm,gL,[-1],rfl,J2,.inl ⟨_,fss,e',im,vZ.same Bq,J3,et,jQ,r3,λj aU=>(by have:=kQ j aU;simp;omega),λ_ r6 J4=>?_,λz=>(by rw[show goR m ls eR [-1]= .error false from z] at lA;cases lA),λc1 z=>(by rw[show goR m ls eR [-1]= .ok c1 from z] at lA;cases lA)⟩⟩;have J5:=Bq.trans J4;walk_at "rds";intro d9 gT;have pu:Zc r6 (upd r6 d9 (.lst [V.int (-1)])):=cF gT;have J6:(upd r6 d9 (.lst [V.int (-1)])) d9=some (.lst (([-1]:List Int).map V.int)):=Ze;generalize upd r6 d9 (.lst [V.int (-1)])=H24 at*;have Br:=J5.trans pu;walk_at "rds";refine⟨dW,d9,[-1],rfl,J6,.inr ⟨_,mL,J1.same Br,by dsimp only;omega,λ_ r7 yU=>?_,λz=>(by rw[show goR m ls eR [-1]= .error false from z] at lA;cases lA),λc1 z=>(by rw[show goR m ls eR [-1]= .ok c1 from z] at lA;cases lA)⟩⟩;have Bs:=Br.trans yU;have Bt:=vZ.same Bs;walk_at "rds";refine⟨Qx _,λg4 mD=>?_⟩;have nz:Zc r7 (upd r7 g4 (.lst [])):=cF mD;have J7:(upd r7 g4 (.lst [])) g4=some (.lst (([]:List Int).map V.int)):=Ze;generalize upd r7 g4 (.lst [])=H26 at*;have J8:g4∉im:=λz=>Bt.dom g4 z mD;have Bu:=vY.trans (Bs.trans nz);walk_at "rds";refine⟨hm,g4,[],rfl,J7,.inl ⟨_,fss,e',im,Bt.same nz,J8,et,jQ,r3,λj aU=>(by have:=kQ j aU;simp;omega),λz=>(nomatch (show(Except.ok eR:Except Bool (List Int))= .error true from z)),λz=>(nomatch (show(Except.ok eR:Except Bool (List Int))= .error false from z)),λc1 z H27 J9 Bv hL27 fr27 P9=>?_⟩⟩;dsimp only at Bv fr27;have J_:=fr27.keep _ _ (Bu _ _ vU) (Bn mM (.inl rfl));have J':=nZ fr27 (r4.same Bu) λt aT=>Bn t (.inr aT);walk_at "rds";refine⟨rfl,?_⟩;rw[show decide (V.non=V.non)=true from decide_eq_true rfl];walk_at "rds";refine⟨hm,_,fss,_,J9,rfl,Bv,by dsimp only;omega,λhp H28 Ka nR Bw Kb hR28 P_=>?_⟩;dsimp only at hR28;walk_at "rds";refine⟨hp,mM,Ka,lz,(List.range ls.length).map e',rfl,Kb,hR28.same iz,Bw _ _ J_,J'.same Bw,vV,?_⟩;exact k _
end
theorem walk{l:PySem.W.OpenLaw}{q:Program}{mZ:List Str}{m0:(Str→Option Value)→Heap→Prop}{kF:World→Heap→Prop}{d:DefRec}{K:Params→Frag}(bL:l.most=some 63)(oH:d.params.defaults=[])(vb:d.name="law")
  (sJ:∀(w:World)(h:Heap),kF w h→(K w.params).In h)
  (F:∀(w:World)(mg:Str→Option Value)(h:Heap),(K w.params).In h→h.Ns mainGlobals mg→∃T:Tp (K w.params) mg,True):
  PySem.W.WalkO q mZ m0 kF l.row.toRowW d [] (λf vs=>PySem.call f vs):=by
 refine L2.Ziw (n:=63) (k:=14) (x:="_law_script") (CX:=λw=>CXX l.prog w) (sp:=λw=>Zii (K w.params)) bL (by decide) oH ⟨rfl,by decide,by decide⟩ sJ (λw mg dW h ey G m1=>?_) (λ_ _ a ns ai _ fH=>⟨a,ns,rfl,fH,ai,λ_=>rfl⟩) ?_
 ·obtain⟨T,_⟩:=F w mg h ey G;rw[vb,T.bG.m] at m1;cases m1;exact⟨T.bG.d,T.bK,λbase _ _=>Zjk T⟩
 ·intro w H s e s' z;obtain⟨_,_,_,_,_,_,_,_,_,_,_,_,_,z⟩:=z;exact z
end Nm
namespace PySem.W.Fast
def tw14049610365041837559:=0
def tw12588448421253801790:=0
def tw6515074047448420206:=0
def tw14650791877535089078:=0
def tw14717618127562328970:=0
def tw891226899162448977:=0
def tw16574603592665977795:=0
def tw52586376498380064:=0
def tw10541598668156940147:=0
def tw15630368498143797028:=0
def tw17634166788158332727:=0
def tw2033128375425973897:=0
def tw2426776850526300166:=0
def tw5850261457548630545:=0
def tw1633079010044272098:=0
def tw5842171676310508013:=0
def tw12963103901882540062:=0
def tw17601246056119076307:=0
def tw15975946502905903049:=0
def tw1727175788131215176:=0
def tw13144018737733394412:=0
def tw6608272660852345807:=0
def tw12308270030459490889:=0
def tw298754182623074707:=0
def tw12705598141174011640:=0
def tw16433016179502789064:=0
def tw13204013269208114766:=0
def tw4263889823358489752:=0
def tw8726061583266935681:=0
def tw10827172432147617490:=0
def tw7451140308458368890:=0
def tw17628324588343476559:=0
def tw18097738667720617183:=0
def tw6941253706705389393:=0
def tw6527603226675988151:=0
def tw3838799278273498021:=0
def tw3174902233659276631:=0
def tw10765615451173334634:=0
def tw6552735558204254994:=0
def tw14814090738330749099:=0
def tw17153001596289274498:=0
def tw11936187260637466244:=0
def tw3983067883044595881:=0
def tw9896575059391111267:=0
def tw6207995278953059193:=0
def tw4225521795474678263:=0
def tw14535408403830089902:=0
def tw249359974409731087:=0
def tw5287747138118694878:=0
def tw6327333241285094135:=0
def tw6569149827633252428:=0
def tw15309634271231827104:=0
def tw14775018437968785195:=0
def tw12355703832529644068:=0
def tw5566977200123742677:=0
def tw12590270021310791923:=0
def tw6719804638098209196:=0
def tw2683738191754668601:=0
def tw18038551786091840458:=0
def tw10478491654457423242:=0
def tw17903729714698234943:=0
def tw9240707241356697984:=0
def tw13002871445882246300:=0
def tw4950883218448012752:=0
def tw3186542523501005395:=0
def tw12505846896033348874:=0
def tw7150771078951072540:=0
def tw15017774914616321592:=0
def tw18304310892048360908:=0
def tw1999592971382984025:=0
def tw1457571461665248026:=0
def tw1615447300091698843:=0
def tw2270190380748953746:=0
def tw11467114626750565829:=0
def tw5428282369534211280:=0
def tw6384943452091294713:=0
def tw9333135353036634574:=0
def tw6108344087667233167:=0
def tw9139278680650031443:=0
def tw8991720267604109010:=0
def tw10651954152811468988:=0
def tw14774077895541669660:=0
def tw3652306634402731071:=0
def tw12301071421531810349:=0
def tw1889453237977615148:=0
def tw11326648460632408492:=0
def tw4043813947610913414:=0
def tw10558383402818818865:=0
def tw17168993844701493853:=0
def tw15422529173499474971:=0
def tw11986276802219997118:=0
def tw13014606995739712177:=0
def tw3871627153718278921:=0
def tw2670008994069169072:=0
def tw6395657207792650372:=0
def tw5588285840974430106:=0
def tw3341048084539382835:=0
def tw8020613396462552449:=0
def tw2499239699454433858:=0
def tw17036970854056581914:=0
def tw15166075129260998602:=0
def tw9853110291575520040:=0
def tw12138275492796925598:=0
def tw13005581642076071963:=0
def tw1268174181375922641:=0
def tw12233735296365053246:=0
def tw11349060599961520278:=0
def tw16157488068768102821:=0
def tw2242325289403872922:=0
def tw2838772044480966619:=0
def tw3647338951169899306:=0
def tw16484658266700064723:=0
def tw5878162773090921818:=0
def tw1718637974944582979:=0
def tw17646949416267412669:=0
def tw8369456168921208498:=0
def tw12649419140850356788:=0
def tw13660995975238056026:=0
def tw16785214483760009683:=0
def tw15228246609381297694:=0
def tw3518163610045941811:=0
def tw4239034657600265253:=0
def tw3304267728392092930:=0
def tw1029487464302909878:=0
def tw14115832232002110291:=0
def tw16436413992250237114:=0
def tw14933933935377487038:=0
def tw17903108901920370802:=0
def tw3588352767442798267:=0
def tw9673812613246522995:=0
def tw622491891963648748:=0
def tw13400328090255936383:=0
def tw4977230253913825997:=0
def tw1698986883889778992:=0
def tw3661437673868962954:=0
def tw4408464569415822530:=0
def tw14424025710300262432:=0
def tw15871979806839859576:=0
def tw7546637325264397923:=0
def tw13317141751321531719:=0
def tw4944894386339120301:=0
def tw9737272047936355469:=0
def tw13078464034604889030:=0
def tw717545469115147479:=0
def tw17190301091433163079:=0
def tw5928214976454015793:=0
def tw8448927159202061112:=0
def tw15651844052281382536:=0
def tw3372327976127633911:=0
def tw6328216935695232105:=0
def tw6231379304671117650:=0
def tw1357086977938595163:=0
def tw67258412728346284:=0
def tw16894972631363328205:=0
def tw15096964924790192784:=0
def tw3018758109581406349:=0
def tw13293820670752337933:=0
def tw11155533766563927007:=0
def tw17729454205979151589:=0
def tw5443937540527694911:=0
def tw8114030524183537148:=0
def tw966682693591321230:=0
def tw18214214485922620211:=0
def tw2024477976709433808:=0
def tw10069084592440661102:=0
def tw3520259108258447317:=0
def tw7519594635395435889:=0
def tw6298831435045793453:=0
def tw1111330248662064216:=0
def tw6083858016615363208:=0
def tw10565819896044997793:=0
def tw5159971635885960326:=0
def tw18140479539442065115:=0
def tw13994966337061227841:=0
def tw19254243409432440:=0
def tw4843967001647827560:=0
def tw3196876943130058780:=0
def tw14611980408753993956:=0
def tw6635432780208472611:=0
def tw2240756853098110404:=0
def tw15616987201866807635:=0
def tw9078461468268260757:=0
def tw1592153788584424684:=0
def tw3748303263756619964:=0
def tw7267265955250178846:=0
def tw8178892814409981003:=0
def tw5949969063086081286:=0
def tw14092853730845490153:=0
def tw9169726369256821194:=0
def tw18377544005626139133:=0
def tw3995089551436644794:=0
def tw2744141547758840760:=0
def tw8544749286514479999:=0
def tw1674396380473928649:=0
def tw10617509406147534419:=0
def tw10510836129269758499:=0
def tw4332043107690711317:=0
def tw5775222774099284520:=0
def tw15540170870737803635:=0
def tw13290825702822582030:=0
def tw17998415774688437237:=0
def tw2812194903153968387:=0
def tw150901156435485224:=0
def tw16813344063890850099:=0
def tw8820700004578260931:=0
def tw4732487567975603154:=0
def tw12848594294443882626:=0
def tw7462387938115334510:=0
def tw5569479406125992655:=0
def tw10475840007346526016:=0
def tw5051663975878581191:=0
def tw12238883293367572138:=0
def tw7670984999440175972:=0
def tw8034676714222562043:=0
def tw9016913007334977556:=0
def tw1584507427895043234:=0
def tw15507633283485080341:=0
def tw12702658181740486845:=0
def tw2090466945155573565:=0
def tw6492114751195124027:=0
def tw4020976246478249702:=0
def tw6501874267547162507:=0
def tw11983860325418481695:=0
def tw17136025437430814783:=0
def tw7797956018585837407:=0
def tw7417479794735762677:=0
def tw11575976261484905320:=0
def tw11829635155927450663:=0
def tw16543714940450680685:=0
def tw16449224117041523280:=0
def tw18360293674019405234:=0
def tw17851687149958978786:=0
def tw15049367796387711336:=0
def tw16104746862757816742:=0
def tw10546043134982300493:=0
def tw3668105780400481939:=0
def tw7937515928352998409:=0
def tw3367471978814543996:=0
def tw6443585687914375914:=0
def tw2881482806521522064:=0
def tw15476635455330804185:=0
def tw8366554576602368202:=0
def tw5865364655574731314:=0
def tw1342937078133818608:=0
def tw15894668659236949788:=0
def tw12836616106472289610:=0
def tw5493753089558483277:=0
def tw10711367606174195768:=0
def tw9992057605606689008:=0
def tw4117241315266526258:=0
def tw5168633753929610595:=0
def tw4021128826731085579:=0
def tw3609608951513752289:=0
def tw1198953962745649610:=0
def tw18324588099913710119:=0
def tw9515580951519854894:=0
def tw10465551326088644145:=0
def tw7257885950347610901:=0
def tw13782977295665218768:=0
def tw2310316170689581313:=0
def tw3304478913868304982:=0
def tw1499133899862179922:=0
def tw12020434961587585427:=0
def tw3712567248532883826:=0
def tw227168310193310599:=0
def tw18192821364405524538:=0
def tw1182723101769086079:=0
def tw12674905397343693552:=0
def tw8547806840119584425:=0
def tw11257514735523260369:=0
def tw1053811690542181377:=0
def tw16499169099292766208:=0
def tw10235991552933345956:=0
def tw6429512804828968499:=0
def tw1722550327413061529:=0
def tw17653556729433625586:=0
def tw10865641969349692816:=0
def tw15164574614002763:=0
def tw13252798075066725785:=0
def tw1780148178635869600:=0
def tw15658364375642885760:=0
def tw9559897039264989538:=0
def tw16798842631444046565:=0
def tw2612362449053805119:=0
def tw1624766141919441651:=0
def tw2074599527519382949:=0
def tw2227382186238922804:=0
def tw5071851373255536768:=0
def tw8625652207554088637:=0
def tw18068354488955492554:=0
def tw17961220644161690382:=0
def tw4090057763369342424:=0
def tw15622461178898571010:=0
def tw8883176261538149558:=0
def tw16497755901923044425:=0
def tw8307142197167801463:=0
def tw15103408475969806346:=0
def tw10125835988307488740:=0
def tw17783519395791497966:=0
def tw2015537802385787411:=0
def tw13026344784909293396:=0
def tw8909973610072994590:=0
def tw3569203614097158754:=0
def tw10819896944844658518:=0
def tw8932513726860940766:=0
def tw11644726476404453740:=0
def tw7928497090212002780:=0
def tw17835916300557417311:=0
def tw1497608206483528677:=0
def tw2400057438130766845:=0
def tw2684726325953597263:=0
def tw2104042752228717547:=0
def tw6636239684972260417:=0
def tw13719730364618327555:=0
def tw183463990456014738:=0
def tw548982288888199995:=0
def tw4435106205380153422:=0
def tw10092720628140211434:=0
def tw2077440703155943814:=0
def tw16285563132229600457:=0
def tw7661314727433954623:=0
def tw6864881174843443800:=0
def tw13696218692965985457:=0
def tw9653528507186093552:=0
def tw8307692007359252692:=0
def tw8849661273820878435:=0
def tw11081430733260262337:=0
def tw14840465265868176909:=0
def tw2866047606849245092:=0
def tw3337226142865858630:=0
def tw2950132365888905153:=0
def tw13582310721146373579:=0
def tw13709139720458776366:=0
def tw15211756322639829665:=0
def tw10157537997410086428:=0
def tw12767128965428768255:=0
def tw17034507048402961020:=0
def tw7032069910364178789:=0
def tw17466447972300569595:=0
def tw4601633161598353096:=0
def tw8311951382667288214:=0
def tw3122206808980089515:=0
def tw8457143622553991969:=0
def tw10760649448109591676:=0
def tw14328487916203346110:=0
def tw487991297557397513:=0
def tw14462402181180297267:=0
def tw15637530041383126547:=0
def tw14218136485233527418:=0
def tw9134714057045958146:=0
def tw9074515632180997030:=0
def tw7146647557688793039:=0
def tw10300974236936121560:=0
def tw3008864489238898111:=0
def tw10873416801198657901:=0
def tw6778113122810796209:=0
def tw9273031294519950344:=0
def tw16136112128933610807:=0
def tw16197102328082905723:=0
def tw788304343604834923:=0
def tw2708928559855915510:=0
def tw13014018987606194714:=0
def tw6944811754628255630:=0
def tw3850141588377398707:=0
def tw2846172462223401925:=0
def tw10570468149520501997:=0
def tw3991816650878374007:=0
def tw2680306909966745346:=0
def tw4559114903029644549:=0
def tw44670128466251595:=0
def tw661916890751620059:=0
def tw14885677807293720100:=0
def tw10776368813976748684:=0
def tw5125859577471486444:=0
def tw9258413229691112283:=0
def tw8729189822636572107:=0
def tw9727679865480166108:=0
def tw11305797386273986398:=0
def tw11380496854116623192:=0
def tw8418411013114737873:=0
def tw4139864470154402913:=0
def tw17692467758900305616:=0
def tw10595285888192504917:=0
def tw9909587368667335254:=0
def tw11860796712631602661:=0
def tw12964979514447404635:=0
def tw4910227349837809826:=0
def tw4524187572825295058:=0
def tw14180916062701188780:=0
def tw2188800056497977218:=0
def tw5758927788070404261:=0
def tw5712513128812862047:=0
def tw1066663840915902528:=0
def tw12949287738759025640:=0
def tw14914360623825836562:=0
def tw8459816180458115690:=0
def tw15507254371389631959:=0
def tw7341558841908452510:=0
def tw13039158616431092953:=0
def tw3868840988532610612:=0
def tw9613223212201381127:=0
def tw4414297249333655235:=0
def tw4917641135497229953:=0
def tw5111407572053876530:=0
def tw16733747097065492771:=0
def tw14765214374881159753:=0
def tw4312390722510382862:=0
def tw6609912076374153867:=0
def tw6307333688511656316:=0
def tw168581848380685793:=0
def tw15816992971568132414:=0
def tw16552011472698700532:=0
def tw14612519423517643229:=0
def tw10508204572518408600:=0
def tw10976410968197927443:=0
def tw3220942588328678351:=0
def tw17208895888175631964:=0
def tw12570295975102146040:=0
def tw2663626594328203270:=0
def tw6639003715664354256:=0
def tw1875107146937133604:=0
def tw10789569928812966806:=0
def tw8827598568040326506:=0
def tw15140698630111448251:=0
def tw17666521747555565742:=0
def tw12157918302881047826:=0
def tw7815268152826366341:=0
def tw13859835388038099993:=0
def tw3367130542228059884:=0
def tw16472536865710113553:=0
def tw6176784922466130436:=0
def tw6736079403930842405:=0
def tw9487994720501402175:=0
def tw6482689259834448997:=0
def tw16721958027694706739:=0
def tw12880510287981563287:=0
def tw14776777430526146606:=0
def tw1866351049551522258:=0
def tw14793409869091551240:=0
def tw13987475616656225454:=0
def tw16760774550143258978:=0
def tw16576442011996154911:=0
def tw2436276188255219151:=0
def tw6782014848429352581:=0
def tw1203106233065732543:=0
def tw8601489988020413868:=0
def tw7501878408185490950:=0
def tw3919962939035695654:=0
def tw16064479559155193257:=0
def tw363554477425513567:=0
def tw9774705433222234656:=0
def tw16274370593811449006:=0
def tw11368413204561070003:=0
def tw15174913312261311934:=0
def tw4211787854917894549:=0
def tw15416527899186561606:=0
def tw3052715075062243877:=0
def tw1657144331211104555:=0
def tw3192284393256548347:=0
def tw12324336852859142774:=0
def tw536324447032290526:=0
def tw17703501734051706399:=0
def tw13625720799064232295:=0
def tw14474304700644459436:=0
def tw7769646949288433947:=0
def tw7942532882578745725:=0
def tw2682960785541832568:=0
def tw215785038347518837:=0
def tw3491782936223383297:=0
def tw9396636154127851814:=0
def tw8923520174162956644:=0
def tw1040571678409836250:=0
def tw8969118255278817806:=0
def tw9021762502800373248:=0
def tw1970687589826390766:=0
def tw17925508204239509682:=0
def tw1027821508046803627:=0
def tw1789951848855556153:=0
def tw16182964405872075345:=0
def tw3410103969008396286:=0
end PySem.W.Fast
open PySem PySem.W PyProof.Rows
local macro_rules| `(tactic|walk_at "dn")=>`(tactic|(refine' L2.Dn.of (by assumption) (by assumption) ?a ?l ?c ?k ?b;(case a=>k_is);(case l=>k_is);(case c=>k_is);(case k=>k_is);(case b=>(repeat refine L2.lenS λ_=>?_);exact L2.Zhd λ_ _ _ _ _ _=>rfl)))
local macro_rules| `(tactic|walk_at "dm")=>`(tactic|(refine' L2.Dm.of ?a ?i ?l ?c ?k ?b;(case a=>k_is);(case i=>k_is);(case l=>k_is);(case c=>k_is);(case k=>k_is);(case b=>(repeat refine L2.lenS λ_=>?_);exact L2.Zhd λ_ _ _ _ _ _=>rfl)))
local macro_rules| `(tactic|walk_at "di")=>`(tactic|(refine' L2.Di.of ?z ?y ?a ?i ?l ?c ?k ?b;(case z=>k_is);(case y=>k_is);(case a=>k_is);(case i=>k_is);(case l=>k_is);(case c=>k_is);(case k=>k_is);(case b=>(repeat refine L2.lenS λ_=>?_);exact L2.Zhd λ_ _ _ _ _ _=>rfl)))
local macro_rules| `(tactic|walk_at "na")=>`(tactic|((repeat refine L2.ZiQ (by k_is) ?_);exact L2.ZjY))
local macro_rules| `(tactic|walk_at "ex")=>`(tactic|(refine' ⟨?g,mg_of (by assumption) (by assumption) ?m,?e⟩;(case g=>k_is);(case m=>k_is);(case e=>k_exc)))
local macro_rules| `(tactic|walk_at "xc")=>`(tactic|exact⟨L2.ZgY (show excIn _ _ [.type "ValueError",.type "Exception",.type "BaseException",.type "object"] "ValueError.__new__" =true by k_exc),by k_is,by k_is,by k_is,by k_is,by k_is,by k_is,by k_is⟩)
set_option maxRecDepth 100000 in
set_option maxHeartbeats 0 in
theorem PySem.Challenge.cw_ratehall_k27_mill_rows_holds : PySem.Challenge.rw_ratehall_k27_mill_rows.Holds := by
 w_on;o_law;k_head;(case hw=>w_witness2)
 k_fill
 refine Nm.walk (l:=PySem.Challenge.rw_ratehall_k27_mill_rows) rfl rfl rfl (λw h Y=>kIn_of Y) ?F
 case F=>
  intro w mg h ey G
  refine' ⟨Nm.Tp.mk (mg_of ey G ?Kc) ⟨?Kd,?Ke,?Kf,?Kg⟩ ?Kh (mg_of ey G ?Ki) ⟨?Kj,?Kk,?Kl,?Km⟩ ?Kn (mg_of ey G ?Ko) ⟨?Kq,?Kr,?Ks,?Kt⟩ ?Ku (mg_of ey G ?Kv) ⟨?Kw,?Kx,?Ky,?Kz⟩ ?KA ?KC ?KD ?KE ?KG ?KH ?KI ?KJ ?KL ?KN ?KO ?KP ?KQ ⟨?KR,?KS,?KU⟩ (L2.ZiC ?KW ?KX ?KY) (L2.ZjE ?KZ) ?K0 ?K1 (.cons ⟨_,rfl⟩ .nil) ?K2 ?K3 ?K4 ?K5 ?K6 ?K7 ?K8 ?K9 ?K_ ?K' ?La ?Lb ?Lc ?Ld ?Le ?Lf ?Lg ?Lh ?Li ?Lj ?Lk ?Ll ?Lm ?Ln ?Lo ?Lp ?Lq ?Lr ?Ls ?Lu ?Lv ?Lw ?Lx ?Ly ?Lz ?LA ?LB ?LC ?LD ?LF ?LG ?LH (mg_none_of ey G ?LI) (mg_none_of ey G ?LJ) (mg_none_of ey G ?LK) (mg_none_of ey G ?LM) (mg_none_of ey G ?LN) (mg_none_of ey G ?LO) (mg_none_of ey G ?LP) (mg_none_of ey G ?LQ) (mg_none_of ey G ?LR) (mg_none_of ey G ?LS) (mg_none_of ey G ?LU) (mg_none_of ey G ?LV) (mg_none_of ey G ?LW) (mg_none_of ey G ?LX) ?LY ?LZ ?L0 ?L1 ?L3 ?L4 ?L5 ?L6 ?L7 ?L8 ?L9 ?L_ ?L' ?Ma ?Mb ?Mc ?Md ?Me ?Mf ?Mg ?Mh ?Mi ?Mj ?Ml ?Mm ?Mn ?Mo ?Mp ?Mq ?Mr ?Ms ?Mt ?Mu ?Mv ?Mw ?Mx ?Mz ?MA ?MB ?MC ?MD ?ME ?MF ?MG ?MH ?MI ?MJ ?MK ?ML ?MN ?MO ?MP ?MQ ?MR ?MS ?MT ?MU ?MV ?MW ?MX ?MY ?MZ ?M0 ?M3 ?M4 ?M5 ?M6 ?M7 ?M8 ?M9 ?M_ ?M' ?Na ?Nb (mg_of ey G ?Nc) (mg_of ey G ?Nd) (mg_of ey G ?Nf) ?Ng,trivial⟩
  case Kc|Kd|Ke|Kf|Kg=>k_is
  case Kh=>walk_at "na"
  case Ki|Kj|Kk|Kl|Km=>k_is
  case Kn=>walk_at "na"
  case Ko|Kq|Kr|Ks|Kt=>k_is
  case Ku=>walk_at "na"
  case Kv|Kw|Kx|Ky|Kz=>k_is
  case KA=>walk_at "na"
  case KC|KD|KE|KG|KH=>walk_at "dn"
  case KI=>walk_at "dm"
  case KJ|KL|KN|KO=>walk_at "dn"
  case KP|KQ=>walk_at "dm"
  case KR|KS|KU|KW|KX|KY|KZ=>k_is
  case K0=>exact λs us X ai=>(match us,(show us.length=6 by simpa using ai) with| [_,_,_,_,_,_],_=>binds_K X rfl (by k_is) rfl rfl rfl)
  case K1=>exact λs us X ai=>(match us,(show us.length=5 by simpa using ai) with| [_,_,_,_,_],_=>binds_K X rfl (by k_is) rfl rfl rfl)
  case K2=>walk_at "di"
  case K3|K4=>walk_at "dn"
  case K5|K6|K7=>walk_at "dm"
  case K8|K9=>walk_at "dn"
  case K_=>walk_at "dm"
  case K'|La=>walk_at "dn"
  case Lb=>walk_at "dm"
  case Lc=>walk_at "dn"
  case Ld=>walk_at "dm"
  case Le|Lf=>walk_at "dn"
  case Lg|Lh|Li=>walk_at "di"
  case Lj|Lk|Ll|Lm|Ln|Lo|Lp|Lq=>walk_at "dn"
  case Lr|Ls=>walk_at "dm"
  case Lu=>walk_at "dn"
  case Lv|Lw|Lx|Ly|Lz=>walk_at "dm"
  case LA|LB|LC|LD=>walk_at "dn"
  case LF|LG=>walk_at "dm"
  case LH=>walk_at "dn"
  case LI|LJ|LK|LM|LN|LO|LP|LQ|LR|LS|LU|LV|LW|LX=>k_is
  case LY|LZ|L0|L1|L3|L4|L5|L6|L7|L8=>walk_at "ex"
  case L9|L_|L'|Ma|Mb|Mc|Md|Me|Mf|Mg=>kts_exm
  case Mh|Mi|Mj|Ml|Mm|Mn|Mo|Mp|Mq=>walk_at "xc"
  case Mr|Ms|Mt|Mu|Mv|Mw|Mx|Mz|MA|MB|MC|MD|ME|MF|MG|MH|MI|MJ|MK|ML|MN|MO|MP|MQ|MR|MS|MT|MU|MV|MW|MX|MY|MZ|M0|M3|M4|M5|M6|M7|M8|M9|M_|M'|Na|Nb=>kit_is
  case Nc|Nd|Nf=>k_is
  case Ng=>exact λs v=> .of_eq rfl
#print axioms PySem.Challenge.cw_ratehall_k27_mill_rows_holds
