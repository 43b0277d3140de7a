import PyProof.Rows.All
import Wide.All
import OpenK.AllK
import Wide.FinOn
import Lean
import PyProof.EqAt
import PyProof.EqKinds
import PyProof.TupleCall
import PySem.Challenge.RW_ratehall_k28_boxes_and_code_run
set_option maxHeartbeats 4000000
set_option compiler.extract_closed false
set_option bootstrap.genMatcherCode false
local macro_rules| `(tactic|omega)=>`(tactic|with_reducible first|exact Int.natCast_nonneg _|lia|fail)
set_option Elab.async false
set_option linter.all false
set_option maxRecDepth 100000
open PySem.W (instObj methodObj hideAll hideAll_get of_hideAll lookIn plainGet hasDictIn handedIn plainGet_of isFn plainOver takerIn makesIn typeIn emptyDict keepIn methodCall_KW kitx_list kitx_dict callWith_K callWith_K0 cellsFrom_some fnOf codeIn codeRec_of nsIn excIn mg_of exmOne kIn_of mg_none_of binds_K)
abbrev Qa:=@List.length_map
abbrev Qb:=@Nat.le_refl
abbrev Qc:=@List.size_toArray
abbrev Qd:=@Bool.false_ne_true
abbrev Qe:=@PySem.F.plainAttrs_list
abbrev Qf:=@PySem.F.slot_list_append
abbrev Qg:=@PySem.F.type_list_append
abbrev Qh:=@List.length_append
abbrev Qi:=@PyProof.Rows.boot_list
abbrev Qj:=@Nat.lt_of_lt_of_le
abbrev Qk:=@PySem.boot_len
abbrev Ql:=@PyProof.Rows.boot_isinstance
abbrev Qm:=@Nat.ne_of_lt
abbrev Qn:=@List.getElem_mem
abbrev Qo:=@List.take_succ_eq_append_getElem
abbrev Qp:=@List.mem_append_right
abbrev Qq:=@List.getElem?_eq_getElem
abbrev Qr:=@PySem.F.excBase_ValueError
abbrev Qs:=@Nat.zero_le
abbrev Qt:=@Option.some.inj
abbrev Qu:=@List.mem_cons
abbrev Qv:=@Nat.le_trans
abbrev Qw:=@List.getElem?_eq_some_iff
abbrev Qx:=@List.filter_eq_self
abbrev Qy:=@List.length_replicate
abbrev Qz:=@Int.eq_ofNat_of_zero_le
abbrev QA:=@Int.emod_lt_of_pos
abbrev QB:=@List.lookup_cons
abbrev QC:=@List.replicate_succ
abbrev QD:=@Nat.le_of_ble_eq_true
abbrev QE:=@List.mem_cons_of_mem
abbrev QF:=@List.mem_singleton
abbrev QG:=@List.mem_append
abbrev QH:=@PySem.W.kia_one
abbrev QI:=@Int.emod_nonneg
abbrev QJ:=@Nat.le_of_lt
abbrev QK:=@List.map_append
abbrev QL:=@Nat.lt_irrefl
abbrev QM:=@List.getElem?_map
abbrev QN:=@PySem.mem_of_lookup
abbrev QO:=@Bool.and_eq_true
abbrev QP:=@List.getElem?_append_right
abbrev QQ:=@Bool.eq_iff_iff
abbrev QR:=@List.length_set
abbrev QS:=@List.flatten_cons
abbrev QT:=@List.append_assoc
abbrev QU:=@PyProof.Rows.slot_tuple_getitem
abbrev QV:=@List.all_eq_true
abbrev QW:=@List.mem_cons_self
abbrev QX:=@List.getElem?_set_self
abbrev QY:=@List.take_of_length_le
abbrev QZ:=@List.append_nil
abbrev Q0:=@List.find?_cons
abbrev Q1:=@List.length_singleton
abbrev Q2:=@PyProof.Rows.callWith_type1
abbrev Q3:=@Int.fmod_eq_emod_of_nonneg
abbrev Q4:=@List.mem_of_getElem?
abbrev Q5:=@Nat.pow_le_pow_right
abbrev Q6:=@List.not_mem_nil
abbrev Q7:=@List.getElem?_append_left
abbrev Q8:=@Option.isSome_iff_exists
abbrev Q9:=@Nat.lt_of_le_of_lt
abbrev Ja:=@List.mem_range
abbrev Jb:=@Nat.lt_succ_of_lt
abbrev Jc:=@PyProof.Rows.boot_all
abbrev Jd:=@PyProof.Rows.boot_int
abbrev Je:=@PyProof.Rows.boot_sum
abbrev Jf:=@List.length_take
abbrev Jg:=@List.length_drop
abbrev Jh:=@List.ext_getElem
abbrev Ji:=@List.take_length
abbrev Jj:=@Ne.symm
abbrev Jk:=@List.mem_append_left
abbrev Jl:=@List.getElem?_set_ne
abbrev Jm:=@List.nodup_cons
abbrev Jn:=@List.of_mem_zip
abbrev Jo:=@List.range_succ
abbrev Jp:=@Nat.lt_or_ge
abbrev Jq:=@List.mem_map
abbrev Jr:=@Int.zero_add
open PySem.W (Frag)
namespace L2
open PySem PySem.Spec PyProof.Rows
noncomputable abbrev Key:=Sum Int Str
noncomputable def jc:Key→Value→Bool
 | .inl k,v=>Value.isInt k v
 | .inr x,v=>Value.isStrOf x v
noncomputable def Zg7 (w:World):Key→Int
 | .inl k=>hashInt k
 | .inr x=>hashStr w x
theorem g9:∀{k:Key}{v:Value},jc k v=true→(∃i t,k=Sum.inl i∧v=Value.int i t)∨(∃x t,k=Sum.inr x∧v=Value.str x t)
 | .inl i,v,h=>by
  obtain⟨t,e⟩:=Value.isInt_shape (k:=i) (v:=v) h;exact .inl ⟨i,t,rfl,e⟩
 | .inr x,v,h=>by
  obtain⟨t,e⟩:=Value.isStrOf_shape (x:=x) (v:=v) h;exact .inr ⟨x,t,rfl,e⟩
theorem Zdz(i:Int)(t:Tok):jc (.inl i) (.int i t)=true:=by simp[jc,Value.isInt]
theorem ZdD(x:Str)(t:Tok):jc (.inr x) (.str x t)=true:=by simp[jc,Value.isStrOf]
theorem Zgx(a b:Int):decide ((Sum.inl a:Key)=Sum.inl b)=(a==b):=by
 by_cases e:a=b
 ·subst e;simp
 ·have h:¬(Sum.inl a:Key)=Sum.inl b:=λq=>e (Sum.inl.inj q);rw[decide_eq_false h];exact(beq_eq_false_iff_ne.mpr e).symm
theorem ZfV(a b:Str):decide ((Sum.inr a:Key)=Sum.inr b)=decide (a=b):=by
 by_cases e:a=b
 ·subst e;simp
 ·have h:¬(Sum.inr a:Key)=Sum.inr b:=λq=>e (Sum.inr.inj q);rw[decide_eq_false h,decide_eq_false e]
theorem ZfD(a:Int)(b:Str):decide ((Sum.inl a:Key)=Sum.inr b)=false:=decide_eq_false (λq=>nomatch q)
theorem ZfB(a:Str)(b:Int):decide ((Sum.inr a:Key)=Sum.inl b)=false:=decide_eq_false (λq=>nomatch q)
noncomputable def fo (prog:Program) (w:World):PySem.KeyKind prog w Key where
 is:=jc
 hash:=Zg7 w
 inj:=λv a b a2 ao=>by
  rcases g9 a2 with⟨i,t,rfl,rfl⟩|⟨x,t,rfl,rfl⟩
  ·rcases g9 ao with⟨j,u,rfl,e⟩|⟨y,u,rfl,e⟩
   ·injection e with bu _;rw[bu]
   ·exact nomatch e
  ·rcases g9 ao with⟨j,u,rfl,e⟩|⟨y,u,rfl,e⟩
   ·exact nomatch e
   ·injection e with bu _;rw[bu]
 byValue:=λk v h=>by
  rcases g9 h with⟨i,t,rfl,rfl⟩|⟨x,t,rfl,rfl⟩<;>rfl
 pyHash:=λb9 h=>by
  rcases g9 b9 with⟨i,t,rfl,rfl⟩|⟨x,t,rfl,rfl⟩
  ·exact wpAny_pyHash_int h
  ·exact wpAny_pyHash_str h
 eqBool:=λhu b9 h=>by
  rcases g9 hu with⟨i,t,rfl,rfl⟩|⟨x,t,rfl,rfl⟩
  ·rcases g9 b9 with⟨j,u,rfl,rfl⟩|⟨y,u,rfl,rfl⟩
   ·rw[Zgx] at h;exact wpAny_eqBool_int h
   ·rw[ZfD] at h;exact SeqAt.EqAt.int_str i t y u _ _ _ _ h
  ·rcases g9 b9 with⟨j,u,rfl,rfl⟩|⟨y,u,rfl,rfl⟩
   ·rw[ZfB] at h;exact SeqAt.EqAt.str_int x t j u _ _ _ _ h
   ·rw[ZfV] at h;exact wpAny_eqBool_str h
 «strs»:=λk x t v h=>by
  rcases g9 h with⟨i,u,rfl,e⟩|⟨y,u,rfl,e⟩
  ·exact nomatch e
  ·injection e with bu _
   subst bu;cases v<;>rfl
theorem ZbK(prog:Program)(w:World)(i:Int)(t:Tok):(fo prog w).is (.inl i) (.int i t)=true:=Zdz i t
theorem ZbU(prog:Program)(w:World)(x:Str)(t:Tok):(fo prog w).is (.inr x) (.str x t)=true:=ZdD x t
inductive V where
 |non|bl (b:Bool)|int (i:Int)|str (x:Str)|byt (b:Array UInt8)|flt (b:UInt64)|ref (a:Addr)|ty (n:String)
 deriving DecidableEq
noncomputable def b5:V→Value→Prop
 | .non,u=>u=Value.none
 | .bl b,u=>u=Value.bool b
 | .int i,u=>∃t,u=Value.int i t
 | .str x,u=>∃t,u=Value.str x t
 | .byt b,u=>∃t,u=Value.bytes b t
 | .flt b,u=>∃t,u=Value.float b t
 | .ref a,u=>u=Value.ref a
 | .ty n,u=>u=Value.type n
noncomputable abbrev bS:List V→List Value→Prop:=Paired b5
theorem bS.length{xs:List V}{us:List Value}(r:bS xs us):xs.length=us.length:=Paired.length r
theorem bS.get:∀{xs:List V}{us:List Value}{i:Nat}{x:V},bS xs us→xs[i]? =some x→∃u,us[i]? =some u∧b5 x u
 |_,_,_,_,.nil,e=>by simp at e
 |_,_,0,_,.cons r _,e=>by simp at e;subst e;exact⟨_,rfl,r⟩
 |_,_,i+1,x,.cons _ t,e=>by
  obtain⟨u,aB,aC⟩:=bS.get (i:=i) (x:=x) t (by simpa using e);exact⟨u,by simpa using aB,aC⟩
theorem bS.set{x:V}{u:Value}(r:b5 x u):∀{xs:List V}{us:List Value}(i:Nat),bS xs us→bS (xs.set i x) (us.set i u)
 |_,_,_,.nil=> .nil
 |_,_,0,.cons _ t=> .cons r t
 |_,_,i+1,.cons q t=> .cons q (bS.set r i t)
theorem bS.append:∀{xs ys:List V}{us et:List Value},bS xs us→bS ys et→bS (xs++ys) (us++et)
 |_,_,_,_,.nil,s=>s
 |_,_,_,_,.cons r t,s=> .cons r (bS.append t s)
theorem bS.take:∀{xs:List V}{us:List Value}(n:Nat),bS xs us→bS (xs.take n) (us.take n)
 |_,_,0,_=> .nil
 |_,_,_+1,.nil=> .nil
 |_,_,n+1,.cons r t=> .cons r (bS.take n t)
theorem bS.drop:∀{xs:List V}{us:List Value}(n:Nat),bS xs us→bS (xs.drop n) (us.drop n)
 |_,_,0,r=>r
 |_,_,_+1,.nil=> .nil
 |_,_,n+1,.cons _ t=>bS.drop n t
noncomputable def fq:Option V→Option Value→Prop
 |some v,some u=>b5 v u
 |none,none=>True
 |_,_=>False
noncomputable def KV {cC:Type}:List (cC×V)→List (cC×Value)→Prop:=Paired λ(p:cC×V) (q:cC×Value)=>p.1=q.1∧b5 p.2 q.2
noncomputable def kV:Key→V
 | .inl i=> .int i
 | .inr x=> .str x
inductive HO where
 |lst (xs:List V)
 |tup (xs:List V)
 |dK (aP:List (Key×V))|dT (aP:List (List Key×V))
 |set (S:Int→Bool) (n:Nat)
 |ins (C aO:Addr) (fs:List (Str×V))
 |own (x:Addr)
 |xd (fs:List (Str×V))
 |met (f x:Addr)
 |rng (lo hi:Int)
 |frz (o:Obj) (u:HO)
 |tbl (a_:Array Value)
 |ext (iw:Heap→Prop)
noncomputable abbrev Hp:=Addr→Option HO
noncomputable def upd (H:Hp) (a:Addr) (o:HO):Hp:=λb=>if b=a then some o else H b
theorem Ze{H:Hp}{a:Addr}{o:HO}:upd H a o a=some o:=by unfold upd;rw[if_pos rfl]
theorem bV{H:Hp}{a b:Addr}{o:HO}(h:b≠a):upd H a o b=H b:=by unfold upd;rw[if_neg h]
theorem hS{H:Hp}{a b:Addr}{o u:HO}(h:H a=some o)(h':H b=some u)(d:o≠u):a≠b:=by
 intro e;subst e;rw[h] at h';exact d (Qt h')
theorem c8{H:Hp}{a b:Addr}{o:HO}(h:H a=some o)(h':H b=none):a≠b:=by
 intro e;subst e;rw[h] at h';cases h'
section
variable (P:Program)(w:World)
noncomputable def ZI (H:Hp) (h:Heap) (a:Addr):HO→Prop
 | .lst xs=>xs.length≤sizeLine∧∃(its:List Value)(n:Nat),bS xs its∧h.get? a=some {cls:= .type "list",data:= .seq its.toArray n}
 | .tup xs=>xs.length≤sizeLine∧∃its:List Value,bS xs its∧IsTup h a its.toArray
 | .dK aP=>aP.length≤sizeLine∧(a==sysModules)=false∧∃vs,KV aP vs∧h.DictOf (fo P w) a vs
 | .dT aP=>aP.length≤sizeLine∧(a==sysModules)=false∧∃xs:List (List Key×Addr×Value),
   Paired (λ(p:List Key×V) (q:List Key×Addr×Value)=>p.1=q.1∧H q.2.1=some (.tup (p.1.map kV))∧b5 p.2 q.2.2) aP xs∧
   ∃o bp c9,h.get? a=some o∧o.ExactDict∧o.data= .dict bp c9∧bp.toList=xs.map (entryOfKey (tupleKind (fo P w)))∧(xs.map (·.1)).Nodup
 | .set S n=>h.SetOf (intKind P w) a S n
 | .ins C aO fs=>H aO=some (.own a)∧fs.length≤1000∧aO≠a∧h.get? a=some (instObj C aO)∧
   ∃cN,h.Ns1 aO cN∧(∀f,fq (fs.lookup f) (cN f))∧PySem.Within cN (fs.map (·.1))
 | .own _=>∃o,h.get? a=some o
 | .xd fs=>∃cN,h.Ns1 a cN∧∀f,fq (fs.lookup f) (cN f)
 | .rng lo hi=>∃t u v,h.get? a=some {cls:= .type "range",data:= .fields #[.int lo t,.int hi u,.int 1 v]}
 | .frz o u=>h.get? a=some o∧ZI H h a u
 | .tbl a_=>h.get? a=some {cls:= .none,data:= .fields a_}
 | .met f x=>h.get? a=some (methodObj (.ref f) (.ref x))
 | .ext iw=>iw h∧(∃o,h.get? a=some o)∧∀aB aC:Heap,iw aB→(∀o,aB.get? a=some o→aC.get? a=some o)→iw aC
def HOk(H:Hp)(h:Heap):Prop:=∀a o,H a=some o→ZI P w H h a o
end
section
variable {P:Program}{w:World}{H H':Hp}{h h':Heap}{a:Addr}{o:HO}
theorem ZI.lt(x:ZI P w H h a o):a<h.objs.size:=by
 cases o with
 |lst xs=>obtain⟨_,_,_,_,e⟩:=x;exact Heap.lt_size e
 |tup xs=>obtain⟨_,_,_,p⟩:=x;exact p.lt
 |dK aP=>obtain⟨_,_,_,_,o,_,_,e,_⟩:=x;exact Heap.lt_size e
 |dT aP=>obtain⟨_,_,_,_,o,_,_,e,_⟩:=x;exact Heap.lt_size e
 |set S n=>obtain⟨o,_,_,_,e,_⟩:=x;exact Heap.lt_size e
 |ins C aO fs=>obtain⟨_,_,_,e,_⟩:=x;exact Heap.lt_size e
 |own y=>obtain⟨_,e⟩:=x;exact Heap.lt_size e
 |xd fs=>obtain⟨_,⟨_,_,_,e,_⟩,_⟩:=x;exact Heap.lt_size e
 |rng lo hi=>obtain⟨_,_,_,e⟩:=x;exact Heap.lt_size e
 |frz b' u=>obtain⟨e,_⟩:=x;exact Heap.lt_size e
 |tbl a_=>exact Heap.lt_size (show h.get? a=some _ from x)
 |met f y=>exact Heap.lt_size (show h.get? a=some _ from x)
 |ext iw=>obtain⟨_,⟨_,e⟩,_⟩:=x;exact Heap.lt_size e
theorem Paired.mapP{cm gQ:Type}{F G:cm→gQ→Prop}:∀{ps:List cm}{pu:List gQ},Paired F ps pu→(∀a b,F a b→G a b)→Paired G ps pu
 |_,_,.nil,_=> .nil
 |_,_,.cons r t,f=> .cons (f _ _ r) (Paired.mapP t f)
theorem ZI.stay(x:ZI P w H h a o)(k:∀b u,(b=a∨H b=some (.own a))→h.get? b=some u→h'.get? b=some u)
  (a3:∀b,H b=some (.own a)→H' b=some (.own a)) (bM:∀b xs,H b=some (.tup xs)→H' b=some (.tup xs)):ZI P w H' h' a o:=by
 induction o with
 |lst xs=>obtain⟨z,its,n,r,e⟩:=x;exact⟨z,its,n,r,k _ _ (.inl rfl) e⟩
 |tup xs=>obtain⟨z,its,r,b',e,c⟩:=x;exact⟨z,its,r,b',k _ _ (.inl rfl) e,c⟩
 |dK aP=>obtain⟨z,y,vs,r,b',bp,c9,e,c⟩:=x;exact⟨z,y,vs,r,b',bp,c9,k _ _ (.inl rfl) e,c⟩
 |dT aP=>
  obtain⟨z,y,xs,r,b',bp,c9,e,c⟩:=x;exact⟨z,y,xs,Paired.mapP r λp q z=>⟨z.1,bM _ _ z.2.1,z.2.2⟩,b',bp,c9,k _ _ (.inl rfl) e,c⟩
 |set S n=>obtain⟨b',bp,c9,t,e,c⟩:=x;exact⟨b',bp,c9,t,k _ _ (.inl rfl) e,c⟩
 |ins C aO fs=>
  obtain⟨d,z,ne,e,cN,⟨cG,bp,c9,bJ,c⟩,r⟩:=x;exact⟨a3 _ d,z,ne,k _ _ (.inl rfl) e,cN,⟨cG,bp,c9,k _ _ (.inr d) bJ,c⟩,r⟩
 |own y=>obtain⟨b',e⟩:=x;exact⟨b',k _ _ (.inl rfl) e⟩
 |xd fs=>obtain⟨cN,⟨cG,bp,c9,e,c⟩,r⟩:=x;exact⟨cN,⟨cG,bp,c9,k _ _ (.inl rfl) e,c⟩,r⟩
 |rng lo hi=>obtain⟨t,u,v,e⟩:=x;exact⟨t,u,v,k _ _ (.inl rfl) e⟩
 |frz b' u b0=>obtain⟨e,q⟩:=x;exact⟨k _ _ (.inl rfl) e,b0 q⟩
 |tbl a_=>
  have e:h.get? a=some {cls:= .none,data:= .fields a_}:=x;show h'.get? a=some {cls:= .none,data:= .fields a_};exact k a _ (.inl rfl) e
 |met f y=>
  have e:h.get? a=some (methodObj (.ref f) (.ref y)):=x;show h'.get? a=some (methodObj (.ref f) (.ref y));exact k a _ (.inl rfl) e
 |ext iw=>obtain⟨p,⟨o,e⟩,st⟩:=x;exact⟨st _ _ p λo q=>k _ _ (.inl rfl) q,⟨o,k _ _ (.inl rfl) e⟩,st⟩
theorem HOk.lt(x:HOk P w H h)(e:H a=some o):a<h.objs.size:=(x a o e).lt
theorem HOk.fresh(x:HOk P w H h)(e:h.objs.size≤a):H a=none:=by
 cases q:H a with
 |none=>rfl
 |some u=>exact absurd (Qj (x.lt q) e) (QL _)
theorem HOk.kept(x:HOk P w H h)(k:∀b u,h.get? b=some u→h'.get? b=some u):HOk P w H h':=λa o e=>
 (x a o e).stay (λb u _ q=>k b u q) (λ_ q=>q) λ_ _ q=>q
theorem HOk.laid(x:HOk P w H h)(k:∀b u,h.get? b=some u→h'.get? b=some u)(bo:h.objs.size≤a)(new:ZI P w (upd H a o) h' a o):HOk P w (upd H a o) h':=λb u e=>by
 have br:=x.fresh bo
 by_cases ao:b=a
 ·subst ao;rw[Ze] at e;cases e;exact new
 ·rw[bV ao] at e;exact(x b u e).stay (λc v _ q=>k c v q) (λc q=>by rw[bV (c8 q br)];exact q) λc xs q=>by rw[bV (c8 q br)];exact q
end
def Rd(H:Hp)(a:Addr)(u:HO):Prop:=H a=some u∨∃o,H a=some (.frz o u)
theorem Rd.ok{P:Program}{w:World}{H:Hp}{h:Heap}{a:Addr}{u:HO}(r:Rd H a u)(x:HOk P w H h):ZI P w H h a u:=by
 rcases r with r|⟨o,r⟩
 ·exact x a u r
 ·obtain⟨_,q⟩:=x a _ r;exact q
noncomputable def Mut:Option HO→Prop
 |some (.lst _)=>True
 |some (.dK _)=>True
 |some (.dT _)=>True
 |some (.set _ _)=>True
 |some (.ins _ _ _)=>True
 |some (.ext _)=>True
 |_=>False
section
variable {P:Program}{w:World}{H:Hp}{h h':Heap}{x e:Addr}{b2:HO}
theorem HOk.write(ok:HOk P w H h)(fr:Mut (H x))(bF:e=x∨H e=some (.own x))(k:∀b u,b≠e→h.get? b=some u→h'.get? b=some u)(g_:∃u,h'.get? e=some u)
  (new:ZI P w (upd H x b2) h' x b2):HOk P w (upd H x b2) h':=λb u q=>by
 have pw:∀c y,H c=some (.own y)→c≠x:=λc y r z=>by subst z;rw[r] at fr;exact fr
 have sT:∀c xs,H c=some (.tup xs)→c≠x:=λc xs r z=>by subst z;rw[r] at fr;exact fr
 by_cases ao:b=x
 ·subst ao;rw[Ze] at q;cases q;exact new
 ·rw[bV ao] at q
  by_cases iy:b=e
  ·have ej:H b=some (.own x):=by
    rcases bF with z|z
    ·exact absurd (iy.trans z) ao
    ·rw[iy];exact z
   rw[q] at ej;cases ej;obtain⟨v,b9⟩:=g_;exact⟨v,by rw[iy];exact b9⟩
  ·refine(ok b u q).stay (λc v aw r=>k c v ?_ r) (λc r=>by rw[bV (pw c b r)];exact r) λc xs r=>by rw[bV (sT c xs r)];exact r
   rcases aw with rfl|aw
   ·exact iy
   ·rintro rfl;rcases bF with z|z
    ·exact pw c b aw z
    ·rw[aw] at z;cases z;exact ao rfl
end
structure Un(fs ex:List Addr)(H H':Hp)(h h':Heap):Prop where
 keep:∀b o,h.get? b=some o→H b=none→b∉fs→b∉ex→h'.get? b=some o
 slot:∀b o,h.get? b=some o→H b=none→b∈fs→b∉ex→∃sl,h'.get? b=some {o with slots:=sl}
 free:∀b o,h.get? b=some o→H b=none→b∉ex→H' b=none
 there:∀b o,h.get? b=some o→b∉ex→∃b2,h'.get? b=some b2
 tups:∀b xs,H b=some (.tup xs)→H' b=some (.tup xs)
 frzs:∀b o u,H b=some (.frz o u)→H' b=some (.frz o u)
 tbls:∀b a_,H b=some (.tbl a_)→∃more,H' b=some (.tbl (a_++more))
section
variable {fs kZ ex Bb:List Addr}{H aq ar:Hp}{h aB aC h':Heap}{a x e:Addr}{o:HO}
theorem Un.any(u:Un fs ex H aq h aB){b:Addr}{b':Obj}(q:h.get? b=some b')(n:H b=none)(ax:b∉ex):∃sl,aB.get? b=some {b' with slots:=sl}:=by
 by_cases ao:b∈fs
 ·exact u.slot b b' q n ao ax
 ·exact⟨b'.slots,u.keep b b' q n ao ax⟩
theorem Un.kept(k:∀b u,h.get? b=some u→h'.get? b=some u):Un fs ex H H h h':=
 ⟨λb b' q _ _ _=>k b b' q,λb b' q _ _ _=>⟨b'.slots,k b b' q⟩,λ_ _ _ n _=>n,λb b' q _=>⟨b',k b b' q⟩,λ_ _ q=>q,λ_ _ _ q=>q,λ_ a_ q=>⟨#[],by rw[q];simp⟩⟩
theorem Un.refl:Un fs ex H H h h:=Un.kept λ_ _ q=>q
theorem Un.laid(k:∀b u,h.get? b=some u→h'.get? b=some u)(bo:h.objs.size≤a)(br:H a=none):Un fs ex H (upd H a o) h h' where
 keep:=λb u q _ _ _=>k b u q
 slot:=λb u q _ _ _=>⟨u.slots,k b u q⟩
 free:=λb u q n _=>by rw[bV (Qm (Qj (Heap.lt_size q) bo))];exact n
 there:=λb u q _=>⟨u,k b u q⟩
 tups:=λb xs q=>by rw[bV (c8 q br)];exact q
 frzs:=λb u xs q=>by rw[bV (c8 q br)];exact q
 tbls:=λb a_ q=>⟨#[],by rw[bV (c8 q br),q];simp⟩
theorem Un.write(fr:Mut (H x))(bF:e=x∨H e=some (.own x))(k:∀b u,b≠e→h.get? b=some u→h'.get? b=some u)(g_:∃u,h'.get? e=some u):Un fs ex H (upd H x o) h h':=by
 have ax:∀b,H b=none→b≠x:=λb n z=>by subst z;rw[n] at fr;exact fr
 have ao:∀b,H b=none→b≠e:=λb n z=>by
  subst z;rcases bF with r|r
  ·exact ax b n r
  ·rw[n] at r;cases r
 have bq:∀b u,H b=some u→¬Mut (some u)→b≠x:=λb u q nm z=>by subst z;rw[q] at fr;exact nm fr
 refine⟨λb u q n _ _=>k b u (ao b n) q,λb u q n _ _=>⟨u.slots,k b u (ao b n) q⟩,λb u q n _=>by rw[bV (ax b n)];exact n,λb u q _=>?_,
  λb xs q=>by rw[bV (bq b _ q λz=>z)];exact q,λb u xs q=>by rw[bV (bq b _ q λz=>z)];exact q,λb a_ q=>⟨#[],by rw[bV (bq b _ q λz=>z),q];simp⟩⟩
 by_cases iy:b=e
 ·subst iy;exact g_
 ·exact⟨u,k b u iy q⟩
end
noncomputable def trk (h:Heap) (H:Hp):List Addr:=(List.range h.objs.size).filter λa=>(H a).isSome
noncomputable def ha (h:Heap) (H:Hp):Heap:=hideAll h (trk h H)
theorem sU(h:Heap)(H:Hp):(ha h H).objs.size=h.objs.size:=PySem.W.hideAll_size _ _
theorem ZdY{h:Heap}{H:Hp}{b:Addr}{o:Obj}(e:h.get? b=some o)(n:H b=none):(ha h H).get? b=some o:=
 hideAll_get _ e λbq=>by
  have q:(H b).isSome=true:=(List.mem_filter.mp bq).2;rw[n] at q;simp at q
theorem Ze1{h:Heap}{H:Hp}{b:Addr}{o:Obj}(e:(ha h H).get? b=some o):h.get? b=some o∧H b=none:=by
 have bH:h.get? b=some o:=of_hideAll (trk h H) e;refine⟨bH,?_⟩;cases q:H b with
 |none=>rfl
 |some x=>
  have bq:b∈trk h H:=List.mem_filter.mpr ⟨Ja.mpr (Heap.lt_size bH),by simp[q]⟩;have z:(ha h H).get? b=none:=PySem.W.hideAll_none (trk h H) bq;rw[z] at e;cases e
structure Mod(K:Frag)(mg:Str→Option Value)(base:Heap):Prop where
 kin:K.In base
 glob:base.Ns mainGlobals mg
 blt:∃fU,base.Ns builtinsNs fU∧∀x:Str,x≠"__name__" →fU x=bootBuiltins x
 nolimit:base.NoLimit
structure Cx where
 prog:Program
 w:World
 K:Frag
 mg:Str→Option Value
 base:Heap
 A:Around
 N:List Str
 s₀:Shared
 H₀:Hp
 env:Env
 outer:List Env
 stack:List Env
 ex:List Addr
 fn:Str→Bool
 calm:Bool
 pn:List (Addr×Obj)
 xe:Value→Shared→Prop
noncomputable def frs (l:List Env):List Addr:=l.filterMap (·.frame)
noncomputable abbrev Cx.fs (X:Cx):List Addr:=frs X.outer
def Vis(bn:Scope)(x:Str):Prop:=bn.names.lookup x=some .local∨bn.names.lookup x=some .cell∨bn.names.lookup x=some .free
def Loc(bn:Scope)(x:Str):Prop:=bn.names.lookup x=some .local∨bn.names.lookup x=some .cell
def Zfx(env:Env)(h:Heap)(m:Str→Option Value)(x:Str)(u:Value):Prop:=
 (env.kindOf x=some .local∧m x=some u)∨((env.kindOf x=some .cell∨env.kindOf x=some .free)∧∃c,env.cells.lookup x=some c∧h.IsCell c (some u))
structure Cx.Ok(X:Cx):Prop where
 mod:Mod X.K X.mg X.base
 kind:X.env.scope.kind= .function
 glob:X.env.globals=mainGlobals
 blt:X.env.builtins=builtinsNs
 above:X.s₀.heap.objs.size≤X.env.locals
 inj:∀x y c,X.env.cells.lookup x=some c→X.env.cells.lookup y=some c→x=y
 has:∀x,(X.env.kindOf x=some .cell∨X.env.kindOf x=some .free)→∃c,X.env.cells.lookup x=some c
 cab:∀x c,X.fn x=true→X.env.cells.lookup x=some c→X.s₀.heap.objs.size≤c
 hd:X.calm=true→X.A.handled=none
 frames:X.A.frames=some X.stack
 stk:X.stack=X.outer∨(X.stack=X.env::X.outer∧X.env.frame=some X.env.locals)
 exf:∀b∈X.ex,b≠X.env.locals∧∀x c,X.env.cells.lookup x=some c→c≠b
 bs:∀b o,X.base.get? b=some o→X.s₀.heap.get? b=some o∧X.H₀ b=none
 bsz:X.base.objs.size≤X.s₀.heap.objs.size
 noex:∀b o,X.base.get? b=some o→b∉X.ex
 exfs:∀b∈X.ex,b∉X.fs
 funs:X.s₀.heap.FunFrames X.base X.outer
 frf:∀b∈X.fs,X.H₀ b=none
structure Inv(X:Cx)(am:List (Addr×Obj))(σ:List (Option V))(H:Hp)(s:Shared):Prop where
 ok:X.Ok
 os:s.os=X.s₀.os
 bare:AllBare s.gens
 base:Un X.fs X.ex X.H₀ H X.s₀.heap s.heap
 loc:∃m,s.heap.Ns X.env.locals m∧∀(i:Nat)(x:Str)(v:V),X.N[i]? =some x→σ[i]? =some (some v)→Vis X.env.scope x→∃u,b5 v u∧Zfx X.env s.heap m x u
 cell:∀x c,X.env.cells.lookup x=some c→∃v,s.heap.IsCell c v
 free:H X.env.locals=none
 freeC:∀x c,X.env.cells.lookup x=some c→H c=none
 pin:∀p∈X.pn++am,s.heap.get? p.1=some p.2∧H p.1=none∧p.1≠X.env.locals∧p.1∉X.fs∧∀v,p.2.data≠ .cell v
 hok:HOk X.prog X.w H s.heap
 len:σ.length=X.N.length
section
variable {X:Cx}{am:List (Addr×Obj)}{σ:List (Option V)}{H H':Hp}{s:Shared}{h':Heap}
theorem Cx.Ok.nofr(ok:X.Ok){b:Addr}{o:Obj}(e:X.base.get? b=some o):b∉X.fs:=λao=>by
 have:=(ok.funs.mem ao).1;rw[e] at this;cases this
theorem Inv.bs(I:Inv X am σ H s):∀b o,X.base.get? b=some o→s.heap.get? b=some o∧H b=none:=λb o e=>
 ⟨I.base.keep b o (I.ok.bs b o e).1 (I.ok.bs b o e).2 (I.ok.nofr e) (I.ok.noex b o e),I.base.free b o (I.ok.bs b o e).1 (I.ok.bs b o e).2 (I.ok.noex b o e)⟩
theorem Inv.bk(I:Inv X am σ H s):∀b o,X.base.get? b=some o→s.heap.get? b=some o:=λb o e=>(I.bs b o e).1
theorem Inv.mod(I:Inv X am σ H s):Mod X.K X.mg X.base:=I.ok.mod
theorem Inv.kIn(I:Inv X am σ H s):X.K.In s.heap:=I.ok.mod.kin.keeps I.bk
theorem Inv.lt(I:Inv X am σ H s):X.env.locals<s.heap.objs.size:=let⟨_,br,_⟩:=I.loc;br.lt
theorem Inv.sz(I:Inv X am σ H s):X.s₀.heap.objs.size≤s.heap.objs.size:=Qv I.ok.above (QJ I.lt)
theorem Inv.nofs(I:Inv X am σ H s){a:Addr}(h:s.heap.objs.size≤a):a∉X.fs:=λao=>by
 obtain⟨_,o,a3,_⟩:=I.ok.funs.mem ao;exact absurd (Qj (Heap.lt_size a3) (Qv I.sz h)) (QL _)
theorem Inv.cne(I:Inv X am σ H s):∀x c,X.env.cells.lookup x=some c→c≠X.env.locals:=λx c e z=>by
 obtain⟨v,o,a3,hd⟩:=I.cell x c e;obtain⟨m,⟨b2,bp,c9,hb,jd,_⟩,_⟩:=I.loc;rw[z,hb] at a3;cases a3;rw[jd] at hd;cases hd
theorem Inv.funs(I:Inv X am σ H s):s.heap.FunFrames X.base X.outer:=by
 have all:∀(l:List Env),(∀b∈frs l,b∈X.fs)→X.s₀.heap.FunFrames X.base l→s.heap.FunFrames X.base l:=by
  intro l
  induction l with
  |nil=>intro _ _;trivial
  |cons env r b0=>
   intro a4 ap;obtain⟨aD,⟨L,o,a',br,a3,hd⟩,aH⟩:=ap;have ft:L∈X.fs:=a4 L (by unfold frs;rw[List.filterMap_cons,a'];exact QW);obtain⟨sl,e⟩:=I.base.slot L o a3 (I.ok.frf L ft) ft λz=>I.ok.exfs L z ft;exact⟨aD,⟨L,_,a',br,e,hd⟩,b0 (λb ao=>a4 b (by unfold frs;rw[List.filterMap_cons,a'];exact QE _ ao)) aH⟩
 exact all X.outer (λ_ ao=>ao) I.ok.funs
theorem Inv.stack(I:Inv X am σ H s):s.heap.FunFrames X.base X.stack:=by
 rcases I.ok.stk with e|⟨e,a'⟩
 ·rw[e];exact I.funs
 ·rw[e];obtain⟨m,br,_⟩:=I.loc;refine .cons (by rw[I.ok.kind];decide) a' br ?_ I.funs;exact Heap.get?_none_of_le (Qv I.ok.bsz I.ok.above)
theorem Inv.stkSub(I:Inv X am σ H s):∀b∈frs X.stack,b∈X.env.locals::X.fs:=λb ao=>by
 rcases I.ok.stk with e|⟨e,a'⟩
 ·rw[e] at ao;exact QE _ ao
 ·rw[e] at ao;unfold frs at ao;rw[List.filterMap_cons,a'] at ao;exact ao
theorem Inv.stkFree(I:Inv X am σ H s):∀b∈frs X.stack,H b=none:=λb ao=>by
 rcases Qu.mp (I.stkSub b ao) with e|ao
 ·rw[e];exact I.free
 ·obtain⟨_,o,a3,_⟩:=I.ok.funs.mem ao;exact I.base.free b o a3 (I.ok.frf b ao) λz=>I.ok.exfs b z ao
theorem Inv.step{g':Array GenState}{t':Nat}{d':Drawn}{ch:List Addr}(I:Inv X am σ H s)
  (gR:∀b∈ch,(b∈X.ex∨X.s₀.heap.objs.size≤b)∧b≠X.env.locals∧(∀x c,X.env.cells.lookup x=some c→c≠b)∧∀p∈X.pn++am,p.1≠b)
  (keep:∀b o,b≠X.env.locals→b∉X.fs→b∉ch→s.heap.get? b=some o→H b=none→h'.get? b=some o)
  (slot:∀b o,b≠X.env.locals→b∈X.fs→b∉ch→s.heap.get? b=some o→H b=none→∃sl,h'.get? b=some {o with slots:=sl}) (free:∀b o,b∉ch→s.heap.get? b=some o→H b=none→H' b=none)
  (there:∀b o,b∉ch→s.heap.get? b=some o→∃b2,h'.get? b=some b2)
  (tups:∀b xs,H b=some (.tup xs)→H' b=some (.tup xs)) (frzs:∀b o u,H b=some (.frz o u)→H' b=some (.frz o u)) (tbls:∀b a_,H b=some (.tbl a_)→∃more,H' b=some (.tbl (a_++more)))
  (ns:∀m,s.heap.Ns X.env.locals m→h'.Ns X.env.locals m) (hok:HOk X.prog X.w H' h') (bL:AllBare g'):
  Inv X am σ H' {s with heap:=h',gens:=g',drawn:=d',toks:=t'}:=by
 have je:∀b o,X.s₀.heap.get? b=some o→b≠X.env.locals:=λb o e=>Qm (Qj (Heap.lt_size e) I.ok.above);have k4:∀b o,X.s₀.heap.get? b=some o→b∉X.ex→b∉ch:=λb o e ax ao=>by
  rcases(gR b ao).1 with z|z
  ·exact ax z
  ·exact absurd (Qj (Heap.lt_size e) z) (QL _)
 have px:∀x c,X.env.cells.lookup x=some c→∀v,s.heap.IsCell c v→h'.IsCell c v:=λx c e v ⟨o,a3,hd⟩=>by
  have jQ:c∉ch:=λz=>(gR c z).2.2.1 x c e rfl
  by_cases aw:c∈X.fs
  ·obtain⟨sl,q⟩:=slot c o (I.cne x c e) aw jQ a3 (I.freeC x c e);exact⟨_,q,hd⟩
  ·exact⟨o,keep c o (I.cne x c e) aw jQ a3 (I.freeC x c e),hd⟩
 refine⟨I.ok,I.os,bL,⟨λb o e n ao ax=>?_,λb o e n ao ax=>?_,λb o e n ax=>?_,λb o e ax=>?_,λb xs e=>tups b xs (I.base.tups b xs e),λb o xs e=>frzs b o xs (I.base.frzs b o xs e),λb a_ e=>?_⟩,?_,λx c e=>?_,?_,λx c e=>?_,λp bo=>?_,hok,I.len⟩
 ·exact keep b o (je b o e) ao (k4 b o e ax) (I.base.keep b o e n ao ax) (I.base.free b o e n ax)
 ·obtain⟨sl,bu⟩:=I.base.slot b o e n ao ax;obtain⟨jR,bJ⟩:=slot b _ (je b o e) ao (k4 b o e ax) bu (I.base.free b o e n ax);exact⟨jR,bJ⟩
 ·obtain⟨b2,bu⟩:=I.base.there b o e ax;exact free b b2 (k4 b o e ax) bu (I.base.free b o e n ax)
 ·obtain⟨b2,bu⟩:=I.base.there b o e ax;exact there b b2 (k4 b o e ax) bu
 ·obtain⟨iz,bu⟩:=I.base.tbls b a_ e;obtain⟨jS,bJ⟩:=tbls b _ bu;exact⟨iz++jS,by rw[bJ,Array.append_assoc]⟩
 ·obtain⟨m,br,ap⟩:=I.loc;refine⟨m,ns m br,λi x v bu bJ d3=>?_⟩;obtain⟨u,r,l⟩:=ap i x v bu bJ d3;refine⟨u,r,?_⟩;rcases l with l|⟨k,c,e,z⟩
  ·exact .inl l
  ·exact .inr ⟨k,c,e,px x c e _ z⟩
 ·obtain⟨v,z⟩:=I.cell x c e;exact⟨v,px x c e v z⟩
 ·obtain⟨m,⟨o,_,_,a3,_⟩,_⟩:=I.loc;exact free _ o (λz=>(gR _ z).2.1 rfl) a3 I.free
 ·obtain⟨v,o,a3,hd⟩:=I.cell x c e;exact free c o (λz=>(gR c z).2.2.1 x c e rfl) a3 (I.freeC x c e)
 ·obtain⟨e,n,ne,jf,d⟩:=I.pin p bo;have jQ:p.1∉ch:=λz=>(gR p.1 z).2.2.2 p bo rfl;exact⟨keep p.1 p.2 ne jf jQ e n,free p.1 p.2 jQ e n,ne,jf,d⟩
theorem Inv.un{t':Nat}(I:Inv X am σ H s)(u:Un X.fs [] H H' s.heap h')(hok:HOk X.prog X.w H' h'):Inv X am σ H' {s with heap:=h',toks:=t'}:=by
 obtain⟨m,⟨o,bp,c9,a3,r⟩,_⟩:=id I.loc;obtain⟨sl,ft⟩:=u.any a3 I.free (by simp);exact I.step (g':=s.gens) (d':=s.drawn) (ch:=[]) (λ_ z=>nomatch z) (λb o _ ao _ e n=>u.keep b o e n ao (by simp)) (λb o _ ao _ e n=>u.slot b o e n ao (by simp)) (λb o _ e n=>u.free b o e n (by simp)) (λb o _ e=>u.there b o e (by simp)) u.tups u.frzs u.tbls (λbG bq=>by
  obtain⟨b2,mw,mx,hb,cd⟩:=bq;rw[a3] at hb;cases hb;exact⟨_,mw,mx,ft,cd⟩) hok I.bare
theorem Inv.call{g':Array GenState}{t':Nat}{d':Drawn}{ch:List Addr}(I:Inv X am σ H s)(u:Un (frs X.stack) ch H H' s.heap h')(hok:HOk X.prog X.w H' h')(bL:AllBare g')
  (gR:∀b∈ch,(b∈X.ex∨X.s₀.heap.objs.size≤b)∧b≠X.env.locals∧(∀x c,X.env.cells.lookup x=some c→c≠b)∧∀p∈X.pn++am,p.1≠b):
  Inv X am σ H' {s with heap:=h',gens:=g',drawn:=d',toks:=t'}:=by
 obtain⟨m,⟨o,bp,c9,a3,r⟩,_⟩:=id I.loc;obtain⟨sl,ft⟩:=u.any a3 I.free λz=>(gR _ z).2.1 rfl;exact I.step (ch:=ch) gR (λb o ft ao aw e n=>u.keep b o e n (λz=>(Qu.mp (I.stkSub b z)).elim ft ao) aw) (λb o _ _ aw e n=>u.any e n aw) (λb o aw e n=>u.free b o e n aw) (λb o aw e=>u.there b o e aw) u.tups u.frzs u.tbls (λbG bq=>by
  obtain⟨b2,mw,mx,hb,cd⟩:=bq;rw[a3] at hb;cases hb;exact⟨_,mw,mx,ft,cd⟩) hok bL
theorem Inv.turned{t':Nat}{it:Addr}(I:Inv X am σ H s)(k:∀b o,b≠it→s.heap.get? b=some o→h'.get? b=some o)(br:H it=none)(ft:it≠X.env.locals)
  (aB:it∈X.ex∨X.s₀.heap.objs.size≤it) (aC:∀x c,X.env.cells.lookup x=some c→c≠it) (b_:∀p∈X.pn++am,p.1≠it):Inv X am σ H {s with heap:=h',toks:=t'}:=by
 have jT:∀b u,H b=some u→b≠it:=λb u e z=>by rw[z,br] at e;cases e
 refine I.step (g':=s.gens) (d':=s.drawn) (ch:=[it]) (λb ao=>?_) (λb o _ _ aw e _=>k b o (λz=>aw (by simp[z])) e) (λb o _ _ aw e _=>⟨o.slots,k b o (λz=>aw (by simp[z])) e⟩) (λ_ _ _ _ n=>n)
  (λb o aw e=>⟨o,k b o (λz=>aw (by simp[z])) e⟩) (λ_ _ e=>e) (λ_ _ _ e=>e) (λb a_ e=>⟨#[],by rw[e];simp⟩) (λm bq=>?_) (λb u e=>?_) I.bare
 ·have e:b=it:=by simpa using ao
  subst e;exact⟨aB,ft,aC,b_⟩
 ·obtain⟨o,bp,c9,a3,r⟩:=bq;exact⟨o,bp,c9,k _ o (Jj ft) a3,r⟩
 ·refine(I.hok b u e).stay (λc v aw q=>k c v ?_ q) (λ_ q=>q) λ_ _ q=>q;rcases aw with z|z
  ·rw[z];exact jT b u e
  ·exact jT c _ z
theorem Inv.tok(I:Inv X am σ H s)(t:Nat):Inv X am σ H {s with toks:=t}:=I.un (h':=s.heap) (t':=t) Un.refl I.hok
theorem Inv.kept{t':Nat}(I:Inv X am σ H s)(k:∀b u,s.heap.get? b=some u→h'.get? b=some u):Inv X am σ H {s with heap:=h',toks:=t'}:=I.un (Un.kept k) (I.hok.kept k)
theorem Inv.laid{a:Addr}{o:HO}{t':Nat}(I:Inv X am σ H s)(k:∀b u,s.heap.get? b=some u→h'.get? b=some u)(bo:s.heap.objs.size≤a)(new:ZI X.prog X.w (upd H a o) h' a o):
  Inv X am σ (upd H a o) {s with heap:=h',toks:=t'}:=I.un (Un.laid k bo (I.hok.fresh bo)) (I.hok.laid k bo new)
theorem Inv.write{x e:Addr}{o:HO}{t':Nat}(I:Inv X am σ H s)(fr:Mut (H x))(bF:e=x∨H e=some (.own x))(k:∀b u,b≠e→s.heap.get? b=some u→h'.get? b=some u)(g_:∃u,h'.get? e=some u)
  (new:ZI X.prog X.w (upd H x o) h' x o):Inv X am σ (upd H x o) {s with heap:=h',toks:=t'}:=I.un (Un.write fr bF k g_) (I.hok.write fr bF k g_ new)
theorem Inv.pins_of{jg:List (Addr×Obj)}(I:Inv X am σ H s)(h:∀p∈jg,s.heap.get? p.1=some p.2∧H p.1=none∧p.1≠X.env.locals∧p.1∉X.fs∧∀v,p.2.data≠ .cell v):Inv X jg σ H s:=
 ⟨I.ok,I.os,I.bare,I.base,I.loc,I.cell,I.free,I.freeC,λp bo=>(QG.mp bo).elim (λz=>I.pin p (Jk _ z)) (h p),I.hok,I.len⟩
theorem my{N:List Str}(da:N.Nodup){i j:Nat}{x:Str}(a:N[i]? =some x)(b:N[j]? =some x):i=j:=by
 obtain⟨aB,bu⟩:=Qw.mp a;obtain⟨aC,bJ⟩:=Qw.mp b;exact(List.getElem_inj da).mp (bu.trans bJ.symm)
theorem pz{M:Model}{A:Around}{E:Value→Shared→Prop}{i:Nat}{x:Str}{v:V}{u:Value}{Q:Unit→Shared→Prop}(I:Inv X am σ H s)(da:X.N.Nodup)(hi:X.N[i]? =some x)(ax:Loc X.env.scope x)(r:b5 v u)
  (h:∀s',Inv X am (σ.set i (some v)) H s'→(∃a,Heap.SameBut a s.heap s'.heap∧(a=X.env.locals∨X.env.cells.lookup x=some a))→Q () s') (a':X.fn x=true∨X.env.scope.names.lookup x=some .local:=by first|exact .inl rfl|exact .inr rfl|assumption):wpAny M A (storeName X.env x u) Q E s:=by
 obtain⟨m,br,ap⟩:=id I.loc;have mz:(X.env.scope.kind== .class||(X.env.scope.kind== .module&&X.env.locals != X.env.globals))=false:=by rw[I.ok.kind];rfl
 have pA:i<σ.length:=by rw[I.len];exact(Qw.mp hi).1
 have cne:=I.cne;have pB:∀{a:Addr}{h':Heap},(∃o,s.heap.get? a=some o∧H a=none)→Heap.SameBut a s.heap h'→HOk X.prog X.w H h':=λ{a h'} a2 a4 b b' e=>by
  obtain⟨_,_,pC⟩:=a2;refine(I.hok b b' e).stay (λc fH aw q=>(a4.2 c ?_).trans q) (λ_ q=>q) λ_ _ q=>q;rintro rfl;rcases aw with rfl|aw
  ·rw[pC] at e;cases e
  ·rw[pC] at aw;cases aw
 rcases ax with aD|aD
 ·refine wpAny_storeName_local aD br (λh' sV a4=>?_) mz;obtain⟨sW,_,_,sX,_⟩:=id br;refine h _ ⟨I.ok,I.os,I.bare,⟨λb o e n ao ax=>?_,λb o e n ao ax=>?_,I.base.free,λb o e ax=>?_,I.base.tups,I.base.frzs,I.base.tbls⟩,⟨_,sV,λj y v' bu bJ d3=>?_⟩,λy c e=>?_,I.free,I.freeC,λp bo=>?_,pB ⟨sW,sX,I.free⟩ a4,by simpa using I.len⟩ ⟨_,a4,.inl rfl⟩
  ·exact(a4.2 b (Qm (Qj (Heap.lt_size e) I.ok.above))).trans (I.base.keep b o e n ao ax)
  ·obtain⟨sl,bu⟩:=I.base.slot b o e n ao ax;exact⟨sl,(a4.2 b (Qm (Qj (Heap.lt_size e) I.ok.above))).trans bu⟩
  ·obtain⟨b2,bu⟩:=I.base.there b o e ax;exact⟨b2,(a4.2 b (Qm (Qj (Heap.lt_size e) I.ok.above))).trans bu⟩
  ·by_cases bW:j=i
   ·subst bW;rw[hi] at bu;cases bu;rw[QX pA] at bJ;cases bJ;exact⟨u,r,.inl ⟨aD,by simp⟩⟩
   ·rw[Jl (Jj bW)] at bJ;obtain⟨k6,cd,q⟩:=ap j y v' bu bJ d3;refine⟨k6,cd,?_⟩;rcases q with⟨k,e⟩|⟨k,c,e,z⟩
    ·refine .inl ⟨k,?_⟩;have:y≠x:=λe=>bW (my da bu (e▸hi));simp[this,e]
    ·exact .inr ⟨k,c,e,z.sameBut a4 (cne y c e)⟩
  ·obtain⟨fH,z⟩:=I.cell y c e;exact⟨fH,z.sameBut a4 (cne y c e)⟩
  ·obtain⟨e,n,ne,jf,d⟩:=I.pin p bo;exact⟨(a4.2 p.1 ne).trans e,n,ne,jf,d⟩
 ·have jU:X.fn x=true:=by
   rcases a' with z|z
   ·exact z
   ·rw[z] at aD;cases aD
  obtain⟨c,aw⟩:=I.ok.has x (.inl aD);obtain⟨fH,z⟩:=I.cell x c aw;refine wpAny_storeName_cell I.ok.kind aD aw z (λh' gc a4=>?_);obtain⟨dy,pD,sY⟩:=id z;refine h {s with heap:=h'} ⟨I.ok,I.os,I.bare,⟨λb o e n ao ax=>?_,λb o e n ao ax=>?_,I.base.free,λb o e ax=>?_,I.base.tups,I.base.frzs,I.base.tbls⟩,⟨m,br.sameBut a4 (Jj (cne x c aw)),λj y v' bu bJ d3=>?_⟩,λy cH e=>?_,I.free,I.freeC,λp bo=>?_,pB ⟨dy,pD,I.freeC x c aw⟩ a4,by simpa using I.len⟩ ⟨c,a4,.inr aw⟩
  ·exact(a4.2 b (Qm (Qj (Heap.lt_size e) (I.ok.cab x c jU aw)))).trans (I.base.keep b o e n ao ax)
  ·obtain⟨sl,bu⟩:=I.base.slot b o e n ao ax;exact⟨sl,(a4.2 b (Qm (Qj (Heap.lt_size e) (I.ok.cab x c jU aw)))).trans bu⟩
  ·obtain⟨b2,bu⟩:=I.base.there b o e ax;exact⟨b2,(a4.2 b (Qm (Qj (Heap.lt_size e) (I.ok.cab x c jU aw)))).trans bu⟩
  ·by_cases bW:j=i
   ·subst bW;rw[hi] at bu;cases bu;rw[QX pA] at bJ;cases bJ;exact⟨u,r,.inr ⟨.inl aD,c,aw,gc⟩⟩
   ·rw[Jl (Jj bW)] at bJ;obtain⟨k6,cd,q⟩:=ap j y v' bu bJ d3;refine⟨k6,cd,?_⟩;rcases q with q|⟨k,cH,e,eF⟩
    ·exact .inl q
    ·refine .inr ⟨k,cH,e,eF.sameBut a4 ?_⟩;rintro rfl;exact bW (my da bu (I.ok.inj _ _ _ e aw▸hi))
  ·by_cases k7:cH=c
   ·subst k7;exact⟨_,gc⟩
   ·obtain⟨gS,eU⟩:=I.cell y cH e;exact⟨gS,eU.sameBut a4 k7⟩
  ·obtain⟨e,n,ne,jf,d⟩:=I.pin p bo;refine⟨(a4.2 p.1 ?_).trans e,n,ne,jf,d⟩;intro q;rw[q,pD] at e;have ej:dy=p.2:=Qt e;exact d fH (by rw[←ej];exact sY)
theorem jV{M:Model}{A:Around}{E:Value→Shared→Prop}{i:Nat}{x:Str}{v:V}{u:Value}{Q:Unit→Shared→Prop}(I:Inv X am σ H s)(da:X.N.Nodup)(hi:X.N[i]? =some x)(ax:Loc X.env.scope x)(r:b5 v u)
  (h:∀s',Inv X am (σ.set i (some v)) H s'→Q () s') (a':X.fn x=true∨X.env.scope.names.lookup x=some .local:=by first|exact .inl rfl|exact .inr rfl|assumption):wpAny M A (storeName X.env x u) Q E s:=
 pz I da hi ax r (λs' cZ _=>h s' cZ) a'
theorem Inv.call'{s':Shared}{ch:List Addr}(I:Inv X am σ H s)(a3:s'.os=s.os)(u:Un (frs X.stack) ch H H' s.heap s'.heap)(hok:HOk X.prog X.w H' s'.heap)(bL:AllBare s'.gens)
  (gR:∀b∈ch,(b∈X.ex∨X.s₀.heap.objs.size≤b)∧b≠X.env.locals∧(∀x c,X.env.cells.lookup x=some c→c≠b)∧∀p∈X.pn++am,p.1≠b):Inv X am σ H' s':=by
 obtain⟨h',g',d',t',b2⟩:=s';have e:b2=s.os:=a3;subst e;exact I.call (g':=g') (t':=t') (d':=d') u hok bL gR
end
noncomputable abbrev XK:=Value→Option Addr→Hp→Prop
noncomputable abbrev St:=List (Option V)
noncomputable abbrev VK:=V→Hp→Prop
noncomputable abbrev TE:=St→Hp→VK→Prop
noncomputable abbrev TT:=St→Hp→(Bool→Hp→Prop)→Prop
noncomputable abbrev TA:=St→Hp→(List V→Hp→Prop)→Prop
structure Y3 where
 nx:St→Hp→Prop
 rt:VK
 bk:St→Hp→Prop:=λ_ _=>False
 ct:St→Hp→Prop:=λ_ _=>False
noncomputable abbrev TS:=Y3→St→Hp→Prop
def EP(X:Cx)(am:List (Addr×Obj))(σ:St)(Q:VK)(u:Value)(s':Shared):Prop:=∃v H',Inv X am σ H' s'∧b5 v u∧Q v H'
def TP(X:Cx)(am:List (Addr×Obj))(σ:St)(Q:Bool→Hp→Prop)(b:Bool)(s':Shared):Prop:=∃H',Inv X am σ H' s'∧Q b H'
def AP(X:Cx)(am:List (Addr×Obj))(σ:St)(Q:List V→Hp→Prop)(us:List Value)(s':Shared):Prop:=∃vs H',Inv X am σ H' s'∧bS vs us∧Q vs H'
def SP(X:Cx)(am:List (Addr×Obj))(D:Y3)(f:Flow)(s':Shared):Prop:=
 match f with
 | .next=>∃aV H',Inv X am aV H' s'∧D.nx aV H'
 | .brk=>∃aV H',Inv X am aV H' s'∧D.bk aV H'
 | .cont=>∃aV H',Inv X am aV H' s'∧D.ct aV H'
 | .ret u=>∃v aV H',Inv X am aV H' s'∧b5 v u∧D.rt v H'
def PE(X:Cx)(e:Expr)(t:TE):Prop:=
 ∀(am:List (Addr×Obj))(s:Shared)(σ:St)(H:Hp)(Q:VK),Inv X am σ H s→t σ H Q→wpAny (model X.prog X.w) X.A (eval e X.env) (EP X am σ Q) X.xe s
def PT(X:Cx)(e:Expr)(t:TT):Prop:=
 ∀(am:List (Addr×Obj))(s:Shared)(σ:St)(H:Hp)(Q:Bool→Hp→Prop),Inv X am σ H s→t σ H Q→wpAny (model X.prog X.w) X.A (isTrue e X.env (eval e X.env)) (TP X am σ Q) X.xe s
def PW(X:Cx)(e:Expr)(t:TT):Prop:=
 ∀(iA:Sem Value)(am:List (Addr×Obj))(s:Shared)(σ:St)(H:Hp)(Q:Bool→Hp→Prop),Inv X am σ H s→t σ H Q→wpAny (model X.prog X.w) X.A (isTrue e X.env iA) (TP X am σ Q) X.xe s
theorem PW.pt{X:Cx}{e:Expr}{t:TT}(h:PW X e t):PT X e t:=h _
def PA(X:Cx)(bp:List Expr)(t:TA):Prop:=
 ∀(pos:Pos)(am:List (Addr×Obj))(s:Shared)(σ:St)(H:Hp)(Q:List V→Hp→Prop),Inv X am σ H s→t σ H Q→wpAny (model X.prog X.w) X.A (spliced (backTo pos (starEach bp X.env))) (AP X am σ Q) X.xe s
def PS(X:Cx)(st:Stmt)(t:TS):Prop:=
 ∀(am:List (Addr×Obj))(s:Shared)(σ:St)(H:Hp)(D:Y3),Inv X am σ H s→t D σ H→wpAny (model X.prog X.w) X.A (exec st X.env) (SP X am D) X.xe s
def PSs(X:Cx)(st:List Stmt)(t:TS):Prop:=
 ∀(am:List (Addr×Obj))(s:Shared)(σ:St)(H:Hp)(D:Y3),Inv X am σ H s→t D σ H→wpAny (model X.prog X.w) X.A (execs st X.env) (SP X am D) X.xe s
theorem thn{cm:Type}{t:Sem cm}{Q jW:cm→Shared→Prop}{M:Model}{A:Around}{E:Value→Shared→Prop}{s:Shared}(h:wpAny M A t Q E s)(df:∀a s,Q a s→jW a s):wpAny M A t jW E s:=wpAny_mono h df λ_ _ x=>x
section
variable {X:Cx}
theorem bin{a b:Expr}{bA b1:TE}(a2:PE X a bA)(ao:PE X b b1){am:List (Addr×Obj)}{s:Shared}{σ:St}{H:Hp}{R:V→V→Hp→Prop}(I:Inv X am σ H s)(h:bA σ H λx aq=>b1 σ aq λy ar=>R x y ar)
  {cm:Type} {Q:cm→Shared→Prop} {f:Value→Value→Sem cm}
  (a':∀v u bt x y ar,Inv X am σ ar bt→b5 x v→b5 y u→R x y ar→wpAny (model X.prog X.w) X.A (f v u) Q X.xe bt):
  wpAny (model X.prog X.w) X.A (eval a X.env) (λv cn=>wpAny (model X.prog X.w) X.A (eval b X.env) (λu gd=>wpAny (model X.prog X.w) X.A (f v u) Q X.xe gd) X.xe cn) X.xe s:=by
 refine thn (a2 am s σ H _ I h) λv aI ⟨x,aq,a6,bP,bZ⟩=>?_;refine thn (ao am aI σ aq _ a6 bZ) λu bt ⟨y,ar,ce,b3,cj⟩=>?_;exact a' v u bt x y ar ce bP b3 cj
noncomputable def ZbC (i:Nat):TE:=λσ H Q=>∃v,σ[i]? =some (some v)∧Q v H
noncomputable def tC (v:V):TE:=λ_ H Q=>Q v H
theorem Zfu{i:Nat}{x:Str}{pos:Pos}(da:X.N[i]? =some x)(b9:Vis X.env.scope x)(hd:(x==("__debug__" :Str))=false:=by decide)(e_:(x==("__classdict__" :Str))=false:=by decide):PE X (.Name x pos) (ZbC i):=by
 intro am s σ H Q I h;obtain⟨v,e,h⟩:=h;obtain⟨m,br,ap⟩:=I.loc;obtain⟨u,r,l⟩:=ap i x v da e b9;have ds:EP X am σ Q u s:=⟨v,H,I,r,h⟩;rcases l with⟨aD,bq⟩|⟨aD,c,aw,hT⟩
 ·exact wpAny_Name (wpAny_loadName_local I.ok.kind aD br bq ds) hd
 ·rcases aD with aD|aD
  ·exact wpAny_Name (wpAny_loadName_cell I.ok.kind aD aw hT ds) hd
  ·exact wpAny_Name (wpAny_loadName_free I.ok.kind aD aw hT ds e_) hd
theorem Zf{i j pos}:PE X (.Constant (.int i) j pos) (tC (.int i)):=λ_ _ _ H _ I h=>wpAny_Constant_int ⟨.int i,H,I.tok _,⟨_,rfl⟩,h⟩
theorem YW{b j pos}:PE X (.Constant (.bool b) j pos) (tC (.bl b)):=λ_ _ _ H _ I h=>Constant_bool ⟨.bl b,H,I,rfl,h⟩
theorem W3{j pos}:PE X (.Constant .none j pos) (tC .non):=λ_ _ _ H _ I h=>Constant_none ⟨.non,H,I,rfl,h⟩
theorem Yp{x j pos}:PE X (.Constant (.str x) j pos) (tC (.str x)):=λ_ _ _ H _ I h=>Calls.Constant_str ⟨.str x,H,I.tok _,⟨_,rfl⟩,h⟩
def Gl(X:Cx)(x:Str):Prop:=X.env.kindOf x=some .globalImplicit
theorem iB{E:Value→Shared→Prop}{am:List (Addr×Obj)}{s:Shared}{σ:St}{H:Hp}{x:Str}{u:Value}{pos:Pos}{Q:Value→Shared→Prop}(I:Inv X am σ H s)(bL:Gl X x)(bq:X.mg x=some u)(h:Q u s)
  (hd:(x==("__debug__" :Str))=false:=by decide):wpAny (model X.prog X.w) X.A (eval (.Name x pos) X.env) Q E s:=
 Calls.Name_function_global I.ok.kind bL (Calls.loadGlobal_global (by rw[I.ok.glob];exact I.mod.glob.keeps I.bk) bq h) hd
theorem jX{E:Value→Shared→Prop}{am:List (Addr×Obj)}{s:Shared}{σ:St}{H:Hp}{x:Str}{u:Value}{pos:Pos}{Q:Value→Shared→Prop}(I:Inv X am σ H s)(bL:Gl X x)(bq:X.mg x=none)(b9:bootBuiltins x=some u)(h:Q u s)
  (br:x≠"__name__" :=by decide) (hd:(x==("__debug__" :Str))=false:=by decide):wpAny (model X.prog X.w) X.A (eval (.Name x pos) X.env) Q E s:=by
 obtain⟨fU,aB,aC⟩:=I.mod.blt;exact Calls.Name_function_global I.ok.kind bL (Calls.loadGlobal_builtin (by rw[I.ok.glob];exact I.mod.glob.keeps I.bk) bq (by rw[I.ok.blt];exact aB.keeps I.bk) ((aC x br).trans b9) h) hd
theorem jh{x:Str}{v:V}{u:Value}{pos:Pos}(bL:Gl X x)(bq:X.mg x=some u)(r:b5 v u)(hd:(x==("__debug__" :Str))=false:=by decide):PE X (.Name x pos) (tC v):=
 λ_ _ _ H _ I h=>iB I bL bq ⟨v,H,I,r,h⟩ hd
theorem hc{x:Str}{v:V}{u:Value}{pos:Pos}(bL:Gl X x)(bq:X.mg x=none)(b9:bootBuiltins x=some u)(r:b5 v u)(br:x≠"__name__" :=by decide)(hd:(x==("__debug__" :Str))=false:=by decide):PE X (.Name x pos) (tC v):=
 λ_ _ _ H _ I h=>jX I bL bq b9 ⟨v,H,I,r,h⟩ br hd
variable {a b:Expr}{bA b1:TE}{pos:Pos}
variable {gT k8:TT}{rest:List Expr}
noncomputable def pE (t u:TT):TT:=λσ H Q=>t σ H λc aq=>if c=true then u σ aq Q else Q false aq
noncomputable def tOr (t u:TT):TT:=λσ H Q=>t σ H λc aq=>if c=true then Q true aq else u σ aq Q
noncomputable def pF (t:TT):TT:=λσ H Q=>t σ H λc aq=>Q (!c) aq
theorem sZ(a2:PT X a gT):PW X (.BoolOp .And [a] pos) gT:=by
 intro jY am s σ H Q I h;refine isTrue_and (thn (a2 am s σ H Q I h) λc aI e=>?_);cases c with
 |true=>exact isTrue_and_nil e
 |false=>exact e
theorem gf(a2:PT X a gT):PW X (.BoolOp .Or [a] pos) gT:=by
 intro jY am s σ H Q I h;refine isTrue_or (thn (a2 am s σ H Q I h) λc aI e=>?_);cases c with
 |false=>exact isTrue_or_nil e
 |true=>exact e
theorem s0(a2:PT X a gT)(ao:PW X (.BoolOp .And (b::rest) pos) k8):PW X (.BoolOp .And (a::b::rest) pos) (pE gT k8):=by
 intro jY am s σ H Q I h;refine isTrue_and (thn (a2 am s σ H _ I h) λc aI ⟨aq,a6,bZ⟩=>?_);cases c with
 |true=>exact ao jY am aI σ aq Q a6 bZ
 |false=>exact⟨aq,a6,bZ⟩
theorem fV(a2:PT X a gT)(ao:PW X (.BoolOp .Or (b::rest) pos) k8):PW X (.BoolOp .Or (a::b::rest) pos) (tOr gT k8):=by
 intro jY am s σ H Q I h;refine isTrue_or (thn (a2 am s σ H _ I h) λc aI ⟨aq,a6,bZ⟩=>?_);cases c with
 |true=>exact⟨aq,a6,bZ⟩
 |false=>exact ao jY am aI σ aq Q a6 bZ
theorem fu(a2:PT X a gT):PT X (.UnaryOp .Not a pos) (pF gT):=by
 intro am s σ H Q I h;exact isTrue_not (a2 am s σ H (λc aq=>Q (!c) aq) I h)
noncomputable def pG (bA b1:TE):TE:=λσ H Q=>bA σ H λx aq=>∃c,x= .bl c∧if c=true then b1 σ aq Q else Q (.bl false) aq
noncomputable def pH (bA:TE):TE:=λσ H Q=>bA σ H λx aq=>∃c,x= .bl c∧Q (.bl (!c)) aq
theorem jZ{op}{t:TE}(h:PE X a t):PE X (.BoolOp op [a] pos) t:=λam s σ H Q I hw=>BoolOp_one (h am s σ H Q I hw)
theorem j0(a2:PE X a bA)(ao:PE X (.BoolOp .And (b::rest) pos) b1):PE X (.BoolOp .And (a::b::rest) pos) (pG bA b1):=by
 intro am s σ H Q I h;refine BoolOp_and (thn (a2 am s σ H _ I h) λv aI ⟨x,aq,a6,bP,bZ⟩=>?_);obtain⟨c,rfl,bZ⟩:=bZ;cases bP;refine wpAny_truthy_bool ?_;cases c with
 |true=>exact ao am aI σ aq Q a6 bZ
 |false=>exact⟨.bl false,aq,a6,rfl,bZ⟩
theorem s1(a2:PE X a bA):PE X (.UnaryOp .Not a pos) (pH bA):=by
 intro am s σ H Q I h;refine UnaryOp_ (thn (a2 am s σ H _ I h) λv aI ⟨x,aq,a6,bP,bZ⟩=>?_);obtain⟨c,rfl,bZ⟩:=bZ;cases bP;exact not_of (wpAny_truthy_bool ⟨.bl (!c),aq,a6,rfl,bZ⟩)
end
def SqL(K:Frag)(H:Hp)(a:Addr)(xs:List V):Prop:=
 Rd H a (.lst xs)∨
  ∃(o:Obj)(its:Array Value)(n:Nat),K.lookup a=some o∧o.cls= .type "list" ∧o.dict=none∧o.data= .seq its n∧its.size≤sizeLine∧bS xs its.toList
def SqT(K:Frag)(H:Hp)(a:Addr)(xs:List V):Prop:=
 Rd H a (.tup xs)∨
  ∃(o:Obj)(its:Array Value)(n:Nat),K.lookup a=some o∧o.cls= .type "tuple" ∧o.data= .seq its n∧its.size≤sizeLine∧bS xs its.toList
noncomputable def s2:Value→Option V
 | .none=>some .non
 | .bool b=>some (.bl b)
 | .int i _=>some (.int i)
 | .str x _=>some (.str x)
 | .bytes b _=>some (.byt b)
 | .float b _=>some (.flt b)
 | .ref a=>some (.ref a)
 | .type n=>some (.ty n)
 |_=>none
theorem b5.abs{x:V}{u:Value}(r:b5 x u):s2 u=some x:=by
 cases x with
 |non=>cases r;rfl
 |bl _=>cases r;rfl
 |int _=>obtain⟨t,rfl⟩:=r;rfl
 |str _=>obtain⟨t,rfl⟩:=r;rfl
 |byt _=>obtain⟨t,rfl⟩:=r;rfl
 |flt _=>obtain⟨t,rfl⟩:=r;rfl
 |ref _=>cases r;rfl
 |ty _=>cases r;rfl
theorem b5.inj{x y:V}{u:Value}(r:b5 x u)(q:b5 y u):x=y:=Qt (r.abs.symm.trans q.abs)
theorem bS.inj:∀{xs ys:List V}{us:List Value},bS xs us→bS ys us→xs=ys
 |_,_,_,.nil,.nil=>rfl
 |_,_,_,.cons r t,.cons cd t'=>by rw[r.inj cd,bS.inj t t']
section
variable {X:Cx}{am:List (Addr×Obj)}{σ:St}{H:Hp}{s:Shared}{a:Addr}{xs ys:List V}
theorem SqL.of{K:Frag}(h:H a=some (.lst xs)):SqL K H a xs:= .inl (.inl h)
theorem SqT.of{K:Frag}(h:H a=some (.tup xs)):SqT K H a xs:= .inl (.inl h)
theorem Inv.list(I:Inv X am σ H s)(h:SqL X.K H a xs):∃its:List Value,bS xs its∧PlainL s.heap a its.toArray∧xs.length≤sizeLine:=by
 rcases h with h|⟨o,its,n,aD,aw,hd,a4,bw,r⟩
 ·obtain⟨z,its,n,r,e⟩:=h.ok I.hok;exact⟨its,r,⟨_,n,e,rfl,rfl,rfl⟩,z⟩
 ·refine⟨its.toList,r,⟨o,n,I.kIn a o aD,aw,hd,by simpa using a4⟩,?_⟩;have e:=r.length;simp only[Array.length_toList] at e;omega
theorem Inv.tuple(I:Inv X am σ H s)(h:SqT X.K H a xs):∃its:List Value,bS xs its∧IsTup s.heap a its.toArray∧xs.length≤sizeLine:=by
 rcases h with h|⟨o,its,n,aD,aw,a4,bw,r⟩
 ·obtain⟨z,its,r,p⟩:=h.ok I.hok;exact⟨its,r,p,z⟩
 ·refine⟨its.toList,r,⟨o,I.kIn a o aD,aw,n,by simpa using a4⟩,?_⟩;have e:=r.length;simp only[Array.length_toList] at e;omega
theorem Inv.list_inj(I:Inv X am σ H s)(h:SqL X.K H a xs)(h':SqL X.K H a ys):xs=ys:=by
 obtain⟨its,r,⟨o,n,e,_,_,d⟩,_⟩:=I.list h;obtain⟨its',cd,⟨b2,dG,bH,_,_,d'⟩,_⟩:=I.list h';rw[e] at bH;cases bH;rw[d] at d'
 injection d' with he _
 have:its=its':=by simpa using congrArg Array.toList he
 subst this;exact r.inj cd
theorem Inv.tuple_inj(I:Inv X am σ H s)(h:SqT X.K H a xs)(h':SqT X.K H a ys):xs=ys:=by
 obtain⟨its,r,⟨o,e,_,n,d⟩,_⟩:=I.tuple h;obtain⟨its',cd,⟨b2,bH,_,dG,d'⟩,_⟩:=I.tuple h';rw[e] at bH;cases bH;rw[d] at d'
 injection d' with he _
 have:its=its':=by simpa using congrArg Array.toList he
 subst this;exact r.inj cd
end
section
variable {X:Cx}{am:List (Addr×Obj)}{σ:St}{H:Hp}{s:Shared}{E:Value→Shared→Prop}
end
section
variable {X:Cx}{st:Stmt}{rest:List Stmt}{t u:TS}{e:Expr}{bK:TE}{pos:Pos}
noncomputable def tNext:TS:=λD σ H=>D.nx σ H
noncomputable def pI (t u:TS):TS:=λD σ H=>t {D with nx:=u D} σ H
theorem dz:PSs X [] tNext:=λ_ _ σ H _ I h=>wpAny_execs_nil ⟨σ,H,I,h⟩
theorem bz(aB:PS X st t)(aC:PSs X rest u):PSs X (st::rest) (pI t u):=by
 intro am s σ H D I h;refine wpAny_execs_cons (thn (aB am s σ H {D with nx:=u D} I h) λf aI q=>?_);cases f with
 |next=>
  obtain⟨aV,H',cZ,q⟩:=q;exact aC am aI aV H' D cZ q
 |ret v=>exact q
 |brk=>exact q
 |cont=>exact q
theorem bQ(aB:PS X st t):PSs X [st] t:=by
 intro am s σ H D I h;refine wpAny_execs_cons (thn (aB am s σ H D I h) λf aI q=>?_);cases f with
 |next=>exact wpAny_execs_nil q
 |ret v=>exact q
 |brk=>exact q
 |cont=>exact q
theorem Inv.quiet{am:List (Addr×Obj)}{σ:St}{H:Hp}{s:Shared}(I:Inv X am σ H s):interactive X.env=false:=by simp[interactive,I.ok.kind]
noncomputable def pJ (bK:TE):TS:=λD σ H=>bK σ H λ_ aq=>D.nx σ aq
theorem dH(bF:PE X e bK)(a4:swapsWith e none pos.line X.env=pure false:=by rfl):PS X (.Expr e pos) (pJ bK):=by
 intro am s σ H D I h;exact wpAny_Expr_any (thn (bF am s σ H _ I h) λv aI ⟨x,aq,a6,bP,bZ⟩=>⟨σ,aq,a6,bZ⟩) I.quiet a4
noncomputable def pK (bK:TE):TS:=λD σ H=>bK σ H D.rt
theorem cD(bF:PE X e bK):PS X (.Return (some e) pos) (pK bK):=by
 intro am s σ H D I h;exact wpAny_Return_some (thn (bF am s σ H _ I h) λv aI ⟨x,aq,a6,bP,bZ⟩=>⟨x,σ,aq,a6,bP,bZ⟩)
noncomputable def pL (c:TT) (t u:TS):TS:=λD σ H=>c σ H λb aq=>if b=true then t D σ aq else u D σ aq
theorem dq{c:Expr}{a b:List Stmt}{cq:TT}(aw:PT X c cq)(a2:PSs X a t)(ao:PSs X b u):PS X (.If c a b pos) (pL cq t u):=by
 intro am s σ H D I h;refine wpAny_If (thn (aw am s σ H _ I h) λd aI ⟨aq,a6,bZ⟩=>?_);cases d with
 |true=>exact a2 am aI σ aq D a6 bZ
 |false=>exact ao am aI σ aq D a6 bZ
end
noncomputable abbrev TG:=V→St→Hp→(St→Hp→Prop)→Prop
noncomputable abbrev TGs:=List V→St→Hp→(St→Hp→Prop)→Prop
def PG(X:Cx)(target:Expr)(t:TG):Prop:=
 ∀(am:List (Addr×Obj))(s:Shared)(σ:St)(H:Hp)(v:V)(u:Value)(Q:St→Hp→Prop),Inv X am σ H s→b5 v u→t v σ H Q→
  wpAny (model X.prog X.w) X.A (assign target X.env u) (λ_ s'=>∃aV H',Inv X am aV H' s'∧Q aV H') X.xe s
def PGs(X:Cx)(ck:List Expr)(t:TGs):Prop:=
 ∀(am:List (Addr×Obj))(s:Shared)(σ:St)(H:Hp)(vs:List V)(us:List Value)(Q:St→Hp→Prop),Inv X am σ H s→bS vs us→t vs σ H Q→
  wpAny (model X.prog X.w) X.A (assignInOrder ((assignEach ck X.env).map (·.2)) us) (λ_ s'=>∃aV H',Inv X am aV H' s'∧Q aV H') X.xe s
noncomputable abbrev ZcD:=V→V→V→Hp→(Hp→Prop)→Prop
def Zef(X:Cx)(t:ZcD):Prop:=
 ∀(am:List (Addr×Obj))(s:Shared)(σ:St)(H:Hp)(o i v:V)(dt gU u:Value)(Q:Hp→Prop),Inv X am σ H s→b5 o dt→b5 i gU→b5 v u→t o i v H Q→
  wpAny (model X.prog X.w) X.A (setItem dt gU u) (λ_ s'=>∃H',Inv X am σ H' s'∧Q H') X.xe s
noncomputable abbrev TIp:=V→V→Hp→VK→Prop
def PIp(X:Cx)(op:Operator)(t:TIp):Prop:=
 ∀(am:List (Addr×Obj))(s:Shared)(σ:St)(H:Hp)(x y:V)(v u:Value)(Q:VK),Inv X am σ H s→b5 x v→b5 y u→t x y H Q→
  wpAny (model X.prog X.w) X.A (inplaceOp op v u) (EP X am σ Q) X.xe s
section
variable {X:Cx}{pos:Pos}
noncomputable def WS (i:Nat):TG:=λv σ H Q=>Q (σ.set i (some v)) H
theorem cE{i:Nat}{x:Str}(da:X.N.Nodup)(hi:X.N[i]? =some x)(ax:Loc X.env.scope x)(a':X.fn x=true∨X.env.scope.names.lookup x=some .local:=by first|exact .inl rfl|exact .inr rfl|assumption):PG X (.Name x pos) (WS i):=by
 intro am s σ H v u Q I r h;exact wpAny_assign_Name (jV I da hi ax r (λs' cZ=>⟨_,H,cZ,h⟩) a')
noncomputable def gNil:TGs:=λvs σ H Q=>vs=[]∧Q σ H
noncomputable def pM (t:TG) (u:TGs):TGs:=λvs σ H Q=>∃v r,vs=v::r∧t v σ H λaV H'=>u r aV H' Q
theorem hf:PGs X [] gNil:=by
 intro am s σ H vs us Q I r h;obtain⟨e,h⟩:=h;subst e;cases r;exact assignInOrder_nil ⟨σ,H,I,h⟩
theorem dU{e:Expr}{bp:List Expr}{t:TG}{u:TGs}(aB:PG X e t)(aC:PGs X bp u)
  (a4:(assignEach (e::bp) X.env).map (·.2)=assign e X.env::(assignEach bp X.env).map (·.2):=by rfl):PGs X (e::bp) (pM t u):=by
 intro am s σ H vs us Q I r h;obtain⟨v,Bc,bu,h⟩:=h;subst bu;cases r with
 |cons r j1=>
  rw[a4];refine assignInOrder_cons (thn (aB am s σ H _ _ _ I r h) λ_ aI ⟨ji,aq,a6,bZ⟩=>?_);exact aC am aI ji aq _ _ Q a6 j1 bZ
noncomputable def mA (K:Frag) (n:Nat) (t:TGs):TG:=λv σ H Q=>∃a xs,v= .ref a∧SqT K H a xs∧xs.length=n∧t xs σ H Q
theorem ZfK{bp:List Expr}{k:Nat}{t:TGs}{n:Nat}(aw:X.calm=true)(h:PGs X bp t)
  (br:(assignEach bp X.env).length=n:=by rfl) (du:(assignEach bp X.env).findIdx? (·.1)=none:=by rfl):PG X (.Tuple bp k pos) (mA X.K n t):=by
 intro am s σ H v u Q I r hw;obtain⟨a,xs,bu,bC,ap,hw⟩:=hw;subst bu;cases r;obtain⟨its,b6,bM,bw⟩:=I.tuple bC;refine assign_Tuple_tuple (I.ok.hd aw) bM (by simp[br,←ap,b6.length]) du λh' ax=>?_;have a6:Inv X am σ H {s with heap:=h'}:=I.kept (t':=s.toks) λb o e=>ax b o (Qm (Heap.lt_size e)) e;exact h am _ σ H xs _ Q a6 (by simpa using b6) hw
noncomputable def pN (to ti:TE) (t:ZcD):TG:=λv σ H Q=>to σ H λo aq=>ti σ aq λi ar=>t o i v ar λbR=>Q σ bR
theorem k9{o i:Expr}{to ti:TE}{t:ZcD}(a3:PE X o to)(hi:PE X i ti)(a4:Zef X t)
  (a2:∀v,assign (.Subscript o i pos) X.env v=(do
   let dt←holding [v] (eval o X.env)
   let gU←holding [v,dt] (eval i X.env)
   standAt pos
   holding [v,dt,gU] (setItem dt gU v)
   release [v,dt,gU] []):=by intro _;rfl):PG X (.Subscript o i pos) (pN to ti t):=by
 intro am s σ H v u Q I r h;rw[a2];refine wpAny_bind (wpAny_holding (thn (a3 am s σ H _ I h) λdt aI ⟨x,aq,a6,bP,bZ⟩=>?_));refine wpAny_bind (wpAny_holding (thn (hi am aI σ aq _ a6 bZ) λgU bt ⟨y,ar,ce,b3,cj⟩=>?_));refine wpAny_bind (wpAny_standAt (wpAny_bind (wpAny_holding (thn (a4 am bt σ ar x y v dt gU u _ ce bP b3 r cj) λ_ bv ⟨bR,db,e'⟩=>?_))));exact wpAny_release ⟨σ,bR,db,e'⟩
noncomputable def k_ (bK:TE) (g:TG):TS:=λD σ H=>bK σ H λx aq=>g x σ aq D.nx
theorem la{bY e:Expr}{bK:TE}{g:TG}(bF:PE X e bK)(bL:PG X bY g)(a4:swapsWithSole [bY] e pos.line X.env=pure false:=by rfl)(hw:swappedStores [bY] e X.env=pure none:=by rfl)
  (aB:(assignEach [bY] X.env).map (·.2)=[assign bY X.env]:=by rfl):PS X (.Assign [bY] e pos) (k_ bK g):=by
 intro am s σ H D I h;refine wpAny_Assign_stores (thn (bF am s σ H _ I h) λv aI ⟨x,aq,a6,bP,bZ⟩=>?_) a4 hw;rw[aB];exact thn (bL am aI σ aq x v _ a6 bP bZ) λ_ bt q=>q
theorem ci{i:Nat}{x:Str}{e:Expr}{bK:TE}{gg:Pos}(da:X.N.Nodup)(hi:X.N[i]? =some x)(ax:Loc X.env.scope x)(bF:PE X e bK)(a4:swapsWith e (some (.Name x gg)) pos.line X.env=pure false:=by rfl)(a':X.fn x=true∨X.env.scope.names.lookup x=some .local:=by first|exact .inl rfl|exact .inr rfl|assumption):
  PS X (.Assign [.Name x gg] e pos) (k_ bK (WS i)):=by
 intro am s σ H D I h;refine wpAny_Assign_Name (thn (bF am s σ H _ I h) λv aI ⟨y,aq,a6,bP,bZ⟩=>?_) a4;exact jV a6 da hi ax bP (λbt ce=>⟨_,aq,ce,bZ⟩) a'
noncomputable def s3 (i:Nat) (bK:TE) (ti:TIp):TS:=λD σ H=>∃x,σ[i]? =some (some x)∧bK σ H λy aq=>ti x y aq λz ar=>D.nx (σ.set i (some z)) ar
theorem s4{i:Nat}{x:Str}{e:Expr}{bK:TE}{op:Operator}{ti:TIp}{gg:Pos}(da:X.N.Nodup)(hi:X.N[i]? =some x)(ax:Loc X.env.scope x)(bF:PE X e bK)(a3:PIp X op ti)(a':X.fn x=true∨X.env.scope.names.lookup x=some .local:=by first|exact .inl rfl|exact .inr rfl|assumption):
  PS X (.AugAssign (.Name x gg) op e pos) (s3 i bK ti):=by
 intro am s σ H D I h;obtain⟨v,bu,h⟩:=h;obtain⟨m,br,ap⟩:=I.loc;have s5:Vis X.env.scope x:=by rcases ax with k|k;exact .inl k;exact .inr (.inl k)
 obtain⟨u,r,l⟩:=ap i x v hi bu s5;refine wpAny_AugAssign_Name ?_;have go:wpAny (model X.prog X.w) X.A (eval e X.env) (λw gd=>wpAny (model X.prog X.w) X.A (inplaceOp op u w) (λr fI=>wpAny (model X.prog X.w) X.A (storeName X.env x r) (λ_=>SP X am D .next) X.xe fI) X.xe gd) X.xe s:=by
  refine thn (bF am s σ H _ I h) λw aI ⟨y,aq,a6,bP,bZ⟩=>?_;refine thn (a3 am aI σ aq v y u w _ a6 r bP bZ) λz bt ⟨Bd,ar,ce,b3,cj⟩=>?_;exact jV ce da hi ax b3 (λbv db=>⟨_,ar,db,cj⟩) a'
 rcases l with⟨aD,bq⟩|⟨aD,c,aw,hT⟩
 ·exact wpAny_loadName_local I.ok.kind aD br bq go
 ·rcases aD with aD|aD
  ·exact wpAny_loadName_cell I.ok.kind aD aw hT go
  ·rcases ax with k|k
   ·have:X.env.scope.names.lookup x=some .free:=aD;rw[k] at this;cases this
   ·have:X.env.scope.names.lookup x=some .free:=aD;rw[k] at this;cases this
noncomputable def ipI (f:Int→Int→Int):TIp:=λx y H Q=>∃i j,x= .int i∧y= .int j∧Q (.int (f i j)) H
theorem s6:PIp X .Add (ipI λi j=>i+j):=by
 intro am s σ H x y v u Q I bP b3 h;obtain⟨i,j,bu,bJ,q⟩:=h;subst bu;subst bJ;obtain⟨t,rfl⟩:=bP;obtain⟨t',rfl⟩:=b3;exact iadd_int ⟨.int _,H,I.tok _,⟨_,rfl⟩,q⟩
end
section
variable {X:Cx}{pos:Pos}
noncomputable def pO (c:TT) (b1:TS):TS:=λD σ H=>∃W:Nat→St→Hp→Prop,(∃m,W m σ H)∧∀m σ H,W m σ H→
 c σ H λb aq=>if b=true then ∃N:St→Hp→Prop,(∀aV H',N aV H'→∃bG,bG<m∧W bG aV H')∧b1 {D with nx:=N,ct:=N,bk:=D.nx} σ aq else D.nx σ aq
theorem s7{c:Expr}{body:List Stmt}{cq:TT}{b1:TS}(bo:PassesOwn (model X.prog X.w) X.A X.env X.xe)(aw:PT X c cq)(ao:PSs X body b1):PS X (.While c body [] pos) (pO cq b1):=by
 intro am s σ H D I h;obtain⟨W,⟨hg,hU⟩,turn⟩:=h;refine wpAny_While (codeAny_whileLoop (λn s'=>∃aV H',Inv X am aV H' s'∧W n aV H') ?_ hg ⟨σ,H,I,hU⟩);rintro n aI ⟨ji,aq,a6,gh⟩;refine wpAny_passesOwn bo (thn (aw am aI ji aq _ a6 (turn n ji aq gh)) λb bt ⟨ar,ce,cj⟩=>?_);cases b with
 |true=>
  obtain⟨N,da,cj⟩:=cj;rw[if_pos rfl];refine wpAny_passesOwn bo (thn (ao am bt ji ar _ ce cj) λf bv e'=>?_);cases f with
  |next=>
   obtain⟨gi,bR,db,j2⟩:=e';obtain⟨bG,bq,j3⟩:=da gi bR j2;exact⟨bG,bq,gi,bR,db,j3⟩
  |cont=>
   obtain⟨gi,bR,db,j2⟩:=e';obtain⟨bG,bq,j3⟩:=da gi bR j2;exact⟨bG,bq,gi,bR,db,j3⟩
  |brk=>exact e'
  |ret v=>exact e'
 |false=>
  rw[if_neg Qd];exact wpAny_execs_nil ⟨ji,ar,ce,cj⟩
end
structure It where
 go:Nat→Hp→Prop
 yld:Nat→Hp→V→Hp→Prop
 stop:Nat→Hp→Prop
def ek(X:Cx)(am:List (Addr×Obj))(H:Hp)(b:Addr):Prop:=
 H b=none∧b≠X.env.locals∧b∉X.fs∧(b∈X.ex∨X.s₀.heap.objs.size≤b)∧(∀x c,X.env.cells.lookup x=some c→c≠b)∧∀p∈X.pn++am,p.1≠b
theorem Inv.fpOk{X:Cx}{am:List (Addr×Obj)}{σ:St}{H H':Hp}{s:Shared}{b:Addr}(I:Inv X am σ H s)(ao:s.heap.objs.size≤b)(br:H' b=none):ek X am H' b:=by
 refine⟨br,Nat.ne_of_gt (Qj I.lt ao),I.nofs ao,.inr (Qv I.sz ao),λx c e z=>?_,λp bo z=>?_⟩
 ·obtain⟨v,q⟩:=I.cell x c e;exact absurd (Qj q.lt (by rw[z];exact ao)) (QL _)
 ·exact absurd (Qj (Heap.lt_size (I.pin p bo).1) (by rw[z];exact ao)) (QL _)
structure Vg(P:Program)(w:World)(K:Frag)(bY:Expr)(J:It)(fp:List Addr)(it:Addr)(cz:Nat→Heap→Prop):Prop where
 mem:it∈fp
 obj:∀i h,cz i h→∀b∈fp,∃o,h.get? b=some o∧∀v,o.data≠ .cell v
 keep:∀i h h',cz i h→(∀b∈fp,∀o,h.get? b=some o→h'.get? b=some o)→cz i h'
 item:∀(X:Cx),X.prog=P→X.w=w→X.K=K→X.calm=true→∀(i:Nat)(am:List (Addr×Obj))(s:Shared)(σ:St)(H:Hp)(E:Value→Shared→Prop),Inv X am σ H s→(∀b∈fp,ek X am H b)→cz i s.heap→J.go i H→
  wpAny (model P w) X.A (pyNext (.ref it)) (λr aI=>∃u,r=some u∧
   wpAny (model P w) X.A (letOwnedTupleGo bY (.ref it) u) (λ_ bt=>∃x H',Inv X am σ H' bt∧b5 x u∧J.yld i H x H'∧cz (i+1) bt.heap∧∀b∈fp,H' b=none) E aI) E s
 done:∀(X:Cx),X.prog=P→X.w=w→X.K=K→X.calm=true→∀(i:Nat)(am:List (Addr×Obj))(s:Shared)(σ:St)(H:Hp)(E:Value→Shared→Prop),Inv X am σ H s→(∀b∈fp,ek X am H b)→cz i s.heap→J.stop i H→
  wpAny (model P w) X.A (pyNext (.ref it)) (λr aI=>r=none∧Inv X am σ H aI) E s
 self:∀(A:Around)(i:Nat)(s:Shared)(Q:Value→Shared→Prop)(E:Value→Shared→Prop),cz i s.heap→Q (.ref it) s→wpAny (model P w) A (pyIter (.ref it)) Q E s
noncomputable abbrev TI:=St→Hp→(It→Hp→Prop)→Prop
def PIE(X:Cx)(am:List (Addr×Obj))(σ:St)(bY:Expr)(R:It→Hp→Prop)(hV:Value)(bt:Shared):Prop:=
 ∃(it:Addr)(fp:List Addr)(cz:Nat→Heap→Prop)(J:It)(H':Hp),hV= .ref it∧Inv X am σ H' bt∧Vg X.prog X.w X.K bY J fp it cz∧cz 0 bt.heap∧(∀b∈fp,ek X am H' b)∧R J H'
def PI(X:Cx)(bY cW:Expr)(cT:TI):Prop:=
 ∀(am:List (Addr×Obj))(s:Shared)(σ:St)(H:Hp)(R:It→Hp→Prop),Inv X am σ H s→cT σ H R→
  wpAny (model X.prog X.w) X.A (eval cW X.env) (λv aI=>wpAny (model X.prog X.w) X.A (pyIter v) (PIE X am σ bY R) X.xe aI) X.xe s
theorem j4{M:Model}{A:Around}{E:Value→Shared→Prop}{s:Shared}{bY:Expr}{it:Addr}{u:Value}{o:Obj}{n:String}{vs:Array Value}{Q:Unit→Shared→Prop}(a3:s.heap.get? it=some o)(aw:o.cls= .type n)(hd:o.data= .fields vs)
  (br:["enumerate","zip","dict_itemiterator","dict_reverseitemiterator","odict_iterator","itertools.zip_longest","itertools.pairwise"].contains n=false) (df:Q () s):wpAny M A (letOwnedTupleGo bY (.ref it) u) Q E s:=by
 unfold letOwnedTupleGo;cases bY<;>first
  |exact wpAny_pure df
  |(cases u<;>first
    |exact wpAny_pure df
    |(refine wpAny_bind (wpAny_load a3 ?_)
      rw[aw,hd];show wpAny M A (if(["enumerate","zip","dict_itemiterator","dict_reverseitemiterator","odict_iterator","itertools.zip_longest","itertools.pairwise"].contains n&&vs[0]? ==some (rawInt _))=true then _ else _) Q E s;rw[if_neg (by intro h;rw[br,Bool.false_and] at h;cases h)];exact wpAny_pure df))
noncomputable def Itl (K:Frag) (a:Addr):It:=
 ⟨λi H=>∃xs x,SqL K H a xs∧xs[i]? =some x,λi H x H'=>H'=H∧∀xs,SqL K H a xs→xs[i]? =some x,λi H=>∃xs,SqL K H a xs∧xs.length≤i⟩
noncomputable def Itt (K:Frag) (a:Addr):It:=
 ⟨λi H=>∃xs x,SqT K H a xs∧xs[i]? =some x,λi H x H'=>H'=H∧∀xs,SqT K H a xs→xs[i]? =some x,λi H=>∃xs,SqT K H a xs∧xs.length≤i⟩
noncomputable def Itr (lo:Int) (n:Nat):It:=⟨λi _=>i<n,λi H x H'=>H'=H∧x= .int (lo+i),λi _=>n≤i⟩
theorem s8{P:Program}{w:World}{K:Frag}{bY:Expr}(a it:Addr):Vg P w K bY (Itl K a) [it] it (λi h=>h.IsListIter it a i) where
 mem:=by simp
 obj:=λi h st b ao=>by
  have e:b=it:=by simpa using ao
  subst e;obtain⟨o,e,c,d⟩:=st;exact⟨o,e,λv z=>by rw[d] at z;cases z⟩
 keep:=λi h h' st k=>st.at λo e=>k it (by simp) o e
 item:=by
  intro X hP hw hK aw i am s σ H E I a' st bL;subst hP hw hK;obtain⟨xs,x,bC,ax⟩:=bL;obtain⟨its,b6,p,bw⟩:=I.list bC;obtain⟨u,hu,d4⟩:=b6.get ax;obtain⟨cS,f1,f2,cy,c0,c_⟩:=a' it (by simp);refine wpAny_pyNext_list_item st p.isList (x:=u) (by simpa using hu) λh' fv hh=>?_;have a6:Inv X am σ H {s with heap:=h'}:=I.turned (t':=s.toks) (λb o ao e=>(hh.2 b ao).trans e) cS f1 cy c0 c_;obtain⟨o,e,c,d⟩:=id fv;exact⟨u,rfl,j4 (s:={s with heap:=h'}) e c d (by decide) ⟨x,H,a6,d4,⟨rfl,λys bX=>by rw[I.list_inj bX bC];exact ax⟩,fv,λb ao=>(a' b ao).1⟩⟩
 done:=by
  intro X hP hw hK aw i am s σ H E I a' st bL;subst hP hw hK;obtain⟨xs,bC,ax⟩:=bL;obtain⟨its,b6,p,bw⟩:=I.list bC;obtain⟨cS,f1,f2,cy,c0,c_⟩:=a' it (by simp);have ap:=b6.length;exact wpAny_pyNext_list_end (I.ok.hd aw) st p.isList (by simp;omega) λh' d5=>⟨rfl,I.turned (t':=s.toks) (λb o ao e=>d5 b o ao e) cS f1 cy c0 c_⟩
 self:=λ_ _ _ _ _ st h=>wpAny_pyIter_listiter st h
theorem s9{P:Program}{w:World}{K:Frag}{bY:Expr}(a it:Addr):Vg P w K bY (Itt K a) [it] it (λi h=>h.IsTupleIter it a i) where
 mem:=by simp
 obj:=λi h st b ao=>by
  have e:b=it:=by simpa using ao
  subst e;obtain⟨o,e,c,d⟩:=st;exact⟨o,e,λv z=>by rw[d] at z;cases z⟩
 keep:=λi h h' st k=>st.at λo e=>k it (by simp) o e
 item:=by
  intro X hP hw hK aw i am s σ H E I a' st bL;subst hP hw hK;obtain⟨xs,x,bC,ax⟩:=bL;obtain⟨its,b6,p,bw⟩:=I.tuple bC;obtain⟨u,hu,d4⟩:=b6.get ax;obtain⟨cS,f1,f2,cy,c0,c_⟩:=a' it (by simp);refine wpAny_pyNext_tuple_item st (show s.heap.IsTuple a its.toArray from p) (x:=u) (by simpa using hu) λh' fv hh=>?_;have a6:Inv X am σ H {s with heap:=h'}:=I.turned (t':=s.toks) (λb o ao e=>(hh.2 b ao).trans e) cS f1 cy c0 c_;obtain⟨o,e,c,d⟩:=id fv;exact⟨u,rfl,j4 (s:={s with heap:=h'}) e c d (by decide) ⟨x,H,a6,d4,⟨rfl,λys bX=>by rw[I.tuple_inj bX bC];exact ax⟩,fv,λb ao=>(a' b ao).1⟩⟩
 done:=by
  intro X hP hw hK aw i am s σ H E I a' st bL;subst hP hw hK;obtain⟨xs,bC,ax⟩:=bL;obtain⟨its,b6,p,bw⟩:=I.tuple bC;obtain⟨cS,f1,f2,cy,c0,c_⟩:=a' it (by simp);have ap:=b6.length;exact wpAny_pyNext_tuple_end (I.ok.hd aw) st (show s.heap.IsTuple a its.toArray from p) (by simp;omega) λh' d5=>⟨rfl,I.turned (t':=s.toks) (λb o ao e=>d5 b o ao e) cS f1 cy c0 c_⟩
 self:=λ_ _ _ _ _ st h=>wpAny_pyIter_tupleiter st h
theorem s_{P:Program}{w:World}{K:Frag}{bY:Expr}(it:Addr)(lo:Int)(n:Nat):Vg P w K bY (Itr lo n) [it] it (λi h=>IsRangeIter h it (lo+(i:Nat)*1) ((n:Int)-(i:Nat)) 1) where
 mem:=by simp
 obj:=λi h st b ao=>by
  have e:b=it:=by simpa using ao
  subst e;exact⟨_,st,λv z=>by
   have eF:Data.fields _=Data.cell v:=z;cases eF⟩
 keep:=λi h h' st k=>k it (by simp) _ st
 item:=by
  intro X hP hw hK aw i am s σ H E I a' st bL;subst hP hw hK;obtain⟨cS,f1,f2,cy,c0,c_⟩:=a' it (by simp);have W:=Walks.range (prog:=X.prog) (w:=X.w) (I.ok.hd aw) it lo 1 n;refine W.item i s _ _ bL st λv h' cw b9 fv mB=>?_;obtain⟨t,rfl⟩:=b9;have a6:Inv X am σ H {s with heap:=h',toks:=cw}:=I.turned (λb o ao e=>mB b o (by simpa using ao) e) cS f1 cy c0 c_;refine⟨_,rfl,j4 (s:={s with heap:=h',toks:=cw}) (n:="range_iterator") fv rfl rfl (by decide) ⟨.int (lo+i),H,a6,⟨t,?_⟩,⟨rfl,rfl⟩,fv,λb ao=>(a' b ao).1⟩⟩;rw[Int.mul_one]
 done:=by
  intro X hP hw hK aw i am s σ H E I a' st bL;subst hP hw hK;obtain⟨cS,f1,f2,cy,c0,c_⟩:=a' it (by simp);exact wpAny_pyNext_range_end (I.ok.hd aw) st (by have:n≤i:=bL;omega) λh' d5=>⟨rfl,I.turned (t':=s.toks) (λb o ao e=>d5 b o ao e) cS f1 cy c0 c_⟩
 self:=λ_ _ _ _ _ st h=>wpAny_pyIter_rangeiter st h
section
variable {X:Cx}{bY:Expr}
noncomputable def mC (K:Frag) (cX:TE):TI:=λσ H R=>cX σ H λx aq=>∃a,x= .ref a∧(∃xs,SqL K aq a xs)∧R (Itl K a) aq
noncomputable def lb (K:Frag) (cX:TE):TI:=λσ H R=>cX σ H λx aq=>∃a,x= .ref a∧(∃xs,SqT K aq a xs)∧R (Itt K a) aq
theorem Zfc{l:Expr}{cX:TE}(ap:PE X l cX):PI X bY l (mC X.K cX):=by
 intro am s σ H R I h;refine thn (ap am s σ H _ I h) λv aI ⟨x,aq,a6,bP,bZ⟩=>?_;obtain⟨a,e,⟨xs,bC⟩,q⟩:=bZ;subst e;cases bP;obtain⟨its,b6,p,bw⟩:=a6.list bC;refine wpAny_pyIter_list p.isList ?_;refine⟨aI.heap.objs.size,[aI.heap.objs.size],_,_,aq,rfl,a6.kept (t':=aI.toks) λb o e=>Heap.get?_push_of_some _ e,s8 a _,⟨_,Heap.get?_push_size _ rfl,rfl,rfl⟩,λb ao=>?_,q⟩;have e:b=aI.heap.objs.size:=by simpa using ao
 subst e;exact a6.fpOk (Qb _) (a6.hok.fresh (Qb _))
theorem Zgd{l:Expr}{cX:TE}(ap:PE X l cX):PI X bY l (lb X.K cX):=by
 intro am s σ H R I h;refine thn (ap am s σ H _ I h) λv aI ⟨x,aq,a6,bP,bZ⟩=>?_;obtain⟨a,e,⟨xs,bC⟩,q⟩:=bZ;subst e;cases bP;obtain⟨its,b6,p,bw⟩:=a6.tuple bC;refine wpAny_pyIter_tuple (show aI.heap.IsTuple a its.toArray from p) ?_;refine⟨aI.heap.objs.size,[aI.heap.objs.size],_,_,aq,rfl,a6.kept (t':=aI.toks) λb o e=>Heap.get?_push_of_some _ e,s9 a _,⟨_,Heap.get?_push_size _ rfl,rfl,rfl⟩,λb ao=>?_,q⟩;have e:b=aI.heap.objs.size:=by simpa using ao
 subst e;exact a6.fpOk (Qb _) (a6.hok.fresh (Qb _))
theorem ta{am:List (Addr×Obj)}{σ:St}{H:Hp}{s:Shared}{R:It→Hp→Prop}{E:Value→Shared→Prop}{lo hi:Int}{t u v:Tok}{cw:Nat}(I:Inv X am σ H s)(aB: -(2 ^ 62)≤lo)(aC:lo<2 ^ 62)(b_: -(2 ^ 62)≤hi)(cu:hi<2 ^ 62)
  (q:R (Itr lo (hi-lo).toNat) H):wpAny (model X.prog X.w) X.A (pyIter (.ref s.heap.objs.size)) (PIE X am σ bY R) E {s with heap:=s.heap.push {cls:= .type "range",data:= .fields #[.int lo t,.int hi u,.int 1 v]},toks:=cw}:=by
 refine wpAny_pyIter_range (IsRange.new ..) (small_one aB aC b_ cu) ?_;have a6:Inv X am σ H {s with heap:=s.heap.push {cls:= .type "range",data:= .fields #[.int lo t,.int hi u,.int 1 v]},toks:=cw}:=I.kept λb o e=>Heap.get?_push_of_some _ e;refine⟨(s.heap.push {cls:= .type "range",data:= .fields #[.int lo t,.int hi u,.int 1 v]}).objs.size,[(s.heap.push {cls:= .type "range",data:= .fields #[.int lo t,.int hi u,.int 1 v]}).objs.size],_,_,H,rfl,
  a6.kept (t':=cw) λb o e=>Heap.get?_push_of_some _ e,s_ _ lo (hi-lo).toNat,?_,λb ao=>?_,q⟩
 ·have bu:lo+((0:Nat):Int)*1=lo:=by simp
  have bJ:(((hi-lo).toNat:Nat):Int)-((0:Nat):Int)=Builtin.Range.rangeSize lo hi 1:=by rw[rangeSize_one];split<;>omega
  show IsRangeIter _ _ (lo+((0:Nat):Int)*1) ((((hi-lo).toNat:Nat):Int)-((0:Nat):Int)) 1;rw[bu,bJ];exact Heap.get?_push_size _ rfl
 ·have e:b=(s.heap.push {cls:= .type "range",data:= .fields #[.int lo t,.int hi u,.int 1 v]}).objs.size:=by simpa using ao
  subst e;exact a6.fpOk (Qb _) (a6.hok.fresh (Qb _))
noncomputable def pP (bA:TA):TI:=λσ H R=>bA σ H λvs aq=>∃j:Int,vs=[.int j]∧ -(2 ^ 62)≤j∧j<2 ^ 62∧R (Itr 0 j.toNat) aq
theorem hW{a:Expr}{bA:TA}{p pos:Pos}(bL:Gl X "range")(bq:X.mg "range" =none)(a2:PA X [a] bA)(a4:starEach [a] X.env=[(false,eval a X.env)]:=by rfl):PI X bY (.Call (.Name "range" p) [a] [] pos) (pP bA):=by
 intro am s σ H R I h;refine Call_ (jX I bL bq boot_range (Q2 (thn (a2 pos am s σ H _ I h) λus aI ⟨vs,aq,a6,bP,bZ⟩=>?_) a4 rfl));obtain⟨j,e,bZ,cj,q⟩:=bZ;subst e;cases bP with
 |cons r j1=>
  cases j1;obtain⟨t,rfl⟩:=r;exact call_range_1 (ta a6 (by omega) (by omega) bZ cj (by simpa using q))
noncomputable def pQ (cT:TI) (g:TG) (b1:TS):TS:=λD σ H=>cT σ H λJ aq=>∃W:Nat→Nat→St→Hp→Prop,(∃m,W 0 m σ aq)∧∀i m σ H,W i m σ H→
 (J.stop i H∧D.nx σ H)∨(J.go i H∧∃N:St→Hp→Prop,(∀aV H',N aV H'→∃bG,bG<m∧W (i+1) bG aV H')∧∀x H',J.yld i H x H'→g x σ H' λbO ar=>b1 {D with nx:=N,ct:=N,bk:=D.nx} bO ar)
noncomputable def W4 (fp:List Addr) (h:Heap):List (Addr×Obj):=fp.filterMap λb=>(h.get? b).map λo=>(b,o)
theorem jj{fp:List Addr}{h:Heap}{b:Addr}{o:Obj}(ao:b∈fp)(e:h.get? b=some o):(b,o)∈W4 fp h:=List.mem_filterMap.mpr ⟨b,ao,by rw[e];rfl⟩
theorem ZdL{fp:List Addr}{h:Heap}{p:Addr×Obj}(bo:p∈W4 fp h):p.1∈fp∧h.get? p.1=some p.2:=by
 obtain⟨b,ao,e⟩:=List.mem_filterMap.mp bo;cases q:h.get? b with
 |none=>rw[q] at e;cases e
 |some o=>
  rw[q] at e;have bH:(b,o)=p:=Qt e;subst bH;exact⟨ao,q⟩
theorem Inv.pinned{am:List (Addr×Obj)}{σ:St}{H:Hp}{s:Shared}{fp:List Addr}(I:Inv X am σ H s)(a':∀b∈fp,ek X am H b)(a3:∀b∈fp,∃o,s.heap.get? b=some o∧∀v,o.data≠ .cell v):Inv X (am++W4 fp s.heap) σ H s:=
 I.pins_of λp bo=>(QG.mp bo).elim (λz=>I.pin p (Qp _ z)) λz=>by
  obtain⟨ao,e⟩:=ZdL z;obtain⟨cS,f1,f2,_⟩:=a' p.1 ao;obtain⟨o,bH,d⟩:=a3 p.1 ao;rw[e] at bH;cases bH;exact⟨e,cS,f1,f2,d⟩
theorem Inv.unpinned{am pl:List (Addr×Obj)}{σ:St}{H:Hp}{s:Shared}(I:Inv X (am++pl) σ H s):Inv X am σ H s:=I.pins_of λp bo=>I.pin p (Qp _ (Jk _ bo))
theorem eV{cW:Expr}{body:List Stmt}{cT:TI}{g:TG}{b1:TS}{pos:Pos}(bo:PassesOwn (model X.prog X.w) X.A X.env X.xe)(aw:X.calm=true)(hi:PI X bY cW cT)(bL:PG X bY g)(ao:PSs X body b1)
  (a4:∀x,foldedSetIterable cW X.env x=pure x:=by intro _;rfl):PS X (.For bY cW body [] pos) (pQ cT g b1):=by
 intro am s σ H D I h;refine wpAny_For (thn (hi am s σ H _ I h) λv aI aB=>thn aB λhV bt aC=>?_) a4;obtain⟨it,fp,cz,J,ar,e,ce,T,hj,f2,W,⟨hg,hU⟩,turn⟩:=aC;subst e;have mD:∀{H':Hp},(∀b∈fp,H' b=none)→∀b∈fp,ek X am H' b:=λbr b ao=>⟨br b ao,(f2 b ao).2⟩;refine codeAny_forLoop_any (λn s'=>∃i aV H',Inv X am aV H' s'∧cz i s'.heap∧(∀b∈fp,H' b=none)∧W i n aV H') ?_ hg ⟨0,σ,ar,ce,hj,λb ao=>(f2 b ao).1,hU⟩;rintro n bv ⟨i,gi,bR,db,hX,pR,j3⟩;rcases turn i n gi bR j3 with⟨stop,iD⟩|⟨go,N,da,step⟩
 ·refine wpAny_passesOwn bo (thn (T.done X rfl rfl rfl aw i am bv gi bR X.xe db (mD pR) hX stop) λr cf ⟨aH,j5⟩=>?_);subst aH;exact wpAny_execs_nil ⟨gi,bR,j5,iD⟩
 ·refine wpAny_passesOwn bo (thn (T.item X rfl rfl rfl aw i am bv gi bR X.xe db (mD pR) hX go) λr cf ⟨u,aH,cu⟩=>?_);subst aH;refine wpAny_passesOwn bo (thn cu λ_ cI ⟨x,bT,gV,mE,tb,hk,eM⟩=>?_);have tc:=gV.pinned (mD eM) (T.obj _ _ hk);refine wpAny_passesOwn bo (thn (bL _ cI gi bT x u _ tc mE (step x bT tb)) λ_ dI ⟨td,fW,eN,te⟩=>?_);refine wpAny_passesOwn bo (thn (ao _ dI td fW _ eN te) λf dJ hY=>?_);have again:∀{gj:St}{c2:Hp},Inv X (am++W4 fp cI.heap) gj c2 dJ→N gj c2→∃m,m<n∧∃i aV H',Inv X am aV H' dJ∧cz i dJ.heap∧(∀b∈fp,H' b=none)∧W i m aV H':=λ{gj c2} eO j6=>by
   obtain⟨bG,bq,tf⟩:=da gj c2 j6;refine⟨bG,bq,i+1,gj,c2,eO.unpinned,T.keep _ _ _ hk λb ao o e=>(eO.pin (b,o) (Qp _ (Qp _ (jj ao e)))).1,λb ao=>?_,tf⟩;obtain⟨o,e,d⟩:=T.obj _ _ hk b ao;exact(eO.pin (b,o) (Qp _ (Qp _ (jj ao e)))).2.1
  cases f with
  |next=>obtain⟨gj,c2,eO,j6⟩:=hY;exact again eO j6
  |cont=>obtain⟨gj,c2,eO,j6⟩:=hY;exact again eO j6
  |brk=>obtain⟨gj,c2,eO,hY⟩:=hY;exact⟨gj,c2,eO.unpinned,hY⟩
  |ret v=>obtain⟨x7,gj,c2,eO,j7,hY⟩:=hY;exact⟨x7,gj,c2,eO.unpinned,j7,hY⟩
end
theorem Wb{lo:Int}{n:Nat}{g:TG}{b1:TS}{D:Y3}{σ:St}{H:Hp}(Pv:Nat→St→Hp→Prop)(cv:Pv 0 σ H)
  (a4:∀i σ H,i<n→Pv i σ H→g (.int (lo+i)) σ H λbO ar=>b1 {D with nx:=Pv (i+1),ct:=Pv (i+1),bk:=D.nx} bO ar) (hd:∀σ H,Pv n σ H→D.nx σ H):
  ∃W:Nat→Nat→St→Hp→Prop,(∃m,W 0 m σ H)∧∀i m σ H,W i m σ H→
   ((Itr lo n).stop i H∧D.nx σ H)∨((Itr lo n).go i H∧∃N:St→Hp→Prop,(∀aV H',N aV H'→∃bG,bG<m∧W (i+1) bG aV H')∧∀x H',(Itr lo n).yld i H x H'→g x σ H' λbO ar=>b1 {D with nx:=N,ct:=N,bk:=D.nx} bO ar):=by
 refine⟨λi m σ H=>m=n-i∧i≤n∧Pv i σ H,⟨n,by simp,Qs _,cv⟩,?_⟩;rintro i m σ H ⟨rfl,hi,p⟩
 by_cases dg:i<n
 ·refine .inr ⟨dg,Pv (i+1),λaV H' fX=>⟨n-(i+1),by omega,rfl,dg,fX⟩,λx H' y=>?_⟩;obtain⟨e,y⟩:=y;subst e y;exact a4 i σ _ dg p
 ·have e:i=n:=by omega
  subst e;exact .inl ⟨Qb _,hd σ H p⟩
noncomputable abbrev R2:=V→V→Hp→VK→Prop
def OpR(X:Cx)(f:Value→Value→Sem Value)(r:R2):Prop:=
 ∀(am:List (Addr×Obj))(s:Shared)(σ:St)(H:Hp)(x y:V)(v u:Value)(Q:VK),Inv X am σ H s→b5 x v→b5 y u→r x y H Q→
  wpAny (model X.prog X.w) X.A (f v u) (EP X am σ Q) X.xe s
def UnR(X:Cx)(f:Value→Sem Value)(r:V→Hp→VK→Prop):Prop:=
 ∀(am:List (Addr×Obj))(s:Shared)(σ:St)(H:Hp)(x:V)(v:Value)(Q:VK),Inv X am σ H s→b5 x v→r x H Q→
  wpAny (model X.prog X.w) X.A (f v) (EP X am σ Q) X.xe s
def Z0(X:Cx)(f:Value)(r:List V→Hp→VK→Prop):Prop:=
 ∀(am:List (Addr×Obj))(s:Shared)(σ:St)(H:Hp)(xs:List V)(us:List Value)(Q:VK),Inv X am σ H s→bS xs us→r xs H Q→
  wpAny (model X.prog X.w) X.A (call f us) (EP X am σ Q) X.xe s
def ZhN(X:Cx)(r:V→Hp→(Bool→Hp→Prop)→Prop):Prop:=
 ∀(am:List (Addr×Obj))(s:Shared)(σ:St)(H:Hp)(x:V)(v:Value)(Q:Bool→Hp→Prop),Inv X am σ H s→b5 x v→r x H Q→
  wpAny (model X.prog X.w) X.A (truthy v) (TP X am σ Q) X.xe s
noncomputable def tOp (r:R2) (bA b1:TE):TE:=λσ H Q=>bA σ H λx aq=>b1 σ aq λy ar=>r x y ar Q
noncomputable def tUn (r:V→Hp→VK→Prop) (bA:TE):TE:=λσ H Q=>bA σ H λx aq=>r x aq Q
noncomputable def rI (C:Int→Int→Prop) (g:Int→Int→V):R2:=λx y H Q=>∃i j,x= .int i∧y= .int j∧C i j∧Q (g i j) H
noncomputable def rI0 (g:Int→Int→V):R2:=λx y H Q=>∃i j,x= .int i∧y= .int j∧Q (g i j) H
noncomputable def rU (g:Int→V):V→Hp→VK→Prop:=λx H Q=>∃i,x= .int i∧Q (g i) H
section
variable {X:Cx}{a b c:Expr}{bA b1 cq:TE}{pos:Pos}
theorem mF(a2:PE X a bA)(ao:PE X b b1){am:List (Addr×Obj)}{s:Shared}{σ:St}{H:Hp}{R:V→V→Hp→Prop}(I:Inv X am σ H s)
  (h:bA σ H λx aq=>b1 σ aq λy ar=>R x y ar) {Q:Value→Shared→Prop} {f:Value→Value→Sem Value}
  (a':∀v u bt x y ar,Inv X am σ ar bt→b5 x v→b5 y u→R x y ar→wpAny (model X.prog X.w) X.A (f v u) Q X.xe bt):
  wpAny (model X.prog X.w) X.A (eval a X.env) (λv cn=>wpAny (model X.prog X.w) X.A (eval b X.env) (λu gd=>wpAny (model X.prog X.w) X.A (f v u) Q X.xe gd) X.xe cn) X.xe s:=by
 refine thn (a2 am s σ H _ I h) λv aI ⟨x,aq,a6,bP,bZ⟩=>?_;refine thn (ao am aI σ aq _ a6 bZ) λu bt ⟨y,ar,ce,b3,cj⟩=>?_;exact a' v u bt x y ar ce bP b3 cj
theorem bB{op:Operator}{r:R2}(a3:OpR X (binaryOp op) r)(a2:PE X a bA)(ao:PE X b b1):PE X (.BinOp a op b pos) (tOp r bA b1):=by
 intro am s σ H Q I h;exact wpAny_BinOp (mF a2 ao I h λv u bt x y ar ce bx bN q=>a3 am bt σ ar x y v u Q ce bx bN q)
theorem tg{op:UnaryOp}{r:V→Hp→VK→Prop}(a3:UnR X (unaryOp op) r)(a2:PE X a bA):PE X (.UnaryOp op a pos) (tUn r bA):=by
 intro am s σ H Q I h;exact UnaryOp_ (thn (a2 am s σ H _ I h) λv aI ⟨x,aq,a6,bP,bZ⟩=>a3 am aI σ aq x v Q a6 bP bZ)
theorem opI{f:Value→Value→Sem Value}{C:Int→Int→Prop}{g:Int→Int→Int}
  (rule:∀(i j:Int)(t u:Tok)(s:Shared)(Q:Value→Shared→Prop)(E:Value→Shared→Prop),C i j→Q (.int (g i j) s.toks) {s with toks:=s.toks+1}→wpAny (model X.prog X.w) X.A (f (.int i t) (.int j u)) Q E s):
  OpR X f (rI C λi j=> .int (g i j)):=by
 intro am s σ H x y v u Q I bx bN h;obtain⟨i,j,rfl,rfl,aw,q⟩:=h;obtain⟨t,rfl⟩:=bx;obtain⟨t',rfl⟩:=bN;exact rule i j t t' s _ _ aw ⟨.int (g i j),H,I.tok _,⟨_,rfl⟩,q⟩
theorem Zft{f:Value→Value→Sem Value}{g:Int→Int→Int}
  (rule:∀(i j:Int)(t u:Tok)(s:Shared)(Q:Value→Shared→Prop)(E:Value→Shared→Prop),Q (.int (g i j) s.toks) {s with toks:=s.toks+1}→wpAny (model X.prog X.w) X.A (f (.int i t) (.int j u)) Q E s):
  OpR X f (rI0 λi j=> .int (g i j)):=by
 intro am s σ H x y v u Q I bx bN h;obtain⟨i,j,rfl,rfl,q⟩:=h;obtain⟨t,rfl⟩:=bx;obtain⟨t',rfl⟩:=bN;exact rule i j t t' s _ _ ⟨.int (g i j),H,I.tok _,⟨_,rfl⟩,q⟩
theorem ZdZ{f:Value→Value→Sem Value}{g:Int→Int→Bool}
  (rule:∀(i j:Int)(t u:Tok)(s:Shared)(Q:Value→Shared→Prop)(E:Value→Shared→Prop),Q (.bool (g i j)) s→wpAny (model X.prog X.w) X.A (f (.int i t) (.int j u)) Q E s):
  OpR X f (rI0 λi j=> .bl (g i j)):=by
 intro am s σ H x y v u Q I bx bN h;obtain⟨i,j,rfl,rfl,q⟩:=h;obtain⟨t,rfl⟩:=bx;obtain⟨t',rfl⟩:=bN;exact rule i j t t' s _ _ ⟨.bl (g i j),H,I,rfl,q⟩
def Zgu(i j:Int):Prop:=0≤j∧j≤1000000∧i.natAbs<2 ^ 64
def Zci(i j:Int):Prop:=(-(2 ^ 64)<i∧i<2 ^ 64)∨(-(2 ^ 64)<j∧j<2 ^ 64)
theorem Zci.ok{i j:Int}(h:Zci i j):IntMulOk i j:=by
 rcases h with⟨aB,aC⟩|⟨aB,aC⟩
 ·exact .of_left (intBits_le_64 aB aC)
 ·exact .of_right (intBits_le_64 aB aC)
theorem th:OpR X (binaryOp .Add) (rI0 λi j=> .int (i+j)):=Zft λ_ _ _ _ _ _ _ q=>add_int q
theorem hZ:OpR X (binaryOp .Sub) (rI0 λi j=> .int (i-j)):=Zft λ_ _ _ _ _ _ _ q=>sub_int q
theorem c3:OpR X (binaryOp .Mod) (rI (λ_ j=>0<j) λi j=> .int (i % j)):=opI λi j _ _ _ _ _ aw q=>by
 have aB:(0:Int)<j:=aw;exact mod_int' (by omega) (by rw[Q3 i (by omega)];exact q)
theorem iE:OpR X (binaryOp .Pow) (rI Zgu λi j=> .int (i ^ j.toNat)):=opI λ_ _ _ _ _ _ _ aw q=>pow_int_small aw.1 aw.2.1 aw.2.2 q
theorem unI{f:Value→Sem Value}{g:Int→Int}
  (rule:∀(i:Int)(t:Tok)(s:Shared)(Q:Value→Shared→Prop)(E:Value→Shared→Prop),Q (.int (g i) s.toks) {s with toks:=s.toks+1}→wpAny (model X.prog X.w) X.A (f (.int i t)) Q E s):
  UnR X f (rU λi=> .int (g i)):=by
 intro am s σ H x v Q I bx h;obtain⟨i,rfl,q⟩:=h;obtain⟨t,rfl⟩:=bx;exact rule i t s _ _ ⟨.int (g i),H,I.tok _,⟨_,rfl⟩,q⟩
theorem tj:UnR X (unaryOp .USub) (rU λi=> .int (-i)):=unI λ_ _ _ _ _ q=>neg_int q
end
noncomputable def pS:V→V→Bool
 | .non,.non=>true| .non,.int _=>true| .int _,.non=>true| .non,.bl _=>true| .bl _,.non=>true| .non,.str _=>true| .str _,.non=>true
 | .int _,.int _=>true| .bl _,.bl _=>true| .str _,.str _=>true| .byt _,.byt _=>true
 | .int _,.str _=>true| .str _,.int _=>true| .bl _,.str _=>true| .str _,.bl _=>true
 |_,_=>false
noncomputable def rEq:R2:=λx y H Q=>pS x y=true∧Q (.bl (decide (x=y))) H
noncomputable def rNe:R2:=λx y H Q=>pS x y=true∧Q (.bl (!decide (x=y))) H
theorem Zb2{i j:Int}:decide (V.int i=V.int j)=(i==j):=by
 rw[QQ];simp
theorem ZdJ{i j:Bool}:decide (V.bl i=V.bl j)=(i==j):=by
 rw[QQ];simp
theorem Zb9{i j:Str}:decide (V.str i=V.str j)=(i==j):=by
 rw[QQ];simp
theorem Zca{i j:Array UInt8}:decide (V.byt i=V.byt j)=(i.toList==j.toList):=by
 rw[QQ];cases i;cases j;simp
section
variable {X:Cx}{a b c:Expr}{bA b1 cq:TE}{pos:Pos}
theorem dh{am:List (Addr×Obj)}{σ:St}{H:Hp}{s:Shared}{Q:VK}{k k':Bool}(I:Inv X am σ H s)(q:Q (.bl k) H)(e:k=k'):EP X am σ Q (.bool k') s:=by
 subst e;exact⟨.bl k,H,I,rfl,q⟩
theorem tk:OpR X (compareOp .Eq) rEq:=by
 intro am s σ H x y v u Q I bx bN h;obtain⟨a4,q⟩:=h;cases x with
 |non=>
  cases bx;cases y with
  |non=>cases bN;exact PySem.EqNone.eq_none_none (dh I q (by simp))
  |bl j=>cases bN;exact PySem.EqNone.eq_none_bool (dh I q (by simp))
  |int j=>obtain⟨t',rfl⟩:=bN;exact PySem.EqNone.eq_none_int (dh I q (by simp))
  |str j=>obtain⟨t',rfl⟩:=bN;exact PySem.EqNone.eq_none_str (dh I q (by simp))
  |_=>exact absurd (show false=true from a4) Qd
 |bl i=>
  cases bx;cases y with
  |non=>cases bN;exact PySem.EqNone.eq_bool_none (dh I q (by simp))
  |bl j=>cases bN;exact eq_bool (dh I q ZdJ)
  |str j=>obtain⟨t',rfl⟩:=bN;exact PySem.EqMixed.eq_bool_str (dh I q (by simp))
  |_=>exact absurd (show false=true from a4) Qd
 |int i=>
  obtain⟨t,rfl⟩:=bx;cases y with
  |non=>cases bN;exact PySem.EqNone.eq_int_none (dh I q (by simp))
  |int j=>obtain⟨t',rfl⟩:=bN;exact eq_int (dh I q Zb2)
  |str j=>obtain⟨t',rfl⟩:=bN;exact PySem.EqMixed.eq_int_str (dh I q (by simp))
  |_=>exact absurd (show false=true from a4) Qd
 |str i=>
  obtain⟨t,rfl⟩:=bx;cases y with
  |non=>cases bN;exact PySem.EqNone.eq_str_none (dh I q (by simp))
  |bl j=>cases bN;exact PySem.EqMixed.eq_str_bool (dh I q (by simp))
  |int j=>obtain⟨t',rfl⟩:=bN;exact PySem.EqMixed.eq_str_int (dh I q (by simp))
  |str j=>obtain⟨t',rfl⟩:=bN;exact eq_str (dh I q Zb9)
  |_=>exact absurd (show false=true from a4) Qd
 |byt i=>
  obtain⟨t,rfl⟩:=bx;cases y with
  |byt j=>obtain⟨t',rfl⟩:=bN;exact PySem.W.eq_bytes (dh I q Zca)
  |_=>exact absurd (show false=true from a4) Qd
 |_=>cases y<;>exact absurd (show false=true from a4) Qd
theorem tl:OpR X (compareOp .NotEq) rNe:=by
 intro am s σ H x y v u Q I bx bN h;obtain⟨a4,q⟩:=h;cases x with
 |non=>
  cases bx;cases y with
  |non=>cases bN;exact PySem.EqNone.ne_none_none (dh I q (by simp))
  |bl j=>cases bN;exact PySem.EqNone.ne_none_bool (dh I q (by simp))
  |int j=>obtain⟨t',rfl⟩:=bN;exact PySem.EqNone.ne_none_int (dh I q (by simp))
  |str j=>obtain⟨t',rfl⟩:=bN;exact PySem.EqNone.ne_none_str (dh I q (by simp))
  |_=>exact absurd (show false=true from a4) Qd
 |bl i=>
  cases bx;cases y with
  |non=>cases bN;exact PySem.EqNone.ne_bool_none (dh I q (by simp))
  |bl j=>cases bN;exact ne_bool (dh I q (congrArg not ZdJ))
  |str j=>obtain⟨t',rfl⟩:=bN;exact PySem.EqMixed.ne_bool_str (dh I q (by simp))
  |_=>exact absurd (show false=true from a4) Qd
 |int i=>
  obtain⟨t,rfl⟩:=bx;cases y with
  |non=>cases bN;exact PySem.EqNone.ne_int_none (dh I q (by simp))
  |int j=>obtain⟨t',rfl⟩:=bN;exact ne_int (dh I q (congrArg not Zb2))
  |str j=>obtain⟨t',rfl⟩:=bN;exact PySem.EqMixed.ne_int_str (dh I q (by simp))
  |_=>exact absurd (show false=true from a4) Qd
 |str i=>
  obtain⟨t,rfl⟩:=bx;cases y with
  |non=>cases bN;exact PySem.EqNone.ne_str_none (dh I q (by simp))
  |bl j=>cases bN;exact PySem.EqMixed.ne_str_bool (dh I q (by simp))
  |int j=>obtain⟨t',rfl⟩:=bN;exact PySem.EqMixed.ne_str_int (dh I q (by simp))
  |str j=>obtain⟨t',rfl⟩:=bN;exact ne_str (dh I q (congrArg not Zb9))
  |_=>exact absurd (show false=true from a4) Qd
 |byt i=>
  obtain⟨t,rfl⟩:=bx;cases y with
  |byt j=>obtain⟨t',rfl⟩:=bN;exact PySem.W.ne_bytes (dh I q (congrArg not Zca))
  |_=>exact absurd (show false=true from a4) Qd
 |_=>cases y<;>exact absurd (show false=true from a4) Qd
theorem pT:OpR X (compareOp .Lt) (rI0 λi j=> .bl (decide (i<j))):=ZdZ λ_ _ _ _ _ _ _ q=>lt_int q
theorem pU:OpR X (compareOp .Gt) (rI0 λi j=> .bl (decide (j<i))):=ZdZ λ_ _ _ _ _ _ _ q=>gt_int q
theorem lc:OpR X (compareOp .GtE) (rI0 λi j=> .bl (decide (j≤i))):=ZdZ λ_ _ _ _ _ _ _ q=>ge_int q
theorem OpR.or{f:Value→Value→Sem Value}{r cd:R2}(h:OpR X f r)(h':OpR X f cd):OpR X f (λx y H Q=>r x y H Q∨cd x y H Q):=by
 intro am s σ H x y v u Q I bx bN q;rcases q with q|q
 ·exact h am s σ H x y v u Q I bx bN q
 ·exact h' am s σ H x y v u Q I bx bN q
theorem c4(b:Expr){op:CmpOp}(h:op≠ .In:=by decide)(aC:op≠ .NotIn:=by decide):behindInMarks op b=false:=by
 have bu:(op==CmpOp.In)=false:=by cases op<;>first|rfl|exact absurd rfl h
 have bJ:(op==CmpOp.NotIn)=false:=by cases op<;>first|rfl|exact absurd rfl aC
 cases b<;>simp[behindInMarks,bu,bJ]
theorem iF{op:CmpOp}{r:R2}(a3:OpR X (compareOp op) r)(a2:PE X a bA)(ao:PE X b b1)(bq:behindInMarks op b=false):PE X (.Compare a [op] [b] pos) (tOp r bA b1):=by
 intro am s σ H Q I h;exact wpAny_Compare1 (mF a2 ao I h λv u bt x y ar ce bx bN q=>a3 am bt σ ar x y v u Q ce bx bN q) bq
noncomputable def pV (t:TE):TT:=λσ H Q=>t σ H λx H'=>∃k,x= .bl k∧Q k H'
theorem dA{op:CmpOp}{r:R2}(a3:OpR X (compareOp op) r)(a2:PE X a bA)(ao:PE X b b1)(bq:behindInMarks op b=false):PT X (.Compare a [op] [b] pos) (pV (tOp r bA b1)):=by
 intro am s σ H Q I h;refine wpAny_isTrue_Compare1 (thn (a2 am s σ H _ I h) λv aI ⟨x,aq,a6,bP,bZ⟩=>thn (ao am aI σ aq _ a6 bZ) λu bt ⟨y,ar,ce,b3,cj⟩=>
  thn (a3 am bt σ ar x y v u _ ce bP b3 cj) λc bv ⟨z,bR,db,fa,k,e,e'⟩=>?_) bq
 subst e;cases fa;exact wpAny_truthy_bool ⟨bR,db,e'⟩
noncomputable def pW (r cd:R2) (bA b1 cq:TE):TE:=λσ H Q=>bA σ H λx aq=>b1 σ aq λy ar=>r x y ar λz bR=>∃k,z= .bl k∧
 (if k=true then cq σ bR λfH bI=>cd y fH bI Q else Q (.bl false) bR)
theorem tm{op mG:CmpOp}{r cd:R2}(a3:OpR X (compareOp op) r)(hb:OpR X (compareOp mG) cd)(a2:PE X a bA)(ao:PE X b b1)(aw:PE X c cq)
  (bq:lastMarks [op,mG] [b,c]=false:=by with_unfolding_all rfl):PE X (.Compare a [op,mG] [b,c] pos) (pW r cd bA b1 cq):=by
 intro am s σ H Q I h;refine Compare_chain (thn (a2 am s σ H _ I h) λv aI ⟨x,aq,a6,bP,bZ⟩=>chain_link (thn (ao am aI σ aq _ a6 bZ) λu bt ⟨y,ar,ce,b3,cj⟩=>
  thn (a3 am bt σ ar x y v u _ ce bP b3 cj) λd bv ⟨z,bR,db,fa,k,e,e'⟩=>?_)) bq
 subst e;cases fa;refine wpAny_truthy_bool ?_;cases k with
 |false=>exact ite_ff ⟨.bl false,bR,db,rfl,e'⟩
 |true=>exact ite_tt (chain_last (thn (aw am bv σ bR _ db e') λfH cf ⟨eF,bI,j5,hl,tn⟩=>hb am cf σ bI y eF u fH Q j5 b3 hl tn))
def j8(K:Frag)(x:V)(H:Hp)(k:Bool):Prop:=
 match x with
 | .non=>k=false
 | .bl b=>k=b
 | .int i=>k=(i != 0)
 | .str y=>y.length≤sizeLine∧k=((y.length:Int) != 0)
 | .byt y=>y.size≤sizeLine∧k=((y.size:Int) != 0)
 | .ref p=>(∃xs,SqL K H p xs∧k= !xs.isEmpty)∨(∃xs,SqT K H p xs∧k= !xs.isEmpty)∨∃aP,H p=some (.dK aP)∧k= !aP.isEmpty
 |_=>False
theorem Zcy{cC:Type}{aP:List (cC×V)}{vs:List (cC×Value)}(r:KV aP vs):(!vs.isEmpty)= !aP.isEmpty:=by
 cases r<;>rfl
theorem UT{xs:List V}{its:List Value}(r:bS xs its):(!its.toArray.isEmpty)= !xs.isEmpty:=by
 cases r<;>simp
theorem iG:(sizeLine:Nat)<2 ^ 63:=by rw[sizeLine_eq];decide
theorem tp:ZhN X (λx H Q=>∃k,j8 X.K x H k∧Q k H):=by
 intro am s σ H x v Q I bx h;obtain⟨k,e,q⟩:=h;have ap:=iG;have a4:sizeLine=16777216:=sizeLine_eq;cases x with
 |non=>
  cases bx;have bH:k=false:=e;subst bH;exact truthy_none ⟨H,I,q⟩
 |bl b=>
  cases bx;have bH:k=b:=e;subst bH;exact wpAny_truthy_bool ⟨H,I,q⟩
 |int i=>
  obtain⟨t,rfl⟩:=bx;have bH:k=(i != 0):=e;subst bH;exact PySem.P.truthy_int ⟨H,I,q⟩
 |str y=>
  obtain⟨t,rfl⟩:=bx;obtain⟨bX,bH⟩:y.length≤sizeLine∧k=((y.length:Int) != 0):=e;subst bH;exact PySem.P.truthy_str (by omega) ⟨H,I.tok _,q⟩
 |byt y=>
  obtain⟨t,rfl⟩:=bx;obtain⟨bX,bH⟩:y.size≤sizeLine∧k=((y.size:Int) != 0):=e;subst bH;exact PySem.W.truthy_bytes (by omega) ⟨H,I.tok _,q⟩
 |ref p=>
  cases bx;have bH:(∃xs,SqL X.K H p xs∧k= !xs.isEmpty)∨(∃xs,SqT X.K H p xs∧k= !xs.isEmpty)∨∃aP,H p=some (.dK aP)∧k= !aP.isEmpty:=e;rcases bH with⟨xs,ax,bH⟩|⟨xs,ax,bH⟩|⟨aP,ax,bH⟩
  ·subst bH;obtain⟨its,r,pl,bw⟩:=I.list ax;have cJ:=r.length;exact wpAny_truthy_list pl.isList (by simp only[Qc];omega) ⟨H,I.tok _,by rw[UT r];exact q⟩
  ·subst bH;obtain⟨its,r,pl,bw⟩:=I.tuple ax;have cJ:=r.length;exact truthy_tuple pl (by simp only[Qc];omega) ⟨H,I.tok _,by rw[UT r];exact q⟩
  ·subst bH;obtain⟨bw,el,vs,r,m⟩:aP.length≤sizeLine∧(p==sysModules)=false∧∃vs,KV aP vs∧s.heap.DictOf (fo X.prog X.w) p vs:=I.hok p _ ax;have cJ:aP.length=vs.length:=Paired.length r;exact wpAny_truthy_dict el m (by omega) ⟨H,I.tok _,by rw[Zcy r];exact q⟩
 |_=>exact(show False from e).elim
theorem Zej(a2:PE X a bA)(bF:∀iA,isTrue a X.env iA=(do let v←iA;standAt a.pos;holding [v] (truthy v))):
  PT X a (λσ H Q=>bA σ H λx H'=>∃k,j8 X.K x H' k∧Q k H'):=by
 intro am s σ H Q I h;exact isTrue_plain (thn (a2 am s σ H _ I h) λv aI ⟨x,aq,a6,bP,bZ⟩=>tp am aI σ aq x v Q a6 bP bZ) (bF _)
theorem tq:OpR X (binaryOp .Add) (λx y H Q=>∃i j,x= .str i∧y= .str j∧i.length+j.length≤sizeLine∧Q (.str (i++j)) H):=by
 intro am s σ H x y v u Q I bx bN h;obtain⟨i,j,rfl,rfl,bw,q⟩:=h;obtain⟨t,rfl⟩:=bx;obtain⟨t',rfl⟩:=bN;exact add_str (λt' cw=>⟨.str (i++j),H,I.tok _,⟨_,rfl⟩,q⟩) bw
theorem Wg{x:V}{us:List Value}(r:bS [x] us):∃u,us=[u]∧b5 x u:=by
 cases r with
 |cons bP b3=>cases b3;exact⟨_,rfl,bP⟩
theorem ZgR{x y:V}{us:List Value}(r:bS [x,y] us):∃u fH,us=[u,fH]∧b5 x u∧b5 y fH:=by
 cases r with
 |cons bP b3=>
  cases b3 with
  |cons fa hl=>cases hl;exact⟨_,_,rfl,bP,fa⟩
theorem tr:Z0 X (.type "int") (λxs H Q=>(∃i,xs=[.int i]∧Q (.int i) H)∨∃k,xs=[.bl k]∧Q (.int (if k then 1 else 0)) H):=by
 intro am s σ H xs us Q I r h;rcases h with⟨i,rfl,q⟩|⟨k,rfl,q⟩
 ·obtain⟨u,rfl,t,rfl⟩:=Wg r;exact call_int_int ⟨.int i,H,I,⟨_,rfl⟩,q⟩
 ·obtain⟨u,rfl,bP⟩:=Wg r;cases bP;exact call_int_bool ⟨.int (if k then 1 else 0),H,I.tok _,⟨_,rfl⟩,q⟩
def Uk(K:Frag)(x:V)(H:Hp)(n:Nat):Prop:=
 match x with
 | .str y=>y.length≤sizeLine∧n=y.length
 | .byt y=>y.size≤sizeLine∧n=y.size
 | .ref p=>(∃xs,SqL K H p xs∧n=xs.length)∨∃xs,SqT K H p xs∧n=xs.length
 |_=>False
theorem ts:Z0 X (.builtin "len") (λxs H Q=>∃x n,xs=[x]∧Uk X.K x H n∧Q (.int n) H):=by
 intro am s σ H xs us Q I r h;obtain⟨x,n,rfl,e,q⟩:=h;obtain⟨u,rfl,bx⟩:=Wg r;have ap:=iG;have a4:sizeLine=16777216:=sizeLine_eq;cases x with
 |str y=>
  obtain⟨t,rfl⟩:=bx;obtain⟨bX,bH⟩:y.length≤sizeLine∧n=y.length:=e;subst bH;exact len_str (by omega) ⟨.int _,H,I.tok _,⟨_,rfl⟩,q⟩
 |byt y=>
  obtain⟨t,rfl⟩:=bx;obtain⟨bX,bH⟩:y.size≤sizeLine∧n=y.size:=e;subst bH;exact PySem.W.len_bytes (by omega) ⟨.int _,H,I.tok _,⟨_,rfl⟩,q⟩
 |ref p=>
  cases bx;have bH:(∃xs,SqL X.K H p xs∧n=xs.length)∨∃xs,SqT X.K H p xs∧n=xs.length:=e;rcases bH with⟨xs,ax,bH⟩|⟨xs,ax,bH⟩
  ·subst bH;obtain⟨its,cd,pl,bw⟩:=I.list ax;have cJ:=cd.length;exact Calls.call_len_list pl.isList (by simp only[Qc];omega) ⟨.int xs.length,H,I.tok _,⟨_,by simp only[Qc];rw[cJ]⟩,q⟩
  ·subst bH;obtain⟨its,cd,pl,bw⟩:=I.tuple ax;have cJ:=cd.length;exact len_tuple pl (by simp only[Qc];omega) ⟨.int xs.length,H,I.tok _,⟨_,by simp only[Qc];rw[cJ]⟩,q⟩
 |_=>exact(show False from e).elim
end
structure iH(h:Heap)(x aO C:Addr)(cN:Str→Option Value):Prop where
 obj:h.get? x=some (instObj C aO)
 ns:h.Ns1 aO cN
 ne:aO≠x
theorem ZdG{h:Heap}{aO:Addr}{cN:Str→Option Value}(n:h.Ns1 aO cN):∃cG,h.get? aO=some cG∧∀name,lookIn name cG=some (cN name):=by
 obtain⟨o,bp,c9,a3,hd,aD,_,bq⟩:=n;refine⟨o,a3,λname=>?_⟩;have e:=bq name;unfold nsFind findBy at e;rw[←Array.find?_toList] at e;unfold lookIn;rw[hd];dsimp only
 split
 ·rename_i y q;rw[q] at e;exact congrArg some e
 ·rename_i q;rw[q] at e;have a:bp.toList.any (·.refKey)=false:=by
   rw[List.any_eq_false];intro y bX;obtain⟨z,t,tu⟩:=aD y (Array.mem_toList_iff.mp bX);simp[DictEntry.refKey,tu]
  have cP:¬bp.toList.any (·.refKey)=true:=by rw[a];exact Qd
  rw[if_neg cP];exact congrArg some e
theorem iH.look{h:Heap}{x aO C:Addr}{cN:Str→Option Value}(I:iH h x aO C cN):∃cG,PySem.W.InstAt h x (instObj C aO) C (some cG)∧∀name,lookIn name cG=some (cN name):=
 let⟨cG,a3,ap⟩:=ZdG I.ns
 ⟨cG,⟨I.obj,rfl,rfl,a3⟩,ap⟩
section
variable {prog:Program}{w:World}{A:Around}{E:Value→Shared→Prop}{s:Shared}{K:Frag}{x aO C f:Addr}{cN:Str→Option Value}{name:Str}{v:Value}
theorem Ze9{tv:Bool}{Q:Value→Shared→Prop}(X:K.In s.heap)(I:iH s.heap x aO C cN)(bL:plainGet K C name=true)(b8:hasDictIn K C=true)
  (a2:PySem.W.findIn K (.ref C) name=some none) (b9:cN name=some v) (tw:handedIn v=true) (h:Q v {s with toks:=s.toks+1}):
  wpAny (model prog w) A (getAttr (.ref x) name tv) Q E s:=by
 obtain⟨cG,J,ap⟩:=I.look;exact PySem.W.get_value X J (plainGet_of bL).1 (PySem.W.findObj_own b8 a2 rfl (by rw[ap,b9])) tw h
theorem Zek{pl:Sem Bool}{Q:Value×List Value→Shared→Prop}(X:K.In s.heap)(I:iH s.heap x aO C cN)(bL:plainGet K C name=true)
  (a':PySem.W.findIn K (.ref C) name=some (some (.ref f))) (bM:isFn K (.ref f)=true) (b9:cN name=none) (h:Q (.ref f,[.ref x]) s):
  wpAny (model prog w) A (getMethod (.ref x) name pl) Q E s:=by
 obtain⟨cG,J,ap⟩:=I.look;exact PySem.W.method_fn X J (plainGet_of bL).1 (plainGet_of bL).2 a' (beq_iff_eq.mp bM) (by show(lookIn name cG).map (·.isSome)=some false;rw[ap,b9];rfl) h
theorem Zff{ns:List Str}{Q:Unit→Shared→Prop}(X:K.In s.heap)(I:iH s.heap x aO C cN)
  (a4:PySem.W.findIn K (.ref C) "__setattr__" =some (some (.builtin "object.__setattr__"))) (bo:plainOver K C=true) (bM:takerIn K C name=some none) (b8:hasDictIn K C=true)
  (hw:PySem.Within cN ns) (hsz:ns.length≤sizeLine)
  (h:∀h',iH h' x aO C (λy=>if y=name then some v else cN y)→Heap.SameBut aO s.heap h'→Q () {s with heap:=h',toks:=s.toks+2}):
  wpAny (model prog w) A (setAttr (.ref x) name v) Q E s:=by
 obtain⟨cG,J,ap⟩:=I.look;refine PySem.W.set_plain X J a4 (PySem.W.osa_open (s:={s with toks:=s.toks+1}) (r:=none) X J bo bM λb=>?_);obtain⟨b7,aw,jd⟩:=PySem.W.any_some b8;have ax:s.heap.get? x=some ⟨.ref C,some aO,.plain,#[]⟩:=I.obj;refine wpAny_bind (wpAny_pure (wpAny_bind (wpAny_bind (wpAny_loadPart ax (wpAny_bind (PySem.W.Looks.here (s:={s with toks:=s.toks+1}) (PySem.W.looks_clsIn X aw) ?_))))));rw[jd];refine wpAny_pure (a:=some aO) (wpAny_bind (wpAny_pure (wpAny_bind ?_)));refine wpAny_nsSet1 (s:={s with toks:=s.toks+1}) I.ns λh' fw eW=>?_;obtain⟨oD,Be,Bf,tx,tz,hm⟩:=fw.count (PySem.Within.cons name v hw);refine wpAny_bind (wpAny_lookBehind tx (by rw[tz];exact pastItsLine_dict (Qv hm (by rw[List.length_cons];omega))) ?_);exact wpAny_pure (h _ ⟨(eW.2 _ (Jj I.ne)).trans I.obj,fw,I.ne⟩ eW)
theorem tA{R:Result→Shared→Prop}{vs:List Value}{kw:List (Str×Value)}(X:K.In s.heap)(bq:makesIn K C=true)
  (hi:PySem.W.findIn K (.ref C) "__init__" =some (some (.ref f))) (a':typeIn K (.ref f)=some (.type "function"))
  (h:codeAny (model prog w) (A.under (.builtin "type.__call__" ⟨.ref C::vs,kw⟩)) (.call (.ref f) ⟨.ref (s.heap.objs.size+1)::vs,kw⟩) (PySem.W.InitBack (s.heap.objs.size+1) R)
   {s with heap:=(s.heap.push emptyDict).push (instObj C s.heap.objs.size)}):
  codeAny (model prog w) A (.call (.ref C) ⟨vs,kw⟩) R s:=by
 obtain⟨b8,g,d,t,os⟩:=s;exact PySem.W.make_core (PySem.W.makes_of X bq) (PySem.W.looks_findIn X hi) (λself=>PySem.W.bind_fn X self a') (.inl rfl) h
end
noncomputable def dV (f:Str) (v:V):List (Str×V)→List (Str×V)
 | []=>[(f,v)]
 |(g,x)::r=>if g=f then(g,v)::r else(g,x)::dV f v r
theorem Ud(f g:Str)(v:V):∀fs:List (Str×V),(dV f v fs).lookup g=if g=f then some v else fs.lookup g
 | []=>by
  show List.lookup g [(f,v)]=_
  by_cases h:g=f
  ·have ao:(g==f)=true:=beq_iff_eq.mpr h;simp only[List.lookup,ao,if_pos h]
  ·have ao:(g==f)=false:=beq_eq_false_iff_ne.mpr h;simp only[List.lookup,ao,if_neg h]
 |(k,x)::r=>by
  have b0:=Ud f g v r;rw[show dV f v ((k,x)::r)=(if k=f then(k,v)::r else(k,x)::dV f v r) from rfl]
  by_cases aD:k=f
  ·rw[if_pos aD]
   by_cases h:g=k
   ·have ao:(g==k)=true:=beq_iff_eq.mpr h;simp only[List.lookup,ao,if_pos (h.trans aD)]
   ·have ao:(g==k)=false:=beq_eq_false_iff_ne.mpr h;simp only[List.lookup,ao,if_neg (λe:g=f=>h (e.trans aD.symm))]
  ·rw[if_neg aD]
   by_cases h:g=k
   ·have ao:(g==k)=true:=beq_iff_eq.mpr h;simp only[List.lookup,ao,if_neg (λe:g=f=>aD (h.symm.trans e))]
   ·have ao:(g==k)=false:=beq_eq_false_iff_ne.mpr h;simp only[List.lookup,ao];exact b0
theorem mH(f:Str)(v:V):∀fs:List (Str×V),f∈(dV f v fs).map (·.1)∧∀g,g∈fs.map (·.1)→g∈(dV f v fs).map (·.1)
 | []=>⟨by simp[dV],λg h=>by simp at h⟩
 |(k,x)::r=>by
  obtain⟨dv,dN⟩:=mH f v r;rw[show dV f v ((k,x)::r)=(if k=f then(k,v)::r else(k,x)::dV f v r) from rfl]
  by_cases aD:k=f
  ·rw[if_pos aD];subst aD;exact⟨by simp,λg h=>by simpa using h⟩
  ·rw[if_neg aD];refine⟨?_,λg h=>?_⟩
   ·rw[List.map_cons];exact QE _ dv
   ·rw[List.map_cons] at h⊢;rcases Qu.mp h with e|e
    ·exact Qu.mpr (.inl e)
    ·exact QE _ (dN g e)
theorem Ua(f:Str)(v:V):∀fs:List (Str×V),(dV f v fs).length≤fs.length+1
 | []=>by simp[dV]
 |(k,x)::r=>by
  have b0:=Ua f v r;rw[show dV f v ((k,x)::r)=(if k=f then(k,v)::r else(k,x)::dV f v r) from rfl]
  by_cases aD:k=f
  ·rw[if_pos aD,List.length_cons,List.length_cons];omega
  ·rw[if_neg aD,List.length_cons,List.length_cons];omega
theorem fq.some_of{v:V}{o:Option Value}(r:fq (some v) o):∃u,o=some u∧b5 v u:=by
 cases o with
 |none=>exact(show False from r).elim
 |some u=>exact⟨u,rfl,r⟩
theorem fq.none_of{o:Option Value}(r:fq none o):o=none:=by
 cases o with
 |none=>rfl
 |some u=>exact(show False from r).elim
theorem tD{v:V}{u:Value}(r:b5 v u):handedIn u=true:=by
 cases v with
 |non=>cases (show u=Value.none from r);rfl
 |bl b=>cases (show u=Value.bool b from r);rfl
 |int i=>obtain⟨t,e⟩:=(show ∃t,u=Value.int i t from r);cases e;rfl
 |str x=>obtain⟨t,e⟩:=(show ∃t,u=Value.str x t from r);cases e;rfl
 |byt b=>obtain⟨t,e⟩:=(show ∃t,u=Value.bytes b t from r);cases e;rfl
 |flt b=>obtain⟨t,e⟩:=(show ∃t,u=Value.float b t from r);cases e;rfl
 |ref a=>cases (show u=Value.ref a from r);rfl
 |ty n=>cases (show u=Value.type n from r);rfl
section
variable {P:Program}{w:World}{H H':Hp}{h h':Heap}{a C aO:Addr}{fs kZ:List (Str×V)}
theorem VR(hok:HOk P w H h)(e:H a=some (.ins C aO fs)):∃cN,iH h a aO C cN∧(∀f,fq (fs.lookup f) (cN f))∧PySem.Within cN (fs.map (·.1))∧fs.length≤1000∧H aO=some (.own a):=by
 obtain⟨d,z,ne,b',cN,n,r,q⟩:=(show ZI P w H h a (.ins C aO fs) from hok a _ e);exact⟨cN,⟨b',n,ne⟩,r,q,z,d⟩
end
structure Cls(K:Frag)(C:Addr):Prop where
 pg:plainGet K C Str.empty=true
 hd:hasDictIn K C=true
 po:plainOver K C=true
 sa:PySem.W.findIn K (.ref C) "__setattr__" =some (some (.builtin "object.__setattr__"))
theorem Cls.get{K:Frag}{C:Addr}(c:Cls K C)(f:Str):plainGet K C f=true:=c.pg
def fx(K:Frag)(C:Addr)(f:Str):Prop:=PySem.W.findIn K (.ref C) f=some none
theorem fx.taker{K:Frag}{C:Addr}{f:Str}(n:fx K C f):takerIn K C f=some none:=by
 unfold takerIn;rw[show PySem.W.findIn K (.ref C) f=some none from n]
 rfl
structure UX(K:Frag)(C:Addr)(m:Str)(f:Addr):Prop where
 at_:PySem.W.findIn K (.ref C) m=some (some (.ref f))
 fn:isFn K (.ref f)=true
 kp:keepIn K (.ref f)=true
section
variable {X:Cx}{am:List (Addr×Obj)}{σ:St}{H:Hp}{s:Shared}{a C aO:Addr}{fs:List (Str×V)}{f:Str}{v:V}{A:Around}{E:Value→Shared→Prop}
theorem ZcB{b:Bool}{Q:Value→Shared→Prop}(I:Inv X am σ H s)(e:H a=some (.ins C aO fs))(c:Cls X.K C)(n:fx X.K C f)(l:fs.lookup f=some v)
  (h:∀u s',Inv X am σ H s'→b5 v u→Q u s'):wpAny (model X.prog X.w) A (getAttr (.ref a) f b) Q E s:=by
 obtain⟨cN,O,r,_,_,_⟩:=VR I.hok e;obtain⟨u,hu,d4⟩:=fq.some_of (v:=v) (o:=cN f) (by rw[←l];exact r f);exact Ze9 I.kIn O (c.get f) c.hd n hu (tD d4) (h u _ (I.tok _) d4)
theorem Ve{m:Str}{g:Addr}{pl:Sem Bool}{Q:Value×List Value→Shared→Prop}(I:Inv X am σ H s)(e:H a=some (.ins C aO fs))(c:Cls X.K C)(k:UX X.K C m g)(l:fs.lookup m=none)
  (h:Q (.ref g,[.ref a]) s):wpAny (model X.prog X.w) A (getMethod (.ref a) m pl) Q E s:=by
 obtain⟨cN,O,r,_,_,_⟩:=VR I.hok e;have br:cN m=none:=fq.none_of (by rw[←l];exact r m);exact Zek I.kIn O (c.get m) k.at_ k.fn br h
theorem ZcT{y:V}{u:Value}{Q:Unit→Shared→Prop}(I:Inv X am σ H s)(e:H a=some (.ins C aO fs))(c:Cls X.K C)(n:fx X.K C f)(ap:fs.length<1000)(bN:b5 y u)
  (h:∀s',Inv X am σ (upd H a (.ins C aO (dV f y fs))) s'→Q () s'):wpAny (model X.prog X.w) A (setAttr (.ref a) f u) Q E s:=by
 obtain⟨cN,O,r,cT,_,a3⟩:=VR I.hok e;have bw:(fs.map (·.1)).length≤sizeLine:=by rw[Qa,sizeLine_eq];omega
 refine Zff I.kIn O c.sa c.po n.taker c.hd cT bw λh' O' hh=>h _ ?_;have hd:∃o,h'.get? aO=some o:=let⟨o,_,_,bH,_⟩:=O'.ns;⟨o,bH⟩
 refine I.write (x:=a) (e:=aO) (by rw[e];exact True.intro) (.inr a3) (λb q ao z=>(hh.2 b ao).trans z) hd ?_;refine⟨by rw[bV O.ne];exact a3,?_,O.ne,O'.obj,_,O'.ns,λg=>?_,λg bL=>?_⟩
 ·have:=Ua f y fs;omega
 ·show fq ((dV f y fs).lookup g) (if g=f then some u else cN g);rw[Ud]
  by_cases q:g=f
  ·rw[if_pos q,if_pos q];exact bN
  ·rw[if_neg q,if_neg q];exact r g
 ·by_cases q:g=f
  ·rw[q];exact(mH f y fs).1
  ·refine(mH f y fs).2 g (cT g λz=>bL ?_);show(if g=f then some u else cN g)=none;rw[if_neg q];exact z
theorem Inv.made(I:Inv X am σ H s):Inv X am σ (upd (upd H s.heap.objs.size (.own (s.heap.objs.size+1))) (s.heap.objs.size+1) (.ins C s.heap.objs.size []))
  {s with heap:=(s.heap.push emptyDict).push (instObj C s.heap.objs.size)}:=by
 have bu:(s.heap.push emptyDict).get? s.heap.objs.size=some emptyDict:=Heap.get?_push_size s.heap rfl;have bJ:((s.heap.push emptyDict).push (instObj C s.heap.objs.size)).get? (s.heap.objs.size+1)=some (instObj C s.heap.objs.size):=by
  have:=Heap.get?_push_size (s.heap.push emptyDict) (o:=instObj C s.heap.objs.size) rfl
  rwa [Heap.size_push] at this
 have d3:(s.heap.push emptyDict).Ns s.heap.objs.size (λ_=>none):=⟨emptyDict,#[],_,bu,rfl,(λe bF=>absurd bF (by simp)),λ_=>rfl⟩;have a6:=I.laid (a:=s.heap.objs.size) (o:= .own (s.heap.objs.size+1)) (h':=s.heap.push emptyDict) (t':=s.toks) (λb u q=>Heap.get?_push_of_some _ q) (Qb _) ⟨_,bu⟩;refine a6.laid (a:=s.heap.objs.size+1) (o:= .ins C s.heap.objs.size []) (t':=s.toks) (λb u q=>Heap.get?_push_of_some _ q) (Nat.le_of_eq (Heap.size_push _ _)) ?_;have ne:s.heap.objs.size≠s.heap.objs.size+1:=Qm (Nat.lt_succ_self _);refine⟨by rw[bV ne,Ze],Qs _,ne,bJ,λ_=>none,(Heap.Ns1.of_empty d3).at λo q=>Heap.get?_push_of_some _ q,λ_=>True.intro,λy bX=>absurd rfl bX⟩
theorem Zfj{prog:Program}{w:World}{env:Env}{e:Expr}{f:Str}{pos:Pos}{s:Shared}{Q:Value→Shared→Prop}(ao:attributeBase e f env (eval e env)=eval e env)
  (h:wpAny (model prog w) A (eval e env) (λo cn=>wpAny (model prog w) A (getAttr o f true) Q E cn) E s):wpAny (model prog w) A (eval (.Attribute e f pos) env) Q E s:=
 Attribute_any_ h (by rw[arm_eval_Attribute,ao])
end
noncomputable def mI (K:Frag) (bA:TE) (f:Str):TE:=λσ H Q=>bA σ H λx aq=>∃a C aO fs v,x= .ref a∧aq a=some (.ins C aO fs)∧Cls K C∧fx K C f∧fs.lookup f=some v∧Q v aq
noncomputable def mJ (K:Frag) (bA gl:TE) (f:Str):TS:=λD σ H=>gl σ H λy aq=>bA σ aq λx ar=>∃a C aO fs,x= .ref a∧ar a=some (.ins C aO fs)∧Cls K C∧fx K C f∧fs.length<1000∧
 D.nx σ (upd ar a (.ins C aO (dV f y fs)))
section
variable {X:Cx}{o e value:Expr}{f:Str}{pos gg mK:Pos}{bA gl:TE}
theorem ZfE(bF:PE X e bA)(ao:attributeBase e f X.env (eval e X.env)=eval e X.env):PE X (.Attribute e f pos) (mI X.K bA f):=by
 intro am s σ H Q I h;refine Zfj ao (thn (bF am s σ H _ I h) λu aI ⟨x,aq,a6,bx,a,C,aO,fs,v,ex,ea,c,n,l,q⟩=>?_);subst ex;obtain rfl:u=Value.ref a:=bx;exact ZcB a6 ea c n l λk6 bt ce d4=>⟨v,aq,ce,d4,q⟩
theorem ZgE(a2:PE X o bA)(b9:PE X value gl)(a4:swapsWith value (some (.Attribute o f gg)) pos.line X.env=pure false):PS X (.Assign [.Attribute o f gg] value pos) (mJ X.K bA gl f):=by
 intro am s σ H D I h;refine plainObj_wpAny_Assign_Attribute (thn (b9 am s σ H _ I h) λu aI ⟨y,aq,a6,bN,q⟩=>thn (a2 am aI σ aq _ a6 q) λdt bt ⟨x,ar,ce,bx,a,C,aO,fs,ex,ea,c,n,l,cj⟩=>?_) a4;subst ex;obtain rfl:dt=Value.ref a:=bx;exact ZcT ce ea c n l bN λbv db=>⟨σ,_,db,cj⟩
theorem ZgF{pl:Sem Bool}{m:Str}{dE:Pos}{args:List Expr}{am:List (Addr×Obj)}{s:Shared}{σ:St}{H:Hp}{Q:Value→Shared→Prop}{bK:TE}(bF:PE X e bK)(I:Inv X am σ H s)
  (h:bK σ H λx aq=>∃a C aO fs g,x= .ref a∧aq a=some (.ins C aO fs)∧Cls X.K C∧UX X.K C m g∧fs.lookup m=none∧
   ∀aI,Inv X am σ aq aI→wpAny (model X.prog X.w) X.A (callWith pos (.ref g) [.ref a] (backTo pos (starEach args X.env)) (backToKw pos (keywordEach [] X.env))) Q X.xe aI)
  (bM:eval (.Call (.Attribute e m dE) args [] pos) X.env=(do
   let dt←eval e X.env
   standAt dE.atName
   let(f,first)←holding [dt] (getMethod dt m pl)
   callWith pos f first (backTo pos (starEach args X.env)) (backToKw pos (keywordEach [] X.env)))):
  wpAny (model X.prog X.w) X.A (eval (.Call (.Attribute e m dE) args [] pos) X.env) Q X.xe s:=by
 refine methodCall_KW (pl:=pl) (thn (bF am s σ H _ I h) λu aI ⟨x,aq,a6,bx,a,C,aO,fs,g,ex,ea,c,k,l,q⟩=>?_) bM;subst ex;obtain rfl:u=Value.ref a:=bx;exact Ve a6 ea c k l (q aI a6)
end
section
variable {X:Cx}{am:List (Addr×Obj)}{σ:St}{H:Hp}{s:Shared}{A:Around}{E:Value→Shared→Prop}{Q:Value→Shared→Prop}{c:Value}{b:Bool}
inductive YF(K:Frag)(H:Hp):V→Value→Prop where
 |non:YF K H .non (.type "NoneType")
 |bl (x:Bool):YF K H (.bl x) (.type "bool")
 |int (i:Int):YF K H (.int i) (.type "int")
 |str (x:Str):YF K H (.str x) (.type "str")
 |flt (x:UInt64):YF K H (.flt x) (.type "float")
 |lst {a:Addr} {xs:List V} (e:H a=some (.lst xs)):YF K H (.ref a) (.type "list")
 |frz {a:Addr} {o:Obj} {xs:List V} (e:H a=some (.frz o (.lst xs))):YF K H (.ref a) (.type "list")
 |tup {a:Addr} {xs:List V} (e:H a=some (.tup xs)):YF K H (.ref a) (.type "tuple")
 |dK {a:Addr} {aP:List (Key×V)} (e:H a=some (.dK aP)):YF K H (.ref a) (.type "dict")
 |dT {a:Addr} {aP:List (List Key×V)} (e:H a=some (.dT aP)):YF K H (.ref a) (.type "dict")
 |ins {a C aO:Addr} {fs:List (Str×V)} (e:H a=some (.ins C aO fs)) (cl:Cls K C) (a2:PySem.W.findIn K (.ref C) "__class__" =some (some (.builtin "object.__class__")))
   (br:PySem.W.specialIn K (.builtin "object.__class__") "__get__" =some (some (.builtin "getset_descriptor.__get__"))) (pX:PySem.W.takesIn K (.builtin "object.__class__")=some true)
   (bq:PySem.W.mroIn K C (.type "object")=some true):YF K H (.ref a) (.ref C)
theorem ZdC{x:V}{u t:Value}(I:Inv X am σ H s)(bx:b5 x u)(ty:YF X.K H x t)(e:PySem.W.kitOne X.K t c=some b)(h:∀cw,Q (.bool b) {s with toks:=cw}):
  wpAny (model X.prog X.w) A (call (.builtin "isinstance") [u,c]) Q E s:=by
 cases ty with
 |non=>cases (show u=Value.none from bx);exact QH PySem.W.kitx_none I.kIn True.intro e (λz=>nomatch z) h
 |bl y=>cases (show u=Value.bool y from bx);exact QH PySem.W.kitx_bool I.kIn True.intro e (λz=>nomatch z) h
 |int i=>obtain⟨t,q⟩:=(show ∃t,u=Value.int i t from bx);cases q;exact QH PySem.W.kitx_int I.kIn True.intro e (λz=>nomatch z) h
 |str y=>obtain⟨t,q⟩:=(show ∃t,u=Value.str y t from bx);cases q;exact QH PySem.W.kitx_str I.kIn True.intro e (λz=>nomatch z) h
 |flt y=>obtain⟨t,q⟩:=(show ∃t,u=Value.float y t from bx);cases q;exact QH PySem.W.kitx_float I.kIn True.intro e (λz=>nomatch z) h
 | @lst a xs ea=>
  cases (show u=Value.ref a from bx);obtain⟨_,_,n,_,aB⟩:=(show ZI X.prog X.w H s.heap a (.lst xs) from I.hok a _ ea);exact QH kitx_list I.kIn ⟨_,aB,rfl⟩ e (λz=>nomatch z) h
 | @frz a b' xs ea=>
  cases (show u=Value.ref a from bx);obtain⟨_,_,_,n,_,aB⟩:=(show ZI X.prog X.w H s.heap a (.frz b' (.lst xs)) from I.hok a _ ea);exact QH kitx_list I.kIn ⟨_,aB,rfl⟩ e (λz=>nomatch z) h
 | @tup a xs ea=>
  cases (show u=Value.ref a from bx);obtain⟨_,_,_,p⟩:=(show ZI X.prog X.w H s.heap a (.tup xs) from I.hok a _ ea);obtain⟨o,aB,aC,_⟩:=p;exact QH PySem.W.kitx_tuple I.kIn ⟨o,aB,aC⟩ e (λz=>nomatch z) h
 | @dK a aP ea=>
  cases (show u=Value.ref a from bx);obtain⟨_,_,vs,_,p⟩:=(show ZI X.prog X.w H s.heap a (.dK aP) from I.hok a _ ea);obtain⟨o,bp,c9,aB,aC,_⟩:=p;exact QH kitx_dict I.kIn ⟨o,aB,aC.1⟩ e (λz=>nomatch z) h
 | @dT a aP ea=>
  cases (show u=Value.ref a from bx);obtain⟨_,_,xs,_,o,bp,c9,aB,aC,_⟩:=(show ZI X.prog X.w H s.heap a (.dT aP) from I.hok a _ ea);exact QH kitx_dict I.kIn ⟨o,aB,aC.1⟩ e (λz=>nomatch z) h
 | @ins a C aO fs ea cl a2 br pX bq=>
  cases (show u=Value.ref a from bx);obtain⟨cN,O,_⟩:=VR I.hok ea;obtain⟨cG,J,_⟩:=O.look;exact QH (PySem.W.kitx_own (cl.get _) cl.hd a2 br pX bq) I.kIn J e (λz=>nomatch z) h
end
structure cU(k:Nat)(A:Around):Prop where
 hd:A.handled=none
 dp:A.depth+3*k+5<recursionLimit
 un:A.units+16*k+200<cLine
theorem cU.mono{j k:Nat}{A:Around}(r:cU k A)(h:j≤k):cU j A:=⟨r.hd,by have:=r.dp;omega,by have:=r.un;omega⟩
theorem cU.deeper{k:Nat}{A:Around}(r:cU (k+1) A)(env:Env):cU k (A.deeper env):=
 ⟨r.hd,by have:=r.dp;show A.depth+1+3*k+5<_;omega,by have:=r.un;show A.units+3+16*k+200<_;omega⟩
theorem Zcg{A:Around}{C:Addr}{us:List Value}{kw:List (Str×Value)}:(A.under (.builtin "type.__call__" ⟨.ref C::us,kw⟩)).depth=A.depth+1:=by
 first|rfl|simp[Around.under,Code.weight,Code.isCreation,Code.isGuard,Code.isCaller,Code.frames,Code.isFrame,guardIds]
theorem ZcC{A:Around}{C:Addr}{us:List Value}{kw:List (Str×Value)}:(A.under (.builtin "type.__call__" ⟨.ref C::us,kw⟩)).units=A.units+1:=by
 first|rfl|simp[Around.under,Code.cUnits,Code.frames,Code.isFrame]
theorem cU.make{k:Nat}{A:Around}(r:cU (k+1) A)(C:Addr)(us:List Value)(kw:List (Str×Value)):cU k (A.under (.builtin "type.__call__" ⟨.ref C::us,kw⟩)):=
 ⟨r.hd,by have:=r.dp;rw[Zcg];omega,by have:=r.un;rw[ZcC];omega⟩
theorem cU.depth{k:Nat}{A:Around}(r:cU k A):A.depth<recursionLimit:=by have:=r.dp;omega
theorem cU.units{k:Nat}{A:Around}(r:cU k A):A.units+64<cLine:=by have:=r.un;omega
noncomputable def tNil:TA:=λ_ H Q=>Q [] H
noncomputable def pY (bA:TE) (lf:TA):TA:=λσ H Q=>bA σ H λx aq=>lf σ aq λxs ar=>Q (x::xs) ar
section
variable {X:Cx}{e:Expr}{bp:List Expr}{bK:TE}{t:TA}{pos:Pos}
theorem aJ:PA X [] tNil:=λ_ _ _ _ H Q I h=>Calls.spliced_nil ⟨[],H,I,.nil,h⟩
theorem av(a2:PE X e bK)(aH:PA X bp t)(a4:starEach (e::bp) X.env=(false,eval e X.env)::starEach bp X.env:=by rfl):PA X (e::bp) (pY bK t):=by
 intro pos am s σ H Q I h;rw[a4];show wpAny _ _ (spliced ((false,eval e X.env)::backTo pos (starEach bp X.env))) _ _ s;refine Calls.spliced_cons (thn (a2 am s σ H _ I h) λu aI ⟨x,aq,a6,bP,bZ⟩=>?_);exact thn (aH pos am aI σ aq _ a6 bZ) λus bt ⟨xs,ar,ce,b3,cj⟩=>⟨x::xs,ar,ce,.cons bP b3,cj⟩
noncomputable def pZ (t:TA):TE:=λσ H Q=>t σ H λxs aq=>xs.length≤sizeLine∧∀p,aq p=none→Q (.ref p) (upd aq p (.tup xs))
noncomputable def p0 (t:TA):TE:=λσ H Q=>t σ H λxs aq=>xs.length≤sizeLine∧∀p,aq p=none→Q (.ref p) (upd aq p (.lst xs))
theorem gW{x1}(h:PA X bp t):PE X (.Tuple bp x1 pos) (pZ t):=by
 intro am s σ H Q I bC;refine wpAny_Tuple_spliced (thn (h pos am s σ H _ I bC) λus aI ⟨xs,aq,a6,r,z,q⟩=>⟨by rw[←r.length];exact z,?_⟩);have a':aq aI.heap.objs.size=none:=a6.hok.fresh (Qb _);refine⟨.ref aI.heap.objs.size,upd aq aI.heap.objs.size (.tup xs),a6.laid (t':=aI.toks) (λb u e=>Heap.get?_push_of_some _ e) (Qb _) ?_,rfl,q _ a'⟩;exact⟨z,us,r,⟨_,Heap.get?_push_size _ rfl,rfl,_,rfl⟩⟩
theorem eu(h:PA X bp t):PE X (.List bp pos) (p0 t):=by
 intro am s σ H Q I bC;refine wpAny_List_spliced (thn (h pos am s σ H _ I bC) λus aI ⟨xs,aq,a6,r,z,q⟩=>⟨by rw[←r.length];exact z,?_⟩);have a':aq aI.heap.objs.size=none:=a6.hok.fresh (Qb _);refine⟨.ref aI.heap.objs.size,upd aq aI.heap.objs.size (.lst xs),a6.laid (t':=aI.toks) (λb u e=>Heap.get?_push_of_some _ e) (Qb _) ?_,rfl,q _ a'⟩;exact⟨z,us,0,r,Heap.get?_push_size _ rfl⟩
end
noncomputable abbrev Sp:=List V→Hp→VK→XK→Prop
noncomputable abbrev CXT:=List Env→Hp→Shared→XK→Value→Shared→Prop
structure WZ(P:Program)(w:World)(K:Frag)(mg:Str→Option Value)(base:Heap)(A:Around)(outer:List Env)(s:Shared)(H:Hp):Prop where
 frames:A.frames=some outer
 mod:Mod K mg base
 bs:∀b o,base.get? b=some o→s.heap.get? b=some o∧H b=none
 bsz:base.objs.size≤s.heap.objs.size
 funs:s.heap.FunFrames base outer
 frf:∀b∈frs outer,H b=none
 hok:HOk P w H s.heap
 bare:AllBare s.gens
def CE(outer:List Env)(P:Program)(w:World)(H:Hp)(s:Shared)(Q:VK)(u:Value)(s':Shared):Prop:=
 ∃v H',s'.os=s.os∧AllBare s'.gens∧Un (frs outer) [] H H' s.heap s'.heap∧HOk P w H' s'.heap∧b5 v u∧Q v H'
def CR(CX:CXT)(outer:List Env)(P:Program)(w:World)(H:Hp)(s:Shared)(Q:VK)(E:XK)(r:Result)(s':Shared):Prop:=
 match r with
 | .ok (.ret u)=>CE outer P w H s Q u s'
 | .ok _=>False
 | .error e=>CX outer H s E e s'
structure Z7(P:Program)(w:World)(K:Frag)(mg:Str→Option Value)(base:Heap)(CX:CXT)(k:Nat)(f:Addr)(fd:FuncData)(a_:List Str)(sp:Sp):Prop where
 len:∀vs H Q E,sp vs H Q E→vs.length=a_.length
 run:∀(A:Around)(outer:List Env)(s:Shared)(H:Hp)(args:Args)(us:List Value)(vs:List V)(Q:VK)(E:XK),cU k A→WZ P w K mg base A outer s H→BindsTo s fd args (a_.zip us)→bS vs us→sp vs H Q E→
  codeAny (model P w) A (.call (.ref f) args) (CR CX outer P w H s Q E) s
theorem Z7.mono{P:Program}{w:World}{K:Frag}{mg:Str→Option Value}{base:Heap}{CX:CXT}{j k:Nat}{f:Addr}{fd:FuncData}{a_:List Str}{sp:Sp}(F:Z7 P w K mg base CX j f fd a_ sp)(h:j≤k):
  Z7 P w K mg base CX k f fd a_ sp:=⟨F.len,λA outer s H args us vs Q E aH=>F.run A outer s H args us vs Q E (aH.mono h)⟩
theorem WZ.make{P:Program}{w:World}{K:Frag}{mg:Str→Option Value}{base:Heap}{A:Around}{outer:List Env}{s:Shared}{H:Hp}(e:WZ P w K mg base A outer s H)(C:Addr)(us:List Value)(kw:List (Str×Value)):
  WZ P w K mg base (A.under (.builtin "type.__call__" ⟨.ref C::us,kw⟩)) outer s H:=⟨by first|exact e.frames|(simpa[Around.under,Code.envs,Code.isFrame,pushEnvs] using e.frames),e.mod,e.bs,e.bsz,e.funs,e.frf,e.hok,e.bare⟩
section
variable {X:Cx}{am:List (Addr×Obj)}{σ:St}{H:Hp}{s s':Shared}
theorem Inv.env0(I:Inv X am σ H s):WZ X.prog X.w X.K X.mg X.base X.A X.stack s H:=
 ⟨I.ok.frames,I.ok.mod,I.bs,Qv I.ok.bsz I.sz,I.stack,I.stkFree,I.hok,I.bare⟩
theorem Inv.after{Q:VK}{u:Value}(I:Inv X am σ H s)(h:CE X.stack X.prog X.w H s Q u s'):EP X am σ Q u s':=by
 obtain⟨v,H',os,bare,un,hok,r,q⟩:=h;obtain⟨b8,g,d,t,tE⟩:=s';obtain rfl:tE=s.os:=os;exact⟨v,H',I.call (h':=b8) (g':=g) (d':=d) (t':=t) (ch:=[]) un hok bare (λb z=>absurd z (by simp)),r,q⟩
end
noncomputable def lg (sp:Sp) (cF:List V) (E:XK) (t:TA):TE:=λσ H Q=>t σ H λvs aq=>sp (vs++cF) aq Q E
noncomputable def j9 (C:Addr) (m:Str) (sp:Sp) (cF:List V) (E:XK) (bA:TE) (t:TA):TE:=λσ H Q=>bA σ H λx aq=>∃a aO fs,x= .ref a∧aq a=some (.ins C aO fs)∧fs.lookup m=none∧
 t σ aq λvs ar=>sp (x::(vs++cF)) ar Q E
noncomputable def mL (C:Addr) (sp:Sp) (cF:List V) (E:XK) (t:TA):TE:=λσ H Q=>t σ H λvs aq=>∀x aO,aq x=none→aq aO=none→aO≠x→
 sp (.ref x::(vs++cF)) (upd (upd aq aO (.own x)) x (.ins C aO [])) (λv ar=>v= .non∧Q (.ref x) ar) E
def Yy(K:Frag)(fd:FuncData)(a_:List Str)(cK:List Value):Prop:=
 ∀(s:Shared)(us:List Value),K.In s.heap→(us++cK).length=a_.length→BindsTo s fd ⟨us,[]⟩ (a_.zip (us++cK))
theorem Yy.all{K:Frag}{fd:FuncData}{a_:List Str}(h:∀us:List Value,us.length=a_.length→bindArgs fd ⟨us,[]⟩=pure (a_.zip us)):Yy K fd a_ []:=λs us _ ap=>by
 rw[QZ] at ap⊢;exact .of_eq (h us ap)
def YD(CX:CXT)(X:Cx)(E:XK):Prop:=∀(am:List (Addr×Obj))(σ:St)(H:Hp)(s:Shared)(e:Value)(s':Shared),Inv X am σ H s→CX X.stack H s E e s'→X.xe e s'
section
variable {X:Cx}{CX:CXT}{k:Nat}{f C:Addr}{fd:FuncData}{a_:List Str}{sp:Sp}{cF:List V}{cK:List Value}{E:XK}{x m:Str}{p pos dE:Pos}{e o:Expr}{bp:List Expr}{bA:TE}{t:TA}
theorem mM{am:List (Addr×Obj)}{σ:St}{H:Hp}{s:Shared}{Q:VK}{us:List Value}{vs:List V}(F:Z7 X.prog X.w X.K X.mg X.base CX k f fd a_ sp)(aH:cU k X.A)(ao:Yy X.K fd a_ cK)(hd:bS cF cK)(ax:YD CX X E)
  (I:Inv X am σ H s) (r:bS vs us) (h:sp (vs++cF) H Q E):wpAny (model X.prog X.w) X.A (call (.ref f) us) (EP X am σ Q) X.xe s:=by
 have b3:bS (vs++cF) (us++cK):=r.append hd;have ap:(us++cK).length=a_.length:=by rw[←b3.length];exact F.len _ _ _ _ h
 refine wpAny_call (codeAny_mono (F.run X.A X.stack s H ⟨us,[]⟩ (us++cK) (vs++cF) Q E aH I.env0 (ao s us I.kIn ap) b3 h) λr s' bC=>?_);cases r with
 |error e=>exact ax am σ H s e s' I bC
 |ok cO=>
  cases cO with
  |ret u=>exact I.after bC
  |next=>exact False.elim bC
  |brk=>exact False.elim bC
  |cont=>exact False.elim bC
theorem ZeY(F:Z7 X.prog X.w X.K X.mg X.base CX k f fd a_ sp)(aH:cU k X.A)(bL:Gl X x)(bq:X.mg x=some (.ref f))(aD:keepIn X.K (.ref f)=true)(ao:Yy X.K fd a_ cK)(hd:bS cF cK)(ax:YD CX X E)
  (a2:PA X (e::bp) t) (dW:(x==("__debug__" :Str))=false:=by decide) (bF:starEach (e::bp) X.env=(false,eval e X.env)::starEach bp X.env:=by rfl) (em:(backTo pos (starEach bp X.env)).any (·.1)=false:=by rfl):
  PE X (.Call (.Name x p) (e::bp) [] pos) (lg sp cF E t):=by
 intro am s σ H Q I h;refine wpAny_Call_Name_kw (iB I bL bq ?_ dW);refine callWith_K (h₀:=X.base) I.ok.mod.kin aD (thn (a2 pos am s σ H _ I h) λus aI ⟨vs,aq,a6,r,q⟩=>⟨a6.kIn,?_⟩) bF em;exact mM F aH ao hd ax a6 r q
theorem p1{pl:Sem Bool}(bF:PE X o bA)(c:Cls X.K C)(bq:UX X.K C m f)(F:Z7 X.prog X.w X.K X.mg X.base CX k f fd a_ sp)(aH:cU k X.A)(ao:Yy X.K fd a_ cK)(hd:bS cF cK)(ax:YD CX X E)(a2:PA X (e::bp) t)
  (du:starEach (e::bp) X.env=(false,eval e X.env)::starEach bp X.env:=by rfl) (em:(backTo pos (starEach bp X.env)).any (·.1)=false:=by rfl)
  (bM:eval (.Call (.Attribute o m dE) (e::bp) [] pos) X.env=(do
   let dt←eval o X.env
   standAt dE.atName
   let(f,first)←holding [dt] (getMethod dt m pl)
   callWith pos f first (backTo pos (starEach (e::bp) X.env)) (backToKw pos (keywordEach [] X.env))):=by rfl):
  PE X (.Call (.Attribute o m dE) (e::bp) [] pos) (j9 C m sp cF E bA t):=by
 intro am s σ H Q I h;refine methodCall_KW (pl:=pl) (thn (bF am s σ H _ I h) λu aI ⟨x,aq,a6,bx,a,aO,fs,ex,ea,l,q⟩=>?_) bM;subst ex;obtain rfl:u=Value.ref a:=bx;refine Ve a6 ea c bq l ?_;refine callWith_K (first:=[.ref a]) (h₀:=X.base) I.ok.mod.kin bq.kp (thn (a2 pos am aI σ aq _ a6 q) λus bt ⟨vs,ar,ce,r,cj⟩=>⟨ce.kIn,?_⟩) du em;exact mM (us:= .ref a::us) (vs:= .ref a::vs) F aH ao hd ax ce (.cons rfl r) cj
theorem Zew{pl:Sem Bool}(bF:PE X o bA)(c:Cls X.K C)(bq:UX X.K C m f)(F:Z7 X.prog X.w X.K X.mg X.base CX k f fd a_ sp)(aH:cU k X.A)(ao:Yy X.K fd a_ cK)(hd:bS cF cK)(ax:YD CX X E)
  (bM:eval (.Call (.Attribute o m dE) [] [] pos) X.env=(do
   let dt←eval o X.env
   standAt dE.atName
   let(f,first)←holding [dt] (getMethod dt m pl)
   callWith pos f first (backTo pos (starEach [] X.env)) (backToKw pos (keywordEach [] X.env))):=by rfl):
  PE X (.Call (.Attribute o m dE) [] [] pos) (j9 C m sp cF E bA tNil):=by
 intro am s σ H Q I h;refine methodCall_KW (pl:=pl) (thn (bF am s σ H _ I h) λu aI ⟨x,aq,a6,bx,a,aO,fs,ex,ea,l,q⟩=>?_) bM;subst ex;obtain rfl:u=Value.ref a:=bx;refine Ve a6 ea c bq l ?_;exact callWith_K0 (first:=[.ref a]) a6.kIn bq.kp (mM (us:=[.ref a]) (vs:=[.ref a]) F aH ao hd ax a6 (.cons rfl .nil) q)
structure Mk(K:Frag)(C f:Addr):Prop where
 makes:makesIn K C=true
 init:PySem.W.findIn K (.ref C) "__init__" =some (some (.ref f))
 fn:isFn K (.ref f)=true
 kp:keepIn K (.ref C)=true
theorem tF{am:List (Addr×Obj)}{σ:St}{H:Hp}{s:Shared}{Q:VK}{us:List Value}{vs:List V}(M:Mk X.K C f)(F:Z7 X.prog X.w X.K X.mg X.base CX k f fd a_ sp)(aH:cU (k+1) X.A)(ao:Yy X.K fd a_ cK)(hd:bS cF cK)
  (ax:YD CX X E) (I:Inv X am σ H s) (r:bS vs us)
  (h:∀x aO,H x=none→H aO=none→aO≠x→sp (.ref x::(vs++cF)) (upd (upd H aO (.own x)) x (.ins C aO [])) (λv ar=>v= .non∧Q (.ref x) ar) E):
  wpAny (model X.prog X.w) X.A (call (.ref C) us) (EP X am σ Q) X.xe s:=by
 have bC:=h (s.heap.objs.size+1) s.heap.objs.size (I.hok.fresh (Nat.le_succ _)) (I.hok.fresh (Qb _)) (Qm (Nat.lt_succ_self _));have ce:=Inv.made (C:=C) I;have b3:bS (V.ref (s.heap.objs.size+1)::(vs++cF)) (Value.ref (s.heap.objs.size+1)::(us++cK)):= .cons rfl (r.append hd);have ap:(Value.ref (s.heap.objs.size+1)::us++cK).length=a_.length:=by
  have e:=b3.length;rw[F.len _ _ _ _ bC] at e;exact e.symm
 refine wpAny_call (tA (f:=f) I.kIn M.makes M.init (beq_iff_eq.mp M.fn) (codeAny_mono (F.run _ X.stack _ _ ⟨Value.ref (s.heap.objs.size+1)::us,[]⟩ (Value.ref (s.heap.objs.size+1)::(us++cK)) _ _ E (aH.make C us [])
  (ce.env0.make C us []) (ao _ (Value.ref (s.heap.objs.size+1)::us) ce.kIn ap) b3 bC) λr s' jk=>?_))
 cases r with
 |error e=>exact ax am σ _ _ e s' ce jk
 |ok cO=>
  cases cO with
  |ret u=>
   obtain⟨v,H',db,b6,eP,e'⟩:=ce.after jk;subst eP;exact⟨b6,⟨V.ref (s.heap.objs.size+1),H',db,rfl,e'⟩⟩
  |next=>exact False.elim jk
  |brk=>exact False.elim jk
  |cont=>exact False.elim jk
theorem Zer(M:Mk X.K C f)(F:Z7 X.prog X.w X.K X.mg X.base CX k f fd a_ sp)(aH:cU (k+1) X.A)(bL:Gl X x)(bq:X.mg x=some (.ref C))(ao:Yy X.K fd a_ cK)(hd:bS cF cK)(ax:YD CX X E)
  (dW:(x==("__debug__" :Str))=false:=by decide):PE X (.Call (.Name x p) [] [] pos) (mL C sp cF E tNil):=by
 intro am s σ H Q I h;refine wpAny_Call_Name_kw (iB I bL bq ?_ dW);exact callWith_K0 I.kIn M.kp (tF (us:=[]) M F aH ao hd ax I .nil h)
end
section
variable {X:Cx}{CX:CXT}{k:Nat}{f C:Addr}{fd:FuncData}{a_ h0:List Str}{sp:Sp}{E:XK}{x m:Str}{p pos dE Bg:Pos}{e o:Expr}{bp:List Expr}{Bh:List Keyword}{bK bA:TE}{t cw:TA}{nm:Option Str}
variable {g:List Value→List Value→List Value}{Bi:List V→List V→List V}
end
structure Zt(N P:List Str)(bn:Scope):Prop where
 kind:bn.kind= .function
 co:bn.isCoroutine=false
 gen:bn.isGenerator=false
 nd:N.Nodup
 pre:N.take P.length=P
 par:∀x∈P,bn.names.lookup x=some .local∨bn.names.lookup x=some .cell
 nofree:∀y∈bn.names,y.2≠ .free
theorem Zal{kindOf:Str→Option NameKind}{x:Str}:∀{binds:List (Str×Value)}{m:Str→Option Value},(∀v,(x,v)∉binds)→bindL kindOf binds m x=m x
 | [],_,_=>rfl
 |(n,v)::r,m,h=>by
  unfold bindL;rw[Zal λw hw=>h w (QE _ hw)]
  split
  ·have:x≠n:=by rintro rfl;exact h v QW
   simp[this]
  ·rfl
theorem Zax{kindOf:Str→Option NameKind}{x:Str}:∀{binds:List (Str×Value)}{m:Str→Option Value},(∀v,(x,v)∉binds)→bindC kindOf binds m x=m x
 | [],_,_=>rfl
 |(n,v)::r,m,h=>by
  unfold bindC;rw[Zax λw hw=>h w (QE _ hw)]
  split
  ·rfl
  ·have:x≠n:=by rintro rfl;exact h v QW
   simp[this]
theorem p2{kindOf:Str→Option NameKind}{x:Str}{v:Value}:∀{P:List Str}{vs:List Value}{i:Nat}{m:Str→Option Value},P.Nodup→P[i]? =some x→vs[i]? =some v→kindOf x=some .local→
  bindL kindOf (P.zip vs) m x=some v
 | [],_,_,_,_,h,_,_=>by simp at h
 |_::_,[],_,_,_,_,h,_=>by simp at h
 |p::P,w::vs,0,m,nd,aB,aC,aD=>by
  simp at aB aC;subst aB;subst aC;show bindL kindOf ((p,w)::P.zip vs) m p=_;unfold bindL;rw[Zal λv b9=>(Jm.mp nd).1 (Jn b9).1,if_pos aD];simp
 |p::P,w::vs,i+1,m,nd,aB,aC,aD=>by
  show bindL kindOf ((p,w)::P.zip vs) m x=_;unfold bindL;exact p2 (i:=i) (Jm.mp nd).2 (by simpa using aB) (by simpa using aC) aD
theorem Zaj{kindOf:Str→Option NameKind}{x:Str}{v:Value}:∀{P:List Str}{vs:List Value}{i:Nat}{m:Str→Option Value},P.Nodup→P[i]? =some x→vs[i]? =some v→kindOf x≠some .local→
  bindC kindOf (P.zip vs) m x=some v
 | [],_,_,_,_,h,_,_=>by simp at h
 |_::_,[],_,_,_,_,h,_=>by simp at h
 |p::P,w::vs,0,m,nd,aB,aC,aD=>by
  simp at aB aC;subst aB;subst aC;show bindC kindOf ((p,w)::P.zip vs) m p=_;unfold bindC;rw[Zax λv b9=>(Jm.mp nd).1 (Jn b9).1,if_neg aD];simp
 |p::P,w::vs,i+1,m,nd,aB,aC,aD=>by
  show bindC kindOf ((p,w)::P.zip vs) m x=_;unfold bindC;exact Zaj (i:=i) (Jm.mp nd).2 (by simpa using aB) (by simpa using aC) aD
noncomputable def start (N:List Str) (vs:List V):St:=vs.map some++List.replicate (N.length-vs.length) none
noncomputable def ZJ (CX:CXT) (P:Program) (w:World) (K:Frag) (mg:Str→Option Value) (base:Heap) (N:List Str) (qual:Str) (scope:Scope) (f:Addr) (b7:Value) (A:Around) (outer:List Env) (s:Shared) (H:Hp) (E:XK):Cx where
 prog:=P
 w:=w
 K:=K
 mg:=mg
 base:=base
 A:=A.deeper (envOfC qual scope s.heap.objs.size f b7)
 N:=N
 s₀:=s
 H₀:=H
 env:=envOfC qual scope s.heap.objs.size f b7
 outer:=outer
 stack:=envOfC qual scope s.heap.objs.size f b7::outer
 ex:=[]
 calm:=true
 fn:=λ_=>true
 pn:=[]
 xe:=λe s'=>wpAny (model P w) (A.deeper (envOfC qual scope s.heap.objs.size f b7)) (leaving (envOfC qual scope s.heap.objs.size f b7) e) (λ_ j_=>CX outer H s E e j_) (λbH j_=>CX outer H s E bH j_) s'
theorem Zbq{bn:Scope}{n:Nat}{x:Str}(h:bn.names.lookup x=some .cell):∃c,(cellsFrom n bn.names []).lookup x=some c:=by
 have q:=cellsFrom_some bn.names n [] (.inl h);exact Q8.mp q
theorem Zar{CX:CXT}{P:Program}{w:World}{K:Frag}{mg:Str→Option Value}{base:Heap}{N a_:List Str}{qual:Str}{scope:Scope}{f:Addr}{b7:Value}{A:Around}{outer:List Env}{s aI:Shared}{H:Hp}{E:XK}{us:List Value}{vs:List V}
  (S:Zt N a_ scope) (hd:A.handled=none) (c1:WZ P w K mg base A outer s H) (ap:vs.length=a_.length) (r:bS vs us)
  (x:InCallC s s.heap.objs.size (bindL (envOfC qual scope s.heap.objs.size f b7).kindOf (a_.zip us) λ_=>none) (cellsFrom (s.heap.objs.size+1) scope.names []) (bindC (envOfC qual scope s.heap.objs.size f b7).kindOf (a_.zip us) λ_=>none) aI):
  Inv (ZJ CX P w K mg base N qual scope f b7 A outer s H E) [] (start N vs) H aI:=by
 have em:a_.length≤N.length:=by have:=congrArg List.length S.pre;rw[Jf] at this;omega
 obtain⟨aB,cw,rfl,aD⟩:=x.done;have j':∀b:Addr,b∉(ZJ CX P w K mg base N qual scope f b7 A outer s H E).ex:=λb z=>absurd (show b∈([]:List Addr) from z) (by simp);refine⟨⟨c1.mod,S.kind,rfl,rfl,Qb _,λy z c aB aC=>?_,λy bX=>?_,λy c _ h=>?_,λ_=>hd,Around.frames_deeper c1.frames,.inr ⟨rfl,rfl⟩,λb z=>absurd z (j' b),c1.bs,c1.bsz,λb _ _=>j' b,λb z=>absurd z (j' b),c1.funs,c1.frf⟩,
  rfl,c1.bare,Un.kept aD,⟨_,x.toInCall.ns,λi y v aB aC b_=>?_⟩,λy c h=>⟨_,x.cell y c h⟩,c1.hok.fresh (Qb _),λy c h=>?_,λp bo=>absurd (show p∈([]:List (Addr×Obj)) from bo) (by simp),c1.hok.kept aD,?_⟩
 ·exact name_of_addr x.apart (QN aB) (QN aC)
 ·have bX:scope.names.lookup y=some .cell∨scope.names.lookup y=some .free:=bX;rcases bX with bX|bX
  ·exact Zbq bX
  ·exact absurd rfl (S.nofree _ (QN bX))
 ·exact QJ (x.above y c (QN h))
 ·have hi:i<vs.length:=by
   unfold start at aC
   by_cases hi:i<vs.length
   ·exact hi
   ·rw[QP (by simpa using hi)] at aC;rw[List.getElem?_replicate] at aC
    split at aC<;>cases aC
  have a2:vs[i]? =some v:=by
   unfold start at aC;rw[Q7 (by simpa using hi),QM] at aC;cases e:vs[i]? with
   |none=>rw[e] at aC;cases aC
   |some a=>rw[e] at aC;cases aC;rfl
  obtain⟨u,hu,b6⟩:=r.get a2;have bo:a_[i]? =some y:=by
   rw[←S.pre,List.getElem?_take_of_lt (by omega)];exact aB
  have p3:a_.Nodup:=by rw[←S.pre];exact S.nd.sublist (List.take_sublist _ _)
  refine⟨u,b6,?_⟩;rcases S.par y (Q4 bo) with k|k
  ·exact .inl ⟨k,p2 p3 bo hu k⟩
  ·obtain⟨c,e⟩:=Zbq (n:=s.heap.objs.size+1) k;refine .inr ⟨.inl k,c,e,?_⟩;have q:=x.cell y c e;rw[Zaj p3 bo hu (by show scope.names.lookup y≠_;rw[k];decide)] at q;exact q
 ·exact c1.hok.fresh (QJ (x.above y c (QN h)))
 ·unfold start;show _=N.length;rw[Qh,Qa,Qy];omega
theorem ZeN{CX:CXT}{P:Program}{w:World}{K:Frag}{mg:Str→Option Value}{base:Heap}{k:Nat}{f:Addr}{name qual:Str}{params:Arguments}{body:List Stmt}{scope:Scope}{lh kV dw c' bU ct dy:Value}{an cG:Option Addr}
  {en:Array (Option Value)} {N a_:List Str} {sp:Sp} (lk:K.lookup f=some ⟨dy,cG,.func (fnOf name qual params body scope lh kV dw c' an bU ct),en⟩) (e_:codeIn K bU qual=true) (S:Zt N a_ scope)
  (len:∀vs H Q E,sp vs H Q E→vs.length=a_.length)
  (iI:∀(A:Around)(outer:List Env)(s:Shared)(H:Hp)(vs:List V)(Q:VK)(E:XK),cU k (A.deeper (envOfC qual scope s.heap.objs.size f bU))→sp vs H Q E→
   ∃t,PSs (ZJ CX P w K mg base N qual scope f bU A outer s H E) body t∧t {nx:=λ_ H'=>Q .non H',rt:=Q} (start N vs) H):
  Z7 P w K mg base CX (k+1) f (fnOf name qual params body scope lh kV dw c' an bU ct) a_ sp:=by
 refine⟨len,λA outer s H args us vs Q E aH c1 ao r fb=>?_⟩;have ap:=len _ _ _ _ fb;have di:K.In s.heap:=c1.mod.kin.keeps λb o e=>(c1.bs b o e).1;have mO:s.heap.NoLimit:=c1.mod.nolimit.keeps λb o e=>(c1.bs b o e).1;have hn:∀y∈a_.zip us,scope.names.lookup y.1=some .local∨(scope.names.lookup y.1=some .cell∧((cellsFrom (s.heap.objs.size+1) scope.names []).lookup y.1).isSome=true):=λ⟨n,v⟩ bX=>by
  rcases S.par n (Jn bX).1 with q|q
  ·exact .inl q
  ·exact .inr ⟨q,cellsFrom_some _ _ _ (.inl q)⟩
 refine codeAny_call_function aH.depth (di _ _ lk) rfl S.co S.gen rfl (codeRec_of di e_) (ao _ _ _ _ ?_);refine wpAny_newFunctionEnv_cells S.kind hn λenv bF aI x=>?_;subst bF;refine⟨mO.keeps x.toInCall.keep,codeAny_func ?_⟩;obtain⟨t,bM,bC⟩:=iI A outer s H vs Q E (aH.deeper _) fb;have I:Inv (ZJ CX P w K mg base N qual scope f bU A outer s H E) [] (start N vs) H aI:=Zar S aH.hd c1 ap r x;refine wpAny_mono (bM [] aI (start N vs) H _ I bC) (λcO s' a4=>?_) λe s' a4=>a4;have ds:∀{aV:St}{H':Hp}{v:V}{u:Value},Inv (ZJ CX P w K mg base N qual scope f bU A outer s H E) [] aV H' s'→b5 v u→Q v H'→CE outer P w H s Q u s':=
  λ{aV H' v u} J b6 q=>⟨v,H',J.os,J.bare,J.base,J.hok,b6,q⟩
 cases cO with
 |ret u=>
  obtain⟨v,aV,H',J,b6,q⟩:=a4;exact ds J b6 q
 |next=>
  obtain⟨aV,H',J,q⟩:=a4;exact ds (v:=V.non) (u:=Value.none) J rfl q
 |brk=>
  obtain⟨_,_,_,q⟩:=a4;exact False.elim q
 |cont=>
  obtain⟨_,_,_,q⟩:=a4;exact False.elim q
section
variable {X:Cx}{x:Str}{p pos:Pos}{e:Expr}{bp:List Expr}{t:TA}{id T:String}{r:List V→Hp→VK→Prop}
noncomputable def tCB (r:List V→Hp→VK→Prop) (t:TA):TE:=λσ H Q=>t σ H λvs aq=>r vs aq Q
theorem cL(aw:Z0 X (.builtin id) r)(bL:Gl X x)(bq:X.mg x=none)(b9:bootBuiltins x=some (.builtin id))(a2:PA X (e::bp) t)(br:x≠"__name__" :=by decide)(dW:(x==("__debug__" :Str))=false:=by decide)
  (bF:starEach (e::bp) X.env=(false,eval e X.env)::starEach bp X.env:=by rfl) (em:(backTo pos (starEach bp X.env)).any (·.1)=false:=by rfl):PE X (.Call (.Name x p) (e::bp) [] pos) (tCB r t):=by
 intro am s σ H Q I h;refine wpAny_Call_Name_kw (jX I bL bq b9 ?_ br dW);exact PyProof.Rows.callWith_builtin1 (thn (a2 pos am s σ H _ I h) λus aI ⟨vs,aq,a6,bP,bZ⟩=>aw am aI σ aq vs us Q a6 bP bZ) bF em
theorem fc(aw:Z0 X (.type T) r)(bL:Gl X x)(bq:X.mg x=none)(b9:bootBuiltins x=some (.type T))(a2:PA X (e::bp) t)(br:x≠"__name__" :=by decide)(dW:(x==("__debug__" :Str))=false:=by decide)
  (bF:starEach (e::bp) X.env=(false,eval e X.env)::starEach bp X.env:=by rfl) (em:(backTo pos (starEach bp X.env)).any (·.1)=false:=by rfl):PE X (.Call (.Name x p) (e::bp) [] pos) (tCB r t):=by
 intro am s σ H Q I h;refine wpAny_Call_Name_kw (jX I bL bq b9 ?_ br dW);exact Q2 (thn (a2 pos am s σ H _ I h) λus aI ⟨vs,aq,a6,bP,bZ⟩=>aw am aI σ aq vs us Q a6 bP bZ) bF em
end
end L2
namespace HT
open PySem PyProof.Rows
section
open PySem.SeqAt
open PySem.AutoSeq1 (wpAny_loadPart')
open PySem.MeetsSeq PySem.MeetsSeq2 PySem.MeetsSeq3
end
section
variable {prog:Program}{w:World}{A:Around}{E:Value→Shared→Prop}{s:Shared}
theorem ZeU{t b:Addr}{vs et:List Value}{Q:Value→Shared→Prop}(bM:IsTup s.heap t vs.toArray)(ao:IsTup s.heap b et.toArray)(b9:vs≠[])
  (aB:et=[]→Q (.ref t) s) (aC:et≠[]→Q (.ref s.heap.objs.size) {s with heap:=s.heap.push {cls:= .type "tuple",data:= .seq (vs++et).toArray}})
  (hsz:vs.length+et.length≤sizeLine):wpAny (model prog w) A (binaryOp .Add (.ref t) (.ref b)) Q E s:=by
 obtain⟨⟨cls,dd,data,sl⟩,a3,aw,n,hd⟩:=id bM;obtain⟨⟨Bj,p4,data2,p5⟩,li,jl,fJ,lj⟩:=id ao;simp only at aw hd jl lj;subst aw hd jl lj;have e:vs.toArray++et.toArray=(vs++et).toArray:=by simp
 by_cases hw:et=[]
 ·exact concat_meets ⟨_,a3,rfl⟩ ⟨_,li,rfl⟩ noFill_tuple_add seq_tuple_add PySem.F.slot_tuple_add PySem.F.entry_tuple_add (PySem.F.args_tuple_add_2 _ _)
   (tuple_addW1 t b vs.toArray et.toArray n fJ dd p4 sl p5 (by simpa using b9) (by simp[hw])) ⟨a3,li,aB hw⟩
 ·refine concat_meets ⟨_,a3,rfl⟩ ⟨_,li,rfl⟩ noFill_tuple_add seq_tuple_add PySem.F.slot_tuple_add PySem.F.entry_tuple_add (PySem.F.args_tuple_add_2 _ _)
   (tuple_addW2 t b vs.toArray et.toArray n fJ dd p4 sl p5 (by simpa using b9) (by simpa using hw) (by rw[Qc,Qc];exact hsz)) ⟨a3,li,?_⟩
  rw[e];exact aC hw
noncomputable def sIx (n d:Nat):Option Int→Nat
 |none=>d
 |some v=>if v<0 then(v+(n:Int)).toNat else min v.toNat n
theorem Zf0(n d:Nat)(hd:d≤n)(o:Option Int):sIx n d o≤n:=by
 cases o with
 |none=>exact hd
 |some v=>
  show(if v<0 then(v+(n:Int)).toNat else min v.toNat n)≤n
  by_cases b9:v<0
  ·rw[if_pos b9];omega
  ·rw[if_neg b9];exact Nat.min_le_right _ _
theorem Zcb(v:Int)(n d:Nat):(if v<0 then max (v+(n:Int)) 0 else min v (n:Int))=((sIx n d (some v):Nat):Int):=by
 show(if v<0 then max (v+(n:Int)) 0 else min v (n:Int))=(((if v<0 then(v+(n:Int)).toNat else min v.toNat n):Nat):Int)
 by_cases b9:v<0
 ·simp only[if_pos b9];omega
 ·simp only[if_neg b9];omega
theorem ZcF(lo hi:Option Int)(n:Nat):Builtin.Slice.sliceAdjust lo hi 1 (n:Int)=(((sIx n 0 lo:Nat):Int),((sIx n n hi:Nat):Int)):=by
 have aB:¬((1:Int)<0):=by omega
 unfold Builtin.Slice.sliceAdjust;simp only[aB,if_false];refine Prod.ext ?_ ?_
 ·cases lo with
  |none=>rfl
  |some v=>exact Zcb v n 0
 ·cases hi with
  |none=>rfl
  |some v=>exact Zcb v n n
theorem Zc8(i j:Nat):Builtin.Slice.slicePlaces (i:Int) (j:Int) 1=j-i:=by
 unfold Builtin.Slice.slicePlaces;have aB:(1:Int) > 0:=by omega
 simp only[aB,if_true,Int.ediv_one]
 split<;>omega
theorem p6{v:Value}{o:Option Int}{Q:Option Int→Shared→Prop}(p:IsPart v o)(h:Q o s):wpAny (model prog w) A (Builtin.Slice.slicePartIndex v) Q E s:=by
 cases p with
 |none=>exact slicePart_none h
 |int i t=>exact slicePart_int h
theorem tG{sl:Addr}{ec ed:Value}{lo hi:Option Int}{n:Nat}{Q:Int×Int×Nat→Shared→Prop}(a4:s.heap.IsSliceOf sl ec ed .none)(pl:IsPart ec lo)(fe:IsPart ed hi)
  (h:Q (((sIx n 0 lo:Nat):Int),1,sIx n n hi-sIx n 0 lo) s):wpAny (model prog w) A (Builtin.Slice.sliceApplied (.ref sl) (pure (n:Int))) Q E s:=by
 obtain⟨os,ka,kb,fK⟩:=id a4;unfold Builtin.Slice.sliceApplied Builtin.Slice.sliceFields;refine wpAny_bind (wpAny_bind (wpAny_field ka fK (x:=ec) rfl (wpAny_bind (wpAny_field ka fK (x:=ed) rfl (wpAny_bind (wpAny_field ka fK (x:= .none) rfl (wpAny_pure ?_)))))));refine wpAny_bind (slicePart_none ?_);show wpAny _ _ (if((1:Int)==0)=true then _ else _) _ _ s;rw[if_neg (by decide)];refine wpAny_bind (p6 pl (wpAny_bind (p6 fe (wpAny_bind (wpAny_pure ?_)))));show wpAny _ _ (match Builtin.Slice.sliceAdjust lo hi 1 (n:Int) with|(lo,hi)=>pure (lo,(1:Int),Builtin.Slice.slicePlaces lo hi 1)) _ _ s;rw[ZcF lo hi n];show wpAny _ _ (pure (((sIx n 0 lo:Nat):Int),(1:Int),Builtin.Slice.slicePlaces ((sIx n 0 lo:Nat):Int) ((sIx n n hi:Nat):Int) 1)) _ _ s;rw[Zc8];exact wpAny_pure h
theorem tH(xs:Array Value)(i k:Nat):((List.range k).filterMap λ(m:Nat)=>xs[((i:Int)+(m:Int)*1).toNat]?).toArray=((xs.toList.drop i).take k).toArray:=by
 have e:(λ(m:Nat)=>xs[((i:Int)+(m:Int)*1).toNat]?)=λm=>xs[i+m]? :=by
  funext m
  have:((i:Int)+(m:Int)*1).toNat=i+m:=by omega
  rw[this]
 rw[e];have:=pick_run xs i k;rw[List.filterMap_map] at this;have bJ:((λx=>xs[x]?)∘λx=>i+x)=λm=>xs[i+m]? :=rfl;rw[bJ] at this;rw[this]
theorem VX{t sl:Addr}{items:Array Value}{ec ed:Value}{lo hi:Option Int}{Q:Value→Shared→Prop}(bM:IsTup s.heap t items)(a4:s.heap.IsSliceOf sl ec ed .none)(pl:IsPart ec lo)(fe:IsPart ed hi)
  (hw:¬(sIx items.size 0 lo=0∧sIx items.size items.size hi=items.size))
  (h:Q (.ref s.heap.objs.size) {s with heap:=s.heap.push {cls:= .type "tuple",data:= .seq ((items.toList.drop (sIx items.size 0 lo)).take (sIx items.size items.size hi-sIx items.size 0 lo)).toArray}})
  (hsz:items.size≤sizeLine):wpAny (model prog w) A (getItem (.ref t) (.ref sl)) Q E s:=by
 have ll:sizeOk (.seq ((items.toList.drop (sIx items.size 0 lo)).take (sIx items.size items.size hi-sIx items.size 0 lo)).toArray):=by
  show((items.toList.drop (sIx items.size 0 lo)).take (sIx items.size items.size hi-sIx items.size 0 lo)).toArray.size≤sizeLine;rw[Qc,Jf,Jg,Array.length_toList];omega
 have bW:sIx items.size items.size hi≤items.size:=Zf0 _ _ (Qb _) hi;obtain⟨os,ka,kb,fK⟩:=id a4;have tI:s.TypeIs (.ref sl) "slice" :=⟨os,ka,kb⟩;unfold getItem
 try with_reducible refine wpAny_holding ?_
 first|refine wpAny_bind (wpAny_pure ?_)|skip
 refine wpAny_bind (wpAny_sequenceKey bM.typeIs (by decide) ?_);refine wpAny_bind (wpAny_callSpecial?_slot (name:=Str.ofString "__getitem__") bM.typeIs QU
  (wpAny_call_entry QU bM.typeIs entry_tuple_getitem ?_ (args_tuple_getitem _ _)))
 show wpAny _ _ (Builtin.Tuple.tupleItemsOf (.ref t) >>= _) _ _ s;refine wpAny_bind (tupleItemsOf_ bM ?_);refine wpAny_bind (wpAny_typeOf tI ?_);rw[if_pos (by decide)];refine wpAny_bind (tG a4 pl fe ?_);have gm:¬((((sIx items.size 0 lo:Nat):Int)==0&&(1:Int)==1&&(sIx items.size items.size hi-sIx items.size 0 lo)==items.size)=true):=by
  intro q;rw[QO,QO] at q;have bZ:((sIx items.size 0 lo:Nat):Int)=0:=eq_of_beq q.1.1;have cj:sIx items.size items.size hi-sIx items.size 0 lo=items.size:=eq_of_beq q.2;exact hw ⟨by omega,by omega⟩
 show wpAny _ _ (if(((sIx items.size 0 lo:Nat):Int)==0&&(1:Int)==1&&(sIx items.size items.size hi-sIx items.size 0 lo)==items.size)=true then _ else _) _ _ s;rw[if_neg gm,tH]
 first
  |exact wpAny_bind (m:=Builtin.Tuple.tupleExact _) (wpAny_newObj_type (wpAny_pure ⟨_,rfl,wpAny_pure h⟩) ll)
  |exact wpAny_bind (m:=Builtin.Tuple.tupleExact _) (wpAny_newObj_type (wpAny_bind (wpAny_pure (wpAny_pure ⟨_,rfl,wpAny_pure h⟩))) ll)
  |exact wpAny_bind (wpAny_bind (m:=Builtin.Tuple.tupleExact _) (wpAny_newObj_type (wpAny_pure (wpAny_pure ⟨_,rfl,wpAny_pure h⟩)) ll))
  |exact wpAny_bind (wpAny_bind (m:=Builtin.Tuple.tupleExact _) (wpAny_newObj_type (wpAny_pure ⟨_,rfl,wpAny_pure h⟩) ll))
end
end HT
namespace L2
open PySem PySem.Spec PyProof.Rows
noncomputable abbrev TO:=St→Hp→(Option Int→Hp→Prop)→Prop
def PO(X:Cx)(e:Option Expr)(t:TO):Prop:=
 ∀(am:List (Addr×Obj))(s:Shared)(σ:St)(H:Hp)(Q:Option Int→Hp→Prop),Inv X am σ H s→t σ H Q→
  wpAny (model X.prog X.w) X.A (evalPart e X.env) (λu s'=>∃o H',Inv X am σ H' s'∧IsPart u o∧Q o H') X.xe s
noncomputable def p7 (t:TE):TO:=λσ H Q=>t σ H λx aq=>∃i,x= .int i∧Q (some i) aq
theorem UV{ns:List Int}:∀{us:List Value},bS (ns.map V.int) us→IntsAre us ns:=by
 induction ns with
 |nil=>intro us r;rw[List.map_nil] at r;cases r;exact .nil
 |cons n ns b0=>
  intro us r;rw[List.map_cons] at r;cases r with
  |cons bP b3=>
   obtain⟨t,e⟩:=bP;subst e;exact .cons n t (b0 b3)
section
variable {X:Cx}{e:Expr}{bK:TE}{lo hi:Option Expr}{cX ff:TO}{pos ev:Pos}
theorem VV(h:PE X e bK):PO X (some e) (p7 bK):=by
 intro am s σ H Q I hw;rw[evalPart_some];refine thn (h am s σ H _ I hw) λu aI ⟨x,aq,a6,bP,bZ⟩=>?_;obtain⟨i,rfl,q⟩:=bZ;obtain⟨t,rfl⟩:=bP;exact⟨some i,aq,a6,.int i t,q⟩
def SlR(X:Cx)(r:V→Option Int→Option Int→Hp→VK→Prop):Prop:=
 ∀(am:List (Addr×Obj))(s:Shared)(σ:St)(H:Hp)(x:V)(v ec ed:Value)(lo hi:Option Int)(sl:Addr)(Q:VK),Inv X am σ H s→b5 x v→s.heap.IsSliceOf sl ec ed .none→IsPart ec lo→IsPart ed hi→r x lo hi H Q→
  ∃T id,typeLookup (.type T) "__getitem__" =pure (some (.builtin id))∧s.TypeIs v T∧wpAny (model X.prog X.w) X.A (getItem v (.ref sl)) (EP X am σ Q) X.xe s
theorem SlR.or{r cd:V→Option Int→Option Int→Hp→VK→Prop}(h:SlR X r)(h':SlR X cd):SlR X (λx lo hi H Q=>r x lo hi H Q∨cd x lo hi H Q):=by
 intro am s σ H x v ec ed lo hi sl Q I bx a4 pl fe q;rcases q with q|q
 ·exact h am s σ H x v ec ed lo hi sl Q I bx a4 pl fe q
 ·exact h' am s σ H x v ec ed lo hi sl Q I bx a4 pl fe q
noncomputable def tSl (r:V→Option Int→Option Int→Hp→VK→Prop) (bK:TE) (cX ff:TO):TE:=λσ H Q=>bK σ H λx aq=>cX σ aq λl ar=>ff σ ar λu bR=>r x l u bR Q
theorem p8{r:V→Option Int→Option Int→Hp→VK→Prop}(aH:SlR X r)(bF:PE X e bK)(ap:PO X lo cX)(hu:PO X hi ff):PE X (.Subscript e (.Slice lo hi none ev) pos) (tSl r bK cX ff):=by
 intro am s σ H Q I h;refine Subscript_ (thn (bF am s σ H _ I h) λv aI ⟨x,aq,a6,bP,bZ⟩=>?_);refine wpAny_Slice (thn (ap am aI σ aq _ a6 bZ) λec bt ⟨l,ar,ce,pl,cj⟩=>thn (hu am bt σ ar _ ce cj) λed bv ⟨u,bR,db,fe,e'⟩=>?_);rw[evalPart_none];refine wpAny_pure ?_;have j5:Inv X am σ bR {bv with heap:=bv.heap.push {cls:= .type "slice",data:= .fields #[ec,ed,.none]}}:=db.kept (t':=bv.toks) λb b' q=>Heap.get?_push_of_some _ q;obtain⟨T,id,dX,bM,bL⟩:=aH am {bv with heap:=bv.heap.push {cls:= .type "slice",data:= .fields #[ec,ed,.none]}} σ bR x v ec ed l u bv.heap.objs.size Q j5 bP (Heap.IsSliceOf.new ..) pl fe e';show wpAny (model X.prog X.w) X.A (subscriptTail e (.Slice lo hi none ev) v (.ref bv.heap.objs.size)) (EP X am σ Q) X.xe {bv with heap:=bv.heap.push {cls:= .type "slice",data:= .fields #[ec,ed,.none]}};exact tail_any (ops:=[.ref bv.heap.objs.size,v]) bM dX bL (by with_unfolding_all rfl)
noncomputable def ho (xs:List V) (lo hi:Option Int):List V:=(xs.drop (HT.sIx xs.length 0 lo)).take (HT.sIx xs.length xs.length hi-HT.sIx xs.length 0 lo)
theorem p9(xs:List V)(lo hi:Option Int):(ho xs lo hi).length≤xs.length:=by
 unfold ho;rw[Jf,Jg];omega
noncomputable def p_ (K:Frag):V→Option Int→Option Int→Hp→VK→Prop:=λx lo hi H Q=>∃a xs,x= .ref a∧SqT K H a xs∧
 ¬(HT.sIx xs.length 0 lo=0∧HT.sIx xs.length xs.length hi=xs.length)∧∀p,H p=none→Q (.ref p) (upd H p (.tup (ho xs lo hi)))
theorem tJ:SlR X (p_ X.K):=by
 intro am s σ H x v ec ed lo hi sl Q I bx a4 pl fe h;obtain⟨a,xs,rfl,ax,hw,q⟩:=h;cases bx;obtain⟨its,r,bM,bw⟩:=I.tuple ax;have cJ:its.toArray.size=xs.length:=by rw[Qc];exact r.length.symm
 refine⟨"tuple",_,QU.lookup,bM.typeIs,?_⟩;refine HT.VX bM a4 pl fe (by rw[cJ];exact hw) ?_ (by rw[cJ];exact bw);rw[cJ];refine⟨.ref s.heap.objs.size,_,I.laid (t':=s.toks) (o:= .tup (ho xs lo hi)) (λb b' q=>Heap.get?_push_of_some _ q) (Qb _) ?_,rfl,q _ (I.hok.fresh (Qb _))⟩;exact⟨Qv (p9 xs lo hi) bw,_,(r.drop (HT.sIx xs.length 0 lo)).take (HT.sIx xs.length xs.length hi-HT.sIx xs.length 0 lo),IsTup.new _ _⟩
noncomputable def lm (K:Frag):R2:=λx y H Q=>∃a b xs ys,x= .ref a∧y= .ref b∧SqT K H a xs∧SqT K H b ys∧xs≠[]∧xs.length+ys.length≤sizeLine∧
 (ys=[]→Q (.ref a) H)∧(ys≠[]→∀p,H p=none→Q (.ref p) (upd H p (.tup (xs++ys))))
theorem bS.nil_iff{xs:List V}{us:List Value}(r:bS xs us):us=[]↔xs=[]:=by
 cases r with
 |nil=>simp
 |cons _ _=>simp
theorem tK:OpR X (binaryOp .Add) (lm X.K):=by
 intro am s σ H x y v u Q I bx bN h;obtain⟨a,b,xs,ys,rfl,rfl,a2,ao,ax,bw,bZ,cj⟩:=h;cases bx;cases bN;obtain⟨its,bP,eX,_⟩:=I.tuple a2;obtain⟨fY,b3,ev,_⟩:=I.tuple ao;refine HT.ZeU eX ev (λz=>ax (bP.nil_iff.mp z)) (λz=>⟨.ref a,H,I,rfl,bZ (b3.nil_iff.mp z)⟩) (λz=>?_) (by rw[←bP.length,←b3.length];exact bw);refine⟨.ref s.heap.objs.size,_,I.laid (t':=s.toks) (o:= .tup (xs++ys)) (λb b' q=>Heap.get?_push_of_some _ q) (Qb _) ?_,rfl,cj (λw=>z (b3.nil_iff.mpr w)) _ (I.hok.fresh (Qb _))⟩;exact⟨by rw[Qh];exact bw,_,bP.append b3,IsTup.new _ _⟩
end
noncomputable def ixN (n:Nat) (i:Int):Option Nat:=if 0≤i then(if i<n then some i.toNat else none) else if -(n:Int)≤i then some (i+n).toNat else none
noncomputable def atI {cm:Type} (xs:List cm) (i:Int):Option cm:=(ixN xs.length i).bind λj=>xs[j]?
theorem Zcd{n:Nat}{i:Int}{j:Nat}(h:ixN n i=some j):seqIndex? i n=some j∧j<n∧ -(n:Int)≤i∧i<n:=by
 unfold ixN at h
 by_cases cv:0≤i
 ·rw[if_pos cv] at h
  by_cases aB:i<n
  ·rw[if_pos aB] at h;have e:i.toNat=j:=Qt h;exact⟨by rw[seqIndex_of cv aB,e],by omega,by omega,aB⟩
  ·rw[if_neg aB] at h;cases h
 ·rw[if_neg cv] at h
  by_cases aB: -(n:Int)≤i
  ·rw[if_pos aB] at h;have e:(i+n).toNat=j:=Qt h;exact⟨by rw[seqIndex_neg (by omega) aB,e],by omega,aB,by omega⟩
  ·rw[if_neg aB] at h;cases h
theorem U7{cm:Type}{xs:List cm}{i:Int}{v:cm}(h:atI xs i=some v):∃j,seqIndex? i xs.length=some j∧xs[j]? =some v∧j<xs.length∧ -(xs.length:Int)≤i∧i<xs.length:=by
 unfold atI at h;cases e:ixN xs.length i with
 |none=>rw[e] at h;cases h
 |some j=>
  rw[e] at h;obtain⟨aB,aC,b_,cu⟩:=Zcd e;exact⟨j,aB,h,aC,b_,cu⟩
theorem Wz{cm:Type}{xs:List cm}{j:Nat}{v:cm}(h:xs[j]? =some v):atI xs (j:Int)=some v:=by
 have bW:j<xs.length:=(Qw.mp h).1;have e:ixN xs.length (j:Int)=some j:=by
  unfold ixN;rw[if_pos (by omega),if_pos (by omega)];simp
 unfold atI;rw[e];exact h
def Ze7(b:Expr):Prop:=∀o i,subscripted b false o i=operate [o,i] (getItem o i)
def IxR(X:Cx)(r:R2):Prop:=
 ∀(value slice:Expr)(am:List (Addr×Obj))(s:Shared)(σ:St)(H:Hp)(x y:V)(v u:Value)(Q:VK),Inv X am σ H s→b5 x v→b5 y u→r x y H Q→
  subscripted slice false v u=operate [v,u] (getItem v u)→wpAny (model X.prog X.w) X.A (subscriptTail value slice v u) (EP X am σ Q) X.xe s
def MtR(X:Cx)(id:String)(r:V→List V→Hp→VK→Prop):Prop:=
 ∀(am:List (Addr×Obj))(s:Shared)(σ:St)(H:Hp)(x:V)(xs:List V)(v:Value)(us:List Value)(Q:VK),Inv X am σ H s→b5 x v→bS xs us→r x xs H Q→
  wpAny (model X.prog X.w) X.A (call (.builtin id) (v::us)) (EP X am σ Q) X.xe s
section
variable {X:Cx}{a b:Expr}{bA b1:TE}{pos:Pos}
theorem IxR.or{r cd:R2}(h:IxR X r)(h':IxR X cd):IxR X (λx y H Q=>r x y H Q∨cd x y H Q):=by
 intro value slice am s σ H x y v u Q I bx bN q a4;rcases q with q|q
 ·exact h value slice am s σ H x y v u Q I bx bN q a4
 ·exact h' value slice am s σ H x y v u Q I bx bN q a4
theorem ef{r:R2}(aH:IxR X r)(a2:PE X a bA)(ao:PE X b b1)(a4:Ze7 b):PE X (.Subscript a b pos) (tOp r bA b1):=by
 intro am s σ H Q I h;exact Subscript_ (mF a2 ao I h λv u bt x y ar ce bx bN q=>aH a b am bt σ ar x y v u Q ce bx bN q (a4 _ _))
noncomputable def Zcu (K:Frag):R2:=λx y H Q=>∃p xs i v,x= .ref p∧y= .int i∧SqL K H p xs∧atI xs i=some v∧Q v H
noncomputable def mP (K:Frag):R2:=λx y H Q=>∃p xs i v,x= .ref p∧y= .int i∧SqT K H p xs∧atI xs i=some v∧Q v H
noncomputable def rIxS:R2:=λx y H Q=>∃z i c,x= .str z∧y= .int i∧z.length≤sizeLine∧atI z.cps.toList i=some c∧Q (.str ⟨#[c]⟩) H
theorem tL:IxR X (Zcu X.K):=by
 intro value slice am s σ H x y v u Q I bx bN h a4;obtain⟨p,xs,i,z,rfl,rfl,bC,bF,q⟩:=h;cases bx;obtain⟨t,rfl⟩:=bN;obtain⟨its,r,pl,bw⟩:=I.list bC;obtain⟨j,aB,aC,b_,cu,ew⟩:=U7 bF;obtain⟨w,ln,mQ⟩:=r.get aC;have ap:=r.length;have br:=iG;have ds:EP X am σ Q w s:=⟨z,H,I,mQ,q⟩
 by_cases cv:0≤i
 ·have bW:i.toNat=j:=by
   rw[seqIndex_of cv ew] at aB;exact Qt aB
  exact item_listR pl.isList cv (by omega) (by rw[bW];simpa using ln) ds a4
 ·have bW:(i+(its.toArray.size:Int)).toNat=j:=by
   rw[seqIndex_neg (by omega) cu] at aB;rw[Qc,←ap];exact Qt aB
  exact subscriptTail_builtinR (x:=w) pl.isList.typeIs slot_list_getitem.lookup
   (wpAny_getItem_list_neg (Q:=λr s'=>r=w∧EP X am σ Q r s') pl.isList (by omega) (by rw[Qc]<;>omega) (by omega) (by rw[bW];simpa using ln) ⟨rfl,ds⟩) a4
theorem tM:IxR X (mP X.K):=by
 intro value slice am s σ H x y v u Q I bx bN h a4;obtain⟨p,xs,i,z,rfl,rfl,bC,bF,q⟩:=h;cases bx;obtain⟨t,rfl⟩:=bN;obtain⟨its,r,pl,bw⟩:=I.tuple bC;obtain⟨j,aB,aC,b_,cu,ew⟩:=U7 bF;obtain⟨w,ln,mQ⟩:=r.get aC;have ap:=r.length;have br:=iG;have ds:EP X am σ Q w s:=⟨z,H,I,mQ,q⟩;exact subscriptTail_builtinR (x:=w) pl.typeIs slot_tuple_getitem.lookup
  (getItem_tuple (j:=j) (Q:=λr s'=>r=w∧EP X am σ Q r s') pl (by omega) (by omega) (by rw[Qc,←ap];exact aB) (by simpa using ln) ⟨rfl,ds⟩) a4
theorem tN:IxR X rIxS:=by
 intro value slice am s σ H x y v u Q I bx bN h a4;obtain⟨z,i,c,rfl,rfl,bw,bF,q⟩:=h;obtain⟨t,rfl⟩:=bx;obtain⟨t',rfl⟩:=bN;obtain⟨j,aB,aC,b_,cu,ew⟩:=U7 bF;have ap:z.cps.toList.length=z.length:=by simp[Str.length]
 rw[ap] at aB cu ew;have br:=iG;exact tail_any (typeIs_str s z t) slot_str_getitem.lookup (getItem_str (c:=c) (by
  have bu:decide (i< -(2 ^ 63:Int))=false:=decide_eq_false (by omega);have bJ:decide (i≥2 ^ 63)=false:=decide_eq_false (by omega);rw[bu,bJ,Bool.or_false]) (by rw[aB];simpa using aC) ⟨.str ⟨#[c]⟩,H,I.tok _,⟨_,rfl⟩,q⟩) a4
noncomputable def rIx (K:Frag):R2:=λx y H Q=>Zcu K x y H Q∨mP K x y H Q∨rIxS x y H Q
theorem tO:IxR X (rIx X.K):=tL.or (tM.or tN)
theorem tP(its:List Value)(n j:Nat)(u:Value):Obj.mapSeq (·.setIfInBounds j u) {cls:= .type "list",data:= .seq its.toArray n}={cls:= .type "list",data:= .seq (its.set j u).toArray n}:=by
 simp[Obj.mapSeq]
theorem Inv.lst{am:List (Addr×Obj)}{σ:St}{H:Hp}{s:Shared}{p:Addr}{xs:List V}(I:Inv X am σ H s)(h:H p=some (.lst xs)):
  ∃(its:List Value)(n:Nat),bS xs its∧s.heap.get? p=some {cls:= .type "list",data:= .seq its.toArray n}∧xs.length≤sizeLine:=by
 obtain⟨z,its,n,r,e⟩:=I.hok p _ h;exact⟨its,n,r,e,z⟩
theorem Inv.lstUpd{am:List (Addr×Obj)}{σ:St}{H:Hp}{s:Shared}{p:Addr}{xs ys:List V}{its its':List Value}{n dG:Nat}{f:Obj→Obj}(I:Inv X am σ H s)(h:H p=some (.lst xs))
  (a3:s.heap.get? p=some {cls:= .type "list",data:= .seq its.toArray n}) (a':f {cls:= .type "list",data:= .seq its.toArray n}={cls:= .type "list",data:= .seq its'.toArray dG}) (r:bS ys its') (bw:ys.length≤sizeLine) (t:Nat):
  Inv X am σ (upd H p (.lst ys)) {s with heap:=s.heap.update p f,toks:=t}:=by
 have e:(s.heap.update p f).get? p=some {cls:= .type "list",data:= .seq its'.toArray dG}:=by
  rw[Heap.get?_update_self f a3 (by rw[a']<;>rfl),a']
 refine I.write (x:=p) (e:=p) (by rw[h];trivial) (.inl rfl) (λb u ao q=>(Heap.get?_update_other _ _ (Jj ao)).trans q) ⟨_,e⟩ ?_;exact⟨bw,its',dG,r,e⟩
noncomputable def rSetL:V→V→V→Hp→(Hp→Prop)→Prop:=λo i v H Q=>∃p xs k j,o= .ref p∧i= .int k∧H p=some (.lst xs)∧ixN xs.length k=some j∧Q (upd H p (.lst (xs.set j v)))
theorem mR:Zef X rSetL:=by
 intro am s σ H o i v dt gU u Q I ro ri b6 h;obtain⟨p,xs,k,j,rfl,rfl,bo,bW,q⟩:=h;cases ro;obtain⟨t,rfl⟩:=ri;obtain⟨its,n,r,a3,bw⟩:=I.lst bo;obtain⟨aB,aC,b_,cu⟩:=Zcd bW;have ap:=r.length;have br:=iG;have cZ:Inv X am σ (upd H p (.lst (xs.set j v))) {s with heap:=s.heap.update p (Obj.mapSeq (·.setIfInBounds j u))}:=
  I.lstUpd bo a3 (tP its n j u) (r.set b6 j) (by rw[QR];exact bw) s.toks
 by_cases cv:0≤k
 ·have aD:k.toNat=j:=by
   rw[seqIndex_of cv cu] at aB;exact Qt aB
  exact PySem.W.ki_setAt a3 cv (by omega) (by rw[Qc,←ap];exact cu) (by rw[aD];exact⟨_,cZ,q⟩)
 ·have aD:(k+(its.toArray.size:Int)).toNat=j:=by
   rw[seqIndex_neg (by omega) b_] at aB;rw[Qc,←ap];exact Qt aB
  exact PySem.W.ki_setBack a3 (by omega) (by rw[Qc,←ap];exact b_) (by omega) (by rw[aD];exact⟨_,cZ,q⟩)
theorem Zbj(lo hi:Option Int)(n:Nat):(sliceBounds lo hi none n).1=((HT.sIx n 0 lo:Nat):Int)∧(sliceBounds lo hi none n).2.1=((HT.sIx n n hi:Nat):Int)∧(sliceBounds lo hi none n).2.2=1:=by
 refine⟨?_,?_,rfl⟩
 ·cases lo with
  |none=>simp[sliceBounds,HT.sIx]
  |some i=>
   simp only[sliceBounds,HT.sIx,Option.getD_none,show(1:Int) > 0 by decide,if_true]
   by_cases h:i<0
   ·simp only[h,if_true]<;>omega
   ·simp only[h,if_false]<;>omega
 ·cases hi with
  |none=>simp[sliceBounds,HT.sIx]
  |some i=>
   simp only[sliceBounds,HT.sIx,Option.getD_none,show(1:Int) > 0 by decide,if_true]
   by_cases h:i<0
   ·simp only[h,if_true]<;>omega
   ·simp only[h,if_false]<;>omega
theorem ZaG(its:List Value)(lo hi:Option Int):slicePick its.toArray lo hi none=((its.drop (HT.sIx its.length 0 lo)).take (HT.sIx its.length its.length hi-HT.sIx its.length 0 lo)).toArray:=by
 obtain⟨aB,aC,b_⟩:=Zbj lo hi its.toArray.size;unfold slicePick;rw[aB,aC,b_];simp only[sliceRange_one,pick_run,Qc]<;>rfl
noncomputable def p' (K:Frag):V→Option Int→Option Int→Hp→VK→Prop:=λx lo hi H Q=>∃a xs,x= .ref a∧SqL K H a xs∧∀p,H p=none→Q (.ref p) (upd H p (.lst (ho xs lo hi)))
theorem tQ:SlR X (p' X.K):=by
 intro am s σ H x v ec ed lo hi sl Q I bx a4 pl fe h;obtain⟨a,xs,rfl,ax,q⟩:=h;cases bx;obtain⟨its,r,bM,bw⟩:=I.list ax;have cJ:=r.length;refine⟨"list",_,slot_list_getitem.lookup,bM.isList.typeIs,?_⟩;refine wpAny_getItem_list_slice bM.isList a4 pl fe .none (by simp) ?_ (by rw[Qc]<;>omega);rw[ZaG,←cJ];refine⟨.ref s.heap.objs.size,_,I.laid (t':=s.toks) (o:= .lst (ho xs lo hi)) (λb b' q=>Heap.get?_push_of_some _ q) (Qb _) ?_,rfl,q _ (I.hok.fresh (Qb _))⟩;exact⟨Qv (p9 xs lo hi) bw,_,0,(r.drop (HT.sIx xs.length 0 lo)).take (HT.sIx xs.length xs.length hi-HT.sIx xs.length 0 lo),Heap.get?_push_size _ rfl⟩
theorem tR:Z0 X (.type "list") (λxs H Q=>∃p ys,xs=[.ref p]∧(SqL X.K H p ys∨SqT X.K H p ys)∧∀l,H l=none→Q (.ref l) (upd H l (.lst ys))):=by
 intro am s σ H xs us Q I r h;obtain⟨p,ys,rfl,bC,q⟩:=h;obtain⟨u,rfl,bx⟩:=Wg r;cases bx;have ds:∀(its:List Value),bS ys its→ys.length≤sizeLine→∀(h':Heap)(cH:Nat),(∀b b2,s.heap.get? b=some b2→h'.get? b=some b2)→
   h'.get? s.heap.objs.size=some {cls:= .type "list",dict:=none,data:= .seq its.toArray cH,slots:=#[]}→EP X am σ Q (.ref s.heap.objs.size) {s with heap:=h'}:=λits cd bw h' cH kp e=>
  ⟨.ref s.heap.objs.size,_,I.laid (t':=s.toks) kp (Qb _) (show ZI X.prog X.w _ h' _ (.lst ys) from⟨bw,its,cH,cd,e⟩),rfl,q _ (I.hok.fresh (Qb _))⟩
 rcases bC with bC|bC
 ·obtain⟨its,cd,pl,bw⟩:=I.list bC;have cJ:=cd.length;obtain⟨o,a3,aw,n,hd⟩:=pl.isList;exact call_list_seq p (.inl rfl) a3 aw hd (λh' cH kp e=>ds its cd bw h' cH kp e) (by simp only[Qc]<;>omega)
 ·obtain⟨its,cd,pl,bw⟩:=I.tuple bC;have cJ:=cd.length;obtain⟨o,a3,aw,n,hd⟩:=pl;exact call_list_seq p (.inr rfl) a3 aw hd (λh' cH kp e=>ds its cd bw h' cH kp e) (by simp only[Qc]<;>omega)
theorem tS:Z0 X (.type "tuple") (λxs H Q=>∃p ys,xs=[.ref p]∧((SqL X.K H p ys∧∀l,H l=none→Q (.ref l) (upd H l (.tup ys)))∨(SqT X.K H p ys∧Q (.ref p) H))):=by
 intro am s σ H xs us Q I r h;obtain⟨p,ys,rfl,h⟩:=h;obtain⟨u,rfl,bx⟩:=Wg r;cases bx;rcases h with⟨bC,q⟩|⟨bC,q⟩
 ·obtain⟨its,cd,pl,bw⟩:=I.list bC;have cJ:=cd.length;refine call_tuple_list pl.isList (λh' kp=>?_) (by simp only[Qc]<;>omega);have a6:Inv X am σ H {s with heap:=h'}:=I.kept (t':=s.toks) kp;have ce:Inv X am σ (upd H h'.objs.size (.tup ys)) {s with heap:=h'.push {cls:= .type "tuple",data:= .seq its.toArray}}:=
   a6.laid (t':=s.toks) (λb o e=>Heap.get?_push_of_some _ e) (Qb _) (show ZI X.prog X.w _ _ _ (.tup ys) from⟨bw,its,cd,IsTup.new _ _⟩)
  exact⟨.ref h'.objs.size,_,ce,rfl,q _ (a6.hok.fresh (Qb _))⟩
 ·obtain⟨its,cd,pl,bw⟩:=I.tuple bC;exact call_tuple_same pl ⟨.ref p,H,I,rfl,q⟩
def tyV(K:Frag)(T:String)(x:V)(H:Hp):Prop:=match x with
 | .str _=>T="str"
 | .int _=>T="int"
 | .ref p=>(T="list" ∧∃xs,SqL K H p xs)∨(T="tuple" ∧∃o,K.lookup p=some o∧o.cls= .type "tuple" ∧o.dict=none)∨
   (T="dict" ∧((∃aP,H p=some (.dK aP))∨∃aP,H p=some (.dT aP)))∨(T="set" ∧∃S n,H p=some (.set S n))
 |_=>False
theorem Zgt{am:List (Addr×Obj)}{σ:St}{H:Hp}{s:Shared}{T:String}{x:V}{v:Value}(I:Inv X am σ H s)(r:b5 x v)(ty:tyV X.K T x H):
  s.TypeIs v T∧∀a,v= .ref a→∃b',s.heap.get? a=some b'∧b'.dict=none:=by
 cases x with
 |str z=>
  obtain⟨t,rfl⟩:=r;cases (show T="str" from ty);exact⟨typeIs_str s z t,λ_ e=>nomatch e⟩
 |int i=>
  obtain⟨t,rfl⟩:=r;cases (show T="int" from ty);exact⟨typeIs_int s i t,λ_ e=>nomatch e⟩
 |ref p=>
  cases r;rcases ty with⟨rfl,xs,bC⟩|⟨rfl,o,aD,aw,hd⟩|⟨rfl,aD⟩|⟨rfl,S,n,aD⟩
  ·obtain⟨its,_,pl,_⟩:=I.list bC;refine⟨pl.isList.typeIs,λa e=>?_⟩;cases e;obtain⟨o,n,e,c,hd,_⟩:=pl;exact⟨o,e,hd⟩
  ·refine⟨⟨o,I.kIn p o aD,aw⟩,λa e=>?_⟩;cases e;exact⟨o,I.kIn _ o aD,hd⟩
  ·have z:∃o,s.heap.get? p=some o∧o.ExactDict:=by
    rcases aD with⟨aP,aD⟩|⟨aP,aD⟩
    ·obtain⟨_,_,_,_,o,_,_,e,ex,_⟩:=I.hok p _ aD;exact⟨o,e,ex⟩
    ·obtain⟨_,_,_,_,o,_,_,e,ex,_⟩:=I.hok p _ aD;exact⟨o,e,ex⟩
   obtain⟨o,e,ex⟩:=z;refine⟨⟨o,e,ex.1⟩,λa bJ=>?_⟩;cases bJ;exact⟨o,e,ex.2.1⟩
  ·obtain⟨o,_,_,_,e,ex,_⟩:=I.hok p _ aD;refine⟨⟨o,e,ex.1⟩,λa bJ=>?_⟩;cases bJ;exact⟨o,e,ex.2.1⟩
 |_=>exact False.elim ty
noncomputable def tBM (K:Frag) (T:String) (r:V→List V→Hp→VK→Prop) (to:TE) (t:TA):TE:=λσ H Q=>to σ H λx aq=>tyV K T x aq∧t σ aq λxs ar=>r x xs ar Q
variable {o e:Expr}{bp:List Expr}{to:TE}{t:TA}{name:Str}{dE d6:Pos}{T id:String}{r:V→List V→Hp→VK→Prop}
theorem ZgH(mS:PlainAttrs T)(slot:Slot T name id)(gX:typeOf (.builtin id)=pure (.type "method_descriptor"))(bq:MtR X id r)(a3:PE X o to)(a2:PA X (e::bp) t)
  (mT:attributeBase o name X.env (eval o X.env)=eval o X.env:=by rfl)
  (mU:((backTo d6 (starEach (e::bp) X.env)).all (λx=>!x.1)&&(backToKw d6 (keywordEach [] X.env)).all (λx=>x.1.isSome)
   &&decide ((e::bp).length+([]:List Keyword).length+(if([]:List Keyword).isEmpty then 0 else 1)<30))=true:=by rfl)
  (mV:(dE.endLine==d6.line)=true:=by rfl) (a4:starEach (e::bp) X.env=(false,eval e X.env)::starEach bp X.env:=by rfl) (iJ:(backTo d6 (starEach bp X.env)).any (·.1)=false:=by rfl):
  PE X (.Call (.Attribute o name dE) (e::bp) [] d6) (tBM X.K T r to t):=by
 intro am s σ H Q I h;refine wpAny_Call_method_late mT mU mV rfl (thn (a3 am s σ H _ I h) λv aI ⟨x,aq,a6,bP,ty,bZ⟩=>?_);obtain⟨aB,aC⟩:=Zgt a6 bP ty;refine⟨T,id,mS,slot,gX,aB,aC,?_⟩;have iK:=a2 d6 am aI σ aq _ a6 bZ;rw[a4] at iK⊢;refine Calls.callWith_builtin (by show(false||(backTo d6 (starEach bp X.env)).any (·.1))=false;rw[iJ]<;>rfl) (Calls.evalArgs_plain ?_);exact thn iK λus bt ⟨vs,ar,ce,b3,cj⟩=>bq am bt σ ar x vs v us Q ce bP b3 cj
end
def MtM(X:Cx)(id:String)(r:V→List V→Hp→VK→Prop):Prop:=
 ∀(am:List (Addr×Obj))(s:Shared)(σ:St)(H:Hp)(x:V)(xs:List V)(v:Value)(us:List Value)(Q:VK),Inv X am σ H s→b5 x v→bS xs us→r x xs H Q→
  wpAny (model X.prog X.w) X.A (call (.builtin id) (v::us)) (EP X am σ Q) X.xe s
theorem bS.one:∀{x:V}{us:List Value},bS [x] us→∃u,us=[u]∧b5 x u
 |_,_,.cons r .nil=>⟨_,rfl,r⟩
theorem bS.two:∀{x y:V}{us:List Value},bS [x,y] us→∃u v,us=[u,v]∧b5 x u∧b5 y v
 |_,_,_,.cons r (.cons q .nil)=>⟨_,_,rfl,r,q⟩
theorem bS.rep{xs:List V}{us:List Value}(h:bS xs us):∀k:Nat,bS (List.replicate k xs).flatten (List.replicate k us).flatten
 |0=> .nil
 |k+1=>by
  rw[QC,QC,QS,QS];exact bS.append h (bS.rep h k)
theorem ZaA(its:List Value):∀(k:Nat)(cr:List Value),
  List.foldl (λx1 x2=>x1++x2) cr.toArray (List.replicate k its.toArray)=(cr++(List.replicate k its).flatten).toArray
 |0,cr=>by simp
 |k+1,cr=>by
  have e:cr.toArray++its.toArray=(cr++its).toArray:=by simp
  have bJ:(cr++its)++(List.replicate k its).flatten=cr++(List.replicate (k+1) its).flatten:=by
   rw[QC,QS,QT]
  rw[←bJ,←ZaA its k (cr++its),←e,QC,List.foldl_cons]
section
variable {X:Cx}{am:List (Addr×Obj)}{σ:St}{H:Hp}{s:Shared}{l b:Addr}{xs ys zs:List V}
theorem Inv.lset{its its':List Value}{n:Nat}{f:Array Value→Array Value}{t':Nat}(I:Inv X am σ H s)(fg:H l=some (.lst xs))
  (e:s.heap.get? l=some {cls:= .type "list",data:= .seq its.toArray n}) (a':f its.toArray=its'.toArray) (b9:bS ys its') (bw:ys.length≤sizeLine):
  Inv X am σ (upd H l (.lst ys)) {s with heap:=s.heap.update l (Obj.mapSeq f),toks:=t'}:=by
 have q:=PySem.IsL.update e f;rw[a'] at q;refine I.write (x:=l) (e:=l) (by rw[fg];exact trivial) (.inl rfl) (λBk u ao hu=>(Heap.get?_update_other s.heap (Obj.mapSeq f) (Jj ao)).trans hu) ⟨_,q⟩ ?_;exact⟨bw,its',_,b9,q⟩
theorem Inv.lnew{its:List Value}{t':Nat}(I:Inv X am σ H s)(b9:bS ys its)(bw:ys.length≤sizeLine):
  Inv X am σ (upd H s.heap.objs.size (.lst ys)) {s with heap:=s.heap.push {cls:= .type "list",data:= .seq its.toArray},toks:=t'}:=
 I.laid (λ_ _ q=>Heap.get?_push_of_some _ q) (Qb _) ⟨bw,its,0,b9,Heap.get?_push_size _ rfl⟩
theorem Inv.fresh(I:Inv X am σ H s):H s.heap.objs.size=none:=I.hok.fresh (Qb _)
theorem Inv.lstM(I:Inv X am σ H s)(fg:H l=some (.lst xs)):xs.length≤sizeLine∧∃(its:List Value)(n:Nat),bS xs its∧xs.length=its.length∧s.heap.get? l=some {cls:= .type "list",data:= .seq its.toArray n}:=by
 obtain⟨z,its,n,r,e⟩:=I.hok l _ fg;exact⟨z,its,n,r,r.length,e⟩
theorem Zbo{n:Nat}(h:n≤sizeLine):Builtin.List.listTooLong n=false:=by
 unfold Builtin.List.listTooLong;exact decide_eq_false (by omega)
end
section
variable {X:Cx}
noncomputable def rAppend:V→List V→Hp→VK→Prop:=λx vs H Q=>∃l xs y,x= .ref l∧vs=[y]∧H l=some (.lst xs)∧xs.length<sizeLine∧Q .non (upd H l (.lst (xs++ [y])))
theorem eY:MtM X "list.append" rAppend:=by
 intro am s σ H x vs v us Q I bx b6 h;obtain⟨l,xs,y,rfl,rfl,fg,bw,q⟩:=h;cases bx;obtain⟨u,rfl,d4⟩:=b6.one;obtain⟨z,its,n,r,ap,e⟩:=I.lstM fg;refine call_meets F.slot_list_append ⟨_,e,rfl⟩ F.entry_list_append (F.args_list_append_2 _ _) (PySem.list_append l its.toArray n u (by rw[Qc];omega)) ⟨e,?_⟩;refine⟨.non,_,I.lset (its':=its++ [u]) fg e (by simp) (r.append (.cons d4 .nil)) ?_,rfl,q⟩;rw[Qh,Q1];omega
noncomputable def rExtend:V→List V→Hp→VK→Prop:=λx vs H Q=>∃l b xs zs,x= .ref l∧vs=[.ref b]∧H l=some (.lst xs)∧H b=some (.lst zs)∧xs.length+zs.length≤sizeLine∧Q .non (upd H l (.lst (xs++zs)))
theorem qa:MtM X "list.extend" rExtend:=by
 intro am s σ H x vs v us Q I bx b6 h;obtain⟨l,b,xs,zs,rfl,rfl,fg,eG,bw,q⟩:=h;cases bx;obtain⟨u,rfl,d4⟩:=b6.one;cases d4;obtain⟨z,its,n,r,ap,e⟩:=I.lstM fg;obtain⟨eU,fY,fJ,b3,eZ,bJ⟩:=I.lstM eG;have hsz:its.toArray.size+fY.toArray.size≤sizeLine:=by rw[Qc,Qc];omega
 have mW:¬(!its.toArray.isEmpty&&Builtin.List.listTooLong (its.toArray.size+fY.toArray.size))=true:=by
  rw[Zbo hsz,Bool.and_false];exact Qd
 refine call_meets F.slot_list_extend ⟨_,e,rfl⟩ F.entry_list_extend (F.args_list_extend_2 _ _)
  (AutoSeq1.list_extend_list_list_0 l its.toArray n b fY.toArray fJ mW (by rw[Qc];omega) (by omega)) ⟨e,bJ,?_⟩
 refine⟨.non,_,I.lset (its':=its++fY) fg e (by simp) (r.append b3) ?_,rfl,q⟩;rw[Qh];omega
noncomputable def rCat:R2:=λx y H Q=>∃l b xs zs,x= .ref l∧y= .ref b∧H l=some (.lst xs)∧H b=some (.lst zs)∧xs.length+zs.length≤sizeLine∧∀p,H p=none→Q (.ref p) (upd H p (.lst (xs++zs)))
theorem tT:OpR X (binaryOp .Add) rCat:=by
 intro am s σ H x y v u Q I bx bN h;obtain⟨l,b,xs,zs,rfl,rfl,fg,eG,bw,q⟩:=h;cases bx;cases bN;obtain⟨z,its,n,r,ap,e⟩:=I.lstM fg;obtain⟨eU,fY,fJ,b3,eZ,bJ⟩:=I.lstM eG;refine PySem.P.add_list e bJ ?_ (by rw[Qc,Qc];omega);have ea:its.toArray++fY.toArray=(its++fY).toArray:=by simp
 rw[ea];exact⟨.ref _,_,I.lnew (t':=s.toks) (r.append b3) (by rw[Qh];omega),rfl,q _ I.fresh⟩
noncomputable def rRep:R2:=λx y H Q=>∃l k xs,x= .ref l∧y= .int k∧H l=some (.lst xs)∧ -(2 ^ 63)≤k∧k<2 ^ 63∧xs.length*k.toNat≤sizeLine∧
 ∀p,H p=none→Q (.ref p) (upd H p (.lst (List.replicate k.toNat xs).flatten))
theorem Zfe{cm:Type}(xs:List cm)(k:Nat):(List.replicate k xs).flatten.length=k*xs.length:=by
 induction k with
 |zero=>simp
 |succ k b0=>rw[QC,QS,Qh,b0,Nat.succ_mul,Nat.add_comm]
theorem tU:OpR X (binaryOp .Mult) rRep:=by
 intro am s σ H x y v u Q I bx bN h;obtain⟨l,k,xs,rfl,rfl,fg,aB,aC,bw,q⟩:=h;cases bx;obtain⟨t,rfl⟩:=bN;obtain⟨z,its,n,r,ap,e⟩:=I.lstM fg;have cJ:its.toArray.size*k.toNat≤sizeLine:=by rw[Qc,←ap];exact bw
 have tV:¬its.toArray.size*k.toNat > (2 ^ 63-1) / 8:=by
  have:(sizeLine:Nat)≤(2 ^ 63-1) / 8:=by decide
  omega
 have tW:¬(!Builtin.List.listFitsIndex k)=true:=by
  rw[fitsIndex_both aB aC];exact Qd
 have mW:¬Builtin.List.listTooLong (its.toArray.size*k.toNat)=true:=by
  rw[Zbo cJ];exact Qd
 have mX:List.foldl (λx1 x2=>x1++x2) #[] (List.replicate (if its.toArray.isEmpty=true then 0 else k.toNat) its.toArray)=(List.replicate k.toNat its).flatten.toArray:=by
  have cS:∀m:Nat,List.foldl (λx1 x2=>x1++x2) #[] (List.replicate m its.toArray)=(List.replicate m its).flatten.toArray:=λm=>by
   have:=ZaA its m [];rw[List.nil_append] at this;exact this
  rw[cS];cases its with
  |nil=>simp
  |cons a cd=>rw[if_neg (by simp)]
 refine wpAny_binaryOp_repeat_ref (T:="list") (U:="int") (by decide) ⟨_,e,rfl⟩ (λs'=>typeIs_int s' k t) noFill_list_mul F.fills_int_mul F.slot_int_rmul repeat_list F.slot_int_index.lookup
  (call_meets F.slot_int_rmul (typeIs_int s k t) F.entry_int_rmul (F.args_int_rmul_2 _ _) (int___rmul___int_list k t l its.toArray n)
   ⟨e,rfl,⟨_,e,rfl⟩,call_meets F.slot_list_mul ⟨_,e,rfl⟩ F.entry_list_mul (F.args_list_mul_2 _ _) (AutoListH.list___mul___list_int_3 l its.toArray n k t tW tV mW) ⟨e,?_⟩⟩)
 rw[mX];exact⟨.ref _,_,I.lnew (t':=s.toks) (r.rep k.toNat) (by rw[Zfe,Nat.mul_comm];exact bw),rfl,q _ I.fresh⟩
end
section
variable {prog:Program}{w:World}{A:Around}{E:Value→Shared→Prop}{s:Shared}
end
section
variable {X:Cx}
end
end L2
namespace Att
open PySem PySem.W PySem.Calls PyProof.Rows
theorem tX{P:Params}{h:Heap}:∀(ns:List Int)(vs:List Value),WellAll P h vs (ns.map WData.int)→IntsAre vs ns:=by
 intro ns
 induction ns with
 |nil=>
  intro vs w;rw[List.map_nil] at w;cases w;exact .nil
 |cons n ns b0=>
  intro vs w;rw[List.map_cons] at w;cases w with
  |cons a b=>
   cases a;exact .cons _ _ (b0 _ b)
theorem ZdE{l:OpenLaw}{n:Nat}(br:l.most=some n){P:Params}{h:Heap}{args:List WData}{mY:List Value}
  (lp:l.row.toRowW.claim.pre args=true) (mZ:WellAll P h mY args):
  ∃a vs ns,mY=[Value.ref a]∧args=[WData.list (ns.map WData.int)]∧h.get? a=some {cls:= .type "list",data:= .seq vs.toArray}∧IntsAre vs ns∧ns.length≤n:=by
 have tY:WShape.hasAll [] args [.list .int]=true:=(pre_splitW lp).1;have aw:l.pre.holds [] {args:=args}=true:=(pre_splitW lp).2;obtain⟨d,r,rfl,aB,aC⟩:=hasAllW_cons tY;obtain rfl:=hasAllW_nil aC;obtain⟨xs,rfl,b_⟩:=hasW_list aB;obtain⟨ns,rfl⟩:=items_int b_;have cJ:ns.length≤n:=by
  unfold OpenLaw.pre at aw;have cu:(WTm.not (.lt (.lit (.int (n:Int))) (.len (.arg 0)))).holds [] {args:=[.list (ns.map .int)]}=true:=by
   have cu:=(holds_andW aw).1;rw[br] at cu;exact cu
  have ew:=condW_of cu (w_not (w_lt w_lit (w_len_list (w_arg rfl))));rw[Qa] at ew;refine Nat.le_of_not_lt λq=>?_;have ej:(n:Int)<((ns.length:Nat):Int):=by omega
  first
   |(rw[decide_eq_true ej] at ew;exact absurd ew (by decide))
   |(simp at ew;omega)
 cases mZ with
 |cons gh gS=>
  cases gS;cases gh with
  |list a3 gn=>exact⟨_,_,ns,rfl,rfl,a3,tX ns _ gn,cJ⟩
theorem tZ(l:OpenLaw)(args:List WData):l.row.toRowW.claim.post args (.bool true) args=true:=
 postW_of (r:=l.row.toRowW) (X:=(true==true))
  (show WShape.has [] (.bool true) .bool=true by first|rfl|decide|simp[WShape.has,WShape.arms,WShape.armsAll])
  (show(WTm.eq .res (.lit (.bool true))).value [] {args:=args,res:=some (.bool true),after:=args}=some (.bool (true==true)) from w_eq_bool (w_res rfl) w_lit) rfl
theorem ZbL{l:OpenLaw}{n:Nat}{q:Program}{jm:List Str}{jn:(Str→Option Value)→Heap→Prop}{h1:World→Heap→Prop}{d:DefRec}
  (br:l.most=some n) (hp:d.params.defaults=[])
  (call:∀(w:World)(s₀ cn:Shared)(mg fU:Str→Option Value)(fh:Addr)(o:Obj)(c' b7 dw:Value)(a:Addr)(vs:List Value)(ns:List Int),
   Ground q jm [] jn w s₀ mg fU cn.heap→h1 w cn.heap→
   cn.heap.get? fh=some o→o.data= .func (docDef d.name d.params d.body d.scope c' b7 dw)→cn.heap.CodeRec b7 d.name→mg d.name=some (.ref fh)→
   cn.heap.get? a=some {cls:= .type "list",data:= .seq vs.toArray}→IntsAre vs ns→ns.length≤n→cn.gens=#[]→
   codeAny (model l.prog w) callerA (.call (.ref fh) ⟨[.ref a],[]⟩) (λr s'=>r= .ok (.ret (.bool true))∧OldK cn.heap s'.heap∧s'.os=cn.os∧AllBare s'.gens) cn):
  WalkO q jm jn h1 l.row.toRowW d [] (λf vs=>PySem.call f vs):=by
 intro w s₀ cn mg fU G Y fh o c' b7 dw lh kV a3 hd e_ hD jo bL args mY as lp hlay hrd mZ hlo;obtain rfl:lh= .none:=Dflts.none hD hp;obtain rfl:kV= .none:=Dflts.noKw hD;obtain⟨a,vs,ns,rfl,rfl,m0,m1,cJ⟩:=ZdE br lp mZ;refine enter_call (codeAny_mono (call w s₀ cn mg fU fh o c' b7 dw a vs ns G Y a3 (fd_plain hd) e_ jo m0 m1 cJ bL) λr s' bC=>?_);obtain⟨rfl,aC,b_,cu⟩:=bC;exact⟨.inl ⟨.bool true,.bool true,[],rfl,λ_=>rfl,.bool true,tZ l _,λ_=>⟨List.Pairwise.nil,λ_ bq=>(nomatch bq)⟩⟩,aC,b_,cu⟩
section
variable {prog:Program}{w:World}{A:Around}{E:Value→Shared→Prop}{s:Shared}{K:Frag}
end
end Att
namespace L2
open PySem PySem.Spec PyProof.Rows
theorem qb:∀{vs:List Value}{ns:List Int},IntsAre vs ns→bS (ns.map V.int) vs
 |_,_,.nil=> .nil
 |_,_,.cons n t h=> .cons ⟨t,rfl⟩ (qb h)
def m2(H:Hp):Prop:=∀b,H b=none∨∃o xs,H b=some (.frz o (.lst xs))
theorem Zed{P:Program}{w:World}{K:Frag}{mg fU:Str→Option Value}{CX:CXT}{k:Nat}{fh a:Addr}{fd:FuncData}{x:Str}{sp:Sp}{cn:Shared}{vs:List Value}{ns:List Int}
  (di:K.In cn.heap) (jp:cn.heap.Ns mainGlobals mg) (ao:cn.heap.Ns builtinsNs fU) (t0:∀x:Str,x≠"__name__" →fU x=bootBuiltins x) (t1:cn.heap.NoLimit) (bL:cn.gens=#[])
  (a2:cn.heap.get? a=some {cls:= .type "list",data:= .seq vs.toArray}) (hi:IntsAre vs ns) (ap:ns.length≤sizeLine) (aH:cU k callerA)
  (F:∀base:Heap,K.In base→base.Ns mainGlobals mg→Z7 P w K mg base CX k fh fd [x] sp) (t2:∀(s:Shared)(u:Value),BindsTo s fd ⟨[u],[]⟩ [(x,u)])
  (fb:∀H:Hp,m2 H→SqL K H a (ns.map V.int)→sp [.ref a] H (λv _=>v= .bl true) λ_ _ _=>False)
  (m3:∀H e s',CX [] H cn (λ_ _ _=>False) e s'→False):
  codeAny (model P w) callerA (.call (.ref fh) ⟨[.ref a],[]⟩) (λr s'=>r= .ok (.ret (.bool true))∧OldK cn.heap s'.heap∧s'.os=cn.os∧AllBare s'.gens) cn:=by
 have b6:=qb hi;have t3:=hi.length;have qc:∀H:Hp,m2 H→SqL K H a (ns.map V.int)→HOk P w H cn.heap→(∀b,H b≠none→b=a)→(H a≠none→K.lookup a=none)→
   codeAny (model P w) callerA (.call (.ref fh) ⟨[.ref a],[]⟩) (λr s'=>r= .ok (.ret (.bool true))∧OldK cn.heap s'.heap∧s'.os=cn.os∧AllBare s'.gens) cn:=by
  intro H hO el hok iK hK;have qd:∀{b:Addr}{o:Obj},cn.heap.get? b=some o→H b=none→(ha cn.heap H).get? b=some o:=λe n=>ZdY e n;have j':∀{b:Addr}{o:Obj}{bp:Array DictEntry}{c9:Nat},cn.heap.get? b=some o→o.data= .dict bp c9→H b=none:=λ{b o bp c9} e d=>by
   cases q:H b with
   |none=>rfl
   |some u=>
    have bH:b=a:=iK b (by rw[q];simp);subst bH;rw[a2] at e;cases e;have d':Data.seq vs.toArray _=Data.dict bp c9:=d;cases d'
  have lq:∀{b:Addr}{m:Str→Option Value},cn.heap.Ns b m→(ha cn.heap H).Ns b m:=λ{b m} ⟨o,bp,c9,e,d,r⟩=>⟨o,bp,c9,qd e (j' e d),d,r⟩;have qe:K.In (ha cn.heap H):=λb o e=>qd (di b o e) (by
   cases q:H b with
   |none=>rfl
   |some u=>
    have bH:b=a:=iK b (by rw[q];simp);subst bH;rw[hK (by rw[q];simp)] at e;cases e)
  have t4:Mod K mg (ha cn.heap H):=⟨qe,lq jp,⟨fU,lq ao,t0⟩,let⟨t5,aB,aC⟩:=t1;⟨t5,lq aB,aC⟩⟩;have c1:WZ P w K mg (ha cn.heap H) callerA [] cn H:=⟨rfl,t4,λb o e=>Ze1 e,Nat.le_of_eq (sU _ _),trivial,λb ao=>absurd (show b∈([]:List Addr) from ao) (by simp),hok,.of_eq bL⟩;refine codeAny_mono ((F _ qe (lq jp)).run callerA [] cn H ⟨[.ref a],[]⟩ [.ref a] [.ref a] _ _ aH c1 (t2 cn (.ref a)) (.cons rfl .nil) (fb H hO el)) λr s' h=>?_;cases r with
  |error e=>exact(m3 H e s' h).elim
  |ok cO=>
   cases cO with
   |next=>exact False.elim h
   |brk=>exact False.elim h
   |cont=>exact False.elim h
   |ret u=>
    obtain⟨v,H',os,bare,un,t6,cd,q⟩:=h;have ej:v= .bl true:=q;subst ej;obtain rfl:u=Value.bool true:=cd;refine⟨rfl,OldK.of_keep λb o e=>?_,os,bare⟩;cases q:H b with
    |none=>exact un.keep b o e q (by intro z;exact absurd (show b∈([]:List Addr) from z) (by simp)) (by simp)
    |some u=>
     rcases hO b with z|⟨b',xs,z⟩
     ·rw[q] at z;cases z
     ·have eU:=un.frzs b b' _ z;obtain⟨bu,_⟩:=hok b _ z;obtain⟨bJ,_⟩:=t6 b _ eU;rw[e] at bu;cases bu;exact bJ
 cases aD:K.lookup a with
 |some o=>
  have e:=di a o aD;rw[a2] at e;cases e;refine qc (λ_=>none) (λ_=> .inl rfl) (.inr ⟨_,vs.toArray,_,aD,rfl,rfl,rfl,by rw[Qc,t3];exact ap,by simpa using b6⟩) (λb u z=>by have eF:(none:Option HO)=some u:=z;cases eF) (λb z=>absurd rfl z) λz=>absurd rfl z
 |none=>
  refine qc (λb=>if b=a then some (.frz {cls:= .type "list",data:= .seq vs.toArray} (.lst (ns.map V.int))) else none) (λb=>?_) (.inl (.inr ⟨{cls:= .type "list",data:= .seq vs.toArray},if_pos rfl⟩)) (λb u z=>?_) (λb z=>?_) λ_=>aD
  ·by_cases ao:b=a
   ·exact .inr ⟨_,_,if_pos ao⟩
   ·exact .inl (if_neg ao)
  ·by_cases ao:b=a
   ·have eF:=(if_pos ao).symm.trans z;cases eF;subst ao;exact⟨a2,by rw[Qa];exact ap,vs,_,b6,a2⟩
   ·have eF:=(if_neg ao).symm.trans z;cases eF
  ·by_cases ao:b=a
   ·exact ao
   ·exact absurd (if_neg ao) z
theorem ZeV{l:PySem.W.OpenLaw}{n k:Nat}{q:Program}{jm:List Str}{jn:(Str→Option Value)→Heap→Prop}{h1:World→Heap→Prop}{d:DefRec}{K:Params→Frag}{CX:World→CXT}{sp:World→Sp}{x:Str}
  (br:l.most=some n) (fw:n≤sizeLine) (hp:d.params.defaults=[]) (aH:cU k callerA)
  (m4:∀(w:World)(h:Heap),h1 w h→(K w.params).In h)
  (F:∀(w:World)(mg:Str→Option Value)(fh:Addr)(h:Heap),(K w.params).In h→h.Ns mainGlobals mg→mg d.name=some (.ref fh)→
   ∃fd:FuncData,(∀(s:Shared)(u:Value),BindsTo s fd ⟨[u],[]⟩ [(x,u)])∧
    ∀base:Heap,(K w.params).In base→base.Ns mainGlobals mg→Z7 l.prog w (K w.params) mg base (CX w) k fh fd [x] (sp w))
  (fb:∀(w:World)(H:Hp)(a:Addr)(ns:List Int),ns.length≤n→m2 H→SqL (K w.params) H a (ns.map V.int)→sp w [.ref a] H (λv _=>v= .bl true) λ_ _ _=>False)
  (m3:∀(w:World)(H:Hp)(s:Shared)(e:Value)(s':Shared),CX w [] H s (λ_ _ _=>False) e s'→False):
  PySem.W.WalkO q jm jn h1 l.row.toRowW d [] (λf vs=>PySem.call f vs):=by
 refine Att.ZbL br hp λw s₀ cn mg fU fh o c' b7 dw a vs ns G Y a3 hd e_ jo m0 m1 cJ bL=>?_;have di:=m4 w _ Y;obtain⟨fd,ao,t7⟩:=F w mg fh _ di G.T.g jo;exact Zed di G.T.g G.T.b G.T.builtins G.T.nolimit bL m0 m1 (Qv cJ fw) aH t7 ao (λH hO el=>fb w H a ns cJ hO el) λH e s'=>m3 w H cn e s'
noncomputable def WA (s:Stmt) (j:Nat):Stmt:=match s with
 | .ClassDef _ _ _ body _ _ _ _ _ _ _=>body.getD j (.Pass ⟨0,0,0,0⟩)
 |_=> .Pass ⟨0,0,0,0⟩
noncomputable def gp (s:Stmt):Arguments:=match s with
 | .FunctionDef _ a _ _ _ _ _ _ _ _=>a
 |_=>{posonlyargs:=[],args:=[],vararg:=none,kwonlyargs:=[],kw_defaults:=[],kwarg:=none,defaults:=[]}
noncomputable def fy (s:Stmt):List Stmt:=match s with
 | .FunctionDef _ _ b _ _ _ _ _ _ _=>b
 |_=>[]
noncomputable def b4 (s:Stmt):Scope:=match s with
 | .FunctionDef _ _ _ _ _ _ bn _ _ _=>bn
 |_=>{kind:= .function,names:=[],isGenerator:=false,isCoroutine:=false}
noncomputable abbrev E0:XK:=λ_ _ _=>False
structure Fun(K:Frag)(x qual:Str)(st:Stmt)(f:Addr)(fd:FuncData):Prop where
 ex:∃(dy:Value)(cG:Option Addr)(kV dw c':Value)(an:Option Addr)(bU ct:Value)(en:Array (Option Value)),
  fd=fnOf x qual (gp st) (fy st) (b4 st) .none kV dw c' an bU ct∧K.lookup f=some ⟨dy,cG,.func fd,en⟩∧codeIn K bU qual=true
 kp:keepIn K (.ref f)=true
section
variable {P:Program}{w:World}{K:Frag}{mg:Str→Option Value}{base:Heap}
theorem Fun.binds{x qual:Str}{st:Stmt}{f:Addr}{fd:FuncData}{a_:List Str}(F:Fun K x qual st f fd)
  (h:∀(kV dw c':Value)(an:Option Addr)(bU ct:Value)(us:List Value),us.length=a_.length→bindArgs (fnOf x qual (gp st) (fy st) (b4 st) .none kV dw c' an bU ct) ⟨us,[]⟩=pure (a_.zip us)):Yy K fd a_ []:=by
 obtain⟨dy,cG,kV,dw,c',an,bU,ct,en,rfl,lk,e_⟩:=F.ex;exact .all (h kV dw c' an bU ct)
theorem jq{x qual:Str}{st:Stmt}{f:Addr}{dy:Value}{cG an:Option Addr}{en:Array (Option Value)}{kV dw c' bU ct:Value}(l:K.lookup f=some ⟨dy,cG,.func (fnOf x qual (gp st) (fy st) (b4 st) .none kV dw c' an bU ct),en⟩)
  (c:codeIn K bU qual=true) (k:keepIn K (.ref f)=true):Fun K x qual st f (fnOf x qual (gp st) (fy st) (b4 st) .none kV dw c' an bU ct):=⟨⟨dy,cG,kV,dw,c',an,bU,ct,en,rfl,l,c⟩,k⟩
end
theorem dO{n:Nat}(h:n≤1000):n<sizeLine:=Q9 h (by decide)
section
variable {X:Cx}
theorem pv(i:Nat){x:Str}{pos:Pos}(da:X.N[i]? =some x:=by rfl)(b9:Vis X.env.scope x:=by first|exact Or.inl rfl|exact Or.inr (Or.inl rfl)|exact Or.inr (Or.inr rfl))(hd:(x==("__debug__" :Str))=false:=by decide)
  (e_:(x==("__classdict__" :Str))=false:=by decide):PE X (.Name x pos) (ZbC i):=Zfu da b9 hd e_
end
theorem Zbg{A B:Prop}(h:B):if false=true then A else B:=by
 rw[if_neg Qd];exact h
theorem Zc1{A B:Prop}(h:A):if true=true then A else B:=by
 rw[if_pos rfl];exact h
theorem Uo{c A B:Prop}[Decidable c](aB:c→A)(aC:¬c→B):if c then A else B:=by
 by_cases h:c
 ·rw[if_pos h];exact aB h
 ·rw[if_neg h];exact aC h
def Zd(H H':Hp):Prop:=∀b o,H b=some o→H' b=some o
theorem Zd.refl(H:Hp):Zd H H:=λ_ _ h=>h
theorem Zd.trans{H aq ar:Hp}(a:Zd H aq)(b:Zd aq ar):Zd H ar:=λc o h=>b c o (a c o h)
theorem Zd.seq{K:Frag}{H H':Hp}{a:Addr}{xs:List V}(e:Zd H H')(h:SqL K H a xs):SqL K H' a xs:=by
 rcases h with(h|⟨o,h⟩)|h
 ·exact .inl (.inl (e _ _ h))
 ·exact .inl (.inr ⟨o,e _ _ h⟩)
 ·exact .inr h
section
variable {cC:Type}[DecidableEq cC]
noncomputable def e0 (aP:List (cC×V)) (k:cC):Option V:=(aP.find? λc5=>decide (c5.1=k)).map (·.2)
noncomputable def fi (aP:List (cC×V)) (k:cC) (v:V):List (cC×V):=
 if(aP.any λc5=>decide (c5.1=k))=true then aP.map (λc5=>if c5.1=k then(c5.1,v) else c5) else aP++ [(k,v)]
theorem Um{p:cC×V}{r:List (cC×V)}{k:cC}(e:p.1=k):e0 (p::r) k=some p.2:=by simp[e0,Q0,e]
theorem Uf{p:cC×V}{r:List (cC×V)}{k:cC}(e:¬p.1=k):e0 (p::r) k=e0 r k:=by simp[e0,Q0,e]
theorem Vc(k:cC):∀aP:List (cC×V),(aP.any λc5=>decide (c5.1=k))=(e0 aP k).isSome
 | []=>rfl
 |p::r=>by
  rw[List.any_cons]
  by_cases e:p.1=k
  ·simp only[Um e,decide_eq_true e,Bool.true_or,Option.isSome_some]
  ·rw[Uf e,decide_eq_false e,Bool.false_or];exact Vc k r
theorem V9(aP:List (cC×V))(k:cC)(v:V):(fi aP k v).length≤aP.length+1:=by
 unfold fi
 split
 ·rw[Qa];omega
 ·rw[Qh,List.length_cons,List.length_nil];omega
theorem Zex{aP:List (cC×V)}{k:cC}(v:V)(h:e0 aP k=none):fi aP k v=aP++ [(k,v)]:=by
 unfold fi;rw[Vc,h];exact if_neg (by decide)
theorem fq.isSome_eq{o:Option V}{u:Option Value}(r:fq o u):o.isSome=u.isSome:=by
 cases o with
 |none=>cases u with
  |none=>rfl
  |some _=>exact(show False from r).elim
 |some _=>cases u with
  |none=>exact(show False from r).elim
  |some _=>rfl
theorem KV.val{aP:List (cC×V)}{vs:List (cC×Value)}(r:KV aP vs)(k:cC):fq (e0 aP k) (valueAt vs k):=by
 unfold KV at r
 induction r with
 |nil=>exact True.intro
 | @cons p q a_ qs h t b0=>
  obtain⟨aB,aC⟩:=h
  by_cases e:p.1=k
  ·have bH:q.1=k:=aB.symm.trans e;have b:valueAt (q::qs) k=some q.2:=by simp[valueAt,Q0,bH]
   rw[Um e,b];exact aC
  ·have bH:¬q.1=k:=λz=>e (aB.trans z);have b:valueAt (q::qs) k=valueAt qs k:=by simp[valueAt,Q0,bH]
   rw[Uf e,b];exact b0
theorem KV.any{aP:List (cC×V)}{vs:List (cC×Value)}(r:KV aP vs)(k:cC):(aP.any λc5=>decide (c5.1=k))=vs.any λc5=>decide (c5.1=k):=by
 unfold KV at r
 induction r with
 |nil=>rfl
 |cons h t b0=>rw[List.any_cons,List.any_cons,b0,h.1]
theorem KV.repl{aP:List (cC×V)}{vs:List (cC×Value)}(r:KV aP vs)(k:cC){y:V}{u:Value}(bN:b5 y u):
  KV (aP.map λc5=>if c5.1=k then(c5.1,y) else c5) (vs.map λc5=>if c5.1=k then(c5.1,u) else c5):=by
 unfold KV at r⊢
 induction r with
 |nil=>exact .nil
 | @cons p q a_ qs h t b0=>
  rw[List.map_cons,List.map_cons];refine .cons ?_ b0;obtain⟨aB,aC⟩:=h
  by_cases e:p.1=k
  ·rw[if_pos e,if_pos (aB.symm.trans e)];exact⟨aB,bN⟩
  ·rw[if_neg e,if_neg (λz=>e (aB.trans z))];exact⟨aB,aC⟩
theorem KV.put{aP:List (cC×V)}{vs:List (cC×Value)}(r:KV aP vs)(k:cC){y:V}{u:Value}(bN:b5 y u):KV (fi aP k y) (stored vs k u):=by
 unfold fi stored;rw[r.any k]
 by_cases e:(vs.any λc5=>decide (c5.1=k))=true
 ·rw[if_pos e,if_pos e];exact r.repl k bN
 ·rw[if_neg e,if_neg e];exact Paired.snoc r ⟨rfl,bN⟩
theorem KV.length{aP:List (cC×V)}{vs:List (cC×Value)}(r:KV aP vs):aP.length=vs.length:=Paired.length r
end
theorem m5{P:Program}{w:World}{k:Key}{u:Value}(r:b5 (kV k) u):(fo P w).is k u=true:=by
 cases k with
 |inl i=>obtain⟨t,e⟩:=(show ∃t,u=Value.int i t from r);subst e;exact ZbK P w i t
 |inr x=>obtain⟨t,e⟩:=(show ∃t,u=Value.str x t from r);subst e;exact ZbU P w x t
theorem t8{a b:Key}(e:kV a=kV b):a=b:=by
 cases a with
 |inl i=>cases b with
  |inl j=>have bH:V.int i=V.int j:=e;injection bH with bH;rw[bH]
  |inr y=>exact nomatch (show V.int i=V.str y from e)
 |inr x=>cases b with
  |inl j=>exact nomatch (show V.str x=V.int j from e)
  |inr y=>have bH:V.str x=V.str y:=e;injection bH with bH;rw[bH]
theorem qf{P:Program}{w:World}:∀{h0:List Key}{us:List Value},bS (h0.map kV) us→ItemsAre (fo P w) h0 us
 | [],_,r=>by rw[List.map_nil] at r;cases r;exact .nil
 |k::h0,_,r=>by
  rw[List.map_cons] at r;cases r with
  |cons h t=>exact .cons (m5 h) (qf t)
noncomputable abbrev KT (H:Hp):List (List Key×V)→List (List Key×Addr×Value)→Prop:=Paired λp q=>p.1=q.1∧H q.2.1=some (.tup (p.1.map kV))∧b5 p.2 q.2.2
theorem KT.val{H:Hp}{aP:List (List Key×V)}{xs:List (List Key×Addr×Value)}(r:KT H aP xs)(k:List Key):fq (e0 aP k) ((atKey xs k).map (·.2)):=by
 induction r with
 |nil=>exact True.intro
 | @cons p q a_ qs h t b0=>
  obtain⟨aB,_,aC⟩:=h
  by_cases e:p.1=k
  ·have bH:q.1=k:=aB.symm.trans e;have b:atKey (q::qs) k=some q.2:=by simp[atKey,Q0,bH]
   rw[Um e,b];exact aC
  ·have bH:¬q.1=k:=λz=>e (aB.trans z);have b:atKey (q::qs) k=atKey qs k:=by simp[atKey,Q0,bH]
   rw[Uf e,b];exact b0
theorem KT.repl{H:Hp}{aP:List (List Key×V)}{xs:List (List Key×Addr×Value)}(r:KT H aP xs)(k:List Key){y:V}{u:Value}(bN:b5 y u):
  KT H (aP.map λc5=>if c5.1=k then(c5.1,y) else c5) (xs.map (putAt k u)):=by
 induction r with
 |nil=>exact .nil
 | @cons p q a_ qs h t b0=>
  rw[List.map_cons,List.map_cons];refine .cons ?_ b0;obtain⟨aB,aC,b_⟩:=h;unfold putAt
  by_cases e:p.1=k
  ·rw[if_pos e,if_pos (aB.symm.trans e)];exact⟨aB,aC,bN⟩
  ·rw[if_neg e,if_neg (λz=>e (aB.trans z))];exact⟨aB,aC,b_⟩
theorem KT.put{H:Hp}{aP:List (List Key×V)}{xs:List (List Key×Addr×Value)}(r:KT H aP xs)(k:List Key){b:Addr}{y:V}{u:Value}(ao:H b=some (.tup (k.map kV)))(bN:b5 y u):
  KT H (fi aP k y) (storedH xs k b u):=by
 have e:(aP.any λc5=>decide (c5.1=k))=(atKey xs k).isSome:=by
  rw[Vc,(r.val k).isSome_eq,Option.isSome_map]
 unfold fi storedH;rw[e]
 by_cases q:(atKey xs k).isSome=true
 ·rw[if_pos q,if_pos q];exact r.repl k bN
 ·rw[if_neg q,if_neg q];exact Paired.snoc r ⟨rfl,ao,bN⟩
theorem KT.keeps{H H':Hp}{aP:List (List Key×V)}{xs:List (List Key×Addr×Value)}(r:KT H aP xs)(bM:∀b ys,H b=some (.tup ys)→H' b=some (.tup ys)):KT H' aP xs:=
 Paired.mapP r λ_ _ z=>⟨z.1,bM _ _ z.2.1,z.2.2⟩
section
variable {P:Program}{w:World}{H:Hp}{h:Heap}{a:Addr}
theorem ZeD{u:HO}(ok:HOk P w H h)(e:Rd H a u):ZI P w H h a u:=e.ok ok
theorem ZcS{aP:List (Key×V)}(ok:HOk P w H h)(e:Rd H a (.dK aP)):aP.length≤sizeLine∧(a==sysModules)=false∧∃vs,KV aP vs∧h.DictOf (fo P w) a vs:=
 show ZI P w H h a (.dK aP) from ZeD ok e
theorem Zg6{aP:List (Key×V)}(ok:HOk P w H h)(e:H a=some (.dK aP)):aP.length≤sizeLine∧(a==sysModules)=false∧∃vs,KV aP vs∧h.DictOf (fo P w) a vs:=ZcS ok (.inl e)
theorem m6{h0:List Key}(ok:HOk P w H h)(e:H a=some (.tup (h0.map kV))):(tupleKind (fo P w)).is h h0 a:=by
 obtain⟨_,its,r,o,aB,aC,n,b_⟩:=(show ZI P w H h a (.tup (h0.map kV)) from ok a _ e);exact⟨o,its.toArray,n,aB,aC,b_,by simpa using qf r⟩
theorem Zez{aP:List (List Key×V)}(ok:HOk P w H h)(e:Rd H a (.dT aP)):aP.length≤sizeLine∧(a==sysModules)=false∧
  ∃xs,KT H aP xs∧h.DictOfH (tupleKind (fo P w)) a xs:=by
 obtain⟨z,y,xs,r,o,bp,c9,aB,aC,b_,cu,ew⟩:=(show ZI P w H h a (.dT aP) from ZeD ok e);refine⟨z,y,xs,r,o,bp,c9,aB,aC,b_,cu,λx ax=>?_,ew⟩;have all:∀{l:List (List Key×V)}{m:List (List Key×Addr×Value)},KT H l m→∀x∈m,(tupleKind (fo P w)).is h x.1 x.2.1:=by
  intro l m q
  induction q with
  |nil=>intro x ax;exact nomatch ax
  | @cons p q a_ qs bC t b0=>
   intro x ax;rcases Qu.mp ax with e|ax
   ·subst e;exact m6 ok (by rw[←bC.1];exact bC.2.1)
   ·exact b0 x ax
 exact all r x ax
theorem Zg1{aP:List (List Key×V)}(ok:HOk P w H h)(e:H a=some (.dT aP)):aP.length≤sizeLine∧(a==sysModules)=false∧
  ∃xs,KT H aP xs∧h.DictOfH (tupleKind (fo P w)) a xs:=Zez ok (.inl e)
end
def Zbx(H:Hp)(a:Addr)(y:V)(r:Option V):Prop:=
 (∃aP k,Rd H a (.dK aP)∧y=kV k∧r=e0 aP k)∨∃aP k b,Rd H a (.dT aP)∧y= .ref b∧H b=some (.tup (k.map kV))∧r=e0 aP k
def Za9(H:Hp)(a:Addr)(y v:V)(H':Hp):Prop:=
 (∃aP k,H a=some (.dK aP)∧y=kV k∧aP.length<sizeLine∧H'=upd H a (.dK (fi aP k v)))∨
 ∃aP k b,H a=some (.dT aP)∧y= .ref b∧H b=some (.tup (k.map kV))∧aP.length<sizeLine∧H'=upd H a (.dT (fi aP k v))
theorem Zbx.k{H:Hp}{a:Addr}{aP:List (Key×V)}{k:Key}(e:H a=some (.dK aP)):Zbx H a (kV k) (e0 aP k):= .inl ⟨aP,k,.inl e,rfl,rfl⟩
theorem Za9.k{H:Hp}{a:Addr}{aP:List (Key×V)}{k:Key}{v:V}(e:H a=some (.dK aP))(ap:aP.length<sizeLine):Za9 H a (kV k) v (upd H a (.dK (fi aP k v))):= .inl ⟨aP,k,e,rfl,ap,rfl⟩
section
variable {X:Cx}{am:List (Addr×Obj)}{σ:St}{H:Hp}{s:Shared}{a:Addr}{y v:V}{u r:Value}{o:Option V}{A:Around}{E:Value→Shared→Prop}
theorem Inv.big(I:Inv X am σ H s):sysModules<s.heap.objs.size:=by
 have h:mainGlobals<s.heap.objs.size:=(I.mod.glob.keeps I.bk).lt;exact Nat.lt_trans (by decide) h
theorem ZhA{Q:Value→Shared→Prop}(hu:A.units+1<cLine)(I:Inv X am σ H s)(g:Zbx H a y o)(bN:b5 y u)(h:∀s',Inv X am σ H s'→Q (.bool o.isSome) s'):
  wpAny (model X.prog X.w) A (compareOp .In u (.ref a)) Q E s:=by
 rcases g with⟨aP,k,e,dP,l⟩|⟨aP,k,b,e,dP,d5,l⟩
 ·subst dP;obtain⟨z,hd,vs,rel,dd⟩:=ZcS I.hok e;refine wpAny_in_of (m5 bN) hd dd.mapOf ?_;rw[←(rel.val k).isSome_eq,←l];exact h _ (I.tok _)
 ·subst dP;cases (show u=Value.ref b from bN);obtain⟨z,hd,xs,rel,dd⟩:=Zez I.hok e;refine wpAny_in_heap (tupleKind_room_in1 hu) (m6 I.hok d5) hd dd ?_;have q:=(rel.val k).isSome_eq;rw[Option.isSome_map] at q;rw[←q,←l];exact h _ (I.tok _)
theorem Zcf{h':Heap}{t':Nat}{b':HO}(I:Inv X am σ H s)(fr:Mut (H a))(a4:Heap.SameBut a s.heap h')(bF:∃q,h'.get? a=some q)(new:ZI X.prog X.w (upd H a b') h' a b'):
  Inv X am σ (upd H a b') {s with heap:=h',toks:=t'}:=
 I.write (x:=a) (e:=a) fr (.inl rfl) (λb q ao z=>(a4.2 b ao).trans z) bF new
theorem t9{P:Program}{w:World}{H':Hp}{h':Heap}{aP:List (Key×V)}{vs:List (Key×Value)}(z:aP.length≤sizeLine)(hd:(a==sysModules)=false)(rel:KV aP vs)(dd:h'.DictOf (fo P w) a vs):
  ZI P w H' h' a (.dK aP):=⟨z,hd,vs,rel,dd⟩
theorem Zdx{H':Hp}{Q:Unit→Shared→Prop}(hu:A.units+1<cLine)(I:Inv X am σ H s)(g:Za9 H a y v H')(bN:b5 y u)(b6:b5 v r)(h:∀s',Inv X am σ H' s'→Q () s'):
  wpAny (model X.prog X.w) A (setItem (.ref a) u r) Q E s:=by
 rcases g with⟨aP,k,e,dP,l,m7⟩|⟨aP,k,b,e,dP,d5,l,m7⟩
 ·subst dP m7;obtain⟨z,hd,vs,rel,dd⟩:=Zg6 I.hok e;have bw:vs.length≤sizeLine:=by rw[←rel.length];exact z
  have ap:(fi aP k v).length≤sizeLine:=by have:=V9 aP k v;omega
  refine wpAny_setItem_pairs (hsz:=bw) (m5 bN) dd λh' dd' a4=>h _ ?_;have bF:∃q,h'.get? a=some q:=let⟨q,_,_,bC,_⟩:=dd';⟨q,bC⟩
  exact Zcf I (by rw[e];exact True.intro) a4 bF (t9 ap hd (rel.put k b6) dd')
 ·subst dP m7;cases (show u=Value.ref b from bN);obtain⟨z,hd,xs,rel,dd⟩:=Zg1 I.hok e;have bw:xs.length≤sizeLine:=by rw[←Paired.length rel];exact z
  have ap:(fi aP k v).length≤sizeLine:=by have:=V9 aP k v;omega
  refine wpAny_setItem_heap (hsz:=bw) (tupleKind_room_in1 hu) (m6 I.hok d5) dd λh' dd' a4=>h _ ?_;obtain⟨q,bp,c9,bC,aC,b_,cu,_,ew⟩:=dd';refine Zcf I (by rw[e];exact True.intro) a4 ⟨q,bC⟩ ⟨ap,hd,_,(rel.put k d5 b6).keeps λc ys fZ=>?_,q,bp,c9,bC,aC,b_,cu,ew⟩;rw[bV (hS fZ e (λz=>nomatch z))];exact fZ
end
section
variable {X:Cx}{am:List (Addr×Obj)}{σ:St}{H:Hp}{s:Shared}{a:Addr}{aP:List (Key×V)}{k:Key}{u:Value}{A:Around}{E:Value→Shared→Prop}
theorem ZgN{Q:Value→Shared→Prop}(I:Inv X am σ H s)(e:Rd H a (.dK aP))(h:∀t s',Inv X am σ H s'→Q (.int aP.length t) s'):wpAny (model X.prog X.w) A (call (.builtin "len") [.ref a]) Q E s:=by
 obtain⟨z,hd,vs,rel,dd⟩:=ZcS I.hok e;refine call_len_dict hd dd (by rw[←rel.length];rw[sizeLine_eq] at z;omega) ?_;rw[←rel.length];exact h _ _ (I.tok _)
end
section
variable {X:Cx}{o i e value:Expr}{pos gg mK:Pos}{t_ ty gl:TE}
end
theorem ua{P:Program}{w:World}{H:Hp}(h:Heap)(ao:sysModules<h.objs.size):ZI P w H (h.push {cls:= .type "dict",data:= .dict #[]}) h.objs.size (.dK []):=
 ⟨Qs _,beq_eq_false_iff_ne.mpr (Jj (Qm ao)),[],.nil,Heap.DictOf.new h⟩
noncomputable def tDNewK:TE:=λ_ H Q=>∀p,H p=none→Q (.ref p) (upd H p (.dK []))
section
variable {X:Cx}{pos:Pos}
theorem ub:PE X (.Dict [] [] pos) tDNewK:=λam s σ H Q I h=>
 wpAny_Dict_empty ⟨.ref s.heap.objs.size,_,I.laid (a:=s.heap.objs.size) (o:= .dK []) (t':=s.toks) (λ_ _ q=>Heap.get?_push_of_some _ q) (Qb _) (ua s.heap I.big),rfl,h _ (I.hok.fresh (Qb _))⟩
end
section
variable {X:Cx}{am:List (Addr×Obj)}{σ:St}{H:Hp}{s:Shared}{a:Addr}{y d:V}{u r:Value}{o:Option V}{A:Around}{E:Value→Shared→Prop}
end
section
variable {X:Cx}{o e f:Expr}{dE d6:Pos}{t_ ty Bl:TE}
end
section
variable {X:Cx}{am:List (Addr×Obj)}{σ:St}{H:Hp}{s:Shared}{a:Addr}{aP:List (Key×V)}{A:Around}{E:Value→Shared→Prop}
end
section
variable {X:Cx}{am:List (Addr×Obj)}{σ:St}{H:Hp}{s:Shared}{a:Addr}{y:V}{u:Value}{A:Around}{E:Value→Shared→Prop}
end
section
variable {X:Cx}
theorem uc:Z0 X (.builtin "len") (λxs H Q=>∃a aP,xs=[V.ref a]∧H a=some (.dK aP)∧Q (.int aP.length) H):=by
 intro am s σ H xs us Q I r h;obtain⟨a,aP,rfl,a2,q⟩:=h;obtain⟨u,rfl,d4⟩:=Wg r;cases d4;exact ZgN I (.inl a2) λt s' cZ=>⟨.int aP.length,H,cZ,⟨t,rfl⟩,q⟩
end
section
variable {cC:Type}[DecidableEq cC]
end
namespace Rd
section
variable {σ:St}{H:Hp}{Q:VK}{D:Y3}{t u:TS}{bA b1 bK:TE}{r:R2}
theorem var{i:Nat}{v:V}(h:σ[i]? =some (some v))(q:Q v H):ZbC i σ H Q:=⟨v,h,q⟩
theorem con{v:V}(q:Q v H):tC v σ H Q:=q
theorem op(h:bA σ H λx aq=>b1 σ aq λy ar=>r x y ar Q):tOp r bA b1 σ H Q:=h
theorem i0{g:Int→Int→V}{i j:Int}(q:Q (g i j) H):rI0 g (.int i) (.int j) H Q:=⟨i,j,rfl,rfl,q⟩
theorem iC{C:Int→Int→Prop}{g:Int→Int→V}{i j:Int}(c:C i j)(q:Q (g i j) H):rI C g (.int i) (.int j) H Q:=⟨i,j,rfl,rfl,c,q⟩
theorem eqI{i j:Int}(q:Q (.bl (decide (i=j))) H):rEq (.int i) (.int j) H Q:=⟨rfl,by
 have e:decide (V.int i=V.int j)=decide (i=j):=by
  by_cases h:i=j
  ·rw[h];simp
  ·rw[decide_eq_false h,decide_eq_false (λz=>h (V.int.inj z))]
 rw[e];exact q⟩
theorem neI{i j:Int}(q:Q (.bl (!decide (i=j))) H):rNe (.int i) (.int j) H Q:=⟨rfl,by
 have e:decide (V.int i=V.int j)=decide (i=j):=by
  by_cases h:i=j
  ·rw[h];simp
  ·rw[decide_eq_false h,decide_eq_false (λz=>h (V.int.inj z))]
 rw[e];exact q⟩
theorem Zhd{Q:Bool→Hp→Prop}(h:bK σ H λx H'=>∃k,x= .bl k∧Q k H'):pV bK σ H Q:=h
theorem bl{k:Bool}{Q:Bool→Prop}(q:Q k):∃k',V.bl k= .bl k'∧Q k':=⟨k,rfl,q⟩
theorem seq(h:t {D with nx:=u D} σ H):pI t u D σ H:=h
theorem asg{g:TG}(h:bK σ H λx aq=>g x σ aq D.nx):k_ bK g D σ H:=h
theorem ifs{c:TT}(h:c σ H λb aq=>if b=true then t D σ aq else u D σ aq):pL c t u D σ H:=h
theorem ret(h:bK σ H D.rt):pK bK D σ H:=h
theorem next(h:D.nx σ H):tNext D σ H:=h
theorem drop(h:bK σ H λ_ aq=>D.nx σ aq):pJ bK D σ H:=h
theorem nil{Q:List V→Hp→Prop}(h:Q [] H):tNil σ H Q:=h
theorem cons{lf:TA}{Q:List V→Hp→Prop}(h:bA σ H λx aq=>lf σ aq λxs ar=>Q (x::xs) ar):pY bA lf σ H Q:=h
theorem call{sp:Sp}{cF:List V}{E:XK}{ck:TA}(h:ck σ H λvs aq=>sp (vs++cF) aq Q E):lg sp cF E ck σ H Q:=h
theorem cb{r:List V→Hp→VK→Prop}{ck:TA}(h:ck σ H λvs aq=>r vs aq Q):tCB r ck σ H Q:=h
theorem tup{ck:TA}(h:ck σ H λxs aq=>xs.length≤sizeLine∧∀p,aq p=none→Q (.ref p) (upd aq p (.tup xs))):pZ ck σ H Q:=h
theorem lst{ck:TA}(h:ck σ H λxs aq=>xs.length≤sizeLine∧∀p,aq p=none→Q (.ref p) (upd aq p (.lst xs))):p0 ck σ H Q:=h
theorem ZhG{t u:TT}{Q:Bool→Hp→Prop}(h:t σ H λc aq=>if c=true then u σ aq Q else Q false aq):pE t u σ H Q:=h
theorem or_{t u:TT}{Q:Bool→Hp→Prop}(h:t σ H λc aq=>if c=true then Q true aq else u σ aq Q):tOr t u σ H Q:=h
theorem Zhs{t:TT}{Q:Bool→Hp→Prop}(h:t σ H λc aq=>Q (!c) aq):pF t σ H Q:=h
theorem Zhf(h:bA σ H λx aq=>∃c,x= .bl c∧if c=true then b1 σ aq Q else Q (.bl false) aq):pG bA b1 σ H Q:=h
theorem Zhi(h:bA σ H λx aq=>∃c,x= .bl c∧Q (.bl (!c)) aq):pH bA σ H Q:=h
end
end Rd
section
variable {X:Cx}
theorem ud:OpR X (binaryOp .Mult) (rI (λi j=>IntMulOk i j) λi j=> .int (i*j)):=opI λ_ _ _ _ _ _ _ aw q=>mul_int q aw
theorem ey:OpR X (binaryOp .FloorDiv) (rI (λ_ j=>0<j∧j.natAbs.log2<9000) λi j=> .int (i / j)):=opI λi j _ _ _ _ _ aw q=>by
 rw[←Int.fdiv_eq_ediv_of_nonneg i (Int.le_of_lt aw.1)] at q;exact floordiv_int (by have:=aw.1;omega) q (.inl (PyProof.noPylong_of_log2 aw.2))
theorem uf:Z0 X (.builtin "isinstance") (λxs H Q=>∃x n t b,xs=[x,.ty n]∧YF X.K H x t∧PySem.W.kitOne X.K t (.type n)=some b∧Q (.bl b) H):=by
 intro am s σ H xs us Q I r h;obtain⟨x,n,t,b,rfl,ty,e,q⟩:=h;obtain⟨u,v,rfl,d4,b6⟩:=r.two;obtain rfl:v=Value.type n:=b6;exact ZdC I d4 ty e λcw=>⟨.bl b,H,I.tok cw,rfl,q⟩
theorem Zgj{c:TT}{b1:TS}{D:Y3}{σ:St}{H:Hp}(W:Nat→St→Hp→Prop)(m:Nat)(cv:W m σ H)
  (a4:∀m σ H,W m σ H→c σ H λb aq=>if b=true then ∃N:St→Hp→Prop,(∀aV H',N aV H'→∃bG,bG<m∧W bG aV H')∧b1 {D with nx:=N,ct:=N,bk:=D.nx} σ aq else D.nx σ aq):pO c b1 D σ H:=
 ⟨W,⟨m,cv⟩,a4⟩
theorem ZgP{W:Nat→St→Hp→Prop}{m:Nat}{b1:TS}{D:Y3}{σ:St}{aq:Hp}
  (h:b1 {D with nx:=λaV H'=>∃bG,bG<m∧W bG aV H',ct:=λaV H'=>∃bG,bG<m∧W bG aV H',bk:=D.nx} σ aq):
  ∃N:St→Hp→Prop,(∀aV H',N aV H'→∃bG,bG<m∧W bG aV H')∧b1 {D with nx:=N,ct:=N,bk:=D.nx} σ aq:=⟨_,λ_ _ z=>z,h⟩
noncomputable def qg (t:TS):TS:=λD σ H=>∃J:St→Hp→Prop,(∀aV H',J aV H'→D.nx aV H')∧t {D with nx:=J} σ H
theorem lr{st:Stmt}{t:TS}(h:PS X st t):PS X st (qg t):=by
 intro am s σ H D I bC;obtain⟨J,iL,q⟩:=bC;refine thn (h am s σ H _ I q) λf aI bZ=>?_;cases f with
 |next=>obtain⟨aV,H',cZ,j⟩:=bZ;exact⟨aV,H',cZ,iL _ _ j⟩
 |brk=>exact bZ
 |cont=>exact bZ
 |ret v=>exact bZ
end
namespace Rd
theorem ZeH{A B:Prop}(h:B):if(!true)=true then A else B:=Zbg h
theorem ZeS{A B:Prop}(h:A):if(!false)=true then A else B:=Zc1 h
section
variable {σ:St}{H:Hp}{Q:VK}{D:Y3}{t u:TS}{bA b1 bK:TE}
theorem cut(J:St→Hp→Prop)(iL:∀aV H',J aV H'→D.nx aV H')(h:t {D with nx:=J} σ H):qg t D σ H:=⟨J,iL,h⟩
theorem ZhD{cT:TI}{g:TG}{b1:TS}(h:cT σ H λJ aq=>∃W:Nat→Nat→St→Hp→Prop,(∃m,W 0 m σ aq)∧∀i m σ H,W i m σ H→
  (J.stop i H∧D.nx σ H)∨(J.go i H∧∃N:St→Hp→Prop,(∀aV H',N aV H'→∃bG,bG<m∧W (i+1) bG aV H')∧∀x H',J.yld i H x H'→g x σ H' λbO ar=>b1 {D with nx:=N,ct:=N,bk:=D.nx} bO ar)):pQ cT g b1 D σ H:=h
theorem Zhg{ck:TA}{R:It→Hp→Prop}(h:ck σ H λvs aq=>∃j:Int,vs=[.int j]∧ -(2 ^ 62)≤j∧j<2 ^ 62∧R (Itr 0 j.toNat) aq):pP ck σ H R:=h
theorem Vl{K:Frag}{n:Nat}{ck:TGs}{a:Addr}{xs:List V}{Q:St→Hp→Prop}(a4:SqT K H a xs)(br:xs.length=n)(h:ck xs σ H Q):mA K n ck (.ref a) σ H Q:=⟨a,xs,rfl,a4,br,h⟩
theorem Zhm{Q:St→Hp→Prop}(h:Q σ H):gNil [] σ H Q:=⟨rfl,h⟩
theorem ZgV{g:TG}{qh:TGs}{v:V}{r:List V}{Q:St→Hp→Prop}(h:g v σ H λaV H'=>qh r aV H' Q):pM g qh (v::r) σ H Q:=⟨v,r,rfl,h⟩
end
end Rd
theorem cc{H:Hp}{p:Addr}{o:HO}(bo:H p=none):Zd H (upd H p o):=λc u e=>by rw[bV (c8 e bo)];exact e
theorem Zd.new{H H':Hp}{q:Addr}{o:HO}(bD:Zd H H')(bC:H q=none):Zd H (upd H' q o):=λc u e=>by rw[bV (c8 e bC)];exact bD c u e
theorem Zd.seqT{K:Frag}{H H':Hp}{a:Addr}{xs:List V}(e:Zd H H')(h:SqT K H a xs):SqT K H' a xs:=by
 rcases h with(h|⟨o,h⟩)|h
 ·exact .inl (.inl (e _ _ h))
 ·exact .inl (.inr ⟨o,e _ _ h⟩)
 ·exact .inr h
namespace Rd
section
variable {σ:St}{H:Hp}{Q:VK}{D:Y3}{K:Frag}
theorem ixt{p:Addr}{xs:List V}{i:Int}{v:V}(h:SqT K H p xs)(e:atI xs i=some v)(q:Q v H):mP K (.ref p) (.int i) H Q:=⟨p,xs,i,v,rfl,rfl,h,e,q⟩
theorem ixl{p:Addr}{xs:List V}{i:Int}{v:V}(h:SqL K H p xs)(e:atI xs i=some v)(q:Q v H):Zcu K (.ref p) (.int i) H Q:=⟨p,xs,i,v,rfl,rfl,h,e,q⟩
theorem bm{T:String}{r:V→List V→Hp→VK→Prop}{to:TE}{t:TA}(h:to σ H λx aq=>tyV K T x aq∧t σ aq λxs ar=>r x xs ar Q):tBM K T r to t σ H Q:=h
theorem tyl{p:Addr}{xs:List V}{B:Prop}(h:H p=some (.lst xs))(q:B):tyV K "list" (.ref p) H∧B:=⟨.inl ⟨rfl,xs,.of h⟩,q⟩
theorem app{p:Addr}{xs:List V}{y:V}(h:H p=some (.lst xs))(ap:xs.length<sizeLine)(q:Q .non (upd H p (.lst (xs++ [y])))):rAppend (.ref p) [y] H Q:=⟨p,xs,y,rfl,rfl,h,ap,q⟩
end
end Rd
noncomputable def emb (ix:List Nat) (σ:St):St:=none::ix.map λj=>(σ[j]?).join
noncomputable def Zl (X:Cx) (bn:Scope) (cl:List (Str×Addr)) (C:Addr) (N:List Str) (s:Shared) (H:Hp) (fp:List Addr):Cx where
 prog:=X.prog
 w:=X.w
 K:=X.K
 mg:=X.mg
 base:=X.base
 A:=X.A
 N:=N
 s₀:=s
 H₀:=H
 env:=compEnvC bn cl C X.env
 outer:=X.stack
 stack:=X.stack
 ex:=fp
 fn:=λ_=>false
 calm:=X.calm
 pn:=[]
 xe:=λ_ _=>False
structure Yj(X:Cx)(bn:Scope)(x:Str)(zs:List Str)(ix:List Nat):Prop where
 kind:bn.kind= .function
 nocell:∀y∈bn.names,y.2≠ .cell
 names:∀y∈bn.names,y.2= .local→bn.names.lookup y.1=some .local
 free:∀y∈bn.names,y.2= .free→X.env.kindOf y.1=some .cell∨X.env.kindOf y.1=some .free
 zfree:∀z∈zs,bn.names.lookup z=some .free
 at_:ix.map (λj=>X.N[j]?)=zs.map some
theorem YH{env:Env}{x:Str}:∀{names:List (Str×NameKind)}{k:NameKind},
  (names.map λ(n,k)=>if(k==NameKind.free&&env.scope.kind== .function&&env.kindOf n==some .cell) then(n,NameKind.cell) else(n,k)).lookup x=some k→
  ∃k',names.lookup x=some k'∧(k=k'∨(k'= .free∧k= .cell))
 | [],_,h=>by simp at h
 |(n,j)::r,k,h=>by
  have h':List.lookup x ((if(j==NameKind.free&&env.scope.kind== .function&&env.kindOf n==some .cell)=true then(n,NameKind.cell) else(n,j))::(r.map λ(n,k)=>if(k==NameKind.free&&env.scope.kind== .function&&env.kindOf n==some .cell) then(n,NameKind.cell) else(n,k)))=some k:=h;cases ax:x==n with
  |true=>
   refine⟨j,by simp[QB,ax],?_⟩
   by_cases aw:(j==NameKind.free&&env.scope.kind== .function&&env.kindOf n==some .cell)=true
   ·rw[if_pos aw] at h';simp only[QB,ax] at h';cases h';simp only[QO,beq_iff_eq] at aw;exact .inr ⟨aw.1.1,rfl⟩
   ·rw[if_neg aw] at h';simp only[QB,ax] at h';cases h';exact .inl rfl
  |false=>
   have aC:List.lookup x (r.map λ(n,k)=>if(k==NameKind.free&&env.scope.kind== .function&&env.kindOf n==some .cell) then(n,NameKind.cell) else(n,k))=some k:=by
    by_cases aw:(j==NameKind.free&&env.scope.kind== .function&&env.kindOf n==some .cell)=true
    ·rw[if_pos aw] at h';simpa only[QB,ax] using h'
    ·rw[if_neg aw] at h';simpa only[QB,ax] using h'
   obtain⟨k',e,q⟩:=YH aC;exact⟨k',by simp only[QB,ax];exact e,q⟩
theorem h2{x:Str}{k:NameKind}:∀{names:List (Str×NameKind)},names.lookup x=some k→(x,k)∈names:=λh=>QN h
theorem Vb(env:Env):∀(names:List (Str×NameKind))(cr:List (Str×Addr)),
  (∀y∈names,y.2= .free→∃c,env.cells.lookup y.1=some c)→(∀y c,cr.lookup y=some c→env.cells.lookup y=some c)→
  ∃cl:List (Str×Addr),(forIn names cr (λx (r:List (Str×Addr))=>if x.2==NameKind.free then(do let a←cellOf env x.1;pure (ForInStep.yield ((x.1,a)::r))) else pure (ForInStep.yield r)):Sem (List (Str×Addr)))=pure cl∧
   (∀y c,cl.lookup y=some c→env.cells.lookup y=some c)∧(∀y,(∃c,cr.lookup y=some c)∨(y,NameKind.free)∈names→∃c,cl.lookup y=some c)
 | [],cr,_,a2=>⟨cr,rfl,a2,λy h=>h.elim id λz=>absurd z (by simp)⟩
 |(n,k)::r,cr,a',a2=>by
  have aH:∀y∈r,y.2= .free→∃c,env.cells.lookup y.1=some c:=λy bX=>a' y (QE _ bX)
  by_cases aD:k= .free
  ·subst aD;obtain⟨c,aw⟩:=a' (n,.free) QW rfl;have dY:∀y cH,((n,c)::cr).lookup y=some cH→env.cells.lookup y=some cH:=λy cH h=>by
    cases bX:y==n with
    |true=>
     simp only[QB,bX] at h;cases h;rw[beq_iff_eq.mp bX];exact aw
    |false=>
     simp only[QB,bX] at h;exact a2 y cH h
   obtain⟨cl,e,aB,aC⟩:=Vb env r ((n,c)::cr) aH dY;refine⟨cl,?_,aB,λy h=>aC y ?_⟩
   ·rw[List.forIn_cons];have:cellOf env n=pure c:=by unfold cellOf;rw[aw]
    simp only[beq_self_eq_true,if_true,this];exact e
   ·rcases h with⟨cH,h⟩|h
    ·cases bX:y==n with
     |true=>exact .inl ⟨c,by simp only[QB,bX]⟩
     |false=>exact .inl ⟨cH,by simp only[QB,bX];exact h⟩
    ·rcases Qu.mp h with h|h
     ·cases h;exact .inl ⟨c,by simp⟩
     ·exact .inr h
  ·obtain⟨cl,e,aB,aC⟩:=Vb env r cr aH a2;refine⟨cl,?_,aB,λy h=>aC y ?_⟩
   ·rw[List.forIn_cons];have ao:(k==NameKind.free)=false:=by simpa using aD
    simp only[ao,Bool.false_eq_true,if_false];exact e
   ·rcases h with h|h
    ·exact .inl h
    ·rcases Qu.mp h with h|h
     ·cases h;exact absurd rfl aD
     ·exact .inr h
def PIf(X:Cx)(ifs:List Expr)(t:TT):Prop:=
 ∀(am:List (Addr×Obj))(s:Shared)(σ:St)(H:Hp)(Q:Bool→Hp→Prop),Inv X am σ H s→t σ H Q→
  wpAny (model X.prog X.w) X.A (forIn ifs true λc r=>if r=true then do let ok←isTrue c X.env (eval c X.env);pure (ForInStep.yield ok) else pure (ForInStep.yield r)) (TP X am σ Q) X.xe s
noncomputable def tAll:TT:=λ_ H Q=>Q true H
section
variable {X:Cx}
theorem f0:PIf X [] tAll:=λ_ _ _ H _ I h=>wpAny_pure ⟨H,I,h⟩
end
section
variable {prog:Program}{w:World}{A:Around}{R:Result→Shared→Prop}{s:Shared}
theorem Vz{dL target cW:Expr}{ifs:List Expr}{scope:Scope}{pos:Pos}{it cr:Value}{env:Env}(I:Nat→Shared→Prop)
  (turn:∀n s,I n s→wpAny (model prog w) A (pyNext it) (λr cn=>match r with
   |none=>R (.ok .next) cn
   |some v=>wpAny (model prog w) A (letOwnedTupleGo target it v) (λ_ s₀=>wpAny (model prog w) A (assign target env v) (λ_ gd=>
     wpAny (model prog w) A (forIn ifs true λc r=>if r=true then do let ok←isTrue c env (eval c env);pure (ForInStep.yield ok) else pure (ForInStep.yield r)) (λok fI=>
      if ok=true then wpAny (model prog w) A (eval dL env) (λx jr=>
       wpAny (model prog w) A (call (.builtin "list.append") [cr,x]) (λ_ qi=>∃m,m<n∧I m qi) (λ_ _=>False) jr) (λ_ _=>False) fI
      else ∃m,m<n∧I m fI) (λ_ _=>False) gd) (λ_ _=>False) s₀) (λ_ _=>False) cn) (λ_ _=>False) s)
  (n:Nat) (h:I n s):
  codeAny (model prog w) A (.compLoop (.ListComp dL [⟨target,cW,ifs,0⟩] scope pos) 0 it cr env) R s:=by
 refine codeAny_loop rfl I (λn s ug=>?_) n h;show wpAny _ A ((compTurn (.ListComp dL [⟨target,cW,ifs,0⟩] scope pos) 0 it cr env).onRaise (λx=>do noteFrame x env;theTreesLotGoes x)) _ _ s;refine wpAny_noted ?_;rw[compTurn_list];refine wpAny_bind (wpAny_standAt (wpAny_bind (wpAny_mono (turn n s ug) (λr cn eo=>?_) λ_ _ z=>z.elim)));cases r with
 |none=>exact wpAny_pure eo
 |some v=>
  refine wpAny_bind (wpAny_mono eo (λ_ s₀ h₀=>?_) λ_ _ z=>z.elim);refine wpAny_bind (wpAny_mono h₀ (λ_ gd m8=>wpAny_bind (wpAny_mono m8 (λok fI qj=>?_) λ_ _ z=>z.elim)) λ_ _ z=>z.elim);cases ok with
  |false=>exact wpAny_pure ⟨rfl,qj⟩
  |true=>
   exact wpAny_bind (wpAny_bind (wpAny_mono qj (λx jr qk=>wpAny_bind (wpAny_mono qk (λ_ qi m9=>wpAny_pure (wpAny_pure ⟨rfl,m9⟩)) λ_ _ z=>z.elim)) λ_ _ z=>z.elim))
end
noncomputable def ls (ix:List Nat) (cT:TI) (g:TG) (cq:TT) (bK:TE):TE:=λσ H Q=>cT σ H λJ aq=>∀p,aq p=none→
 ∃W:Nat→Nat→List V→St→Hp→Prop,(∃m,W 0 m [] (emb ix σ) (upd aq p (.lst [])))∧∀i m ys aV H',W i m ys aV H'→
  (J.stop i H'∧Q (.ref p) H')∨(J.go i H'∧∀x ar,J.yld i H' x ar→g x aV ar λbO bR=>cq bO bR λb bI=>
   if b=true then bK bO bI λv bT=>bT p=some (.lst ys)∧ys.length<sizeLine∧∃bG,bG<m∧W (i+1) bG (ys++ [v]) bO (upd bT p (.lst (ys++ [v])))
   else ∃bG,bG<m∧W (i+1) bG ys bO bI)
section
variable {X:Cx}
theorem Zcj{am:List (Addr×Obj)}{σ:St}{H:Hp}{s:Shared}{bn:Scope}{x:Str}{zs:List Str}{ix:List Nat}{cl:List (Str×Addr)}{fp:List Addr}{eo:Heap}{cw:Nat}
  (S:Yj X bn x zs ix) (I:Inv X am σ H s) (dr:∀y c,cl.lookup y=some c→X.env.cells.lookup y=some c) (eQ:∀y,(y,NameKind.free)∈bn.names→∃c,cl.lookup y=some c)
  (e1:∀b∈fp,ek X am H b∧b<s.heap.objs.size) (jp:eo.Ns s.heap.objs.size λ_=>none) (aD:∀b o,s.heap.get? b=some o→eo.get? b=some o):
  Inv (Zl X bn cl s.heap.objs.size (x::zs) s H fp) [] (emb ix σ) H {s with heap:=eo,toks:=cw}:=by
 have sub:∀b∈frs X.stack,b∈X.env.locals::X.fs:=I.stkSub;have m_:∀b∈fp,b∉frs X.stack:=λb ao z=>by
  obtain⟨⟨_,f1,f2,_⟩,_⟩:=e1 b ao;rcases Qu.mp (sub b z) with e|e
  ·exact f1 e
  ·exact f2 e
 have cut:∀y,(Zl X bn cl s.heap.objs.size (x::zs) s H fp).env.kindOf y=some .cell∨(Zl X bn cl s.heap.objs.size (x::zs) s H fp).env.kindOf y=some .free→∃c,cl.lookup y=some c:=λy bX=>by
  have q:∃k,(relabel bn X.env).names.lookup y=some k∧(k= .cell∨k= .free):=by
   rcases bX with bX|bX
   ·exact⟨_,bX,.inl rfl⟩
   ·exact⟨_,bX,.inr rfl⟩
  obtain⟨k,e,aD⟩:=q;obtain⟨k',bH,q⟩:=YH e;have:k'= .free:=by
   rcases q with q|⟨q,_⟩
   ·rcases aD with z|z
    ·exact absurd (q.symm.trans z) (S.nocell _ (h2 bH))
    ·exact q.symm.trans z
   ·exact q
  subst this;exact eQ y (h2 bH)
 refine⟨⟨I.ok.mod,S.kind,I.ok.glob,I.ok.blt,Qb _,λy z c aB aC=>I.ok.inj y z c (dr _ _ aB) (dr _ _ aC),cut,λy c a' _=>?_,I.ok.hd,I.ok.frames,.inl rfl,λb ao=>?_,I.bs,Qv I.ok.bsz I.sz,λb o e ao=>?_,m_,I.stack,I.stkFree⟩,
  rfl,I.bare,Un.kept aD,⟨_,jp,λi y v aB aC b_=>?_⟩,λy c h=>?_,I.hok.fresh (Qb _),λy c h=>I.freeC y c (dr y c h),λp bo=>absurd (show p∈([]:List (Addr×Obj)) from bo) (by simp),I.hok.kept aD,?_⟩
 ·exact absurd (show false=true from a') (by decide)
 ·obtain⟨⟨cS,f1,f2,cy,c0,c_⟩,ap⟩:=e1 b ao;exact⟨Qm ap,λy c h=>c0 y c (dr y c h)⟩
 ·obtain⟨⟨cS,f1,f2,cy,c0,c_⟩,ap⟩:=e1 b ao;rcases cy with z|z
  ·exact I.ok.noex b o e z
  ·exact absurd (Qj (Heap.lt_size e) (Qv I.ok.bsz z)) (QL _)
 ·
  cases i with
  |zero=>
   have:(none:Option (Option V))=some (some v)∨(some none:Option (Option V))=some (some v):= .inr aC;rcases this with z|z<;>cases z
  |succ i=>
   have gY:zs[i]? =some y:=aB;have ez:(ix.map λj=>(σ[j]?).join)[i]? =some (some v):=aC;have a2:(ix.map λj=>X.N[j]?)[i]? =some (some y):=by rw[S.at_,QM,gY];rfl
   rw[QM] at ez a2;cases e:ix[i]? with
   |none=>rw[e] at ez;cases ez
   |some j=>
    rw[e] at ez a2;have dY:X.N[j]? =some y:=Qt a2;have bW:(σ[j]?).join=some v:=Qt ez;have kc:σ[j]? =some (some v):=by
     cases q:σ[j]? with
     |none=>rw[q] at bW;cases bW
     |some o=>rw[q] at bW;exact congrArg some bW
    obtain⟨m,br,ap⟩:=I.loc;have eg:=S.zfree y (Q4 gY);have hn:=S.free _ (h2 eg) rfl;have b9:Vis X.env.scope y:=by
     rcases hn with z|z
     ·exact .inr (.inl z)
     ·exact .inr (.inr z)
    obtain⟨u,r,q⟩:=ap j y v dY kc b9;refine⟨u,r,?_⟩;rcases q with⟨m',_⟩|⟨_,c,aw,hT⟩
    ·have kd:X.env.kindOf y=some .local:=m';rcases hn with z|z<;>(rw[z] at kd;cases kd)
    ·obtain⟨cH,gc⟩:=eQ y (h2 eg);have fZ:cH=c:=by have:=dr y cH gc;rw[aw] at this;exact(Qt this).symm
     subst fZ;refine .inr ⟨?_,cH,gc,?_⟩
     ·have na:Vis (relabel bn X.env) y:=b_;rcases na with z|z|z
      ·obtain⟨k',bH,q⟩:=YH z;rw[eg] at bH;cases bH;rcases q with q|⟨_,q⟩<;>cases q
      ·exact .inl z
      ·exact .inr z
     ·obtain⟨o,a3,hd⟩:=hT;exact⟨o,aD _ _ a3,hd⟩
 ·obtain⟨v,o,a3,hd⟩:=I.cell y c (dr y c h);exact⟨v,o,aD _ _ a3,hd⟩
 ·show(none::ix.map λj=>(σ[j]?).join).length=(x::zs).length;have:=congrArg List.length S.at_;simp only[Qa] at this;simp only[List.length_cons,Qa,this]
structure ZaW(ok:Cx→Prop)(P:Program)(w:World)(K:Frag)(bY:Expr)(J:It)(fp:List Addr)(it:Addr)(cz:Nat→Heap→Prop):Prop where
 obj:∀i h,cz i h→∀b∈fp,∃o,h.get? b=some o∧∀v,o.data≠ .cell v
 keep:∀i h h',cz i h→(∀b∈fp,∀o,h.get? b=some o→h'.get? b=some o)→cz i h'
 item:∀(X:Cx),X.prog=P→X.w=w→X.K=K→ok X→∀(i:Nat)(am:List (Addr×Obj))(s:Shared)(σ:St)(H:Hp)(E:Value→Shared→Prop),Inv X am σ H s→(∀b∈fp,ek X am H b)→cz i s.heap→J.go i H→
  wpAny (model P w) X.A (pyNext (.ref it)) (λr aI=>∃u,r=some u∧
   wpAny (model P w) X.A (letOwnedTupleGo bY (.ref it) u) (λ_ bt=>∃x H',Inv X am σ H' bt∧b5 x u∧J.yld i H x H'∧cz (i+1) bt.heap∧∀b∈fp,H' b=none) E aI) E s
 done:∀(X:Cx),X.prog=P→X.w=w→X.K=K→ok X→∀(i:Nat)(am:List (Addr×Obj))(s:Shared)(σ:St)(H:Hp)(E:Value→Shared→Prop),Inv X am σ H s→(∀b∈fp,ek X am H b)→cz i s.heap→J.stop i H→
  wpAny (model P w) X.A (pyNext (.ref it)) (λr aI=>r=none∧Inv X am σ H aI) E s
 self:∀(A:Around)(i:Nat)(s:Shared)(Q:Value→Shared→Prop)(E:Value→Shared→Prop),cz i s.heap→Q (.ref it) s→wpAny (model P w) A (pyIter (.ref it)) Q E s
theorem Vg.c{P:Program}{w:World}{K:Frag}{bY:Expr}{J:It}{fp:List Addr}{it:Addr}{cz:Nat→Heap→Prop}(T:Vg P w K bY J fp it cz):ZaW (λX=>X.calm=true) P w K bY J fp it cz:=
 ⟨T.obj,T.keep,T.item,T.done,T.self⟩
def ql(X:Cx)(am:List (Addr×Obj))(σ:St)(Q:VK)(cr:Value)(C:Addr)(s':Shared):Prop:=
 ∃p H' m,cr=Value.ref p∧s'.heap.Ns C m∧Inv X am σ H' s'∧ek X am H' C∧Q (.ref p) H'
theorem UE{am:List (Addr×Obj)}{σ:St}{H:Hp}{s:Shared}{bn:Scope}{x:Str}{zs:List Str}{ix:List Nat}{cl:List (Str×Addr)}{fp:List Addr}{it:Addr}{cz:Nat→Heap→Prop}{J:It}
  {dL bY cW:Expr} {ifs:List Expr} {pos:Pos} {g:TG} {cq:TT} {bK:TE} {Q:VK} {E:Value→Shared→Prop} {RR:Value→Addr→Result→Shared→Prop} {qm:Cx→Prop}
  (aw:∀C N s H,qm (Zl X bn cl C N s H fp)) (S:Yj X bn x zs ix) (I:Inv X am σ H s) (dr:∀y c,cl.lookup y=some c→X.env.cells.lookup y=some c) (eQ:∀y,(y,NameKind.free)∈bn.names→∃c,cl.lookup y=some c)
  (T:ZaW qm X.prog X.w X.K bY J fp it cz) (st:cz 0 s.heap) (e1:∀b∈fp,ek X am H b)
  (fL:∀C s H,PG (Zl X bn cl C (x::zs) s H fp) bY g∧PIf (Zl X bn cl C (x::zs) s H fp) ifs cq∧PE (Zl X bn cl C (x::zs) s H fp) dL bK)
  (bC:∀p,H p=none→∃W:Nat→Nat→List V→St→Hp→Prop,(∃m,W 0 m [] (emb ix σ) (upd H p (.lst [])))∧∀i m ys aV H',W i m ys aV H'→
   (J.stop i H'∧Q (.ref p) H')∨(J.go i H'∧∀x ar,J.yld i H' x ar→g x aV ar λbO bR=>cq bO bR λb bI=>
    if b=true then bK bO bI λv bT=>bT p=some (.lst ys)∧ys.length<sizeLine∧∃bG,bG<m∧W (i+1) bG (ys++ [v]) bO (upd bT p (.lst (ys++ [v])))
    else ∃bG,bG<m∧W (i+1) bG ys bO bI))
  (de:∀cr C f s',ql X am σ Q cr C s'→RR cr C (.ok f) s'):
  wpAny (model X.prog X.w) X.A (newList []) (λcr fI=>wpAny (model X.prog X.w) X.A (newFunctionEnv bn X.env.globals cl [] X.env.qual none .none (some X.env)) (λke jr=>
   codeAny (model X.prog X.w) X.A (.compStart (.ListComp dL [⟨bY,cW,ifs,0⟩] bn pos) 0 (.ref it) cr {ke with scope:=relabel bn X.env}) (RR cr ke.locals) jr) E fI) E s:=by
 refine wpAny_newObj_type (wpAny_newFunctionEnv S.nocell (by intro y bX;simp at bX) (λeo hns₁ kf=>?_) S.kind);have db:Inv X am σ (upd H s.heap.objs.size (.lst [])) {s with heap:=s.heap.push {cls:= .type "list",dict:=none,data:= .seq ([]:List Value).toArray}}:=I.lnew (its:=[]) (ys:=[]) (t':=s.toks) .nil (Qs _);dsimp only at hns₁ kf⊢;obtain⟨W,⟨hg,hU⟩,turn⟩:=bC s.heap.objs.size (I.hok.fresh (Qb _));have lt:∀b∈fp,b<s.heap.objs.size:=λb ao=>by
  obtain⟨o,e,_⟩:=T.obj 0 s.heap st b ao;exact Heap.lt_size e
 have nb:∀b∈fp,∀o,(upd H s.heap.objs.size o) b=H b:=λb ao o=>bV (Qm (lt b ao));have kp:∀b o,(s.heap.push {cls:= .type "list",dict:=none,data:= .seq ([]:List Value).toArray}).get? b=some o→eo.get? b=some o:=λb o e=>
  kf.extBut b o (Qm (Heap.lt_size e)) (Heap.get?_push_of_some _ e)
 have cy:∀b∈fp,ek X am (upd H s.heap.objs.size (.lst [])) b∧b<(s.heap.push {cls:= .type "list",dict:=none,data:= .seq ([]:List Value).toArray}).objs.size:=λb ao=>by
  obtain⟨nc,q⟩:=e1 b ao;refine⟨⟨(nb b ao _).trans nc,q⟩,?_⟩;rw[Heap.size_push];exact Jb (lt b ao)
 generalize h3:({s with heap:=s.heap.push {cls:= .type "list",dict:=none,data:= .seq ([]:List Value).toArray}}:Shared)=bv at db;have kg:s.heap.push {cls:= .type "list",dict:=none,data:= .seq ([]:List Value).toArray}=bv.heap:=by rw[←h3]
 rw[kg] at kp cy hns₁⊢;have hX:cz 0 eo:=T.keep 0 _ _ st λb _ o e=>kp b o (by rw[←kg];exact Heap.get?_push_of_some _ e);have hq:Inv (Zl X bn cl bv.heap.objs.size (x::zs) bv (upd H s.heap.objs.size (.lst [])) fp) [] (emb ix σ) (upd H s.heap.objs.size (.lst [])) {bv with heap:=eo,toks:=bv.toks}:=
  Zcj S db dr eQ cy hns₁ kp
 obtain⟨bL,nf,bF⟩:=fL bv.heap.objs.size bv (upd H s.heap.objs.size (.lst []));have iM:∀{H':Hp},(∀b∈fp,H' b=none)→∀b∈fp,ek (Zl X bn cl bv.heap.objs.size (x::zs) bv (upd H s.heap.objs.size (.lst [])) fp) [] H' b:=λ{H'} br b ao=>
  ⟨br b ao,(hq.ok.exf b ao).1,hq.ok.exfs b ao,.inl ao,(hq.ok.exf b ao).2,λp bo=>absurd (show p∈([]:List (Addr×Obj)) from bo) (by simp)⟩
 have kh:∀cf:Shared,cf={bv with heap:=eo,toks:=bv.toks}→
   codeAny (model X.prog X.w) X.A (.compLoop (.ListComp dL [⟨bY,cW,ifs,0⟩] bn pos) 0 (.ref it) (.ref s.heap.objs.size) (compEnvC bn cl bv.heap.objs.size X.env)) (RR (.ref s.heap.objs.size) bv.heap.objs.size) cf:=by
  rintro cf rfl;refine Vz (λn s'=>∃i ys aV H',Inv (Zl X bn cl bv.heap.objs.size (x::zs) bv (upd H s.heap.objs.size (.lst [])) fp) [] aV H' s'∧cz i s'.heap∧(∀b∈fp,H' b=none)∧W i n ys aV H') ?_ hg
   ⟨0,[],emb ix σ,_,hq,hX,λb ao=>(cy b ao).1.1,hU⟩
  rintro n cI ⟨i,ys,hr,bT,gV,hk,eM,ng⟩;rcases turn i n ys hr bT ng with⟨stop,iD⟩|⟨go,step⟩
  ·refine thn (T.done (Zl X bn cl bv.heap.objs.size (x::zs) bv (upd H s.heap.objs.size (.lst [])) fp) rfl rfl rfl (aw _ _ _ _) i [] cI hr bT _ gV (iM eM) hk stop) λr dI ⟨aH,eN⟩=>?_;subst aH;obtain⟨nh,ni,_⟩:=eN.loc;refine de _ _ _ _ ⟨s.heap.objs.size,bT,nh,rfl,ni,?_,db.fpOk (Qb _) eN.free,iD⟩;exact db.call' eN.os eN.base eN.hok eN.bare λb ao=>by
    obtain⟨⟨cS,f1,f2,cy,c0,c_⟩,_⟩:=cy b ao;exact⟨cy,f1,c0,c_⟩
  ·refine thn (T.item (Zl X bn cl bv.heap.objs.size (x::zs) bv (upd H s.heap.objs.size (.lst [])) fp) rfl rfl rfl (aw _ _ _ _) i [] cI hr bT _ gV (iM eM) hk go) λr dI ⟨u,aH,dC⟩=>?_;subst aH;refine thn dC λ_ dJ ⟨x7,c2,eO,j7,nj,iN,h4⟩=>?_;have nk:=eO.pinned (iM h4) (T.obj _ _ iN);refine thn (bL _ dJ hr c2 x7 u _ nk j7 (step x7 c2 nj)) λ_ d7 ⟨iO,gq,ki,nl⟩=>?_;refine thn (nf _ d7 iO gq _ ki nl) λb h5 ⟨fj,kj,hs⟩=>?_;have again:∀{iP:List V}{aV:St}{H':Hp}{bG:Nat}{s':Shared},Inv (Zl X bn cl bv.heap.objs.size (x::zs) bv (upd H s.heap.objs.size (.lst [])) fp) ([]++W4 fp dJ.heap) aV H' s'→W (i+1) bG iP aV H'→bG<n→
     ∃m,m<n∧∃i ys aV H',Inv (Zl X bn cl bv.heap.objs.size (x::zs) bv (upd H s.heap.objs.size (.lst [])) fp) [] aV H' s'∧cz i s'.heap∧(∀b∈fp,H' b=none)∧W i m ys aV H':=λ{iP aV H' bG s'} Iz gs bq=>by
    refine⟨bG,bq,i+1,iP,aV,H',Iz.unpinned,T.keep _ _ _ iN λb ao o e=>(Iz.pin (b,o) (Qp _ (Qp _ (jj ao e)))).1,λb ao=>?_,gs⟩;obtain⟨o,e,d⟩:=T.obj _ _ iN b ao;exact(Iz.pin (b,o) (Qp _ (Qp _ (jj ao e)))).2.1
   cases b with
   |false=>
    rw[if_neg Qd] at hs⊢;obtain⟨bG,bq,gs⟩:=hs;exact again kj gs bq
   |true=>
    rw[if_pos rfl] at hs⊢;refine thn (bF _ h5 iO fj _ kj hs) λv ht ⟨y,gu,nn,np,ap,bw,bG,bq,gs⟩=>?_;refine thn (eY _ ht iO gu (.ref s.heap.objs.size) [y] (.ref s.heap.objs.size) [v] (λz H'=>z= .non∧H'=upd gu s.heap.objs.size (.lst (ys++ [y]))) nn rfl (.cons np .nil) ⟨_,ys,y,rfl,rfl,ap,bw,rfl,rfl⟩) λ_ fM ⟨z,hv,nq,_,_,nr⟩=>?_;subst nr;exact again nq gs bq
 exact codeAny_compStart_list (kh _ (by subst h3;rfl)) (T.self _ 0 _ _ _ hX (kh _ (by subst h3;rfl)))
theorem Wf{bn:Scope}{x:Str}{zs:List Str}{ix:List Nat}(ok:X.Ok)(S:Yj X bn x zs ix):
  ∃cl,closureFor bn X.env=pure cl∧(∀y c,cl.lookup y=some c→X.env.cells.lookup y=some c)∧∀y,(y,NameKind.free)∈bn.names→∃c,cl.lookup y=some c:=by
 obtain⟨cl,e,aB,aC⟩:=Vb X.env bn.names [] (λy bX a'=>ok.has y.1 (S.free y bX a')) (λy c h=>by simp at h);refine⟨cl,?_,aB,λy bX=>aC y (.inr bX)⟩;unfold closureFor;simp only;rw[e]
 rfl
theorem qn{dL bY cW:Expr}{ifs:List Expr}{bn:Scope}{pos:Pos}{x:Str}{zs:List Str}{ix:List Nat}{cT:TI}{g:TG}{cq:TT}{bK:TE}
  (aw:X.calm=true) (S:Yj X bn x zs ix) (hi:PI X bY cW cT)
  (fL:∀cl C s H fp,PG (Zl X bn cl C (x::zs) s H fp) bY g∧PIf (Zl X bn cl C (x::zs) s H fp) ifs cq∧PE (Zl X bn cl C (x::zs) s H fp) dL bK)
  (a4:∀x,foldedSetIterable cW X.env x=pure x:=by intro _;rfl):
  PE X (.ListComp dL [⟨bY,cW,ifs,0⟩] bn pos) (ls ix cT g cq bK):=by
 intro am s σ H Q I h;obtain⟨cl,iQ,dr,eQ⟩:=Wf I.ok S;rw[eval_ListComp];refine wpAny_comprehension_free (use:=none) rfl a4 iQ S.kind S.names (thn (hi am s σ H _ I h) λv aI aB=>thn aB λhV bt aC=>?_);obtain⟨it,fp,cz,J,ar,e,ce,T,hj,f2,bC⟩:=aC;subst e;refine UE (RR:=λcr C=>compPost (model X.prog X.w) X.A X.xe none (EP X am σ Q) cr C) (λ_ _ _ _=>aw) S ce dr eQ T.c hj f2 (λC s H=>fL cl C s H fp) bC λcr C f s' h=>?_;obtain⟨p,H',m,rfl,bq,cZ,⟨f3,g1,g2,g3,h6,iR⟩,q⟩:=h;exact⟨m,bq,λh' ao=>⟨.ref p,H',cZ.turned (t':=s'.toks) (λb o fz e=>(ao.2 b fz).trans e) f3 g1 g3 h6 iR,rfl,q⟩⟩
end
def Zx(h:Heap)(e:Addr):Prop:=∃o vs,h.get? e=some o∧o.data= .fields vs∧vs[2]? =some Value.none
noncomputable def Kp (P:Heap→Prop) {cm:Type}:Sem cm→Prop
 | .pure _=>True
 | .raise _=>True
 | .unsupported _=>True
 | .finish _=>True
 | .rule _ k=>Kp P (k ())
 | .at _ k=>Kp P (k ())
 | .load _ _ k=>∀o,Kp P (k o)
 | .update a _ f k=>(∀h,P h→P (h.update a f))∧Kp P (k ())
 | .alloc o k=>(∀h,P h→P (h.push o))∧∀a,Kp P (k a)
 | .loadIfAlive _ k=>∀o,Kp P (k o)
 | .point _ k=>Kp P (k ())
 | .ask k=>∀x,Kp P (k x)
 | .stack k=>∀x,Kp P (k x)
 |_=>False
section
variable {cm gQ:Type}{P:Heap→Prop}{M:Model}{A:Around}{E:Value→Shared→Prop}{s:Shared}
theorem Kp.wp{lu:PySem.Ctx}{Q:cm→Pos→Shared→Prop}{E:Value→Pos→Shared→Prop}(t:Sem cm):∀(p:Pos)(s:Shared),Kp P t→P s.heap→Sem.wp M lu t Q E p s→
  Sem.wp M lu t (λa p s'=>Q a p s'∧P s'.heap) (λe p s'=>E e p s'∧P s'.heap) p s:=by
 induction t with
 |pure a=>exact λp s _ bo h=>⟨h,bo⟩
 |raise a=>exact λp s _ bo h=>⟨h,bo⟩
 |unsupported w=>exact λp s _ bo h=>h
 |finish w=>exact λp s _ bo h=>h
 |rule _ k b0=>exact λp s aD bo h=>b0 () p s aD bo h
 | «at» fX k b0=>exact λp s aD bo h=>b0 () fX s aD bo h
 |load _ _ k b0=>exact λp s aD bo ⟨o,e,h⟩=>⟨o,e,b0 o p s (aD o) bo h⟩
 |update _ _ _ k b0=>exact λp s aD bo ⟨e,h⟩=>⟨e,b0 () p _ aD.2 (aD.1 _ bo) h⟩
 |alloc _ k b0=>exact λp s aD bo h=>b0 _ p _ (aD.2 _) (aD.1 _ bo) h
 |loadIfAlive _ k b0=>exact λp s aD bo h=>b0 _ p s (aD _) bo h
 |point _ k b0=>exact λp s aD bo h=>b0 () p s aD bo h
 |ask k b0=>exact λp s aD bo h=>b0 _ p s (aD _) bo h
 |stack k b0=>exact λp s aD bo h=>b0 _ p s (aD _) bo h
 |register=>exact λp s aD _ _=>False.elim aD
 |fresh=>exact λp s aD _ _=>False.elim aD
 |choose=>exact λp s aD _ _=>False.elim aD
 |os=>exact λp s aD _ _=>False.elim aD
 |call=>exact λp s aD _ _=>False.elim aD
 |handled=>exact λp s aD _ _=>False.elim aD
 |newGen=>exact λp s aD _ _=>False.elim aD
 |genState=>exact λp s aD _ _=>False.elim aD
 |resume=>exact λp s aD _ _=>False.elim aD
 |yield=>exact λp s aD _ _=>False.elim aD
 |fork=>exact λp s aD _ _=>False.elim aD
 |thread=>exact λp s aD _ _=>False.elim aD
 |await=>exact λp s aD _ _=>False.elim aD
theorem Kp.any{t:Sem cm}{Q:cm→Shared→Prop}(k:Kp P t)(bo:P s.heap)(h:wpAny M A t Q E s):wpAny M A t (λa s'=>Q a s'∧P s'.heap) (λe s'=>E e s'∧P s'.heap) s:=λlu p uh=>Kp.wp t p s k bo (h lu p uh)
theorem Kp.bind{f:cm→Sem gQ}(m:Sem cm):Kp P m→(∀a,Kp P (f a))→Kp P (m.bind f):=by
 induction m with
 |pure a=>exact λ_ a'=>a' a
 |raise a=>exact λ_ _=>trivial
 |unsupported w=>exact λ_ _=>trivial
 |finish w=>exact λ_ _=>trivial
 |rule _ k b0=>exact λaD a'=>b0 () aD a'
 | «at» _ k b0=>exact λaD a'=>b0 () aD a'
 |load _ _ k b0=>exact λaD a' o=>b0 o (aD o) a'
 |update _ _ _ k b0=>exact λaD a'=>⟨aD.1,b0 () aD.2 a'⟩
 |alloc _ k b0=>exact λaD a'=>⟨aD.1,λa=>b0 a (aD.2 a) a'⟩
 |loadIfAlive _ k b0=>exact λaD a' o=>b0 o (aD o) a'
 |point _ k b0=>exact λaD a'=>b0 () aD a'
 |ask k b0=>exact λaD a' o=>b0 o (aD o) a'
 |stack k b0=>exact λaD a' o=>b0 o (aD o) a'
 |register=>exact λaD _=>False.elim aD
 |fresh=>exact λaD _=>False.elim aD
 |choose=>exact λaD _=>False.elim aD
 |os=>exact λaD _=>False.elim aD
 |call=>exact λaD _=>False.elim aD
 |handled=>exact λaD _=>False.elim aD
 |newGen=>exact λaD _=>False.elim aD
 |genState=>exact λaD _=>False.elim aD
 |resume=>exact λaD _=>False.elim aD
 |yield=>exact λaD _=>False.elim aD
 |fork=>exact λaD _=>False.elim aD
 |thread=>exact λaD _=>False.elim aD
 |await=>exact λaD _=>False.elim aD
theorem Kp.bd{m:Sem cm}{f:cm→Sem gQ}(bq:Kp P m)(a':∀a,Kp P (f a)):Kp P (m >>= f):=Kp.bind m bq a'
theorem Kp.pure(a:cm):Kp P (Pure.pure a:Sem cm):=trivial
theorem Kp.uns(w:String):Kp P (PySem.unsupported w:Sem cm):=trivial
theorem Kp.ite{c:Prop}[Decidable c]{a b:Sem cm}(a2:Kp P a)(ao:Kp P b):Kp P (if c then a else b):=by split<;>assumption
end
section
variable {e:Addr}
theorem Zx.slots{h:Heap}{a:Addr}{g:Obj→Array (Option Value)}(x:Zx h e):Zx (h.update a λo=>{o with slots:=g o}) e:=by
 obtain⟨o,vs,a3,hd,aC⟩:=x
 by_cases a2:a=e
 ·subst a2;exact⟨_,vs,Heap.get?_update_self _ a3 (Obj.isFreed_of_fields (vs:=vs) hd),hd,aC⟩
 ·exact⟨o,vs,(Heap.get?_update_other _ _ a2).trans a3,hd,aC⟩
theorem Zx.field{h:Heap}{a:Addr}{i:Nat}{v:Value}(hi:i≠2)(x:Zx h e):Zx (h.update a (Obj.mapFields (·.setIfInBounds i v))) e:=by
 obtain⟨o,vs,a3,hd,aC⟩:=x
 by_cases a2:a=e
 ·subst a2;exact⟨_,_,Heap.get?_update_self _ a3 (Obj.isFreed_of_fields (Obj.data_mapFields hd _)),Obj.data_mapFields hd _,by rw[Array.getElem?_setIfInBounds_ne hi];exact aC⟩
 ·exact⟨o,vs,(Heap.get?_update_other _ _ a2).trans a3,hd,aC⟩
theorem Zx.push{h:Heap}{b':Obj}(x:Zx h e):Zx (h.push b') e:=
 let⟨o,vs,a3,r⟩:=x;⟨o,vs,Heap.get?_push_of_some _ a3,r⟩
theorem Zx.keeps{h h':Heap}(x:Zx h e)(k:∀o,h.get? e=some o→h'.get? e=some o):Zx h' e:=let⟨o,vs,a3,r⟩:=x;⟨o,vs,k _ a3,r⟩
theorem U5{a:Addr}:Kp (λh=>Zx h e) (load a):=λ_=>trivial
theorem ZbV{v:Value}:Kp (λh=>Zx h e) (fieldsOf v):=by
 unfold fieldsOf;cases v<;>first|exact Kp.uns _|skip
 refine Kp.bd U5 λo=>?_
 split<;>trivial
theorem Vn{v:Value}{i:Nat}:Kp (λh=>Zx h e) (field v i):=by
 unfold field;refine Kp.bd ZbV λo=>?_
 split<;>trivial
theorem U6{a:Addr}{i:Nat}{x:Value}(hi:i≠2):Kp (λh=>Zx h e) (updateField a i x):=by
 unfold updateField;refine Kp.bd U5 λo=>?_
 split
 ·split
  ·exact⟨λ_ h=>h.field hi,trivial⟩
  ·trivial
 ·trivial
theorem nt{v:Value}{i:Nat}{x:Value}(hi:i≠2):Kp (λh=>Zx h e) (setField v i x):=by
 unfold setField;cases v<;>first|exact Kp.uns _|exact U6 hi
theorem Zdb{env:Env}{outer:List Env}:Kp (λh=>Zx h e) (behindIsImport env outer):=by
 unfold behindIsImport;refine Kp.ite (Kp.pure _) (Kp.ite (Kp.pure _) (Kp.bd Vn λ_=>Kp.pure _))
theorem ui:Kp (λh=>Zx h e) underTheClaimsCaller:=by
 unfold underTheClaimsCaller;exact Kp.bd (λ_=>trivial) λ_=>Kp.pure _
theorem Zfh{env:Env}{qo:Bool}{outer:List Env}:Kp (λh=>Zx h e) (keptBack env qo outer):=by
 cases outer with
 |nil=>exact Kp.ite (Kp.pure _) (Kp.bd ui λ_=>Kp.pure _)
 |cons c r=>exact Kp.pure _
theorem qp:∀l:List Env,Kp (λh=>Zx h e) (readyFrames l)
 | []=>Kp.pure _
 |env::outer=>by
  unfold readyFrames;cases env.frame with
  |none=>exact Kp.uns _
  |some f=>
   refine Kp.bd U5 λo=>?_;refine Kp.ite (Kp.pure _) (Kp.bd Zdb λqo=>Kp.bd Zfh λjs=>Kp.bd ⟨λ_ h=>h.slots,trivial⟩ λ_=>qp outer)
theorem Zc3{env:Env}:Kp (λh=>Zx h e) (PySem.frameOf env):=by
 unfold PySem.frameOf;refine Kp.bd (Kp.bd (λ_=>trivial) λ_=>Kp.pure _) λl=>Kp.bd ?_ λo=>?_
 ·generalize (l.dropWhile λx=>x.frame != env.frame)=k;cases k with
  |nil=>exact Kp.pure _
  |cons a r=>exact Kp.bd (qp _) λ_=>Kp.pure _
 ·cases o with
  |none=>exact Kp.uns _
  |some x=>exact Kp.pure _
theorem WI{v:Value}{f:Option Addr}:Kp (λh=>Zx h e) (setFlight v f):=by
 unfold setFlight;refine Kp.bd Vn λt=>?_;exact Kp.ite (nt (by decide)) (Kp.pure _)
theorem Zd1{f:Addr}{b:Bool}:Kp (λh=>Zx h e) (entryPlaceOf f b):=by
 unfold entryPlaceOf;refine Kp.bd (λ_=>trivial) λBm=>?_
 split<;>exact Kp.pure _
theorem Zda{ty:String}{vs:List Value}:Kp (λh=>Zx h e) (newFields ty vs):=by
 unfold newFields newObj;have lv:Kp (λh=>Zx h e) (newObjAsIs (.type ty) (.fields vs.toArray)):=⟨λ_ h=>h.push,λ_=>trivial⟩;dsimp only
 split
 ·exact Kp.uns _
 ·exact lv
theorem Zce{v:Value}{env:Env}:Kp (λh=>Zx h e) (noteFrame v env):=by
 unfold noteFrame;cases env.frame with
 |none=>exact Kp.uns _
 |some f=>
  have lv:∀hd:Value,Kp (λh=>Zx h e) (do let x←PySem.frameOf env;let pl←entryPlaceOf f (hd != Value.none);let b←EntryCells.newEntry hd x .none (rawInt f) .none pl;setField v 1 b):=λhd=>
   Kp.bd Zc3 λx=>Kp.bd Zd1 λpl=>Kp.bd Zda λb=>nt (by decide)
  refine Kp.bd Vn λhd=>?_;refine Kp.ite ?_ (lv hd);refine Kp.bd Vn λt=>Kp.ite (Kp.pure _) (Kp.bd (nt (by decide)) λ_=>lv hd)
theorem UK{v:Value}{env:Env}:Kp (λh=>Zx h e) (leaving env v):=Kp.bd Zce λ_=>WI
section
variable {M:Model}{A:Around}{E:Value→Shared→Prop}{s:Shared}{base:Heap}{l outer:List Env}{env:Env}{L:Addr}{cls a0:Value}{Q:Unit→Shared→Prop}
theorem Kp.to{P R:Heap→Prop}{t:Sem Unit}(k:Kp P t)(bo:P s.heap)(h:wpAny M A t (λ_ s'=>∃h',s'={s with heap:=h'}∧R h') (λ_ _=>False) s)(df:∀h',R h'→P h'→Q () {s with heap:=h'}):wpAny M A t Q E s:=
 wpAny_mono (k.any bo h) (λ_ _ ⟨⟨h',e,r⟩,p⟩=>by subst e;exact df h' r p) λ_ _ z=>z.1.elim
theorem ZcV(dD:Zx s.heap e)(eg:A.frames=some (env::outer))(a':env.frame=some L)(nu:Heap.FlyingW base (env::outer) e cls a0 s.heap)
  (df:∀h',Heap.FlyingW base outer e cls a0 h'→s.heap.UpToSlots h'→Zx h' e→Q () {s with heap:=h'}):wpAny M A (leaving env (.ref e)) Q E s:=
 UK.to (R:=λh'=>Heap.FlyingW base outer e cls a0 h'∧s.heap.UpToSlots h') dD (wpAny_leaves_onW eg a' nu λh' a b=>⟨h',rfl,a,b⟩) λh' r p=>df h' r.1 r.2 p
theorem Zbu{h:Heap}{args:List Value}(eg:A.frames=some (env::outer))(a':env.frame=some L)(uj:base.StaysIn h)(ap:h.FunFrames base (env::outer))(ax:Heap.MadeExcOf h s.heap e cls args)
  (df:∀h' t,Heap.FlyingW base outer e cls (.ref t) h'→h'.TupAt t args→base.get? t=none→s.heap.UpToSlots h'→Zx h' e→Q () {s with heap:=h'}):wpAny M A (leaving env (.ref e)) Q E s:=by
 have dD:Zx s.heap e:=by
  obtain⟨t,bF,_⟩:=ax.there;exact⟨_,_,bF,rfl,rfl⟩
 exact UK.to (R:=λh'=>∃t,Heap.FlyingW base outer e cls (.ref t) h'∧h'.TupAt t args∧base.get? t=none∧s.heap.UpToSlots h') dD (wpAny_leaves_madeW eg a' uj ap ax λh' t a b c d=>⟨h',rfl,t,a,b,c,d⟩) λh' ⟨t,a,b,c,d⟩ p=>df h' t a b c d p
theorem ZdA(dD:Zx s.heap e)(eg:A.frames=some (env::outer))(a':env.frame=some L)(nu:Heap.FlyingW base (env::outer) e cls a0 s.heap)
  (df:∀h',Heap.HeldW base (env::outer) e cls a0 L h'→s.heap.UpToSlots h'→Zx h' e→Q () {s with heap:=h'}):wpAny M A (noteFrame (.ref e) env) Q E s:=
 Zce.to (R:=λh'=>Heap.HeldW base (env::outer) e cls a0 L h'∧s.heap.UpToSlots h') dD (wpAny_looks_onW eg a' nu λh' a b=>⟨h',rfl,a,b⟩) λh' r p=>df h' r.1 r.2 p
theorem Zgb(dD:Zx s.heap e)(b8:Heap.HeldW base l e cls a0 L s.heap)(df:∀h',Heap.FlyingW base l e cls a0 h'→s.heap.UpToSlots h'→Zx h' e→Q () {s with heap:=h'}):wpAny M A (setFlight (.ref e) none) Q E s:=
 WI.to (R:=λh'=>Heap.FlyingW base l e cls a0 h'∧s.heap.UpToSlots h') dD (wpAny_landsW b8 λh' a b=>⟨h',rfl,a,b⟩) λh' r p=>df h' r.1 r.2 p
theorem Zbs(dD:Zx s.heap e)(b8:Heap.FlyingW base l e cls a0 s.heap)(df:∀h',Heap.FlyingW base l e cls a0 h'→s.heap.UpToSlots h'→Zx h' e→Q () {s with heap:=h'}):wpAny M A (setFlight (.ref e) none) Q E s:=
 WI.to (R:=λh'=>Heap.FlyingW base l e cls a0 h'∧s.heap.UpToSlots h') dD (lands_againW b8 λh' a b=>⟨h',rfl,a,b⟩) λh' r p=>df h' r.1 r.2 p
end
end
noncomputable def CXX (P:Program) (w:World):CXT:=λouter H s E e s'=>
 ∃(ea:Addr)(cls a0:Value)(H':Hp)(B:Heap),e= .ref ea∧s'.os=s.os∧AllBare s'.gens∧Un (frs outer) [] H H' s.heap s'.heap∧HOk P w H' s'.heap∧
  Heap.FlyingW B outer ea cls a0 s'.heap∧(∀b o,s'.heap.get? b=some o→(H' b≠none∨((∃b2,s.heap.get? b=some b2)∧b∉frs outer))→B.get? b=some o)∧Zx s'.heap ea∧E cls none H'
theorem HOk.stays{P:Program}{w:World}{H:Hp}{h h' B:Heap}(ok:HOk P w H h)(eG:∀b o,h.get? b=some o→H b≠none→B.get? b=some o)(st:B.StaysIn h'):HOk P w H h':=λa o e=>
 (ok a o e).stay (λb u ao q=>st b u (eG b u q (by
  rcases ao with rfl|ao
  ·rw[e];exact λz=>nomatch z
  ·rw[ao];exact λz=>nomatch z))) (λ_ q=>q) λ_ _ q=>q
theorem ZI.got{P:Program}{w:World}{H:Hp}{h:Heap}{a:Addr}{o:HO}(x:ZI P w H h a o):∃b',h.get? a=some b':=by
 cases o with
 |lst xs=>obtain⟨_,_,_,_,e⟩:=x;exact⟨_,e⟩
 |tup xs=>obtain⟨_,_,_,p⟩:=x;obtain⟨b',e,_⟩:=p;exact⟨b',e⟩
 |dK aP=>obtain⟨_,_,_,_,o,_,_,e,_⟩:=x;exact⟨o,e⟩
 |dT aP=>obtain⟨_,_,_,_,o,_,_,e,_⟩:=x;exact⟨o,e⟩
 |set S n=>obtain⟨o,_,_,_,e,_⟩:=x;exact⟨o,e⟩
 |ins C aO fs=>obtain⟨_,_,_,e,_⟩:=x;exact⟨_,e⟩
 |own y=>exact x
 |xd fs=>obtain⟨_,⟨o,_,_,e,_⟩,_⟩:=x;exact⟨o,e⟩
 |rng lo hi=>obtain⟨_,_,_,e⟩:=x;exact⟨_,e⟩
 |frz b' u=>obtain⟨e,_⟩:=x;exact⟨b',e⟩
 |tbl a_=>exact⟨_,(show h.get? a=some _ from x)⟩
 |met f y=>exact⟨_,(show h.get? a=some _ from x)⟩
 |ext iw=>obtain⟨_,e,_⟩:=x;exact e
theorem Un.fly{fs:List Addr}{H H':Hp}{h aB aC B:Heap}(u:Un fs [] H H' h aB)(eG:∀b o,aB.get? b=some o→(H' b≠none∨((∃b2,h.get? b=some b2)∧b∉fs))→B.get? b=some o)
  (st:B.StaysIn aC) (sl:aB.UpToSlots aC) (a':∀b∈fs,∀o,h.get? b=some o→∀vs,o.data≠ .fields vs) (jU:∀b∈fs,H b=none):Un fs [] H H' h aC where
 keep:=λb o e n ao ax=>st b o (eG b o (u.keep b o e n ao ax) (.inr ⟨⟨_,e⟩,ao⟩))
 slot:=λb o e n ao ax=>by
  obtain⟨aI,bu⟩:=u.slot b o e n ao ax;obtain⟨bt,bJ⟩:=sl b _ bu (a' b ao o e);exact⟨bt,bJ⟩
 free:=u.free
 there:=λb o e ax=>by
  by_cases ao:b∈fs
  ·obtain⟨aI,bu⟩:=u.slot b o e (jU b ao) ao ax;obtain⟨bt,bJ⟩:=sl b _ bu (a' b ao o e);exact⟨_,bJ⟩
  ·obtain⟨b2,bu⟩:=u.there b o e ax;exact⟨b2,st b b2 (eG b b2 bu (.inr ⟨⟨_,e⟩,ao⟩))⟩
 tups:=u.tups
 frzs:=u.frzs
 tbls:=u.tbls
section
variable {P:Program}{w:World}{K:Frag}{mg:Str→Option Value}{base:Heap}{N:List Str}{qual:Str}{scope:Scope}{f:Addr}{b7:Value}{A:Around}{outer:List Env}{s₀:Shared}{H₀:Hp}{E:XK}
noncomputable abbrev cxX (P:Program) (w:World) (K:Frag) (mg:Str→Option Value) (base:Heap) (N:List Str) (qual:Str) (scope:Scope) (f:Addr) (b7:Value) (A:Around) (outer:List Env) (s₀:Shared) (H₀:Hp) (E:XK):Cx:=
 ZJ (CXX P w) P w K mg base N qual scope f b7 A outer s₀ H₀ E
theorem Zeg{am:List (Addr×Obj)}{σ:St}{H H':Hp}{s s':Shared}{ea:Addr}{cls a0:Value}{B:Heap}(I:Inv (cxX P w K mg base N qual scope f b7 A outer s₀ H₀ E) am σ H s)
  (os:s'.os=s.os) (bare:AllBare s'.gens) (u:Un (frs (cxX P w K mg base N qual scope f b7 A outer s₀ H₀ E).stack) [] H H' s.heap s'.heap) (ok:HOk P w H' s'.heap)
  (cO:Heap.FlyingW B (cxX P w K mg base N qual scope f b7 A outer s₀ H₀ E).stack ea cls a0 s'.heap)
  (eG:∀b o,s'.heap.get? b=some o→(H' b≠none∨((∃b2,s.heap.get? b=some b2)∧b∉frs (cxX P w K mg base N qual scope f b7 A outer s₀ H₀ E).stack))→B.get? b=some o) (dD:Zx s'.heap ea) (q:E cls none H'):
  (cxX P w K mg base N qual scope f b7 A outer s₀ H₀ E).xe (.ref ea) s':=by
 have eg:(A.deeper (envOfC qual scope s₀.heap.objs.size f b7)).frames=some (envOfC qual scope s₀.heap.objs.size f b7::outer):=I.ok.frames;refine ZcV dD (L:=s₀.heap.objs.size) eg rfl cO λaC lw sl nv=>?_;have qq:∀b o,s₀.heap.get? b=some o→b∉frs outer→(∃b2,s.heap.get? b=some b2)∧b∉frs (cxX P w K mg base N qual scope f b7 A outer s₀ H₀ E).stack:=λb o e br=>
  ⟨I.base.there b o e (by intro z;exact absurd (show b∈([]:List Addr) from z) (by simp)),λz=>by
   rcases Qu.mp (I.stkSub b z) with q|q
   ·have ao:=Heap.lt_size e;have ej:b=s₀.heap.objs.size:=q;rw[ej] at ao;exact QL _ ao
   ·exact br q⟩
 have ep:Un (frs outer) [] H₀ H' s₀.heap s'.heap:=by
  have dZ:Un (frs outer) [] H₀ H s₀.heap s.heap:=I.base;refine⟨λb o e n ao ax=>?_,λb o e n ao ax=>?_,λb o e n ax=>?_,λb o e ax=>?_,λb xs e=>u.tups b xs (dZ.tups b xs e),λb o v e=>u.frzs b o v (dZ.frzs b o v e),λb a_ e=>?_⟩
  ·exact u.keep b o (dZ.keep b o e n ao ax) (dZ.free b o e n ax) (qq b o e ao).2 ax
  ·obtain⟨aI,bu⟩:=dZ.slot b o e n ao ax;obtain⟨bt,bJ⟩:=u.any bu (dZ.free b o e n ax) ax;exact⟨bt,bJ⟩
  ·obtain⟨b2,bu⟩:=dZ.there b o e ax;exact u.free b b2 bu (dZ.free b o e n ax) ax
  ·obtain⟨b2,bu⟩:=dZ.there b o e ax;exact u.there b b2 bu ax
  ·obtain⟨iz,bu⟩:=dZ.tbls b a_ e;obtain⟨jS,bJ⟩:=u.tbls b _ bu;exact⟨iz++jS,by rw[bJ,Array.append_assoc]⟩
 have qr:∀b o,s'.heap.get? b=some o→(H' b≠none∨((∃b2,s₀.heap.get? b=some b2)∧b∉frs outer))→B.get? b=some o:=λb o e h=>eG b o e (h.imp id λ⟨⟨b2,z⟩,br⟩=>qq b b2 z br);have uk:HOk P w H' aC:=ok.stays (λb o e n=>eG b o e (.inl n)) lw.1;refine⟨ea,cls,a0,H',B,rfl,os.trans I.os,bare,ep.fly qr lw.1 sl (λb ao o e=>?_) (I.ok.frf),uk,lw,λb o e h=>?_,nv,q⟩
 ·obtain⟨_,b2,bH,d⟩:=I.ok.funs.mem ao;have kk:s₀.heap.get? b=some b2:=bH;rw[e] at kk;cases kk;exact d
 ·have ex:∃b2,s'.heap.get? b=some b2:=by
   rcases h with h|⟨h,br⟩
   ·cases cj:H' b with
    |none=>exact absurd cj h
    |some v=>exact(ok b v cj).got
   ·obtain⟨nw,ny⟩:=h;exact ep.there b nw ny (by simp)
  obtain⟨b2,bH⟩:=ex;have bJ:=qr b b2 bH h;have d3:=lw.1 b b2 bJ;have iS:aC.get? b=some o:=e;rw[d3] at iS;cases iS;exact bJ
theorem cs:YD (CXX P w) (cxX P w K mg base N qual scope f b7 A outer s₀ H₀ E) E:=by
 intro am σ H s e s' I h;obtain⟨ea,cls,a0,H',B,rfl,os,bare,u,ok,cO,eG,dD,q⟩:=h;exact Zeg I os bare u ok cO eG dD q
noncomputable def nz (cls:Value) (E:XK) (t:TA):TS:=λ_ σ H=>t σ H λvs aq=>vs.length≤sizeLine∧E cls none aq
theorem Zdm{am:List (Addr×Obj)}{σ:St}{H:Hp}{s:Shared}{h':Heap}{ea:Addr}{cls:Value}{us:List Value}(I:Inv (cxX P w K mg base N qual scope f b7 A outer s₀ H₀ E) am σ H s)
  (ax:Heap.MadeExcOf s.heap h' ea cls us) (q:E cls none H):(cxX P w K mg base N qual scope f b7 A outer s₀ H₀ E).xe (.ref ea) {s with heap:=h'}:=by
 have eg:(A.deeper (envOfC qual scope s₀.heap.objs.size f b7)).frames=some (envOfC qual scope s₀.heap.objs.size f b7::outer):=I.ok.frames;have fL:∀env∈(cxX P w K mg base N qual scope f b7 A outer s₀ H₀ E).stack,∀b,env.frame=some b→b∈frs (cxX P w K mg base N qual scope f b7 A outer s₀ H₀ E).stack:=λenv bF b ao=>List.mem_filterMap.mpr ⟨env,bF,ao⟩;have nA:∀b o,s.heap.get? b=some o→(H b≠none∨((∃b2,s₀.heap.get? b=some b2)∧b∉frs outer))→(hideAll s.heap (frs (cxX P w K mg base N qual scope f b7 A outer s₀ H₀ E).stack)).get? b=some o:=λb o e h=>
  hideAll_get _ e λz=>by
   rcases h with h|⟨⟨b2,bH⟩,br⟩
   ·exact h (I.stkFree b z)
   ·rcases Qu.mp (I.stkSub b z) with q|q
    ·have ao:=Heap.lt_size bH;have ej:b=s₀.heap.objs.size:=q;rw[ej] at ao;exact QL _ ao
    ·exact br q
 refine Zbu (base:=hideAll s.heap (frs (cxX P w K mg base N qual scope f b7 A outer s₀ H₀ E).stack)) (h:=s.heap) (L:=s₀.heap.objs.size) eg rfl (λb o e=>of_hideAll _ e) (PySem.W.funFrames_hide I.stack fL) ax λb_ t cO _ _ sl ul=>?_;have jR:s.heap.UpToSlots b_:=(Heap.UpToSlots.of_keeps ax.keeps).trans sl;have dZ:Un (frs outer) [] H₀ H s₀.heap s.heap:=I.base;have um:HOk P w H b_:=I.hok.stays (λb o e n=>nA b o e (.inl n)) cO.1;refine⟨ea,cls,_,H,_,rfl,I.os,I.bare,dZ.fly nA cO.1 jR (λb ao o e=>?_) I.ok.frf,um,cO,λb o e h=>?_,ul,q⟩
 ·obtain⟨_,b2,bH,d⟩:=I.ok.funs.mem ao;have kk:s₀.heap.get? b=some b2:=bH;rw[e] at kk;cases kk;exact d
 ·have ex:∃b2,s.heap.get? b=some b2:=by
   rcases h with h|⟨⟨nw,ny⟩,_⟩
   ·cases cj:H b with
    |none=>exact absurd cj h
    |some v=>exact(I.hok b v cj).got
   ·exact dZ.there b nw ny (by simp)
  obtain⟨b2,bH⟩:=ex;have bJ:=nA b b2 bH h;have d3:=cO.1 b b2 bJ;have iS:b_.get? b=some o:=e;rw[d3] at iS;cases iS;exact bJ
theorem Zd2{x:Str}{eA d6 pos:Pos}{hx:Expr}{rest:List Expr}{t:TA}{C:Addr}{B h7 nB:String}{bm:List Value}(O:OwnCls x C bm h7 mg base)(FB:ExcBaseFacts B h7 nB bm)
  (bL:Gl (cxX P w K mg base N qual scope f b7 A outer s₀ H₀ E) x) (a2:PA (cxX P w K mg base N qual scope f b7 A outer s₀ H₀ E) (hx::rest) t)
  (bF:starEach (hx::rest) (cxX P w K mg base N qual scope f b7 A outer s₀ H₀ E).env=(false,eval hx (cxX P w K mg base N qual scope f b7 A outer s₀ H₀ E).env)::starEach rest (cxX P w K mg base N qual scope f b7 A outer s₀ H₀ E).env:=by rfl)
  (iJ:(backTo d6 (starEach rest (cxX P w K mg base N qual scope f b7 A outer s₀ H₀ E).env)).any (·.1)=false:=by rfl) (dW:(x==("__debug__" :Str))=false:=by decide):
  PS (cxX P w K mg base N qual scope f b7 A outer s₀ H₀ E) (.Raise (some (.Call (.Name x eA) (hx::rest) [] d6)) none pos) (nz (.ref C) E t):=by
 intro am s σ H D I h;obtain⟨cX,uo,nm,q,bs,hdct,sn,sub,ab,col,dd,k0,k1,k2,k3,k5,mN,lx,da,ly,T⟩:=O.obj;refine wpAny_Raise_call_subT (C:=C) (nm:=nm) (q:=q) (N:=uo) (bs:=bs) (bm:=cX) (hdct:=hdct) (sn:=sn) (sub:=sub) (ab:=ab) (col:=col) (dd:=dd) (k0:=k0) (k1:=k1) (k2:=k2) (k3:=k3) (k5:=k5)
  FB (mN:=mN) (T.hasType FB.hasBase) (I.ok.hd rfl) (by rw[bF];show(false||(backTo d6 (starEach rest (cxX P w K mg base N qual scope f b7 A outer s₀ H₀ E).env)).any (·.1))=false;rw[iJ];rfl) ly (iB I bL O.bound ⟨rfl,?_⟩ dW)
 have h':=a2 d6 am s σ H _ I h;rw[bF] at h'⊢;refine Calls.evalArgs_plain (thn h' λus bt ⟨vs,ar,ce,r,bw,cj⟩=>⟨rfl,by rw[←r.length];exact bw,ce.bk _ _ lx,da.keeps ce.bk,T.keeps ce.bk,λb_ e bq=>Zdm ce bq cj⟩)
end
mutual
inductive dj(K:Frag)(H:Hp):V→PyData→Prop
 |non:dj K H .non .none
 |bl (b:Bool):dj K H (.bl b) (.bool b)
 |int (i:Int):dj K H (.int i) (.int i)
 |str (x:Str):dj K H (.str x) (.str x)
 |lst {a:Addr} {xs:List V} {cK:List PyData} (h:SqL K H a xs) (r:DRels K H xs cK):dj K H (.ref a) (.list cK)
 |tup {a:Addr} {xs:List V} {cK:List PyData} (h:SqT K H a xs) (r:DRels K H xs cK):dj K H (.ref a) (.tuple cK)
inductive DRels(K:Frag)(H:Hp):List V→List PyData→Prop
 |nil:DRels K H [] []
 |cons {x:V} {d:PyData} {xs:List V} {cK:List PyData} (h:dj K H x d) (r:DRels K H xs cK):DRels K H (x::xs) (d::cK)
end
theorem DRels.ints{K:Frag}{H:Hp}:∀ns:List Int,DRels K H (ns.map V.int) (ns.map PyData.int)
 | []=> .nil
 |n::ns=> .cons (.int n) (DRels.ints ns)
section
variable {X:Cx}{am:List (Addr×Obj)}{σ:St}{H:Hp}{s:Shared}
mutual
theorem dj.reads(I:Inv X am σ H s):∀{x:V}{d:PyData}{v:Value},dj X.K H x d→b5 x v→∃as,Reads s.heap v d as
 |_,_,_,.non,r=>by cases (show _=Value.none from r);exact⟨_,.none⟩
 |_,_,_,.bl b,r=>by cases (show _=Value.bool b from r);exact⟨_,.bool b⟩
 |_,_,_,.int i,r=>by obtain⟨t,e⟩:=r;cases e;exact⟨_,.int i t⟩
 |_,_,_,.str x,r=>by obtain⟨t,e⟩:=r;cases e;exact⟨_,.str x t⟩
 |_,_,_,.lst (a:=a) h rs,r=>by
  cases (show _=Value.ref a from r);obtain⟨its,b6,p,bw⟩:=I.list h;obtain⟨o,a3,aw,n,hd⟩:=p.isList;obtain⟨as,q⟩:=DRels.reads I rs b6;exact⟨_,.list a3 aw hd (by simpa using q)⟩
 |_,_,_,.tup (a:=a) h rs,r=>by
  cases (show _=Value.ref a from r);obtain⟨its,b6,p,bw⟩:=I.tuple h;obtain⟨o,a3,aw,n,hd⟩:=(show s.heap.IsTuple a its.toArray from p);obtain⟨as,q⟩:=DRels.reads I rs b6;exact⟨_,.tuple a3 aw hd (by simpa using q)⟩
theorem DRels.reads(I:Inv X am σ H s):∀{xs:List V}{cK:List PyData}{vs:List Value},DRels X.K H xs cK→bS xs vs→∃as,ReadsAll s.heap vs cK as
 |_,_,_,.nil,.nil=>⟨_,.nil⟩
 |_,_,_,.cons h r,.cons q t=>by
  obtain⟨as,e⟩:=dj.reads I h q;obtain⟨bs,bH⟩:=DRels.reads I r t;exact⟨_,.cons e bH⟩
end
end
noncomputable def h8 (K:Frag) (neg:Bool):R2:=λx y H Q=>∃aO eH,dj K H x aO∧dj K H y eH∧aO.canLay0=true∧eH.canLay0=true∧aO.depth≤60∧Q (.bl (if neg then !PyData.eqv aO eH else PyData.eqv aO eH)) H
section
variable {X:Cx}
theorem up(hu:X.A.units+64<cLine):OpR X (compareOp .Eq) (h8 X.K false):=by
 intro am s σ H x y v u Q I bx bN h;obtain⟨aO,eH,aB,aC,iT,f4,dp,q⟩:=h;obtain⟨as,bP⟩:=aB.reads I bx;obtain⟨bs,b3⟩:=aC.reads I bN;exact SeqAt.compareEq_reads bP b3 iT f4 (by have:min aO.depth eH.depth≤aO.depth:=Nat.min_le_left _ _;omega) ⟨.bl _,H,I,rfl,q⟩
theorem uq(hu:X.A.units+64<cLine):OpR X (compareOp .NotEq) (h8 X.K true):=by
 intro am s σ H x y v u Q I bx bN h;obtain⟨aO,eH,aB,aC,iT,f4,dp,q⟩:=h;obtain⟨as,bP⟩:=aB.reads I bx;obtain⟨bs,b3⟩:=aC.reads I bN;exact SeqAt.compareNe_reads bP b3 iT f4 (by have:min aO.depth eH.depth≤aO.depth:=Nat.min_le_left _ _;omega) ⟨.bl _,H,I,rfl,q⟩
end
section
variable {prog:Program}{w:World}{A:Around}{E:Value→Shared→Prop}
variable {s:Shared}
end
section
variable {X:Cx}{pos:Pos}
end
section
variable {P:Program}{w:World}{K:Frag}{mg:Str→Option Value}{base:Heap}
theorem Fun.okX{x qual:Str}{st:Stmt}{f:Addr}{fd:FuncData}{N a_:List Str}{k:Nat}{sp:Sp}(F:Fun K x qual st f fd)(S:Zt N a_ (b4 st))(len:∀vs H Q E,sp vs H Q E→vs.length=a_.length)
  (iI:∀(bU:Value)(A:Around)(outer:List Env)(s:Shared)(H:Hp)(vs:List V)(Q:VK)(E:XK),cU k (A.deeper (envOfC qual (b4 st) s.heap.objs.size f bU))→sp vs H Q E→
   ∃t,PSs (cxX P w K mg base N qual (b4 st) f bU A outer s H E) (fy st) t∧t {nx:=λ_ H'=>Q .non H',rt:=Q} (start N vs) H):Z7 P w K mg base (CXX P w) (k+1) f fd a_ sp:=by
 obtain⟨dy,cG,kV,dw,c',an,bU,ct,en,rfl,lk,e_⟩:=F.ex;exact ZeN lk e_ S len λA outer s H vs Q E aH fb=>iI bU A outer s H vs Q E aH fb
theorem VM{X:Cx}:YD (CXX X.prog X.w) X E0:=by
 intro am σ H s e s' I h;obtain⟨ea,cls,a0,H',B,_,_,_,_,_,_,_,_,z⟩:=h;exact z.elim
end
section
variable {X:Cx}
noncomputable def rOr (r cd:R2):R2:=λx y H Q=>r x y H Q∨cd x y H Q
noncomputable def UF:R2:=λx y H Q=>∃i j,x= .str i∧y= .str j∧i.length+j.length≤sizeLine∧Q (.str (i++j)) H
noncomputable def lz:R2:=rI0 λi j=> .int (i+j)
noncomputable def ZcY:R2:=rI (λi j=>IntMulOk i j) λi j=> .int (i*j)
theorem ur:OpR X (binaryOp .Add) (rOr lz (rOr UF (rOr rCat (lm X.K)))):=th.or (tq.or (tT.or tK))
theorem e2:OpR X (binaryOp .Mult) (rOr ZcY rRep):=ud.or tU
theorem Zfm(hu:X.A.units+64<cLine):OpR X (compareOp .Eq) (rOr rEq (h8 X.K false)):=tk.or (up hu)
theorem Zf3(hu:X.A.units+64<cLine):OpR X (compareOp .NotEq) (rOr rNe (h8 X.K true)):=tl.or (uq hu)
end
namespace Rd
section
variable {σ:St}{H:Hp}{Q:VK}{D:Y3}{K:Frag}{cd:R2}
theorem Zhu{i j:Int}(q:Q (.int (i+j)) H):rOr lz cd (.int i) (.int j) H Q:= .inl ⟨i,j,rfl,rfl,q⟩
theorem ZfG{bP:R2}{i j:Str}(ap:i.length+j.length≤sizeLine)(q:Q (.str (i++j)) H):rOr bP (rOr UF cd) (.str i) (.str j) H Q:= .inr (.inl ⟨i,j,rfl,rfl,ap,q⟩)
theorem mulI{i j:Int}(c:IntMulOk i j)(q:Q (.int (i*j)) H):rOr ZcY cd (.int i) (.int j) H Q:= .inl ⟨i,j,rfl,rfl,c,q⟩
theorem ZhE{i j:Int}(q:Q (.bl (decide (i=j))) H):rOr rEq cd (.int i) (.int j) H Q:= .inl (eqI q)
theorem Zhr{i j:Int}(q:Q (.bl (!decide (i=j))) H):rOr rNe cd (.int i) (.int j) H Q:= .inl (neI q)
theorem ZcX{x y:V}{aO eH:PyData}(ax:dj K H x aO)(bX:dj K H y eH)(jt:aO.canLay0=true)(nC:eH.canLay0=true)(dp:aO.depth≤60)(q:Q (.bl (PyData.eqv aO eH)) H):rOr rEq (h8 K false) x y H Q:=
 .inr ⟨aO,eH,ax,bX,jt,nC,dp,q⟩
theorem Vj{x y:V}{aO eH:PyData}(ax:dj K H x aO)(bX:dj K H y eH)(jt:aO.canLay0=true)(nC:eH.canLay0=true)(dp:aO.depth≤60)(q:Q (.bl (!PyData.eqv aO eH)) H):rOr rNe (h8 K true) x y H Q:=
 .inr ⟨aO,eH,ax,bX,jt,nC,dp,q⟩
theorem Zgy{p:Addr}{xs:List V}{i:Int}{v:V}(h:SqL K H p xs)(e:atI xs i=some v)(q:Q v H):rIx K (.ref p) (.int i) H Q:= .inl (ixl h e q)
theorem ZhL{p:Addr}{xs:List V}{i:Int}{v:V}(h:SqT K H p xs)(e:atI xs i=some v)(q:Q v H):rIx K (.ref p) (.int i) H Q:= .inr (.inl (ixt h e q))
theorem ZhF{C:Nat→Prop}{p:Addr}{xs:List V}(h:SqL K H p xs)(q:C xs.length):∃x n,[V.ref p]=[x]∧Uk K x H n∧C n:=⟨_,_,rfl,.inl ⟨xs,h,rfl⟩,q⟩
theorem lenS{C:Nat→Prop}{y:Str}(h:y.length≤sizeLine)(q:C y.length):∃x n,[V.str y]=[x]∧Uk K x H n∧C n:=⟨_,_,rfl,⟨h,rfl⟩,q⟩
theorem ZgK{i:Nat}{v:V}{aV:St}{Q:St→Hp→Prop}(e:σ.set i (some v)=aV)(h:Q aV H):WS i v σ H Q:=by
 subst e;exact h
theorem ifP{c A B:Prop}[Decidable c](h:c)(a:A):if decide c=true then A else B:=by rw[decide_eq_true h];exact Zc1 a
theorem ifN{c A B:Prop}[Decidable c](h:¬c)(b:B):if decide c=true then A else B:=by rw[decide_eq_false h];exact Zbg b
theorem Zht{c A B:Prop}[Decidable c](h:c)(b:B):if(!decide c)=true then A else B:=by rw[decide_eq_true h];exact Zbg b
theorem Zhj{b:Bool}{C:Bool→Prop}(q:C b):∃k,j8 K (.bl b) H k∧C k:=⟨b,rfl,q⟩
end
end Rd
namespace Rd
section
variable {H:Hp}{C:Bool→Prop}{K:Frag}
theorem ZcJ{i:Int}(q:C true):∃x dG t b,[V.int i,.ty "int"]=[x,.ty dG]∧YF K H x t∧PySem.W.kitOne K t (.type dG)=some b∧C b:=⟨_,_,_,true,rfl,.int i,rfl,q⟩
theorem ZbM{i:Int}(q:C false):∃x dG t b,[V.int i,.ty "bool"]=[x,.ty dG]∧YF K H x t∧PySem.W.kitOne K t (.type dG)=some b∧C b:=⟨_,_,_,false,rfl,.int i,rfl,q⟩
theorem ZcK{i:Str}(q:C true):∃x dG t b,[V.str i,.ty "str"]=[x,.ty dG]∧YF K H x t∧PySem.W.kitOne K t (.type dG)=some b∧C b:=⟨_,_,_,true,rfl,.str i,rfl,q⟩
theorem ZbE{p:Addr}{xs:List V}(h:H p=some (.lst xs))(q:C true):∃x dG t b,[V.ref p,.ty "list"]=[x,.ty dG]∧YF K H x t∧PySem.W.kitOne K t (.type dG)=some b∧C b:=⟨_,_,_,true,rfl,.lst h,rfl,q⟩
end
end Rd
noncomputable def Zb0 (kl bn:Scope) (N zs:List Str) (ix:List Nat):Bool:=
 decide (bn.kind= .function)&&(bn.names.all λy=>decide (y.2≠ .cell))&&(bn.names.all λy=>decide (y.2= .local→bn.names.lookup y.1=some .local))&&
 (bn.names.all λy=>decide (y.2= .free→kl.names.lookup y.1=some .cell∨kl.names.lookup y.1=some .free))&&(zs.all λz=>decide (bn.names.lookup z=some .free))&&decide (ix.map (λj=>N[j]?)=zs.map some)
theorem f5{X:Cx}{bn:Scope}{x:Str}{zs:List Str}{ix:List Nat}(kl:Scope)(N:List Str)(bu:X.env.scope=kl)(bJ:X.N=N)(h:Zb0 kl bn N zs ix=true):Yj X bn x zs ix:=by
 unfold Zb0 at h;simp only[QO,QV,decide_eq_true_eq] at h;obtain⟨⟨⟨⟨⟨aB,aC⟩,b_⟩,cu⟩,ew⟩,dC⟩:=h;subst bu bJ;exact⟨aB,aC,b_,cu,ew,dC⟩
def VS(CX:CXT)(X:Cx)(J:St→Prop)(E:XK):Prop:=∀(am:List (Addr×Obj))(σ:St)(H:Hp)(s:Shared)(e:Value)(s':Shared),J σ→Inv X am σ H s→CX X.stack H s E e s'→X.xe e s'
noncomputable def UI (J:St→Prop) (sp:Sp) (cF:List V) (E:XK) (t:TA):TE:=λσ H Q=>J σ∧t σ H λvs aq=>sp (vs++cF) aq Q E
section
variable {X:Cx}{CX:CXT}{k:Nat}{f C:Addr}{fd:FuncData}{a_:List Str}{sp:Sp}{cF:List V}{cK:List Value}{E:XK}{J:St→Prop}{x m:Str}{p pos dE:Pos}{e o:Expr}{bp:List Expr}{bA:TE}{t:TA}
def Zgz(CX:CXT)(X:Cx)(σ:St)(E:XK):Prop:=∀(am:List (Addr×Obj))(H:Hp)(s:Shared)(e:Value)(s':Shared),Inv X am σ H s→CX X.stack H s E e s'→X.xe e s'
theorem Zhz{am:List (Addr×Obj)}{σ:St}{H:Hp}{s:Shared}{Q:VK}{us:List Value}{vs:List V}(F:Z7 X.prog X.w X.K X.mg X.base CX k f fd a_ sp)(aH:cU k X.A)(ao:Yy X.K fd a_ cK)(hd:bS cF cK)(ax:Zgz CX X σ E)
  (I:Inv X am σ H s) (r:bS vs us) (h:sp (vs++cF) H Q E):wpAny (model X.prog X.w) X.A (call (.ref f) us) (EP X am σ Q) X.xe s:=by
 have b3:bS (vs++cF) (us++cK):=r.append hd;have ap:(us++cK).length=a_.length:=by rw[←b3.length];exact F.len _ _ _ _ h
 refine wpAny_call (codeAny_mono (F.run X.A X.stack s H ⟨us,[]⟩ (us++cK) (vs++cF) Q E aH I.env0 (ao s us I.kIn ap) b3 h) λr s' bC=>?_);cases r with
 |error e=>exact ax am H s e s' I bC
 |ok cO=>
  cases cO with
  |ret u=>exact I.after bC
  |next=>exact False.elim bC
  |brk=>exact False.elim bC
  |cont=>exact False.elim bC
theorem ZdO(F:Z7 X.prog X.w X.K X.mg X.base CX k f fd a_ sp)(aH:cU k X.A)(bL:Gl X x)(bq:X.mg x=some (.ref f))(aD:keepIn X.K (.ref f)=true)(ao:Yy X.K fd a_ cK)(hd:bS cF cK)(ax:VS CX X J E)
  (a2:PA X (e::bp) t) (dW:(x==("__debug__" :Str))=false:=by decide) (bF:starEach (e::bp) X.env=(false,eval e X.env)::starEach bp X.env:=by rfl) (em:(backTo pos (starEach bp X.env)).any (·.1)=false:=by rfl):
  PE X (.Call (.Name x p) (e::bp) [] pos) (UI J sp cF E t):=by
 intro am s σ H Q I h;obtain⟨iL,h⟩:=h;refine wpAny_Call_Name_kw (iB I bL bq ?_ dW);refine callWith_K (h₀:=X.base) I.ok.mod.kin aD (thn (a2 pos am s σ H _ I h) λus aI ⟨vs,aq,a6,r,q⟩=>⟨a6.kIn,?_⟩) bF em;exact Zhz F aH ao hd (λam H s e s'=>ax am σ H s e s' iL) a6 r q
def Zhe(X:Cx)(body:List Stmt)(b1:(St→Prop)→XK→TS):Prop:=∀(J:St→Prop)(fA:XK)(pn:List (Addr×Obj))(gZ:Value→Shared→Prop),PassesOwn (model X.prog X.w) X.A X.env gZ→
 VS (CXX X.prog X.w) {X with pn:=pn,xe:=gZ} J fA→PSs {X with pn:=pn,xe:=gZ} body (b1 J fA)
end
section
variable {K:Frag}{H:Hp}
theorem dj.ints{p:Addr}{ns:List Int}(h:SqL K H p (ns.map V.int)):dj K H (.ref p) (.list (ns.map PyData.int)):= .lst h (DRels.ints ns)
namespace Rd
variable {Q:VK}
end Rd
end
structure Walks(J:It)(n:Nat)(f:Nat→V)(H:Hp):Prop where
 go:∀H' i,Zd H H'→i<n→J.go i H'
 yld:∀H' i x ar,Zd H H'→i<n→J.yld i H' x ar→ar=H'∧x=f i
 stop:∀H',Zd H H'→J.stop n H'
theorem Zaq{lo:Int}{n:Nat}{H:Hp}:Walks (Itr lo n) n (λi=> .int (lo+i)) H:=⟨λ_ _ _ h=>h,λ_ _ _ _ _ _ h=>h,λ_ _=>Qb _⟩
theorem fN{K:Frag}{a:Addr}{xs:List V}{H:Hp}(h:SqL K H a xs):Walks (Itl K a) xs.length (λi=>xs.getD i .non) H:=
 ⟨λH' i e hi=>⟨xs,xs[i],e.seq h,by simp[hi]⟩,λH' i x ar e hi y=>⟨y.1,by
  have:=y.2 xs (e.seq h);simp[List.getD,this]⟩,λH' e=>⟨xs,e.seq h,Qb _⟩⟩
theorem qt{K:Frag}{a:Addr}{xs:List V}{H:Hp}(h:SqT K H a xs):Walks (Itt K a) xs.length (λi=>xs.getD i .non) H:=
 ⟨λH' i e hi=>⟨xs,xs[i],e.seqT h,by simp[hi]⟩,λH' i x ar e hi y=>⟨y.1,by
  have:=y.2 xs (e.seqT h);simp[List.getD,this]⟩,λH' e=>⟨xs,e.seqT h,Qb _⟩⟩
theorem YL{J:It}{n:Nat}{f:Nat→V}{h9:Hp}(w:Walks J n f h9){g:TG}{b1:TS}{D:Y3}{σ:St}{H:Hp}(Pv:Nat→St→Hp→Prop)(cv:Pv 0 σ H)(aD:∀i σ H,Pv i σ H→Zd h9 H)
  (a4:∀i σ H,i<n→Pv i σ H→g (f i) σ H λbO ar=>b1 {D with nx:=Pv (i+1),ct:=Pv (i+1),bk:=D.nx} bO ar) (hd:∀σ H,Pv n σ H→D.nx σ H):
  ∃W:Nat→Nat→St→Hp→Prop,(∃m,W 0 m σ H)∧∀i m σ H,W i m σ H→
   (J.stop i H∧D.nx σ H)∨(J.go i H∧∃N:St→Hp→Prop,(∀aV H',N aV H'→∃bG,bG<m∧W (i+1) bG aV H')∧∀x H',J.yld i H x H'→g x σ H' λbO ar=>b1 {D with nx:=N,ct:=N,bk:=D.nx} bO ar):=by
 refine⟨λi m σ H=>m=n-i∧i≤n∧Pv i σ H,⟨n,by simp,Qs _,cv⟩,?_⟩;rintro i m σ H ⟨rfl,hi,p⟩;have bD:=aD i σ H p
 by_cases dg:i<n
 ·refine .inr ⟨w.go H i bD dg,Pv (i+1),λaV H' fX=>⟨n-(i+1),by omega,rfl,dg,fX⟩,λx H' y=>?_⟩;obtain⟨rfl,rfl⟩:=w.yld H i x H' bD dg y;exact a4 i σ _ dg p
 ·have e:i=n:=by omega
  subst e;exact .inl ⟨w.stop H bD,hd σ H p⟩
theorem VP{ix:List Nat}{cq:TT}{bK:TE}{Q:Addr→Hp→Prop}{σ:St}{H:Hp}{J:It}{n:Nat}{f:Nat→V}(w:Walks J n f H)(br:n<sizeLine)(c:Nat→Bool)(r:Nat→V)
  (aw:∀i H' (cM:Bool→Hp→Prop),i<n→Zd H H'→(∀bI,Zd H' bI→cM (c i) bI)→cq (some (f i)::ix.map λj=>(σ[j]?).join) H' cM)
  (bF:∀i H' (cM:VK),i<n→c i=true→Zd H H'→(∀bT,Zd H' bT→cM (r i) bT)→bK (some (f i)::ix.map λj=>(σ[j]?).join) H' cM)
  (q:∀p H',H p=none→Zd H H'→H' p=some (.lst (((List.range n).filter c).map r))→Q p H'):
  ∀p,H p=none→∃W:Nat→Nat→List V→St→Hp→Prop,(∃m,W 0 m [] (emb ix σ) (upd H p (.lst [])))∧∀i m ys aV H',W i m ys aV H'→
   (J.stop i H'∧Q p H')∨(J.go i H'∧∀x ar,J.yld i H' x ar→WS 0 x aV ar λbO bR=>cq bO bR λb bI=>
    if b=true then bK bO bI λv bT=>bT p=some (.lst ys)∧ys.length<sizeLine∧∃bG,bG<m∧W (i+1) bG (ys++ [v]) bO (upd bT p (.lst (ys++ [v])))
    else ∃bG,bG<m∧W (i+1) bG ys bO bI):=by
 intro p bo;refine⟨λi m ys aV H'=>m=n-i∧i≤n∧(∃a,aV=a::ix.map λj=>(σ[j]?).join)∧Zd H H'∧H' p=some (.lst ys)∧ys=((List.range i).filter c).map r,
  ⟨n,by simp,Qs _,⟨none,rfl⟩,cc bo,Ze,rfl⟩,?_⟩
 rintro i m ys aV H' ⟨rfl,hi,⟨a,rfl⟩,bD,bX,ap⟩
 by_cases dg:i<n
 ·refine .inr ⟨w.go H' i bD dg,λx ar y=>?_⟩;obtain⟨rfl,rfl⟩:=w.yld H' i x ar bD dg y;show cq ((a::ix.map λj=>(σ[j]?).join).set 0 (some (f i))) ar _;have cJ:ys.length≤i:=by
   rw[ap,Qa];exact Qv (List.length_filter_le _ _) (by simp)
  refine aw i ar _ dg bD λbI cf=>?_;have iU:=bD.trans cf;have hy:=cf _ _ bX;have step:(List.range (i+1)).filter c=(List.range i).filter c++(if c i=true then[i] else[]):=by
   rw[Jo,List.filter_append]
   congr 1
   by_cases h:c i=true<;>simp[h]
  by_cases er:c i=true
  ·rw[er,if_pos rfl];refine bF i bI _ dg er iU λbT cI=>⟨cI _ _ hy,by omega,n-(i+1),by omega,rfl,dg,⟨_,rfl⟩,(iU.trans cI).new bo,Ze,?_⟩;rw[step,if_pos er,QK,ap]
   rfl
  ·have nD:c i=false:=by simpa using er
   rw[nD,if_neg Qd];refine⟨n-(i+1),by omega,rfl,dg,⟨_,rfl⟩,iU,hy,?_⟩;rw[step,if_neg er,QZ,ap]
 ·have e:i=n:=by omega
  subst e;exact .inl ⟨w.stop H' bD,q p H' bo bD (by rw[←ap];exact bX)⟩
structure Yh(A:List Addr)(H H':Hp):Prop where
 keep:∀b o,H b=some o→b∉A→H' b=some o
 tups:∀b xs,H b=some (.tup xs)→H' b=some (.tup xs)
theorem Zd.frame{A:List Addr}{H H':Hp}(e:Zd H H'):Yh A H H':=⟨λb o h _=>e b o h,λb xs h=>e b _ h⟩
theorem Yh.trans{A:List Addr}{H aq ar:Hp}(a:Yh A H aq)(b:Yh A aq ar):Yh A H ar:=⟨λc o h n=>b.keep c o (a.keep c o h n) n,λc xs h=>b.tups c xs (a.tups c xs h)⟩
theorem ju{A:List Addr}{H:Hp}{p:Addr}{o b2:HO}(bo:p∈A)(h:H p=some o)(bM:∀xs,o≠ .tup xs):Yh A H (upd H p b2):=by
 refine⟨λb u e n=>?_,λb xs e=>?_⟩
 ·have z:b≠p:=λz=>n (by rw[z];exact bo);rw[bV z];exact e
 ·have z:b≠p:=λz=>bM xs (by rw[z,h] at e;exact Qt e);rw[bV z];exact e
def Wo(A nE:List Addr)(H:Hp):Prop:=∀a∈nE,a∈A∨H a=none
theorem Wo.refl{A:List Addr}{H:Hp}:Wo A A H:=λ_ h=> .inl h
section
variable {K:Frag}{H H':Hp}{A nE:List Addr}
namespace Rd
variable {Q:VK}
end Rd
end
noncomputable def Its (x:Str):It:=⟨λi _=>i<x.cps.size,λi H v H'=>H'=H∧∃c,x.cps[i]? =some c∧v= .str ⟨#[c]⟩,λi _=>x.cps.size≤i⟩
theorem ut{P:Program}{w:World}{K:Frag}{bY:Expr}(it:Addr)(x:Str)(t:Tok)(ty:String)(gX:ty="str_ascii_iterator" ∨ty="str_iterator"):Vg P w K bY (Its x) [it] it (λi h=>h.IsStrIter it ty x t i) where
 mem:=by simp
 obj:=λi h st b ao=>by
  have e:b=it:=by simpa using ao
  subst e;obtain⟨o,e,c,d⟩:=st;exact⟨o,e,λv z=>by rw[d] at z;cases z⟩
 keep:=λi h h' st k=>let⟨o,a3,r⟩:=st;⟨o,k it (by simp) o a3,r⟩
 item:=by
  intro X hP hw hK aw i am s σ H E I a' st bL;subst hP hw hK;obtain⟨cS,f1,f2,cy,c0,c_⟩:=a' it (by simp);have hi:i<x.cps.size:=bL;have ds:∀h':Heap,h'.IsStrIter it ty x t (i+1)→Heap.SameBut it s.heap h'→∃u,some (Value.str ⟨#[x.cps[i]]⟩ s.toks)=some u∧
    wpAny (model X.prog X.w) X.A (letOwnedTupleGo bY (.ref it) u) (λ_ bt=>∃y H',Inv X am σ H' bt∧b5 y u∧(Its x).yld i H y H'∧bt.heap.IsStrIter it ty x t (i+1)∧∀b∈[it],H' b=none) E {s with heap:=h',toks:=s.toks+1}:=λh' fv hh=>by
   have a6:Inv X am σ H {s with heap:=h',toks:=s.toks+1}:=I.turned (t':=s.toks+1) (λb o ao e=>(hh.2 b ao).trans e) cS f1 cy c0 c_;obtain⟨o,e,c,d⟩:=id fv;refine⟨_,rfl,j4 (s:={s with heap:=h',toks:=s.toks+1}) e c d (by rcases gX with rfl|rfl<;>decide) ⟨.str ⟨#[x.cps[i]]⟩,H,a6,⟨_,rfl⟩,⟨rfl,x.cps[i],by simp[hi],rfl⟩,fv,λb ao=>(a' b ao).1⟩⟩
  rcases gX with rfl|rfl
  ·exact wpAny_pyNext_ascii_item st (c:=x.cps[i]) (by simp[hi]) ds
  ·exact wpAny_pyNext_wide_item st (c:=x.cps[i]) (by simp[hi]) ds
 done:=by
  intro X hP hw hK aw i am s σ H E I a' st bL;subst hP hw hK;obtain⟨cS,f1,f2,cy,c0,c_⟩:=a' it (by simp);have hi:x.cps.size≤i:=bL;rcases gX with rfl|rfl
  ·exact wpAny_pyNext_ascii_end (I.ok.hd aw) st (by simp[hi]) λh' d5=>⟨rfl,I.turned (t':=s.toks) (λb o ao e=>d5 b o ao e) cS f1 cy c0 c_⟩
  ·exact wpAny_pyNext_wide_end (I.ok.hd aw) st (by simp[hi]) λh' d5=>⟨rfl,I.turned (t':=s.toks) (λb o ao e=>d5 b o ao e) cS f1 cy c0 c_⟩
 self:=λ_ _ _ _ _ st h=>by
  rcases gX with rfl|rfl
  ·exact wpAny_pyIter_striter_ascii st h
  ·exact wpAny_pyIter_striter_wide st h
section
variable {X:Cx}{bY:Expr}
noncomputable def qu (cX:TE):TI:=λσ H R=>cX σ H λx aq=>∃y,x= .str y∧R (Its y) aq
theorem uu{l:Expr}{cX:TE}(ap:PE X l cX):PI X bY l (qu cX):=by
 intro am s σ H R I h;refine thn (ap am s σ H _ I h) λv aI ⟨x,aq,a6,bP,bZ⟩=>?_;obtain⟨y,e,q⟩:=bZ;subst e;obtain⟨t,rfl⟩:=bP;have ds:∀ty:String,(ty="str_ascii_iterator" ∨ty="str_iterator")→PIE X am σ bY R (.ref aI.heap.objs.size) {aI with heap:=aI.heap.push {cls:= .type ty,data:= .fields #[.str y t,.int 0 0]}}:=λty gX=>by
  refine⟨aI.heap.objs.size,[aI.heap.objs.size],_,_,aq,rfl,a6.kept (t':=aI.toks) λb o e=>Heap.get?_push_of_some _ e,ut _ y t ty gX,⟨_,Heap.get?_push_size _ rfl,rfl,rfl⟩,λb ao=>?_,q⟩;have e:b=aI.heap.objs.size:=by simpa using ao
  subst e;exact a6.fpOk (Qb _) (a6.hok.fresh (Qb _))
 cases a2:y.cps.all (· <128)
 ·exact wpAny_pyIter_wide a2 (ds _ (.inr rfl))
 ·exact wpAny_pyIter_ascii a2 (ds _ (.inl rfl))
theorem Zdu{x:Str}{H:Hp}:Walks (Its x) x.cps.size (λi=> .str ⟨#[x.cps.getD i 0]⟩) H:=
 ⟨λ_ _ _ h=>h,λH' i v ar _ hi ⟨e,c,aw,b9⟩=>⟨e,by rw[b9];simp[Array.getD,hi] at aw⊢;exact aw.symm⟩,λ_ _=>Qb _⟩
noncomputable def rLeS:R2:=λx y H Q=>∃i j,x= .str i∧y= .str j∧Q (.bl (!decide (j.cps.toList<i.cps.toList))) H
theorem qv:OpR X (compareOp .LtE) rLeS:=by
 intro am s σ H x y v u Q I bx bN h;obtain⟨i,j,rfl,rfl,q⟩:=h;obtain⟨t,rfl⟩:=bx;obtain⟨t',rfl⟩:=bN;exact PySem.P.le_str ⟨.bl _,H,I,rfl,q⟩
theorem nF{s:Shared}:∀{bs:List Bool}{us:List Value},bS (bs.map V.bl) us→us=bs.map Value.bool
 | [],_,r=>by cases r;rfl
 |b::bs,_,r=>by
  cases r with
  |cons bP b3=>
   have e:_=Value.bool b:=bP;rw[e,nF (s:=s) b3]
   rfl
theorem uv{s:Shared}{h':Heap}{o:Obj}(aD:∀b x,b∉[s.heap.objs.size]→(s.heap.push o).get? b=some x→h'.get? b=some x):∀b x,s.heap.get? b=some x→h'.get? b=some x:=
 λb x e=>aD b x (λbq=>by rw[QF.mp bq] at e;exact QL _ (Heap.lt_size e)) (Heap.get?_push_of_some _ e)
theorem Zcq(bs:List Bool):((List.range bs.length).all λi=>(bs[i]?).getD true)=bs.all id:=by
 rw[QQ,QV,QV]
 constructor
 ·intro h b ao;obtain⟨i,hi,rfl⟩:=List.getElem_of_mem ao;have:=h i (Ja.mpr hi);simpa[Qq hi] using this
 ·intro h i hi;have e3:=Ja.mp hi;simp only[Qq e3,Option.getD_some];exact h _ (Qn e3)
theorem ZdF(aw:X.calm=true):Z0 X (.builtin "all") (λxs H Q=>∃(p:Addr)(bs:List Bool),xs=[.ref p]∧SqL X.K H p (bs.map V.bl)∧Q (.bl (bs.all id)) H):=by
 intro am s σ H xs us Q I r h;obtain⟨p,bs,rfl,bC,q⟩:=h;obtain⟨u,rfl,bx⟩:=Wg r;cases bx;obtain⟨its,b6,pl,bw⟩:=I.list bC;have eP:=nF (s:=s) b6;subst eP;have ap:=pl.isList;have dg:p<s.heap.objs.size:=by obtain⟨_,e,_⟩:=ap;exact Heap.lt_size e
 refine call_all_walk (wpAny_pyIter_list ap ?_);refine⟨s.heap.objs.size,[s.heap.objs.size,p],[s.heap.objs.size],(bs.map Value.bool).toArray.size,_,_,λi=>(bs[i]?).getD true,rfl,PySem.Walks.list (A:=X.A.in1) (I.ok.hd aw) _ p (Qm dg) (bs.map Value.bool).toArray,
  ⟨⟨_,Heap.get?_push_size _ rfl,rfl,rfl⟩,ap.push _⟩,λi v s' jW E' hP df=>?_,λh' cw aD=>?_⟩
 ·have km:(bs.map Value.bool)[i]? =some v:=by simpa using hP
  rw[QM] at km;cases e:bs[i]? with
  |none=>rw[e] at km;cases km
  |some b=>
   rw[e] at km;cases km;have qw:jW ((bs[i]?).getD true) s':=df;rw[e] at qw;exact wpAny_truthy_bool qw
 ·have e:((List.range (bs.map Value.bool).toArray.size).all λi=>(bs[i]?).getD true)=bs.all id:=by
   rw[Qc,Qa];exact Zcq bs
  rw[e];exact⟨.bl (bs.all id),H,I.kept (uv aD),rfl,q⟩
theorem ZdK(aw:X.calm=true):Z0 X (.builtin "sum") (λxs H Q=>∃(p:Addr)(ns:List Int),xs=[.ref p]∧SqL X.K H p (ns.map V.int)∧Q (.int ns.sum) H):=by
 intro am s σ H xs us Q I r h;obtain⟨p,ns,rfl,bC,q⟩:=h;obtain⟨u,rfl,bx⟩:=Wg r;cases bx;obtain⟨its,b6,pl,bw⟩:=I.list bC;have hi:=UV b6;obtain⟨xs,ax⟩:=hi.allInts.items;have eI:s.heap.IsList p (intItems xs):=ax▸pl.isList;refine sum_intListG (I.ok.hd aw) eI λh' cw t' aD=>?_;have bu:ns=xs.toList.map (·.1):=by
  rw[←nums_intItems,←ax];exact(show numsOf its.toArray.toList=ns from hi.numsOf).symm
 have bJ:preSum (numAt xs) xs.size=ns.sum:=by
  rw[preSum_eq,QY (by simp),bu]
 rw[bJ];exact⟨.int ns.sum,H,I.kept aD,⟨_,rfl⟩,q⟩
end
structure Zcr(K:Frag)(x qual:Str)(st:Stmt)(dT:Addr)(f:Addr)(fd:FuncData):Prop where
 ex:∃(dy:Value)(cG:Option Addr)(kV dw c':Value)(an:Option Addr)(bU ct:Value)(en:Array (Option Value)),
  fd=fnOf x qual (gp st) (fy st) (b4 st) (.ref dT) kV dw c' an bU ct∧K.lookup f=some ⟨dy,cG,.func fd,en⟩∧codeIn K bU qual=true
 kp:keepIn K (.ref f)=true
section
variable {P:Program}{w:World}{K:Frag}{mg:Str→Option Value}{base:Heap}
theorem Zcr.okX{x qual:Str}{st:Stmt}{dT f:Addr}{fd:FuncData}{N a_:List Str}{k:Nat}{sp:Sp}(F:Zcr K x qual st dT f fd)(S:Zt N a_ (b4 st))(len:∀vs H Q E,sp vs H Q E→vs.length=a_.length)
  (iI:∀(bU:Value)(A:Around)(outer:List Env)(s:Shared)(H:Hp)(vs:List V)(Q:VK)(E:XK),cU k (A.deeper (envOfC qual (b4 st) s.heap.objs.size f bU))→sp vs H Q E→
   ∃t,PSs (cxX P w K mg base N qual (b4 st) f bU A outer s H E) (fy st) t∧t {nx:=λ_ H'=>Q .non H',rt:=Q} (start N vs) H):Z7 P w K mg base (CXX P w) (k+1) f fd a_ sp:=by
 obtain⟨dy,cG,kV,dw,c',an,bU,ct,en,rfl,lk,e_⟩:=F.ex;exact ZeN lk e_ S len λA outer s H vs Q E aH fb=>iI bU A outer s H vs Q E aH fb
theorem Ze6{x qual:Str}{st:Stmt}{dT f:Addr}{dy:Value}{cG an:Option Addr}{en:Array (Option Value)}{kV dw c' bU ct:Value}(l:K.lookup f=some ⟨dy,cG,.func (fnOf x qual (gp st) (fy st) (b4 st) (.ref dT) kV dw c' an bU ct),en⟩)
  (c:codeIn K bU qual=true) (k:keepIn K (.ref f)=true):Zcr K x qual st dT f (fnOf x qual (gp st) (fy st) (b4 st) (.ref dT) kV dw c' an bU ct):=⟨⟨dy,cG,kV,dw,c',an,bU,ct,en,rfl,l,c⟩,k⟩
theorem uw{h₀:Heap}{x:Str}{C:Addr}{qx:List Value}{h7:String}(X:K.In h₀)(g:h₀.Ns mainGlobals mg)(e:nsIn K mainGlobals x=some (some (.ref C)))(q:excIn K C qx h7=true):OwnCls x C qx h7 mg h₀:=by
 refine⟨mg_of X g e,?_⟩;unfold excIn at q
 split at q
 ·rename_i dd b7 sl a3
  split at q
  ·rename_i Bn bm k0 k1 k2 k3 n k5 bq a4;simp only[QO,beq_iff_eq,Bool.not_eq_true'] at q;obtain⟨⟨⟨⟨⟨rfl,rfl⟩,qy⟩,bM⟩,hok⟩,ly⟩:=q;obtain⟨nm,bs,Bo,ns,iD,hd,sn,sub,ab,col,Bp⟩:=b7;dsimp only at bq qy hok ly;subst bq qy;have h_:sl=#[k0,k1,k2,k3,some (.builtin n),k5]:=by
    obtain⟨l⟩:=sl;simp only at a4;rw[a4]
   subst h_;exact⟨bm,ns,nm,iD,bs,hd,sn,sub,ab,col,dd,k0,k1,k2,k3,k5,_,X _ _ a3,.of_isNs (PySem.W.isNs_of_in X hok),PySem.W.nsMap_none_of_in X hok ly,PySem.W.tail_of_in X bM⟩
  ·cases q
 ·cases q
section
variable {N:List Str}{qual:Str}{scope:Scope}{f:Addr}{b7:Value}{A:Around}{outer:List Env}{s₀:Shared}{H₀:Hp}{E:XK}
theorem gv{x:Str}{eA d6 pos:Pos}{hx:Expr}{rest:List Expr}{t:TA}{C:Addr}{B h7 nB:String}{bm:List Value}(e:nsIn K mainGlobals x=some (some (.ref C)))(q:excIn K C bm h7=true)(FB:ExcBaseFacts B h7 nB bm)
  (bL:Gl (cxX P w K mg base N qual scope f b7 A outer s₀ H₀ E) x) (a2:PA (cxX P w K mg base N qual scope f b7 A outer s₀ H₀ E) (hx::rest) t)
  (bF:starEach (hx::rest) (cxX P w K mg base N qual scope f b7 A outer s₀ H₀ E).env=(false,eval hx (cxX P w K mg base N qual scope f b7 A outer s₀ H₀ E).env)::starEach rest (cxX P w K mg base N qual scope f b7 A outer s₀ H₀ E).env:=by rfl)
  (iJ:(backTo d6 (starEach rest (cxX P w K mg base N qual scope f b7 A outer s₀ H₀ E).env)).any (·.1)=false:=by rfl) (dW:(x==("__debug__" :Str))=false:=by decide):
  PS (cxX P w K mg base N qual scope f b7 A outer s₀ H₀ E) (.Raise (some (.Call (.Name x eA) (hx::rest) [] d6)) none pos) (nz (.ref C) E t):=by
 intro am s σ H D I h;exact Zd2 (uw I.ok.mod.kin I.ok.mod.glob e q) FB bL a2 bF iJ dW am s σ H D I h
end
end
section
variable {X:Cx}
noncomputable def rSlS:V→Option Int→Option Int→Hp→VK→Prop:=λx lo hi H Q=>∃z,x= .str z∧z.length≤sizeLine∧Q (.str (Txt.slice z lo hi)) H
theorem ux:SlR X rSlS:=by
 intro am s σ H x v ec ed lo hi sl Q I bx a4 pl fe h;obtain⟨z,rfl,bw,q⟩:=h;obtain⟨t,rfl⟩:=bx;refine⟨"str",_,F.slot_str_getitem.lookup,typeIs_str _ _ _,?_⟩;have ds:∀l u:Option (Int×Tok),l.map (·.1)=lo→u.map (·.1)=hi→partValue l=ec→partValue u=ed→wpAny (model X.prog X.w) X.A (getItem (.str z t) (.ref sl)) (EP X am σ Q) X.xe s:=λl u bu bJ d3 iS=>by
  obtain⟨o,a3,aw,hd⟩:=a4;subst bu bJ d3 iS;exact wpAny_getItem_str_slice (l:=l) (u:=u) (st:=none) ⟨o,a3,aw,hd⟩ rfl (post_val_or_str ⟨Qv (Txt.slice_le z _ _) bw,λt' k=>⟨.str _,H,I.tok k,⟨_,rfl⟩,q⟩⟩)
 cases pl with
 |none=>
  cases fe with
  |none=>exact ds none none rfl rfl rfl rfl
  |int j t'=>exact ds none (some (j,t')) rfl rfl rfl rfl
 |int i ti=>
  cases fe with
  |none=>exact ds (some (i,ti)) none rfl rfl rfl rfl
  |int j t'=>exact ds (some (i,ti)) (some (j,t')) rfl rfl rfl rfl
noncomputable def nG (K:Frag):V→Option Int→Option Int→Hp→VK→Prop:=λx lo hi H Q=>p' K x lo hi H Q∨(p_ K x lo hi H Q∨rSlS x lo hi H Q)
theorem uy:SlR X (nG X.K):=tQ.or (tJ.or ux)
end
structure Wm(K:Frag)(C:Addr)(fs:List Str):Prop where
 out:∀f∈fs,fx K C f
theorem Wm.get{K:Frag}{C:Addr}{fs:List Str}{f:Str}(h:Wm K C fs)(m:fs.contains f=true):fx K C f:=h.out f (by simpa using m)
namespace Rd
section
variable {σ:St}{H:Hp}{Q:VK}{D:Y3}{K:Frag}
theorem slL{a:Addr}{xs:List V}{lo hi:Option Int}(h:SqL K H a xs)(q:∀p,H p=none→Q (.ref p) (upd H p (.lst (ho xs lo hi)))):nG K (.ref a) lo hi H Q:= .inl ⟨a,xs,rfl,h,q⟩
theorem sl{r:V→Option Int→Option Int→Hp→VK→Prop}{bK:TE}{cX ff:TO}(h:bK σ H λx aq=>cX σ aq λl ar=>ff σ ar λu bR=>r x l u bR Q):tSl r bK cX ff σ H Q:=h
theorem Zg9{bK:TE}{Q:Option Int→Hp→Prop}(h:bK σ H λx aq=>∃i,x= .int i∧Q (some i) aq):p7 bK σ H Q:=h
theorem ZgM{i:Int}{C:Int→Prop}(h:C i):∃j,V.int i= .int j∧C j:=⟨i,rfl,h⟩
theorem ZhC{bA:TE}{f:Str}(h:bA σ H λx aq=>∃a C aO fs v,x= .ref a∧aq a=some (.ins C aO fs)∧Cls K C∧fx K C f∧fs.lookup f=some v∧Q v aq):mI K bA f σ H Q:=h
theorem fld{a C aO:Addr}{fs:List (Str×V)}{f:Str}{v:V}{G:V→Prop}(h:H a=some (.ins C aO fs))(c:Cls K C)(n:fx K C f)(l:fs.lookup f=some v)(q:G v):
  ∃cP C aO fs v,V.ref a= .ref cP∧H cP=some (.ins C aO fs)∧Cls K C∧fx K C f∧fs.lookup f=some v∧G v:=⟨a,C,aO,fs,v,rfl,h,c,n,l,q⟩
theorem ZgG{C:Addr}{m:Str}{sp:Sp}{cF:List V}{E:XK}{bA:TE}{t:TA}(h:bA σ H λx aq=>∃a aO fs,x= .ref a∧aq a=some (.ins C aO fs)∧fs.lookup m=none∧t σ aq λvs ar=>sp (x::(vs++cF)) ar Q E):j9 C m sp cF E bA t σ H Q:=h
theorem ZgT{C:Addr}{sp:Sp}{cF:List V}{E:XK}{t:TA}(h:t σ H λvs aq=>∀x aO,aq x=none→aq aO=none→aO≠x→
  sp (.ref x::(vs++cF)) (upd (upd aq aO (.own x)) x (.ins C aO [])) (λv ar=>v= .non∧Q (.ref x) ar) E):mL C sp cF E t σ H Q:=h
theorem Zhk{bA gl:TE}{f:Str}(h:gl σ H λy aq=>bA σ aq λx ar=>∃a C aO fs,x= .ref a∧ar a=some (.ins C aO fs)∧Cls K C∧fx K C f∧fs.length<1000∧D.nx σ (upd ar a (.ins C aO (dV f y fs)))):mJ K bA gl f D σ H:=h
theorem Zg5{a C aO:Addr}{fs kZ:List (Str×V)}{f:Str}{y:V}(h:H a=some (.ins C aO fs))(c:Cls K C)(n:fx K C f)(l:fs.length<1000)(e:dV f y fs=kZ)(q:D.nx σ (upd H a (.ins C aO kZ))):
  ∃cP C aO fs,V.ref a= .ref cP∧H cP=some (.ins C aO fs)∧Cls K C∧fx K C f∧fs.length<1000∧D.nx σ (upd H cP (.ins C aO (dV f y fs))):=⟨a,C,aO,fs,rfl,h,c,n,l,by rw[e];exact q⟩
theorem raise{cls:Value}{E:XK}{t:TA}(h:t σ H λvs aq=>vs.length≤sizeLine∧E cls none aq):nz cls E t D σ H:=h
theorem Zga{v:V}{G:Prop}(q:G):[v].length≤sizeLine∧G:=⟨by show 1≤sizeLine;decide,q⟩
theorem ZgJ{bK:TE}{R:It→Hp→Prop}(h:bK σ H λx aq=>∃a,x= .ref a∧(∃xs,SqL K aq a xs)∧R (Itl K a) aq):mC K bK σ H R:=h
theorem ZhI{bK:TE}{R:It→Hp→Prop}(h:bK σ H λx aq=>∃y,x= .str y∧R (Its y) aq):qu bK σ H R:=h
theorem ZgU{y:Str}{G:Str→Prop}(h:G y):∃z,V.str y= .str z∧G z:=⟨y,rfl,h⟩
theorem ZgW{ix:List Nat}{cT:TI}{g:TG}{cq:TT}{bK:TE}(h:cT σ H λJ aq=>∀p,aq p=none→
 ∃W:Nat→Nat→List V→St→Hp→Prop,(∃m,W 0 m [] (emb ix σ) (upd aq p (.lst [])))∧∀i m ys aV H',W i m ys aV H'→
  (J.stop i H'∧Q (.ref p) H')∨(J.go i H'∧∀x ar,J.yld i H' x ar→g x aV ar λbO bR=>cq bO bR λb bI=>
   if b=true then bK bO bI λv bT=>bT p=some (.lst ys)∧ys.length<sizeLine∧∃bG,bG<m∧W (i+1) bG (ys++ [v]) bO (upd bT p (.lst (ys++ [v])))
   else ∃bG,bG<m∧W (i+1) bG ys bO bI)):ls ix cT g cq bK σ H Q:=h
theorem Zhl{Q:Bool→Hp→Prop}(h:Q true H):tAll σ H Q:=h
theorem lk0{f:Str}{v:V}{r:List (Str×V)}:((f,v)::r).lookup f=some v:=by simp
theorem lk1{f g:Str}{v:V}{o:Option V}{r:List (Str×V)}(n:(f==g)=false)(h:r.lookup f=o):((g,v)::r).lookup f=o:=by rw[QB,n];exact h
theorem lkN{f:Str}:([]:List (Str×V)).lookup f=none:=rfl
theorem pf1{f g:Str}{v x:V}{r cd:List (Str×V)}(n:(g==f)=false)(h:dV f v r=cd):dV f v ((g,x)::r)=(g,x)::cd:=by
 have:¬g=f:=by simpa using n
 simp[dV,this,h]
theorem pfN{f:Str}{v:V}:dV f v []=[(f,v)]:=rfl
end
end Rd
namespace Rd
section
variable {H:Hp}{Q:VK}{K:Frag}
theorem ifD{c A B:Prop}[Decidable c](a:c→A)(b:¬c→B):if decide c=true then A else B:=by
 by_cases h:c
 ·exact ifP h (a h)
 ·exact ifN h (b h)
theorem ZhB{p:Addr}{bs:List Bool}{G:List Bool→Prop}(h:SqL K H p (bs.map V.bl))(q:G bs):∃(fX:Addr)(qz:List Bool),[V.ref p]=[.ref fX]∧SqL K H fX (qz.map V.bl)∧G qz:=⟨p,bs,rfl,h,q⟩
theorem leS{x y:Str}(q:Q (.bl (!decide (y.cps.toList<x.cps.toList))) H):rLeS (.str x) (.str y) H Q:=⟨x,y,rfl,rfl,q⟩
theorem ZgQ{σ:St}{r cd:R2}{bA b1 cq:TE}(h:bA σ H λx aq=>b1 σ aq λy ar=>r x y ar λz bR=>∃k,z= .bl k∧(if k=true then cq σ bR λfH bI=>cd y fH bI Q else Q (.bl false) bR)):pW r cd bA b1 cq σ H Q:=h
end
end Rd
namespace Rd
section
variable {H:Hp}{Q:VK}{K:Frag}
theorem Zhc{z:Str}{i:Int}{c:Nat}(h:z.length≤sizeLine)(e:atI z.cps.toList i=some c)(q:Q (.str ⟨#[c]⟩) H):rIx K (.str z) (.int i) H Q:= .inr (.inr ⟨z,i,c,rfl,rfl,h,e,q⟩)
theorem Zgf{a:Addr}{xs:List V}{G:Addr→Prop}(h:SqL K H a xs)(q:G a):∃cP,V.ref a= .ref cP∧(∃xs,SqL K H cP xs)∧G cP:=⟨a,rfl,⟨xs,h⟩,q⟩
theorem ZgI{j:Int}{G:Int→Prop}(aB: -(2 ^ 62)≤j)(aC:j<2 ^ 62)(q:G j):∃k,[V.int j]=[.int k]∧ -(2 ^ 62)≤k∧k<2 ^ 62∧G k:=⟨j,rfl,aB,aC,q⟩
end
end Rd
noncomputable def hid (H:Hp) (r:Addr):Hp:=λb=>if b=r then none else H b
theorem ia{H:Hp}{r:Addr}:hid H r r=none:=by unfold hid;rw[if_pos rfl]
theorem Wh{H:Hp}{r b:Addr}(h:b≠r):hid H r b=H b:=by unfold hid;rw[if_neg h]
theorem hz{H:Hp}{r:Addr}:Zd (hid H r) H:=λb o e=>by
 by_cases h:b=r
 ·rw[h,ia] at e;cases e
 ·rw[Wh h] at e;exact e
theorem uz{H:Hp}{r:Addr}{xs:List V}(h:H r=some (.lst xs)):∀b ys,H b=some (.tup ys)→L2.hid H r b=some (.tup ys):=λb ys e=>by rw[Wh (hS e h (by intro z;cases z))];exact e
theorem qA:∀ns:List Int,PyData.canLayAll0 (ns.map PyData.int)=true
 | []=>by simp[PyData.canLayAll0]
 |n::ns=>by
  have:=qA ns;simp[PyData.canLayAll0,PyData.canLay0] at this⊢;exact this
theorem gw(ns:List Int):(PyData.list (ns.map PyData.int)).canLay0=true:=by
 have:=qA ns;simp[PyData.canLay0];simpa using this
theorem nH:∀ns:List Int,PyData.depthAll (ns.map PyData.int)≤1
 | []=>by simp[PyData.depthAll]
 |n::ns=>by
  have:=nH ns;simp[PyData.depthAll,PyData.depth] at this⊢;exact this
theorem kn(ns:List Int):(PyData.list (ns.map PyData.int)).depth≤60:=by
 have:=nH ns;simp only[PyData.depth];omega
namespace Rd
section
variable {H:Hp}{Q:VK}{K:Frag}
end
end Rd
namespace Rd
section
variable {σ:St}{H:Hp}{Q:VK}{K:Frag}{J:St→Prop}{E:XK}{sp:Sp}{cF:List V}{t:TA}{bA:TE}
theorem Zg0(bW:J σ)(h:t σ H λvs aq=>sp (vs++cF) aq Q E):UI J sp cF E t σ H Q:=⟨bW,h⟩
end
end Rd
namespace Rd
section
variable {σ:St}{H:Hp}
theorem Zha{to ti:TE}{t:ZcD}{v:V}{Q:St→Hp→Prop}(h:to σ H λo aq=>ti σ aq λi ar=>t o i v ar λbR=>Q σ bR):pN to ti t v σ H Q:=h
theorem Zhw{p:Addr}{xs:List V}{k:Int}{v:V}{Q:Hp→Prop}(bo:H p=some (.lst xs))(cv:0≤k)(aB:k<xs.length)(q:Q (upd H p (.lst (xs.set k.toNat v)))):rSetL (.ref p) (.int k) v H Q:=
 ⟨p,xs,k,k.toNat,rfl,rfl,bo,by unfold ixN;rw[if_pos cv,if_pos aB],q⟩
end
end Rd
section
variable {X a4:List Int}{i:Nat}{v u:Int}
end
section
variable {X:Cx}{K:Frag}
theorem Zfb(e:X.K=K):OpR X (binaryOp .Add) (rOr lz (rOr UF (rOr rCat (lm K)))):=e▸ur
theorem f7(e:X.K=K)(hu:X.A.units+64<cLine):OpR X (compareOp .Eq) (rOr rEq (h8 K false)):=e▸Zfm hu
theorem fO(e:X.K=K)(hu:X.A.units+64<cLine):OpR X (compareOp .NotEq) (rOr rNe (h8 K true)):=e▸Zf3 hu
theorem ZhM(e:X.K=K):IxR X (rIx K):=e▸tO
theorem qB(e:X.K=K):SlR X (nG K):=e▸uy
noncomputable def nI (K:Frag):List V→Hp→VK→Prop:=λxs H Q=>∃x n,xs=[x]∧Uk K x H n∧Q (.int n) H
theorem Zg2(e:X.K=K):Z0 X (.builtin "len") (nI K):=e▸ts
theorem hA{e:Expr}{bA:TE}{f:Str}{pos:Pos}(eB:X.K=K)(bF:PE X e bA)(ao:attributeBase e f X.env (eval e X.env)=eval e X.env):PE X (.Attribute e f pos) (mI K bA f):=eB▸ZfE bF ao
theorem qC{o value:Expr}{bA gl:TE}{f:Str}{pos gg:Pos}(eB:X.K=K)(a2:PE X o bA)(b9:PE X value gl)(a4:swapsWith value (some (.Attribute o f gg)) pos.line X.env=pure false):
  PS X (.Assign [.Attribute o f gg] value pos) (mJ K bA gl f):=eB▸ZgE a2 b9 a4
theorem f8{bY l:Expr}{cX:TE}(eB:X.K=K)(ap:PE X l cX):PI X bY l (mC K cX):=eB▸Zfc ap
theorem qD{bY l:Expr}{cX:TE}(eB:X.K=K)(ap:PE X l cX):PI X bY l (lb K cX):=eB▸Zgd ap
noncomputable def qE (K:Frag) (bA:TE):TT:=λσ H Q=>bA σ H λx H'=>∃k,j8 K x H' k∧Q k H'
theorem e4{a:Expr}{bA:TE}(eB:X.K=K)(a2:PE X a bA)(bF:∀iA,isTrue a X.env iA=(do let v←iA;standAt a.pos;holding [v] (truthy v))):PT X a (qE K bA):=eB▸Zej a2 bF
noncomputable def qF (K:Frag):List V→Hp→VK→Prop:=λxs H Q=>∃x n t b,xs=[x,.ty n]∧YF K H x t∧PySem.W.kitOne K t (.type n)=some b∧Q (.bl b) H
theorem jv(e:X.K=K):Z0 X (.builtin "isinstance") (qF K):=e▸uf
noncomputable def qG (K:Frag):List V→Hp→VK→Prop:=λxs H Q=>∃p ys,xs=[.ref p]∧(SqL K H p ys∨SqT K H p ys)∧∀l,H l=none→Q (.ref l) (upd H l (.lst ys))
theorem fP(e:X.K=K):Z0 X (.type "list") (qG K):=e▸tR
noncomputable def uA (K:Frag):List V→Hp→VK→Prop:=λxs H Q=>∃p ys,xs=[.ref p]∧((SqL K H p ys∧∀l,H l=none→Q (.ref l) (upd H l (.tup ys)))∨(SqT K H p ys∧Q (.ref p) H))
theorem uB(e:X.K=K):Z0 X (.type "tuple") (uA K):=e▸tS
noncomputable def qH (K:Frag):List V→Hp→VK→Prop:=λxs H Q=>∃(p:Addr)(bs:List Bool),xs=[.ref p]∧SqL K H p (bs.map V.bl)∧Q (.bl (bs.all id)) H
theorem nJ(e:X.K=K)(aw:X.calm=true):Z0 X (.builtin "all") (qH K):=e▸ZdF aw
noncomputable def uC (K:Frag):List V→Hp→VK→Prop:=λxs H Q=>∃(p:Addr)(ns:List Int),xs=[.ref p]∧SqL K H p (ns.map V.int)∧Q (.int ns.sum) H
theorem qI(e:X.K=K)(aw:X.calm=true):Z0 X (.builtin "sum") (uC K):=e▸ZdK aw
theorem eR{o e:Expr}{bp:List Expr}{to:TE}{t:TA}{name:Str}{dE d6:Pos}{T id:String}{r:V→List V→Hp→VK→Prop}(eB:X.K=K)(mS:PlainAttrs T)(slot:Slot T name id)(gX:typeOf (.builtin id)=pure (.type "method_descriptor"))(bq:MtR X id r)(a3:PE X o to)(a2:PA X (e::bp) t)
  (mT:attributeBase o name X.env (eval o X.env)=eval o X.env:=by rfl)
  (mU:((backTo d6 (starEach (e::bp) X.env)).all (λx=>!x.1)&&(backToKw d6 (keywordEach [] X.env)).all (λx=>x.1.isSome)
   &&decide ((e::bp).length+([]:List Keyword).length+(if([]:List Keyword).isEmpty then 0 else 1)<30))=true:=by rfl)
  (mV:(dE.endLine==d6.line)=true:=by rfl) (a4:starEach (e::bp) X.env=(false,eval e X.env)::starEach bp X.env:=by rfl) (iJ:(backTo d6 (starEach bp X.env)).any (·.1)=false:=by rfl):
  PE X (.Call (.Attribute o name dE) (e::bp) [] d6) (tBM K T r to t):=eB▸ZgH mS slot gX bq a3 a2 mT mU mV a4 iJ
theorem hB{bp:List Expr}{k:Nat}{t:TGs}{n:Nat}{pos:Pos}(eB:X.K=K)(aw:X.calm=true)(h:PGs X bp t)(br:(assignEach bp X.env).length=n:=by rfl)(du:(assignEach bp X.env).findIdx? (·.1)=none:=by rfl):
  PG X (.Tuple bp k pos) (mA K n t):=eB▸ZfK aw h br du
end
namespace Rd
section
variable {σ:St}{H:Hp}{Q:VK}{K:Frag}
theorem tru{bA:TE}{Q:Bool→Hp→Prop}(h:bA σ H λx H'=>∃k,j8 K x H' k∧Q k H'):qE K bA σ H Q:=h
theorem Zhn{xs:List V}(h:∃x n,xs=[x]∧Uk K x H n∧Q (.int n) H):nI K xs H Q:=h
theorem ZhK{xs:List V}(h:∃x n t b,xs=[x,.ty n]∧YF K H x t∧PySem.W.kitOne K t (.type n)=some b∧Q (.bl b) H):qF K xs H Q:=h
theorem Zhp{xs:List V}(h:∃(p:Addr)(bs:List Bool),xs=[.ref p]∧SqL K H p (bs.map V.bl)∧Q (.bl (bs.all id)) H):qH K xs H Q:=h
theorem Ze2{p:Addr}{xs:List V}(h:SqL K H p xs)(q:∀l,H l=none→Q (.ref l) (upd H l (.lst xs))):qG K [.ref p] H Q:=⟨p,xs,rfl,.inl h,q⟩
end
end Rd
def HU(A:Around):Prop:=A.units+64<cLine
theorem cU.hu{k:Nat}{A:Around}(h:cU k A):HU A:=h.units
theorem oA{i n a:Nat}(h:a=n)(k:i<n):i<a:=h▸k
theorem oB{n a m c:Nat}(h:a=n)(k:n≤m)(e:Nat.ble m c=true):a≤c:=h▸Qv k (QD e)
theorem oD{a m c:Nat}(k:a≤m)(e:Nat.ble m c=true):a≤c:=Qv k (QD e)
theorem oE{i n a:Nat}(h:a=n)(k:i<n):(i:Int)<(a:Int):=Int.ofNat_lt.mpr (h▸k)
theorem ixk{X:Cx}(K:Frag)(e:X.K=K:=by rfl):IxR X (rIx K):=ZhM e
theorem d0{X:Cx}(K:Frag)(e:X.K=K:=by rfl):OpR X (binaryOp .Add) (rOr lz (rOr UF (rOr rCat (lm K)))):=Zfb e
theorem eh{X:Cx}(K:Frag)(e:X.K=K:=by rfl):Z0 X (.builtin "len") (nI K):=Zg2 e
structure Ex(K:Frag)(mg:Str→Option Value)(nm:Str)(X:Addr):Prop where
 g:nsIn K mainGlobals nm=some (some (.ref X))
 m:mg nm=some (.ref X)
 e:excIn K X [.type "ValueError",.type "Exception",.type "BaseException",.type "object"] "ValueError.__new__" =true
theorem scI{N P:List Str}{bn:Scope}(a:bn.kind= .function:=by rfl)(b:bn.isCoroutine=false:=by rfl)(c:bn.isGenerator=false:=by rfl)(d:N.Nodup:=by decide+kernel)(e:N.take P.length=P:=by rfl)(f:∀x∈P,bn.names.lookup x=some .local∨bn.names.lookup x=some .cell:=by decide+kernel)(g:∀y∈bn.names,y.2≠ .free:=by decide+kernel):Zt N P bn:=⟨a,b,c,d,e,f,g⟩
structure Dn(K:Frag)(mg:Str→Option Value)(nm q:Str)(s:Stmt)(a_:List Str) where
 f:Addr
 d:FuncData
 F:Fun K nm q s f d
 b:Yy K d a_ []
 m:mg nm=some (.ref f)
structure Dm(K:Frag)(C:Addr)(nm q:Str)(s:Stmt)(a_:List Str) where
 f:Addr
 d:FuncData
 F:Fun K nm q s f d
 b:Yy K d a_ []
 M:UX K C nm f
structure Di(K:Frag)(C:Addr)(q:Str)(s:Stmt)(a_:List Str) where
 f:Addr
 d:FuncData
 F:Fun K "__init__" q s f d
 b:Yy K d a_ []
 M:Mk K C f
abbrev BOk(nm q:Str)(s:Stmt)(a_:List Str):Prop:=∀us:List Value,us.length=a_.length→∀(kV dw c':Value)(an:Option Addr)(bU ct:Value),bindArgs (fnOf nm q (gp s) (fy s) (b4 s) .none kV dw c' an bU ct) ⟨us,[]⟩=pure (a_.zip us)
section
variable {P:Program}{w:World}{K:Frag}{mg:Str→Option Value}{base h:Heap}{nm q:Str}{st:Stmt}{a_:List Str}{C f:Addr}{dy:Value}{cG an:Option Addr}{en:Array (Option Value)}{kV dc c' b7 ct:Value}
noncomputable def Dn.of (X:K.In h) (G:h.Ns mainGlobals mg) (a:nsIn K mainGlobals nm=some (some (.ref f))) (l:K.lookup f=some ⟨dy,cG,.func (fnOf nm q (gp st) (fy st) (b4 st) .none kV dc c' an b7 ct),en⟩) (c:codeIn K b7 q=true) (k:keepIn K (.ref f)=true)
  (ao:BOk nm q st a_):Dn K mg nm q st a_:=⟨f,_,jq l c k,(jq l c k).binds λa1 d8 eJ eK a5 c6 us e=>ao us e a1 d8 eJ eK a5 c6,mg_of X G a⟩
noncomputable def Dm.of (a:PySem.W.findIn K (.ref C) nm=some (some (.ref f))) (i:isFn K (.ref f)=true) (l:K.lookup f=some ⟨dy,cG,.func (fnOf nm q (gp st) (fy st) (b4 st) .none kV dc c' an b7 ct),en⟩) (c:codeIn K b7 q=true) (k:keepIn K (.ref f)=true)
  (ao:BOk nm q st a_):Dm K C nm q st a_:=⟨f,_,jq l c k,(jq l c k).binds λa1 d8 eJ eK a5 c6 us e=>ao us e a1 d8 eJ eK a5 c6,⟨a,i,k⟩⟩
noncomputable def Di.of (z:makesIn K C=true) (y:keepIn K (.ref C)=true) (a:PySem.W.findIn K (.ref C) "__init__" =some (some (.ref f))) (i:isFn K (.ref f)=true) (l:K.lookup f=some ⟨dy,cG,.func (fnOf "__init__" q (gp st) (fy st) (b4 st) .none kV dc c' an b7 ct),en⟩) (c:codeIn K b7 q=true) (k:keepIn K (.ref f)=true)
  (ao:BOk "__init__" q st a_):Di K C q st a_:=⟨f,_,jq l c k,(jq l c k).binds λa1 d8 eJ eK a5 c6 us e=>ao us e a1 d8 eJ eK a5 c6,⟨z,a,i,y⟩⟩
theorem Zd5{cm:Type _}{P:List cm→Prop}(h:P [])(us:List cm)(e:us.length=0):P us:=match us,e with| [],_=>h
theorem lenS{cm:Type _}{n:Nat}{P:List cm→Prop}(h:∀a (us:List cm),us.length=n→P (a::us))(us:List cm)(e:us.length=n+1):P us:=match us,e with|a::us,e=>h a us (Nat.succ.inj e)
theorem Zfo:Wm K C []:=⟨λ_ h=>nomatch h⟩
theorem Zfa{x:Str}{xs:List Str}(h:PySem.W.findIn K (.ref C) x=some none)(t:Wm K C xs):Wm K C (x::xs):=⟨λf a'=>by
 rcases Qu.mp a' with e|e
 ·rw[e];exact h
 ·exact t.out f e⟩
theorem Zgh{dT:Addr}{a:Array Value}{n:Nat}(h:K.lookup dT=some ⟨dy,cG,.seq a n,en⟩):∃dy cG n sl,K.lookup dT=some ⟨dy,cG,.seq a n,sl⟩:=⟨_,_,_,_,h⟩
abbrev OkN(P:Program)(w:World)(base:Heap)(k:Nat)(D:Dn K mg nm q st a_)(sp:Sp):Prop:=Z7 P w K mg base (CXX P w) k D.f D.d a_ sp
abbrev OkM(P:Program)(w:World)(mg:Str→Option Value)(base:Heap)(k:Nat)(D:Dm K C nm q st a_)(sp:Sp):Prop:=Z7 P w K mg base (CXX P w) k D.f D.d a_ sp
abbrev OkI(P:Program)(w:World)(mg:Str→Option Value)(base:Heap)(k:Nat)(D:Di K C q st a_)(sp:Sp):Prop:=Z7 P w K mg base (CXX P w) k D.f D.d a_ sp
end
section
variable {X:Cx}{CX:CXT}{j k:Nat}{C:Addr}{a_:List Str}{sp:Sp}{E:XK}{x m q:Str}{st:Stmt}{p pos dE:Pos}{e o:Expr}{bp:List Expr}{bA:TE}{t:TA}{J:St→Prop}
theorem cx(D:Dn X.K X.mg x q st a_)(F:Z7 X.prog X.w X.K X.mg X.base CX j D.f D.d a_ sp)(aH:cU k X.A)(ax:YD CX X E)(a2:PA X (e::bp) t)(bW:Nat.ble j k=true:=by rfl)(bL:Gl X x:=by rfl)
  (dW:(x==("__debug__" :Str))=false:=by decide) (bF:starEach (e::bp) X.env=(false,eval e X.env)::starEach bp X.env:=by rfl) (em:(backTo pos (starEach bp X.env)).any (·.1)=false:=by rfl):
  PE X (.Call (.Name x p) (e::bp) [] pos) (lg sp [] E t):=ZeY (F.mono (QD bW)) aH bL D.m D.F.kp D.b .nil ax a2 dW bF em
theorem qJ(D:Dn X.K X.mg x q st a_)(F:Z7 X.prog X.w X.K X.mg X.base CX j D.f D.d a_ sp)(aH:cU k X.A)(ax:VS CX X J E)(a2:PA X (e::bp) t)(bW:Nat.ble j k=true:=by rfl)(bL:Gl X x:=by rfl)
  (dW:(x==("__debug__" :Str))=false:=by decide) (bF:starEach (e::bp) X.env=(false,eval e X.env)::starEach bp X.env:=by rfl) (em:(backTo pos (starEach bp X.env)).any (·.1)=false:=by rfl):
  PE X (.Call (.Name x p) (e::bp) [] pos) (UI J sp [] E t):=ZdO (F.mono (QD bW)) aH bL D.m D.F.kp D.b .nil ax a2 dW bF em
theorem lA{pl:Sem Bool}(bF:PE X o bA)(c:Cls X.K C)(D:Dm X.K C m q st a_)(F:Z7 X.prog X.w X.K X.mg X.base CX j D.f D.d a_ sp)(aH:cU k X.A)(ax:YD CX X E)(a2:PA X (e::bp) t)(bW:Nat.ble j k=true:=by rfl)
  (du:starEach (e::bp) X.env=(false,eval e X.env)::starEach bp X.env:=by rfl) (em:(backTo pos (starEach bp X.env)).any (·.1)=false:=by rfl)
  (bM:eval (.Call (.Attribute o m dE) (e::bp) [] pos) X.env=(do
   let dt←eval o X.env
   standAt dE.atName
   let(f,first)←holding [dt] (getMethod dt m pl)
   callWith pos f first (backTo pos (starEach (e::bp) X.env)) (backToKw pos (keywordEach [] X.env))):=by rfl):
  PE X (.Call (.Attribute o m dE) (e::bp) [] pos) (j9 C m sp [] E bA t):=p1 bF c D.M (F.mono (QD bW)) aH D.b .nil ax a2 du em bM
theorem uD{pl:Sem Bool}(bF:PE X o bA)(c:Cls X.K C)(D:Dm X.K C m q st a_)(F:Z7 X.prog X.w X.K X.mg X.base CX j D.f D.d a_ sp)(aH:cU k X.A)(ax:YD CX X E)(bW:Nat.ble j k=true:=by rfl)
  (bM:eval (.Call (.Attribute o m dE) [] [] pos) X.env=(do
   let dt←eval o X.env
   standAt dE.atName
   let(f,first)←holding [dt] (getMethod dt m pl)
   callWith pos f first (backTo pos (starEach [] X.env)) (backToKw pos (keywordEach [] X.env))):=by rfl):
  PE X (.Call (.Attribute o m dE) [] [] pos) (j9 C m sp [] E bA tNil):=Zew bF c D.M (F.mono (QD bW)) aH D.b .nil ax bM
theorem uE(D:Di X.K C q st a_)(F:Z7 X.prog X.w X.K X.mg X.base CX j D.f D.d a_ sp)(aH:cU (k+1) X.A)(bq:X.mg x=some (.ref C))(ax:YD CX X E)(bW:Nat.ble j k=true:=by rfl)(bL:Gl X x:=by rfl)
  (dW:(x==("__debug__" :Str))=false:=by decide):PE X (.Call (.Name x p) [] [] pos) (mL C sp [] E tNil):=Zer D.M (F.mono (QD bW)) aH bL bq D.b .nil ax dW
end
section
variable {X:Cx}
noncomputable def rDIn:R2:=λy x H Q=>∃a o,x= .ref a∧Zbx H a y o∧Q (.bl o.isSome) H
theorem uF(hu:X.A.units+64<cLine):OpR X (compareOp .In) rDIn:=by
 intro am s σ H x y v u Q I bx bN h;obtain⟨a,o,rfl,g,q⟩:=h;cases bN;exact ZhA (by omega) I g bx λs' cZ=>⟨.bl o.isSome,H,cZ,rfl,q⟩
noncomputable def rSetD:V→V→V→Hp→(Hp→Prop)→Prop:=λo i v H Q=>∃a bI,o= .ref a∧Za9 H a i v bI∧Q bI
theorem uG(hu:X.A.units+64<cLine):Zef X rSetD:=by
 intro am s σ H o i v dt gU u Q I ro ri b6 h;obtain⟨a,bI,rfl,g,q⟩:=h;cases ro;exact Zdx (by omega) I g ri b6 λs' cZ=>⟨bI,cZ,q⟩
end
section
variable {X:Cx}{am:List (Addr×Obj)}{σ:List (Option V)}{H H':Hp}{s:Shared}{h':Heap}
theorem Inv.turnedL{t':Nat}{fp:List Addr}(I:Inv X am σ H s)(k:∀b o,b∉fp→s.heap.get? b=some o→h'.get? b=some o)(a':∀b∈fp,ek X am H b):Inv X am σ H {s with heap:=h',toks:=t'}:=by
 have jT:∀b u,H b=some u→b∉fp:=λb u e z=>by rw[(a' b z).1] at e;cases e
 refine I.step (g':=s.gens) (d':=s.drawn) (ch:=fp) (λb ao=>?_) (λb o _ _ aw e _=>k b o aw e) (λb o _ _ aw e _=>⟨o.slots,k b o aw e⟩) (λ_ _ _ _ n=>n)
  (λb o aw e=>⟨o,k b o aw e⟩) (λ_ _ e=>e) (λ_ _ _ e=>e) (λb a_ e=>⟨#[],by rw[e];simp⟩) (λm bq=>?_) (λb u e=>?_) I.bare
 ·obtain⟨cS,f1,f2,cy,c0,c_⟩:=a' b ao;exact⟨cy,f1,c0,c_⟩
 ·obtain⟨o,bp,c9,a3,r⟩:=bq;exact⟨o,bp,c9,k _ o (λz=>(a' _ z).2.1 rfl) a3,r⟩
 ·refine(I.hok b u e).stay (λc v aw q=>k c v ?_ q) (λ_ q=>q) λ_ _ q=>q;rcases aw with z|z
  ·rw[z];exact jT b u e
  ·exact jT c _ z
theorem Inv.turnedNew{t':Nat}{fp:List Addr}{T:Addr}{o:HO}(I:Inv X am σ H s)(k:∀b o,b∉fp→s.heap.get? b=some o→h'.get? b=some o)(a':∀b∈fp,ek X am H b)(bo:s.heap.objs.size≤T)(new:ZI X.prog X.w (upd H T o) h' T o):
  Inv X am σ (upd H T o) {s with heap:=h',toks:=t'}:=by
 have J:Inv X am σ H {s with heap:=h',toks:=t'}:=I.turnedL k a';have br:=I.hok.fresh bo;obtain⟨cS,f1,f2,cy,c0,c_⟩:=I.fpOk bo br;refine Inv.step (s:={s with heap:=h',toks:=t'}) (h':=h') (g':=s.gens) (d':=s.drawn) (t':=t') (ch:=[T]) J (λb ao=>?_) (λb o _ _ aw e _=>e) (λb o _ _ aw e _=>⟨o.slots,e⟩) (λb o aw e n=>?_)
  (λb o aw e=>⟨o,e⟩) (λb xs e=>?_) (λb o u e=>?_) (λb a_ e=>⟨#[],?_⟩) (λm bq=>bq) (λb u e=>?_) I.bare
 ·have e:b=T:=by simpa using ao
  subst e;exact⟨cy,f1,c0,c_⟩
 ·rw[bV (λz=>aw (by simp[z]))];exact n
 ·rw[bV (c8 e br)];exact e
 ·rw[bV (c8 e br)];exact e
 ·rw[bV (c8 e br)];simpa using e
 ·by_cases ao:b=T
  ·subst ao;rw[Ze] at e;cases e;exact new
  ·rw[bV ao] at e;exact(J.hok b u e).stay (λc v _ q=>q) (λc q=>by rw[bV (c8 q br)];exact q) λc xs q=>by rw[bV (c8 q br)];exact q
end
section
variable {X:Cx}
end
noncomputable def rLenD:List V→Hp→VK→Prop:=λxs H Q=>∃a aP,xs=[V.ref a]∧H a=some (.dK aP)∧Q (.int aP.length) H
theorem Zc4{X:Cx}:Z0 X (.builtin "len") rLenD:=uc
noncomputable def iV (n:Nat) (ix:List Nat) (σ:St):St:=List.replicate n none++ix.map λj=>(σ[j]?).join
noncomputable def nK (n:Nat) (ix:List Nat) (cT:TI) (g:TG) (cq:TT) (bK:TE):TE:=λσ H Q=>cT σ H λJ aq=>∀p,aq p=none→
 ∃W:Nat→Nat→List V→St→Hp→Prop,(∃m,W 0 m [] (iV n ix σ) (upd aq p (.lst [])))∧∀i m ys aV H',W i m ys aV H'→
  (J.stop i H'∧Q (.ref p) H')∨(J.go i H'∧∀x ar,J.yld i H' x ar→g x aV ar λbO bR=>cq bO bR λb bI=>
   if b=true then bK bO bI λv bT=>bT p=some (.lst ys)∧ys.length<sizeLine∧∃bG,bG<m∧W (i+1) bG (ys++ [v]) bO (upd bT p (.lst (ys++ [v])))
   else ∃bG,bG<m∧W (i+1) bG ys bO bI)
section
variable {X:Cx}
theorem ZbH{am:List (Addr×Obj)}{σ:St}{H:Hp}{s:Shared}{bn:Scope}{x:Str}{xs:List Str}{zs:List Str}{ix:List Nat}{cl:List (Str×Addr)}{fp:List Addr}{eo:Heap}{cw:Nat}
  (S:Yj X bn x zs ix) (I:Inv X am σ H s) (dr:∀y c,cl.lookup y=some c→X.env.cells.lookup y=some c) (eQ:∀y,(y,NameKind.free)∈bn.names→∃c,cl.lookup y=some c)
  (e1:∀b∈fp,ek X am H b∧b<s.heap.objs.size) (jp:eo.Ns s.heap.objs.size λ_=>none) (aD:∀b o,s.heap.get? b=some o→eo.get? b=some o):
  Inv (Zl X bn cl s.heap.objs.size (xs++zs) s H fp) [] (iV xs.length ix σ) H {s with heap:=eo,toks:=cw}:=by
 have sub:∀b∈frs X.stack,b∈X.env.locals::X.fs:=I.stkSub;have m_:∀b∈fp,b∉frs X.stack:=λb ao z=>by
  obtain⟨⟨_,f1,f2,_⟩,_⟩:=e1 b ao;rcases Qu.mp (sub b z) with e|e
  ·exact f1 e
  ·exact f2 e
 have cut:∀y,(Zl X bn cl s.heap.objs.size (xs++zs) s H fp).env.kindOf y=some .cell∨(Zl X bn cl s.heap.objs.size (xs++zs) s H fp).env.kindOf y=some .free→∃c,cl.lookup y=some c:=λy bX=>by
  have q:∃k,(relabel bn X.env).names.lookup y=some k∧(k= .cell∨k= .free):=by
   rcases bX with bX|bX
   ·exact⟨_,bX,.inl rfl⟩
   ·exact⟨_,bX,.inr rfl⟩
  obtain⟨k,e,aD⟩:=q;obtain⟨k',bH,q⟩:=YH e;have:k'= .free:=by
   rcases q with q|⟨q,_⟩
   ·rcases aD with z|z
    ·exact absurd (q.symm.trans z) (S.nocell _ (h2 bH))
    ·exact q.symm.trans z
   ·exact q
  subst this;exact eQ y (h2 bH)
 refine⟨⟨I.ok.mod,S.kind,I.ok.glob,I.ok.blt,Qb _,λy z c aB aC=>I.ok.inj y z c (dr _ _ aB) (dr _ _ aC),cut,λy c a' _=>?_,I.ok.hd,I.ok.frames,.inl rfl,λb ao=>?_,I.bs,Qv I.ok.bsz I.sz,λb o e ao=>?_,m_,I.stack,I.stkFree⟩,
  rfl,I.bare,Un.kept aD,⟨_,jp,λi y v aB aC b_=>?_⟩,λy c h=>?_,I.hok.fresh (Qb _),λy c h=>I.freeC y c (dr y c h),λp bo=>absurd (show p∈([]:List (Addr×Obj)) from bo) (by simp),I.hok.kept aD,?_⟩
 ·exact absurd (show false=true from a') (by decide)
 ·obtain⟨⟨cS,f1,f2,cy,c0,c_⟩,ap⟩:=e1 b ao;exact⟨Qm ap,λy c h=>c0 y c (dr y c h)⟩
 ·obtain⟨⟨cS,f1,f2,cy,c0,c_⟩,ap⟩:=e1 b ao;rcases cy with z|z
  ·exact I.ok.noex b o e z
  ·exact absurd (Qj (Heap.lt_size e) (Qv I.ok.bsz z)) (QL _)
 ·
  have cJ:xs.length≤i:=by
   rcases Jp i xs.length with z|z
   ·have ez:(List.replicate xs.length none++ix.map λj=>(σ[j]?).join)[i]? =some (some v):=aC;rw[Q7 (by rw[Qy];exact z),List.getElem?_replicate,if_pos z] at ez;cases ez
   ·exact z
  ·obtain⟨i,rfl⟩:∃uH,i=xs.length+uH:=⟨i-xs.length,by omega⟩;have gY:zs[i]? =some y:=by
    have gY:(xs++zs)[xs.length+i]? =some y:=aB;rw[QP (Nat.le_add_right _ _),Nat.add_sub_cancel_left] at gY;exact gY
   have ez:(ix.map λj=>(σ[j]?).join)[i]? =some (some v):=by
    have ez:(List.replicate xs.length none++ix.map λj=>(σ[j]?).join)[xs.length+i]? =some (some v):=aC;rw[QP (by rw[Qy];exact Nat.le_add_right _ _),Qy,Nat.add_sub_cancel_left] at ez;exact ez
   have a2:(ix.map λj=>X.N[j]?)[i]? =some (some y):=by rw[S.at_,QM,gY];rfl
   rw[QM] at ez a2;cases e:ix[i]? with
   |none=>rw[e] at ez;cases ez
   |some j=>
    rw[e] at ez a2;have dY:X.N[j]? =some y:=Qt a2;have bW:(σ[j]?).join=some v:=Qt ez;have kc:σ[j]? =some (some v):=by
     cases q:σ[j]? with
     |none=>rw[q] at bW;cases bW
     |some o=>rw[q] at bW;exact congrArg some bW
    obtain⟨m,br,ap⟩:=I.loc;have eg:=S.zfree y (Q4 gY);have hn:=S.free _ (h2 eg) rfl;have b9:Vis X.env.scope y:=by
     rcases hn with z|z
     ·exact .inr (.inl z)
     ·exact .inr (.inr z)
    obtain⟨u,r,q⟩:=ap j y v dY kc b9;refine⟨u,r,?_⟩;rcases q with⟨m',_⟩|⟨_,c,aw,hT⟩
    ·have kd:X.env.kindOf y=some .local:=m';rcases hn with z|z<;>(rw[z] at kd;cases kd)
    ·obtain⟨cH,gc⟩:=eQ y (h2 eg);have fZ:cH=c:=by have:=dr y cH gc;rw[aw] at this;exact(Qt this).symm
     subst fZ;refine .inr ⟨?_,cH,gc,?_⟩
     ·have na:Vis (relabel bn X.env) y:=b_;rcases na with z|z|z
      ·obtain⟨k',bH,q⟩:=YH z;rw[eg] at bH;cases bH;rcases q with q|⟨_,q⟩<;>cases q
      ·exact .inl z
      ·exact .inr z
     ·obtain⟨o,a3,hd⟩:=hT;exact⟨o,aD _ _ a3,hd⟩
 ·obtain⟨v,o,a3,hd⟩:=I.cell y c (dr y c h);exact⟨v,o,aD _ _ a3,hd⟩
 ·show(List.replicate xs.length none++ix.map λj=>(σ[j]?).join).length=(xs++zs).length;have:=congrArg List.length S.at_;simp only[Qa] at this;simp only[Qh,Qy,Qa,this]
theorem Uc{am:List (Addr×Obj)}{σ:St}{H:Hp}{s:Shared}{bn:Scope}{x:Str}{xs:List Str}{zs:List Str}{ix:List Nat}{cl:List (Str×Addr)}{fp:List Addr}{it:Addr}{cz:Nat→Heap→Prop}{J:It}
  {dL bY cW:Expr} {ifs:List Expr} {pos:Pos} {g:TG} {cq:TT} {bK:TE} {Q:VK} {E:Value→Shared→Prop} {RR:Value→Addr→Result→Shared→Prop}
  (aw:X.calm=true) (S:Yj X bn x zs ix) (I:Inv X am σ H s) (dr:∀y c,cl.lookup y=some c→X.env.cells.lookup y=some c) (eQ:∀y,(y,NameKind.free)∈bn.names→∃c,cl.lookup y=some c)
  (T:Vg X.prog X.w X.K bY J fp it cz) (st:cz 0 s.heap) (e1:∀b∈fp,ek X am H b)
  (fL:∀C s H,PG (Zl X bn cl C (xs++zs) s H fp) bY g∧PIf (Zl X bn cl C (xs++zs) s H fp) ifs cq∧PE (Zl X bn cl C (xs++zs) s H fp) dL bK)
  (bC:∀p,H p=none→∃W:Nat→Nat→List V→St→Hp→Prop,(∃m,W 0 m [] (iV xs.length ix σ) (upd H p (.lst [])))∧∀i m ys aV H',W i m ys aV H'→
   (J.stop i H'∧Q (.ref p) H')∨(J.go i H'∧∀x ar,J.yld i H' x ar→g x aV ar λbO bR=>cq bO bR λb bI=>
    if b=true then bK bO bI λv bT=>bT p=some (.lst ys)∧ys.length<sizeLine∧∃bG,bG<m∧W (i+1) bG (ys++ [v]) bO (upd bT p (.lst (ys++ [v])))
    else ∃bG,bG<m∧W (i+1) bG ys bO bI))
  (de:∀cr C f s',ql X am σ Q cr C s'→RR cr C (.ok f) s'):
  wpAny (model X.prog X.w) X.A (newList []) (λcr fI=>wpAny (model X.prog X.w) X.A (newFunctionEnv bn X.env.globals cl [] X.env.qual none .none (some X.env)) (λke jr=>
   codeAny (model X.prog X.w) X.A (.compStart (.ListComp dL [⟨bY,cW,ifs,0⟩] bn pos) 0 (.ref it) cr {ke with scope:=relabel bn X.env}) (RR cr ke.locals) jr) E fI) E s:=by
 refine wpAny_newObj_type (wpAny_newFunctionEnv S.nocell (by intro y bX;simp at bX) (λeo hns₁ kf=>?_) S.kind);have db:Inv X am σ (upd H s.heap.objs.size (.lst [])) {s with heap:=s.heap.push {cls:= .type "list",dict:=none,data:= .seq ([]:List Value).toArray}}:=I.lnew (its:=[]) (ys:=[]) (t':=s.toks) .nil (Qs _);dsimp only at hns₁ kf⊢;obtain⟨W,⟨hg,hU⟩,turn⟩:=bC s.heap.objs.size (I.hok.fresh (Qb _));have lt:∀b∈fp,b<s.heap.objs.size:=λb ao=>by
  obtain⟨o,e,_⟩:=T.obj 0 s.heap st b ao;exact Heap.lt_size e
 have nb:∀b∈fp,∀o,(upd H s.heap.objs.size o) b=H b:=λb ao o=>bV (Qm (lt b ao));have kp:∀b o,(s.heap.push {cls:= .type "list",dict:=none,data:= .seq ([]:List Value).toArray}).get? b=some o→eo.get? b=some o:=λb o e=>
  kf.extBut b o (Qm (Heap.lt_size e)) (Heap.get?_push_of_some _ e)
 have cy:∀b∈fp,ek X am (upd H s.heap.objs.size (.lst [])) b∧b<(s.heap.push {cls:= .type "list",dict:=none,data:= .seq ([]:List Value).toArray}).objs.size:=λb ao=>by
  obtain⟨nc,q⟩:=e1 b ao;refine⟨⟨(nb b ao _).trans nc,q⟩,?_⟩;rw[Heap.size_push];exact Jb (lt b ao)
 generalize h3:({s with heap:=s.heap.push {cls:= .type "list",dict:=none,data:= .seq ([]:List Value).toArray}}:Shared)=bv at db;have kg:s.heap.push {cls:= .type "list",dict:=none,data:= .seq ([]:List Value).toArray}=bv.heap:=by rw[←h3]
 rw[kg] at kp cy hns₁⊢;have hX:cz 0 eo:=T.keep 0 _ _ st λb _ o e=>kp b o (by rw[←kg];exact Heap.get?_push_of_some _ e);have hq:Inv (Zl X bn cl bv.heap.objs.size (xs++zs) bv (upd H s.heap.objs.size (.lst [])) fp) [] (iV xs.length ix σ) (upd H s.heap.objs.size (.lst [])) {bv with heap:=eo,toks:=bv.toks}:=
  ZbH S db dr eQ cy hns₁ kp
 obtain⟨bL,nf,bF⟩:=fL bv.heap.objs.size bv (upd H s.heap.objs.size (.lst []));have iM:∀{H':Hp},(∀b∈fp,H' b=none)→∀b∈fp,ek (Zl X bn cl bv.heap.objs.size (xs++zs) bv (upd H s.heap.objs.size (.lst [])) fp) [] H' b:=λ{H'} br b ao=>
  ⟨br b ao,(hq.ok.exf b ao).1,hq.ok.exfs b ao,.inl ao,(hq.ok.exf b ao).2,λp bo=>absurd (show p∈([]:List (Addr×Obj)) from bo) (by simp)⟩
 have kh:∀cf:Shared,cf={bv with heap:=eo,toks:=bv.toks}→
   codeAny (model X.prog X.w) X.A (.compLoop (.ListComp dL [⟨bY,cW,ifs,0⟩] bn pos) 0 (.ref it) (.ref s.heap.objs.size) (compEnvC bn cl bv.heap.objs.size X.env)) (RR (.ref s.heap.objs.size) bv.heap.objs.size) cf:=by
  rintro cf rfl;refine Vz (λn s'=>∃i ys aV H',Inv (Zl X bn cl bv.heap.objs.size (xs++zs) bv (upd H s.heap.objs.size (.lst [])) fp) [] aV H' s'∧cz i s'.heap∧(∀b∈fp,H' b=none)∧W i n ys aV H') ?_ hg
   ⟨0,[],iV xs.length ix σ,_,hq,hX,λb ao=>(cy b ao).1.1,hU⟩
  rintro n cI ⟨i,ys,hr,bT,gV,hk,eM,ng⟩;rcases turn i n ys hr bT ng with⟨stop,iD⟩|⟨go,step⟩
  ·refine thn (T.done (Zl X bn cl bv.heap.objs.size (xs++zs) bv (upd H s.heap.objs.size (.lst [])) fp) rfl rfl rfl aw i [] cI hr bT _ gV (iM eM) hk stop) λr dI ⟨aH,eN⟩=>?_;subst aH;obtain⟨nh,ni,_⟩:=eN.loc;refine de _ _ _ _ ⟨s.heap.objs.size,bT,nh,rfl,ni,?_,db.fpOk (Qb _) eN.free,iD⟩;exact db.call' eN.os eN.base eN.hok eN.bare λb ao=>by
    obtain⟨⟨cS,f1,f2,cy,c0,c_⟩,_⟩:=cy b ao;exact⟨cy,f1,c0,c_⟩
  ·refine thn (T.item (Zl X bn cl bv.heap.objs.size (xs++zs) bv (upd H s.heap.objs.size (.lst [])) fp) rfl rfl rfl aw i [] cI hr bT _ gV (iM eM) hk go) λr dI ⟨u,aH,dC⟩=>?_;subst aH;refine thn dC λ_ dJ ⟨x7,c2,eO,j7,nj,iN,h4⟩=>?_;have nk:=eO.pinned (iM h4) (T.obj _ _ iN);refine thn (bL _ dJ hr c2 x7 u _ nk j7 (step x7 c2 nj)) λ_ d7 ⟨iO,gq,ki,nl⟩=>?_;refine thn (nf _ d7 iO gq _ ki nl) λb h5 ⟨fj,kj,hs⟩=>?_;have again:∀{iP:List V}{aV:St}{H':Hp}{bG:Nat}{s':Shared},Inv (Zl X bn cl bv.heap.objs.size (xs++zs) bv (upd H s.heap.objs.size (.lst [])) fp) ([]++W4 fp dJ.heap) aV H' s'→W (i+1) bG iP aV H'→bG<n→
     ∃m,m<n∧∃i ys aV H',Inv (Zl X bn cl bv.heap.objs.size (xs++zs) bv (upd H s.heap.objs.size (.lst [])) fp) [] aV H' s'∧cz i s'.heap∧(∀b∈fp,H' b=none)∧W i m ys aV H':=λ{iP aV H' bG s'} Iz gs bq=>by
    refine⟨bG,bq,i+1,iP,aV,H',Iz.unpinned,T.keep _ _ _ iN λb ao o e=>(Iz.pin (b,o) (Qp _ (Qp _ (jj ao e)))).1,λb ao=>?_,gs⟩;obtain⟨o,e,d⟩:=T.obj _ _ iN b ao;exact(Iz.pin (b,o) (Qp _ (Qp _ (jj ao e)))).2.1
   cases b with
   |false=>
    rw[if_neg Qd] at hs⊢;obtain⟨bG,bq,gs⟩:=hs;exact again kj gs bq
   |true=>
    rw[if_pos rfl] at hs⊢;refine thn (bF _ h5 iO fj _ kj hs) λv ht ⟨y,gu,nn,np,ap,bw,bG,bq,gs⟩=>?_;refine thn (eY _ ht iO gu (.ref s.heap.objs.size) [y] (.ref s.heap.objs.size) [v] (λz H'=>z= .non∧H'=upd gu s.heap.objs.size (.lst (ys++ [y]))) nn rfl (.cons np .nil) ⟨_,ys,y,rfl,rfl,ap,bw,rfl,rfl⟩) λ_ fM ⟨z,hv,nq,_,_,nr⟩=>?_;subst nr;exact again nq gs bq
 exact codeAny_compStart_list (kh _ (by subst h3;rfl)) (T.self _ 0 _ _ _ hX (kh _ (by subst h3;rfl)))
theorem ko{dL bY cW:Expr}{ifs:List Expr}{bn:Scope}{pos:Pos}{x:Str}{xs:List Str}{zs:List Str}{ix:List Nat}{cT:TI}{g:TG}{cq:TT}{bK:TE}
  (aw:X.calm=true) (S:Yj X bn x zs ix) (hi:PI X bY cW cT)
  (fL:∀cl C s H fp,PG (Zl X bn cl C (xs++zs) s H fp) bY g∧PIf (Zl X bn cl C (xs++zs) s H fp) ifs cq∧PE (Zl X bn cl C (xs++zs) s H fp) dL bK)
  (a4:∀x,foldedSetIterable cW X.env x=pure x:=by intro _;rfl):
  PE X (.ListComp dL [⟨bY,cW,ifs,0⟩] bn pos) (nK xs.length ix cT g cq bK):=by
 intro am s σ H Q I h;obtain⟨cl,iQ,dr,eQ⟩:=Wf I.ok S;rw[eval_ListComp];refine wpAny_comprehension_free (use:=none) rfl a4 iQ S.kind S.names (thn (hi am s σ H _ I h) λv aI aB=>thn aB λhV bt aC=>?_);obtain⟨it,fp,cz,J,ar,e,ce,T,hj,f2,bC⟩:=aC;subst e;refine Uc (RR:=λcr C=>compPost (model X.prog X.w) X.A X.xe none (EP X am σ Q) cr C) aw S ce dr eQ T hj f2 (λC s H=>fL cl C s H fp) bC λcr C f s' h=>?_;obtain⟨p,H',m,rfl,bq,cZ,⟨f3,g1,g2,g3,h6,iR⟩,q⟩:=h;exact⟨m,bq,λh' ao=>⟨.ref p,H',cZ.turned (t':=s'.toks) (λb o fz e=>(ao.2 b fz).trans e) f3 g1 g3 h6 iR,rfl,q⟩⟩
theorem lB{dL bY cW:Expr}{ifs:List Expr}{bn:Scope}{pos py qK:Pos}{x y:Str}{xs:List Str}{zs:List Str}{ix:List Nat}{cT:TI}{g:TG}{cq:TT}{bK:TE}{j:Nat}
  (aw:X.calm=true) (S:Yj X bn x zs ix) (hi:PI X bY cW cT)
  (fL:∀cl C s H fp,PG (Zl X bn cl C (xs++zs) s H fp) bY g∧PIf (Zl X bn cl C (xs++zs) s H fp) ifs cq∧PE (Zl X bn cl C (xs++zs) s H fp) dL bK)
  (da:X.N.Nodup) (bW:X.N[j]? =some y) (bX:Loc X.env.scope y)
  (uI:swapsWith (.ListComp dL [⟨bY,cW,ifs,0⟩] bn pos) (some (.Name y py)) qK.line X.env=pure true:=by rfl)
  (a':X.fn y=true∨X.env.scope.names.lookup y=some .local:=by first|exact .inl rfl|exact .inr rfl|assumption)
  (a4:∀x,foldedSetIterable cW X.env x=pure x:=by intro _;rfl):
  PS X (.Assign [.Name y py] (.ListComp dL [⟨bY,cW,ifs,0⟩] bn pos) qK) (k_ (nK xs.length ix cT g cq bK) (WS j)):=by
 intro am s σ H D I h;obtain⟨cl,iQ,dr,eQ⟩:=Wf I.ok S;rw[exec_Assign_Name_used _ _ _ _ uI];refine wpAny_bind (wpAny_standAt (wpAny_bind ?_));show wpAny _ X.A (do let _←comprehension (.ListComp dL [⟨bY,cW,ifs,0⟩] bn pos) bn X.env _ (newList []) false (eval cW X.env) (some (assign (.Name y py) X.env))) _ _ s;refine wpAny_bind (wpAny_mono (wpAny_comprehension_free (use:=some (assign (.Name y py) X.env)) (Q:=λ_ s'=>SP X am D .next s') rfl a4 iQ S.kind S.names
  (thn (hi am s σ H _ I h) λv aI aB=>thn aB λhV bt aC=>?_)) (λ_ s' bC=>wpAny_pure (wpAny_pure bC)) λ_ _ e=>e)
 obtain⟨it,fp,cz,J,ar,e,ce,T,hj,f2,bC⟩:=aC;subst e;refine Uc (Q:=λx aq=>WS j x σ aq D.nx) (RR:=λcr C=>compPost (model X.prog X.w) X.A X.xe (some (assign (.Name y py) X.env)) (λ_ s'=>SP X am D .next s') cr C) aw S ce dr eQ T hj f2 (λC s H=>fL cl C s H fp) bC λcr C f s' h=>?_;obtain⟨p,H',m,rfl,bq,cZ,⟨f3,g1,g2,g3,h6,iR⟩,q⟩:=h;show wpAny _ X.A (assign (.Name y py) X.env (.ref p)) _ _ _;refine wpAny_assign_Name (pz cZ da bW bX (show b5 (.ref p) (.ref p) from rfl) (λj_ I'' ⟨c,nL,k7⟩=>?_) a');have fz:C≠c:=by
  rcases k7 with z|z
  ·rw[z];exact g1
  ·exact Jj (h6 _ _ z)
 exact⟨m,bq.sameBut nL fz,λh' ao=>⟨_,H',I''.turned (t':=j_.toks) (λb o fz e=>(ao.2 b fz).trans e) f3 g1 g3 h6 iR,q⟩⟩
end
structure Uw(J:It)(n:Nat)(y:Nat→Hp→V→Hp→Prop)(H:Hp):Prop where
 go:∀H' i,Zd H H'→i<n→J.go i H'
 yld:∀H' i x ar,Zd H H'→i<n→J.yld i H' x ar→y i H' x ar
 stop:∀H',Zd H H'→J.stop n H'
theorem Walks.y{J:It}{n:Nat}{f:Nat→V}{H:Hp}(w:Walks J n f H):Uw J n (λi H' v ar=>ar=H'∧v=f i) H:=⟨w.go,w.yld,w.stop⟩
theorem Yg{own:Nat}{ix:List Nat}{g:TG}{cq:TT}{bK:TE}{Q:Addr→Hp→Prop}{σ:St}{H:Hp}{J:It}{n:Nat}{y:Nat→Hp→V→Hp→Prop}(w:Uw J n y H)(br:n<sizeLine)(s:Nat→List (Option V))(a4:∀i,(s i).length=own)(c:Nat→Bool)(R:Nat→V→Hp→Prop)
  (mono:∀i v aq ar,Zd aq ar→R i v aq→R i v ar)
  (bL:∀i a H' v ar (gx:St→Hp→Prop),i<n→Zd H H'→y i H' v ar→a.length=own→(∀bR,Zd H' bR→gx (s i++ix.map λj=>(σ[j]?).join) bR)→g v (a++ix.map λj=>(σ[j]?).join) ar gx)
  (aw:∀i H' (cM:Bool→Hp→Prop),i<n→Zd H H'→(∀bI,Zd H' bI→cM (c i) bI)→cq (s i++ix.map λj=>(σ[j]?).join) H' cM)
  (bF:∀p i H' (cM:VK),i<n→c i=true→H p=none→(∃ys,H' p=some (.lst ys))→Zd H H'→(∀v bT,Zd H' bT→R i v (hid bT p)→cM v bT)→bK (s i++ix.map λj=>(σ[j]?).join) H' cM)
  (q:∀p H' ys,H p=none→Zd H H'→H' p=some (.lst ys)→Paired (λi v=>R i v (hid H' p)) ((List.range n).filter c) ys→Q p H'):
  ∀p,H p=none→∃W:Nat→Nat→List V→St→Hp→Prop,(∃m,W 0 m [] (iV own ix σ) (upd H p (.lst [])))∧∀i m ys aV H',W i m ys aV H'→
   (J.stop i H'∧Q p H')∨(J.go i H'∧∀x ar,J.yld i H' x ar→g x aV ar λbO bR=>cq bO bR λb bI=>
    if b=true then bK bO bI λv bT=>bT p=some (.lst ys)∧ys.length<sizeLine∧∃bG,bG<m∧W (i+1) bG (ys++ [v]) bO (upd bT p (.lst (ys++ [v])))
    else ∃bG,bG<m∧W (i+1) bG ys bO bI):=by
 intro p bo;have qL:∀{aq ar:Hp},Zd aq ar→Zd (hid aq p) (hid ar p):=λ{aq ar} e b o z=>by
  by_cases h:b=p
  ·rw[h,ia] at z;cases z
  ·rw[Wh h] at z⊢;exact e b o z
 have qM:∀{aq:Hp}{o:HO},Zd (hid aq p) (hid (upd aq p o) p):=λ{aq o} b u z=>by
  by_cases h:b=p
  ·rw[h,ia] at z;cases z
  ·rw[Wh h] at z⊢;rw[bV h];exact z
 refine⟨λi m ys aV H'=>m=n-i∧i≤n∧(∃a,a.length=own∧aV=a++ix.map λj=>(σ[j]?).join)∧Zd H H'∧H' p=some (.lst ys)∧Paired (λi v=>R i v (hid H' p)) ((List.range i).filter c) ys,
  ⟨n,by simp,Qs _,⟨List.replicate own none,Qy,rfl⟩,cc bo,Ze,.nil⟩,?_⟩
 rintro i m ys aV H' ⟨rfl,hi,⟨a,a2,rfl⟩,bD,bX,ap⟩
 by_cases dg:i<n
 ·refine .inr ⟨w.go H' i bD dg,λx ar nM=>?_⟩;have cJ:ys.length≤i:=by
   rw[←Paired.length ap];exact Qv (List.length_filter_le _ _) (by simp)
  refine bL i a H' x ar _ dg bD (w.yld H' i x ar bD dg nM) a2 λbR bv=>?_;refine aw i bR _ dg (bD.trans bv) λbI cf=>?_;have iU:=(bD.trans bv).trans cf;have hy:=cf _ _ (bv _ _ bX);have step:(List.range (i+1)).filter c=(List.range i).filter c++(if c i=true then[i] else[]):=by
   rw[Jo,List.filter_append]
   congr 1
   by_cases h:c i=true<;>simp[h]
  have g0:Paired (λi v=>R i v (hid bI p)) ((List.range i).filter c) ys:=Paired.mapP ap λ_ _ z=>mono _ _ _ _ (qL (bv.trans cf)) z
  by_cases er:c i=true
  ·rw[er,if_pos rfl];refine bF p i bI _ dg er bo ⟨ys,hy⟩ iU λv bT cI mE=>⟨cI _ _ hy,by omega,n-(i+1),by omega,rfl,dg,⟨s i,a4 i,rfl⟩,(iU.trans cI).new bo,Ze,?_⟩;rw[step,if_pos er];exact Paired.snoc (Paired.mapP g0 λ_ _ z=>mono _ _ _ _ ((qL cI).trans qM) z) (mono _ _ _ _ qM mE)
  ·have nD:c i=false:=by simpa using er
   rw[nD,if_neg Qd];refine⟨n-(i+1),by omega,rfl,dg,⟨s i,a4 i,rfl⟩,iU,hy,?_⟩;rw[step,if_neg er,QZ];exact g0
 ·have e:i=n:=by omega
  subst e;exact .inl ⟨w.stop H' bD,q p H' ys bo bD bX ap⟩
theorem nN{H:Hp}{p u:Addr}{o:HO}(h:∃ys,H p=some (.lst ys))(hu:H u=none):hid (upd H u o) p u=some o:=by
 have n:u≠p:=λz=>by
  obtain⟨ys,e⟩:=h;rw[←z,hu] at e;cases e
 rw[Wh n,Ze]
theorem ZdN{J:It}{n:Nat}{y:Nat→Hp→V→Hp→Prop}{h9:Hp}(w:Uw J n y h9){g:TG}{b1:TS}{D:Y3}{σ:St}{H:Hp}(Pv:Nat→St→Hp→Prop)(cv:Pv 0 σ H)(aD:∀i σ H,Pv i σ H→Zd h9 H)
  (a4:∀i σ H v H',i<n→Pv i σ H→y i H v H'→g v σ H' λbO ar=>b1 {D with nx:=Pv (i+1),ct:=Pv (i+1),bk:=D.nx} bO ar) (hd:∀σ H,Pv n σ H→D.nx σ H):
  ∃W:Nat→Nat→St→Hp→Prop,(∃m,W 0 m σ H)∧∀i m σ H,W i m σ H→
   (J.stop i H∧D.nx σ H)∨(J.go i H∧∃N:St→Hp→Prop,(∀aV H',N aV H'→∃bG,bG<m∧W (i+1) bG aV H')∧∀x H',J.yld i H x H'→g x σ H' λbO ar=>b1 {D with nx:=N,ct:=N,bk:=D.nx} bO ar):=by
 refine⟨λi m σ H=>m=n-i∧i≤n∧Pv i σ H,⟨n,by simp,Qs _,cv⟩,?_⟩;rintro i m σ H ⟨rfl,hi,p⟩;have bD:=aD i σ H p
 by_cases dg:i<n
 ·exact .inr ⟨w.go H i bD dg,Pv (i+1),λaV H' fX=>⟨n-(i+1),by omega,rfl,dg,fX⟩,λx H' nM=>a4 i σ H x H' dg p (w.yld H i x H' bD dg nM)⟩
 ·have e:i=n:=by omega
  subst e;exact .inl ⟨w.stop H bD,hd σ H p⟩
namespace Rd
section
variable {σ:St}{H:Hp}{Q:VK}{D:Y3}{K:Frag}
theorem Zfy{n:Nat}{ix:List Nat}{cT:TI}{g:TG}{cq:TT}{bK:TE}(h:cT σ H λJ aq=>∀p,aq p=none→
 ∃W:Nat→Nat→List V→St→Hp→Prop,(∃m,W 0 m [] (iV n ix σ) (upd aq p (.lst [])))∧∀i m ys aV H',W i m ys aV H'→
  (J.stop i H'∧Q (.ref p) H')∨(J.go i H'∧∀x ar,J.yld i H' x ar→g x aV ar λbO bR=>cq bO bR λb bI=>
   if b=true then bK bO bI λv bT=>bT p=some (.lst ys)∧ys.length<sizeLine∧∃bG,bG<m∧W (i+1) bG (ys++ [v]) bO (upd bT p (.lst (ys++ [v])))
   else ∃bG,bG<m∧W (i+1) bG ys bO bI)):nK n ix cT g cq bK σ H Q:=h
theorem Zhv(h:∀p,H p=none→Q (.ref p) (upd H p (.dK []))):tDNewK σ H Q:=h
theorem Zhq{a:Addr}{aP:List (Key×V)}{x:Str}(h:H a=some (.dK aP))(q:Q (.bl (e0 aP (Sum.inr x)).isSome) H):rDIn (.str x) (.ref a) H Q:=⟨a,_,rfl,Zbx.k (k:=Sum.inr x) h,q⟩
theorem ZgL{a:Addr}{aP:List (Key×V)}{x:Str}{v:V}{Q:Hp→Prop}(h:H a=some (.dK aP))(ap:aP.length<sizeLine)(q:Q (upd H a (.dK (fi aP (Sum.inr x) v)))):rSetD (.ref a) (.str x) v H Q:=⟨a,_,rfl,Za9.k (k:=Sum.inr x) h ap,q⟩
theorem Zhy{a:Addr}{aP:List (Key×V)}(h:H a=some (.dK aP))(q:Q (.int aP.length) H):rLenD [.ref a] H Q:=⟨a,aP,rfl,h,q⟩
theorem ipi{f:Int→Int→Int}{i j:Int}(q:Q (.int (f i j)) H):ipI f (.int i) (.int j) H Q:=⟨i,j,rfl,rfl,q⟩
end
end Rd
section
variable {X:Cx}
end
section
variable {X:Cx}
end
namespace Rd
end Rd
end L2
namespace L2
open PySem PySem.Spec PySem.W PyProof.Rows Builtin Builtin.ObjectAttr Builtin.Getset_descriptor
def iW(x C:Addr)(h:Heap):Prop:=∃o,h.get? x=some o∧o.cls= .ref C
theorem iW.type{M:Model}{h:Heap}{x C:Addr}(I:iW x C h):Looks M h (typeOf (.ref x)) (.ref C):=by
 obtain⟨o,aB,aC⟩:=I;exact aC▸(Looks.ld aB).andThen .now
structure Yq(K:Frag)(C:Addr):Prop where
 cl:(clsIn K C).isSome=true
 ga:findIn K (.ref C) "__getattribute__" =some (some (.builtin "BaseException.__getattribute__"))
 gk:findIn K (.ref C) "__getattr__" =some none
 ca:findIn K (.ref C) "__class__" =some (some (.builtin "object.__class__"))
 cg:specialIn K (.builtin "object.__class__") "__get__" =some (some (.builtin "getset_descriptor.__get__"))
 ct:takesIn K (.builtin "object.__class__")=some true
 sub:subIn K (.ref C) (.type "BaseException")=some true
 mr:mroIn K C (.type "object")=some true
section
variable {prog:Program}{w:World}{A:Around}{E:Value→Shared→Prop}{s:Shared}{K:Frag}{x C:Addr}
theorem Zeh{M:Model}{h:Heap}(X:K.In h)(c:Yq K C):Looks M h (Builtin.ObjectAttr.find (.ref x) (.ref C) "__class__") (.bind (.builtin "getset_descriptor.__get__") (.builtin "object.__class__")):=by
 have lC:=looks_findIn (M:=M) X c.ca;have L2:Looks M h (Builtin.ObjectAttr.getOf (some (.builtin "object.__class__"))) (some (.builtin "getset_descriptor.__get__")):=looks_specialIn X c.cg;have nO:=looks_takesIn (M:=M) X c.ct;exact lC.andThen (L2.andThen ((show Looks M h (Builtin.ObjectAttr.dataDescriptor? (some (.builtin "object.__class__")) (some (.builtin "getset_descriptor.__get__"))) (some (.builtin "getset_descriptor.__get__",.builtin "object.__class__")) from nO.andThen .now).andThen (Looks.tag .now)))
theorem uJ{e5:Value}{R:Result→Shared→Prop}(X:K.In s.heap)(I:iW x C s.heap)(c:Yq K C)(h:R (.ok (.ret (.ref C))) s):codeAny (model prog w) A (.call (.builtin "getset_descriptor.__get__") ⟨[.builtin "object.__class__",.ref x,e5],[]⟩) R s:=by
 obtain⟨b8,g,Bq,t,os⟩:=s;have kq:=I.type (M:=model prog w);have lC:=looks_mroIn (M:=model prog w) X c.mr;refine codeAny_call_builtin KF.slot_gs.plain KF.entry_gs (KF.slot_gs.check _ _ _ _ _ _ _ _ KF.type_class (KF.args_gs _ _ _) ?_);unfold Builtin.«getset_descriptor.__get__» descrGet;rw[dga_obj];refine wpAny_bind (wpAny_pure ?_);unfold descrGetter descrCheckInstance descrNameAndClass isInstance;simp only[KF.owner_class]
 repeat lk
 refine⟨Code.quiet_builtin _ (by decide+kernel),codeAny_builtin KF.entry_class ?_⟩;unfold Builtin.«object.__class__» shownTypeOf
 repeat lk
 exact h
theorem Zdr{cw:Tok}{Q:Fin→Shared→Prop}(X:K.In s.heap)(I:iW x C s.heap)(c:Yq K C)
  (h:Q (.done (.ret (.ref C))) s):wpAny (model prog w) A (Builtin.«object.__getattribute__» ⟨[.ref x,.str "__class__" cw],[]⟩) Q E s:=by
 obtain⟨b8,g,d,t,os⟩:=s;have kq:=I.type (M:=model prog w);have nO:=Zeh (M:=model prog w) (x:=x) X c;show wpAny _ _ (typeOf (.ref x) >>= _) _ _ _;refine wpAny_bind (kq.at (wpAny_bind (nO.at ?_)));show wpAny _ _ (holding [Value.builtin "object.__class__"] (call (.builtin "getset_descriptor.__get__") [.builtin "object.__class__",.ref x,.ref C]) >>= ret) _ _ _;exact wpAny_bind (wpAny_holding (wpAny_call (uJ (s:=⟨b8,g,d,t,os⟩) X I c (wpAny_pure h))))
theorem Zdd{Q:Option Value→Shared→Prop}(X:K.In s.heap)(I:iW x C s.heap)(c:Yq K C)(h:Q (some (.ref C)) {s with toks:=s.toks+1}):wpAny (model prog w) A (getAttr? (.ref x) "__class__") Q E s:=by
 obtain⟨b8,g,d,t,os⟩:=s;have kq:=I.type (M:=model prog w);have lC:=looks_findIn (M:=model prog w) X c.ga;have L2:=looks_findIn (M:=model prog w) X c.gk;have uK:Looks (model prog w) b8 (isSubtype (.ref C) (.type "BaseException")) true:=looks_subIn X c.sub;have uL:Looks (model prog w) b8 (isInstance (.ref x) (.type "BaseException")) true:=kq.andThen uK;unfold getAttr? getAttrBy? getAttrBy;refine wpAny_bind (wpAny_mkText (wpAny_bind (wpAny_attempt (wpAny_holding (wpAny_bind (kq.at (wpAny_bind (lC.at ?_))))))));show wpAny _ _ (getAttrByItsOwn _ _ _ _ _ _) _ _ _;unfold getAttrByItsOwn hookBefore;refine wpAny_bind (L2.at (wpAny_bind (wpAny_attempt (wpAny_holding ?_))));show wpAny _ _ (bindSpecial _ _ >>= _) _ _ _;rw[F.excAttr_ValueError.ga.bind (.ref x)];refine wpAny_bind (wpAny_pure (wpAny_call (codeAny_call_builtin F.excAttr_ValueError.ga.plain F.entry_bexc_ga ?_)));have aD:builtinKind "BaseException.__getattribute__" =some .slot:=by decide+kernel
 have fb:splitId "BaseException.__getattribute__" =some ("BaseException","__getattribute__"):=by decide+kernel
 have a2:=F.args_bexc_ga (.ref x) (.str "__class__" t);have uM:∀(Q:Unit→Shared→Prop)(E:Value→Shared→Prop),Q () ⟨b8,g,d,t+1,os⟩→wpAny (model prog w) A.in1 (checkBuiltinCall "BaseException.__getattribute__" ⟨[.ref x,.str "__class__" t],[]⟩) Q E ⟨b8,g,d,t+1,os⟩:=λQ E df=>by
  simp only[checkBuiltinCall,aD,fb];refine wpAny_bind (uL.at ?_);simp only[Bool.not_true,Bool.false_eq_true,if_false];cases uN:Manifest.signature? "BaseException.__getattribute__" with
  |none=>exact wpAny_pure df
  |some sig=>
   simp only[argsOk,uN] at a2;have aC:Bind.checkArgs "BaseException.__getattribute__" sig ⟨[.ref x,.str "__class__" t],[]⟩=pure ():=a2;show wpAny _ _ (Bind.checkArgs "BaseException.__getattribute__" sig ⟨[.ref x,.str "__class__" t],[]⟩) Q E _;rw[aC];exact wpAny_pure df
 refine uM _ _ ?_;refine Zdr (s:=⟨b8,g,d,t+1,os⟩) (A:=A.in1) X I c ?_;exact handed_on rfl (wpAny_pure h)
theorem uO(c:Yq K C):KitX K (.ref x) (.ref C) (iW x C) where
 ty:=λ_ _ _ I=>I.type
 it:=λ_ _ X _=>by
  obtain⟨uP,hm⟩:=Q8.mp c.cl;unfold clsIn at hm
  split at hm
  ·rename_i cH d' cd' jR a3;intro nE jW E' s' k q;unfold isType loadHead;exact wpAny_bind (wpAny_loadPart (k _ _ (X _ _ a3)) (wpAny_pure q))
  ·cases hm
 ne:=λh e5 dd its n sl X uQ=>by
  obtain⟨uP,hm⟩:=Q8.mp c.cl;refine Bool.eq_false_iff.mpr λq=>?_;have e:C=e5:=Value.ref.inj (beq_iff_eq.mp q);subst e;unfold clsIn at hm
  split at hm
  ·rename_i cH d' cd' jR a3;have z:=(X _ _ a3).symm.trans uQ;cases z
  ·cases hm
 ca:=λX I k=>Zdd X I c k
end
noncomputable def dQ (x C:Addr):HO:= .ext λh=>iW x C h∧Zx h x
section
variable {X:Cx}
noncomputable def nP (K:Frag):List V→Hp→VK→Prop:=λxs H Q=>∃(x C:Addr)(c:V)(u:Value)(b:Bool),xs=[.ref x,c]∧H x=some (dQ x C)∧Yq K C∧(∀v,b5 c v→v=u)∧kitOne K (.ref C) u=some b∧Q (.bl b) H
theorem lD{K:Frag}(e:X.K=K):Z0 X (.builtin "isinstance") (nP K):=by
 subst e;intro am s σ H xs us Q I r h;obtain⟨x,C,c,u,b,rfl,ax,fZ,hu,aD,q⟩:=h;cases r with
 |cons bP j1=>
  obtain⟨v,rfl,b6⟩:=Wg j1;cases (show _=Value.ref x from bP);have eP:=hu v b6;subst eP;obtain⟨⟨uR,_⟩,_,_⟩:=(show ZI X.prog X.w H s.heap x (dQ x C) from I.hok x _ ax);exact kia_one (uO fZ) I.kIn uR aD (λz=>nomatch z) λcw=>⟨.bl b,H,I.tok cw,rfl,q⟩
end
end L2
namespace L2
open PySem PySem.Spec PyProof.Rows
section
variable {X:Cx}{am:List (Addr×Obj)}{σ:List (Option V)}{H:Hp}{s:Shared}
theorem Inv.track{ea:Addr}{o:HO}(I:Inv X am σ H s)(cv:∀b',X.s₀.heap.get? ea=some b'→ea∈X.ex)(ft:ea≠X.env.locals)(aw:∀x c,X.env.cells.lookup x=some c→c≠ea)(bo:∀p∈X.pn++am,p.1≠ea)(br:H ea=none)
  (new:ZI X.prog X.w (upd H ea o) s.heap ea o):Inv X am σ (upd H ea o) s:=by
 refine⟨I.ok,I.os,I.bare,⟨I.base.keep,I.base.slot,λb b' e n ax=>?_,I.base.there,λb xs e=>?_,λb b' u e=>?_,λb a_ e=>?_⟩,I.loc,I.cell,?_,λx c e=>?_,λp lE=>?_,λb u e=>?_,I.len⟩
 ·rw[bV (λz=>ax (by rw[z];exact cv b' (by rw[←z];exact e)))];exact I.base.free b b' e n ax
 ·rw[bV (c8 (I.base.tups b xs e) br)];exact I.base.tups b xs e
 ·rw[bV (c8 (I.base.frzs b b' u e) br)];exact I.base.frzs b b' u e
 ·obtain⟨more,q⟩:=I.base.tbls b a_ e;exact⟨more,by rw[bV (c8 q br)];exact q⟩
 ·rw[bV (Jj ft)];exact I.free
 ·rw[bV (aw x c e)];exact I.freeC x c e
 ·obtain⟨a,b,r⟩:=I.pin p lE;exact⟨a,by rw[bV (bo p lE)];exact b,r⟩
 ·by_cases ao:b=ea
  ·subst ao;rw[Ze] at e;cases e;exact new
  ·rw[bV ao] at e;exact(I.hok b u e).stay (λc v _ q=>q) (λc q=>by rw[bV (c8 q br)];exact q) λc xs q=>by rw[bV (c8 q br)];exact q
theorem Inv.dropName{h':Heap}{t':Nat}{j:Nat}{n:Str}{m:Str→Option Value}{v:Option Value}(I:Inv X am σ H s)(da:X.N.Nodup)(bW:X.N[j]? =some n)(a4:Heap.SameBut X.env.locals s.heap h')
  (bq:∀(i:Nat) x w,X.N[i]? =some x→σ[i]? =some (some w)→Vis X.env.scope x→∃u,b5 w u∧Zfx X.env s.heap m x u) (br:h'.Ns X.env.locals (λx=>if x=n then v else m x)):Inv X am (σ.set j none) H {s with heap:=h',toks:=t'}:=by
 have je:∀b o,X.s₀.heap.get? b=some o→b≠X.env.locals:=λb o e=>Qm (Qj (Heap.lt_size e) I.ok.above);have k:∀b o,b≠X.env.locals→s.heap.get? b=some o→h'.get? b=some o:=λb o ao e=>(a4.2 b ao).trans e;refine⟨I.ok,I.os,I.bare,⟨λb o e dG ao ax=>k b o (je b o e) (I.base.keep b o e dG ao ax),λb o e dG ao ax=>?_,I.base.free,λb o e ax=>?_,I.base.tups,I.base.frzs,I.base.tbls⟩,⟨_,br,λi x w bu bJ d3=>?_⟩,λx c e=>?_,I.free,I.freeC,λp bo=>?_,λb u e=>?_,by rw[QR];exact I.len⟩
 ·obtain⟨sl,q⟩:=I.base.slot b o e dG ao ax;exact⟨sl,k b _ (je b o e) q⟩
 ·obtain⟨b2,q⟩:=I.base.there b o e ax;exact⟨b2,k b b2 (je b o e) q⟩
 ·by_cases nQ:i=j
  ·subst nQ;have:(σ.set i none)[i]? =some none∨(σ.set i none)[i]? =none:=by
    rcases Jp i σ.length with z|z
    ·exact .inl (by rw[QX z])
    ·exact .inr (List.getElem?_eq_none (by rw[QR];exact z))
   rcases this with z|z<;>(rw[z] at bJ;cases bJ)
  ·rw[Jl (λz=>nQ z.symm)] at bJ;obtain⟨u,r,l⟩:=bq i x w bu bJ d3;have nx:x≠n:=λz=>nQ (my da (by rw[bu,z]) bW);refine⟨u,r,?_⟩;rcases l with⟨a,b⟩|⟨a,c,e,o,a3,hd⟩
   ·exact .inl ⟨a,by simp only[if_neg nx];exact b⟩
   ·exact .inr ⟨a,c,e,o,k c o (I.cne x c e) a3,hd⟩
 ·obtain⟨w,o,a3,hd⟩:=I.cell x c e;exact⟨w,o,k c o (I.cne x c e) a3,hd⟩
 ·obtain⟨a,b,c,r⟩:=I.pin p bo;exact⟨k _ _ c a,b,c,r⟩
 ·refine(I.hok b u e).stay (λc v' aw q=>k c v' ?_ q) (λ_ q=>q) λ_ _ q=>q;rcases aw with z|z
  ·rw[z];exact c8 e I.free
  ·exact c8 z I.free
end
section
variable {X:Cx}
noncomputable def qN (K:Frag) (c:Value) (j:Nat) (b1:(St→Prop)→XK→TS) (ff:Addr→TS):TS:=λD σ H=>∃(J:St→Prop)(fA:XK),b1 J fA D σ H∧∀aV cls H',J aV→fA cls none H'→exmOne K cls c=some true∧∃C,cls= .ref C∧∀ea,H' ea=none→
 ff ea {D with nx:=λbO ar=>D.nx (bO.set j none) ar,bk:=λbO ar=>D.bk (bO.set j none) ar,ct:=λbO ar=>D.ct (bO.set j none) ar} (aV.set j (some (.ref ea))) (upd H' ea (dQ ea C))
theorem qO{n:Str}{j:Nat}{body:List Stmt}{nR:Stmt}{nS:List Stmt}{x:Str}{eA hpos pos:Pos}{b1:(St→Prop)→XK→TS}{ff:Addr→TS}{C:Addr}
  (du:X.stack=X.env::X.outer) (eg:X.env.frame=some X.env.locals) (bL:Gl X x) (bq:X.mg x=some (.ref C)) (ao:Zhe X body b1) (a4:∀ea,PSs {X with A:=X.A.mark (some (.ref ea)),calm:=false,xe:=λ_ _=>False} (nR::nS) (ff ea)) (da:X.N.Nodup) (bW:X.N[j]? =some n) (jw:X.env.scope.names.lookup n=some .local) (dW:(x==("__debug__" :Str))=false:=by decide):
  PS X (.Try body [.ExceptHandler (some (.Name x eA)) (some n) (nR::nS) hpos] [] [] pos) (qN X.K (.ref C) j b1 ff):=by
 intro am s σ H D I h;obtain⟨J,fA,uS,b8⟩:=h;have uT:X.A.frames=some (X.env::X.outer):=by rw[I.ok.frames,du]
 refine wpAny_Try_except ?_
 let gZ:Value→Shared→Prop:=λe cn=>wpAny (model X.prog X.w) X.A (noteFrame e X.env) (λ_ gd=>wpAny (model X.prog X.w) X.A (setFlight e none) (λ_ fI=>wpAny (model X.prog X.w) X.A (handleBy e X.env [.ExceptHandler (some (.Name x eA)) (some n) (nR::nS) hpos]) (SP X am D) X.xe fI) X.xe gd) X.xe cn
 have own:PassesOwn (model X.prog X.w) X.A X.env gZ:=PassesOwn.looking;have js:∀{xe:Value→Shared→Prop}{jg:List (Addr×Obj)}{aV:St}{H':Hp}{s':Shared},Inv {X with pn:=X.pn++am,xe:=xe} jg aV H' s'→Inv X am aV H' s':=λ{xe jg aV H' s'} J=>by
  have o:=J.ok;exact⟨⟨o.mod,o.kind,o.glob,o.blt,o.above,o.inj,o.has,o.cab,o.hd,o.frames,o.stk,o.exf,o.bs,o.bsz,o.noex,o.exfs,o.funs,o.frf⟩,J.os,J.bare,J.base,J.loc,J.cell,J.free,J.freeC,λp bo=>J.pin p (Jk _ bo),J.hok,J.len⟩
 have uU:Inv {X with pn:=X.pn++am,xe:=gZ} [] σ H s:=by
  have o:=I.ok;exact⟨⟨o.mod,o.kind,o.glob,o.blt,o.above,o.inj,o.has,o.cab,o.hd,o.frames,o.stk,o.exf,o.bs,o.bsz,o.noex,o.exfs,o.funs,o.frf⟩,I.os,I.bare,I.base,I.loc,I.cell,I.free,I.freeC,λp bo=>I.pin p (by simpa using bo),I.hok,I.len⟩
 have uV:VS (CXX X.prog X.w) {X with pn:=X.pn++am,xe:=gZ} J fA:=by
  intro jg aV aq aI e s' iL a6 hcx;obtain⟨ea,cls,a0,H',B,rfl,os,bare,un,ok,cO,eG,dD,q⟩:=hcx;have cZ:=js a6;obtain⟨uW,lF,rfl,uX⟩:=b8 aV cls H' iL q;have uY:Heap.FlyingW B (X.env::X.outer) ea (.ref lF) a0 s'.heap:=by rw[←du];exact cO
  show wpAny _ _ _ _ _ _;refine ZdA dD uT eg uY λqk held₄ sl₄ uZ=>?_;refine Zgb uZ held₄ λm9 fl₅ sl₅ u0=>?_;have there:∀{dC:Heap},Heap.FlyingW B (X.env::X.outer) ea (.ref lF) a0 dC→s'.heap.UpToSlots dC→Inv X am aV H' {s' with heap:=dC}:=λ{dC} f6 sl=>by
   have u1:Un (frs X.stack) [] aq H' aI.heap dC:=un.fly eG f6.1 sl (λb ao o e=>by
    obtain⟨_,b2,bH,d⟩:=cZ.stack.mem ao;rw[e] at bH;cases bH;exact d) cZ.stkFree
   exact cZ.call' (s':={s' with heap:=dC}) os u1 (ok.stays (λb o e n=>eG b o e (.inl n)) f6.1) bare (λb z=>absurd z (by simp))
  have held:∀{dI:Shared},Inv X am aV H' dI→Inv {X with A:=X.A.mark (some (.ref ea)),calm:=false,xe:=λ_ _=>False} am aV H' dI:=λ{dI} J=>by
   have o:=J.ok;exact⟨⟨o.mod,o.kind,o.glob,o.blt,o.above,o.inj,o.has,o.cab,λz=>absurd (show false=true from z) Qd,o.frames,o.stk,o.exf,o.bs,o.bsz,o.noex,o.exfs,o.funs,o.frf⟩,J.os,J.bare,J.base,J.loc,J.cell,J.free,J.freeC,J.pin,J.hok,J.len⟩
  have gV:=held (there fl₅ (sl₄.trans sl₅));refine wpAny_handleBy_cons (codeAny_handlers_test ?_) (by intro q;cases q);refine iB gV bL bq ?_ dW;obtain⟨b',u2,u3⟩:=fl₅.there;have LT:PySem.W.Looks (model X.prog X.w) m9 (typeOf (.ref ea)) (.ref lF):=by
   exact u3▸(PySem.W.Looks.ld u2).andThen .now
  refine(PySem.W.exm_one gV.kIn LT uW).here ?_;refine codeAny_handlers_suite_as ?_;refine Zbs u0 fl₅ λBr fl₆ sl₆ u4=>?_;have eN:=held (there fl₆ ((sl₄.trans sl₅).trans sl₆));obtain⟨qP,g_,Bs⟩:=cO.there;have lG:∀b o,aI.heap.get? b=some o→b≠ea:=λb o e z=>by
   subst z
   by_cases a':b∈frs X.stack
   ·obtain⟨_,b2,bH,d⟩:=cZ.stack.mem a';obtain⟨sl,ej⟩:=un.any bH (cZ.stkFree b a') (by simp);obtain⟨Bt,vs,qQ,_,u5,_⟩:=cO.first;rw[ej] at qQ;cases qQ;exact d vs u5
   ·have:=eG b qP g_ (.inr ⟨⟨o,e⟩,a'⟩);rw[cO.2.1] at this;cases this
  have fz:H' ea=none:=by
   cases e:H' ea with
   |none=>rfl
   |some o=>
    have:=eG ea qP g_ (.inl (by rw[e];simp));rw[cO.2.1] at this;cases this
  have cv:∀b',X.s₀.heap.get? ea=some b'→ea∈X.ex:=λb' e=>by
   by_cases ax:ea∈X.ex
   ·exact ax
   ·obtain⟨b2,ej⟩:=cZ.base.there ea b' e ax;exact absurd rfl (lG ea b2 ej)
  obtain⟨qR,qS,u6⟩:=fl₆.there;have eO:=Inv.track (o:=dQ ea lF) eN cv (λz=>by
   obtain⟨m,⟨o,bp,c9,a3,_⟩,_⟩:=cZ.loc;exact lG _ o a3 z.symm) (λy c e=>by
   obtain⟨v,o,a3,_⟩:=cZ.cell y c e;exact lG c o a3) (λfX lE=>lG _ _ (cZ.pin fX lE).1) fz ⟨⟨⟨qR,qS,u6⟩,u4⟩,⟨qR,qS⟩,λaB aC ⟨⟨o,a1,d8⟩,n⟩ k=>⟨⟨o,k o a1,d8⟩,n.keeps k⟩⟩
  refine jV (X:={X with A:=X.A.mark (some (.ref ea)),calm:=false,xe:=λ_ _=>False}) eO da bW (.inl jw) (show b5 (.ref ea) (.ref ea) from rfl) (λdJ ki=>?_) (.inr jw);refine wpAny_mono (a4 ea am dJ _ _ _ ki (uX ea fz)) (λf bt aC=>?_) λ_ _ z=>False.elim z;have lH:∀{bO:St}{ar:Hp}{bt:Shared},Inv {X with A:=X.A.mark (some (.ref ea)),calm:=false,xe:=λ_ _=>False} am bO ar bt→Inv X am bO ar bt:=λ{bO ar bt} J=>by
   have o:=J.ok;exact⟨⟨o.mod,o.kind,o.glob,o.blt,o.above,o.inj,o.has,o.cab,I.ok.hd,I.ok.frames,o.stk,o.exf,o.bs,o.bsz,o.noex,o.exfs,o.funs,o.frf⟩,J.os,J.bare,J.base,J.loc,J.cell,J.free,J.freeC,J.pin,J.hok,J.len⟩
  have lI:∀{bO:St}{ar:Hp}{bt:Shared}{Q:Unit→Shared→Prop},Inv X am bO ar bt→(∀bv,Inv X am (bO.set j none) ar bv→Q () bv)→wpAny (model X.prog X.w) X.A (do bindName X.env n .none;unbindBehindTheSuite X.env n hpos) Q X.xe bt:=λ{bO ar bt Q} J bC=>by
   refine wpAny_bind (wpAny_bindName (jV (u:= .none) J da bW (.inl jw) (show b5 .non .none from rfl) (λbv gy=>?_) (.inr jw)));obtain⟨m,br,ap⟩:=gy.loc;have mz:(X.env.scope.kind== .class||(X.env.scope.kind== .module&&X.env.locals != X.env.globals))=false:=by rw[gy.ok.kind];rfl
   have qT:X.env.kindOf n=some .local:=jw;unfold unbindBehindTheSuite;refine wpAny_onRaise ?_;unfold unbindName;refine wpAny_bind (wpAny_point (wpAny_bind ?_));unfold deleteName;simp only[qT,mz];rw[if_neg (by decide)];refine wpAny_bind (wpAny_nsDel_keeps br λm8 v hn₂ u7=>?_);have qU:Inv X am ((bO.set j (some .non)).set j none) ar {bv with heap:=m8,toks:=bv.toks}:=gy.dropName da bW u7 ap hn₂;rw[List.set_set] at qU;have qV:j<bO.length:=by rw[J.len];exact(Qw.mp bW).1
   have u8:(m n).isSome=true:=by
    obtain⟨u,r,l⟩:=ap j n .non bW (by rw[QX qV]) (.inl jw);rcases l with⟨_,b⟩|⟨a,_⟩
    ·rw[b];rfl
    ·rcases a with a|a<;>(rw[qT] at a;cases a)
   rw[u8];simp only[if_true,Bool.not_true,Bool.false_eq_true,if_false];exact wpAny_pure (wpAny_point (bC _ qU))
  show wpAny (model X.prog X.w) X.A (do bindName X.env n .none;unbindBehindTheSuite X.env n hpos) (λ_ fI=>SP X am D f fI) X.xe bt;cases f with
  |next=>obtain⟨bO,ar,fk,cj⟩:=aC;exact lI (lH fk) λbv gy=>⟨_,ar,gy,cj⟩
  |brk=>obtain⟨bO,ar,fk,cj⟩:=aC;exact lI (lH fk) λbv gy=>⟨_,ar,gy,cj⟩
  |cont=>obtain⟨bO,ar,fk,cj⟩:=aC;exact lI (lH fk) λbv gy=>⟨_,ar,gy,cj⟩
  |ret u=>obtain⟨v,bO,ar,fk,b3,cj⟩:=aC;exact lI (lH fk) λbv gy=>⟨v,_,ar,gy,b3,cj⟩
 refine wpAny_mono (ao J fA (X.pn++am) gZ own uV [] s σ H D uU uS) (λf aI aB=>?_) λe aI aB=>aB;cases f with
 |next=>
  obtain⟨bO,ar,fk,cj⟩:=aB;show wpAny _ _ (execs [] X.env) _ _ _;exact wpAny_pure ⟨bO,ar,js fk,cj⟩
 |brk=>obtain⟨bO,ar,fk,cj⟩:=aB;exact⟨bO,ar,js fk,cj⟩
 |cont=>obtain⟨bO,ar,fk,cj⟩:=aB;exact⟨bO,ar,js fk,cj⟩
 |ret u=>obtain⟨v,bO,ar,fk,b3,cj⟩:=aB;exact⟨v,bO,ar,js fk,b3,cj⟩
end
namespace Rd
section
variable {σ:St}{H:Hp}{Q:VK}{K:Frag}
theorem ZhJ{x C B:Addr}{b:Bool}(h:H x=some (dQ x C))(fZ:Yq K C)(k:PySem.W.kitOne K (.ref C) (.ref B)=some b)(q:Q (.bl b) H):nP K [.ref x,.ref B] H Q:=⟨x,C,.ref B,.ref B,b,rfl,h,fZ,λv r=>r,k,q⟩
theorem Zhh{x C:Addr}{n:String}{b:Bool}(h:H x=some (dQ x C))(fZ:Yq K C)(k:PySem.W.kitOne K (.ref C) (.type n)=some b)(q:Q (.bl b) H):nP K [.ref x,.ty n] H Q:=⟨x,C,.ty n,.type n,b,rfl,h,fZ,λv r=>r,k,q⟩
end
section
variable {σ:St}{H:Hp}{K:Frag}
theorem Zds{c:Value}{j:Nat}{b1:(St→Prop)→XK→TS}{ff:Addr→TS}{D:Y3}(fA:XK)(ao:b1 (λs=>s=σ) fA D σ H)(b8:∀cls H',fA cls none H'→exmOne K cls c=some true∧∃C,cls= .ref C∧∀ea,H' ea=none→
  ff ea {D with nx:=λbO ar=>D.nx (bO.set j none) ar,bk:=λbO ar=>D.bk (bO.set j none) ar,ct:=λbO ar=>D.ct (bO.set j none) ar} (σ.set j (some (.ref ea))) (upd H' ea (dQ ea C))):qN K c j b1 ff D σ H:=
 ⟨λs=>s=σ,fA,ao,λ_ cls H' e h=>e▸b8 cls H' h⟩
end
end Rd
theorem Zdp{K:Frag}{C:Addr}{bm:List Value}{n:String}(h:excIn K C bm n=true):(PySem.W.clsIn K C).isSome=true:=by
 unfold excIn at h
 split at h
 ·rename_i dd b7 sl a3;unfold PySem.W.clsIn;rw[a3]
  rfl
 ·cases h
theorem u9:entryFor table "proto.unchain" =some Builtin.«proto.unchain»:=entryFor_of_tree (by kernel_rfl)
section
variable {prog:Program}{w:World}{A:Around}{E:Value→Shared→Prop}{s:Shared}
theorem u_{a ea:Addr}{Q:Value→Shared→Prop}(dD:Zx s.heap ea)(h:Q .none s):wpAny (model prog w) A (runValue (.builtin "proto.unchain" ⟨[.ref a,.ref ea,.ref ea,.bool false],[]⟩)) Q E s:=by
 obtain⟨o,vs,a3,hd,aC⟩:=dD;refine wpAny_runValue (codeAny_builtin u9 ?_);unfold Builtin.«proto.unchain»;refine wpAny_bind (wpAny_field a3 hd aC ?_);rw[if_pos (show(Value.none==Value.none)=true from by decide)];exact λ_ _ _=>h
theorem Zas{it l ea:Addr}{i:Nat}{items}{Q:Option Value→Shared→Prop}(b8:A.handled=some (.ref ea))(dD:Zx s.heap ea)
  (nT:s.heap.IsListIter it l i) (ap:s.heap.IsList l items) (ax:items[i]? =none)
  (df:∀h',Heap.ExtBut it s.heap h'→Q none {s with heap:=h'}):wpAny (model prog w) A (pyNext (.ref it)) Q E s:=by
 obtain⟨o,a3,aw,hd⟩:=id nT;obtain⟨Bu,u',_,Bv,va⟩:=ap;have lt:ea<s.heap.objs.size:=by obtain⟨_,_,e,_⟩:=dD;exact Heap.lt_size e
 unfold pyNext;refine wpAny_bind (wpAny_attempt (wpAny_callSpecial?_slot (name:=Str.ofString "__next__") nT.typeIs slot_listiter_next
  (wpAny_call_entry slot_listiter_next nT.typeIs entry_listiter_next ?_ (args_listiter_next _))))
 show wpAny _ _ (field (.ref it) 0 >>= _) _ _ s;refine wpAny_bind (wpAny_field a3 hd (x:= .ref l) rfl ?_);show wpAny _ _ (if(Value.ref l==Value.none)=true then _ else _) _ _ s;rw[if_neg (show ¬((Value.ref l==Value.none)=true) from Qd)];show wpAny _ _ (field (.ref it) 1 >>= _) _ _ s;refine wpAny_bind (wpAny_field a3 hd (x:= .int i 0) rfl ?_);show wpAny _ _ (seqItems? (.ref l) >>= _) _ _ s;refine wpAny_bind (wpAny_seqItems u' va ?_);simp only[Int.toNat_natCast,ax];refine wpAny_bind (wpAny_rule (wpAny_bind (wpAny_setField a3 hd (by simp) ?_)));have vb:Zx (s.heap.update it (Obj.mapFields (·.setIfInBounds 0 Value.none))) ea:=dD.field (by decide);have sz:(s.heap.update it (Obj.mapFields (·.setIfInBounds 0 Value.none))).objs.size=s.heap.objs.size:=by simp[Heap.update]
 have d5:Heap.ExtBut it s.heap (s.heap.update it (Obj.mapFields (·.setIfInBounds 0 Value.none))):=(Heap.SameBut.update ..).extBut;generalize s.heap.update it (Obj.mapFields (·.setIfInBounds 0 Value.none))=aB at*;show wpAny _ _ (newExc (.type "StopIteration") [] >>= _) _ _ _;refine wpAny_bind ?_;simp only[newExc,newTuple];refine wpAny_bind (wpAny_newObj_type ?_ (by size_fits));refine wpAny_bind (m:=firstArgMember _ _) (wpAny_of_eq (a:=Value.none) (by first|rfl|(simp only[firstArgMember];rfl)) ?_);refine wpAny_newObj_type ?_ (by size_fits);simp only[raiseNew];refine wpAny_bind (wpAny_handled ?_);rw[show A.in1.handled=some (.ref ea) from b8];dsimp only;generalize iX:aB.push {cls:= .type "tuple",dict:=none,data:= .seq ([]:List Value).toArray}=aC;have ne:(Value.ref ea != Value.ref aC.objs.size)=true:=by
  rw[←iX,Heap.size_push,sz];simp only[bne_iff_ne,ne_eq,Value.ref.injEq];exact Qm (Jb lt)
 rw[if_pos ne];have qW:Heap.ExtBut it s.heap aC:=by rw[←iX];exact d5.push _
 have nv:Zx aC ea:=by rw[←iX];exact vb.push
 refine wpAny_bind (wpAny_holding (u_ nv.push ?_));have bF:=Heap.get?_push_size aC (o:={cls:= .type "StopIteration",data:= .fields (#[Value.ref aB.objs.size,Value.none,Value.none,Value.none,Value.bool false,Value.none]++ownMembersOf (Value.type "StopIteration") [])}) rfl;refine wpAny_bind (show wpAny _ _ (setField (.ref aC.objs.size) 2 (.ref ea)) _ _ _ from wpAny_setField bF rfl (by simp;omega) (wpAny_throw ?_));refine wpAny_bind (wpAny_isInstance (T:="StopIteration") (b:=true) ⟨_,Heap.get?_update_self _ bF rfl,rfl⟩ isSubtype_stop ?_);refine wpAny_pure (df _ λb o ao e=>?_);rw[Heap.get?_update_other _ _ (Jj (Qm (Heap.lt_size (qW b o ao e))))];exact Heap.get?_push_of_some _ (qW b o ao e)
theorem vd{it l ea:Addr}(b8:A.handled=some (.ref ea))(fz:l≠it)(kr:ea≠it)(items:Array Value):
  PySem.Walks prog w A it [it,l,ea] [it] items.size (λi v=>items[i]? =some v) (λi h=>(h.IsListIter it l i∧h.IsList l items)∧Zx h ea) where
 sub:=λb ao=>by simp at ao;simp[ao]
 frame:=λ_ _ _ st aD=>⟨⟨st.1.1.at λo e=>aD it (by simp) o e,st.1.2.at λo e=>aD l (by simp) o e⟩,st.2.keeps λo e=>aD ea (by simp) o e⟩
 item:=λi s Q E hi st df=>by
  refine wpAny_pyNext_list_item st.1.1 st.1.2 (x:=items[i]) (by simp[hi]) λh' ve nU=>?_;exact df _ h' s.toks (by simp[hi]) ⟨⟨ve,st.1.2.extBut nU.extBut fz⟩,st.2.keeps λo e=>nU.extBut ea o kr e⟩ λb o ao e=>nU.extBut b o (λh=>ao (by simp[h])) e
 done:=λs Q E st df=>Zas b8 st.2 st.1.1 st.1.2 (by simp) λh' vf=>df h' s.toks λb o ao e=>vf b o (λh=>ao (by simp[h])) e
 self:=λ_ _ _ _ st df=>wpAny_pyIter_listiter st.1.1 df
theorem Zdq{l ea:Addr}{xs:Array (Int×Tok)}{Q:Value→Shared→Prop}(b8:A.handled=some (.ref ea))(dD:Zx s.heap ea)(ap:s.heap.IsList l (intItems xs))
  (h:∀h' cw t',(∀b o,s.heap.get? b=some o→h'.get? b=some o)→Q (.int (preSum (numAt xs) xs.size) t') {s with heap:=h',toks:=cw}):
  wpAny (model prog w) A (call (.builtin "sum") [.ref l]) Q E s:=by
 have lt:ea<s.heap.objs.size:=by obtain⟨_,_,e,_⟩:=dD;exact Heap.lt_size e
 refine call_sum_walkG (iter_intList ap λgd e st e1 vg=>?_);subst e;refine⟨_,_,_,_,_,_,numAt xs,rfl,vd (A:=A.in1) (l:=l) b8 vg (Qm lt) (intItems xs),⟨st,dD.push⟩,λb ao=>?_,(λ_ _=>intItems_at),λh' cw t' aD=>?_⟩
 ·rcases Qu.mp ao with e|ao
  ·exact e1 b (by simp[e])
  ·rcases Qu.mp ao with e|ao
   ·exact e1 b (by simp[e])
   ·rw[QF.mp ao];show ea<(s.heap.push _).objs.size;rw[Heap.size_push];exact Jb lt
 ·have:=h h' cw t' (old_kept aD);simpa[intItems] using this
end
section
variable {X:Cx}{ea:Addr}
noncomputable def nV (K:Frag) (a ea:Addr):It:=⟨(Itl K a).go,(Itl K a).yld,λi H=>(Itl K a).stop i H∧∃C,H ea=some (dQ ea C)⟩
theorem vh{P:Program}{w:World}{K:Frag}{bY:Expr}(a it:Addr):ZaW (λX=>X.A.handled=some (.ref ea)) P w K bY (nV K a ea) [it] it (λi h=>h.IsListIter it a i) where
 obj:=λi h st b ao=>by
  have e:b=it:=by simpa using ao
  subst e;obtain⟨o,e,c,d⟩:=st;exact⟨o,e,λv z=>by rw[d] at z;cases z⟩
 keep:=λi h h' st k=>st.at λo e=>k it (by simp) o e
 item:=by
  intro X hP hw hK aw i am s σ H E I a' st bL;subst hP hw hK;obtain⟨xs,x,bC,ax⟩:=bL;obtain⟨its,b6,p,bw⟩:=I.list bC;obtain⟨u,hu,d4⟩:=b6.get ax;obtain⟨cS,f1,f2,cy,c0,c_⟩:=a' it (by simp);refine wpAny_pyNext_list_item st p.isList (x:=u) (by simpa using hu) λh' fv hh=>?_;have a6:Inv X am σ H {s with heap:=h'}:=I.turned (t':=s.toks) (λb o ao e=>(hh.2 b ao).trans e) cS f1 cy c0 c_;obtain⟨o,e,c,d⟩:=id fv;exact⟨u,rfl,j4 (s:={s with heap:=h'}) e c d (by decide) ⟨x,H,a6,d4,⟨rfl,λys bX=>by rw[I.list_inj bX bC];exact ax⟩,fv,λb ao=>(a' b ao).1⟩⟩
 done:=by
  intro X hP hw hK aw i am s σ H E I a' st bL;subst hP hw hK;obtain⟨⟨xs,bC,ax⟩,C,eC⟩:=bL;obtain⟨its,b6,p,bw⟩:=I.list bC;obtain⟨cS,f1,f2,cy,c0,c_⟩:=a' it (by simp);obtain⟨⟨_,dD⟩,_,_⟩:=(show ZI X.prog X.w H s.heap ea (dQ ea C) from I.hok ea _ eC);have ap:=b6.length;exact Zas aw dD st p.isList (by simp;omega) λh' d5=>⟨rfl,I.turned (t':=s.toks) (λb o ao e=>d5 b o ao e) cS f1 cy c0 c_⟩
 self:=λ_ _ _ _ _ st h=>wpAny_pyIter_listiter st h
def PIH(X:Cx)(ea:Addr)(bY cW:Expr)(cT:TI):Prop:=
 ∀(am:List (Addr×Obj))(s:Shared)(σ:St)(H:Hp)(R:It→Hp→Prop),Inv X am σ H s→cT σ H R→
  wpAny (model X.prog X.w) X.A (eval cW X.env) (λv aI=>wpAny (model X.prog X.w) X.A (pyIter v) (λhV bt=>∃(it:Addr)(fp:List Addr)(cz:Nat→Heap→Prop)(J:It)(H':Hp),hV= .ref it∧Inv X am σ H' bt∧ZaW (λX=>X.A.handled=some (.ref ea)) X.prog X.w X.K bY J fp it cz∧cz 0 bt.heap∧(∀b∈fp,ek X am H' b)∧R J H') X.xe aI) X.xe s
noncomputable def qX (K:Frag) (ea:Addr) (cX:TE):TI:=λσ H R=>cX σ H λx aq=>∃a,x= .ref a∧(∃xs,SqL K aq a xs)∧R (nV K a ea) aq
theorem vi{K:Frag}{bY l:Expr}{cX:TE}(eB:X.K=K)(ap:PE X l cX):PIH X ea bY l (qX K ea cX):=by
 subst eB;intro am s σ H R I h;refine thn (ap am s σ H _ I h) λv aI ⟨x,aq,a6,bP,bZ⟩=>?_;obtain⟨a,e,⟨xs,bC⟩,q⟩:=bZ;subst e;cases bP;obtain⟨its,b6,p,bw⟩:=a6.list bC;refine wpAny_pyIter_list p.isList ?_;refine⟨aI.heap.objs.size,[aI.heap.objs.size],_,_,aq,rfl,a6.kept (t':=aI.toks) λb o e=>Heap.get?_push_of_some _ e,vh a _,⟨_,Heap.get?_push_size _ rfl,rfl,rfl⟩,λb ao=>?_,q⟩;have e:b=aI.heap.objs.size:=by simpa using ao
 subst e;exact a6.fpOk (Qb _) (a6.hok.fresh (Qb _))
theorem vj{dL bY cW:Expr}{ifs:List Expr}{bn:Scope}{pos:Pos}{x:Str}{zs:List Str}{ix:List Nat}{cT:TI}{g:TG}{cq:TT}{bK:TE}
  (aw:X.A.handled=some (.ref ea)) (S:Yj X bn x zs ix) (hi:PIH X ea bY cW cT)
  (fL:∀cl C s H fp,PG (Zl X bn cl C (x::zs) s H fp) bY g∧PIf (Zl X bn cl C (x::zs) s H fp) ifs cq∧PE (Zl X bn cl C (x::zs) s H fp) dL bK)
  (a4:∀x,foldedSetIterable cW X.env x=pure x:=by intro _;rfl):
  PE X (.ListComp dL [⟨bY,cW,ifs,0⟩] bn pos) (ls ix cT g cq bK):=by
 intro am s σ H Q I h;obtain⟨cl,iQ,dr,eQ⟩:=Wf I.ok S;rw[eval_ListComp];refine wpAny_comprehension_free (use:=none) rfl a4 iQ S.kind S.names (thn (hi am s σ H _ I h) λv aI aB=>thn aB λhV bt aC=>?_);obtain⟨it,fp,cz,J,ar,e,ce,T,hj,f2,bC⟩:=aC;subst e;refine UE (RR:=λcr C=>compPost (model X.prog X.w) X.A X.xe none (EP X am σ Q) cr C) (λ_ _ _ _=>aw) S ce dr eQ T hj f2 (λC s H=>fL cl C s H fp) bC λcr C f s' h=>?_;obtain⟨p,H',m,rfl,bq,cZ,⟨f3,g1,g2,g3,h6,iR⟩,q⟩:=h;exact⟨m,bq,λh' ao=>⟨.ref p,H',cZ.turned (t':=s'.toks) (λb o fz e=>(ao.2 b fz).trans e) f3 g1 g3 h6 iR,rfl,q⟩⟩
theorem vk{K:Frag}{a C:Addr}{xs:List V}{H:Hp}(h:SqL K H a xs)(eC:H ea=some (dQ ea C)):Walks (nV K a ea) xs.length (λi=>xs.getD i .non) H:=
 let W:=fN h;⟨W.go,W.yld,λH' e=>⟨W.stop H' e,C,e _ _ eC⟩⟩
noncomputable def qY (K:Frag) (ea:Addr):List V→Hp→VK→Prop:=λxs H Q=>∃(p:Addr)(ns:List Int)(C:Addr),xs=[.ref p]∧SqL K H p (ns.map V.int)∧H ea=some (dQ ea C)∧Q (.int ns.sum) H
theorem vl{K:Frag}(eB:X.K=K)(b8:X.A.handled=some (.ref ea)):Z0 X (.builtin "sum") (qY K ea):=by
 subst eB;intro am s σ H xs us Q I r h;obtain⟨p,ns,C,rfl,bC,eC,q⟩:=h;obtain⟨u,rfl,bx⟩:=Wg r;cases bx;obtain⟨its,b6,pl,bw⟩:=I.list bC;obtain⟨⟨_,dD⟩,_,_⟩:=(show ZI X.prog X.w H s.heap ea (dQ ea C) from I.hok ea _ eC);have hi:=UV b6;obtain⟨xs,ax⟩:=hi.allInts.items;have eI:s.heap.IsList p (intItems xs):=ax▸pl.isList;refine Zdq b8 dD eI λh' cw t' aD=>?_;have bu:ns=xs.toList.map (·.1):=by
  rw[←nums_intItems,←ax];exact(show numsOf its.toArray.toList=ns from hi.numsOf).symm
 have bJ:preSum (numAt xs) xs.size=ns.sum:=by
  rw[preSum_eq,QY (by simp),bu]
 rw[bJ];exact⟨.int ns.sum,H,I.kept aD,⟨_,rfl⟩,q⟩
end
structure iY(k:Nat)(A:Around)(ea:Addr):Prop where
 hd:A.handled=some (.ref ea)
 dp:A.depth+3*k+5<recursionLimit
 un:A.units+16*k+200<cLine
theorem cU.held{k:Nat}{A:Around}(r:cU k A)(ea:Addr):iY k (A.mark (some (.ref ea))) ea:=⟨rfl,r.dp,r.un⟩
theorem iY.hu{k:Nat}{A:Around}{ea:Addr}(r:iY k A ea):HU A:=by have:=r.un;exact(show A.units+64<cLine by omega)
structure Zct(P:Program)(w:World)(K:Frag)(mg:Str→Option Value)(base:Heap)(CX:CXT)(k:Nat)(f:Addr)(fd:FuncData)(a_:List Str)(sp:Addr→Sp):Prop where
 len:∀ea vs H Q E,sp ea vs H Q E→vs.length=a_.length
 run:∀(ea:Addr)(A:Around)(outer:List Env)(s:Shared)(H:Hp)(args:Args)(us:List Value)(vs:List V)(Q:VK)(E:XK),iY k A ea→WZ P w K mg base A outer s H→BindsTo s fd args (a_.zip us)→bS vs us→sp ea vs H Q E→
  codeAny (model P w) A (.call (.ref f) args) (CR CX outer P w H s Q E) s
noncomputable abbrev cxH (P:Program) (w:World) (K:Frag) (mg:Str→Option Value) (base:Heap) (N:List Str) (qual:Str) (scope:Scope) (f:Addr) (b7:Value) (A:Around) (outer:List Env) (s₀:Shared) (H₀:Hp) (E:XK):Cx:=
 {cxX P w K mg base N qual scope f b7 A outer s₀ H₀ E with calm:=false}
section
variable {P:Program}{w:World}{K:Frag}{mg:Str→Option Value}{base:Heap}{N a_:List Str}{qual:Str}{scope:Scope}{f:Addr}{b7:Value}{A:Around}{outer:List Env}{s aI:Shared}{H:Hp}{E:XK}{us:List Value}{vs:List V}
theorem Zcx(S:Zt N a_ scope)(c1:WZ P w K mg base A outer s H)(ap:vs.length=a_.length)(r:bS vs us)
  (x:InCallC s s.heap.objs.size (bindL (envOfC qual scope s.heap.objs.size f b7).kindOf (a_.zip us) λ_=>none) (cellsFrom (s.heap.objs.size+1) scope.names []) (bindC (envOfC qual scope s.heap.objs.size f b7).kindOf (a_.zip us) λ_=>none) aI):
  Inv (cxH P w K mg base N qual scope f b7 A outer s H E) [] (start N vs) H aI:=by
 have bu:WZ P w K mg base {A with handled:=none} outer s H:=⟨c1.frames,c1.mod,c1.bs,c1.bsz,c1.funs,c1.frf,c1.hok,c1.bare⟩;have J:Inv (cxX P w K mg base N qual scope f b7 {A with handled:=none} outer s H E) [] (start N vs) H aI:=Zar S rfl bu ap r x;have o:=J.ok;exact⟨⟨o.mod,o.kind,o.glob,o.blt,o.above,o.inj,o.has,o.cab,λz=>absurd (show false=true from z) Qd,Around.frames_deeper c1.frames,o.stk,o.exf,o.bs,o.bsz,o.noex,o.exfs,o.funs,o.frf⟩,J.os,J.bare,J.base,J.loc,J.cell,J.free,J.freeC,J.pin,J.hok,J.len⟩
theorem Fun.okH{x:Str}{st:Stmt}{fd:FuncData}{k:Nat}{sp:Addr→Sp}(F:Fun K x qual st f fd)(S:Zt N a_ (b4 st))(len:∀ea vs H Q E,sp ea vs H Q E→vs.length=a_.length)
  (iI:∀(ea:Addr)(bU:Value)(A:Around)(outer:List Env)(s:Shared)(H:Hp)(vs:List V)(Q:VK)(E:XK),iY k (A.deeper (envOfC qual (b4 st) s.heap.objs.size f bU)) ea→sp ea vs H Q E→
   ∃t,PSs (cxH P w K mg base N qual (b4 st) f bU A outer s H E) (fy st) t∧t {nx:=λ_ H'=>Q .non H',rt:=Q} (start N vs) H):Zct P w K mg base (CXX P w) (k+1) f fd a_ sp:=by
 obtain⟨dy,cG,kV,dw,c',an,bU,ct,en,rfl,lk,e_⟩:=F.ex;refine⟨len,λea A outer s H args us vs Q E aH c1 ao r fb=>?_⟩;have ap:=len _ _ _ _ _ fb;have di:K.In s.heap:=c1.mod.kin.keeps λb o e=>(c1.bs b o e).1;have mO:s.heap.NoLimit:=c1.mod.nolimit.keeps λb o e=>(c1.bs b o e).1;have hn:∀y∈a_.zip us,(b4 st).names.lookup y.1=some .local∨((b4 st).names.lookup y.1=some .cell∧((cellsFrom (s.heap.objs.size+1) (b4 st).names []).lookup y.1).isSome=true):=λ⟨n,v⟩ bX=>by
  rcases S.par n (Jn bX).1 with q|q
  ·exact .inl q
  ·exact .inr ⟨q,cellsFrom_some _ _ _ (.inl q)⟩
 refine codeAny_call_function (by have:=aH.dp;omega) (di _ _ lk) rfl S.co S.gen rfl (codeRec_of di e_) (ao _ _ _ _ ?_);refine wpAny_newFunctionEnv_cells S.kind hn λenv bF aI x=>?_;subst bF;refine⟨mO.keeps x.toInCall.keep,codeAny_func ?_⟩;have ib:iY k (A.deeper (envOfC qual (b4 st) s.heap.objs.size f bU)) ea:=⟨aH.hd,by have:=aH.dp;show A.depth+1+3*k+5<_;omega,by have:=aH.un;show A.units+3+16*k+200<_;omega⟩;obtain⟨t,bM,bC⟩:=iI ea bU A outer s H vs Q E ib fb;have I:Inv (cxH P w K mg base N qual (b4 st) f bU A outer s H E) [] (start N vs) H aI:=Zcx S c1 ap r x;refine wpAny_mono (bM [] aI (start N vs) H _ I bC) (λcO s' a4=>?_) λe s' a4=>a4;have ds:∀{aV:St}{H':Hp}{v:V}{u:Value},Inv (cxH P w K mg base N qual (b4 st) f bU A outer s H E) [] aV H' s'→b5 v u→Q v H'→CE outer P w H s Q u s':=
  λ{aV H' v u} J b6 q=>⟨v,H',J.os,J.bare,J.base,J.hok,b6,q⟩
 cases cO with
 |ret u=>
  obtain⟨v,aV,H',J,b6,q⟩:=a4;exact ds J b6 q
 |next=>
  obtain⟨aV,H',J,q⟩:=a4;exact ds (v:=V.non) (u:=Value.none) J rfl q
 |brk=>
  obtain⟨_,_,_,q⟩:=a4;exact False.elim q
 |cont=>
  obtain⟨_,_,_,q⟩:=a4;exact False.elim q
end
abbrev OkH{K:Frag}{mg:Str→Option Value}{nm q:Str}{st:Stmt}{a_:List Str}(P:Program)(w:World)(base:Heap)(k:Nat)(D:Dn K mg nm q st a_)(sp:Addr→Sp):Prop:=Zct P w K mg base (CXX P w) k D.f D.d a_ sp
section
variable {X:Cx}{CX:CXT}{j k:Nat}{a_:List Str}{sp:Addr→Sp}{E:XK}{x q:Str}{st:Stmt}{p pos:Pos}{e:Expr}{bp:List Expr}{t:TA}{ea:Addr}
theorem qZ(D:Dn X.K X.mg x q st a_)(F:Zct X.prog X.w X.K X.mg X.base CX j D.f D.d a_ sp)(aH:iY k X.A ea)(ax:YD CX X E)(a2:PA X (e::bp) t)(bW:Nat.ble j k=true:=by rfl)(bL:Gl X x:=by rfl)
  (dW:(x==("__debug__" :Str))=false:=by decide) (bF:starEach (e::bp) X.env=(false,eval e X.env)::starEach bp X.env:=by rfl) (em:(backTo pos (starEach bp X.env)).any (·.1)=false:=by rfl):
  PE X (.Call (.Name x p) (e::bp) [] pos) (lg (sp ea) [] E t):=by
 intro am s σ H Q I h;refine wpAny_Call_Name_kw (iB I bL D.m ?_ dW);refine callWith_K (h₀:=X.base) I.ok.mod.kin D.F.kp (thn (a2 pos am s σ H _ I h) λus aI ⟨vs,aq,a6,r,q⟩=>⟨a6.kIn,?_⟩) bF em;dsimp only at q;rw[QZ] at q;have ap:us.length=a_.length:=by rw[←r.length];exact F.len _ _ _ _ _ q
 have ao:=D.b aI us a6.kIn (by rw[QZ];exact ap);rw[QZ] at ao;have Bw:j≤k:=QD bW;refine wpAny_call (codeAny_mono (F.run ea X.A X.stack aI aq ⟨us,[]⟩ us vs Q E ⟨aH.hd,by have:=aH.dp;omega,by have:=aH.un;omega⟩ a6.env0 ao r q) λr s' bC=>?_);cases r with
 |error e=>exact ax am σ aq aI e s' a6 bC
 |ok cO=>
  cases cO with
  |ret u=>exact a6.after bC
  |next=>exact False.elim bC
  |brk=>exact False.elim bC
  |cont=>exact False.elim bC
end
theorem Rd.kinds{K:Frag}{ea a C:Addr}{σ:St}{H:Hp}{bs:List Bool}{j:Nat}{ix:List Nat}{bK:TE}{R:VK}(kc:σ[j]? =some (some (.ref a)))(h:H a=some (.lst (bs.map V.bl)))(eC:H ea=some (dQ ea C))(bw:bs.length<sizeLine)
  (bF:∀(b:Bool)(H':Hp)(cM:VK),cM (.int (if b then 1 else 0)) H'→bK (some (.bl b)::ix.map λj=>(σ[j]?).join) H' cM)
  (q:∀H',Zd H H'→R (.int ((bs.map λb=>if b then(1:Int) else 0).sum)) H'):ls ix (qX K ea (ZbC j)) (WS 0) tAll bK σ H λx H'=>tNil σ H' λxs ar=>qY K ea (x::xs) ar R:=by
 refine⟨.ref a,kc,a,rfl,⟨_,.of h⟩,?_⟩;refine VP (ix:=ix) (σ:=σ) (vk (.of h) eC) (by rw[Qa];exact bw) (λ_=>true) (λi=> .int (if bs.getD i false then 1 else 0)) (λi H' cM hi bD k=>k H' (Zd.refl H')) (λi H' cM hi _ bD k=>?_) (λd ar hd bD jd=>?_)
 ·have e3:i<bs.length:=by rw[Qa] at hi;exact hi
  have eP:(bs.map V.bl).getD i .non= .bl (bs.getD i false):=by simp[List.getD,e3]
  rw[eP];exact bF _ H' cM (k H' (Zd.refl H'))
 ·have lJ:((List.range (bs.map V.bl).length).filter λ_=>true).map (λi=>V.int (if bs.getD i false then 1 else 0))=(bs.map λb=>if b then(1:Int) else 0).map V.int:=by
   rw[Qx.mpr λ_ _=>rfl];refine Jh (by simp) λi aB aC=>?_;have b_:i<bs.length:=by simpa using aC
   simp[List.getD,b_]
  rw[lJ] at jd;exact⟨d,_,C,rfl,.of jd,bD _ _ eC,q ar bD⟩
section
variable {X:Cx}{CX:CXT}{j k:Nat}{C:Addr}{a_:List Str}{sp:Sp}{E:XK}{x q:Str}{st:Stmt}{p pos:Pos}{e:Expr}{bp:List Expr}{t:TA}{J:St→Prop}
end
section
variable {X:Cx}{K:Frag}
end
namespace Rd
section
variable {σ:St}{H:Hp}{Q:VK}{K:Frag}
end
end Rd
noncomputable def c7 (H:Hp):List V→List (List Int)→Prop:=Paired λv xs=>∃t,v= .ref t∧H t=some (.lst (xs.map V.int))
theorem c7.same{H H':Hp}{ys:List V}{xss:List (List Int)}(h:c7 H ys xss)(e:Zd H H'):c7 H' ys xss:=Paired.mapP h λ_ _ ⟨t,a,b⟩=>⟨t,a,e _ _ b⟩
theorem c7.length{H:Hp}{ys:List V}{xss:List (List Int)}(h:c7 H ys xss):ys.length=xss.length:=Paired.length h
theorem c7.at{H:Hp}:∀{ys:List V}{xss:List (List Int)}{i:Nat}{xs:List Int},c7 H ys xss→xss[i]? =some xs→∃t,ys[i]? =some (.ref t)∧H t=some (.lst (xs.map V.int))
 |_,_,_,_,.nil,e=>by simp at e
 |_,_,0,_,.cons ⟨t,bu,h⟩ _,e=>by simp at e;subst e;exact⟨t,by simp[bu],h⟩
 |_,_,i+1,b,.cons _ r,e=>by
  obtain⟨t,aB,aC⟩:=c7.at (i:=i) (xs:=b) r (by simpa using e);exact⟨t,by simpa using aB,aC⟩
theorem c7.snoc{H:Hp}:∀{ys:List V}{xss:List (List Int)}{t:Addr}{xs:List Int},c7 H ys xss→H t=some (.lst (xs.map V.int))→c7 H (ys++ [.ref t]) (xss++ [xs])
 |_,_,_,_,.nil,h=> .cons ⟨_,rfl,h⟩ .nil
 |_,_,_,_,.cons x r,h=> .cons x (c7.snoc r h)
theorem q0{H H':Hp}{p:Addr}(e:Zd H H'):Zd (hid H p) (hid H' p):=λb o z=>by
 by_cases h:b=p
 ·rw[h,ia] at z;cases z
 ·rw[Wh h] at z⊢;exact e b o z
theorem Ze0{H:Hp}{p:Addr}{o:HO}:Zd (hid H p) (hid (upd H p o) p):=λb u z=>by
 by_cases h:b=p
 ·rw[h,ia] at z;cases z
 ·rw[Wh h] at z⊢;rw[bV h];exact z
theorem Us(ns gA:List Int):PyData.eqv (.list (ns.map PyData.int)) (.list (gA.map PyData.int))=decide (ns=gA):=by
 have h:∀ns gA:List Int,PyData.eqvAll (ns.map PyData.int) (gA.map PyData.int)=decide (ns=gA):=by
  intro ns
  induction ns with
  |nil=>intro gA;cases gA<;>simp[PyData.eqvAll]
  |cons n ns b0=>
   intro gA;cases gA with
   |nil=>simp[PyData.eqvAll]
   |cons m gA=>
    simp only[List.map_cons,PyData.eqvAll,PyData.eqv,b0]
    by_cases e:n=m
    ·subst e;simp
    ·simp[e]
 simp only[PyData.eqv];exact h ns gA
noncomputable def Itz (K:Frag) (a b:Addr):It:=
 ⟨λi H=>∃xs x ys y,SqL K H a xs∧xs[i]? =some x∧SqL K H b ys∧ys[i]? =some y,λi H v H'=>∃t x y,H t=none∧v= .ref t∧H'=upd H t (.tup [x,y])∧(∀xs,SqL K H a xs→xs[i]? =some x)∧∀ys,SqL K H b ys→ys[i]? =some y,λi H=>∃xs ys,SqL K H a xs∧SqL K H b ys∧(xs.length≤i∨ys.length≤i)⟩
theorem ic{h:Heap}{l b:Addr}{xs:Array Value}{o:Obj}(ap:h.IsList l xs)(a3:h.get? b=some o)(aw:o.cls≠ .type "list"):l≠b:=λz=>by
 subst z;obtain⟨b2,aB,aC,_⟩:=ap;rw[a3] at aB;cases aB;exact aw aC
structure Zcn(h:Heap)(z TI TO dv dN a b:Addr)(i:Nat):Prop where
 zip:IsZip h z TI TO .none
 ti:IsPair h TI (.ref dv) (.ref dN)
 to:∃x y,IsPair h TO x y
 l1:h.IsListIter dv a i
 l2:h.IsListIter dN b i
structure Zbw(z TI TO dv dN:Addr):Prop where
 TIz:TI≠z
 TOz:TO≠z
 i1z:dv≠z
 i2z:dN≠z
 TITO:TI≠TO
 TIi1:TI≠dv
 TIi2:TI≠dN
 TOi1:TO≠dv
 TOi2:TO≠dN
 i12:dv≠dN
theorem vm(n:Nat):Zbw (n+4) (n+2) (n+3) n (n+1):=⟨show n+2≠n+4 by omega,show n+3≠n+4 by omega,show n≠n+4 by omega,show n+1≠n+4 by omega,show n+2≠n+3 by omega,show n+2≠n by omega,show n+2≠n+1 by omega,show n+3≠n by omega,show n+3≠n+1 by omega,show n≠n+1 by omega⟩
theorem Zcn.apart{h:Heap}{z TI TO dv dN a b:Addr}{i:Nat}{xs ys:Array Value}(D:Zbw z TI TO dv dN)(st:Zcn h z TI TO dv dN a b i)(a2:h.IsList a xs)(ao:h.IsList b ys):ZipApart z TI TO dv dN a b:=by
 obtain⟨x,y,fQ⟩:=st.to;obtain⟨ks,eX,iT,_⟩:=st.l1;obtain⟨kt,ev,f4,_⟩:=st.l2;have ie:ks.cls≠ .type "list" :=by rw[iT];decide
 have fJ:kt.cls≠ .type "list" :=by rw[f4];decide
 exact⟨D.TIz,D.TOz,D.i1z,D.i2z,D.TITO,D.TIi1,D.TIi2,D.TOi1,D.TOi2,D.i12,ic a2 st.zip (show Value.type "zip" ≠Value.type "list" by decide),ic a2 fQ (show Value.type "tuple" ≠Value.type "list" by decide),ic a2 eX ie,ic a2 ev fJ,ic ao st.zip (show Value.type "zip" ≠Value.type "list" by decide),ic ao fQ (show Value.type "tuple" ≠Value.type "list" by decide),ic ao eX ie,ic ao ev fJ⟩
theorem vn{P:Program}{w:World}{K:Frag}{nW:List Expr}{k1:Nat}{pos:Pos}(a b z TI TO dv dN:Addr)(D:Zbw z TI TO dv dN):Vg P w K (.Tuple nW k1 pos) (Itz K a b) [z,TI,TO,dv,dN] z (λi h=>Zcn h z TI TO dv dN a b i) where
 mem:=by simp
 obj:=λi h st c aw=>by
  obtain⟨x,y,fQ⟩:=st.to;obtain⟨ks,eX,_,he⟩:=st.l1;obtain⟨kt,ev,_,gB⟩:=st.l2;simp only[Qu,Q6,or_false] at aw;rcases aw with rfl|rfl|rfl|rfl|rfl
  ·exact⟨_,st.zip,λv q=>by cases (show Data.fields _=Data.cell v from q)⟩
  ·exact⟨_,st.ti,λv q=>by cases (show Data.seq _ _=Data.cell v from q)⟩
  ·exact⟨_,fQ,λv q=>by cases (show Data.seq _ _=Data.cell v from q)⟩
  ·exact⟨ks,eX,λv q=>by rw[he] at q;cases q⟩
  ·exact⟨kt,ev,λv q=>by rw[gB] at q;cases q⟩
 keep:=λi h h' st k=>by
  obtain⟨x,y,fQ⟩:=st.to;exact⟨k z (by simp) _ st.zip,k TI (by simp) _ st.ti,⟨x,y,k TO (by simp) _ fQ⟩,st.l1.at λo q=>k dv (by simp) o q,st.l2.at λo q=>k dN (by simp) o q⟩
 item:=by
  intro X hP hw hK aw i am s σ H E I a' st bL;subst hP hw hK;obtain⟨xs,x,ys,y,iZ,ax,i1,bX⟩:=bL;obtain⟨q1,lK,eX,q2⟩:=I.list iZ;obtain⟨fY,jx,ev,ku⟩:=I.list i1;obtain⟨e6,dk,nX⟩:=lK.get ax;obtain⟨ep,kv,nY⟩:=jx.get bX;obtain⟨a0,dZ,fQ⟩:=st.to;refine wpAny_pyNext_zip_item (st.apart D eX.isList ev.isList) st.zip st.ti fQ st.l1 st.l2 eX.isList ev.isList (x:=e6) (y:=ep) (by simpa using dk) (by simpa using kv) λh' kx vo gY ez dX hsz aD=>?_;have eg:=I.hok.fresh (Qb s.heap.objs.size);have lt:∀{c:Addr}{o:Obj},s.heap.get? c=some o→c<s.heap.objs.size:=λe=>Heap.lt_size e;have q3:=lt st.zip;have vp:dv<s.heap.objs.size:=by obtain⟨_,q,_⟩:=st.l1;exact lt q
  have vq:dN<s.heap.objs.size:=by obtain⟨_,q,_⟩:=st.l2;exact lt q
  refine⟨_,rfl,wpAny_letOwnedTupleGo_zip kx λaC vr eW=>?_⟩;have lL:IsPair aC s.heap.objs.size e6 ep:=eW.extBut _ _ (Nat.ne_of_gt q3) dX;have a6:Inv X am σ (upd H s.heap.objs.size (.tup [x,y])) {s with heap:=aC}:=
   I.turnedNew (t':=s.toks) (fp:=[z,TI,TO,dv,dN]) (λc o aw q=>by
    have ie:c≠z:=λe=>aw (by simp[e]);have fJ:c≠TO:=λe=>aw (by simp[e]);have j2:c≠dv:=λe=>aw (by simp[e]);have ky:c≠dN:=λe=>aw (by simp[e]);exact eW.extBut c o ie (aD c o ie fJ j2 ky q)) a' (Qb _) ⟨by show 2≤sizeLine;decide,[e6,ep],.cons nX (.cons nY .nil),_,lL,rfl,_,rfl⟩
  refine⟨.ref s.heap.objs.size,_,a6,rfl,⟨_,x,y,eg,rfl,rfl,λzs bw=>by rw[I.list_inj bw iZ];exact ax,λzs bw=>by rw[I.list_inj bw i1];exact bX⟩,⟨vr,eW.extBut _ _ D.TIz (aD _ _ D.TIz D.TITO D.TIi1 D.TIi2 st.ti),⟨_,_,eW.extBut _ _ D.TOz vo⟩,gY.at λo q=>eW.extBut _ _ D.i1z q,ez.at λo q=>eW.extBut _ _ D.i2z q⟩,λc aw=>?_⟩;have vt:c≠s.heap.objs.size:=by
   simp only[Qu,Q6,or_false] at aw;rcases aw with rfl|rfl|rfl|rfl|rfl
   ·exact Qm q3
   ·exact Qm (lt st.ti)
   ·exact Qm (lt fQ)
   ·exact Qm vp
   ·exact Qm vq
  rw[bV vt];exact(a' c aw).1
 done:=by
  intro X hP hw hK aw i am s σ H E I a' st bL;subst hP hw hK;obtain⟨xs,ys,iZ,i1,ax⟩:=bL;obtain⟨q1,lK,eX,q2⟩:=I.list iZ;obtain⟨fY,jx,ev,ku⟩:=I.list i1;obtain⟨a0,dZ,fQ⟩:=st.to;have bu:=lK.length;have bJ:=jx.length;exact wpAny_pyNext_zip_end (I.ok.hd aw) (st.apart D eX.isList ev.isList) st.zip st.ti fQ st.l1 st.l2 eX.isList ev.isList (by rcases ax with q|q;exact .inl (by simp;omega);exact .inr (by simp;omega)) λh' d5=>⟨rfl,I.turnedL (t':=s.toks) (fp:=[z,TI,TO,dv,dN]) (λc o aw q=>d5 c o (λe=>aw (by simp[e])) (λe=>aw (by simp[e])) (λe=>aw (by simp[e])) (λe=>aw (by simp[e])) q) a'⟩
 self:=λ_ _ _ _ _ st h=>wpAny_pyIter_zip st.zip h
section
variable {X:Cx}
noncomputable def q4 (K:Frag) (bA:TA):TI:=λσ H R=>bA σ H λvs aq=>∃a b,vs=[.ref a,.ref b]∧(∃xs,SqL K aq a xs)∧(∃ys,SqL K aq b ys)∧R (Itz K a b) aq
theorem lM{K:Frag}{a b:Expr}{bA:TA}{p pos mK:Pos}{nW:List Expr}{k1:Nat}(eB:X.K=K)(bL:Gl X "zip")(bq:X.mg "zip" =none)(a2:PA X [a,b] bA)(a4:starEach [a,b] X.env=(false,eval a X.env)::starEach [b] X.env:=by rfl)(em:(backTo pos (starEach [b] X.env)).any (·.1)=false:=by rfl):
  PI X (.Tuple nW k1 mK) (.Call (.Name "zip" p) [a,b] [] pos) (q4 K bA):=by
 subst eB;intro am s σ H R I h;refine Call_ (jX I bL bq boot_zip (Q2 (thn (a2 pos am s σ H _ I h) λus aI ⟨vs,aq,a6,bP,bZ⟩=>?_) a4 em));obtain⟨hC,kz,rfl,⟨xs,iZ⟩,⟨ys,i1⟩,q⟩:=bZ;obtain⟨e6,ep,rfl,nX,nY⟩:=ZgR bP;cases nX;cases nY;obtain⟨q1,lK,eX,q2⟩:=a6.list iZ;obtain⟨fY,jx,ev,ku⟩:=a6.list i1;refine call_zip_2 eX.isList ev.isList λh' bw vu vw aB aC hsz aD=>?_;refine wpAny_pyIter_zip bw ?_;have ce:Inv X am σ aq {aI with heap:=h'}:=a6.kept (t':=aI.toks) aD;have ei:∀k:Nat,aI.heap.objs.size≤aI.heap.objs.size+k:=λk=>Nat.le_add_right _ _;refine⟨aI.heap.objs.size+4,[aI.heap.objs.size+4,aI.heap.objs.size+2,aI.heap.objs.size+3,aI.heap.objs.size,aI.heap.objs.size+1],_,_,aq,rfl,ce,vn hC kz _ _ _ _ _ (vm _),⟨bw,vu,⟨_,_,vw⟩,aB,aC⟩,λc aw=>?_,q⟩;simp only[Qu,Q6,or_false] at aw;rcases aw with rfl|rfl|rfl|rfl|rfl
 ·exact a6.fpOk (ei 4) (a6.hok.fresh (ei 4))
 ·exact a6.fpOk (ei 2) (a6.hok.fresh (ei 2))
 ·exact a6.fpOk (ei 3) (a6.hok.fresh (ei 3))
 ·exact a6.fpOk (Qb _) (a6.hok.fresh (Qb _))
 ·exact a6.fpOk (ei 1) (a6.hok.fresh (ei 1))
end
theorem lN{K:Frag}{a b:Addr}{xs ys:List V}{H:Hp}(aB:SqL K H a xs)(aC:SqL K H b ys)(ap:xs.length=ys.length):Uw (Itz K a b) xs.length (λi H' v ar=>∃t,H' t=none∧v= .ref t∧ar=upd H' t (.tup [xs.getD i .non,ys.getD i .non])) H:=
 ⟨λH' i e hi=>⟨xs,xs[i],ys,ys[i],e.seq aB,by simp[hi],e.seq aC,by simp⟩,λH' i x ar e hi ⟨t,z,eF,bM,b9,hu,bw,kx⟩=>⟨t,bM,b9,by
  have bu:=bw xs (e.seq aB);have bJ:=kx ys (e.seq aC);rw[hu];simp[List.getD,bu,bJ]⟩,λH' e=>⟨xs,ys,e.seq aB,e.seq aC,.inl (Qb _)⟩⟩
namespace Rd
section
variable {K:Frag}{σ:St}{H:Hp}
theorem Zhx{ck:TA}{R:It→Hp→Prop}(h:ck σ H λvs aq=>∃a b,vs=[.ref a,.ref b]∧(∃xs,SqL K aq a xs)∧(∃ys,SqL K aq b ys)∧R (Itz K a b) aq):q4 K ck σ H R:=h
end
end Rd
section
variable {X:Cx}{K:Frag}
noncomputable def nZ (K:Frag):List V→Hp→VK→Prop:=λxs H Q=>∃a p ys,xs=[.ref a,.ref p]∧SqL K H a ys∧H p=some (.tup [.ty "list",.ty "tuple"])∧Q (.bl true) H
theorem vx:Z0 X (.builtin "isinstance") (nZ X.K):=by
 intro am s σ H xs us Q I r h;obtain⟨a,p,ys,rfl,bC,bo,q⟩:=h;obtain⟨u,v,rfl,d4,b6⟩:=r.two;cases d4;cases b6;obtain⟨its,Bx,pl,bw⟩:=I.list bC;obtain⟨ks,aB,iT,_⟩:=pl.isList;obtain⟨_,fY,jx,pt⟩:=(show ZI X.prog X.w H s.heap p (.tup [.ty "list",.ty "tuple"]) from I.hok p _ bo);obtain⟨kt,aC,f4,fJ,gB⟩:=pt;obtain⟨eD,es,rfl,bP,b3⟩:=jx.two;obtain rfl:eD=Value.type "list" :=bP;obtain rfl:es=Value.type "tuple" :=b3;obtain⟨cls,dd,By,sl⟩:=kt;dsimp only at f4 gB;subst f4 gB;exact PySem.W.kia_tup (its:=[Value.type "list",Value.type "tuple"]) kitx_list I.kIn ⟨ks,aB,iT⟩ aC (b:=true) (by rfl) (λz=>nomatch z) λcw=>⟨.bl true,H,I.tok cw,rfl,q⟩
theorem vy(e:X.K=K):Z0 X (.builtin "isinstance") (nZ K):=e▸vx
noncomputable def rIndexB:V→List V→Hp→VK→Prop:=λx vs H Q=>∃(l:Addr)(bs:List Bool)(j:Nat),x= .ref l∧vs=[.bl true]∧H l=some (.lst (bs.map V.bl))∧bs[j]? =some true∧(∀m<j,bs[m]? =some false)∧Q (.int j) H
theorem vz:MtM X "list.index" rIndexB:=by
 intro am s σ H x vs v us Q I bx b6 h;obtain⟨l,bs,j,rfl,rfl,fg,bW,gm,q⟩:=h;cases bx;obtain⟨u,rfl,d4⟩:=Wg b6;obtain rfl:u=Value.bool true:=d4;obtain⟨z,its,n,r,ap,e⟩:=I.lstM fg;have eP:=nF (s:=s) r;have qV:=(Qw.mp bW).1;have bw:its.toArray.size=bs.length:=by rw[eP];simp
 have at_:∀(m:Nat)(bq:m<its.toArray.size),its.toArray[m]=Value.bool (bs[m]'(by omega)):=λm bq=>by
  subst eP;simp
 have br:=iG;refine call_meets F.slot_list_index ⟨_,e,rfl⟩ F.entry_list_index (F.args_list_index_2 _ _) (PySem.SeqAt.list_indexAt l its.toArray n _ _ (.bool true) (λy=>y==Value.bool true) j (by omega) (by rw[Qa] at z;omega) ?_ ?_) ⟨e,λy bX=>?_,?_⟩
 ·rw[at_ j (by omega)];have:=(Qw.mp bW).2;rw[this]
  rfl
 ·intro m bq hmj;rw[at_ m bq];have:=(Qw.mp (gm m hmj)).2;rw[this]
  rfl
 ·subst eP;obtain⟨b,_,rfl⟩:=Jq.mp (List.mem_toArray.mp bX);have bF:(Value.bool b==Value.bool true)=(b==true):=by cases b<;>rfl
  rw[bF];exact PySem.SeqAt.EqAt.bool_bool b true
 ·exact⟨.int j,H,I.tok _,⟨_,rfl⟩,q⟩
end
namespace Rd
theorem ZdI{H:Hp}{Q:VK}{l:Addr}{bs:List Bool}{j:Nat}(h:H l=some (.lst (bs.map V.bl)))(bW:bs[j]? =some true)(br:∀m<j,bs[m]? =some false)(q:Q (.int j) H):rIndexB (.ref l) [.bl true] H Q:=⟨l,bs,j,rfl,rfl,h,bW,br,q⟩
theorem ZhH{K:Frag}{H:Hp}{Q:VK}{a p:Addr}{ys:List V}(h:SqL K H a ys)(bo:H p=some (.tup [.ty "list",.ty "tuple"]))(q:Q (.bl true) H):nZ K [.ref a,.ref p] H Q:=⟨a,p,ys,rfl,h,bo,q⟩
end Rd
end L2
namespace My
@[irreducible] noncomputable def G (a b:Int):Int:=((Int.gcd a b:Nat):Int)
theorem ZaV(n m:Nat):G (n:Int) (m:Int)=((Nat.gcd n m:Nat):Int):=by
 unfold G
 rfl
theorem Zfq{a b:Int}(a2:0≤a)(ao:b=0):G a b=a:=by
 subst ao;obtain⟨n,rfl⟩:=Qz a2;have:=ZaV n 0;rw[Nat.gcd_zero_right] at this;exact this
theorem ZfL{a b:Int}(a2:0≤a)(ao:0<b):G b (Int.fmod a b)=G a b:=by
 obtain⟨n,rfl⟩:=Qz a2;obtain⟨m,rfl⟩:=Qz (Int.le_of_lt ao);rw[Q3 _ (Int.natCast_nonneg m),←Int.natCast_emod,ZaV,ZaV,Nat.gcd_comm n m,Nat.gcd_rec m n,Nat.gcd_comm]
structure S(k:Nat)(x:Int):Prop where
 lo:0≤x
 hi:x.toNat<2 ^ (2048*2 ^ k)
theorem vA{j k:Nat}(h:j≤k):2 ^ (2048*2 ^ j)≤2 ^ (2048*2 ^ k):=
 Q5 (by decide) (Nat.mul_le_mul_left _ (Q5 (by decide) h))
theorem S.mono{j k:Nat}{x:Int}(h:S j x)(bW:j≤k):S k x:=⟨h.lo,Qj h.hi (vA bW)⟩
end My
set_option Elab.async false
set_option linter.all false
set_option maxRecDepth 100000
set_option maxHeartbeats 4000000
local macro_rules| `(tactic|omega)=>`(tactic|with_reducible first|exact Int.natCast_nonneg _|exact L2.oA (by assumption) (by assumption)|exact L2.oB (by assumption) (by assumption) rfl|exact L2.oC (by assumption) (by assumption) rfl|exact L2.oD (by assumption) rfl|exact L2.oE (by assumption) (by assumption)|exact L2.oF (by assumption)|lia|fail)
local macro_rules| `(tactic|walk_at "mul")=>`(tactic|k_dflt (first|with_reducible assumption|exact L2.Zci.ok (Or.inr ⟨by omega,by omega⟩)|exact L2.Zci.ok (Or.inl ⟨by omega,by omega⟩)))
local macro_rules| `(tactic|walk_at "lk")=>`(tactic|first|exact L2.Rd.lk0|exact L2.Rd.lkN|(refine L2.Rd.lk1 (by decide+kernel) ?_;walk_at "lk"))
local macro_rules| `(tactic|walk_at "pf")=>`(tactic|first|exact L2.Rd.pfN|(apply L2.Rd.pf1;(decide+kernel);walk_at "pf"))
local macro_rules| `(tactic|walk_at "na")=>`(tactic|exact L2.Wm.get (by with_reducible assumption) (by decide+kernel))
local macro_rules| `(tactic|walk_at "cond")=>`(tactic|k_dflt (first|with_reducible assumption|decide|omega|(simp;done)|(simp only[List.length_cons,List.length_nil,Qa,Qh];omega)))
local macro_rules| `(tactic|walk_at "rdis")=>`(tactic|((with_reducible show ∃x n t b,_=_∧L2.YF _ _ x t∧_);first|with_reducible apply L2.Rd.ZcJ|with_reducible apply L2.Rd.ZbM|with_reducible apply L2.Rd.is_int_str|with_reducible apply L2.Rd.is_int_list|with_reducible apply L2.Rd.is_int_tuple|with_reducible apply L2.Rd.is_int_dict|with_reducible apply L2.Rd.is_bl_int|with_reducible apply L2.Rd.is_bl_bool|with_reducible apply L2.Rd.is_bl_str|with_reducible apply L2.Rd.is_bl_list|with_reducible apply L2.Rd.is_bl_tuple|with_reducible apply L2.Rd.is_bl_dict|with_reducible apply L2.Rd.is_str_int|with_reducible apply L2.Rd.is_str_bool|with_reducible apply L2.Rd.ZcK|with_reducible apply L2.Rd.is_str_list|with_reducible apply L2.Rd.is_str_tuple|with_reducible apply L2.Rd.is_str_dict|with_reducible apply L2.Rd.is_non_int|with_reducible apply L2.Rd.is_non_bool|with_reducible apply L2.Rd.is_non_str|with_reducible apply L2.Rd.is_non_list|with_reducible apply L2.Rd.is_non_tuple|with_reducible apply L2.Rd.is_non_dict|with_reducible refine L2.Rd.is_lst_int (by with_reducible assumption) ?_|with_reducible refine L2.Rd.is_lst_bool (by with_reducible assumption) ?_|with_reducible refine L2.Rd.is_lst_str (by with_reducible assumption) ?_|with_reducible refine L2.Rd.ZbE (by with_reducible assumption) ?_|with_reducible refine L2.Rd.is_lst_tuple (by with_reducible assumption) ?_|with_reducible refine L2.Rd.is_lst_dict (by with_reducible assumption) ?_|with_reducible refine L2.Rd.is_tup_int (by with_reducible assumption) ?_|with_reducible refine L2.Rd.is_tup_bool (by with_reducible assumption) ?_|with_reducible refine L2.Rd.is_tup_str (by with_reducible assumption) ?_|with_reducible refine L2.Rd.is_tup_list (by with_reducible assumption) ?_|with_reducible refine L2.Rd.is_tup_tuple (by with_reducible assumption) ?_|with_reducible refine L2.Rd.is_tup_dict (by with_reducible assumption) ?_|with_reducible refine L2.Rd.is_dK_int (by with_reducible assumption) ?_|with_reducible refine L2.Rd.is_dK_bool (by with_reducible assumption) ?_|with_reducible refine L2.Rd.is_dK_str (by with_reducible assumption) ?_|with_reducible refine L2.Rd.is_dK_list (by with_reducible assumption) ?_|with_reducible refine L2.Rd.is_dK_tuple (by with_reducible assumption) ?_|with_reducible refine L2.Rd.is_dK_dict (by with_reducible assumption) ?_))
local macro_rules| `(tactic|walk_at "side")=>`(tactic|k_dflt (first|with_reducible assumption|decide|(dsimp only;decide)|(dsimp only[L2.Zgu];decide)|omega|(dsimp only;omega)))
local macro_rules| `(tactic|walk_at "hp")=>`(tactic|with_reducible (first|assumption|((show L2.SqL _ _ _ _);(first|exact L2.SqL.of (by assumption)|exact L2.OffL.sq (by assumption)|exact L2.Zd.seq (by assumption) (by assumption)))|((show L2.SqT _ _ _ _);(first|exact L2.SqT.of (by assumption)|exact L2.OffT.sq (by assumption)|exact L2.Zd.seqT (by assumption) (by assumption)))))
local macro_rules| `(tactic|walk_at "rd")=>`(tactic|first|with_reducible (first|apply L2.Rd.seq|apply L2.Rd.asg|apply L2.Rd.ret|apply L2.Rd.ifs|apply L2.Rd.next|apply L2.Rd.drop|apply L2.Rd.op|apply L2.Rd.Zhd|apply L2.Rd.con|(show L2.ZbC _ _ _ _;refine L2.Rd.var (by k_dflt rfl) ?_)|(show L2.WS _ _ _ _ _;refine L2.Rd.ZgK (by k_dflt (dsimp only[L2.start,List.map_cons,List.map_nil,List.cons_append,List.nil_append,List.length_cons,List.length_nil,Nat.reduceAdd,Nat.reduceSub,List.replicate,List.set];(try rfl))) ?_)|apply L2.Rd.call|apply L2.Rd.cons|apply L2.Rd.nil|apply L2.Rd.cb|apply L2.Rd.tup|apply L2.Rd.lst|apply L2.Rd.ZhG|apply L2.Rd.or_|apply L2.Rd.Zhs|apply L2.Rd.Zhf|apply L2.Rd.Zhi|apply L2.Rd.i0|(show L2.rI _ _ _ _ _ _;refine L2.Rd.iC (by walk_at "side") ?_)|apply L2.Rd.bl|apply L2.Rd.Zhu|(show L2.rOr L2.ZcY _ _ _ _ _;refine L2.Rd.mulI (by walk_at "mul") ?_)|apply L2.Rd.ZhE|apply L2.Rd.Zhr|(show L2.rOr _ (L2.rOr L2.UF _) (L2.V.str _) (L2.V.str _) _ _;refine L2.Rd.ZfG (by walk_at "side") ?_)|(show L2.rIx _ _ _ _ _;refine L2.Rd.ZhL (by walk_at "hp") (by k_dflt rfl) ?_)|(show L2.rIx _ _ _ _ _;refine L2.Rd.Zgy (by walk_at "hp") (by k_dflt (first|rfl|with_reducible assumption)) ?_)|(show ∃a,L2.V.ref _=L2.V.ref a∧(∃xs,L2.SqL _ _ a xs)∧_;refine L2.Rd.Zgf (by walk_at "hp") ?_)|(show ∃k,[L2.V.int _]=[L2.V.int k]∧_;refine L2.Rd.ZgI (by k_dflt omega) (by k_dflt omega) ?_)|(show ∃x n,_=_∧L2.Uk _ x _ n∧_;refine L2.Rd.ZhF (by walk_at "hp") ?_)|(show ∃x n,_=_∧L2.Uk _ x _ n∧_;refine L2.Rd.lenS (by walk_at "side") ?_))|walk_at "rdis" |with_reducible (first|apply L2.Rd.Zhj|apply L2.Rd.tru|apply L2.Rd.Zhn|apply L2.Rd.ZhK|apply L2.Rd.Zhp|apply L2.Rd.bm|(show L2.tyV _ _ _ _∧_;refine L2.Rd.tyl (by with_reducible assumption) ?_)|(show L2.rAppend _ _ _ _;refine L2.Rd.app (by with_reducible assumption) (by walk_at "side") ?_)|apply L2.Zc1|apply L2.Zbg|apply L2.Rd.ZeH|apply L2.Rd.ZeS|(show if decide _=true then _ else _;refine L2.Rd.ifP (by walk_at "cond") ?_)|(show if decide _=true then _ else _;refine L2.Rd.ifN (by walk_at "cond") ?_)|(show if(!decide _)=true then _ else _;refine L2.Rd.Zht (by walk_at "cond") ?_)|apply L2.Rd.sl|apply L2.Rd.Zg9|apply L2.Rd.ZgM|apply L2.Rd.ZhC|(show ∃a C aO fs v,L2.V.ref _=L2.V.ref a∧_=some (L2.HO.ins C aO fs)∧L2.Cls _ C∧_;refine L2.Rd.fld (by with_reducible assumption) (by with_reducible assumption) (by k_dflt (walk_at "na")) (by k_dflt (walk_at "lk")) ?_)|(show L2.UI _ _ _ _ _ _ _ _;refine L2.Rd.Zg0 (by k_dflt rfl) ?_)|apply L2.Rd.Zha|(show L2.rSetL _ _ _ _ _;refine L2.Rd.Zhw (by with_reducible assumption) (by k_dflt omega) (by walk_at "cond") ?_)|apply L2.Rd.ZgG|apply L2.Rd.ZgT|apply L2.Rd.Zhk|(show ∃a C aO fs,L2.V.ref _=L2.V.ref a∧_=some (L2.HO.ins C aO fs)∧L2.Cls _ C∧_;refine L2.Rd.Zg5 (by with_reducible (first|assumption|exact L2.Ze)) (by with_reducible assumption) (by k_dflt (walk_at "na")) (by k_dflt (simp only[List.length_cons,List.length_nil];decide)) (by k_dflt (walk_at "pf")) ?_)|apply L2.Rd.raise|apply L2.Rd.Zga|apply L2.Rd.ZgJ|apply L2.Rd.ZhI|apply L2.Rd.ZgU|apply L2.Rd.Zhl|apply L2.Rd.ZgW|(show ∃p bs,[L2.V.ref _]=[L2.V.ref p]∧L2.SqL _ _ p (List.map L2.V.bl bs)∧_;refine L2.Rd.ZhB (by walk_at "hp") ?_)|apply L2.Rd.leS|apply L2.Rd.ZgQ)|((with_reducible show if(!(_==_))=true then _ else _);first|refine L2.Rd.ZeH ?_|refine L2.Rd.ZeS ?_)|((with_reducible show if(_==_)=true then _ else _);first|refine L2.Zc1 ?_|refine L2.Zbg ?_)|with_reducible (first|apply L2.Rd.Zfy|apply L2.Rd.Zhx|apply L2.Rd.Zhv)|((with_reducible show L2.rDIn _ _ _ _);first|with_reducible refine L2.Rd.Zhq (by with_reducible assumption) ?_|with_reducible refine L2.Rd.dinI (by with_reducible assumption) ?_)|((with_reducible show L2.rSetD _ _ _ _ _);first|with_reducible refine L2.Rd.ZgL (by with_reducible assumption) (by walk_at "side") ?_|with_reducible refine L2.Rd.dsetI (by with_reducible assumption) (by walk_at "side") ?_)|with_reducible (first|(show L2.rLenD _ _ _;refine L2.Rd.Zhy (by with_reducible assumption) ?_)|apply L2.Rd.ipi|(show L2.Zcu _ _ _ _ _;refine L2.Rd.ixl (by walk_at "hp") (by k_dflt (first|rfl|with_reducible assumption)) ?_)|apply L2.Rd.ZhD|apply L2.Rd.Zhg|apply L2.Rd.Zhm|apply L2.Rd.ZgV))
local macro_rules| `(tactic|walk_at "rds")=>`(tactic|repeat' (walk_at "rd"))
namespace Nm
open PySem L2
noncomputable def top (i:Nat):Stmt:=PySem.Challenge.pw_ratehall_k28_boxes_and_code_run.main.body.getD i (.Pass ⟨0,0,0,0⟩)
noncomputable abbrev q5:Stmt:=top 36
noncomputable abbrev n0:Stmt:=top 22
noncomputable abbrev q6:Stmt:=WA (top 26) 1
noncomputable abbrev q7:Stmt:=top 12
noncomputable abbrev q8:Stmt:=top 13
noncomputable abbrev q9:Stmt:=top 27
noncomputable abbrev q_:Stmt:=top 14
noncomputable abbrev q':Stmt:=WA (top 26) 11
noncomputable abbrev ra:Stmt:=WA (top 26) 3
noncomputable abbrev rb:Stmt:=WA (top 26) 2
noncomputable abbrev rc:Stmt:=WA (top 26) 0
noncomputable abbrev rd:Stmt:=top 41
noncomputable abbrev re:Stmt:=top 42
noncomputable abbrev rf:Stmt:=WA (top 26) 7
noncomputable abbrev n1:Stmt:=top 16
noncomputable abbrev n2:Stmt:=top 29
noncomputable abbrev n3:Stmt:=top 19
noncomputable abbrev rh:Stmt:=top 31
noncomputable abbrev rj:Stmt:=top 33
noncomputable abbrev n4:Stmt:=top 32
noncomputable abbrev rk:Stmt:=top 48
noncomputable abbrev n5:Stmt:=top 18
noncomputable abbrev rl:Stmt:=top 34
noncomputable abbrev rm:Stmt:=top 43
noncomputable abbrev n6:Stmt:=top 49
noncomputable abbrev rn:Stmt:=top 37
noncomputable abbrev n7:Stmt:=top 44
noncomputable abbrev rp:Stmt:=top 45
noncomputable abbrev rq:Stmt:=top 46
noncomputable abbrev n8:Stmt:=top 47
noncomputable abbrev rr:Stmt:=top 38
noncomputable abbrev ru:Stmt:=top 39
noncomputable abbrev kA:Stmt:=top 50
theorem n9:Zt ["_law_script","_law_k","_law_lap","_law_cell"] ["_law_script","_law_k"] (b4 q5):=scI
theorem vB:Zt ["thing"] ["thing"] (b4 n0):=scI
theorem rv:Zt ["self","name","number"] ["self","name"] (b4 q6):=scI
theorem vC:Zt ["thing"] ["thing"] (b4 q7):=scI
theorem vD:Zt ["thing","least"] ["thing","least"] (b4 q8):=scI
theorem vE:Zt ["start"] ["start"] (b4 q9):=scI
theorem vF:Zt ["thing","bound"] ["thing","bound"] (b4 q_):=scI
theorem vG:Zt ["self","work"] ["self","work"] (b4 q'):=scI
theorem vH:Zt ["self","row"] ["self","row"] (b4 ra):=scI
theorem vI:Zt ["self","giver","taker","give","take","start"] ["self","giver","taker","give","take","start"] (b4 rb):=scI
theorem vJ:Zt ["self"] ["self"] (b4 rc):=scI
theorem ig:Zt ["_law_names_here","_law_belts","_law_hall","_law_name","_law_giver","_law_taker","_law_give","_law_take","_law_start"] ["_law_names_here","_law_belts"] (b4 rd):=scI
theorem jy:Zt ["_law_script","_law_at","_law_belts","_law_pieces","_law_belt","_law_some","_law_k"] ["_law_script","_law_at","_law_belts"] (b4 re):=scI
theorem vK:Zt ["self"] ["self"] (b4 rf):=scI
theorem vL:Zt ["hall"] ["hall"] (b4 n1):=scI
theorem rx:Zt ["hall","rooms","starts"] ["hall","rooms"] (b4 n2):=scI
theorem ry:Zt ["hall","pieces","starts"] ["hall","pieces"] (b4 n3):=scI
theorem lO:Zt ["hall","rooms","pieces","boxes","room","lying"] ["hall","rooms","pieces"] (b4 rh):=scI
theorem kB:Zt ["rooms","firsts","boxes","room"] ["rooms"] (b4 rj):=scI
theorem vM:Zt ["hall","rooms","boxes"] ["hall","rooms","boxes"] (b4 n4):=scI
theorem jz:Zt ["_law_cells","_law_many","_law_code","_law_cell","_law_mix","_law_terms","_law_k"] ["_law_cells","_law_many"] (b4 rk):=scI
theorem vN:Zt ["form","pieces"] ["form","pieces"] (b4 n5):=scI
theorem kC:Zt ["code","boxes","lying","box","constant","terms"] ["code","boxes"] (b4 rl):=scI
theorem rz:Zt ["_law_found","_law_number"] ["_law_found"] (b4 rm):=scI
theorem ih:Zt ["_law_due","_law_cells","_law_code","_law_boxes","_law_found","_law_box","_law_constant","_law_terms"] ["_law_due","_law_cells"] (b4 n6):=scI
theorem gC:Zt ["_law_cell","_law_many","_law_letters","_law_long","_law_at","_law_some","_law_k","_law_word","_law_place","_law_turn"] ["_law_cell","_law_many"] (b4 rn):=scI
theorem rA:Zt ["_law_e","_law_some"] ["_law_e"] (b4 n7):=scI
theorem jA:Zt ["_law_hall","_law_rooms","_law_pieces","_law_found","_law_kind_here","_law_e"] ["_law_hall","_law_rooms","_law_pieces"] (b4 rp):=scI
theorem lP:Zt ["_law_hall","_law_rooms","_law_boxes","_law_kind_here","_law_e"] ["_law_hall","_law_rooms","_law_boxes"] (b4 rq):=scI
theorem lQ:Zt ["_law_hall","_law_belts","_law_rooms","_law_pieces","_law_cell","_law_less","_law_at","_law_other"] ["_law_hall","_law_belts","_law_rooms","_law_pieces","_law_cell"] (b4 n8):=scI
theorem lR:Zt ["_law_one","_law_other","_law_rest"] ["_law_one","_law_other"] (b4 rr):=scI
theorem g4:Zt ["_law_cell","_law_rates","_law_top","_law_ample","_law_mix","_law_giver","_law_taker","_law_both","_law_times_by","_law_give","_law_take","_law_start"] ["_law_cell","_law_rates","_law_top","_law_ample"] (b4 ru):=scI
theorem e7:Zt ["_law_script","_law_first","_law_many","_law_rates","_law_belts","_law_k","_law_hall","_law_pieces","_law_rooms","_law_due","_law_handed","_law_found","_law_told","_law_row"] ["_law_script"] (b4 kA):=scI
set_option genInjectivity false
set_option genSizeOf false
set_option genSizeOfSpec false
set_option genInjectivity false in
set_option genSizeOf false in
structure Tp(K:Frag)(mg:Str→Option Value) where
 {o:Addr}
 aW:mg "Hall" =some (.ref o)
 f:Cls K o
 i:Wm K o ["numbers","rows"]
 x0:Dn K mg "_law_cell_at" "_law_cell_at" q5 ["_law_script","_law_k"]
 x1:Dn K mg "is_name" "is_name" n0 ["thing"]
 x2:Dm K o "work" "Hall.work" q6 ["self","name"]
 x3:Dn K mg "is_whole" "is_whole" q7 ["thing"]
 x4:Dn K mg "is_from" "is_from" q8 ["thing","least"]
 x5:Dn K mg "need_start" "need_start" q9 ["start"]
 x6:Dn K mg "is_number_below" "is_number_below" q_ ["thing","bound"]
 x7:Dm K o "need_work" "Hall.need_work" q' ["self","work"]
 x8:Dm K o "lay" "Hall.lay" ra ["self","row"]
 {B:Addr}
 {C:FuncData}
 {rB:Addr}
 {n_:Tok}
 ae:UX K o "belt" B
 af:Zcr K "belt" "Hall.belt" rb rB B C
 Bz:∃dy cG n sl,K.lookup rB=some ⟨dy,cG,.seq #[.int 0 n_] n,sl⟩
 ag:Yy K C ["self","giver","taker","give","take","start"] []
 BA:Yy K C ["self","giver","taker","give","take","start"] [.int 0 n_]
 BB:bS [.int 0] [.int 0 n_]
 a7:Di K o "Hall.__init__" rc ["self"]
 a8:Dn K mg "_law_made" "_law_made" rd ["_law_names_here","_law_belts"]
 a9:Dn K mg "_law_pieces_by" "_law_pieces_by" re ["_law_script","_law_at","_law_belts"]
 ba:Dm K o "belts" "Hall.belts" rf ["self"]
 aQ:Dn K mg "starts_of" "starts_of" n1 ["hall"]
 aX:Dn K mg "need_rooms" "need_rooms" n2 ["hall","rooms"]
 bb:Dn K mg "need_pieces" "need_pieces" n3 ["hall","pieces"]
 aR:Dn K mg "filled" "filled" rh ["hall","rooms","pieces"]
 bc:Dn K mg "first_boxes" "first_boxes" rj ["rooms"]
 aS:Dn K mg "drawn" "drawn" n4 ["hall","rooms","boxes"]
 bd:Dn K mg "_law_code_by" "_law_code_by" rk ["_law_cells","_law_many"]
 be:Dn K mg "form_value" "form_value" n5 ["form","pieces"]
 aY:Dn K mg "run" "run" rl ["code","boxes"]
 aZ:Dn K mg "_law_wholes" "_law_wholes" rm ["_law_found"]
 bf:Dn K mg "_law_run_good" "_law_run_good" n6 ["_law_due","_law_cells"]
 bg:Dn K mg "_law_names" "_law_names" rn ["_law_cell","_law_many"]
 a0:Dn K mg "_law_kind" "_law_kind" n7 ["_law_e"]
 aT:Dn K mg "_law_filled" "_law_filled" rp ["_law_hall","_law_rooms","_law_pieces"]
 bh:Dn K mg "_law_drawn_kind" "_law_drawn_kind" rq ["_law_hall","_law_rooms","_law_boxes"]
 bi:Dn K mg "_law_refusals_good" "_law_refusals_good" n8 ["_law_hall","_law_belts","_law_rooms","_law_pieces","_law_cell"]
 bj:Dn K mg "_law_common" "_law_common" rr ["_law_one","_law_other"]
 bk:Dn K mg "_law_belt_by" "_law_belt_by" ru ["_law_cell","_law_rates","_law_top","_law_ample"]
 a1:Dn K mg "law" "law" kA ["_law_script"]
 S:mg "ValueError" =none
 aE:mg "all" =none
 aK:mg "bool" =none
 aF:mg "int" =none
 a:mg "isinstance" =none
 c:mg "len" =none
 g:mg "list" =none
 j:mg "range" =none
 bl:mg "str" =none
 aG:mg "sum" =none
 ay:mg "tuple" =none
 au:mg "zip" =none
 {gD:Addr}
 D:Ex K mg "RateError" gD
 {aL:Addr}
 ai:Ex K mg "NoName" aL
 {aU:Addr}
 az:Ex K mg "Twice" aU
 {T:Addr}
 t:Ex K mg "TooMuch" T
 {aj:Addr}
 ak:Ex K mg "NoWork" aj
 {al:Addr}
 y:Ex K mg "NoRate" al
 {b:Addr}
 r:Ex K mg "NoRoom" b
 {aM:Addr}
 aN:Ex K mg "NoForm" aM
 {e:Addr}
 k:Ex K mg "NoPieces" e
 E:exmOne K (.ref gD) (.ref gD)=some true
 M:exmOne K (.ref aL) (.ref gD)=some true
 U:exmOne K (.ref aU) (.ref gD)=some true
 H:exmOne K (.ref T) (.ref gD)=some true
 N:exmOne K (.ref aj) (.ref gD)=some true
 O:exmOne K (.ref al) (.ref gD)=some true
 h:exmOne K (.ref b) (.ref gD)=some true
 P:exmOne K (.ref aM) (.ref gD)=some true
 m:exmOne K (.ref e) (.ref gD)=some true
 d8:Yq K aL
 c6:Yq K aU
 BC:Yq K T
 eJ:Yq K aj
 eK:Yq K al
 aA:Yq K b
 ah:Yq K e
 jB:PySem.W.kitOne K (.ref aL) (.ref b)=some false
 V:PySem.W.kitOne K (.ref aL) (.ref e)=some false
 an:PySem.W.kitOne K (.ref aL) (.ref aM)=some false
 I:PySem.W.kitOne K (.ref aL) (.type "ValueError")=some true
 BD:PySem.W.kitOne K (.ref aU) (.ref b)=some false
 ab:PySem.W.kitOne K (.ref aU) (.ref e)=some false
 BE:PySem.W.kitOne K (.ref aU) (.ref aM)=some false
 Q:PySem.W.kitOne K (.ref aU) (.type "ValueError")=some true
 ac:PySem.W.kitOne K (.ref T) (.ref b)=some false
 R:PySem.W.kitOne K (.ref T) (.ref e)=some false
 ad:PySem.W.kitOne K (.ref T) (.ref aM)=some false
 F:PySem.W.kitOne K (.ref T) (.type "ValueError")=some true
 BF:PySem.W.kitOne K (.ref aj) (.ref b)=some false
 X:PySem.W.kitOne K (.ref aj) (.ref e)=some false
 BG:PySem.W.kitOne K (.ref aj) (.ref aM)=some false
 J:PySem.W.kitOne K (.ref aj) (.type "ValueError")=some true
 BH:PySem.W.kitOne K (.ref al) (.ref b)=some false
 Y:PySem.W.kitOne K (.ref al) (.ref e)=some false
 BI:PySem.W.kitOne K (.ref al) (.ref aM)=some false
 L:PySem.W.kitOne K (.ref al) (.type "ValueError")=some true
 z:PySem.W.kitOne K (.ref b) (.ref b)=some true
 u:PySem.W.kitOne K (.ref b) (.ref e)=some false
 A:PySem.W.kitOne K (.ref b) (.ref aM)=some false
 p:PySem.W.kitOne K (.ref b) (.type "ValueError")=some true
 w:PySem.W.kitOne K (.ref e) (.ref b)=some false
 q:PySem.W.kitOne K (.ref e) (.ref e)=some true
 x:PySem.W.kitOne K (.ref e) (.ref aM)=some false
 l:PySem.W.kitOne K (.ref e) (.type "ValueError")=some true
 {vO:Tok}
 G:mg "MOST_LETTERS" =some (.int 8 vO)
 {vP:Tok}
 Z:mg "MOST_WORKS" =some (.int 30 vP)
 {vQ:Tok}
 aa:mg "MOST_BELTS" =some (.int 60 vQ)
 a5:∀(s:Shared)(v:Value),BindsTo s a1.d ⟨[v],[]⟩ [("_law_script",v)]
set_option genInjectivity true
set_option genSizeOf true
set_option genSizeOfSpec true
theorem vR{a b:Int}(a2:0≤a)(ao:0<b):My.G b (a % b)=My.G a b:=by
 rw[←Q3 _ (Int.le_of_lt ao)];exact My.ZfL a2 ao
theorem ZhP{k:Nat}{x:Int}(h:My.S k x):Builtin.Int.intBits x≤2048*2 ^ k:=by
 unfold Builtin.Int.intBits
 split
 ·exact Qs _
 ·rename_i bw;have cv:x.natAbs≠0:=by
   intro e;apply bw;have:x=0:=by omega
   rw[this]
   rfl
  have e:x.natAbs=x.toNat:=by have:=h.lo;omega
  have:=(Nat.log2_lt cv).mpr (by rw[e];exact h.hi);omega
theorem ZhO{k:Nat}{x:Int}(h:My.S k x)(aD:k≤2):x.natAbs.log2<9000:=by
 by_cases cv:x.natAbs=0
 ·rw[cv];decide+kernel
 ·have e:x.natAbs=x.toNat:=by have:=h.lo;omega
  have l:=(Nat.log2_lt cv).mpr (by rw[e];exact(h.mono aD).hi);omega
def ZeI(K:Frag):Sp:=λvs H Q _=>∃(a:Addr)(ns:List Int),vs=[.ref a]∧SqL K H a (ns.map V.int)∧ns.length≤63∧∀H',Q (.bl true) H'
def vS{K:Frag}{mg:Str→Option Value}(T:Tp K mg):Sp:=ZeI K
noncomputable def eS (x:Str):Bool:=decide (1≤x.length)&&decide (x.length≤8)&&x.cps.toList.all λc=>decide (97≤c)&&decide (c≤122)
structure B5 where
 giver:Int
 taker:Int
 give:Int
 take:Int
 start:Int
noncomputable def B5.v (b:B5):List V:=[.int b.giver,.int b.taker,.int b.give,.int b.take,.int b.start]
noncomputable def B5.d (b:B5):PyData:= .tuple [.int b.giver,.int b.taker,.int b.give,.int b.take,.int b.start]
structure HM where
 names:List Str
 belts:List B5
noncomputable def d1 (H:Hp):List V→List B5→Prop:=Paired λv b=>∃t,v= .ref t∧H t=some (.tup b.v)
noncomputable def numsOf (ns:List Str):List (Key×V):=ns.zipIdx.map λp=>(Sum.inr p.1,V.int p.2)
theorem Wx(ns:List Str):(numsOf ns).length=ns.length:=by unfold numsOf;simp
theorem vT(ns:List Str)(x:Str):numsOf (ns++ [x])=numsOf ns++ [(Sum.inr x,.int ns.length)]:=by
 unfold numsOf;rw[List.zipIdx_append];simp
theorem ZbJ(ns:List Str):((numsOf ns).map λc5=>kV c5.1)=ns.map V.str:=by
 unfold numsOf;rw[List.map_map];have:((λc5:Key×V=>kV c5.1)∘λp:Str×Nat=>((Sum.inr p.1:Key),V.int p.2))=(V.str∘λp:Str×Nat=>p.1):=rfl;rw[this,←List.map_map,List.zipIdx_map_fst]
theorem Zag(ns:List Str)(x:Str):(e0 (numsOf ns) (Sum.inr x)).isSome=decide (x∈ns):=by
 rw[←Vc];rw[QQ,List.any_eq_true,decide_eq_true_eq];have e:x∈ns↔V.str x∈ns.map V.str:=by
  constructor
  ·exact List.mem_map_of_mem
  ·intro h;obtain⟨y,bX,e⟩:=Jq.mp h;cases e;exact bX
 rw[e,←ZbJ,Jq]
 constructor
 ·rintro⟨p,bo,h⟩;exact⟨p,bo,by rw[of_decide_eq_true h];rfl⟩
 ·rintro⟨p,bo,h⟩;exact⟨p,bo,decide_eq_true (t8 h)⟩
theorem vU{ns:List Str}{x:Str}(h:x∉ns):e0 (numsOf ns) (Sum.inr x)=none:=by
 have:=Zag ns x;rw[decide_eq_false h] at this;cases e:e0 (numsOf ns) (Sum.inr x) with
 |none=>rfl
 |some v=>rw[e] at this;cases this
theorem vV{ns:List Str}{x:Str}(h:x∉ns):fi (numsOf ns) (Sum.inr x) (.int ns.length)=numsOf (ns++ [x]):=by
 rw[Zex _ (vU h),vT]
def cQ{K:Frag}{mg:Str→Option Value}(T:Tp K mg)(H:Hp)(p:Addr)(ap:HM)(fp:List Addr):Prop:=
 ∃(aO a b:Addr)(bs:List V),fp=[p,aO,a,b]∧H p=some (.ins T.o aO [("numbers",.ref a),("rows",.ref b)])∧H aO=some (.own p)∧H a=some (.dK (numsOf ap.names))∧H b=some (.lst bs)∧a≠b∧d1 H bs ap.belts
theorem d1.keep{H H':Hp}(t:∀b xs,H b=some (.tup xs)→H' b=some (.tup xs)):∀{bs:List V}{bE:List B5},d1 H bs bE→d1 H' bs bE
 |_,_,.nil=> .nil
 |_,_,.cons ⟨a,e,h⟩ r=> .cons ⟨a,e,t _ _ h⟩ (d1.keep t r)
theorem d1.length{H:Hp}{bs:List V}{bE:List B5}(h:d1 H bs bE):bs.length=bE.length:=Paired.length h
theorem d1.snoc{H:Hp}:∀{bs:List V}{bE:List B5}{t:Addr}{b:B5},d1 H bs bE→H t=some (.tup b.v)→d1 H (bs++ [.ref t]) (bE++ [b])
 |_,_,_,_,.nil,h=> .cons ⟨_,rfl,h⟩ .nil
 |_,_,_,_,.cons x r,h=> .cons x (d1.snoc r h)
theorem d1.at{H:Hp}:∀{bs:List V}{bE:List B5}{i:Nat}{b:B5},d1 H bs bE→bE[i]? =some b→∃t,bs[i]? =some (.ref t)∧H t=some (.tup b.v)
 |_,_,_,_,.nil,e=>by simp at e
 |_,_,0,_,.cons ⟨t,bu,h⟩ _,e=>by simp at e;subst e;exact⟨t,by simp[bu],h⟩
 |_,_,i+1,b,.cons _ r,e=>by
  obtain⟨t,aB,aC⟩:=d1.at (i:=i) (b:=b) r (by simpa using e);exact⟨t,by simpa using aB,aC⟩
section
variable {K:Frag}{mg:Str→Option Value}{T:Tp K mg}{H H':Hp}{p:Addr}{ap:HM}{fp:List Addr}
theorem cQ.dom(h:cQ T H p ap fp):∀x∈fp,H x≠none:=by
 obtain⟨aO,a,b,bs,rfl,aB,aC,b_,cu,_⟩:=h;intro x ax;simp only[Qu,Q6,or_false] at ax;rcases ax with rfl|rfl|rfl|rfl
 ·rw[aB];simp
 ·rw[aC];simp
 ·rw[b_];simp
 ·rw[cu];simp
theorem cQ.keep(h:cQ T H p ap fp)(k:∀x∈fp,H' x=H x)(t:∀b xs,H b=some (.tup xs)→H' b=some (.tup xs)):cQ T H' p ap fp:=by
 obtain⟨aO,a,b,bs,rfl,aB,aC,b_,cu,ew,dC⟩:=h;exact⟨aO,a,b,bs,rfl,(k p (by simp)).trans aB,(k aO (by simp)).trans aC,(k a (by simp)).trans b_,(k b (by simp)).trans cu,ew,dC.keep t⟩
theorem cQ.off{A:List Addr}(h:cQ T H p ap fp)(f:Yh A H H')(d:∀x∈fp,x∉A):cQ T H' p ap fp:=by
 refine h.keep (λx ax=>?_) f.tups;cases q:H x with
 |none=>exact absurd q (h.dom x ax)
 |some o=>exact f.keep x o q (d x ax)
theorem Zdo{m:Str}{G:Prop}(h:cQ T H p ap fp)(iz:(m== "numbers")=false)(jS:(m== "rows")=false)(q:G):∃a aO fs,V.ref p= .ref a∧H a=some (.ins T.o aO fs)∧fs.lookup m=none∧G:=by
 obtain⟨aO,a,b,bs,rfl,aB,_⟩:=h;exact⟨p,aO,_,rfl,aB,Rd.lk1 iz (Rd.lk1 jS Rd.lkN),q⟩
theorem cQ.same(h:cQ T H p ap fp)(e:Zd H H'):cQ T H' p ap fp:=h.off (A:=[]) e.frame (by simp)
end
noncomputable def dB:B5:=⟨0,0,0,0,0⟩
theorem d1.getD{H:Hp}{bs:List V}{bE:List B5}{i:Nat}(h:d1 H bs bE)(hi:i<bE.length):∃t,bs.getD i .non= .ref t∧H t=some (.tup (bE.getD i dB).v):=by
 obtain⟨t,aB,aC⟩:=h.at (Qq hi);exact⟨t,by simp[List.getD,aB],by simpa[List.getD,hi] using aC⟩
theorem gE{H H':Hp}{x:Addr}(s:Zd H H')(h:H' x=none):H x=none:=by
 cases e:H x with
 |none=>rfl
 |some o=>rw[s _ _ e] at h;cases h
theorem cY{cm:Type}{xs:List cm}{i:Nat}{d:cm}(h:i<xs.length):xs.getD i d=xs[i]:=by simp[List.getD,h]
theorem Wc{ns:List Int}{k:Int}(cv:0≤k)(aB:k<ns.length):atI (ns.map V.int) k=some (.int (ns.getD k.toNat 0)):=by
 obtain⟨n,rfl⟩:=Qz cv;have br:n<ns.length:=by omega
 refine Wz ?_;simp[List.getD,br]
noncomputable def startsL (bE:List B5):List Int:=bE.map (·.start)
def eL(rs cA:List Int):Prop:=rs.length=cA.length∧∀i<rs.length,cA.getD i 0≤rs.getD i 0
theorem n'{f:Nat→Bool}:∀{is:List Nat}{ys:List V},Paired (λi v=>v=V.bl (f i)) is ys→ys=(is.map f).map V.bl
 |_,_,.nil=>rfl
 |_,_,.cons a r=>by rw[a,n' r];rfl
theorem WR{n:Nat}{P:Nat→Prop}[∀i,Decidable (P i)]:(((List.range n).map λi=>decide (P i)).all id)=true↔∀i<n,P i:=by
 simp
def gF(xss:List (List Int))(cA:List Int):Prop:=xss.length=cA.length∧∀i<xss.length,((xss.getD i []).length:Int)=cA.getD i 0
theorem Wp{H:Hp}{ys:List V}{xss:List (List Int)}{i:Nat}(h:c7 H ys xss)(hi:i<xss.length):∃t,ys.getD i .non= .ref t∧H t=some (.lst ((xss.getD i []).map V.int)):=by
 obtain⟨t,aB,aC⟩:=h.at (Qq hi);exact⟨t,by simp[List.getD,aB],by rw[cY hi];exact aC⟩
noncomputable def fillL (rs:List Int) (xss:List (List Int)):Nat→List Int
 |0=>[]
 |i+1=>fillL rs xss i++(xss.getD i []++List.replicate (rs.getD i 0-((xss.getD i []).length:Int)).toNat 0)
theorem WV{rs:List Int}{xss:List (List Int)}{m:Nat}(aB:∀i<m,(xss.getD i []).length≤2000)(aC:∀i<m,rs.getD i 0≤2000):∀i≤m,(fillL rs xss i).length≤4000*i
 |0,_=>Qs _
 |i+1,hi=>by
  have b0:=WV aB aC i (by omega);have a:=aB i (by omega);have b:=aC i (by omega);unfold fillL;rw[Qh,Qh,Qy];omega
theorem gG{n:Nat}(h:n≤1000000):n<sizeLine:=Q9 h (by decide)
noncomputable def d9 (rs:List Int) (i:Nat):Int:=(rs.take i).sum
noncomputable def oa (rs cA cB:List Int):List (List Int):=(List.range cA.length).map λi=>(cB.drop (d9 rs i).toNat).take (cA.getD i 0).toNat
theorem rC{xs:List V}{a b:Int}(cv:0≤a)(aB:0≤b):ho xs (some a) (some (a+b))=(xs.drop a.toNat).take b.toNat:=by
 obtain⟨m,rfl⟩:=Qz cv;obtain⟨k,rfl⟩:=Qz aB;have bu:HT.sIx xs.length 0 (some (m:Int))=min m xs.length:=by
  simp only[HT.sIx];rw[if_neg (by omega)];simp
 have bJ:HT.sIx xs.length xs.length (some ((m:Int)+(k:Int)))=min (m+k) xs.length:=by
  simp only[HT.sIx];rw[if_neg (by omega)];have:((m:Int)+(k:Int)).toNat=m+k:=by omega
  rw[this]
 unfold ho;rw[bu,bJ,Int.toNat_natCast,Int.toNat_natCast];rcases Jp m xs.length with c|c
 ·rw[Nat.min_eq_left (QJ c)];rcases Jp (m+k) xs.length with f4|f4
  ·rw[Nat.min_eq_left (QJ f4)]
   congr 1
   omega
  ·rw[Nat.min_eq_right f4,QY (by rw[Jg];omega),QY (by rw[Jg];omega)]
 ·rw[Nat.min_eq_right c,List.drop_eq_nil_of_le (Qb _),List.drop_eq_nil_of_le c];simp
theorem kD{h9 H:Hp}{f:Nat→List Int}:∀{is:List Nat}{ys:List V},Paired (λi v=>∃t,v=V.ref t∧h9 t=none∧H t=some (.lst ((f i).map V.int))) is ys→c7 H ys (is.map f)∧∀v∈ys,∃t,v=V.ref t∧h9 t=none
 |_,_,.nil=>⟨.nil,by simp⟩
 |_,_,.cons ⟨t,e,cv,h⟩ r=>by
  obtain⟨aB,aC⟩:=kD r;refine⟨.cons ⟨t,e,h⟩ aB,λv b9=>?_⟩;rcases Qu.mp b9 with rfl|b9
  ·exact⟨t,e,cv⟩
  ·exact aC v b9
theorem UL{rs:List Int}(h:∀i<rs.length,0≤rs.getD i 0):∀i≤rs.length,0≤d9 rs i
 |0,_=>Int.le_refl _
 |i+1,hi=>by
  have b0:=UL h i (by omega);have ax:=h i (by omega);unfold d9 at b0⊢;rw[Qo (show i<rs.length by omega),List.sum_append];rw[cY (show i<rs.length by omega)] at ax;simp;omega
theorem ob{n:Nat}{a:Int}(h:a.natAbs<2 ^ n):Builtin.Int.intBits a≤n:=by
 unfold Builtin.Int.intBits
 split
 ·exact Qs _
 ·rename_i bw;have cv:a.natAbs≠0:=by
   intro e;apply bw;have:a=0:=by omega
   rw[this]
   rfl
  have:=(Nat.log2_lt cv).mpr h;omega
theorem mulI{n m:Nat}{a b:Int}(a2:a.natAbs<2 ^ n)(ao:b.natAbs<2 ^ m)(h:n+m≤10000000):IntMulOk a b:=by
 have hC:=ob a2;have kz:=ob ao;have k:Builtin.Int.intTooBig ((Builtin.Int.intBits a:Int)+(Builtin.Int.intBits b:Int))=false:=by
  unfold Builtin.Int.intTooBig;rw[PySem.bitsLine_eq];exact decide_eq_false (by omega)
 unfold IntMulOk;rw[k];simp
noncomputable def eT (H:Hp):List V→List (Int×Int)→Prop:=Paired λv t=>∃a,v= .ref a∧H a=some (.tup [.int t.1,.int t.2])
theorem eT.keep{H H':Hp}(k:∀b xs,H b=some (.tup xs)→H' b=some (.tup xs)){vs:List V}{l:List (Int×Int)}(h:eT H vs l):eT H' vs l:=Paired.mapP h λ_ _ ⟨a,e,z⟩=>⟨a,e,k _ _ z⟩
theorem eT.length{H:Hp}{vs:List V}{l:List (Int×Int)}(h:eT H vs l):vs.length=l.length:=Paired.length h
theorem eT.snoc{H:Hp}:∀{vs:List V}{l:List (Int×Int)}{x:Int×Int}{t:Addr},eT H vs l→H t=some (.tup [.int x.1,.int x.2])→eT H (vs++ [.ref t]) (l++ [x])
 |_,_,_,_,.nil,h=> .cons ⟨_,rfl,h⟩ .nil
 |_,_,_,_,.cons y r,h=> .cons y (eT.snoc r h)
theorem eT.getD{H:Hp}:∀{vs:List V}{l:List (Int×Int)}{i:Nat},eT H vs l→i<l.length→∃t,vs.getD i .non= .ref t∧H t=some (.tup [.int (l.getD i (0,0)).1,.int (l.getD i (0,0)).2])
 |_,_,_,.nil,e=>by simp at e
 |_,_,0,.cons ⟨t,bu,h⟩ _,_=>⟨t,by simp[bu],h⟩
 |_,_,i+1,.cons _ r,e=>by
  obtain⟨t,aB,aC⟩:=eT.getD (i:=i) r (by simpa using e);exact⟨t,by simpa using aB,by simpa using aC⟩
noncomputable def oc (k:Int) (ck:List (Int×Int)) (xs:List Int):Int:=k+(ck.map λt=>t.2*xs.getD t.1.toNat 0).sum
theorem kE{f:Nat→Int}:∀{is:List Nat}{ys:List V},Paired (λi v=>v=V.int (f i)) is ys→ys=(is.map f).map V.int
 |_,_,.nil=>rfl
 |_,_,.cons a r=>by rw[a,kE r];rfl
theorem Wv{cm gQ:Type}(f:cm→gQ)(l:List cm)(d:cm):((List.range l.length).map λi=>f (l.getD i d))=l.map f:=by
 refine Jh (by simp) λi aB aC=>?_;have hi:i<l.length:=by simpa using aC
 simp[List.getD,hi]
noncomputable abbrev Row:=Int×Int×List (Int×Int)
noncomputable def fR (H:Hp):List V→List Row→Prop:=Paired λv c=>∃a dm cR,v= .ref a∧H a=some (.tup [.int c.1,.int c.2.1,.ref dm])∧H dm=some (.tup cR)∧eT H cR c.2.2
theorem fR.keep{H H':Hp}(k:∀b xs,H b=some (.tup xs)→H' b=some (.tup xs)){vs:List V}{l:List Row}(h:fR H vs l):fR H' vs l:=Paired.mapP h λ_ _ ⟨a,dm,cR,e,fB,eU,od⟩=>⟨a,dm,cR,e,k _ _ fB,k _ _ eU,od.keep k⟩
theorem fR.length{H:Hp}{vs:List V}{l:List Row}(h:fR H vs l):vs.length=l.length:=Paired.length h
noncomputable def dR:Row:=(0,0,[])
theorem fR.getD{H:Hp}:∀{vs:List V}{l:List Row}{i:Nat},fR H vs l→i<l.length→∃a dm cR,vs.getD i .non= .ref a∧H a=some (.tup [.int (l.getD i dR).1,.int (l.getD i dR).2.1,.ref dm])∧H dm=some (.tup cR)∧eT H cR (l.getD i dR).2.2
 |_,_,_,.nil,e=>by simp at e
 |_,_,0,.cons ⟨a,dm,cR,bu,aB,aC,b_⟩ _,_=>⟨a,dm,cR,by simp[bu],aB,aC,b_⟩
 |_,_,i+1,.cons _ r,e=>by
  obtain⟨a,dm,cR,cv,aB,aC,b_⟩:=fR.getD (i:=i) r (by simpa using e);exact⟨a,dm,cR,by simpa using cv,by simpa using aB,aC,by simpa using b_⟩
noncomputable def hE (xs:List Int) (c:Row):List Int:=xs.set c.1.toNat (oc c.2.1 c.2.2 xs)
noncomputable def runL (xs:List Int) (code:List Row):List Int:=code.foldl hE xs
theorem oe(xs:List Int)(code:List Row)(c:Row):runL xs (code++ [c])=hE (runL xs code) c:=by unfold runL;rw[List.foldl_append];rfl
theorem Uh(xs:List Int):∀code:List Row,(runL xs code).length=xs.length:=by
 intro code;unfold runL
 induction code generalizing xs with
 |nil=>rfl
 |cons c d_ b0=>rw[List.foldl_cons,b0];unfold hE;rw[QR]
structure kF(n:Nat)(c:Row):Prop where
 box:0≤c.1∧c.1<(n:Int)
 cst:c.2.1.natAbs≤10 ^ 30
 few:c.2.2.length≤3
 ter:∀t∈c.2.2,0≤t.1∧t.1<(n:Int)∧t.2.natAbs≤3
def i2(n:Nat)(xs:List Int):Prop:=∀x∈xs,x.natAbs≤10 ^ (31+n)
theorem V2{n:Nat}{xs:List Int}(ax:i2 n xs):∀{ck:List (Int×Int)},(∀t∈ck,0≤t.1∧t.1<(xs.length:Int)∧t.2.natAbs≤3)→((ck.map λt=>t.2*xs.getD t.1.toNat 0).sum).natAbs≤ck.length*(3*10 ^ (31+n))
 | [],_=>by simp
 |t::ck,h=>by
  have b0:=V2 ax λy bX=>h y (QE _ bX);obtain⟨fS,hF,og⟩:=h t (QW ..);have bq:xs.getD t.1.toNat 0∈xs:=by rw[cY (by omega)];exact Qn _
  have b9:=ax _ bq;rw[List.map_cons,List.sum_cons,List.length_cons,Nat.succ_mul];have aC:(t.2*xs.getD t.1.toNat 0).natAbs≤3*10 ^ (31+n):=by rw[Int.natAbs_mul];exact Nat.mul_le_mul og b9
  have b_:=Int.natAbs_add_le (t.2*xs.getD t.1.toNat 0) ((ck.map λt=>t.2*xs.getD t.1.toNat 0).sum);omega
theorem Zc2{n:Nat}{xs:List Int}{c:Row}(ax:i2 n xs)(aw:kF xs.length c):i2 (n+1) (hE xs c):=by
 have bo:(10:Nat) ^ (31+(n+1))=10*10 ^ (31+n):=by rw[←Nat.add_assoc,Nat.pow_succ,Nat.mul_comm]
 have BJ:10 ^ 30≤10 ^ (31+n):=Q5 (by decide) (by omega);intro x hxm;unfold hE at hxm;rcases List.mem_or_eq_of_mem_set hxm with z|z
 ·have:=ax x z;omega
 ·have aB:=V2 ax aw.ter;have aC:c.2.2.length*(3*10 ^ (31+n))≤3*(3*10 ^ (31+n)):=Nat.mul_le_mul_right _ aw.few;have b_:=aw.cst;rw[z];unfold oc;have cu:=Int.natAbs_add_le c.2.1 ((c.2.2.map λt=>t.2*xs.getD t.1.toNat 0).sum);omega
theorem oh{xs:List Int}{code:List Row}(ax:i2 0 xs)(aw:∀c∈code,kF xs.length c):∀i≤code.length,i2 i (runL xs (code.take i))
 |0,_=>ax
 |i+1,hi=>by
  have cV:i<code.length:=by omega
  rw[Qo cV,oe];refine Zc2 (oh ax aw i (by omega)) ?_;rw[Uh];exact aw _ (Qn _)
theorem rD{n:Nat}{x:Int}(br:n≤70)(h:x.natAbs≤10 ^ (31+n)):x.natAbs<2 ^ 400:=by
 refine Q9 h (Q9 (Q5 (by decide) (show 31+n≤101 by omega)) (by decide))
theorem vW:∀i<26,("abcdefghijklmnopqrstuvwxyz" :Str).cps.toList[i]? =some (97+i):=by decide+kernel
theorem vX:("abcdefghijklmnopqrstuvwxyz" :Str).length≤sizeLine:=by decide+kernel
theorem vY{i:Int}(cv:0≤i)(aB:i<26):atI ("abcdefghijklmnopqrstuvwxyz" :Str).cps.toList i=some (97+i.toNat):=by
 have:=Wz (vW i.toNat (by omega))
 rwa [Int.toNat_of_nonneg cv] at this
theorem ZcR(x:Str):eS x=true↔1≤x.length∧x.length≤8∧∀c∈x.cps.toList,97≤c∧c≤122:=by
 unfold eS;simp only[QO,decide_eq_true_eq,QV];exact⟨λh=>⟨h.1.1,h.1.2,h.2⟩,λh=>⟨⟨h.1,h.2.1⟩,h.2.2⟩⟩
theorem Zcw(x y:Str):(x++y).cps.toList=x.cps.toList++y.cps.toList:=by
 show(x.cps++y.cps).toList=_;simp
theorem oi(x:Str):x.length=x.cps.toList.length:=by simp[Str.length]
noncomputable def cellX (ns:List Int) (k:Int):Int:=if(ns.length:Int)=0 then 0 else if k / ns.length=0 then ns.getD (k % ns.length).toNat 0 else ns.getD (k % ns.length).toNat 0*(2*(k / ns.length)+1) % 1000003+31*(k / ns.length)
theorem oj{n:Nat}(h:n≤100000000):(n:Int).natAbs.log2<9000:=by
 rw[Int.natAbs_natCast]
 by_cases cv:n=0
 ·rw[cv];decide+kernel
 ·have:=(Nat.log2_lt cv).mpr (show n<2 ^ 30 by omega);omega
theorem ol{x:Int}(cv:0≤x)(aB:x≤100000000):x.natAbs.log2<9000:=by
 obtain⟨n,rfl⟩:=Qz cv;exact oj (by omega)
structure Bel(n:Nat)(b:B5):Prop where
 rg:0≤b.giver∧b.giver<(n:Int)∧0≤b.taker∧b.taker<(n:Int)
 sz:1≤b.give∧1≤b.take
 st:0≤b.start∧b.start≤1000
 few:b.give≤40∧b.take≤40
def Zgs(rs:List Int):Prop:=∀r∈rs,1≤r∧r≤4
theorem UP{H aq ar:Hp}{fp lS:List Addr}(s:Zd H aq)(n:∀x∈fp,H x=none)(ei:Yh fp aq ar)(gr:Wo fp lS aq):Zd H ar∧∀x∈lS,H x=none:=by
 refine⟨λb o e=>ei.keep _ _ (s _ _ e) (λz=>by have:=n b z;rw[e] at this;cases this),λx ax=>?_⟩;rcases gr x ax with z|z
 ·exact n x z
 ·exact gE s z
theorem rE{H:Hp}:∀{vs:List V}{l:List Row}{c:Row}{v:V},fR H vs l→(∃a dm cR,v= .ref a∧H a=some (.tup [.int c.1,.int c.2.1,.ref dm])∧H dm=some (.tup cR)∧eT H cR c.2.2)→fR H (vs++ [v]) (l++ [c])
 |_,_,_,_,.nil,h=> .cons h .nil
 |_,_,_,_,.cons y r,h=> .cons y (rE r h)
def lT(xs:List Int):Prop:=∀x∈xs,x.natAbs≤10 ^ 31
theorem vZ{H:Hp}{ys:List V}{xss:List (List Int)}{t:Addr}{xs:List Int}(h:c7 H ys xss)(bM:H t=some (.lst (xs.map V.int))):c7 H (ys++ [.ref t]) (xss++ [xs]):=c7.snoc h bM
noncomputable def chN (c at_:Int) (k p:Nat):Nat:=97+((if(p:Int)=at_ then c / 64+3*(k:Int) else c / (64+(p:Int))) % 26).toNat
theorem Zf9(c at_:Int)(k p:Nat):97≤chN c at_ k p∧chN c at_ k p≤122:=by unfold chN;omega
theorem ZfM{c at_:Int}{k k' p:Nat}(bo:(p:Int)=at_)(h:k<8)(h':k'<8)(n:k≠k'):chN c at_ k p≠chN c at_ k' p:=by
 unfold chN;rw[if_pos bo,if_pos bo];omega
structure W2(c at_:Int)(eE:Nat)(cp:List Str):Prop where
 cps:∀k x,cp[k]? =some x→x.cps.toList=(List.range eE).map (chN c at_ k)
theorem W2.name{c at_:Int}{eE:Nat}{cp:List Str}(h:W2 c at_ eE cp)(aB:1≤eE)(aC:eE≤8):∀n∈cp,eS n=true:=λn br=>by
 obtain⟨k,aD⟩:=List.getElem?_of_mem br;have e:=h.cps k n aD;rw[ZcR,oi,e];refine⟨by simpa using aB,by simpa using aC,λx ax=>?_⟩;obtain⟨i,_,rfl⟩:=Jq.mp ax;exact Zf9 c at_ k i
theorem W2.nodup{c at_:Int}{eE:Nat}{cp:List Str}(h:W2 c at_ eE cp)(ap:cp.length≤8)(cv:0≤at_)(aB:at_<(eE:Int)):cp.Nodup:=by
 rw[List.nodup_iff_pairwise_ne,List.pairwise_iff_getElem];intro i j hi bW hij e;have bu:=h.cps i _ (Qq hi);have bJ:=h.cps j _ (Qq bW);rw[e,bJ] at bu;have bo:at_.toNat<eE:=by omega
 have d3:=congrArg (λl=>l[at_.toNat]?) bu;simp[bo] at d3;exact ZfM (c:=c) (at_:=at_) (k:=j) (k':=i) (p:=at_.toNat) (by omega) (by omega) (by omega) (by omega) d3
noncomputable def gH (xss:List (List Int)):List PyData:=xss.map λxs=> .list (xs.map PyData.int)
theorem rF:∀xss:List (List Int),PyData.canLayAll0 (gH xss)=true
 | []=>by simp[gH,PyData.canLayAll0]
 |xs::xss=>by
  have aB:=rF xss;have aC:=gw xs;unfold gH at aB⊢;rw[List.map_cons,PyData.canLayAll0,aC,aB]
  rfl
theorem i3(xss:List (List Int)):(PyData.list (gH xss)).canLay0=true:=by
 rw[PyData.canLay0];exact rF xss
theorem rG:∀xss:List (List Int),PyData.depthAll (gH xss)≤3
 | []=>by simp[gH,PyData.depthAll]
 |xs::xss=>by
  have aB:=rG xss;have aC:=nH xs;unfold gH at aB⊢;simp only[List.map_cons,PyData.depthAll,PyData.depth] at aB⊢;omega
theorem om(xss:List (List Int)):(PyData.list (gH xss)).depth≤60:=by
 have:=rG xss;simp only[PyData.depth];omega
theorem i4{K:Frag}{H:Hp}:∀{ys:List V}{xss:List (List Int)},c7 H ys xss→DRels K H ys (gH xss)
 |_,_,.nil=> .nil
 |_,_,.cons ⟨t,e,h⟩ r=>by rw[e];exact .cons (dj.ints (.of h)) (i4 r)
theorem v0(b:B5):b.d.canLay0=true:=by simp[B5.d,PyData.canLay0,PyData.canLayAll0]
theorem ZdU(b:B5):b.d.depth≤2:=by simp[B5.d,PyData.depth,PyData.depthAll]
theorem rH:∀bE:List B5,PyData.canLayAll0 (bE.map B5.d)=true
 | []=>by simp[PyData.canLayAll0]
 |b::bE=>by
  have:=rH bE;simp only[List.map_cons,PyData.canLayAll0,v0 b,Bool.true_and];exact this
theorem rJ(bE:List B5):(PyData.list (bE.map B5.d)).canLay0=true:=by
 have:=rH bE;simp[PyData.canLay0];simpa using this
theorem rK:∀bE:List B5,PyData.depthAll (bE.map B5.d)≤3
 | []=>by simp[PyData.depthAll]
 |b::bE=>by
  have aB:=rK bE;have aC:=ZdU b;simp only[List.map_cons,PyData.depthAll];omega
theorem rL(bE:List B5):(PyData.list (bE.map B5.d)).depth≤60:=by
 have:=rK bE;simp only[PyData.depth];omega
theorem v1{K:Frag}{H:Hp}{t:Addr}{b:B5}(h:H t=some (.tup b.v)):dj K H (.ref t) b.d:= .tup (.of h) (.cons (.int _) (.cons (.int _) (.cons (.int _) (.cons (.int _) (.cons (.int _) .nil)))))
theorem on{K:Frag}{H:Hp}:∀{bs:List V}{bE:List B5},d1 H bs bE→DRels K H bs (bE.map B5.d)
 |_,_,.nil=> .nil
 |_,_,.cons ⟨t,e,h⟩ r=>by rw[e];exact .cons (v1 h) (on r)
theorem rM{cm gQ:Type}{P:cm→gQ→Prop}:∀{xs:List cm}{ys:List gQ},xs.length=ys.length→(∀(i:Nat) x y,xs[i]? =some x→ys[i]? =some y→P x y)→Paired P xs ys
 | [],[],_,_=> .nil
 |x::xs,y::ys,ap,h=> .cons (h 0 x y rfl rfl) (rM (by simpa using ap) λi a b bu bJ=>h (i+1) a b (by simpa using bu) (by simpa using bJ))
theorem UG{rs:List Int}{xss:List (List Int)}(h:∀i<rs.length,((xss.getD i []).length:Int)≤rs.getD i 0):∀i≤rs.length,((fillL rs xss i).length:Int)=d9 rs i
 |0,_=>by simp[fillL,d9]
 |i+1,hi=>by
  have b0:=UG h i (by omega);have e3:i<rs.length:=hi;have a:=h i e3;unfold fillL;have e:d9 rs (i+1)=d9 rs i+rs.getD i 0:=by
   unfold d9;rw[Qo e3,List.sum_append,cY e3];simp
  rw[e,←b0,Qh,Qh,Qy];omega
theorem Zak{rs:List Int}{xss:List (List Int)}{i:Nat}:∀n,i≤n→∃rest,fillL rs xss n=fillL rs xss i++rest
 |0,h=>by
  obtain rfl:i=0:=by omega
  exact⟨[],by simp⟩
 |n+1,h=>by
  by_cases e:i=n+1
  ·exact⟨[],by simp[e]⟩
  ·obtain⟨r,aH⟩:=Zak (rs:=rs) (xss:=xss) n (show i≤n by omega);exact⟨r++(xss.getD n []++List.replicate (rs.getD n 0-((xss.getD n []).length:Int)).toNat 0),by rw[←QT,←aH];rfl⟩
theorem Zdj{rs cA:List Int}{xss:List (List Int)}(a3:eL rs cA)(bo:gF xss cA):oa rs cA (fillL rs xss rs.length)=xss:=by
 have aB:=a3.1;have aC:=bo.1;unfold oa;refine Jh (by simp;omega) λi jC fl=>?_;have aH:i<rs.length:=by omega
 have a:=bo.2 i fl;have le:∀j<rs.length,((xss.getD j []).length:Int)≤rs.getD j 0:=λj bW=>by
  have:=a3.2 j bW;have:=bo.2 j (by omega);omega
 obtain⟨rest,v2⟩:=Zak (rs:=rs) (xss:=xss) (i:=i+1) rs.length (by omega);have a':=UG le i (by omega);have e:(d9 rs i).toNat=(fillL rs xss i).length:=by omega
 have bJ:(cA.getD i 0).toNat=(xss.getD i []).length:=by omega
 rw[List.getElem_map,List.getElem_range,e,bJ,v2,show fillL rs xss (i+1)=fillL rs xss i++(xss.getD i []++List.replicate (rs.getD i 0-((xss.getD i []).length:Int)).toNat 0) from rfl];rw[QT,List.drop_left,QT,List.take_left,cY fl]
theorem UU{rs:List Int}{xss:List (List Int)}(h:∀xs∈xss,lT xs):∀i,∀x∈fillL rs xss i,x.natAbs≤10 ^ 31
 |0,x,ax=>by simp[fillL] at ax
 |i+1,x,ax=>by
  unfold fillL at ax;rcases QG.mp ax with z|z
  ·exact UU h i x z
  ·rcases QG.mp z with z|z
   ·by_cases hi:i<xss.length
    ·rw[cY hi] at z;exact h _ (Qn hi) x z
    ·rw[show xss.getD i []=[] by simp[List.getD,hi]] at z;cases z
   ·rw[(List.mem_replicate.mp z).2]
    decide
local macro_rules| `(tactic|walk_at "rd")=>`(tactic|first|with_reducible (first|(show ∃a aO fs,L2.V.ref _=L2.V.ref a∧_∧List.lookup _ fs=none∧_;refine Nm.Zdo (by with_reducible assumption) (by k_dflt (decide+kernel)) (by k_dflt (decide+kernel)) ?_)|refine L2.Rd.ZhJ (by with_reducible assumption) (by with_reducible assumption) (by with_reducible assumption) ?_|refine L2.Rd.Zhh (by with_reducible assumption) (by with_reducible assumption) (by with_reducible assumption) ?_)|fail "none here")
def WO{K:Frag}{mg:Str→Option Value}(T:Tp K mg):Sp:=λvs H Q _=>∃(p:Addr)(ns:List Int)(k:Int),vs=[.ref p,.int k]∧SqL K H p (ns.map V.int)∧ns.length≤63∧0≤k∧k≤100000∧Q (.int (cellX ns k)) H
theorem Zbp{K:Frag}{mg:Str→Option Value}{T:Tp K mg}{H:Hp}{Q:VK}{E:XK}{p:Addr}{ns:List Int}{k:Int}(el:SqL K H p (ns.map V.int))(ap:ns.length≤63)(aD:0≤k∧k≤100000)(q:Q (.int (cellX ns k)) H):WO T ([.ref p,.int k]++ []) H Q E:=⟨p,ns,k,rfl,el,ap,aD.1,aD.2,q⟩
local macro_rules| `(tactic|walk_at "rd")=>`(tactic|first|((with_reducible show Nm.WO _ _ _ _ _);with_reducible refine Nm.Zbp (by walk_at "hp") (by assumption) (by omega) ?_)|fail "none here")
section
variable {P:Program}{w:World}{K:Frag}{mg:Str→Option Value}{base:Heap}
theorem ii(T:Tp K mg):OkN P w base 1 T.x0 (WO T):=by
 refine T.x0.F.okX n9 (λvs H Q E h=>?_) (λbU A outer s H vs Q E aH h=>?_)
 ·obtain⟨p,ns,k,rfl,_⟩:=h
  rfl
 ·have hu:=aH.hu;obtain⟨p,ns,k,rfl,el,cJ,k0,k1,q⟩:=h;unfold cellX at q;refine⟨_,(bz (dq (dA (f7 (K:=K) rfl hu) (cL (eh K) (by rfl) T.c Qk (av (pv 0) aJ)) Zf (c4 _)) (bQ (cD Zf)) dz)
     (bz (ci (i:=2) n9.nd rfl (Or.inl rfl) (bB ey (pv 1) (cL (eh K) (by rfl) T.c Qk (av (pv 0) aJ))))
     (bz (ci (i:=3) n9.nd rfl (Or.inl rfl) (ef (ixk K) (pv 0) (bB c3 (pv 1) (cL (eh K) (by rfl) T.c Qk (av (pv 0) aJ))) (λ_ _=>rfl)))
     (bz (dq (dA (f7 (K:=K) rfl hu) (pv 2) Zf (c4 _)) (bQ (cD (pv 3))) dz)
     (bQ (cD (bB (d0 K) (bB c3 (bB e2 (pv 3) (bB (d0 K) (bB e2 Zf (pv 2)) Zf)) Zf) (bB e2 Zf (pv 2))))))))),?_⟩
  try dsimp only[L2.cxX,L2.ZJ,L2.Zl]
  walk_at "rds";refine Rd.ifD (λd=>?_) (λd=>?_)
  ·have d':(ns.length:Int)=0:=by simpa using d
   rw[if_pos d'] at q;walk_at "rds";exact q
  ·have d':¬(ns.length:Int)=0:=by simpa using d
   rw[if_neg d'] at q;have e:((ns.map V.int).length:Int)=ns.length:=by simp
   have BK:0<((ns.map V.int).length:Int):=by omega
   have BL:((ns.map V.int).length:Int).natAbs.log2<9000:=oj (by rw[Qa];omega);have a2:=Wc (ns:=ns) (k:=k % (ns.map V.int).length) (QI _ (by omega)) (by rw[e];exact QA _ (by omega));have iZ:0≤k / ((ns.map V.int).length:Int):=Int.ediv_nonneg k0 (by omega);have i1:k / ((ns.map V.int).length:Int)≤k:=Int.ediv_le_self _ k0;have rN:IntMulOk (ns.getD (k % ((ns.map V.int).length:Int)).toNat 0) (2*(k / ((ns.map V.int).length:Int))+1):=IntMulOk.of_right (Qv (ob (n:=30) (by omega)) (by decide));rw[←e] at q;walk_at "rds";refine Rd.ifD (λgB=>?_) (λgB=>?_)
   ·rw[if_pos gB] at q;walk_at "rds";exact q
   ·rw[if_neg gB] at q;walk_at "rds";exact q
end
def v3{K:Frag}{mg:Str→Option Value}(T:Tp K mg):Sp:=λvs H Q _=>∃x:Str,vs=[.str x]∧x.length≤sizeLine∧∀H',Zd H H'→Q (.bl (eS x)) H'
noncomputable def letter (c:Nat):Bool:=decide (97≤c)&&decide (c≤122)
theorem rO(c d:Nat):decide ((⟨#[c]⟩:Str).cps.toList<(⟨#[d]⟩:Str).cps.toList)=decide (c<d):=by
 show decide ([c]< [d])=decide (c<d);have e:([c]< [d])↔c<d:=by
  constructor
  ·intro h;cases h with
   |rel h=>exact h
   |cons h=>cases h
  ·exact λh=> .rel h
 by_cases h:c<d
 ·rw[decide_eq_true h,decide_eq_true (e.mpr h)]
 ·rw[decide_eq_false h,decide_eq_false (λz=>h (e.mp z))]
theorem v4:("a" :Str)=⟨#[97]⟩:=by decide+kernel
theorem v5:("z" :Str)=⟨#[122]⟩:=by decide+kernel
theorem Zcp(x:Str):(((List.range x.cps.size).map λi=>letter (x.cps.getD i 0)).all id)=x.cps.toList.all letter:=by
 rw[List.all_map,QQ,QV,QV]
 constructor
 ·intro h c aw;obtain⟨i,hi,rfl⟩:=List.getElem_of_mem aw;have e3:i<x.cps.size:=by simpa using hi
  have:=h i (Ja.mpr e3);simpa[Array.getD,e3] using this
 ·intro h i hi;have e3:=Ja.mp hi;have:=h x.cps[i] (by simp);simpa[Array.getD,e3] using this
theorem VA(x:Str):eS x=(decide (1≤x.length)&&decide (x.length≤8)&&x.cps.toList.all letter):=rfl
section
variable {P:Program}{w:World}{K:Frag}{mg:Str→Option Value}{base:Heap}
theorem v6(T:Tp K mg):OkN P w base 1 T.x1 (v3 T):=by
 refine T.x1.F.okX vB (λvs H Q E h=>?_) (λbU A outer s H vs Q E aH h=>?_)
 ·obtain⟨x,rfl,_⟩:=h
  rfl
 ·have hu:=aH.hu;obtain⟨x,rfl,ax,q⟩:=h;refine⟨_,(bz (dq (fu (e4 (K:=K) rfl (cL (jv (K:=K) rfl) (by rfl) T.a Ql (av (pv 0) (av (hc (v:= .ty "str") (by rfl) T.bl PyProof.Rows.boot_str rfl) aJ))) (λ_=>rfl))) (bQ (cD YW)) dz)
     (bz (dq (PW.pt (fV (dA pT (cL (eh K) (by rfl) T.c Qk (av (pv 0) aJ)) Zf (c4 _)) (gf (dA pU (cL (eh K) (by rfl) T.c Qk (av (pv 0) aJ)) (jh (v:= .int 8) rfl T.G ⟨_,rfl⟩) (c4 _))))) (bQ (cD YW)) dz)
     (bQ (cD (cL (nJ (K:=K) rfl rfl) (by rfl) T.aE Jc (av (qn rfl (f5 (x:="sign") (zs:=[]) (ix:=[]) (b4 n0) ["thing"] rfl rfl (by decide+kernel)) (uu (pv 0)) (λcl C s H fp=>⟨(cE (i:=0) (show(["sign"]:List Str).Nodup by decide+kernel) rfl (Or.inl rfl)),f0,(tm qv qv Yp (pv 0) Yp)⟩)) aJ)))))),?_⟩
  try dsimp only[L2.cxX,L2.ZJ,L2.Zl]
  walk_at "rds";refine Uo (λc=>?_) (λc=>?_)
  ·have cH:¬1≤x.length:=by simp at c;omega
   walk_at "rds";have e:eS x=false:=by rw[VA,decide_eq_false cH];rfl
   rw[←e];exact q H (Zd.refl H)
  ·have cH:1≤x.length:=by simp at c;omega
   walk_at "rds";refine Uo (λd=>?_) (λd=>?_)
   ·have d':¬x.length≤8:=by simp at d;omega
    walk_at "rds";have e:eS x=false:=by rw[VA,decide_eq_false d',Bool.and_false];rfl
    rw[←e];exact q H (Zd.refl H)
   ·have d':x.length≤8:=by simp at d;omega
    have br:x.cps.size<sizeLine:=dO (by have:x.cps.size=x.length:=rfl;omega);walk_at "rds";refine VP Zdu br (λ_=>true) (λi=> .bl (letter (x.cps.getD i 0))) (λi H' cM hi bD k=>?_) (λi H' cM hi _ bD k=>?_) (λp H' bo bD ap=>?_)
    ·walk_at "rds";exact k H' (Zd.refl H')
    ·walk_at "rds";rw[v4,v5,rO];generalize x.cps.getD i 0=dx at k⊢;refine Uo (λz=>?_) (λz=>?_)
     ·walk_at "rds";have e:(!decide (122<dx))=letter dx:=by
       have eF:97≤dx:=by simpa using z
       unfold letter;rw[decide_eq_true eF,Bool.true_and]
       by_cases y:dx≤122
       ·rw[decide_eq_true y,decide_eq_false (by omega)];rfl
       ·rw[decide_eq_false y,decide_eq_true (by omega)];rfl
      rw[rO,e];exact k H' (Zd.refl H')
     ·have e:false=letter dx:=by
       have eF:¬97≤dx:=by simpa using z
       unfold letter;rw[decide_eq_false eF];rfl
      rw[e];exact k H' (Zd.refl H')
    ·have eI:H' p=some (.lst (((List.range x.cps.size).map λi=>letter (x.cps.getD i 0)).map V.bl)):=by
      rw[ap,Qx.mpr (by simp),List.map_map];rfl
     walk_at "rds";rw[Zcp];have e:x.cps.toList.all letter=eS x:=by rw[VA,decide_eq_true cH,decide_eq_true d'];rfl
     rw[e];exact q H' bD
end
def rP{K:Frag}{mg:Str→Option Value}(T:Tp K mg):Sp:=λvs H Q E=>∃(p:Addr)(x:Str)(ap:HM)(fp:List Addr),vs=[.ref p,.str x]∧cQ T H p ap fp∧x.length≤sizeLine∧ap.names.length≤1000∧
 (eS x=false→∀H',Zd H H'→E (.ref T.aL) none H')∧(eS x=true→x∈ap.names→∀H',Zd H H'→E (.ref T.aU) none H')∧
 (eS x=true→x∉ap.names→30≤ap.names.length→∀H',Zd H H'→E (.ref T.T) none H')∧
 (eS x=true→x∉ap.names→ap.names.length<30→∀(H':Hp)(dM:List Addr),cQ T H' p ⟨ap.names++ [x],ap.belts⟩ dM→Yh fp H H'→Wo fp dM H→Q (.int ap.names.length) H')
theorem Zbe{K:Frag}{mg:Str→Option Value}{T:Tp K mg}{H:Hp}{Q:VK}{E:XK}{p:Addr}{x:Str}{ap:HM}{fp:List Addr}(h:cQ T H p ap fp)(br:eS x=true)(ax:x∉ap.names)(cJ:ap.names.length<30)
  (q:∀(H':Hp)(dM:List Addr),cQ T H' p ⟨ap.names++ [x],ap.belts⟩ dM→Yh fp H H'→Wo fp dM H→Q (.int ap.names.length) H'):rP T (.ref p::([.str x]++ [])) H Q E:=by
 have v7:x.length≤sizeLine:=by
  have:x.length≤8:=by
   have e:=br;unfold eS at e;simp only[QO,decide_eq_true_eq] at e;exact e.1.2
  exact QJ (dO (by omega))
 exact⟨p,x,ap,fp,rfl,h,v7,by omega,λz=>(by rw[br] at z;cases z),λ_ z=>absurd z ax,λ_ _ z=>absurd z (by omega),λ_ _ _=>q⟩
section
variable {P:Program}{w:World}{K:Frag}{mg:Str→Option Value}{base:Heap}
theorem v8(T:Tp K mg):OkM P w mg base 2 T.x2 (rP T):=by
 have i5:=T.f;have i6:=T.i;refine T.x2.F.okX rv (λvs H Q E h=>?_) (λbU A outer s H vs Q E aH h=>?_)
 ·obtain⟨p,x,ap,fp,rfl,_⟩:=h
  rfl
 ·have hu:=aH.hu;obtain⟨p,x,ap,fp,rfl,b8,ax,bw,bu,bJ,d3,q⟩:=h;obtain⟨aO,a,b,bs,rfl,aB,aC,b_,cu,gI,dC⟩:=id b8;have jD:p≠a:=hS aB b_ (by intro z;cases z);have oo:aO≠a:=hS aC b_ (by intro z;cases z);refine⟨_,(bz (dq (fu (e4 (K:=K) rfl (cx T.x1 (v6 T) aH cs (av (pv 1) aJ)) (λ_=>rfl))) (bQ (gv T.ai.g T.ai.e Qr rfl (av Yp aJ))) dz)
     (bz (dq (dA (uF hu) (pv 1) (hA (K:=K) rfl (pv 0) rfl) (by with_unfolding_all rfl)) (bQ (gv T.az.g T.az.e Qr rfl (av Yp aJ))) dz)
     (bz (dq (dA lc (cL Zc4 (by rfl) T.c Qk (av (hA (K:=K) rfl (pv 0) rfl) aJ)) (jh (v:= .int 30) rfl T.Z ⟨_,rfl⟩) (c4 _)) (bQ (gv T.t.g T.t.e Qr rfl (av Yp aJ))) dz)
     (bz (ci (i:=2) rv.nd rfl (Or.inl rfl) (cL Zc4 (by rfl) T.c Qk (av (hA (K:=K) rfl (pv 0) rfl) aJ)))
     (bz (la (pv 2) (k9 (hA (K:=K) rfl (pv 0) rfl) (pv 1) (uG hu)))
     (bQ (cD (pv 2)))))))),?_⟩
  try dsimp only[L2.cxX,L2.ZJ,L2.Zl]
  walk_at "rds";refine⟨x,rfl,ax,λaq gJ=>?_⟩;have g1:=gJ _ _ aB;have g3:=gJ _ _ b_;have kx:(numsOf ap.names).length<sizeLine:=dO (by rw[Wx];exact bw);walk_at "rds";cases br:eS x with
  |false=>
   walk_at "rds";exact bu br aq gJ
  |true=>
   walk_at "rds";rw[Zag];refine Uo (λc=>?_) (λc=>?_)
   ·walk_at "rds";exact bJ br (of_decide_eq_true c) aq gJ
   ·have cH:x∉ap.names:=λz=>c (decide_eq_true z);walk_at "rds";rw[Wx];refine Uo (λd=>?_) (λd=>?_)
    ·have d':30≤ap.names.length:=by simp at d;omega
     walk_at "rds";exact d3 br cH d' aq gJ
    ·have d':ap.names.length<30:=by simp at d;omega
     walk_at "rds";rw[Wx,vV cH];have ei:Yh [p,aO,a,b] H (upd aq a (.dK (numsOf (ap.names++ [x])))):=gJ.frame.trans (ju (by simp) g3 (by intro _ z;cases z));refine q br cH d' _ [p,aO,a,b] ⟨aO,a,b,bs,rfl,?_,?_,Ze,?_,gI,dC.keep ei.tups⟩ ei Wo.refl
     ·rw[bV jD];exact g1
     ·rw[bV oo];exact gJ _ _ aC
     ·rw[bV gI.symm];exact gJ _ _ cu
end
def WW{K:Frag}{mg:Str→Option Value}(T:Tp K mg):Sp:=λvs H Q _=>∃i:Int,vs=[.int i]∧Q (.bl true) H
theorem ZbX{K:Frag}{mg:Str→Option Value}{T:Tp K mg}{H:Hp}{Q:VK}{E:XK}{i:Int}(q:Q (.bl true) H):WW T ([.int i]++ []) H Q E:=⟨i,rfl,q⟩
local macro_rules| `(tactic|walk_at "rd")=>`(tactic|first|((with_reducible show Nm.WW _ _ _ _ _);with_reducible refine Nm.ZbX ?_)|fail "none here")
section
variable {P:Program}{w:World}{K:Frag}{mg:Str→Option Value}{base:Heap}
theorem v9(T:Tp K mg):OkN P w base 1 T.x3 (WW T):=by
 refine T.x3.F.okX vC (λvs H Q E h=>?_) (λbU A outer s H vs Q E aH h=>?_)
 ·obtain⟨i,rfl,_⟩:=h
  rfl
 ·have hu:=aH.hu;obtain⟨i,rfl,q⟩:=h;refine⟨_,(bQ (cD (j0 (cL (jv (K:=K) rfl) (by rfl) T.a Ql (av (pv 0) (av (hc (v:= .ty "int") (by rfl) T.aF Jd rfl) aJ))) (jZ (s1 (cL (jv (K:=K) rfl) (by rfl) T.a Ql (av (pv 0) (av (hc (v:= .ty "bool") (by rfl) T.aK PyProof.Rows.boot_bool rfl) aJ)))))))),?_⟩
  try dsimp only[L2.cxX,L2.ZJ,L2.Zl]
  walk_at "rds";exact q
end
def Va{K:Frag}{mg:Str→Option Value}(T:Tp K mg):Sp:=λvs H Q _=>∃i l:Int,vs=[.int i,.int l]∧Q (.bl (decide (l≤i))) H
theorem Zcs{K:Frag}{mg:Str→Option Value}{T:Tp K mg}{H:Hp}{Q:VK}{E:XK}{i l:Int}(q:Q (.bl (decide (l≤i))) H):Va T ([.int i,.int l]++ []) H Q E:=⟨i,l,rfl,q⟩
local macro_rules| `(tactic|walk_at "rd")=>`(tactic|first|((with_reducible show Nm.Va _ _ _ _ _);with_reducible refine Nm.Zcs ?_)|fail "none here")
section
variable {P:Program}{w:World}{K:Frag}{mg:Str→Option Value}{base:Heap}
theorem kG(T:Tp K mg):OkN P w base 2 T.x4 (Va T):=by
 refine T.x4.F.okX vD (λvs H Q E h=>?_) (λbU A outer s H vs Q E aH h=>?_)
 ·obtain⟨i,l,rfl,_⟩:=h
  rfl
 ·have hu:=aH.hu;obtain⟨i,l,rfl,q⟩:=h;refine⟨_,(bQ (cD (j0 (cx T.x3 (v9 T) aH cs (av (pv 0) aJ)) (jZ (iF lc (pv 0) (pv 1) (c4 _)))))),?_⟩
  try dsimp only[L2.cxX,L2.ZJ,L2.Zl]
  walk_at "rds";exact q
end
def v_{K:Frag}{mg:Str→Option Value}(T:Tp K mg):Sp:=λvs H Q E=>∃i:Int,vs=[.int i]∧(¬0≤i→E (.ref T.al) none H)∧(0≤i→Q .non H)
section
variable {P:Program}{w:World}{K:Frag}{mg:Str→Option Value}{base:Heap}
theorem wa(T:Tp K mg):OkN P w base 3 T.x5 (v_ T):=by
 refine T.x5.F.okX vE (λvs H Q E h=>?_) (λbU A outer s H vs Q E aH h=>?_)
 ·obtain⟨i,rfl,_⟩:=h
  rfl
 ·have hu:=aH.hu;obtain⟨i,rfl,bu,q⟩:=h;refine⟨_,(bQ (dq (fu (e4 (K:=K) rfl (cx T.x4 (kG T) aH cs (av (pv 0) (av Zf aJ))) (λ_=>rfl))) (bQ (gv T.y.g T.y.e Qr rfl (av Yp aJ))) dz)),?_⟩
  try dsimp only[L2.cxX,L2.ZJ,L2.Zl]
  walk_at "rds"
  by_cases c:0≤i
  ·rw[decide_eq_true c];walk_at "rds";exact q c
  ·rw[decide_eq_false c];walk_at "rds";exact bu c
end
def YT{K:Frag}{mg:Str→Option Value}(T:Tp K mg):Sp:=λvs H Q _=>∃i b:Int,vs=[.int i,.int b]∧Q (.bl (decide (0≤i∧i<b))) H
theorem VQ{K:Frag}{mg:Str→Option Value}{T:Tp K mg}{H:Hp}{Q:VK}{E:XK}{i b:Int}(q:Q (.bl (decide (0≤i∧i<b))) H):YT T ([.int i,.int b]++ []) H Q E:=⟨i,b,rfl,q⟩
local macro_rules| `(tactic|walk_at "rd")=>`(tactic|first|((with_reducible show Nm.YT _ _ _ _ _);with_reducible refine Nm.VQ ?_)|fail "none here")
section
variable {P:Program}{w:World}{K:Frag}{mg:Str→Option Value}{base:Heap}
theorem wb(T:Tp K mg):OkN P w base 3 T.x6 (YT T):=by
 refine T.x6.F.okX vF (λvs H Q E h=>?_) (λbU A outer s H vs Q E aH h=>?_)
 ·obtain⟨i,b,rfl,_⟩:=h
  rfl
 ·have hu:=aH.hu;obtain⟨i,b,rfl,q⟩:=h;refine⟨_,(bQ (cD (j0 (cx T.x4 (kG T) aH cs (av (pv 0) (av Zf aJ))) (jZ (iF pT (pv 0) (pv 1) (c4 _)))))),?_⟩
  try dsimp only[L2.cxX,L2.ZJ,L2.Zl]
  walk_at "rds";refine Uo (λc=>?_) (λc=>?_)
  ·have cH:0≤i:=of_decide_eq_true c;walk_at "rds";have e:decide (i<b)=decide (0≤i∧i<b):=by rw[decide_eq_decide];exact⟨λz=>⟨cH,z⟩,λz=>z.2⟩
   rw[e];exact q
  ·have cH:¬0≤i:=λz=>c (decide_eq_true z);walk_at "rds";have e:false=decide (0≤i∧i<b):=(decide_eq_false (λz=>cH z.1)).symm;rw[e];exact q
end
def wc{K:Frag}{mg:Str→Option Value}(T:Tp K mg):Sp:=λvs H Q E=>∃(p:Addr)(i:Int)(ap:HM)(fp:List Addr),vs=[.ref p,.int i]∧cQ T H p ap fp∧
 (¬(0≤i∧i<ap.names.length)→E (.ref T.aj) none H)∧(0≤i→i<ap.names.length→Q .non H)
section
variable {P:Program}{w:World}{K:Frag}{mg:Str→Option Value}{base:Heap}
theorem rQ(T:Tp K mg):OkM P w mg base 4 T.x7 (wc T):=by
 have i5:=T.f;have i6:=T.i;refine T.x7.F.okX vG (λvs H Q E h=>?_) (λbU A outer s H vs Q E aH h=>?_)
 ·obtain⟨p,i,ap,fp,rfl,_⟩:=h
  rfl
 ·have hu:=aH.hu;obtain⟨p,i,ap,fp,rfl,b8,bu,q⟩:=h;obtain⟨aO,a,b,bs,rfl,aB,aC,b_,cu,gI,dC⟩:=id b8;refine⟨_,(bQ (dq (fu (e4 (K:=K) rfl (cx T.x6 (wb T) aH cs (av (pv 1) (av (cL Zc4 (by rfl) T.c Qk (av (hA (K:=K) rfl (pv 0) rfl) aJ)) aJ))) (λ_=>rfl))) (bQ (gv T.ak.g T.ak.e Qr rfl (av Yp aJ))) dz)),?_⟩
  try dsimp only[L2.cxX,L2.ZJ,L2.Zl]
  walk_at "rds";rw[Wx]
  by_cases c:0≤i∧i<ap.names.length
  ·rw[decide_eq_true c];walk_at "rds";exact q c.1 c.2
  ·rw[decide_eq_false c];walk_at "rds";exact bu c
end
def wd{K:Frag}{mg:Str→Option Value}(T:Tp K mg):Sp:=λvs H Q E=>∃(p u:Addr)(b:B5)(ap:HM)(fp:List Addr),vs=[.ref p,.ref u]∧cQ T H p ap fp∧H u=some (.tup b.v)∧ap.belts.length≤1000∧
 ∀(H':Hp)(dM:List Addr),cQ T H' p ⟨ap.names,ap.belts++ [b]⟩ dM→Yh fp H H'→Wo fp dM H→Q (.int ap.belts.length) H'
section
variable {P:Program}{w:World}{K:Frag}{mg:Str→Option Value}{base:Heap}
theorem we(T:Tp K mg):OkM P w mg base 1 T.x8 (wd T):=by
 have i5:=T.f;have i6:=T.i;refine T.x8.F.okX vH (λvs H Q E h=>?_) (λbU A outer s H vs Q E aH h=>?_)
 ·obtain⟨p,u,b,ap,fp,rfl,_⟩:=h
  rfl
 ·have hu:=aH.hu;obtain⟨p,u,b,ap,fp,rfl,b8,lU,bw,q⟩:=h;obtain⟨aO,a,bb,bs,rfl,aB,aC,b_,cu,gI,dC⟩:=id b8;have lV:p≠bb:=hS aB cu (by intro z;cases z);have oq:aO≠bb:=hS aC cu (by intro z;cases z);have BM:u≠bb:=hS lU cu (by intro z;cases z);have kx:bs.length<sizeLine:=dO (by rw[dC.length];exact bw);have rR:=dC.length;refine⟨_,(bz (dH (eR (K:=K) rfl Qe Qf Qg eY (hA (K:=K) rfl (pv 0) rfl) (av (pv 1) aJ)))
     (bQ (cD (bB hZ (cL (eh K) (by rfl) T.c Qk (av (hA (K:=K) rfl (pv 0) rfl) aJ)) Zf)))),?_⟩
  try dsimp only[L2.cxX,L2.ZJ,L2.Zl]
  walk_at "rds";have k1:(upd H bb (.lst (bs++ [.ref u]))) p=some (.ins T.o aO [("numbers",.ref a),("rows",.ref bb)]):=by rw[bV lV];exact aB
  have rS:(upd H bb (.lst (bs++ [.ref u]))) bb=some (.lst (bs++ [.ref u])):=Ze;walk_at "rds";have lJ:((bs++ [V.ref u]).length:Int)-1=ap.belts.length:=by simp[rR]
  rw[lJ];have ei:Yh [p,aO,a,bb] H (upd H bb (.lst (bs++ [.ref u]))):=ju (by simp) cu (by intro _ z;cases z);refine q _ [p,aO,a,bb] ⟨aO,a,bb,_,rfl,k1,?_,?_,rS,gI,(dC.keep ei.tups).snoc (ei.tups _ _ lU)⟩ ei Wo.refl
  ·rw[bV oq];exact aC
  ·rw[bV gI];exact b_
end
def ot{K:Frag}{mg:Str→Option Value}(T:Tp K mg):Sp:=λvs H Q E=>∃(p:Addr)(b:B5)(ap:HM)(fp:List Addr),vs= .ref p::b.v∧cQ T H p ap fp∧ap.belts.length≤1000∧
 (¬(0≤b.giver∧b.giver<ap.names.length∧0≤b.taker∧b.taker<ap.names.length)→∀H',Zd H H'→E (.ref T.aj) none H')∧
 ((0≤b.giver∧b.giver<ap.names.length∧0≤b.taker∧b.taker<ap.names.length)→¬(1≤b.give∧1≤b.take∧0≤b.start)→∀H',Zd H H'→E (.ref T.al) none H')∧
 ((0≤b.giver∧b.giver<ap.names.length∧0≤b.taker∧b.taker<ap.names.length)→(1≤b.give∧1≤b.take∧0≤b.start)→60≤ap.belts.length→∀H',Zd H H'→E (.ref T.T) none H')∧
 ((0≤b.giver∧b.giver<ap.names.length∧0≤b.taker∧b.taker<ap.names.length)→(1≤b.give∧1≤b.take∧0≤b.start)→ap.belts.length<60→∀(H':Hp)(dM:List Addr),cQ T H' p ⟨ap.names,ap.belts++ [b]⟩ dM→Yh fp H H'→Wo fp dM H→Q (.int ap.belts.length) H')
theorem ZbA{K:Frag}{mg:Str→Option Value}{T:Tp K mg}{H:Hp}{Q:VK}{E:XK}{p:Addr}{g t gK cw st:Int}{ap:HM}{fp:List Addr}(h:cQ T H p ap fp)
  (aB:0≤g) (aC:g<ap.names.length) (b_:0≤t) (cu:t<ap.names.length) (ew:1≤gK) (dC:1≤cw) (wf:0≤st) (cJ:ap.belts.length<60)
  (q:∀(H':Hp)(dM:List Addr),cQ T H' p ⟨ap.names,ap.belts++ [⟨g,t,gK,cw,st⟩]⟩ dM→Yh fp H H'→Wo fp dM H→Q (.int ap.belts.length) H'):ot T [.ref p,.int g,.int t,.int gK,.int cw,.int st] H Q E:=
 ⟨p,⟨g,t,gK,cw,st⟩,ap,fp,rfl,h,by omega,λz=>absurd ⟨aB,aC,b_,cu⟩ z,λ_ z=>absurd ⟨ew,dC,wf⟩ z,λ_ _ z=>absurd z (by omega),λ_ _ _=>q⟩
section
variable {P:Program}{w:World}{K:Frag}{mg:Str→Option Value}{base:Heap}
theorem wg(T:Tp K mg):Z7 P w K mg base (CXX P w) 5 T.B T.C ["self","giver","taker","give","take","start"] (ot T):=by
 have i5:=T.f;have i6:=T.i;refine T.af.okX vI (λvs H Q E h=>?_) (λbU A outer s H vs Q E aH h=>?_)
 ·obtain⟨p,b,ap,fp,rfl,_⟩:=h
  rfl
 ·have hu:=aH.hu;obtain⟨p,b,ap,fp,rfl,b8,bw,bu,bJ,d3,q⟩:=h;obtain⟨aO,a,bb,bs,rfl,aB,aC,b_,cu,gI,dC⟩:=id b8;obtain⟨g,t,gK,cw,st⟩:=b;have rR:=dC.length;refine⟨_,(bz (dH (lA (pv 0) T.f T.x7 (rQ T) aH cs (av (pv 1) aJ)))
     (bz (dH (lA (pv 0) T.f T.x7 (rQ T) aH cs (av (pv 2) aJ)))
     (bz (dq (PW.pt (fV (fu (e4 (K:=K) rfl (cx T.x4 (kG T) aH cs (av (pv 3) (av Zf aJ))) (λ_=>rfl))) (gf (fu (e4 (K:=K) rfl (cx T.x4 (kG T) aH cs (av (pv 4) (av Zf aJ))) (λ_=>rfl)))))) (bQ (gv T.y.g T.y.e Qr rfl (av Yp aJ))) dz)
     (bz (dH (cx T.x5 (wa T) aH cs (av (pv 5) aJ)))
     (bz (dq (dA lc (cL (eh K) (by rfl) T.c Qk (av (hA (K:=K) rfl (pv 0) rfl) aJ)) (jh (v:= .int 60) rfl T.aa ⟨_,rfl⟩) (c4 _)) (bQ (gv T.t.g T.t.e Qr rfl (av Yp aJ))) dz)
     (bQ (cD (lA (pv 0) T.f T.x8 (we T) aH cs (av (gW (av (pv 1) (av (pv 2) (av (pv 3) (av (pv 4) (av (pv 5) aJ)))))) aJ))))))))),?_⟩
  try dsimp only[L2.cxX,L2.ZJ,L2.Zl]
  dsimp only[B5.v] at*;walk_at "rds";refine⟨p,g,ap,_,rfl,b8,λz=>bu (by omega) H (Zd.refl H),λf3 g1=>?_⟩;walk_at "rds";refine⟨p,t,ap,_,rfl,b8,λz=>bu (by omega) H (Zd.refl H),λfS hF=>?_⟩;have et:0≤g∧g<ap.names.length∧0≤t∧t<ap.names.length:=⟨f3,g1,fS,hF⟩;walk_at "rds"
  by_cases c:1≤gK
  ·rw[decide_eq_true c];walk_at "rds"
   by_cases d:1≤cw
   ·rw[decide_eq_true d];walk_at "rds";refine⟨st,rfl,λz=>bJ et (by omega) H (Zd.refl H),λf=>?_⟩;walk_at "rds";refine Rd.ifD (λl=>?_) (λl=>?_)
    ·walk_at "rds";exact d3 et (by omega) (by omega) H (Zd.refl H)
    walk_at "rds";refine⟨by show 5≤sizeLine;decide,λu lU=>?_⟩;have sn:Zd H (upd H u (.tup [.int g,.int t,.int gK,.int cw,.int st])):=cc lU;have jE:=b8.same sn;walk_at "rds";refine⟨p,u,⟨g,t,gK,cw,st⟩,ap,_,rfl,jE,Ze,bw,λH' dM iX ei gr=>?_⟩;refine q et (by omega) (by omega) H' dM iX (sn.frame.trans ei) (λx ax=>?_);rcases gr x ax with z|z
    ·exact .inl z
    ·refine .inr ?_;cases e:H x with
     |none=>rfl
     |some o=>rw[sn _ _ e] at z;cases z
   ·rw[decide_eq_false d];walk_at "rds";exact bJ et (by omega) H (Zd.refl H)
  ·rw[decide_eq_false c];walk_at "rds";exact bJ et (by omega) H (Zd.refl H)
end
def rT{K:Frag}{mg:Str→Option Value}(T:Tp K mg):Sp:=λvs H Q _=>∃p aO:Addr,vs=[.ref p]∧H p=some (.ins T.o aO [])∧H aO=some (.own p)∧
 ∀(H':Hp)(fp:List Addr),cQ T H' p ⟨[],[]⟩ fp→(∀x∈fp,x=p∨x=aO∨H x=none)→(∀b o,H b=some o→b≠p→H' b=some o)→Q .non H'
theorem Zbt{K:Frag}{mg:Str→Option Value}{T:Tp K mg}{H:Hp}{Q:Addr→Hp→Prop}{E:XK}
  (q:∀(p:Addr)(fp:List Addr)(H':Hp),cQ T H' p ⟨[],[]⟩ fp→(∀x∈fp,H x=none)→Zd H H'→Q p H'):
  ∀x aO,H x=none→H aO=none→aO≠x→rT T (.ref x::([]++ [])) (upd (upd H aO (.own x)) x (.ins T.o aO [])) (λv ar=>v= .non∧Q x ar) E:=by
 intro x aO ax ij ne;refine⟨x,aO,rfl,Ze,by rw[bV ne,Ze],λH' fp b8 a' aD=>⟨rfl,q x fp H' b8 (λy bX=>?_) (λb o e=>aD b o ?_ (c8 e ax))⟩⟩
 ·rcases a' y bX with rfl|rfl|h
  ·exact ax
  ·exact ij
  ·by_cases aB:y=x
   ·rw[aB];exact ax
   ·by_cases aC:y=aO
    ·rw[aC];exact ij
    ·rw[bV aB,bV aC] at h;exact h
 ·rw[bV (c8 e ax),bV (c8 e ij)];exact e
local macro_rules| `(tactic|walk_at "rd")=>`(tactic|first|with_reducible refine Nm.Zbt ?_|fail "none here")
section
variable {P:Program}{w:World}{K:Frag}{mg:Str→Option Value}{base:Heap}
theorem wh(T:Tp K mg):OkI P w mg base 1 T.a7 (rT T):=by
 have i5:=T.f;have i6:=T.i;refine T.a7.F.okX vJ (λvs H Q E h=>?_) (λbU A outer s H vs Q E aH h=>?_)
 ·obtain⟨p,aO,rfl,_⟩:=h
  rfl
 ·have hu:=aH.hu;obtain⟨p,aO,rfl,bo,ij,q⟩:=h;refine⟨_,(bz (qC (K:=K) rfl (pv 0) ub rfl)
     (bQ (qC (K:=K) rfl (pv 0) (eu aJ) rfl))),?_⟩
  try dsimp only[L2.cxX,L2.ZJ,L2.Zl]
  walk_at "rds";intro a a2;have jD:p≠a:=c8 bo a2;have oo:aO≠a:=c8 ij a2;have rV:p≠aO:=hS bo ij (by intro z;cases z);have f9:(upd H a (.dK [])) p=some (.ins T.o aO []):=by rw[bV jD];exact bo
  walk_at "rds";refine⟨Qs _,λb ao=>?_⟩;have hG:H b=none:=by
   by_cases aB:b=p
   ·rw[aB,Ze] at ao;cases ao
   ·by_cases aC:b=a
    ·rw[aC];exact a2
    ·rw[bV aB,bV aC] at ao;exact ao
  have lV:p≠b:=c8 bo hG;have oq:aO≠b:=c8 ij hG;have gI:a≠b:=by
   intro z;rw[←z,bV jD.symm,Ze] at ao;cases ao
  have BN:(upd (upd (upd H a (.dK [])) p (.ins T.o aO [("numbers",.ref a)])) b (.lst [])) p=some (.ins T.o aO [("numbers",.ref a)]):=by rw[bV lV,Ze]
  walk_at "rds";refine q _ [p,aO,a,b] ⟨aO,a,b,[],rfl,Ze,?_,?_,?_,gI,.nil⟩ (λx ax=>?_) (λc o e aw=>?_)
  ·rw[bV rV.symm,bV oq,bV rV.symm,bV oo];exact ij
  ·rw[bV jD.symm,bV gI,bV jD.symm,Ze];rfl
  ·rw[bV lV.symm,Ze]
  ·simp only[Qu,Q6,or_false] at ax;rcases ax with rfl|rfl|rfl|rfl
   ·exact .inl rfl
   ·exact .inr (.inl rfl)
   ·exact .inr (.inr a2)
   ·exact .inr (.inr hG)
  ·rw[bV aw,bV (c8 e hG),bV aw,bV (c8 e a2)];exact e
end
def wi{K:Frag}{mg:Str→Option Value}(T:Tp K mg):Sp:=λvs H Q _=>∃(eA eb:Addr)(cp:List Str)(bs:List V)(bE:List B5),vs=[.ref eA,.ref eb]∧SqL K H eA (cp.map V.str)∧(∀n∈cp,eS n=true)∧cp.Nodup∧0<cp.length∧cp.length≤30∧H eb=some (.lst bs)∧d1 H bs bE∧(∀l∈bE,Bel cp.length l)∧bE.length≤60∧
 ∀(p:Addr)(fp:List Addr)(H':Hp),cQ T H' p ⟨cp,bE⟩ fp→(∀x∈fp,H x=none)→Zd H H'→Q (.ref p) H'
section
variable {P:Program}{w:World}{K:Frag}{mg:Str→Option Value}{base:Heap}
theorem wj(T:Tp K mg):OkN P w base 6 T.a8 (wi T):=by
 have wk:Z7 P w K mg base (CXX P w) 5 T.B T.C ["self","giver","taker","give","take","start"] (ot T):=(wg T).mono (by decide);have i5:=T.f;have i6:=T.i;refine T.a8.F.okX ig (λvs H Q E h=>?_) (λbU A outer s H vs Q E aH h=>?_)
 ·obtain⟨eA,eb,cp,bs,bE,rfl,_⟩:=h
  rfl
 ·have hu:=aH.hu;obtain⟨eA,eb,cp,bs,bE,rfl,lW,rW,wl,rX,ie,ik,dX,wm,wn,q⟩:=h;have jF:=dX.length;refine⟨_,(bz (ci (i:=2) ig.nd rfl (Or.inl rfl) (uE T.a7 (wh T) aH T.aW cs))
     (bz (eV PassesOwn.leaving rfl (f8 (K:=K) rfl (pv 0)) (cE (i:=3) ig.nd rfl (Or.inl rfl)) (bQ (dH (lA (pv 2) T.f T.x2 (v8 T) aH cs (av (pv 3) aJ)))))
     (bz (eV PassesOwn.leaving rfl (f8 (K:=K) rfl (pv 1)) (hB (K:=K) (n:=5) rfl rfl (dU (cE (i:=4) ig.nd rfl (Or.inl rfl)) (dU (cE (i:=5) ig.nd rfl (Or.inl rfl)) (dU (cE (i:=6) ig.nd rfl (Or.inl rfl)) (dU (cE (i:=7) ig.nd rfl (Or.inl rfl)) (dU (cE (i:=8) ig.nd rfl (Or.inl rfl)) hf)))))) (bQ (dH (p1 (pv 2) T.f T.ae wk aH T.ag .nil cs (av (pv 4) (av (pv 5) (av (pv 6) (av (pv 7) (av (pv 8) aJ)))))))))
     (bQ (cD (pv 2)))))),?_⟩
  try dsimp only[L2.cxX,L2.ZJ,L2.Zl]
  walk_at "rds";intro bo fp bI b8 a' bD;have BO:=bD.seq lW;walk_at "rds";refine YL (fN lW) (λi σ H'=>∃dM k0,σ=[some (.ref eA),some (.ref eb),some (.ref bo),k0,none,none,none,none,none]∧cQ T H' bo ⟨cp.take i,[]⟩ dM∧Zd H H'∧∀x∈dM,H x=none) ⟨fp,_,rfl,b8,bD,a'⟩ (λi σ H' ⟨_,_,_,_,s,_⟩=>s) ?_ ?_
  ·rintro i σ H' hi ⟨dM,k0,rfl,jE,s',dG⟩;have cV:i<cp.length:=by rw[Qa] at hi;exact hi
   have eP:(cp.map V.str).getD i .non= .str cp[i]:=by simp[List.getD,cV]
   rw[eP];walk_at "rds";have mX:cp[i]∉cp.take i:=by
    have aC:=wl;rw[←List.take_append_drop (i+1) cp,Qo cV] at aC;exact λz=>(List.nodup_append.mp (List.nodup_append.mp aC).1).2.2 _ z _ (by simp) rfl
   refine Zbe jE (rW _ (Qn cV)) mX (by simp;omega) (λar lS iX ei gr=>?_);obtain⟨bt,fJ⟩:=UP s' dG ei gr;refine⟨lS,_,rfl,?_,bt,fJ⟩;rw[Qo cV];exact iX
  ·rintro σ H' ⟨dM,k0,rfl,jE,s',dG⟩;rw[Qa,Ji] at jE;have jk:=s' _ _ ik;walk_at "rds";refine YL (fN (SqL.of ik)) (λi σ H'=>∃(dM:List Addr)(a1 d8 eJ eK a5:Option V),σ=[some (.ref eA),some (.ref eb),some (.ref bo),k0,a1,d8,eJ,eK,a5]∧cQ T H' bo ⟨cp,bE.take i⟩ dM∧Zd H H'∧∀x∈dM,H x=none)
    ⟨dM,_,_,_,_,_,rfl,jE,s',dG⟩ (λi σ H' ⟨_,_,_,_,_,_,_,_,s,_⟩=>s) ?_ ?_
   ·rintro i σ bI hi ⟨rY,a1,d8,eJ,eK,a5,rfl,lX,cf,ky⟩;have cV:i<bE.length:=by omega
    obtain⟨t,ou,il⟩:=dX.at (Qq cV);have d5:bs.getD i .non= .ref t:=by simp[List.getD,ou]
    rw[d5];have bq:=wm _ (Qn cV);have dn:=Qo cV;have i7:=cf _ _ il;generalize bE[i]=l at*;obtain⟨bP,b3,fa,hl⟩:=bq.rg;obtain⟨fB,od⟩:=bq.sz;dsimp only[B5.v] at i7;refine Rd.Vl (.of i7) rfl ?_;walk_at "rds";refine ZbA lX bP (by simp;omega) fa (by simp;omega) fB od bq.st.1 (by simp;omega) (λbT wo hh5 eM wq=>?_);obtain⟨cI,wr⟩:=UP cf ky eM wq;refine⟨wo,_,_,_,_,_,rfl,?_,cI,wr⟩;rw[dn];exact hh5
   ·rintro σ bI ⟨rY,a1,d8,eJ,eK,a5,rfl,lX,cf,ky⟩;rw[jF,Ji] at lX;walk_at "rds";exact q bo rY bI lX ky cf
end
def ws{K:Frag}{mg:Str→Option Value}(T:Tp K mg):Sp:=λvs H Q _=>∃(p eb:Addr)(ns:List Int)(bs:List V)(bE:List B5)(a0:Int),vs=[.ref p,.int a0,.ref eb]∧SqL K H p (ns.map V.int)∧ns.length≤63∧H eb=some (.lst bs)∧d1 H bs bE∧bE.length≤20∧(∀l∈bE,0≤l.start∧l.start≤1000)∧0≤a0∧a0≤1000∧
 ∀(r:Addr)(H':Hp)(ys:List V)(xss:List (List Int)),H r=none→Zd H H'→H' r=some (.lst ys)→c7 (hid H' r) ys xss→(∀v∈ys,∃t,v= .ref t∧H t=none)→xss.length=bE.length→(∀i<bE.length,((xss.getD i []).length:Int)=(bE.getD i dB).start)→(∀xs∈xss,lT xs)→Q (.ref r) H'
section
variable {P:Program}{w:World}{K:Frag}{mg:Str→Option Value}{base:Heap}
theorem wt(T:Tp K mg):OkN P w base 2 T.a9 (ws T):=by
 refine T.a9.F.okX jy (λvs H Q E h=>?_) (λbU A outer s H vs Q E aH h=>?_)
 ·obtain⟨p,eb,ns,bs,bE,a0,rfl,_⟩:=h
  rfl
 ·have hu:=aH.hu;obtain⟨p,eb,ns,bs,bE,a0,rfl,el,cJ,ik,dX,wn,du,jG,fB,q⟩:=h;have lY:(10:Int) ^ Int.toNat 29=100000000000000000000000000000:=rfl;have jF:=dX.length;refine⟨_,(bz (ci (i:=3) jy.nd rfl (Or.inl rfl) (eu aJ))
     (bz (eV PassesOwn.leaving rfl (f8 (K:=K) rfl (pv 2)) (cE (i:=4) jy.nd rfl (Or.inl rfl)) (bz (ci (i:=5) jy.nd rfl (Or.inl rfl) (eu aJ))
     (bz (eV PassesOwn.leaving rfl (hW rfl T.j (av (ef (ixk K) (pv 4) Zf (λ_ _=>rfl)) aJ)) (cE (i:=6) jy.nd rfl (Or.inl rfl)) (bz (dH (eR (K:=K) rfl Qe Qf Qg eY (pv 5) (av (bB hZ (bB c3 (cx T.x0 (ii T) aH cs (av (pv 0) (av (pv 1) aJ))) (bB e2 Zf (bB iE Zf Zf))) (bB e2 (bB iE Zf Zf) (bB c3 (pv 6) Zf))) aJ)))
     (bQ (ci (i:=1) jy.nd rfl (Or.inl rfl) (bB (d0 K) (pv 1) Zf)))))
     (bQ (dH (eR (K:=K) rfl Qe Qf Qg eY (pv 3) (av (pv 5) aJ)))))))
     (bQ (cD (pv 3))))),?_⟩
  try dsimp only[L2.cxX,L2.ZJ,L2.Zl]
  walk_at "rds";refine⟨Qs _,λr aH=>?_⟩;have aI:Zd H (upd H r (.lst [])):=cc aH;have eD:(upd H r (.lst [])) r=some (.lst []):=Ze;generalize upd H r (.lst [])=aq at*;have BP:=aI _ _ ik;walk_at "rds";refine YL (fN (SqL.of ik)) (λi σ H'=>∃(ys:List V)(xss:List (List Int))(eK a5 c6:Option V)(at_:Int),σ=[some (.ref p),some (.int at_),some (.ref eb),some (.ref r),eK,a5,c6]∧Zd H H'∧H' r=some (.lst ys)∧c7 (hid H' r) ys xss∧(∀v∈ys,∃t,v=V.ref t∧H t=none)∧xss.length=i∧(∀j<i,((xss.getD j []).length:Int)=(bE.getD j dB).start)∧(∀xs∈xss,lT xs)∧a0≤at_∧at_≤a0+1000*i) ⟨[],[],_,_,_,a0,rfl,aI,eD,.nil,by simp,rfl,λj bW=>absurd bW (Nat.not_lt_zero _),by simp,by omega,by omega⟩ (λi σ H' ⟨_,_,_,_,_,_,_,s,_⟩=>s) ?_ ?_
  ·rintro i σ ar hi ⟨ys,xss,eK,a5,c6,at_,rfl,bt,dS,hH,fw,eZ,eW,f_,dZ,hC⟩;have cV:i<bE.length:=by omega
   obtain⟨t,dn,bM⟩:=dX.getD cV;rw[dn];have bq:bE.getD i dB∈bE:=by rw[cY cV];exact Qn _
   obtain⟨fS,hF⟩:=du _ bq;have il:=bt _ _ bM;dsimp only[B5.v] at il;walk_at "rds";refine⟨Qs _,λo a3=>?_⟩;have bv:Zd ar (upd ar o (.lst [])):=cc a3;have fC:(upd ar o (.lst [])) o=some (.lst (([]:List Int).map V.int)):=Ze;have wu:H o=none:=gE bt a3;generalize upd ar o (.lst [])=bR at*;have rZ:=bv _ _ il;walk_at "rds";generalize wv:(bE.getD i dB).start=st at*;refine Wb (n:=st.toNat) (λj σ H'=>∃(xs:List Int)(c6:Option V),σ=[some (.ref p),some (.int (at_+j)),some (.ref eb),some (.ref r),some (.ref t),some (.ref o),c6]∧Zd ar H'∧H' o=some (.lst (xs.map V.int))∧xs.length=j∧lT xs) ⟨[],c6,by simp,bv,fC,rfl,by intro x ax;cases ax⟩ ?_ ?_
   ·rintro j σ bI bW ⟨xs,ov,rfl,cf,gL,g0,gM⟩;have ww:=(bt.trans cf).seq el;have bw:(xs.map V.int).length<sizeLine:=dO (by rw[Qa];omega);walk_at "rds";rw[lY];have wx:at_+(j:Int)+1=at_+((j+1:Nat):Int):=by omega
    rw[wx];generalize cellX ns (at_+(j:Int))=jt at*;have b9:(jt % (2*100000000000000000000000000000)-100000000000000000000000000000*((0+(j:Int)) % 2)).natAbs≤10 ^ 31:=by
     rcases(by omega:(0+(j:Int)) % 2=0∨(0+(j:Int)) % 2=1) with z|z
     ·rw[z];omega
     ·rw[z];omega
    generalize jt % (2*100000000000000000000000000000)-100000000000000000000000000000*((0+(j:Int)) % 2)=vv at*;refine⟨xs++ [vv],_,rfl,cf.new a3,by rw[Ze,QK];rfl,by simp[g0],λx ax=>?_⟩;rcases QG.mp ax with z|z
    ·exact gM x z
    ·rw[QF.mp z];exact b9
   ·rintro σ bI ⟨xs,ov,rfl,cf,gL,g0,gM⟩;have ow:=cf _ _ dS;have i8:=hH.length;have ox:ys.length<sizeLine:=dO (by omega);walk_at "rds";have r0:o≠r:=λz=>by rw[z,dS] at a3;cases a3
    have wy:Zd (hid ar r) (hid (upd bI r (.lst (ys++ [.ref o]))) r):=λb w e=>by
     unfold hid at e⊢
     split at e
     ·cases e
     ·rename_i ao;rw[if_neg ao,bV ao];exact cf _ _ e
    have wz:hid (upd bI r (.lst (ys++ [.ref o]))) r o=some (.lst (xs.map V.int)):=by
     unfold hid;rw[if_neg r0,bV r0];exact gL
    refine⟨ys++ [.ref o],xss++ [xs],_,_,_,_,rfl,(bt.trans cf).new aH,Ze,vZ (hH.same wy) wz,λv b9=>?_,by simp[eZ],λj bW=>?_,λx ax=>?_,by omega,by omega⟩
    ·rcases QG.mp b9 with z|z
     ·exact fw v z
     ·exact⟨o,QF.mp z,wu⟩
    ·rcases Nat.lt_succ_iff_lt_or_eq.mp bW with z|z
     ·have:=eW j z;rw[cY (by rw[Qh];omega),List.getElem_append_left (by omega)];rw[cY (by omega)] at this;exact this
     ·subst z;rw[wv,cY (by rw[Qh];simp;omega),List.getElem_append_right (by omega)];simp only[eZ,Nat.sub_self,List.getElem_cons_zero];omega
    ·rcases QG.mp ax with z|z
     ·exact f_ x z
     ·rw[QF.mp z];exact gM
  ·rintro σ ar ⟨ys,xss,eK,a5,c6,at_,rfl,bt,dS,hH,fw,eZ,eW,f_,dZ,hC⟩;walk_at "rds";exact q r ar ys xss aH bt dS hH fw (by omega) (λj bW=>eW j (by omega)) f_
end
def Ws{K:Frag}{mg:Str→Option Value}(T:Tp K mg):Sp:=λvs H Q _=>∃(p:Addr)(ap:HM)(fp:List Addr),vs=[.ref p]∧cQ T H p ap fp∧
 ∀(q:Addr)(H':Hp)(bs:List V),H q=none→Zd H H'→H' q=some (.lst bs)→d1 H' bs ap.belts→Q (.ref q) H'
theorem ZaN{K:Frag}{mg:Str→Option Value}{T:Tp K mg}{H:Hp}{Q:VK}{E:XK}{p:Addr}{ap:HM}{fp:List Addr}(h:cQ T H p ap fp)
  (q:∀(q:Addr)(H':Hp)(bs:List V),H q=none→Zd H H'→H' q=some (.lst bs)→d1 H' bs ap.belts→Q (.ref q) H'):Ws T (.ref p::([]++ [])) H Q E:=⟨p,ap,fp,rfl,h,q⟩
local macro_rules| `(tactic|walk_at "rd")=>`(tactic|first|((with_reducible show Nm.Ws _ _ _ _ _);with_reducible refine Nm.ZaN (by with_reducible assumption) ?_)|fail "none here")
section
variable {P:Program}{w:World}{K:Frag}{mg:Str→Option Value}{base:Heap}
theorem wA(T:Tp K mg):OkM P w mg base 1 T.ba (Ws T):=by
 have i5:=T.f;have i6:=T.i;refine T.ba.F.okX vK (λvs H Q E h=>?_) (λbU A outer s H vs Q E aH h=>?_)
 ·obtain⟨p,ap,fp,rfl,_⟩:=h
  rfl
 ·have hu:=aH.hu;obtain⟨p,ap,fp,rfl,b8,q⟩:=h;obtain⟨aO,a,b,bs,rfl,aB,aC,b_,cu,gI,dC⟩:=id b8;refine⟨_,(bQ (cD (fc (fP (K:=K) rfl) (by rfl) T.g Qi (av (hA (K:=K) rfl (pv 0) rfl) aJ)))),?_⟩
  try dsimp only[L2.cxX,L2.ZJ,L2.Zl]
  walk_at "rds";refine Rd.Ze2 (.of cu) (λl eI=>?_);exact q l _ bs eI (cc eI) Ze (dC.keep ((cc eI).frame (A:=[])).tups)
end
def wB{K:Frag}{mg:Str→Option Value}(T:Tp K mg):Sp:=λvs H Q _=>∃(p:Addr)(ap:HM)(fp:List Addr),vs=[.ref p]∧cQ T H p ap fp∧ap.belts.length≤1000∧
 ∀(r:Addr)(H':Hp),H r=none→Zd H H'→H' r=some (.lst ((startsL ap.belts).map V.int))→Q (.ref r) H'
section
variable {P:Program}{w:World}{K:Frag}{mg:Str→Option Value}{base:Heap}
theorem oy(T:Tp K mg):OkN P w base 2 T.aQ (wB T):=by
 have i5:=T.f;have i6:=T.i;refine T.aQ.F.okX vL (λvs H Q E h=>?_) (λbU A outer s H vs Q E aH h=>?_)
 ·obtain⟨p,ap,fp,rfl,_⟩:=h
  rfl
 ·have hu:=aH.hu;obtain⟨p,ap,fp,rfl,b8,bw,q⟩:=h;refine⟨_,(bQ (cD (qn rfl (f5 (x:="row") (zs:=[]) (ix:=[]) (b4 n1) ["hall"] rfl rfl (by decide+kernel)) (f8 (K:=K) rfl (uD (pv 0) T.f T.ba (wA T) aH cs)) (λcl C s H fp=>⟨(cE (i:=0) (show(["row"]:List Str).Nodup by decide+kernel) rfl (Or.inl rfl)),f0,(ef (ixk K) (pv 0) Zf (λ_ _=>rfl))⟩)))),?_⟩
  try dsimp only[L2.cxX,L2.ZJ,L2.Zl]
  walk_at "rds";intro u aq bs hu0 gJ dk dX;have lZ:=dX.length;have ao:bs.length<sizeLine:=dO (by rw[lZ];exact bw);walk_at "rds";refine VP (fN (SqL.of dk)) ao (λ_=>true) (λi=> .int (ap.belts.getD i dB).start) (λi H' cM hi bD k=>?_) (λi H' cM hi _ bD k=>?_) (λr H' aH bD wC=>?_)
  ·walk_at "rds";exact k H' (Zd.refl H')
  ·have cV:i<ap.belts.length:=by omega
   obtain⟨t,ou,il⟩:=dX.getD (i:=i) cV;rw[ou];have rZ:=bD _ _ il;generalize ap.belts.getD i dB=bb at*;dsimp only[B5.v] at rZ;walk_at "rds";exact k H' (Zd.refl H')
  ·refine q r H' (gE gJ aH) (gJ.trans bD) ?_;rw[wC,Qx.mpr (by simp),lZ];unfold startsL;refine congrArg (λz=>some (HO.lst z)) ?_;refine Jh (by simp) λi aB aC=>?_;have:i<ap.belts.length:=by simpa using aB
   simp[List.getD,this]
end
def wD{K:Frag}{mg:Str→Option Value}(T:Tp K mg):Sp:=λvs H Q E=>∃(p c:Addr)(ap:HM)(fp:List Addr)(rs:List Int),vs=[.ref p,.ref c]∧cQ T H p ap fp∧ap.belts.length≤1000∧SqL K H c (rs.map V.int)∧rs.length≤1000∧
 (¬eL rs (startsL ap.belts)→∀H',Zd H H'→E (.ref T.b) none H')∧(eL rs (startsL ap.belts)→∀H',Zd H H'→Q .non H')
section
variable {P:Program}{w:World}{K:Frag}{mg:Str→Option Value}{base:Heap}
theorem r1(T:Tp K mg):OkN P w base 3 T.aX (wD T):=by
 refine T.aX.F.okX rx (λvs H Q E h=>?_) (λbU A outer s H vs Q E aH h=>?_)
 ·obtain⟨p,c,ap,fp,rs,rfl,_⟩:=h
  rfl
 ·have hu:=aH.hu;obtain⟨p,c,ap,fp,rs,rfl,b8,bw,aw,fD,bu,q⟩:=h;refine⟨_,(bz (ci (i:=2) rx.nd rfl (Or.inl rfl) (cx T.aQ (oy T) aH cs (av (pv 0) aJ)))
     (bz (dq (PW.pt (fV (fu (e4 (K:=K) rfl (cL (vy (K:=K) rfl) (by rfl) T.a Ql (av (pv 1) (av (gW (av (hc (v:= .ty "list") (by rfl) T.g Qi rfl) (av (hc (v:= .ty "tuple") (by rfl) T.ay PyProof.Rows.boot_tuple rfl) aJ))) aJ))) (λ_=>rfl))) (gf (dA (fO (K:=K) rfl hu) (cL (eh K) (by rfl) T.c Qk (av (pv 1) aJ)) (cL (eh K) (by rfl) T.c Qk (av (pv 2) aJ)) (c4 _))))) (bQ (gv T.r.g T.r.e Qr rfl (av Yp aJ))) dz)
     (bQ (dq (fu (e4 (K:=K) rfl (cL (nJ (K:=K) rfl rfl) (by rfl) T.aE Jc (av (ko (xs:=["room","start"]) rfl (f5 (x:="room") (zs:=[]) (ix:=[]) (b4 n2) ["hall","rooms","starts"] rfl rfl (by decide+kernel)) (lM (K:=K) rfl rfl T.au (av (pv 1) (av (pv 2) aJ))) (λcl C s H fp=>⟨(hB (K:=K) (n:=2) rfl rfl (dU (cE (i:=0) (show(["room","start"]:List Str).Nodup by decide+kernel) rfl (Or.inl rfl)) (dU (cE (i:=1) (show(["room","start"]:List Str).Nodup by decide+kernel) rfl (Or.inl rfl)) hf))),f0,(cx T.x4 (kG T) aH VM (av (pv 0) (av (pv 1) aJ)))⟩)) aJ)) (λ_=>rfl))) (bQ (gv T.r.g T.r.e Qr rfl (av Yp aJ))) dz)))),?_⟩
  try dsimp only[L2.cxX,L2.ZJ,L2.Zl]
  walk_at "rds";refine⟨p,ap,fp,rfl,b8,bw,λr aq aH aI ib=>?_⟩;have jH:=aI.seq aw;have l0:=SqL.of (K:=K) ib;have h_:(startsL ap.belts).length=ap.belts.length:=by simp[startsL]
  generalize startsL ap.belts=cA at*;walk_at "rds";refine⟨by show 2≤sizeLine;decide,λu dk=>?_⟩;have bt:Zd aq (upd aq u (.tup [V.ty "list",V.ty "tuple"])):=cc dk;have es:(upd aq u (.tup [V.ty "list",V.ty "tuple"])) u=some (.tup [V.ty "list",V.ty "tuple"]):=Ze;generalize upd aq u (.tup [V.ty "list",V.ty "tuple"])=ar at*;have jl:=bt.seq jH;have eW:=bt.seq l0;have e8:=aI.trans bt;walk_at "rds";refine Rd.ZhH jl es ?_;walk_at "rds";have lJ:(((rs.map V.int).length:Int)=((cA.map V.int).length:Int))↔rs.length=cA.length:=by simp only[Qa];omega
  by_cases cJ:rs.length=cA.length
  ·rw[if_neg (by simp[cJ])];walk_at "rds";refine⟨c,r,rfl,⟨_,jl⟩,⟨_,eW⟩,?_⟩;refine Yg (own:=2) (lN jl eW (by simp[cJ])) (dO (by rw[Qa];exact fD)) (λi=>[some (.int (rs.getD i 0)),some (.int (cA.getD i 0))]) (λ_=>rfl) (λ_=>true) (λi v _=>v= .bl (decide (cA.getD i 0≤rs.getD i 0))) (λ_ _ _ _ _ z=>z) (λi cP H' v bR gx hi bD y dY k=>?_) (λi H' cM hi bD k=>?_) (λim i H' cM hi er hp0 f9 bD k=>?_) (λd bR ys hd bD eI de=>?_)
   ·obtain⟨t,bM,rfl,rfl⟩:=y;obtain⟨x1,x2,rfl⟩:∃x1 x2,cP=[x1,x2]:=by
     match cP,dY with
     | [x1,x2],_=>exact⟨x1,x2,rfl⟩
    have jC:i<rs.length:=by rw[Qa] at hi;exact hi
    have fl:i<cA.length:=by omega
    have i9:(rs.map V.int).getD i .non= .int (rs.getD i 0):=by rw[cY jC];simp[List.getD,jC]
    have kH:(cA.map V.int).getD i .non= .int (cA.getD i 0):=by rw[cY fl];simp[List.getD,fl]
    rw[i9,kH];refine Rd.Vl (.of Ze) rfl ?_;walk_at "rds";exact k _ (cc bM)
   ·walk_at "rds";exact k H' (Zd.refl H')
   ·walk_at "rds";exact k _ H' (Zd.refl H') rfl
   ·rw[Qx.mpr (by simp),Qa] at de;have dP:=n' de;have fK:=SqL.of (K:=K) (dP▸eI);have fE:=e8.trans bD;walk_at "rds"
    by_cases gn:eL rs cA
    ·rw[WR.mpr gn.2];walk_at "rds";exact q gn _ fE
    ·have a':(((List.range rs.length).map λi=>decide (cA.getD i 0≤rs.getD i 0)).all id)=false:=by
      cases e:(((List.range rs.length).map λi=>decide (cA.getD i 0≤rs.getD i 0)).all id) with
      |false=>rfl
      |true=>exact absurd ⟨cJ,WR.mp e⟩ gn
     rw[a'];walk_at "rds";exact bu gn _ fE
  ·rw[if_pos (by simp;omega)];walk_at "rds";exact bu (λz=>cJ z.1) _ e8
end
def wE{K:Frag}{mg:Str→Option Value}(T:Tp K mg):Sp:=λvs H Q E=>∃(p c:Addr)(ap:HM)(fp:List Addr)(ys:List V)(xss:List (List Int)),vs=[.ref p,.ref c]∧cQ T H p ap fp∧ap.belts.length≤1000∧H c=some (.lst ys)∧c7 H ys xss∧xss.length≤1000∧
 (¬gF xss (startsL ap.belts)→∀H',Zd H H'→E (.ref T.e) none H')∧(gF xss (startsL ap.belts)→∀H',Zd H H'→Q .non H')
section
variable {P:Program}{w:World}{K:Frag}{mg:Str→Option Value}{base:Heap}
theorem wF(T:Tp K mg):OkN P w base 3 T.bb (wE T):=by
 refine T.bb.F.okX ry (λvs H Q E h=>?_) (λbU A outer s H vs Q E aH h=>?_)
 ·obtain⟨p,c,ap,fp,ys,xss,rfl,_⟩:=h
  rfl
 ·have hu:=aH.hu;obtain⟨p,c,ap,fp,ys,xss,rfl,b8,bw,aw,de,hI,bu,q⟩:=h;have i8:=de.length;refine⟨_,(bz (ci (i:=2) ry.nd rfl (Or.inl rfl) (cx T.aQ (oy T) aH cs (av (pv 0) aJ)))
     (bz (dq (dA (fO (K:=K) rfl hu) (cL (eh K) (by rfl) T.c Qk (av (pv 1) aJ)) (cL (eh K) (by rfl) T.c Qk (av (pv 2) aJ)) (c4 _)) (bQ (gv T.k.g T.k.e Qr rfl (av Yp aJ))) dz)
     (bQ (dq (fu (e4 (K:=K) rfl (cL (nJ (K:=K) rfl rfl) (by rfl) T.aE Jc (av (ko (xs:=["lying","start"]) rfl (f5 (x:="lying") (zs:=[]) (ix:=[]) (b4 n3) ["hall","pieces","starts"] rfl rfl (by decide+kernel)) (lM (K:=K) rfl rfl T.au (av (pv 1) (av (pv 2) aJ))) (λcl C s H fp=>⟨(hB (K:=K) (n:=2) rfl rfl (dU (cE (i:=0) (show(["lying","start"]:List Str).Nodup by decide+kernel) rfl (Or.inl rfl)) (dU (cE (i:=1) (show(["lying","start"]:List Str).Nodup by decide+kernel) rfl (Or.inl rfl)) hf))),f0,(iF (f7 (K:=K) rfl hu) (cL (eh K) (by rfl) T.c Qk (av (pv 0) aJ)) (pv 1) (c4 _))⟩)) aJ)) (λ_=>rfl))) (bQ (gv T.k.g T.k.e Qr rfl (av Yp aJ))) dz)))),?_⟩
  try dsimp only[L2.cxX,L2.ZJ,L2.Zl]
  walk_at "rds";refine⟨p,ap,fp,rfl,b8,bw,λr aq aH aI ib=>?_⟩;have jH:=SqL.of (K:=K) (aI _ _ aw);have l0:=SqL.of (K:=K) ib;have wG:=de.same aI;generalize startsL ap.belts=cA at*;walk_at "rds"
  by_cases cJ:xss.length=cA.length
  ·rw[if_neg (by simp;omega)];walk_at "rds";refine⟨c,r,rfl,⟨_,jH⟩,⟨_,l0⟩,?_⟩;refine Yg (own:=2) (lN jH l0 (by simp;omega)) (dO (by omega)) (λi=>[some (ys.getD i .non),some (.int (cA.getD i 0))]) (λ_=>rfl) (λ_=>true) (λi v _=>v= .bl (decide (((xss.getD i []).length:Int)=cA.getD i 0))) (λ_ _ _ _ _ z=>z) (λi cP H' v bR gx hi bD y dY k=>?_) (λi H' cM hi bD k=>?_) (λim i H' cM hi er hp0 f9 bD k=>?_) (λd bR zs hd bD eI jI=>?_)
   ·obtain⟨t,bM,rfl,rfl⟩:=y;obtain⟨x1,x2,rfl⟩:∃x1 x2,cP=[x1,x2]:=by
     match cP,dY with
     | [x1,x2],_=>exact⟨x1,x2,rfl⟩
    have fl:i<cA.length:=by omega
    have kH:(cA.map V.int).getD i .non= .int (cA.getD i 0):=by rw[cY fl];simp[List.getD,fl]
    rw[kH];refine Rd.Vl (.of Ze) rfl ?_;walk_at "rds";exact k _ (cc bM)
   ·walk_at "rds";exact k H' (Zd.refl H')
   ·obtain⟨t,dn,bM⟩:=Wp wG (i:=i) (by omega);rw[dn];have r2:=SqL.of (K:=K) (bD _ _ bM);walk_at "rds";refine k _ H' (Zd.refl H') ?_;rw[Qa]
   ·rw[Qx.mpr (by simp),i8] at jI;have dP:=n' jI;have fK:=SqL.of (K:=K) (dP▸eI);have fE:=aI.trans bD;walk_at "rds"
    by_cases gn:gF xss cA
    ·rw[WR.mpr gn.2];walk_at "rds";exact q gn _ fE
    ·have a':(((List.range xss.length).map λi=>decide (((xss.getD i []).length:Int)=cA.getD i 0)).all id)=false:=by
      cases e:(((List.range xss.length).map λi=>decide (((xss.getD i []).length:Int)=cA.getD i 0)).all id) with
      |false=>rfl
      |true=>exact absurd ⟨cJ,WR.mp e⟩ gn
     rw[a'];walk_at "rds";exact bu gn _ fE
  ·rw[if_pos (by simp;omega)];walk_at "rds";exact bu (λz=>cJ z.1) _ aI
end
def wH{K:Frag}{mg:Str→Option Value}(T:Tp K mg):Sp:=λvs H Q E=>∃(p c d:Addr)(ap:HM)(fp:List Addr)(rs:List Int)(ys:List V)(xss:List (List Int)),vs=[.ref p,.ref c,.ref d]∧cQ T H p ap fp∧ap.belts.length≤100∧SqL K H c (rs.map V.int)∧rs.length≤100∧H d=some (.lst ys)∧c7 H ys xss∧xss.length≤100∧(∀i<xss.length,(xss.getD i []).length≤2000)∧(eL rs (startsL ap.belts)→∀i<rs.length,rs.getD i 0≤2000)∧
 (¬eL rs (startsL ap.belts)→∀H',Zd H H'→E (.ref T.b) none H')∧(eL rs (startsL ap.belts)→¬gF xss (startsL ap.belts)→∀H',Zd H H'→E (.ref T.e) none H')∧
 (eL rs (startsL ap.belts)→gF xss (startsL ap.belts)→∀(r:Addr)(H':Hp),H r=none→Zd H H'→H' r=some (.lst ((fillL rs xss rs.length).map V.int))→Q (.ref r) H')
section
variable {P:Program}{w:World}{K:Frag}{mg:Str→Option Value}{base:Heap}
theorem oz(T:Tp K mg):OkN P w base 4 T.aR (wH T):=by
 refine T.aR.F.okX lO (λvs H Q E h=>?_) (λbU A outer s H vs Q E aH h=>?_)
 ·obtain⟨p,c,d,ap,fp,rs,ys,xss,rfl,_⟩:=h
  rfl
 ·have hu:=aH.hu;obtain⟨p,c,d,ap,fp,rs,ys,xss,rfl,b8,bw,aw,fD,hd,de,hI,l3,l4,bu,bJ,q⟩:=h;refine⟨_,(bz (dH (cx T.aX (r1 T) aH cs (av (pv 0) (av (pv 1) aJ))))
     (bz (dH (cx T.bb (wF T) aH cs (av (pv 0) (av (pv 2) aJ))))
     (bz (ci (i:=3) lO.nd rfl (Or.inl rfl) (eu aJ))
     (bz (eV PassesOwn.leaving rfl (lM (K:=K) rfl rfl T.au (av (pv 1) (av (pv 2) aJ))) (hB (K:=K) (n:=2) rfl rfl (dU (cE (i:=4) lO.nd rfl (Or.inl rfl)) (dU (cE (i:=5) lO.nd rfl (Or.inl rfl)) hf))) (bz (dH (eR (K:=K) rfl Qe PySem.F.slot_list_extend PySem.F.type_list_extend qa (pv 3) (av (pv 5) aJ)))
     (bQ (dH (eR (K:=K) rfl Qe PySem.F.slot_list_extend PySem.F.type_list_extend qa (pv 3) (av (bB e2 (eu (av Zf aJ)) (bB hZ (pv 4) (cL (eh K) (by rfl) T.c Qk (av (pv 5) aJ)))) aJ))))))
     (bQ (cD (pv 3))))))),?_⟩
  try dsimp only[L2.cxX,L2.ZJ,L2.Zl]
  walk_at "rds";refine⟨p,c,ap,fp,rs,rfl,b8,by omega,aw,by omega,bu,λa3 aq aI=>?_⟩;walk_at "rds";refine⟨p,d,ap,fp,ys,xss,rfl,b8.same aI,by omega,aI _ _ hd,de.same aI,by omega,λbr ar bt=>bJ a3 br ar (aI.trans bt),λfT ar bt=>?_⟩;have r3:=l4 a3;have ej:=q a3 fT;have wI:rs.length=xss.length:=a3.1.trans fT.1.symm;have nL:=a3.2;have wJ:=fT.2;have e8:=aI.trans bt;have hH:=de.same e8;have i8:=de.length;have kb:=e8.seq aw;have fK:=SqL.of (K:=K) (e8 _ _ hd);generalize startsL ap.belts=cA at*;walk_at "rds";refine⟨Qs _,λb ao=>?_⟩;have bv:Zd ar (upd ar b (.lst [])):=cc ao;have fC:(upd ar b (.lst [])) b=some (.lst (([]:List Int).map V.int)):=Ze;generalize upd ar b (.lst [])=bR at*;have wK:=bv.seq kb;have oG:=bv.seq fK;walk_at "rds";refine⟨c,d,rfl,⟨_,wK⟩,⟨_,oG⟩,?_⟩;refine ZdN (lN kb fK (by simp;omega)) (λi σ H'=>Zd ar H'∧∃a1 d8,σ=[some (.ref p),some (.ref c),some (.ref d),some (.ref b),a1,d8]∧H' b=some (.lst ((fillL rs xss i).map V.int))) ⟨bv,_,_,rfl,fC⟩ (λi σ H' h=>h.1) ?_ ?_
  ·rintro i σ bI v bT hi ⟨cf,a1,d8,rfl,gN⟩ ⟨t,bM,rfl,rfl⟩;have hJ:i<rs.length:=by rw[Qa] at hi;exact hi
   have i9:(rs.map V.int).getD i .non= .int (rs.getD i 0):=by rw[cY hJ];simp[List.getD,hJ]
   obtain⟨x,ex,f_⟩:=Wp hH (i:=i) (by omega);rw[i9,ex];refine Rd.Vl (.of Ze) rfl ?_;have cI:Zd bI (upd bI t (.tup [V.int (rs.getD i 0),.ref x])):=cc bM;generalize upd bI t (.tup [V.int (rs.getD i 0),.ref x])=bT at*;have kI:=cf.trans cI;have l5:=cI _ _ gN;have wL:=kI _ _ f_;have wM:=WV (m:=rs.length) (λj bW=>l3 j (by omega)) r3 i (by omega);have wN:=l3 i (by omega);have wO:=r3 i hJ;have du:=nL i hJ;have BQ:=wJ i (by omega);have l6:fillL rs xss (i+1)=fillL rs xss i++(xss.getD i []++List.replicate (rs.getD i 0-((xss.getD i []).length:Int)).toNat 0):=rfl;rw[l6];generalize fillL rs xss i=cO at*;generalize xss.getD i []=xs at*;generalize rs.getD i 0=e9 at*;have BR:x≠b:=c8 f_ ao;walk_at "rds";refine⟨b,x,cO.map V.int,xs.map V.int,rfl,rfl,l5,wL,QJ (gG (by simp only[Qa];omega)),?_⟩;rw[←QK];have dI:Zd ar (upd bT b (.lst ((cO++xs).map V.int))):=kI.new ao;have l7:(upd bT b (.lst ((cO++xs).map V.int))) b=some (.lst ((cO++xs).map V.int)):=Ze;generalize upd bT b (.lst ((cO++xs).map V.int))=fW at*;have wP:=dI _ _ f_;walk_at "rds";intro u dk;have dJ:Zd fW (upd fW u (.lst [V.int 0])):=cc dk;have wQ:(upd fW u (.lst [V.int 0])) u=some (.lst [V.int 0]):=Ze;generalize upd fW u (.lst [V.int 0])=c2 at*;have BS:=SqL.of (K:=K) (dJ _ _ wP);have i_:=dJ _ _ l7;walk_at "rds";refine .inr ⟨u,e9-((xs.map V.int).length:Int),[V.int 0],rfl,rfl,wQ,by simp only[Qa];omega,by simp only[Qa];omega,QJ (gG (by simp only[Qa,Q1];omega)),λw hw=>?_⟩;have oH:(List.replicate (e9-((xs.map V.int).length:Int)).toNat [V.int 0]).flatten=(List.replicate (e9-(xs.length:Int)).toNat (0:Int)).map V.int:=by
    rw[Qa,List.map_replicate];generalize (e9-(xs.length:Int)).toNat=k
    induction k with
    |zero=>rfl
    |succ k b0=>rw[QC,QS,b0,QC];rfl
   rw[oH];have d7:Zd c2 (upd c2 w (.lst ((List.replicate (e9-(xs.length:Int)).toNat (0:Int)).map V.int))):=cc hw;have oI:(upd c2 w (.lst ((List.replicate (e9-(xs.length:Int)).toNat (0:Int)).map V.int))) w=some (.lst ((List.replicate (e9-(xs.length:Int)).toNat (0:Int)).map V.int)):=Ze;have wR:=d7 _ _ i_;generalize upd c2 w (.lst ((List.replicate (e9-(xs.length:Int)).toNat (0:Int)).map V.int))=gq at*;walk_at "rds";refine⟨b,w,_,_,rfl,rfl,wR,oI,QJ (gG (by simp only[Qa,Qh,Qy];omega)),?_⟩;refine⟨((dI.trans dJ).trans d7).new ao,_,_,rfl,?_⟩;rw[Ze,←QK,QT]
  ·rintro σ bI ⟨cf,a1,d8,rfl,gN⟩;rw[Qa] at gN;walk_at "rds";exact ej b bI (gE e8 ao) (e8.trans cf) gN
end
def wS{K:Frag}{mg:Str→Option Value}(T:Tp K mg):Sp:=λvs H Q _=>∃(c:Addr)(rs:List Int),vs=[.ref c]∧SqL K H c (rs.map V.int)∧rs.length≤100∧
 ∀(r:Addr)(H':Hp),H r=none→Zd H H'→H' r=some (.lst (((List.range rs.length).map (d9 rs)).map V.int))→Q (.ref r) H'
section
variable {P:Program}{w:World}{K:Frag}{mg:Str→Option Value}{base:Heap}
theorem wT(T:Tp K mg):OkN P w base 1 T.bc (wS T):=by
 refine T.bc.F.okX kB (λvs H Q E h=>?_) (λbU A outer s H vs Q E aH h=>?_)
 ·obtain⟨c,rs,rfl,_⟩:=h
  rfl
 ·have hu:=aH.hu;obtain⟨c,rs,rfl,aw,fD,q⟩:=h;refine⟨_,(bz (ci (i:=1) kB.nd rfl (Or.inl rfl) (eu aJ))
     (bz (ci (i:=2) kB.nd rfl (Or.inl rfl) Zf)
     (bz (eV PassesOwn.leaving rfl (f8 (K:=K) rfl (pv 0)) (cE (i:=3) kB.nd rfl (Or.inl rfl)) (bz (dH (eR (K:=K) rfl Qe Qf Qg eY (pv 1) (av (pv 2) aJ)))
     (bQ (s4 (i:=2) kB.nd rfl (Or.inl rfl) (pv 3) s6))))
     (bQ (cD (pv 1)))))),?_⟩
  try dsimp only[L2.cxX,L2.ZJ,L2.Zl]
  walk_at "rds";refine⟨Qs _,λb ao=>?_⟩;have aI:Zd H (upd H b (.lst [])):=cc ao;have eD:(upd H b (.lst [])) b=some (.lst (([]:List Int).map V.int)):=Ze;generalize upd H b (.lst [])=aq at*;have jH:=aI.seq aw;walk_at "rds";refine YL (fN aw) (λi σ H'=>Zd H H'∧∃a1,σ=[some (.ref c),some (.ref b),some (.int (d9 rs i)),a1]∧H' b=some (.lst (((List.range i).map (d9 rs)).map V.int))) ⟨aI,_,rfl,eD⟩ (λi σ H' h=>h.1) ?_ ?_
  ·rintro i σ ar hi ⟨bt,a1,rfl,oJ⟩;have hJ:i<rs.length:=by rw[Qa] at hi;exact hi
   have i9:(rs.map V.int).getD i .non= .int (rs.getD i 0):=by rw[cY hJ];simp[List.getD,hJ]
   rw[i9];have bw:(((List.range i).map (d9 rs)).map V.int).length<sizeLine:=dO (by simp;omega);have wU:d9 rs (i+1)=d9 rs i+rs.getD i 0:=by
    unfold d9;rw[Qo hJ,List.sum_append,cY hJ];simp
   rw[wU];walk_at "rds";refine⟨.int (d9 rs i),rfl,?_⟩;walk_at "rds";refine⟨bt.new ao,_,rfl,?_⟩;rw[Ze,Jo,QK,QK]
   rfl
  ·rintro σ ar ⟨bt,a1,rfl,oJ⟩;rw[Qa] at oJ;walk_at "rds";exact q b ar ao bt oJ
end
def wV{K:Frag}{mg:Str→Option Value}(T:Tp K mg):Sp:=λvs H Q E=>∃(p c d:Addr)(ap:HM)(fp:List Addr)(rs cB:List Int),vs=[.ref p,.ref c,.ref d]∧cQ T H p ap fp∧ap.belts.length≤100∧SqL K H c (rs.map V.int)∧rs.length≤100∧SqL K H d (cB.map V.int)∧(∀i<ap.belts.length,0≤(startsL ap.belts).getD i 0)∧
 (¬eL rs (startsL ap.belts)→∀H',Zd H H'→E (.ref T.b) none H')∧
 (eL rs (startsL ap.belts)→∀(r:Addr)(H':Hp)(zs:List V),H r=none→Zd H H'→H' r=some (.lst zs)→c7 (hid H' r) zs (oa rs (startsL ap.belts) cB)→(∀v∈zs,∃t,v= .ref t∧H t=none)→Q (.ref r) H')
section
variable {P:Program}{w:World}{K:Frag}{mg:Str→Option Value}{base:Heap}
theorem oK(T:Tp K mg):OkN P w base 4 T.aS (wV T):=by
 refine T.aS.F.okX vM (λvs H Q E h=>?_) (λbU A outer s H vs Q E aH h=>?_)
 ·obtain⟨p,c,d,ap,fp,rs,cB,rfl,_⟩:=h
  rfl
 ·have hu:=aH.hu;obtain⟨p,c,d,ap,fp,rs,cB,rfl,b8,bw,aw,fD,hd,io,bu,q⟩:=h;refine⟨_,(bz (dH (cx T.aX (r1 T) aH cs (av (pv 0) (av (pv 1) aJ))))
     (bQ (cD (ko (xs:=["first","start"]) rfl (f5 (x:="first") (zs:=["boxes"]) (ix:=[2]) (b4 n4) ["hall","rooms","boxes"] rfl rfl (by decide+kernel)) (lM (K:=K) rfl rfl T.au (av (cx T.bc (wT T) aH cs (av (pv 1) aJ)) (av (cx T.aQ (oy T) aH cs (av (pv 0) aJ)) aJ))) (λcl C s H fp=>⟨(hB (K:=K) (n:=2) rfl rfl (dU (cE (i:=0) (show(["first","start","boxes"]:List Str).Nodup by decide+kernel) rfl (Or.inl rfl)) (dU (cE (i:=1) (show(["first","start","boxes"]:List Str).Nodup by decide+kernel) rfl (Or.inl rfl)) hf))),f0,(p8 (qB (K:=K) rfl) (pv 2) (VV (pv 0)) (VV (bB (d0 K) (pv 0) (pv 1))))⟩))))),?_⟩
  try dsimp only[L2.cxX,L2.ZJ,L2.Zl]
  walk_at "rds";refine⟨p,c,ap,fp,rs,rfl,b8,by omega,aw,by omega,bu,λa3 aq aI=>?_⟩;walk_at "rds";refine⟨c,rs,rfl,aI.seq aw,fD,λf ar a' bt r4=>?_⟩;have e8:=aI.trans bt;walk_at "rds";refine⟨p,ap,fp,rfl,b8.same e8,by omega,λg bR bL bv wW=>?_⟩;have ej:=q a3;have h_:(startsL ap.belts).length=ap.belts.length:=by simp[startsL]
  have wI:=a3.1;have wX:=a3.2;rw[←h_] at io;generalize startsL ap.belts=cA at*;have fE:=e8.trans bv;have wY:=bv _ _ r4;have r5:=SqL.of (K:=K) wY;have jJ:=SqL.of (K:=K) wW;have oG:=fE.seq hd;have e1:=UL (rs:=rs) (λi hi=>by have:=wX i hi;have:=io i (by omega);omega);walk_at "rds";refine⟨f,g,rfl,⟨_,r5⟩,⟨_,jJ⟩,?_⟩;refine Yg (own:=2) (lN r5 jJ (by simp;omega)) (dO (by simp;omega)) (λi=>[some (.int (d9 rs i)),some (.int (cA.getD i 0))]) (λ_=>rfl) (λ_=>true) (λi v H=>∃t,v=V.ref t∧bR t=none∧H t=some (.lst (((cB.drop (d9 rs i).toNat).take (cA.getD i 0).toNat).map V.int))) (λ_ _ _ _ e ⟨t,fB,jG,eU⟩=>⟨t,fB,jG,e _ _ eU⟩) (λi cP H' v bI gx hi bD y dY k=>?_) (λi H' cM hi bD k=>?_) (λim i H' cM hi er hp0 f9 bD k=>?_) (λr bI zs aH bD eI de=>?_)
  ·obtain⟨t,bM,rfl,rfl⟩:=y;obtain⟨x1,x2,rfl⟩:∃x1 x2,cP=[x1,x2]:=by
    match cP,dY with
    | [x1,x2],_=>exact⟨x1,x2,rfl⟩
   have jC:i<rs.length:=by simpa using hi
   have fl:i<cA.length:=by omega
   have i9:(((List.range rs.length).map (d9 rs)).map V.int).getD i .non= .int (d9 rs i):=by simp[List.getD,jC]
   have kH:(cA.map V.int).getD i .non= .int (cA.getD i 0):=by rw[cY fl];simp[List.getD,fl]
   rw[i9,kH];refine Rd.Vl (.of Ze) rfl ?_;walk_at "rds";exact k _ (cc bM)
  ·walk_at "rds";exact k H' (Zd.refl H')
  ·have jC:i<rs.length:=by simpa using hi
   have cS:=e1 i (by omega);have fS:=io i (by omega);have l8:=bD.seq oG;walk_at "rds";refine Rd.slL l8 ?_;intro u dk;rw[rC cS fS,←List.map_drop,←List.map_take];exact k _ _ (cc dk) ⟨u,rfl,gE bD dk,nN f9 dk⟩
  ·rw[Qx.mpr (by simp)] at de;have br:(((List.range rs.length).map (d9 rs)).map V.int).length=cA.length:=by simp;omega
   rw[br] at de;obtain⟨aB,aC⟩:=kD de;exact ej r bI zs (gE fE aH) (fE.trans bD) eI aB λv b9=>(by obtain⟨t,e,z⟩:=aC v b9;exact⟨t,e,gE fE z⟩)
end
def wZ{K:Frag}{mg:Str→Option Value}(T:Tp K mg):Sp:=λvs H Q _=>∃(c:Addr)(d_:List Int)(n:Nat),vs=[.ref c,.int n]∧SqL K H c (d_.map V.int)∧d_.length≤63∧0<n∧n≤100000000∧
 ∀(r:Addr)(H':Hp)(d2:List V)(code:List Row),H r=none→Zd H H'→H' r=some (.lst d2)→fR H' d2 code→(∀c∈code,kF n c)→code.length=d_.length→Q (.ref r) H'
section
variable {P:Program}{w:World}{K:Frag}{mg:Str→Option Value}{base:Heap}
theorem w0(T:Tp K mg):OkN P w base 1 T.bd (wZ T):=by
 refine T.bd.F.okX jz (λvs H Q E h=>?_) (λbU A outer s H vs Q E aH h=>?_)
 ·obtain⟨c,d_,n,rfl,_⟩:=h
  rfl
 ·have hu:=aH.hu;obtain⟨c,d_,n,rfl,aw,i',rX,ie,q⟩:=h;have w1:(10:Int) ^ Int.toNat 20=100000000000000000000:=rfl;have eA:0<(n:Int):=by omega
  refine⟨_,(bz (ci (i:=2) jz.nd rfl (Or.inl rfl) (eu aJ))
     (bz (eV PassesOwn.leaving rfl (f8 (K:=K) rfl (pv 0)) (cE (i:=3) jz.nd rfl (Or.inl rfl)) (bz (ci (i:=4) jz.nd rfl (Or.inl rfl) (bB c3 (bB e2 (pv 3) Zf) Zf))
     (bz (ci (i:=5) jz.nd rfl (Or.inl rfl) (eu aJ))
     (bz (eV PassesOwn.leaving rfl (hW rfl T.j (av (bB c3 (pv 4) Zf) aJ)) (cE (i:=6) jz.nd rfl (Or.inl rfl)) (bQ (dH (eR (K:=K) rfl Qe Qf Qg eY (pv 5) (av (gW (av (bB c3 (bB ey (pv 4) (bB (d0 K) Zf (pv 6))) (pv 1)) (av (bB hZ (bB c3 (bB ey (pv 4) (bB (d0 K) Zf (pv 6))) Zf) Zf) aJ))) aJ)))))
     (bQ (dH (eR (K:=K) rfl Qe Qf Qg eY (pv 2) (av (gW (av (bB c3 (bB ey (pv 4) Zf) (pv 1)) (av (bB hZ (bB c3 (pv 3) (bB e2 Zf (bB iE Zf Zf))) (bB iE Zf Zf)) (av (fc (uB (K:=K) rfl) (by rfl) T.ay PyProof.Rows.boot_tuple (av (pv 5) aJ)) aJ)))) aJ))))))))
     (bQ (cD (pv 2))))),?_⟩
  try dsimp only[L2.cxX,L2.ZJ,L2.Zl]
  walk_at "rds";refine⟨Qs _,λr aH=>?_⟩;have aI:Zd H (upd H r (.lst [])):=cc aH;have eD:(upd H r (.lst [])) r=some (.lst []):=Ze;generalize upd H r (.lst [])=aq at*;have jH:=aI.seq aw;walk_at "rds";refine YL (fN aw) (λi σ H'=>∃(d2:List V)(code:List Row)(eJ eK a5 c6:Option V),σ=[some (.ref c),some (.int n),some (.ref r),eJ,eK,a5,c6]∧Zd H H'∧H' r=some (.lst d2)∧fR H' d2 code∧(∀c∈code,kF n c)∧code.length=i) ⟨[],[],_,_,_,_,rfl,aI,eD,.nil,by simp,rfl⟩ (λi σ H' ⟨_,_,_,_,_,_,_,s,_⟩=>s) ?_ ?_
  ·rintro i σ ar hi ⟨d2,code,eJ,eK,a5,c6,rfl,bt,dS,kJ,oL,eZ⟩;have cV:i<d_.length:=by rw[Qa] at hi;exact hi
   have eP:(d_.map V.int).getD i .non=V.int d_[i]:=by simp[List.getD,cV]
   rw[eP];generalize d_[i]=fF;walk_at "rds";have hg:0≤fF*48271 % 2147483647:=by omega
   have iz:fF*48271 % 2147483647<2147483647:=by omega
   generalize fF*48271 % 2147483647=dF at*;refine⟨Qs _,λt bM=>?_⟩;have bv:Zd ar (upd ar t (.lst [])):=cc bM;have fC:(upd ar t (.lst [])) t=some (.lst []):=Ze;have BU:H t=none:=gE bt bM;have oM:=bv _ _ dS;have BV:=kJ.keep (H':=upd ar t (.lst [])) λb xs e=>bv _ _ e;have BW:r≠t:=c8 dS bM;generalize upd ar t (.lst [])=bR at*;walk_at "rds";refine Wb (n:=(dF % 4).toNat) (λj σ H'=>∃(cR:List V)(ck:List (Int×Int))(c6:Option V),σ=[some (.ref c),some (.int n),some (.ref r),some (.int fF),some (.int dF),some (.ref t),c6]∧Zd ar H'∧H' t=some (.lst cR)∧eT H' cR ck∧ck.length=j∧∀x∈ck,0≤x.1∧x.1<(n:Int)∧x.2.natAbs≤3) ⟨[],[],_,rfl,bv,fC,.nil,rfl,by simp⟩ ?_ ?_
   ·rintro j σ bI bW ⟨cR,ck,ov,rfl,cf,i7,g5,g0,gM⟩;have BX:j<4:=by omega
    have he:0<4+(0+(j:Int))∧(4+(0+(j:Int))).natAbs.log2<9000:=⟨by omega,ol (by omega) (by omega)⟩;have gB:0<9+(0+(j:Int))∧(9+(0+(j:Int))).natAbs.log2<9000:=⟨by omega,ol (by omega) (by omega)⟩;have oN:cR.length<sizeLine:=dO (by have:=g5.length;omega);walk_at "rds";have bP:=QI (dF / (4+(0+(j:Int)))) (show(n:Int)≠0 by omega);have b3:=QA (dF / (4+(0+(j:Int)))) eA;have fa:(dF / (9+(0+(j:Int))) % 7-3).natAbs≤3:=by omega
    generalize dF / (4+(0+(j:Int))) % (n:Int)=gh at*;generalize dF / (9+(0+(j:Int))) % 7-3=gS at*;refine⟨by show 2≤sizeLine;decide,λu dk=>?_⟩;have cI:Zd bI (upd bI u (.tup [V.int gh,V.int gS])):=cc dk;have ja:(upd bI u (.tup [V.int gh,V.int gS])) u=some (.tup [V.int gh,V.int gS]):=Ze;generalize upd bI u (.tup [V.int gh,V.int gS])=bT at*;have w2:=cI _ _ i7;walk_at "rds";have r6:Yh [t] bT (upd bT t (.lst (cR++ [.ref u]))):=ju (by simp) w2 (by intro _ z;cases z);refine⟨cR++ [.ref u],ck++ [(gh,gS)],_,rfl,(cf.trans cI).new bM,Ze,((g5.keep λb xs e=>cI _ _ e).keep r6.tups).snoc (x:=(gh,gS)) (r6.tups _ _ ja),by simp[g0],λx ax=>?_⟩;rcases QG.mp ax with z|z
    ·exact gM x z
    ·rw[QF.mp z];exact⟨bP,b3,fa⟩
   ·rintro σ bI ⟨cR,ck,ov,rfl,cf,i7,g5,g0,gM⟩;have ow:=cf _ _ dS;have w3:=kJ.keep (H':=bI) λb xs e=>cf _ _ e;have kK:=SqL.of (K:=K) i7;have BY:d2.length<sizeLine:=dO (by have:=kJ.length;omega);walk_at "rds";have bP:=QI (dF / 5) (show(n:Int)≠0 by omega);have b3:=QA (dF / 5) eA;rw[w1];have fa:(fF % (2*100000000000000000000)-100000000000000000000).natAbs≤10 ^ 30:=by omega
    generalize dF / 5 % (n:Int)=cB at*;generalize fF % (2*100000000000000000000)-100000000000000000000=jK at*;refine⟨t,cR,rfl,.inl ⟨kK,λw hw=>?_⟩⟩;have cI:Zd bI (upd bI w (.tup cR)):=cc hw;have ja:(upd bI w (.tup cR)) w=some (.tup cR):=Ze;generalize upd bI w (.tup cR)=bT at*;walk_at "rds";refine⟨by show 3≤sizeLine;decide,λu dk=>?_⟩;have dI:Zd bT (upd bT u (.tup [V.int cB,V.int jK,V.ref w])):=cc dk;have kL:(upd bT u (.tup [V.int cB,V.int jK,V.ref w])) u=some (.tup [V.int cB,V.int jK,V.ref w]):=Ze;generalize upd bT u (.tup [V.int cB,V.int jK,V.ref w])=fW at*;have g6:=cI.trans dI;have w4:=g6 _ _ ow;walk_at "rds";have h4:Yh [r] fW (upd fW r (.lst (d2++ [.ref u]))):=ju (by simp) w4 (by intro _ z;cases z);refine⟨d2++ [.ref u],code++ [(cB,jK,ck)],_,_,_,_,rfl,((bt.trans cf).trans g6).new aH,Ze,?_,λx ax=>?_,by simp[eZ]⟩
    ·exact rE ((w3.keep λb xs e=>g6 _ _ e).keep h4.tups) (c:=(cB,jK,ck)) ⟨u,w,cR,rfl,h4.tups _ _ kL,h4.tups _ _ (dI _ _ ja),(g5.keep λb xs e=>g6 _ _ e).keep h4.tups⟩
    ·rcases QG.mp ax with z|z
     ·exact oL x z
     ·rw[QF.mp z];exact⟨⟨bP,b3⟩,fa,by show ck.length≤3;omega,gM⟩
  ·rintro σ ar ⟨d2,code,eJ,eK,a5,c6,rfl,bt,dS,kJ,oL,eZ⟩;rw[Qa] at eZ;walk_at "rds";exact q r ar d2 code aH bt dS kJ oL eZ
end
def w5{K:Frag}{mg:Str→Option Value}(T:Tp K mg):Sp:=λvs H Q _=>∃(f dm c:Addr)(k:Int)(cR:List V)(ck:List (Int×Int))(xs:List Int),vs=[.ref f,.ref c]∧H f=some (.tup [.int k,.ref dm])∧H dm=some (.tup cR)∧eT H cR ck∧SqL K H c (xs.map V.int)∧ck.length≤1000∧(∀t∈ck,0≤t.1∧t.1<(xs.length:Int)∧IntMulOk t.2 (xs.getD t.1.toNat 0))∧
 ∀H':Hp,Zd H H'→Q (.int (oc k ck xs)) H'
section
variable {P:Program}{w:World}{K:Frag}{mg:Str→Option Value}{base:Heap}
theorem w6(T:Tp K mg):OkN P w base 1 T.be (w5 T):=by
 refine T.be.F.okX vN (λvs H Q E h=>?_) (λbU A outer s H vs Q E aH h=>?_)
 ·obtain⟨f,dm,c,k,cR,ck,xs,rfl,_⟩:=h
  rfl
 ·have hu:=aH.hu;obtain⟨f,dm,c,k,cR,ck,xs,rfl,a',kM,dX,aw,oN,r2,q⟩:=h;have oO:=dX.length;have du:SqT K H dm cR:= .of kM;refine⟨_,(bQ (cD (bB (d0 K) (ef (ixk K) (pv 0) Zf (λ_ _=>rfl)) (cL (qI (K:=K) rfl rfl) (by rfl) T.aG Je (av (ko (xs:=["slot","factor"]) rfl (f5 (x:="slot") (zs:=["pieces"]) (ix:=[1]) (b4 n5) ["form","pieces"] rfl rfl (by decide+kernel)) (qD (K:=K) rfl (ef (ixk K) (pv 0) Zf (λ_ _=>rfl))) (λcl C s H fp=>⟨(hB (K:=K) (n:=2) rfl rfl (dU (cE (i:=0) (show(["slot","factor","pieces"]:List Str).Nodup by decide+kernel) rfl (Or.inl rfl)) (dU (cE (i:=1) (show(["slot","factor","pieces"]:List Str).Nodup by decide+kernel) rfl (Or.inl rfl)) hf))),f0,(bB e2 (pv 1) (ef (ixk K) (pv 2) (pv 0) (λ_ _=>rfl)))⟩)) aJ))))),?_⟩
  try dsimp only[L2.cxX,L2.ZJ,L2.Zl]
  walk_at "rds";unfold lb;walk_at "rds";refine⟨dm,rfl,⟨_,du⟩,?_⟩;refine Yg (own:=2) (qt du).y (dO (by omega)) (λi=>[some (.int (ck.getD i (0,0)).1),some (.int (ck.getD i (0,0)).2)]) (λ_=>rfl) (λ_=>true) (λi v _=>v= .int ((ck.getD i (0,0)).2*xs.getD (ck.getD i (0,0)).1.toNat 0)) (λ_ _ _ _ _ z=>z) (λi cP H' v bR gx hi bD y dY k=>?_) (λi H' cM hi bD k=>?_) (λim i H' cM hi er hp0 f9 bD k=>?_) (λd bR zs hd bD eI de=>?_)
  ·obtain⟨rfl,rfl⟩:=y;obtain⟨x1,x2,rfl⟩:∃x1 x2,cP=[x1,x2]:=by
    match cP,dY with
    | [x1,x2],_=>exact⟨x1,x2,rfl⟩
   obtain⟨t,dn,bM⟩:=dX.getD (i:=i) (by omega);rw[dn];refine Rd.Vl (.of (bD _ _ bM)) rfl ?_;walk_at "rds";exact k _ (Zd.refl _)
  ·walk_at "rds";exact k H' (Zd.refl H')
  ·have cV:i<ck.length:=by omega
   have bq:ck.getD i (0,0)∈ck:=by rw[cY cV];exact Qn _
   obtain⟨fS,hF,rN⟩:=r2 _ bq;generalize ck.getD i (0,0)=tt at*;have gc:=bD.seq aw;have l9:=Wc fS hF;walk_at "rds";exact k _ H' (Zd.refl H') rfl
  ·rw[Qx.mpr (by simp),oO] at de;have dP:=kE de;rw[Wv (λt:Int×Int=>t.2*xs.getD t.1.toNat 0)] at dP;have fK:=SqL.of (K:=K) (dP▸eI);walk_at "rds";refine⟨d,_,rfl,fK,?_⟩;walk_at "rds";exact q bR bD
end
def w7{K:Frag}{mg:Str→Option Value}(T:Tp K mg):Sp:=λvs H Q _=>∃(kN jL:Addr)(d2:List V)(code:List Row)(xs:List Int),vs=[.ref kN,.ref jL]∧H kN=some (.lst d2)∧fR H d2 code∧SqL K H jL (xs.map V.int)∧(∀c∈code,kF xs.length c)∧code.length≤64∧i2 0 xs∧
 ∀(r:Addr)(H':Hp),H r=none→Zd H H'→H' r=some (.lst ((runL xs code).map V.int))→Q (.ref r) H'
section
variable {P:Program}{w:World}{K:Frag}{mg:Str→Option Value}{base:Heap}
theorem r7(T:Tp K mg):OkN P w base 2 T.aY (w7 T):=by
 refine T.aY.F.okX kC (λvs H Q E h=>?_) (λbU A outer s H vs Q E aH h=>?_)
 ·obtain⟨kN,jL,d2,code,xs,rfl,_⟩:=h
  rfl
 ·have hu:=aH.hu;obtain⟨kN,jL,d2,code,xs,rfl,r8,lx,w8,hok,i',jb,q⟩:=h;have dr:=lx.length;refine⟨_,(bz (ci (i:=2) kC.nd rfl (Or.inl rfl) (fc (fP (K:=K) rfl) (by rfl) T.g Qi (av (pv 1) aJ)))
     (bz (eV PassesOwn.leaving rfl (f8 (K:=K) rfl (pv 0)) (hB (K:=K) (n:=3) rfl rfl (dU (cE (i:=3) kC.nd rfl (Or.inl rfl)) (dU (cE (i:=4) kC.nd rfl (Or.inl rfl)) (dU (cE (i:=5) kC.nd rfl (Or.inl rfl)) hf)))) (bQ (la (cx T.be (w6 T) aH cs (av (gW (av (pv 4) (av (pv 5) aJ))) (av (pv 2) aJ))) (k9 (pv 2) (pv 3) mR))))
     (bQ (cD (pv 2))))),?_⟩
  try dsimp only[L2.cxX,L2.ZJ,L2.Zl]
  walk_at "rds";refine⟨jL,_,rfl,.inl w8,λr aH=>?_⟩;have aI:Zd H (upd H r (.lst (xs.map V.int))):=cc aH;have eD:(upd H r (.lst (xs.map V.int))) r=some (.lst (xs.map V.int)):=Ze;generalize upd H r (.lst (xs.map V.int))=aq at*;have BZ:=aI _ _ r8;walk_at "rds";refine YL (fN (SqL.of r8)) (λi σ H'=>Zd H H'∧∃a1 d8 eJ,σ=[some (.ref kN),some (.ref jL),some (.ref r),a1,d8,eJ]∧H' r=some (.lst ((runL xs (code.take i)).map V.int))) ⟨aI,_,_,_,rfl,eD⟩ (λi σ H' h=>h.1) ?_ ?_
  ·rintro i σ ar hi ⟨bt,a1,d8,eJ,rfl,dS⟩;have cV:i<code.length:=by omega
   obtain⟨a,dm,cR,ea,a2,kM,dX⟩:=lx.getD cV;rw[ea];have gO:=hok _ (Qn cV);have oP:=oh jb hok i (by omega);have oQ:runL xs (code.take (i+1))=hE (runL xs (code.take i)) (code.getD i dR):=by rw[Qo cV,oe,cY cV]
   have w9:=Uh xs (code.take i);rw[oQ];rw[←cY (d:=dR) cV] at gO;generalize runL xs (code.take i)=ip at*;generalize code.getD i dR=c at*;refine Rd.Vl (.of (bt _ _ a2)) rfl ?_;walk_at "rds";refine⟨by show 2≤sizeLine;decide,λu dk=>?_⟩;have bv:Zd ar (upd ar u (.tup [V.int c.2.1,V.ref dm])):=cc dk;have fC:(upd ar u (.tup [V.int c.2.1,V.ref dm])) u=some (.tup [V.int c.2.1,V.ref dm]):=Ze;generalize upd ar u (.tup [V.int c.2.1,V.ref dm])=bR at*;have fE:=bt.trans bv;have oM:=bv _ _ dS;walk_at "rds";refine⟨u,dm,r,c.2.1,cR,c.2.2,ip,rfl,fC,fE _ _ kM,dX.keep (λb xs e=>fE _ _ e),SqL.of oM,by have:=gO.few;omega,λt bM=>?_,λbI cf=>?_⟩
   ·obtain⟨fS,hF,og⟩:=gO.ter t bM;refine⟨fS,by omega,mulI (n:=2) (m:=400) (by omega) (rD (n:=i) (by omega) (oP _ ?_)) (by decide)⟩;rw[cY (by omega)];exact Qn _
   ·have ow:=cf _ _ oM;obtain⟨dZ,hC⟩:=gO.box;have jF:c.1<((ip.map V.int).length:Int):=by rw[Qa];omega
    walk_at "rds";refine⟨(fE.trans cf).new aH,_,_,_,rfl,?_⟩;rw[Ze];unfold hE;rw[List.map_set]
  ·rintro σ ar ⟨bt,a1,d8,eJ,rfl,dS⟩;rw[dr,Ji] at dS;walk_at "rds";exact q r ar aH bt dS
end
def w_{K:Frag}{mg:Str→Option Value}(T:Tp K mg):Sp:=λvs H Q _=>∃(c:Addr)(xs:List Int),vs=[.ref c]∧SqL K H c (xs.map V.int)∧H c=some (.lst (xs.map V.int))∧Q (.bl true) H
section
variable {P:Program}{w:World}{K:Frag}{mg:Str→Option Value}{base:Heap}
theorem r9(T:Tp K mg):OkN P w base 1 T.aZ (w_ T):=by
 refine T.aZ.F.okX rz (λvs H Q E h=>?_) (λbU A outer s H vs Q E aH h=>?_)
 ·obtain⟨c,xs,rfl,_⟩:=h
  rfl
 ·have hu:=aH.hu;obtain⟨c,xs,rfl,aw,gc,q⟩:=h;refine⟨_,(bz (dq (fu (e4 (K:=K) rfl (cL (jv (K:=K) rfl) (by rfl) T.a Ql (av (pv 0) (av (hc (v:= .ty "list") (by rfl) T.g Qi rfl) aJ))) (λ_=>rfl))) (bQ (cD YW)) dz)
     (bz (eV PassesOwn.leaving rfl (f8 (K:=K) rfl (pv 0)) (cE (i:=1) rz.nd rfl (Or.inl rfl)) (bQ (dq (PW.pt (fV (fu (e4 (K:=K) rfl (cL (jv (K:=K) rfl) (by rfl) T.a Ql (av (pv 1) (av (hc (v:= .ty "int") (by rfl) T.aF Jd rfl) aJ))) (λ_=>rfl))) (gf (e4 (K:=K) rfl (cL (jv (K:=K) rfl) (by rfl) T.a Ql (av (pv 1) (av (hc (v:= .ty "bool") (by rfl) T.aK PyProof.Rows.boot_bool rfl) aJ))) (λ_=>rfl))))) (bQ (cD YW)) dz)))
     (bQ (cD YW)))),?_⟩
  try dsimp only[L2.cxX,L2.ZJ,L2.Zl]
  walk_at "rds";refine YL (fN aw) (λi σ H'=>H'=H∧∃a1:Option V,σ=[some (.ref c),a1]) ⟨rfl,_,rfl⟩ (λi σ H' h=>h.1▸Zd.refl H) ?_ ?_
  ·rintro i σ H' hi ⟨rfl,a1,rfl⟩;have cV:i<xs.length:=by rw[Qa] at hi;exact hi
   have eP:(xs.map V.int).getD i .non=V.int xs[i]:=by simp[List.getD,cV]
   rw[eP];walk_at "rds";exact⟨rfl,_,rfl⟩
  ·rintro σ H' ⟨rfl,a1,rfl⟩;walk_at "rds";exact q
end
def w'{K:Frag}{mg:Str→Option Value}(T:Tp K mg):Sp:=λvs H Q _=>∃(d c:Addr)(xs d_:List Int),vs=[.ref d,.ref c]∧H d=some (.lst (xs.map V.int))∧0<xs.length∧xs.length≤100000∧i2 0 xs∧SqL K H c (d_.map V.int)∧d_.length≤63∧∀H',Q (.bl true) H'
section
variable {P:Program}{w:World}{K:Frag}{mg:Str→Option Value}{base:Heap}
theorem xa(T:Tp K mg):OkN P w base 3 T.bf (w' T):=by
 refine T.bf.F.okX ih (λvs H Q E h=>?_) (λbU A outer s H vs Q E aH h=>?_)
 ·obtain⟨d,c,xs,d_,rfl,_⟩:=h
  rfl
 ·have hu:=aH.hu;obtain⟨d,c,xs,d_,rfl,hd,x0,xz,jb,aw,i',q⟩:=h;have B0:=SqL.of (K:=K) hd;refine⟨_,(bz (ci (i:=2) ih.nd rfl (Or.inl rfl) (cx T.bd (w0 T) aH cs (av (pv 1) (av (cL (eh K) (by rfl) T.c Qk (av (pv 0) aJ)) aJ))))
     (bz (ci (i:=3) ih.nd rfl (Or.inl rfl) (fc (fP (K:=K) rfl) (by rfl) T.g Qi (av (pv 0) aJ)))
     (bz (ci (i:=4) ih.nd rfl (Or.inl rfl) (cx T.aY (r7 T) aH cs (av (eu aJ) (av (pv 3) aJ))))
     (bz (dq (dA (fO (K:=K) rfl hu) (pv 4) (pv 0) (c4 _)) (bQ (cD YW)) dz)
     (bz (dH (eR (K:=K) rfl Qe Qf Qg eY (pv 4) (av Zf aJ)))
     (bz (ci (i:=4) ih.nd rfl (Or.inl rfl) (cx T.aY (r7 T) aH cs (av (fc (fP (K:=K) rfl) (by rfl) T.g Qi (av (pv 2) aJ)) (av (pv 3) aJ))))
     (bz (dq (dA (fO (K:=K) rfl hu) (pv 3) (pv 0) (c4 _)) (bQ (cD YW)) dz)
     (bz (eV PassesOwn.leaving rfl (f8 (K:=K) rfl (pv 2)) (hB (K:=K) (n:=3) rfl rfl (dU (cE (i:=5) ih.nd rfl (Or.inl rfl)) (dU (cE (i:=6) ih.nd rfl (Or.inl rfl)) (dU (cE (i:=7) ih.nd rfl (Or.inl rfl)) hf)))) (bQ (la (bB (d0 K) (pv 6) (cL (qI (K:=K) rfl rfl) (by rfl) T.aG Je (av (ko (xs:=["_law_other","_law_factor"]) rfl (f5 (x:="_law_other") (zs:=["_law_due"]) (ix:=[0]) (b4 n6) ["_law_due","_law_cells","_law_code","_law_boxes","_law_found","_law_box","_law_constant","_law_terms"] rfl rfl (by decide+kernel)) (qD (K:=K) rfl (pv 7)) (λcl C s H fp=>⟨(hB (K:=K) (n:=2) rfl rfl (dU (cE (i:=0) (show(["_law_other","_law_factor","_law_due"]:List Str).Nodup by decide+kernel) rfl (Or.inl rfl)) (dU (cE (i:=1) (show(["_law_other","_law_factor","_law_due"]:List Str).Nodup by decide+kernel) rfl (Or.inl rfl)) hf))),f0,(bB e2 (pv 1) (ef (ixk K) (pv 2) (pv 0) (λ_ _=>rfl)))⟩)) aJ))) (k9 (pv 0) (pv 5) mR))))
     (bQ (cD (j0 (cx T.aZ (r9 T) aH cs (av (pv 4) aJ)) (jZ (iF (f7 (K:=K) rfl hu) (pv 4) (pv 0) (c4 _)))))))))))))),?_⟩
  try dsimp only[L2.cxX,L2.ZJ,L2.Zl]
  walk_at "rds";refine⟨c,d_,xs.length,by simp,aw,i',x0,by omega,λr aq d2 code aH aI ib hC1 hok dr=>?_⟩;have xb:=hC1.length;have oR:=aI _ _ hd;have xc:=SqL.of (K:=K) oR;walk_at "rds";refine⟨d,_,rfl,.inl xc,λb ao=>?_⟩;have bt:Zd aq (upd aq b (.lst (xs.map V.int))):=cc ao;have es:(upd aq b (.lst (xs.map V.int))) b=some (.lst (xs.map V.int)):=Ze;generalize upd aq b (.lst (xs.map V.int))=ar at*;walk_at "rds";refine⟨Qs _,λe bF=>?_⟩;have bv:Zd ar (upd ar e (.lst [])):=cc bF;have fC:(upd ar e (.lst [])) e=some (.lst []):=Ze;generalize upd ar e (.lst [])=bR at*;walk_at "rds";refine⟨e,b,[],[],xs,rfl,fC,.nil,SqL.of (bv _ _ es),by simp,by simp,jb,λf bI a' cf oS=>?_⟩;have gP:=bt.trans (bv.trans cf);have l8:=gP _ _ oR;have xf:=SqL.of (K:=K) l8;have xg:=SqL.of (K:=K) (show bI f=some (.lst (xs.map V.int)) from oS);have gN:=cf _ _ (bv _ _ es);walk_at "rds";refine Rd.Vj (dj.ints xg) (dj.ints xf) (gw _) (gw _) (kn _) ?_;have kO:∀l:List Int,(!(PyData.list (l.map PyData.int)).eqv (PyData.list (l.map PyData.int)))=false:=λl=>by rw[Us];simp
  rw[kO];have xh:(xs.map V.int).length<sizeLine:=by rw[Qa];exact gG (by omega)
  have B1:bI f=some (.lst (xs.map V.int)):=oS;walk_at "rds";have xi:d≠f:=λz=>by rw[←z,bv _ _ (bt _ _ oR)] at a';cases a'
  have xj:b≠f:=λz=>by rw[←z,bv _ _ es] at a';cases a'
  have xk:r≠f:=λz=>by rw[←z,bv _ _ (bt _ _ ib)] at a';cases a'
  have eM:Yh [f] bI (upd bI f (.lst (xs.map V.int++ [V.int 1]))):=ju (by simp) oS (by intro _ z;cases z);have r_:=eM.keep _ _ l8 (by simpa using xi);have l5:=eM.keep _ _ gN (by simpa using xj);have r':=eM.keep _ _ (gP _ _ ib) (by simpa using xk);have sb:=(hC1.keep λb xs e=>gP _ _ e).keep eM.tups;generalize upd bI f (.lst (xs.map V.int++ [V.int 1]))=bT at*;have xl:=SqL.of (K:=K) r';walk_at "rds";refine⟨r,_,rfl,.inl xl,λg bL=>?_⟩;have dI:Zd bT (upd bT g (.lst d2)):=cc bL;have kL:(upd bT g (.lst d2)) g=some (.lst d2):=Ze;generalize upd bT g (.lst d2)=fW at*;walk_at "rds";refine⟨g,b,d2,code,xs,rfl,kL,sb.keep (λb xs e=>dI _ _ e),SqL.of (dI _ _ l5),hok,by omega,jb,λo c2 a3 dJ xm=>?_⟩;have l_:=dI.trans dJ;have oT:=l_ _ _ r_;have i_:=l_ _ _ l5;have xn:=l_ _ _ r';have xo:=sb.keep λb xs e=>l_ _ _ e;walk_at "rds";refine Rd.Vj (dj.ints (SqL.of i_)) (dj.ints (SqL.of oT)) (gw _) (gw _) (kn _) ?_;walk_at "rds";rw[kO];walk_at "rds";have xp:o≠d:=λz=>by rw[z,dI _ _ r_] at a3;cases a3
  have xq:r≠d:=λz=>by rw[z,hd] at aH;cases aH
  have xr:(hid c2 d) r=some (.lst d2):=by rw[Wh xq];exact xn
  refine YL (fN (SqL.of xr)) (λi σ H'=>Zd (hid c2 d) H'∧∃a5 c6 a7,σ=[some (.ref d),some (.ref c),some (.ref r),some (.ref b),some (.ref o),a5,c6,a7]∧H' d=some (.lst ((runL xs (code.take i)).map V.int))) ⟨hz,_,_,_,rfl,oT⟩ (λi σ H' h=>h.1) ?_ ?_
  ·rintro i σ gq hi ⟨d7,a5,c6,a7,rfl,kP⟩;have cV:i<code.length:=by omega
   obtain⟨a,dm,cR,ea,a2,kM,dX⟩:=xo.getD cV;rw[ea];have gO:=hok _ (Qn cV);have oP:=oh jb hok i (by omega);have oQ:runL xs (code.take (i+1))=hE (runL xs (code.take i)) (code.getD i dR):=by rw[Qo cV,oe,cY cV]
   have w9:=Uh xs (code.take i);rw[oQ];rw[←cY (d:=dR) cV] at gO;generalize runL xs (code.take i)=ip at*;generalize code.getD i dR=dx at*;have oU:∀b xs,c2 b=some (.tup xs)→gq b=some (.tup xs):=λb xs e=>d7 _ _ (uz oT b xs e);have sc:=dX.keep oU;have oO:=sc.length;have du:SqT K gq dm cR:= .of (oU _ _ kM);have xt:=SqL.of (K:=K) kP;have oN:=gO.few;refine Rd.Vl (.of (oU _ _ a2)) rfl ?_;walk_at "rds";unfold lb;walk_at "rds";refine⟨dm,rfl,⟨_,du⟩,?_⟩;refine Yg (own:=2) (qt du).y (dO (by omega)) (λi=>[some (.int (dx.2.2.getD i (0,0)).1),some (.int (dx.2.2.getD i (0,0)).2)]) (λ_=>rfl) (λ_=>true) (λi v _=>v= .int ((dx.2.2.getD i (0,0)).2*ip.getD (dx.2.2.getD i (0,0)).1.toNat 0)) (λ_ _ _ _ _ z=>z) (λi cP H' v bR gx hi bD y dY k=>?_) (λi H' cM hi bD k=>?_) (λim j H' cM hi er hp0 f9 bD k=>?_) (λw fj zs hw bD eI de=>?_)
   ·obtain⟨rfl,rfl⟩:=y;obtain⟨x1,x2,rfl⟩:∃x1 x2,cP=[x1,x2]:=by
     match cP,dY with
     | [x1,x2],_=>exact⟨x1,x2,rfl⟩
    obtain⟨t,dn,bM⟩:=sc.getD (i:=i) (by omega);rw[dn];refine Rd.Vl (.of (bD _ _ bM)) rfl ?_;walk_at "rds";exact k _ (Zd.refl _)
   ·walk_at "rds";exact k H' (Zd.refl H')
   ·have cV:j<dx.2.2.length:=by omega
    have bq:dx.2.2.getD j (0,0)∈dx.2.2:=by rw[cY cV];exact Qn _
    obtain⟨fS,hF,og⟩:=gO.ter _ bq;generalize dx.2.2.getD j (0,0)=tt at*;have xu:tt.1<(ip.length:Int):=by omega
    have rN:IntMulOk tt.2 (ip.getD tt.1.toNat 0):=mulI (n:=2) (m:=400) (by omega) (rD (n:=i) (by omega) (oP _ (by rw[cY (by omega)];exact Qn _))) (by decide);have gc:=bD.seq xt;have l9:=Wc fS xu;walk_at "rds";exact k _ H' (Zd.refl H') rfl
   ·rw[Qx.mpr (by simp),oO] at de;have dP:=kE de;rw[Wv (λt:Int×Int=>t.2*ip.getD t.1.toNat 0)] at dP;have fK:=SqL.of (K:=K) (dP▸eI);have B2:=bD _ _ kP;obtain⟨dZ,hC⟩:=gO.box;have jF:dx.1<((ip.map V.int).length:Int):=by rw[Qa];omega
    walk_at "rds";refine⟨w,_,rfl,fK,?_⟩;walk_at "rds";refine⟨(d7.trans bD).new ia,_,_,_,rfl,?_⟩;rw[Ze];unfold hE;rw[List.map_set]
    rfl
  ·rintro σ gq ⟨d7,a5,c6,a7,rfl,kP⟩;rw[xb,Ji] at kP;have sd:gq o=some (.lst ((runL xs code).map V.int)):=d7 _ _ (by rw[Wh xp];exact xm);have se:=SqL.of (K:=K) sd;walk_at "rds";refine⟨o,runL xs code,rfl,se,sd,?_⟩;walk_at "rds";refine Rd.ZcX (dj.ints se) (dj.ints (SqL.of kP)) (gw _) (gw _) (kn _) ?_;rw[Us,decide_eq_true rfl];walk_at "rds";exact q _
end
def xv{K:Frag}{mg:Str→Option Value}(T:Tp K mg):Sp:=λvs H Q _=>∃(c:Int)(m:Nat),vs=[.int c,.int m]∧m≤8∧
 ∀(r:Addr)(H':Hp)(cp:List Str),H r=none→Zd H H'→H' r=some (.lst (cp.map V.str))→(∀n∈cp,eS n=true)→cp.Nodup→cp.length=m→(∃eE:Nat,∀n∈cp,n.length=eE)→Q (.ref r) H'
section
variable {P:Program}{w:World}{K:Frag}{mg:Str→Option Value}{base:Heap}
theorem xw(T:Tp K mg):OkN P w base 1 T.bg (xv T):=by
 refine T.bg.F.okX gC (λvs H Q E h=>?_) (λbU A outer s H vs Q E aH h=>?_)
 ·obtain⟨c,m,rfl,_⟩:=h
  rfl
 ·have hu:=aH.hu;obtain⟨c,m,rfl,bq,q⟩:=h;have al:=vX;refine⟨_,(bz (ci (i:=2) gC.nd rfl (Or.inl rfl) Yp)
     (bz (ci (i:=3) gC.nd rfl (Or.inl rfl) (bB (d0 K) Zf (bB c3 (pv 0) Zf)))
     (bz (ci (i:=4) gC.nd rfl (Or.inl rfl) (bB c3 (bB ey (pv 0) Zf) (pv 3)))
     (bz (ci (i:=5) gC.nd rfl (Or.inl rfl) (eu aJ))
     (bz (eV PassesOwn.leaving rfl (hW rfl T.j (av (pv 1) aJ)) (cE (i:=6) gC.nd rfl (Or.inl rfl)) (bz (ci (i:=7) gC.nd rfl (Or.inl rfl) Yp)
     (bz (eV PassesOwn.leaving rfl (hW rfl T.j (av (pv 3) aJ)) (cE (i:=8) gC.nd rfl (Or.inl rfl)) (bz (ci (i:=9) gC.nd rfl (Or.inl rfl) (bB ey (pv 0) (bB (d0 K) Zf (pv 8))))
     (bz (lr (dq (dA (f7 (K:=K) rfl hu) (pv 8) (pv 4) (c4 _)) (bQ (ci (i:=9) gC.nd rfl (Or.inl rfl) (bB (d0 K) (bB ey (pv 0) Zf) (bB e2 Zf (pv 6))))) dz))
     (bQ (ci (i:=7) gC.nd rfl (Or.inl rfl) (bB (d0 K) (pv 7) (ef (ixk K) (pv 2) (bB c3 (pv 9) Zf) (λ_ _=>rfl))))))))
     (bQ (dH (eR (K:=K) rfl Qe Qf Qg eY (pv 5) (av (pv 7) aJ)))))))
     (bQ (cD (pv 5)))))))),?_⟩
  try dsimp only[L2.cxX,L2.ZJ,L2.Zl]
  have eb:0<1+c % 8:=by omega
  walk_at "rds";have a0:=QI (c / 8) (show 1+c % 8≠0 by omega);have a1:=QA (c / 8) eb;generalize c / 8 % (1+c % 8)=at_ at*;obtain⟨eE,xx⟩:∃l:Nat,1+c % 8=(l:Int):=⟨(1+c % 8).toNat,by omega⟩;rw[xx] at a1⊢;have xy:1≤eE:=by omega
  have xA:eE≤8:=by omega
  refine⟨Qs _,λr aH=>?_⟩;have aI:Zd H (upd H r (.lst [])):=cc aH;have eD:(upd H r (.lst [])) r=some (.lst (([]:List Str).map V.str)):=Ze;generalize upd H r (.lst [])=aq at*;walk_at "rds";refine Wb (n:=m) (λi σ H'=>∃(cp:List Str)(c6 a7 a8 a9:Option V),σ=[some (.int c),some (.int m),some (.str "abcdefghijklmnopqrstuvwxyz"),some (.int eE),some (.int at_),some (.ref r),c6,a7,a8,a9]∧Zd H H'∧H' r=some (.lst (cp.map V.str))∧cp.length=i∧W2 c at_ eE cp) ⟨[],_,_,_,_,rfl,aI,eD,rfl,⟨λk x e=>by simp at e⟩⟩ ?_ ?_
  ·rintro i σ ar hi ⟨cp,c6,a7,a8,a9,rfl,bt,dS,eZ,fw⟩;have bw:(cp.map V.str).length<sizeLine:=dO (by rw[Qa];omega);walk_at "rds";refine Wb (n:=eE) (λj σ H'=>H'=ar∧∃(w:Str)(a8 a9:Option V),σ=[some (.int c),some (.int m),some (.str "abcdefghijklmnopqrstuvwxyz"),some (.int eE),some (.int at_),some (.ref r),some (.int (0+(i:Int))),some (.str w),a8,a9]∧w.cps.toList=(List.range j).map (chN c at_ i)) ⟨rfl,"",_,_,rfl,rfl⟩ ?_ ?_
   ·rintro j σ H' bW ⟨rfl,w,xB,xC,rfl,hw⟩;have he:0<64+(0+(j:Int))∧(64+(0+(j:Int))).natAbs.log2<9000:=⟨by omega,ol (by omega) (by omega)⟩;walk_at "rds";refine Rd.cut (λaV ar=>ar=H'∧∃t:Int,aV=[some (.int c),some (.int m),some (.str "abcdefghijklmnopqrstuvwxyz"),some (.int eE),some (.int at_),some (.ref r),some (.int (0+(i:Int))),some (.str w),some (.int (0+(j:Int))),some (.int t)]∧chN c at_ i j=97+(t % 26).toNat) ?k1 ?dv
    case dv=>
     walk_at "rds";refine Rd.ifD (λz=>?_) (λz=>?_)
     ·walk_at "rds";refine⟨rfl,_,rfl,?_⟩;unfold chN;rw[if_pos (by omega),Jr]
     ·walk_at "rds";refine⟨rfl,_,rfl,?_⟩;unfold chN;rw[if_neg (by omega),Jr]
    case k1=>
     rintro aV bR ⟨rfl,t,rfl,bM⟩;walk_at "rds";have fS:0≤t % 26:=by omega
     have hF:t % 26<26:=by omega
     refine Rd.Zhc al (vY fS hF) ?_;rw[←bM];have xD:w.length=j:=by rw[oi,hw];simp
     refine Rd.ZfG (QJ (dO (by rw[xD];show j+1≤1000;omega))) ?_;walk_at "rds";refine⟨rfl,_,_,_,rfl,?_⟩;rw[Zcw,hw,Jo,QK]
     rfl
   ·rintro σ H' ⟨rfl,w,xB,xC,rfl,hw⟩;walk_at "rds";refine⟨cp++ [w],_,_,_,_,rfl,bt.new aH,by rw[Ze,QK];rfl,by simp[eZ],⟨λk x e=>?_⟩⟩;rcases Jp k cp.length with z|z
    ·rw[Q7 z] at e;exact fw.cps k x e
    ·rw[QP z] at e;have aD:k-cp.length=0:=by
      rcases Nat.eq_zero_or_pos (k-cp.length) with y|y
      ·exact y
      ·rw[List.getElem?_eq_none (by simp;omega)] at e;cases e
     rw[aD] at e;obtain rfl:w=x:=by simpa using e
     have:k=i:=by omega
     rw[this];exact hw
  ·rintro σ ar ⟨cp,c6,a7,a8,a9,rfl,bt,dS,eZ,fw⟩;walk_at "rds";exact q r ar cp aH bt dS (fw.name xy xA) (fw.nodup (by omega) a0 a1) eZ ⟨_,λn br=>by
    obtain⟨k,aD⟩:=List.getElem?_of_mem br;rw[oi,fw.cps k n aD,Qa,List.length_range]⟩
end
def xE{K:Frag}{mg:Str→Option Value}(T:Tp K mg)(ea:Addr):Sp:=λvs H Q _=>∃(b:Bool),vs=[.ref ea]∧H ea=some (dQ ea (if b then T.b else T.e))∧∀H',Zd H H'→Q (.int (if b then 0 else 1)) H'
section
variable {P:Program}{w:World}{K:Frag}{mg:Str→Option Value}{base:Heap}
theorem sf(T:Tp K mg):OkH P w base 1 T.a0 (xE T):=by
 refine T.a0.F.okH rA (λea vs H Q E h=>?_) (λea bU A outer s H vs Q E aH h=>?_)
 ·obtain⟨b,rfl,_⟩:=h
  rfl
 ·have hu:=aH.hu;obtain⟨b,rfl,eC,q⟩:=h;have B3:=T.aA;have xe:=T.ah;have k1:=T.z;have k2:=T.u;have k3:=T.A;have rS:=T.p;have k5:=T.w;have B4:=T.q;have B6:=T.x;have B7:=T.l;refine⟨_,(bz (ci (i:=1) rA.nd rfl (Or.inl rfl) (eu (av (cL (lD (K:=K) rfl) (by rfl) T.a Ql (av (pv 0) (av (jh (v:= .ref T.b) rfl T.r.m rfl) aJ))) (av (cL (lD (K:=K) rfl) (by rfl) T.a Ql (av (pv 0) (av (jh (v:= .ref T.e) rfl T.k.m rfl) aJ))) (av (cL (lD (K:=K) rfl) (by rfl) T.a Ql (av (pv 0) (av (jh (v:= .ref T.aM) rfl T.aN.m rfl) aJ))) aJ)))))
     (bz (dq (PW.pt (fV (dA (fO (K:=K) rfl hu) (cL (vl (K:=K) (ea:=ea) rfl aH.hd) (by rfl) T.aG Je (av (vj (ea:=ea) aH.hd (f5 (x:="_law_one") (zs:=[]) (ix:=[]) (b4 n7) ["_law_e","_law_some"] rfl rfl (by decide+kernel)) (vi (K:=K) rfl (pv 1)) (λcl C s H fp=>⟨(cE (i:=0) (show(["_law_one"]:List Str).Nodup by decide+kernel) rfl (Or.inl rfl)),f0,(fc tr (by rfl) T.aF Jd (av (pv 0) aJ))⟩)) aJ)) Zf (c4 _)) (gf (fu (e4 (K:=K) rfl (cL (lD (K:=K) rfl) (by rfl) T.a Ql (av (pv 0) (av (hc (v:= .ty "ValueError") (by rfl) T.S (by first|rfl|decide+kernel) rfl) aJ))) (λ_=>rfl)))))) (bQ (cD (tg tj Zf))) dz)
     (bQ (cD (eR (K:=K) rfl Qe PySem.F.slot_list_index PySem.F.type_list_index vz (pv 1) (av YW aJ)))))),?_⟩
  try dsimp only[L2.cxH,L2.cxX,L2.ZJ,L2.Zl]
  cases b with
  |true=>
   replace eC:H ea=some (dQ ea T.b):=eC;walk_at "rds";refine⟨by show 3≤sizeLine;decide,λu dk=>?_⟩;have aI:Zd H (upd H u (.lst [V.bl true,V.bl false,V.bl false])):=cc dk;have eD:(upd H u (.lst [V.bl true,V.bl false,V.bl false])) u=some (.lst (([true,false,false]:List Bool).map V.bl)):=Ze;generalize upd H u (.lst [V.bl true,V.bl false,V.bl false])=aq at*;have kQ:=aI _ _ eC;walk_at "rds";refine Rd.kinds (bs:=([true,false,false]:List Bool)) rfl eD kQ (by show 3<sizeLine;decide) (λb H' cM k=>?_) λar bD=>?_
   ·walk_at "rds";exact .inr ⟨_,rfl,k⟩
   ·have xF:=bD _ _ kQ;have es:=bD _ _ eD;walk_at "rds";refine Rd.ZdI (j:=0) es rfl (by decide) ?_;exact q ar (aI.trans bD)
  |false=>
   replace eC:H ea=some (dQ ea T.e):=eC;walk_at "rds";refine⟨by show 3≤sizeLine;decide,λu dk=>?_⟩;have aI:Zd H (upd H u (.lst [V.bl false,V.bl true,V.bl false])):=cc dk;have eD:(upd H u (.lst [V.bl false,V.bl true,V.bl false])) u=some (.lst (([false,true,false]:List Bool).map V.bl)):=Ze;generalize upd H u (.lst [V.bl false,V.bl true,V.bl false])=aq at*;have kQ:=aI _ _ eC;walk_at "rds";refine Rd.kinds (bs:=([false,true,false]:List Bool)) rfl eD kQ (by show 3<sizeLine;decide) (λb H' cM k=>?_) λar bD=>?_
   ·walk_at "rds";exact .inr ⟨_,rfl,k⟩
   ·have xF:=bD _ _ kQ;have es:=bD _ _ eD;walk_at "rds";refine Rd.ZdI (j:=1) es rfl (by decide) ?_;exact q ar (aI.trans bD)
end
def xG{K:Frag}{mg:Str→Option Value}(T:Tp K mg):Sp:=λvs H Q E=>∃(p c d:Addr)(ap:HM)(fp:List Addr)(rs:List Int)(ys:List V)(xss:List (List Int))(b:Bool),vs=[.ref p,.ref c,.ref d]∧cQ T H p ap fp∧ap.belts.length≤100∧SqL K H c (rs.map V.int)∧rs.length≤100∧H d=some (.lst ys)∧c7 H ys xss∧xss.length≤100∧(∀i<xss.length,(xss.getD i []).length≤2000)∧(eL rs (startsL ap.belts)→∀i<rs.length,rs.getD i 0≤2000)∧
 (b=true→¬eL rs (startsL ap.belts))∧(b=false→eL rs (startsL ap.belts)∧¬gF xss (startsL ap.belts))∧∀(u:Addr)(H':Hp),Zd H H'→H' u=some (.tup [.non,.int (if b then 0 else 1)])→Q (.ref u) H'
section
variable {P:Program}{w:World}{K:Frag}{mg:Str→Option Value}{base:Heap}
theorem oV(T:Tp K mg):OkN P w base 5 T.aT (xG T):=by
 refine T.aT.F.okX jA (λvs H Q E h=>?_) (λbU A outer s H vs Q E aH h=>?_)
 ·obtain⟨p,c,d,ap,fp,rs,ys,xss,b,rfl,_⟩:=h
  rfl
 ·have hu:=aH.hu;obtain⟨p,c,d,ap,fp,rs,ys,xss,b,rfl,b8,bw,aw,i',hd,de,ax,f_,dS,hC,kz,q⟩:=h;refine⟨_,(bz (ci (i:=3) jA.nd rfl (Or.inl rfl) W3)
     (bz (ci (i:=4) jA.nd rfl (Or.inl rfl) W3)
     (bz (qO (j:=5) rfl rfl rfl T.D.m (λJ fA pn gZ ownT oW=>(bQ (ci (i:=3) jA.nd rfl (Or.inl rfl) (qJ T.aR (oz T) aH oW (av (pv 0) (av (pv 1) (av (pv 2) aJ))))))) (λea=>(bQ (ci (i:=4) jA.nd rfl (Or.inl rfl) (qZ T.a0 (sf T) (aH.held ea) VM (av (pv 5) aJ))))) jA.nd rfl rfl)
     (bQ (cD (gW (av (pv 3) (av (pv 4) aJ)))))))),?_⟩
  try dsimp only[L2.cxX,L2.ZJ,L2.Zl]
  walk_at "rds";refine L2.Rd.Zds (λcls _ H'=>Zd H H'∧cls= .ref (if b then T.b else T.e)) ?_ ?_
  ·walk_at "rds";refine⟨p,c,d,ap,fp,rs,ys,xss,rfl,b8,bw,aw,i',hd,de,ax,f_,dS,λz H' s=>⟨s,?_⟩,λfB eU H' s=>⟨s,?_⟩,λfB eU=>?_⟩
   ·cases b with
    |true=>rfl
    |false=>exact absurd (kz rfl).1 z
   ·cases b with
    |true=>exact absurd fB (hC rfl)
    |false=>rfl
   ·cases b with
    |true=>exact absurd fB (hC rfl)
    |false=>exact absurd eU (kz rfl).2
  ·rintro cls aq ⟨aI,rfl⟩;refine⟨by cases b with|true=>exact T.h|false=>exact T.m,_,rfl,λea kr=>?_⟩;have bt:Zd aq (upd aq ea (dQ ea (if b then T.b else T.e))):=cc kr;have eC:(upd aq ea (dQ ea (if b then T.b else T.e))) ea=some (dQ ea (if b then T.b else T.e)):=Ze;generalize upd aq ea (dQ ea (if b then T.b else T.e))=ar at*;walk_at "rds";refine⟨b,rfl,eC,λbR bv=>?_⟩;walk_at "rds";refine⟨by show 2≤sizeLine;decide,λu dk=>?_⟩;exact q u _ (((aI.trans bt).trans bv).trans (cc dk)) Ze
end
def xH{K:Frag}{mg:Str→Option Value}(T:Tp K mg):Sp:=λvs H Q E=>∃(p c d:Addr)(ap:HM)(fp:List Addr)(rs cB:List Int),vs=[.ref p,.ref c,.ref d]∧cQ T H p ap fp∧ap.belts.length≤100∧SqL K H c (rs.map V.int)∧rs.length≤100∧SqL K H d (cB.map V.int)∧(∀i<ap.belts.length,0≤(startsL ap.belts).getD i 0)∧
 ¬eL rs (startsL ap.belts)∧∀H',Zd H H'→Q (.int 0) H'
section
variable {P:Program}{w:World}{K:Frag}{mg:Str→Option Value}{base:Heap}
theorem xI(T:Tp K mg):OkN P w base 5 T.bh (xH T):=by
 refine T.bh.F.okX lP (λvs H Q E h=>?_) (λbU A outer s H vs Q E aH h=>?_)
 ·obtain⟨p,c,d,ap,fp,rs,cB,rfl,_⟩:=h
  rfl
 ·have hu:=aH.hu;obtain⟨p,c,d,ap,fp,rs,cB,rfl,b8,bw,aw,i',hd,io,gm,q⟩:=h;refine⟨_,(bz (ci (i:=3) lP.nd rfl (Or.inl rfl) W3)
     (bz (qO (j:=4) rfl rfl rfl T.D.m (λJ fA pn gZ ownT oW=>(bQ (dH (qJ T.aS (oK T) aH oW (av (pv 0) (av (pv 1) (av (pv 2) aJ))))))) (λea=>(bQ (ci (i:=3) lP.nd rfl (Or.inl rfl) (qZ T.a0 (sf T) (aH.held ea) VM (av (pv 4) aJ))))) lP.nd rfl rfl)
     (bQ (cD (pv 3))))),?_⟩
  try dsimp only[L2.cxX,L2.ZJ,L2.Zl]
  walk_at "rds";refine L2.Rd.Zds (λcls _ H'=>Zd H H'∧cls= .ref T.b) ?_ ?_
  ·walk_at "rds";exact⟨p,c,d,ap,fp,rs,cB,rfl,b8,bw,aw,i',hd,io,λz H' s=>⟨s,rfl⟩,λz=>absurd z gm⟩
  ·rintro cls aq ⟨aI,rfl⟩;refine⟨T.h,_,rfl,λea kr=>?_⟩;have bt:Zd aq (upd aq ea (dQ ea T.b)):=cc kr;have eC:(upd aq ea (dQ ea T.b)) ea=some (dQ ea T.b):=Ze;generalize upd aq ea (dQ ea T.b)=ar at*;walk_at "rds";refine⟨true,rfl,eC,λbR bv=>?_⟩;walk_at "rds";exact q bR ((aI.trans bt).trans bv)
end
theorem V8(bE:List B5):PyData.eqv (.list (bE.map B5.d)) (.list [])=decide (bE=[]):=by cases bE<;>simp[PyData.eqv,PyData.eqvAll]
def xJ{K:Frag}{mg:Str→Option Value}(T:Tp K mg):Sp:=λvs H Q _=>∃(p eb c d:Addr)(ap:HM)(fp:List Addr)(bs:List V)(rs:List Int)(ys:List V)(xss:List (List Int))(cell:Int),vs=[.ref p,.ref eb,.ref c,.ref d,.int cell]∧cQ T H p ap fp∧H eb=some (.lst bs)∧d1 H bs ap.belts∧ap.belts.length≤20∧
 SqL K H c (rs.map V.int)∧eL rs (startsL ap.belts)∧(∀i<rs.length,rs.getD i 0≤2000)∧H d=some (.lst ys)∧c7 H ys xss∧gF xss (startsL ap.belts)∧(∀l∈ap.belts,0≤l.start∧l.start≤1000)∧∀H',Zd H H'→Q (.bl true) H'
section
variable {P:Program}{w:World}{K:Frag}{mg:Str→Option Value}{base:Heap}
theorem xK(T:Tp K mg):OkN P w base 6 T.bi (xJ T):=by
 refine T.bi.F.okX lQ (λvs H Q E h=>?_) (λbU A outer s H vs Q E aH h=>?_)
 ·obtain⟨p,eb,c,d,ap,fp,bs,rs,ys,xss,cell,rfl,_⟩:=h
  rfl
 ·have hu:=aH.hu;obtain⟨p,eb,c,d,ap,fp,bs,rs,ys,xss,cell,rfl,b8,ik,dX,bw,aw,hL,fD,hd,de,fT,du,q⟩:=h;have lY:(10:Int) ^ Int.toNat 29=100000000000000000000000000000:=rfl;have h_:(startsL ap.belts).length=ap.belts.length:=by simp[startsL]
  have l4:=hL.1;have l3:=fT.1;have B8:=dX.length;refine⟨_,(bz (ci (i:=5) lQ.nd rfl (Or.inl rfl) (fc (fP (K:=K) rfl) (by rfl) T.g Qi (av (pv 2) aJ)))
     (bz (lr (dq (PW.pt (fV (dA (f7 (K:=K) rfl hu) (pv 1) (eu aJ) (c4 _)) (gf (dA (f7 (K:=K) rfl hu) (bB c3 (pv 4) Zf) Zf (c4 _))))) (bQ (dH (eR (K:=K) rfl Qe Qf Qg eY (pv 5) (av (bB c3 (pv 4) Zf) aJ)))) (bz (ci (i:=6) lQ.nd rfl (Or.inl rfl) (bB c3 (bB ey (pv 4) Zf) (cL (eh K) (by rfl) T.c Qk (av (pv 1) aJ))))
     (bQ (la (bB hZ (bB hZ (ef (ixk K) (ef (ixk K) (pv 1) (pv 6) (λ_ _=>rfl)) Zf (λ_ _=>rfl)) Zf) (bB c3 (bB ey (pv 4) Zf) (bB iE Zf Zf))) (k9 (pv 5) (pv 6) mR))))))
     (bz (lB (j:=7) (xs:=["_law_row"]) rfl (f5 (x:="_law_row") (zs:=[]) (ix:=[]) (b4 n8) ["_law_hall","_law_belts","_law_rooms","_law_pieces","_law_cell","_law_less","_law_at","_law_other"] rfl rfl (by decide+kernel)) (f8 (K:=K) rfl (pv 3)) (λcl C s H fp=>⟨(cE (i:=0) (show(["_law_row"]:List Str).Nodup by decide+kernel) rfl (Or.inl rfl)),f0,(fc (fP (K:=K) rfl) (by rfl) T.g Qi (av (pv 0) aJ))⟩) lQ.nd rfl (Or.inl rfl))
     (bz (lr (dq (PW.pt (fV (dA (f7 (K:=K) rfl hu) (pv 1) (eu aJ) (c4 _)) (gf (dA (f7 (K:=K) rfl hu) (bB c3 (bB ey (pv 4) Zf) Zf) Zf (c4 _))))) (bQ (dH (eR (K:=K) rfl Qe Qf Qg eY (pv 7) (av (eu aJ) aJ)))) (bQ (dH (eR (K:=K) rfl Qe Qf Qg eY (ef (ixk K) (pv 7) (bB c3 (bB ey (pv 4) Zf) (cL (eh K) (by rfl) T.c Qk (av (pv 1) aJ))) (λ_ _=>rfl)) (av (bB c3 (pv 4) (bB iE Zf Zf)) aJ))))))
     (bz (dq (PW.pt (fV (dA (fO (K:=K) rfl hu) (cx T.aT (oV T) aH cs (av (pv 0) (av (pv 5) (av (pv 3) aJ)))) (gW (av W3 (av Zf aJ))) (c4 _)) (gf (dA (fO (K:=K) rfl hu) (cx T.aT (oV T) aH cs (av (pv 0) (av (pv 5) (av (pv 7) aJ)))) (gW (av W3 (av Zf aJ))) (c4 _))))) (bQ (cD YW)) dz)
     (bQ (cD (j0 (iF (f7 (K:=K) rfl hu) (cx T.aT (oV T) aH cs (av (pv 0) (av (pv 2) (av (pv 7) aJ)))) (gW (av W3 (av Zf aJ))) (c4 _)) (jZ (iF (f7 (K:=K) rfl hu) (cx T.bh (xI T) aH cs (av (pv 0) (av (pv 5) (av (eu aJ) aJ)))) Zf (c4 _))))))))))),?_⟩
  try dsimp only[L2.cxX,L2.ZJ,L2.Zl]
  walk_at "rds";refine⟨c,_,rfl,.inl aw,λx ax=>?_⟩;have aI:Zd H (upd H x (.lst (rs.map V.int))):=cc ax;have eD:(upd H x (.lst (rs.map V.int))) x=some (.lst (rs.map V.int)):=Ze;generalize upd H x (.lst (rs.map V.int))=aq at*;walk_at "rds";refine Rd.cut (λaV H'=>∃(c6:Option V)(b3:List Int),aV=[some (.ref p),some (.ref eb),some (.ref c),some (.ref d),some (.int cell),some (.ref x),c6,none]∧Zd H H'∧H' x=some (.lst (b3.map V.int))∧b3.length≤100∧¬eL b3 (startsL ap.belts)) ?k1 ?dv
  case dv=>
   walk_at "rds";refine⟨Qs _,λe bF=>?_⟩;have bt:Zd aq (upd aq e (.lst [])):=cc bF;have es:(upd aq e (.lst [])) e=some (.lst []):=Ze;have f_:=bt _ _ eD;generalize upd aq e (.lst [])=ar at*;have e8:=aI.trans bt;have sg:=e8 _ _ ik;have lL:=dX.keep λb xs e=>e8 _ _ e;have sh:∀v:Int,Zd H (upd ar x (.lst (rs.map V.int++ [V.int v])))∧(upd ar x (.lst (rs.map V.int++ [V.int v]))) x=some (.lst ((rs++ [v]).map V.int))∧(rs++ [v]).length≤100∧¬eL (rs++ [v]) (startsL ap.belts):=λv=>⟨e8.new ax,by rw[Ze];simp,by simp;omega,λz=>by have:=z.1;simp at this;omega⟩;have hI:(rs.map V.int).length<sizeLine:=by rw[Qa];exact dO (by omega)
   refine Rd.ZcX (.lst (SqL.of sg) (on lL)) (.lst (SqL.of es) .nil) (rJ _) rfl (rL _) ?_;rw[V8];refine Rd.bl ?_
   by_cases br:ap.belts=[]
   ·rw[decide_eq_true br];walk_at "rds";exact⟨_,_,rfl,sh _⟩
   ·rw[decide_eq_false br];have xL:0<ap.belts.length:=List.length_pos_iff.mpr br;walk_at "rds"
    by_cases b_:cell % 3=0
    ·rw[decide_eq_true b_];walk_at "rds";exact⟨_,_,rfl,sh _⟩
    ·rw[decide_eq_false b_];have hG:0<(bs.length:Int):=by omega
     walk_at "rds";have k0:=QI (cell / 3) (show(bs.length:Int)≠0 by omega);have k1:=QA (cell / 3) hG;generalize cell / 3 % (bs.length:Int)=mB at*;obtain⟨k,rfl⟩:=Qz k0;have oX:k<ap.belts.length:=by omega
     have B9:(k:Int)<((rs.map V.int).length:Int):=by rw[Qa];omega
     obtain⟨t,dn,bM⟩:=lL.at (Qq oX);have oY:=Wz dn;have B_:=SqL.of (K:=K) sg;walk_at "rds";rw[lY];have B':=du _ (Qn oX);refine⟨_,rs.set k (ap.belts[k].start-1-cell / 9 % 100000000000000000000000000000),rfl,e8.new ax,by rw[Ze,List.map_set];rfl,by rw[QR];omega,λz=>?_⟩;have:=z.2 k (by rw[QR];omega);rw[show(startsL ap.belts).getD k 0=ap.belts[k].start by simp[startsL,List.getD,oX],cY (by rw[QR];omega),List.getElem_set_self] at this;omega
  case k1=>
   rintro aV ar ⟨c6,b3,rfl,bt,f_,dS,gm⟩;have lj:=bt _ _ hd;have xM:=SqL.of (K:=K) lj;have hH:=de.same bt;have i8:=hH.length;walk_at "rds";refine Yg (own:=1) (fN xM).y (dO (by omega)) (λj=>[some (ys.getD j .non)]) (λ_=>rfl) (λ_=>true) (λj v H'=>∃t,v=V.ref t∧ar t=none∧H' t=some (.lst ((xss.getD j []).map V.int))) (λ_ _ _ _ e ⟨t,fB,jG,eU⟩=>⟨t,fB,jG,e _ _ eU⟩) (λj cP H' v bR gx hi bD y dY k=>?_) (λj H' cM hi bD k=>?_) (λim j H' cM hi er hp0 f9 bD k=>?_) (λo bR zs a3 bv si jI=>?_)
   ·obtain⟨rfl,rfl⟩:=y;obtain⟨x1,rfl⟩:∃x1,cP=[x1]:=by
     match cP,dY with
     | [x1],_=>exact⟨x1,rfl⟩
    walk_at "rds";exact k _ (Zd.refl _)
   ·walk_at "rds";exact k H' (Zd.refl H')
   ·obtain⟨t,dn,bM⟩:=Wp hH (i:=j) (by omega);rw[dn];have kK:=SqL.of (K:=K) (bD _ _ bM);walk_at "rds";refine⟨t,_,rfl,.inl kK,λl ap=>?_⟩;exact k _ _ (cc ap) ⟨l,rfl,gE bD ap,nN f9 ap⟩
   ·rw[Qx.mpr (by simp),i8] at jI;have oZ:=(kD jI).1;have xN:=(kD jI).2;rw[show(List.range xss.length).map (λj=>xss.getD j [])=xss by rw[Wv (λx:List Int=>x)];simp] at oZ;have xO:=oZ.length;walk_at "rds";refine Rd.cut (λaV H'=>∃(c6:Option V)(kR:List V)(iq:List (List Int)),aV=[some (.ref p),some (.ref eb),some (.ref c),some (.ref d),some (.int cell),some (.ref x),c6,some (.ref o)]∧Zd ar H'∧H' o=some (.lst kR)∧c7 H' kR iq∧iq.length≤100∧(∀i<iq.length,(iq.getD i []).length≤2000)∧¬gF iq (startsL ap.belts)) ?k2 ?dN
    case dN=>
     walk_at "rds";refine⟨Qs _,λe bF=>?_⟩;have cf:Zd bR (upd bR e (.lst [])):=cc bF;have xP:(upd bR e (.lst [])) e=some (.lst []):=Ze;have Ca:o≠e:=c8 si bF;generalize upd bR e (.lst [])=bI at*;have kS:=bv.trans cf;have f':=bt.trans kS;have gL:=cf _ _ si;have xQ:=f' _ _ ik;have g5:=dX.keep λb xs e=>f' _ _ e;have jM:=oZ.same (q0 (p:=o) cf);have Cb:zs.length<sizeLine:=dO (by omega);have g7:∀i<xss.length,((xss.getD i []).length:Int)≤1000:=λi hi=>by
      rw[fT.2 i hi,show(startsL ap.belts).getD i 0=(ap.belts[i]'(by omega)).start by simp[startsL,List.getD,show i<ap.belts.length by omega]];exact(du _ (Qn _)).2
     have fin2:∀(u:Addr)(bT:Hp),bI u=none→Zd bI bT→bT u=some (.lst [])→Zd ar (upd bT o (.lst (zs++ [V.ref u])))∧(upd bT o (.lst (zs++ [V.ref u]))) o=some (.lst (zs++ [V.ref u]))∧c7 (upd bT o (.lst (zs++ [V.ref u]))) (zs++ [V.ref u]) (xss++ [[]])∧(xss++ [[]]).length≤100∧(∀i<(xss++ [[]]).length,((xss++ [[]]).getD i []).length≤2000)∧¬gF (xss++ [[]]) (startsL ap.belts):=λu bT hM cI xR=>by
      have xS:u≠o:=(c8 gL hM).symm;refine⟨(kS.trans cI).new a3,Ze,c7.snoc ((jM.same (q0 (p:=o) cI)).same (Ze0.trans hz)) (by rw[bV xS];exact xR),by simp;omega,λi hi=>?_,λz=>by have:=z.1;simp at this;omega⟩
      by_cases fl:i<xss.length
      ·rw[show List.getD (xss++ [([]:List Int)]) i []=xss.getD i [] by simp[List.getD,List.getElem?_append,fl]];have:=g7 i fl;omega
      ·rw[show List.getD (xss++ [([]:List Int)]) i []=([]:List Int) by simp[List.getD,List.getElem?_append,fl];cases i-xss.length<;>simp];simp
     refine Rd.ZcX (.lst (SqL.of xQ) (on g5)) (.lst (SqL.of xP) .nil) (rJ _) rfl (rL _) ?_;rw[V8];refine Rd.bl ?_
     by_cases br:ap.belts=[]
     ·rw[decide_eq_true br];walk_at "rds";refine⟨Qs _,λu hM=>?_⟩;have cI:Zd bI (upd bI u (.lst [])):=cc hM;have ja:(upd bI u (.lst [])) u=some (.lst []):=Ze;generalize upd bI u (.lst [])=bT at*;have xT:=cI _ _ gL;walk_at "rds";exact⟨_,_,_,rfl,fin2 u bT hM cI ja⟩
     ·rw[decide_eq_false br];have xL:0<ap.belts.length:=List.length_pos_iff.mpr br;walk_at "rds"
      by_cases b_:cell / 2 % 3=0
      ·rw[decide_eq_true b_];walk_at "rds";refine⟨Qs _,λu hM=>?_⟩;have cI:Zd bI (upd bI u (.lst [])):=cc hM;have ja:(upd bI u (.lst [])) u=some (.lst []):=Ze;generalize upd bI u (.lst [])=bT at*;have xT:=cI _ _ gL;walk_at "rds";exact⟨_,_,_,rfl,fin2 u bT hM cI ja⟩
      ·rw[decide_eq_false b_];have hG:0<(bs.length:Int):=by omega
       walk_at "rds";have k0:=QI (cell / 6) (show(bs.length:Int)≠0 by omega);have k1:=QA (cell / 6) hG;generalize cell / 6 % (bs.length:Int)=mB at*;obtain⟨k,rfl⟩:=Qz k0;have hN:k<xss.length:=by omega
       obtain⟨t,dn,bM⟩:=c7.at jM (Qq hN);have oY:=Wz dn;have Cc:=SqL.of (K:=K) gL;have xU:t≠o:=λz=>by rw[z,ia] at bM;cases bM
       have i7:=hz _ _ bM;have oN:(xss[k].map V.int).length<sizeLine:=by
        rw[Qa];have:=g7 k hN;rw[cY hN] at this;exact gG (by omega)
       walk_at "rds";rw[lY];generalize cell % 100000000000000000000000000000=fF;have il:ar t=none:=by
        obtain⟨t',bH,eF⟩:=xN (.ref t) (Q4 dn);cases bH;exact eF
       refine⟨_,zs,(List.range xss.length).map λj=>if zs.getD j .non= .ref t then xss[k]++ [fF] else xss.getD j [],rfl,kS.new il,by rw[bV xU.symm];exact gL,?_,by simp;omega,λi hi=>?_,λz=>?_⟩
       ·refine rM (by simp;omega) λi x y bu bJ=>?_;have hi:i<xss.length:=by have:=(Qw.mp bu).1;omega
        rw[QM,List.getElem?_range hi] at bJ;have sj:(if zs.getD i .non= .ref t then xss[k]++ [fF] else xss.getD i [])=y:=Qt bJ;obtain⟨t',iu,l'⟩:=c7.at jM (Qq hi);rw[bu] at iu;have ex:=Qt iu;have sk:zs.getD i .non=x:=by simp[List.getD,bu]
        refine⟨t',ex,?_⟩
        by_cases o0:t'=t
        ·rw[←sj,sk,ex,o0,if_pos rfl,Ze];simp
        ·rw[←sj,sk,ex,if_neg (by intro z;exact o0 (V.ref.inj z)),bV o0,cY hi];exact hz _ _ l'
       ·have e3:i<xss.length:=by simpa using hi
        rw[show((List.range xss.length).map λj=>if zs.getD j .non= .ref t then xss[k]++ [fF] else xss.getD j []).getD i []=if zs.getD i .non= .ref t then xss[k]++ [fF] else xss.getD i [] by simp[List.getD,e3]];have a1:=g7 i e3;have d8:=g7 k hN;rw[cY hN] at d8
        split
        ·rw[Qh];simp;omega
        ·omega
       ·have ku:=z.2 k (by simpa using hN);rw[show((List.range xss.length).map λj=>if zs.getD j .non= .ref t then xss[k]++ [fF] else xss.getD j []).getD k []=xss[k]++ [fF] by simp[List.getD,hN,dn]] at ku;have:=fT.2 k hN;rw[cY hN] at this;rw[Qh,show([fF]:List Int).length=1 from rfl] at ku;omega
    case k2=>
     rintro aV bI ⟨c6,kR,iq,rfl,cf,gL,jM,hy,ox,lW⟩;have f':=bt.trans cf;have gM:=cf _ _ f_;have g7:∀i<xss.length,(xss.getD i []).length≤2000:=λi hi=>by
      have:((xss.getD i []).length:Int)≤1000:=by
       rw[fT.2 i hi,show(startsL ap.belts).getD i 0=(ap.belts[i]'(by omega)).start by simp[startsL,List.getD,show i<ap.belts.length by omega]];exact(du _ (Qn _)).2
      omega
     have hQ:∀n:Int,(PyData.tuple [.none,.int n]).canLay0=true:=λn=>by simp[PyData.canLay0,PyData.canLayAll0]
     have o1:∀n:Int,(PyData.tuple [.none,.int n]).depth≤60:=λn=>by simp[PyData.depth,PyData.depthAll]
     walk_at "rds";refine⟨p,x,d,ap,fp,b3,ys,xss,true,rfl,b8.same f',by omega,SqL.of gM,dS,f' _ _ hd,de.same f',by omega,g7,λz=>absurd z gm,λ_=>gm,λz=>(nomatch z),λu bT cI hM=>?_⟩;walk_at "rds";refine⟨by show 2≤sizeLine;decide,λv b9=>?_⟩;have dI:Zd bT (upd bT v (.tup [V.non,V.int 0])):=cc b9;have kL:(upd bT v (.tup [V.non,V.int 0])) v=some (.tup [V.non,V.int 0]):=Ze;generalize upd bT v (.tup [V.non,V.int 0])=fW at*;refine Rd.Vj (.tup (.of (dI _ _ hM)) (.cons .non (.cons (.int 0) .nil))) (.tup (.of kL) (.cons .non (.cons (.int 0) .nil))) (hQ 0) (hQ 0) (o1 0) ?_;rw[SeqAt.eqv_refl _ (hQ 0)];have g6:=cI.trans dI;have ma:=f'.trans g6;walk_at "rds";refine⟨p,x,o,ap,fp,b3,kR,iq,true,rfl,b8.same ma,by omega,SqL.of (g6 _ _ gM),dS,g6 _ _ gL,jM.same g6,hy,ox,λz=>absurd z gm,λ_=>gm,λz=>(nomatch z),λep c2 dJ xV=>?_⟩;walk_at "rds";refine⟨by show 2≤sizeLine;decide,λes xW=>?_⟩;have d7:Zd c2 (upd c2 es (.tup [V.non,V.int 0])):=cc xW;have oI:(upd c2 es (.tup [V.non,V.int 0])) es=some (.tup [V.non,V.int 0]):=Ze;generalize upd c2 es (.tup [V.non,V.int 0])=gq at*;refine Rd.Vj (.tup (.of (d7 _ _ xV)) (.cons .non (.cons (.int 0) .nil))) (.tup (.of oI) (.cons .non (.cons (.int 0) .nil))) (hQ 0) (hQ 0) (o1 0) ?_;rw[SeqAt.eqv_refl _ (hQ 0)];have mb:=g6.trans (dJ.trans d7);have mc:=f'.trans mb;walk_at "rds";refine⟨p,c,o,ap,fp,rs,kR,iq,false,rfl,b8.same mc,by omega,mc.seq aw,by omega,mb _ _ gL,jM.same mb,hy,ox,λ_=>fD,λz=>(nomatch z),λ_=>⟨hL,lW⟩,λjN fj h5 xX=>?_⟩;walk_at "rds";refine⟨by show 2≤sizeLine;decide,λfC xY=>?_⟩;have ht:Zd fj (upd fj fC (.tup [V.non,V.int 1])):=cc xY;have o2:(upd fj fC (.tup [V.non,V.int 1])) fC=some (.tup [V.non,V.int 1]):=Ze;generalize upd fj fC (.tup [V.non,V.int 1])=gu at*;refine Rd.ZcX (.tup (.of (ht _ _ xX)) (.cons .non (.cons (.int 1) .nil))) (.tup (.of o2) (.cons .non (.cons (.int 1) .nil))) (hQ 1) (hQ 1) (o1 1) ?_;rw[SeqAt.eqv_refl _ (hQ 1)];have sm:=mb.trans (h5.trans ht);have so:=f'.trans sm;walk_at "rds";refine⟨Qs _,λe bF=>?_⟩;have fM:Zd gu (upd gu e (.lst [])):=cc bF;have xZ:(upd gu e (.lst [])) e=some (.lst []):=Ze;generalize upd gu e (.lst [])=hv at*;walk_at "rds";refine⟨p,x,e,ap,fp,b3,[],rfl,b8.same (so.trans fM),by omega,SqL.of (fM _ _ (sm _ _ gM)),dS,SqL.of xZ,λi hi=>?_,gm,λgb jO=>?_⟩
     ·rw[show(startsL ap.belts).getD i 0=ap.belts[i].start by simp[startsL,List.getD,hi]];exact(du _ (Qn _)).1
     ·walk_at "rds";exact q gb ((so.trans fM).trans jO)
end
def x9{K:Frag}{mg:Str→Option Value}(T:Tp K mg):Sp:=λvs H Q _=>∃a b:Nat,vs=[.int a,.int b]∧Q (.int (Nat.gcd a b:Nat)) H
section
variable {P:Program}{w:World}{K:Frag}{mg:Str→Option Value}{base:Heap}
theorem x_(T:Tp K mg):OkN P w base 1 T.bj (x9 T):=by
 refine T.bj.F.okX lR (λvs H Q E h=>?_) (λbU A outer s H vs Q E aH h=>?_)
 ·obtain⟨a,b,rfl,_⟩:=h
  rfl
 ·have hu:=aH.hu;obtain⟨a0,dZ,rfl,q⟩:=h;rw[←My.ZaV] at q;refine⟨_,(bz (s7 PassesOwn.leaving (dA (fO (K:=K) rfl hu) (pv 1) Zf (c4 _)) (bz (ci (i:=2) lR.nd rfl (Or.inl rfl) (bB c3 (pv 0) (pv 1)))
     (bz (ci (i:=0) lR.nd rfl (Or.inl rfl) (pv 1))
     (bQ (ci (i:=1) lR.nd rfl (Or.inl rfl) (pv 2))))))
     (bQ (cD (pv 0)))),?_⟩
  try dsimp only[L2.cxX,L2.ZJ,L2.Zl]
  walk_at "rd";refine Zgj (λm σ H'=>H'=H∧∃(x y:Int)(r:Option V),m=y.toNat∧σ=[some (.int x),some (.int y),r]∧0≤x∧0≤y∧My.G x y=My.G a0 dZ) _ ⟨rfl,a0,dZ,none,rfl,rfl,by omega,by omega,rfl⟩ ?_;rintro m σ H' ⟨rfl,x,y,r,rfl,rfl,ax,bX,sr⟩;walk_at "rds";refine Uo (λc=>ZgP ?_) (λc=>?_)
  ·have md:0<y:=by
    have:¬y=0:=by simpa using c
    omega
   walk_at "rds";exact⟨_,(by have:=QI x (show y≠0 by omega);have:=QA x md;omega),rfl,y,x % y,some (.int (x % y)),rfl,rfl,bX,QI x (by omega),(vR ax md).trans sr⟩
  ·have md:y=0:=by simpa using c
   have e:x=My.G a0 dZ:=by rw[←sr,My.Zfq ax md]
   walk_at "rds";rw[e];exact q
end
def x'{K:Frag}{mg:Str→Option Value}(T:Tp K mg):Sp:=λvs H Q _=>∃(c:Int)(a:Addr)(rs:List Int)(e5:Nat)(jB:Bool),vs=[.int c,.ref a,.int e5,.bl jB]∧SqL K H a (rs.map V.int)∧0<rs.length∧rs.length≤30∧Zgs rs∧0<e5∧e5≤10∧
 ∀(u:Addr)(H':Hp)(b:B5),H u=none→Zd H H'→H' u=some (.tup b.v)→Bel rs.length b→Q (.ref u) H'
section
variable {P:Program}{w:World}{K:Frag}{mg:Str→Option Value}{base:Heap}
theorem ya(T:Tp K mg):OkN P w base 2 T.bk (x' T):=by
 refine T.bk.F.okX g4 (λvs H Q E h=>?_) (λbU A outer s H vs Q E aH h=>?_)
 ·obtain⟨c,a,rs,e5,jB,rfl,_⟩:=h
  rfl
 ·have hu:=aH.hu;obtain⟨c,a,rs,e5,jB,rfl,iK,rX,ie,cu,Cd,Ce,q⟩:=h;have yb:0<(e5:Int):=by omega
  have h_:((rs.map V.int).length:Int)=(rs.length:Int):=by simp
  have eA:0<((rs.map V.int).length:Int):=by omega
  refine⟨_,(bz (ci (i:=4) g4.nd rfl (Or.inl rfl) (bB c3 (bB e2 (pv 0) Zf) Zf))
     (bz (ci (i:=5) g4.nd rfl (Or.inl rfl) (bB c3 (pv 4) (cL (eh K) (by rfl) T.c Qk (av (pv 1) aJ))))
     (bz (ci (i:=6) g4.nd rfl (Or.inl rfl) (bB c3 (bB ey (pv 4) Zf) (cL (eh K) (by rfl) T.c Qk (av (pv 1) aJ))))
     (bz (ci (i:=7) g4.nd rfl (Or.inl rfl) (cx T.bj (x_ T) aH cs (av (ef (ixk K) (pv 1) (pv 5) (λ_ _=>rfl)) (av (ef (ixk K) (pv 1) (pv 6) (λ_ _=>rfl)) aJ))))
     (bz (ci (i:=8) g4.nd rfl (Or.inl rfl) (bB (d0 K) Zf (bB c3 (bB ey (pv 4) Zf) (pv 2))))
     (bz (ci (i:=9) g4.nd rfl (Or.inl rfl) (bB ey (bB e2 (pv 8) (ef (ixk K) (pv 1) (pv 6) (λ_ _=>rfl))) (pv 7)))
     (bz (ci (i:=10) g4.nd rfl (Or.inl rfl) (bB ey (bB e2 (pv 8) (ef (ixk K) (pv 1) (pv 5) (λ_ _=>rfl))) (pv 7)))
     (bz (ci (i:=11) g4.nd rfl (Or.inl rfl) (bB c3 (bB ey (pv 4) Zf) Zf))
     (bz (lr (dq (PW.pt (fV (e4 (K:=K) rfl (pv 3) (λ_=>rfl)) (gf (PW.pt (s0 (dA lc (pv 5) (pv 6) (c4 _)) (sZ (dA pU (bB c3 (bB ey (pv 4) Zf) Zf) Zf (c4 _)))))))) (bQ (ci (i:=11) g4.nd rfl (Or.inl rfl) (bB (d0 K) (pv 11) (bB e2 (pv 10) (ef (ixk K) (pv 1) (pv 6) (λ_ _=>rfl)))))) dz))
     (bQ (cD (gW (av (pv 5) (av (pv 6) (av (pv 9) (av (pv 10) (av (pv 11) aJ))))))))))))))))),?_⟩
  try dsimp only[L2.cxX,L2.ZJ,L2.Zl]
  walk_at "rds";have hg:0≤c*48271 % 2147483647:=by omega
  have iz:c*48271 % 2147483647<2147483647:=by omega
  generalize c*48271 % 2147483647=dF at*;have bP:=QI dF (show((rs.map V.int).length:Int)≠0 by omega);have b3:=QA dF eA;have fa:=QI (dF / 7) (show((rs.map V.int).length:Int)≠0 by omega);have hl:=QA (dF / 7) eA;generalize dF % ((rs.map V.int).length:Int)=g at*;generalize dF / 7 % ((rs.map V.int).length:Int)=t at*;rw[h_] at b3 hl;have ss:∀{w:Int},0≤w→w<(rs.length:Int)→∃x:Nat,rs.getD w.toNat 0=(x:Int)∧1≤x∧x≤4:=λ{w} hU gh=>by
   have bq:rs.getD w.toNat 0∈rs:=by rw[cY (by omega)];exact Qn _
   obtain⟨eX,ev⟩:=cu _ bq;exact⟨(rs.getD w.toNat 0).toNat,by omega,by omega,by omega⟩
  obtain⟨x,ex,x0,x1⟩:=ss bP b3;obtain⟨y,dP,Cf,yc⟩:=ss fa hl;have l9:=Wc bP b3;have yd:=Wc fa hl;rw[ex] at l9;rw[dP] at yd;have Cg:=QI (dF / 49) (show(e5:Int)≠0 by omega);have Ch:=QA (dF / 49) yb;obtain⟨f,ye⟩:∃f:Nat,1+dF / 49 % (e5:Int)=(f:Int):=⟨(1+dF / 49 % (e5:Int)).toNat,by omega⟩;have cS:1≤f:=by omega
  have f1:f≤10:=by omega
  have f3:0<Nat.gcd x y:=Nat.gcd_pos_of_pos_left _ (by omega);have Ci:Nat.gcd x y≤x:=Nat.le_of_dvd (by omega) (Nat.gcd_dvd_left _ _);have Cj:Nat.gcd x y≤y:=Nat.le_of_dvd (by omega) (Nat.gcd_dvd_right _ _);have Ck:x≤f*x:=Nat.le_mul_of_pos_left x (by omega);have Cm:y≤f*y:=Nat.le_mul_of_pos_left y (by omega);have Cn:f*x≤10*4:=Nat.mul_le_mul f1 x1;have Co:f*y≤10*4:=Nat.mul_le_mul f1 yc;have eX:1≤f*y / Nat.gcd x y:=Nat.div_pos (by omega) f3;have ev:1≤f*x / Nat.gcd x y:=Nat.div_pos (by omega) f3;have Cp:f*x / Nat.gcd x y≤40:=Qv (Nat.div_le_self _ _) (by omega);have Cq:f*y / Nat.gcd x y≤40:=Qv (Nat.div_le_self _ _) (by omega);have Cr:IntMulOk (1+dF / 49 % (e5:Int)) (x:Int):=mulI (n:=10) (m:=10) (by omega) (by omega) (by decide);have Cs:IntMulOk (1+dF / 49 % (e5:Int)) (y:Int):=mulI (n:=10) (m:=10) (by omega) (by omega) (by decide);have Ct:0<((Nat.gcd x y:Nat):Int)∧((Nat.gcd x y:Nat):Int).natAbs.log2<9000:=⟨by omega,oj (by omega)⟩;refine Rd.Zgy iK l9 ?_;walk_at "rds";refine⟨x,y,rfl,?_⟩;walk_at "rds";rw[ye];have yf:(f:Int)*(y:Int) / ((Nat.gcd x y:Nat):Int)=((f*y / Nat.gcd x y:Nat):Int):=rfl;have dn:(f:Int)*(x:Int) / ((Nat.gcd x y:Nat):Int)=((f*x / Nat.gcd x y:Nat):Int):=rfl;rw[yf,dn];generalize f*y / Nat.gcd x y=gK at*;generalize f*x / Nat.gcd x y=cw at*;have Cu:IntMulOk (cw:Int) (y:Int):=mulI (n:=10) (m:=10) (by omega) (by omega) (by decide);have su:0≤dF / 98 % 3∧dF / 98 % 3≤2:=by omega
  have ty:(cw:Int)*(y:Int)≤40*4:=Int.mul_le_mul (by omega) (by omega) (by omega) (by omega);have Cv:0≤(cw:Int)*(y:Int):=Int.mul_nonneg (by omega) (by omega);refine Rd.cut (λaV H'=>H'=H∧∃st:Int,aV=[some (.int c),some (.ref a),some (.int e5),some (.bl jB),some (.int dF),some (.int g),some (.int t),some (.int (Nat.gcd x y:Nat)),some (.int f),some (.int gK),some (.int cw),some (.int st)]∧0≤st∧st≤1000) ?k1 ?dv
  case dv=>
   cases jB with
   |true=>
    walk_at "rds";exact⟨rfl,_,rfl,by omega,by omega⟩
   |false=>
    walk_at "rds";refine Rd.ifD (λhe=>?_) (λhe=>?_)
    ·walk_at "rds";refine Rd.ifD (λgB=>?_) (λgB=>?_)
     ·walk_at "rds";exact⟨rfl,_,rfl,by omega,by omega⟩
     ·walk_at "rds";exact⟨rfl,_,rfl,by omega,by omega⟩
    ·walk_at "rds";exact⟨rfl,_,rfl,by omega,by omega⟩
  case k1=>
   rintro aV H' ⟨rfl,st,rfl,yg,yh⟩;walk_at "rds";refine⟨by show 5≤sizeLine;decide,λu dk=>?_⟩;exact q u _ ⟨g,t,gK,cw,st⟩ dk (cc dk) Ze ⟨⟨bP,b3,fa,hl⟩,⟨by dsimp only;omega,by dsimp only;omega⟩,⟨yg,yh⟩,⟨by dsimp only;omega,by dsimp only;omega⟩⟩
end
section
variable {P:Program}{w:World}{K:Frag}{mg:Str→Option Value}{base:Heap}
theorem Zgo(T:Tp K mg):OkN P w base 7 T.a1 (vS T):=by
 refine T.a1.F.okX e7 (λvs H Q E h=>?_) (λbU A outer s H vs Q E aH h=>?_)
 ·obtain⟨a,ns,rfl,_⟩:=h
  rfl
 ·have hu:=aH.hu;obtain⟨p,ns,rfl,el,cJ,k⟩:=h;refine⟨_,(bz (ci (i:=1) e7.nd rfl (Or.inl rfl) (cx T.x0 (ii T) aH cs (av (pv 0) (av Zf aJ))))
     (bz (ci (i:=2) e7.nd rfl (Or.inl rfl) (bB (d0 K) Zf (bB c3 (pv 1) Zf)))
     (bz (lB (j:=3) (xs:=["_law_k"]) rfl (f5 (x:="_law_k") (zs:=["_law_script"]) (ix:=[0]) (b4 kA) ["_law_script","_law_first","_law_many","_law_rates","_law_belts","_law_k","_law_hall","_law_pieces","_law_rooms","_law_due","_law_handed","_law_found","_law_told","_law_row"] rfl rfl (by decide+kernel)) (hW rfl T.j (av (pv 2) aJ)) (λcl C s H fp=>⟨(cE (i:=0) (show(["_law_k","_law_script"]:List Str).Nodup by decide+kernel) rfl (Or.inl rfl)),f0,(bB (d0 K) Zf (bB c3 (cx T.x0 (ii T) aH VM (av (pv 1) (av (bB (d0 K) Zf (pv 0)) aJ))) Zf))⟩) e7.nd rfl (Or.inl rfl))
     (bz (ci (i:=4) e7.nd rfl (Or.inr rfl) (eu aJ))
     (bz (eV PassesOwn.leaving rfl (hW rfl T.j (av (bB c3 (bB ey (pv 1) Zf) Zf) aJ)) (cE (i:=5) e7.nd rfl (Or.inl rfl)) (bQ (dH (eR (K:=K) rfl Qe Qf Qg eY (pv 4) (av (cx T.bk (ya T) aH cs (av (cx T.x0 (ii T) aH cs (av (pv 0) (av (bB (d0 K) Zf (pv 5)) aJ))) (av (pv 3) (av Zf (av (iF (f7 (K:=K) rfl hu) (bB c3 (bB ey (pv 1) Zf) Zf) Zf (c4 _)) aJ))))) aJ)))))
     (bz (ci (i:=6) e7.nd rfl (Or.inl rfl) (cx T.a8 (wj T) aH cs (av (cx T.bg (xw T) aH cs (av (cx T.x0 (ii T) aH cs (av (pv 0) (av Zf aJ))) (av (pv 2) aJ))) (av (pv 4) aJ))))
     (bz (ci (i:=7) e7.nd rfl (Or.inl rfl) (cx T.a9 (wt T) aH cs (av (pv 0) (av Zf (av (pv 4) aJ)))))
     (bz (lB (j:=8) (xs:=["_law_k"]) rfl (f5 (x:="_law_k") (zs:=["_law_script","_law_belts"]) (ix:=[0,4]) (b4 kA) ["_law_script","_law_first","_law_many","_law_rates","_law_belts","_law_k","_law_hall","_law_pieces","_law_rooms","_law_due","_law_handed","_law_found","_law_told","_law_row"] rfl rfl (by decide+kernel)) (hW rfl T.j (av (cL (eh K) (by rfl) T.c Qk (av (pv 4) aJ)) aJ)) (λcl C s H fp=>⟨(cE (i:=0) (show(["_law_k","_law_script","_law_belts"]:List Str).Nodup by decide+kernel) rfl (Or.inl rfl)),f0,(bB (d0 K) (ef (ixk K) (ef (ixk K) (pv 2) (pv 0) (λ_ _=>rfl)) Zf (λ_ _=>rfl)) (bB c3 (cx T.x0 (ii T) aH VM (av (pv 1) (av (bB (d0 K) Zf (pv 0)) aJ))) Zf))⟩) e7.nd rfl (Or.inl rfl))
     (bz (dq (fu (e4 (K:=K) rfl (cx T.bi (xK T) aH cs (av (pv 6) (av (pv 4) (av (pv 8) (av (pv 7) (av (cx T.x0 (ii T) aH cs (av (pv 0) (av Zf aJ))) aJ)))))) (λ_=>rfl))) (bQ (cD YW)) dz)
     (bz (ci (i:=9) e7.nd rfl (Or.inl rfl) (eu aJ))
     (bz (eV PassesOwn.leaving rfl (hW rfl T.j (av (cL (eh K) (by rfl) T.c Qk (av (pv 4) aJ)) aJ)) (cE (i:=5) e7.nd rfl (Or.inl rfl)) (bQ (ci (i:=9) e7.nd rfl (Or.inl rfl) (bB (d0 K) (bB (d0 K) (pv 9) (ef (ixk K) (pv 7) (pv 5) (λ_ _=>rfl))) (bB e2 (eu (av Zf aJ)) (bB hZ (ef (ixk K) (pv 8) (pv 5) (λ_ _=>rfl)) (cL (eh K) (by rfl) T.c Qk (av (ef (ixk K) (pv 7) (pv 5) (λ_ _=>rfl)) aJ))))))))
     (bz (lB (j:=10) (xs:=["_law_row"]) rfl (f5 (x:="_law_row") (zs:=[]) (ix:=[]) (b4 kA) ["_law_script","_law_first","_law_many","_law_rates","_law_belts","_law_k","_law_hall","_law_pieces","_law_rooms","_law_due","_law_handed","_law_found","_law_told","_law_row"] rfl rfl (by decide+kernel)) (f8 (K:=K) rfl (pv 7)) (λcl C s H fp=>⟨(cE (i:=0) (show(["_law_row"]:List Str).Nodup by decide+kernel) rfl (Or.inl rfl)),f0,(fc (fP (K:=K) rfl) (by rfl) T.g Qi (av (pv 0) aJ))⟩) e7.nd rfl (Or.inl rfl))
     (bz (ci (i:=11) e7.nd rfl (Or.inl rfl) (cx T.aR (oz T) aH cs (av (pv 6) (av (fc (fP (K:=K) rfl) (by rfl) T.g Qi (av (pv 8) aJ)) (av (pv 10) aJ)))))
     (bz (dq (PW.pt (fV (dA (fO (K:=K) rfl hu) (pv 10) (pv 7) (c4 _)) (fV (fu (e4 (K:=K) rfl (cx T.aZ (r9 T) aH cs (av (pv 11) aJ)) (λ_=>rfl))) (gf (dA (fO (K:=K) rfl hu) (pv 11) (pv 9) (c4 _)))))) (bQ (cD YW)) dz)
     (bz (dH (eR (K:=K) rfl Qe Qf Qg eY (pv 11) (av Zf aJ)))
     (bz (ci (i:=12) e7.nd rfl (Or.inl rfl) (cx T.aS (oK T) aH cs (av (pv 6) (av (fc (fP (K:=K) rfl) (by rfl) T.g Qi (av (pv 8) aJ)) (av (fc (fP (K:=K) rfl) (by rfl) T.g Qi (av (pv 9) aJ)) aJ)))))
     (bz (dq (PW.pt (fV (dA (fO (K:=K) rfl hu) (pv 12) (pv 7) (c4 _)) (gf (dA (fO (K:=K) rfl hu) (cx T.aR (oz T) aH cs (av (pv 6) (av (fc (fP (K:=K) rfl) (by rfl) T.g Qi (av (pv 8) aJ)) (av (pv 10) aJ)))) (pv 9) (c4 _))))) (bQ (cD YW)) dz)
     (bz (eV PassesOwn.leaving rfl (f8 (K:=K) rfl (pv 12)) (cE (i:=13) e7.nd rfl (Or.inl rfl)) (bQ (dH (eR (K:=K) rfl Qe Qf Qg eY (pv 13) (av Zf aJ)))))
     (bz (dq (dA (fO (K:=K) rfl hu) (cx T.aS (oK T) aH cs (av (pv 6) (av (fc (fP (K:=K) rfl) (by rfl) T.g Qi (av (pv 8) aJ)) (av (fc (fP (K:=K) rfl) (by rfl) T.g Qi (av (pv 9) aJ)) aJ)))) (pv 7) (c4 _)) (bQ (cD YW)) dz)
     (bQ (cD (cx T.bf (xa T) aH cs (av (bB (d0 K) (pv 9) (eu (av (bB c3 (cx T.x0 (ii T) aH cs (av (pv 0) (av Zf aJ))) (bB iE Zf Zf)) aJ))) (av (p8 (qB (K:=K) rfl) (pv 0) (VV Zf) (VV Zf)) aJ)))))))))))))))))))))))),?_⟩
  try dsimp only[L2.cxX,L2.ZJ,L2.Zl]
  walk_at "rds";have cS:1≤1+cellX ns 0 % 4∧1+cellX ns 0 % 4≤4:=by omega
  generalize cellX ns 0=jP at*;obtain⟨m,bq⟩:∃m:Nat,1+jP % 4=(m:Int):=⟨(1+jP % 4).toNat,by omega⟩;rw[bq] at cS⊢;refine Yg (own:=1) Zaq.y (dO (by omega)) (λj=>[some (.int (0+(j:Int)))]) (λ_=>rfl) (λ_=>true) (λj v _=>v= .int (1+cellX ns (2+(0+(j:Int))) % 4)) (λ_ _ _ _ _ z=>z) (λj cP H' v bR gx hi bD y dY k=>?_) (λj H' cM hi bD k=>?_) (λim j H' cM hi er hp0 f9 bD k=>?_) (λme aq zs hra aI hra1 de=>?_)
  ·obtain⟨rfl,rfl⟩:=y;obtain⟨x1,rfl⟩:∃x1,cP=[x1]:=by
    match cP,dY with
    | [x1],_=>exact⟨x1,rfl⟩
   walk_at "rds";exact k _ (Zd.refl _)
  ·walk_at "rds";exact k H' (Zd.refl H')
  ·have yi:=bD.seq el;have bW:j<m:=by omega
   walk_at "rds";exact k _ H' (Zd.refl H') rfl
  ·rw[Qx.mpr (by simp),show((m:Nat):Int).toNat=m from rfl] at de;have dP:=kE de;have yj:∀r∈(List.range m).map (λj:Nat=>1+cellX ns (2+(0+(j:Int))) % 4),1≤r∧r≤4:=λr aH=>by
    obtain⟨j,_,rfl⟩:=Jq.mp aH;omega
   have l4:((List.range m).map (λj:Nat=>1+cellX ns (2+(0+(j:Int))) % 4)).length=m:=by simp
   generalize (List.range m).map (λj:Nat=>1+cellX ns (2+(0+(j:Int))) % 4)=yk at*;subst dP;have yl:=SqL.of (K:=K) hra1;have ym:=aI.seq el;walk_at "rds";refine⟨Qs _,λb ao=>?_⟩;have bt:Zd aq (upd aq b (.lst [])):=cc ao;have es:(upd aq b (.lst [])) b=some (.lst []):=Ze;have hG:H b=none:=gE aI ao;generalize upd aq b (.lst [])=ar at*;walk_at "rds";refine Wb (n:=(jP / 4 % 6).toNat) (λi σ H'=>∃(bs:List V)(bE:List B5)(a5:Option V),σ=[some (.ref p),some (.int jP),some (.int m),some (.ref me),some (.ref b),a5,none,none,none,none,none,none,none,none]∧Zd aq H'∧H' b=some (.lst bs)∧d1 H' bs bE∧bE.length=i∧∀l∈bE,Bel m l) ⟨[],[],_,rfl,bt,es,.nil,rfl,by simp⟩ ?_ ?_
   ·rintro i σ bR hi ⟨bs,bE,a5,rfl,bv,yn,sv,mf,yo⟩;have h3:=bv.seq ym;have yp:=bv.seq yl;have jF:=sv.length;have yq:bs.length<sizeLine:=dO (by omega);walk_at "rds";refine⟨_,me,yk,2,_,rfl,yp,by omega,by omega,λr aH=>(by have:=yj r aH;omega),by omega,by omega,λu bI bb hu cf o3 yr=>?_⟩;have gN:=cf _ _ yn;walk_at "rds";have eM:Yh [b] bI (upd bI b (.lst (bs++ [.ref u]))):=ju (by simp) gN (by intro _ z;cases z);refine⟨bs++ [.ref u],bE++ [bb],_,rfl,(bv.trans cf).new ao,Ze,((sv.keep λb xs e=>cf _ _ e).keep eM.tups).snoc (eM.tups _ _ o3),by simp[mf],λl ap=>?_⟩;rcases QG.mp ap with z|z
    ·exact yo l z
    ·rw[QF.mp z,←l4];exact yr
   ·rintro σ bR ⟨bs,bE,a5,rfl,cf,gN,g5,mf,mh⟩;have sw:bE.length≤5:=by omega
    have jF:=g5.length;have f':=aI.trans cf;have ww:=f'.seq el;walk_at "rds";refine⟨_,m,rfl,by omega,λnm bT cp rW cI hnm5 yt yu hnml Cw=>?_⟩;walk_at "rds";refine⟨nm,b,cp,bs,bE,rfl,SqL.of hnm5,yt,yu,by omega,by omega,cI _ _ gN,g5.keep (λb xs e=>cI _ _ e),by rw[hnml];exact mh,by omega,λa2 fp fW hh6 hhn dI=>?_⟩;have o4:=cI.trans dI;have ma:=f'.trans o4;have yv:=ma.seq el;have l7:=o4 _ _ gN;have sx:=g5.keep λb xs e=>o4 _ _ e;walk_at "rds";refine⟨p,b,ns,bs,bE,13,rfl,yv,cJ,l7,sx,by omega,λl ap=>(mh l ap).st,by omega,by omega,λlo c2 ys xss hlo dJ o5 hR7 hnw7 l3 g7 jb=>?_⟩;have mi:=ma.trans dJ;have yw:=mi.seq el;have i_:=dJ _ _ l7;have yx:=SqL.of (K:=K) i_;have sy:=sx.keep λb xs e=>dJ _ _ e;have o6:c7 c2 ys xss:=hR7.same hz;have i8:=hR7.length;walk_at "rds";refine Yg (own:=1) Zaq.y (dO (by omega)) (λj=>[some (.int (0+(j:Int)))]) (λ_=>rfl) (λ_=>true) (λj v _=>v= .int ((bE.getD j dB).start+cellX ns (14+(0+(j:Int))) % 7)) (λ_ _ _ _ _ z=>z) (λj cP H' v bR gx hi bD y dY k=>?_) (λj H' cM hi bD k=>?_) (λim j H' cM hi er hp0 f9 bD k=>?_) (λe9 gq zs hrm d7 sA sB=>?_)
    ·obtain⟨rfl,rfl⟩:=y;obtain⟨x1,rfl⟩:∃x1,cP=[x1]:=by
      match cP,dY with
      | [x1],_=>exact⟨x1,rfl⟩
     walk_at "rds";exact k _ (Zd.refl _)
    ·walk_at "rds";exact k H' (Zd.refl H')
    ·have yi:=bD.seq yw;have bW:j<bE.length:=by omega
     obtain⟨t,dn,bM⟩:=sy.at (Qq bW);have oY:atI bs (0+(j:Int))=some (.ref t):=by rw[Jr];exact Wz dn
     have l':=bD _ _ bM;have Cy:=bD.seq yx;walk_at "rds";exact k _ H' (Zd.refl H') (by rw[cY bW])
    ·have yy:((bs.length:Int)).toNat=bE.length:=by omega
     rw[Qx.mpr (by simp),yy] at sB;have dP:=kE sB;obtain⟨rs,mj⟩:∃rs,(List.range bE.length).map (λj:Nat=>(bE.getD j dB).start+cellX ns (14+(0+(j:Int))) % 7)=rs:=⟨_,rfl⟩;rw[mj] at dP;subst dP;have Cz:rs.length=bE.length:=by rw[←mj];simp
     have o7:∀i<bE.length,(bE.getD i dB).start≤rs.getD i 0∧rs.getD i 0≤(bE.getD i dB).start+6:=λi hi=>by
      rw[←mj,show((List.range bE.length).map (λj:Nat=>(bE.getD j dB).start+cellX ns (14+(0+(j:Int))) % 7)).getD i 0=(bE.getD i dB).start+cellX ns (14+(0+(i:Int))) % 7 by simp[List.getD,hi]];omega
     clear mj;have h_:(startsL bE).length=bE.length:=by simp[startsL]
     have jJ:∀i<bE.length,(startsL bE).getD i 0=(bE.getD i dB).start:=λi hi=>by simp[startsL,List.getD,hi]
     have du:∀i<bE.length,0≤(bE.getD i dB).start∧(bE.getD i dB).start≤1000:=λi hi=>(mh _ (by rw[cY hi];exact Qn _)).st;have hL:eL rs (startsL bE):=⟨by omega,λi hi=>by rw[jJ i (by omega)];exact(o7 i (by omega)).1⟩;have fT:gF xss (startsL bE):=⟨by omega,λi hi=>by rw[jJ i (by omega)];exact g7 i (by omega)⟩;have fD:∀i<rs.length,rs.getD i 0≤2000:=λi hi=>by have:=(o7 i (by omega)).2;have:=du i (by omega);omega
     have hI:∀i<xss.length,(xss.getD i []).length≤2000:=λi hi=>by have:=g7 i (by omega);have:=du i (by omega);omega
     have yz:∀i<rs.length,((xss.getD i []).length:Int)≤rs.getD i 0:=λi hi=>by have:=g7 i (by omega);have:=(o7 i (by omega)).1;omega
     have mc:=mi.trans d7;have CA:=mc.seq el;walk_at "rds";refine⟨a2,b,e9,lo,⟨cp,bE⟩,fp,bs,rs,ys,xss,_,rfl,hh6.same (dJ.trans d7),d7 _ _ i_,sy.keep (λb xs e=>d7 _ _ e),by dsimp only;omega,SqL.of sA,hL,fD,d7 _ _ o5,o6.same d7,fT,λl ap=>(mh l ap).st,λfj h5=>?_⟩;have kT:=d7.trans h5;have CB:=mi.trans kT;have yA:=kT _ _ i_;have yB:=SqL.of (K:=K) yA;walk_at "rds";refine⟨Qs _,λfG yC=>?_⟩;have ht:Zd fj (upd fj fG (.lst [])):=cc yC;have o2:(upd fj fG (.lst [])) fG=some (.lst (([]:List Int).map V.int)):=Ze;generalize upd fj fG (.lst [])=gu at*;have CC:=ht.seq yB;have yD:=kT _ _ o5;have sC:=h5 _ _ sA;have yE:=o6.same kT;walk_at "rds";refine Wb (n:=((bs.length:Int)).toNat) (λi σ H'=>Zd fj H'∧∃(fG:Addr)(a5:Option V),σ=[some (.ref p),some (.int jP),some (.int m),some (.ref me),some (.ref b),a5,some (.ref a2),some (.ref lo),some (.ref e9),some (.ref fG),none,none,none,none]∧H' fG=some (.lst ((fillL rs xss i).map V.int))) ⟨ht,_,_,rfl,o2⟩ ?_ ?_
     ·rintro i σ hv hi ⟨fM,fG,a5,rfl,hR⟩;have cV:i<bE.length:=by omega
      obtain⟨t,dn,bM⟩:=c7.at yE (Qq (show i<xss.length by omega));have oY:atI ys (0+(i:Int))=some (.ref t):=by rw[Jr];exact Wz dn
      have CD:atI (rs.map V.int) (0+(i:Int))=some (.int (rs.getD i 0)):=by
       have:=Wc (ns:=rs) (k:=(i:Int)) (by omega) (by omega);rw[Jr];exact this
      have yF:=SqL.of (K:=K) (fM _ _ yD);have yG:=SqL.of (K:=K) (fM _ _ sC);have o8:=fM _ _ bM;walk_at "rds";have wM:=WV (m:=rs.length) (λj bW=>hI j (by omega)) fD i (by omega);have wN:=hI i (by omega);have wO:=fD i (by omega);have CF:=yz i (by omega);rw[show xss[i]=xss.getD i [] from(cY _).symm] at o8;have l6:fillL rs xss (i+1)=fillL rs xss i++(xss.getD i []++List.replicate (rs.getD i 0-((xss.getD i []).length:Int)).toNat 0):=rfl;rw[l6];clear l6;generalize fillL rs xss i=cO at*;generalize xss.getD i []=xs at*;generalize rs.getD i 0=b6 at*;refine .inr (.inr (.inl ⟨fG,t,cO.map V.int,xs.map V.int,rfl,rfl,hR,o8,QJ (gG (by simp only[Qa];omega)),λe6 dk=>?_⟩));rw[←QK];have jO:Zd hv (upd hv e6 (.lst ((cO++xs).map V.int))):=cc dk;have yH:(upd hv e6 (.lst ((cO++xs).map V.int))) e6=some (.lst ((cO++xs).map V.int)):=Ze;generalize upd hv e6 (.lst ((cO++xs).map V.int))=gb at*;walk_at "rds";intro ep kv;have g8:Zd gb (upd gb ep (.lst [V.int 0])):=cc kv;have o9:(upd gb ep (.lst [V.int 0])) ep=some (.lst [V.int 0]):=Ze;generalize upd gb ep (.lst [V.int 0])=H13 at*;have iv:=jO.trans g8;have CG:=iv.seq yF;have CH:=iv.seq yG;have CI:=SqL.of (K:=K) (iv _ _ o8);walk_at "rds";refine .inr ⟨ep,b6-((xs.map V.int).length:Int),[V.int 0],rfl,rfl,o9,by simp only[Qa];omega,by simp only[Qa];omega,QJ (gG (by simp only[Qa,Q1];omega)),λjN yI=>?_⟩;have oH:(List.replicate (b6-((xs.map V.int).length:Int)).toNat [V.int 0]).flatten=(List.replicate (b6-(xs.length:Int)).toNat (0:Int)).map V.int:=by
       rw[Qa,List.map_replicate];generalize (b6-(xs.length:Int)).toNat=k
       induction k with
       |zero=>rfl
       |succ k b0=>rw[QC,QS,b0,QC];rfl
      rw[oH];have gP:Zd H13 (upd H13 jN (.lst ((List.replicate (b6-(xs.length:Int)).toNat (0:Int)).map V.int))):=cc yI;have yJ:(upd H13 jN (.lst ((List.replicate (b6-(xs.length:Int)).toNat (0:Int)).map V.int))) jN=some (.lst ((List.replicate (b6-(xs.length:Int)).toNat (0:Int)).map V.int)):=Ze;generalize upd H13 jN (.lst ((List.replicate (b6-(xs.length:Int)).toNat (0:Int)).map V.int))=H14 at*;refine .inr (.inr (.inl ⟨e6,jN,_,_,rfl,rfl,gP _ _ (g8 _ _ yH),yJ,QJ (gG (by simp only[Qa,Qh,Qy];omega)),λyK o3=>?_⟩));rw[←QK];refine⟨((fM.trans iv).trans gP).trans (cc o3),yK,_,rfl,?_⟩;rw[Ze,QT]
     ·rintro σ hv ⟨fM,fG,a5,rfl,hR⟩;rw[show((bs.length:Int)).toNat=rs.length by omega] at hR;have yq:=WV (m:=rs.length) (λj bW=>hI j (by omega)) fD rs.length (by omega);have sD:=UU (rs:=rs) jb rs.length;have hp:=Zdj hL fT;have yL:(fillL rs xss rs.length).length≤20000:=by omega
      obtain⟨cB,o_⟩:∃cB,fillL rs xss rs.length=cB:=⟨_,rfl⟩;rw[o_] at hR sD hp yL;have ml:=kT.trans fM;have mm:=ml _ _ o5;have yM:=SqL.of (K:=K) mm;have mn:=o6.same ml;have mo:=fM _ _ sC;have mq:=hh6.same (dJ.trans ml);have yN:=(mi.trans ml).seq el;walk_at "rds";refine Yg (own:=1) (fN yM).y (dO (by omega)) (λj=>[some (ys.getD j .non)]) (λ_=>rfl) (λ_=>true) (λj v H'=>∃t,v=V.ref t∧hv t=none∧H' t=some (.lst ((xss.getD j []).map V.int))) (λ_ _ _ _ e ⟨t,fB,jG,eU⟩=>⟨t,fB,jG,e _ _ eU⟩) (λj cP H' v bR gx hi bD y dY k=>?_) (λj H' cM hi bD k=>?_) (λim j H' cM hi er hp0 f9 bD k=>?_) (λhd gb bw hhd jO o' sE=>?_)
      ·obtain⟨rfl,rfl⟩:=y;obtain⟨x1,rfl⟩:∃x1,cP=[x1]:=by
        match cP,dY with
        | [x1],_=>exact⟨x1,rfl⟩
       walk_at "rds";exact k _ (Zd.refl _)
      ·walk_at "rds";exact k H' (Zd.refl H')
      ·obtain⟨t,dn,bM⟩:=Wp mn (i:=j) (by omega);rw[dn];have kK:=SqL.of (K:=K) (bD _ _ bM);walk_at "rds";refine⟨t,_,rfl,.inl kK,λl ap=>?_⟩;exact k _ _ (cc ap) ⟨l,rfl,gE bD ap,nN f9 ap⟩
      ·rw[Qx.mpr (by simp),i8] at sE;have sF:=(kD sE).1;rw[show(List.range xss.length).map (λj=>xss.getD j [])=xss by rw[Wv (λx:List Int=>x)];simp] at sF;have pa:c7 gb bw xss:=sF.same hz;have yO:=SqL.of (K:=K) (jO _ _ mo);walk_at "rds";refine⟨e9,_,rfl,.inl yO,λl1 lZ=>?_⟩;have g8:Zd gb (upd gb l1 (.lst (rs.map V.int))):=cc lZ;have o9:(upd gb l1 (.lst (rs.map V.int))) l1=some (.lst (rs.map V.int)):=Ze;generalize upd gb l1 (.lst (rs.map V.int))=H13 at*;have iv:=jO.trans g8;walk_at "rds";refine⟨a2,l1,hd,⟨cp,bE⟩,fp,rs,bw,xss,rfl,mq.same iv,by dsimp only;omega,SqL.of o9,by omega,g8 _ _ o',pa.same g8,by omega,hI,λ_=>fD,λz=>absurd hL z,λ_ z=>absurd fT z,λ_ _ ms H14 hfo gP pb=>?_⟩;rw[o_] at pb;have pc:=iv.trans gP;have yP:=gP _ _ (g8 _ _ o');have yQ:=pa.same (g8.trans gP);have yR:=pc _ _ hR;have kO:∀l:List Int,(!(PyData.list (l.map PyData.int)).eqv (PyData.list (l.map PyData.int)))=false:=λl=>by rw[Us];simp
       have pd:∀l:List (List Int),(!(PyData.list (gH l)).eqv (PyData.list (gH l)))=false:=λl=>by rw[SeqAt.eqv_refl _ (i3 l)];rfl
       walk_at "rds";refine Rd.Vj (.lst (SqL.of yP) (i4 yQ)) (.lst (SqL.of (pc _ _ mm)) (i4 (mn.same pc))) (i3 _) (i3 _) (om _) ?_;rw[pd];have sG:=SqL.of (K:=K) pb;walk_at "rds";refine⟨ms,cB,rfl,sG,pb,?_⟩;walk_at "rds";refine Rd.Vj (dj.ints sG) (dj.ints (SqL.of yR)) (gw _) (gw _) (kn _) ?_;rw[kO];have xh:(cB.map V.int).length<sizeLine:=by rw[Qa];exact gG (by omega)
       walk_at "rds";have sH:Zd H13 (upd H14 ms (.lst (cB.map V.int++ [V.int 1]))):=gP.new hfo;generalize upd H14 ms (.lst (cB.map V.int++ [V.int 1]))=H15 at*;have pe:=iv.trans sH;have yS:=SqL.of (K:=K) (pe _ _ mo);have yT:=pe _ _ hR;refine⟨e9,_,rfl,.inl yS,λl2 eZ=>?_⟩;have pf:Zd H15 (upd H15 l2 (.lst (rs.map V.int))):=cc eZ;have yU:(upd H15 l2 (.lst (rs.map V.int))) l2=some (.lst (rs.map V.int)):=Ze;generalize upd H15 l2 (.lst (rs.map V.int))=H16 at*;have yV:=SqL.of (K:=K) (pf _ _ yT);walk_at "rds";refine⟨fG,_,rfl,.inl yV,λkU mf=>?_⟩;have ph:Zd H16 (upd H16 kU (.lst (cB.map V.int))):=cc mf;have yW:(upd H16 kU (.lst (cB.map V.int))) kU=some (.lst (cB.map V.int)):=Ze;generalize upd H16 kU (.lst (cB.map V.int))=H17 at*;have pi:=pe.trans (pf.trans ph);have io:∀i<bE.length,0≤(startsL bE).getD i 0:=λi hi=>by rw[jJ i hi];exact(du i hi).1
       walk_at "rds";refine⟨a2,l2,kU,⟨cp,bE⟩,fp,rs,cB,rfl,mq.same pi,by dsimp only;omega,SqL.of (ph _ _ yU),by omega,SqL.of yW,io,λz=>absurd hL z,λ_ to H18 zs fQ pj sI hR18 yX=>?_⟩;dsimp only at hR18;rw[hp] at hR18;have mu:=pi.trans pj;have xO:=hR18.length;walk_at "rds";refine Rd.Vj (.lst (SqL.of sI) (i4 (hR18.same hz))) (.lst (SqL.of (mu _ _ mm)) (i4 (mn.same mu))) (i3 _) (i3 _) (om _) ?_;rw[pd];have yY:=SqL.of (K:=K) (mu _ _ mo);walk_at "rds";refine⟨e9,_,rfl,.inl yY,λkW g0=>?_⟩;have pk:Zd H18 (upd H18 kW (.lst (rs.map V.int))):=cc g0;have yZ:(upd H18 kW (.lst (rs.map V.int))) kW=some (.lst (rs.map V.int)):=Ze;generalize upd H18 kW (.lst (rs.map V.int))=H19 at*;have sJ:=mu.trans pk;have sK:Zd H13 H19:=sH.trans (pf.trans (ph.trans (pj.trans pk)));walk_at "rds";refine⟨a2,kW,hd,⟨cp,bE⟩,fp,rs,bw,xss,rfl,mq.same sJ,by dsimp only;omega,SqL.of yZ,by omega,sK _ _ (g8 _ _ o'),pa.same (g8.trans sK),by omega,hI,λ_=>fD,λz=>absurd hL z,λ_ z=>absurd fT z,λ_ _ f2 H20 r4 s20 sL=>?_⟩;rw[o_] at sL;have y0:=sJ.trans s20;walk_at "rds";refine Rd.Vj (dj.ints (SqL.of sL)) (dj.ints (SqL.of (y0 _ _ hR))) (gw _) (gw _) (kn _) ?_;rw[kO];have pm:=pk.trans s20;have sM:=pm _ _ sI;have CJ:=SqL.of (K:=K) sM;walk_at "rds";have su:Zd (upd H17 to (.lst zs)) H20:=λx o e=>by
        by_cases ax:x=to
        ·rw[ax,Ze] at e;cases e;rw[ax];exact sM
        ·rw[bV ax] at e;exact pm _ _ (pj _ _ e)
       have gO:∀j<zs.length,∃t us,zs.getD j .non= .ref t∧t≠to∧H17 t=none∧H20 t=some (.lst us)∧us.length≤2000+0:=λj bW=>by
        obtain⟨t,dn,bM⟩:=Wp hR18 (i:=j) (by omega);obtain⟨t',iu,l'⟩:=yX (zs.getD j .non) (by rw[cY bW];exact Qn _);rw[dn] at iu;cases iu;refine⟨t,_,dn,λz=>(by rw[z,ia] at bM;cases bM),l',pm _ _ (hz _ _ bM),?_⟩;rw[Qa];exact hI j (by omega)
       refine YL (fN (SqL.of (K:=K) (show(upd H17 to (.lst zs)) to=some (.lst zs) from Ze))) (λi σ H'=>Zd (upd H17 to (.lst zs)) H'∧(∃pp,σ=[some (.ref p),some (.int jP),some (.int m),some (.ref me),some (.ref b),a5,some (.ref a2),some (.ref lo),some (.ref e9),some (.ref fG),some (.ref hd),some (.ref ms),some (.ref to),pp])∧∀j<zs.length,∃t us,zs.getD j .non= .ref t∧t≠to∧H17 t=none∧H' t=some (.lst us)∧us.length≤2000+i) ⟨su,⟨_,rfl⟩,gO⟩ (λi σ H' h=>h.1) ?_ ?_
       ·rintro i σ H21 hi ⟨pq,⟨pp,rfl⟩,sN⟩;obtain⟨t,us,dn,y1,y2,CK,CL⟩:=sN i hi;rw[dn];have CM:us.length<sizeLine:=gG (by omega);walk_at "rds";refine⟨pq.new (by rw[bV y1];exact y2),⟨_,rfl⟩,λj bW=>?_⟩;obtain⟨t',y3,iu,sO,sP,y4,CN⟩:=sN j bW
        by_cases bM:t'=t
        ·exact⟨t',_,iu,sO,sP,by rw[bM,Ze],by simp;omega⟩
        ·exact⟨t',y3,iu,sO,sP,by rw[bV bM];exact y4,by omega⟩
       ·rintro σ H21 ⟨y5,⟨pp,rfl⟩,_⟩;have pq:Zd H17 H21:=(cc fQ).trans y5;have pr:=pi.trans pq;have y6:=SqL.of (K:=K) (pr _ _ mo);have y7:=pr _ _ hR;walk_at "rds";refine⟨e9,_,rfl,.inl y6,λkX y8=>?_⟩;have sQ:Zd H21 (upd H21 kX (.lst (rs.map V.int))):=cc y8;have y9:(upd H21 kX (.lst (rs.map V.int))) kX=some (.lst (rs.map V.int)):=Ze;generalize upd H21 kX (.lst (rs.map V.int))=H22 at*;have y_:=SqL.of (K:=K) (sQ _ _ y7);walk_at "rds";refine⟨fG,_,rfl,.inl y_,λkY sw=>?_⟩;have sR:Zd H22 (upd H22 kY (.lst (cB.map V.int))):=cc sw;have y':(upd H22 kY (.lst (cB.map V.int))) kY=some (.lst (cB.map V.int)):=Ze;generalize upd H22 kY (.lst (cB.map V.int))=H23 at*;have sS:=pr.trans (sQ.trans sR);walk_at "rds";refine⟨a2,kX,kY,⟨cp,bE⟩,fp,rs,cB,rfl,mq.same sS,by dsimp only;omega,SqL.of (sR _ _ y9),by omega,SqL.of y',io,λz=>absurd hL z,λ_ CO H24 zs2 hto2 kS hto24 hR24 CP=>?_⟩;dsimp only at hR24;rw[hp] at hR24;have mv:=sS.trans kS;walk_at "rds";refine Rd.Vj (.lst (SqL.of hto24) (i4 (hR24.same hz))) (.lst (SqL.of (mv _ _ mm)) (i4 (mn.same mv))) (i3 _) (i3 _) (om _) ?_;rw[pd];have za:=mv.seq yN;have zb:=mv _ _ hR;walk_at "rds";have zc:(10:Int) ^ Int.toNat 30=1000000000000000000000000000000:=rfl;rw[zc];have zd:(cellX ns 3 % 1000000000000000000000000000000).natAbs≤10 ^ 31:=by omega
        generalize cellX ns 3 % 1000000000000000000000000000000=dx at*;intro e6 dk;have kI:Zd H24 (upd H24 e6 (.lst [V.int dx])):=cc dk;have ze:(upd H24 e6 (.lst [V.int dx])) e6=some (.lst [V.int dx]):=Ze;generalize upd H24 e6 (.lst [V.int dx])=H25 at*;refine .inr (.inr (.inl ⟨fG,e6,_,_,rfl,rfl,kI _ _ zb,ze,QJ (gG (by simp only[Qa,Q1];omega)),λep kv=>?_⟩));have bJ:cB.map V.int++ [V.int dx]=(cB++ [dx]).map V.int:=by simp
        rw[bJ];have zf:Zd H25 (upd H25 ep (.lst ((cB++ [dx]).map V.int))):=cc kv;have zg:(upd H25 ep (.lst ((cB++ [dx]).map V.int))) ep=some (.lst ((cB++ [dx]).map V.int)):=Ze;generalize upd H25 ep (.lst ((cB++ [dx]).map V.int))=H26 at*;have zh:=(kI.trans zf).seq za;walk_at "rds";refine Rd.slL zh ?_;intro bn hsc;rw[show(42:Int)=12+30 from rfl,rC (by decide) (by decide),←List.map_drop,←List.map_take];have dr:((ns.drop (Int.toNat 12)).take (Int.toNat 30)).length≤30:=by rw[Jf];exact Nat.min_le_left _ _
        generalize (ns.drop (Int.toNat 12)).take (Int.toNat 30)=d_ at*;have zi:Zd H26 (upd H26 bn (.lst (d_.map V.int))):=cc hsc;have zj:(upd H26 bn (.lst (d_.map V.int))) bn=some (.lst (d_.map V.int)):=Ze;generalize upd H26 bn (.lst (d_.map V.int))=H27 at*;walk_at "rds";refine⟨ep,bn,cB++ [dx],d_,rfl,zi _ _ zg,by simp,by simp;omega,λx ax=>?_,SqL.of zj,by omega,λH'=>k _⟩;rcases QG.mp ax with z|z
        ·exact sD x z
        ·rw[QF.mp z];exact zd
end
theorem walk{l:PySem.W.OpenLaw}{q:Program}{jm:List Str}{jn:(Str→Option Value)→Heap→Prop}{h1:World→Heap→Prop}{d:DefRec}{K:Params→Frag}(br:l.most=some 63)(hp:d.params.defaults=[])(zk:d.name="law")
  (m4:∀(w:World)(h:Heap),h1 w h→(K w.params).In h)
  (F:∀(w:World)(mg:Str→Option Value)(h:Heap),(K w.params).In h→h.Ns mainGlobals mg→∃T:Tp (K w.params) mg,True):
  PySem.W.WalkO q jm jn h1 l.row.toRowW d [] (λf vs=>PySem.call f vs):=by
 refine L2.ZeV (n:=63) (k:=7) (x:="_law_script") (CX:=λw=>CXX l.prog w) (sp:=λw=>ZeI (K w.params)) br (by decide) hp ⟨rfl,by decide,by decide⟩ m4 (λw mg fh h di G jo=>?_) (λ_ _ a ns ap _ el=>⟨a,ns,rfl,el,ap,λ_=>rfl⟩) ?_
 ·obtain⟨T,_⟩:=F w mg h di G;rw[zk,T.a1.m] at jo;cases jo;exact⟨T.a1.d,T.a5,λbase _ _=>Zgo T⟩
 ·intro w H s e s' z;obtain⟨_,_,_,_,_,_,_,_,_,_,_,_,_,z⟩:=z;exact z
end Nm
namespace PySem.W.Fast
def tw15200285571710893218:=0
def tw15208759587745356459:=0
def tw10157374246369986062:=0
def tw15769963685042362918:=0
def tw13249751857567909487:=0
def tw8597728811892471495:=0
def tw15615117709651476647:=0
def tw7610674455294497782:=0
def tw2522557486847851792:=0
def tw140983827286289498:=0
def tw16596444614199733011:=0
def tw13583108890143122341:=0
def tw4823124360442134141:=0
def tw1299614291974573066:=0
def tw12703489760476674418:=0
def tw17226833380170274892:=0
def tw3401758745704888491:=0
def tw15885123430520734806:=0
def tw4333678140642736243:=0
def tw6491617120828639131:=0
def tw2214179762855935757:=0
def tw13026116947788021667:=0
def tw9814886190584003210:=0
def tw642135840921527293:=0
def tw10113773716860244061:=0
def tw6774740282817861416:=0
def tw1669113487231911188:=0
def tw8307280112137681957:=0
def tw10083469724497024550:=0
def tw12740062751215280782:=0
def tw16964568035544092905:=0
def tw7456390022425886860:=0
def tw8989567629112892785:=0
def tw3206288562384741503:=0
def tw14787932505526649365:=0
def tw5344150236217106069:=0
def tw18172600605302618837:=0
def tw627536492547904830:=0
def tw7942286153270037707:=0
def tw6999383732588322161:=0
def tw7753727656916310481:=0
def tw11112093660522356658:=0
def tw13081898870573831217:=0
def tw7389273832636288052:=0
def tw11337831943363861623:=0
def tw13693971357708103016:=0
def tw17565882695900809522:=0
def tw9601847359407803650:=0
def tw14563742034119455246:=0
def tw8503391592315643890:=0
def tw5740603134382121315:=0
def tw7589230096233889470:=0
def tw18185668293997423642:=0
def tw7108506369703159325:=0
def tw14566337128961394551:=0
def tw699215173878135161:=0
def tw8578219677195404811:=0
def tw6699162782216265327:=0
def tw15915417974497951587:=0
def tw6974865834108848970:=0
def tw9480984553048079618:=0
def tw15399282217882123364:=0
def tw7983656700195253084:=0
def tw491539506678786392:=0
def tw11367618340662768205:=0
def tw17340068102884603747:=0
def tw2442751071308667193:=0
def tw6542429740495628182:=0
def tw6881520791539048141:=0
def tw7573122276907850980:=0
def tw2158231580615725588:=0
def tw10249043693968272754:=0
def tw14086758840902696407:=0
def tw17784678864900349893:=0
def tw11625221382258389851:=0
def tw9191639021954335894:=0
def tw7787421393130354199:=0
def tw5880077726680587025:=0
def tw4570633887485412720:=0
def tw1797129889050029169:=0
def tw14420407870844332009:=0
def tw4732934150152141740:=0
def tw15861683215110326447:=0
def tw4251033476514574358:=0
def tw3312854524623571736:=0
def tw1779000766247418047:=0
def tw10357010355182056583:=0
def tw7279586138653381324:=0
def tw1637286105041777009:=0
def tw13255344388308285623:=0
def tw15836139922269608838:=0
def tw16964384057605520011:=0
def tw4168780370991450897:=0
def tw17036555602733857499:=0
def tw12312481499907208907:=0
def tw6162101370163775809:=0
def tw6958206269853981235:=0
def tw8484649680164803478:=0
def tw14234129486164425312:=0
def tw13141072695838876962:=0
def tw11145419669129947423:=0
def tw1873430212835642379:=0
def tw11955316674373429030:=0
def tw358273941421300620:=0
def tw8714023924552992587:=0
def tw4860724309803656250:=0
def tw216240543391261752:=0
def tw10442446166508857668:=0
def tw14693815435213734258:=0
def tw7115977861216012014:=0
def tw11966777242243819388:=0
def tw465281660819741734:=0
def tw7634007302536017:=0
def tw13740110188430821237:=0
def tw13926112948071707587:=0
def tw9177335251374509088:=0
def tw12958775899744736807:=0
def tw15600303392190495264:=0
def tw7766930097274503479:=0
def tw2446290852384619478:=0
def tw16232213500831672551:=0
def tw14005276858343883106:=0
def tw6982512807365768493:=0
def tw2418689069674147635:=0
def tw8643725042461247353:=0
def tw3848183905896694500:=0
def tw9211474271632104643:=0
def tw13427930042243779463:=0
def tw3362761117228933602:=0
def tw14961409849499316674:=0
def tw10032689742171477673:=0
def tw600687421138688068:=0
def tw5422392933709100776:=0
def tw13654621960546232262:=0
def tw6718770493842475002:=0
def tw2451743172264260056:=0
def tw12280190955818341494:=0
def tw12346735432739105499:=0
def tw2825354676695751877:=0
def tw1428256758135413942:=0
def tw9489661336791914022:=0
def tw17439110726831418598:=0
def tw13608572952922559855:=0
def tw8806777759954007666:=0
def tw15269106032212014812:=0
def tw10924704997446006091:=0
def tw3948964436484242601:=0
def tw15643365397764842824:=0
def tw5061651133049093309:=0
def tw7622881986540701086:=0
def tw6356416086376030093:=0
def tw15166739679355428969:=0
def tw1026857537848400565:=0
def tw6969278769576780868:=0
def tw7919609107226429282:=0
def tw12578804110278871141:=0
def tw14417859778931132333:=0
def tw17751684716212921264:=0
def tw9355097042232975534:=0
def tw16321559037166040670:=0
def tw15344680487091543544:=0
def tw1838912699971718915:=0
def tw6944536965638543618:=0
def tw13966890796908618010:=0
def tw1960075961348561797:=0
def tw16290666953630414654:=0
def tw14935399456385342336:=0
def tw18291117329540407453:=0
def tw11661251806096540767:=0
def tw11271603900867273093:=0
def tw3751923619980239939:=0
def tw12520900497153193888:=0
def tw3182429973506697046:=0
def tw5416771557570094863:=0
def tw6690891945569604377:=0
def tw3465087722239690327:=0
def tw2868815884047092156:=0
def tw14705429158745574519:=0
def tw10841188290352876960:=0
def tw10295515986981361149:=0
def tw3271452948804258937:=0
def tw9718245722529860599:=0
def tw5410049937023963997:=0
def tw17866302168611499749:=0
def tw4216485676708403463:=0
def tw18184097902949470024:=0
def tw15257652777898574344:=0
def tw6080733461642988653:=0
def tw3877738131741257094:=0
def tw13097178329816710338:=0
def tw13569407861790995166:=0
def tw5747149342603025063:=0
def tw4181014899658266394:=0
def tw3537194505109715082:=0
def tw17720362378580575863:=0
def tw6355349747858578656:=0
def tw1080215898646526095:=0
def tw14161471345474572991:=0
def tw179735914473993813:=0
def tw2875939717391024124:=0
def tw10423281218676378269:=0
def tw6257591617837790326:=0
def tw18168445132374970080:=0
def tw17203928338892085102:=0
def tw11740563992615782422:=0
def tw17344266199556699096:=0
def tw3634159435018108819:=0
def tw10325870674732363457:=0
def tw2675727996479010631:=0
def tw1581524722083344993:=0
def tw12700142837031173504:=0
def tw5720937771624395534:=0
def tw12221095870163093559:=0
def tw2723528606335379318:=0
def tw12912012770975044435:=0
def tw155658219415382583:=0
def tw13248150220189276180:=0
def tw18246932402119907635:=0
def tw10964723190322118868:=0
def tw8679455060775293919:=0
def tw4680528046818568042:=0
def tw14152664192558530131:=0
def tw10975990364984255578:=0
def tw253291892911360752:=0
def tw13738924601370008763:=0
def tw16128649652109772536:=0
def tw1517108816885836590:=0
def tw8804262918504350660:=0
def tw4836117540774634735:=0
def tw4866676990749836524:=0
def tw10032492647129988285:=0
def tw5014215980802017976:=0
def tw13684506017047280277:=0
def tw1201247541245233036:=0
def tw15726920167898357035:=0
def tw6057756354215599156:=0
def tw6185161747424087388:=0
def tw14564884092538623241:=0
def tw9769718024841523560:=0
def tw15428064809928437383:=0
def tw16926608103305324678:=0
def tw2615461332328433371:=0
def tw2202512594693328852:=0
def tw16029747301744454402:=0
def tw9997602552081340401:=0
def tw16291370711967994383:=0
def tw9084062782662943554:=0
def tw17143332304742288340:=0
def tw15911680812242343966:=0
def tw1655310174256884980:=0
def tw8488406069922535326:=0
def tw6602643868162518393:=0
def tw13717778398611983476:=0
def tw7612242249279308168:=0
def tw245879803275388185:=0
def tw757347447690352110:=0
def tw15079704597495967295:=0
def tw9794753037992639284:=0
def tw11554363439740636957:=0
def tw13352676980992142634:=0
def tw10609707374460954179:=0
def tw15704836309226509109:=0
def tw15999082867975139701:=0
def tw1544051779224835252:=0
def tw5736919388405219116:=0
def tw1776498229500731262:=0
def tw5110303311887035379:=0
def tw14938308966402427687:=0
def tw5075072418518851776:=0
def tw13886738322199277622:=0
def tw13426116931789787648:=0
def tw9109132276772722239:=0
def tw12551852279136538203:=0
def tw4983274061255156938:=0
def tw9183803440661162219:=0
def tw15775048873430813410:=0
def tw13159603872237128450:=0
def tw11828964529741243405:=0
def tw17365635187956327568:=0
def tw15500640670927313878:=0
def tw10184000972895438358:=0
def tw13332442511980936654:=0
def tw49787309640327911:=0
def tw15376934791382120607:=0
def tw10526486158027104489:=0
def tw3607378810892261487:=0
def tw10005590214984839432:=0
def tw13155543165371686798:=0
def tw7536778674373293971:=0
def tw9578006733660797375:=0
def tw2121213015380029000:=0
def tw11672624302748659373:=0
def tw17447837351560948485:=0
def tw18037889152110606635:=0
def tw6604323738172594263:=0
def tw1222708346873248642:=0
def tw420295247652391572:=0
def tw2023788597878080215:=0
def tw10236069857248358811:=0
def tw10644984262415929302:=0
end PySem.W.Fast
open PySem PySem.W PyProof.Rows
local macro_rules| `(tactic|walk_at "dn")=>`(tactic|(refine' L2.Dn.of (by assumption) (by assumption) ?a ?l ?c ?k ?b;(case a=>k_is);(case l=>k_is);(case c=>k_is);(case k=>k_is);(case b=>(repeat refine L2.lenS λ_=>?_);exact L2.Zd5 λ_ _ _ _ _ _=>rfl)))
local macro_rules| `(tactic|walk_at "dm")=>`(tactic|(refine' L2.Dm.of ?a ?i ?l ?c ?k ?b;(case a=>k_is);(case i=>k_is);(case l=>k_is);(case c=>k_is);(case k=>k_is);(case b=>(repeat refine L2.lenS λ_=>?_);exact L2.Zd5 λ_ _ _ _ _ _=>rfl)))
local macro_rules| `(tactic|walk_at "di")=>`(tactic|(refine' L2.Di.of ?z ?y ?a ?i ?l ?c ?k ?b;(case z=>k_is);(case y=>k_is);(case a=>k_is);(case i=>k_is);(case l=>k_is);(case c=>k_is);(case k=>k_is);(case b=>(repeat refine L2.lenS λ_=>?_);exact L2.Zd5 λ_ _ _ _ _ _=>rfl)))
local macro_rules| `(tactic|walk_at "na")=>`(tactic|((repeat refine L2.Zfa (by k_is) ?_);exact L2.Zfo))
local macro_rules| `(tactic|walk_at "ex")=>`(tactic|(refine' ⟨?g,mg_of (by assumption) (by assumption) ?m,?e⟩;(case g=>k_is);(case m=>k_is);(case e=>k_exc)))
local macro_rules| `(tactic|walk_at "xc")=>`(tactic|exact⟨L2.Zdp (show excIn _ _ [.type "ValueError",.type "Exception",.type "BaseException",.type "object"] "ValueError.__new__" =true by k_exc),by k_is,by k_is,by k_is,by k_is,by k_is,by k_is,by k_is⟩)
set_option maxRecDepth 100000 in
set_option maxHeartbeats 0 in
theorem PySem.Challenge.cw_ratehall_k28_boxes_and_code_run_holds : PySem.Challenge.rw_ratehall_k28_boxes_and_code_run.Holds := by
 w_on;o_law;k_head;(case hw=>w_witness2)
 k_fill
 refine Nm.walk (l:=PySem.Challenge.rw_ratehall_k28_boxes_and_code_run) rfl rfl rfl (λw h Y=>kIn_of Y) ?F
 case F=>
  intro w mg h di G
  refine' ⟨Nm.Tp.mk (mg_of di G ?zl) ⟨?zm,?zn,?zo,?zp⟩ ?zq ?zr ?zt ?zu ?zv ?zw ?zx ?zy ?zz ?zA ⟨?zB,?zC,?zD⟩ (L2.Ze6 ?zE ?zF ?zG) (L2.Zgh ?zH) ?zI ?zJ (.cons ⟨_,rfl⟩ .nil) ?zK ?zL ?zM ?zN ?zO ?zP ?zQ ?zR ?zS ?zT ?zU ?zV ?zW ?zX ?zY ?zZ ?z0 ?z1 ?z2 ?z3 ?z4 ?z5 ?z6 (mg_none_of di G ?z7) (mg_none_of di G ?z8) (mg_none_of di G ?z9) (mg_none_of di G ?z_) (mg_none_of di G ?z') (mg_none_of di G ?Aa) (mg_none_of di G ?Ab) (mg_none_of di G ?Ac) (mg_none_of di G ?Ad) (mg_none_of di G ?Ae) (mg_none_of di G ?Af) (mg_none_of di G ?Ag) ?Ah ?Ai ?Aj ?Ak ?Al ?Am ?An ?Ao ?Ap ?Aq ?Ar ?As ?At ?Au ?Av ?Aw ?Ax ?Ay ?Az ?AA ?AB ?AC ?AD ?AE ?AF ?AG ?AH ?AI ?AJ ?AK ?AL ?AM ?AN ?AO ?AQ ?AR ?AS ?AT ?AU ?AV ?AW ?AX ?AY ?AZ ?A0 ?A1 ?A2 ?A3 ?A4 ?A5 ?A6 ?A7 ?A8 (mg_of di G ?A9) (mg_of di G ?A_) (mg_of di G ?A') ?Ba,trivial⟩
  case zl|zm|zn|zo|zp=>k_is
  case zq=>walk_at "na"
  case zr|zt=>walk_at "dn"
  case zu=>walk_at "dm"
  case zv|zw|zx|zy=>walk_at "dn"
  case zz|zA=>walk_at "dm"
  case zB|zC|zD|zE|zF|zG|zH=>k_is
  case zI=>exact λs us X ap=>(match us,(show us.length=6 by simpa using ap) with| [_,_,_,_,_,_],_=>binds_K X rfl (by k_is) rfl rfl rfl)
  case zJ=>exact λs us X ap=>(match us,(show us.length=5 by simpa using ap) with| [_,_,_,_,_],_=>binds_K X rfl (by k_is) rfl rfl rfl)
  case zK=>walk_at "di"
  case zL|zM=>walk_at "dn"
  case zN=>walk_at "dm"
  case zO|zP|zQ|zR|zS|zT|zU|zV|zW|zX|zY|zZ|z0|z1|z2|z3|z4|z5|z6=>walk_at "dn"
  case z7|z8|z9|z_|z'|Aa|Ab|Ac|Ad|Ae|Af|Ag=>k_is
  case Ah|Ai|Aj|Ak|Al|Am|An|Ao|Ap=>walk_at "ex"
  case Aq|Ar|As|At|Au|Av|Aw|Ax|Ay=>kts_exm
  case Az|AA|AB|AC|AD|AE|AF=>walk_at "xc"
  case AG|AH|AI|AJ|AK|AL|AM|AN|AO|AQ|AR|AS|AT|AU|AV|AW|AX|AY|AZ|A0|A1|A2|A3|A4|A5|A6|A7|A8=>kit_is
  case A9|A_|A'=>k_is
  case Ba=>exact λs v=> .of_eq rfl
#print axioms PySem.Challenge.cw_ratehall_k28_boxes_and_code_run_holds
