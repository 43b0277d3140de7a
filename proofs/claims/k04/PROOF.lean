import PyProof.Rows.All
import Wide.All
import OpenK.AllK
import Wide.FinOn
import Lean
import PyProof.EqAt
import PyProof.EqKinds
import PyProof.TupleCall
import PySem.Challenge.RW_ratehall_k04_halls_refused
set_option maxHeartbeats 4000000
set_option compiler.extract_closed false
set_option bootstrap.genMatcherCode false
local macro_rules| `(tactic|omega)=>`(tactic|with_reducible first|exact Int.natCast_nonneg _|lia|fail)
set_option Elab.async false
set_option linter.all false
set_option maxRecDepth 100000
open PySem.W (instObj methodObj hideAll hideAll_get of_hideAll lookIn plainGet hasDictIn handedIn plainGet_of isFn plainOver takerIn makesIn typeIn emptyDict keepIn methodCall_KW kitx_list kitx_dict callWith_K callWith_K0 cellsFrom_some fnOf codeIn nsIn excIn mg_of exmOne kIn_of mg_none_of binds_K)
abbrev Qa:=@List.size_toArray
abbrev Qb:=@Bool.false_ne_true
abbrev Qc:=@Nat.le_refl
abbrev Qd:=@PySem.boot_len
abbrev Qe:=@List.length_map
abbrev Qf:=@PyProof.Rows.boot_isinstance
abbrev Qg:=@List.length_append
abbrev Qh:=@List.mem_append_right
abbrev Qi:=@Nat.lt_of_lt_of_le
abbrev Qj:=@List.mem_cons
abbrev Qk:=@Option.some.inj
abbrev Ql:=@Nat.ne_of_lt
abbrev Qm:=@PySem.F.excBase_ValueError
abbrev Qn:=@Nat.le_trans
abbrev Qo:=@List.mem_cons_of_mem
abbrev Qp:=@List.mem_singleton
abbrev Qq:=@PySem.F.slot_list_append
abbrev Qr:=@PySem.F.type_list_append
abbrev Qs:=@PySem.F.plainAttrs_list
abbrev Qt:=@List.lookup_cons
abbrev Qu:=@List.getElem?_eq_getElem
abbrev Qv:=@Nat.le_of_ble_eq_true
abbrev Qw:=@PySem.W.kia_one
abbrev Qx:=@Bool.and_eq_true
abbrev Qy:=@Nat.zero_le
abbrev Qz:=@List.getElem?_append_right
abbrev QA:=@Bool.eq_iff_iff
abbrev QB:=@List.getElem?_eq_some_iff
abbrev QC:=@List.length_replicate
abbrev QD:=@List.all_eq_true
abbrev QE:=@Int.emod_lt_of_pos
abbrev QF:=@Nat.lt_irrefl
abbrev QG:=@List.mem_of_getElem?
abbrev QH:=@List.getElem?_map
abbrev QI:=@Int.emod_nonneg
abbrev QJ:=@PySem.mem_of_lookup
abbrev QK:=@Nat.le_of_lt
abbrev QL:=@PyProof.Rows.callWith_type1
abbrev QM:=@List.mem_range
abbrev QN:=@List.map_append
abbrev QO:=@PyProof.Rows.slot_tuple_getitem
abbrev QP:=@List.replicate_succ
abbrev QQ:=@List.mem_cons_self
abbrev QR:=@List.getElem?_set_self
abbrev QS:=@List.mem_filterMap
abbrev QT:=@List.find?_cons
abbrev QU:=@List.mem_append_left
abbrev QV:=@List.map_map
abbrev QW:=@Array.length_toList
abbrev QX:=@List.getElem_of_mem
abbrev QY:=@Int.toNat_of_nonneg
abbrev QZ:=@Option.isSome_iff_exists
abbrev Q0:=@List.mem_append
abbrev Q1:=@List.nodup_cons
abbrev Q2:=@List.flatten_cons
abbrev Q3:=@List.length_filter_le
abbrev Q4:=@PyProof.Rows.mulOk_of
abbrev Q5:=@List.length_take
abbrev Q6:=@List.any_cons
abbrev Q7:=@List.getElem?_set_ne
abbrev Q8:=@Ne.symm
open PySem.W (Frag)
namespace L2
open PySem PySem.Spec PyProof.Rows
noncomputable abbrev Key:=Sum Int Str
noncomputable def i2:Key→Value→Bool
 | .inl k,v=>Value.isInt k v
 | .inr x,v=>Value.isStrOf x v
noncomputable def ZgW (w:World):Key→Int
 | .inl k=>hashInt k
 | .inr x=>hashStr w x
theorem hc:∀{k:Key}{v:Value},i2 k v=true→(∃i t,k=Sum.inl i∧v=Value.int i t)∨(∃x t,k=Sum.inr x∧v=Value.str x t)
 | .inl i,v,h=>by
  obtain⟨t,e⟩:=Value.isInt_shape (k:=i) (v:=v) h;exact .inl ⟨i,t,rfl,e⟩
 | .inr x,v,h=>by
  obtain⟨t,e⟩:=Value.isStrOf_shape (x:=x) (v:=v) h;exact .inr ⟨x,t,rfl,e⟩
theorem ZcB(i:Int)(t:Tok):i2 (.inl i) (.int i t)=true:=by simp[i2,Value.isInt]
theorem Zdk(x:Str)(t:Tok):i2 (.inr x) (.str x t)=true:=by simp[i2,Value.isStrOf]
theorem ZfJ(a b:Int):decide ((Sum.inl a:Key)=Sum.inl b)=(a==b):=by
 by_cases e:a=b
 ·subst e;simp
 ·have h:¬(Sum.inl a:Key)=Sum.inl b:=λq=>e (Sum.inl.inj q);rw[decide_eq_false h];exact(beq_eq_false_iff_ne.mpr e).symm
theorem ZeX(a b:Str):decide ((Sum.inr a:Key)=Sum.inr b)=decide (a=b):=by
 by_cases e:a=b
 ·subst e;simp
 ·have h:¬(Sum.inr a:Key)=Sum.inr b:=λq=>e (Sum.inr.inj q);rw[decide_eq_false h,decide_eq_false e]
theorem Zf6(a:Int)(b:Str):decide ((Sum.inl a:Key)=Sum.inr b)=false:=decide_eq_false (λq=>nomatch q)
theorem Zfa(a:Str)(b:Int):decide ((Sum.inr a:Key)=Sum.inl b)=false:=decide_eq_false (λq=>nomatch q)
noncomputable def eX (prog:Program) (w:World):PySem.KeyKind prog w Key where
 is:=i2
 hash:=ZgW w
 inj:=λv a b bK a6=>by
  rcases hc bK with⟨i,t,rfl,rfl⟩|⟨x,t,rfl,rfl⟩
  ·rcases hc a6 with⟨j,u,rfl,e⟩|⟨y,u,rfl,e⟩
   ·injection e with b2 _;rw[b2]
   ·exact nomatch e
  ·rcases hc a6 with⟨j,u,rfl,e⟩|⟨y,u,rfl,e⟩
   ·exact nomatch e
   ·injection e with b2 _;rw[b2]
 byValue:=λk v h=>by
  rcases hc h with⟨i,t,rfl,rfl⟩|⟨x,t,rfl,rfl⟩<;>rfl
 pyHash:=λb8 h=>by
  rcases hc b8 with⟨i,t,rfl,rfl⟩|⟨x,t,rfl,rfl⟩
  ·exact wpAny_pyHash_int h
  ·exact wpAny_pyHash_str h
 eqBool:=λhu b8 h=>by
  rcases hc hu with⟨i,t,rfl,rfl⟩|⟨x,t,rfl,rfl⟩
  ·rcases hc b8 with⟨j,u,rfl,rfl⟩|⟨y,u,rfl,rfl⟩
   ·rw[ZfJ] at h;exact wpAny_eqBool_int h
   ·rw[Zf6] at h;exact SeqAt.EqAt.int_str i t y u _ _ _ _ h
  ·rcases hc b8 with⟨j,u,rfl,rfl⟩|⟨y,u,rfl,rfl⟩
   ·rw[Zfa] at h;exact SeqAt.EqAt.str_int x t j u _ _ _ _ h
   ·rw[ZeX] at h;exact wpAny_eqBool_str h
 «strs»:=λk x t v h=>by
  rcases hc h with⟨i,u,rfl,e⟩|⟨y,u,rfl,e⟩
  ·exact nomatch e
  ·injection e with b2 _
   subst b2;cases v<;>rfl
theorem Zbp(prog:Program)(w:World)(i:Int)(t:Tok):(eX prog w).is (.inl i) (.int i t)=true:=ZcB i t
theorem Zbj(prog:Program)(w:World)(x:Str)(t:Tok):(eX prog w).is (.inr x) (.str x t)=true:=Zdk x t
inductive V where
 |non|bl (b:Bool)|int (i:Int)|str (x:Str)|byt (b:Array UInt8)|flt (b:UInt64)|ref (a:Addr)|ty (n:String)
 deriving DecidableEq
noncomputable def cu:V→Value→Prop
 | .non,u=>u=Value.none
 | .bl b,u=>u=Value.bool b
 | .int i,u=>∃t,u=Value.int i t
 | .str x,u=>∃t,u=Value.str x t
 | .byt b,u=>∃t,u=Value.bytes b t
 | .flt b,u=>∃t,u=Value.float b t
 | .ref a,u=>u=Value.ref a
 | .ty n,u=>u=Value.type n
noncomputable abbrev cf:List V→List Value→Prop:=Paired cu
theorem cf.length{xs:List V}{us:List Value}(r:cf xs us):xs.length=us.length:=Paired.length r
theorem cf.get:∀{xs:List V}{us:List Value}{i:Nat}{x:V},cf xs us→xs[i]? =some x→∃u,us[i]? =some u∧cu x u
 |_,_,_,_,.nil,e=>by simp at e
 |_,_,0,_,.cons r _,e=>by simp at e;subst e;exact⟨_,rfl,r⟩
 |_,_,i+1,x,.cons _ t,e=>by
  obtain⟨u,a_,bd⟩:=cf.get (i:=i) (x:=x) t (by simpa using e);exact⟨u,by simpa using a_,bd⟩
theorem cf.set{x:V}{u:Value}(r:cu x u):∀{xs:List V}{us:List Value}(i:Nat),cf xs us→cf (xs.set i x) (us.set i u)
 |_,_,_,.nil=> .nil
 |_,_,0,.cons _ t=> .cons r t
 |_,_,i+1,.cons q t=> .cons q (cf.set r i t)
theorem cf.append:∀{xs ys:List V}{us eb:List Value},cf xs us→cf ys eb→cf (xs++ys) (us++eb)
 |_,_,_,_,.nil,s=>s
 |_,_,_,_,.cons r t,s=> .cons r (cf.append t s)
theorem cf.take:∀{xs:List V}{us:List Value}(n:Nat),cf xs us→cf (xs.take n) (us.take n)
 |_,_,0,_=> .nil
 |_,_,_+1,.nil=> .nil
 |_,_,n+1,.cons r t=> .cons r (cf.take n t)
theorem cf.drop:∀{xs:List V}{us:List Value}(n:Nat),cf xs us→cf (xs.drop n) (us.drop n)
 |_,_,0,r=>r
 |_,_,_+1,.nil=> .nil
 |_,_,n+1,.cons _ t=>cf.drop n t
noncomputable def fg:Option V→Option Value→Prop
 |some v,some u=>cu v u
 |none,none=>True
 |_,_=>False
noncomputable def KV {c_:Type}:List (c_×V)→List (c_×Value)→Prop:=Paired λ(p:c_×V) (q:c_×Value)=>p.1=q.1∧cu p.2 q.2
noncomputable def kV:Key→V
 | .inl i=> .int i
 | .inr x=> .str x
inductive HO where
 |lst (xs:List V)
 |tup (xs:List V)
 |dK (kvs:List (Key×V))|dT (kvs:List (List Key×V))
 |set (S:Int→Bool) (n:Nat)
 |ins (C bI:Addr) (fs:List (Str×V))
 |own (x:Addr)
 |xd (fs:List (Str×V))
 |met (f x:Addr)
 |rng (lo bb:Int)
 |frz (o:Obj) (u:HO)
 |tbl (bP:Array Value)
 |ext (ia:Heap→Prop)
noncomputable abbrev Hp:=Addr→Option HO
noncomputable def upd (H:Hp) (a:Addr) (o:HO):Hp:=λb=>if b=a then some o else H b
theorem Zd{H:Hp}{a:Addr}{o:HO}:upd H a o a=some o:=by unfold upd;rw[if_pos rfl]
theorem cm{H:Hp}{a b:Addr}{o:HO}(h:b≠a):upd H a o b=H b:=by unfold upd;rw[if_neg h]
theorem gg{H:Hp}{a b:Addr}{o u:HO}(h:H a=some o)(h':H b=some u)(d:o≠u):a≠b:=by
 intro e;subst e;rw[h] at h';exact d (Qk h')
theorem dQ{H:Hp}{a b:Addr}{o:HO}(h:H a=some o)(h':H b=none):a≠b:=by
 intro e;subst e;rw[h] at h';cases h'
section
variable (P:Program)(w:World)
noncomputable def ZF (H:Hp) (h:Heap) (a:Addr):HO→Prop
 | .lst xs=>xs.length≤sizeLine∧∃(its:List Value)(n:Nat),cf xs its∧h.get? a=some {cls:= .type "list",data:= .seq its.toArray n}
 | .tup xs=>xs.length≤sizeLine∧∃its:List Value,cf xs its∧IsTup h a its.toArray
 | .dK kvs=>kvs.length≤sizeLine∧(a==sysModules)=false∧∃vs,KV kvs vs∧h.DictOf (eX P w) a vs
 | .dT kvs=>kvs.length≤sizeLine∧(a==sysModules)=false∧∃xs:List (List Key×Addr×Value),
   Paired (λ(p:List Key×V) (q:List Key×Addr×Value)=>p.1=q.1∧H q.2.1=some (.tup (p.1.map kV))∧cu p.2 q.2.2) kvs xs∧
   ∃o bS ep,h.get? a=some o∧o.ExactDict∧o.data= .dict bS ep∧bS.toList=xs.map (entryOfKey (tupleKind (eX P w)))∧(xs.map (·.1)).Nodup
 | .set S n=>h.SetOf (intKind P w) a S n
 | .ins C bI fs=>H bI=some (.own a)∧fs.length≤1000∧bI≠a∧h.get? a=some (instObj C bI)∧
   ∃dh,h.Ns1 bI dh∧(∀f,fg (fs.lookup f) (dh f))∧PySem.Within dh (fs.map (·.1))
 | .own _=>∃o,h.get? a=some o
 | .xd fs=>∃dh,h.Ns1 a dh∧∀f,fg (fs.lookup f) (dh f)
 | .rng lo bb=>∃t u v,h.get? a=some {cls:= .type "range",data:= .fields #[.int lo t,.int bb u,.int 1 v]}
 | .frz o u=>h.get? a=some o∧ZF H h a u
 | .tbl bP=>h.get? a=some {cls:= .none,data:= .fields bP}
 | .met f x=>h.get? a=some (methodObj (.ref f) (.ref x))
 | .ext ia=>ia h∧(∃o,h.get? a=some o)∧∀a_ bd:Heap,ia a_→(∀o,a_.get? a=some o→bd.get? a=some o)→ia bd
def HOk(H:Hp)(h:Heap):Prop:=∀a o,H a=some o→ZF P w H h a o
end
section
variable {P:Program}{w:World}{H aS:Hp}{h h':Heap}{a:Addr}{o:HO}
theorem ZF.lt(x:ZF P w H h a o):a<h.objs.size:=by
 cases o with
 |lst xs=>obtain⟨_,_,_,_,e⟩:=x;exact Heap.lt_size e
 |tup xs=>obtain⟨_,_,_,p⟩:=x;exact p.lt
 |dK kvs=>obtain⟨_,_,_,_,o,_,_,e,_⟩:=x;exact Heap.lt_size e
 |dT kvs=>obtain⟨_,_,_,_,o,_,_,e,_⟩:=x;exact Heap.lt_size e
 |set S n=>obtain⟨o,_,_,_,e,_⟩:=x;exact Heap.lt_size e
 |ins C bI fs=>obtain⟨_,_,_,e,_⟩:=x;exact Heap.lt_size e
 |own y=>obtain⟨_,e⟩:=x;exact Heap.lt_size e
 |xd fs=>obtain⟨_,⟨_,_,_,e,_⟩,_⟩:=x;exact Heap.lt_size e
 |rng lo bb=>obtain⟨_,_,_,e⟩:=x;exact Heap.lt_size e
 |frz cD u=>obtain⟨e,_⟩:=x;exact Heap.lt_size e
 |tbl bP=>exact Heap.lt_size (show h.get? a=some _ from x)
 |met f y=>exact Heap.lt_size (show h.get? a=some _ from x)
 |ext ia=>obtain⟨_,⟨_,e⟩,_⟩:=x;exact Heap.lt_size e
theorem Paired.mapP{dY oN:Type}{F G:dY→oN→Prop}:∀{oO:List dY}{oP:List oN},Paired F oO oP→(∀a b,F a b→G a b)→Paired G oO oP
 |_,_,.nil,_=> .nil
 |_,_,.cons r t,f=> .cons (f _ _ r) (Paired.mapP t f)
theorem ZF.stay(x:ZF P w H h a o)(k:∀b u,(b=a∨H b=some (.own a))→h.get? b=some u→h'.get? b=some u)
  (bW:∀b,H b=some (.own a)→aS b=some (.own a)) (cL:∀b xs,H b=some (.tup xs)→aS b=some (.tup xs)):ZF P w aS h' a o:=by
 induction o with
 |lst xs=>obtain⟨z,its,n,r,e⟩:=x;exact⟨z,its,n,r,k _ _ (.inl rfl) e⟩
 |tup xs=>obtain⟨z,its,r,cD,e,c⟩:=x;exact⟨z,its,r,cD,k _ _ (.inl rfl) e,c⟩
 |dK kvs=>obtain⟨z,y,vs,r,cD,bS,ep,e,c⟩:=x;exact⟨z,y,vs,r,cD,bS,ep,k _ _ (.inl rfl) e,c⟩
 |dT kvs=>
  obtain⟨z,y,xs,r,cD,bS,ep,e,c⟩:=x;exact⟨z,y,xs,Paired.mapP r λp q z=>⟨z.1,cL _ _ z.2.1,z.2.2⟩,cD,bS,ep,k _ _ (.inl rfl) e,c⟩
 |set S n=>obtain⟨cD,bS,ep,t,e,c⟩:=x;exact⟨cD,bS,ep,t,k _ _ (.inl rfl) e,c⟩
 |ins C bI fs=>
  obtain⟨d,z,ne,e,dh,⟨di,bS,ep,ci,c⟩,r⟩:=x;exact⟨bW _ d,z,ne,k _ _ (.inl rfl) e,dh,⟨di,bS,ep,k _ _ (.inr d) ci,c⟩,r⟩
 |own y=>obtain⟨cD,e⟩:=x;exact⟨cD,k _ _ (.inl rfl) e⟩
 |xd fs=>obtain⟨dh,⟨di,bS,ep,e,c⟩,r⟩:=x;exact⟨dh,⟨di,bS,ep,k _ _ (.inl rfl) e,c⟩,r⟩
 |rng lo bb=>obtain⟨t,u,v,e⟩:=x;exact⟨t,u,v,k _ _ (.inl rfl) e⟩
 |frz cD u ds=>obtain⟨e,q⟩:=x;exact⟨k _ _ (.inl rfl) e,ds q⟩
 |tbl bP=>
  have e:h.get? a=some {cls:= .none,data:= .fields bP}:=x;show h'.get? a=some {cls:= .none,data:= .fields bP};exact k a _ (.inl rfl) e
 |met f y=>
  have e:h.get? a=some (methodObj (.ref f) (.ref y)):=x;show h'.get? a=some (methodObj (.ref f) (.ref y));exact k a _ (.inl rfl) e
 |ext ia=>obtain⟨p,⟨o,e⟩,st⟩:=x;exact⟨st _ _ p λo q=>k _ _ (.inl rfl) q,⟨o,k _ _ (.inl rfl) e⟩,st⟩
theorem HOk.lt(x:HOk P w H h)(e:H a=some o):a<h.objs.size:=(x a o e).lt
theorem HOk.fresh(x:HOk P w H h)(e:h.objs.size≤a):H a=none:=by
 cases q:H a with
 |none=>rfl
 |some u=>exact absurd (Qi (x.lt q) e) (QF _)
theorem HOk.kept(x:HOk P w H h)(k:∀b u,h.get? b=some u→h'.get? b=some u):HOk P w H h':=λa o e=>
 (x a o e).stay (λb u _ q=>k b u q) (λ_ q=>q) λ_ _ q=>q
theorem HOk.laid(x:HOk P w H h)(k:∀b u,h.get? b=some u→h'.get? b=some u)(b3:h.objs.size≤a)(new:ZF P w (upd H a o) h' a o):HOk P w (upd H a o) h':=λb u e=>by
 have bM:=x.fresh b3
 by_cases a6:b=a
 ·subst a6;rw[Zd] at e;cases e;exact new
 ·rw[cm a6] at e;exact(x b u e).stay (λc v _ q=>k c v q) (λc q=>by rw[cm (dQ q bM)];exact q) λc xs q=>by rw[cm (dQ q bM)];exact q
end
def Rd(H:Hp)(a:Addr)(u:HO):Prop:=H a=some u∨∃o,H a=some (.frz o u)
theorem Rd.ok{P:Program}{w:World}{H:Hp}{h:Heap}{a:Addr}{u:HO}(r:Rd H a u)(x:HOk P w H h):ZF P w H h a u:=by
 rcases r with r|⟨o,r⟩
 ·exact x a u r
 ·obtain⟨_,q⟩:=x a _ r;exact q
noncomputable def Mut:Option HO→Prop
 |some (.lst _)=>True
 |some (.dK _)=>True
 |some (.dT _)=>True
 |some (.set _ _)=>True
 |some (.ins _ _ _)=>True
 |some (.ext _)=>True
 |_=>False
section
variable {P:Program}{w:World}{H:Hp}{h h':Heap}{x e:Addr}{o':HO}
theorem HOk.write(ok:HOk P w H h)(fJ:Mut (H x))(b_:e=x∨H e=some (.own x))(k:∀b u,b≠e→h.get? b=some u→h'.get? b=some u)(he:∃u,h'.get? e=some u)
  (new:ZF P w (upd H x o') h' x o'):HOk P w (upd H x o') h':=λb u q=>by
 have oQ:∀c y,H c=some (.own y)→c≠x:=λc y r z=>by subst z;rw[r] at fJ;exact fJ
 have sj:∀c xs,H c=some (.tup xs)→c≠x:=λc xs r z=>by subst z;rw[r] at fJ;exact fJ
 by_cases a6:b=x
 ·subst a6;rw[Zd] at q;cases q;exact new
 ·rw[cm a6] at q
  by_cases ib:b=e
  ·have eY:H b=some (.own x):=by
    rcases b_ with z|z
    ·exact absurd (ib.trans z) a6
    ·rw[ib];exact z
   rw[q] at eY;cases eY;obtain⟨v,b8⟩:=he;exact⟨v,by rw[ib];exact b8⟩
  ·refine(ok b u q).stay (λc v bH r=>k c v ?_ r) (λc r=>by rw[cm (oQ c b r)];exact r) λc xs r=>by rw[cm (sj c xs r)];exact r
   rcases bH with rfl|bH
   ·exact ib
   ·rintro rfl;rcases b_ with z|z
    ·exact oQ c b bH z
    ·rw[bH] at z;cases z;exact a6 rfl
end
structure Un(fs ex:List Addr)(H aS:Hp)(h h':Heap):Prop where
 keep:∀b o,h.get? b=some o→H b=none→b∉fs→b∉ex→h'.get? b=some o
 slot:∀b o,h.get? b=some o→H b=none→b∈fs→b∉ex→∃sl,h'.get? b=some {o with slots:=sl}
 free:∀b o,h.get? b=some o→H b=none→b∉ex→aS b=none
 there:∀b o,h.get? b=some o→b∉ex→∃o',h'.get? b=some o'
 tups:∀b xs,H b=some (.tup xs)→aS b=some (.tup xs)
 frzs:∀b o u,H b=some (.frz o u)→aS b=some (.frz o u)
 tbls:∀b bP,H b=some (.tbl bP)→∃more,aS b=some (.tbl (bP++more))
section
variable {fs lg ex zK:List Addr}{H a1 a8:Hp}{h a_ bd h':Heap}{a x e:Addr}{o:HO}
theorem Un.any(u:Un fs ex H a1 h a_){b:Addr}{cD:Obj}(q:h.get? b=some cD)(n:H b=none)(bc:b∉ex):∃sl,a_.get? b=some {cD with slots:=sl}:=by
 by_cases a6:b∈fs
 ·exact u.slot b cD q n a6 bc
 ·exact⟨cD.slots,u.keep b cD q n a6 bc⟩
theorem Un.kept(k:∀b u,h.get? b=some u→h'.get? b=some u):Un fs ex H H h h':=
 ⟨λb cD q _ _ _=>k b cD q,λb cD q _ _ _=>⟨cD.slots,k b cD q⟩,λ_ _ _ n _=>n,λb cD q _=>⟨cD,k b cD q⟩,λ_ _ q=>q,λ_ _ _ q=>q,λ_ bP q=>⟨#[],by rw[q];simp⟩⟩
theorem Un.refl:Un fs ex H H h h:=Un.kept λ_ _ q=>q
theorem Un.laid(k:∀b u,h.get? b=some u→h'.get? b=some u)(b3:h.objs.size≤a)(bM:H a=none):Un fs ex H (upd H a o) h h' where
 keep:=λb u q _ _ _=>k b u q
 slot:=λb u q _ _ _=>⟨u.slots,k b u q⟩
 free:=λb u q n _=>by rw[cm (Ql (Qi (Heap.lt_size q) b3))];exact n
 there:=λb u q _=>⟨u,k b u q⟩
 tups:=λb xs q=>by rw[cm (dQ q bM)];exact q
 frzs:=λb u xs q=>by rw[cm (dQ q bM)];exact q
 tbls:=λb bP q=>⟨#[],by rw[cm (dQ q bM),q];simp⟩
theorem Un.write(fJ:Mut (H x))(b_:e=x∨H e=some (.own x))(k:∀b u,b≠e→h.get? b=some u→h'.get? b=some u)(he:∃u,h'.get? e=some u):Un fs ex H (upd H x o) h h':=by
 have bc:∀b,H b=none→b≠x:=λb n z=>by subst z;rw[n] at fJ;exact fJ
 have a6:∀b,H b=none→b≠e:=λb n z=>by
  subst z;rcases b_ with r|r
  ·exact bc b n r
  ·rw[n] at r;cases r
 have bZ:∀b u,H b=some u→¬Mut (some u)→b≠x:=λb u q nm z=>by subst z;rw[q] at fJ;exact nm fJ
 refine⟨λb u q n _ _=>k b u (a6 b n) q,λb u q n _ _=>⟨u.slots,k b u (a6 b n) q⟩,λb u q n _=>by rw[cm (bc b n)];exact n,λb u q _=>?_,
  λb xs q=>by rw[cm (bZ b _ q λz=>z)];exact q,λb u xs q=>by rw[cm (bZ b _ q λz=>z)];exact q,λb bP q=>⟨#[],by rw[cm (bZ b _ q λz=>z),q];simp⟩⟩
 by_cases ib:b=e
 ·subst ib;exact he
 ·exact⟨u,k b u ib q⟩
end
noncomputable def trk (h:Heap) (H:Hp):List Addr:=(List.range h.objs.size).filter λa=>(H a).isSome
noncomputable def hf (h:Heap) (H:Hp):Heap:=hideAll h (trk h H)
theorem sk(h:Heap)(H:Hp):(hf h H).objs.size=h.objs.size:=PySem.W.hideAll_size _ _
theorem ZdC{h:Heap}{H:Hp}{b:Addr}{o:Obj}(e:h.get? b=some o)(n:H b=none):(hf h H).get? b=some o:=
 hideAll_get _ e λbZ=>by
  have q:(H b).isSome=true:=(List.mem_filter.mp bZ).2;rw[n] at q;simp at q
theorem ZeJ{h:Heap}{H:Hp}{b:Addr}{o:Obj}(e:(hf h H).get? b=some o):h.get? b=some o∧H b=none:=by
 have b6:h.get? b=some o:=of_hideAll (trk h H) e;refine⟨b6,?_⟩;cases q:H b with
 |none=>rfl
 |some x=>
  have bZ:b∈trk h H:=List.mem_filter.mpr ⟨QM.mpr (Heap.lt_size b6),by simp[q]⟩;have z:(hf h H).get? b=none:=PySem.W.hideAll_none (trk h H) bZ;rw[z] at e;cases e
structure Mod(K:Frag)(mg:Str→Option Value)(base:Heap):Prop where
 kin:K.In base
 glob:base.Ns mainGlobals mg
 blt:∃f',base.Ns builtinsNs f'∧∀x:Str,x≠"__name__" →f' x=bootBuiltins x
 nolimit:base.NoLimit
structure Cx where
 prog:Program
 w:World
 K:Frag
 mg:Str→Option Value
 base:Heap
 A:Around
 N:List Str
 s₀:Shared
 H₀:Hp
 env:Env
 outer:List Env
 stack:List Env
 ex:List Addr
 fn:Str→Bool
 calm:Bool
 pn:List (Addr×Obj)
 xe:Value→Shared→Prop
noncomputable def frs (l:List Env):List Addr:=l.filterMap (·.frame)
noncomputable abbrev Cx.fs (X:Cx):List Addr:=frs X.outer
def Vis(bT:Scope)(x:Str):Prop:=bT.names.lookup x=some .local∨bT.names.lookup x=some .cell∨bT.names.lookup x=some .free
def Loc(bT:Scope)(x:Str):Prop:=bT.names.lookup x=some .local∨bT.names.lookup x=some .cell
def ZfM(env:Env)(h:Heap)(m:Str→Option Value)(x:Str)(u:Value):Prop:=
 (env.kindOf x=some .local∧m x=some u)∨((env.kindOf x=some .cell∨env.kindOf x=some .free)∧∃c,env.cells.lookup x=some c∧h.IsCell c (some u))
structure Cx.Ok(X:Cx):Prop where
 mod:Mod X.K X.mg X.base
 kind:X.env.scope.kind= .function
 glob:X.env.globals=mainGlobals
 blt:X.env.builtins=builtinsNs
 above:X.s₀.heap.objs.size≤X.env.locals
 inj:∀x y c,X.env.cells.lookup x=some c→X.env.cells.lookup y=some c→x=y
 has:∀x,(X.env.kindOf x=some .cell∨X.env.kindOf x=some .free)→∃c,X.env.cells.lookup x=some c
 cab:∀x c,X.fn x=true→X.env.cells.lookup x=some c→X.s₀.heap.objs.size≤c
 hd:X.calm=true→X.A.handled=none
 frames:X.A.frames=some X.stack
 stk:X.stack=X.outer∨(X.stack=X.env::X.outer∧X.env.frame=some X.env.locals)
 exf:∀b∈X.ex,b≠X.env.locals∧∀x c,X.env.cells.lookup x=some c→c≠b
 bs:∀b o,X.base.get? b=some o→X.s₀.heap.get? b=some o∧X.H₀ b=none
 bsz:X.base.objs.size≤X.s₀.heap.objs.size
 noex:∀b o,X.base.get? b=some o→b∉X.ex
 exfs:∀b∈X.ex,b∉X.fs
 funs:X.s₀.heap.FunFrames X.base X.outer
 frf:∀b∈X.fs,X.H₀ b=none
structure Inv(X:Cx)(aU:List (Addr×Obj))(aM:List (Option V))(H:Hp)(s:Shared):Prop where
 ok:X.Ok
 os:s.os=X.s₀.os
 bare:AllBare s.gens
 base:Un X.fs X.ex X.H₀ H X.s₀.heap s.heap
 loc:∃m,s.heap.Ns X.env.locals m∧∀(i:Nat)(x:Str)(v:V),X.N[i]? =some x→aM[i]? =some (some v)→Vis X.env.scope x→∃u,cu v u∧ZfM X.env s.heap m x u
 cell:∀x c,X.env.cells.lookup x=some c→∃v,s.heap.IsCell c v
 free:H X.env.locals=none
 freeC:∀x c,X.env.cells.lookup x=some c→H c=none
 pin:∀p∈X.pn++aU,s.heap.get? p.1=some p.2∧H p.1=none∧p.1≠X.env.locals∧p.1∉X.fs∧∀v,p.2.data≠ .cell v
 hok:HOk X.prog X.w H s.heap
 len:aM.length=X.N.length
section
variable {X:Cx}{aU:List (Addr×Obj)}{aM:List (Option V)}{H aS:Hp}{s:Shared}{h':Heap}
theorem Cx.Ok.nofr(ok:X.Ok){b:Addr}{o:Obj}(e:X.base.get? b=some o):b∉X.fs:=λa6=>by
 have:=(ok.funs.mem a6).1;rw[e] at this;cases this
theorem Inv.bs(I:Inv X aU aM H s):∀b o,X.base.get? b=some o→s.heap.get? b=some o∧H b=none:=λb o e=>
 ⟨I.base.keep b o (I.ok.bs b o e).1 (I.ok.bs b o e).2 (I.ok.nofr e) (I.ok.noex b o e),I.base.free b o (I.ok.bs b o e).1 (I.ok.bs b o e).2 (I.ok.noex b o e)⟩
theorem Inv.bk(I:Inv X aU aM H s):∀b o,X.base.get? b=some o→s.heap.get? b=some o:=λb o e=>(I.bs b o e).1
theorem Inv.mod(I:Inv X aU aM H s):Mod X.K X.mg X.base:=I.ok.mod
theorem Inv.kIn(I:Inv X aU aM H s):X.K.In s.heap:=I.ok.mod.kin.keeps I.bk
theorem Inv.lt(I:Inv X aU aM H s):X.env.locals<s.heap.objs.size:=let⟨_,bM,_⟩:=I.loc;bM.lt
theorem Inv.sz(I:Inv X aU aM H s):X.s₀.heap.objs.size≤s.heap.objs.size:=Qn I.ok.above (QK I.lt)
theorem Inv.nofs(I:Inv X aU aM H s){a:Addr}(h:s.heap.objs.size≤a):a∉X.fs:=λa6=>by
 obtain⟨_,o,bW,_⟩:=I.ok.funs.mem a6;exact absurd (Qi (Heap.lt_size bW) (Qn I.sz h)) (QF _)
theorem Inv.cne(I:Inv X aU aM H s):∀x c,X.env.cells.lookup x=some c→c≠X.env.locals:=λx c e z=>by
 obtain⟨v,o,bW,hd⟩:=I.cell x c e;obtain⟨m,⟨o',bS,ep,fU,mb,_⟩,_⟩:=I.loc;rw[z,fU] at bW;cases bW;rw[mb] at hd;cases hd
theorem Inv.funs(I:Inv X aU aM H s):s.heap.FunFrames X.base X.outer:=by
 have all:∀(l:List Env),(∀b∈frs l,b∈X.fs)→X.s₀.heap.FunFrames X.base l→s.heap.FunFrames X.base l:=by
  intro l
  induction l with
  |nil=>intro _ _;trivial
  |cons env r ds=>
   intro bN hl;obtain⟨bY,⟨L,o,cj,bM,bW,hd⟩,a'⟩:=hl;have fK:L∈X.fs:=bN L (by unfold frs;rw[List.filterMap_cons,cj];exact QQ);obtain⟨sl,e⟩:=I.base.slot L o bW (I.ok.frf L fK) fK λz=>I.ok.exfs L z fK;exact⟨bY,⟨L,_,cj,bM,e,hd⟩,ds (λb a6=>bN b (by unfold frs;rw[List.filterMap_cons,cj];exact Qo _ a6)) a'⟩
 exact all X.outer (λ_ a6=>a6) I.ok.funs
theorem Inv.stack(I:Inv X aU aM H s):s.heap.FunFrames X.base X.stack:=by
 rcases I.ok.stk with e|⟨e,cj⟩
 ·rw[e];exact I.funs
 ·rw[e];obtain⟨m,bM,_⟩:=I.loc;refine .cons (by rw[I.ok.kind];decide) cj bM ?_ I.funs;exact Heap.get?_none_of_le (Qn I.ok.bsz I.ok.above)
theorem Inv.stkSub(I:Inv X aU aM H s):∀b∈frs X.stack,b∈X.env.locals::X.fs:=λb a6=>by
 rcases I.ok.stk with e|⟨e,cj⟩
 ·rw[e] at a6;exact Qo _ a6
 ·rw[e] at a6;unfold frs at a6;rw[List.filterMap_cons,cj] at a6;exact a6
theorem Inv.stkFree(I:Inv X aU aM H s):∀b∈frs X.stack,H b=none:=λb a6=>by
 rcases Qj.mp (I.stkSub b a6) with e|a6
 ·rw[e];exact I.free
 ·obtain⟨_,o,bW,_⟩:=I.ok.funs.mem a6;exact I.base.free b o bW (I.ok.frf b a6) λz=>I.ok.exfs b z a6
theorem Inv.step{g':Array GenState}{t':Nat}{d':Drawn}{ch:List Addr}(I:Inv X aU aM H s)
  (gO:∀b∈ch,(b∈X.ex∨X.s₀.heap.objs.size≤b)∧b≠X.env.locals∧(∀x c,X.env.cells.lookup x=some c→c≠b)∧∀p∈X.pn++aU,p.1≠b)
  (keep:∀b o,b≠X.env.locals→b∉X.fs→b∉ch→s.heap.get? b=some o→H b=none→h'.get? b=some o)
  (slot:∀b o,b≠X.env.locals→b∈X.fs→b∉ch→s.heap.get? b=some o→H b=none→∃sl,h'.get? b=some {o with slots:=sl}) (free:∀b o,b∉ch→s.heap.get? b=some o→H b=none→aS b=none)
  (there:∀b o,b∉ch→s.heap.get? b=some o→∃o',h'.get? b=some o')
  (tups:∀b xs,H b=some (.tup xs)→aS b=some (.tup xs)) (frzs:∀b o u,H b=some (.frz o u)→aS b=some (.frz o u)) (tbls:∀b bP,H b=some (.tbl bP)→∃more,aS b=some (.tbl (bP++more)))
  (ns:∀m,s.heap.Ns X.env.locals m→h'.Ns X.env.locals m) (hok:HOk X.prog X.w aS h') (cs:AllBare g'):
  Inv X aU aM aS {s with heap:=h',gens:=g',drawn:=d',toks:=t'}:=by
 have i3:∀b o,X.s₀.heap.get? b=some o→b≠X.env.locals:=λb o e=>Ql (Qi (Heap.lt_size e) I.ok.above);have lh:∀b o,X.s₀.heap.get? b=some o→b∉X.ex→b∉ch:=λb o e bc a6=>by
  rcases(gO b a6).1 with z|z
  ·exact bc z
  ·exact absurd (Qi (Heap.lt_size e) z) (QF _)
 have oR:∀x c,X.env.cells.lookup x=some c→∀v,s.heap.IsCell c v→h'.IsCell c v:=λx c e v ⟨o,bW,hd⟩=>by
  have jS:c∉ch:=λz=>(gO c z).2.2.1 x c e rfl
  by_cases bH:c∈X.fs
  ·obtain⟨sl,q⟩:=slot c o (I.cne x c e) bH jS bW (I.freeC x c e);exact⟨_,q,hd⟩
  ·exact⟨o,keep c o (I.cne x c e) bH jS bW (I.freeC x c e),hd⟩
 refine⟨I.ok,I.os,cs,⟨λb o e n a6 bc=>?_,λb o e n a6 bc=>?_,λb o e n bc=>?_,λb o e bc=>?_,λb xs e=>tups b xs (I.base.tups b xs e),λb o xs e=>frzs b o xs (I.base.frzs b o xs e),λb bP e=>?_⟩,?_,λx c e=>?_,?_,λx c e=>?_,λp b3=>?_,hok,I.len⟩
 ·exact keep b o (i3 b o e) a6 (lh b o e bc) (I.base.keep b o e n a6 bc) (I.base.free b o e n bc)
 ·obtain⟨sl,b2⟩:=I.base.slot b o e n a6 bc;obtain⟨jT,ci⟩:=slot b _ (i3 b o e) a6 (lh b o e bc) b2 (I.base.free b o e n bc);exact⟨jT,ci⟩
 ·obtain⟨o',b2⟩:=I.base.there b o e bc;exact free b o' (lh b o e bc) b2 (I.base.free b o e n bc)
 ·obtain⟨o',b2⟩:=I.base.there b o e bc;exact there b o' (lh b o e bc) b2
 ·obtain⟨gb,b2⟩:=I.base.tbls b bP e;obtain⟨hg,ci⟩:=tbls b _ b2;exact⟨gb++hg,by rw[ci,Array.append_assoc]⟩
 ·obtain⟨m,bM,hl⟩:=I.loc;refine⟨m,ns m bM,λi x v b2 ci et=>?_⟩;obtain⟨u,r,l⟩:=hl i x v b2 ci et;refine⟨u,r,?_⟩;rcases l with l|⟨k,c,e,z⟩
  ·exact .inl l
  ·exact .inr ⟨k,c,e,oR x c e _ z⟩
 ·obtain⟨v,z⟩:=I.cell x c e;exact⟨v,oR x c e v z⟩
 ·obtain⟨m,⟨o,_,_,bW,_⟩,_⟩:=I.loc;exact free _ o (λz=>(gO _ z).2.1 rfl) bW I.free
 ·obtain⟨v,o,bW,hd⟩:=I.cell x c e;exact free c o (λz=>(gO c z).2.2.1 x c e rfl) bW (I.freeC x c e)
 ·obtain⟨e,n,ne,i4,d⟩:=I.pin p b3;have jS:p.1∉ch:=λz=>(gO p.1 z).2.2.2 p b3 rfl;exact⟨keep p.1 p.2 ne i4 jS e n,free p.1 p.2 jS e n,ne,i4,d⟩
theorem Inv.un{t':Nat}(I:Inv X aU aM H s)(u:Un X.fs [] H aS s.heap h')(hok:HOk X.prog X.w aS h'):Inv X aU aM aS {s with heap:=h',toks:=t'}:=by
 obtain⟨m,⟨o,bS,ep,bW,r⟩,_⟩:=id I.loc;obtain⟨sl,fK⟩:=u.any bW I.free (by simp);exact I.step (g':=s.gens) (d':=s.drawn) (ch:=[]) (λ_ z=>nomatch z) (λb o _ a6 _ e n=>u.keep b o e n a6 (by simp)) (λb o _ a6 _ e n=>u.slot b o e n a6 (by simp)) (λb o _ e n=>u.free b o e n (by simp)) (λb o _ e=>u.there b o e (by simp)) u.tups u.frzs u.tbls (λcq bZ=>by
  obtain⟨o',mc,md,fU,cz⟩:=bZ;rw[bW] at fU;cases fU;exact⟨_,mc,md,fK,cz⟩) hok I.bare
theorem Inv.call{g':Array GenState}{t':Nat}{d':Drawn}{ch:List Addr}(I:Inv X aU aM H s)(u:Un (frs X.stack) ch H aS s.heap h')(hok:HOk X.prog X.w aS h')(cs:AllBare g')
  (gO:∀b∈ch,(b∈X.ex∨X.s₀.heap.objs.size≤b)∧b≠X.env.locals∧(∀x c,X.env.cells.lookup x=some c→c≠b)∧∀p∈X.pn++aU,p.1≠b):
  Inv X aU aM aS {s with heap:=h',gens:=g',drawn:=d',toks:=t'}:=by
 obtain⟨m,⟨o,bS,ep,bW,r⟩,_⟩:=id I.loc;obtain⟨sl,fK⟩:=u.any bW I.free λz=>(gO _ z).2.1 rfl;exact I.step (ch:=ch) gO (λb o fK a6 bH e n=>u.keep b o e n (λz=>(Qj.mp (I.stkSub b z)).elim fK a6) bH) (λb o _ _ bH e n=>u.any e n bH) (λb o bH e n=>u.free b o e n bH) (λb o bH e=>u.there b o e bH) u.tups u.frzs u.tbls (λcq bZ=>by
  obtain⟨o',mc,md,fU,cz⟩:=bZ;rw[bW] at fU;cases fU;exact⟨_,mc,md,fK,cz⟩) hok cs
theorem Inv.turned{t':Nat}{it:Addr}(I:Inv X aU aM H s)(k:∀b o,b≠it→s.heap.get? b=some o→h'.get? b=some o)(bM:H it=none)(fK:it≠X.env.locals)
  (a_:it∈X.ex∨X.s₀.heap.objs.size≤it) (bd:∀x c,X.env.cells.lookup x=some c→c≠it) (cx:∀p∈X.pn++aU,p.1≠it):Inv X aU aM H {s with heap:=h',toks:=t'}:=by
 have jU:∀b u,H b=some u→b≠it:=λb u e z=>by rw[z,bM] at e;cases e
 refine I.step (g':=s.gens) (d':=s.drawn) (ch:=[it]) (λb a6=>?_) (λb o _ _ bH e _=>k b o (λz=>bH (by simp[z])) e) (λb o _ _ bH e _=>⟨o.slots,k b o (λz=>bH (by simp[z])) e⟩) (λ_ _ _ _ n=>n)
  (λb o bH e=>⟨o,k b o (λz=>bH (by simp[z])) e⟩) (λ_ _ e=>e) (λ_ _ _ e=>e) (λb bP e=>⟨#[],by rw[e];simp⟩) (λm bZ=>?_) (λb u e=>?_) I.bare
 ·have e:b=it:=by simpa using a6
  subst e;exact⟨a_,fK,bd,cx⟩
 ·obtain⟨o,bS,ep,bW,r⟩:=bZ;exact⟨o,bS,ep,k _ o (Q8 fK) bW,r⟩
 ·refine(I.hok b u e).stay (λc v bH q=>k c v ?_ q) (λ_ q=>q) λ_ _ q=>q;rcases bH with z|z
  ·rw[z];exact jU b u e
  ·exact jU c _ z
theorem Inv.tok(I:Inv X aU aM H s)(t:Nat):Inv X aU aM H {s with toks:=t}:=I.un (h':=s.heap) (t':=t) Un.refl I.hok
theorem Inv.kept{t':Nat}(I:Inv X aU aM H s)(k:∀b u,s.heap.get? b=some u→h'.get? b=some u):Inv X aU aM H {s with heap:=h',toks:=t'}:=I.un (Un.kept k) (I.hok.kept k)
theorem Inv.laid{a:Addr}{o:HO}{t':Nat}(I:Inv X aU aM H s)(k:∀b u,s.heap.get? b=some u→h'.get? b=some u)(b3:s.heap.objs.size≤a)(new:ZF X.prog X.w (upd H a o) h' a o):
  Inv X aU aM (upd H a o) {s with heap:=h',toks:=t'}:=I.un (Un.laid k b3 (I.hok.fresh b3)) (I.hok.laid k b3 new)
theorem Inv.write{x e:Addr}{o:HO}{t':Nat}(I:Inv X aU aM H s)(fJ:Mut (H x))(b_:e=x∨H e=some (.own x))(k:∀b u,b≠e→s.heap.get? b=some u→h'.get? b=some u)(he:∃u,h'.get? e=some u)
  (new:ZF X.prog X.w (upd H x o) h' x o):Inv X aU aM (upd H x o) {s with heap:=h',toks:=t'}:=I.un (Un.write fJ b_ k he) (I.hok.write fJ b_ k he new)
theorem Inv.pins_of{i5:List (Addr×Obj)}(I:Inv X aU aM H s)(h:∀p∈i5,s.heap.get? p.1=some p.2∧H p.1=none∧p.1≠X.env.locals∧p.1∉X.fs∧∀v,p.2.data≠ .cell v):Inv X i5 aM H s:=
 ⟨I.ok,I.os,I.bare,I.base,I.loc,I.cell,I.free,I.freeC,λp b3=>(Q0.mp b3).elim (λz=>I.pin p (QU _ z)) (h p),I.hok,I.len⟩
theorem me{N:List Str}(dZ:N.Nodup){i j:Nat}{x:Str}(a:N[i]? =some x)(b:N[j]? =some x):i=j:=by
 obtain⟨a_,b2⟩:=QB.mp a;obtain⟨bd,ci⟩:=QB.mp b;exact(List.getElem_inj dZ).mp (b2.trans ci.symm)
theorem oS{M:Model}{A:Around}{E:Value→Shared→Prop}{i:Nat}{x:Str}{v:V}{u:Value}{Q:Unit→Shared→Prop}(I:Inv X aU aM H s)(dZ:X.N.Nodup)(bb:X.N[i]? =some x)(bc:Loc X.env.scope x)(r:cu v u)
  (h:∀s',Inv X aU (aM.set i (some v)) H s'→(∃a,Heap.SameBut a s.heap s'.heap∧(a=X.env.locals∨X.env.cells.lookup x=some a))→Q () s') (cj:X.fn x=true∨X.env.scope.names.lookup x=some .local:=by first|exact .inl rfl|exact .inr rfl|assumption):wpAny M A (storeName X.env x u) Q E s:=by
 obtain⟨m,bM,hl⟩:=id I.loc;have mf:(X.env.scope.kind== .class||(X.env.scope.kind== .module&&X.env.locals != X.env.globals))=false:=by rw[I.ok.kind];rfl
 have oT:i<aM.length:=by rw[I.len];exact(QB.mp bb).1
 have cne:=I.cne;have oU:∀{a:Addr}{h':Heap},(∃o,s.heap.get? a=some o∧H a=none)→Heap.SameBut a s.heap h'→HOk X.prog X.w H h':=λ{a h'} bK bN b cD e=>by
  obtain⟨_,_,oV⟩:=bK;refine(I.hok b cD e).stay (λc dz bH q=>(bN.2 c ?_).trans q) (λ_ q=>q) λ_ _ q=>q;rintro rfl;rcases bH with rfl|bH
  ·rw[oV] at e;cases e
  ·rw[oV] at bH;cases bH
 rcases bc with bY|bY
 ·refine wpAny_storeName_local bY bM (λh' sm bN=>?_) mf;obtain⟨so,_,_,sr,_⟩:=id bM;refine h _ ⟨I.ok,I.os,I.bare,⟨λb o e n a6 bc=>?_,λb o e n a6 bc=>?_,I.base.free,λb o e bc=>?_,I.base.tups,I.base.frzs,I.base.tbls⟩,⟨_,sm,λj y gP b2 ci et=>?_⟩,λy c e=>?_,I.free,I.freeC,λp b3=>?_,oU ⟨so,sr,I.free⟩ bN,by simpa using I.len⟩ ⟨_,bN,.inl rfl⟩
  ·exact(bN.2 b (Ql (Qi (Heap.lt_size e) I.ok.above))).trans (I.base.keep b o e n a6 bc)
  ·obtain⟨sl,b2⟩:=I.base.slot b o e n a6 bc;exact⟨sl,(bN.2 b (Ql (Qi (Heap.lt_size e) I.ok.above))).trans b2⟩
  ·obtain⟨o',b2⟩:=I.base.there b o e bc;exact⟨o',(bN.2 b (Ql (Qi (Heap.lt_size e) I.ok.above))).trans b2⟩
  ·by_cases cN:j=i
   ·subst cN;rw[bb] at b2;cases b2;rw[QR oT] at ci;cases ci;exact⟨u,r,.inl ⟨bY,by simp⟩⟩
   ·rw[Q7 (Q8 cN)] at ci;obtain⟨i6,cz,q⟩:=hl j y gP b2 ci et;refine⟨i6,cz,?_⟩;rcases q with⟨k,e⟩|⟨k,c,e,z⟩
    ·refine .inl ⟨k,?_⟩;have:y≠x:=λe=>cN (me dZ b2 (e▸bb));simp[this,e]
    ·exact .inr ⟨k,c,e,z.sameBut bN (cne y c e)⟩
  ·obtain⟨dz,z⟩:=I.cell y c e;exact⟨dz,z.sameBut bN (cne y c e)⟩
  ·obtain⟨e,n,ne,i4,d⟩:=I.pin p b3;exact⟨(bN.2 p.1 ne).trans e,n,ne,i4,d⟩
 ·have jV:X.fn x=true:=by
   rcases cj with z|z
   ·exact z
   ·rw[z] at bY;cases bY
  obtain⟨c,bH⟩:=I.ok.has x (.inl bY);obtain⟨dz,z⟩:=I.cell x c bH;refine wpAny_storeName_cell I.ok.kind bY bH z (λh' hM bN=>?_);obtain⟨d0,oW,ss⟩:=id z;refine h {s with heap:=h'} ⟨I.ok,I.os,I.bare,⟨λb o e n a6 bc=>?_,λb o e n a6 bc=>?_,I.base.free,λb o e bc=>?_,I.base.tups,I.base.frzs,I.base.tbls⟩,⟨m,bM.sameBut bN (Q8 (cne x c bH)),λj y gP b2 ci et=>?_⟩,λy c2 e=>?_,I.free,I.freeC,λp b3=>?_,oU ⟨d0,oW,I.freeC x c bH⟩ bN,by simpa using I.len⟩ ⟨c,bN,.inr bH⟩
  ·exact(bN.2 b (Ql (Qi (Heap.lt_size e) (I.ok.cab x c jV bH)))).trans (I.base.keep b o e n a6 bc)
  ·obtain⟨sl,b2⟩:=I.base.slot b o e n a6 bc;exact⟨sl,(bN.2 b (Ql (Qi (Heap.lt_size e) (I.ok.cab x c jV bH)))).trans b2⟩
  ·obtain⟨o',b2⟩:=I.base.there b o e bc;exact⟨o',(bN.2 b (Ql (Qi (Heap.lt_size e) (I.ok.cab x c jV bH)))).trans b2⟩
  ·by_cases cN:j=i
   ·subst cN;rw[bb] at b2;cases b2;rw[QR oT] at ci;cases ci;exact⟨u,r,.inr ⟨.inl bY,c,bH,hM⟩⟩
   ·rw[Q7 (Q8 cN)] at ci;obtain⟨i6,cz,q⟩:=hl j y gP b2 ci et;refine⟨i6,cz,?_⟩;rcases q with q|⟨k,c2,e,eu⟩
    ·exact .inl q
    ·refine .inr ⟨k,c2,e,eu.sameBut bN ?_⟩;rintro rfl;exact cN (me dZ b2 (I.ok.inj _ _ _ e bH▸bb))
  ·by_cases i7:c2=c
   ·subst i7;exact⟨_,hM⟩
   ·obtain⟨i8,gh⟩:=I.cell y c2 e;exact⟨i8,gh.sameBut bN i7⟩
  ·obtain⟨e,n,ne,i4,d⟩:=I.pin p b3;refine⟨(bN.2 p.1 ?_).trans e,n,ne,i4,d⟩;intro q;rw[q,oW] at e;have eY:d0=p.2:=Qk e;exact d dz (by rw[←eY];exact ss)
theorem li{M:Model}{A:Around}{E:Value→Shared→Prop}{i:Nat}{x:Str}{v:V}{u:Value}{Q:Unit→Shared→Prop}(I:Inv X aU aM H s)(dZ:X.N.Nodup)(bb:X.N[i]? =some x)(bc:Loc X.env.scope x)(r:cu v u)
  (h:∀s',Inv X aU (aM.set i (some v)) H s'→Q () s') (cj:X.fn x=true∨X.env.scope.names.lookup x=some .local:=by first|exact .inl rfl|exact .inr rfl|assumption):wpAny M A (storeName X.env x u) Q E s:=
 oS I dZ bb bc r (λs' dv _=>h s' dv) cj
theorem Inv.call'{s':Shared}{ch:List Addr}(I:Inv X aU aM H s)(bW:s'.os=s.os)(u:Un (frs X.stack) ch H aS s.heap s'.heap)(hok:HOk X.prog X.w aS s'.heap)(cs:AllBare s'.gens)
  (gO:∀b∈ch,(b∈X.ex∨X.s₀.heap.objs.size≤b)∧b≠X.env.locals∧(∀x c,X.env.cells.lookup x=some c→c≠b)∧∀p∈X.pn++aU,p.1≠b):Inv X aU aM aS s':=by
 obtain⟨h',g',d',t',o'⟩:=s';have e:o'=s.os:=bW;subst e;exact I.call (g':=g') (t':=t') (d':=d') u hok cs gO
end
noncomputable abbrev XK:=Value→Option Addr→Hp→Prop
noncomputable abbrev St:=List (Option V)
noncomputable abbrev VK:=V→Hp→Prop
noncomputable abbrev TE:=St→Hp→VK→Prop
noncomputable abbrev TT:=St→Hp→(Bool→Hp→Prop)→Prop
noncomputable abbrev TA:=St→Hp→(List V→Hp→Prop)→Prop
structure YS where
 nx:St→Hp→Prop
 rt:VK
 bk:St→Hp→Prop:=λ_ _=>False
 ct:St→Hp→Prop:=λ_ _=>False
noncomputable abbrev TS:=YS→St→Hp→Prop
def EP(X:Cx)(aU:List (Addr×Obj))(aM:St)(Q:VK)(u:Value)(s':Shared):Prop:=∃v aS,Inv X aU aM aS s'∧cu v u∧Q v aS
def TP(X:Cx)(aU:List (Addr×Obj))(aM:St)(Q:Bool→Hp→Prop)(b:Bool)(s':Shared):Prop:=∃aS,Inv X aU aM aS s'∧Q b aS
def AP(X:Cx)(aU:List (Addr×Obj))(aM:St)(Q:List V→Hp→Prop)(us:List Value)(s':Shared):Prop:=∃vs aS,Inv X aU aM aS s'∧cf vs us∧Q vs aS
def SP(X:Cx)(aU:List (Addr×Obj))(D:YS)(f:Flow)(s':Shared):Prop:=
 match f with
 | .next=>∃b0 aS,Inv X aU b0 aS s'∧D.nx b0 aS
 | .brk=>∃b0 aS,Inv X aU b0 aS s'∧D.bk b0 aS
 | .cont=>∃b0 aS,Inv X aU b0 aS s'∧D.ct b0 aS
 | .ret u=>∃v b0 aS,Inv X aU b0 aS s'∧cu v u∧D.rt v aS
def PE(X:Cx)(e:Expr)(t:TE):Prop:=
 ∀(aU:List (Addr×Obj))(s:Shared)(aM:St)(H:Hp)(Q:VK),Inv X aU aM H s→t aM H Q→wpAny (model X.prog X.w) X.A (eval e X.env) (EP X aU aM Q) X.xe s
def PT(X:Cx)(e:Expr)(t:TT):Prop:=
 ∀(aU:List (Addr×Obj))(s:Shared)(aM:St)(H:Hp)(Q:Bool→Hp→Prop),Inv X aU aM H s→t aM H Q→wpAny (model X.prog X.w) X.A (isTrue e X.env (eval e X.env)) (TP X aU aM Q) X.xe s
def PW(X:Cx)(e:Expr)(t:TT):Prop:=
 ∀(ic:Sem Value)(aU:List (Addr×Obj))(s:Shared)(aM:St)(H:Hp)(Q:Bool→Hp→Prop),Inv X aU aM H s→t aM H Q→wpAny (model X.prog X.w) X.A (isTrue e X.env ic) (TP X aU aM Q) X.xe s
theorem PW.pt{X:Cx}{e:Expr}{t:TT}(h:PW X e t):PT X e t:=h _
def PA(X:Cx)(bS:List Expr)(t:TA):Prop:=
 ∀(pos:Pos)(aU:List (Addr×Obj))(s:Shared)(aM:St)(H:Hp)(Q:List V→Hp→Prop),Inv X aU aM H s→t aM H Q→wpAny (model X.prog X.w) X.A (spliced (backTo pos (starEach bS X.env))) (AP X aU aM Q) X.xe s
def PS(X:Cx)(st:Stmt)(t:TS):Prop:=
 ∀(aU:List (Addr×Obj))(s:Shared)(aM:St)(H:Hp)(D:YS),Inv X aU aM H s→t D aM H→wpAny (model X.prog X.w) X.A (exec st X.env) (SP X aU D) X.xe s
def PSs(X:Cx)(st:List Stmt)(t:TS):Prop:=
 ∀(aU:List (Addr×Obj))(s:Shared)(aM:St)(H:Hp)(D:YS),Inv X aU aM H s→t D aM H→wpAny (model X.prog X.w) X.A (execs st X.env) (SP X aU D) X.xe s
theorem thn{dY:Type}{t:Sem dY}{Q jW:dY→Shared→Prop}{M:Model}{A:Around}{E:Value→Shared→Prop}{s:Shared}(h:wpAny M A t Q E s)(gQ:∀a s,Q a s→jW a s):wpAny M A t jW E s:=wpAny_mono h gQ λ_ _ x=>x
section
variable {X:Cx}
theorem bin{a b:Expr}{bO cp:TE}(bK:PE X a bO)(a6:PE X b cp){aU:List (Addr×Obj)}{s:Shared}{aM:St}{H:Hp}{R:V→V→Hp→Prop}(I:Inv X aU aM H s)(h:bO aM H λx a1=>cp aM a1 λy a8=>R x y a8)
  {dY:Type} {Q:dY→Shared→Prop} {f:Value→Value→Sem dY}
  (cj:∀v u bQ x y a8,Inv X aU aM a8 bQ→cu x v→cu y u→R x y a8→wpAny (model X.prog X.w) X.A (f v u) Q X.xe bQ):
  wpAny (model X.prog X.w) X.A (eval a X.env) (λv cX=>wpAny (model X.prog X.w) X.A (eval b X.env) (λu hN=>wpAny (model X.prog X.w) X.A (f v u) Q X.xe hN) X.xe cX) X.xe s:=by
 refine thn (bK aU s aM H _ I h) λv bj ⟨x,a1,bU,cr,ck⟩=>?_;refine thn (a6 aU bj aM a1 _ bU ck) λu bQ ⟨y,a8,cF,cM,cv⟩=>?_;exact cj v u bQ x y a8 cF cr cM cv
noncomputable def Zb0 (i:Nat):TE:=λaM H Q=>∃v,aM[i]? =some (some v)∧Q v H
noncomputable def tC (v:V):TE:=λ_ H Q=>Q v H
theorem ZfV{i:Nat}{x:Str}{pos:Pos}(dZ:X.N[i]? =some x)(b8:Vis X.env.scope x)(hd:(x==("__debug__" :Str))=false:=by decide)(fV:(x==("__classdict__" :Str))=false:=by decide):PE X (.Name x pos) (Zb0 i):=by
 intro aU s aM H Q I h;obtain⟨v,e,h⟩:=h;obtain⟨m,bM,hl⟩:=I.loc;obtain⟨u,r,l⟩:=hl i x v dZ e b8;have d5:EP X aU aM Q u s:=⟨v,H,I,r,h⟩;rcases l with⟨bY,bZ⟩|⟨bY,c,bH,i9⟩
 ·exact wpAny_Name (wpAny_loadName_local I.ok.kind bY bM bZ d5) hd
 ·rcases bY with bY|bY
  ·exact wpAny_Name (wpAny_loadName_cell I.ok.kind bY bH i9 d5) hd
  ·exact wpAny_Name (wpAny_loadName_free I.ok.kind bY bH i9 d5 fV) hd
theorem Zb{i j pos}:PE X (.Constant (.int i) j pos) (tC (.int i)):=λ_ _ _ H _ I h=>wpAny_Constant_int ⟨.int i,H,I.tok _,⟨_,rfl⟩,h⟩
theorem Yf{b j pos}:PE X (.Constant (.bool b) j pos) (tC (.bl b)):=λ_ _ _ H _ I h=>Constant_bool ⟨.bl b,H,I,rfl,h⟩
theorem Zfo{j pos}:PE X (.Constant .none j pos) (tC .non):=λ_ _ _ H _ I h=>Constant_none ⟨.non,H,I,rfl,h⟩
theorem ZI{x j pos}:PE X (.Constant (.str x) j pos) (tC (.str x)):=λ_ _ _ H _ I h=>Calls.Constant_str ⟨.str x,H,I.tok _,⟨_,rfl⟩,h⟩
def Gl(X:Cx)(x:Str):Prop:=X.env.kindOf x=some .globalImplicit
theorem jX{E:Value→Shared→Prop}{aU:List (Addr×Obj)}{s:Shared}{aM:St}{H:Hp}{x:Str}{u:Value}{pos:Pos}{Q:Value→Shared→Prop}(I:Inv X aU aM H s)(cs:Gl X x)(bZ:X.mg x=some u)(h:Q u s)
  (hd:(x==("__debug__" :Str))=false:=by decide):wpAny (model X.prog X.w) X.A (eval (.Name x pos) X.env) Q E s:=
 Calls.Name_function_global I.ok.kind cs (Calls.loadGlobal_global (by rw[I.ok.glob];exact I.mod.glob.keeps I.bk) bZ h) hd
theorem i_{E:Value→Shared→Prop}{aU:List (Addr×Obj)}{s:Shared}{aM:St}{H:Hp}{x:Str}{u:Value}{pos:Pos}{Q:Value→Shared→Prop}(I:Inv X aU aM H s)(cs:Gl X x)(bZ:X.mg x=none)(b8:bootBuiltins x=some u)(h:Q u s)
  (bM:x≠"__name__" :=by decide) (hd:(x==("__debug__" :Str))=false:=by decide):wpAny (model X.prog X.w) X.A (eval (.Name x pos) X.env) Q E s:=by
 obtain⟨f',a_,bd⟩:=I.mod.blt;exact Calls.Name_function_global I.ok.kind cs (Calls.loadGlobal_builtin (by rw[I.ok.glob];exact I.mod.glob.keeps I.bk) bZ (by rw[I.ok.blt];exact a_.keeps I.bk) ((bd x bM).trans b8) h) hd
theorem fW{x:Str}{v:V}{u:Value}{pos:Pos}(cs:Gl X x)(bZ:X.mg x=some u)(r:cu v u)(hd:(x==("__debug__" :Str))=false:=by decide):PE X (.Name x pos) (tC v):=
 λ_ _ _ H _ I h=>jX I cs bZ ⟨v,H,I,r,h⟩ hd
theorem jY{x:Str}{v:V}{u:Value}{pos:Pos}(cs:Gl X x)(bZ:X.mg x=none)(b8:bootBuiltins x=some u)(r:cu v u)(bM:x≠"__name__" :=by decide)(hd:(x==("__debug__" :Str))=false:=by decide):PE X (.Name x pos) (tC v):=
 λ_ _ _ H _ I h=>i_ I cs bZ b8 ⟨v,H,I,r,h⟩ bM hd
variable {a b:Expr}{bO cp:TE}{pos:Pos}
variable {gc lj:TT}{rest:List Expr}
noncomputable def oX (t u:TT):TT:=λaM H Q=>t aM H λc a1=>if c=true then u aM a1 Q else Q false a1
noncomputable def tOr (t u:TT):TT:=λaM H Q=>t aM H λc a1=>if c=true then Q true a1 else u aM a1 Q
noncomputable def oY (t:TT):TT:=λaM H Q=>t aM H λc a1=>Q (!c) a1
theorem ie(bK:PT X a gc):PW X (.BoolOp .And [a] pos) gc:=by
 intro jZ aU s aM H Q I h;refine isTrue_and (thn (bK aU s aM H Q I h) λc bj e=>?_);cases c with
 |true=>exact isTrue_and_nil e
 |false=>exact e
theorem i'(bK:PT X a gc):PW X (.BoolOp .Or [a] pos) gc:=by
 intro jZ aU s aM H Q I h;refine isTrue_or (thn (bK aU s aM H Q I h) λc bj e=>?_);cases c with
 |false=>exact isTrue_or_nil e
 |true=>exact e
theorem ig(bK:PT X a gc)(a6:PW X (.BoolOp .And (b::rest) pos) lj):PW X (.BoolOp .And (a::b::rest) pos) (oX gc lj):=by
 intro jZ aU s aM H Q I h;refine isTrue_and (thn (bK aU s aM H _ I h) λc bj ⟨a1,bU,ck⟩=>?_);cases c with
 |true=>exact a6 jZ aU bj aM a1 Q bU ck
 |false=>exact⟨a1,bU,ck⟩
theorem ih(bK:PT X a gc)(a6:PW X (.BoolOp .Or (b::rest) pos) lj):PW X (.BoolOp .Or (a::b::rest) pos) (tOr gc lj):=by
 intro jZ aU s aM H Q I h;refine isTrue_or (thn (bK aU s aM H _ I h) λc bj ⟨a1,bU,ck⟩=>?_);cases c with
 |true=>exact⟨a1,bU,ck⟩
 |false=>exact a6 jZ aU bj aM a1 Q bU ck
theorem eC(bK:PT X a gc):PT X (.UnaryOp .Not a pos) (oY gc):=by
 intro aU s aM H Q I h;exact isTrue_not (bK aU s aM H (λc a1=>Q (!c) a1) I h)
noncomputable def oZ (bO cp:TE):TE:=λaM H Q=>bO aM H λx a1=>∃c,x= .bl c∧if c=true then cp aM a1 Q else Q (.bl false) a1
noncomputable def o0 (bO cp:TE):TE:=λaM H Q=>bO aM H λx a1=>∃c,x= .bl c∧if c=true then Q (.bl true) a1 else cp aM a1 Q
noncomputable def o1 (bO:TE):TE:=λaM H Q=>bO aM H λx a1=>∃c,x= .bl c∧Q (.bl (!c)) a1
theorem j0{op}{t:TE}(h:PE X a t):PE X (.BoolOp op [a] pos) t:=λaU s aM H Q I hw=>BoolOp_one (h aU s aM H Q I hw)
theorem ll(bK:PE X a bO)(a6:PE X (.BoolOp .And (b::rest) pos) cp):PE X (.BoolOp .And (a::b::rest) pos) (oZ bO cp):=by
 intro aU s aM H Q I h;refine BoolOp_and (thn (bK aU s aM H _ I h) λv bj ⟨x,a1,bU,cr,ck⟩=>?_);obtain⟨c,rfl,ck⟩:=ck;cases cr;refine wpAny_truthy_bool ?_;cases c with
 |true=>exact a6 aU bj aM a1 Q bU ck
 |false=>exact⟨.bl false,a1,bU,rfl,ck⟩
theorem su(bK:PE X a bO)(a6:PE X (.BoolOp .Or (b::rest) pos) cp):PE X (.BoolOp .Or (a::b::rest) pos) (o0 bO cp):=by
 intro aU s aM H Q I h;refine BoolOp_or (thn (bK aU s aM H _ I h) λv bj ⟨x,a1,bU,cr,ck⟩=>?_);obtain⟨c,rfl,ck⟩:=ck;cases cr;refine wpAny_truthy_bool ?_;cases c with
 |false=>exact a6 aU bj aM a1 Q bU ck
 |true=>exact⟨.bl true,a1,bU,rfl,ck⟩
theorem sv(bK:PE X a bO):PE X (.UnaryOp .Not a pos) (o1 bO):=by
 intro aU s aM H Q I h;refine UnaryOp_ (thn (bK aU s aM H _ I h) λv bj ⟨x,a1,bU,cr,ck⟩=>?_);obtain⟨c,rfl,ck⟩:=ck;cases cr;exact not_of (wpAny_truthy_bool ⟨.bl (!c),a1,bU,rfl,ck⟩)
noncomputable def tIf (t:TT) (bO cp:TE):TE:=λaM H Q=>t aM H λc a1=>if c=true then bO aM a1 Q else cp aM a1 Q
theorem mh{c:Expr}(bH:PT X c gc)(bK:PE X a bO)(a6:PE X b cp):PE X (.IfExp c a b pos) (tIf gc bO cp):=by
 intro aU s aM H Q I h;refine wpAny_IfExp (thn (bH aU s aM H _ I h) λd bj ⟨a1,bU,ck⟩=>?_);cases d with
 |true=>exact bK aU bj aM a1 Q bU ck
 |false=>exact a6 aU bj aM a1 Q bU ck
end
def SqL(K:Frag)(H:Hp)(a:Addr)(xs:List V):Prop:=
 Rd H a (.lst xs)∨
  ∃(o:Obj)(its:Array Value)(n:Nat),K.lookup a=some o∧o.cls= .type "list" ∧o.dict=none∧o.data= .seq its n∧its.size≤sizeLine∧cf xs its.toList
def SqT(K:Frag)(H:Hp)(a:Addr)(xs:List V):Prop:=
 Rd H a (.tup xs)∨
  ∃(o:Obj)(its:Array Value)(n:Nat),K.lookup a=some o∧o.cls= .type "tuple" ∧o.data= .seq its n∧its.size≤sizeLine∧cf xs its.toList
noncomputable def sw:Value→Option V
 | .none=>some .non
 | .bool b=>some (.bl b)
 | .int i _=>some (.int i)
 | .str x _=>some (.str x)
 | .bytes b _=>some (.byt b)
 | .float b _=>some (.flt b)
 | .ref a=>some (.ref a)
 | .type n=>some (.ty n)
 |_=>none
theorem cu.abs{x:V}{u:Value}(r:cu x u):sw u=some x:=by
 cases x with
 |non=>cases r;rfl
 |bl _=>cases r;rfl
 |int _=>obtain⟨t,rfl⟩:=r;rfl
 |str _=>obtain⟨t,rfl⟩:=r;rfl
 |byt _=>obtain⟨t,rfl⟩:=r;rfl
 |flt _=>obtain⟨t,rfl⟩:=r;rfl
 |ref _=>cases r;rfl
 |ty _=>cases r;rfl
theorem cu.inj{x y:V}{u:Value}(r:cu x u)(q:cu y u):x=y:=Qk (r.abs.symm.trans q.abs)
theorem cf.inj:∀{xs ys:List V}{us:List Value},cf xs us→cf ys us→xs=ys
 |_,_,_,.nil,.nil=>rfl
 |_,_,_,.cons r t,.cons cz t'=>by rw[r.inj cz,cf.inj t t']
section
variable {X:Cx}{aU:List (Addr×Obj)}{aM:St}{H:Hp}{s:Shared}{a:Addr}{xs ys:List V}
theorem SqL.of{K:Frag}(h:H a=some (.lst xs)):SqL K H a xs:= .inl (.inl h)
theorem SqT.of{K:Frag}(h:H a=some (.tup xs)):SqT K H a xs:= .inl (.inl h)
theorem Inv.list(I:Inv X aU aM H s)(h:SqL X.K H a xs):∃its:List Value,cf xs its∧PlainL s.heap a its.toArray∧xs.length≤sizeLine:=by
 rcases h with h|⟨o,its,n,bY,bH,hd,bN,cd,r⟩
 ·obtain⟨z,its,n,r,e⟩:=h.ok I.hok;exact⟨its,r,⟨_,n,e,rfl,rfl,rfl⟩,z⟩
 ·refine⟨its.toList,r,⟨o,n,I.kIn a o bY,bH,hd,by simpa using bN⟩,?_⟩;have e:=r.length;simp only[QW] at e;omega
theorem Inv.tuple(I:Inv X aU aM H s)(h:SqT X.K H a xs):∃its:List Value,cf xs its∧IsTup s.heap a its.toArray∧xs.length≤sizeLine:=by
 rcases h with h|⟨o,its,n,bY,bH,bN,cd,r⟩
 ·obtain⟨z,its,r,p⟩:=h.ok I.hok;exact⟨its,r,p,z⟩
 ·refine⟨its.toList,r,⟨o,I.kIn a o bY,bH,n,by simpa using bN⟩,?_⟩;have e:=r.length;simp only[QW] at e;omega
theorem Inv.list_inj(I:Inv X aU aM H s)(h:SqL X.K H a xs)(h':SqL X.K H a ys):xs=ys:=by
 obtain⟨its,r,⟨o,n,e,_,_,d⟩,_⟩:=I.list h;obtain⟨its',cz,⟨o',eJ,b6,_,_,d'⟩,_⟩:=I.list h';rw[e] at b6;cases b6;rw[d] at d'
 injection d' with d1 _
 have:its=its':=by simpa using congrArg Array.toList d1
 subst this;exact r.inj cz
end
section
variable {X:Cx}{aU:List (Addr×Obj)}{aM:St}{H:Hp}{s:Shared}{E:Value→Shared→Prop}
end
section
variable {X:Cx}{st:Stmt}{rest:List Stmt}{t u:TS}{e:Expr}{cn:TE}{pos:Pos}
noncomputable def tNext:TS:=λD aM H=>D.nx aM H
noncomputable def o2 (t u:TS):TS:=λD aM H=>t {D with nx:=u D} aM H
theorem dn:PSs X [] tNext:=λ_ _ aM H _ I h=>wpAny_execs_nil ⟨aM,H,I,h⟩
theorem ce(a_:PS X st t)(bd:PSs X rest u):PSs X (st::rest) (o2 t u):=by
 intro aU s aM H D I h;refine wpAny_execs_cons (thn (a_ aU s aM H {D with nx:=u D} I h) λf bj q=>?_);cases f with
 |next=>
  obtain⟨b0,aS,dv,q⟩:=q;exact bd aU bj b0 aS D dv q
 |ret v=>exact q
 |brk=>exact q
 |cont=>exact q
theorem b'(a_:PS X st t):PSs X [st] t:=by
 intro aU s aM H D I h;refine wpAny_execs_cons (thn (a_ aU s aM H D I h) λf bj q=>?_);cases f with
 |next=>exact wpAny_execs_nil q
 |ret v=>exact q
 |brk=>exact q
 |cont=>exact q
theorem Inv.quiet{aU:List (Addr×Obj)}{aM:St}{H:Hp}{s:Shared}(I:Inv X aU aM H s):interactive X.env=false:=by simp[interactive,I.ok.kind]
noncomputable def o3 (cn:TE):TS:=λD aM H=>cn aM H λ_ a1=>D.nx aM a1
theorem dS(b_:PE X e cn)(bN:swapsWith e none pos.line X.env=pure false:=by rfl):PS X (.Expr e pos) (o3 cn):=by
 intro aU s aM H D I h;exact wpAny_Expr_any (thn (b_ aU s aM H _ I h) λv bj ⟨x,a1,bU,cr,ck⟩=>⟨aM,a1,bU,ck⟩) I.quiet bN
noncomputable def o4 (cn:TE):TS:=λD aM H=>cn aM H D.rt
theorem cP(b_:PE X e cn):PS X (.Return (some e) pos) (o4 cn):=by
 intro aU s aM H D I h;exact wpAny_Return_some (thn (b_ aU s aM H _ I h) λv bj ⟨x,a1,bU,cr,ck⟩=>⟨x,aM,a1,bU,cr,ck⟩)
noncomputable def o5 (c:TT) (t u:TS):TS:=λD aM H=>c aM H λb a1=>if b=true then t D aM a1 else u D aM a1
theorem c4{c:Expr}{a b:List Stmt}{cV:TT}(bH:PT X c cV)(bK:PSs X a t)(a6:PSs X b u):PS X (.If c a b pos) (o5 cV t u):=by
 intro aU s aM H D I h;refine wpAny_If (thn (bH aU s aM H _ I h) λd bj ⟨a1,bU,ck⟩=>?_);cases d with
 |true=>exact bK aU bj aM a1 D bU ck
 |false=>exact a6 aU bj aM a1 D bU ck
end
noncomputable abbrev TG:=V→St→Hp→(St→Hp→Prop)→Prop
noncomputable abbrev TGs:=List V→St→Hp→(St→Hp→Prop)→Prop
def PG(X:Cx)(target:Expr)(t:TG):Prop:=
 ∀(aU:List (Addr×Obj))(s:Shared)(aM:St)(H:Hp)(v:V)(u:Value)(Q:St→Hp→Prop),Inv X aU aM H s→cu v u→t v aM H Q→
  wpAny (model X.prog X.w) X.A (assign target X.env u) (λ_ s'=>∃b0 aS,Inv X aU b0 aS s'∧Q b0 aS) X.xe s
def PGs(X:Cx)(d6:List Expr)(t:TGs):Prop:=
 ∀(aU:List (Addr×Obj))(s:Shared)(aM:St)(H:Hp)(vs:List V)(us:List Value)(Q:St→Hp→Prop),Inv X aU aM H s→cf vs us→t vs aM H Q→
  wpAny (model X.prog X.w) X.A (assignInOrder ((assignEach d6 X.env).map (·.2)) us) (λ_ s'=>∃b0 aS,Inv X aU b0 aS s'∧Q b0 aS) X.xe s
noncomputable abbrev Zcc:=V→V→V→Hp→(Hp→Prop)→Prop
def Zdo(X:Cx)(t:Zcc):Prop:=
 ∀(aU:List (Addr×Obj))(s:Shared)(aM:St)(H:Hp)(o i v:V)(dw gR u:Value)(Q:Hp→Prop),Inv X aU aM H s→cu o dw→cu i gR→cu v u→t o i v H Q→
  wpAny (model X.prog X.w) X.A (setItem dw gR u) (λ_ s'=>∃aS,Inv X aU aM aS s'∧Q aS) X.xe s
section
variable {X:Cx}{pos:Pos}
noncomputable def WM (i:Nat):TG:=λv aM H Q=>Q (aM.set i (some v)) H
theorem fh{i:Nat}{x:Str}(dZ:X.N.Nodup)(bb:X.N[i]? =some x)(bc:Loc X.env.scope x)(cj:X.fn x=true∨X.env.scope.names.lookup x=some .local:=by first|exact .inl rfl|exact .inr rfl|assumption):PG X (.Name x pos) (WM i):=by
 intro aU s aM H v u Q I r h;exact wpAny_assign_Name (li I dZ bb bc r (λs' dv=>⟨_,H,dv,h⟩) cj)
noncomputable def gNil:TGs:=λvs aM H Q=>vs=[]∧Q aM H
noncomputable def o6 (t:TG) (u:TGs):TGs:=λvs aM H Q=>∃v r,vs=v::r∧t v aM H λb0 aS=>u r b0 aS Q
theorem mi:PGs X [] gNil:=by
 intro aU s aM H vs us Q I r h;obtain⟨e,h⟩:=h;subst e;cases r;exact assignInOrder_nil ⟨aM,H,I,h⟩
theorem ja{e:Expr}{bS:List Expr}{t:TG}{u:TGs}(a_:PG X e t)(bd:PGs X bS u)
  (bN:(assignEach (e::bS) X.env).map (·.2)=assign e X.env::(assignEach bS X.env).map (·.2):=by rfl):PGs X (e::bS) (o6 t u):=by
 intro aU s aM H vs us Q I r h;obtain⟨v,zL,b2,h⟩:=h;subst b2;cases r with
 |cons r hh=>
  rw[bN];refine assignInOrder_cons (thn (a_ aU s aM H _ _ _ I r h) λ_ bj ⟨sx,a1,bU,ck⟩=>?_);exact bd aU bj sx a1 _ _ Q bU hh ck
noncomputable def mj (K:Frag) (n:Nat) (t:TGs):TG:=λv aM H Q=>∃a xs,v= .ref a∧SqT K H a xs∧xs.length=n∧t xs aM H Q
theorem ZfD{bS:List Expr}{k:Nat}{t:TGs}{n:Nat}(bH:X.calm=true)(h:PGs X bS t)
  (bM:(assignEach bS X.env).length=n:=by rfl) (eZ:(assignEach bS X.env).findIdx? (·.1)=none:=by rfl):PG X (.Tuple bS k pos) (mj X.K n t):=by
 intro aU s aM H v u Q I r hw;obtain⟨a,xs,b2,b7,hl,hw⟩:=hw;subst b2;cases r;obtain⟨its,c7,cL,cd⟩:=I.tuple b7;refine assign_Tuple_tuple (I.ok.hd bH) cL (by simp[bM,←hl,c7.length]) eZ λh' bc=>?_;have bU:Inv X aU aM H {s with heap:=h'}:=I.kept (t':=s.toks) λb o e=>bc b o (Ql (Heap.lt_size e)) e;exact h aU _ aM H xs _ Q bU (by simpa using c7) hw
noncomputable def o7 (to gS:TE) (t:Zcc):TG:=λv aM H Q=>to aM H λo a1=>gS aM a1 λi a8=>t o i v a8 λb1=>Q aM b1
theorem o8{o i:Expr}{to gS:TE}{t:Zcc}(bW:PE X o to)(bb:PE X i gS)(bN:Zdo X t)
  (bK:∀v,assign (.Subscript o i pos) X.env v=(do
   let dw←holding [v] (eval o X.env)
   let gR←holding [v,dw] (eval i X.env)
   standAt pos
   holding [v,dw,gR] (setItem dw gR v)
   release [v,dw,gR] []):=by intro _;rfl):PG X (.Subscript o i pos) (o7 to gS t):=by
 intro aU s aM H v u Q I r h;rw[bK];refine wpAny_bind (wpAny_holding (thn (bW aU s aM H _ I h) λdw bj ⟨x,a1,bU,cr,ck⟩=>?_));refine wpAny_bind (wpAny_holding (thn (bb aU bj aM a1 _ bU ck) λgR bQ ⟨y,a8,cF,cM,cv⟩=>?_));refine wpAny_bind (wpAny_standAt (wpAny_bind (wpAny_holding (thn (bN aU bQ aM a8 x y v dw gR u _ cF cr cM r cv) λ_ bV ⟨b1,dA,d2⟩=>?_))));exact wpAny_release ⟨aM,b1,dA,d2⟩
noncomputable def lm (cn:TE) (g:TG):TS:=λD aM H=>cn aM H λx a1=>g x aM a1 D.nx
theorem o9{cS e:Expr}{cn:TE}{g:TG}(b_:PE X e cn)(cs:PG X cS g)(bN:swapsWithSole [cS] e pos.line X.env=pure false:=by rfl)(hw:swappedStores [cS] e X.env=pure none:=by rfl)
  (a_:(assignEach [cS] X.env).map (·.2)=[assign cS X.env]:=by rfl):PS X (.Assign [cS] e pos) (lm cn g):=by
 intro aU s aM H D I h;refine wpAny_Assign_stores (thn (b_ aU s aM H _ I h) λv bj ⟨x,a1,bU,cr,ck⟩=>?_) bN hw;rw[a_];exact thn (cs aU bj aM a1 x v _ bU cr ck) λ_ bQ q=>q
theorem d7{i:Nat}{x:Str}{e:Expr}{cn:TE}{hi:Pos}(dZ:X.N.Nodup)(bb:X.N[i]? =some x)(bc:Loc X.env.scope x)(b_:PE X e cn)(bN:swapsWith e (some (.Name x hi)) pos.line X.env=pure false:=by rfl)(cj:X.fn x=true∨X.env.scope.names.lookup x=some .local:=by first|exact .inl rfl|exact .inr rfl|assumption):
  PS X (.Assign [.Name x hi] e pos) (lm cn (WM i)):=by
 intro aU s aM H D I h;refine wpAny_Assign_Name (thn (b_ aU s aM H _ I h) λv bj ⟨y,a1,bU,cr,ck⟩=>?_) bN;exact li bU dZ bb bc cr (λbQ cF=>⟨_,a1,cF,ck⟩) cj
end
section
variable {X:Cx}{pos:Pos}
end
structure It where
 go:Nat→Hp→Prop
 yld:Nat→Hp→V→Hp→Prop
 stop:Nat→Hp→Prop
def e8(X:Cx)(aU:List (Addr×Obj))(H:Hp)(b:Addr):Prop:=
 H b=none∧b≠X.env.locals∧b∉X.fs∧(b∈X.ex∨X.s₀.heap.objs.size≤b)∧(∀x c,X.env.cells.lookup x=some c→c≠b)∧∀p∈X.pn++aU,p.1≠b
theorem Inv.fpOk{X:Cx}{aU:List (Addr×Obj)}{aM:St}{H aS:Hp}{s:Shared}{b:Addr}(I:Inv X aU aM H s)(a6:s.heap.objs.size≤b)(bM:aS b=none):e8 X aU aS b:=by
 refine⟨bM,Nat.ne_of_gt (Qi I.lt a6),I.nofs a6,.inr (Qn I.sz a6),λx c e z=>?_,λp b3 z=>?_⟩
 ·obtain⟨v,q⟩:=I.cell x c e;exact absurd (Qi q.lt (by rw[z];exact a6)) (QF _)
 ·exact absurd (Qi (Heap.lt_size (I.pin p b3).1) (by rw[z];exact a6)) (QF _)
structure UN(P:Program)(w:World)(K:Frag)(cS:Expr)(J:It)(fp:List Addr)(it:Addr)(dR:Nat→Heap→Prop):Prop where
 mem:it∈fp
 obj:∀i h,dR i h→∀b∈fp,∃o,h.get? b=some o∧∀v,o.data≠ .cell v
 keep:∀i h h',dR i h→(∀b∈fp,∀o,h.get? b=some o→h'.get? b=some o)→dR i h'
 item:∀(X:Cx),X.prog=P→X.w=w→X.K=K→X.calm=true→∀(i:Nat)(aU:List (Addr×Obj))(s:Shared)(aM:St)(H:Hp)(E:Value→Shared→Prop),Inv X aU aM H s→(∀b∈fp,e8 X aU H b)→dR i s.heap→J.go i H→
  wpAny (model P w) X.A (pyNext (.ref it)) (λr bj=>∃u,r=some u∧
   wpAny (model P w) X.A (letOwnedTupleGo cS (.ref it) u) (λ_ bQ=>∃x aS,Inv X aU aM aS bQ∧cu x u∧J.yld i H x aS∧dR (i+1) bQ.heap∧∀b∈fp,aS b=none) E bj) E s
 done:∀(X:Cx),X.prog=P→X.w=w→X.K=K→X.calm=true→∀(i:Nat)(aU:List (Addr×Obj))(s:Shared)(aM:St)(H:Hp)(E:Value→Shared→Prop),Inv X aU aM H s→(∀b∈fp,e8 X aU H b)→dR i s.heap→J.stop i H→
  wpAny (model P w) X.A (pyNext (.ref it)) (λr bj=>r=none∧Inv X aU aM H bj) E s
 self:∀(A:Around)(i:Nat)(s:Shared)(Q:Value→Shared→Prop)(E:Value→Shared→Prop),dR i s.heap→Q (.ref it) s→wpAny (model P w) A (pyIter (.ref it)) Q E s
noncomputable abbrev TI:=St→Hp→(It→Hp→Prop)→Prop
def PIE(X:Cx)(aU:List (Addr×Obj))(aM:St)(cS:Expr)(R:It→Hp→Prop)(j1:Value)(bQ:Shared):Prop:=
 ∃(it:Addr)(fp:List Addr)(dR:Nat→Heap→Prop)(J:It)(aS:Hp),j1= .ref it∧Inv X aU aM aS bQ∧UN X.prog X.w X.K cS J fp it dR∧dR 0 bQ.heap∧(∀b∈fp,e8 X aU aS b)∧R J aS
def PI(X:Cx)(cS dO:Expr)(dI:TI):Prop:=
 ∀(aU:List (Addr×Obj))(s:Shared)(aM:St)(H:Hp)(R:It→Hp→Prop),Inv X aU aM H s→dI aM H R→
  wpAny (model X.prog X.w) X.A (eval dO X.env) (λv bj=>wpAny (model X.prog X.w) X.A (pyIter v) (PIE X aU aM cS R) X.xe bj) X.xe s
theorem o_{M:Model}{A:Around}{E:Value→Shared→Prop}{s:Shared}{cS:Expr}{it:Addr}{u:Value}{o:Obj}{n:String}{vs:Array Value}{Q:Unit→Shared→Prop}(bW:s.heap.get? it=some o)(bH:o.cls= .type n)(hd:o.data= .fields vs)
  (bM:["enumerate","zip","dict_itemiterator","dict_reverseitemiterator","odict_iterator","itertools.zip_longest","itertools.pairwise"].contains n=false) (gQ:Q () s):wpAny M A (letOwnedTupleGo cS (.ref it) u) Q E s:=by
 unfold letOwnedTupleGo;cases cS<;>first
  |exact wpAny_pure gQ
  |(cases u<;>first
    |exact wpAny_pure gQ
    |(refine wpAny_bind (wpAny_load bW ?_)
      rw[bH,hd];show wpAny M A (if(["enumerate","zip","dict_itemiterator","dict_reverseitemiterator","odict_iterator","itertools.zip_longest","itertools.pairwise"].contains n&&vs[0]? ==some (rawInt _))=true then _ else _) Q E s;rw[if_neg (by intro h;rw[bM,Bool.false_and] at h;cases h)];exact wpAny_pure gQ))
noncomputable def Itr (lo:Int) (n:Nat):It:=⟨λi _=>i<n,λi H x aS=>aS=H∧x= .int (lo+i),λi _=>n≤i⟩
theorem sy{P:Program}{w:World}{K:Frag}{cS:Expr}(it:Addr)(lo:Int)(n:Nat):UN P w K cS (Itr lo n) [it] it (λi h=>IsRangeIter h it (lo+(i:Nat)*1) ((n:Int)-(i:Nat)) 1) where
 mem:=by simp
 obj:=λi h st b a6=>by
  have e:b=it:=by simpa using a6
  subst e;exact⟨_,st,λv z=>by
   have eu:Data.fields _=Data.cell v:=z;cases eu⟩
 keep:=λi h h' st k=>k it (by simp) _ st
 item:=by
  intro X hP hw hK bH i aU s aM H E I cj st cs;subst hP hw hK;obtain⟨eK,f1,f2,dt,ev,eL⟩:=cj it (by simp);have W:=Walks.range (prog:=X.prog) (w:=X.w) (I.ok.hd bH) it lo 1 n;refine W.item i s _ _ cs st λv h' cW b8 j2 ml=>?_;obtain⟨t,rfl⟩:=b8;have bU:Inv X aU aM H {s with heap:=h',toks:=cW}:=I.turned (λb o a6 e=>ml b o (by simpa using a6) e) eK f1 dt ev eL;refine⟨_,rfl,o_ (s:={s with heap:=h',toks:=cW}) (n:="range_iterator") j2 rfl rfl (by decide) ⟨.int (lo+i),H,bU,⟨t,?_⟩,⟨rfl,rfl⟩,j2,λb a6=>(cj b a6).1⟩⟩;rw[Int.mul_one]
 done:=by
  intro X hP hw hK bH i aU s aM H E I cj st cs;subst hP hw hK;obtain⟨eK,f1,f2,dt,ev,eL⟩:=cj it (by simp);exact wpAny_pyNext_range_end (I.ok.hd bH) st (by have:n≤i:=cs;omega) λh' fi=>⟨rfl,I.turned (t':=s.toks) (λb o a6 e=>fi b o a6 e) eK f1 dt ev eL⟩
 self:=λ_ _ _ _ _ st h=>wpAny_pyIter_rangeiter st h
section
variable {X:Cx}{cS:Expr}
theorem pa{aU:List (Addr×Obj)}{aM:St}{H:Hp}{s:Shared}{R:It→Hp→Prop}{E:Value→Shared→Prop}{lo bb:Int}{t u v:Tok}{cW:Nat}(I:Inv X aU aM H s)(a_: -(2 ^ 62)≤lo)(bd:lo<2 ^ 62)(cx: -(2 ^ 62)≤bb)(cG:bb<2 ^ 62)
  (q:R (Itr lo (bb-lo).toNat) H):wpAny (model X.prog X.w) X.A (pyIter (.ref s.heap.objs.size)) (PIE X aU aM cS R) E {s with heap:=s.heap.push {cls:= .type "range",data:= .fields #[.int lo t,.int bb u,.int 1 v]},toks:=cW}:=by
 refine wpAny_pyIter_range (IsRange.new ..) (small_one a_ bd cx cG) ?_;have bU:Inv X aU aM H {s with heap:=s.heap.push {cls:= .type "range",data:= .fields #[.int lo t,.int bb u,.int 1 v]},toks:=cW}:=I.kept λb o e=>Heap.get?_push_of_some _ e;refine⟨(s.heap.push {cls:= .type "range",data:= .fields #[.int lo t,.int bb u,.int 1 v]}).objs.size,[(s.heap.push {cls:= .type "range",data:= .fields #[.int lo t,.int bb u,.int 1 v]}).objs.size],_,_,H,rfl,
  bU.kept (t':=cW) λb o e=>Heap.get?_push_of_some _ e,sy _ lo (bb-lo).toNat,?_,λb a6=>?_,q⟩
 ·have b2:lo+((0:Nat):Int)*1=lo:=by simp
  have ci:(((bb-lo).toNat:Nat):Int)-((0:Nat):Int)=Builtin.Range.rangeSize lo bb 1:=by rw[rangeSize_one];split<;>omega
  show IsRangeIter _ _ (lo+((0:Nat):Int)*1) ((((bb-lo).toNat:Nat):Int)-((0:Nat):Int)) 1;rw[b2,ci];exact Heap.get?_push_size _ rfl
 ·have e:b=(s.heap.push {cls:= .type "range",data:= .fields #[.int lo t,.int bb u,.int 1 v]}).objs.size:=by simpa using a6
  subst e;exact bU.fpOk (Qc _) (bU.hok.fresh (Qc _))
noncomputable def pb (bO:TA):TI:=λaM H R=>bO aM H λvs a1=>∃j:Int,vs=[.int j]∧ -(2 ^ 62)≤j∧j<2 ^ 62∧R (Itr 0 j.toNat) a1
noncomputable def pc (bO:TA):TI:=λaM H R=>bO aM H λvs a1=>∃i j:Int,vs=[.int i,.int j]∧(-(2 ^ 62)≤i∧i<2 ^ 62∧ -(2 ^ 62)≤j∧j<2 ^ 62)∧R (Itr i (j-i).toNat) a1
theorem jb{a:Expr}{bO:TA}{p pos:Pos}(cs:Gl X "range")(bZ:X.mg "range" =none)(bK:PA X [a] bO)(bN:starEach [a] X.env=[(false,eval a X.env)]:=by rfl):PI X cS (.Call (.Name "range" p) [a] [] pos) (pb bO):=by
 intro aU s aM H R I h;refine Call_ (i_ I cs bZ boot_range (QL (thn (bK pos aU s aM H _ I h) λus bj ⟨vs,a1,bU,cr,ck⟩=>?_) bN rfl));obtain⟨j,e,ck,cv,q⟩:=ck;subst e;cases cr with
 |cons r hh=>
  cases hh;obtain⟨t,rfl⟩:=r;exact call_range_1 (pa bU (by omega) (by omega) ck cv (by simpa using q))
theorem pd{a b:Expr}{bO:TA}{p pos:Pos}(cs:Gl X "range")(bZ:X.mg "range" =none)(bK:PA X [a,b] bO)(bN:starEach [a,b] X.env=[(false,eval a X.env),(false,eval b X.env)]:=by rfl)(gT:starEach [b] X.env=[(false,eval b X.env)]:=by rfl):
  PI X cS (.Call (.Name "range" p) [a,b] [] pos) (pc bO):=by
 intro aU s aM H R I h;refine Call_ (i_ I cs bZ boot_range (QL (thn (bK pos aU s aM H _ I h) λus bj ⟨vs,a1,bU,cr,ck⟩=>?_) (by rw[bN,gT]) (by rw[gT];rfl)));obtain⟨i,j,e,⟨ck,cv,d2,fX⟩,q⟩:=ck;subst e;cases cr with
 |cons r hh=>
  cases hh with
  |cons cz hh=>
   cases hh;obtain⟨t,rfl⟩:=r;obtain⟨t',rfl⟩:=cz;exact call_range_2 (pa bU ck cv d2 fX q)
noncomputable def pe (dI:TI) (g:TG) (cp:TS):TS:=λD aM H=>dI aM H λJ a1=>∃W:Nat→Nat→St→Hp→Prop,(∃m,W 0 m aM a1)∧∀i m aM H,W i m aM H→
 (J.stop i H∧D.nx aM H)∨(J.go i H∧∃N:St→Hp→Prop,(∀b0 aS,N b0 aS→∃cq,cq<m∧W (i+1) cq b0 aS)∧∀x aS,J.yld i H x aS→g x aM aS λcc a8=>cp {D with nx:=N,ct:=N,bk:=D.nx} cc a8)
noncomputable def WG (fp:List Addr) (h:Heap):List (Addr×Obj):=fp.filterMap λb=>(h.get? b).map λo=>(b,o)
theorem jc{fp:List Addr}{h:Heap}{b:Addr}{o:Obj}(a6:b∈fp)(e:h.get? b=some o):(b,o)∈WG fp h:=QS.mpr ⟨b,a6,by rw[e];rfl⟩
theorem Zc5{fp:List Addr}{h:Heap}{p:Addr×Obj}(b3:p∈WG fp h):p.1∈fp∧h.get? p.1=some p.2:=by
 obtain⟨b,a6,e⟩:=QS.mp b3;cases q:h.get? b with
 |none=>rw[q] at e;cases e
 |some o=>
  rw[q] at e;have b6:(b,o)=p:=Qk e;subst b6;exact⟨a6,q⟩
theorem Inv.pinned{aU:List (Addr×Obj)}{aM:St}{H:Hp}{s:Shared}{fp:List Addr}(I:Inv X aU aM H s)(cj:∀b∈fp,e8 X aU H b)(bW:∀b∈fp,∃o,s.heap.get? b=some o∧∀v,o.data≠ .cell v):Inv X (aU++WG fp s.heap) aM H s:=
 I.pins_of λp b3=>(Q0.mp b3).elim (λz=>I.pin p (Qh _ z)) λz=>by
  obtain⟨a6,e⟩:=Zc5 z;obtain⟨eK,f1,f2,_⟩:=cj p.1 a6;obtain⟨o,b6,d⟩:=bW p.1 a6;rw[e] at b6;cases b6;exact⟨e,eK,f1,f2,d⟩
theorem Inv.unpinned{aU pl:List (Addr×Obj)}{aM:St}{H:Hp}{s:Shared}(I:Inv X (aU++pl) aM H s):Inv X aU aM H s:=I.pins_of λp b3=>I.pin p (Qh _ (QU _ b3))
theorem ii{dO:Expr}{body:List Stmt}{dI:TI}{g:TG}{cp:TS}{pos:Pos}(b3:PassesOwn (model X.prog X.w) X.A X.env X.xe)(bH:X.calm=true)(bb:PI X cS dO dI)(cs:PG X cS g)(a6:PSs X body cp)
  (bN:∀x,foldedSetIterable dO X.env x=pure x:=by intro _;rfl):PS X (.For cS dO body [] pos) (pe dI g cp):=by
 intro aU s aM H D I h;refine wpAny_For (thn (bb aU s aM H _ I h) λv bj a_=>thn a_ λj1 bQ bd=>?_) bN;obtain⟨it,fp,dR,J,a8,e,cF,T,ij,f2,W,⟨fY,gi⟩,turn⟩:=bd;subst e;have mm:∀{aS:Hp},(∀b∈fp,aS b=none)→∀b∈fp,e8 X aU aS b:=λbM b a6=>⟨bM b a6,(f2 b a6).2⟩;refine codeAny_forLoop_any (λn s'=>∃i b0 aS,Inv X aU b0 aS s'∧dR i s'.heap∧(∀b∈fp,aS b=none)∧W i n b0 aS) ?_ fY ⟨0,aM,a8,cF,ij,λb a6=>(f2 b a6).1,gi⟩;rintro n bV ⟨i,j3,b1,dA,hQ,jd,mn⟩;rcases turn i n j3 b1 mn with⟨stop,ik⟩|⟨go,N,dZ,step⟩
 ·refine wpAny_passesOwn b3 (thn (T.done X rfl rfl rfl bH i aU bV j3 b1 X.xe dA (mm jd) hQ stop) λr c5 ⟨a',hj⟩=>?_);subst a';exact wpAny_execs_nil ⟨j3,b1,hj,ik⟩
 ·refine wpAny_passesOwn b3 (thn (T.item X rfl rfl rfl bH i aU bV j3 b1 X.xe dA (mm jd) hQ go) λr c5 ⟨u,a',cG⟩=>?_);subst a';refine wpAny_passesOwn b3 (thn cG λ_ cK ⟨x,b9,fx,il,sA,hk,im⟩=>?_);have sB:=fx.pinned (mm im) (T.obj _ _ hk);refine wpAny_passesOwn b3 (thn (cs _ cK j3 b9 x u _ sB il (step x b9 sA)) λ_ dq ⟨sC,ec,eS,mo⟩=>?_);refine wpAny_passesOwn b3 (thn (a6 _ dq sC ec _ eS mo) λf d3 hR=>?_);have again:∀{gj:St}{c':Hp},Inv X (aU++WG fp cK.heap) gj c' d3→N gj c'→∃m,m<n∧∃i b0 aS,Inv X aU b0 aS d3∧dR i d3.heap∧(∀b∈fp,aS b=none)∧W i m b0 aS:=λ{gj c'} e9 j4=>by
   obtain⟨cq,bZ,mq⟩:=dZ gj c' j4;refine⟨cq,bZ,i+1,gj,c',e9.unpinned,T.keep _ _ _ hk λb a6 o e=>(e9.pin (b,o) (Qh _ (Qh _ (jc a6 e)))).1,λb a6=>?_,mq⟩;obtain⟨o,e,d⟩:=T.obj _ _ hk b a6;exact(e9.pin (b,o) (Qh _ (Qh _ (jc a6 e)))).2.1
  cases f with
  |next=>obtain⟨gj,c',e9,j4⟩:=hR;exact again e9 j4
  |cont=>obtain⟨gj,c',e9,j4⟩:=hR;exact again e9 j4
  |brk=>obtain⟨gj,c',e9,hR⟩:=hR;exact⟨gj,c',e9.unpinned,hR⟩
  |ret v=>obtain⟨x7,gj,c',e9,j5,hR⟩:=hR;exact⟨x7,gj,c',e9.unpinned,j5,hR⟩
end
theorem YI{lo:Int}{n:Nat}{g:TG}{cp:TS}{D:YS}{aM:St}{H:Hp}(Pv:Nat→St→Hp→Prop)(du:Pv 0 aM H)
  (bN:∀i aM H,i<n→Pv i aM H→g (.int (lo+i)) aM H λcc a8=>cp {D with nx:=Pv (i+1),ct:=Pv (i+1),bk:=D.nx} cc a8) (hd:∀aM H,Pv n aM H→D.nx aM H):
  ∃W:Nat→Nat→St→Hp→Prop,(∃m,W 0 m aM H)∧∀i m aM H,W i m aM H→
   ((Itr lo n).stop i H∧D.nx aM H)∨((Itr lo n).go i H∧∃N:St→Hp→Prop,(∀b0 aS,N b0 aS→∃cq,cq<m∧W (i+1) cq b0 aS)∧∀x aS,(Itr lo n).yld i H x aS→g x aM aS λcc a8=>cp {D with nx:=N,ct:=N,bk:=D.nx} cc a8):=by
 refine⟨λi m aM H=>m=n-i∧i≤n∧Pv i aM H,⟨n,by simp,Qy _,du⟩,?_⟩;rintro i m aM H ⟨rfl,bb,p⟩
 by_cases d8:i<n
 ·refine .inr ⟨d8,Pv (i+1),λb0 aS hS=>⟨n-(i+1),by omega,rfl,d8,hS⟩,λx aS y=>?_⟩;obtain⟨e,y⟩:=y;subst e y;exact bN i aM _ d8 p
 ·have e:i=n:=by omega
  subst e;exact .inl ⟨Qc _,hd aM H p⟩
noncomputable abbrev R2:=V→V→Hp→VK→Prop
def OpR(X:Cx)(f:Value→Value→Sem Value)(r:R2):Prop:=
 ∀(aU:List (Addr×Obj))(s:Shared)(aM:St)(H:Hp)(x y:V)(v u:Value)(Q:VK),Inv X aU aM H s→cu x v→cu y u→r x y H Q→
  wpAny (model X.prog X.w) X.A (f v u) (EP X aU aM Q) X.xe s
def UnR(X:Cx)(f:Value→Sem Value)(r:V→Hp→VK→Prop):Prop:=
 ∀(aU:List (Addr×Obj))(s:Shared)(aM:St)(H:Hp)(x:V)(v:Value)(Q:VK),Inv X aU aM H s→cu x v→r x H Q→
  wpAny (model X.prog X.w) X.A (f v) (EP X aU aM Q) X.xe s
def Yc(X:Cx)(f:Value)(r:List V→Hp→VK→Prop):Prop:=
 ∀(aU:List (Addr×Obj))(s:Shared)(aM:St)(H:Hp)(xs:List V)(us:List Value)(Q:VK),Inv X aU aM H s→cf xs us→r xs H Q→
  wpAny (model X.prog X.w) X.A (call f us) (EP X aU aM Q) X.xe s
def Zhl(X:Cx)(r:V→Hp→(Bool→Hp→Prop)→Prop):Prop:=
 ∀(aU:List (Addr×Obj))(s:Shared)(aM:St)(H:Hp)(x:V)(v:Value)(Q:Bool→Hp→Prop),Inv X aU aM H s→cu x v→r x H Q→
  wpAny (model X.prog X.w) X.A (truthy v) (TP X aU aM Q) X.xe s
noncomputable def tOp (r:R2) (bO cp:TE):TE:=λaM H Q=>bO aM H λx a1=>cp aM a1 λy a8=>r x y a8 Q
noncomputable def tUn (r:V→Hp→VK→Prop) (bO:TE):TE:=λaM H Q=>bO aM H λx a1=>r x a1 Q
noncomputable def rI (C:Int→Int→Prop) (g:Int→Int→V):R2:=λx y H Q=>∃i j,x= .int i∧y= .int j∧C i j∧Q (g i j) H
noncomputable def rI0 (g:Int→Int→V):R2:=λx y H Q=>∃i j,x= .int i∧y= .int j∧Q (g i j) H
noncomputable def rU (g:Int→V):V→Hp→VK→Prop:=λx H Q=>∃i,x= .int i∧Q (g i) H
section
variable {X:Cx}{a b c:Expr}{bO cp cV:TE}{pos:Pos}
theorem ms(bK:PE X a bO)(a6:PE X b cp){aU:List (Addr×Obj)}{s:Shared}{aM:St}{H:Hp}{R:V→V→Hp→Prop}(I:Inv X aU aM H s)
  (h:bO aM H λx a1=>cp aM a1 λy a8=>R x y a8) {Q:Value→Shared→Prop} {f:Value→Value→Sem Value}
  (cj:∀v u bQ x y a8,Inv X aU aM a8 bQ→cu x v→cu y u→R x y a8→wpAny (model X.prog X.w) X.A (f v u) Q X.xe bQ):
  wpAny (model X.prog X.w) X.A (eval a X.env) (λv cX=>wpAny (model X.prog X.w) X.A (eval b X.env) (λu hN=>wpAny (model X.prog X.w) X.A (f v u) Q X.xe hN) X.xe cX) X.xe s:=by
 refine thn (bK aU s aM H _ I h) λv bj ⟨x,a1,bU,cr,ck⟩=>?_;refine thn (a6 aU bj aM a1 _ bU ck) λu bQ ⟨y,a8,cF,cM,cv⟩=>?_;exact cj v u bQ x y a8 cF cr cM cv
theorem b4{op:Operator}{r:R2}(bW:OpR X (binaryOp op) r)(bK:PE X a bO)(a6:PE X b cp):PE X (.BinOp a op b pos) (tOp r bO cp):=by
 intro aU s aM H Q I h;exact wpAny_BinOp (ms bK a6 I h λv u bQ x y a8 cF bL bX q=>bW aU bQ aM a8 x y v u Q cF bL bX q)
theorem gU{op:UnaryOp}{r:V→Hp→VK→Prop}(bW:UnR X (unaryOp op) r)(bK:PE X a bO):PE X (.UnaryOp op a pos) (tUn r bO):=by
 intro aU s aM H Q I h;exact UnaryOp_ (thn (bK aU s aM H _ I h) λv bj ⟨x,a1,bU,cr,ck⟩=>bW aU bj aM a1 x v Q bU cr ck)
theorem opI{f:Value→Value→Sem Value}{C:Int→Int→Prop}{g:Int→Int→Int}
  (rule:∀(i j:Int)(t u:Tok)(s:Shared)(Q:Value→Shared→Prop)(E:Value→Shared→Prop),C i j→Q (.int (g i j) s.toks) {s with toks:=s.toks+1}→wpAny (model X.prog X.w) X.A (f (.int i t) (.int j u)) Q E s):
  OpR X f (rI C λi j=> .int (g i j)):=by
 intro aU s aM H x y v u Q I bL bX h;obtain⟨i,j,rfl,rfl,bH,q⟩:=h;obtain⟨t,rfl⟩:=bL;obtain⟨t',rfl⟩:=bX;exact rule i j t t' s _ _ bH ⟨.int (g i j),H,I.tok _,⟨_,rfl⟩,q⟩
theorem Zfe{f:Value→Value→Sem Value}{g:Int→Int→Int}
  (rule:∀(i j:Int)(t u:Tok)(s:Shared)(Q:Value→Shared→Prop)(E:Value→Shared→Prop),Q (.int (g i j) s.toks) {s with toks:=s.toks+1}→wpAny (model X.prog X.w) X.A (f (.int i t) (.int j u)) Q E s):
  OpR X f (rI0 λi j=> .int (g i j)):=by
 intro aU s aM H x y v u Q I bL bX h;obtain⟨i,j,rfl,rfl,q⟩:=h;obtain⟨t,rfl⟩:=bL;obtain⟨t',rfl⟩:=bX;exact rule i j t t' s _ _ ⟨.int (g i j),H,I.tok _,⟨_,rfl⟩,q⟩
theorem Zb4{f:Value→Value→Sem Value}{g:Int→Int→Bool}
  (rule:∀(i j:Int)(t u:Tok)(s:Shared)(Q:Value→Shared→Prop)(E:Value→Shared→Prop),Q (.bool (g i j)) s→wpAny (model X.prog X.w) X.A (f (.int i t) (.int j u)) Q E s):
  OpR X f (rI0 λi j=> .bl (g i j)):=by
 intro aU s aM H x y v u Q I bL bX h;obtain⟨i,j,rfl,rfl,q⟩:=h;obtain⟨t,rfl⟩:=bL;obtain⟨t',rfl⟩:=bX;exact rule i j t t' s _ _ ⟨.bl (g i j),H,I,rfl,q⟩
def ZfW(i j:Int):Prop:=0≤j∧j≤1000000∧i.natAbs<2 ^ 64
def Zcp(i j:Int):Prop:=(-(2 ^ 64)<i∧i<2 ^ 64)∨(-(2 ^ 64)<j∧j<2 ^ 64)
theorem Zcp.ok{i j:Int}(h:Zcp i j):IntMulOk i j:=by
 rcases h with⟨a_,bd⟩|⟨a_,bd⟩
 ·exact .of_left (intBits_le_64 a_ bd)
 ·exact .of_right (intBits_le_64 a_ bd)
theorem sD:OpR X (binaryOp .Add) (rI0 λi j=> .int (i+j)):=Zfe λ_ _ _ _ _ _ _ q=>add_int q
theorem j6:OpR X (binaryOp .Sub) (rI0 λi j=> .int (i-j)):=Zfe λ_ _ _ _ _ _ _ q=>sub_int q
theorem dr:OpR X (binaryOp .Mod) (rI (λ_ j=>0<j) λi j=> .int (i % j)):=opI λi j _ _ _ _ _ bH q=>by
 have a_:(0:Int)<j:=bH;exact mod_int' (by omega) (by rw[Int.fmod_eq_emod_of_nonneg i (by omega)];exact q)
theorem je:OpR X (binaryOp .Pow) (rI ZfW λi j=> .int (i ^ j.toNat)):=opI λ_ _ _ _ _ _ _ bH q=>pow_int_small bH.1 bH.2.1 bH.2.2 q
theorem unI{f:Value→Sem Value}{g:Int→Int}
  (rule:∀(i:Int)(t:Tok)(s:Shared)(Q:Value→Shared→Prop)(E:Value→Shared→Prop),Q (.int (g i) s.toks) {s with toks:=s.toks+1}→wpAny (model X.prog X.w) X.A (f (.int i t)) Q E s):
  UnR X f (rU λi=> .int (g i)):=by
 intro aU s aM H x v Q I bL h;obtain⟨i,rfl,q⟩:=h;obtain⟨t,rfl⟩:=bL;exact rule i t s _ _ ⟨.int (g i),H,I.tok _,⟨_,rfl⟩,q⟩
theorem gV:UnR X (unaryOp .USub) (rU λi=> .int (-i)):=unI λ_ _ _ _ _ q=>neg_int q
end
noncomputable def pf:V→V→Bool
 | .non,.non=>true| .non,.int _=>true| .int _,.non=>true| .non,.bl _=>true| .bl _,.non=>true| .non,.str _=>true| .str _,.non=>true
 | .int _,.int _=>true| .bl _,.bl _=>true| .str _,.str _=>true| .byt _,.byt _=>true
 | .int _,.str _=>true| .str _,.int _=>true| .bl _,.str _=>true| .str _,.bl _=>true
 |_,_=>false
noncomputable def rEq:R2:=λx y H Q=>pf x y=true∧Q (.bl (decide (x=y))) H
noncomputable def rNe:R2:=λx y H Q=>pf x y=true∧Q (.bl (!decide (x=y))) H
theorem Zby{i j:Int}:decide (V.int i=V.int j)=(i==j):=by
 rw[QA];simp
theorem Zaz{i j:Bool}:decide (V.bl i=V.bl j)=(i==j):=by
 rw[QA];simp
theorem ZbI{i j:Str}:decide (V.str i=V.str j)=(i==j):=by
 rw[QA];simp
theorem Zbx{i j:Array UInt8}:decide (V.byt i=V.byt j)=(i.toList==j.toList):=by
 rw[QA];cases i;cases j;simp
section
variable {X:Cx}{a b c:Expr}{bO cp cV:TE}{pos:Pos}
theorem dE{aU:List (Addr×Obj)}{aM:St}{H:Hp}{s:Shared}{Q:VK}{k e0:Bool}(I:Inv X aU aM H s)(q:Q (.bl k) H)(e:k=e0):EP X aU aM Q (.bool e0) s:=by
 subst e;exact⟨.bl k,H,I,rfl,q⟩
theorem sE:OpR X (compareOp .Eq) rEq:=by
 intro aU s aM H x y v u Q I bL bX h;obtain⟨bN,q⟩:=h;cases x with
 |non=>
  cases bL;cases y with
  |non=>cases bX;exact PySem.EqNone.eq_none_none (dE I q (by simp))
  |bl j=>cases bX;exact PySem.EqNone.eq_none_bool (dE I q (by simp))
  |int j=>obtain⟨t',rfl⟩:=bX;exact PySem.EqNone.eq_none_int (dE I q (by simp))
  |str j=>obtain⟨t',rfl⟩:=bX;exact PySem.EqNone.eq_none_str (dE I q (by simp))
  |_=>exact absurd (show false=true from bN) Qb
 |bl i=>
  cases bL;cases y with
  |non=>cases bX;exact PySem.EqNone.eq_bool_none (dE I q (by simp))
  |bl j=>cases bX;exact eq_bool (dE I q Zaz)
  |str j=>obtain⟨t',rfl⟩:=bX;exact PySem.EqMixed.eq_bool_str (dE I q (by simp))
  |_=>exact absurd (show false=true from bN) Qb
 |int i=>
  obtain⟨t,rfl⟩:=bL;cases y with
  |non=>cases bX;exact PySem.EqNone.eq_int_none (dE I q (by simp))
  |int j=>obtain⟨t',rfl⟩:=bX;exact eq_int (dE I q Zby)
  |str j=>obtain⟨t',rfl⟩:=bX;exact PySem.EqMixed.eq_int_str (dE I q (by simp))
  |_=>exact absurd (show false=true from bN) Qb
 |str i=>
  obtain⟨t,rfl⟩:=bL;cases y with
  |non=>cases bX;exact PySem.EqNone.eq_str_none (dE I q (by simp))
  |bl j=>cases bX;exact PySem.EqMixed.eq_str_bool (dE I q (by simp))
  |int j=>obtain⟨t',rfl⟩:=bX;exact PySem.EqMixed.eq_str_int (dE I q (by simp))
  |str j=>obtain⟨t',rfl⟩:=bX;exact eq_str (dE I q ZbI)
  |_=>exact absurd (show false=true from bN) Qb
 |byt i=>
  obtain⟨t,rfl⟩:=bL;cases y with
  |byt j=>obtain⟨t',rfl⟩:=bX;exact PySem.W.eq_bytes (dE I q Zbx)
  |_=>exact absurd (show false=true from bN) Qb
 |_=>cases y<;>exact absurd (show false=true from bN) Qb
theorem sF:OpR X (compareOp .NotEq) rNe:=by
 intro aU s aM H x y v u Q I bL bX h;obtain⟨bN,q⟩:=h;cases x with
 |non=>
  cases bL;cases y with
  |non=>cases bX;exact PySem.EqNone.ne_none_none (dE I q (by simp))
  |bl j=>cases bX;exact PySem.EqNone.ne_none_bool (dE I q (by simp))
  |int j=>obtain⟨t',rfl⟩:=bX;exact PySem.EqNone.ne_none_int (dE I q (by simp))
  |str j=>obtain⟨t',rfl⟩:=bX;exact PySem.EqNone.ne_none_str (dE I q (by simp))
  |_=>exact absurd (show false=true from bN) Qb
 |bl i=>
  cases bL;cases y with
  |non=>cases bX;exact PySem.EqNone.ne_bool_none (dE I q (by simp))
  |bl j=>cases bX;exact ne_bool (dE I q (congrArg not Zaz))
  |str j=>obtain⟨t',rfl⟩:=bX;exact PySem.EqMixed.ne_bool_str (dE I q (by simp))
  |_=>exact absurd (show false=true from bN) Qb
 |int i=>
  obtain⟨t,rfl⟩:=bL;cases y with
  |non=>cases bX;exact PySem.EqNone.ne_int_none (dE I q (by simp))
  |int j=>obtain⟨t',rfl⟩:=bX;exact ne_int (dE I q (congrArg not Zby))
  |str j=>obtain⟨t',rfl⟩:=bX;exact PySem.EqMixed.ne_int_str (dE I q (by simp))
  |_=>exact absurd (show false=true from bN) Qb
 |str i=>
  obtain⟨t,rfl⟩:=bL;cases y with
  |non=>cases bX;exact PySem.EqNone.ne_str_none (dE I q (by simp))
  |bl j=>cases bX;exact PySem.EqMixed.ne_str_bool (dE I q (by simp))
  |int j=>obtain⟨t',rfl⟩:=bX;exact PySem.EqMixed.ne_str_int (dE I q (by simp))
  |str j=>obtain⟨t',rfl⟩:=bX;exact ne_str (dE I q (congrArg not ZbI))
  |_=>exact absurd (show false=true from bN) Qb
 |byt i=>
  obtain⟨t,rfl⟩:=bL;cases y with
  |byt j=>obtain⟨t',rfl⟩:=bX;exact PySem.W.ne_bytes (dE I q (congrArg not Zbx))
  |_=>exact absurd (show false=true from bN) Qb
 |_=>cases y<;>exact absurd (show false=true from bN) Qb
theorem gm:OpR X (compareOp .Lt) (rI0 λi j=> .bl (decide (i<j))):=Zb4 λ_ _ _ _ _ _ _ q=>lt_int q
theorem jf:OpR X (compareOp .LtE) (rI0 λi j=> .bl (decide (i≤j))):=Zb4 λ_ _ _ _ _ _ _ q=>le_int q
theorem mu:OpR X (compareOp .Gt) (rI0 λi j=> .bl (decide (j<i))):=Zb4 λ_ _ _ _ _ _ _ q=>gt_int q
theorem ln:OpR X (compareOp .GtE) (rI0 λi j=> .bl (decide (j≤i))):=Zb4 λ_ _ _ _ _ _ _ q=>ge_int q
theorem sG:OpR X (compareOp .In) (λx y H Q=>∃i j,x= .str i∧y= .str j∧Q (.bl (!(Builtin.Str.occurrences j i 0 j.length 1).isEmpty)) H):=by
 intro aU s aM H x y v u Q I bL bX h;obtain⟨i,j,rfl,rfl,q⟩:=h;obtain⟨t,rfl⟩:=bL;obtain⟨t',rfl⟩:=bX;exact in_str (dE I q rfl)
theorem OpR.or{f:Value→Value→Sem Value}{r cz:R2}(h:OpR X f r)(h':OpR X f cz):OpR X f (λx y H Q=>r x y H Q∨cz x y H Q):=by
 intro aU s aM H x y v u Q I bL bX q;rcases q with q|q
 ·exact h aU s aM H x y v u Q I bL bX q
 ·exact h' aU s aM H x y v u Q I bL bX q
theorem c8(b:Expr){op:CmpOp}(h:op≠ .In:=by decide)(bd:op≠ .NotIn:=by decide):behindInMarks op b=false:=by
 have b2:(op==CmpOp.In)=false:=by cases op<;>first|rfl|exact absurd rfl h
 have ci:(op==CmpOp.NotIn)=false:=by cases op<;>first|rfl|exact absurd rfl bd
 cases b<;>simp[behindInMarks,b2,ci]
theorem gW{op:CmpOp}{r:R2}(bW:OpR X (compareOp op) r)(bK:PE X a bO)(a6:PE X b cp)(bZ:behindInMarks op b=false):PE X (.Compare a [op] [b] pos) (tOp r bO cp):=by
 intro aU s aM H Q I h;exact wpAny_Compare1 (ms bK a6 I h λv u bQ x y a8 cF bL bX q=>bW aU bQ aM a8 x y v u Q cF bL bX q) bZ
noncomputable def mv (t:TE):TT:=λaM H Q=>t aM H λx aS=>∃k,x= .bl k∧Q k aS
theorem de{op:CmpOp}{r:R2}(bW:OpR X (compareOp op) r)(bK:PE X a bO)(a6:PE X b cp)(bZ:behindInMarks op b=false):PT X (.Compare a [op] [b] pos) (mv (tOp r bO cp)):=by
 intro aU s aM H Q I h;refine wpAny_isTrue_Compare1 (thn (bK aU s aM H _ I h) λv bj ⟨x,a1,bU,cr,ck⟩=>thn (a6 aU bj aM a1 _ bU ck) λu bQ ⟨y,a8,cF,cM,cv⟩=>
  thn (bW aU bQ aM a8 x y v u _ cF cr cM cv) λc bV ⟨z,b1,dA,hm,k,e,d2⟩=>?_) bZ
 subst e;cases hm;exact wpAny_truthy_bool ⟨b1,dA,d2⟩
noncomputable def mw (r cz:R2) (bO cp cV:TE):TE:=λaM H Q=>bO aM H λx a1=>cp aM a1 λy a8=>r x y a8 λz b1=>∃k,z= .bl k∧
 (if k=true then cV aM b1 λdz b5=>cz y dz b5 Q else Q (.bl false) b1)
theorem sH{op gn:CmpOp}{r cz:R2}(bW:OpR X (compareOp op) r)(fU:OpR X (compareOp gn) cz)(bK:PE X a bO)(a6:PE X b cp)(bH:PE X c cV)
  (bZ:lastMarks [op,gn] [b,c]=false:=by with_unfolding_all rfl):PE X (.Compare a [op,gn] [b,c] pos) (mw r cz bO cp cV):=by
 intro aU s aM H Q I h;refine Compare_chain (thn (bK aU s aM H _ I h) λv bj ⟨x,a1,bU,cr,ck⟩=>chain_link (thn (a6 aU bj aM a1 _ bU ck) λu bQ ⟨y,a8,cF,cM,cv⟩=>
  thn (bW aU bQ aM a8 x y v u _ cF cr cM cv) λd bV ⟨z,b1,dA,hm,k,e,d2⟩=>?_)) bZ
 subst e;cases hm;refine wpAny_truthy_bool ?_;cases k with
 |false=>exact ite_ff ⟨.bl false,b1,dA,rfl,d2⟩
 |true=>exact ite_tt (chain_last (thn (bH aU bV aM b1 _ dA d2) λdz c5 ⟨eu,b5,hj,jg,fX⟩=>fU aU c5 aM b5 y eu u dz Q hj cM jg fX))
theorem lp{op gn:CmpOp}{r cz:R2}(bW:OpR X (compareOp op) r)(fU:OpR X (compareOp gn) cz)(bK:PE X a bO)(a6:PE X b cp)(bH:PE X c cV)
  (bZ:lastMarks [op,gn] [b,c]=false:=by with_unfolding_all rfl):PT X (.Compare a [op,gn] [b,c] pos) (mv (mw r cz bO cp cV)):=by
 intro aU s aM H Q I h;refine isTrue_chain (thn (bK aU s aM H _ I h) λv bj ⟨x,a1,bU,cr,ck⟩=>test_link (thn (a6 aU bj aM a1 _ bU ck) λu bQ ⟨y,a8,cF,cM,cv⟩=>
  thn (bW aU bQ aM a8 x y v u _ cF cr cM cv) λd bV ⟨z,b1,dA,hm,k,e,d2⟩=>?_)) bZ
 subst e;cases hm;refine wpAny_truthy_bool ?_;cases k with
 |false=>
  obtain⟨e0,b6,eY⟩:=d2;cases b6;exact ite_ff ⟨b1,dA,eY⟩
 |true=>
  refine ite_tt (test_last (thn (bH aU bV aM b1 _ dA d2) λdz c5 ⟨eu,b5,hj,jg,fX⟩=>thn (fU aU c5 aM b5 y eu u dz _ hj cM jg fX) λd' cK ⟨gh,b9,fx,il,k2,ci,e1⟩=>?_));subst ci;cases il;exact wpAny_truthy_bool ⟨b9,fx,e1⟩
def j7(K:Frag)(x:V)(H:Hp)(k:Bool):Prop:=
 match x with
 | .non=>k=false
 | .bl b=>k=b
 | .int i=>k=(i != 0)
 | .str y=>y.length≤sizeLine∧k=((y.length:Int) != 0)
 | .byt y=>y.size≤sizeLine∧k=((y.size:Int) != 0)
 | .ref p=>(∃xs,SqL K H p xs∧k= !xs.isEmpty)∨(∃xs,SqT K H p xs∧k= !xs.isEmpty)∨∃kvs,H p=some (.dK kvs)∧k= !kvs.isEmpty
 |_=>False
theorem Zcn{c_:Type}{kvs:List (c_×V)}{vs:List (c_×Value)}(r:KV kvs vs):(!vs.isEmpty)= !kvs.isEmpty:=by
 cases r<;>rfl
theorem Ui{xs:List V}{its:List Value}(r:cf xs its):(!its.toArray.isEmpty)= !xs.isEmpty:=by
 cases r<;>simp
theorem jh:(sizeLine:Nat)<2 ^ 63:=by rw[sizeLine_eq];decide
theorem sI:Zhl X (λx H Q=>∃k,j7 X.K x H k∧Q k H):=by
 intro aU s aM H x v Q I bL h;obtain⟨k,e,q⟩:=h;have hl:=jh;have bN:sizeLine=16777216:=sizeLine_eq;cases x with
 |non=>
  cases bL;have b6:k=false:=e;subst b6;exact truthy_none ⟨H,I,q⟩
 |bl b=>
  cases bL;have b6:k=b:=e;subst b6;exact wpAny_truthy_bool ⟨H,I,q⟩
 |int i=>
  obtain⟨t,rfl⟩:=bL;have b6:k=(i != 0):=e;subst b6;exact PySem.P.truthy_int ⟨H,I,q⟩
 |str y=>
  obtain⟨t,rfl⟩:=bL;obtain⟨cH,b6⟩:y.length≤sizeLine∧k=((y.length:Int) != 0):=e;subst b6;exact PySem.P.truthy_str (by omega) ⟨H,I.tok _,q⟩
 |byt y=>
  obtain⟨t,rfl⟩:=bL;obtain⟨cH,b6⟩:y.size≤sizeLine∧k=((y.size:Int) != 0):=e;subst b6;exact PySem.W.truthy_bytes (by omega) ⟨H,I.tok _,q⟩
 |ref p=>
  cases bL;have b6:(∃xs,SqL X.K H p xs∧k= !xs.isEmpty)∨(∃xs,SqT X.K H p xs∧k= !xs.isEmpty)∨∃kvs,H p=some (.dK kvs)∧k= !kvs.isEmpty:=e;rcases b6 with⟨xs,bc,b6⟩|⟨xs,bc,b6⟩|⟨kvs,bc,b6⟩
  ·subst b6;obtain⟨its,r,pl,cd⟩:=I.list bc;have dL:=r.length;exact wpAny_truthy_list pl.isList (by simp only[Qa];omega) ⟨H,I.tok _,by rw[Ui r];exact q⟩
  ·subst b6;obtain⟨its,r,pl,cd⟩:=I.tuple bc;have dL:=r.length;exact truthy_tuple pl (by simp only[Qa];omega) ⟨H,I.tok _,by rw[Ui r];exact q⟩
  ·subst b6;obtain⟨cd,fL,vs,r,m⟩:kvs.length≤sizeLine∧(p==sysModules)=false∧∃vs,KV kvs vs∧s.heap.DictOf (eX X.prog X.w) p vs:=I.hok p _ bc;have dL:kvs.length=vs.length:=Paired.length r;exact wpAny_truthy_dict fL m (by omega) ⟨H,I.tok _,by rw[Zcn r];exact q⟩
 |_=>exact(show False from e).elim
theorem ZdG(bK:PE X a bO)(b_:∀ic,isTrue a X.env ic=(do let v←ic;standAt a.pos;holding [v] (truthy v))):
  PT X a (λaM H Q=>bO aM H λx aS=>∃k,j7 X.K x aS k∧Q k aS):=by
 intro aU s aM H Q I h;exact isTrue_plain (thn (bK aU s aM H _ I h) λv bj ⟨x,a1,bU,cr,ck⟩=>sI aU bj aM a1 x v Q bU cr ck) (b_ _)
theorem sJ:OpR X (binaryOp .Add) (λx y H Q=>∃i j,x= .str i∧y= .str j∧i.length+j.length≤sizeLine∧Q (.str (i++j)) H):=by
 intro aU s aM H x y v u Q I bL bX h;obtain⟨i,j,rfl,rfl,cd,q⟩:=h;obtain⟨t,rfl⟩:=bL;obtain⟨t',rfl⟩:=bX;exact add_str (λt' cW=>⟨.str (i++j),H,I.tok _,⟨_,rfl⟩,q⟩) cd
theorem Y2{x:V}{us:List Value}(r:cf [x] us):∃u,us=[u]∧cu x u:=by
 cases r with
 |cons cr cM=>cases cM;exact⟨_,rfl,cr⟩
theorem sK:Yc X (.type "int") (λxs H Q=>(∃i,xs=[.int i]∧Q (.int i) H)∨∃k,xs=[.bl k]∧Q (.int (if k then 1 else 0)) H):=by
 intro aU s aM H xs us Q I r h;rcases h with⟨i,rfl,q⟩|⟨k,rfl,q⟩
 ·obtain⟨u,rfl,t,rfl⟩:=Y2 r;exact call_int_int ⟨.int i,H,I,⟨_,rfl⟩,q⟩
 ·obtain⟨u,rfl,cr⟩:=Y2 r;cases cr;exact call_int_bool ⟨.int (if k then 1 else 0),H,I.tok _,⟨_,rfl⟩,q⟩
def V5(K:Frag)(x:V)(H:Hp)(n:Nat):Prop:=
 match x with
 | .str y=>y.length≤sizeLine∧n=y.length
 | .byt y=>y.size≤sizeLine∧n=y.size
 | .ref p=>(∃xs,SqL K H p xs∧n=xs.length)∨∃xs,SqT K H p xs∧n=xs.length
 |_=>False
theorem sL:Yc X (.builtin "len") (λxs H Q=>∃x n,xs=[x]∧V5 X.K x H n∧Q (.int n) H):=by
 intro aU s aM H xs us Q I r h;obtain⟨x,n,rfl,e,q⟩:=h;obtain⟨u,rfl,bL⟩:=Y2 r;have hl:=jh;have bN:sizeLine=16777216:=sizeLine_eq;cases x with
 |str y=>
  obtain⟨t,rfl⟩:=bL;obtain⟨cH,b6⟩:y.length≤sizeLine∧n=y.length:=e;subst b6;exact len_str (by omega) ⟨.int _,H,I.tok _,⟨_,rfl⟩,q⟩
 |byt y=>
  obtain⟨t,rfl⟩:=bL;obtain⟨cH,b6⟩:y.size≤sizeLine∧n=y.size:=e;subst b6;exact PySem.W.len_bytes (by omega) ⟨.int _,H,I.tok _,⟨_,rfl⟩,q⟩
 |ref p=>
  cases bL;have b6:(∃xs,SqL X.K H p xs∧n=xs.length)∨∃xs,SqT X.K H p xs∧n=xs.length:=e;rcases b6 with⟨xs,bc,b6⟩|⟨xs,bc,b6⟩
  ·subst b6;obtain⟨its,cz,pl,cd⟩:=I.list bc;have dL:=cz.length;exact Calls.call_len_list pl.isList (by simp only[Qa];omega) ⟨.int xs.length,H,I.tok _,⟨_,by simp only[Qa];rw[dL]⟩,q⟩
  ·subst b6;obtain⟨its,cz,pl,cd⟩:=I.tuple bc;have dL:=cz.length;exact len_tuple pl (by simp only[Qa];omega) ⟨.int xs.length,H,I.tok _,⟨_,by simp only[Qa];rw[dL]⟩,q⟩
 |_=>exact(show False from e).elim
end
structure io(h:Heap)(x bI C:Addr)(dh:Str→Option Value):Prop where
 obj:h.get? x=some (instObj C bI)
 ns:h.Ns1 bI dh
 ne:bI≠x
theorem Zc8{h:Heap}{bI:Addr}{dh:Str→Option Value}(n:h.Ns1 bI dh):∃di,h.get? bI=some di∧∀name,lookIn name di=some (dh name):=by
 obtain⟨o,bS,ep,bW,hd,bY,_,bZ⟩:=n;refine⟨o,bW,λname=>?_⟩;have e:=bZ name;unfold nsFind findBy at e;rw[←Array.find?_toList] at e;unfold lookIn;rw[hd];dsimp only
 split
 ·rename_i y q;rw[q] at e;exact congrArg some e
 ·rename_i q;rw[q] at e;have a:bS.toList.any (·.refKey)=false:=by
   rw[List.any_eq_false];intro y cH;obtain⟨z,t,sM⟩:=bY y (Array.mem_toList_iff.mp cH);simp[DictEntry.refKey,sM]
  have e2:¬bS.toList.any (·.refKey)=true:=by rw[a];exact Qb
  rw[if_neg e2];exact congrArg some e
theorem io.look{h:Heap}{x bI C:Addr}{dh:Str→Option Value}(I:io h x bI C dh):∃di,PySem.W.InstAt h x (instObj C bI) C (some di)∧∀name,lookIn name di=some (dh name):=
 let⟨di,bW,hl⟩:=Zc8 I.ns
 ⟨di,⟨I.obj,rfl,rfl,bW⟩,hl⟩
section
variable {prog:Program}{w:World}{A:Around}{E:Value→Shared→Prop}{s:Shared}{K:Frag}{x bI C f:Addr}{dh:Str→Option Value}{name:Str}{v:Value}
theorem ZeO{sN:Bool}{Q:Value→Shared→Prop}(X:K.In s.heap)(I:io s.heap x bI C dh)(cs:plainGet K C name=true)(cw:hasDictIn K C=true)
  (bK:PySem.W.findIn K (.ref C) name=some none) (b8:dh name=some v) (mx:handedIn v=true) (h:Q v {s with toks:=s.toks+1}):
  wpAny (model prog w) A (getAttr (.ref x) name sN) Q E s:=by
 obtain⟨di,J,hl⟩:=I.look;exact PySem.W.get_value X J (plainGet_of cs).1 (PySem.W.findObj_own cw bK rfl (by rw[hl,b8])) mx h
theorem ZdH{pl:Sem Bool}{Q:Value×List Value→Shared→Prop}(X:K.In s.heap)(I:io s.heap x bI C dh)(cs:plainGet K C name=true)
  (cj:PySem.W.findIn K (.ref C) name=some (some (.ref f))) (cL:isFn K (.ref f)=true) (b8:dh name=none) (h:Q (.ref f,[.ref x]) s):
  wpAny (model prog w) A (getMethod (.ref x) name pl) Q E s:=by
 obtain⟨di,J,hl⟩:=I.look;exact PySem.W.method_fn X J (plainGet_of cs).1 (plainGet_of cs).2 cj (beq_iff_eq.mp cL) (by show(lookIn name di).map (·.isSome)=some false;rw[hl,b8];rfl) h
theorem ZeD{ns:List Str}{Q:Unit→Shared→Prop}(X:K.In s.heap)(I:io s.heap x bI C dh)
  (bN:PySem.W.findIn K (.ref C) "__setattr__" =some (some (.builtin "object.__setattr__"))) (b3:plainOver K C=true) (cL:takerIn K C name=some none) (cw:hasDictIn K C=true)
  (hw:PySem.Within dh ns) (hsz:ns.length≤sizeLine)
  (h:∀h',io h' x bI C (λy=>if y=name then some v else dh y)→Heap.SameBut bI s.heap h'→Q () {s with heap:=h',toks:=s.toks+2}):
  wpAny (model prog w) A (setAttr (.ref x) name v) Q E s:=by
 obtain⟨di,J,hl⟩:=I.look;refine PySem.W.set_plain X J bN (PySem.W.osa_open (s:={s with toks:=s.toks+1}) (r:=none) X J b3 cL λb=>?_);obtain⟨cE,bH,mb⟩:=PySem.W.any_some cw;have bc:s.heap.get? x=some ⟨.ref C,some bI,.plain,#[]⟩:=I.obj;refine wpAny_bind (wpAny_pure (wpAny_bind (wpAny_bind (wpAny_loadPart bc (wpAny_bind (PySem.W.Looks.here (s:={s with toks:=s.toks+1}) (PySem.W.looks_clsIn X bH) ?_))))));rw[mb];refine wpAny_pure (a:=some bI) (wpAny_bind (wpAny_pure (wpAny_bind ?_)));refine wpAny_nsSet1 (s:={s with toks:=s.toks+1}) I.ns λh' gp gT=>?_;obtain⟨oD,zM,zN,sO,sP,hn⟩:=gp.count (PySem.Within.cons name v hw);refine wpAny_bind (wpAny_lookBehind sO (by rw[sP];exact pastItsLine_dict (Qn hn (by rw[List.length_cons];omega))) ?_);exact wpAny_pure (h _ ⟨(gT.2 _ (Q8 I.ne)).trans I.obj,gp,I.ne⟩ gT)
theorem sQ{R:Result→Shared→Prop}{vs:List Value}{kw:List (Str×Value)}(X:K.In s.heap)(bZ:makesIn K C=true)
  (bb:PySem.W.findIn K (.ref C) "__init__" =some (some (.ref f))) (cj:typeIn K (.ref f)=some (.type "function"))
  (h:codeAny (model prog w) (A.under (.builtin "type.__call__" ⟨.ref C::vs,kw⟩)) (.call (.ref f) ⟨.ref (s.heap.objs.size+1)::vs,kw⟩) (PySem.W.InitBack (s.heap.objs.size+1) R)
   {s with heap:=(s.heap.push emptyDict).push (instObj C s.heap.objs.size)}):
  codeAny (model prog w) A (.call (.ref C) ⟨vs,kw⟩) R s:=by
 obtain⟨cw,g,d,t,os⟩:=s;exact PySem.W.make_core (PySem.W.makes_of X bZ) (PySem.W.looks_findIn X bb) (λself=>PySem.W.bind_fn X self cj) (.inl rfl) h
end
noncomputable def ek (f:Str) (v:V):List (Str×V)→List (Str×V)
 | []=>[(f,v)]
 |(g,x)::r=>if g=f then(g,v)::r else(g,x)::ek f v r
theorem VR(f g:Str)(v:V):∀fs:List (Str×V),(ek f v fs).lookup g=if g=f then some v else fs.lookup g
 | []=>by
  show List.lookup g [(f,v)]=_
  by_cases h:g=f
  ·have a6:(g==f)=true:=beq_iff_eq.mpr h;simp only[List.lookup,a6,if_pos h]
  ·have a6:(g==f)=false:=beq_eq_false_iff_ne.mpr h;simp only[List.lookup,a6,if_neg h]
 |(k,x)::r=>by
  have ds:=VR f g v r;rw[show ek f v ((k,x)::r)=(if k=f then(k,v)::r else(k,x)::ek f v r) from rfl]
  by_cases bY:k=f
  ·rw[if_pos bY]
   by_cases h:g=k
   ·have a6:(g==k)=true:=beq_iff_eq.mpr h;simp only[List.lookup,a6,if_pos (h.trans bY)]
   ·have a6:(g==k)=false:=beq_eq_false_iff_ne.mpr h;simp only[List.lookup,a6,if_neg (λe:g=f=>h (e.trans bY.symm))]
  ·rw[if_neg bY]
   by_cases h:g=k
   ·have a6:(g==k)=true:=beq_iff_eq.mpr h;simp only[List.lookup,a6,if_neg (λe:g=f=>bY (h.symm.trans e))]
   ·have a6:(g==k)=false:=beq_eq_false_iff_ne.mpr h;simp only[List.lookup,a6];exact ds
theorem my(f:Str)(v:V):∀fs:List (Str×V),f∈(ek f v fs).map (·.1)∧∀g,g∈fs.map (·.1)→g∈(ek f v fs).map (·.1)
 | []=>⟨by simp[ek],λg h=>by simp at h⟩
 |(k,x)::r=>by
  obtain⟨ji,sR⟩:=my f v r;rw[show ek f v ((k,x)::r)=(if k=f then(k,v)::r else(k,x)::ek f v r) from rfl]
  by_cases bY:k=f
  ·rw[if_pos bY];subst bY;exact⟨by simp,λg h=>by simpa using h⟩
  ·rw[if_neg bY];refine⟨?_,λg h=>?_⟩
   ·rw[List.map_cons];exact Qo _ ji
   ·rw[List.map_cons] at h⊢;rcases Qj.mp h with e|e
    ·exact Qj.mpr (.inl e)
    ·exact Qo _ (sR g e)
theorem VO(f:Str)(v:V):∀fs:List (Str×V),(ek f v fs).length≤fs.length+1
 | []=>by simp[ek]
 |(k,x)::r=>by
  have ds:=VO f v r;rw[show ek f v ((k,x)::r)=(if k=f then(k,v)::r else(k,x)::ek f v r) from rfl]
  by_cases bY:k=f
  ·rw[if_pos bY,List.length_cons,List.length_cons];omega
  ·rw[if_neg bY,List.length_cons,List.length_cons];omega
theorem fg.some_of{v:V}{o:Option Value}(r:fg (some v) o):∃u,o=some u∧cu v u:=by
 cases o with
 |none=>exact(show False from r).elim
 |some u=>exact⟨u,rfl,r⟩
theorem fg.none_of{o:Option Value}(r:fg none o):o=none:=by
 cases o with
 |none=>rfl
 |some u=>exact(show False from r).elim
theorem sS{v:V}{u:Value}(r:cu v u):handedIn u=true:=by
 cases v with
 |non=>cases (show u=Value.none from r);rfl
 |bl b=>cases (show u=Value.bool b from r);rfl
 |int i=>obtain⟨t,e⟩:=(show ∃t,u=Value.int i t from r);cases e;rfl
 |str x=>obtain⟨t,e⟩:=(show ∃t,u=Value.str x t from r);cases e;rfl
 |byt b=>obtain⟨t,e⟩:=(show ∃t,u=Value.bytes b t from r);cases e;rfl
 |flt b=>obtain⟨t,e⟩:=(show ∃t,u=Value.float b t from r);cases e;rfl
 |ref a=>cases (show u=Value.ref a from r);rfl
 |ty n=>cases (show u=Value.type n from r);rfl
section
variable {P:Program}{w:World}{H aS:Hp}{h h':Heap}{a C bI:Addr}{fs lg:List (Str×V)}
theorem Vv(hok:HOk P w H h)(e:H a=some (.ins C bI fs)):∃dh,io h a bI C dh∧(∀f,fg (fs.lookup f) (dh f))∧PySem.Within dh (fs.map (·.1))∧fs.length≤1000∧H bI=some (.own a):=by
 obtain⟨d,z,ne,cD,dh,n,r,q⟩:=(show ZF P w H h a (.ins C bI fs) from hok a _ e);exact⟨dh,⟨cD,n,ne⟩,r,q,z,d⟩
end
structure Cls(K:Frag)(C:Addr):Prop where
 pg:plainGet K C Str.empty=true
 hd:hasDictIn K C=true
 po:plainOver K C=true
 sa:PySem.W.findIn K (.ref C) "__setattr__" =some (some (.builtin "object.__setattr__"))
theorem Cls.get{K:Frag}{C:Addr}(c:Cls K C)(f:Str):plainGet K C f=true:=c.pg
def fM(K:Frag)(C:Addr)(f:Str):Prop:=PySem.W.findIn K (.ref C) f=some none
theorem fM.taker{K:Frag}{C:Addr}{f:Str}(n:fM K C f):takerIn K C f=some none:=by
 unfold takerIn;rw[show PySem.W.findIn K (.ref C) f=some none from n]
 rfl
structure VW(K:Frag)(C:Addr)(m:Str)(f:Addr):Prop where
 at_:PySem.W.findIn K (.ref C) m=some (some (.ref f))
 fn:isFn K (.ref f)=true
 kp:keepIn K (.ref f)=true
section
variable {X:Cx}{aU:List (Addr×Obj)}{aM:St}{H:Hp}{s:Shared}{a C bI:Addr}{fs:List (Str×V)}{f:Str}{v:V}{A:Around}{E:Value→Shared→Prop}
theorem Zco{b:Bool}{Q:Value→Shared→Prop}(I:Inv X aU aM H s)(e:H a=some (.ins C bI fs))(c:Cls X.K C)(n:fM X.K C f)(l:fs.lookup f=some v)
  (h:∀u s',Inv X aU aM H s'→cu v u→Q u s'):wpAny (model X.prog X.w) A (getAttr (.ref a) f b) Q E s:=by
 obtain⟨dh,O,r,_,_,_⟩:=Vv I.hok e;obtain⟨u,hu,ew⟩:=fg.some_of (v:=v) (o:=dh f) (by rw[←l];exact r f);exact ZeO I.kIn O (c.get f) c.hd n hu (sS ew) (h u _ (I.tok _) ew)
theorem Wf{m:Str}{g:Addr}{pl:Sem Bool}{Q:Value×List Value→Shared→Prop}(I:Inv X aU aM H s)(e:H a=some (.ins C bI fs))(c:Cls X.K C)(k:VW X.K C m g)(l:fs.lookup m=none)
  (h:Q (.ref g,[.ref a]) s):wpAny (model X.prog X.w) A (getMethod (.ref a) m pl) Q E s:=by
 obtain⟨dh,O,r,_,_,_⟩:=Vv I.hok e;have bM:dh m=none:=fg.none_of (by rw[←l];exact r m);exact ZdH I.kIn O (c.get m) k.at_ k.fn bM h
theorem ZbV{y:V}{u:Value}{Q:Unit→Shared→Prop}(I:Inv X aU aM H s)(e:H a=some (.ins C bI fs))(c:Cls X.K C)(n:fM X.K C f)(hl:fs.length<1000)(bX:cu y u)
  (h:∀s',Inv X aU aM (upd H a (.ins C bI (ek f y fs))) s'→Q () s'):wpAny (model X.prog X.w) A (setAttr (.ref a) f u) Q E s:=by
 obtain⟨dh,O,r,dI,_,bW⟩:=Vv I.hok e;have cd:(fs.map (·.1)).length≤sizeLine:=by rw[Qe,sizeLine_eq];omega
 refine ZeD I.kIn O c.sa c.po n.taker c.hd dI cd λh' O' mz=>h _ ?_;have hd:∃o,h'.get? bI=some o:=let⟨o,_,_,b6,_⟩:=O'.ns;⟨o,b6⟩
 refine I.write (x:=a) (e:=bI) (by rw[e];exact True.intro) (.inr bW) (λb q a6 z=>(mz.2 b a6).trans z) hd ?_;refine⟨by rw[cm O.ne];exact bW,?_,O.ne,O'.obj,_,O'.ns,λg=>?_,λg cs=>?_⟩
 ·have:=VO f y fs;omega
 ·show fg ((ek f y fs).lookup g) (if g=f then some u else dh g);rw[VR]
  by_cases q:g=f
  ·rw[if_pos q,if_pos q];exact bX
  ·rw[if_neg q,if_neg q];exact r g
 ·by_cases q:g=f
  ·rw[q];exact(my f y fs).1
  ·refine(my f y fs).2 g (dI g λz=>cs ?_);show(if g=f then some u else dh g)=none;rw[if_neg q];exact z
theorem Inv.made(I:Inv X aU aM H s):Inv X aU aM (upd (upd H s.heap.objs.size (.own (s.heap.objs.size+1))) (s.heap.objs.size+1) (.ins C s.heap.objs.size []))
  {s with heap:=(s.heap.push emptyDict).push (instObj C s.heap.objs.size)}:=by
 have b2:(s.heap.push emptyDict).get? s.heap.objs.size=some emptyDict:=Heap.get?_push_size s.heap rfl;have ci:((s.heap.push emptyDict).push (instObj C s.heap.objs.size)).get? (s.heap.objs.size+1)=some (instObj C s.heap.objs.size):=by
  have:=Heap.get?_push_size (s.heap.push emptyDict) (o:=instObj C s.heap.objs.size) rfl
  rwa [Heap.size_push] at this
 have et:(s.heap.push emptyDict).Ns s.heap.objs.size (λ_=>none):=⟨emptyDict,#[],_,b2,rfl,(λe b_=>absurd b_ (by simp)),λ_=>rfl⟩;have bU:=I.laid (a:=s.heap.objs.size) (o:= .own (s.heap.objs.size+1)) (h':=s.heap.push emptyDict) (t':=s.toks) (λb u q=>Heap.get?_push_of_some _ q) (Qc _) ⟨_,b2⟩;refine bU.laid (a:=s.heap.objs.size+1) (o:= .ins C s.heap.objs.size []) (t':=s.toks) (λb u q=>Heap.get?_push_of_some _ q) (Nat.le_of_eq (Heap.size_push _ _)) ?_;have ne:s.heap.objs.size≠s.heap.objs.size+1:=Ql (Nat.lt_succ_self _);refine⟨by rw[cm ne,Zd],Qy _,ne,ci,λ_=>none,(Heap.Ns1.of_empty et).at λo q=>Heap.get?_push_of_some _ q,λ_=>True.intro,λy cH=>absurd rfl cH⟩
theorem Zew{prog:Program}{w:World}{env:Env}{e:Expr}{f:Str}{pos:Pos}{s:Shared}{Q:Value→Shared→Prop}(a6:attributeBase e f env (eval e env)=eval e env)
  (h:wpAny (model prog w) A (eval e env) (λo cX=>wpAny (model prog w) A (getAttr o f true) Q E cX) E s):wpAny (model prog w) A (eval (.Attribute e f pos) env) Q E s:=
 Attribute_any_ h (by rw[arm_eval_Attribute,a6])
end
noncomputable def mA (K:Frag) (bO:TE) (f:Str):TE:=λaM H Q=>bO aM H λx a1=>∃a C bI fs v,x= .ref a∧a1 a=some (.ins C bI fs)∧Cls K C∧fM K C f∧fs.lookup f=some v∧Q v a1
noncomputable def mB (K:Frag) (bO fj:TE) (f:Str):TS:=λD aM H=>fj aM H λy a1=>bO aM a1 λx a8=>∃a C bI fs,x= .ref a∧a8 a=some (.ins C bI fs)∧Cls K C∧fM K C f∧fs.length<1000∧
 D.nx aM (upd a8 a (.ins C bI (ek f y fs)))
section
variable {X:Cx}{o e value:Expr}{f:Str}{pos hi mC:Pos}{bO fj:TE}
theorem Zf7(b_:PE X e bO)(a6:attributeBase e f X.env (eval e X.env)=eval e X.env):PE X (.Attribute e f pos) (mA X.K bO f):=by
 intro aU s aM H Q I h;refine Zew a6 (thn (b_ aU s aM H _ I h) λu bj ⟨x,a1,bU,bL,a,C,bI,fs,v,ex,bR,c,n,l,q⟩=>?_);subst ex;obtain rfl:u=Value.ref a:=bL;exact Zco bU bR c n l λi6 bQ cF ew=>⟨v,a1,cF,ew,q⟩
theorem Zfd(bK:PE X o bO)(b8:PE X value fj)(bN:swapsWith value (some (.Attribute o f hi)) pos.line X.env=pure false):PS X (.Assign [.Attribute o f hi] value pos) (mB X.K bO fj f):=by
 intro aU s aM H D I h;refine plainObj_wpAny_Assign_Attribute (thn (b8 aU s aM H _ I h) λu bj ⟨y,a1,bU,bX,q⟩=>thn (bK aU bj aM a1 _ bU q) λdw bQ ⟨x,a8,cF,bL,a,C,bI,fs,ex,bR,c,n,l,cv⟩=>?_) bN;subst ex;obtain rfl:dw=Value.ref a:=bL;exact ZbV cF bR c n l bX λbV dA=>⟨aM,_,dA,cv⟩
theorem Zf9{pl:Sem Bool}{m:Str}{dF:Pos}{args:List Expr}{aU:List (Addr×Obj)}{s:Shared}{aM:St}{H:Hp}{Q:Value→Shared→Prop}{cn:TE}(b_:PE X e cn)(I:Inv X aU aM H s)
  (h:cn aM H λx a1=>∃a C bI fs g,x= .ref a∧a1 a=some (.ins C bI fs)∧Cls X.K C∧VW X.K C m g∧fs.lookup m=none∧
   ∀bj,Inv X aU aM a1 bj→wpAny (model X.prog X.w) X.A (callWith pos (.ref g) [.ref a] (backTo pos (starEach args X.env)) (backToKw pos (keywordEach [] X.env))) Q X.xe bj)
  (cL:eval (.Call (.Attribute e m dF) args [] pos) X.env=(do
   let dw←eval e X.env
   standAt dF.atName
   let(f,first)←holding [dw] (getMethod dw m pl)
   callWith pos f first (backTo pos (starEach args X.env)) (backToKw pos (keywordEach [] X.env)))):
  wpAny (model X.prog X.w) X.A (eval (.Call (.Attribute e m dF) args [] pos) X.env) Q X.xe s:=by
 refine methodCall_KW (pl:=pl) (thn (b_ aU s aM H _ I h) λu bj ⟨x,a1,bU,bL,a,C,bI,fs,g,ex,bR,c,k,l,q⟩=>?_) cL;subst ex;obtain rfl:u=Value.ref a:=bL;exact Wf bU bR c k l (q bj bU)
end
section
variable {X:Cx}{aU:List (Addr×Obj)}{aM:St}{H:Hp}{s:Shared}{A:Around}{E:Value→Shared→Prop}{Q:Value→Shared→Prop}{c:Value}{b:Bool}
inductive Yh(K:Frag)(H:Hp):V→Value→Prop where
 |non:Yh K H .non (.type "NoneType")
 |bl (x:Bool):Yh K H (.bl x) (.type "bool")
 |int (i:Int):Yh K H (.int i) (.type "int")
 |str (x:Str):Yh K H (.str x) (.type "str")
 |flt (x:UInt64):Yh K H (.flt x) (.type "float")
 |lst {a:Addr} {xs:List V} (e:H a=some (.lst xs)):Yh K H (.ref a) (.type "list")
 |frz {a:Addr} {o:Obj} {xs:List V} (e:H a=some (.frz o (.lst xs))):Yh K H (.ref a) (.type "list")
 |tup {a:Addr} {xs:List V} (e:H a=some (.tup xs)):Yh K H (.ref a) (.type "tuple")
 |dK {a:Addr} {kvs:List (Key×V)} (e:H a=some (.dK kvs)):Yh K H (.ref a) (.type "dict")
 |dT {a:Addr} {kvs:List (List Key×V)} (e:H a=some (.dT kvs)):Yh K H (.ref a) (.type "dict")
 |ins {a C bI:Addr} {fs:List (Str×V)} (e:H a=some (.ins C bI fs)) (cl:Cls K C) (bK:PySem.W.findIn K (.ref C) "__class__" =some (some (.builtin "object.__class__")))
   (bM:PySem.W.specialIn K (.builtin "object.__class__") "__get__" =some (some (.builtin "getset_descriptor.__get__"))) (ph:PySem.W.takesIn K (.builtin "object.__class__")=some true)
   (bZ:PySem.W.mroIn K C (.type "object")=some true):Yh K H (.ref a) (.ref C)
theorem Zcz{x:V}{u t:Value}(I:Inv X aU aM H s)(bL:cu x u)(ty:Yh X.K H x t)(e:PySem.W.kitOne X.K t c=some b)(h:∀cW,Q (.bool b) {s with toks:=cW}):
  wpAny (model X.prog X.w) A (call (.builtin "isinstance") [u,c]) Q E s:=by
 cases ty with
 |non=>cases (show u=Value.none from bL);exact Qw PySem.W.kitx_none I.kIn True.intro e (λz=>nomatch z) h
 |bl y=>cases (show u=Value.bool y from bL);exact Qw PySem.W.kitx_bool I.kIn True.intro e (λz=>nomatch z) h
 |int i=>obtain⟨t,q⟩:=(show ∃t,u=Value.int i t from bL);cases q;exact Qw PySem.W.kitx_int I.kIn True.intro e (λz=>nomatch z) h
 |str y=>obtain⟨t,q⟩:=(show ∃t,u=Value.str y t from bL);cases q;exact Qw PySem.W.kitx_str I.kIn True.intro e (λz=>nomatch z) h
 |flt y=>obtain⟨t,q⟩:=(show ∃t,u=Value.float y t from bL);cases q;exact Qw PySem.W.kitx_float I.kIn True.intro e (λz=>nomatch z) h
 | @lst a xs bR=>
  cases (show u=Value.ref a from bL);obtain⟨_,_,n,_,a_⟩:=(show ZF X.prog X.w H s.heap a (.lst xs) from I.hok a _ bR);exact Qw kitx_list I.kIn ⟨_,a_,rfl⟩ e (λz=>nomatch z) h
 | @frz a cD xs bR=>
  cases (show u=Value.ref a from bL);obtain⟨_,_,_,n,_,a_⟩:=(show ZF X.prog X.w H s.heap a (.frz cD (.lst xs)) from I.hok a _ bR);exact Qw kitx_list I.kIn ⟨_,a_,rfl⟩ e (λz=>nomatch z) h
 | @tup a xs bR=>
  cases (show u=Value.ref a from bL);obtain⟨_,_,_,p⟩:=(show ZF X.prog X.w H s.heap a (.tup xs) from I.hok a _ bR);obtain⟨o,a_,bd,_⟩:=p;exact Qw PySem.W.kitx_tuple I.kIn ⟨o,a_,bd⟩ e (λz=>nomatch z) h
 | @dK a kvs bR=>
  cases (show u=Value.ref a from bL);obtain⟨_,_,vs,_,p⟩:=(show ZF X.prog X.w H s.heap a (.dK kvs) from I.hok a _ bR);obtain⟨o,bS,ep,a_,bd,_⟩:=p;exact Qw kitx_dict I.kIn ⟨o,a_,bd.1⟩ e (λz=>nomatch z) h
 | @dT a kvs bR=>
  cases (show u=Value.ref a from bL);obtain⟨_,_,xs,_,o,bS,ep,a_,bd,_⟩:=(show ZF X.prog X.w H s.heap a (.dT kvs) from I.hok a _ bR);exact Qw kitx_dict I.kIn ⟨o,a_,bd.1⟩ e (λz=>nomatch z) h
 | @ins a C bI fs bR cl bK bM ph bZ=>
  cases (show u=Value.ref a from bL);obtain⟨dh,O,_⟩:=Vv I.hok bR;obtain⟨di,J,_⟩:=O.look;exact Qw (PySem.W.kitx_own (cl.get _) cl.hd bK bM ph bZ) I.kIn J e (λz=>nomatch z) h
end
structure dx(k:Nat)(A:Around):Prop where
 hd:A.handled=none
 dp:A.depth+3*k+5<recursionLimit
 un:A.units+16*k+200<cLine
theorem dx.mono{j k:Nat}{A:Around}(r:dx k A)(h:j≤k):dx j A:=⟨r.hd,by have:=r.dp;omega,by have:=r.un;omega⟩
theorem dx.deeper{k:Nat}{A:Around}(r:dx (k+1) A)(env:Env):dx k (A.deeper env):=
 ⟨r.hd,by have:=r.dp;show A.depth+1+3*k+5<_;omega,by have:=r.un;show A.units+3+16*k+200<_;omega⟩
theorem Zck{A:Around}{C:Addr}{us:List Value}{kw:List (Str×Value)}:(A.under (.builtin "type.__call__" ⟨.ref C::us,kw⟩)).depth=A.depth+1:=by
 first|rfl|simp[Around.under,Code.weight,Code.isCreation,Code.isGuard,Code.isCaller,Code.frames,Code.isFrame,guardIds]
theorem ZbS{A:Around}{C:Addr}{us:List Value}{kw:List (Str×Value)}:(A.under (.builtin "type.__call__" ⟨.ref C::us,kw⟩)).units=A.units+1:=by
 first|rfl|simp[Around.under,Code.cUnits,Code.frames,Code.isFrame]
theorem dx.make{k:Nat}{A:Around}(r:dx (k+1) A)(C:Addr)(us:List Value)(kw:List (Str×Value)):dx k (A.under (.builtin "type.__call__" ⟨.ref C::us,kw⟩)):=
 ⟨r.hd,by have:=r.dp;rw[Zck];omega,by have:=r.un;rw[ZbS];omega⟩
theorem dx.depth{k:Nat}{A:Around}(r:dx k A):A.depth<recursionLimit:=by have:=r.dp;omega
theorem dx.units{k:Nat}{A:Around}(r:dx k A):A.units+64<cLine:=by have:=r.un;omega
noncomputable def tNil:TA:=λ_ H Q=>Q [] H
noncomputable def pi (bO:TE) (lq:TA):TA:=λaM H Q=>bO aM H λx a1=>lq aM a1 λxs a8=>Q (x::xs) a8
section
variable {X:Cx}{e:Expr}{bS:List Expr}{cn:TE}{t:TA}{pos:Pos}
theorem bJ:PA X [] tNil:=λ_ _ _ _ H Q I h=>Calls.spliced_nil ⟨[],H,I,.nil,h⟩
theorem a7(bK:PE X e cn)(a':PA X bS t)(bN:starEach (e::bS) X.env=(false,eval e X.env)::starEach bS X.env:=by rfl):PA X (e::bS) (pi cn t):=by
 intro pos aU s aM H Q I h;rw[bN];show wpAny _ _ (spliced ((false,eval e X.env)::backTo pos (starEach bS X.env))) _ _ s;refine Calls.spliced_cons (thn (bK aU s aM H _ I h) λu bj ⟨x,a1,bU,cr,ck⟩=>?_);exact thn (a' pos aU bj aM a1 _ bU ck) λus bQ ⟨xs,a8,cF,cM,cv⟩=>⟨x::xs,a8,cF,.cons cr cM,cv⟩
noncomputable def pj (t:TA):TE:=λaM H Q=>t aM H λxs a1=>xs.length≤sizeLine∧∀p,a1 p=none→Q (.ref p) (upd a1 p (.tup xs))
noncomputable def pk (t:TA):TE:=λaM H Q=>t aM H λxs a1=>xs.length≤sizeLine∧∀p,a1 p=none→Q (.ref p) (upd a1 p (.lst xs))
theorem hT{x1}(h:PA X bS t):PE X (.Tuple bS x1 pos) (pj t):=by
 intro aU s aM H Q I b7;refine wpAny_Tuple_spliced (thn (h pos aU s aM H _ I b7) λus bj ⟨xs,a1,bU,r,z,q⟩=>⟨by rw[←r.length];exact z,?_⟩);have cj:a1 bj.heap.objs.size=none:=bU.hok.fresh (Qc _);refine⟨.ref bj.heap.objs.size,upd a1 bj.heap.objs.size (.tup xs),bU.laid (t':=bj.toks) (λb u e=>Heap.get?_push_of_some _ e) (Qc _) ?_,rfl,q _ cj⟩;exact⟨z,us,r,⟨_,Heap.get?_push_size _ rfl,rfl,_,rfl⟩⟩
theorem el(h:PA X bS t):PE X (.List bS pos) (pk t):=by
 intro aU s aM H Q I b7;refine wpAny_List_spliced (thn (h pos aU s aM H _ I b7) λus bj ⟨xs,a1,bU,r,z,q⟩=>⟨by rw[←r.length];exact z,?_⟩);have cj:a1 bj.heap.objs.size=none:=bU.hok.fresh (Qc _);refine⟨.ref bj.heap.objs.size,upd a1 bj.heap.objs.size (.lst xs),bU.laid (t':=bj.toks) (λb u e=>Heap.get?_push_of_some _ e) (Qc _) ?_,rfl,q _ cj⟩;exact⟨z,us,0,r,Heap.get?_push_size _ rfl⟩
end
noncomputable abbrev Sp:=List V→Hp→VK→XK→Prop
noncomputable abbrev CXT:=List Env→Hp→Shared→XK→Value→Shared→Prop
structure VX(P:Program)(w:World)(K:Frag)(mg:Str→Option Value)(base:Heap)(A:Around)(outer:List Env)(s:Shared)(H:Hp):Prop where
 frames:A.frames=some outer
 mod:Mod K mg base
 bs:∀b o,base.get? b=some o→s.heap.get? b=some o∧H b=none
 bsz:base.objs.size≤s.heap.objs.size
 funs:s.heap.FunFrames base outer
 frf:∀b∈frs outer,H b=none
 hok:HOk P w H s.heap
 bare:AllBare s.gens
def CE(outer:List Env)(P:Program)(w:World)(H:Hp)(s:Shared)(Q:VK)(u:Value)(s':Shared):Prop:=
 ∃v aS,s'.os=s.os∧AllBare s'.gens∧Un (frs outer) [] H aS s.heap s'.heap∧HOk P w aS s'.heap∧cu v u∧Q v aS
def CR(CX:CXT)(outer:List Env)(P:Program)(w:World)(H:Hp)(s:Shared)(Q:VK)(E:XK)(r:Result)(s':Shared):Prop:=
 match r with
 | .ok (.ret u)=>CE outer P w H s Q u s'
 | .ok _=>False
 | .error e=>CX outer H s E e s'
structure ZX(P:Program)(w:World)(K:Frag)(mg:Str→Option Value)(base:Heap)(CX:CXT)(k:Nat)(f:Addr)(fd:FuncData)(bP:List Str)(sp:Sp):Prop where
 len:∀vs H Q E,sp vs H Q E→vs.length=bP.length
 run:∀(A:Around)(outer:List Env)(s:Shared)(H:Hp)(args:Args)(us:List Value)(vs:List V)(Q:VK)(E:XK),dx k A→VX P w K mg base A outer s H→BindsTo s fd args (bP.zip us)→cf vs us→sp vs H Q E→
  codeAny (model P w) A (.call (.ref f) args) (CR CX outer P w H s Q E) s
theorem ZX.mono{P:Program}{w:World}{K:Frag}{mg:Str→Option Value}{base:Heap}{CX:CXT}{j k:Nat}{f:Addr}{fd:FuncData}{bP:List Str}{sp:Sp}(F:ZX P w K mg base CX j f fd bP sp)(h:j≤k):
  ZX P w K mg base CX k f fd bP sp:=⟨F.len,λA outer s H args us vs Q E a'=>F.run A outer s H args us vs Q E (a'.mono h)⟩
theorem VX.make{P:Program}{w:World}{K:Frag}{mg:Str→Option Value}{base:Heap}{A:Around}{outer:List Env}{s:Shared}{H:Hp}(e:VX P w K mg base A outer s H)(C:Addr)(us:List Value)(kw:List (Str×Value)):
  VX P w K mg base (A.under (.builtin "type.__call__" ⟨.ref C::us,kw⟩)) outer s H:=⟨by first|exact e.frames|(simpa[Around.under,Code.envs,Code.isFrame,pushEnvs] using e.frames),e.mod,e.bs,e.bsz,e.funs,e.frf,e.hok,e.bare⟩
section
variable {X:Cx}{aU:List (Addr×Obj)}{aM:St}{H:Hp}{s s':Shared}
theorem Inv.env0(I:Inv X aU aM H s):VX X.prog X.w X.K X.mg X.base X.A X.stack s H:=
 ⟨I.ok.frames,I.ok.mod,I.bs,Qn I.ok.bsz I.sz,I.stack,I.stkFree,I.hok,I.bare⟩
theorem Inv.after{Q:VK}{u:Value}(I:Inv X aU aM H s)(h:CE X.stack X.prog X.w H s Q u s'):EP X aU aM Q u s':=by
 obtain⟨v,aS,os,bare,un,hok,r,q⟩:=h;obtain⟨cw,g,d,t,sT⟩:=s';obtain rfl:sT=s.os:=os;exact⟨v,aS,I.call (h':=cw) (g':=g) (d':=d) (t':=t) (ch:=[]) un hok bare (λb z=>absurd z (by simp)),r,q⟩
end
noncomputable def mD (sp:Sp) (da:List V) (E:XK) (t:TA):TE:=λaM H Q=>t aM H λvs a1=>sp (vs++da) a1 Q E
noncomputable def j8 (C:Addr) (m:Str) (sp:Sp) (da:List V) (E:XK) (bO:TE) (t:TA):TE:=λaM H Q=>bO aM H λx a1=>∃a bI fs,x= .ref a∧a1 a=some (.ins C bI fs)∧fs.lookup m=none∧
 t aM a1 λvs a8=>sp (x::(vs++da)) a8 Q E
noncomputable def mE (C:Addr) (sp:Sp) (da:List V) (E:XK) (t:TA):TE:=λaM H Q=>t aM H λvs a1=>∀x bI,a1 x=none→a1 bI=none→bI≠x→
 sp (.ref x::(vs++da)) (upd (upd a1 bI (.own x)) x (.ins C bI [])) (λv a8=>v= .non∧Q (.ref x) a8) E
def Yk(K:Frag)(fd:FuncData)(bP:List Str)(cY:List Value):Prop:=
 ∀(s:Shared)(us:List Value),K.In s.heap→(us++cY).length=bP.length→BindsTo s fd ⟨us,[]⟩ (bP.zip (us++cY))
theorem Yk.all{K:Frag}{fd:FuncData}{bP:List Str}(h:∀us:List Value,us.length=bP.length→bindArgs fd ⟨us,[]⟩=pure (bP.zip us)):Yk K fd bP []:=λs us _ hl=>by
 rw[List.append_nil] at hl⊢;exact .of_eq (h us hl)
def Ys(CX:CXT)(X:Cx)(E:XK):Prop:=∀(aU:List (Addr×Obj))(aM:St)(H:Hp)(s:Shared)(e:Value)(s':Shared),Inv X aU aM H s→CX X.stack H s E e s'→X.xe e s'
section
variable {X:Cx}{CX:CXT}{k:Nat}{f C:Addr}{fd:FuncData}{bP:List Str}{sp:Sp}{da:List V}{cY:List Value}{E:XK}{x m:Str}{p pos dF:Pos}{e o:Expr}{bS:List Expr}{bO:TE}{t:TA}
theorem mF{aU:List (Addr×Obj)}{aM:St}{H:Hp}{s:Shared}{Q:VK}{us:List Value}{vs:List V}(F:ZX X.prog X.w X.K X.mg X.base CX k f fd bP sp)(a':dx k X.A)(a6:Yk X.K fd bP cY)(hd:cf da cY)(bc:Ys CX X E)
  (I:Inv X aU aM H s) (r:cf vs us) (h:sp (vs++da) H Q E):wpAny (model X.prog X.w) X.A (call (.ref f) us) (EP X aU aM Q) X.xe s:=by
 have cM:cf (vs++da) (us++cY):=r.append hd;have hl:(us++cY).length=bP.length:=by rw[←cM.length];exact F.len _ _ _ _ h
 refine wpAny_call (codeAny_mono (F.run X.A X.stack s H ⟨us,[]⟩ (us++cY) (vs++da) Q E a' I.env0 (a6 s us I.kIn hl) cM h) λr s' b7=>?_);cases r with
 |error e=>exact bc aU aM H s e s' I b7
 |ok ed=>
  cases ed with
  |ret u=>exact I.after b7
  |next=>exact False.elim b7
  |brk=>exact False.elim b7
  |cont=>exact False.elim b7
theorem ZeC(F:ZX X.prog X.w X.K X.mg X.base CX k f fd bP sp)(a':dx k X.A)(cs:Gl X x)(bZ:X.mg x=some (.ref f))(bY:keepIn X.K (.ref f)=true)(a6:Yk X.K fd bP cY)(hd:cf da cY)(bc:Ys CX X E)
  (bK:PA X (e::bS) t) (e_:(x==("__debug__" :Str))=false:=by decide) (b_:starEach (e::bS) X.env=(false,eval e X.env)::starEach bS X.env:=by rfl) (fk:(backTo pos (starEach bS X.env)).any (·.1)=false:=by rfl):
  PE X (.Call (.Name x p) (e::bS) [] pos) (mD sp da E t):=by
 intro aU s aM H Q I h;refine wpAny_Call_Name_kw (jX I cs bZ ?_ e_);refine callWith_K (h₀:=X.base) I.ok.mod.kin bY (thn (bK pos aU s aM H _ I h) λus bj ⟨vs,a1,bU,r,q⟩=>⟨bU.kIn,?_⟩) b_ fk;exact mF F a' a6 hd bc bU r q
theorem mG{pl:Sem Bool}(b_:PE X o bO)(c:Cls X.K C)(bZ:VW X.K C m f)(F:ZX X.prog X.w X.K X.mg X.base CX k f fd bP sp)(a':dx k X.A)(a6:Yk X.K fd bP cY)(hd:cf da cY)(bc:Ys CX X E)(bK:PA X (e::bS) t)
  (eZ:starEach (e::bS) X.env=(false,eval e X.env)::starEach bS X.env:=by rfl) (fk:(backTo pos (starEach bS X.env)).any (·.1)=false:=by rfl)
  (cL:eval (.Call (.Attribute o m dF) (e::bS) [] pos) X.env=(do
   let dw←eval o X.env
   standAt dF.atName
   let(f,first)←holding [dw] (getMethod dw m pl)
   callWith pos f first (backTo pos (starEach (e::bS) X.env)) (backToKw pos (keywordEach [] X.env))):=by rfl):
  PE X (.Call (.Attribute o m dF) (e::bS) [] pos) (j8 C m sp da E bO t):=by
 intro aU s aM H Q I h;refine methodCall_KW (pl:=pl) (thn (b_ aU s aM H _ I h) λu bj ⟨x,a1,bU,bL,a,bI,fs,ex,bR,l,q⟩=>?_) cL;subst ex;obtain rfl:u=Value.ref a:=bL;refine Wf bU bR c bZ l ?_;refine callWith_K (first:=[.ref a]) (h₀:=X.base) I.ok.mod.kin bZ.kp (thn (bK pos aU bj aM a1 _ bU q) λus bQ ⟨vs,a8,cF,r,cv⟩=>⟨cF.kIn,?_⟩) eZ fk;exact mF (us:= .ref a::us) (vs:= .ref a::vs) F a' a6 hd bc cF (.cons rfl r) cv
theorem ZdV{pl:Sem Bool}(b_:PE X o bO)(c:Cls X.K C)(bZ:VW X.K C m f)(F:ZX X.prog X.w X.K X.mg X.base CX k f fd bP sp)(a':dx k X.A)(a6:Yk X.K fd bP cY)(hd:cf da cY)(bc:Ys CX X E)
  (cL:eval (.Call (.Attribute o m dF) [] [] pos) X.env=(do
   let dw←eval o X.env
   standAt dF.atName
   let(f,first)←holding [dw] (getMethod dw m pl)
   callWith pos f first (backTo pos (starEach [] X.env)) (backToKw pos (keywordEach [] X.env))):=by rfl):
  PE X (.Call (.Attribute o m dF) [] [] pos) (j8 C m sp da E bO tNil):=by
 intro aU s aM H Q I h;refine methodCall_KW (pl:=pl) (thn (b_ aU s aM H _ I h) λu bj ⟨x,a1,bU,bL,a,bI,fs,ex,bR,l,q⟩=>?_) cL;subst ex;obtain rfl:u=Value.ref a:=bL;refine Wf bU bR c bZ l ?_;exact callWith_K0 (first:=[.ref a]) bU.kIn bZ.kp (mF (us:=[.ref a]) (vs:=[.ref a]) F a' a6 hd bc bU (.cons rfl .nil) q)
structure Mk(K:Frag)(C f:Addr):Prop where
 makes:makesIn K C=true
 init:PySem.W.findIn K (.ref C) "__init__" =some (some (.ref f))
 fn:isFn K (.ref f)=true
 kp:keepIn K (.ref C)=true
theorem sU{aU:List (Addr×Obj)}{aM:St}{H:Hp}{s:Shared}{Q:VK}{us:List Value}{vs:List V}(M:Mk X.K C f)(F:ZX X.prog X.w X.K X.mg X.base CX k f fd bP sp)(a':dx (k+1) X.A)(a6:Yk X.K fd bP cY)(hd:cf da cY)
  (bc:Ys CX X E) (I:Inv X aU aM H s) (r:cf vs us)
  (h:∀x bI,H x=none→H bI=none→bI≠x→sp (.ref x::(vs++da)) (upd (upd H bI (.own x)) x (.ins C bI [])) (λv a8=>v= .non∧Q (.ref x) a8) E):
  wpAny (model X.prog X.w) X.A (call (.ref C) us) (EP X aU aM Q) X.xe s:=by
 have b7:=h (s.heap.objs.size+1) s.heap.objs.size (I.hok.fresh (Nat.le_succ _)) (I.hok.fresh (Qc _)) (Ql (Nat.lt_succ_self _));have cF:=Inv.made (C:=C) I;have cM:cf (V.ref (s.heap.objs.size+1)::(vs++da)) (Value.ref (s.heap.objs.size+1)::(us++cY)):= .cons rfl (r.append hd);have hl:(Value.ref (s.heap.objs.size+1)::us++cY).length=bP.length:=by
  have e:=cM.length;rw[F.len _ _ _ _ b7] at e;exact e.symm
 refine wpAny_call (sQ (f:=f) I.kIn M.makes M.init (beq_iff_eq.mp M.fn) (codeAny_mono (F.run _ X.stack _ _ ⟨Value.ref (s.heap.objs.size+1)::us,[]⟩ (Value.ref (s.heap.objs.size+1)::(us++cY)) _ _ E (a'.make C us [])
  (cF.env0.make C us []) (a6 _ (Value.ref (s.heap.objs.size+1)::us) cF.kIn hl) cM b7) λr s' j9=>?_))
 cases r with
 |error e=>exact bc aU aM _ _ e s' cF j9
 |ok ed=>
  cases ed with
  |ret u=>
   obtain⟨v,aS,dA,c7,hU,d2⟩:=cF.after j9;subst hU;exact⟨c7,⟨V.ref (s.heap.objs.size+1),aS,dA,rfl,d2⟩⟩
  |next=>exact False.elim j9
  |brk=>exact False.elim j9
  |cont=>exact False.elim j9
theorem ZdT(M:Mk X.K C f)(F:ZX X.prog X.w X.K X.mg X.base CX k f fd bP sp)(a':dx (k+1) X.A)(cs:Gl X x)(bZ:X.mg x=some (.ref C))(a6:Yk X.K fd bP cY)(hd:cf da cY)(bc:Ys CX X E)
  (e_:(x==("__debug__" :Str))=false:=by decide):PE X (.Call (.Name x p) [] [] pos) (mE C sp da E tNil):=by
 intro aU s aM H Q I h;refine wpAny_Call_Name_kw (jX I cs bZ ?_ e_);exact callWith_K0 I.kIn M.kp (sU (us:=[]) M F a' a6 hd bc I .nil h)
end
section
variable {X:Cx}{CX:CXT}{k:Nat}{f C:Addr}{fd:FuncData}{bP gq:List Str}{sp:Sp}{E:XK}{x m:Str}{p pos dF zO:Pos}{e o:Expr}{bS:List Expr}{zP:List Keyword}{cn bO:TE}{t cW:TA}{nm:Option Str}
variable {g:List Value→List Value→List Value}{zQ:List V→List V→List V}
end
structure Zy(N P:List Str)(bT:Scope):Prop where
 kind:bT.kind= .function
 co:bT.isCoroutine=false
 gen:bT.isGenerator=false
 nd:N.Nodup
 pre:N.take P.length=P
 par:∀x∈P,bT.names.lookup x=some .local∨bT.names.lookup x=some .cell
 nofree:∀y∈bT.names,y.2≠ .free
theorem Zag{kindOf:Str→Option NameKind}{x:Str}:∀{binds:List (Str×Value)}{m:Str→Option Value},(∀v,(x,v)∉binds)→bindL kindOf binds m x=m x
 | [],_,_=>rfl
 |(n,v)::r,m,h=>by
  unfold bindL;rw[Zag λw hw=>h w (Qo _ hw)]
  split
  ·have:x≠n:=by rintro rfl;exact h v QQ
   simp[this]
  ·rfl
theorem Zad{kindOf:Str→Option NameKind}{x:Str}:∀{binds:List (Str×Value)}{m:Str→Option Value},(∀v,(x,v)∉binds)→bindC kindOf binds m x=m x
 | [],_,_=>rfl
 |(n,v)::r,m,h=>by
  unfold bindC;rw[Zad λw hw=>h w (Qo _ hw)]
  split
  ·rfl
  ·have:x≠n:=by rintro rfl;exact h v QQ
   simp[this]
theorem pm{kindOf:Str→Option NameKind}{x:Str}{v:Value}:∀{P:List Str}{vs:List Value}{i:Nat}{m:Str→Option Value},P.Nodup→P[i]? =some x→vs[i]? =some v→kindOf x=some .local→
  bindL kindOf (P.zip vs) m x=some v
 | [],_,_,_,_,h,_,_=>by simp at h
 |_::_,[],_,_,_,_,h,_=>by simp at h
 |p::P,w::vs,0,m,nd,a_,bd,bY=>by
  simp at a_ bd;subst a_;subst bd;show bindL kindOf ((p,w)::P.zip vs) m p=_;unfold bindL;rw[Zag λv b8=>(Q1.mp nd).1 (List.of_mem_zip b8).1,if_pos bY];simp
 |p::P,w::vs,i+1,m,nd,a_,bd,bY=>by
  show bindL kindOf ((p,w)::P.zip vs) m x=_;unfold bindL;exact pm (i:=i) (Q1.mp nd).2 (by simpa using a_) (by simpa using bd) bY
theorem Zah{kindOf:Str→Option NameKind}{x:Str}{v:Value}:∀{P:List Str}{vs:List Value}{i:Nat}{m:Str→Option Value},P.Nodup→P[i]? =some x→vs[i]? =some v→kindOf x≠some .local→
  bindC kindOf (P.zip vs) m x=some v
 | [],_,_,_,_,h,_,_=>by simp at h
 |_::_,[],_,_,_,_,h,_=>by simp at h
 |p::P,w::vs,0,m,nd,a_,bd,bY=>by
  simp at a_ bd;subst a_;subst bd;show bindC kindOf ((p,w)::P.zip vs) m p=_;unfold bindC;rw[Zad λv b8=>(Q1.mp nd).1 (List.of_mem_zip b8).1,if_neg bY];simp
 |p::P,w::vs,i+1,m,nd,a_,bd,bY=>by
  show bindC kindOf ((p,w)::P.zip vs) m x=_;unfold bindC;exact Zah (i:=i) (Q1.mp nd).2 (by simpa using a_) (by simpa using bd) bY
noncomputable def start (N:List Str) (vs:List V):St:=vs.map some++List.replicate (N.length-vs.length) none
noncomputable def ZJ (CX:CXT) (P:Program) (w:World) (K:Frag) (mg:Str→Option Value) (base:Heap) (N:List Str) (qual:Str) (scope:Scope) (f:Addr) (cE:Value) (A:Around) (outer:List Env) (s:Shared) (H:Hp) (E:XK):Cx where
 prog:=P
 w:=w
 K:=K
 mg:=mg
 base:=base
 A:=A.deeper (envOfC qual scope s.heap.objs.size f cE)
 N:=N
 s₀:=s
 H₀:=H
 env:=envOfC qual scope s.heap.objs.size f cE
 outer:=outer
 stack:=envOfC qual scope s.heap.objs.size f cE::outer
 ex:=[]
 calm:=true
 fn:=λ_=>true
 pn:=[]
 xe:=λe s'=>wpAny (model P w) (A.deeper (envOfC qual scope s.heap.objs.size f cE)) (leaving (envOfC qual scope s.heap.objs.size f cE) e) (λ_ j_=>CX outer H s E e j_) (λb6 j_=>CX outer H s E b6 j_) s'
theorem ZaK{bT:Scope}{n:Nat}{x:Str}(h:bT.names.lookup x=some .cell):∃c,(cellsFrom n bT.names []).lookup x=some c:=by
 have q:=cellsFrom_some bT.names n [] (.inl h);exact QZ.mp q
theorem Zc2{CX:CXT}{P:Program}{w:World}{K:Frag}{mg:Str→Option Value}{base:Heap}{N bP:List Str}{qual:Str}{scope:Scope}{f:Addr}{cE:Value}{A:Around}{outer:List Env}{s bj:Shared}{H:Hp}{E:XK}{us:List Value}{vs:List V}
  (S:Zy N bP scope) (hd:A.handled=none) (e3:VX P w K mg base A outer s H) (hl:vs.length=bP.length) (r:cf vs us)
  (x:InCallC s s.heap.objs.size (bindL (envOfC qual scope s.heap.objs.size f cE).kindOf (bP.zip us) λ_=>none) (cellsFrom (s.heap.objs.size+1) scope.names []) (bindC (envOfC qual scope s.heap.objs.size f cE).kindOf (bP.zip us) λ_=>none) bj):
  Inv (ZJ CX P w K mg base N qual scope f cE A outer s H E) [] (start N vs) H bj:=by
 have fk:bP.length≤N.length:=by have:=congrArg List.length S.pre;rw[Q5] at this;omega
 obtain⟨a_,cW,rfl,bY⟩:=x.done;have ka:∀b:Addr,b∉(ZJ CX P w K mg base N qual scope f cE A outer s H E).ex:=λb z=>absurd (show b∈([]:List Addr) from z) (by simp);refine⟨⟨e3.mod,S.kind,rfl,rfl,Qc _,λy z c a_ bd=>?_,λy cH=>?_,λy c _ h=>?_,λ_=>hd,Around.frames_deeper e3.frames,.inr ⟨rfl,rfl⟩,λb z=>absurd z (ka b),e3.bs,e3.bsz,λb _ _=>ka b,λb z=>absurd z (ka b),e3.funs,e3.frf⟩,
  rfl,e3.bare,Un.kept bY,⟨_,x.toInCall.ns,λi y v a_ bd cx=>?_⟩,λy c h=>⟨_,x.cell y c h⟩,e3.hok.fresh (Qc _),λy c h=>?_,λp b3=>absurd (show p∈([]:List (Addr×Obj)) from b3) (by simp),e3.hok.kept bY,?_⟩
 ·exact name_of_addr x.apart (QJ a_) (QJ bd)
 ·have cH:scope.names.lookup y=some .cell∨scope.names.lookup y=some .free:=cH;rcases cH with cH|cH
  ·exact ZaK cH
  ·exact absurd rfl (S.nofree _ (QJ cH))
 ·exact QK (x.above y c (QJ h))
 ·have bb:i<vs.length:=by
   unfold start at bd
   by_cases bb:i<vs.length
   ·exact bb
   ·rw[Qz (by simpa using bb)] at bd;rw[List.getElem?_replicate] at bd
    split at bd<;>cases bd
  have bK:vs[i]? =some v:=by
   unfold start at bd;rw[List.getElem?_append_left (by simpa using bb),QH] at bd;cases e:vs[i]? with
   |none=>rw[e] at bd;cases bd
   |some a=>rw[e] at bd;cases bd;rfl
  obtain⟨u,hu,c7⟩:=r.get bK;have b3:bP[i]? =some y:=by
   rw[←S.pre,List.getElem?_take_of_lt (by omega)];exact a_
  have pp:bP.Nodup:=by rw[←S.pre];exact S.nd.sublist (List.take_sublist _ _)
  refine⟨u,c7,?_⟩;rcases S.par y (QG b3) with k|k
  ·exact .inl ⟨k,pm pp b3 hu k⟩
  ·obtain⟨c,e⟩:=ZaK (n:=s.heap.objs.size+1) k;refine .inr ⟨.inl k,c,e,?_⟩;have q:=x.cell y c e;rw[Zah pp b3 hu (by show scope.names.lookup y≠_;rw[k];decide)] at q;exact q
 ·exact e3.hok.fresh (QK (x.above y c (QJ h)))
 ·unfold start;show _=N.length;rw[Qg,Qe,QC];omega
theorem Zek{CX:CXT}{P:Program}{w:World}{K:Frag}{mg:Str→Option Value}{base:Heap}{k:Nat}{f:Addr}{name qual:Str}{params:Arguments}{body:List Stmt}{scope:Scope}{lr kV dU dJ cy ct d0:Value}{an di:Option Addr}
  {eT:Array (Option Value)} {N bP:List Str} {sp:Sp} (lk:K.lookup f=some ⟨d0,di,.func (fnOf name qual params body scope lr kV dU dJ an cy ct),eT⟩) (fV:codeIn K cy qual=true) (S:Zy N bP scope)
  (len:∀vs H Q E,sp vs H Q E→vs.length=bP.length)
  (kb:∀(A:Around)(outer:List Env)(s:Shared)(H:Hp)(vs:List V)(Q:VK)(E:XK),dx k (A.deeper (envOfC qual scope s.heap.objs.size f cy))→sp vs H Q E→
   ∃t,PSs (ZJ CX P w K mg base N qual scope f cy A outer s H E) body t∧t {nx:=λ_ aS=>Q .non aS,rt:=Q} (start N vs) H):
  ZX P w K mg base CX (k+1) f (fnOf name qual params body scope lr kV dU dJ an cy ct) bP sp:=by
 refine⟨len,λA outer s H args us vs Q E a' e3 a6 r gd=>?_⟩;have hl:=len _ _ _ _ gd;have d9:K.In s.heap:=e3.mod.kin.keeps λb o e=>(e3.bs b o e).1;have sV:s.heap.NoLimit:=e3.mod.nolimit.keeps λb o e=>(e3.bs b o e).1;have ip:∀y∈bP.zip us,scope.names.lookup y.1=some .local∨(scope.names.lookup y.1=some .cell∧((cellsFrom (s.heap.objs.size+1) scope.names []).lookup y.1).isSome=true):=λ⟨n,v⟩ cH=>by
  rcases S.par n (List.of_mem_zip cH).1 with q|q
  ·exact .inl q
  ·exact .inr ⟨q,cellsFrom_some _ _ _ (.inl q)⟩
 refine codeAny_call_function a'.depth (d9 _ _ lk) rfl S.co S.gen rfl (PySem.W.codeRec_of d9 fV) (a6 _ _ _ _ ?_);refine wpAny_newFunctionEnv_cells S.kind ip λenv b_ bj x=>?_;subst b_;refine⟨sV.keeps x.toInCall.keep,codeAny_func ?_⟩;obtain⟨t,cL,b7⟩:=kb A outer s H vs Q E (a'.deeper _) gd;have I:Inv (ZJ CX P w K mg base N qual scope f cy A outer s H E) [] (start N vs) H bj:=Zc2 S a'.hd e3 hl r x;refine wpAny_mono (cL [] bj (start N vs) H _ I b7) (λed s' bN=>?_) λe s' bN=>bN;have d5:∀{b0:St}{aS:Hp}{v:V}{u:Value},Inv (ZJ CX P w K mg base N qual scope f cy A outer s H E) [] b0 aS s'→cu v u→Q v aS→CE outer P w H s Q u s':=
  λ{b0 aS v u} J c7 q=>⟨v,aS,J.os,J.bare,J.base,J.hok,c7,q⟩
 cases ed with
 |ret u=>
  obtain⟨v,b0,aS,J,c7,q⟩:=bN;exact d5 J c7 q
 |next=>
  obtain⟨b0,aS,J,q⟩:=bN;exact d5 (v:=V.non) (u:=Value.none) J rfl q
 |brk=>
  obtain⟨_,_,_,q⟩:=bN;exact False.elim q
 |cont=>
  obtain⟨_,_,_,q⟩:=bN;exact False.elim q
section
variable {X:Cx}{x:Str}{p pos:Pos}{e:Expr}{bS:List Expr}{t:TA}{id T:String}{r:List V→Hp→VK→Prop}
noncomputable def tCB (r:List V→Hp→VK→Prop) (t:TA):TE:=λaM H Q=>t aM H λvs a1=>r vs a1 Q
theorem dj(bH:Yc X (.builtin id) r)(cs:Gl X x)(bZ:X.mg x=none)(b8:bootBuiltins x=some (.builtin id))(bK:PA X (e::bS) t)(bM:x≠"__name__" :=by decide)(e_:(x==("__debug__" :Str))=false:=by decide)
  (b_:starEach (e::bS) X.env=(false,eval e X.env)::starEach bS X.env:=by rfl) (fk:(backTo pos (starEach bS X.env)).any (·.1)=false:=by rfl):PE X (.Call (.Name x p) (e::bS) [] pos) (tCB r t):=by
 intro aU s aM H Q I h;refine wpAny_Call_Name_kw (i_ I cs bZ b8 ?_ bM e_);exact PyProof.Rows.callWith_builtin1 (thn (bK pos aU s aM H _ I h) λus bj ⟨vs,a1,bU,cr,ck⟩=>bH aU bj aM a1 vs us Q bU cr ck) b_ fk
theorem mH(bH:Yc X (.type T) r)(cs:Gl X x)(bZ:X.mg x=none)(b8:bootBuiltins x=some (.type T))(bK:PA X (e::bS) t)(bM:x≠"__name__" :=by decide)(e_:(x==("__debug__" :Str))=false:=by decide)
  (b_:starEach (e::bS) X.env=(false,eval e X.env)::starEach bS X.env:=by rfl) (fk:(backTo pos (starEach bS X.env)).any (·.1)=false:=by rfl):PE X (.Call (.Name x p) (e::bS) [] pos) (tCB r t):=by
 intro aU s aM H Q I h;refine wpAny_Call_Name_kw (i_ I cs bZ b8 ?_ bM e_);exact QL (thn (bK pos aU s aM H _ I h) λus bj ⟨vs,a1,bU,cr,ck⟩=>bH aU bj aM a1 vs us Q bU cr ck) b_ fk
end
end L2
namespace HT
open PySem PyProof.Rows
section
open PySem.SeqAt
open PySem.AutoSeq1 (wpAny_loadPart')
open PySem.MeetsSeq PySem.MeetsSeq2 PySem.MeetsSeq3
end
section
variable {prog:Program}{w:World}{A:Around}{E:Value→Shared→Prop}{s:Shared}
theorem Zeu{t b:Addr}{vs eb:List Value}{Q:Value→Shared→Prop}(cL:IsTup s.heap t vs.toArray)(a6:IsTup s.heap b eb.toArray)(b8:vs≠[])
  (a_:eb=[]→Q (.ref t) s) (bd:eb≠[]→Q (.ref s.heap.objs.size) {s with heap:=s.heap.push {cls:= .type "tuple",data:= .seq (vs++eb).toArray}})
  (hsz:vs.length+eb.length≤sizeLine):wpAny (model prog w) A (binaryOp .Add (.ref t) (.ref b)) Q E s:=by
 obtain⟨⟨cls,dd,data,sl⟩,bW,bH,n,hd⟩:=id cL;obtain⟨⟨zR,pq,data2,pr⟩,ls,ps,fN,pu⟩:=id a6;simp only at bH hd ps pu;subst bH hd ps pu;have e:vs.toArray++eb.toArray=(vs++eb).toArray:=by simp
 by_cases hw:eb=[]
 ·exact concat_meets ⟨_,bW,rfl⟩ ⟨_,ls,rfl⟩ noFill_tuple_add seq_tuple_add PySem.F.slot_tuple_add PySem.F.entry_tuple_add (PySem.F.args_tuple_add_2 _ _)
   (tuple_addW1 t b vs.toArray eb.toArray n fN dd pq sl pr (by simpa using b8) (by simp[hw])) ⟨bW,ls,a_ hw⟩
 ·refine concat_meets ⟨_,bW,rfl⟩ ⟨_,ls,rfl⟩ noFill_tuple_add seq_tuple_add PySem.F.slot_tuple_add PySem.F.entry_tuple_add (PySem.F.args_tuple_add_2 _ _)
   (tuple_addW2 t b vs.toArray eb.toArray n fN dd pq sl pr (by simpa using b8) (by simpa using hw) (by rw[Qa,Qa];exact hsz)) ⟨bW,ls,?_⟩
  rw[e];exact bd hw
noncomputable def sIx (n d:Nat):Option Int→Nat
 |none=>d
 |some v=>if v<0 then(v+(n:Int)).toNat else min v.toNat n
theorem ZfL(n d:Nat)(hd:d≤n)(o:Option Int):sIx n d o≤n:=by
 cases o with
 |none=>exact hd
 |some v=>
  show(if v<0 then(v+(n:Int)).toNat else min v.toNat n)≤n
  by_cases b8:v<0
  ·rw[if_pos b8];omega
  ·rw[if_neg b8];exact Nat.min_le_right _ _
theorem ZbK(v:Int)(n d:Nat):(if v<0 then max (v+(n:Int)) 0 else min v (n:Int))=((sIx n d (some v):Nat):Int):=by
 show(if v<0 then max (v+(n:Int)) 0 else min v (n:Int))=(((if v<0 then(v+(n:Int)).toNat else min v.toNat n):Nat):Int)
 by_cases b8:v<0
 ·simp only[if_pos b8];omega
 ·simp only[if_neg b8];omega
theorem Zcs(lo bb:Option Int)(n:Nat):Builtin.Slice.sliceAdjust lo bb 1 (n:Int)=(((sIx n 0 lo:Nat):Int),((sIx n n bb:Nat):Int)):=by
 have a_:¬((1:Int)<0):=by omega
 unfold Builtin.Slice.sliceAdjust;simp only[a_,if_false];refine Prod.ext ?_ ?_
 ·cases lo with
  |none=>rfl
  |some v=>exact ZbK v n 0
 ·cases bb with
  |none=>rfl
  |some v=>exact ZbK v n n
theorem Zb2(i j:Nat):Builtin.Slice.slicePlaces (i:Int) (j:Int) 1=j-i:=by
 unfold Builtin.Slice.slicePlaces;have a_:(1:Int) > 0:=by omega
 simp only[a_,if_true,Int.ediv_one]
 split<;>omega
theorem pw{v:Value}{o:Option Int}{Q:Option Int→Shared→Prop}(p:IsPart v o)(h:Q o s):wpAny (model prog w) A (Builtin.Slice.slicePartIndex v) Q E s:=by
 cases p with
 |none=>exact slicePart_none h
 |int i t=>exact slicePart_int h
theorem sW{sl:Addr}{eD eE:Value}{lo bb:Option Int}{n:Nat}{Q:Int×Int×Nat→Shared→Prop}(bN:s.heap.IsSliceOf sl eD eE .none)(pl:IsPart eD lo)(fy:IsPart eE bb)
  (h:Q (((sIx n 0 lo:Nat):Int),1,sIx n n bb-sIx n 0 lo) s):wpAny (model prog w) A (Builtin.Slice.sliceApplied (.ref sl) (pure (n:Int))) Q E s:=by
 obtain⟨os,kc,px,iq⟩:=id bN;unfold Builtin.Slice.sliceApplied Builtin.Slice.sliceFields;refine wpAny_bind (wpAny_bind (wpAny_field kc iq (x:=eD) rfl (wpAny_bind (wpAny_field kc iq (x:=eE) rfl (wpAny_bind (wpAny_field kc iq (x:= .none) rfl (wpAny_pure ?_)))))));refine wpAny_bind (slicePart_none ?_);show wpAny _ _ (if((1:Int)==0)=true then _ else _) _ _ s;rw[if_neg (by decide)];refine wpAny_bind (pw pl (wpAny_bind (pw fy (wpAny_bind (wpAny_pure ?_)))));show wpAny _ _ (match Builtin.Slice.sliceAdjust lo bb 1 (n:Int) with|(lo,bb)=>pure (lo,(1:Int),Builtin.Slice.slicePlaces lo bb 1)) _ _ s;rw[Zcs lo bb n];show wpAny _ _ (pure (((sIx n 0 lo:Nat):Int),(1:Int),Builtin.Slice.slicePlaces ((sIx n 0 lo:Nat):Int) ((sIx n n bb:Nat):Int) 1)) _ _ s;rw[Zb2];exact wpAny_pure h
theorem sX(xs:Array Value)(i k:Nat):((List.range k).filterMap λ(m:Nat)=>xs[((i:Int)+(m:Int)*1).toNat]?).toArray=((xs.toList.drop i).take k).toArray:=by
 have e:(λ(m:Nat)=>xs[((i:Int)+(m:Int)*1).toNat]?)=λm=>xs[i+m]? :=by
  funext m
  have:((i:Int)+(m:Int)*1).toNat=i+m:=by omega
  rw[this]
 rw[e];have:=pick_run xs i k;rw[List.filterMap_map] at this;have ci:((λx=>xs[x]?)∘λx=>i+x)=λm=>xs[i+m]? :=rfl;rw[ci] at this;rw[this]
theorem VE{t sl:Addr}{dm:Array Value}{eD eE:Value}{lo bb:Option Int}{Q:Value→Shared→Prop}(cL:IsTup s.heap t dm)(bN:s.heap.IsSliceOf sl eD eE .none)(pl:IsPart eD lo)(fy:IsPart eE bb)
  (hw:¬(sIx dm.size 0 lo=0∧sIx dm.size dm.size bb=dm.size))
  (h:Q (.ref s.heap.objs.size) {s with heap:=s.heap.push {cls:= .type "tuple",data:= .seq ((dm.toList.drop (sIx dm.size 0 lo)).take (sIx dm.size dm.size bb-sIx dm.size 0 lo)).toArray}})
  (hsz:dm.size≤sizeLine):wpAny (model prog w) A (getItem (.ref t) (.ref sl)) Q E s:=by
 have lu:sizeOk (.seq ((dm.toList.drop (sIx dm.size 0 lo)).take (sIx dm.size dm.size bb-sIx dm.size 0 lo)).toArray):=by
  show((dm.toList.drop (sIx dm.size 0 lo)).take (sIx dm.size dm.size bb-sIx dm.size 0 lo)).toArray.size≤sizeLine;rw[Qa,Q5,List.length_drop,QW];omega
 have cN:sIx dm.size dm.size bb≤dm.size:=ZfL _ _ (Qc _) bb;obtain⟨os,kc,px,iq⟩:=id bN;have sY:s.TypeIs (.ref sl) "slice" :=⟨os,kc,px⟩;unfold getItem
 try with_reducible refine wpAny_holding ?_
 first|refine wpAny_bind (wpAny_pure ?_)|skip
 refine wpAny_bind (wpAny_sequenceKey cL.typeIs (by decide) ?_);refine wpAny_bind (wpAny_callSpecial?_slot (name:=Str.ofString "__getitem__") cL.typeIs QO
  (wpAny_call_entry QO cL.typeIs entry_tuple_getitem ?_ (args_tuple_getitem _ _)))
 show wpAny _ _ (Builtin.Tuple.tupleItemsOf (.ref t) >>= _) _ _ s;refine wpAny_bind (tupleItemsOf_ cL ?_);refine wpAny_bind (wpAny_typeOf sY ?_);rw[if_pos (by decide)];refine wpAny_bind (sW bN pl fy ?_);have lv:¬((((sIx dm.size 0 lo:Nat):Int)==0&&(1:Int)==1&&(sIx dm.size dm.size bb-sIx dm.size 0 lo)==dm.size)=true):=by
  intro q;rw[Qx,Qx] at q;have ck:((sIx dm.size 0 lo:Nat):Int)=0:=eq_of_beq q.1.1;have cv:sIx dm.size dm.size bb-sIx dm.size 0 lo=dm.size:=eq_of_beq q.2;exact hw ⟨by omega,by omega⟩
 show wpAny _ _ (if(((sIx dm.size 0 lo:Nat):Int)==0&&(1:Int)==1&&(sIx dm.size dm.size bb-sIx dm.size 0 lo)==dm.size)=true then _ else _) _ _ s;rw[if_neg lv,sX]
 first
  |exact wpAny_bind (m:=Builtin.Tuple.tupleExact _) (wpAny_newObj_type (wpAny_pure ⟨_,rfl,wpAny_pure h⟩) lu)
  |exact wpAny_bind (m:=Builtin.Tuple.tupleExact _) (wpAny_newObj_type (wpAny_bind (wpAny_pure (wpAny_pure ⟨_,rfl,wpAny_pure h⟩))) lu)
  |exact wpAny_bind (wpAny_bind (m:=Builtin.Tuple.tupleExact _) (wpAny_newObj_type (wpAny_pure (wpAny_pure ⟨_,rfl,wpAny_pure h⟩)) lu))
  |exact wpAny_bind (wpAny_bind (m:=Builtin.Tuple.tupleExact _) (wpAny_newObj_type (wpAny_pure ⟨_,rfl,wpAny_pure h⟩) lu))
end
end HT
namespace L2
open PySem PySem.Spec PyProof.Rows
noncomputable abbrev TO:=St→Hp→(Option Int→Hp→Prop)→Prop
def PO(X:Cx)(e:Option Expr)(t:TO):Prop:=
 ∀(aU:List (Addr×Obj))(s:Shared)(aM:St)(H:Hp)(Q:Option Int→Hp→Prop),Inv X aU aM H s→t aM H Q→
  wpAny (model X.prog X.w) X.A (evalPart e X.env) (λu s'=>∃o aS,Inv X aU aM aS s'∧IsPart u o∧Q o aS) X.xe s
noncomputable def tNoPart:TO:=λ_ H Q=>Q none H
noncomputable def pz (t:TE):TO:=λaM H Q=>t aM H λx a1=>∃i,x= .int i∧Q (some i) a1
section
variable {X:Cx}{e:Expr}{cn:TE}{lo bb:Option Expr}{fO e':TO}{pos lw:Pos}
theorem kd:PO X none tNoPart:=by
 intro aU s aM H Q I h;rw[evalPart_none];exact wpAny_pure ⟨none,H,I,.none,h⟩
theorem iu(h:PE X e cn):PO X (some e) (pz cn):=by
 intro aU s aM H Q I hw;rw[evalPart_some];refine thn (h aU s aM H _ I hw) λu bj ⟨x,a1,bU,cr,ck⟩=>?_;obtain⟨i,rfl,q⟩:=ck;obtain⟨t,rfl⟩:=cr;exact⟨some i,a1,bU,.int i t,q⟩
def SlR(X:Cx)(r:V→Option Int→Option Int→Hp→VK→Prop):Prop:=
 ∀(aU:List (Addr×Obj))(s:Shared)(aM:St)(H:Hp)(x:V)(v eD eE:Value)(lo bb:Option Int)(sl:Addr)(Q:VK),Inv X aU aM H s→cu x v→s.heap.IsSliceOf sl eD eE .none→IsPart eD lo→IsPart eE bb→r x lo bb H Q→
  ∃T id,typeLookup (.type T) "__getitem__" =pure (some (.builtin id))∧s.TypeIs v T∧wpAny (model X.prog X.w) X.A (getItem v (.ref sl)) (EP X aU aM Q) X.xe s
theorem SlR.or{r cz:V→Option Int→Option Int→Hp→VK→Prop}(h:SlR X r)(h':SlR X cz):SlR X (λx lo bb H Q=>r x lo bb H Q∨cz x lo bb H Q):=by
 intro aU s aM H x v eD eE lo bb sl Q I bL bN pl fy q;rcases q with q|q
 ·exact h aU s aM H x v eD eE lo bb sl Q I bL bN pl fy q
 ·exact h' aU s aM H x v eD eE lo bb sl Q I bL bN pl fy q
noncomputable def tSl (r:V→Option Int→Option Int→Hp→VK→Prop) (cn:TE) (fO e':TO):TE:=λaM H Q=>cn aM H λx a1=>fO aM a1 λl a8=>e' aM a8 λu b1=>r x l u b1 Q
theorem jj{r:V→Option Int→Option Int→Hp→VK→Prop}(a':SlR X r)(b_:PE X e cn)(hl:PO X lo fO)(hu:PO X bb e'):PE X (.Subscript e (.Slice lo bb none lw) pos) (tSl r cn fO e'):=by
 intro aU s aM H Q I h;refine Subscript_ (thn (b_ aU s aM H _ I h) λv bj ⟨x,a1,bU,cr,ck⟩=>?_);refine wpAny_Slice (thn (hl aU bj aM a1 _ bU ck) λeD bQ ⟨l,a8,cF,pl,cv⟩=>thn (hu aU bQ aM a8 _ cF cv) λeE bV ⟨u,b1,dA,fy,d2⟩=>?_);rw[evalPart_none];refine wpAny_pure ?_;have hj:Inv X aU aM b1 {bV with heap:=bV.heap.push {cls:= .type "slice",data:= .fields #[eD,eE,.none]}}:=dA.kept (t':=bV.toks) λb cD q=>Heap.get?_push_of_some _ q;obtain⟨T,id,hV,cL,cs⟩:=a' aU {bV with heap:=bV.heap.push {cls:= .type "slice",data:= .fields #[eD,eE,.none]}} aM b1 x v eD eE l u bV.heap.objs.size Q hj cr (Heap.IsSliceOf.new ..) pl fy d2;show wpAny (model X.prog X.w) X.A (subscriptTail e (.Slice lo bb none lw) v (.ref bV.heap.objs.size)) (EP X aU aM Q) X.xe {bV with heap:=bV.heap.push {cls:= .type "slice",data:= .fields #[eD,eE,.none]}};exact tail_any (ops:=[.ref bV.heap.objs.size,v]) cL hV cs (by with_unfolding_all rfl)
noncomputable def fZ (xs:List V) (lo bb:Option Int):List V:=(xs.drop (HT.sIx xs.length 0 lo)).take (HT.sIx xs.length xs.length bb-HT.sIx xs.length 0 lo)
theorem pA(xs:List V)(lo bb:Option Int):(fZ xs lo bb).length≤xs.length:=by
 unfold fZ;rw[Q5,List.length_drop];omega
noncomputable def pB (K:Frag):V→Option Int→Option Int→Hp→VK→Prop:=λx lo bb H Q=>∃a xs,x= .ref a∧SqT K H a xs∧
 ¬(HT.sIx xs.length 0 lo=0∧HT.sIx xs.length xs.length bb=xs.length)∧∀p,H p=none→Q (.ref p) (upd H p (.tup (fZ xs lo bb)))
theorem sZ:SlR X (pB X.K):=by
 intro aU s aM H x v eD eE lo bb sl Q I bL bN pl fy h;obtain⟨a,xs,rfl,bc,hw,q⟩:=h;cases bL;obtain⟨its,r,cL,cd⟩:=I.tuple bc;have dL:its.toArray.size=xs.length:=by rw[Qa];exact r.length.symm
 refine⟨"tuple",_,QO.lookup,cL.typeIs,?_⟩;refine HT.VE cL bN pl fy (by rw[dL];exact hw) ?_ (by rw[dL];exact cd);rw[dL];refine⟨.ref s.heap.objs.size,_,I.laid (t':=s.toks) (o:= .tup (fZ xs lo bb)) (λb cD q=>Heap.get?_push_of_some _ q) (Qc _) ?_,rfl,q _ (I.hok.fresh (Qc _))⟩;exact⟨Qn (pA xs lo bb) cd,_,(r.drop (HT.sIx xs.length 0 lo)).take (HT.sIx xs.length xs.length bb-HT.sIx xs.length 0 lo),IsTup.new _ _⟩
noncomputable def ke (K:Frag):R2:=λx y H Q=>∃a b xs ys,x= .ref a∧y= .ref b∧SqT K H a xs∧SqT K H b ys∧xs≠[]∧xs.length+ys.length≤sizeLine∧
 (ys=[]→Q (.ref a) H)∧(ys≠[]→∀p,H p=none→Q (.ref p) (upd H p (.tup (xs++ys))))
theorem cf.nil_iff{xs:List V}{us:List Value}(r:cf xs us):us=[]↔xs=[]:=by
 cases r with
 |nil=>simp
 |cons _ _=>simp
theorem s0:OpR X (binaryOp .Add) (ke X.K):=by
 intro aU s aM H x y v u Q I bL bX h;obtain⟨a,b,xs,ys,rfl,rfl,bK,a6,bc,cd,ck,cv⟩:=h;cases bL;cases bX;obtain⟨its,cr,s1,_⟩:=I.tuple bK;obtain⟨ho,cM,lw,_⟩:=I.tuple a6;refine HT.Zeu s1 lw (λz=>bc (cr.nil_iff.mp z)) (λz=>⟨.ref a,H,I,rfl,ck (cM.nil_iff.mp z)⟩) (λz=>?_) (by rw[←cr.length,←cM.length];exact cd);refine⟨.ref s.heap.objs.size,_,I.laid (t':=s.toks) (o:= .tup (xs++ys)) (λb cD q=>Heap.get?_push_of_some _ q) (Qc _) ?_,rfl,cv (λw=>z (cM.nil_iff.mpr w)) _ (I.hok.fresh (Qc _))⟩;exact⟨by rw[Qg];exact cd,_,cr.append cM,IsTup.new _ _⟩
end
noncomputable def ixN (n:Nat) (i:Int):Option Nat:=if 0≤i then(if i<n then some i.toNat else none) else if -(n:Int)≤i then some (i+n).toNat else none
noncomputable def atI {dY:Type} (xs:List dY) (i:Int):Option dY:=(ixN xs.length i).bind λj=>xs[j]?
theorem Zbw{n:Nat}{i:Int}{j:Nat}(h:ixN n i=some j):seqIndex? i n=some j∧j<n∧ -(n:Int)≤i∧i<n:=by
 unfold ixN at h
 by_cases du:0≤i
 ·rw[if_pos du] at h
  by_cases a_:i<n
  ·rw[if_pos a_] at h;have e:i.toNat=j:=Qk h;exact⟨by rw[seqIndex_of du a_,e],by omega,by omega,a_⟩
  ·rw[if_neg a_] at h;cases h
 ·rw[if_neg du] at h
  by_cases a_: -(n:Int)≤i
  ·rw[if_pos a_] at h;have e:(i+n).toNat=j:=Qk h;exact⟨by rw[seqIndex_neg (by omega) a_,e],by omega,a_,by omega⟩
  ·rw[if_neg a_] at h;cases h
theorem UR{dY:Type}{xs:List dY}{i:Int}{v:dY}(h:atI xs i=some v):∃j,seqIndex? i xs.length=some j∧xs[j]? =some v∧j<xs.length∧ -(xs.length:Int)≤i∧i<xs.length:=by
 unfold atI at h;cases e:ixN xs.length i with
 |none=>rw[e] at h;cases h
 |some j=>
  rw[e] at h;obtain⟨a_,bd,cx,cG⟩:=Zbw e;exact⟨j,a_,h,bd,cx,cG⟩
theorem YF{dY:Type}{xs:List dY}{j:Nat}{v:dY}(h:xs[j]? =some v):atI xs (j:Int)=some v:=by
 have cN:j<xs.length:=(QB.mp h).1;have e:ixN xs.length (j:Int)=some j:=by
  unfold ixN;rw[if_pos (by omega),if_pos (by omega)];simp
 unfold atI;rw[e];exact h
def Zet(b:Expr):Prop:=∀o i,subscripted b false o i=operate [o,i] (getItem o i)
def IxR(X:Cx)(r:R2):Prop:=
 ∀(value slice:Expr)(aU:List (Addr×Obj))(s:Shared)(aM:St)(H:Hp)(x y:V)(v u:Value)(Q:VK),Inv X aU aM H s→cu x v→cu y u→r x y H Q→
  subscripted slice false v u=operate [v,u] (getItem v u)→wpAny (model X.prog X.w) X.A (subscriptTail value slice v u) (EP X aU aM Q) X.xe s
def MtR(X:Cx)(id:String)(r:V→List V→Hp→VK→Prop):Prop:=
 ∀(aU:List (Addr×Obj))(s:Shared)(aM:St)(H:Hp)(x:V)(xs:List V)(v:Value)(us:List Value)(Q:VK),Inv X aU aM H s→cu x v→cf xs us→r x xs H Q→
  wpAny (model X.prog X.w) X.A (call (.builtin id) (v::us)) (EP X aU aM Q) X.xe s
section
variable {X:Cx}{a b:Expr}{bO cp:TE}{pos:Pos}
theorem IxR.or{r cz:R2}(h:IxR X r)(h':IxR X cz):IxR X (λx y H Q=>r x y H Q∨cz x y H Q):=by
 intro value slice aU s aM H x y v u Q I bL bX q bN;rcases q with q|q
 ·exact h value slice aU s aM H x y v u Q I bL bX q bN
 ·exact h' value slice aU s aM H x y v u Q I bL bX q bN
theorem c3{r:R2}(a':IxR X r)(bK:PE X a bO)(a6:PE X b cp)(bN:Zet b):PE X (.Subscript a b pos) (tOp r bO cp):=by
 intro aU s aM H Q I h;exact Subscript_ (ms bK a6 I h λv u bQ x y a8 cF bL bX q=>a' a b aU bQ aM a8 x y v u Q cF bL bX q (bN _ _))
noncomputable def Zch (K:Frag):R2:=λx y H Q=>∃p xs i v,x= .ref p∧y= .int i∧SqL K H p xs∧atI xs i=some v∧Q v H
noncomputable def mI (K:Frag):R2:=λx y H Q=>∃p xs i v,x= .ref p∧y= .int i∧SqT K H p xs∧atI xs i=some v∧Q v H
noncomputable def rIxS:R2:=λx y H Q=>∃z i c,x= .str z∧y= .int i∧z.length≤sizeLine∧atI z.cps.toList i=some c∧Q (.str ⟨#[c]⟩) H
theorem s2:IxR X (Zch X.K):=by
 intro value slice aU s aM H x y v u Q I bL bX h bN;obtain⟨p,xs,i,z,rfl,rfl,b7,b_,q⟩:=h;cases bL;obtain⟨t,rfl⟩:=bX;obtain⟨its,r,pl,cd⟩:=I.list b7;obtain⟨j,a_,bd,cx,cG,eM⟩:=UR b_;obtain⟨w,lx,hp⟩:=r.get bd;have hl:=r.length;have bM:=jh;have d5:EP X aU aM Q w s:=⟨z,H,I,hp,q⟩
 by_cases du:0≤i
 ·have cN:i.toNat=j:=by
   rw[seqIndex_of du eM] at a_;exact Qk a_
  exact item_listR pl.isList du (by omega) (by rw[cN];simpa using lx) d5 bN
 ·have cN:(i+(its.toArray.size:Int)).toNat=j:=by
   rw[seqIndex_neg (by omega) cG] at a_;rw[Qa,←hl];exact Qk a_
  exact subscriptTail_builtinR (x:=w) pl.isList.typeIs slot_list_getitem.lookup
   (wpAny_getItem_list_neg (Q:=λr s'=>r=w∧EP X aU aM Q r s') pl.isList (by omega) (by rw[Qa]<;>omega) (by omega) (by rw[cN];simpa using lx) ⟨rfl,d5⟩) bN
theorem s3:IxR X (mI X.K):=by
 intro value slice aU s aM H x y v u Q I bL bX h bN;obtain⟨p,xs,i,z,rfl,rfl,b7,b_,q⟩:=h;cases bL;obtain⟨t,rfl⟩:=bX;obtain⟨its,r,pl,cd⟩:=I.tuple b7;obtain⟨j,a_,bd,cx,cG,eM⟩:=UR b_;obtain⟨w,lx,hp⟩:=r.get bd;have hl:=r.length;have bM:=jh;have d5:EP X aU aM Q w s:=⟨z,H,I,hp,q⟩;exact subscriptTail_builtinR (x:=w) pl.typeIs slot_tuple_getitem.lookup
  (getItem_tuple (j:=j) (Q:=λr s'=>r=w∧EP X aU aM Q r s') pl (by omega) (by omega) (by rw[Qa,←hl];exact a_) (by simpa using lx) ⟨rfl,d5⟩) bN
theorem s4:IxR X rIxS:=by
 intro value slice aU s aM H x y v u Q I bL bX h bN;obtain⟨z,i,c,rfl,rfl,cd,b_,q⟩:=h;obtain⟨t,rfl⟩:=bL;obtain⟨t',rfl⟩:=bX;obtain⟨j,a_,bd,cx,cG,eM⟩:=UR b_;have hl:z.cps.toList.length=z.length:=by simp[Str.length]
 rw[hl] at a_ cG eM;have bM:=jh;exact tail_any (typeIs_str s z t) slot_str_getitem.lookup (getItem_str (c:=c) (by
  have b2:decide (i< -(2 ^ 63:Int))=false:=decide_eq_false (by omega);have ci:decide (i≥2 ^ 63)=false:=decide_eq_false (by omega);rw[b2,ci,Bool.or_false]) (by rw[a_];simpa using bd) ⟨.str ⟨#[c]⟩,H,I.tok _,⟨_,rfl⟩,q⟩) bN
noncomputable def rIx (K:Frag):R2:=λx y H Q=>Zch K x y H Q∨mI K x y H Q∨rIxS x y H Q
theorem s5:IxR X (rIx X.K):=s2.or (s3.or s4)
theorem s6(its:List Value)(n j:Nat)(u:Value):Obj.mapSeq (·.setIfInBounds j u) {cls:= .type "list",data:= .seq its.toArray n}={cls:= .type "list",data:= .seq (its.set j u).toArray n}:=by
 simp[Obj.mapSeq]
theorem Inv.lst{aU:List (Addr×Obj)}{aM:St}{H:Hp}{s:Shared}{p:Addr}{xs:List V}(I:Inv X aU aM H s)(h:H p=some (.lst xs)):
  ∃(its:List Value)(n:Nat),cf xs its∧s.heap.get? p=some {cls:= .type "list",data:= .seq its.toArray n}∧xs.length≤sizeLine:=by
 obtain⟨z,its,n,r,e⟩:=I.hok p _ h;exact⟨its,n,r,e,z⟩
theorem Inv.lstUpd{aU:List (Addr×Obj)}{aM:St}{H:Hp}{s:Shared}{p:Addr}{xs ys:List V}{its its':List Value}{n eJ:Nat}{f:Obj→Obj}(I:Inv X aU aM H s)(h:H p=some (.lst xs))
  (bW:s.heap.get? p=some {cls:= .type "list",data:= .seq its.toArray n}) (cj:f {cls:= .type "list",data:= .seq its.toArray n}={cls:= .type "list",data:= .seq its'.toArray eJ}) (r:cf ys its') (cd:ys.length≤sizeLine) (t:Nat):
  Inv X aU aM (upd H p (.lst ys)) {s with heap:=s.heap.update p f,toks:=t}:=by
 have e:(s.heap.update p f).get? p=some {cls:= .type "list",data:= .seq its'.toArray eJ}:=by
  rw[Heap.get?_update_self f bW (by rw[cj]<;>rfl),cj]
 refine I.write (x:=p) (e:=p) (by rw[h];trivial) (.inl rfl) (λb u a6 q=>(Heap.get?_update_other _ _ (Q8 a6)).trans q) ⟨_,e⟩ ?_;exact⟨cd,its',eJ,r,e⟩
noncomputable def rSetL:V→V→V→Hp→(Hp→Prop)→Prop:=λo i v H Q=>∃p xs k j,o= .ref p∧i= .int k∧H p=some (.lst xs)∧ixN xs.length k=some j∧Q (upd H p (.lst (xs.set j v)))
theorem s7:Zdo X rSetL:=by
 intro aU s aM H o i v dw gR u Q I ro ri c7 h;obtain⟨p,xs,k,j,rfl,rfl,b3,cN,q⟩:=h;cases ro;obtain⟨t,rfl⟩:=ri;obtain⟨its,n,r,bW,cd⟩:=I.lst b3;obtain⟨a_,bd,cx,cG⟩:=Zbw cN;have hl:=r.length;have bM:=jh;have dv:Inv X aU aM (upd H p (.lst (xs.set j v))) {s with heap:=s.heap.update p (Obj.mapSeq (·.setIfInBounds j u))}:=
  I.lstUpd b3 bW (s6 its n j u) (r.set c7 j) (by rw[List.length_set];exact cd) s.toks
 by_cases du:0≤k
 ·have bY:k.toNat=j:=by
   rw[seqIndex_of du cG] at a_;exact Qk a_
  exact PySem.W.ki_setAt bW du (by omega) (by rw[Qa,←hl];exact cG) (by rw[bY];exact⟨_,dv,q⟩)
 ·have bY:(k+(its.toArray.size:Int)).toNat=j:=by
   rw[seqIndex_neg (by omega) cx] at a_;rw[Qa,←hl];exact Qk a_
  exact PySem.W.ki_setBack bW (by omega) (by rw[Qa,←hl];exact cx) (by omega) (by rw[bY];exact⟨_,dv,q⟩)
theorem ZaD(lo bb:Option Int)(n:Nat):(sliceBounds lo bb none n).1=((HT.sIx n 0 lo:Nat):Int)∧(sliceBounds lo bb none n).2.1=((HT.sIx n n bb:Nat):Int)∧(sliceBounds lo bb none n).2.2=1:=by
 refine⟨?_,?_,rfl⟩
 ·cases lo with
  |none=>simp[sliceBounds,HT.sIx]
  |some i=>
   simp only[sliceBounds,HT.sIx,Option.getD_none,show(1:Int) > 0 by decide,if_true]
   by_cases h:i<0
   ·simp only[h,if_true]<;>omega
   ·simp only[h,if_false]<;>omega
 ·cases bb with
  |none=>simp[sliceBounds,HT.sIx]
  |some i=>
   simp only[sliceBounds,HT.sIx,Option.getD_none,show(1:Int) > 0 by decide,if_true]
   by_cases h:i<0
   ·simp only[h,if_true]<;>omega
   ·simp only[h,if_false]<;>omega
theorem Zan(its:List Value)(lo bb:Option Int):slicePick its.toArray lo bb none=((its.drop (HT.sIx its.length 0 lo)).take (HT.sIx its.length its.length bb-HT.sIx its.length 0 lo)).toArray:=by
 obtain⟨a_,bd,cx⟩:=ZaD lo bb its.toArray.size;unfold slicePick;rw[a_,bd,cx];simp only[sliceRange_one,pick_run,Qa]<;>rfl
noncomputable def pC (K:Frag):V→Option Int→Option Int→Hp→VK→Prop:=λx lo bb H Q=>∃a xs,x= .ref a∧SqL K H a xs∧∀p,H p=none→Q (.ref p) (upd H p (.lst (fZ xs lo bb)))
theorem s8:SlR X (pC X.K):=by
 intro aU s aM H x v eD eE lo bb sl Q I bL bN pl fy h;obtain⟨a,xs,rfl,bc,q⟩:=h;cases bL;obtain⟨its,r,cL,cd⟩:=I.list bc;have dL:=r.length;refine⟨"list",_,slot_list_getitem.lookup,cL.isList.typeIs,?_⟩;refine wpAny_getItem_list_slice cL.isList bN pl fy .none (by simp) ?_ (by rw[Qa]<;>omega);rw[Zan,←dL];refine⟨.ref s.heap.objs.size,_,I.laid (t':=s.toks) (o:= .lst (fZ xs lo bb)) (λb cD q=>Heap.get?_push_of_some _ q) (Qc _) ?_,rfl,q _ (I.hok.fresh (Qc _))⟩;exact⟨Qn (pA xs lo bb) cd,_,0,(r.drop (HT.sIx xs.length 0 lo)).take (HT.sIx xs.length xs.length bb-HT.sIx xs.length 0 lo),Heap.get?_push_size _ rfl⟩
noncomputable def gX:V→Bool
 | .non=>true
 | .bl _=>true
 | .int _=>true
 | .str _=>true
 |_=>false
noncomputable def eqV:V→V→Bool
 | .non,.non=>true
 | .bl a,.bl b=>a==b
 | .bl a,.int b=>(if a then 1 else 0)==b
 | .int a,.bl b=>a==(if b then 1 else 0)
 | .int a,.int b=>a==b
 | .str a,.str b=>a==b
 |_,_=>false
theorem ZfU{A:Around}{s:Shared}{y x:V}{u v:Value}(bX:cu y u)(bL:cu x v)(s9:gX y=true)(f0:gX x=true):SeqAt.EqAt A s u v (eqV y x):=by
 cases y with
 |non=>
  cases bX;cases x with
  |non=>cases bL;exact SeqAt.EqAt.same _
  |bl b=>cases bL;exact SeqAt.EqAt.none_bool b
  |int b=>obtain⟨t,rfl⟩:=bL;exact SeqAt.EqAt.none_int b t
  |str b=>obtain⟨t,rfl⟩:=bL;exact SeqAt.EqAt.none_str b t
  |_=>exact absurd (show false=true from f0) Qb
 |bl a=>
  cases bX;cases x with
  |non=>cases bL;exact SeqAt.EqAt.bool_none a
  |bl b=>cases bL;exact SeqAt.EqAt.bool_bool a b
  |int b=>obtain⟨t,rfl⟩:=bL;exact SeqAt.EqAt.bool_int a b t
  |str b=>obtain⟨t,rfl⟩:=bL;exact SeqAt.EqAt.bool_str a b t
  |_=>exact absurd (show false=true from f0) Qb
 |int a=>
  obtain⟨t',rfl⟩:=bX;cases x with
  |non=>cases bL;exact SeqAt.EqAt.int_none a t'
  |bl b=>cases bL;exact SeqAt.EqAt.int_bool a t' b
  |int b=>obtain⟨t,rfl⟩:=bL;exact SeqAt.EqAt.int_int a t' b t
  |str b=>obtain⟨t,rfl⟩:=bL;exact SeqAt.EqAt.int_str a t' b t
  |_=>exact absurd (show false=true from f0) Qb
 |str a=>
  obtain⟨t',rfl⟩:=bX;cases x with
  |non=>cases bL;exact SeqAt.EqAt.str_none a t'
  |bl b=>cases bL;exact SeqAt.EqAt.str_bool a t' b
  |int b=>obtain⟨t,rfl⟩:=bL;exact SeqAt.EqAt.str_int a t' b t
  |str b=>obtain⟨t,rfl⟩:=bL;exact SeqAt.EqAt.str_str a t' b t
  |_=>exact absurd (show false=true from f0) Qb
 |_=>exact absurd (show false=true from s9) Qb
noncomputable def eqU (x:V) (u:Value):Bool:=match u with
 | .none=>eqV .non x
 | .bool b=>eqV (.bl b) x
 | .int i _=>eqV (.int i) x
 | .str z _=>eqV (.str z) x
 |_=>false
theorem pD{x y:V}{u:Value}(r:cu y u)(f:gX y=true):eqU x u=eqV y x:=by
 cases y with
 |non=>cases r;rfl
 |bl b=>cases r;rfl
 |int i=>obtain⟨t,rfl⟩:=r;rfl
 |str z=>obtain⟨t,rfl⟩:=r;rfl
 |_=>exact absurd (show false=true from f) Qb
theorem kf{x:V}:∀{xs:List V}{us:List Value},cf xs us→xs.all gX=true→us.any (eqU x)=xs.any λy=>eqV y x
 |_,_,.nil,_=>rfl
 |y::xs,u::us,.cons r t,f=>by
  rw[List.all_cons,Qx] at f;rw[Q6,Q6,pD r f.1,kf t f.2]
theorem Wn{A:Around}{s:Shared}{x:V}{v:Value}(bL:cu x v)(f0:gX x=true):∀{xs:List V}{us:List Value},cf xs us→xs.all gX=true→∀u∈us,SeqAt.EqAt A s u v (eqU x u)
 |_,_,.nil,_=>λu hu=>by cases hu
 |y::xs,u::us,.cons r t,f=>λi6 hu=>by
  rw[List.all_cons,Qx] at f;rcases Qj.mp hu with rfl|hu
  ·rw[pD r f.1];exact ZfU r bL f.1 f0
  ·exact Wn bL f0 t f.2 i6 hu
noncomputable def inV (x:V) (xs:List V):Bool:=xs.any λy=>eqV y x
noncomputable def rIn (K:Frag) (neg:Bool):R2:=λx y H Q=>∃p xs,y= .ref p∧(SqL K H p xs∨SqT K H p xs)∧gX x=true∧xs.all gX=true∧Q (.bl (if neg then !inV x xs else inV x xs)) H
theorem s_:OpR X (compareOp .In) (rIn X.K false):=by
 intro aU s aM H x y v u Q I bL bX h;obtain⟨p,xs,rfl,b7,f0,fs,q⟩:=h;cases bX;rcases b7 with b7|b7
 ·obtain⟨its,r,pl,cd⟩:=I.list b7;refine SeqAt.in_listAt (eqU x) pl.isList (λw hw=>Wn bL f0 r fs w (by simpa using hw)) ⟨.bl _,H,I,rfl,?_⟩;rw[show its.toArray.any (eqU x)=its.any (eqU x) by simp,kf r fs];exact q
 ·obtain⟨its,r,pl,cd⟩:=I.tuple b7;refine SeqAt.in_tupleAt (eqU x) pl (λw hw=>Wn bL f0 r fs w (by simpa using hw)) ⟨.bl _,H,I,rfl,?_⟩;rw[show its.toArray.any (eqU x)=its.any (eqU x) by simp,kf r fs];exact q
theorem ta:OpR X (compareOp .NotIn) (rIn X.K true):=by
 intro aU s aM H x y v u Q I bL bX h;obtain⟨p,xs,rfl,b7,f0,fs,q⟩:=h;cases bX;rcases b7 with b7|b7
 ·obtain⟨its,r,pl,cd⟩:=I.list b7;refine SeqAt.notIn_listAt (eqU x) pl.isList (λw hw=>Wn bL f0 r fs w (by simpa using hw)) ⟨.bl _,H,I,rfl,?_⟩;rw[show its.toArray.any (eqU x)=its.any (eqU x) by simp,kf r fs];exact q
 ·obtain⟨its,r,pl,cd⟩:=I.tuple b7;refine SeqAt.notIn_tupleAt (eqU x) pl (λw hw=>Wn bL f0 r fs w (by simpa using hw)) ⟨.bl _,H,I,rfl,?_⟩;rw[show its.toArray.any (eqU x)=its.any (eqU x) by simp,kf r fs];exact q
theorem tb:Yc X (.type "list") (λxs H Q=>∃p ys,xs=[.ref p]∧(SqL X.K H p ys∨SqT X.K H p ys)∧∀l,H l=none→Q (.ref l) (upd H l (.lst ys))):=by
 intro aU s aM H xs us Q I r h;obtain⟨p,ys,rfl,b7,q⟩:=h;obtain⟨u,rfl,bL⟩:=Y2 r;cases bL;have d5:∀(its:List Value),cf ys its→ys.length≤sizeLine→∀(h':Heap)(c2:Nat),(∀b o',s.heap.get? b=some o'→h'.get? b=some o')→
   h'.get? s.heap.objs.size=some {cls:= .type "list",dict:=none,data:= .seq its.toArray c2,slots:=#[]}→EP X aU aM Q (.ref s.heap.objs.size) {s with heap:=h'}:=λits cz cd h' c2 kp e=>
  ⟨.ref s.heap.objs.size,_,I.laid (t':=s.toks) kp (Qc _) (show ZF X.prog X.w _ h' _ (.lst ys) from⟨cd,its,c2,cz,e⟩),rfl,q _ (I.hok.fresh (Qc _))⟩
 rcases b7 with b7|b7
 ·obtain⟨its,cz,pl,cd⟩:=I.list b7;have dL:=cz.length;obtain⟨o,bW,bH,n,hd⟩:=pl.isList;exact call_list_seq p (.inl rfl) bW bH hd (λh' c2 kp e=>d5 its cz cd h' c2 kp e) (by simp only[Qa]<;>omega)
 ·obtain⟨its,cz,pl,cd⟩:=I.tuple b7;have dL:=cz.length;obtain⟨o,bW,bH,n,hd⟩:=pl;exact call_list_seq p (.inr rfl) bW bH hd (λh' c2 kp e=>d5 its cz cd h' c2 kp e) (by simp only[Qa]<;>omega)
def tyV(K:Frag)(T:String)(x:V)(H:Hp):Prop:=match x with
 | .str _=>T="str"
 | .int _=>T="int"
 | .ref p=>(T="list" ∧∃xs,SqL K H p xs)∨(T="tuple" ∧∃o,K.lookup p=some o∧o.cls= .type "tuple" ∧o.dict=none)∨
   (T="dict" ∧((∃kvs,H p=some (.dK kvs))∨∃kvs,H p=some (.dT kvs)))∨(T="set" ∧∃S n,H p=some (.set S n))
 |_=>False
theorem Ze8{aU:List (Addr×Obj)}{aM:St}{H:Hp}{s:Shared}{T:String}{x:V}{v:Value}(I:Inv X aU aM H s)(r:cu x v)(ty:tyV X.K T x H):
  s.TypeIs v T∧∀a,v= .ref a→∃cD,s.heap.get? a=some cD∧cD.dict=none:=by
 cases x with
 |str z=>
  obtain⟨t,rfl⟩:=r;cases (show T="str" from ty);exact⟨typeIs_str s z t,λ_ e=>nomatch e⟩
 |int i=>
  obtain⟨t,rfl⟩:=r;cases (show T="int" from ty);exact⟨typeIs_int s i t,λ_ e=>nomatch e⟩
 |ref p=>
  cases r;rcases ty with⟨rfl,xs,b7⟩|⟨rfl,o,bY,bH,hd⟩|⟨rfl,bY⟩|⟨rfl,S,n,bY⟩
  ·obtain⟨its,_,pl,_⟩:=I.list b7;refine⟨pl.isList.typeIs,λa e=>?_⟩;cases e;obtain⟨o,n,e,c,hd,_⟩:=pl;exact⟨o,e,hd⟩
  ·refine⟨⟨o,I.kIn p o bY,bH⟩,λa e=>?_⟩;cases e;exact⟨o,I.kIn _ o bY,hd⟩
  ·have z:∃o,s.heap.get? p=some o∧o.ExactDict:=by
    rcases bY with⟨kvs,bY⟩|⟨kvs,bY⟩
    ·obtain⟨_,_,_,_,o,_,_,e,ex,_⟩:=I.hok p _ bY;exact⟨o,e,ex⟩
    ·obtain⟨_,_,_,_,o,_,_,e,ex,_⟩:=I.hok p _ bY;exact⟨o,e,ex⟩
   obtain⟨o,e,ex⟩:=z;refine⟨⟨o,e,ex.1⟩,λa ci=>?_⟩;cases ci;exact⟨o,e,ex.2.1⟩
  ·obtain⟨o,_,_,_,e,ex,_⟩:=I.hok p _ bY;refine⟨⟨o,e,ex.1⟩,λa ci=>?_⟩;cases ci;exact⟨o,e,ex.2.1⟩
 |_=>exact False.elim ty
noncomputable def tBM (K:Frag) (T:String) (r:V→List V→Hp→VK→Prop) (to:TE) (t:TA):TE:=λaM H Q=>to aM H λx a1=>tyV K T x a1∧t aM a1 λxs a8=>r x xs a8 Q
variable {o e:Expr}{bS:List Expr}{to:TE}{t:TA}{name:Str}{dF ey:Pos}{T id:String}{r:V→List V→Hp→VK→Prop}
theorem Zgd(mJ:PlainAttrs T)(slot:Slot T name id)(gY:typeOf (.builtin id)=pure (.type "method_descriptor"))(bZ:MtR X id r)(bW:PE X o to)(bK:PA X (e::bS) t)
  (mK:attributeBase o name X.env (eval o X.env)=eval o X.env:=by rfl)
  (mL:((backTo ey (starEach (e::bS) X.env)).all (λx=>!x.1)&&(backToKw ey (keywordEach [] X.env)).all (λx=>x.1.isSome)
   &&decide ((e::bS).length+([]:List Keyword).length+(if([]:List Keyword).isEmpty then 0 else 1)<30))=true:=by rfl)
  (mM:(dF.endLine==ey.line)=true:=by rfl) (bN:starEach (e::bS) X.env=(false,eval e X.env)::starEach bS X.env:=by rfl) (iv:(backTo ey (starEach bS X.env)).any (·.1)=false:=by rfl):
  PE X (.Call (.Attribute o name dF) (e::bS) [] ey) (tBM X.K T r to t):=by
 intro aU s aM H Q I h;refine wpAny_Call_method_late mK mL mM rfl (thn (bW aU s aM H _ I h) λv bj ⟨x,a1,bU,cr,ty,ck⟩=>?_);obtain⟨a_,bd⟩:=Ze8 bU cr ty;refine⟨T,id,mJ,slot,gY,a_,bd,?_⟩;have kg:=bK ey aU bj aM a1 _ bU ck;rw[bN] at kg⊢;refine Calls.callWith_builtin (by show(false||(backTo ey (starEach bS X.env)).any (·.1))=false;rw[iv]<;>rfl) (Calls.evalArgs_plain ?_);exact thn kg λus bQ ⟨vs,a8,cF,cM,cv⟩=>bZ aU bQ aM a8 x vs v us Q cF cr cM cv
end
def MtM(X:Cx)(id:String)(r:V→List V→Hp→VK→Prop):Prop:=
 ∀(aU:List (Addr×Obj))(s:Shared)(aM:St)(H:Hp)(x:V)(xs:List V)(v:Value)(us:List Value)(Q:VK),Inv X aU aM H s→cu x v→cf xs us→r x xs H Q→
  wpAny (model X.prog X.w) X.A (call (.builtin id) (v::us)) (EP X aU aM Q) X.xe s
theorem cf.one:∀{x:V}{us:List Value},cf [x] us→∃u,us=[u]∧cu x u
 |_,_,.cons r .nil=>⟨_,rfl,r⟩
theorem cf.two:∀{x y:V}{us:List Value},cf [x,y] us→∃u v,us=[u,v]∧cu x u∧cu y v
 |_,_,_,.cons r (.cons q .nil)=>⟨_,_,rfl,r,q⟩
theorem cf.rep{xs:List V}{us:List Value}(h:cf xs us):∀k:Nat,cf (List.replicate k xs).flatten (List.replicate k us).flatten
 |0=> .nil
 |k+1=>by
  rw[QP,QP,Q2,Q2];exact cf.append h (cf.rep h k)
theorem Zaa(its:List Value):∀(k:Nat)(c0:List Value),
  List.foldl (λx1 x2=>x1++x2) c0.toArray (List.replicate k its.toArray)=(c0++(List.replicate k its).flatten).toArray
 |0,c0=>by simp
 |k+1,c0=>by
  have e:c0.toArray++its.toArray=(c0++its).toArray:=by simp
  have ci:(c0++its)++(List.replicate k its).flatten=c0++(List.replicate (k+1) its).flatten:=by
   rw[QP,Q2,List.append_assoc]
  rw[←ci,←Zaa its k (c0++its),←e,QP,List.foldl_cons]
section
variable {X:Cx}{aU:List (Addr×Obj)}{aM:St}{H:Hp}{s:Shared}{l b:Addr}{xs ys zs:List V}
theorem Inv.lset{its its':List Value}{n:Nat}{f:Array Value→Array Value}{t':Nat}(I:Inv X aU aM H s)(f3:H l=some (.lst xs))
  (e:s.heap.get? l=some {cls:= .type "list",data:= .seq its.toArray n}) (cj:f its.toArray=its'.toArray) (b8:cf ys its') (cd:ys.length≤sizeLine):
  Inv X aU aM (upd H l (.lst ys)) {s with heap:=s.heap.update l (Obj.mapSeq f),toks:=t'}:=by
 have q:=PySem.IsL.update e f;rw[cj] at q;refine I.write (x:=l) (e:=l) (by rw[f3];exact trivial) (.inl rfl) (λzS u a6 hu=>(Heap.get?_update_other s.heap (Obj.mapSeq f) (Q8 a6)).trans hu) ⟨_,q⟩ ?_;exact⟨cd,its',_,b8,q⟩
theorem Inv.lnew{its:List Value}{t':Nat}(I:Inv X aU aM H s)(b8:cf ys its)(cd:ys.length≤sizeLine):
  Inv X aU aM (upd H s.heap.objs.size (.lst ys)) {s with heap:=s.heap.push {cls:= .type "list",data:= .seq its.toArray},toks:=t'}:=
 I.laid (λ_ _ q=>Heap.get?_push_of_some _ q) (Qc _) ⟨cd,its,0,b8,Heap.get?_push_size _ rfl⟩
theorem Inv.fresh(I:Inv X aU aM H s):H s.heap.objs.size=none:=I.hok.fresh (Qc _)
theorem Inv.lstM(I:Inv X aU aM H s)(f3:H l=some (.lst xs)):xs.length≤sizeLine∧∃(its:List Value)(n:Nat),cf xs its∧xs.length=its.length∧s.heap.get? l=some {cls:= .type "list",data:= .seq its.toArray n}:=by
 obtain⟨z,its,n,r,e⟩:=I.hok l _ f3;exact⟨z,its,n,r,r.length,e⟩
theorem ZaI{n:Nat}(h:n≤sizeLine):Builtin.List.listTooLong n=false:=by
 unfold Builtin.List.listTooLong;exact decide_eq_false (by omega)
end
section
variable {X:Cx}
noncomputable def rAppend:V→List V→Hp→VK→Prop:=λx vs H Q=>∃l xs y,x= .ref l∧vs=[y]∧H l=some (.lst xs)∧xs.length<sizeLine∧Q .non (upd H l (.lst (xs++ [y])))
theorem gZ:MtM X "list.append" rAppend:=by
 intro aU s aM H x vs v us Q I bL c7 h;obtain⟨l,xs,y,rfl,rfl,f3,cd,q⟩:=h;cases bL;obtain⟨u,rfl,ew⟩:=c7.one;obtain⟨z,its,n,r,hl,e⟩:=I.lstM f3;refine call_meets F.slot_list_append ⟨_,e,rfl⟩ F.entry_list_append (F.args_list_append_2 _ _) (PySem.list_append l its.toArray n u (by rw[Qa];omega)) ⟨e,?_⟩;refine⟨.non,_,I.lset (its':=its++ [u]) f3 e (by simp) (r.append (.cons ew .nil)) ?_,rfl,q⟩;rw[Qg,List.length_singleton];omega
noncomputable def rExtend:V→List V→Hp→VK→Prop:=λx vs H Q=>∃l b xs zs,x= .ref l∧vs=[.ref b]∧H l=some (.lst xs)∧H b=some (.lst zs)∧xs.length+zs.length≤sizeLine∧Q .non (upd H l (.lst (xs++zs)))
theorem zT:MtM X "list.extend" rExtend:=by
 intro aU s aM H x vs v us Q I bL c7 h;obtain⟨l,b,xs,zs,rfl,rfl,f3,e4,cd,q⟩:=h;cases bL;obtain⟨u,rfl,ew⟩:=c7.one;cases ew;obtain⟨z,its,n,r,hl,e⟩:=I.lstM f3;obtain⟨gh,ho,fN,cM,g0,ci⟩:=I.lstM e4;have hsz:its.toArray.size+ho.toArray.size≤sizeLine:=by rw[Qa,Qa];omega
 have mO:¬(!its.toArray.isEmpty&&Builtin.List.listTooLong (its.toArray.size+ho.toArray.size))=true:=by
  rw[ZaI hsz,Bool.and_false];exact Qb
 refine call_meets F.slot_list_extend ⟨_,e,rfl⟩ F.entry_list_extend (F.args_list_extend_2 _ _)
  (AutoSeq1.list_extend_list_list_0 l its.toArray n b ho.toArray fN mO (by rw[Qa];omega) (by omega)) ⟨e,ci,?_⟩
 refine⟨.non,_,I.lset (its':=its++ho) f3 e (by simp) (r.append cM) ?_,rfl,q⟩;rw[Qg];omega
noncomputable def rCat:R2:=λx y H Q=>∃l b xs zs,x= .ref l∧y= .ref b∧H l=some (.lst xs)∧H b=some (.lst zs)∧xs.length+zs.length≤sizeLine∧∀p,H p=none→Q (.ref p) (upd H p (.lst (xs++zs)))
theorem tc:OpR X (binaryOp .Add) rCat:=by
 intro aU s aM H x y v u Q I bL bX h;obtain⟨l,b,xs,zs,rfl,rfl,f3,e4,cd,q⟩:=h;cases bL;cases bX;obtain⟨z,its,n,r,hl,e⟩:=I.lstM f3;obtain⟨gh,ho,fN,cM,g0,ci⟩:=I.lstM e4;refine PySem.P.add_list e ci ?_ (by rw[Qa,Qa];omega);have bR:its.toArray++ho.toArray=(its++ho).toArray:=by simp
 rw[bR];exact⟨.ref _,_,I.lnew (t':=s.toks) (r.append cM) (by rw[Qg];omega),rfl,q _ I.fresh⟩
noncomputable def rRep:R2:=λx y H Q=>∃l k xs,x= .ref l∧y= .int k∧H l=some (.lst xs)∧ -(2 ^ 63)≤k∧k<2 ^ 63∧xs.length*k.toNat≤sizeLine∧
 ∀p,H p=none→Q (.ref p) (upd H p (.lst (List.replicate k.toNat xs).flatten))
theorem ZeP{dY:Type}(xs:List dY)(k:Nat):(List.replicate k xs).flatten.length=k*xs.length:=by
 induction k with
 |zero=>simp
 |succ k ds=>rw[QP,Q2,Qg,ds,Nat.succ_mul,Nat.add_comm]
theorem td:OpR X (binaryOp .Mult) rRep:=by
 intro aU s aM H x y v u Q I bL bX h;obtain⟨l,k,xs,rfl,rfl,f3,a_,bd,cd,q⟩:=h;cases bL;obtain⟨t,rfl⟩:=bX;obtain⟨z,its,n,r,hl,e⟩:=I.lstM f3;have dL:its.toArray.size*k.toNat≤sizeLine:=by rw[Qa,←hl];exact cd
 have te:¬its.toArray.size*k.toNat > (2 ^ 63-1) / 8:=by
  have:(sizeLine:Nat)≤(2 ^ 63-1) / 8:=by decide
  omega
 have tf:¬(!Builtin.List.listFitsIndex k)=true:=by
  rw[fitsIndex_both a_ bd];exact Qb
 have mO:¬Builtin.List.listTooLong (its.toArray.size*k.toNat)=true:=by
  rw[ZaI dL];exact Qb
 have tg:List.foldl (λx1 x2=>x1++x2) #[] (List.replicate (if its.toArray.isEmpty=true then 0 else k.toNat) its.toArray)=(List.replicate k.toNat its).flatten.toArray:=by
  have eK:∀m:Nat,List.foldl (λx1 x2=>x1++x2) #[] (List.replicate m its.toArray)=(List.replicate m its).flatten.toArray:=λm=>by
   have:=Zaa its m [];rw[List.nil_append] at this;exact this
  rw[eK];cases its with
  |nil=>simp
  |cons a cz=>rw[if_neg (by simp)]
 refine wpAny_binaryOp_repeat_ref (T:="list") (U:="int") (by decide) ⟨_,e,rfl⟩ (λs'=>typeIs_int s' k t) noFill_list_mul F.fills_int_mul F.slot_int_rmul repeat_list F.slot_int_index.lookup
  (call_meets F.slot_int_rmul (typeIs_int s k t) F.entry_int_rmul (F.args_int_rmul_2 _ _) (int___rmul___int_list k t l its.toArray n)
   ⟨e,rfl,⟨_,e,rfl⟩,call_meets F.slot_list_mul ⟨_,e,rfl⟩ F.entry_list_mul (F.args_list_mul_2 _ _) (AutoListH.list___mul___list_int_3 l its.toArray n k t tf te mO) ⟨e,?_⟩⟩)
 rw[tg];exact⟨.ref _,_,I.lnew (t':=s.toks) (r.rep k.toNat) (by rw[ZeP,Nat.mul_comm];exact cd),rfl,q _ I.fresh⟩
end
section
variable {prog:Program}{w:World}{A:Around}{E:Value→Shared→Prop}{s:Shared}
end
section
variable {X:Cx}
end
end L2
namespace Att
open PySem PySem.W PySem.Calls PyProof.Rows
theorem th{P:Params}{h:Heap}:∀(ns:List Int)(vs:List Value),WellAll P h vs (ns.map WData.int)→IntsAre vs ns:=by
 intro ns
 induction ns with
 |nil=>
  intro vs w;rw[List.map_nil] at w;cases w;exact .nil
 |cons n ns ds=>
  intro vs w;rw[List.map_cons] at w;cases w with
  |cons a b=>
   cases a;exact .cons _ _ (ds _ b)
theorem Zdn{l:OpenLaw}{n:Nat}(bM:l.most=some n){P:Params}{h:Heap}{args:List WData}{mP:List Value}
  (ly:l.row.toRowW.claim.pre args=true) (mQ:WellAll P h mP args):
  ∃a vs ns,mP=[Value.ref a]∧args=[WData.list (ns.map WData.int)]∧h.get? a=some {cls:= .type "list",data:= .seq vs.toArray}∧IntsAre vs ns∧ns.length≤n:=by
 have ti:WShape.hasAll [] args [.list .int]=true:=(pre_splitW ly).1;have bH:l.pre.holds [] {args:=args}=true:=(pre_splitW ly).2;obtain⟨d,r,rfl,a_,bd⟩:=hasAllW_cons ti;obtain rfl:=hasAllW_nil bd;obtain⟨xs,rfl,cx⟩:=hasW_list a_;obtain⟨ns,rfl⟩:=items_int cx;have dL:ns.length≤n:=by
  unfold OpenLaw.pre at bH;have cG:(WTm.not (.lt (.lit (.int (n:Int))) (.len (.arg 0)))).holds [] {args:=[.list (ns.map .int)]}=true:=by
   have cG:=(holds_andW bH).1;rw[bM] at cG;exact cG
  have eM:=condW_of cG (w_not (w_lt w_lit (w_len_list (w_arg rfl))));rw[Qe] at eM;refine Nat.le_of_not_lt λq=>?_;have eY:(n:Int)<((ns.length:Nat):Int):=by omega
  first
   |(rw[decide_eq_true eY] at eM;exact absurd eM (by decide))
   |(simp at eM;omega)
 cases mQ with
 |cons iw i8=>
  cases i8;cases iw with
  |list bW iy=>exact⟨_,_,ns,rfl,rfl,bW,th ns _ iy,dL⟩
theorem tj(l:OpenLaw)(args:List WData):l.row.toRowW.claim.post args (.bool true) args=true:=
 postW_of (r:=l.row.toRowW) (X:=(true==true))
  (show WShape.has [] (.bool true) .bool=true by first|rfl|decide|simp[WShape.has,WShape.arms,WShape.armsAll])
  (show(WTm.eq .res (.lit (.bool true))).value [] {args:=args,res:=some (.bool true),after:=args}=some (.bool (true==true)) from w_eq_bool (w_res rfl) w_lit) rfl
theorem Zbg{l:OpenLaw}{n:Nat}{q:Program}{jk:List Str}{jl:(Str→Option Value)→Heap→Prop}{hW:World→Heap→Prop}{d:DefRec}
  (bM:l.most=some n) (kh:d.params.defaults=[])
  (call:∀(w:World)(s₀ cX:Shared)(mg f':Str→Option Value)(fz:Addr)(o:Obj)(dJ cE dU:Value)(a:Addr)(vs:List Value)(ns:List Int),
   Ground q jk [] jl w s₀ mg f' cX.heap→hW w cX.heap→
   cX.heap.get? fz=some o→o.data= .func (docDef d.name d.params d.body d.scope dJ cE dU)→cX.heap.CodeRec cE d.name→mg d.name=some (.ref fz)→
   cX.heap.get? a=some {cls:= .type "list",data:= .seq vs.toArray}→IntsAre vs ns→ns.length≤n→cX.gens=#[]→
   codeAny (model l.prog w) callerA (.call (.ref fz) ⟨[.ref a],[]⟩) (λr s'=>r= .ok (.ret (.bool true))∧OldK cX.heap s'.heap∧s'.os=cX.os∧AllBare s'.gens) cX):
  WalkO q jk jl hW l.row.toRowW d [] (λf vs=>PySem.call f vs):=by
 intro w s₀ cX mg f' G Y fz o dJ cE dU lr kV bW hd fV iz jm cs args mP as ly hlay hrd mQ hlo;obtain rfl:lr= .none:=Dflts.none iz kh;obtain rfl:kV= .none:=Dflts.noKw iz;obtain⟨a,vs,ns,rfl,rfl,mR,mS,dL⟩:=Zdn bM ly mQ;refine enter_call (codeAny_mono (call w s₀ cX mg f' fz o dJ cE dU a vs ns G Y bW (fd_plain hd) fV jm mR mS dL cs) λr s' b7=>?_);obtain⟨rfl,bd,cx,cG⟩:=b7;exact⟨.inl ⟨.bool true,.bool true,[],rfl,λ_=>rfl,.bool true,tj l _,λ_=>⟨List.Pairwise.nil,λ_ bZ=>(nomatch bZ)⟩⟩,bd,cx,cG⟩
section
variable {prog:Program}{w:World}{A:Around}{E:Value→Shared→Prop}{s:Shared}{K:Frag}
end
end Att
namespace L2
open PySem PySem.Spec PyProof.Rows
theorem pE:∀{vs:List Value}{ns:List Int},IntsAre vs ns→cf (ns.map V.int) vs
 |_,_,.nil=> .nil
 |_,_,.cons n t h=> .cons ⟨t,rfl⟩ (pE h)
def mT(H:Hp):Prop:=∀b,H b=none∨∃o xs,H b=some (.frz o (.lst xs))
theorem Zdp{P:Program}{w:World}{K:Frag}{mg f':Str→Option Value}{CX:CXT}{k:Nat}{fz a:Addr}{fd:FuncData}{x:Str}{sp:Sp}{cX:Shared}{vs:List Value}{ns:List Int}
  (d9:K.In cX.heap) (jn:cX.heap.Ns mainGlobals mg) (a6:cX.heap.Ns builtinsNs f') (tk:∀x:Str,x≠"__name__" →f' x=bootBuiltins x) (tl:cX.heap.NoLimit) (cs:cX.gens=#[])
  (bK:cX.heap.get? a=some {cls:= .type "list",data:= .seq vs.toArray}) (bb:IntsAre vs ns) (hl:ns.length≤sizeLine) (a':dx k callerA)
  (F:∀base:Heap,K.In base→base.Ns mainGlobals mg→ZX P w K mg base CX k fz fd [x] sp) (tm:∀(s:Shared)(u:Value),BindsTo s fd ⟨[u],[]⟩ [(x,u)])
  (gd:∀H:Hp,mT H→SqL K H a (ns.map V.int)→sp [.ref a] H (λv _=>v= .bl true) λ_ _ _=>False)
  (mU:∀H e s',CX [] H cX (λ_ _ _=>False) e s'→False):
  codeAny (model P w) callerA (.call (.ref fz) ⟨[.ref a],[]⟩) (λr s'=>r= .ok (.ret (.bool true))∧OldK cX.heap s'.heap∧s'.os=cX.os∧AllBare s'.gens) cX:=by
 have c7:=pE bb;have tn:=bb.length;have pF:∀H:Hp,mT H→SqL K H a (ns.map V.int)→HOk P w H cX.heap→(∀b,H b≠none→b=a)→(H a≠none→K.lookup a=none)→
   codeAny (model P w) callerA (.call (.ref fz) ⟨[.ref a],[]⟩) (λr s'=>r= .ok (.ret (.bool true))∧OldK cX.heap s'.heap∧s'.os=cX.os∧AllBare s'.gens) cX:=by
  intro H hO fL hok kg hK;have pG:∀{b:Addr}{o:Obj},cX.heap.get? b=some o→H b=none→(hf cX.heap H).get? b=some o:=λe n=>ZdC e n;have ka:∀{b:Addr}{o:Obj}{bS:Array DictEntry}{ep:Nat},cX.heap.get? b=some o→o.data= .dict bS ep→H b=none:=λ{b o bS ep} e d=>by
   cases q:H b with
   |none=>rfl
   |some u=>
    have b6:b=a:=kg b (by rw[q];simp);subst b6;rw[bK] at e;cases e;have d':Data.seq vs.toArray _=Data.dict bS ep:=d;cases d'
  have lz:∀{b:Addr}{m:Str→Option Value},cX.heap.Ns b m→(hf cX.heap H).Ns b m:=λ{b m} ⟨o,bS,ep,e,d,r⟩=>⟨o,bS,ep,pG e (ka e d),d,r⟩;have pH:K.In (hf cX.heap H):=λb o e=>pG (d9 b o e) (by
   cases q:H b with
   |none=>rfl
   |some u=>
    have b6:b=a:=kg b (by rw[q];simp);subst b6;rw[hK (by rw[q];simp)] at e;cases e)
  have tp:Mod K mg (hf cX.heap H):=⟨pH,lz jn,⟨f',lz a6,tk⟩,let⟨tq,a_,bd⟩:=tl;⟨tq,lz a_,bd⟩⟩;have e3:VX P w K mg (hf cX.heap H) callerA [] cX H:=⟨rfl,tp,λb o e=>ZeJ e,Nat.le_of_eq (sk _ _),trivial,λb a6=>absurd (show b∈([]:List Addr) from a6) (by simp),hok,.of_eq cs⟩;refine codeAny_mono ((F _ pH (lz jn)).run callerA [] cX H ⟨[.ref a],[]⟩ [.ref a] [.ref a] _ _ a' e3 (tm cX (.ref a)) (.cons rfl .nil) (gd H hO fL)) λr s' h=>?_;cases r with
  |error e=>exact(mU H e s' h).elim
  |ok ed=>
   cases ed with
   |next=>exact False.elim h
   |brk=>exact False.elim h
   |cont=>exact False.elim h
   |ret u=>
    obtain⟨v,aS,os,bare,un,tr,cz,q⟩:=h;have eY:v= .bl true:=q;subst eY;obtain rfl:u=Value.bool true:=cz;refine⟨rfl,OldK.of_keep λb o e=>?_,os,bare⟩;cases q:H b with
    |none=>exact un.keep b o e q (by intro z;exact absurd (show b∈([]:List Addr) from z) (by simp)) (by simp)
    |some u=>
     rcases hO b with z|⟨cD,xs,z⟩
     ·rw[q] at z;cases z
     ·have gh:=un.frzs b cD _ z;obtain⟨b2,_⟩:=hok b _ z;obtain⟨ci,_⟩:=tr b _ gh;rw[e] at b2;cases b2;exact ci
 cases bY:K.lookup a with
 |some o=>
  have e:=d9 a o bY;rw[bK] at e;cases e;refine pF (λ_=>none) (λ_=> .inl rfl) (.inr ⟨_,vs.toArray,_,bY,rfl,rfl,rfl,by rw[Qa,tn];exact hl,by simpa using c7⟩) (λb u z=>by have eu:(none:Option HO)=some u:=z;cases eu) (λb z=>absurd rfl z) λz=>absurd rfl z
 |none=>
  refine pF (λb=>if b=a then some (.frz {cls:= .type "list",data:= .seq vs.toArray} (.lst (ns.map V.int))) else none) (λb=>?_) (.inl (.inr ⟨{cls:= .type "list",data:= .seq vs.toArray},if_pos rfl⟩)) (λb u z=>?_) (λb z=>?_) λ_=>bY
  ·by_cases a6:b=a
   ·exact .inr ⟨_,_,if_pos a6⟩
   ·exact .inl (if_neg a6)
  ·by_cases a6:b=a
   ·have eu:=(if_pos a6).symm.trans z;cases eu;subst a6;exact⟨bK,by rw[Qe];exact hl,vs,_,c7,bK⟩
   ·have eu:=(if_neg a6).symm.trans z;cases eu
  ·by_cases a6:b=a
   ·exact a6
   ·exact absurd (if_neg a6) z
theorem Zex{l:PySem.W.OpenLaw}{n k:Nat}{q:Program}{jk:List Str}{jl:(Str→Option Value)→Heap→Prop}{hW:World→Heap→Prop}{d:DefRec}{K:Params→Frag}{CX:World→CXT}{sp:World→Sp}{x:Str}
  (bM:l.most=some n) (gp:n≤sizeLine) (kh:d.params.defaults=[]) (a':dx k callerA)
  (mV:∀(w:World)(h:Heap),hW w h→(K w.params).In h)
  (F:∀(w:World)(mg:Str→Option Value)(fz:Addr)(h:Heap),(K w.params).In h→h.Ns mainGlobals mg→mg d.name=some (.ref fz)→
   ∃fd:FuncData,(∀(s:Shared)(u:Value),BindsTo s fd ⟨[u],[]⟩ [(x,u)])∧
    ∀base:Heap,(K w.params).In base→base.Ns mainGlobals mg→ZX l.prog w (K w.params) mg base (CX w) k fz fd [x] (sp w))
  (gd:∀(w:World)(H:Hp)(a:Addr)(ns:List Int),ns.length≤n→mT H→SqL (K w.params) H a (ns.map V.int)→sp w [.ref a] H (λv _=>v= .bl true) λ_ _ _=>False)
  (mU:∀(w:World)(H:Hp)(s:Shared)(e:Value)(s':Shared),CX w [] H s (λ_ _ _=>False) e s'→False):
  PySem.W.WalkO q jk jl hW l.row.toRowW d [] (λf vs=>PySem.call f vs):=by
 refine Att.Zbg bM kh λw s₀ cX mg f' fz o dJ cE dU a vs ns G Y bW hd fV jm mR mS dL cs=>?_;have d9:=mV w _ Y;obtain⟨fd,a6,ts⟩:=F w mg fz _ d9 G.T.g jm;exact Zdp d9 G.T.g G.T.b G.T.builtins G.T.nolimit cs mR mS (Qn dL gp) a' ts a6 (λH hO fL=>gd w H a ns dL hO fL) λH e s'=>mU w H cX e s'
noncomputable def Z5 (s:Stmt) (j:Nat):Stmt:=match s with
 | .ClassDef _ _ _ body _ _ _ _ _ _ _=>body.getD j (.Pass ⟨0,0,0,0⟩)
 |_=> .Pass ⟨0,0,0,0⟩
noncomputable def gs (s:Stmt):Arguments:=match s with
 | .FunctionDef _ a _ _ _ _ _ _ _ _=>a
 |_=>{posonlyargs:=[],args:=[],vararg:=none,kwonlyargs:=[],kw_defaults:=[],kwarg:=none,defaults:=[]}
noncomputable def f4 (s:Stmt):List Stmt:=match s with
 | .FunctionDef _ _ b _ _ _ _ _ _ _=>b
 |_=>[]
noncomputable def cT (s:Stmt):Scope:=match s with
 | .FunctionDef _ _ _ _ _ _ bT _ _ _=>bT
 |_=>{kind:= .function,names:=[],isGenerator:=false,isCoroutine:=false}
noncomputable abbrev E0:XK:=λ_ _ _=>False
structure Fun(K:Frag)(x qual:Str)(st:Stmt)(f:Addr)(fd:FuncData):Prop where
 ex:∃(d0:Value)(di:Option Addr)(kV dU dJ:Value)(an:Option Addr)(cy ct:Value)(eT:Array (Option Value)),
  fd=fnOf x qual (gs st) (f4 st) (cT st) .none kV dU dJ an cy ct∧K.lookup f=some ⟨d0,di,.func fd,eT⟩∧codeIn K cy qual=true
 kp:keepIn K (.ref f)=true
section
variable {P:Program}{w:World}{K:Frag}{mg:Str→Option Value}{base:Heap}
theorem Fun.binds{x qual:Str}{st:Stmt}{f:Addr}{fd:FuncData}{bP:List Str}(F:Fun K x qual st f fd)
  (h:∀(kV dU dJ:Value)(an:Option Addr)(cy ct:Value)(us:List Value),us.length=bP.length→bindArgs (fnOf x qual (gs st) (f4 st) (cT st) .none kV dU dJ an cy ct) ⟨us,[]⟩=pure (bP.zip us)):Yk K fd bP []:=by
 obtain⟨d0,di,kV,dU,dJ,an,cy,ct,eT,rfl,lk,fV⟩:=F.ex;exact .all (h kV dU dJ an cy ct)
theorem jo{x qual:Str}{st:Stmt}{f:Addr}{d0:Value}{di an:Option Addr}{eT:Array (Option Value)}{kV dU dJ cy ct:Value}(l:K.lookup f=some ⟨d0,di,.func (fnOf x qual (gs st) (f4 st) (cT st) .none kV dU dJ an cy ct),eT⟩)
  (c:codeIn K cy qual=true) (k:keepIn K (.ref f)=true):Fun K x qual st f (fnOf x qual (gs st) (f4 st) (cT st) .none kV dU dJ an cy ct):=⟨⟨d0,di,kV,dU,dJ,an,cy,ct,eT,rfl,l,c⟩,k⟩
end
theorem eF{n:Nat}(h:n≤1000):n<sizeLine:=Nat.lt_of_le_of_lt h (by decide)
section
variable {X:Cx}
theorem pv(i:Nat){x:Str}{pos:Pos}(dZ:X.N[i]? =some x:=by rfl)(b8:Vis X.env.scope x:=by first|exact Or.inl rfl|exact Or.inr (Or.inl rfl)|exact Or.inr (Or.inr rfl))(hd:(x==("__debug__" :Str))=false:=by decide)
  (fV:(x==("__classdict__" :Str))=false:=by decide):PE X (.Name x pos) (Zb0 i):=ZfV dZ b8 hd fV
end
theorem Zba{A B:Prop}(h:B):if false=true then A else B:=by
 rw[if_neg Qb];exact h
theorem ZbU{A B:Prop}(h:A):if true=true then A else B:=by
 rw[if_pos rfl];exact h
theorem UQ{c A B:Prop}[Decidable c](a_:c→A)(bd:¬c→B):if c then A else B:=by
 by_cases h:c
 ·rw[if_pos h];exact a_ h
 ·rw[if_neg h];exact bd h
def Ze(H aS:Hp):Prop:=∀b o,H b=some o→aS b=some o
theorem Ze.refl(H:Hp):Ze H H:=λ_ _ h=>h
theorem Ze.trans{H a1 a8:Hp}(a:Ze H a1)(b:Ze a1 a8):Ze H a8:=λc o h=>b c o (a c o h)
theorem Ze.seq{K:Frag}{H aS:Hp}{a:Addr}{xs:List V}(e:Ze H aS)(h:SqL K H a xs):SqL K aS a xs:=by
 rcases h with(h|⟨o,h⟩)|h
 ·exact .inl (.inl (e _ _ h))
 ·exact .inl (.inr ⟨o,e _ _ h⟩)
 ·exact .inr h
section
variable {c_:Type}[DecidableEq c_]
noncomputable def eN (kvs:List (c_×V)) (k:c_):Option V:=(kvs.find? λcZ=>decide (cZ.1=k)).map (·.2)
noncomputable def eU (kvs:List (c_×V)) (k:c_) (v:V):List (c_×V):=
 if(kvs.any λcZ=>decide (cZ.1=k))=true then kvs.map (λcZ=>if cZ.1=k then(cZ.1,v) else cZ) else kvs++ [(k,v)]
theorem lA{p:c_×V}{r:List (c_×V)}{k:c_}(e:p.1=k):eN (p::r) k=some p.2:=by simp[eN,QT,e]
theorem lB{p:c_×V}{r:List (c_×V)}{k:c_}(e:¬p.1=k):eN (p::r) k=eN r k:=by simp[eN,QT,e]
theorem WQ(k:c_):∀kvs:List (c_×V),(kvs.any λcZ=>decide (cZ.1=k))=(eN kvs k).isSome
 | []=>rfl
 |p::r=>by
  rw[Q6]
  by_cases e:p.1=k
  ·simp only[lA e,decide_eq_true e,Bool.true_or,Option.isSome_some]
  ·rw[lB e,decide_eq_false e,Bool.false_or];exact WQ k r
theorem Wu(kvs:List (c_×V))(k:c_)(v:V):(eU kvs k v).length≤kvs.length+1:=by
 unfold eU
 split
 ·rw[Qe];omega
 ·rw[Qg,List.length_cons,List.length_nil];omega
theorem Zdt{kvs:List (c_×V)}{k:c_}(v:V)(h:eN kvs k=none):eU kvs k v=kvs++ [(k,v)]:=by
 unfold eU;rw[WQ,h];exact if_neg (by decide)
theorem fg.isSome_eq{o:Option V}{u:Option Value}(r:fg o u):o.isSome=u.isSome:=by
 cases o with
 |none=>cases u with
  |none=>rfl
  |some _=>exact(show False from r).elim
 |some _=>cases u with
  |none=>exact(show False from r).elim
  |some _=>rfl
theorem KV.val{kvs:List (c_×V)}{vs:List (c_×Value)}(r:KV kvs vs)(k:c_):fg (eN kvs k) (valueAt vs k):=by
 unfold KV at r
 induction r with
 |nil=>exact True.intro
 | @cons p q bP qs h t ds=>
  obtain⟨a_,bd⟩:=h
  by_cases e:p.1=k
  ·have b6:q.1=k:=a_.symm.trans e;have b:valueAt (q::qs) k=some q.2:=by simp[valueAt,QT,b6]
   rw[lA e,b];exact bd
  ·have b6:¬q.1=k:=λz=>e (a_.trans z);have b:valueAt (q::qs) k=valueAt qs k:=by simp[valueAt,QT,b6]
   rw[lB e,b];exact ds
theorem KV.any{kvs:List (c_×V)}{vs:List (c_×Value)}(r:KV kvs vs)(k:c_):(kvs.any λcZ=>decide (cZ.1=k))=vs.any λcZ=>decide (cZ.1=k):=by
 unfold KV at r
 induction r with
 |nil=>rfl
 |cons h t ds=>rw[Q6,Q6,ds,h.1]
theorem KV.repl{kvs:List (c_×V)}{vs:List (c_×Value)}(r:KV kvs vs)(k:c_){y:V}{u:Value}(bX:cu y u):
  KV (kvs.map λcZ=>if cZ.1=k then(cZ.1,y) else cZ) (vs.map λcZ=>if cZ.1=k then(cZ.1,u) else cZ):=by
 unfold KV at r⊢
 induction r with
 |nil=>exact .nil
 | @cons p q bP qs h t ds=>
  rw[List.map_cons,List.map_cons];refine .cons ?_ ds;obtain⟨a_,bd⟩:=h
  by_cases e:p.1=k
  ·rw[if_pos e,if_pos (a_.symm.trans e)];exact⟨a_,bX⟩
  ·rw[if_neg e,if_neg (λz=>e (a_.trans z))];exact⟨a_,bd⟩
theorem KV.put{kvs:List (c_×V)}{vs:List (c_×Value)}(r:KV kvs vs)(k:c_){y:V}{u:Value}(bX:cu y u):KV (eU kvs k y) (stored vs k u):=by
 unfold eU stored;rw[r.any k]
 by_cases e:(vs.any λcZ=>decide (cZ.1=k))=true
 ·rw[if_pos e,if_pos e];exact r.repl k bX
 ·rw[if_neg e,if_neg e];exact Paired.snoc r ⟨rfl,bX⟩
theorem KV.length{kvs:List (c_×V)}{vs:List (c_×Value)}(r:KV kvs vs):kvs.length=vs.length:=Paired.length r
end
theorem jp{P:Program}{w:World}{k:Key}{u:Value}(r:cu (kV k) u):(eX P w).is k u=true:=by
 cases k with
 |inl i=>obtain⟨t,e⟩:=(show ∃t,u=Value.int i t from r);subst e;exact Zbp P w i t
 |inr x=>obtain⟨t,e⟩:=(show ∃t,u=Value.str x t from r);subst e;exact Zbj P w x t
theorem tt{a b:Key}(e:kV a=kV b):a=b:=by
 cases a with
 |inl i=>cases b with
  |inl j=>have b6:V.int i=V.int j:=e;injection b6 with b6;rw[b6]
  |inr y=>exact nomatch (show V.int i=V.str y from e)
 |inr x=>cases b with
  |inl j=>exact nomatch (show V.str x=V.int j from e)
  |inr y=>have b6:V.str x=V.str y:=e;injection b6 with b6;rw[b6]
theorem pI{P:Program}{w:World}:∀{gq:List Key}{us:List Value},cf (gq.map kV) us→ItemsAre (eX P w) gq us
 | [],_,r=>by rw[List.map_nil] at r;cases r;exact .nil
 |k::gq,_,r=>by
  rw[List.map_cons] at r;cases r with
  |cons h t=>exact .cons (jp h) (pI t)
noncomputable abbrev KT (H:Hp):List (List Key×V)→List (List Key×Addr×Value)→Prop:=Paired λp q=>p.1=q.1∧H q.2.1=some (.tup (p.1.map kV))∧cu p.2 q.2.2
theorem KT.val{H:Hp}{kvs:List (List Key×V)}{xs:List (List Key×Addr×Value)}(r:KT H kvs xs)(k:List Key):fg (eN kvs k) ((atKey xs k).map (·.2)):=by
 induction r with
 |nil=>exact True.intro
 | @cons p q bP qs h t ds=>
  obtain⟨a_,_,bd⟩:=h
  by_cases e:p.1=k
  ·have b6:q.1=k:=a_.symm.trans e;have b:atKey (q::qs) k=some q.2:=by simp[atKey,QT,b6]
   rw[lA e,b];exact bd
  ·have b6:¬q.1=k:=λz=>e (a_.trans z);have b:atKey (q::qs) k=atKey qs k:=by simp[atKey,QT,b6]
   rw[lB e,b];exact ds
theorem KT.repl{H:Hp}{kvs:List (List Key×V)}{xs:List (List Key×Addr×Value)}(r:KT H kvs xs)(k:List Key){y:V}{u:Value}(bX:cu y u):
  KT H (kvs.map λcZ=>if cZ.1=k then(cZ.1,y) else cZ) (xs.map (putAt k u)):=by
 induction r with
 |nil=>exact .nil
 | @cons p q bP qs h t ds=>
  rw[List.map_cons,List.map_cons];refine .cons ?_ ds;obtain⟨a_,bd,cx⟩:=h;unfold putAt
  by_cases e:p.1=k
  ·rw[if_pos e,if_pos (a_.symm.trans e)];exact⟨a_,bd,bX⟩
  ·rw[if_neg e,if_neg (λz=>e (a_.trans z))];exact⟨a_,bd,cx⟩
theorem KT.put{H:Hp}{kvs:List (List Key×V)}{xs:List (List Key×Addr×Value)}(r:KT H kvs xs)(k:List Key){b:Addr}{y:V}{u:Value}(a6:H b=some (.tup (k.map kV)))(bX:cu y u):
  KT H (eU kvs k y) (storedH xs k b u):=by
 have e:(kvs.any λcZ=>decide (cZ.1=k))=(atKey xs k).isSome:=by
  rw[WQ,(r.val k).isSome_eq,Option.isSome_map]
 unfold eU storedH;rw[e]
 by_cases q:(atKey xs k).isSome=true
 ·rw[if_pos q,if_pos q];exact r.repl k bX
 ·rw[if_neg q,if_neg q];exact Paired.snoc r ⟨rfl,a6,bX⟩
theorem KT.keeps{H aS:Hp}{kvs:List (List Key×V)}{xs:List (List Key×Addr×Value)}(r:KT H kvs xs)(cL:∀b ys,H b=some (.tup ys)→aS b=some (.tup ys)):KT aS kvs xs:=
 Paired.mapP r λ_ _ z=>⟨z.1,cL _ _ z.2.1,z.2.2⟩
section
variable {P:Program}{w:World}{H:Hp}{h:Heap}{a:Addr}
theorem Zeh{u:HO}(ok:HOk P w H h)(e:Rd H a u):ZF P w H h a u:=e.ok ok
theorem Vz{kvs:List (Key×V)}(ok:HOk P w H h)(e:Rd H a (.dK kvs)):kvs.length≤sizeLine∧(a==sysModules)=false∧∃vs,KV kvs vs∧h.DictOf (eX P w) a vs:=
 show ZF P w H h a (.dK kvs) from Zeh ok e
theorem ZbT{kvs:List (Key×V)}(ok:HOk P w H h)(e:H a=some (.dK kvs)):kvs.length≤sizeLine∧(a==sysModules)=false∧∃vs,KV kvs vs∧h.DictOf (eX P w) a vs:=Vz ok (.inl e)
theorem ki{gq:List Key}(ok:HOk P w H h)(e:H a=some (.tup (gq.map kV))):(tupleKind (eX P w)).is h gq a:=by
 obtain⟨_,its,r,o,a_,bd,n,cx⟩:=(show ZF P w H h a (.tup (gq.map kV)) from ok a _ e);exact⟨o,its.toArray,n,a_,bd,cx,by simpa using pI r⟩
theorem Ud{kvs:List (List Key×V)}(ok:HOk P w H h)(e:Rd H a (.dT kvs)):kvs.length≤sizeLine∧(a==sysModules)=false∧
  ∃xs,KT H kvs xs∧h.DictOfH (tupleKind (eX P w)) a xs:=by
 obtain⟨z,y,xs,r,o,bS,ep,a_,bd,cx,cG,eM⟩:=(show ZF P w H h a (.dT kvs) from Zeh ok e);refine⟨z,y,xs,r,o,bS,ep,a_,bd,cx,cG,λx bc=>?_,eM⟩;have all:∀{l:List (List Key×V)}{m:List (List Key×Addr×Value)},KT H l m→∀x∈m,(tupleKind (eX P w)).is h x.1 x.2.1:=by
  intro l m q
  induction q with
  |nil=>intro x bc;exact nomatch bc
  | @cons p q bP qs b7 t ds=>
   intro x bc;rcases Qj.mp bc with e|bc
   ·subst e;exact ki ok (by rw[←b7.1];exact b7.2.1)
   ·exact ds x bc
 exact all r x bc
theorem Zgx{kvs:List (List Key×V)}(ok:HOk P w H h)(e:H a=some (.dT kvs)):kvs.length≤sizeLine∧(a==sysModules)=false∧
  ∃xs,KT H kvs xs∧h.DictOfH (tupleKind (eX P w)) a xs:=Ud ok (.inl e)
end
def Wa(H:Hp)(a:Addr)(y:V)(r:Option V):Prop:=
 (∃kvs k,Rd H a (.dK kvs)∧y=kV k∧r=eN kvs k)∨∃kvs k b,Rd H a (.dT kvs)∧y= .ref b∧H b=some (.tup (k.map kV))∧r=eN kvs k
def ZaN(H:Hp)(a:Addr)(y v:V)(aS:Hp):Prop:=
 (∃kvs k,H a=some (.dK kvs)∧y=kV k∧kvs.length<sizeLine∧aS=upd H a (.dK (eU kvs k v)))∨
 ∃kvs k b,H a=some (.dT kvs)∧y= .ref b∧H b=some (.tup (k.map kV))∧kvs.length<sizeLine∧aS=upd H a (.dT (eU kvs k v))
theorem Wa.k{H:Hp}{a:Addr}{kvs:List (Key×V)}{k:Key}(e:H a=some (.dK kvs)):Wa H a (kV k) (eN kvs k):= .inl ⟨kvs,k,.inl e,rfl,rfl⟩
theorem ZaN.k{H:Hp}{a:Addr}{kvs:List (Key×V)}{k:Key}{v:V}(e:H a=some (.dK kvs))(hl:kvs.length<sizeLine):ZaN H a (kV k) v (upd H a (.dK (eU kvs k v))):= .inl ⟨kvs,k,e,rfl,hl,rfl⟩
section
variable {X:Cx}{aU:List (Addr×Obj)}{aM:St}{H:Hp}{s:Shared}{a:Addr}{y v:V}{u r:Value}{o:Option V}{A:Around}{E:Value→Shared→Prop}
theorem Inv.big(I:Inv X aU aM H s):sysModules<s.heap.objs.size:=by
 have h:mainGlobals<s.heap.objs.size:=(I.mod.glob.keeps I.bk).lt;exact Nat.lt_trans (by decide) h
theorem tu{Q:Value→Shared→Prop}(hu:A.units+1<cLine)(I:Inv X aU aM H s)(g:Wa H a y (some v))(bX:cu y u)(h:∀dz s',Inv X aU aM H s'→cu v dz→Q dz s'):
  wpAny (model X.prog X.w) A (getItem (.ref a) u) Q E s:=by
 rcases g with⟨kvs,k,e,fA,l⟩|⟨kvs,k,b,e,fA,fi,l⟩
 ·subst fA;obtain⟨z,hd,vs,rel,dd⟩:=Vz I.hok e;obtain⟨dz,hw,hp⟩:=fg.some_of (v:=v) (o:=valueAt vs k) (by rw[l];exact rel.val k);exact wpAny_getItem_of (jp bX) dd.mapOf hw (h dz _ (I.tok _) hp)
 ·subst fA;cases (show u=Value.ref b from bX);obtain⟨z,hd,xs,rel,dd⟩:=Ud I.hok e;obtain⟨dz,hw,hp⟩:=fg.some_of (v:=v) (o:=(atKey xs k).map (·.2)) (by rw[l];exact rel.val k);obtain⟨p,b3,pJ⟩:=Option.map_eq_some_iff.mp hw;refine wpAny_getItem_heap (tupleKind_room_in1 hu) (ki I.hok fi) dd b3 ?_;rw[pJ];exact h dz _ (I.tok _) hp
theorem Zg6{Q:Value→Shared→Prop}(hu:A.units+1<cLine)(I:Inv X aU aM H s)(g:Wa H a y o)(bX:cu y u)(h:∀s',Inv X aU aM H s'→Q (.bool o.isSome) s'):
  wpAny (model X.prog X.w) A (compareOp .In u (.ref a)) Q E s:=by
 rcases g with⟨kvs,k,e,fA,l⟩|⟨kvs,k,b,e,fA,fi,l⟩
 ·subst fA;obtain⟨z,hd,vs,rel,dd⟩:=Vz I.hok e;refine wpAny_in_of (jp bX) hd dd.mapOf ?_;rw[←(rel.val k).isSome_eq,←l];exact h _ (I.tok _)
 ·subst fA;cases (show u=Value.ref b from bX);obtain⟨z,hd,xs,rel,dd⟩:=Ud I.hok e;refine wpAny_in_heap (tupleKind_room_in1 hu) (ki I.hok fi) hd dd ?_;have q:=(rel.val k).isSome_eq;rw[Option.isSome_map] at q;rw[←q,←l];exact h _ (I.tok _)
theorem Zez{Q:Value→Shared→Prop}(hu:A.units+1<cLine)(I:Inv X aU aM H s)(g:Wa H a y o)(bX:cu y u)(h:∀s',Inv X aU aM H s'→Q (.bool (!o.isSome)) s'):
  wpAny (model X.prog X.w) A (compareOp .NotIn u (.ref a)) Q E s:=by
 rcases g with⟨kvs,k,e,fA,l⟩|⟨kvs,k,b,e,fA,fi,l⟩
 ·subst fA;obtain⟨z,hd,vs,rel,dd⟩:=Vz I.hok e;refine wpAny_notIn_of (jp bX) hd dd.mapOf ?_;rw[←(rel.val k).isSome_eq,←l];exact h _ (I.tok _)
 ·subst fA;cases (show u=Value.ref b from bX);obtain⟨z,hd,xs,rel,dd⟩:=Ud I.hok e;refine wpAny_notIn_heap (tupleKind_room_in1 hu) (ki I.hok fi) hd dd ?_;have q:=(rel.val k).isSome_eq;rw[Option.isSome_map] at q;rw[←q,←l];exact h _ (I.tok _)
theorem UW{h':Heap}{t':Nat}{cD:HO}(I:Inv X aU aM H s)(fJ:Mut (H a))(bN:Heap.SameBut a s.heap h')(b_:∃q,h'.get? a=some q)(new:ZF X.prog X.w (upd H a cD) h' a cD):
  Inv X aU aM (upd H a cD) {s with heap:=h',toks:=t'}:=
 I.write (x:=a) (e:=a) fJ (.inl rfl) (λb q a6 z=>(bN.2 b a6).trans z) b_ new
theorem pK{P:Program}{w:World}{aS:Hp}{h':Heap}{kvs:List (Key×V)}{vs:List (Key×Value)}(z:kvs.length≤sizeLine)(hd:(a==sysModules)=false)(rel:KV kvs vs)(dd:h'.DictOf (eX P w) a vs):
  ZF P w aS h' a (.dK kvs):=⟨z,hd,vs,rel,dd⟩
theorem Zdj{aS:Hp}{Q:Unit→Shared→Prop}(hu:A.units+1<cLine)(I:Inv X aU aM H s)(g:ZaN H a y v aS)(bX:cu y u)(c7:cu v r)(h:∀s',Inv X aU aM aS s'→Q () s'):
  wpAny (model X.prog X.w) A (setItem (.ref a) u r) Q E s:=by
 rcases g with⟨kvs,k,e,fA,l,mW⟩|⟨kvs,k,b,e,fA,fi,l,mW⟩
 ·subst fA mW;obtain⟨z,hd,vs,rel,dd⟩:=ZbT I.hok e;have cd:vs.length≤sizeLine:=by rw[←rel.length];exact z
  have hl:(eU kvs k v).length≤sizeLine:=by have:=Wu kvs k v;omega
  refine wpAny_setItem_pairs (hsz:=cd) (jp bX) dd λh' dd' bN=>h _ ?_;have b_:∃q,h'.get? a=some q:=let⟨q,_,_,b7,_⟩:=dd';⟨q,b7⟩
  exact UW I (by rw[e];exact True.intro) bN b_ (pK hl hd (rel.put k c7) dd')
 ·subst fA mW;cases (show u=Value.ref b from bX);obtain⟨z,hd,xs,rel,dd⟩:=Zgx I.hok e;have cd:xs.length≤sizeLine:=by rw[←Paired.length rel];exact z
  have hl:(eU kvs k v).length≤sizeLine:=by have:=Wu kvs k v;omega
  refine wpAny_setItem_heap (hsz:=cd) (tupleKind_room_in1 hu) (ki I.hok fi) dd λh' dd' bN=>h _ ?_;obtain⟨q,bS,ep,b7,bd,cx,cG,_,eM⟩:=dd';refine UW I (by rw[e];exact True.intro) bN ⟨q,b7⟩ ⟨hl,hd,_,(rel.put k fi c7).keeps λc ys e5=>?_,q,bS,ep,b7,bd,cx,cG,eM⟩;rw[cm (gg e5 e (λz=>nomatch z))];exact e5
end
section
variable {X:Cx}{aU:List (Addr×Obj)}{aM:St}{H:Hp}{s:Shared}{a:Addr}{kvs:List (Key×V)}{k:Key}{u:Value}{A:Around}{E:Value→Shared→Prop}
theorem Zgm{Q:Value→Shared→Prop}(I:Inv X aU aM H s)(e:Rd H a (.dK kvs))(h:∀t s',Inv X aU aM H s'→Q (.int kvs.length t) s'):wpAny (model X.prog X.w) A (call (.builtin "len") [.ref a]) Q E s:=by
 obtain⟨z,hd,vs,rel,dd⟩:=Vz I.hok e;refine call_len_dict hd dd (by rw[←rel.length];rw[sizeLine_eq] at z;omega) ?_;rw[←rel.length];exact h _ _ (I.tok _)
end
theorem tv{X:Cx}{aU:List (Addr×Obj)}{aM:St}{H:Hp}{s:Shared}{a:Addr}{y:V}{o:Option V}(I:Inv X aU aM H s)(g:Wa H a y o):s.TypeIs (.ref a) "dict" :=by
 rcases g with⟨kvs,k,e,_,_⟩|⟨kvs,k,b,e,_,_,_⟩
 ·obtain⟨_,_,vs,_,dd⟩:=Vz I.hok e;exact dd.typeIs
 ·obtain⟨_,_,xs,_,dd⟩:=Ud I.hok e;exact dd.typeIs
section
variable {X:Cx}{o i e value:Expr}{pos hi mC:Pos}{hq ty fj:TE}
end
theorem pL{P:Program}{w:World}{H:Hp}(h:Heap)(a6:sysModules<h.objs.size):ZF P w H (h.push {cls:= .type "dict",data:= .dict #[]}) h.objs.size (.dK []):=
 ⟨Qy _,beq_eq_false_iff_ne.mpr (Q8 (Ql a6)),[],.nil,Heap.DictOf.new h⟩
noncomputable def tDNewK:TE:=λ_ H Q=>∀p,H p=none→Q (.ref p) (upd H p (.dK []))
section
variable {X:Cx}{pos:Pos}
theorem tw:PE X (.Dict [] [] pos) tDNewK:=λaU s aM H Q I h=>
 wpAny_Dict_empty ⟨.ref s.heap.objs.size,_,I.laid (a:=s.heap.objs.size) (o:= .dK []) (t':=s.toks) (λ_ _ q=>Heap.get?_push_of_some _ q) (Qc _) (pL s.heap I.big),rfl,h _ (I.hok.fresh (Qc _))⟩
end
noncomputable def mX:List (TE×TE)→St→Hp→(List (V×V)→Hp→Prop)→Prop
 | [],_,H,Q=>Q [] H
 |(cW,fj)::r,aM,H,Q=>cW aM H λx a1=>fj aM a1 λy a8=>mX r aM a8 λbP b1=>Q ((x,y)::bP) b1
noncomputable abbrev VV:List (V×V)→List (Value×Value)→Prop:=Paired λp q=>cu p.1 q.1∧cu p.2 q.2
def PPs(X:Cx)(pos:Pos)(hX:List (Option Expr))(kj:List Expr)(hr:List (TE×TE)):Prop:=
 ∀(aU:List (Addr×Obj))(s:Shared)(aM:St)(H:Hp)(Q:List (V×V)→Hp→Prop),Inv X aU aM H s→mX hr aM H Q→
  wpAny (model X.prog X.w) X.A (evalPairs (pairTrees hX kj X.env pos)) (λvs s'=>∃bP aS,Inv X aU aM aS s'∧VV bP vs∧Q bP aS) X.xe s
theorem ZeR{X:Cx}{pos:Pos}:PPs X pos [] [] []:=λaU s aM H Q I h=>pairTrees_nil_walk ⟨[],H,I,.nil,h⟩
theorem tx{X:Cx}{pos:Pos}{k v:Expr}{gq:List (Option Expr)}{vs:List Expr}{cW fj:TE}{hr:List (TE×TE)}(bY:PE X k cW)(b8:PE X v fj)(a':PPs X pos gq vs hr):
  PPs X pos (some k::gq) (v::vs) ((cW,fj)::hr):=λaU s aM H Q I h=>
 pairTrees_cons_walk (thn (bY aU s aM H _ I h) λu bj ⟨x,a1,bU,bL,ck⟩=>thn (b8 aU bj aM a1 _ bU ck) λi8 bQ ⟨y,a8,cF,bX,cv⟩=>
  thn (a' aU bQ aM a8 _ cF cv) λeb bV ⟨bP,b1,dA,rel,d2⟩=>⟨(x,y)::bP,b1,dA,.cons ⟨bL,bX⟩ rel,d2⟩)
noncomputable def hs (kvs more:List (Key×V)):List (Key×V):=more.foldl (λc0 cZ=>eU c0 cZ.1 cZ.2) kvs
theorem KV.merge:∀{more:List (Key×V)}{fl:List (Key×Value)}{kvs:List (Key×V)}{vs:List (Key×Value)},KV more fl→KV kvs vs→KV (hs kvs more) (merged vs fl):=by
 intro more fl kvs vs r;unfold KV at r
 induction r generalizing kvs vs with
 |nil=>intro q;exact q
 | @cons p q bP qs h t ds=>
  intro mY;have e:KV (eU kvs p.1 p.2) (stored vs q.1 q.2):=by
   have:=mY.put p.1 h.2;rw[←h.1];exact this
  exact ds e
theorem pM:∀(more kvs:List (Key×V)),(hs kvs more).length≤kvs.length+more.length
 | [],kvs=>by show kvs.length≤kvs.length+0;omega
 |p::r,kvs=>by
  have a_:=pM r (eU kvs p.1 p.2);have bd:=Wu kvs p.1 p.2;show(hs (eU kvs p.1 p.2) r).length≤_;rw[List.length_cons];omega
theorem Uh{P:Program}{w:World}:∀{kvs:List (Key×V)}{eb:List (Value×Value)},VV (kvs.map λcZ=>(kV cZ.1,cZ.2)) eb→∃fl,Carries (eX P w) eb fl∧KV kvs fl
 | [],_,r=>by rw[List.map_nil] at r;cases r;exact⟨[],True.intro,.nil⟩
 |p::kvs,_,r=>by
  rw[List.map_cons] at r;cases r with
  | @cons a b as bs h t=>
   obtain⟨fl,c,q⟩:=Uh (P:=P) (w:=w) t;obtain⟨zU,tz⟩:=b;exact⟨(p.1,tz)::fl,⟨jp h.1,rfl,c⟩,.cons ⟨rfl,h.2⟩ q⟩
noncomputable def tA (hr:List (TE×TE)):TE:=λaM H Q=>∀p,H p=none→mX hr aM (upd H p (.dK [])) λbP a8=>a8 p=some (.dK [])∧∃kvs:List (Key×V),bP=kvs.map (λcZ=>(kV cZ.1,cZ.2))∧kvs.length≤15∧Q (.ref p) (upd a8 p (.dK (hs [] kvs)))
theorem tD{X:Cx}{pos:Pos}{hX:List (Option Expr)}{kj:List Expr}{hr:List (TE×TE)}(h:PPs X pos hX kj hr)(iy:hX.all (·.isSome)=true)(hl:hX.length=kj.length)(du:hX≠[])
  (tE:hX.length≤15):PE X (.Dict hX kj pos) (tA hr):=by
 intro aU s aM H Q I q;have bM:=I.hok.fresh (Qc s.heap.objs.size);have bU:=I.laid (a:=s.heap.objs.size) (o:= .dK []) (h':=s.heap.push {cls:= .type "dict",data:= .dict #[]}) (t':=s.toks) (λ_ _ q=>Heap.get?_push_of_some _ q) (Qc _) (pL s.heap I.big);refine wpAny_Dict_walk (knd:=eX X.prog X.w) iy hl du tE (thn (h aU _ aM _ _ bU (q _ bM)) λeb bQ ⟨bP,a8,cF,rel,e,kvs,ep,lk,cv⟩=>?_);subst ep;obtain⟨fl,c,tF⟩:=Uh (P:=X.prog) (w:=X.w) rel;obtain⟨z,hd,zV,mY,dd⟩:=ZbT cF.hok e;cases mY;refine⟨fl,c,dd,λh' dd' bN=>⟨.ref s.heap.objs.size,_,?_,rfl,cv⟩⟩;have cd:(hs [] kvs).length≤sizeLine:=by
  have a_:=pM kvs [];rw[List.length_nil] at a_;rw[sizeLine_eq];omega
 have b_:∃q,h'.get? s.heap.objs.size=some q:=let⟨q,_,_,b7,_⟩:=dd';⟨q,b7⟩
 exact UW cF (by rw[e];exact True.intro) bN b_ (pK cd hd (tF.merge .nil) dd')
section
variable {X:Cx}{aU:List (Addr×Obj)}{aM:St}{H:Hp}{s:Shared}{a:Addr}{y d:V}{u r:Value}{o:Option V}{A:Around}{E:Value→Shared→Prop}
end
section
variable {X:Cx}{o e f:Expr}{dF ey:Pos}{hq ty zW:TE}
end
section
variable {X:Cx}{aU:List (Addr×Obj)}{aM:St}{H:Hp}{s:Shared}{a:Addr}{kvs:List (Key×V)}{A:Around}{E:Value→Shared→Prop}
end
section
variable {X:Cx}{aU:List (Addr×Obj)}{aM:St}{H:Hp}{s:Shared}{a:Addr}{y:V}{u:Value}{A:Around}{E:Value→Shared→Prop}
end
section
variable {X:Cx}
theorem tG:Yc X (.builtin "len") (λxs H Q=>∃a kvs,xs=[V.ref a]∧H a=some (.dK kvs)∧Q (.int kvs.length) H):=by
 intro aU s aM H xs us Q I r h;obtain⟨a,kvs,rfl,bK,q⟩:=h;obtain⟨u,rfl,ew⟩:=Y2 r;cases ew;exact Zgm I (.inl bK) λt s' dv=>⟨.int kvs.length,H,dv,⟨t,rfl⟩,q⟩
end
section
variable {c_:Type}[DecidableEq c_]
end
namespace Rd
section
variable {aM:St}{H:Hp}{Q:VK}{D:YS}{t u:TS}{bO cp cn:TE}{r:R2}
theorem var{i:Nat}{v:V}(h:aM[i]? =some (some v))(q:Q v H):Zb0 i aM H Q:=⟨v,h,q⟩
theorem con{v:V}(q:Q v H):tC v aM H Q:=q
theorem op(h:bO aM H λx a1=>cp aM a1 λy a8=>r x y a8 Q):tOp r bO cp aM H Q:=h
theorem un{r:V→Hp→VK→Prop}(h:bO aM H λx a1=>r x a1 Q):tUn r bO aM H Q:=h
theorem i0{g:Int→Int→V}{i j:Int}(q:Q (g i j) H):rI0 g (.int i) (.int j) H Q:=⟨i,j,rfl,rfl,q⟩
theorem iC{C:Int→Int→Prop}{g:Int→Int→V}{i j:Int}(c:C i j)(q:Q (g i j) H):rI C g (.int i) (.int j) H Q:=⟨i,j,rfl,rfl,c,q⟩
theorem eqI{i j:Int}(q:Q (.bl (decide (i=j))) H):rEq (.int i) (.int j) H Q:=⟨rfl,by
 have e:decide (V.int i=V.int j)=decide (i=j):=by
  by_cases h:i=j
  ·rw[h];simp
  ·rw[decide_eq_false h,decide_eq_false (λz=>h (V.int.inj z))]
 rw[e];exact q⟩
theorem neI{i j:Int}(q:Q (.bl (!decide (i=j))) H):rNe (.int i) (.int j) H Q:=⟨rfl,by
 have e:decide (V.int i=V.int j)=decide (i=j):=by
  by_cases h:i=j
  ·rw[h];simp
  ·rw[decide_eq_false h,decide_eq_false (λz=>h (V.int.inj z))]
 rw[e];exact q⟩
theorem Zhg{Q:Bool→Hp→Prop}(h:cn aM H λx aS=>∃k,x= .bl k∧Q k aS):mv cn aM H Q:=h
theorem bl{k:Bool}{Q:Bool→Prop}(q:Q k):∃e0,V.bl k= .bl e0∧Q e0:=⟨k,rfl,q⟩
theorem seq(h:t {D with nx:=u D} aM H):o2 t u D aM H:=h
theorem asg{g:TG}(h:cn aM H λx a1=>g x aM a1 D.nx):lm cn g D aM H:=h
theorem ifs{c:TT}(h:c aM H λb a1=>if b=true then t D aM a1 else u D aM a1):o5 c t u D aM H:=h
theorem ret(h:cn aM H D.rt):o4 cn D aM H:=h
theorem next(h:D.nx aM H):tNext D aM H:=h
theorem drop(h:cn aM H λ_ a1=>D.nx aM a1):o3 cn D aM H:=h
theorem nil{Q:List V→Hp→Prop}(h:Q [] H):tNil aM H Q:=h
theorem cons{lq:TA}{Q:List V→Hp→Prop}(h:bO aM H λx a1=>lq aM a1 λxs a8=>Q (x::xs) a8):pi bO lq aM H Q:=h
theorem call{sp:Sp}{da:List V}{E:XK}{d6:TA}(h:d6 aM H λvs a1=>sp (vs++da) a1 Q E):mD sp da E d6 aM H Q:=h
theorem cb{r:List V→Hp→VK→Prop}{d6:TA}(h:d6 aM H λvs a1=>r vs a1 Q):tCB r d6 aM H Q:=h
theorem tup{d6:TA}(h:d6 aM H λxs a1=>xs.length≤sizeLine∧∀p,a1 p=none→Q (.ref p) (upd a1 p (.tup xs))):pj d6 aM H Q:=h
theorem lst{d6:TA}(h:d6 aM H λxs a1=>xs.length≤sizeLine∧∀p,a1 p=none→Q (.ref p) (upd a1 p (.lst xs))):pk d6 aM H Q:=h
theorem Zhn{t u:TT}{Q:Bool→Hp→Prop}(h:t aM H λc a1=>if c=true then u aM a1 Q else Q false a1):oX t u aM H Q:=h
theorem or_{t u:TT}{Q:Bool→Hp→Prop}(h:t aM H λc a1=>if c=true then Q true a1 else u aM a1 Q):tOr t u aM H Q:=h
theorem Zg9{t:TT}{Q:Bool→Hp→Prop}(h:t aM H λc a1=>Q (!c) a1):oY t aM H Q:=h
theorem ZgI(h:bO aM H λx a1=>∃c,x= .bl c∧if c=true then cp aM a1 Q else Q (.bl false) a1):oZ bO cp aM H Q:=h
theorem orV(h:bO aM H λx a1=>∃c,x= .bl c∧if c=true then Q (.bl true) a1 else cp aM a1 Q):o0 bO cp aM H Q:=h
theorem ZgZ(h:bO aM H λx a1=>∃c,x= .bl c∧Q (.bl (!c)) a1):o1 bO aM H Q:=h
end
end Rd
section
variable {X:Cx}
theorem tH:OpR X (binaryOp .Mult) (rI (λi j=>IntMulOk i j) λi j=> .int (i*j)):=opI λ_ _ _ _ _ _ _ bH q=>mul_int q bH
theorem gu:OpR X (binaryOp .FloorDiv) (rI (λ_ j=>0<j∧j.natAbs.log2<9000) λi j=> .int (i / j)):=opI λi j _ _ _ _ _ bH q=>by
 rw[←Int.fdiv_eq_ediv_of_nonneg i (Int.le_of_lt bH.1)] at q;exact floordiv_int (by have:=bH.1;omega) q (.inl (PyProof.noPylong_of_log2 bH.2))
theorem tI:Yc X (.builtin "isinstance") (λxs H Q=>∃x n t b,xs=[x,.ty n]∧Yh X.K H x t∧PySem.W.kitOne X.K t (.type n)=some b∧Q (.bl b) H):=by
 intro aU s aM H xs us Q I r h;obtain⟨x,n,t,b,rfl,ty,e,q⟩:=h;obtain⟨u,v,rfl,ew,c7⟩:=r.two;obtain rfl:v=Value.type n:=c7;exact Zcz I ew ty e λcW=>⟨.bl b,H,I.tok cW,rfl,q⟩
end
namespace Rd
theorem Zel{A B:Prop}(h:B):if(!true)=true then A else B:=Zba h
theorem Zee{A B:Prop}(h:A):if(!false)=true then A else B:=ZbU h
section
variable {aM:St}{H:Hp}{Q:VK}{D:YS}{t u:TS}{bO cp cn:TE}
theorem ZgN{dI:TI}{g:TG}{cp:TS}(h:dI aM H λJ a1=>∃W:Nat→Nat→St→Hp→Prop,(∃m,W 0 m aM a1)∧∀i m aM H,W i m aM H→
  (J.stop i H∧D.nx aM H)∨(J.go i H∧∃N:St→Hp→Prop,(∀b0 aS,N b0 aS→∃cq,cq<m∧W (i+1) cq b0 aS)∧∀x aS,J.yld i H x aS→g x aM aS λcc a8=>cp {D with nx:=N,ct:=N,bk:=D.nx} cc a8)):pe dI g cp D aM H:=h
theorem Zg5{d6:TA}{R:It→Hp→Prop}(h:d6 aM H λvs a1=>∃j:Int,vs=[.int j]∧ -(2 ^ 62)≤j∧j<2 ^ 62∧R (Itr 0 j.toNat) a1):pb d6 aM H R:=h
theorem Zhj{d6:TA}{R:It→Hp→Prop}(h:d6 aM H λvs a1=>∃i j:Int,vs=[.int i,.int j]∧(-(2 ^ 62)≤i∧i<2 ^ 62∧ -(2 ^ 62)≤j∧j<2 ^ 62)∧R (Itr i (j-i).toNat) a1):pc d6 aM H R:=h
theorem Zd2{K:Frag}{n:Nat}{d6:TGs}{a:Addr}{xs:List V}{Q:St→Hp→Prop}(bN:SqT K H a xs)(bM:xs.length=n)(h:d6 xs aM H Q):mj K n d6 (.ref a) aM H Q:=⟨a,xs,rfl,bN,bM,h⟩
theorem ZgM{Q:St→Hp→Prop}(h:Q aM H):gNil [] aM H Q:=⟨rfl,h⟩
theorem ZgA{g:TG}{pN:TGs}{v:V}{r:List V}{Q:St→Hp→Prop}(h:g v aM H λb0 aS=>pN r b0 aS Q):o6 g pN (v::r) aM H Q:=⟨v,r,rfl,h⟩
end
end Rd
theorem cA{H:Hp}{p:Addr}{o:HO}(b3:H p=none):Ze H (upd H p o):=λc u e=>by rw[cm (dQ e b3)];exact e
theorem Ze.new{H aS:Hp}{q:Addr}{o:HO}(cQ:Ze H aS)(b7:H q=none):Ze H (upd aS q o):=λc u e=>by rw[cm (dQ e b7)];exact cQ c u e
namespace Rd
section
variable {aM:St}{H:Hp}{Q:VK}{D:YS}{K:Frag}
theorem ixt{p:Addr}{xs:List V}{i:Int}{v:V}(h:SqT K H p xs)(e:atI xs i=some v)(q:Q v H):mI K (.ref p) (.int i) H Q:=⟨p,xs,i,v,rfl,rfl,h,e,q⟩
theorem ixl{p:Addr}{xs:List V}{i:Int}{v:V}(h:SqL K H p xs)(e:atI xs i=some v)(q:Q v H):Zch K (.ref p) (.int i) H Q:=⟨p,xs,i,v,rfl,rfl,h,e,q⟩
theorem bm{T:String}{r:V→List V→Hp→VK→Prop}{to:TE}{t:TA}(h:to aM H λx a1=>tyV K T x a1∧t aM a1 λxs a8=>r x xs a8 Q):tBM K T r to t aM H Q:=h
theorem tyl{p:Addr}{xs:List V}{B:Prop}(h:H p=some (.lst xs))(q:B):tyV K "list" (.ref p) H∧B:=⟨.inl ⟨rfl,xs,.of h⟩,q⟩
theorem app{p:Addr}{xs:List V}{y:V}(h:H p=some (.lst xs))(hl:xs.length<sizeLine)(q:Q .non (upd H p (.lst (xs++ [y])))):rAppend (.ref p) [y] H Q:=⟨p,xs,y,rfl,rfl,h,hl,q⟩
end
end Rd
noncomputable def emb (ix:List Nat) (aM:St):St:=none::ix.map λj=>(aM[j]?).join
noncomputable def Zm (X:Cx) (bT:Scope) (cl:List (Str×Addr)) (C:Addr) (N:List Str) (s:Shared) (H:Hp) (fp:List Addr):Cx where
 prog:=X.prog
 w:=X.w
 K:=X.K
 mg:=X.mg
 base:=X.base
 A:=X.A
 N:=N
 s₀:=s
 H₀:=H
 env:=compEnvC bT cl C X.env
 outer:=X.stack
 stack:=X.stack
 ex:=fp
 fn:=λ_=>false
 calm:=X.calm
 pn:=[]
 xe:=λ_ _=>False
structure Yg(X:Cx)(bT:Scope)(x:Str)(zs:List Str)(ix:List Nat):Prop where
 kind:bT.kind= .function
 nocell:∀y∈bT.names,y.2≠ .cell
 names:∀y∈bT.names,y.2= .local→bT.names.lookup y.1=some .local
 free:∀y∈bT.names,y.2= .free→X.env.kindOf y.1=some .cell∨X.env.kindOf y.1=some .free
 zfree:∀z∈zs,bT.names.lookup z=some .free
 at_:ix.map (λj=>X.N[j]?)=zs.map some
theorem Yl{env:Env}{x:Str}:∀{names:List (Str×NameKind)}{k:NameKind},
  (names.map λ(n,k)=>if(k==NameKind.free&&env.scope.kind== .function&&env.kindOf n==some .cell) then(n,NameKind.cell) else(n,k)).lookup x=some k→
  ∃e0,names.lookup x=some e0∧(k=e0∨(e0= .free∧k= .cell))
 | [],_,h=>by simp at h
 |(n,j)::r,k,h=>by
  have h':List.lookup x ((if(j==NameKind.free&&env.scope.kind== .function&&env.kindOf n==some .cell)=true then(n,NameKind.cell) else(n,j))::(r.map λ(n,k)=>if(k==NameKind.free&&env.scope.kind== .function&&env.kindOf n==some .cell) then(n,NameKind.cell) else(n,k)))=some k:=h;cases bc:x==n with
  |true=>
   refine⟨j,by simp[Qt,bc],?_⟩
   by_cases bH:(j==NameKind.free&&env.scope.kind== .function&&env.kindOf n==some .cell)=true
   ·rw[if_pos bH] at h';simp only[Qt,bc] at h';cases h';simp only[Qx,beq_iff_eq] at bH;exact .inr ⟨bH.1.1,rfl⟩
   ·rw[if_neg bH] at h';simp only[Qt,bc] at h';cases h';exact .inl rfl
  |false=>
   have bd:List.lookup x (r.map λ(n,k)=>if(k==NameKind.free&&env.scope.kind== .function&&env.kindOf n==some .cell) then(n,NameKind.cell) else(n,k))=some k:=by
    by_cases bH:(j==NameKind.free&&env.scope.kind== .function&&env.kindOf n==some .cell)=true
    ·rw[if_pos bH] at h';simpa only[Qt,bc] using h'
    ·rw[if_neg bH] at h';simpa only[Qt,bc] using h'
   obtain⟨e0,e,q⟩:=Yl bd;exact⟨e0,by simp only[Qt,bc];exact e,q⟩
theorem hY{x:Str}{k:NameKind}:∀{names:List (Str×NameKind)},names.lookup x=some k→(x,k)∈names:=λh=>QJ h
theorem WT(env:Env):∀(names:List (Str×NameKind))(c0:List (Str×Addr)),
  (∀y∈names,y.2= .free→∃c,env.cells.lookup y.1=some c)→(∀y c,c0.lookup y=some c→env.cells.lookup y=some c)→
  ∃cl:List (Str×Addr),(forIn names c0 (λx (r:List (Str×Addr))=>if x.2==NameKind.free then(do let a←cellOf env x.1;pure (ForInStep.yield ((x.1,a)::r))) else pure (ForInStep.yield r)):Sem (List (Str×Addr)))=pure cl∧
   (∀y c,cl.lookup y=some c→env.cells.lookup y=some c)∧(∀y,(∃c,c0.lookup y=some c)∨(y,NameKind.free)∈names→∃c,cl.lookup y=some c)
 | [],c0,_,bK=>⟨c0,rfl,bK,λy h=>h.elim id λz=>absurd z (by simp)⟩
 |(n,k)::r,c0,cj,bK=>by
  have a':∀y∈r,y.2= .free→∃c,env.cells.lookup y.1=some c:=λy cH=>cj y (Qo _ cH)
  by_cases bY:k= .free
  ·subst bY;obtain⟨c,bH⟩:=cj (n,.free) QQ rfl;have kk:∀y c2,((n,c)::c0).lookup y=some c2→env.cells.lookup y=some c2:=λy c2 h=>by
    cases cH:y==n with
    |true=>
     simp only[Qt,cH] at h;cases h;rw[beq_iff_eq.mp cH];exact bH
    |false=>
     simp only[Qt,cH] at h;exact bK y c2 h
   obtain⟨cl,e,a_,bd⟩:=WT env r ((n,c)::c0) a' kk;refine⟨cl,?_,a_,λy h=>bd y ?_⟩
   ·rw[List.forIn_cons];have:cellOf env n=pure c:=by unfold cellOf;rw[bH]
    simp only[beq_self_eq_true,if_true,this];exact e
   ·rcases h with⟨c2,h⟩|h
    ·cases cH:y==n with
     |true=>exact .inl ⟨c,by simp only[Qt,cH]⟩
     |false=>exact .inl ⟨c2,by simp only[Qt,cH];exact h⟩
    ·rcases Qj.mp h with h|h
     ·cases h;exact .inl ⟨c,by simp⟩
     ·exact .inr h
  ·obtain⟨cl,e,a_,bd⟩:=WT env r c0 a' bK;refine⟨cl,?_,a_,λy h=>bd y ?_⟩
   ·rw[List.forIn_cons];have a6:(k==NameKind.free)=false:=by simpa using bY
    simp only[a6,Bool.false_eq_true,if_false];exact e
   ·rcases h with h|h
    ·exact .inl h
    ·rcases Qj.mp h with h|h
     ·cases h;exact absurd rfl bY
     ·exact .inr h
def PIf(X:Cx)(ifs:List Expr)(t:TT):Prop:=
 ∀(aU:List (Addr×Obj))(s:Shared)(aM:St)(H:Hp)(Q:Bool→Hp→Prop),Inv X aU aM H s→t aM H Q→
  wpAny (model X.prog X.w) X.A (forIn ifs true λc r=>if r=true then do let ok←isTrue c X.env (eval c X.env);pure (ForInStep.yield ok) else pure (ForInStep.yield r)) (TP X aU aM Q) X.xe s
noncomputable def tAll:TT:=λ_ H Q=>Q true H
section
variable {X:Cx}
theorem mZ:PIf X [] tAll:=λ_ _ _ H _ I h=>wpAny_pure ⟨H,I,h⟩
theorem m0{c:Expr}{t:TT}(bH:PT X c t):PIf X [c] t:=by
 intro aU s aM H Q I h;rw[List.forIn_cons];simp only[if_true];refine wpAny_bind (wpAny_bind (thn (bH aU s aM H _ I h) λb bj q=>wpAny_pure ?_));exact wpAny_pure q
end
section
variable {prog:Program}{w:World}{A:Around}{R:Result→Shared→Prop}{s:Shared}
theorem Vb{ez target dO:Expr}{ifs:List Expr}{scope:Scope}{pos:Pos}{it c0:Value}{env:Env}(I:Nat→Shared→Prop)
  (turn:∀n s,I n s→wpAny (model prog w) A (pyNext it) (λr cX=>match r with
   |none=>R (.ok .next) cX
   |some v=>wpAny (model prog w) A (letOwnedTupleGo target it v) (λ_ s₀=>wpAny (model prog w) A (assign target env v) (λ_ hN=>
     wpAny (model prog w) A (forIn ifs true λc r=>if r=true then do let ok←isTrue c env (eval c env);pure (ForInStep.yield ok) else pure (ForInStep.yield r)) (λok gv=>
      if ok=true then wpAny (model prog w) A (eval ez env) (λx jq=>
       wpAny (model prog w) A (call (.builtin "list.append") [c0,x]) (λ_ pO=>∃m,m<n∧I m pO) (λ_ _=>False) jq) (λ_ _=>False) gv
      else ∃m,m<n∧I m gv) (λ_ _=>False) hN) (λ_ _=>False) s₀) (λ_ _=>False) cX) (λ_ _=>False) s)
  (n:Nat) (h:I n s):
  codeAny (model prog w) A (.compLoop (.ListComp ez [⟨target,dO,ifs,0⟩] scope pos) 0 it c0 env) R s:=by
 refine codeAny_loop rfl I (λn s tJ=>?_) n h;show wpAny _ A ((compTurn (.ListComp ez [⟨target,dO,ifs,0⟩] scope pos) 0 it c0 env).onRaise (λx=>do noteFrame x env;theTreesLotGoes x)) _ _ s;refine wpAny_noted ?_;rw[compTurn_list];refine wpAny_bind (wpAny_standAt (wpAny_bind (wpAny_mono (turn n s tJ) (λr cX eO=>?_) λ_ _ z=>z.elim)));cases r with
 |none=>exact wpAny_pure eO
 |some v=>
  refine wpAny_bind (wpAny_mono eO (λ_ s₀ h₀=>?_) λ_ _ z=>z.elim);refine wpAny_bind (wpAny_mono h₀ (λ_ hN m1=>wpAny_bind (wpAny_mono m1 (λok gv pP=>?_) λ_ _ z=>z.elim)) λ_ _ z=>z.elim);cases ok with
  |false=>exact wpAny_pure ⟨rfl,pP⟩
  |true=>
   exact wpAny_bind (wpAny_bind (wpAny_mono pP (λx jq pQ=>wpAny_bind (wpAny_mono pQ (λ_ pO m2=>wpAny_pure (wpAny_pure ⟨rfl,m2⟩)) λ_ _ z=>z.elim)) λ_ _ z=>z.elim))
end
noncomputable def m3 (ix:List Nat) (dI:TI) (g:TG) (cV:TT) (cn:TE):TE:=λaM H Q=>dI aM H λJ a1=>∀p,a1 p=none→
 ∃W:Nat→Nat→List V→St→Hp→Prop,(∃m,W 0 m [] (emb ix aM) (upd a1 p (.lst [])))∧∀i m ys b0 aS,W i m ys b0 aS→
  (J.stop i aS∧Q (.ref p) aS)∨(J.go i aS∧∀x a8,J.yld i aS x a8→g x b0 a8 λcc b1=>cV cc b1 λb b5=>
   if b=true then cn cc b5 λv b9=>b9 p=some (.lst ys)∧ys.length<sizeLine∧∃cq,cq<m∧W (i+1) cq (ys++ [v]) cc (upd b9 p (.lst (ys++ [v])))
   else ∃cq,cq<m∧W (i+1) cq ys cc b5)
section
variable {X:Cx}
theorem Zb6{aU:List (Addr×Obj)}{aM:St}{H:Hp}{s:Shared}{bT:Scope}{x:Str}{zs:List Str}{ix:List Nat}{cl:List (Str×Addr)}{fp:List Addr}{eO:Heap}{cW:Nat}
  (S:Yg X bT x zs ix) (I:Inv X aU aM H s) (em:∀y c,cl.lookup y=some c→X.env.cells.lookup y=some c) (fB:∀y,(y,NameKind.free)∈bT.names→∃c,cl.lookup y=some c)
  (gw:∀b∈fp,e8 X aU H b∧b<s.heap.objs.size) (jn:eO.Ns s.heap.objs.size λ_=>none) (bY:∀b o,s.heap.get? b=some o→eO.get? b=some o):
  Inv (Zm X bT cl s.heap.objs.size (x::zs) s H fp) [] (emb ix aM) H {s with heap:=eO,toks:=cW}:=by
 have sub:∀b∈frs X.stack,b∈X.env.locals::X.fs:=I.stkSub;have m4:∀b∈fp,b∉frs X.stack:=λb a6 z=>by
  obtain⟨⟨_,f1,f2,_⟩,_⟩:=gw b a6;rcases Qj.mp (sub b z) with e|e
  ·exact f1 e
  ·exact f2 e
 have cut:∀y,(Zm X bT cl s.heap.objs.size (x::zs) s H fp).env.kindOf y=some .cell∨(Zm X bT cl s.heap.objs.size (x::zs) s H fp).env.kindOf y=some .free→∃c,cl.lookup y=some c:=λy cH=>by
  have q:∃k,(relabel bT X.env).names.lookup y=some k∧(k= .cell∨k= .free):=by
   rcases cH with cH|cH
   ·exact⟨_,cH,.inl rfl⟩
   ·exact⟨_,cH,.inr rfl⟩
  obtain⟨k,e,bY⟩:=q;obtain⟨e0,b6,q⟩:=Yl e;have:e0= .free:=by
   rcases q with q|⟨q,_⟩
   ·rcases bY with z|z
    ·exact absurd (q.symm.trans z) (S.nocell _ (hY b6))
    ·exact q.symm.trans z
   ·exact q
  subst this;exact fB y (hY b6)
 refine⟨⟨I.ok.mod,S.kind,I.ok.glob,I.ok.blt,Qc _,λy z c a_ bd=>I.ok.inj y z c (em _ _ a_) (em _ _ bd),cut,λy c cj _=>?_,I.ok.hd,I.ok.frames,.inl rfl,λb a6=>?_,I.bs,Qn I.ok.bsz I.sz,λb o e a6=>?_,m4,I.stack,I.stkFree⟩,
  rfl,I.bare,Un.kept bY,⟨_,jn,λi y v a_ bd cx=>?_⟩,λy c h=>?_,I.hok.fresh (Qc _),λy c h=>I.freeC y c (em y c h),λp b3=>absurd (show p∈([]:List (Addr×Obj)) from b3) (by simp),I.hok.kept bY,?_⟩
 ·exact absurd (show false=true from cj) (by decide)
 ·obtain⟨⟨eK,f1,f2,dt,ev,eL⟩,hl⟩:=gw b a6;exact⟨Ql hl,λy c h=>ev y c (em y c h)⟩
 ·obtain⟨⟨eK,f1,f2,dt,ev,eL⟩,hl⟩:=gw b a6;rcases dt with z|z
  ·exact I.ok.noex b o e z
  ·exact absurd (Qi (Heap.lt_size e) (Qn I.ok.bsz z)) (QF _)
 ·
  cases i with
  |zero=>
   have:(none:Option (Option V))=some (some v)∨(some none:Option (Option V))=some (some v):= .inr bd;rcases this with z|z<;>cases z
  |succ i=>
   have hZ:zs[i]? =some y:=a_;have fa:(ix.map λj=>(aM[j]?).join)[i]? =some (some v):=bd;have bK:(ix.map λj=>X.N[j]?)[i]? =some (some y):=by rw[S.at_,QH,hZ];rfl
   rw[QH] at fa bK;cases e:ix[i]? with
   |none=>rw[e] at fa;cases fa
   |some j=>
    rw[e] at fa bK;have kk:X.N[j]? =some y:=Qk bK;have cN:(aM[j]?).join=some v:=Qk fa;have m5:aM[j]? =some (some v):=by
     cases q:aM[j]? with
     |none=>rw[q] at cN;cases cN
     |some o=>rw[q] at cN;exact congrArg some cN
    obtain⟨m,bM,hl⟩:=I.loc;have fC:=S.zfree y (QG hZ);have ip:=S.free _ (hY fC) rfl;have b8:Vis X.env.scope y:=by
     rcases ip with z|z
     ·exact .inr (.inl z)
     ·exact .inr (.inr z)
    obtain⟨u,r,q⟩:=hl j y v kk m5 b8;refine⟨u,r,?_⟩;rcases q with⟨m6,_⟩|⟨_,c,bH,i9⟩
    ·have kl:X.env.kindOf y=some .local:=m6;rcases ip with z|z<;>(rw[z] at kl;cases kl)
    ·obtain⟨c2,hM⟩:=fB y (hY fC);have e5:c2=c:=by have:=em y c2 hM;rw[bH] at this;exact(Qk this).symm
     subst e5;refine .inr ⟨?_,c2,hM,?_⟩
     ·have m7:Vis (relabel bT X.env) y:=cx;rcases m7 with z|z|z
      ·obtain⟨e0,b6,q⟩:=Yl z;rw[fC] at b6;cases b6;rcases q with q|⟨_,q⟩<;>cases q
      ·exact .inl z
      ·exact .inr z
     ·obtain⟨o,bW,hd⟩:=i9;exact⟨o,bY _ _ bW,hd⟩
 ·obtain⟨v,o,bW,hd⟩:=I.cell y c (em y c h);exact⟨v,o,bY _ _ bW,hd⟩
 ·show(none::ix.map λj=>(aM[j]?).join).length=(x::zs).length;have:=congrArg List.length S.at_;simp only[Qe] at this;simp only[List.length_cons,Qe,this]
def pR(X:Cx)(aU:List (Addr×Obj))(aM:St)(Q:VK)(c0:Value)(C:Addr)(s':Shared):Prop:=
 ∃p aS m,c0=Value.ref p∧s'.heap.Ns C m∧Inv X aU aM aS s'∧e8 X aU aS C∧Q (.ref p) aS
theorem Um{aU:List (Addr×Obj)}{aM:St}{H:Hp}{s:Shared}{bT:Scope}{x:Str}{zs:List Str}{ix:List Nat}{cl:List (Str×Addr)}{fp:List Addr}{it:Addr}{dR:Nat→Heap→Prop}{J:It}
  {ez cS dO:Expr} {ifs:List Expr} {pos:Pos} {g:TG} {cV:TT} {cn:TE} {Q:VK} {E:Value→Shared→Prop} {RR:Value→Addr→Result→Shared→Prop}
  (bH:X.calm=true) (S:Yg X bT x zs ix) (I:Inv X aU aM H s) (em:∀y c,cl.lookup y=some c→X.env.cells.lookup y=some c) (fB:∀y,(y,NameKind.free)∈bT.names→∃c,cl.lookup y=some c)
  (T:UN X.prog X.w X.K cS J fp it dR) (st:dR 0 s.heap) (gw:∀b∈fp,e8 X aU H b)
  (gx:∀C s H,PG (Zm X bT cl C (x::zs) s H fp) cS g∧PIf (Zm X bT cl C (x::zs) s H fp) ifs cV∧PE (Zm X bT cl C (x::zs) s H fp) ez cn)
  (b7:∀p,H p=none→∃W:Nat→Nat→List V→St→Hp→Prop,(∃m,W 0 m [] (emb ix aM) (upd H p (.lst [])))∧∀i m ys b0 aS,W i m ys b0 aS→
   (J.stop i aS∧Q (.ref p) aS)∨(J.go i aS∧∀x a8,J.yld i aS x a8→g x b0 a8 λcc b1=>cV cc b1 λb b5=>
    if b=true then cn cc b5 λv b9=>b9 p=some (.lst ys)∧ys.length<sizeLine∧∃cq,cq<m∧W (i+1) cq (ys++ [v]) cc (upd b9 p (.lst (ys++ [v])))
    else ∃cq,cq<m∧W (i+1) cq ys cc b5))
  (iA:∀c0 C f s',pR X aU aM Q c0 C s'→RR c0 C (.ok f) s'):
  wpAny (model X.prog X.w) X.A (newList []) (λc0 gv=>wpAny (model X.prog X.w) X.A (newFunctionEnv bT X.env.globals cl [] X.env.qual none .none (some X.env)) (λkm jq=>
   codeAny (model X.prog X.w) X.A (.compStart (.ListComp ez [⟨cS,dO,ifs,0⟩] bT pos) 0 (.ref it) c0 {km with scope:=relabel bT X.env}) (RR c0 km.locals) jq) E gv) E s:=by
 refine wpAny_newObj_type (wpAny_newFunctionEnv S.nocell (by intro y cH;simp at cH) (λeO hns₁ kn=>?_) S.kind);have dA:Inv X aU aM (upd H s.heap.objs.size (.lst [])) {s with heap:=s.heap.push {cls:= .type "list",dict:=none,data:= .seq ([]:List Value).toArray}}:=I.lnew (its:=[]) (ys:=[]) (t':=s.toks) .nil (Qy _);dsimp only at hns₁ kn⊢;obtain⟨W,⟨fY,gi⟩,turn⟩:=b7 s.heap.objs.size (I.hok.fresh (Qc _));have lt:∀b∈fp,b<s.heap.objs.size:=λb a6=>by
  obtain⟨o,e,_⟩:=T.obj 0 s.heap st b a6;exact Heap.lt_size e
 have m8:∀b∈fp,∀o,(upd H s.heap.objs.size o) b=H b:=λb a6 o=>cm (Ql (lt b a6));have kp:∀b o,(s.heap.push {cls:= .type "list",dict:=none,data:= .seq ([]:List Value).toArray}).get? b=some o→eO.get? b=some o:=λb o e=>
  kn.extBut b o (Ql (Heap.lt_size e)) (Heap.get?_push_of_some _ e)
 have dt:∀b∈fp,e8 X aU (upd H s.heap.objs.size (.lst [])) b∧b<(s.heap.push {cls:= .type "list",dict:=none,data:= .seq ([]:List Value).toArray}).objs.size:=λb a6=>by
  obtain⟨m9,q⟩:=gw b a6;refine⟨⟨(m8 b a6 _).trans m9,q⟩,?_⟩;rw[Heap.size_push];exact Nat.lt_succ_of_lt (lt b a6)
 generalize ht:({s with heap:=s.heap.push {cls:= .type "list",dict:=none,data:= .seq ([]:List Value).toArray}}:Shared)=bV at dA;have ko:s.heap.push {cls:= .type "list",dict:=none,data:= .seq ([]:List Value).toArray}=bV.heap:=by rw[←ht]
 rw[ko] at kp dt hns₁⊢;have hQ:dR 0 eO:=T.keep 0 _ _ st λb _ o e=>kp b o (by rw[←ko];exact Heap.get?_push_of_some _ e);have hv:Inv (Zm X bT cl bV.heap.objs.size (x::zs) bV (upd H s.heap.objs.size (.lst [])) fp) [] (emb ix aM) (upd H s.heap.objs.size (.lst [])) {bV with heap:=eO,toks:=bV.toks}:=
  Zb6 S dA em fB dt hns₁ kp
 obtain⟨cs,m_,b_⟩:=gx bV.heap.objs.size bV (upd H s.heap.objs.size (.lst []));have iB:∀{aS:Hp},(∀b∈fp,aS b=none)→∀b∈fp,e8 (Zm X bT cl bV.heap.objs.size (x::zs) bV (upd H s.heap.objs.size (.lst [])) fp) [] aS b:=λ{aS} bM b a6=>
  ⟨bM b a6,(hv.ok.exf b a6).1,hv.ok.exfs b a6,.inl a6,(hv.ok.exf b a6).2,λp b3=>absurd (show p∈([]:List (Addr×Obj)) from b3) (by simp)⟩
 have kq:∀c5:Shared,c5={bV with heap:=eO,toks:=bV.toks}→
   codeAny (model X.prog X.w) X.A (.compLoop (.ListComp ez [⟨cS,dO,ifs,0⟩] bT pos) 0 (.ref it) (.ref s.heap.objs.size) (compEnvC bT cl bV.heap.objs.size X.env)) (RR (.ref s.heap.objs.size) bV.heap.objs.size) c5:=by
  rintro c5 rfl;refine Vb (λn s'=>∃i ys b0 aS,Inv (Zm X bT cl bV.heap.objs.size (x::zs) bV (upd H s.heap.objs.size (.lst [])) fp) [] b0 aS s'∧dR i s'.heap∧(∀b∈fp,aS b=none)∧W i n ys b0 aS) ?_ fY
   ⟨0,[],emb ix aM,_,hv,hQ,λb a6=>(dt b a6).1.1,gi⟩
  rintro n cK ⟨i,ys,hx,b9,fx,hk,im,kr⟩;rcases turn i n ys hx b9 kr with⟨stop,ik⟩|⟨go,step⟩
  ·refine thn (T.done (Zm X bT cl bV.heap.objs.size (x::zs) bV (upd H s.heap.objs.size (.lst [])) fp) rfl rfl rfl bH i [] cK hx b9 _ fx (iB im) hk stop) λr dq ⟨a',eS⟩=>?_;subst a';obtain⟨m',na,_⟩:=eS.loc;refine iA _ _ _ _ ⟨s.heap.objs.size,b9,m',rfl,na,?_,dA.fpOk (Qc _) eS.free,ik⟩;exact dA.call' eS.os eS.base eS.hok eS.bare λb a6=>by
    obtain⟨⟨eK,f1,f2,dt,ev,eL⟩,_⟩:=dt b a6;exact⟨dt,f1,ev,eL⟩
  ·refine thn (T.item (Zm X bT cl bV.heap.objs.size (x::zs) bV (upd H s.heap.objs.size (.lst [])) fp) rfl rfl rfl bH i [] cK hx b9 _ fx (iB im) hk go) λr dq ⟨u,a',cR⟩=>?_;subst a';refine thn cR λ_ d3 ⟨x7,c',e9,j5,nb,iD,iE⟩=>?_;have nc:=e9.pinned (iB iE) (T.obj _ _ iD);refine thn (cs _ d3 hx c' x7 u _ nc j5 (step x7 c' nb)) λ_ ef ⟨iF,eG,ks,nf⟩=>?_;refine thn (m_ _ ef iF eG _ ks nf) λb fP ⟨fo,kt,g4⟩=>?_;have again:∀{iG:List V}{b0:St}{aS:Hp}{cq:Nat}{s':Shared},Inv (Zm X bT cl bV.heap.objs.size (x::zs) bV (upd H s.heap.objs.size (.lst [])) fp) ([]++WG fp d3.heap) b0 aS s'→W (i+1) cq iG b0 aS→cq<n→
     ∃m,m<n∧∃i ys b0 aS,Inv (Zm X bT cl bV.heap.objs.size (x::zs) bV (upd H s.heap.objs.size (.lst [])) fp) [] b0 aS s'∧dR i s'.heap∧(∀b∈fp,aS b=none)∧W i m ys b0 aS:=λ{iG b0 aS cq s'} Iz gy bZ=>by
    refine⟨cq,bZ,i+1,iG,b0,aS,Iz.unpinned,T.keep _ _ _ iD λb a6 o e=>(Iz.pin (b,o) (Qh _ (Qh _ (jc a6 e)))).1,λb a6=>?_,gy⟩;obtain⟨o,e,d⟩:=T.obj _ _ iD b a6;exact(Iz.pin (b,o) (Qh _ (Qh _ (jc a6 e)))).2.1
   cases b with
   |false=>
    rw[if_neg Qb] at g4⊢;obtain⟨cq,bZ,gy⟩:=g4;exact again kt gy bZ
   |true=>
    rw[if_pos rfl] at g4⊢;refine thn (b_ _ fP iF fo _ kt g4) λv g5 ⟨y,g6,ng,nh,hl,cd,cq,bZ,gy⟩=>?_;refine thn (gZ _ g5 iF g6 (.ref s.heap.objs.size) [y] (.ref s.heap.objs.size) [v] (λz aS=>z= .non∧aS=upd g6 s.heap.objs.size (.lst (ys++ [y]))) ng rfl (.cons nh .nil) ⟨_,ys,y,rfl,rfl,hl,cd,rfl,rfl⟩) λ_ ku ⟨z,pS,ni,_,_,nj⟩=>?_;subst nj;exact again ni gy bZ
 exact codeAny_compStart_list (kq _ (by subst ht;rfl)) (T.self _ 0 _ _ _ hQ (kq _ (by subst ht;rfl)))
theorem Wk{bT:Scope}{x:Str}{zs:List Str}{ix:List Nat}(ok:X.Ok)(S:Yg X bT x zs ix):
  ∃cl,closureFor bT X.env=pure cl∧(∀y c,cl.lookup y=some c→X.env.cells.lookup y=some c)∧∀y,(y,NameKind.free)∈bT.names→∃c,cl.lookup y=some c:=by
 obtain⟨cl,e,a_,bd⟩:=WT X.env bT.names [] (λy cH cj=>ok.has y.1 (S.free y cH cj)) (λy c h=>by simp at h);refine⟨cl,?_,a_,λy cH=>bd y (.inr cH)⟩;unfold closureFor;simp only;rw[e]
 rfl
theorem nk{ez cS dO:Expr}{ifs:List Expr}{bT:Scope}{pos:Pos}{x:Str}{zs:List Str}{ix:List Nat}{dI:TI}{g:TG}{cV:TT}{cn:TE}
  (bH:X.calm=true) (S:Yg X bT x zs ix) (bb:PI X cS dO dI)
  (gx:∀cl C s H fp,PG (Zm X bT cl C (x::zs) s H fp) cS g∧PIf (Zm X bT cl C (x::zs) s H fp) ifs cV∧PE (Zm X bT cl C (x::zs) s H fp) ez cn)
  (bN:∀x,foldedSetIterable dO X.env x=pure x:=by intro _;rfl):
  PE X (.ListComp ez [⟨cS,dO,ifs,0⟩] bT pos) (m3 ix dI g cV cn):=by
 intro aU s aM H Q I h;obtain⟨cl,kv,em,fB⟩:=Wk I.ok S;rw[eval_ListComp];refine wpAny_comprehension_free (use:=none) rfl bN kv S.kind S.names (thn (bb aU s aM H _ I h) λv bj a_=>thn a_ λj1 bQ bd=>?_);obtain⟨it,fp,dR,J,a8,e,cF,T,ij,f2,b7⟩:=bd;subst e;refine Um (RR:=λc0 C=>compPost (model X.prog X.w) X.A X.xe none (EP X aU aM Q) c0 C) bH S cF em fB T ij f2 (λC s H=>gx cl C s H fp) b7 λc0 C f s' h=>?_;obtain⟨p,aS,m,rfl,bZ,dv,⟨dM,g1,g2,g3,hy,kx⟩,q⟩:=h;exact⟨m,bZ,λh' a6=>⟨.ref p,aS,dv.turned (t':=s'.toks) (λb o g7 e=>(a6.2 b g7).trans e) dM g1 g3 hy kx,rfl,q⟩⟩
theorem tK{ez cS dO:Expr}{ifs:List Expr}{bT:Scope}{pos py pT:Pos}{x y:Str}{zs:List Str}{ix:List Nat}{dI:TI}{g:TG}{cV:TT}{cn:TE}{j:Nat}
  (bH:X.calm=true) (S:Yg X bT x zs ix) (bb:PI X cS dO dI)
  (gx:∀cl C s H fp,PG (Zm X bT cl C (x::zs) s H fp) cS g∧PIf (Zm X bT cl C (x::zs) s H fp) ifs cV∧PE (Zm X bT cl C (x::zs) s H fp) ez cn)
  (dZ:X.N.Nodup) (cN:X.N[j]? =some y) (cH:Loc X.env.scope y)
  (tL:swapsWith (.ListComp ez [⟨cS,dO,ifs,0⟩] bT pos) (some (.Name y py)) pT.line X.env=pure true:=by rfl)
  (cj:X.fn y=true∨X.env.scope.names.lookup y=some .local:=by first|exact .inl rfl|exact .inr rfl|assumption)
  (bN:∀x,foldedSetIterable dO X.env x=pure x:=by intro _;rfl):
  PS X (.Assign [.Name y py] (.ListComp ez [⟨cS,dO,ifs,0⟩] bT pos) pT) (lm (m3 ix dI g cV cn) (WM j)):=by
 intro aU s aM H D I h;obtain⟨cl,kv,em,fB⟩:=Wk I.ok S;rw[exec_Assign_Name_used _ _ _ _ tL];refine wpAny_bind (wpAny_standAt (wpAny_bind ?_));show wpAny _ X.A (do let _←comprehension (.ListComp ez [⟨cS,dO,ifs,0⟩] bT pos) bT X.env _ (newList []) false (eval dO X.env) (some (assign (.Name y py) X.env))) _ _ s;refine wpAny_bind (wpAny_mono (wpAny_comprehension_free (use:=some (assign (.Name y py) X.env)) (Q:=λ_ s'=>SP X aU D .next s') rfl bN kv S.kind S.names
  (thn (bb aU s aM H _ I h) λv bj a_=>thn a_ λj1 bQ bd=>?_)) (λ_ s' b7=>wpAny_pure (wpAny_pure b7)) λ_ _ e=>e)
 obtain⟨it,fp,dR,J,a8,e,cF,T,ij,f2,b7⟩:=bd;subst e;refine Um (Q:=λx a1=>WM j x aM a1 D.nx) (RR:=λc0 C=>compPost (model X.prog X.w) X.A X.xe (some (assign (.Name y py) X.env)) (λ_ s'=>SP X aU D .next s') c0 C) bH S cF em fB T ij f2 (λC s H=>gx cl C s H fp) b7 λc0 C f s' h=>?_;obtain⟨p,aS,m,rfl,bZ,dv,⟨dM,g1,g2,g3,hy,kx⟩,q⟩:=h;show wpAny _ X.A (assign (.Name y py) X.env (.ref p)) _ _ _;refine wpAny_assign_Name (oS dv dZ cN cH (show cu (.ref p) (.ref p) from rfl) (λj_ I'' ⟨c,tM,i7⟩=>?_) cj);have g7:C≠c:=by
  rcases i7 with z|z
  ·rw[z];exact g1
  ·exact Q8 (hy _ _ z)
 exact⟨m,bZ.sameBut tM g7,λh' a6=>⟨_,aS,I''.turned (t':=j_.toks) (λb o g7 e=>(a6.2 b g7).trans e) dM g1 g3 hy kx,q⟩⟩
end
noncomputable def CXX (P:Program) (w:World):CXT:=λouter H s E e s'=>
 ∃(bR:Addr)(cls a0:Value)(aS:Hp)(B:Heap),e= .ref bR∧s'.os=s.os∧AllBare s'.gens∧Un (frs outer) [] H aS s.heap s'.heap∧HOk P w aS s'.heap∧
  Heap.FlyingW B outer bR cls a0 s'.heap∧(∀b o,s'.heap.get? b=some o→(aS b≠none∨((∃o',s.heap.get? b=some o')∧b∉frs outer))→B.get? b=some o)∧E cls none aS
theorem HOk.stays{P:Program}{w:World}{H:Hp}{h h' B:Heap}(ok:HOk P w H h)(e4:∀b o,h.get? b=some o→H b≠none→B.get? b=some o)(st:B.StaysIn h'):HOk P w H h':=λa o e=>
 (ok a o e).stay (λb u a6 q=>st b u (e4 b u q (by
  rcases a6 with rfl|a6
  ·rw[e];exact λz=>nomatch z
  ·rw[a6];exact λz=>nomatch z))) (λ_ q=>q) λ_ _ q=>q
theorem ZF.got{P:Program}{w:World}{H:Hp}{h:Heap}{a:Addr}{o:HO}(x:ZF P w H h a o):∃cD,h.get? a=some cD:=by
 cases o with
 |lst xs=>obtain⟨_,_,_,_,e⟩:=x;exact⟨_,e⟩
 |tup xs=>obtain⟨_,_,_,p⟩:=x;obtain⟨cD,e,_⟩:=p;exact⟨cD,e⟩
 |dK kvs=>obtain⟨_,_,_,_,o,_,_,e,_⟩:=x;exact⟨o,e⟩
 |dT kvs=>obtain⟨_,_,_,_,o,_,_,e,_⟩:=x;exact⟨o,e⟩
 |set S n=>obtain⟨o,_,_,_,e,_⟩:=x;exact⟨o,e⟩
 |ins C bI fs=>obtain⟨_,_,_,e,_⟩:=x;exact⟨_,e⟩
 |own y=>exact x
 |xd fs=>obtain⟨_,⟨o,_,_,e,_⟩,_⟩:=x;exact⟨o,e⟩
 |rng lo bb=>obtain⟨_,_,_,e⟩:=x;exact⟨_,e⟩
 |frz cD u=>obtain⟨e,_⟩:=x;exact⟨cD,e⟩
 |tbl bP=>exact⟨_,(show h.get? a=some _ from x)⟩
 |met f y=>exact⟨_,(show h.get? a=some _ from x)⟩
 |ext ia=>obtain⟨_,e,_⟩:=x;exact e
theorem Un.fly{fs:List Addr}{H aS:Hp}{h a_ bd B:Heap}(u:Un fs [] H aS h a_)(e4:∀b o,a_.get? b=some o→(aS b≠none∨((∃o',h.get? b=some o')∧b∉fs))→B.get? b=some o)
  (st:B.StaysIn bd) (sl:a_.UpToSlots bd) (cj:∀b∈fs,∀o,h.get? b=some o→∀vs,o.data≠ .fields vs) (jV:∀b∈fs,H b=none):Un fs [] H aS h bd where
 keep:=λb o e n a6 bc=>st b o (e4 b o (u.keep b o e n a6 bc) (.inr ⟨⟨_,e⟩,a6⟩))
 slot:=λb o e n a6 bc=>by
  obtain⟨bj,b2⟩:=u.slot b o e n a6 bc;obtain⟨bQ,ci⟩:=sl b _ b2 (cj b a6 o e);exact⟨bQ,ci⟩
 free:=u.free
 there:=λb o e bc=>by
  by_cases a6:b∈fs
  ·obtain⟨bj,b2⟩:=u.slot b o e (jV b a6) a6 bc;obtain⟨bQ,ci⟩:=sl b _ b2 (cj b a6 o e);exact⟨_,ci⟩
  ·obtain⟨o',b2⟩:=u.there b o e bc;exact⟨o',st b o' (e4 b o' b2 (.inr ⟨⟨_,e⟩,a6⟩))⟩
 tups:=u.tups
 frzs:=u.frzs
 tbls:=u.tbls
section
variable {P:Program}{w:World}{K:Frag}{mg:Str→Option Value}{base:Heap}{N:List Str}{qual:Str}{scope:Scope}{f:Addr}{cE:Value}{A:Around}{outer:List Env}{s₀:Shared}{H₀:Hp}{E:XK}
noncomputable abbrev cxX (P:Program) (w:World) (K:Frag) (mg:Str→Option Value) (base:Heap) (N:List Str) (qual:Str) (scope:Scope) (f:Addr) (cE:Value) (A:Around) (outer:List Env) (s₀:Shared) (H₀:Hp) (E:XK):Cx:=
 ZJ (CXX P w) P w K mg base N qual scope f cE A outer s₀ H₀ E
theorem Zd4{aU:List (Addr×Obj)}{aM:St}{H aS:Hp}{s s':Shared}{bR:Addr}{cls a0:Value}{B:Heap}(I:Inv (cxX P w K mg base N qual scope f cE A outer s₀ H₀ E) aU aM H s)
  (os:s'.os=s.os) (bare:AllBare s'.gens) (u:Un (frs (cxX P w K mg base N qual scope f cE A outer s₀ H₀ E).stack) [] H aS s.heap s'.heap) (ok:HOk P w aS s'.heap)
  (ed:Heap.FlyingW B (cxX P w K mg base N qual scope f cE A outer s₀ H₀ E).stack bR cls a0 s'.heap)
  (e4:∀b o,s'.heap.get? b=some o→(aS b≠none∨((∃o',s.heap.get? b=some o')∧b∉frs (cxX P w K mg base N qual scope f cE A outer s₀ H₀ E).stack))→B.get? b=some o) (q:E cls none aS):
  (cxX P w K mg base N qual scope f cE A outer s₀ H₀ E).xe (.ref bR) s':=by
 have fC:(A.deeper (envOfC qual scope s₀.heap.objs.size f cE)).frames=some (envOfC qual scope s₀.heap.objs.size f cE::outer):=I.ok.frames;refine wpAny_leaves_onW (L:=s₀.heap.objs.size) fC rfl ed λbd lC sl=>?_;have pU:∀b o,s₀.heap.get? b=some o→b∉frs outer→(∃o',s.heap.get? b=some o')∧b∉frs (cxX P w K mg base N qual scope f cE A outer s₀ H₀ E).stack:=λb o e bM=>
  ⟨I.base.there b o e (by intro z;exact absurd (show b∈([]:List Addr) from z) (by simp)),λz=>by
   rcases Qj.mp (I.stkSub b z) with q|q
   ·have a6:=Heap.lt_size e;have eY:b=s₀.heap.objs.size:=q;rw[eY] at a6;exact QF _ a6
   ·exact bM q⟩
 have iH:Un (frs outer) [] H₀ aS s₀.heap s'.heap:=by
  have f5:Un (frs outer) [] H₀ H s₀.heap s.heap:=I.base;refine⟨λb o e n a6 bc=>?_,λb o e n a6 bc=>?_,λb o e n bc=>?_,λb o e bc=>?_,λb xs e=>u.tups b xs (f5.tups b xs e),λb o v e=>u.frzs b o v (f5.frzs b o v e),λb bP e=>?_⟩
  ·exact u.keep b o (f5.keep b o e n a6 bc) (f5.free b o e n bc) (pU b o e a6).2 bc
  ·obtain⟨bj,b2⟩:=f5.slot b o e n a6 bc;obtain⟨bQ,ci⟩:=u.any b2 (f5.free b o e n bc) bc;exact⟨bQ,ci⟩
  ·obtain⟨o',b2⟩:=f5.there b o e bc;exact u.free b o' b2 (f5.free b o e n bc) bc
  ·obtain⟨o',b2⟩:=f5.there b o e bc;exact u.there b o' b2 bc
  ·obtain⟨gb,b2⟩:=f5.tbls b bP e;obtain⟨hg,ci⟩:=u.tbls b _ b2;exact⟨gb++hg,by rw[ci,Array.append_assoc]⟩
 have pV:∀b o,s'.heap.get? b=some o→(aS b≠none∨((∃o',s₀.heap.get? b=some o')∧b∉frs outer))→B.get? b=some o:=λb o e h=>e4 b o e (h.imp id λ⟨⟨o',z⟩,bM⟩=>pU b o' z bM);have tN:HOk P w aS bd:=ok.stays (λb o e n=>e4 b o e (.inl n)) lC.1;refine⟨bR,cls,a0,aS,B,rfl,os.trans I.os,bare,iH.fly pV lC.1 sl (λb a6 o e=>?_) (I.ok.frf),tN,lC,λb o e h=>?_,q⟩
 ·obtain⟨_,o',b6,d⟩:=I.ok.funs.mem a6;have ky:s₀.heap.get? b=some o':=b6;rw[e] at ky;cases ky;exact d
 ·have ex:∃o',s'.heap.get? b=some o':=by
   rcases h with h|⟨h,bM⟩
   ·cases cv:aS b with
    |none=>exact absurd cv h
    |some v=>exact(ok b v cv).got
   ·obtain⟨nl,e1⟩:=h;exact iH.there b nl e1 (by simp)
  obtain⟨o',b6⟩:=ex;have ci:=pV b o' b6 h;have et:=lC.1 b o' ci;have iI:bd.get? b=some o:=e;rw[et] at iI;cases iI;exact ci
theorem cB:Ys (CXX P w) (cxX P w K mg base N qual scope f cE A outer s₀ H₀ E) E:=by
 intro aU aM H s e s' I h;obtain⟨bR,cls,a0,aS,B,rfl,os,bare,u,ok,ed,e4,q⟩:=h;exact Zd4 I os bare u ok ed e4 q
noncomputable def nn (cls:Value) (E:XK) (t:TA):TS:=λ_ aM H=>t aM H λvs a1=>vs.length≤sizeLine∧E cls none a1
theorem Zc1{aU:List (Addr×Obj)}{aM:St}{H:Hp}{s:Shared}{h':Heap}{bR:Addr}{cls:Value}{us:List Value}(I:Inv (cxX P w K mg base N qual scope f cE A outer s₀ H₀ E) aU aM H s)
  (bc:Heap.MadeExcOf s.heap h' bR cls us) (q:E cls none H):(cxX P w K mg base N qual scope f cE A outer s₀ H₀ E).xe (.ref bR) {s with heap:=h'}:=by
 have fC:(A.deeper (envOfC qual scope s₀.heap.objs.size f cE)).frames=some (envOfC qual scope s₀.heap.objs.size f cE::outer):=I.ok.frames;have gx:∀env∈(cxX P w K mg base N qual scope f cE A outer s₀ H₀ E).stack,∀b,env.frame=some b→b∈frs (cxX P w K mg base N qual scope f cE A outer s₀ H₀ E).stack:=λenv b_ b a6=>QS.mpr ⟨env,b_,a6⟩;have np:∀b o,s.heap.get? b=some o→(H b≠none∨((∃o',s₀.heap.get? b=some o')∧b∉frs outer))→(hideAll s.heap (frs (cxX P w K mg base N qual scope f cE A outer s₀ H₀ E).stack)).get? b=some o:=λb o e h=>
  hideAll_get _ e λz=>by
   rcases h with h|⟨⟨o',b6⟩,bM⟩
   ·exact h (I.stkFree b z)
   ·rcases Qj.mp (I.stkSub b z) with q|q
    ·have a6:=Heap.lt_size b6;have eY:b=s₀.heap.objs.size:=q;rw[eY] at a6;exact QF _ a6
    ·exact bM q
 refine wpAny_leaves_madeW (base:=hideAll s.heap (frs (cxX P w K mg base N qual scope f cE A outer s₀ H₀ E).stack)) (h:=s.heap) (L:=s₀.heap.objs.size) fC rfl (λb o e=>of_hideAll _ e) (PySem.W.funFrames_hide I.stack gx) bc λcx t ed _ _ sl=>?_;have jT:s.heap.UpToSlots cx:=(Heap.UpToSlots.of_keeps bc.keeps).trans sl;have f5:Un (frs outer) [] H₀ H s₀.heap s.heap:=I.base;have tO:HOk P w H cx:=I.hok.stays (λb o e n=>np b o e (.inl n)) ed.1;refine⟨bR,cls,_,H,_,rfl,I.os,I.bare,f5.fly np ed.1 jT (λb a6 o e=>?_) I.ok.frf,tO,ed,λb o e h=>?_,q⟩
 ·obtain⟨_,o',b6,d⟩:=I.ok.funs.mem a6;have ky:s₀.heap.get? b=some o':=b6;rw[e] at ky;cases ky;exact d
 ·have ex:∃o',s.heap.get? b=some o':=by
   rcases h with h|⟨⟨nl,e1⟩,_⟩
   ·cases cv:H b with
    |none=>exact absurd cv h
    |some v=>exact(I.hok b v cv).got
   ·exact f5.there b nl e1 (by simp)
  obtain⟨o',b6⟩:=ex;have ci:=np b o' b6 h;have et:=ed.1 b o' ci;have iI:cx.get? b=some o:=e;rw[et] at iI;cases iI;exact ci
theorem ZdJ{x:Str}{jr ey pos:Pos}{hz:Expr}{rest:List Expr}{t:TA}{C:Addr}{B h0 nq:String}{bm:List Value}(O:OwnCls x C bm h0 mg base)(FB:ExcBaseFacts B h0 nq bm)
  (cs:Gl (cxX P w K mg base N qual scope f cE A outer s₀ H₀ E) x) (bK:PA (cxX P w K mg base N qual scope f cE A outer s₀ H₀ E) (hz::rest) t)
  (b_:starEach (hz::rest) (cxX P w K mg base N qual scope f cE A outer s₀ H₀ E).env=(false,eval hz (cxX P w K mg base N qual scope f cE A outer s₀ H₀ E).env)::starEach rest (cxX P w K mg base N qual scope f cE A outer s₀ H₀ E).env:=by rfl)
  (iv:(backTo ey (starEach rest (cxX P w K mg base N qual scope f cE A outer s₀ H₀ E).env)).any (·.1)=false:=by rfl) (e_:(x==("__debug__" :Str))=false:=by decide):
  PS (cxX P w K mg base N qual scope f cE A outer s₀ H₀ E) (.Raise (some (.Call (.Name x jr) (hz::rest) [] ey)) none pos) (nn (.ref C) E t):=by
 intro aU s aM H D I h;obtain⟨fO,tP,nm,q,bs,hdct,sn,sub,ab,col,dd,k0,k1,k2,k3,k5,mN,tQ,dZ,lD,T⟩:=O.obj;refine wpAny_Raise_call_subT (C:=C) (nm:=nm) (q:=q) (N:=tP) (bs:=bs) (bm:=fO) (hdct:=hdct) (sn:=sn) (sub:=sub) (ab:=ab) (col:=col) (dd:=dd) (k0:=k0) (k1:=k1) (k2:=k2) (k3:=k3) (k5:=k5)
  FB (mN:=mN) (T.hasType FB.hasBase) (I.ok.hd rfl) (by rw[b_];show(false||(backTo ey (starEach rest (cxX P w K mg base N qual scope f cE A outer s₀ H₀ E).env)).any (·.1))=false;rw[iv];rfl) lD (jX I cs O.bound ⟨rfl,?_⟩ e_)
 have h':=bK ey aU s aM H _ I h;rw[b_] at h'⊢;refine Calls.evalArgs_plain (thn h' λus bQ ⟨vs,a8,cF,r,cd,cv⟩=>⟨rfl,by rw[←r.length];exact cd,cF.bk _ _ tQ,dZ.keeps cF.bk,T.keeps cF.bk,λcx e bZ=>Zc1 cF bZ cv⟩)
end
mutual
inductive fD(K:Frag)(H:Hp):V→PyData→Prop
 |non:fD K H .non .none
 |bl (b:Bool):fD K H (.bl b) (.bool b)
 |int (i:Int):fD K H (.int i) (.int i)
 |str (x:Str):fD K H (.str x) (.str x)
 |lst {a:Addr} {xs:List V} {cY:List PyData} (h:SqL K H a xs) (r:DRels K H xs cY):fD K H (.ref a) (.list cY)
 |tup {a:Addr} {xs:List V} {cY:List PyData} (h:SqT K H a xs) (r:DRels K H xs cY):fD K H (.ref a) (.tuple cY)
inductive DRels(K:Frag)(H:Hp):List V→List PyData→Prop
 |nil:DRels K H [] []
 |cons {x:V} {d:PyData} {xs:List V} {cY:List PyData} (h:fD K H x d) (r:DRels K H xs cY):DRels K H (x::xs) (d::cY)
end
section
variable {X:Cx}{aU:List (Addr×Obj)}{aM:St}{H:Hp}{s:Shared}
mutual
theorem fD.reads(I:Inv X aU aM H s):∀{x:V}{d:PyData}{v:Value},fD X.K H x d→cu x v→∃as,Reads s.heap v d as
 |_,_,_,.non,r=>by cases (show _=Value.none from r);exact⟨_,.none⟩
 |_,_,_,.bl b,r=>by cases (show _=Value.bool b from r);exact⟨_,.bool b⟩
 |_,_,_,.int i,r=>by obtain⟨t,e⟩:=r;cases e;exact⟨_,.int i t⟩
 |_,_,_,.str x,r=>by obtain⟨t,e⟩:=r;cases e;exact⟨_,.str x t⟩
 |_,_,_,.lst (a:=a) h fl,r=>by
  cases (show _=Value.ref a from r);obtain⟨its,c7,p,cd⟩:=I.list h;obtain⟨o,bW,bH,n,hd⟩:=p.isList;obtain⟨as,q⟩:=DRels.reads I fl c7;exact⟨_,.list bW bH hd (by simpa using q)⟩
 |_,_,_,.tup (a:=a) h fl,r=>by
  cases (show _=Value.ref a from r);obtain⟨its,c7,p,cd⟩:=I.tuple h;obtain⟨o,bW,bH,n,hd⟩:=(show s.heap.IsTuple a its.toArray from p);obtain⟨as,q⟩:=DRels.reads I fl c7;exact⟨_,.tuple bW bH hd (by simpa using q)⟩
theorem DRels.reads(I:Inv X aU aM H s):∀{xs:List V}{cY:List PyData}{vs:List Value},DRels X.K H xs cY→cf xs vs→∃as,ReadsAll s.heap vs cY as
 |_,_,_,.nil,.nil=>⟨_,.nil⟩
 |_,_,_,.cons h r,.cons q t=>by
  obtain⟨as,e⟩:=fD.reads I h q;obtain⟨bs,b6⟩:=DRels.reads I r t;exact⟨_,.cons e b6⟩
end
end
noncomputable def h1 (K:Frag) (neg:Bool):R2:=λx y H Q=>∃bI f6,fD K H x bI∧fD K H y f6∧bI.canLay0=true∧f6.canLay0=true∧bI.depth≤60∧Q (.bl (if neg then !PyData.eqv bI f6 else PyData.eqv bI f6)) H
section
variable {X:Cx}
theorem tR(hu:X.A.units+64<cLine):OpR X (compareOp .Eq) (h1 X.K false):=by
 intro aU s aM H x y v u Q I bL bX h;obtain⟨bI,f6,a_,bd,dV,c1,dp,q⟩:=h;obtain⟨as,cr⟩:=a_.reads I bL;obtain⟨bs,cM⟩:=bd.reads I bX;exact SeqAt.compareEq_reads cr cM dV c1 (by have:min bI.depth f6.depth≤bI.depth:=Nat.min_le_left _ _;omega) ⟨.bl _,H,I,rfl,q⟩
theorem tS(hu:X.A.units+64<cLine):OpR X (compareOp .NotEq) (h1 X.K true):=by
 intro aU s aM H x y v u Q I bL bX h;obtain⟨bI,f6,a_,bd,dV,c1,dp,q⟩:=h;obtain⟨as,cr⟩:=a_.reads I bL;obtain⟨bs,cM⟩:=bd.reads I bX;exact SeqAt.compareNe_reads cr cM dV c1 (by have:min bI.depth f6.depth≤bI.depth:=Nat.min_le_left _ _;omega) ⟨.bl _,H,I,rfl,q⟩
end
section
variable {prog:Program}{w:World}{A:Around}{E:Value→Shared→Prop}
variable {s:Shared}
end
section
variable {X:Cx}{pos:Pos}
end
section
variable {P:Program}{w:World}{K:Frag}{mg:Str→Option Value}{base:Heap}
theorem Fun.okX{x qual:Str}{st:Stmt}{f:Addr}{fd:FuncData}{N bP:List Str}{k:Nat}{sp:Sp}(F:Fun K x qual st f fd)(S:Zy N bP (cT st))(len:∀vs H Q E,sp vs H Q E→vs.length=bP.length)
  (kb:∀(cy:Value)(A:Around)(outer:List Env)(s:Shared)(H:Hp)(vs:List V)(Q:VK)(E:XK),dx k (A.deeper (envOfC qual (cT st) s.heap.objs.size f cy))→sp vs H Q E→
   ∃t,PSs (cxX P w K mg base N qual (cT st) f cy A outer s H E) (f4 st) t∧t {nx:=λ_ aS=>Q .non aS,rt:=Q} (start N vs) H):ZX P w K mg base (CXX P w) (k+1) f fd bP sp:=by
 obtain⟨d0,di,kV,dU,dJ,an,cy,ct,eT,rfl,lk,fV⟩:=F.ex;exact Zek lk fV S len λA outer s H vs Q E a' gd=>kb cy A outer s H vs Q E a' gd
theorem ZfQ{X:Cx}:Ys (CXX X.prog X.w) X E0:=by
 intro aU aM H s e s' I h;obtain⟨bR,cls,a0,aS,B,_,_,_,_,_,_,_,z⟩:=h;exact z.elim
end
section
variable {X:Cx}
noncomputable def rOr (r cz:R2):R2:=λx y H Q=>r x y H Q∨cz x y H Q
noncomputable def UB:R2:=λx y H Q=>∃i j,x= .str i∧y= .str j∧i.length+j.length≤sizeLine∧Q (.str (i++j)) H
noncomputable def lE:R2:=rI0 λi j=> .int (i+j)
noncomputable def ZbQ:R2:=rI (λi j=>IntMulOk i j) λi j=> .int (i*j)
theorem tT:OpR X (binaryOp .Add) (rOr lE (rOr UB (rOr rCat (ke X.K)))):=sD.or (sJ.or (tc.or s0))
theorem js:OpR X (binaryOp .Mult) (rOr ZbQ rRep):=tH.or td
theorem ZfG(hu:X.A.units+64<cLine):OpR X (compareOp .Eq) (rOr rEq (h1 X.K false)):=sE.or (tR hu)
theorem ZfX(hu:X.A.units+64<cLine):OpR X (compareOp .NotEq) (rOr rNe (h1 X.K true)):=sF.or (tS hu)
end
namespace Rd
section
variable {aM:St}{H:Hp}{Q:VK}{D:YS}{K:Frag}{cz:R2}
theorem ZgS{i j:Int}(q:Q (.int (i+j)) H):rOr lE cz (.int i) (.int j) H Q:= .inl ⟨i,j,rfl,rfl,q⟩
theorem ZdL{cr:R2}{i j:Str}(hl:i.length+j.length≤sizeLine)(q:Q (.str (i++j)) H):rOr cr (rOr UB cz) (.str i) (.str j) H Q:= .inr (.inl ⟨i,j,rfl,rfl,hl,q⟩)
theorem V8{cr cM:R2}{a b:Addr}{xs ys:List V}(bK:H a=some (.lst xs))(a6:H b=some (.lst ys))(hl:xs.length+ys.length≤sizeLine)(q:∀p,H p=none→Q (.ref p) (upd H p (.lst (xs++ys)))):
  rOr cr (rOr cM (rOr rCat cz)) (.ref a) (.ref b) H Q:= .inr (.inr (.inl ⟨a,b,xs,ys,rfl,rfl,bK,a6,hl,q⟩))
theorem Zg3{i j:Int}(c:IntMulOk i j)(q:Q (.int (i*j)) H):rOr ZbQ cz (.int i) (.int j) H Q:= .inl ⟨i,j,rfl,rfl,c,q⟩
theorem ZgT{i j:Int}(q:Q (.bl (decide (i=j))) H):rOr rEq cz (.int i) (.int j) H Q:= .inl (eqI q)
theorem Zho{i j:Int}(q:Q (.bl (!decide (i=j))) H):rOr rNe cz (.int i) (.int j) H Q:= .inl (neI q)
theorem ZgO{i j:Bool}(q:Q (.bl (!(i==j))) H):rOr rNe cz (.bl i) (.bl j) H Q:= .inl ⟨rfl,by rw[Zaz];exact q⟩
theorem Zd7{x y:V}{bI f6:PyData}(bc:fD K H x bI)(cH:fD K H y f6)(tU:bI.canLay0=true)(tV:f6.canLay0=true)(dp:bI.depth≤60)(q:Q (.bl (PyData.eqv bI f6)) H):rOr rEq (h1 K false) x y H Q:=
 .inr ⟨bI,f6,bc,cH,tU,tV,dp,q⟩
theorem Zha{p:Addr}{xs:List V}{i:Int}{v:V}(h:SqL K H p xs)(e:atI xs i=some v)(q:Q v H):rIx K (.ref p) (.int i) H Q:= .inl (ixl h e q)
theorem Zg1{p:Addr}{xs:List V}{i:Int}{v:V}(h:SqT K H p xs)(e:atI xs i=some v)(q:Q v H):rIx K (.ref p) (.int i) H Q:= .inr (.inl (ixt h e q))
theorem Zg7{C:Nat→Prop}{p:Addr}{xs:List V}(h:SqL K H p xs)(q:C xs.length):∃x n,[V.ref p]=[x]∧V5 K x H n∧C n:=⟨_,_,rfl,.inl ⟨xs,h,rfl⟩,q⟩
theorem lenS{C:Nat→Prop}{y:Str}(h:y.length≤sizeLine)(q:C y.length):∃x n,[V.str y]=[x]∧V5 K x H n∧C n:=⟨_,_,rfl,⟨h,rfl⟩,q⟩
theorem ZgC{i:Nat}{v:V}{b0:St}{Q:St→Hp→Prop}(e:aM.set i (some v)=b0)(h:Q b0 H):WM i v aM H Q:=by
 subst e;exact h
theorem ifP{c A B:Prop}[Decidable c](h:c)(a:A):if decide c=true then A else B:=by rw[decide_eq_true h];exact ZbU a
theorem ifN{c A B:Prop}[Decidable c](h:¬c)(b:B):if decide c=true then A else B:=by rw[decide_eq_false h];exact Zba b
theorem Zhm{c A B:Prop}[Decidable c](h:c)(b:B):if(!decide c)=true then A else B:=by rw[decide_eq_true h];exact Zba b
theorem Uc{b:Bool}{C:Bool→Prop}(q:C b):∃k,j7 K (.bl b) H k∧C k:=⟨b,rfl,q⟩
end
end Rd
namespace Rd
section
variable {H:Hp}{C:Bool→Prop}{K:Frag}
theorem Zcu{i:Int}(q:C true):∃x eJ t b,[V.int i,.ty "int"]=[x,.ty eJ]∧Yh K H x t∧PySem.W.kitOne K t (.type eJ)=some b∧C b:=⟨_,_,_,true,rfl,.int i,rfl,q⟩
theorem Zbq{i:Int}(q:C false):∃x eJ t b,[V.int i,.ty "bool"]=[x,.ty eJ]∧Yh K H x t∧PySem.W.kitOne K t (.type eJ)=some b∧C b:=⟨_,_,_,false,rfl,.int i,rfl,q⟩
theorem ZbR{i:Bool}(q:C true):∃x eJ t b,[V.bl i,.ty "bool"]=[x,.ty eJ]∧Yh K H x t∧PySem.W.kitOne K t (.type eJ)=some b∧C b:=⟨_,_,_,true,rfl,.bl i,rfl,q⟩
theorem Zb8{i:Str}(q:C true):∃x eJ t b,[V.str i,.ty "str"]=[x,.ty eJ]∧Yh K H x t∧PySem.W.kitOne K t (.type eJ)=some b∧C b:=⟨_,_,_,true,rfl,.str i,rfl,q⟩
end
end Rd
noncomputable def ZbJ (kz bT:Scope) (N zs:List Str) (ix:List Nat):Bool:=
 decide (bT.kind= .function)&&(bT.names.all λy=>decide (y.2≠ .cell))&&(bT.names.all λy=>decide (y.2= .local→bT.names.lookup y.1=some .local))&&
 (bT.names.all λy=>decide (y.2= .free→kz.names.lookup y.1=some .cell∨kz.names.lookup y.1=some .free))&&(zs.all λz=>decide (bT.names.lookup z=some .free))&&decide (ix.map (λj=>N[j]?)=zs.map some)
theorem jt{X:Cx}{bT:Scope}{x:Str}{zs:List Str}{ix:List Nat}(kz:Scope)(N:List Str)(b2:X.env.scope=kz)(ci:X.N=N)(h:ZbJ kz bT N zs ix=true):Yg X bT x zs ix:=by
 unfold ZbJ at h;simp only[Qx,QD,decide_eq_true_eq] at h;obtain⟨⟨⟨⟨⟨a_,bd⟩,cx⟩,cG⟩,eM⟩,cR⟩:=h;subst b2 ci;exact⟨a_,bd,cx,cG,eM,cR⟩
def Vu(CX:CXT)(X:Cx)(J:St→Prop)(E:XK):Prop:=∀(aU:List (Addr×Obj))(aM:St)(H:Hp)(s:Shared)(e:Value)(s':Shared),J aM→Inv X aU aM H s→CX X.stack H s E e s'→X.xe e s'
noncomputable def Uu (J:St→Prop) (C:Addr) (m:Str) (sp:Sp) (da:List V) (E:XK) (bO:TE) (t:TA):TE:=λaM H Q=>J aM∧bO aM H λx a1=>∃a bI fs,x= .ref a∧a1 a=some (.ins C bI fs)∧fs.lookup m=none∧
 t aM a1 λvs a8=>sp (x::(vs++da)) a8 Q E
section
variable {X:Cx}{CX:CXT}{k:Nat}{f C:Addr}{fd:FuncData}{bP:List Str}{sp:Sp}{da:List V}{cY:List Value}{E:XK}{J:St→Prop}{x m:Str}{p pos dF:Pos}{e o:Expr}{bS:List Expr}{bO:TE}{t:TA}
def Zft(CX:CXT)(X:Cx)(aM:St)(E:XK):Prop:=∀(aU:List (Addr×Obj))(H:Hp)(s:Shared)(e:Value)(s':Shared),Inv X aU aM H s→CX X.stack H s E e s'→X.xe e s'
theorem Zhp{aU:List (Addr×Obj)}{aM:St}{H:Hp}{s:Shared}{Q:VK}{us:List Value}{vs:List V}(F:ZX X.prog X.w X.K X.mg X.base CX k f fd bP sp)(a':dx k X.A)(a6:Yk X.K fd bP cY)(hd:cf da cY)(bc:Zft CX X aM E)
  (I:Inv X aU aM H s) (r:cf vs us) (h:sp (vs++da) H Q E):wpAny (model X.prog X.w) X.A (call (.ref f) us) (EP X aU aM Q) X.xe s:=by
 have cM:cf (vs++da) (us++cY):=r.append hd;have hl:(us++cY).length=bP.length:=by rw[←cM.length];exact F.len _ _ _ _ h
 refine wpAny_call (codeAny_mono (F.run X.A X.stack s H ⟨us,[]⟩ (us++cY) (vs++da) Q E a' I.env0 (a6 s us I.kIn hl) cM h) λr s' b7=>?_);cases r with
 |error e=>exact bc aU H s e s' I b7
 |ok ed=>
  cases ed with
  |ret u=>exact I.after b7
  |next=>exact False.elim b7
  |brk=>exact False.elim b7
  |cont=>exact False.elim b7
theorem pW{pl:Sem Bool}(b_:PE X o bO)(c:Cls X.K C)(bZ:VW X.K C m f)(F:ZX X.prog X.w X.K X.mg X.base CX k f fd bP sp)(a':dx k X.A)(a6:Yk X.K fd bP cY)(hd:cf da cY)(bc:Vu CX X J E)(bK:PA X (e::bS) t)
  (eZ:starEach (e::bS) X.env=(false,eval e X.env)::starEach bS X.env:=by rfl) (fk:(backTo pos (starEach bS X.env)).any (·.1)=false:=by rfl)
  (cL:eval (.Call (.Attribute o m dF) (e::bS) [] pos) X.env=(do
   let dw←eval o X.env
   standAt dF.atName
   let(f,first)←holding [dw] (getMethod dw m pl)
   callWith pos f first (backTo pos (starEach (e::bS) X.env)) (backToKw pos (keywordEach [] X.env))):=by rfl):
  PE X (.Call (.Attribute o m dF) (e::bS) [] pos) (Uu J C m sp da E bO t):=by
 intro aU s aM H Q I h;obtain⟨nr,h⟩:=h;refine methodCall_KW (pl:=pl) (thn (b_ aU s aM H _ I h) λu bj ⟨x,a1,bU,bL,a,bI,fs,ex,bR,l,q⟩=>?_) cL;subst ex;obtain rfl:u=Value.ref a:=bL;refine Wf bU bR c bZ l ?_;refine callWith_K (first:=[.ref a]) (h₀:=X.base) I.ok.mod.kin bZ.kp (thn (bK pos aU bj aM a1 _ bU q) λus bQ ⟨vs,a8,cF,r,cv⟩=>⟨cF.kIn,?_⟩) eZ fk;exact Zhp (us:= .ref a::us) (vs:= .ref a::vs) F a' a6 hd (λaU H s e s'=>bc aU aM H s e s' nr) cF (.cons rfl r) cv
def ZgJ(X:Cx)(body:List Stmt)(cp:(St→Prop)→XK→TS):Prop:=∀(J:St→Prop)(f7:XK)(pn:List (Addr×Obj))(hA:Value→Shared→Prop),PassesOwn (model X.prog X.w) X.A X.env hA→
 Vu (CXX X.prog X.w) {X with pn:=pn,xe:=hA} J f7→PSs {X with pn:=pn,xe:=hA} body (cp J f7)
def Zfr(X:Cx)(kA:List Stmt)(e':TS):Prop:=∀(A':Around),PSs {X with A:=A',calm:=false,xe:=λ_ _=>False} kA e'
end
section
variable {K:Frag}{H:Hp}
namespace Rd
variable {Q:VK}
end Rd
end
structure Walks(J:It)(n:Nat)(f:Nat→V)(H:Hp):Prop where
 go:∀aS i,Ze H aS→i<n→J.go i aS
 yld:∀aS i x a8,Ze H aS→i<n→J.yld i aS x a8→a8=aS∧x=f i
 stop:∀aS,Ze H aS→J.stop n aS
theorem pX{lo:Int}{n:Nat}{H:Hp}:Walks (Itr lo n) n (λi=> .int (lo+i)) H:=⟨λ_ _ _ h=>h,λ_ _ _ _ _ _ h=>h,λ_ _=>Qc _⟩
theorem Ws{ix:List Nat}{cV:TT}{cn:TE}{Q:Addr→Hp→Prop}{aM:St}{H:Hp}{J:It}{n:Nat}{f:Nat→V}(w:Walks J n f H)(bM:n<sizeLine)(c:Nat→Bool)(r:Nat→V)
  (bH:∀i aS (en:Bool→Hp→Prop),i<n→Ze H aS→(∀b5,Ze aS b5→en (c i) b5)→cV (some (f i)::ix.map λj=>(aM[j]?).join) aS en)
  (b_:∀i aS (en:VK),i<n→c i=true→Ze H aS→(∀b9,Ze aS b9→en (r i) b9)→cn (some (f i)::ix.map λj=>(aM[j]?).join) aS en)
  (q:∀p aS,H p=none→Ze H aS→aS p=some (.lst (((List.range n).filter c).map r))→Q p aS):
  ∀p,H p=none→∃W:Nat→Nat→List V→St→Hp→Prop,(∃m,W 0 m [] (emb ix aM) (upd H p (.lst [])))∧∀i m ys b0 aS,W i m ys b0 aS→
   (J.stop i aS∧Q p aS)∨(J.go i aS∧∀x a8,J.yld i aS x a8→WM 0 x b0 a8 λcc b1=>cV cc b1 λb b5=>
    if b=true then cn cc b5 λv b9=>b9 p=some (.lst ys)∧ys.length<sizeLine∧∃cq,cq<m∧W (i+1) cq (ys++ [v]) cc (upd b9 p (.lst (ys++ [v])))
    else ∃cq,cq<m∧W (i+1) cq ys cc b5):=by
 intro p b3;refine⟨λi m ys b0 aS=>m=n-i∧i≤n∧(∃a,b0=a::ix.map λj=>(aM[j]?).join)∧Ze H aS∧aS p=some (.lst ys)∧ys=((List.range i).filter c).map r,
  ⟨n,by simp,Qy _,⟨none,rfl⟩,cA b3,Zd,rfl⟩,?_⟩
 rintro i m ys b0 aS ⟨rfl,bb,⟨a,rfl⟩,cQ,cH,hl⟩
 by_cases d8:i<n
 ·refine .inr ⟨w.go aS i cQ d8,λx a8 y=>?_⟩;obtain⟨rfl,rfl⟩:=w.yld aS i x a8 cQ d8 y;show cV ((a::ix.map λj=>(aM[j]?).join).set 0 (some (f i))) a8 _;have dL:ys.length≤i:=by
   rw[hl,Qe];exact Qn (Q3 _ _) (by simp)
  refine bH i a8 _ d8 cQ λb5 c5=>?_;have iJ:=cQ.trans c5;have ju:=c5 _ _ cH;have step:(List.range (i+1)).filter c=(List.range i).filter c++(if c i=true then[i] else[]):=by
   rw[List.range_succ,List.filter_append]
   congr 1
   by_cases h:c i=true<;>simp[h]
  by_cases gA:c i=true
  ·rw[gA,if_pos rfl];refine b_ i b5 _ d8 gA iJ λb9 cK=>⟨cK _ _ ju,by omega,n-(i+1),by omega,rfl,d8,⟨_,rfl⟩,(iJ.trans cK).new b3,Zd,?_⟩;rw[step,if_pos gA,QN,hl]
   rfl
  ·have nt:c i=false:=by simpa using gA
   rw[nt,if_neg Qb];refine⟨n-(i+1),by omega,rfl,d8,⟨_,rfl⟩,iJ,ju,?_⟩;rw[step,if_neg gA,List.append_nil,hl]
 ·have e:i=n:=by omega
  subst e;exact .inl ⟨w.stop aS cQ,q p aS b3 cQ (by rw[←hl];exact cH)⟩
structure ZL(A:List Addr)(H aS:Hp):Prop where
 keep:∀b o,H b=some o→b∉A→aS b=some o
 tups:∀b xs,H b=some (.tup xs)→aS b=some (.tup xs)
theorem Ze.frame{A:List Addr}{H aS:Hp}(e:Ze H aS):ZL A H aS:=⟨λb o h _=>e b o h,λb xs h=>e b _ h⟩
theorem ZL.trans{A:List Addr}{H a1 a8:Hp}(a:ZL A H a1)(b:ZL A a1 a8):ZL A H a8:=⟨λc o h n=>b.keep c o (a.keep c o h n) n,λc xs h=>b.tups c xs (a.tups c xs h)⟩
theorem ZL.mono{A B:List Addr}{H aS:Hp}(a:ZL A H aS)(h:∀x∈A,x∈B):ZL B H aS:=⟨λc o e n=>a.keep c o e λz=>n (h c z),a.tups⟩
theorem hB{A:List Addr}{H:Hp}{p:Addr}{o o':HO}(b3:p∈A)(h:H p=some o)(cL:∀xs,o≠ .tup xs):ZL A H (upd H p o'):=by
 refine⟨λb u e n=>?_,λb xs e=>?_⟩
 ·have z:b≠p:=λz=>n (by rw[z];exact b3);rw[cm z];exact e
 ·have z:b≠p:=λz=>cL xs (by rw[z,h] at e;exact Qk e);rw[cm z];exact e
def Z9(A A':List Addr)(H:Hp):Prop:=∀a∈A',a∈A∨H a=none
theorem Z9.refl{A:List Addr}{H:Hp}:Z9 A A H:=λ_ h=> .inl h
def Yq(K:Frag)(H:Hp)(A:List Addr)(a:Addr)(xs:List V):Prop:=
 (Rd H a (.lst xs)∧a∉A)∨∃(o:Obj)(its:Array Value)(n:Nat),K.lookup a=some o∧o.cls= .type "list" ∧o.dict=none∧o.data= .seq its n∧its.size≤sizeLine∧cf xs its.toList
theorem Yq.sq{K:Frag}{H:Hp}{A:List Addr}{a:Addr}{xs:List V}(h:Yq K H A a xs):SqL K H a xs:=h.imp And.left id
theorem Yq.frame{K:Frag}{H aS:Hp}{A:List Addr}{a:Addr}{xs:List V}(h:Yq K H A a xs)(f:ZL A H aS):Yq K aS A a xs:=by
 rcases h with⟨h|⟨o,h⟩,n⟩|h
 ·exact .inl ⟨.inl (f.keep _ _ h n),n⟩
 ·exact .inl ⟨.inr ⟨o,f.keep _ _ h n⟩,n⟩
 ·exact .inr h
theorem Yq.more{K:Frag}{H:Hp}{A A':List Addr}{a:Addr}{xs:List V}(h:Yq K H A a xs)(g:Z9 A A' H):Yq K H A' a xs:=by
 rcases h with⟨h,n⟩|h
 ·refine .inl ⟨h,λz=>?_⟩;rcases g a z with z|z
  ·exact n z
  ·rcases h with h|⟨o,h⟩<;>(rw[h] at z;cases z)
 ·exact .inr h
theorem Yq.sub{K:Frag}{H:Hp}{A A':List Addr}{a:Addr}{xs:List V}(h:Yq K H A a xs)(g:∀x∈A',x∈A):Yq K H A' a xs:=h.imp (λ⟨h,n⟩=>⟨h,λz=>n (g a z)⟩) id
theorem SqL.off{K:Frag}{H:Hp}{A:List Addr}{a:Addr}{xs:List V}(h:SqL K H a xs)(g:∀x∈A,H x=none):Yq K H A a xs:=by
 rcases h with h|h
 ·refine .inl ⟨h,λz=>?_⟩;have:=g a z;rcases h with h|⟨o,h⟩<;>(rw[h] at this;cases this)
 ·exact .inr h
section
variable {K:Frag}{H aS:Hp}{A A':List Addr}
namespace Rd
variable {Q:VK}
end Rd
end
noncomputable def Its (x:Str):It:=⟨λi _=>i<x.cps.size,λi H v aS=>aS=H∧∃c,x.cps[i]? =some c∧v= .str ⟨#[c]⟩,λi _=>x.cps.size≤i⟩
theorem tW{P:Program}{w:World}{K:Frag}{cS:Expr}(it:Addr)(x:Str)(t:Tok)(ty:String)(gY:ty="str_ascii_iterator" ∨ty="str_iterator"):UN P w K cS (Its x) [it] it (λi h=>h.IsStrIter it ty x t i) where
 mem:=by simp
 obj:=λi h st b a6=>by
  have e:b=it:=by simpa using a6
  subst e;obtain⟨o,e,c,d⟩:=st;exact⟨o,e,λv z=>by rw[d] at z;cases z⟩
 keep:=λi h h' st k=>let⟨o,bW,r⟩:=st;⟨o,k it (by simp) o bW,r⟩
 item:=by
  intro X hP hw hK bH i aU s aM H E I cj st cs;subst hP hw hK;obtain⟨eK,f1,f2,dt,ev,eL⟩:=cj it (by simp);have bb:i<x.cps.size:=cs;have d5:∀h':Heap,h'.IsStrIter it ty x t (i+1)→Heap.SameBut it s.heap h'→∃u,some (Value.str ⟨#[x.cps[i]]⟩ s.toks)=some u∧
    wpAny (model X.prog X.w) X.A (letOwnedTupleGo cS (.ref it) u) (λ_ bQ=>∃y aS,Inv X aU aM aS bQ∧cu y u∧(Its x).yld i H y aS∧bQ.heap.IsStrIter it ty x t (i+1)∧∀b∈[it],aS b=none) E {s with heap:=h',toks:=s.toks+1}:=λh' j2 mz=>by
   have bU:Inv X aU aM H {s with heap:=h',toks:=s.toks+1}:=I.turned (t':=s.toks+1) (λb o a6 e=>(mz.2 b a6).trans e) eK f1 dt ev eL;obtain⟨o,e,c,d⟩:=id j2;refine⟨_,rfl,o_ (s:={s with heap:=h',toks:=s.toks+1}) e c d (by rcases gY with rfl|rfl<;>decide) ⟨.str ⟨#[x.cps[i]]⟩,H,bU,⟨_,rfl⟩,⟨rfl,x.cps[i],by simp[bb],rfl⟩,j2,λb a6=>(cj b a6).1⟩⟩
  rcases gY with rfl|rfl
  ·exact wpAny_pyNext_ascii_item st (c:=x.cps[i]) (by simp[bb]) d5
  ·exact wpAny_pyNext_wide_item st (c:=x.cps[i]) (by simp[bb]) d5
 done:=by
  intro X hP hw hK bH i aU s aM H E I cj st cs;subst hP hw hK;obtain⟨eK,f1,f2,dt,ev,eL⟩:=cj it (by simp);have bb:x.cps.size≤i:=cs;rcases gY with rfl|rfl
  ·exact wpAny_pyNext_ascii_end (I.ok.hd bH) st (by simp[bb]) λh' fi=>⟨rfl,I.turned (t':=s.toks) (λb o a6 e=>fi b o a6 e) eK f1 dt ev eL⟩
  ·exact wpAny_pyNext_wide_end (I.ok.hd bH) st (by simp[bb]) λh' fi=>⟨rfl,I.turned (t':=s.toks) (λb o a6 e=>fi b o a6 e) eK f1 dt ev eL⟩
 self:=λ_ _ _ _ _ st h=>by
  rcases gY with rfl|rfl
  ·exact wpAny_pyIter_striter_ascii st h
  ·exact wpAny_pyIter_striter_wide st h
section
variable {X:Cx}{cS:Expr}
noncomputable def pY (fO:TE):TI:=λaM H R=>fO aM H λx a1=>∃y,x= .str y∧R (Its y) a1
theorem pZ{l:Expr}{fO:TE}(hl:PE X l fO):PI X cS l (pY fO):=by
 intro aU s aM H R I h;refine thn (hl aU s aM H _ I h) λv bj ⟨x,a1,bU,cr,ck⟩=>?_;obtain⟨y,e,q⟩:=ck;subst e;obtain⟨t,rfl⟩:=cr;have d5:∀ty:String,(ty="str_ascii_iterator" ∨ty="str_iterator")→PIE X aU aM cS R (.ref bj.heap.objs.size) {bj with heap:=bj.heap.push {cls:= .type ty,data:= .fields #[.str y t,.int 0 0]}}:=λty gY=>by
  refine⟨bj.heap.objs.size,[bj.heap.objs.size],_,_,a1,rfl,bU.kept (t':=bj.toks) λb o e=>Heap.get?_push_of_some _ e,tW _ y t ty gY,⟨_,Heap.get?_push_size _ rfl,rfl,rfl⟩,λb a6=>?_,q⟩;have e:b=bj.heap.objs.size:=by simpa using a6
  subst e;exact bU.fpOk (Qc _) (bU.hok.fresh (Qc _))
 cases bK:y.cps.all (· <128)
 ·exact wpAny_pyIter_wide bK (d5 _ (.inr rfl))
 ·exact wpAny_pyIter_ascii bK (d5 _ (.inl rfl))
theorem Zac{x:Str}{H:Hp}:Walks (Its x) x.cps.size (λi=> .str ⟨#[x.cps.getD i 0]⟩) H:=
 ⟨λ_ _ _ h=>h,λaS i v a8 _ bb ⟨e,c,bH,b8⟩=>⟨e,by rw[b8];simp[Array.getD,bb] at bH⊢;exact bH.symm⟩,λ_ _=>Qc _⟩
noncomputable def rLeS:R2:=λx y H Q=>∃i j,x= .str i∧y= .str j∧Q (.bl (!decide (j.cps.toList<i.cps.toList))) H
theorem p0:OpR X (compareOp .LtE) rLeS:=by
 intro aU s aM H x y v u Q I bL bX h;obtain⟨i,j,rfl,rfl,q⟩:=h;obtain⟨t,rfl⟩:=bL;obtain⟨t',rfl⟩:=bX;exact PySem.P.le_str ⟨.bl _,H,I,rfl,q⟩
theorem p1{s:Shared}:∀{bs:List Bool}{us:List Value},cf (bs.map V.bl) us→us=bs.map Value.bool
 | [],_,r=>by cases r;rfl
 |b::bs,_,r=>by
  cases r with
  |cons cr cM=>
   have e:_=Value.bool b:=cr;rw[e,p1 (s:=s) cM]
   rfl
theorem tX{s:Shared}{h':Heap}{o:Obj}(bY:∀b x,b∉[s.heap.objs.size]→(s.heap.push o).get? b=some x→h'.get? b=some x):∀b x,s.heap.get? b=some x→h'.get? b=some x:=
 λb x e=>bY b x (λbZ=>by rw[Qp.mp bZ] at e;exact QF _ (Heap.lt_size e)) (Heap.get?_push_of_some _ e)
theorem ZbY(bs:List Bool):((List.range bs.length).all λi=>(bs[i]?).getD true)=bs.all id:=by
 rw[QA,QD,QD]
 constructor
 ·intro h b a6;obtain⟨i,bb,rfl⟩:=QX a6;have:=h i (QM.mpr bb);simpa[Qu bb] using this
 ·intro h i bb;have gf:=QM.mp bb;simp only[Qu gf,Option.getD_some];exact h _ (List.getElem_mem gf)
theorem Zc0(bH:X.calm=true):Yc X (.builtin "all") (λxs H Q=>∃(p:Addr)(bs:List Bool),xs=[.ref p]∧SqL X.K H p (bs.map V.bl)∧Q (.bl (bs.all id)) H):=by
 intro aU s aM H xs us Q I r h;obtain⟨p,bs,rfl,b7,q⟩:=h;obtain⟨u,rfl,bL⟩:=Y2 r;cases bL;obtain⟨its,c7,pl,cd⟩:=I.list b7;have hU:=p1 (s:=s) c7;subst hU;have hl:=pl.isList;have d8:p<s.heap.objs.size:=by obtain⟨_,e,_⟩:=hl;exact Heap.lt_size e
 refine call_all_walk (wpAny_pyIter_list hl ?_);refine⟨s.heap.objs.size,[s.heap.objs.size,p],[s.heap.objs.size],(bs.map Value.bool).toArray.size,_,_,λi=>(bs[i]?).getD true,rfl,PySem.Walks.list (A:=X.A.in1) (I.ok.hd bH) _ p (Ql d8) (bs.map Value.bool).toArray,
  ⟨⟨_,Heap.get?_push_size _ rfl,rfl,rfl⟩,hl.push _⟩,λi v s' jW E' hP gQ=>?_,λh' cW bY=>?_⟩
 ·have kB:(bs.map Value.bool)[i]? =some v:=by simpa using hP
  rw[QH] at kB;cases e:bs[i]? with
  |none=>rw[e] at kB;cases kB
  |some b=>
   rw[e] at kB;cases kB;have p2:jW ((bs[i]?).getD true) s':=gQ;rw[e] at p2;exact wpAny_truthy_bool p2
 ·have e:((List.range (bs.map Value.bool).toArray.size).all λi=>(bs[i]?).getD true)=bs.all id:=by
   rw[Qa,Qe];exact ZbY bs
  rw[e];exact⟨.bl (bs.all id),H,I.kept (tX bY),rfl,q⟩
end
structure Zcr(K:Frag)(x qual:Str)(st:Stmt)(dT:Addr)(f:Addr)(fd:FuncData):Prop where
 ex:∃(d0:Value)(di:Option Addr)(kV dU dJ:Value)(an:Option Addr)(cy ct:Value)(eT:Array (Option Value)),
  fd=fnOf x qual (gs st) (f4 st) (cT st) (.ref dT) kV dU dJ an cy ct∧K.lookup f=some ⟨d0,di,.func fd,eT⟩∧codeIn K cy qual=true
 kp:keepIn K (.ref f)=true
section
variable {P:Program}{w:World}{K:Frag}{mg:Str→Option Value}{base:Heap}
theorem Zcr.okX{x qual:Str}{st:Stmt}{dT f:Addr}{fd:FuncData}{N bP:List Str}{k:Nat}{sp:Sp}(F:Zcr K x qual st dT f fd)(S:Zy N bP (cT st))(len:∀vs H Q E,sp vs H Q E→vs.length=bP.length)
  (kb:∀(cy:Value)(A:Around)(outer:List Env)(s:Shared)(H:Hp)(vs:List V)(Q:VK)(E:XK),dx k (A.deeper (envOfC qual (cT st) s.heap.objs.size f cy))→sp vs H Q E→
   ∃t,PSs (cxX P w K mg base N qual (cT st) f cy A outer s H E) (f4 st) t∧t {nx:=λ_ aS=>Q .non aS,rt:=Q} (start N vs) H):ZX P w K mg base (CXX P w) (k+1) f fd bP sp:=by
 obtain⟨d0,di,kV,dU,dJ,an,cy,ct,eT,rfl,lk,fV⟩:=F.ex;exact Zek lk fV S len λA outer s H vs Q E a' gd=>kb cy A outer s H vs Q E a' gd
theorem Zey{x qual:Str}{st:Stmt}{dT f:Addr}{d0:Value}{di an:Option Addr}{eT:Array (Option Value)}{kV dU dJ cy ct:Value}(l:K.lookup f=some ⟨d0,di,.func (fnOf x qual (gs st) (f4 st) (cT st) (.ref dT) kV dU dJ an cy ct),eT⟩)
  (c:codeIn K cy qual=true) (k:keepIn K (.ref f)=true):Zcr K x qual st dT f (fnOf x qual (gs st) (f4 st) (cT st) (.ref dT) kV dU dJ an cy ct):=⟨⟨d0,di,kV,dU,dJ,an,cy,ct,eT,rfl,l,c⟩,k⟩
theorem tY{h₀:Heap}{x:Str}{C:Addr}{p3:List Value}{h0:String}(X:K.In h₀)(g:h₀.Ns mainGlobals mg)(e:nsIn K mainGlobals x=some (some (.ref C)))(q:excIn K C p3 h0=true):OwnCls x C p3 h0 mg h₀:=by
 refine⟨mg_of X g e,?_⟩;unfold excIn at q
 split at q
 ·rename_i dd cE sl bW
  split at q
  ·rename_i zX bm k0 k1 k2 k3 n k5 bZ bN;simp only[Qx,beq_iff_eq,Bool.not_eq_true'] at q;obtain⟨⟨⟨⟨⟨rfl,rfl⟩,p4⟩,cL⟩,hok⟩,lD⟩:=q;obtain⟨nm,bs,zY,ns,ik,hd,sn,sub,ab,col,zZ⟩:=cE;dsimp only at bZ p4 hok lD;subst bZ p4;have tZ:sl=#[k0,k1,k2,k3,some (.builtin n),k5]:=by
    obtain⟨l⟩:=sl;simp only at bN;rw[bN]
   subst tZ;exact⟨bm,ns,nm,ik,bs,hd,sn,sub,ab,col,dd,k0,k1,k2,k3,k5,_,X _ _ bW,.of_isNs (PySem.W.isNs_of_in X hok),PySem.W.nsMap_none_of_in X hok lD,PySem.W.tail_of_in X cL⟩
  ·cases q
 ·cases q
section
variable {N:List Str}{qual:Str}{scope:Scope}{f:Addr}{cE:Value}{A:Around}{outer:List Env}{s₀:Shared}{H₀:Hp}{E:XK}
theorem hC{x:Str}{jr ey pos:Pos}{hz:Expr}{rest:List Expr}{t:TA}{C:Addr}{B h0 nq:String}{bm:List Value}(e:nsIn K mainGlobals x=some (some (.ref C)))(q:excIn K C bm h0=true)(FB:ExcBaseFacts B h0 nq bm)
  (cs:Gl (cxX P w K mg base N qual scope f cE A outer s₀ H₀ E) x) (bK:PA (cxX P w K mg base N qual scope f cE A outer s₀ H₀ E) (hz::rest) t)
  (b_:starEach (hz::rest) (cxX P w K mg base N qual scope f cE A outer s₀ H₀ E).env=(false,eval hz (cxX P w K mg base N qual scope f cE A outer s₀ H₀ E).env)::starEach rest (cxX P w K mg base N qual scope f cE A outer s₀ H₀ E).env:=by rfl)
  (iv:(backTo ey (starEach rest (cxX P w K mg base N qual scope f cE A outer s₀ H₀ E).env)).any (·.1)=false:=by rfl) (e_:(x==("__debug__" :Str))=false:=by decide):
  PS (cxX P w K mg base N qual scope f cE A outer s₀ H₀ E) (.Raise (some (.Call (.Name x jr) (hz::rest) [] ey)) none pos) (nn (.ref C) E t):=by
 intro aU s aM H D I h;exact ZdJ (tY I.ok.mod.kin I.ok.mod.glob e q) FB cs bK b_ iv e_ aU s aM H D I h
end
end
section
variable {X:Cx}
noncomputable def rSlS:V→Option Int→Option Int→Hp→VK→Prop:=λx lo bb H Q=>∃z,x= .str z∧z.length≤sizeLine∧Q (.str (Txt.slice z lo bb)) H
theorem t0:SlR X rSlS:=by
 intro aU s aM H x v eD eE lo bb sl Q I bL bN pl fy h;obtain⟨z,rfl,cd,q⟩:=h;obtain⟨t,rfl⟩:=bL;refine⟨"str",_,F.slot_str_getitem.lookup,typeIs_str _ _ _,?_⟩;have d5:∀l u:Option (Int×Tok),l.map (·.1)=lo→u.map (·.1)=bb→partValue l=eD→partValue u=eE→wpAny (model X.prog X.w) X.A (getItem (.str z t) (.ref sl)) (EP X aU aM Q) X.xe s:=λl u b2 ci et iI=>by
  obtain⟨o,bW,bH,hd⟩:=bN;subst b2 ci et iI;exact wpAny_getItem_str_slice (l:=l) (u:=u) (st:=none) ⟨o,bW,bH,hd⟩ rfl (post_val_or_str ⟨Qn (Txt.slice_le z _ _) cd,λt' k=>⟨.str _,H,I.tok k,⟨_,rfl⟩,q⟩⟩)
 cases pl with
 |none=>
  cases fy with
  |none=>exact d5 none none rfl rfl rfl rfl
  |int j t'=>exact d5 none (some (j,t')) rfl rfl rfl rfl
 |int i gS=>
  cases fy with
  |none=>exact d5 (some (i,gS)) none rfl rfl rfl rfl
  |int j t'=>exact d5 (some (i,gS)) (some (j,t')) rfl rfl rfl rfl
noncomputable def UM (K:Frag):V→Option Int→Option Int→Hp→VK→Prop:=λx lo bb H Q=>pC K x lo bb H Q∨(pB K x lo bb H Q∨rSlS x lo bb H Q)
theorem t1:SlR X (UM X.K):=s8.or (sZ.or t0)
theorem p5:∀{ys:List Str}{us:List Value},cf (ys.map V.str) us→StrsAre us ys
 | [],_,r=>by cases r;exact .nil
 |y::ys,_,r=>by
  cases r with
  |cons cr cM=>
   obtain⟨t,e⟩:=cr;subst e;exact .cons y t (p5 cM)
noncomputable def p6 (K:Frag):V→List V→Hp→VK→Prop:=λx vs H Q=>∃(z:Str)(p:Addr)(ys:List Str),x= .str z∧vs=[.ref p]∧SqL K H p (ys.map V.str)∧(ys.map (·.length)).sum+ys.length*z.length≤16777216∧Q (.str (Txt.join z ys)) H
theorem t2:MtR X "str.join" (p6 X.K):=by
 intro aU s aM H x xs v us Q I bL fl h;obtain⟨z,p,ys,rfl,rfl,b7,cd,q⟩:=h;obtain⟨t,rfl⟩:=bL;obtain⟨u,rfl,ew⟩:=Y2 fl;cases ew;obtain⟨its,c7,pl,hl⟩:=I.list b7;exact join_list pl.isList (by simpa using p5 c7) cd λt' k=>⟨.str _,H,I.tok k,⟨_,rfl⟩,q⟩
end
structure Y1(K:Frag)(C:Addr)(fs:List Str):Prop where
 out:∀f∈fs,fM K C f
theorem Y1.get{K:Frag}{C:Addr}{fs:List Str}{f:Str}(h:Y1 K C fs)(m:fs.contains f=true):fM K C f:=h.out f (by simpa using m)
namespace Rd
section
variable {aM:St}{H:Hp}{Q:VK}{D:YS}{K:Frag}
theorem slS{z:Str}{lo bb:Option Int}(h:z.length≤sizeLine)(q:Q (.str (Txt.slice z lo bb)) H):UM K (.str z) lo bb H Q:= .inr (.inr ⟨z,rfl,h,q⟩)
theorem slL{a:Addr}{xs:List V}{lo bb:Option Int}(h:SqL K H a xs)(q:∀p,H p=none→Q (.ref p) (upd H p (.lst (fZ xs lo bb)))):UM K (.ref a) lo bb H Q:= .inl ⟨a,xs,rfl,h,q⟩
theorem sl{r:V→Option Int→Option Int→Hp→VK→Prop}{cn:TE}{fO e':TO}(h:cn aM H λx a1=>fO aM a1 λl a8=>e' aM a8 λu b1=>r x l u b1 Q):tSl r cn fO e' aM H Q:=h
theorem ZeY{Q:Option Int→Hp→Prop}(h:Q none H):tNoPart aM H Q:=h
theorem Zg8{cn:TE}{Q:Option Int→Hp→Prop}(h:cn aM H λx a1=>∃i,x= .int i∧Q (some i) a1):pz cn aM H Q:=h
theorem ZgF{i:Int}{C:Int→Prop}(h:C i):∃j,V.int i= .int j∧C j:=⟨i,rfl,h⟩
theorem ZgY{bO:TE}{f:Str}(h:bO aM H λx a1=>∃a C bI fs v,x= .ref a∧a1 a=some (.ins C bI fs)∧Cls K C∧fM K C f∧fs.lookup f=some v∧Q v a1):mA K bO f aM H Q:=h
theorem fld{a C bI:Addr}{fs:List (Str×V)}{f:Str}{v:V}{G:V→Prop}(h:H a=some (.ins C bI fs))(c:Cls K C)(n:fM K C f)(l:fs.lookup f=some v)(q:G v):
  ∃e2 C bI fs v,V.ref a= .ref e2∧H e2=some (.ins C bI fs)∧Cls K C∧fM K C f∧fs.lookup f=some v∧G v:=⟨a,C,bI,fs,v,rfl,h,c,n,l,q⟩
theorem Zgo{C:Addr}{m:Str}{sp:Sp}{da:List V}{E:XK}{bO:TE}{t:TA}(h:bO aM H λx a1=>∃a bI fs,x= .ref a∧a1 a=some (.ins C bI fs)∧fs.lookup m=none∧t aM a1 λvs a8=>sp (x::(vs++da)) a8 Q E):j8 C m sp da E bO t aM H Q:=h
theorem Zgn{C:Addr}{sp:Sp}{da:List V}{E:XK}{t:TA}(h:t aM H λvs a1=>∀x bI,a1 x=none→a1 bI=none→bI≠x→
  sp (.ref x::(vs++da)) (upd (upd a1 bI (.own x)) x (.ins C bI [])) (λv a8=>v= .non∧Q (.ref x) a8) E):mE C sp da E t aM H Q:=h
theorem ZgP{bO fj:TE}{f:Str}(h:fj aM H λy a1=>bO aM a1 λx a8=>∃a C bI fs,x= .ref a∧a8 a=some (.ins C bI fs)∧Cls K C∧fM K C f∧fs.length<1000∧D.nx aM (upd a8 a (.ins C bI (ek f y fs)))):mB K bO fj f D aM H:=h
theorem Zga{a C bI:Addr}{fs lg:List (Str×V)}{f:Str}{y:V}(h:H a=some (.ins C bI fs))(c:Cls K C)(n:fM K C f)(l:fs.length<1000)(e:ek f y fs=lg)(q:D.nx aM (upd H a (.ins C bI lg))):
  ∃e2 C bI fs,V.ref a= .ref e2∧H e2=some (.ins C bI fs)∧Cls K C∧fM K C f∧fs.length<1000∧D.nx aM (upd H e2 (.ins C bI (ek f y fs))):=⟨a,C,bI,fs,rfl,h,c,n,l,by rw[e];exact q⟩
theorem Zgi{cls:Value}{E:XK}{t:TA}(h:t aM H λvs a1=>vs.length≤sizeLine∧E cls none a1):nn cls E t D aM H:=h
theorem Zfw{v:V}{G:Prop}(q:G):[v].length≤sizeLine∧G:=⟨by show 1≤sizeLine;decide,q⟩
theorem Zg4{cn:TE}{R:It→Hp→Prop}(h:cn aM H λx a1=>∃y,x= .str y∧R (Its y) a1):pY cn aM H R:=h
theorem ZgE{y:Str}{G:Str→Prop}(h:G y):∃z,V.str y= .str z∧G z:=⟨y,rfl,h⟩
theorem Zgp{ix:List Nat}{dI:TI}{g:TG}{cV:TT}{cn:TE}(h:dI aM H λJ a1=>∀p,a1 p=none→
 ∃W:Nat→Nat→List V→St→Hp→Prop,(∃m,W 0 m [] (emb ix aM) (upd a1 p (.lst [])))∧∀i m ys b0 aS,W i m ys b0 aS→
  (J.stop i aS∧Q (.ref p) aS)∨(J.go i aS∧∀x a8,J.yld i aS x a8→g x b0 a8 λcc b1=>cV cc b1 λb b5=>
   if b=true then cn cc b5 λv b9=>b9 p=some (.lst ys)∧ys.length<sizeLine∧∃cq,cq<m∧W (i+1) cq (ys++ [v]) cc (upd b9 p (.lst (ys++ [v])))
   else ∃cq,cq<m∧W (i+1) cq ys cc b5)):m3 ix dI g cV cn aM H Q:=h
theorem Zg0{Q:Bool→Hp→Prop}(h:Q true H):tAll aM H Q:=h
theorem lk0{f:Str}{v:V}{r:List (Str×V)}:((f,v)::r).lookup f=some v:=by simp
theorem lk1{f g:Str}{v:V}{o:Option V}{r:List (Str×V)}(n:(f==g)=false)(h:r.lookup f=o):((g,v)::r).lookup f=o:=by rw[Qt,n];exact h
theorem lkN{f:Str}:([]:List (Str×V)).lookup f=none:=rfl
theorem pf1{f g:Str}{v x:V}{r cz:List (Str×V)}(n:(g==f)=false)(h:ek f v r=cz):ek f v ((g,x)::r)=(g,x)::cz:=by
 have:¬g=f:=by simpa using n
 simp[ek,this,h]
theorem pfN{f:Str}{v:V}:ek f v []=[(f,v)]:=rfl
end
end Rd
theorem ZbF(x:Str)(ys:List Str):inV (.str x) (ys.map V.str)=decide (x∈ys):=by
 induction ys with
 |nil=>rfl
 |cons y ys ds=>
  have e:inV (.str x) ((y::ys).map V.str)=(eqV (.str y) (.str x)||inV (.str x) (ys.map V.str)):=rfl;rw[e,ds];show((y==x)||decide (x∈ys))=decide (x∈y::ys)
  by_cases h:x=y
  ·subst h;simp
  ·have:(y==x)=false:=by simpa using λz=>h z.symm
   rw[this];simp[h]
theorem ZeV(x:Int)(ys:List Int):inV (.int x) (ys.map V.int)=decide (x∈ys):=by
 induction ys with
 |nil=>rfl
 |cons y ys ds=>
  have e:inV (.int x) ((y::ys).map V.int)=(eqV (.int y) (.int x)||inV (.int x) (ys.map V.int)):=rfl;rw[e,ds];show((y==x)||decide (x∈ys))=decide (x∈y::ys)
  by_cases h:x=y
  ·subst h;simp
  ·have:(y==x)=false:=by simpa using λz=>h z.symm
   rw[this];simp[h]
theorem p7(ys:List Str):(ys.map V.str).all gX=true:=by
 rw[List.all_map,QD];intro _ _
 rfl
theorem t3(ys:List Int):(ys.map V.int).all gX=true:=by
 rw[List.all_map,QD];intro _ _
 rfl
namespace Rd
section
variable {H:Hp}{Q:VK}{K:Frag}
theorem inS{p:Addr}{x:Str}{ys:List Str}(h:SqL K H p (ys.map V.str))(q:Q (.bl (decide (x∈ys))) H):rIn K false (.str x) (.ref p) H Q:=⟨p,_,rfl,.inl h,rfl,p7 ys,by rw[ZbF];exact q⟩
theorem ZgK{p:Addr}{x:Str}{ys:List Str}(h:SqL K H p (ys.map V.str))(q:Q (.bl (!decide (x∈ys))) H):rIn K true (.str x) (.ref p) H Q:=⟨p,_,rfl,.inl h,rfl,p7 ys,by rw[ZbF];exact q⟩
theorem ifD{c A B:Prop}[Decidable c](a:c→A)(b:¬c→B):if decide c=true then A else B:=by
 by_cases h:c
 ·exact ifP h (a h)
 ·exact ifN h (b h)
theorem ZgQ{p:Addr}{bs:List Bool}{G:List Bool→Prop}(h:SqL K H p (bs.map V.bl))(q:G bs):∃(hS:Addr)(kC:List Bool),[V.ref p]=[.ref hS]∧SqL K H hS (kC.map V.bl)∧G kC:=⟨p,bs,rfl,h,q⟩
theorem leS{x y:Str}(q:Q (.bl (!decide (y.cps.toList<x.cps.toList))) H):rLeS (.str x) (.str y) H Q:=⟨x,y,rfl,rfl,q⟩
theorem Zgj{aM:St}{r cz:R2}{bO cp cV:TE}(h:bO aM H λx a1=>cp aM a1 λy a8=>r x y a8 λz b1=>∃k,z= .bl k∧(if k=true then cV aM b1 λdz b5=>cz y dz b5 Q else Q (.bl false) b1)):mw r cz bO cp cV aM H Q:=h
end
end Rd
theorem Yq.step{K:Frag}{H aS:Hp}{A A':List Addr}{a:Addr}{xs:List V}(h:Yq K H A a xs)(f:ZL A H aS)(g:Z9 A A' H):Yq K aS A' a xs:=by
 have a_:=h.more (A':=A++A') λa z=>(Q0.mp z).elim .inl (g a);exact(a_.frame (f.mono λa z=>QU _ z)).sub λa z=>Qh _ z
theorem Z9.cons{A A':List Addr}{H:Hp}{q:Addr}(g:Z9 A A' H):Z9 (q::A) (q::A') H:=λa z=>by
 rcases Qj.mp z with rfl|z
 ·exact .inl QQ
 ·rcases g a z with y|y
  ·exact .inl (Qo _ y)
  ·exact .inr y
theorem ZL.cons{A:List Addr}{H aS:Hp}{q:Addr}(f:ZL A H aS):ZL (q::A) H aS:=f.mono λ_ z=>Qo _ z
theorem Z9.off{A A':List Addr}{H:Hp}{q:Addr}(g:Z9 A A' H)(n:q∉A)(h:H q≠none):q∉A':=λz=>(g q z).elim n h
namespace Rd
section
variable {H:Hp}{Q:VK}{K:Frag}
theorem un1{g:Int→V}{i:Int}(q:Q (g i) H):rU g (.int i) H Q:=⟨i,rfl,q⟩
theorem ZdD{z:Str}{i:Int}{c:Nat}(h:z.length≤sizeLine)(e:atI z.cps.toList i=some c)(q:Q (.str ⟨#[c]⟩) H):rIx K (.str z) (.int i) H Q:= .inr (.inr ⟨z,i,c,rfl,rfl,h,e,q⟩)
theorem Zgc{j:Int}{G:Int→Prop}(a_: -(2 ^ 62)≤j)(bd:j<2 ^ 62)(q:G j):∃k,[V.int j]=[.int k]∧ -(2 ^ 62)≤k∧k<2 ^ 62∧G k:=⟨j,rfl,a_,bd,q⟩
theorem Zhh{i j:Int}{G:Int→Int→Prop}(q:G i j):∃lF j',[V.int i,.int j]=[.int lF,.int j']∧G lF j':=⟨i,j,rfl,q⟩
end
end Rd
noncomputable def hid (H:Hp) (r:Addr):Hp:=λb=>if b=r then none else H b
theorem p8{H:Hp}{r:Addr}:hid H r r=none:=by unfold hid;rw[if_pos rfl]
theorem ZcA{H:Hp}{r b:Addr}(h:b≠r):hid H r b=H b:=by unfold hid;rw[if_neg h]
namespace Rd
section
variable {H:Hp}{Q:VK}{K:Frag}
end
end Rd
namespace Rd
section
variable {aM:St}{H:Hp}{Q:VK}{K:Frag}{J:St→Prop}{E:XK}{sp:Sp}{da:List V}{t:TA}{bO:TE}
theorem Zgr{C:Addr}{m:Str}(cN:J aM)(h:bO aM H λx a1=>∃a bI fs,x= .ref a∧a1 a=some (.ins C bI fs)∧fs.lookup m=none∧t aM a1 λvs a8=>sp (x::(vs++da)) a8 Q E):Uu J C m sp da E bO t aM H Q:=⟨cN,h⟩
end
end Rd
namespace Rd
section
variable {aM:St}{H:Hp}
theorem Zhe{to gS:TE}{t:Zcc}{v:V}{Q:St→Hp→Prop}(h:to aM H λo a1=>gS aM a1 λi a8=>t o i v a8 λb1=>Q aM b1):o7 to gS t v aM H Q:=h
theorem ZgX{p:Addr}{xs:List V}{k:Int}{v:V}{Q:Hp→Prop}(b3:H p=some (.lst xs))(du:0≤k)(a_:k<xs.length)(q:Q (upd H p (.lst (xs.set k.toNat v)))):rSetL (.ref p) (.int k) v H Q:=
 ⟨p,xs,k,k.toNat,rfl,rfl,b3,by unfold ixN;rw[if_pos du,if_pos a_],q⟩
end
end Rd
section
variable {X bN:List Int}{i:Nat}{v u:Int}
end
section
variable {X:Cx}{K:Frag}
theorem ZeF(e:X.K=K):OpR X (binaryOp .Add) (rOr lE (rOr UB (rOr rCat (ke K)))):=e▸tT
theorem d_(e:X.K=K)(hu:X.A.units+64<cLine):OpR X (compareOp .Eq) (rOr rEq (h1 K false)):=e▸ZfG hu
theorem lG(e:X.K=K)(hu:X.A.units+64<cLine):OpR X (compareOp .NotEq) (rOr rNe (h1 K true)):=e▸ZfX hu
theorem Zhd(e:X.K=K):IxR X (rIx K):=e▸s5
theorem jv(e:X.K=K):SlR X (UM K):=e▸t1
noncomputable def nu (K:Frag):List V→Hp→VK→Prop:=λxs H Q=>∃x n,xs=[x]∧V5 K x H n∧Q (.int n) H
theorem Zgk(e:X.K=K):Yc X (.builtin "len") (nu K):=e▸sL
theorem nv(e:X.K=K):OpR X (compareOp .In) (rIn K false):=e▸s_
theorem p9(e:X.K=K):OpR X (compareOp .NotIn) (rIn K true):=e▸ta
theorem e6{e:Expr}{bO:TE}{f:Str}{pos:Pos}(fE:X.K=K)(b_:PE X e bO)(a6:attributeBase e f X.env (eval e X.env)=eval e X.env):PE X (.Attribute e f pos) (mA K bO f):=fE▸Zf7 b_ a6
theorem p_{o value:Expr}{bO fj:TE}{f:Str}{pos hi:Pos}(fE:X.K=K)(bK:PE X o bO)(b8:PE X value fj)(bN:swapsWith value (some (.Attribute o f hi)) pos.line X.env=pure false):
  PS X (.Assign [.Attribute o f hi] value pos) (mB K bO fj f):=fE▸Zfd bK b8 bN
noncomputable def p' (K:Frag) (bO:TE):TT:=λaM H Q=>bO aM H λx aS=>∃k,j7 K x aS k∧Q k aS
theorem eV{a:Expr}{bO:TE}(fE:X.K=K)(bK:PE X a bO)(b_:∀ic,isTrue a X.env ic=(do let v←ic;standAt a.pos;holding [v] (truthy v))):PT X a (p' K bO):=fE▸ZdG bK b_
noncomputable def qa (K:Frag):List V→Hp→VK→Prop:=λxs H Q=>∃x n t b,xs=[x,.ty n]∧Yh K H x t∧PySem.W.kitOne K t (.type n)=some b∧Q (.bl b) H
theorem lH(e:X.K=K):Yc X (.builtin "isinstance") (qa K):=e▸tI
noncomputable def qb (K:Frag):List V→Hp→VK→Prop:=λxs H Q=>∃p ys,xs=[.ref p]∧(SqL K H p ys∨SqT K H p ys)∧∀l,H l=none→Q (.ref l) (upd H l (.lst ys))
theorem t4(e:X.K=K):Yc X (.type "list") (qb K):=e▸tb
noncomputable def qc (K:Frag):List V→Hp→VK→Prop:=λxs H Q=>∃(p:Addr)(bs:List Bool),xs=[.ref p]∧SqL K H p (bs.map V.bl)∧Q (.bl (bs.all id)) H
theorem t5(e:X.K=K)(bH:X.calm=true):Yc X (.builtin "all") (qc K):=e▸Zc0 bH
theorem t6(e:X.K=K):MtR X "str.join" (p6 K):=e▸t2
theorem hD{o e:Expr}{bS:List Expr}{to:TE}{t:TA}{name:Str}{dF ey:Pos}{T id:String}{r:V→List V→Hp→VK→Prop}(fE:X.K=K)(mJ:PlainAttrs T)(slot:Slot T name id)(gY:typeOf (.builtin id)=pure (.type "method_descriptor"))(bZ:MtR X id r)(bW:PE X o to)(bK:PA X (e::bS) t)
  (mK:attributeBase o name X.env (eval o X.env)=eval o X.env:=by rfl)
  (mL:((backTo ey (starEach (e::bS) X.env)).all (λx=>!x.1)&&(backToKw ey (keywordEach [] X.env)).all (λx=>x.1.isSome)
   &&decide ((e::bS).length+([]:List Keyword).length+(if([]:List Keyword).isEmpty then 0 else 1)<30))=true:=by rfl)
  (mM:(dF.endLine==ey.line)=true:=by rfl) (bN:starEach (e::bS) X.env=(false,eval e X.env)::starEach bS X.env:=by rfl) (iv:(backTo ey (starEach bS X.env)).any (·.1)=false:=by rfl):
  PE X (.Call (.Attribute o name dF) (e::bS) [] ey) (tBM K T r to t):=fE▸Zgd mJ slot gY bZ bW bK mK mL mM bN iv
theorem UV{bS:List Expr}{k:Nat}{t:TGs}{n:Nat}{pos:Pos}(fE:X.K=K)(bH:X.calm=true)(h:PGs X bS t)(bM:(assignEach bS X.env).length=n:=by rfl)(eZ:(assignEach bS X.env).findIdx? (·.1)=none:=by rfl):
  PG X (.Tuple bS k pos) (mj K n t):=fE▸ZfD bH h bM eZ
end
namespace Rd
section
variable {aM:St}{H:Hp}{Q:VK}{K:Frag}
theorem tru{bO:TE}{Q:Bool→Hp→Prop}(h:bO aM H λx aS=>∃k,j7 K x aS k∧Q k aS):p' K bO aM H Q:=h
theorem ZgR{xs:List V}(h:∃x n,xs=[x]∧V5 K x H n∧Q (.int n) H):nu K xs H Q:=h
theorem ZgU{xs:List V}(h:∃x n t b,xs=[x,.ty n]∧Yh K H x t∧PySem.W.kitOne K t (.type n)=some b∧Q (.bl b) H):qa K xs H Q:=h
theorem Zhk{xs:List V}(h:∃(p:Addr)(bs:List Bool),xs=[.ref p]∧SqL K H p (bs.map V.bl)∧Q (.bl (bs.all id)) H):qc K xs H Q:=h
theorem ZeS{p:Addr}{xs:List V}(h:SqL K H p xs)(q:∀l,H l=none→Q (.ref l) (upd H l (.lst xs))):qb K [.ref p] H Q:=⟨p,xs,rfl,.inl h,q⟩
end
end Rd
def HU(A:Around):Prop:=A.units+64<cLine
theorem dx.hu{k:Nat}{A:Around}(h:dx k A):HU A:=h.units
theorem oB{n a m c:Nat}(h:a=n)(k:n≤m)(e:Nat.ble m c=true):a≤c:=h▸Qn k (Qv e)
theorem oC{n a m c:Nat}(h:a=n)(k:n<m)(e:Nat.ble m c=true):a≤c:=h▸Qn (QK k) (Qv e)
theorem oD{a m c:Nat}(k:a≤m)(e:Nat.ble m c=true):a≤c:=Qn k (Qv e)
theorem ixk{X:Cx}(K:Frag)(e:X.K=K:=by rfl):IxR X (rIx K):=Zhd e
theorem dG{X:Cx}(K:Frag)(e:X.K=K:=by rfl):OpR X (binaryOp .Add) (rOr lE (rOr UB (rOr rCat (ke K)))):=ZeF e
theorem eg{X:Cx}(K:Frag)(e:X.K=K:=by rfl):Yc X (.builtin "len") (nu K):=Zgk e
structure Ex(K:Frag)(mg:Str→Option Value)(nm:Str)(X:Addr):Prop where
 g:nsIn K mainGlobals nm=some (some (.ref X))
 m:mg nm=some (.ref X)
 e:excIn K X [.type "ValueError",.type "Exception",.type "BaseException",.type "object"] "ValueError.__new__" =true
theorem scI{N P:List Str}{bT:Scope}(a:bT.kind= .function:=by rfl)(b:bT.isCoroutine=false:=by rfl)(c:bT.isGenerator=false:=by rfl)(d:N.Nodup:=by decide+kernel)(e:N.take P.length=P:=by rfl)(f:∀x∈P,bT.names.lookup x=some .local∨bT.names.lookup x=some .cell:=by decide+kernel)(g:∀y∈bT.names,y.2≠ .free:=by decide+kernel):Zy N P bT:=⟨a,b,c,d,e,f,g⟩
structure Dn(K:Frag)(mg:Str→Option Value)(nm q:Str)(s:Stmt)(bP:List Str) where
 f:Addr
 d:FuncData
 F:Fun K nm q s f d
 b:Yk K d bP []
 m:mg nm=some (.ref f)
structure Dm(K:Frag)(C:Addr)(nm q:Str)(s:Stmt)(bP:List Str) where
 f:Addr
 d:FuncData
 F:Fun K nm q s f d
 b:Yk K d bP []
 M:VW K C nm f
structure Di(K:Frag)(C:Addr)(q:Str)(s:Stmt)(bP:List Str) where
 f:Addr
 d:FuncData
 F:Fun K "__init__" q s f d
 b:Yk K d bP []
 M:Mk K C f
abbrev BOk(nm q:Str)(s:Stmt)(bP:List Str):Prop:=∀us:List Value,us.length=bP.length→∀(kV dU dJ:Value)(an:Option Addr)(cy ct:Value),bindArgs (fnOf nm q (gs s) (f4 s) (cT s) .none kV dU dJ an cy ct) ⟨us,[]⟩=pure (bP.zip us)
section
variable {P:Program}{w:World}{K:Frag}{mg:Str→Option Value}{base h:Heap}{nm q:Str}{st:Stmt}{bP:List Str}{C f:Addr}{d0:Value}{di an:Option Addr}{eT:Array (Option Value)}{kV dc dJ cE ct:Value}
noncomputable def Dn.of (X:K.In h) (G:h.Ns mainGlobals mg) (a:nsIn K mainGlobals nm=some (some (.ref f))) (l:K.lookup f=some ⟨d0,di,.func (fnOf nm q (gs st) (f4 st) (cT st) .none kV dc dJ an cE ct),eT⟩) (c:codeIn K cE q=true) (k:keepIn K (.ref f)=true)
  (a6:BOk nm q st bP):Dn K mg nm q st bP:=⟨f,_,jo l c k,(jo l c k).binds λdk a2 a3 a4 a5 eH us e=>a6 us e dk a2 a3 a4 a5 eH,mg_of X G a⟩
noncomputable def Dm.of (a:PySem.W.findIn K (.ref C) nm=some (some (.ref f))) (i:isFn K (.ref f)=true) (l:K.lookup f=some ⟨d0,di,.func (fnOf nm q (gs st) (f4 st) (cT st) .none kV dc dJ an cE ct),eT⟩) (c:codeIn K cE q=true) (k:keepIn K (.ref f)=true)
  (a6:BOk nm q st bP):Dm K C nm q st bP:=⟨f,_,jo l c k,(jo l c k).binds λdk a2 a3 a4 a5 eH us e=>a6 us e dk a2 a3 a4 a5 eH,⟨a,i,k⟩⟩
noncomputable def Di.of (z:makesIn K C=true) (y:keepIn K (.ref C)=true) (a:PySem.W.findIn K (.ref C) "__init__" =some (some (.ref f))) (i:isFn K (.ref f)=true) (l:K.lookup f=some ⟨d0,di,.func (fnOf "__init__" q (gs st) (f4 st) (cT st) .none kV dc dJ an cE ct),eT⟩) (c:codeIn K cE q=true) (k:keepIn K (.ref f)=true)
  (a6:BOk "__init__" q st bP):Di K C q st bP:=⟨f,_,jo l c k,(jo l c k).binds λdk a2 a3 a4 a5 eH us e=>a6 us e dk a2 a3 a4 a5 eH,⟨z,a,i,y⟩⟩
theorem Zdy{dY:Type _}{P:List dY→Prop}(h:P [])(us:List dY)(e:us.length=0):P us:=match us,e with| [],_=>h
theorem lenS{dY:Type _}{n:Nat}{P:List dY→Prop}(h:∀a (us:List dY),us.length=n→P (a::us))(us:List dY)(e:us.length=n+1):P us:=match us,e with|a::us,e=>h a us (Nat.succ.inj e)
theorem ZfS:Y1 K C []:=⟨λ_ h=>nomatch h⟩
theorem ZeE{x:Str}{xs:List Str}(h:PySem.W.findIn K (.ref C) x=some none)(t:Y1 K C xs):Y1 K C (x::xs):=⟨λf cj=>by
 rcases Qj.mp cj with e|e
 ·rw[e];exact h
 ·exact t.out f e⟩
theorem Zfu{dT:Addr}{a:Array Value}{n:Nat}(h:K.lookup dT=some ⟨d0,di,.seq a n,eT⟩):∃d0 di n sl,K.lookup dT=some ⟨d0,di,.seq a n,sl⟩:=⟨_,_,_,_,h⟩
abbrev OkN(P:Program)(w:World)(base:Heap)(k:Nat)(D:Dn K mg nm q st bP)(sp:Sp):Prop:=ZX P w K mg base (CXX P w) k D.f D.d bP sp
abbrev OkM(P:Program)(w:World)(mg:Str→Option Value)(base:Heap)(k:Nat)(D:Dm K C nm q st bP)(sp:Sp):Prop:=ZX P w K mg base (CXX P w) k D.f D.d bP sp
abbrev OkI(P:Program)(w:World)(mg:Str→Option Value)(base:Heap)(k:Nat)(D:Di K C q st bP)(sp:Sp):Prop:=ZX P w K mg base (CXX P w) k D.f D.d bP sp
end
section
variable {X:Cx}{CX:CXT}{j k:Nat}{C:Addr}{bP:List Str}{sp:Sp}{E:XK}{x m q:Str}{st:Stmt}{p pos dF:Pos}{e o:Expr}{bS:List Expr}{bO:TE}{t:TA}{J:St→Prop}
theorem cU(D:Dn X.K X.mg x q st bP)(F:ZX X.prog X.w X.K X.mg X.base CX j D.f D.d bP sp)(a':dx k X.A)(bc:Ys CX X E)(bK:PA X (e::bS) t)(cN:Nat.ble j k=true:=by rfl)(cs:Gl X x:=by rfl)
  (e_:(x==("__debug__" :Str))=false:=by decide) (b_:starEach (e::bS) X.env=(false,eval e X.env)::starEach bS X.env:=by rfl) (fk:(backTo pos (starEach bS X.env)).any (·.1)=false:=by rfl):
  PE X (.Call (.Name x p) (e::bS) [] pos) (mD sp [] E t):=ZeC (F.mono (Qv cN)) a' cs D.m D.F.kp D.b .nil bc bK e_ b_ fk
theorem hE{pl:Sem Bool}(b_:PE X o bO)(c:Cls X.K C)(D:Dm X.K C m q st bP)(F:ZX X.prog X.w X.K X.mg X.base CX j D.f D.d bP sp)(a':dx k X.A)(bc:Ys CX X E)(bK:PA X (e::bS) t)(cN:Nat.ble j k=true:=by rfl)
  (eZ:starEach (e::bS) X.env=(false,eval e X.env)::starEach bS X.env:=by rfl) (fk:(backTo pos (starEach bS X.env)).any (·.1)=false:=by rfl)
  (cL:eval (.Call (.Attribute o m dF) (e::bS) [] pos) X.env=(do
   let dw←eval o X.env
   standAt dF.atName
   let(f,first)←holding [dw] (getMethod dw m pl)
   callWith pos f first (backTo pos (starEach (e::bS) X.env)) (backToKw pos (keywordEach [] X.env))):=by rfl):
  PE X (.Call (.Attribute o m dF) (e::bS) [] pos) (j8 C m sp [] E bO t):=mG b_ c D.M (F.mono (Qv cN)) a' D.b .nil bc bK eZ fk cL
theorem qd{pl:Sem Bool}(b_:PE X o bO)(c:Cls X.K C)(D:Dm X.K C m q st bP)(F:ZX X.prog X.w X.K X.mg X.base CX j D.f D.d bP sp)(a':dx k X.A)(bc:Ys CX X E)(cN:Nat.ble j k=true:=by rfl)
  (cL:eval (.Call (.Attribute o m dF) [] [] pos) X.env=(do
   let dw←eval o X.env
   standAt dF.atName
   let(f,first)←holding [dw] (getMethod dw m pl)
   callWith pos f first (backTo pos (starEach [] X.env)) (backToKw pos (keywordEach [] X.env))):=by rfl):
  PE X (.Call (.Attribute o m dF) [] [] pos) (j8 C m sp [] E bO tNil):=ZdV b_ c D.M (F.mono (Qv cN)) a' D.b .nil bc cL
theorem jw{pl:Sem Bool}(b_:PE X o bO)(c:Cls X.K C)(D:Dm X.K C m q st bP)(F:ZX X.prog X.w X.K X.mg X.base CX j D.f D.d bP sp)(a':dx k X.A)(bc:Vu CX X J E)(bK:PA X (e::bS) t)(cN:Nat.ble j k=true:=by rfl)
  (eZ:starEach (e::bS) X.env=(false,eval e X.env)::starEach bS X.env:=by rfl) (fk:(backTo pos (starEach bS X.env)).any (·.1)=false:=by rfl)
  (cL:eval (.Call (.Attribute o m dF) (e::bS) [] pos) X.env=(do
   let dw←eval o X.env
   standAt dF.atName
   let(f,first)←holding [dw] (getMethod dw m pl)
   callWith pos f first (backTo pos (starEach (e::bS) X.env)) (backToKw pos (keywordEach [] X.env))):=by rfl):
  PE X (.Call (.Attribute o m dF) (e::bS) [] pos) (Uu J C m sp [] E bO t):=pW b_ c D.M (F.mono (Qv cN)) a' D.b .nil bc bK eZ fk cL
theorem t7(D:Di X.K C q st bP)(F:ZX X.prog X.w X.K X.mg X.base CX j D.f D.d bP sp)(a':dx (k+1) X.A)(bZ:X.mg x=some (.ref C))(bc:Ys CX X E)(cN:Nat.ble j k=true:=by rfl)(cs:Gl X x:=by rfl)
  (e_:(x==("__debug__" :Str))=false:=by decide):PE X (.Call (.Name x p) [] [] pos) (mE C sp [] E tNil):=ZdT D.M (F.mono (Qv cN)) a' cs bZ D.b .nil bc e_
end
section
variable {X:Cx}
noncomputable def rDIn:R2:=λy x H Q=>∃a o,x= .ref a∧Wa H a y o∧Q (.bl o.isSome) H
noncomputable def rDNotIn:R2:=λy x H Q=>∃a o,x= .ref a∧Wa H a y o∧Q (.bl (!o.isSome)) H
theorem t8(hu:X.A.units+64<cLine):OpR X (compareOp .In) rDIn:=by
 intro aU s aM H x y v u Q I bL bX h;obtain⟨a,o,rfl,g,q⟩:=h;cases bX;exact Zg6 (by omega) I g bL λs' dv=>⟨.bl o.isSome,H,dv,rfl,q⟩
theorem t9(hu:X.A.units+64<cLine):OpR X (compareOp .NotIn) rDNotIn:=by
 intro aU s aM H x y v u Q I bL bX h;obtain⟨a,o,rfl,g,q⟩:=h;cases bX;exact Zez (by omega) I g bL λs' dv=>⟨.bl (!o.isSome),H,dv,rfl,q⟩
noncomputable def rIxD:R2:=λx y H Q=>∃a v,x= .ref a∧Wa H a y (some v)∧Q v H
theorem t_(hu:X.A.units+64<cLine):IxR X rIxD:=by
 intro value slice aU s aM H x y v u Q I bL bX h bN;obtain⟨a,z,rfl,g,q⟩:=h;cases bL;exact tail_any (tv I g) PySem.F.slot_dict_getitem.lookup (tu (by omega) I g bX λdz s' dv hp=>⟨z,H,dv,hp,q⟩) bN
noncomputable def rSetD:V→V→V→Hp→(Hp→Prop)→Prop:=λo i v H Q=>∃a b5,o= .ref a∧ZaN H a i v b5∧Q b5
theorem ua(hu:X.A.units+64<cLine):Zdo X rSetD:=by
 intro aU s aM H o i v dw gR u Q I ro ri c7 h;obtain⟨a,b5,rfl,g,q⟩:=h;cases ro;exact Zdj (by omega) I g ri c7 λs' dv=>⟨b5,dv,q⟩
theorem Zge{P:Program}{w:World}{k:Key}{u:Value}(h:(eX P w).is k u=true):cu (kV k) u:=by
 cases k with
 |inl i=>exact Value.isInt_shape h
 |inr x=>exact Value.isStrOf_shape h
theorem qe:∀{xs:List V}{us:List Value},us.length=xs.length→(∀(j:Nat)(v:V)(u:Value),xs[j]? =some v→us[j]? =some u→cu v u)→cf xs us
 | [],[],_,_=> .nil
 |x::xs,u::us,hl,h=> .cons (h 0 x u rfl rfl) (qe (by simpa using hl) λj v w b2 ci=>h (j+1) v w (by simpa using b2) (by simpa using ci))
 | [],_::_,hl,_=>by simp at hl
 |_::_,[],hl,_=>by simp at hl
theorem KV.at{kvs:List (Key×V)}{vs:List (Key×Value)}(r:KV kvs vs):∀{j:Nat}{k:Key}{x:Value},vs[j]? =some (k,x)→∃v,kvs[j]? =some (k,v):=by
 unfold KV at r
 induction r with
 |nil=>intro j k x e;simp at e
 | @cons p q bP qs h t ds=>
  intro j k x e;cases j with
  |zero=>
   simp at e;subst e;have a_:p.1=k:=h.1;exact⟨p.2,by simp[←a_]⟩
  |succ j=>
   obtain⟨v,z⟩:=ds (j:=j) (k:=k) (x:=x) (by simpa using e);exact⟨v,by simpa using z⟩
noncomputable def rListD:List V→Hp→VK→Prop:=λxs H Q=>∃a kvs,xs=[V.ref a]∧H a=some (.dK kvs)∧∀l,H l=none→Q (.ref l) (upd H l (.lst (kvs.map λcZ=>kV cZ.1)))
theorem ub(bH:X.calm=true):Yc X (.type "list") rListD:=by
 intro aU s aM H xs us Q I r h;obtain⟨a,kvs,rfl,bK,q⟩:=h;obtain⟨u,rfl,ew⟩:=Y2 r;cases ew;obtain⟨z,hd,vs,rel,dd⟩:=ZbT I.hok bK;obtain⟨ep,uc⟩:=dd.dictAt;refine PySem.W.kdl_call (PySem.W.kdl_dict (knd:=eX X.prog X.w) (kvs:=vs) (ep:=ep) hd) (I.ok.hd bH) uc (by rw[←rel.length];exact z) λh' cW c0 c bY iz qf=>?_;refine⟨.ref s.heap.objs.size,_,I.laid (a:=s.heap.objs.size) (o:= .lst (kvs.map λcZ=>kV cZ.1)) (t':=cW) bY (Qc _) ⟨by rw[Qe];exact z,c0.toList,c,?_,by simpa using iz⟩,rfl,q _ (I.hok.fresh (Qc _))⟩;refine qe (by rw[QW,qf.1,Qe,rel.length]) λj v u b2 ci=>?_;obtain⟨k,x,bc,ud⟩:=qf.2 j u (by rw[←Array.getElem?_toList];exact ci);obtain⟨gP,mx⟩:=rel.at bc;rw[QH,mx] at b2;cases b2;exact Zge ud
end
section
variable {X:Cx}{aU:List (Addr×Obj)}{aM:List (Option V)}{H aS:Hp}{s:Shared}{h':Heap}
theorem Inv.turnedL{t':Nat}{fp:List Addr}(I:Inv X aU aM H s)(k:∀b o,b∉fp→s.heap.get? b=some o→h'.get? b=some o)(cj:∀b∈fp,e8 X aU H b):Inv X aU aM H {s with heap:=h',toks:=t'}:=by
 have jU:∀b u,H b=some u→b∉fp:=λb u e z=>by rw[(cj b z).1] at e;cases e
 refine I.step (g':=s.gens) (d':=s.drawn) (ch:=fp) (λb a6=>?_) (λb o _ _ bH e _=>k b o bH e) (λb o _ _ bH e _=>⟨o.slots,k b o bH e⟩) (λ_ _ _ _ n=>n)
  (λb o bH e=>⟨o,k b o bH e⟩) (λ_ _ e=>e) (λ_ _ _ e=>e) (λb bP e=>⟨#[],by rw[e];simp⟩) (λm bZ=>?_) (λb u e=>?_) I.bare
 ·obtain⟨eK,f1,f2,dt,ev,eL⟩:=cj b a6;exact⟨dt,f1,ev,eL⟩
 ·obtain⟨o,bS,ep,bW,r⟩:=bZ;exact⟨o,bS,ep,k _ o (λz=>(cj _ z).2.1 rfl) bW,r⟩
 ·refine(I.hok b u e).stay (λc v bH q=>k c v ?_ q) (λ_ q=>q) λ_ _ q=>q;rcases bH with z|z
  ·rw[z];exact jU b u e
  ·exact jU c _ z
theorem Inv.turnedNew{t':Nat}{fp:List Addr}{T:Addr}{o:HO}(I:Inv X aU aM H s)(k:∀b o,b∉fp→s.heap.get? b=some o→h'.get? b=some o)(cj:∀b∈fp,e8 X aU H b)(b3:s.heap.objs.size≤T)(new:ZF X.prog X.w (upd H T o) h' T o):
  Inv X aU aM (upd H T o) {s with heap:=h',toks:=t'}:=by
 have J:Inv X aU aM H {s with heap:=h',toks:=t'}:=I.turnedL k cj;have bM:=I.hok.fresh b3;obtain⟨eK,f1,f2,dt,ev,eL⟩:=I.fpOk b3 bM;refine Inv.step (s:={s with heap:=h',toks:=t'}) (h':=h') (g':=s.gens) (d':=s.drawn) (t':=t') (ch:=[T]) J (λb a6=>?_) (λb o _ _ bH e _=>e) (λb o _ _ bH e _=>⟨o.slots,e⟩) (λb o bH e n=>?_)
  (λb o bH e=>⟨o,e⟩) (λb xs e=>?_) (λb o u e=>?_) (λb bP e=>⟨#[],?_⟩) (λm bZ=>bZ) (λb u e=>?_) I.bare
 ·have e:b=T:=by simpa using a6
  subst e;exact⟨dt,f1,ev,eL⟩
 ·rw[cm (λz=>bH (by simp[z]))];exact n
 ·rw[cm (dQ e bM)];exact e
 ·rw[cm (dQ e bM)];exact e
 ·rw[cm (dQ e bM)];simpa using e
 ·by_cases a6:b=T
  ·subst a6;rw[Zd] at e;cases e;exact new
  ·rw[cm a6] at e;exact(J.hok b u e).stay (λc v _ q=>q) (λc q=>by rw[cm (dQ q bM)];exact q) λc xs q=>by rw[cm (dQ q bM)];exact q
end
noncomputable def Ite (K:Frag) (a:Addr):It:=
 ⟨λi H=>∃xs x,SqL K H a xs∧xs[i]? =some x,λi H v aS=>∃t x,H t=none∧v= .ref t∧aS=upd H t (.tup [.int i,x])∧∀xs,SqL K H a xs→xs[i]? =some x,λi H=>∃xs,SqL K H a xs∧xs.length≤i⟩
theorem uf{P:Program}{w:World}{K:Frag}{nw:List Expr}{k1:Nat}{pos:Pos}(a e it:Addr)(qg:e≠it):UN P w K (.Tuple nw k1 pos) (Ite K a) [e,it] e (λi h=>(∃gB,IsEnum h e it i gB)∧h.IsListIter it a i) where
 mem:=by simp
 obj:=λi h st b a6=>by
  obtain⟨⟨gB,b_⟩,o,a_,bd,cx⟩:=st;rcases Qj.mp a6 with rfl|a6
  ·exact⟨_,b_,λv z=>by
    have eu:Data.fields _=Data.cell v:=z;cases eu⟩
  ·rw[Qp.mp a6];exact⟨o,a_,λv z=>by rw[cx] at z;cases z⟩
 keep:=λi h h' st k=>⟨let⟨gB,b_⟩:=st.1;⟨gB,k e (by simp) _ b_⟩,st.2.at λo q=>k it (by simp) o q⟩
 item:=by
  intro X hP hw hK bH i aU s aM H E I cj st cs;subst hP hw hK;obtain⟨xs,x,b7,bc⟩:=cs;obtain⟨its,c7,p,cd⟩:=I.list b7;obtain⟨u,hu,ew⟩:=c7.get bc;obtain⟨⟨gB,b_⟩,jx⟩:=st;refine wpAny_pyNext_enum_item b_ jx p.isList (x:=u) (by simpa using hu) qg λh' bW hit' hV hsz bY=>?_;have fC:=I.hok.fresh (Qc s.heap.objs.size);have qh:e<s.heap.objs.size:=Heap.lt_size b_;have ug:it<s.heap.objs.size:=by obtain⟨_,y,_⟩:=jx;exact Heap.lt_size y
  refine⟨_,rfl,wpAny_letOwnedTupleGo_enum bW λbd uh gT=>?_⟩;have kD:bd.get? s.heap.objs.size=some {cls:= .type "tuple",data:= .seq #[.int i s.toks,u]}:=gT.extBut _ _ (Nat.ne_of_gt qh) hV;have bU:Inv X aU aM (upd H s.heap.objs.size (.tup [.int i,x])) {s with heap:=bd,toks:=s.toks+1}:=
   I.turnedNew (fp:=[e,it]) (λb o a6 q=>by
    have eP:b≠e:=λz=>a6 (by simp[z]);have fN:b≠it:=λz=>a6 (by simp[z]);exact gT.extBut b o eP (bY b o eP fN q)) cj (Qc _) ⟨by show 2≤sizeLine;decide,[.int i s.toks,u],.cons ⟨_,rfl⟩ (.cons ew .nil),_,kD,rfl,_,rfl⟩
  refine⟨.ref s.heap.objs.size,_,bU,rfl,⟨_,x,fC,rfl,rfl,λys cH=>by rw[I.list_inj cH b7];exact bc⟩,⟨⟨_,uh⟩,hit'.at λo q=>gT.extBut _ _ qg.symm q⟩,λb a6=>?_⟩;have ui:b≠s.heap.objs.size:=by
   rcases Qj.mp a6 with rfl|a6
   ·exact Ql qh
   ·rw[Qp.mp a6];exact Ql ug
  rw[cm ui];exact(cj b a6).1
 done:=by
  intro X hP hw hK bH i aU s aM H E I cj st cs;subst hP hw hK;obtain⟨xs,b7,bc⟩:=cs;obtain⟨its,c7,p,cd⟩:=I.list b7;obtain⟨⟨gB,b_⟩,jx⟩:=st;have hl:=c7.length;exact wpAny_pyNext_enum_end (I.ok.hd bH) b_ jx p.isList (by simp;omega) λh' fi=>⟨rfl,I.turnedL (t':=s.toks) (fp:=[e,it]) (λb o a6 q=>fi b o (λz=>a6 (by simp[z])) q) cj⟩
 self:=λ_ _ _ _ _ st h=>wpAny_pyIter_enum st.1.choose_spec h
section
variable {X:Cx}
noncomputable def qi (K:Frag) (bO:TA):TI:=λaM H R=>bO aM H λvs a1=>∃a,vs=[.ref a]∧(∃xs,SqL K a1 a xs)∧R (Ite K a) a1
theorem ny{K:Frag}{a:Expr}{bO:TA}{p pos mC:Pos}{nw:List Expr}{k1:Nat}(fE:X.K=K)(cs:Gl X "enumerate")(bZ:X.mg "enumerate" =none)(bK:PA X [a] bO)(bN:starEach [a] X.env=[(false,eval a X.env)]:=by rfl):
  PI X (.Tuple nw k1 mC) (.Call (.Name "enumerate" p) [a] [] pos) (qi K bO):=by
 subst fE;intro aU s aM H R I h;refine Call_ (i_ I cs bZ boot_enumerate (QL (thn (bK pos aU s aM H _ I h) λus bj ⟨vs,a1,bU,cr,ck⟩=>?_) bN rfl));obtain⟨b,rfl,⟨xs,b7⟩,q⟩:=ck;obtain⟨u,rfl,ew⟩:=Y2 cr;cases ew;obtain⟨its,c7,pl,cd⟩:=bU.list b7;refine call_enumerate_list pl.isList λh' b_ jx hsz bY=>?_;refine wpAny_pyIter_enum b_ ?_;have cF:Inv X aU aM a1 {bj with heap:=h'}:=bU.kept (t':=bj.toks) bY;refine⟨bj.heap.objs.size+1,[bj.heap.objs.size+1,bj.heap.objs.size],_,_,a1,rfl,cF,uf b _ _ (Nat.succ_ne_self _),⟨⟨_,b_⟩,jx⟩,λc bH=>?_,q⟩;rcases Qj.mp bH with rfl|bH
 ·exact bU.fpOk (Nat.le_succ _) (bU.hok.fresh (Nat.le_succ _))
 ·rw[Qp.mp bH];exact bU.fpOk (Qc _) (bU.hok.fresh (Qc _))
end
noncomputable def rLenD:List V→Hp→VK→Prop:=λxs H Q=>∃a kvs,xs=[V.ref a]∧H a=some (.dK kvs)∧Q (.int kvs.length) H
theorem Zb5{X:Cx}:Yc X (.builtin "len") rLenD:=tG
noncomputable def iK (n:Nat) (ix:List Nat) (aM:St):St:=List.replicate n none++ix.map λj=>(aM[j]?).join
noncomputable def qj (n:Nat) (ix:List Nat) (dI:TI) (g:TG) (cV:TT) (cn:TE):TE:=λaM H Q=>dI aM H λJ a1=>∀p,a1 p=none→
 ∃W:Nat→Nat→List V→St→Hp→Prop,(∃m,W 0 m [] (iK n ix aM) (upd a1 p (.lst [])))∧∀i m ys b0 aS,W i m ys b0 aS→
  (J.stop i aS∧Q (.ref p) aS)∨(J.go i aS∧∀x a8,J.yld i aS x a8→g x b0 a8 λcc b1=>cV cc b1 λb b5=>
   if b=true then cn cc b5 λv b9=>b9 p=some (.lst ys)∧ys.length<sizeLine∧∃cq,cq<m∧W (i+1) cq (ys++ [v]) cc (upd b9 p (.lst (ys++ [v])))
   else ∃cq,cq<m∧W (i+1) cq ys cc b5)
section
variable {X:Cx}
theorem Zbl{aU:List (Addr×Obj)}{aM:St}{H:Hp}{s:Shared}{bT:Scope}{x:Str}{xs:List Str}{zs:List Str}{ix:List Nat}{cl:List (Str×Addr)}{fp:List Addr}{eO:Heap}{cW:Nat}
  (S:Yg X bT x zs ix) (I:Inv X aU aM H s) (em:∀y c,cl.lookup y=some c→X.env.cells.lookup y=some c) (fB:∀y,(y,NameKind.free)∈bT.names→∃c,cl.lookup y=some c)
  (gw:∀b∈fp,e8 X aU H b∧b<s.heap.objs.size) (jn:eO.Ns s.heap.objs.size λ_=>none) (bY:∀b o,s.heap.get? b=some o→eO.get? b=some o):
  Inv (Zm X bT cl s.heap.objs.size (xs++zs) s H fp) [] (iK xs.length ix aM) H {s with heap:=eO,toks:=cW}:=by
 have sub:∀b∈frs X.stack,b∈X.env.locals::X.fs:=I.stkSub;have m4:∀b∈fp,b∉frs X.stack:=λb a6 z=>by
  obtain⟨⟨_,f1,f2,_⟩,_⟩:=gw b a6;rcases Qj.mp (sub b z) with e|e
  ·exact f1 e
  ·exact f2 e
 have cut:∀y,(Zm X bT cl s.heap.objs.size (xs++zs) s H fp).env.kindOf y=some .cell∨(Zm X bT cl s.heap.objs.size (xs++zs) s H fp).env.kindOf y=some .free→∃c,cl.lookup y=some c:=λy cH=>by
  have q:∃k,(relabel bT X.env).names.lookup y=some k∧(k= .cell∨k= .free):=by
   rcases cH with cH|cH
   ·exact⟨_,cH,.inl rfl⟩
   ·exact⟨_,cH,.inr rfl⟩
  obtain⟨k,e,bY⟩:=q;obtain⟨e0,b6,q⟩:=Yl e;have:e0= .free:=by
   rcases q with q|⟨q,_⟩
   ·rcases bY with z|z
    ·exact absurd (q.symm.trans z) (S.nocell _ (hY b6))
    ·exact q.symm.trans z
   ·exact q
  subst this;exact fB y (hY b6)
 refine⟨⟨I.ok.mod,S.kind,I.ok.glob,I.ok.blt,Qc _,λy z c a_ bd=>I.ok.inj y z c (em _ _ a_) (em _ _ bd),cut,λy c cj _=>?_,I.ok.hd,I.ok.frames,.inl rfl,λb a6=>?_,I.bs,Qn I.ok.bsz I.sz,λb o e a6=>?_,m4,I.stack,I.stkFree⟩,
  rfl,I.bare,Un.kept bY,⟨_,jn,λi y v a_ bd cx=>?_⟩,λy c h=>?_,I.hok.fresh (Qc _),λy c h=>I.freeC y c (em y c h),λp b3=>absurd (show p∈([]:List (Addr×Obj)) from b3) (by simp),I.hok.kept bY,?_⟩
 ·exact absurd (show false=true from cj) (by decide)
 ·obtain⟨⟨eK,f1,f2,dt,ev,eL⟩,hl⟩:=gw b a6;exact⟨Ql hl,λy c h=>ev y c (em y c h)⟩
 ·obtain⟨⟨eK,f1,f2,dt,ev,eL⟩,hl⟩:=gw b a6;rcases dt with z|z
  ·exact I.ok.noex b o e z
  ·exact absurd (Qi (Heap.lt_size e) (Qn I.ok.bsz z)) (QF _)
 ·
  have dL:xs.length≤i:=by
   rcases Nat.lt_or_ge i xs.length with z|z
   ·have fa:(List.replicate xs.length none++ix.map λj=>(aM[j]?).join)[i]? =some (some v):=bd;rw[List.getElem?_append_left (by rw[QC];exact z),List.getElem?_replicate,if_pos z] at fa;cases fa
   ·exact z
  ·obtain⟨i,rfl⟩:∃lF,i=xs.length+lF:=⟨i-xs.length,by omega⟩;have hZ:zs[i]? =some y:=by
    have hZ:(xs++zs)[xs.length+i]? =some y:=a_;rw[Qz (Nat.le_add_right _ _),Nat.add_sub_cancel_left] at hZ;exact hZ
   have fa:(ix.map λj=>(aM[j]?).join)[i]? =some (some v):=by
    have fa:(List.replicate xs.length none++ix.map λj=>(aM[j]?).join)[xs.length+i]? =some (some v):=bd;rw[Qz (by rw[QC];exact Nat.le_add_right _ _),QC,Nat.add_sub_cancel_left] at fa;exact fa
   have bK:(ix.map λj=>X.N[j]?)[i]? =some (some y):=by rw[S.at_,QH,hZ];rfl
   rw[QH] at fa bK;cases e:ix[i]? with
   |none=>rw[e] at fa;cases fa
   |some j=>
    rw[e] at fa bK;have kk:X.N[j]? =some y:=Qk bK;have cN:(aM[j]?).join=some v:=Qk fa;have m5:aM[j]? =some (some v):=by
     cases q:aM[j]? with
     |none=>rw[q] at cN;cases cN
     |some o=>rw[q] at cN;exact congrArg some cN
    obtain⟨m,bM,hl⟩:=I.loc;have fC:=S.zfree y (QG hZ);have ip:=S.free _ (hY fC) rfl;have b8:Vis X.env.scope y:=by
     rcases ip with z|z
     ·exact .inr (.inl z)
     ·exact .inr (.inr z)
    obtain⟨u,r,q⟩:=hl j y v kk m5 b8;refine⟨u,r,?_⟩;rcases q with⟨m6,_⟩|⟨_,c,bH,i9⟩
    ·have kl:X.env.kindOf y=some .local:=m6;rcases ip with z|z<;>(rw[z] at kl;cases kl)
    ·obtain⟨c2,hM⟩:=fB y (hY fC);have e5:c2=c:=by have:=em y c2 hM;rw[bH] at this;exact(Qk this).symm
     subst e5;refine .inr ⟨?_,c2,hM,?_⟩
     ·have m7:Vis (relabel bT X.env) y:=cx;rcases m7 with z|z|z
      ·obtain⟨e0,b6,q⟩:=Yl z;rw[fC] at b6;cases b6;rcases q with q|⟨_,q⟩<;>cases q
      ·exact .inl z
      ·exact .inr z
     ·obtain⟨o,bW,hd⟩:=i9;exact⟨o,bY _ _ bW,hd⟩
 ·obtain⟨v,o,bW,hd⟩:=I.cell y c (em y c h);exact⟨v,o,bY _ _ bW,hd⟩
 ·show(List.replicate xs.length none++ix.map λj=>(aM[j]?).join).length=(xs++zs).length;have:=congrArg List.length S.at_;simp only[Qe] at this;simp only[Qg,QC,Qe,this]
theorem Zbk{aU:List (Addr×Obj)}{aM:St}{H:Hp}{s:Shared}{bT:Scope}{x:Str}{xs:List Str}{zs:List Str}{ix:List Nat}{cl:List (Str×Addr)}{fp:List Addr}{it:Addr}{dR:Nat→Heap→Prop}{J:It}
  {ez cS dO:Expr} {ifs:List Expr} {pos:Pos} {g:TG} {cV:TT} {cn:TE} {Q:VK} {E:Value→Shared→Prop} {RR:Value→Addr→Result→Shared→Prop}
  (bH:X.calm=true) (S:Yg X bT x zs ix) (I:Inv X aU aM H s) (em:∀y c,cl.lookup y=some c→X.env.cells.lookup y=some c) (fB:∀y,(y,NameKind.free)∈bT.names→∃c,cl.lookup y=some c)
  (T:UN X.prog X.w X.K cS J fp it dR) (st:dR 0 s.heap) (gw:∀b∈fp,e8 X aU H b)
  (gx:∀C s H,PG (Zm X bT cl C (xs++zs) s H fp) cS g∧PIf (Zm X bT cl C (xs++zs) s H fp) ifs cV∧PE (Zm X bT cl C (xs++zs) s H fp) ez cn)
  (b7:∀p,H p=none→∃W:Nat→Nat→List V→St→Hp→Prop,(∃m,W 0 m [] (iK xs.length ix aM) (upd H p (.lst [])))∧∀i m ys b0 aS,W i m ys b0 aS→
   (J.stop i aS∧Q (.ref p) aS)∨(J.go i aS∧∀x a8,J.yld i aS x a8→g x b0 a8 λcc b1=>cV cc b1 λb b5=>
    if b=true then cn cc b5 λv b9=>b9 p=some (.lst ys)∧ys.length<sizeLine∧∃cq,cq<m∧W (i+1) cq (ys++ [v]) cc (upd b9 p (.lst (ys++ [v])))
    else ∃cq,cq<m∧W (i+1) cq ys cc b5))
  (iA:∀c0 C f s',pR X aU aM Q c0 C s'→RR c0 C (.ok f) s'):
  wpAny (model X.prog X.w) X.A (newList []) (λc0 gv=>wpAny (model X.prog X.w) X.A (newFunctionEnv bT X.env.globals cl [] X.env.qual none .none (some X.env)) (λkm jq=>
   codeAny (model X.prog X.w) X.A (.compStart (.ListComp ez [⟨cS,dO,ifs,0⟩] bT pos) 0 (.ref it) c0 {km with scope:=relabel bT X.env}) (RR c0 km.locals) jq) E gv) E s:=by
 refine wpAny_newObj_type (wpAny_newFunctionEnv S.nocell (by intro y cH;simp at cH) (λeO hns₁ kn=>?_) S.kind);have dA:Inv X aU aM (upd H s.heap.objs.size (.lst [])) {s with heap:=s.heap.push {cls:= .type "list",dict:=none,data:= .seq ([]:List Value).toArray}}:=I.lnew (its:=[]) (ys:=[]) (t':=s.toks) .nil (Qy _);dsimp only at hns₁ kn⊢;obtain⟨W,⟨fY,gi⟩,turn⟩:=b7 s.heap.objs.size (I.hok.fresh (Qc _));have lt:∀b∈fp,b<s.heap.objs.size:=λb a6=>by
  obtain⟨o,e,_⟩:=T.obj 0 s.heap st b a6;exact Heap.lt_size e
 have m8:∀b∈fp,∀o,(upd H s.heap.objs.size o) b=H b:=λb a6 o=>cm (Ql (lt b a6));have kp:∀b o,(s.heap.push {cls:= .type "list",dict:=none,data:= .seq ([]:List Value).toArray}).get? b=some o→eO.get? b=some o:=λb o e=>
  kn.extBut b o (Ql (Heap.lt_size e)) (Heap.get?_push_of_some _ e)
 have dt:∀b∈fp,e8 X aU (upd H s.heap.objs.size (.lst [])) b∧b<(s.heap.push {cls:= .type "list",dict:=none,data:= .seq ([]:List Value).toArray}).objs.size:=λb a6=>by
  obtain⟨m9,q⟩:=gw b a6;refine⟨⟨(m8 b a6 _).trans m9,q⟩,?_⟩;rw[Heap.size_push];exact Nat.lt_succ_of_lt (lt b a6)
 generalize ht:({s with heap:=s.heap.push {cls:= .type "list",dict:=none,data:= .seq ([]:List Value).toArray}}:Shared)=bV at dA;have ko:s.heap.push {cls:= .type "list",dict:=none,data:= .seq ([]:List Value).toArray}=bV.heap:=by rw[←ht]
 rw[ko] at kp dt hns₁⊢;have hQ:dR 0 eO:=T.keep 0 _ _ st λb _ o e=>kp b o (by rw[←ko];exact Heap.get?_push_of_some _ e);have hv:Inv (Zm X bT cl bV.heap.objs.size (xs++zs) bV (upd H s.heap.objs.size (.lst [])) fp) [] (iK xs.length ix aM) (upd H s.heap.objs.size (.lst [])) {bV with heap:=eO,toks:=bV.toks}:=
  Zbl S dA em fB dt hns₁ kp
 obtain⟨cs,m_,b_⟩:=gx bV.heap.objs.size bV (upd H s.heap.objs.size (.lst []));have iB:∀{aS:Hp},(∀b∈fp,aS b=none)→∀b∈fp,e8 (Zm X bT cl bV.heap.objs.size (xs++zs) bV (upd H s.heap.objs.size (.lst [])) fp) [] aS b:=λ{aS} bM b a6=>
  ⟨bM b a6,(hv.ok.exf b a6).1,hv.ok.exfs b a6,.inl a6,(hv.ok.exf b a6).2,λp b3=>absurd (show p∈([]:List (Addr×Obj)) from b3) (by simp)⟩
 have kq:∀c5:Shared,c5={bV with heap:=eO,toks:=bV.toks}→
   codeAny (model X.prog X.w) X.A (.compLoop (.ListComp ez [⟨cS,dO,ifs,0⟩] bT pos) 0 (.ref it) (.ref s.heap.objs.size) (compEnvC bT cl bV.heap.objs.size X.env)) (RR (.ref s.heap.objs.size) bV.heap.objs.size) c5:=by
  rintro c5 rfl;refine Vb (λn s'=>∃i ys b0 aS,Inv (Zm X bT cl bV.heap.objs.size (xs++zs) bV (upd H s.heap.objs.size (.lst [])) fp) [] b0 aS s'∧dR i s'.heap∧(∀b∈fp,aS b=none)∧W i n ys b0 aS) ?_ fY
   ⟨0,[],iK xs.length ix aM,_,hv,hQ,λb a6=>(dt b a6).1.1,gi⟩
  rintro n cK ⟨i,ys,hx,b9,fx,hk,im,kr⟩;rcases turn i n ys hx b9 kr with⟨stop,ik⟩|⟨go,step⟩
  ·refine thn (T.done (Zm X bT cl bV.heap.objs.size (xs++zs) bV (upd H s.heap.objs.size (.lst [])) fp) rfl rfl rfl bH i [] cK hx b9 _ fx (iB im) hk stop) λr dq ⟨a',eS⟩=>?_;subst a';obtain⟨m',na,_⟩:=eS.loc;refine iA _ _ _ _ ⟨s.heap.objs.size,b9,m',rfl,na,?_,dA.fpOk (Qc _) eS.free,ik⟩;exact dA.call' eS.os eS.base eS.hok eS.bare λb a6=>by
    obtain⟨⟨eK,f1,f2,dt,ev,eL⟩,_⟩:=dt b a6;exact⟨dt,f1,ev,eL⟩
  ·refine thn (T.item (Zm X bT cl bV.heap.objs.size (xs++zs) bV (upd H s.heap.objs.size (.lst [])) fp) rfl rfl rfl bH i [] cK hx b9 _ fx (iB im) hk go) λr dq ⟨u,a',cR⟩=>?_;subst a';refine thn cR λ_ d3 ⟨x7,c',e9,j5,nb,iD,iE⟩=>?_;have nc:=e9.pinned (iB iE) (T.obj _ _ iD);refine thn (cs _ d3 hx c' x7 u _ nc j5 (step x7 c' nb)) λ_ ef ⟨iF,eG,ks,nf⟩=>?_;refine thn (m_ _ ef iF eG _ ks nf) λb fP ⟨fo,kt,g4⟩=>?_;have again:∀{iG:List V}{b0:St}{aS:Hp}{cq:Nat}{s':Shared},Inv (Zm X bT cl bV.heap.objs.size (xs++zs) bV (upd H s.heap.objs.size (.lst [])) fp) ([]++WG fp d3.heap) b0 aS s'→W (i+1) cq iG b0 aS→cq<n→
     ∃m,m<n∧∃i ys b0 aS,Inv (Zm X bT cl bV.heap.objs.size (xs++zs) bV (upd H s.heap.objs.size (.lst [])) fp) [] b0 aS s'∧dR i s'.heap∧(∀b∈fp,aS b=none)∧W i m ys b0 aS:=λ{iG b0 aS cq s'} Iz gy bZ=>by
    refine⟨cq,bZ,i+1,iG,b0,aS,Iz.unpinned,T.keep _ _ _ iD λb a6 o e=>(Iz.pin (b,o) (Qh _ (Qh _ (jc a6 e)))).1,λb a6=>?_,gy⟩;obtain⟨o,e,d⟩:=T.obj _ _ iD b a6;exact(Iz.pin (b,o) (Qh _ (Qh _ (jc a6 e)))).2.1
   cases b with
   |false=>
    rw[if_neg Qb] at g4⊢;obtain⟨cq,bZ,gy⟩:=g4;exact again kt gy bZ
   |true=>
    rw[if_pos rfl] at g4⊢;refine thn (b_ _ fP iF fo _ kt g4) λv g5 ⟨y,g6,ng,nh,hl,cd,cq,bZ,gy⟩=>?_;refine thn (gZ _ g5 iF g6 (.ref s.heap.objs.size) [y] (.ref s.heap.objs.size) [v] (λz aS=>z= .non∧aS=upd g6 s.heap.objs.size (.lst (ys++ [y]))) ng rfl (.cons nh .nil) ⟨_,ys,y,rfl,rfl,hl,cd,rfl,rfl⟩) λ_ ku ⟨z,pS,ni,_,_,nj⟩=>?_;subst nj;exact again ni gy bZ
 exact codeAny_compStart_list (kq _ (by subst ht;rfl)) (T.self _ 0 _ _ _ hQ (kq _ (by subst ht;rfl)))
theorem qk{ez cS dO:Expr}{ifs:List Expr}{bT:Scope}{pos:Pos}{x:Str}{xs:List Str}{zs:List Str}{ix:List Nat}{dI:TI}{g:TG}{cV:TT}{cn:TE}
  (bH:X.calm=true) (S:Yg X bT x zs ix) (bb:PI X cS dO dI)
  (gx:∀cl C s H fp,PG (Zm X bT cl C (xs++zs) s H fp) cS g∧PIf (Zm X bT cl C (xs++zs) s H fp) ifs cV∧PE (Zm X bT cl C (xs++zs) s H fp) ez cn)
  (bN:∀x,foldedSetIterable dO X.env x=pure x:=by intro _;rfl):
  PE X (.ListComp ez [⟨cS,dO,ifs,0⟩] bT pos) (qj xs.length ix dI g cV cn):=by
 intro aU s aM H Q I h;obtain⟨cl,kv,em,fB⟩:=Wk I.ok S;rw[eval_ListComp];refine wpAny_comprehension_free (use:=none) rfl bN kv S.kind S.names (thn (bb aU s aM H _ I h) λv bj a_=>thn a_ λj1 bQ bd=>?_);obtain⟨it,fp,dR,J,a8,e,cF,T,ij,f2,b7⟩:=bd;subst e;refine Zbk (RR:=λc0 C=>compPost (model X.prog X.w) X.A X.xe none (EP X aU aM Q) c0 C) bH S cF em fB T ij f2 (λC s H=>gx cl C s H fp) b7 λc0 C f s' h=>?_;obtain⟨p,aS,m,rfl,bZ,dv,⟨dM,g1,g2,g3,hy,kx⟩,q⟩:=h;exact⟨m,bZ,λh' a6=>⟨.ref p,aS,dv.turned (t':=s'.toks) (λb o g7 e=>(a6.2 b g7).trans e) dM g1 g3 hy kx,rfl,q⟩⟩
end
structure ZaE(J:It)(n:Nat)(y:Nat→Hp→V→Hp→Prop)(H:Hp):Prop where
 go:∀aS i,Ze H aS→i<n→J.go i aS
 yld:∀aS i x a8,Ze H aS→i<n→J.yld i aS x a8→y i aS x a8
 stop:∀aS,Ze H aS→J.stop n aS
theorem nz{K:Frag}{a:Addr}{xs:List V}{H:Hp}(h:SqL K H a xs):ZaE (Ite K a) xs.length (λi aS v a8=>∃t,aS t=none∧v= .ref t∧a8=upd aS t (.tup [.int i,xs.getD i .non])) H:=
 ⟨λaS i e bb=>⟨xs,xs[i],e.seq h,by simp[bb]⟩,λaS i x a8 e bb ⟨t,z,cL,b8,bd,cd⟩=>⟨t,cL,b8,by
  have:=cd xs (e.seq h);rw[bd];simp[List.getD,this]⟩,λaS e=>⟨xs,e.seq h,Qc _⟩⟩
theorem Ul{own:Nat}{ix:List Nat}{g:TG}{cV:TT}{cn:TE}{Q:Addr→Hp→Prop}{aM:St}{H:Hp}{J:It}{n:Nat}{y:Nat→Hp→V→Hp→Prop}(w:ZaE J n y H)(bM:n<sizeLine)(s:Nat→List (Option V))(bN:∀i,(s i).length=own)(c:Nat→Bool)(R:Nat→V→Hp→Prop)
  (mono:∀i v a1 a8,Ze a1 a8→R i v a1→R i v a8)
  (cs:∀i a aS v a8 (lI:St→Hp→Prop),i<n→Ze H aS→y i aS v a8→a.length=own→(∀b1,Ze aS b1→lI (s i++ix.map λj=>(aM[j]?).join) b1)→g v (a++ix.map λj=>(aM[j]?).join) a8 lI)
  (bH:∀i aS (en:Bool→Hp→Prop),i<n→Ze H aS→(∀b5,Ze aS b5→en (c i) b5)→cV (s i++ix.map λj=>(aM[j]?).join) aS en)
  (b_:∀p i aS (en:VK),i<n→c i=true→H p=none→(∃ys,aS p=some (.lst ys))→Ze H aS→(∀v b9,Ze aS b9→R i v (hid b9 p)→en v b9)→cn (s i++ix.map λj=>(aM[j]?).join) aS en)
  (q:∀p aS ys,H p=none→Ze H aS→aS p=some (.lst ys)→Paired (λi v=>R i v (hid aS p)) ((List.range n).filter c) ys→Q p aS):
  ∀p,H p=none→∃W:Nat→Nat→List V→St→Hp→Prop,(∃m,W 0 m [] (iK own ix aM) (upd H p (.lst [])))∧∀i m ys b0 aS,W i m ys b0 aS→
   (J.stop i aS∧Q p aS)∨(J.go i aS∧∀x a8,J.yld i aS x a8→g x b0 a8 λcc b1=>cV cc b1 λb b5=>
    if b=true then cn cc b5 λv b9=>b9 p=some (.lst ys)∧ys.length<sizeLine∧∃cq,cq<m∧W (i+1) cq (ys++ [v]) cc (upd b9 p (.lst (ys++ [v])))
    else ∃cq,cq<m∧W (i+1) cq ys cc b5):=by
 intro p b3;have ql:∀{a1 a8:Hp},Ze a1 a8→Ze (hid a1 p) (hid a8 p):=λ{a1 a8} e b o z=>by
  by_cases h:b=p
  ·rw[h,p8] at z;cases z
  ·rw[ZcA h] at z⊢;exact e b o z
 have qm:∀{a1:Hp}{o:HO},Ze (hid a1 p) (hid (upd a1 p o) p):=λ{a1 o} b u z=>by
  by_cases h:b=p
  ·rw[h,p8] at z;cases z
  ·rw[ZcA h] at z⊢;rw[cm h];exact z
 refine⟨λi m ys b0 aS=>m=n-i∧i≤n∧(∃a,a.length=own∧b0=a++ix.map λj=>(aM[j]?).join)∧Ze H aS∧aS p=some (.lst ys)∧Paired (λi v=>R i v (hid aS p)) ((List.range i).filter c) ys,
  ⟨n,by simp,Qy _,⟨List.replicate own none,QC,rfl⟩,cA b3,Zd,.nil⟩,?_⟩
 rintro i m ys b0 aS ⟨rfl,bb,⟨a,bK,rfl⟩,cQ,cH,hl⟩
 by_cases d8:i<n
 ·refine .inr ⟨w.go aS i cQ d8,λx a8 jy=>?_⟩;have dL:ys.length≤i:=by
   rw[←Paired.length hl];exact Qn (Q3 _ _) (by simp)
  refine cs i a aS x a8 _ d8 cQ (w.yld aS i x a8 cQ d8 jy) bK λb1 bV=>?_;refine bH i b1 _ d8 (cQ.trans bV) λb5 c5=>?_;have iJ:=(cQ.trans bV).trans c5;have ju:=c5 _ _ (bV _ _ cH);have step:(List.range (i+1)).filter c=(List.range i).filter c++(if c i=true then[i] else[]):=by
   rw[List.range_succ,List.filter_append]
   congr 1
   by_cases h:c i=true<;>simp[h]
  have fb:Paired (λi v=>R i v (hid b5 p)) ((List.range i).filter c) ys:=Paired.mapP hl λ_ _ z=>mono _ _ _ _ (ql (bV.trans c5)) z
  by_cases gA:c i=true
  ·rw[gA,if_pos rfl];refine b_ p i b5 _ d8 gA b3 ⟨ys,ju⟩ iJ λv b9 cK il=>⟨cK _ _ ju,by omega,n-(i+1),by omega,rfl,d8,⟨s i,bN i,rfl⟩,(iJ.trans cK).new b3,Zd,?_⟩;rw[step,if_pos gA];exact Paired.snoc (Paired.mapP fb λ_ _ z=>mono _ _ _ _ ((ql cK).trans qm) z) (mono _ _ _ _ qm il)
  ·have nt:c i=false:=by simpa using gA
   rw[nt,if_neg Qb];refine⟨n-(i+1),by omega,rfl,d8,⟨s i,bN i,rfl⟩,iJ,ju,?_⟩;rw[step,if_neg gA,List.append_nil];exact fb
 ·have e:i=n:=by omega
  subst e;exact .inl ⟨w.stop aS cQ,q p aS ys b3 cQ cH hl⟩
theorem nA{R:Nat→V→Hp→Prop}{H:Hp}{r:Nat→V}(h:∀i v,R i v H→v=r i):∀{is:List Nat}{ys:List V},Paired (λi v=>R i v H) is ys→ys=is.map r
 |_,_,.nil=>rfl
 |_,_,.cons a t=>by rw[h _ _ a,nA h t];rfl
theorem Zdb{J:It}{n:Nat}{y:Nat→Hp→V→Hp→Prop}{qn:Hp}(w:ZaE J n y qn){g:TG}{cp:TS}{D:YS}{aM:St}{H:Hp}(Pv:Nat→St→Hp→Prop)(du:Pv 0 aM H)(bY:∀i aM H,Pv i aM H→Ze qn H)
  (bN:∀i aM H v aS,i<n→Pv i aM H→y i H v aS→g v aM aS λcc a8=>cp {D with nx:=Pv (i+1),ct:=Pv (i+1),bk:=D.nx} cc a8) (hd:∀aM H,Pv n aM H→D.nx aM H):
  ∃W:Nat→Nat→St→Hp→Prop,(∃m,W 0 m aM H)∧∀i m aM H,W i m aM H→
   (J.stop i H∧D.nx aM H)∨(J.go i H∧∃N:St→Hp→Prop,(∀b0 aS,N b0 aS→∃cq,cq<m∧W (i+1) cq b0 aS)∧∀x aS,J.yld i H x aS→g x aM aS λcc a8=>cp {D with nx:=N,ct:=N,bk:=D.nx} cc a8):=by
 refine⟨λi m aM H=>m=n-i∧i≤n∧Pv i aM H,⟨n,by simp,Qy _,du⟩,?_⟩;rintro i m aM H ⟨rfl,bb,p⟩;have cQ:=bY i aM H p
 by_cases d8:i<n
 ·exact .inr ⟨w.go H i cQ d8,Pv (i+1),λb0 aS hS=>⟨n-(i+1),by omega,rfl,d8,hS⟩,λx aS jy=>bN i aM H x aS d8 p (w.yld H i x aS cQ d8 jy)⟩
 ·have e:i=n:=by omega
  subst e;exact .inl ⟨w.stop H cQ,hd aM H p⟩
namespace Rd
section
variable {aM:St}{H:Hp}{Q:VK}{D:YS}{K:Frag}
theorem Ze7{n:Nat}{ix:List Nat}{dI:TI}{g:TG}{cV:TT}{cn:TE}(h:dI aM H λJ a1=>∀p,a1 p=none→
 ∃W:Nat→Nat→List V→St→Hp→Prop,(∃m,W 0 m [] (iK n ix aM) (upd a1 p (.lst [])))∧∀i m ys b0 aS,W i m ys b0 aS→
  (J.stop i aS∧Q (.ref p) aS)∨(J.go i aS∧∀x a8,J.yld i aS x a8→g x b0 a8 λcc b1=>cV cc b1 λb b5=>
   if b=true then cn cc b5 λv b9=>b9 p=some (.lst ys)∧ys.length<sizeLine∧∃cq,cq<m∧W (i+1) cq (ys++ [v]) cc (upd b9 p (.lst (ys++ [v])))
   else ∃cq,cq<m∧W (i+1) cq ys cc b5)):qj n ix dI g cV cn aM H Q:=h
theorem Zgl{d6:TA}{R:It→Hp→Prop}(h:d6 aM H λvs a1=>∃a,vs=[.ref a]∧(∃xs,SqL K a1 a xs)∧R (Ite K a) a1):qi K d6 aM H R:=h
theorem ZfP{a:Addr}{xs:List V}{G:Addr→Prop}(h:SqL K H a xs)(q:G a):∃e2,[V.ref a]=[.ref e2]∧(∃xs,SqL K H e2 xs)∧G e2:=⟨a,rfl,⟨xs,h⟩,q⟩
theorem Zhi(h:∀p,H p=none→Q (.ref p) (upd H p (.dK []))):tDNewK aM H Q:=h
theorem Zg2{a:Addr}{kvs:List (Key×V)}{x:Str}(h:H a=some (.dK kvs))(q:Q (.bl (eN kvs (Sum.inr x)).isSome) H):rDIn (.str x) (.ref a) H Q:=⟨a,_,rfl,Wa.k (k:=Sum.inr x) h,q⟩
theorem Zgt{a:Addr}{kvs:List (Key×V)}{x:Str}(h:H a=some (.dK kvs))(q:Q (.bl (!(eN kvs (Sum.inr x)).isSome)) H):rDNotIn (.str x) (.ref a) H Q:=⟨a,_,rfl,Wa.k (k:=Sum.inr x) h,q⟩
theorem ZgB{a:Addr}{kvs:List (Key×V)}{x:Str}{v:V}(h:H a=some (.dK kvs))(e:eN kvs (Sum.inr x)=some v)(q:Q v H):rIxD (.ref a) (.str x) H Q:=⟨a,v,rfl,by rw[←e];exact Wa.k (k:=Sum.inr x) h,q⟩
theorem Zgv{a:Addr}{kvs:List (Key×V)}{x:Str}{v:V}{Q:Hp→Prop}(h:H a=some (.dK kvs))(hl:kvs.length<sizeLine)(q:Q (upd H a (.dK (eU kvs (Sum.inr x) v)))):rSetD (.ref a) (.str x) v H Q:=⟨a,_,rfl,ZaN.k (k:=Sum.inr x) h hl,q⟩
theorem Zhr{a:Addr}{kvs:List (Key×V)}(h:H a=some (.dK kvs))(q:Q (.int kvs.length) H):rLenD [.ref a] H Q:=⟨a,kvs,rfl,h,q⟩
theorem Zgu{a:Addr}{kvs:List (Key×V)}(h:H a=some (.dK kvs))(q:∀l,H l=none→Q (.ref l) (upd H l (.lst (kvs.map λcZ=>kV cZ.1)))):rListD [.ref a] H Q:=⟨a,kvs,rfl,h,q⟩
theorem slT{a:Addr}{xs:List V}{lo bb:Option Int}(h:SqT K H a xs)(hw:¬(HT.sIx xs.length 0 lo=0∧HT.sIx xs.length xs.length bb=xs.length))(q:∀p,H p=none→Q (.ref p) (upd H p (.tup (fZ xs lo bb)))):UM K (.ref a) lo bb H Q:= .inr (.inl ⟨a,xs,rfl,h,hw,q⟩)
theorem Zhb{cr cM hm:R2}{a b:Addr}{xs ys:List V}(bK:SqT K H a xs)(a6:SqT K H b ys)(a_:xs≠[])(bd:ys≠[])(hl:xs.length+ys.length≤sizeLine)(q:∀p,H p=none→Q (.ref p) (upd H p (.tup (xs++ys)))):
  rOr cr (rOr cM (rOr hm (ke K))) (.ref a) (.ref b) H Q:= .inr (.inr (.inr ⟨a,b,xs,ys,rfl,rfl,bK,a6,a_,hl,λz=>absurd z bd,λ_=>q⟩))
end
end Rd
section
variable {X:Cx}
end
section
variable {X:Cx}
end
namespace Rd
end Rd
end L2
namespace L2
open PySem PySem.Spec PySem.W PyProof.Rows Builtin Builtin.ObjectAttr Builtin.Getset_descriptor
def iL(x C:Addr)(h:Heap):Prop:=∃o,h.get? x=some o∧o.cls= .ref C
theorem iL.type{M:Model}{h:Heap}{x C:Addr}(I:iL x C h):Looks M h (typeOf (.ref x)) (.ref C):=by
 obtain⟨o,a_,bd⟩:=I;exact bd▸(Looks.ld a_).andThen .now
structure Z0(K:Frag)(C:Addr):Prop where
 cl:(clsIn K C).isSome=true
 ga:findIn K (.ref C) "__getattribute__" =some (some (.builtin "BaseException.__getattribute__"))
 gk:findIn K (.ref C) "__getattr__" =some none
 ca:findIn K (.ref C) "__class__" =some (some (.builtin "object.__class__"))
 cg:specialIn K (.builtin "object.__class__") "__get__" =some (some (.builtin "getset_descriptor.__get__"))
 ct:takesIn K (.builtin "object.__class__")=some true
 sub:subIn K (.ref C) (.type "BaseException")=some true
 mr:mroIn K C (.type "object")=some true
section
variable {prog:Program}{w:World}{A:Around}{E:Value→Shared→Prop}{s:Shared}{K:Frag}{x C:Addr}
theorem ZdZ{M:Model}{h:Heap}(X:K.In h)(c:Z0 K C):Looks M h (Builtin.ObjectAttr.find (.ref x) (.ref C) "__class__") (.bind (.builtin "getset_descriptor.__get__") (.builtin "object.__class__")):=by
 have lJ:=looks_findIn (M:=M) X c.ca;have L2:Looks M h (Builtin.ObjectAttr.getOf (some (.builtin "object.__class__"))) (some (.builtin "getset_descriptor.__get__")):=looks_specialIn X c.cg;have nB:=looks_takesIn (M:=M) X c.ct;exact lJ.andThen (L2.andThen ((show Looks M h (Builtin.ObjectAttr.dataDescriptor? (some (.builtin "object.__class__")) (some (.builtin "getset_descriptor.__get__"))) (some (.builtin "getset_descriptor.__get__",.builtin "object.__class__")) from nB.andThen .now).andThen (Looks.tag .now)))
theorem uj{dC:Value}{R:Result→Shared→Prop}(X:K.In s.heap)(I:iL x C s.heap)(c:Z0 K C)(h:R (.ok (.ret (.ref C))) s):codeAny (model prog w) A (.call (.builtin "getset_descriptor.__get__") ⟨[.builtin "object.__class__",.ref x,dC],[]⟩) R s:=by
 obtain⟨cw,g,fq,t,os⟩:=s;have kE:=I.type (M:=model prog w);have lJ:=looks_mroIn (M:=model prog w) X c.mr;refine codeAny_call_builtin KF.slot_gs.plain KF.entry_gs (KF.slot_gs.check _ _ _ _ _ _ _ _ KF.type_class (KF.args_gs _ _ _) ?_);unfold Builtin.«getset_descriptor.__get__» descrGet;rw[dga_obj];refine wpAny_bind (wpAny_pure ?_);unfold descrGetter descrCheckInstance descrNameAndClass isInstance;simp only[KF.owner_class]
 repeat lk
 refine⟨Code.quiet_builtin _ (by decide+kernel),codeAny_builtin KF.entry_class ?_⟩;unfold Builtin.«object.__class__» shownTypeOf
 repeat lk
 exact h
theorem Zcw{cW:Tok}{Q:Fin→Shared→Prop}(X:K.In s.heap)(I:iL x C s.heap)(c:Z0 K C)
  (h:Q (.done (.ret (.ref C))) s):wpAny (model prog w) A (Builtin.«object.__getattribute__» ⟨[.ref x,.str "__class__" cW],[]⟩) Q E s:=by
 obtain⟨cw,g,d,t,os⟩:=s;have kE:=I.type (M:=model prog w);have nB:=ZdZ (M:=model prog w) (x:=x) X c;show wpAny _ _ (typeOf (.ref x) >>= _) _ _ _;refine wpAny_bind (kE.at (wpAny_bind (nB.at ?_)));show wpAny _ _ (holding [Value.builtin "object.__class__"] (call (.builtin "getset_descriptor.__get__") [.builtin "object.__class__",.ref x,.ref C]) >>= ret) _ _ _;exact wpAny_bind (wpAny_holding (wpAny_call (uj (s:=⟨cw,g,d,t,os⟩) X I c (wpAny_pure h))))
theorem ZcS{Q:Option Value→Shared→Prop}(X:K.In s.heap)(I:iL x C s.heap)(c:Z0 K C)(h:Q (some (.ref C)) {s with toks:=s.toks+1}):wpAny (model prog w) A (getAttr? (.ref x) "__class__") Q E s:=by
 obtain⟨cw,g,d,t,os⟩:=s;have kE:=I.type (M:=model prog w);have lJ:=looks_findIn (M:=model prog w) X c.ga;have L2:=looks_findIn (M:=model prog w) X c.gk;have uk:Looks (model prog w) cw (isSubtype (.ref C) (.type "BaseException")) true:=looks_subIn X c.sub;have ul:Looks (model prog w) cw (isInstance (.ref x) (.type "BaseException")) true:=kE.andThen uk;unfold getAttr? getAttrBy? getAttrBy;refine wpAny_bind (wpAny_mkText (wpAny_bind (wpAny_attempt (wpAny_holding (wpAny_bind (kE.at (wpAny_bind (lJ.at ?_))))))));show wpAny _ _ (getAttrByItsOwn _ _ _ _ _ _) _ _ _;unfold getAttrByItsOwn hookBefore;refine wpAny_bind (L2.at (wpAny_bind (wpAny_attempt (wpAny_holding ?_))));show wpAny _ _ (bindSpecial _ _ >>= _) _ _ _;rw[F.excAttr_ValueError.ga.bind (.ref x)];refine wpAny_bind (wpAny_pure (wpAny_call (codeAny_call_builtin F.excAttr_ValueError.ga.plain F.entry_bexc_ga ?_)));have bY:builtinKind "BaseException.__getattribute__" =some .slot:=by decide+kernel
 have gd:splitId "BaseException.__getattribute__" =some ("BaseException","__getattribute__"):=by decide+kernel
 have bK:=F.args_bexc_ga (.ref x) (.str "__class__" t);have um:∀(Q:Unit→Shared→Prop)(E:Value→Shared→Prop),Q () ⟨cw,g,d,t+1,os⟩→wpAny (model prog w) A.in1 (checkBuiltinCall "BaseException.__getattribute__" ⟨[.ref x,.str "__class__" t],[]⟩) Q E ⟨cw,g,d,t+1,os⟩:=λQ E gQ=>by
  simp only[checkBuiltinCall,bY,gd];refine wpAny_bind (ul.at ?_);simp only[Bool.not_true,Bool.false_eq_true,if_false];cases uo:Manifest.signature? "BaseException.__getattribute__" with
  |none=>exact wpAny_pure gQ
  |some sig=>
   simp only[argsOk,uo] at bK;have bd:Bind.checkArgs "BaseException.__getattribute__" sig ⟨[.ref x,.str "__class__" t],[]⟩=pure ():=bK;show wpAny _ _ (Bind.checkArgs "BaseException.__getattribute__" sig ⟨[.ref x,.str "__class__" t],[]⟩) Q E _;rw[bd];exact wpAny_pure gQ
 refine um _ _ ?_;refine Zcw (s:=⟨cw,g,d,t+1,os⟩) (A:=A.in1) X I c ?_;exact handed_on rfl (wpAny_pure h)
theorem qo(c:Z0 K C):KitX K (.ref x) (.ref C) (iL x C) where
 ty:=λ_ _ _ I=>I.type
 it:=λ_ _ X _=>by
  obtain⟨up,hn⟩:=QZ.mp c.cl;unfold clsIn at hn
  split at hn
  ·rename_i c2 d' cd' jT bW;intro A' jW E' s' k q;unfold isType loadHead;exact wpAny_bind (wpAny_loadPart (k _ _ (X _ _ bW)) (wpAny_pure q))
  ·cases hn
 ne:=λh dC dd its n sl X f8=>by
  obtain⟨up,hn⟩:=QZ.mp c.cl;refine Bool.eq_false_iff.mpr λq=>?_;have e:C=dC:=Value.ref.inj (beq_iff_eq.mp q);subst e;unfold clsIn at hn
  split at hn
  ·rename_i c2 d' cd' jT bW;have z:=(X _ _ bW).symm.trans f8;cases z
  ·cases hn
 ca:=λX I k=>ZcS X I c k
end
noncomputable def dy (x C:Addr):HO:= .ext (iL x C)
section
variable {X:Cx}
noncomputable def nC (K:Frag):List V→Hp→VK→Prop:=λxs H Q=>∃(x C:Addr)(c:V)(u:Value)(b:Bool),xs=[.ref x,c]∧H x=some (dy x C)∧Z0 K C∧(∀v,cu c v→v=u)∧kitOne K (.ref C) u=some b∧Q (.bl b) H
theorem iM{K:Frag}(e:X.K=K):Yc X (.builtin "isinstance") (nC K):=by
 subst e;intro aU s aM H xs us Q I r h;obtain⟨x,C,c,u,b,rfl,bc,e5,hu,bY,q⟩:=h;cases r with
 |cons cr hh=>
  obtain⟨v,rfl,c7⟩:=Y2 hh;cases (show _=Value.ref x from cr);have hU:=hu v c7;subst hU;obtain⟨nD,_,_⟩:=(show ZF X.prog X.w H s.heap x (dy x C) from I.hok x _ bc);exact kia_one (qo e5) I.kIn nD bY (λz=>nomatch z) λcW=>⟨.bl b,H,I.tok cW,rfl,q⟩
end
end L2
namespace L2
open PySem PySem.Spec PyProof.Rows
section
variable {X:Cx}{aU:List (Addr×Obj)}{aM:List (Option V)}{H:Hp}{s:Shared}
theorem Inv.track{bR:Addr}{o:HO}(I:Inv X aU aM H s)(du:∀cD,X.s₀.heap.get? bR=some cD→bR∈X.ex)(fK:bR≠X.env.locals)(bH:∀x c,X.env.cells.lookup x=some c→c≠bR)(b3:∀p∈X.pn++aU,p.1≠bR)(bM:H bR=none)
  (new:ZF X.prog X.w (upd H bR o) s.heap bR o):Inv X aU aM (upd H bR o) s:=by
 refine⟨I.ok,I.os,I.bare,⟨I.base.keep,I.base.slot,λb cD e n bc=>?_,I.base.there,λb xs e=>?_,λb cD u e=>?_,λb bP e=>?_⟩,I.loc,I.cell,?_,λx c e=>?_,λp lK=>?_,λb u e=>?_,I.len⟩
 ·rw[cm (λz=>bc (by rw[z];exact du cD (by rw[←z];exact e)))];exact I.base.free b cD e n bc
 ·rw[cm (dQ (I.base.tups b xs e) bM)];exact I.base.tups b xs e
 ·rw[cm (dQ (I.base.frzs b cD u e) bM)];exact I.base.frzs b cD u e
 ·obtain⟨more,q⟩:=I.base.tbls b bP e;exact⟨more,by rw[cm (dQ q bM)];exact q⟩
 ·rw[cm (Q8 fK)];exact I.free
 ·rw[cm (bH x c e)];exact I.freeC x c e
 ·obtain⟨a,b,r⟩:=I.pin p lK;exact⟨a,by rw[cm (b3 p lK)];exact b,r⟩
 ·by_cases a6:b=bR
  ·subst a6;rw[Zd] at e;cases e;exact new
  ·rw[cm a6] at e;exact(I.hok b u e).stay (λc v _ q=>q) (λc q=>by rw[cm (dQ q bM)];exact q) λc xs q=>by rw[cm (dQ q bM)];exact q
theorem Inv.dropName{h':Heap}{t':Nat}{j:Nat}{n:Str}{m:Str→Option Value}{v:Option Value}(I:Inv X aU aM H s)(dZ:X.N.Nodup)(cN:X.N[j]? =some n)(bN:Heap.SameBut X.env.locals s.heap h')
  (bZ:∀(i:Nat) x w,X.N[i]? =some x→aM[i]? =some (some w)→Vis X.env.scope x→∃u,cu w u∧ZfM X.env s.heap m x u) (bM:h'.Ns X.env.locals (λx=>if x=n then v else m x)):Inv X aU (aM.set j none) H {s with heap:=h',toks:=t'}:=by
 have i3:∀b o,X.s₀.heap.get? b=some o→b≠X.env.locals:=λb o e=>Ql (Qi (Heap.lt_size e) I.ok.above);have k:∀b o,b≠X.env.locals→s.heap.get? b=some o→h'.get? b=some o:=λb o a6 e=>(bN.2 b a6).trans e;refine⟨I.ok,I.os,I.bare,⟨λb o e eJ a6 bc=>k b o (i3 b o e) (I.base.keep b o e eJ a6 bc),λb o e eJ a6 bc=>?_,I.base.free,λb o e bc=>?_,I.base.tups,I.base.frzs,I.base.tbls⟩,⟨_,bM,λi x w b2 ci et=>?_⟩,λx c e=>?_,I.free,I.freeC,λp b3=>?_,λb u e=>?_,by rw[List.length_set];exact I.len⟩
 ·obtain⟨sl,q⟩:=I.base.slot b o e eJ a6 bc;exact⟨sl,k b _ (i3 b o e) q⟩
 ·obtain⟨o',q⟩:=I.base.there b o e bc;exact⟨o',k b o' (i3 b o e) q⟩
 ·by_cases nE:i=j
  ·subst nE;have:(aM.set i none)[i]? =some none∨(aM.set i none)[i]? =none:=by
    rcases Nat.lt_or_ge i aM.length with z|z
    ·exact .inl (by rw[QR z])
    ·exact .inr (List.getElem?_eq_none (by rw[List.length_set];exact z))
   rcases this with z|z<;>(rw[z] at ci;cases ci)
  ·rw[Q7 (λz=>nE z.symm)] at ci;obtain⟨u,r,l⟩:=bZ i x w b2 ci et;have nx:x≠n:=λz=>nE (me dZ (by rw[b2,z]) cN);refine⟨u,r,?_⟩;rcases l with⟨a,b⟩|⟨a,c,e,o,bW,hd⟩
   ·exact .inl ⟨a,by simp only[if_neg nx];exact b⟩
   ·exact .inr ⟨a,c,e,o,k c o (I.cne x c e) bW,hd⟩
 ·obtain⟨w,o,bW,hd⟩:=I.cell x c e;exact⟨w,o,k c o (I.cne x c e) bW,hd⟩
 ·obtain⟨a,b,c,r⟩:=I.pin p b3;exact⟨k _ _ c a,b,c,r⟩
 ·refine(I.hok b u e).stay (λc gP bH q=>k c gP ?_ q) (λ_ q=>q) λ_ _ q=>q;rcases bH with z|z
  ·rw[z];exact dQ e I.free
  ·exact dQ z I.free
end
section
variable {X:Cx}
noncomputable def qp (K:Frag) (c:Value) (j:Nat) (cp:(St→Prop)→XK→TS) (e':TS):TS:=λD aM H=>∃(J:St→Prop)(f7:XK),cp J f7 D aM H∧∀b0 cls aS,J b0→f7 cls none aS→exmOne K cls c=some true∧∃C,cls= .ref C∧∀bR,aS bR=none→
 e' {D with nx:=λcc a8=>D.nx (cc.set j none) a8,bk:=λcc a8=>D.bk (cc.set j none) a8,ct:=λcc a8=>D.ct (cc.set j none) a8} (b0.set j (some (.ref bR))) (upd aS bR (dy bR C))
theorem uq{n:Str}{j:Nat}{body:List Stmt}{nF:Stmt}{kA:List Stmt}{x:Str}{jr hpos pos:Pos}{cp:(St→Prop)→XK→TS}{e':TS}{C:Addr}
  (eZ:X.stack=X.env::X.outer) (fC:X.env.frame=some X.env.locals) (cs:Gl X x) (bZ:X.mg x=some (.ref C)) (a6:ZgJ X body cp) (bN:Zfr X (nF::kA) e') (dZ:X.N.Nodup) (cN:X.N[j]? =some n) (jz:X.env.scope.names.lookup n=some .local) (e_:(x==("__debug__" :Str))=false:=by decide):
  PS X (.Try body [.ExceptHandler (some (.Name x jr)) (some n) (nF::kA) hpos] [] [] pos) (qp X.K (.ref C) j cp e'):=by
 intro aU s aM H D I h;obtain⟨J,f7,g8,cw⟩:=h;have ur:X.A.frames=some (X.env::X.outer):=by rw[I.ok.frames,eZ]
 refine wpAny_Try_except ?_
 let hA:Value→Shared→Prop:=λe cX=>wpAny (model X.prog X.w) X.A (noteFrame e X.env) (λ_ hN=>wpAny (model X.prog X.w) X.A (setFlight e none) (λ_ gv=>wpAny (model X.prog X.w) X.A (handleBy e X.env [.ExceptHandler (some (.Name x jr)) (some n) (nF::kA) hpos]) (SP X aU D) X.xe gv) X.xe hN) X.xe cX
 have own:PassesOwn (model X.prog X.w) X.A X.env hA:=PassesOwn.looking;have kF:∀{xe:Value→Shared→Prop}{i5:List (Addr×Obj)}{b0:St}{aS:Hp}{s':Shared},Inv {X with pn:=X.pn++aU,xe:=xe} i5 b0 aS s'→Inv X aU b0 aS s':=λ{xe i5 b0 aS s'} J=>by
  have o:=J.ok;exact⟨⟨o.mod,o.kind,o.glob,o.blt,o.above,o.inj,o.has,o.cab,o.hd,o.frames,o.stk,o.exf,o.bs,o.bsz,o.noex,o.exfs,o.funs,o.frf⟩,J.os,J.bare,J.base,J.loc,J.cell,J.free,J.freeC,λp b3=>J.pin p (QU _ b3),J.hok,J.len⟩
 have ut:Inv {X with pn:=X.pn++aU,xe:=hA} [] aM H s:=by
  have o:=I.ok;exact⟨⟨o.mod,o.kind,o.glob,o.blt,o.above,o.inj,o.has,o.cab,o.hd,o.frames,o.stk,o.exf,o.bs,o.bsz,o.noex,o.exfs,o.funs,o.frf⟩,I.os,I.bare,I.base,I.loc,I.cell,I.free,I.freeC,λp b3=>I.pin p (by simpa using b3),I.hok,I.len⟩
 have uu:Vu (CXX X.prog X.w) {X with pn:=X.pn++aU,xe:=hA} J f7:=by
  intro i5 b0 a1 bj e s' nr bU hcx;obtain⟨bR,cls,a0,aS,B,rfl,os,bare,un,ok,ed,e4,q⟩:=hcx;have dv:=kF bU;obtain⟨uv,lL,rfl,uw⟩:=cw b0 cls aS nr q;have ux:Heap.FlyingW B (X.env::X.outer) bR (.ref lL) a0 s'.heap:=by rw[←eZ];exact ed
  show wpAny _ _ _ _ _ _;refine wpAny_looks_onW ur fC ux λpQ held₄ qq=>?_;refine wpAny_landsW held₄ λm2 fl₅ qr=>?_;have there:∀{cR:Heap},Heap.FlyingW B (X.env::X.outer) bR (.ref lL) a0 cR→s'.heap.UpToSlots cR→Inv X aU b0 aS {s' with heap:=cR}:=λ{cR} lM sl=>by
   have uy:Un (frs X.stack) [] a1 aS bj.heap cR:=un.fly e4 lM.1 sl (λb a6 o e=>by
    obtain⟨_,o',b6,d⟩:=dv.stack.mem a6;rw[e] at b6;cases b6;exact d) dv.stkFree
   exact dv.call' (s':={s' with heap:=cR}) os uy (ok.stays (λb o e n=>e4 b o e (.inl n)) lM.1) bare (λb z=>absurd z (by simp))
  have qt:∀{dq:Shared},Inv X aU b0 aS dq→Inv {X with A:=X.A.mark (some (.ref bR)),calm:=false,xe:=λ_ _=>False} aU b0 aS dq:=λ{dq} J=>by
   have o:=J.ok;exact⟨⟨o.mod,o.kind,o.glob,o.blt,o.above,o.inj,o.has,o.cab,λz=>absurd (show false=true from z) Qb,o.frames,o.stk,o.exf,o.bs,o.bsz,o.noex,o.exfs,o.funs,o.frf⟩,J.os,J.bare,J.base,J.loc,J.cell,J.free,J.freeC,J.pin,J.hok,J.len⟩
  have fx:=qt (there fl₅ (qq.trans qr));refine wpAny_handleBy_cons (codeAny_handlers_test ?_) (by intro q;cases q);refine jX fx cs bZ ?_ e_;obtain⟨cD,uz,uA⟩:=fl₅.there;have LT:PySem.W.Looks (model X.prog X.w) m2 (typeOf (.ref bR)) (.ref lL):=by
   exact uA▸(PySem.W.Looks.ld uz).andThen .now
  refine(PySem.W.exm_one fx.kIn LT uv).here ?_;refine codeAny_handlers_suite_as ?_;refine lands_againW fl₅ λz0 fl₆ uB=>?_;have eS:=qt (there fl₆ ((qq.trans qr).trans uB));obtain⟨qu,he,z1⟩:=ed.there;have gB:∀b o,bj.heap.get? b=some o→b≠bR:=λb o e z=>by
   subst z
   by_cases cj:b∈frs X.stack
   ·obtain⟨_,o',b6,d⟩:=dv.stack.mem cj;obtain⟨sl,eY⟩:=un.any b6 (dv.stkFree b cj) (by simp);obtain⟨z2,vs,qv,_,uC,_⟩:=ed.first;rw[eY] at qv;cases qv;exact d vs uC
   ·have:=e4 b qu he (.inr ⟨⟨o,e⟩,cj⟩);rw[ed.2.1] at this;cases this
  have g7:aS bR=none:=by
   cases e:aS bR with
   |none=>rfl
   |some o=>
    have:=e4 bR qu he (.inl (by rw[e];simp));rw[ed.2.1] at this;cases this
  have du:∀cD,X.s₀.heap.get? bR=some cD→bR∈X.ex:=λcD e=>by
   by_cases bc:bR∈X.ex
   ·exact bc
   ·obtain⟨o',eY⟩:=dv.base.there bR cD e bc;exact absurd rfl (gB bR o' eY)
  obtain⟨qw,qx,uD⟩:=fl₆.there;have e9:=Inv.track (o:=dy bR lL) eS du (λz=>by
   obtain⟨m,⟨o,bS,ep,bW,_⟩,_⟩:=dv.loc;exact gB _ o bW z.symm) (λy c e=>by
   obtain⟨v,o,bW,_⟩:=dv.cell y c e;exact gB c o bW) (λhS lK=>gB _ _ (dv.pin hS lK).1) g7 ⟨⟨qw,qx,uD⟩,⟨qw,qx⟩,λa_ bd ⟨o,dk,a2⟩ k=>⟨o,k o dk,a2⟩⟩
  refine li (X:={X with A:=X.A.mark (some (.ref bR)),calm:=false,xe:=λ_ _=>False}) e9 dZ cN (.inl jz) (show cu (.ref bR) (.ref bR) from rfl) (λd3 ks=>?_) (.inr jz);refine wpAny_mono (bN (X.A.mark (some (.ref bR))) aU d3 _ _ _ ks (uw bR g7)) (λf bQ bd=>?_) λ_ _ z=>False.elim z;have lN:∀{cc:St}{a8:Hp}{bQ:Shared},Inv {X with A:=X.A.mark (some (.ref bR)),calm:=false,xe:=λ_ _=>False} aU cc a8 bQ→Inv X aU cc a8 bQ:=λ{cc a8 bQ} J=>by
   have o:=J.ok;exact⟨⟨o.mod,o.kind,o.glob,o.blt,o.above,o.inj,o.has,o.cab,I.ok.hd,I.ok.frames,o.stk,o.exf,o.bs,o.bsz,o.noex,o.exfs,o.funs,o.frf⟩,J.os,J.bare,J.base,J.loc,J.cell,J.free,J.freeC,J.pin,J.hok,J.len⟩
  have lO:∀{cc:St}{a8:Hp}{bQ:Shared}{Q:Unit→Shared→Prop},Inv X aU cc a8 bQ→(∀bV,Inv X aU (cc.set j none) a8 bV→Q () bV)→wpAny (model X.prog X.w) X.A (do bindName X.env n .none;unbindBehindTheSuite X.env n hpos) Q X.xe bQ:=λ{cc a8 bQ Q} J b7=>by
   refine wpAny_bind (wpAny_bindName (li (u:= .none) J dZ cN (.inl jz) (show cu .non .none from rfl) (λbV gC=>?_) (.inr jz)));obtain⟨m,bM,hl⟩:=gC.loc;have mf:(X.env.scope.kind== .class||(X.env.scope.kind== .module&&X.env.locals != X.env.globals))=false:=by rw[gC.ok.kind];rfl
   have qy:X.env.kindOf n=some .local:=jz;unfold unbindBehindTheSuite;refine wpAny_onRaise ?_;unfold unbindName;refine wpAny_bind (wpAny_point (wpAny_bind ?_));unfold deleteName;simp only[qy,mf];rw[if_neg (by decide)];refine wpAny_bind (wpAny_nsDel_keeps bM λm1 v hn₂ uE=>?_);have qz:Inv X aU ((cc.set j (some .non)).set j none) a8 {bV with heap:=m1,toks:=bV.toks}:=gC.dropName dZ cN uE hl hn₂;rw[List.set_set] at qz;have uF:j<cc.length:=by rw[J.len];exact(QB.mp cN).1
   have uG:(m n).isSome=true:=by
    obtain⟨u,r,l⟩:=hl j n .non cN (by rw[QR uF]) (.inl jz);rcases l with⟨_,b⟩|⟨a,_⟩
    ·rw[b];rfl
    ·rcases a with a|a<;>(rw[qy] at a;cases a)
   rw[uG];simp only[if_true,Bool.not_true,Bool.false_eq_true,if_false];exact wpAny_pure (wpAny_point (b7 _ qz))
  show wpAny (model X.prog X.w) X.A (do bindName X.env n .none;unbindBehindTheSuite X.env n hpos) (λ_ gv=>SP X aU D f gv) X.xe bQ;cases f with
  |next=>obtain⟨cc,a8,fF,cv⟩:=bd;exact lO (lN fF) λbV gC=>⟨_,a8,gC,cv⟩
  |brk=>obtain⟨cc,a8,fF,cv⟩:=bd;exact lO (lN fF) λbV gC=>⟨_,a8,gC,cv⟩
  |cont=>obtain⟨cc,a8,fF,cv⟩:=bd;exact lO (lN fF) λbV gC=>⟨_,a8,gC,cv⟩
  |ret u=>obtain⟨v,cc,a8,fF,cM,cv⟩:=bd;exact lO (lN fF) λbV gC=>⟨v,_,a8,gC,cM,cv⟩
 refine wpAny_mono (a6 J f7 (X.pn++aU) hA own uu [] s aM H D ut g8) (λf bj a_=>?_) λe bj a_=>a_;cases f with
 |next=>
  obtain⟨cc,a8,fF,cv⟩:=a_;show wpAny _ _ (execs [] X.env) _ _ _;exact wpAny_pure ⟨cc,a8,kF fF,cv⟩
 |brk=>obtain⟨cc,a8,fF,cv⟩:=a_;exact⟨cc,a8,kF fF,cv⟩
 |cont=>obtain⟨cc,a8,fF,cv⟩:=a_;exact⟨cc,a8,kF fF,cv⟩
 |ret u=>obtain⟨v,cc,a8,fF,cM,cv⟩:=a_;exact⟨v,cc,a8,kF fF,cM,cv⟩
end
namespace Rd
section
variable {aM:St}{H:Hp}{Q:VK}{K:Frag}
theorem Zgw{c:Value}{j:Nat}{cp:(St→Prop)→XK→TS}{e':TS}{D:YS}(f7:XK)(a6:cp (λs=>s=aM) f7 D aM H)(cw:∀cls aS,f7 cls none aS→exmOne K cls c=some true∧∃C,cls= .ref C∧∀bR,aS bR=none→
  e' {D with nx:=λcc a8=>D.nx (cc.set j none) a8,bk:=λcc a8=>D.bk (cc.set j none) a8,ct:=λcc a8=>D.ct (cc.set j none) a8} (aM.set j (some (.ref bR))) (upd aS bR (dy bR C))):qp K c j cp e' D aM H:=
 ⟨λs=>s=aM,f7,a6,λ_ cls aS e h=>e▸cw cls aS h⟩
theorem ZgL{x C B:Addr}{b:Bool}(h:H x=some (dy x C))(e5:Z0 K C)(k:PySem.W.kitOne K (.ref C) (.ref B)=some b)(q:Q (.bl b) H):nC K [.ref x,.ref B] H Q:=⟨x,C,.ref B,.ref B,b,rfl,h,e5,λv r=>r,k,q⟩
theorem Zhf{x C:Addr}{n:String}{b:Bool}(h:H x=some (dy x C))(e5:Z0 K C)(k:PySem.W.kitOne K (.ref C) (.type n)=some b)(q:Q (.bl b) H):nC K [.ref x,.ty n] H Q:=⟨x,C,.ty n,.type n,b,rfl,h,e5,λv r=>r,k,q⟩
end
end Rd
theorem ZcZ{K:Frag}{C:Addr}{bm:List Value}{n:String}(h:excIn K C bm n=true):(PySem.W.clsIn K C).isSome=true:=by
 unfold excIn at h
 split at h
 ·rename_i dd cE sl bW;unfold PySem.W.clsIn;rw[bW]
  rfl
 ·cases h
end L2
namespace L2
open PySem PySem.Spec PySem.W PyProof.Rows
section
variable {X:Cx}
noncomputable def qA (K:Frag):List V→Hp→VK→Prop:=λxs H Q=>∃(x p C A B:Addr)(a b:Bool),xs=[.ref x,.ref p]∧H x=some (dy x C)∧Z0 K C∧H p=some (.tup [.ref A,.ref B])∧kitOne K (.ref C) (.ref A)=some a∧kitOne K (.ref C) (.ref B)=some b∧Q (.bl (a||b)) H
theorem uH{K:Frag}(e:X.K=K):Yc X (.builtin "isinstance") (qA K):=by
 subst e;intro aU s aM H xs us Q I r h;obtain⟨x,p,C,A,B,a,b,rfl,bc,e5,b3,bK,a6,q⟩:=h;obtain⟨u,v,rfl,ew,c7⟩:=r.two;cases ew;cases c7;obtain⟨nD,_,_⟩:=(show ZF X.prog X.w H s.heap x (dy x C) from I.hok x _ bc);obtain⟨_,ho,uI,pt⟩:=(show ZF X.prog X.w H s.heap p (.tup [.ref A,.ref B]) from I.hok p _ b3);obtain⟨uJ,bd,c1,fN,nG⟩:=pt;obtain⟨h2,fr,rfl,cr,cM⟩:=uI.two;obtain rfl:h2=Value.ref A:=cr;obtain rfl:fr=Value.ref B:=cM;obtain⟨cls,dd,z3,sl⟩:=uJ;dsimp only at c1 nG;subst c1 nG;exact kia_tup (its:=[Value.ref A,Value.ref B]) (qo e5) I.kIn nD bd (b:=(a||b)) (by cases a<;>cases b<;>simp[kitAny,bK,a6]) (λz=>nomatch z) λcW=>⟨.bl (a||b),H,I.tok cW,rfl,q⟩
end
namespace Rd
theorem US{K:Frag}{H:Hp}{Q:VK}{x p C A B:Addr}{a b:Bool}(h:H x=some (dy x C))(e5:Z0 K C)(b3:H p=some (.tup [.ref A,.ref B]))(bK:kitOne K (.ref C) (.ref A)=some a)(a6:kitOne K (.ref C) (.ref B)=some b)(q:Q (.bl (a||b)) H):qA K [.ref x,.ref p] H Q:=⟨x,p,C,A,B,a,b,rfl,h,e5,b3,bK,a6,q⟩
end Rd
end L2
namespace L2
open PySem PySem.Spec PySem.W PyProof.Rows
section
variable {X:Cx}
end
namespace Rd
end Rd
end L2
namespace L2
open PySem PySem.Spec PyProof.Rows
section
variable {X:Cx}{a b c d:Expr}{bO cp cV hq:TE}{pos:Pos}
noncomputable def qB (r cz iN:R2) (bO cp cV hq:TE):TE:=λaM H Q=>bO aM H λx a1=>cp aM a1 λy a8=>r x y a8 λz b1=>∃k,z= .bl k∧
 (if k=true then cV aM b1 λdz b5=>cz y dz b5 λgh b9=>∃k2,gh= .bl k2∧(if k2=true then hq aM b9 λgP ec=>iN dz gP ec Q else Q (.bl false) b9) else Q (.bl false) b1)
theorem uK{op gn nH:CmpOp}{r cz iN:R2}(bW:OpR X (compareOp op) r)(fU:OpR X (compareOp gn) cz)(uL:OpR X (compareOp nH) iN)(bK:PE X a bO)(a6:PE X b cp)(bH:PE X c cV)(hd:PE X d hq)
  (bZ:lastMarks [op,gn,nH] [b,c,d]=false:=by with_unfolding_all rfl):PE X (.Compare a [op,gn,nH] [b,c,d] pos) (qB r cz iN bO cp cV hq):=by
 intro aU s aM H Q I h;refine Compare_chain (thn (bK aU s aM H _ I h) λv bj ⟨x,a1,bU,cr,ck⟩=>chain_link (thn (a6 aU bj aM a1 _ bU ck) λu bQ ⟨y,a8,cF,cM,cv⟩=>
  thn (bW aU bQ aM a8 x y v u _ cF cr cM cv) λd bV ⟨z,b1,dA,hm,k,e,d2⟩=>?_)) bZ
 subst e;cases hm;refine wpAny_truthy_bool ?_;cases k with
 |false=>exact ite_ff ⟨.bl false,b1,dA,rfl,d2⟩
 |true=>
  refine ite_tt (chain_link (thn (bH aU bV aM b1 _ dA d2) λdz c5 ⟨eu,b5,hj,jg,fX⟩=>thn (fU aU c5 aM b5 y eu u dz _ hj cM jg fX) λd' cK ⟨gh,b9,fx,il,k2,ci,e1⟩=>?_));subst ci;cases il;refine wpAny_truthy_bool ?_;cases k2 with
  |false=>exact ite_ff ⟨.bl false,b9,fx,rfl,e1⟩
  |true=>exact ite_tt (chain_last (thn (hd aU cK aM b9 _ fx e1) λi8 dq ⟨uM,ec,eS,uN,mo⟩=>uL aU dq aM ec eu uM dz i8 Q eS jg uN mo))
end
namespace Rd
theorem Zfz{aM:St}{H:Hp}{Q:VK}{r cz iN:R2}{bO cp cV hq:TE}(h:bO aM H λx a1=>cp aM a1 λy a8=>r x y a8 λz b1=>∃k,z= .bl k∧
 (if k=true then cV aM b1 λdz b5=>cz y dz b5 λgh b9=>∃k2,gh= .bl k2∧(if k2=true then hq aM b9 λgP ec=>iN dz gP ec Q else Q (.bl false) b9) else Q (.bl false) b1)):qB r cz iN bO cp cV hq aM H Q:=h
end Rd
section
variable {X:Cx}{K:Frag}
noncomputable def rMulS:R2:=λx y H Q=>∃(z:Str)(n:Int),x= .str z∧y= .int n∧MulOk z n∧Q (.str (Txt.mul z n)) H
theorem nI:OpR X (binaryOp .Mult) rMulS:=by
 intro aU s aM H x y v u Q I bL bX h;obtain⟨z,n,rfl,rfl,ok,q⟩:=h;obtain⟨t,rfl⟩:=bL;obtain⟨t',rfl⟩:=bX;exact SB.mul ok λt' k=>⟨.str _,H,I.tok _,⟨_,rfl⟩,q⟩
end
namespace Rd
section
variable {aM:St}{H:Hp}{Q:VK}{K:Frag}
theorem Zf8{z:Str}{n:Int}(h:MulOk z n)(q:Q (.str (Txt.mul z n)) H):rMulS (.str z) (.int n) H Q:=⟨z,n,rfl,rfl,h,q⟩
end
end Rd
section
variable {X:Cx}
noncomputable def rIsB:R2:=λx y H Q=>∃a b:Bool,x= .bl a∧y= .bl b∧Q (.bl (decide (a=b))) H
theorem uO:OpR X (compareOp .Is) rIsB:=by
 intro aU s aM H x y v u Q I bL bX h;obtain⟨a,b,rfl,rfl,q⟩:=h;cases bL;cases bX;refine wpAny_is_plain (by cases a<;>cases b<;>rfl) (dE I q ?_);cases a<;>cases b<;>rfl
end
theorem Rd.isB{H:Hp}{Q:VK}{a b:Bool}(q:Q (.bl (decide (a=b))) H):rIsB (.bl a) (.bl b) H Q:=⟨a,b,rfl,rfl,q⟩
end L2
namespace My
end My
set_option Elab.async false
set_option linter.all false
set_option maxRecDepth 100000
set_option maxHeartbeats 4000000
local macro_rules| `(tactic|omega)=>`(tactic|with_reducible first|exact Int.natCast_nonneg _|exact L2.oA (by assumption) (by assumption)|exact L2.oB (by assumption) (by assumption) rfl|exact L2.oC (by assumption) (by assumption) rfl|exact L2.oD (by assumption) rfl|exact L2.oE (by assumption) (by assumption)|exact L2.oF (by assumption)|lia|fail)
local macro_rules| `(tactic|walk_at "mul")=>`(tactic|k_dflt (first|with_reducible assumption|exact L2.Zcp.ok (Or.inr ⟨by omega,by omega⟩)|exact L2.Zcp.ok (Or.inl ⟨by omega,by omega⟩)))
local macro_rules| `(tactic|walk_at "lk")=>`(tactic|first|exact L2.Rd.lk0|exact L2.Rd.lkN|(refine L2.Rd.lk1 (by decide+kernel) ?_;walk_at "lk"))
local macro_rules| `(tactic|walk_at "pf")=>`(tactic|first|exact L2.Rd.pfN|(apply L2.Rd.pf1;(decide+kernel);walk_at "pf"))
local macro_rules| `(tactic|walk_at "na")=>`(tactic|exact L2.Y1.get (by with_reducible assumption) (by decide+kernel))
local macro_rules| `(tactic|walk_at "cond")=>`(tactic|k_dflt (first|with_reducible assumption|decide|omega|(simp;done)|(simp only[List.length_cons,List.length_nil,Qe,Qg];omega)))
local macro_rules| `(tactic|walk_at "rdis")=>`(tactic|((with_reducible show ∃x n t b,_=_∧L2.Yh _ _ x t∧_);first|with_reducible apply L2.Rd.Zcu|with_reducible apply L2.Rd.Zbq|with_reducible apply L2.Rd.is_int_str|with_reducible apply L2.Rd.is_int_list|with_reducible apply L2.Rd.is_int_tuple|with_reducible apply L2.Rd.is_int_dict|with_reducible apply L2.Rd.is_bl_int|with_reducible apply L2.Rd.ZbR|with_reducible apply L2.Rd.is_bl_str|with_reducible apply L2.Rd.is_bl_list|with_reducible apply L2.Rd.is_bl_tuple|with_reducible apply L2.Rd.is_bl_dict|with_reducible apply L2.Rd.is_str_int|with_reducible apply L2.Rd.is_str_bool|with_reducible apply L2.Rd.Zb8|with_reducible apply L2.Rd.is_str_list|with_reducible apply L2.Rd.is_str_tuple|with_reducible apply L2.Rd.is_str_dict|with_reducible apply L2.Rd.is_non_int|with_reducible apply L2.Rd.is_non_bool|with_reducible apply L2.Rd.is_non_str|with_reducible apply L2.Rd.is_non_list|with_reducible apply L2.Rd.is_non_tuple|with_reducible apply L2.Rd.is_non_dict|with_reducible refine L2.Rd.is_lst_int (by with_reducible assumption) ?_|with_reducible refine L2.Rd.is_lst_bool (by with_reducible assumption) ?_|with_reducible refine L2.Rd.is_lst_str (by with_reducible assumption) ?_|with_reducible refine L2.Rd.is_lst_list (by with_reducible assumption) ?_|with_reducible refine L2.Rd.is_lst_tuple (by with_reducible assumption) ?_|with_reducible refine L2.Rd.is_lst_dict (by with_reducible assumption) ?_|with_reducible refine L2.Rd.is_tup_int (by with_reducible assumption) ?_|with_reducible refine L2.Rd.is_tup_bool (by with_reducible assumption) ?_|with_reducible refine L2.Rd.is_tup_str (by with_reducible assumption) ?_|with_reducible refine L2.Rd.is_tup_list (by with_reducible assumption) ?_|with_reducible refine L2.Rd.is_tup_tuple (by with_reducible assumption) ?_|with_reducible refine L2.Rd.is_tup_dict (by with_reducible assumption) ?_|with_reducible refine L2.Rd.is_dK_int (by with_reducible assumption) ?_|with_reducible refine L2.Rd.is_dK_bool (by with_reducible assumption) ?_|with_reducible refine L2.Rd.is_dK_str (by with_reducible assumption) ?_|with_reducible refine L2.Rd.is_dK_list (by with_reducible assumption) ?_|with_reducible refine L2.Rd.is_dK_tuple (by with_reducible assumption) ?_|with_reducible refine L2.Rd.is_dK_dict (by with_reducible assumption) ?_))
local macro_rules| `(tactic|walk_at "side")=>`(tactic|k_dflt (first|with_reducible assumption|decide|(dsimp only;decide)|(dsimp only[L2.ZfW];decide)|omega|(dsimp only;omega)))
local macro_rules| `(tactic|walk_at "hp")=>`(tactic|with_reducible (first|assumption|((show L2.SqL _ _ _ _);(first|exact L2.SqL.of (by assumption)|exact L2.Yq.sq (by assumption)|exact L2.Ze.seq (by assumption) (by assumption)))|((show L2.SqT _ _ _ _);(first|exact L2.SqT.of (by assumption)|exact L2.OffT.sq (by assumption)|exact L2.Ze.seqT (by assumption) (by assumption)))))
local macro_rules| `(tactic|walk_at "rd")=>`(tactic|first|with_reducible (first|apply L2.Rd.seq|apply L2.Rd.asg|apply L2.Rd.ret|apply L2.Rd.ifs|apply L2.Rd.next|apply L2.Rd.drop|apply L2.Rd.op|apply L2.Rd.un|apply L2.Rd.Zhg|apply L2.Rd.con|(show L2.Zb0 _ _ _ _;refine L2.Rd.var (by k_dflt rfl) ?_)|(show L2.WM _ _ _ _ _;refine L2.Rd.ZgC (by k_dflt (dsimp only[L2.start,List.map_cons,List.map_nil,List.cons_append,List.nil_append,List.length_cons,List.length_nil,Nat.reduceAdd,Nat.reduceSub,List.replicate,List.set];(try rfl))) ?_)|apply L2.Rd.call|apply L2.Rd.cons|apply L2.Rd.nil|apply L2.Rd.cb|apply L2.Rd.tup|apply L2.Rd.lst|apply L2.Rd.Zhn|apply L2.Rd.or_|apply L2.Rd.Zg9|apply L2.Rd.ZgI|apply L2.Rd.orV|apply L2.Rd.ZgZ|apply L2.Rd.i0|(show L2.rI _ _ _ _ _ _;refine L2.Rd.iC (by walk_at "side") ?_)|apply L2.Rd.bl|apply L2.Rd.ZgS|(show L2.rOr L2.ZbQ _ _ _ _ _;refine L2.Rd.Zg3 (by walk_at "mul") ?_)|apply L2.Rd.ZgT|apply L2.Rd.Zho|apply L2.Rd.ZgO|(show L2.rOr _ (L2.rOr L2.UB _) (L2.V.str _) (L2.V.str _) _ _;refine L2.Rd.ZdL (by walk_at "side") ?_)|(show L2.rIx _ _ _ _ _;refine L2.Rd.Zg1 (by walk_at "hp") (by k_dflt rfl) ?_)|(show L2.rIx _ _ _ _ _;refine L2.Rd.Zha (by walk_at "hp") (by k_dflt (first|rfl|with_reducible assumption)) ?_)|apply L2.Rd.un1|(show ∃k,[L2.V.int _]=[L2.V.int k]∧_;refine L2.Rd.Zgc (by k_dflt omega) (by k_dflt omega) ?_)|apply L2.Rd.Zhh|(show ∃x n,_=_∧L2.V5 _ x _ n∧_;refine L2.Rd.Zg7 (by walk_at "hp") ?_)|(show ∃x n,_=_∧L2.V5 _ x _ n∧_;refine L2.Rd.lenS (by walk_at "side") ?_))|walk_at "rdis" |with_reducible (first|apply L2.Rd.Uc|apply L2.Rd.tru|apply L2.Rd.ZgR|apply L2.Rd.ZgU|apply L2.Rd.Zhk|apply L2.Rd.bm|(show L2.tyV _ _ _ _∧_;refine L2.Rd.tyl (by with_reducible assumption) ?_)|(show L2.rAppend _ _ _ _;refine L2.Rd.app (by with_reducible assumption) (by walk_at "side") ?_)|apply L2.ZbU|apply L2.Zba|apply L2.Rd.Zel|apply L2.Rd.Zee|(show if decide _=true then _ else _;refine L2.Rd.ifP (by walk_at "cond") ?_)|(show if decide _=true then _ else _;refine L2.Rd.ifN (by walk_at "cond") ?_)|(show if(!decide _)=true then _ else _;refine L2.Rd.Zhm (by walk_at "cond") ?_)|apply L2.Rd.sl|apply L2.Rd.ZeY|apply L2.Rd.Zg8|apply L2.Rd.ZgF|(show L2.UM _ _ _ _ _ _;refine L2.Rd.slS (by walk_at "side") ?_)|apply L2.Rd.ZgY|(show ∃a C bI fs v,L2.V.ref _=L2.V.ref a∧_=some (L2.HO.ins C bI fs)∧L2.Cls _ C∧_;refine L2.Rd.fld (by with_reducible assumption) (by with_reducible assumption) (by k_dflt (walk_at "na")) (by k_dflt (walk_at "lk")) ?_)|(show L2.Uu _ _ _ _ _ _ _ _ _ _ _;refine L2.Rd.Zgr (by k_dflt rfl) ?_)|apply L2.Rd.Zhe|(show L2.rSetL _ _ _ _ _;refine L2.Rd.ZgX (by with_reducible assumption) (by k_dflt omega) (by walk_at "cond") ?_)|apply L2.Rd.Zgo|apply L2.Rd.Zgn|apply L2.Rd.ZgP|(show ∃a C bI fs,L2.V.ref _=L2.V.ref a∧_=some (L2.HO.ins C bI fs)∧L2.Cls _ C∧_;refine L2.Rd.Zga (by with_reducible (first|assumption|exact L2.Zd)) (by with_reducible assumption) (by k_dflt (walk_at "na")) (by k_dflt (simp only[List.length_cons,List.length_nil];decide)) (by k_dflt (walk_at "pf")) ?_)|apply L2.Rd.Zgi|apply L2.Rd.Zfw|apply L2.Rd.Zg4|apply L2.Rd.ZgE|apply L2.Rd.Zg0|apply L2.Rd.Zgp|(show L2.rIn _ _ _ _ _ _;refine L2.Rd.inS (by walk_at "hp") ?_)|(show L2.rIn _ _ _ _ _ _;refine L2.Rd.ZgK (by walk_at "hp") ?_)|(show ∃p bs,[L2.V.ref _]=[L2.V.ref p]∧L2.SqL _ _ p (List.map L2.V.bl bs)∧_;refine L2.Rd.ZgQ (by walk_at "hp") ?_)|apply L2.Rd.leS|apply L2.Rd.Zgj)|((with_reducible show if(!(_==_))=true then _ else _);first|refine L2.Rd.Zel ?_|refine L2.Rd.Zee ?_)|((with_reducible show if(_==_)=true then _ else _);first|refine L2.ZbU ?_|refine L2.Zba ?_)|with_reducible (first|apply L2.Rd.Ze7|apply L2.Rd.Zgl|(show ∃a,_=_∧(∃xs,L2.SqL _ _ a xs)∧_;refine L2.Rd.ZfP (by walk_at "hp") ?_)|apply L2.Rd.Zhi)|((with_reducible show L2.rDIn _ _ _ _);first|with_reducible refine L2.Rd.Zg2 (by with_reducible assumption) ?_|with_reducible refine L2.Rd.dinI (by with_reducible assumption) ?_)|((with_reducible show L2.rDNotIn _ _ _ _);first|with_reducible refine L2.Rd.Zgt (by with_reducible assumption) ?_|with_reducible refine L2.Rd.dninI (by with_reducible assumption) ?_)|((with_reducible show L2.rIxD _ _ _ _);first|with_reducible refine L2.Rd.ZgB (by with_reducible assumption) (by with_reducible assumption) ?_|with_reducible refine L2.Rd.dgetI (by with_reducible assumption) (by with_reducible assumption) ?_)|((with_reducible show L2.rSetD _ _ _ _ _);first|with_reducible refine L2.Rd.Zgv (by with_reducible assumption) (by walk_at "side") ?_|with_reducible refine L2.Rd.dsetI (by with_reducible assumption) (by walk_at "side") ?_)|with_reducible (first|(show L2.rLenD _ _ _;refine L2.Rd.Zhr (by with_reducible assumption) ?_)|(show L2.rListD _ _ _;refine L2.Rd.Zgu (by with_reducible assumption) ?_)|(show L2.Zch _ _ _ _ _;refine L2.Rd.ixl (by walk_at "hp") (by k_dflt (first|rfl|with_reducible assumption)) ?_)|apply L2.Rd.ZgN|apply L2.Rd.Zg5|apply L2.Rd.Zhj|apply L2.Rd.ZgM|apply L2.Rd.ZgA))
local macro_rules| `(tactic|walk_at "rds")=>`(tactic|repeat' (walk_at "rd"))
namespace Nm
open PySem L2
noncomputable def top (i:Nat):Stmt:=PySem.Challenge.pw_ratehall_k04_halls_refused.main.body.getD i (.Pass ⟨0,0,0,0⟩)
noncomputable abbrev qC:Stmt:=top 23
noncomputable abbrev qD:Stmt:=top 24
noncomputable abbrev nJ:Stmt:=top 25
noncomputable abbrev qE:Stmt:=top 31
noncomputable abbrev nK:Stmt:=top 28
noncomputable abbrev qF:Stmt:=top 29
noncomputable abbrev qG:Stmt:=top 30
noncomputable abbrev nL:Stmt:=top 12
noncomputable abbrev qH:Stmt:=top 32
noncomputable abbrev qI:Stmt:=Z5 (top 20) 1
noncomputable abbrev qJ:Stmt:=top 14
noncomputable abbrev qK:Stmt:=top 15
noncomputable abbrev qL:Stmt:=top 21
noncomputable abbrev qM:Stmt:=top 16
noncomputable abbrev qN:Stmt:=Z5 (top 20) 11
noncomputable abbrev qO:Stmt:=Z5 (top 20) 3
noncomputable abbrev qP:Stmt:=Z5 (top 20) 2
noncomputable abbrev qQ:Stmt:=Z5 (top 20) 12
noncomputable abbrev qR:Stmt:=Z5 (top 20) 4
noncomputable abbrev qS:Stmt:=Z5 (top 20) 6
noncomputable abbrev qT:Stmt:=Z5 (top 20) 8
noncomputable abbrev nM:Stmt:=Z5 (top 20) 9
noncomputable abbrev nN:Stmt:=Z5 (top 20) 10
noncomputable abbrev qU:Stmt:=top 26
noncomputable abbrev nO:Stmt:=top 27
noncomputable abbrev qV:Stmt:=top 33
noncomputable abbrev qW:Stmt:=top 34
noncomputable abbrev qX:Stmt:=Z5 (top 20) 5
noncomputable abbrev qY:Stmt:=Z5 (top 20) 7
noncomputable abbrev qZ:Stmt:=Z5 (top 20) 0
noncomputable abbrev q0:Stmt:=top 35
theorem uP:Zy ["_law_script","_law_k"] ["_law_script","_law_k"] (cT qC):=scI
theorem q1:Zy ["_law_cell_here","_law_way","_law_first"] ["_law_cell_here","_law_way"] (cT qD):=scI
theorem nP:Zy ["_law_cell_here","_law_way","_law_letters","_law_size"] ["_law_cell_here","_law_way"] (cT nJ):=scI
theorem kG:Zy ["_law_names","_law_cell_here","_law_way","_law_draw","_law_word_here","_law_odd","_law_at"] ["_law_names","_law_cell_here","_law_way"] (cT qE):=scI
theorem q2:Zy ["_law_name_here","_law_good"] ["_law_name_here"] (cT nK):=scI
theorem uQ:Zy ["_law_names","_law_lines","_law_deed","_law_numbers","_law_name_here"] ["_law_names","_law_lines","_law_deed","_law_numbers","_law_name_here"] (cT qF):=scI
theorem q3:Zy ["_law_many","_law_cell_here","_law_way","_law_draw"] ["_law_many","_law_cell_here","_law_way"] (cT qG):=scI
theorem uR:Zy ["thing"] ["thing"] (cT nL):=scI
theorem nQ:Zy ["_law_name_here","_law_draw","_law_found","_law_other"] ["_law_name_here","_law_draw"] (cT qH):=scI
theorem q4:Zy ["self","name","number"] ["self","name"] (cT qI):=scI
theorem uS:Zy ["thing"] ["thing"] (cT qJ):=scI
theorem uT:Zy ["thing","least"] ["thing","least"] (cT qK):=scI
theorem uU:Zy ["start"] ["start"] (cT qL):=scI
theorem uV:Zy ["thing","bound"] ["thing","bound"] (cT qM):=scI
theorem uW:Zy ["self","work"] ["self","work"] (cT qN):=scI
theorem uX:Zy ["self","row"] ["self","row"] (cT qO):=scI
theorem uY:Zy ["self","giver","taker","give","take","start"] ["self","giver","taker","give","take","start"] (cT qP):=scI
theorem uZ:Zy ["self","belt"] ["self","belt"] (cT qQ):=scI
theorem q5:Zy ["self","belt","start","row"] ["self","belt","start"] (cT qR):=scI
theorem u0:Zy ["self","name"] ["self","name"] (cT qS):=scI
theorem u1:Zy ["self","belt"] ["self","belt"] (cT qT):=scI
theorem u2:Zy ["self","work"] ["self","work"] (cT nM):=scI
theorem u3:Zy ["self","work"] ["self","work"] (cT nN):=scI
theorem nR:Zy ["_law_hall","_law_deed","_law_numbers","_law_name_here","e","_law_told"] ["_law_hall","_law_deed","_law_numbers","_law_name_here"] (cT qU):=scI
theorem u4:Zy ["_law_told","_law_due_here"] ["_law_told","_law_due_here"] (cT nO):=scI
theorem hF:Zy ["_law_hall","_law_names","_law_lines","_law_script","_law_k","_law_cell_here","_law_numbers","_law_j","_law_deed","_law_name_here","_law_due_here","_law_told"] ["_law_hall","_law_names","_law_lines","_law_script"] (cT qV):=scI
theorem kH:Zy ["_law_hall","_law_names","_law_lines","_law_draw","_law_letters","_law_k","_law_again"] ["_law_hall","_law_names","_law_lines","_law_draw"] (cT qW):=scI
theorem u5:Zy ["self"] ["self"] (cT qX):=scI
theorem u6:Zy ["self"] ["self"] (cT qY):=scI
theorem u7:Zy ["self"] ["self"] (cT qZ):=scI
theorem hG:Zy ["_law_script","_law_hall","_law_names","_law_lines","_law_k","_law_name_here","_law_cell_here","_law_line"] ["_law_script"] (cT q0):=scI
set_option genInjectivity false
set_option genSizeOf false
set_option genSizeOfSpec false
set_option genInjectivity false in
set_option genSizeOf false in
structure Tp(K:Frag)(mg:Str→Option Value) where
 {u:Addr}
 bm:mg "Hall" =some (.ref u)
 a:Cls K u
 g:Y1 K u ["numbers","rows"]
 x0:Dn K mg "_law_cell" "_law_cell" qC ["_law_script","_law_k"]
 x1:Dn K mg "_law_mix" "_law_mix" qD ["_law_cell_here","_law_way"]
 x2:Dn K mg "_law_name" "_law_name" nJ ["_law_cell_here","_law_way"]
 x3:Dn K mg "_law_word" "_law_word" qE ["_law_names","_law_cell_here","_law_way"]
 x4:Dn K mg "_law_is_name" "_law_is_name" nK ["_law_name_here"]
 x5:Dn K mg "_law_due" "_law_due" qF ["_law_names","_law_lines","_law_deed","_law_numbers","_law_name_here"]
 x6:Dn K mg "_law_number" "_law_number" qG ["_law_many","_law_cell_here","_law_way"]
 x7:Dn K mg "is_name" "is_name" nL ["thing"]
 x8:Dn K mg "_law_names_told" "_law_names_told" qH ["_law_name_here","_law_draw"]
 x9:Dm K u "work" "Hall.work" qI ["self","name"]
 bs:Dn K mg "is_whole" "is_whole" qJ ["thing"]
 a9:Dn K mg "is_from" "is_from" qK ["thing","least"]
 bn:Dn K mg "need_start" "need_start" qL ["start"]
 bo:Dn K mg "is_number_below" "is_number_below" qM ["thing","bound"]
 ba:Dm K u "need_work" "Hall.need_work" qN ["self","work"]
 bt:Dm K u "lay" "Hall.lay" qO ["self","row"]
 {o:Addr}
 {p:FuncData}
 {dW:Addr}
 {eH:Tok}
 I:VW K u "belt" o
 aW:Zcr K "belt" "Hall.belt" qP dW o p
 bi:∃d0 di n sl,K.lookup dW=some ⟨d0,di,.seq #[.int 0 eH] n,sl⟩
 J:Yk K p ["self","giver","taker","give","take","start"] []
 z4:Yk K p ["self","giver","taker","give","take","start"] [.int 0 eH]
 z5:cf [.int 0] [.int 0 eH]
 bp:Dm K u "need_belt" "Hall.need_belt" qQ ["self","belt"]
 bu:Dm K u "fill" "Hall.fill" qR ["self","belt","start"]
 bv:Dm K u "number_of" "Hall.number_of" qS ["self","name"]
 bw:Dm K u "belt_at" "Hall.belt_at" qT ["self","belt"]
 bx:Dm K u "entering" "Hall.entering" nM ["self","work"]
 bz:Dm K u "leaving" "Hall.leaving" nN ["self","work"]
 aX:Dn K mg "_law_said" "_law_said" qU ["_law_hall","_law_deed","_law_numbers","_law_name_here"]
 aY:Dn K mg "_law_only" "_law_only" nO ["_law_told","_law_due_here"]
 bA:Dn K mg "_law_refusing" "_law_refusing" qV ["_law_hall","_law_names","_law_lines","_law_script"]
 bB:Dn K mg "_law_full" "_law_full" qW ["_law_hall","_law_names","_law_lines","_law_draw"]
 bC:Dm K u "names" "Hall.names" qX ["self"]
 bD:Dm K u "belts" "Hall.belts" qY ["self"]
 bE:Di K u "Hall.__init__" qZ ["self"]
 bq:Dn K mg "law" "law" q0 ["_law_script"]
 aT:mg "ValueError" =none
 bF:mg "all" =none
 be:mg "bool" =none
 L:mg "enumerate" =none
 bl:mg "int" =none
 e:mg "isinstance" =none
 f:mg "len" =none
 bf:mg "list" =none
 m:mg "range" =none
 bG:mg "str" =none
 {gD:Addr}
 aZ:Ex K mg "RateError" gD
 {l:Addr}
 G:Ex K mg "NoName" l
 {q:Addr}
 aV:Ex K mg "Twice" q
 {i:Addr}
 r:Ex K mg "TooMuch" i
 {h:Addr}
 aQ:Ex K mg "NoWork" h
 {j:Addr}
 aR:Ex K mg "NoBelt" j
 {k:Addr}
 H:Ex K mg "NoRate" k
 {c:Addr}
 bk:Ex K mg "Empty" c
 {b:Addr}
 bg:Ex K mg "NoText" b
 z6:exmOne K (.ref gD) (.ref gD)=some true
 B:exmOne K (.ref l) (.ref gD)=some true
 M:exmOne K (.ref q) (.ref gD)=some true
 w:exmOne K (.ref i) (.ref gD)=some true
 C:exmOne K (.ref h) (.ref gD)=some true
 D:exmOne K (.ref j) (.ref gD)=some true
 E:exmOne K (.ref k) (.ref gD)=some true
 z7:exmOne K (.ref c) (.ref gD)=some true
 z8:exmOne K (.ref b) (.ref gD)=some true
 a2:Z0 K l
 bh:Z0 K q
 a0:Z0 K i
 a3:Z0 K h
 a4:Z0 K j
 a5:Z0 K k
 az:PySem.W.kitOne K (.ref l) (.ref c)=some false
 Y:PySem.W.kitOne K (.ref l) (.ref b)=some false
 Z:PySem.W.kitOne K (.ref l) (.ref l)=some true
 aA:PySem.W.kitOne K (.ref l) (.ref q)=some false
 aa:PySem.W.kitOne K (.ref l) (.ref h)=some false
 ab:PySem.W.kitOne K (.ref l) (.ref j)=some false
 ac:PySem.W.kitOne K (.ref l) (.ref k)=some false
 O:PySem.W.kitOne K (.ref l) (.ref i)=some false
 x:PySem.W.kitOne K (.ref l) (.type "ValueError")=some true
 aN:PySem.W.kitOne K (.ref q) (.ref c)=some false
 aB:PySem.W.kitOne K (.ref q) (.ref b)=some false
 aC:PySem.W.kitOne K (.ref q) (.ref l)=some false
 aO:PySem.W.kitOne K (.ref q) (.ref q)=some true
 aD:PySem.W.kitOne K (.ref q) (.ref h)=some false
 aE:PySem.W.kitOne K (.ref q) (.ref j)=some false
 aF:PySem.W.kitOne K (.ref q) (.ref k)=some false
 ad:PySem.W.kitOne K (.ref q) (.ref i)=some false
 F:PySem.W.kitOne K (.ref q) (.type "ValueError")=some true
 ae:PySem.W.kitOne K (.ref i) (.ref c)=some false
 P:PySem.W.kitOne K (.ref i) (.ref b)=some false
 Q:PySem.W.kitOne K (.ref i) (.ref l)=some false
 af:PySem.W.kitOne K (.ref i) (.ref q)=some false
 R:PySem.W.kitOne K (.ref i) (.ref h)=some false
 S:PySem.W.kitOne K (.ref i) (.ref j)=some false
 T:PySem.W.kitOne K (.ref i) (.ref k)=some false
 N:PySem.W.kitOne K (.ref i) (.ref i)=some true
 t:PySem.W.kitOne K (.ref i) (.type "ValueError")=some true
 aG:PySem.W.kitOne K (.ref h) (.ref c)=some false
 ag:PySem.W.kitOne K (.ref h) (.ref b)=some false
 ah:PySem.W.kitOne K (.ref h) (.ref l)=some false
 aH:PySem.W.kitOne K (.ref h) (.ref q)=some false
 ai:PySem.W.kitOne K (.ref h) (.ref h)=some true
 aj:PySem.W.kitOne K (.ref h) (.ref j)=some false
 ak:PySem.W.kitOne K (.ref h) (.ref k)=some false
 U:PySem.W.kitOne K (.ref h) (.ref i)=some false
 y:PySem.W.kitOne K (.ref h) (.type "ValueError")=some true
 aI:PySem.W.kitOne K (.ref j) (.ref c)=some false
 al:PySem.W.kitOne K (.ref j) (.ref b)=some false
 am:PySem.W.kitOne K (.ref j) (.ref l)=some false
 aJ:PySem.W.kitOne K (.ref j) (.ref q)=some false
 an:PySem.W.kitOne K (.ref j) (.ref h)=some false
 ao:PySem.W.kitOne K (.ref j) (.ref j)=some true
 ap:PySem.W.kitOne K (.ref j) (.ref k)=some false
 V:PySem.W.kitOne K (.ref j) (.ref i)=some false
 z:PySem.W.kitOne K (.ref j) (.type "ValueError")=some true
 aK:PySem.W.kitOne K (.ref k) (.ref c)=some false
 aq:PySem.W.kitOne K (.ref k) (.ref b)=some false
 ar:PySem.W.kitOne K (.ref k) (.ref l)=some false
 aL:PySem.W.kitOne K (.ref k) (.ref q)=some false
 au:PySem.W.kitOne K (.ref k) (.ref h)=some false
 av:PySem.W.kitOne K (.ref k) (.ref j)=some false
 aw:PySem.W.kitOne K (.ref k) (.ref k)=some true
 X:PySem.W.kitOne K (.ref k) (.ref i)=some false
 A:PySem.W.kitOne K (.ref k) (.type "ValueError")=some true
 {dk:Tok}
 aP:mg "MOST_LETTERS" =some (.int 8 dk)
 {kI:Tok}
 ax:mg "MOST_WORKS" =some (.int 30 kI)
 {jA:Tok}
 ay:mg "MOST_BELTS" =some (.int 60 jA)
 br:∀(s:Shared)(v:Value),BindsTo s bq.d ⟨[v],[]⟩ [("_law_script",v)]
set_option genInjectivity true
set_option genSizeOf true
set_option genSizeOfSpec true
def Zei(K:Frag):Sp:=λvs H Q _=>∃(a:Addr)(ns:List Int),vs=[.ref a]∧SqL K H a (ns.map V.int)∧ns.length≤63∧∀aS,Q (.bl true) aS
def u8{K:Frag}{mg:Str→Option Value}(T:Tp K mg):Sp:=Zei K
noncomputable def c9 (x:Str):Bool:=decide (1≤x.length)&&decide (x.length≤8)&&x.cps.toList.all λc=>decide (97≤c)&&decide (c≤122)
structure B5 where
 giver:Int
 taker:Int
 give:Int
 take:Int
 start:Int
noncomputable def B5.v (b:B5):List V:=[.int b.giver,.int b.taker,.int b.give,.int b.take,.int b.start]
noncomputable def B5.d (b:B5):PyData:= .tuple [.int b.giver,.int b.taker,.int b.give,.int b.take,.int b.start]
structure HM where
 names:List Str
 belts:List B5
noncomputable def dH (H:Hp):List V→List B5→Prop:=Paired λv b=>∃t,v= .ref t∧H t=some (.tup b.v)
noncomputable def fc (ns:List Str):List (Key×V):=ns.zipIdx.map λp=>(Sum.inr p.1,V.int p.2)
theorem We(ns:List Str):(fc ns).length=ns.length:=by unfold fc;simp
theorem u9(ns:List Str)(x:Str):fc (ns++ [x])=fc ns++ [(Sum.inr x,.int ns.length)]:=by
 unfold fc;rw[List.zipIdx_append];simp
theorem VS(ns:List Str):((fc ns).map λcZ=>kV cZ.1)=ns.map V.str:=by
 unfold fc;rw[QV];have:((λcZ:Key×V=>kV cZ.1)∘λp:Str×Nat=>((Sum.inr p.1:Key),V.int p.2))=(V.str∘λp:Str×Nat=>p.1):=rfl;rw[this,←QV,List.zipIdx_map_fst]
theorem W6(ns:List Str)(x:Str):(eN (fc ns) (Sum.inr x)).isSome=decide (x∈ns):=by
 rw[←WQ];rw[QA,List.any_eq_true,decide_eq_true_eq];have e:x∈ns↔V.str x∈ns.map V.str:=by
  constructor
  ·exact List.mem_map_of_mem
  ·intro h;obtain⟨y,cH,e⟩:=List.mem_map.mp h;cases e;exact cH
 rw[e,←VS,List.mem_map]
 constructor
 ·rintro⟨p,b3,h⟩;exact⟨p,b3,by rw[of_decide_eq_true h];rfl⟩
 ·rintro⟨p,b3,h⟩;exact⟨p,b3,decide_eq_true (tt h)⟩
theorem u_{ns:List Str}{x:Str}(h:x∉ns):eN (fc ns) (Sum.inr x)=none:=by
 have:=W6 ns x;rw[decide_eq_false h] at this;cases e:eN (fc ns) (Sum.inr x) with
 |none=>rfl
 |some v=>rw[e] at this;cases this
theorem u'{ns:List Str}{x:Str}(h:x∉ns):eU (fc ns) (Sum.inr x) (.int ns.length)=fc (ns++ [x]):=by
 rw[Zdt _ (u_ h),u9]
theorem q6:∀{ns:List Str}{k i:Nat}{x:Str},ns.Nodup→ns[i]? =some x→eN ((ns.zipIdx k).map λp:Str×Nat=>((Sum.inr p.1:Key),V.int p.2)) (Sum.inr x)=some (.int ((k+i:Nat):Int))
 | [],_,_,_,_,e=>by simp at e
 |y::ns,k,0,x,_,e=>by
  simp at e;subst e;rw[List.zipIdx_cons,List.map_cons,lA rfl]
  rfl
 |y::ns,k,i+1,x,nd,e=>by
  have q7:=Q1.mp nd;have b6:ns[i]? =some x:=by simpa using e
  have ne:¬(Sum.inr y:Key)=Sum.inr x:=λz=>q7.1 (by rw[Sum.inr.inj z];exact QG b6);rw[List.zipIdx_cons,List.map_cons,lB ne,q6 q7.2 b6]
  congr 2
  omega
theorem ZcW{ns:List Str}{i:Nat}{x:Str}(nd:ns.Nodup)(e:ns[i]? =some x):eN (fc ns) (Sum.inr x)=some (.int i):=by
 unfold fc;rw[q6 nd e,Nat.zero_add]
def c6{K:Frag}{mg:Str→Option Value}(T:Tp K mg)(H:Hp)(p:Addr)(hl:HM)(fp:List Addr):Prop:=
 ∃(bI a b:Addr)(bs:List V),fp=[p,bI,a,b]∧H p=some (.ins T.u bI [("numbers",.ref a),("rows",.ref b)])∧H bI=some (.own p)∧H a=some (.dK (fc hl.names))∧H b=some (.lst bs)∧a≠b∧dH H bs hl.belts
theorem dH.keep{H aS:Hp}(t:∀b xs,H b=some (.tup xs)→aS b=some (.tup xs)):∀{bs:List V}{df:List B5},dH H bs df→dH aS bs df
 |_,_,.nil=> .nil
 |_,_,.cons ⟨a,e,h⟩ r=> .cons ⟨a,e,t _ _ h⟩ (dH.keep t r)
theorem dH.length{H:Hp}{bs:List V}{df:List B5}(h:dH H bs df):bs.length=df.length:=Paired.length h
theorem dH.snoc{H:Hp}:∀{bs:List V}{df:List B5}{t:Addr}{b:B5},dH H bs df→H t=some (.tup b.v)→dH H (bs++ [.ref t]) (df++ [b])
 |_,_,_,_,.nil,h=> .cons ⟨_,rfl,h⟩ .nil
 |_,_,_,_,.cons x r,h=> .cons x (dH.snoc r h)
theorem dH.at{H:Hp}:∀{bs:List V}{df:List B5}{i:Nat}{b:B5},dH H bs df→df[i]? =some b→∃t,bs[i]? =some (.ref t)∧H t=some (.tup b.v)
 |_,_,_,_,.nil,e=>by simp at e
 |_,_,0,_,.cons ⟨t,b2,h⟩ _,e=>by simp at e;subst e;exact⟨t,by simp[b2],h⟩
 |_,_,i+1,b,.cons _ r,e=>by
  obtain⟨t,a_,bd⟩:=dH.at (i:=i) (b:=b) r (by simpa using e);exact⟨t,by simpa using a_,bd⟩
section
variable {K:Frag}{mg:Str→Option Value}{T:Tp K mg}{H aS:Hp}{p:Addr}{hl:HM}{fp:List Addr}
theorem c6.dom(h:c6 T H p hl fp):∀x∈fp,H x≠none:=by
 obtain⟨bI,a,b,bs,rfl,a_,bd,cx,cG,_⟩:=h;intro x bc;simp only[Qj,List.not_mem_nil,or_false] at bc;rcases bc with rfl|rfl|rfl|rfl
 ·rw[a_];simp
 ·rw[bd];simp
 ·rw[cx];simp
 ·rw[cG];simp
theorem c6.keep(h:c6 T H p hl fp)(k:∀x∈fp,aS x=H x)(t:∀b xs,H b=some (.tup xs)→aS b=some (.tup xs)):c6 T aS p hl fp:=by
 obtain⟨bI,a,b,bs,rfl,a_,bd,cx,cG,eM,cR⟩:=h;exact⟨bI,a,b,bs,rfl,(k p (by simp)).trans a_,(k bI (by simp)).trans bd,(k a (by simp)).trans cx,(k b (by simp)).trans cG,eM,cR.keep t⟩
theorem c6.off{A:List Addr}(h:c6 T H p hl fp)(f:ZL A H aS)(d:∀x∈fp,x∉A):c6 T aS p hl fp:=by
 refine h.keep (λx bc=>?_) f.tups;cases q:H x with
 |none=>exact absurd q (h.dom x bc)
 |some o=>exact f.keep x o q (d x bc)
theorem ZcM{m:Str}{G:Prop}(h:c6 T H p hl fp)(gb:(m== "numbers")=false)(hg:(m== "rows")=false)(q:G):∃a bI fs,V.ref p= .ref a∧H a=some (.ins T.u bI fs)∧fs.lookup m=none∧G:=by
 obtain⟨bI,a,b,bs,rfl,a_,_⟩:=h;exact⟨p,bI,_,rfl,a_,Rd.lk1 gb (Rd.lk1 hg Rd.lkN),q⟩
theorem c6.same(h:c6 T H p hl fp)(e:Ze H aS):c6 T aS p hl fp:=h.off (A:=[]) e.frame (by simp)
end
noncomputable def dB:B5:=⟨0,0,0,0,0⟩
noncomputable def va (df:List B5) (w:Int):List Nat:=(List.range df.length).filter λi=>decide ((df.getD i dB).taker=w)
noncomputable def vb (df:List B5) (w:Int):List Nat:=(List.range df.length).filter λi=>decide ((df.getD i dB).giver=w)
theorem dH.getD{H:Hp}{bs:List V}{df:List B5}{i:Nat}(h:dH H bs df)(bb:i<df.length):∃t,bs.getD i .non= .ref t∧H t=some (.tup (df.getD i dB).v):=by
 obtain⟨t,a_,bd⟩:=h.at (Qu bb);exact⟨t,by simp[List.getD,a_],by simpa[List.getD,bb] using bd⟩
noncomputable def cellS (ns:List Int) (k:Int):Int:=if k<ns.length then ns.getD k.toNat 0 else 0
theorem ZK{ns:List Int}{k:Int}(du:0≤k)(a_:k<ns.length):atI (ns.map V.int) k=some (.int (ns.getD k.toNat 0)):=by
 obtain⟨n,rfl⟩:=Int.eq_ofNat_of_zero_le du;have bM:n<ns.length:=by omega
 refine YF ?_;simp[List.getD,bM]
@[irreducible] noncomputable def f9 (c w:Int):Int:=(c*48271+w*7919) % 2147483647*(16807+2*w) % 1000003
theorem Zev(c w:Int):(c*48271+w*7919) % 2147483647*(16807+2*w) % 1000003=f9 c w:=by unfold f9;rfl
theorem vd(c w:Int):0≤f9 c w:=by unfold f9;omega
theorem ve(c w:Int):f9 c w<1000003:=by unfold f9;omega
theorem vf:∀i<26,("abcdefghijklmnopqrstuvwxyz" :Str).cps.toList[i]? =some (97+i):=by decide+kernel
theorem q8:("abcdefghijklmnopqrstuvwxyz" :Str).length≤sizeLine:=by decide+kernel
theorem q9{i:Int}(du:0≤i)(a_:i<26):atI ("abcdefghijklmnopqrstuvwxyz" :Str).cps.toList i=some (97+i.toNat):=by
 have:=YF (vf i.toNat (by omega))
 rwa [QY du] at this
theorem hH(x:Str):c9 x=true↔1≤x.length∧x.length≤8∧∀c∈x.cps.toList,97≤c∧c≤122:=by
 unfold c9;simp only[Qx,decide_eq_true_eq,QD];exact⟨λh=>⟨h.1.1,h.1.2,h.2⟩,λh=>⟨⟨h.1,h.2.1⟩,h.2.2⟩⟩
theorem kJ(x y:Str):(x++y).cps.toList=x.cps.toList++y.cps.toList:=by
 show(x.cps++y.cps).toList=_;simp
theorem gE(x:Str):x.length=x.cps.toList.length:=by simp[Str.length]
theorem q_:∀ys:List Str,(Str.join "" ys).cps.toList=(ys.map λy=>y.cps.toList).flatten
 | []=>rfl
 | [x]=>by simp[Str.join]
 |x::y::r=>by
  show(x++ "" ++Str.join "" (y::r)).cps.toList=_;rw[kJ,kJ,q_ (y::r)];have:("" :Str).cps.toList=[]:=rfl;rw[this];simp
theorem vg{f:Nat→Nat}{n:Nat}(a_:1≤n)(bd:n≤8)(cj:∀i,97≤f i∧f i≤122):c9 (Txt.join "" ((List.range n).map λi=>⟨#[f i]⟩))=true:=by
 have e:(Txt.join "" ((List.range n).map λi=>(⟨#[f i]⟩:Str))).cps.toList=(List.range n).map f:=by
  show(Builtin.Str.glued "" _).cps.toList=_;rw[StrLaws.glued_eq_join,q_,QV];have:((λy:Str=>y.cps.toList)∘λi=>(⟨#[f i]⟩:Str))=λi=>[f i]:=rfl;rw[this];generalize List.range n=l
  induction l with
  |nil=>rfl
  |cons a l ds=>simp[ds]
 rw[hH,gE,e];refine⟨by simpa using a_,by simpa using bd,λc bH=>?_⟩;obtain⟨i,_,rfl⟩:=List.mem_map.mp bH;exact cj i
theorem vh{x:Str}{l u:Option Int}{c:Nat}(h:c∈(Txt.slice x l u).cps.toList):c∈x.cps.toList:=by
 unfold Txt.slice at h
 split at h
 ·exact h
 ·simp only at h;obtain⟨i,_,bb⟩:=QS.mp h;exact QG (by simpa using bb)
theorem Zc6{x:Str}{l u:Option Int}:(Txt.slice x l u).length≤(Builtin.Str.strSliceIndices l u 1 x.length).length:=by
 unfold Txt.slice
 split
 ·rename_i h;simp only[Qx,beq_iff_eq] at h;omega
 ·show(List.filterMap _ _).toArray.size≤_;rw[Qa];exact List.length_filterMap_le _ _
theorem q':∀ns:List Str,(∀n∈ns,PyData.strOk n=true)→PyData.canLayAll0 (ns.map PyData.str)=true
 | [],_=>by simp[PyData.canLayAll0]
 |n::ns,h=>by
  have:=q' ns λm bZ=>h m (Qo _ bZ);have du:=h n (by simp);simp[PyData.canLayAll0,PyData.canLay0] at this⊢;exact⟨du,this⟩
theorem nS(ns:List Str)(h:∀n∈ns,PyData.strOk n=true):(PyData.list (ns.map PyData.str)).canLay0=true:=by
 have:=q' ns h;simp[PyData.canLay0];simpa using this
theorem ra:∀ns:List Str,PyData.depthAll (ns.map PyData.str)≤1
 | []=>by simp[PyData.depthAll]
 |n::ns=>by
  have:=ra ns;simp[PyData.depthAll,PyData.depth] at this⊢;exact this
theorem vi(ns:List Str):(PyData.list (ns.map PyData.str)).depth≤60:=by
 have:=ra ns;simp only[PyData.depth];omega
theorem vj(b:B5):b.d.canLay0=true:=by simp[B5.d,PyData.canLay0,PyData.canLayAll0]
theorem Zd5(b:B5):b.d.depth≤2:=by simp[B5.d,PyData.depth,PyData.depthAll]
theorem rb:∀df:List B5,PyData.canLayAll0 (df.map B5.d)=true
 | []=>by simp[PyData.canLayAll0]
 |b::df=>by
  have:=rb df;simp only[List.map_cons,PyData.canLayAll0,vj b,Bool.true_and];exact this
theorem nT(df:List B5):(PyData.list (df.map B5.d)).canLay0=true:=by
 have:=rb df;simp[PyData.canLay0];simpa using this
theorem rc:∀df:List B5,PyData.depthAll (df.map B5.d)≤3
 | []=>by simp[PyData.depthAll]
 |b::df=>by
  have a_:=rc df;have bd:=Zd5 b;simp only[List.map_cons,PyData.depthAll];omega
theorem vk(df:List B5):(PyData.list (df.map B5.d)).depth≤60:=by
 have:=rc df;simp only[PyData.depth];omega
theorem vl{K:Frag}{H:Hp}{t:Addr}{b:B5}(h:H t=some (.tup b.v)):fD K H (.ref t) b.d:= .tup (.of h) (.cons (.int _) (.cons (.int _) (.cons (.int _) (.cons (.int _) (.cons (.int _) .nil)))))
theorem nU{K:Frag}{H:Hp}:∀{bs:List V}{df:List B5},dH H bs df→DRels K H bs (df.map B5.d)
 |_,_,.nil=> .nil
 |_,_,.cons ⟨t,e,h⟩ r=>by rw[e];exact .cons (vl h) (nU r)
theorem nV{K:Frag}{H:Hp}:∀ns:List Str,DRels K H (ns.map V.str) (ns.map PyData.str)
 | []=> .nil
 |n::ns=> .cons (.str n) (nV ns)
section
variable {K:Frag}{H:Hp}{Q:VK}
end
theorem nW{K:Frag}{H:Hp}:∀bs:List Bool,DRels K H (bs.map V.bl) (bs.map PyData.bool)
 | []=> .nil
 |b::bs=> .cons (.bl b) (nW bs)
theorem rd:∀bs:List Bool,PyData.canLayAll0 (bs.map PyData.bool)=true
 | []=>by simp[PyData.canLayAll0]
 |b::bs=>by
  have:=rd bs;simp[PyData.canLayAll0,PyData.canLay0] at this⊢;exact this
theorem nX(bs:List Bool):(PyData.list (bs.map PyData.bool)).canLay0=true:=by
 have:=rd bs;simp[PyData.canLay0];simpa using this
theorem re:∀bs:List Bool,PyData.depthAll (bs.map PyData.bool)≤1
 | []=>by simp[PyData.depthAll]
 |b::bs=>by
  have:=re bs;simp[PyData.depthAll,PyData.depth] at this⊢;exact this
theorem vm(bs:List Bool):(PyData.list (bs.map PyData.bool)).depth≤60:=by
 have:=re bs;simp only[PyData.depth];omega
theorem Zgh{K:Frag}{H:Hp}{Q:VK}{p q:Addr}{bs:List Bool}(a_:H p=some (.lst (bs.map V.bl)))(bd:H q=some (.lst (bs.map V.bl)))(k:Q (.bl true) H):rOr rEq (h1 K false) (.ref p) (.ref q) H Q:=
 Rd.Zd7 (.lst (.of a_) (nW bs)) (.lst (.of bd) (nW bs)) (nX bs) (nX bs) (vm bs) (by rw[SeqAt.eqv_refl _ (nX bs)];exact k)
theorem rf:∀i<26,("abcdefghijklmnopqrstuvwxyz" :Str).cps.extract i (i+1)=#[97+i]:=by decide+kernel
theorem Zfl(c:Nat):(!(Builtin.Str.occurrences ("abcdefghijklmnopqrstuvwxyz" :Str) ⟨#[c]⟩ 0 ("abcdefghijklmnopqrstuvwxyz" :Str).length 1).isEmpty)=decide (97≤c∧c≤122):=by
 have hl:("abcdefghijklmnopqrstuvwxyz" :Str).length=26:=by decide+kernel
 rw[QA,decide_eq_true_iff];refine(PySem.StrLaws.found_iff _ _).trans ?_;have b2:(⟨#[c]⟩:Str).length=1:=rfl
 constructor
 ·rintro⟨i,bb,bN⟩;rw[hl,b2] at bb;unfold Builtin.Str.subAt at bN;rw[b2,rf i (by omega)] at bN;have:=eq_of_beq bN;have bd:97+i=c:=by simpa using this
  omega
 ·rintro⟨a,b⟩;refine⟨c-97,by rw[hl,b2];omega,?_⟩;unfold Builtin.Str.subAt;rw[b2,rf (c-97) (by omega)];have:97+(c-97)=c:=by omega
  rw[this];exact beq_self_eq_true _
noncomputable def kK (c:Nat):Bool:=decide (97≤c∧c≤122)
theorem ZdX{x:Str}:(∀i∈List.range x.cps.size,kK (x.cps.getD i 0)=true)↔∀c∈x.cps.toList,97≤c∧c≤122:=by
 constructor
 ·intro h c bH;obtain⟨i,bb,rfl⟩:=QX bH;have gf:i<x.cps.size:=by simpa using bb
  have:=of_decide_eq_true (h i (QM.mpr gf));simpa[Array.getD,gf] using this
 ·intro h i bb;have gf:=QM.mp bb;have:=h x.cps[i] (by simp);refine decide_eq_true ?_;simpa[Array.getD,gf] using this
noncomputable def lP (d:Int):List Bool:=(List.range 7).map λk:Nat=>decide ((k:Int)=d)||decide ((k:Int)=6)
section
variable {K:Frag}{H:Hp}{Q:VK}
theorem inT{p:Addr}{x:Int}{ys:List Int}(h:SqT K H p (ys.map V.int))(q:Q (.bl (decide (x∈ys))) H):rIn K false (.int x) (.ref p) H Q:=⟨p,_,rfl,.inr h,rfl,t3 ys,by rw[ZeV];exact q⟩
theorem Yu{d a b:Int}(k:Bool)(bY:decide (d∈[a,b])=k)(q:∀aS,Ze H aS→Q (.bl k) aS):[V.int a,V.int b].length≤sizeLine∧∀p,H p=none→rIn K false (V.int d) (V.ref p) (upd H p (.tup [V.int a,V.int b])) Q:=
 ⟨by show 2≤sizeLine;decide,λp b3=>inT (ys:=[a,b]) (.of Zd) (by rw[bY];exact q _ (cA b3))⟩
end
noncomputable def dueN (dg:List Str) (L:Nat) (dd:Int) (ns:List Int) (x:Str):Int:=
 if dd=0 then(if c9 x=true then(if x∈dg then 1 else-1) else 0)
 else if dd=3 then(if x∈dg then-1 else 0)
 else if(dd=5∨dd=6)∧¬(0≤ns.getD 0 0∧ns.getD 0 0<(dg.length:Int)) then 2
 else if dd=1∧¬((0≤ns.getD 0 0∧ns.getD 0 0<(dg.length:Int))∧(0≤ns.getD 1 0∧ns.getD 1 0<(dg.length:Int))) then 2
 else if(dd=2∨dd=4)∧¬(0≤ns.getD 5 0∧ns.getD 5 0<(L:Int)) then 3
 else if dd=1∧(ns.getD 2 0<1∨ns.getD 3 0<1∨ns.getD 4 0<0) then 4
 else if dd=2∧ns.getD 4 0<0 then 4 else-1
theorem rg:(" !-.0123456789ABCDEFGHIJKLMNOPQRSTUVWXYZ_\n" :Str).length=42:=by decide+kernel
theorem vn:∀i<42,∃c,(" !-.0123456789ABCDEFGHIJKLMNOPQRSTUVWXYZ_\n" :Str).cps.toList[i]? =some c:=λi bb=>⟨_,Qu (by rw[←gE,rg];exact bb)⟩
theorem Zf4{i:Int}(du:0≤i)(a_:i<42):∃c,atI (" !-.0123456789ABCDEFGHIJKLMNOPQRSTUVWXYZ_\n" :Str).cps.toList i=some c:=by
 obtain⟨c,bH⟩:=vn i.toNat (by omega);have:=YF bH;rw[QY du] at this;exact⟨c,this⟩
theorem ZbA{ns:List Str}{k:Int}(du:0≤k)(a_:k<ns.length):atI (ns.map V.str) k=some (.str (ns.getD k.toNat "")):=by
 obtain⟨n,rfl⟩:=Int.eq_ofNat_of_zero_le du;have bM:n<ns.length:=by omega
 refine YF ?_;simp[List.getD,bM]
theorem rh{ns:List Str}{k:Nat}(h:k<ns.length):ns.getD k "" ∈ns:=by simp[List.getD,h]
theorem vo{x:Str}(h:x.length≤8):MulOk x 9:=Q4 8 9 h (by decide) (by decide) (by decide) (by decide)
theorem ZdS{x:Str}(h:x.length≤8):(Txt.mul x 9).length≤72:=by
 have:=PyProof.Rows.len_mul x 9;simp at this;omega
def Wd(hl:HM)(dd:Int)(ns:List Int)(x:Str)(d4:Int):Prop:=
 (dd=0∧((c9 x=false∧d4=0)∨(c9 x=true∧x∈hl.names∧d4=1)∨(c9 x=true∧x∉hl.names∧30≤hl.names.length∧d4=5)))∨
 (dd=1∧5≤ns.length∧((¬(0≤ns.getD 0 0∧ns.getD 0 0<(hl.names.length:Int)∧0≤ns.getD 1 0∧ns.getD 1 0<(hl.names.length:Int))∧d4=2)∨((0≤ns.getD 0 0∧ns.getD 0 0<(hl.names.length:Int)∧0≤ns.getD 1 0∧ns.getD 1 0<(hl.names.length:Int))∧¬(1≤ns.getD 2 0∧1≤ns.getD 3 0∧0≤ns.getD 4 0)∧d4=4)∨((0≤ns.getD 0 0∧ns.getD 0 0<(hl.names.length:Int)∧0≤ns.getD 1 0∧ns.getD 1 0<(hl.names.length:Int))∧(1≤ns.getD 2 0∧1≤ns.getD 3 0∧0≤ns.getD 4 0)∧60≤hl.belts.length∧d4=5)))∨
 (dd=2∧ns.length=6∧((¬(0≤ns.getD 5 0∧ns.getD 5 0<(hl.belts.length:Int))∧d4=3)∨((0≤ns.getD 5 0∧ns.getD 5 0<(hl.belts.length:Int))∧¬0≤ns.getD 4 0∧d4=4)))∨
 (dd=3∧¬(c9 x=true∧x∈hl.names)∧d4=0)∨
 (dd=4∧ns.length=6∧¬(0≤ns.getD 5 0∧ns.getD 5 0<(hl.belts.length:Int))∧d4=3)∨
 ((dd=5∨dd=6)∧ns.length=6∧¬(0≤ns.getD 0 0∧ns.getD 0 0<(hl.names.length:Int))∧d4=2)
theorem Ze6{hl:HM}{dd:Int}{ns:List Int}{x:Str}(eA:ns.length=6)(du:0≤dd)(cR:dd≤6)(hd:0≤dueN hl.names hl.belts.length dd ns x):Wd hl dd ns x (dueN hl.names hl.belts.length dd ns x):=by
 generalize b8:dueN hl.names hl.belts.length dd ns x=v at*;unfold dueN at b8;unfold Wd;have kL:dd=0∨dd=1∨dd=2∨dd=3∨dd=4∨dd=5∨dd=6:=by omega
 rcases kL with rfl|rfl|rfl|rfl|rfl|rfl|rfl
 ·rw[if_pos rfl] at b8;refine .inl ⟨rfl,?_⟩
  by_cases c:c9 x=true
  ·rw[if_pos c] at b8
   by_cases c1:x∈hl.names
   ·rw[if_pos c1] at b8;exact .inr (.inl ⟨c,c1,b8.symm⟩)
   ·rw[if_neg c1] at b8;omega
  ·rw[if_neg c] at b8;exact .inl ⟨Bool.eq_false_iff.mpr c,b8.symm⟩
 ·refine .inr (.inl ⟨rfl,by omega,?_⟩);rw[if_neg (by decide),if_neg (by decide),if_neg (λz=>absurd z.1 (by decide))] at b8;generalize ns.getD 0 0=dP at*;generalize ns.getD 1 0=eP at*;generalize ns.getD 2 0=fN at*;generalize ns.getD 3 0=n3 at*;generalize ns.getD 4 0=n4 at*
  by_cases c:(0≤dP∧dP<(hl.names.length:Int))∧(0≤eP∧eP<(hl.names.length:Int))
  ·rw[if_neg (λz=>z.2 c),if_neg (λz=>absurd z.1 (by decide))] at b8
   by_cases c1:fN<1∨n3<1∨n4<0
   ·rw[if_pos ⟨rfl,c1⟩] at b8;exact .inr (.inl ⟨by omega,by omega,b8.symm⟩)
   ·rw[if_neg (λz=>c1 z.2),if_neg (λz=>absurd z.1 (by decide))] at b8;omega
  ·rw[if_pos ⟨rfl,c⟩] at b8;exact .inl ⟨by omega,b8.symm⟩
 ·refine .inr (.inr (.inl ⟨rfl,eA,?_⟩));rw[if_neg (by decide),if_neg (by decide),if_neg (λz=>absurd z.1 (by decide)),if_neg (λz=>absurd z.1 (by decide))] at b8;generalize ns.getD 5 0=dX at*;generalize ns.getD 4 0=n4 at*
  by_cases c:0≤dX∧dX<(hl.belts.length:Int)
  ·rw[if_neg (λz=>z.2 c),if_neg (λz=>absurd z.1 (by decide))] at b8
   by_cases c1:n4<0
   ·rw[if_pos ⟨rfl,c1⟩] at b8;exact .inr ⟨c,by omega,b8.symm⟩
   ·rw[if_neg (λz=>c1 z.2)] at b8;omega
  ·rw[if_pos ⟨.inl rfl,c⟩] at b8;exact .inl ⟨c,b8.symm⟩
 ·refine .inr (.inr (.inr (.inl ⟨rfl,?_⟩)));rw[if_neg (by decide),if_pos rfl] at b8
  by_cases c:x∈hl.names
  ·rw[if_pos c] at b8;omega
  ·rw[if_neg c] at b8;exact⟨λz=>c z.2,b8.symm⟩
 ·refine .inr (.inr (.inr (.inr (.inl ⟨rfl,eA,?_⟩))));rw[if_neg (by decide),if_neg (by decide),if_neg (λz=>absurd z.1 (by decide)),if_neg (λz=>absurd z.1 (by decide))] at b8
  by_cases c:0≤ns.getD 5 0∧ns.getD 5 0<(hl.belts.length:Int)
  ·rw[if_neg (λz=>z.2 c),if_neg (λz=>absurd z.1 (by decide)),if_neg (λz=>absurd z.1 (by decide))] at b8;omega
  ·rw[if_pos ⟨.inr rfl,c⟩] at b8;exact⟨c,b8.symm⟩
 ·refine .inr (.inr (.inr (.inr (.inr ⟨.inl rfl,eA,?_⟩))));rw[if_neg (by decide),if_neg (by decide)] at b8
  by_cases c:0≤ns.getD 0 0∧ns.getD 0 0<(hl.names.length:Int)
  ·rw[if_neg (λz=>z.2 c),if_neg (λz=>absurd z.1 (by decide)),if_neg (λz=>absurd z.1 (by decide)),if_neg (λz=>absurd z.1 (by decide)),if_neg (λz=>absurd z.1 (by decide))] at b8;omega
  ·rw[if_pos ⟨.inl rfl,c⟩] at b8;exact⟨c,b8.symm⟩
 ·refine .inr (.inr (.inr (.inr (.inr ⟨.inr rfl,eA,?_⟩))));rw[if_neg (by decide),if_neg (by decide)] at b8
  by_cases c:0≤ns.getD 0 0∧ns.getD 0 0<(hl.names.length:Int)
  ·rw[if_neg (λz=>z.2 c),if_neg (λz=>absurd z.1 (by decide)),if_neg (λz=>absurd z.1 (by decide)),if_neg (λz=>absurd z.1 (by decide)),if_neg (λz=>absurd z.1 (by decide))] at b8;omega
  ·rw[if_pos ⟨.inr rfl,c⟩] at b8;exact⟨c,b8.symm⟩
theorem Vj{H aS:Hp}{a:Addr}(s:Ze H aS)(h:aS a=none):H a=none:=by
 cases e:H a with
 |none=>rfl
 |some o=>rw[s _ _ e] at h;cases h
theorem ZdW(ns:List Int)(lo bb:Option Int):fZ (ns.map V.int) lo bb=((ns.drop (HT.sIx ns.length 0 lo)).take (HT.sIx ns.length ns.length bb-HT.sIx ns.length 0 lo)).map V.int:=by
 unfold fZ;rw[Qe,List.map_take,List.map_drop]
noncomputable def ft (k:Nat):Str:=Txt.mul ⟨#[97+k % 26]⟩ (5-(k:Int) / 26)++Txt.mul "z" (3+(k:Int) / 26)
theorem rj:∀k<30,c9 (ft k)=true:=by decide+kernel
theorem rk:∀k<30,(ft k).length=8:=by decide+kernel
theorem vp:∀j<30,∀k<30,ft j=ft k→j=k:=by decide+kernel
theorem vq:∀k<30,ft k≠("yyyyzzzy" :Str):=by decide+kernel
theorem vr:c9 ("yyyyzzzy" :Str)=true:=by decide+kernel
theorem vt:c9 ("yyyyZzzy" :Str)=false:=by decide+kernel
theorem rl:("yyyyzzzy" :Str).length=8:=by decide+kernel
noncomputable def namesF (ns:List Str) (j:Nat):List Str:=ns++(List.range j).map λi=>ft (ns.length+i)
theorem Uy(ns:List Str)(j:Nat):(namesF ns j).length=ns.length+j:=by simp[namesF]
theorem VM(ns:List Str)(j:Nat):namesF ns (j+1)=namesF ns j++ [ft (ns.length+j)]:=by simp[namesF,List.range_succ]
theorem WX{ns:List Str}{j:Nat}{x:Str}(h:x∈namesF ns j):x∈ns∨∃i<j,x=ft (ns.length+i):=by
 rcases Q0.mp h with z|z
 ·exact .inl z
 ·obtain⟨i,bb,rfl⟩:=List.mem_map.mp z;exact .inr ⟨i,QM.mp bb,rfl⟩
theorem Ut{ns:List Str}{j:Nat}(cR:∀n∈ns,n.length≤6)(cN:ns.length+j<30):ft (ns.length+j)∉namesF ns j:=λz=>by
 rcases WX z with y|⟨i,bb,y⟩
 ·have:=cR _ y;rw[rk _ cN] at this;omega
 ·have:=vp _ cN _ (by omega) y;omega
theorem U9{ns:List Str}(nd:ns.Nodup)(cR:∀n∈ns,n.length≤6):∀j,ns.length+j≤30→(namesF ns j).Nodup
 |0,_=>by simpa[namesF] using nd
 |j+1,h=>by
  rw[VM];have ds:=U9 nd cR j (by omega);have vu:=Ut (j:=j) cR (by omega);rw[List.nodup_append];exact⟨ds,by simp,λa bK b a6 e=>vu (by rw[Qp.mp a6] at e;rw[←e];exact bK)⟩
theorem Zdf{ns:List Str}(h:∀n∈ns,c9 n=true){j:Nat}(cN:ns.length+j≤30):∀n∈namesF ns j,c9 n=true:=λn bM=>by
 rcases WX bM with y|⟨i,bb,y⟩
 ·exact h n y
 ·rw[y];exact rj _ (by omega)
theorem Zcb{ns:List Str}(cR:∀n∈ns,n.length≤6){j:Nat}(cN:ns.length+j≤30):("yyyyzzzy" :Str)∉namesF ns j:=λz=>by
 rcases WX z with y|⟨i,bb,y⟩
 ·have:=cR _ y;rw[rl] at this;omega
 ·exact vq _ (by omega) y.symm
theorem vv:∀n:Nat,n≤8→(Builtin.Str.strSliceIndices none (some 6) 1 n).length≤6:=by decide+kernel
theorem vw:∀n:Nat,n≤8→1≤n→0∈Builtin.Str.strSliceIndices none (some 6) 1 n:=by decide+kernel
theorem ZgV{x:Str}(h:c9 x=true):c9 (Txt.slice x none (some 6))=true∧(Txt.slice x none (some 6)).length≤6:=by
 obtain⟨a_,bd,cx⟩:=(hH x).mp h;have eQ:(Txt.slice x none (some 6)).length≤6:=Qn Zc6 (vv _ bd);refine⟨(hH _).mpr ⟨?_,by omega,λc bH=>cx c (vh bH)⟩,eQ⟩;unfold Txt.slice
 split
 ·exact a_
 ·have cd:0<x.cps.size:=a_;have:x.cps[0]∈(Builtin.Str.strSliceIndices none (some 6) 1 x.length).filterMap (x.cps[·]?):=QS.mpr ⟨0,vw _ bd a_,by simp[cd]⟩;have:=List.length_pos_of_mem this;show 1≤(List.toArray _).size;rw[Qa];omega
theorem Zcg{x:Str}(h:c9 x=true):PyData.strOk x=true:=by
 obtain⟨_,_,cx⟩:=(hH x).mp h;unfold PyData.strOk;rw[Array.all_eq_true];intro i bb;have:=cx x.cps[i] (by simp);exact decide_eq_true (by omega)
theorem Uw{K:Frag}{mg:Str→Option Value}{T:Tp K mg}{H:Hp}{p q:Addr}{hl:HM}{fp:List Addr}(h:c6 T H p hl fp)(b7:H q=none):q∉fp:=by
 obtain⟨bI,a,b,bs,rfl,a_,bd,cx,cG,_⟩:=h;intro z;simp only[Qj,List.not_mem_nil,or_false] at z;rcases z with rfl|rfl|rfl|rfl
 ·rw[b7] at a_;cases a_
 ·rw[b7] at bd;cases bd
 ·rw[b7] at cx;cases cx
 ·rw[b7] at cG;cases cG
local macro_rules| `(tactic|walk_at "rd")=>`(tactic|first|with_reducible (first|(show ∃a bI fs,L2.V.ref _=L2.V.ref a∧_∧List.lookup _ fs=none∧_;refine Nm.ZcM (by with_reducible assumption) (by k_dflt (decide+kernel)) (by k_dflt (decide+kernel)) ?_)|refine L2.Rd.ZgL (by with_reducible assumption) (by with_reducible assumption) (by with_reducible assumption) ?_|refine L2.Rd.Zhf (by with_reducible assumption) (by with_reducible assumption) (by with_reducible assumption) ?_)|fail "none here")
def W2{K:Frag}{mg:Str→Option Value}(T:Tp K mg):Sp:=λvs H Q _=>∃(p:Addr)(ns:List Int)(k:Int),vs=[.ref p,.int k]∧SqL K H p (ns.map V.int)∧0≤k∧Q (.int (cellS ns k)) H
theorem ZcX{K:Frag}{mg:Str→Option Value}{T:Tp K mg}{H:Hp}{Q:VK}{E:XK}{p:Addr}{ns:List Int}{k:Int}(fL:SqL K H p (ns.map V.int))(bY:0≤k)(q:Q (.int (cellS ns k)) H):W2 T ([.ref p,.int k]++ []) H Q E:=⟨p,ns,k,rfl,fL,bY,q⟩
local macro_rules| `(tactic|walk_at "rd")=>`(tactic|first|((with_reducible show Nm.W2 _ _ _ _ _);with_reducible refine Nm.ZcX (by walk_at "hp") (by walk_at "side") ?_)|fail "none here")
section
variable {P:Program}{w:World}{K:Frag}{mg:Str→Option Value}{base:Heap}
theorem jB(T:Tp K mg):OkN P w base 1 T.x0 (W2 T):=by
 refine T.x0.F.okX uP (λvs H Q E h=>?_) (λcy A outer s H vs Q E a' h=>?_)
 ·obtain⟨p,ns,k,rfl,_⟩:=h
  rfl
 ·have hu:=a'.hu;obtain⟨p,ns,k,rfl,fL,bY,q⟩:=h;unfold cellS at q;refine⟨_,(ce (c4 (de gm (pv 1) (dj (eg K) (by rfl) T.f Qd (a7 (pv 0) bJ)) (c8 _)) (b' (cP (c3 (ixk K) (pv 0) (pv 1) (λ_ _=>rfl)))) dn)
     (b' (cP Zb))),?_⟩
  try dsimp only[L2.cxX,L2.ZJ,L2.Zm]
  walk_at "rds";refine Rd.ifD (λc=>?_) (λc=>?_)
  ·have c2:k<ns.length:=by simpa using c
   have bK:=ZK bY c2;rw[if_pos c2] at q;walk_at "rds";exact q
  ·have c2:¬k<ns.length:=by simpa using c
   rw[if_neg c2] at q;walk_at "rds";exact q
end
def V3{K:Frag}{mg:Str→Option Value}(T:Tp K mg):Sp:=λvs H Q _=>∃c w:Int,vs=[.int c,.int w]∧0≤w∧w≤1000000∧Q (.int (f9 c w)) H
theorem ZdM{K:Frag}{mg:Str→Option Value}{T:Tp K mg}{H:Hp}{Q:VK}{E:XK}{c w:Int}(du:0≤w)(a_:w≤1000000)(q:∀m,m=f9 c w→0≤m→m<1000003→Q (.int m) H):V3 T ([.int c,.int w]++ []) H Q E:=⟨c,w,rfl,du,a_,q _ rfl (vd c w) (ve c w)⟩
local macro_rules| `(tactic|walk_at "rd")=>`(tactic|first|((with_reducible show Nm.V3 _ _ _ _ _);with_reducible refine Nm.ZdM (by walk_at "side") (by walk_at "side") (λ_ _ _ _=>?_))|fail "none here")
section
variable {P:Program}{w:World}{K:Frag}{mg:Str→Option Value}{base:Heap}
theorem hI(T:Tp K mg):OkN P w base 1 T.x1 (V3 T):=by
 refine T.x1.F.okX q1 (λvs H Q E h=>?_) (λcy A outer s H vs Q E a' h=>?_)
 ·obtain⟨c,w,rfl,_⟩:=h
  rfl
 ·have hu:=a'.hu;obtain⟨c,w,rfl,du,a_,q⟩:=h;refine⟨_,(ce (d7 (i:=2) q1.nd rfl (Or.inl rfl) (b4 dr (b4 (dG K) (b4 js (pv 0) Zb) (b4 js (pv 1) Zb)) Zb))
     (b' (cP (b4 dr (b4 js (pv 2) (b4 (dG K) Zb (b4 js Zb (pv 1)))) Zb)))),?_⟩
  try dsimp only[L2.cxX,L2.ZJ,L2.Zm]
  walk_at "rds";rw[Zev];exact q
end
def vx{K:Frag}{mg:Str→Option Value}(T:Tp K mg):Sp:=λvs H Q _=>∃c w:Int,vs=[.int c,.int w]∧0≤w∧w≤1000∧∀x aS,c9 x=true→Ze H aS→Q (.str x) aS
section
variable {P:Program}{w:World}{K:Frag}{mg:Str→Option Value}{base:Heap}
theorem rm(T:Tp K mg):OkN P w base 2 T.x2 (vx T):=by
 refine T.x2.F.okX nP (λvs H Q E h=>?_) (λcy A outer s H vs Q E a' h=>?_)
 ·obtain⟨c,w,rfl,_⟩:=h
  rfl
 ·have hu:=a'.hu;obtain⟨c,w,rfl,du,a_,q⟩:=h;have al:=q8;refine⟨_,(ce (d7 (i:=2) nP.nd rfl (Or.inr rfl) ZI)
     (ce (d7 (i:=3) nP.nd rfl (Or.inl rfl) (b4 (dG K) Zb (b4 dr (cU T.x1 (hI T) a' cB (a7 (pv 0) (a7 (b4 (dG K) (pv 1) Zb) bJ))) Zb)))
     (b' (cP (hD (K:=K) rfl PySem.F.plainAttrs_str PySem.F.slot_str_join PySem.F.type_str_join (t6 (K:=K) rfl) ZI (a7 (nk rfl (jt (x:="_law_k") (zs:=["_law_cell_here","_law_way","_law_letters"]) (ix:=[0,1,2]) (cT nJ) ["_law_cell_here","_law_way","_law_letters","_law_size"] rfl rfl (by decide+kernel)) (jb rfl T.m (a7 (pv 3) bJ)) (λcl C s H fp=>⟨(fh (i:=0) (show(["_law_k","_law_cell_here","_law_way","_law_letters"]:List Str).Nodup by decide+kernel) rfl (Or.inl rfl)),mZ,(c3 (ixk K) (pv 3) (b4 dr (cU T.x1 (hI T) a' ZfQ (a7 (pv 1) (a7 (b4 (dG K) (pv 2) (b4 js Zb (pv 0))) bJ))) Zb) (λ_ _=>rfl))⟩)) bJ)))))),?_⟩
  try dsimp only[L2.cxX,L2.ZJ,L2.Zm]
  walk_at "rds";rename_i lQ hmx mx0 mx1;refine⟨rfl,?_⟩;walk_at "rds";refine Ws (pX (lo:=0) (n:=(1+lQ % 8).toNat)) (eF (by omega)) (λ_=>true) (λi=> .str ⟨#[97+(f9 c (w+5*(0+(i:Int))) % 26).toNat]⟩) (λi aS en bb cQ k=>?_) (λi aS en bb _ cQ k=>?_) (λp aS b3 cQ hl=>?_)
  ·walk_at "rds";exact k aS (Ze.refl aS)
  ·walk_at "rds";rename_i z9 hmz mz0 mz1;refine Rd.ZdD al (q9 (by omega) (by omega)) ?_;rw[hmz];exact k aS (Ze.refl aS)
  ·rw[List.filter_eq_self.mpr (by simp)] at hl;have bM:(1+lQ % 8).toNat≤8∧1≤(1+lQ % 8).toNat:=by omega
   generalize (1+lQ % 8).toNat=n at*;have g0:aS p=some (.lst (((List.range n).map λi:Nat=>(⟨#[97+(f9 c (w+5*(0+(i:Int))) % 26).toNat]⟩:Str)).map V.str)):=by
    rw[hl,QV];rfl
   walk_at "rds";refine⟨"",p,_,rfl,rfl,.of g0,?_,?_⟩
   ·rw[QV];have:((λx:Str=>x.length)∘λi:Nat=>(⟨#[97+(f9 c (w+5*(0+(i:Int))) % 26).toNat]⟩:Str))=λ_=>1:=rfl;rw[this];have e:∀l:List Nat,(l.map λ_=>1).sum=l.length:=λl=>by
     induction l with
     |nil=>rfl
     |cons a l ds=>rw[List.map_cons,List.sum_cons,ds,List.length_cons];omega
    rw[e,List.length_range];have:("" :Str).length=0:=rfl;rw[this];simp;omega
   ·refine q _ aS (vg bM.2 bM.1 λi=>?_) cQ;have:=QI (f9 c (w+5*(0+(i:Int)))) (show(26:Int)≠0 by decide);have:=QE (f9 c (w+5*(0+(i:Int)))) (show(0:Int)<26 by decide);omega
end
def vy{K:Frag}{mg:Str→Option Value}(T:Tp K mg):Sp:=λvs H Q _=>∃(cC:Addr)(dg:List Str)(c w:Int),vs=[.ref cC,.int c,.int w]∧SqL K H cC (dg.map V.str)∧1≤dg.length∧dg.length≤30∧(∀n∈dg,n.length≤8)∧0≤w∧w≤900∧∀(x:Str)(aS:Hp),x.length≤1000→Ze H aS→Q (.str x) aS
section
variable {P:Program}{w:World}{K:Frag}{mg:Str→Option Value}{base:Heap}
theorem vz(T:Tp K mg):OkN P w base 3 T.x3 (vy T):=by
 refine T.x3.F.okX kG (λvs H Q E h=>?_) (λcy A outer s H vs Q E a' h=>?_)
 ·obtain⟨cC,dg,c,w,rfl,_⟩:=h
  rfl
 ·have hu:=a'.hu;obtain⟨cC,dg,c,w,rfl,bM,a_,z_,nY,gi,iw,q⟩:=h;have rn:=rg;refine⟨_,(ce (d7 (i:=3) kG.nd rfl (Or.inl rfl) (cU T.x1 (hI T) a' cB (a7 (pv 1) (a7 (pv 2) bJ))))
     (ce (d7 (i:=4) kG.nd rfl (Or.inl rfl) (cU T.x2 (rm T) a' cB (a7 (pv 1) (a7 (b4 (dG K) (pv 2) Zb) bJ))))
     (ce (d7 (i:=5) kG.nd rfl (Or.inl rfl) ZI)
     (ce (c4 (de (d_ (K:=K) rfl hu) (b4 dr (pv 3) Zb) Zb (c8 _)) (b' (cP (c3 (ixk K) (pv 0) (b4 dr (b4 gu (pv 3) Zb) (dj (eg K) (by rfl) T.f Qd (a7 (pv 0) bJ))) (λ_ _=>rfl)))) dn)
     (ce (c4 (de (d_ (K:=K) rfl hu) (b4 dr (pv 3) Zb) Zb (c8 _)) (b' (cP (jj (jv (K:=K) rfl) (b4 nI (pv 4) Zb) kd (iu (b4 (dG K) Zb (b4 dr (b4 gu (pv 3) Zb) Zb)))))) dn)
     (ce (c4 (de (d_ (K:=K) rfl hu) (b4 dr (pv 3) Zb) Zb (c8 _)) (ce (d7 (i:=6) kG.nd rfl (Or.inl rfl) (b4 dr (b4 gu (pv 3) Zb) (b4 (dG K) (dj (eg K) (by rfl) T.f Qd (a7 (pv 4) bJ)) Zb)))
     (b' (cP (b4 (dG K) (b4 (dG K) (jj (jv (K:=K) rfl) (pv 4) kd (iu (pv 6))) (c3 (ixk K) (pv 5) (b4 dr (b4 gu (pv 3) Zb) (dj (eg K) (by rfl) T.f Qd (a7 (pv 5) bJ))) (λ_ _=>rfl))) (jj (jv (K:=K) rfl) (pv 4) (iu (pv 6)) kd))))) dn)
     (b' (cP (c3 (ixk K) (el (a7 ZI (a7 (pv 4) bJ))) (mH sK (by rfl) T.bl PyProof.Rows.boot_int (a7 (gW (d_ (K:=K) rfl hu) (b4 dr (pv 3) Zb) Zb (c8 _)) bJ)) (λ_ _=>rfl)))))))))),?_⟩
  try dsimp only[L2.cxX,L2.ZJ,L2.Zm]
  walk_at "rds";rename_i fq hdr kM d1;refine⟨c,w+1,rfl,by omega,by omega,λx a1 bc bj=>?_⟩;have eW:=bj.seq bM;have lR:=((hH x).mp bc).2.1;have h3:((dg.map V.str).length:Int)=(dg.length:Int):=by simp
  clear hdr;walk_at "rds";have z':1000≤sizeLine:=by decide
  by_cases rp:fq % 5=0
  ·rw[decide_eq_true rp];walk_at "rds";rw[h3];have fY:=QI (fq / 5) (show(dg.length:Int)≠0 by omega);have gb:=QE (fq / 5) (show(0:Int)<(dg.length:Int) by omega);generalize fq / 5 % (dg.length:Int)=k at*;have eB:=ZbA (ns:=dg) (k:=k) fY gb;have bY:=nY _ (rh (ns:=dg) (k:=k.toNat) (by omega));walk_at "rds";exact q _ a1 (by omega) bj
  ·rw[decide_eq_false rp];walk_at "rds"
   by_cases dV:fq % 5=1
   ·rw[decide_eq_true dV];walk_at "rds";refine⟨x,9,rfl,rfl,vo lR,?_⟩;walk_at "rds";have bZ:=ZdS lR;refine Rd.slS (by omega) ?_;have bN:=Txt.slice_le (Txt.mul x 9) none (some (9+fq / 5 % 3));exact q _ a1 (by omega) bj
   ·rw[decide_eq_false dV];walk_at "rds"
    by_cases c1:fq % 5=2
    ·rw[decide_eq_true c1];walk_at "rds";rw[rn];obtain⟨eo,i7⟩:=Zf4 (i:=fq / 45 % ((42:Nat):Int)) (by omega) (by omega);have fY:=QI (fq / 5) (show(x.length:Int)+1≠0 by omega);have gb:=QE (fq / 5) (show(0:Int)<(x.length:Int)+1 by omega);generalize fq / 5 % ((x.length:Int)+1)=k at*;refine Rd.ZdD (by rw[rn];omega) i7 ?_;have Aa:=Txt.slice_le x none (some k);have gT:=Txt.slice_le x (some k) none;have lS:(⟨#[eo]⟩:Str).length=1:=rfl;refine Rd.ZdL (by omega) ?_;have jC:(Txt.slice x none (some k)++(⟨#[eo]⟩:Str)).length≤9:=by rw[gE,kJ,Qg,←gE,←gE];omega
     walk_at "rds";refine q _ a1 ?_ bj;rw[gE,kJ,Qg,←gE,←gE];omega
    ·rw[decide_eq_false c1];walk_at "rds";refine⟨by show 2≤sizeLine;decide,λfu kN=>?_⟩;have bQ:Ze a1 (upd a1 fu (.lst [.str "",.str x])):=cA kN;have fr:(upd a1 fu (.lst [.str "",.str x])) fu=some (.lst (([("" :Str),x]).map V.str)):=Zd;generalize upd a1 fu (.lst [.str "",.str x])=a8 at*;have jD:=SqL.of (K:=K) fr;have kO:atI (([("" :Str),x]).map V.str) 0=some (.str ""):=rfl;have eB:atI (([("" :Str),x]).map V.str) 1=some (.str x):=rfl;walk_at "rds";refine .inr ⟨_,rfl,?_⟩
     by_cases iO:fq % 5=3
     ·rw[decide_eq_true iO];show rIx K (V.ref fu) (.int 1) a8 _;walk_at "rds";exact q _ a8 (by omega) (bj.trans bQ)
     ·rw[decide_eq_false iO];show rIx K (V.ref fu) (.int 0) a8 _;walk_at "rds";exact q _ a8 (by show("" :Str).length≤1000;decide) (bj.trans bQ)
end
def vA{K:Frag}{mg:Str→Option Value}(T:Tp K mg):Sp:=λvs H Q _=>∃x:Str,vs=[.str x]∧x.length≤1000∧∀aS,Ze H aS→Q (.bl (c9 x)) aS
section
variable {P:Program}{w:World}{K:Frag}{mg:Str→Option Value}{base:Heap}
theorem rq(T:Tp K mg):OkN P w base 1 T.x4 (vA T):=by
 refine T.x4.F.okX q2 (λvs H Q E h=>?_) (λcy A outer s H vs Q E a' h=>?_)
 ·obtain⟨x,rfl,_⟩:=h
  rfl
 ·have hu:=a'.hu;obtain⟨x,rfl,bc,q⟩:=h;have kP:x.length≤sizeLine:=QK (eF bc);refine⟨_,(ce (tK (j:=1) rfl (jt (x:="_law_sign") (zs:=[]) (ix:=[]) (cT nK) ["_law_name_here","_law_good"] rfl rfl (by decide+kernel)) (pZ (pv 0)) (λcl C s H fp=>⟨(fh (i:=0) (show(["_law_sign"]:List Str).Nodup by decide+kernel) rfl (Or.inl rfl)),(m0 (de sG (pv 0) ZI (by with_unfolding_all rfl))),(pv 0)⟩) q2.nd rfl (Or.inl rfl))
     (b' (cP (uK jf (d_ (K:=K) rfl hu) jf Zb (dj (eg K) (by rfl) T.f Qd (a7 (pv 1) bJ)) (dj (eg K) (by rfl) T.f Qd (a7 (pv 0) bJ)) Zb)))),?_⟩
  try dsimp only[L2.cxX,L2.ZJ,L2.Zm]
  walk_at "rds";have hsz:x.cps.size=x.length:=rfl;have bM:x.cps.size<sizeLine:=eF (by omega);refine Ws Zac bM (λi=>kK (x.cps.getD i 0)) (λi=> .str ⟨#[x.cps.getD i 0]⟩) (λi aS en bb cQ k=>?_) (λi aS en bb _ cQ k=>?_) (λAb a1 hgd bj vB=>?_)
  ·have e:kK (x.cps.getD i 0)=decide (97≤x.cps.getD i 0∧x.cps.getD i 0≤122):=rfl;walk_at "rds";refine⟨_,_,rfl,rfl,?_⟩;rw[Zfl,←e];walk_at "rds";exact k aS (Ze.refl aS)
  ·walk_at "rds";exact k aS (Ze.refl aS)
  have Ac:=SqL.of (K:=K) vB;generalize rr:((List.range x.cps.size).filter λi=>kK (x.cps.getD i 0))=gl at*;have rs:gl.length≤x.length:=by
   rw[←rr];exact Qn (Q3 _ _) (by rw[List.length_range];exact Qc _)
  have iy:gl.length=x.length↔∀c∈x.cps.toList,97≤c∧c≤122:=by
   rw[←rr,←ZdX];have e:=List.length_filter_eq_length_iff (p:=λi=>kK (x.cps.getD i 0)) (l:=List.range x.cps.size);rw[List.length_range] at e;rw[show x.length=x.cps.size from rfl,e]
  have vC:(gl.map λi=>V.str ⟨#[x.cps.getD i 0]⟩).length=gl.length:=Qe _;walk_at "rds";refine Rd.Zfz ?_;walk_at "rds";have lv:¬(1≤x.length∧x.length≤8∧∀c∈x.cps.toList,97≤c∧c≤122)→c9 x=false:=λz=>by
   cases e:c9 x with
   |false=>rfl
   |true=>exact absurd ((hH x).mp e) z
  rw[vC];refine Rd.ifD (λdV=>?_) (λdV=>?_)
  ·walk_at "rds";refine Rd.ifD (λc1=>?_) (λc1=>?_)
   ·walk_at "rds";have cs:gl.length=x.length:=by omega
    have e:c9 x=decide ((x.length:Int)≤8):=by
     rw[QA,hH,decide_eq_true_iff]
     constructor
     ·rintro⟨_,b,_⟩;omega
     ·intro b;exact⟨by omega,by omega,iy.mp cs⟩
    rw[←e];exact q a1 bj
   ·walk_at "rds";rw[←lv (λz=>c1 (by have:=iy.mpr z.2.2;omega))];exact q a1 bj
  ·walk_at "rds";rw[←lv (λz=>dV (by have:=iy.mpr z.2.2;have:=z.1;omega))];exact q a1 bj
end
def vD{K:Frag}{mg:Str→Option Value}(T:Tp K mg):Sp:=λvs H Q _=>∃(cC cJ a:Addr)(dg:List Str)(bs:List V)(dd:Int)(ns:List Int)(x:Str),vs=[.ref cC,.ref cJ,.int dd,.ref a,.str x]∧SqL K H cC (dg.map V.str)∧SqL K H cJ bs∧SqL K H a (ns.map V.int)∧ns.length=6∧0≤dd∧dd≤6∧x.length≤1000∧∀aS,Ze H aS→Q (.int (dueN dg bs.length dd ns x)) aS
section
variable {P:Program}{w:World}{K:Frag}{mg:Str→Option Value}{base:Heap}
theorem vE(T:Tp K mg):OkN P w base 2 T.x5 (vD T):=by
 refine T.x5.F.okX uQ (λvs H Q E h=>?_) (λcy A outer s H vs Q E a' h=>?_)
 ·obtain⟨cC,cJ,a,dg,bs,dd,ns,x,rfl,_⟩:=h
  rfl
 ·have hu:=a'.hu;obtain⟨cC,cJ,a,dg,bs,dd,ns,x,rfl,bM,a6,bK,hl,kM,nZ,bc,q⟩:=h;have kO:atI (ns.map V.int) 0=some (.int (ns.getD 0 0)):=ZK (ns:=ns) (k:=0) (by omega) (by omega);have eB:atI (ns.map V.int) 1=some (.int (ns.getD 1 0)):=ZK (ns:=ns) (k:=1) (by omega) (by omega);have ru:atI (ns.map V.int) 2=some (.int (ns.getD 2 0)):=ZK (ns:=ns) (k:=2) (by omega) (by omega);have rv:atI (ns.map V.int) 3=some (.int (ns.getD 3 0)):=ZK (ns:=ns) (k:=3) (by omega) (by omega);have n0:atI (ns.map V.int) 4=some (.int (ns.getD 4 0)):=ZK (ns:=ns) (k:=4) (by omega) (by omega);have rx:atI (ns.map V.int) 5=some (.int (ns.getD 5 0)):=ZK (ns:=ns) (k:=5) (by omega) (by omega);have fG:((dg.map V.str).length:Int)=(dg.length:Int):=by simp
  have kL:dd=0∨dd=3∨dd=1∨dd=2∨dd=4∨dd=5∨dd=6:=by omega
  refine⟨_,(ce (c4 (de (d_ (K:=K) rfl hu) (pv 2) Zb (c8 _)) (ce (c4 (eC (eV (K:=K) rfl (cU T.x4 (rq T) a' cB (a7 (pv 4) bJ)) (λ_=>rfl))) (b' (cP Zb)) dn)
     (b' (cP (mh (de (nv (K:=K) rfl) (pv 4) (pv 0) (by with_unfolding_all rfl)) Zb (gU gV Zb))))) dn)
     (ce (c4 (de (d_ (K:=K) rfl hu) (pv 2) Zb (c8 _)) (b' (cP (mh (de (p9 (K:=K) rfl) (pv 4) (pv 0) (by with_unfolding_all rfl)) Zb (gU gV Zb)))) dn)
     (ce (c4 (PW.pt (ig (de (nv (K:=K) rfl) (pv 2) (hT (a7 Zb (a7 Zb bJ))) (by with_unfolding_all rfl)) (ie (eC (lp jf gm Zb (c3 (ixk K) (pv 3) Zb (λ_ _=>rfl)) (dj (eg K) (by rfl) T.f Qd (a7 (pv 0) bJ))))))) (b' (cP Zb)) dn)
     (ce (c4 (PW.pt (ig (de (d_ (K:=K) rfl hu) (pv 2) Zb (c8 _)) (ie (eC (PW.pt (ig (lp jf gm Zb (c3 (ixk K) (pv 3) Zb (λ_ _=>rfl)) (dj (eg K) (by rfl) T.f Qd (a7 (pv 0) bJ))) (ie (lp jf gm Zb (c3 (ixk K) (pv 3) Zb (λ_ _=>rfl)) (dj (eg K) (by rfl) T.f Qd (a7 (pv 0) bJ)))))))))) (b' (cP Zb)) dn)
     (ce (c4 (PW.pt (ig (de (nv (K:=K) rfl) (pv 2) (hT (a7 Zb (a7 Zb bJ))) (by with_unfolding_all rfl)) (ie (eC (lp jf gm Zb (c3 (ixk K) (pv 3) Zb (λ_ _=>rfl)) (dj (eg K) (by rfl) T.f Qd (a7 (pv 1) bJ))))))) (b' (cP Zb)) dn)
     (ce (c4 (PW.pt (ig (de (d_ (K:=K) rfl hu) (pv 2) Zb (c8 _)) (ie (PW.pt (ih (de gm (c3 (ixk K) (pv 3) Zb (λ_ _=>rfl)) Zb (c8 _)) (ih (de gm (c3 (ixk K) (pv 3) Zb (λ_ _=>rfl)) Zb (c8 _)) (i' (de gm (c3 (ixk K) (pv 3) Zb (λ_ _=>rfl)) Zb (c8 _))))))))) (b' (cP Zb)) dn)
     (b' (cP (mh (PW.pt (ig (de (d_ (K:=K) rfl hu) (pv 2) Zb (c8 _)) (ie (de gm (c3 (ixk K) (pv 3) Zb (λ_ _=>rfl)) Zb (c8 _))))) Zb (gU gV Zb)))))))))),?_⟩
  try dsimp only[L2.cxX,L2.ZJ,L2.Zm]
  unfold dueN at q;generalize ns.getD 0 0=dP at*;generalize ns.getD 1 0=eP at*;generalize ns.getD 2 0=fN at*;generalize ns.getD 3 0=n3 at*;generalize ns.getD 4 0=n4 at*;generalize ns.getD 5 0=dX at*;rcases kL with rfl|rfl|rfl|rfl|rfl|rfl|rfl
  ·walk_at "rds";refine⟨x,rfl,bc,λa1 bj=>?_⟩;have eW:=bj.seq bM;rw[if_pos rfl] at q
   by_cases c:c9 x=true
   ·rw[c];rw[if_pos c] at q;walk_at "rds";unfold tIf;walk_at "rds";refine Rd.ifD (λc1=>?_) (λc1=>?_)
    ·rw[if_pos c1] at q;walk_at "rds";exact q a1 bj
    ·rw[if_neg c1] at q;walk_at "rds";exact q a1 bj
   ·rw[Bool.eq_false_iff.mpr c];rw[if_neg c] at q;walk_at "rds";exact q a1 bj
  ·rw[if_neg (by decide),if_pos rfl] at q;walk_at "rds";unfold tIf;walk_at "rds"
   by_cases c1:x∈dg
   ·rw[if_pos c1] at q;rw[if_neg (by simp[c1])];walk_at "rds";exact q H (Ze.refl H)
   ·rw[if_neg c1] at q;rw[if_pos (by simp[c1])];walk_at "rds";exact q H (Ze.refl H)
  ·walk_at "rds";refine Yu false (by decide) (λa1 bj=>?_);have eW:=bj.seq bM;have g8:=bj.seq a6;have iP:=bj.seq bK;have cv:¬((0≤dP∧dP<(dg.length:Int))∧(0≤eP∧eP<(dg.length:Int)))→∀aS,Ze H aS→Q (.int 2) aS:=λc aS s'=>by simpa[c] using q aS s'
   have fX:((0≤dP∧dP<(dg.length:Int))∧(0≤eP∧eP<(dg.length:Int)))→(fN<1∨n3<1∨n4<0)→∀aS,Ze H aS→Q (.int 4) aS:=λc d aS s'=>by simpa[c,d] using q aS s'
   have e1:((0≤dP∧dP<(dg.length:Int))∧(0≤eP∧eP<(dg.length:Int)))→¬(fN<1∨n3<1∨n4<0)→∀aS,Ze H aS→Q (.int (-1)) aS:=λc d aS s'=>by simpa[c,d] using q aS s'
   clear q;walk_at "rds"
   by_cases dV:0≤dP
   ·rw[decide_eq_true dV];walk_at "rds"
    by_cases c1:dP<(dg.length:Int)
    ·rw[decide_eq_true (by first|exact c1|rwa [fG])];walk_at "rds"
     by_cases iO:0≤eP
     ·rw[decide_eq_true iO];walk_at "rds"
      by_cases ry:eP<(dg.length:Int)
      ·rw[decide_eq_true (by first|exact ry|rwa [fG])];walk_at "rds";refine Yu false (by decide) (λa8 bQ=>?_);have gp:=bQ.seq eW;have rz:=bQ.seq g8;have rA:=bQ.seq iP;walk_at "rds"
       by_cases rB:fN<1
       ·rw[decide_eq_true rB];walk_at "rds";exact fX (by omega) (by omega) _ (bj.trans bQ)
       ·rw[decide_eq_false rB];walk_at "rds"
        by_cases kQ:n3<1
        ·rw[decide_eq_true kQ];walk_at "rds";exact fX (by omega) (by omega) _ (bj.trans bQ)
        ·rw[decide_eq_false kQ];walk_at "rds"
         by_cases kR:n4<0
         ·rw[decide_eq_true kR];walk_at "rds";exact fX (by omega) (by omega) _ (bj.trans bQ)
         ·rw[decide_eq_false kR];walk_at "rds";unfold tIf;walk_at "rds";exact e1 (by omega) (by omega) _ (bj.trans bQ)
      ·rw[decide_eq_false (by first|exact ry|rwa [fG])];walk_at "rds";exact cv (by omega) _ bj
     ·rw[decide_eq_false iO];walk_at "rds";exact cv (by omega) _ bj
    ·rw[decide_eq_false (by first|exact c1|rwa [fG])];walk_at "rds";exact cv (by omega) _ bj
   ·rw[decide_eq_false dV];walk_at "rds";exact cv (by omega) _ bj
  ·walk_at "rds";refine Yu false (by decide) (λa1 bj=>?_);have eW:=bj.seq bM;have g8:=bj.seq a6;have iP:=bj.seq bK;walk_at "rds";refine Yu true (by decide) (λa8 bQ=>?_);have gp:=bQ.seq eW;have rz:=bQ.seq g8;have rA:=bQ.seq iP;have d2:¬(0≤dX∧dX<(bs.length:Int))→∀aS,Ze H aS→Q (.int 3) aS:=λc aS s'=>by simpa[c] using q aS s'
   have fX:(0≤dX∧dX<(bs.length:Int))→n4<0→∀aS,Ze H aS→Q (.int 4) aS:=λc d aS s'=>by simpa[c,d] using q aS s'
   have e1:(0≤dX∧dX<(bs.length:Int))→¬n4<0→∀aS,Ze H aS→Q (.int (-1)) aS:=λc d aS s'=>by simpa[c,d] using q aS s'
   clear q;walk_at "rds"
   by_cases dV:0≤dX
   ·rw[decide_eq_true dV];walk_at "rds"
    by_cases c1:dX<(bs.length:Int)
    ·rw[decide_eq_true (by first|exact c1|rwa [fG])];walk_at "rds";unfold tIf;walk_at "rds"
     by_cases kR:n4<0
     ·rw[decide_eq_true kR];walk_at "rds";exact fX (by omega) (by omega) _ (bj.trans bQ)
     ·rw[decide_eq_false kR];walk_at "rds";exact e1 (by omega) (by omega) _ (bj.trans bQ)
    ·rw[decide_eq_false (by first|exact c1|rwa [fG])];walk_at "rds";exact d2 (by omega) _ (bj.trans bQ)
   ·rw[decide_eq_false dV];walk_at "rds";exact d2 (by omega) _ (bj.trans bQ)
  ·walk_at "rds";refine Yu false (by decide) (λa1 bj=>?_);have eW:=bj.seq bM;have g8:=bj.seq a6;have iP:=bj.seq bK;walk_at "rds";refine Yu true (by decide) (λa8 bQ=>?_);have gp:=bQ.seq eW;have rz:=bQ.seq g8;have rA:=bQ.seq iP;have d2:¬(0≤dX∧dX<(bs.length:Int))→∀aS,Ze H aS→Q (.int 3) aS:=λc aS s'=>by simpa[c] using q aS s'
   have e1:(0≤dX∧dX<(bs.length:Int))→∀aS,Ze H aS→Q (.int (-1)) aS:=λc aS s'=>by simpa[c] using q aS s'
   clear q;walk_at "rds"
   by_cases dV:0≤dX
   ·rw[decide_eq_true dV];walk_at "rds"
    by_cases c1:dX<(bs.length:Int)
    ·rw[decide_eq_true (by first|exact c1|rwa [fG])];walk_at "rds";unfold tIf;walk_at "rds";exact e1 (by omega) _ (bj.trans bQ)
    ·rw[decide_eq_false (by first|exact c1|rwa [fG])];walk_at "rds";exact d2 (by omega) _ (bj.trans bQ)
   ·rw[decide_eq_false dV];walk_at "rds";exact d2 (by omega) _ (bj.trans bQ)
  ·walk_at "rds";refine Yu true (by decide) (λa1 bj=>?_);have eW:=bj.seq bM;have g8:=bj.seq a6;have iP:=bj.seq bK;have cv:¬(0≤dP∧dP<(dg.length:Int))→∀aS,Ze H aS→Q (.int 2) aS:=λc aS s'=>by simpa[c] using q aS s'
   have e1:(0≤dP∧dP<(dg.length:Int))→∀aS,Ze H aS→Q (.int (-1)) aS:=λc aS s'=>by simpa[c] using q aS s'
   clear q;walk_at "rds"
   by_cases dV:0≤dP
   ·rw[decide_eq_true dV];walk_at "rds"
    by_cases c1:dP<(dg.length:Int)
    ·rw[decide_eq_true (by first|exact c1|rwa [fG])];walk_at "rds";refine Yu false (by decide) (λa8 bQ=>?_);walk_at "rds";unfold tIf;walk_at "rds";exact e1 (by omega) _ (bj.trans bQ)
    ·rw[decide_eq_false (by first|exact c1|rwa [fG])];walk_at "rds";exact cv (by omega) _ bj
   ·rw[decide_eq_false dV];walk_at "rds";exact cv (by omega) _ bj
  ·walk_at "rds";refine Yu true (by decide) (λa1 bj=>?_);have eW:=bj.seq bM;have g8:=bj.seq a6;have iP:=bj.seq bK;have cv:¬(0≤dP∧dP<(dg.length:Int))→∀aS,Ze H aS→Q (.int 2) aS:=λc aS s'=>by simpa[c] using q aS s'
   have e1:(0≤dP∧dP<(dg.length:Int))→∀aS,Ze H aS→Q (.int (-1)) aS:=λc aS s'=>by simpa[c] using q aS s'
   clear q;walk_at "rds"
   by_cases dV:0≤dP
   ·rw[decide_eq_true dV];walk_at "rds"
    by_cases c1:dP<(dg.length:Int)
    ·rw[decide_eq_true (by first|exact c1|rwa [fG])];walk_at "rds";refine Yu false (by decide) (λa8 bQ=>?_);walk_at "rds";unfold tIf;walk_at "rds";exact e1 (by omega) _ (bj.trans bQ)
    ·rw[decide_eq_false (by first|exact c1|rwa [fG])];walk_at "rds";exact cv (by omega) _ bj
   ·rw[decide_eq_false dV];walk_at "rds";exact cv (by omega) _ bj
end
def vF{K:Frag}{mg:Str→Option Value}(T:Tp K mg):Sp:=λvs H Q _=>∃(m c w:Int),vs=[.int m,.int c,.int w]∧0≤m∧0≤w∧w≤1000∧∀(n:Int)(aS:Hp),Ze H aS→Q (.int n) aS
section
variable {P:Program}{w:World}{K:Frag}{mg:Str→Option Value}{base:Heap}
theorem n1(T:Tp K mg):OkN P w base 2 T.x6 (vF T):=by
 refine T.x6.F.okX q3 (λvs H Q E h=>?_) (λcy A outer s H vs Q E a' h=>?_)
 ·obtain⟨m,c,w,rfl,_⟩:=h
  rfl
 ·have hu:=a'.hu;obtain⟨m,c,w,rfl,fY,gi,iw,q⟩:=h;refine⟨_,(ce (d7 (i:=3) q3.nd rfl (Or.inl rfl) (cU T.x1 (hI T) a' cB (a7 (pv 1) (a7 (pv 2) bJ))))
     (ce (c4 (PW.pt (ig (de mu (b4 dr (pv 3) Zb) Zb (c8 _)) (ie (de mu (pv 0) Zb (c8 _))))) (b' (cP (b4 dr (b4 gu (pv 3) Zb) (pv 0)))) dn)
     (b' (cP (c3 (ixk K) (el (a7 (pv 0) (a7 (gU gV Zb) (a7 (b4 (dG K) (pv 0) (b4 dr (pv 1) (b4 je Zb Zb))) (a7 (b4 j6 (gU gV Zb) (b4 dr (pv 1) (b4 je Zb Zb))) bJ))))) (b4 dr (b4 gu (pv 3) Zb) Zb) (λ_ _=>rfl)))))),?_⟩
  try dsimp only[L2.cxX,L2.ZJ,L2.Zm]
  walk_at "rds";rename_i fq kM d1 nG;refine Rd.ifD (λb2=>?_) (λb2=>?_)
  ·walk_at "rds";refine Rd.ifD (λci=>?_) (λci=>?_)
   ·walk_at "rds";exact q _ H (Ze.refl H)
   ·walk_at "rds";refine⟨by show 4≤sizeLine;decide,λfu kN=>?_⟩;generalize c % 10 ^ Int.toNat 29=y at*;have bj:Ze H (upd H fu (.lst [.int m,.int (-1),.int (m+y),.int (-1-y)])):=cA kN;have h2:(upd H fu (.lst [.int m,.int (-1),.int (m+y),.int (-1-y)])) fu=some (.lst (([m,-1,m+y,-1-y]:List Int).map V.int)):=Zd;generalize upd H fu (.lst [.int m,.int (-1),.int (m+y),.int (-1-y)])=a1 at*;have cG:([m,-1,m+y,-1-y]:List Int).length=4:=rfl;generalize ([m,-1,m+y,-1-y]:List Int)=fv at*;have jD:=SqL.of (K:=K) h2;have eB:=ZK (ns:=fv) (k:=fq / 3 % 4) (by omega) (by omega);walk_at "rds";exact q _ a1 bj
  ·walk_at "rds";refine⟨by show 4≤sizeLine;decide,λfu kN=>?_⟩;generalize c % 10 ^ Int.toNat 29=y at*;have bj:Ze H (upd H fu (.lst [.int m,.int (-1),.int (m+y),.int (-1-y)])):=cA kN;have h2:(upd H fu (.lst [.int m,.int (-1),.int (m+y),.int (-1-y)])) fu=some (.lst (([m,-1,m+y,-1-y]:List Int).map V.int)):=Zd;generalize upd H fu (.lst [.int m,.int (-1),.int (m+y),.int (-1-y)])=a1 at*;have cG:([m,-1,m+y,-1-y]:List Int).length=4:=rfl;generalize ([m,-1,m+y,-1-y]:List Int)=fv at*;have jD:=SqL.of (K:=K) h2;have eB:=ZK (ns:=fv) (k:=fq / 3 % 4) (by omega) (by omega);walk_at "rds";exact q _ a1 bj
end
def vG(K:Frag)(H:Hp)(v:V):Prop:=∃t,Yh K H v t∧PySem.W.kitOne K t (.type "str")=some false
def vH{K:Frag}{mg:Str→Option Value}(T:Tp K mg):Sp:=λvs H Q _=>∃v:V,vs=[v]∧((∃x:Str,v= .str x∧x.length≤sizeLine∧∀aS,Ze H aS→Q (.bl (c9 x)) aS)∨(vG K H v∧Q (.bl false) H))
noncomputable def letter (c:Nat):Bool:=decide (97≤c)&&decide (c≤122)
theorem rC(c d:Nat):decide ((⟨#[c]⟩:Str).cps.toList<(⟨#[d]⟩:Str).cps.toList)=decide (c<d):=by
 show decide ([c]< [d])=decide (c<d);have e:([c]< [d])↔c<d:=by
  constructor
  ·intro h;cases h with
   |rel h=>exact h
   |cons h=>cases h
  ·exact λh=> .rel h
 by_cases h:c<d
 ·rw[decide_eq_true h,decide_eq_true (e.mpr h)]
 ·rw[decide_eq_false h,decide_eq_false (λz=>h (e.mp z))]
theorem vI:("a" :Str)=⟨#[97]⟩:=by decide+kernel
theorem vJ:("z" :Str)=⟨#[122]⟩:=by decide+kernel
theorem Zca(x:Str):(((List.range x.cps.size).map λi=>letter (x.cps.getD i 0)).all id)=x.cps.toList.all letter:=by
 rw[List.all_map,QA,QD,QD]
 constructor
 ·intro h c bH;obtain⟨i,bb,rfl⟩:=QX bH;have gf:i<x.cps.size:=by simpa using bb
  have:=h i (QM.mpr gf);simpa[Array.getD,gf] using this
 ·intro h i bb;have gf:=QM.mp bb;have:=h x.cps[i] (by simp);simpa[Array.getD,gf] using this
theorem Vc(x:Str):c9 x=(decide (1≤x.length)&&decide (x.length≤8)&&x.cps.toList.all letter):=rfl
section
variable {P:Program}{w:World}{K:Frag}{mg:Str→Option Value}{base:Heap}
theorem lT(T:Tp K mg):OkN P w base 1 T.x7 (vH T):=by
 refine T.x7.F.okX uR (λvs H Q E h=>?_) (λcy A outer s H vs Q E a' h=>?_)
 ·obtain⟨v,rfl,_⟩:=h
  rfl
 ·have hu:=a'.hu;obtain⟨v,rfl,h⟩:=h;refine⟨_,(ce (c4 (eC (eV (K:=K) rfl (dj (lH (K:=K) rfl) (by rfl) T.e Qf (a7 (pv 0) (a7 (jY (v:= .ty "str") (by rfl) T.bG PyProof.Rows.boot_str rfl) bJ))) (λ_=>rfl))) (b' (cP Yf)) dn)
     (ce (c4 (PW.pt (ih (de gm (dj (eg K) (by rfl) T.f Qd (a7 (pv 0) bJ)) Zb (c8 _)) (i' (de mu (dj (eg K) (by rfl) T.f Qd (a7 (pv 0) bJ)) (fW (v:= .int 8) rfl T.aP ⟨_,rfl⟩) (c8 _))))) (b' (cP Yf)) dn)
     (b' (cP (dj (t5 (K:=K) rfl rfl) (by rfl) T.bF PyProof.Rows.boot_all (a7 (nk rfl (jt (x:="sign") (zs:=[]) (ix:=[]) (cT nL) ["thing"] rfl rfl (by decide+kernel)) (pZ (pv 0)) (λcl C s H fp=>⟨(fh (i:=0) (show(["sign"]:List Str).Nodup by decide+kernel) rfl (Or.inl rfl)),mZ,(sH p0 p0 ZI (pv 0) ZI)⟩)) bJ)))))),?_⟩
  try dsimp only[L2.cxX,L2.ZJ,L2.Zm]
  rcases h.symm with⟨⟨t,cL,bY⟩,q⟩|⟨x,rfl,bc,q⟩
  ·walk_at "rds";refine⟨v,_,t,false,rfl,cL,bY,?_⟩;walk_at "rds";exact q
  walk_at "rds";refine UQ (λc=>?_) (λc=>?_)
  ·have c2:¬1≤x.length:=by simp at c;omega
   walk_at "rds";have e:c9 x=false:=by rw[Vc,decide_eq_false c2];rfl
   rw[←e];exact q H (Ze.refl H)
  ·have c2:1≤x.length:=by simp at c;omega
   walk_at "rds";refine UQ (λd=>?_) (λd=>?_)
   ·have d':¬x.length≤8:=by simp at d;omega
    walk_at "rds";have e:c9 x=false:=by rw[Vc,decide_eq_false d',Bool.and_false];rfl
    rw[←e];exact q H (Ze.refl H)
   ·have d':x.length≤8:=by simp at d;omega
    have bM:x.cps.size<sizeLine:=eF (by have:x.cps.size=x.length:=rfl;omega);walk_at "rds";refine Ws Zac bM (λ_=>true) (λi=> .bl (letter (x.cps.getD i 0))) (λi aS en bb cQ k=>?_) (λi aS en bb _ cQ k=>?_) (λp aS b3 cQ hl=>?_)
    ·walk_at "rds";exact k aS (Ze.refl aS)
    ·walk_at "rds";rw[vI,vJ,rC];generalize x.cps.getD i 0=eo at k⊢;refine UQ (λz=>?_) (λz=>?_)
     ·walk_at "rds";have e:(!decide (122<eo))=letter eo:=by
       have eu:97≤eo:=by simpa using z
       unfold letter;rw[decide_eq_true eu,Bool.true_and]
       by_cases y:eo≤122
       ·rw[decide_eq_true y,decide_eq_false (by omega)];rfl
       ·rw[decide_eq_false y,decide_eq_true (by omega)];rfl
      rw[rC,e];exact k aS (Ze.refl aS)
     ·have e:false=letter eo:=by
       have eu:¬97≤eo:=by simpa using z
       unfold letter;rw[decide_eq_false eu];rfl
      rw[e];exact k aS (Ze.refl aS)
    ·have fw:aS p=some (.lst (((List.range x.cps.size).map λi=>letter (x.cps.getD i 0)).map V.bl)):=by
      rw[hl,List.filter_eq_self.mpr (by simp),QV];rfl
     walk_at "rds";rw[Zca];have e:x.cps.toList.all letter=c9 x:=by rw[Vc,decide_eq_true c2,decide_eq_true d'];rfl
     rw[e];exact q aS cQ
end
def vK{K:Frag}{mg:Str→Option Value}(T:Tp K mg):Sp:=λvs H Q _=>∃(x:Str)(d:Int),vs=[.str x,.int d]∧x.length≤1000∧∀aS,Ze H aS→Q (.bl true) aS
section
variable {P:Program}{w:World}{K:Frag}{mg:Str→Option Value}{base:Heap}
theorem vL(T:Tp K mg):OkN P w base 2 T.x8 (vK T):=by
 refine T.x8.F.okX nQ (λvs H Q E h=>?_) (λcy A outer s H vs Q E a' h=>?_)
 ·obtain⟨x,d,rfl,_⟩:=h
  rfl
 ·have hu:=a'.hu;obtain⟨x,d,rfl,bc,q⟩:=h;have kP:x.length≤sizeLine:=QK (eF bc);refine⟨_,(ce (d7 (i:=2) nQ.nd rfl (Or.inl rfl) (cU T.x7 (lT T) a' cB (a7 (pv 0) bJ)))
     (ce (c4 (PW.pt (ih (eC (eV (K:=K) rfl (dj (lH (K:=K) rfl) (by rfl) T.e Qf (a7 (pv 2) (a7 (jY (v:= .ty "bool") (by rfl) T.be PyProof.Rows.boot_bool rfl) bJ))) (λ_=>rfl))) (i' (de (lG (K:=K) rfl hu) (pv 2) (cU T.x4 (rq T) a' cB (a7 (pv 0) bJ)) (c8 _))))) (b' (cP Yf)) dn)
     (ce (d7 (i:=3) nQ.nd rfl (Or.inl rfl) (c3 (ixk K) (el (a7 Zfo (a7 Zb (a7 (gU gV Zb) (a7 Yf (a7 (el (a7 (pv 0) bJ)) (a7 (hT (a7 (pv 0) (a7 (pv 0) bJ))) (a7 (el (a7 ZI bJ)) (a7 (tD (tx ZI Yf ZeR) rfl rfl (by simp) (by decide)) (a7 (el bJ) (a7 Zb bJ))))))))))) (b4 dr (pv 1) Zb) (λ_ _=>rfl)))
     (b' (cP (gW uO (cU T.x7 (lT T) a' cB (a7 (pv 3) bJ)) Yf (c8 _))))))),?_⟩
  try dsimp only[L2.cxX,L2.ZJ,L2.Zm]
  walk_at "rds";refine⟨_,rfl,.inl ⟨x,rfl,kP,λa1 bj=>?_⟩⟩;walk_at "rds";refine⟨x,rfl,bc,λa8 bQ=>?_⟩;walk_at "rds";rw[show(c9 x==c9 x)=true from beq_self_eq_true _];walk_at "rds";intro eh h4;have bV:Ze a8 (upd a8 eh (.lst [.str x])):=cA h4;have er:(upd a8 eh (.lst [.str x])) eh=some (.lst [.str x]):=Zd;generalize upd a8 eh (.lst [.str x])=b1 at*;walk_at "rds"
  first|refine⟨by show 2≤sizeLine;decide,λea g0=>?_⟩|refine λea g0=>?_
  have c5:Ze b1 (upd b1 ea (.tup [.str x,.str x])):=cA g0;have fQ:(upd b1 ea (.tup [.str x,.str x])) ea=some (.tup [.str x,.str x]):=Zd;generalize upd b1 ea (.tup [.str x,.str x])=b5 at*;walk_at "rds";intro ei jC;have cK:Ze b5 (upd b5 ei (.lst [.str "a"])):=cA jC;have e7:(upd b5 ei (.lst [.str "a"])) ei=some (.lst [.str "a"]):=Zd;generalize upd b5 ei (.lst [.str "a"])=b9 at*;walk_at "rds";intro cO fb;show(upd b9 cO (.dK [])) cO=some (.dK [])∧∃kvs:List (Key×V),[(V.str "a",V.bl true)]=kvs.map (λcZ=>(kV cZ.1,cZ.2))∧kvs.length≤15∧_;refine⟨Zd,[(Sum.inr ("a" :Str),V.bl true)],rfl,by decide,?_⟩;have dq:Ze b9 (upd (upd b9 cO (.dK [])) cO (.dK (hs [] [(Sum.inr ("a" :Str),V.bl true)]))):=λa o bK=>by
   have ne:a≠cO:=λz=>by rw[z,fb] at bK;cases bK
   rw[cm ne,cm ne];exact bK
  have gF:(upd (upd b9 cO (.dK [])) cO (.dK (hs [] [(Sum.inr ("a" :Str),V.bl true)]))) cO=some (.dK (hs [] [(Sum.inr ("a" :Str),V.bl true)])):=Zd;generalize upd (upd b9 cO (.dK [])) cO (.dK (hs [] [(Sum.inr ("a" :Str),V.bl true)]))=ec at*;walk_at "rds"
  first|refine⟨by show 0≤sizeLine;decide,λcI es=>?_⟩|refine λcI es=>?_
  have d3:Ze ec (upd ec cI (.lst [])):=cA es;have kS:(upd ec cI (.lst [])) cI=some (.lst []):=Zd;generalize upd ec cI (.lst [])=c' at*;walk_at "rds";refine⟨by show 10≤sizeLine;decide,λeQ eA=>?_⟩;have ef:Ze c' (upd c' eQ (.lst [.non,.int 7,.int (-1),.bl true,.ref eh,.ref ea,.ref ei,.ref cO,.ref cI,.int 0])):=cA eA;have hJ:(upd c' eQ (.lst [.non,.int 7,.int (-1),.bl true,.ref eh,.ref ea,.ref ei,.ref cO,.ref cI,.int 0])) eQ=some (.lst [.non,.int 7,.int (-1),.bl true,.ref eh,.ref ea,.ref ei,.ref cO,.ref cI,.int 0]):=Zd;generalize upd c' eQ (.lst [.non,.int 7,.int (-1),.bl true,.ref eh,.ref ea,.ref ei,.ref cO,.ref cI,.int 0])=eG at*;have mq:=ef _ _ kS;have vM:=ef _ _ (d3 _ _ gF);have kr:=ef _ _ (d3 _ _ (dq _ _ e7));have vN:=ef _ _ (d3 _ _ (dq _ _ (cK _ _ fQ)));have mn:=ef _ _ (d3 _ _ (dq _ _ (cK _ _ (c5 _ _ er))));have fR:Ze H eG:=((((((bj.trans bQ).trans bV).trans c5).trans cK).trans dq).trans d3).trans ef;have jD:=SqL.of (K:=K) hJ;clear er fQ e7 gF kS h4 g0 jC fb es eA bj bQ bV c5 cK dq d3 ef;walk_at "rds";have vO:d % 10=0∨d % 10=1∨d % 10=2∨d % 10=3∨d % 10=4∨d % 10=5∨d % 10=6∨d % 10=7∨d % 10=8∨d % 10=9:=by omega
  generalize d % 10=dd at*;rcases vO with rfl|rfl|rfl|rfl|rfl|rfl|rfl|rfl|rfl|rfl
  ·have eB:atI [V.non,V.int 7,V.int (-1),V.bl true,V.ref eh,V.ref ea,V.ref ei,V.ref cO,V.ref cI,V.int 0] 0=some (.non):=rfl;walk_at "rds";refine⟨_,rfl,.inr ⟨⟨_,.non,rfl⟩,?_⟩⟩;refine Rd.isB ?_;exact q eG fR
  ·have eB:atI [V.non,V.int 7,V.int (-1),V.bl true,V.ref eh,V.ref ea,V.ref ei,V.ref cO,V.ref cI,V.int 0] 1=some (.int 7):=rfl;walk_at "rds";refine⟨_,rfl,.inr ⟨⟨_,.int _,rfl⟩,?_⟩⟩;refine Rd.isB ?_;exact q eG fR
  ·have eB:atI [V.non,V.int 7,V.int (-1),V.bl true,V.ref eh,V.ref ea,V.ref ei,V.ref cO,V.ref cI,V.int 0] 2=some (.int (-1)):=rfl;walk_at "rds";refine⟨_,rfl,.inr ⟨⟨_,.int _,rfl⟩,?_⟩⟩;refine Rd.isB ?_;exact q eG fR
  ·have eB:atI [V.non,V.int 7,V.int (-1),V.bl true,V.ref eh,V.ref ea,V.ref ei,V.ref cO,V.ref cI,V.int 0] 3=some (.bl true):=rfl;walk_at "rds";refine⟨_,rfl,.inr ⟨⟨_,.bl _,rfl⟩,?_⟩⟩;refine Rd.isB ?_;exact q eG fR
  ·have eB:atI [V.non,V.int 7,V.int (-1),V.bl true,V.ref eh,V.ref ea,V.ref ei,V.ref cO,V.ref cI,V.int 0] 4=some (.ref eh):=rfl;walk_at "rds";refine⟨_,rfl,.inr ⟨⟨_,.lst (mn),rfl⟩,?_⟩⟩;refine Rd.isB ?_;exact q eG fR
  ·have eB:atI [V.non,V.int 7,V.int (-1),V.bl true,V.ref eh,V.ref ea,V.ref ei,V.ref cO,V.ref cI,V.int 0] 5=some (.ref ea):=rfl;walk_at "rds";refine⟨_,rfl,.inr ⟨⟨_,.tup (vN),rfl⟩,?_⟩⟩;refine Rd.isB ?_;exact q eG fR
  ·have eB:atI [V.non,V.int 7,V.int (-1),V.bl true,V.ref eh,V.ref ea,V.ref ei,V.ref cO,V.ref cI,V.int 0] 6=some (.ref ei):=rfl;walk_at "rds";refine⟨_,rfl,.inr ⟨⟨_,.lst (kr),rfl⟩,?_⟩⟩;refine Rd.isB ?_;exact q eG fR
  ·have eB:atI [V.non,V.int 7,V.int (-1),V.bl true,V.ref eh,V.ref ea,V.ref ei,V.ref cO,V.ref cI,V.int 0] 7=some (.ref cO):=rfl;walk_at "rds";refine⟨_,rfl,.inr ⟨⟨_,.dK (vM),rfl⟩,?_⟩⟩;refine Rd.isB ?_;exact q eG fR
  ·have eB:atI [V.non,V.int 7,V.int (-1),V.bl true,V.ref eh,V.ref ea,V.ref ei,V.ref cO,V.ref cI,V.int 0] 8=some (.ref cI):=rfl;walk_at "rds";refine⟨_,rfl,.inr ⟨⟨_,.lst (mq),rfl⟩,?_⟩⟩;refine Rd.isB ?_;exact q eG fR
  ·have eB:atI [V.non,V.int 7,V.int (-1),V.bl true,V.ref eh,V.ref ea,V.ref ei,V.ref cO,V.ref cI,V.int 0] 9=some (.int 0):=rfl;walk_at "rds";refine⟨_,rfl,.inr ⟨⟨_,.int _,rfl⟩,?_⟩⟩;refine Rd.isB ?_;exact q eG fR
end
def rD{K:Frag}{mg:Str→Option Value}(T:Tp K mg):Sp:=λvs H Q E=>∃(p:Addr)(x:Str)(hl:HM)(fp:List Addr),vs=[.ref p,.str x]∧c6 T H p hl fp∧x.length≤sizeLine∧hl.names.length≤1000∧
 (c9 x=false→∀aS,Ze H aS→E (.ref T.l) none aS)∧(c9 x=true→x∈hl.names→∀aS,Ze H aS→E (.ref T.q) none aS)∧
 (c9 x=true→x∉hl.names→30≤hl.names.length→∀aS,Ze H aS→E (.ref T.i) none aS)∧
 (c9 x=true→x∉hl.names→hl.names.length<30→∀(aS:Hp)(db:List Addr),c6 T aS p ⟨hl.names++ [x],hl.belts⟩ db→ZL fp H aS→Z9 fp db H→Q (.int hl.names.length) aS)
theorem W8{K:Frag}{mg:Str→Option Value}{T:Tp K mg}{H:Hp}{Q:VK}{E:XK}{p:Addr}{x:Str}{hl:HM}{fp:List Addr}(h:c6 T H p hl fp)(bM:c9 x=true)(bc:x∉hl.names)(dL:hl.names.length<30)
  (q:∀(aS:Hp)(db:List Addr),c6 T aS p ⟨hl.names++ [x],hl.belts⟩ db→ZL fp H aS→Z9 fp db H→Q (.int hl.names.length) aS):rD T (.ref p::([.str x]++ [])) H Q E:=by
 have f_:x.length≤sizeLine:=by
  have:x.length≤8:=by
   have e:=bM;unfold c9 at e;simp only[Qx,decide_eq_true_eq] at e;exact e.1.2
  exact QK (eF (by omega))
 exact⟨p,x,hl,fp,rfl,h,f_,by omega,λz=>(by rw[bM] at z;cases z),λ_ z=>absurd z bc,λ_ _ z=>absurd z (by omega),λ_ _ _=>q⟩
section
variable {P:Program}{w:World}{K:Frag}{mg:Str→Option Value}{base:Heap}
theorem n2(T:Tp K mg):OkM P w mg base 2 T.x9 (rD T):=by
 have fH:=T.a;have fI:=T.g;refine T.x9.F.okX q4 (λvs H Q E h=>?_) (λcy A outer s H vs Q E a' h=>?_)
 ·obtain⟨p,x,hl,fp,rfl,_⟩:=h
  rfl
 ·have hu:=a'.hu;obtain⟨p,x,hl,fp,rfl,cw,bc,cd,b2,ci,et,q⟩:=h;obtain⟨bI,a,b,bs,rfl,a_,bd,cx,cG,eR,cR⟩:=id cw;have jE:p≠a:=gg a_ cx (by intro z;cases z);have n5:bI≠a:=gg bd cx (by intro z;cases z);refine⟨_,(ce (c4 (eC (eV (K:=K) rfl (cU T.x7 (lT T) a' cB (a7 (pv 1) bJ)) (λ_=>rfl))) (b' (hC T.G.g T.G.e Qm rfl (a7 ZI bJ))) dn)
     (ce (c4 (de (t8 hu) (pv 1) (e6 (K:=K) rfl (pv 0) rfl) (by with_unfolding_all rfl)) (b' (hC T.aV.g T.aV.e Qm rfl (a7 ZI bJ))) dn)
     (ce (c4 (de ln (dj Zb5 (by rfl) T.f Qd (a7 (e6 (K:=K) rfl (pv 0) rfl) bJ)) (fW (v:= .int 30) rfl T.ax ⟨_,rfl⟩) (c8 _)) (b' (hC T.r.g T.r.e Qm rfl (a7 ZI bJ))) dn)
     (ce (d7 (i:=2) q4.nd rfl (Or.inl rfl) (dj Zb5 (by rfl) T.f Qd (a7 (e6 (K:=K) rfl (pv 0) rfl) bJ)))
     (ce (o9 (pv 2) (o8 (e6 (K:=K) rfl (pv 0) rfl) (pv 1) (ua hu)))
     (b' (cP (pv 2)))))))),?_⟩
  try dsimp only[L2.cxX,L2.ZJ,L2.Zm]
  walk_at "rds";refine⟨_,rfl,.inl ⟨x,rfl,bc,λa1 fS=>?_⟩⟩;have g1:=fS _ _ a_;have g3:=fS _ _ cx;have vP:(fc hl.names).length<sizeLine:=eF (by rw[We];exact cd);walk_at "rds";cases bM:c9 x with
  |false=>
   walk_at "rds";exact b2 bM a1 fS
  |true=>
   walk_at "rds";rw[W6];refine UQ (λc=>?_) (λc=>?_)
   ·walk_at "rds";exact ci bM (of_decide_eq_true c) a1 fS
   ·have c2:x∉hl.names:=λz=>c (decide_eq_true z);walk_at "rds";rw[We];refine UQ (λd=>?_) (λd=>?_)
    ·have d':30≤hl.names.length:=by simp at d;omega
     walk_at "rds";exact et bM c2 d' a1 fS
    ·have d':hl.names.length<30:=by simp at d;omega
     walk_at "rds";rw[We,u' c2];have gG:ZL [p,bI,a,b] H (upd a1 a (.dK (fc (hl.names++ [x])))):=fS.frame.trans (hB (by simp) g3 (by intro _ z;cases z));refine q bM c2 d' _ [p,bI,a,b] ⟨bI,a,b,bs,rfl,?_,?_,Zd,?_,eR,cR.keep gG.tups⟩ gG Z9.refl
     ·rw[cm jE];exact g1
     ·rw[cm n5];exact fS _ _ bd
     ·rw[cm eR.symm];exact fS _ _ cG
end
def Ww{K:Frag}{mg:Str→Option Value}(T:Tp K mg):Sp:=λvs H Q _=>∃i:Int,vs=[.int i]∧Q (.bl true) H
theorem Zbm{K:Frag}{mg:Str→Option Value}{T:Tp K mg}{H:Hp}{Q:VK}{E:XK}{i:Int}(q:Q (.bl true) H):Ww T ([.int i]++ []) H Q E:=⟨i,rfl,q⟩
local macro_rules| `(tactic|walk_at "rd")=>`(tactic|first|((with_reducible show Nm.Ww _ _ _ _ _);with_reducible refine Nm.Zbm ?_)|fail "none here")
section
variable {P:Program}{w:World}{K:Frag}{mg:Str→Option Value}{base:Heap}
theorem vQ(T:Tp K mg):OkN P w base 1 T.bs (Ww T):=by
 refine T.bs.F.okX uS (λvs H Q E h=>?_) (λcy A outer s H vs Q E a' h=>?_)
 ·obtain⟨i,rfl,_⟩:=h
  rfl
 ·have hu:=a'.hu;obtain⟨i,rfl,q⟩:=h;refine⟨_,(b' (cP (ll (dj (lH (K:=K) rfl) (by rfl) T.e Qf (a7 (pv 0) (a7 (jY (v:= .ty "int") (by rfl) T.bl PyProof.Rows.boot_int rfl) bJ))) (j0 (sv (dj (lH (K:=K) rfl) (by rfl) T.e Qf (a7 (pv 0) (a7 (jY (v:= .ty "bool") (by rfl) T.be PyProof.Rows.boot_bool rfl) bJ)))))))),?_⟩
  try dsimp only[L2.cxX,L2.ZJ,L2.Zm]
  walk_at "rds";exact q
end
def WP{K:Frag}{mg:Str→Option Value}(T:Tp K mg):Sp:=λvs H Q _=>∃i l:Int,vs=[.int i,.int l]∧Q (.bl (decide (l≤i))) H
theorem ZbX{K:Frag}{mg:Str→Option Value}{T:Tp K mg}{H:Hp}{Q:VK}{E:XK}{i l:Int}(q:Q (.bl (decide (l≤i))) H):WP T ([.int i,.int l]++ []) H Q E:=⟨i,l,rfl,q⟩
local macro_rules| `(tactic|walk_at "rd")=>`(tactic|first|((with_reducible show Nm.WP _ _ _ _ _);with_reducible refine Nm.ZbX ?_)|fail "none here")
section
variable {P:Program}{w:World}{K:Frag}{mg:Str→Option Value}{base:Heap}
theorem lU(T:Tp K mg):OkN P w base 2 T.a9 (WP T):=by
 refine T.a9.F.okX uT (λvs H Q E h=>?_) (λcy A outer s H vs Q E a' h=>?_)
 ·obtain⟨i,l,rfl,_⟩:=h
  rfl
 ·have hu:=a'.hu;obtain⟨i,l,rfl,q⟩:=h;refine⟨_,(b' (cP (ll (cU T.bs (vQ T) a' cB (a7 (pv 0) bJ)) (j0 (gW ln (pv 0) (pv 1) (c8 _)))))),?_⟩
  try dsimp only[L2.cxX,L2.ZJ,L2.Zm]
  walk_at "rds";exact q
end
def vR{K:Frag}{mg:Str→Option Value}(T:Tp K mg):Sp:=λvs H Q E=>∃i:Int,vs=[.int i]∧(¬0≤i→E (.ref T.k) none H)∧(0≤i→Q .non H)
section
variable {P:Program}{w:World}{K:Frag}{mg:Str→Option Value}{base:Heap}
theorem rE(T:Tp K mg):OkN P w base 3 T.bn (vR T):=by
 refine T.bn.F.okX uU (λvs H Q E h=>?_) (λcy A outer s H vs Q E a' h=>?_)
 ·obtain⟨i,rfl,_⟩:=h
  rfl
 ·have hu:=a'.hu;obtain⟨i,rfl,b2,q⟩:=h;refine⟨_,(b' (c4 (eC (eV (K:=K) rfl (cU T.a9 (lU T) a' cB (a7 (pv 0) (a7 Zb bJ))) (λ_=>rfl))) (b' (hC T.H.g T.H.e Qm rfl (a7 ZI bJ))) dn)),?_⟩
  try dsimp only[L2.cxX,L2.ZJ,L2.Zm]
  walk_at "rds"
  by_cases c:0≤i
  ·rw[decide_eq_true c];walk_at "rds";exact q c
  ·rw[decide_eq_false c];walk_at "rds";exact b2 c
end
def Yx{K:Frag}{mg:Str→Option Value}(T:Tp K mg):Sp:=λvs H Q _=>∃i b:Int,vs=[.int i,.int b]∧Q (.bl (decide (0≤i∧i<b))) H
theorem W9{K:Frag}{mg:Str→Option Value}{T:Tp K mg}{H:Hp}{Q:VK}{E:XK}{i b:Int}(q:Q (.bl (decide (0≤i∧i<b))) H):Yx T ([.int i,.int b]++ []) H Q E:=⟨i,b,rfl,q⟩
local macro_rules| `(tactic|walk_at "rd")=>`(tactic|first|((with_reducible show Nm.Yx _ _ _ _ _);with_reducible refine Nm.W9 ?_)|fail "none here")
section
variable {P:Program}{w:World}{K:Frag}{mg:Str→Option Value}{base:Heap}
theorem rF(T:Tp K mg):OkN P w base 3 T.bo (Yx T):=by
 refine T.bo.F.okX uV (λvs H Q E h=>?_) (λcy A outer s H vs Q E a' h=>?_)
 ·obtain⟨i,b,rfl,_⟩:=h
  rfl
 ·have hu:=a'.hu;obtain⟨i,b,rfl,q⟩:=h;refine⟨_,(b' (cP (ll (cU T.a9 (lU T) a' cB (a7 (pv 0) (a7 Zb bJ))) (j0 (gW gm (pv 0) (pv 1) (c8 _)))))),?_⟩
  try dsimp only[L2.cxX,L2.ZJ,L2.Zm]
  walk_at "rds";refine UQ (λc=>?_) (λc=>?_)
  ·have c2:0≤i:=of_decide_eq_true c;walk_at "rds";have e:decide (i<b)=decide (0≤i∧i<b):=by rw[decide_eq_decide];exact⟨λz=>⟨c2,z⟩,λz=>z.2⟩
   rw[e];exact q
  ·have c2:¬0≤i:=λz=>c (decide_eq_true z);walk_at "rds";have e:false=decide (0≤i∧i<b):=(decide_eq_false (λz=>c2 z.1)).symm;rw[e];exact q
end
def vS{K:Frag}{mg:Str→Option Value}(T:Tp K mg):Sp:=λvs H Q E=>∃(p:Addr)(i:Int)(hl:HM)(fp:List Addr),vs=[.ref p,.int i]∧c6 T H p hl fp∧
 (¬(0≤i∧i<hl.names.length)→E (.ref T.h) none H)∧(0≤i→i<hl.names.length→Q .non H)
section
variable {P:Program}{w:World}{K:Frag}{mg:Str→Option Value}{base:Heap}
theorem lV(T:Tp K mg):OkM P w mg base 4 T.ba (vS T):=by
 have fH:=T.a;have fI:=T.g;refine T.ba.F.okX uW (λvs H Q E h=>?_) (λcy A outer s H vs Q E a' h=>?_)
 ·obtain⟨p,i,hl,fp,rfl,_⟩:=h
  rfl
 ·have hu:=a'.hu;obtain⟨p,i,hl,fp,rfl,cw,b2,q⟩:=h;obtain⟨bI,a,b,bs,rfl,a_,bd,cx,cG,eR,cR⟩:=id cw;refine⟨_,(b' (c4 (eC (eV (K:=K) rfl (cU T.bo (rF T) a' cB (a7 (pv 1) (a7 (dj Zb5 (by rfl) T.f Qd (a7 (e6 (K:=K) rfl (pv 0) rfl) bJ)) bJ))) (λ_=>rfl))) (b' (hC T.aQ.g T.aQ.e Qm rfl (a7 ZI bJ))) dn)),?_⟩
  try dsimp only[L2.cxX,L2.ZJ,L2.Zm]
  walk_at "rds";rw[We]
  by_cases c:0≤i∧i<hl.names.length
  ·rw[decide_eq_true c];walk_at "rds";exact q c.1 c.2
  ·rw[decide_eq_false c];walk_at "rds";exact b2 c
end
def vT{K:Frag}{mg:Str→Option Value}(T:Tp K mg):Sp:=λvs H Q E=>∃(p u:Addr)(b:B5)(hl:HM)(fp:List Addr),vs=[.ref p,.ref u]∧c6 T H p hl fp∧H u=some (.tup b.v)∧hl.belts.length≤1000∧
 ∀(aS:Hp)(db:List Addr),c6 T aS p ⟨hl.names,hl.belts++ [b]⟩ db→ZL fp H aS→Z9 fp db H→Q (.int hl.belts.length) aS
section
variable {P:Program}{w:World}{K:Frag}{mg:Str→Option Value}{base:Heap}
theorem vU(T:Tp K mg):OkM P w mg base 1 T.bt (vT T):=by
 have fH:=T.a;have fI:=T.g;refine T.bt.F.okX uX (λvs H Q E h=>?_) (λcy A outer s H vs Q E a' h=>?_)
 ·obtain⟨p,u,b,hl,fp,rfl,_⟩:=h
  rfl
 ·have hu:=a'.hu;obtain⟨p,u,b,hl,fp,rfl,cw,jF,cd,q⟩:=h;obtain⟨bI,a,dW,bs,rfl,a_,bd,cx,cG,eR,cR⟩:=id cw;have jG:p≠dW:=gg a_ cG (by intro z;cases z);have kT:bI≠dW:=gg bd cG (by intro z;cases z);have Ad:u≠dW:=gg jF cG (by intro z;cases z);have vP:bs.length<sizeLine:=eF (by rw[cR.length];exact cd);have n6:=cR.length;refine⟨_,(ce (dS (hD (K:=K) rfl Qs Qq Qr gZ (e6 (K:=K) rfl (pv 0) rfl) (a7 (pv 1) bJ)))
     (b' (cP (b4 j6 (dj (eg K) (by rfl) T.f Qd (a7 (e6 (K:=K) rfl (pv 0) rfl) bJ)) Zb)))),?_⟩
  try dsimp only[L2.cxX,L2.ZJ,L2.Zm]
  walk_at "rds";have k1:(upd H dW (.lst (bs++ [.ref u]))) p=some (.ins T.u bI [("numbers",.ref a),("rows",.ref dW)]):=by rw[cm jG];exact a_
  have iQ:(upd H dW (.lst (bs++ [.ref u]))) dW=some (.lst (bs++ [.ref u])):=Zd;walk_at "rds";have vV:((bs++ [V.ref u]).length:Int)-1=hl.belts.length:=by simp[n6]
  rw[vV];have gG:ZL [p,bI,a,dW] H (upd H dW (.lst (bs++ [.ref u]))):=hB (by simp) cG (by intro _ z;cases z);refine q _ [p,bI,a,dW] ⟨bI,a,dW,_,rfl,k1,?_,?_,iQ,eR,(cR.keep gG.tups).snoc (gG.tups _ _ jF)⟩ gG Z9.refl
  ·rw[cm kT];exact bd
  ·rw[cm eR];exact cx
end
def kU{K:Frag}{mg:Str→Option Value}(T:Tp K mg):Sp:=λvs H Q E=>∃(p:Addr)(b:B5)(hl:HM)(fp:List Addr),vs= .ref p::b.v∧c6 T H p hl fp∧hl.belts.length≤1000∧
 (¬(0≤b.giver∧b.giver<hl.names.length∧0≤b.taker∧b.taker<hl.names.length)→∀aS,Ze H aS→E (.ref T.h) none aS)∧
 ((0≤b.giver∧b.giver<hl.names.length∧0≤b.taker∧b.taker<hl.names.length)→¬(1≤b.give∧1≤b.take∧0≤b.start)→∀aS,Ze H aS→E (.ref T.k) none aS)∧
 ((0≤b.giver∧b.giver<hl.names.length∧0≤b.taker∧b.taker<hl.names.length)→(1≤b.give∧1≤b.take∧0≤b.start)→60≤hl.belts.length→∀aS,Ze H aS→E (.ref T.i) none aS)∧
 ((0≤b.giver∧b.giver<hl.names.length∧0≤b.taker∧b.taker<hl.names.length)→(1≤b.give∧1≤b.take∧0≤b.start)→hl.belts.length<60→∀(aS:Hp)(db:List Addr),c6 T aS p ⟨hl.names,hl.belts++ [b]⟩ db→ZL fp H aS→Z9 fp db H→Q (.int hl.belts.length) aS)
theorem W1{K:Frag}{mg:Str→Option Value}{T:Tp K mg}{H:Hp}{Q:VK}{E:XK}{p:Addr}{g t eI cW st:Int}{hl:HM}{fp:List Addr}(h:c6 T H p hl fp)
  (a_:0≤g) (bd:g<hl.names.length) (cx:0≤t) (cG:t<hl.names.length) (eM:1≤eI) (cR:1≤cW) (kL:0≤st) (dL:hl.belts.length<60)
  (q:∀(aS:Hp)(db:List Addr),c6 T aS p ⟨hl.names,hl.belts++ [⟨g,t,eI,cW,st⟩]⟩ db→ZL fp H aS→Z9 fp db H→Q (.int hl.belts.length) aS):kU T [.ref p,.int g,.int t,.int eI,.int cW,.int st] H Q E:=
 ⟨p,⟨g,t,eI,cW,st⟩,hl,fp,rfl,h,by omega,λz=>absurd ⟨a_,bd,cx,cG⟩ z,λ_ z=>absurd ⟨eM,cR,kL⟩ z,λ_ _ z=>absurd z (by omega),λ_ _ _=>q⟩
section
variable {P:Program}{w:World}{K:Frag}{mg:Str→Option Value}{base:Heap}
theorem n7(T:Tp K mg):ZX P w K mg base (CXX P w) 5 T.o T.p ["self","giver","taker","give","take","start"] (kU T):=by
 have fH:=T.a;have fI:=T.g;refine T.aW.okX uY (λvs H Q E h=>?_) (λcy A outer s H vs Q E a' h=>?_)
 ·obtain⟨p,b,hl,fp,rfl,_⟩:=h
  rfl
 ·have hu:=a'.hu;obtain⟨p,b,hl,fp,rfl,cw,cd,b2,ci,et,q⟩:=h;obtain⟨bI,a,dW,bs,rfl,a_,bd,cx,cG,eR,cR⟩:=id cw;obtain⟨g,t,eI,cW,st⟩:=b;have n6:=cR.length;refine⟨_,(ce (dS (hE (pv 0) T.a T.ba (lV T) a' cB (a7 (pv 1) bJ)))
     (ce (dS (hE (pv 0) T.a T.ba (lV T) a' cB (a7 (pv 2) bJ)))
     (ce (c4 (PW.pt (ih (eC (eV (K:=K) rfl (cU T.a9 (lU T) a' cB (a7 (pv 3) (a7 Zb bJ))) (λ_=>rfl))) (i' (eC (eV (K:=K) rfl (cU T.a9 (lU T) a' cB (a7 (pv 4) (a7 Zb bJ))) (λ_=>rfl)))))) (b' (hC T.H.g T.H.e Qm rfl (a7 ZI bJ))) dn)
     (ce (dS (cU T.bn (rE T) a' cB (a7 (pv 5) bJ)))
     (ce (c4 (de ln (dj (eg K) (by rfl) T.f Qd (a7 (e6 (K:=K) rfl (pv 0) rfl) bJ)) (fW (v:= .int 60) rfl T.ay ⟨_,rfl⟩) (c8 _)) (b' (hC T.r.g T.r.e Qm rfl (a7 ZI bJ))) dn)
     (b' (cP (hE (pv 0) T.a T.bt (vU T) a' cB (a7 (hT (a7 (pv 1) (a7 (pv 2) (a7 (pv 3) (a7 (pv 4) (a7 (pv 5) bJ)))))) bJ))))))))),?_⟩
  try dsimp only[L2.cxX,L2.ZJ,L2.Zm]
  dsimp only[B5.v] at*;walk_at "rds";refine⟨p,g,hl,_,rfl,cw,λz=>b2 (by omega) H (Ze.refl H),λdM g1=>?_⟩;walk_at "rds";refine⟨p,t,hl,_,rfl,cw,λz=>b2 (by omega) H (Ze.refl H),λej vW=>?_⟩;have eb:0≤g∧g<hl.names.length∧0≤t∧t<hl.names.length:=⟨dM,g1,ej,vW⟩;walk_at "rds"
  by_cases c:1≤eI
  ·rw[decide_eq_true c];walk_at "rds"
   by_cases d:1≤cW
   ·rw[decide_eq_true d];walk_at "rds";refine⟨st,rfl,λz=>ci eb (by omega) H (Ze.refl H),λf=>?_⟩;walk_at "rds";refine Rd.ifD (λl=>?_) (λl=>?_)
    ·walk_at "rds";exact et eb (by omega) (by omega) H (Ze.refl H)
    walk_at "rds";refine⟨by show 5≤sizeLine;decide,λu jF=>?_⟩;have sn:Ze H (upd H u (.tup [.int g,.int t,.int eI,.int cW,.int st])):=cA jF;have vX:=cw.same sn;walk_at "rds";refine⟨p,u,⟨g,t,eI,cW,st⟩,hl,_,rfl,vX,Zd,cd,λaS db gH gG gr=>?_⟩;refine q eb (by omega) (by omega) aS db gH (sn.frame.trans gG) (λx bc=>?_);rcases gr x bc with z|z
    ·exact .inl z
    ·refine .inr ?_;cases e:H x with
     |none=>rfl
     |some o=>rw[sn _ _ e] at z;cases z
   ·rw[decide_eq_false d];walk_at "rds";exact ci eb (by omega) H (Ze.refl H)
  ·rw[decide_eq_false c];walk_at "rds";exact ci eb (by omega) H (Ze.refl H)
end
def vY{K:Frag}{mg:Str→Option Value}(T:Tp K mg):Sp:=λvs H Q E=>∃(p:Addr)(i:Int)(hl:HM)(fp:List Addr),vs=[.ref p,.int i]∧c6 T H p hl fp∧
 (¬(0≤i∧i<hl.belts.length)→E (.ref T.j) none H)∧(0≤i→i<hl.belts.length→Q .non H)
section
variable {P:Program}{w:World}{K:Frag}{mg:Str→Option Value}{base:Heap}
theorem rG(T:Tp K mg):OkM P w mg base 4 T.bp (vY T):=by
 have fH:=T.a;have fI:=T.g;refine T.bp.F.okX uZ (λvs H Q E h=>?_) (λcy A outer s H vs Q E a' h=>?_)
 ·obtain⟨p,i,hl,fp,rfl,_⟩:=h
  rfl
 ·have hu:=a'.hu;obtain⟨p,i,hl,fp,rfl,cw,b2,q⟩:=h;obtain⟨bI,a,b,bs,rfl,a_,bd,cx,cG,eR,cR⟩:=id cw;refine⟨_,(b' (c4 (eC (eV (K:=K) rfl (cU T.bo (rF T) a' cB (a7 (pv 1) (a7 (dj (eg K) (by rfl) T.f Qd (a7 (e6 (K:=K) rfl (pv 0) rfl) bJ)) bJ))) (λ_=>rfl))) (b' (hC T.aR.g T.aR.e Qm rfl (a7 ZI bJ))) dn)),?_⟩
  try dsimp only[L2.cxX,L2.ZJ,L2.Zm]
  walk_at "rds";rw[cR.length]
  by_cases c:0≤i∧i<hl.belts.length
  ·rw[decide_eq_true c];walk_at "rds";exact q c.1 c.2
  ·rw[decide_eq_false c];walk_at "rds";exact b2 c
end
noncomputable def rH (b:B5) (s:Int):B5:=⟨b.giver,b.taker,b.give,b.take,s⟩
theorem dH.set{H:Hp}:∀{bs:List V}{df:List B5}{t:Addr}{b:B5}(i:Nat),dH H bs df→H t=some (.tup b.v)→dH H (bs.set i (.ref t)) (df.set i b)
 |_,_,_,_,_,.nil,_=> .nil
 |_,_,_,_,0,.cons _ r,h=> .cons ⟨_,rfl,h⟩ r
 |_,_,_,_,i+1,.cons x r,h=> .cons x (dH.set i r h)
def vZ{K:Frag}{mg:Str→Option Value}(T:Tp K mg):Sp:=λvs H Q E=>∃(p:Addr)(i s:Int)(hl:HM)(fp:List Addr),vs=[.ref p,.int i,.int s]∧c6 T H p hl fp∧
 (¬(0≤i∧i<hl.belts.length)→E (.ref T.j) none H)∧((0≤i∧i<hl.belts.length)→¬0≤s→E (.ref T.k) none H)∧
 ((0≤i∧i<hl.belts.length)→0≤s→∀(b:B5)(aS:Hp)(db:List Addr),hl.belts[i.toNat]? =some b→c6 T aS p ⟨hl.names,hl.belts.set i.toNat (rH b s)⟩ db→ZL fp H aS→Z9 fp db H→Q (.bl (!decide (b.start=s))) aS)
section
variable {P:Program}{w:World}{K:Frag}{mg:Str→Option Value}{base:Heap}
theorem v0(T:Tp K mg):OkM P w mg base 5 T.bu (vZ T):=by
 have fH:=T.a;have fI:=T.g;refine T.bu.F.okX q5 (λvs H Q E h=>?_) (λcy A outer s H vs Q E a' h=>?_)
 ·obtain⟨p,i,s,hl,fp,rfl,_⟩:=h
  rfl
 ·have hu:=a'.hu;obtain⟨p,i,st,hl,fp,rfl,cw,b2,ci,q⟩:=h;obtain⟨bI,a,dW,bs,rfl,a_,bd,cx,cG,eR,cR⟩:=id cw;have jG:p≠dW:=gg a_ cG (by intro z;cases z);have kT:bI≠dW:=gg bd cG (by intro z;cases z);have n6:=cR.length;refine⟨_,(ce (dS (hE (pv 0) T.a T.bp (rG T) a' cB (a7 (pv 1) bJ)))
     (ce (dS (cU T.bn (rE T) a' cB (a7 (pv 2) bJ)))
     (ce (d7 (i:=3) q5.nd rfl (Or.inl rfl) (c3 (ixk K) (e6 (K:=K) rfl (pv 0) rfl) (pv 1) (λ_ _=>rfl)))
     (ce (o9 (b4 (dG K) (jj (jv (K:=K) rfl) (pv 3) kd (iu Zb)) (hT (a7 (pv 2) bJ))) (o8 (e6 (K:=K) rfl (pv 0) rfl) (pv 1) s7))
     (b' (cP (gW (lG (K:=K) rfl hu) (c3 (ixk K) (pv 3) Zb (λ_ _=>rfl)) (pv 2) (c8 _)))))))),?_⟩
  try dsimp only[L2.cxX,L2.ZJ,L2.Zm]
  walk_at "rds";refine⟨p,i,hl,_,rfl,cw,b2,λi0 ji=>?_⟩;walk_at "rds";refine⟨st,rfl,λz=>ci ⟨i0,ji⟩ z,λv1=>?_⟩;have bb:i.toNat<hl.belts.length:=by omega
  have h5:=Qu bb;obtain⟨t,iR,g9⟩:=cR.at h5;have eB:atI bs i=some (.ref t):=by
   have:=YF iR
   rwa [QY i0] at this
  generalize hl.belts[i.toNat]=b at*;dsimp only[B5.v] at g9;walk_at "rds";refine Rd.slT (.of g9) (by show ¬(HT.sIx 5 0 none=0∧HT.sIx 5 5 (some 4)=5);decide) (λu jF=>?_);have kW:Ze H (upd H u (.tup (fZ [V.int b.giver,V.int b.taker,V.int b.give,V.int b.take,V.int b.start] none (some 4)))):=cA jF;have jH:(upd H u (.tup (fZ [V.int b.giver,V.int b.taker,V.int b.give,V.int b.take,V.int b.start] none (some 4)))) u=some (.tup [V.int b.giver,V.int b.taker,V.int b.give,V.int b.take]):=Zd;generalize upd H u (.tup (fZ [V.int b.giver,V.int b.taker,V.int b.give,V.int b.take,V.int b.start] none (some 4)))=a1 at*;walk_at "rds";refine(λiH v2=>?_);have rJ:Ze a1 (upd a1 iH (.tup [V.int st])):=cA v2;have v3:(upd a1 iH (.tup [V.int st])) iH=some (.tup [V.int st]):=Zd;generalize upd a1 iH (.tup [V.int st])=a8 at*;refine Rd.Zhb (.of (rJ _ _ jH)) (.of v3) (by simp) (by simp) (by show 5≤sizeLine;decide) (λiS v4=>?_);have v5:Ze a8 (upd a8 iS (.tup ([V.int b.giver,V.int b.taker,V.int b.give,V.int b.take]++ [V.int st]))):=cA v4;have rK:(upd a8 iS (.tup ([V.int b.giver,V.int b.taker,V.int b.give,V.int b.take]++ [V.int st]))) iS=some (.tup (rH b st).v):=Zd;generalize upd a8 iS (.tup ([V.int b.giver,V.int b.taker,V.int b.give,V.int b.take]++ [V.int st]))=b1 at*;have bV:Ze H b1:=(kW.trans rJ).trans v5;have g1:=bV _ _ a_;have hy:=bV _ _ cG;have Ae:i<(bs.length:Int):=by omega
  walk_at "rds";have v6:t≠dW:=gg g9 cG (by intro z;cases z);have Af:(upd b1 dW (.lst (bs.set i.toNat (.ref iS)))) t=some (.tup [V.int b.giver,V.int b.taker,V.int b.give,V.int b.take,V.int b.start]):=by rw[cm v6];exact bV _ _ g9
  walk_at "rds";have gG:ZL [p,bI,a,dW] H (upd b1 dW (.lst (bs.set i.toNat (.ref iS)))):=bV.frame.trans (hB (by simp) hy (by intro _ z;cases z));refine q ⟨i0,ji⟩ v1 b _ [p,bI,a,dW] h5 ⟨bI,a,dW,_,rfl,?_,?_,?_,Zd,eR,(cR.keep gG.tups).set i.toNat ?_⟩ gG Z9.refl
  ·rw[cm jG];exact g1
  ·rw[cm kT];exact bV _ _ bd
  ·rw[cm eR];exact bV _ _ cx
  ·have v7:iS≠dW:=gg rK hy (by intro z;cases z);rw[cm v7];exact rK
end
def v8{K:Frag}{mg:Str→Option Value}(T:Tp K mg):Sp:=λvs H Q E=>∃(p:Addr)(x:Str)(hl:HM)(fp:List Addr),vs=[.ref p,.str x]∧c6 T H p hl fp∧x.length≤sizeLine∧hl.names.Nodup∧
 (¬(c9 x=true∧x∈hl.names)→∀aS,Ze H aS→E (.ref T.l) none aS)∧(∀i:Nat,hl.names[i]? =some x→c9 x=true→∀aS,Ze H aS→Q (.int i) aS)
section
variable {P:Program}{w:World}{K:Frag}{mg:Str→Option Value}{base:Heap}
theorem v9(T:Tp K mg):OkM P w mg base 2 T.bv (v8 T):=by
 have fH:=T.a;have fI:=T.g;refine T.bv.F.okX u0 (λvs H Q E h=>?_) (λcy A outer s H vs Q E a' h=>?_)
 ·obtain⟨p,x,hl,fp,rfl,_⟩:=h
  rfl
 ·have hu:=a'.hu;obtain⟨p,x,hl,fp,rfl,cw,bc,nd,b2,q⟩:=h;obtain⟨bI,a,b,bs,rfl,a_,bd,cx,cG,eR,cR⟩:=id cw;refine⟨_,(ce (c4 (PW.pt (ih (eC (eV (K:=K) rfl (cU T.x7 (lT T) a' cB (a7 (pv 1) bJ)) (λ_=>rfl))) (i' (de (t9 hu) (pv 1) (e6 (K:=K) rfl (pv 0) rfl) (by with_unfolding_all rfl))))) (b' (hC T.G.g T.G.e Qm rfl (a7 ZI bJ))) dn)
     (b' (cP (c3 (t_ hu) (e6 (K:=K) rfl (pv 0) rfl) (pv 1) (λ_ _=>rfl))))),?_⟩
  try dsimp only[L2.cxX,L2.ZJ,L2.Zm]
  walk_at "rds";refine⟨_,rfl,.inl ⟨x,rfl,bc,λa1 fS=>?_⟩⟩;have g1:=fS _ _ a_;have g3:=fS _ _ cx;cases bM:c9 x with
  |false=>
   walk_at "rds";exact b2 (λz=>by rw[bM] at z;cases z.1) a1 fS
  |true=>
   walk_at "rds";rw[W6]
   by_cases c:x∈hl.names
   ·rw[decide_eq_true c];obtain⟨i,bb,e⟩:=QX c;have h5:hl.names[i]? =some x:=by rw[Qu bb,e]
    have b8:=ZcW nd h5;walk_at "rds";exact q i h5 bM a1 fS
   ·rw[decide_eq_false c];walk_at "rds";exact b2 (λz=>c z.2) a1 fS
end
def v_{K:Frag}{mg:Str→Option Value}(T:Tp K mg):Sp:=λvs H Q E=>∃(p:Addr)(i:Int)(hl:HM)(fp:List Addr),vs=[.ref p,.int i]∧c6 T H p hl fp∧
 (¬(0≤i∧i<hl.belts.length)→E (.ref T.j) none H)∧(0≤i→i<hl.belts.length→∀(t:Addr)(b:B5),hl.belts[i.toNat]? =some b→H t=some (.tup b.v)→Q (.ref t) H)
section
variable {P:Program}{w:World}{K:Frag}{mg:Str→Option Value}{base:Heap}
theorem v'(T:Tp K mg):OkM P w mg base 5 T.bw (v_ T):=by
 have fH:=T.a;have fI:=T.g;refine T.bw.F.okX u1 (λvs H Q E h=>?_) (λcy A outer s H vs Q E a' h=>?_)
 ·obtain⟨p,i,hl,fp,rfl,_⟩:=h
  rfl
 ·have hu:=a'.hu;obtain⟨p,i,hl,fp,rfl,cw,b2,q⟩:=h;obtain⟨bI,a,b,bs,rfl,a_,bd,cx,cG,eR,cR⟩:=id cw;refine⟨_,(ce (dS (hE (pv 0) T.a T.bp (rG T) a' cB (a7 (pv 1) bJ)))
     (b' (cP (c3 (ixk K) (e6 (K:=K) rfl (pv 0) rfl) (pv 1) (λ_ _=>rfl))))),?_⟩
  try dsimp only[L2.cxX,L2.ZJ,L2.Zm]
  walk_at "rds";refine⟨p,i,hl,_,rfl,cw,b2,λi0 ji=>?_⟩;have bb:i.toNat<hl.belts.length:=by omega
  have h5:=Qu bb;obtain⟨t,iR,g9⟩:=cR.at h5;have eB:atI bs i=some (.ref t):=by
   have:=YF iR
   rwa [QY i0] at this
  walk_at "rds";exact q i0 ji t _ h5 g9
end
def wa{K:Frag}{mg:Str→Option Value}(T:Tp K mg):Sp:=λvs H Q E=>∃(p:Addr)(w:Int)(hl:HM)(fp:List Addr),vs=[.ref p,.int w]∧c6 T H p hl fp∧hl.belts.length≤1000∧
 (¬(0≤w∧w<hl.names.length)→E (.ref T.h) none H)∧(0≤w→w<hl.names.length→∀r aS,H r=none→Ze H aS→aS r=some (.lst ((va hl.belts w).map λi:Nat=>V.int i))→Q (.ref r) aS)
section
variable {P:Program}{w:World}{K:Frag}{mg:Str→Option Value}{base:Heap}
theorem wb(T:Tp K mg):OkM P w mg base 5 T.bx (wa T):=by
 have fH:=T.a;have fI:=T.g;refine T.bx.F.okX u2 (λvs H Q E h=>?_) (λcy A outer s H vs Q E a' h=>?_)
 ·obtain⟨p,w,hl,fp,rfl,_⟩:=h
  rfl
 ·have hu:=a'.hu;obtain⟨p,w,hl,fp,rfl,cw,cd,b2,q⟩:=h;obtain⟨bI,a,b,bs,rfl,a_,bd,cx,cG,eR,cR⟩:=id cw;have a6:=cR.length;refine⟨_,(ce (dS (hE (pv 0) T.a T.ba (lV T) a' cB (a7 (pv 1) bJ)))
     (b' (cP (qk (xs:=["belt","row"]) rfl (jt (x:="belt") (zs:=["work"]) (ix:=[1]) (cT nM) ["self","work"] rfl rfl (by decide+kernel)) (ny (K:=K) rfl rfl T.L (a7 (e6 (K:=K) rfl (pv 0) rfl) bJ)) (λcl C s H fp=>⟨(UV (K:=K) (n:=2) rfl rfl (ja (fh (i:=0) (show(["belt","row","work"]:List Str).Nodup by decide+kernel) rfl (Or.inl rfl)) (ja (fh (i:=1) (show(["belt","row","work"]:List Str).Nodup by decide+kernel) rfl (Or.inl rfl)) mi))),(m0 (de (d_ (K:=K) rfl hu) (c3 (ixk K) (pv 1) Zb (λ_ _=>rfl)) (pv 2) (c8 _))),(pv 0)⟩))))),?_⟩
  try dsimp only[L2.cxX,L2.ZJ,L2.Zm]
  walk_at "rds";refine⟨p,w,hl,_,rfl,cw,b2,λgi iw=>?_⟩;walk_at "rds";refine Ul (own:=2) (nz (SqL.of cG)) (eF (by omega)) (λi=>[some (.int i),some (bs.getD i .non)]) (λ_=>rfl) (λi=>decide ((hl.belts.getD i dB).taker=w)) (λi v _=>v= .int i) (λ_ _ _ _ _ z=>z) (λi e2 aS v a8 lI bb cQ y bK k=>?_) (λi aS en bb cQ k=>?_) (λwc i aS en bb bH hp0 rL cQ k=>?_) (λr aS ys a' cQ fw iA=>?_)
  ·obtain⟨t,cL,rfl,rfl⟩:=y;obtain⟨x1,x2,rfl⟩:∃x1 x2,e2=[x1,x2]:=by
    match e2,bK with
    | [x1,x2],_=>exact⟨x1,x2,rfl⟩
   refine Rd.Zd2 (.of Zd) rfl ?_;walk_at "rds";exact k _ (cA cL)
  ·obtain⟨t,iR,g9⟩:=cR.getD (i:=i) (by omega);rw[iR];have n8:=cQ _ _ g9;generalize hl.belts.getD i dB=dW at*;dsimp only[B5.v] at n8;walk_at "rds";exact k aS (Ze.refl aS)
  ·walk_at "rds";exact k _ aS (Ze.refl aS) rfl
  ·refine q gi iw r aS a' cQ ?_;rw[fw,nA (R:=λi v _=>v=V.int (i:Nat)) (H:=aS) (r:=λi:Nat=>V.int i) (λ_ _ z=>z) iA,a6]
   rfl
end
def wd{K:Frag}{mg:Str→Option Value}(T:Tp K mg):Sp:=λvs H Q E=>∃(p:Addr)(w:Int)(hl:HM)(fp:List Addr),vs=[.ref p,.int w]∧c6 T H p hl fp∧hl.belts.length≤1000∧
 (¬(0≤w∧w<hl.names.length)→E (.ref T.h) none H)∧(0≤w→w<hl.names.length→∀r aS,H r=none→Ze H aS→aS r=some (.lst ((vb hl.belts w).map λi:Nat=>V.int i))→Q (.ref r) aS)
section
variable {P:Program}{w:World}{K:Frag}{mg:Str→Option Value}{base:Heap}
theorem we(T:Tp K mg):OkM P w mg base 5 T.bz (wd T):=by
 have fH:=T.a;have fI:=T.g;refine T.bz.F.okX u3 (λvs H Q E h=>?_) (λcy A outer s H vs Q E a' h=>?_)
 ·obtain⟨p,w,hl,fp,rfl,_⟩:=h
  rfl
 ·have hu:=a'.hu;obtain⟨p,w,hl,fp,rfl,cw,cd,b2,q⟩:=h;obtain⟨bI,a,b,bs,rfl,a_,bd,cx,cG,eR,cR⟩:=id cw;have a6:=cR.length;refine⟨_,(ce (dS (hE (pv 0) T.a T.ba (lV T) a' cB (a7 (pv 1) bJ)))
     (b' (cP (qk (xs:=["belt","row"]) rfl (jt (x:="belt") (zs:=["work"]) (ix:=[1]) (cT nN) ["self","work"] rfl rfl (by decide+kernel)) (ny (K:=K) rfl rfl T.L (a7 (e6 (K:=K) rfl (pv 0) rfl) bJ)) (λcl C s H fp=>⟨(UV (K:=K) (n:=2) rfl rfl (ja (fh (i:=0) (show(["belt","row","work"]:List Str).Nodup by decide+kernel) rfl (Or.inl rfl)) (ja (fh (i:=1) (show(["belt","row","work"]:List Str).Nodup by decide+kernel) rfl (Or.inl rfl)) mi))),(m0 (de (d_ (K:=K) rfl hu) (c3 (ixk K) (pv 1) Zb (λ_ _=>rfl)) (pv 2) (c8 _))),(pv 0)⟩))))),?_⟩
  try dsimp only[L2.cxX,L2.ZJ,L2.Zm]
  walk_at "rds";refine⟨p,w,hl,_,rfl,cw,b2,λgi iw=>?_⟩;walk_at "rds";refine Ul (own:=2) (nz (SqL.of cG)) (eF (by omega)) (λi=>[some (.int i),some (bs.getD i .non)]) (λ_=>rfl) (λi=>decide ((hl.belts.getD i dB).giver=w)) (λi v _=>v= .int i) (λ_ _ _ _ _ z=>z) (λi e2 aS v a8 lI bb cQ y bK k=>?_) (λi aS en bb cQ k=>?_) (λwc i aS en bb bH hp0 rL cQ k=>?_) (λr aS ys a' cQ fw iA=>?_)
  ·obtain⟨t,cL,rfl,rfl⟩:=y;obtain⟨x1,x2,rfl⟩:∃x1 x2,e2=[x1,x2]:=by
    match e2,bK with
    | [x1,x2],_=>exact⟨x1,x2,rfl⟩
   refine Rd.Zd2 (.of Zd) rfl ?_;walk_at "rds";exact k _ (cA cL)
  ·obtain⟨t,iR,g9⟩:=cR.getD (i:=i) (by omega);rw[iR];have n8:=cQ _ _ g9;generalize hl.belts.getD i dB=dW at*;dsimp only[B5.v] at n8;walk_at "rds";exact k aS (Ze.refl aS)
  ·walk_at "rds";exact k _ aS (Ze.refl aS) rfl
  ·refine q gi iw r aS a' cQ ?_;rw[fw,nA (R:=λi v _=>v=V.int (i:Nat)) (H:=aS) (r:=λi:Nat=>V.int i) (λ_ _ z=>z) iA,a6]
   rfl
end
def wf{K:Frag}{mg:Str→Option Value}(T:Tp K mg):Sp:=λvs H Q _=>∃(p a:Addr)(dd d4:Int)(ns:List Int)(x:Str)(hl:HM)(fp:List Addr),vs=[.ref p,.int dd,.ref a,.str x]∧c6 T H p hl fp∧SqL K H a (ns.map V.int)∧hl.names.length≤1000∧hl.belts.length≤1000∧hl.names.Nodup∧x.length≤1000∧Wd hl dd ns x d4∧∀b aS,Ze H aS→aS b=some (.lst ((lP d4).map V.bl))→Q (.ref b) aS
section
variable {P:Program}{w:World}{K:Frag}{mg:Str→Option Value}{base:Heap}
theorem iT(T:Tp K mg):OkN P w base 6 T.aX (wf T):=by
 have kX:ZX P w K mg base (CXX P w) 5 T.o T.p ["self","giver","taker","give","take","start"] (kU T):=(n7 T).mono (by decide);have fH:=T.a;have fI:=T.g;refine T.aX.F.okX nR (λvs H Q E h=>?_) (λcy A outer s H vs Q E a' h=>?_)
 ·obtain⟨p,a,dd,d4,ns,x,hl,fp,rfl,_⟩:=h
  rfl
 ·have hu:=a'.hu;obtain⟨p,a,dd,d4,ns,x,hl,fp,rfl,cw,bK,bM,cd,nd,bc,iz,q⟩:=h;have kP:x.length≤sizeLine:=QK (eF bc);refine⟨_,(ce (uq (j:=4) rfl rfl rfl T.aZ.m (λJ f7 pn hA ownT iU=>(b' (c4 (de (d_ (K:=K) rfl hu) (pv 1) Zb (c8 _)) (b' (dS (jw (pv 0) T.a T.x9 (n2 T) a' iU (a7 (pv 3) bJ)))) (b' (c4 (de (d_ (K:=K) rfl hu) (pv 1) Zb (c8 _)) (b' (dS (pW (pv 0) T.a T.I kX a' T.J .nil iU (a7 (c3 (ixk K) (pv 2) Zb (λ_ _=>rfl)) (a7 (c3 (ixk K) (pv 2) Zb (λ_ _=>rfl)) (a7 (c3 (ixk K) (pv 2) Zb (λ_ _=>rfl)) (a7 (c3 (ixk K) (pv 2) Zb (λ_ _=>rfl)) (a7 (c3 (ixk K) (pv 2) Zb (λ_ _=>rfl)) bJ)))))))) (b' (c4 (de (d_ (K:=K) rfl hu) (pv 1) Zb (c8 _)) (b' (dS (jw (pv 0) T.a T.bu (v0 T) a' iU (a7 (c3 (ixk K) (pv 2) Zb (λ_ _=>rfl)) (a7 (c3 (ixk K) (pv 2) Zb (λ_ _=>rfl)) bJ))))) (b' (c4 (de (d_ (K:=K) rfl hu) (pv 1) Zb (c8 _)) (b' (dS (jw (pv 0) T.a T.bv (v9 T) a' iU (a7 (pv 3) bJ)))) (b' (c4 (de (d_ (K:=K) rfl hu) (pv 1) Zb (c8 _)) (b' (dS (jw (pv 0) T.a T.bw (v' T) a' iU (a7 (c3 (ixk K) (pv 2) Zb (λ_ _=>rfl)) bJ)))) (b' (c4 (de (d_ (K:=K) rfl hu) (pv 1) Zb (c8 _)) (b' (dS (jw (pv 0) T.a T.bx (wb T) a' iU (a7 (c3 (ixk K) (pv 2) Zb (λ_ _=>rfl)) bJ)))) (b' (dS (jw (pv 0) T.a T.bz (we T) a' iU (a7 (c3 (ixk K) (pv 2) Zb (λ_ _=>rfl)) bJ))))))))))))))))) (λA'=>(ce (c4 (eV (K:=K) rfl (dj (uH (K:=K) rfl) (by rfl) T.e Qf (a7 (pv 4) (a7 (hT (a7 (fW (v:= .ref T.c) rfl T.bk.m rfl) (a7 (fW (v:= .ref T.b) rfl T.bg.m rfl) bJ))) bJ))) (λ_=>rfl)) (b' (cP (el bJ))) dn)
     (ce (d7 (i:=5) nR.nd rfl (Or.inl rfl) (el (a7 (dj (iM (K:=K) rfl) (by rfl) T.e Qf (a7 (pv 4) (a7 (fW (v:= .ref T.l) rfl T.G.m rfl) bJ))) (a7 (dj (iM (K:=K) rfl) (by rfl) T.e Qf (a7 (pv 4) (a7 (fW (v:= .ref T.q) rfl T.aV.m rfl) bJ))) (a7 (dj (iM (K:=K) rfl) (by rfl) T.e Qf (a7 (pv 4) (a7 (fW (v:= .ref T.h) rfl T.aQ.m rfl) bJ))) (a7 (dj (iM (K:=K) rfl) (by rfl) T.e Qf (a7 (pv 4) (a7 (fW (v:= .ref T.j) rfl T.aR.m rfl) bJ))) bJ))))))
     (b' (cP (b4 (dG K) (pv 5) (el (a7 (dj (iM (K:=K) rfl) (by rfl) T.e Qf (a7 (pv 4) (a7 (fW (v:= .ref T.k) rfl T.H.m rfl) bJ))) (a7 (dj (iM (K:=K) rfl) (by rfl) T.e Qf (a7 (pv 4) (a7 (fW (v:= .ref T.i) rfl T.r.m rfl) bJ))) (a7 (dj (iM (K:=K) rfl) (by rfl) T.e Qf (a7 (pv 4) (a7 (jY (v:= .ty "ValueError") (by rfl) T.aT (by first|rfl|decide+kernel) rfl) bJ))) bJ)))))))))) nR.nd rfl rfl)
     (b' (cP (el bJ)))),?_⟩
  try dsimp only[L2.cxX,L2.ZJ,L2.Zm]
  walk_at "rds";refine L2.Rd.Zgw (λcls _ aS=>Ze H aS∧((cls= .ref T.l∧d4=0)∨(cls= .ref T.q∧d4=1)∨(cls= .ref T.h∧d4=2)∨(cls= .ref T.j∧d4=3)∨(cls= .ref T.k∧d4=4)∨(cls= .ref T.i∧d4=5))) ?_ ?_
  ·clear q;rcases iz with⟨rfl,h⟩|⟨rfl,es,h⟩|⟨rfl,eA,h⟩|⟨rfl,h,e⟩|⟨rfl,eA,h,e⟩|⟨hd,eA,h,e⟩
   ·walk_at "rds";refine⟨p,x,hl,fp,rfl,cw,kP,bM,λz aS s'=>⟨s',.inl ⟨rfl,?_⟩⟩,λz y aS s'=>⟨s',.inr (.inl ⟨rfl,?_⟩)⟩,λz y dz aS s'=>⟨s',.inr (.inr (.inr (.inr (.inr ⟨rfl,?_⟩))))⟩,λz y dz aS db _ _ _=>?_⟩
    ·rcases h with⟨_,e⟩|⟨dk,_⟩|⟨dk,_⟩
     ·exact e
     ·rw[z] at dk;cases dk
     ·rw[z] at dk;cases dk
    ·rcases h with⟨dk,_⟩|⟨_,_,e⟩|⟨_,a2,_⟩
     ·rw[z] at dk;cases dk
     ·exact e
     ·exact absurd y a2
    ·rcases h with⟨dk,_⟩|⟨_,a2,_⟩|⟨_,_,_,e⟩
     ·rw[z] at dk;cases dk
     ·exact absurd a2 y
     ·exact e
    ·rcases h with⟨dk,_⟩|⟨_,a2,_⟩|⟨_,_,a3,_⟩
     ·rw[z] at dk;cases dk
     ·exact absurd a2 y
     ·omega
   ·have kO:atI (ns.map V.int) 0=some (.int (ns.getD 0 0)):=ZK (k:=0) (by omega) (by omega);have eB:atI (ns.map V.int) 1=some (.int (ns.getD 1 0)):=ZK (k:=1) (by omega) (by omega);have ru:atI (ns.map V.int) 2=some (.int (ns.getD 2 0)):=ZK (k:=2) (by omega) (by omega);have rv:atI (ns.map V.int) 3=some (.int (ns.getD 3 0)):=ZK (k:=3) (by omega) (by omega);have n0:atI (ns.map V.int) 4=some (.int (ns.getD 4 0)):=ZK (k:=4) (by omega) (by omega);walk_at "rds";refine⟨p,⟨ns.getD 0 0,ns.getD 1 0,ns.getD 2 0,ns.getD 3 0,ns.getD 4 0⟩,hl,fp,rfl,cw,cd,λz aS s'=>⟨s',.inr (.inr (.inl ⟨rfl,?_⟩))⟩,λz y aS s'=>⟨s',.inr (.inr (.inr (.inr (.inl ⟨rfl,?_⟩))))⟩,λz y dz aS s'=>⟨s',.inr (.inr (.inr (.inr (.inr ⟨rfl,?_⟩))))⟩,λz y dz aS db _ _ _=>?_⟩
    ·rcases h with⟨_,e⟩|⟨dk,_⟩|⟨dk,_⟩
     ·exact e
     ·exact absurd dk z
     ·exact absurd dk z
    ·rcases h with⟨dk,_⟩|⟨_,_,e⟩|⟨_,a2,_⟩
     ·exact absurd z dk
     ·exact e
     ·exact absurd a2 y
    ·rcases h with⟨dk,_⟩|⟨_,a2,_⟩|⟨_,_,_,e⟩
     ·exact absurd z dk
     ·exact absurd y a2
     ·exact e
    ·rcases h with⟨dk,_⟩|⟨_,a2,_⟩|⟨_,_,a3,_⟩
     ·exact absurd z dk
     ·exact absurd y a2
     ·omega
   ·have n0:atI (ns.map V.int) 4=some (.int (ns.getD 4 0)):=ZK (k:=4) (by omega) (by omega);have rx:atI (ns.map V.int) 5=some (.int (ns.getD 5 0)):=ZK (k:=5) (by omega) (by omega);walk_at "rds";refine⟨p,ns.getD 5 0,ns.getD 4 0,hl,fp,rfl,cw,λz=>⟨Ze.refl H,.inr (.inr (.inr (.inl ⟨rfl,?_⟩)))⟩,λz y=>⟨Ze.refl H,.inr (.inr (.inr (.inr (.inl ⟨rfl,?_⟩))))⟩,λz y b aS db _ _ _ _=>?_⟩
    ·rcases h with⟨_,e⟩|⟨dk,_⟩
     ·exact e
     ·exact absurd dk z
    ·rcases h with⟨dk,_⟩|⟨_,_,e⟩
     ·exact absurd z dk
     ·exact e
    ·rcases h with⟨dk,_⟩|⟨_,a2,_⟩
     ·exact absurd z dk
     ·exact absurd y a2
   ·walk_at "rds";refine⟨p,x,hl,fp,rfl,cw,kP,nd,λz aS s'=>⟨s',.inl ⟨rfl,e⟩⟩,λi bb z=>absurd ⟨z,QG bb⟩ h⟩
   ·have rx:atI (ns.map V.int) 5=some (.int (ns.getD 5 0)):=ZK (k:=5) (by omega) (by omega);walk_at "rds";refine⟨p,ns.getD 5 0,hl,fp,rfl,cw,λz=>⟨Ze.refl H,.inr (.inr (.inr (.inl ⟨rfl,e⟩)))⟩,λz y=>absurd ⟨z,y⟩ h⟩
   ·have kO:atI (ns.map V.int) 0=some (.int (ns.getD 0 0)):=ZK (k:=0) (by omega) (by omega);rcases hd with rfl|rfl
    ·walk_at "rds";refine⟨p,ns.getD 0 0,hl,fp,rfl,cw,cd,λz=>⟨Ze.refl H,.inr (.inr (.inl ⟨rfl,e⟩))⟩,λz y=>absurd ⟨z,y⟩ h⟩
    ·walk_at "rds";refine⟨p,ns.getD 0 0,hl,fp,rfl,cw,cd,λz=>⟨Ze.refl H,.inr (.inr (.inl ⟨rfl,e⟩))⟩,λz y=>absurd ⟨z,y⟩ h⟩
  ·clear iz;rintro cls a1 ⟨bj,⟨rfl,rfl⟩|⟨rfl,rfl⟩|⟨rfl,rfl⟩|⟨rfl,rfl⟩|⟨rfl,rfl⟩|⟨rfl,rfl⟩⟩
   ·have gI:=T.a2;have k0:=T.Z;have k1:=T.aA;have k2:=T.aa;have k3:=T.ab;have iQ:=T.ac;have k5:=T.O;have kY:=T.x;refine⟨T.B,_,rfl,λbR gJ=>?_⟩;have gK:(upd a1 bR (dy bR T.l)) bR=some (dy bR T.l):=Zd;have bQ:Ze H (upd a1 bR (dy bR T.l)):=bj.trans (cA gJ);generalize upd a1 bR (dy bR T.l)=a8 at*;walk_at "rds";refine⟨by show 2≤sizeLine;decide,λdC f8=>?_⟩;have bV:Ze a8 (upd a8 dC (.tup [.ref T.c,.ref T.b])):=cA f8;have er:(upd a8 dC (.tup [.ref T.c,.ref T.b])) dC=some (.tup [.ref T.c,.ref T.b]):=Zd;generalize upd a8 dC (.tup [.ref T.c,.ref T.b])=b1 at*;have fe:=bV _ _ gK;walk_at "rds";refine Rd.US fe gI er T.az T.Y ?_;refine Rd.Uc (b:=false) ?_;walk_at "rds";refine⟨by show 4≤sizeLine;decide,λcO fb=>?_⟩;have c5:Ze b1 (upd b1 cO (.lst [.bl true,.bl false,.bl false,.bl false])):=cA fb;have fQ:(upd b1 cO (.lst [.bl true,.bl false,.bl false,.bl false])) cO=some (.lst [.bl true,.bl false,.bl false,.bl false]):=Zd;generalize upd b1 cO (.lst [.bl true,.bl false,.bl false,.bl false])=b5 at*;have kZ:=c5 _ _ fe;walk_at "rds";refine⟨by show 3≤sizeLine;decide,λcI es=>?_⟩;have cK:Ze b5 (upd b5 cI (.lst [.bl false,.bl false,.bl true])):=cA es;have e7:(upd b5 cI (.lst [.bl false,.bl false,.bl true])) cI=some (.lst [.bl false,.bl false,.bl true]):=Zd;have gL:=cK _ _ fQ;generalize upd b5 cI (.lst [.bl false,.bl false,.bl true])=b9 at*;refine Rd.V8 gL e7 (by show 7≤sizeLine;decide) (λeQ eA=>?_);exact q eQ _ ((((bQ.trans bV).trans c5).trans cK).trans (cA eA)) Zd
   ·have gI:=T.bh;have k0:=T.aC;have k1:=T.aO;have k2:=T.aD;have k3:=T.aE;have iQ:=T.aF;have k5:=T.ad;have kY:=T.F;refine⟨T.M,_,rfl,λbR gJ=>?_⟩;have gK:(upd a1 bR (dy bR T.q)) bR=some (dy bR T.q):=Zd;have bQ:Ze H (upd a1 bR (dy bR T.q)):=bj.trans (cA gJ);generalize upd a1 bR (dy bR T.q)=a8 at*;walk_at "rds";refine⟨by show 2≤sizeLine;decide,λdC f8=>?_⟩;have bV:Ze a8 (upd a8 dC (.tup [.ref T.c,.ref T.b])):=cA f8;have er:(upd a8 dC (.tup [.ref T.c,.ref T.b])) dC=some (.tup [.ref T.c,.ref T.b]):=Zd;generalize upd a8 dC (.tup [.ref T.c,.ref T.b])=b1 at*;have fe:=bV _ _ gK;walk_at "rds";refine Rd.US fe gI er T.aN T.aB ?_;refine Rd.Uc (b:=false) ?_;walk_at "rds";refine⟨by show 4≤sizeLine;decide,λcO fb=>?_⟩;have c5:Ze b1 (upd b1 cO (.lst [.bl false,.bl true,.bl false,.bl false])):=cA fb;have fQ:(upd b1 cO (.lst [.bl false,.bl true,.bl false,.bl false])) cO=some (.lst [.bl false,.bl true,.bl false,.bl false]):=Zd;generalize upd b1 cO (.lst [.bl false,.bl true,.bl false,.bl false])=b5 at*;have kZ:=c5 _ _ fe;walk_at "rds";refine⟨by show 3≤sizeLine;decide,λcI es=>?_⟩;have cK:Ze b5 (upd b5 cI (.lst [.bl false,.bl false,.bl true])):=cA es;have e7:(upd b5 cI (.lst [.bl false,.bl false,.bl true])) cI=some (.lst [.bl false,.bl false,.bl true]):=Zd;have gL:=cK _ _ fQ;generalize upd b5 cI (.lst [.bl false,.bl false,.bl true])=b9 at*;refine Rd.V8 gL e7 (by show 7≤sizeLine;decide) (λeQ eA=>?_);exact q eQ _ ((((bQ.trans bV).trans c5).trans cK).trans (cA eA)) Zd
   ·have gI:=T.a3;have k0:=T.ah;have k1:=T.aH;have k2:=T.ai;have k3:=T.aj;have iQ:=T.ak;have k5:=T.U;have kY:=T.y;refine⟨T.C,_,rfl,λbR gJ=>?_⟩;have gK:(upd a1 bR (dy bR T.h)) bR=some (dy bR T.h):=Zd;have bQ:Ze H (upd a1 bR (dy bR T.h)):=bj.trans (cA gJ);generalize upd a1 bR (dy bR T.h)=a8 at*;walk_at "rds";refine⟨by show 2≤sizeLine;decide,λdC f8=>?_⟩;have bV:Ze a8 (upd a8 dC (.tup [.ref T.c,.ref T.b])):=cA f8;have er:(upd a8 dC (.tup [.ref T.c,.ref T.b])) dC=some (.tup [.ref T.c,.ref T.b]):=Zd;generalize upd a8 dC (.tup [.ref T.c,.ref T.b])=b1 at*;have fe:=bV _ _ gK;walk_at "rds";refine Rd.US fe gI er T.aG T.ag ?_;refine Rd.Uc (b:=false) ?_;walk_at "rds";refine⟨by show 4≤sizeLine;decide,λcO fb=>?_⟩;have c5:Ze b1 (upd b1 cO (.lst [.bl false,.bl false,.bl true,.bl false])):=cA fb;have fQ:(upd b1 cO (.lst [.bl false,.bl false,.bl true,.bl false])) cO=some (.lst [.bl false,.bl false,.bl true,.bl false]):=Zd;generalize upd b1 cO (.lst [.bl false,.bl false,.bl true,.bl false])=b5 at*;have kZ:=c5 _ _ fe;walk_at "rds";refine⟨by show 3≤sizeLine;decide,λcI es=>?_⟩;have cK:Ze b5 (upd b5 cI (.lst [.bl false,.bl false,.bl true])):=cA es;have e7:(upd b5 cI (.lst [.bl false,.bl false,.bl true])) cI=some (.lst [.bl false,.bl false,.bl true]):=Zd;have gL:=cK _ _ fQ;generalize upd b5 cI (.lst [.bl false,.bl false,.bl true])=b9 at*;refine Rd.V8 gL e7 (by show 7≤sizeLine;decide) (λeQ eA=>?_);exact q eQ _ ((((bQ.trans bV).trans c5).trans cK).trans (cA eA)) Zd
   ·have gI:=T.a4;have k0:=T.am;have k1:=T.aJ;have k2:=T.an;have k3:=T.ao;have iQ:=T.ap;have k5:=T.V;have kY:=T.z;refine⟨T.D,_,rfl,λbR gJ=>?_⟩;have gK:(upd a1 bR (dy bR T.j)) bR=some (dy bR T.j):=Zd;have bQ:Ze H (upd a1 bR (dy bR T.j)):=bj.trans (cA gJ);generalize upd a1 bR (dy bR T.j)=a8 at*;walk_at "rds";refine⟨by show 2≤sizeLine;decide,λdC f8=>?_⟩;have bV:Ze a8 (upd a8 dC (.tup [.ref T.c,.ref T.b])):=cA f8;have er:(upd a8 dC (.tup [.ref T.c,.ref T.b])) dC=some (.tup [.ref T.c,.ref T.b]):=Zd;generalize upd a8 dC (.tup [.ref T.c,.ref T.b])=b1 at*;have fe:=bV _ _ gK;walk_at "rds";refine Rd.US fe gI er T.aI T.al ?_;refine Rd.Uc (b:=false) ?_;walk_at "rds";refine⟨by show 4≤sizeLine;decide,λcO fb=>?_⟩;have c5:Ze b1 (upd b1 cO (.lst [.bl false,.bl false,.bl false,.bl true])):=cA fb;have fQ:(upd b1 cO (.lst [.bl false,.bl false,.bl false,.bl true])) cO=some (.lst [.bl false,.bl false,.bl false,.bl true]):=Zd;generalize upd b1 cO (.lst [.bl false,.bl false,.bl false,.bl true])=b5 at*;have kZ:=c5 _ _ fe;walk_at "rds";refine⟨by show 3≤sizeLine;decide,λcI es=>?_⟩;have cK:Ze b5 (upd b5 cI (.lst [.bl false,.bl false,.bl true])):=cA es;have e7:(upd b5 cI (.lst [.bl false,.bl false,.bl true])) cI=some (.lst [.bl false,.bl false,.bl true]):=Zd;have gL:=cK _ _ fQ;generalize upd b5 cI (.lst [.bl false,.bl false,.bl true])=b9 at*;refine Rd.V8 gL e7 (by show 7≤sizeLine;decide) (λeQ eA=>?_);exact q eQ _ ((((bQ.trans bV).trans c5).trans cK).trans (cA eA)) Zd
   ·have gI:=T.a5;have k0:=T.ar;have k1:=T.aL;have k2:=T.au;have k3:=T.av;have iQ:=T.aw;have k5:=T.X;have kY:=T.A;refine⟨T.E,_,rfl,λbR gJ=>?_⟩;have gK:(upd a1 bR (dy bR T.k)) bR=some (dy bR T.k):=Zd;have bQ:Ze H (upd a1 bR (dy bR T.k)):=bj.trans (cA gJ);generalize upd a1 bR (dy bR T.k)=a8 at*;walk_at "rds";refine⟨by show 2≤sizeLine;decide,λdC f8=>?_⟩;have bV:Ze a8 (upd a8 dC (.tup [.ref T.c,.ref T.b])):=cA f8;have er:(upd a8 dC (.tup [.ref T.c,.ref T.b])) dC=some (.tup [.ref T.c,.ref T.b]):=Zd;generalize upd a8 dC (.tup [.ref T.c,.ref T.b])=b1 at*;have fe:=bV _ _ gK;walk_at "rds";refine Rd.US fe gI er T.aK T.aq ?_;refine Rd.Uc (b:=false) ?_;walk_at "rds";refine⟨by show 4≤sizeLine;decide,λcO fb=>?_⟩;have c5:Ze b1 (upd b1 cO (.lst [.bl false,.bl false,.bl false,.bl false])):=cA fb;have fQ:(upd b1 cO (.lst [.bl false,.bl false,.bl false,.bl false])) cO=some (.lst [.bl false,.bl false,.bl false,.bl false]):=Zd;generalize upd b1 cO (.lst [.bl false,.bl false,.bl false,.bl false])=b5 at*;have kZ:=c5 _ _ fe;walk_at "rds";refine⟨by show 3≤sizeLine;decide,λcI es=>?_⟩;have cK:Ze b5 (upd b5 cI (.lst [.bl true,.bl false,.bl true])):=cA es;have e7:(upd b5 cI (.lst [.bl true,.bl false,.bl true])) cI=some (.lst [.bl true,.bl false,.bl true]):=Zd;have gL:=cK _ _ fQ;generalize upd b5 cI (.lst [.bl true,.bl false,.bl true])=b9 at*;refine Rd.V8 gL e7 (by show 7≤sizeLine;decide) (λeQ eA=>?_);exact q eQ _ ((((bQ.trans bV).trans c5).trans cK).trans (cA eA)) Zd
   ·have gI:=T.a0;have k0:=T.Q;have k1:=T.af;have k2:=T.R;have k3:=T.S;have iQ:=T.T;have k5:=T.N;have kY:=T.t;refine⟨T.w,_,rfl,λbR gJ=>?_⟩;have gK:(upd a1 bR (dy bR T.i)) bR=some (dy bR T.i):=Zd;have bQ:Ze H (upd a1 bR (dy bR T.i)):=bj.trans (cA gJ);generalize upd a1 bR (dy bR T.i)=a8 at*;walk_at "rds";refine⟨by show 2≤sizeLine;decide,λdC f8=>?_⟩;have bV:Ze a8 (upd a8 dC (.tup [.ref T.c,.ref T.b])):=cA f8;have er:(upd a8 dC (.tup [.ref T.c,.ref T.b])) dC=some (.tup [.ref T.c,.ref T.b]):=Zd;generalize upd a8 dC (.tup [.ref T.c,.ref T.b])=b1 at*;have fe:=bV _ _ gK;walk_at "rds";refine Rd.US fe gI er T.ae T.P ?_;refine Rd.Uc (b:=false) ?_;walk_at "rds";refine⟨by show 4≤sizeLine;decide,λcO fb=>?_⟩;have c5:Ze b1 (upd b1 cO (.lst [.bl false,.bl false,.bl false,.bl false])):=cA fb;have fQ:(upd b1 cO (.lst [.bl false,.bl false,.bl false,.bl false])) cO=some (.lst [.bl false,.bl false,.bl false,.bl false]):=Zd;generalize upd b1 cO (.lst [.bl false,.bl false,.bl false,.bl false])=b5 at*;have kZ:=c5 _ _ fe;walk_at "rds";refine⟨by show 3≤sizeLine;decide,λcI es=>?_⟩;have cK:Ze b5 (upd b5 cI (.lst [.bl false,.bl true,.bl true])):=cA es;have e7:(upd b5 cI (.lst [.bl false,.bl true,.bl true])) cI=some (.lst [.bl false,.bl true,.bl true]):=Zd;have gL:=cK _ _ fQ;generalize upd b5 cI (.lst [.bl false,.bl true,.bl true])=b9 at*;refine Rd.V8 gL e7 (by show 7≤sizeLine;decide) (λeQ eA=>?_);exact q eQ _ ((((bQ.trans bV).trans c5).trans cK).trans (cA eA)) Zd
end
def wg{K:Frag}{mg:Str→Option Value}(T:Tp K mg):Sp:=λvs H Q _=>∃(a:Addr)(d:Int),vs=[.ref a,.int d]∧H a=some (.lst ((lP d).map V.bl))∧∀aS,Ze H aS→Q (.bl true) aS
section
variable {P:Program}{w:World}{K:Frag}{mg:Str→Option Value}{base:Heap}
theorem iV(T:Tp K mg):OkN P w base 1 T.aY (wg T):=by
 refine T.aY.F.okX u4 (λvs H Q E h=>?_) (λcy A outer s H vs Q E a' h=>?_)
 ·obtain⟨a,d,rfl,_⟩:=h
  rfl
 ·have hu:=a'.hu;obtain⟨a,d,rfl,bK,q⟩:=h;refine⟨_,(b' (cP (gW (d_ (K:=K) rfl hu) (pv 0) (nk rfl (jt (x:="_law_k") (zs:=["_law_due_here"]) (ix:=[1]) (cT nO) ["_law_told","_law_due_here"] rfl rfl (by decide+kernel)) (jb rfl T.m (a7 Zb bJ)) (λcl C s H fp=>⟨(fh (i:=0) (show(["_law_k","_law_due_here"]:List Str).Nodup by decide+kernel) rfl (Or.inl rfl)),mZ,(su (gW (d_ (K:=K) rfl hu) (pv 0) (pv 1) (c8 _)) (j0 (gW (d_ (K:=K) rfl hu) (pv 0) Zb (c8 _))))⟩)) (c8 _)))),?_⟩
  try dsimp only[L2.cxX,L2.ZJ,L2.Zm]
  walk_at "rds";refine Ws pX (eF (by decide)) (λ_=>true) (λi=> .bl (decide ((i:Int)=d)||decide ((i:Int)=6))) (λi aS en bb cQ k=>?_) (λi aS en bb _ cQ k=>?_) (λc a1 bH bj lS=>?_)
  ·walk_at "rds";exact k aS (Ze.refl aS)
  ·rw[Int.zero_add];walk_at "rds"
   by_cases e:(i:Int)=d
   ·rw[decide_eq_true e] at k⊢;walk_at "rds";exact k aS (Ze.refl aS)
   ·rw[decide_eq_false e] at k⊢;walk_at "rds";exact k aS (Ze.refl aS)
  have e5:a1 c=some (.lst ((lP d).map V.bl)):=by
   rw[lS,List.filter_eq_self.mpr (by simp)];unfold lP;rw[QV]
   rfl
  walk_at "rds";refine Zgh (bj _ _ bK) e5 ?_;exact q a1 bj
end
def wh{K:Frag}{mg:Str→Option Value}(T:Tp K mg):Sp:=λvs H Q _=>∃(p cC cJ bT:Addr)(bs:List V)(ff:List Int)(hl:HM)(fp:List Addr),vs=[.ref p,.ref cC,.ref cJ,.ref bT]∧c6 T H p hl fp∧SqL K H cC (hl.names.map V.str)∧SqL K H cJ bs∧bs.length=hl.belts.length∧SqL K H bT (ff.map V.int)∧ff.length≤63∧1≤hl.names.length∧hl.names.length≤30∧hl.belts.length≤60∧hl.names.Nodup∧(∀n∈hl.names,n.length≤8)∧∀aS,Ze H aS→Q (.bl true) aS
section
variable {P:Program}{w:World}{K:Frag}{mg:Str→Option Value}{base:Heap}
theorem wi(T:Tp K mg):OkN P w base 7 T.bA (wh T):=by
 refine T.bA.F.okX hF (λvs H Q E h=>?_) (λcy A outer s H vs Q E a' h=>?_)
 ·obtain⟨p,cC,cJ,bT,bs,ff,hl,fp,rfl,_⟩:=h
  rfl
 ·have hu:=a'.hu;obtain⟨p,cC,cJ,bT,bs,ff,hl,fp,rfl,cw,bM,b7,n9,fL,Ag,eP,wj,Ah,nd,nY,q⟩:=h;refine⟨_,(ce (ii PassesOwn.leaving rfl (ny (K:=K) rfl rfl T.L (a7 (b4 (dG K) (el (a7 (cU T.x0 (jB T) a' cB (a7 (pv 3) (a7 Zb bJ))) bJ)) (jj (jv (K:=K) rfl) (pv 3) (iu Zb) (iu Zb))) bJ)) (UV (K:=K) (n:=2) rfl rfl (ja (fh (i:=4) hF.nd rfl (Or.inl rfl)) (ja (fh (i:=5) hF.nd rfl (Or.inl rfl)) mi))) (ce (d7 (i:=6) hF.nd rfl (Or.inl rfl) (el (a7 (cU T.x6 (n1 T) a' cB (a7 (dj (eg K) (by rfl) T.f Qd (a7 (pv 1) bJ)) (a7 (pv 5) (a7 (b4 (dG K) Zb (pv 4)) bJ)))) (a7 (cU T.x6 (n1 T) a' cB (a7 (dj (eg K) (by rfl) T.f Qd (a7 (pv 1) bJ)) (a7 (pv 5) (a7 (b4 (dG K) Zb (pv 4)) bJ)))) bJ))))
     (ce (ii PassesOwn.leaving rfl (jb rfl T.m (a7 Zb bJ)) (fh (i:=7) hF.nd rfl (Or.inl rfl)) (b' (dS (hD (K:=K) rfl Qs Qq Qr gZ (pv 6) (a7 (c3 (ixk K) (el (a7 Zb (a7 (b4 dr (gU gV (pv 5)) (b4 je Zb Zb)) (a7 (b4 j6 (gU gV Zb) (b4 dr (pv 5) (b4 je Zb Zb))) (a7 Zb (a7 Zb bJ)))))) (b4 dr (cU T.x1 (hI T) a' cB (a7 (pv 5) (a7 (b4 (dG K) (b4 (dG K) Zb (pv 4)) (b4 js Zb (pv 7))) bJ))) Zb) (λ_ _=>rfl)) bJ)))))
     (ce (dS (hD (K:=K) rfl Qs Qq Qr gZ (pv 6) (a7 (c3 (ixk K) (el (a7 Zb (a7 (gU gV Zb) (a7 (b4 j6 (gU gV Zb) (b4 dr (pv 5) (b4 je Zb Zb))) (a7 Zb bJ))))) (b4 dr (cU T.x1 (hI T) a' cB (a7 (pv 5) (a7 (b4 (dG K) Zb (pv 4)) bJ))) Zb) (λ_ _=>rfl)) bJ)))
     (ce (dS (hD (K:=K) rfl Qs Qq Qr gZ (pv 6) (a7 (cU T.x6 (n1 T) a' cB (a7 (dj (eg K) (by rfl) T.f Qd (a7 (pv 2) bJ)) (a7 (pv 5) (a7 (b4 (dG K) Zb (pv 4)) bJ)))) bJ)))
     (ce (d7 (i:=8) hF.nd rfl (Or.inl rfl) (b4 dr (cU T.x1 (hI T) a' cB (a7 (pv 5) (a7 (b4 (dG K) Zb (pv 4)) bJ))) Zb))
     (ce (d7 (i:=9) hF.nd rfl (Or.inl rfl) (cU T.x3 (vz T) a' cB (a7 (pv 1) (a7 (pv 5) (a7 (b4 (dG K) Zb (pv 4)) bJ)))))
     (ce (c4 (eC (eV (K:=K) rfl (cU T.x8 (vL T) a' cB (a7 (pv 9) (a7 (cU T.x1 (hI T) a' cB (a7 (pv 5) (a7 (b4 (dG K) Zb (pv 4)) bJ))) bJ))) (λ_=>rfl))) (b' (cP Yf)) dn)
     (ce (d7 (i:=10) hF.nd rfl (Or.inl rfl) (cU T.x5 (vE T) a' cB (a7 (pv 1) (a7 (pv 2) (a7 (pv 8) (a7 (pv 6) (a7 (pv 9) bJ)))))))
     (b' (c4 (de ln (pv 10) Zb (c8 _)) (ce (d7 (i:=11) hF.nd rfl (Or.inl rfl) (cU T.aX (iT T) a' cB (a7 (pv 0) (a7 (pv 8) (a7 (pv 6) (a7 (pv 9) bJ))))))
     (b' (c4 (eC (eV (K:=K) rfl (cU T.aY (iV T) a' cB (a7 (pv 11) (a7 (pv 10) bJ))) (λ_=>rfl))) (b' (cP Yf)) dn))) dn)))))))))))
     (b' (cP Yf))),?_⟩
  try dsimp only[L2.cxX,L2.ZJ,L2.Zm]
  walk_at "rds";intro eh h4;have bj:Ze H (upd H eh (.lst [V.int (cellS ff 0)])):=cA h4;have h2:(upd H eh (.lst [V.int (cellS ff 0)])) eh=some (.lst [V.int (cellS ff 0)]):=Zd;generalize upd H eh (.lst [V.int (cellS ff 0)])=a1 at*;have rM:=bj.seq fL;walk_at "rds";refine Rd.slL rM (λea g0=>?_);rw[ZdW];generalize iq:(ff.drop (HT.sIx ff.length 0 (some 10))).take (HT.sIx ff.length ff.length (some 20)-HT.sIx ff.length 0 (some 10))=cY;have dl:cY.length≤63:=by rw[←iq];simp only[Q5,List.length_drop];omega
  clear iq;have bQ:Ze a1 (upd a1 ea (.lst (cY.map V.int))):=cA g0;have fr:(upd a1 ea (.lst (cY.map V.int))) ea=some (.lst (cY.map V.int)):=Zd;generalize upd a1 ea (.lst (cY.map V.int))=a8 at*;have lW:=bQ _ _ h2;refine Rd.V8 lW fr (by rw[Qe];exact QK (eF (by simp;omega))) (λei jC=>?_);have et:[V.int (cellS ff 0)]++cY.map V.int=(cellS ff 0::cY).map V.int:=rfl;rw[et];have lR:(cellS ff 0::cY).length≤64:=by simp;omega
  generalize cellS ff 0::cY=xs at*;have bV:Ze a8 (upd a8 ei (.lst (xs.map V.int))):=cA jC;have er:(upd a8 ei (.lst (xs.map V.int))) ei=some (.lst (xs.map V.int)):=Zd;generalize upd a8 ei (.lst (xs.map V.int))=b1 at*;have rN:Ze H b1:=(bj.trans bQ).trans bV;clear et bj bQ bV h2 fr lW h4 g0 jC rM;walk_at "rds";refine Zdb (nz (SqL.of er)) (λi aM aS=>Ze b1 aS∧∃a4 a5 eH kI jA a9 lX lY,aM=[some (.ref p),some (.ref cC),some (.ref cJ),some (.ref bT),a4,a5,eH,kI,jA,a9,lX,lY]) ⟨Ze.refl b1,_,_,_,_,_,_,_,_,rfl⟩ (λi aM aS h=>h.1) ?_ ?_
  ·rintro i aM b5 v b9 bb ⟨cQ,a4,a5,eH,kI,jA,a9,lX,lY,rfl⟩ ⟨t,cL,rfl,rfl⟩;have wk:i<xs.length:=by simpa using bb
   have hU:(xs.map V.int).getD i .non= .int xs[i]:=by simp[List.getD,wk]
   rw[hU];refine Rd.Zd2 (.of Zd) rfl ?_;have kW:Ze b5 (upd b5 t (.tup [.int i,.int xs[i]])):=cA cL;generalize upd b5 t (.tup [.int i,.int xs[i]])=b9 at*;generalize xs[i]=c at*;have cK:Ze H b9:=(rN.trans cQ).trans kW;have rO:Ze b1 b9:=cQ.trans kW;have fT:=cK.seq bM;have iW:=cK.seq b7;have h3:((hl.names.map V.str).length:Int)=(hl.names.length:Int):=by simp
   clear cQ kW cL hU;walk_at "rds";refine⟨_,_,_,rfl,by omega,by omega,by omega,λdP ec dq=>?_⟩;have n_:=dq.seq fT;walk_at "rds";refine⟨_,_,_,rfl,by omega,by omega,by omega,λk4 c' d3=>?_⟩;walk_at "rds";refine⟨by show 2≤sizeLine;decide,λo bW=>?_⟩;have n':b9 o=none:=Vj (dq.trans d3) bW;have ef:Ze c' (upd c' o (.lst [V.int dP,V.int k4])):=cA bW;have hJ:(upd c' o (.lst [V.int dP,V.int k4])) o=some (.lst (([dP,k4]:List Int).map V.int)):=Zd;generalize upd c' o (.lst [V.int dP,V.int k4])=eG at*;have wl:Ze b9 eG:=(dq.trans d3).trans ef;clear dq d3 ef n_ bW;walk_at "rds";refine YI (n:=2) (λj aM aS=>∃(ns:List Int)(iX:Option V),aM=[some (.ref p),some (.ref cC),some (.ref cJ),some (.ref bT),some (.int i),some (.int c),some (.ref o),iX,jA,a9,lX,lY]∧Ze b9 aS∧aS o=some (.lst (ns.map V.int))∧ns.length=2+j) ⟨[dP,k4],_,rfl,wl,hJ,rfl⟩ ?_ ?_
   ·rintro j aM fo cN ⟨ns,iX,rfl,fP,g_,lZ⟩;have rP:(ns.map V.int).length<sizeLine:=eF (by rw[Qe];omega);walk_at "rds";generalize-c % 10 ^ Int.toNat 20=jI at*;generalize c % 10 ^ Int.toNat 29=y2 at*;refine⟨by show 5≤sizeLine;decide,λu jH=>?_⟩;have g5:Ze fo (upd fo u (.lst [V.int 0,V.int jI,V.int (-1-y2),V.int 1,V.int 2])):=cA jH;have l0:(upd fo u (.lst [V.int 0,V.int jI,V.int (-1-y2),V.int 1,V.int 2])) u=some (.lst (([0,jI,-1-y2,1,2]:List Int).map V.int)):=Zd;generalize upd fo u (.lst [V.int 0,V.int jI,V.int (-1-y2),V.int 1,V.int 2])=g6 at*;have eM:([0,jI,-1-y2,1,2]:List Int).length=5:=rfl;generalize ([0,jI,-1-y2,1,2]:List Int)=fv at*;have jD:=SqL.of (K:=K) l0;have rQ:=g5 _ _ g_;walk_at "rds";rename_i ha hmm mm0 mm1;have eB:=ZK (ns:=fv) (k:=ha % 5) (by omega) (by omega);walk_at "rds";refine⟨ns++ [fv.getD (ha % 5).toNat 0],_,rfl,(fP.trans g5).new n',by rw[Zd,QN];rfl,by rw[Qg,lZ];rfl⟩
   ·rintro aM fo ⟨ns,iX,rfl,fP,g_,lZ⟩;have rP:(ns.map V.int).length<sizeLine:=eF (by rw[Qe];omega);walk_at "rds";generalize c % 10 ^ Int.toNat 29=y2 at*;refine⟨by show 4≤sizeLine;decide,λu jH=>?_⟩;have g5:Ze fo (upd fo u (.lst [V.int 0,V.int (-1),V.int (-1-y2),V.int 5])):=cA jH;have l0:(upd fo u (.lst [V.int 0,V.int (-1),V.int (-1-y2),V.int 5])) u=some (.lst (([0,-1,-1-y2,5]:List Int).map V.int)):=Zd;generalize upd fo u (.lst [V.int 0,V.int (-1),V.int (-1-y2),V.int 5])=g6 at*;have cG:([0,-1,-1-y2,5]:List Int).length=4:=rfl;generalize ([0,-1,-1-y2,5]:List Int)=fv at*;have jD:=SqL.of (K:=K) l0;have rQ:=g5 _ _ g_;walk_at "rds";rename_i ha hmm mm0 mm1;have eB:=ZK (ns:=fv) (k:=ha % 4) (by omega) (by omega);walk_at "rds";have ku:Ze b9 (upd g6 o (.lst (ns.map V.int++ [V.int (fv.getD (ha % 4).toNat 0)]))):=(fP.trans g5).new n';have rR:(upd g6 o (.lst (ns.map V.int++ [V.int (fv.getD (ha % 4).toNat 0)]))) o=some (.lst ((ns++ [fv.getD (ha % 4).toNat 0]).map V.int)):=by rw[Zd,QN];rfl
    generalize upd g6 o (.lst (ns.map V.int++ [V.int (fv.getD (ha % 4).toNat 0)]))=pS at*;have rS:(ns++ [fv.getD (ha % 4).toNat 0]).length=5:=by rw[Qg,lZ];rfl
    generalize ns++ [fv.getD (ha % 4).toNat 0]=iY at*;have wm:=ku.seq iW;clear fP g5 g_ rQ l0 jD eB rP jH hmm mm0 mm1;have wn:(iY.map V.int).length<sizeLine:=eF (by rw[Qe];omega);walk_at "rds";refine⟨_,_,_,rfl,by omega,by omega,by omega,λdX H12 oa=>?_⟩;have lW:=oa _ _ rR;walk_at "rds";rename_i ob hdm dm0 dm1;have oc:Ze b9 (upd H12 o (.lst (iY.map V.int++ [V.int dX]))):=(ku.trans oa).new n';have rT:(upd H12 o (.lst (iY.map V.int++ [V.int dX]))) o=some (.lst ((iY++ [dX]).map V.int)):=by rw[Zd,QN];rfl
    generalize upd H12 o (.lst (iY.map V.int++ [V.int dX]))=H13 at*;have rV:(iY++ [dX]).length=6:=by rw[Qg,rS];rfl
    generalize iY++ [dX]=od at*;have rW:=oc.seq fT;have kM:0≤ob % 7:=by omega
    have nZ:ob % 7≤6:=by omega
    generalize ob % 7=dd at*;clear ku oa rR lW wn wm hdm dm0 dm1 lZ rS;refine⟨cC,hl.names,c,_,rfl,rW,eP,wj,nY,by omega,by omega,λx H14 oe og=>?_⟩;walk_at "rds";refine⟨x,_,rfl,oe,λwo oh=>?_⟩;have oi:Ze b9 wo:=(oc.trans og).trans oh;have wq:=oh _ _ (og _ _ rT);have wr:=oi.seq fT;have ws:=oi.seq iW;have rX:=SqL.of (K:=K) wq;clear oc og oh rT rW;walk_at "rds";refine⟨cC,cJ,o,hl.names,bs,dd,od,x,rfl,wr,ws,rX,rV,kM,nZ,oe,λwt rY=>?_⟩;rw[n9];have wu:=Ze6 (hl:=hl) (x:=x) rV kM nZ;generalize dueN hl.names hl.belts.length dd od x=d4 at*;have oj:Ze b9 wt:=oi.trans rY;have wv:=cw.same (cK.trans oj);have ww:=rY.seq rX;walk_at "rds"
    by_cases hd:0≤d4
    ·rw[decide_eq_true hd];walk_at "rds";refine⟨p,o,dd,d4,od,x,hl,fp,rfl,wv,ww,by omega,by omega,nd,oe,wu hd,λb H17 l1 wx=>?_⟩;walk_at "rds";refine⟨b,d4,rfl,wx,λAi wy=>?_⟩;walk_at "rds";exact⟨rO.trans ((oj.trans l1).trans wy),_,_,_,_,_,_,_,_,rfl⟩
    ·rw[decide_eq_false hd];walk_at "rds";exact⟨rO.trans oj,_,_,_,_,_,_,_,_,rfl⟩
  ·rintro aM b5 ⟨cQ,a4,a5,eH,kI,jA,a9,lX,lY,rfl⟩;walk_at "rds";exact q b5 (rN.trans cQ)
end
def wz{K:Frag}{mg:Str→Option Value}(T:Tp K mg):Sp:=λvs H Q _=>∃(p cC cJ:Addr)(d:Int)(bs:List V)(hl:HM)(fp:List Addr),vs=[.ref p,.ref cC,.ref cJ,.int d]∧c6 T H p hl fp∧H cC=some (.lst (hl.names.map V.str))∧H cJ=some (.lst bs)∧dH H bs hl.belts∧cC∉fp∧cJ∉fp∧cC≠cJ∧1≤hl.names.length∧hl.names.length≤5∧hl.belts.length≤4∧hl.names.Nodup∧(∀n∈hl.names,n.length≤6)∧(∀n∈hl.names,c9 n=true)∧
 ∀(aS:Hp)(fw:HM)(db:List Addr)(kC:List V),c6 T aS p fw db→aS cC=some (.lst (fw.names.map V.str))→aS cJ=some (.lst kC)→dH aS kC fw.belts→(∀n∈fw.names,c9 n=true)→Q (.bl true) aS
section
variable {P:Program}{w:World}{K:Frag}{mg:Str→Option Value}{base:Heap}
theorem wA(T:Tp K mg):OkN P w base 7 T.bB (wz T):=by
 have kX:ZX P w K mg base (CXX P w) 6 T.o T.p ["self","giver","taker","give","take","start"] (kU T):=(n7 T).mono (by decide);have fH:=T.a;have fI:=T.g;refine T.bB.F.okX kH (λvs H Q E h=>?_) (λcy A outer s H vs Q E a' h=>?_)
 ·obtain⟨p,cC,cJ,d,bs,hl,fp,rfl,_⟩:=h
  rfl
 ·have hu:=a'.hu;obtain⟨p,cC,cJ,d,bs,hl,fp,rfl,cw,bM,b7,hV,l2,l3,jJ,eP,dX,l4,nd,cR,hok,q⟩:=h;have al:=q8;refine⟨_,(ce (d7 (i:=4) kH.nd rfl (Or.inl rfl) ZI)
     (ce (c4 (de (d_ (K:=K) rfl hu) (pv 3) Zb (c8 _)) (ce (ii PassesOwn.leaving rfl (pd rfl T.m (a7 (dj (eg K) (by rfl) T.f Qd (a7 (pv 1) bJ)) (a7 Zb bJ))) (fh (i:=5) kH.nd rfl (Or.inl rfl)) (ce (dS (hD (K:=K) rfl Qs Qq Qr gZ (pv 1) (a7 (b4 (dG K) (b4 nI (c3 (ixk K) (pv 4) (b4 dr (pv 5) Zb) (λ_ _=>rfl)) (b4 j6 Zb (b4 gu (pv 5) Zb))) (b4 nI ZI (b4 (dG K) Zb (b4 gu (pv 5) Zb)))) bJ)))
     (b' (dS (hE (pv 0) T.a T.x9 (n2 T) a' cB (a7 (c3 (ixk K) (pv 1) (pv 5) (λ_ _=>rfl)) bJ))))))
     (ce (ii PassesOwn.leaving rfl (jb rfl T.m (a7 Zb bJ)) (fh (i:=6) kH.nd rfl (Or.inl rfl)) (ce (c4 (eC (eV (K:=K) rfl (cU T.aY (iV T) a' cB (a7 (cU T.aX (iT T) a' cB (a7 (pv 0) (a7 Zb (a7 (el bJ) (a7 ZI bJ))))) (a7 Zb bJ))) (λ_=>rfl))) (b' (cP Yf)) dn)
     (b' (c4 (eC (eV (K:=K) rfl (cU T.aY (iV T) a' cB (a7 (cU T.aX (iT T) a' cB (a7 (pv 0) (a7 Zb (a7 (el bJ) (a7 ZI bJ))))) (a7 Zb bJ))) (λ_=>rfl))) (b' (cP Yf)) dn))))
     (ce (c4 (eC (eV (K:=K) rfl (cU T.aY (iV T) a' cB (a7 (cU T.aX (iT T) a' cB (a7 (pv 0) (a7 Zb (a7 (el bJ) (a7 (c3 (ixk K) (pv 1) Zb (λ_ _=>rfl)) bJ))))) (a7 Zb bJ))) (λ_=>rfl))) (b' (cP Yf)) dn)
     (b' (cP (cU T.aY (iV T) a' cB (a7 (cU T.aX (iT T) a' cB (a7 (pv 0) (a7 Zb (a7 (el bJ) (a7 ZI bJ))))) (a7 Zb bJ)))))))) dn)
     (ce (c4 (de (d_ (K:=K) rfl hu) (pv 3) Zb (c8 _)) (ce (ii PassesOwn.leaving rfl (pd rfl T.m (a7 (dj (eg K) (by rfl) T.f Qd (a7 (pv 2) bJ)) (a7 Zb bJ))) (fh (i:=5) kH.nd rfl (Or.inl rfl)) (ce (dS (hD (K:=K) rfl Qs Qq Qr gZ (pv 2) (a7 (hT (a7 (b4 dr (pv 5) (dj (eg K) (by rfl) T.f Qd (a7 (pv 1) bJ))) (a7 (b4 dr (b4 gu (pv 5) Zb) (dj (eg K) (by rfl) T.f Qd (a7 (pv 1) bJ))) (a7 (b4 (dG K) Zb (pv 5)) (a7 Zb (a7 (b4 dr (pv 5) Zb) bJ)))))) bJ)))
     (b' (dS (mG (pv 0) T.a T.I kX a' T.J .nil cB (a7 (c3 (ixk K) (c3 (ixk K) (pv 2) (pv 5) (λ_ _=>rfl)) Zb (λ_ _=>rfl)) (a7 (c3 (ixk K) (c3 (ixk K) (pv 2) (pv 5) (λ_ _=>rfl)) Zb (λ_ _=>rfl)) (a7 (b4 (dG K) Zb (pv 5)) (a7 Zb (a7 (b4 dr (pv 5) Zb) bJ))))))))))
     (ce (c4 (eC (eV (K:=K) rfl (cU T.aY (iV T) a' cB (a7 (cU T.aX (iT T) a' cB (a7 (pv 0) (a7 Zb (a7 (el (a7 Zb (a7 Zb (a7 Zb (a7 Zb (a7 Zb bJ)))))) (a7 ZI bJ))))) (a7 Zb bJ))) (λ_=>rfl))) (b' (cP Yf)) dn)
     (b' (cP (cU T.aY (iV T) a' cB (a7 (cU T.aX (iT T) a' cB (a7 (pv 0) (a7 Zb (a7 (el (a7 Zb (a7 Zb (a7 Zb (a7 Zb (a7 Zb bJ)))))) (a7 ZI bJ))))) (a7 Zb bJ))))))) dn)
     (b' (cP Yf))))),?_⟩
  try dsimp only[L2.cxX,L2.ZJ,L2.Zm]
  walk_at "rds"
  by_cases c1:d=2
  ·subst c1;walk_at "rds";have h3:((hl.names.map V.str).length:Int)=(hl.names.length:Int):=by simp
   rw[h3];refine⟨⟨by omega,by omega,by omega,by omega⟩,?_⟩;have wB:(30-(hl.names.length:Int)).toNat=30-hl.names.length:=by omega
   rw[wB];refine YI (lo:=(hl.names.length:Int)) (n:=30-hl.names.length) (λj aM aS=>∃(db:List Addr)(a5 eH:Option V),aM=[some (.ref p),some (.ref cC),some (.ref cJ),some (.int 2),some (.str "abcdefghijklmnopqrstuvwxyz"),a5,eH]∧c6 T aS p ⟨namesF hl.names j,hl.belts⟩ db∧aS cC=some (.lst ((namesF hl.names j).map V.str))∧aS cJ=some (.lst bs)∧dH aS bs hl.belts∧cC∉db∧cJ∉db) ⟨fp,_,_,rfl,by simpa[namesF] using cw,by simpa[namesF] using bM,b7,hV,l2,l3⟩ ?_ ?_
   ·rintro j aM a1 cN ⟨gM,a5,eH,rfl,gN,eW,iZ,h6,h7,h8⟩;have ol:hl.names.length+j<30:=by omega
    have fE:(hl.names.length:Int)+(j:Int)=((hl.names.length+j:Nat):Int):=by omega
    rw[fE];have fG:=Uy hl.names j;have wC:=Ut (j:=j) cR ol;have wD:=rj _ ol;have wE:=rk _ ol;have eZ:=VM hl.names j;generalize hl.names.length+j=k at*;walk_at "rds";refine Rd.ZdD al (q9 (by omega) (by omega)) ?_;have b2:(⟨#[97+((k:Int) % 26).toNat]⟩:Str)=⟨#[97+k % 26]⟩:=by
     have:((k:Int) % 26).toNat=k % 26:=by omega
     rw[this]
    rw[b2];walk_at "rds";refine Rd.Zf8 (Q4 1 5 (Qc 1) (by omega) (by omega) (by decide) (by decide)) ?_;walk_at "rds";refine Rd.Zf8 (Q4 1 5 (by decide+kernel) (by omega) (by omega) (by decide) (by decide)) ?_;have rs:(Txt.mul ⟨#[97+k % 26]⟩ (5-(k:Int) / 26)).length+(Txt.mul ("z" :Str) (3+(k:Int) / 26)).length=8:=by
     rw[←wE];unfold ft;rw[gE (_++_),kJ,Qg,←gE,←gE]
    have wF:Txt.mul ⟨#[97+k % 26]⟩ (5-(k:Int) / 26)++Txt.mul ("z" :Str) (3+(k:Int) / 26)=ft k:=rfl;refine Rd.ZdL (by rw[rs];decide) ?_;rw[wF];have wG:((namesF hl.names j).map V.str).length<sizeLine:=eF (by rw[Qe];omega);walk_at "rds";have f2:ZL [cC] a1 (upd a1 cC (.lst ((namesF hl.names j).map V.str++ [V.str (ft k)]))):=hB (by simp) eW (by intro _ z;cases z);have fr:(upd a1 cC (.lst ((namesF hl.names j).map V.str++ [V.str (ft k)]))) cC=some (.lst ((namesF hl.names (j+1)).map V.str)):=by rw[Zd,eZ,QN];rfl
    have l5:(upd a1 cC (.lst ((namesF hl.names j).map V.str++ [V.str (ft k)]))) cJ=some (.lst bs):=by rw[cm jJ.symm];exact iZ
    have kD:=h6.keep f2.tups;have gH:=gN.off f2 (λx bc z=>h7 (by rw[←Qp.mp z];exact bc));generalize upd a1 cC (.lst ((namesF hl.names j).map V.str++ [V.str (ft k)]))=a8 at*;have rZ:=SqL.of (K:=K) fr;have wH:atI ((namesF hl.names (j+1)).map V.str) (k:Int)=some (.str (ft k)):=by
     refine YF ?_;rw[eZ,QN,Qz (by rw[Qe];omega),Qe,fG,Nat.sub_self]
     rfl
    walk_at "rds";refine W8 gH wD wC (by show(namesF hl.names j).length<30;omega) (λb1 wI jK jd r0=>?_);walk_at "rds";exact⟨wI,_,_,rfl,by rw[eZ];exact jK,jd.keep _ _ fr h7,jd.keep _ _ l5 h8,kD.keep jd.tups,r0.off h7 (by rw[fr];simp),r0.off h8 (by rw[l5];simp)⟩
   ·rintro aM a1 ⟨gM,a5,eH,rfl,gN,eW,iZ,h6,h7,h8⟩;have fG:=Uy hl.names (30-hl.names.length);have l6:=U9 nd cR (30-hl.names.length) (by omega);have r1:=Zdf hok (j:=30-hl.names.length) (by omega);have r2:=Zcb cR (j:=30-hl.names.length) (by omega);generalize namesF hl.names (30-hl.names.length)=N at*;have Aj:N.length=30:=by omega
    have jy:("yyyyzzzy" :Str).length≤1000:=by rw[rl];decide
    have wJ:("yyyyZzzy" :Str).length≤1000:=by decide+kernel
    have om:Wd ⟨N,hl.belts⟩ 0 [] "yyyyzzzy" 5:= .inl ⟨rfl,.inr (.inr ⟨vr,r2,by show 30≤N.length;omega,rfl⟩)⟩;have wK:Wd ⟨N,hl.belts⟩ 3 [] "yyyyzzzy" 0:= .inr (.inr (.inr (.inl ⟨rfl,λz=>r2 z.2,rfl⟩)));have wL:Wd ⟨N,hl.belts⟩ 0 [] "yyyyZzzy" 0:= .inl ⟨rfl,.inl ⟨vt,rfl⟩⟩;walk_at "rds";refine YI (n:=2) (λj aM aS=>∃i1:Option V,aM=[some (.ref p),some (.ref cC),some (.ref cJ),some (.int 2),some (.str "abcdefghijklmnopqrstuvwxyz"),a5,i1]∧Ze a1 aS) ⟨_,rfl,Ze.refl a1⟩ ?_ ?_
    ·rintro j aM a8 cN ⟨i1,rfl,bQ⟩;have gH:=gN.same bQ;walk_at "rds";refine⟨Qy _,λk6 wM=>?_⟩;have r3:Ze a8 (upd a8 k6 (.lst [])):=cA wM;have wN:(upd a8 k6 (.lst [])) k6=some (.lst (([]:List Int).map V.int)):=Zd;generalize upd a8 k6 (.lst [])=H_3 at*;have wO:=gH.same r3;walk_at "rds";refine⟨p,k6,0,5,[],"yyyyzzzy",⟨N,hl.belts⟩,gM,rfl,wO,.of wN,by show N.length≤1000;omega,by show hl.belts.length≤1000;omega,l6,jy,om,λwP Hb_3 sb_3 wQ=>?_⟩;walk_at "rds";refine⟨wP,5,rfl,wQ,λjL wR=>?_⟩;have r4:Ze a8 jL:=(r3.trans sb_3).trans wR;have r5:=gH.same r4;walk_at "rds";refine⟨Qy _,λk7 wS=>?_⟩;have r6:Ze jL (upd jL k7 (.lst [])):=cA wS;have wT:(upd jL k7 (.lst [])) k7=some (.lst (([]:List Int).map V.int)):=Zd;generalize upd jL k7 (.lst [])=H_4 at*;have wU:=r5.same r6;walk_at "rds";refine⟨p,k7,3,0,[],"yyyyzzzy",⟨N,hl.belts⟩,gM,rfl,wU,.of wT,by show N.length≤1000;omega,by show hl.belts.length≤1000;omega,l6,jy,wK,λwV Hb_4 sb_4 wW=>?_⟩;walk_at "rds";refine⟨wV,0,rfl,wW,λwX wY=>?_⟩;have r7:Ze jL wX:=(r6.trans sb_4).trans wY;have Ak:=r5.same r7;walk_at "rds";exact⟨_,rfl,bQ.trans (r4.trans r7)⟩
    ·rintro aM a8 ⟨i1,rfl,bQ⟩;have gH:=gN.same bQ;have gp:=bQ _ _ eW;have rZ:=SqL.of (K:=K) gp;have Al:=ZbA (ns:=N) (k:=29) (by omega) (by omega);have r8:=rh (ns:=N) (k:=(29:Int).toNat) (by omega);generalize N.getD (29:Int).toNat "" =on at*;have r9:=r1 _ r8;have wZ:on.length≤1000:=by have:=((hH _).mp r9).2.1;omega
     have w0:Wd ⟨N,hl.belts⟩ 0 [] on 1:= .inl ⟨rfl,.inr (.inl ⟨r9,r8,rfl⟩)⟩;walk_at "rds";refine⟨Qy _,λcI es=>?_⟩;have cK:Ze a8 (upd a8 cI (.lst [])):=cA es;have e7:(upd a8 cI (.lst [])) cI=some (.lst (([]:List Int).map V.int)):=Zd;generalize upd a8 cI (.lst [])=b9 at*;have w1:=cK.seq rZ;have h9:=gH.same cK;walk_at "rds";refine⟨p,cI,0,1,[],on,⟨N,hl.belts⟩,gM,rfl,h9,.of e7,by show N.length≤1000;omega,by show hl.belts.length≤1000;omega,l6,wZ,w0,λoo ec dq gF=>?_⟩;walk_at "rds";refine⟨oo,1,rfl,gF,λc' d3=>?_⟩;have r_:Ze a8 c':=(cK.trans dq).trans d3;have hb:=gH.same r_;walk_at "rds";refine⟨Qy _,λf_ oq=>?_⟩;have ef:Ze c' (upd c' f_ (.lst [])):=cA oq;have hJ:(upd c' f_ (.lst [])) f_=some (.lst (([]:List Int).map V.int)):=Zd;generalize upd c' f_ (.lst [])=eG at*;have jM:=hb.same ef;walk_at "rds";refine⟨p,f_,0,0,[],"yyyyZzzy",⟨N,hl.belts⟩,gM,rfl,jM,.of hJ,by show N.length≤1000;omega,by show hl.belts.length≤1000;omega,l6,wJ,wL,λot fo fP g_=>?_⟩;walk_at "rds";refine⟨ot,0,rfl,g_,λk8 fR=>?_⟩;have hL:Ze a1 k8:=(((bQ.trans r_).trans ef).trans fP).trans fR;walk_at "rds";exact q k8 ⟨N,hl.belts⟩ gM bs (gN.same hL) (hL _ _ eW) (hL _ _ iZ) (h6.keep λb xs e=>hL _ _ e) r1
  ·by_cases iO:d=3
   ·subst iO;walk_at "rds";have n9:=hV.length;have h3:((hl.names.map V.str).length:Int)=(hl.names.length:Int):=by simp
    refine⟨⟨by omega,by omega,by omega,by omega⟩,?_⟩;have w2:(60-(bs.length:Int)).toNat=60-bs.length:=by omega
    rw[w2];refine YI (lo:=(bs.length:Int)) (n:=60-bs.length) (λj aM aS=>∃(dN:List B5)(dD:List V)(db:List Addr)(a5 eH:Option V),aM=[some (.ref p),some (.ref cC),some (.ref cJ),some (.int 3),some (.str "abcdefghijklmnopqrstuvwxyz"),a5,eH]∧c6 T aS p ⟨hl.names,dN⟩ db∧aS cC=some (.lst (hl.names.map V.str))∧aS cJ=some (.lst dD)∧dH aS dD dN∧dN.length=bs.length+j∧cC∉db∧cJ∉db) ⟨hl.belts,bs,fp,_,_,rfl,cw,bM,b7,hV,n9.symm,l2,l3⟩ ?_ ?_
    ·rintro j aM a1 cN ⟨dN,dD,gM,a5,eH,rfl,gN,eW,iZ,h6,h4,h7,h8⟩;have Am:bs.length+j<60:=by omega
     have fE:(bs.length:Int)+(j:Int)=((bs.length+j:Nat):Int):=by omega
     rw[fE];have g8:=h6.length;have w3:bs.length+(j+1)=bs.length+j+1:=by omega
     rw[w3];generalize bs.length+j=k at*;have w4:=SqL.of (K:=K) eW;have wG:dD.length<sizeLine:=eF (by omega);walk_at "rds";rw[h3];have fY:=QI (k:Int) (show(hl.names.length:Int)≠0 by omega);have gb:=QE (k:Int) (show(0:Int)<(hl.names.length:Int) by omega);have hg:=QI ((k:Int) / 2) (show(hl.names.length:Int)≠0 by omega);have ou:=QE ((k:Int) / 2) (show(0:Int)<(hl.names.length:Int) by omega);generalize (k:Int) % (hl.names.length:Int)=dM at*;generalize (k:Int) / 2 % (hl.names.length:Int)=ej at*;refine⟨by show 5≤sizeLine;decide,λt cL=>?_⟩;have bQ:Ze a1 (upd a1 t (.tup [V.int dM,V.int ej,V.int (1+(k:Int)),V.int 2,V.int ((k:Int) % 3)])):=cA cL;have fr:(upd a1 t (.tup [V.int dM,V.int ej,V.int (1+(k:Int)),V.int 2,V.int ((k:Int) % 3)])) t=some (.tup [V.int dM,V.int ej,V.int (1+(k:Int)),V.int 2,V.int ((k:Int) % 3)]):=Zd;generalize upd a1 t (.tup [V.int dM,V.int ej,V.int (1+(k:Int)),V.int 2,V.int ((k:Int) % 3)])=a8 at*;have l5:=bQ _ _ iZ;have gp:=bQ _ _ eW;have kD:=h6.keep λb xs e=>bQ _ _ e;have gH:=gN.same bQ;walk_at "rds";have dt:ZL [cJ] a8 (upd a8 cJ (.lst (dD++ [V.ref t]))):=hB (by simp) l5 (by intro _ z;cases z);have er:(upd a8 cJ (.lst (dD++ [V.ref t]))) cJ=some (.lst (dD++ [V.ref t])):=Zd;have k9:(upd a8 cJ (.lst (dD++ [V.ref t]))) cC=some (.lst (hl.names.map V.str)):=by rw[cm jJ];exact gp
     have r':=dt.tups _ _ fr;have w5:dH (upd a8 cJ (.lst (dD++ [V.ref t]))) (dD++ [V.ref t]) (dN++ [⟨dM,ej,1+(k:Int),2,(k:Int) % 3⟩]):=dH.snoc (kD.keep dt.tups) r';have jK:=gH.off dt (λx bc z=>h8 (by rw[←Qp.mp z];exact bc));generalize upd a8 cJ (.lst (dD++ [V.ref t]))=b1 at*;have An:=SqL.of (K:=K) er;have w6:=SqT.of (K:=K) r';have wH:atI (dD++ [V.ref t]) (k:Int)=some (.ref t):=by
      refine YF ?_;rw[Qz (by omega),show k-dD.length=0 by omega]
      rfl
     have kO:atI [V.int dM,V.int ej,V.int (1+(k:Int)),V.int 2,V.int ((k:Int) % 3)] 0=some (V.int dM):=rfl;have eB:atI [V.int dM,V.int ej,V.int (1+(k:Int)),V.int 2,V.int ((k:Int) % 3)] 1=some (V.int ej):=rfl;walk_at "rds";refine W1 jK fY gb hg ou (by omega) (by omega) (by omega) (by show dN.length<60;omega) (λb5 k_ jN fr4 sb=>?_);walk_at "rds";exact⟨dN++ [⟨dM,ej,1+(k:Int),2,(k:Int) % 3⟩],dD++ [V.ref t],k_,_,_,rfl,jN,fr4.keep _ _ k9 h7,fr4.keep _ _ er h8,w5.keep fr4.tups,by rw[Qg,h4];rfl,sb.off h7 (by rw[k9];simp),sb.off h8 (by rw[er];simp)⟩
    ·rintro aM a1 ⟨dN,dD,gM,a5,eH,rfl,gN,eW,iZ,h6,h4,h7,h8⟩;have Ao:dN.length=60:=by omega
     walk_at "rds";refine⟨by show 5≤sizeLine;decide,λcI es=>?_⟩;have cK:Ze a1 (upd a1 cI (.lst [V.int 0,V.int 0,V.int 1,V.int 1,V.int 0])):=cA es;have e7:(upd a1 cI (.lst [V.int 0,V.int 0,V.int 1,V.int 1,V.int 0])) cI=some (.lst (([0,0,1,1,0]:List Int).map V.int)):=Zd;generalize upd a1 cI (.lst [V.int 0,V.int 0,V.int 1,V.int 1,V.int 0])=b9 at*;have h9:=gN.same cK;have om:Wd ⟨hl.names,dN⟩ 1 [0,0,1,1,0] "" 5:= .inr (.inl ⟨rfl,by decide,.inr (.inr ⟨⟨by decide,by show(0:Int)<(hl.names.length:Int);omega,by decide,by show(0:Int)<(hl.names.length:Int);omega⟩,⟨by decide,by decide,by decide⟩,by show 60≤dN.length;omega,rfl⟩)⟩);have w7:Wd ⟨hl.names,dN⟩ 1 [0,0,1,0,0] "" 4:= .inr (.inl ⟨rfl,by decide,.inr (.inl ⟨⟨by decide,by show(0:Int)<(hl.names.length:Int);omega,by decide,by show(0:Int)<(hl.names.length:Int);omega⟩,λz=>absurd z.2.1 (by decide),rfl⟩)⟩);walk_at "rds";refine⟨p,cI,1,5,[0,0,1,1,0],"",⟨hl.names,dN⟩,gM,rfl,h9,.of e7,by show hl.names.length≤1000;omega,by show dN.length≤1000;omega,nd,by decide,om,λoo ec dq gF=>?_⟩;walk_at "rds";refine⟨oo,5,rfl,gF,λc' d3=>?_⟩;have l1:Ze a1 c':=(cK.trans dq).trans d3;have hb:=gN.same l1;walk_at "rds";refine⟨by show 5≤sizeLine;decide,λf_ oq=>?_⟩;have ef:Ze c' (upd c' f_ (.lst [V.int 0,V.int 0,V.int 1,V.int 0,V.int 0])):=cA oq;have hJ:(upd c' f_ (.lst [V.int 0,V.int 0,V.int 1,V.int 0,V.int 0])) f_=some (.lst (([0,0,1,0,0]:List Int).map V.int)):=Zd;generalize upd c' f_ (.lst [V.int 0,V.int 0,V.int 1,V.int 0,V.int 0])=eG at*;have jM:=hb.same ef;walk_at "rds";refine⟨p,f_,1,4,[0,0,1,0,0],"",⟨hl.names,dN⟩,gM,rfl,jM,.of hJ,by show hl.names.length≤1000;omega,by show dN.length≤1000;omega,nd,by decide,w7,λot fo fP g_=>?_⟩;walk_at "rds";refine⟨ot,4,rfl,g_,λk8 fR=>?_⟩;have hL:Ze a1 k8:=((l1.trans ef).trans fP).trans fR;walk_at "rds";exact q k8 ⟨hl.names,dN⟩ gM dD (gN.same hL) (hL _ _ eW) (hL _ _ iZ) (h6.keep λb xs e=>hL _ _ e) hok
   ·rw[decide_eq_false c1];walk_at "rds";exact q H hl fp bs cw bM b7 hV hok
end
def w8{K:Frag}{mg:Str→Option Value}(T:Tp K mg):Sp:=λvs H Q E=>∃(p:Addr)(hl:HM)(fp:List Addr),vs=[.ref p]∧c6 T H p hl fp∧
 ∀r aS,H r=none→Ze H aS→aS r=some (.lst (hl.names.map V.str))→Q (.ref r) aS
section
variable {P:Program}{w:World}{K:Frag}{mg:Str→Option Value}{base:Heap}
theorem w9(T:Tp K mg):OkM P w mg base 1 T.bC (w8 T):=by
 have fH:=T.a;have fI:=T.g;refine T.bC.F.okX u5 (λvs H Q E h=>?_) (λcy A outer s H vs Q E a' h=>?_)
 ·obtain⟨p,hl,fp,rfl,_⟩:=h
  rfl
 ·have hu:=a'.hu;obtain⟨p,hl,fp,rfl,cw,q⟩:=h;obtain⟨bI,a,b,bs,rfl,a_,bd,cx,cG,eR,cR⟩:=id cw;refine⟨_,(b' (cP (mH (ub rfl) (by rfl) T.bf PyProof.Rows.boot_list (a7 (e6 (K:=K) rfl (pv 0) rfl) bJ)))),?_⟩
  try dsimp only[L2.cxX,L2.ZJ,L2.Zm]
  walk_at "rds";intro l fw;rw[VS];exact q l _ fw (cA fw) Zd
end
def Y9{K:Frag}{mg:Str→Option Value}(T:Tp K mg):Sp:=λvs H Q _=>∃(p:Addr)(hl:HM)(fp:List Addr),vs=[.ref p]∧c6 T H p hl fp∧
 ∀(q:Addr)(aS:Hp)(bs:List V),H q=none→Ze H aS→aS q=some (.lst bs)→dH aS bs hl.belts→Q (.ref q) aS
theorem Zat{K:Frag}{mg:Str→Option Value}{T:Tp K mg}{H:Hp}{Q:VK}{E:XK}{p:Addr}{hl:HM}{fp:List Addr}(h:c6 T H p hl fp)
  (q:∀(q:Addr)(aS:Hp)(bs:List V),H q=none→Ze H aS→aS q=some (.lst bs)→dH aS bs hl.belts→Q (.ref q) aS):Y9 T (.ref p::([]++ [])) H Q E:=⟨p,hl,fp,rfl,h,q⟩
local macro_rules| `(tactic|walk_at "rd")=>`(tactic|first|((with_reducible show Nm.Y9 _ _ _ _ _);with_reducible refine Nm.Zat (by with_reducible assumption) ?_)|fail "none here")
section
variable {P:Program}{w:World}{K:Frag}{mg:Str→Option Value}{base:Heap}
theorem w_(T:Tp K mg):OkM P w mg base 1 T.bD (Y9 T):=by
 have fH:=T.a;have fI:=T.g;refine T.bD.F.okX u6 (λvs H Q E h=>?_) (λcy A outer s H vs Q E a' h=>?_)
 ·obtain⟨p,hl,fp,rfl,_⟩:=h
  rfl
 ·have hu:=a'.hu;obtain⟨p,hl,fp,rfl,cw,q⟩:=h;obtain⟨bI,a,b,bs,rfl,a_,bd,cx,cG,eR,cR⟩:=id cw;refine⟨_,(b' (cP (mH (t4 (K:=K) rfl) (by rfl) T.bf PyProof.Rows.boot_list (a7 (e6 (K:=K) rfl (pv 0) rfl) bJ)))),?_⟩
  try dsimp only[L2.cxX,L2.ZJ,L2.Zm]
  walk_at "rds";refine Rd.ZeS (.of cG) (λl fw=>?_);exact q l _ bs fw (cA fw) Zd (cR.keep ((cA fw).frame (A:=[])).tups)
end
def sc{K:Frag}{mg:Str→Option Value}(T:Tp K mg):Sp:=λvs H Q _=>∃p bI:Addr,vs=[.ref p]∧H p=some (.ins T.u bI [])∧H bI=some (.own p)∧
 ∀(aS:Hp)(fp:List Addr),c6 T aS p ⟨[],[]⟩ fp→(∀x∈fp,x=p∨x=bI∨H x=none)→(∀b o,H b=some o→b≠p→aS b=some o)→Q .non aS
theorem ZaF{K:Frag}{mg:Str→Option Value}{T:Tp K mg}{H:Hp}{Q:Addr→Hp→Prop}{E:XK}
  (q:∀(p:Addr)(fp:List Addr)(aS:Hp),c6 T aS p ⟨[],[]⟩ fp→(∀x∈fp,H x=none)→Ze H aS→Q p aS):
  ∀x bI,H x=none→H bI=none→bI≠x→sc T (.ref x::([]++ [])) (upd (upd H bI (.own x)) x (.ins T.u bI [])) (λv a8=>v= .non∧Q x a8) E:=by
 intro x bI bc h_ ne;refine⟨x,bI,rfl,Zd,by rw[cm ne,Zd],λaS fp cw cj bY=>⟨rfl,q x fp aS cw (λy cH=>?_) (λb o e=>bY b o ?_ (dQ e bc))⟩⟩
 ·rcases cj y cH with rfl|rfl|h
  ·exact bc
  ·exact h_
  ·by_cases a_:y=x
   ·rw[a_];exact bc
   ·by_cases bd:y=bI
    ·rw[bd];exact h_
    ·rw[cm a_,cm bd] at h;exact h
 ·rw[cm (dQ e bc),cm (dQ e h_)];exact e
local macro_rules| `(tactic|walk_at "rd")=>`(tactic|first|with_reducible refine Nm.ZaF ?_|fail "none here")
section
variable {P:Program}{w:World}{K:Frag}{mg:Str→Option Value}{base:Heap}
theorem w'(T:Tp K mg):OkI P w mg base 1 T.bE (sc T):=by
 have fH:=T.a;have fI:=T.g;refine T.bE.F.okX u7 (λvs H Q E h=>?_) (λcy A outer s H vs Q E a' h=>?_)
 ·obtain⟨p,bI,rfl,_⟩:=h
  rfl
 ·have hu:=a'.hu;obtain⟨p,bI,rfl,b3,h_,q⟩:=h;refine⟨_,(ce (p_ (K:=K) rfl (pv 0) tw rfl)
     (b' (p_ (K:=K) rfl (pv 0) (el bJ) rfl))),?_⟩
  try dsimp only[L2.cxX,L2.ZJ,L2.Zm]
  walk_at "rds";intro a bK;have jE:p≠a:=dQ b3 bK;have n5:bI≠a:=dQ h_ bK;have sd:p≠bI:=gg b3 h_ (by intro z;cases z);have rL:(upd H a (.dK [])) p=some (.ins T.u bI []):=by rw[cm jE];exact b3
  walk_at "rds";refine⟨Qy _,λb a6=>?_⟩;have l7:H b=none:=by
   by_cases a_:b=p
   ·rw[a_,Zd] at a6;cases a6
   ·by_cases bd:b=a
    ·rw[bd];exact bK
    ·rw[cm a_,cm bd] at a6;exact a6
  have jG:p≠b:=dQ b3 l7;have kT:bI≠b:=dQ h_ l7;have eR:a≠b:=by
   intro z;rw[←z,cm jE.symm,Zd] at a6;cases a6
  have pJ:(upd (upd (upd H a (.dK [])) p (.ins T.u bI [("numbers",.ref a)])) b (.lst [])) p=some (.ins T.u bI [("numbers",.ref a)]):=by rw[cm jG,Zd]
  walk_at "rds";refine q _ [p,bI,a,b] ⟨bI,a,b,[],rfl,Zd,?_,?_,?_,eR,.nil⟩ (λx bc=>?_) (λc o e bH=>?_)
  ·rw[cm sd.symm,cm kT,cm sd.symm,cm n5];exact h_
  ·rw[cm jE.symm,cm eR,cm jE.symm,Zd];rfl
  ·rw[cm jG.symm,Zd]
  ·simp only[Qj,List.not_mem_nil,or_false] at bc;rcases bc with rfl|rfl|rfl|rfl
   ·exact .inl rfl
   ·exact .inr (.inl rfl)
   ·exact .inr (.inr bK)
   ·exact .inr (.inr l7)
  ·rw[cm bH,cm (dQ e l7),cm bH,cm (dQ e bK)];exact e
end
section
variable {P:Program}{w:World}{K:Frag}{mg:Str→Option Value}{base:Heap}
theorem Zfb(T:Tp K mg):OkN P w base 8 T.bq (u8 T):=by
 have kX:ZX P w K mg base (CXX P w) 7 T.o T.p ["self","giver","taker","give","take","start"] (kU T):=(n7 T).mono (by decide);have fH:=T.a;have fI:=T.g;refine T.bq.F.okX hG (λvs H Q E h=>?_) (λcy A outer s H vs Q E a' h=>?_)
 ·obtain⟨a,ns,rfl,_⟩:=h
  rfl
 ·have hu:=a'.hu;obtain⟨p,ns,rfl,fL,dL,ml⟩:=h;refine⟨_,(ce (c4 (PW.pt (ih (de (lG (K:=K) rfl hu) (fW (v:= .int 30) rfl T.ax ⟨_,rfl⟩) Zb (c8 _)) (i' (de (lG (K:=K) rfl hu) (fW (v:= .int 60) rfl T.ay ⟨_,rfl⟩) Zb (c8 _))))) (b' (cP Yf)) dn)
     (ce (d7 (i:=1) hG.nd rfl (Or.inl rfl) (t7 T.bE (w' T) a' T.bm cB))
     (ce (d7 (i:=2) hG.nd rfl (Or.inl rfl) (el bJ))
     (ce (d7 (i:=3) hG.nd rfl (Or.inl rfl) (el bJ))
     (ce (ii PassesOwn.leaving rfl (jb rfl T.m (a7 (b4 (dG K) Zb (b4 dr (cU T.x0 (jB T) a' cB (a7 (pv 0) (a7 Zb bJ))) Zb)) bJ)) (fh (i:=4) hG.nd rfl (Or.inl rfl)) (ce (d7 (i:=5) hG.nd rfl (Or.inl rfl) (jj (jv (K:=K) rfl) (cU T.x2 (rm T) a' cB (a7 (cU T.x0 (jB T) a' cB (a7 (pv 0) (a7 (b4 (dG K) Zb (pv 4)) bJ))) (a7 (pv 4) bJ))) kd (iu Zb)))
     (b' (c4 (de (p9 (K:=K) rfl) (pv 5) (pv 2) (by with_unfolding_all rfl)) (ce (dS (hD (K:=K) rfl Qs Qq Qr gZ (pv 2) (a7 (pv 5) bJ)))
     (b' (dS (hE (pv 1) T.a T.x9 (n2 T) a' cB (a7 (pv 5) bJ))))) dn))))
     (ce (ii PassesOwn.leaving rfl (jb rfl T.m (a7 (b4 dr (b4 gu (cU T.x0 (jB T) a' cB (a7 (pv 0) (a7 Zb bJ))) Zb) Zb) bJ)) (fh (i:=4) hG.nd rfl (Or.inl rfl)) (ce (d7 (i:=6) hG.nd rfl (Or.inl rfl) (cU T.x0 (jB T) a' cB (a7 (pv 0) (a7 (b4 (dG K) Zb (pv 4)) bJ))))
     (ce (d7 (i:=7) hG.nd rfl (Or.inl rfl) (hT (a7 (b4 dr (pv 6) (dj (eg K) (by rfl) T.f Qd (a7 (pv 2) bJ))) (a7 (b4 dr (b4 gu (pv 6) Zb) (dj (eg K) (by rfl) T.f Qd (a7 (pv 2) bJ))) (a7 (b4 (dG K) Zb (b4 dr (pv 6) (b4 je Zb Zb))) (a7 (b4 (dG K) Zb (b4 dr (pv 6) Zb)) (a7 (b4 dr (pv 6) Zb) bJ)))))))
     (ce (dS (hD (K:=K) rfl Qs Qq Qr gZ (pv 3) (a7 (pv 7) bJ)))
     (b' (dS (mG (pv 1) T.a T.I kX a' T.J .nil cB (a7 (c3 (ixk K) (pv 7) Zb (λ_ _=>rfl)) (a7 (c3 (ixk K) (pv 7) Zb (λ_ _=>rfl)) (a7 (c3 (ixk K) (pv 7) Zb (λ_ _=>rfl)) (a7 (c3 (ixk K) (pv 7) Zb (λ_ _=>rfl)) (a7 (c3 (ixk K) (pv 7) Zb (λ_ _=>rfl)) bJ))))))))))))
     (ce (c4 (eC (eV (K:=K) rfl (cU T.bA (wi T) a' cB (a7 (pv 1) (a7 (pv 2) (a7 (pv 3) (a7 (pv 0) bJ))))) (λ_=>rfl))) (b' (cP Yf)) dn)
     (ce (c4 (eC (eV (K:=K) rfl (cU T.bB (wA T) a' cB (a7 (pv 1) (a7 (pv 2) (a7 (pv 3) (a7 (b4 dr (cU T.x1 (hI T) a' cB (a7 (cU T.x0 (jB T) a' cB (a7 (pv 0) (a7 Zb bJ))) (a7 Zb bJ))) Zb) bJ))))) (λ_=>rfl))) (b' (cP Yf)) dn)
     (b' (cP (ll (gW (d_ (K:=K) rfl hu) (qd (pv 1) T.a T.bC (w9 T) a' cB) (pv 2) (c8 _)) (j0 (gW (d_ (K:=K) rfl hu) (qd (pv 1) T.a T.bD (w_ T) a' cB) (pv 3) (c8 _)))))))))))))),?_⟩
  try dsimp only[L2.cxX,L2.ZJ,L2.Zm]
  walk_at "rds";intro b3 fp a1 cw cj cQ;walk_at "rds";refine⟨Qy _,λcC l8=>?_⟩;have bQ:Ze a1 (upd a1 cC (.lst [])):=cA l8;have fr:(upd a1 cC (.lst [])) cC=some (.lst (([]:List Str).map V.str)):=Zd;have l2:=Uw cw l8;generalize upd a1 cC (.lst [])=a8 at*;walk_at "rds";refine⟨Qy _,λcJ jO=>?_⟩;have bV:Ze a8 (upd a8 cJ (.lst [])):=cA jO;have er:(upd a8 cJ (.lst [])) cJ=some (.lst []):=Zd;have l3:=Uw (cw.same bQ) jO;have jJ:cC≠cJ:=λz=>by rw[←z,fr] at jO;cases jO
  generalize upd a8 cJ (.lst [])=b1 at*;have k9:=bV _ _ fr;have jK:=cw.same (bQ.trans bV);have ov:Yq K b1 (cC::cJ::fp) p (ns.map V.int):=(fL.off (A:=cC::cJ::fp) (λx bc=>by
   rcases Qj.mp bc with rfl|bc
   ·exact Vj cQ l8
   ·rcases Qj.mp bc with rfl|bc
    ·exact Vj (cQ.trans bQ) jO
    ·exact cj x bc)).frame (cQ.trans (bQ.trans bV)).frame
  have ht:=ov.sq;clear cw cj fr l8 jO bQ cQ;walk_at "rds";generalize lS:cellS ns 1=dV;refine YI (n:=(1+dV % 5).toNat) (λi aM aS=>∃(nm:List Str)(db:List Addr)(a4 a5:Option V),aM=[some (.ref p),some (.ref b3),some (.ref cC),some (.ref cJ),a4,a5,none,none]∧c6 T aS b3 ⟨nm,[]⟩ db∧aS cC=some (.lst (nm.map V.str))∧aS cJ=some (.lst [])∧cC∉db∧cJ∉db∧Yq K aS (cC::cJ::db) p (ns.map V.int)∧nm.Nodup∧(∀n∈nm,c9 n=true∧n.length≤6)∧nm.length≤i∧(0<i→1≤nm.length)) ⟨[],fp,_,_,rfl,jK,k9,er,l2,l3,ov,List.nodup_nil,λn h=>(nomatch h),Qc _,λh=>absurd h (by decide)⟩ ?_ ?_
  ·rintro i aM b5 bb ⟨nm,k_,a4,a5,rfl,jN,ow,l9,jP,k',jQ,la,jR,xa,se⟩;have Ap:i<5:=by omega
   have xb:=jQ.sq;walk_at "rds";refine⟨_,_,rfl,by omega,by omega,λx b9 bc cK=>?_⟩;obtain⟨kQ,eQ⟩:=ZgV bc;have lR:=((hH x).mp bc).2.1;have xs:x.length≤sizeLine:=QK (eF (by omega));have fT:=cK _ _ ow;have w1:=SqL.of (K:=K) fT;walk_at "rds";generalize Txt.slice x none (some 6)=y at*
   by_cases bZ:y∈nm
   ·rw[decide_eq_true bZ];walk_at "rds";exact⟨nm,k_,_,_,rfl,jN.same cK,fT,cK _ _ l9,jP,k',jQ.frame cK.frame,la,jR,by omega,λ_=>List.length_pos_of_mem bZ⟩
   ·rw[decide_eq_false bZ];have xc:(nm.map V.str).length<sizeLine:=eF (by rw[Qe];omega);walk_at "rds";have lM:ZL [cC] b9 (upd b9 cC (.lst (nm.map V.str++ [V.str y]))):=hB (by simp) fT (by intro _ z;cases z);have gF:(upd b9 cC (.lst (nm.map V.str++ [V.str y]))) cC=some (.lst ((nm++ [y]).map V.str)):=by rw[Zd,QN];rfl
    have lb:(upd b9 cC (.lst (nm.map V.str++ [V.str y]))) cJ=some (.lst []):=by rw[cm jJ.symm];exact cK _ _ l9
    have ox:=(jN.same cK).off lM (λx bc z=>jP (by rw[←Qp.mp z];exact bc));have oy:=(jQ.frame cK.frame).frame (hB (o':= .lst (nm.map V.str++ [V.str y])) (by simp) fT (by intro _ z;cases z));generalize upd b9 cC (.lst (nm.map V.str++ [V.str y]))=ec at*;walk_at "rds";refine W8 ox kQ bZ (by show nm.length<30;omega) (λc' oz hb iE oG=>?_);walk_at "rds";refine⟨nm++ [y],oz,_,_,rfl,hb,iE.keep _ _ gF jP,iE.keep _ _ lb k',oG.off jP (by rw[gF];simp),oG.off k' (by rw[lb];simp),oy.step iE.cons.cons oG.cons.cons,?_,λn bM=>?_,by rw[Qg];show nm.length+1≤i+1;omega,λ_=>by rw[Qg];show 1≤nm.length+1;omega⟩
    ·rw[List.nodup_append];exact⟨la,by simp,λa bK b a6 e=>bZ (by rw[Qp.mp a6] at e;rw[←e];exact bK)⟩
    ·rcases Q0.mp bM with z|z
     ·exact jR n z
     ·rw[Qp.mp z];exact⟨kQ,eQ⟩
  ·rintro aM b5 ⟨nm,k_,a4,a5,rfl,jN,ow,l9,jP,k',jQ,la,jR,xa,se⟩;have xb:=jQ.sq;have eP:1≤nm.length:=se (by omega);have dX:nm.length≤5:=by omega
   have h3:((nm.map V.str).length:Int)=(nm.length:Int):=by simp
   clear ov ht jK k9 er;walk_at "rds";rw[lS];refine YI (n:=(dV / 5 % 5).toNat) (λj aM aS=>∃(dN:List B5)(dD:List V)(db:List Addr)(l4 i1 iX:Option V),aM=[some (.ref p),some (.ref b3),some (.ref cC),some (.ref cJ),l4,a5,i1,iX]∧c6 T aS b3 ⟨nm,dN⟩ db∧aS cC=some (.lst (nm.map V.str))∧aS cJ=some (.lst dD)∧dH aS dD dN∧dN.length=j∧cC∉db∧cJ∉db∧Yq K aS (cC::cJ::db) p (ns.map V.int)) ⟨[],[],k_,_,_,_,rfl,jN,ow,l9,.nil,rfl,jP,k',jQ⟩ ?_ ?_
   ·rintro j aM b9 cN ⟨dN,dD,oH,l4,i1,iX,rfl,h9,fT,iW,lc,es,l_,lf,l'⟩;have Aq:j<4:=by omega
    have oI:=l'.sq;have sf:=lc.length;have w4:=SqL.of (K:=K) fT;have xc:dD.length<sizeLine:=eF (by omega);walk_at "rds";rw[h3];generalize cellS ns (6+(0+(j:Int)))=eo at*;have fY:=QI eo (show(nm.length:Int)≠0 by omega);have gb:=QE eo (show(0:Int)<(nm.length:Int) by omega);have hg:=QI (eo / 7) (show(nm.length:Int)≠0 by omega);have ou:=QE (eo / 7) (show(0:Int)<(nm.length:Int) by omega);have g1:1≤1+eo % 10 ^ Int.toNat 20:=by have:=QI eo (show(10:Int) ^ Int.toNat 20≠0 by decide);omega
    have g2:1≤1+eo % 5:=by omega
    have g3:0≤eo % 3:=by omega
    generalize eo % (nm.length:Int)=dM at*;generalize eo / 7 % (nm.length:Int)=ej at*;generalize 1+eo % 10 ^ Int.toNat 20=eI at*;generalize 1+eo % 5=cW at*;generalize eo % 3=st at*;refine⟨by show 5≤sizeLine;decide,λt cL=>?_⟩;have dq:Ze b9 (upd b9 t (.tup [V.int dM,V.int ej,V.int eI,V.int cW,V.int st])):=cA cL;have gF:(upd b9 t (.tup [V.int dM,V.int ej,V.int eI,V.int cW,V.int st])) t=some (.tup [V.int dM,V.int ej,V.int eI,V.int cW,V.int st]):=Zd;generalize upd b9 t (.tup [V.int dM,V.int ej,V.int eI,V.int cW,V.int st])=ec at*;have lb:=dq _ _ iW;have n_:=dq _ _ fT;have xf:=lc.keep λb xs e=>dq _ _ e;have ox:=h9.same dq;have oy:=l'.frame dq.frame;walk_at "rds";have oJ:ZL [cJ] ec (upd ec cJ (.lst (dD++ [V.ref t]))):=hB (by simp) lb (by intro _ z;cases z);have kS:(upd ec cJ (.lst (dD++ [V.ref t]))) cJ=some (.lst (dD++ [V.ref t])):=Zd;have ma:(upd ec cJ (.lst (dD++ [V.ref t]))) cC=some (.lst (nm.map V.str)):=by rw[cm jJ];exact n_
    have sg:=oJ.tups _ _ gF;have oK:dH (upd ec cJ (.lst (dD++ [V.ref t]))) (dD++ [V.ref t]) (dN++ [⟨dM,ej,eI,cW,st⟩]):=dH.snoc (xf.keep oJ.tups) sg;have hb:=ox.off oJ (λx bc z=>lf (by rw[←Qp.mp z];exact bc));have xg:=oy.frame (hB (o':= .lst (dD++ [V.ref t])) (by simp) lb (by intro _ z;cases z));generalize upd ec cJ (.lst (dD++ [V.ref t]))=c' at*;have w6:=SqT.of (K:=K) sg;have kO:atI [V.int dM,V.int ej,V.int eI,V.int cW,V.int st] 0=some (V.int dM):=rfl;have eB:atI [V.int dM,V.int ej,V.int eI,V.int cW,V.int st] 1=some (V.int ej):=rfl;have ru:atI [V.int dM,V.int ej,V.int eI,V.int cW,V.int st] 2=some (V.int eI):=rfl;have rv:atI [V.int dM,V.int ej,V.int eI,V.int cW,V.int st] 3=some (V.int cW):=rfl;have n0:atI [V.int dM,V.int ej,V.int eI,V.int cW,V.int st] 4=some (V.int st):=rfl;walk_at "rds";refine W1 hb fY gb hg ou g1 g2 g3 (by show dN.length<60;omega) (λeG xh jM fr8 oL=>?_);walk_at "rds";exact⟨dN++ [⟨dM,ej,eI,cW,st⟩],dD++ [V.ref t],xh,_,_,_,rfl,jM,fr8.keep _ _ ma l_,fr8.keep _ _ kS lf,oK.keep fr8.tups,by rw[Qg,es];rfl,oL.off l_ (by rw[ma];simp),oL.off lf (by rw[kS];simp),xg.step fr8.cons.cons oL.cons.cons⟩
   ·rintro aM b9 ⟨dN,dD,oH,l4,i1,iX,rfl,h9,fT,iW,lc,es,l_,lf,l'⟩;have sf:=lc.length;have cO:dN.length≤4:=by omega
    have oI:=l'.sq;walk_at "rds";refine⟨b3,cC,cJ,p,dD,ns,⟨nm,dN⟩,oH,rfl,h9,.of fT,.of iW,sf,oI,dL,eP,by show nm.length≤30;omega,by show dN.length≤60;omega,la,λn bM=>by have:=(jR n bM).2;omega,λec dq=>?_⟩;have Ar:=dq.seq oI;walk_at "rds";refine⟨b3,cC,cJ,_,dD,⟨nm,dN⟩,oH,rfl,h9.same dq,dq _ _ fT,dq _ _ iW,lc.keep (λb xs e=>dq _ _ e),l_,lf,jJ,eP,dX,cO,la,λn bM=>(jR n bM).2,λn bM=>(jR n bM).1,λc' sh oz bs7 hb ma xi oK xj=>?_⟩;walk_at "rds";have oM:∀n∈sh.names,PyData.strOk n=true:=λn bM=>Zcg (xj n bM);refine⟨b3,sh,oz,rfl,hb,λr eG hr8 ef hJ=>?_⟩;have xk:=ef _ _ ma;have jM:=hb.same ef;walk_at "rds";refine Rd.Zd7 (.lst (SqL.of hJ) (nV _)) (.lst (SqL.of xk) (nV _)) (nS _ oM) (nS _ oM) (vi _) ?_;rw[SeqAt.eqv_refl _ (nS _ oM)];walk_at "rds";intro g4 fo bs9 hq9 fP g_ hT9;walk_at "rds";have si:=ef.trans fP;refine Rd.Zd7 (.lst (SqL.of g_) (nU hT9)) (.lst (SqL.of (si _ _ xi)) (nU (oK.keep λb xs e=>si _ _ e))) (nT _) (nT _) (vk _) ?_;rw[SeqAt.eqv_refl _ (nT _)];walk_at "rds";exact ml _
end
theorem walk{l:PySem.W.OpenLaw}{q:Program}{jk:List Str}{jl:(Str→Option Value)→Heap→Prop}{hW:World→Heap→Prop}{d:DefRec}{K:Params→Frag}(bM:l.most=some 63)(kh:d.params.defaults=[])(xl:d.name="law")
  (mV:∀(w:World)(h:Heap),hW w h→(K w.params).In h)
  (F:∀(w:World)(mg:Str→Option Value)(h:Heap),(K w.params).In h→h.Ns mainGlobals mg→∃T:Tp (K w.params) mg,True):
  PySem.W.WalkO q jk jl hW l.row.toRowW d [] (λf vs=>PySem.call f vs):=by
 refine L2.Zex (n:=63) (k:=8) (x:="_law_script") (CX:=λw=>CXX l.prog w) (sp:=λw=>Zei (K w.params)) bM (by decide) kh ⟨rfl,by decide,by decide⟩ mV (λw mg fz h d9 G jm=>?_) (λ_ _ a ns hl _ fL=>⟨a,ns,rfl,fL,hl,λ_=>rfl⟩) ?_
 ·obtain⟨T,_⟩:=F w mg h d9 G;rw[xl,T.bq.m] at jm;cases jm;exact⟨T.bq.d,T.br,λbase _ _=>Zfb T⟩
 ·intro w H s e s' z;obtain⟨_,_,_,_,_,_,_,_,_,_,_,_,z⟩:=z;exact z
end Nm
namespace PySem.W.Fast
def tw11243283828100551399:=0
def tw9989123653307505427:=0
def tw6288012810717695849:=0
def tw11942354997193261305:=0
def tw13161578630525530222:=0
def tw13673812263079357141:=0
def tw2660379081254363271:=0
def tw10005043542185857324:=0
def tw10509509168554586600:=0
def tw10969174873784032484:=0
def tw6950999864078670185:=0
def tw300557001137364612:=0
def tw8602574422675435381:=0
def tw9729241681066124741:=0
def tw11094334098098384454:=0
def tw10281141768342314836:=0
def tw770658593205598179:=0
def tw10107383208432972037:=0
def tw7783890078737224401:=0
def tw8105244820401952879:=0
def tw5022058179676579365:=0
def tw12903667898103624303:=0
def tw2893555827171771595:=0
def tw14006348618249876254:=0
def tw1889389875684245207:=0
def tw776064851673187920:=0
def tw11994085820742821259:=0
def tw17109233551322217857:=0
def tw13063921181950785317:=0
def tw9165780796395509:=0
def tw16993874776299200599:=0
def tw9184000212722153470:=0
def tw9471063591970775558:=0
def tw880137434125867403:=0
def tw9425913706802441420:=0
def tw2862582366281456014:=0
def tw6351889712541568911:=0
def tw15533710661814556010:=0
def tw5434271991827059057:=0
def tw305887328420408301:=0
def tw17755996906400029296:=0
def tw5959724777392347523:=0
def tw10744989151699626527:=0
def tw5393748084518035086:=0
def tw10904225124529782403:=0
def tw2229464607930747494:=0
def tw8565480921330362887:=0
def tw17734135127659519185:=0
def tw3343192165073437667:=0
def tw14131616893593026016:=0
def tw7636287629463792809:=0
def tw5568563153283689585:=0
def tw2089193223296464144:=0
def tw6994249692828095530:=0
def tw5937970252978534520:=0
def tw14596592967175092714:=0
def tw11750310515981398646:=0
def tw16877203761979153905:=0
def tw1669806071882168140:=0
def tw14444308961778123568:=0
def tw14933906836196250880:=0
def tw2922747805862366105:=0
def tw18226799245998195461:=0
def tw17041841370340676699:=0
def tw5621077811361527719:=0
def tw10665383049585276522:=0
def tw10782042587046234835:=0
def tw2486490395961634861:=0
def tw2653705328007973286:=0
def tw5398245894679794991:=0
def tw17254594774087752587:=0
def tw9815407421501142378:=0
def tw2900307729458474893:=0
def tw5639308198661147430:=0
def tw17682478661522904505:=0
def tw7844413045329978391:=0
def tw3720682774471178384:=0
def tw8430046050804366354:=0
def tw3326841983436351980:=0
def tw17853246345467747856:=0
def tw541794213997113921:=0
def tw4498276522906842973:=0
def tw15298474070920216701:=0
def tw9001318853910140118:=0
def tw3653125548070023567:=0
def tw10673884760081133438:=0
def tw13932386710506382991:=0
def tw11117493810371369025:=0
def tw11255890283986398718:=0
def tw15916008349987361646:=0
def tw13507830395933796804:=0
def tw16477186174520063731:=0
def tw14503696807949362666:=0
def tw7290772955942232942:=0
def tw7697646489325042294:=0
def tw17209262621409676172:=0
def tw10151991469356861175:=0
def tw1173566771665777295:=0
def tw17519417127710768010:=0
def tw12832125885876176263:=0
def tw16763833274364448276:=0
def tw8590829135732928064:=0
def tw5484636779908800231:=0
def tw11176621412497252475:=0
def tw9595640469921761256:=0
def tw13555677853610832137:=0
def tw15702012212223227926:=0
def tw8357557454709618459:=0
def tw4677770302945224350:=0
def tw2210185758678712665:=0
def tw1135316265106474887:=0
def tw10169577417259514948:=0
def tw9590380035988583349:=0
def tw7304132733732851068:=0
def tw5686564450757487242:=0
def tw14232539504300224313:=0
def tw18132485563757592815:=0
def tw9511910264718964966:=0
def tw17009098825338042943:=0
def tw971096824208426671:=0
def tw13150428511144732772:=0
def tw6534998723863222595:=0
def tw6138607277795625686:=0
def tw4055291120020429141:=0
def tw2557212489366539820:=0
def tw5511710526896071803:=0
def tw10323484813270772536:=0
def tw16440993288456613873:=0
def tw10815866589141050829:=0
def tw5565647093681838282:=0
def tw15955867422407328711:=0
def tw1610991856927737074:=0
def tw13851107721614760195:=0
def tw2302214008075081281:=0
def tw13085158809404975591:=0
def tw12723922319966987559:=0
def tw11896978054274894851:=0
def tw11912800096167720656:=0
def tw14784369360169720281:=0
def tw12339608697080041360:=0
def tw15343104811742336862:=0
def tw13805236726096227968:=0
def tw9237673382163481110:=0
def tw10978444193815820964:=0
def tw13340578947608203920:=0
def tw13163320803788337724:=0
def tw13309271080033775797:=0
def tw17516798020750814802:=0
def tw2108081096371164514:=0
def tw4461017235234716366:=0
def tw9461041881199937507:=0
def tw13324012727671722078:=0
def tw2619070486738439278:=0
def tw18207354894410068032:=0
def tw2573039491201626237:=0
def tw1789301444064151418:=0
def tw18059619475207638558:=0
def tw6266363389136433959:=0
def tw770445859526956334:=0
def tw62514186944592495:=0
def tw13492314377180185493:=0
def tw9899104563526105491:=0
def tw10571969675575464745:=0
def tw9242036982546624280:=0
def tw13666079539955743788:=0
def tw4928137703842057258:=0
def tw9820066837136742309:=0
def tw15846367209011180259:=0
def tw14399123038516647147:=0
def tw1774623721357928321:=0
def tw13155679648620492181:=0
def tw14015311122340572789:=0
def tw17133186472210876703:=0
def tw6101406470512591788:=0
def tw12097864332051181324:=0
def tw6384707624415297749:=0
def tw12923409704156458015:=0
def tw13561437666053426453:=0
def tw13410017701644385276:=0
def tw9925248435087349535:=0
def tw16142239059945333986:=0
def tw1800218010629694408:=0
def tw6569159783204605868:=0
def tw12721539494520992094:=0
def tw13503937609207145992:=0
def tw14235727192476278613:=0
def tw18335792061229837934:=0
def tw14004677575777596158:=0
def tw5496493727632397511:=0
def tw14224350349420422607:=0
def tw17527503088969994329:=0
def tw10940801376670755427:=0
def tw1212113952651790090:=0
def tw10539182039225296051:=0
def tw4135183504630476723:=0
def tw13517950330026161014:=0
def tw13322803266271476721:=0
def tw11195150120479215040:=0
def tw9792114501430702195:=0
def tw16969262497826442894:=0
def tw14052780041376774769:=0
def tw8050213782881408264:=0
def tw12077208720457572731:=0
def tw16309671722404719617:=0
def tw6895080527356056698:=0
def tw12110538086990727018:=0
def tw5520583846311473395:=0
def tw3526694097948672364:=0
def tw9967033122154917228:=0
def tw3122990988324423469:=0
def tw3540612886413487300:=0
def tw12617226007222320541:=0
def tw10065649676197966723:=0
def tw17977553638157188743:=0
def tw18062112295142209579:=0
def tw14753305634142288739:=0
def tw15444012340832230236:=0
def tw11962789450252651414:=0
def tw14913663418640050422:=0
def tw15488653602780698016:=0
def tw7581374215630038239:=0
def tw16269431303833245352:=0
def tw11646038129641587838:=0
def tw4983218726615868044:=0
def tw12789600669321900906:=0
def tw11783288583140783074:=0
def tw6650756965025152075:=0
def tw11911687503633212520:=0
def tw13475196813802755254:=0
def tw9914420967614799056:=0
def tw6063915576489588969:=0
def tw7452299961728530371:=0
def tw12207067895971916848:=0
def tw17289504230742719673:=0
def tw13061074327521273726:=0
def tw13270159252815518837:=0
def tw5872276387083889111:=0
def tw10039273731777010168:=0
def tw7328871137834182100:=0
def tw8424568496627024293:=0
def tw16752073292689903414:=0
def tw11934957393841773563:=0
def tw3756260094208828599:=0
def tw14402926628465981432:=0
def tw9742134018634302910:=0
def tw6361884583566755537:=0
def tw18387426832915188029:=0
def tw11432963690053215187:=0
def tw9681438266768357348:=0
def tw18063616167166136600:=0
def tw6424238793125483662:=0
def tw5003289139134096505:=0
def tw2124065326162509647:=0
def tw4478335305829591676:=0
def tw16722614582546116500:=0
def tw15390238156333838275:=0
def tw11280124143076682548:=0
def tw12182515994264223278:=0
def tw11286883466417211199:=0
def tw17096537183964336403:=0
def tw17774634787429781065:=0
def tw1771911257936779221:=0
def tw7055500204761379564:=0
def tw10484225041409058256:=0
def tw17430928358584470730:=0
def tw2945914192121327961:=0
def tw14357257097109049615:=0
def tw1010946352594980915:=0
def tw14949669460305388351:=0
def tw13290046981711754574:=0
def tw5672778174388925809:=0
def tw8421945706401168776:=0
def tw17884687858157996536:=0
def tw6754368668823802372:=0
def tw5034021792205410207:=0
def tw15321286898366073925:=0
def tw1684777077520991333:=0
def tw5193187665046632604:=0
def tw401201074383407807:=0
def tw6339142800061732029:=0
def tw1099037200635117533:=0
def tw3953234707857052161:=0
def tw14229951102421765402:=0
def tw14368592603515408031:=0
def tw6278557600124193400:=0
def tw10859981025974299938:=0
def tw12679373974960291731:=0
def tw10925142164878112926:=0
def tw16040995088794519782:=0
def tw7457507686543326969:=0
def tw5172936373011344096:=0
def tw3642226611462665307:=0
def tw11185124720553680732:=0
def tw3331466158434932836:=0
def tw12864821620916958902:=0
def tw14868062085504607931:=0
def tw13317019577296157727:=0
def tw12968121614259860690:=0
def tw8018687630774472509:=0
def tw15860585797010320232:=0
end PySem.W.Fast
open PySem PySem.W PyProof.Rows
local macro_rules| `(tactic|walk_at "dn")=>`(tactic|(refine' L2.Dn.of (by assumption) (by assumption) ?a ?l ?c ?k ?b;(case a=>k_is);(case l=>k_is);(case c=>k_is);(case k=>k_is);(case b=>(repeat refine L2.lenS λ_=>?_);exact L2.Zdy λ_ _ _ _ _ _=>rfl)))
local macro_rules| `(tactic|walk_at "dm")=>`(tactic|(refine' L2.Dm.of ?a ?i ?l ?c ?k ?b;(case a=>k_is);(case i=>k_is);(case l=>k_is);(case c=>k_is);(case k=>k_is);(case b=>(repeat refine L2.lenS λ_=>?_);exact L2.Zdy λ_ _ _ _ _ _=>rfl)))
local macro_rules| `(tactic|walk_at "di")=>`(tactic|(refine' L2.Di.of ?z ?y ?a ?i ?l ?c ?k ?b;(case z=>k_is);(case y=>k_is);(case a=>k_is);(case i=>k_is);(case l=>k_is);(case c=>k_is);(case k=>k_is);(case b=>(repeat refine L2.lenS λ_=>?_);exact L2.Zdy λ_ _ _ _ _ _=>rfl)))
local macro_rules| `(tactic|walk_at "na")=>`(tactic|((repeat refine L2.ZeE (by k_is) ?_);exact L2.ZfS))
local macro_rules| `(tactic|walk_at "ex")=>`(tactic|(refine' ⟨?g,mg_of (by assumption) (by assumption) ?m,?e⟩;(case g=>k_is);(case m=>k_is);(case e=>k_exc)))
local macro_rules| `(tactic|walk_at "xc")=>`(tactic|exact⟨L2.ZcZ (show excIn _ _ [.type "ValueError",.type "Exception",.type "BaseException",.type "object"] "ValueError.__new__" =true by k_exc),by k_is,by k_is,by k_is,by k_is,by k_is,by k_is,by k_is⟩)
set_option maxRecDepth 100000 in
set_option maxHeartbeats 0 in
theorem PySem.Challenge.cw_ratehall_k04_halls_refused_holds : PySem.Challenge.rw_ratehall_k04_halls_refused.Holds := by
 w_on;o_law;k_head;(case hw=>w_witness2)
 k_fill
 refine Nm.walk (l:=PySem.Challenge.rw_ratehall_k04_halls_refused) rfl rfl rfl (λw h Y=>kIn_of Y) ?F
 case F=>
  intro w mg h d9 G
  refine' ⟨Nm.Tp.mk (mg_of d9 G ?xm) ⟨?xn,?xo,?xp,?xq⟩ ?xr ?xt ?xu ?xv ?xw ?xx ?xy ?xA ?xB ?xC ?xD ?xE ?xF ?xG ?xH ?xI ?xJ ⟨?xK,?xL,?xM⟩ (L2.Zey ?xN ?xO ?xP) (L2.Zfu ?xQ) ?xR ?xS (.cons ⟨_,rfl⟩ .nil) ?xT ?xU ?xV ?xW ?xX ?xY ?xZ ?x_ ?x' ?ya ?yb ?yc ?yd ?ye (mg_none_of d9 G ?yf) (mg_none_of d9 G ?yg) (mg_none_of d9 G ?yh) (mg_none_of d9 G ?yi) (mg_none_of d9 G ?yj) (mg_none_of d9 G ?yk) (mg_none_of d9 G ?yl) (mg_none_of d9 G ?ym) (mg_none_of d9 G ?yn) (mg_none_of d9 G ?yo) ?yp ?yq ?yr ?yt ?yu ?yv ?yw ?yx ?yy ?yz ?yA ?yB ?yC ?yD ?yE ?yF ?yG ?yH ?yI ?yJ ?yK ?yL ?yM ?yN ?yO ?yP ?yQ ?yR ?yS ?yT ?yU ?yV ?yW ?yX ?yY ?yZ ?y0 ?y1 ?y3 ?y4 ?y5 ?y6 ?y7 ?y8 ?y9 ?y_ ?y' ?za ?zb ?zc ?zd ?ze ?zf ?zg ?zh ?zi ?zj ?zk ?zl ?zm ?zn ?zo ?zp ?zq ?zr ?zt ?zu ?zv ?zw ?zx ?zy ?zz ?zA ?zB ?zC ?zD ?zE ?zF (mg_of d9 G ?zG) (mg_of d9 G ?zH) (mg_of d9 G ?zI) ?zJ,trivial⟩
  case xm|xn|xo|xp|xq=>k_is
  case xr=>walk_at "na"
  case xt|xu|xv|xw|xx|xy|xA|xB|xC=>walk_at "dn"
  case xD=>walk_at "dm"
  case xE|xF|xG|xH=>walk_at "dn"
  case xI|xJ=>walk_at "dm"
  case xK|xL|xM|xN|xO|xP|xQ=>k_is
  case xR=>exact λs us X hl=>(match us,(show us.length=6 by simpa using hl) with| [_,_,_,_,_,_],_=>binds_K X rfl (by k_is) rfl rfl rfl)
  case xS=>exact λs us X hl=>(match us,(show us.length=5 by simpa using hl) with| [_,_,_,_,_],_=>binds_K X rfl (by k_is) rfl rfl rfl)
  case xT|xU|xV|xW|xX|xY=>walk_at "dm"
  case xZ|x_|x'|ya=>walk_at "dn"
  case yb|yc=>walk_at "dm"
  case yd=>walk_at "di"
  case ye=>walk_at "dn"
  case yf|yg|yh|yi|yj|yk|yl|ym|yn|yo=>k_is
  case yp|yq|yr|yt|yu|yv|yw|yx|yy=>walk_at "ex"
  case yz|yA|yB|yC|yD|yE|yF|yG|yH=>kts_exm
  case yI|yJ|yK|yL|yM|yN=>walk_at "xc"
  case yO|yP|yQ|yR|yS|yT|yU|yV|yW|yX|yY|yZ|y0|y1|y3|y4|y5|y6|y7|y8|y9|y_|y'|za|zb|zc|zd|ze|zf|zg|zh|zi|zj|zk|zl|zm|zn|zo|zp|zq|zr|zt|zu|zv|zw|zx|zy|zz|zA|zB|zC|zD|zE|zF=>kit_is
  case zG|zH|zI=>k_is
  case zJ=>exact λs v=> .of_eq rfl
#print axioms PySem.Challenge.cw_ratehall_k04_halls_refused_holds
