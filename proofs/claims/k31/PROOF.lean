import PyProof.Rows.All
import Wide.All
import OpenK.AllK
import Wide.FinOn
import Lean
import PyProof.EqAt
import PyProof.EqKinds
import PyProof.TupleCall
import KE.KSortTup
import PySem.Challenge.RW_ratehall_k31_halls_and_forms_written
set_option maxHeartbeats 4000000
set_option compiler.extract_closed false
set_option bootstrap.genMatcherCode false
local macro_rules| `(tactic|omega)=>`(tactic|with_reducible first|exact Int.natCast_nonneg _|lia|fail)
set_option Elab.async false
set_option linter.all false
set_option maxRecDepth 100000
open PySem.W (instObj methodObj hideAll hideAll_get of_hideAll lookIn plainGet hasDictIn findIn handedIn plainGet_of isFn plainOver takerIn makesIn typeIn emptyDict keepIn methodCall_KW mroIn kitOne kia_one kitx_list kitx_dict callWith_K callWith_K0 cellsFrom_some fnOf codeIn nsIn excIn mg_of kIn_of mg_none_of binds_K)
abbrev Qa:=@List.getElem?_eq_getElem
abbrev Qb:=@Nat.le_refl
abbrev Qc:=@List.length_map
abbrev Qd:=@List.getD_eq_getElem?_getD
abbrev Qe:=@List.size_toArray
abbrev Qf:=@List.length_append
abbrev Qg:=@Bool.false_ne_true
abbrev Qh:=@List.mem_append_right
abbrev Qi:=@List.mem_cons
abbrev Qj:=@Nat.ne_of_lt
abbrev Qk:=@PySem.boot_len
abbrev Ql:=@PyProof.Rows.boot_isinstance
abbrev Qm:=@List.getElem_mem
abbrev Qn:=@Nat.zero_le
abbrev Qo:=@Nat.lt_of_lt_of_le
abbrev Qp:=@PySem.F.excBase_ValueError
abbrev Qq:=@PySem.F.plainAttrs_str
abbrev Qr:=@PySem.F.plainAttrs_list
abbrev Qs:=@List.map_map
abbrev Qt:=@Option.some.inj
abbrev Qu:=@Nat.le_trans
abbrev Qv:=@List.mem_of_getElem?
abbrev Qw:=@PyProof.Rows.boot_str
abbrev Qx:=@List.filter_eq_self
abbrev Qy:=@List.mem_map
abbrev Qz:=@Bool.and_eq_true
abbrev QA:=@List.getElem?_map
abbrev QB:=@PySem.sizeLine_eq
abbrev QC:=@List.mem_singleton
abbrev QD:=@PySem.F.slot_list_append
abbrev QE:=@PySem.F.type_list_append
abbrev QF:=@Nat.le_of_lt
abbrev QG:=@PyProof.Rows.boot_tuple
abbrev QH:=@List.mem_cons_of_mem
abbrev QI:=@List.getElem?_append_left
abbrev QJ:=@List.mem_append
abbrev QK:=@List.map_append
abbrev QL:=@List.lookup_cons
abbrev QM:=@PyProof.Rows.boot_int
abbrev QN:=@List.append_assoc
abbrev QO:=@List.getElem?_append_right
abbrev QP:=@List.all_eq_true
abbrev QQ:=@List.not_mem_nil
abbrev QR:=@List.take_of_length_le
abbrev QS:=@Int.le_trans
abbrev QT:=@PyProof.Rows.boot_list
abbrev QU:=@List.length_replicate
abbrev QV:=@Nat.le_of_ble_eq_true
abbrev QW:=@PySem.F.slot_str_join
abbrev QX:=@PySem.F.type_str_join
abbrev QY:=@List.mem_filterMap
abbrev QZ:=@Nat.lt_irrefl
abbrev Q0:=@List.take_append_of_le_length
abbrev Q1:=@Int.eq_ofNat_of_zero_le
abbrev Q2:=@Bool.eq_iff_iff
abbrev Q3:=@List.nodup_cons
abbrev Q4:=@PySem.mem_of_lookup
abbrev Q5:=@List.length_take
abbrev Q6:=@List.length_drop
abbrev Q7:=@List.take_length
abbrev Q8:=@List.getElem?_eq_some_iff
abbrev Q9:=@List.mem_append_left
abbrev Ja:=@Nat.lt_succ_of_lt
abbrev Jb:=@List.take_succ_eq_append_getElem
abbrev Jc:=@PyProof.Rows.slot_tuple_getitem
abbrev Jd:=@Array.length_toList
abbrev Je:=@List.replicate_succ
abbrev Jf:=@List.getElem_of_mem
abbrev Jg:=@List.mem_range
abbrev Jh:=@List.append_nil
abbrev Ji:=@List.find?_cons
abbrev Jj:=@List.cons.inj
abbrev Jk:=@List.filterMap_append
abbrev Jl:=@PyProof.Rows.callWith_type1
abbrev Jm:=@List.nodup_append
abbrev Jn:=@Nat.le_of_not_lt
abbrev Jo:=@List.drop_left'
abbrev Jp:=@List.mem_cons_self
abbrev Jq:=@List.filter_append
abbrev Jr:=@Int.emod_lt_of_pos
abbrev Js:=@List.flatten_cons
abbrev Jt:=@List.drop_drop
abbrev Ju:=@List.take_add_one
abbrev Jv:=@PySem.F.slot_str_split
abbrev Jw:=@PySem.F.type_str_split
abbrev Jx:=@List.take_append_drop
abbrev Jy:=@PyProof.Rows.boot_all
abbrev Jz:=@List.filter_cons
abbrev JA:=@List.any_cons
abbrev JB:=@List.length_dropLast
abbrev JC:=@List.mem_of_mem_drop
abbrev JD:=@List.range_eq_range'
abbrev JE:=@List.take_left'
abbrev JF:=@Int.emod_nonneg
abbrev JG:=@Bool.and_false
abbrev JH:=@Ne.symm
open PySem.W (Frag)
namespace L2
open PySem PySem.Spec PyProof.Rows
noncomputable abbrev Key:=Sum Int Str
noncomputable def iH:Key->Value->Bool
 | .inl k,v=>Value.isInt k v
 | .inr x,v=>Value.isStrOf x v
noncomputable def ZjL (w:World):Key->Int
 | .inl k=>hashInt k
 | .inr x=>hashStr w x
theorem gW:∀{k:Key}{v:Value},iH k v=true->(∃i t,k=Sum.inl i/\v=Value.int i t)\/(∃x t,k=Sum.inr x/\v=Value.str x t)
 | .inl i,v,h=>by
  obtain⟨t,e⟩:=Value.isInt_shape (k:=i) (v:=v) h;exact .inl ⟨i,t,rfl,e⟩
 | .inr x,v,h=>by
  obtain⟨t,e⟩:=Value.isStrOf_shape (x:=x) (v:=v) h;exact .inr ⟨x,t,rfl,e⟩
theorem ZfL(i:Int)(t:Tok):iH (.inl i) (.int i t)=true:=by simp[iH,Value.isInt]
theorem ZfY(x:Str)(t:Tok):iH (.inr x) (.str x t)=true:=by simp[iH,Value.isStrOf]
theorem Zi7(a b:Int):decide ((Sum.inl a:Key)=Sum.inl b)=(a==b):=by
 by_cases e:a=b
 .subst e;simp
 .have h:¬(Sum.inl a:Key)=Sum.inl b:=λq=>e (Sum.inl.inj q);rw[decide_eq_false h];exact(beq_eq_false_iff_ne.mpr e).symm
theorem ZiL(a b:Str):decide ((Sum.inr a:Key)=Sum.inr b)=decide (a=b):=by
 by_cases e:a=b
 .subst e;simp
 .have h:¬(Sum.inr a:Key)=Sum.inr b:=λq=>e (Sum.inr.inj q);rw[decide_eq_false h,decide_eq_false e]
theorem ZiG(a:Int)(b:Str):decide ((Sum.inl a:Key)=Sum.inr b)=false:=decide_eq_false (λq=>nomatch q)
theorem ZhY(a:Str)(b:Int):decide ((Sum.inr a:Key)=Sum.inl b)=false:=decide_eq_false (λq=>nomatch q)
noncomputable def eM (prog:Program) (w:World):PySem.KeyKind prog w Key where
 is:=iH
 hash:=ZjL w
 inj:=λv a b aS aJ=>by
  rcases gW aS with⟨i,t,rfl,rfl⟩|⟨x,t,rfl,rfl⟩
  .rcases gW aJ with⟨j,u,rfl,e⟩|⟨y,u,rfl,e⟩
   .injection e with bb _;rw[bb]
   .exact nomatch e
  .rcases gW aJ with⟨j,u,rfl,e⟩|⟨y,u,rfl,e⟩
   .exact nomatch e
   .injection e with bb _;rw[bb]
 byValue:=λk v h=>by
  rcases gW h with⟨i,t,rfl,rfl⟩|⟨x,t,rfl,rfl⟩<;>rfl
 pyHash:=λbO h=>by
  rcases gW bO with⟨i,t,rfl,rfl⟩|⟨x,t,rfl,rfl⟩
  .exact wpAny_pyHash_int h
  .exact wpAny_pyHash_str h
 eqBool:=λhu bO h=>by
  rcases gW hu with⟨i,t,rfl,rfl⟩|⟨x,t,rfl,rfl⟩
  .rcases gW bO with⟨j,u,rfl,rfl⟩|⟨y,u,rfl,rfl⟩
   .rw[Zi7] at h;exact wpAny_eqBool_int h
   .rw[ZiG] at h;exact SeqAt.EqAt.int_str i t y u _ _ _ _ h
  .rcases gW bO with⟨j,u,rfl,rfl⟩|⟨y,u,rfl,rfl⟩
   .rw[ZhY] at h;exact SeqAt.EqAt.str_int x t j u _ _ _ _ h
   .rw[ZiL] at h;exact wpAny_eqBool_str h
 «strs»:=λk x t v h=>by
  rcases gW h with⟨i,u,rfl,e⟩|⟨y,u,rfl,e⟩
  .exact nomatch e
  .injection e with bb _
   subst bb;cases v<;>rfl
theorem ZdF(prog:Program)(w:World)(i:Int)(t:Tok):(eM prog w).is (.inl i) (.int i t)=true:=ZfL i t
theorem ZdS(prog:Program)(w:World)(x:Str)(t:Tok):(eM prog w).is (.inr x) (.str x t)=true:=ZfY x t
inductive V where
 |non|bl (b:Bool)|int (i:Int)|str (x:Str)|byt (b:Array UInt8)|flt (b:UInt64)|ref (a:Addr)|ty (n:String)
 deriving DecidableEq
def bW:V->Value->Prop
 | .non,u=>u=Value.none
 | .bl b,u=>u=Value.bool b
 | .int i,u=>∃t,u=Value.int i t
 | .str x,u=>∃t,u=Value.str x t
 | .byt b,u=>∃t,u=Value.bytes b t
 | .flt b,u=>∃t,u=Value.float b t
 | .ref a,u=>u=Value.ref a
 | .ty n,u=>u=Value.type n
abbrev bD:List V->List Value->Prop:=Paired bW
theorem bD.length{xs:List V}{us:List Value}(r:bD xs us):xs.length=us.length:=Paired.length r
theorem bD.get:∀{xs:List V}{us:List Value}{i:Nat}{x:V},bD xs us->xs[i]? =some x->∃u,us[i]? =some u/\bW x u
 |_,_,_,_,.nil,e=>by simp at e
 |_,_,0,_,.cons r _,e=>by simp at e;subst e;exact⟨_,rfl,r⟩
 |_,_,i+1,x,.cons _ t,e=>by
  obtain⟨u,aN,aQ⟩:=bD.get (i:=i) (x:=x) t (by simpa using e);exact⟨u,by simpa using aN,aQ⟩
theorem bD.set{x:V}{u:Value}(r:bW x u):∀{xs:List V}{us:List Value}(i:Nat),bD xs us->bD (xs.set i x) (us.set i u)
 |_,_,_,.nil=> .nil
 |_,_,0,.cons _ t=> .cons r t
 |_,_,i+1,.cons q t=> .cons q (bD.set r i t)
theorem bD.append:∀{xs ys:List V}{us em:List Value},bD xs us->bD ys em->bD (xs++ys) (us++em)
 |_,_,_,_,.nil,s=>s
 |_,_,_,_,.cons r t,s=> .cons r (bD.append t s)
theorem bD.take:∀{xs:List V}{us:List Value}(n:Nat),bD xs us->bD (xs.take n) (us.take n)
 |_,_,0,_=> .nil
 |_,_,_+1,.nil=> .nil
 |_,_,n+1,.cons r t=> .cons r (bD.take n t)
theorem bD.drop:∀{xs:List V}{us:List Value}(n:Nat),bD xs us->bD (xs.drop n) (us.drop n)
 |_,_,0,r=>r
 |_,_,_+1,.nil=> .nil
 |_,_,n+1,.cons _ t=>bD.drop n t
def eN:Option V->Option Value->Prop
 |some v,some u=>bW v u
 |none,none=>True
 |_,_=>False
def KV {κ:Type}:List (κ×V)->List (κ×Value)->Prop:=Paired λ(p:κ×V) (q:κ×Value)=>p.1=q.1/\bW p.2 q.2
noncomputable def kV:Key->V
 | .inl i=> .int i
 | .inr x=> .str x
inductive HO where
 |lst (xs:List V)
 |tup (xs:List V)
 |dK (kvs:List (Key×V))|dT (kvs:List (List Key×V))
 |set (S:Int->Bool) (n:Nat)
 |ins (C a3:Addr) (fs:List (Str×V))
 |own (x:Addr)
 |xd (fs:List (Str×V))
 |met (f x:Addr)
 |rng (lo aM:Int)
 |frz (o:Obj) (u:HO)
 |tbl (ps:Array Value)
 |ext (hM:Heap->Prop)
noncomputable abbrev Hp:=Addr->Option HO
noncomputable def upd (H:Hp) (a:Addr) (o:HO):Hp:=λb=>if b=a then some o else H b
theorem Zh{H:Hp}{a:Addr}{o:HO}:upd H a o a=some o:=by unfold upd;rw[if_pos rfl]
theorem bX{H:Hp}{a b:Addr}{o:HO}(h:b≠a):upd H a o b=H b:=by unfold upd;rw[if_neg h]
theorem hN{H:Hp}{a b:Addr}{o u:HO}(h:H a=some o)(h':H b=some u)(d:o≠u):a≠b:=by
 intro e;subst e;rw[h] at h';exact d (Qt h')
theorem dy{H:Hp}{a b:Addr}{o:HO}(h:H a=some o)(h':H b=none):a≠b:=by
 intro e;subst e;rw[h] at h';cases h'
section
variable (P:Program)(w:World)
def ZQ (H:Hp) (h:Heap) (a:Addr):HO->Prop
 | .lst xs=>xs.length<=sizeLine/\∃(its:List Value)(n:Nat),bD xs its/\h.get? a=some {cls:= .type "list",data:= .seq its.toArray n}
 | .tup xs=>xs.length<=sizeLine/\∃its:List Value,bD xs its/\IsTup h a its.toArray
 | .dK kvs=>kvs.length<=sizeLine/\(a==sysModules)=false/\∃vs,KV kvs vs/\h.DictOf (eM P w) a vs
 | .dT kvs=>kvs.length<=sizeLine/\(a==sysModules)=false/\∃xs:List (List Key×Addr×Value),
   Paired (λ(p:List Key×V) (q:List Key×Addr×Value)=>p.1=q.1/\H q.2.1=some (.tup (p.1.map kV))/\bW p.2 q.2.2) kvs xs/\
   ∃o bg ep,h.get? a=some o/\o.ExactDict/\o.data= .dict bg ep/\bg.toList=xs.map (entryOfKey (tupleKind (eM P w)))/\(xs.map (·.1)).Nodup
 | .set S n=>h.SetOf (intKind P w) a S n
 | .ins C a3 fs=>H a3=some (.own a)/\fs.length<=1000/\a3≠a/\h.get? a=some (instObj C a3)/\
   ∃cL,h.Ns1 a3 cL/\(∀f,eN (fs.lookup f) (cL f))/\PySem.Within cL (fs.map (·.1))
 | .own _=>∃o,h.get? a=some o
 | .xd fs=>∃cL,h.Ns1 a cL/\∀f,eN (fs.lookup f) (cL f)
 | .rng lo aM=>∃t u v,h.get? a=some {cls:= .type "range",data:= .fields #[.int lo t,.int aM u,.int 1 v]}
 | .frz o u=>h.get? a=some o/\ZQ H h a u
 | .tbl ps=>h.get? a=some {cls:= .none,data:= .fields ps}
 | .met f x=>h.get? a=some (methodObj (.ref f) (.ref x))
 | .ext hM=>hM h/\(∃o,h.get? a=some o)/\∀aN aQ:Heap,hM aN->(∀o,aN.get? a=some o->aQ.get? a=some o)->hM aQ
def HOk(H:Hp)(h:Heap):Prop:=∀a o,H a=some o->ZQ P w H h a o
end
section
variable {P:Program}{w:World}{H aH:Hp}{h h':Heap}{a:Addr}{o:HO}
theorem ZQ.lt(x:ZQ P w H h a o):a<h.objs.size:=by
 cases o with
 |lst xs=>obtain⟨_,_,_,_,e⟩:=x;exact Heap.lt_size e
 |tup xs=>obtain⟨_,_,_,p⟩:=x;exact p.lt
 |dK kvs=>obtain⟨_,_,_,_,o,_,_,e,_⟩:=x;exact Heap.lt_size e
 |dT kvs=>obtain⟨_,_,_,_,o,_,_,e,_⟩:=x;exact Heap.lt_size e
 |set S n=>obtain⟨o,_,_,_,e,_⟩:=x;exact Heap.lt_size e
 |ins C a3 fs=>obtain⟨_,_,_,e,_⟩:=x;exact Heap.lt_size e
 |own y=>obtain⟨_,e⟩:=x;exact Heap.lt_size e
 |xd fs=>obtain⟨_,⟨_,_,_,e,_⟩,_⟩:=x;exact Heap.lt_size e
 |rng lo aM=>obtain⟨_,_,_,e⟩:=x;exact Heap.lt_size e
 |frz bE u=>obtain⟨e,_⟩:=x;exact Heap.lt_size e
 |tbl ps=>exact Heap.lt_size (show h.get? a=some _ from x)
 |met f y=>exact Heap.lt_size (show h.get? a=some _ from x)
 |ext hM=>obtain⟨_,⟨_,e⟩,_⟩:=x;exact Heap.lt_size e
theorem Paired.mapP{bv cT:Type}{F G:bv->cT->Prop}:∀{o5:List bv}{o6:List cT},Paired F o5 o6->(∀a b,F a b->G a b)->Paired G o5 o6
 |_,_,.nil,_=> .nil
 |_,_,.cons r t,f=> .cons (f _ _ r) (Paired.mapP t f)
theorem ZQ.stay(x:ZQ P w H h a o)(k:∀b u,(b=a\/H b=some (.own a))->h.get? b=some u->h'.get? b=some u)
  (bf:∀b,H b=some (.own a)->aH b=some (.own a)) (bL:∀b xs,H b=some (.tup xs)->aH b=some (.tup xs)):ZQ P w aH h' a o:=by
 induction o with
 |lst xs=>obtain⟨z,its,n,r,e⟩:=x;exact⟨z,its,n,r,k _ _ (.inl rfl) e⟩
 |tup xs=>obtain⟨z,its,r,bE,e,c⟩:=x;exact⟨z,its,r,bE,k _ _ (.inl rfl) e,c⟩
 |dK kvs=>obtain⟨z,y,vs,r,bE,bg,ep,e,c⟩:=x;exact⟨z,y,vs,r,bE,bg,ep,k _ _ (.inl rfl) e,c⟩
 |dT kvs=>
  obtain⟨z,y,xs,r,bE,bg,ep,e,c⟩:=x;exact⟨z,y,xs,Paired.mapP r λp q z=>⟨z.1,bL _ _ z.2.1,z.2.2⟩,bE,bg,ep,k _ _ (.inl rfl) e,c⟩
 |set S n=>obtain⟨bE,bg,ep,t,e,c⟩:=x;exact⟨bE,bg,ep,t,k _ _ (.inl rfl) e,c⟩
 |ins C a3 fs=>
  obtain⟨d,z,ne,e,cL,⟨cM,bg,ep,bh,c⟩,r⟩:=x;exact⟨bf _ d,z,ne,k _ _ (.inl rfl) e,cL,⟨cM,bg,ep,k _ _ (.inr d) bh,c⟩,r⟩
 |own y=>obtain⟨bE,e⟩:=x;exact⟨bE,k _ _ (.inl rfl) e⟩
 |xd fs=>obtain⟨cL,⟨cM,bg,ep,e,c⟩,r⟩:=x;exact⟨cL,⟨cM,bg,ep,k _ _ (.inl rfl) e,c⟩,r⟩
 |rng lo aM=>obtain⟨t,u,v,e⟩:=x;exact⟨t,u,v,k _ _ (.inl rfl) e⟩
 |frz bE u bF=>obtain⟨e,q⟩:=x;exact⟨k _ _ (.inl rfl) e,bF q⟩
 |tbl ps=>
  have e:h.get? a=some {cls:= .none,data:= .fields ps}:=x;show h'.get? a=some {cls:= .none,data:= .fields ps};exact k a _ (.inl rfl) e
 |met f y=>
  have e:h.get? a=some (methodObj (.ref f) (.ref y)):=x;show h'.get? a=some (methodObj (.ref f) (.ref y));exact k a _ (.inl rfl) e
 |ext hM=>obtain⟨p,⟨o,e⟩,st⟩:=x;exact⟨st _ _ p λo q=>k _ _ (.inl rfl) q,⟨o,k _ _ (.inl rfl) e⟩,st⟩
theorem HOk.lt(x:HOk P w H h)(e:H a=some o):a<h.objs.size:=(x a o e).lt
theorem HOk.fresh(x:HOk P w H h)(e:h.objs.size<=a):H a=none:=by
 cases q:H a with
 |none=>rfl
 |some u=>exact absurd (Qo (x.lt q) e) (QZ _)
theorem HOk.kept(x:HOk P w H h)(k:∀b u,h.get? b=some u->h'.get? b=some u):HOk P w H h':=λa o e=>
 (x a o e).stay (λb u _ q=>k b u q) (λ_ q=>q) λ_ _ q=>q
theorem HOk.laid(x:HOk P w H h)(k:∀b u,h.get? b=some u->h'.get? b=some u)(aU:h.objs.size<=a)(new:ZQ P w (upd H a o) h' a o):HOk P w (upd H a o) h':=λb u e=>by
 have a':=x.fresh aU
 by_cases aJ:b=a
 .subst aJ;rw[Zh] at e;cases e;exact new
 .rw[bX aJ] at e;exact(x b u e).stay (λc v _ q=>k c v q) (λc q=>by rw[bX (dy q a')];exact q) λc xs q=>by rw[bX (dy q a')];exact q
end
def Rd(H:Hp)(a:Addr)(u:HO):Prop:=H a=some u\/∃o,H a=some (.frz o u)
theorem Rd.ok{P:Program}{w:World}{H:Hp}{h:Heap}{a:Addr}{u:HO}(r:Rd H a u)(x:HOk P w H h):ZQ P w H h a u:=by
 rcases r with r|⟨o,r⟩
 .exact x a u r
 .obtain⟨_,q⟩:=x a _ r;exact q
def Mut:Option HO->Prop
 |some (.lst _)=>True
 |some (.dK _)=>True
 |some (.dT _)=>True
 |some (.set _ _)=>True
 |some (.ins _ _ _)=>True
 |some (.ext _)=>True
 |_=>False
section
variable {P:Program}{w:World}{H:Hp}{h h':Heap}{x e:Addr}{bZ:HO}
theorem HOk.write(ok:HOk P w H h)(e6:Mut (H x))(bn:e=x\/H e=some (.own x))(k:∀b u,b≠e->h.get? b=some u->h'.get? b=some u)(iI:∃u,h'.get? e=some u)
  (new:ZQ P w (upd H x bZ) h' x bZ):HOk P w (upd H x bZ) h':=λb u q=>by
 have o7:∀c y,H c=some (.own y)->c≠x:=λc y r z=>by subst z;rw[r] at e6;exact e6
 have uj:∀c xs,H c=some (.tup xs)->c≠x:=λc xs r z=>by subst z;rw[r] at e6;exact e6
 by_cases aJ:b=x
 .subst aJ;rw[Zh] at q;cases q;exact new
 .rw[bX aJ] at q
  by_cases hO:b=e
  .have ds:H b=some (.own x):=by
    rcases bn with z|z
    .exact absurd (hO.trans z) aJ
    .rw[hO];exact z
   rw[q] at ds;cases ds;obtain⟨v,bO⟩:=iI;exact⟨v,by rw[hO];exact bO⟩
  .refine(ok b u q).stay (λc v aO r=>k c v ?_ r) (λc r=>by rw[bX (o7 c b r)];exact r) λc xs r=>by rw[bX (uj c xs r)];exact r
   rcases aO with rfl|aO
   .exact hO
   .rintro rfl;rcases bn with z|z
    .exact o7 c b aO z
    .rw[aO] at z;cases z;exact aJ rfl
end
structure Un(fs ex:List Addr)(H aH:Hp)(h h':Heap):Prop where
 keep:∀b o,h.get? b=some o->H b=none->b∉fs->b∉ex->h'.get? b=some o
 slot:∀b o,h.get? b=some o->H b=none->b∈fs->b∉ex->∃sl,h'.get? b=some {o with slots:=sl}
 free:∀b o,h.get? b=some o->H b=none->b∉ex->aH b=none
 there:∀b o,h.get? b=some o->b∉ex->∃bZ,h'.get? b=some bZ
 tups:∀b xs,H b=some (.tup xs)->aH b=some (.tup xs)
 frzs:∀b o u,H b=some (.frz o u)->aH b=some (.frz o u)
 tbls:∀b ps,H b=some (.tbl ps)->∃more,aH b=some (.tbl (ps++more))
section
variable {fs kA ex A1:List Addr}{H aL aY:Hp}{h aN aQ h':Heap}{a x e:Addr}{o:HO}
theorem Un.any(u:Un fs ex H aL h aN){b:Addr}{bE:Obj}(q:h.get? b=some bE)(n:H b=none)(aV:b∉ex):∃sl,aN.get? b=some {bE with slots:=sl}:=by
 by_cases aJ:b∈fs
 .exact u.slot b bE q n aJ aV
 .exact⟨bE.slots,u.keep b bE q n aJ aV⟩
theorem Un.kept(k:∀b u,h.get? b=some u->h'.get? b=some u):Un fs ex H H h h':=
 ⟨λb bE q _ _ _=>k b bE q,λb bE q _ _ _=>⟨bE.slots,k b bE q⟩,λ_ _ _ n _=>n,λb bE q _=>⟨bE,k b bE q⟩,λ_ _ q=>q,λ_ _ _ q=>q,λ_ ps q=>⟨#[],by rw[q];simp⟩⟩
theorem Un.refl:Un fs ex H H h h:=Un.kept λ_ _ q=>q
theorem Un.laid(k:∀b u,h.get? b=some u->h'.get? b=some u)(aU:h.objs.size<=a)(a':H a=none):Un fs ex H (upd H a o) h h' where
 keep:=λb u q _ _ _=>k b u q
 slot:=λb u q _ _ _=>⟨u.slots,k b u q⟩
 free:=λb u q n _=>by rw[bX (Qj (Qo (Heap.lt_size q) aU))];exact n
 there:=λb u q _=>⟨u,k b u q⟩
 tups:=λb xs q=>by rw[bX (dy q a')];exact q
 frzs:=λb u xs q=>by rw[bX (dy q a')];exact q
 tbls:=λb ps q=>⟨#[],by rw[bX (dy q a'),q];simp⟩
theorem Un.write(e6:Mut (H x))(bn:e=x\/H e=some (.own x))(k:∀b u,b≠e->h.get? b=some u->h'.get? b=some u)(iI:∃u,h'.get? e=some u):Un fs ex H (upd H x o) h h':=by
 have aV:∀b,H b=none->b≠x:=λb n z=>by subst z;rw[n] at e6;exact e6
 have aJ:∀b,H b=none->b≠e:=λb n z=>by
  subst z;rcases bn with r|r
  .exact aV b n r
  .rw[n] at r;cases r
 have aZ:∀b u,H b=some u->¬Mut (some u)->b≠x:=λb u q nm z=>by subst z;rw[q] at e6;exact nm e6
 refine⟨λb u q n _ _=>k b u (aJ b n) q,λb u q n _ _=>⟨u.slots,k b u (aJ b n) q⟩,λb u q n _=>by rw[bX (aV b n)];exact n,λb u q _=>?_,
  λb xs q=>by rw[bX (aZ b _ q λz=>z)];exact q,λb u xs q=>by rw[bX (aZ b _ q λz=>z)];exact q,λb ps q=>⟨#[],by rw[bX (aZ b _ q λz=>z),q];simp⟩⟩
 by_cases hO:b=e
 .subst hO;exact iI
 .exact⟨u,k b u hO q⟩
end
noncomputable def trk (h:Heap) (H:Hp):List Addr:=(List.range h.objs.size).filter λa=>(H a).isSome
noncomputable def gX (h:Heap) (H:Hp):Heap:=hideAll h (trk h H)
theorem uk(h:Heap)(H:Hp):(gX h H).objs.size=h.objs.size:=PySem.W.hideAll_size _ _
theorem Zgu{h:Heap}{H:Hp}{b:Addr}{o:Obj}(e:h.get? b=some o)(n:H b=none):(gX h H).get? b=some o:=
 hideAll_get _ e λaZ=>by
  have q:(H b).isSome=true:=(List.mem_filter.mp aZ).2;rw[n] at q;simp at q
theorem ZhJ{h:Heap}{H:Hp}{b:Addr}{o:Obj}(e:(gX h H).get? b=some o):h.get? b=some o/\H b=none:=by
 have bq:h.get? b=some o:=of_hideAll (trk h H) e;refine⟨bq,?_⟩;cases q:H b with
 |none=>rfl
 |some x=>
  have aZ:b∈trk h H:=List.mem_filter.mpr ⟨Jg.mpr (Heap.lt_size bq),by simp[q]⟩;have z:(gX h H).get? b=none:=PySem.W.hideAll_none (trk h H) aZ;rw[z] at e;cases e
structure Mod(K:Frag)(mg:Str->Option Value)(base:Heap):Prop where
 kin:K.In base
 glob:base.Ns mainGlobals mg
 blt:∃fN,base.Ns builtinsNs fN/\∀x:Str,x≠"__name__" ->fN x=bootBuiltins x
 nolimit:base.NoLimit
structure Cx where
 prog:Program
 w:World
 K:Frag
 mg:Str->Option Value
 base:Heap
 A:Around
 N:List Str
 s₀:Shared
 H₀:Hp
 env:Env
 outer:List Env
 stack:List Env
 ex:List Addr
 fn:Str->Bool
 calm:Bool
 pn:List (Addr×Obj)
 xe:Value->Shared->Prop
noncomputable def frs (l:List Env):List Addr:=l.filterMap (·.frame)
noncomputable abbrev Cx.fs (X:Cx):List Addr:=frs X.outer
def Vis(a7:Scope)(x:Str):Prop:=a7.names.lookup x=some .local\/a7.names.lookup x=some .cell\/a7.names.lookup x=some .free
def Loc(a7:Scope)(x:Str):Prop:=a7.names.lookup x=some .local\/a7.names.lookup x=some .cell
def Zj0(env:Env)(h:Heap)(m:Str->Option Value)(x:Str)(u:Value):Prop:=
 (env.kindOf x=some .local/\m x=some u)\/((env.kindOf x=some .cell\/env.kindOf x=some .free)/\∃c,env.cells.lookup x=some c/\h.IsCell c (some u))
structure Cx.Ok(X:Cx):Prop where
 mod:Mod X.K X.mg X.base
 kind:X.env.scope.kind= .function
 glob:X.env.globals=mainGlobals
 blt:X.env.builtins=builtinsNs
 above:X.s₀.heap.objs.size<=X.env.locals
 inj:∀x y c,X.env.cells.lookup x=some c->X.env.cells.lookup y=some c->x=y
 has:∀x,(X.env.kindOf x=some .cell\/X.env.kindOf x=some .free)->∃c,X.env.cells.lookup x=some c
 cab:∀x c,X.fn x=true->X.env.cells.lookup x=some c->X.s₀.heap.objs.size<=c
 hd:X.calm=true->X.A.handled=none
 frames:X.A.frames=some X.stack
 stk:X.stack=X.outer\/(X.stack=X.env::X.outer/\X.env.frame=some X.env.locals)
 exf:∀b∈X.ex,b≠X.env.locals/\∀x c,X.env.cells.lookup x=some c->c≠b
 bs:∀b o,X.base.get? b=some o->X.s₀.heap.get? b=some o/\X.H₀ b=none
 bsz:X.base.objs.size<=X.s₀.heap.objs.size
 noex:∀b o,X.base.get? b=some o->b∉X.ex
 exfs:∀b∈X.ex,b∉X.fs
 funs:X.s₀.heap.FunFrames X.base X.outer
 frf:∀b∈X.fs,X.H₀ b=none
structure Inv(X:Cx)(aI:List (Addr×Obj))(ao:List (Option V))(H:Hp)(s:Shared):Prop where
 ok:X.Ok
 os:s.os=X.s₀.os
 bare:AllBare s.gens
 base:Un X.fs X.ex X.H₀ H X.s₀.heap s.heap
 loc:∃m,s.heap.Ns X.env.locals m/\∀(i:Nat)(x:Str)(v:V),X.N[i]? =some x->ao[i]? =some (some v)->Vis X.env.scope x->∃u,bW v u/\Zj0 X.env s.heap m x u
 cell:∀x c,X.env.cells.lookup x=some c->∃v,s.heap.IsCell c v
 free:H X.env.locals=none
 freeC:∀x c,X.env.cells.lookup x=some c->H c=none
 pin:∀p∈X.pn++aI,s.heap.get? p.1=some p.2/\H p.1=none/\p.1≠X.env.locals/\p.1∉X.fs/\∀v,p.2.data≠ .cell v
 hok:HOk X.prog X.w H s.heap
 len:ao.length=X.N.length
section
variable {X:Cx}{aI:List (Addr×Obj)}{ao:List (Option V)}{H aH:Hp}{s:Shared}{h':Heap}
theorem Cx.Ok.nofr(ok:X.Ok){b:Addr}{o:Obj}(e:X.base.get? b=some o):b∉X.fs:=λaJ=>by
 have:=(ok.funs.mem aJ).1;rw[e] at this;cases this
theorem Inv.bs(I:Inv X aI ao H s):∀b o,X.base.get? b=some o->s.heap.get? b=some o/\H b=none:=λb o e=>
 ⟨I.base.keep b o (I.ok.bs b o e).1 (I.ok.bs b o e).2 (I.ok.nofr e) (I.ok.noex b o e),I.base.free b o (I.ok.bs b o e).1 (I.ok.bs b o e).2 (I.ok.noex b o e)⟩
theorem Inv.bk(I:Inv X aI ao H s):∀b o,X.base.get? b=some o->s.heap.get? b=some o:=λb o e=>(I.bs b o e).1
theorem Inv.mod(I:Inv X aI ao H s):Mod X.K X.mg X.base:=I.ok.mod
theorem Inv.kIn(I:Inv X aI ao H s):X.K.In s.heap:=I.ok.mod.kin.keeps I.bk
theorem Inv.lt(I:Inv X aI ao H s):X.env.locals<s.heap.objs.size:=let⟨_,a',_⟩:=I.loc;a'.lt
theorem Inv.sz(I:Inv X aI ao H s):X.s₀.heap.objs.size<=s.heap.objs.size:=Qu I.ok.above (QF I.lt)
theorem Inv.nofs(I:Inv X aI ao H s){a:Addr}(h:s.heap.objs.size<=a):a∉X.fs:=λaJ=>by
 obtain⟨_,o,bf,_⟩:=I.ok.funs.mem aJ;exact absurd (Qo (Heap.lt_size bf) (Qu I.sz h)) (QZ _)
theorem Inv.cne(I:Inv X aI ao H s):∀x c,X.env.cells.lookup x=some c->c≠X.env.locals:=λx c e z=>by
 obtain⟨v,o,bf,hd⟩:=I.cell x c e;obtain⟨m,⟨bZ,bg,ep,gY,fZ,_⟩,_⟩:=I.loc;rw[z,gY] at bf;cases bf;rw[fZ] at hd;cases hd
theorem Inv.funs(I:Inv X aI ao H s):s.heap.FunFrames X.base X.outer:=by
 have all:∀(l:List Env),(∀b∈frs l,b∈X.fs)->X.s₀.heap.FunFrames X.base l->s.heap.FunFrames X.base l:=by
  intro l
  induction l with
  |nil=>intro _ _;trivial
  |cons env r bF=>
   intro a4 aK;obtain⟨aT,⟨L,o,a6,a',bf,hd⟩,aR⟩:=aK;have fO:L∈X.fs:=a4 L (by unfold frs;rw[List.filterMap_cons,a6];exact Jp);obtain⟨sl,e⟩:=I.base.slot L o bf (I.ok.frf L fO) fO λz=>I.ok.exfs L z fO;exact⟨aT,⟨L,_,a6,a',e,hd⟩,bF (λb aJ=>a4 b (by unfold frs;rw[List.filterMap_cons,a6];exact QH _ aJ)) aR⟩
 exact all X.outer (λ_ aJ=>aJ) I.ok.funs
theorem Inv.stack(I:Inv X aI ao H s):s.heap.FunFrames X.base X.stack:=by
 rcases I.ok.stk with e|⟨e,a6⟩
 .rw[e];exact I.funs
 .rw[e];obtain⟨m,a',_⟩:=I.loc;refine .cons (by rw[I.ok.kind];decide) a6 a' ?_ I.funs;exact Heap.get?_none_of_le (Qu I.ok.bsz I.ok.above)
theorem Inv.stkSub(I:Inv X aI ao H s):∀b∈frs X.stack,b∈X.env.locals::X.fs:=λb aJ=>by
 rcases I.ok.stk with e|⟨e,a6⟩
 .rw[e] at aJ;exact QH _ aJ
 .rw[e] at aJ;unfold frs at aJ;rw[List.filterMap_cons,a6] at aJ;exact aJ
theorem Inv.stkFree(I:Inv X aI ao H s):∀b∈frs X.stack,H b=none:=λb aJ=>by
 rcases Qi.mp (I.stkSub b aJ) with e|aJ
 .rw[e];exact I.free
 .obtain⟨_,o,bf,_⟩:=I.ok.funs.mem aJ;exact I.base.free b o bf (I.ok.frf b aJ) λz=>I.ok.exfs b z aJ
theorem Inv.step{g':Array GenState}{t':Nat}{d':Drawn}{ch:List Addr}(I:Inv X aI ao H s)
  (fP:∀b∈ch,(b∈X.ex\/X.s₀.heap.objs.size<=b)/\b≠X.env.locals/\(∀x c,X.env.cells.lookup x=some c->c≠b)/\∀p∈X.pn++aI,p.1≠b)
  (keep:∀b o,b≠X.env.locals->b∉X.fs->b∉ch->s.heap.get? b=some o->H b=none->h'.get? b=some o)
  (slot:∀b o,b≠X.env.locals->b∈X.fs->b∉ch->s.heap.get? b=some o->H b=none->∃sl,h'.get? b=some {o with slots:=sl}) (free:∀b o,b∉ch->s.heap.get? b=some o->H b=none->aH b=none)
  (there:∀b o,b∉ch->s.heap.get? b=some o->∃bZ,h'.get? b=some bZ)
  (tups:∀b xs,H b=some (.tup xs)->aH b=some (.tup xs)) (frzs:∀b o u,H b=some (.frz o u)->aH b=some (.frz o u)) (tbls:∀b ps,H b=some (.tbl ps)->∃more,aH b=some (.tbl (ps++more)))
  (ns:∀m,s.heap.Ns X.env.locals m->h'.Ns X.env.locals m) (hok:HOk X.prog X.w aH h') (br:AllBare g'):
  Inv X aI ao aH {s with heap:=h',gens:=g',drawn:=d',toks:=t'}:=by
 have o8:∀b o,X.s₀.heap.get? b=some o->b≠X.env.locals:=λb o e=>Qj (Qo (Heap.lt_size e) I.ok.above);have kB:∀b o,X.s₀.heap.get? b=some o->b∉X.ex->b∉ch:=λb o e aV aJ=>by
  rcases(fP b aJ).1 with z|z
  .exact aV z
  .exact absurd (Qo (Heap.lt_size e) z) (QZ _)
 have o9:∀x c,X.env.cells.lookup x=some c->∀v,s.heap.IsCell c v->h'.IsCell c v:=λx c e v ⟨o,bf,hd⟩=>by
  have jr:c∉ch:=λz=>(fP c z).2.2.1 x c e rfl
  by_cases aO:c∈X.fs
  .obtain⟨sl,q⟩:=slot c o (I.cne x c e) aO jr bf (I.freeC x c e);exact⟨_,q,hd⟩
  .exact⟨o,keep c o (I.cne x c e) aO jr bf (I.freeC x c e),hd⟩
 refine⟨I.ok,I.os,br,⟨λb o e n aJ aV=>?_,λb o e n aJ aV=>?_,λb o e n aV=>?_,λb o e aV=>?_,λb xs e=>tups b xs (I.base.tups b xs e),λb o xs e=>frzs b o xs (I.base.frzs b o xs e),λb ps e=>?_⟩,?_,λx c e=>?_,?_,λx c e=>?_,λp aU=>?_,hok,I.len⟩
 .exact keep b o (o8 b o e) aJ (kB b o e aV) (I.base.keep b o e n aJ aV) (I.base.free b o e n aV)
 .obtain⟨sl,bb⟩:=I.base.slot b o e n aJ aV;obtain⟨l9,bh⟩:=slot b _ (o8 b o e) aJ (kB b o e aV) bb (I.base.free b o e n aV);exact⟨l9,bh⟩
 .obtain⟨bZ,bb⟩:=I.base.there b o e aV;exact free b bZ (kB b o e aV) bb (I.base.free b o e n aV)
 .obtain⟨bZ,bb⟩:=I.base.there b o e aV;exact there b bZ (kB b o e aV) bb
 .obtain⟨f0,bb⟩:=I.base.tbls b ps e;obtain⟨hQ,bh⟩:=tbls b _ bb;exact⟨f0++hQ,by rw[bh,Array.append_assoc]⟩
 .obtain⟨m,a',aK⟩:=I.loc;refine⟨m,ns m a',λi x v bb bh di=>?_⟩;obtain⟨u,r,l⟩:=aK i x v bb bh di;refine⟨u,r,?_⟩;rcases l with l|⟨k,c,e,z⟩
  .exact .inl l
  .exact .inr ⟨k,c,e,o9 x c e _ z⟩
 .obtain⟨v,z⟩:=I.cell x c e;exact⟨v,o9 x c e v z⟩
 .obtain⟨m,⟨o,_,_,bf,_⟩,_⟩:=I.loc;exact free _ o (λz=>(fP _ z).2.1 rfl) bf I.free
 .obtain⟨v,o,bf,hd⟩:=I.cell x c e;exact free c o (λz=>(fP c z).2.2.1 x c e rfl) bf (I.freeC x c e)
 .obtain⟨e,n,ne,iJ,d⟩:=I.pin p aU;have jr:p.1∉ch:=λz=>(fP p.1 z).2.2.2 p aU rfl;exact⟨keep p.1 p.2 ne iJ jr e n,free p.1 p.2 jr e n,ne,iJ,d⟩
theorem Inv.un{t':Nat}(I:Inv X aI ao H s)(u:Un X.fs [] H aH s.heap h')(hok:HOk X.prog X.w aH h'):Inv X aI ao aH {s with heap:=h',toks:=t'}:=by
 obtain⟨m,⟨o,bg,ep,bf,r⟩,_⟩:=id I.loc;obtain⟨sl,fO⟩:=u.any bf I.free (by simp);exact I.step (g':=s.gens) (d':=s.drawn) (ch:=[]) (λ_ z=>nomatch z) (λb o _ aJ _ e n=>u.keep b o e n aJ (by simp)) (λb o _ aJ _ e n=>u.slot b o e n aJ (by simp)) (λb o _ e n=>u.free b o e n (by simp)) (λb o _ e=>u.there b o e (by simp)) u.tups u.frzs u.tbls (λa9 aZ=>by
  obtain⟨bZ,l_,l',gY,b7⟩:=aZ;rw[bf] at gY;cases gY;exact⟨_,l_,l',fO,b7⟩) hok I.bare
theorem Inv.call{g':Array GenState}{t':Nat}{d':Drawn}{ch:List Addr}(I:Inv X aI ao H s)(u:Un (frs X.stack) ch H aH s.heap h')(hok:HOk X.prog X.w aH h')(br:AllBare g')
  (fP:∀b∈ch,(b∈X.ex\/X.s₀.heap.objs.size<=b)/\b≠X.env.locals/\(∀x c,X.env.cells.lookup x=some c->c≠b)/\∀p∈X.pn++aI,p.1≠b):
  Inv X aI ao aH {s with heap:=h',gens:=g',drawn:=d',toks:=t'}:=by
 obtain⟨m,⟨o,bg,ep,bf,r⟩,_⟩:=id I.loc;obtain⟨sl,fO⟩:=u.any bf I.free λz=>(fP _ z).2.1 rfl;exact I.step (ch:=ch) fP (λb o fO aJ aO e n=>u.keep b o e n (λz=>(Qi.mp (I.stkSub b z)).elim fO aJ) aO) (λb o _ _ aO e n=>u.any e n aO) (λb o aO e n=>u.free b o e n aO) (λb o aO e=>u.there b o e aO) u.tups u.frzs u.tbls (λa9 aZ=>by
  obtain⟨bZ,l_,l',gY,b7⟩:=aZ;rw[bf] at gY;cases gY;exact⟨_,l_,l',fO,b7⟩) hok br
theorem Inv.turned{t':Nat}{it:Addr}(I:Inv X aI ao H s)(k:∀b o,b≠it->s.heap.get? b=some o->h'.get? b=some o)(a':H it=none)(fO:it≠X.env.locals)
  (aN:it∈X.ex\/X.s₀.heap.objs.size<=it) (aQ:∀x c,X.env.cells.lookup x=some c->c≠it) (bJ:∀p∈X.pn++aI,p.1≠it):Inv X aI ao H {s with heap:=h',toks:=t'}:=by
 have js:∀b u,H b=some u->b≠it:=λb u e z=>by rw[z,a'] at e;cases e
 refine I.step (g':=s.gens) (d':=s.drawn) (ch:=[it]) (λb aJ=>?_) (λb o _ _ aO e _=>k b o (λz=>aO (by simp[z])) e) (λb o _ _ aO e _=>⟨o.slots,k b o (λz=>aO (by simp[z])) e⟩) (λ_ _ _ _ n=>n)
  (λb o aO e=>⟨o,k b o (λz=>aO (by simp[z])) e⟩) (λ_ _ e=>e) (λ_ _ _ e=>e) (λb ps e=>⟨#[],by rw[e];simp⟩) (λm aZ=>?_) (λb u e=>?_) I.bare
 .have e:b=it:=by simpa using aJ
  subst e;exact⟨aN,fO,aQ,bJ⟩
 .obtain⟨o,bg,ep,bf,r⟩:=aZ;exact⟨o,bg,ep,k _ o (JH fO) bf,r⟩
 .refine(I.hok b u e).stay (λc v aO q=>k c v ?_ q) (λ_ q=>q) λ_ _ q=>q;rcases aO with z|z
  .rw[z];exact js b u e
  .exact js c _ z
theorem Inv.tok(I:Inv X aI ao H s)(t:Nat):Inv X aI ao H {s with toks:=t}:=I.un (h':=s.heap) (t':=t) Un.refl I.hok
theorem Inv.kept{t':Nat}(I:Inv X aI ao H s)(k:∀b u,s.heap.get? b=some u->h'.get? b=some u):Inv X aI ao H {s with heap:=h',toks:=t'}:=I.un (Un.kept k) (I.hok.kept k)
theorem Inv.laid{a:Addr}{o:HO}{t':Nat}(I:Inv X aI ao H s)(k:∀b u,s.heap.get? b=some u->h'.get? b=some u)(aU:s.heap.objs.size<=a)(new:ZQ X.prog X.w (upd H a o) h' a o):
  Inv X aI ao (upd H a o) {s with heap:=h',toks:=t'}:=I.un (Un.laid k aU (I.hok.fresh aU)) (I.hok.laid k aU new)
theorem Inv.write{x e:Addr}{o:HO}{t':Nat}(I:Inv X aI ao H s)(e6:Mut (H x))(bn:e=x\/H e=some (.own x))(k:∀b u,b≠e->s.heap.get? b=some u->h'.get? b=some u)(iI:∃u,h'.get? e=some u)
  (new:ZQ X.prog X.w (upd H x o) h' x o):Inv X aI ao (upd H x o) {s with heap:=h',toks:=t'}:=I.un (Un.write e6 bn k iI) (I.hok.write e6 bn k iI new)
theorem Inv.pins_of{o_:List (Addr×Obj)}(I:Inv X aI ao H s)(h:∀p∈o_,s.heap.get? p.1=some p.2/\H p.1=none/\p.1≠X.env.locals/\p.1∉X.fs/\∀v,p.2.data≠ .cell v):Inv X o_ ao H s:=
 ⟨I.ok,I.os,I.bare,I.base,I.loc,I.cell,I.free,I.freeC,λp aU=>(QJ.mp aU).elim (λz=>I.pin p (Q9 _ z)) (h p),I.hok,I.len⟩
theorem o'{N:List Str}(dN:N.Nodup){i j:Nat}{x:Str}(a:N[i]? =some x)(b:N[j]? =some x):i=j:=by
 obtain⟨aN,bb⟩:=Q8.mp a;obtain⟨aQ,bh⟩:=Q8.mp b;exact(List.getElem_inj dN).mp (bb.trans bh.symm)
theorem ma{M:Model}{A:Around}{E:Value->Shared->Prop}{i:Nat}{x:Str}{v:V}{u:Value}{Q:Unit->Shared->Prop}(I:Inv X aI ao H s)(dN:X.N.Nodup)(aM:X.N[i]? =some x)(aV:Loc X.env.scope x)(r:bW v u)
  (h:∀aX,Inv X aI (ao.set i (some v)) H aX->(∃a,Heap.SameBut a s.heap aX.heap/\(a=X.env.locals\/X.env.cells.lookup x=some a))->Q () aX) (a6:X.fn x=true\/X.env.scope.names.lookup x=some .local:=by first|exact .inl rfl|exact .inr rfl|assumption):wpAny M A (storeName X.env x u) Q E s:=by
 obtain⟨m,a',aK⟩:=id I.loc;have ul:(X.env.scope.kind== .class||(X.env.scope.kind== .module&&X.env.locals != X.env.globals))=false:=by rw[I.ok.kind];rfl
 have pa:i<ao.length:=by rw[I.len];exact(Q8.mp aM).1
 have cne:=I.cne;have pb:∀{a:Addr}{h':Heap},(∃o,s.heap.get? a=some o/\H a=none)->Heap.SameBut a s.heap h'->HOk X.prog X.w H h':=λ{a h'} aS a4 b bE e=>by
  obtain⟨_,_,pc⟩:=aS;refine(I.hok b bE e).stay (λc d7 aO q=>(a4.2 c ?_).trans q) (λ_ q=>q) λ_ _ q=>q;rintro rfl;rcases aO with rfl|aO
  .rw[pc] at e;cases e
  .rw[pc] at aO;cases aO
 rcases aV with aT|aT
 .refine wpAny_storeName_local aT a' (λh' um a4=>?_) ul;obtain⟨uo,_,_,jt,_⟩:=id a';refine h _ ⟨I.ok,I.os,I.bare,⟨λb o e n aJ aV=>?_,λb o e n aJ aV=>?_,I.base.free,λb o e aV=>?_,I.base.tups,I.base.frzs,I.base.tbls⟩,⟨_,um,λj y iK bb bh di=>?_⟩,λy c e=>?_,I.free,I.freeC,λp aU=>?_,pb ⟨uo,jt,I.free⟩ a4,by simpa using I.len⟩ ⟨_,a4,.inl rfl⟩
  .exact(a4.2 b (Qj (Qo (Heap.lt_size e) I.ok.above))).trans (I.base.keep b o e n aJ aV)
  .obtain⟨sl,bb⟩:=I.base.slot b o e n aJ aV;exact⟨sl,(a4.2 b (Qj (Qo (Heap.lt_size e) I.ok.above))).trans bb⟩
  .obtain⟨bZ,bb⟩:=I.base.there b o e aV;exact⟨bZ,(a4.2 b (Qj (Qo (Heap.lt_size e) I.ok.above))).trans bb⟩
  .by_cases bP:j=i
   .subst bP;rw[aM] at bb;cases bb;rw[List.getElem?_set_self pa] at bh;cases bh;exact⟨u,r,.inl ⟨aT,by simp⟩⟩
   .rw[List.getElem?_set_ne (JH bP)] at bh;obtain⟨hR,b7,q⟩:=aK j y iK bb bh di;refine⟨hR,b7,?_⟩;rcases q with⟨k,e⟩|⟨k,c,e,z⟩
    .refine .inl ⟨k,?_⟩;have:y≠x:=λe=>bP (o' dN bb (e▸aM));simp[this,e]
    .exact .inr ⟨k,c,e,z.sameBut a4 (cne y c e)⟩
  .obtain⟨d7,z⟩:=I.cell y c e;exact⟨d7,z.sameBut a4 (cne y c e)⟩
  .obtain⟨e,n,ne,iJ,d⟩:=I.pin p aU;exact⟨(a4.2 p.1 ne).trans e,n,ne,iJ,d⟩
 .have ju:X.fn x=true:=by
   rcases a6 with z|z
   .exact z
   .rw[z] at aT;cases aT
  obtain⟨c,aO⟩:=I.ok.has x (.inl aT);obtain⟨d7,z⟩:=I.cell x c aO;refine wpAny_storeName_cell I.ok.kind aT aO z (λh' gu a4=>?_);obtain⟨dH,pd,up⟩:=id z;refine h {s with heap:=h'} ⟨I.ok,I.os,I.bare,⟨λb o e n aJ aV=>?_,λb o e n aJ aV=>?_,I.base.free,λb o e aV=>?_,I.base.tups,I.base.frzs,I.base.tbls⟩,⟨m,a'.sameBut a4 (JH (cne x c aO)),λj y iK bb bh di=>?_⟩,λy ck e=>?_,I.free,I.freeC,λp aU=>?_,pb ⟨dH,pd,I.freeC x c aO⟩ a4,by simpa using I.len⟩ ⟨c,a4,.inr aO⟩
  .exact(a4.2 b (Qj (Qo (Heap.lt_size e) (I.ok.cab x c ju aO)))).trans (I.base.keep b o e n aJ aV)
  .obtain⟨sl,bb⟩:=I.base.slot b o e n aJ aV;exact⟨sl,(a4.2 b (Qj (Qo (Heap.lt_size e) (I.ok.cab x c ju aO)))).trans bb⟩
  .obtain⟨bZ,bb⟩:=I.base.there b o e aV;exact⟨bZ,(a4.2 b (Qj (Qo (Heap.lt_size e) (I.ok.cab x c ju aO)))).trans bb⟩
  .by_cases bP:j=i
   .subst bP;rw[aM] at bb;cases bb;rw[List.getElem?_set_self pa] at bh;cases bh;exact⟨u,r,.inr ⟨.inl aT,c,aO,gu⟩⟩
   .rw[List.getElem?_set_ne (JH bP)] at bh;obtain⟨hR,b7,q⟩:=aK j y iK bb bh di;refine⟨hR,b7,?_⟩;rcases q with q|⟨k,ck,e,d3⟩
    .exact .inl q
    .refine .inr ⟨k,ck,e,d3.sameBut a4 ?_⟩;rintro rfl;exact bP (o' dN bb (I.ok.inj _ _ _ e aO▸aM))
  .by_cases iL:ck=c
   .subst iL;exact⟨_,gu⟩
   .obtain⟨mb,cw⟩:=I.cell y ck e;exact⟨mb,cw.sameBut a4 iL⟩
  .obtain⟨e,n,ne,iJ,d⟩:=I.pin p aU;refine⟨(a4.2 p.1 ?_).trans e,n,ne,iJ,d⟩;intro q;rw[q,pd] at e;have ds:dH=p.2:=Qt e;exact d d7 (by rw[<-ds];exact up)
theorem pe{M:Model}{A:Around}{E:Value->Shared->Prop}{i:Nat}{x:Str}{v:V}{u:Value}{Q:Unit->Shared->Prop}(I:Inv X aI ao H s)(dN:X.N.Nodup)(aM:X.N[i]? =some x)(aV:Loc X.env.scope x)(r:bW v u)
  (h:∀aX,Inv X aI (ao.set i (some v)) H aX->Q () aX) (a6:X.fn x=true\/X.env.scope.names.lookup x=some .local:=by first|exact .inl rfl|exact .inr rfl|assumption):wpAny M A (storeName X.env x u) Q E s:=
 ma I dN aM aV r (λaX dO _=>h aX dO) a6
theorem Inv.call'{aX:Shared}{ch:List Addr}(I:Inv X aI ao H s)(bf:aX.os=s.os)(u:Un (frs X.stack) ch H aH s.heap aX.heap)(hok:HOk X.prog X.w aH aX.heap)(br:AllBare aX.gens)
  (fP:∀b∈ch,(b∈X.ex\/X.s₀.heap.objs.size<=b)/\b≠X.env.locals/\(∀x c,X.env.cells.lookup x=some c->c≠b)/\∀p∈X.pn++aI,p.1≠b):Inv X aI ao aH aX:=by
 obtain⟨h',g',d',t',bZ⟩:=aX;have e:bZ=s.os:=bf;subst e;exact I.call (g':=g') (t':=t') (d':=d') u hok br fP
end
noncomputable abbrev XK:=Value->Option Addr->Hp->Prop
noncomputable abbrev St:=List (Option V)
noncomputable abbrev VK:=V->Hp->Prop
noncomputable abbrev TE:=St->Hp->VK->Prop
noncomputable abbrev TT:=St->Hp->(Bool->Hp->Prop)->Prop
noncomputable abbrev TA:=St->Hp->(List V->Hp->Prop)->Prop
structure Wj where
 nx:St->Hp->Prop
 rt:VK
 bk:St->Hp->Prop:=λ_ _=>False
 ct:St->Hp->Prop:=λ_ _=>False
noncomputable abbrev TS:=Wj->St->Hp->Prop
def EP(X:Cx)(aI:List (Addr×Obj))(ao:St)(Q:VK)(u:Value)(aX:Shared):Prop:=∃v aH,Inv X aI ao aH aX/\bW v u/\Q v aH
def TP(X:Cx)(aI:List (Addr×Obj))(ao:St)(Q:Bool->Hp->Prop)(b:Bool)(aX:Shared):Prop:=∃aH,Inv X aI ao aH aX/\Q b aH
def AP(X:Cx)(aI:List (Addr×Obj))(ao:St)(Q:List V->Hp->Prop)(us:List Value)(aX:Shared):Prop:=∃vs aH,Inv X aI ao aH aX/\bD vs us/\Q vs aH
def SP(X:Cx)(aI:List (Addr×Obj))(D:Wj)(f:Flow)(aX:Shared):Prop:=
 match f with
 | .next=>∃a5 aH,Inv X aI a5 aH aX/\D.nx a5 aH
 | .brk=>∃a5 aH,Inv X aI a5 aH aX/\D.bk a5 aH
 | .cont=>∃a5 aH,Inv X aI a5 aH aX/\D.ct a5 aH
 | .ret u=>∃v a5 aH,Inv X aI a5 aH aX/\bW v u/\D.rt v aH
def PE(X:Cx)(e:Expr)(t:TE):Prop:=
 ∀(aI:List (Addr×Obj))(s:Shared)(ao:St)(H:Hp)(Q:VK),Inv X aI ao H s->t ao H Q->wpAny (model X.prog X.w) X.A (eval e X.env) (EP X aI ao Q) X.xe s
def PT(X:Cx)(e:Expr)(t:TT):Prop:=
 ∀(aI:List (Addr×Obj))(s:Shared)(ao:St)(H:Hp)(Q:Bool->Hp->Prop),Inv X aI ao H s->t ao H Q->wpAny (model X.prog X.w) X.A (isTrue e X.env (eval e X.env)) (TP X aI ao Q) X.xe s
def PW(X:Cx)(e:Expr)(t:TT):Prop:=
 ∀(hS:Sem Value)(aI:List (Addr×Obj))(s:Shared)(ao:St)(H:Hp)(Q:Bool->Hp->Prop),Inv X aI ao H s->t ao H Q->wpAny (model X.prog X.w) X.A (isTrue e X.env hS) (TP X aI ao Q) X.xe s
theorem PW.pt{X:Cx}{e:Expr}{t:TT}(h:PW X e t):PT X e t:=h _
def PA(X:Cx)(bg:List Expr)(t:TA):Prop:=
 ∀(pos:Pos)(aI:List (Addr×Obj))(s:Shared)(ao:St)(H:Hp)(Q:List V->Hp->Prop),Inv X aI ao H s->t ao H Q->wpAny (model X.prog X.w) X.A (spliced (backTo pos (starEach bg X.env))) (AP X aI ao Q) X.xe s
def PS(X:Cx)(st:Stmt)(t:TS):Prop:=
 ∀(aI:List (Addr×Obj))(s:Shared)(ao:St)(H:Hp)(D:Wj),Inv X aI ao H s->t D ao H->wpAny (model X.prog X.w) X.A (exec st X.env) (SP X aI D) X.xe s
def PSs(X:Cx)(st:List Stmt)(t:TS):Prop:=
 ∀(aI:List (Addr×Obj))(s:Shared)(ao:St)(H:Hp)(D:Wj),Inv X aI ao H s->t D ao H->wpAny (model X.prog X.w) X.A (execs st X.env) (SP X aI D) X.xe s
theorem thn{bv:Type}{t:Sem bv}{Q jv:bv->Shared->Prop}{M:Model}{A:Around}{E:Value->Shared->Prop}{s:Shared}(h:wpAny M A t Q E s)(cz:∀a s,Q a s->jv a s):wpAny M A t jv E s:=wpAny_mono h cz λ_ _ x=>x
section
variable {X:Cx}
theorem bin{a b:Expr}{bc bG:TE}(aS:PE X a bc)(aJ:PE X b bG){aI:List (Addr×Obj)}{s:Shared}{ao:St}{H:Hp}{R:V->V->Hp->Prop}(I:Inv X aI ao H s)(h:bc ao H λx aL=>bG ao aL λy aY=>R x y aY)
  {bv:Type} {Q:bv->Shared->Prop} {f:Value->Value->Sem bv}
  (a6:∀v u bw x y aY,Inv X aI ao aY bw->bW x v->bW y u->R x y aY->wpAny (model X.prog X.w) X.A (f v u) Q X.xe bw):
  wpAny (model X.prog X.w) X.A (eval a X.env) (λv cr=>wpAny (model X.prog X.w) X.A (eval b X.env) (λu iM=>wpAny (model X.prog X.w) X.A (f v u) Q X.xe iM) X.xe cr) X.xe s:=by
 refine thn (aS aI s ao H _ I h) λv s1 ⟨x,aL,a_,bK,bQ⟩=>?_;refine thn (aJ aI s1 ao aL _ a_ bQ) λu bw ⟨y,aY,b9,cp,cQ⟩=>?_;exact a6 v u bw x y aY b9 bK cp cQ
def ZbM (i:Nat):TE:=λao H Q=>∃v,ao[i]? =some (some v)/\Q v H
def tC (v:V):TE:=λ_ H Q=>Q v H
theorem ZiD{i:Nat}{x:Str}{pos:Pos}(dN:X.N[i]? =some x)(bO:Vis X.env.scope x)(hd:(x==("__debug__" :Str))=false:=by decide)(fu:(x==("__classdict__" :Str))=false:=by decide):PE X (.Name x pos) (ZbM i):=by
 intro aI s ao H Q I h;obtain⟨v,e,h⟩:=h;obtain⟨m,a',aK⟩:=I.loc;obtain⟨u,r,l⟩:=aK i x v dN e bO;have fin:EP X aI ao Q u s:=⟨v,H,I,r,h⟩;rcases l with⟨aT,aZ⟩|⟨aT,c,aO,iN⟩
 .exact wpAny_Name (wpAny_loadName_local I.ok.kind aT a' aZ fin) hd
 .rcases aT with aT|aT
  .exact wpAny_Name (wpAny_loadName_cell I.ok.kind aT aO iN fin) hd
  .exact wpAny_Name (wpAny_loadName_free I.ok.kind aT aO iN fin fu) hd
theorem Zc{i j pos}:PE X (.Constant (.int i) j pos) (tC (.int i)):=λ_ _ _ H _ I h=>wpAny_Constant_int ⟨.int i,H,I.tok _,⟨_,rfl⟩,h⟩
theorem Y4{b j pos}:PE X (.Constant (.bool b) j pos) (tC (.bl b)):=λ_ _ _ H _ I h=>Constant_bool ⟨.bl b,H,I,rfl,h⟩
theorem Zw{x j pos}:PE X (.Constant (.str x) j pos) (tC (.str x)):=λ_ _ _ H _ I h=>Calls.Constant_str ⟨.str x,H,I.tok _,⟨_,rfl⟩,h⟩
def Gl(X:Cx)(x:Str):Prop:=X.env.kindOf x=some .globalImplicit
theorem kC{E:Value->Shared->Prop}{aI:List (Addr×Obj)}{s:Shared}{ao:St}{H:Hp}{x:Str}{u:Value}{pos:Pos}{Q:Value->Shared->Prop}(I:Inv X aI ao H s)(br:Gl X x)(aZ:X.mg x=some u)(h:Q u s)
  (hd:(x==("__debug__" :Str))=false:=by decide):wpAny (model X.prog X.w) X.A (eval (.Name x pos) X.env) Q E s:=
 Calls.Name_function_global I.ok.kind br (Calls.loadGlobal_global (by rw[I.ok.glob];exact I.mod.glob.keeps I.bk) aZ h) hd
theorem jw{E:Value->Shared->Prop}{aI:List (Addr×Obj)}{s:Shared}{ao:St}{H:Hp}{x:Str}{u:Value}{pos:Pos}{Q:Value->Shared->Prop}(I:Inv X aI ao H s)(br:Gl X x)(aZ:X.mg x=none)(bO:bootBuiltins x=some u)(h:Q u s)
  (a':x≠"__name__" :=by decide) (hd:(x==("__debug__" :Str))=false:=by decide):wpAny (model X.prog X.w) X.A (eval (.Name x pos) X.env) Q E s:=by
 obtain⟨fN,aN,aQ⟩:=I.mod.blt;exact Calls.Name_function_global I.ok.kind br (Calls.loadGlobal_builtin (by rw[I.ok.glob];exact I.mod.glob.keeps I.bk) aZ (by rw[I.ok.blt];exact aN.keeps I.bk) ((aQ x a').trans bO) h) hd
theorem jx{x:Str}{v:V}{u:Value}{pos:Pos}(br:Gl X x)(aZ:X.mg x=some u)(r:bW v u)(hd:(x==("__debug__" :Str))=false:=by decide):PE X (.Name x pos) (tC v):=
 λ_ _ _ H _ I h=>kC I br aZ ⟨v,H,I,r,h⟩ hd
theorem gv{x:Str}{v:V}{u:Value}{pos:Pos}(br:Gl X x)(aZ:X.mg x=none)(bO:bootBuiltins x=some u)(r:bW v u)(a':x≠"__name__" :=by decide)(hd:(x==("__debug__" :Str))=false:=by decide):PE X (.Name x pos) (tC v):=
 λ_ _ _ H _ I h=>jw I br aZ bO ⟨v,H,I,r,h⟩ a' hd
variable {a b:Expr}{bc bG:TE}{pos:Pos}
variable {gw kD:TT}{rest:List Expr}
def pf (t u:TT):TT:=λao H Q=>t ao H λc aL=>if c=true then u ao aL Q else Q false aL
def tOr (t u:TT):TT:=λao H Q=>t ao H λc aL=>if c=true then Q true aL else u ao aL Q
def ph (t:TT):TT:=λao H Q=>t ao H λc aL=>Q (!c) aL
theorem mc(aS:PT X a gw):PW X (.BoolOp .And [a] pos) gw:=by
 intro jy aI s ao H Q I h;refine isTrue_and (thn (aS aI s ao H Q I h) λc s1 e=>?_);cases c with
 |true=>exact isTrue_and_nil e
 |false=>exact e
theorem fv(aS:PT X a gw):PW X (.BoolOp .Or [a] pos) gw:=by
 intro jy aI s ao H Q I h;refine isTrue_or (thn (aS aI s ao H Q I h) λc s1 e=>?_);cases c with
 |false=>exact isTrue_or_nil e
 |true=>exact e
theorem kE(aS:PT X a gw)(aJ:PW X (.BoolOp .And (b::rest) pos) kD):PW X (.BoolOp .And (a::b::rest) pos) (pf gw kD):=by
 intro jy aI s ao H Q I h;refine isTrue_and (thn (aS aI s ao H _ I h) λc s1 ⟨aL,a_,bQ⟩=>?_);cases c with
 |true=>exact aJ jy aI s1 ao aL Q a_ bQ
 |false=>exact⟨aL,a_,bQ⟩
theorem ed(aS:PT X a gw)(aJ:PW X (.BoolOp .Or (b::rest) pos) kD):PW X (.BoolOp .Or (a::b::rest) pos) (tOr gw kD):=by
 intro jy aI s ao H Q I h;refine isTrue_or (thn (aS aI s ao H _ I h) λc s1 ⟨aL,a_,bQ⟩=>?_);cases c with
 |true=>exact⟨aL,a_,bQ⟩
 |false=>exact aJ jy aI s1 ao aL Q a_ bQ
theorem dX(aS:PT X a gw):PT X (.UnaryOp .Not a pos) (ph gw):=by
 intro aI s ao H Q I h;exact isTrue_not (aS aI s ao H (λc aL=>Q (!c) aL) I h)
def pi (bc bG:TE):TE:=λao H Q=>bc ao H λx aL=>∃c,x= .bl c/\if c=true then bG ao aL Q else Q (.bl false) aL
def pj (bc bG:TE):TE:=λao H Q=>bc ao H λx aL=>∃c,x= .bl c/\if c=true then Q (.bl true) aL else bG ao aL Q
def pk (bc:TE):TE:=λao H Q=>bc ao H λx aL=>∃c,x= .bl c/\Q (.bl (!c)) aL
theorem gZ{op}{t:TE}(h:PE X a t):PE X (.BoolOp op [a] pos) t:=λaI s ao H Q I hw=>BoolOp_one (h aI s ao H Q I hw)
theorem gA(aS:PE X a bc)(aJ:PE X (.BoolOp .And (b::rest) pos) bG):PE X (.BoolOp .And (a::b::rest) pos) (pi bc bG):=by
 intro aI s ao H Q I h;refine BoolOp_and (thn (aS aI s ao H _ I h) λv s1 ⟨x,aL,a_,bK,bQ⟩=>?_);obtain⟨c,rfl,bQ⟩:=bQ;cases bK;refine wpAny_truthy_bool ?_;cases c with
 |true=>exact aJ aI s1 ao aL Q a_ bQ
 |false=>exact⟨.bl false,aL,a_,rfl,bQ⟩
theorem uq(aS:PE X a bc)(aJ:PE X (.BoolOp .Or (b::rest) pos) bG):PE X (.BoolOp .Or (a::b::rest) pos) (pj bc bG):=by
 intro aI s ao H Q I h;refine BoolOp_or (thn (aS aI s ao H _ I h) λv s1 ⟨x,aL,a_,bK,bQ⟩=>?_);obtain⟨c,rfl,bQ⟩:=bQ;cases bK;refine wpAny_truthy_bool ?_;cases c with
 |false=>exact aJ aI s1 ao aL Q a_ bQ
 |true=>exact⟨.bl true,aL,a_,rfl,bQ⟩
theorem md(aS:PE X a bc):PE X (.UnaryOp .Not a pos) (pk bc):=by
 intro aI s ao H Q I h;refine UnaryOp_ (thn (aS aI s ao H _ I h) λv s1 ⟨x,aL,a_,bK,bQ⟩=>?_);obtain⟨c,rfl,bQ⟩:=bQ;cases bK;exact not_of (wpAny_truthy_bool ⟨.bl (!c),aL,a_,rfl,bQ⟩)
end
def SqL(K:Frag)(H:Hp)(a:Addr)(xs:List V):Prop:=
 Rd H a (.lst xs)\/
  ∃(o:Obj)(its:Array Value)(n:Nat),K.lookup a=some o/\o.cls= .type "list" /\o.dict=none/\o.data= .seq its n/\its.size<=sizeLine/\bD xs its.toList
def SqT(K:Frag)(H:Hp)(a:Addr)(xs:List V):Prop:=
 Rd H a (.tup xs)\/
  ∃(o:Obj)(its:Array Value)(n:Nat),K.lookup a=some o/\o.cls= .type "tuple" /\o.data= .seq its n/\its.size<=sizeLine/\bD xs its.toList
noncomputable def ur:Value->Option V
 | .none=>some .non
 | .bool b=>some (.bl b)
 | .int i _=>some (.int i)
 | .str x _=>some (.str x)
 | .bytes b _=>some (.byt b)
 | .float b _=>some (.flt b)
 | .ref a=>some (.ref a)
 | .type n=>some (.ty n)
 |_=>none
theorem bW.abs{x:V}{u:Value}(r:bW x u):ur u=some x:=by
 cases x with
 |non=>cases r;rfl
 |bl _=>cases r;rfl
 |int _=>obtain⟨t,rfl⟩:=r;rfl
 |str _=>obtain⟨t,rfl⟩:=r;rfl
 |byt _=>obtain⟨t,rfl⟩:=r;rfl
 |flt _=>obtain⟨t,rfl⟩:=r;rfl
 |ref _=>cases r;rfl
 |ty _=>cases r;rfl
theorem bW.inj{x y:V}{u:Value}(r:bW x u)(q:bW y u):x=y:=Qt (r.abs.symm.trans q.abs)
theorem bD.inj:∀{xs ys:List V}{us:List Value},bD xs us->bD ys us->xs=ys
 |_,_,_,.nil,.nil=>rfl
 |_,_,_,.cons r t,.cons b7 t'=>by rw[r.inj b7,bD.inj t t']
section
variable {X:Cx}{aI:List (Addr×Obj)}{ao:St}{H:Hp}{s:Shared}{a:Addr}{xs ys:List V}
theorem SqL.of{K:Frag}(h:H a=some (.lst xs)):SqL K H a xs:= .inl (.inl h)
theorem SqT.of{K:Frag}(h:H a=some (.tup xs)):SqT K H a xs:= .inl (.inl h)
theorem Inv.list(I:Inv X aI ao H s)(h:SqL X.K H a xs):∃its:List Value,bD xs its/\PlainL s.heap a its.toArray/\xs.length<=sizeLine:=by
 rcases h with h|⟨o,its,n,aT,aO,hd,a4,hz,r⟩
 .obtain⟨z,its,n,r,e⟩:=h.ok I.hok;exact⟨its,r,⟨_,n,e,rfl,rfl,rfl⟩,z⟩
 .refine⟨its.toList,r,⟨o,n,I.kIn a o aT,aO,hd,by simpa using a4⟩,?_⟩;have e:=r.length;simp only[Jd] at e;omega
theorem Inv.tuple(I:Inv X aI ao H s)(h:SqT X.K H a xs):∃its:List Value,bD xs its/\IsTup s.heap a its.toArray/\xs.length<=sizeLine:=by
 rcases h with h|⟨o,its,n,aT,aO,a4,hz,r⟩
 .obtain⟨z,its,r,p⟩:=h.ok I.hok;exact⟨its,r,p,z⟩
 .refine⟨its.toList,r,⟨o,I.kIn a o aT,aO,n,by simpa using a4⟩,?_⟩;have e:=r.length;simp only[Jd] at e;omega
theorem Inv.list_inj(I:Inv X aI ao H s)(h:SqL X.K H a xs)(h':SqL X.K H a ys):xs=ys:=by
 obtain⟨its,r,⟨o,n,e,_,_,d⟩,_⟩:=I.list h;obtain⟨its',b7,⟨bZ,eO,bq,_,_,d'⟩,_⟩:=I.list h';rw[e] at bq;cases bq;rw[d] at d'
 injection d' with hT _
 have:its=its':=by simpa using congrArg Array.toList hT
 subst this;exact r.inj b7
theorem Inv.tuple_inj(I:Inv X aI ao H s)(h:SqT X.K H a xs)(h':SqT X.K H a ys):xs=ys:=by
 obtain⟨its,r,⟨o,e,_,n,d⟩,_⟩:=I.tuple h;obtain⟨its',b7,⟨bZ,bq,_,eO,d'⟩,_⟩:=I.tuple h';rw[e] at bq;cases bq;rw[d] at d'
 injection d' with hT _
 have:its=its':=by simpa using congrArg Array.toList hT
 subst this;exact r.inj b7
end
section
variable {X:Cx}{st:Stmt}{rest:List Stmt}{t u:TS}{e:Expr}{bH:TE}{pos:Pos}
def tNext:TS:=λD ao H=>D.nx ao H
def pp (t u:TS):TS:=λD ao H=>t {D with nx:=u D} ao H
theorem cN:PSs X [] tNext:=λ_ _ ao H _ I h=>wpAny_execs_nil ⟨ao,H,I,h⟩
theorem bp(aN:PS X st t)(aQ:PSs X rest u):PSs X (st::rest) (pp t u):=by
 intro aI s ao H D I h;refine wpAny_execs_cons (thn (aN aI s ao H {D with nx:=u D} I h) λf s1 q=>?_);cases f with
 |next=>
  obtain⟨a5,aH,dO,q⟩:=q;exact aQ aI s1 a5 aH D dO q
 |ret v=>exact q
 |brk=>exact q
 |cont=>exact q
theorem bz(aN:PS X st t):PSs X [st] t:=by
 intro aI s ao H D I h;refine wpAny_execs_cons (thn (aN aI s ao H D I h) λf s1 q=>?_);cases f with
 |next=>exact wpAny_execs_nil q
 |ret v=>exact q
 |brk=>exact q
 |cont=>exact q
theorem Inv.quiet{aI:List (Addr×Obj)}{ao:St}{H:Hp}{s:Shared}(I:Inv X aI ao H s):interactive X.env=false:=by simp[interactive,I.ok.kind]
def pq (bH:TE):TS:=λD ao H=>bH ao H λ_ aL=>D.nx ao aL
theorem eE(bn:PE X e bH)(a4:swapsWith e none pos.line X.env=pure false:=by rfl):PS X (.Expr e pos) (pq bH):=by
 intro aI s ao H D I h;exact wpAny_Expr_any (thn (bn aI s ao H _ I h) λv s1 ⟨x,aL,a_,bK,bQ⟩=>⟨ao,aL,a_,bQ⟩) I.quiet a4
def pr (bH:TE):TS:=λD ao H=>bH ao H D.rt
theorem cg(bn:PE X e bH):PS X (.Return (some e) pos) (pr bH):=by
 intro aI s ao H D I h;exact wpAny_Return_some (thn (bn aI s ao H _ I h) λv s1 ⟨x,aL,a_,bK,bQ⟩=>⟨x,ao,aL,a_,bK,bQ⟩)
def pu (c:TT) (t u:TS):TS:=λD ao H=>c ao H λb aL=>if b=true then t D ao aL else u D ao aL
theorem cO{c:Expr}{a b:List Stmt}{b_:TT}(aO:PT X c b_)(aS:PSs X a t)(aJ:PSs X b u):PS X (.If c a b pos) (pu b_ t u):=by
 intro aI s ao H D I h;refine wpAny_If (thn (aO aI s ao H _ I h) λd s1 ⟨aL,a_,bQ⟩=>?_);cases d with
 |true=>exact aS aI s1 ao aL D a_ bQ
 |false=>exact aJ aI s1 ao aL D a_ bQ
end
noncomputable abbrev TG:=V->St->Hp->(St->Hp->Prop)->Prop
noncomputable abbrev TGs:=List V->St->Hp->(St->Hp->Prop)->Prop
def PG(X:Cx)(target:Expr)(t:TG):Prop:=
 ∀(aI:List (Addr×Obj))(s:Shared)(ao:St)(H:Hp)(v:V)(u:Value)(Q:St->Hp->Prop),Inv X aI ao H s->bW v u->t v ao H Q->
  wpAny (model X.prog X.w) X.A (assign target X.env u) (λ_ aX=>∃a5 aH,Inv X aI a5 aH aX/\Q a5 aH) X.xe s
def PGs(X:Cx)(ts:List Expr)(t:TGs):Prop:=
 ∀(aI:List (Addr×Obj))(s:Shared)(ao:St)(H:Hp)(vs:List V)(us:List Value)(Q:St->Hp->Prop),Inv X aI ao H s->bD vs us->t vs ao H Q->
  wpAny (model X.prog X.w) X.A (assignInOrder ((assignEach ts X.env).map (·.2)) us) (λ_ aX=>∃a5 aH,Inv X aI a5 aH aX/\Q a5 aH) X.xe s
noncomputable abbrev Zey:=V->V->V->Hp->(Hp->Prop)->Prop
def Zit(X:Cx)(t:Zey):Prop:=
 ∀(aI:List (Addr×Obj))(s:Shared)(ao:St)(H:Hp)(o i v:V)(dz g4 u:Value)(Q:Hp->Prop),Inv X aI ao H s->bW o dz->bW i g4->bW v u->t o i v H Q->
  wpAny (model X.prog X.w) X.A (setItem dz g4 u) (λ_ aX=>∃aH,Inv X aI ao aH aX/\Q aH) X.xe s
section
variable {X:Cx}{pos:Pos}
def Vb (i:Nat):TG:=λv ao H Q=>Q (ao.set i (some v)) H
theorem c9{i:Nat}{x:Str}(dN:X.N.Nodup)(aM:X.N[i]? =some x)(aV:Loc X.env.scope x)(a6:X.fn x=true\/X.env.scope.names.lookup x=some .local:=by first|exact .inl rfl|exact .inr rfl|assumption):PG X (.Name x pos) (Vb i):=by
 intro aI s ao H v u Q I r h;exact wpAny_assign_Name (pe I dN aM aV r (λaX dO=>⟨_,H,dO,h⟩) a6)
def gNil:TGs:=λvs ao H Q=>vs=[]/\Q ao H
def pw (t:TG) (u:TGs):TGs:=λvs ao H Q=>∃v r,vs=v::r/\t v ao H λa5 aH=>u r a5 aH Q
theorem me:PGs X [] gNil:=by
 intro aI s ao H vs us Q I r h;obtain⟨e,h⟩:=h;subst e;cases r;exact assignInOrder_nil ⟨ao,H,I,h⟩
theorem iO{e:Expr}{bg:List Expr}{t:TG}{u:TGs}(aN:PG X e t)(aQ:PGs X bg u)
  (a4:(assignEach (e::bg) X.env).map (·.2)=assign e X.env::(assignEach bg X.env).map (·.2):=by rfl):PGs X (e::bg) (pw t u):=by
 intro aI s ao H vs us Q I r h;obtain⟨v,A2,bb,h⟩:=h;subst bb;cases r with
 |cons r kF=>
  rw[a4];refine assignInOrder_cons (thn (aN aI s ao H _ _ _ I r h) λ_ s1 ⟨iP,aL,a_,bQ⟩=>?_);exact aQ aI s1 iP aL _ _ Q a_ kF bQ
def mf (K:Frag) (n:Nat) (t:TGs):TG:=λv ao H Q=>∃a xs,v= .ref a/\SqT K H a xs/\xs.length=n/\t xs ao H Q
theorem Zh4{bg:List Expr}{k:Nat}{t:TGs}{n:Nat}(aO:X.calm=true)(h:PGs X bg t)
  (a':(assignEach bg X.env).length=n:=by rfl) (en:(assignEach bg X.env).findIdx? (·.1)=none:=by rfl):PG X (.Tuple bg k pos) (mf X.K n t):=by
 intro aI s ao H v u Q I r hw;obtain⟨a,xs,bb,be,aK,hw⟩:=hw;subst bb;cases r;obtain⟨its,b2,bL,hz⟩:=I.tuple be;refine assign_Tuple_tuple (I.ok.hd aO) bL (by simp[a',<-aK,b2.length]) en λh' aV=>?_;have a_:Inv X aI ao H {s with heap:=h'}:=I.kept (t':=s.toks) λb o e=>aV b o (Qj (Heap.lt_size e)) e;exact h aI _ ao H xs _ Q a_ (by simpa using b2) hw
def px (to ti:TE) (t:Zey):TG:=λv ao H Q=>to ao H λo aL=>ti ao aL λi aY=>t o i v aY λbT=>Q ao bT
theorem ut{o i:Expr}{to ti:TE}{t:Zey}(bf:PE X o to)(aM:PE X i ti)(a4:Zit X t)
  (aS:∀v,assign (.Subscript o i pos) X.env v=(do
   let dz<-holding [v] (eval o X.env)
   let g4<-holding [v,dz] (eval i X.env)
   standAt pos
   holding [v,dz,g4] (setItem dz g4 v)
   release [v,dz,g4] []):=by intro _;rfl):PG X (.Subscript o i pos) (px to ti t):=by
 intro aI s ao H v u Q I r h;rw[aS];refine wpAny_bind (wpAny_holding (thn (bf aI s ao H _ I h) λdz s1 ⟨x,aL,a_,bK,bQ⟩=>?_));refine wpAny_bind (wpAny_holding (thn (aM aI s1 ao aL _ a_ bQ) λg4 bw ⟨y,aY,b9,cp,cQ⟩=>?_));refine wpAny_bind (wpAny_standAt (wpAny_bind (wpAny_holding (thn (a4 aI bw ao aY x y v dz g4 u _ b9 bK cp r cQ) λ_ bA ⟨bT,db,eW⟩=>?_))));exact wpAny_release ⟨ao,bT,db,eW⟩
def jz (bH:TE) (g:TG):TS:=λD ao H=>bH ao H λx aL=>g x ao aL D.nx
theorem uu{bN e:Expr}{bH:TE}{g:TG}(bn:PE X e bH)(br:PG X bN g)(a4:swapsWithSole [bN] e pos.line X.env=pure false:=by rfl)(hw:swappedStores [bN] e X.env=pure none:=by rfl)
  (aN:(assignEach [bN] X.env).map (·.2)=[assign bN X.env]:=by rfl):PS X (.Assign [bN] e pos) (jz bH g):=by
 intro aI s ao H D I h;refine wpAny_Assign_stores (thn (bn aI s ao H _ I h) λv s1 ⟨x,aL,a_,bK,bQ⟩=>?_) a4 hw;rw[aN];exact thn (br aI s1 ao aL x v _ a_ bK bQ) λ_ bw q=>q
theorem cf{i:Nat}{x:Str}{e:Expr}{bH:TE}{g5:Pos}(dN:X.N.Nodup)(aM:X.N[i]? =some x)(aV:Loc X.env.scope x)(bn:PE X e bH)(a4:swapsWith e (some (.Name x g5)) pos.line X.env=pure false:=by rfl)(a6:X.fn x=true\/X.env.scope.names.lookup x=some .local:=by first|exact .inl rfl|exact .inr rfl|assumption):
  PS X (.Assign [.Name x g5] e pos) (jz bH (Vb i)):=by
 intro aI s ao H D I h;refine wpAny_Assign_Name (thn (bn aI s ao H _ I h) λv s1 ⟨y,aL,a_,bK,bQ⟩=>?_) a4;exact pe a_ dN aM aV bK (λbw b9=>⟨_,aL,b9,bQ⟩) a6
end
section
variable {X:Cx}{pos:Pos}
def pz (c:TT) (bG:TS):TS:=λD ao H=>∃W:Nat->St->Hp->Prop,(∃m,W m ao H)/\∀m ao H,W m ao H->
 c ao H λb aL=>if b=true then ∃N:St->Hp->Prop,(∀a5 aH,N a5 aH->∃a9,a9<m/\W a9 a5 aH)/\bG {D with nx:=N,ct:=N,bk:=D.nx} ao aL else D.nx ao aL
theorem uv{c:Expr}{body:List Stmt}{b_:TT}{bG:TS}(aU:PassesOwn (model X.prog X.w) X.A X.env X.xe)(aO:PT X c b_)(aJ:PSs X body bG):PS X (.While c body [] pos) (pz b_ bG):=by
 intro aI s ao H D I h;obtain⟨W,⟨ho,hp⟩,turn⟩:=h;refine wpAny_While (codeAny_whileLoop (λn aX=>∃a5 aH,Inv X aI a5 aH aX/\W n a5 aH) ?_ ho ⟨ao,H,I,hp⟩);rintro n s1 ⟨iP,aL,a_,kG⟩;refine wpAny_passesOwn aU (thn (aO aI s1 iP aL _ a_ (turn n iP aL kG)) λb bw ⟨aY,b9,cQ⟩=>?_);cases b with
 |true=>
  obtain⟨N,dN,cQ⟩:=cQ;rw[if_pos rfl];refine wpAny_passesOwn aU (thn (aJ aI bw iP aY _ b9 cQ) λf bA eW=>?_);cases f with
  |next=>
   obtain⟨f3,bT,db,jA⟩:=eW;obtain⟨a9,aZ,jB⟩:=dN f3 bT jA;exact⟨a9,aZ,f3,bT,db,jB⟩
  |cont=>
   obtain⟨f3,bT,db,jA⟩:=eW;obtain⟨a9,aZ,jB⟩:=dN f3 bT jA;exact⟨a9,aZ,f3,bT,db,jB⟩
  |brk=>exact eW
  |ret v=>exact eW
 |false=>
  rw[if_neg Qg];exact wpAny_execs_nil ⟨iP,aY,b9,cQ⟩
end
structure It where
 go:Nat->Hp->Prop
 yld:Nat->Hp->V->Hp->Prop
 stop:Nat->Hp->Prop
def eo(X:Cx)(aI:List (Addr×Obj))(H:Hp)(b:Addr):Prop:=
 H b=none/\b≠X.env.locals/\b∉X.fs/\(b∈X.ex\/X.s₀.heap.objs.size<=b)/\(∀x c,X.env.cells.lookup x=some c->c≠b)/\∀p∈X.pn++aI,p.1≠b
theorem Inv.fpOk{X:Cx}{aI:List (Addr×Obj)}{ao:St}{H aH:Hp}{s:Shared}{b:Addr}(I:Inv X aI ao H s)(aJ:s.heap.objs.size<=b)(a':aH b=none):eo X aI aH b:=by
 refine⟨a',Nat.ne_of_gt (Qo I.lt aJ),I.nofs aJ,.inr (Qu I.sz aJ),λx c e z=>?_,λp aU z=>?_⟩
 .obtain⟨v,q⟩:=I.cell x c e;exact absurd (Qo q.lt (by rw[z];exact aJ)) (QZ _)
 .exact absurd (Qo (Heap.lt_size (I.pin p aU).1) (by rw[z];exact aJ)) (QZ _)
structure Ud(P:Program)(w:World)(K:Frag)(bN:Expr)(J:It)(fp:List Addr)(it:Addr)(b3:Nat->Heap->Prop):Prop where
 mem:it∈fp
 obj:∀i h,b3 i h->∀b∈fp,∃o,h.get? b=some o/\∀v,o.data≠ .cell v
 keep:∀i h h',b3 i h->(∀b∈fp,∀o,h.get? b=some o->h'.get? b=some o)->b3 i h'
 item:∀(X:Cx),X.prog=P->X.w=w->X.K=K->X.calm=true->∀(i:Nat)(aI:List (Addr×Obj))(s:Shared)(ao:St)(H:Hp)(E:Value->Shared->Prop),Inv X aI ao H s->(∀b∈fp,eo X aI H b)->b3 i s.heap->J.go i H->
  wpAny (model P w) X.A (pyNext (.ref it)) (λr s1=>∃u,r=some u/\
   wpAny (model P w) X.A (letOwnedTupleGo bN (.ref it) u) (λ_ bw=>∃x aH,Inv X aI ao aH bw/\bW x u/\J.yld i H x aH/\b3 (i+1) bw.heap/\∀b∈fp,aH b=none) E s1) E s
 done:∀(X:Cx),X.prog=P->X.w=w->X.K=K->X.calm=true->∀(i:Nat)(aI:List (Addr×Obj))(s:Shared)(ao:St)(H:Hp)(E:Value->Shared->Prop),Inv X aI ao H s->(∀b∈fp,eo X aI H b)->b3 i s.heap->J.stop i H->
  wpAny (model P w) X.A (pyNext (.ref it)) (λr s1=>r=none/\Inv X aI ao H s1) E s
 self:∀(A:Around)(i:Nat)(s:Shared)(Q:Value->Shared->Prop)(E:Value->Shared->Prop),b3 i s.heap->Q (.ref it) s->wpAny (model P w) A (pyIter (.ref it)) Q E s
noncomputable abbrev TI:=St->Hp->(It->Hp->Prop)->Prop
def PIE(X:Cx)(aI:List (Addr×Obj))(ao:St)(bN:Expr)(R:It->Hp->Prop)(iQ:Value)(bw:Shared):Prop:=
 ∃(it:Addr)(fp:List Addr)(b3:Nat->Heap->Prop)(J:It)(aH:Hp),iQ= .ref it/\Inv X aI ao aH bw/\Ud X.prog X.w X.K bN J fp it b3/\b3 0 bw.heap/\(∀b∈fp,eo X aI aH b)/\R J aH
def PI(X:Cx)(bN iter:Expr)(c5:TI):Prop:=
 ∀(aI:List (Addr×Obj))(s:Shared)(ao:St)(H:Hp)(R:It->Hp->Prop),Inv X aI ao H s->c5 ao H R->
  wpAny (model X.prog X.w) X.A (eval iter X.env) (λv s1=>wpAny (model X.prog X.w) X.A (pyIter v) (PIE X aI ao bN R) X.xe s1) X.xe s
theorem kH{M:Model}{A:Around}{E:Value->Shared->Prop}{s:Shared}{bN:Expr}{it:Addr}{u:Value}{o:Obj}{n:String}{vs:Array Value}{Q:Unit->Shared->Prop}(bf:s.heap.get? it=some o)(aO:o.cls= .type n)(hd:o.data= .fields vs)
  (a':["enumerate","zip","dict_itemiterator","dict_reverseitemiterator","odict_iterator","itertools.zip_longest","itertools.pairwise"].contains n=false) (cz:Q () s):wpAny M A (letOwnedTupleGo bN (.ref it) u) Q E s:=by
 unfold letOwnedTupleGo;cases bN<;>first
  |exact wpAny_pure cz
  |(cases u<;>first
    |exact wpAny_pure cz
    |(refine wpAny_bind (wpAny_load bf ?_)
      rw[aO,hd];show wpAny M A (if(["enumerate","zip","dict_itemiterator","dict_reverseitemiterator","odict_iterator","itertools.zip_longest","itertools.pairwise"].contains n&&vs[0]? ==some (rawInt _))=true then _ else _) Q E s;rw[if_neg (by intro h;rw[a',Bool.false_and] at h;cases h)];exact wpAny_pure cz))
noncomputable def Itl (K:Frag) (a:Addr):It:=
 ⟨λi H=>∃xs x,SqL K H a xs/\xs[i]? =some x,λi H x aH=>aH=H/\∀xs,SqL K H a xs->xs[i]? =some x,λi H=>∃xs,SqL K H a xs/\xs.length<=i⟩
noncomputable def Itt (K:Frag) (a:Addr):It:=
 ⟨λi H=>∃xs x,SqT K H a xs/\xs[i]? =some x,λi H x aH=>aH=H/\∀xs,SqT K H a xs->xs[i]? =some x,λi H=>∃xs,SqT K H a xs/\xs.length<=i⟩
noncomputable def Itr (lo:Int) (n:Nat):It:=⟨λi _=>i<n,λi H x aH=>aH=H/\x= .int (lo+i),λi _=>n<=i⟩
theorem uw{P:Program}{w:World}{K:Frag}{bN:Expr}(a it:Addr):Ud P w K bN (Itl K a) [it] it (λi h=>h.IsListIter it a i) where
 mem:=by simp
 obj:=λi h st b aJ=>by
  have e:b=it:=by simpa using aJ
  subst e;obtain⟨o,e,c,d⟩:=st;exact⟨o,e,λv z=>by rw[d] at z;cases z⟩
 keep:=λi h h' st k=>st.at λo e=>k it (by simp) o e
 item:=by
  intro X hP hw dP aO i aI s ao H E I a6 st br;subst hP hw dP;obtain⟨xs,x,be,aV⟩:=br;obtain⟨its,b2,p,hz⟩:=I.list be;obtain⟨u,hu,dt⟩:=b2.get aV;obtain⟨du,f1,f2,cF,c_,dn⟩:=a6 it (by simp);refine wpAny_pyNext_list_item st p.isList (x:=u) (by simpa using hu) λh' eP er=>?_;have a_:Inv X aI ao H {s with heap:=h'}:=I.turned (t':=s.toks) (λb o aJ e=>(er.2 b aJ).trans e) du f1 cF c_ dn;obtain⟨o,e,c,d⟩:=id eP;exact⟨u,rfl,kH (s:={s with heap:=h'}) e c d (by decide) ⟨x,H,a_,dt,⟨rfl,λys bt=>by rw[I.list_inj bt be];exact aV⟩,eP,λb aJ=>(a6 b aJ).1⟩⟩
 done:=by
  intro X hP hw dP aO i aI s ao H E I a6 st br;subst hP hw dP;obtain⟨xs,be,aV⟩:=br;obtain⟨its,b2,p,hz⟩:=I.list be;obtain⟨du,f1,f2,cF,c_,dn⟩:=a6 it (by simp);have aK:=b2.length;exact wpAny_pyNext_list_end (I.ok.hd aO) st p.isList (by simp;omega) λh' c2=>⟨rfl,I.turned (t':=s.toks) (λb o aJ e=>c2 b o aJ e) du f1 cF c_ dn⟩
 self:=λ_ _ _ _ _ st h=>wpAny_pyIter_listiter st h
theorem ux{P:Program}{w:World}{K:Frag}{bN:Expr}(a it:Addr):Ud P w K bN (Itt K a) [it] it (λi h=>h.IsTupleIter it a i) where
 mem:=by simp
 obj:=λi h st b aJ=>by
  have e:b=it:=by simpa using aJ
  subst e;obtain⟨o,e,c,d⟩:=st;exact⟨o,e,λv z=>by rw[d] at z;cases z⟩
 keep:=λi h h' st k=>st.at λo e=>k it (by simp) o e
 item:=by
  intro X hP hw dP aO i aI s ao H E I a6 st br;subst hP hw dP;obtain⟨xs,x,be,aV⟩:=br;obtain⟨its,b2,p,hz⟩:=I.tuple be;obtain⟨u,hu,dt⟩:=b2.get aV;obtain⟨du,f1,f2,cF,c_,dn⟩:=a6 it (by simp);refine wpAny_pyNext_tuple_item st (show s.heap.IsTuple a its.toArray from p) (x:=u) (by simpa using hu) λh' eP er=>?_;have a_:Inv X aI ao H {s with heap:=h'}:=I.turned (t':=s.toks) (λb o aJ e=>(er.2 b aJ).trans e) du f1 cF c_ dn;obtain⟨o,e,c,d⟩:=id eP;exact⟨u,rfl,kH (s:={s with heap:=h'}) e c d (by decide) ⟨x,H,a_,dt,⟨rfl,λys bt=>by rw[I.tuple_inj bt be];exact aV⟩,eP,λb aJ=>(a6 b aJ).1⟩⟩
 done:=by
  intro X hP hw dP aO i aI s ao H E I a6 st br;subst hP hw dP;obtain⟨xs,be,aV⟩:=br;obtain⟨its,b2,p,hz⟩:=I.tuple be;obtain⟨du,f1,f2,cF,c_,dn⟩:=a6 it (by simp);have aK:=b2.length;exact wpAny_pyNext_tuple_end (I.ok.hd aO) st (show s.heap.IsTuple a its.toArray from p) (by simp;omega) λh' c2=>⟨rfl,I.turned (t':=s.toks) (λb o aJ e=>c2 b o aJ e) du f1 cF c_ dn⟩
 self:=λ_ _ _ _ _ st h=>wpAny_pyIter_tupleiter st h
theorem uy{P:Program}{w:World}{K:Frag}{bN:Expr}(it:Addr)(lo:Int)(n:Nat):Ud P w K bN (Itr lo n) [it] it (λi h=>IsRangeIter h it (lo+(i:Nat)*1) ((n:Int)-(i:Nat)) 1) where
 mem:=by simp
 obj:=λi h st b aJ=>by
  have e:b=it:=by simpa using aJ
  subst e;exact⟨_,st,λv z=>by
   have d3:Data.fields _=Data.cell v:=z;cases d3⟩
 keep:=λi h h' st k=>k it (by simp) _ st
 item:=by
  intro X hP hw dP aO i aI s ao H E I a6 st br;subst hP hw dP;obtain⟨du,f1,f2,cF,c_,dn⟩:=a6 it (by simp);have W:=Walks.range (prog:=X.prog) (w:=X.w) (I.ok.hd aO) it lo 1 n;refine W.item i s _ _ br st λv h' cX bO eP uz=>?_;obtain⟨t,rfl⟩:=bO;have a_:Inv X aI ao H {s with heap:=h',toks:=cX}:=I.turned (λb o aJ e=>uz b o (by simpa using aJ) e) du f1 cF c_ dn;refine⟨_,rfl,kH (s:={s with heap:=h',toks:=cX}) (n:="range_iterator") eP rfl rfl (by decide) ⟨.int (lo+i),H,a_,⟨t,?_⟩,⟨rfl,rfl⟩,eP,λb aJ=>(a6 b aJ).1⟩⟩;rw[Int.mul_one]
 done:=by
  intro X hP hw dP aO i aI s ao H E I a6 st br;subst hP hw dP;obtain⟨du,f1,f2,cF,c_,dn⟩:=a6 it (by simp);exact wpAny_pyNext_range_end (I.ok.hd aO) st (by have:n<=i:=br;omega) λh' c2=>⟨rfl,I.turned (t':=s.toks) (λb o aJ e=>c2 b o aJ e) du f1 cF c_ dn⟩
 self:=λ_ _ _ _ _ st h=>wpAny_pyIter_rangeiter st h
section
variable {X:Cx}{bN:Expr}
def mh (K:Frag) (tl:TE):TI:=λao H R=>tl ao H λx aL=>∃a,x= .ref a/\(∃xs,SqL K aL a xs)/\R (Itl K a) aL
def hU (K:Frag) (tl:TE):TI:=λao H R=>tl ao H λx aL=>∃a,x= .ref a/\(∃xs,SqT K aL a xs)/\R (Itt K a) aL
theorem Zhn{l:Expr}{tl:TE}(aK:PE X l tl):PI X bN l (mh X.K tl):=by
 intro aI s ao H R I h;refine thn (aK aI s ao H _ I h) λv s1 ⟨x,aL,a_,bK,bQ⟩=>?_;obtain⟨a,e,⟨xs,be⟩,q⟩:=bQ;subst e;cases bK;obtain⟨its,b2,p,hz⟩:=a_.list be;refine wpAny_pyIter_list p.isList ?_;refine⟨s1.heap.objs.size,[s1.heap.objs.size],_,_,aL,rfl,a_.kept (t':=s1.toks) λb o e=>Heap.get?_push_of_some _ e,uw a _,⟨_,Heap.get?_push_size _ rfl,rfl,rfl⟩,λb aJ=>?_,q⟩;have e:b=s1.heap.objs.size:=by simpa using aJ
 subst e;exact a_.fpOk (Qb _) (a_.hok.fresh (Qb _))
theorem Zie{l:Expr}{tl:TE}(aK:PE X l tl):PI X bN l (hU X.K tl):=by
 intro aI s ao H R I h;refine thn (aK aI s ao H _ I h) λv s1 ⟨x,aL,a_,bK,bQ⟩=>?_;obtain⟨a,e,⟨xs,be⟩,q⟩:=bQ;subst e;cases bK;obtain⟨its,b2,p,hz⟩:=a_.tuple be;refine wpAny_pyIter_tuple (show s1.heap.IsTuple a its.toArray from p) ?_;refine⟨s1.heap.objs.size,[s1.heap.objs.size],_,_,aL,rfl,a_.kept (t':=s1.toks) λb o e=>Heap.get?_push_of_some _ e,ux a _,⟨_,Heap.get?_push_size _ rfl,rfl,rfl⟩,λb aJ=>?_,q⟩;have e:b=s1.heap.objs.size:=by simpa using aJ
 subst e;exact a_.fpOk (Qb _) (a_.hok.fresh (Qb _))
theorem uA{aI:List (Addr×Obj)}{ao:St}{H:Hp}{s:Shared}{R:It->Hp->Prop}{E:Value->Shared->Prop}{lo aM:Int}{t u v:Tok}{cX:Nat}(I:Inv X aI ao H s)(aN: -(2 ^ 62)<=lo)(aQ:lo<2 ^ 62)(bJ: -(2 ^ 62)<=aM)(cx:aM<2 ^ 62)
  (q:R (Itr lo (aM-lo).toNat) H):wpAny (model X.prog X.w) X.A (pyIter (.ref s.heap.objs.size)) (PIE X aI ao bN R) E {s with heap:=s.heap.push {cls:= .type "range",data:= .fields #[.int lo t,.int aM u,.int 1 v]},toks:=cX}:=by
 refine wpAny_pyIter_range (IsRange.new ..) (small_one aN aQ bJ cx) ?_;have a_:Inv X aI ao H {s with heap:=s.heap.push {cls:= .type "range",data:= .fields #[.int lo t,.int aM u,.int 1 v]},toks:=cX}:=I.kept λb o e=>Heap.get?_push_of_some _ e;refine⟨(s.heap.push {cls:= .type "range",data:= .fields #[.int lo t,.int aM u,.int 1 v]}).objs.size,[(s.heap.push {cls:= .type "range",data:= .fields #[.int lo t,.int aM u,.int 1 v]}).objs.size],_,_,H,rfl,
  a_.kept (t':=cX) λb o e=>Heap.get?_push_of_some _ e,uy _ lo (aM-lo).toNat,?_,λb aJ=>?_,q⟩
 .have bb:lo+((0:Nat):Int)*1=lo:=by simp
  have bh:(((aM-lo).toNat:Nat):Int)-((0:Nat):Int)=Builtin.Range.rangeSize lo aM 1:=by rw[rangeSize_one];split<;>omega
  show IsRangeIter _ _ (lo+((0:Nat):Int)*1) ((((aM-lo).toNat:Nat):Int)-((0:Nat):Int)) 1;rw[bb,bh];exact Heap.get?_push_size _ rfl
 .have e:b=(s.heap.push {cls:= .type "range",data:= .fields #[.int lo t,.int aM u,.int 1 v]}).objs.size:=by simpa using aJ
  subst e;exact a_.fpOk (Qb _) (a_.hok.fresh (Qb _))
def pA (bc:TA):TI:=λao H R=>bc ao H λvs aL=>∃j:Int,vs=[.int j]/\ -(2 ^ 62)<=j/\j<2 ^ 62/\R (Itr 0 j.toNat) aL
theorem hV{a:Expr}{bc:TA}{p pos:Pos}(br:Gl X "range")(aZ:X.mg "range" =none)(aS:PA X [a] bc)(a4:starEach [a] X.env=[(false,eval a X.env)]:=by rfl):PI X bN (.Call (.Name "range" p) [a] [] pos) (pA bc):=by
 intro aI s ao H R I h;refine Call_ (jw I br aZ boot_range (Jl (thn (aS pos aI s ao H _ I h) λus s1 ⟨vs,aL,a_,bK,bQ⟩=>?_) a4 rfl));obtain⟨j,e,bQ,cQ,q⟩:=bQ;subst e;cases bK with
 |cons r kF=>
  cases kF;obtain⟨t,rfl⟩:=r;exact call_range_1 (uA a_ (by omega) (by omega) bQ cQ (by simpa using q))
def pB (c5:TI) (g:TG) (bG:TS):TS:=λD ao H=>c5 ao H λJ aL=>∃W:Nat->Nat->St->Hp->Prop,(∃m,W 0 m ao aL)/\∀i m ao H,W i m ao H->
 (J.stop i H/\D.nx ao H)\/(J.go i H/\∃N:St->Hp->Prop,(∀a5 aH,N a5 aH->∃a9,a9<m/\W (i+1) a9 a5 aH)/\∀x aH,J.yld i H x aH->g x ao aH λci aY=>bG {D with nx:=N,ct:=N,bk:=D.nx} ci aY)
noncomputable def VY (fp:List Addr) (h:Heap):List (Addr×Obj):=fp.filterMap λb=>(h.get? b).map λo=>(b,o)
theorem iR{fp:List Addr}{h:Heap}{b:Addr}{o:Obj}(aJ:b∈fp)(e:h.get? b=some o):(b,o)∈VY fp h:=QY.mpr ⟨b,aJ,by rw[e];rfl⟩
theorem ZfC{fp:List Addr}{h:Heap}{p:Addr×Obj}(aU:p∈VY fp h):p.1∈fp/\h.get? p.1=some p.2:=by
 obtain⟨b,aJ,e⟩:=QY.mp aU;cases q:h.get? b with
 |none=>rw[q] at e;cases e
 |some o=>
  rw[q] at e;have bq:(b,o)=p:=Qt e;subst bq;exact⟨aJ,q⟩
theorem Inv.pinned{aI:List (Addr×Obj)}{ao:St}{H:Hp}{s:Shared}{fp:List Addr}(I:Inv X aI ao H s)(a6:∀b∈fp,eo X aI H b)(bf:∀b∈fp,∃o,s.heap.get? b=some o/\∀v,o.data≠ .cell v):Inv X (aI++VY fp s.heap) ao H s:=
 I.pins_of λp aU=>(QJ.mp aU).elim (λz=>I.pin p (Qh _ z)) λz=>by
  obtain⟨aJ,e⟩:=ZfC z;obtain⟨du,f1,f2,_⟩:=a6 p.1 aJ;obtain⟨o,bq,d⟩:=bf p.1 aJ;rw[e] at bq;cases bq;exact⟨e,du,f1,f2,d⟩
theorem Inv.unpinned{aI pl:List (Addr×Obj)}{ao:St}{H:Hp}{s:Shared}(I:Inv X (aI++pl) ao H s):Inv X aI ao H s:=I.pins_of λp aU=>I.pin p (Qh _ (Q9 _ aU))
theorem fw{iter:Expr}{body:List Stmt}{c5:TI}{g:TG}{bG:TS}{pos:Pos}(aU:PassesOwn (model X.prog X.w) X.A X.env X.xe)(aO:X.calm=true)(aM:PI X bN iter c5)(br:PG X bN g)(aJ:PSs X body bG)
  (a4:∀x,foldedSetIterable iter X.env x=pure x:=by intro _;rfl):PS X (.For bN iter body [] pos) (pB c5 g bG):=by
 intro aI s ao H D I h;refine wpAny_For (thn (aM aI s ao H _ I h) λv s1 aN=>thn aN λiQ bw aQ=>?_) a4;obtain⟨it,fp,b3,J,aY,e,b9,T,g6,f2,W,⟨ho,hp⟩,turn⟩:=aQ;subst e;have mi:∀{aH:Hp},(∀b∈fp,aH b=none)->∀b∈fp,eo X aI aH b:=λa' b aJ=>⟨a' b aJ,(f2 b aJ).2⟩;refine codeAny_forLoop_any (λn aX=>∃i a5 aH,Inv X aI a5 aH aX/\b3 i aX.heap/\(∀b∈fp,aH b=none)/\W i n a5 aH) ?_ ho ⟨0,ao,aY,b9,g6,λb aJ=>(f2 b aJ).1,hp⟩;rintro n bA ⟨i,f3,bT,db,hq,pC,jB⟩;rcases turn i n f3 bT jB with⟨stop,hW⟩|⟨go,N,dN,step⟩
 .refine wpAny_passesOwn aU (thn (T.done X rfl rfl rfl aO i aI bA f3 bT X.xe db (mi pC) hq stop) λr b4 ⟨aR,jC⟩=>?_);subst aR;exact wpAny_execs_nil ⟨f3,bT,jC,hW⟩
 .refine wpAny_passesOwn aU (thn (T.item X rfl rfl rfl aO i aI bA f3 bT X.xe db (mi pC) hq go) λr b4 ⟨u,aR,cx⟩=>?_);subst aR;refine wpAny_passesOwn aU (thn cx λ_ b5 ⟨x,bM,hX,mj,uB,g7,fx⟩=>?_);have uC:=hX.pinned (mi fx) (T.obj _ _ g7);refine wpAny_passesOwn aU (thn (br _ b5 f3 bM x u _ uC mj (step x bM uB)) λ_ cY ⟨uD,dv,eX,uE⟩=>?_);refine wpAny_passesOwn aU (thn (aJ _ cY uD dv _ eX uE) λf cR hr=>?_);have again:∀{f4:St}{cs:Hp},Inv X (aI++VY fp b5.heap) f4 cs cR->N f4 cs->∃m,m<n/\∃i a5 aH,Inv X aI a5 aH cR/\b3 i cR.heap/\(∀b∈fp,aH b=none)/\W i m a5 aH:=λ{f4 cs} eY gB=>by
   obtain⟨a9,aZ,uF⟩:=dN f4 cs gB;refine⟨a9,aZ,i+1,f4,cs,eY.unpinned,T.keep _ _ _ g7 λb aJ o e=>(eY.pin (b,o) (Qh _ (Qh _ (iR aJ e)))).1,λb aJ=>?_,uF⟩;obtain⟨o,e,d⟩:=T.obj _ _ g7 b aJ;exact(eY.pin (b,o) (Qh _ (Qh _ (iR aJ e)))).2.1
  cases f with
  |next=>obtain⟨f4,cs,eY,gB⟩:=hr;exact again eY gB
  |cont=>obtain⟨f4,cs,eY,gB⟩:=hr;exact again eY gB
  |brk=>obtain⟨f4,cs,eY,hr⟩:=hr;exact⟨f4,cs,eY.unpinned,hr⟩
  |ret v=>obtain⟨x7,f4,cs,eY,jD,hr⟩:=hr;exact⟨x7,f4,cs,eY.unpinned,jD,hr⟩
end
theorem Wk{lo:Int}{n:Nat}{g:TG}{bG:TS}{D:Wj}{ao:St}{H:Hp}(Pv:Nat->St->Hp->Prop)(ce:Pv 0 ao H)
  (a4:∀i ao H,i<n->Pv i ao H->g (.int (lo+i)) ao H λci aY=>bG {D with nx:=Pv (i+1),ct:=Pv (i+1),bk:=D.nx} ci aY) (hd:∀ao H,Pv n ao H->D.nx ao H):
  ∃W:Nat->Nat->St->Hp->Prop,(∃m,W 0 m ao H)/\∀i m ao H,W i m ao H->
   ((Itr lo n).stop i H/\D.nx ao H)\/((Itr lo n).go i H/\∃N:St->Hp->Prop,(∀a5 aH,N a5 aH->∃a9,a9<m/\W (i+1) a9 a5 aH)/\∀x aH,(Itr lo n).yld i H x aH->g x ao aH λci aY=>bG {D with nx:=N,ct:=N,bk:=D.nx} ci aY):=by
 refine⟨λi m ao H=>m=n-i/\i<=n/\Pv i ao H,⟨n,by simp,Qn _,ce⟩,?_⟩;rintro i m ao H ⟨rfl,aM,p⟩
 by_cases cG:i<n
 .refine .inr ⟨cG,Pv (i+1),λa5 aH cB=>⟨n-(i+1),by omega,rfl,cG,cB⟩,λx aH y=>?_⟩;obtain⟨e,y⟩:=y;subst e y;exact a4 i ao _ cG p
 .have e:i=n:=by omega
  subst e;exact .inl ⟨Qb _,hd ao H p⟩
noncomputable abbrev R2:=V->V->Hp->VK->Prop
def OpR(X:Cx)(f:Value->Value->Sem Value)(r:R2):Prop:=
 ∀(aI:List (Addr×Obj))(s:Shared)(ao:St)(H:Hp)(x y:V)(v u:Value)(Q:VK),Inv X aI ao H s->bW x v->bW y u->r x y H Q->
  wpAny (model X.prog X.w) X.A (f v u) (EP X aI ao Q) X.xe s
def Yk(X:Cx)(f:Value)(r:List V->Hp->VK->Prop):Prop:=
 ∀(aI:List (Addr×Obj))(s:Shared)(ao:St)(H:Hp)(xs:List V)(us:List Value)(Q:VK),Inv X aI ao H s->bD xs us->r xs H Q->
  wpAny (model X.prog X.w) X.A (call f us) (EP X aI ao Q) X.xe s
def ZjK(X:Cx)(r:V->Hp->(Bool->Hp->Prop)->Prop):Prop:=
 ∀(aI:List (Addr×Obj))(s:Shared)(ao:St)(H:Hp)(x:V)(v:Value)(Q:Bool->Hp->Prop),Inv X aI ao H s->bW x v->r x H Q->
  wpAny (model X.prog X.w) X.A (truthy v) (TP X aI ao Q) X.xe s
def tOp (r:R2) (bc bG:TE):TE:=λao H Q=>bc ao H λx aL=>bG ao aL λy aY=>r x y aY Q
def rI (C:Int->Int->Prop) (g:Int->Int->V):R2:=λx y H Q=>∃i j,x= .int i/\y= .int j/\C i j/\Q (g i j) H
def rI0 (g:Int->Int->V):R2:=λx y H Q=>∃i j,x= .int i/\y= .int j/\Q (g i j) H
section
variable {X:Cx}{a b c:Expr}{bc bG b_:TE}{pos:Pos}
theorem ml(aS:PE X a bc)(aJ:PE X b bG){aI:List (Addr×Obj)}{s:Shared}{ao:St}{H:Hp}{R:V->V->Hp->Prop}(I:Inv X aI ao H s)
  (h:bc ao H λx aL=>bG ao aL λy aY=>R x y aY) {Q:Value->Shared->Prop} {f:Value->Value->Sem Value}
  (a6:∀v u bw x y aY,Inv X aI ao aY bw->bW x v->bW y u->R x y aY->wpAny (model X.prog X.w) X.A (f v u) Q X.xe bw):
  wpAny (model X.prog X.w) X.A (eval a X.env) (λv cr=>wpAny (model X.prog X.w) X.A (eval b X.env) (λu iM=>wpAny (model X.prog X.w) X.A (f v u) Q X.xe iM) X.xe cr) X.xe s:=by
 refine thn (aS aI s ao H _ I h) λv s1 ⟨x,aL,a_,bK,bQ⟩=>?_;refine thn (aJ aI s1 ao aL _ a_ bQ) λu bw ⟨y,aY,b9,cp,cQ⟩=>?_;exact a6 v u bw x y aY b9 bK cp cQ
theorem bo{op:Operator}{r:R2}(bf:OpR X (binaryOp op) r)(aS:PE X a bc)(aJ:PE X b bG):PE X (.BinOp a op b pos) (tOp r bc bG):=by
 intro aI s ao H Q I h;exact wpAny_BinOp (ml aS aJ I h λv u bw x y aY b9 a8 bj q=>bf aI bw ao aY x y v u Q b9 a8 bj q)
theorem opI{f:Value->Value->Sem Value}{C:Int->Int->Prop}{g:Int->Int->Int}
  (rule:∀(i j:Int)(t u:Tok)(s:Shared)(Q:Value->Shared->Prop)(E:Value->Shared->Prop),C i j->Q (.int (g i j) s.toks) {s with toks:=s.toks+1}->wpAny (model X.prog X.w) X.A (f (.int i t) (.int j u)) Q E s):
  OpR X f (rI C λi j=> .int (g i j)):=by
 intro aI s ao H x y v u Q I a8 bj h;obtain⟨i,j,rfl,rfl,aO,q⟩:=h;obtain⟨t,rfl⟩:=a8;obtain⟨t',rfl⟩:=bj;exact rule i j t t' s _ _ aO ⟨.int (g i j),H,I.tok _,⟨_,rfl⟩,q⟩
theorem ZhW{f:Value->Value->Sem Value}{g:Int->Int->Int}
  (rule:∀(i j:Int)(t u:Tok)(s:Shared)(Q:Value->Shared->Prop)(E:Value->Shared->Prop),Q (.int (g i j) s.toks) {s with toks:=s.toks+1}->wpAny (model X.prog X.w) X.A (f (.int i t) (.int j u)) Q E s):
  OpR X f (rI0 λi j=> .int (g i j)):=by
 intro aI s ao H x y v u Q I a8 bj h;obtain⟨i,j,rfl,rfl,q⟩:=h;obtain⟨t,rfl⟩:=a8;obtain⟨t',rfl⟩:=bj;exact rule i j t t' s _ _ ⟨.int (g i j),H,I.tok _,⟨_,rfl⟩,q⟩
theorem ZeP{f:Value->Value->Sem Value}{g:Int->Int->Bool}
  (rule:∀(i j:Int)(t u:Tok)(s:Shared)(Q:Value->Shared->Prop)(E:Value->Shared->Prop),Q (.bool (g i j)) s->wpAny (model X.prog X.w) X.A (f (.int i t) (.int j u)) Q E s):
  OpR X f (rI0 λi j=> .bl (g i j)):=by
 intro aI s ao H x y v u Q I a8 bj h;obtain⟨i,j,rfl,rfl,q⟩:=h;obtain⟨t,rfl⟩:=a8;obtain⟨t',rfl⟩:=bj;exact rule i j t t' s _ _ ⟨.bl (g i j),H,I,rfl,q⟩
def Zid(i j:Int):Prop:=0<=j/\j<=1000000/\i.natAbs<2 ^ 64
def Ze6(i j:Int):Prop:=(-(2 ^ 64)<i/\i<2 ^ 64)\/(-(2 ^ 64)<j/\j<2 ^ 64)
theorem Ze6.ok{i j:Int}(h:Ze6 i j):IntMulOk i j:=by
 rcases h with⟨aN,aQ⟩|⟨aN,aQ⟩
 .exact .of_left (intBits_le_64 aN aQ)
 .exact .of_right (intBits_le_64 aN aQ)
theorem uG:OpR X (binaryOp .Add) (rI0 λi j=> .int (i+j)):=ZhW λ_ _ _ _ _ _ _ q=>add_int q
theorem g8:OpR X (binaryOp .Sub) (rI0 λi j=> .int (i-j)):=ZhW λ_ _ _ _ _ _ _ q=>sub_int q
theorem dj:OpR X (binaryOp .Mod) (rI (λ_ j=>0<j) λi j=> .int (i % j)):=opI λi j _ _ _ _ _ aO q=>by
 have aN:(0:Int)<j:=aO;exact mod_int' (by omega) (by rw[Int.fmod_eq_emod_of_nonneg i (by omega)];exact q)
theorem hY:OpR X (binaryOp .Pow) (rI Zid λi j=> .int (i ^ j.toNat)):=opI λ_ _ _ _ _ _ _ aO q=>pow_int_small aO.1 aO.2.1 aO.2.2 q
end
noncomputable def pD:V->V->Bool
 | .non,.non=>true| .non,.int _=>true| .int _,.non=>true| .non,.bl _=>true| .bl _,.non=>true| .non,.str _=>true| .str _,.non=>true
 | .int _,.int _=>true| .bl _,.bl _=>true| .str _,.str _=>true| .byt _,.byt _=>true
 | .int _,.str _=>true| .str _,.int _=>true| .bl _,.str _=>true| .str _,.bl _=>true
 |_,_=>false
def rEq:R2:=λx y H Q=>pD x y=true/\Q (.bl (decide (x=y))) H
def rNe:R2:=λx y H Q=>pD x y=true/\Q (.bl (!decide (x=y))) H
theorem Zd5{i j:Int}:decide (V.int i=V.int j)=(i==j):=by
 rw[Q2];simp
theorem Zfz{i j:Bool}:decide (V.bl i=V.bl j)=(i==j):=by
 rw[Q2];simp
theorem ZdY{i j:Str}:decide (V.str i=V.str j)=(i==j):=by
 rw[Q2];simp
theorem Zd9{i j:Array UInt8}:decide (V.byt i=V.byt j)=(i.toList==j.toList):=by
 rw[Q2];cases i;cases j;simp
section
variable {X:Cx}{a b c:Expr}{bc bG b_:TE}{pos:Pos}
theorem dk{aI:List (Addr×Obj)}{ao:St}{H:Hp}{s:Shared}{Q:VK}{k eF:Bool}(I:Inv X aI ao H s)(q:Q (.bl k) H)(e:k=eF):EP X aI ao Q (.bool eF) s:=by
 subst e;exact⟨.bl k,H,I,rfl,q⟩
theorem uH:OpR X (compareOp .Eq) rEq:=by
 intro aI s ao H x y v u Q I a8 bj h;obtain⟨a4,q⟩:=h;cases x with
 |non=>
  cases a8;cases y with
  |non=>cases bj;exact PySem.EqNone.eq_none_none (dk I q (by simp))
  |bl j=>cases bj;exact PySem.EqNone.eq_none_bool (dk I q (by simp))
  |int j=>obtain⟨t',rfl⟩:=bj;exact PySem.EqNone.eq_none_int (dk I q (by simp))
  |str j=>obtain⟨t',rfl⟩:=bj;exact PySem.EqNone.eq_none_str (dk I q (by simp))
  |_=>exact absurd (show false=true from a4) Qg
 |bl i=>
  cases a8;cases y with
  |non=>cases bj;exact PySem.EqNone.eq_bool_none (dk I q (by simp))
  |bl j=>cases bj;exact eq_bool (dk I q Zfz)
  |str j=>obtain⟨t',rfl⟩:=bj;exact PySem.EqMixed.eq_bool_str (dk I q (by simp))
  |_=>exact absurd (show false=true from a4) Qg
 |int i=>
  obtain⟨t,rfl⟩:=a8;cases y with
  |non=>cases bj;exact PySem.EqNone.eq_int_none (dk I q (by simp))
  |int j=>obtain⟨t',rfl⟩:=bj;exact eq_int (dk I q Zd5)
  |str j=>obtain⟨t',rfl⟩:=bj;exact PySem.EqMixed.eq_int_str (dk I q (by simp))
  |_=>exact absurd (show false=true from a4) Qg
 |str i=>
  obtain⟨t,rfl⟩:=a8;cases y with
  |non=>cases bj;exact PySem.EqNone.eq_str_none (dk I q (by simp))
  |bl j=>cases bj;exact PySem.EqMixed.eq_str_bool (dk I q (by simp))
  |int j=>obtain⟨t',rfl⟩:=bj;exact PySem.EqMixed.eq_str_int (dk I q (by simp))
  |str j=>obtain⟨t',rfl⟩:=bj;exact eq_str (dk I q ZdY)
  |_=>exact absurd (show false=true from a4) Qg
 |byt i=>
  obtain⟨t,rfl⟩:=a8;cases y with
  |byt j=>obtain⟨t',rfl⟩:=bj;exact PySem.W.eq_bytes (dk I q Zd9)
  |_=>exact absurd (show false=true from a4) Qg
 |_=>cases y<;>exact absurd (show false=true from a4) Qg
theorem uI:OpR X (compareOp .NotEq) rNe:=by
 intro aI s ao H x y v u Q I a8 bj h;obtain⟨a4,q⟩:=h;cases x with
 |non=>
  cases a8;cases y with
  |non=>cases bj;exact PySem.EqNone.ne_none_none (dk I q (by simp))
  |bl j=>cases bj;exact PySem.EqNone.ne_none_bool (dk I q (by simp))
  |int j=>obtain⟨t',rfl⟩:=bj;exact PySem.EqNone.ne_none_int (dk I q (by simp))
  |str j=>obtain⟨t',rfl⟩:=bj;exact PySem.EqNone.ne_none_str (dk I q (by simp))
  |_=>exact absurd (show false=true from a4) Qg
 |bl i=>
  cases a8;cases y with
  |non=>cases bj;exact PySem.EqNone.ne_bool_none (dk I q (by simp))
  |bl j=>cases bj;exact ne_bool (dk I q (congrArg not Zfz))
  |str j=>obtain⟨t',rfl⟩:=bj;exact PySem.EqMixed.ne_bool_str (dk I q (by simp))
  |_=>exact absurd (show false=true from a4) Qg
 |int i=>
  obtain⟨t,rfl⟩:=a8;cases y with
  |non=>cases bj;exact PySem.EqNone.ne_int_none (dk I q (by simp))
  |int j=>obtain⟨t',rfl⟩:=bj;exact ne_int (dk I q (congrArg not Zd5))
  |str j=>obtain⟨t',rfl⟩:=bj;exact PySem.EqMixed.ne_int_str (dk I q (by simp))
  |_=>exact absurd (show false=true from a4) Qg
 |str i=>
  obtain⟨t,rfl⟩:=a8;cases y with
  |non=>cases bj;exact PySem.EqNone.ne_str_none (dk I q (by simp))
  |bl j=>cases bj;exact PySem.EqMixed.ne_str_bool (dk I q (by simp))
  |int j=>obtain⟨t',rfl⟩:=bj;exact PySem.EqMixed.ne_str_int (dk I q (by simp))
  |str j=>obtain⟨t',rfl⟩:=bj;exact ne_str (dk I q (congrArg not ZdY))
  |_=>exact absurd (show false=true from a4) Qg
 |byt i=>
  obtain⟨t,rfl⟩:=a8;cases y with
  |byt j=>obtain⟨t',rfl⟩:=bj;exact PySem.W.ne_bytes (dk I q (congrArg not Zd9))
  |_=>exact absurd (show false=true from a4) Qg
 |_=>cases y<;>exact absurd (show false=true from a4) Qg
theorem jE:OpR X (compareOp .Lt) (rI0 λi j=> .bl (decide (i<j))):=ZeP λ_ _ _ _ _ _ _ q=>lt_int q
theorem pE:OpR X (compareOp .LtE) (rI0 λi j=> .bl (decide (i<=j))):=ZeP λ_ _ _ _ _ _ _ q=>le_int q
theorem iS:OpR X (compareOp .Gt) (rI0 λi j=> .bl (decide (j<i))):=ZeP λ_ _ _ _ _ _ _ q=>gt_int q
theorem mm:OpR X (compareOp .GtE) (rI0 λi j=> .bl (decide (j<=i))):=ZeP λ_ _ _ _ _ _ _ q=>ge_int q
theorem OpR.or{f:Value->Value->Sem Value}{r b7:R2}(h:OpR X f r)(h':OpR X f b7):OpR X f (λx y H Q=>r x y H Q\/b7 x y H Q):=by
 intro aI s ao H x y v u Q I a8 bj q;rcases q with q|q
 .exact h aI s ao H x y v u Q I a8 bj q
 .exact h' aI s ao H x y v u Q I a8 bj q
theorem cy(b:Expr){op:CmpOp}(h:op≠ .In:=by decide)(aQ:op≠ .NotIn:=by decide):behindInMarks op b=false:=by
 have bb:(op==CmpOp.In)=false:=by cases op<;>first|rfl|exact absurd rfl h
 have bh:(op==CmpOp.NotIn)=false:=by cases op<;>first|rfl|exact absurd rfl aQ
 cases b<;>simp[behindInMarks,bb,bh]
theorem hs{op:CmpOp}{r:R2}(bf:OpR X (compareOp op) r)(aS:PE X a bc)(aJ:PE X b bG)(aZ:behindInMarks op b=false):PE X (.Compare a [op] [b] pos) (tOp r bc bG):=by
 intro aI s ao H Q I h;exact wpAny_Compare1 (ml aS aJ I h λv u bw x y aY b9 a8 bj q=>bf aI bw ao aY x y v u Q b9 a8 bj q) aZ
def pF (t:TE):TT:=λao H Q=>t ao H λx aH=>∃k,x= .bl k/\Q k aH
theorem cH{op:CmpOp}{r:R2}(bf:OpR X (compareOp op) r)(aS:PE X a bc)(aJ:PE X b bG)(aZ:behindInMarks op b=false):PT X (.Compare a [op] [b] pos) (pF (tOp r bc bG)):=by
 intro aI s ao H Q I h;refine wpAny_isTrue_Compare1 (thn (aS aI s ao H _ I h) λv s1 ⟨x,aL,a_,bK,bQ⟩=>thn (aJ aI s1 ao aL _ a_ bQ) λu bw ⟨y,aY,b9,cp,cQ⟩=>
  thn (bf aI bw ao aY x y v u _ b9 bK cp cQ) λc bA ⟨z,bT,db,hZ,k,e,eW⟩=>?_) aZ
 subst e;cases hZ;exact wpAny_truthy_bool ⟨bT,db,eW⟩
def pG (r b7:R2) (bc bG b_:TE):TE:=λao H Q=>bc ao H λx aL=>bG ao aL λy aY=>r x y aY λz bT=>∃k,z= .bl k/\
 (if k=true then b_ ao bT λd7 bx=>b7 y d7 bx Q else Q (.bl false) bT)
theorem pH{op mn:CmpOp}{r b7:R2}(bf:OpR X (compareOp op) r)(gY:OpR X (compareOp mn) b7)(aS:PE X a bc)(aJ:PE X b bG)(aO:PE X c b_)
  (aZ:lastMarks [op,mn] [b,c]=false:=by with_unfolding_all rfl):PE X (.Compare a [op,mn] [b,c] pos) (pG r b7 bc bG b_):=by
 intro aI s ao H Q I h;refine Compare_chain (thn (aS aI s ao H _ I h) λv s1 ⟨x,aL,a_,bK,bQ⟩=>chain_link (thn (aJ aI s1 ao aL _ a_ bQ) λu bw ⟨y,aY,b9,cp,cQ⟩=>
  thn (bf aI bw ao aY x y v u _ b9 bK cp cQ) λd bA ⟨z,bT,db,hZ,k,e,eW⟩=>?_)) aZ
 subst e;cases hZ;refine wpAny_truthy_bool ?_;cases k with
 |false=>exact ite_ff ⟨.bl false,bT,db,rfl,eW⟩
 |true=>exact ite_tt (chain_last (thn (aO aI bA ao bT _ db eW) λd7 b4 ⟨d3,bx,jC,mo,uJ⟩=>gY aI b4 ao bx y d3 u d7 Q jC cp mo uJ))
def jF(K:Frag)(x:V)(H:Hp)(k:Bool):Prop:=
 match x with
 | .non=>k=false
 | .bl b=>k=b
 | .int i=>k=(i != 0)
 | .str y=>y.length<=sizeLine/\k=((y.length:Int) != 0)
 | .byt y=>y.size<=sizeLine/\k=((y.size:Int) != 0)
 | .ref p=>(∃xs,SqL K H p xs/\k= !xs.isEmpty)\/(∃xs,SqT K H p xs/\k= !xs.isEmpty)\/∃kvs,H p=some (.dK kvs)/\k= !kvs.isEmpty
 |_=>False
theorem Zew{κ:Type}{kvs:List (κ×V)}{vs:List (κ×Value)}(r:KV kvs vs):(!vs.isEmpty)= !kvs.isEmpty:=by
 cases r<;>rfl
theorem Za4{xs:List V}{its:List Value}(r:bD xs its):(!its.toArray.isEmpty)= !xs.isEmpty:=by
 cases r<;>simp
theorem jG:(sizeLine:Nat)<2 ^ 63:=by rw[sizeLine_eq];decide
theorem uK:ZjK X (λx H Q=>∃k,jF X.K x H k/\Q k H):=by
 intro aI s ao H x v Q I a8 h;obtain⟨k,e,q⟩:=h;have aK:=jG;have a4:sizeLine=16777216:=sizeLine_eq;cases x with
 |non=>
  cases a8;have bq:k=false:=e;subst bq;exact truthy_none ⟨H,I,q⟩
 |bl b=>
  cases a8;have bq:k=b:=e;subst bq;exact wpAny_truthy_bool ⟨H,I,q⟩
 |int i=>
  obtain⟨t,rfl⟩:=a8;have bq:k=(i != 0):=e;subst bq;exact PySem.P.truthy_int ⟨H,I,q⟩
 |str y=>
  obtain⟨t,rfl⟩:=a8;obtain⟨bt,bq⟩:y.length<=sizeLine/\k=((y.length:Int) != 0):=e;subst bq;exact PySem.P.truthy_str (by omega) ⟨H,I.tok _,q⟩
 |byt y=>
  obtain⟨t,rfl⟩:=a8;obtain⟨bt,bq⟩:y.size<=sizeLine/\k=((y.size:Int) != 0):=e;subst bq;exact PySem.W.truthy_bytes (by omega) ⟨H,I.tok _,q⟩
 |ref p=>
  cases a8;have bq:(∃xs,SqL X.K H p xs/\k= !xs.isEmpty)\/(∃xs,SqT X.K H p xs/\k= !xs.isEmpty)\/∃kvs,H p=some (.dK kvs)/\k= !kvs.isEmpty:=e;rcases bq with⟨xs,aV,bq⟩|⟨xs,aV,bq⟩|⟨kvs,aV,bq⟩
  .subst bq;obtain⟨its,r,pl,hz⟩:=I.list aV;have cU:=r.length;exact wpAny_truthy_list pl.isList (by simp only[Qe];omega) ⟨H,I.tok _,by rw[Za4 r];exact q⟩
  .subst bq;obtain⟨its,r,pl,hz⟩:=I.tuple aV;have cU:=r.length;exact truthy_tuple pl (by simp only[Qe];omega) ⟨H,I.tok _,by rw[Za4 r];exact q⟩
  .subst bq;obtain⟨hz,e7,vs,r,m⟩:kvs.length<=sizeLine/\(p==sysModules)=false/\∃vs,KV kvs vs/\s.heap.DictOf (eM X.prog X.w) p vs:=I.hok p _ aV;have cU:kvs.length=vs.length:=Paired.length r;exact wpAny_truthy_dict e7 m (by omega) ⟨H,I.tok _,by rw[Zew r];exact q⟩
 |_=>exact(show False from e).elim
theorem Zgk(aS:PE X a bc)(bn:∀hS,isTrue a X.env hS=(do let v<-hS;standAt a.pos;holding [v] (truthy v))):
  PT X a (λao H Q=>bc ao H λx aH=>∃k,jF X.K x aH k/\Q k aH):=by
 intro aI s ao H Q I h;exact isTrue_plain (thn (aS aI s ao H _ I h) λv s1 ⟨x,aL,a_,bK,bQ⟩=>uK aI s1 ao aL x v Q a_ bK bQ) (bn _)
theorem uL:OpR X (binaryOp .Add) (λx y H Q=>∃i j,x= .str i/\y= .str j/\i.length+j.length<=sizeLine/\Q (.str (i++j)) H):=by
 intro aI s ao H x y v u Q I a8 bj h;obtain⟨i,j,rfl,rfl,hz,q⟩:=h;obtain⟨t,rfl⟩:=a8;obtain⟨t',rfl⟩:=bj;exact add_str (λt' cX=>⟨.str (i++j),H,I.tok _,⟨_,rfl⟩,q⟩) hz
theorem Wa{x:V}{us:List Value}(r:bD [x] us):∃u,us=[u]/\bW x u:=by
 cases r with
 |cons bK cp=>cases cp;exact⟨_,rfl,bK⟩
theorem Zju{x y:V}{us:List Value}(r:bD [x,y] us):∃u d7,us=[u,d7]/\bW x u/\bW y d7:=by
 cases r with
 |cons bK cp=>
  cases cp with
  |cons hZ mo=>cases mo;exact⟨_,_,rfl,bK,hZ⟩
theorem gC:Yk X (.type "str") (λxs H Q=>∃i,xs=[.int i]/\i.natAbs.log2<1920/\Q (.str (toString i)) H):=by
 intro aI s ao H xs us Q I r h;obtain⟨i,rfl,hz,q⟩:=h;obtain⟨u,rfl,t,rfl⟩:=Wa r;exact PySem.P.str_of_int hz ⟨.str _,H,I.tok _,⟨_,rfl⟩,q⟩
def V3(K:Frag)(x:V)(H:Hp)(n:Nat):Prop:=
 match x with
 | .str y=>y.length<=sizeLine/\n=y.length
 | .byt y=>y.size<=sizeLine/\n=y.size
 | .ref p=>(∃xs,SqL K H p xs/\n=xs.length)\/∃xs,SqT K H p xs/\n=xs.length
 |_=>False
theorem uM:Yk X (.builtin "len") (λxs H Q=>∃x n,xs=[x]/\V3 X.K x H n/\Q (.int n) H):=by
 intro aI s ao H xs us Q I r h;obtain⟨x,n,rfl,e,q⟩:=h;obtain⟨u,rfl,a8⟩:=Wa r;have aK:=jG;have a4:sizeLine=16777216:=sizeLine_eq;cases x with
 |str y=>
  obtain⟨t,rfl⟩:=a8;obtain⟨bt,bq⟩:y.length<=sizeLine/\n=y.length:=e;subst bq;exact len_str (by omega) ⟨.int _,H,I.tok _,⟨_,rfl⟩,q⟩
 |byt y=>
  obtain⟨t,rfl⟩:=a8;obtain⟨bt,bq⟩:y.size<=sizeLine/\n=y.size:=e;subst bq;exact PySem.W.len_bytes (by omega) ⟨.int _,H,I.tok _,⟨_,rfl⟩,q⟩
 |ref p=>
  cases a8;have bq:(∃xs,SqL X.K H p xs/\n=xs.length)\/∃xs,SqT X.K H p xs/\n=xs.length:=e;rcases bq with⟨xs,aV,bq⟩|⟨xs,aV,bq⟩
  .subst bq;obtain⟨its,b7,pl,hz⟩:=I.list aV;have cU:=b7.length;exact Calls.call_len_list pl.isList (by simp only[Qe];omega) ⟨.int xs.length,H,I.tok _,⟨_,by simp only[Qe];rw[cU]⟩,q⟩
  .subst bq;obtain⟨its,b7,pl,hz⟩:=I.tuple aV;have cU:=b7.length;exact len_tuple pl (by simp only[Qe];omega) ⟨.int xs.length,H,I.tok _,⟨_,by simp only[Qe];rw[cU]⟩,q⟩
 |_=>exact(show False from e).elim
end
structure h0(h:Heap)(x a3 C:Addr)(cL:Str->Option Value):Prop where
 obj:h.get? x=some (instObj C a3)
 ns:h.Ns1 a3 cL
 ne:a3≠x
theorem Zfv{h:Heap}{a3:Addr}{cL:Str->Option Value}(n:h.Ns1 a3 cL):∃cM,h.get? a3=some cM/\∀name,lookIn name cM=some (cL name):=by
 obtain⟨o,bg,ep,bf,hd,aT,_,aZ⟩:=n;refine⟨o,bf,λname=>?_⟩;have e:=aZ name;unfold nsFind findBy at e;rw[<-Array.find?_toList] at e;unfold lookIn;rw[hd];dsimp only
 split
 .rename_i y q;rw[q] at e;exact congrArg some e
 .rename_i q;rw[q] at e;have a:bg.toList.any (·.refKey)=false:=by
   rw[List.any_eq_false];intro y bt;obtain⟨z,t,uN⟩:=aT y (Array.mem_toList_iff.mp bt);simp[DictEntry.refKey,uN]
  have dY:¬bg.toList.any (·.refKey)=true:=by rw[a];exact Qg
  rw[if_neg dY];exact congrArg some e
theorem h0.look{h:Heap}{x a3 C:Addr}{cL:Str->Option Value}(I:h0 h x a3 C cL):∃cM,PySem.W.InstAt h x (instObj C a3) C (some cM)/\∀name,lookIn name cM=some (cL name):=
 let⟨cM,bf,aK⟩:=Zfv I.ns
 ⟨cM,⟨I.obj,rfl,rfl,bf⟩,aK⟩
section
variable {prog:Program}{w:World}{A:Around}{E:Value->Shared->Prop}{s:Shared}{K:Frag}{x a3 C f:Addr}{cL:Str->Option Value}{name:Str}{v:Value}
theorem ZhA{uO:Bool}{Q:Value->Shared->Prop}(X:K.In s.heap)(I:h0 s.heap x a3 C cL)(br:plainGet K C name=true)(c':hasDictIn K C=true)
  (aS:findIn K (.ref C) name=some none) (bO:cL name=some v) (kI:handedIn v=true) (h:Q v {s with toks:=s.toks+1}):
  wpAny (model prog w) A (getAttr (.ref x) name uO) Q E s:=by
 obtain⟨cM,J,aK⟩:=I.look;exact PySem.W.get_value X J (plainGet_of br).1 (PySem.W.findObj_own c' aS rfl (by rw[aK,bO])) kI h
theorem ZgP{pl:Sem Bool}{Q:Value×List Value->Shared->Prop}(X:K.In s.heap)(I:h0 s.heap x a3 C cL)(br:plainGet K C name=true)
  (a6:findIn K (.ref C) name=some (some (.ref f))) (bL:isFn K (.ref f)=true) (bO:cL name=none) (h:Q (.ref f,[.ref x]) s):
  wpAny (model prog w) A (getMethod (.ref x) name pl) Q E s:=by
 obtain⟨cM,J,aK⟩:=I.look;exact PySem.W.method_fn X J (plainGet_of br).1 (plainGet_of br).2 a6 (beq_iff_eq.mp bL) (by show(lookIn name cM).map (·.isSome)=some false;rw[aK,bO];rfl) h
theorem ZhR{ns:List Str}{Q:Unit->Shared->Prop}(X:K.In s.heap)(I:h0 s.heap x a3 C cL)
  (a4:findIn K (.ref C) "__setattr__" =some (some (.builtin "object.__setattr__"))) (aU:plainOver K C=true) (bL:takerIn K C name=some none) (c':hasDictIn K C=true)
  (hw:PySem.Within cL ns) (hsz:ns.length<=sizeLine)
  (h:∀h',h0 h' x a3 C (λy=>if y=name then some v else cL y)->Heap.SameBut a3 s.heap h'->Q () {s with heap:=h',toks:=s.toks+2}):
  wpAny (model prog w) A (setAttr (.ref x) name v) Q E s:=by
 obtain⟨cM,J,aK⟩:=I.look;refine PySem.W.set_plain X J a4 (PySem.W.osa_open (s:={s with toks:=s.toks+1}) (r:=none) X J aU bL λb=>?_);obtain⟨b8,aO,fZ⟩:=PySem.W.any_some c';have aV:s.heap.get? x=some ⟨.ref C,some a3,.plain,#[]⟩:=I.obj;refine wpAny_bind (wpAny_pure (wpAny_bind (wpAny_bind (wpAny_loadPart aV (wpAny_bind (PySem.W.Looks.here (s:={s with toks:=s.toks+1}) (PySem.W.looks_clsIn X aO) ?_))))));rw[fZ];refine wpAny_pure (a:=some a3) (wpAny_bind (wpAny_pure (wpAny_bind ?_)));refine wpAny_nsSet1 (s:={s with toks:=s.toks+1}) I.ns λh' jH g9=>?_;obtain⟨oD,A3,A4,uP,uQ,uR⟩:=jH.count (PySem.Within.cons name v hw);refine wpAny_bind (wpAny_lookBehind uP (by rw[uQ];exact pastItsLine_dict (Qu uR (by rw[List.length_cons];omega))) ?_);exact wpAny_pure (h _ ⟨(g9.2 _ (JH I.ne)).trans I.obj,jH,I.ne⟩ g9)
theorem uS{R:Result->Shared->Prop}{vs:List Value}{kw:List (Str×Value)}(X:K.In s.heap)(aZ:makesIn K C=true)
  (aM:findIn K (.ref C) "__init__" =some (some (.ref f))) (a6:typeIn K (.ref f)=some (.type "function"))
  (h:codeAny (model prog w) (A.under (.builtin "type.__call__" ⟨.ref C::vs,kw⟩)) (.call (.ref f) ⟨.ref (s.heap.objs.size+1)::vs,kw⟩) (PySem.W.InitBack (s.heap.objs.size+1) R)
   {s with heap:=(s.heap.push emptyDict).push (instObj C s.heap.objs.size)}):
  codeAny (model prog w) A (.call (.ref C) ⟨vs,kw⟩) R s:=by
 obtain⟨c',g,d,t,os⟩:=s;exact PySem.W.make_core (PySem.W.makes_of X aZ) (PySem.W.looks_findIn X aM) (λself=>PySem.W.bind_fn X self a6) (.inl rfl) h
end
noncomputable def d1 (f:Str) (v:V):List (Str×V)->List (Str×V)
 | []=>[(f,v)]
 |(g,x)::r=>if g=f then(g,v)::r else(g,x)::d1 f v r
theorem ZaA(f g:Str)(v:V):∀fs:List (Str×V),(d1 f v fs).lookup g=if g=f then some v else fs.lookup g
 | []=>by
  show List.lookup g [(f,v)]=_
  by_cases h:g=f
  .have aJ:(g==f)=true:=beq_iff_eq.mpr h;simp only[List.lookup,aJ,if_pos h]
  .have aJ:(g==f)=false:=beq_eq_false_iff_ne.mpr h;simp only[List.lookup,aJ,if_neg h]
 |(k,x)::r=>by
  have bF:=ZaA f g v r;rw[show d1 f v ((k,x)::r)=(if k=f then(k,v)::r else(k,x)::d1 f v r) from rfl]
  by_cases aT:k=f
  .rw[if_pos aT]
   by_cases h:g=k
   .have aJ:(g==k)=true:=beq_iff_eq.mpr h;simp only[List.lookup,aJ,if_pos (h.trans aT)]
   .have aJ:(g==k)=false:=beq_eq_false_iff_ne.mpr h;simp only[List.lookup,aJ,if_neg (λe:g=f=>h (e.trans aT.symm))]
  .rw[if_neg aT]
   by_cases h:g=k
   .have aJ:(g==k)=true:=beq_iff_eq.mpr h;simp only[List.lookup,aJ,if_neg (λe:g=f=>aT (h.symm.trans e))]
   .have aJ:(g==k)=false:=beq_eq_false_iff_ne.mpr h;simp only[List.lookup,aJ];exact bF
theorem mq(f:Str)(v:V):∀fs:List (Str×V),f∈(d1 f v fs).map (·.1)/\∀g,g∈fs.map (·.1)->g∈(d1 f v fs).map (·.1)
 | []=>⟨by simp[d1],λg h=>by simp at h⟩
 |(k,x)::r=>by
  obtain⟨cI,dI⟩:=mq f v r;rw[show d1 f v ((k,x)::r)=(if k=f then(k,v)::r else(k,x)::d1 f v r) from rfl]
  by_cases aT:k=f
  .rw[if_pos aT];subst aT;exact⟨by simp,λg h=>by simpa using h⟩
  .rw[if_neg aT];refine⟨?_,λg h=>?_⟩
   .rw[List.map_cons];exact QH _ cI
   .rw[List.map_cons] at h|-;rcases Qi.mp h with e|e
    .exact Qi.mpr (.inl e)
    .exact QH _ (dI g e)
theorem ZaB(f:Str)(v:V):∀fs:List (Str×V),(d1 f v fs).length<=fs.length+1
 | []=>by simp[d1]
 |(k,x)::r=>by
  have bF:=ZaB f v r;rw[show d1 f v ((k,x)::r)=(if k=f then(k,v)::r else(k,x)::d1 f v r) from rfl]
  by_cases aT:k=f
  .rw[if_pos aT,List.length_cons,List.length_cons];omega
  .rw[if_neg aT,List.length_cons,List.length_cons];omega
theorem eN.some_of{v:V}{o:Option Value}(r:eN (some v) o):∃u,o=some u/\bW v u:=by
 cases o with
 |none=>exact(show False from r).elim
 |some u=>exact⟨u,rfl,r⟩
theorem eN.none_of{o:Option Value}(r:eN none o):o=none:=by
 cases o with
 |none=>rfl
 |some u=>exact(show False from r).elim
theorem uT{v:V}{u:Value}(r:bW v u):handedIn u=true:=by
 cases v with
 |non=>cases (show u=Value.none from r);rfl
 |bl b=>cases (show u=Value.bool b from r);rfl
 |int i=>obtain⟨t,e⟩:=(show ∃t,u=Value.int i t from r);cases e;rfl
 |str x=>obtain⟨t,e⟩:=(show ∃t,u=Value.str x t from r);cases e;rfl
 |byt b=>obtain⟨t,e⟩:=(show ∃t,u=Value.bytes b t from r);cases e;rfl
 |flt b=>obtain⟨t,e⟩:=(show ∃t,u=Value.float b t from r);cases e;rfl
 |ref a=>cases (show u=Value.ref a from r);rfl
 |ty n=>cases (show u=Value.type n from r);rfl
section
variable {P:Program}{w:World}{H aH:Hp}{h h':Heap}{a C a3:Addr}{fs kA:List (Str×V)}
theorem U9(hok:HOk P w H h)(e:H a=some (.ins C a3 fs)):∃cL,h0 h a a3 C cL/\(∀f,eN (fs.lookup f) (cL f))/\PySem.Within cL (fs.map (·.1))/\fs.length<=1000/\H a3=some (.own a):=by
 obtain⟨d,z,ne,bE,cL,n,r,q⟩:=(show ZQ P w H h a (.ins C a3 fs) from hok a _ e);exact⟨cL,⟨bE,n,ne⟩,r,q,z,d⟩
end
structure Cls(K:Frag)(C:Addr):Prop where
 pg:plainGet K C Str.empty=true
 hd:hasDictIn K C=true
 po:plainOver K C=true
 sa:findIn K (.ref C) "__setattr__" =some (some (.builtin "object.__setattr__"))
theorem Cls.get{K:Frag}{C:Addr}(c:Cls K C)(f:Str):plainGet K C f=true:=c.pg
def e8(K:Frag)(C:Addr)(f:Str):Prop:=findIn K (.ref C) f=some none
theorem e8.taker{K:Frag}{C:Addr}{f:Str}(n:e8 K C f):takerIn K C f=some none:=by
 unfold takerIn;rw[show findIn K (.ref C) f=some none from n]
 rfl
structure ZbO(K:Frag)(C:Addr)(m:Str)(f:Addr):Prop where
 at_:findIn K (.ref C) m=some (some (.ref f))
 fn:isFn K (.ref f)=true
 kp:keepIn K (.ref f)=true
section
variable {X:Cx}{aI:List (Addr×Obj)}{ao:St}{H:Hp}{s:Shared}{a C a3:Addr}{fs:List (Str×V)}{f:Str}{v:V}{A:Around}{E:Value->Shared->Prop}
theorem Zfa{b:Bool}{Q:Value->Shared->Prop}(I:Inv X aI ao H s)(e:H a=some (.ins C a3 fs))(c:Cls X.K C)(n:e8 X.K C f)(l:fs.lookup f=some v)
  (h:∀u aX,Inv X aI ao H aX->bW v u->Q u aX):wpAny (model X.prog X.w) A (getAttr (.ref a) f b) Q E s:=by
 obtain⟨cL,O,r,_,_,_⟩:=U9 I.hok e;obtain⟨u,hu,dt⟩:=eN.some_of (v:=v) (o:=cL f) (by rw[<-l];exact r f);exact ZhA I.kIn O (c.get f) c.hd n hu (uT dt) (h u _ (I.tok _) dt)
theorem V4{m:Str}{g:Addr}{pl:Sem Bool}{Q:Value×List Value->Shared->Prop}(I:Inv X aI ao H s)(e:H a=some (.ins C a3 fs))(c:Cls X.K C)(k:ZbO X.K C m g)(l:fs.lookup m=none)
  (h:Q (.ref g,[.ref a]) s):wpAny (model X.prog X.w) A (getMethod (.ref a) m pl) Q E s:=by
 obtain⟨cL,O,r,_,_,_⟩:=U9 I.hok e;have a':cL m=none:=eN.none_of (by rw[<-l];exact r m);exact ZgP I.kIn O (c.get m) k.at_ k.fn a' h
theorem ZeW{y:V}{u:Value}{Q:Unit->Shared->Prop}(I:Inv X aI ao H s)(e:H a=some (.ins C a3 fs))(c:Cls X.K C)(n:e8 X.K C f)(aK:fs.length<1000)(bj:bW y u)
  (h:∀aX,Inv X aI ao (upd H a (.ins C a3 (d1 f y fs))) aX->Q () aX):wpAny (model X.prog X.w) A (setAttr (.ref a) f u) Q E s:=by
 obtain⟨cL,O,r,c5,_,bf⟩:=U9 I.hok e;have hz:(fs.map (·.1)).length<=sizeLine:=by rw[Qc,sizeLine_eq];omega
 refine ZhR I.kIn O c.sa c.po n.taker c.hd c5 hz λh' O' er=>h _ ?_;have hd:∃o,h'.get? a3=some o:=let⟨o,_,_,bq,_⟩:=O'.ns;⟨o,bq⟩
 refine I.write (x:=a) (e:=a3) (by rw[e];exact True.intro) (.inr bf) (λb q aJ z=>(er.2 b aJ).trans z) hd ?_;refine⟨by rw[bX O.ne];exact bf,?_,O.ne,O'.obj,_,O'.ns,λg=>?_,λg br=>?_⟩
 .have:=ZaB f y fs;omega
 .show eN ((d1 f y fs).lookup g) (if g=f then some u else cL g);rw[ZaA]
  by_cases q:g=f
  .rw[if_pos q,if_pos q];exact bj
  .rw[if_neg q,if_neg q];exact r g
 .by_cases q:g=f
  .rw[q];exact(mq f y fs).1
  .refine(mq f y fs).2 g (c5 g λz=>br ?_);show(if g=f then some u else cL g)=none;rw[if_neg q];exact z
theorem Inv.made(I:Inv X aI ao H s):Inv X aI ao (upd (upd H s.heap.objs.size (.own (s.heap.objs.size+1))) (s.heap.objs.size+1) (.ins C s.heap.objs.size []))
  {s with heap:=(s.heap.push emptyDict).push (instObj C s.heap.objs.size)}:=by
 have bb:(s.heap.push emptyDict).get? s.heap.objs.size=some emptyDict:=Heap.get?_push_size s.heap rfl;have bh:((s.heap.push emptyDict).push (instObj C s.heap.objs.size)).get? (s.heap.objs.size+1)=some (instObj C s.heap.objs.size):=by
  have:=Heap.get?_push_size (s.heap.push emptyDict) (o:=instObj C s.heap.objs.size) rfl
  rwa [Heap.size_push] at this
 have di:(s.heap.push emptyDict).Ns s.heap.objs.size (λ_=>none):=⟨emptyDict,#[],_,bb,rfl,(λe bn=>absurd bn (by simp)),λ_=>rfl⟩;have a_:=I.laid (a:=s.heap.objs.size) (o:= .own (s.heap.objs.size+1)) (h':=s.heap.push emptyDict) (t':=s.toks) (λb u q=>Heap.get?_push_of_some _ q) (Qb _) ⟨_,bb⟩;refine a_.laid (a:=s.heap.objs.size+1) (o:= .ins C s.heap.objs.size []) (t':=s.toks) (λb u q=>Heap.get?_push_of_some _ q) (Nat.le_of_eq (Heap.size_push _ _)) ?_;have ne:s.heap.objs.size≠s.heap.objs.size+1:=Qj (Nat.lt_succ_self _);refine⟨by rw[bX ne,Zh],Qn _,ne,bh,λ_=>none,(Heap.Ns1.of_empty di).at λo q=>Heap.get?_push_of_some _ q,λ_=>True.intro,λy bt=>absurd rfl bt⟩
theorem ZhL{prog:Program}{w:World}{env:Env}{e:Expr}{f:Str}{pos:Pos}{s:Shared}{Q:Value->Shared->Prop}(aJ:attributeBase e f env (eval e env)=eval e env)
  (h:wpAny (model prog w) A (eval e env) (λo cr=>wpAny (model prog w) A (getAttr o f true) Q E cr) E s):wpAny (model prog w) A (eval (.Attribute e f pos) env) Q E s:=
 Attribute_any_ h (by rw[arm_eval_Attribute,aJ])
end
def mr (K:Frag) (bc:TE) (f:Str):TE:=λao H Q=>bc ao H λx aL=>∃a C a3 fs v,x= .ref a/\aL a=some (.ins C a3 fs)/\Cls K C/\e8 K C f/\fs.lookup f=some v/\Q v aL
def mu (K:Frag) (bc f5:TE) (f:Str):TS:=λD ao H=>f5 ao H λy aL=>bc ao aL λx aY=>∃a C a3 fs,x= .ref a/\aY a=some (.ins C a3 fs)/\Cls K C/\e8 K C f/\fs.length<1000/\
 D.nx ao (upd aY a (.ins C a3 (d1 f y fs)))
section
variable {X:Cx}{o e value:Expr}{f:Str}{pos g5 mv:Pos}{bc f5:TE}
theorem ZiE(bn:PE X e bc)(aJ:attributeBase e f X.env (eval e X.env)=eval e X.env):PE X (.Attribute e f pos) (mr X.K bc f):=by
 intro aI s ao H Q I h;refine ZhL aJ (thn (bn aI s ao H _ I h) λu s1 ⟨x,aL,a_,a8,a,C,a3,fs,v,ex,cD,c,n,l,q⟩=>?_);subst ex;obtain rfl:u=Value.ref a:=a8;exact Zfa a_ cD c n l λhR bw b9 dt=>⟨v,aL,b9,dt,q⟩
theorem Zh8(aS:PE X o bc)(bO:PE X value f5)(a4:swapsWith value (some (.Attribute o f g5)) pos.line X.env=pure false):PS X (.Assign [.Attribute o f g5] value pos) (mu X.K bc f5 f):=by
 intro aI s ao H D I h;refine plainObj_wpAny_Assign_Attribute (thn (bO aI s ao H _ I h) λu s1 ⟨y,aL,a_,bj,q⟩=>thn (aS aI s1 ao aL _ a_ q) λdz bw ⟨x,aY,b9,a8,a,C,a3,fs,ex,cD,c,n,l,cQ⟩=>?_) a4;subst ex;obtain rfl:dz=Value.ref a:=a8;exact ZeW b9 cD c n l bj λbA db=>⟨ao,_,db,cQ⟩
theorem Zjc{pl:Sem Bool}{m:Str}{de:Pos}{args:List Expr}{aI:List (Addr×Obj)}{s:Shared}{ao:St}{H:Hp}{Q:Value->Shared->Prop}{bH:TE}(bn:PE X e bH)(I:Inv X aI ao H s)
  (h:bH ao H λx aL=>∃a C a3 fs g,x= .ref a/\aL a=some (.ins C a3 fs)/\Cls X.K C/\ZbO X.K C m g/\fs.lookup m=none/\
   ∀s1,Inv X aI ao aL s1->wpAny (model X.prog X.w) X.A (callWith pos (.ref g) [.ref a] (backTo pos (starEach args X.env)) (backToKw pos (keywordEach [] X.env))) Q X.xe s1)
  (bL:eval (.Call (.Attribute e m de) args [] pos) X.env=(do
   let dz<-eval e X.env
   standAt de.atName
   let(f,first)<-holding [dz] (getMethod dz m pl)
   callWith pos f first (backTo pos (starEach args X.env)) (backToKw pos (keywordEach [] X.env)))):
  wpAny (model X.prog X.w) X.A (eval (.Call (.Attribute e m de) args [] pos) X.env) Q X.xe s:=by
 refine methodCall_KW (pl:=pl) (thn (bn aI s ao H _ I h) λu s1 ⟨x,aL,a_,a8,a,C,a3,fs,g,ex,cD,c,k,l,q⟩=>?_) bL;subst ex;obtain rfl:u=Value.ref a:=a8;exact V4 a_ cD c k l (q s1 a_)
end
section
variable {X:Cx}{aI:List (Addr×Obj)}{ao:St}{H:Hp}{s:Shared}{A:Around}{E:Value->Shared->Prop}{Q:Value->Shared->Prop}{c:Value}{b:Bool}
inductive YI(K:Frag)(H:Hp):V->Value->Prop where
 |non:YI K H .non (.type "NoneType")
 |bl (x:Bool):YI K H (.bl x) (.type "bool")
 |int (i:Int):YI K H (.int i) (.type "int")
 |str (x:Str):YI K H (.str x) (.type "str")
 |flt (x:UInt64):YI K H (.flt x) (.type "float")
 |lst {a:Addr} {xs:List V} (e:H a=some (.lst xs)):YI K H (.ref a) (.type "list")
 |frz {a:Addr} {o:Obj} {xs:List V} (e:H a=some (.frz o (.lst xs))):YI K H (.ref a) (.type "list")
 |tup {a:Addr} {xs:List V} (e:H a=some (.tup xs)):YI K H (.ref a) (.type "tuple")
 |dK {a:Addr} {kvs:List (Key×V)} (e:H a=some (.dK kvs)):YI K H (.ref a) (.type "dict")
 |dT {a:Addr} {kvs:List (List Key×V)} (e:H a=some (.dT kvs)):YI K H (.ref a) (.type "dict")
 |ins {a C a3:Addr} {fs:List (Str×V)} (e:H a=some (.ins C a3 fs)) (bu:Cls K C) (aS:findIn K (.ref C) "__class__" =some (some (.builtin "object.__class__")))
   (a':PySem.W.specialIn K (.builtin "object.__class__") "__get__" =some (some (.builtin "getset_descriptor.__get__"))) (pI:PySem.W.takesIn K (.builtin "object.__class__")=some true)
   (aZ:mroIn K C (.type "object")=some true):YI K H (.ref a) (.ref C)
theorem ZfH{x:V}{u t:Value}(I:Inv X aI ao H s)(a8:bW x u)(ty:YI X.K H x t)(e:kitOne X.K t c=some b)(h:∀cX,Q (.bool b) {s with toks:=cX}):
  wpAny (model X.prog X.w) A (call (.builtin "isinstance") [u,c]) Q E s:=by
 cases ty with
 |non=>cases (show u=Value.none from a8);exact kia_one PySem.W.kitx_none I.kIn True.intro e (λz=>nomatch z) h
 |bl y=>cases (show u=Value.bool y from a8);exact kia_one PySem.W.kitx_bool I.kIn True.intro e (λz=>nomatch z) h
 |int i=>obtain⟨t,q⟩:=(show ∃t,u=Value.int i t from a8);cases q;exact kia_one PySem.W.kitx_int I.kIn True.intro e (λz=>nomatch z) h
 |str y=>obtain⟨t,q⟩:=(show ∃t,u=Value.str y t from a8);cases q;exact kia_one PySem.W.kitx_str I.kIn True.intro e (λz=>nomatch z) h
 |flt y=>obtain⟨t,q⟩:=(show ∃t,u=Value.float y t from a8);cases q;exact kia_one PySem.W.kitx_float I.kIn True.intro e (λz=>nomatch z) h
 | @lst a xs cD=>
  cases (show u=Value.ref a from a8);obtain⟨_,_,n,_,aN⟩:=(show ZQ X.prog X.w H s.heap a (.lst xs) from I.hok a _ cD);exact kia_one kitx_list I.kIn ⟨_,aN,rfl⟩ e (λz=>nomatch z) h
 | @frz a bE xs cD=>
  cases (show u=Value.ref a from a8);obtain⟨_,_,_,n,_,aN⟩:=(show ZQ X.prog X.w H s.heap a (.frz bE (.lst xs)) from I.hok a _ cD);exact kia_one kitx_list I.kIn ⟨_,aN,rfl⟩ e (λz=>nomatch z) h
 | @tup a xs cD=>
  cases (show u=Value.ref a from a8);obtain⟨_,_,_,p⟩:=(show ZQ X.prog X.w H s.heap a (.tup xs) from I.hok a _ cD);obtain⟨o,aN,aQ,_⟩:=p;exact kia_one PySem.W.kitx_tuple I.kIn ⟨o,aN,aQ⟩ e (λz=>nomatch z) h
 | @dK a kvs cD=>
  cases (show u=Value.ref a from a8);obtain⟨_,_,vs,_,p⟩:=(show ZQ X.prog X.w H s.heap a (.dK kvs) from I.hok a _ cD);obtain⟨o,bg,ep,aN,aQ,_⟩:=p;exact kia_one kitx_dict I.kIn ⟨o,aN,aQ.1⟩ e (λz=>nomatch z) h
 | @dT a kvs cD=>
  cases (show u=Value.ref a from a8);obtain⟨_,_,xs,_,o,bg,ep,aN,aQ,_⟩:=(show ZQ X.prog X.w H s.heap a (.dT kvs) from I.hok a _ cD);exact kia_one kitx_dict I.kIn ⟨o,aN,aQ.1⟩ e (λz=>nomatch z) h
 | @ins a C a3 fs cD bu aS a' pI aZ=>
  cases (show u=Value.ref a from a8);obtain⟨cL,O,_⟩:=U9 I.hok cD;obtain⟨cM,J,_⟩:=O.look;exact kia_one (PySem.W.kitx_own (bu.get _) bu.hd aS a' pI aZ) I.kIn J e (λz=>nomatch z) h
end
structure df(k:Nat)(A:Around):Prop where
 hd:A.handled=none
 dp:A.depth+3*k+5<recursionLimit
 un:A.units+16*k+200<cLine
theorem df.mono{j k:Nat}{A:Around}(r:df k A)(h:j<=k):df j A:=⟨r.hd,by have:=r.dp;omega,by have:=r.un;omega⟩
theorem df.deeper{k:Nat}{A:Around}(r:df (k+1) A)(env:Env):df k (A.deeper env):=
 ⟨r.hd,by have:=r.dp;show A.depth+1+3*k+5<_;omega,by have:=r.un;show A.units+3+16*k+200<_;omega⟩
theorem ZeJ{A:Around}{C:Addr}{us:List Value}{kw:List (Str×Value)}:(A.under (.builtin "type.__call__" ⟨.ref C::us,kw⟩)).depth=A.depth+1:=by
 first|rfl|simp[Around.under,Code.weight,Code.isCreation,Code.isGuard,Code.isCaller,Code.frames,Code.isFrame,guardIds]
theorem Ze4{A:Around}{C:Addr}{us:List Value}{kw:List (Str×Value)}:(A.under (.builtin "type.__call__" ⟨.ref C::us,kw⟩)).units=A.units+1:=by
 first|rfl|simp[Around.under,Code.cUnits,Code.frames,Code.isFrame]
theorem df.make{k:Nat}{A:Around}(r:df (k+1) A)(C:Addr)(us:List Value)(kw:List (Str×Value)):df k (A.under (.builtin "type.__call__" ⟨.ref C::us,kw⟩)):=
 ⟨r.hd,by have:=r.dp;rw[ZeJ];omega,by have:=r.un;rw[Ze4];omega⟩
theorem df.depth{k:Nat}{A:Around}(r:df k A):A.depth<recursionLimit:=by have:=r.dp;omega
theorem df.units{k:Nat}{A:Around}(r:df k A):A.units+64<cLine:=by have:=r.un;omega
def tNil:TA:=λ_ H Q=>Q [] H
def mw (bc:TE) (tr:TA):TA:=λao H Q=>bc ao H λx aL=>tr ao aL λxs aY=>Q (x::xs) aY
section
variable {X:Cx}{e:Expr}{bg:List Expr}{bH:TE}{t:TA}{pos:Pos}
theorem aW:PA X [] tNil:=λ_ _ _ _ H Q I h=>Calls.spliced_nil ⟨[],H,I,.nil,h⟩
theorem aP(aS:PE X e bH)(aR:PA X bg t)(a4:starEach (e::bg) X.env=(false,eval e X.env)::starEach bg X.env:=by rfl):PA X (e::bg) (mw bH t):=by
 intro pos aI s ao H Q I h;rw[a4];show wpAny _ _ (spliced ((false,eval e X.env)::backTo pos (starEach bg X.env))) _ _ s;refine Calls.spliced_cons (thn (aS aI s ao H _ I h) λu s1 ⟨x,aL,a_,bK,bQ⟩=>?_);exact thn (aR pos aI s1 ao aL _ a_ bQ) λus bw ⟨xs,aY,b9,cp,cQ⟩=>⟨x::xs,aY,b9,.cons bK cp,cQ⟩
def pJ (t:TA):TE:=λao H Q=>t ao H λxs aL=>xs.length<=sizeLine/\∀p,aL p=none->Q (.ref p) (upd aL p (.tup xs))
def pK (t:TA):TE:=λao H Q=>t ao H λxs aL=>xs.length<=sizeLine/\∀p,aL p=none->Q (.ref p) (upd aL p (.lst xs))
theorem ht{x1}(h:PA X bg t):PE X (.Tuple bg x1 pos) (pJ t):=by
 intro aI s ao H Q I be;refine wpAny_Tuple_spliced (thn (h pos aI s ao H _ I be) λus s1 ⟨xs,aL,a_,r,z,q⟩=>⟨by rw[<-r.length];exact z,?_⟩);have a6:aL s1.heap.objs.size=none:=a_.hok.fresh (Qb _);refine⟨.ref s1.heap.objs.size,upd aL s1.heap.objs.size (.tup xs),a_.laid (t':=s1.toks) (λb u e=>Heap.get?_push_of_some _ e) (Qb _) ?_,rfl,q _ a6⟩;exact⟨z,us,r,⟨_,Heap.get?_push_size _ rfl,rfl,_,rfl⟩⟩
theorem fQ(h:PA X bg t):PE X (.List bg pos) (pK t):=by
 intro aI s ao H Q I be;refine wpAny_List_spliced (thn (h pos aI s ao H _ I be) λus s1 ⟨xs,aL,a_,r,z,q⟩=>⟨by rw[<-r.length];exact z,?_⟩);have a6:aL s1.heap.objs.size=none:=a_.hok.fresh (Qb _);refine⟨.ref s1.heap.objs.size,upd aL s1.heap.objs.size (.lst xs),a_.laid (t':=s1.toks) (λb u e=>Heap.get?_push_of_some _ e) (Qb _) ?_,rfl,q _ a6⟩;exact⟨z,us,0,r,Heap.get?_push_size _ rfl⟩
end
noncomputable abbrev Sp:=List V->Hp->VK->XK->Prop
noncomputable abbrev CXT:=List Env->Hp->Shared->XK->Value->Shared->Prop
structure ZaQ(P:Program)(w:World)(K:Frag)(mg:Str->Option Value)(base:Heap)(A:Around)(outer:List Env)(s:Shared)(H:Hp):Prop where
 frames:A.frames=some outer
 mod:Mod K mg base
 bs:∀b o,base.get? b=some o->s.heap.get? b=some o/\H b=none
 bsz:base.objs.size<=s.heap.objs.size
 funs:s.heap.FunFrames base outer
 frf:∀b∈frs outer,H b=none
 hok:HOk P w H s.heap
 bare:AllBare s.gens
def CE(outer:List Env)(P:Program)(w:World)(H:Hp)(s:Shared)(Q:VK)(u:Value)(aX:Shared):Prop:=
 ∃v aH,aX.os=s.os/\AllBare aX.gens/\Un (frs outer) [] H aH s.heap aX.heap/\HOk P w aH aX.heap/\bW v u/\Q v aH
def CR(CX:CXT)(outer:List Env)(P:Program)(w:World)(H:Hp)(s:Shared)(Q:VK)(E:XK)(r:Result)(aX:Shared):Prop:=
 match r with
 | .ok (.ret u)=>CE outer P w H s Q u aX
 | .ok _=>False
 | .error e=>CX outer H s E e aX
structure Yp(P:Program)(w:World)(K:Frag)(mg:Str->Option Value)(base:Heap)(CX:CXT)(k:Nat)(f:Addr)(fd:FuncData)(ps:List Str)(sp:Sp):Prop where
 len:∀vs H Q E,sp vs H Q E->vs.length=ps.length
 run:∀(A:Around)(outer:List Env)(s:Shared)(H:Hp)(args:Args)(us:List Value)(vs:List V)(Q:VK)(E:XK),df k A->ZaQ P w K mg base A outer s H->BindsTo s fd args (ps.zip us)->bD vs us->sp vs H Q E->
  codeAny (model P w) A (.call (.ref f) args) (CR CX outer P w H s Q E) s
theorem Yp.mono{P:Program}{w:World}{K:Frag}{mg:Str->Option Value}{base:Heap}{CX:CXT}{j k:Nat}{f:Addr}{fd:FuncData}{ps:List Str}{sp:Sp}(F:Yp P w K mg base CX j f fd ps sp)(h:j<=k):
  Yp P w K mg base CX k f fd ps sp:=⟨F.len,λA outer s H args us vs Q E aR=>F.run A outer s H args us vs Q E (aR.mono h)⟩
theorem ZaQ.make{P:Program}{w:World}{K:Frag}{mg:Str->Option Value}{base:Heap}{A:Around}{outer:List Env}{s:Shared}{H:Hp}(e:ZaQ P w K mg base A outer s H)(C:Addr)(us:List Value)(kw:List (Str×Value)):
  ZaQ P w K mg base (A.under (.builtin "type.__call__" ⟨.ref C::us,kw⟩)) outer s H:=⟨by first|exact e.frames|(simpa[Around.under,Code.envs,Code.isFrame,pushEnvs] using e.frames),e.mod,e.bs,e.bsz,e.funs,e.frf,e.hok,e.bare⟩
section
variable {X:Cx}{aI:List (Addr×Obj)}{ao:St}{H:Hp}{s aX:Shared}
theorem Inv.env0(I:Inv X aI ao H s):ZaQ X.prog X.w X.K X.mg X.base X.A X.stack s H:=
 ⟨I.ok.frames,I.ok.mod,I.bs,Qu I.ok.bsz I.sz,I.stack,I.stkFree,I.hok,I.bare⟩
theorem Inv.after{Q:VK}{u:Value}(I:Inv X aI ao H s)(h:CE X.stack X.prog X.w H s Q u aX):EP X aI ao Q u aX:=by
 obtain⟨v,aH,os,bare,un,hok,r,q⟩:=h;obtain⟨c',g,d,t,uU⟩:=aX;obtain rfl:uU=s.os:=os;exact⟨v,aH,I.call (h':=c') (g':=g) (d':=d) (t':=t) (ch:=[]) un hok bare (λb z=>absurd z (by simp)),r,q⟩
end
def kJ (sp:Sp) (da:List V) (E:XK) (t:TA):TE:=λao H Q=>t ao H λvs aL=>sp (vs++da) aL Q E
def jI (C:Addr) (m:Str) (sp:Sp) (da:List V) (E:XK) (bc:TE) (t:TA):TE:=λao H Q=>bc ao H λx aL=>∃a a3 fs,x= .ref a/\aL a=some (.ins C a3 fs)/\fs.lookup m=none/\
 t ao aL λvs aY=>sp (x::(vs++da)) aY Q E
def mx (C:Addr) (sp:Sp) (da:List V) (E:XK) (t:TA):TE:=λao H Q=>t ao H λvs aL=>∀x a3,aL x=none->aL a3=none->a3≠x->
 sp (.ref x::(vs++da)) (upd (upd aL a3 (.own x)) x (.ins C a3 [])) (λv aY=>v= .non/\Q (.ref x) aY) E
def Y5(K:Frag)(fd:FuncData)(ps:List Str)(cm:List Value):Prop:=
 ∀(s:Shared)(us:List Value),K.In s.heap->(us++cm).length=ps.length->BindsTo s fd ⟨us,[]⟩ (ps.zip (us++cm))
theorem Y5.all{K:Frag}{fd:FuncData}{ps:List Str}(h:∀us:List Value,us.length=ps.length->bindArgs fd ⟨us,[]⟩=pure (ps.zip us)):Y5 K fd ps []:=λs us _ aK=>by
 rw[Jh] at aK|-;exact .of_eq (h us aK)
def Y0(CX:CXT)(X:Cx)(E:XK):Prop:=∀(aI:List (Addr×Obj))(ao:St)(H:Hp)(s:Shared)(e:Value)(aX:Shared),Inv X aI ao H s->CX X.stack H s E e aX->X.xe e aX
section
variable {X:Cx}{CX:CXT}{k:Nat}{f C:Addr}{fd:FuncData}{ps:List Str}{sp:Sp}{da:List V}{cm:List Value}{E:XK}{x m:Str}{p pos de:Pos}{e o:Expr}{bg:List Expr}{bc:TE}{t:TA}
theorem my{aI:List (Addr×Obj)}{ao:St}{H:Hp}{s:Shared}{Q:VK}{us:List Value}{vs:List V}(F:Yp X.prog X.w X.K X.mg X.base CX k f fd ps sp)(aR:df k X.A)(aJ:Y5 X.K fd ps cm)(hd:bD da cm)(aV:Y0 CX X E)
  (I:Inv X aI ao H s) (r:bD vs us) (h:sp (vs++da) H Q E):wpAny (model X.prog X.w) X.A (call (.ref f) us) (EP X aI ao Q) X.xe s:=by
 have cp:bD (vs++da) (us++cm):=r.append hd;have aK:(us++cm).length=ps.length:=by rw[<-cp.length];exact F.len _ _ _ _ h
 refine wpAny_call (codeAny_mono (F.run X.A X.stack s H ⟨us,[]⟩ (us++cm) (vs++da) Q E aR I.env0 (aJ s us I.kIn aK) cp h) λr aX be=>?_);cases r with
 |error e=>exact aV aI ao H s e aX I be
 |ok eQ=>
  cases eQ with
  |ret u=>exact I.after be
  |next=>exact False.elim be
  |brk=>exact False.elim be
  |cont=>exact False.elim be
theorem Zhm(F:Yp X.prog X.w X.K X.mg X.base CX k f fd ps sp)(aR:df k X.A)(br:Gl X x)(aZ:X.mg x=some (.ref f))(aT:keepIn X.K (.ref f)=true)(aJ:Y5 X.K fd ps cm)(hd:bD da cm)(aV:Y0 CX X E)
  (aS:PA X (e::bg) t) (eZ:(x==("__debug__" :Str))=false:=by decide) (bn:starEach (e::bg) X.env=(false,eval e X.env)::starEach bg X.env:=by rfl) (dQ:(backTo pos (starEach bg X.env)).any (·.1)=false:=by rfl):
  PE X (.Call (.Name x p) (e::bg) [] pos) (kJ sp da E t):=by
 intro aI s ao H Q I h;refine wpAny_Call_Name_kw (kC I br aZ ?_ eZ);refine callWith_K (h₀:=X.base) I.ok.mod.kin aT (thn (aS pos aI s ao H _ I h) λus s1 ⟨vs,aL,a_,r,q⟩=>⟨a_.kIn,?_⟩) bn dQ;exact my F aR aJ hd aV a_ r q
theorem mz{pl:Sem Bool}(bn:PE X o bc)(c:Cls X.K C)(aZ:ZbO X.K C m f)(F:Yp X.prog X.w X.K X.mg X.base CX k f fd ps sp)(aR:df k X.A)(aJ:Y5 X.K fd ps cm)(hd:bD da cm)(aV:Y0 CX X E)(aS:PA X (e::bg) t)
  (en:starEach (e::bg) X.env=(false,eval e X.env)::starEach bg X.env:=by rfl) (dQ:(backTo pos (starEach bg X.env)).any (·.1)=false:=by rfl)
  (bL:eval (.Call (.Attribute o m de) (e::bg) [] pos) X.env=(do
   let dz<-eval o X.env
   standAt de.atName
   let(f,first)<-holding [dz] (getMethod dz m pl)
   callWith pos f first (backTo pos (starEach (e::bg) X.env)) (backToKw pos (keywordEach [] X.env))):=by rfl):
  PE X (.Call (.Attribute o m de) (e::bg) [] pos) (jI C m sp da E bc t):=by
 intro aI s ao H Q I h;refine methodCall_KW (pl:=pl) (thn (bn aI s ao H _ I h) λu s1 ⟨x,aL,a_,a8,a,a3,fs,ex,cD,l,q⟩=>?_) bL;subst ex;obtain rfl:u=Value.ref a:=a8;refine V4 a_ cD c aZ l ?_;refine callWith_K (first:=[.ref a]) (h₀:=X.base) I.ok.mod.kin aZ.kp (thn (aS pos aI s1 ao aL _ a_ q) λus bw ⟨vs,aY,b9,r,cQ⟩=>⟨b9.kIn,?_⟩) en dQ;exact my (us:= .ref a::us) (vs:= .ref a::vs) F aR aJ hd aV b9 (.cons rfl r) cQ
theorem ZgC{pl:Sem Bool}(bn:PE X o bc)(c:Cls X.K C)(aZ:ZbO X.K C m f)(F:Yp X.prog X.w X.K X.mg X.base CX k f fd ps sp)(aR:df k X.A)(aJ:Y5 X.K fd ps cm)(hd:bD da cm)(aV:Y0 CX X E)
  (bL:eval (.Call (.Attribute o m de) [] [] pos) X.env=(do
   let dz<-eval o X.env
   standAt de.atName
   let(f,first)<-holding [dz] (getMethod dz m pl)
   callWith pos f first (backTo pos (starEach [] X.env)) (backToKw pos (keywordEach [] X.env))):=by rfl):
  PE X (.Call (.Attribute o m de) [] [] pos) (jI C m sp da E bc tNil):=by
 intro aI s ao H Q I h;refine methodCall_KW (pl:=pl) (thn (bn aI s ao H _ I h) λu s1 ⟨x,aL,a_,a8,a,a3,fs,ex,cD,l,q⟩=>?_) bL;subst ex;obtain rfl:u=Value.ref a:=a8;refine V4 a_ cD c aZ l ?_;exact callWith_K0 (first:=[.ref a]) a_.kIn aZ.kp (my (us:=[.ref a]) (vs:=[.ref a]) F aR aJ hd aV a_ (.cons rfl .nil) q)
structure Mk(K:Frag)(C f:Addr):Prop where
 makes:makesIn K C=true
 init:findIn K (.ref C) "__init__" =some (some (.ref f))
 fn:isFn K (.ref f)=true
 kp:keepIn K (.ref C)=true
theorem uV{aI:List (Addr×Obj)}{ao:St}{H:Hp}{s:Shared}{Q:VK}{us:List Value}{vs:List V}(M:Mk X.K C f)(F:Yp X.prog X.w X.K X.mg X.base CX k f fd ps sp)(aR:df (k+1) X.A)(aJ:Y5 X.K fd ps cm)(hd:bD da cm)
  (aV:Y0 CX X E) (I:Inv X aI ao H s) (r:bD vs us)
  (h:∀x a3,H x=none->H a3=none->a3≠x->sp (.ref x::(vs++da)) (upd (upd H a3 (.own x)) x (.ins C a3 [])) (λv aY=>v= .non/\Q (.ref x) aY) E):
  wpAny (model X.prog X.w) X.A (call (.ref C) us) (EP X aI ao Q) X.xe s:=by
 have be:=h (s.heap.objs.size+1) s.heap.objs.size (I.hok.fresh (Nat.le_succ _)) (I.hok.fresh (Qb _)) (Qj (Nat.lt_succ_self _));have b9:=Inv.made (C:=C) I;have cp:bD (V.ref (s.heap.objs.size+1)::(vs++da)) (Value.ref (s.heap.objs.size+1)::(us++cm)):= .cons rfl (r.append hd);have aK:(Value.ref (s.heap.objs.size+1)::us++cm).length=ps.length:=by
  have e:=cp.length;rw[F.len _ _ _ _ be] at e;exact e.symm
 refine wpAny_call (uS (f:=f) I.kIn M.makes M.init (beq_iff_eq.mp M.fn) (codeAny_mono (F.run _ X.stack _ _ ⟨Value.ref (s.heap.objs.size+1)::us,[]⟩ (Value.ref (s.heap.objs.size+1)::(us++cm)) _ _ E (aR.make C us [])
  (b9.env0.make C us []) (aJ _ (Value.ref (s.heap.objs.size+1)::us) b9.kIn aK) cp be) λr aX fR=>?_))
 cases r with
 |error e=>exact aV aI ao _ _ e aX b9 fR
 |ok eQ=>
  cases eQ with
  |ret u=>
   obtain⟨v,aH,db,b2,mA,eW⟩:=b9.after fR;subst mA;exact⟨b2,⟨V.ref (s.heap.objs.size+1),aH,db,rfl,eW⟩⟩
  |next=>exact False.elim fR
  |brk=>exact False.elim fR
  |cont=>exact False.elim fR
theorem ZgF(M:Mk X.K C f)(F:Yp X.prog X.w X.K X.mg X.base CX k f fd ps sp)(aR:df (k+1) X.A)(br:Gl X x)(aZ:X.mg x=some (.ref C))(aJ:Y5 X.K fd ps cm)(hd:bD da cm)(aV:Y0 CX X E)
  (eZ:(x==("__debug__" :Str))=false:=by decide):PE X (.Call (.Name x p) [] [] pos) (mx C sp da E tNil):=by
 intro aI s ao H Q I h;refine wpAny_Call_Name_kw (kC I br aZ ?_ eZ);exact callWith_K0 I.kIn M.kp (uV (us:=[]) M F aR aJ hd aV I .nil h)
end
structure Zu(N P:List Str)(a7:Scope):Prop where
 kind:a7.kind= .function
 co:a7.isCoroutine=false
 gen:a7.isGenerator=false
 nd:N.Nodup
 pre:N.take P.length=P
 par:∀x∈P,a7.names.lookup x=some .local\/a7.names.lookup x=some .cell
 nofree:∀y∈a7.names,y.2≠ .free
theorem Zcg{kindOf:Str->Option NameKind}{x:Str}:∀{binds:List (Str×Value)}{m:Str->Option Value},(∀v,(x,v)∉binds)->bindL kindOf binds m x=m x
 | [],_,_=>rfl
 |(n,v)::r,m,h=>by
  unfold bindL;rw[Zcg λw hw=>h w (QH _ hw)]
  split
  .have:x≠n:=by rintro rfl;exact h v Jp
   simp[this]
  .rfl
theorem Zb0{kindOf:Str->Option NameKind}{x:Str}:∀{binds:List (Str×Value)}{m:Str->Option Value},(∀v,(x,v)∉binds)->bindC kindOf binds m x=m x
 | [],_,_=>rfl
 |(n,v)::r,m,h=>by
  unfold bindC;rw[Zb0 λw hw=>h w (QH _ hw)]
  split
  .rfl
  .have:x≠n:=by rintro rfl;exact h v Jp
   simp[this]
theorem pL{kindOf:Str->Option NameKind}{x:Str}{v:Value}:∀{P:List Str}{vs:List Value}{i:Nat}{m:Str->Option Value},P.Nodup->P[i]? =some x->vs[i]? =some v->kindOf x=some .local->
  bindL kindOf (P.zip vs) m x=some v
 | [],_,_,_,_,h,_,_=>by simp at h
 |_::_,[],_,_,_,_,h,_=>by simp at h
 |p::P,w::vs,0,m,nd,aN,aQ,aT=>by
  simp at aN aQ;subst aN;subst aQ;show bindL kindOf ((p,w)::P.zip vs) m p=_;unfold bindL;rw[Zcg λv bO=>(Q3.mp nd).1 (List.of_mem_zip bO).1,if_pos aT];simp
 |p::P,w::vs,i+1,m,nd,aN,aQ,aT=>by
  show bindL kindOf ((p,w)::P.zip vs) m x=_;unfold bindL;exact pL (i:=i) (Q3.mp nd).2 (by simpa using aN) (by simpa using aQ) aT
theorem ZbY{kindOf:Str->Option NameKind}{x:Str}{v:Value}:∀{P:List Str}{vs:List Value}{i:Nat}{m:Str->Option Value},P.Nodup->P[i]? =some x->vs[i]? =some v->kindOf x≠some .local->
  bindC kindOf (P.zip vs) m x=some v
 | [],_,_,_,_,h,_,_=>by simp at h
 |_::_,[],_,_,_,_,h,_=>by simp at h
 |p::P,w::vs,0,m,nd,aN,aQ,aT=>by
  simp at aN aQ;subst aN;subst aQ;show bindC kindOf ((p,w)::P.zip vs) m p=_;unfold bindC;rw[Zb0 λv bO=>(Q3.mp nd).1 (List.of_mem_zip bO).1,if_neg aT];simp
 |p::P,w::vs,i+1,m,nd,aN,aQ,aT=>by
  show bindC kindOf ((p,w)::P.zip vs) m x=_;unfold bindC;exact ZbY (i:=i) (Q3.mp nd).2 (by simpa using aN) (by simpa using aQ) aT
noncomputable def start (N:List Str) (vs:List V):St:=vs.map some++List.replicate (N.length-vs.length) none
noncomputable def ZK (CX:CXT) (P:Program) (w:World) (K:Frag) (mg:Str->Option Value) (base:Heap) (N:List Str) (qual:Str) (scope:Scope) (f:Addr) (b8:Value) (A:Around) (outer:List Env) (s:Shared) (H:Hp) (E:XK):Cx where
 prog:=P
 w:=w
 K:=K
 mg:=mg
 base:=base
 A:=A.deeper (envOfC qual scope s.heap.objs.size f b8)
 N:=N
 s₀:=s
 H₀:=H
 env:=envOfC qual scope s.heap.objs.size f b8
 outer:=outer
 stack:=envOfC qual scope s.heap.objs.size f b8::outer
 ex:=[]
 calm:=true
 fn:=λ_=>true
 pn:=[]
 xe:=λe aX=>wpAny (model P w) (A.deeper (envOfC qual scope s.heap.objs.size f b8)) (leaving (envOfC qual scope s.heap.objs.size f b8) e) (λ_ h1=>CX outer H s E e h1) (λbq h1=>CX outer H s E bq h1) aX
theorem Zdw{a7:Scope}{n:Nat}{x:Str}(h:a7.names.lookup x=some .cell):∃c,(cellsFrom n a7.names []).lookup x=some c:=by
 have q:=cellsFrom_some a7.names n [] (.inl h);exact Option.isSome_iff_exists.mp q
theorem Zfp{CX:CXT}{P:Program}{w:World}{K:Frag}{mg:Str->Option Value}{base:Heap}{N ps:List Str}{qual:Str}{scope:Scope}{f:Addr}{b8:Value}{A:Around}{outer:List Env}{s s1:Shared}{H:Hp}{E:XK}{us:List Value}{vs:List V}
  (S:Zu N ps scope) (hd:A.handled=none) (d4:ZaQ P w K mg base A outer s H) (aK:vs.length=ps.length) (r:bD vs us)
  (x:InCallC s s.heap.objs.size (bindL (envOfC qual scope s.heap.objs.size f b8).kindOf (ps.zip us) λ_=>none) (cellsFrom (s.heap.objs.size+1) scope.names []) (bindC (envOfC qual scope s.heap.objs.size f b8).kindOf (ps.zip us) λ_=>none) s1):
  Inv (ZK CX P w K mg base N qual scope f b8 A outer s H E) [] (start N vs) H s1:=by
 have dQ:ps.length<=N.length:=by have:=congrArg List.length S.pre;rw[Q5] at this;omega
 obtain⟨aN,cX,rfl,aT⟩:=x.done;have jJ:∀b:Addr,b∉(ZK CX P w K mg base N qual scope f b8 A outer s H E).ex:=λb z=>absurd (show b∈([]:List Addr) from z) (by simp);refine⟨⟨d4.mod,S.kind,rfl,rfl,Qb _,λy z c aN aQ=>?_,λy bt=>?_,λy c _ h=>?_,λ_=>hd,Around.frames_deeper d4.frames,.inr ⟨rfl,rfl⟩,λb z=>absurd z (jJ b),d4.bs,d4.bsz,λb _ _=>jJ b,λb z=>absurd z (jJ b),d4.funs,d4.frf⟩,
  rfl,d4.bare,Un.kept aT,⟨_,x.toInCall.ns,λi y v aN aQ bJ=>?_⟩,λy c h=>⟨_,x.cell y c h⟩,d4.hok.fresh (Qb _),λy c h=>?_,λp aU=>absurd (show p∈([]:List (Addr×Obj)) from aU) (by simp),d4.hok.kept aT,?_⟩
 .exact name_of_addr x.apart (Q4 aN) (Q4 aQ)
 .have bt:scope.names.lookup y=some .cell\/scope.names.lookup y=some .free:=bt;rcases bt with bt|bt
  .exact Zdw bt
  .exact absurd rfl (S.nofree _ (Q4 bt))
 .exact QF (x.above y c (Q4 h))
 .have aM:i<vs.length:=by
   unfold start at aQ
   by_cases aM:i<vs.length
   .exact aM
   .rw[QO (by simpa using aM)] at aQ;rw[List.getElem?_replicate] at aQ
    split at aQ<;>cases aQ
  have aS:vs[i]? =some v:=by
   unfold start at aQ;rw[QI (by simpa using aM),QA] at aQ;cases e:vs[i]? with
   |none=>rw[e] at aQ;cases aQ
   |some a=>rw[e] at aQ;cases aQ;rfl
  obtain⟨u,hu,b2⟩:=r.get aS;have aU:ps[i]? =some y:=by
   rw[<-S.pre,List.getElem?_take_of_lt (by omega)];exact aN
  have pM:ps.Nodup:=by rw[<-S.pre];exact S.nd.sublist (List.take_sublist _ _)
  refine⟨u,b2,?_⟩;rcases S.par y (Qv aU) with k|k
  .exact .inl ⟨k,pL pM aU hu k⟩
  .obtain⟨c,e⟩:=Zdw (n:=s.heap.objs.size+1) k;refine .inr ⟨.inl k,c,e,?_⟩;have q:=x.cell y c e;rw[ZbY pM aU hu (by show scope.names.lookup y≠_;rw[k];decide)] at q;exact q
 .exact d4.hok.fresh (QF (x.above y c (Q4 h)))
 .unfold start;show _=N.length;rw[Qf,Qc,QU];omega
theorem Zg9{CX:CXT}{P:Program}{w:World}{K:Frag}{mg:Str->Option Value}{base:Heap}{k:Nat}{f:Addr}{name qual:Str}{params:Arguments}{body:List Stmt}{scope:Scope}{kK kV dA pm bS ct dH:Value}{an cM:Option Addr}
  {es:Array (Option Value)} {N ps:List Str} {sp:Sp} (lk:K.lookup f=some ⟨dH,cM,.func (fnOf name qual params body scope kK kV dA pm an bS ct),es⟩) (fu:codeIn K bS qual=true) (S:Zu N ps scope)
  (len:∀vs H Q E,sp vs H Q E->vs.length=ps.length)
  (jK:∀(A:Around)(outer:List Env)(s:Shared)(H:Hp)(vs:List V)(Q:VK)(E:XK),df k (A.deeper (envOfC qual scope s.heap.objs.size f bS))->sp vs H Q E->
   ∃t,PSs (ZK CX P w K mg base N qual scope f bS A outer s H E) body t/\t {nx:=λ_ aH=>Q .non aH,rt:=Q} (start N vs) H):
  Yp P w K mg base CX (k+1) f (fnOf name qual params body scope kK kV dA pm an bS ct) ps sp:=by
 refine⟨len,λA outer s H args us vs Q E aR d4 aJ r gD=>?_⟩;have aK:=len _ _ _ _ gD;have dC:K.In s.heap:=d4.mod.kin.keeps λb o e=>(d4.bs b o e).1;have uW:s.heap.NoLimit:=d4.mod.nolimit.keeps λb o e=>(d4.bs b o e).1;have h2:∀y∈ps.zip us,scope.names.lookup y.1=some .local\/(scope.names.lookup y.1=some .cell/\((cellsFrom (s.heap.objs.size+1) scope.names []).lookup y.1).isSome=true):=λ⟨n,v⟩ bt=>by
  rcases S.par n (List.of_mem_zip bt).1 with q|q
  .exact .inl q
  .exact .inr ⟨q,cellsFrom_some _ _ _ (.inl q)⟩
 refine codeAny_call_function aR.depth (dC _ _ lk) rfl S.co S.gen rfl (PySem.W.codeRec_of dC fu) (aJ _ _ _ _ ?_);refine wpAny_newFunctionEnv_cells S.kind h2 λenv bn s1 x=>?_;subst bn;refine⟨uW.keeps x.toInCall.keep,codeAny_func ?_⟩;obtain⟨t,bL,be⟩:=jK A outer s H vs Q E (aR.deeper _) gD;have I:Inv (ZK CX P w K mg base N qual scope f bS A outer s H E) [] (start N vs) H s1:=Zfp S aR.hd d4 aK r x;refine wpAny_mono (bL [] s1 (start N vs) H _ I be) (λeQ aX a4=>?_) λe aX a4=>a4;have fin:∀{a5:St}{aH:Hp}{v:V}{u:Value},Inv (ZK CX P w K mg base N qual scope f bS A outer s H E) [] a5 aH aX->bW v u->Q v aH->CE outer P w H s Q u aX:=
  λ{a5 aH v u} J b2 q=>⟨v,aH,J.os,J.bare,J.base,J.hok,b2,q⟩
 cases eQ with
 |ret u=>
  obtain⟨v,a5,aH,J,b2,q⟩:=a4;exact fin J b2 q
 |next=>
  obtain⟨a5,aH,J,q⟩:=a4;exact fin (v:=V.non) (u:=Value.none) J rfl q
 |brk=>
  obtain⟨_,_,_,q⟩:=a4;exact False.elim q
 |cont=>
  obtain⟨_,_,_,q⟩:=a4;exact False.elim q
section
variable {X:Cx}{x:Str}{p pos:Pos}{e:Expr}{bg:List Expr}{t:TA}{id T:String}{r:List V->Hp->VK->Prop}
def tCB (r:List V->Hp->VK->Prop) (t:TA):TE:=λao H Q=>t ao H λvs aL=>r vs aL Q
theorem cJ(aO:Yk X (.builtin id) r)(br:Gl X x)(aZ:X.mg x=none)(bO:bootBuiltins x=some (.builtin id))(aS:PA X (e::bg) t)(a':x≠"__name__" :=by decide)(eZ:(x==("__debug__" :Str))=false:=by decide)
  (bn:starEach (e::bg) X.env=(false,eval e X.env)::starEach bg X.env:=by rfl) (dQ:(backTo pos (starEach bg X.env)).any (·.1)=false:=by rfl):PE X (.Call (.Name x p) (e::bg) [] pos) (tCB r t):=by
 intro aI s ao H Q I h;refine wpAny_Call_Name_kw (jw I br aZ bO ?_ a' eZ);exact PyProof.Rows.callWith_builtin1 (thn (aS pos aI s ao H _ I h) λus s1 ⟨vs,aL,a_,bK,bQ⟩=>aO aI s1 ao aL vs us Q a_ bK bQ) bn dQ
theorem dR(aO:Yk X (.type T) r)(br:Gl X x)(aZ:X.mg x=none)(bO:bootBuiltins x=some (.type T))(aS:PA X (e::bg) t)(a':x≠"__name__" :=by decide)(eZ:(x==("__debug__" :Str))=false:=by decide)
  (bn:starEach (e::bg) X.env=(false,eval e X.env)::starEach bg X.env:=by rfl) (dQ:(backTo pos (starEach bg X.env)).any (·.1)=false:=by rfl):PE X (.Call (.Name x p) (e::bg) [] pos) (tCB r t):=by
 intro aI s ao H Q I h;refine wpAny_Call_Name_kw (jw I br aZ bO ?_ a' eZ);exact Jl (thn (aS pos aI s ao H _ I h) λus s1 ⟨vs,aL,a_,bK,bQ⟩=>aO aI s1 ao aL vs us Q a_ bK bQ) bn dQ
end
end L2
namespace HT
open PySem PyProof.Rows
section
variable {prog:Program}{w:World}{A:Around}{E:Value->Shared->Prop}{s:Shared}
theorem ZhP{t b:Addr}{vs em:List Value}{Q:Value->Shared->Prop}(bL:IsTup s.heap t vs.toArray)(aJ:IsTup s.heap b em.toArray)(bO:vs≠[])
  (aN:em=[]->Q (.ref t) s) (aQ:em≠[]->Q (.ref s.heap.objs.size) {s with heap:=s.heap.push {cls:= .type "tuple",data:= .seq (vs++em).toArray}})
  (hsz:vs.length+em.length<=sizeLine):wpAny (model prog w) A (binaryOp .Add (.ref t) (.ref b)) Q E s:=by
 obtain⟨⟨cls,dd,data,sl⟩,bf,aO,n,hd⟩:=id bL;obtain⟨⟨A8,pN,data2,kL⟩,iT,kM,et,jL⟩:=id aJ;simp only at aO hd kM jL;subst aO hd kM jL;have e:vs.toArray++em.toArray=(vs++em).toArray:=by simp
 by_cases hw:em=[]
 .exact concat_meets ⟨_,bf,rfl⟩ ⟨_,iT,rfl⟩ noFill_tuple_add seq_tuple_add PySem.F.slot_tuple_add PySem.F.entry_tuple_add (PySem.F.args_tuple_add_2 _ _)
   (tuple_addW1 t b vs.toArray em.toArray n et dd pN sl kL (by simpa using bO) (by simp[hw])) ⟨bf,iT,aN hw⟩
 .refine concat_meets ⟨_,bf,rfl⟩ ⟨_,iT,rfl⟩ noFill_tuple_add seq_tuple_add PySem.F.slot_tuple_add PySem.F.entry_tuple_add (PySem.F.args_tuple_add_2 _ _)
   (tuple_addW2 t b vs.toArray em.toArray n et dd pN sl kL (by simpa using bO) (by simpa using hw) (by rw[Qe,Qe];exact hsz)) ⟨bf,iT,?_⟩
  rw[e];exact aQ hw
noncomputable def sIx (n d:Nat):Option Int->Nat
 |none=>d
 |some v=>if v<0 then(v+(n:Int)).toNat else min v.toNat n
theorem Zc9(n d:Nat):sIx n d none=d:=rfl
theorem ZdV(n d k:Nat):sIx n d (some (k:Int))=min k n:=by
 show(if(k:Int)<0 then((k:Int)+(n:Int)).toNat else min (k:Int).toNat n)=min k n;rw[if_neg (by omega),Int.toNat_natCast]
theorem Zh9(n d:Nat)(hd:d<=n)(o:Option Int):sIx n d o<=n:=by
 cases o with
 |none=>exact hd
 |some v=>
  show(if v<0 then(v+(n:Int)).toNat else min v.toNat n)<=n
  by_cases bO:v<0
  .rw[if_pos bO];omega
  .rw[if_neg bO];exact Nat.min_le_right _ _
theorem Zd3(v:Int)(n d:Nat):(if v<0 then max (v+(n:Int)) 0 else min v (n:Int))=((sIx n d (some v):Nat):Int):=by
 show(if v<0 then max (v+(n:Int)) 0 else min v (n:Int))=(((if v<0 then(v+(n:Int)).toNat else min v.toNat n):Nat):Int)
 by_cases bO:v<0
 .simp only[if_pos bO];omega
 .simp only[if_neg bO];omega
theorem ZeV(lo aM:Option Int)(n:Nat):Builtin.Slice.sliceAdjust lo aM 1 (n:Int)=(((sIx n 0 lo:Nat):Int),((sIx n n aM:Nat):Int)):=by
 have aN:¬((1:Int)<0):=by omega
 unfold Builtin.Slice.sliceAdjust;simp only[aN,if_false];refine Prod.ext ?_ ?_
 .cases lo with
  |none=>rfl
  |some v=>exact Zd3 v n 0
 .cases aM with
  |none=>rfl
  |some v=>exact Zd3 v n n
theorem Ze7(i j:Nat):Builtin.Slice.slicePlaces (i:Int) (j:Int) 1=j-i:=by
 unfold Builtin.Slice.slicePlaces;have aN:(1:Int) > 0:=by omega
 simp only[aN,if_true,Int.ediv_one]
 split<;>omega
theorem pO{v:Value}{o:Option Int}{Q:Option Int->Shared->Prop}(p:IsPart v o)(h:Q o s):wpAny (model prog w) A (Builtin.Slice.slicePartIndex v) Q E s:=by
 cases p with
 |none=>exact slicePart_none h
 |int i t=>exact slicePart_int h
theorem uX{sl:Addr}{d8 d9:Value}{lo aM:Option Int}{n:Nat}{Q:Int×Int×Nat->Shared->Prop}(a4:s.heap.IsSliceOf sl d8 d9 .none)(pl:IsPart d8 lo)(e0:IsPart d9 aM)
  (h:Q (((sIx n 0 lo:Nat):Int),1,sIx n n aM-sIx n 0 lo) s):wpAny (model prog w) A (Builtin.Slice.sliceApplied (.ref sl) (pure (n:Int))) Q E s:=by
 obtain⟨os,jM,pP,g_⟩:=id a4;unfold Builtin.Slice.sliceApplied Builtin.Slice.sliceFields;refine wpAny_bind (wpAny_bind (wpAny_field jM g_ (x:=d8) rfl (wpAny_bind (wpAny_field jM g_ (x:=d9) rfl (wpAny_bind (wpAny_field jM g_ (x:= .none) rfl (wpAny_pure ?_)))))));refine wpAny_bind (slicePart_none ?_);show wpAny _ _ (if((1:Int)==0)=true then _ else _) _ _ s;rw[if_neg (by decide)];refine wpAny_bind (pO pl (wpAny_bind (pO e0 (wpAny_bind (wpAny_pure ?_)))));show wpAny _ _ (match Builtin.Slice.sliceAdjust lo aM 1 (n:Int) with|(lo,aM)=>pure (lo,(1:Int),Builtin.Slice.slicePlaces lo aM 1)) _ _ s;rw[ZeV lo aM n];show wpAny _ _ (pure (((sIx n 0 lo:Nat):Int),(1:Int),Builtin.Slice.slicePlaces ((sIx n 0 lo:Nat):Int) ((sIx n n aM:Nat):Int) 1)) _ _ s;rw[Ze7];exact wpAny_pure h
theorem uY(xs:Array Value)(i k:Nat):((List.range k).filterMap λ(m:Nat)=>xs[((i:Int)+(m:Int)*1).toNat]?).toArray=((xs.toList.drop i).take k).toArray:=by
 have e:(λ(m:Nat)=>xs[((i:Int)+(m:Int)*1).toNat]?)=λm=>xs[i+m]? :=by
  funext m
  have:((i:Int)+(m:Int)*1).toNat=i+m:=by omega
  rw[this]
 rw[e];have:=pick_run xs i k;rw[List.filterMap_map] at this;have bh:((λx=>xs[x]?)∘λx=>i+x)=λm=>xs[i+m]? :=rfl;rw[bh] at this;rw[this]
theorem Zak{t sl:Addr}{ca:Array Value}{d8 d9:Value}{lo aM:Option Int}{Q:Value->Shared->Prop}(bL:IsTup s.heap t ca)(a4:s.heap.IsSliceOf sl d8 d9 .none)(pl:IsPart d8 lo)(e0:IsPart d9 aM)
  (hw:¬(sIx ca.size 0 lo=0/\sIx ca.size ca.size aM=ca.size))
  (h:Q (.ref s.heap.objs.size) {s with heap:=s.heap.push {cls:= .type "tuple",data:= .seq ((ca.toList.drop (sIx ca.size 0 lo)).take (sIx ca.size ca.size aM-sIx ca.size 0 lo)).toArray}})
  (hsz:ca.size<=sizeLine):wpAny (model prog w) A (getItem (.ref t) (.ref sl)) Q E s:=by
 have kN:sizeOk (.seq ((ca.toList.drop (sIx ca.size 0 lo)).take (sIx ca.size ca.size aM-sIx ca.size 0 lo)).toArray):=by
  show((ca.toList.drop (sIx ca.size 0 lo)).take (sIx ca.size ca.size aM-sIx ca.size 0 lo)).toArray.size<=sizeLine;rw[Qe,Q5,Q6,Jd];omega
 have bP:sIx ca.size ca.size aM<=ca.size:=Zh9 _ _ (Qb _) aM;obtain⟨os,jM,pP,g_⟩:=id a4;have uZ:s.TypeIs (.ref sl) "slice" :=⟨os,jM,pP⟩;unfold getItem
 try with_reducible refine wpAny_holding ?_
 first|refine wpAny_bind (wpAny_pure ?_)|skip
 refine wpAny_bind (wpAny_sequenceKey bL.typeIs (by decide) ?_);refine wpAny_bind (wpAny_callSpecial?_slot (name:=Str.ofString "__getitem__") bL.typeIs Jc
  (wpAny_call_entry Jc bL.typeIs entry_tuple_getitem ?_ (args_tuple_getitem _ _)))
 show wpAny _ _ (Builtin.Tuple.tupleItemsOf (.ref t) >>= _) _ _ s;refine wpAny_bind (tupleItemsOf_ bL ?_);refine wpAny_bind (wpAny_typeOf uZ ?_);rw[if_pos (by decide)];refine wpAny_bind (uX a4 pl e0 ?_);have f6:¬((((sIx ca.size 0 lo:Nat):Int)==0&&(1:Int)==1&&(sIx ca.size ca.size aM-sIx ca.size 0 lo)==ca.size)=true):=by
  intro q;rw[Qz,Qz] at q;have bQ:((sIx ca.size 0 lo:Nat):Int)=0:=eq_of_beq q.1.1;have cQ:sIx ca.size ca.size aM-sIx ca.size 0 lo=ca.size:=eq_of_beq q.2;exact hw ⟨by omega,by omega⟩
 show wpAny _ _ (if(((sIx ca.size 0 lo:Nat):Int)==0&&(1:Int)==1&&(sIx ca.size ca.size aM-sIx ca.size 0 lo)==ca.size)=true then _ else _) _ _ s;rw[if_neg f6,uY]
 first
  |exact wpAny_bind (m:=Builtin.Tuple.tupleExact _) (wpAny_newObj_type (wpAny_pure ⟨_,rfl,wpAny_pure h⟩) kN)
  |exact wpAny_bind (m:=Builtin.Tuple.tupleExact _) (wpAny_newObj_type (wpAny_bind (wpAny_pure (wpAny_pure ⟨_,rfl,wpAny_pure h⟩))) kN)
  |exact wpAny_bind (wpAny_bind (m:=Builtin.Tuple.tupleExact _) (wpAny_newObj_type (wpAny_pure (wpAny_pure ⟨_,rfl,wpAny_pure h⟩)) kN))
  |exact wpAny_bind (wpAny_bind (m:=Builtin.Tuple.tupleExact _) (wpAny_newObj_type (wpAny_pure ⟨_,rfl,wpAny_pure h⟩) kN))
end
end HT
namespace L2
open PySem PySem.Spec PyProof.Rows
noncomputable abbrev TO:=St->Hp->(Option Int->Hp->Prop)->Prop
def PO(X:Cx)(e:Option Expr)(t:TO):Prop:=
 ∀(aI:List (Addr×Obj))(s:Shared)(ao:St)(H:Hp)(Q:Option Int->Hp->Prop),Inv X aI ao H s->t ao H Q->
  wpAny (model X.prog X.w) X.A (evalPart e X.env) (λu aX=>∃o aH,Inv X aI ao aH aX/\IsPart u o/\Q o aH) X.xe s
def tNoPart:TO:=λ_ H Q=>Q none H
def pQ (t:TE):TO:=λao H Q=>t ao H λx aL=>∃i,x= .int i/\Q (some i) aL
section
variable {X:Cx}{e:Expr}{bH:TE}{lo aM:Option Expr}{tl h3:TO}{pos dZ:Pos}
theorem iU:PO X none tNoPart:=by
 intro aI s ao H Q I h;rw[evalPart_none];exact wpAny_pure ⟨none,H,I,.none,h⟩
theorem iV(h:PE X e bH):PO X (some e) (pQ bH):=by
 intro aI s ao H Q I hw;rw[evalPart_some];refine thn (h aI s ao H _ I hw) λu s1 ⟨x,aL,a_,bK,bQ⟩=>?_;obtain⟨i,rfl,q⟩:=bQ;obtain⟨t,rfl⟩:=bK;exact⟨some i,aL,a_,.int i t,q⟩
def SlR(X:Cx)(r:V->Option Int->Option Int->Hp->VK->Prop):Prop:=
 ∀(aI:List (Addr×Obj))(s:Shared)(ao:St)(H:Hp)(x:V)(v d8 d9:Value)(lo aM:Option Int)(sl:Addr)(Q:VK),Inv X aI ao H s->bW x v->s.heap.IsSliceOf sl d8 d9 .none->IsPart d8 lo->IsPart d9 aM->r x lo aM H Q->
  ∃T id,typeLookup (.type T) "__getitem__" =pure (some (.builtin id))/\s.TypeIs v T/\wpAny (model X.prog X.w) X.A (getItem v (.ref sl)) (EP X aI ao Q) X.xe s
theorem SlR.or{r b7:V->Option Int->Option Int->Hp->VK->Prop}(h:SlR X r)(h':SlR X b7):SlR X (λx lo aM H Q=>r x lo aM H Q\/b7 x lo aM H Q):=by
 intro aI s ao H x v d8 d9 lo aM sl Q I a8 a4 pl e0 q;rcases q with q|q
 .exact h aI s ao H x v d8 d9 lo aM sl Q I a8 a4 pl e0 q
 .exact h' aI s ao H x v d8 d9 lo aM sl Q I a8 a4 pl e0 q
def tSl (r:V->Option Int->Option Int->Hp->VK->Prop) (bH:TE) (tl h3:TO):TE:=λao H Q=>bH ao H λx aL=>tl ao aL λl aY=>h3 ao aY λu bT=>r x l u bT Q
theorem iW{r:V->Option Int->Option Int->Hp->VK->Prop}(aR:SlR X r)(bn:PE X e bH)(aK:PO X lo tl)(hu:PO X aM h3):PE X (.Subscript e (.Slice lo aM none dZ) pos) (tSl r bH tl h3):=by
 intro aI s ao H Q I h;refine Subscript_ (thn (bn aI s ao H _ I h) λv s1 ⟨x,aL,a_,bK,bQ⟩=>?_);refine wpAny_Slice (thn (aK aI s1 ao aL _ a_ bQ) λd8 bw ⟨l,aY,b9,pl,cQ⟩=>thn (hu aI bw ao aY _ b9 cQ) λd9 bA ⟨u,bT,db,e0,eW⟩=>?_);rw[evalPart_none];refine wpAny_pure ?_;have jC:Inv X aI ao bT {bA with heap:=bA.heap.push {cls:= .type "slice",data:= .fields #[d8,d9,.none]}}:=db.kept (t':=bA.toks) λb bE q=>Heap.get?_push_of_some _ q;obtain⟨T,id,ef,bL,br⟩:=aR aI {bA with heap:=bA.heap.push {cls:= .type "slice",data:= .fields #[d8,d9,.none]}} ao bT x v d8 d9 l u bA.heap.objs.size Q jC bK (Heap.IsSliceOf.new ..) pl e0 eW;show wpAny (model X.prog X.w) X.A (subscriptTail e (.Slice lo aM none dZ) v (.ref bA.heap.objs.size)) (EP X aI ao Q) X.xe {bA with heap:=bA.heap.push {cls:= .type "slice",data:= .fields #[d8,d9,.none]}};exact tail_any (ops:=[.ref bA.heap.objs.size,v]) bL ef br (by with_unfolding_all rfl)
noncomputable def f7 (xs:List V) (lo aM:Option Int):List V:=(xs.drop (HT.sIx xs.length 0 lo)).take (HT.sIx xs.length xs.length aM-HT.sIx xs.length 0 lo)
theorem pR(xs:List V)(lo aM:Option Int):(f7 xs lo aM).length<=xs.length:=by
 unfold f7;rw[Q5,Q6];omega
def pS (K:Frag):V->Option Int->Option Int->Hp->VK->Prop:=λx lo aM H Q=>∃a xs,x= .ref a/\SqT K H a xs/\
 ¬(HT.sIx xs.length 0 lo=0/\HT.sIx xs.length xs.length aM=xs.length)/\∀p,H p=none->Q (.ref p) (upd H p (.tup (f7 xs lo aM)))
theorem u0:SlR X (pS X.K):=by
 intro aI s ao H x v d8 d9 lo aM sl Q I a8 a4 pl e0 h;obtain⟨a,xs,rfl,aV,hw,q⟩:=h;cases a8;obtain⟨its,r,bL,hz⟩:=I.tuple aV;have cU:its.toArray.size=xs.length:=by rw[Qe];exact r.length.symm
 refine⟨"tuple",_,Jc.lookup,bL.typeIs,?_⟩;refine HT.Zak bL a4 pl e0 (by rw[cU];exact hw) ?_ (by rw[cU];exact hz);rw[cU];refine⟨.ref s.heap.objs.size,_,I.laid (t':=s.toks) (o:= .tup (f7 xs lo aM)) (λb bE q=>Heap.get?_push_of_some _ q) (Qb _) ?_,rfl,q _ (I.hok.fresh (Qb _))⟩;exact⟨Qu (pR xs lo aM) hz,_,(r.drop (HT.sIx xs.length 0 lo)).take (HT.sIx xs.length xs.length aM-HT.sIx xs.length 0 lo),IsTup.new _ _⟩
def kO (K:Frag):R2:=λx y H Q=>∃a b xs ys,x= .ref a/\y= .ref b/\SqT K H a xs/\SqT K H b ys/\xs≠[]/\xs.length+ys.length<=sizeLine/\
 (ys=[]->Q (.ref a) H)/\(ys≠[]->∀p,H p=none->Q (.ref p) (upd H p (.tup (xs++ys))))
theorem bD.nil_iff{xs:List V}{us:List Value}(r:bD xs us):us=[]↔xs=[]:=by
 cases r with
 |nil=>simp
 |cons _ _=>simp
theorem u1:OpR X (binaryOp .Add) (kO X.K):=by
 intro aI s ao H x y v u Q I a8 bj h;obtain⟨a,b,xs,ys,rfl,rfl,aS,aJ,aV,hz,bQ,cQ⟩:=h;cases a8;cases bj;obtain⟨its,bK,d_,_⟩:=I.tuple aS;obtain⟨f8,cp,dZ,_⟩:=I.tuple aJ;refine HT.ZhP d_ dZ (λz=>aV (bK.nil_iff.mp z)) (λz=>⟨.ref a,H,I,rfl,bQ (cp.nil_iff.mp z)⟩) (λz=>?_) (by rw[<-bK.length,<-cp.length];exact hz);refine⟨.ref s.heap.objs.size,_,I.laid (t':=s.toks) (o:= .tup (xs++ys)) (λb bE q=>Heap.get?_push_of_some _ q) (Qb _) ?_,rfl,cQ (λw=>z (cp.nil_iff.mpr w)) _ (I.hok.fresh (Qb _))⟩;exact⟨by rw[Qf];exact hz,_,bK.append cp,IsTup.new _ _⟩
end
noncomputable def ixN (n:Nat) (i:Int):Option Nat:=if 0<=i then(if i<n then some i.toNat else none) else if -(n:Int)<=i then some (i+n).toNat else none
noncomputable def atI {bv:Type} (xs:List bv) (i:Int):Option bv:=(ixN xs.length i).bind λj=>xs[j]?
theorem ZhD{n:Nat}{i:Int}{j:Nat}(h:ixN n i=some j):seqIndex? i n=some j/\j<n/\ -(n:Int)<=i/\i<n:=by
 unfold ixN at h
 by_cases ce:0<=i
 .rw[if_pos ce] at h
  by_cases aN:i<n
  .rw[if_pos aN] at h;have e:i.toNat=j:=Qt h;exact⟨by rw[seqIndex_of ce aN,e],by omega,by omega,aN⟩
  .rw[if_neg aN] at h;cases h
 .rw[if_neg ce] at h
  by_cases aN: -(n:Int)<=i
  .rw[if_pos aN] at h;have e:(i+n).toNat=j:=Qt h;exact⟨by rw[seqIndex_neg (by omega) aN,e],by omega,aN,by omega⟩
  .rw[if_neg aN] at h;cases h
theorem Zbz{bv:Type}{xs:List bv}{i:Int}{v:bv}(h:atI xs i=some v):∃j,seqIndex? i xs.length=some j/\xs[j]? =some v/\j<xs.length/\ -(xs.length:Int)<=i/\i<xs.length:=by
 unfold atI at h;cases e:ixN xs.length i with
 |none=>rw[e] at h;cases h
 |some j=>
  rw[e] at h;obtain⟨aN,aQ,bJ,cx⟩:=ZhD e;exact⟨j,aN,h,aQ,bJ,cx⟩
theorem Vh{bv:Type}{xs:List bv}{j:Nat}{v:bv}(h:xs[j]? =some v):atI xs (j:Int)=some v:=by
 have bP:j<xs.length:=(Q8.mp h).1;have e:ixN xs.length (j:Int)=some j:=by
  unfold ixN;rw[if_pos (by omega),if_pos (by omega)];simp
 unfold atI;rw[e];exact h
def ZhB(b:Expr):Prop:=∀o i,subscripted b false o i=operate [o,i] (getItem o i)
def IxR(X:Cx)(r:R2):Prop:=
 ∀(value slice:Expr)(aI:List (Addr×Obj))(s:Shared)(ao:St)(H:Hp)(x y:V)(v u:Value)(Q:VK),Inv X aI ao H s->bW x v->bW y u->r x y H Q->
  subscripted slice false v u=operate [v,u] (getItem v u)->wpAny (model X.prog X.w) X.A (subscriptTail value slice v u) (EP X aI ao Q) X.xe s
def MtR(X:Cx)(id:String)(r:V->List V->Hp->VK->Prop):Prop:=
 ∀(aI:List (Addr×Obj))(s:Shared)(ao:St)(H:Hp)(x:V)(xs:List V)(v:Value)(us:List Value)(Q:VK),Inv X aI ao H s->bW x v->bD xs us->r x xs H Q->
  wpAny (model X.prog X.w) X.A (call (.builtin id) (v::us)) (EP X aI ao Q) X.xe s
section
variable {X:Cx}{a b:Expr}{bc bG:TE}{pos:Pos}
theorem IxR.or{r b7:R2}(h:IxR X r)(h':IxR X b7):IxR X (λx y H Q=>r x y H Q\/b7 x y H Q):=by
 intro value slice aI s ao H x y v u Q I a8 bj q a4;rcases q with q|q
 .exact h value slice aI s ao H x y v u Q I a8 bj q a4
 .exact h' value slice aI s ao H x y v u Q I a8 bj q a4
theorem cd{r:R2}(aR:IxR X r)(aS:PE X a bc)(aJ:PE X b bG)(a4:ZhB b):PE X (.Subscript a b pos) (tOp r bc bG):=by
 intro aI s ao H Q I h;exact Subscript_ (ml aS aJ I h λv u bw x y aY b9 a8 bj q=>aR a b aI bw ao aY x y v u Q b9 a8 bj q (a4 _ _))
def Ze8 (K:Frag):R2:=λx y H Q=>∃p xs i v,x= .ref p/\y= .int i/\SqL K H p xs/\atI xs i=some v/\Q v H
def mB (K:Frag):R2:=λx y H Q=>∃p xs i v,x= .ref p/\y= .int i/\SqT K H p xs/\atI xs i=some v/\Q v H
def rIxS:R2:=λx y H Q=>∃z i c,x= .str z/\y= .int i/\z.length<=sizeLine/\atI z.cps.toList i=some c/\Q (.str ⟨#[c]⟩) H
theorem u2:IxR X (Ze8 X.K):=by
 intro value slice aI s ao H x y v u Q I a8 bj h a4;obtain⟨p,xs,i,z,rfl,rfl,be,bn,q⟩:=h;cases a8;obtain⟨t,rfl⟩:=bj;obtain⟨its,r,pl,hz⟩:=I.list be;obtain⟨j,aN,aQ,bJ,cx,ea⟩:=Zbz bn;obtain⟨w,iX,ha⟩:=r.get aQ;have aK:=r.length;have a':=jG;have fin:EP X aI ao Q w s:=⟨z,H,I,ha,q⟩
 by_cases ce:0<=i
 .have bP:i.toNat=j:=by
   rw[seqIndex_of ce ea] at aN;exact Qt aN
  exact item_listR pl.isList ce (by omega) (by rw[bP];simpa using iX) fin a4
 .have bP:(i+(its.toArray.size:Int)).toNat=j:=by
   rw[seqIndex_neg (by omega) cx] at aN;rw[Qe,<-aK];exact Qt aN
  exact subscriptTail_builtinR (x:=w) pl.isList.typeIs slot_list_getitem.lookup
   (wpAny_getItem_list_neg (Q:=λr aX=>r=w/\EP X aI ao Q r aX) pl.isList (by omega) (by rw[Qe]<;>omega) (by omega) (by rw[bP];simpa using iX) ⟨rfl,fin⟩) a4
theorem u3:IxR X (mB X.K):=by
 intro value slice aI s ao H x y v u Q I a8 bj h a4;obtain⟨p,xs,i,z,rfl,rfl,be,bn,q⟩:=h;cases a8;obtain⟨t,rfl⟩:=bj;obtain⟨its,r,pl,hz⟩:=I.tuple be;obtain⟨j,aN,aQ,bJ,cx,ea⟩:=Zbz bn;obtain⟨w,iX,ha⟩:=r.get aQ;have aK:=r.length;have a':=jG;have fin:EP X aI ao Q w s:=⟨z,H,I,ha,q⟩;exact subscriptTail_builtinR (x:=w) pl.typeIs slot_tuple_getitem.lookup
  (getItem_tuple (j:=j) (Q:=λr aX=>r=w/\EP X aI ao Q r aX) pl (by omega) (by omega) (by rw[Qe,<-aK];exact aN) (by simpa using iX) ⟨rfl,fin⟩) a4
theorem u4:IxR X rIxS:=by
 intro value slice aI s ao H x y v u Q I a8 bj h a4;obtain⟨z,i,c,rfl,rfl,hz,bn,q⟩:=h;obtain⟨t,rfl⟩:=a8;obtain⟨t',rfl⟩:=bj;obtain⟨j,aN,aQ,bJ,cx,ea⟩:=Zbz bn;have aK:z.cps.toList.length=z.length:=by simp[Str.length]
 rw[aK] at aN cx ea;have a':=jG;exact tail_any (typeIs_str s z t) slot_str_getitem.lookup (getItem_str (c:=c) (by
  have bb:decide (i< -(2 ^ 63:Int))=false:=decide_eq_false (by omega);have bh:decide (i≥2 ^ 63)=false:=decide_eq_false (by omega);rw[bb,bh,Bool.or_false]) (by rw[aN];simpa using aQ) ⟨.str ⟨#[c]⟩,H,I.tok _,⟨_,rfl⟩,q⟩) a4
def rIx (K:Frag):R2:=λx y H Q=>Ze8 K x y H Q\/mB K x y H Q\/rIxS x y H Q
theorem u5:IxR X (rIx X.K):=u2.or (u3.or u4)
theorem Zc7(lo aM:Option Int)(n:Nat):(sliceBounds lo aM none n).1=((HT.sIx n 0 lo:Nat):Int)/\(sliceBounds lo aM none n).2.1=((HT.sIx n n aM:Nat):Int)/\(sliceBounds lo aM none n).2.2=1:=by
 refine⟨?_,?_,rfl⟩
 .cases lo with
  |none=>simp[sliceBounds,HT.sIx]
  |some i=>
   simp only[sliceBounds,HT.sIx,Option.getD_none,show(1:Int) > 0 by decide,if_true]
   by_cases h:i<0
   .simp only[h,if_true]<;>omega
   .simp only[h,if_false]<;>omega
 .cases aM with
  |none=>simp[sliceBounds,HT.sIx]
  |some i=>
   simp only[sliceBounds,HT.sIx,Option.getD_none,show(1:Int) > 0 by decide,if_true]
   by_cases h:i<0
   .simp only[h,if_true]<;>omega
   .simp only[h,if_false]<;>omega
theorem Zcu(its:List Value)(lo aM:Option Int):slicePick its.toArray lo aM none=((its.drop (HT.sIx its.length 0 lo)).take (HT.sIx its.length its.length aM-HT.sIx its.length 0 lo)).toArray:=by
 obtain⟨aN,aQ,bJ⟩:=Zc7 lo aM its.toArray.size;unfold slicePick;rw[aN,aQ,bJ];simp only[sliceRange_one,pick_run,Qe]<;>rfl
def pT (K:Frag):V->Option Int->Option Int->Hp->VK->Prop:=λx lo aM H Q=>∃a xs,x= .ref a/\SqL K H a xs/\∀p,H p=none->Q (.ref p) (upd H p (.lst (f7 xs lo aM)))
theorem u6:SlR X (pT X.K):=by
 intro aI s ao H x v d8 d9 lo aM sl Q I a8 a4 pl e0 h;obtain⟨a,xs,rfl,aV,q⟩:=h;cases a8;obtain⟨its,r,bL,hz⟩:=I.list aV;have cU:=r.length;refine⟨"list",_,slot_list_getitem.lookup,bL.isList.typeIs,?_⟩;refine wpAny_getItem_list_slice bL.isList a4 pl e0 .none (by simp) ?_ (by rw[Qe]<;>omega);rw[Zcu,<-cU];refine⟨.ref s.heap.objs.size,_,I.laid (t':=s.toks) (o:= .lst (f7 xs lo aM)) (λb bE q=>Heap.get?_push_of_some _ q) (Qb _) ?_,rfl,q _ (I.hok.fresh (Qb _))⟩;exact⟨Qu (pR xs lo aM) hz,_,0,(r.drop (HT.sIx xs.length 0 lo)).take (HT.sIx xs.length xs.length aM-HT.sIx xs.length 0 lo),Heap.get?_push_size _ rfl⟩
noncomputable def hb:V->Bool
 | .non=>true
 | .bl _=>true
 | .int _=>true
 | .str _=>true
 |_=>false
noncomputable def eqV:V->V->Bool
 | .non,.non=>true
 | .bl a,.bl b=>a==b
 | .bl a,.int b=>(if a then 1 else 0)==b
 | .int a,.bl b=>a==(if b then 1 else 0)
 | .int a,.int b=>a==b
 | .str a,.str b=>a==b
 |_,_=>false
theorem ZiU{A:Around}{s:Shared}{y x:V}{u v:Value}(bj:bW y u)(a8:bW x v)(u7:hb y=true)(gE:hb x=true):SeqAt.EqAt A s u v (eqV y x):=by
 cases y with
 |non=>
  cases bj;cases x with
  |non=>cases a8;exact SeqAt.EqAt.same _
  |bl b=>cases a8;exact SeqAt.EqAt.none_bool b
  |int b=>obtain⟨t,rfl⟩:=a8;exact SeqAt.EqAt.none_int b t
  |str b=>obtain⟨t,rfl⟩:=a8;exact SeqAt.EqAt.none_str b t
  |_=>exact absurd (show false=true from gE) Qg
 |bl a=>
  cases bj;cases x with
  |non=>cases a8;exact SeqAt.EqAt.bool_none a
  |bl b=>cases a8;exact SeqAt.EqAt.bool_bool a b
  |int b=>obtain⟨t,rfl⟩:=a8;exact SeqAt.EqAt.bool_int a b t
  |str b=>obtain⟨t,rfl⟩:=a8;exact SeqAt.EqAt.bool_str a b t
  |_=>exact absurd (show false=true from gE) Qg
 |int a=>
  obtain⟨t',rfl⟩:=bj;cases x with
  |non=>cases a8;exact SeqAt.EqAt.int_none a t'
  |bl b=>cases a8;exact SeqAt.EqAt.int_bool a t' b
  |int b=>obtain⟨t,rfl⟩:=a8;exact SeqAt.EqAt.int_int a t' b t
  |str b=>obtain⟨t,rfl⟩:=a8;exact SeqAt.EqAt.int_str a t' b t
  |_=>exact absurd (show false=true from gE) Qg
 |str a=>
  obtain⟨t',rfl⟩:=bj;cases x with
  |non=>cases a8;exact SeqAt.EqAt.str_none a t'
  |bl b=>cases a8;exact SeqAt.EqAt.str_bool a t' b
  |int b=>obtain⟨t,rfl⟩:=a8;exact SeqAt.EqAt.str_int a t' b t
  |str b=>obtain⟨t,rfl⟩:=a8;exact SeqAt.EqAt.str_str a t' b t
  |_=>exact absurd (show false=true from gE) Qg
 |_=>exact absurd (show false=true from u7) Qg
noncomputable def eqU (x:V) (u:Value):Bool:=match u with
 | .none=>eqV .non x
 | .bool b=>eqV (.bl b) x
 | .int i _=>eqV (.int i) x
 | .str z _=>eqV (.str z) x
 |_=>false
theorem pU{x y:V}{u:Value}(r:bW y u)(f:hb y=true):eqU x u=eqV y x:=by
 cases y with
 |non=>cases r;rfl
 |bl b=>cases r;rfl
 |int i=>obtain⟨t,rfl⟩:=r;rfl
 |str z=>obtain⟨t,rfl⟩:=r;rfl
 |_=>exact absurd (show false=true from f) Qg
theorem mC{x:V}:∀{xs:List V}{us:List Value},bD xs us->xs.all hb=true->us.any (eqU x)=xs.any λy=>eqV y x
 |_,_,.nil,_=>rfl
 |y::xs,u::us,.cons r t,f=>by
  rw[List.all_cons,Qz] at f;rw[JA,JA,pU r f.1,mC t f.2]
theorem ZaY{A:Around}{s:Shared}{x:V}{v:Value}(a8:bW x v)(gE:hb x=true):∀{xs:List V}{us:List Value},bD xs us->xs.all hb=true->∀u∈us,SeqAt.EqAt A s u v (eqU x u)
 |_,_,.nil,_=>λu hu=>by cases hu
 |y::xs,u::us,.cons r t,f=>λhR hu=>by
  rw[List.all_cons,Qz] at f;rcases Qi.mp hu with rfl|hu
  .rw[pU r f.1];exact ZiU r a8 f.1 gE
  .exact ZaY a8 gE t f.2 hR hu
noncomputable def inV (x:V) (xs:List V):Bool:=xs.any λy=>eqV y x
def rIn (K:Frag) (neg:Bool):R2:=λx y H Q=>∃p xs,y= .ref p/\(SqL K H p xs\/SqT K H p xs)/\hb x=true/\xs.all hb=true/\Q (.bl (if neg then !inV x xs else inV x xs)) H
theorem u8:OpR X (compareOp .NotIn) (rIn X.K true):=by
 intro aI s ao H x y v u Q I a8 bj h;obtain⟨p,xs,rfl,be,gE,fs,q⟩:=h;cases bj;rcases be with be|be
 .obtain⟨its,r,pl,hz⟩:=I.list be;refine SeqAt.notIn_listAt (eqU x) pl.isList (λw hw=>ZaY a8 gE r fs w (by simpa using hw)) ⟨.bl _,H,I,rfl,?_⟩;rw[show its.toArray.any (eqU x)=its.any (eqU x) by simp,mC r fs];exact q
 .obtain⟨its,r,pl,hz⟩:=I.tuple be;refine SeqAt.notIn_tupleAt (eqU x) pl (λw hw=>ZaY a8 gE r fs w (by simpa using hw)) ⟨.bl _,H,I,rfl,?_⟩;rw[show its.toArray.any (eqU x)=its.any (eqU x) by simp,mC r fs];exact q
theorem u9:Yk X (.type "list") (λxs H Q=>∃p ys,xs=[.ref p]/\(SqL X.K H p ys\/SqT X.K H p ys)/\∀l,H l=none->Q (.ref l) (upd H l (.lst ys))):=by
 intro aI s ao H xs us Q I r h;obtain⟨p,ys,rfl,be,q⟩:=h;obtain⟨u,rfl,a8⟩:=Wa r;cases a8;have fin:∀(its:List Value),bD ys its->ys.length<=sizeLine->∀(h':Heap)(ck:Nat),(∀b bZ,s.heap.get? b=some bZ->h'.get? b=some bZ)->
   h'.get? s.heap.objs.size=some {cls:= .type "list",dict:=none,data:= .seq its.toArray ck,slots:=#[]}->EP X aI ao Q (.ref s.heap.objs.size) {s with heap:=h'}:=λits b7 hz h' ck kp e=>
  ⟨.ref s.heap.objs.size,_,I.laid (t':=s.toks) kp (Qb _) (show ZQ X.prog X.w _ h' _ (.lst ys) from⟨hz,its,ck,b7,e⟩),rfl,q _ (I.hok.fresh (Qb _))⟩
 rcases be with be|be
 .obtain⟨its,b7,pl,hz⟩:=I.list be;have cU:=b7.length;obtain⟨o,bf,aO,n,hd⟩:=pl.isList;exact call_list_seq p (.inl rfl) bf aO hd (λh' ck kp e=>fin its b7 hz h' ck kp e) (by simp only[Qe]<;>omega)
 .obtain⟨its,b7,pl,hz⟩:=I.tuple be;have cU:=b7.length;obtain⟨o,bf,aO,n,hd⟩:=pl;exact call_list_seq p (.inr rfl) bf aO hd (λh' ck kp e=>fin its b7 hz h' ck kp e) (by simp only[Qe]<;>omega)
theorem u_:Yk X (.type "tuple") (λxs H Q=>∃p ys,xs=[.ref p]/\((SqL X.K H p ys/\∀l,H l=none->Q (.ref l) (upd H l (.tup ys)))\/(SqT X.K H p ys/\Q (.ref p) H))):=by
 intro aI s ao H xs us Q I r h;obtain⟨p,ys,rfl,h⟩:=h;obtain⟨u,rfl,a8⟩:=Wa r;cases a8;rcases h with⟨be,q⟩|⟨be,q⟩
 .obtain⟨its,b7,pl,hz⟩:=I.list be;have cU:=b7.length;refine call_tuple_list pl.isList (λh' kp=>?_) (by simp only[Qe]<;>omega);have a_:Inv X aI ao H {s with heap:=h'}:=I.kept (t':=s.toks) kp;have b9:Inv X aI ao (upd H h'.objs.size (.tup ys)) {s with heap:=h'.push {cls:= .type "tuple",data:= .seq its.toArray}}:=
   a_.laid (t':=s.toks) (λb o e=>Heap.get?_push_of_some _ e) (Qb _) (show ZQ X.prog X.w _ _ _ (.tup ys) from⟨hz,its,b7,IsTup.new _ _⟩)
  exact⟨.ref h'.objs.size,_,b9,rfl,q _ (a_.hok.fresh (Qb _))⟩
 .obtain⟨its,b7,pl,hz⟩:=I.tuple be;exact call_tuple_same pl ⟨.ref p,H,I,rfl,q⟩
def tyV(K:Frag)(T:String)(x:V)(H:Hp):Prop:=match x with
 | .str _=>T="str"
 | .int _=>T="int"
 | .ref p=>(T="list" /\∃xs,SqL K H p xs)\/(T="tuple" /\∃o,K.lookup p=some o/\o.cls= .type "tuple" /\o.dict=none)\/
   (T="dict" /\((∃kvs,H p=some (.dK kvs))\/∃kvs,H p=some (.dT kvs)))\/(T="set" /\∃S n,H p=some (.set S n))
 |_=>False
theorem ZfP{aI:List (Addr×Obj)}{ao:St}{H:Hp}{s:Shared}{T:String}{x:V}{v:Value}(I:Inv X aI ao H s)(r:bW x v)(ty:tyV X.K T x H):
  s.TypeIs v T/\∀a,v= .ref a->∃bE,s.heap.get? a=some bE/\bE.dict=none:=by
 cases x with
 |str z=>
  obtain⟨t,rfl⟩:=r;cases (show T="str" from ty);exact⟨typeIs_str s z t,λ_ e=>nomatch e⟩
 |int i=>
  obtain⟨t,rfl⟩:=r;cases (show T="int" from ty);exact⟨typeIs_int s i t,λ_ e=>nomatch e⟩
 |ref p=>
  cases r;rcases ty with⟨rfl,xs,be⟩|⟨rfl,o,aT,aO,hd⟩|⟨rfl,aT⟩|⟨rfl,S,n,aT⟩
  .obtain⟨its,_,pl,_⟩:=I.list be;refine⟨pl.isList.typeIs,λa e=>?_⟩;cases e;obtain⟨o,n,e,c,hd,_⟩:=pl;exact⟨o,e,hd⟩
  .refine⟨⟨o,I.kIn p o aT,aO⟩,λa e=>?_⟩;cases e;exact⟨o,I.kIn _ o aT,hd⟩
  .have z:∃o,s.heap.get? p=some o/\o.ExactDict:=by
    rcases aT with⟨kvs,aT⟩|⟨kvs,aT⟩
    .obtain⟨_,_,_,_,o,_,_,e,ex,_⟩:=I.hok p _ aT;exact⟨o,e,ex⟩
    .obtain⟨_,_,_,_,o,_,_,e,ex,_⟩:=I.hok p _ aT;exact⟨o,e,ex⟩
   obtain⟨o,e,ex⟩:=z;refine⟨⟨o,e,ex.1⟩,λa bh=>?_⟩;cases bh;exact⟨o,e,ex.2.1⟩
  .obtain⟨o,_,_,_,e,ex,_⟩:=I.hok p _ aT;refine⟨⟨o,e,ex.1⟩,λa bh=>?_⟩;cases bh;exact⟨o,e,ex.2.1⟩
 |_=>exact False.elim ty
def mD (K:Frag) (T:String) (r:V->List V->Hp->VK->Prop) (to:TE):TE:=λao H Q=>to ao H λx aL=>tyV K T x aL/\r x [] aL Q
def tBM (K:Frag) (T:String) (r:V->List V->Hp->VK->Prop) (to:TE) (t:TA):TE:=λao H Q=>to ao H λx aL=>tyV K T x aL/\t ao aL λxs aY=>r x xs aY Q
variable {o e:Expr}{bg:List Expr}{to:TE}{t:TA}{name:Str}{de dD:Pos}{T id:String}{r:V->List V->Hp->VK->Prop}
theorem Zix(h4:PlainAttrs T)(slot:Slot T name id)(e9:typeOf (.builtin id)=pure (.type "method_descriptor"))(aZ:MtR X id r)(bf:PE X o to)
  (h5:attributeBase o name X.env (eval o X.env)=eval o X.env:=by rfl) (h6:(de.endLine==dD.line)=true:=by rfl):PE X (.Call (.Attribute o name de) [] [] dD) (mD X.K T r to):=by
 intro aI s ao H Q I h;refine wpAny_Call_method0_late h5 h6 (thn (bf aI s ao H _ I h) λv s1 ⟨x,aL,a_,bK,ty,bQ⟩=>?_);obtain⟨aN,aQ⟩:=ZfP a_ bK ty;exact⟨T,id,h4,slot,e9,aN,aQ,Calls.callWith_builtin rfl (PySem.evalArgs_none (aZ aI s1 ao aL x [] v [] Q a_ bK .nil bQ))⟩
theorem ZjH(h4:PlainAttrs T)(slot:Slot T name id)(e9:typeOf (.builtin id)=pure (.type "method_descriptor"))(aZ:MtR X id r)(bf:PE X o to)(aS:PA X (e::bg) t)
  (h5:attributeBase o name X.env (eval o X.env)=eval o X.env:=by rfl)
  (mE:((backTo dD (starEach (e::bg) X.env)).all (λx=>!x.1)&&(backToKw dD (keywordEach [] X.env)).all (λx=>x.1.isSome)
   &&decide ((e::bg).length+([]:List Keyword).length+(if([]:List Keyword).isEmpty then 0 else 1)<30))=true:=by rfl)
  (h6:(de.endLine==dD.line)=true:=by rfl) (a4:starEach (e::bg) X.env=(false,eval e X.env)::starEach bg X.env:=by rfl) (h7:(backTo dD (starEach bg X.env)).any (·.1)=false:=by rfl):
  PE X (.Call (.Attribute o name de) (e::bg) [] dD) (tBM X.K T r to t):=by
 intro aI s ao H Q I h;refine wpAny_Call_method_late h5 mE h6 rfl (thn (bf aI s ao H _ I h) λv s1 ⟨x,aL,a_,bK,ty,bQ⟩=>?_);obtain⟨aN,aQ⟩:=ZfP a_ bK ty;refine⟨T,id,h4,slot,e9,aN,aQ,?_⟩;have f9:=aS dD aI s1 ao aL _ a_ bQ;rw[a4] at f9|-;refine Calls.callWith_builtin (by show(false||(backTo dD (starEach bg X.env)).any (·.1))=false;rw[h7]<;>rfl) (Calls.evalArgs_plain ?_);exact thn f9 λus bw ⟨vs,aY,b9,cp,cQ⟩=>aZ aI bw ao aY x vs v us Q b9 bK cp cQ
end
def MtM(X:Cx)(id:String)(r:V->List V->Hp->VK->Prop):Prop:=
 ∀(aI:List (Addr×Obj))(s:Shared)(ao:St)(H:Hp)(x:V)(xs:List V)(v:Value)(us:List Value)(Q:VK),Inv X aI ao H s->bW x v->bD xs us->r x xs H Q->
  wpAny (model X.prog X.w) X.A (call (.builtin id) (v::us)) (EP X aI ao Q) X.xe s
theorem bD.one:∀{x:V}{us:List Value},bD [x] us->∃u,us=[u]/\bW x u
 |_,_,.cons r .nil=>⟨_,rfl,r⟩
theorem bD.two:∀{x y:V}{us:List Value},bD [x,y] us->∃u v,us=[u,v]/\bW x u/\bW y v
 |_,_,_,.cons r (.cons q .nil)=>⟨_,_,rfl,r,q⟩
theorem bD.zero:∀{us:List Value},bD [] us->us=[]
 |_,.nil=>rfl
theorem bD.dropLast{xs:List V}{us:List Value}(h:bD xs us):bD xs.dropLast us.dropLast:=by
 induction h with
 |nil=>exact .nil
 |cons r t bF=>
  cases t with
  |nil=>exact .nil
  |cons q t'=>exact .cons r bF
theorem bD.eraseIdx:∀{xs:List V}{us:List Value}(i:Nat),bD xs us->bD (xs.eraseIdx i) (us.eraseIdx i)
 |_,_,_,.nil=> .nil
 |_,_,0,.cons _ t=>t
 |_,_,i+1,.cons r t=> .cons r (bD.eraseIdx i t)
theorem bD.rep{xs:List V}{us:List Value}(h:bD xs us):∀k:Nat,bD (List.replicate k xs).flatten (List.replicate k us).flatten
 |0=> .nil
 |k+1=>by
  rw[Je,Je,Js,Js];exact bD.append h (bD.rep h k)
theorem u'{bv:Type}(l:List bv):l.eraseIdx (l.length-1)=l.dropLast:=by
 induction l with
 |nil=>rfl
 |cons a r bF=>
  cases r with
  |nil=>rfl
  |cons b r=>
   have e:(a::b::r).length-1=((b::r).length-1)+1:=by
    have aN:(a::b::r).length=r.length+2:=rfl;have aQ:(b::r).length=r.length+1:=rfl;omega
   rw[e,List.eraseIdx_cons_succ,bF]
   all_goals rfl
theorem pV{bv:Type}:∀(l:List bv)(i:Nat),(l.eraseIdx i).length<=l.length
 | [],_=>Qb _
 |_::_,0=>Nat.le_succ _
 |_::r,i+1=>Nat.succ_le_succ (pV r i)
theorem Zb3(its:List Value):∀(k:Nat)(cn:List Value),
  List.foldl (λx1 eR=>x1++eR) cn.toArray (List.replicate k its.toArray)=(cn++(List.replicate k its).flatten).toArray
 |0,cn=>by simp
 |k+1,cn=>by
  have e:cn.toArray++its.toArray=(cn++its).toArray:=by simp
  have bh:(cn++its)++(List.replicate k its).flatten=cn++(List.replicate (k+1) its).flatten:=by
   rw[Je,Js,QN]
  rw[<-bh,<-Zb3 its k (cn++its),<-e,Je,List.foldl_cons]
section
variable {X:Cx}{aI:List (Addr×Obj)}{ao:St}{H:Hp}{s:Shared}{l b:Addr}{xs ys zs:List V}
theorem Inv.lset{its its':List Value}{n:Nat}{f:Array Value->Array Value}{t':Nat}(I:Inv X aI ao H s)(eu:H l=some (.lst xs))
  (e:s.heap.get? l=some {cls:= .type "list",data:= .seq its.toArray n}) (a6:f its.toArray=its'.toArray) (bO:bD ys its') (hz:ys.length<=sizeLine):
  Inv X aI ao (upd H l (.lst ys)) {s with heap:=s.heap.update l (Obj.mapSeq f),toks:=t'}:=by
 have q:=PySem.IsL.update e f;rw[a6] at q;refine I.write (x:=l) (e:=l) (by rw[eu];exact trivial) (.inl rfl) (λA9 u aJ hu=>(Heap.get?_update_other s.heap (Obj.mapSeq f) (JH aJ)).trans hu) ⟨_,q⟩ ?_;exact⟨hz,its',_,bO,q⟩
theorem Inv.lnew{its:List Value}{t':Nat}(I:Inv X aI ao H s)(bO:bD ys its)(hz:ys.length<=sizeLine):
  Inv X aI ao (upd H s.heap.objs.size (.lst ys)) {s with heap:=s.heap.push {cls:= .type "list",data:= .seq its.toArray},toks:=t'}:=
 I.laid (λ_ _ q=>Heap.get?_push_of_some _ q) (Qb _) ⟨hz,its,0,bO,Heap.get?_push_size _ rfl⟩
theorem Inv.fresh(I:Inv X aI ao H s):H s.heap.objs.size=none:=I.hok.fresh (Qb _)
theorem Inv.lstM(I:Inv X aI ao H s)(eu:H l=some (.lst xs)):xs.length<=sizeLine/\∃(its:List Value)(n:Nat),bD xs its/\xs.length=its.length/\s.heap.get? l=some {cls:= .type "list",data:= .seq its.toArray n}:=by
 obtain⟨z,its,n,r,e⟩:=I.hok l _ eu;exact⟨z,its,n,r,r.length,e⟩
theorem Zdl{n:Nat}(h:n<=sizeLine):Builtin.List.listTooLong n=false:=by
 unfold Builtin.List.listTooLong;exact decide_eq_false (by omega)
end
section
variable {X:Cx}
def rAppend:V->List V->Hp->VK->Prop:=λx vs H Q=>∃l xs y,x= .ref l/\vs=[y]/\H l=some (.lst xs)/\xs.length<sizeLine/\Q .non (upd H l (.lst (xs++ [y])))
theorem gF:MtM X "list.append" rAppend:=by
 intro aI s ao H x vs v us Q I a8 b2 h;obtain⟨l,xs,y,rfl,rfl,eu,hz,q⟩:=h;cases a8;obtain⟨u,rfl,dt⟩:=b2.one;obtain⟨z,its,n,r,aK,e⟩:=I.lstM eu;refine call_meets F.slot_list_append ⟨_,e,rfl⟩ F.entry_list_append (F.args_list_append_2 _ _) (PySem.list_append l its.toArray n u (by rw[Qe];omega)) ⟨e,?_⟩;refine⟨.non,_,I.lset (its':=its++ [u]) eu e (by simp) (r.append (.cons dt .nil)) ?_,rfl,q⟩;rw[Qf,List.length_singleton];omega
def rExtend:V->List V->Hp->VK->Prop:=λx vs H Q=>∃l b xs zs,x= .ref l/\vs=[.ref b]/\H l=some (.lst xs)/\H b=some (.lst zs)/\xs.length+zs.length<=sizeLine/\Q .non (upd H l (.lst (xs++zs)))
theorem A_:MtM X "list.extend" rExtend:=by
 intro aI s ao H x vs v us Q I a8 b2 h;obtain⟨l,b,xs,zs,rfl,rfl,eu,d0,hz,q⟩:=h;cases a8;obtain⟨u,rfl,dt⟩:=b2.one;cases dt;obtain⟨z,its,n,r,aK,e⟩:=I.lstM eu;obtain⟨cw,f8,et,cp,mF,bh⟩:=I.lstM d0;have hsz:its.toArray.size+f8.toArray.size<=sizeLine:=by rw[Qe,Qe];omega
 have mG:¬(!its.toArray.isEmpty&&Builtin.List.listTooLong (its.toArray.size+f8.toArray.size))=true:=by
  rw[Zdl hsz,JG];exact Qg
 refine call_meets F.slot_list_extend ⟨_,e,rfl⟩ F.entry_list_extend (F.args_list_extend_2 _ _)
  (AutoSeq1.list_extend_list_list_0 l its.toArray n b f8.toArray et mG (by rw[Qe];omega) (by omega)) ⟨e,bh,?_⟩
 refine⟨.non,_,I.lset (its':=its++f8) eu e (by simp) (r.append cp) ?_,rfl,q⟩;rw[Qf];omega
def rPop:V->List V->Hp->VK->Prop:=λx vs H Q=>∃l xs y,x= .ref l/\vs=[]/\H l=some (.lst xs)/\xs[xs.length-1]? =some y/\Q y (upd H l (.lst xs.dropLast))
theorem pW:MtM X "list.pop" rPop:=by
 intro aI s ao H x vs v us Q I a8 b2 h;obtain⟨l,xs,y,rfl,rfl,eu,bt,q⟩:=h;cases a8;have va:=b2.zero;subst va;obtain⟨z,its,n,r,aK,e⟩:=I.lstM eu;obtain⟨u,hu,dt⟩:=r.get bt;have vb:its.toArray[its.toArray.size-1]? =some u:=by
  show its.toArray[its.length-1]? =some u;rw[<-Array.getElem?_toList,<-aK];exact hu
 refine call_meets F.slot_list_pop ⟨_,e,rfl⟩ F.entry_list_pop (F.args_list_pop_1 _) (MeetsSeq.list_pop_last l its.toArray n u vb (by rw[Qe];omega)) ⟨e,?_⟩;refine⟨y,_,I.lset (its':=its.dropLast) eu e ?_ r.dropLast ?_,dt,q⟩
 .show its.toArray.eraseIdxIfInBounds (its.toArray.size-1)=its.dropLast.toArray;rw[Qe,List.eraseIdxIfInBounds_toArray,u']
 .rw[JB];omega
def rCat:R2:=λx y H Q=>∃l b xs zs,x= .ref l/\y= .ref b/\H l=some (.lst xs)/\H b=some (.lst zs)/\xs.length+zs.length<=sizeLine/\∀p,H p=none->Q (.ref p) (upd H p (.lst (xs++zs)))
theorem vd:OpR X (binaryOp .Add) rCat:=by
 intro aI s ao H x y v u Q I a8 bj h;obtain⟨l,b,xs,zs,rfl,rfl,eu,d0,hz,q⟩:=h;cases a8;cases bj;obtain⟨z,its,n,r,aK,e⟩:=I.lstM eu;obtain⟨cw,f8,et,cp,mF,bh⟩:=I.lstM d0;refine PySem.P.add_list e bh ?_ (by rw[Qe,Qe];omega);have cD:its.toArray++f8.toArray=(its++f8).toArray:=by simp
 rw[cD];exact⟨.ref _,_,I.lnew (t':=s.toks) (r.append cp) (by rw[Qf];omega),rfl,q _ I.fresh⟩
def rRep:R2:=λx y H Q=>∃l k xs,x= .ref l/\y= .int k/\H l=some (.lst xs)/\ -(2 ^ 63)<=k/\k<2 ^ 63/\xs.length*k.toNat<=sizeLine/\
 ∀p,H p=none->Q (.ref p) (upd H p (.lst (List.replicate k.toNat xs).flatten))
theorem Zhk{bv:Type}(xs:List bv)(k:Nat):(List.replicate k xs).flatten.length=k*xs.length:=by
 induction k with
 |zero=>simp
 |succ k bF=>rw[Je,Js,Qf,bF,Nat.succ_mul,Nat.add_comm]
theorem ve:OpR X (binaryOp .Mult) rRep:=by
 intro aI s ao H x y v u Q I a8 bj h;obtain⟨l,k,xs,rfl,rfl,eu,aN,aQ,hz,q⟩:=h;cases a8;obtain⟨t,rfl⟩:=bj;obtain⟨z,its,n,r,aK,e⟩:=I.lstM eu;have cU:its.toArray.size*k.toNat<=sizeLine:=by rw[Qe,<-aK];exact hz
 have vf:¬its.toArray.size*k.toNat > (2 ^ 63-1) / 8:=by
  have:(sizeLine:Nat)<=(2 ^ 63-1) / 8:=by decide
  omega
 have vg:¬(!Builtin.List.listFitsIndex k)=true:=by
  rw[fitsIndex_both aN aQ];exact Qg
 have mG:¬Builtin.List.listTooLong (its.toArray.size*k.toNat)=true:=by
  rw[Zdl cU];exact Qg
 have vh:List.foldl (λx1 eR=>x1++eR) #[] (List.replicate (if its.toArray.isEmpty=true then 0 else k.toNat) its.toArray)=(List.replicate k.toNat its).flatten.toArray:=by
  have du:∀m:Nat,List.foldl (λx1 eR=>x1++eR) #[] (List.replicate m its.toArray)=(List.replicate m its).flatten.toArray:=λm=>by
   have:=Zb3 its m [];rw[List.nil_append] at this;exact this
  rw[du];cases its with
  |nil=>simp
  |cons a b7=>rw[if_neg (by simp)]
 refine wpAny_binaryOp_repeat_ref (T:="list") (U:="int") (by decide) ⟨_,e,rfl⟩ (λaX=>typeIs_int aX k t) noFill_list_mul F.fills_int_mul F.slot_int_rmul repeat_list F.slot_int_index.lookup
  (call_meets F.slot_int_rmul (typeIs_int s k t) F.entry_int_rmul (F.args_int_rmul_2 _ _) (int___rmul___int_list k t l its.toArray n)
   ⟨e,rfl,⟨_,e,rfl⟩,call_meets F.slot_list_mul ⟨_,e,rfl⟩ F.entry_list_mul (F.args_list_mul_2 _ _) (AutoListH.list___mul___list_int_3 l its.toArray n k t vg vf mG) ⟨e,?_⟩⟩)
 rw[vh];exact⟨.ref _,_,I.lnew (t':=s.toks) (r.rep k.toNat) (by rw[Zhk,Nat.mul_comm];exact hz),rfl,q _ I.fresh⟩
end
end L2
namespace Att
open PySem PySem.W PySem.Calls PyProof.Rows
theorem vi{P:Params}{h:Heap}:∀(ns:List Int)(vs:List Value),WellAll P h vs (ns.map WData.int)->IntsAre vs ns:=by
 intro ns
 induction ns with
 |nil=>
  intro vs w;rw[List.map_nil] at w;cases w;exact .nil
 |cons n ns bF=>
  intro vs w;rw[List.map_cons] at w;cases w with
  |cons a b=>
   cases a;exact .cons _ _ (bF _ b)
theorem Zf3{l:OpenLaw}{n:Nat}(a':l.most=some n){P:Params}{h:Heap}{args:List WData}{mH:List Value}
  (kP:l.row.toRowW.claim.pre args=true) (mI:WellAll P h mH args):
  ∃a vs ns,mH=[Value.ref a]/\args=[WData.list (ns.map WData.int)]/\h.get? a=some {cls:= .type "list",data:= .seq vs.toArray}/\IntsAre vs ns/\ns.length<=n:=by
 have vj:WShape.hasAll [] args [.list .int]=true:=(pre_splitW kP).1;have aO:l.pre.holds [] {args:=args}=true:=(pre_splitW kP).2;obtain⟨d,r,rfl,aN,aQ⟩:=hasAllW_cons vj;obtain rfl:=hasAllW_nil aQ;obtain⟨xs,rfl,bJ⟩:=hasW_list aN;obtain⟨ns,rfl⟩:=items_int bJ;have cU:ns.length<=n:=by
  unfold OpenLaw.pre at aO;have cx:(WTm.not (.lt (.lit (.int (n:Int))) (.len (.arg 0)))).holds [] {args:=[.list (ns.map .int)]}=true:=by
   have cx:=(holds_andW aO).1;rw[a'] at cx;exact cx
  have ea:=condW_of cx (w_not (w_lt w_lit (w_len_list (w_arg rfl))));rw[Qc] at ea;refine Jn λq=>?_;have ds:(n:Int)<((ns.length:Nat):Int):=by omega
  first
   |(rw[decide_eq_true ds] at ea;exact absurd ea (by decide))
   |(simp at ea;omega)
 cases mI with
 |cons kG mb=>
  cases mb;cases kG with
  |list bf vk=>exact⟨_,_,ns,rfl,rfl,bf,vi ns _ vk,cU⟩
theorem vl(l:OpenLaw)(args:List WData):l.row.toRowW.claim.post args (.bool true) args=true:=
 postW_of (r:=l.row.toRowW) (X:=(true==true))
  (show WShape.has [] (.bool true) .bool=true by first|rfl|decide|simp[WShape.has,WShape.arms,WShape.armsAll])
  (show(WTm.eq .res (.lit (.bool true))).value [] {args:=args,res:=some (.bool true),after:=args}=some (.bool (true==true)) from w_eq_bool (w_res rfl) w_lit) rfl
theorem ZdJ{l:OpenLaw}{n:Nat}{q:Program}{iY:List Str}{iZ:(Str->Option Value)->Heap->Prop}{hv:World->Heap->Prop}{d:DefRec}
  (a':l.most=some n) (jN:d.params.defaults=[])
  (call:∀(w:World)(s₀ cr:Shared)(mg fN:Str->Option Value)(dS:Addr)(o:Obj)(pm b8 dA:Value)(a:Addr)(vs:List Value)(ns:List Int),
   Ground q iY [] iZ w s₀ mg fN cr.heap->hv w cr.heap->
   cr.heap.get? dS=some o->o.data= .func (docDef d.name d.params d.body d.scope pm b8 dA)->cr.heap.CodeRec b8 d.name->mg d.name=some (.ref dS)->
   cr.heap.get? a=some {cls:= .type "list",data:= .seq vs.toArray}->IntsAre vs ns->ns.length<=n->cr.gens=#[]->
   codeAny (model l.prog w) callerA (.call (.ref dS) ⟨[.ref a],[]⟩) (λr aX=>r= .ok (.ret (.bool true))/\OldK cr.heap aX.heap/\aX.os=cr.os/\AllBare aX.gens) cr):
  WalkO q iY iZ hv l.row.toRowW d [] (λf vs=>PySem.call f vs):=by
 intro w s₀ cr mg fN G Y dS o pm b8 dA kK kV bf hd fu kQ i1 br args mH as kP hlay hrd mI hlo;obtain rfl:kK= .none:=Dflts.none kQ jN;obtain rfl:kV= .none:=Dflts.noKw kQ;obtain⟨a,vs,ns,rfl,rfl,mJ,mK,cU⟩:=Zf3 a' kP mI;refine enter_call (codeAny_mono (call w s₀ cr mg fN dS o pm b8 dA a vs ns G Y bf (fd_plain hd) fu i1 mJ mK cU br) λr aX be=>?_);obtain⟨rfl,aQ,bJ,cx⟩:=be;exact⟨.inl ⟨.bool true,.bool true,[],rfl,λ_=>rfl,.bool true,vl l _,λ_=>⟨List.Pairwise.nil,λ_ aZ=>(nomatch aZ)⟩⟩,aQ,bJ,cx⟩
end Att
namespace L2
open PySem PySem.Spec PyProof.Rows
theorem pX:∀{vs:List Value}{ns:List Int},IntsAre vs ns->bD (ns.map V.int) vs
 |_,_,.nil=> .nil
 |_,_,.cons n t h=> .cons ⟨t,rfl⟩ (pX h)
def mL(H:Hp):Prop:=∀b,H b=none\/∃o xs,H b=some (.frz o (.lst xs))
theorem Zgl{P:Program}{w:World}{K:Frag}{mg fN:Str->Option Value}{CX:CXT}{k:Nat}{dS a:Addr}{fd:FuncData}{x:Str}{sp:Sp}{cr:Shared}{vs:List Value}{ns:List Int}
  (dC:K.In cr.heap) (i2:cr.heap.Ns mainGlobals mg) (aJ:cr.heap.Ns builtinsNs fN) (mM:∀x:Str,x≠"__name__" ->fN x=bootBuiltins x) (vm:cr.heap.NoLimit) (br:cr.gens=#[])
  (aS:cr.heap.get? a=some {cls:= .type "list",data:= .seq vs.toArray}) (aM:IntsAre vs ns) (aK:ns.length<=sizeLine) (aR:df k callerA)
  (F:∀base:Heap,K.In base->base.Ns mainGlobals mg->Yp P w K mg base CX k dS fd [x] sp) (vn:∀(s:Shared)(u:Value),BindsTo s fd ⟨[u],[]⟩ [(x,u)])
  (gD:∀H:Hp,mL H->SqL K H a (ns.map V.int)->sp [.ref a] H (λv _=>v= .bl true) λ_ _ _=>False)
  (mO:∀H e aX,CX [] H cr (λ_ _ _=>False) e aX->False):
  codeAny (model P w) callerA (.call (.ref dS) ⟨[.ref a],[]⟩) (λr aX=>r= .ok (.ret (.bool true))/\OldK cr.heap aX.heap/\aX.os=cr.os/\AllBare aX.gens) cr:=by
 have b2:=pX aM;have vo:=aM.length;have core:∀H:Hp,mL H->SqL K H a (ns.map V.int)->HOk P w H cr.heap->(∀b,H b≠none->b=a)->(H a≠none->K.lookup a=none)->
   codeAny (model P w) callerA (.call (.ref dS) ⟨[.ref a],[]⟩) (λr aX=>r= .ok (.ret (.bool true))/\OldK cr.heap aX.heap/\aX.os=cr.os/\AllBare aX.gens) cr:=by
  intro H fS e7 hok f9 dP;have pY:∀{b:Addr}{o:Obj},cr.heap.get? b=some o->H b=none->(gX cr.heap H).get? b=some o:=λe n=>Zgu e n;have jJ:∀{b:Addr}{o:Obj}{bg:Array DictEntry}{ep:Nat},cr.heap.get? b=some o->o.data= .dict bg ep->H b=none:=λ{b o bg ep} e d=>by
   cases q:H b with
   |none=>rfl
   |some u=>
    have bq:b=a:=f9 b (by rw[q];simp);subst bq;rw[aS] at e;cases e;have d':Data.seq vs.toArray _=Data.dict bg ep:=d;cases d'
  have kR:∀{b:Addr}{m:Str->Option Value},cr.heap.Ns b m->(gX cr.heap H).Ns b m:=λ{b m} ⟨o,bg,ep,e,d,r⟩=>⟨o,bg,ep,pY e (jJ e d),d,r⟩;have pZ:K.In (gX cr.heap H):=λb o e=>pY (dC b o e) (by
   cases q:H b with
   |none=>rfl
   |some u=>
    have bq:b=a:=f9 b (by rw[q];simp);subst bq;rw[dP (by rw[q];simp)] at e;cases e)
  have p0:Mod K mg (gX cr.heap H):=⟨pZ,kR i2,⟨fN,kR aJ,mM⟩,let⟨vp,aN,aQ⟩:=vm;⟨vp,kR aN,aQ⟩⟩;have d4:ZaQ P w K mg (gX cr.heap H) callerA [] cr H:=⟨rfl,p0,λb o e=>ZhJ e,Nat.le_of_eq (uk _ _),trivial,λb aJ=>absurd (show b∈([]:List Addr) from aJ) (by simp),hok,.of_eq br⟩;refine codeAny_mono ((F _ pZ (kR i2)).run callerA [] cr H ⟨[.ref a],[]⟩ [.ref a] [.ref a] _ _ aR d4 (vn cr (.ref a)) (.cons rfl .nil) (gD H fS e7)) λr aX h=>?_;cases r with
  |error e=>exact(mO H e aX h).elim
  |ok eQ=>
   cases eQ with
   |next=>exact False.elim h
   |brk=>exact False.elim h
   |cont=>exact False.elim h
   |ret u=>
    obtain⟨v,aH,os,bare,un,vq,b7,q⟩:=h;have ds:v= .bl true:=q;subst ds;obtain rfl:u=Value.bool true:=b7;refine⟨rfl,OldK.of_keep λb o e=>?_,os,bare⟩;cases q:H b with
    |none=>exact un.keep b o e q (by intro z;exact absurd (show b∈([]:List Addr) from z) (by simp)) (by simp)
    |some u=>
     rcases fS b with z|⟨bE,xs,z⟩
     .rw[q] at z;cases z
     .have cw:=un.frzs b bE _ z;obtain⟨bb,_⟩:=hok b _ z;obtain⟨bh,_⟩:=vq b _ cw;rw[e] at bb;cases bb;exact bh
 cases aT:K.lookup a with
 |some o=>
  have e:=dC a o aT;rw[aS] at e;cases e;refine core (λ_=>none) (λ_=> .inl rfl) (.inr ⟨_,vs.toArray,_,aT,rfl,rfl,rfl,by rw[Qe,vo];exact aK,by simpa using b2⟩) (λb u z=>by have d3:(none:Option HO)=some u:=z;cases d3) (λb z=>absurd rfl z) λz=>absurd rfl z
 |none=>
  refine core (λb=>if b=a then some (.frz {cls:= .type "list",data:= .seq vs.toArray} (.lst (ns.map V.int))) else none) (λb=>?_) (.inl (.inr ⟨{cls:= .type "list",data:= .seq vs.toArray},if_pos rfl⟩)) (λb u z=>?_) (λb z=>?_) λ_=>aT
  .by_cases aJ:b=a
   .exact .inr ⟨_,_,if_pos aJ⟩
   .exact .inl (if_neg aJ)
  .by_cases aJ:b=a
   .have d3:=(if_pos aJ).symm.trans z;cases d3;subst aJ;exact⟨aS,by rw[Qc];exact aK,vs,_,b2,aS⟩
   .have d3:=(if_neg aJ).symm.trans z;cases d3
  .by_cases aJ:b=a
   .exact aJ
   .exact absurd (if_neg aJ) z
theorem ZhK{l:PySem.W.OpenLaw}{n k:Nat}{q:Program}{iY:List Str}{iZ:(Str->Option Value)->Heap->Prop}{hv:World->Heap->Prop}{d:DefRec}{K:Params->Frag}{CX:World->CXT}{sp:World->Sp}{x:Str}
  (a':l.most=some n) (jH:n<=sizeLine) (jN:d.params.defaults=[]) (aR:df k callerA)
  (mP:∀(w:World)(h:Heap),hv w h->(K w.params).In h)
  (F:∀(w:World)(mg:Str->Option Value)(dS:Addr)(h:Heap),(K w.params).In h->h.Ns mainGlobals mg->mg d.name=some (.ref dS)->
   ∃fd:FuncData,(∀(s:Shared)(u:Value),BindsTo s fd ⟨[u],[]⟩ [(x,u)])/\
    ∀base:Heap,(K w.params).In base->base.Ns mainGlobals mg->Yp l.prog w (K w.params) mg base (CX w) k dS fd [x] (sp w))
  (gD:∀(w:World)(H:Hp)(a:Addr)(ns:List Int),ns.length<=n->mL H->SqL (K w.params) H a (ns.map V.int)->sp w [.ref a] H (λv _=>v= .bl true) λ_ _ _=>False)
  (mO:∀(w:World)(H:Hp)(s:Shared)(e:Value)(aX:Shared),CX w [] H s (λ_ _ _=>False) e aX->False):
  PySem.W.WalkO q iY iZ hv l.row.toRowW d [] (λf vs=>PySem.call f vs):=by
 refine Att.ZdJ a' jN λw s₀ cr mg fN dS o pm b8 dA a vs ns G Y bf hd fu i1 mJ mK cU br=>?_;have dC:=mP w _ Y;obtain⟨fd,aJ,hx⟩:=F w mg dS _ dC G.T.g i1;exact Zgl dC G.T.g G.T.b G.T.builtins G.T.nolimit br mJ mK (Qu cU jH) aR hx aJ (λH fS e7=>gD w H a ns cU fS e7) λH e aX=>mO w H cr e aX
noncomputable def Wm (s:Stmt) (j:Nat):Stmt:=match s with
 | .ClassDef _ _ _ body _ _ _ _ _ _ _=>body.getD j (.Pass ⟨0,0,0,0⟩)
 |_=> .Pass ⟨0,0,0,0⟩
noncomputable def f_ (s:Stmt):Arguments:=match s with
 | .FunctionDef _ a _ _ _ _ _ _ _ _=>a
 |_=>{posonlyargs:=[],args:=[],vararg:=none,kwonlyargs:=[],kw_defaults:=[],kwarg:=none,defaults:=[]}
noncomputable def fy (s:Stmt):List Stmt:=match s with
 | .FunctionDef _ _ b _ _ _ _ _ _ _=>b
 |_=>[]
noncomputable def bU (s:Stmt):Scope:=match s with
 | .FunctionDef _ _ _ _ _ _ a7 _ _ _=>a7
 |_=>{kind:= .function,names:=[],isGenerator:=false,isCoroutine:=false}
abbrev E0:XK:=λ_ _ _=>False
structure Fun(K:Frag)(x qual:Str)(st:Stmt)(f:Addr)(fd:FuncData):Prop where
 ex:∃(dH:Value)(cM:Option Addr)(kV dA pm:Value)(an:Option Addr)(bS ct:Value)(es:Array (Option Value)),
  fd=fnOf x qual (f_ st) (fy st) (bU st) .none kV dA pm an bS ct/\K.lookup f=some ⟨dH,cM,.func fd,es⟩/\codeIn K bS qual=true
 kp:keepIn K (.ref f)=true
section
variable {P:Program}{w:World}{K:Frag}{mg:Str->Option Value}{base:Heap}
theorem Fun.binds{x qual:Str}{st:Stmt}{f:Addr}{fd:FuncData}{ps:List Str}(F:Fun K x qual st f fd)
  (h:∀(kV dA pm:Value)(an:Option Addr)(bS ct:Value)(us:List Value),us.length=ps.length->bindArgs (fnOf x qual (f_ st) (fy st) (bU st) .none kV dA pm an bS ct) ⟨us,[]⟩=pure (ps.zip us)):Y5 K fd ps []:=by
 obtain⟨dH,cM,kV,dA,pm,an,bS,ct,es,rfl,lk,fu⟩:=F.ex;exact .all (h kV dA pm an bS ct)
theorem i3{x qual:Str}{st:Stmt}{f:Addr}{dH:Value}{cM an:Option Addr}{es:Array (Option Value)}{kV dA pm bS ct:Value}(l:K.lookup f=some ⟨dH,cM,.func (fnOf x qual (f_ st) (fy st) (bU st) .none kV dA pm an bS ct),es⟩)
  (c:codeIn K bS qual=true) (k:keepIn K (.ref f)=true):Fun K x qual st f (fnOf x qual (f_ st) (fy st) (bU st) .none kV dA pm an bS ct):=⟨⟨dH,cM,kV,dA,pm,an,bS,ct,es,rfl,l,c⟩,k⟩
end
theorem cV{n:Nat}(h:n<=1000):n<sizeLine:=Nat.lt_of_le_of_lt h (by decide)
section
variable {X:Cx}
theorem pv(i:Nat){x:Str}{pos:Pos}(dN:X.N[i]? =some x:=by rfl)(bO:Vis X.env.scope x:=by first|exact Or.inl rfl|exact Or.inr (Or.inl rfl)|exact Or.inr (Or.inr rfl))(hd:(x==("__debug__" :Str))=false:=by decide)
  (fu:(x==("__classdict__" :Str))=false:=by decide):PE X (.Name x pos) (ZbM i):=ZiD dN bO hd fu
end
theorem Zda{A B:Prop}(h:B):if false=true then A else B:=by
 rw[if_neg Qg];exact h
theorem Zel{A B:Prop}(h:A):if true=true then A else B:=by
 rw[if_pos rfl];exact h
theorem WJ{c A B:Prop}[Decidable c](aN:c->A)(aQ:¬c->B):if c then A else B:=by
 by_cases h:c
 .rw[if_pos h];exact aN h
 .rw[if_neg h];exact aQ h
def Ze(H aH:Hp):Prop:=∀b o,H b=some o->aH b=some o
theorem Ze.refl(H:Hp):Ze H H:=λ_ _ h=>h
theorem Ze.trans{H aL aY:Hp}(a:Ze H aL)(b:Ze aL aY):Ze H aY:=λc o h=>b c o (a c o h)
theorem Ze.seq{K:Frag}{H aH:Hp}{a:Addr}{xs:List V}(e:Ze H aH)(h:SqL K H a xs):SqL K aH a xs:=by
 rcases h with(h|⟨o,h⟩)|h
 .exact .inl (.inl (e _ _ h))
 .exact .inl (.inr ⟨o,e _ _ h⟩)
 .exact .inr h
section
variable {κ:Type}[DecidableEq κ]
noncomputable def eg (kvs:List (κ×V)) (k:κ):Option V:=(kvs.find? λcS=>decide (cS.1=k)).map (·.2)
noncomputable def e1 (kvs:List (κ×V)) (k:κ) (v:V):List (κ×V):=
 if(kvs.any λcS=>decide (cS.1=k))=true then kvs.map (λcS=>if cS.1=k then(cS.1,v) else cS) else kvs++ [(k,v)]
theorem kS{p:κ×V}{r:List (κ×V)}{k:κ}(e:p.1=k):eg (p::r) k=some p.2:=by simp[eg,Ji,e]
theorem kU{p:κ×V}{r:List (κ×V)}{k:κ}(e:¬p.1=k):eg (p::r) k=eg r k:=by simp[eg,Ji,e]
theorem Uc(k:κ):∀kvs:List (κ×V),(kvs.any λcS=>decide (cS.1=k))=(eg kvs k).isSome
 | []=>rfl
 |p::r=>by
  rw[JA]
  by_cases e:p.1=k
  .simp only[kS e,decide_eq_true e,Bool.true_or,Option.isSome_some]
  .rw[kU e,decide_eq_false e,Bool.false_or];exact Uc k r
theorem ZaH(kvs:List (κ×V))(k:κ)(v:V):(e1 kvs k v).length<=kvs.length+1:=by
 unfold e1
 split
 .rw[Qc];omega
 .rw[Qf,List.length_cons,List.length_nil];omega
theorem Zgn{kvs:List (κ×V)}{k:κ}(v:V)(h:eg kvs k=none):e1 kvs k v=kvs++ [(k,v)]:=by
 unfold e1;rw[Uc,h];exact if_neg (by decide)
theorem eN.isSome_eq{o:Option V}{u:Option Value}(r:eN o u):o.isSome=u.isSome:=by
 cases o with
 |none=>cases u with
  |none=>rfl
  |some _=>exact(show False from r).elim
 |some _=>cases u with
  |none=>exact(show False from r).elim
  |some _=>rfl
theorem KV.val{kvs:List (κ×V)}{vs:List (κ×Value)}(r:KV kvs vs)(k:κ):eN (eg kvs k) (valueAt vs k):=by
 unfold KV at r
 induction r with
 |nil=>exact True.intro
 | @cons p q ps qs h t bF=>
  obtain⟨aN,aQ⟩:=h
  by_cases e:p.1=k
  .have bq:q.1=k:=aN.symm.trans e;have b:valueAt (q::qs) k=some q.2:=by simp[valueAt,Ji,bq]
   rw[kS e,b];exact aQ
  .have bq:¬q.1=k:=λz=>e (aN.trans z);have b:valueAt (q::qs) k=valueAt qs k:=by simp[valueAt,Ji,bq]
   rw[kU e,b];exact bF
theorem KV.any{kvs:List (κ×V)}{vs:List (κ×Value)}(r:KV kvs vs)(k:κ):(kvs.any λcS=>decide (cS.1=k))=vs.any λcS=>decide (cS.1=k):=by
 unfold KV at r
 induction r with
 |nil=>rfl
 |cons h t bF=>rw[JA,JA,bF,h.1]
theorem KV.repl{kvs:List (κ×V)}{vs:List (κ×Value)}(r:KV kvs vs)(k:κ){y:V}{u:Value}(bj:bW y u):
  KV (kvs.map λcS=>if cS.1=k then(cS.1,y) else cS) (vs.map λcS=>if cS.1=k then(cS.1,u) else cS):=by
 unfold KV at r|-
 induction r with
 |nil=>exact .nil
 | @cons p q ps qs h t bF=>
  rw[List.map_cons,List.map_cons];refine .cons ?_ bF;obtain⟨aN,aQ⟩:=h
  by_cases e:p.1=k
  .rw[if_pos e,if_pos (aN.symm.trans e)];exact⟨aN,bj⟩
  .rw[if_neg e,if_neg (λz=>e (aN.trans z))];exact⟨aN,aQ⟩
theorem KV.put{kvs:List (κ×V)}{vs:List (κ×Value)}(r:KV kvs vs)(k:κ){y:V}{u:Value}(bj:bW y u):KV (e1 kvs k y) (stored vs k u):=by
 unfold e1 stored;rw[r.any k]
 by_cases e:(vs.any λcS=>decide (cS.1=k))=true
 .rw[if_pos e,if_pos e];exact r.repl k bj
 .rw[if_neg e,if_neg e];exact Paired.snoc r ⟨rfl,bj⟩
theorem KV.length{kvs:List (κ×V)}{vs:List (κ×Value)}(r:KV kvs vs):kvs.length=vs.length:=Paired.length r
end
theorem jO{P:Program}{w:World}{k:Key}{u:Value}(r:bW (kV k) u):(eM P w).is k u=true:=by
 cases k with
 |inl i=>obtain⟨t,e⟩:=(show ∃t,u=Value.int i t from r);subst e;exact ZdF P w i t
 |inr x=>obtain⟨t,e⟩:=(show ∃t,u=Value.str x t from r);subst e;exact ZdS P w x t
theorem vr{a b:Key}(e:kV a=kV b):a=b:=by
 cases a with
 |inl i=>cases b with
  |inl j=>have bq:V.int i=V.int j:=e;injection bq with bq;rw[bq]
  |inr y=>exact nomatch (show V.int i=V.str y from e)
 |inr x=>cases b with
  |inl j=>exact nomatch (show V.str x=V.int j from e)
  |inr y=>have bq:V.str x=V.str y:=e;injection bq with bq;rw[bq]
theorem p1{P:Program}{w:World}:∀{ks:List Key}{us:List Value},bD (ks.map kV) us->ItemsAre (eM P w) ks us
 | [],_,r=>by rw[List.map_nil] at r;cases r;exact .nil
 |k::ks,_,r=>by
  rw[List.map_cons] at r;cases r with
  |cons h t=>exact .cons (jO h) (p1 t)
abbrev KT (H:Hp):List (List Key×V)->List (List Key×Addr×Value)->Prop:=Paired λp q=>p.1=q.1/\H q.2.1=some (.tup (p.1.map kV))/\bW p.2 q.2.2
theorem KT.val{H:Hp}{kvs:List (List Key×V)}{xs:List (List Key×Addr×Value)}(r:KT H kvs xs)(k:List Key):eN (eg kvs k) ((atKey xs k).map (·.2)):=by
 induction r with
 |nil=>exact True.intro
 | @cons p q ps qs h t bF=>
  obtain⟨aN,_,aQ⟩:=h
  by_cases e:p.1=k
  .have bq:q.1=k:=aN.symm.trans e;have b:atKey (q::qs) k=some q.2:=by simp[atKey,Ji,bq]
   rw[kS e,b];exact aQ
  .have bq:¬q.1=k:=λz=>e (aN.trans z);have b:atKey (q::qs) k=atKey qs k:=by simp[atKey,Ji,bq]
   rw[kU e,b];exact bF
theorem KT.repl{H:Hp}{kvs:List (List Key×V)}{xs:List (List Key×Addr×Value)}(r:KT H kvs xs)(k:List Key){y:V}{u:Value}(bj:bW y u):
  KT H (kvs.map λcS=>if cS.1=k then(cS.1,y) else cS) (xs.map (putAt k u)):=by
 induction r with
 |nil=>exact .nil
 | @cons p q ps qs h t bF=>
  rw[List.map_cons,List.map_cons];refine .cons ?_ bF;obtain⟨aN,aQ,bJ⟩:=h;unfold putAt
  by_cases e:p.1=k
  .rw[if_pos e,if_pos (aN.symm.trans e)];exact⟨aN,aQ,bj⟩
  .rw[if_neg e,if_neg (λz=>e (aN.trans z))];exact⟨aN,aQ,bJ⟩
theorem KT.put{H:Hp}{kvs:List (List Key×V)}{xs:List (List Key×Addr×Value)}(r:KT H kvs xs)(k:List Key){b:Addr}{y:V}{u:Value}(aJ:H b=some (.tup (k.map kV)))(bj:bW y u):
  KT H (e1 kvs k y) (storedH xs k b u):=by
 have e:(kvs.any λcS=>decide (cS.1=k))=(atKey xs k).isSome:=by
  rw[Uc,(r.val k).isSome_eq,Option.isSome_map]
 unfold e1 storedH;rw[e]
 by_cases q:(atKey xs k).isSome=true
 .rw[if_pos q,if_pos q];exact r.repl k bj
 .rw[if_neg q,if_neg q];exact Paired.snoc r ⟨rfl,aJ,bj⟩
theorem KT.keeps{H aH:Hp}{kvs:List (List Key×V)}{xs:List (List Key×Addr×Value)}(r:KT H kvs xs)(bL:∀b ys,H b=some (.tup ys)->aH b=some (.tup ys)):KT aH kvs xs:=
 Paired.mapP r λ_ _ z=>⟨z.1,bL _ _ z.2.1,z.2.2⟩
section
variable {P:Program}{w:World}{H:Hp}{h:Heap}{a:Addr}
theorem Zhc{u:HO}(ok:HOk P w H h)(e:Rd H a u):ZQ P w H h a u:=e.ok ok
theorem Zai{kvs:List (Key×V)}(ok:HOk P w H h)(e:Rd H a (.dK kvs)):kvs.length<=sizeLine/\(a==sysModules)=false/\∃vs,KV kvs vs/\h.DictOf (eM P w) a vs:=
 show ZQ P w H h a (.dK kvs) from Zhc ok e
theorem ZgY{kvs:List (Key×V)}(ok:HOk P w H h)(e:H a=some (.dK kvs)):kvs.length<=sizeLine/\(a==sysModules)=false/\∃vs,KV kvs vs/\h.DictOf (eM P w) a vs:=Zai ok (.inl e)
theorem jP{ks:List Key}(ok:HOk P w H h)(e:H a=some (.tup (ks.map kV))):(tupleKind (eM P w)).is h ks a:=by
 obtain⟨_,its,r,o,aN,aQ,n,bJ⟩:=(show ZQ P w H h a (.tup (ks.map kV)) from ok a _ e);exact⟨o,its.toArray,n,aN,aQ,bJ,by simpa using p1 r⟩
theorem Zbo{kvs:List (List Key×V)}(ok:HOk P w H h)(e:Rd H a (.dT kvs)):kvs.length<=sizeLine/\(a==sysModules)=false/\
  ∃xs,KT H kvs xs/\h.DictOfH (tupleKind (eM P w)) a xs:=by
 obtain⟨z,y,xs,r,o,bg,ep,aN,aQ,bJ,cx,ea⟩:=(show ZQ P w H h a (.dT kvs) from Zhc ok e);refine⟨z,y,xs,r,o,bg,ep,aN,aQ,bJ,cx,λx aV=>?_,ea⟩;have all:∀{l:List (List Key×V)}{m:List (List Key×Addr×Value)},KT H l m->∀x∈m,(tupleKind (eM P w)).is h x.1 x.2.1:=by
  intro l m q
  induction q with
  |nil=>intro x aV;exact nomatch aV
  | @cons p q ps qs be t bF=>
   intro x aV;rcases Qi.mp aV with e|aV
   .subst e;exact jP ok (by rw[<-be.1];exact be.2.1)
   .exact bF x aV
 exact all r x aV
theorem ZjF{kvs:List (List Key×V)}(ok:HOk P w H h)(e:H a=some (.dT kvs)):kvs.length<=sizeLine/\(a==sysModules)=false/\
  ∃xs,KT H kvs xs/\h.DictOfH (tupleKind (eM P w)) a xs:=Zbo ok (.inl e)
end
def WZ(H:Hp)(a:Addr)(y:V)(r:Option V):Prop:=
 (∃kvs k,Rd H a (.dK kvs)/\y=kV k/\r=eg kvs k)\/∃kvs k b,Rd H a (.dT kvs)/\y= .ref b/\H b=some (.tup (k.map kV))/\r=eg kvs k
def Zdc(H:Hp)(a:Addr)(y v:V)(aH:Hp):Prop:=
 (∃kvs k,H a=some (.dK kvs)/\y=kV k/\kvs.length<sizeLine/\aH=upd H a (.dK (e1 kvs k v)))\/
 ∃kvs k b,H a=some (.dT kvs)/\y= .ref b/\H b=some (.tup (k.map kV))/\kvs.length<sizeLine/\aH=upd H a (.dT (e1 kvs k v))
theorem WZ.k{H:Hp}{a:Addr}{kvs:List (Key×V)}{k:Key}(e:H a=some (.dK kvs)):WZ H a (kV k) (eg kvs k):= .inl ⟨kvs,k,.inl e,rfl,rfl⟩
theorem Zdc.k{H:Hp}{a:Addr}{kvs:List (Key×V)}{k:Key}{v:V}(e:H a=some (.dK kvs))(aK:kvs.length<sizeLine):Zdc H a (kV k) v (upd H a (.dK (e1 kvs k v))):= .inl ⟨kvs,k,e,rfl,aK,rfl⟩
section
variable {X:Cx}{aI:List (Addr×Obj)}{ao:St}{H:Hp}{s:Shared}{a:Addr}{y v:V}{u r:Value}{o:Option V}{A:Around}{E:Value->Shared->Prop}
theorem Inv.big(I:Inv X aI ao H s):sysModules<s.heap.objs.size:=by
 have h:mainGlobals<s.heap.objs.size:=(I.mod.glob.keeps I.bk).lt;exact Nat.lt_trans (by decide) h
theorem vt{Q:Value->Shared->Prop}(hu:A.units+1<cLine)(I:Inv X aI ao H s)(g:WZ H a y (some v))(bj:bW y u)(h:∀d7 aX,Inv X aI ao H aX->bW v d7->Q d7 aX):
  wpAny (model X.prog X.w) A (getItem (.ref a) u) Q E s:=by
 rcases g with⟨kvs,k,e,eA,l⟩|⟨kvs,k,b,e,eA,c2,l⟩
 .subst eA;obtain⟨z,hd,vs,rel,dd⟩:=Zai I.hok e;obtain⟨d7,hw,ha⟩:=eN.some_of (v:=v) (o:=valueAt vs k) (by rw[l];exact rel.val k);exact wpAny_getItem_of (jO bj) dd.mapOf hw (h d7 _ (I.tok _) ha)
 .subst eA;cases (show u=Value.ref b from bj);obtain⟨z,hd,xs,rel,dd⟩:=Zbo I.hok e;obtain⟨d7,hw,ha⟩:=eN.some_of (v:=v) (o:=(atKey xs k).map (·.2)) (by rw[l];exact rel.val k);obtain⟨p,aU,f'⟩:=Option.map_eq_some_iff.mp hw;refine wpAny_getItem_heap (tupleKind_room_in1 hu) (jP I.hok c2) dd aU ?_;rw[f'];exact h d7 _ (I.tok _) ha
theorem Zkc{Q:Value->Shared->Prop}(hu:A.units+1<cLine)(I:Inv X aI ao H s)(g:WZ H a y o)(bj:bW y u)(h:∀aX,Inv X aI ao H aX->Q (.bool o.isSome) aX):
  wpAny (model X.prog X.w) A (compareOp .In u (.ref a)) Q E s:=by
 rcases g with⟨kvs,k,e,eA,l⟩|⟨kvs,k,b,e,eA,c2,l⟩
 .subst eA;obtain⟨z,hd,vs,rel,dd⟩:=Zai I.hok e;refine wpAny_in_of (jO bj) hd dd.mapOf ?_;rw[<-(rel.val k).isSome_eq,<-l];exact h _ (I.tok _)
 .subst eA;cases (show u=Value.ref b from bj);obtain⟨z,hd,xs,rel,dd⟩:=Zbo I.hok e;refine wpAny_in_heap (tupleKind_room_in1 hu) (jP I.hok c2) hd dd ?_;have q:=(rel.val k).isSome_eq;rw[Option.isSome_map] at q;rw[<-q,<-l];exact h _ (I.tok _)
theorem Zhr{Q:Value->Shared->Prop}(hu:A.units+1<cLine)(I:Inv X aI ao H s)(g:WZ H a y o)(bj:bW y u)(h:∀aX,Inv X aI ao H aX->Q (.bool (!o.isSome)) aX):
  wpAny (model X.prog X.w) A (compareOp .NotIn u (.ref a)) Q E s:=by
 rcases g with⟨kvs,k,e,eA,l⟩|⟨kvs,k,b,e,eA,c2,l⟩
 .subst eA;obtain⟨z,hd,vs,rel,dd⟩:=Zai I.hok e;refine wpAny_notIn_of (jO bj) hd dd.mapOf ?_;rw[<-(rel.val k).isSome_eq,<-l];exact h _ (I.tok _)
 .subst eA;cases (show u=Value.ref b from bj);obtain⟨z,hd,xs,rel,dd⟩:=Zbo I.hok e;refine wpAny_notIn_heap (tupleKind_room_in1 hu) (jP I.hok c2) hd dd ?_;have q:=(rel.val k).isSome_eq;rw[Option.isSome_map] at q;rw[<-q,<-l];exact h _ (I.tok _)
theorem Zec{h':Heap}{t':Nat}{bE:HO}(I:Inv X aI ao H s)(e6:Mut (H a))(a4:Heap.SameBut a s.heap h')(bn:∃q,h'.get? a=some q)(new:ZQ X.prog X.w (upd H a bE) h' a bE):
  Inv X aI ao (upd H a bE) {s with heap:=h',toks:=t'}:=
 I.write (x:=a) (e:=a) e6 (.inl rfl) (λb q aJ z=>(a4.2 b aJ).trans z) bn new
theorem vu{P:Program}{w:World}{aH:Hp}{h':Heap}{kvs:List (Key×V)}{vs:List (Key×Value)}(z:kvs.length<=sizeLine)(hd:(a==sysModules)=false)(rel:KV kvs vs)(dd:h'.DictOf (eM P w) a vs):
  ZQ P w aH h' a (.dK kvs):=⟨z,hd,vs,rel,dd⟩
theorem Zf4{aH:Hp}{Q:Unit->Shared->Prop}(hu:A.units+1<cLine)(I:Inv X aI ao H s)(g:Zdc H a y v aH)(bj:bW y u)(b2:bW v r)(h:∀aX,Inv X aI ao aH aX->Q () aX):
  wpAny (model X.prog X.w) A (setItem (.ref a) u r) Q E s:=by
 rcases g with⟨kvs,k,e,eA,l,mQ⟩|⟨kvs,k,b,e,eA,c2,l,mQ⟩
 .subst eA mQ;obtain⟨z,hd,vs,rel,dd⟩:=ZgY I.hok e;have hz:vs.length<=sizeLine:=by rw[<-rel.length];exact z
  have aK:(e1 kvs k v).length<=sizeLine:=by have:=ZaH kvs k v;omega
  refine wpAny_setItem_pairs (hsz:=hz) (jO bj) dd λh' dd' a4=>h _ ?_;have bn:∃q,h'.get? a=some q:=let⟨q,_,_,be,_⟩:=dd';⟨q,be⟩
  exact Zec I (by rw[e];exact True.intro) a4 bn (vu aK hd (rel.put k b2) dd')
 .subst eA mQ;cases (show u=Value.ref b from bj);obtain⟨z,hd,xs,rel,dd⟩:=ZjF I.hok e;have hz:xs.length<=sizeLine:=by rw[<-Paired.length rel];exact z
  have aK:(e1 kvs k v).length<=sizeLine:=by have:=ZaH kvs k v;omega
  refine wpAny_setItem_heap (hsz:=hz) (tupleKind_room_in1 hu) (jP I.hok c2) dd λh' dd' a4=>h _ ?_;obtain⟨q,bg,ep,be,aQ,bJ,cx,_,ea⟩:=dd';refine Zec I (by rw[e];exact True.intro) a4 ⟨q,be⟩ ⟨aK,hd,_,(rel.put k c2 b2).keeps λc ys fz=>?_,q,bg,ep,be,aQ,bJ,cx,ea⟩;rw[bX (hN fz e (λz=>nomatch z))];exact fz
end
section
variable {X:Cx}{aI:List (Addr×Obj)}{ao:St}{H:Hp}{s:Shared}{a:Addr}{kvs:List (Key×V)}{k:Key}{u:Value}{A:Around}{E:Value->Shared->Prop}
theorem ZjB{Q:Value->Shared->Prop}(I:Inv X aI ao H s)(e:Rd H a (.dK kvs))(h:∀t aX,Inv X aI ao H aX->Q (.int kvs.length t) aX):wpAny (model X.prog X.w) A (call (.builtin "len") [.ref a]) Q E s:=by
 obtain⟨z,hd,vs,rel,dd⟩:=Zai I.hok e;refine call_len_dict hd dd (by rw[<-rel.length];rw[sizeLine_eq] at z;omega) ?_;rw[<-rel.length];exact h _ _ (I.tok _)
end
theorem vv{X:Cx}{aI:List (Addr×Obj)}{ao:St}{H:Hp}{s:Shared}{a:Addr}{y:V}{o:Option V}(I:Inv X aI ao H s)(g:WZ H a y o):s.TypeIs (.ref a) "dict" :=by
 rcases g with⟨kvs,k,e,_,_⟩|⟨kvs,k,b,e,_,_,_⟩
 .obtain⟨_,_,vs,_,dd⟩:=Zai I.hok e;exact dd.typeIs
 .obtain⟨_,_,xs,_,dd⟩:=Zbo I.hok e;exact dd.typeIs
theorem vw{P:Program}{w:World}{H:Hp}(h:Heap)(aJ:sysModules<h.objs.size):ZQ P w H (h.push {cls:= .type "dict",data:= .dict #[]}) h.objs.size (.dK []):=
 ⟨Qn _,beq_eq_false_iff_ne.mpr (JH (Qj aJ)),[],.nil,Heap.DictOf.new h⟩
def tDNewK:TE:=λ_ H Q=>∀p,H p=none->Q (.ref p) (upd H p (.dK []))
section
variable {X:Cx}{pos:Pos}
theorem vx:PE X (.Dict [] [] pos) tDNewK:=λaI s ao H Q I h=>
 wpAny_Dict_empty ⟨.ref s.heap.objs.size,_,I.laid (a:=s.heap.objs.size) (o:= .dK []) (t':=s.toks) (λ_ _ q=>Heap.get?_push_of_some _ q) (Qb _) (vw s.heap I.big),rfl,h _ (I.hok.fresh (Qb _))⟩
end
section
variable {X:Cx}
theorem vy:Yk X (.builtin "len") (λxs H Q=>∃a kvs,xs=[V.ref a]/\H a=some (.dK kvs)/\Q (.int kvs.length) H):=by
 intro aI s ao H xs us Q I r h;obtain⟨a,kvs,rfl,aS,q⟩:=h;obtain⟨u,rfl,dt⟩:=Wa r;cases dt;exact ZjB I (.inl aS) λt aX dO=>⟨.int kvs.length,H,dO,⟨t,rfl⟩,q⟩
end
namespace Rd
section
variable {ao:St}{H:Hp}{Q:VK}{D:Wj}{t u:TS}{bc bG bH:TE}{r:R2}
theorem var{i:Nat}{v:V}(h:ao[i]? =some (some v))(q:Q v H):ZbM i ao H Q:=⟨v,h,q⟩
theorem con{v:V}(q:Q v H):tC v ao H Q:=q
theorem op(h:bc ao H λx aL=>bG ao aL λy aY=>r x y aY Q):tOp r bc bG ao H Q:=h
theorem i0{g:Int->Int->V}{i j:Int}(q:Q (g i j) H):rI0 g (.int i) (.int j) H Q:=⟨i,j,rfl,rfl,q⟩
theorem iC{C:Int->Int->Prop}{g:Int->Int->V}{i j:Int}(c:C i j)(q:Q (g i j) H):rI C g (.int i) (.int j) H Q:=⟨i,j,rfl,rfl,c,q⟩
theorem eqI{i j:Int}(q:Q (.bl (decide (i=j))) H):rEq (.int i) (.int j) H Q:=⟨rfl,by
 have e:decide (V.int i=V.int j)=decide (i=j):=by
  by_cases h:i=j
  .rw[h];simp
  .rw[decide_eq_false h,decide_eq_false (λz=>h (V.int.inj z))]
 rw[e];exact q⟩
theorem neI{i j:Int}(q:Q (.bl (!decide (i=j))) H):rNe (.int i) (.int j) H Q:=⟨rfl,by
 have e:decide (V.int i=V.int j)=decide (i=j):=by
  by_cases h:i=j
  .rw[h];simp
  .rw[decide_eq_false h,decide_eq_false (λz=>h (V.int.inj z))]
 rw[e];exact q⟩
theorem Zkh{Q:Bool->Hp->Prop}(h:bH ao H λx aH=>∃k,x= .bl k/\Q k aH):pF bH ao H Q:=h
theorem bl{k:Bool}{Q:Bool->Prop}(q:Q k):∃eF,V.bl k= .bl eF/\Q eF:=⟨k,rfl,q⟩
theorem seq(h:t {D with nx:=u D} ao H):pp t u D ao H:=h
theorem asg{g:TG}(h:bH ao H λx aL=>g x ao aL D.nx):jz bH g D ao H:=h
theorem ifs{c:TT}(h:c ao H λb aL=>if b=true then t D ao aL else u D ao aL):pu c t u D ao H:=h
theorem ret(h:bH ao H D.rt):pr bH D ao H:=h
theorem next(h:D.nx ao H):tNext D ao H:=h
theorem drop(h:bH ao H λ_ aL=>D.nx ao aL):pq bH D ao H:=h
theorem nil{Q:List V->Hp->Prop}(h:Q [] H):tNil ao H Q:=h
theorem cons{tr:TA}{Q:List V->Hp->Prop}(h:bc ao H λx aL=>tr ao aL λxs aY=>Q (x::xs) aY):mw bc tr ao H Q:=h
theorem call{sp:Sp}{da:List V}{E:XK}{ts:TA}(h:ts ao H λvs aL=>sp (vs++da) aL Q E):kJ sp da E ts ao H Q:=h
theorem cb{r:List V->Hp->VK->Prop}{ts:TA}(h:ts ao H λvs aL=>r vs aL Q):tCB r ts ao H Q:=h
theorem tup{ts:TA}(h:ts ao H λxs aL=>xs.length<=sizeLine/\∀p,aL p=none->Q (.ref p) (upd aL p (.tup xs))):pJ ts ao H Q:=h
theorem lst{ts:TA}(h:ts ao H λxs aL=>xs.length<=sizeLine/\∀p,aL p=none->Q (.ref p) (upd aL p (.lst xs))):pK ts ao H Q:=h
theorem ZjT{t u:TT}{Q:Bool->Hp->Prop}(h:t ao H λc aL=>if c=true then u ao aL Q else Q false aL):pf t u ao H Q:=h
theorem or_{t u:TT}{Q:Bool->Hp->Prop}(h:t ao H λc aL=>if c=true then Q true aL else u ao aL Q):tOr t u ao H Q:=h
theorem Zkf{t:TT}{Q:Bool->Hp->Prop}(h:t ao H λc aL=>Q (!c) aL):ph t ao H Q:=h
theorem ZjP(h:bc ao H λx aL=>∃c,x= .bl c/\if c=true then bG ao aL Q else Q (.bl false) aL):pi bc bG ao H Q:=h
theorem orV(h:bc ao H λx aL=>∃c,x= .bl c/\if c=true then Q (.bl true) aL else bG ao aL Q):pj bc bG ao H Q:=h
theorem ZjM(h:bc ao H λx aL=>∃c,x= .bl c/\Q (.bl (!c)) aL):pk bc ao H Q:=h
end
end Rd
section
variable {X:Cx}
theorem vz:OpR X (binaryOp .Mult) (rI (λi j=>IntMulOk i j) λi j=> .int (i*j)):=opI λ_ _ _ _ _ _ _ aO q=>mul_int q aO
theorem fA:OpR X (binaryOp .FloorDiv) (rI (λ_ j=>0<j/\j.natAbs.log2<9000) λi j=> .int (i / j)):=opI λi j _ _ _ _ _ aO q=>by
 rw[<-Int.fdiv_eq_ediv_of_nonneg i (Int.le_of_lt aO.1)] at q;exact floordiv_int (by have:=aO.1;omega) q (.inl (PyProof.noPylong_of_log2 aO.2))
theorem vA:Yk X (.builtin "isinstance") (λxs H Q=>∃x n t b,xs=[x,.ty n]/\YI X.K H x t/\kitOne X.K t (.type n)=some b/\Q (.bl b) H):=by
 intro aI s ao H xs us Q I r h;obtain⟨x,n,t,b,rfl,ty,e,q⟩:=h;obtain⟨u,v,rfl,dt,b2⟩:=r.two;obtain rfl:v=Value.type n:=b2;exact ZfH I dt ty e λcX=>⟨.bl b,H,I.tok cX,rfl,q⟩
theorem Zib{c:TT}{bG:TS}{D:Wj}{ao:St}{H:Hp}(W:Nat->St->Hp->Prop)(m:Nat)(ce:W m ao H)
  (a4:∀m ao H,W m ao H->c ao H λb aL=>if b=true then ∃N:St->Hp->Prop,(∀a5 aH,N a5 aH->∃a9,a9<m/\W a9 a5 aH)/\bG {D with nx:=N,ct:=N,bk:=D.nx} ao aL else D.nx ao aL):pz c bG D ao H:=
 ⟨W,⟨m,ce⟩,a4⟩
theorem Zjv{W:Nat->St->Hp->Prop}{m:Nat}{bG:TS}{D:Wj}{ao:St}{aL:Hp}
  (h:bG {D with nx:=λa5 aH=>∃a9,a9<m/\W a9 a5 aH,ct:=λa5 aH=>∃a9,a9<m/\W a9 a5 aH,bk:=D.nx} ao aL):
  ∃N:St->Hp->Prop,(∀a5 aH,N a5 aH->∃a9,a9<m/\W a9 a5 aH)/\bG {D with nx:=N,ct:=N,bk:=D.nx} ao aL:=⟨_,λ_ _ z=>z,h⟩
def p2 (t:TS):TS:=λD ao H=>∃J:St->Hp->Prop,(∀a5 aH,J a5 aH->D.nx a5 aH)/\t {D with nx:=J} ao H
theorem hc{st:Stmt}{t:TS}(h:PS X st t):PS X st (p2 t):=by
 intro aI s ao H D I be;obtain⟨J,mR,q⟩:=be;refine thn (h aI s ao H _ I q) λf s1 bQ=>?_;cases f with
 |next=>obtain⟨a5,aH,dO,j⟩:=bQ;exact⟨a5,aH,dO,mR _ _ j⟩
 |brk=>exact bQ
 |cont=>exact bQ
 |ret v=>exact bQ
end
namespace Rd
theorem Zhf{A B:Prop}(h:B):if(!true)=true then A else B:=Zda h
theorem Zha{A B:Prop}(h:A):if(!false)=true then A else B:=Zel h
section
variable {ao:St}{H:Hp}{Q:VK}{D:Wj}{t u:TS}{bc bG bH:TE}
theorem cut(J:St->Hp->Prop)(mR:∀a5 aH,J a5 aH->D.nx a5 aH)(h:t {D with nx:=J} ao H):p2 t D ao H:=⟨J,mR,h⟩
theorem ZjQ{c5:TI}{g:TG}{bG:TS}(h:c5 ao H λJ aL=>∃W:Nat->Nat->St->Hp->Prop,(∃m,W 0 m ao aL)/\∀i m ao H,W i m ao H->
  (J.stop i H/\D.nx ao H)\/(J.go i H/\∃N:St->Hp->Prop,(∀a5 aH,N a5 aH->∃a9,a9<m/\W (i+1) a9 a5 aH)/\∀x aH,J.yld i H x aH->g x ao aH λci aY=>bG {D with nx:=N,ct:=N,bk:=D.nx} ci aY)):pB c5 g bG D ao H:=h
theorem Zkq{ts:TA}{R:It->Hp->Prop}(h:ts ao H λvs aL=>∃j:Int,vs=[.int j]/\ -(2 ^ 62)<=j/\j<2 ^ 62/\R (Itr 0 j.toNat) aL):pA ts ao H R:=h
theorem Zgq{K:Frag}{n:Nat}{ts:TGs}{a:Addr}{xs:List V}{Q:St->Hp->Prop}(a4:SqT K H a xs)(a':xs.length=n)(h:ts xs ao H Q):mf K n ts (.ref a) ao H Q:=⟨a,xs,rfl,a4,a',h⟩
theorem Zj8{Q:St->Hp->Prop}(h:Q ao H):gNil [] ao H Q:=⟨rfl,h⟩
theorem Zjt{g:TG}{gG:TGs}{v:V}{r:List V}{Q:St->Hp->Prop}(h:g v ao H λa5 aH=>gG r a5 aH Q):pw g gG (v::r) ao H Q:=⟨v,r,rfl,h⟩
end
end Rd
theorem cu{H:Hp}{p:Addr}{o:HO}(aU:H p=none):Ze H (upd H p o):=λc u e=>by rw[bX (dy e aU)];exact e
theorem Ze.new{H aH:Hp}{q:Addr}{o:HO}(bC:Ze H aH)(be:H q=none):Ze H (upd aH q o):=λc u e=>by rw[bX (dy e be)];exact bC c u e
theorem Ze.seqT{K:Frag}{H aH:Hp}{a:Addr}{xs:List V}(e:Ze H aH)(h:SqT K H a xs):SqT K aH a xs:=by
 rcases h with(h|⟨o,h⟩)|h
 .exact .inl (.inl (e _ _ h))
 .exact .inl (.inr ⟨o,e _ _ h⟩)
 .exact .inr h
namespace Rd
section
variable {ao:St}{H:Hp}{Q:VK}{D:Wj}{K:Frag}
theorem ixt{p:Addr}{xs:List V}{i:Int}{v:V}(h:SqT K H p xs)(e:atI xs i=some v)(q:Q v H):mB K (.ref p) (.int i) H Q:=⟨p,xs,i,v,rfl,rfl,h,e,q⟩
theorem ixl{p:Addr}{xs:List V}{i:Int}{v:V}(h:SqL K H p xs)(e:atI xs i=some v)(q:Q v H):Ze8 K (.ref p) (.int i) H Q:=⟨p,xs,i,v,rfl,rfl,h,e,q⟩
theorem bm{T:String}{r:V->List V->Hp->VK->Prop}{to:TE}{t:TA}(h:to ao H λx aL=>tyV K T x aL/\t ao aL λxs aY=>r x xs aY Q):tBM K T r to t ao H Q:=h
theorem bm0{T:String}{r:V->List V->Hp->VK->Prop}{to:TE}(h:to ao H λx aL=>tyV K T x aL/\r x [] aL Q):mD K T r to ao H Q:=h
theorem tyl{p:Addr}{xs:List V}{B:Prop}(h:H p=some (.lst xs))(q:B):tyV K "list" (.ref p) H/\B:=⟨.inl ⟨rfl,xs,.of h⟩,q⟩
theorem app{p:Addr}{xs:List V}{y:V}(h:H p=some (.lst xs))(aK:xs.length<sizeLine)(q:Q .non (upd H p (.lst (xs++ [y])))):rAppend (.ref p) [y] H Q:=⟨p,xs,y,rfl,rfl,h,aK,q⟩
end
end Rd
noncomputable def emb (ix:List Nat) (ao:St):St:=none::ix.map λj=>(ao[j]?).join
noncomputable def Zl (X:Cx) (a7:Scope) (bu:List (Str×Addr)) (C:Addr) (N:List Str) (s:Shared) (H:Hp) (fp:List Addr):Cx where
 prog:=X.prog
 w:=X.w
 K:=X.K
 mg:=X.mg
 base:=X.base
 A:=X.A
 N:=N
 s₀:=s
 H₀:=H
 env:=compEnvC a7 bu C X.env
 outer:=X.stack
 stack:=X.stack
 ex:=fp
 fn:=λ_=>false
 calm:=X.calm
 pn:=[]
 xe:=λ_ _=>False
structure Ys(X:Cx)(a7:Scope)(x:Str)(zs:List Str)(ix:List Nat):Prop where
 kind:a7.kind= .function
 nocell:∀y∈a7.names,y.2≠ .cell
 names:∀y∈a7.names,y.2= .local->a7.names.lookup y.1=some .local
 free:∀y∈a7.names,y.2= .free->X.env.kindOf y.1=some .cell\/X.env.kindOf y.1=some .free
 zfree:∀z∈zs,a7.names.lookup z=some .free
 at_:ix.map (λj=>X.N[j]?)=zs.map some
theorem YQ{env:Env}{x:Str}:∀{names:List (Str×NameKind)}{k:NameKind},
  (names.map λ(n,k)=>if(k==NameKind.free&&env.scope.kind== .function&&env.kindOf n==some .cell) then(n,NameKind.cell) else(n,k)).lookup x=some k->
  ∃eF,names.lookup x=some eF/\(k=eF\/(eF= .free/\k= .cell))
 | [],_,h=>by simp at h
 |(n,j)::r,k,h=>by
  have h':List.lookup x ((if(j==NameKind.free&&env.scope.kind== .function&&env.kindOf n==some .cell)=true then(n,NameKind.cell) else(n,j))::(r.map λ(n,k)=>if(k==NameKind.free&&env.scope.kind== .function&&env.kindOf n==some .cell) then(n,NameKind.cell) else(n,k)))=some k:=h;cases aV:x==n with
  |true=>
   refine⟨j,by simp[QL,aV],?_⟩
   by_cases aO:(j==NameKind.free&&env.scope.kind== .function&&env.kindOf n==some .cell)=true
   .rw[if_pos aO] at h';simp only[QL,aV] at h';cases h';simp only[Qz,beq_iff_eq] at aO;exact .inr ⟨aO.1.1,rfl⟩
   .rw[if_neg aO] at h';simp only[QL,aV] at h';cases h';exact .inl rfl
  |false=>
   have aQ:List.lookup x (r.map λ(n,k)=>if(k==NameKind.free&&env.scope.kind== .function&&env.kindOf n==some .cell) then(n,NameKind.cell) else(n,k))=some k:=by
    by_cases aO:(j==NameKind.free&&env.scope.kind== .function&&env.kindOf n==some .cell)=true
    .rw[if_pos aO] at h';simpa only[QL,aV] using h'
    .rw[if_neg aO] at h';simpa only[QL,aV] using h'
   obtain⟨eF,e,q⟩:=YQ aQ;exact⟨eF,by simp only[QL,aV];exact e,q⟩
theorem hy{x:Str}{k:NameKind}:∀{names:List (Str×NameKind)},names.lookup x=some k->(x,k)∈names:=λh=>Q4 h
theorem V9(env:Env):∀(names:List (Str×NameKind))(cn:List (Str×Addr)),
  (∀y∈names,y.2= .free->∃c,env.cells.lookup y.1=some c)->(∀y c,cn.lookup y=some c->env.cells.lookup y=some c)->
  ∃bu:List (Str×Addr),(forIn names cn (λx (r:List (Str×Addr))=>if x.2==NameKind.free then(do let a<-cellOf env x.1;pure (ForInStep.yield ((x.1,a)::r))) else pure (ForInStep.yield r)):Sem (List (Str×Addr)))=pure bu/\
   (∀y c,bu.lookup y=some c->env.cells.lookup y=some c)/\(∀y,(∃c,cn.lookup y=some c)\/(y,NameKind.free)∈names->∃c,bu.lookup y=some c)
 | [],cn,_,aS=>⟨cn,rfl,aS,λy h=>h.elim id λz=>absurd z (by simp)⟩
 |(n,k)::r,cn,a6,aS=>by
  have aR:∀y∈r,y.2= .free->∃c,env.cells.lookup y.1=some c:=λy bt=>a6 y (QH _ bt)
  by_cases aT:k= .free
  .subst aT;obtain⟨c,aO⟩:=a6 (n,.free) Jp rfl;have fB:∀y ck,((n,c)::cn).lookup y=some ck->env.cells.lookup y=some ck:=λy ck h=>by
    cases bt:y==n with
    |true=>
     simp only[QL,bt] at h;cases h;rw[beq_iff_eq.mp bt];exact aO
    |false=>
     simp only[QL,bt] at h;exact aS y ck h
   obtain⟨bu,e,aN,aQ⟩:=V9 env r ((n,c)::cn) aR fB;refine⟨bu,?_,aN,λy h=>aQ y ?_⟩
   .rw[List.forIn_cons];have:cellOf env n=pure c:=by unfold cellOf;rw[aO]
    simp only[beq_self_eq_true,if_true,this];exact e
   .rcases h with⟨ck,h⟩|h
    .cases bt:y==n with
     |true=>exact .inl ⟨c,by simp only[QL,bt]⟩
     |false=>exact .inl ⟨ck,by simp only[QL,bt];exact h⟩
    .rcases Qi.mp h with h|h
     .cases h;exact .inl ⟨c,by simp⟩
     .exact .inr h
  .obtain⟨bu,e,aN,aQ⟩:=V9 env r cn aR aS;refine⟨bu,?_,aN,λy h=>aQ y ?_⟩
   .rw[List.forIn_cons];have aJ:(k==NameKind.free)=false:=by simpa using aT
    simp only[aJ,Bool.false_eq_true,if_false];exact e
   .rcases h with h|h
    .exact .inl h
    .rcases Qi.mp h with h|h
     .cases h;exact absurd rfl aT
     .exact .inr h
def PIf(X:Cx)(ifs:List Expr)(t:TT):Prop:=
 ∀(aI:List (Addr×Obj))(s:Shared)(ao:St)(H:Hp)(Q:Bool->Hp->Prop),Inv X aI ao H s->t ao H Q->
  wpAny (model X.prog X.w) X.A (forIn ifs true λc r=>if r=true then do let ok<-isTrue c X.env (eval c X.env);pure (ForInStep.yield ok) else pure (ForInStep.yield r)) (TP X aI ao Q) X.xe s
def tAll:TT:=λ_ H Q=>Q true H
section
variable {X:Cx}
theorem e2:PIf X [] tAll:=λ_ _ _ H _ I h=>wpAny_pure ⟨H,I,h⟩
theorem vB{c:Expr}{t:TT}(aO:PT X c t):PIf X [c] t:=by
 intro aI s ao H Q I h;rw[List.forIn_cons];simp only[if_true];refine wpAny_bind (wpAny_bind (thn (aO aI s ao H _ I h) λb s1 q=>wpAny_pure ?_));exact wpAny_pure q
end
section
variable {prog:Program}{w:World}{A:Around}{R:Result->Shared->Prop}{s:Shared}
theorem US{dE target iter:Expr}{ifs:List Expr}{scope:Scope}{pos:Pos}{it cn:Value}{env:Env}(I:Nat->Shared->Prop)
  (turn:∀n s,I n s->wpAny (model prog w) A (pyNext it) (λr cr=>match r with
   |none=>R (.ok .next) cr
   |some v=>wpAny (model prog w) A (letOwnedTupleGo target it v) (λ_ s₀=>wpAny (model prog w) A (assign target env v) (λ_ iM=>
     wpAny (model prog w) A (forIn ifs true λc r=>if r=true then do let ok<-isTrue c env (eval c env);pure (ForInStep.yield ok) else pure (ForInStep.yield r)) (λok h8=>
      if ok=true then wpAny (model prog w) A (eval dE env) (λx i4=>
       wpAny (model prog w) A (call (.builtin "list.append") [cn,x]) (λ_ p3=>∃m,m<n/\I m p3) (λ_ _=>False) i4) (λ_ _=>False) h8
      else ∃m,m<n/\I m h8) (λ_ _=>False) iM) (λ_ _=>False) s₀) (λ_ _=>False) cr) (λ_ _=>False) s)
  (n:Nat) (h:I n s):
  codeAny (model prog w) A (.compLoop (.ListComp dE [⟨target,iter,ifs,0⟩] scope pos) 0 it cn env) R s:=by
 refine codeAny_loop rfl I (λn s vC=>?_) n h;show wpAny _ A ((compTurn (.ListComp dE [⟨target,iter,ifs,0⟩] scope pos) 0 it cn env).onRaise (λx=>do noteFrame x env;theTreesLotGoes x)) _ _ s;refine wpAny_noted ?_;rw[compTurn_list];refine wpAny_bind (wpAny_standAt (wpAny_bind (wpAny_mono (turn n s vC) (λr cr eh=>?_) λ_ _ z=>z.elim)));cases r with
 |none=>exact wpAny_pure eh
 |some v=>
  refine wpAny_bind (wpAny_mono eh (λ_ s₀ h₀=>?_) λ_ _ z=>z.elim);refine wpAny_bind (wpAny_mono h₀ (λ_ iM vD=>wpAny_bind (wpAny_mono vD (λok h8 p4=>?_) λ_ _ z=>z.elim)) λ_ _ z=>z.elim);cases ok with
  |false=>exact wpAny_pure ⟨rfl,p4⟩
  |true=>
   exact wpAny_bind (wpAny_bind (wpAny_mono p4 (λx i4 vE=>wpAny_bind (wpAny_mono vE (λ_ p3 vF=>wpAny_pure (wpAny_pure ⟨rfl,vF⟩)) λ_ _ z=>z.elim)) λ_ _ z=>z.elim))
end
def mS (ix:List Nat) (c5:TI) (g:TG) (b_:TT) (bH:TE):TE:=λao H Q=>c5 ao H λJ aL=>∀p,aL p=none->
 ∃W:Nat->Nat->List V->St->Hp->Prop,(∃m,W 0 m [] (emb ix ao) (upd aL p (.lst [])))/\∀i m ys a5 aH,W i m ys a5 aH->
  (J.stop i aH/\Q (.ref p) aH)\/(J.go i aH/\∀x aY,J.yld i aH x aY->g x a5 aY λci bT=>b_ ci bT λb bx=>
   if b=true then bH ci bx λv bM=>bM p=some (.lst ys)/\ys.length<sizeLine/\∃a9,a9<m/\W (i+1) a9 (ys++ [v]) ci (upd bM p (.lst (ys++ [v])))
   else ∃a9,a9<m/\W (i+1) a9 ys ci bx)
section
variable {X:Cx}
theorem ZeH{aI:List (Addr×Obj)}{ao:St}{H:Hp}{s:Shared}{a7:Scope}{x:Str}{zs:List Str}{ix:List Nat}{bu:List (Str×Addr)}{fp:List Addr}{eh:Heap}{cX:Nat}
  (S:Ys X a7 x zs ix) (I:Inv X aI ao H s) (dF:∀y c,bu.lookup y=some c->X.env.cells.lookup y=some c) (eG:∀y,(y,NameKind.free)∈a7.names->∃c,bu.lookup y=some c)
  (ga:∀b∈fp,eo X aI H b/\b<s.heap.objs.size) (i2:eh.Ns s.heap.objs.size λ_=>none) (aT:∀b o,s.heap.get? b=some o->eh.get? b=some o):
  Inv (Zl X a7 bu s.heap.objs.size (x::zs) s H fp) [] (emb ix ao) H {s with heap:=eh,toks:=cX}:=by
 have sub:∀b∈frs X.stack,b∈X.env.locals::X.fs:=I.stkSub;have mT:∀b∈fp,b∉frs X.stack:=λb aJ z=>by
  obtain⟨⟨_,f1,f2,_⟩,_⟩:=ga b aJ;rcases Qi.mp (sub b z) with e|e
  .exact f1 e
  .exact f2 e
 have cut:∀y,(Zl X a7 bu s.heap.objs.size (x::zs) s H fp).env.kindOf y=some .cell\/(Zl X a7 bu s.heap.objs.size (x::zs) s H fp).env.kindOf y=some .free->∃c,bu.lookup y=some c:=λy bt=>by
  have q:∃k,(relabel a7 X.env).names.lookup y=some k/\(k= .cell\/k= .free):=by
   rcases bt with bt|bt
   .exact⟨_,bt,.inl rfl⟩
   .exact⟨_,bt,.inr rfl⟩
  obtain⟨k,e,aT⟩:=q;obtain⟨eF,bq,q⟩:=YQ e;have:eF= .free:=by
   rcases q with q|⟨q,_⟩
   .rcases aT with z|z
    .exact absurd (q.symm.trans z) (S.nocell _ (hy bq))
    .exact q.symm.trans z
   .exact q
  subst this;exact eG y (hy bq)
 refine⟨⟨I.ok.mod,S.kind,I.ok.glob,I.ok.blt,Qb _,λy z c aN aQ=>I.ok.inj y z c (dF _ _ aN) (dF _ _ aQ),cut,λy c a6 _=>?_,I.ok.hd,I.ok.frames,.inl rfl,λb aJ=>?_,I.bs,Qu I.ok.bsz I.sz,λb o e aJ=>?_,mT,I.stack,I.stkFree⟩,
  rfl,I.bare,Un.kept aT,⟨_,i2,λi y v aN aQ bJ=>?_⟩,λy c h=>?_,I.hok.fresh (Qb _),λy c h=>I.freeC y c (dF y c h),λp aU=>absurd (show p∈([]:List (Addr×Obj)) from aU) (by simp),I.hok.kept aT,?_⟩
 .exact absurd (show false=true from a6) (by decide)
 .obtain⟨⟨du,f1,f2,cF,c_,dn⟩,aK⟩:=ga b aJ;exact⟨Qj aK,λy c h=>c_ y c (dF y c h)⟩
 .obtain⟨⟨du,f1,f2,cF,c_,dn⟩,aK⟩:=ga b aJ;rcases cF with z|z
  .exact I.ok.noex b o e z
  .exact absurd (Qo (Heap.lt_size e) (Qu I.ok.bsz z)) (QZ _)
 ·
  cases i with
  |zero=>
   have:(none:Option (Option V))=some (some v)\/(some none:Option (Option V))=some (some v):= .inr aQ;rcases this with z|z<;>cases z
  |succ i=>
   have gH:zs[i]? =some y:=aN;have d2:(ix.map λj=>(ao[j]?).join)[i]? =some (some v):=aQ;have aS:(ix.map λj=>X.N[j]?)[i]? =some (some y):=by rw[S.at_,QA,gH];rfl
   rw[QA] at d2 aS;cases e:ix[i]? with
   |none=>rw[e] at d2;cases d2
   |some j=>
    rw[e] at d2 aS;have fB:X.N[j]? =some y:=Qt aS;have bP:(ao[j]?).join=some v:=Qt d2;have mU:ao[j]? =some (some v):=by
     cases q:ao[j]? with
     |none=>rw[q] at bP;cases bP
     |some o=>rw[q] at bP;exact congrArg some bP
    obtain⟨m,a',aK⟩:=I.loc;have eH:=S.zfree y (Qv gH);have h2:=S.free _ (hy eH) rfl;have bO:Vis X.env.scope y:=by
     rcases h2 with z|z
     .exact .inr (.inl z)
     .exact .inr (.inr z)
    obtain⟨u,r,q⟩:=aK j y v fB mU bO;refine⟨u,r,?_⟩;rcases q with⟨mV,_⟩|⟨_,c,aO,iN⟩
    .have jQ:X.env.kindOf y=some .local:=mV;rcases h2 with z|z<;>(rw[z] at jQ;cases jQ)
    .obtain⟨ck,gu⟩:=eG y (hy eH);have fz:ck=c:=by have:=dF y ck gu;rw[aO] at this;exact(Qt this).symm
     subst fz;refine .inr ⟨?_,ck,gu,?_⟩
     .have mW:Vis (relabel a7 X.env) y:=bJ;rcases mW with z|z|z
      .obtain⟨eF,bq,q⟩:=YQ z;rw[eH] at bq;cases bq;rcases q with q|⟨_,q⟩<;>cases q
      .exact .inl z
      .exact .inr z
     .obtain⟨o,bf,hd⟩:=iN;exact⟨o,aT _ _ bf,hd⟩
 .obtain⟨v,o,bf,hd⟩:=I.cell y c (dF y c h);exact⟨v,o,aT _ _ bf,hd⟩
 .show(none::ix.map λj=>(ao[j]?).join).length=(x::zs).length;have:=congrArg List.length S.at_;simp only[Qc] at this;simp only[List.length_cons,Qc,this]
structure Zg3(ok:Cx->Prop)(P:Program)(w:World)(K:Frag)(bN:Expr)(J:It)(fp:List Addr)(it:Addr)(b3:Nat->Heap->Prop):Prop where
 obj:∀i h,b3 i h->∀b∈fp,∃o,h.get? b=some o/\∀v,o.data≠ .cell v
 keep:∀i h h',b3 i h->(∀b∈fp,∀o,h.get? b=some o->h'.get? b=some o)->b3 i h'
 item:∀(X:Cx),X.prog=P->X.w=w->X.K=K->ok X->∀(i:Nat)(aI:List (Addr×Obj))(s:Shared)(ao:St)(H:Hp)(E:Value->Shared->Prop),Inv X aI ao H s->(∀b∈fp,eo X aI H b)->b3 i s.heap->J.go i H->
  wpAny (model P w) X.A (pyNext (.ref it)) (λr s1=>∃u,r=some u/\
   wpAny (model P w) X.A (letOwnedTupleGo bN (.ref it) u) (λ_ bw=>∃x aH,Inv X aI ao aH bw/\bW x u/\J.yld i H x aH/\b3 (i+1) bw.heap/\∀b∈fp,aH b=none) E s1) E s
 done:∀(X:Cx),X.prog=P->X.w=w->X.K=K->ok X->∀(i:Nat)(aI:List (Addr×Obj))(s:Shared)(ao:St)(H:Hp)(E:Value->Shared->Prop),Inv X aI ao H s->(∀b∈fp,eo X aI H b)->b3 i s.heap->J.stop i H->
  wpAny (model P w) X.A (pyNext (.ref it)) (λr s1=>r=none/\Inv X aI ao H s1) E s
 self:∀(A:Around)(i:Nat)(s:Shared)(Q:Value->Shared->Prop)(E:Value->Shared->Prop),b3 i s.heap->Q (.ref it) s->wpAny (model P w) A (pyIter (.ref it)) Q E s
theorem Ud.c{P:Program}{w:World}{K:Frag}{bN:Expr}{J:It}{fp:List Addr}{it:Addr}{b3:Nat->Heap->Prop}(T:Ud P w K bN J fp it b3):Zg3 (λX=>X.calm=true) P w K bN J fp it b3:=
 ⟨T.obj,T.keep,T.item,T.done,T.self⟩
def p5(X:Cx)(aI:List (Addr×Obj))(ao:St)(Q:VK)(cn:Value)(C:Addr)(aX:Shared):Prop:=
 ∃p aH m,cn=Value.ref p/\aX.heap.Ns C m/\Inv X aI ao aH aX/\eo X aI aH C/\Q (.ref p) aH
theorem Za7{aI:List (Addr×Obj)}{ao:St}{H:Hp}{s:Shared}{a7:Scope}{x:Str}{zs:List Str}{ix:List Nat}{bu:List (Str×Addr)}{fp:List Addr}{it:Addr}{b3:Nat->Heap->Prop}{J:It}
  {dE bN iter:Expr} {ifs:List Expr} {pos:Pos} {g:TG} {b_:TT} {bH:TE} {Q:VK} {E:Value->Shared->Prop} {RR:Value->Addr->Result->Shared->Prop} {p6:Cx->Prop}
  (aO:∀C N s H,p6 (Zl X a7 bu C N s H fp)) (S:Ys X a7 x zs ix) (I:Inv X aI ao H s) (dF:∀y c,bu.lookup y=some c->X.env.cells.lookup y=some c) (eG:∀y,(y,NameKind.free)∈a7.names->∃c,bu.lookup y=some c)
  (T:Zg3 p6 X.prog X.w X.K bN J fp it b3) (st:b3 0 s.heap) (ga:∀b∈fp,eo X aI H b)
  (dw:∀C s H,PG (Zl X a7 bu C (x::zs) s H fp) bN g/\PIf (Zl X a7 bu C (x::zs) s H fp) ifs b_/\PE (Zl X a7 bu C (x::zs) s H fp) dE bH)
  (be:∀p,H p=none->∃W:Nat->Nat->List V->St->Hp->Prop,(∃m,W 0 m [] (emb ix ao) (upd H p (.lst [])))/\∀i m ys a5 aH,W i m ys a5 aH->
   (J.stop i aH/\Q (.ref p) aH)\/(J.go i aH/\∀x aY,J.yld i aH x aY->g x a5 aY λci bT=>b_ ci bT λb bx=>
    if b=true then bH ci bx λv bM=>bM p=some (.lst ys)/\ys.length<sizeLine/\∃a9,a9<m/\W (i+1) a9 (ys++ [v]) ci (upd bM p (.lst (ys++ [v])))
    else ∃a9,a9<m/\W (i+1) a9 ys ci bx))
  (eS:∀cn C f aX,p5 X aI ao Q cn C aX->RR cn C (.ok f) aX):
  wpAny (model X.prog X.w) X.A (newList []) (λcn h8=>wpAny (model X.prog X.w) X.A (newFunctionEnv a7 X.env.globals bu [] X.env.qual none .none (some X.env)) (λjR i4=>
   codeAny (model X.prog X.w) X.A (.compStart (.ListComp dE [⟨bN,iter,ifs,0⟩] a7 pos) 0 (.ref it) cn {jR with scope:=relabel a7 X.env}) (RR cn jR.locals) i4) E h8) E s:=by
 refine wpAny_newObj_type (wpAny_newFunctionEnv S.nocell (by intro y bt;simp at bt) (λeh hns₁ jS=>?_) S.kind);have db:Inv X aI ao (upd H s.heap.objs.size (.lst [])) {s with heap:=s.heap.push {cls:= .type "list",dict:=none,data:= .seq ([]:List Value).toArray}}:=I.lnew (its:=[]) (ys:=[]) (t':=s.toks) .nil (Qn _);dsimp only at hns₁ jS|-;obtain⟨W,⟨ho,hp⟩,turn⟩:=be s.heap.objs.size (I.hok.fresh (Qb _));have lt:∀b∈fp,b<s.heap.objs.size:=λb aJ=>by
  obtain⟨o,e,_⟩:=T.obj 0 s.heap st b aJ;exact Heap.lt_size e
 have mX:∀b∈fp,∀o,(upd H s.heap.objs.size o) b=H b:=λb aJ o=>bX (Qj (lt b aJ));have kp:∀b o,(s.heap.push {cls:= .type "list",dict:=none,data:= .seq ([]:List Value).toArray}).get? b=some o->eh.get? b=some o:=λb o e=>
  jS.extBut b o (Qj (Heap.lt_size e)) (Heap.get?_push_of_some _ e)
 have cF:∀b∈fp,eo X aI (upd H s.heap.objs.size (.lst [])) b/\b<(s.heap.push {cls:= .type "list",dict:=none,data:= .seq ([]:List Value).toArray}).objs.size:=λb aJ=>by
  obtain⟨mY,q⟩:=ga b aJ;refine⟨⟨(mX b aJ _).trans mY,q⟩,?_⟩;rw[Heap.size_push];exact Ja (lt b aJ)
 generalize gI:({s with heap:=s.heap.push {cls:= .type "list",dict:=none,data:= .seq ([]:List Value).toArray}}:Shared)=bA at db;have jT:s.heap.push {cls:= .type "list",dict:=none,data:= .seq ([]:List Value).toArray}=bA.heap:=by rw[<-gI]
 rw[jT] at kp cF hns₁|-;have hq:b3 0 eh:=T.keep 0 _ _ st λb _ o e=>kp b o (by rw[<-jT];exact Heap.get?_push_of_some _ e);have he:Inv (Zl X a7 bu bA.heap.objs.size (x::zs) bA (upd H s.heap.objs.size (.lst [])) fp) [] (emb ix ao) (upd H s.heap.objs.size (.lst [])) {bA with heap:=eh,toks:=bA.toks}:=
  ZeH S db dF eG cF hns₁ kp
 obtain⟨br,mZ,bn⟩:=dw bA.heap.objs.size bA (upd H s.heap.objs.size (.lst []));have h9:∀{aH:Hp},(∀b∈fp,aH b=none)->∀b∈fp,eo (Zl X a7 bu bA.heap.objs.size (x::zs) bA (upd H s.heap.objs.size (.lst [])) fp) [] aH b:=λ{aH} a' b aJ=>
  ⟨a' b aJ,(he.ok.exf b aJ).1,he.ok.exfs b aJ,.inl aJ,(he.ok.exf b aJ).2,λp aU=>absurd (show p∈([]:List (Addr×Obj)) from aU) (by simp)⟩
 have jU:∀b4:Shared,b4={bA with heap:=eh,toks:=bA.toks}->
   codeAny (model X.prog X.w) X.A (.compLoop (.ListComp dE [⟨bN,iter,ifs,0⟩] a7 pos) 0 (.ref it) (.ref s.heap.objs.size) (compEnvC a7 bu bA.heap.objs.size X.env)) (RR (.ref s.heap.objs.size) bA.heap.objs.size) b4:=by
  rintro b4 rfl;refine US (λn aX=>∃i ys a5 aH,Inv (Zl X a7 bu bA.heap.objs.size (x::zs) bA (upd H s.heap.objs.size (.lst [])) fp) [] a5 aH aX/\b3 i aX.heap/\(∀b∈fp,aH b=none)/\W i n ys a5 aH) ?_ ho
   ⟨0,[],emb ix ao,_,he,hq,λb aJ=>(cF b aJ).1.1,hp⟩
  rintro n b5 ⟨i,ys,hf,bM,hX,g7,fx,m0⟩;rcases turn i n ys hf bM m0 with⟨stop,hW⟩|⟨go,step⟩
  .refine thn (T.done (Zl X a7 bu bA.heap.objs.size (x::zs) bA (upd H s.heap.objs.size (.lst [])) fp) rfl rfl rfl (aO _ _ _ _) i [] b5 hf bM _ hX (h9 fx) g7 stop) λr cY ⟨aR,eX⟩=>?_;subst aR;obtain⟨m1,m2,_⟩:=eX.loc;refine eS _ _ _ _ ⟨s.heap.objs.size,bM,m1,rfl,m2,?_,db.fpOk (Qb _) eX.free,hW⟩;exact db.call' eX.os eX.base eX.hok eX.bare λb aJ=>by
    obtain⟨⟨du,f1,f2,cF,c_,dn⟩,_⟩:=cF b aJ;exact⟨cF,f1,c_,dn⟩
  .refine thn (T.item (Zl X a7 bu bA.heap.objs.size (x::zs) bA (upd H s.heap.objs.size (.lst [])) fp) rfl rfl rfl (aO _ _ _ _) i [] b5 hf bM _ hX (h9 fx) g7 go) λr cY ⟨u,aR,dg⟩=>?_;subst aR;refine thn dg λ_ cR ⟨x7,cs,eY,jD,m3,h_,jV⟩=>?_;have m4:=eY.pinned (h9 jV) (T.obj _ _ h_);refine thn (br _ cR hf cs x7 u _ m4 jD (step x7 cs m3)) λ_ dJ ⟨ia,fC,m5,m6⟩=>?_;refine thn (mZ _ dJ ia fC _ m5 m6) λb e_ ⟨e',jW,hg⟩=>?_;have again:∀{ib:List V}{a5:St}{aH:Hp}{a9:Nat}{aX:Shared},Inv (Zl X a7 bu bA.heap.objs.size (x::zs) bA (upd H s.heap.objs.size (.lst [])) fp) ([]++VY fp cR.heap) a5 aH aX->W (i+1) a9 ib a5 aH->a9<n->
     ∃m,m<n/\∃i ys a5 aH,Inv (Zl X a7 bu bA.heap.objs.size (x::zs) bA (upd H s.heap.objs.size (.lst [])) fp) [] a5 aH aX/\b3 i aX.heap/\(∀b∈fp,aH b=none)/\W i m ys a5 aH:=λ{ib a5 aH a9 aX} Iz gb aZ=>by
    refine⟨a9,aZ,i+1,ib,a5,aH,Iz.unpinned,T.keep _ _ _ h_ λb aJ o e=>(Iz.pin (b,o) (Qh _ (Qh _ (iR aJ e)))).1,λb aJ=>?_,gb⟩;obtain⟨o,e,d⟩:=T.obj _ _ h_ b aJ;exact(Iz.pin (b,o) (Qh _ (Qh _ (iR aJ e)))).2.1
   cases b with
   |false=>
    rw[if_neg Qg] at hg|-;obtain⟨a9,aZ,gb⟩:=hg;exact again jW gb aZ
   |true=>
    rw[if_pos rfl] at hg|-;refine thn (bn _ e_ ia e' _ jW hg) λv i5 ⟨y,jX,m7,m8,aK,hz,a9,aZ,gb⟩=>?_;refine thn (gF _ i5 ia jX (.ref s.heap.objs.size) [y] (.ref s.heap.objs.size) [v] (λz aH=>z= .non/\aH=upd jX s.heap.objs.size (.lst (ys++ [y]))) m7 rfl (.cons m8 .nil) ⟨_,ys,y,rfl,rfl,aK,hz,rfl,rfl⟩) λ_ vG ⟨z,vH,m9,_,_,m_⟩=>?_;subst m_;exact again m9 gb aZ
 exact codeAny_compStart_list (jU _ (by subst gI;rfl)) (T.self _ 0 _ _ _ hq (jU _ (by subst gI;rfl)))
theorem Ws{a7:Scope}{x:Str}{zs:List Str}{ix:List Nat}(ok:X.Ok)(S:Ys X a7 x zs ix):
  ∃bu,closureFor a7 X.env=pure bu/\(∀y c,bu.lookup y=some c->X.env.cells.lookup y=some c)/\∀y,(y,NameKind.free)∈a7.names->∃c,bu.lookup y=some c:=by
 obtain⟨bu,e,aN,aQ⟩:=V9 X.env a7.names [] (λy bt a6=>ok.has y.1 (S.free y bt a6)) (λy c h=>by simp at h);refine⟨bu,?_,aN,λy bt=>aQ y (.inr bt)⟩;unfold closureFor;simp only;rw[e]
 rfl
theorem gJ{dE bN iter:Expr}{ifs:List Expr}{a7:Scope}{pos:Pos}{x:Str}{zs:List Str}{ix:List Nat}{c5:TI}{g:TG}{b_:TT}{bH:TE}
  (aO:X.calm=true) (S:Ys X a7 x zs ix) (aM:PI X bN iter c5)
  (dw:∀bu C s H fp,PG (Zl X a7 bu C (x::zs) s H fp) bN g/\PIf (Zl X a7 bu C (x::zs) s H fp) ifs b_/\PE (Zl X a7 bu C (x::zs) s H fp) dE bH)
  (a4:∀x,foldedSetIterable iter X.env x=pure x:=by intro _;rfl):
  PE X (.ListComp dE [⟨bN,iter,ifs,0⟩] a7 pos) (mS ix c5 g b_ bH):=by
 intro aI s ao H Q I h;obtain⟨bu,ic,dF,eG⟩:=Ws I.ok S;rw[eval_ListComp];refine wpAny_comprehension_free (use:=none) rfl a4 ic S.kind S.names (thn (aM aI s ao H _ I h) λv s1 aN=>thn aN λiQ bw aQ=>?_);obtain⟨it,fp,b3,J,aY,e,b9,T,g6,f2,be⟩:=aQ;subst e;refine Za7 (RR:=λcn C=>compPost (model X.prog X.w) X.A X.xe none (EP X aI ao Q) cn C) (λ_ _ _ _=>aO) S b9 dF eG T.c g6 f2 (λC s H=>dw bu C s H fp) be λcn C f aX h=>?_;obtain⟨p,aH,m,rfl,aZ,dO,⟨g0,g1,g2,g3,hh,ie⟩,q⟩:=h;exact⟨m,aZ,λh' aJ=>⟨.ref p,aH,dO.turned (t':=aX.toks) (λb o fD e=>(aJ.2 b fD).trans e) g0 g1 g3 hh ie,rfl,q⟩⟩
theorem p7{dE bN iter:Expr}{ifs:List Expr}{a7:Scope}{pos py jY:Pos}{x y:Str}{zs:List Str}{ix:List Nat}{c5:TI}{g:TG}{b_:TT}{bH:TE}{j:Nat}
  (aO:X.calm=true) (S:Ys X a7 x zs ix) (aM:PI X bN iter c5)
  (dw:∀bu C s H fp,PG (Zl X a7 bu C (x::zs) s H fp) bN g/\PIf (Zl X a7 bu C (x::zs) s H fp) ifs b_/\PE (Zl X a7 bu C (x::zs) s H fp) dE bH)
  (dN:X.N.Nodup) (bP:X.N[j]? =some y) (bt:Loc X.env.scope y)
  (m':swapsWith (.ListComp dE [⟨bN,iter,ifs,0⟩] a7 pos) (some (.Name y py)) jY.line X.env=pure true:=by rfl)
  (a6:X.fn y=true\/X.env.scope.names.lookup y=some .local:=by first|exact .inl rfl|exact .inr rfl|assumption)
  (a4:∀x,foldedSetIterable iter X.env x=pure x:=by intro _;rfl):
  PS X (.Assign [.Name y py] (.ListComp dE [⟨bN,iter,ifs,0⟩] a7 pos) jY) (jz (mS ix c5 g b_ bH) (Vb j)):=by
 intro aI s ao H D I h;obtain⟨bu,ic,dF,eG⟩:=Ws I.ok S;rw[exec_Assign_Name_used _ _ _ _ m'];refine wpAny_bind (wpAny_standAt (wpAny_bind ?_));show wpAny _ X.A (do let _<-comprehension (.ListComp dE [⟨bN,iter,ifs,0⟩] a7 pos) a7 X.env _ (newList []) false (eval iter X.env) (some (assign (.Name y py) X.env))) _ _ s;refine wpAny_bind (wpAny_mono (wpAny_comprehension_free (use:=some (assign (.Name y py) X.env)) (Q:=λ_ aX=>SP X aI D .next aX) rfl a4 ic S.kind S.names
  (thn (aM aI s ao H _ I h) λv s1 aN=>thn aN λiQ bw aQ=>?_)) (λ_ aX be=>wpAny_pure (wpAny_pure be)) λ_ _ e=>e)
 obtain⟨it,fp,b3,J,aY,e,b9,T,g6,f2,be⟩:=aQ;subst e;refine Za7 (Q:=λx aL=>Vb j x ao aL D.nx) (RR:=λcn C=>compPost (model X.prog X.w) X.A X.xe (some (assign (.Name y py) X.env)) (λ_ aX=>SP X aI D .next aX) cn C) (λ_ _ _ _=>aO) S b9 dF eG T.c g6 f2 (λC s H=>dw bu C s H fp) be λcn C f aX h=>?_;obtain⟨p,aH,m,rfl,aZ,dO,⟨g0,g1,g2,g3,hh,ie⟩,q⟩:=h;show wpAny _ X.A (assign (.Name y py) X.env (.ref p)) _ _ _;refine wpAny_assign_Name (ma dO dN bP bt (show bW (.ref p) (.ref p) from rfl) (λh1 I'' ⟨c,na,iL⟩=>?_) a6);have fD:C≠c:=by
  rcases iL with z|z
  .rw[z];exact g1
  .exact JH (hh _ _ z)
 exact⟨m,aZ.sameBut na fD,λh' aJ=>⟨_,aH,I''.turned (t':=h1.toks) (λb o fD e=>(aJ.2 b fD).trans e) g0 g1 g3 hh ie,q⟩⟩
end
def dh(v:Value)(h:Heap)(e:Addr):Prop:=∃o vs,h.get? e=some o/\o.data= .fields vs/\vs[2]? =some v
abbrev ZeO(h:Heap)(e:Addr):Prop:=dh .none h e
noncomputable def vI (x:Addr):HO:= .ext λh=>ZeO h x
def Kp (P:Heap->Prop) {bv:Type}:Sem bv->Prop
 | .pure _=>True
 | .raise _=>True
 | .unsupported _=>True
 | .finish _=>True
 | .rule _ k=>Kp P (k ())
 | .at _ k=>Kp P (k ())
 | .load _ _ k=>∀o,Kp P (k o)
 | .update a _ f k=>(∀h,P h->P (h.update a f))/\Kp P (k ())
 | .alloc o k=>(∀h,P h->P (h.push o))/\∀a,Kp P (k a)
 | .loadIfAlive _ k=>∀o,Kp P (k o)
 | .point _ k=>Kp P (k ())
 | .ask k=>∀x,Kp P (k x)
 | .stack k=>∀x,Kp P (k x)
 |_=>False
section
variable {bv cT:Type}{P:Heap->Prop}{M:Model}{A:Around}{E:Value->Shared->Prop}{s:Shared}
theorem Kp.wp{kY:PySem.Ctx}{Q:bv->Pos->Shared->Prop}{E:Value->Pos->Shared->Prop}(t:Sem bv):∀(p:Pos)(s:Shared),Kp P t->P s.heap->Sem.wp M kY t Q E p s->
  Sem.wp M kY t (λa p aX=>Q a p aX/\P aX.heap) (λe p aX=>E e p aX/\P aX.heap) p s:=by
 induction t with
 |pure a=>exact λp s _ aU h=>⟨h,aU⟩
 |raise a=>exact λp s _ aU h=>⟨h,aU⟩
 |unsupported w=>exact λp s _ aU h=>h
 |finish w=>exact λp s _ aU h=>h
 |rule _ k bF=>exact λp s aT aU h=>bF () p s aT aU h
 | «at» cB k bF=>exact λp s aT aU h=>bF () cB s aT aU h
 |load _ _ k bF=>exact λp s aT aU ⟨o,e,h⟩=>⟨o,e,bF o p s (aT o) aU h⟩
 |update _ _ _ k bF=>exact λp s aT aU ⟨e,h⟩=>⟨e,bF () p _ aT.2 (aT.1 _ aU) h⟩
 |alloc _ k bF=>exact λp s aT aU h=>bF _ p _ (aT.2 _) (aT.1 _ aU) h
 |loadIfAlive _ k bF=>exact λp s aT aU h=>bF _ p s (aT _) aU h
 |point _ k bF=>exact λp s aT aU h=>bF () p s aT aU h
 |ask k bF=>exact λp s aT aU h=>bF _ p s (aT _) aU h
 |stack k bF=>exact λp s aT aU h=>bF _ p s (aT _) aU h
 |register=>exact λp s aT _ _=>False.elim aT
 |fresh=>exact λp s aT _ _=>False.elim aT
 |choose=>exact λp s aT _ _=>False.elim aT
 |os=>exact λp s aT _ _=>False.elim aT
 |call=>exact λp s aT _ _=>False.elim aT
 |handled=>exact λp s aT _ _=>False.elim aT
 |newGen=>exact λp s aT _ _=>False.elim aT
 |genState=>exact λp s aT _ _=>False.elim aT
 |resume=>exact λp s aT _ _=>False.elim aT
 |yield=>exact λp s aT _ _=>False.elim aT
 |fork=>exact λp s aT _ _=>False.elim aT
 |thread=>exact λp s aT _ _=>False.elim aT
 |await=>exact λp s aT _ _=>False.elim aT
theorem Kp.any{t:Sem bv}{Q:bv->Shared->Prop}(k:Kp P t)(aU:P s.heap)(h:wpAny M A t Q E s):wpAny M A t (λa aX=>Q a aX/\P aX.heap) (λe aX=>E e aX/\P aX.heap) s:=λkY p vJ=>Kp.wp t p s k aU (h kY p vJ)
theorem Kp.bind{f:bv->Sem cT}(m:Sem bv):Kp P m->(∀a,Kp P (f a))->Kp P (m.bind f):=by
 induction m with
 |pure a=>exact λ_ a6=>a6 a
 |raise a=>exact λ_ _=>trivial
 |unsupported w=>exact λ_ _=>trivial
 |finish w=>exact λ_ _=>trivial
 |rule _ k bF=>exact λaT a6=>bF () aT a6
 | «at» _ k bF=>exact λaT a6=>bF () aT a6
 |load _ _ k bF=>exact λaT a6 o=>bF o (aT o) a6
 |update _ _ _ k bF=>exact λaT a6=>⟨aT.1,bF () aT.2 a6⟩
 |alloc _ k bF=>exact λaT a6=>⟨aT.1,λa=>bF a (aT.2 a) a6⟩
 |loadIfAlive _ k bF=>exact λaT a6 o=>bF o (aT o) a6
 |point _ k bF=>exact λaT a6=>bF () aT a6
 |ask k bF=>exact λaT a6 o=>bF o (aT o) a6
 |stack k bF=>exact λaT a6 o=>bF o (aT o) a6
 |register=>exact λaT _=>False.elim aT
 |fresh=>exact λaT _=>False.elim aT
 |choose=>exact λaT _=>False.elim aT
 |os=>exact λaT _=>False.elim aT
 |call=>exact λaT _=>False.elim aT
 |handled=>exact λaT _=>False.elim aT
 |newGen=>exact λaT _=>False.elim aT
 |genState=>exact λaT _=>False.elim aT
 |resume=>exact λaT _=>False.elim aT
 |yield=>exact λaT _=>False.elim aT
 |fork=>exact λaT _=>False.elim aT
 |thread=>exact λaT _=>False.elim aT
 |await=>exact λaT _=>False.elim aT
theorem Kp.bd{m:Sem bv}{f:bv->Sem cT}(aZ:Kp P m)(a6:∀a,Kp P (f a)):Kp P (m >>= f):=Kp.bind m aZ a6
theorem Kp.pure(a:bv):Kp P (Pure.pure a:Sem bv):=trivial
theorem Kp.uns(w:String):Kp P (PySem.unsupported w:Sem bv):=trivial
theorem Kp.ite{c:Prop}[Decidable c]{a b:Sem bv}(aS:Kp P a)(aJ:Kp P b):Kp P (if c then a else b):=by split<;>assumption
end
section
variable {e:Addr}{dq:Value}
theorem dh.slots{h:Heap}{a:Addr}{g:Obj->Array (Option Value)}(x:dh dq h e):dh dq (h.update a λo=>{o with slots:=g o}) e:=by
 obtain⟨o,vs,bf,hd,aQ⟩:=x
 by_cases aS:a=e
 .subst aS;exact⟨_,vs,Heap.get?_update_self _ bf (Obj.isFreed_of_fields (vs:=vs) hd),hd,aQ⟩
 .exact⟨o,vs,(Heap.get?_update_other _ _ aS).trans bf,hd,aQ⟩
theorem dh.field{h:Heap}{a:Addr}{i:Nat}{v:Value}(aM:i≠2)(x:dh dq h e):dh dq (h.update a (Obj.mapFields (·.setIfInBounds i v))) e:=by
 obtain⟨o,vs,bf,hd,aQ⟩:=x
 by_cases aS:a=e
 .subst aS;exact⟨_,_,Heap.get?_update_self _ bf (Obj.isFreed_of_fields (Obj.data_mapFields hd _)),Obj.data_mapFields hd _,by rw[Array.getElem?_setIfInBounds_ne aM];exact aQ⟩
 .exact⟨o,vs,(Heap.get?_update_other _ _ aS).trans bf,hd,aQ⟩
theorem dh.push{h:Heap}{bE:Obj}(x:dh dq h e):dh dq (h.push bE) e:=
 let⟨o,vs,bf,r⟩:=x;⟨o,vs,Heap.get?_push_of_some _ bf,r⟩
theorem ZbD{a:Addr}:Kp (λh=>dh dq h e) (load a):=λ_=>trivial
theorem ZdH{v:Value}:Kp (λh=>dh dq h e) (fieldsOf v):=by
 unfold fieldsOf;cases v<;>first|exact Kp.uns _|skip
 refine Kp.bd ZbD λo=>?_
 split<;>trivial
theorem V1{v:Value}{i:Nat}:Kp (λh=>dh dq h e) (field v i):=by
 unfold field;refine Kp.bd ZdH λo=>?_
 split<;>trivial
theorem ZbA{a:Addr}{i:Nat}{x:Value}(aM:i≠2):Kp (λh=>dh dq h e) (updateField a i x):=by
 unfold updateField;refine Kp.bd ZbD λo=>?_
 split
 .split
  .exact⟨λ_ h=>h.field aM,trivial⟩
  .trivial
 .trivial
theorem nb{v:Value}{i:Nat}{x:Value}(aM:i≠2):Kp (λh=>dh dq h e) (setField v i x):=by
 unfold setField;cases v<;>first|exact Kp.uns _|exact ZbA aM
theorem Zfs{env:Env}{outer:List Env}:Kp (λh=>dh dq h e) (behindIsImport env outer):=by
 unfold behindIsImport;refine Kp.ite (Kp.pure _) (Kp.ite (Kp.pure _) (Kp.bd V1 λ_=>Kp.pure _))
theorem vK:Kp (λh=>dh dq h e) underTheClaimsCaller:=by
 unfold underTheClaimsCaller;exact Kp.bd (λ_=>trivial) λ_=>Kp.pure _
theorem Zhu{env:Env}{p8:Bool}{outer:List Env}:Kp (λh=>dh dq h e) (keptBack env p8 outer):=by
 cases outer with
 |nil=>exact Kp.ite (Kp.pure _) (Kp.bd vK λ_=>Kp.pure _)
 |cons c r=>exact Kp.pure _
theorem p9:∀l:List Env,Kp (λh=>dh dq h e) (readyFrames l)
 | []=>Kp.pure _
 |env::outer=>by
  unfold readyFrames;cases env.frame with
  |none=>exact Kp.uns _
  |some f=>
   refine Kp.bd ZbD λo=>?_;refine Kp.ite (Kp.pure _) (Kp.bd Zfs λp8=>Kp.bd Zhu λA'=>Kp.bd ⟨λ_ h=>h.slots,trivial⟩ λ_=>p9 outer)
theorem Zep{env:Env}:Kp (λh=>dh dq h e) (PySem.frameOf env):=by
 unfold PySem.frameOf;refine Kp.bd (Kp.bd (λ_=>trivial) λ_=>Kp.pure _) λl=>Kp.bd ?_ λo=>?_
 .generalize (l.dropWhile λx=>x.frame != env.frame)=k;cases k with
  |nil=>exact Kp.pure _
  |cons a r=>exact Kp.bd (p9 _) λ_=>Kp.pure _
 .cases o with
  |none=>exact Kp.uns _
  |some x=>exact Kp.pure _
theorem Zdz{v:Value}{f:Option Addr}:Kp (λh=>dh dq h e) (setFlight v f):=by
 unfold setFlight;refine Kp.bd V1 λt=>?_;exact Kp.ite (nb (by decide)) (Kp.pure _)
theorem ZgK{f:Addr}{b:Bool}:Kp (λh=>dh dq h e) (entryPlaceOf f b):=by
 unfold entryPlaceOf;refine Kp.bd (λ_=>trivial) λBa=>?_
 split<;>exact Kp.pure _
theorem Zfl{ty:String}{vs:List Value}:Kp (λh=>dh dq h e) (newFields ty vs):=by
 unfold newFields newObj;have kZ:Kp (λh=>dh dq h e) (newObjAsIs (.type ty) (.fields vs.toArray)):=⟨λ_ h=>h.push,λ_=>trivial⟩;dsimp only
 split
 .exact Kp.uns _
 .exact kZ
theorem Zhy{v:Value}{env:Env}:Kp (λh=>dh dq h e) (noteFrame v env):=by
 unfold noteFrame;cases env.frame with
 |none=>exact Kp.uns _
 |some f=>
  have kZ:∀hd:Value,Kp (λh=>dh dq h e) (do let x<-PySem.frameOf env;let pl<-entryPlaceOf f (hd != Value.none);let b<-EntryCells.newEntry hd x .none (rawInt f) .none pl;setField v 1 b):=λhd=>
   Kp.bd Zep λx=>Kp.bd ZgK λpl=>Kp.bd Zfl λb=>nb (by decide)
  refine Kp.bd V1 λhd=>?_;refine Kp.ite ?_ (kZ hd);refine Kp.bd V1 λt=>Kp.ite (Kp.pure _) (Kp.bd (nb (by decide)) λ_=>kZ hd)
theorem Za2{v:Value}{env:Env}:Kp (λh=>dh dq h e) (leaving env v):=Kp.bd Zhy λ_=>Zdz
section
variable {M:Model}{A:Around}{E:Value->Shared->Prop}{s:Shared}{base:Heap}{l outer:List Env}{env:Env}{L:Addr}{cls a0:Value}{Q:Unit->Shared->Prop}
theorem Kp.to{P R:Heap->Prop}{t:Sem Unit}(k:Kp P t)(aU:P s.heap)(h:wpAny M A t (λ_ aX=>∃h',aX={s with heap:=h'}/\R h') (λ_ _=>False) s)(cz:∀h',R h'->P h'->Q () {s with heap:=h'}):wpAny M A t Q E s:=
 wpAny_mono (k.any aU h) (λ_ _ ⟨⟨h',e,r⟩,p⟩=>by subst e;exact cz h' r p) λ_ _ z=>z.1.elim
theorem ZeQ(ig:dh dq s.heap e)(eH:A.frames=some (env::outer))(a6:env.frame=some L)(fT:Heap.FlyingW base (env::outer) e cls a0 s.heap)
  (cz:∀h',Heap.FlyingW base outer e cls a0 h'->s.heap.UpToSlots h'->dh dq h' e->Q () {s with heap:=h'}):wpAny M A (leaving env (.ref e)) Q E s:=
 Za2.to (R:=λh'=>Heap.FlyingW base outer e cls a0 h'/\s.heap.UpToSlots h') ig (wpAny_leaves_onW eH a6 fT λh' a b=>⟨h',rfl,a,b⟩) λh' r p=>cz h' r.1 r.2 p
theorem Zdo{h:Heap}{args:List Value}(eH:A.frames=some (env::outer))(a6:env.frame=some L)(vL:base.StaysIn h)(aK:h.FunFrames base (env::outer))(aV:Heap.MadeExcOf h s.heap e cls args)
  (cz:∀h' t,Heap.FlyingW base outer e cls (.ref t) h'->h'.TupAt t args->base.get? t=none->s.heap.UpToSlots h'->ZeO h' e->Q () {s with heap:=h'}):wpAny M A (leaving env (.ref e)) Q E s:=by
 have ig:ZeO s.heap e:=by
  obtain⟨t,bn,_⟩:=aV.there;exact⟨_,_,bn,rfl,rfl⟩
 exact Za2.to (R:=λh'=>∃t,Heap.FlyingW base outer e cls (.ref t) h'/\h'.TupAt t args/\base.get? t=none/\s.heap.UpToSlots h') ig (wpAny_leaves_madeW eH a6 vL aK aV λh' t a b c d=>⟨h',rfl,t,a,b,c,d⟩) λh' ⟨t,a,b,c,d⟩ p=>cz h' t a b c d p
end
end
def Zg0(E:XK)(cls:Value)(H:Hp)(v:Value):Prop:=(v= .none/\E cls none H)\/∃bh,v= .ref bh/\H bh=some (vI bh)/\E cls (some bh) H
def CXX (P:Program) (w:World):CXT:=λouter H s E e aX=>
 ∃(cD:Addr)(cls a0:Value)(aH:Hp)(B:Heap),e= .ref cD/\aX.os=s.os/\AllBare aX.gens/\Un (frs outer) [] H aH s.heap aX.heap/\HOk P w aH aX.heap/\
  Heap.FlyingW B outer cD cls a0 aX.heap/\(∀b o,aX.heap.get? b=some o->(aH b≠none\/((∃bZ,s.heap.get? b=some bZ)/\b∉frs outer))->B.get? b=some o)/\∃v,dh v aX.heap cD/\Zg0 E cls aH v
theorem HOk.stays{P:Program}{w:World}{H:Hp}{h h' B:Heap}(ok:HOk P w H h)(d0:∀b o,h.get? b=some o->H b≠none->B.get? b=some o)(st:B.StaysIn h'):HOk P w H h':=λa o e=>
 (ok a o e).stay (λb u aJ q=>st b u (d0 b u q (by
  rcases aJ with rfl|aJ
  .rw[e];exact λz=>nomatch z
  .rw[aJ];exact λz=>nomatch z))) (λ_ q=>q) λ_ _ q=>q
theorem ZQ.got{P:Program}{w:World}{H:Hp}{h:Heap}{a:Addr}{o:HO}(x:ZQ P w H h a o):∃bE,h.get? a=some bE:=by
 cases o with
 |lst xs=>obtain⟨_,_,_,_,e⟩:=x;exact⟨_,e⟩
 |tup xs=>obtain⟨_,_,_,p⟩:=x;obtain⟨bE,e,_⟩:=p;exact⟨bE,e⟩
 |dK kvs=>obtain⟨_,_,_,_,o,_,_,e,_⟩:=x;exact⟨o,e⟩
 |dT kvs=>obtain⟨_,_,_,_,o,_,_,e,_⟩:=x;exact⟨o,e⟩
 |set S n=>obtain⟨o,_,_,_,e,_⟩:=x;exact⟨o,e⟩
 |ins C a3 fs=>obtain⟨_,_,_,e,_⟩:=x;exact⟨_,e⟩
 |own y=>exact x
 |xd fs=>obtain⟨_,⟨o,_,_,e,_⟩,_⟩:=x;exact⟨o,e⟩
 |rng lo aM=>obtain⟨_,_,_,e⟩:=x;exact⟨_,e⟩
 |frz bE u=>obtain⟨e,_⟩:=x;exact⟨bE,e⟩
 |tbl ps=>exact⟨_,(show h.get? a=some _ from x)⟩
 |met f y=>exact⟨_,(show h.get? a=some _ from x)⟩
 |ext hM=>obtain⟨_,e,_⟩:=x;exact e
theorem Un.fly{fs:List Addr}{H aH:Hp}{h aN aQ B:Heap}(u:Un fs [] H aH h aN)(d0:∀b o,aN.get? b=some o->(aH b≠none\/((∃bZ,h.get? b=some bZ)/\b∉fs))->B.get? b=some o)
  (st:B.StaysIn aQ) (sl:aN.UpToSlots aQ) (a6:∀b∈fs,∀o,h.get? b=some o->∀vs,o.data≠ .fields vs) (ju:∀b∈fs,H b=none):Un fs [] H aH h aQ where
 keep:=λb o e n aJ aV=>st b o (d0 b o (u.keep b o e n aJ aV) (.inr ⟨⟨_,e⟩,aJ⟩))
 slot:=λb o e n aJ aV=>by
  obtain⟨s1,bb⟩:=u.slot b o e n aJ aV;obtain⟨bw,bh⟩:=sl b _ bb (a6 b aJ o e);exact⟨bw,bh⟩
 free:=u.free
 there:=λb o e aV=>by
  by_cases aJ:b∈fs
  .obtain⟨s1,bb⟩:=u.slot b o e (ju b aJ) aJ aV;obtain⟨bw,bh⟩:=sl b _ bb (a6 b aJ o e);exact⟨_,bh⟩
  .obtain⟨bZ,bb⟩:=u.there b o e aV;exact⟨bZ,st b bZ (d0 b bZ bb (.inr ⟨⟨_,e⟩,aJ⟩))⟩
 tups:=u.tups
 frzs:=u.frzs
 tbls:=u.tbls
section
variable {P:Program}{w:World}{K:Frag}{mg:Str->Option Value}{base:Heap}{N:List Str}{qual:Str}{scope:Scope}{f:Addr}{b8:Value}{A:Around}{outer:List Env}{s₀:Shared}{H₀:Hp}{E:XK}
noncomputable abbrev cxX (P:Program) (w:World) (K:Frag) (mg:Str->Option Value) (base:Heap) (N:List Str) (qual:Str) (scope:Scope) (f:Addr) (b8:Value) (A:Around) (outer:List Env) (s₀:Shared) (H₀:Hp) (E:XK):Cx:=
 ZK (CXX P w) P w K mg base N qual scope f b8 A outer s₀ H₀ E
theorem ZgI{aI:List (Addr×Obj)}{ao:St}{H aH:Hp}{s aX:Shared}{cD:Addr}{cls a0 dq:Value}{B:Heap}(I:Inv (cxX P w K mg base N qual scope f b8 A outer s₀ H₀ E) aI ao H s)
  (os:aX.os=s.os) (bare:AllBare aX.gens) (u:Un (frs (cxX P w K mg base N qual scope f b8 A outer s₀ H₀ E).stack) [] H aH s.heap aX.heap) (ok:HOk P w aH aX.heap)
  (eQ:Heap.FlyingW B (cxX P w K mg base N qual scope f b8 A outer s₀ H₀ E).stack cD cls a0 aX.heap)
  (d0:∀b o,aX.heap.get? b=some o->(aH b≠none\/((∃bZ,s.heap.get? b=some bZ)/\b∉frs (cxX P w K mg base N qual scope f b8 A outer s₀ H₀ E).stack))->B.get? b=some o) (ig:dh dq aX.heap cD) (q:Zg0 E cls aH dq):
  (cxX P w K mg base N qual scope f b8 A outer s₀ H₀ E).xe (.ref cD) aX:=by
 have eH:(A.deeper (envOfC qual scope s₀.heap.objs.size f b8)).frames=some (envOfC qual scope s₀.heap.objs.size f b8::outer):=I.ok.frames;refine ZeQ ig (L:=s₀.heap.objs.size) eH rfl eQ λaQ k4 sl vM=>?_;have p_:∀b o,s₀.heap.get? b=some o->b∉frs outer->(∃bZ,s.heap.get? b=some bZ)/\b∉frs (cxX P w K mg base N qual scope f b8 A outer s₀ H₀ E).stack:=λb o e a'=>
  ⟨I.base.there b o e (by intro z;exact absurd (show b∈([]:List Addr) from z) (by simp)),λz=>by
   rcases Qi.mp (I.stkSub b z) with q|q
   .have aJ:=Heap.lt_size e;have ds:b=s₀.heap.objs.size:=q;rw[ds] at aJ;exact QZ _ aJ
   .exact a' q⟩
 have ih:Un (frs outer) [] H₀ aH s₀.heap aX.heap:=by
  have b0:Un (frs outer) [] H₀ H s₀.heap s.heap:=I.base;refine⟨λb o e n aJ aV=>?_,λb o e n aJ aV=>?_,λb o e n aV=>?_,λb o e aV=>?_,λb xs e=>u.tups b xs (b0.tups b xs e),λb o v e=>u.frzs b o v (b0.frzs b o v e),λb ps e=>?_⟩
  .exact u.keep b o (b0.keep b o e n aJ aV) (b0.free b o e n aV) (p_ b o e aJ).2 aV
  .obtain⟨s1,bb⟩:=b0.slot b o e n aJ aV;obtain⟨bw,bh⟩:=u.any bb (b0.free b o e n aV) aV;exact⟨bw,bh⟩
  .obtain⟨bZ,bb⟩:=b0.there b o e aV;exact u.free b bZ bb (b0.free b o e n aV) aV
  .obtain⟨bZ,bb⟩:=b0.there b o e aV;exact u.there b bZ bb aV
  .obtain⟨f0,bb⟩:=b0.tbls b ps e;obtain⟨hQ,bh⟩:=u.tbls b _ bb;exact⟨f0++hQ,by rw[bh,Array.append_assoc]⟩
 have p':∀b o,aX.heap.get? b=some o->(aH b≠none\/((∃bZ,s₀.heap.get? b=some bZ)/\b∉frs outer))->B.get? b=some o:=λb o e h=>d0 b o e (h.imp id λ⟨⟨bZ,z⟩,a'⟩=>p_ b bZ z a');have vN:HOk P w aH aQ:=ok.stays (λb o e n=>d0 b o e (.inl n)) k4.1;refine⟨cD,cls,a0,aH,B,rfl,os.trans I.os,bare,ih.fly p' k4.1 sl (λb aJ o e=>?_) (I.ok.frf),vN,k4,λb o e h=>?_,dq,vM,q⟩
 .obtain⟨_,bZ,bq,d⟩:=I.ok.funs.mem aJ;have jZ:s₀.heap.get? b=some bZ:=bq;rw[e] at jZ;cases jZ;exact d
 .have ex:∃bZ,aX.heap.get? b=some bZ:=by
   rcases h with h|⟨h,a'⟩
   .cases cQ:aH b with
    |none=>exact absurd cQ h
    |some v=>exact(ok b v cQ).got
   .obtain⟨nc,nf⟩:=h;exact ih.there b nc nf (by simp)
  obtain⟨bZ,bq⟩:=ex;have bh:=p' b bZ bq h;have di:=k4.1 b bZ bh;have eB:aQ.get? b=some o:=e;rw[di] at eB;cases eB;exact bh
theorem bR:Y0 (CXX P w) (cxX P w K mg base N qual scope f b8 A outer s₀ H₀ E) E:=by
 intro aI ao H s e aX I h;obtain⟨cD,cls,a0,aH,B,rfl,os,bare,u,ok,eQ,d0,v,ig,q⟩:=h;exact ZgI I os bare u ok eQ d0 ig q
def ng (cls:Value) (E:XK) (t:TA):TS:=λ_ ao H=>t ao H λvs aL=>vs.length<=sizeLine/\E cls none aL
theorem Zf0{aI:List (Addr×Obj)}{ao:St}{H:Hp}{s:Shared}{h':Heap}{cD:Addr}{cls:Value}{us:List Value}(I:Inv (cxX P w K mg base N qual scope f b8 A outer s₀ H₀ E) aI ao H s)
  (aV:Heap.MadeExcOf s.heap h' cD cls us) (q:E cls none H):(cxX P w K mg base N qual scope f b8 A outer s₀ H₀ E).xe (.ref cD) {s with heap:=h'}:=by
 have eH:(A.deeper (envOfC qual scope s₀.heap.objs.size f b8)).frames=some (envOfC qual scope s₀.heap.objs.size f b8::outer):=I.ok.frames;have dw:∀env∈(cxX P w K mg base N qual scope f b8 A outer s₀ H₀ E).stack,∀b,env.frame=some b->b∈frs (cxX P w K mg base N qual scope f b8 A outer s₀ H₀ E).stack:=λenv bn b aJ=>QY.mpr ⟨env,bn,aJ⟩;have nh:∀b o,s.heap.get? b=some o->(H b≠none\/((∃bZ,s₀.heap.get? b=some bZ)/\b∉frs outer))->(hideAll s.heap (frs (cxX P w K mg base N qual scope f b8 A outer s₀ H₀ E).stack)).get? b=some o:=λb o e h=>
  hideAll_get _ e λz=>by
   rcases h with h|⟨⟨bZ,bq⟩,a'⟩
   .exact h (I.stkFree b z)
   .rcases Qi.mp (I.stkSub b z) with q|q
    .have aJ:=Heap.lt_size bq;have ds:b=s₀.heap.objs.size:=q;rw[ds] at aJ;exact QZ _ aJ
    .exact a' q
 refine Zdo (base:=hideAll s.heap (frs (cxX P w K mg base N qual scope f b8 A outer s₀ H₀ E).stack)) (h:=s.heap) (L:=s₀.heap.objs.size) eH rfl (λb o e=>of_hideAll _ e) (PySem.W.funFrames_hide I.stack dw) aV λbJ t eQ _ _ sl vO=>?_;have l9:s.heap.UpToSlots bJ:=(Heap.UpToSlots.of_keeps aV.keeps).trans sl;have b0:Un (frs outer) [] H₀ H s₀.heap s.heap:=I.base;have vP:HOk P w H bJ:=I.hok.stays (λb o e n=>nh b o e (.inl n)) eQ.1;refine⟨cD,cls,_,H,_,rfl,I.os,I.bare,b0.fly nh eQ.1 l9 (λb aJ o e=>?_) I.ok.frf,vP,eQ,λb o e h=>?_,.none,vO,.inl ⟨rfl,q⟩⟩
 .obtain⟨_,bZ,bq,d⟩:=I.ok.funs.mem aJ;have jZ:s₀.heap.get? b=some bZ:=bq;rw[e] at jZ;cases jZ;exact d
 .have ex:∃bZ,s.heap.get? b=some bZ:=by
   rcases h with h|⟨⟨nc,nf⟩,_⟩
   .cases cQ:H b with
    |none=>exact absurd cQ h
    |some v=>exact(I.hok b v cQ).got
   .exact b0.there b nc nf (by simp)
  obtain⟨bZ,bq⟩:=ex;have bh:=nh b bZ bq h;have di:=eQ.1 b bZ bh;have eB:bJ.get? b=some o:=e;rw[di] at eB;cases eB;exact bh
theorem Zgg{x:Str}{ni dD pos:Pos}{hi:Expr}{rest:List Expr}{t:TA}{C:Addr}{B hA nj:String}{bm:List Value}(O:OwnCls x C bm hA mg base)(FB:ExcBaseFacts B hA nj bm)
  (br:Gl (cxX P w K mg base N qual scope f b8 A outer s₀ H₀ E) x) (aS:PA (cxX P w K mg base N qual scope f b8 A outer s₀ H₀ E) (hi::rest) t)
  (bn:starEach (hi::rest) (cxX P w K mg base N qual scope f b8 A outer s₀ H₀ E).env=(false,eval hi (cxX P w K mg base N qual scope f b8 A outer s₀ H₀ E).env)::starEach rest (cxX P w K mg base N qual scope f b8 A outer s₀ H₀ E).env:=by rfl)
  (h7:(backTo dD (starEach rest (cxX P w K mg base N qual scope f b8 A outer s₀ H₀ E).env)).any (·.1)=false:=by rfl) (eZ:(x==("__debug__" :Str))=false:=by decide):
  PS (cxX P w K mg base N qual scope f b8 A outer s₀ H₀ E) (.Raise (some (.Call (.Name x ni) (hi::rest) [] dD)) none pos) (ng (.ref C) E t):=by
 intro aI s ao H D I h;obtain⟨tl,vQ,nm,q,bs,hdct,sn,sub,ab,col,dd,k0,k1,k2,k3,k5,mN,vR,dN,k6,T⟩:=O.obj;refine wpAny_Raise_call_subT (C:=C) (nm:=nm) (q:=q) (N:=vQ) (bs:=bs) (bm:=tl) (hdct:=hdct) (sn:=sn) (sub:=sub) (ab:=ab) (col:=col) (dd:=dd) (k0:=k0) (k1:=k1) (k2:=k2) (k3:=k3) (k5:=k5)
  FB (mN:=mN) (T.hasType FB.hasBase) (I.ok.hd rfl) (by rw[bn];show(false||(backTo dD (starEach rest (cxX P w K mg base N qual scope f b8 A outer s₀ H₀ E).env)).any (·.1))=false;rw[h7];rfl) k6 (kC I br O.bound ⟨rfl,?_⟩ eZ)
 have h':=aS dD aI s ao H _ I h;rw[bn] at h'|-;refine Calls.evalArgs_plain (thn h' λus bw ⟨vs,aY,b9,r,hz,cQ⟩=>⟨rfl,by rw[<-r.length];exact hz,b9.bk _ _ vR,dN.keeps b9.bk,T.keeps b9.bk,λbJ e aZ=>Zf0 b9 aZ cQ⟩)
end
mutual
inductive ev(K:Frag)(H:Hp):V->PyData->Prop
 |non:ev K H .non .none
 |bl (b:Bool):ev K H (.bl b) (.bool b)
 |int (i:Int):ev K H (.int i) (.int i)
 |str (x:Str):ev K H (.str x) (.str x)
 |lst {a:Addr} {xs:List V} {cm:List PyData} (h:SqL K H a xs) (r:DRels K H xs cm):ev K H (.ref a) (.list cm)
 |tup {a:Addr} {xs:List V} {cm:List PyData} (h:SqT K H a xs) (r:DRels K H xs cm):ev K H (.ref a) (.tuple cm)
inductive DRels(K:Frag)(H:Hp):List V->List PyData->Prop
 |nil:DRels K H [] []
 |cons {x:V} {d:PyData} {xs:List V} {cm:List PyData} (h:ev K H x d) (r:DRels K H xs cm):DRels K H (x::xs) (d::cm)
end
section
variable {X:Cx}{aI:List (Addr×Obj)}{ao:St}{H:Hp}{s:Shared}
mutual
theorem ev.reads(I:Inv X aI ao H s):∀{x:V}{d:PyData}{v:Value},ev X.K H x d->bW x v->∃as,Reads s.heap v d as
 |_,_,_,.non,r=>by cases (show _=Value.none from r);exact⟨_,.none⟩
 |_,_,_,.bl b,r=>by cases (show _=Value.bool b from r);exact⟨_,.bool b⟩
 |_,_,_,.int i,r=>by obtain⟨t,e⟩:=r;cases e;exact⟨_,.int i t⟩
 |_,_,_,.str x,r=>by obtain⟨t,e⟩:=r;cases e;exact⟨_,.str x t⟩
 |_,_,_,.lst (a:=a) h a2,r=>by
  cases (show _=Value.ref a from r);obtain⟨its,b2,p,hz⟩:=I.list h;obtain⟨o,bf,aO,n,hd⟩:=p.isList;obtain⟨as,q⟩:=DRels.reads I a2 b2;exact⟨_,.list bf aO hd (by simpa using q)⟩
 |_,_,_,.tup (a:=a) h a2,r=>by
  cases (show _=Value.ref a from r);obtain⟨its,b2,p,hz⟩:=I.tuple h;obtain⟨o,bf,aO,n,hd⟩:=(show s.heap.IsTuple a its.toArray from p);obtain⟨as,q⟩:=DRels.reads I a2 b2;exact⟨_,.tuple bf aO hd (by simpa using q)⟩
theorem DRels.reads(I:Inv X aI ao H s):∀{xs:List V}{cm:List PyData}{vs:List Value},DRels X.K H xs cm->bD xs vs->∃as,ReadsAll s.heap vs cm as
 |_,_,_,.nil,.nil=>⟨_,.nil⟩
 |_,_,_,.cons h r,.cons q t=>by
  obtain⟨as,e⟩:=ev.reads I h q;obtain⟨bs,bq⟩:=DRels.reads I r t;exact⟨_,.cons e bq⟩
end
end
def gK (K:Frag) (neg:Bool):R2:=λx y H Q=>∃a3 dr,ev K H x a3/\ev K H y dr/\a3.canLay0=true/\dr.canLay0=true/\a3.depth<=60/\Q (.bl (if neg then !PyData.eqv a3 dr else PyData.eqv a3 dr)) H
section
variable {X:Cx}
theorem vS(hu:X.A.units+64<cLine):OpR X (compareOp .Eq) (gK X.K false):=by
 intro aI s ao H x y v u Q I a8 bj h;obtain⟨a3,dr,aN,aQ,fa,fb,dp,q⟩:=h;obtain⟨as,bK⟩:=aN.reads I a8;obtain⟨bs,cp⟩:=aQ.reads I bj;exact SeqAt.compareEq_reads bK cp fa fb (by have:min a3.depth dr.depth<=a3.depth:=Nat.min_le_left _ _;omega) ⟨.bl _,H,I,rfl,q⟩
theorem vT(hu:X.A.units+64<cLine):OpR X (compareOp .NotEq) (gK X.K true):=by
 intro aI s ao H x y v u Q I a8 bj h;obtain⟨a3,dr,aN,aQ,fa,fb,dp,q⟩:=h;obtain⟨as,bK⟩:=aN.reads I a8;obtain⟨bs,cp⟩:=aQ.reads I bj;exact SeqAt.compareNe_reads bK cp fa fb (by have:min a3.depth dr.depth<=a3.depth:=Nat.min_le_left _ _;omega) ⟨.bl _,H,I,rfl,q⟩
end
section
variable {P:Program}{w:World}{K:Frag}{mg:Str->Option Value}{base:Heap}
theorem Fun.okX{x qual:Str}{st:Stmt}{f:Addr}{fd:FuncData}{N ps:List Str}{k:Nat}{sp:Sp}(F:Fun K x qual st f fd)(S:Zu N ps (bU st))(len:∀vs H Q E,sp vs H Q E->vs.length=ps.length)
  (jK:∀(bS:Value)(A:Around)(outer:List Env)(s:Shared)(H:Hp)(vs:List V)(Q:VK)(E:XK),df k (A.deeper (envOfC qual (bU st) s.heap.objs.size f bS))->sp vs H Q E->
   ∃t,PSs (cxX P w K mg base N qual (bU st) f bS A outer s H E) (fy st) t/\t {nx:=λ_ aH=>Q .non aH,rt:=Q} (start N vs) H):Yp P w K mg base (CXX P w) (k+1) f fd ps sp:=by
 obtain⟨dH,cM,kV,dA,pm,an,bS,ct,es,rfl,lk,fu⟩:=F.ex;exact Zg9 lk fu S len λA outer s H vs Q E aR gD=>jK bS A outer s H vs Q E aR gD
theorem Wd{X:Cx}:Y0 (CXX X.prog X.w) X E0:=by
 intro aI ao H s e aX I h;obtain⟨cD,cls,a0,aH,B,_,_,_,_,_,_,_,_,_,z⟩:=h;rcases z with⟨_,z⟩|⟨_,_,_,z⟩
 .exact z.elim
 .exact z.elim
end
section
variable {X:Cx}
def rOr (r b7:R2):R2:=λx y H Q=>r x y H Q\/b7 x y H Q
def Zbi:R2:=λx y H Q=>∃i j,x= .str i/\y= .str j/\i.length+j.length<=sizeLine/\Q (.str (i++j)) H
def k7:R2:=rI0 λi j=> .int (i+j)
def Zet:R2:=rI (λi j=>IntMulOk i j) λi j=> .int (i*j)
theorem vU:OpR X (binaryOp .Add) (rOr k7 (rOr Zbi (rOr rCat (kO X.K)))):=uG.or (uL.or (vd.or u1))
theorem ii:OpR X (binaryOp .Mult) (rOr Zet rRep):=vz.or ve
theorem ZiV(hu:X.A.units+64<cLine):OpR X (compareOp .Eq) (rOr rEq (gK X.K false)):=uH.or (vS hu)
theorem ZiF(hu:X.A.units+64<cLine):OpR X (compareOp .NotEq) (rOr rNe (gK X.K true)):=uI.or (vT hu)
end
namespace Rd
section
variable {ao:St}{H:Hp}{Q:VK}{D:Wj}{K:Frag}{b7:R2}
theorem Zj5{i j:Int}(q:Q (.int (i+j)) H):rOr k7 b7 (.int i) (.int j) H Q:= .inl ⟨i,j,rfl,rfl,q⟩
theorem ZgE{bK:R2}{i j:Str}(aK:i.length+j.length<=sizeLine)(q:Q (.str (i++j)) H):rOr bK (rOr Zbi b7) (.str i) (.str j) H Q:= .inr (.inl ⟨i,j,rfl,rfl,aK,q⟩)
theorem ZeF{bK cp:R2}{a b:Addr}{xs ys:List V}(aS:H a=some (.lst xs))(aJ:H b=some (.lst ys))(aK:xs.length+ys.length<=sizeLine)(q:∀p,H p=none->Q (.ref p) (upd H p (.lst (xs++ys)))):
  rOr bK (rOr cp (rOr rCat b7)) (.ref a) (.ref b) H Q:= .inr (.inr (.inl ⟨a,b,xs,ys,rfl,rfl,aS,aJ,aK,q⟩))
theorem Zkp{i j:Int}(c:IntMulOk i j)(q:Q (.int (i*j)) H):rOr Zet b7 (.int i) (.int j) H Q:= .inl ⟨i,j,rfl,rfl,c,q⟩
theorem Zj4{i j:Int}(q:Q (.bl (decide (i=j))) H):rOr rEq b7 (.int i) (.int j) H Q:= .inl (eqI q)
theorem ZjX{i j:Int}(q:Q (.bl (!decide (i=j))) H):rOr rNe b7 (.int i) (.int j) H Q:= .inl (neI q)
theorem Zke{i j:Str}(q:Q (.bl (decide (i=j))) H):rOr rEq b7 (.str i) (.str j) H Q:= .inl ⟨rfl,by
 have e:decide (V.str i=V.str j)=decide (i=j):=by
  by_cases h:i=j
  .rw[h];simp
  .rw[decide_eq_false h,decide_eq_false (λz=>h (V.str.inj z))]
 rw[e];exact q⟩
theorem Zki{i j:Str}(q:Q (.bl (!decide (i=j))) H):rOr rNe b7 (.str i) (.str j) H Q:= .inl ⟨rfl,by
 have e:decide (V.str i=V.str j)=decide (i=j):=by
  by_cases h:i=j
  .rw[h];simp
  .rw[decide_eq_false h,decide_eq_false (λz=>h (V.str.inj z))]
 rw[e];exact q⟩
theorem Zgb{x y:V}{a3 dr:PyData}(aV:ev K H x a3)(bt:ev K H y dr)(nk:a3.canLay0=true)(nl:dr.canLay0=true)(dp:a3.depth<=60)(q:Q (.bl (PyData.eqv a3 dr)) H):rOr rEq (gK K false) x y H Q:=
 .inr ⟨a3,dr,aV,bt,nk,nl,dp,q⟩
theorem Zja{x y:V}{a3 dr:PyData}(aV:ev K H x a3)(bt:ev K H y dr)(nk:a3.canLay0=true)(nl:dr.canLay0=true)(dp:a3.depth<=60)(q:Q (.bl (!PyData.eqv a3 dr)) H):rOr rNe (gK K true) x y H Q:=
 .inr ⟨a3,dr,aV,bt,nk,nl,dp,q⟩
theorem Zkn{p:Addr}{xs:List V}{i:Int}{v:V}(h:SqL K H p xs)(e:atI xs i=some v)(q:Q v H):rIx K (.ref p) (.int i) H Q:= .inl (ixl h e q)
theorem Ziu{p:Addr}{xs:List V}{i:Int}{v:V}(h:SqT K H p xs)(e:atI xs i=some v)(q:Q v H):rIx K (.ref p) (.int i) H Q:= .inr (.inl (ixt h e q))
theorem Zkj{C:Nat->Prop}{p:Addr}{xs:List V}(h:SqL K H p xs)(q:C xs.length):∃x n,[V.ref p]=[x]/\V3 K x H n/\C n:=⟨_,_,rfl,.inl ⟨xs,h,rfl⟩,q⟩
theorem Zjs{C:Nat->Prop}{p:Addr}{xs:List V}(h:SqT K H p xs)(q:C xs.length):∃x n,[V.ref p]=[x]/\V3 K x H n/\C n:=⟨_,_,rfl,.inr ⟨xs,h,rfl⟩,q⟩
theorem lenS{C:Nat->Prop}{y:Str}(h:y.length<=sizeLine)(q:C y.length):∃x n,[V.str y]=[x]/\V3 K x H n/\C n:=⟨_,_,rfl,⟨h,rfl⟩,q⟩
theorem Zjh{i:Nat}{v:V}{a5:St}{Q:St->Hp->Prop}(e:ao.set i (some v)=a5)(h:Q a5 H):Vb i v ao H Q:=by
 subst e;exact h
theorem ifP{c A B:Prop}[Decidable c](h:c)(a:A):if decide c=true then A else B:=by rw[decide_eq_true h];exact Zel a
theorem ifN{c A B:Prop}[Decidable c](h:¬c)(b:B):if decide c=true then A else B:=by rw[decide_eq_false h];exact Zda b
theorem Zkl{c A B:Prop}[Decidable c](h:c)(b:B):if(!decide c)=true then A else B:=by rw[decide_eq_true h];exact Zda b
theorem Zkk{b:Bool}{C:Bool->Prop}(q:C b):∃k,jF K (.bl b) H k/\C k:=⟨b,rfl,q⟩
end
end Rd
namespace Rd
section
variable {H:Hp}{C:Bool->Prop}{K:Frag}
theorem ZeR{i:Int}(q:C true):∃x eO t b,[V.int i,.ty "int"]=[x,.ty eO]/\YI K H x t/\kitOne K t (.type eO)=some b/\C b:=⟨_,_,_,true,rfl,.int i,rfl,q⟩
theorem ZdQ{i:Int}(q:C false):∃x eO t b,[V.int i,.ty "bool"]=[x,.ty eO]/\YI K H x t/\kitOne K t (.type eO)=some b/\C b:=⟨_,_,_,false,rfl,.int i,rfl,q⟩
theorem Zes{i:Str}(q:C true):∃x eO t b,[V.str i,.ty "str"]=[x,.ty eO]/\YI K H x t/\kitOne K t (.type eO)=some b/\C b:=⟨_,_,_,true,rfl,.str i,rfl,q⟩
theorem ZdR{p:Addr}{xs:List V}(h:H p=some (.lst xs))(q:C true):∃x eO t b,[V.ref p,.ty "list"]=[x,.ty eO]/\YI K H x t/\kitOne K t (.type eO)=some b/\C b:=⟨_,_,_,true,rfl,.lst h,rfl,q⟩
theorem ZdA{p:Addr}{xs:List V}(h:H p=some (.tup xs))(q:C true):∃x eO t b,[V.ref p,.ty "tuple"]=[x,.ty eO]/\YI K H x t/\kitOne K t (.type eO)=some b/\C b:=⟨_,_,_,true,rfl,.tup h,rfl,q⟩
end
end Rd
noncomputable def Zee (j0 a7:Scope) (N zs:List Str) (ix:List Nat):Bool:=
 decide (a7.kind= .function)&&(a7.names.all λy=>decide (y.2≠ .cell))&&(a7.names.all λy=>decide (y.2= .local->a7.names.lookup y.1=some .local))&&
 (a7.names.all λy=>decide (y.2= .free->j0.names.lookup y.1=some .cell\/j0.names.lookup y.1=some .free))&&(zs.all λz=>decide (a7.names.lookup z=some .free))&&decide (ix.map (λj=>N[j]?)=zs.map some)
theorem eT{X:Cx}{a7:Scope}{x:Str}{zs:List Str}{ix:List Nat}(j0:Scope)(N:List Str)(bb:X.env.scope=j0)(bh:X.N=N)(h:Zee j0 a7 N zs ix=true):Ys X a7 x zs ix:=by
 unfold Zee at h;simp only[Qz,QP,decide_eq_true_eq] at h;obtain⟨⟨⟨⟨⟨aN,aQ⟩,bJ⟩,cx⟩,ea⟩,dg⟩:=h;subst bb bh;exact⟨aN,aQ,bJ,cx,ea,dg⟩
section
variable {K:Frag}{H:Hp}
namespace Rd
variable {Q:VK}
end Rd
end
structure Walks(J:It)(n:Nat)(f:Nat->V)(H:Hp):Prop where
 go:∀aH i,Ze H aH->i<n->J.go i aH
 yld:∀aH i x aY,Ze H aH->i<n->J.yld i aH x aY->aY=aH/\x=f i
 stop:∀aH,Ze H aH->J.stop n aH
theorem vV{lo:Int}{n:Nat}{H:Hp}:Walks (Itr lo n) n (λi=> .int (lo+i)) H:=⟨λ_ _ _ h=>h,λ_ _ _ _ _ _ h=>h,λ_ _=>Qb _⟩
theorem fc{K:Frag}{a:Addr}{xs:List V}{H:Hp}(h:SqL K H a xs):Walks (Itl K a) xs.length (λi=>xs.getD i .non) H:=
 ⟨λaH i e aM=>⟨xs,xs[i],e.seq h,by simp[aM]⟩,λaH i x aY e aM y=>⟨y.1,by
  have:=y.2 xs (e.seq h);simp[List.getD,this]⟩,λaH e=>⟨xs,e.seq h,Qb _⟩⟩
theorem j1{K:Frag}{a:Addr}{xs:List V}{H:Hp}(h:SqT K H a xs):Walks (Itt K a) xs.length (λi=>xs.getD i .non) H:=
 ⟨λaH i e aM=>⟨xs,xs[i],e.seqT h,by simp[aM]⟩,λaH i x aY e aM y=>⟨y.1,by
  have:=y.2 xs (e.seqT h);simp[List.getD,this]⟩,λaH e=>⟨xs,e.seqT h,Qb _⟩⟩
theorem WH{J:It}{n:Nat}{f:Nat->V}{gL:Hp}(w:Walks J n f gL){g:TG}{bG:TS}{D:Wj}{ao:St}{H:Hp}(Pv:Nat->St->Hp->Prop)(ce:Pv 0 ao H)(aT:∀i ao H,Pv i ao H->Ze gL H)
  (a4:∀i ao H,i<n->Pv i ao H->g (f i) ao H λci aY=>bG {D with nx:=Pv (i+1),ct:=Pv (i+1),bk:=D.nx} ci aY) (hd:∀ao H,Pv n ao H->D.nx ao H):
  ∃W:Nat->Nat->St->Hp->Prop,(∃m,W 0 m ao H)/\∀i m ao H,W i m ao H->
   (J.stop i H/\D.nx ao H)\/(J.go i H/\∃N:St->Hp->Prop,(∀a5 aH,N a5 aH->∃a9,a9<m/\W (i+1) a9 a5 aH)/\∀x aH,J.yld i H x aH->g x ao aH λci aY=>bG {D with nx:=N,ct:=N,bk:=D.nx} ci aY):=by
 refine⟨λi m ao H=>m=n-i/\i<=n/\Pv i ao H,⟨n,by simp,Qn _,ce⟩,?_⟩;rintro i m ao H ⟨rfl,aM,p⟩;have bC:=aT i ao H p
 by_cases cG:i<n
 .refine .inr ⟨w.go H i bC cG,Pv (i+1),λa5 aH cB=>⟨n-(i+1),by omega,rfl,cG,cB⟩,λx aH y=>?_⟩;obtain⟨rfl,rfl⟩:=w.yld H i x aH bC cG y;exact a4 i ao _ cG p
 .have e:i=n:=by omega
  subst e;exact .inl ⟨w.stop H bC,hd ao H p⟩
theorem Z7{ix:List Nat}{b_:TT}{bH:TE}{Q:Addr->Hp->Prop}{ao:St}{H:Hp}{J:It}{n:Nat}{f:Nat->V}(w:Walks J n f H)(a':n<sizeLine)(c:Nat->Bool)(r:Nat->V)
  (aO:∀i aH (cC:Bool->Hp->Prop),i<n->Ze H aH->(∀bx,Ze aH bx->cC (c i) bx)->b_ (some (f i)::ix.map λj=>(ao[j]?).join) aH cC)
  (bn:∀i aH (cC:VK),i<n->c i=true->Ze H aH->(∀bM,Ze aH bM->cC (r i) bM)->bH (some (f i)::ix.map λj=>(ao[j]?).join) aH cC)
  (q:∀p aH,H p=none->Ze H aH->aH p=some (.lst (((List.range n).filter c).map r))->Q p aH):
  ∀p,H p=none->∃W:Nat->Nat->List V->St->Hp->Prop,(∃m,W 0 m [] (emb ix ao) (upd H p (.lst [])))/\∀i m ys a5 aH,W i m ys a5 aH->
   (J.stop i aH/\Q p aH)\/(J.go i aH/\∀x aY,J.yld i aH x aY->Vb 0 x a5 aY λci bT=>b_ ci bT λb bx=>
    if b=true then bH ci bx λv bM=>bM p=some (.lst ys)/\ys.length<sizeLine/\∃a9,a9<m/\W (i+1) a9 (ys++ [v]) ci (upd bM p (.lst (ys++ [v])))
    else ∃a9,a9<m/\W (i+1) a9 ys ci bx):=by
 intro p aU;refine⟨λi m ys a5 aH=>m=n-i/\i<=n/\(∃a,a5=a::ix.map λj=>(ao[j]?).join)/\Ze H aH/\aH p=some (.lst ys)/\ys=((List.range i).filter c).map r,
  ⟨n,by simp,Qn _,⟨none,rfl⟩,cu aU,Zh,rfl⟩,?_⟩
 rintro i m ys a5 aH ⟨rfl,aM,⟨a,rfl⟩,bC,bt,aK⟩
 by_cases cG:i<n
 .refine .inr ⟨w.go aH i bC cG,λx aY y=>?_⟩;obtain⟨rfl,rfl⟩:=w.yld aH i x aY bC cG y;show b_ ((a::ix.map λj=>(ao[j]?).join).set 0 (some (f i))) aY _;have cU:ys.length<=i:=by
   rw[aK,Qc];exact Qu (List.length_filter_le _ _) (by simp)
  refine aO i aY _ cG bC λbx b4=>?_;have ij:=bC.trans b4;have i6:=b4 _ _ bt;have step:(List.range (i+1)).filter c=(List.range i).filter c++(if c i=true then[i] else[]):=by
   rw[List.range_succ,Jq]
   congr 1
   by_cases h:c i=true<;>simp[h]
  by_cases fE:c i=true
  .rw[fE,if_pos rfl];refine bn i bx _ cG fE ij λbM b5=>⟨b5 _ _ i6,by omega,n-(i+1),by omega,rfl,cG,⟨_,rfl⟩,(ij.trans b5).new aU,Zh,?_⟩;rw[step,if_pos fE,QK,aK]
   rfl
  .have nn:c i=false:=by simpa using fE
   rw[nn,if_neg Qg];refine⟨n-(i+1),by omega,rfl,cG,⟨_,rfl⟩,ij,i6,?_⟩;rw[step,if_neg fE,Jh,aK]
 .have e:i=n:=by omega
  subst e;exact .inl ⟨w.stop aH bC,q p aH aU bC (by rw[<-aK];exact bt)⟩
structure Z3(A:List Addr)(H aH:Hp):Prop where
 keep:∀b o,H b=some o->b∉A->aH b=some o
 tups:∀b xs,H b=some (.tup xs)->aH b=some (.tup xs)
theorem Ze.frame{A:List Addr}{H aH:Hp}(e:Ze H aH):Z3 A H aH:=⟨λb o h _=>e b o h,λb xs h=>e b _ h⟩
theorem Z3.trans{A:List Addr}{H aL aY:Hp}(a:Z3 A H aL)(b:Z3 A aL aY):Z3 A H aY:=⟨λc o h n=>b.keep c o (a.keep c o h n) n,λc xs h=>b.tups c xs (a.tups c xs h)⟩
theorem gM{A:List Addr}{H:Hp}{p:Addr}{o bZ:HO}(aU:p∈A)(h:H p=some o)(bL:∀xs,o≠ .tup xs):Z3 A H (upd H p bZ):=by
 refine⟨λb u e n=>?_,λb xs e=>?_⟩
 .have z:b≠p:=λz=>n (by rw[z];exact aU);rw[bX z];exact e
 .have z:b≠p:=λz=>bL xs (by rw[z,h] at e;exact Qt e);rw[bX z];exact e
def Ww(A qa:List Addr)(H:Hp):Prop:=∀a∈qa,a∈A\/H a=none
theorem Ww.refl{A:List Addr}{H:Hp}:Ww A A H:=λ_ h=> .inl h
section
variable {K:Frag}{H aH:Hp}{A qa:List Addr}
namespace Rd
variable {Q:VK}
end Rd
end
noncomputable def Its (x:Str):It:=⟨λi _=>i<x.cps.size,λi H v aH=>aH=H/\∃c,x.cps[i]? =some c/\v= .str ⟨#[c]⟩,λi _=>x.cps.size<=i⟩
theorem vW{P:Program}{w:World}{K:Frag}{bN:Expr}(it:Addr)(x:Str)(t:Tok)(ty:String)(e9:ty="str_ascii_iterator" \/ty="str_iterator"):Ud P w K bN (Its x) [it] it (λi h=>h.IsStrIter it ty x t i) where
 mem:=by simp
 obj:=λi h st b aJ=>by
  have e:b=it:=by simpa using aJ
  subst e;obtain⟨o,e,c,d⟩:=st;exact⟨o,e,λv z=>by rw[d] at z;cases z⟩
 keep:=λi h h' st k=>let⟨o,bf,r⟩:=st;⟨o,k it (by simp) o bf,r⟩
 item:=by
  intro X hP hw dP aO i aI s ao H E I a6 st br;subst hP hw dP;obtain⟨du,f1,f2,cF,c_,dn⟩:=a6 it (by simp);have aM:i<x.cps.size:=br;have fin:∀h':Heap,h'.IsStrIter it ty x t (i+1)->Heap.SameBut it s.heap h'->∃u,some (Value.str ⟨#[x.cps[i]]⟩ s.toks)=some u/\
    wpAny (model X.prog X.w) X.A (letOwnedTupleGo bN (.ref it) u) (λ_ bw=>∃y aH,Inv X aI ao aH bw/\bW y u/\(Its x).yld i H y aH/\bw.heap.IsStrIter it ty x t (i+1)/\∀b∈[it],aH b=none) E {s with heap:=h',toks:=s.toks+1}:=λh' eP er=>by
   have a_:Inv X aI ao H {s with heap:=h',toks:=s.toks+1}:=I.turned (t':=s.toks+1) (λb o aJ e=>(er.2 b aJ).trans e) du f1 cF c_ dn;obtain⟨o,e,c,d⟩:=id eP;refine⟨_,rfl,kH (s:={s with heap:=h',toks:=s.toks+1}) e c d (by rcases e9 with rfl|rfl<;>decide) ⟨.str ⟨#[x.cps[i]]⟩,H,a_,⟨_,rfl⟩,⟨rfl,x.cps[i],by simp[aM],rfl⟩,eP,λb aJ=>(a6 b aJ).1⟩⟩
  rcases e9 with rfl|rfl
  .exact wpAny_pyNext_ascii_item st (c:=x.cps[i]) (by simp[aM]) fin
  .exact wpAny_pyNext_wide_item st (c:=x.cps[i]) (by simp[aM]) fin
 done:=by
  intro X hP hw dP aO i aI s ao H E I a6 st br;subst hP hw dP;obtain⟨du,f1,f2,cF,c_,dn⟩:=a6 it (by simp);have aM:x.cps.size<=i:=br;rcases e9 with rfl|rfl
  .exact wpAny_pyNext_ascii_end (I.ok.hd aO) st (by simp[aM]) λh' c2=>⟨rfl,I.turned (t':=s.toks) (λb o aJ e=>c2 b o aJ e) du f1 cF c_ dn⟩
  .exact wpAny_pyNext_wide_end (I.ok.hd aO) st (by simp[aM]) λh' c2=>⟨rfl,I.turned (t':=s.toks) (λb o aJ e=>c2 b o aJ e) du f1 cF c_ dn⟩
 self:=λ_ _ _ _ _ st h=>by
  rcases e9 with rfl|rfl
  .exact wpAny_pyIter_striter_ascii st h
  .exact wpAny_pyIter_striter_wide st h
section
variable {X:Cx}{bN:Expr}
def qb (tl:TE):TI:=λao H R=>tl ao H λx aL=>∃y,x= .str y/\R (Its y) aL
theorem qc{l:Expr}{tl:TE}(aK:PE X l tl):PI X bN l (qb tl):=by
 intro aI s ao H R I h;refine thn (aK aI s ao H _ I h) λv s1 ⟨x,aL,a_,bK,bQ⟩=>?_;obtain⟨y,e,q⟩:=bQ;subst e;obtain⟨t,rfl⟩:=bK;have fin:∀ty:String,(ty="str_ascii_iterator" \/ty="str_iterator")->PIE X aI ao bN R (.ref s1.heap.objs.size) {s1 with heap:=s1.heap.push {cls:= .type ty,data:= .fields #[.str y t,.int 0 0]}}:=λty e9=>by
  refine⟨s1.heap.objs.size,[s1.heap.objs.size],_,_,aL,rfl,a_.kept (t':=s1.toks) λb o e=>Heap.get?_push_of_some _ e,vW _ y t ty e9,⟨_,Heap.get?_push_size _ rfl,rfl,rfl⟩,λb aJ=>?_,q⟩;have e:b=s1.heap.objs.size:=by simpa using aJ
  subst e;exact a_.fpOk (Qb _) (a_.hok.fresh (Qb _))
 cases aS:y.cps.all (· <128)
 .exact wpAny_pyIter_wide aS (fin _ (.inr rfl))
 .exact wpAny_pyIter_ascii aS (fin _ (.inl rfl))
theorem Zck{x:Str}{H:Hp}:Walks (Its x) x.cps.size (λi=> .str ⟨#[x.cps.getD i 0]⟩) H:=
 ⟨λ_ _ _ h=>h,λaH i v aY _ aM ⟨e,c,aO,bO⟩=>⟨e,by rw[bO];simp[Array.getD,aM] at aO|-;exact aO.symm⟩,λ_ _=>Qb _⟩
def rLeS:R2:=λx y H Q=>∃i j,x= .str i/\y= .str j/\Q (.bl (!decide (j.cps.toList<i.cps.toList))) H
theorem k8:OpR X (compareOp .LtE) rLeS:=by
 intro aI s ao H x y v u Q I a8 bj h;obtain⟨i,j,rfl,rfl,q⟩:=h;obtain⟨t,rfl⟩:=a8;obtain⟨t',rfl⟩:=bj;exact PySem.P.le_str ⟨.bl _,H,I,rfl,q⟩
theorem qd{s:Shared}:∀{bs:List Bool}{us:List Value},bD (bs.map V.bl) us->us=bs.map Value.bool
 | [],_,r=>by cases r;rfl
 |b::bs,_,r=>by
  cases r with
  |cons bK cp=>
   have e:_=Value.bool b:=bK;rw[e,qd (s:=s) cp]
   rfl
theorem vX{s:Shared}{h':Heap}{o:Obj}(aT:∀b x,b∉[s.heap.objs.size]->(s.heap.push o).get? b=some x->h'.get? b=some x):∀b x,s.heap.get? b=some x->h'.get? b=some x:=
 λb x e=>aT b x (λaZ=>by rw[QC.mp aZ] at e;exact QZ _ (Heap.lt_size e)) (Heap.get?_push_of_some _ e)
theorem ZeU(bs:List Bool):((List.range bs.length).all λi=>(bs[i]?).getD true)=bs.all id:=by
 rw[Q2,QP,QP]
 constructor
 .intro h b aJ;obtain⟨i,aM,rfl⟩:=Jf aJ;have:=h i (Jg.mpr aM);simpa[Qa aM] using this
 .intro h i aM;have cj:=Jg.mp aM;simp only[Qa cj,Option.getD_some];exact h _ (Qm cj)
theorem Zfy(aO:X.calm=true):Yk X (.builtin "all") (λxs H Q=>∃(p:Addr)(bs:List Bool),xs=[.ref p]/\SqL X.K H p (bs.map V.bl)/\Q (.bl (bs.all id)) H):=by
 intro aI s ao H xs us Q I r h;obtain⟨p,bs,rfl,be,q⟩:=h;obtain⟨u,rfl,a8⟩:=Wa r;cases a8;obtain⟨its,b2,pl,hz⟩:=I.list be;have mA:=qd (s:=s) b2;subst mA;have aK:=pl.isList;have cG:p<s.heap.objs.size:=by obtain⟨_,e,_⟩:=aK;exact Heap.lt_size e
 refine call_all_walk (wpAny_pyIter_list aK ?_);refine⟨s.heap.objs.size,[s.heap.objs.size,p],[s.heap.objs.size],(bs.map Value.bool).toArray.size,_,_,λi=>(bs[i]?).getD true,rfl,PySem.Walks.list (A:=X.A.in1) (I.ok.hd aO) _ p (Qj cG) (bs.map Value.bool).toArray,
  ⟨⟨_,Heap.get?_push_size _ rfl,rfl,rfl⟩,aK.push _⟩,λi v aX jv b6 hP cz=>?_,λh' cX aT=>?_⟩
 .have j2:(bs.map Value.bool)[i]? =some v:=by simpa using hP
  rw[QA] at j2;cases e:bs[i]? with
  |none=>rw[e] at j2;cases j2
  |some b=>
   rw[e] at j2;cases j2;have qe:jv ((bs[i]?).getD true) aX:=cz;rw[e] at qe;exact wpAny_truthy_bool qe
 .have e:((List.range (bs.map Value.bool).toArray.size).all λi=>(bs[i]?).getD true)=bs.all id:=by
   rw[Qe,Qc];exact ZeU bs
  rw[e];exact⟨.bl (bs.all id),H,I.kept (vX aT),rfl,q⟩
end
structure ZeI(K:Frag)(x qual:Str)(st:Stmt)(dT:Addr)(f:Addr)(fd:FuncData):Prop where
 ex:∃(dH:Value)(cM:Option Addr)(kV dA pm:Value)(an:Option Addr)(bS ct:Value)(es:Array (Option Value)),
  fd=fnOf x qual (f_ st) (fy st) (bU st) (.ref dT) kV dA pm an bS ct/\K.lookup f=some ⟨dH,cM,.func fd,es⟩/\codeIn K bS qual=true
 kp:keepIn K (.ref f)=true
section
variable {P:Program}{w:World}{K:Frag}{mg:Str->Option Value}{base:Heap}
theorem ZeI.okX{x qual:Str}{st:Stmt}{dT f:Addr}{fd:FuncData}{N ps:List Str}{k:Nat}{sp:Sp}(F:ZeI K x qual st dT f fd)(S:Zu N ps (bU st))(len:∀vs H Q E,sp vs H Q E->vs.length=ps.length)
  (jK:∀(bS:Value)(A:Around)(outer:List Env)(s:Shared)(H:Hp)(vs:List V)(Q:VK)(E:XK),df k (A.deeper (envOfC qual (bU st) s.heap.objs.size f bS))->sp vs H Q E->
   ∃t,PSs (cxX P w K mg base N qual (bU st) f bS A outer s H E) (fy st) t/\t {nx:=λ_ aH=>Q .non aH,rt:=Q} (start N vs) H):Yp P w K mg base (CXX P w) (k+1) f fd ps sp:=by
 obtain⟨dH,cM,kV,dA,pm,an,bS,ct,es,rfl,lk,fu⟩:=F.ex;exact Zg9 lk fu S len λA outer s H vs Q E aR gD=>jK bS A outer s H vs Q E aR gD
theorem ZhS{x qual:Str}{st:Stmt}{dT f:Addr}{dH:Value}{cM an:Option Addr}{es:Array (Option Value)}{kV dA pm bS ct:Value}(l:K.lookup f=some ⟨dH,cM,.func (fnOf x qual (f_ st) (fy st) (bU st) (.ref dT) kV dA pm an bS ct),es⟩)
  (c:codeIn K bS qual=true) (k:keepIn K (.ref f)=true):ZeI K x qual st dT f (fnOf x qual (f_ st) (fy st) (bU st) (.ref dT) kV dA pm an bS ct):=⟨⟨dH,cM,kV,dA,pm,an,bS,ct,es,rfl,l,c⟩,k⟩
theorem vY{h₀:Heap}{x:Str}{C:Addr}{qf:List Value}{hA:String}(X:K.In h₀)(g:h₀.Ns mainGlobals mg)(e:nsIn K mainGlobals x=some (some (.ref C)))(q:excIn K C qf hA=true):OwnCls x C qf hA mg h₀:=by
 refine⟨mg_of X g e,?_⟩;unfold excIn at q
 split at q
 .rename_i dd b8 sl bf
  split at q
  .rename_i Bb bm k0 k1 k2 k3 n k5 aZ a4;simp only[Qz,beq_iff_eq,Bool.not_eq_true'] at q;obtain⟨⟨⟨⟨⟨rfl,rfl⟩,qg⟩,bL⟩,hok⟩,k6⟩:=q;obtain⟨nm,bs,Bc,ns,hW,hd,sn,sub,ab,col,Bd⟩:=b8;dsimp only at aZ qg hok k6;subst aZ qg;have k9:sl=#[k0,k1,k2,k3,some (.builtin n),k5]:=by
    obtain⟨l⟩:=sl;simp only at a4;rw[a4]
   subst k9;exact⟨bm,ns,nm,hW,bs,hd,sn,sub,ab,col,dd,k0,k1,k2,k3,k5,_,X _ _ bf,.of_isNs (PySem.W.isNs_of_in X hok),PySem.W.nsMap_none_of_in X hok k6,PySem.W.tail_of_in X bL⟩
  .cases q
 .cases q
section
variable {N:List Str}{qual:Str}{scope:Scope}{f:Addr}{b8:Value}{A:Around}{outer:List Env}{s₀:Shared}{H₀:Hp}{E:XK}
theorem gc{x:Str}{ni dD pos:Pos}{hi:Expr}{rest:List Expr}{t:TA}{C:Addr}{B hA nj:String}{bm:List Value}(e:nsIn K mainGlobals x=some (some (.ref C)))(q:excIn K C bm hA=true)(FB:ExcBaseFacts B hA nj bm)
  (br:Gl (cxX P w K mg base N qual scope f b8 A outer s₀ H₀ E) x) (aS:PA (cxX P w K mg base N qual scope f b8 A outer s₀ H₀ E) (hi::rest) t)
  (bn:starEach (hi::rest) (cxX P w K mg base N qual scope f b8 A outer s₀ H₀ E).env=(false,eval hi (cxX P w K mg base N qual scope f b8 A outer s₀ H₀ E).env)::starEach rest (cxX P w K mg base N qual scope f b8 A outer s₀ H₀ E).env:=by rfl)
  (h7:(backTo dD (starEach rest (cxX P w K mg base N qual scope f b8 A outer s₀ H₀ E).env)).any (·.1)=false:=by rfl) (eZ:(x==("__debug__" :Str))=false:=by decide):
  PS (cxX P w K mg base N qual scope f b8 A outer s₀ H₀ E) (.Raise (some (.Call (.Name x ni) (hi::rest) [] dD)) none pos) (ng (.ref C) E t):=by
 intro aI s ao H D I h;exact Zgg (vY I.ok.mod.kin I.ok.mod.glob e q) FB br aS bn h7 eZ aI s ao H D I h
end
end
section
variable {X:Cx}
def rSlS:V->Option Int->Option Int->Hp->VK->Prop:=λx lo aM H Q=>∃z,x= .str z/\z.length<=sizeLine/\Q (.str (Txt.slice z lo aM)) H
theorem vZ:SlR X rSlS:=by
 intro aI s ao H x v d8 d9 lo aM sl Q I a8 a4 pl e0 h;obtain⟨z,rfl,hz,q⟩:=h;obtain⟨t,rfl⟩:=a8;refine⟨"str",_,F.slot_str_getitem.lookup,typeIs_str _ _ _,?_⟩;have fin:∀l u:Option (Int×Tok),l.map (·.1)=lo->u.map (·.1)=aM->partValue l=d8->partValue u=d9->wpAny (model X.prog X.w) X.A (getItem (.str z t) (.ref sl)) (EP X aI ao Q) X.xe s:=λl u bb bh di eB=>by
  obtain⟨o,bf,aO,hd⟩:=a4;subst bb bh di eB;exact wpAny_getItem_str_slice (l:=l) (u:=u) (st:=none) ⟨o,bf,aO,hd⟩ rfl (post_val_or_str ⟨Qu (Txt.slice_le z _ _) hz,λt' k=>⟨.str _,H,I.tok k,⟨_,rfl⟩,q⟩⟩)
 cases pl with
 |none=>
  cases e0 with
  |none=>exact fin none none rfl rfl rfl rfl
  |int j t'=>exact fin none (some (j,t')) rfl rfl rfl rfl
 |int i ti=>
  cases e0 with
  |none=>exact fin (some (i,ti)) none rfl rfl rfl rfl
  |int j t'=>exact fin (some (i,ti)) (some (j,t')) rfl rfl rfl rfl
def ZcP (K:Frag):V->Option Int->Option Int->Hp->VK->Prop:=λx lo aM H Q=>pT K x lo aM H Q\/(pS K x lo aM H Q\/rSlS x lo aM H Q)
theorem v0:SlR X (ZcP X.K):=u6.or (u0.or vZ)
theorem qh:∀{ys:List Str}{us:List Value},bD (ys.map V.str) us->StrsAre us ys
 | [],_,r=>by cases r;exact .nil
 |y::ys,_,r=>by
  cases r with
  |cons bK cp=>
   obtain⟨t,e⟩:=bK;subst e;exact .cons y t (qh cp)
def qi (K:Frag):V->List V->Hp->VK->Prop:=λx vs H Q=>∃(z:Str)(p:Addr)(ys:List Str),x= .str z/\vs=[.ref p]/\SqL K H p (ys.map V.str)/\(ys.map (·.length)).sum+ys.length*z.length<=16777216/\Q (.str (Txt.join z ys)) H
theorem v1:MtR X "str.join" (qi X.K):=by
 intro aI s ao H x xs v us Q I a8 a2 h;obtain⟨z,p,ys,rfl,rfl,be,hz,q⟩:=h;obtain⟨t,rfl⟩:=a8;obtain⟨u,rfl,dt⟩:=Wa a2;cases dt;obtain⟨its,b2,pl,aK⟩:=I.list be;exact join_list pl.isList (by simpa using qh b2) hz λt' k=>⟨.str _,H,I.tok k,⟨_,rfl⟩,q⟩
end
structure WM(K:Frag)(C:Addr)(fs:List Str):Prop where
 out:∀f∈fs,e8 K C f
theorem WM.get{K:Frag}{C:Addr}{fs:List Str}{f:Str}(h:WM K C fs)(m:fs.contains f=true):e8 K C f:=h.out f (by simpa using m)
namespace Rd
section
variable {ao:St}{H:Hp}{Q:VK}{D:Wj}{K:Frag}
theorem slS{z:Str}{lo aM:Option Int}(h:z.length<=sizeLine)(q:Q (.str (Txt.slice z lo aM)) H):ZcP K (.str z) lo aM H Q:= .inr (.inr ⟨z,rfl,h,q⟩)
theorem slL{a:Addr}{xs:List V}{lo aM:Option Int}(h:SqL K H a xs)(q:∀p,H p=none->Q (.ref p) (upd H p (.lst (f7 xs lo aM)))):ZcP K (.ref a) lo aM H Q:= .inl ⟨a,xs,rfl,h,q⟩
theorem sl{r:V->Option Int->Option Int->Hp->VK->Prop}{bH:TE}{tl h3:TO}(h:bH ao H λx aL=>tl ao aL λl aY=>h3 ao aY λu bT=>r x l u bT Q):tSl r bH tl h3 ao H Q:=h
theorem Zif{Q:Option Int->Hp->Prop}(h:Q none H):tNoPart ao H Q:=h
theorem Zkr{bH:TE}{Q:Option Int->Hp->Prop}(h:bH ao H λx aL=>∃i,x= .int i/\Q (some i) aL):pQ bH ao H Q:=h
theorem Zjr{i:Int}{C:Int->Prop}(h:C i):∃j,V.int i= .int j/\C j:=⟨i,rfl,h⟩
theorem Zkm{bc:TE}{f:Str}(h:bc ao H λx aL=>∃a C a3 fs v,x= .ref a/\aL a=some (.ins C a3 fs)/\Cls K C/\e8 K C f/\fs.lookup f=some v/\Q v aL):mr K bc f ao H Q:=h
theorem fld{a C a3:Addr}{fs:List (Str×V)}{f:Str}{v:V}{G:V->Prop}(h:H a=some (.ins C a3 fs))(c:Cls K C)(n:e8 K C f)(l:fs.lookup f=some v)(q:G v):
  ∃dY C a3 fs v,V.ref a= .ref dY/\H dY=some (.ins C a3 fs)/\Cls K C/\e8 K C f/\fs.lookup f=some v/\G v:=⟨a,C,a3,fs,v,rfl,h,c,n,l,q⟩
theorem Zjl{C:Addr}{m:Str}{sp:Sp}{da:List V}{E:XK}{bc:TE}{t:TA}(h:bc ao H λx aL=>∃a a3 fs,x= .ref a/\aL a=some (.ins C a3 fs)/\fs.lookup m=none/\t ao aL λvs aY=>sp (x::(vs++da)) aY Q E):jI C m sp da E bc t ao H Q:=h
theorem Zjd{C:Addr}{sp:Sp}{da:List V}{E:XK}{t:TA}(h:t ao H λvs aL=>∀x a3,aL x=none->aL a3=none->a3≠x->
  sp (.ref x::(vs++da)) (upd (upd aL a3 (.own x)) x (.ins C a3 [])) (λv aY=>v= .non/\Q (.ref x) aY) E):mx C sp da E t ao H Q:=h
theorem Zkg{bc f5:TE}{f:Str}(h:f5 ao H λy aL=>bc ao aL λx aY=>∃a C a3 fs,x= .ref a/\aY a=some (.ins C a3 fs)/\Cls K C/\e8 K C f/\fs.length<1000/\D.nx ao (upd aY a (.ins C a3 (d1 f y fs)))):mu K bc f5 f D ao H:=h
theorem Zjf{a C a3:Addr}{fs kA:List (Str×V)}{f:Str}{y:V}(h:H a=some (.ins C a3 fs))(c:Cls K C)(n:e8 K C f)(l:fs.length<1000)(e:d1 f y fs=kA)(q:D.nx ao (upd H a (.ins C a3 kA))):
  ∃dY C a3 fs,V.ref a= .ref dY/\H dY=some (.ins C a3 fs)/\Cls K C/\e8 K C f/\fs.length<1000/\D.nx ao (upd H dY (.ins C a3 (d1 f y fs))):=⟨a,C,a3,fs,rfl,h,c,n,l,by rw[e];exact q⟩
theorem raise{cls:Value}{E:XK}{t:TA}(h:t ao H λvs aL=>vs.length<=sizeLine/\E cls none aL):ng cls E t D ao H:=h
theorem Zim{v:V}{G:Prop}(q:G):[v].length<=sizeLine/\G:=⟨by show 1<=sizeLine;decide,q⟩
theorem Zje{bH:TE}{R:It->Hp->Prop}(h:bH ao H λx aL=>∃a,x= .ref a/\(∃xs,SqL K aL a xs)/\R (Itl K a) aL):mh K bH ao H R:=h
theorem Zj2{bH:TE}{R:It->Hp->Prop}(h:bH ao H λx aL=>∃y,x= .str y/\R (Its y) aL):qb bH ao H R:=h
theorem Zjo{y:Str}{G:Str->Prop}(h:G y):∃z,V.str y= .str z/\G z:=⟨y,rfl,h⟩
theorem Zjm{ix:List Nat}{c5:TI}{g:TG}{b_:TT}{bH:TE}(h:c5 ao H λJ aL=>∀p,aL p=none->
 ∃W:Nat->Nat->List V->St->Hp->Prop,(∃m,W 0 m [] (emb ix ao) (upd aL p (.lst [])))/\∀i m ys a5 aH,W i m ys a5 aH->
  (J.stop i aH/\Q (.ref p) aH)\/(J.go i aH/\∀x aY,J.yld i aH x aY->g x a5 aY λci bT=>b_ ci bT λb bx=>
   if b=true then bH ci bx λv bM=>bM p=some (.lst ys)/\ys.length<sizeLine/\∃a9,a9<m/\W (i+1) a9 (ys++ [v]) ci (upd bM p (.lst (ys++ [v])))
   else ∃a9,a9<m/\W (i+1) a9 ys ci bx)):mS ix c5 g b_ bH ao H Q:=h
theorem ZjU{Q:Bool->Hp->Prop}(h:Q true H):tAll ao H Q:=h
theorem lk0{f:Str}{v:V}{r:List (Str×V)}:((f,v)::r).lookup f=some v:=by simp
theorem lk1{f g:Str}{v:V}{o:Option V}{r:List (Str×V)}(n:(f==g)=false)(h:r.lookup f=o):((g,v)::r).lookup f=o:=by rw[QL,n];exact h
theorem lkN{f:Str}:([]:List (Str×V)).lookup f=none:=rfl
theorem pf1{f g:Str}{v x:V}{r b7:List (Str×V)}(n:(g==f)=false)(h:d1 f v r=b7):d1 f v ((g,x)::r)=(g,x)::b7:=by
 have:¬g=f:=by simpa using n
 simp[d1,this,h]
theorem pfN{f:Str}{v:V}:d1 f v []=[(f,v)]:=rfl
end
end Rd
theorem Zhi(x:Str)(ys:List Str):inV (.str x) (ys.map V.str)=decide (x∈ys):=by
 induction ys with
 |nil=>rfl
 |cons y ys bF=>
  have e:inV (.str x) ((y::ys).map V.str)=(eqV (.str y) (.str x)||inV (.str x) (ys.map V.str)):=rfl;rw[e,bF];show((y==x)||decide (x∈ys))=decide (x∈y::ys)
  by_cases h:x=y
  .subst h;simp
  .have:(y==x)=false:=by simpa using λz=>h z.symm
   rw[this];simp[h]
theorem v2(ys:List Str):(ys.map V.str).all hb=true:=by
 rw[List.all_map,QP];intro _ _
 rfl
namespace Rd
section
variable {H:Hp}{Q:VK}{K:Frag}
theorem ZjV{p:Addr}{x:Str}{ys:List Str}(h:SqL K H p (ys.map V.str))(q:Q (.bl (!decide (x∈ys))) H):rIn K true (.str x) (.ref p) H Q:=⟨p,_,rfl,.inl h,rfl,v2 ys,by rw[Zhi];exact q⟩
theorem ifD{c A B:Prop}[Decidable c](a:c->A)(b:¬c->B):if decide c=true then A else B:=by
 by_cases h:c
 .exact ifP h (a h)
 .exact ifN h (b h)
theorem ZjY{p:Addr}{bs:List Bool}{G:List Bool->Prop}(h:SqL K H p (bs.map V.bl))(q:G bs):∃(cB:Addr)(fF:List Bool),[V.ref p]=[.ref cB]/\SqL K H cB (fF.map V.bl)/\G fF:=⟨p,bs,rfl,h,q⟩
theorem leS{x y:Str}(q:Q (.bl (!decide (y.cps.toList<x.cps.toList))) H):rLeS (.str x) (.str y) H Q:=⟨x,y,rfl,rfl,q⟩
theorem Zjq{ao:St}{r b7:R2}{bc bG b_:TE}(h:bc ao H λx aL=>bG ao aL λy aY=>r x y aY λz bT=>∃k,z= .bl k/\(if k=true then b_ ao bT λd7 bx=>b7 y d7 bx Q else Q (.bl false) bT)):pG r b7 bc bG b_ ao H Q:=h
end
end Rd
namespace Rd
section
variable {H:Hp}{Q:VK}{K:Frag}
theorem ZiZ{z:Str}{i:Int}{c:Nat}(h:z.length<=sizeLine)(e:atI z.cps.toList i=some c)(q:Q (.str ⟨#[c]⟩) H):rIx K (.str z) (.int i) H Q:= .inr (.inr ⟨z,i,c,rfl,rfl,h,e,q⟩)
theorem ZiJ{a:Addr}{xs:List V}{G:Addr->Prop}(h:SqL K H a xs)(q:G a):∃dY,V.ref a= .ref dY/\(∃xs,SqL K H dY xs)/\G dY:=⟨a,rfl,⟨xs,h⟩,q⟩
theorem Zjj{j:Int}{G:Int->Prop}(aN: -(2 ^ 62)<=j)(aQ:j<2 ^ 62)(q:G j):∃k,[V.int j]=[.int k]/\ -(2 ^ 62)<=k/\k<2 ^ 62/\G k:=⟨j,rfl,aN,aQ,q⟩
end
end Rd
noncomputable def hid (H:Hp) (r:Addr):Hp:=λb=>if b=r then none else H b
theorem j3{H:Hp}{r:Addr}:hid H r r=none:=by unfold hid;rw[if_pos rfl]
theorem WY{H:Hp}{r b:Addr}(h:b≠r):hid H r b=H b:=by unfold hid;rw[if_neg h]
namespace Rd
end Rd
namespace Rd
end Rd
namespace Rd
section
variable {ao:St}{H:Hp}
theorem ZjZ{to ti:TE}{t:Zey}{v:V}{Q:St->Hp->Prop}(h:to ao H λo aL=>ti ao aL λi aY=>t o i v aY λbT=>Q ao bT):px to ti t v ao H Q:=h
end
end Rd
noncomputable def only(q:Addr) (o:HO):Hp:=λa=>if a=q then some o else none
theorem v3{q:Addr}{o:HO}:only q o q=some o:=by unfold only;rw[if_pos rfl]
theorem Zf5{q:Addr}{o:HO}{H:Hp}(h:H q=some o):Ze (only q o) H:=λb x e=>by
 unfold only at e
 by_cases c:b=q
 .rw[if_pos c] at e;rw[c];cases e;exact h
 .rw[if_neg c] at e;cases e
section
variable {X:Cx}{K:Frag}
theorem ZhI(e:X.K=K):OpR X (binaryOp .Add) (rOr k7 (rOr Zbi (rOr rCat (kO K)))):=e▸vU
theorem eU(e:X.K=K)(hu:X.A.units+64<cLine):OpR X (compareOp .Eq) (rOr rEq (gK K false)):=e▸ZiV hu
theorem fe(e:X.K=K)(hu:X.A.units+64<cLine):OpR X (compareOp .NotEq) (rOr rNe (gK K true)):=e▸ZiF hu
theorem Zkt(e:X.K=K):IxR X (rIx K):=e▸u5
theorem i7(e:X.K=K):SlR X (ZcP K):=e▸v0
def np (K:Frag):List V->Hp->VK->Prop:=λxs H Q=>∃x n,xs=[x]/\V3 K x H n/\Q (.int n) H
theorem ZjI(e:X.K=K):Yk X (.builtin "len") (np K):=e▸uM
theorem v4(e:X.K=K):OpR X (compareOp .NotIn) (rIn K true):=e▸u8
theorem fU{e:Expr}{bc:TE}{f:Str}{pos:Pos}(eI:X.K=K)(bn:PE X e bc)(aJ:attributeBase e f X.env (eval e X.env)=eval e X.env):PE X (.Attribute e f pos) (mr K bc f):=eI▸ZiE bn aJ
theorem qj{o value:Expr}{bc f5:TE}{f:Str}{pos g5:Pos}(eI:X.K=K)(aS:PE X o bc)(bO:PE X value f5)(a4:swapsWith value (some (.Attribute o f g5)) pos.line X.env=pure false):
  PS X (.Assign [.Attribute o f g5] value pos) (mu K bc f5 f):=eI▸Zh8 aS bO a4
theorem ff{bN l:Expr}{tl:TE}(eI:X.K=K)(aK:PE X l tl):PI X bN l (mh K tl):=eI▸Zhn aK
theorem j4{bN l:Expr}{tl:TE}(eI:X.K=K)(aK:PE X l tl):PI X bN l (hU K tl):=eI▸Zie aK
def qk (K:Frag) (bc:TE):TT:=λao H Q=>bc ao H λx aH=>∃k,jF K x aH k/\Q k aH
theorem dU{a:Expr}{bc:TE}(eI:X.K=K)(aS:PE X a bc)(bn:∀hS,isTrue a X.env hS=(do let v<-hS;standAt a.pos;holding [v] (truthy v))):PT X a (qk K bc):=eI▸Zgk aS bn
def ql (K:Frag):List V->Hp->VK->Prop:=λxs H Q=>∃x n t b,xs=[x,.ty n]/\YI K H x t/\kitOne K t (.type n)=some b/\Q (.bl b) H
theorem gN(e:X.K=K):Yk X (.builtin "isinstance") (ql K):=e▸vA
def qm (K:Frag):List V->Hp->VK->Prop:=λxs H Q=>∃p ys,xs=[.ref p]/\(SqL K H p ys\/SqT K H p ys)/\∀l,H l=none->Q (.ref l) (upd H l (.lst ys))
theorem k_(e:X.K=K):Yk X (.type "list") (qm K):=e▸u9
def v5 (K:Frag):List V->Hp->VK->Prop:=λxs H Q=>∃p ys,xs=[.ref p]/\((SqL K H p ys/\∀l,H l=none->Q (.ref l) (upd H l (.tup ys)))\/(SqT K H p ys/\Q (.ref p) H))
theorem k'(e:X.K=K):Yk X (.type "tuple") (v5 K):=e▸u_
def qn (K:Frag):List V->Hp->VK->Prop:=λxs H Q=>∃(p:Addr)(bs:List Bool),xs=[.ref p]/\SqL K H p (bs.map V.bl)/\Q (.bl (bs.all id)) H
theorem nq(e:X.K=K)(aO:X.calm=true):Yk X (.builtin "all") (qn K):=e▸Zfy aO
theorem i8(e:X.K=K):MtR X "str.join" (qi K):=e▸v1
theorem qo{o:Expr}{to:TE}{name:Str}{de dD:Pos}{T id:String}{r:V->List V->Hp->VK->Prop}(eI:X.K=K)(h4:PlainAttrs T)(slot:Slot T name id)(e9:typeOf (.builtin id)=pure (.type "method_descriptor"))(aZ:MtR X id r)(bf:PE X o to)
  (h5:attributeBase o name X.env (eval o X.env)=eval o X.env:=by rfl) (h6:(de.endLine==dD.line)=true:=by rfl):PE X (.Call (.Attribute o name de) [] [] dD) (mD K T r to):=eI▸Zix h4 slot e9 aZ bf h5 h6
theorem eb{o e:Expr}{bg:List Expr}{to:TE}{t:TA}{name:Str}{de dD:Pos}{T id:String}{r:V->List V->Hp->VK->Prop}(eI:X.K=K)(h4:PlainAttrs T)(slot:Slot T name id)(e9:typeOf (.builtin id)=pure (.type "method_descriptor"))(aZ:MtR X id r)(bf:PE X o to)(aS:PA X (e::bg) t)
  (h5:attributeBase o name X.env (eval o X.env)=eval o X.env:=by rfl)
  (mE:((backTo dD (starEach (e::bg) X.env)).all (λx=>!x.1)&&(backToKw dD (keywordEach [] X.env)).all (λx=>x.1.isSome)
   &&decide ((e::bg).length+([]:List Keyword).length+(if([]:List Keyword).isEmpty then 0 else 1)<30))=true:=by rfl)
  (h6:(de.endLine==dD.line)=true:=by rfl) (a4:starEach (e::bg) X.env=(false,eval e X.env)::starEach bg X.env:=by rfl) (h7:(backTo dD (starEach bg X.env)).any (·.1)=false:=by rfl):
  PE X (.Call (.Attribute o name de) (e::bg) [] dD) (tBM K T r to t):=eI▸ZjH h4 slot e9 aZ bf aS h5 mE h6 a4 h7
theorem nr{bg:List Expr}{k:Nat}{t:TGs}{n:Nat}{pos:Pos}(eI:X.K=K)(aO:X.calm=true)(h:PGs X bg t)(a':(assignEach bg X.env).length=n:=by rfl)(en:(assignEach bg X.env).findIdx? (·.1)=none:=by rfl):
  PG X (.Tuple bg k pos) (mf K n t):=eI▸Zh4 aO h a' en
end
namespace Rd
section
variable {ao:St}{H:Hp}{Q:VK}{K:Frag}
theorem tru{bc:TE}{Q:Bool->Hp->Prop}(h:bc ao H λx aH=>∃k,jF K x aH k/\Q k aH):qk K bc ao H Q:=h
theorem Zks{xs:List V}(h:∃x n,xs=[x]/\V3 K x H n/\Q (.int n) H):np K xs H Q:=h
theorem Zka{xs:List V}(h:∃x n t b,xs=[x,.ty n]/\YI K H x t/\kitOne K t (.type n)=some b/\Q (.bl b) H):ql K xs H Q:=h
theorem Zj7{xs:List V}(h:∃(p:Addr)(bs:List Bool),xs=[.ref p]/\SqL K H p (bs.map V.bl)/\Q (.bl (bs.all id)) H):qn K xs H Q:=h
theorem Zac{p:Addr}{xs:List V}(h:SqL K H p xs)(q:∀l,H l=none->Q (.ref l) (upd H l (.lst xs))):qm K [.ref p] H Q:=⟨p,xs,rfl,.inl h,q⟩
end
end Rd
def HU(A:Around):Prop:=A.units+64<cLine
theorem df.hu{k:Nat}{A:Around}(h:df k A):HU A:=h.units
theorem oA{i n a:Nat}(h:a=n)(k:i<n):i<a:=h▸k
theorem oB{n a m c:Nat}(h:a=n)(k:n<=m)(e:Nat.ble m c=true):a<=c:=h▸Qu k (QV e)
theorem oD{a m c:Nat}(k:a<=m)(e:Nat.ble m c=true):a<=c:=Qu k (QV e)
theorem ixk{X:Cx}(K:Frag)(e:X.K=K:=by rfl):IxR X (rIx K):=Zkt e
theorem cE{X:Cx}(K:Frag)(e:X.K=K:=by rfl):OpR X (binaryOp .Add) (rOr k7 (rOr Zbi (rOr rCat (kO K)))):=ZhI e
theorem d5{X:Cx}(K:Frag)(e:X.K=K:=by rfl):Yk X (.builtin "len") (np K):=ZjI e
structure Ex(K:Frag)(mg:Str->Option Value)(nm:Str)(X:Addr):Prop where
 g:nsIn K mainGlobals nm=some (some (.ref X))
 m:mg nm=some (.ref X)
 e:excIn K X [.type "ValueError",.type "Exception",.type "BaseException",.type "object"] "ValueError.__new__" =true
theorem scI{N P:List Str}{a7:Scope}(a:a7.kind= .function:=by rfl)(b:a7.isCoroutine=false:=by rfl)(c:a7.isGenerator=false:=by rfl)(d:N.Nodup:=by decide+kernel)(e:N.take P.length=P:=by rfl)(f:∀x∈P,a7.names.lookup x=some .local\/a7.names.lookup x=some .cell:=by decide+kernel)(g:∀y∈a7.names,y.2≠ .free:=by decide+kernel):Zu N P a7:=⟨a,b,c,d,e,f,g⟩
structure Dn(K:Frag)(mg:Str->Option Value)(nm q:Str)(s:Stmt)(ps:List Str) where
 f:Addr
 d:FuncData
 F:Fun K nm q s f d
 b:Y5 K d ps []
 m:mg nm=some (.ref f)
structure Dm(K:Frag)(C:Addr)(nm q:Str)(s:Stmt)(ps:List Str) where
 f:Addr
 d:FuncData
 F:Fun K nm q s f d
 b:Y5 K d ps []
 M:ZbO K C nm f
structure Di(K:Frag)(C:Addr)(q:Str)(s:Stmt)(ps:List Str) where
 f:Addr
 d:FuncData
 F:Fun K "__init__" q s f d
 b:Y5 K d ps []
 M:Mk K C f
abbrev BOk(nm q:Str)(s:Stmt)(ps:List Str):Prop:=∀us:List Value,us.length=ps.length->∀(kV dA pm:Value)(an:Option Addr)(bS ct:Value),bindArgs (fnOf nm q (f_ s) (fy s) (bU s) .none kV dA pm an bS ct) ⟨us,[]⟩=pure (ps.zip us)
section
variable {P:Program}{w:World}{K:Frag}{mg:Str->Option Value}{base h:Heap}{nm q:Str}{st:Stmt}{ps:List Str}{C f:Addr}{dH:Value}{cM an:Option Addr}{es:Array (Option Value)}{kV dc pm b8 ct:Value}
noncomputable def Dn.of (X:K.In h) (G:h.Ns mainGlobals mg) (a:nsIn K mainGlobals nm=some (some (.ref f))) (l:K.lookup f=some ⟨dH,cM,.func (fnOf nm q (f_ st) (fy st) (bU st) .none kV dc pm an b8 ct),es⟩) (c:codeIn K b8 q=true) (k:keepIn K (.ref f)=true)
  (aJ:BOk nm q st ps):Dn K mg nm q st ps:=⟨f,_,i3 l c k,(i3 l c k).binds λa1 bY cq c6 dG dL us e=>aJ us e a1 bY cq c6 dG dL,mg_of X G a⟩
noncomputable def Dm.of (a:findIn K (.ref C) nm=some (some (.ref f))) (i:isFn K (.ref f)=true) (l:K.lookup f=some ⟨dH,cM,.func (fnOf nm q (f_ st) (fy st) (bU st) .none kV dc pm an b8 ct),es⟩) (c:codeIn K b8 q=true) (k:keepIn K (.ref f)=true)
  (aJ:BOk nm q st ps):Dm K C nm q st ps:=⟨f,_,i3 l c k,(i3 l c k).binds λa1 bY cq c6 dG dL us e=>aJ us e a1 bY cq c6 dG dL,⟨a,i,k⟩⟩
noncomputable def Di.of (z:makesIn K C=true) (y:keepIn K (.ref C)=true) (a:findIn K (.ref C) "__init__" =some (some (.ref f))) (i:isFn K (.ref f)=true) (l:K.lookup f=some ⟨dH,cM,.func (fnOf "__init__" q (f_ st) (fy st) (bU st) .none kV dc pm an b8 ct),es⟩) (c:codeIn K b8 q=true) (k:keepIn K (.ref f)=true)
  (aJ:BOk "__init__" q st ps):Di K C q st ps:=⟨f,_,i3 l c k,(i3 l c k).binds λa1 bY cq c6 dG dL us e=>aJ us e a1 bY cq c6 dG dL,⟨z,a,i,y⟩⟩
theorem ZgR{bv:Type _}{P:List bv->Prop}(h:P [])(us:List bv)(e:us.length=0):P us:=match us,e with| [],_=>h
theorem ZiI{bv:Type _}{P:List bv->Prop}(h:∀a,P [a])(us:List bv)(e:us.length=1):P us:=match us,e with| [a],_=>h a
theorem lenS{bv:Type _}{n:Nat}{P:List bv->Prop}(h:∀a (us:List bv),us.length=n->P (a::us))(us:List bv)(e:us.length=n+1):P us:=match us,e with|a::us,e=>h a us (Nat.succ.inj e)
theorem Zih:WM K C []:=⟨λ_ h=>nomatch h⟩
theorem ZhE{x:Str}{xs:List Str}(h:findIn K (.ref C) x=some none)(t:WM K C xs):WM K C (x::xs):=⟨λf a6=>by
 rcases Qi.mp a6 with e|e
 .rw[e];exact h
 .exact t.out f e⟩
theorem Zi0{dT:Addr}{a:Array Value}{n:Nat}(h:K.lookup dT=some ⟨dH,cM,.seq a n,es⟩):∃dH cM n sl,K.lookup dT=some ⟨dH,cM,.seq a n,sl⟩:=⟨_,_,_,_,h⟩
abbrev OkN(P:Program)(w:World)(base:Heap)(k:Nat)(D:Dn K mg nm q st ps)(sp:Sp):Prop:=Yp P w K mg base (CXX P w) k D.f D.d ps sp
abbrev OkM(P:Program)(w:World)(mg:Str->Option Value)(base:Heap)(k:Nat)(D:Dm K C nm q st ps)(sp:Sp):Prop:=Yp P w K mg base (CXX P w) k D.f D.d ps sp
abbrev OkI(P:Program)(w:World)(mg:Str->Option Value)(base:Heap)(k:Nat)(D:Di K C q st ps)(sp:Sp):Prop:=Yp P w K mg base (CXX P w) k D.f D.d ps sp
end
section
variable {X:Cx}{CX:CXT}{j k:Nat}{C:Addr}{ps:List Str}{sp:Sp}{E:XK}{x m q:Str}{st:Stmt}{p pos de:Pos}{e o:Expr}{bg:List Expr}{bc:TE}{t:TA}{J:St->Prop}
theorem bV(D:Dn X.K X.mg x q st ps)(F:Yp X.prog X.w X.K X.mg X.base CX j D.f D.d ps sp)(aR:df k X.A)(aV:Y0 CX X E)(aS:PA X (e::bg) t)(bP:Nat.ble j k=true:=by rfl)(br:Gl X x:=by rfl)
  (eZ:(x==("__debug__" :Str))=false:=by decide) (bn:starEach (e::bg) X.env=(false,eval e X.env)::starEach bg X.env:=by rfl) (dQ:(backTo pos (starEach bg X.env)).any (·.1)=false:=by rfl):
  PE X (.Call (.Name x p) (e::bg) [] pos) (kJ sp [] E t):=Zhm (F.mono (QV bP)) aR br D.m D.F.kp D.b .nil aV aS eZ bn dQ
theorem ik{pl:Sem Bool}(bn:PE X o bc)(c:Cls X.K C)(D:Dm X.K C m q st ps)(F:Yp X.prog X.w X.K X.mg X.base CX j D.f D.d ps sp)(aR:df k X.A)(aV:Y0 CX X E)(aS:PA X (e::bg) t)(bP:Nat.ble j k=true:=by rfl)
  (en:starEach (e::bg) X.env=(false,eval e X.env)::starEach bg X.env:=by rfl) (dQ:(backTo pos (starEach bg X.env)).any (·.1)=false:=by rfl)
  (bL:eval (.Call (.Attribute o m de) (e::bg) [] pos) X.env=(do
   let dz<-eval o X.env
   standAt de.atName
   let(f,first)<-holding [dz] (getMethod dz m pl)
   callWith pos f first (backTo pos (starEach (e::bg) X.env)) (backToKw pos (keywordEach [] X.env))):=by rfl):
  PE X (.Call (.Attribute o m de) (e::bg) [] pos) (jI C m sp [] E bc t):=mz bn c D.M (F.mono (QV bP)) aR D.b .nil aV aS en dQ bL
theorem i9{pl:Sem Bool}(bn:PE X o bc)(c:Cls X.K C)(D:Dm X.K C m q st ps)(F:Yp X.prog X.w X.K X.mg X.base CX j D.f D.d ps sp)(aR:df k X.A)(aV:Y0 CX X E)(bP:Nat.ble j k=true:=by rfl)
  (bL:eval (.Call (.Attribute o m de) [] [] pos) X.env=(do
   let dz<-eval o X.env
   standAt de.atName
   let(f,first)<-holding [dz] (getMethod dz m pl)
   callWith pos f first (backTo pos (starEach [] X.env)) (backToKw pos (keywordEach [] X.env))):=by rfl):
  PE X (.Call (.Attribute o m de) [] [] pos) (jI C m sp [] E bc tNil):=ZgC bn c D.M (F.mono (QV bP)) aR D.b .nil aV bL
theorem qp(D:Di X.K C q st ps)(F:Yp X.prog X.w X.K X.mg X.base CX j D.f D.d ps sp)(aR:df (k+1) X.A)(aZ:X.mg x=some (.ref C))(aV:Y0 CX X E)(bP:Nat.ble j k=true:=by rfl)(br:Gl X x:=by rfl)
  (eZ:(x==("__debug__" :Str))=false:=by decide):PE X (.Call (.Name x p) [] [] pos) (mx C sp [] E tNil):=ZgF D.M (F.mono (QV bP)) aR br aZ D.b .nil aV eZ
end
section
variable {X:Cx}
def rDIn:R2:=λy x H Q=>∃a o,x= .ref a/\WZ H a y o/\Q (.bl o.isSome) H
def rDNotIn:R2:=λy x H Q=>∃a o,x= .ref a/\WZ H a y o/\Q (.bl (!o.isSome)) H
theorem v6(hu:X.A.units+64<cLine):OpR X (compareOp .In) rDIn:=by
 intro aI s ao H x y v u Q I a8 bj h;obtain⟨a,o,rfl,g,q⟩:=h;cases bj;exact Zkc (by omega) I g a8 λaX dO=>⟨.bl o.isSome,H,dO,rfl,q⟩
theorem v7(hu:X.A.units+64<cLine):OpR X (compareOp .NotIn) rDNotIn:=by
 intro aI s ao H x y v u Q I a8 bj h;obtain⟨a,o,rfl,g,q⟩:=h;cases bj;exact Zhr (by omega) I g a8 λaX dO=>⟨.bl (!o.isSome),H,dO,rfl,q⟩
def rIxD:R2:=λx y H Q=>∃a v,x= .ref a/\WZ H a y (some v)/\Q v H
theorem v8(hu:X.A.units+64<cLine):IxR X rIxD:=by
 intro value slice aI s ao H x y v u Q I a8 bj h a4;obtain⟨a,z,rfl,g,q⟩:=h;cases a8;exact tail_any (vv I g) PySem.F.slot_dict_getitem.lookup (vt (by omega) I g bj λd7 aX dO ha=>⟨z,H,dO,ha,q⟩) a4
def rSetD:V->V->V->Hp->(Hp->Prop)->Prop:=λo i v H Q=>∃a bx,o= .ref a/\Zdc H a i v bx/\Q bx
theorem v9(hu:X.A.units+64<cLine):Zit X rSetD:=by
 intro aI s ao H o i v dz g4 u Q I i_ ri b2 h;obtain⟨a,bx,rfl,g,q⟩:=h;cases i_;exact Zf4 (by omega) I g ri b2 λaX dO=>⟨bx,dO,q⟩
theorem Zjp{P:Program}{w:World}{k:Key}{u:Value}(h:(eM P w).is k u=true):bW (kV k) u:=by
 cases k with
 |inl i=>exact Value.isInt_shape h
 |inr x=>exact Value.isStrOf_shape h
theorem nt:∀{xs:List V}{us:List Value},us.length=xs.length->(∀(j:Nat)(v:V)(u:Value),xs[j]? =some v->us[j]? =some u->bW v u)->bD xs us
 | [],[],_,_=> .nil
 |x::xs,u::us,aK,h=> .cons (h 0 x u rfl rfl) (nt (by simpa using aK) λj v w bb bh=>h (j+1) v w (by simpa using bb) (by simpa using bh))
 | [],_::_,aK,_=>by simp at aK
 |_::_,[],aK,_=>by simp at aK
theorem KV.at{kvs:List (Key×V)}{vs:List (Key×Value)}(r:KV kvs vs):∀{j:Nat}{k:Key}{x:Value},vs[j]? =some (k,x)->∃v,kvs[j]? =some (k,v):=by
 unfold KV at r
 induction r with
 |nil=>intro j k x e;simp at e
 | @cons p q ps qs h t bF=>
  intro j k x e;cases j with
  |zero=>
   simp at e;subst e;have aN:p.1=k:=h.1;exact⟨p.2,by simp[<-aN]⟩
  |succ j=>
   obtain⟨v,z⟩:=bF (j:=j) (k:=k) (x:=x) (by simpa using e);exact⟨v,by simpa using z⟩
def rListD:List V->Hp->VK->Prop:=λxs H Q=>∃a kvs,xs=[V.ref a]/\H a=some (.dK kvs)/\∀l,H l=none->Q (.ref l) (upd H l (.lst (kvs.map λcS=>kV cS.1)))
theorem v_(aO:X.calm=true):Yk X (.type "list") rListD:=by
 intro aI s ao H xs us Q I r h;obtain⟨a,kvs,rfl,aS,q⟩:=h;obtain⟨u,rfl,dt⟩:=Wa r;cases dt;obtain⟨z,hd,vs,rel,dd⟩:=ZgY I.hok aS;obtain⟨ep,nu⟩:=dd.dictAt;refine PySem.W.kdl_call (PySem.W.kdl_dict (knd:=eM X.prog X.w) (kvs:=vs) (ep:=ep) hd) (I.ok.hd aO) nu (by rw[<-rel.length];exact z) λh' cX cn c aT kQ qq=>?_;refine⟨.ref s.heap.objs.size,_,I.laid (a:=s.heap.objs.size) (o:= .lst (kvs.map λcS=>kV cS.1)) (t':=cX) aT (Qb _) ⟨by rw[Qc];exact z,cn.toList,c,?_,by simpa using kQ⟩,rfl,q _ (I.hok.fresh (Qb _))⟩;refine nt (by rw[Jd,qq.1,Qc,rel.length]) λj v u bb bh=>?_;obtain⟨k,x,aV,v'⟩:=qq.2 j u (by rw[<-Array.getElem?_toList];exact bh);obtain⟨iK,kI⟩:=rel.at aV;rw[QA,kI] at bb;cases bb;exact Zjp v'
end
section
variable {X:Cx}{aI:List (Addr×Obj)}{ao:List (Option V)}{H aH:Hp}{s:Shared}{h':Heap}
theorem Inv.turnedL{t':Nat}{fp:List Addr}(I:Inv X aI ao H s)(k:∀b o,b∉fp->s.heap.get? b=some o->h'.get? b=some o)(a6:∀b∈fp,eo X aI H b):Inv X aI ao H {s with heap:=h',toks:=t'}:=by
 have js:∀b u,H b=some u->b∉fp:=λb u e z=>by rw[(a6 b z).1] at e;cases e
 refine I.step (g':=s.gens) (d':=s.drawn) (ch:=fp) (λb aJ=>?_) (λb o _ _ aO e _=>k b o aO e) (λb o _ _ aO e _=>⟨o.slots,k b o aO e⟩) (λ_ _ _ _ n=>n)
  (λb o aO e=>⟨o,k b o aO e⟩) (λ_ _ e=>e) (λ_ _ _ e=>e) (λb ps e=>⟨#[],by rw[e];simp⟩) (λm aZ=>?_) (λb u e=>?_) I.bare
 .obtain⟨du,f1,f2,cF,c_,dn⟩:=a6 b aJ;exact⟨cF,f1,c_,dn⟩
 .obtain⟨o,bg,ep,bf,r⟩:=aZ;exact⟨o,bg,ep,k _ o (λz=>(a6 _ z).2.1 rfl) bf,r⟩
 .refine(I.hok b u e).stay (λc v aO q=>k c v ?_ q) (λ_ q=>q) λ_ _ q=>q;rcases aO with z|z
  .rw[z];exact js b u e
  .exact js c _ z
theorem Inv.turnedNew{t':Nat}{fp:List Addr}{T:Addr}{o:HO}(I:Inv X aI ao H s)(k:∀b o,b∉fp->s.heap.get? b=some o->h'.get? b=some o)(a6:∀b∈fp,eo X aI H b)(aU:s.heap.objs.size<=T)(new:ZQ X.prog X.w (upd H T o) h' T o):
  Inv X aI ao (upd H T o) {s with heap:=h',toks:=t'}:=by
 have J:Inv X aI ao H {s with heap:=h',toks:=t'}:=I.turnedL k a6;have a':=I.hok.fresh aU;obtain⟨du,f1,f2,cF,c_,dn⟩:=I.fpOk aU a';refine Inv.step (s:={s with heap:=h',toks:=t'}) (h':=h') (g':=s.gens) (d':=s.drawn) (t':=t') (ch:=[T]) J (λb aJ=>?_) (λb o _ _ aO e _=>e) (λb o _ _ aO e _=>⟨o.slots,e⟩) (λb o aO e n=>?_)
  (λb o aO e=>⟨o,e⟩) (λb xs e=>?_) (λb o u e=>?_) (λb ps e=>⟨#[],?_⟩) (λm aZ=>aZ) (λb u e=>?_) I.bare
 .have e:b=T:=by simpa using aJ
  subst e;exact⟨cF,f1,c_,dn⟩
 .rw[bX (λz=>aO (by simp[z]))];exact n
 .rw[bX (dy e a')];exact e
 .rw[bX (dy e a')];exact e
 .rw[bX (dy e a')];simpa using e
 .by_cases aJ:b=T
  .subst aJ;rw[Zh] at e;cases e;exact new
  .rw[bX aJ] at e;exact(J.hok b u e).stay (λc v _ q=>q) (λc q=>by rw[bX (dy q a')];exact q) λc xs q=>by rw[bX (dy q a')];exact q
end
def rLenD:List V->Hp->VK->Prop:=λxs H Q=>∃a kvs,xs=[V.ref a]/\H a=some (.dK kvs)/\Q (.int kvs.length) H
theorem ZeL{X:Cx}:Yk X (.builtin "len") rLenD:=vy
noncomputable def il (n:Nat) (ix:List Nat) (ao:St):St:=List.replicate n none++ix.map λj=>(ao[j]?).join
def nv (n:Nat) (ix:List Nat) (c5:TI) (g:TG) (b_:TT) (bH:TE):TE:=λao H Q=>c5 ao H λJ aL=>∀p,aL p=none->
 ∃W:Nat->Nat->List V->St->Hp->Prop,(∃m,W 0 m [] (il n ix ao) (upd aL p (.lst [])))/\∀i m ys a5 aH,W i m ys a5 aH->
  (J.stop i aH/\Q (.ref p) aH)\/(J.go i aH/\∀x aY,J.yld i aH x aY->g x a5 aY λci bT=>b_ ci bT λb bx=>
   if b=true then bH ci bx λv bM=>bM p=some (.lst ys)/\ys.length<sizeLine/\∃a9,a9<m/\W (i+1) a9 (ys++ [v]) ci (upd bM p (.lst (ys++ [v])))
   else ∃a9,a9<m/\W (i+1) a9 ys ci bx)
section
variable {X:Cx}
theorem ZdD{aI:List (Addr×Obj)}{ao:St}{H:Hp}{s:Shared}{a7:Scope}{x:Str}{xs:List Str}{zs:List Str}{ix:List Nat}{bu:List (Str×Addr)}{fp:List Addr}{eh:Heap}{cX:Nat}
  (S:Ys X a7 x zs ix) (I:Inv X aI ao H s) (dF:∀y c,bu.lookup y=some c->X.env.cells.lookup y=some c) (eG:∀y,(y,NameKind.free)∈a7.names->∃c,bu.lookup y=some c)
  (ga:∀b∈fp,eo X aI H b/\b<s.heap.objs.size) (i2:eh.Ns s.heap.objs.size λ_=>none) (aT:∀b o,s.heap.get? b=some o->eh.get? b=some o):
  Inv (Zl X a7 bu s.heap.objs.size (xs++zs) s H fp) [] (il xs.length ix ao) H {s with heap:=eh,toks:=cX}:=by
 have sub:∀b∈frs X.stack,b∈X.env.locals::X.fs:=I.stkSub;have mT:∀b∈fp,b∉frs X.stack:=λb aJ z=>by
  obtain⟨⟨_,f1,f2,_⟩,_⟩:=ga b aJ;rcases Qi.mp (sub b z) with e|e
  .exact f1 e
  .exact f2 e
 have cut:∀y,(Zl X a7 bu s.heap.objs.size (xs++zs) s H fp).env.kindOf y=some .cell\/(Zl X a7 bu s.heap.objs.size (xs++zs) s H fp).env.kindOf y=some .free->∃c,bu.lookup y=some c:=λy bt=>by
  have q:∃k,(relabel a7 X.env).names.lookup y=some k/\(k= .cell\/k= .free):=by
   rcases bt with bt|bt
   .exact⟨_,bt,.inl rfl⟩
   .exact⟨_,bt,.inr rfl⟩
  obtain⟨k,e,aT⟩:=q;obtain⟨eF,bq,q⟩:=YQ e;have:eF= .free:=by
   rcases q with q|⟨q,_⟩
   .rcases aT with z|z
    .exact absurd (q.symm.trans z) (S.nocell _ (hy bq))
    .exact q.symm.trans z
   .exact q
  subst this;exact eG y (hy bq)
 refine⟨⟨I.ok.mod,S.kind,I.ok.glob,I.ok.blt,Qb _,λy z c aN aQ=>I.ok.inj y z c (dF _ _ aN) (dF _ _ aQ),cut,λy c a6 _=>?_,I.ok.hd,I.ok.frames,.inl rfl,λb aJ=>?_,I.bs,Qu I.ok.bsz I.sz,λb o e aJ=>?_,mT,I.stack,I.stkFree⟩,
  rfl,I.bare,Un.kept aT,⟨_,i2,λi y v aN aQ bJ=>?_⟩,λy c h=>?_,I.hok.fresh (Qb _),λy c h=>I.freeC y c (dF y c h),λp aU=>absurd (show p∈([]:List (Addr×Obj)) from aU) (by simp),I.hok.kept aT,?_⟩
 .exact absurd (show false=true from a6) (by decide)
 .obtain⟨⟨du,f1,f2,cF,c_,dn⟩,aK⟩:=ga b aJ;exact⟨Qj aK,λy c h=>c_ y c (dF y c h)⟩
 .obtain⟨⟨du,f1,f2,cF,c_,dn⟩,aK⟩:=ga b aJ;rcases cF with z|z
  .exact I.ok.noex b o e z
  .exact absurd (Qo (Heap.lt_size e) (Qu I.ok.bsz z)) (QZ _)
 ·
  have cU:xs.length<=i:=by
   rcases Nat.lt_or_ge i xs.length with z|z
   .have d2:(List.replicate xs.length none++ix.map λj=>(ao[j]?).join)[i]? =some (some v):=aQ;rw[QI (by rw[QU];exact z),List.getElem?_replicate,if_pos z] at d2;cases d2
   .exact z
  .obtain⟨i,rfl⟩:∃wa,i=xs.length+wa:=⟨i-xs.length,by omega⟩;have gH:zs[i]? =some y:=by
    have gH:(xs++zs)[xs.length+i]? =some y:=aN;rw[QO (Nat.le_add_right _ _),Nat.add_sub_cancel_left] at gH;exact gH
   have d2:(ix.map λj=>(ao[j]?).join)[i]? =some (some v):=by
    have d2:(List.replicate xs.length none++ix.map λj=>(ao[j]?).join)[xs.length+i]? =some (some v):=aQ;rw[QO (by rw[QU];exact Nat.le_add_right _ _),QU,Nat.add_sub_cancel_left] at d2;exact d2
   have aS:(ix.map λj=>X.N[j]?)[i]? =some (some y):=by rw[S.at_,QA,gH];rfl
   rw[QA] at d2 aS;cases e:ix[i]? with
   |none=>rw[e] at d2;cases d2
   |some j=>
    rw[e] at d2 aS;have fB:X.N[j]? =some y:=Qt aS;have bP:(ao[j]?).join=some v:=Qt d2;have mU:ao[j]? =some (some v):=by
     cases q:ao[j]? with
     |none=>rw[q] at bP;cases bP
     |some o=>rw[q] at bP;exact congrArg some bP
    obtain⟨m,a',aK⟩:=I.loc;have eH:=S.zfree y (Qv gH);have h2:=S.free _ (hy eH) rfl;have bO:Vis X.env.scope y:=by
     rcases h2 with z|z
     .exact .inr (.inl z)
     .exact .inr (.inr z)
    obtain⟨u,r,q⟩:=aK j y v fB mU bO;refine⟨u,r,?_⟩;rcases q with⟨mV,_⟩|⟨_,c,aO,iN⟩
    .have jQ:X.env.kindOf y=some .local:=mV;rcases h2 with z|z<;>(rw[z] at jQ;cases jQ)
    .obtain⟨ck,gu⟩:=eG y (hy eH);have fz:ck=c:=by have:=dF y ck gu;rw[aO] at this;exact(Qt this).symm
     subst fz;refine .inr ⟨?_,ck,gu,?_⟩
     .have mW:Vis (relabel a7 X.env) y:=bJ;rcases mW with z|z|z
      .obtain⟨eF,bq,q⟩:=YQ z;rw[eH] at bq;cases bq;rcases q with q|⟨_,q⟩<;>cases q
      .exact .inl z
      .exact .inr z
     .obtain⟨o,bf,hd⟩:=iN;exact⟨o,aT _ _ bf,hd⟩
 .obtain⟨v,o,bf,hd⟩:=I.cell y c (dF y c h);exact⟨v,o,aT _ _ bf,hd⟩
 .show(List.replicate xs.length none++ix.map λj=>(ao[j]?).join).length=(xs++zs).length;have:=congrArg List.length S.at_;simp only[Qc] at this;simp only[Qf,QU,Qc,this]
theorem Zaz{aI:List (Addr×Obj)}{ao:St}{H:Hp}{s:Shared}{a7:Scope}{x:Str}{xs:List Str}{zs:List Str}{ix:List Nat}{bu:List (Str×Addr)}{fp:List Addr}{it:Addr}{b3:Nat->Heap->Prop}{J:It}
  {dE bN iter:Expr} {ifs:List Expr} {pos:Pos} {g:TG} {b_:TT} {bH:TE} {Q:VK} {E:Value->Shared->Prop} {RR:Value->Addr->Result->Shared->Prop}
  (aO:X.calm=true) (S:Ys X a7 x zs ix) (I:Inv X aI ao H s) (dF:∀y c,bu.lookup y=some c->X.env.cells.lookup y=some c) (eG:∀y,(y,NameKind.free)∈a7.names->∃c,bu.lookup y=some c)
  (T:Ud X.prog X.w X.K bN J fp it b3) (st:b3 0 s.heap) (ga:∀b∈fp,eo X aI H b)
  (dw:∀C s H,PG (Zl X a7 bu C (xs++zs) s H fp) bN g/\PIf (Zl X a7 bu C (xs++zs) s H fp) ifs b_/\PE (Zl X a7 bu C (xs++zs) s H fp) dE bH)
  (be:∀p,H p=none->∃W:Nat->Nat->List V->St->Hp->Prop,(∃m,W 0 m [] (il xs.length ix ao) (upd H p (.lst [])))/\∀i m ys a5 aH,W i m ys a5 aH->
   (J.stop i aH/\Q (.ref p) aH)\/(J.go i aH/\∀x aY,J.yld i aH x aY->g x a5 aY λci bT=>b_ ci bT λb bx=>
    if b=true then bH ci bx λv bM=>bM p=some (.lst ys)/\ys.length<sizeLine/\∃a9,a9<m/\W (i+1) a9 (ys++ [v]) ci (upd bM p (.lst (ys++ [v])))
    else ∃a9,a9<m/\W (i+1) a9 ys ci bx))
  (eS:∀cn C f aX,p5 X aI ao Q cn C aX->RR cn C (.ok f) aX):
  wpAny (model X.prog X.w) X.A (newList []) (λcn h8=>wpAny (model X.prog X.w) X.A (newFunctionEnv a7 X.env.globals bu [] X.env.qual none .none (some X.env)) (λjR i4=>
   codeAny (model X.prog X.w) X.A (.compStart (.ListComp dE [⟨bN,iter,ifs,0⟩] a7 pos) 0 (.ref it) cn {jR with scope:=relabel a7 X.env}) (RR cn jR.locals) i4) E h8) E s:=by
 refine wpAny_newObj_type (wpAny_newFunctionEnv S.nocell (by intro y bt;simp at bt) (λeh hns₁ jS=>?_) S.kind);have db:Inv X aI ao (upd H s.heap.objs.size (.lst [])) {s with heap:=s.heap.push {cls:= .type "list",dict:=none,data:= .seq ([]:List Value).toArray}}:=I.lnew (its:=[]) (ys:=[]) (t':=s.toks) .nil (Qn _);dsimp only at hns₁ jS|-;obtain⟨W,⟨ho,hp⟩,turn⟩:=be s.heap.objs.size (I.hok.fresh (Qb _));have lt:∀b∈fp,b<s.heap.objs.size:=λb aJ=>by
  obtain⟨o,e,_⟩:=T.obj 0 s.heap st b aJ;exact Heap.lt_size e
 have mX:∀b∈fp,∀o,(upd H s.heap.objs.size o) b=H b:=λb aJ o=>bX (Qj (lt b aJ));have kp:∀b o,(s.heap.push {cls:= .type "list",dict:=none,data:= .seq ([]:List Value).toArray}).get? b=some o->eh.get? b=some o:=λb o e=>
  jS.extBut b o (Qj (Heap.lt_size e)) (Heap.get?_push_of_some _ e)
 have cF:∀b∈fp,eo X aI (upd H s.heap.objs.size (.lst [])) b/\b<(s.heap.push {cls:= .type "list",dict:=none,data:= .seq ([]:List Value).toArray}).objs.size:=λb aJ=>by
  obtain⟨mY,q⟩:=ga b aJ;refine⟨⟨(mX b aJ _).trans mY,q⟩,?_⟩;rw[Heap.size_push];exact Ja (lt b aJ)
 generalize gI:({s with heap:=s.heap.push {cls:= .type "list",dict:=none,data:= .seq ([]:List Value).toArray}}:Shared)=bA at db;have jT:s.heap.push {cls:= .type "list",dict:=none,data:= .seq ([]:List Value).toArray}=bA.heap:=by rw[<-gI]
 rw[jT] at kp cF hns₁|-;have hq:b3 0 eh:=T.keep 0 _ _ st λb _ o e=>kp b o (by rw[<-jT];exact Heap.get?_push_of_some _ e);have he:Inv (Zl X a7 bu bA.heap.objs.size (xs++zs) bA (upd H s.heap.objs.size (.lst [])) fp) [] (il xs.length ix ao) (upd H s.heap.objs.size (.lst [])) {bA with heap:=eh,toks:=bA.toks}:=
  ZdD S db dF eG cF hns₁ kp
 obtain⟨br,mZ,bn⟩:=dw bA.heap.objs.size bA (upd H s.heap.objs.size (.lst []));have h9:∀{aH:Hp},(∀b∈fp,aH b=none)->∀b∈fp,eo (Zl X a7 bu bA.heap.objs.size (xs++zs) bA (upd H s.heap.objs.size (.lst [])) fp) [] aH b:=λ{aH} a' b aJ=>
  ⟨a' b aJ,(he.ok.exf b aJ).1,he.ok.exfs b aJ,.inl aJ,(he.ok.exf b aJ).2,λp aU=>absurd (show p∈([]:List (Addr×Obj)) from aU) (by simp)⟩
 have jU:∀b4:Shared,b4={bA with heap:=eh,toks:=bA.toks}->
   codeAny (model X.prog X.w) X.A (.compLoop (.ListComp dE [⟨bN,iter,ifs,0⟩] a7 pos) 0 (.ref it) (.ref s.heap.objs.size) (compEnvC a7 bu bA.heap.objs.size X.env)) (RR (.ref s.heap.objs.size) bA.heap.objs.size) b4:=by
  rintro b4 rfl;refine US (λn aX=>∃i ys a5 aH,Inv (Zl X a7 bu bA.heap.objs.size (xs++zs) bA (upd H s.heap.objs.size (.lst [])) fp) [] a5 aH aX/\b3 i aX.heap/\(∀b∈fp,aH b=none)/\W i n ys a5 aH) ?_ ho
   ⟨0,[],il xs.length ix ao,_,he,hq,λb aJ=>(cF b aJ).1.1,hp⟩
  rintro n b5 ⟨i,ys,hf,bM,hX,g7,fx,m0⟩;rcases turn i n ys hf bM m0 with⟨stop,hW⟩|⟨go,step⟩
  .refine thn (T.done (Zl X a7 bu bA.heap.objs.size (xs++zs) bA (upd H s.heap.objs.size (.lst [])) fp) rfl rfl rfl aO i [] b5 hf bM _ hX (h9 fx) g7 stop) λr cY ⟨aR,eX⟩=>?_;subst aR;obtain⟨m1,m2,_⟩:=eX.loc;refine eS _ _ _ _ ⟨s.heap.objs.size,bM,m1,rfl,m2,?_,db.fpOk (Qb _) eX.free,hW⟩;exact db.call' eX.os eX.base eX.hok eX.bare λb aJ=>by
    obtain⟨⟨du,f1,f2,cF,c_,dn⟩,_⟩:=cF b aJ;exact⟨cF,f1,c_,dn⟩
  .refine thn (T.item (Zl X a7 bu bA.heap.objs.size (xs++zs) bA (upd H s.heap.objs.size (.lst [])) fp) rfl rfl rfl aO i [] b5 hf bM _ hX (h9 fx) g7 go) λr cY ⟨u,aR,dg⟩=>?_;subst aR;refine thn dg λ_ cR ⟨x7,cs,eY,jD,m3,h_,jV⟩=>?_;have m4:=eY.pinned (h9 jV) (T.obj _ _ h_);refine thn (br _ cR hf cs x7 u _ m4 jD (step x7 cs m3)) λ_ dJ ⟨ia,fC,m5,m6⟩=>?_;refine thn (mZ _ dJ ia fC _ m5 m6) λb e_ ⟨e',jW,hg⟩=>?_;have again:∀{ib:List V}{a5:St}{aH:Hp}{a9:Nat}{aX:Shared},Inv (Zl X a7 bu bA.heap.objs.size (xs++zs) bA (upd H s.heap.objs.size (.lst [])) fp) ([]++VY fp cR.heap) a5 aH aX->W (i+1) a9 ib a5 aH->a9<n->
     ∃m,m<n/\∃i ys a5 aH,Inv (Zl X a7 bu bA.heap.objs.size (xs++zs) bA (upd H s.heap.objs.size (.lst [])) fp) [] a5 aH aX/\b3 i aX.heap/\(∀b∈fp,aH b=none)/\W i m ys a5 aH:=λ{ib a5 aH a9 aX} Iz gb aZ=>by
    refine⟨a9,aZ,i+1,ib,a5,aH,Iz.unpinned,T.keep _ _ _ h_ λb aJ o e=>(Iz.pin (b,o) (Qh _ (Qh _ (iR aJ e)))).1,λb aJ=>?_,gb⟩;obtain⟨o,e,d⟩:=T.obj _ _ h_ b aJ;exact(Iz.pin (b,o) (Qh _ (Qh _ (iR aJ e)))).2.1
   cases b with
   |false=>
    rw[if_neg Qg] at hg|-;obtain⟨a9,aZ,gb⟩:=hg;exact again jW gb aZ
   |true=>
    rw[if_pos rfl] at hg|-;refine thn (bn _ e_ ia e' _ jW hg) λv i5 ⟨y,jX,m7,m8,aK,hz,a9,aZ,gb⟩=>?_;refine thn (gF _ i5 ia jX (.ref s.heap.objs.size) [y] (.ref s.heap.objs.size) [v] (λz aH=>z= .non/\aH=upd jX s.heap.objs.size (.lst (ys++ [y]))) m7 rfl (.cons m8 .nil) ⟨_,ys,y,rfl,rfl,aK,hz,rfl,rfl⟩) λ_ vG ⟨z,vH,m9,_,_,m_⟩=>?_;subst m_;exact again m9 gb aZ
 exact codeAny_compStart_list (jU _ (by subst gI;rfl)) (T.self _ 0 _ _ _ hq (jU _ (by subst gI;rfl)))
theorem nw{dE bN iter:Expr}{ifs:List Expr}{a7:Scope}{pos:Pos}{x:Str}{xs:List Str}{zs:List Str}{ix:List Nat}{c5:TI}{g:TG}{b_:TT}{bH:TE}
  (aO:X.calm=true) (S:Ys X a7 x zs ix) (aM:PI X bN iter c5)
  (dw:∀bu C s H fp,PG (Zl X a7 bu C (xs++zs) s H fp) bN g/\PIf (Zl X a7 bu C (xs++zs) s H fp) ifs b_/\PE (Zl X a7 bu C (xs++zs) s H fp) dE bH)
  (a4:∀x,foldedSetIterable iter X.env x=pure x:=by intro _;rfl):
  PE X (.ListComp dE [⟨bN,iter,ifs,0⟩] a7 pos) (nv xs.length ix c5 g b_ bH):=by
 intro aI s ao H Q I h;obtain⟨bu,ic,dF,eG⟩:=Ws I.ok S;rw[eval_ListComp];refine wpAny_comprehension_free (use:=none) rfl a4 ic S.kind S.names (thn (aM aI s ao H _ I h) λv s1 aN=>thn aN λiQ bw aQ=>?_);obtain⟨it,fp,b3,J,aY,e,b9,T,g6,f2,be⟩:=aQ;subst e;refine Zaz (RR:=λcn C=>compPost (model X.prog X.w) X.A X.xe none (EP X aI ao Q) cn C) aO S b9 dF eG T g6 f2 (λC s H=>dw bu C s H fp) be λcn C f aX h=>?_;obtain⟨p,aH,m,rfl,aZ,dO,⟨g0,g1,g2,g3,hh,ie⟩,q⟩:=h;exact⟨m,aZ,λh' aJ=>⟨.ref p,aH,dO.turned (t':=aX.toks) (λb o fD e=>(aJ.2 b fD).trans e) g0 g1 g3 hh ie,rfl,q⟩⟩
theorem wb{dE bN iter:Expr}{ifs:List Expr}{a7:Scope}{pos py jY:Pos}{x y:Str}{xs:List Str}{zs:List Str}{ix:List Nat}{c5:TI}{g:TG}{b_:TT}{bH:TE}{j:Nat}
  (aO:X.calm=true) (S:Ys X a7 x zs ix) (aM:PI X bN iter c5)
  (dw:∀bu C s H fp,PG (Zl X a7 bu C (xs++zs) s H fp) bN g/\PIf (Zl X a7 bu C (xs++zs) s H fp) ifs b_/\PE (Zl X a7 bu C (xs++zs) s H fp) dE bH)
  (dN:X.N.Nodup) (bP:X.N[j]? =some y) (bt:Loc X.env.scope y)
  (m':swapsWith (.ListComp dE [⟨bN,iter,ifs,0⟩] a7 pos) (some (.Name y py)) jY.line X.env=pure true:=by rfl)
  (a6:X.fn y=true\/X.env.scope.names.lookup y=some .local:=by first|exact .inl rfl|exact .inr rfl|assumption)
  (a4:∀x,foldedSetIterable iter X.env x=pure x:=by intro _;rfl):
  PS X (.Assign [.Name y py] (.ListComp dE [⟨bN,iter,ifs,0⟩] a7 pos) jY) (jz (nv xs.length ix c5 g b_ bH) (Vb j)):=by
 intro aI s ao H D I h;obtain⟨bu,ic,dF,eG⟩:=Ws I.ok S;rw[exec_Assign_Name_used _ _ _ _ m'];refine wpAny_bind (wpAny_standAt (wpAny_bind ?_));show wpAny _ X.A (do let _<-comprehension (.ListComp dE [⟨bN,iter,ifs,0⟩] a7 pos) a7 X.env _ (newList []) false (eval iter X.env) (some (assign (.Name y py) X.env))) _ _ s;refine wpAny_bind (wpAny_mono (wpAny_comprehension_free (use:=some (assign (.Name y py) X.env)) (Q:=λ_ aX=>SP X aI D .next aX) rfl a4 ic S.kind S.names
  (thn (aM aI s ao H _ I h) λv s1 aN=>thn aN λiQ bw aQ=>?_)) (λ_ aX be=>wpAny_pure (wpAny_pure be)) λ_ _ e=>e)
 obtain⟨it,fp,b3,J,aY,e,b9,T,g6,f2,be⟩:=aQ;subst e;refine Zaz (Q:=λx aL=>Vb j x ao aL D.nx) (RR:=λcn C=>compPost (model X.prog X.w) X.A X.xe (some (assign (.Name y py) X.env)) (λ_ aX=>SP X aI D .next aX) cn C) aO S b9 dF eG T g6 f2 (λC s H=>dw bu C s H fp) be λcn C f aX h=>?_;obtain⟨p,aH,m,rfl,aZ,dO,⟨g0,g1,g2,g3,hh,ie⟩,q⟩:=h;show wpAny _ X.A (assign (.Name y py) X.env (.ref p)) _ _ _;refine wpAny_assign_Name (ma dO dN bP bt (show bW (.ref p) (.ref p) from rfl) (λh1 I'' ⟨c,na,iL⟩=>?_) a6);have fD:C≠c:=by
  rcases iL with z|z
  .rw[z];exact g1
  .exact JH (hh _ _ z)
 exact⟨m,aZ.sameBut na fD,λh' aJ=>⟨_,aH,I''.turned (t':=h1.toks) (λb o fD e=>(aJ.2 b fD).trans e) g0 g1 g3 hh ie,q⟩⟩
end
structure Zbr(J:It)(n:Nat)(y:Nat->Hp->V->Hp->Prop)(H:Hp):Prop where
 go:∀aH i,Ze H aH->i<n->J.go i aH
 yld:∀aH i x aY,Ze H aH->i<n->J.yld i aH x aY->y i aH x aY
 stop:∀aH,Ze H aH->J.stop n aH
theorem Walks.y{J:It}{n:Nat}{f:Nat->V}{H:Hp}(w:Walks J n f H):Zbr J n (λi aH v aY=>aY=aH/\v=f i) H:=⟨w.go,w.yld,w.stop⟩
theorem Vg{own:Nat}{ix:List Nat}{g:TG}{b_:TT}{bH:TE}{Q:Addr->Hp->Prop}{ao:St}{H:Hp}{J:It}{n:Nat}{y:Nat->Hp->V->Hp->Prop}(w:Zbr J n y H)(a':n<sizeLine)(s:Nat->List (Option V))(a4:∀i,(s i).length=own)(c:Nat->Bool)(R:Nat->V->Hp->Prop)
  (mono:∀i v aL aY,Ze aL aY->R i v aL->R i v aY)
  (br:∀i a aH v aY (i':St->Hp->Prop),i<n->Ze H aH->y i aH v aY->a.length=own->(∀bT,Ze aH bT->i' (s i++ix.map λj=>(ao[j]?).join) bT)->g v (a++ix.map λj=>(ao[j]?).join) aY i')
  (aO:∀i aH (cC:Bool->Hp->Prop),i<n->Ze H aH->(∀bx,Ze aH bx->cC (c i) bx)->b_ (s i++ix.map λj=>(ao[j]?).join) aH cC)
  (bn:∀p i aH (cC:VK),i<n->c i=true->H p=none->(∃ys,aH p=some (.lst ys))->Ze H aH->(∀v bM,Ze aH bM->R i v (hid bM p)->cC v bM)->bH (s i++ix.map λj=>(ao[j]?).join) aH cC)
  (q:∀p aH ys,H p=none->Ze H aH->aH p=some (.lst ys)->Paired (λi v=>R i v (hid aH p)) ((List.range n).filter c) ys->Q p aH):
  ∀p,H p=none->∃W:Nat->Nat->List V->St->Hp->Prop,(∃m,W 0 m [] (il own ix ao) (upd H p (.lst [])))/\∀i m ys a5 aH,W i m ys a5 aH->
   (J.stop i aH/\Q p aH)\/(J.go i aH/\∀x aY,J.yld i aH x aY->g x a5 aY λci bT=>b_ ci bT λb bx=>
    if b=true then bH ci bx λv bM=>bM p=some (.lst ys)/\ys.length<sizeLine/\∃a9,a9<m/\W (i+1) a9 (ys++ [v]) ci (upd bM p (.lst (ys++ [v])))
    else ∃a9,a9<m/\W (i+1) a9 ys ci bx):=by
 intro p aU;have qr:∀{aL aY:Hp},Ze aL aY->Ze (hid aL p) (hid aY p):=λ{aL aY} e b o z=>by
  by_cases h:b=p
  .rw[h,j3] at z;cases z
  .rw[WY h] at z|-;exact e b o z
 have qt:∀{aL:Hp}{o:HO},Ze (hid aL p) (hid (upd aL p o) p):=λ{aL o} b u z=>by
  by_cases h:b=p
  .rw[h,j3] at z;cases z
  .rw[WY h] at z|-;rw[bX h];exact z
 refine⟨λi m ys a5 aH=>m=n-i/\i<=n/\(∃a,a.length=own/\a5=a++ix.map λj=>(ao[j]?).join)/\Ze H aH/\aH p=some (.lst ys)/\Paired (λi v=>R i v (hid aH p)) ((List.range i).filter c) ys,
  ⟨n,by simp,Qn _,⟨List.replicate own none,QU,rfl⟩,cu aU,Zh,.nil⟩,?_⟩
 rintro i m ys a5 aH ⟨rfl,aM,⟨a,aS,rfl⟩,bC,bt,aK⟩
 by_cases cG:i<n
 .refine .inr ⟨w.go aH i bC cG,λx aY ny=>?_⟩;have cU:ys.length<=i:=by
   rw[<-Paired.length aK];exact Qu (List.length_filter_le _ _) (by simp)
  refine br i a aH x aY _ cG bC (w.yld aH i x aY bC cG ny) aS λbT bA=>?_;refine aO i bT _ cG (bC.trans bA) λbx b4=>?_;have ij:=(bC.trans bA).trans b4;have i6:=b4 _ _ (bA _ _ bt);have step:(List.range (i+1)).filter c=(List.range i).filter c++(if c i=true then[i] else[]):=by
   rw[List.range_succ,Jq]
   congr 1
   by_cases h:c i=true<;>simp[h]
  have ei:Paired (λi v=>R i v (hid bx p)) ((List.range i).filter c) ys:=Paired.mapP aK λ_ _ z=>mono _ _ _ _ (qr (bA.trans b4)) z
  by_cases fE:c i=true
  .rw[fE,if_pos rfl];refine bn p i bx _ cG fE aU ⟨ys,i6⟩ ij λv bM b5 mj=>⟨b5 _ _ i6,by omega,n-(i+1),by omega,rfl,cG,⟨s i,a4 i,rfl⟩,(ij.trans b5).new aU,Zh,?_⟩;rw[step,if_pos fE];exact Paired.snoc (Paired.mapP ei λ_ _ z=>mono _ _ _ _ ((qr b5).trans qt) z) (mono _ _ _ _ qt mj)
  .have nn:c i=false:=by simpa using fE
   rw[nn,if_neg Qg];refine⟨n-(i+1),by omega,rfl,cG,⟨s i,a4 i,rfl⟩,ij,i6,?_⟩;rw[step,if_neg fE,Jh];exact ei
 .have e:i=n:=by omega
  subst e;exact .inl ⟨w.stop aH bC,q p aH ys aU bC bt aK⟩
theorem ZfB{J:It}{n:Nat}{y:Nat->Hp->V->Hp->Prop}{gL:Hp}(w:Zbr J n y gL){g:TG}{bG:TS}{D:Wj}{ao:St}{H:Hp}(Pv:Nat->St->Hp->Prop)(ce:Pv 0 ao H)(aT:∀i ao H,Pv i ao H->Ze gL H)
  (a4:∀i ao H v aH,i<n->Pv i ao H->y i H v aH->g v ao aH λci aY=>bG {D with nx:=Pv (i+1),ct:=Pv (i+1),bk:=D.nx} ci aY) (hd:∀ao H,Pv n ao H->D.nx ao H):
  ∃W:Nat->Nat->St->Hp->Prop,(∃m,W 0 m ao H)/\∀i m ao H,W i m ao H->
   (J.stop i H/\D.nx ao H)\/(J.go i H/\∃N:St->Hp->Prop,(∀a5 aH,N a5 aH->∃a9,a9<m/\W (i+1) a9 a5 aH)/\∀x aH,J.yld i H x aH->g x ao aH λci aY=>bG {D with nx:=N,ct:=N,bk:=D.nx} ci aY):=by
 refine⟨λi m ao H=>m=n-i/\i<=n/\Pv i ao H,⟨n,by simp,Qn _,ce⟩,?_⟩;rintro i m ao H ⟨rfl,aM,p⟩;have bC:=aT i ao H p
 by_cases cG:i<n
 .exact .inr ⟨w.go H i bC cG,Pv (i+1),λa5 aH cB=>⟨n-(i+1),by omega,rfl,cG,cB⟩,λx aH ny=>a4 i ao H x aH cG p (w.yld H i x aH bC cG ny)⟩
 .have e:i=n:=by omega
  subst e;exact .inl ⟨w.stop H bC,hd ao H p⟩
namespace Rd
section
variable {ao:St}{H:Hp}{Q:VK}{D:Wj}{K:Frag}
theorem Zin{n:Nat}{ix:List Nat}{c5:TI}{g:TG}{b_:TT}{bH:TE}(h:c5 ao H λJ aL=>∀p,aL p=none->
 ∃W:Nat->Nat->List V->St->Hp->Prop,(∃m,W 0 m [] (il n ix ao) (upd aL p (.lst [])))/\∀i m ys a5 aH,W i m ys a5 aH->
  (J.stop i aH/\Q (.ref p) aH)\/(J.go i aH/\∀x aY,J.yld i aH x aY->g x a5 aY λci bT=>b_ ci bT λb bx=>
   if b=true then bH ci bx λv bM=>bM p=some (.lst ys)/\ys.length<sizeLine/\∃a9,a9<m/\W (i+1) a9 (ys++ [v]) ci (upd bM p (.lst (ys++ [v])))
   else ∃a9,a9<m/\W (i+1) a9 ys ci bx)):nv n ix c5 g b_ bH ao H Q:=h
theorem Zj1(h:∀p,H p=none->Q (.ref p) (upd H p (.dK []))):tDNewK ao H Q:=h
theorem ZjO{a:Addr}{kvs:List (Key×V)}{x:Str}(h:H a=some (.dK kvs))(q:Q (.bl (eg kvs (Sum.inr x)).isSome) H):rDIn (.str x) (.ref a) H Q:=⟨a,_,rfl,WZ.k (k:=Sum.inr x) h,q⟩
theorem Zjw{a:Addr}{kvs:List (Key×V)}{x:Str}(h:H a=some (.dK kvs))(q:Q (.bl (!(eg kvs (Sum.inr x)).isSome)) H):rDNotIn (.str x) (.ref a) H Q:=⟨a,_,rfl,WZ.k (k:=Sum.inr x) h,q⟩
theorem Zjz{a:Addr}{kvs:List (Key×V)}{x:Str}{v:V}(h:H a=some (.dK kvs))(e:eg kvs (Sum.inr x)=some v)(q:Q v H):rIxD (.ref a) (.str x) H Q:=⟨a,v,rfl,by rw[<-e];exact WZ.k (k:=Sum.inr x) h,q⟩
theorem Zjn{a:Addr}{kvs:List (Key×V)}{x:Str}{v:V}{Q:Hp->Prop}(h:H a=some (.dK kvs))(aK:kvs.length<sizeLine)(q:Q (upd H a (.dK (e1 kvs (Sum.inr x) v)))):rSetD (.ref a) (.str x) v H Q:=⟨a,_,rfl,Zdc.k (k:=Sum.inr x) h aK,q⟩
theorem Zj9{a:Addr}{kvs:List (Key×V)}(h:H a=some (.dK kvs))(q:Q (.int kvs.length) H):rLenD [.ref a] H Q:=⟨a,kvs,rfl,h,q⟩
theorem Zjg{a:Addr}{kvs:List (Key×V)}(h:H a=some (.dK kvs))(q:∀l,H l=none->Q (.ref l) (upd H l (.lst (kvs.map λcS=>kV cS.1)))):rListD [.ref a] H Q:=⟨a,kvs,rfl,h,q⟩
end
end Rd
namespace Rd
end Rd
namespace Rd
end Rd
namespace Rd
end Rd
namespace Rd
end Rd
namespace Rd
end Rd
namespace Rd
end Rd
noncomputable def Itz (K:Frag) (a b:Addr):It:=
 ⟨λi H=>∃xs x ys y,SqL K H a xs/\xs[i]? =some x/\SqL K H b ys/\ys[i]? =some y,λi H v aH=>∃t x y,H t=none/\v= .ref t/\aH=upd H t (.tup [x,y])/\(∀xs,SqL K H a xs->xs[i]? =some x)/\∀ys,SqL K H b ys->ys[i]? =some y,λi H=>∃xs ys,SqL K H a xs/\SqL K H b ys/\(xs.length<=i\/ys.length<=i)⟩
theorem hB{h:Heap}{l b:Addr}{xs:Array Value}{o:Obj}(aK:h.IsList l xs)(bf:h.get? b=some o)(aO:o.cls≠ .type "list"):l≠b:=λz=>by
 subst z;obtain⟨bZ,aN,aQ,_⟩:=aK;rw[bf] at aN;cases aN;exact aO aQ
structure Zez(h:Heap)(z TI TO cI dI a b:Addr)(i:Nat):Prop where
 zip:IsZip h z TI TO .none
 ti:IsPair h TI (.ref cI) (.ref dI)
 to:∃x y,IsPair h TO x y
 l1:h.IsListIter cI a i
 l2:h.IsListIter dI b i
structure Zc6(z TI TO cI dI:Addr):Prop where
 TIz:TI≠z
 TOz:TO≠z
 i1z:cI≠z
 i2z:dI≠z
 TITO:TI≠TO
 TIi1:TI≠cI
 TIi2:TI≠dI
 TOi1:TO≠cI
 TOi2:TO≠dI
 i12:cI≠dI
theorem wc(n:Nat):Zc6 (n+4) (n+2) (n+3) n (n+1):=⟨show n+2≠n+4 by omega,show n+3≠n+4 by omega,show n≠n+4 by omega,show n+1≠n+4 by omega,show n+2≠n+3 by omega,show n+2≠n by omega,show n+2≠n+1 by omega,show n+3≠n by omega,show n+3≠n+1 by omega,show n≠n+1 by omega⟩
theorem Zez.apart{h:Heap}{z TI TO cI dI a b:Addr}{i:Nat}{xs ys:Array Value}(D:Zc6 z TI TO cI dI)(st:Zez h z TI TO cI dI a b i)(aS:h.IsList a xs)(aJ:h.IsList b ys):ZipApart z TI TO cI dI a b:=by
 obtain⟨x,y,gd⟩:=st.to;obtain⟨fG,d_,fa,_⟩:=st.l1;obtain⟨gO,dZ,fb,_⟩:=st.l2;have fg:fG.cls≠ .type "list" :=by rw[fa];decide
 have et:gO.cls≠ .type "list" :=by rw[fb];decide
 exact⟨D.TIz,D.TOz,D.i1z,D.i2z,D.TITO,D.TIi1,D.TIi2,D.TOi1,D.TOi2,D.i12,hB aS st.zip (show Value.type "zip" ≠Value.type "list" by decide),hB aS gd (show Value.type "tuple" ≠Value.type "list" by decide),hB aS d_ fg,hB aS dZ et,hB aJ st.zip (show Value.type "zip" ≠Value.type "list" by decide),hB aJ gd (show Value.type "tuple" ≠Value.type "list" by decide),hB aJ d_ fg,hB aJ dZ et⟩
theorem wd{P:Program}{w:World}{K:Frag}{nz:List Expr}{k1:Nat}{pos:Pos}(a b z TI TO cI dI:Addr)(D:Zc6 z TI TO cI dI):Ud P w K (.Tuple nz k1 pos) (Itz K a b) [z,TI,TO,cI,dI] z (λi h=>Zez h z TI TO cI dI a b i) where
 mem:=by simp
 obj:=λi h st c aO=>by
  obtain⟨x,y,gd⟩:=st.to;obtain⟨fG,d_,_,hT⟩:=st.l1;obtain⟨gO,dZ,_,nA⟩:=st.l2;simp only[Qi,QQ,or_false] at aO;rcases aO with rfl|rfl|rfl|rfl|rfl
  .exact⟨_,st.zip,λv q=>by cases (show Data.fields _=Data.cell v from q)⟩
  .exact⟨_,st.ti,λv q=>by cases (show Data.seq _ _=Data.cell v from q)⟩
  .exact⟨_,gd,λv q=>by cases (show Data.seq _ _=Data.cell v from q)⟩
  .exact⟨fG,d_,λv q=>by rw[hT] at q;cases q⟩
  .exact⟨gO,dZ,λv q=>by rw[nA] at q;cases q⟩
 keep:=λi h h' st k=>by
  obtain⟨x,y,gd⟩:=st.to;exact⟨k z (by simp) _ st.zip,k TI (by simp) _ st.ti,⟨x,y,k TO (by simp) _ gd⟩,st.l1.at λo q=>k cI (by simp) o q,st.l2.at λo q=>k dI (by simp) o q⟩
 item:=by
  intro X hP hw dP aO i aI s ao H E I a6 st br;subst hP hw dP;obtain⟨xs,x,ys,y,hC,aV,im,bt⟩:=br;obtain⟨qu,la,d_,lb⟩:=I.list hC;obtain⟨f8,lc,dZ,lf⟩:=I.list im;obtain⟨lg,we,nB⟩:=la.get aV;obtain⟨ih,wf,nC⟩:=lc.get bt;obtain⟨a0,b0,gd⟩:=st.to;refine wpAny_pyNext_zip_item (st.apart D d_.isList dZ.isList) st.zip st.ti gd st.l1 st.l2 d_.isList dZ.isList (x:=lg) (y:=ih) (by simpa using we) (by simpa using wf) λh' io wg gH d2 ef hsz aT=>?_;have eH:=I.hok.fresh (Qb s.heap.objs.size);have lt:∀{c:Addr}{o:Obj},s.heap.get? c=some o->c<s.heap.objs.size:=λe=>Heap.lt_size e;have qv:=lt st.zip;have wh:cI<s.heap.objs.size:=by obtain⟨_,q,_⟩:=st.l1;exact lt q
  have wi:dI<s.heap.objs.size:=by obtain⟨_,q,_⟩:=st.l2;exact lt q
  refine⟨_,rfl,wpAny_letOwnedTupleGo_zip io λaQ wj g9=>?_⟩;have wl:IsPair aQ s.heap.objs.size lg ih:=g9.extBut _ _ (Nat.ne_of_gt qv) ef;have a_:Inv X aI ao (upd H s.heap.objs.size (.tup [x,y])) {s with heap:=aQ}:=
   I.turnedNew (t':=s.toks) (fp:=[z,TI,TO,cI,dI]) (λc o aO q=>by
    have fg:c≠z:=λe=>aO (by simp[e]);have et:c≠TO:=λe=>aO (by simp[e]);have jA:c≠cI:=λe=>aO (by simp[e]);have ip:c≠dI:=λe=>aO (by simp[e]);exact g9.extBut c o fg (aT c o fg et jA ip q)) a6 (Qb _) ⟨by show 2<=sizeLine;decide,[lg,ih],.cons nB (.cons nC .nil),_,wl,rfl,_,rfl⟩
  refine⟨.ref s.heap.objs.size,_,a_,rfl,⟨_,x,y,eH,rfl,rfl,λzs hz=>by rw[I.list_inj hz hC];exact aV,λzs hz=>by rw[I.list_inj hz im];exact bt⟩,⟨wj,g9.extBut _ _ D.TIz (aT _ _ D.TIz D.TITO D.TIi1 D.TIi2 st.ti),⟨_,_,g9.extBut _ _ D.TOz wg⟩,gH.at λo q=>g9.extBut _ _ D.i1z q,d2.at λo q=>g9.extBut _ _ D.i2z q⟩,λc aO=>?_⟩;have iq:c≠s.heap.objs.size:=by
   simp only[Qi,QQ,or_false] at aO;rcases aO with rfl|rfl|rfl|rfl|rfl
   .exact Qj qv
   .exact Qj (lt st.ti)
   .exact Qj (lt gd)
   .exact Qj wh
   .exact Qj wi
  rw[bX iq];exact(a6 c aO).1
 done:=by
  intro X hP hw dP aO i aI s ao H E I a6 st br;subst hP hw dP;obtain⟨xs,ys,hC,im,aV⟩:=br;obtain⟨qu,la,d_,lb⟩:=I.list hC;obtain⟨f8,lc,dZ,lf⟩:=I.list im;obtain⟨a0,b0,gd⟩:=st.to;have bb:=la.length;have bh:=lc.length;exact wpAny_pyNext_zip_end (I.ok.hd aO) (st.apart D d_.isList dZ.isList) st.zip st.ti gd st.l1 st.l2 d_.isList dZ.isList (by rcases aV with q|q;exact .inl (by simp;omega);exact .inr (by simp;omega)) λh' c2=>⟨rfl,I.turnedL (t':=s.toks) (fp:=[z,TI,TO,cI,dI]) (λc o aO q=>c2 c o (λe=>aO (by simp[e])) (λe=>aO (by simp[e])) (λe=>aO (by simp[e])) (λe=>aO (by simp[e])) q) a6⟩
 self:=λ_ _ _ _ _ st h=>wpAny_pyIter_zip st.zip h
section
variable {X:Cx}
def qw (K:Frag) (bc:TA):TI:=λao H R=>bc ao H λvs aL=>∃a b,vs=[.ref a,.ref b]/\(∃xs,SqL K aL a xs)/\(∃ys,SqL K aL b ys)/\R (Itz K a b) aL
theorem wm{K:Frag}{a b:Expr}{bc:TA}{p pos mv:Pos}{nz:List Expr}{k1:Nat}(eI:X.K=K)(br:Gl X "zip")(aZ:X.mg "zip" =none)(aS:PA X [a,b] bc)(a4:starEach [a,b] X.env=(false,eval a X.env)::starEach [b] X.env:=by rfl)(dQ:(backTo pos (starEach [b] X.env)).any (·.1)=false:=by rfl):
  PI X (.Tuple nz k1 mv) (.Call (.Name "zip" p) [a,b] [] pos) (qw K bc):=by
 subst eI;intro aI s ao H R I h;refine Call_ (jw I br aZ boot_zip (Jl (thn (aS pos aI s ao H _ I h) λus s1 ⟨vs,aL,a_,bK,bQ⟩=>?_) a4 dQ));obtain⟨b1,hD,rfl,⟨xs,hC⟩,⟨ys,im⟩,q⟩:=bQ;obtain⟨lg,ih,rfl,nB,nC⟩:=Zju bK;cases nB;cases nC;obtain⟨qu,la,d_,lb⟩:=a_.list hC;obtain⟨f8,lc,dZ,lf⟩:=a_.list im;refine call_zip_2 d_.isList dZ.isList λh' hz wn wo aN aQ hsz aT=>?_;refine wpAny_pyIter_zip hz ?_;have b9:Inv X aI ao aL {s1 with heap:=h'}:=a_.kept (t':=s1.toks) aT;have dm:∀k:Nat,s1.heap.objs.size<=s1.heap.objs.size+k:=λk=>Nat.le_add_right _ _;refine⟨s1.heap.objs.size+4,[s1.heap.objs.size+4,s1.heap.objs.size+2,s1.heap.objs.size+3,s1.heap.objs.size,s1.heap.objs.size+1],_,_,aL,rfl,b9,wd b1 hD _ _ _ _ _ (wc _),⟨hz,wn,⟨_,_,wo⟩,aN,aQ⟩,λc aO=>?_,q⟩;simp only[Qi,QQ,or_false] at aO;rcases aO with rfl|rfl|rfl|rfl|rfl
 .exact a_.fpOk (dm 4) (a_.hok.fresh (dm 4))
 .exact a_.fpOk (dm 2) (a_.hok.fresh (dm 2))
 .exact a_.fpOk (dm 3) (a_.hok.fresh (dm 3))
 .exact a_.fpOk (Qb _) (a_.hok.fresh (Qb _))
 .exact a_.fpOk (dm 1) (a_.hok.fresh (dm 1))
end
theorem wq{K:Frag}{a b:Addr}{xs ys:List V}{H:Hp}(aN:SqL K H a xs)(aQ:SqL K H b ys)(aK:xs.length=ys.length):Zbr (Itz K a b) xs.length (λi aH v aY=>∃t,aH t=none/\v= .ref t/\aY=upd aH t (.tup [xs.getD i .non,ys.getD i .non])) H:=
 ⟨λaH i e aM=>⟨xs,xs[i],ys,ys[i],e.seq aN,by simp[aM],e.seq aQ,by simp⟩,λaH i x aY e aM ⟨t,z,d3,bL,bO,hu,hz,io⟩=>⟨t,bL,bO,by
  have bb:=hz xs (e.seq aN);have bh:=io ys (e.seq aQ);rw[hu];simp[List.getD,bb,bh]⟩,λaH e=>⟨xs,ys,e.seq aN,e.seq aQ,.inl (Qb _)⟩⟩
namespace Rd
section
variable {K:Frag}{ao:St}{H:Hp}
theorem Zj3{ts:TA}{R:It->Hp->Prop}(h:ts ao H λvs aL=>∃a b,vs=[.ref a,.ref b]/\(∃xs,SqL K aL a xs)/\(∃ys,SqL K aL b ys)/\R (Itz K a b) aL):qw K ts ao H R:=h
end
end Rd
namespace Rd
end Rd
theorem qx:∀{ys:List Str}{l:List (Str×Tok)},l.map (·.1)=ys->bD (ys.map V.str) (strValues l)
 |_,[],rfl=> .nil
 |_,p::r,rfl=> .cons ⟨p.2,rfl⟩ (qx (l:=r) rfl)
section
variable {X:Cx}
def rSplit:V->List V->Hp->VK->Prop:=λx vs H Q=>∃z y:Str,x= .str z/\vs=[.str y]/\(y.length==0)=false/\z.length+2<=sizeLine/\∀p,H p=none->Q (.ref p) (upd H p (.lst ((Txt.split z y).map V.str)))
theorem nD:MtR X "str.split" rSplit:=by
 intro aI s ao H x xs v us Q I a8 a2 h;obtain⟨z,y,rfl,rfl,bt,hz,q⟩:=h;obtain⟨t,rfl⟩:=a8;obtain⟨u,rfl,ja,rfl⟩:=Wa a2;have aK:(Txt.split z y).length<=sizeLine:=Qu (split_le z y) hz;have fin:∀(l:List (Str×Tok))(k:Nat),l.map (·.1)=Txt.split z y->EP X aI ao Q (.ref s.heap.objs.size) {s with heap:=s.heap.push {cls:= .type "list",data:= .seq (strValues l).toArray},toks:=k}:=λl k e=>
  ⟨.ref s.heap.objs.size,_,I.laid (t':=k) (o:= .lst ((Txt.split z y).map V.str)) (λb bE q=>Heap.get?_push_of_some _ q) (Qb _) ⟨by rw[Qc];exact aK,_,0,qx e,Heap.get?_push_size _ rfl⟩,rfl,q _ (I.hok.fresh (Qb _))⟩
 have a':(Builtin.Str.partsBetween z (Builtin.Str.occurrences z y 0 z.length (z.length+1)) y.length).length<=sizeLine:=by
  have:=StrLaws.occ_length_le z y 0 z.length (z.length+1);rw[length_partsBetween];omega
 cases aN:(decide (z.length<y.length)||decide (Builtin.Str.strKind z<Builtin.Str.strKind y)) with
 |false=>
  cases a6:(Builtin.Str.occurrences z y 0 z.length (z.length+1)).isEmpty with
  |false=>
   refine call_meets F.slot_str_split (typeIs_str s z t) F.entry_str_split (F.args_str_split_2 _ _) (meets_str_split_sep z y t ja aN bt a6 (by omega) a') ?_;rw[strsFrom_eq];exact fin (numbered s.toks _) _ ((numbered_texts _ _).trans (by unfold Txt.split;rw[aN,a6];rfl))
  |true=>exact call_meets F.slot_str_split (typeIs_str s z t) F.entry_str_split (F.args_str_split_2 _ _) (meets_str_split_not_found z y t ja aN bt a6) (fin [(z,t)] s.toks (by unfold Txt.split;rw[aN,a6];rfl))
 |true=>exact call_meets F.slot_str_split (typeIs_str s z t) F.entry_str_split (F.args_str_split_2 _ _) (meets_str_split_cannot_occur z y t ja aN) (fin [(z,t)] s.toks (by unfold Txt.split;rw[aN];rfl))
def rPart:V->List V->Hp->VK->Prop:=λx vs H Q=>∃z y:Str,x= .str z/\vs=[.str y]/\(y.length==0)=false/\z.length<=sizeLine/\∀p,H p=none->Q (.ref p) (upd H p (.tup [.str (Txt.partition z y).1,.str (Txt.partition z y).2.1,.str (Txt.partition z y).2.2]))
theorem wr:MtR X "str.partition" rPart:=by
 intro aI s ao H x xs v us Q I a8 a2 h;obtain⟨z,y,rfl,rfl,bt,hz,q⟩:=h;obtain⟨t,rfl⟩:=a8;obtain⟨u,rfl,ja,rfl⟩:=Wa a2;refine call_meets F.slot_str_partition (typeIs_str s z t) F.entry_str_partition (F.args_str_partition_2 _ _) (meets_str_partition z y t ja bt hz) ?_;have fin:∀(a b c:Str)(bc bG b_:Tok)(k:Nat),Txt.partition z y=(a,b,c)->EP X aI ao Q (.ref s.heap.objs.size) {s with heap:=s.heap.push {cls:= .type "tuple",data:= .seq #[.str a bc,.str b bG,.str c b_]},toks:=k}:=λa b c bc bG b_ k e=>
  ⟨.ref s.heap.objs.size,_,I.laid (t':=k) (o:= .tup [.str a,.str b,.str c]) (λb bE q=>Heap.get?_push_of_some _ q) (Qb _) ⟨by show 3<=sizeLine;decide,_,.cons ⟨_,rfl⟩ (.cons ⟨_,rfl⟩ (.cons ⟨_,rfl⟩ .nil)),⟨_,Heap.get?_push_size _ rfl,rfl,_,rfl⟩⟩,rfl,by have:=q _ (I.hok.fresh (Qb _));rw[e] at this;exact this⟩
 cases bf:Builtin.Str.occurrences z y 0 z.length 1 with
 |nil=>exact fin _ _ _ _ _ _ _ (by unfold Txt.partition;rw[bf])
 |cons i r=>exact fin _ _ _ _ _ _ _ (by unfold Txt.partition;rw[bf])
def rStarts:V->List V->Hp->VK->Prop:=λx vs H Q=>∃z y:Str,x= .str z/\vs=[.str y]/\Q (.bl (Txt.startswith z y)) H
theorem qy:MtR X "str.startswith" rStarts:=by
 intro aI s ao H x xs v us Q I a8 a2 h;obtain⟨z,y,rfl,rfl,q⟩:=h;obtain⟨t,rfl⟩:=a8;obtain⟨u,rfl,ja,rfl⟩:=Wa a2;exact SC.startswith ⟨.bl _,H,I,rfl,q⟩
def rIntT:List V->Hp->VK->Prop:=λxs H Q=>∃(z:Str)(n:Int),xs=[.str z]/\PySem.intText? z=some n/\z.length<=640/\Q (.int n) H
theorem jb:Yk X (.type "int") rIntT:=by
 intro aI s ao H xs us Q I r h;obtain⟨z,n,rfl,a',aK,q⟩:=h;obtain⟨u,rfl,t,rfl⟩:=Wa r;exact PySem.W.KIN.call_text a' aK ⟨.int n,H,I.tok _,⟨_,rfl⟩,q⟩
def Zgx (t:TE):TE:=λao H Q=>t ao H λv aL=>(∃x:Str,v= .str x/\x.length<=sizeLine/\Q (.str x) aL)\/∃i:Int,v= .int i/\i.natAbs.log2<1920/\Q (.str (toString i)) aL
theorem nE{e:Expr}{t:TE}{pos:Pos}(bn:PE X e t):PE X (.FormattedValue e (-1) none pos) (Zgx t):=by
 intro aI s ao H Q I h;refine wpAny_FormattedValue_plain (wpAny_mono (bn aI s ao H _ I h) (λu s1 aN=>?_) λ_ _ x=>x);obtain⟨v,aL,a_,b2,q⟩:=aN;rcases q with⟨x,rfl,aV,q⟩|⟨i,rfl,aM,q⟩
 .obtain⟨t,rfl⟩:=b2;exact wpAny_formatField_str ⟨.str x,aL,a_,⟨_,rfl⟩,q⟩ ⟨.str x,aL,a_.tok _,⟨_,rfl⟩,q⟩ aV
 .obtain⟨t,rfl⟩:=b2;exact wpAny_formatField_int aM ⟨.str _,aL,a_.tok _,⟨_,rfl⟩,q⟩
theorem Zbl(x:Str):(Str.empty++x)=x:=Str.empty_append x
def Zgv (bc bG:TE):TE:=λao H Q=>bc ao H λa aL=>∃x:Str,a= .str x/\x.length<=sizeLine/\bG ao aL λb aY=>∃y:Str,b= .str y/\x.length+y.length<=sizeLine/\Q (.str (x++y)) aY
theorem ws{a b:Expr}{bc bG:TE}{pos:Pos}(aS:PE X a bc)(aJ:PE X b bG):PE X (.JoinedStr [a,b] pos) (Zgv bc bG):=by
 intro aI s ao H Q I h;refine wpAny_JoinedStr (wpAny_mono (aS aI s ao H _ I h) (λu s1 aN=>?_) λ_ _ x=>x);obtain⟨v,aL,a_,b2,x,rfl,aV,q⟩:=aN;obtain⟨t,rfl⟩:=b2;refine⟨x,t,rfl,by rw[Zbl];exact aV,?_⟩;rw[Zbl];refine wpAny_mono (aJ aI s1 ao aL _ a_ q) (λu bw aQ=>?_) λ_ _ x=>x;obtain⟨v,aY,b9,b2,y,rfl,bt,q⟩:=aQ;obtain⟨t,rfl⟩:=b2;have hz:(x++y).length<=sizeLine:=by rw[Str.length_append];exact bt
 exact⟨y,t,rfl,hz,hz,.str (x++y),aY,b9.tok _,⟨_,rfl⟩,q⟩
def Zgh (bc bG b_:TE):TE:=λao H Q=>bc ao H λa aL=>∃x:Str,a= .str x/\x.length<=sizeLine/\bG ao aL λb aY=>∃y:Str,b= .str y/\x.length+y.length<=sizeLine/\b_ ao aY λc bT=>∃z:Str,c= .str z/\x.length+y.length+z.length<=sizeLine/\Q (.str (x++y++z)) bT
theorem wt{a b c:Expr}{bc bG b_:TE}{pos:Pos}(aS:PE X a bc)(aJ:PE X b bG)(aO:PE X c b_):PE X (.JoinedStr [a,b,c] pos) (Zgh bc bG b_):=by
 intro aI s ao H Q I h;refine wpAny_JoinedStr (wpAny_mono (aS aI s ao H _ I h) (λu s1 aN=>?_) λ_ _ x=>x);obtain⟨v,aL,a_,b2,x,rfl,aV,q⟩:=aN;obtain⟨t,rfl⟩:=b2;refine⟨x,t,rfl,by rw[Zbl];exact aV,?_⟩;rw[Zbl];refine wpAny_mono (aJ aI s1 ao aL _ a_ q) (λu bw aQ=>?_) λ_ _ x=>x;obtain⟨v,aY,b9,b2,y,rfl,bt,q⟩:=aQ;obtain⟨t,rfl⟩:=b2;refine⟨y,t,rfl,by rw[Str.length_append];exact bt,?_⟩;refine wpAny_mono (aO aI bw ao aY _ b9 q) (λu bA bJ=>?_) λ_ _ x=>x;obtain⟨v,bT,db,b2,z,rfl,hz,q⟩:=bJ;obtain⟨t,rfl⟩:=b2;have hw:(x++y++z).length<=sizeLine:=by rw[Str.length_append,Str.length_append];exact hz
 exact⟨z,t,rfl,hw,hw,.str (x++y++z),bT,db.tok _,⟨_,rfl⟩,q⟩
end
namespace Rd
section
variable {ao:St}{H:Hp}{Q:VK}
theorem split{z y:Str}(bt:(y.length==0)=false)(hz:z.length+2<=sizeLine)(q:∀p,H p=none->Q (.ref p) (upd H p (.lst ((Txt.split z y).map V.str)))):rSplit (.str z) [.str y] H Q:=⟨z,y,rfl,rfl,bt,hz,q⟩
theorem Zjy{z y:Str}(bt:(y.length==0)=false)(hz:z.length<=sizeLine)(q:∀p,H p=none->Q (.ref p) (upd H p (.tup [.str (Txt.partition z y).1,.str (Txt.partition z y).2.1,.str (Txt.partition z y).2.2]))):rPart (.str z) [.str y] H Q:=⟨z,y,rfl,rfl,bt,hz,q⟩
theorem ZhU{z y:Str}(q:Q (.bl (Txt.startswith z y)) H):rStarts (.str z) [.str y] H Q:=⟨z,y,rfl,rfl,q⟩
theorem Zko{z:Str}{n:Int}(a':PySem.intText? z=some n)(aK:z.length<=640)(q:Q (.int n) H):rIntT [.str z] H Q:=⟨z,n,rfl,a',aK,q⟩
theorem fmt{t:TE}(h:t ao H λv aL=>(∃x:Str,v= .str x/\x.length<=sizeLine/\Q (.str x) aL)\/∃i:Int,v= .int i/\i.natAbs.log2<1920/\Q (.str (toString i)) aL):Zgx t ao H Q:=h
theorem ZjW{x:Str}{G:Str->Prop}{lh:Int->Prop}(h:x.length<=sizeLine)(q:G x):(∃y:Str,V.str x= .str y/\y.length<=sizeLine/\G y)\/∃i:Int,V.str x= .int i/\i.natAbs.log2<1920/\lh i:= .inl ⟨x,rfl,h,q⟩
theorem Zkd{i:Int}{G:Str->Prop}{lh:Int->Prop}(h:i.natAbs.log2<1920)(q:lh i):(∃y:Str,V.int i= .str y/\y.length<=sizeLine/\G y)\/∃j:Int,V.int i= .int j/\j.natAbs.log2<1920/\lh j:= .inr ⟨i,rfl,h,q⟩
theorem tyS{K:Frag}{x:Str}{G:Prop}(q:G):tyV K "str" (.str x) H/\G:=⟨rfl,q⟩
theorem ZjN{i:Int}{G:Int->Prop}(h:i.natAbs.log2<1920)(q:G i):∃j:Int,[V.int i]=[.int j]/\j.natAbs.log2<1920/\G j:=⟨i,rfl,h,q⟩
theorem jnS{x:Str}{G:Str->Prop}{f:Str->Nat}(h:f x<=sizeLine)(q:G x):∃y:Str,V.str x= .str y/\f y<=sizeLine/\G y:=⟨x,rfl,h,q⟩
theorem jn2{bc bG:TE}(h:bc ao H λa aL=>∃x:Str,a= .str x/\x.length<=sizeLine/\bG ao aL λb aY=>∃y:Str,b= .str y/\x.length+y.length<=sizeLine/\Q (.str (x++y)) aY):Zgv bc bG ao H Q:=h
theorem jn3{bc bG b_:TE}(h:bc ao H λa aL=>∃x:Str,a= .str x/\x.length<=sizeLine/\bG ao aL λb aY=>∃y:Str,b= .str y/\x.length+y.length<=sizeLine/\b_ ao aY λc bT=>∃z:Str,c= .str z/\x.length+y.length+z.length<=sizeLine/\Q (.str (x++y++z)) bT):Zgh bc bG b_ ao H Q:=h
end
end Rd
end L2
namespace L2
namespace Tx
open PySem PySem.Builtin PySem.Builtin.Str PySem.StrLaws PySem.NumText
noncomputable def tl (x:Str):List Nat:=x.cps.toList
theorem Wc{x y:Str}(h:tl x=tl y):x=y:=Str.ext' (Array.toList_inj.mp h)
theorem Wf(x y:Str):tl (x++y)=tl x++tl y:=by show(x.cps++y.cps).toList=_;rw[Array.toList_append];rfl
theorem Z1(x:Str):x.length=(tl x).length:=by unfold tl;simp[Str.length]
noncomputable def jl (s:List Nat):List (List Nat)->List Nat
 | []=>[]
 | [x]=>x
 |x::y::r=>x++(s++jl s (y::r))
theorem Zhg(s:Str):∀ps:List Str,tl (Str.join s ps)=jl (tl s) (ps.map tl)
 | []=>rfl
 | [x]=>rfl
 |x::y::r=>by
  show tl (x++s++Str.join s (y::r))=_;rw[Wf,Wf,Zhg s (y::r),QN]
  rfl
theorem ZbC{x y:Str}{k:Nat}(h:At x y x.length k):∃r,(tl x).drop k=tl y++r:=by
 have aQ:=h.2;rw[subAt_eq] at aQ;have e:((tl x).drop k).take y.length=tl y:=eq_of_beq aQ;exact⟨((tl x).drop k).drop y.length,by rw[<-e,Jx]⟩
theorem Zg8{x y:Str}{k:Nat}{r:List Nat}(aN:1<=(tl y).length)(h:(tl x).drop k=tl y++r):At x y x.length k:=by
 refine⟨?_,?_⟩
 .have:=congrArg List.length h;rw[Q6,Qf] at this;rw[Z1 x,Z1 y];omega
 .rw[subAt_eq];have:(List.drop k x.cps.toList).take y.length=y.cps.toList:=by
   show((tl x).drop k).take y.length=tl y;rw[h,Z1 y,JE rfl]
  rw[this];exact beq_self_eq_true _
theorem Za3(x:Str)(a b:Nat):tl (strSub x a b)=((tl x).drop a).take (b-a):=strSub_toList x a b
theorem Zc3{x y:Str}{c0:Nat}{ys:List Nat}(bt:tl y=c0::ys):∀(ps:List (List Nat))(a:Nat)(jc:List Nat)(f:Nat),ps≠[]->(tl x).drop a=jl (tl y) ps->(∀p∈ps,c0∉p)->ChainG x y x.length a jc f->(∀k,f<=k->¬At x y x.length k)->(partsFrom x y.length a jc).map tl=ps
 | [],_,_,_,a',_,_,_,_=>absurd rfl a'
 | [p],a,jc,f,_,hd,aU,aO,a6=>by
  have fZ:(tl x).drop a=p:=hd;cases jc with
  |nil=>
   show[tl (strSub x a x.length)]=[p];rw[Za3,fZ,QR (by rw[<-fZ,Q6,Z1];exact Qb _)]
  |cons c r=>
   obtain⟨q,e⟩:=ZbC aO.2.1;exfalso;apply aU p (.head _);have bh:p.drop (c-a)=tl y++q:=by rw[<-fZ,Jt,show a+(c-a)=c by have:=aO.1;omega];exact e
   have:c0∈p.drop (c-a):=by rw[bh,bt];exact .head _
   exact JC this
 |p::q::r,a,jc,f,_,hd,aU,aO,a6=>by
  have fZ:(tl x).drop a=p++(tl y++jl (tl y) (q::r)):=hd;have l1:1<=(tl y).length:=by rw[bt];simp
  have bb:(tl x).drop (a+p.length)=tl y++jl (tl y) (q::r):=by rw[<-Jt,fZ,Jo rfl]
  have f9:At x y x.length (a+p.length):=Zg8 l1 bb;cases jc with
  |nil=>exact absurd f9 (a6 _ (by have:f=a:=aO;omega))
  |cons c s=>
   obtain⟨aN,aQ,bJ,cx⟩:=aO;have wu:c<=a+p.length:=Jn λz=>bJ _ (by omega) z f9;have wv:a+p.length<=c:=Jn λz=>by
    obtain⟨ds,e⟩:=ZbC aQ;apply aU p (.head _);have bh:p.drop (c-a)++(tl y++jl (tl y) (q::r))=tl y++ds:=by
     rw[<-e,<-List.drop_append_of_le_length (by omega),<-fZ,Jt,show a+(c-a)=c by omega]
    have fD:p.drop (c-a)≠[]:=by
     intro d3;have:=congrArg List.length d3;rw[Q6] at this;simp at this;omega
    cases be:p.drop (c-a) with
    |nil=>exact absurd be fD
    |cons b bs=>
     rw[be,bt] at bh;have aJ:b=c0:=by simpa using(Jj bh).1
     have:b∈p.drop (c-a):=by rw[be];exact .head _
     rw[aJ] at this;exact JC this
   obtain rfl:c=a+p.length:=by omega
   show tl (strSub x a (a+p.length))::(partsFrom x y.length (a+p.length+y.length) s).map tl=p::q::r;rw[Za3,fZ,show a+p.length-a=p.length by omega,JE rfl];rw[Zc3 bt (q::r) (a+p.length+y.length) s f (by simp) ?_ (λz hz=>aU z (.tail _ hz)) cx a6];rw[<-Jt,bb,Z1,Jo rfl]
theorem Zh1{s:List Nat}:∀{ps:List (List Nat)},2<=ps.length->s.length<=(jl s ps).length
 | [],h=>by simp at h
 | [_],h=>by simp at h
 |x::y::r,_=>by show s.length<=(x++(s++jl s (y::r))).length;simp only[Qf];omega
theorem U3{x y:Str}{c0:Nat}{ys:List Nat}{ps:List Str}(bt:tl y=c0::ys)(aT:strKind y<=strKind x)(aV:tl x=jl (tl y) (ps.map tl))(a':ps≠[])(aU:∀p∈ps,c0∉tl p):Txt.split x y=ps:=by
 have l1:1<=y.length:=by rw[Z1,bt];simp
 obtain⟨f,li,a6⟩:=occ_tight x y l1;have eV:=Zc3 bt (ps.map tl) 0 _ f (by simpa using a') (by rw[List.drop_zero];exact aV) (λp aZ=>by obtain⟨q,be,rfl⟩:=Qy.mp aZ;exact aU q be) li a6;have inj:∀{as bs:List Str},as.map tl=bs.map tl->as=bs:=λ{as bs} h=>by
  induction as generalizing bs with
  |nil=>cases bs with
   |nil=>rfl
   |cons b bs=>simp at h
  |cons a as bF=>cases bs with
   |nil=>simp at h
   |cons b bs=>
    rw[List.map_cons,List.map_cons] at h;rw[Wc (Jj h).1,bF (Jj h).2]
 unfold Txt.split
 split
 .rename_i aO;rw[Bool.or_eq_true,decide_eq_true_eq,decide_eq_true_eq] at aO;rcases aO with aO|aO
  .have:¬2<=(ps.map tl).length:=λz=>by
    have:=Zh1 (s:=tl y) z;rw[<-aV,<-Z1,<-Z1] at this;omega
   cases ps with
   |nil=>exact absurd rfl a'
   |cons p r=>cases r with
    |nil=>rw[show x=p from Wc aV]
    |cons q r=>simp at this
  .omega
 .split
  .rename_i bn;rw[List.isEmpty_iff.mp bn] at eV;apply inj;rw[<-eV];show[tl x]=[tl (strSub x 0 x.length)];rw[sub_whole]
  .rw[partsBetween_eq];exact inj eV
noncomputable abbrev nS (n:Int):Str:=Str.ofString (toString n)
noncomputable def dgs (m:Nat):List Nat:=(Nat.toDigits 10 m).map Char.toNat
theorem Wz(m:Nat):tl (nS m)=dgs m:=PySem.W.KIN.signs_num m
theorem Wt(m:Nat):tl (nS (-((m+1:Nat):Int)))=45::dgs (m+1):=by
 have e:toString (-((m+1:Nat):Int))="-" ++Nat.repr (m+1):=rfl;unfold nS tl;rw[e,PyProof.Rows.signs_ofString,String.toList_append,QK,Nat.toList_repr]
 rfl
theorem WC(m:Nat):AllDigits (dgs m):=λc aO=>by
 obtain⟨ch,fP,e⟩:=Qy.mp aO;have r:=PyProof.Rows.digit_range (Nat.isDigit_of_mem_toDigits (by decide) (by decide) fP);rw[<-e];exact r
theorem Zbu(m:Nat):dgs m≠[]:=λe=>Nat.toDigits_ne_nil (List.map_eq_nil_iff.mp e)
theorem ZbQ{m:Nat}(h:m<10 ^ 30):(dgs m).length<=30:=by
 unfold dgs;rw[Qc];exact(Nat.length_toDigits_le_iff (by decide) (by decide)).mpr h
theorem Zag(m:Nat):digitsVal (dgs m)=m:=PySem.W.KIN.val_back m
theorem ZcM(m:Nat):dgs m=[48]\/∃c r,dgs m=c::r/\49<=c:=by
 induction m using Nat.strongRecOn with
 |_ m bF=>
  by_cases h:m<10
  .unfold dgs;rw[Nat.toDigits_of_lt_base h];have:∀d:Nat,d<10->[(Nat.digitChar d)].map Char.toNat=[48]\/∃c r,[(Nat.digitChar d)].map Char.toNat=c::r/\49<=c:=λd hd=>by
    have aN:(Nat.digitChar d).toNat=48+d:=by
     have:∀d:Nat,d<10->(Nat.digitChar d).toNat=48+d:=by decide
     exact this d hd
    by_cases ce:d=0
    .left;subst ce;rfl
    .right;exact⟨_,[],rfl,by omega⟩
   exact this m h
  .have aZ:m % 10<10:=Nat.mod_lt m (by decide);have t:Nat.toDigits 10 (m / 10)++Nat.toDigits 10 (m % 10)=Nat.toDigits 10 (10*(m / 10)+m % 10):=Nat.toDigits_append_toDigits (by decide) (by omega) aZ;rw[Nat.div_add_mod] at t
   right
   have e:dgs m=dgs (m / 10)++dgs (m % 10):=by unfold dgs;rw[<-t,QK]
   rcases bF (m / 10) (by omega) with aN|⟨c,r,aN,aQ⟩
   .have:=Zag (m / 10);rw[aN] at this;have:(0:Nat)=m / 10:=this;omega
   .exact⟨c,r++dgs (m % 10),by rw[e,aN];rfl,aQ⟩
theorem ZaV{n:Int}(h:n.natAbs<10 ^ 30):(∃m:Nat,n=m/\m<10 ^ 30)\/∃m:Nat,n= -((m+1:Nat):Int)/\m+1<10 ^ 30:=by
 by_cases ce:0<=n
 .exact .inl ⟨n.toNat,by omega,by omega⟩
 .exact .inr ⟨(-n).toNat-1,by omega,by omega⟩
theorem Yi{n:Int}(h:n.natAbs<10 ^ 30):(nS n).length<=31:=by
 rw[Z1];rcases ZaV h with⟨m,rfl,aZ⟩|⟨m,rfl,aZ⟩
 .rw[Wz];have:=ZbQ aZ;omega
 .rw[Wt,List.length_cons];have:=ZbQ aZ;omega
theorem Zdf{n:Int}{c:Nat}(h:c∈tl (nS n)):c=45\/(48<=c/\c<=57):=by
 by_cases ce:0<=n
 .obtain⟨m,rfl⟩:=Q1 ce;rw[Wz] at h;exact .inr (WC m c h)
 .obtain⟨m,rfl⟩:∃m:Nat,n= -((m+1:Nat):Int):=⟨(-n).toNat-1,by omega⟩;rw[Wt] at h;rcases Qi.mp h with h|h
  .exact .inl h
  .exact .inr (WC _ c h)
theorem WQ{n:Int}(h:n.natAbs<10 ^ 30):PySem.intText? (nS n)=some n:=by
 have aK:=Yi h;rcases ZaV h with⟨m,rfl,aZ⟩|⟨m,rfl,aZ⟩
 .have e:=intText_digits (x:=nS m) (by show AllDigits (tl (nS m));rw[Wz];exact WC m) (by show tl (nS m)≠[];rw[Wz];exact Zbu m) (by omega);rw[show(nS m).cps.toList=dgs m from Wz m,Zag] at e;exact e
 .have e:=intText_neg (x:=nS (-((m+1:Nat):Int))) (Wt m) (WC _) (Zbu _) (by omega);rw[Zag] at e;exact e
theorem YE{n:Int}(h:n.natAbs<10 ^ 30):n.natAbs.log2<1920:=by
 by_cases ce:n.natAbs=0
 .rw[ce];decide+kernel
 .exact(Nat.log2_lt ce).mpr (Qo h (by decide+kernel))
end Tx
end L2
namespace L2
open PySem PySem.Spec PyProof.Rows
namespace Rd
end Rd
end L2
namespace L2
open PySem PySem.Spec PyProof.Rows PySem.W
def kT {bv:Type} (n:Nat) (ans:Nat->Nat->Bool):KasT bv->(bv->Prop)->Prop
 | .ret a,Q=>Q a
 | .ask i j k,Q=>i<n/\j<n/\kT n ans (k (ans i j)) Q
theorem jd{bv cT:Type}{n:Nat}{ans:Nat->Nat->Bool}{f:bv->KasT cT}{Q:cT->Prop}:∀(t:KasT bv),kT n ans t (λa=>kT n ans (f a) Q)->kT n ans (t.bind f) Q
 | .ret _,h=>h
 | .ask i j k,h=>⟨h.1,h.2.1,jd (k (ans i j)) h.2.2⟩
theorem qz{bv:Type}{n:Nat}{ans:Nat->Nat->Bool}{lj:Nat->Nat->(Bool->Shared->Prop)->Shared->Prop}{s:Shared}(aO:∀i j C,i<n->j<n->C (ans i j) s->lj i j C s){Q:bv->Prop}{G:bv->Shared->Prop}(li:∀a,Q a->G a s):
  ∀(t:KasT bv),kT n ans t Q->t.kasWp lj G s
 | .ret _,h=>li _ h
 | .ask i j k,h=>aO i j _ h.1 h.2.1 (qz aO li (k (ans i j)) h.2.2)
section
variable {n:Nat}{ans:Nat->Nat->Bool}
noncomputable def gP (p:Array Nat) (k:Nat):Nat:=(p[k]?).getD 0
theorem hE(p:Array Nat)(k:Nat):p.getD k 0=gP p k:=by unfold gP;rw[Array.getD_eq_getD_getElem?]
structure dV(n:Nat)(p:Array Nat):Prop where
 out:p.Perm (List.toArray (List.range n))
theorem dV.size{p:Array Nat}(h:dV n p):p.size=n:=by have:=h.out.size_eq;simpa using this
theorem dV.lt{p:Array Nat}(h:dV n p){k:Nat}(aT:k<n):gP p k<n:=by
 have hz:k<p.size:=by rw[h.size];exact aT
 have:p[k]∈List.toArray (List.range n):=(Array.Perm.mem_iff h.out).mp (Array.getElem_mem hz);unfold gP;rw[Array.getElem?_eq_getElem hz];simpa using this
theorem dV.of{p q:Array Nat}(h:dV n p)(be:q.Perm p):dV n q:=⟨be.trans h.out⟩
def leP(ans:Nat->Nat->Bool)(a b:Nat):Prop:=ans b a=false
structure Wv(ans:Nat->Nat->Bool):Prop where
 asy:∀a b,ans a b=true->leP ans a b
 tr:∀a b c,leP ans a b->leP ans b c->leP ans a c
theorem Wv.refl(O:Wv ans)(a:Nat):leP ans a a:=by
 cases h:ans a a with
 |false=>exact h
 |true=>exact O.asy a a h
def UpP(ans:Nat->Nat->Bool)(p:Array Nat)(m:Nat):Prop:=∀i j,i<=j->j<m->leP ans (gP p i) (gP p j)
def DnP(ans:Nat->Nat->Bool)(p:Array Nat)(m:Nat):Prop:=∀i j,i<=j->j<m->leP ans (gP p j) (gP p i)
def EqP(ans:Nat->Nat->Bool)(p:Array Nat)(a m:Nat):Prop:=∀i j,a<=i->i<m->a<=j->j<m->leP ans (gP p i) (gP p j)
theorem UpP.more(O:Wv ans){p:Array Nat}{m:Nat}(h:UpP ans p m)(aN:1<=m)(aQ:leP ans (gP p (m-1)) (gP p m)):UpP ans p (m+1):=λi j fh bP=>by
 by_cases e:j<m
 .exact h i j fh e
 .obtain rfl:j=m:=by omega
  by_cases bq:i=j
  .subst bq;exact O.refl _
  .exact O.tr _ _ _ (h i (j-1) (by omega) (by omega)) aQ
theorem DnP.more(O:Wv ans){p:Array Nat}{m:Nat}(h:DnP ans p m)(aN:1<=m)(aQ:leP ans (gP p m) (gP p (m-1))):DnP ans p (m+1):=λi j fh bP=>by
 by_cases e:j<m
 .exact h i j fh e
 .obtain rfl:j=m:=by omega
  by_cases bq:i=j
  .subst bq;exact O.refl _
  .exact O.tr _ _ _ aQ (h i (j-1) (by omega) (by omega))
theorem ll{p:Array Nat}{a m:Nat}(aZ:m<=p.size)(nF:a<=m)(k:Nat):gP (kas_rev p a m) k=if a<=k/\k<m then gP p (a+m-1-k) else gP p k:=by
 unfold gP kas_rev;rw[getElem?_mirror aZ _ (by omega)]
 by_cases h:a<=k/\k<m
 .rw[if_pos h]
  by_cases h':(a<=k/\k<a+(m-a) / 2)\/(m-(m-a) / 2<=k/\k<m)
  .rw[if_pos h']
  .rw[if_neg h',show a+m-1-k=k by omega]
 .rw[if_neg h,if_neg (by omega)]
theorem j5{p:Array Nat}{a m:Nat}(h:dV n p):dV n (kas_rev p a m):=h.of (mirror_perm _ _ _ _)
theorem nG{p:Array Nat}{a m M:Nat}(p0:M<=p.size)(nF:a<=m)(aZ:m<=M)(h:DnP ans p M)(bn:EqP ans p a m):DnP ans (kas_rev p a m) M:=λi j fh bP=>by
 rw[ll (by omega) nF,ll (by omega) nF]
 by_cases aM:a<=i/\i<m
 .rw[if_pos aM]
  by_cases gf:a<=j/\j<m
  .rw[if_pos gf];exact bn _ _ (by omega) (by omega) (by omega) (by omega)
  .rw[if_neg gf];exact h _ _ (by omega) bP
 .rw[if_neg aM]
  by_cases gf:a<=j/\j<m
  .rw[if_pos gf];exact h _ _ (by omega) (by omega)
  .rw[if_neg gf];exact h _ _ fh bP
theorem ww{p:Array Nat}{m:Nat}(aZ:m<=p.size)(h:DnP ans p m):UpP ans (kas_rev p 0 m) m:=λi j fh bP=>by
 rw[ll aZ (Qn _),ll aZ (Qn _),if_pos (by omega),if_pos (by omega)];exact h _ _ (by omega) (by omega)
theorem nH(O:Wv ans){p:Array Nat}(aU:dV n p){Q:Nat->Prop}:∀(f m:Nat),1<=m->m+f<=n->UpP ans p m->(∀a9,m<=a9->a9<=m+f->UpP ans p a9->(a9<m+f->leP ans (gP p a9) (gP p (a9-1)))->Q a9)->kT n ans (kas_asc p f m) Q
 |0,m,_,_,a4,cz=>cz m (Qb _) (Qb _) a4 λh=>absurd h (by omega)
 |f+1,m,aN,aZ,a4,cz=>by
  show _/\_/\kT n ans (if ans (p.getD m 0) (p.getD (m-1) 0)=true then .ret m else kas_asc p f (m+1)) Q;rw[hE,hE];refine⟨aU.lt (by omega),aU.lt (by omega),?_⟩
  by_cases aO:ans (gP p m) (gP p (m-1))=true
  .rw[if_pos aO];exact cz m (Qb _) (by omega) a4 λ_=>O.asy _ _ aO
  .rw[if_neg aO];exact nH O aU f (m+1) (by omega) (by omega) (a4.more O aN (by simpa[leP] using aO)) λa9 a1 bY cq c6=>cz a9 (by omega) (by omega) cq λh=>c6 (by omega)
theorem lm(O:Wv ans){Q:Array Nat×Nat×Nat->Prop}:∀(f:Nat)(p:Array Nat)(m q:Nat),dV n p->q+1<=m->m+f<=n->DnP ans p m->EqP ans p (m-(q+1)) m->
  (∀cB a9 ds,dV n cB->ds+1<=a9->m<=a9->a9<=m+f->DnP ans cB a9->EqP ans cB (a9-(ds+1)) a9->Q (cB,a9,ds))->kT n ans (kas_desc f p m q) Q
 |0,p,m,q,aU,be,_,a4,bn,cz=>cz p m q aU be (Qb _) (Qb _) a4 bn
 |f+1,p,m,q,aU,be,aZ,a4,bn,cz=>by
  show _/\_/\kT n ans (if ans (p.getD m 0) (p.getD (m-1) 0)=true then(if q > 0 then kas_desc f (kas_rev p (m-(q+1)) m) (m+1) 0 else kas_desc f p (m+1) 0)
   else .ask (p.getD (m-1) 0) (p.getD m 0) λd=>if d=true then .ret (p,m,q) else kas_desc f p (m+1) (q+1)) Q
  rw[hE,hE];have hz:=aU.size;have one:∀cB:Array Nat,EqP ans cB (m+1-(0+1)) (m+1):=λcB i j a1 bY cq c6=>by
   obtain rfl:i=j:=by omega
   exact O.refl _
  refine⟨aU.lt (by omega),aU.lt (by omega),?_⟩
  by_cases aO:ans (gP p m) (gP p (m-1))=true
  .rw[if_pos aO];have qA:=a4.more O (by omega) (O.asy _ _ aO)
   by_cases ce:q > 0
   .rw[if_pos ce];exact lm O f _ (m+1) 0 (j5 aU) (by omega) (by omega) (nG (by omega) (by omega) (by omega) qA bn) (one _) λcB a9 ds a1 bY cq c6 dG dL=>cz cB a9 ds a1 bY (by omega) (by omega) dG dL
   .rw[if_neg ce];exact lm O f _ (m+1) 0 aU (by omega) (by omega) qA (one _) λcB a9 ds a1 bY cq c6 dG dL=>cz cB a9 ds a1 bY (by omega) (by omega) dG dL
  .rw[if_neg aO];refine⟨aU.lt (by omega),aU.lt (by omega),?_⟩;dsimp only
   by_cases hd:ans (gP p (m-1)) (gP p m)=true
   .rw[if_pos hd];exact cz p m q aU be (Qb _) (by omega) a4 bn
   .rw[if_neg hd];have l1:leP ans (gP p m) (gP p (m-1)):=by simpa[leP] using hd
    have l2:leP ans (gP p (m-1)) (gP p m):=by simpa[leP] using aO
    refine lm O f p (m+1) (q+1) aU (by omega) (by omega) (a4.more O (by omega) l1) (λi j a1 bY cq c6=>?_) λcB a9 ds a1 bY cq c6 dG dL=>cz cB a9 ds a1 bY (by omega) (by omega) dG dL
    by_cases aM:i=m
    .subst aM
     by_cases bP:j=i
     .subst bP;exact O.refl _
     .exact O.tr _ _ _ l1 (bn _ _ (by omega) (by omega) (by omega) (by omega))
    .by_cases bP:j=m
     .subst bP;exact O.tr _ _ _ (bn i (j-1) (by omega) (by omega) (by omega) (by omega)) l2
     .exact bn _ _ (by omega) (by omega) (by omega) (by omega)
theorem Zea(O:Wv ans){p:Array Nat}{m:Nat}{Q:Nat×Array Nat->Prop}(aU:dV n p)(aN:1<=m)(aZ:m<=n)(a4:DnP ans p m)(cz:∀a9 cB,1<=a9->a9<=n->dV n cB->UpP ans cB a9->Q (a9,cB)):kT n ans (kas_tail3 m n p) Q:=
 jd _ (nH O (j5 aU) _ _ aN (by omega) (ww (by rw[aU.size];exact aZ) a4) λa9 a1 bY cq _=>cz a9 _ (by omega) (by omega) (j5 aU) cq)
theorem Zeh(O:Wv ans){p:Array Nat}{m:Nat}{Q:Nat×Array Nat->Prop}(aU:dV n p)(aN:1<=m)(aZ:m+1<=n)(a4:DnP ans p (m+1))(cz:∀a9 cB,1<=a9->a9<=n->dV n cB->UpP ans cB a9->Q (a9,cB)):kT n ans (kas_descPart m n p) Q:=by
 refine jd _ (lm O _ p (m+1) 0 aU (by omega) (by omega) a4 (λi j a1 bY cq c6=>?_) λcB a9 ds a1 bY cq c6 dG dL=>?_)
 .obtain rfl:i=j:=by omega
  exact O.refl _
 .dsimp only
  by_cases ce:ds > 0
  .rw[if_pos ce];exact Zea O (j5 a1) (by omega) (by omega) (nG (by rw[a1.size];omega) (by omega) (Qb _) dG dL) cz
  .rw[if_neg ce];exact Zea O a1 (by omega) (by omega) dG cz
theorem wx(O:Wv ans){p:Array Nat}{Q:Nat×Array Nat->Prop}(aU:dV n p)(a':1<=n)(cz:∀a9 cB,1<=a9->a9<=n->dV n cB->UpP ans cB a9->Q (a9,cB)):kT n ans (kas_count n p) Q:=by
 refine jd _ (nH O aU _ _ (Qb 1) (by omega) (λi j fh bP=>?_) λm a1 bY cq c6=>?_)
 .obtain rfl:i=j:=by omega
  exact O.refl _
 .have hz:=aU.size
  by_cases bb:(m==n)=true
  .rw[if_pos bb];exact cz m p a1 (by omega) aU cq
  .rw[if_neg bb];have cG:m<n:=by
    have:m≠n:=by simpa using bb
    omega
   have hd:=c6 (by omega)
   by_cases bh:m > 1
   .rw[if_pos bh];show _/\_/\kT n ans (if ans (p.getD 0 0) (p.getD (m-1) 0)=true then .ret (m,p) else kas_descPart m n (kas_rev p 0 m)) Q;rw[hE,hE];refine⟨aU.lt (by omega),aU.lt (by omega),?_⟩
    by_cases aO:ans (gP p 0) (gP p (m-1))=true
    .rw[if_pos aO];exact cz m p a1 (by omega) aU cq
    .rw[if_neg aO];have nI:leP ans (gP p (m-1)) (gP p 0):=by simpa[leP] using aO
     have bn:EqP ans p 0 m:=λi j _ aM _ bP=>O.tr _ _ _ (cq i (m-1) (by omega) (by omega)) (O.tr _ _ _ nI (cq 0 j (Qn _) bP));have a4:DnP ans p (m+1):=DnP.more O (λi j _ bP=>bn _ _ (Qn _) bP (Qn _) (by omega)) a1 hd;exact Zeh O (j5 aU) a1 (by omega) (nG (by omega) (Qn _) (by omega) a4 bn) cz
   .rw[if_neg bh];obtain rfl:m=1:=by omega
    have one:DnP ans p 1:=λi j fh bP=>by
     obtain rfl:i=j:=by omega
     exact O.refl _
    exact Zeh O aU a1 (by omega) (one.more O a1 hd) cz
theorem nJ(O:Wv ans){p:Array Nat}{k:Nat}(aU:dV n p)(aT:k<n)(a4:UpP ans p k){Q:Nat->Prop}:∀(f l r:Nat),l<=r->r<=k->r-l<=f->(∀i,i<l->leP ans (gP p i) (gP p k))->(∀i,r<=i->i<k->leP ans (gP p k) (gP p i))->
  (∀ln,ln<=k->(∀i,i<ln->leP ans (gP p i) (gP p k))->(∀i,ln<=i->i<k->leP ans (gP p k) (gP p i))->Q ln)->kT n ans (kas_place p k f l r) Q
 |0,l,r,aN,aQ,bJ,aK,aR,cz=>cz l (by omega) aK λi a b=>aR i (by omega) b
 |f+1,l,r,aN,aQ,bJ,aK,aR,cz=>by
  unfold kas_place
  by_cases e:l≥r
  .rw[if_pos e];exact cz l (by omega) aK λi a b=>aR i (by omega) b
  .rw[if_neg e];show _/\_/\kT n ans (if ans (p.getD k 0) (p.getD ((l+r) / 2) 0)=true then kas_place p k f l ((l+r) / 2) else kas_place p k f ((l+r) / 2+1) r) Q;rw[hE,hE];refine⟨aU.lt aT,aU.lt (by omega),?_⟩
   by_cases aO:ans (gP p k) (gP p ((l+r) / 2))=true
   .rw[if_pos aO];exact nJ O aU aT a4 f l _ (by omega) (by omega) (by omega) aK (λi a b=>O.tr _ _ _ (O.asy _ _ aO) (a4 _ _ a b)) cz
   .rw[if_neg aO];have nI:leP ans (gP p ((l+r) / 2)) (gP p k):=by simpa[leP] using aO
    exact nJ O aU aT a4 f _ r (by omega) aQ (by omega) (λi a=>O.tr _ _ _ (a4 i _ (by omega) (by omega)) nI) aR cz
theorem qB{p:Array Nat}{k l:Nat}(aT:k<p.size)(aK:l<=k)(i:Nat):gP (bubble p k (k-l)) i=if i=l then gP p k else if l<i/\i<=k then gP p (i-1) else gP p i:=by
 unfold gP;rw[getElem?_bubble aT _ (by omega),show k-(k-l)=l by omega]
 repeat' split
 all_goals rfl
theorem Zfu(O:Wv ans){Q:Array Nat->Prop}:∀(f:Nat)(p:Array Nat)(k:Nat),dV n p->k+f=n->UpP ans p k->(∀cB,dV n cB->UpP ans cB n->Q cB)->kT n ans (kas_bin f p k) Q
 |0,p,k,aU,aT,a4,cz=>by
  obtain rfl:k=n:=by omega
  exact cz p aU a4
 |f+1,p,k,aU,aT,a4,cz=>by
  refine jd _ (nJ O aU (by omega) a4 k 0 k (Qn _) (Qb _) (by omega) (λi a=>absurd a (by omega)) (λi a b=>absurd b (by omega)) λl a1 bY cq=>?_);have hz:=aU.size;refine Zfu O f _ (k+1) (aU.of (bubble_perm _ _ _)) (by omega) (λi j fh bP=>?_) cz;rw[qB (by omega) a1,qB (by omega) a1]
  by_cases aM:i=l
  .rw[if_pos aM]
   by_cases gf:j=l
   .rw[if_pos gf];exact O.refl _
   .rw[if_neg gf,if_pos (by omega)];exact cq _ (by omega) (by omega)
  .rw[if_neg aM]
   by_cases gf:j=l
   .rw[if_pos gf,if_neg (by omega)];exact bY _ (by omega)
   .rw[if_neg gf]
    by_cases qC:l<i/\i<=k
    .rw[if_pos qC,if_pos (by omega)];exact a4 _ _ (by omega) (by omega)
    .rw[if_neg qC]
     by_cases qD:l<j/\j<=k
     .rw[if_pos qD];exact a4 _ _ (by omega) (by omega)
     .rw[if_neg qD];exact a4 _ _ fh (by omega)
theorem wy(O:Wv ans)(a':1<=n):kT n ans (kas_sort n) λp=>dV n p/\UpP ans p n:=by
 refine jd _ (wx O ⟨Array.Perm.refl _⟩ a' λm p aN aQ aU a4=>?_);show kT n ans (if m<n then kas_bin (n-max m 1) p (max m 1) else .ret p) _;have aZ:max m 1=m:=by omega
 by_cases h:m<n
 .rw[if_pos h,aZ];exact Zfu O _ p m aU (by omega) a4 λcB a b=>⟨a,b⟩
 .rw[if_neg h];obtain rfl:m=n:=by omega
  exact⟨aU,a4⟩
end
section
variable {prog:Program}{w:World}{A:Around}{E:Value->Shared->Prop}{s:Shared}
noncomputable def ej (h:Heap) (a:Addr) (vs:List Value):Heap:=((h.update a (Obj.mapSeq λ_=>#[])).push (seqObj "tuple" vs.toArray 0)).push (seqObj "list" #[] 0)
theorem ZdB{h:Heap}{a b:Addr}{vs:List Value}(aJ:b≠a)(cG:b<h.objs.size):(ej h a vs).get? b=h.get? b:=by
 unfold ej;rw[Heap.get?_push_ne _ _ _ (by rw[size_push',Heap.size_update];exact Qj (Ja cG)),Heap.get?_push_ne _ _ _ (by rw[Heap.size_update];exact Qj cG),Heap.get?_update_ne _ _ _ _ aJ]
theorem wz{a:Addr}{vs:List Value}{n:Nat}{P:PySem.Fin->Shared->Prop}{κ:SortKind}{ans:Nat->Nat->Bool}(O:Wv ans)(bf:s.heap.get? a=some (seqObj "list" vs.toArray n))(nK:vs.length<64)
  (aT:2<=vs.length->∀Q:SortKind->Shared->Prop,Q κ {s with heap:=ej s.heap a vs}->wpAny (model prog w) A (keyKind' vs.toArray) Q (λ_ _=>False) {s with heap:=ej s.heap a vs})
  (aO:2<=vs.length->∀i j (C:Bool->Shared->Prop),i<vs.length->j<vs.length->C (ans i j) {s with heap:=ej s.heap a vs}->wpAny (model prog w) A (keyLt' κ (vs.getD i Value.none) (vs.getD j Value.none)) C (λ_ _=>False) {s with heap:=ej s.heap a vs})
  (h:∀p:Array Nat,dV vs.length p->UpP ans p vs.length->P (.done (.ret .none)) {s with heap:=sortedHeap s.heap a vs (List.toArray (p.toList.map λi=>vs.getD i Value.none))}):
  wpAny (model prog w) A (Builtin.«list.sort» ⟨[.ref a],[]⟩) P E s:=by
 rw[list_sort_plain];have aS:a<s.heap.objs.size:=Heap.lt_size bf;obtain⟨bb,lp⟩:∃bb,(s.heap.update a (Obj.mapSeq λ_=>#[])).get? a=some (seqObj "list" #[] bb):=⟨_,get?_update_seq bf (λ_=>#[])⟩;have qE:(ej s.heap a vs).get? a=some (seqObj "list" #[] bb):=by
  unfold ej;rw[Heap.get?_push_ne _ _ _ (by rw[size_push',Heap.size_update];exact Qj (Ja aS)),Heap.get?_push_ne _ _ _ (by rw[Heap.size_update];exact Qj aS)];exact lp
 have k9:vs.length<=sizeLine:=by rw[sizeLine_eq];omega
 refine wpAny_bind (listItems_at bf rfl (wpAny_bind (listUpdate_at bf rfl (wpAny_bind (seqEpoch_at lp rfl (wpAny_bind (wpAny_newTuple (wpAny_bind (wpAny_newList (wpAny_holding ?_) (Qn _))) k9)))) (by rw[Qe];exact k9) (Qn _))));show wpAny (model prog w) A _ P E {s with heap:=ej s.heap a vs};dsimp only;have hsz:vs.toArray.size=vs.length:=by simp
 by_cases aQ:vs.toArray.size<2
 .rw[if_pos aQ,if_pos aQ];refine wpAny_bind (wpAny_pure ?_);rw[StateT.run_pure];refine wpAny_bind (wpAny_pure ?_);dsimp only;have bn:(arrOf (SortSt.mk' general' (vs.toArray.zip vs.toArray) #[] 7 none)).map (·.2)=List.toArray ((List.toArray (List.range vs.length)).toList.map λi=>vs.getD i Value.none):=by
   refine kat_snds (ks:=vs) rfl ?_;show vs.toArray.zip vs.toArray=_;have e:=kas_range (vs.toArray.zip vs.toArray);rw[show(vs.toArray.zip vs.toArray).size=vs.length by simp] at e;exact e.symm
  have j6:({s with heap:=ej s.heap a vs}:Shared).heap.get? a=some (seqObj "list" #[] bb):=qE;refine wpAny_bind (seqEpoch_at j6 rfl (wpAny_bind ?_));rw[bn];refine listUpdate_at j6 rfl ?_ (Qn _) (by rw[Qe,Qc];simp;omega);simp only[bne_self_eq_false,Bool.false_eq_true,if_false];refine wpAny_pure (h _ ⟨Array.Perm.refl _⟩ λi j fh bP=>?_);obtain rfl:i=j:=by omega
  exact O.refl _
 .have d2:2<=vs.length:=by omega
  rw[if_neg aQ,if_neg aQ];refine wpAny_bind (wpAny_mono (aT d2 (λnL aX=>nL=κ/\aX={s with heap:=ej s.heap a vs}) ⟨rfl,rfl⟩) (λnL aX wA=>?_) λ_ _ x=>x.elim);obtain⟨rfl,rfl⟩:=wA;have ask:(kas_sort vs.length).kasWp (kas_ask prog w A nL vs) (λp aX=>aX={s with heap:=ej s.heap a vs}/\dV vs.length p/\UpP ans p vs.length) {s with heap:=ej s.heap a vs}:=
   qz (n:=vs.length) (ans:=ans) (λi j C aM bP q=>aO d2 i j C aM bP q) (λp aU=>⟨rfl,aU⟩) _ (wy O (by omega))
  refine wpAny_bind (wpAny_mono (kat_run (Q:=λeP aX=>∃p:Array Nat,p.size=vs.length/\arrOf eP=p.map (kas_item (vs.toArray.zip vs.toArray))/\failedOf eP=none/\aX={s with heap:=ej s.heap a vs}/\dV vs.length p/\UpP ans p vs.length)
   rfl d2 nK (λcB eP aX a1 bY cq c6=>⟨cB,a1,bY,cq,c6⟩) ask) ?_ λ_ _ e=>e)
  rintro⟨⟨⟩,eP⟩ aX ⟨p,aU,wB,a6,rfl,br,hu⟩;dsimp only;have j6:({s with heap:=ej s.heap a vs}:Shared).heap.get? a=some (seqObj "list" #[] bb):=qE;refine wpAny_bind (seqEpoch_at j6 rfl (wpAny_bind ?_));rw[kat_snds (ks:=vs) rfl wB];refine listUpdate_at j6 rfl ?_ (Qn _) (by rw[Qe,Qc,Jd,aU];omega);rw[a6];simp only[bne_self_eq_false,Bool.false_eq_true,if_false];exact wpAny_pure (h p br hu)
end
noncomputable def Z8:List Int->List Int->Bool
 |x::xs,y::ys=>if x=y then Z8 xs ys else decide (x<y)
 |_,_=>false
theorem qF:∀a b:List Int,Z8 a b=true->Z8 b a=false
 | [],_,h=>by cases h
 |_::_,[],h=>by cases h
 |x::xs,y::ys,h=>by
  unfold Z8 at h|-
  by_cases e:x=y
  .rw[if_pos e] at h;rw[if_pos e.symm];exact qF xs ys h
  .rw[if_neg e] at h;rw[if_neg λz=>e z.symm];have:=of_decide_eq_true h;exact decide_eq_false (by omega)
theorem qG:∀a b c:List Int,a.length=b.length->b.length=c.length->Z8 b a=false->Z8 c b=false->Z8 c a=false
 | [],[],[],_,_,_,_=>rfl
 |x::xs,y::ys,z::zs,aN,aQ,aS,aJ=>by
  unfold Z8 at aS aJ|-
  by_cases e:y=x
  .rw[if_pos e] at aS;subst e
   by_cases bq:z=y
   .rw[if_pos bq] at aJ|-;exact qG xs ys zs (by simpa using aN) (by simpa using aQ) aS aJ
   .rw[if_neg bq] at aJ|-;exact aJ
  .rw[if_neg e] at aS;have l1:=of_decide_eq_false aS
   by_cases bq:z=y
   .subst bq;rw[if_neg e];exact aS
   .rw[if_neg bq] at aJ;have l2:=of_decide_eq_false aJ;rw[if_neg (by omega)];exact decide_eq_false (by omega)
theorem qH:∀a b:List Int,a.length=b.length->Z8 a b=false->Z8 b a=false->a=b
 | [],[],_,_,_=>rfl
 |x::xs,y::ys,h,aS,aJ=>by
  unfold Z8 at aS aJ
  by_cases e:x=y
  .rw[if_pos e] at aS;rw[if_pos e.symm] at aJ;rw[e,qH xs ys (by simpa using h) aS aJ]
  .rw[if_neg e] at aS;rw[if_neg λz=>e z.symm] at aJ;have:=of_decide_eq_false aS;have:=of_decide_eq_false aJ;omega
section
variable {prog:Program}{w:World}{A:Around}{E:Value->Shared->Prop}{s:Shared}
theorem qI{b:Bool}{Q:Bool->Shared->Prop}:∀(t u:List Int)(xs ys:List Value)(i:Nat),bD (t.map V.int) xs->bD (u.map V.int) ys->t.length=u.length->Q (Z8 t u) s->KatLex prog w A b false Q (xs.zip ys) i s
 | [],[],_,_,i,a8,bj,_,q=>by cases a8;cases bj;exact kat_nil q
 |x::t,y::u,_,_,i,a8,bj,aK,q=>by
  cases a8 with
  |cons bK cp=>
   cases bj with
   |cons bQ cQ=>
    obtain⟨kX,rfl⟩:=bK;obtain⟨ty,rfl⟩:=bQ;refine kat_cons (wpAny_eqBool_int ?_);unfold Z8 at q
    by_cases e:x=y
    .rw[if_pos e] at q;rw[show(x==y)=true by simpa using e];exact kat_yes (qI t u _ _ _ cp cQ (by simpa using aK) q)
    .rw[if_neg e] at q;rw[show(x==y)=false by simpa using e];refine kat_no ?_;cases b&&i==0 with
     |true=>exact oneLt_int q
     |false=>exact kat_one _ _ (lt_int q)
end
def Zgc (K:Frag) (H:Hp) (m:Nat):List V->List (List Int)->Prop:=Paired λv t=>∃q,v= .ref q/\SqT K H q (t.map V.int)/\t.length=m
section
variable {X:Cx}
def qJ (K:Frag):List V->Hp->VK->Prop:=λxs H Q=>∃(a:Addr)(vs:List V)(ts:List (List Int))(m:Nat),xs=[V.ref a]/\SqL K H a vs/\Zgc K H m vs ts/\0<m/\vs.length<64/\
 ∀(l:Addr)(p:List Nat),H l=none->p.Perm (List.range vs.length)->(p.map λi=>ts.getD i []).Pairwise (λx y=>Z8 y x=false)->Q (.ref l) (upd H l (.lst (p.map λi=>vs.getD i .non)))
theorem YR{bv cT:Type}{P:bv->cT->Prop}:∀{xs:List bv}{ys:List cT}{i:Nat},Paired P xs ys->i<xs.length->∃x y,xs[i]? =some x/\ys[i]? =some y/\P x y
 |_::_,_::_,0,.cons h _,_=>⟨_,_,rfl,rfl,h⟩
 |_::_,_::_,i+1,.cons _ r,aM=>by simpa using YR (i:=i) r (by simpa using aM)
theorem Zeo{h:Heap}{vs:List Value}(bO:∀v∈vs,∃a o xs n f,v= .ref a/\h.get? a=some o/\o.cls= .type "tuple" /\o.data= .seq xs n/\xs[0]? =some f/\∃z t,f= .int z t):∃fs,KatTups h vs fs/\fs.length=vs.length/\∀f∈fs,∃z t,f=Value.int z t:=by
 induction vs with
 |nil=>exact⟨[],.nil,rfl,λ_ z=>by cases z⟩
 |cons v r bF=>
  obtain⟨fs,aN,aQ,bJ⟩:=bF λu hu=>bO u (.tail _ hu);obtain⟨a,o,xs,n,f,rfl,bb,bh,di,eB,z⟩:=bO v (.head _);exact⟨f::fs,.cons bb bh di eB aN,by simp[aQ],λg br=>by rcases Qi.mp br with rfl|br;exact z;exact bJ g br⟩
theorem qK{K:Frag}(dP:X.K=K):Yk X (.builtin "sorted") (qJ K):=by
 subst dP;intro aI s ao H xs us Q I r h;obtain⟨a,vs,ts,m,rfl,aS,bL,aZ,nK,q⟩:=h;obtain⟨u,rfl,dt⟩:=Wa r;cases dt;obtain⟨its,b2,pl,hz⟩:=I.list aS;have aK:its.length=vs.length:=b2.length.symm;have cG:ts.length=vs.length:=bL.length.symm;obtain⟨o,bf,dF,n,wC⟩:=pl.isList;have item:∀i,i<vs.length->∃(b:Addr)(bE:Obj)(zs:List Value)(iq:Nat)(t:List Int),vs[i]? =some (.ref b)/\its[i]? =some (.ref b)/\ts[i]? =some t/\s.heap.get? b=some bE/\bE.cls= .type "tuple" /\bE.data= .seq zs.toArray iq/\bD (t.map V.int) zs/\t.length=m:=λi aM=>by
  obtain⟨v,t,bb,bh,b,rfl,aJ,cU⟩:=YR bL aM;obtain⟨iK,u,di,eB,aR⟩:=YR b2 aM;rw[bb] at di;cases di;cases aR;obtain⟨zs,nM,⟨bE,g1,g2,iq,g3⟩,_⟩:=I.tuple aJ;exact⟨b,bE,zs,iq,t,bb,eB,bh,g1,g2,g3,nM,cU⟩
 refine Calls.call_function_entry kind_sorted plain_sorted entry_sorted (args_sorted1 _) ?_;unfold Builtin.«sorted»;refine wpAny_bind (m:=checkCount "sorted" 1 1 _) (wpAny_pure ?_);refine wpAny_bind (wpAny_collect_seq a (.inl rfl) bf dF wC (λh' aT=>?_) (by rw[Qe,aK];exact hz));rw[List.toList_toArray];refine wpAny_bind (wpAny_newList ?_ (by rw[aK];exact hz));have jt:(h'.push (seqObj "list" its.toArray 0)).get? h'.objs.size=some (seqObj "list" its.toArray 0):=Heap.get?_push_size _ rfl;have a_:Inv X aI ao H {s with heap:=h'}:=I.kept aT
 let bN:Nat->List Int:=λi=>ts.getD i (List.replicate m 0)
 have lq:∀i,(bN i).length=m:=λi=>by
  show(ts.getD i (List.replicate m 0)).length=m
  by_cases aM:i<vs.length
  .obtain⟨_,_,_,_,t,_,_,e,_,_,_,_,cU⟩:=item i aM;rw[Qd,e];exact cU
  .rw[Qd,List.getElem?_eq_none (by omega)];simp
 have O:Wv (λi j=>Z8 (bN i) (bN j)):=⟨λi j e=>qF _ _ e,λi j k bb bh=>qG _ _ _ ((lq i).trans (lq j).symm) ((lq j).trans (lq k).symm) bb bh⟩;have mid:∀b bE,s.heap.get? b=some bE->(ej (h'.push (seqObj "list" its.toArray 0)) h'.objs.size its).get? b=some bE:=λb bE e=>by
  have bq:=aT b bE e;have aJ:=Heap.lt_size bq;rw[ZdB (Qj aJ) (by rw[size_push'];exact Ja aJ)];exact Heap.get?_push_of_some _ bq
 refine wpAny_bind (wpAny_holding (wpAny_call_entry slot_list_sort ⟨_,jt,rfl⟩ entry_list_sort (wz (κ:=tuples' true) O jt (by rw[aK];exact nK) (λaQ jv be=>?kind) (λaQ i j C aM bP be=>?lj) λp br hu=>⟨_,rfl,?fin⟩) (args_list_sort _)))
 case kind=>
  obtain⟨fs,k1,k2,k3⟩:=Zeo (h:=ej (h'.push (seqObj "list" its.toArray 0)) h'.objs.size its) (vs:=its) λv bO=>by
   obtain⟨i,aM,rfl⟩:=Jf bO;obtain⟨b,bE,zs,iq,t,_,eB,_,g1,g2,g3,nM,cU⟩:=item i (by omega);rw[Qa aM] at eB;cases t with
   |nil=>simp at cU;omega
   |cons x t=>
    cases nM with
    |cons bK cp=>
     obtain⟨kX,rfl⟩:=bK;exact⟨b,bE,_,iq,_,Qt eB,mid b bE g1,g2,g3,rfl,x,kX,rfl⟩
  refine kat_kind (T:= .type "int") (s:={s with heap:=ej (h'.push (seqObj "list" its.toArray 0)) h'.objs.size its}) k1 (by omega) (λv bO=>?_) rfl be;obtain⟨z,t,rfl⟩:=k3 v bO;exact λA Q E s _ q=>wpAny_pure q
 case lj=>
  obtain⟨b1,fG,cv,fg,t1,_,fa,hT,bb,f1,g1,bK,l1⟩:=item i (by omega);obtain⟨hD,gO,cw,et,fH,_,fb,nA,bh,f2,g2,cp,l2⟩:=item j (by omega);have fR:C (Z8 t1 fH) {s with heap:=ej (h'.push (seqObj "list" its.toArray 0)) h'.objs.size its}:=by
   have:=be;simp only[bN,Qd,hT,nA] at this;exact this
  rw[Qd,Qd,fa,fb];refine kat_lt (s:={s with heap:=ej (h'.push (seqObj "list" its.toArray 0)) h'.objs.size its}) (mid b1 fG bb) g1 (mid hD gO bh) g2 ?_;have lb:=bK.length;have lf:=cp.length;rw[Qc] at lb lf;rw[show decide (cv.toArray.size<cw.toArray.size)=false from decide_eq_false (by simp only[Qe];omega)];exact qI t1 fH cv cw 0 bK cp (by omega) fR
 case fin=>
  refine wpAny_pure ⟨_,rfl,?_⟩;obtain⟨e,bn⟩:=sortedHeap_at (out:=List.toArray (p.toList.map λi=>its.getD i Value.none)) jt;rw[aK] at br hu;have dQ:p.toList.Perm (List.range vs.length):=by have:=br.out;simpa[Array.perm_iff_toList_perm] using this
  have cU:p.toList.length=vs.length:=by have:=dQ.length_eq;simpa using this
  refine⟨.ref h'.objs.size,_,a_.laid (a:=h'.objs.size) (o:= .lst (p.toList.map λi=>vs.getD i .non)) (t':=s.toks) (λb o qL=>?_) (Qb _) ⟨by rw[Qc,cU];exact hz,_,e,?_,bn⟩,rfl,q _ p.toList (a_.hok.fresh (Qb _)) dQ ?_⟩
  .have cG:=Heap.lt_size qL;rw[sortedHeap_old (Qj cG) (by rw[size_push'];exact Ja cG)];exact Heap.get?_push_of_some _ qL
  .refine nt (by simp) λj v u bb bh=>?_;rw[QA] at bb bh;cases bP:p.toList[j]? with
   |none=>rw[bP] at bb;cases bb
   |some i=>
    rw[bP] at bb bh;have aM:i<vs.length:=by simpa using dQ.mem_iff.mp (Qv bP)
    obtain⟨iK,hR,fa,fb,aR⟩:=YR b2 aM;simp only[Option.map_some,Qd,fa,fb,Option.getD_some,Option.some.injEq] at bb bh;subst bb bh;exact aR
  .rw[List.pairwise_iff_getElem];intro i j aM bP fh;simp only[Qc] at aM bP;have qM:∀k (aT:k<p.toList.length),gP p k=p.toList[k]:=λk aT=>by
    unfold gP;rw[Array.getElem?_eq_getElem (by simpa using aT)];simp
   have:=hu i j (by omega) (by omega);rw[qM i aM,qM j bP] at this;have dw:∀k (aT:k<p.toList.length),p.toList[k]<vs.length:=λk aT=>by simpa using dQ.mem_iff.mp (Qm aT)
   have qN:∀k,k<vs.length->bN k=ts.getD k []:=λk aT=>by
    show ts.getD k (List.replicate m 0)=_;rw[Qd,Qd,Qa (by omega)];rfl
   simp only[List.getElem_map];rw[<-qN _ (dw i aM),<-qN _ (dw j bP)];exact this
end
namespace Rd
theorem Zhb{K:Frag}{H:Hp}{Q:VK}{a:Addr}{vs:List V}{ts:List (List Int)}{m:Nat}(h:SqL K H a vs)(bL:Zgc K H m vs ts)(aZ:0<m)(aK:vs.length<64)
  (q:∀(l:Addr)(p:List Nat),H l=none->p.Perm (List.range vs.length)->(p.map λi=>ts.getD i []).Pairwise (λx y=>Z8 y x=false)->Q (.ref l) (upd H l (.lst (p.map λi=>vs.getD i .non)))):qJ K [V.ref a] H Q:=⟨a,vs,ts,m,rfl,h,bL,aZ,aK,q⟩
end Rd
end L2
namespace L2
open PySem PySem.Spec PyProof.Rows PySem.SeqAt PySem.MeetsSeq
theorem Ze3(l:Addr)(ca:Array Value)(n:Nat)(x:Value)(e:Nat->Bool)(j:Nat)(bP:j<ca.size)(j7:e j=true)(k:Nat)(je:ca.size<=sizeLine):
  ∀i:Nat,j-i=k->i<=j->(∀m,i<=m->m<j->e m=false)->Meets (Builtin.«list.remove.loop» ⟨[.ref l,x,rawInt i],[]⟩)
   (λA R s=>s.heap.get? l=some {cls:= .type "list",dict:=none,data:= .seq ca n,slots:=#[]}/\(∀m (aZ:m<ca.size),EqAt A.in1 s ca[m] x (e m))/\R (.ok (.ret .none)) {s with heap:=s.heap.update l (Obj.mapSeq λxs=>xs.eraseIdxIfInBounds j)}):=by
 induction k with
 |zero=>
  intro i aT fh f6 prog w A R s h;obtain⟨aU,g,d,cX,os⟩:=s;obtain⟨aK,bn,h⟩:=h;obtain rfl:i=j:=by omega
  wp_walk using wpAny_loadPart' aK
  rw[show ca[((i:Nat):Int).toNat]? =some ca[i] by simp[bP]];refine wpAny_bind (bn i bP prog w _ _ ?_);rw[j7];have io:(ca.eraseIdxIfInBounds i).size<=sizeLine+1:=Qu (size_erased ca _) (Nat.le_succ_of_le je)
  wp_walk using(wpAny_updateSeq aK rfl (hz:=je) (_hz':=io)),wpAny_loadPart' aK
  simpa using h
 |succ k bF=>
  intro i aT fh f6 prog w A R s h;obtain⟨aU,g,d,cX,os⟩:=s;obtain⟨aK,bn,h⟩:=h;have cG:i<ca.size:=by omega
  wp_walk using wpAny_loadPart' aK
  rw[show ca[((i:Nat):Int).toNat]? =some ca[i] by simp[cG]];refine wpAny_bind (bn i cG prog w _ _ ?_);rw[f6 i (Qb _) (by omega)]
  wp_walk
  rw[show((i:Int)+1)=((i+1:Nat):Int) by push_cast;rfl];exact⟨plainId_quiet plain_remove_loop _,codeAny_builtin entry_remove_loop (by
   rw[Around.under_plainId plain_remove_loop _];exact bF (i+1) (by omega) (by omega) (λm aN aQ=>f6 m (by omega) aQ) prog w A R _ ⟨aK,bn,h⟩)⟩
theorem wD(l:Addr)(ca:Array Value)(n:Nat)(x:Value)(e:Nat->Bool)(j:Nat)(bP:j<ca.size)(j7:e j=true)(f6:∀m,m<j->e m=false)(je:ca.size<=sizeLine):Meets (Builtin.«list.remove» ⟨[.ref l,x],[]⟩)
   (λA R s=>s.heap.get? l=some {cls:= .type "list",dict:=none,data:= .seq ca n,slots:=#[]}/\(∀m (aZ:m<ca.size),EqAt A.in1 s ca[m] x (e m))/\R (.ok (.ret .none)) {s with heap:=s.heap.update l (Obj.mapSeq λxs=>xs.eraseIdxIfInBounds j)}):=by
 intro prog w A R s h;obtain⟨aU,g,d,cX,os⟩:=s;obtain⟨aK,bn,h⟩:=h
 wp_walk using wpAny_loadPart' aK
 exact⟨plainId_quiet plain_remove_loop _,codeAny_builtin entry_remove_loop (by
  rw[Around.under_plainId plain_remove_loop _];exact Ze3 l ca n x e j bP j7 _ je 0 rfl (Qn _) (λm _ aQ=>f6 m aQ) prog w A R _ ⟨aK,bn,h⟩)⟩
section
variable {X:Cx}
def wE (K:Frag):V->List V->Hp->VK->Prop:=λx vs H Q=>∃(l:Addr)(xs:List V)(y:V)(dr:PyData)(cm:List PyData)(k:Nat),x= .ref l/\vs=[y]/\H l=some (.lst xs)/\ev K H y dr/\DRels K H xs cm/\dr.canLay0=true/\
 PyData.canLayAll0 cm=true/\dr.depth<=60/\k<xs.length/\PyData.eqv (cm.getD k .none) dr=true/\(∀m,m<k->PyData.eqv (cm.getD m .none) dr=false)/\Q .non (upd H l (.lst (xs.eraseIdx k)))
theorem ZaE{h:Heap}:∀{vs:List Value}{cm:List PyData}{as:List Addr},ReadsAll h vs cm as->∀m (aZ:m<vs.length),∃bs,Reads h vs[m] (cm.getD m .none) bs/\cm.getD m .none∈cm
 |_,_,_,.nil,m,aZ=>absurd aZ (Nat.not_lt_zero _)
 |_,_,_,.cons r a2,0,_=>⟨_,r,.head _⟩
 |_,_,_,.cons r a2,m+1,aZ=>by
  obtain⟨bs,aN,aQ⟩:=ZaE a2 m (by simpa using aZ);exact⟨bs,by simpa using aN,by simpa using QH _ aQ⟩
theorem qO:∀{cm:List PyData}{d:PyData},PyData.canLayAll0 cm=true->d∈cm->d.canLay0=true
 | [],_,_,h=>by cases h
 |e::cm,d,aO,h=>by
  rw[PyData.canLayAll0,Qz] at aO;rcases Qi.mp h with rfl|h
  .exact aO.1
  .exact qO aO.2 h
theorem wF{K:Frag}(dP:X.K=K)(hu:X.A.units+64<cLine):MtM X "list.remove" (wE K):=by
 subst dP;intro aI s ao H x vs v us Q I a8 b2 h;obtain⟨l,xs,y,dr,cm,k,rfl,rfl,eu,bt,g_,fa,fb,dp,aT,j7,f6,q⟩:=h;cases a8;obtain⟨u,rfl,dt⟩:=b2.one;obtain⟨z,its,n,r,aK,e⟩:=I.lstM eu;obtain⟨as,bj⟩:=bt.reads I dt;obtain⟨bs,wG⟩:=g_.reads I r;refine call_meets F.slot_list_remove ⟨_,e,rfl⟩ F.entry_list_remove (F.args_list_remove_2 _ _) (wD l its.toArray n u (λm=>PyData.eqv (cm.getD m .none) dr) k (by rw[Qe,<-aK];exact aT) j7 f6 (by rw[Qe];omega)) ⟨e,λm aZ=>?_,?_⟩
 .obtain⟨lr,aN,aQ⟩:=ZaE wG m (by simpa using aZ);have:=eqAt_reads _ dr X.A.in1 s _ u lr as aN bj (qO fb aQ) fa (by have:min (cm.getD m .none).depth dr.depth<=dr.depth:=Nat.min_le_right _ _;have e:X.A.in1.units=X.A.units+1:=rfl;rw[e];omega);simpa using this
 .refine⟨.non,_,I.lset (its':=its.eraseIdx k) eu e ?_ (r.eraseIdx k) ?_,rfl,q⟩
  .show its.toArray.eraseIdxIfInBounds k=(its.eraseIdx k).toArray;rw[List.eraseIdxIfInBounds_toArray]
  .have:=pV xs k;omega
end
end L2
namespace L2
open PySem PySem.Spec PySem.W PyProof.Rows Builtin Builtin.ObjectAttr Builtin.Getset_descriptor
def Zbc(x C:Addr)(h:Heap):Prop:=∃o,h.get? x=some o/\o.cls= .ref C
theorem Zbc.type{M:Model}{h:Heap}{x C:Addr}(I:Zbc x C h):Looks M h (typeOf (.ref x)) (.ref C):=by
 obtain⟨o,aN,aQ⟩:=I;exact aQ▸(Looks.ld aN).andThen .now
end L2
namespace L2
open PySem PySem.Spec PyProof.Rows
namespace Rd
end Rd
end L2
namespace L2
open PySem PySem.Spec PySem.W PyProof.Rows
namespace Rd
end Rd
end L2
namespace L2
open PySem PySem.Spec PySem.W PyProof.Rows
theorem wH{x C:Addr}:Answers (λs=>Zbc x C s.heap) (.ref x) (.ref C) true:=by
 intro Be cX prog w A R s a4;obtain⟨ce,g,d,gg,os⟩:=s;obtain⟨p,be⟩:=a4;have LT:=Zbc.type (M:=model prog w) p;unfold Builtin.«isinstance.nested»;refine wpAny_bind (LT.at ?_);rw[if_pos (beq_self_eq_true _)]
 first
  |exact wpAny_bind (wpAny_rule (be gg))
  |exact wpAny_bind (wpAny_rule (wpAny_pure (be gg)))
  |exact be gg
  |exact wpAny_pure (be gg)
section
variable {X:Cx}
def rIsI:List V->Hp->VK->Prop:=λxs H Q=>∃(x C a3:Addr)(fs:List (Str×V)),xs=[.ref x,.ref C]/\H x=some (.ins C a3 fs)/\Q (.bl true) H
theorem wI:Yk X (.builtin "isinstance") rIsI:=by
 intro aI s ao H xs us Q I r h;obtain⟨x,C,a3,fs,rfl,aV,q⟩:=h;obtain⟨u,v,rfl,dt,b2⟩:=r.two;cases dt;cases b2;obtain⟨_,_,_,bE,_⟩:=(show ZQ X.prog X.w H s.heap x (.ins C a3 fs) from I.hok x _ aV);exact call_isinstance (S:=λ_ R s=>Zbc x C s.heap/\∀cX,R (.ok (.ret (.bool true))) {s with toks:=cX})
  (λprog w A R s a4=>isinstance_outer (wH 0 _ prog w A R s a4) (λz=>nomatch z)) ⟨⟨_,bE,rfl⟩,λcX=>⟨.bl true,H,I.tok cX,rfl,q⟩⟩
end
namespace Rd
theorem isI{H:Hp}{Q:VK}{x C a3:Addr}{fs:List (Str×V)}(h:H x=some (.ins C a3 fs))(q:Q (.bl true) H):rIsI [.ref x,.ref C] H Q:=⟨x,C,a3,fs,rfl,h,q⟩
end Rd
end L2
namespace My
end My
set_option Elab.async false
set_option linter.all false
set_option maxRecDepth 100000
set_option maxHeartbeats 4000000
local macro_rules| `(tactic|omega)=>`(tactic|with_reducible first|exact Int.natCast_nonneg _|exact L2.oA (by assumption) (by assumption)|exact L2.oB (by assumption) (by assumption) rfl|exact L2.oC (by assumption) (by assumption) rfl|exact L2.oD (by assumption) rfl|exact L2.oE (by assumption) (by assumption)|exact L2.oF (by assumption)|lia|fail)
local macro_rules| `(tactic|walk_at "mul")=>`(tactic|k_dflt (first|with_reducible assumption|exact L2.Ze6.ok (Or.inr ⟨by omega,by omega⟩)|exact L2.Ze6.ok (Or.inl ⟨by omega,by omega⟩)))
local macro_rules| `(tactic|walk_at "lk")=>`(tactic|first|exact L2.Rd.lk0|exact L2.Rd.lkN|(refine L2.Rd.lk1 (by decide+kernel) ?_;walk_at "lk"))
local macro_rules| `(tactic|walk_at "pf")=>`(tactic|first|exact L2.Rd.pfN|(apply L2.Rd.pf1;(decide+kernel);walk_at "pf"))
local macro_rules| `(tactic|walk_at "na")=>`(tactic|exact L2.WM.get (by with_reducible assumption) (by decide+kernel))
local macro_rules| `(tactic|walk_at "cond")=>`(tactic|k_dflt (first|with_reducible assumption|decide|omega|(simp;done)|(simp only[List.length_cons,List.length_nil,Qc,Qf];omega)))
local macro_rules| `(tactic|walk_at "rdis")=>`(tactic|((with_reducible show ∃x n t b,_=_/\L2.YI _ _ x t/\_);first|with_reducible apply L2.Rd.ZeR|with_reducible apply L2.Rd.ZdQ|with_reducible apply L2.Rd.is_int_str|with_reducible apply L2.Rd.is_int_list|with_reducible apply L2.Rd.is_int_tuple|with_reducible apply L2.Rd.is_int_dict|with_reducible apply L2.Rd.is_bl_int|with_reducible apply L2.Rd.is_bl_bool|with_reducible apply L2.Rd.is_bl_str|with_reducible apply L2.Rd.is_bl_list|with_reducible apply L2.Rd.is_bl_tuple|with_reducible apply L2.Rd.is_bl_dict|with_reducible apply L2.Rd.is_str_int|with_reducible apply L2.Rd.is_str_bool|with_reducible apply L2.Rd.Zes|with_reducible apply L2.Rd.is_str_list|with_reducible apply L2.Rd.is_str_tuple|with_reducible apply L2.Rd.is_str_dict|with_reducible apply L2.Rd.is_non_int|with_reducible apply L2.Rd.is_non_bool|with_reducible apply L2.Rd.is_non_str|with_reducible apply L2.Rd.is_non_list|with_reducible apply L2.Rd.is_non_tuple|with_reducible apply L2.Rd.is_non_dict|with_reducible refine L2.Rd.is_lst_int (by with_reducible assumption) ?_|with_reducible refine L2.Rd.is_lst_bool (by with_reducible assumption) ?_|with_reducible refine L2.Rd.is_lst_str (by with_reducible assumption) ?_|with_reducible refine L2.Rd.ZdR (by with_reducible assumption) ?_|with_reducible refine L2.Rd.is_lst_tuple (by with_reducible assumption) ?_|with_reducible refine L2.Rd.is_lst_dict (by with_reducible assumption) ?_|with_reducible refine L2.Rd.is_tup_int (by with_reducible assumption) ?_|with_reducible refine L2.Rd.is_tup_bool (by with_reducible assumption) ?_|with_reducible refine L2.Rd.is_tup_str (by with_reducible assumption) ?_|with_reducible refine L2.Rd.is_tup_list (by with_reducible assumption) ?_|with_reducible refine L2.Rd.ZdA (by with_reducible assumption) ?_|with_reducible refine L2.Rd.is_tup_dict (by with_reducible assumption) ?_|with_reducible refine L2.Rd.is_dK_int (by with_reducible assumption) ?_|with_reducible refine L2.Rd.is_dK_bool (by with_reducible assumption) ?_|with_reducible refine L2.Rd.is_dK_str (by with_reducible assumption) ?_|with_reducible refine L2.Rd.is_dK_list (by with_reducible assumption) ?_|with_reducible refine L2.Rd.is_dK_tuple (by with_reducible assumption) ?_|with_reducible refine L2.Rd.is_dK_dict (by with_reducible assumption) ?_))
local macro_rules| `(tactic|walk_at "side")=>`(tactic|k_dflt (first|with_reducible assumption|decide|(dsimp only;decide)|(dsimp only[L2.Zid];decide)|omega|(dsimp only;omega)))
local macro_rules| `(tactic|walk_at "hp")=>`(tactic|with_reducible (first|assumption|((show L2.SqL _ _ _ _);(first|exact L2.SqL.of (by assumption)|exact L2.OffL.sq (by assumption)|exact L2.Ze.seq (by assumption) (by assumption)))|((show L2.SqT _ _ _ _);(first|exact L2.SqT.of (by assumption)|exact L2.OffT.sq (by assumption)|exact L2.Ze.seqT (by assumption) (by assumption)))))
local macro_rules| `(tactic|walk_at "rd")=>`(tactic|first|with_reducible (first|apply L2.Rd.seq|apply L2.Rd.asg|apply L2.Rd.ret|apply L2.Rd.ifs|apply L2.Rd.next|apply L2.Rd.drop|apply L2.Rd.op|apply L2.Rd.Zkh|apply L2.Rd.con|(show L2.ZbM _ _ _ _;refine L2.Rd.var (by k_dflt rfl) ?_)|(show L2.Vb _ _ _ _ _;refine L2.Rd.Zjh (by k_dflt (dsimp only[L2.start,List.map_cons,List.map_nil,List.cons_append,List.nil_append,List.length_cons,List.length_nil,Nat.reduceAdd,Nat.reduceSub,List.replicate,List.set];(try rfl))) ?_)|apply L2.Rd.call|apply L2.Rd.cons|apply L2.Rd.nil|apply L2.Rd.cb|apply L2.Rd.tup|apply L2.Rd.lst|apply L2.Rd.ZjT|apply L2.Rd.or_|apply L2.Rd.Zkf|apply L2.Rd.ZjP|apply L2.Rd.orV|apply L2.Rd.ZjM|apply L2.Rd.i0|(show L2.rI _ _ _ _ _ _;refine L2.Rd.iC (by walk_at "side") ?_)|apply L2.Rd.bl|apply L2.Rd.Zj5|(show L2.rOr L2.Zet _ _ _ _ _;refine L2.Rd.Zkp (by walk_at "mul") ?_)|apply L2.Rd.Zj4|apply L2.Rd.ZjX|apply L2.Rd.Zke|apply L2.Rd.Zki|(show L2.rOr _ (L2.rOr L2.Zbi _) (L2.V.str _) (L2.V.str _) _ _;refine L2.Rd.ZgE (by walk_at "side") ?_)|(show L2.rIx _ _ _ _ _;refine L2.Rd.Ziu (by walk_at "hp") (by k_dflt rfl) ?_)|(show L2.rIx _ _ _ _ _;refine L2.Rd.Zkn (by walk_at "hp") (by k_dflt (first|rfl|with_reducible assumption)) ?_)|(show ∃a,L2.V.ref _=L2.V.ref a/\(∃xs,L2.SqL _ _ a xs)/\_;refine L2.Rd.ZiJ (by walk_at "hp") ?_)|(show ∃k,[L2.V.int _]=[L2.V.int k]/\_;refine L2.Rd.Zjj (by k_dflt omega) (by k_dflt omega) ?_)|(show ∃x n,_=_/\L2.V3 _ x _ n/\_;refine L2.Rd.Zjs (by walk_at "hp") ?_)|(show ∃x n,_=_/\L2.V3 _ x _ n/\_;refine L2.Rd.Zkj (by walk_at "hp") ?_)|(show ∃x n,_=_/\L2.V3 _ x _ n/\_;refine L2.Rd.lenS (by walk_at "side") ?_))|walk_at "rdis" |with_reducible (first|apply L2.Rd.Zkk|apply L2.Rd.tru|apply L2.Rd.Zks|apply L2.Rd.Zka|apply L2.Rd.Zj7|apply L2.Rd.bm|apply L2.Rd.bm0|(show L2.tyV _ _ _ _/\_;refine L2.Rd.tyl (by with_reducible assumption) ?_)|(show L2.rAppend _ _ _ _;refine L2.Rd.app (by with_reducible assumption) (by walk_at "side") ?_)|apply L2.Zel|apply L2.Zda|apply L2.Rd.Zhf|apply L2.Rd.Zha|(show if decide _=true then _ else _;refine L2.Rd.ifP (by walk_at "cond") ?_)|(show if decide _=true then _ else _;refine L2.Rd.ifN (by walk_at "cond") ?_)|(show if(!decide _)=true then _ else _;refine L2.Rd.Zkl (by walk_at "cond") ?_)|apply L2.Rd.sl|apply L2.Rd.Zif|apply L2.Rd.Zkr|apply L2.Rd.Zjr|(show L2.ZcP _ _ _ _ _ _;refine L2.Rd.slS (by walk_at "side") ?_)|apply L2.Rd.Zkm|(show ∃a C a3 fs v,L2.V.ref _=L2.V.ref a/\_=some (L2.HO.ins C a3 fs)/\L2.Cls _ C/\_;refine L2.Rd.fld (by with_reducible assumption) (by with_reducible assumption) (by k_dflt (walk_at "na")) (by k_dflt (walk_at "lk")) ?_)|apply L2.Rd.ZjZ|apply L2.Rd.Zjl|apply L2.Rd.Zjd|apply L2.Rd.Zkg|(show ∃a C a3 fs,L2.V.ref _=L2.V.ref a/\_=some (L2.HO.ins C a3 fs)/\L2.Cls _ C/\_;refine L2.Rd.Zjf (by with_reducible (first|assumption|exact L2.Zh)) (by with_reducible assumption) (by k_dflt (walk_at "na")) (by k_dflt (simp only[List.length_cons,List.length_nil];decide)) (by k_dflt (walk_at "pf")) ?_)|apply L2.Rd.raise|apply L2.Rd.Zim|apply L2.Rd.Zje|apply L2.Rd.Zj2|apply L2.Rd.Zjo|apply L2.Rd.ZjU|apply L2.Rd.Zjm|(show L2.rIn _ _ _ _ _ _;refine L2.Rd.ZjV (by walk_at "hp") ?_)|(show ∃p bs,[L2.V.ref _]=[L2.V.ref p]/\L2.SqL _ _ p (List.map L2.V.bl bs)/\_;refine L2.Rd.ZjY (by walk_at "hp") ?_)|apply L2.Rd.leS|apply L2.Rd.Zjq)|((with_reducible show if(!(_==_))=true then _ else _);first|refine L2.Rd.Zhf ?_|refine L2.Rd.Zha ?_)|((with_reducible show if(_==_)=true then _ else _);first|refine L2.Zel ?_|refine L2.Zda ?_)|with_reducible (first|apply L2.Rd.Zin|apply L2.Rd.Zj3|apply L2.Rd.Zj1)|((with_reducible show L2.rDIn _ _ _ _);first|with_reducible refine L2.Rd.ZjO (by with_reducible assumption) ?_|with_reducible refine L2.Rd.dinI (by with_reducible assumption) ?_)|((with_reducible show L2.rDNotIn _ _ _ _);first|with_reducible refine L2.Rd.Zjw (by with_reducible assumption) ?_|with_reducible refine L2.Rd.dninI (by with_reducible assumption) ?_)|((with_reducible show L2.rIxD _ _ _ _);first|with_reducible refine L2.Rd.Zjz (by with_reducible assumption) (by with_reducible assumption) ?_|with_reducible refine L2.Rd.dgetI (by with_reducible assumption) (by with_reducible assumption) ?_)|((with_reducible show L2.rSetD _ _ _ _ _);first|with_reducible refine L2.Rd.Zjn (by with_reducible assumption) (by walk_at "side") ?_|with_reducible refine L2.Rd.dsetI (by with_reducible assumption) (by walk_at "side") ?_)|with_reducible (first|(show L2.rLenD _ _ _;refine L2.Rd.Zj9 (by with_reducible assumption) ?_)|(show L2.rListD _ _ _;refine L2.Rd.Zjg (by with_reducible assumption) ?_)|(show L2.Ze8 _ _ _ _ _;refine L2.Rd.ixl (by walk_at "hp") (by k_dflt (first|rfl|with_reducible assumption)) ?_)|apply L2.Rd.ZjQ|apply L2.Rd.Zkq|apply L2.Rd.Zj8|apply L2.Rd.Zjt))
local macro_rules| `(tactic|walk_at "rds")=>`(tactic|repeat' (walk_at "rd"))
local macro_rules| `(tactic|walk_at "a")=>`(tactic|try dsimp only[L2.cxX,L2.ZK,L2.Zl])
local macro_rules| `(tactic|nofun)=>`(tactic|walk_at "rds")
namespace Nm
open PySem L2
noncomputable def top (i:Nat):Stmt:=PySem.Challenge.pw_ratehall_k31_halls_and_forms_written.main.body.getD i (.Pass ⟨0,0,0,0⟩)
noncomputable abbrev qP:Stmt:=top 39
noncomputable abbrev nN:Stmt:=top 40
noncomputable abbrev qQ:Stmt:=top 38
noncomputable abbrev qR:Stmt:=top 45
noncomputable abbrev qS:Stmt:=top 26
noncomputable abbrev qT:Stmt:=Wm (top 19) 5
noncomputable abbrev qU:Stmt:=Wm (top 19) 7
noncomputable abbrev lu:Stmt:=top 25
noncomputable abbrev nO:Stmt:=top 11
noncomputable abbrev qV:Stmt:=top 29
noncomputable abbrev nP:Stmt:=top 23
noncomputable abbrev nQ:Stmt:=top 30
noncomputable abbrev qW:Stmt:=top 28
noncomputable abbrev qX:Stmt:=Wm (top 19) 6
noncomputable abbrev qY:Stmt:=top 13
noncomputable abbrev qZ:Stmt:=top 14
noncomputable abbrev q0:Stmt:=top 20
noncomputable abbrev q1:Stmt:=top 15
noncomputable abbrev q2:Stmt:=Wm (top 19) 11
noncomputable abbrev q3:Stmt:=Wm (top 19) 3
noncomputable abbrev q4:Stmt:=Wm (top 19) 2
noncomputable abbrev q5:Stmt:=Wm (top 19) 1
noncomputable abbrev q6:Stmt:=top 31
noncomputable abbrev q7:Stmt:=Wm (top 19) 0
noncomputable abbrev nR:Stmt:=top 27
noncomputable abbrev q8:Stmt:=top 42
noncomputable abbrev nT:Stmt:=top 47
noncomputable abbrev q9:Stmt:=top 46
noncomputable abbrev q_:Stmt:=top 24
noncomputable abbrev q':Stmt:=top 34
noncomputable abbrev nU:Stmt:=top 33
noncomputable abbrev nV:Stmt:=top 36
noncomputable abbrev ra:Stmt:=top 44
noncomputable abbrev rb:Stmt:=top 43
noncomputable abbrev nW:Stmt:=top 32
noncomputable abbrev nX:Stmt:=top 35
noncomputable abbrev rc:Stmt:=top 41
noncomputable abbrev rd:Stmt:=top 48
noncomputable abbrev nY:Stmt:=top 49
noncomputable abbrev j8:Stmt:=top 50
theorem re:Zu ["_law_cell_here","_law_way","_law_first"] ["_law_cell_here","_law_way"] (bU qP):=scI
theorem nZ:Zu ["_law_cell_here","_law_way","_law_letters","_law_size"] ["_law_cell_here","_law_way"] (bU nN):=scI
theorem wJ:Zu ["_law_script","_law_k"] ["_law_script","_law_k"] (bU qQ):=scI
theorem gQ:Zu ["_law_script","_law_letters","_law_names_here","_law_k","_law_cell_here","_law_draw","_law_name_here","_law_first","_law_at"] ["_law_script"] (bU qR):=scI
theorem wK:Zu ["names","row"] ["names","row"] (bU qS):=scI
theorem wL:Zu ["self"] ["self"] (bU qT):=scI
theorem wM:Zu ["self"] ["self"] (bU qU):=scI
theorem rf:Zu ["hall","names"] ["hall"] (bU lu):=scI
theorem wN:Zu ["thing"] ["thing"] (bU nO):=scI
theorem wO:Zu ["words"] ["words"] (bU qV):=scI
theorem wP:Zu ["text"] ["text"] (bU nP):=scI
theorem wQ:Zu ["words"] ["words"] (bU nQ):=scI
theorem rg:Zu ["line","words"] ["line"] (bU qW):=scI
theorem wR:Zu ["self","name"] ["self","name"] (bU qX):=scI
theorem wS:Zu ["thing"] ["thing"] (bU qY):=scI
theorem wT:Zu ["thing","least"] ["thing","least"] (bU qZ):=scI
theorem wU:Zu ["start"] ["start"] (bU q0):=scI
theorem wV:Zu ["thing","bound"] ["thing","bound"] (bU q1):=scI
theorem wW:Zu ["self","work"] ["self","work"] (bU q2):=scI
theorem wX:Zu ["self","row"] ["self","row"] (bU q3):=scI
theorem wY:Zu ["self","giver","taker","give","take","start"] ["self","giver","taker","give","take","start"] (bU q4):=scI
theorem rh:Zu ["self","name","number"] ["self","name"] (bU q5):=scI
theorem n0:Zu ["hall","words","giver","taker"] ["hall","words"] (bU q6):=scI
theorem wZ:Zu ["self"] ["self"] (bU q7):=scI
theorem lv:Zu ["lines","rows","hall","words"] ["lines"] (bU nR):=scI
theorem rj:Zu ["_law_names_here","_law_line","_law_head"] ["_law_names_here","_law_line"] (bU q8):=scI
theorem j9:Zu ["_law_names_here","_law_lines_here","_law_turn","_law_rows","_law_left","_law_k","_law_line"] ["_law_names_here","_law_lines_here","_law_turn"] (bU nT):=scI
theorem hj:Zu ["_law_script","_law_many","_law_lines_here","_law_size","_law_k","_law_cell_here","_law_draw","_law_pair","_law_at"] ["_law_script","_law_many"] (bU q9):=scI
theorem w0:Zu ["text"] ["text"] (bU q_):=scI
theorem rk:Zu ["word","parts"] ["word"] (bU q'):=scI
theorem rl:Zu ["text","words"] ["text"] (bU nU):=scI
theorem w1:Zu ["text"] ["text"] (bU nV):=scI
theorem j_:Zu ["_law_form_here","_law_text","_law_slot","_law_factor"] ["_law_form_here"] (bU ra):=scI
theorem gh:Zu ["_law_cell_here","_law_way","_law_many","_law_terms","_law_draw","_law_k","_law_part","_law_factor","_law_slot","_law_constant"] ["_law_cell_here","_law_way","_law_many"] (bU rb):=scI
theorem w2:Zu ["form"] ["form"] (bU nW):=scI
theorem w3:Zu ["forms"] ["forms"] (bU nX):=scI
theorem w4:Zu ["_law_found"] ["_law_found"] (bU rc):=scI
theorem rm:Zu ["_law_found","_law_due","_law_term"] ["_law_found","_law_due"] (bU rd):=scI
theorem fI:Zu ["_law_script","_law_forms","_law_k","_law_cell_here","_law_many","_law_texts","_law_form_here","_law_text","_law_found"] ["_law_script"] (bU nY):=scI
theorem fi:Zu ["_law_script","_law_names_here","_law_lines_here","_law_hall","_law_name_here","_law_line","_law_rows","_law_told","_law_again","_law_mixed","_law_texts"] ["_law_script"] (bU j8):=scI
set_option genInjectivity false
set_option genSizeOf false
set_option genSizeOfSpec false
set_option genInjectivity false in
set_option genSizeOf false in
structure Tp(K:Frag)(mg:Str->Option Value) where
 {f:Addr}
 I:mg "Hall" =some (.ref f)
 a:Cls K f
 e:WM K f ["numbers","rows"]
 C:Dn K mg "_law_mix" "_law_mix" qP ["_law_cell_here","_law_way"]
 x1:Dn K mg "_law_name" "_law_name" nN ["_law_cell_here","_law_way"]
 M:Dn K mg "_law_cell" "_law_cell" qQ ["_law_script","_law_k"]
 x3:Dn K mg "_law_names" "_law_names" qR ["_law_script"]
 x4:Dn K mg "show_belt" "show_belt" qS ["names","row"]
 x5:Dm K f "names" "Hall.names" qT ["self"]
 x6:Dm K f "belts" "Hall.belts" qU ["self"]
 x7:Dn K mg "show_hall" "show_hall" lu ["hall"]
 x8:Dn K mg "is_name" "is_name" nO ["thing"]
 x9:Dn K mg "is_work_row" "is_work_row" qV ["words"]
 S:Dn K mg "is_number" "is_number" nP ["text"]
 ap:Dn K mg "is_belt_row" "is_belt_row" nQ ["words"]
 aq:Dn K mg "read_row" "read_row" qW ["line"]
 ad:Dm K f "number_of" "Hall.number_of" qX ["self","name"]
 ar:Dn K mg "is_whole" "is_whole" qY ["thing"]
 T:Dn K mg "is_from" "is_from" qZ ["thing","least"]
 au:Dn K mg "need_start" "need_start" q0 ["start"]
 av:Dn K mg "is_number_below" "is_number_below" q1 ["thing","bound"]
 ae:Dm K f "need_work" "Hall.need_work" q2 ["self","work"]
 aw:Dm K f "lay" "Hall.lay" q3 ["self","row"]
 {k:Addr}
 {l:FuncData}
 {U:Addr}
 {O:Tok}
 t:ZbO K f "belt" k
 B:ZeI K "belt" "Hall.belt" q4 U k l
 Z:∃dH cM n sl,K.lookup U=some ⟨dH,cM,.seq #[.int 0 O] n,sl⟩
 u:Y5 K l ["self","giver","taker","give","take","start"] []
 V:Y5 K l ["self","giver","taker","give","take","start"] [.int 0 O]
 X:bD [.int 0] [.int 0 O]
 af:Dm K f "work" "Hall.work" q5 ["self","name"]
 ax:Dn K mg "put_row" "put_row" q6 ["hall","words"]
 ag:Di K f "Hall.__init__" q7 ["self"]
 ah:Dn K mg "read_hall" "read_hall" nR ["lines"]
 aa:Dn K mg "_law_line_text" "_law_line_text" q8 ["_law_names_here","_law_line"]
 ay:Dn K mg "_law_mixed_rows" "_law_mixed_rows" nT ["_law_names_here","_law_lines_here","_law_turn"]
 az:Dn K mg "_law_lines" "_law_lines" q9 ["_law_script","_law_many"]
 ai:Dn K mg "is_signed" "is_signed" q_ ["text"]
 aA:Dn K mg "read_term" "read_term" q' ["word"]
 aj:Dn K mg "read_form" "read_form" nU ["text"]
 aB:Dn K mg "read_forms" "read_forms" nV ["text"]
 aC:Dn K mg "_law_form_text" "_law_form_text" ra ["_law_form_here"]
 aD:Dn K mg "_law_form" "_law_form" rb ["_law_cell_here","_law_way","_law_many"]
 ak:Dn K mg "show_form" "show_form" nW ["form"]
 aE:Dn K mg "show_forms" "show_forms" nX ["forms"]
 ab:Dn K mg "_law_whole" "_law_whole" rc ["_law_found"]
 al:Dn K mg "_law_is_form" "_law_is_form" rd ["_law_found","_law_due"]
 aF:Dn K mg "_law_forms_good" "_law_forms_good" nY ["_law_script"]
 am:Dn K mg "law" "law" j8 ["_law_script"]
 R:mg "all" =none
 Y:mg "bool" =none
 o:mg "int" =none
 b:mg "isinstance" =none
 c:mg "len" =none
 p:mg "list" =none
 j:mg "range" =none
 D:mg "sorted" =none
 h:mg "str" =none
 g:mg "tuple" =none
 aG:mg "zip" =none
 {E:Addr}
 q:Ex K mg "NoName" E
 {ac:Addr}
 N:Ex K mg "Twice" ac
 {y:Addr}
 m:Ex K mg "TooMuch" y
 {F:Addr}
 G:Ex K mg "NoWork" F
 {H:Addr}
 r:Ex K mg "NoRate" H
 {w5:Addr}
 i:Ex K mg "NoText" w5
 {J:Tok}
 w:mg "MOST_LETTERS" =some (.int 8 J)
 {L:Tok}
 x:mg "MOST_FIGURES" =some (.int 30 L)
 {P:Tok}
 z:mg "MOST_BELTS" =some (.int 60 P)
 {Q:Tok}
 A:mg "MOST_WORKS" =some (.int 30 Q)
 an:∀(s:Shared)(v:Value),BindsTo s am.d ⟨[v],[]⟩ [("_law_script",v)]
variable {P:Program}{w:World}{K:Frag}{mg:Str->Option Value}{base:Heap}(T:Tp K mg)
set_option genInjectivity true
set_option genSizeOf true
set_option genSizeOfSpec true
def Zg1(K:Frag):Sp:=λvs H Q _=>∃(a:Addr)(ns:List Int),vs=[.ref a]/\SqL K H a (ns.map V.int)/\ns.length<=63/\∀aH,Q (.bl true) aH
def w6(T:Tp K mg):Sp:=Zg1 K
noncomputable def c7 (x:Str):Bool:=decide (1<=x.length)&&decide (x.length<=8)&&x.cps.toList.all λc=>decide (97<=c)&&decide (c<=122)
structure B5 where
 giver:Int
 taker:Int
 give:Int
 take:Int
 start:Int
noncomputable def B5.v (b:B5):List V:=[.int b.giver,.int b.taker,.int b.give,.int b.take,.int b.start]
noncomputable def B5.d (b:B5):PyData:= .tuple [.int b.giver,.int b.taker,.int b.give,.int b.take,.int b.start]
structure HM where
 names:List Str
 belts:List B5
theorem rn{bv cT:Type}{P:bv->cT->Prop}:∀{xs:List bv}{ys:List cT}{a:bv}{b:cT},Paired P xs ys->P a b->Paired P (xs++ [a]) (ys++ [b])
 |_,_,_,_,.nil,h=> .cons h .nil
 |_,_,_,_,.cons x r,h=> .cons x (rn r h)
theorem ZfE{bv cT:Type}{P:bv->cT->Prop}:∀{xs:List bv}{ys:List cT}{i:Nat}{x:bv},Paired P xs ys->xs[i]? =some x->∃y,ys[i]? =some y/\P x y
 |_,_,_,_,.nil,e=>by simp at e
 |_,_,0,_,.cons h _,e=>by simp at e;subst e;exact⟨_,by simp,h⟩
 |_,_,i+1,x,.cons _ r,e=>by simpa using ZfE (i:=i) (x:=x) r (by simpa using e)
theorem ro{bv cT:Type}{P:bv->cT->Prop}:∀{xs:List bv}{ys:List cT},Paired P xs ys->Paired (λy x=>P x y) ys xs
 |_,_,.nil=> .nil
 |_,_,.cons h r=> .cons h (ro r)
theorem ZiH{bv cT:Type}{P:bv->cT->Prop}{xs:List bv}{ys:List cT}{i:Nat}{y:cT}(h:Paired P xs ys)(e:ys[i]? =some y):∃x,xs[i]? =some x/\P x y:=ZfE (ro h) e
theorem rp{bv cT:Type}{P rq:bv->cT->Prop}:∀{xs:List bv}{ys:List cT},Paired P xs ys->(∀x y,x∈xs->P x y->rq x y)->Paired rq xs ys
 |_,_,.nil,_=> .nil
 |_,_,.cons h r,k=> .cons (k _ _ (.head _) h) (rp r λx y aV=>k x y (.tail _ aV))
def cK (H:Hp):List V->List B5->Prop:=Paired λv b=>∃t,v= .ref t/\H t=some (.tup b.v)
noncomputable def eJ (ns:List Str):List (Key×V):=ns.zipIdx.map λp=>(Sum.inr p.1,V.int p.2)
theorem Ve(ns:List Str):(eJ ns).length=ns.length:=by unfold eJ;simp
theorem w7(ns:List Str)(x:Str):eJ (ns++ [x])=eJ ns++ [(Sum.inr x,.int ns.length)]:=by
 unfold eJ;rw[List.zipIdx_append];simp
theorem ZaC(ns:List Str):((eJ ns).map λcS=>kV cS.1)=ns.map V.str:=by
 unfold eJ;rw[Qs];have:((λcS:Key×V=>kV cS.1)∘λp:Str×Nat=>((Sum.inr p.1:Key),V.int p.2))=(V.str∘λp:Str×Nat=>p.1):=rfl;rw[this,<-Qs,List.zipIdx_map_fst]
theorem UI(ns:List Str)(x:Str):(eg (eJ ns) (Sum.inr x)).isSome=decide (x∈ns):=by
 rw[<-Uc];rw[Q2,List.any_eq_true,decide_eq_true_eq];have e:x∈ns↔V.str x∈ns.map V.str:=by
  constructor
  .exact List.mem_map_of_mem
  .intro h;obtain⟨y,bt,e⟩:=Qy.mp h;cases e;exact bt
 rw[e,<-ZaC,Qy]
 constructor
 .rintro⟨p,aU,h⟩;exact⟨p,aU,by rw[of_decide_eq_true h];rfl⟩
 .rintro⟨p,aU,h⟩;exact⟨p,aU,decide_eq_true (vr h)⟩
theorem w8{ns:List Str}{x:Str}(h:x∉ns):eg (eJ ns) (Sum.inr x)=none:=by
 have:=UI ns x;rw[decide_eq_false h] at this;cases e:eg (eJ ns) (Sum.inr x) with
 |none=>rfl
 |some v=>rw[e] at this;cases this
theorem w9{ns:List Str}{x:Str}(h:x∉ns):e1 (eJ ns) (Sum.inr x) (.int ns.length)=eJ (ns++ [x]):=by
 rw[Zgn _ (w8 h),w7]
theorem rr:∀{ns:List Str}{k i:Nat}{x:Str},ns.Nodup->ns[i]? =some x->eg ((ns.zipIdx k).map λp:Str×Nat=>((Sum.inr p.1:Key),V.int p.2)) (Sum.inr x)=some (.int ((k+i:Nat):Int))
 | [],_,_,_,_,e=>by simp at e
 |y::ns,k,0,x,_,e=>by
  simp at e;subst e;rw[List.zipIdx_cons,List.map_cons,kS rfl]
  rfl
 |y::ns,k,i+1,x,nd,e=>by
  have rs:=Q3.mp nd;have bq:ns[i]? =some x:=by simpa using e
  have ne:¬(Sum.inr y:Key)=Sum.inr x:=λz=>rs.1 (by rw[Sum.inr.inj z];exact Qv bq);rw[List.zipIdx_cons,List.map_cons,kU ne,rr rs.2 bq]
  congr 2
  omega
theorem ZfR{ns:List Str}{i:Nat}{x:Str}(nd:ns.Nodup)(e:ns[i]? =some x):eg (eJ ns) (Sum.inr x)=some (.int i):=by
 unfold eJ;rw[rr nd e,Nat.zero_add]
def cZ(H:Hp)(p:Addr)(aK:HM)(fp:List Addr):Prop:=
 ∃(a3 a b:Addr)(bs:List V),fp=[p,a3,a,b]/\H p=some (.ins T.f a3 [("numbers",.ref a),("rows",.ref b)])/\H a3=some (.own p)/\H a=some (.dK (eJ aK.names))/\H b=some (.lst bs)/\a≠b/\cK H bs aK.belts
theorem cK.keep{H aH:Hp}(t:∀b xs,H b=some (.tup xs)->aH b=some (.tup xs)):∀{bs:List V}{ls:List B5},cK H bs ls->cK aH bs ls:=λh=>rp h λ_ _ _ z=>z.elim λa y=>⟨a,y.1,t _ _ y.2⟩
theorem cK.length{H:Hp}{bs:List V}{ls:List B5}(h:cK H bs ls):bs.length=ls.length:=Paired.length h
theorem cK.snoc{H:Hp}:∀{bs:List V}{ls:List B5}{t:Addr}{b:B5},cK H bs ls->H t=some (.tup b.v)->cK H (bs++ [.ref t]) (ls++ [b]):=λh e=>rn h ⟨_,rfl,e⟩
theorem cK.at{H:Hp}:∀{bs:List V}{ls:List B5}{i:Nat}{b:B5},cK H bs ls->ls[i]? =some b->∃t,bs[i]? =some (.ref t)/\H t=some (.tup b.v):=λh e=>by
 obtain⟨v,aN,t,rfl,aQ⟩:=ZiH h e;exact⟨t,aN,aQ⟩
section
variable {K:Frag}{mg:Str->Option Value}{T:Tp K mg}{H aH:Hp}{p:Addr}{aK:HM}{fp:List Addr}
theorem cZ.dom(h:cZ T H p aK fp):∀x∈fp,H x≠none:=by
 obtain⟨a3,a,b,bs,rfl,aN,aQ,bJ,cx,_⟩:=h;intro x aV;simp only[Qi,QQ,or_false] at aV;rcases aV with rfl|rfl|rfl|rfl
 .rw[aN];simp
 .rw[aQ];simp
 .rw[bJ];simp
 .rw[cx];simp
theorem cZ.keep(h:cZ T H p aK fp)(k:∀x∈fp,aH x=H x)(t:∀b xs,H b=some (.tup xs)->aH b=some (.tup xs)):cZ T aH p aK fp:=by
 obtain⟨a3,a,b,bs,rfl,aN,aQ,bJ,cx,ea,dg⟩:=h;exact⟨a3,a,b,bs,rfl,(k p (by simp)).trans aN,(k a3 (by simp)).trans aQ,(k a (by simp)).trans bJ,(k b (by simp)).trans cx,ea,dg.keep t⟩
theorem cZ.off{A:List Addr}(h:cZ T H p aK fp)(f:Z3 A H aH)(d:∀x∈fp,x∉A):cZ T aH p aK fp:=by
 refine h.keep (λx aV=>?_) f.tups;cases q:H x with
 |none=>exact absurd q (h.dom x aV)
 |some o=>exact f.keep x o q (d x aV)
theorem ZfF{m:Str}{G:Prop}(h:cZ T H p aK fp)(f0:(m== "numbers")=false)(hQ:(m== "rows")=false)(q:G):∃a a3 fs,V.ref p= .ref a/\H a=some (.ins T.f a3 fs)/\fs.lookup m=none/\G:=by
 obtain⟨a3,a,b,bs,rfl,aN,_⟩:=h;exact⟨p,a3,_,rfl,aN,Rd.lk1 f0 (Rd.lk1 hQ Rd.lkN),q⟩
theorem cZ.same(h:cZ T H p aK fp)(e:Ze H aH):cZ T aH p aK fp:=h.off (A:=[]) e.frame (by simp)
end
noncomputable def e3 (ns:List Int) (k:Int):Int:=if k<ns.length then ns.getD k.toNat 0 else 0
theorem Zhz{ns:List Int}{k:Int}(ce:0<=k)(aN:k<ns.length):atI (ns.map V.int) k=some (.int (ns.getD k.toNat 0)):=by
 obtain⟨n,rfl⟩:=Q1 ce;have a':n<ns.length:=by omega
 refine Vh ?_;simp[List.getD,a']
@[irreducible] noncomputable def fJ (c w:Int):Int:=(c*48271+w*7919) % 2147483647*(16807+2*w) % 1000003
theorem ZhT(c w:Int):(c*48271+w*7919) % 2147483647*(16807+2*w) % 1000003=fJ c w:=by unfold fJ;rfl
theorem w_(c w:Int):0<=fJ c w:=by unfold fJ;omega
theorem w'(c w:Int):fJ c w<1000003:=by unfold fJ;omega
theorem xa:∀i<26,("abcdefghijklmnopqrstuvwxyz" :Str).cps.toList[i]? =some (97+i):=by decide+kernel
theorem ru:("abcdefghijklmnopqrstuvwxyz" :Str).length<=sizeLine:=by decide+kernel
theorem rv{i:Int}(ce:0<=i)(aN:i<26):atI ("abcdefghijklmnopqrstuvwxyz" :Str).cps.toList i=some (97+i.toNat):=by
 have:=Vh (xa i.toNat (by omega))
 rwa [Int.toNat_of_nonneg ce] at this
theorem iu(x:Str):c7 x=true↔1<=x.length/\x.length<=8/\∀c∈x.cps.toList,97<=c/\c<=122:=by
 unfold c7;simp only[Qz,decide_eq_true_eq,QP];exact⟨λh=>⟨h.1.1,h.1.2,h.2⟩,λh=>⟨⟨h.1,h.2.1⟩,h.2.2⟩⟩
theorem lw(x y:Str):(x++y).cps.toList=x.cps.toList++y.cps.toList:=by
 show(x.cps++y.cps).toList=_;simp
theorem n1(x:Str):x.length=x.cps.toList.length:=by simp[Str.length]
theorem rx:∀ys:List Str,(Str.join "" ys).cps.toList=(ys.map λy=>y.cps.toList).flatten
 | []=>rfl
 | [x]=>by simp[Str.join]
 |x::y::r=>by
  show(x++ "" ++Str.join "" (y::r)).cps.toList=_;rw[lw,lw,rx (y::r)];have:("" :Str).cps.toList=[]:=rfl;rw[this];simp
theorem xb{f:Nat->Nat}{n:Nat}(aN:1<=n)(aQ:n<=8)(a6:∀i,97<=f i/\f i<=122):c7 (Txt.join "" ((List.range n).map λi=>⟨#[f i]⟩))=true:=by
 have e:(Txt.join "" ((List.range n).map λi=>(⟨#[f i]⟩:Str))).cps.toList=(List.range n).map f:=by
  show(Builtin.Str.glued "" _).cps.toList=_;rw[StrLaws.glued_eq_join,rx,Qs];have:((λy:Str=>y.cps.toList)∘λi=>(⟨#[f i]⟩:Str))=λi=>[f i]:=rfl;rw[this];generalize List.range n=l
  induction l with
  |nil=>rfl
  |cons a l bF=>simp[bF]
 rw[iu,n1,e];refine⟨by simpa using aN,by simpa using aQ,λc aO=>?_⟩;obtain⟨i,_,rfl⟩:=Qy.mp aO;exact a6 i
theorem ry{x:Str}{l u:Option Int}{c:Nat}(h:c∈(Txt.slice x l u).cps.toList):c∈x.cps.toList:=by
 unfold Txt.slice at h
 split at h
 .exact h
 .simp only at h;obtain⟨i,_,aM⟩:=QY.mp h;exact Qv (by simpa using aM)
theorem Zcm{x:Str}{l u:Option Int}:(Txt.slice x l u).length<=(Builtin.Str.strSliceIndices l u 1 x.length).length:=by
 unfold Txt.slice
 split
 .rename_i h;simp only[Qz,beq_iff_eq] at h;omega
 .show(List.filterMap _ _).toArray.size<=_;rw[Qe];exact List.length_filterMap_le _ _
theorem xc:∀n:Nat,n<=8->∀a:Nat,a<n->(Builtin.Str.strSliceIndices none (some (a:Int)) 1 n).length+1+(Builtin.Str.strSliceIndices (some ((a:Int)+1)) none 1 n).length<=8:=by decide+kernel
theorem xf{x:Str}{a:Nat}{c:Nat}(h:c7 x=true)(aS:a<x.length)(aO:97<=c/\c<=122):c7 (Txt.slice x none (some (a:Int))++⟨#[c]⟩++Txt.slice x (some ((a:Int)+1)) none)=true:=by
 obtain⟨aN,aQ,bJ⟩:=(iu x).mp h;have l1:=Zcm (x:=x) (l:=none) (u:=some (a:Int));have l2:=Zcm (x:=x) (l:=some ((a:Int)+1)) (u:=none);have xg:=xc x.length aQ a aS;have e:(⟨#[c]⟩:Str).cps.toList=[c]:=rfl;rw[iu,n1,lw,lw,e];rw[n1] at l1 l2;refine⟨?_,?_,λd hd=>?_⟩
 .simp only[Qf,List.length_cons,List.length_nil];omega
 .simp only[Qf,List.length_cons,List.length_nil];omega
 .rcases QJ.mp hd with z|z
  .rcases QJ.mp z with y|y
   .exact bJ d (ry y)
   .rw[QC.mp y];exact aO
  .exact bJ d (ry z)
theorem rz:∀ns:List Str,(∀n∈ns,PyData.strOk n=true)->PyData.canLayAll0 (ns.map PyData.str)=true
 | [],_=>by simp[PyData.canLayAll0]
 |n::ns,h=>by
  have:=rz ns λm aZ=>h m (QH _ aZ);have ce:=h n (by simp);simp[PyData.canLayAll0,PyData.canLay0] at this|-;exact⟨ce,this⟩
theorem jf(ns:List Str)(h:∀n∈ns,PyData.strOk n=true):(PyData.list (ns.map PyData.str)).canLay0=true:=by
 have:=rz ns h;simp[PyData.canLay0];simpa using this
theorem rA:∀ns:List Str,PyData.depthAll (ns.map PyData.str)<=1
 | []=>by simp[PyData.depthAll]
 |n::ns=>by
  have:=rA ns;simp[PyData.depthAll,PyData.depth] at this|-;exact this
theorem rB(ns:List Str):(PyData.list (ns.map PyData.str)).depth<=60:=by
 have:=rA ns;simp only[PyData.depth];omega
theorem n2(b:B5):b.d.canLay0=true:=by simp[B5.d,PyData.canLay0,PyData.canLayAll0]
theorem rC(b:B5):b.d.depth<=2:=by simp[B5.d,PyData.depth,PyData.depthAll]
theorem n3:∀ls:List B5,PyData.canLayAll0 (ls.map B5.d)=true
 | []=>by simp[PyData.canLayAll0]
 |b::ls=>by
  have:=n3 ls;simp only[List.map_cons,PyData.canLayAll0,n2 b,Bool.true_and];exact this
theorem n4(ls:List B5):(PyData.list (ls.map B5.d)).canLay0=true:=by
 have:=n3 ls;simp[PyData.canLay0];simpa using this
theorem rD:∀ls:List B5,PyData.depthAll (ls.map B5.d)<=3
 | []=>by simp[PyData.depthAll]
 |b::ls=>by
  have aN:=rD ls;have aQ:=rC b;simp only[List.map_cons,PyData.depthAll];omega
theorem xh(ls:List B5):(PyData.list (ls.map B5.d)).depth<=60:=by
 have:=rD ls;simp only[PyData.depth];omega
theorem rE{K:Frag}{H:Hp}{t:Addr}{b:B5}(h:H t=some (.tup b.v)):ev K H (.ref t) b.d:= .tup (.of h) (.cons (.int _) (.cons (.int _) (.cons (.int _) (.cons (.int _) (.cons (.int _) .nil)))))
theorem lx{K:Frag}{H:Hp}:∀{bs:List V}{ls:List B5},cK H bs ls->DRels K H bs (ls.map B5.d)
 |_,_,.nil=> .nil
 |_,_,.cons ⟨t,e,h⟩ r=>by rw[e];exact .cons (rE h) (lx r)
theorem j'{K:Frag}{H:Hp}:∀ns:List Str,DRels K H (ns.map V.str) (ns.map PyData.str)
 | []=> .nil
 |n::ns=> .cons (.str n) (j' ns)
section
variable {K:Frag}{H:Hp}{Q:VK}
theorem Zbh{p q:Addr}{ns:List Str}(ok:∀n∈ns,PyData.strOk n=true)(aN:SqL K H p (ns.map V.str))(aQ:SqL K H q (ns.map V.str))(k:Q (.bl false) H):rOr rNe (gK K true) (.ref p) (.ref q) H Q:=
 Rd.Zja (.lst aN (j' ns)) (.lst aQ (j' ns)) (jf ns ok) (jf ns ok) (rB ns) (by rw[SeqAt.eqv_refl _ (jf ns ok)];exact k)
theorem ZgZ{p q:Addr}{bs lr:List V}{ls:List B5}(aN:SqL K H p bs)(t1:cK H bs ls)(aQ:SqL K H q lr)(fH:cK H lr ls)(k:Q (.bl false) H):rOr rNe (gK K true) (.ref p) (.ref q) H Q:=
 Rd.Zja (.lst aN (lx t1)) (.lst aQ (lx fH)) (n4 ls) (n4 ls) (xh ls) (by rw[SeqAt.eqv_refl _ (n4 ls)];exact k)
end
noncomputable def isDig (c:Nat):Bool:=decide (48<=c)&&decide (c<=57)
noncomputable def fj (x:Str):Bool:=decide (1<=x.length)&&decide (x.length<=30)&&x.cps.toList.all isDig&&(x== "0" || !Txt.startswith x "0")
noncomputable def ly (x:Str):Bool:=if Txt.startswith x "-" then !(x== "-0")&&fj (Txt.slice x (some 1) none) else fj x
theorem rF(x:Str)(c:Nat):Txt.startswith x ⟨#[c]⟩=(match Tx.tl x with| []=>false|d::_=>d==c):=by
 unfold Txt.startswith;rw[StrLaws.subAt_eq,Tx.Z1 x];show(decide (0+1<=(Tx.tl x).length)&&(((Tx.tl x).drop 0).take 1== [c]))=_;cases Tx.tl x with
 |nil=>rfl
 |cons d r=>simp
theorem rG(c d:Nat):decide ((⟨#[c]⟩:Str).cps.toList<(⟨#[d]⟩:Str).cps.toList)=decide (c<d):=by
 show decide ([c]< [d])=decide (c<d);rw[StrLaws.lt_cons_cons];simp
theorem rH:("0" :Str)=⟨#[48]⟩:=by decide+kernel
theorem xi:("9" :Str)=⟨#[57]⟩:=by decide+kernel
theorem xj:("-" :Str)=⟨#[45]⟩:=by decide+kernel
theorem ZcF{x:Str}{m:Nat}(h:Tx.tl x=Tx.dgs m)(aZ:m<10 ^ 30):fj x=true:=by
 unfold fj;have aN:=Tx.ZbQ aZ;have ce:1<=(Tx.dgs m).length:=by
  have:=Tx.Zbu m;cases e:Tx.dgs m with
  |nil=>exact absurd e this
  |cons=>simp
 have aQ:x.cps.toList.all isDig=true:=by
  rw[QP];intro c aO;have gu:c∈Tx.dgs m:=by rw[<-h];exact aO
  have:=Tx.WC m c gu;unfold isDig;rw[decide_eq_true this.1,decide_eq_true this.2];rfl
 have bJ:(x==("0" :Str)|| !Txt.startswith x "0")=true:=by
  rw[rH,rF,h];rcases Tx.ZcM m with e|⟨c,r,e,aO⟩
  .have:x=⟨#[48]⟩:=Tx.Wc (by rw[h,e];rfl);rw[this,beq_self_eq_true,Bool.true_or]
  .rw[e];have:(c==48)=false:=by simp;omega
   simp[this]
 rw[Tx.Z1,h,aQ,bJ,decide_eq_true ce,decide_eq_true aN];rfl
theorem ZfO{n:Int}(ce:0<=n)(h:n<10 ^ 30):fj (Tx.nS n)=true:=by
 obtain⟨m,rfl⟩:=Q1 ce;exact ZcF (Tx.Wz m) (by omega)
theorem ZfN{n:Int}(h:n.natAbs<10 ^ 30):ly (Tx.nS n)=true:=by
 unfold ly;rw[xj,rF];rcases Tx.ZaV h with⟨m,rfl,aZ⟩|⟨m,rfl,aZ⟩
 .rw[Tx.Wz];have a':=ZcF (Tx.Wz m) aZ;rcases Tx.ZcM m with e|⟨c,r,e,aO⟩
  .rw[e];exact a'
  .rw[e];have hd:=(Tx.WC m c (by rw[e];exact .head _)).1;have:(c==45)=false:=by simp;omega
   simp only[this];exact a'
 .rw[Tx.Wt];have a4:Tx.tl (Txt.slice (Tx.nS (-((m+1:Nat):Int))) (some 1) none)=Tx.dgs (m+1):=by
   rw[PyProof.Rows.slice_from_eq (i:=1) (by decide) (by rw[Tx.Z1,Tx.Wt,List.length_cons];omega) rfl];show((Tx.tl (Tx.nS (-((m+1:Nat):Int)))).drop 1).take _=_;rw[Tx.Wt];show(Tx.dgs (m+1)).take _=_;refine QR ?_;rw[Tx.Z1,Tx.Wt,List.length_cons];omega
  have hz:(Tx.nS (-((m+1:Nat):Int))==("-0" :Str))=false:=by
   rw[beq_eq_false_iff_ne];intro e;have bh:=congrArg Tx.tl e;rw[Tx.Wt] at bh;have di:Tx.tl ("-0" :Str)=[45,48]:=by decide+kernel
   rw[di] at bh;have eB:Tx.dgs (m+1)=[48]:=(Jj bh).2;have:=Tx.Zag (m+1);rw[eB] at this;have:(0:Nat)=m+1:=this;omega
  rw[hz];exact ZcF a4 aZ
inductive Rw where
 |wk (x:Str)
 |bl (b:B5)
noncomputable def nmS (ns:List Str) (i:Int):Str:=ns.getD i.toNat ""
noncomputable def ew (ns:List Str):Rw->List Str
 | .wk x=>["work",x]
 | .bl b=>["belt",nmS ns b.giver,Tx.nS b.give,Tx.nS b.take,nmS ns b.taker,Tx.nS b.start]
noncomputable def bB (ns:List Str) (r:Rw):Str:=Txt.join " " (ew ns r)
structure OkB(n:Nat)(b:B5):Prop where
 g0:0<=b.giver
 g1:b.giver<n
 t0:0<=b.taker
 t1:b.taker<n
 a0:1<=b.give
 a1:b.give<10 ^ 30
 b0:1<=b.take
 b1:b.take<10 ^ 30
 s0:0<=b.start
 s1:b.start<10 ^ 30
def YV(ns:List Str):Prop:=∀x∈ns,c7 x=true
def OkR (ns:List Str):Rw->Prop
 | .wk x=>c7 x=true
 | .bl b=>OkB ns.length b
theorem gi{ns:List Str}{i:Int}(h:YV ns)(ce:0<=i)(aN:i<ns.length):c7 (nmS ns i)=true:=by
 have aM:i.toNat<ns.length:=by omega
 unfold nmS;rw[Qd,Qa aM];exact h _ (Qm aM)
theorem VV{x:Str}(h:c7 x=true){c:Nat}(aO:c∈Tx.tl x):97<=c/\c<=122:=((iu x).mp h).2.2 c aO
theorem Yw{x:Str}(h:c7 x=true):1<=x.length/\x.length<=8:=⟨((iu x).mp h).1,((iu x).mp h).2.1⟩
theorem d6{n:Int}(ce:0<=n)(aN:n<10 ^ 30):n.natAbs<10 ^ 30:=by omega
theorem ka{n:Int}{c:Nat}(h:c∈Tx.tl (Tx.nS n)):c≠32/\c≠64/\c≠44:=by
 rcases Tx.Zdf h with h|h<;>omega
theorem n5{ns:List Str}{r:Rw}(aS:YV ns)(h:OkR ns r):∀w∈ew ns r,32∉Tx.tl w/\w.length<=31:=by
 have nm:∀{x:Str},c7 x=true->32∉Tx.tl x/\x.length<=31:=λaV=>⟨λz=>by have:=VV aV z;omega,by have:=Yw aV;omega⟩;have iv:∀{n:Int},0<=n->n<10 ^ 30->32∉Tx.tl (Tx.nS n)/\(Tx.nS n).length<=31:=λce aN=>⟨λz=>(ka z).1 rfl,Tx.Yi (d6 ce aN)⟩;have wk:32∉Tx.tl ("work" :Str)/\("work" :Str).length<=31:=by decide+kernel
 have bl:32∉Tx.tl ("belt" :Str)/\("belt" :Str).length<=31:=by decide+kernel
 intro w hw;cases r with
 |wk x=>
  have gj:w∈[("work" :Str),x]:=hw;simp only[Qi,QQ,or_false] at gj;rcases gj with rfl|rfl
  .exact wk
  .exact nm h
 |bl b=>
  have aJ:OkB ns.length b:=h;have gj:w∈[("belt" :Str),nmS ns b.giver,Tx.nS b.give,Tx.nS b.take,nmS ns b.taker,Tx.nS b.start]:=hw;simp only[Qi,QQ,or_false] at gj;rcases gj with rfl|rfl|rfl|rfl|rfl|rfl
  .exact bl
  .exact nm (gi aS aJ.g0 aJ.g1)
  .exact iv (by have:=aJ.a0;omega) aJ.a1
  .exact iv (by have:=aJ.b0;omega) aJ.b1
  .exact nm (gi aS aJ.t0 aJ.t1)
  .exact iv aJ.s0 aJ.s1
theorem fK(s:Str)(ps:List Str):Tx.tl (Txt.join s ps)=Tx.jl (Tx.tl s) (ps.map Tx.tl):=by
 rw[<-Tx.Zhg];show Tx.tl (Builtin.Str.glued s ps)=_;rw[StrLaws.glued_eq_join]
theorem Zd0(x:Str):1<=Builtin.Str.strKind x:=by
 unfold Builtin.Str.strKind
 split
 .exact Qb _
 .split<;>decide
theorem Zay{ps:List Str}(a':ps≠[])(aU:∀p∈ps,32∉Tx.tl p):Txt.split (Txt.join " " ps) " " =ps:=
 Tx.U3 (c0:=32) (ys:=[]) (by decide+kernel) (by rw[show Builtin.Str.strKind (" " :Str)=1 by decide+kernel];exact Zd0 _) (fK _ _) a' aU
theorem ZfQ{ns:List Str}{r:Rw}(aS:YV ns)(h:OkR ns r):Txt.split (bB ns r) " " =ew ns r:=
 Zay (by cases r<;>exact λz=>nomatch z) λp aU=>(n5 aS h p aU).1
theorem Zg6{s:List Nat}{m:Nat}:∀{ps:List (List Nat)},(∀p∈ps,p.length<=m)->(Tx.jl s ps).length<=ps.length*(m+s.length)
 | [],_=>Qn _
 | [x],h=>by have:=h x (.head _);show x.length<=1*_;omega
 |x::y::r,h=>by
  have aN:=h x (.head _);have aQ:=Zg6 (s:=s) (m:=m) (ps:=y::r) λp aU=>h p (.tail _ aU);show(x++(s++Tx.jl s (y::r))).length<=((y::r).length+1)*(m+s.length);rw[Qf,Qf,Nat.succ_mul];omega
theorem Zaf{s:Str}{m:Nat}{ps:List Str}(h:∀p∈ps,p.length<=m):(Txt.join s ps).length<=ps.length*(m+s.length):=by
 rw[Tx.Z1,fK];have:=Zg6 (s:=Tx.tl s) (m:=m) (ps:=ps.map Tx.tl) λp aU=>by
  obtain⟨q,be,rfl⟩:=Qy.mp aU;rw[<-Tx.Z1];exact h q be
 rw[Qc,<-Tx.Z1] at this;exact this
theorem Zdv{ns:List Str}{r:Rw}(aS:YV ns)(h:OkR ns r):(bB ns r).length<=200:=by
 have:=Zaf (s:=" ") (m:=31) (ps:=ew ns r) λp aU=>(n5 aS h p aU).2;have e:(" " :Str).length=1:=by decide+kernel
 rw[e] at this;have Bf:(ew ns r).length<=6:=by
  cases r with
  |wk x=>exact(by decide:2<=6)
  |bl b=>exact(by decide:6<=6)
 have:(bB ns r).length<=(ew ns r).length*32:=this;omega
theorem VC(ns:List Str)(x:Str):("work " :Str)++x=bB ns (.wk x):=by
 apply Tx.Wc;show _=Tx.tl (Txt.join " " ["work",x]);rw[fK,Tx.Wf,show Tx.tl ("work " :Str)=Tx.tl ("work" :Str)++Tx.tl (" " :Str) by decide+kernel];show _=Tx.tl ("work" :Str)++(Tx.tl (" " :Str)++Tx.tl x);rw[QN]
theorem ZfI(ns:List Str)(b:B5):("belt " :Str)++nmS ns b.giver++ " " ++Tx.nS b.give++ " " ++Tx.nS b.take++ " " ++nmS ns b.taker++ " " ++Tx.nS b.start=bB ns (.bl b):=by
 apply Tx.Wc;show _=Tx.tl (Txt.join " " ["belt",nmS ns b.giver,Tx.nS b.give,Tx.nS b.take,nmS ns b.taker,Tx.nS b.start]);rw[fK];simp only[Tx.Wf];rw[show Tx.tl ("belt " :Str)=Tx.tl ("belt" :Str)++Tx.tl (" " :Str) by decide+kernel];show _=Tx.tl ("belt" :Str)++(Tx.tl (" " :Str)++(Tx.tl (nmS ns b.giver)++(Tx.tl (" " :Str)++(Tx.tl (Tx.nS b.give)++(Tx.tl (" " :Str)++(Tx.tl (Tx.nS b.take)++(Tx.tl (" " :Str)++(Tx.tl (nmS ns b.taker)++(Tx.tl (" " :Str)++Tx.tl (Tx.nS b.start))))))))));simp only[QN]
noncomputable def xk (aK:HM):Rw->HM
 | .wk x=>⟨aK.names++ [x],aK.belts⟩
 | .bl b=>⟨aK.names,aK.belts++ [b]⟩
noncomputable def c3 (a2:List Rw):List Str:=a2.filterMap λ| .wk x=>some x| .bl _=>none
noncomputable def cl (a2:List Rw):List B5:=a2.filterMap λ| .wk _=>none| .bl b=>some b
structure ZcZ(ns:List Str)(a2:List Rw):Prop where
 all:YV ns
 nd:ns.Nodup
 len:ns.length<=30
 nm:c3 a2=ns
 bl:(cl a2).length<=60
 ok:∀i b,a2[i]? =some (.bl b)->OkB (c3 (a2.take i)).length b
noncomputable def hF (aK:HM):List Rw:=aK.names.map Rw.wk++aK.belts.map Rw.bl
theorem none_of{H aL:Hp}(s:Ze H aL){x:Addr}(h:aL x=none):H x=none:=by
 cases e:H x with
 |none=>rfl
 |some o=>rw[s x o e] at h;cases h
theorem W8{gL H aH:Hp}{fp c4:List Addr}(s:Ze gL H)(n:∀x∈fp,gL x=none)(f:Z3 fp H aH)(g:Ww fp c4 H):Ze gL aH/\∀x∈c4,gL x=none:=
 ⟨λb o e=>f.keep b o (s b o e) λz=>(by rw[n b z] at e;cases e),λx aV=>(g x aV).elim (n x) (none_of s)⟩
theorem VT{ns:List Str}{i:Int}(ce:0<=i)(aN:i<ns.length):atI (ns.map V.str) i=some (.str (nmS ns i)):=by
 obtain⟨n,rfl⟩:=Q1 ce;have a':n<ns.length:=by omega
 refine Vh ?_;unfold nmS;rw[QA,Qd,show((n:Nat):Int).toNat=n from rfl,Qa a']
 rfl
theorem lz{z:Str}{ps:List Str}{m k:Nat}(h:∀p∈ps,p.length<=m)(aT:ps.length<=k)(aJ:k*m+k*z.length<=16777216):(ps.map (·.length)).sum+ps.length*z.length<=16777216:=by
 have aN:=StrLaws.sumLen_le ps h;have aQ:ps.length*m<=k*m:=Nat.mul_le_mul_right _ aT;have bJ:ps.length*z.length<=k*z.length:=Nat.mul_le_mul_right _ aT;omega
structure Fm where
 c:Int
 ts:List (Int×Int)
noncomputable def dx (t:Int×Int):Str:=Tx.nS t.2++ "@" ++Tx.nS t.1
noncomputable def eC (f:Fm):List Str:=Tx.nS f.c::f.ts.map dx
noncomputable def textF (f:Fm):Str:=Txt.join " " (eC f)
structure OkF(f:Fm):Prop where
 c:f.c.natAbs<10 ^ 30
 len:f.ts.length<=30
 t:∀t∈f.ts,0<=t.1/\t.1<10 ^ 30/\t.2.natAbs<10 ^ 30
def e4 (H:Hp):List V->List (Int×Int)->Prop:=Paired λv t=>∃a,v= .ref a/\H a=some (.tup [.int t.1,.int t.2])
def ey(H:Hp)(v:V)(f:Fm):Prop:=∃a cP c8,v= .ref a/\H a=some (.tup [.int f.c,.ref cP])/\H cP=some (.tup c8)/\e4 H c8 f.ts
def eD (H:Hp):List V->List Fm->Prop:=Paired (ey H)
theorem rJ(t:Int×Int):Tx.tl (dx t)=Tx.tl (Tx.nS t.2)++(64::Tx.tl (Tx.nS t.1)):=by
 unfold dx;rw[Tx.Wf,Tx.Wf,show Tx.tl ("@" :Str)=[64] by decide+kernel,QN];rfl
theorem ZfX{t:Int×Int}{c:Nat}(h:c∈Tx.tl (dx t)):c≠32/\c≠44:=by
 rw[rJ] at h;rcases QJ.mp h with h|h
 .have:=ka h;omega
 .rcases Qi.mp h with h|h
  .omega
  .have:=ka h;omega
theorem ZcE{t:Int×Int}(h:0<=t.1/\t.1<10 ^ 30/\t.2.natAbs<10 ^ 30):(dx t).length<=63:=by
 have aN:=Tx.Yi (d6 h.1 h.2.1);have aQ:=Tx.Yi h.2.2;rw[Tx.Z1] at aN aQ;rw[Tx.Z1,rJ,Qf,List.length_cons];omega
theorem rK{f:Fm}:∀w∈eC f,∀c∈Tx.tl w,c≠32/\c≠44:=by
 intro w hw c aO;rcases Qi.mp hw with rfl|hw
 .have:=ka aO;omega
 .obtain⟨t,_,rfl⟩:=Qy.mp hw;exact ZfX aO
theorem rL{f:Fm}(h:OkF f):∀w∈eC f,w.length<=63:=by
 intro w hw;rcases Qi.mp hw with rfl|hw
 .have:=Tx.Yi h.c;omega
 .obtain⟨t,bL,rfl⟩:=Qy.mp hw;exact ZcE (h.t t bL)
theorem rM{f:Fm}(h:OkF f):(eC f).length<=31:=by
 unfold eC;have:=h.len;simp only[List.length_cons,Qc];omega
theorem ZeE(f:Fm):Txt.split (textF f) " " =eC f:=Zay (λz=>nomatch z) λp aU z=>(rK p aU 32 z).1 rfl
theorem WW{f:Fm}(h:OkF f):(textF f).length<=2000:=by
 have aN:=Zaf (s:=" ") (m:=63) (ps:=eC f) (rL h);have aQ:=rM h;have e:(" " :Str).length=1:=by decide+kernel
 rw[e] at aN;have bJ:(textF f).length<=(eC f).length*64:=aN;omega
theorem Zc4{s:List Nat}{c:Nat}:∀{ps:List (List Nat)},c∈Tx.jl s ps->c∈s\/∃p∈ps,c∈p
 | [],h=>by cases h
 | [x],h=> .inr ⟨x,.head _,h⟩
 |x::y::r,h=>by
  rcases QJ.mp h with h|h
  .exact .inr ⟨x,.head _,h⟩
  .rcases QJ.mp h with h|h
   .exact .inl h
   .rcases Zc4 h with h|⟨p,aU,aO⟩
    .exact .inl h
    .exact .inr ⟨p,.tail _ aU,aO⟩
theorem ZeA{f:Fm}{c:Nat}(h:c∈Tx.tl (textF f)):c≠44:=by
 unfold textF at h;rw[fK] at h;rcases Zc4 h with h|⟨p,aU,aO⟩
 .rw[show Tx.tl (" " :Str)=[32] by decide+kernel] at h;have:=QC.mp h;omega
 .obtain⟨w,hw,rfl⟩:=Qy.mp aU;exact(rK w hw c aO).2
theorem ZdM{fs:List Fm}(a':fs≠[]):Txt.split (Txt.join ", " (fs.map textF)) ", " =fs.map textF:=
 Tx.U3 (c0:=44) (ys:=[32]) (by decide+kernel) (by rw[show Builtin.Str.strKind (", " :Str)=1 by decide+kernel];exact Zd0 _) (fK _ _) (by simpa using a') λp aU z=>by
  obtain⟨f,_,rfl⟩:=Qy.mp aU;exact ZeA z rfl
theorem Zei{s:List Nat}{p:List Nat}:∀{r:List (List Nat)},∃q,Tx.jl s (p::r)=p++q
 | []=>⟨[],by simp[Tx.jl]⟩
 |y::r=>⟨s++Tx.jl s (y::r),rfl⟩
theorem Zia(n:Int):∃d∈Tx.tl (Tx.nS n),48<=d:=by
 have eV:∀m:Nat,∃d∈Tx.dgs m,48<=d:=λm=>by
  cases e:Tx.dgs m with
  |nil=>exact absurd e (Tx.Zbu m)
  |cons c r=>exact⟨c,.head _,(Tx.WC m c (by rw[e];exact .head _)).1⟩
 by_cases ce:0<=n
 .obtain⟨m,rfl⟩:=Q1 ce;rw[Tx.Wz];exact eV m
 .obtain⟨m,rfl⟩:∃m:Nat,n= -((m+1:Nat):Int):=⟨(-n).toNat-1,by omega⟩;rw[Tx.Wt];obtain⟨d,hd,h⟩:=eV (m+1);exact⟨d,.tail _ hd,h⟩
theorem Zgo{f:Fm}{fs:List Fm}:Txt.join ", " ((f::fs).map textF)≠"-" :=λe=>by
 obtain⟨d,hd,h⟩:=Zia f.c;have bh:=congrArg Tx.tl e;rw[fK,show Tx.tl ("-" :Str)=[45] by decide+kernel,List.map_cons,List.map_cons] at bh;obtain⟨q,be⟩:=Zei (s:=Tx.tl (", " :Str)) (p:=Tx.tl (textF f)) (r:=(fs.map textF).map Tx.tl);rw[be] at bh;obtain⟨ds,fR⟩:=Zei (s:=Tx.tl (" " :Str)) (p:=Tx.tl (Tx.nS f.c)) (r:=(f.ts.map dx).map Tx.tl);have di:Tx.tl (textF f)=Tx.tl (Tx.nS f.c)++ds:=by
  unfold textF eC;rw[fK];exact fR
 have:d∈[45]:=by rw[<-bh,di];exact Q9 _ (Q9 _ hd)
 have:=QC.mp this;omega
theorem ZhG{a b:Str}{c:Nat}(h:c∉Tx.tl a):Txt.partition (a++⟨#[c]⟩++b) ⟨#[c]⟩=(a,⟨#[c]⟩,b):=by
 have ex:Tx.tl (a++⟨#[c]⟩++b)=Tx.tl a++(c::Tx.tl b):=by
  rw[Tx.Wf,Tx.Wf,QN];rfl
 have f9:StrLaws.At (a++⟨#[c]⟩++b) ⟨#[c]⟩ (a++⟨#[c]⟩++b).length (Tx.tl a).length:=Tx.Zg8 (r:=Tx.tl b) (Qb 1) (by rw[ex,Jo rfl];rfl);rcases PyProof.Rows.partition_whole (a++⟨#[c]⟩++b) ⟨#[c]⟩ with⟨_,a'⟩|⟨i,e,aM,f6⟩
 .exact absurd f9 (a' _)
 .have wu:i<=(Tx.tl a).length:=Jn λz=>f6 _ z f9;have wv:(Tx.tl a).length<=i:=Jn λz=>by
   obtain⟨r,aR⟩:=Tx.ZbC aM;rw[ex,List.drop_append_of_le_length (by omega)] at aR;apply h;cases be:(Tx.tl a).drop i with
   |nil=>
    have:=congrArg List.length be;rw[Q6] at this;simp at this;omega
   |cons x xs=>
    rw[be] at aR;have aV:x=c:=(Jj (show x::(xs++c::Tx.tl b)=c::r from aR)).1;have:x∈(Tx.tl a).drop i:=by rw[be];exact .head _
    rw[aV] at this;exact JC this
  obtain rfl:i=(Tx.tl a).length:=by omega
  rw[e];have bb:Builtin.Str.strSub (a++⟨#[c]⟩++b) 0 (Tx.tl a).length=a:=Tx.Wc (by rw[Tx.Za3,ex,List.drop_zero,Nat.sub_zero,JE rfl]);have bh:Builtin.Str.strSub (a++⟨#[c]⟩++b) ((Tx.tl a).length+(⟨#[c]⟩:Str).length) (a++⟨#[c]⟩++b).length=b:=Tx.Wc (by
   rw[Tx.Za3,Tx.Z1 (a++⟨#[c]⟩++b),ex,<-Jt,Jo rfl];show(Tx.tl b).take _=_;refine QR ?_;rw[Qf,List.length_cons];show(Tx.tl b).length<=(Tx.tl a).length+((Tx.tl b).length+1)-((Tx.tl a).length+1);omega)
  rw[bb,bh]
theorem Zfw(t:Int×Int):Txt.partition (dx t) "@" =(Tx.nS t.2,("@" :Str),Tx.nS t.1):=by
 have e:("@" :Str)=⟨#[64]⟩:=by decide+kernel
 unfold dx;rw[e];exact ZhG λz=>(ka z).2.1 rfl
theorem ZdW{s q:List Nat}:∀{ps:List (List Nat)},ps≠[]->Tx.jl s (ps++ [q])=Tx.jl s ps++(s++q)
 | [],h=>absurd rfl h
 | [x],_=>rfl
 |x::y::r,_=>by
  have:=ZdW (s:=s) (q:=q) (ps:=y::r) (by simp);show x++(s++Tx.jl s (y::r++ [q]))=x++(s++Tx.jl s (y::r))++(s++q);rw[this];simp only[QN]
theorem ZeC(c:Int)(ts:List (Int×Int))(t:Int×Int):textF ⟨c,ts⟩++ " " ++Tx.nS t.2++ "@" ++Tx.nS t.1=textF ⟨c,ts++ [t]⟩:=by
 apply Tx.Wc;have e:eC ⟨c,ts++ [t]⟩=eC ⟨c,ts⟩++ [dx t]:=by unfold eC;simp
 have bh:Tx.tl (textF ⟨c,ts++ [t]⟩)=Tx.tl (textF ⟨c,ts⟩)++(Tx.tl (" " :Str)++Tx.tl (dx t)):=by
  unfold textF;rw[e,fK,fK,QK];exact ZdW (by unfold eC;simp)
 rw[bh];unfold dx;simp only[Tx.Wf,QN]
theorem xl(c:Int):textF ⟨c,[]⟩=Tx.nS c:=Tx.Wc (by unfold textF eC;rw[fK];rfl)
theorem ZaR{H:Hp}{vs:List V}{ts:List (Int×Int)}{i:Nat}(h:e4 H vs ts)(aM:i<ts.length):∃a,vs.getD i .non= .ref a/\H a=some (.tup [.int (ts.getD i (0,0)).1,.int (ts.getD i (0,0)).2]):=by
 obtain⟨v,t,bb,bh,a,rfl,aS⟩:=YR h (show i<vs.length by rw[h.length];exact aM);exact⟨a,by simp[List.getD,bb],by simpa[List.getD,bh] using aS⟩
theorem e4.keep{H aH:Hp}(s:Ze H aH):∀{vs:List V}{ts:List (Int×Int)},e4 H vs ts->e4 aH vs ts
 |_,_,.nil=> .nil
 |_,_,.cons ⟨a,e,h⟩ r=> .cons ⟨a,e,s _ _ h⟩ (e4.keep s r)
theorem e4.tups{H aH:Hp}(s:∀a xs,H a=some (.tup xs)->aH a=some (.tup xs)):∀{vs:List V}{ts:List (Int×Int)},e4 H vs ts->e4 aH vs ts
 |_,_,.nil=> .nil
 |_,_,.cons ⟨a,e,h⟩ r=> .cons ⟨a,e,s _ _ h⟩ (e4.tups s r)
theorem rN{H:Hp}:∀{vs:List V}{ts:List (Int×Int)}{a:Addr}{t:Int×Int},e4 H vs ts->H a=some (.tup [.int t.1,.int t.2])->e4 H (vs++ [.ref a]) (ts++ [t])
 |_,_,a,_,.nil,h=> .cons ⟨a,rfl,h⟩ .nil
 |_,_,_,_,.cons x r,h=> .cons x (rN r h)
theorem ey.tups{H aH:Hp}(s:∀a xs,H a=some (.tup xs)->aH a=some (.tup xs)){v:V}{f:Fm}(h:ey H v f):ey aH v f:=by
 obtain⟨a,cP,c8,e,aN,aQ,bJ⟩:=h;exact⟨a,cP,c8,e,s _ _ aN,s _ _ aQ,bJ.tups s⟩
theorem eD.tups{H aH:Hp}(s:∀a xs,H a=some (.tup xs)->aH a=some (.tup xs)):∀{vs:List V}{fs:List Fm},eD H vs fs->eD aH vs fs
 |_,_,.nil=> .nil
 |_,_,.cons h r=> .cons (h.tups s) (eD.tups s r)
theorem rO{H:Hp}:∀{vs:List V}{fs:List Fm}{v:V}{f:Fm},eD H vs fs->ey H v f->eD H (vs++ [v]) (fs++ [f])
 |_,_,_,_,.nil,h=> .cons h .nil
 |_,_,_,_,.cons x r,h=> .cons x (rO r h)
theorem ey.keep{H aH:Hp}(s:Ze H aH){v:V}{f:Fm}(h:ey H v f):ey aH v f:=by
 obtain⟨a,cP,c8,e,aN,aQ,bJ⟩:=h;exact⟨a,cP,c8,e,s _ _ aN,s _ _ aQ,bJ.keep s⟩
theorem eD.keep{H aH:Hp}(s:Ze H aH):∀{vs:List V}{fs:List Fm},eD H vs fs->eD aH vs fs
 |_,_,.nil=> .nil
 |_,_,.cons h r=> .cons (h.keep s) (eD.keep s r)
theorem kb{H:Hp}{vs:List V}{fs:List Fm}{i:Nat}(h:eD H vs fs)(aM:i<fs.length):ey H (vs.getD i .non) (fs.getD i ⟨0,[]⟩):=by
 obtain⟨v,t,bb,bh,h'⟩:=YR h (show i<vs.length by rw[h.length];exact aM);simpa[List.getD,bb,bh] using h'
theorem xm(H:Hp)(r:Addr):Ze (hid H r) H:=λb o e=>by
 by_cases h:b=r
 .rw[h,j3] at e;cases e
 .rwa [WY h] at e
theorem Zjb{H:Hp}{p:Addr}{ys:List V}{v:V}{f:Fm}(h:ey H v f)(aU:H p=some (.lst ys)):ey (hid H p) v f:=by
 have ne:∀{x:Addr}{ts:List V},H x=some (.tup ts)->hid H p x=some (.tup ts):=λ{x ts} e=>by
  rw[WY (λz=>by rw[z,aU] at e;cases e)];exact e
 obtain⟨a,cP,c8,e,aN,aQ,bJ⟩:=h;refine⟨a,cP,c8,e,ne aN,ne aQ,?_⟩;clear aQ aN;generalize f.ts=ts at bJ|-
 induction bJ with
 |nil=>exact .nil
 |cons h _ bF=>obtain⟨b,e,h⟩:=h;exact .cons ⟨b,e,ne h⟩ bF
noncomputable def formsT (fs:List Fm):Str:=if fs=[] then "-" else Txt.join ", " (fs.map textF)
theorem YY{bv cT:Type}(f:bv->cT)(l:List bv)(d:bv):((List.range l.length).map λi=>f (l.getD i d))=l.map f:=by
 refine List.ext_getElem (by simp) λi aN aQ=>?_;have aM:i<l.length:=by simpa using aQ
 simp[List.getD,aM]
theorem rP{f:Nat->Str}:∀{is:List Nat}{ys:List V},Paired (λi v=>v=V.str (f i)) is ys->ys=(is.map f).map V.str
 |_,_,.nil=>rfl
 |_,_,.cons a r=>by rw[a,rP r];rfl
theorem n6{bv:Type}{P:Nat->V->Prop}{R:V->bv->Prop}{d:bv}:∀{l:List bv}{k:Nat}{ys:List V},Paired P (List.range' k l.length) ys->(∀i v,i<l.length->P (k+i) v->R v (l.getD i d))->Paired R ys l
 | [],_,_,h,_=>by cases h;exact .nil
 |a::l,k,_,h,aR=>by
  rw[List.length_cons,List.range'_succ] at h;cases h with
  |cons aN aQ=>
   refine .cons (by simpa using aR 0 _ (by simp) aN) (n6 (k:=k+1) (d:=d) aQ λi v aM aU=>?_);have:=aR (i+1) v (by simpa using aM) (by rw[show k+(i+1)=k+1+i by omega];exact aU);simpa using this
noncomputable def Fm.d (f:Fm):PyData:= .tuple [.int f.c,.tuple (f.ts.map λt=> .tuple [.int t.1,.int t.2])]
theorem rQ{K:Frag}{H:Hp}:∀{vs:List V}{ts:List (Int×Int)},e4 H vs ts->DRels K H vs (ts.map λt=> .tuple [.int t.1,.int t.2])
 |_,_,.nil=> .nil
 |_,_,.cons ⟨a,e,h⟩ r=>by rw[e];exact .cons (.tup (.of h) (.cons (.int _) (.cons (.int _) .nil))) (rQ r)
theorem n7{K:Frag}{H:Hp}{v:V}{f:Fm}(h:ey H v f):ev K H v f.d:=by
 obtain⟨a,cP,c8,rfl,aN,aQ,bJ⟩:=h;exact .tup (.of aN) (.cons (.int _) (.cons (.tup (.of aQ) (rQ bJ)) .nil))
theorem rR:∀ts:List (Int×Int),PyData.canLayAll0 (ts.map λt=>PyData.tuple [.int t.1,.int t.2])=true
 | []=>by simp[PyData.canLayAll0]
 |t::ts=>by
  have:=rR ts;rw[List.map_cons,PyData.canLayAll0,this];simp[PyData.canLay0,PyData.canLayAll0]
theorem lA(f:Fm):f.d.canLay0=true:=by
 have:=rR f.ts;unfold Fm.d;rw[PyData.canLay0,PyData.canLayAll0,PyData.canLayAll0,PyData.canLay0,PyData.canLay0,this]
 rfl
theorem n8:∀ts:List (Int×Int),PyData.depthAll (ts.map λt=>PyData.tuple [.int t.1,.int t.2])<=3
 | []=>by simp[PyData.depthAll]
 |t::ts=>by
  have:=n8 ts;rw[List.map_cons,PyData.depthAll];have aQ:(PyData.tuple [.int t.1,.int t.2]).depth<=3:=by simp[PyData.depth,PyData.depthAll]
  omega
theorem xn(f:Fm):f.d.depth<=60:=by
 have:=n8 f.ts;unfold Fm.d;simp only[PyData.depth,PyData.depthAll];omega
theorem lB(a2 kc:List Rw):c3 (a2++kc)=c3 a2++c3 kc:=by unfold c3;rw[Jk]
theorem Wn(a2 kc:List Rw):cl (a2++kc)=cl a2++cl kc:=by unfold cl;rw[Jk]
theorem n9:∀ls:List B5,c3 (ls.map Rw.bl)=[]
 | []=>rfl
 |_::ls=>n9 ls
theorem n_:∀ls:List B5,cl (ls.map Rw.bl)=ls
 | []=>rfl
 |b::ls=>congrArg (b:: ·) (n_ ls)
structure Wh(ns:List Str)(ls:List B5)(k:Nat)(a2:List Rw)(b':List B5):Prop where
 nm:c3 a2=ns.take k
 pm:(cl a2++b').Perm ls
 ok:∀i b,a2[i]? =some (.bl b)->OkB (c3 (a2.take i)).length b
 sz:a2.length=k+(cl a2).length
theorem Wh.work{ns:List Str}{ls:List B5}{k:Nat}{a2:List Rw}{b':List B5}(h:Wh ns ls k a2 b')(aT:k<ns.length):Wh ns ls (k+1) (a2++ [.wk ns[k]]) b' where
 nm:=by
  rw[lB,h.nm,Ju,Qa aT];rfl
 pm:=by rw[Wn];simpa[cl] using h.pm
 ok:=λi b e=>by
  by_cases aM:i<a2.length
  .rw[QI aM] at e;rw[Q0 (by omega)];exact h.ok i b e
  .rw[QO (by omega)] at e;cases bP:i-a2.length with
   |zero=>rw[bP] at e;cases e
   |succ j=>rw[bP] at e;simp at e
 sz:=by rw[Wn];simp[cl];have:=h.sz;unfold cl at this;omega
theorem Wh.belt{ns:List Str}{ls:List B5}{k:Nat}{a2:List Rw}{F R:List B5}{b:B5}(h:Wh ns ls k a2 (F++b::R))(aJ:OkB k b)(aT:k<=ns.length):Wh ns ls k (a2++ [.bl b]) (F++R) where
 nm:=by rw[lB,h.nm];simp[c3]
 pm:=by
  rw[Wn];have e:cl [Rw.bl b]=[b]:=rfl;rw[e,QN];refine List.Perm.trans (List.Perm.append_left _ ?_) h.pm;show(b::(F++R)).Perm (F++b::R);exact List.perm_middle.symm
 ok:=λi c e=>by
  by_cases aM:i<a2.length
  .rw[QI aM] at e;rw[Q0 (by omega)];exact h.ok i c e
  .rw[QO (by omega)] at e;cases bP:i-a2.length with
   |zero=>
    rw[bP] at e;have fz:c=b:=by cases e;rfl
    have gR:i=a2.length:=by omega
    rw[fz,gR,Q0 (Qb _),Q7,h.nm,Q5,Nat.min_eq_left aT];exact aJ
   |succ j=>rw[bP] at e;simp at e
 sz:=by rw[Wn];simp[cl];have:=h.sz;unfold cl at this;omega
theorem Wh.fin{ns:List Str}{ls:List B5}{a2:List Rw}{b':List B5}(h:Wh ns ls ns.length a2 b')(aS:YV ns)(nd:ns.Nodup)(fk:ns.length<=30)(jg:ls.length<=60)(aJ:∀b∈ls,OkB ns.length b):
  ZcZ ns (a2++b'.map Rw.bl)/\(cl (a2++b'.map Rw.bl)).Perm ls/\(a2++b'.map Rw.bl).length<=200:=by
 have a':c3 a2=ns:=by rw[h.nm,Q7]
 have iw:(cl (a2++b'.map Rw.bl)).Perm ls:=by rw[Wn,n_];exact h.pm
 have aK:(cl a2).length+b'.length=ls.length:=by have:=h.pm.length_eq;rwa [Qf] at this
 refine⟨⟨aS,nd,fk,by rw[lB,n9,a',Jh],by rw[iw.length_eq];exact jg,λi b e=>?_⟩,iw,by rw[Qf,Qc,h.sz];omega⟩
 by_cases aM:i<a2.length
 .rw[QI aM] at e;rw[Q0 (by omega)];exact h.ok i b e
 .rw[QO (by omega),QA] at e;have aZ:b∈b':=by
   cases be:b'[i-a2.length]? with
   |none=>rw[be] at e;cases e
   |some c=>rw[be] at e;cases e;exact Qv be
  have:(c3 ((a2++b'.map Rw.bl).take i))=ns:=by
   rw[List.take_append,QR (by omega),lB,a',<-List.map_take,n9,Jh]
  rw[this];exact aJ b (h.pm.mem_iff.mp (Qh _ aZ))
noncomputable def eK (k turn:Int) (b:B5):Bool:=decide (b.giver<=k)&&decide (b.taker<=k)&&decide (0<(k+turn) % 3)
theorem Zi2{a b:B5}(h:PyData.eqv a.d b.d=true):a=b:=by
 obtain⟨a1,bY,cq,c6,dG⟩:=a;obtain⟨b1,hD,xo,xp,xq⟩:=b;simp[B5.d,PyData.eqv,PyData.eqvAll] at h;simp[h]
theorem Zed{x:Str}(h:∀c∈Tx.tl x,c<=122):PyData.strOk x=true:=by
 unfold PyData.strOk;rw[Array.all_eq_true];intro i aM;have:=h x.cps[i] (by unfold Tx.tl;simp);exact decide_eq_true (by omega)
theorem ZgJ{x:Str}(h:c7 x=true):PyData.strOk x=true:=Zed λc aO=>(VV h aO).2
theorem Zdt{ns:List Str}{r:Rw}(aS:YV ns)(h:OkR ns r):PyData.strOk (bB ns r)=true:=Zed λc aO=>by
 have iv:∀{n:Int}{c:Nat},c∈Tx.tl (Tx.nS n)->c<=122:=λaO=>by rcases Tx.Zdf aO with h|h<;>omega
 unfold bB at aO;rw[fK] at aO;rcases Zc4 aO with gk|⟨p,aU,gk⟩
 all_goals clear aO
 .rw[show Tx.tl (" " :Str)=[32] by decide+kernel] at gk;have:=QC.mp gk;omega
 .obtain⟨w,hw,rfl⟩:=Qy.mp aU;cases r with
  |wk x=>
   have gj:w∈[("work" :Str),x]:=hw;simp only[Qi,QQ,or_false] at gj;rcases gj with rfl|rfl
   .have:∀c∈Tx.tl ("work" :Str),c<=122:=by decide+kernel
    exact this c gk
   .exact(VV h gk).2
  |bl b=>
   have aJ:OkB ns.length b:=h;have gj:w∈[("belt" :Str),nmS ns b.giver,Tx.nS b.give,Tx.nS b.take,nmS ns b.taker,Tx.nS b.start]:=hw;simp only[Qi,QQ,or_false] at gj;rcases gj with rfl|rfl|rfl|rfl|rfl|rfl
   .have:∀c∈Tx.tl ("belt" :Str),c<=122:=by decide+kernel
    exact this c gk
   .exact(VV (gi aS aJ.g0 aJ.g1) gk).2
   .exact iv gk
   .exact iv gk
   .exact(VV (gi aS aJ.t0 aJ.t1) gk).2
   .exact iv gk
noncomputable def kd:Rw->Bool
 | .wk _=>false
 | .bl _=>true
theorem ZiK(ns:List Str)(r:Rw):decide (Txt.slice (bB ns r) none (some 5)="belt ")=kd r:=by
 have eV:∀(w:Str)(rest:List Nat),w.length=5->Tx.tl (bB ns r)=Tx.tl w++rest->Txt.slice (bB ns r) none (some 5)=w:=λw rest hw e=>by
  have ea:(Tx.tl w).length=5:=by rw[<-Tx.Z1];exact hw
  have:=eq_of_beq (PyProof.Rows.slice_closes_to (x:=bB ns r) (j:=5) ⟨by decide,by
   show(5:Int)<=((Tx.tl (bB ns r)).length:Nat);rw[e,Qf];omega⟩)
  rw[this];apply Tx.Wc;show(List.take _ (List.drop _ (Tx.tl (bB ns r))))=_;rw[e];show(Tx.tl w++rest).take 5=_;rw[<-ea,JE rfl]
 cases r with
 |wk x=>
  rw[eV "work " (Tx.tl x) (by decide+kernel) (by rw[<-VC,Tx.Wf])];show decide (("work " :Str)="belt ")=false
  decide+kernel
 |bl b=>
  obtain⟨q,be⟩:∃q,Tx.tl (bB ns (.bl b))=Tx.tl ("belt " :Str)++q:=by
   refine⟨Tx.jl (Tx.tl (" " :Str)) ([nmS ns b.giver,Tx.nS b.give,Tx.nS b.take,nmS ns b.taker,Tx.nS b.start].map Tx.tl),?_⟩;unfold bB;rw[fK,show Tx.tl ("belt " :Str)=Tx.tl ("belt" :Str)++Tx.tl (" " :Str) by decide+kernel,QN]
   rfl
  rw[eV "belt " q (by decide+kernel) be];show decide (("belt " :Str)="belt ")=true
  decide+kernel
theorem rS{bv cT:Type}(c:bv->Bool)(f:bv->cT)(d:bv):∀(l:List bv)(k:Nat)(L:List bv),L.drop k=l->((List.range' k l.length).filter λi=>c (L.getD i d)).map (λi=>f (L.getD i d))=(l.filter c).map f
 | [],_,_,_=>rfl
 |a::l,k,L,h=>by
  have aT:k<L.length:=by
   have:=congrArg List.length h;rw[Q6,List.length_cons] at this;omega
  have d4:=List.drop_eq_getElem_cons aT;rw[h] at d4;have cD:L.getD k d=a:=by rw[Qd,Qa aT];exact(Jj d4).1.symm
  have bF:=rS c f d l (k+1) L (Jj d4).2.symm;rw[List.length_cons,List.range'_succ,Jz,Jz,cD]
  by_cases aO:c a=true
  .rw[if_pos aO,if_pos aO,List.map_cons,List.map_cons,cD,bF]
  .rw[if_neg aO,if_neg aO,bF]
theorem n':∀a2:List Rw,a2.filter kd=(cl a2).map Rw.bl
 | []=>rfl
 | .wk _::a2=>n' a2
 | .bl b::a2=>congrArg (Rw.bl b:: ·) (n' a2)
noncomputable def bI (b:B5):List Int:=[b.giver,b.taker,b.give,b.take,b.start]
theorem Zio{a b:B5}(h:bI a=bI b):a=b:=by
 obtain⟨a1,bY,cq,c6,dG⟩:=a;obtain⟨b1,hD,xo,xp,xq⟩:=b;simp[bI] at h;simp[h]
theorem oa{K:Frag}{H:Hp}:∀{vs:List V}{ls:List B5},cK H vs ls->Zgc K H 5 vs (ls.map bI)
 |_,_,.nil=> .nil
 |_,_,.cons ⟨t,e,h⟩ r=> .cons ⟨t,e,.of h,rfl⟩ (oa r)
theorem ob{H:Hp}{vs:List V}{ls:List B5}(h:cK H vs ls):∀{p:List Nat},(∀i∈p,i<vs.length)->cK H (p.map λi=>vs.getD i .non) (p.map λi=>ls.getD i ⟨0,0,0,0,0⟩)
 | [],_=> .nil
 |i::p,aU=>by
  obtain⟨x,y,bb,bh,aV⟩:=YR h (aU i (.head _));refine .cons ?_ (ob h λj bP=>aU j (.tail _ bP));simpa[List.getD,bb,bh] using aV
theorem Zht{ls ks:List B5}(h:ls.Perm ks){p q:List Nat}(aU:p.Perm (List.range ls.length))(be:q.Perm (List.range ks.length))(op:(p.map λi=>(ls.map bI).getD i []).Pairwise (λx y=>L2.Z8 y x=false))
  (xr:(q.map λi=>(ks.map bI).getD i []).Pairwise (λx y=>L2.Z8 y x=false)):(p.map λi=>ls.getD i ⟨0,0,0,0,0⟩)=q.map λi=>ks.getD i ⟨0,0,0,0,0⟩:=by
 have eV:∀{ls:List B5}{p:List Nat},p.Perm (List.range ls.length)->(p.map λi=>(ls.map bI).getD i []).Pairwise (λx y=>L2.Z8 y x=false)->(p.map λi=>ls.getD i ⟨0,0,0,0,0⟩).Perm ls/\(p.map λi=>ls.getD i ⟨0,0,0,0,0⟩).Pairwise (λx y=>L2.Z8 (bI y) (bI x)=false):=λ{ls p} aU op=>by
  refine⟨?_,?_⟩
  .have:=aU.map (λi=>ls.getD i ⟨0,0,0,0,0⟩)
   rwa [YY (λx=>x),List.map_id'] at this
  .have e:(p.map λi=>(ls.map bI).getD i [])=(p.map λi=>ls.getD i ⟨0,0,0,0,0⟩).map bI:=by
    rw[Qs];refine List.map_congr_left λi aM=>?_;have aK:i<ls.length:=by simpa using aU.mem_iff.mp aM
    simp[List.getD,aK]
   rw[e,List.pairwise_map] at op;exact op
 obtain⟨a1,bY⟩:=eV aU op;obtain⟨b1,hD⟩:=eV be xr;exact List.Perm.eq_of_pairwise (le:=λx y=>L2.Z8 (bI y) (bI x)=false) (λa b _ _ x y=>Zio (qH _ _ rfl y x)) bY hD (a1.trans (h.trans b1.symm))
theorem rT{ns:List Str}{ls:List B5}:Wh ns ls ns.length (ns.map Rw.wk) ls where
 nm:=by
  rw[Q7]
  induction ns with
  |nil=>rfl
  |cons x xs bF=>exact congrArg (x:: ·) bF
 pm:=by
  have:∀xs:List Str,cl (xs.map Rw.wk)=[]:=λxs=>by
   induction xs with
   |nil=>rfl
   |cons x xs bF=>exact bF
  rw[this];exact List.Perm.refl _
 ok:=λi b e=>by
  rw[QA] at e;cases h:ns[i]? with
  |none=>rw[h] at e;cases e
  |some x=>rw[h] at e;cases e
 sz:=by
  have:∀xs:List Str,cl (xs.map Rw.wk)=[]:=λxs=>by
   induction xs with
   |nil=>rfl
   |cons x xs bF=>exact bF
  rw[this];simp
local macro_rules| `(tactic|walk_at "rd")=>`(tactic|first|with_reducible (first|(show ∃a a3 fs,L2.V.ref _=L2.V.ref a/\_/\List.lookup _ fs=none/\_;refine Nm.ZfF (by with_reducible assumption) (by k_dflt (decide+kernel)) (by k_dflt (decide+kernel)) ?_)|(show L2.rStarts _ _ _ _;refine L2.Rd.ZhU ?_)|(show L2.tyV _ _ (L2.V.str _) _/\_;refine L2.Rd.tyS ?_)|(show L2.Zgx _ _ _ _;refine L2.Rd.fmt ?_)|(show(∃y,L2.V.str _=L2.V.str y/\_)\/_;refine L2.Rd.ZjW (by walk_at "side") ?_)|(show(∃y,L2.V.int _=L2.V.str y/\_)\/_;refine L2.Rd.Zkd (by with_reducible assumption) ?_)|(show L2.Zgv _ _ _ _ _;refine L2.Rd.jn2 ?_)|(show L2.Zgh _ _ _ _ _ _;refine L2.Rd.jn3 ?_)|(show ∃x,L2.V.str _=L2.V.str x/\_/\_;refine L2.Rd.jnS (by walk_at "side") ?_)|(show L2.rIntT _ _ _;refine L2.Rd.Zko (by with_reducible assumption) (by with_reducible assumption) ?_)|(show ∃j,[L2.V.int _]=[L2.V.int j]/\_/\_;refine L2.Rd.ZjN (by with_reducible assumption) ?_))|fail "none here")
inductive Ue(T:Tp K mg)(vs:List V)(H:Hp)(Q:VK)(b6:XK):Prop
 |mk (c w:Int) (cW:vs=[.int c,.int w]) (cv:0<=w) (cw:w<=1000000) (dW:Q (.int (fJ c w)) H):Ue T vs H Q b6
theorem Zgp{T:Tp K mg}{H:Hp}{Q:VK}{E:XK}{c w:Int}(ce:0<=w)(aN:w<=1000000)(q:∀m,m=fJ c w->0<=m->m<1000003->Q (.int m) H):Ue T ([.int c,.int w]++ []) H Q E:=⟨c,w,rfl,ce,aN,q _ rfl (w_ c w) (w' c w)⟩
local macro_rules| `(tactic|walk_at "rd")=>`(tactic|first|((with_reducible show Nm.Ue _ _ _ _ _);with_reducible refine Nm.Zgp (by walk_at "side") (by walk_at "side") (λ_ _ _ _=>?_))|fail "none here")
theorem fV:OkN P w base 1 T.C (Ue T):=by
 refine T.C.F.okX re (λvs H Q E h=>?_) (λbS A outer s H vs Q E aR h=>?_)
 .obtain⟨c,w,rfl,_⟩:=h
  rfl
 .have hu:=aR.hu;obtain⟨c,w,rfl,ce,aN,q⟩:=h;refine⟨_,(bp (cf (i:=2) re.nd rfl (Or.inl rfl) (bo dj (bo (cE K) (bo ii (pv 0) Zc) (bo ii (pv 1) Zc)) Zc))
     (bz (cg (bo dj (bo ii (pv 2) (bo (cE K) Zc (bo ii Zc (pv 1)))) Zc)))),?_⟩
  walk_at "a"
  nofun;rw[ZhT];exact q
inductive rV(T:Tp K mg)(vs:List V)(H:Hp)(Q:VK)(b6:XK):Prop
 |mk (c w:Int) (cW:vs=[.int c,.int w]) (cv:0<=w) (cw:w<=1000) (dW:∀x aH,c7 x=true->Ze H aH->Q (.str x) aH):rV T vs H Q b6
theorem rW:OkN P w base 2 T.x1 (rV T):=by
 refine T.x1.F.okX nZ (λvs H Q E h=>?_) (λbS A outer s H vs Q E aR h=>?_)
 .obtain⟨c,w,rfl,_⟩:=h
  rfl
 .have hu:=aR.hu;obtain⟨c,w,rfl,ce,aN,q⟩:=h;have al:=ru;refine⟨_,(bp (cf (i:=2) nZ.nd rfl (Or.inr rfl) Zw)
     (bp (cf (i:=3) nZ.nd rfl (Or.inl rfl) (bo (cE K) Zc (bo dj (bV T.C (fV T) aR bR (aP (pv 0) (aP (bo (cE K) (pv 1) Zc) aW))) Zc)))
     (bz (cg (eb (K:=K) rfl Qq QW QX (i8 (K:=K) rfl) Zw (aP (gJ rfl (eT (x:="_law_k") (zs:=["_law_cell_here","_law_way","_law_letters"]) (ix:=[0,1,2]) (bU nN) ["_law_cell_here","_law_way","_law_letters","_law_size"] rfl rfl (by decide+kernel)) (hV rfl T.j (aP (pv 3) aW)) (λbu C s H fp=>⟨(c9 (i:=0) (show(["_law_k","_law_cell_here","_law_way","_law_letters"]:List Str).Nodup by decide+kernel) rfl (Or.inl rfl)),e2,(cd (ixk K) (pv 3) (bo dj (bV T.C (fV T) aR Wd (aP (pv 1) (aP (bo (cE K) (pv 2) (bo ii Zc (pv 0))) aW))) Zc) (λ_ _=>rfl))⟩)) aW)))))),?_⟩
  walk_at "a"
  nofun;rename_i fW hmx mx0 mx1;refine Z7 (vV (lo:=0) (n:=(1+fW % 8).toNat)) (cV (by omega)) (λ_=>true) (λi=> .str ⟨#[97+(fJ c (w+5*(0+(i:Int))) % 26).toNat]⟩) (λi aH cC aM bC k=>?_) (λi aH cC aM _ bC k=>?_) (λp aH aU bC aK=>?_)
  .nofun;exact k aH (Ze.refl aH)
  .nofun;rename_i Bg hmz mz0 mz1;refine Rd.ZiZ al (rv (by omega) (by omega)) ?_;rw[hmz];exact k aH (Ze.refl aH)
  .rw[Qx.mpr (by simp)] at aK;have a':(1+fW % 8).toNat<=8/\1<=(1+fW % 8).toNat:=by omega
   generalize (1+fW % 8).toNat=n at*;have mF:aH p=some (.lst (((List.range n).map λi:Nat=>(⟨#[97+(fJ c (w+5*(0+(i:Int))) % 26).toNat]⟩:Str)).map V.str)):=by
    rw[aK,Qs];rfl
   nofun;refine⟨"",p,_,rfl,rfl,.of mF,?_,?_⟩
   .rw[Qs];have:((λx:Str=>x.length)∘λi:Nat=>(⟨#[97+(fJ c (w+5*(0+(i:Int))) % 26).toNat]⟩:Str))=λ_=>1:=rfl;rw[this];have e:∀l:List Nat,(l.map λ_=>1).sum=l.length:=λl=>by
     induction l with
     |nil=>rfl
     |cons a l bF=>rw[List.map_cons,List.sum_cons,bF,List.length_cons];omega
    rw[e,List.length_range];have:("" :Str).length=0:=rfl;rw[this];simp;omega
   .refine q _ aH (xb a'.2 a'.1 λi=>?_) bC;have:=JF (fJ c (w+5*(0+(i:Int)))) (show(26:Int)≠0 by decide);have:=Jr (fJ c (w+5*(0+(i:Int)))) (show(0:Int)<26 by decide);omega
inductive VA(T:Tp K mg)(vs:List V)(H:Hp)(Q:VK)(b6:XK):Prop
 |mk (p:Addr) (ns:List Int) (k:Int) (cW:vs=[.ref p,.int k]) (cv:SqL K H p (ns.map V.int)) (cw:0<=k) (dW:Q (.int (e3 ns k)) H):VA T vs H Q b6
theorem Zfj{T:Tp K mg}{H:Hp}{Q:VK}{E:XK}{p:Addr}{ns:List Int}{k:Int}(e7:SqL K H p (ns.map V.int))(aT:0<=k)(q:Q (.int (e3 ns k)) H):VA T ([.ref p,.int k]++ []) H Q E:=⟨p,ns,k,rfl,e7,aT,q⟩
local macro_rules| `(tactic|walk_at "rd")=>`(tactic|first|((with_reducible show Nm.VA _ _ _ _ _);with_reducible refine Nm.Zfj (by walk_at "hp") (by walk_at "side") ?_)|fail "none here")
theorem gS:OkN P w base 1 T.M (VA T):=by
 refine T.M.F.okX wJ (λvs H Q E h=>?_) (λbS A outer s H vs Q E aR h=>?_)
 .obtain⟨p,ns,k,rfl,_⟩:=h
  rfl
 .have hu:=aR.hu;obtain⟨p,ns,k,rfl,e7,aT,q⟩:=h;unfold e3 at q;refine⟨_,(bp (cO (cH jE (pv 1) (cJ (d5 K) (by rfl) T.c Qk (aP (pv 0) aW)) (cy _)) (bz (cg (cd (ixk K) (pv 0) (pv 1) (λ_ _=>rfl)))) cN)
     (bz (cg Zc))),?_⟩
  walk_at "a"
  nofun;refine Rd.ifD (λc=>?_) (λc=>?_)
  .have ck:k<ns.length:=by simpa using c
   have aS:=Zhz aT ck;rw[if_pos ck] at q;nofun;exact q
  .have ck:¬k<ns.length:=by simpa using c
   rw[if_neg ck] at q;nofun;exact q
inductive rX(T:Tp K mg)(vs:List V)(H:Hp)(Q:VK)(b6:XK):Prop
 |mk (p:Addr) (ns:List Int) (cW:vs=[.ref p]) (cv:SqL K H p (ns.map V.int)) (cw:∀q xs aH,H q=none->Ze H aH->aH q=some (.lst (xs.map V.str))->xs.Nodup->YV xs->1<=xs.length->xs.length<=30->Q (.ref q) aH):rX T vs H Q b6
theorem xt:OkN P w base 3 T.x3 (rX T):=by
 refine T.x3.F.okX gQ (λvs H Q E h=>?_) (λbS A outer s H vs Q E aR h=>?_)
 .obtain⟨p,ns,rfl,_⟩:=h
  rfl
 .have hu:=aR.hu;obtain⟨p,ns,rfl,aU,q⟩:=h;have al:=ru;refine⟨_,(bp (cf (i:=1) gQ.nd rfl (Or.inl rfl) Zw)
     (bp (cf (i:=2) gQ.nd rfl (Or.inl rfl) (fQ (aP (bV T.x1 (rW T) aR bR (aP (bV T.M (gS T) aR bR (aP (pv 0) (aP Zc aW))) (aP Zc aW))) aW)))
     (bp (fw PassesOwn.leaving rfl (hV rfl T.j (aP (bo dj (bV T.C (fV T) aR bR (aP (bV T.M (gS T) aR bR (aP (pv 0) (aP Zc aW))) (aP Zc aW))) Zc) aW)) (c9 (i:=3) gQ.nd rfl (Or.inl rfl)) (bp (cf (i:=4) gQ.nd rfl (Or.inl rfl) (bV T.M (gS T) aR bR (aP (pv 0) (aP (bo (cE K) Zc (pv 3)) aW))))
     (bp (cf (i:=5) gQ.nd rfl (Or.inl rfl) (bV T.C (fV T) aR bR (aP (pv 4) (aP (bo (cE K) Zc (pv 3)) aW))))
     (bp (cf (i:=6) gQ.nd rfl (Or.inl rfl) (bV T.x1 (rW T) aR bR (aP (pv 4) (aP (bo (cE K) Zc (pv 3)) aW))))
     (bp (hc (cO (cH iS (bo dj (pv 5) Zc) Zc (cy _)) (bp (cf (i:=7) gQ.nd rfl (Or.inl rfl) (cd (ixk K) (pv 2) Zc (λ_ _=>rfl)))
     (bp (cf (i:=8) gQ.nd rfl (Or.inl rfl) (bo dj (bo fA (pv 5) Zc) (cJ (d5 K) (by rfl) T.c Qk (aP (pv 7) aW))))
     (bz (cf (i:=6) gQ.nd rfl (Or.inl rfl) (bo (cE K) (bo (cE K) (iW (i7 (K:=K) rfl) (pv 7) iU (iV (pv 8))) (cd (ixk K) (pv 1) (bo dj (bo fA (pv 5) Zc) Zc) (λ_ _=>rfl))) (iW (i7 (K:=K) rfl) (pv 7) (iV (bo (cE K) (pv 8) Zc)) iU)))))) cN))
     (bz (cO (PW.pt (kE (cH (v4 (K:=K) rfl) (pv 6) (pv 2) (by with_unfolding_all rfl)) (mc (cH jE (cJ (d5 K) (by rfl) T.c Qk (aP (pv 2) aW)) Zc (cy _))))) (bz (eE (eb (K:=K) rfl Qr QD QE gF (pv 2) (aP (pv 6) aW)))) cN)))))))
     (bz (cg (pv 2)))))),?_⟩
  walk_at "a"
  nofun;refine⟨_,1,rfl,by decide,by decide,λx aL aV s1=>?_⟩;have fX:=s1.seq aU;nofun;intro b aJ;have bw:Ze aL (upd aL b (.lst [.str x])):=cu aJ;have gl:(upd aL b (.lst [.str x])) b=some (.lst [.str x]):=Zh;generalize upd aL b (.lst [.str x])=aY at*;have f':=bw.seq fX;have xu:=s1.trans bw;nofun;rename_i fW hmx mx0 mx1;refine Wk (n:=(fW % 31).toNat) (λi ao aH=>∃(xs:List Str)(a1 bY cq c6 dG dL:Option V),ao=[some (.ref p),some (.str "abcdefghijklmnopqrstuvwxyz"),some (.ref b),a1,bY,cq,c6,dG,dL]/\Ze H aH/\aH b=some (.lst (xs.map V.str))/\xs.Nodup/\YV xs/\1<=xs.length/\xs.length<=30) ⟨[x],_,_,_,_,_,_,rfl,xu,gl,by simp,λy bt=>(by rw[QC.mp bt];exact aV),by simp,by simp⟩ ?_ ?_
  .rintro i ao bx aM ⟨xs,a1,bY,cq,c6,dG,dL,rfl,b4,ez,nd,aS,l1,lC⟩;have jh:=b4.seq aU;have Bh:=SqL.of (K:=K) ez;nofun;rename_i dM hdr dr0 dr1;refine⟨_,_,rfl,by omega,by omega,λnm bM oc b5=>?_⟩;have hk:=b5 _ _ ez;have Bi:=SqL.of (K:=K) hk;have od:=b4.trans b5;nofun;refine Rd.cut (λa5 aH=>∃(y:Str)(dG dL:Option V),aH=bM/\c7 y=true/\a5=[some (.ref p),some (.str "abcdefghijklmnopqrstuvwxyz"),some (.ref b),some (.int (0+(i:Int))),some (.int (e3 ns (2+(0+(i:Int))))),some (.int dM),some (.str y),dG,dL]) ?k1 ?cI
   case cI=>
    nofun;refine Rd.ifD (λc=>?_) (λc=>?_)
    .obtain⟨e5,oe,ex⟩:∃e5 oe,xs=e5::oe:=by
      cases xs with
      |nil=>simp at l1
      |cons a b=>exact⟨a,b,rfl⟩
     have rY:c7 e5=true:=aS e5 (by rw[ex];exact .head _);have xv:atI (xs.map V.str) 0=some (.str e5):=by rw[ex];exact Vh (show((e5::oe).map V.str)[0]? =some (.str e5) from rfl)
     obtain⟨aN,aQ,bJ⟩:=(iu e5).mp rY;have Bj:e5.length<=sizeLine:=QF (cV (by omega));nofun;have ho:=JF (dM / 3) (show(e5.length:Int)≠0 by omega);have f0:=Jr (dM / 3) (show 0<(e5.length:Int) by omega);obtain⟨a,cD⟩:∃a:Nat,dM / 3 % (e5.length:Int)=(a:Int):=⟨(dM / 3 % (e5.length:Int)).toNat,by omega⟩;rw[cD] at f0|-;refine Rd.ZiZ al (rv (by omega) (by omega)) ?_;have t1:=Txt.slice_le e5 none (some (a:Int));have fH:=Txt.slice_le e5 (some ((a:Int)+1)) none;have fG:∀c:Nat,(⟨#[c]⟩:Str).length=1:=λ_=>rfl;refine Rd.ZgE (by rw[fG];exact QF (cV (by omega))) ?_;nofun;refine Rd.ZgE ?_ ?_
     .rw[Str.length_append,fG];exact QF (cV (by omega))
     .exact⟨_,_,_,rfl,xf rY (by omega) (by omega),rfl⟩
    .nofun;exact⟨nm,_,_,rfl,oc,rfl⟩
   case k1=>
    rintro a5 aH ⟨y,dG,dL,rfl,bt,rfl⟩;nofun
    by_cases aZ:y∈xs
    .rw[decide_eq_true aZ];nofun;exact⟨xs,_,_,_,_,_,_,rfl,od,hk,nd,aS,l1,lC⟩
    .rw[decide_eq_false aZ];nofun;refine Rd.ifD (λc=>?_) (λc=>?_)
     .have og:(xs.map V.str).length<sizeLine:=cV (by rw[Qc];omega);have cG:xs.length<30:=by simp at c;omega
      nofun;refine⟨xs++ [y],_,_,_,_,_,_,rfl,od.new (none_of s1 aJ),by rw[Zh,QK];rfl,Jm.mpr ⟨nd,by simp,λu hu v bO=>by rw[QC.mp bO];exact λe=>aZ (e▸hu)⟩,λu hu=>?_,by simp,by simp;omega⟩;rcases QJ.mp hu with z|z
      .exact aS u z
      .rw[QC.mp z];exact bt
     .nofun;exact⟨xs,_,_,_,_,_,_,rfl,od,hk,nd,aS,l1,lC⟩
  .rintro ao bx ⟨xs,a1,bY,cq,c6,dG,dL,rfl,b4,ez,nd,aS,l1,lC⟩;nofun;exact q b xs bx (none_of s1 aJ) b4 ez nd aS l1 lC
inductive rZ(T:Tp K mg)(vs:List V)(H:Hp)(Q:VK)(b6:XK):Prop
 |mk (p t:Addr) (ns:List Str) (b:B5) (cW:vs=[.ref p,.ref t]) (cv:SqL K H p (ns.map V.str)) (cw:H t=some (.tup b.v)) (dW:YV ns) (fl:OkB ns.length b) (hG:∀aH,Ze H aH->Q (.str (bB ns (.bl b))) aH):rZ T vs H Q b6
theorem xw:OkN P w base 1 T.x4 (rZ T):=by
 refine T.x4.F.okX wK (λvs H Q E h=>?_) (λbS A outer s H vs Q E aR h=>?_)
 .obtain⟨p,t,ns,b,rfl,_⟩:=h
  rfl
 .have hu:=aR.hu;obtain⟨p,t,ns,b,rfl,aU,bL,aS,aJ,q⟩:=h;have a1:=VT aJ.g0 aJ.g1;have bY:=VT aJ.t0 aJ.t1;have l1:=Tx.YE (d6 (QS (by decide) aJ.a0) aJ.a1);have l2:=Tx.YE (d6 (QS (by decide) aJ.b0) aJ.b1);have xg:=Tx.YE (d6 aJ.s0 aJ.s1);have xx:=n5 (r:= .bl b) aS aJ;refine⟨_,(bz (cg (eb (K:=K) rfl Qq QW QX (i8 (K:=K) rfl) Zw (aP (fQ (aP Zw (aP (cd (ixk K) (pv 0) (cd (ixk K) (pv 1) Zc (λ_ _=>rfl)) (λ_ _=>rfl)) (aP (dR gC (by rfl) T.h Qw (aP (cd (ixk K) (pv 1) Zc (λ_ _=>rfl)) aW)) (aP (dR gC (by rfl) T.h Qw (aP (cd (ixk K) (pv 1) Zc (λ_ _=>rfl)) aW)) (aP (cd (ixk K) (pv 0) (cd (ixk K) (pv 1) Zc (λ_ _=>rfl)) (λ_ _=>rfl)) (aP (dR gC (by rfl) T.h Qw (aP (cd (ixk K) (pv 1) Zc (λ_ _=>rfl)) aW)) aW))))))) aW)))),?_⟩
  walk_at "a"
  nofun;refine⟨by show 6<=sizeLine;decide,λu hu=>?_⟩;nofun;exact⟨" ",u,ew ns (.bl b),rfl,rfl,.of Zh,lz (m:=31) (k:=6) (λw hw=>(xx w hw).2) (Qb 6) (by decide+kernel),q _ (cu hu)⟩
inductive r0(vs:List V)(H:Hp)(Q:VK)(E:XK):Prop
 |mk (p:Addr) (aK:HM) (fp:List Addr) (cW:vs=[.ref p]) (cv:cZ T H p aK fp) (cw:∀r aH,H r=none->Ze H aH->aH r=some (.lst (aK.names.map V.str))->Q (.ref r) aH):r0 vs H Q E
theorem oh:OkM P w mg base 1 T.x5 (r0 T):=by
 have gm:=T.a;have gn:=T.e;refine T.x5.F.okX wL (λvs H Q E h=>?_) (λbS A outer s H vs Q E aR h=>?_)
 .obtain⟨p,aK,fp,rfl,_⟩:=h
  rfl
 .have hu:=aR.hu;obtain⟨p,aK,fp,rfl,c',q⟩:=h;obtain⟨a3,a,b,bs,rfl,aN,aQ,bJ,cx,fL,dg⟩:=id c';refine⟨_,(bz (cg (dR (v_ rfl) (by rfl) T.p QT (aP (fU (K:=K) rfl (pv 0) rfl) aW)))),?_⟩
  walk_at "a"
  nofun;intro l fo;rw[ZaC];exact q l _ fo (cu fo) Zh
inductive Wg(vs:List V)(H:Hp)(Q:VK)(b6:XK):Prop
 |mk (p:Addr) (aK:HM) (fp:List Addr) (cW:vs=[.ref p]) (cv:cZ T H p aK fp) (cw:∀(q:Addr)(aH:Hp)(bs:List V),H q=none->Ze H aH->aH q=some (.lst bs)->cK aH bs aK.belts->Q (.ref q) aH):Wg vs H Q b6
theorem Zcs{T:Tp K mg}{H:Hp}{Q:VK}{E:XK}{p:Addr}{aK:HM}{fp:List Addr}(h:cZ T H p aK fp)
  (q:∀(q:Addr)(aH:Hp)(bs:List V),H q=none->Ze H aH->aH q=some (.lst bs)->cK aH bs aK.belts->Q (.ref q) aH):Wg T (.ref p::([]++ [])) H Q E:=⟨p,aK,fp,rfl,h,q⟩
local macro_rules| `(tactic|walk_at "rd")=>`(tactic|first|((with_reducible show Nm.Wg _ _ _ _ _);with_reducible refine Nm.Zcs (by with_reducible assumption) ?_)|fail "none here")
theorem oi:OkM P w mg base 1 T.x6 (Wg T):=by
 have gm:=T.a;have gn:=T.e;refine T.x6.F.okX wM (λvs H Q E h=>?_) (λbS A outer s H vs Q E aR h=>?_)
 .obtain⟨p,aK,fp,rfl,_⟩:=h
  rfl
 .have hu:=aR.hu;obtain⟨p,aK,fp,rfl,c',q⟩:=h;obtain⟨a3,a,b,bs,rfl,aN,aQ,bJ,cx,fL,dg⟩:=id c';refine⟨_,(bz (cg (dR (k_ (K:=K) rfl) (by rfl) T.p QT (aP (fU (K:=K) rfl (pv 0) rfl) aW)))),?_⟩
  walk_at "a"
  nofun;refine Rd.Zac (.of cx) (λl fo=>?_);exact q l _ bs fo (cu fo) Zh (dg.keep ((cu fo).frame (A:=[])).tups)
inductive r1(vs:List V)(H:Hp)(Q:VK)(b6:XK):Prop
 |mk (p:Addr) (aK:HM) (fp:List Addr) (cW:vs=[.ref p]) (cv:cZ T H p aK fp) (cw:YV aK.names) (dW:aK.names.length<=30) (fl:aK.belts.length<=60) (hG:(∀b∈aK.belts,OkB aK.names.length b)) (lD:∀l aH,H l=none->Ze H aH->aH l=some (.lst (((hF aK).map (bB aK.names)).map V.str))->Q (.ref l) aH):r1 vs H Q b6
theorem oj:OkN P w base 2 T.x7 (r1 T):=by
 have gm:=T.a;have gn:=T.e;refine T.x7.F.okX rf (λvs H Q E h=>?_) (λbS A outer s H vs Q E aR h=>?_)
 .obtain⟨p,aK,fp,rfl,_⟩:=h
  rfl
 .have hu:=aR.hu;obtain⟨p,aK,fp,rfl,c',aS,fk,jg,aJ,q⟩:=h;refine⟨_,(bp (cf (i:=1) rf.nd rfl (Or.inr rfl) (i9 (pv 0) T.a T.x5 (oh T) aR bR))
     (bz (cg (bo (cE K) (gJ rfl (eT (x:="name") (zs:=[]) (ix:=[]) (bU lu) ["hall","names"] rfl rfl (by decide+kernel)) (ff (K:=K) rfl (pv 1)) (λbu C s H fp=>⟨(c9 (i:=0) (show(["name"]:List Str).Nodup by decide+kernel) rfl (Or.inl rfl)),e2,(ws Zw (nE (pv 0)))⟩)) (gJ rfl (eT (x:="row") (zs:=["names"]) (ix:=[1]) (bU lu) ["hall","names"] rfl rfl (by decide+kernel)) (ff (K:=K) rfl (i9 (pv 0) T.a T.x6 (oi T) aR bR)) (λbu C s H fp=>⟨(c9 (i:=0) (show(["row","names"]:List Str).Nodup by decide+kernel) rfl (Or.inl rfl)),e2,(bV T.x4 (xw T) aR Wd (aP (pv 1) (aP (pv 0) aW)))⟩)))))),?_⟩
  walk_at "a"
  nofun;refine⟨p,aK,fp,rfl,c',λr aL aR s1 ke=>?_⟩;have lE:=c'.same s1;have r2:("work " :Str).length=5:=by decide+kernel
  have sl:=QB;nofun;refine Z7 (fc (SqL.of ke)) (cV (by rw[Qc];omega)) (λ_=>true) (λi=> .str (bB aK.names (.wk (aK.names.getD i "")))) (λi aH cC aM bC k=>?_) (λi aH cC aM _ bC k=>?_) (λc aY aO bw kM=>?_)
  .nofun;exact k aH (Ze.refl aH)
  .have cj:i<aK.names.length:=by simpa using aM
   have e:(aK.names.map V.str).getD i .non= .str (aK.names.getD i ""):=by simp[List.getD,cj]
   have r3:=Yw (aS _ (show aK.names.getD i "" ∈aK.names by rw[Qd,Qa cj];exact Qm cj));rw[e];generalize aK.names.getD i "" =x at*;nofun;rw[VC aK.names];exact k aH (Ze.refl aH)
  have lF:=lE.same bw;nofun;intro hZ bT bs hr3 bA fM hT3;refine⟨hZ,rfl,⟨_,.of fM⟩,?_⟩;have xy:=bA _ _ (bw _ _ ke);have iy:=hT3.length;refine Z7 (fc (SqL.of fM)) (cV (by omega)) (λ_=>true) (λi=> .str (bB aK.names (.bl (aK.belts.getD i ⟨0,0,0,0,0⟩)))) (λi aH cC aM bC k=>?_) (λi aH cC aM _ bC k=>?_) (λd bx hd b4 r4=>?_)
  .nofun;exact k aH (Ze.refl aH)
  .have cj:i<aK.belts.length:=by omega
   obtain⟨t,hl,gT⟩:=hT3.at (Qa cj);have c2:bs.getD i .non= .ref t:=by simp[List.getD,hl]
   have hm:aK.belts.getD i ⟨0,0,0,0,0⟩=aK.belts[i]:=by simp[List.getD,cj]
   rw[c2];nofun;refine⟨r,t,aK.names,aK.belts[i],rfl,.of (bC _ _ xy),bC _ _ gT,aS,aJ _ (Qm cj),λbM b5=>?_⟩;rw[<-hm];exact k bM b5
  have r5:=b4 _ _ (bA _ _ kM);rw[Qx.mpr (by simp)] at r5 r4;refine Rd.ZeF r5 r4 (by simp only[Qc,List.length_range];omega) λl fo=>?_;refine q l _ (none_of (((s1.trans bw).trans bA).trans b4) fo) ((((s1.trans bw).trans bA).trans b4).trans (cu fo)) ?_;rw[Zh]
  congr 2
  unfold hF;rw[QK,QK,Qs,Qs,Qs,Qs]
  congr 1
  .apply List.ext_getElem
   .simp
   .intro i aN aQ;have aM:i<aK.names.length:=by simpa using aN
    simp[List.getD,aM]
  .apply List.ext_getElem
   .simp;omega
   .intro i aN aQ;have aM:i<aK.belts.length:=by simpa using aQ
    simp[List.getD,aM]
inductive r6(T:Tp K mg)(vs:List V)(H:Hp)(Q:VK)(b6:XK):Prop
 |mk (x:Str) (cW:vs=[.str x]) (cv:x.length<=sizeLine) (cw:∀aH,Ze H aH->Q (.bl (c7 x)) aH):r6 T vs H Q b6
noncomputable def letter (c:Nat):Bool:=decide (97<=c)&&decide (c<=122)
theorem r7(c d:Nat):decide ((⟨#[c]⟩:Str).cps.toList<(⟨#[d]⟩:Str).cps.toList)=decide (c<d):=by
 show decide ([c]< [d])=decide (c<d);have e:([c]< [d])↔c<d:=by
  constructor
  .intro h;cases h with
   |rel h=>exact h
   |cons h=>cases h
  .exact λh=> .rel h
 by_cases h:c<d
 .rw[decide_eq_true h,decide_eq_true (e.mpr h)]
 .rw[decide_eq_false h,decide_eq_false (λz=>h (e.mp z))]
theorem xA:("a" :Str)=⟨#[97]⟩:=by decide+kernel
theorem xB:("z" :Str)=⟨#[122]⟩:=by decide+kernel
theorem ZeG(x:Str):(((List.range x.cps.size).map λi=>letter (x.cps.getD i 0)).all id)=x.cps.toList.all letter:=by
 rw[List.all_map,Q2,QP,QP]
 constructor
 .intro h c aO;obtain⟨i,aM,rfl⟩:=Jf aO;have cj:i<x.cps.size:=by simpa using aM
  have:=h i (Jg.mpr cj);simpa[Array.getD,cj] using this
 .intro h i aM;have cj:=Jg.mp aM;have:=h x.cps[i] (by simp);simpa[Array.getD,cj] using this
theorem UG(x:Str):c7 x=(decide (1<=x.length)&&decide (x.length<=8)&&x.cps.toList.all letter):=rfl
theorem kf:OkN P w base 1 T.x8 (r6 T):=by
 refine T.x8.F.okX wN (λvs H Q E h=>?_) (λbS A outer s H vs Q E aR h=>?_)
 .obtain⟨x,rfl,_⟩:=h
  rfl
 .have hu:=aR.hu;obtain⟨x,rfl,aV,q⟩:=h;refine⟨_,(bp (cO (dX (dU (K:=K) rfl (cJ (gN (K:=K) rfl) (by rfl) T.b Ql (aP (pv 0) (aP (gv (v:= .ty "str") (by rfl) T.h Qw rfl) aW))) (λ_=>rfl))) (bz (cg Y4)) cN)
     (bp (cO (PW.pt (ed (cH jE (cJ (d5 K) (by rfl) T.c Qk (aP (pv 0) aW)) Zc (cy _)) (fv (cH iS (cJ (d5 K) (by rfl) T.c Qk (aP (pv 0) aW)) (jx (v:= .int 8) rfl T.w ⟨_,rfl⟩) (cy _))))) (bz (cg Y4)) cN)
     (bz (cg (cJ (nq (K:=K) rfl rfl) (by rfl) T.R Jy (aP (gJ rfl (eT (x:="sign") (zs:=[]) (ix:=[]) (bU nO) ["thing"] rfl rfl (by decide+kernel)) (qc (pv 0)) (λbu C s H fp=>⟨(c9 (i:=0) (show(["sign"]:List Str).Nodup by decide+kernel) rfl (Or.inl rfl)),e2,(pH k8 k8 Zw (pv 0) Zw)⟩)) aW)))))),?_⟩
  walk_at "a"
  nofun;refine WJ (λc=>?_) (λc=>?_)
  .have ck:¬1<=x.length:=by simp at c;omega
   nofun;have e:c7 x=false:=by rw[UG,decide_eq_false ck];rfl
   rw[<-e];exact q H (Ze.refl H)
  .have ck:1<=x.length:=by simp at c;omega
   nofun;refine WJ (λd=>?_) (λd=>?_)
   .have d':¬x.length<=8:=by simp at d;omega
    nofun;have e:c7 x=false:=by rw[UG,decide_eq_false d',JG];rfl
    rw[<-e];exact q H (Ze.refl H)
   .have d':x.length<=8:=by simp at d;omega
    have a':x.cps.size<sizeLine:=cV (by have:x.cps.size=x.length:=rfl;omega);nofun;refine Z7 Zck a' (λ_=>true) (λi=> .bl (letter (x.cps.getD i 0))) (λi aH cC aM bC k=>?_) (λi aH cC aM _ bC k=>?_) (λp aH aU bC aK=>?_)
    .nofun;exact k aH (Ze.refl aH)
    .nofun;rw[xA,xB,r7];generalize x.cps.getD i 0=cc at k|-;refine WJ (λz=>?_) (λz=>?_)
     .nofun;have e:(!decide (122<cc))=letter cc:=by
       have d3:97<=cc:=by simpa using z
       unfold letter;rw[decide_eq_true d3,Bool.true_and]
       by_cases y:cc<=122
       .rw[decide_eq_true y,decide_eq_false (by omega)];rfl
       .rw[decide_eq_false y,decide_eq_true (by omega)];rfl
      rw[r7,e];exact k aH (Ze.refl aH)
     .have e:false=letter cc:=by
       have d3:¬97<=cc:=by simpa using z
       unfold letter;rw[decide_eq_false d3];rfl
      rw[e];exact k aH (Ze.refl aH)
    .have fo:aH p=some (.lst (((List.range x.cps.size).map λi=>letter (x.cps.getD i 0)).map V.bl)):=by
      rw[aK,Qx.mpr (by simp),Qs];rfl
     nofun;rw[ZeG];have e:x.cps.toList.all letter=c7 x:=by rw[UG,decide_eq_true ck,decide_eq_true d'];rfl
     rw[e];exact q aH bC
inductive r8(T:Tp K mg)(vs:List V)(H:Hp)(Q:VK)(b6:XK):Prop
 |mk (p:Addr) (ns:List Str) (r:Rw) (cW:vs=[.ref p]) (cv:SqL K H p ((ew ns r).map V.str)) (cw:OkR ns r) (dW:∀aH,Ze H aH->Q (.bl (match r with| .wk _=>true| .bl _=>false)) aH):r8 T vs H Q b6
theorem xC:OkN P w base 2 T.x9 (r8 T):=by
 refine T.x9.F.okX wO (λvs H Q E h=>?_) (λbS A outer s H vs Q E aR h=>?_)
 .obtain⟨p,ns,r,rfl,_⟩:=h
  rfl
 .have hu:=aR.hu;obtain⟨p,ns,r,rfl,aU,bf,q⟩:=h;refine⟨_,(bz (cg (gA (hs (eU (K:=K) rfl hu) (cJ (d5 K) (by rfl) T.c Qk (aP (pv 0) aW)) Zc (cy _)) (gA (hs (eU (K:=K) rfl hu) (cd (ixk K) (pv 0) Zc (λ_ _=>rfl)) Zw (cy _)) (gZ (bV T.x8 (kf T) aR bR (aP (cd (ixk K) (pv 0) Zc (λ_ _=>rfl)) aW))))))),?_⟩
  walk_at "a"
  cases r with
  |wk x=>
   have ol:SqL K H p [.str "work",.str x]:=aU;have a':c7 x=true:=bf;nofun;refine⟨x,rfl,QF (cV (by have:=Yw a';omega)),λaH bC=>?_⟩;rw[a'];exact q aH bC
  |bl b=>
   have ol:SqL K H p [.str "belt",.str (nmS ns b.giver),.str (Tx.nS b.give),.str (Tx.nS b.take),.str (nmS ns b.taker),.str (Tx.nS b.start)]:=aU;nofun;exact q H (Ze.refl H)
inductive om(T:Tp K mg)(vs:List V)(H:Hp)(Q:VK)(b6:XK):Prop
 |mk (x:Str) (cW:vs=[.str x]) (cv:x.length<=sizeLine) (cw:∀aH,Ze H aH->Q (.bl (fj x)) aH):om T vs H Q b6
theorem Zhw(x:Str):(((List.range x.cps.size).map λi=>isDig (x.cps.getD i 0)).all id)=x.cps.toList.all isDig:=by
 rw[List.all_map,Q2,QP,QP]
 constructor
 .intro h c aO;obtain⟨i,aM,rfl⟩:=Jf aO;have cj:i<x.cps.size:=by simpa using aM
  have:=h i (Jg.mpr cj);simpa[Array.getD,cj] using this
 .intro h i aM;have cj:=Jg.mp aM;have:=h x.cps[i] (by simp);simpa[Array.getD,cj] using this
theorem lG:OkN P w base 1 T.S (om T):=by
 refine T.S.F.okX wP (λvs H Q E h=>?_) (λbS A outer s H vs Q E aR h=>?_)
 .obtain⟨x,rfl,_⟩:=h
  rfl
 .have hu:=aR.hu;obtain⟨x,rfl,aV,q⟩:=h;refine⟨_,(bp (cO (PW.pt (ed (cH jE (cJ (d5 K) (by rfl) T.c Qk (aP (pv 0) aW)) Zc (cy _)) (fv (cH iS (cJ (d5 K) (by rfl) T.c Qk (aP (pv 0) aW)) (jx (v:= .int 30) rfl T.x ⟨_,rfl⟩) (cy _))))) (bz (cg Y4)) cN)
     (bp (cO (dX (dU (K:=K) rfl (cJ (nq (K:=K) rfl rfl) (by rfl) T.R Jy (aP (gJ rfl (eT (x:="sign") (zs:=[]) (ix:=[]) (bU nP) ["text"] rfl rfl (by decide+kernel)) (qc (pv 0)) (λbu C s H fp=>⟨(c9 (i:=0) (show(["sign"]:List Str).Nodup by decide+kernel) rfl (Or.inl rfl)),e2,(pH k8 k8 Zw (pv 0) Zw)⟩)) aW)) (λ_=>rfl))) (bz (cg Y4)) cN)
     (bz (cg (uq (hs (eU (K:=K) rfl hu) (pv 0) Zw (cy _)) (gZ (md (eb (K:=K) rfl Qq PySem.F.slot_str_startswith PySem.F.type_str_startswith qy (pv 0) (aP Zw aW))))))))),?_⟩
  walk_at "a"
  nofun;refine WJ (λc=>?_) (λc=>?_)
  .have ck:¬1<=x.length:=by simp at c;omega
   nofun;have e:fj x=false:=by unfold fj;rw[decide_eq_false ck];rfl
   rw[<-e];exact q H (Ze.refl H)
  .have ck:1<=x.length:=by simp at c;omega
   nofun;refine WJ (λd=>?_) (λd=>?_)
   .have d':¬x.length<=30:=by simp at d;omega
    nofun;have e:fj x=false:=by unfold fj;rw[decide_eq_false d',JG];rfl
    rw[<-e];exact q H (Ze.refl H)
   .have d':x.length<=30:=by simp at d;omega
    have a':x.cps.size<sizeLine:=cV (by have:x.cps.size=x.length:=rfl;omega);nofun;refine Z7 Zck a' (λ_=>true) (λi=> .bl (isDig (x.cps.getD i 0))) (λi aH cC aM bC k=>?_) (λi aH cC aM _ bC k=>?_) (λp aH aU bC aK=>?_)
    .nofun;exact k aH (Ze.refl aH)
    .nofun;rw[rH,xi,rG];generalize x.cps.getD i 0=cc at k|-;refine WJ (λz=>?_) (λz=>?_)
     .nofun;have e:(!decide (57<cc))=isDig cc:=by
       have d3:48<=cc:=by simpa using z
       unfold isDig;rw[decide_eq_true d3,Bool.true_and]
       by_cases y:cc<=57
       .rw[decide_eq_true y,decide_eq_false (by omega)];rfl
       .rw[decide_eq_false y,decide_eq_true (by omega)];rfl
      rw[rG,e];exact k aH (Ze.refl aH)
     .have e:false=isDig cc:=by
       have d3:¬48<=cc:=by simpa using z
       unfold isDig;rw[decide_eq_false d3];rfl
      rw[e];exact k aH (Ze.refl aH)
    .have fo:aH p=some (.lst (((List.range x.cps.size).map λi=>isDig (x.cps.getD i 0)).map V.bl)):=by
      rw[aK,Qx.mpr (by simp),Qs];rfl
     nofun;rw[Zhw];cases aS:x.cps.toList.all isDig with
     |false=>
      nofun;have e:fj x=false:=by unfold fj;rw[aS,JG];rfl
      rw[<-e];exact q aH bC
     |true=>
      have e:fj x=(decide (x="0")|| !Txt.startswith x "0"):=by unfold fj;rw[aS,decide_eq_true ck,decide_eq_true d'];rfl
      nofun;refine WJ (λz=>?_) (λz=>?_)
      .rw[z,Bool.true_or] at e;rw[<-e];exact q aH bC
      .rw[show decide (x=("0" :Str))=false by simpa using z,Bool.false_or] at e;nofun;rw[<-e];exact q aH bC
inductive r9(T:Tp K mg)(vs:List V)(H:Hp)(Q:VK)(b6:XK):Prop
 |mk (p:Addr) (ns:List Str) (b:B5) (cW:vs=[.ref p]) (cv:SqL K H p ((ew ns (.bl b)).map V.str)) (cw:YV ns) (dW:OkB ns.length b) (fl:∀aH,Ze H aH->Q (.bl true) aH):r9 T vs H Q b6
theorem xD:OkN P w base 2 T.ap (r9 T):=by
 refine T.ap.F.okX wQ (λvs H Q E h=>?_) (λbS A outer s H vs Q E aR h=>?_)
 .obtain⟨p,ns,b,rfl,_⟩:=h
  rfl
 .have hu:=aR.hu;obtain⟨p,ns,b,rfl,aU,aS,aJ,q⟩:=h;have ol:SqL K H p [.str "belt",.str (nmS ns b.giver),.str (Tx.nS b.give),.str (Tx.nS b.take),.str (nmS ns b.taker),.str (Tx.nS b.start)]:=aU;have fg:=gi aS aJ.g0 aJ.g1;have et:=gi aS aJ.t0 aJ.t1;refine⟨_,(bp (cO (PW.pt (ed (cH (fe (K:=K) rfl hu) (cJ (d5 K) (by rfl) T.c Qk (aP (pv 0) aW)) Zc (cy _)) (fv (cH (fe (K:=K) rfl hu) (cd (ixk K) (pv 0) Zc (λ_ _=>rfl)) Zw (cy _))))) (bz (cg Y4)) cN)
     (bz (cg (gA (bV T.x8 (kf T) aR bR (aP (cd (ixk K) (pv 0) Zc (λ_ _=>rfl)) aW)) (gA (bV T.x8 (kf T) aR bR (aP (cd (ixk K) (pv 0) Zc (λ_ _=>rfl)) aW)) (gZ (cJ (nq (K:=K) rfl rfl) (by rfl) T.R Jy (aP (gJ rfl (eT (x:="place") (zs:=["words"]) (ix:=[0]) (bU nQ) ["words"] rfl rfl (by decide+kernel)) (j4 (K:=K) rfl (ht (aP Zc (aP Zc (aP Zc aW))))) (λbu C s H fp=>⟨(c9 (i:=0) (show(["place","words"]:List Str).Nodup by decide+kernel) rfl (Or.inl rfl)),e2,(bV T.S (lG T) aR Wd (aP (cd (ixk K) (pv 1) (pv 0) (λ_ _=>rfl)) aW))⟩)) aW)))))))),?_⟩
  walk_at "a"
  nofun;refine⟨_,rfl,QF (cV (by have:=Yw fg;omega)),λaL s1=>?_⟩;rw[fg];have fX:=s1.seq ol;nofun;refine⟨_,rfl,QF (cV (by have:=Yw et;omega)),λaY bw=>?_⟩;rw[et];have f':=bw.seq fX;nofun;unfold hU;nofun;refine⟨by show 3<=sizeLine;decide,λcP fq=>?_⟩;have bA:Ze aY (upd aY cP (.tup [.int 2,.int 3,.int 5])):=cu fq;have fM:SqT K (upd aY cP (.tup [.int 2,.int 3,.int 5])) cP [.int 2,.int 3,.int 5]:= .of Zh;generalize upd aY cP (.tup [.int 2,.int 3,.int 5])=bT at*;have xE:=bA.seq f';refine⟨cP,rfl,⟨_,fM⟩,?_⟩;refine Z7 (j1 fM) (by show 3<sizeLine;decide) (λ_=>true) (λ_=> .bl true) (λi aH cC aM bC k=>?_) (λi aH cC aM _ bC k=>?_) (λl aH aK bC bO=>?_)
  .nofun;exact k aH (Ze.refl aH)
  .have jh:=bC.seq xE;have eV:∀(n:Int)(z:Int),atI [V.str "belt",.str (nmS ns b.giver),.str (Tx.nS b.give),.str (Tx.nS b.take),.str (nmS ns b.taker),.str (Tx.nS b.start)] z=some (.str (Tx.nS n))->0<=n->n<10 ^ 30->kJ (om T) [] E0 (mw (tOp (rIx K) (ZbM 1) (ZbM 0)) tNil) [some (.int z),some (.ref p)] aH cC:=λn z e ce aN=>by
    nofun;refine⟨_,rfl,QF (cV (by have:=Tx.Yi (d6 ce aN);omega)),λbM b5=>?_⟩;rw[ZfO ce aN];exact k bM b5
   have Bk:i<3:=aM;rcases i with _|_|_|i
   .exact eV b.give 2 rfl (QS (by decide) aJ.a0) aJ.a1
   .exact eV b.take 3 rfl (QS (by decide) aJ.b0) aJ.b1
   .exact eV b.start 5 rfl aJ.s0 aJ.s1
   .omega
  .have kI:aH l=some (.lst (([true,true,true]:List Bool).map V.bl)):=bO;nofun;exact q aH (((s1.trans bw).trans bA).trans bC)
inductive r_(T:Tp K mg)(vs:List V)(H:Hp)(Q:VK)(b6:XK):Prop
 |mk (ns:List Str) (r:Rw) (cW:vs=[.str (bB ns r)]) (cv:YV ns) (cw:OkR ns r) (dW:∀l aH,H l=none->Ze H aH->aH l=some (.lst ((ew ns r).map V.str))->Q (.ref l) aH):r_ T vs H Q b6
theorem xF:OkN P w base 3 T.aq (r_ T):=by
 refine T.aq.F.okX rg (λvs H Q E h=>?_) (λbS A outer s H vs Q E aR h=>?_)
 .obtain⟨ns,r,rfl,_⟩:=h
  rfl
 .have hu:=aR.hu;obtain⟨ns,r,rfl,aS,bf,q⟩:=h;have b3:=Zdv aS bf;refine⟨_,(bp (cf (i:=1) rg.nd rfl (Or.inl rfl) (eb (K:=K) rfl Qq Jv Jw nD (pv 0) (aP Zw aW)))
     (bp (cO (PW.pt (kE (dX (dU (K:=K) rfl (bV T.x9 (xC T) aR bR (aP (pv 1) aW)) (λ_=>rfl))) (mc (dX (dU (K:=K) rfl (bV T.ap (xD T) aR bR (aP (pv 1) aW)) (λ_=>rfl)))))) (bz (gc T.i.g T.i.e Qp rfl (aP Zw aW))) cN)
     (bz (cg (pv 1))))),?_⟩
  walk_at "a"
  nofun;refine Rd.split (by decide+kernel) (by rw[QB];omega) λl aK=>?_;rw[ZfQ aS bf];have s1:Ze H (upd H l (.lst ((ew ns r).map V.str))):=cu aK;have ek:(upd H l (.lst ((ew ns r).map V.str))) l=some (.lst ((ew ns r).map V.str)):=Zh;generalize upd H l (.lst ((ew ns r).map V.str))=aL at*;nofun;refine⟨l,ns,r,rfl,.of ek,bf,λaY bw=>?_⟩;have gl:=bw _ _ ek;cases r with
  |wk x=>
   nofun;exact q l aY aK (s1.trans bw) gl
  |bl b=>
   nofun;refine⟨l,ns,b,rfl,.of gl,aS,bf,λbT bA=>?_⟩;have fM:=bA _ _ gl;nofun;exact q l bT aK ((s1.trans bw).trans bA) fM
inductive r'(vs:List V)(H:Hp)(Q:VK)(E:XK):Prop
 |mk (p:Addr) (x:Str) (aK:HM) (fp:List Addr) (cW:vs=[.ref p,.str x]) (cv:cZ T H p aK fp) (cw:x.length<=sizeLine) (dW:aK.names.Nodup) (fl:(¬(c7 x=true/\x∈aK.names)->∀aH,Ze H aH->E (.ref T.E) none aH)) (hG:(∀i:Nat,aK.names[i]? =some x->c7 x=true->∀aH,Ze H aH->Q (.int i) aH)):r' vs H Q E
theorem sb:OkM P w mg base 2 T.ad (r' T):=by
 have gm:=T.a;have gn:=T.e;refine T.ad.F.okX wR (λvs H Q E h=>?_) (λbS A outer s H vs Q E aR h=>?_)
 .obtain⟨p,x,aK,fp,rfl,_⟩:=h
  rfl
 .have hu:=aR.hu;obtain⟨p,x,aK,fp,rfl,c',aV,nd,bb,q⟩:=h;obtain⟨a3,a,b,bs,rfl,aN,aQ,bJ,cx,fL,dg⟩:=id c';refine⟨_,(bp (cO (PW.pt (ed (dX (dU (K:=K) rfl (bV T.x8 (kf T) aR bR (aP (pv 1) aW)) (λ_=>rfl))) (fv (cH (v7 hu) (pv 1) (fU (K:=K) rfl (pv 0) rfl) (by with_unfolding_all rfl))))) (bz (gc T.q.g T.q.e Qp rfl (aP Zw aW))) cN)
     (bz (cg (cd (v8 hu) (fU (K:=K) rfl (pv 0) rfl) (pv 1) (λ_ _=>rfl))))),?_⟩
  walk_at "a"
  nofun;refine⟨x,rfl,aV,λaL fr=>?_⟩;have g1:=fr _ _ aN;have g3:=fr _ _ bJ;cases a':c7 x with
  |false=>
   nofun;exact bb (λz=>by rw[a'] at z;cases z.1) aL fr
  |true=>
   nofun;rw[UI]
   by_cases c:x∈aK.names
   .rw[decide_eq_true c];obtain⟨i,aM,e⟩:=Jf c;have gR:aK.names[i]? =some x:=by rw[Qa aM,e]
    have bO:=ZfR nd gR;nofun;exact q i gR a' aL fr
   .rw[decide_eq_false c];nofun;exact bb (λz=>c z.2) aL fr
inductive WT(T:Tp K mg)(vs:List V)(H:Hp)(Q:VK)(b6:XK):Prop
 |mk (i:Int) (cW:vs=[.int i]) (cv:Q (.bl true) H):WT T vs H Q b6
theorem ZdE{T:Tp K mg}{H:Hp}{Q:VK}{E:XK}{i:Int}(q:Q (.bl true) H):WT T ([.int i]++ []) H Q E:=⟨i,rfl,q⟩
local macro_rules| `(tactic|walk_at "rd")=>`(tactic|first|((with_reducible show Nm.WT _ _ _ _ _);with_reducible refine Nm.ZdE ?_)|fail "none here")
theorem xG:OkN P w base 1 T.ar (WT T):=by
 refine T.ar.F.okX wS (λvs H Q E h=>?_) (λbS A outer s H vs Q E aR h=>?_)
 .obtain⟨i,rfl,_⟩:=h
  rfl
 .have hu:=aR.hu;obtain⟨i,rfl,q⟩:=h;refine⟨_,(bz (cg (gA (cJ (gN (K:=K) rfl) (by rfl) T.b Ql (aP (pv 0) (aP (gv (v:= .ty "int") (by rfl) T.o QM rfl) aW))) (gZ (md (cJ (gN (K:=K) rfl) (by rfl) T.b Ql (aP (pv 0) (aP (gv (v:= .ty "bool") (by rfl) T.Y PyProof.Rows.boot_bool rfl) aW)))))))),?_⟩
  walk_at "a"
  nofun;exact q
inductive Vc(T:Tp K mg)(vs:List V)(H:Hp)(Q:VK)(b6:XK):Prop
 |mk (i l:Int) (cW:vs=[.int i,.int l]) (cv:Q (.bl (decide (l<=i))) H):Vc T vs H Q b6
theorem ZeX{T:Tp K mg}{H:Hp}{Q:VK}{E:XK}{i l:Int}(q:Q (.bl (decide (l<=i))) H):Vc T ([.int i,.int l]++ []) H Q E:=⟨i,l,rfl,q⟩
local macro_rules| `(tactic|walk_at "rd")=>`(tactic|first|((with_reducible show Nm.Vc _ _ _ _ _);with_reducible refine Nm.ZeX ?_)|fail "none here")
theorem lH:OkN P w base 2 T.T (Vc T):=by
 refine T.T.F.okX wT (λvs H Q E h=>?_) (λbS A outer s H vs Q E aR h=>?_)
 .obtain⟨i,l,rfl,_⟩:=h
  rfl
 .have hu:=aR.hu;obtain⟨i,l,rfl,q⟩:=h;refine⟨_,(bz (cg (gA (bV T.ar (xG T) aR bR (aP (pv 0) aW)) (gZ (hs mm (pv 0) (pv 1) (cy _)))))),?_⟩
  walk_at "a"
  nofun;exact q
inductive sc(vs:List V)(H:Hp)(Q:VK)(E:XK):Prop
 |mk (i:Int) (cW:vs=[.int i]) (cv:(¬0<=i->E (.ref T.H) none H)) (cw:(0<=i->Q .non H)):sc vs H Q E
theorem xH:OkN P w base 3 T.au (sc T):=by
 refine T.au.F.okX wU (λvs H Q E h=>?_) (λbS A outer s H vs Q E aR h=>?_)
 .obtain⟨i,rfl,_⟩:=h
  rfl
 .have hu:=aR.hu;obtain⟨i,rfl,bb,q⟩:=h;refine⟨_,(bz (cO (dX (dU (K:=K) rfl (bV T.T (lH T) aR bR (aP (pv 0) (aP Zc aW))) (λ_=>rfl))) (bz (gc T.r.g T.r.e Qp rfl (aP Zw aW))) cN)),?_⟩
  walk_at "a"
  nofun
  by_cases c:0<=i
  .rw[decide_eq_true c];nofun;exact q c
  .rw[decide_eq_false c];nofun;exact bb c
inductive YF(T:Tp K mg)(vs:List V)(H:Hp)(Q:VK)(b6:XK):Prop
 |mk (i b:Int) (cW:vs=[.int i,.int b]) (cv:Q (.bl (decide (0<=i/\i<b))) H):YF T vs H Q b6
theorem UQ{T:Tp K mg}{H:Hp}{Q:VK}{E:XK}{i b:Int}(q:Q (.bl (decide (0<=i/\i<b))) H):YF T ([.int i,.int b]++ []) H Q E:=⟨i,b,rfl,q⟩
local macro_rules| `(tactic|walk_at "rd")=>`(tactic|first|((with_reducible show Nm.YF _ _ _ _ _);with_reducible refine Nm.UQ ?_)|fail "none here")
theorem xI:OkN P w base 3 T.av (YF T):=by
 refine T.av.F.okX wV (λvs H Q E h=>?_) (λbS A outer s H vs Q E aR h=>?_)
 .obtain⟨i,b,rfl,_⟩:=h
  rfl
 .have hu:=aR.hu;obtain⟨i,b,rfl,q⟩:=h;refine⟨_,(bz (cg (gA (bV T.T (lH T) aR bR (aP (pv 0) (aP Zc aW))) (gZ (hs jE (pv 0) (pv 1) (cy _)))))),?_⟩
  walk_at "a"
  nofun;refine WJ (λc=>?_) (λc=>?_)
  .have ck:0<=i:=of_decide_eq_true c;nofun;have e:decide (i<b)=decide (0<=i/\i<b):=by rw[decide_eq_decide];exact⟨λz=>⟨ck,z⟩,λz=>z.2⟩
   rw[e];exact q
  .have ck:¬0<=i:=λz=>c (decide_eq_true z);nofun;have e:false=decide (0<=i/\i<b):=(decide_eq_false (λz=>ck z.1)).symm;rw[e];exact q
inductive sd(vs:List V)(H:Hp)(Q:VK)(E:XK):Prop
 |mk (p:Addr) (i:Int) (aK:HM) (fp:List Addr) (cW:vs=[.ref p,.int i]) (cv:cZ T H p aK fp) (cw:(¬(0<=i/\i<aK.names.length)->E (.ref T.F) none H)) (dW:(0<=i->i<aK.names.length->Q .non H)):sd vs H Q E
theorem se:OkM P w mg base 4 T.ae (sd T):=by
 have gm:=T.a;have gn:=T.e;refine T.ae.F.okX wW (λvs H Q E h=>?_) (λbS A outer s H vs Q E aR h=>?_)
 .obtain⟨p,i,aK,fp,rfl,_⟩:=h
  rfl
 .have hu:=aR.hu;obtain⟨p,i,aK,fp,rfl,c',bb,q⟩:=h;obtain⟨a3,a,b,bs,rfl,aN,aQ,bJ,cx,fL,dg⟩:=id c';refine⟨_,(bz (cO (dX (dU (K:=K) rfl (bV T.av (xI T) aR bR (aP (pv 1) (aP (cJ ZeL (by rfl) T.c Qk (aP (fU (K:=K) rfl (pv 0) rfl) aW)) aW))) (λ_=>rfl))) (bz (gc T.G.g T.G.e Qp rfl (aP Zw aW))) cN)),?_⟩
  walk_at "a"
  nofun;rw[Ve]
  by_cases c:0<=i/\i<aK.names.length
  .rw[decide_eq_true c];nofun;exact q c.1 c.2
  .rw[decide_eq_false c];nofun;exact bb c
inductive sj(vs:List V)(H:Hp)(Q:VK)(E:XK):Prop
 |mk (p u:Addr) (b:B5) (aK:HM) (fp:List Addr) (cW:vs=[.ref p,.ref u]) (cv:cZ T H p aK fp) (cw:H u=some (.tup b.v)) (dW:aK.belts.length<=1000) (fl:∀(aH:Hp)(c4:List Addr),cZ T aH p ⟨aK.names,aK.belts++ [b]⟩ c4->Z3 fp H aH->Ww fp c4 H->Q (.int aK.belts.length) aH):sj vs H Q E
theorem xJ:OkM P w mg base 1 T.aw (sj T):=by
 have gm:=T.a;have gn:=T.e;refine T.aw.F.okX wX (λvs H Q E h=>?_) (λbS A outer s H vs Q E aR h=>?_)
 .obtain⟨p,u,b,aK,fp,rfl,_⟩:=h
  rfl
 .have hu:=aR.hu;obtain⟨p,u,b,aK,fp,rfl,c',ji,hz,q⟩:=h;obtain⟨a3,a,fY,bs,rfl,aN,aQ,bJ,cx,fL,dg⟩:=id c';have lI:p≠fY:=hN aN cx (by intro z;cases z);have on:a3≠fY:=hN aQ cx (by intro z;cases z);have Bl:u≠fY:=hN ji cx (by intro z;cases z);have io:bs.length<sizeLine:=cV (by rw[dg.length];exact hz);have sk:=dg.length;refine⟨_,(bp (eE (eb (K:=K) rfl Qr QD QE gF (fU (K:=K) rfl (pv 0) rfl) (aP (pv 1) aW)))
     (bz (cg (bo g8 (cJ (d5 K) (by rfl) T.c Qk (aP (fU (K:=K) rfl (pv 0) rfl) aW)) Zc)))),?_⟩
  walk_at "a"
  nofun;have k1:(upd H fY (.lst (bs++ [.ref u]))) p=some (.ins T.f a3 [("numbers",.ref a),("rows",.ref fY)]):=by rw[bX lI];exact aN
  have kg:(upd H fY (.lst (bs++ [.ref u]))) fY=some (.lst (bs++ [.ref u])):=Zh;nofun;have hm:((bs++ [V.ref u]).length:Int)-1=aK.belts.length:=by simp[sk]
  rw[hm];have dm:Z3 [p,a3,a,fY] H (upd H fY (.lst (bs++ [.ref u]))):=gM (by simp) cx (by intro _ z;cases z);refine q _ [p,a3,a,fY] ⟨a3,a,fY,_,rfl,k1,?_,?_,kg,fL,(dg.keep dm.tups).snoc (dm.tups _ _ ji)⟩ dm Ww.refl
  .rw[bX on];exact aQ
  .rw[bX fL];exact bJ
inductive kh(vs:List V)(H:Hp)(Q:VK)(E:XK):Prop
 |mk (p:Addr) (b:B5) (aK:HM) (fp:List Addr) (cW:vs= .ref p::b.v) (cv:cZ T H p aK fp) (cw:aK.belts.length<=1000) (dW:(¬(0<=b.giver/\b.giver<aK.names.length/\0<=b.taker/\b.taker<aK.names.length)->∀aH,Ze H aH->E (.ref T.F) none aH)) (fl:((0<=b.giver/\b.giver<aK.names.length/\0<=b.taker/\b.taker<aK.names.length)->¬(1<=b.give/\1<=b.take/\0<=b.start)->∀aH,Ze H aH->E (.ref T.H) none aH)) (hG:((0<=b.giver/\b.giver<aK.names.length/\0<=b.taker/\b.taker<aK.names.length)->(1<=b.give/\1<=b.take/\0<=b.start)->60<=aK.belts.length->∀aH,Ze H aH->E (.ref T.y) none aH)) (lD:((0<=b.giver/\b.giver<aK.names.length/\0<=b.taker/\b.taker<aK.names.length)->(1<=b.give/\1<=b.take/\0<=b.start)->aK.belts.length<60->∀(aH:Hp)(c4:List Addr),cZ T aH p ⟨aK.names,aK.belts++ [b]⟩ c4->Z3 fp H aH->Ww fp c4 H->Q (.int aK.belts.length) aH)):kh vs H Q E
theorem UM{T:Tp K mg}{H:Hp}{Q:VK}{E:XK}{p:Addr}{g t hH cX st:Int}{aK:HM}{fp:List Addr}(h:cZ T H p aK fp)
  (aN:0<=g) (aQ:g<aK.names.length) (bJ:0<=t) (cx:t<aK.names.length) (ea:1<=hH) (dg:1<=cX) (xK:0<=st) (cU:aK.belts.length<60)
  (q:∀(aH:Hp)(c4:List Addr),cZ T aH p ⟨aK.names,aK.belts++ [⟨g,t,hH,cX,st⟩]⟩ c4->Z3 fp H aH->Ww fp c4 H->Q (.int aK.belts.length) aH):kh T [.ref p,.int g,.int t,.int hH,.int cX,.int st] H Q E:=
 ⟨p,⟨g,t,hH,cX,st⟩,aK,fp,rfl,h,by omega,λz=>absurd ⟨aN,aQ,bJ,cx⟩ z,λ_ z=>absurd ⟨ea,dg,xK⟩ z,λ_ _ z=>absurd z (by omega),λ_ _ _=>q⟩
theorem sm:Yp P w K mg base (CXX P w) 5 T.k T.l ["self","giver","taker","give","take","start"] (kh T):=by
 have gm:=T.a;have gn:=T.e;refine T.B.okX wY (λvs H Q E h=>?_) (λbS A outer s H vs Q E aR h=>?_)
 .obtain⟨p,b,aK,fp,rfl,_⟩:=h
  rfl
 .have hu:=aR.hu;obtain⟨p,b,aK,fp,rfl,c',hz,bb,bh,di,q⟩:=h;obtain⟨a3,a,fY,bs,rfl,aN,aQ,bJ,cx,fL,dg⟩:=id c';obtain⟨g,t,hH,cX,st⟩:=b;have sk:=dg.length;refine⟨_,(bp (eE (ik (pv 0) T.a T.ae (se T) aR bR (aP (pv 1) aW)))
     (bp (eE (ik (pv 0) T.a T.ae (se T) aR bR (aP (pv 2) aW)))
     (bp (cO (PW.pt (ed (dX (dU (K:=K) rfl (bV T.T (lH T) aR bR (aP (pv 3) (aP Zc aW))) (λ_=>rfl))) (fv (dX (dU (K:=K) rfl (bV T.T (lH T) aR bR (aP (pv 4) (aP Zc aW))) (λ_=>rfl)))))) (bz (gc T.r.g T.r.e Qp rfl (aP Zw aW))) cN)
     (bp (eE (bV T.au (xH T) aR bR (aP (pv 5) aW)))
     (bp (cO (cH mm (cJ (d5 K) (by rfl) T.c Qk (aP (fU (K:=K) rfl (pv 0) rfl) aW)) (jx (v:= .int 60) rfl T.z ⟨_,rfl⟩) (cy _)) (bz (gc T.m.g T.m.e Qp rfl (aP Zw aW))) cN)
     (bz (cg (ik (pv 0) T.a T.aw (xJ T) aR bR (aP (ht (aP (pv 1) (aP (pv 2) (aP (pv 3) (aP (pv 4) (aP (pv 5) aW)))))) aW))))))))),?_⟩
  walk_at "a"
  dsimp only[B5.v] at*;nofun;refine⟨p,g,aK,_,rfl,c',λz=>bb (by omega) H (Ze.refl H),λg0 g1=>?_⟩;nofun;refine⟨p,t,aK,_,rfl,c',λz=>bb (by omega) H (Ze.refl H),λt0 t1=>?_⟩;have em:0<=g/\g<aK.names.length/\0<=t/\t<aK.names.length:=⟨g0,g1,t0,t1⟩;nofun
  by_cases c:1<=hH
  .rw[decide_eq_true c];nofun
   by_cases d:1<=cX
   .rw[decide_eq_true d];nofun;refine⟨st,rfl,λz=>bh em (by omega) H (Ze.refl H),λf=>?_⟩;nofun;refine Rd.ifD (λl=>?_) (λl=>?_)
    .nofun;exact di em (by omega) (by omega) H (Ze.refl H)
    nofun;refine⟨by show 5<=sizeLine;decide,λu ji=>?_⟩;have sn:Ze H (upd H u (.tup [.int g,.int t,.int hH,.int cX,.int st])):=cu ji;have xL:=c'.same sn;nofun;refine⟨p,u,⟨g,t,hH,cX,st⟩,aK,_,rfl,xL,Zh,hz,λaH c4 lF dm gr=>?_⟩;refine q em (by omega) (by omega) aH c4 lF (sn.frame.trans dm) (λx aV=>?_);rcases gr x aV with z|z
    .exact .inl z
    .refine .inr ?_;cases e:H x with
     |none=>rfl
     |some o=>rw[sn _ _ e] at z;cases z
   .rw[decide_eq_false d];nofun;exact bh em (by omega) H (Ze.refl H)
  .rw[decide_eq_false c];nofun;exact bh em (by omega) H (Ze.refl H)
inductive oo(vs:List V)(H:Hp)(Q:VK)(E:XK):Prop
 |mk (p:Addr) (x:Str) (aK:HM) (fp:List Addr) (cW:vs=[.ref p,.str x]) (cv:cZ T H p aK fp) (cw:x.length<=sizeLine) (dW:aK.names.length<=1000) (fl:(c7 x=false->∀aH,Ze H aH->E (.ref T.E) none aH)) (hG:(c7 x=true->x∈aK.names->∀aH,Ze H aH->E (.ref T.ac) none aH)) (lD:(c7 x=true->x∉aK.names->30<=aK.names.length->∀aH,Ze H aH->E (.ref T.y) none aH)) (sr:(c7 x=true->x∉aK.names->aK.names.length<30->∀(aH:Hp)(c4:List Addr),cZ T aH p ⟨aK.names++ [x],aK.belts⟩ c4->Z3 fp H aH->Ww fp c4 H->Q (.int aK.names.length) aH)):oo vs H Q E
theorem Ux{T:Tp K mg}{H:Hp}{Q:VK}{E:XK}{p:Addr}{x:Str}{aK:HM}{fp:List Addr}(h:cZ T H p aK fp)(a':c7 x=true)(aV:x∉aK.names)(cU:aK.names.length<30)
  (q:∀(aH:Hp)(c4:List Addr),cZ T aH p ⟨aK.names++ [x],aK.belts⟩ c4->Z3 fp H aH->Ww fp c4 H->Q (.int aK.names.length) aH):oo T (.ref p::([.str x]++ [])) H Q E:=by
 have xM:x.length<=sizeLine:=by
  have:x.length<=8:=by
   have e:=a';unfold c7 at e;simp only[Qz,decide_eq_true_eq] at e;exact e.1.2
  exact QF (cV (by omega))
 exact⟨p,x,aK,fp,rfl,h,xM,by omega,λz=>(by rw[a'] at z;cases z),λ_ z=>absurd z aV,λ_ _ z=>absurd z (by omega),λ_ _ _=>q⟩
theorem ss:OkM P w mg base 2 T.af (oo T):=by
 have gm:=T.a;have gn:=T.e;refine T.af.F.okX rh (λvs H Q E h=>?_) (λbS A outer s H vs Q E aR h=>?_)
 .obtain⟨p,x,aK,fp,rfl,_⟩:=h
  rfl
 .have hu:=aR.hu;obtain⟨p,x,aK,fp,rfl,c',aV,hz,bb,bh,di,q⟩:=h;obtain⟨a3,a,b,bs,rfl,aN,aQ,bJ,cx,fL,dg⟩:=id c';have jj:p≠a:=hN aN bJ (by intro z;cases z);have oq:a3≠a:=hN aQ bJ (by intro z;cases z);refine⟨_,(bp (cO (dX (dU (K:=K) rfl (bV T.x8 (kf T) aR bR (aP (pv 1) aW)) (λ_=>rfl))) (bz (gc T.q.g T.q.e Qp rfl (aP Zw aW))) cN)
     (bp (cO (cH (v6 hu) (pv 1) (fU (K:=K) rfl (pv 0) rfl) (by with_unfolding_all rfl)) (bz (gc T.N.g T.N.e Qp rfl (aP Zw aW))) cN)
     (bp (cO (cH mm (cJ ZeL (by rfl) T.c Qk (aP (fU (K:=K) rfl (pv 0) rfl) aW)) (jx (v:= .int 30) rfl T.A ⟨_,rfl⟩) (cy _)) (bz (gc T.m.g T.m.e Qp rfl (aP Zw aW))) cN)
     (bp (cf (i:=2) rh.nd rfl (Or.inl rfl) (cJ ZeL (by rfl) T.c Qk (aP (fU (K:=K) rfl (pv 0) rfl) aW)))
     (bp (uu (pv 2) (ut (fU (K:=K) rfl (pv 0) rfl) (pv 1) (v9 hu)))
     (bz (cg (pv 2)))))))),?_⟩
  walk_at "a"
  nofun;refine⟨x,rfl,aV,λaL fr=>?_⟩;have g1:=fr _ _ aN;have g3:=fr _ _ bJ;have io:(eJ aK.names).length<sizeLine:=cV (by rw[Ve];exact hz);nofun;cases a':c7 x with
  |false=>
   nofun;exact bb a' aL fr
  |true=>
   nofun;rw[UI];refine WJ (λc=>?_) (λc=>?_)
   .nofun;exact bh a' (of_decide_eq_true c) aL fr
   .have ck:x∉aK.names:=λz=>c (decide_eq_true z);nofun;rw[Ve];refine WJ (λd=>?_) (λd=>?_)
    .have d':30<=aK.names.length:=by simp at d;omega
     nofun;exact di a' ck d' aL fr
    .have d':aK.names.length<30:=by simp at d;omega
     nofun;rw[Ve,w9 ck];have dm:Z3 [p,a3,a,b] H (upd aL a (.dK (eJ (aK.names++ [x])))):=fr.frame.trans (gM (by simp) g3 (by intro _ z;cases z));refine q a' ck d' _ [p,a3,a,b] ⟨a3,a,b,bs,rfl,?_,?_,Zh,?_,fL,dg.keep dm.tups⟩ dm Ww.refl
     .rw[bX jj];exact g1
     .rw[bX oq];exact fr _ _ aQ
     .rw[bX fL.symm];exact fr _ _ cx
theorem ot:∀{xs:List Str}{i j:Nat}{x:Str},xs.Nodup->xs[i]? =some x->xs[j]? =some x->i=j
 |_::_,0,0,_,_,_,_=>rfl
 |y::ys,0,j+1,x,nd,aN,aQ=>by
  have e:y=x:=by simpa using aN
  exact absurd (Qv (by simpa using aQ:ys[j]? =some x)) (e▸(Q3.mp nd).1)
 |y::ys,i+1,0,x,nd,aN,aQ=>by
  have e:y=x:=by simpa using aQ
  exact absurd (Qv (by simpa using aN:ys[i]? =some x)) (e▸(Q3.mp nd).1)
 |y::ys,i+1,j+1,x,nd,aN,aQ=>congrArg (· +1) (ot (Q3.mp nd).2 (show ys[i]? =some x by simpa using aN) (by simpa using aQ))
inductive su(vs:List V)(H:Hp)(Q:VK)(b6:XK):Prop
 |mk (p q:Addr) (aK:HM) (fp:List Addr) (r:Rw) (cW:vs=[.ref p,.ref q]) (cv:cZ T H p aK fp) (cw:SqL K H q ((ew aK.names r).map V.str)) (dW:YV aK.names) (fl:aK.names.Nodup) (hG:OkR aK.names r) (lD:aK.names.length<=30) (sr:(∀x,r= .wk x->x∉aK.names/\aK.names.length<30)) (xN:(∀b,r= .bl b->aK.belts.length<60)) (xO:∀(v:V)(aH:Hp)(c4:List Addr),cZ T aH p (xk aK r) c4->Z3 fp H aH->Ww fp c4 H->Q v aH):su vs H Q b6
theorem xP:OkN P w base 6 T.ax (su T):=by
 have ou:Yp P w K mg base (CXX P w) 5 T.k T.l ["self","giver","taker","give","take","start"] (kh T):=(sm T).mono (by decide);have gm:=T.a;have gn:=T.e;refine T.ax.F.okX n0 (λvs H Q E h=>?_) (λbS A outer s H vs Q E aR h=>?_)
 .obtain⟨p,q,aK,fp,r,rfl,_⟩:=h
  rfl
 .have hu:=aR.hu;obtain⟨p,q,aK,fp,r,rfl,c',be,aS,nd,bf,fk,hw,jg,k⟩:=h;refine⟨_,(bp (cO (cH (eU (K:=K) rfl hu) (cd (ixk K) (pv 1) Zc (λ_ _=>rfl)) Zw (cy _)) (bz (cg (ik (pv 0) T.a T.af (ss T) aR bR (aP (cd (ixk K) (pv 1) Zc (λ_ _=>rfl)) aW)))) cN)
     (bp (cf (i:=2) n0.nd rfl (Or.inl rfl) (ik (pv 0) T.a T.ad (sb T) aR bR (aP (cd (ixk K) (pv 1) Zc (λ_ _=>rfl)) aW)))
     (bp (cf (i:=3) n0.nd rfl (Or.inl rfl) (ik (pv 0) T.a T.ad (sb T) aR bR (aP (cd (ixk K) (pv 1) Zc (λ_ _=>rfl)) aW)))
     (bz (cg (mz (pv 0) T.a T.t ou aR T.u .nil bR (aP (pv 2) (aP (pv 3) (aP (dR jb (by rfl) T.o QM (aP (cd (ixk K) (pv 1) Zc (λ_ _=>rfl)) aW)) (aP (dR jb (by rfl) T.o QM (aP (cd (ixk K) (pv 1) Zc (λ_ _=>rfl)) aW)) (aP (dR jb (by rfl) T.o QM (aP (cd (ixk K) (pv 1) Zc (λ_ _=>rfl)) aW)) aW))))))))))),?_⟩
  walk_at "a"
  cases r with
  |wk x=>
   have fR:SqL K H q [.str "work",.str x]:=be;obtain⟨aV,xQ⟩:=hw x rfl;have a':c7 x=true:=bf;nofun;exact Ux c' a' aV xQ λaH c4 aN aQ bJ=>k _ aH c4 aN aQ bJ
  |bl b=>
   have fR:SqL K H q [.str "belt",.str (nmS aK.names b.giver),.str (Tx.nS b.give),.str (Tx.nS b.take),.str (nmS aK.names b.taker),.str (Tx.nS b.start)]:=be;have aJ:OkB aK.names.length b:=bf;have fg:=gi aS aJ.g0 aJ.g1;have et:=gi aS aJ.t0 aJ.t1;have cI:∀{i:Int},0<=i->i<aK.names.length->aK.names[i.toNat]? =some (nmS aK.names i):=λ{i} ce aN=>by
    unfold nmS;rw[Qd,Qa (by omega)];rfl
   have bK:∀{n:Int},0<=n->n<10 ^ 30->(Tx.nS n).length<=640:=λce aN=>by have:=Tx.Yi (d6 ce aN);omega
   have k1:=Tx.WQ (d6 (QS (by decide) aJ.a0) aJ.a1);have k2:=Tx.WQ (d6 (QS (by decide) aJ.b0) aJ.b1);have k3:=Tx.WQ (d6 aJ.s0 aJ.s1);have f0:=bK (QS (by decide) aJ.a0) aJ.a1;have hQ:=bK (QS (by decide) aJ.b0) aJ.b1;have Bm:=bK aJ.s0 aJ.s1;nofun;refine⟨p,_,aK,fp,rfl,c',QF (cV (by have:=Yw fg;omega)),nd,λz=>absurd ⟨fg,Qv (cI aJ.g0 aJ.g1)⟩ z,λi aM _ aL s1=>?_⟩;have gR:(i:Int)=b.giver:=by
    have:=ot nd aM (cI aJ.g0 aJ.g1);have:=aJ.g0;omega
   rw[gR];have lE:=c'.same s1;have hC:=s1.seq fR;nofun;refine⟨p,_,aK,fp,rfl,lE,QF (cV (by have:=Yw et;omega)),nd,λz=>absurd ⟨et,Qv (cI aJ.t0 aJ.t1)⟩ z,λj bP _ aY bw=>?_⟩;have ov:(j:Int)=b.taker:=by
    have:=ot nd bP (cI aJ.t0 aJ.t1);have:=aJ.t0;omega
   rw[ov];have lF:=lE.same bw;have im:=bw.seq hC;nofun;exact UM lF aJ.g0 aJ.g1 aJ.t0 aJ.t1 aJ.a0 aJ.b0 aJ.s0 (jg b rfl) λaH c4 aN aQ bJ=>k _ aH c4 aN (((s1.trans bw).frame (A:=fp)).trans aQ) (λx aV=>(bJ x aV).imp_right λz=>none_of (s1.trans bw) z)
inductive ow(vs:List V)(H:Hp)(Q:VK)(b6:XK):Prop
 |mk (p a3:Addr) (cW:vs=[.ref p]) (cv:H p=some (.ins T.f a3 [])) (cw:H a3=some (.own p)) (dW:∀(aH:Hp)(fp:List Addr),cZ T aH p ⟨[],[]⟩ fp->(∀x∈fp,x=p\/x=a3\/H x=none)->(∀b o,H b=some o->b≠p->aH b=some o)->Q .non aH):ow vs H Q b6
theorem Zdr{T:Tp K mg}{H:Hp}{Q:Addr->Hp->Prop}{E:XK}
  (q:∀(p:Addr)(fp:List Addr)(aH:Hp),cZ T aH p ⟨[],[]⟩ fp->(∀x∈fp,H x=none)->Ze H aH->Q p aH):
  ∀x a3,H x=none->H a3=none->a3≠x->ow T (.ref x::([]++ [])) (upd (upd H a3 (.own x)) x (.ins T.f a3 [])) (λv aY=>v= .non/\Q x aY) E:=by
 intro x a3 aV hI ne;refine⟨x,a3,rfl,Zh,by rw[bX ne,Zh],λaH fp c' a6 aT=>⟨rfl,q x fp aH c' (λy bt=>?_) (λb o e=>aT b o ?_ (dy e aV))⟩⟩
 .rcases a6 y bt with rfl|rfl|h
  .exact aV
  .exact hI
  .by_cases aN:y=x
   .rw[aN];exact aV
   .by_cases aQ:y=a3
    .rw[aQ];exact hI
    .rw[bX aN,bX aQ] at h;exact h
 .rw[bX (dy e aV),bX (dy e hI)];exact e
local macro_rules| `(tactic|walk_at "rd")=>`(tactic|first|with_reducible refine Nm.Zdr ?_|fail "none here")
theorem sv:OkI P w mg base 1 T.ag (ow T):=by
 have gm:=T.a;have gn:=T.e;refine T.ag.F.okX wZ (λvs H Q E h=>?_) (λbS A outer s H vs Q E aR h=>?_)
 .obtain⟨p,a3,rfl,_⟩:=h
  rfl
 .have hu:=aR.hu;obtain⟨p,a3,rfl,aU,hI,q⟩:=h;refine⟨_,(bp (qj (K:=K) rfl (pv 0) vx rfl)
     (bz (qj (K:=K) rfl (pv 0) (fQ aW) rfl))),?_⟩
  walk_at "a"
  nofun;intro a aS;have jj:p≠a:=dy aU aS;have oq:a3≠a:=dy hI aS;have sw:p≠a3:=hN aU hI (by intro z;cases z);have fX:(upd H a (.dK [])) p=some (.ins T.f a3 []):=by rw[bX jj];exact aU
  nofun;refine⟨Qn _,λb aJ=>?_⟩;have lJ:H b=none:=by
   by_cases aN:b=p
   .rw[aN,Zh] at aJ;cases aJ
   .by_cases aQ:b=a
    .rw[aQ];exact aS
    .rw[bX aN,bX aQ] at aJ;exact aJ
  have lI:p≠b:=dy aU lJ;have on:a3≠b:=dy hI lJ;have fL:a≠b:=by
   intro z;rw[<-z,bX jj.symm,Zh] at aJ;cases aJ
  have f':(upd (upd (upd H a (.dK [])) p (.ins T.f a3 [("numbers",.ref a)])) b (.lst [])) p=some (.ins T.f a3 [("numbers",.ref a)]):=by rw[bX lI,Zh]
  nofun;refine q _ [p,a3,a,b] ⟨a3,a,b,[],rfl,Zh,?_,?_,?_,fL,.nil⟩ (λx aV=>?_) (λc o e aO=>?_)
  .rw[bX sw.symm,bX on,bX sw.symm,bX oq];exact hI
  .rw[bX jj.symm,bX fL,bX jj.symm,Zh];rfl
  .rw[bX lI.symm,Zh]
  .simp only[Qi,QQ,or_false] at aV;rcases aV with rfl|rfl|rfl|rfl
   .exact .inl rfl
   .exact .inr (.inl rfl)
   .exact .inr (.inr aS)
   .exact .inr (.inr lJ)
  .rw[bX aO,bX (dy e lJ),bX aO,bX (dy e aS)];exact e
theorem Zfc{a2:List Rw}{i:Nat}{x:Str}(h:a2[i]? =some (.wk x)):c3 (a2.take (i+1))=c3 (a2.take i)++ [x]/\cl (a2.take (i+1))=cl (a2.take i):=by
 rw[Ju,h];unfold c3 cl;simp
theorem ZeS{a2:List Rw}{i:Nat}{b:B5}(h:a2[i]? =some (.bl b)):c3 (a2.take (i+1))=c3 (a2.take i)/\cl (a2.take (i+1))=cl (a2.take i)++ [b]:=by
 rw[Ju,h];unfold c3 cl;simp
theorem UX(a2:List Rw)(i:Nat):∃r,c3 a2=c3 (a2.take i)++r:=⟨c3 (a2.drop i),by
 conv=>lhs;rw[<-Jx i a2]
 unfold c3;rw[Jk]⟩
theorem Zb6(a2:List Rw)(i:Nat):∃r,cl a2=cl (a2.take i)++r:=⟨cl (a2.drop i),by
 conv=>lhs;rw[<-Jx i a2]
 unfold cl;rw[Jk]⟩
theorem sx{ns ms r:List Str}{i:Int}(e:ns=ms++r)(ce:0<=i)(aN:i<ms.length):nmS ns i=nmS ms i:=by
 unfold nmS;rw[e,Qd,Qd,QI (by omega)]
inductive sy(vs:List V)(H:Hp)(Q:VK)(b6:XK):Prop
 |mk (p:Addr) (ns:List Str) (a2:List Rw) (cW:vs=[.ref p]) (cv:SqL K H p ((a2.map (bB ns)).map V.str)) (cw:ZcZ ns a2) (dW:a2.length<=200) (fl:∀q fp aH,H q=none->cZ T aH q ⟨ns,cl a2⟩ fp->(∀x∈fp,H x=none)->Ze H aH->Q (.ref q) aH):sy vs H Q b6
theorem sA:OkN P w base 7 T.ah (sy T):=by
 have gm:=T.a;have gn:=T.e;refine T.ah.F.okX lv (λvs H Q E h=>?_) (λbS A outer s H vs Q E aR h=>?_)
 .obtain⟨p,ns,a2,rfl,_⟩:=h
  rfl
 .have hu:=aR.hu;obtain⟨p,ns,a2,rfl,aU,br,hz,q⟩:=h;have hok:∀i (aM:i<a2.length),OkR ns a2[i]:=λi aM=>by
   have e:a2[i]? =some a2[i]:=Qa aM;obtain⟨r,gp⟩:=UX a2 i;rw[br.nm] at gp;cases aR:a2[i] with
   |wk x=>
    rw[aR] at e;have:x∈ns:=by rw[<-br.nm];unfold c3;exact QY.mpr ⟨_,Qv e,rfl⟩
    exact br.all x this
   |bl b=>
    rw[aR] at e;have bE:=br.ok i b e;have aK:(c3 (a2.take i)).length<=ns.length:=by rw[gp,Qf];omega
    exact⟨bE.g0,by have:=bE.g1;omega,bE.t0,by have:=bE.t1;omega,bE.a0,bE.a1,bE.b0,bE.b1,bE.s0,bE.s1⟩
  refine⟨_,(bp (wb (j:=1) (xs:=["line"]) rfl (eT (x:="line") (zs:=[]) (ix:=[]) (bU nR) ["lines","rows","hall","words"] rfl rfl (by decide+kernel)) (ff (K:=K) rfl (pv 0)) (λbu C s H fp=>⟨(c9 (i:=0) (show(["line"]:List Str).Nodup by decide+kernel) rfl (Or.inl rfl)),e2,(bV T.aq (xF T) aR Wd (aP (pv 0) aW))⟩) lv.nd rfl (Or.inl rfl))
     (bp (cf (i:=2) lv.nd rfl (Or.inl rfl) (qp T.ag (sv T) aR T.I bR))
     (bp (fw PassesOwn.leaving rfl (ff (K:=K) rfl (pv 1)) (c9 (i:=3) lv.nd rfl (Or.inl rfl)) (bz (eE (bV T.ax (xP T) aR bR (aP (pv 2) (aP (pv 3) aW))))))
     (bz (cg (pv 2)))))),?_⟩
  walk_at "a"
  nofun;refine Vg (own:=1) (fc aU).y (cV (by simp;omega)) (λi=>[some (.str (bB ns (a2.getD i (.wk ""))))]) (λ_=>rfl) (λ_=>true) (λi v aH=>∃l,v=V.ref l/\aH l=some (.lst ((ew ns (a2.getD i (.wk ""))).map V.str))) (λ_ _ _ _ s ⟨l,x,y⟩=>⟨l,x,s _ _ y⟩) (λi dY aH v bT i' aM bC y fB k=>?_) (λi aH cC aM bC k=>?_) (λox i aH cC aM _ sB dQ bC k=>?_) (λr aL ys aR s1 ke eS=>?_)
  .obtain⟨rfl,rfl⟩:=y;obtain⟨x1,rfl⟩:∃x1,dY=[x1]:=by
    match dY,fB with
    | [x1],_=>exact⟨x1,rfl⟩
   have cj:i<a2.length:=by simpa using aM
   have e:((a2.map (bB ns)).map V.str).getD i .non= .str (bB ns (a2.getD i (.wk ""))):=by simp[List.getD,cj]
   rw[e];nofun;exact k _ (Ze.refl _)
  .nofun;exact k aH (Ze.refl aH)
  .have cj:i<a2.length:=by simpa using aM
   have e:a2.getD i (.wk "")=a2[i]:=by simp[List.getD,cj]
   obtain⟨ys,xR⟩:=dQ;nofun;refine⟨ns,_,rfl,br.all,by rw[e];exact hok i cj,λl bM aK b5 hJ=>k _ bM b5 ⟨l,rfl,?_⟩⟩;rw[WY (dy xR aK).symm];exact hJ
  rw[Qx.mpr (by simp)] at eS;have xS:ys.length=a2.length:=by have:=eS.length;simpa using this.symm
  have xT:∀i (aM:i<a2.length),∃l,ys.getD i .non= .ref l/\aL l=some (.lst ((ew ns a2[i]).map V.str)):=λi aM=>by
   obtain⟨j,v,bb,bh,l,rfl,bO⟩:=YR eS (i:=i) (by simpa using aM);have ov:j=i:=by rw[List.getElem?_range (by simpa using aM)] at bb;exact(Qt bb).symm
   subst ov;have e:a2.getD j (.wk "")=a2[j]:=by simp[List.getD,aM]
   rw[e] at bO;refine⟨l,by simp[List.getD,bh],?_⟩
   by_cases h:l=r
   .rw[h,j3] at bO;cases bO
   .rw[WY h] at bO;exact bO
  nofun;intro aS oy aY xU xV bw;have Bn:=bw _ _ ke;nofun;refine WH (fc (SqL.of ke)) (λi ao aH=>∃(c4:List Addr)(a1:Option V),ao=[some (.ref p),some (.ref r),some (.ref aS),a1]/\cZ T aH aS ⟨c3 (a2.take i),cl (a2.take i)⟩ c4/\Ze aL aH/\∀x∈c4,aL x=none) ⟨oy,_,rfl,xU,bw,xV⟩ (λi ao aH ⟨_,_,_,_,s,_⟩=>s) ?_ ?_
  .rintro i ao bx aM ⟨lK,a1,rfl,jk,b4,ip⟩;have c1:i<a2.length:=by omega
   obtain⟨l,hm,aK⟩:=xT i c1;rw[hm];have ei:=b4 _ _ aK;have gR:a2[i]? =some a2[i]:=Qa c1;obtain⟨kF,gp⟩:=UX a2 i;obtain⟨Bo,c2⟩:=Zb6 a2 i;rw[br.nm] at gp;have sC:(c3 (a2.take i)).Nodup:=(Jm.mp (gp▸br.nd)).1;have sD:YV (c3 (a2.take i)):=λx aV=>br.all x (by rw[gp];exact Q9 _ aV);have sE:(c3 (a2.take i)).length<=30:=by have:=br.len;rw[gp,Qf] at this;omega
   nofun;generalize xW:a2[i]=ri at*;cases ri with
   |wk x=>
    obtain⟨t1,fH⟩:=Zfc gR;obtain⟨Bp,oz⟩:=UX a2 (i+1);rw[br.nm,t1] at oz;have nx:x∉c3 (a2.take i):=λz=>by
     have aN:=(Jm.mp (oz▸br.nd)).1;exact(Jm.mp aN).2.2 x z x (.head _) rfl
    have xX:(c3 (a2.take i)).length<30:=by have:=br.len;rw[oz,Qf,Qf] at this;simp at this;omega
    refine⟨aS,l,⟨c3 (a2.take i),cl (a2.take i)⟩,lK,.wk x,rfl,jk,.of ei,sD,sC,(by have:=hok i c1;rw[xW] at this;exact this),sE,λy e=>(by cases e;exact⟨nx,xX⟩),λb e=>(by cases e),λv bM oG hh5 fx oH=>?_⟩;obtain⟨b5,oI⟩:=W8 b4 ip fx oH;nofun;refine⟨oG,_,rfl,?_,b5,oI⟩;rw[t1,fH];exact hh5
   |bl b=>
    obtain⟨t1,fH⟩:=ZeS gR;obtain⟨Bq,sF⟩:=Zb6 a2 (i+1);rw[fH] at sF;have bE:=br.ok i b gR;have xY:(cl (a2.take i)).length<60:=by have:=br.bl;rw[sF,Qf,Qf] at this;simp at this;omega
    have iX:ew ns (.bl b)=ew (c3 (a2.take i)) (.bl b):=by
     show[("belt" :Str),nmS ns b.giver,Tx.nS b.give,Tx.nS b.take,nmS ns b.taker,Tx.nS b.start]=_;rw[sx gp bE.g0 bE.g1,sx gp bE.t0 bE.t1]
     rfl
    rw[iX] at ei;refine⟨aS,l,⟨c3 (a2.take i),cl (a2.take i)⟩,lK,.bl b,rfl,jk,.of ei,sD,sC,bE,sE,λy e=>(by cases e),λb e=>xY,λv bM oG hh5 fx oH=>?_⟩;obtain⟨b5,oI⟩:=W8 b4 ip fx oH;nofun;refine⟨oG,_,rfl,?_,b5,oI⟩;rw[t1,fH];exact hh5
  .rintro ao bx ⟨lK,a1,rfl,jk,b4,ip⟩;rw[xS,Q7,br.nm] at jk;nofun;exact q aS lK bx (none_of s1 (ip aS (by obtain⟨_,_,_,_,rfl,_⟩:=jk;exact .head _))) jk (λx aV=>none_of s1 (ip x aV)) (s1.trans b4)
inductive oJ(T:Tp K mg)(vs:List V)(H:Hp)(Q:VK)(b6:XK):Prop
 |mk (p t:Addr) (ns:List Str) (b:B5) (cW:vs=[.ref p,.ref t]) (cv:SqL K H p (ns.map V.str)) (cw:H t=some (.tup b.v)) (dW:YV ns) (fl:OkB ns.length b) (hG:Q (.str (bB ns (.bl b))) H):oJ T vs H Q b6
theorem WK{T:Tp K mg}{H:Hp}{Q:VK}{E:XK}{p t:Addr}{ns:List Str}{b:B5}(aN:SqL K H p (ns.map V.str))(aQ:H t=some (.tup b.v))(bJ:YV ns)(cx:OkB ns.length b)(q:Q (.str (bB ns (.bl b))) H):oJ T ([.ref p,.ref t]++ []) H Q E:=⟨p,t,ns,b,rfl,aN,aQ,bJ,cx,q⟩
theorem oK:OkN P w base 1 T.aa (oJ T):=by
 refine T.aa.F.okX rj (λvs H Q E h=>?_) (λbS A outer s H vs Q E aR h=>?_)
 .obtain⟨p,t,ns,b,rfl,_⟩:=h
  rfl
 .have hu:=aR.hu;obtain⟨p,t,ns,b,rfl,aU,bL,aS,aJ,q⟩:=h;have a1:=VT aJ.g0 aJ.g1;have bY:=VT aJ.t0 aJ.t1;have g1:=Tx.YE (d6 (QS (by decide) aJ.a0) aJ.a1);have g2:=Tx.YE (d6 (QS (by decide) aJ.b0) aJ.b1);have g3:=Tx.YE (d6 aJ.s0 aJ.s1);have cv:=Tx.Yi (d6 (QS (by decide) aJ.a0) aJ.a1);have cw:=Tx.Yi (d6 (QS (by decide) aJ.b0) aJ.b1);have dW:=Tx.Yi (d6 aJ.s0 aJ.s1);have fg:=Yw (gi aS aJ.g0 aJ.g1);have et:=Yw (gi aS aJ.t0 aJ.t1);have bg:=ZfI ns b;have k5:("belt " :Str).length=5:=by decide+kernel
  have k1:(" " :Str).length=1:=by decide+kernel
  have sl:=QB;refine⟨_,(bp (cf (i:=2) rj.nd rfl (Or.inl rfl) (bo (cE K) (bo (cE K) (bo (cE K) Zw (cd (ixk K) (pv 0) (cd (ixk K) (pv 1) Zc (λ_ _=>rfl)) (λ_ _=>rfl))) Zw) (dR gC (by rfl) T.h Qw (aP (cd (ixk K) (pv 1) Zc (λ_ _=>rfl)) aW))))
     (bz (cg (bo (cE K) (bo (cE K) (bo (cE K) (bo (cE K) (bo (cE K) (bo (cE K) (pv 2) Zw) (dR gC (by rfl) T.h Qw (aP (cd (ixk K) (pv 1) Zc (λ_ _=>rfl)) aW))) Zw) (cd (ixk K) (pv 0) (cd (ixk K) (pv 1) Zc (λ_ _=>rfl)) (λ_ _=>rfl))) Zw) (dR gC (by rfl) T.h Qw (aP (cd (ixk K) (pv 1) Zc (λ_ _=>rfl)) aW)))))),?_⟩
  walk_at "a"
  dsimp only[B5.v] at bL;generalize nmS ns b.giver=x1 at*;generalize nmS ns b.taker=eR at*;have f1:("belt " :Str).length+x1.length<=sizeLine:=by omega
  have f2:(("belt " :Str)++x1).length+(" " :Str).length<=sizeLine:=by rw[Str.length_append];omega
  have cF:(("belt " :Str)++x1++ " ").length+(Tx.nS b.give).length<=sizeLine:=by rw[Str.length_append,Str.length_append];omega
  have di:(("belt " :Str)++x1++ " " ++Tx.nS b.give).length<=50:=by rw[Str.length_append,Str.length_append,Str.length_append];omega
  have c_:(("belt " :Str)++x1++ " " ++Tx.nS b.give).length+(" " :Str).length<=sizeLine:=by omega
  have dn:(("belt " :Str)++x1++ " " ++Tx.nS b.give++ " ").length+(Tx.nS b.take).length<=sizeLine:=by rw[Str.length_append];omega
  have Br:(("belt " :Str)++x1++ " " ++Tx.nS b.give++ " " ++Tx.nS b.take).length+(" " :Str).length<=sizeLine:=by rw[Str.length_append,Str.length_append];omega
  have Bs:(("belt " :Str)++x1++ " " ++Tx.nS b.give++ " " ++Tx.nS b.take++ " ").length+eR.length<=sizeLine:=by rw[Str.length_append,Str.length_append,Str.length_append];omega
  have Bt:(("belt " :Str)++x1++ " " ++Tx.nS b.give++ " " ++Tx.nS b.take++ " " ++eR).length+(" " :Str).length<=sizeLine:=by rw[Str.length_append,Str.length_append,Str.length_append,Str.length_append];omega
  have Bu:(("belt " :Str)++x1++ " " ++Tx.nS b.give++ " " ++Tx.nS b.take++ " " ++eR++ " ").length+(Tx.nS b.start).length<=sizeLine:=by rw[Str.length_append,Str.length_append,Str.length_append,Str.length_append,Str.length_append];omega
  nofun;rw[<-bg] at q;exact q
theorem sG{bv cT:Type}{P:bv->cT->Prop}:∀{xs:List bv}{ys:List cT}(i:Nat),Paired P xs ys->Paired P (xs.eraseIdx i) (ys.eraseIdx i)
 |_,_,_,.nil=> .nil
 |_,_,0,.cons _ r=>r
 |_,_,i+1,.cons x r=> .cons x (sG i r)
inductive sH(T:Tp K mg)(vs:List V)(H:Hp)(Q:VK)(b6:XK):Prop
 |mk (p q:Addr) (b3:Int) (ns:List Str) (bs:List V) (ls:List B5) (cW:vs=[.ref p,.ref q,.int b3]) (cv:SqL K H p (ns.map V.str)) (cw:H q=some (.lst bs)) (dW:cK H bs ls) (fl:YV ns) (hG:ns.Nodup) (lD:ns.length<=30) (sr:ls.length<=40) (xN:(∀b∈ls,OkB ns.length b)) (xO:∀r a2 aH,H r=none->Ze H aH->aH r=some (.lst ((a2.map (bB ns)).map V.str))->ZcZ ns a2->(cl a2).Perm ls->a2.length<=200->Q (.ref r) aH):sH T vs H Q b6
theorem xZ:OkN P w base 2 T.ay (sH T):=by
 refine T.ay.F.okX j9 (λvs H Q E h=>?_) (λbS A outer s H vs Q E aR h=>?_)
 .obtain⟨p,q,b3,ns,bs,ls,rfl,_⟩:=h
  rfl
 .have hu:=aR.hu;obtain⟨p,q,b3,ns,bs,ls,rfl,aU,be,ef,aS,nd,fk,lL,aJ,k⟩:=h;have r2:("work " :Str).length=5:=by decide+kernel
  have sl:=QB;refine⟨_,(bp (cf (i:=3) j9.nd rfl (Or.inl rfl) (fQ aW))
     (bp (cf (i:=4) j9.nd rfl (Or.inl rfl) (dR (k_ (K:=K) rfl) (by rfl) T.p QT (aP (pv 1) aW)))
     (bp (fw PassesOwn.leaving rfl (hV rfl T.j (aP (cJ (d5 K) (by rfl) T.c Qk (aP (pv 0) aW)) aW)) (c9 (i:=5) j9.nd rfl (Or.inl rfl)) (bp (eE (eb (K:=K) rfl Qr QD QE gF (pv 3) (aP (bo (cE K) Zw (cd (ixk K) (pv 0) (pv 5) (λ_ _=>rfl))) aW)))
     (bz (fw PassesOwn.leaving rfl (ff (K:=K) rfl (dR (k_ (K:=K) rfl) (by rfl) T.p QT (aP (pv 4) aW))) (c9 (i:=6) j9.nd rfl (Or.inl rfl)) (bz (cO (PW.pt (kE (cH pE (cd (ixk K) (pv 6) Zc (λ_ _=>rfl)) (pv 5) (cy _)) (kE (cH pE (cd (ixk K) (pv 6) Zc (λ_ _=>rfl)) (pv 5) (cy _)) (mc (cH iS (bo dj (bo (cE K) (pv 5) (pv 2)) Zc) Zc (cy _)))))) (bp (eE (eb (K:=K) rfl Qr QD QE gF (pv 3) (aP (bV T.aa (oK T) aR bR (aP (pv 0) (aP (pv 6) aW))) aW)))
     (bz (eE (eb (K:=K) rfl Qr PySem.F.slot_list_remove PySem.F.type_list_remove (wF (K:=K) rfl hu) (pv 4) (aP (pv 6) aW))))) cN))))))
     (bz (cg (bo (cE K) (pv 3) (gJ rfl (eT (x:="_law_line") (zs:=["_law_names_here"]) (ix:=[0]) (bU nT) ["_law_names_here","_law_lines_here","_law_turn","_law_rows","_law_left","_law_k","_law_line"] rfl rfl (by decide+kernel)) (ff (K:=K) rfl (pv 4)) (λbu C s H fp=>⟨(c9 (i:=0) (show(["_law_line","_law_names_here"]:List Str).Nodup by decide+kernel) rfl (Or.inl rfl)),e2,(bV T.aa (oK T) aR Wd (aP (pv 1) (aP (pv 0) aW)))⟩)))))))),?_⟩
  walk_at "a"
  nofun;refine⟨Qn _,λr aR=>?_⟩;have s1:Ze H (upd H r (.lst [])):=cu aR;have ek:(upd H r (.lst [])) r=some (.lst []):=Zh;generalize upd H r (.lst [])=aL at*;nofun;refine Rd.Zac (.of (s1 _ _ be)) (λl aK=>?_);have bw:Ze aL (upd aL l (.lst bs)):=cu aK;have gl:(upd aL l (.lst bs)) l=some (.lst bs):=Zh;generalize upd aL l (.lst bs)=aY at*;have x0:=none_of s1 aK;have oL:r≠l:=dy ek aK;have f':=(s1.trans bw).seq aU;nofun;rw[Qc];nofun;refine Wk (n:=ns.length) (λi ao aH=>∃(a2:List Rw)(el:List V)(b':List B5)(a1 bY:Option V),ao=[some (.ref p),some (.ref q),some (.int b3),some (.ref r),some (.ref l),a1,bY]/\Ze H aH/\aH r=some (.lst ((a2.map (bB ns)).map V.str))/\aH l=some (.lst el)/\cK aH el b'/\Wh ns ls i a2 b') ⟨[],bs,ls,_,_,rfl,s1.trans bw,bw _ _ ek,gl,ef.keep (λb xs e=>(s1.trans bw) _ _ e),⟨by simp[c3],by simp[cl],λi b e=>(by simp at e),by simp[cl]⟩⟩ ?_ ?_
  .rintro i ao bx aM ⟨a2,el,b',a1,bY,rfl,b4,iz,ei,eL,aZ⟩;have jh:=b4.seq aU;have sI:=VT (ns:=ns) (i:=(0+(i:Int))) (by omega) (by omega);have oc:c7 (nmS ns (0+(i:Int)))=true:=gi aS (by omega) (by omega);have x2:nmS ns (0+(i:Int))=ns[i]:=by unfold nmS;simp[List.getD,aM]
   have r3:=Yw oc;have f1:("work " :Str).length+(nmS ns (0+(i:Int))).length<=sizeLine:=by omega
   have iy:(cl a2).length+b'.length=ls.length:=by have:=aZ.pm.length_eq;rwa [Qf] at this
   have Bv:((a2.map (bB ns)).map V.str).length<sizeLine:=cV (by rw[Qc,Qc,aZ.sz];omega);have oM:el.length=b'.length:=eL.length;nofun;rw[VC ns,x2];have gp:(a2.map (bB ns)).map V.str++ [V.str (bB ns (.wk ns[i]))]=((a2++ [Rw.wk ns[i]]).map (bB ns)).map V.str:=by simp
   rw[gp];have fx:Z3 [r] bx (upd bx r (.lst (((a2++ [Rw.wk ns[i]]).map (bB ns)).map V.str))):=gM (by simp) iz (by intro _ z;cases z);have b5:Ze H (upd bx r (.lst (((a2++ [Rw.wk ns[i]]).map (bB ns)).map V.str))):=b4.new aR;have sJ:(upd bx r (.lst (((a2++ [Rw.wk ns[i]]).map (bB ns)).map V.str))) r=some (.lst (((a2++ [Rw.wk ns[i]]).map (bB ns)).map V.str)):=Zh;have oN:(upd bx r (.lst (((a2++ [Rw.wk ns[i]]).map (bB ns)).map V.str))) l=some (.lst el):=by rw[bX oL.symm];exact ei
   have sK:=eL.keep fx.tups;have x_:=aZ.work aM;generalize upd bx r (.lst (((a2++ [Rw.wk ns[i]]).map (bB ns)).map V.str))=bM at*;generalize a2++ [Rw.wk ns[i]]=x' at*;refine Rd.Zac (.of oN) λc aO=>?_;have cY:Ze bM (upd bM c (.lst el)):=cu aO;have lM:(upd bM c (.lst el)) c=some (.lst el):=Zh;generalize upd bM c (.lst el)=dv at*;have Bw:=none_of b5 aO;have ya:c≠r:=(dy sJ aO).symm;have yb:c≠l:=(dy oN aO).symm;refine⟨c,rfl,⟨_,.of lM⟩,?_⟩;refine WH (fc (SqL.of (v3 (q:=c) (o:= .lst el)))) (λj ao aH=>∃(ec:List Rw)(ft:List V)(bY:Option V),ao=[some (.ref p),some (.ref q),some (.int b3),some (.ref r),some (.ref l),some (.int (0+(i:Int))),bY]/\aH c=some (.lst el)/\Ze H aH/\aH r=some (.lst ((ec.map (bB ns)).map V.str))/\aH l=some (.lst ft)/\cK aH el b'/\cK aH ft ((b'.take j).filter (λb=>!eK i b3 b)++b'.drop j)/\Wh ns ls (i+1) ec ((b'.take j).filter (λb=>!eK i b3 b)++b'.drop j)) ⟨x',el,bY,rfl,lM,b5.trans cY,cY _ _ sJ,cY _ _ oN,sK.keep (λb xs e=>cY _ _ e),by simpa using sK.keep (λb xs e=>cY _ _ e),by simpa using x_⟩ (λj ao aH ⟨_,_,_,_,hz,_⟩=>Zf5 hz) ?_ ?_
   .rintro j ao cs bP ⟨ec,ft,cq,rfl,oO,cR,lN,lO,iA,ki,hK⟩;have lP:j<b'.length:=by omega
    obtain⟨t,hl,gT⟩:=iA.at (Qa lP);have c2:el.getD j .non= .ref t:=by simp[List.getD,hl]
    rw[c2];have yc:=cR.seq aU;have dw:=aJ b'[j] (aZ.pm.mem_iff.mp (Qh _ (Qm lP)));have sL:b'.drop j=b'[j]::b'.drop (j+1):=List.drop_eq_getElem_cons lP;have sM:b'.take (j+1)=b'.take j++ [b'[j]]:=Jb lP;generalize b'[j]=b at*;have stay:eK i b3 b=false->(b'.take (j+1)).filter (λb=>!eK i b3 b)++b'.drop (j+1)=(b'.take j).filter (λb=>!eK i b3 b)++b'.drop j:=λz=>by
     rw[sM,sL,Jq,Jz,z];simp
    have go:eK i b3 b=true->(b'.take (j+1)).filter (λb=>!eK i b3 b)=(b'.take j).filter (λb=>!eK i b3 b):=λz=>by
     rw[sM,Jq,Jz,z];simp
    have yd:b.v=[.int b.giver,.int b.taker,.int b.give,.int b.take,.int b.start]:=rfl;have sN:=gT;rw[yd] at gT;have no:¬(b.giver<=0+(i:Int)/\b.taker<=0+(i:Int)/\0<(0+(i:Int)+b3) % 3)->eK i b3 b=false:=λz=>Bool.eq_false_iff.mpr λy=>z (by
     unfold eK at y;simp only[Qz,decide_eq_true_eq] at y;omega)
    have iB:eK i b3 b=false->∃(ec:List Rw)(ft:List V)(bY:Option V),[some (V.ref p),some (.ref q),some (.int b3),some (.ref r),some (.ref l),some (.int (0+(i:Int))),some (.ref t)]=[some (.ref p),some (.ref q),some (.int b3),some (.ref r),some (.ref l),some (.int (0+(i:Int))),bY]/\cs c=some (.lst el)/\Ze H cs/\cs r=some (.lst ((ec.map (bB ns)).map V.str))/\cs l=some (.lst ft)/\cK cs el b'/\cK cs ft ((b'.take (j+1)).filter (λb=>!eK i b3 b)++b'.drop (j+1))/\Wh ns ls (i+1) ec ((b'.take (j+1)).filter (λb=>!eK i b3 b)++b'.drop (j+1)):=λz=>
     ⟨ec,ft,_,rfl,oO,cR,lN,lO,iA,by rw[stay z];exact ki,by rw[stay z];exact hK⟩
    have Bx:(cl ec).length<=ls.length:=by have:=hK.pm.length_eq;rw[Qf] at this;omega
    have By:((ec.map (bB ns)).map V.str).length<sizeLine:=cV (by rw[Qc,Qc,hK.sz];omega);nofun;refine Rd.ifD (λfa=>?_) (λfa=>?_)
    .nofun;refine Rd.ifD (λfb=>?_) (λfb=>?_)
     .nofun;refine Rd.ifD (λsO=>?_) (λsO=>?_)
      .have yes:eK i b3 b=true:=by
        unfold eK;simp only[Qz,decide_eq_true_eq];omega
       have bE:OkB (i+1) b:=⟨dw.g0,by omega,dw.t0,by omega,dw.a0,dw.a1,dw.b0,dw.b1,dw.s0,dw.s1⟩;nofun;refine WK yc sN aS dw ?_;nofun;rw[show(ec.map (bB ns)).map V.str++ [V.str (bB ns (.bl b))]=((ec++ [Rw.bl b]).map (bB ns)).map V.str by simp];have iD:Z3 [r] cs (upd cs r (.lst (((ec++ [Rw.bl b]).map (bB ns)).map V.str))):=gM (by simp) lN (by intro _ z;cases z);have dJ:Ze H (upd cs r (.lst (((ec++ [Rw.bl b]).map (bB ns)).map V.str))):=cR.new aR;have ye:(upd cs r (.lst (((ec++ [Rw.bl b]).map (bB ns)).map V.str))) r=some (.lst (((ec++ [Rw.bl b]).map (bB ns)).map V.str)):=Zh;have sP:(upd cs r (.lst (((ec++ [Rw.bl b]).map (bB ns)).map V.str))) l=some (.lst ft):=by rw[bX oL.symm];exact lO
       have lQ:(upd cs r (.lst (((ec++ [Rw.bl b]).map (bB ns)).map V.str))) c=some (.lst el):=by rw[bX ya];exact oO
       have lR:=iA.keep iD.tups;have lS:=ki.keep iD.tups;have yf:=iD.tups _ _ sN;generalize upd cs r (.lst (((ec++ [Rw.bl b]).map (bB ns)).map V.str))=fC at*;rw[sL] at lS hK;rw[go yes];generalize yg:(b'.take j).filter (λb=>!eK i b3 b)=F at*;have hx:∀x∈F,eK i b3 x=false:=λx aV=>by
        rw[<-yg] at aV;simpa using(List.mem_filter.mp aV).2
       generalize b'.drop (j+1)=R at*;have yh:ft.length=(F++b::R).length:=lS.length;nofun;refine⟨l,ft,.ref t,b.d,(F++b::R).map B5.d,F.length,rfl,rfl,sP,rE yf,lx lS,n2 b,n3 _,Qu (rC b) (by decide),by rw[yh,Qf,List.length_cons];omega,?_,λm oP=>?_,?_⟩
       .rw[show((F++b::R).map B5.d).getD F.length .none=b.d by simp[List.getD]];exact SeqAt.eqv_refl _ (n2 b)
       .have bb:((F++b::R).map B5.d).getD m .none=(F[m]).d:=by
         rw[Qd,QA,QI oP,Qa oP];rfl
        rw[bb];refine Bool.eq_false_iff.mpr λz=>?_;have bh:=Zi2 z;have di:=hx _ (Qm oP);rw[bh,yes] at di;cases di
       .have sQ:Z3 [l] fC (upd fC l (.lst (ft.eraseIdx F.length))):=gM (by simp) sP (by intro _ z;cases z);nofun;refine⟨ec++ [.bl b],ft.eraseIdx F.length,_,rfl,by rw[bX yb];exact lQ,dJ.new x0,by rw[bX oL];exact ye,Zh,lR.keep sQ.tups,?_,hK.belt bE (by omega)⟩;have eB:(F++b::R).eraseIdx F.length=F++R:=by rw[List.eraseIdx_append_of_length_le (Qb _)];simp
        have:=sG F.length (lS.keep sQ.tups);rw[eB] at this;exact this
      .nofun;exact iB (no λz=>sO (by simpa using z.2.2))
     .nofun;exact iB (no λz=>fb (by simpa using z.2.1))
    .nofun;exact iB (no λz=>fa (by simpa using z.1))
   .rintro ao cs ⟨ec,ft,cq,rfl,oO,cR,lN,lO,iA,ki,hK⟩;rw[oM,List.drop_length,Jh] at ki hK;nofun;exact⟨ec,ft,_,_,_,rfl,cR,lN,lO,ki,hK⟩
  .rintro ao bx ⟨a2,el,b',a1,bY,rfl,b4,iz,ei,eL,aZ⟩;obtain⟨g1,g2,g3⟩:=aZ.fin aS nd fk (by omega) aJ;have jh:=b4.seq aU;have iy:(cl a2).length+b'.length=ls.length:=by have:=aZ.pm.length_eq;rwa [Qf] at this
   have oM:el.length=b'.length:=eL.length;nofun;refine Z7 (fc (SqL.of ei)) (cV (by omega)) (λ_=>true) (λi=> .str (bB ns (.bl (b'.getD i ⟨0,0,0,0,0⟩)))) (λi aH cC aM bC k=>?_) (λi aH cC aM _ bC k=>?_) (λd bM hd b5 jm=>?_)
   .nofun;exact k aH (Ze.refl aH)
   .have cj:i<b'.length:=by omega
    obtain⟨t,hl,gT⟩:=eL.at (Qa cj);have c2:el.getD i .non= .ref t:=by simp[List.getD,hl]
    have hm:b'.getD i ⟨0,0,0,0,0⟩=b'[i]:=by simp[List.getD,cj]
    rw[c2];rw[hm] at k;have dw:=aJ b'[i] (aZ.pm.mem_iff.mp (Qh _ (Qm cj)));have oQ:=bC _ _ gT;have yi:=bC.seq jh;nofun;exact WK yi oQ aS dw (k aH (Ze.refl aH))
   rw[Qx.mpr (by simp),oM,show((List.range b'.length).map λi=>V.str (bB ns (.bl (b'.getD i ⟨0,0,0,0,0⟩))))=((b'.map Rw.bl).map (bB ns)).map V.str by rw[Qs,Qs,<-YY ((V.str∘bB ns)∘Rw.bl) b' ⟨0,0,0,0,0⟩];rfl] at jm;refine Rd.ZeF (b5 _ _ iz) jm (by rw[QB];simp only[Qc];have:=aZ.sz;omega) λe bn=>?_;refine k e (a2++b'.map Rw.bl) _ (none_of (b4.trans b5) bn) ((b4.trans b5).trans (cu bn)) ?_ g1 g2 g3;rw[Zh,QK,QK]
inductive sR(T:Tp K mg)(vs:List V)(H:Hp)(Q:VK)(b6:XK):Prop
 |mk (p:Addr) (ns:List Int) (m:Nat) (cW:vs=[.ref p,.int m]) (cv:SqL K H p (ns.map V.int)) (cw:1<=m) (dW:m<=30) (fl:∀q bs ls aH,H q=none->Ze H aH->aH q=some (.lst bs)->cK aH bs ls->(∀b∈ls,OkB m b)->ls.length<=40->Q (.ref q) aH):sR T vs H Q b6
theorem yj:OkN P w base 2 T.az (sR T):=by
 refine T.az.F.okX hj (λvs H Q E h=>?_) (λbS A outer s H vs Q E aR h=>?_)
 .obtain⟨p,ns,m,rfl,_⟩:=h
  rfl
 .have hu:=aR.hu;obtain⟨p,ns,m,rfl,aU,f0,Bz,q⟩:=h;refine⟨_,(bp (cf (i:=2) hj.nd rfl (Or.inl rfl) (fQ aW))
     (bp (cf (i:=3) hj.nd rfl (Or.inl rfl) (bo dj (bV T.C (fV T) aR bR (aP (bV T.M (gS T) aR bR (aP (pv 0) (aP Zc aW))) (aP Zc aW))) Zc))
     (bp (hc (cO (cH (eU (K:=K) rfl hu) (bo dj (bo fA (bV T.C (fV T) aR bR (aP (bV T.M (gS T) aR bR (aP (pv 0) (aP Zc aW))) (aP Zc aW))) Zc) Zc) Zc (cy _)) (bz (cf (i:=3) hj.nd rfl (Or.inl rfl) Zc)) cN))
     (bp (fw PassesOwn.leaving rfl (hV rfl T.j (aP (pv 3) aW)) (c9 (i:=4) hj.nd rfl (Or.inl rfl)) (bp (cf (i:=5) hj.nd rfl (Or.inl rfl) (bV T.M (gS T) aR bR (aP (pv 0) (aP (bo (cE K) Zc (pv 4)) aW))))
     (bp (cf (i:=6) hj.nd rfl (Or.inl rfl) (bV T.C (fV T) aR bR (aP (pv 5) (aP (bo (cE K) Zc (pv 4)) aW))))
     (bp (cf (i:=7) hj.nd rfl (Or.inl rfl) (fQ (aP (bo (cE K) Zc (bo dj (pv 5) (bo g8 (bo hY Zc Zc) Zc))) (aP (bo (cE K) Zc (bo dj (bo fA (pv 6) Zc) Zc)) aW))))
     (bp (cf (i:=8) hj.nd rfl (Or.inl rfl) (bo dj (bo fA (pv 6) Zc) Zc))
     (bz (eE (eb (K:=K) rfl Qr QD QE gF (pv 2) (aP (ht (aP (bo dj (pv 6) (pv 1)) (aP (bo dj (bo fA (pv 6) Zc) (pv 1)) (aP (cd (ixk K) (pv 7) (pv 8) (λ_ _=>rfl)) (aP (cd (ixk K) (pv 7) (bo g8 Zc (pv 8)) (λ_ _=>rfl)) (aP (bo dj (bo fA (pv 5) Zc) (bo hY Zc Zc)) aW)))))) aW)))))))))
     (bz (cg (pv 2))))))),?_⟩
  walk_at "a"
  nofun;refine⟨Qn _,λb aJ=>?_⟩;have s1:Ze H (upd H b (.lst [])):=cu aJ;have ek:(upd H b (.lst [])) b=some (.lst []):=Zh;generalize upd H b (.lst [])=aL at*;have fX:=s1.seq aU;nofun;refine Rd.cut (λa5 aH=>∃n:Nat,aH=aL/\n<=40/\a5=[some (.ref p),some (.int m),some (.ref b),some (.int n),none,none,none,none,none]) ?k1 ?cI
  case cI=>
   rename_i fW hmx mx0 mx1;nofun;rename_i lT hmy my0 my1;refine Rd.ifD (λc=>?_) (λc=>?_)
   .nofun;exact⟨40,rfl,by decide,rfl⟩
   .nofun;exact⟨(fW % 13).toNat,rfl,by omega,by rw[show(((fW % 13).toNat:Nat):Int)=fW % 13 by omega];rfl⟩
  case k1=>
   rintro a5 aH ⟨n,rfl,a',rfl⟩;nofun;refine Wk (n:=n) (λi ao aH=>∃(bs:List V)(ls:List B5)(a1 bY cq c6 dG:Option V),ao=[some (.ref p),some (.int m),some (.ref b),some (.int n),a1,bY,cq,c6,dG]/\Ze H aH/\aH b=some (.lst bs)/\cK aH bs ls/\ls.length=i/\∀l∈ls,OkB m l) ⟨[],[],_,_,_,_,_,rfl,s1,ek,.nil,rfl,λl aK=>(by cases aK)⟩ ?_ ?_
   .rintro i ao bx aM ⟨bs,ls,a1,bY,cq,c6,dG,rfl,b4,ez,eL,ei,hn⟩;have jh:=b4.seq aU;have iy:=eL.length;have og:bs.length<sizeLine:=cV (by omega);have jn:(10:Int) ^ Int.toNat 30=1000000000000000000000000000000:=by decide+kernel
    have mp:(0:Int)<m:=by omega
    nofun;rename_i dM hdr dr0 dr1;rw[jn];have x1:1<=1+e3 ns (12+(0+(i:Int))) % (1000000000000000000000000000000-1)/\1+e3 ns (12+(0+(i:Int))) % (1000000000000000000000000000000-1)<10 ^ 30:=by omega
    have sS:1<=1+dM / 900 % 12/\1+dM / 900 % 12<10 ^ 30:=by omega
    have cv:0<=e3 ns (12+(0+(i:Int))) / 3 % 10 ^ Int.toNat 30/\e3 ns (12+(0+(i:Int))) / 3 % 10 ^ Int.toNat 30<10 ^ 30:=by rw[jn];omega
    generalize 1+e3 ns (12+(0+(i:Int))) % (1000000000000000000000000000000-1)=gx at*;generalize 1+dM / 900 % 12=gy at*;refine⟨by show 2<=sizeLine;decide,λu hu=>?_⟩;have b5:Ze bx (upd bx u (.lst [.int gx,.int gy])):=cu hu;have hJ:SqL K (upd bx u (.lst [.int gx,.int gy])) u [.int gx,.int gy]:= .of Zh;generalize upd bx u (.lst [.int gx,.int gy])=bM at*;have hk:=b5 _ _ ez;have nu:dM / 10800 % 2=0\/dM / 10800 % 2=1:=by omega
    have step:∀(gq gs:Int),1<=gq/\gq<10 ^ 30->1<=gs/\gs<10 ^ 30->OkB m ⟨dM % m,dM / 30 % m,gq,gs,e3 ns (12+(0+(i:Int))) / 3 % 10 ^ Int.toNat 30⟩:=λgq gs aN aQ=>
     ⟨JF _ (by omega),Jr _ mp,JF _ (by omega),Jr _ mp,aN.1,aN.2,aQ.1,aQ.2,cv.1,cv.2⟩
    nofun;have fin:∀(gq gs:Int)(t:Addr)(dv:Hp),1<=gq/\gq<10 ^ 30->1<=gs/\gs<10 ^ 30->Ze bM dv->dv t=some (.tup (B5.v ⟨dM % m,dM / 30 % m,gq,gs,e3 ns (12+(0+(i:Int))) / 3 % 10 ^ Int.toNat 30⟩))->∃(fF:List V)(iE:List B5),fF=bs++ [.ref t]/\Ze H (upd dv b (.lst fF))/\(upd dv b (.lst fF)) b=some (.lst fF)/\cK (upd dv b (.lst fF)) fF iE/\iE.length=i+1/\∀l∈iE,OkB m l:=λgq gs t dv aN aQ cY bL=>by
     have gU:=cY _ _ hk;have dm:Z3 [b] dv (upd dv b (.lst (bs++ [.ref t]))):=gM (by simp) gU (by intro _ z;cases z);refine⟨bs++ [.ref t],ls++ [⟨dM % m,dM / 30 % m,gq,gs,e3 ns (12+(0+(i:Int))) / 3 % 10 ^ Int.toNat 30⟩],rfl,((b4.trans b5).trans cY).new aJ,Zh,((eL.keep λb xs e=>cY _ _ (b5 _ _ e)).keep dm.tups).snoc (dm.tups _ _ bL),by simp[ei],λl aK=>?_⟩;rcases QJ.mp aK with z|z
     .exact hn l z
     .rw[QC.mp z];exact step gq gs aN aQ
    rcases nu with e|e
    .rw[e];nofun;refine⟨by show 5<=sizeLine;decide,λt bL=>?_⟩;obtain⟨fF,iE,c2,k1,k2,k3,kg,k5⟩:=fin gx gy t _ x1 sS (cu bL) Zh;have gU:(upd bM t (.tup [.int (dM % m),.int (dM / 30 % m),.int gx,.int gy,.int (e3 ns (12+(0+(i:Int))) / 3 % 10 ^ Int.toNat 30)])) b=some (.lst bs):=cu bL _ _ hk;nofun;rw[<-c2];exact⟨fF,iE,_,_,_,_,_,rfl,k1,k2,k3,kg,k5⟩
    .rw[e];nofun;refine⟨by show 5<=sizeLine;decide,λt bL=>?_⟩;obtain⟨fF,iE,c2,k1,k2,k3,kg,k5⟩:=fin gy gx t _ sS x1 (cu bL) Zh;have gU:(upd bM t (.tup [.int (dM % m),.int (dM / 30 % m),.int gy,.int gx,.int (e3 ns (12+(0+(i:Int))) / 3 % 10 ^ Int.toNat 30)])) b=some (.lst bs):=cu bL _ _ hk;nofun;rw[<-c2];exact⟨fF,iE,_,_,_,_,_,rfl,k1,k2,k3,kg,k5⟩
   .rintro ao bx ⟨bs,ls,a1,bY,cq,c6,dG,rfl,b4,ez,eL,ei,hn⟩;nofun;exact q b bs ls bx aJ b4 ez eL hn (by omega)
inductive sT(T:Tp K mg)(vs:List V)(H:Hp)(Q:VK)(b6:XK):Prop
 |mk (x:Str) (cW:vs=[.str x]) (cv:x.length<=sizeLine) (cw:∀aH,Ze H aH->Q (.bl (ly x)) aH):sT T vs H Q b6
theorem sU:OkN P w base 2 T.ai (sT T):=by
 refine T.ai.F.okX w0 (λvs H Q E h=>?_) (λbS A outer s H vs Q E aR h=>?_)
 .obtain⟨x,rfl,_⟩:=h
  rfl
 .have hu:=aR.hu;obtain⟨x,rfl,aV,q⟩:=h;have a4:=Txt.slice_le x (some 1) none;unfold ly at q;refine⟨_,(bp (cO (dU (K:=K) rfl (eb (K:=K) rfl Qq PySem.F.slot_str_startswith PySem.F.type_str_startswith qy (pv 0) (aP Zw aW)) (λ_=>rfl)) (bz (cg (gA (hs (fe (K:=K) rfl hu) (pv 0) Zw (cy _)) (gZ (bV T.S (lG T) aR bR (aP (iW (i7 (K:=K) rfl) (pv 0) (iV Zc) iU) aW)))))) cN)
     (bz (cg (bV T.S (lG T) aR bR (aP (pv 0) aW))))),?_⟩
  walk_at "a"
  nofun;refine WJ (λc=>?_) (λc=>?_)
  .rw[if_pos c] at q;nofun;refine WJ (λd=>?_) (λd=>?_)
   .nofun;refine⟨_,rfl,Qu a4 aV,λaH bC=>?_⟩;have:=q aH bC;rw[show(x==("-0" :Str))=false by simpa using d] at this;exact this
   .have:=q H (Ze.refl H);rw[show(x==("-0" :Str))=true by simpa using d] at this;exact this
  .rw[if_neg c] at q;nofun;exact⟨x,rfl,aV,q⟩
inductive sV(T:Tp K mg)(vs:List V)(H:Hp)(Q:VK)(b6:XK):Prop
 |mk (t:Int×Int) (cW:vs=[.str (dx t)]) (cv:(0<=t.1/\t.1<10 ^ 30/\t.2.natAbs<10 ^ 30)) (cw:∀a aH,H a=none->Ze H aH->aH a=some (.tup [.int t.1,.int t.2])->Q (.ref a) aH):sV T vs H Q b6
theorem yk:OkN P w base 3 T.aA (sV T):=by
 refine T.aA.F.okX rk (λvs H Q E h=>?_) (λbS A outer s H vs Q E aR h=>?_)
 .obtain⟨t,rfl,_⟩:=h
  rfl
 .have hu:=aR.hu;obtain⟨t,rfl,bL,q⟩:=h;have tl:=ZcE bL;have l1:=Tx.Yi (d6 bL.1 bL.2.1);have l2:=Tx.Yi bL.2.2;have bK:=Tx.WQ (d6 bL.1 bL.2.1);have cp:=Tx.WQ bL.2.2;have f0:(Tx.nS t.1).length<=640:=by omega
  have hQ:(Tx.nS t.2).length<=640:=by omega
  refine⟨_,(bp (cf (i:=1) rk.nd rfl (Or.inl rfl) (eb (K:=K) rfl Qq PySem.F.slot_str_partition PySem.F.type_str_partition wr (pv 0) (aP Zw aW)))
     (bp (cO (PW.pt (ed (dX (dU (K:=K) rfl (bV T.ai (sU T) aR bR (aP (cd (ixk K) (pv 1) Zc (λ_ _=>rfl)) aW)) (λ_=>rfl))) (fv (dX (dU (K:=K) rfl (bV T.S (lG T) aR bR (aP (cd (ixk K) (pv 1) Zc (λ_ _=>rfl)) aW)) (λ_=>rfl)))))) (bz (gc T.i.g T.i.e Qp rfl (aP Zw aW))) cN)
     (bz (cg (ht (aP (dR jb (by rfl) T.o QM (aP (cd (ixk K) (pv 1) Zc (λ_ _=>rfl)) aW)) (aP (dR jb (by rfl) T.o QM (aP (cd (ixk K) (pv 1) Zc (λ_ _=>rfl)) aW)) aW))))))),?_⟩
  walk_at "a"
  nofun;refine Rd.Zjy (by decide+kernel) (QF (cV (by omega))) λu hu=>?_;rw[Zfw];dsimp only;have s1:Ze H (upd H u (.tup [.str (Tx.nS t.2),.str "@",.str (Tx.nS t.1)])):=cu hu;have ek:(upd H u (.tup [.str (Tx.nS t.2),.str "@",.str (Tx.nS t.1)])) u=some (.tup [.str (Tx.nS t.2),.str "@",.str (Tx.nS t.1)]):=Zh;generalize upd H u (.tup [.str (Tx.nS t.2),.str "@",.str (Tx.nS t.1)])=aL at*;nofun;refine⟨_,rfl,QF (cV (by omega)),λaY bw=>?_⟩;rw[ZfN bL.2.2];have gl:=bw _ _ ek;nofun;refine⟨_,rfl,QF (cV (by omega)),λbT bA=>?_⟩;rw[ZfO bL.1 bL.2.1];have fM:=bA _ _ gl;nofun;refine⟨by show 2<=sizeLine;decide,λa aS=>?_⟩;exact q a _ (none_of ((s1.trans bw).trans bA) aS) (((s1.trans bw).trans bA).trans (cu aS)) Zh
inductive sW(T:Tp K mg)(vs:List V)(H:Hp)(Q:VK)(b6:XK):Prop
 |mk (f:Fm) (cW:vs=[.str (textF f)]) (cv:OkF f) (cw:∀a aH,H a=none->Ze H aH->ey aH (.ref a) f->Q (.ref a) aH):sW T vs H Q b6
theorem sX:OkN P w base 4 T.aj (sW T):=by
 refine T.aj.F.okX rl (λvs H Q E h=>?_) (λbS A outer s H vs Q E aR h=>?_)
 .obtain⟨f,rfl,_⟩:=h
  rfl
 .have hu:=aR.hu;obtain⟨f,rfl,a6,q⟩:=h;have tl:=WW a6;have l1:=Tx.Yi a6.c;have bK:=Tx.WQ a6.c;have f0:(Tx.nS f.c).length<=640:=by omega
  have sY:=a6.len;have xv:atI (V.str (Tx.nS f.c)::(f.ts.map dx).map V.str) 0=some (.str (Tx.nS f.c)):=Vh (show(V.str (Tx.nS f.c)::(f.ts.map dx).map V.str)[0]? =some (.str (Tx.nS f.c)) from rfl);refine⟨_,(bp (cf (i:=1) rl.nd rfl (Or.inl rfl) (eb (K:=K) rfl Qq Jv Jw nD (pv 0) (aP Zw aW)))
     (bp (cO (dX (dU (K:=K) rfl (bV T.ai (sU T) aR bR (aP (cd (ixk K) (pv 1) Zc (λ_ _=>rfl)) aW)) (λ_=>rfl))) (bz (gc T.i.g T.i.e Qp rfl (aP Zw aW))) cN)
     (bz (cg (ht (aP (dR jb (by rfl) T.o QM (aP (cd (ixk K) (pv 1) Zc (λ_ _=>rfl)) aW)) (aP (dR (k' (K:=K) rfl) (by rfl) T.g QG (aP (nw (xs:=["word"]) rfl (eT (x:="word") (zs:=[]) (ix:=[]) (bU nU) ["text","words"] rfl rfl (by decide+kernel)) (ff (K:=K) rfl (iW (i7 (K:=K) rfl) (pv 1) (iV Zc) iU)) (λbu C s H fp=>⟨(c9 (i:=0) (show(["word"]:List Str).Nodup by decide+kernel) rfl (Or.inl rfl)),e2,(bV T.aA (yk T) aR Wd (aP (pv 0) aW))⟩)) aW)) aW))))))),?_⟩
  walk_at "a"
  nofun;refine Rd.split (by decide+kernel) (by rw[QB];omega) λu hu=>?_;rw[ZeE];have s1:Ze H (upd H u (.lst ((eC f).map V.str))):=cu hu;have ek:SqL K (upd H u (.lst ((eC f).map V.str))) u (.str (Tx.nS f.c)::(f.ts.map dx).map V.str):= .of Zh;generalize upd H u (.lst ((eC f).map V.str))=aL at*;nofun;refine⟨_,rfl,QF (cV (by omega)),λaY bw=>?_⟩;rw[ZfN a6.c];have gl:=bw.seq ek;nofun;refine Rd.slL gl λc aO=>?_;have fz:f7 (V.str (Tx.nS f.c)::(f.ts.map dx).map V.str) (some 1) none=(f.ts.map dx).map V.str:=by
   unfold f7;rw[HT.Zc9,show(1:Int)=((1:Nat):Int) from rfl,HT.ZdV];simp;exact QR (by simp)
  rw[fz];have bA:Ze aY (upd aY c (.lst ((f.ts.map dx).map V.str))):=cu aO;have fM:SqL K (upd aY c (.lst ((f.ts.map dx).map V.str))) c ((f.ts.map dx).map V.str):= .of Zh;generalize upd aY c (.lst ((f.ts.map dx).map V.str))=bT at*;refine⟨c,rfl,⟨_,fM⟩,?_⟩;refine Vg (own:=1) (fc fM).y (cV (by simp;omega)) (λi=>[some (.str (dx (f.ts.getD i (0,0))))]) (λ_=>rfl) (λ_=>true) (λi v aH=>∃l,v=V.ref l/\aH l=some (.tup [.int (f.ts.getD i (0,0)).1,.int (f.ts.getD i (0,0)).2])) (λ_ _ _ _ s ⟨l,x,y⟩=>⟨l,x,s _ _ y⟩) (λi dY aH v bT i' aM bC y fB k=>?_) (λi aH cC aM bC k=>?_) (λox i aH cC aM _ sB dQ bC k=>?_) (λr bx ys aR b4 iz eS=>?_)
  .obtain⟨rfl,rfl⟩:=y;obtain⟨x1,rfl⟩:∃x1,dY=[x1]:=by
    match dY,fB with
    | [x1],_=>exact⟨x1,rfl⟩
   have cj:i<f.ts.length:=by simpa using aM
   have e:((f.ts.map dx).map V.str).getD i .non= .str (dx (f.ts.getD i (0,0))):=by simp[List.getD,cj]
   rw[e];nofun;exact k _ (Ze.refl _)
  .nofun;exact k aH (Ze.refl aH)
  .have cj:i<f.ts.length:=by simpa using aM
   have aZ:=a6.t (f.ts.getD i (0,0)) (by rw[Qd,Qa cj];exact Qm cj);obtain⟨zs,oR⟩:=dQ;nofun;refine⟨_,rfl,aZ,λl bM aK b5 hJ=>k _ bM b5 ⟨l,rfl,?_⟩⟩;rw[WY (dy oR aK).symm];exact hJ
  rw[Qx.mpr (by simp),show((f.ts.map dx).map V.str).length=f.ts.length by simp,JD] at eS;have ef:e4 bx ys f.ts:=n6 (d:=((0,0):Int×Int)) eS λi v aM ⟨l,e,h⟩=>by
   rw[Nat.zero_add] at h;refine⟨l,e,?_⟩
   by_cases z:l=r
   .rw[z,j3] at h;cases h
   .rw[WY z] at h;exact h
  refine⟨r,ys,rfl,.inl ⟨.of iz,λcP fq=>?_⟩⟩;have b5:Ze bx (upd bx cP (.tup ys)):=cu fq;have hJ:(upd bx cP (.tup ys)) cP=some (.tup ys):=Zh;generalize upd bx cP (.tup ys)=bM at*;nofun;refine⟨by show 2<=sizeLine;decide,λa aS=>?_⟩;have cY:=(((s1.trans bw).trans bA).trans b4).trans b5;have cR:Ze bM (upd bM a (.tup [.int f.c,.ref cP])):=cu aS;exact q a _ (none_of cY aS) (cY.trans cR) ⟨a,cP,ys,rfl,Zh,cR _ _ hJ,(ef.keep b5).keep cR⟩
inductive sZ(T:Tp K mg)(vs:List V)(H:Hp)(Q:VK)(b6:XK):Prop
 |mk (fs:List Fm) (cW:vs=[.str (formsT fs)]) (cv:(∀f∈fs,OkF f)) (cw:fs.length<=6) (dW:∀a cA aH,Ze H aH->aH a=some (.tup cA)->eD aH cA fs->Q (.ref a) aH):sZ T vs H Q b6
theorem yl:OkN P w base 5 T.aB (sZ T):=by
 refine T.aB.F.okX w1 (λvs H Q E h=>?_) (λbS A outer s H vs Q E aR h=>?_)
 .obtain⟨fs,rfl,_⟩:=h
  rfl
 .have hu:=aR.hu;obtain⟨fs,rfl,fS,dg,q⟩:=h;refine⟨_,(bp (cO (cH (eU (K:=K) rfl hu) (pv 0) Zw (cy _)) (bz (cg (ht aW))) cN)
     (bz (cg (dR (k' (K:=K) rfl) (by rfl) T.g QG (aP (nw (xs:=["part"]) rfl (eT (x:="part") (zs:=[]) (ix:=[]) (bU nV) ["text"] rfl rfl (by decide+kernel)) (ff (K:=K) rfl (eb (K:=K) rfl Qq Jv Jw nD (pv 0) (aP Zw aW))) (λbu C s H fp=>⟨(c9 (i:=0) (show(["part"]:List Str).Nodup by decide+kernel) rfl (Or.inl rfl)),e2,(bV T.aj (sX T) aR Wd (aP (pv 0) aW))⟩)) aW))))),?_⟩
  walk_at "a"
  by_cases ne:fs=[]
  .subst ne;have e:formsT []="-" :=by unfold formsT;rw[if_pos rfl]
   rw[e];nofun;refine⟨Qn _,λa aS=>?_⟩;exact q a [] _ (cu aS) Zh .nil
  have e:formsT fs=Txt.join ", " (fs.map textF):=by unfold formsT;rw[if_neg ne]
  have bh:formsT fs≠"-" :=by
   rw[e];cases fs with
   |nil=>exact absurd rfl ne
   |cons f r=>exact Zgo
  have tl:(formsT fs).length<=12100:=by
   rw[e];have:=Zaf (s:=", ") (m:=2000) (ps:=fs.map textF) λw hw=>by obtain⟨f,a6,rfl⟩:=Qy.mp hw;exact WW (fS f a6)
   rw[show(", " :Str).length=2 by decide+kernel,Qc] at this;omega
  have a4:Txt.split (formsT fs) ", " =fs.map textF:=by rw[e];exact ZdM ne
  generalize formsT fs=x at*;nofun;refine Rd.split (by decide+kernel) (by rw[QB];omega) λu hu=>?_;rw[a4];have s1:Ze H (upd H u (.lst ((fs.map textF).map V.str))):=cu hu;have ek:SqL K (upd H u (.lst ((fs.map textF).map V.str))) u ((fs.map textF).map V.str):= .of Zh;generalize upd H u (.lst ((fs.map textF).map V.str))=aL at*;refine⟨u,rfl,⟨_,ek⟩,?_⟩;refine Vg (own:=1) (fc ek).y (cV (by simp;omega)) (λi=>[some (.str (textF (fs.getD i ⟨0,[]⟩)))]) (λ_=>rfl) (λ_=>true) (λi v aH=>ey aH v (fs.getD i ⟨0,[]⟩)) (λ_ _ _ _ s h=>h.keep s) (λi dY aH v bT i' aM bC y fB k=>?_) (λi aH cC aM bC k=>?_) (λox i aH cC aM _ sB dQ bC k=>?_) (λr bx ys aR b4 iz eS=>?_)
  .obtain⟨rfl,rfl⟩:=y;obtain⟨x1,rfl⟩:∃x1,dY=[x1]:=by
    match dY,fB with
    | [x1],_=>exact⟨x1,rfl⟩
   have cj:i<fs.length:=by simpa using aM
   have e:((fs.map textF).map V.str).getD i .non= .str (textF (fs.getD i ⟨0,[]⟩)):=by simp[List.getD,cj]
   rw[e];nofun;exact k _ (Ze.refl _)
  .nofun;exact k aH (Ze.refl aH)
  .have cj:i<fs.length:=by simpa using aM
   have aZ:=fS (fs.getD i ⟨0,[]⟩) (by rw[Qd,Qa cj];exact Qm cj);obtain⟨zs,oR⟩:=dQ;nofun;refine⟨_,rfl,aZ,λa bM aS b5 bO=>k _ bM b5 ?_⟩;exact Zjb bO (b5 _ _ oR)
  rw[Qx.mpr (by simp),show((fs.map textF).map V.str).length=fs.length by simp,JD] at eS;have hx:eD bx ys fs:=n6 (d:=(⟨0,[]⟩:Fm)) eS λi v aM h=>by
   rw[Nat.zero_add] at h;exact h.keep (xm bx r)
  refine⟨r,ys,rfl,.inl ⟨.of iz,λcP fq=>?_⟩⟩;exact q cP ys _ ((s1.trans b4).trans (cu fq)) Zh (hx.keep (cu fq))
inductive s2(T:Tp K mg)(vs:List V)(H:Hp)(Q:VK)(b6:XK):Prop
 |mk (v:V) (f:Fm) (cW:vs=[v]) (cv:ey H v f) (cw:OkF f) (dW:∀aH,Ze H aH->Q (.str (textF f)) aH):s2 T vs H Q b6
theorem ym:OkN P w base 1 T.aC (s2 T):=by
 refine T.aC.F.okX j_ (λvs H Q E h=>?_) (λbS A outer s H vs Q E aR h=>?_)
 .obtain⟨v,f,rfl,_⟩:=h
  rfl
 .have hu:=aR.hu;obtain⟨v,f,rfl,bO,a6,q⟩:=h;obtain⟨a,cP,c8,rfl,aS,fq,ef⟩:=bO;have yn:=Tx.YE a6.c;have sY:=a6.len;have kj:c8.length=f.ts.length:=ef.length;have en:SqT K H cP c8:= .of fq;have sI:("@" :Str).length=1:=by decide+kernel
  have BA:(" " :Str).length=1:=by decide+kernel
  have sl:=QB;refine⟨_,(bp (cf (i:=1) j_.nd rfl (Or.inl rfl) (dR gC (by rfl) T.h Qw (aP (cd (ixk K) (pv 0) Zc (λ_ _=>rfl)) aW)))
     (bp (fw PassesOwn.leaving rfl (j4 (K:=K) rfl (cd (ixk K) (pv 0) Zc (λ_ _=>rfl))) (nr (K:=K) (n:=2) rfl rfl (iO (c9 (i:=2) j_.nd rfl (Or.inl rfl)) (iO (c9 (i:=3) j_.nd rfl (Or.inl rfl)) me))) (bz (cf (i:=1) j_.nd rfl (Or.inl rfl) (bo (cE K) (bo (cE K) (bo (cE K) (bo (cE K) (pv 1) Zw) (dR gC (by rfl) T.h Qw (aP (pv 3) aW))) Zw) (dR gC (by rfl) T.h Qw (aP (pv 2) aW))))))
     (bz (cg (pv 1))))),?_⟩
  walk_at "a"
  nofun;unfold hU;nofun;refine⟨cP,rfl,⟨_,en⟩,?_⟩;refine WH (j1 en) (λi ao aH=>∃a1 bY:Option V,aH=H/\ao=[some (.ref a),some (.str (textF ⟨f.c,f.ts.take i⟩)),a1,bY]) ⟨none,none,rfl,by rw[List.take_zero,xl];rfl⟩ (λi ao aH ⟨_,_,e,_⟩=>e▸Ze.refl H) ?_ ?_
  .rintro i ao aH aM ⟨a1,bY,rfl,rfl⟩;have c1:i<f.ts.length:=by omega
   obtain⟨t,gV,bL⟩:=ZaR ef (i:=i) c1;have aZ:=a6.t (f.ts.getD i (0,0)) (by rw[Qd,Qa c1];exact Qm c1);have yo:f.ts.take (i+1)=f.ts.take i++ [f.ts.getD i (0,0)]:=by rw[Ju,Qa c1];simp[List.getD,c1]
   have yp:=WW (f:=⟨f.c,f.ts.take i⟩) ⟨a6.c,by rw[Q5];omega,λt bL=>a6.t t (List.mem_of_mem_take bL)⟩;rw[gV];refine Rd.Zgq (.of bL) rfl ?_;generalize f.ts.getD i (0,0)=gg at*;have g1:=Tx.YE (d6 aZ.1 aZ.2.1);have g2:=Tx.YE aZ.2.2;have cv:=Tx.Yi (d6 aZ.1 aZ.2.1);have cw:=Tx.Yi aZ.2.2;have bg:=ZeC f.c (f.ts.take i) gg;rw[<-yo] at bg;generalize textF ⟨f.c,f.ts.take i⟩=x at*;have f1:x.length+(" " :Str).length<=sizeLine:=by omega
   have f2:(x++ " ").length+(Tx.nS gg.2).length<=sizeLine:=by rw[Str.length_append];omega
   have cF:(x++ " " ++Tx.nS gg.2).length+("@" :Str).length<=sizeLine:=by rw[Str.length_append,Str.length_append];omega
   have c_:(x++ " " ++Tx.nS gg.2++ "@").length+(Tx.nS gg.1).length<=sizeLine:=by rw[Str.length_append,Str.length_append,Str.length_append];omega
   nofun;exact⟨_,_,rfl,by rw[<-bg]⟩
  .rintro ao aH ⟨a1,bY,rfl,rfl⟩;nofun;rw[kj,Q7];exact q _ (Ze.refl _)
inductive s3(T:Tp K mg)(vs:List V)(H:Hp)(Q:VK)(b6:XK):Prop
 |mk (c w:Int) (n:Nat) (cW:vs=[.int c,.int w,.int n]) (cv:0<=w) (cw:w<=1000) (dW:n<=30) (fl:∀a f aH,H a=none->Ze H aH->ey aH (.ref a) f->OkF f->Q (.ref a) aH):s3 T vs H Q b6
theorem yq:OkN P w base 2 T.aD (s3 T):=by
 refine T.aD.F.okX gh (λvs H Q E h=>?_) (λbS A outer s H vs Q E aR h=>?_)
 .obtain⟨c,w,n,rfl,_⟩:=h
  rfl
 .have hu:=aR.hu;obtain⟨c,w,n,rfl,hp,kG,fk,q⟩:=h;refine⟨_,(bp (cf (i:=3) gh.nd rfl (Or.inl rfl) (fQ aW))
     (bp (cf (i:=4) gh.nd rfl (Or.inl rfl) (bV T.C (fV T) aR bR (aP (pv 0) (aP (pv 1) aW))))
     (bp (fw PassesOwn.leaving rfl (hV rfl T.j (aP (pv 2) aW)) (c9 (i:=5) gh.nd rfl (Or.inl rfl)) (bp (cf (i:=6) gh.nd rfl (Or.inl rfl) (bV T.C (fV T) aR bR (aP (pv 0) (aP (bo (cE K) (bo (cE K) (pv 1) Zc) (pv 5)) aW))))
     (bp (cf (i:=7) gh.nd rfl (Or.inl rfl) (bo g8 (bo dj (bo fA (pv 6) Zc) Zc) Zc))
     (bp (cf (i:=8) gh.nd rfl (Or.inl rfl) (bo dj (bo fA (pv 6) Zc) Zc))
     (bp (hc (cO (cH (eU (K:=K) rfl hu) (bo dj (pv 6) Zc) Zc (cy _)) (bz (cf (i:=7) gh.nd rfl (Or.inl rfl) (bo (cE K) (bo g8 (bo dj (bo fA (pv 0) (bo (cE K) (pv 5) Zc)) (bo g8 (bo ii Zc (bo hY Zc Zc)) Zc)) (bo hY Zc Zc)) Zc))) cN))
     (bp (hc (cO (cH (eU (K:=K) rfl hu) (bo dj (pv 6) Zc) Zc (cy _)) (bz (cf (i:=8) gh.nd rfl (Or.inl rfl) (bo dj (bo fA (pv 0) (bo (cE K) (pv 5) Zc)) (bo hY Zc Zc)))) cN))
     (bz (eE (eb (K:=K) rfl Qr QD QE gF (pv 3) (aP (ht (aP (pv 8) (aP (pv 7) aW))) aW))))))))))
     (bp (cf (i:=9) gh.nd rfl (Or.inl rfl) (bo g8 (bo dj (bo fA (pv 4) Zc) Zc) Zc))
     (bp (hc (cO (cH (eU (K:=K) rfl hu) (bo dj (pv 4) Zc) Zc (cy _)) (bz (cf (i:=9) gh.nd rfl (Or.inl rfl) (bo (cE K) (bo g8 (bo dj (pv 0) (bo g8 (bo ii Zc (bo hY Zc Zc)) Zc)) (bo hY Zc Zc)) Zc))) cN))
     (bz (cg (ht (aP (pv 9) (aP (dR (k' (K:=K) rfl) (by rfl) T.g QG (aP (pv 3) aW)) aW)))))))))),?_⟩
  walk_at "a"
  nofun;refine⟨Qn _,λb aJ=>?_⟩;have s1:Ze H (upd H b (.lst [])):=cu aJ;have ek:(upd H b (.lst [])) b=some (.lst []):=Zh;generalize upd H b (.lst [])=aL at*;nofun;rename_i dM hdr dr0 dr1;have jn:(10:Int) ^ Int.toNat 30=1000000000000000000000000000000:=by decide+kernel
  refine Wk (n:=n) (λi ao aH=>∃(c8:List V)(ts:List (Int×Int))(a1 bY cq c6:Option V),ao=[some (.int c),some (.int w),some (.int n),some (.ref b),some (.int dM),a1,bY,cq,c6,none]/\Ze H aH/\aH b=some (.lst c8)/\e4 aH c8 ts/\ts.length=i/\∀t∈ts,0<=t.1/\t.1<10 ^ 30/\t.2.natAbs<10 ^ 30) ⟨[],[],_,_,_,_,rfl,s1,ek,.nil,rfl,λl aK=>(by cases aK)⟩ ?_ ?_
  .rintro i ao bx aM ⟨c8,ts,a1,bY,cq,c6,rfl,b4,ez,eL,ei,hn⟩;nofun;rename_i pt hpt pt0 pt1;refine Rd.cut (λa5 aH=>∃dS:Int,bx=aH/\dS.natAbs<10 ^ 30/\a5=[some (.int c),some (.int w),some (.int n),some (.ref b),some (.int dM),some (.int (0+(i:Int))),some (.int pt),some (.int dS),some (.int (pt / 600 % 40)),none]) ?k1 ?cI
   case cI=>
    nofun;refine Rd.ifD (λc=>?_) (λc=>?_)
    .nofun;refine Rd.iC ⟨by omega,Nat.lt_trans (Tx.YE (by omega)) (by decide)⟩ ?_;nofun;rw[jn];exact⟨_,rfl,by omega,rfl⟩
    .nofun;exact⟨_,rfl,by omega,rfl⟩
   case k1=>
    rintro a5 aH ⟨dS,rfl,oS,rfl⟩;nofun;refine Rd.cut (λa5 aH=>∃sa:Int,bx=aH/\0<=sa/\sa<10 ^ 30/\a5=[some (.int c),some (.int w),some (.int n),some (.ref b),some (.int dM),some (.int (0+(i:Int))),some (.int pt),some (.int dS),some (.int sa),none]) ?k2 ?dI
    case dI=>
     nofun;refine Rd.ifD (λc=>?_) (λc=>?_)
     .nofun;refine Rd.iC ⟨by omega,Nat.lt_trans (Tx.YE (by omega)) (by decide)⟩ ?_;nofun;rw[jn];exact⟨_,rfl,by omega,by omega,rfl⟩
     .nofun;exact⟨_,rfl,by omega,by omega,rfl⟩
    case k2=>
     rintro a5 aH ⟨sa,rfl,yr,je,rfl⟩;nofun;refine⟨by show 2<=sizeLine;decide,λt bL=>?_⟩;have cY:Ze bx (upd bx t (.tup [.int sa,.int dS])):=cu bL;have lM:(upd bx t (.tup [.int sa,.int dS])) t=some (.tup [.int sa,.int dS]):=Zh;generalize upd bx t (.tup [.int sa,.int dS])=dv at*;have gU:=cY _ _ ez;have kj:c8.length=ts.length:=eL.length;have og:c8.length<sizeLine:=cV (by omega);nofun;have dm:Z3 [b] dv (upd dv b (.lst (c8++ [.ref t]))):=gM (by simp) gU (by intro _ z;cases z);refine⟨c8++ [.ref t],ts++ [(sa,dS)],_,_,_,_,rfl,(b4.trans cY).new aJ,Zh,?_,by simp[ei],λl aK=>?_⟩
     .exact rN (eL.tups λa xs e=>dm.tups _ _ (cY _ _ e)) (dm.tups _ _ lM)
     .rcases QJ.mp aK with z|z
      .exact hn l z
      .rw[QC.mp z];exact⟨yr,je,oS⟩
  .rintro ao bx ⟨c8,ts,a1,bY,cq,c6,rfl,b4,ez,eL,ei,hn⟩;nofun;refine Rd.cut (λa5 aH=>∃kk:Int,bx=aH/\kk.natAbs<10 ^ 30/\a5=[some (.int c),some (.int w),some (.int n),some (.ref b),some (.int dM),a1,bY,cq,c6,some (.int kk)]) ?k1 ?cI
   case cI=>
    nofun;refine Rd.ifD (λc=>?_) (λc=>?_)
    .nofun;rw[jn];exact⟨_,rfl,by omega,rfl⟩
    .nofun;exact⟨_,rfl,by omega,rfl⟩
   case k1=>
    rintro a5 aH ⟨kk,rfl,yt,rfl⟩;nofun;refine⟨b,c8,rfl,.inl ⟨.of ez,λcP fq=>?_⟩⟩;have b5:Ze bx (upd bx cP (.tup c8)):=cu fq;have hJ:(upd bx cP (.tup c8)) cP=some (.tup c8):=Zh;generalize upd bx cP (.tup c8)=bM at*;nofun;refine⟨by show 2<=sizeLine;decide,λa aS=>?_⟩;have cY:Ze bM (upd bM a (.tup [.int kk,.ref cP])):=cu aS;exact q a ⟨kk,ts⟩ _ (none_of (b4.trans b5) aS) ((b4.trans b5).trans cY) ⟨a,cP,c8,rfl,Zh,cY _ _ hJ,(eL.keep b5).keep cY⟩ ⟨yt,by dsimp only;omega,hn⟩
inductive s4(T:Tp K mg)(vs:List V)(H:Hp)(Q:VK)(b6:XK):Prop
 |mk (v:V) (f:Fm) (cW:vs=[v]) (cv:ey H v f) (cw:OkF f) (dW:∀aH,Ze H aH->Q (.str (textF f)) aH):s4 T vs H Q b6
theorem UV:OkN P w base 1 T.ak (s4 T):=by
 refine T.ak.F.okX w2 (λvs H Q E h=>?_) (λbS A outer s H vs Q E aR h=>?_)
 .obtain⟨v,f,rfl,_⟩:=h
  rfl
 .have hu:=aR.hu;obtain⟨v,f,rfl,bO,a6,q⟩:=h;obtain⟨a,cP,c8,rfl,aS,fq,ef⟩:=bO;have yn:=Tx.YE a6.c;have sY:=a6.len;have kj:c8.length=f.ts.length:=ef.length;have sI:("@" :Str).length=1:=by decide+kernel
  refine⟨_,(bz (cg (eb (K:=K) rfl Qq QW QX (i8 (K:=K) rfl) Zw (aP (bo (cE K) (fQ (aP (dR gC (by rfl) T.h Qw (aP (cd (ixk K) (pv 0) Zc (λ_ _=>rfl)) aW)) aW)) (nw (xs:=["slot","factor"]) rfl (eT (x:="slot") (zs:=[]) (ix:=[]) (bU nW) ["form"] rfl rfl (by decide+kernel)) (j4 (K:=K) rfl (cd (ixk K) (pv 0) Zc (λ_ _=>rfl))) (λbu C s H fp=>⟨(nr (K:=K) (n:=2) rfl rfl (iO (c9 (i:=0) (show(["slot","factor"]:List Str).Nodup by decide+kernel) rfl (Or.inl rfl)) (iO (c9 (i:=1) (show(["slot","factor"]:List Str).Nodup by decide+kernel) rfl (Or.inl rfl)) me))),e2,(wt (nE (pv 1)) Zw (nE (pv 0)))⟩))) aW)))),?_⟩
  walk_at "a"
  nofun;intro u hu;have s1:Ze H (upd H u (.lst [.str (Tx.nS f.c)])):=cu hu;have ek:(upd H u (.lst [.str (Tx.nS f.c)])) u=some (.lst [.str (Tx.nS f.c)]):=Zh;generalize upd H u (.lst [V.str (Str.ofString (toString f.c))])=aL at*;have BB:=s1 _ _ aS;have yu:=s1 _ _ fq;have en:SqT K aL cP c8:= .of yu;have yv:=ef.keep s1;nofun;unfold hU;nofun;refine⟨cP,rfl,⟨_,en⟩,?_⟩;refine Vg (own:=2) (j1 en).y (cV (by omega)) (λi=>[some (.int (f.ts.getD i (0,0)).1),some (.int (f.ts.getD i (0,0)).2)]) (λ_=>rfl) (λ_=>true) (λi v _=>v= .str (dx (f.ts.getD i (0,0)))) (λ_ _ _ _ _ z=>z) (λi dY aH v bT i' aM bC y fB k=>?_) (λi aH cC aM bC k=>?_) (λox i aH cC aM fE hp0 fX bC k=>?_) (λd bT zs hd bC fo eS=>?_)
  .obtain⟨rfl,rfl⟩:=y;obtain⟨x1,eR,rfl⟩:∃x1 eR,dY=[x1,eR]:=by
    match dY,fB with
    | [x1,eR],_=>exact⟨x1,eR,rfl⟩
   obtain⟨t,gV,bL⟩:=ZaR yv (i:=i) (by omega);rw[gV];refine Rd.Zgq (.of (bC _ _ bL)) rfl ?_;nofun;exact k _ (Ze.refl _)
  .nofun;exact k aH (Ze.refl aH)
  .have c1:i<f.ts.length:=by omega
   have aZ:=a6.t (f.ts.getD i (0,0)) (by rw[Qd,Qa c1];exact Qm c1);generalize f.ts.getD i (0,0)=gg at*;have g1:=Tx.YE (d6 aZ.1 aZ.2.1);have g2:=Tx.YE aZ.2.2;have cv:=Tx.Yi (d6 aZ.1 aZ.2.1);have cw:=Tx.Yi aZ.2.2;have sl:=QB;nofun;exact k _ aH (Ze.refl aH) rfl
  rw[Qx.mpr (by simp),kj] at eS;have eA:=rP (f:=λi=>dx (f.ts.getD i (0,0))) eS;rw[YY dx] at eA;rw[eA] at fo;refine Rd.ZeF (bC _ _ ek) fo (by rw[Qc,Qc,QB];show 1+_<=_;omega) λl aK=>?_;nofun;exact⟨" ",l,eC f,rfl,rfl,.of Zh,lz (m:=63) (k:=31) (rL a6) (rM a6) (by decide+kernel),q _ ((s1.trans bC).trans (cu aK))⟩
inductive s5(T:Tp K mg)(vs:List V)(H:Hp)(Q:VK)(b6:XK):Prop
 |mk (p:Addr) (cA:List V) (fs:List Fm) (cW:vs=[.ref p]) (cv:H p=some (.tup cA)) (cw:eD H cA fs) (dW:(∀f∈fs,OkF f)) (fl:fs.length<=6) (hG:∀aH,Ze H aH->Q (.str (formsT fs)) aH):s5 T vs H Q b6
theorem yw:OkN P w base 2 T.aE (s5 T):=by
 refine T.aE.F.okX w3 (λvs H Q E h=>?_) (λbS A outer s H vs Q E aR h=>?_)
 .obtain⟨p,cA,fs,rfl,_⟩:=h
  rfl
 .have hu:=aR.hu;obtain⟨p,cA,fs,rfl,aU,hx,fS,dg,q⟩:=h;have en:SqT K H p cA:= .of aU;have fT:cA.length=fs.length:=hx.length;unfold formsT at q;refine⟨_,(bp (cO (cH (eU (K:=K) rfl hu) (cJ (d5 K) (by rfl) T.c Qk (aP (pv 0) aW)) Zc (cy _)) (bz (cg Zw)) cN)
     (bz (cg (eb (K:=K) rfl Qq QW QX (i8 (K:=K) rfl) Zw (aP (gJ rfl (eT (x:="form") (zs:=[]) (ix:=[]) (bU nX) ["forms"] rfl rfl (by decide+kernel)) (j4 (K:=K) rfl (pv 0)) (λbu C s H fp=>⟨(c9 (i:=0) (show(["form"]:List Str).Nodup by decide+kernel) rfl (Or.inl rfl)),e2,(bV T.ak (UV T) aR Wd (aP (pv 0) aW))⟩)) aW))))),?_⟩
  walk_at "a"
  nofun;refine Rd.ifD (λc=>?_) (λc=>?_)
  .have e:fs=[]:=by
    cases fs with
    |nil=>rfl
    |cons=>simp at fT;omega
   rw[if_pos e] at q;nofun;exact q H (Ze.refl H)
  .have ne:fs≠[]:=λe=>c (by rw[e] at fT;simp at fT;simp[fT]);rw[if_neg ne] at q;nofun;unfold hU;nofun;refine⟨p,rfl,⟨_,en⟩,?_⟩;refine Z7 (j1 en) (cV (by omega)) (λ_=>true) (λi=> .str (textF (fs.getD i ⟨0,[]⟩))) (λi aH cC aM bC k=>?_) (λi aH cC aM _ bC k=>?_) (λd aY hd bw jL=>?_)
   .nofun;exact k aH (Ze.refl aH)
   .have c1:i<fs.length:=by omega
    have aZ:=fS (fs.getD i ⟨0,[]⟩) (by rw[Qd,Qa c1];exact Qm c1);nofun;exact⟨_,_,rfl,(kb hx c1).keep bC,aZ,λbM b5=>k bM b5⟩
   rw[Qx.mpr (by simp),fT,show((List.range fs.length).map λi=>V.str (textF (fs.getD i ⟨0,[]⟩)))=(fs.map textF).map V.str by rw[Qs,<-YY (V.str∘textF) fs ⟨0,[]⟩];rfl] at jL;nofun;exact⟨", ",d,fs.map textF,rfl,rfl,.of jL,lz (m:=2000) (k:=6) (λw hw=>by obtain⟨f,a6,rfl⟩:=Qy.mp hw;exact WW (fS f a6)) (by rw[Qc];exact dg) (by decide+kernel),q _ bw⟩
inductive W9(T:Tp K mg)(vs:List V)(H:Hp)(Q:VK)(b6:XK):Prop
 |mk (i:Int) (cW:vs=[.int i]) (cv:Q (.bl true) H):W9 T vs H Q b6
theorem Zfb{T:Tp K mg}{H:Hp}{Q:VK}{E:XK}{i:Int}(q:Q (.bl true) H):W9 T ([.int i]++ []) H Q E:=⟨i,rfl,q⟩
local macro_rules| `(tactic|walk_at "rd")=>`(tactic|first|((with_reducible show Nm.W9 _ _ _ _ _);with_reducible refine Nm.Zfb ?_)|fail "none here")
theorem oT:OkN P w base 1 T.ab (W9 T):=by
 refine T.ab.F.okX w4 (λvs H Q E h=>?_) (λbS A outer s H vs Q E aR h=>?_)
 .obtain⟨i,rfl,_⟩:=h
  rfl
 .have hu:=aR.hu;obtain⟨i,rfl,q⟩:=h;refine⟨_,(bz (cg (gA (cJ (gN (K:=K) rfl) (by rfl) T.b Ql (aP (pv 0) (aP (gv (v:= .ty "int") (by rfl) T.o QM rfl) aW))) (gZ (md (cJ (gN (K:=K) rfl) (by rfl) T.b Ql (aP (pv 0) (aP (gv (v:= .ty "bool") (by rfl) T.Y PyProof.Rows.boot_bool rfl) aW)))))))),?_⟩
  walk_at "a"
  nofun;exact q
inductive s6(T:Tp K mg)(vs:List V)(H:Hp)(Q:VK)(b6:XK):Prop
 |mk (v u:V) (f:Fm) (cW:vs=[v,u]) (cv:ey H v f) (cw:ey H u f) (dW:f.ts.length<=30) (fl:∀aH,Ze H aH->Q (.bl true) aH):s6 T vs H Q b6
theorem s7:OkN P w base 2 T.al (s6 T):=by
 refine T.al.F.okX rm (λvs H Q E h=>?_) (λbS A outer s H vs Q E aR h=>?_)
 .obtain⟨v,u,f,rfl,_⟩:=h
  rfl
 .have hu:=aR.hu;obtain⟨v,u,f,rfl,bO,ji,fk,q⟩:=h;have yx:=n7 (K:=K) bO;have yy:=n7 (K:=K) ji;obtain⟨a,cP,c8,rfl,aS,fq,ef⟩:=bO;have kj:c8.length=f.ts.length:=ef.length;have en:SqT K H cP c8:= .of fq;refine⟨_,(bp (cO (PW.pt (ed (dX (dU (K:=K) rfl (cJ (gN (K:=K) rfl) (by rfl) T.b Ql (aP (pv 0) (aP (gv (v:= .ty "tuple") (by rfl) T.g QG rfl) aW))) (λ_=>rfl))) (ed (cH (fe (K:=K) rfl hu) (cJ (d5 K) (by rfl) T.c Qk (aP (pv 0) aW)) Zc (cy _)) (ed (dX (dU (K:=K) rfl (bV T.ab (oT T) aR bR (aP (cd (ixk K) (pv 0) Zc (λ_ _=>rfl)) aW)) (λ_=>rfl))) (fv (dX (dU (K:=K) rfl (cJ (gN (K:=K) rfl) (by rfl) T.b Ql (aP (cd (ixk K) (pv 0) Zc (λ_ _=>rfl)) (aP (gv (v:= .ty "tuple") (by rfl) T.g QG rfl) aW))) (λ_=>rfl)))))))) (bz (cg Y4)) cN)
     (bp (fw PassesOwn.leaving rfl (j4 (K:=K) rfl (cd (ixk K) (pv 0) Zc (λ_ _=>rfl))) (c9 (i:=2) rm.nd rfl (Or.inl rfl)) (bz (cO (PW.pt (ed (dX (dU (K:=K) rfl (cJ (gN (K:=K) rfl) (by rfl) T.b Ql (aP (pv 2) (aP (gv (v:= .ty "tuple") (by rfl) T.g QG rfl) aW))) (λ_=>rfl))) (ed (cH (fe (K:=K) rfl hu) (cJ (d5 K) (by rfl) T.c Qk (aP (pv 2) aW)) Zc (cy _)) (ed (dX (dU (K:=K) rfl (bV T.ab (oT T) aR bR (aP (cd (ixk K) (pv 2) Zc (λ_ _=>rfl)) aW)) (λ_=>rfl))) (fv (dX (dU (K:=K) rfl (bV T.ab (oT T) aR bR (aP (cd (ixk K) (pv 2) Zc (λ_ _=>rfl)) aW)) (λ_=>rfl)))))))) (bz (cg Y4)) cN)))
     (bz (cg (hs (eU (K:=K) rfl hu) (pv 0) (pv 1) (cy _)))))),?_⟩
  walk_at "a"
  nofun;unfold hU;nofun;refine⟨cP,rfl,⟨_,en⟩,?_⟩;refine WH (j1 en) (λi ao aH=>∃a1:Option V,aH=H/\ao=[some (.ref a),some u,a1]) ⟨none,rfl,rfl⟩ (λi ao aH ⟨_,e,_⟩=>e▸Ze.refl H) ?_ ?_
  .rintro i ao aH aM ⟨a1,rfl,rfl⟩;obtain⟨t,gV,bL⟩:=ZaR ef (i:=i) (by omega);rw[gV];nofun;exact⟨_,rfl,rfl⟩
  .rintro ao aH ⟨a1,rfl,rfl⟩;nofun;refine Rd.Zgb yx yy (lA f) (lA f) (xn f) ?_;rw[SeqAt.eqv_refl _ (lA f)];exact q _ (Ze.refl _)
theorem s8{bv cT:Type}{P:bv->cT->Prop}:∀{xs:List bv}{ys:List cT},Paired P xs ys->Paired P xs.dropLast ys.dropLast
 |_,_,.nil=> .nil
 |_,_,.cons _ .nil=> .nil
 |_,_,.cons x (.cons y r)=> .cons x (s8 (.cons y r))
theorem s9{K:Frag}{H:Hp}:∀{vs:List V}{fs:List Fm},eD H vs fs->DRels K H vs (fs.map Fm.d)
 |_,_,.nil=> .nil
 |_,_,.cons h r=> .cons (n7 h) (s9 r)
theorem s_:∀fs:List Fm,PyData.canLayAll0 (fs.map Fm.d)=true
 | []=>by simp[PyData.canLayAll0]
 |f::fs=>by rw[List.map_cons,PyData.canLayAll0,lA f,s_ fs];rfl
theorem s':∀fs:List Fm,PyData.depthAll (fs.map Fm.d)<=50
 | []=>by simp[PyData.depthAll]
 |f::fs=>by
  have aN:=s' fs;have aQ:f.d.depth<=50:=by
   have:=n8 f.ts;unfold Fm.d;simp only[PyData.depth,PyData.depthAll];omega
  rw[List.map_cons,PyData.depthAll];omega
inductive ta(T:Tp K mg)(vs:List V)(H:Hp)(Q:VK)(b6:XK):Prop
 |mk (p:Addr) (ns:List Int) (cW:vs=[.ref p]) (cv:SqL K H p (ns.map V.int)) (cw:∀aH,Ze H aH->Q (.bl true) aH):ta T vs H Q b6
theorem yz:OkN P w base 6 T.aF (ta T):=by
 refine T.aF.F.okX fI (λvs H Q E h=>?_) (λbS A outer s H vs Q E aR h=>?_)
 .obtain⟨p,ns,rfl,_⟩:=h
  rfl
 .have hu:=aR.hu;obtain⟨p,ns,rfl,aU,q⟩:=h;have sl:=QB;refine⟨_,(bp (cf (i:=1) fI.nd rfl (Or.inl rfl) (fQ aW))
     (bp (fw PassesOwn.leaving rfl (hV rfl T.j (aP (bo dj (bV T.C (fV T) aR bR (aP (bV T.M (gS T) aR bR (aP (pv 0) (aP Zc aW))) (aP Zc aW))) Zc) aW)) (c9 (i:=2) fI.nd rfl (Or.inl rfl)) (bp (cf (i:=3) fI.nd rfl (Or.inl rfl) (bV T.M (gS T) aR bR (aP (pv 0) (aP (bo (cE K) Zc (pv 2)) aW))))
     (bp (cf (i:=4) fI.nd rfl (Or.inl rfl) (bo dj (bV T.C (fV T) aR bR (aP (pv 3) (aP Zc aW))) Zc))
     (bp (hc (cO (cH (eU (K:=K) rfl hu) (bo dj (bo fA (bV T.C (fV T) aR bR (aP (pv 3) (aP Zc aW))) Zc) Zc) Zc (cy _)) (bz (cf (i:=4) fI.nd rfl (Or.inl rfl) Zc)) cN))
     (bz (eE (eb (K:=K) rfl Qr QD QE gF (pv 1) (aP (bV T.aD (yq T) aR bR (aP (pv 3) (aP (bo (cE K) Zc (pv 2)) (aP (pv 4) aW)))) aW))))))))
     (bp (p7 (j:=5) rfl (eT (x:="_law_form_here") (zs:=[]) (ix:=[]) (bU nY) ["_law_script","_law_forms","_law_k","_law_cell_here","_law_many","_law_texts","_law_form_here","_law_text","_law_found"] rfl rfl (by decide+kernel)) (ff (K:=K) rfl (pv 1)) (λbu C s H fp=>⟨(c9 (i:=0) (show(["_law_form_here"]:List Str).Nodup by decide+kernel) rfl (Or.inl rfl)),e2,(bV T.aC (ym T) aR Wd (aP (pv 0) aW))⟩) fI.nd rfl (Or.inl rfl))
     (bp (uv PassesOwn.leaving (cH iS (cJ (d5 K) (by rfl) T.c Qk (aP (eb (K:=K) rfl Qq QW QX (i8 (K:=K) rfl) Zw (aP (pv 5) aW)) aW)) Zc (cy _)) (bp (eE (qo (K:=K) rfl Qr PySem.F.slot_list_pop PySem.F.type_list_pop pW (pv 1)))
     (bz (eE (qo (K:=K) rfl Qr PySem.F.slot_list_pop PySem.F.type_list_pop pW (pv 5))))))
     (bp (fw PassesOwn.leaving rfl (wm (K:=K) rfl rfl T.aG (aP (pv 1) (aP (pv 5) aW))) (nr (K:=K) (n:=2) rfl rfl (iO (c9 (i:=6) fI.nd rfl (Or.inl rfl)) (iO (c9 (i:=7) fI.nd rfl (Or.inl rfl)) me))) (bz (cO (PW.pt (ed (cH (fe (K:=K) rfl hu) (bV T.ak (UV T) aR bR (aP (pv 6) aW)) (pv 7) (cy _)) (fv (dX (dU (K:=K) rfl (bV T.al (s7 T) aR bR (aP (bV T.aj (sX T) aR bR (aP (pv 7) aW)) (aP (pv 6) aW))) (λ_=>rfl)))))) (bz (cg Y4)) cN)))
     (bp (cf (i:=7) fI.nd rfl (Or.inl rfl) (eb (K:=K) rfl Qq QW QX (i8 (K:=K) rfl) Zw (aP (pv 5) aW)))
     (bp (hc (cO (cH (eU (K:=K) rfl hu) (pv 1) (fQ aW) (cy _)) (bz (cf (i:=7) fI.nd rfl (Or.inl rfl) Zw)) cN))
     (bp (cf (i:=8) fI.nd rfl (Or.inl rfl) (bV T.aB (yl T) aR bR (aP (pv 7) aW)))
     (bp (cO (PW.pt (ed (cH (fe (K:=K) rfl hu) (bV T.aE (yw T) aR bR (aP (dR (k' (K:=K) rfl) (by rfl) T.g QG (aP (pv 1) aW)) aW)) (pv 7) (cy _)) (ed (dX (dU (K:=K) rfl (cJ (gN (K:=K) rfl) (by rfl) T.b Ql (aP (pv 8) (aP (gv (v:= .ty "tuple") (by rfl) T.g QG rfl) aW))) (λ_=>rfl))) (fv (cH (fe (K:=K) rfl hu) (cJ (d5 K) (by rfl) T.c Qk (aP (pv 8) aW)) (cJ (d5 K) (by rfl) T.c Qk (aP (pv 1) aW)) (cy _)))))) (bz (cg Y4)) cN)
     (bp (fw PassesOwn.leaving rfl (hV rfl T.j (aP (cJ (d5 K) (by rfl) T.c Qk (aP (pv 1) aW)) aW)) (c9 (i:=2) fI.nd rfl (Or.inl rfl)) (bz (cO (dX (dU (K:=K) rfl (bV T.al (s7 T) aR bR (aP (cd (ixk K) (pv 8) (pv 2) (λ_ _=>rfl)) (aP (cd (ixk K) (pv 1) (pv 2) (λ_ _=>rfl)) aW))) (λ_=>rfl))) (bz (cg Y4)) cN)))
     (bz (cg Y4)))))))))))),?_⟩
  walk_at "a"
  nofun;refine⟨Qn _,λb aJ=>?_⟩;have s1:Ze H (upd H b (.lst [])):=cu aJ;have ek:(upd H b (.lst [])) b=some (.lst []):=Zh;generalize upd H b (.lst [])=aL at*;have fX:=s1.seq aU;nofun;rename_i fW hmx mx0 mx1;refine Wk (n:=(fW % 7).toNat) (λi ao aH=>∃(cA:List V)(fs:List Fm)(a1 bY cq:Option V),ao=[some (.ref p),some (.ref b),a1,bY,cq,none,none,none,none]/\Ze H aH/\aH b=some (.lst cA)/\eD aH cA fs/\fs.length=i/\∀f∈fs,OkF f) ⟨[],[],_,_,_,rfl,s1,ek,.nil,rfl,λf a6=>(by cases a6)⟩ ?_ ?_
  .rintro i ao bx aM ⟨cA,fs,a1,bY,cq,rfl,b4,ez,iF,ei,kl⟩;have jh:=b4.seq aU;nofun;rename_i lT hmy my0 my1;refine Rd.cut (λa5 aH=>∃n:Nat,bx=aH/\n<=30/\a5=[some (.ref p),some (.ref b),some (.int (0+(i:Int))),some (.int (e3 ns (3+(0+(i:Int))))),some (.int n),none,none,none,none]) ?k1 ?cI
   case cI=>
    nofun;refine Rd.ifD (λc=>?_) (λc=>?_)
    .nofun;exact⟨30,rfl,by decide,rfl⟩
    .nofun;exact⟨(lT % 5).toNat,rfl,by omega,by rw[show(((lT % 5).toNat:Nat):Int)=lT % 5 by omega]⟩
   case k1=>
    rintro a5 aH ⟨n,rfl,a',rfl⟩;nofun;refine⟨_,_,n,rfl,by omega,by omega,a',λa f bM aS b5 lU hok=>?_⟩;have hk:=b5 _ _ ez;have fT:cA.length=fs.length:=iF.length;have og:cA.length<sizeLine:=cV (by omega);nofun;have dm:Z3 [b] bM (upd bM b (.lst (cA++ [.ref a]))):=gM (by simp) hk (by intro _ z;cases z);refine⟨cA++ [.ref a],fs++ [f],_,_,_,rfl,(b4.trans b5).new aJ,Zh,rO ((iF.keep b5).tups dm.tups) (lU.tups dm.tups),by simp[ei],λg br=>?_⟩;rcases QJ.mp br with z|z
    .exact kl g z
    .rw[QC.mp z];exact hok
  .rintro ao bx ⟨cA,fs,a1,bY,cq,rfl,b4,ez,iF,ei,kl⟩;have fT:cA.length=fs.length:=iF.length;nofun;refine Z7 (fc (SqL.of ez)) (cV (by omega)) (λ_=>true) (λi=> .str (textF (fs.getD i ⟨0,[]⟩))) (λi aH cC aM bC k=>?_) (λi aH cC aM _ bC k=>?_) (λd bM hd b5 jm=>?_)
   .nofun;exact k aH (Ze.refl aH)
   .have c1:i<fs.length:=by omega
    have aZ:=kl (fs.getD i ⟨0,[]⟩) (by rw[Qd,Qa c1];exact Qm c1);nofun;exact⟨_,_,rfl,(kb iF c1).keep bC,aZ,λdv cY=>k dv cY⟩
   rw[Qx.mpr (by simp),fT,show((List.range fs.length).map λi=>V.str (textF (fs.getD i ⟨0,[]⟩)))=(fs.map textF).map V.str by rw[Qs,<-YY (V.str∘textF) fs ⟨0,[]⟩];rfl] at jm;have yA:=none_of b4 hd;have tb:b≠d:=dy ez hd;have yB:(", " :Str).length=2:=by decide+kernel
   have yC:∀gG:List Fm,gG.length<=6->(∀f∈gG,OkF f)->((gG.map textF).map (·.length)).sum+(gG.map textF).length*(", " :Str).length<=16777216/\(Txt.join ", " (gG.map textF)).length<=sizeLine:=λgG dg fS=>by
    have hw:∀w∈gG.map textF,w.length<=2000:=λw hw=>by obtain⟨f,a6,rfl⟩:=Qy.mp hw;exact WW (fS f a6)
    refine⟨lz (m:=2000) (k:=6) hw (by rw[Qc];exact dg) (by decide+kernel),?_⟩;have:=Zaf (s:=", ") hw;rw[yB,Qc] at this;omega
   nofun;refine Zib (λm ao aH=>∃(cA:List V)(fs:List Fm),m=fs.length/\ao=[some (.ref p),some (.ref b),a1,bY,cq,some (.ref d),none,none,none]/\Ze H aH/\aH b=some (.lst cA)/\aH d=some (.lst ((fs.map textF).map V.str))/\eD aH cA fs/\fs.length<=6/\∀f∈fs,OkF f) _ ⟨cA,fs,rfl,rfl,b4.trans b5,b5 _ _ ez,jm,iF.keep b5,by omega,kl⟩ ?_;clear jm iF kl fT ez ei;rintro m ao dv ⟨cA,fs,rfl,rfl,cY,gU,lV,lW,dg,km⟩;obtain⟨tc,BC⟩:=yC fs dg km;have fT:cA.length=fs.length:=lW.length;nofun;refine⟨", ",d,fs.map textF,rfl,rfl,.of lV,tc,?_⟩;nofun;refine WJ (λc=>Zjv ?_) (λc=>?_)
   .have ck:3000<((Txt.join ", " (fs.map textF)).length:Int):=by simpa using c
    have ne:fs≠[]:=λz=>by
     rw[z] at ck;have:(Txt.join ", " (List.map textF [])).length=0:=by decide+kernel
     omega
    have BD:0<fs.length:=List.length_pos_iff.mpr ne;nofun;refine⟨b,cA,_,rfl,rfl,gU,Qa (by omega),?_⟩;have jV:Z3 [b] dv (upd dv b (.lst cA.dropLast)):=gM (by simp) gU (by intro _ z;cases z);have lX:(upd dv b (.lst cA.dropLast)) d=some (.lst ((fs.map textF).map V.str)):=by rw[bX tb.symm];exact lV
    have lY:(upd dv b (.lst cA.dropLast)) b=some (.lst cA.dropLast):=Zh;have cR:Ze H (upd dv b (.lst cA.dropLast)):=cY.new aJ;have lZ:=eD.tups jV.tups (s8 lW);generalize upd dv b (.lst cA.dropLast)=cs at*;nofun;refine⟨d,_,_,rfl,rfl,lX,Qa (by simp;omega),?_⟩;have iD:Z3 [d] cs (upd cs d (.lst ((fs.map textF).map V.str).dropLast)):=gM (by simp) lX (by intro _ z;cases z);nofun;refine⟨fs.dropLast.length,by rw[JB];omega,cA.dropLast,fs.dropLast,rfl,rfl,cR.new yA,by rw[bX tb];exact lY,by rw[Zh,<-List.map_dropLast,<-List.map_dropLast],lZ.tups iD.tups,by rw[JB];omega,λf a6=>km f ((List.dropLast_sublist fs).subset a6)⟩
   .clear c;have td:SqL K dv b cA:= .of gU;have g_:SqL K dv d ((fs.map textF).map V.str):= .of lV;have yD:∀i,i<fs.length->((fs.map textF).map V.str).getD i .non= .str (textF (fs.getD i ⟨0,[]⟩)):=λi aM=>by simp[List.getD,aM]
    have te:∀i,i<fs.length->OkF (fs.getD i ⟨0,[]⟩):=λi aM=>km _ (by rw[Qd,Qa aM];exact Qm aM);nofun;refine⟨b,d,rfl,⟨_,td⟩,⟨_,g_⟩,?_⟩;refine ZfB (wq td g_ (by simp;omega)) (λi ao aH=>∃dL oU:Option V,ao=[some (.ref p),some (.ref b),a1,bY,cq,some (.ref d),dL,oU,none]/\Ze dv aH) ⟨_,_,rfl,Ze.refl _⟩ (λi ao aH ⟨_,_,_,s⟩=>s) ?_ ?_
    .rintro i ao cs v fC aM ⟨dL,oU,rfl,cR⟩ ⟨t,bL,rfl,rfl⟩;have c1:i<fs.length:=by omega
     have dJ:Ze cs (upd cs t (.tup [cA.getD i .non,((fs.map textF).map V.str).getD i .non])):=cu bL;refine Rd.Zgq (.of Zh) rfl ?_;have oV:=((kb lW c1).keep cR).keep dJ;rw[yD i c1] at dJ oV|-;have bf:=te i c1;generalize upd cs t (.tup [cA.getD i .non,.str (textF (fs.getD i ⟨0,[]⟩))])=fC at*;generalize fs.getD i ⟨0,[]⟩=f at*;generalize cA.getD i .non=v at*;nofun;refine⟨v,f,rfl,oV,bf,λe' e_=>?_⟩;nofun;refine⟨f,rfl,bf,λa Ha aS sa oS=>?_⟩;have yE:=(oV.keep e_).keep sa;nofun;refine⟨_,_,f,rfl,oS,yE,bf.len,λkn er=>?_⟩;nofun;exact⟨_,_,rfl,(((cR.trans dJ).trans e_).trans sa).trans er⟩
    .rintro ao cs ⟨dL,oU,rfl,cR⟩;have lY:=cR _ _ gU;have lX:=cR _ _ lV;have lZ:=lW.keep cR;nofun;refine⟨", ",d,fs.map textF,rfl,rfl,.of lX,tc,?_⟩;nofun;refine Rd.cut (λa5 aH=>Ze cs aH/\a5=[some (.ref p),some (.ref b),a1,bY,cq,some (.ref d),dL,some (.str (formsT fs)),none]) ?k1 ?cI
     case cI=>
      nofun;refine⟨Qn _,λe bn=>?_⟩;have dJ:Ze cs (upd cs e (.lst [])):=cu bn;have yF:=dJ _ _ lY;have yG:=lZ.keep dJ;refine Rd.Zgb (.lst (.of yF) (s9 yG)) (.lst (.of Zh) .nil) (by rw[PyData.canLay0];exact s_ fs) (by decide+kernel) (by have:=s' fs;simp only[PyData.depth];omega) ?_;generalize upd cs e (.lst [])=fC at*;unfold formsT;cases fs with
      |nil=>
       rw[show PyData.eqv (.list (List.map Fm.d [])) (.list [])=true by decide+kernel];nofun;exact⟨dJ,rfl⟩
      |cons f dm=>
       rw[show PyData.eqv (.list (List.map Fm.d (f::dm))) (.list [])=false by simp[PyData.eqv,PyData.eqvAll]];nofun;exact⟨dJ,by rw[if_neg (by simp)]⟩
     case k1=>
      rintro a5 fC ⟨dJ,rfl⟩;nofun;refine⟨fs,rfl,km,dg,λa fv' e' e_ yH tf=>?_⟩;have tg:=e_ _ _ (dJ _ _ lY);have yI:=(lZ.keep dJ).keep e_;have yJ:=((cY.trans cR).trans dJ).trans e_;nofun;refine⟨b,cA,rfl,.inl ⟨.of tg,λko yK=>?_⟩⟩;have sa:Ze e' (upd e' ko (.tup cA)):=cu yK;have yL:(upd e' ko (.tup cA)) ko=some (.tup cA):=Zh;have th:=yI.keep sa;generalize upd e' ko (.tup cA)=Ha at*;nofun;refine⟨ko,cA,fs,rfl,yL,th,km,dg,λkn er=>?_⟩;have mM:=er _ _ (sa _ _ tg);have yM:=er _ _ (sa _ _ yH);have yN:=(tf.keep sa).keep er;have yO:=th.keep er;have BE:fv'.length=fs.length:=tf.length;have yP:=(yJ.trans sa).trans er;have tj:∀{xs:List V}{i:Nat},i<xs.length->atI xs (0+(i:Int))=some (xs.getD i .non):=λ{xs i} aM=>by
       rw[Int.zero_add];exact Vh (by simp[List.getD,aM])
      nofun;refine Wk (n:=cA.length) (λi ao aH=>∃ak:Option V,ao=[some (.ref p),some (.ref b),ak,bY,cq,some (.ref d),dL,some (.str (formsT fs)),some (.ref a)]/\Ze kn aH) ⟨_,rfl,Ze.refl _⟩ ?_ ?_
      .rintro i ao Hc aM ⟨ak,rfl,a7⟩;have c1:i<fs.length:=by omega
       have g1:=tj (xs:=fv') (i:=i) (by omega);have g2:=tj (xs:=cA) (i:=i) aM;have x1:=(kb yN c1).keep a7;have eR:=(kb yO c1).keep a7;have yQ:=SqT.of (K:=K) (a7 _ _ yM);have BF:=SqL.of (K:=K) (a7 _ _ mM);nofun;refine Rd.Ziu yQ g1 ?_;nofun;refine⟨_,_,_,rfl,x1,eR,(te i c1).len,λyR oW=>?_⟩;nofun;exact⟨_,rfl,a7.trans oW⟩
      .rintro ao Hc ⟨ak,rfl,a7⟩;nofun;exact q Hc (yP.trans a7)
theorem ZiQ:OkN P w base 8 T.am (w6 T):=by
 have ou:Yp P w K mg base (CXX P w) 7 T.k T.l ["self","giver","taker","give","take","start"] (kh T):=(sm T).mono (by decide);have gm:=T.a;have gn:=T.e;refine T.am.F.okX fi (λvs H Q E h=>?_) (λbS A outer s H vs Q E aR h=>?_)
 .obtain⟨a,ns,rfl,_⟩:=h
  rfl
 .have hu:=aR.hu;obtain⟨p,a7,rfl,e7,cU,k⟩:=h;have r2:("work " :Str).length=5:=by decide+kernel
  have sl:=QB;refine⟨_,(bp (cf (i:=1) fi.nd rfl (Or.inr rfl) (bV T.x3 (xt T) aR bR (aP (pv 0) aW)))
     (bp (hc (cO (cH (eU (K:=K) rfl hu) (bo dj (bV T.M (gS T) aR bR (aP (pv 0) (aP Zc aW))) Zc) Zc (cy _)) (bz (cf (i:=1) fi.nd rfl (Or.inr rfl) (fQ aW))) cN))
     (bp (cf (i:=2) fi.nd rfl (Or.inl rfl) (fQ aW))
     (bp (hc (cO (cH iS (cJ (d5 K) (by rfl) T.c Qk (aP (pv 1) aW)) Zc (cy _)) (bz (cf (i:=2) fi.nd rfl (Or.inl rfl) (bV T.az (yj T) aR bR (aP (pv 0) (aP (cJ (d5 K) (by rfl) T.c Qk (aP (pv 1) aW)) aW))))) cN))
     (bp (cf (i:=3) fi.nd rfl (Or.inl rfl) (qp T.ag (sv T) aR T.I bR))
     (bp (fw PassesOwn.leaving rfl (ff (K:=K) rfl (pv 1)) (c9 (i:=4) fi.nd rfl (Or.inl rfl)) (bz (eE (ik (pv 3) T.a T.af (ss T) aR bR (aP (pv 4) aW)))))
     (bp (fw PassesOwn.leaving rfl (ff (K:=K) rfl (pv 2)) (c9 (i:=5) fi.nd rfl (Or.inl rfl)) (bz (eE (mz (pv 3) T.a T.t ou aR T.u .nil bR (aP (cd (ixk K) (pv 5) Zc (λ_ _=>rfl)) (aP (cd (ixk K) (pv 5) Zc (λ_ _=>rfl)) (aP (cd (ixk K) (pv 5) Zc (λ_ _=>rfl)) (aP (cd (ixk K) (pv 5) Zc (λ_ _=>rfl)) (aP (cd (ixk K) (pv 5) Zc (λ_ _=>rfl)) aW)))))))))
     (bp (cf (i:=6) fi.nd rfl (Or.inl rfl) (bo (cE K) (gJ rfl (eT (x:="_law_name_here") (zs:=[]) (ix:=[]) (bU j8) ["_law_script","_law_names_here","_law_lines_here","_law_hall","_law_name_here","_law_line","_law_rows","_law_told","_law_again","_law_mixed","_law_texts"] rfl rfl (by decide+kernel)) (ff (K:=K) rfl (pv 1)) (λbu C s H fp=>⟨(c9 (i:=0) (show(["_law_name_here"]:List Str).Nodup by decide+kernel) rfl (Or.inl rfl)),e2,(bo (cE K) Zw (pv 0))⟩)) (gJ rfl (eT (x:="_law_line") (zs:=["_law_names_here"]) (ix:=[1]) (bU j8) ["_law_script","_law_names_here","_law_lines_here","_law_hall","_law_name_here","_law_line","_law_rows","_law_told","_law_again","_law_mixed","_law_texts"] rfl rfl (by decide+kernel)) (ff (K:=K) rfl (pv 2)) (λbu C s H fp=>⟨(c9 (i:=0) (show(["_law_line","_law_names_here"]:List Str).Nodup by decide+kernel) rfl (Or.inl rfl)),e2,(bV T.aa (oK T) aR Wd (aP (pv 1) (aP (pv 0) aW)))⟩))))
     (bp (cf (i:=7) fi.nd rfl (Or.inl rfl) (bV T.x7 (oj T) aR bR (aP (pv 3) aW)))
     (bp (cO (PW.pt (ed (dX (dU (K:=K) rfl (cJ (gN (K:=K) rfl) (by rfl) T.b Ql (aP (pv 7) (aP (gv (v:= .ty "list") (by rfl) T.p QT rfl) aW))) (λ_=>rfl))) (fv (cH (fe (K:=K) rfl hu) (pv 7) (pv 6) (cy _))))) (bz (cg Y4)) cN)
     (bp (eE (eb (K:=K) rfl Qr QD QE gF (pv 7) (aP Zw aW)))
     (bp (cf (i:=8) fi.nd rfl (Or.inl rfl) (bV T.ah (sA T) aR bR (aP (dR (k_ (K:=K) rfl) (by rfl) T.p QT (aP (pv 6) aW)) aW)))
     (bp (cO (PW.pt (ed (dX (dU (K:=K) rfl (cJ wI (by rfl) T.b Ql (aP (pv 8) (aP (jx (v:= .ref T.f) rfl T.I rfl) aW))) (λ_=>rfl))) (ed (cH (fe (K:=K) rfl hu) (i9 (pv 8) T.a T.x5 (oh T) aR bR) (pv 1) (cy _)) (ed (cH (fe (K:=K) rfl hu) (i9 (pv 8) T.a T.x6 (oi T) aR bR) (pv 2) (cy _)) (fv (cH (fe (K:=K) rfl hu) (bV T.x7 (oj T) aR bR (aP (pv 3) aW)) (pv 6) (cy _))))))) (bz (cg Y4)) cN)
     (bp (cf (i:=9) fi.nd rfl (Or.inl rfl) (bV T.ay (xZ T) aR bR (aP (pv 1) (aP (pv 2) (aP (bV T.M (gS T) aR bR (aP (pv 0) (aP Zc aW))) aW)))))
     (bp (cf (i:=8) fi.nd rfl (Or.inl rfl) (bV T.ah (sA T) aR bR (aP (pv 9) aW)))
     (bp (cO (PW.pt (ed (cH (fe (K:=K) rfl hu) (i9 (pv 8) T.a T.x5 (oh T) aR bR) (pv 1) (cy _)) (fv (cH (fe (K:=K) rfl hu) (cJ (qK (K:=K) rfl) (by rfl) T.D PyProof.Rows.boot_sorted (aP (i9 (pv 8) T.a T.x6 (oi T) aR bR) aW)) (cJ (qK (K:=K) rfl) (by rfl) T.D PyProof.Rows.boot_sorted (aP (pv 2) aW)) (cy _))))) (bz (cg Y4)) cN)
     (bp (p7 (j:=10) rfl (eT (x:="_law_row") (zs:=[]) (ix:=[]) (bU j8) ["_law_script","_law_names_here","_law_lines_here","_law_hall","_law_name_here","_law_line","_law_rows","_law_told","_law_again","_law_mixed","_law_texts"] rfl rfl (by decide+kernel)) (ff (K:=K) rfl (pv 9)) (λbu C s H fp=>⟨(c9 (i:=0) (show(["_law_row"]:List Str).Nodup by decide+kernel) rfl (Or.inl rfl)),(vB (cH (eU (K:=K) rfl hu) (iW (i7 (K:=K) rfl) (pv 0) iU (iV Zc)) Zw (cy _))),(pv 0)⟩) fi.nd rfl (Or.inl rfl))
     (bz (cg (gA (hs (eU (K:=K) rfl hu) (iW (i7 (K:=K) rfl) (bV T.x7 (oj T) aR bR (aP (pv 8) aW)) (iV (cJ (d5 K) (by rfl) T.c Qk (aP (pv 1) aW))) iU) (pv 10) (cy _)) (gZ (bV T.aF (yz T) aR bR (aP (pv 0) aW))))))))))))))))))))))),?_⟩
  walk_at "a"
  nofun;refine⟨p,a7,rfl,e7,λyS yT aL hna0 s1 tk tm tn _ tp=>?_⟩;have BG:=s1.seq e7;nofun;refine Rd.cut (λa5 aH=>∃(iG:Addr)(ns:List Str),a5=[some (.ref p),some (.ref iG),none,none,none,none,none,none,none,none,none]/\Ze H aH/\aH iG=some (.lst (ns.map V.str))/\ns.Nodup/\YV ns/\ns.length<=30) ?k1 ?cI
  case cI=>
   nofun;refine Rd.ifD (λc=>?_) (λc=>?_)
   .nofun;refine⟨Qn _,λe bn=>?_⟩;nofun;exact⟨e,[],rfl,s1.trans (cu bn),Zh,List.nodup_nil,λx aV=>(by cases aV),by simp⟩
   .nofun;exact⟨yS,yT,rfl,s1,tk,tm,tn,tp⟩
  case k1=>
   clear tk tm tn tp hna0;rintro a5 aY ⟨iG,ns,rfl,bw,yU,nd,aS,fk⟩;have yV:=bw.seq e7;nofun;refine⟨Qn _,λkq yW=>?_⟩;have bA:Ze aY (upd aY kq (.lst [])):=cu yW;have fM:(upd aY kq (.lst [])) kq=some (.lst []):=Zh;generalize upd aY kq (.lst [])=bT at*;have yX:=bA _ _ yU;have gI:=bA.seq yV;nofun;refine Rd.cut (λa5 aH=>∃(hL:Addr)(bs:List V)(ls:List B5),a5=[some (.ref p),some (.ref iG),some (.ref hL),none,none,none,none,none,none,none,none]/\Ze bT aH/\aH hL=some (.lst bs)/\cK aH bs ls/\(∀b∈ls,OkB ns.length b)/\ls.length<=40) ?k2 ?dI
   case dI=>
    nofun;rw[Qc];refine Rd.ifD (λc=>?_) (λc=>?_)
    .have ck:1<=ns.length:=by simp at c;omega
     nofun;rw[Qc];refine⟨p,a7,ns.length,rfl,gI,ck,fk,λhL bs ls bx l0 b4 yY eL hn lL=>?_⟩;nofun;exact⟨hL,bs,ls,rfl,b4,yY,eL,hn,lL⟩
    .nofun;exact⟨kq,[],[],rfl,Ze.refl _,fM,.nil,λb aJ=>(by cases aJ),by simp⟩
   case k2=>
    rintro a5 bx ⟨hL,bs,ls,rfl,b4,l0,ef,d0,lL⟩;have oX:=b4 _ _ yX;have yZ:=b4.seq gI;have iy:=ef.length;nofun;intro aU oy bM hh5 lU b5;have y0:=b5 _ _ oX;nofun;refine WH (fc (SqL.of oX)) (λi ao aH=>∃(c4:List Addr)(a1:Option V),ao=[some (.ref p),some (.ref iG),some (.ref hL),some (.ref aU),a1,none,none,none,none,none,none]/\cZ T aH aU ⟨ns.take i,[]⟩ c4/\Ze bx aH/\∀x∈c4,bx x=none) ⟨oy,_,rfl,by rw[List.take_zero];exact hh5,b5,lU⟩ (λi ao aH ⟨_,_,_,_,s,_⟩=>s) ?_ ?_
    .rintro i ao dv aM ⟨tq,a1,rfl,kr,cY,l3⟩;have c1:i<ns.length:=by simpa using aM
     have e:(ns.map V.str).getD i .non= .str ns[i]:=by simp[List.getD,c1]
     rw[e];have gV:ns.take (i+1)=ns.take i++ [ns[i]]:=Jb c1;have nx:ns[i]∉ns.take i:=λz=>by
      have aN:(ns.take i++ [ns[i]]).Nodup:=by rw[<-gV];exact nd.sublist (List.take_sublist _ _)
      exact(Jm.mp aN).2.2 _ z _ (.head _) rfl
     nofun;refine Ux kr (aS _ (Qm c1)) nx (by dsimp only;rw[Q5];omega) (λcs kt jo dm gr=>?_);obtain⟨cR,gB⟩:=W8 cY l3 dm gr;refine⟨kt,_,rfl,?_,cR,gB⟩;rw[gV];exact jo
    rintro ao dv ⟨tq,a1,rfl,kr,cY,l3⟩;rw[Qc,Q7] at kr;have y1:=cY _ _ l0;nofun;refine WH (fc (SqL.of l0)) (λi ao aH=>∃(c4:List Addr)(bY:Option V),ao=[some (.ref p),some (.ref iG),some (.ref hL),some (.ref aU),a1,bY,none,none,none,none,none]/\cZ T aH aU ⟨ns,ls.take i⟩ c4/\Ze bx aH/\∀x∈c4,bx x=none) ⟨tq,_,rfl,by rw[List.take_zero];exact kr,cY,l3⟩ (λi ao aH ⟨_,_,_,_,s,_⟩=>s) ?_ ?_
    .rintro i ao cs aM ⟨kt,bY,rfl,jo,cR,gB⟩;have c1:i<ls.length:=by omega
     obtain⟨t,hl,gT⟩:=ef.at (Qa c1);have c2:bs.getD i .non= .ref t:=by simp[List.getD,hl]
     rw[c2];have aZ:=d0 _ (Qm c1);have gV:=Jb c1;have y2:=cR _ _ gT;generalize ls[i]=l at*;dsimp only[B5.v] at y2;nofun;refine UM jo aZ.g0 aZ.g1 aZ.t0 aZ.t1 aZ.a0 aZ.b0 aZ.s0 (by dsimp only;rw[Q5];omega) (λfC y3 hh8 iD y4=>?_);obtain⟨dJ,y5⟩:=W8 cR gB iD y4;refine⟨y3,_,rfl,?_,dJ,y5⟩;rw[gV];exact hh8
    rintro ao cs ⟨kt,bY,rfl,jo,cR,gB⟩;rw[iy,Q7] at jo;have oY:=cR _ _ oX;have tt:=cR _ _ l0;have iA:cK cs bs ls:=ef.keep λb xs e=>cR _ _ e;have y6:=cR.seq yZ;clear kr y1 cY l3 hh5 lU b5 y0;nofun;refine Z7 (fc (SqL.of oY)) (cV (by rw[Qc];omega)) (λ_=>true) (λi=> .str (bB ns (.wk (ns.getD i "")))) (λi aH cC aM bC k=>?_) (λi aH cC aM _ bC k=>?_) (λc fC aO dJ lQ=>?_)
    .nofun;exact k aH (Ze.refl aH)
    .have cj:i<ns.length:=by simpa using aM
     have e:(ns.map V.str).getD i .non= .str (ns.getD i ""):=by simp[List.getD,cj]
     have r3:=Yw (aS _ (show ns.getD i "" ∈ns by rw[Qd,Qa cj];exact Qm cj));rw[e];generalize ns.getD i "" =x at*;have f1:("work " :Str).length+x.length<=sizeLine:=by omega
     nofun;rw[VC ns];exact k aH (Ze.refl aH)
    have tu:=dJ _ _ tt;have tv:=dJ _ _ oY;have lR:cK fC bs ls:=iA.keep λb xs e=>dJ _ _ e;nofun;refine Z7 (fc (SqL.of tu)) (cV (by omega)) (λ_=>true) (λi=> .str (bB ns (.bl (ls.getD i ⟨0,0,0,0,0⟩)))) (λi aH cC aM bC k=>?_) (λi aH cC aM _ bC k=>?_) (λd e' hd e_ l4=>?_)
    .nofun;exact k aH (Ze.refl aH)
    .have cj:i<ls.length:=by omega
     obtain⟨t,hl,gT⟩:=lR.at (Qa cj);have c2:bs.getD i .non= .ref t:=by simp[List.getD,hl]
     have hm:ls.getD i ⟨0,0,0,0,0⟩=ls[i]:=by simp[List.getD,cj]
     rw[c2];rw[hm] at k;have oQ:=bC _ _ gT;have y7:=SqL.of (K:=K) (bC _ _ tv);nofun;exact WK y7 oQ aS (d0 _ (Qm cj)) (k aH (Ze.refl aH))
    have l5:=e_ _ _ lQ;rw[Qx.mpr (by simp)] at l5 l4;have fz:(List.range ((ns.map V.str).length)).map (λi=>V.str (bB ns (.wk (ns.getD i ""))))=((ns.map Rw.wk).map (bB ns)).map V.str:=by
     rw[Qc,Qs,Qs,<-YY ((V.str∘bB ns)∘Rw.wk) ns ""];rfl
    have tw:(List.range bs.length).map (λi=>V.str (bB ns (.bl (ls.getD i ⟨0,0,0,0,0⟩))))=((ls.map Rw.bl).map (bB ns)).map V.str:=by
     rw[iy,Qs,Qs,<-YY ((V.str∘bB ns)∘Rw.bl) ls ⟨0,0,0,0,0⟩];rfl
    rw[fz] at l5;rw[tw] at l4;refine Rd.ZeF l5 l4 (by simp only[Qc];omega) λi_ tx=>?_;rw[<-QK,<-QK];have i5:Ze e' (upd e' i_ (.lst (((ns.map Rw.wk++ls.map Rw.bl).map (bB ns)).map V.str))):=cu tx;have tz:(upd e' i_ (.lst (((ns.map Rw.wk++ls.map Rw.bl).map (bB ns)).map V.str))) i_=some (.lst (((ns.map Rw.wk++ls.map Rw.bl).map (bB ns)).map V.str)):=Zh;generalize upd e' i_ (.lst (((ns.map Rw.wk++ls.map Rw.bl).map (bB ns)).map V.str))=Ha at*;have ku:=(dJ.trans e_).trans i5;have tA:=ku _ _ oY;have tD:=ku _ _ tt;have tE:cK Ha bs ls:=iA.keep λb xs e=>ku _ _ e;have oZ:=jo.same ku;have tF:=ku.seq y6;obtain⟨y8,_,y9⟩:=(rT (ns:=ns) (ls:=ls)).fin aS nd fk (by omega) d0;have tG:∀x∈(ns.map Rw.wk++ls.map Rw.bl).map (bB ns),PyData.strOk x=true:=λx aV=>by
     obtain⟨r,aR,rfl⟩:=Qy.mp aV;refine Zdt aS ?_;rcases QJ.mp aR with z|z
     .obtain⟨y,bt,rfl⟩:=Qy.mp z;exact aS y bt
     .obtain⟨y,bt,rfl⟩:=Qy.mp z;exact d0 y bt
    clear l5 l4 lQ fz tw aO hd tv tu lR dJ e_ i5 tx;nofun;refine⟨aU,⟨ns,ls⟩,kt,rfl,oZ,aS,fk,by dsimp only;omega,d0,λkW kn htd er tH=>?_⟩;have tI:=er _ _ tz;nofun;refine Zbh tG (.of tH) (.of tI) ?_;have y_:(((hF ⟨ns,ls⟩).map (bB ns)).map V.str).length<sizeLine:=cV (by unfold hF;simp only[Qc,Qf];omega);nofun;have jp:Ze Ha (upd kn kW (.lst (((hF ⟨ns,ls⟩).map (bB ns)).map V.str++ [.str "later"]))):=er.new htd;generalize upd kn kW (.lst (((hF ⟨ns,ls⟩).map (bB ns)).map V.str++ [.str "later"]))=Hc at*;clear tH tI er y_;have o0:=jp _ _ tz;have tJ:=jp _ _ tA;have tK:=jp _ _ tD;have tL:cK Hc bs ls:=tE.keep λb xs e=>jp _ _ e;have tM:=oZ.same jp;have tN:=jp.seq tF;clear tA tD tE oZ tF;nofun;refine Rd.Zac (.of o0) λkv y'=>?_;have oW:Ze Hc (upd Hc kv (.lst (((ns.map Rw.wk++ls.map Rw.bl).map (bB ns)).map V.str))):=cu y';have za:(upd Hc kv (.lst (((ns.map Rw.wk++ls.map Rw.bl).map (bB ns)).map V.str))) kv=some (.lst (((ns.map Rw.wk++ls.map Rw.bl).map (bB ns)).map V.str)):=Zh;generalize upd Hc kv (.lst (((ns.map Rw.wk++ls.map Rw.bl).map (bB ns)).map V.str))=yR at*;nofun;refine⟨kv,ns,ns.map Rw.wk++ls.map Rw.bl,rfl,.of za,y8,y9,λag zb tO hag kx hfA zc=>?_⟩;rw[Wn,n_,show cl (ns.map Rw.wk)=[] from List.eq_nil_of_length_eq_zero (by have:=(rT (ns:=ns) (ls:=ls)).sz;rw[Qc] at this;omega),List.nil_append] at kx;have jq:=oW.trans zc;have zd:=jq _ _ o0;have tP:=jq _ _ tJ;have tQ:=jq _ _ tK;have tR:cK tO bs ls:=tL.keep λb xs e=>jq _ _ e;have ze:=tM.same jq;have zf:=jq.seq tN;clear o0 tJ tK tL tM tN;have zg:∃a3 fs,tO ag=some (.ins T.f a3 fs):=by
     obtain⟨a3,a,b,bs,_,aN,_⟩:=kx;exact⟨a3,_,aN⟩
    obtain⟨BH,BI,tS⟩:=zg;have tT:∀x∈ns,PyData.strOk x=true:=λx aV=>ZgJ (aS x aV);nofun;refine Rd.isI tS ?_;nofun;refine⟨ag,⟨ns,ls⟩,zb,rfl,kx,λfg Hf hn1 sf tU=>?_⟩;have tV:=sf _ _ tP;have zh:=kx.same sf;nofun;refine Zbh tT (.of tU) (.of tV) ?_;nofun;intro b1 Hg bs1 hb1 sg hb1g hT1g;have l6:=sf.trans sg;have tW:=l6 _ _ tQ;have tX:cK Hg bs ls:=tR.keep λb xs e=>l6 _ _ e;nofun;refine ZgZ (.of hb1g) hT1g (.of tW) tX ?_;have tY:=ze.same l6;nofun;refine⟨aU,⟨ns,ls⟩,kt,rfl,tY,aS,fk,by dsimp only;omega,d0,λBJ Hh htd2 sh tZ=>?_⟩;have ky:=l6.trans sh;have t2:=ky _ _ zd;nofun;refine Zbh tG (.of tZ) (.of t2) ?_;have t3:=ky _ _ tP;have t4:=ky _ _ tQ;have t5:cK Hh bs ls:=tR.keep λb xs e=>ky _ _ e;have zi:=ky.seq zf;clear tU tV zh hb1g hT1g tW tX tY tZ t2 kx tS hfA;nofun;refine⟨iG,hL,_,ns,bs,ls,rfl,.of t3,t4,t5,aS,nd,fk,lL,d0,λzj a2 Hi hmr si t6 l7 iw zk=>?_⟩;have zl:=si _ _ t3;have zm:=si _ _ t4;have zn:cK Hi bs ls:=t5.keep λb xs e=>si _ _ e;have zo:=si.seq zi;nofun;refine⟨zj,ns,a2,rfl,.of t6,l7,zk,λt7 t8 Hj hag2 o1 hfB kz=>?_⟩;have t9:=kz _ _ zl;have zp:=kz _ _ zm;have zq:cK Hj bs ls:=zn.keep λb xs e=>kz _ _ e;have zr:=kz.seq zo;have zt:=kz _ _ t6;nofun;refine⟨t7,_,t8,rfl,o1,λet Hk jH iB t_=>?_⟩;have ua:=iB _ _ t9;have zu:=o1.same iB;nofun;refine Zbh tT (.of t_) (.of ua) ?_;nofun;intro hD Hl bs2 hb2 kL hb2l hT2l;have o2:=hT2l.length;have jg:=l7.bl;nofun;refine Rd.Zhb (.of hb2l) (oa hT2l) (by decide) (by dsimp only at o2;omega) λfG d_ lp fX ub=>?_;have bC:Ze Hl (upd Hl fG (.lst (d_.map λi=>bs2.getD i .non))):=cu lp;have uc:(upd Hl fG (.lst (d_.map λi=>bs2.getD i .non))) fG=some (.lst (d_.map λi=>bs2.getD i .non)):=Zh;generalize upd Hl fG (.lst (d_.map λi=>bs2.getD i .non))=Hm at*;have o3:=(iB.trans kL).trans bC;have ud:=o3 _ _ zp;have o4:cK Hm bs ls:=zq.keep λb xs e=>o3 _ _ e;nofun;refine Rd.Zhb (.of ud) (oa o4) (by decide) (by omega) λgO dZ iT f' uf=>?_;have sn:Ze Hm (upd Hm gO (.lst (dZ.map λi=>bs.getD i .non))):=cu iT;have ug:(upd Hm gO (.lst (dZ.map λi=>bs.getD i .non))) gO=some (.lst (dZ.map λi=>bs.getD i .non)):=Zh;generalize upd Hm gO (.lst (dZ.map λi=>bs.getD i .non))=Hn at*;nofun;dsimp only at o2;rw[o2] at fX;rw[iy] at f';have uh:=Zht iw fX f' ub uf;have t1:cK Hn (d_.map λi=>bs2.getD i .non) (d_.map λi=>(cl a2).getD i ⟨0,0,0,0,0⟩):=ob (hT2l.keep λb xs e=>(bC.trans sn) _ _ e) λi aM=>by have:=fX.mem_iff.mp aM;simp at this;omega
    have fH:cK Hn (dZ.map λi=>bs.getD i .non) (dZ.map λi=>ls.getD i ⟨0,0,0,0,0⟩):=ob (o4.keep λb xs e=>sn _ _ e) λi aM=>by have:=f'.mem_iff.mp aM;simp at this;omega
    rw[uh] at t1;refine ZgZ (.of (sn _ _ uc)) t1 (.of ug) fH ?_;have l8:=o3.trans sn;have zv:=l8 _ _ zt;have zw:=l8 _ _ t9;have zx:=l8.seq zr;have zy:=o1.same l8;clear t1 fH uh ub uf fX f' uc ug o4 ud hb2l hT2l t_ ua zu;have zz:∀r∈a2,OkR ns r:=λr aR=>by
     cases r with
     |wk x=>exact l7.all x (by rw[<-l7.nm];unfold c3;exact QY.mpr ⟨_,aR,rfl⟩)
     |bl b=>exact d0 b (iw.mem_iff.mp (by unfold cl;exact QY.mpr ⟨_,aR,rfl⟩))
    nofun;refine Z7 (fc (SqL.of zv)) (cV (by simp only[Qc];omega)) (λi=>kd (a2.getD i (.wk ""))) (λi=> .str (bB ns (a2.getD i (.wk "")))) (λi aH cC aM bC k=>?_) (λi aH cC aM fE bC k=>?_) (λkX Ho htx so ui=>?_)
    .have cj:i<a2.length:=by simpa using aM
     have e:((a2.map (bB ns)).map V.str).getD i .non= .str (bB ns (a2.getD i (.wk ""))):=by simp[List.getD,cj]
     rw[e];have yp:=Zdv aS (zz (a2.getD i (.wk "")) (by rw[Qd,Qa cj];exact Qm cj));have BK:(bB ns (a2.getD i (.wk ""))).length<=sizeLine:=by omega
     generalize a2.getD i (.wk "")=r at*;nofun;rw[ZiK];exact k aH (Ze.refl aH)
    .have cj:i<a2.length:=by simpa using aM
     have e:((a2.map (bB ns)).map V.str).getD i .non= .str (bB ns (a2.getD i (.wk ""))):=by simp[List.getD,cj]
     rw[e];nofun;exact k aH (Ze.refl aH)
    have zA:((List.range ((a2.map (bB ns)).map V.str).length).filter λi=>kd (a2.getD i (.wk ""))).map (λi=>V.str (bB ns (a2.getD i (.wk ""))))=(((cl a2).map Rw.bl).map (bB ns)).map V.str:=by
     rw[show((a2.map (bB ns)).map V.str).length=a2.length by simp,JD,rS kd (λr=>V.str (bB ns r)) (.wk "") a2 0 a2 rfl,n',Qs,Qs,Qs]
     rfl
    rw[zA] at ui;have zB:=zy.same so;have zC:=so _ _ zw;have zD:=so.seq zx;nofun;refine⟨t7,_,t8,rfl,zB,aS,fk,jg,λb aJ=>d0 b (iw.mem_iff.mp aJ),λBL Hp htd3 sp zE=>?_⟩;have BM:=sp _ _ zC;have zF:=sp _ _ ui;have zG:=sp.seq zD;nofun;rw[Qc];refine Rd.slL (.of zE) λct zH=>?_;have zI:f7 (((hF ⟨ns,cl a2⟩).map (bB ns)).map V.str) (some (ns.length:Int)) none=(((cl a2).map Rw.bl).map (bB ns)).map V.str:=by
     unfold f7 hF;rw[HT.Zc9,HT.ZdV];simp only[QK,Qf,Qc];rw[Nat.min_eq_left (by omega),Jo (by simp),QR (by simp)]
    rw[zI];have tok:∀x∈((cl a2).map Rw.bl).map (bB ns),PyData.strOk x=true:=λx aV=>by
     obtain⟨r,aR,rfl⟩:=Qy.mp aV;obtain⟨b,aJ,rfl⟩:=Qy.mp aR;exact Zdt aS (show OkR ns (.bl b) from d0 b (iw.mem_iff.mp aJ))
    have sq:Ze Hp (upd Hp ct (.lst ((((cl a2).map Rw.bl).map (bB ns)).map V.str))):=cu zH;have zJ:(upd Hp ct (.lst ((((cl a2).map Rw.bl).map (bB ns)).map V.str))) ct=some (.lst ((((cl a2).map Rw.bl).map (bB ns)).map V.str)):=Zh;generalize upd Hp ct (.lst ((((cl a2).map Rw.bl).map (bB ns)).map V.str))=Hq at*;have zK:=sq.seq zG;have zL:=sq _ _ zF;nofun;refine Rd.Zgb (.lst (.of zJ) (j' _)) (.lst (.of zL) (j' _)) (jf _ tok) (jf _ tok) (rB _) ?_;rw[SeqAt.eqv_refl _ (jf _ tok)];nofun;exact⟨p,a7,rfl,zK,λaH _=>k aH⟩
theorem walk{l:PySem.W.OpenLaw}{q:Program}{iY:List Str}{iZ:(Str->Option Value)->Heap->Prop}{hv:World->Heap->Prop}{d:DefRec}{K:Params->Frag}(a':l.most=some 63)(jN:d.params.defaults=[])(zM:d.name="law")
  (mP:∀(w:World)(h:Heap),hv w h->(K w.params).In h)
  (F:∀(w:World)(mg:Str->Option Value)(h:Heap),(K w.params).In h->h.Ns mainGlobals mg->∃T:Tp (K w.params) mg,True):
  PySem.W.WalkO q iY iZ hv l.row.toRowW d [] (λf vs=>PySem.call f vs):=by
 refine L2.ZhK (n:=63) (k:=8) (x:="_law_script") (CX:=λw=>CXX l.prog w) (sp:=λw=>Zg1 (K w.params)) a' (by decide) jN ⟨rfl,by decide,by decide⟩ mP (λw mg dS h dC G i1=>?_) (λ_ _ a ns aK _ e7=>⟨a,ns,rfl,e7,aK,λ_=>rfl⟩) ?_
 .obtain⟨T,_⟩:=F w mg h dC G;rw[zM,T.am.m] at i1;cases i1;exact⟨T.am.d,T.an,λbase _ _=>ZiQ T⟩
 .intro w H s e aX z;obtain⟨_,_,_,_,_,_,_,_,_,_,_,_,_,_,z⟩:=z;rcases z with⟨_,z⟩|⟨_,_,_,z⟩<;>exact z
end Nm
namespace PySem.W.Fast
def tw3374845789156100299:=Nat
def tw13809414490703251506:=Nat
def tw10413988763346002510:=Nat
def tw17122821428799214799:=Nat
def tw17143872719277526903:=Nat
def tw12845562324474790619:=Nat
def tw10139367576209106125:=Nat
def tw7410173849992077782:=Nat
def tw5673601337993942850:=Nat
def tw11423454154763897099:=Nat
def tw9132023171777882233:=Nat
def tw11538831173749718117:=Nat
def tw6133682110088023885:=Nat
def tw9144441830442363096:=Nat
def tw8118384740654535195:=Nat
def tw1841754877124663723:=Nat
def tw7406031186195851921:=Nat
def tw10293265345808165511:=Nat
def tw10605559349394839528:=Nat
def tw3628021289792481330:=Nat
def tw12523528801366525762:=Nat
def tw12549738802138231034:=Nat
def tw17750206304009935619:=Nat
def tw17417959779928256014:=Nat
def tw17235377902591566705:=Nat
def tw12258159485779885513:=Nat
def tw11139202922521893233:=Nat
def tw668518706290124669:=Nat
def tw5566587341443921285:=Nat
def tw7620495646377026086:=Nat
def tw12159725202545832128:=Nat
def tw3788554243453851209:=Nat
def tw7885447836646558145:=Nat
def tw9014220452424066459:=Nat
def tw14182947849306110512:=Nat
def tw4974770909981120257:=Nat
def tw8454729125114465048:=Nat
def tw74387462912636379:=Nat
def tw11008250960253136106:=Nat
def tw4191030256798688086:=Nat
def tw14423167772288325993:=Nat
def tw12090617545602909328:=Nat
def tw4604725720580027196:=Nat
def tw10022183290549258215:=Nat
def tw14261702355940323922:=Nat
def tw5747885492626471168:=Nat
def tw1855808342258759014:=Nat
def tw7235741914519869403:=Nat
def tw5536147406145974747:=Nat
def tw12965850017860106706:=Nat
def tw31058450133849921:=Nat
def tw5977685473843398072:=Nat
def tw5834220327247559315:=Nat
def tw1649888448631551446:=Nat
def tw7154367032212041983:=Nat
def tw6475583824774577948:=Nat
def tw10365979307499574107:=Nat
def tw10689349878381365228:=Nat
def tw324266405574765845:=Nat
def tw8935876741596060924:=Nat
def tw8065520883633131827:=Nat
def tw12622232332850410247:=Nat
def tw7731069129591579975:=Nat
def tw18176045288432801765:=Nat
def tw6467641089027927078:=Nat
def tw3748513986518585712:=Nat
def tw7665193771795988812:=Nat
def tw15670833601916165200:=Nat
def tw2630216313380600922:=Nat
def tw6485579200435375988:=Nat
def tw6810226909950864466:=Nat
def tw1053236891084131690:=Nat
def tw15801968179670923198:=Nat
def tw2964767032575850397:=Nat
def tw12563757464595981911:=Nat
def tw16792758918718337378:=Nat
def tw3334510631097522374:=Nat
def tw2872166044716704751:=Nat
def tw12785799559762538078:=Nat
def tw7022283304023782007:=Nat
def tw6597239863378634503:=Nat
def tw13088792651455394724:=Nat
def tw13302371325445122286:=Nat
def tw9547374386061943188:=Nat
def tw12496463176467143112:=Nat
def tw15362708965948236396:=Nat
def tw15429942984378102471:=Nat
def tw1826604745646832642:=Nat
def tw2176230027853991510:=Nat
def tw16753350756261379005:=Nat
def tw11470154072856883030:=Nat
def tw427222414138784885:=Nat
def tw18391994052102341999:=Nat
def tw8224423114583549158:=Nat
def tw17449653951730934767:=Nat
def tw5010819739828083163:=Nat
def tw18299893773705071142:=Nat
def tw15573616579487752053:=Nat
def tw18094190363257139966:=Nat
def tw4885550417760463425:=Nat
def tw10283896201518319540:=Nat
def tw4044330852386130003:=Nat
def tw8600013292295085376:=Nat
def tw4097492864151563490:=Nat
def tw7895740661341842052:=Nat
def tw11742462783982267839:=Nat
def tw9179421274562738760:=Nat
def tw16669186668638135794:=Nat
def tw7479306276437737027:=Nat
def tw7676202691431954556:=Nat
def tw1226435684330771488:=Nat
def tw2921037415813352814:=Nat
def tw15440841995759758971:=Nat
def tw9281948369151971007:=Nat
def tw9258815942267026049:=Nat
def tw8176779560425015568:=Nat
def tw10859073575190800315:=Nat
def tw12791383062387525831:=Nat
def tw159805827366041368:=Nat
def tw5452858130281108031:=Nat
def tw16955688996486076020:=Nat
def tw1904811930389407295:=Nat
def tw11365013871562284926:=Nat
def tw17587297474771385507:=Nat
def tw469333499468950750:=Nat
def tw12987560605286964039:=Nat
def tw11557543365809470916:=Nat
def tw12096746411288653828:=Nat
def tw10732688720953096475:=Nat
def tw1354593236644673280:=Nat
def tw3135205878472474865:=Nat
def tw7847394633952002089:=Nat
def tw3475388687826744898:=Nat
def tw5758241999027211669:=Nat
def tw5801628167281232795:=Nat
def tw18385353606348280418:=Nat
def tw1377896983585304859:=Nat
def tw14287471978227407886:=Nat
def tw420884166488527547:=Nat
def tw7128721613229267735:=Nat
def tw16821755673235404465:=Nat
def tw13570926115360584567:=Nat
def tw4653284813709120807:=Nat
def tw7919087214579988482:=Nat
def tw5536175323171138791:=Nat
def tw2721857312154296350:=Nat
def tw14899114900228880491:=Nat
def tw1921843867334666588:=Nat
def tw11747050660601205356:=Nat
def tw13615556143937850136:=Nat
def tw16260679848085031886:=Nat
def tw2832188255940478366:=Nat
def tw16596935426912092772:=Nat
def tw6952026994103359544:=Nat
def tw13057223623949189906:=Nat
def tw18130760040614669409:=Nat
def tw4281725796887675003:=Nat
def tw9513139950017037866:=Nat
def tw9632344043000744159:=Nat
def tw2579734607453999:=Nat
def tw16914671125748024657:=Nat
def tw12311791327128249994:=Nat
def tw7784091072330378121:=Nat
def tw12710330189169559667:=Nat
def tw4181765889297920302:=Nat
def tw10604160723528273332:=Nat
def tw12453826831645618506:=Nat
def tw2797654051986290585:=Nat
def tw17607919485572171655:=Nat
def tw13357191667834605600:=Nat
def tw5553943962741000326:=Nat
def tw14249904046495452557:=Nat
def tw13518966315392242988:=Nat
def tw12940448074357969190:=Nat
def tw7087386357423501696:=Nat
def tw1190029266705993036:=Nat
def tw3871471942333431206:=Nat
def tw5065346151701749333:=Nat
def tw3872258601886443622:=Nat
def tw15792513854259148463:=Nat
def tw1326590563451401569:=Nat
def tw4264054797183625574:=Nat
def tw17083828014778978433:=Nat
def tw10058110512238156533:=Nat
def tw315561725650349895:=Nat
def tw724732203157437710:=Nat
def tw11602169073284133550:=Nat
def tw2760826878166379720:=Nat
def tw606140328647303111:=Nat
def tw10441938718519401636:=Nat
def tw11429347518115989699:=Nat
def tw7568237732567372399:=Nat
def tw13567791848110129385:=Nat
def tw8028461203733721823:=Nat
def tw11567891970364842859:=Nat
def tw2824816102268455745:=Nat
def tw11309419899027447463:=Nat
def tw3755424467921900046:=Nat
def tw5031524305571382506:=Nat
def tw10673293914592049846:=Nat
def tw14765935378045198152:=Nat
def tw16172018734940280462:=Nat
def tw6308448976937408291:=Nat
def tw16548861358782524514:=Nat
def tw13415603055251849304:=Nat
def tw9399717731128619330:=Nat
def tw5234861373691825640:=Nat
def tw12217896442892334212:=Nat
def tw6114356910187295564:=Nat
def tw15388058848617920502:=Nat
def tw5877117508530108704:=Nat
def tw9342488260055983033:=Nat
def tw2686869512012988017:=Nat
def tw14453074948699382970:=Nat
def tw2289281714488159397:=Nat
def tw8230419828372420624:=Nat
def tw9170400777821996807:=Nat
def tw7581076542978654802:=Nat
def tw11866387319859252495:=Nat
def tw16515873297902972743:=Nat
def tw5632763493977620081:=Nat
def tw12257313498224056206:=Nat
def tw13885072565669436290:=Nat
def tw12464856773662607191:=Nat
def tw4661750195908830336:=Nat
def tw10353786096888565369:=Nat
def tw2061356669494151433:=Nat
def tw7055025046654573430:=Nat
def tw2636593684480861074:=Nat
def tw2689475560660415576:=Nat
def tw15355995248285570601:=Nat
def tw5416546855632429727:=Nat
def tw4051988103048279855:=Nat
def tw7704771206284100042:=Nat
def tw16019330850090747906:=Nat
def tw1946218535232597860:=Nat
def tw17696242022108173747:=Nat
def tw2198945099715145253:=Nat
def tw17653089579450560664:=Nat
def tw6227543825656574501:=Nat
def tw6961045482034937199:=Nat
def tw6005248950957754912:=Nat
def tw4477446875673963990:=Nat
def tw16952785907869377093:=Nat
def tw7061427114676260992:=Nat
def tw8918032748739798785:=Nat
def tw2757982062274163615:=Nat
def tw1224532846508976105:=Nat
def tw11573584296390177655:=Nat
def tw5998519837903214738:=Nat
def tw10106431689106359309:=Nat
def tw9152684040207267179:=Nat
def tw1642702134571910796:=Nat
def tw4523499809704403786:=Nat
def tw16163754553205934716:=Nat
def tw17041549148890862169:=Nat
def tw2190167007690786652:=Nat
def tw2151150913976433453:=Nat
def tw14949709984848446671:=Nat
def tw10047622452190169498:=Nat
def tw15560675796852011638:=Nat
def tw17299053858775444473:=Nat
def tw10578821859989561474:=Nat
def tw7113996330373637315:=Nat
def tw16655872590004611212:=Nat
def tw7853936009564877059:=Nat
def tw6808709955485769328:=Nat
def tw12642408174705843937:=Nat
def tw7942611462554299014:=Nat
def tw2342573552750917463:=Nat
def tw15270435615940730451:=Nat
def tw9170566898845098829:=Nat
def tw2188923721883295854:=Nat
def tw9427719073991943291:=Nat
def tw3273436879901445924:=Nat
def tw13774493006541716245:=Nat
def tw17947175004695190287:=Nat
def tw7753727562060083391:=Nat
def tw7922541946560208110:=Nat
def tw8787082376105585537:=Nat
def tw18028989132962475194:=Nat
def tw15309154458291608862:=Nat
def tw13865933266304937537:=Nat
def tw10554720445585602329:=Nat
def tw12009778167721744436:=Nat
def tw4104885238285692380:=Nat
def tw13451529731042571790:=Nat
def tw2198689709588517893:=Nat
def tw15862861715100632837:=Nat
def tw5650849290150109712:=Nat
def tw10863561510218627393:=Nat
def tw9620503777977152807:=Nat
def tw17372677278036898905:=Nat
def tw4266406429896568781:=Nat
def tw4801145630814621730:=Nat
def tw17465440661937553970:=Nat
def tw3751368632088885520:=Nat
def tw12355610462985334440:=Nat
def tw12610007106447612099:=Nat
def tw2510260715451044122:=Nat
def tw1111324943528313329:=Nat
def tw6844095421961340313:=Nat
def tw9916982528425733588:=Nat
def tw2859594575241867807:=Nat
def tw14375515308183248782:=Nat
def tw16616911661335509703:=Nat
def tw10828405299120878060:=Nat
def tw8065985284155377906:=Nat
def tw18250543904201671430:=Nat
def tw17313967080612331038:=Nat
def tw369421183285490658:=Nat
def tw16304074502441285982:=Nat
def tw10922460471223340007:=Nat
def tw945791761194706589:=Nat
def tw13921262229890978497:=Nat
def tw7778601534983653889:=Nat
def tw16269825734125006160:=Nat
def tw14266311212357846111:=Nat
def tw8771704880681723668:=Nat
def tw482046392933469035:=Nat
def tw14342120938445485031:=Nat
def tw517909484409560251:=Nat
def tw488646794686703022:=Nat
def tw10046368779041076071:=Nat
def tw13433683989217546346:=Nat
def tw17439859668563079266:=Nat
def tw15841416023682285666:=Nat
def tw5225239619390058162:=Nat
def tw14411847112167397490:=Nat
def tw16689509136367972671:=Nat
def tw2763442335783478800:=Nat
def tw13597020460348353407:=Nat
def tw1356743761826122266:=Nat
def tw7874649439591649217:=Nat
def tw1313006745939296159:=Nat
def tw9471523718179271567:=Nat
def tw342998678839384266:=Nat
def tw16372995145739686812:=Nat
def tw658691812423620258:=Nat
def tw17844929733309881310:=Nat
def tw8431879686668173110:=Nat
def tw7222149575901057381:=Nat
def tw5588729763043242948:=Nat
def tw1838935067748771087:=Nat
def tw4588072837955507609:=Nat
def tw4859253690214902130:=Nat
def tw1555690513939026319:=Nat
def tw941480859524457715:=Nat
def tw9104833499215162170:=Nat
def tw8164373218646297159:=Nat
def tw2804845386128487367:=Nat
def tw326604654038941542:=Nat
def tw15998071100814236644:=Nat
def tw17044620067411534594:=Nat
def tw850253215822124024:=Nat
def tw3914212886492180202:=Nat
def tw5039928638559207975:=Nat
def tw9349689638912910568:=Nat
def tw5935737876888078064:=Nat
def tw7198048293872421643:=Nat
def tw3076104141405358556:=Nat
def tw15388795261197556963:=Nat
def tw10752075784631398309:=Nat
def tw15802053936521397970:=Nat
def tw3195567402679738509:=Nat
def tw2511799399031060683:=Nat
def tw4400625412831046599:=Nat
def tw16759694323988824246:=Nat
def tw6493374506497949429:=Nat
def tw1600134204429105228:=Nat
def tw73052684777373457:=Nat
def tw3804174872367219708:=Nat
def tw6055710558159698920:=Nat
def tw11596350275036694841:=Nat
def tw15074328628710727068:=Nat
def tw5305204888077910991:=Nat
def tw3613446279714510208:=Nat
def tw7123102528303266769:=Nat
def tw15254869829788499571:=Nat
def tw4061357553220755750:=Nat
def tw5466077042765842809:=Nat
def tw4081354267319374618:=Nat
def tw1006877543090420076:=Nat
def tw13433391463570330002:=Nat
def tw10216242324388590437:=Nat
def tw14373969267527359512:=Nat
def tw13648165619093130134:=Nat
def tw4650073843050766823:=Nat
def tw8471290159181726652:=Nat
def tw17995317786671934208:=Nat
def tw810717896867578565:=Nat
def tw9787048892630486273:=Nat
def tw14531334364279419897:=Nat
def tw1051179688413568081:=Nat
def tw14610754191735643076:=Nat
def tw7779420373115755983:=Nat
def tw4247584729304653846:=Nat
def tw7590700625020207110:=Nat
def tw774098377814328982:=Nat
def tw6202929842445826741:=Nat
def tw8327041688511925504:=Nat
end PySem.W.Fast
open PySem PySem.W PyProof.Rows
local macro_rules| `(tactic|walk_at "dn")=>`(tactic|(refine' L2.Dn.of (by assumption) (by assumption) ?a ?l ?c ?k ?b;(case a=>k_is);(case l=>k_is);(case c=>k_is);(case k=>k_is);(case b=>(repeat refine L2.lenS λ_=>?_);exact L2.ZgR λ_ _ _ _ _ _=>rfl)))
local macro_rules| `(tactic|walk_at "dm")=>`(tactic|(refine' L2.Dm.of ?a ?i ?l ?c ?k ?b;(case a=>k_is);(case i=>k_is);(case l=>k_is);(case c=>k_is);(case k=>k_is);(case b=>(repeat refine L2.lenS λ_=>?_);exact L2.ZgR λ_ _ _ _ _ _=>rfl)))
local macro_rules| `(tactic|walk_at "di")=>`(tactic|(refine' L2.Di.of ?z ?y ?a ?i ?l ?c ?k ?b;(case z=>k_is);(case y=>k_is);(case a=>k_is);(case i=>k_is);(case l=>k_is);(case c=>k_is);(case k=>k_is);(case b=>(repeat refine L2.lenS λ_=>?_);exact L2.ZgR λ_ _ _ _ _ _=>rfl)))
local macro_rules| `(tactic|walk_at "na")=>`(tactic|((repeat refine L2.ZhE (by k_is) ?_);exact L2.Zih))
local macro_rules| `(tactic|walk_at "ex")=>`(tactic|(refine' ⟨?g,mg_of (by assumption) (by assumption) ?m,?e⟩;(case g=>k_is);(case m=>k_is);(case e=>k_exc)))
set_option maxRecDepth 100000 in
set_option maxHeartbeats 0 in
theorem PySem.Challenge.cw_ratehall_k31_halls_and_forms_written_holds : PySem.Challenge.rw_ratehall_k31_halls_and_forms_written.Holds := by
 w_on;o_law;k_head;(case hw=>w_witness2)
 k_fill
 refine Nm.walk (l:=PySem.Challenge.rw_ratehall_k31_halls_and_forms_written) rfl rfl rfl (λw h Y=>kIn_of Y) ?F
 case F=>
  intro w mg h dC G
  refine' ⟨Nm.Tp.mk (mg_of dC G ?zN) ⟨?zO,?zP,?zQ,?zR⟩ ?zS ?zT ?zU ?zV ?zW ?zX ?zY ?zZ ?z0 ?z1 ?z2 ?z3 ?z4 ?z5 ?z6 ?z7 ?z8 ?z9 ?z_ ?z' ?Aa ⟨?Ab,?Ac,?Ad⟩ (L2.ZhS ?Ae ?Af ?Ag) (L2.Zi0 ?Ah) ?Ai ?Aj (.cons ⟨_,rfl⟩ .nil) ?Ak ?Al ?Am ?An ?Ao ?Ap ?Aq ?Ar ?As ?Au ?Av ?Aw ?Ax ?Ay ?Az ?AA ?AB ?AC ?AD (mg_none_of dC G ?AE) (mg_none_of dC G ?AF) (mg_none_of dC G ?AG) (mg_none_of dC G ?AH) (mg_none_of dC G ?AI) (mg_none_of dC G ?AJ) (mg_none_of dC G ?AK) (mg_none_of dC G ?AL) (mg_none_of dC G ?AM) (mg_none_of dC G ?AN) (mg_none_of dC G ?AO) ?AQ ?AR ?AS ?AT ?AU ?AV (mg_of dC G ?AW) (mg_of dC G ?AX) (mg_of dC G ?AY) (mg_of dC G ?AZ) ?A0,trivial⟩
  case zN|zO|zP|zQ|zR=>k_is
  case zS=>walk_at "na"
  case zT|zU|zV|zW|zX=>walk_at "dn"
  case zY|zZ=>walk_at "dm"
  case z0|z1|z2|z3|z4|z5=>walk_at "dn"
  case z6=>walk_at "dm"
  case z7|z8|z9|z_=>walk_at "dn"
  case z'|Aa=>walk_at "dm"
  case Ab|Ac|Ad|Ae|Af|Ag|Ah=>k_is
  (case Ai=>exact λs us X aK=>by have aT:us.length=6:=(by simpa using aK);clear aK;revert aT;revert us;exact L2.lenS λ_=>L2.lenS λ_=>L2.lenS λ_=>L2.lenS λ_=>L2.lenS λ_=>L2.ZiI λ_=>binds_K X rfl (by k_is) rfl rfl rfl)
  (case Aj=>exact λs us X aK=>by have aT:us.length=5:=(by simpa using aK);clear aK;revert aT;revert us;exact L2.lenS λ_=>L2.lenS λ_=>L2.lenS λ_=>L2.lenS λ_=>L2.ZiI λ_=>binds_K X rfl (by k_is) rfl rfl rfl)
  case Ak=>walk_at "dm"
  case Al=>walk_at "dn"
  case Am=>walk_at "di"
  case An|Ao|Ap|Aq|Ar|As|Au|Av|Aw|Ax|Ay|Az|AA|AB|AC|AD=>walk_at "dn"
  case AE|AF|AG|AH|AI|AJ|AK|AL|AM|AN|AO=>k_is
  case AQ|AR|AS|AT|AU|AV=>walk_at "ex"
  case AW|AX|AY|AZ=>k_is
  case A0=>exact λs v=> .of_eq rfl
#print axioms PySem.Challenge.cw_ratehall_k31_halls_and_forms_written_holds
